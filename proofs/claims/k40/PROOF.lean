import PyProof.Rows.All
import Wide.All
import OpenK.AllK
import Wide.FinOn
import Lean
import PyProof.EqAt
import PyProof.EqKinds
import PyProof.TupleCall
import PySem.Challenge.RW_mixbench_k40_what_is_no_part
set_option Elab.async false
set_option linter.all false
set_option maxRecDepth 100000
namespace L2
open PySem PySem.Spec PyProof.Rows
noncomputable abbrev Key:=Sum Int Str
noncomputable def h9c:Key->Value->Bool
 | .inl k,v=>Value.isInt k v
 | .inr x,v=>Value.isStrOf x v
noncomputable def keyH(w:World):Key->Int
 | .inl k=>hashInt k
 | .inr x=>hashStr w x
theorem a7v:∀ {k:Key} {v:Value},h9c k v=true->(∃ i t,k=Sum.inl i/\v=Value.int i t)\/(∃ x t,k=Sum.inr x/\v=Value.str x t)
 | .inl i,v,h=>by
  obtain⟨t,e⟩:=Value.isInt_shape (k:=i) (v:=v) h
  exact .inl ⟨i,t,rfl,e⟩
 | .inr x,v,h=>by
  obtain⟨t,e⟩:=Value.isStrOf_shape (x:=x) (v:=v) h
  exact .inr ⟨x,t,rfl,e⟩
theorem h9d(a b:Int):decide ((Sum.inl a:Key)=Sum.inl b)=(a == b):=by
 by_cases e:a=b
 ·subst e; simp
 ·have h:¬ (Sum.inl a:Key)=Sum.inl b:=fun q=>e (Sum.inl.inj q)
  rw [decide_eq_false h]
  exact (beq_eq_false_iff_ne.mpr e).symm
theorem h9e(a b:Str):decide ((Sum.inr a:Key)=Sum.inr b)=decide (a=b):=by
 by_cases e:a=b
 ·subst e; simp
 ·have h:¬ (Sum.inr a:Key)=Sum.inr b:=fun q=>e (Sum.inr.inj q)
  rw [decide_eq_false h,decide_eq_false e]
theorem h9f(a:Int)(b:Str):decide ((Sum.inl a:Key)=Sum.inr b)=false:=decide_eq_false (fun q=>nomatch q)
theorem h9g(a:Str)(b:Int):decide ((Sum.inr a:Key)=Sum.inl b)=false:=decide_eq_false (fun q=>nomatch q)
noncomputable def g7k(prog:Program)(w:World):PySem.KeyKind prog w Key where
 is:=h9c
 hash:=keyH w
 inj:=fun v a b ha hb=>by
  rcases a7v ha with ⟨i,t,rfl,rfl⟩ | ⟨x,t,rfl,rfl⟩
  ·rcases a7v hb with ⟨j,u,rfl,e⟩ | ⟨y,u,rfl,e⟩
   ·injection e with e1 _; rw [e1]
   ·exact nomatch e
  ·rcases a7v hb with ⟨j,u,rfl,e⟩ | ⟨y,u,rfl,e⟩
   ·exact nomatch e
   ·injection e with e1 _; rw [e1]
 byValue:=fun k v h=>by
  rcases a7v h with ⟨i,t,rfl,rfl⟩ | ⟨x,t,rfl,rfl⟩ <;> rfl
 pyHash:=fun hv h=>by
  rcases a7v hv with ⟨i,t,rfl,rfl⟩ | ⟨x,t,rfl,rfl⟩
  ·exact wpAny_pyHash_int h
  ·exact wpAny_pyHash_str h
 eqBool:=fun hu hv h=>by
  rcases a7v hu with ⟨i,t,rfl,rfl⟩ | ⟨x,t,rfl,rfl⟩
  ·rcases a7v hv with ⟨j,u,rfl,rfl⟩ | ⟨y,u,rfl,rfl⟩
   ·rw [h9d] at h; exact wpAny_eqBool_int h
   ·rw [h9f] at h; exact SeqAt.EqAt.int_str i t y u _ _ _ _ h
  ·rcases a7v hv with ⟨j,u,rfl,rfl⟩ | ⟨y,u,rfl,rfl⟩
   ·rw [h9g] at h; exact SeqAt.EqAt.str_int x t j u _ _ _ _ h
   ·rw [h9e] at h; exact wpAny_eqBool_str h
 «strs» := fun k x t v h => by
  rcases a7v h with ⟨i,u,rfl,e⟩ | ⟨y,u,rfl,e⟩
  ·exact nomatch e
  ·injection e with e1 _
   subst e1
   cases v <;> rfl
end L2
namespace L2
open PySem PySem.Spec PyProof.Rows
inductive V where
 | non | bl (b:Bool) | int (i:Int) | str (x:Str) | byt (b:Array UInt8) | flt (b:UInt64) | ref (a:Addr) | ty (n:String)
 deriving DecidableEq
noncomputable def RelV:V->Value->Prop
 | .non,u=>u=Value.none
 | .bl b,u=>u=Value.bool b
 | .int i,u=>∃ t,u=Value.int i t
 | .str x,u=>∃ t,u=Value.str x t
 | .byt b,u=>∃ t,u=Value.bytes b t
 | .flt b,u=>∃ t,u=Value.float b t
 | .ref a,u=>u=Value.ref a
 | .ty n,u=>u=Value.type n
noncomputable abbrev Vals:List V->List Value->Prop:=Paired RelV
theorem Vals.length{xs:List V}{us:List Value}(r:Vals xs us):xs.length=us.length:=Paired.length r
theorem Vals.get:∀ {xs:List V} {us:List Value} {i:Nat} {x:V},Vals xs us->xs[i]? = some x->∃ u,us[i]? = some u/\RelV x u
 | _,_,_,_,.nil,e=>by simp at e
 | _,_,0,_,.cons r _,e=>by simp at e; subst e; exact⟨_,rfl,r⟩
 | _,_,i+1,x,.cons _ t,e=>by
  obtain⟨u,h1,h2⟩:=Vals.get (i:=i) (x:=x) t (by simpa using e)
  exact⟨u,by simpa using h1,h2⟩
theorem Vals.set{x:V}{u:Value}(r:RelV x u):∀ {xs:List V} {us:List Value} (i:Nat),Vals xs us->Vals (xs.set i x) (us.set i u)
 | _,_,_,.nil=>.nil
 | _,_,0,.cons _ t=>.cons r t
 | _,_,i+1,.cons q t=>.cons q (Vals.set r i t)
theorem Vals.append:∀ {xs ys:List V} {us ws:List Value},Vals xs us->Vals ys ws->Vals (xs++ys) (us++ws)
 | _,_,_,_,.nil,s=>s
 | _,_,_,_,.cons r t,s=>.cons r (Vals.append t s)
theorem Vals.take:∀ {xs:List V} {us:List Value} (n:Nat),Vals xs us->Vals (xs.take n) (us.take n)
 | _,_,0,_=>.nil
 | _,_,_+1,.nil=>.nil
 | _,_,n+1,.cons r t=>.cons r (Vals.take n t)
theorem Vals.drop:∀ {xs:List V} {us:List Value} (n:Nat),Vals xs us->Vals (xs.drop n) (us.drop n)
 | _,_,0,r=>r
 | _,_,_+1,.nil=>.nil
 | _,_,n+1,.cons _ t=>Vals.drop n t
noncomputable def g7e:Option V->Option Value->Prop
 | some v,some u=>RelV v u
 | none,none=>True
 | _,_=>False
noncomputable def KV{κ:Type}:List (κ×V)->List (κ×Value)->Prop:=Paired fun (p:κ×V) (q:κ×Value)=>p.1=q.1/\RelV p.2 q.2
noncomputable def kV:Key->V
 | .inl i=>.int i
 | .inr x=>.str x
inductive HO where
  | lst (xs:List V)
  | tup (xs:List V)
  | dK (kvs:List (Key×V)) | dT (kvs:List (List Key×V))
  | set (S:Int->Bool) (n:Nat)
  | ins (C dx:Addr) (fs:List (Str×V))
  | own (x:Addr)
  | xd (fs:List (Str×V))
  | met (f x:Addr)
  | rng (lo hi:Int)
  | frz (o:Obj) (u:HO)
  | tbl (ps:Array Value)
  | ext (φ:Heap->Prop)
noncomputable abbrev Hp:=Addr->Option HO
noncomputable def upd(H:Hp)(a:Addr)(o:HO):Hp:=fun b=>if b=a then some o else H b
theorem a5j{H:Hp}{a:Addr}{o:HO}:upd H a o a=some o:=by unfold upd; rw [if_pos rfl]
theorem a4v{H:Hp}{a b:Addr}{o:HO}(h:b≠a):upd H a o b=H b:=by unfold upd; rw [if_neg h]
theorem a6l{H:Hp}{a b:Addr}{o:HO}(h:H a=some o)(h':H b=none):a≠b:=by
 intro e; subst e; rw [h] at h'; cases h'
section
variable (P:Program)(w:World)
noncomputable def b8y(H:Hp)(h:Heap)(a:Addr):HO->Prop
 | .lst xs => xs.length ≤ sizeLine ∧ ∃ (its : List Value) (n : Nat), Vals xs its ∧ h.get? a = some { cls := .type "list", data := .seq its.toArray n }
 | .tup xs=>xs.length<=sizeLine/\∃ its:List Value,Vals xs its/\IsTup h a its.toArray
 | .dK kvs=>kvs.length<=sizeLine/\(a == sysModules)=false/\∃ vs,KV kvs vs/\h.DictOf (g7k P w) a vs
 | .dT kvs=>kvs.length<=sizeLine/\(a == sysModules)=false/\∃ xs:List (List Key×Addr×Value),
   Paired (fun (p:List Key×V) (q:List Key×Addr×Value)=>p.1=q.1/\H q.2.1=some (.tup (p.1.map kV))/\RelV p.2 q.2.2) kvs xs /\
   ∃ o es ep,h.get? a=some o/\o.ExactDict/\o.data = .dict es ep/\es.toList=xs.map (entryOfKey (tupleKind (g7k P w)))/\(xs.map (·.1)).Nodup
 | .set S n=>h.SetOf (intKind P w) a S n
 | .ins C dx fs=>H dx=some (.own a)/\fs.length<=1000/\dx≠a/\h.get? a=some (PySem.W.instObj C dx) /\
   ∃ mA,h.Ns1 dx mA/\(∀ f,g7e (fs.lookup f) (mA f))/\PySem.Within mA (fs.map (·.1))
 | .own _=>∃ o,h.get? a=some o
 | .xd fs=>∃ mA,h.Ns1 a mA/\∀ f,g7e (fs.lookup f) (mA f)
 | .rng lo hi => ∃ t u v, h.get? a = some { cls := .type "range", data := .fields #[.int lo t, .int hi u, .int 1 v] }
 | .frz o u=>h.get? a=some o/\b8y H h a u
 | .tbl ps=>h.get? a=some { cls:=.none,data:=.fields ps }
 | .met f x=>h.get? a=some (PySem.W.methodObj (.ref f) (.ref x))
 | .ext φ=>φ h/\(∃ o,h.get? a=some o)/\∀ h1 h2:Heap,φ h1->(∀ o,h1.get? a=some o->h2.get? a=some o)->φ h2
def HOk(H:Hp)(h:Heap):Prop:=∀ a o,H a=some o->b8y P w H h a o
end
section
variable {P:Program}{w:World}{H H':Hp}{h h':Heap}{a:Addr}{o:HO}
theorem b8y.lt(x:b8y P w H h a o):a < h.objs.size:=by
 cases o with
 | lst xs=>obtain⟨_,_,_,_,e⟩:=x; exact Heap.lt_size e
 | tup xs=>obtain⟨_,_,_,p⟩:=x; exact p.lt
 | dK kvs=>obtain⟨_,_,_,_,o,_,_,e,_⟩:=x; exact Heap.lt_size e
 | dT kvs=>obtain⟨_,_,_,_,o,_,_,e,_⟩:=x; exact Heap.lt_size e
 | set S n=>obtain⟨o,_,_,_,e,_⟩:=x; exact Heap.lt_size e
 | ins C dx fs=>obtain⟨_,_,_,e,_⟩:=x; exact Heap.lt_size e
 | own y=>obtain⟨_,e⟩:=x; exact Heap.lt_size e
 | xd fs=>obtain⟨_,⟨_,_,_,e,_⟩,_⟩:=x; exact Heap.lt_size e
 | rng lo hi=>obtain⟨_,_,_,e⟩:=x; exact Heap.lt_size e
 | frz ob u=>obtain⟨e,_⟩:=x; exact Heap.lt_size e
 | tbl ps=>exact Heap.lt_size (show h.get? a=some _ from x)
 | met f y=>exact Heap.lt_size (show h.get? a=some _ from x)
 | ext φ=>obtain⟨_,⟨_,e⟩,_⟩:=x; exact Heap.lt_size e
theorem Paired.i7z{α β:Type}{F G:α->β->Prop}:∀ {l₁:List α} {l₂:List β},Paired F l₁ l₂->(∀ a b,F a b->G a b)->Paired G l₁ l₂
 | _,_,.nil,_=>.nil
 | _,_,.cons r t,f=>.cons (f _ _ r) (Paired.i7z t f)
theorem b8y.stay(x:b8y P w H h a o)(k:∀ b u,(b=a\/H b=some (.own a))->h.get? b=some u->h'.get? b=some u)
  (ho:∀ b,H b=some (.own a)->H' b=some (.own a)) (ht:∀ b xs,H b=some (.tup xs)->H' b=some (.tup xs)):b8y P w H' h' a o:=by
 induction o with
 | lst xs=>obtain⟨z,its,n,r,e⟩:=x; exact⟨z,its,n,r,k _ _ (.inl rfl) e⟩
 | tup xs=>obtain⟨z,its,r,ob,e,c⟩:=x; exact⟨z,its,r,ob,k _ _ (.inl rfl) e,c⟩
 | dK kvs=>obtain⟨z,y,vs,r,ob,es,ep,e,c⟩:=x; exact⟨z,y,vs,r,ob,es,ep,k _ _ (.inl rfl) e,c⟩
 | dT kvs =>
  obtain⟨z,y,xs,r,ob,es,ep,e,c⟩:=x
  exact⟨z,y,xs,Paired.i7z r fun p q z=>⟨z.1,ht _ _ z.2.1,z.2.2⟩,ob,es,ep,k _ _ (.inl rfl) e,c⟩
 | set S n=>obtain⟨ob,es,ep,t,e,c⟩:=x; exact⟨ob,es,ep,t,k _ _ (.inl rfl) e,c⟩
 | ins C dx fs =>
  obtain⟨d,z,ne,e,mA,⟨od,es,ep,e2,c⟩,r⟩:=x
  exact⟨ho _ d,z,ne,k _ _ (.inl rfl) e,mA,⟨od,es,ep,k _ _ (.inr d) e2,c⟩,r⟩
 | own y=>obtain⟨ob,e⟩:=x; exact⟨ob,k _ _ (.inl rfl) e⟩
 | xd fs=>obtain⟨mA,⟨od,es,ep,e,c⟩,r⟩:=x; exact⟨mA,⟨od,es,ep,k _ _ (.inl rfl) e,c⟩,r⟩
 | rng lo hi=>obtain⟨t,u,v,e⟩:=x; exact⟨t,u,v,k _ _ (.inl rfl) e⟩
 | frz ob u ih=>obtain⟨e,q⟩:=x; exact⟨k _ _ (.inl rfl) e,ih q⟩
 | tbl ps =>
  have e:h.get? a=some { cls:=.none,data:=.fields ps }:=x
  show h'.get? a=some { cls:=.none,data:=.fields ps }
  exact k a _ (.inl rfl) e
 | met f y =>
  have e:h.get? a=some (PySem.W.methodObj (.ref f) (.ref y)):=x
  show h'.get? a=some (PySem.W.methodObj (.ref f) (.ref y))
  exact k a _ (.inl rfl) e
 | ext φ=>obtain⟨p,⟨o,e⟩,st⟩:=x; exact⟨st _ _ p fun o q=>k _ _ (.inl rfl) q,⟨o,k _ _ (.inl rfl) e⟩,st⟩
theorem HOk.lt(x:HOk P w H h)(e:H a=some o):a < h.objs.size:=(x a o e).lt
theorem HOk.fresh(x:HOk P w H h)(e:h.objs.size<=a):H a=none:=by
 cases q:H a with
 | none=>rfl
 | some u=>exact absurd (Nat.lt_of_lt_of_le (x.lt q) e) (Nat.lt_irrefl _)
theorem HOk.kept(x:HOk P w H h)(k:∀ b u,h.get? b=some u->h'.get? b=some u):HOk P w H h':=fun a o e =>
 (x a o e).stay (fun b u _ q=>k b u q) (fun _ q=>q) fun _ _ q=>q
theorem HOk.laid(x:HOk P w H h)(k:∀ b u,h.get? b=some u->h'.get? b=some u)(hp:h.objs.size<=a)(new:b8y P w (upd H a o) h' a o):HOk P w (upd H a o) h':=fun b u e=>by
 have hn:=x.fresh hp
 by_cases hb:b=a
 ·subst hb; rw [a5j] at e; cases e; exact new
 ·rw [a4v hb] at e
  exact (x b u e).stay (fun c v _ q=>k c v q) (fun c q=>by rw [a4v (a6l q hn)]; exact q) fun c xs q=>by rw [a4v (a6l q hn)]; exact q
end
def Rd(H:Hp)(a:Addr)(u:HO):Prop:=H a=some u\/∃ o,H a=some (.frz o u)
theorem Rd.ok{P:Program}{w:World}{H:Hp}{h:Heap}{a:Addr}{u:HO}(r:Rd H a u)(x:HOk P w H h):b8y P w H h a u:=by
 rcases r with r | ⟨o,r⟩
 ·exact x a u r
 ·obtain⟨_,q⟩:=x a _ r
  exact q
noncomputable def Mut:Option HO->Prop
 | some (.lst _)=>True
 | some (.dK _)=>True
 | some (.dT _)=>True
 | some (.set _ _)=>True
 | some (.ins _ _ _)=>True
 | some (.ext _)=>True
 | _=>False
section
variable {P:Program}{w:World}{H:Hp}{h h':Heap}{x e:Addr}{o':HO}
theorem HOk.write(ok:HOk P w H h)(mu:Mut (H x))(he:e=x\/H e=some (.own x))(k:∀ b u,b≠e->h.get? b=some u->h'.get? b=some u)(heo:∃ u,h'.get? e=some u)
  (new:b8y P w (upd H x o') h' x o'):HOk P w (upd H x o') h':=fun b u q=>by
 have i8a:∀ c y,H c=some (.own y)->c≠x:=fun c y r z=>by subst z; rw [r] at mu; exact mu
 have ntup:∀ c xs,H c=some (.tup xs)->c≠x:=fun c xs r z=>by subst z; rw [r] at mu; exact mu
 by_cases hb:b=x
 ·subst hb; rw [a5j] at q; cases q; exact new
 ·rw [a4v hb] at q
  by_cases hbe:b=e
  ·have q':H b=some (.own x):=by
    rcases he with z | z
    ·exact absurd (hbe.trans z) hb
    ·rw [hbe]; exact z
   rw [q] at q'; cases q'
   obtain⟨v,hv⟩:=heo
   exact⟨v,by rw [hbe]; exact hv⟩
  ·refine (ok b u q).stay (fun c v hc r=>k c v ?_ r) (fun c r=>by rw [a4v (i8a c b r)]; exact r) fun c xs r=>by rw [a4v (ntup c xs r)]; exact r
   rcases hc with rfl | hc
   ·exact hbe
   ·rintro rfl
    rcases he with z | z
    ·exact i8a c b hc z
    ·rw [hc] at z; cases z; exact hb rfl
end
structure Un(fs ex:List Addr)(H H':Hp)(h h':Heap):Prop where
 keep:∀ b o,h.get? b=some o->H b=none->b∉fs->b∉ex->h'.get? b=some o
 slot:∀ b o,h.get? b=some o->H b=none->b∈fs->b∉ex->∃ sl,h'.get? b=some { o with slots:=sl }
 free:∀ b o,h.get? b=some o->H b=none->b∉ex->H' b=none
 there:∀ b o,h.get? b=some o->b∉ex->∃ o',h'.get? b=some o'
 tups:∀ b xs,H b=some (.tup xs)->H' b=some (.tup xs)
 f7v:∀ b o u,H b=some (.frz o u)->H' b=some (.frz o u)
 f7y:∀ b ps,H b=some (.tbl ps)->∃ more,H' b=some (.tbl (ps++more))
section
variable {fs fs' ex ex':List Addr}{H H1 H2:Hp}{h h1 h2 h':Heap}{a x e:Addr}{o:HO}
theorem Un.any(u:Un fs ex H H1 h h1){b:Addr}{ob:Obj}(q:h.get? b=some ob)(n:H b=none)(hx:b∉ex):∃ sl,h1.get? b=some { ob with slots:=sl }:=by
 by_cases hb:b∈fs
 ·exact u.slot b ob q n hb hx
 ·exact⟨ob.slots,u.keep b ob q n hb hx⟩
theorem Un.trans(a:Un fs ex H H1 h h1)(b:Un fs ex H1 H2 h1 h2):Un fs ex H H2 h h2 where
 keep:=fun c ob q n hc hx=>b.keep c ob (a.keep c ob q n hc hx) (a.free c ob q n hx) hc hx
 slot:=fun c ob q n hc hx=>by
  obtain⟨sl,e1⟩:=a.slot c ob q n hc hx
  obtain⟨sl',e2⟩:=b.slot c _ e1 (a.free c ob q n hx) hc hx
  exact⟨sl',e2⟩
 free:=fun c ob q n hx=>by
  obtain⟨o',e1⟩:=a.there c ob q hx
  exact b.free c o' e1 (a.free c ob q n hx) hx
 there:=fun c ob q hx=>by
  obtain⟨o',e1⟩:=a.there c ob q hx
  exact b.there c o' e1 hx
 tups:=fun c xs q=>b.tups c xs (a.tups c xs q)
 f7v:=fun c ob xs q=>b.f7v c ob xs (a.f7v c ob xs q)
 f7y:=fun c ps q=>by
  obtain⟨m1,e1⟩:=a.f7y c ps q
  obtain⟨m2,e2⟩:=b.f7y c _ e1
  exact⟨m1++m2,by rw [e2,Array.append_assoc]⟩
theorem Un.kept(k:∀ b u,h.get? b=some u->h'.get? b=some u):Un fs ex H H h h' :=
 ⟨fun b ob q _ _ _=>k b ob q,fun b ob q _ _ _=>⟨ob.slots,k b ob q⟩,fun _ _ _ n _=>n,fun b ob q _=>⟨ob,k b ob q⟩,fun _ _ q=>q,fun _ _ _ q=>q,fun _ ps q=>⟨#[],by rw [q]; simp⟩⟩
theorem Un.refl:Un fs ex H H h h:=Un.kept fun _ _ q=>q
theorem Un.laid(k:∀ b u,h.get? b=some u->h'.get? b=some u)(hp:h.objs.size<=a)(hn:H a=none):Un fs ex H (upd H a o) h h' where
 keep:=fun b u q _ _ _=>k b u q
 slot:=fun b u q _ _ _=>⟨u.slots,k b u q⟩
 free:=fun b u q n _=>by rw [a4v (Nat.ne_of_lt (Nat.lt_of_lt_of_le (Heap.lt_size q) hp))]; exact n
 there:=fun b u q _=>⟨u,k b u q⟩
 tups:=fun b xs q=>by rw [a4v (a6l q hn)]; exact q
 f7v:=fun b u xs q=>by rw [a4v (a6l q hn)]; exact q
 f7y:=fun b ps q=>⟨#[],by rw [a4v (a6l q hn),q]; simp⟩
theorem Un.write(mu:Mut (H x))(he:e=x\/H e=some (.own x))(k:∀ b u,b≠e->h.get? b=some u->h'.get? b=some u)(heo:∃ u,h'.get? e=some u):Un fs ex H (upd H x o) h h':=by
 have hx:∀ b,H b=none->b≠x:=fun b n z=>by subst z; rw [n] at mu; exact mu
 have hb:∀ b,H b=none->b≠e:=fun b n z=>by
  subst z
  rcases he with r | r
  ·exact hx b n r
  ·rw [n] at r; cases r
 have hm:∀ b u,H b=some u->¬ Mut (some u)->b≠x:=fun b u q nm z=>by subst z; rw [q] at mu; exact nm mu
 refine⟨fun b u q n _ _=>k b u (hb b n) q,fun b u q n _ _=>⟨u.slots,k b u (hb b n) q⟩,fun b u q n _=>by rw [a4v (hx b n)]; exact n,fun b u q _=>?_,
  fun b xs q=>by rw [a4v (hm b _ q fun z=>z)]; exact q,fun b u xs q=>by rw [a4v (hm b _ q fun z=>z)]; exact q,fun b ps q=>⟨#[],by rw [a4v (hm b _ q fun z=>z),q]; simp⟩⟩
 by_cases hbe:b=e
 ·subst hbe; exact heo
 ·exact⟨u,k b u hbe q⟩
end
noncomputable def trk(h:Heap)(H:Hp):List Addr:=(List.range h.objs.size).filter fun a=>(H a).isSome
noncomputable def h1l(h:Heap)(H:Hp):Heap:=PySem.W.hideAll h (trk h H)
theorem g7l(h:Heap)(H:Hp):(h1l h H).objs.size=h.objs.size:=PySem.W.hideAll_size _ _
theorem h1n{h:Heap}{H:Hp}{b:Addr}{o:Obj}(e:h.get? b=some o)(n:H b=none):(h1l h H).get? b=some o :=
 PySem.W.hideAll_get _ e fun hm=>by
  have q:(H b).isSome=true:=(List.mem_filter.mp hm).2
  rw [n] at q; simp at q
theorem h5t{h:Heap}{H:Hp}{b:Addr}{o:Obj}(e:(h1l h H).get? b=some o):h.get? b=some o/\H b=none:=by
 have e':h.get? b=some o:=PySem.W.of_hideAll (trk h H) e
 refine⟨e',?_⟩
 cases q:H b with
 | none=>rfl
 | some x =>
  have hm:b∈trk h H:=List.mem_filter.mpr ⟨List.mem_range.mpr (Heap.lt_size e'),by simp [q]⟩
  have z:(h1l h H).get? b=none:=PySem.W.hideAll_none (trk h H) hm
  rw [z] at e; cases e
noncomputable def h5u(g h:Heap)(L:Addr):List (Addr×Obj):=(List.range h.objs.size).filterMap fun a=>if a=L\/(g.get? a).isSome=true then none else (h.get? a).map fun o=>(a,o)
noncomputable def rest(g h:Heap)(L d:Addr):List (Addr×Obj):=(h5u g h L).filter fun p=>decide (p.1≠d)
end L2
namespace L2
open PySem PySem.Spec PyProof.Rows
structure Mod(K:PySem.W.Frag)(mg:Str->Option Value)(base:Heap):Prop where
 kin:K.In base
 glob:base.Ns mainGlobals mg
 blt : ∃ mb, base.Ns builtinsNs mb ∧ ∀ x : Str, x ≠ "__name__" → mb x = bootBuiltins x
 nolimit:base.NoLimit
structure Cx where
 prog:Program
 w:World
 K:PySem.W.Frag
 mg:Str->Option Value
 base:Heap
 A:Around
 N:List Str
 s₀:Shared
 H₀:Hp
 env:Env
 outer:List Env
 stack:List Env
 ex:List Addr
 fn:Str->Bool
 calm:Bool
 pn:List (Addr×Obj)
 xe:Value->Shared->Prop
noncomputable def frs(l:List Env):List Addr:=l.filterMap (·.frame)
noncomputable abbrev Cx.fs(X:Cx):List Addr:=frs X.outer
def Vis(sc:Scope)(x:Str):Prop:=sc.names.lookup x=some .local\/sc.names.lookup x=some .cell\/sc.names.lookup x=some .free
def Loc(sc:Scope)(x:Str):Prop:=sc.names.lookup x=some .local\/sc.names.lookup x=some .cell
def Look(env:Env)(h:Heap)(m:Str->Option Value)(x:Str)(u:Value):Prop :=
 (env.kindOf x=some .local/\m x=some u)\/((env.kindOf x=some .cell\/env.kindOf x=some .free)/\∃ c,env.cells.lookup x=some c/\h.IsCell c (some u))
structure Cx.Ok(X:Cx):Prop where
 mod:Mod X.K X.mg X.base
 kind:X.env.scope.kind = .function
 glob:X.env.globals=mainGlobals
 blt:X.env.builtins=builtinsNs
 above:X.s₀.heap.objs.size<=X.env.locals
 inj:∀ x y c,X.env.cells.lookup x=some c->X.env.cells.lookup y=some c->x=y
 has:∀ x,(X.env.kindOf x=some .cell\/X.env.kindOf x=some .free)->∃ c,X.env.cells.lookup x=some c
 cab:∀ x c,X.fn x=true->X.env.cells.lookup x=some c->X.s₀.heap.objs.size<=c
 hd:X.calm=true->X.A.handled=none
 frames:X.A.frames=some X.stack
 stk:X.stack=X.outer\/(X.stack=X.env :: X.outer/\X.env.frame=some X.env.locals)
 exf:∀ b∈X.ex,b≠X.env.locals/\∀ x c,X.env.cells.lookup x=some c->c≠b
 bs:∀ b o,X.base.get? b=some o->X.s₀.heap.get? b=some o/\X.H₀ b=none
 bsz:X.base.objs.size<=X.s₀.heap.objs.size
 h5v:∀ b o,X.base.get? b=some o->b∉X.ex
 h9h:∀ b∈X.ex,b∉X.fs
 g5b:X.s₀.heap.FunFrames X.base X.outer
 frf:∀ b∈X.fs,X.H₀ b=none
structure Inv(X:Cx)(pins:List (Addr×Obj))(σ:List (Option V))(H:Hp)(s:Shared):Prop where
 ok:X.Ok
 os:s.os=X.s₀.os
 bare:AllBare s.gens
 base:Un X.fs X.ex X.H₀ H X.s₀.heap s.heap
 loc:∃ m,s.heap.Ns X.env.locals m/\∀ (i:Nat) (x:Str) (v:V),X.N[i]? = some x->σ[i]? = some (some v)->Vis X.env.scope x->∃ u,RelV v u/\Look X.env s.heap m x u
 cell:∀ x c,X.env.cells.lookup x=some c->∃ v,s.heap.IsCell c v
 free:H X.env.locals=none
 d1k:∀ x c,X.env.cells.lookup x=some c->H c=none
 pin:∀ p∈X.pn++pins,s.heap.get? p.1=some p.2/\H p.1=none/\p.1≠X.env.locals/\p.1∉X.fs/\∀ v,p.2.data≠.cell v
 hok:HOk X.prog X.w H s.heap
 len:σ.length=X.N.length
section
variable {X:Cx}{pins:List (Addr×Obj)}{σ:List (Option V)}{H H':Hp}{s:Shared}{h':Heap}
theorem Cx.Ok.nofr(ok:X.Ok){b:Addr}{o:Obj}(e:X.base.get? b=some o):b∉X.fs:=fun hb=>by
 have:=(ok.g5b.mem hb).1
 rw [e] at this; cases this
theorem Inv.bs(I:Inv X pins σ H s):∀ b o,X.base.get? b=some o->s.heap.get? b=some o/\H b=none:=fun b o e =>
 ⟨I.base.keep b o (I.ok.bs b o e).1 (I.ok.bs b o e).2 (I.ok.nofr e) (I.ok.h5v b o e),I.base.free b o (I.ok.bs b o e).1 (I.ok.bs b o e).2 (I.ok.h5v b o e)⟩
theorem Inv.bk(I:Inv X pins σ H s):∀ b o,X.base.get? b=some o->s.heap.get? b=some o:=fun b o e=>(I.bs b o e).1
theorem Inv.mod(I:Inv X pins σ H s):Mod X.K X.mg X.base:=I.ok.mod
theorem Inv.kIn(I:Inv X pins σ H s):X.K.In s.heap:=I.ok.mod.kin.keeps I.bk
theorem Inv.lt(I:Inv X pins σ H s):X.env.locals < s.heap.objs.size:=let ⟨_,hn,_⟩:=I.loc; hn.lt
theorem Inv.sz(I:Inv X pins σ H s):X.s₀.heap.objs.size<=s.heap.objs.size:=Nat.le_trans I.ok.above (Nat.le_of_lt I.lt)
theorem Inv.nofs(I:Inv X pins σ H s){a:Addr}(h:s.heap.objs.size<=a):a∉X.fs:=fun hb=>by
 obtain⟨_,o,ho,_⟩:=I.ok.g5b.mem hb
 exact absurd (Nat.lt_of_lt_of_le (Heap.lt_size ho) (Nat.le_trans I.sz h)) (Nat.lt_irrefl _)
theorem Inv.cne(I:Inv X pins σ H s):∀ x c,X.env.cells.lookup x=some c->c≠X.env.locals:=fun x c e z=>by
 obtain⟨v,o,ho,hd⟩:=I.cell x c e
 obtain⟨m,⟨o',es,ep,ho',hd',_⟩,_⟩:=I.loc
 rw [z,ho'] at ho; cases ho; rw [hd'] at hd; cases hd
theorem Inv.g5b(I:Inv X pins σ H s):s.heap.FunFrames X.base X.outer:=by
 have all:∀ (l:List Env),(∀ b∈frs l,b∈X.fs)->X.s₀.heap.FunFrames X.base l->s.heap.FunFrames X.base l:=by
  intro l
  induction l with
  | nil=>intro _ _; trivial
  | cons env r ih =>
   intro hs hl
   obtain⟨hk,⟨L,o,hf,hn,ho,hd⟩,hr⟩:=hl
   have hL:L∈X.fs:=hs L (by unfold frs; rw [List.filterMap_cons,hf]; exact List.mem_cons_self)
   obtain⟨sl,e⟩:=I.base.slot L o ho (I.ok.frf L hL) hL fun z=>I.ok.h9h L z hL
   exact⟨hk,⟨L,_,hf,hn,e,hd⟩,ih (fun b hb=>hs b (by unfold frs; rw [List.filterMap_cons,hf]; exact List.mem_cons_of_mem _ hb)) hr⟩
 exact all X.outer (fun _ hb=>hb) I.ok.g5b
theorem Inv.stack(I:Inv X pins σ H s):s.heap.FunFrames X.base X.stack:=by
 rcases I.ok.stk with e | ⟨e,hf⟩
 ·rw [e]; exact I.g5b
 ·rw [e]
  obtain⟨m,hn,_⟩:=I.loc
  refine .cons (by rw [I.ok.kind]; decide) hf hn ?_ I.g5b
  exact Heap.get?_none_of_le (Nat.le_trans I.ok.bsz I.ok.above)
theorem Inv.d8j(I:Inv X pins σ H s):∀ b∈frs X.stack,b∈X.env.locals :: X.fs:=fun b hb=>by
 rcases I.ok.stk with e | ⟨e,hf⟩
 ·rw [e] at hb; exact List.mem_cons_of_mem _ hb
 ·rw [e] at hb
  unfold frs at hb
  rw [List.filterMap_cons,hf] at hb
  exact hb
theorem Inv.f5h(I:Inv X pins σ H s):∀ b∈frs X.stack,H b=none:=fun b hb=>by
 rcases List.mem_cons.mp (I.d8j b hb) with e | hb
 ·rw [e]; exact I.free
 ·obtain⟨_,o,ho,_⟩:=I.ok.g5b.mem hb
  exact I.base.free b o ho (I.ok.frf b hb) fun z=>I.ok.h9h b z hb
theorem Inv.step{g':Array GenState}{t':Nat}{d':Drawn}{ch:List Addr}(I:Inv X pins σ H s)
  (hch:∀ b∈ch,(b∈X.ex\/X.s₀.heap.objs.size<=b)/\b≠X.env.locals/\(∀ x c,X.env.cells.lookup x=some c->c≠b)/\∀ p∈X.pn++pins,p.1≠b)
  (keep:∀ b o,b≠X.env.locals->b∉X.fs->b∉ch->s.heap.get? b=some o->H b=none->h'.get? b=some o)
  (slot:∀ b o,b≠X.env.locals->b∈X.fs->b∉ch->s.heap.get? b=some o->H b=none->∃ sl,h'.get? b=some { o with slots:=sl }) (free:∀ b o,b∉ch->s.heap.get? b=some o->H b=none->H' b=none)
  (there:∀ b o,b∉ch->s.heap.get? b=some o->∃ o',h'.get? b=some o')
  (tups:∀ b xs,H b=some (.tup xs)->H' b=some (.tup xs)) (f7v:∀ b o u,H b=some (.frz o u)->H' b=some (.frz o u)) (f7y:∀ b ps,H b=some (.tbl ps)->∃ more,H' b=some (.tbl (ps++more)))
  (ns:∀ m,s.heap.Ns X.env.locals m->h'.Ns X.env.locals m) (hok:HOk X.prog X.w H' h') (hg:AllBare g') :
  Inv X pins σ H' { s with heap:=h',gens:=g',drawn:=d',toks:=t' }:=by
 have neL:∀ b o,X.s₀.heap.get? b=some o->b≠X.env.locals:=fun b o e=>Nat.ne_of_lt (Nat.lt_of_lt_of_le (Heap.lt_size e) I.ok.above)
 have neC:∀ b o,X.s₀.heap.get? b=some o->b∉X.ex->b∉ch:=fun b o e hx hb=>by
  rcases (hch b hb).1 with z | z
  ·exact hx z
  ·exact absurd (Nat.lt_of_lt_of_le (Heap.lt_size e) z) (Nat.lt_irrefl _)
 have cellK:∀ x c,X.env.cells.lookup x=some c->∀ v,s.heap.IsCell c v->h'.IsCell c v:=fun x c e v ⟨o,ho,hd⟩=>by
  have nch:c∉ch:=fun z=>(hch c z).2.2.1 x c e rfl
  by_cases hc:c∈X.fs
  ·obtain⟨sl,q⟩:=slot c o (I.cne x c e) hc nch ho (I.d1k x c e)
   exact⟨_,q,hd⟩
  ·exact⟨o,keep c o (I.cne x c e) hc nch ho (I.d1k x c e),hd⟩
 refine⟨I.ok,I.os,hg,⟨fun b o e n hb hx=>?_,fun b o e n hb hx=>?_,fun b o e n hx=>?_,fun b o e hx=>?_,fun b xs e=>tups b xs (I.base.tups b xs e),fun b o xs e=>f7v b o xs (I.base.f7v b o xs e),fun b ps e=>?_⟩,?_,fun x c e=>?_,?_,fun x c e=>?_,fun p hp=>?_,hok,I.len⟩
 ·exact keep b o (neL b o e) hb (neC b o e hx) (I.base.keep b o e n hb hx) (I.base.free b o e n hx)
 ·obtain⟨sl,e1⟩:=I.base.slot b o e n hb hx
  obtain⟨sl',e2⟩:=slot b _ (neL b o e) hb (neC b o e hx) e1 (I.base.free b o e n hx)
  exact⟨sl',e2⟩
 ·obtain⟨o',e1⟩:=I.base.there b o e hx
  exact free b o' (neC b o e hx) e1 (I.base.free b o e n hx)
 ·obtain⟨o',e1⟩:=I.base.there b o e hx
  exact there b o' (neC b o e hx) e1
 ·obtain⟨m1,e1⟩:=I.base.f7y b ps e
  obtain⟨m2,e2⟩:=f7y b _ e1
  exact⟨m1++m2,by rw [e2,Array.append_assoc]⟩
 ·obtain⟨m,hn,hl⟩:=I.loc
  refine⟨m,ns m hn,fun i x v e1 e2 e3=>?_⟩
  obtain⟨u,r,l⟩:=hl i x v e1 e2 e3
  refine⟨u,r,?_⟩
  rcases l with l | ⟨k,c,e,z⟩
  ·exact .inl l
  ·exact .inr ⟨k,c,e,cellK x c e _ z⟩
 ·obtain⟨v,z⟩:=I.cell x c e
  exact⟨v,cellK x c e v z⟩
 ·obtain⟨m,⟨o,_,_,ho,_⟩,_⟩:=I.loc
  exact free _ o (fun z=>(hch _ z).2.1 rfl) ho I.free
 ·obtain⟨v,o,ho,hd⟩:=I.cell x c e
  exact free c o (fun z=>(hch c z).2.2.1 x c e rfl) ho (I.d1k x c e)
 ·obtain⟨e,n,ne,nf,d⟩:=I.pin p hp
  have nch:p.1∉ch:=fun z=>(hch p.1 z).2.2.2 p hp rfl
  exact⟨keep p.1 p.2 ne nf nch e n,free p.1 p.2 nch e n,ne,nf,d⟩
theorem Inv.un{t':Nat}(I:Inv X pins σ H s)(u:Un X.fs [] H H' s.heap h')(hok:HOk X.prog X.w H' h'):Inv X pins σ H' { s with heap:=h',toks:=t' }:=by
 obtain⟨m,⟨o,es,ep,ho,r⟩,_⟩:=id I.loc
 obtain⟨sl,hL⟩:=u.any ho I.free (by simp)
 exact I.step (g':=s.gens) (d':=s.drawn) (ch:=[]) (fun _ z=>nomatch z) (fun b o _ hb _ e n=>u.keep b o e n hb (by simp)) (fun b o _ hb _ e n=>u.slot b o e n hb (by simp)) (fun b o _ e n=>u.free b o e n (by simp)) (fun b o _ e=>u.there b o e (by simp)) u.tups u.f7v u.f7y (fun m' hm=>by
  obtain⟨o',es',ep',ho',r'⟩:=hm
  rw [ho] at ho'; cases ho'
  exact⟨_,es',ep',hL,r'⟩) hok I.bare
theorem Inv.call{g':Array GenState}{t':Nat}{d':Drawn}{ch:List Addr}(I:Inv X pins σ H s)(u:Un (frs X.stack) ch H H' s.heap h')(hok:HOk X.prog X.w H' h')(hg:AllBare g')
  (hch:∀ b∈ch,(b∈X.ex\/X.s₀.heap.objs.size<=b)/\b≠X.env.locals/\(∀ x c,X.env.cells.lookup x=some c->c≠b)/\∀ p∈X.pn++pins,p.1≠b) :
  Inv X pins σ H' { s with heap:=h',gens:=g',drawn:=d',toks:=t' }:=by
 obtain⟨m,⟨o,es,ep,ho,r⟩,_⟩:=id I.loc
 obtain⟨sl,hL⟩:=u.any ho I.free fun z=>(hch _ z).2.1 rfl
 exact I.step (ch:=ch) hch (fun b o hL hb hc e n=>u.keep b o e n (fun z=>(List.mem_cons.mp (I.d8j b z)).elim hL hb) hc) (fun b o _ _ hc e n=>u.any e n hc) (fun b o hc e n=>u.free b o e n hc) (fun b o hc e=>u.there b o e hc) u.tups u.f7v u.f7y (fun m' hm=>by
  obtain⟨o',es',ep',ho',r'⟩:=hm
  rw [ho] at ho'; cases ho'
  exact⟨_,es',ep',hL,r'⟩) hok hg
theorem Inv.turned{t':Nat}{it:Addr}(I:Inv X pins σ H s)(k:∀ b o,b≠it->s.heap.get? b=some o->h'.get? b=some o)(hn:H it=none)(hL:it≠X.env.locals)
  (h1:it∈X.ex\/X.s₀.heap.objs.size<=it) (h2:∀ x c,X.env.cells.lookup x=some c->c≠it) (h3:∀ p∈X.pn++pins,p.1≠it):Inv X pins σ H { s with heap:=h',toks:=t' }:=by
 have nit:∀ b u,H b=some u->b≠it:=fun b u e z=>by rw [z,hn] at e; cases e
 refine I.step (g':=s.gens) (d':=s.drawn) (ch:=[it]) (fun b hb=>?_) (fun b o _ _ hc e _=>k b o (fun z=>hc (by simp [z])) e) (fun b o _ _ hc e _=>⟨o.slots,k b o (fun z=>hc (by simp [z])) e⟩) (fun _ _ _ _ n=>n)
  (fun b o hc e=>⟨o,k b o (fun z=>hc (by simp [z])) e⟩) (fun _ _ e=>e) (fun _ _ _ e=>e) (fun b ps e=>⟨#[],by rw [e]; simp⟩) (fun m hm=>?_) (fun b u e=>?_) I.bare
 ·have e:b=it:=by simpa using hb
  subst e
  exact⟨h1,hL,h2,h3⟩
 ·obtain⟨o,es,ep,ho,r⟩:=hm
  exact⟨o,es,ep,k _ o (Ne.symm hL) ho,r⟩
 ·refine (I.hok b u e).stay (fun c v hc q=>k c v ?_ q) (fun _ q=>q) fun _ _ q=>q
  rcases hc with z | z
  ·rw [z]; exact nit b u e
  ·exact nit c _ z
theorem Inv.tok(I:Inv X pins σ H s)(t:Nat):Inv X pins σ H { s with toks:=t }:=I.un (h':=s.heap) (t':=t) Un.refl I.hok
theorem Inv.kept{t':Nat}(I:Inv X pins σ H s)(k:∀ b u,s.heap.get? b=some u->h'.get? b=some u):Inv X pins σ H { s with heap:=h',toks:=t' }:=I.un (Un.kept k) (I.hok.kept k)
theorem Inv.laid{a:Addr}{o:HO}{t':Nat}(I:Inv X pins σ H s)(k:∀ b u,s.heap.get? b=some u->h'.get? b=some u)(hp:s.heap.objs.size<=a)(new:b8y X.prog X.w (upd H a o) h' a o) :
  Inv X pins σ (upd H a o) { s with heap:=h',toks:=t' }:=I.un (Un.laid k hp (I.hok.fresh hp)) (I.hok.laid k hp new)
theorem Inv.write{x e:Addr}{o:HO}{t':Nat}(I:Inv X pins σ H s)(mu:Mut (H x))(he:e=x\/H e=some (.own x))(k:∀ b u,b≠e->s.heap.get? b=some u->h'.get? b=some u)(heo:∃ u,h'.get? e=some u)
  (new:b8y X.prog X.w (upd H x o) h' x o):Inv X pins σ (upd H x o) { s with heap:=h',toks:=t' }:=I.un (Un.write mu he k heo) (I.hok.write mu he k heo new)
theorem Inv.g7m{pins':List (Addr×Obj)}(I:Inv X pins σ H s)(h:∀ p∈pins',s.heap.get? p.1=some p.2/\H p.1=none/\p.1≠X.env.locals/\p.1∉X.fs/\∀ v,p.2.data≠.cell v):Inv X pins' σ H s :=
 ⟨I.ok,I.os,I.bare,I.base,I.loc,I.cell,I.free,I.d1k,fun p hp=>(List.mem_append.mp hp).elim (fun z=>I.pin p (List.mem_append_left _ z)) (h p),I.hok,I.len⟩
theorem f5i{N:List Str}(hN:N.Nodup){i j:Nat}{x:Str}(a:N[i]? = some x)(b:N[j]? = some x):i=j:=by
 obtain⟨h1,e1⟩:=List.getElem?_eq_some_iff.mp a
 obtain⟨h2,e2⟩:=List.getElem?_eq_some_iff.mp b
 exact (List.getElem_inj hN).mp (e1.trans e2.symm)
theorem d8k{M:Model}{A:Around}{E:Value->Shared->Prop}{i:Nat}{x:Str}{v:V}{u:Value}{Q:Unit->Shared->Prop}(I:Inv X pins σ H s)(hN:X.N.Nodup)(hi:X.N[i]? = some x)(hx:Loc X.env.scope x)(r:RelV v u)
  (h:∀ s',Inv X pins (σ.set i (some v)) H s'->(∃ a,Heap.SameBut a s.heap s'.heap/\(a=X.env.locals\/X.env.cells.lookup x=some a))->Q () s') (hf:X.fn x=true\/X.env.scope.names.lookup x=some .local:=by first | exact .inl rfl | exact .inr rfl | assumption):wpAny M A (storeName X.env x u) Q E s:=by
 obtain⟨m,hn,hl⟩:=id I.loc
 have hcls:(X.env.scope.kind == .class || (X.env.scope.kind == .module && X.env.locals != X.env.globals))=false:=by rw [I.ok.kind]; rfl
 have hiσ:i < σ.length:=by rw [I.len]; exact (List.getElem?_eq_some_iff.mp hi).1
 have cne:=I.cne
 have tracked:∀ {a:Addr} {h':Heap},(∃ o,s.heap.get? a=some o/\H a=none)->Heap.SameBut a s.heap h'->HOk X.prog X.w H h':=fun {a h'} ha hs b ob e=>by
  obtain⟨_,_,hfree⟩:=ha
  refine (I.hok b ob e).stay (fun c w' hc q=>(hs.2 c ?_).trans q) (fun _ q=>q) fun _ _ q=>q
  rintro rfl
  rcases hc with rfl | hc
  ·rw [hfree] at e; cases e
  ·rw [hfree] at hc; cases hc
 rcases hx with hk | hk
 ·refine wpAny_storeName_local hk hn (fun h' hn' hs=>?_) hcls
  obtain⟨oL,_,_,hoL,_⟩:=id hn
  refine h _ ⟨I.ok,I.os,I.bare,⟨fun b o e n hb hx=>?_,fun b o e n hb hx=>?_,I.base.free,fun b o e hx=>?_,I.base.tups,I.base.f7v,I.base.f7y⟩,⟨_,hn',fun j y v' e1 e2 e3=>?_⟩,fun y c e=>?_,I.free,I.d1k,fun p hp=>?_,tracked ⟨oL,hoL,I.free⟩ hs,by simpa using I.len⟩ ⟨_,hs,.inl rfl⟩
  ·exact (hs.2 b (Nat.ne_of_lt (Nat.lt_of_lt_of_le (Heap.lt_size e) I.ok.above))).trans (I.base.keep b o e n hb hx)
  ·obtain⟨sl,e1⟩:=I.base.slot b o e n hb hx
   exact⟨sl,(hs.2 b (Nat.ne_of_lt (Nat.lt_of_lt_of_le (Heap.lt_size e) I.ok.above))).trans e1⟩
  ·obtain⟨o',e1⟩:=I.base.there b o e hx
   exact⟨o',(hs.2 b (Nat.ne_of_lt (Nat.lt_of_lt_of_le (Heap.lt_size e) I.ok.above))).trans e1⟩
  ·by_cases hj:j=i
   ·subst hj
    rw [hi] at e1; cases e1
    rw [List.getElem?_set_self hiσ] at e2
    cases e2
    exact⟨u,r,.inl ⟨hk,by simp⟩⟩
   ·rw [List.getElem?_set_ne (Ne.symm hj)] at e2
    obtain⟨u',r',q⟩:=hl j y v' e1 e2 e3
    refine⟨u',r',?_⟩
    rcases q with ⟨k,e⟩ | ⟨k,c,e,z⟩
    ·refine .inl ⟨k,?_⟩
     have:y≠x:=fun e=>hj (f5i hN e1 (e▸hi))
     simp [this,e]
    ·exact .inr ⟨k,c,e,z.sameBut hs (cne y c e)⟩
  ·obtain⟨w',z⟩:=I.cell y c e
   exact⟨w',z.sameBut hs (cne y c e)⟩
  ·obtain⟨e,n,ne,nf,d⟩:=I.pin p hp
   exact⟨(hs.2 p.1 ne).trans e,n,ne,nf,d⟩
 ·have hfn:X.fn x=true:=by
   rcases hf with z | z
   ·exact z
   ·rw [z] at hk; cases hk
  obtain⟨c,hc⟩:=I.ok.has x (.inl hk)
  obtain⟨w',z⟩:=I.cell x c hc
  refine wpAny_storeName_cell I.ok.kind hk hc z (fun h' hc' hs=>?_)
  obtain⟨oc,hoc,hocd⟩:=id z
  refine h { s with heap:=h' } ⟨I.ok,I.os,I.bare,⟨fun b o e n hb hx=>?_,fun b o e n hb hx=>?_,I.base.free,fun b o e hx=>?_,I.base.tups,I.base.f7v,I.base.f7y⟩,⟨m,hn.sameBut hs (Ne.symm (cne x c hc)),fun j y v' e1 e2 e3=>?_⟩,fun y c' e=>?_,I.free,I.d1k,fun p hp=>?_,tracked ⟨oc,hoc,I.d1k x c hc⟩ hs,by simpa using I.len⟩ ⟨c,hs,.inr hc⟩
  ·exact (hs.2 b (Nat.ne_of_lt (Nat.lt_of_lt_of_le (Heap.lt_size e) (I.ok.cab x c hfn hc)))).trans (I.base.keep b o e n hb hx)
  ·obtain⟨sl,e1⟩:=I.base.slot b o e n hb hx
   exact⟨sl,(hs.2 b (Nat.ne_of_lt (Nat.lt_of_lt_of_le (Heap.lt_size e) (I.ok.cab x c hfn hc)))).trans e1⟩
  ·obtain⟨o',e1⟩:=I.base.there b o e hx
   exact⟨o',(hs.2 b (Nat.ne_of_lt (Nat.lt_of_lt_of_le (Heap.lt_size e) (I.ok.cab x c hfn hc)))).trans e1⟩
  ·by_cases hj:j=i
   ·subst hj
    rw [hi] at e1; cases e1
    rw [List.getElem?_set_self hiσ] at e2
    cases e2
    exact⟨u,r,.inr ⟨.inl hk,c,hc,hc'⟩⟩
   ·rw [List.getElem?_set_ne (Ne.symm hj)] at e2
    obtain⟨u',r',q⟩:=hl j y v' e1 e2 e3
    refine⟨u',r',?_⟩
    rcases q with q | ⟨k,c',e,z'⟩
    ·exact .inl q
    ·refine .inr ⟨k,c',e,z'.sameBut hs ?_⟩
     rintro rfl
     exact hj (f5i hN e1 (I.ok.inj _ _ _ e hc▸hi))
  ·by_cases hcc:c'=c
   ·subst hcc; exact⟨_,hc'⟩
   ·obtain⟨w2,z2⟩:=I.cell y c' e
    exact⟨w2,z2.sameBut hs hcc⟩
  ·obtain⟨e,n,ne,nf,d⟩:=I.pin p hp
   refine⟨(hs.2 p.1 ?_).trans e,n,ne,nf,d⟩
   intro q
   rw [q,hoc] at e
   have q':oc=p.2:=Option.some.inj e
   exact d w' (by rw [<- q']; exact hocd)
theorem d8g{M:Model}{A:Around}{E:Value->Shared->Prop}{i:Nat}{x:Str}{v:V}{u:Value}{Q:Unit->Shared->Prop}(I:Inv X pins σ H s)(hN:X.N.Nodup)(hi:X.N[i]? = some x)(hx:Loc X.env.scope x)(r:RelV v u)
  (h:∀ s',Inv X pins (σ.set i (some v)) H s'->Q () s') (hf:X.fn x=true\/X.env.scope.names.lookup x=some .local:=by first | exact .inl rfl | exact .inr rfl | assumption):wpAny M A (storeName X.env x u) Q E s :=
 d8k I hN hi hx r (fun s' I' _=>h s' I') hf
theorem Inv.call'{s':Shared}{ch:List Addr}(I:Inv X pins σ H s)(ho:s'.os=s.os)(u:Un (frs X.stack) ch H H' s.heap s'.heap)(hok:HOk X.prog X.w H' s'.heap)(hg:AllBare s'.gens)
  (hch:∀ b∈ch,(b∈X.ex\/X.s₀.heap.objs.size<=b)/\b≠X.env.locals/\(∀ x c,X.env.cells.lookup x=some c->c≠b)/\∀ p∈X.pn++pins,p.1≠b):Inv X pins σ H' s':=by
 obtain⟨h',g',d',t',o'⟩:=s'
 have e:o'=s.os:=ho
 subst e
 exact I.call (g':=g') (t':=t') (d':=d') u hok hg hch
end
noncomputable abbrev XK:=Value->Option Addr->Hp->Prop
noncomputable abbrev St:=List (Option V)
noncomputable abbrev VK:=V->Hp->Prop
noncomputable abbrev TE:=St->Hp->VK->Prop
noncomputable abbrev TT:=St->Hp->(Bool->Hp->Prop)->Prop
noncomputable abbrev TA:=St->Hp->(List V->Hp->Prop)->Prop
structure Ends where
 nx:St->Hp->Prop
 rt:VK
 bk:St->Hp->Prop:=fun _ _=>False
 ct:St->Hp->Prop:=fun _ _=>False
noncomputable abbrev TS:=Ends->St->Hp->Prop
def EP(X:Cx)(pins:List (Addr×Obj))(σ:St)(Q:VK)(u:Value)(s':Shared):Prop:=∃ v H',Inv X pins σ H' s'/\RelV v u/\Q v H'
def TP(X:Cx)(pins:List (Addr×Obj))(σ:St)(Q:Bool->Hp->Prop)(b:Bool)(s':Shared):Prop:=∃ H',Inv X pins σ H' s'/\Q b H'
def AP(X:Cx)(pins:List (Addr×Obj))(σ:St)(Q:List V->Hp->Prop)(us:List Value)(s':Shared):Prop:=∃ vs H',Inv X pins σ H' s'/\Vals vs us/\Q vs H'
def SP(X:Cx)(pins:List (Addr×Obj))(D:Ends)(f:Flow)(s':Shared):Prop :=
 match f with
 | .next=>∃ σ' H',Inv X pins σ' H' s'/\D.nx σ' H'
 | .brk=>∃ σ' H',Inv X pins σ' H' s'/\D.bk σ' H'
 | .cont=>∃ σ' H',Inv X pins σ' H' s'/\D.ct σ' H'
 | .ret u=>∃ v σ' H',Inv X pins σ' H' s'/\RelV v u/\D.rt v H'
def PE(X:Cx)(e:Expr)(t:TE):Prop :=
 ∀ (pins:List (Addr×Obj)) (s:Shared) (σ:St) (H:Hp) (Q:VK),Inv X pins σ H s->t σ H Q->wpAny (model X.prog X.w) X.A (eval e X.env) (EP X pins σ Q) X.xe s
def PT(X:Cx)(e:Expr)(t:TT):Prop :=
 ∀ (pins:List (Addr×Obj)) (s:Shared) (σ:St) (H:Hp) (Q:Bool->Hp->Prop),Inv X pins σ H s->t σ H Q->wpAny (model X.prog X.w) X.A (isTrue e X.env (eval e X.env)) (TP X pins σ Q) X.xe s
def PW(X:Cx)(e:Expr)(t:TT):Prop :=
 ∀ (whole:Sem Value) (pins:List (Addr×Obj)) (s:Shared) (σ:St) (H:Hp) (Q:Bool->Hp->Prop),Inv X pins σ H s->t σ H Q->wpAny (model X.prog X.w) X.A (isTrue e X.env whole) (TP X pins σ Q) X.xe s
theorem PW.pt{X:Cx}{e:Expr}{t:TT}(h:PW X e t):PT X e t:=h _
def PA(X:Cx)(es:List Expr)(t:TA):Prop :=
 ∀ (pos:Pos) (pins:List (Addr×Obj)) (s:Shared) (σ:St) (H:Hp) (Q:List V->Hp->Prop),Inv X pins σ H s->t σ H Q->wpAny (model X.prog X.w) X.A (spliced (backTo pos (starEach es X.env))) (AP X pins σ Q) X.xe s
def PS(X:Cx)(st:Stmt)(t:TS):Prop :=
 ∀ (pins:List (Addr×Obj)) (s:Shared) (σ:St) (H:Hp) (D:Ends),Inv X pins σ H s->t D σ H->wpAny (model X.prog X.w) X.A (exec st X.env) (SP X pins D) X.xe s
def PSs(X:Cx)(st:List Stmt)(t:TS):Prop :=
 ∀ (pins:List (Addr×Obj)) (s:Shared) (σ:St) (H:Hp) (D:Ends),Inv X pins σ H s->t D σ H->wpAny (model X.prog X.w) X.A (execs st X.env) (SP X pins D) X.xe s
theorem thn{α:Type}{t:Sem α}{Q Q':α->Shared->Prop}{M:Model}{A:Around}{E:Value->Shared->Prop}{s:Shared}(h:wpAny M A t Q E s)(hQ:∀ a s,Q a s->Q' a s):wpAny M A t Q' E s:=wpAny_mono h hQ fun _ _ x=>x
end L2
namespace L2
open PySem PySem.Spec PyProof.Rows
section
variable {X:Cx}
def tVar(i:Nat):TE:=fun σ H Q=>∃ v,σ[i]? = some (some v)/\Q v H
def tC(v:V):TE:=fun _ H Q=>Q v H
theorem h9i {i : Nat} {x : Str} {pos : Pos} (hN : X.N[i]? = some x) (hv : Vis X.env.scope x) (hd : (x == ("__debug__" : Str)) = false := by decide) (hcd : (x == ("__classdict__" : Str)) = false := by decide) : PE X (.Name x pos) (tVar i) := by
 intro pins s σ H Q I h
 obtain⟨v,e,h⟩:=h
 obtain⟨m,hn,hl⟩:=I.loc
 obtain⟨u,r,l⟩:=hl i x v hN e hv
 have fin:EP X pins σ Q u s:=⟨v,H,I,r,h⟩
 rcases l with ⟨hk,hm⟩ | ⟨hk,c,hc,hcell⟩
 ·exact wpAny_Name (wpAny_loadName_local I.ok.kind hk hn hm fin) hd
 ·rcases hk with hk | hk
  ·exact wpAny_Name (wpAny_loadName_cell I.ok.kind hk hc hcell fin) hd
  ·exact wpAny_Name (wpAny_loadName_free I.ok.kind hk hc hcell fin hcd) hd
theorem a0j{i j pos}:PE X (.Constant (.int i) j pos) (tC (.int i)):=fun _ _ _ H _ I h=>wpAny_Constant_int ⟨.int i,H,I.tok _,⟨_,rfl⟩,h⟩
theorem d4r{b j pos}:PE X (.Constant (.bool b) j pos) (tC (.bl b)):=fun _ _ _ H _ I h=>Constant_bool ⟨.bl b,H,I,rfl,h⟩
theorem c5h{j pos}:PE X (.Constant .none j pos) (tC .non):=fun _ _ _ H _ I h=>Constant_none ⟨.non,H,I,rfl,h⟩
theorem a0m{x j pos}:PE X (.Constant (.str x) j pos) (tC (.str x)):=fun _ _ _ H _ I h=>Calls.Constant_str ⟨.str x,H,I.tok _,⟨_,rfl⟩,h⟩
def Gl(X:Cx)(x:Str):Prop:=X.env.kindOf x=some .globalImplicit
theorem c6n{E:Value->Shared->Prop}{pins:List (Addr×Obj)}{s:Shared}{σ:St}{H:Hp}{x:Str}{u:Value}{pos:Pos}{Q:Value->Shared->Prop}(I:Inv X pins σ H s)(hg:Gl X x)(hm:X.mg x=some u)(h:Q u s)
  (hd : (x == ("__debug__" : Str)) = false := by decide) : wpAny (model X.prog X.w) X.A (eval (.Name x pos) X.env) Q E s :=
 Calls.Name_function_global I.ok.kind hg (Calls.loadGlobal_global (by rw [I.ok.glob]; exact I.mod.glob.keeps I.bk) hm h) hd
theorem f7z{E:Value->Shared->Prop}{pins:List (Addr×Obj)}{s:Shared}{σ:St}{H:Hp}{x:Str}{u:Value}{pos:Pos}{Q:Value->Shared->Prop}(I:Inv X pins σ H s)(hg:Gl X x)(hm:X.mg x=none)(hv:bootBuiltins x=some u)(h:Q u s)
  (hn : x ≠ "__name__" := by decide) (hd : (x == ("__debug__" : Str)) = false := by decide) : wpAny (model X.prog X.w) X.A (eval (.Name x pos) X.env) Q E s := by
 obtain⟨mb,h1,h2⟩:=I.mod.blt
 exact Calls.Name_function_global I.ok.kind hg (Calls.loadGlobal_builtin (by rw [I.ok.glob]; exact I.mod.glob.keeps I.bk) hm (by rw [I.ok.blt]; exact h1.keeps I.bk) ((h2 x hn).trans hv) h) hd
theorem a1o {x : Str} {v : V} {u : Value} {pos : Pos} (hg : Gl X x) (hm : X.mg x = some u) (r : RelV v u) (hd : (x == ("__debug__" : Str)) = false := by decide) : PE X (.Name x pos) (tC v) :=
 fun _ _ _ H _ I h=>c6n I hg hm ⟨v,H,I,r,h⟩ hd
theorem d1l {x : Str} {v : V} {u : Value} {pos : Pos} (hg : Gl X x) (hm : X.mg x = none) (hv : bootBuiltins x = some u) (r : RelV v u) (hn : x ≠ "__name__" := by decide) (hd : (x == ("__debug__" : Str)) = false := by decide) : PE X (.Name x pos) (tC v) :=
 fun _ _ _ H _ I h=>f7z I hg hm hv ⟨v,H,I,r,h⟩ hn hd
variable {a b:Expr}{ta tb:TE}{pos:Pos}
def tB(t:TE):TT:=fun σ H Q=>t σ H fun x H1=>∃ c,x = .bl c/\Q c H1
theorem h9j{e:Expr}{t:TE}(h:PE X e t)(he:∀ whole,isTrue e X.env whole=(do let v <- whole; standAt e.pos; holding [v] (truthy v)):=by intro _; rfl):PT X e (tB t):=by
 intro pins s σ H Q I hw
 refine isTrue_plain (thn (h pins s σ H _ I hw) fun v s1 ⟨x,H1,I1,r1,q1⟩=>?_) (he _)
 obtain⟨d,rfl,q⟩:=q1
 cases r1
 exact wpAny_truthy_bool ⟨H1,I1,q⟩
variable {tA tB':TT}{rest:List Expr}
def tAnd(t u:TT):TT:=fun σ H Q=>t σ H fun c H1=>if c=true then u σ H1 Q else Q false H1
def tOr(t u:TT):TT:=fun σ H Q=>t σ H fun c H1=>if c=true then Q true H1 else u σ H1 Q
def tNot(t:TT):TT:=fun σ H Q=>t σ H fun c H1=>Q (!c) H1
theorem pw_and1(ha:PT X a tA):PW X (.BoolOp .And [a] pos) tA:=by
 intro wh pins s σ H Q I h
 refine isTrue_and (thn (ha pins s σ H Q I h) fun c s1 e=>?_)
 cases c with
 | true=>exact isTrue_and_nil e
 | false=>exact e
theorem pw_or1(ha:PT X a tA):PW X (.BoolOp .Or [a] pos) tA:=by
 intro wh pins s σ H Q I h
 refine isTrue_or (thn (ha pins s σ H Q I h) fun c s1 e=>?_)
 cases c with
 | false=>exact isTrue_or_nil e
 | true=>exact e
theorem pw_and(ha:PT X a tA)(hb:PW X (.BoolOp .And (b :: rest) pos) tB'):PW X (.BoolOp .And (a :: b :: rest) pos) (tAnd tA tB'):=by
 intro wh pins s σ H Q I h
 refine isTrue_and (thn (ha pins s σ H _ I h) fun c s1 ⟨H1,I1,q1⟩=>?_)
 cases c with
 | true=>exact hb wh pins s1 σ H1 Q I1 q1
 | false=>exact⟨H1,I1,q1⟩
theorem pw_or(ha:PT X a tA)(hb:PW X (.BoolOp .Or (b :: rest) pos) tB'):PW X (.BoolOp .Or (a :: b :: rest) pos) (tOr tA tB'):=by
 intro wh pins s σ H Q I h
 refine isTrue_or (thn (ha pins s σ H _ I h) fun c s1 ⟨H1,I1,q1⟩=>?_)
 cases c with
 | true=>exact⟨H1,I1,q1⟩
 | false=>exact hb wh pins s1 σ H1 Q I1 q1
theorem b3w(ha:PT X a tA):PT X (.UnaryOp .Not a pos) (tNot tA):=by
 intro pins s σ H Q I h
 exact isTrue_not (ha pins s σ H (fun c H1=>Q (!c) H1) I h)
def h9k(ta tb:TE):TE:=fun σ H Q=>ta σ H fun x H1=>∃ c,x = .bl c/\if c=true then tb σ H1 Q else Q (.bl false) H1
def i8b(ta tb:TE):TE:=fun σ H Q=>ta σ H fun x H1=>∃ c,x = .bl c/\if c=true then Q (.bl true) H1 else tb σ H1 Q
def h9l(ta:TE):TE:=fun σ H Q=>ta σ H fun x H1=>∃ c,x = .bl c/\Q (.bl (!c)) H1
theorem d6v{op}{t:TE}(h:PE X a t):PE X (.BoolOp op [a] pos) t:=fun pins s σ H Q I hw=>BoolOp_one (h pins s σ H Q I hw)
theorem h9m(ha:PE X a ta)(hb:PE X (.BoolOp .And (b :: rest) pos) tb):PE X (.BoolOp .And (a :: b :: rest) pos) (h9k ta tb):=by
 intro pins s σ H Q I h
 refine BoolOp_and (thn (ha pins s σ H _ I h) fun v s1 ⟨x,H1,I1,r1,q1⟩=>?_)
 obtain⟨c,rfl,q1⟩:=q1
 cases r1
 refine wpAny_truthy_bool ?_
 cases c with
 | true=>exact hb pins s1 σ H1 Q I1 q1
 | false=>exact⟨.bl false,H1,I1,rfl,q1⟩
theorem i5a(ha:PE X a ta)(hb:PE X (.BoolOp .Or (b :: rest) pos) tb):PE X (.BoolOp .Or (a :: b :: rest) pos) (i8b ta tb):=by
 intro pins s σ H Q I h
 refine BoolOp_or (thn (ha pins s σ H _ I h) fun v s1 ⟨x,H1,I1,r1,q1⟩=>?_)
 obtain⟨c,rfl,q1⟩:=q1
 cases r1
 refine wpAny_truthy_bool ?_
 cases c with
 | false=>exact hb pins s1 σ H1 Q I1 q1
 | true=>exact⟨.bl true,H1,I1,rfl,q1⟩
theorem h9n(ha:PE X a ta):PE X (.UnaryOp .Not a pos) (h9l ta):=by
 intro pins s σ H Q I h
 refine UnaryOp_ (thn (ha pins s σ H _ I h) fun v s1 ⟨x,H1,I1,r1,q1⟩=>?_)
 obtain⟨c,rfl,q1⟩:=q1
 cases r1
 exact not_of (wpAny_truthy_bool ⟨.bl (!c),H1,I1,rfl,q1⟩)
def tIf(t:TT)(ta tb:TE):TE:=fun σ H Q=>t σ H fun c H1=>if c=true then ta σ H1 Q else tb σ H1 Q
theorem g3i{c:Expr}(hc:PT X c tA)(ha:PE X a ta)(hb:PE X b tb):PE X (.IfExp c a b pos) (tIf tA ta tb):=by
 intro pins s σ H Q I h
 refine wpAny_IfExp (thn (hc pins s σ H _ I h) fun d s1 ⟨H1,I1,q1⟩=>?_)
 cases d with
 | true=>exact ha pins s1 σ H1 Q I1 q1
 | false=>exact hb pins s1 σ H1 Q I1 q1
end
end L2
namespace L2
open PySem PySem.Spec PyProof.Rows
def SqL(K:PySem.W.Frag)(H:Hp)(a:Addr)(xs:List V):Prop :=
 Rd H a (.lst xs) \/
  ∃ (o : Obj) (its : Array Value) (n : Nat), K.lookup a = some o ∧ o.cls = .type "list" ∧ o.dict = none ∧ o.data = .seq its n ∧ its.size ≤ sizeLine ∧ Vals xs its.toList
def SqT(K:PySem.W.Frag)(H:Hp)(a:Addr)(xs:List V):Prop :=
 Rd H a (.tup xs) \/
  ∃ (o : Obj) (its : Array Value) (n : Nat), K.lookup a = some o ∧ o.cls = .type "tuple" ∧ o.data = .seq its n ∧ its.size ≤ sizeLine ∧ Vals xs its.toList
noncomputable def absV:Value->Option V
 | .none=>some .non
 | .bool b=>some (.bl b)
 | .int i _=>some (.int i)
 | .str x _=>some (.str x)
 | .bytes b _=>some (.byt b)
 | .float b _=>some (.flt b)
 | .ref a=>some (.ref a)
 | .type n=>some (.ty n)
 | _=>none
theorem RelV.abs{x:V}{u:Value}(r:RelV x u):absV u=some x:=by
 cases x with
 | non=>cases r; rfl
 | bl _=>cases r; rfl
 | int _=>obtain⟨t,rfl⟩:=r; rfl
 | str _=>obtain⟨t,rfl⟩:=r; rfl
 | byt _=>obtain⟨t,rfl⟩:=r; rfl
 | flt _=>obtain⟨t,rfl⟩:=r; rfl
 | ref _=>cases r; rfl
 | ty _=>cases r; rfl
theorem RelV.inj{x y:V}{u:Value}(r:RelV x u)(q:RelV y u):x=y:=Option.some.inj (r.abs.symm.trans q.abs)
theorem Vals.inj:∀ {xs ys:List V} {us:List Value},Vals xs us->Vals ys us->xs=ys
 | _,_,_,.nil,.nil=>rfl
 | _,_,_,.cons r t,.cons r' t'=>by rw [r.inj r',Vals.inj t t']
section
variable {X:Cx}{pins:List (Addr×Obj)}{σ:St}{H:Hp}{s:Shared}{a:Addr}{xs ys:List V}
theorem SqL.of{K:PySem.W.Frag}(h:H a=some (.lst xs)):SqL K H a xs:=.inl (.inl h)
theorem SqT.of{K:PySem.W.Frag}(h:H a=some (.tup xs)):SqT K H a xs:=.inl (.inl h)
theorem Inv.list(I:Inv X pins σ H s)(h:SqL X.K H a xs):∃ its:List Value,Vals xs its/\PlainL s.heap a its.toArray/\xs.length<=sizeLine:=by
 rcases h with h | ⟨o,its,n,hk,hc,hd,hs,hz,r⟩
 ·obtain⟨z,its,n,r,e⟩:=h.ok I.hok
  exact⟨its,r,⟨_,n,e,rfl,rfl,rfl⟩,z⟩
 ·refine⟨its.toList,r,⟨o,n,I.kIn a o hk,hc,hd,by simpa using hs⟩,?_⟩
  have e:=r.length
  simp only [Array.length_toList] at e
  omega
theorem Inv.tuple(I:Inv X pins σ H s)(h:SqT X.K H a xs):∃ its:List Value,Vals xs its/\IsTup s.heap a its.toArray/\xs.length<=sizeLine:=by
 rcases h with h | ⟨o,its,n,hk,hc,hs,hz,r⟩
 ·obtain⟨z,its,r,p⟩:=h.ok I.hok
  exact⟨its,r,p,z⟩
 ·refine⟨its.toList,r,⟨o,I.kIn a o hk,hc,n,by simpa using hs⟩,?_⟩
  have e:=r.length
  simp only [Array.length_toList] at e
  omega
theorem Inv.g3j(I:Inv X pins σ H s)(h:SqL X.K H a xs)(h':SqL X.K H a ys):xs=ys:=by
 obtain⟨its,r,⟨o,n,e,_,_,d⟩,_⟩:=I.list h
 obtain⟨its',r',⟨o',n',e',_,_,d'⟩,_⟩:=I.list h'
 rw [e] at e'; cases e'
 rw [d] at d'
 injection d' with d1 _
 have:its=its':=by simpa using congrArg Array.toList d1
 subst this
 exact r.inj r'
theorem Inv.f8g(I:Inv X pins σ H s)(h:SqT X.K H a xs)(h':SqT X.K H a ys):xs=ys:=by
 obtain⟨its,r,⟨o,e,_,n,d⟩,_⟩:=I.tuple h
 obtain⟨its',r',⟨o',e',_,n',d'⟩,_⟩:=I.tuple h'
 rw [e] at e'; cases e'
 rw [d] at d'
 injection d' with d1 _
 have:its=its':=by simpa using congrArg Array.toList d1
 subst this
 exact r.inj r'
end
noncomputable abbrev Cx.wish(X:Cx)(E:Value->Shared->Prop):Cx:={ X with xe:=E }
noncomputable abbrev Cx.nox(X:Cx):Cx:=X.wish fun _ _=>False
theorem Cx.Ok.wish{X:Cx}(ok:X.Ok)(E:Value->Shared->Prop):(X.wish E).Ok :=
 ⟨ok.mod,ok.kind,ok.glob,ok.blt,ok.above,ok.inj,ok.has,ok.cab,ok.hd,ok.frames,ok.stk,ok.exf,ok.bs,ok.bsz,ok.h5v,ok.h9h,ok.g5b,ok.frf⟩
theorem Cx.Ok.b9w{X:Cx}{E:Value->Shared->Prop}(ok:(X.wish E).Ok):X.Ok :=
 ⟨ok.mod,ok.kind,ok.glob,ok.blt,ok.above,ok.inj,ok.has,ok.cab,ok.hd,ok.frames,ok.stk,ok.exf,ok.bs,ok.bsz,ok.h5v,ok.h9h,ok.g5b,ok.frf⟩
section
variable {X:Cx}{pins:List (Addr×Obj)}{σ:St}{H:Hp}{s:Shared}{E:Value->Shared->Prop}
theorem Inv.wish(I:Inv X pins σ H s)(E:Value->Shared->Prop):Inv (X.wish E) pins σ H s:=⟨I.ok.wish E,I.os,I.bare,I.base,I.loc,I.cell,I.free,I.d1k,I.pin,I.hok,I.len⟩
theorem Inv.b9w(I:Inv (X.wish E) pins σ H s):Inv X pins σ H s:=⟨I.ok.b9w,I.os,I.bare,I.base,I.loc,I.cell,I.free,I.d1k,I.pin,I.hok,I.len⟩
theorem SP.b9w{D:Ends}{f:Flow}{s':Shared}(h:SP (X.wish E) pins D f s'):SP X pins D f s':=by
 cases f with
 | next=>obtain⟨σ',H',I,q⟩:=h; exact⟨σ',H',I.b9w,q⟩
 | brk=>obtain⟨σ',H',I,q⟩:=h; exact⟨σ',H',I.b9w,q⟩
 | cont=>obtain⟨σ',H',I,q⟩:=h; exact⟨σ',H',I.b9w,q⟩
 | ret u=>obtain⟨v,σ',H',I,r,q⟩:=h; exact⟨v,σ',H',I.b9w,r,q⟩
theorem PSs.nox{st:List Stmt}{t:TS}(h:PSs X.nox st t):PSs X st t:=fun pins s σ H D I hw =>
 wpAny_mono (h pins s σ H D (I.wish _) hw) (fun _ _ q=>q.b9w) fun _ _ z=>False.elim z
end
section
variable {X:Cx}{st:Stmt}{rest:List Stmt}{t u:TS}{e:Expr}{te:TE}{pos:Pos}
def h1o:TS:=fun D σ H=>D.nx σ H
def i4l(t u:TS):TS:=fun D σ H=>t { D with nx:=u D } σ H
theorem a1h:PSs X [] h1o:=fun _ _ σ H _ I h=>wpAny_execs_nil ⟨σ,H,I,h⟩
theorem a0i(h1:PS X st t)(h2:PSs X rest u):PSs X (st :: rest) (i4l t u):=by
 intro pins s σ H D I h
 refine wpAny_execs_cons (thn (h1 pins s σ H { D with nx:=u D } I h) fun f s1 q=>?_)
 cases f with
 | next =>
  obtain⟨σ',H',I',q⟩:=q
  exact h2 pins s1 σ' H' D I' q
 | ret v=>exact q
 | brk=>exact q
 | cont=>exact q
theorem a0k(h1:PS X st t):PSs X [st] t:=by
 intro pins s σ H D I h
 refine wpAny_execs_cons (thn (h1 pins s σ H D I h) fun f s1 q=>?_)
 cases f with
 | next=>exact wpAny_execs_nil q
 | ret v=>exact q
 | brk=>exact q
 | cont=>exact q
theorem Inv.quiet{pins:List (Addr×Obj)}{σ:St}{H:Hp}{s:Shared}(I:Inv X pins σ H s):interactive X.env=false:=by simp [interactive,I.ok.kind]
def h9o(te:TE):TS:=fun D σ H=>te σ H fun _ H1=>D.nx σ H1
theorem b1y(he:PE X e te)(hs:swapsWith e none pos.line X.env=pure false:=by rfl):PS X (.Expr e pos) (h9o te):=by
 intro pins s σ H D I h
 exact wpAny_Expr_any (thn (he pins s σ H _ I h) fun v s1 ⟨x,H1,I1,r1,q1⟩=>⟨σ,H1,I1,q1⟩) I.quiet hs
def tRet(te:TE):TS:=fun D σ H=>te σ H D.rt
theorem a0s(he:PE X e te):PS X (.Return (some e) pos) (tRet te):=by
 intro pins s σ H D I h
 exact wpAny_Return_some (thn (he pins s σ H _ I h) fun v s1 ⟨x,H1,I1,r1,q1⟩=>⟨x,σ,H1,I1,r1,q1⟩)
def tRetN:TS:=fun D _ H=>D.rt .non H
def i4m(c:TT)(t u:TS):TS:=fun D σ H=>c σ H fun b H1=>if b=true then t D σ H1 else u D σ H1
theorem a4o{c:Expr}{a b:List Stmt}{tc:TT}(hc:PT X c tc)(ha:PSs X a t)(hb:PSs X b u):PS X (.If c a b pos) (i4m tc t u):=by
 intro pins s σ H D I h
 refine wpAny_If (thn (hc pins s σ H _ I h) fun d s1 ⟨H1,I1,q1⟩=>?_)
 cases d with
 | true=>exact ha pins s1 σ H1 D I1 q1
 | false=>exact hb pins s1 σ H1 D I1 q1
def h9p:TS:=fun _ _ _=>False
theorem a6q:PS X st h9p:=fun _ _ _ _ _ _ h=>h.elim
end
noncomputable abbrev TG:=V->St->Hp->(St->Hp->Prop)->Prop
noncomputable abbrev TGs:=List V->St->Hp->(St->Hp->Prop)->Prop
def PG(X:Cx)(target:Expr)(t:TG):Prop :=
 ∀ (pins:List (Addr×Obj)) (s:Shared) (σ:St) (H:Hp) (v:V) (u:Value) (Q:St->Hp->Prop),Inv X pins σ H s->RelV v u->t v σ H Q ->
  wpAny (model X.prog X.w) X.A (assign target X.env u) (fun _ s'=>∃ σ' H',Inv X pins σ' H' s'/\Q σ' H') X.xe s
def PGs(X:Cx)(ts:List Expr)(t:TGs):Prop :=
 ∀ (pins:List (Addr×Obj)) (s:Shared) (σ:St) (H:Hp) (vs:List V) (us:List Value) (Q:St->Hp->Prop),Inv X pins σ H s->Vals vs us->t vs σ H Q ->
  wpAny (model X.prog X.w) X.A (assignInOrder ((assignEach ts X.env).map (·.2)) us) (fun _ s'=>∃ σ' H',Inv X pins σ' H' s'/\Q σ' H') X.xe s
noncomputable abbrev TSet:=V->V->V->Hp->(Hp->Prop)->Prop
noncomputable abbrev TIp:=V->V->Hp->VK->Prop
section
variable {X:Cx}{pos:Pos}
def g7n(i:Nat):TG:=fun v σ H Q=>Q (σ.set i (some v)) H
theorem a4y{i:Nat}{x:Str}(hN:X.N.Nodup)(hi:X.N[i]? = some x)(hx:Loc X.env.scope x)(hf:X.fn x=true\/X.env.scope.names.lookup x=some .local:=by first | exact .inl rfl | exact .inr rfl | assumption):PG X (.Name x pos) (g7n i):=by
 intro pins s σ H v u Q I r h
 exact wpAny_assign_Name (d8g I hN hi hx r (fun s' I'=>⟨_,H,I',h⟩) hf)
noncomputable def gNil:TGs:=fun vs σ H Q=>vs = []/\Q σ H
def i5b(t:TG)(u:TGs):TGs:=fun vs σ H Q=>∃ v r,vs=v :: r/\t v σ H fun σ' H'=>u r σ' H' Q
theorem g7o:PGs X [] gNil:=by
 intro pins s σ H vs us Q I r h
 obtain⟨e,h⟩:=h
 subst e
 cases r
 exact assignInOrder_nil ⟨σ,H,I,h⟩
theorem f5j{e:Expr}{es:List Expr}{t:TG}{u:TGs}(h1:PG X e t)(h2:PGs X es u)
  (hs:(assignEach (e :: es) X.env).map (·.2)=assign e X.env :: (assignEach es X.env).map (·.2):=by rfl):PGs X (e :: es) (i5b t u):=by
 intro pins s σ H vs us Q I r h
 obtain⟨v,vr,e1,h⟩:=h
 subst e1
 cases r with
 | cons r rr =>
  rw [hs]
  refine assignInOrder_cons (thn (h1 pins s σ H _ _ _ I r h) fun _ s1 ⟨σ1,H1,I1,q1⟩=>?_)
  exact h2 pins s1 σ1 H1 _ _ Q I1 rr q1
def gTup(K:PySem.W.Frag)(n:Nat)(t:TGs):TG:=fun v σ H Q=>∃ a xs,v = .ref a/\SqT K H a xs/\xs.length=n/\t xs σ H Q
theorem h4f{es:List Expr}{k:Nat}{t:TGs}{n:Nat}(hc:X.calm=true)(h:PGs X es t)
  (hn:(assignEach es X.env).length=n:=by rfl) (hst:(assignEach es X.env).findIdx? (·.1)=none:=by rfl):PG X (.Tuple es k pos) (gTup X.K n t):=by
 intro pins s σ H v u Q I r hw
 obtain⟨a,xs,e1,hq,hl,hw⟩:=hw
 subst e1
 cases r
 obtain⟨its,rv,ht,hz⟩:=I.tuple hq
 refine assign_Tuple_tuple (I.ok.hd hc) ht (by simp [hn,<- hl,rv.length]) hst fun h' hx=>?_
 have I1:Inv X pins σ H { s with heap:=h' }:=I.kept (t':=s.toks) fun b o e=>hx b o (Nat.ne_of_lt (Heap.lt_size e)) e
 exact h pins _ σ H xs _ Q I1 (by simpa using rv) hw
def gSub(to ti:TE)(t:TSet):TG:=fun v σ H Q=>to σ H fun o H1=>ti σ H1 fun i H2=>t o i v H2 fun H3=>Q σ H3
def h9q(te:TE)(g:TG):TS:=fun D σ H=>te σ H fun x H1=>g x σ H1 D.nx
theorem h4g{tg e:Expr}{te:TE}{g:TG}(he:PE X e te)(hg:PG X tg g)(hs:swapsWithSole [tg] e pos.line X.env=pure false:=by rfl)(hw:swappedStores [tg] e X.env=pure none:=by rfl)
  (h1:(assignEach [tg] X.env).map (·.2) = [assign tg X.env]:=by rfl):PS X (.Assign [tg] e pos) (h9q te g):=by
 intro pins s σ H D I h
 refine wpAny_Assign_stores (thn (he pins s σ H _ I h) fun v s1 ⟨x,H1,I1,r1,q1⟩=>?_) hs hw
 rw [h1]
 exact thn (hg pins s1 σ H1 x v _ I1 r1 q1) fun _ s2 q=>q
theorem a0z{i:Nat}{x:Str}{e:Expr}{te:TE}{pos':Pos}(hN:X.N.Nodup)(hi:X.N[i]? = some x)(hx:Loc X.env.scope x)(he:PE X e te)(hs:swapsWith e (some (.Name x pos')) pos.line X.env=pure false:=by rfl)(hf:X.fn x=true\/X.env.scope.names.lookup x=some .local:=by first | exact .inl rfl | exact .inr rfl | assumption) :
  PS X (.Assign [.Name x pos'] e pos) (h9q te (g7n i)):=by
 intro pins s σ H D I h
 refine wpAny_Assign_Name (thn (he pins s σ H _ I h) fun v s1 ⟨y,H1,I1,r1,q1⟩=>?_) hs
 exact d8g I1 hN hi hx r1 (fun s2 I2=>⟨_,H1,I2,q1⟩) hf
end
section
variable {X:Cx}{pos:Pos}
end
structure It where
 go:Nat->Hp->Prop
 yld:Nat->Hp->V->Hp->Prop
 stop:Nat->Hp->Prop
def d7s(X:Cx)(pins:List (Addr×Obj))(H:Hp)(b:Addr):Prop :=
 H b=none/\b≠X.env.locals/\b∉X.fs/\(b∈X.ex\/X.s₀.heap.objs.size<=b)/\(∀ x c,X.env.cells.lookup x=some c->c≠b)/\∀ p∈X.pn++pins,p.1≠b
theorem Inv.h1p{X:Cx}{pins:List (Addr×Obj)}{σ:St}{H H':Hp}{s:Shared}{b:Addr}(I:Inv X pins σ H s)(hb:s.heap.objs.size<=b)(hn:H' b=none):d7s X pins H' b:=by
 refine⟨hn,Nat.ne_of_gt (Nat.lt_of_lt_of_le I.lt hb),I.nofs hb,.inr (Nat.le_trans I.sz hb),fun x c e z=>?_,fun p hp z=>?_⟩
 ·obtain⟨v,q⟩:=I.cell x c e
  exact absurd (Nat.lt_of_lt_of_le q.lt (by rw [z]; exact hb)) (Nat.lt_irrefl _)
 ·exact absurd (Nat.lt_of_lt_of_le (Heap.lt_size (I.pin p hp).1) (by rw [z]; exact hb)) (Nat.lt_irrefl _)
structure Turn(P:Program)(w:World)(K:PySem.W.Frag)(tg:Expr)(J:It)(fp:List Addr)(it:Addr)(tn:Nat->Heap->Prop):Prop where
 mem:it∈fp
 obj:∀ i h,tn i h->∀ b∈fp,∃ o,h.get? b=some o/\∀ v,o.data≠.cell v
 keep:∀ i h h',tn i h->(∀ b∈fp,∀ o,h.get? b=some o->h'.get? b=some o)->tn i h'
 item:∀ (X:Cx),X.prog=P->X.w=w->X.K=K->X.calm=true->∀ (i:Nat) (pins:List (Addr×Obj)) (s:Shared) (σ:St) (H:Hp) (E:Value->Shared->Prop),Inv X pins σ H s->(∀ b∈fp,d7s X pins H b)->tn i s.heap->J.go i H ->
  wpAny (model P w) X.A (pyNext (.ref it)) (fun r s1=>∃ u,r=some u /\
   wpAny (model P w) X.A (letOwnedTupleGo tg (.ref it) u) (fun _ s2=>∃ x H',Inv X pins σ H' s2/\RelV x u/\J.yld i H x H'/\tn (i+1) s2.heap/\∀ b∈fp,H' b=none) E s1) E s
 done:∀ (X:Cx),X.prog=P->X.w=w->X.K=K->X.calm=true->∀ (i:Nat) (pins:List (Addr×Obj)) (s:Shared) (σ:St) (H:Hp) (E:Value->Shared->Prop),Inv X pins σ H s->(∀ b∈fp,d7s X pins H b)->tn i s.heap->J.stop i H ->
  wpAny (model P w) X.A (pyNext (.ref it)) (fun r s1=>r=none/\Inv X pins σ H s1) E s
 self:∀ (A:Around) (i:Nat) (s:Shared) (Q:Value->Shared->Prop) (E:Value->Shared->Prop),tn i s.heap->Q (.ref it) s->wpAny (model P w) A (pyIter (.ref it)) Q E s
noncomputable abbrev TI:=St->Hp->(It->Hp->Prop)->Prop
def PIE(X:Cx)(pins:List (Addr×Obj))(σ:St)(tg:Expr)(R:It->Hp->Prop)(itv:Value)(s2:Shared):Prop :=
 ∃ (it:Addr) (fp:List Addr) (tn:Nat->Heap->Prop) (J:It) (H':Hp),itv = .ref it/\Inv X pins σ H' s2/\Turn X.prog X.w X.K tg J fp it tn/\tn 0 s2.heap/\(∀ b∈fp,d7s X pins H' b)/\R J H'
def PI(X:Cx)(tg iter:Expr)(wi:TI):Prop :=
 ∀ (pins:List (Addr×Obj)) (s:Shared) (σ:St) (H:Hp) (R:It->Hp->Prop),Inv X pins σ H s->wi σ H R ->
  wpAny (model X.prog X.w) X.A (eval iter X.env) (fun v s1=>wpAny (model X.prog X.w) X.A (pyIter v) (PIE X pins σ tg R) X.xe s1) X.xe s
theorem h1q{M:Model}{A:Around}{E:Value->Shared->Prop}{s:Shared}{tg:Expr}{it:Addr}{u:Value}{o:Obj}{n:String}{vs:Array Value}{Q:Unit->Shared->Prop}(ho:s.heap.get? it=some o)(hc:o.cls = .type n)(hd:o.data = .fields vs)
  (hn : ["enumerate", "zip", "dict_itemiterator", "dict_reverseitemiterator", "odict_iterator", "itertools.zip_longest", "itertools.pairwise"].contains n = false) (hQ : Q () s) : wpAny M A (letOwnedTupleGo tg (.ref it) u) Q E s := by
 unfold letOwnedTupleGo
 cases tg <;> first
  | exact wpAny_pure hQ
  | (cases u <;> first
    | exact wpAny_pure hQ
    | (refine wpAny_bind (wpAny_load ho ?_)
       rw [hc,hd]
       show wpAny M A (if (["enumerate", "zip", "dict_itemiterator", "dict_reverseitemiterator", "odict_iterator", "itertools.zip_longest", "itertools.pairwise"].contains n && vs[0]? == some (rawInt _)) = true then _ else _) Q E s
       rw [if_neg (by intro h; rw [hn,Bool.false_and] at h; cases h)]
       exact wpAny_pure hQ))
noncomputable def Itl(K:PySem.W.Frag)(a:Addr):It :=
 ⟨fun i H=>∃ xs x,SqL K H a xs/\xs[i]? = some x,fun i H x H'=>H'=H/\∀ xs,SqL K H a xs->xs[i]? = some x,fun i H=>∃ xs,SqL K H a xs/\xs.length<=i⟩
noncomputable def Itt(K:PySem.W.Frag)(a:Addr):It :=
 ⟨fun i H=>∃ xs x,SqT K H a xs/\xs[i]? = some x,fun i H x H'=>H'=H/\∀ xs,SqT K H a xs->xs[i]? = some x,fun i H=>∃ xs,SqT K H a xs/\xs.length<=i⟩
noncomputable def Itr(lo:Int)(n:Nat):It:=⟨fun i _=>i < n,fun i H x H'=>H'=H/\x = .int (lo+i),fun i _=>n<=i⟩
theorem g7p{P:Program}{w:World}{K:PySem.W.Frag}{tg:Expr}(a it:Addr):Turn P w K tg (Itl K a) [it] it (fun i h=>h.IsListIter it a i) where
 mem:=by simp
 obj:=fun i h st b hb=>by
  have e:b=it:=by simpa using hb
  subst e
  obtain⟨o,e,c,d⟩:=st
  exact⟨o,e,fun v z=>by rw [d] at z; cases z⟩
 keep:=fun i h h' st k=>st.at fun o e=>k it (by simp) o e
 item:=by
  intro X hP hw hK hc i pins s σ H E I hf st hg
  subst hP hw hK
  obtain⟨xs,x,hq,hx⟩:=hg
  obtain⟨its,rv,p,hz⟩:=I.list hq
  obtain⟨u,hu,ru⟩:=rv.get hx
  obtain⟨f0,f1,f2,f3,f4,f5⟩:=hf it (by simp)
  refine wpAny_pyNext_list_item st p.isList (x:=u) (by simpa using hu) fun h' st' sb=>?_
  have I1:Inv X pins σ H { s with heap:=h' }:=I.turned (t':=s.toks) (fun b o hb e=>(sb.2 b hb).trans e) f0 f1 f3 f4 f5
  obtain⟨o,e,c,d⟩:=id st'
  exact⟨u,rfl,h1q (s:={ s with heap:=h' }) e c d (by decide) ⟨x,H,I1,ru,⟨rfl,fun ys hy=>by rw [I.g3j hy hq]; exact hx⟩,st',fun b hb=>(hf b hb).1⟩⟩
 done:=by
  intro X hP hw hK hc i pins s σ H E I hf st hg
  subst hP hw hK
  obtain⟨xs,hq,hx⟩:=hg
  obtain⟨its,rv,p,hz⟩:=I.list hq
  obtain⟨f0,f1,f2,f3,f4,f5⟩:=hf it (by simp)
  have hl:=rv.length
  exact wpAny_pyNext_list_end (I.ok.hd hc) st p.isList (by simp; omega) fun h' eb=>⟨rfl,I.turned (t':=s.toks) (fun b o hb e=>eb b o hb e) f0 f1 f3 f4 f5⟩
 self:=fun _ _ _ _ _ st h=>wpAny_pyIter_listiter st h
theorem g5c{P:Program}{w:World}{K:PySem.W.Frag}{tg:Expr}(a it:Addr):Turn P w K tg (Itt K a) [it] it (fun i h=>h.IsTupleIter it a i) where
 mem:=by simp
 obj:=fun i h st b hb=>by
  have e:b=it:=by simpa using hb
  subst e
  obtain⟨o,e,c,d⟩:=st
  exact⟨o,e,fun v z=>by rw [d] at z; cases z⟩
 keep:=fun i h h' st k=>st.at fun o e=>k it (by simp) o e
 item:=by
  intro X hP hw hK hc i pins s σ H E I hf st hg
  subst hP hw hK
  obtain⟨xs,x,hq,hx⟩:=hg
  obtain⟨its,rv,p,hz⟩:=I.tuple hq
  obtain⟨u,hu,ru⟩:=rv.get hx
  obtain⟨f0,f1,f2,f3,f4,f5⟩:=hf it (by simp)
  refine wpAny_pyNext_tuple_item st (show s.heap.IsTuple a its.toArray from p) (x:=u) (by simpa using hu) fun h' st' sb=>?_
  have I1:Inv X pins σ H { s with heap:=h' }:=I.turned (t':=s.toks) (fun b o hb e=>(sb.2 b hb).trans e) f0 f1 f3 f4 f5
  obtain⟨o,e,c,d⟩:=id st'
  exact⟨u,rfl,h1q (s:={ s with heap:=h' }) e c d (by decide) ⟨x,H,I1,ru,⟨rfl,fun ys hy=>by rw [I.f8g hy hq]; exact hx⟩,st',fun b hb=>(hf b hb).1⟩⟩
 done:=by
  intro X hP hw hK hc i pins s σ H E I hf st hg
  subst hP hw hK
  obtain⟨xs,hq,hx⟩:=hg
  obtain⟨its,rv,p,hz⟩:=I.tuple hq
  obtain⟨f0,f1,f2,f3,f4,f5⟩:=hf it (by simp)
  have hl:=rv.length
  exact wpAny_pyNext_tuple_end (I.ok.hd hc) st (show s.heap.IsTuple a its.toArray from p) (by simp; omega) fun h' eb=>⟨rfl,I.turned (t':=s.toks) (fun b o hb e=>eb b o hb e) f0 f1 f3 f4 f5⟩
 self:=fun _ _ _ _ _ st h=>wpAny_pyIter_tupleiter st h
theorem g5d{P:Program}{w:World}{K:PySem.W.Frag}{tg:Expr}(it:Addr)(lo:Int)(n:Nat):Turn P w K tg (Itr lo n) [it] it (fun i h=>IsRangeIter h it (lo+(i:Nat)*1) ((n:Int) - (i:Nat)) 1) where
 mem:=by simp
 obj:=fun i h st b hb=>by
  have e:b=it:=by simpa using hb
  subst e
  exact⟨_,st,fun v z=>by
   have z':Data.fields _=Data.cell v:=z
   cases z'⟩
 keep:=fun i h h' st k=>k it (by simp) _ st
 item:=by
  intro X hP hw hK hc i pins s σ H E I hf st hg
  subst hP hw hK
  obtain⟨f0,f1,f2,f3,f4,f5⟩:=hf it (by simp)
  have W:=Walks.range (prog:=X.prog) (w:=X.w) (I.ok.hd hc) it lo 1 n
  refine W.item i s _ _ hg st fun v h' tk hv st' kk=>?_
  obtain⟨t,rfl⟩:=hv
  have I1:Inv X pins σ H { s with heap:=h',toks:=tk }:=I.turned (fun b o hb e=>kk b o (by simpa using hb) e) f0 f1 f3 f4 f5
  refine ⟨_, rfl, h1q (s := { s with heap := h', toks := tk }) (n := "range_iterator") st' rfl rfl (by decide) ⟨.int (lo + i), H, I1, ⟨t, ?_⟩, ⟨rfl, rfl⟩, st', fun b hb => (hf b hb).1⟩⟩
  rw [Int.mul_one]
 done:=by
  intro X hP hw hK hc i pins s σ H E I hf st hg
  subst hP hw hK
  obtain⟨f0,f1,f2,f3,f4,f5⟩:=hf it (by simp)
  exact wpAny_pyNext_range_end (I.ok.hd hc) st (by have:n<=i:=hg; omega) fun h' eb=>⟨rfl,I.turned (t':=s.toks) (fun b o hb e=>eb b o hb e) f0 f1 f3 f4 f5⟩
 self:=fun _ _ _ _ _ st h=>wpAny_pyIter_rangeiter st h
end L2
namespace L2
open PySem PySem.Spec PyProof.Rows
section
variable {X:Cx}{tg:Expr}
def h9r(K:PySem.W.Frag)(tl:TE):TI:=fun σ H R=>tl σ H fun x H1=>∃ a,x = .ref a/\(∃ xs,SqL K H1 a xs)/\R (Itl K a) H1
theorem h5w{l:Expr}{tl:TE}(hl:PE X l tl):PI X tg l (h9r X.K tl):=by
 intro pins s σ H R I h
 refine thn (hl pins s σ H _ I h) fun v s1 ⟨x,H1,I1,r1,q1⟩=>?_
 obtain⟨a,e,⟨xs,hq⟩,q⟩:=q1
 subst e
 cases r1
 obtain⟨its,rv,p,hz⟩:=I1.list hq
 refine wpAny_pyIter_list p.isList ?_
 refine⟨s1.heap.objs.size,[s1.heap.objs.size],_,_,H1,rfl,I1.kept (t':=s1.toks) fun b o e=>Heap.get?_push_of_some _ e,g7p a _,⟨_,Heap.get?_push_size _ rfl,rfl,rfl⟩,fun b hb=>?_,q⟩
 have e:b=s1.heap.objs.size:=by simpa using hb
 subst e
 exact I1.h1p (Nat.le_refl _) (I1.hok.fresh (Nat.le_refl _))
theorem h1r{pins:List (Addr×Obj)}{σ:St}{H:Hp}{s:Shared}{R:It->Hp->Prop}{E:Value->Shared->Prop}{lo hi:Int}{t u v:Tok}{tk:Nat}(I:Inv X pins σ H s)(h1 : -(2 ^ 62)<=lo)(h2:lo < 2 ^ 62)(h3 : -(2 ^ 62)<=hi)(h4:hi < 2 ^ 62)
  (q : R (Itr lo (hi - lo).toNat) H) : wpAny (model X.prog X.w) X.A (pyIter (.ref s.heap.objs.size)) (PIE X pins σ tg R) E { s with heap := s.heap.push { cls := .type "range", data := .fields #[.int lo t, .int hi u, .int 1 v] }, toks := tk } := by
 refine wpAny_pyIter_range (IsRange.new ..) (small_one h1 h2 h3 h4) ?_
 have I1 : Inv X pins σ H { s with heap := s.heap.push { cls := .type "range", data := .fields #[.int lo t, .int hi u, .int 1 v] }, toks := tk } := I.kept fun b o e => Heap.get?_push_of_some _ e
 refine ⟨(s.heap.push { cls := .type "range", data := .fields #[.int lo t, .int hi u, .int 1 v] }).objs.size, [(s.heap.push { cls := .type "range", data := .fields #[.int lo t, .int hi u, .int 1 v] }).objs.size], _, _, H, rfl,
  I1.kept (t':=tk) fun b o e=>Heap.get?_push_of_some _ e,g5d _ lo (hi - lo).toNat,?_,fun b hb=>?_,q⟩
 ·have e1:lo+((0:Nat):Int)*1=lo:=by simp
  have e2:(((hi - lo).toNat:Nat):Int) - ((0:Nat):Int)=Builtin.Range.rangeSize lo hi 1:=by rw [rangeSize_one]; split <;> omega
  show IsRangeIter _ _ (lo+((0:Nat):Int)*1) ((((hi - lo).toNat:Nat):Int) - ((0:Nat):Int)) 1
  rw [e1,e2]
  exact Heap.get?_push_size _ rfl
 ·have e : b = (s.heap.push { cls := .type "range", data := .fields #[.int lo t, .int hi u, .int 1 v] }).objs.size := by simpa using hb
  subst e
  exact I1.h1p (Nat.le_refl _) (I1.hok.fresh (Nat.le_refl _))
def h9s(ta:TA):TI:=fun σ H R=>ta σ H fun vs H1=>∃ j:Int,vs = [.int j] /\ -(2 ^ 62)<=j/\j < 2 ^ 62/\R (Itr 0 j.toNat) H1
theorem g7q {a : Expr} {ta : TA} {p pos : Pos} (hg : Gl X "range") (hm : X.mg "range" = none) (ha : PA X [a] ta) (hs : starEach [a] X.env = [(false, eval a X.env)] := by rfl) : PI X tg (.Call (.Name "range" p) [a] [] pos) (h9s ta) := by
 intro pins s σ H R I h
 refine Call_ (f7z I hg hm boot_range (PyProof.Rows.callWith_type1 (thn (ha pos pins s σ H _ I h) fun us s1 ⟨vs,H1,I1,r1,q1⟩=>?_) hs rfl))
 obtain⟨j,e,q1,q2,q⟩:=q1
 subst e
 cases r1 with
 | cons r rr =>
  cases rr
  obtain⟨t,rfl⟩:=r
  exact call_range_1 (h1r I1 (by omega) (by omega) q1 q2 (by simpa using q))
def tFor(wi:TI)(g:TG)(tb:TS):TS:=fun D σ H=>wi σ H fun J H1=>∃ W:Nat->Nat->St->Hp->Prop,(∃ m,W 0 m σ H1)/\∀ i m σ H,W i m σ H ->
 (J.stop i H/\D.nx σ H)\/(J.go i H/\∃ N:St->Hp->Prop,(∀ σ' H',N σ' H'->∃ m',m' < m/\W (i+1) m' σ' H')/\∀ x H',J.yld i H x H'->g x σ H' fun σ2 H2=>tb { D with nx:=N,ct:=N,bk:=D.nx } σ2 H2)
noncomputable def d8l(fp:List Addr)(h:Heap):List (Addr×Obj):=fp.filterMap fun b=>(h.get? b).map fun o=>(b,o)
theorem a9v{fp:List Addr}{h:Heap}{b:Addr}{o:Obj}(hb:b∈fp)(e:h.get? b=some o):(b,o)∈d8l fp h:=List.mem_filterMap.mpr ⟨b,hb,by rw [e]; rfl⟩
theorem g7r{fp:List Addr}{h:Heap}{p:Addr×Obj}(hp:p∈d8l fp h):p.1∈fp/\h.get? p.1=some p.2:=by
 obtain⟨b,hb,e⟩:=List.mem_filterMap.mp hp
 cases q:h.get? b with
 | none=>rw [q] at e; cases e
 | some o =>
  rw [q] at e
  have e':(b,o)=p:=Option.some.inj e
  subst e'
  exact⟨hb,q⟩
theorem Inv.pinned{pins:List (Addr×Obj)}{σ:St}{H:Hp}{s:Shared}{fp:List Addr}(I:Inv X pins σ H s)(hf:∀ b∈fp,d7s X pins H b)(ho:∀ b∈fp,∃ o,s.heap.get? b=some o/\∀ v,o.data≠.cell v):Inv X (pins++d8l fp s.heap) σ H s :=
 I.g7m fun p hp=>(List.mem_append.mp hp).elim (fun z=>I.pin p (List.mem_append_right _ z)) fun z=>by
  obtain⟨hb,e⟩:=g7r z
  obtain⟨f0,f1,f2,_⟩:=hf p.1 hb
  obtain⟨o,e',d⟩:=ho p.1 hb
  rw [e] at e'; cases e'
  exact⟨e,f0,f1,f2,d⟩
theorem Inv.d0j{pins pl:List (Addr×Obj)}{σ:St}{H:Hp}{s:Shared}(I:Inv X (pins++pl) σ H s):Inv X pins σ H s:=I.g7m fun p hp=>I.pin p (List.mem_append_right _ (List.mem_append_left _ hp))
theorem h9t{iter:Expr}{body:List Stmt}{wi:TI}{g:TG}{tb:TS}{pos:Pos}(hp:PassesOwn (model X.prog X.w) X.A X.env X.xe)(hc:X.calm=true)(hi:PI X tg iter wi)(hg:PG X tg g)(hb:PSs X body tb)
  (hs:∀ x,foldedSetIterable iter X.env x=pure x:=by intro _; rfl):PS X (.For tg iter body [] pos) (tFor wi g tb):=by
 intro pins s σ H D I h
 refine wpAny_For (thn (hi pins s σ H _ I h) fun v s1 h1=>thn h1 fun itv s2 h2=>?_) hs
 obtain⟨it,fp,tn,J,H2,e,I2,T,st2,f2,W,⟨m0,w0⟩,turn⟩:=h2
 subst e
 -- what stays true of the iterator's objects through the loop
 have stat:∀ {H':Hp},(∀ b∈fp,H' b=none)->∀ b∈fp,d7s X pins H' b:=fun hn b hb=>⟨hn b hb,(f2 b hb).2⟩
 refine codeAny_forLoop_any (fun n s'=>∃ i σ' H',Inv X pins σ' H' s'/\tn i s'.heap/\(∀ b∈fp,H' b=none)/\W i n σ' H') ?_ m0 ⟨0,σ,H2,I2,st2,fun b hb=>(f2 b hb).1,w0⟩
 rintro n s3 ⟨i,σ3,H3,I3,st3,fr3,w3⟩
 rcases turn i n σ3 H3 w3 with ⟨stop,qn⟩ | ⟨go,N,hN,step⟩
 ·refine wpAny_passesOwn hp (thn (T.done X rfl rfl rfl hc i pins s3 σ3 H3 X.xe I3 (stat fr3) st3 stop) fun r s4 ⟨hr,I4⟩=>?_)
  subst hr
  exact wpAny_execs_nil ⟨σ3,H3,I4,qn⟩
 ·refine wpAny_passesOwn hp (thn (T.item X rfl rfl rfl hc i pins s3 σ3 H3 X.xe I3 (stat fr3) st3 go) fun r s4 ⟨u,hr,h4⟩=>?_)
  subst hr
  refine wpAny_passesOwn hp (thn h4 fun _ s5 ⟨x,H5,I5,r5,y5,st5,fr5⟩=>?_)
  have I5':=I5.pinned (stat fr5) (T.obj _ _ st5)
  refine wpAny_passesOwn hp (thn (hg _ s5 σ3 H5 x u _ I5' r5 (step x H5 y5)) fun _ s6 ⟨σ6,H6,I6,q6⟩=>?_)
  refine wpAny_passesOwn hp (thn (hb _ s6 σ6 H6 _ I6 q6) fun f s7 q7=>?_)
  have again:∀ {σ7:St} {H7:Hp},Inv X (pins++d8l fp s5.heap) σ7 H7 s7->N σ7 H7->∃ m,m < n/\∃ i σ' H',Inv X pins σ' H' s7/\tn i s7.heap/\(∀ b∈fp,H' b=none)/\W i m σ' H':=fun {σ7 H7} I7 n7=>by
   obtain⟨m',hm,w7⟩:=hN σ7 H7 n7
   refine⟨m',hm,i+1,σ7,H7,I7.d0j,T.keep _ _ _ st5 fun b hb o e=>(I7.pin (b,o) (List.mem_append_right _ (List.mem_append_right _ (a9v hb e)))).1,fun b hb=>?_,w7⟩
   obtain⟨o,e,d⟩:=T.obj _ _ st5 b hb
   exact (I7.pin (b,o) (List.mem_append_right _ (List.mem_append_right _ (a9v hb e)))).2.1
  cases f with
  | next=>obtain⟨σ7,H7,I7,n7⟩:=q7; exact again I7 n7
  | cont=>obtain⟨σ7,H7,I7,n7⟩:=q7; exact again I7 n7
  | brk=>obtain⟨σ7,H7,I7,q7⟩:=q7; exact⟨σ7,H7,I7.d0j,q7⟩
  | ret v=>obtain⟨x7,σ7,H7,I7,r7,q7⟩:=q7; exact⟨x7,σ7,H7,I7.d0j,r7,q7⟩
end
theorem h1s{K:PySem.W.Frag}{a:Addr}{xs:List V}{g:TG}{tb:TS}{D:Ends}{σ:St}{H:Hp}(Pv:Nat->St->Hp->Prop)(h0:Pv 0 σ H)(hl:∀ i σ H,i<=xs.length->Pv i σ H->SqL K H a xs)
  (hs:∀ i x σ H,xs[i]? = some x->Pv i σ H->g x σ H fun σ2 H2=>tb { D with nx:=Pv (i+1),ct:=Pv (i+1),bk:=D.nx } σ2 H2) (hd:∀ σ H,Pv xs.length σ H->D.nx σ H) :
  ∃ W:Nat->Nat->St->Hp->Prop,(∃ m,W 0 m σ H)/\∀ i m σ H,W i m σ H ->
   ((Itl K a).stop i H/\D.nx σ H)\/((Itl K a).go i H/\∃ N:St->Hp->Prop,(∀ σ' H',N σ' H'->∃ m',m' < m/\W (i+1) m' σ' H')/\∀ x H',(Itl K a).yld i H x H'->g x σ H' fun σ2 H2=>tb { D with nx:=N,ct:=N,bk:=D.nx } σ2 H2):=by
 refine⟨fun i m σ H=>m=xs.length - i/\i<=xs.length/\Pv i σ H,⟨xs.length,by simp,Nat.zero_le _,h0⟩,?_⟩
 rintro i m σ H ⟨rfl,hi,p⟩
 have q:=hl i σ H hi p
 by_cases hlt:i < xs.length
 ·refine .inr ⟨⟨xs,xs[i],q,by simp [hlt]⟩,Pv (i+1),fun σ' H' p'=>⟨xs.length - (i+1),by omega,rfl,hlt,p'⟩,fun x H' y=>?_⟩
  obtain⟨e,y⟩:=y
  subst e
  exact hs i x σ _ (y xs q) p
 ·have e:i=xs.length:=by omega
  subst e
  exact .inl ⟨⟨xs,q,Nat.le_refl _⟩,hd σ H p⟩
theorem g7s{lo:Int}{n:Nat}{g:TG}{tb:TS}{D:Ends}{σ:St}{H:Hp}(Pv:Nat->St->Hp->Prop)(h0:Pv 0 σ H)
  (hs:∀ i σ H,i < n->Pv i σ H->g (.int (lo+i)) σ H fun σ2 H2=>tb { D with nx:=Pv (i+1),ct:=Pv (i+1),bk:=D.nx } σ2 H2) (hd:∀ σ H,Pv n σ H->D.nx σ H) :
  ∃ W:Nat->Nat->St->Hp->Prop,(∃ m,W 0 m σ H)/\∀ i m σ H,W i m σ H ->
   ((Itr lo n).stop i H/\D.nx σ H)\/((Itr lo n).go i H/\∃ N:St->Hp->Prop,(∀ σ' H',N σ' H'->∃ m',m' < m/\W (i+1) m' σ' H')/\∀ x H',(Itr lo n).yld i H x H'->g x σ H' fun σ2 H2=>tb { D with nx:=N,ct:=N,bk:=D.nx } σ2 H2):=by
 refine⟨fun i m σ H=>m=n - i/\i<=n/\Pv i σ H,⟨n,by simp,Nat.zero_le _,h0⟩,?_⟩
 rintro i m σ H ⟨rfl,hi,p⟩
 by_cases hlt:i < n
 ·refine .inr ⟨hlt,Pv (i+1),fun σ' H' p'=>⟨n - (i+1),by omega,rfl,hlt,p'⟩,fun x H' y=>?_⟩
  obtain⟨e,y⟩:=y
  subst e y
  exact hs i σ _ hlt p
 ·have e:i=n:=by omega
  subst e
  exact .inl ⟨Nat.le_refl _,hd σ H p⟩
end L2
namespace L2
open PySem PySem.Spec PyProof.Rows
noncomputable abbrev R2:=V->V->Hp->VK->Prop
def OpR(X:Cx)(f:Value->Value->Sem Value)(r:R2):Prop :=
 ∀ (pins:List (Addr×Obj)) (s:Shared) (σ:St) (H:Hp) (x y:V) (v u:Value) (Q:VK),Inv X pins σ H s->RelV x v->RelV y u->r x y H Q ->
  wpAny (model X.prog X.w) X.A (f v u) (EP X pins σ Q) X.xe s
def UnR(X:Cx)(f:Value->Sem Value)(r:V->Hp->VK->Prop):Prop :=
 ∀ (pins:List (Addr×Obj)) (s:Shared) (σ:St) (H:Hp) (x:V) (v:Value) (Q:VK),Inv X pins σ H s->RelV x v->r x H Q ->
  wpAny (model X.prog X.w) X.A (f v) (EP X pins σ Q) X.xe s
def c8j(X:Cx)(f:Value)(r:List V->Hp->VK->Prop):Prop :=
 ∀ (pins:List (Addr×Obj)) (s:Shared) (σ:St) (H:Hp) (xs:List V) (us:List Value) (Q:VK),Inv X pins σ H s->Vals xs us->r xs H Q ->
  wpAny (model X.prog X.w) X.A (call f us) (EP X pins σ Q) X.xe s
def tOp(r:R2)(ta tb:TE):TE:=fun σ H Q=>ta σ H fun x H1=>tb σ H1 fun y H2=>r x y H2 Q
def tUn(r:V->Hp->VK->Prop)(ta:TE):TE:=fun σ H Q=>ta σ H fun x H1=>r x H1 Q
def rI(C:Int->Int->Prop)(g:Int->Int->V):R2:=fun x y H Q=>∃ i j,x = .int i/\y = .int j/\C i j/\Q (g i j) H
def rI0(g:Int->Int->V):R2:=fun x y H Q=>∃ i j,x = .int i/\y = .int j/\Q (g i j) H
noncomputable def rU(g:Int->V):V->Hp->VK->Prop:=fun x H Q=>∃ i,x = .int i/\Q (g i) H
section
variable {X:Cx}{a b c:Expr}{ta tb tc:TE}{pos:Pos}
theorem i5c(ha:PE X a ta)(hb:PE X b tb){pins:List (Addr×Obj)}{s:Shared}{σ:St}{H:Hp}{R:V->V->Hp->Prop}(I:Inv X pins σ H s)
  (h:ta σ H fun x H1=>tb σ H1 fun y H2=>R x y H2) {Q:Value->Shared->Prop} {f:Value->Value->Sem Value}
  (hf:∀ v u s2 x y H2,Inv X pins σ H2 s2->RelV x v->RelV y u->R x y H2->wpAny (model X.prog X.w) X.A (f v u) Q X.xe s2) :
  wpAny (model X.prog X.w) X.A (eval a X.env) (fun v s₁=>wpAny (model X.prog X.w) X.A (eval b X.env) (fun u s₂=>wpAny (model X.prog X.w) X.A (f v u) Q X.xe s₂) X.xe s₁) X.xe s:=by
 refine thn (ha pins s σ H _ I h) fun v s1 ⟨x,H1,I1,r1,q1⟩=>?_
 refine thn (hb pins s1 σ H1 _ I1 q1) fun u s2 ⟨y,H2,I2,r2,q2⟩=>?_
 exact hf v u s2 x y H2 I2 r1 r2 q2
theorem a4u{op:Operator}{r:R2}(ho:OpR X (binaryOp op) r)(ha:PE X a ta)(hb:PE X b tb):PE X (.BinOp a op b pos) (tOp r ta tb):=by
 intro pins s σ H Q I h
 exact wpAny_BinOp (i5c ha hb I h fun v u s2 x y H2 I2 rx ry q=>ho pins s2 σ H2 x y v u Q I2 rx ry q)
theorem h5x{op:UnaryOp}{r:V->Hp->VK->Prop}(ho:UnR X (unaryOp op) r)(ha:PE X a ta):PE X (.UnaryOp op a pos) (tUn r ta):=by
 intro pins s σ H Q I h
 exact UnaryOp_ (thn (ha pins s σ H _ I h) fun v s1 ⟨x,H1,I1,r1,q1⟩=>ho pins s1 σ H1 x v Q I1 r1 q1)
theorem opI{f:Value->Value->Sem Value}{C:Int->Int->Prop}{g:Int->Int->Int}
  (rule:∀ (i j:Int) (t u:Tok) (s:Shared) (Q:Value->Shared->Prop) (E:Value->Shared->Prop),C i j->Q (.int (g i j) s.toks) { s with toks:=s.toks+1 }->wpAny (model X.prog X.w) X.A (f (.int i t) (.int j u)) Q E s) :
  OpR X f (rI C fun i j=>.int (g i j)):=by
 intro pins s σ H x y v u Q I rx ry h
 obtain⟨i,j,rfl,rfl,hc,q⟩:=h
 obtain⟨t,rfl⟩:=rx
 obtain⟨t',rfl⟩:=ry
 exact rule i j t t' s _ _ hc ⟨.int (g i j),H,I.tok _,⟨_,rfl⟩,q⟩
theorem i8c{f:Value->Value->Sem Value}{g:Int->Int->Int}
  (rule:∀ (i j:Int) (t u:Tok) (s:Shared) (Q:Value->Shared->Prop) (E:Value->Shared->Prop),Q (.int (g i j) s.toks) { s with toks:=s.toks+1 }->wpAny (model X.prog X.w) X.A (f (.int i t) (.int j u)) Q E s) :
  OpR X f (rI0 fun i j=>.int (g i j)):=by
 intro pins s σ H x y v u Q I rx ry h
 obtain⟨i,j,rfl,rfl,q⟩:=h
 obtain⟨t,rfl⟩:=rx
 obtain⟨t',rfl⟩:=ry
 exact rule i j t t' s _ _ ⟨.int (g i j),H,I.tok _,⟨_,rfl⟩,q⟩
theorem i4n{f:Value->Value->Sem Value}{g:Int->Int->Bool}
  (rule:∀ (i j:Int) (t u:Tok) (s:Shared) (Q:Value->Shared->Prop) (E:Value->Shared->Prop),Q (.bool (g i j)) s->wpAny (model X.prog X.w) X.A (f (.int i t) (.int j u)) Q E s) :
  OpR X f (rI0 fun i j=>.bl (g i j)):=by
 intro pins s σ H x y v u Q I rx ry h
 obtain⟨i,j,rfl,rfl,q⟩:=h
 obtain⟨t,rfl⟩:=rx
 obtain⟨t',rfl⟩:=ry
 exact rule i j t t' s _ _ ⟨.bl (g i j),H,I,rfl,q⟩
def i8d(i j:Int):Prop:=0<=j/\j<=1000000/\i.natAbs < 2 ^ 64
theorem h9u:OpR X (binaryOp .Add) (rI0 fun i j=>.int (i+j)):=i8c fun _ _ _ _ _ _ _ q=>add_int q
theorem h9v:OpR X (binaryOp .Sub) (rI0 fun i j=>.int (i - j)):=i8c fun _ _ _ _ _ _ _ q=>sub_int q
theorem h5y:OpR X (binaryOp .Mod) (rI (fun _ j=>j≠0) fun i j=>.int (i.fmod j)):=opI fun _ _ _ _ _ _ _ hc q=>mod_int' hc q
theorem h9w:OpR X (binaryOp .Pow) (rI i8d fun i j=>.int (i ^ j.toNat)):=opI fun _ _ _ _ _ _ _ hc q=>pow_int_small hc.1 hc.2.1 hc.2.2 q
theorem unI{f:Value->Sem Value}{g:Int->Int}
  (rule:∀ (i:Int) (t:Tok) (s:Shared) (Q:Value->Shared->Prop) (E:Value->Shared->Prop),Q (.int (g i) s.toks) { s with toks:=s.toks+1 }->wpAny (model X.prog X.w) X.A (f (.int i t)) Q E s) :
  UnR X f (rU fun i=>.int (g i)):=by
 intro pins s σ H x v Q I rx h
 obtain⟨i,rfl,q⟩:=h
 obtain⟨t,rfl⟩:=rx
 exact rule i t s _ _ ⟨.int (g i),H,I.tok _,⟨_,rfl⟩,q⟩
theorem h9x:UnR X (unaryOp .USub) (rU fun i=>.int (-i)):=unI fun _ _ _ _ _ q=>neg_int q
end
noncomputable def g7t:V->V->Bool
 | .non,.non=>true | .non,.int _=>true | .int _,.non=>true | .non,.bl _=>true | .bl _,.non=>true | .non,.str _=>true | .str _,.non=>true
 | .int _,.int _=>true | .bl _,.bl _=>true | .str _,.str _=>true | .byt _,.byt _=>true
 | .int _,.str _=>true | .str _,.int _=>true | .bl _,.str _=>true | .str _,.bl _=>true
 | _,_=>false
def rEq:R2:=fun x y H Q=>g7t x y=true/\Q (.bl (decide (x=y))) H
def rNe:R2:=fun x y H Q=>g7t x y=true/\Q (.bl (!decide (x=y))) H
theorem g7u{i j:Int}:decide (V.int i=V.int j)=(i == j):=by
 rw [Bool.eq_iff_iff]
 simp
theorem h4h{i j:Bool}:decide (V.bl i=V.bl j)=(i == j):=by
 rw [Bool.eq_iff_iff]
 simp
theorem g7v{i j:Str}:decide (V.str i=V.str j)=(i == j):=by
 rw [Bool.eq_iff_iff]
 simp
theorem g7w{i j:Array UInt8}:decide (V.byt i=V.byt j)=(i.toList == j.toList):=by
 rw [Bool.eq_iff_iff]
 cases i
 cases j
 simp
section
variable {X:Cx}{a b c:Expr}{ta tb tc:TE}{pos:Pos}
theorem a5h{pins:List (Addr×Obj)}{σ:St}{H:Hp}{s:Shared}{Q:VK}{k k':Bool}(I:Inv X pins σ H s)(q:Q (.bl k) H)(e:k=k'):EP X pins σ Q (.bool k') s:=by
 subst e
 exact⟨.bl k,H,I,rfl,q⟩
theorem i5d:OpR X (compareOp .Eq) rEq:=by
 intro pins s σ H x y v u Q I rx ry h
 obtain⟨hs,q⟩:=h
 cases x with
 | non =>
  cases rx
  cases y with
  | non=>cases ry; exact PySem.EqNone.eq_none_none (a5h I q (by simp))
  | bl j=>cases ry; exact PySem.EqNone.eq_none_bool (a5h I q (by simp))
  | int j=>obtain⟨t',rfl⟩:=ry; exact PySem.EqNone.eq_none_int (a5h I q (by simp))
  | str j=>obtain⟨t',rfl⟩:=ry; exact PySem.EqNone.eq_none_str (a5h I q (by simp))
  | _=>exact absurd (show false=true from hs) Bool.false_ne_true
 | bl i =>
  cases rx
  cases y with
  | non=>cases ry; exact PySem.EqNone.eq_bool_none (a5h I q (by simp))
  | bl j=>cases ry; exact eq_bool (a5h I q h4h)
  | str j=>obtain⟨t',rfl⟩:=ry; exact PySem.EqMixed.eq_bool_str (a5h I q (by simp))
  | _=>exact absurd (show false=true from hs) Bool.false_ne_true
 | int i =>
  obtain⟨t,rfl⟩:=rx
  cases y with
  | non=>cases ry; exact PySem.EqNone.eq_int_none (a5h I q (by simp))
  | int j=>obtain⟨t',rfl⟩:=ry; exact eq_int (a5h I q g7u)
  | str j=>obtain⟨t',rfl⟩:=ry; exact PySem.EqMixed.eq_int_str (a5h I q (by simp))
  | _=>exact absurd (show false=true from hs) Bool.false_ne_true
 | str i =>
  obtain⟨t,rfl⟩:=rx
  cases y with
  | non=>cases ry; exact PySem.EqNone.eq_str_none (a5h I q (by simp))
  | bl j=>cases ry; exact PySem.EqMixed.eq_str_bool (a5h I q (by simp))
  | int j=>obtain⟨t',rfl⟩:=ry; exact PySem.EqMixed.eq_str_int (a5h I q (by simp))
  | str j=>obtain⟨t',rfl⟩:=ry; exact eq_str (a5h I q g7v)
  | _=>exact absurd (show false=true from hs) Bool.false_ne_true
 | byt i =>
  obtain⟨t,rfl⟩:=rx
  cases y with
  | byt j=>obtain⟨t',rfl⟩:=ry; exact PySem.W.eq_bytes (a5h I q g7w)
  | _=>exact absurd (show false=true from hs) Bool.false_ne_true
 | _=>cases y <;> exact absurd (show false=true from hs) Bool.false_ne_true
theorem i5e:OpR X (compareOp .NotEq) rNe:=by
 intro pins s σ H x y v u Q I rx ry h
 obtain⟨hs,q⟩:=h
 cases x with
 | non =>
  cases rx
  cases y with
  | non=>cases ry; exact PySem.EqNone.ne_none_none (a5h I q (by simp))
  | bl j=>cases ry; exact PySem.EqNone.ne_none_bool (a5h I q (by simp))
  | int j=>obtain⟨t',rfl⟩:=ry; exact PySem.EqNone.ne_none_int (a5h I q (by simp))
  | str j=>obtain⟨t',rfl⟩:=ry; exact PySem.EqNone.ne_none_str (a5h I q (by simp))
  | _=>exact absurd (show false=true from hs) Bool.false_ne_true
 | bl i =>
  cases rx
  cases y with
  | non=>cases ry; exact PySem.EqNone.ne_bool_none (a5h I q (by simp))
  | bl j=>cases ry; exact ne_bool (a5h I q (congrArg not h4h))
  | str j=>obtain⟨t',rfl⟩:=ry; exact PySem.EqMixed.ne_bool_str (a5h I q (by simp))
  | _=>exact absurd (show false=true from hs) Bool.false_ne_true
 | int i =>
  obtain⟨t,rfl⟩:=rx
  cases y with
  | non=>cases ry; exact PySem.EqNone.ne_int_none (a5h I q (by simp))
  | int j=>obtain⟨t',rfl⟩:=ry; exact ne_int (a5h I q (congrArg not g7u))
  | str j=>obtain⟨t',rfl⟩:=ry; exact PySem.EqMixed.ne_int_str (a5h I q (by simp))
  | _=>exact absurd (show false=true from hs) Bool.false_ne_true
 | str i =>
  obtain⟨t,rfl⟩:=rx
  cases y with
  | non=>cases ry; exact PySem.EqNone.ne_str_none (a5h I q (by simp))
  | bl j=>cases ry; exact PySem.EqMixed.ne_str_bool (a5h I q (by simp))
  | int j=>obtain⟨t',rfl⟩:=ry; exact PySem.EqMixed.ne_str_int (a5h I q (by simp))
  | str j=>obtain⟨t',rfl⟩:=ry; exact ne_str (a5h I q (congrArg not g7v))
  | _=>exact absurd (show false=true from hs) Bool.false_ne_true
 | byt i =>
  obtain⟨t,rfl⟩:=rx
  cases y with
  | byt j=>obtain⟨t',rfl⟩:=ry; exact PySem.W.ne_bytes (a5h I q (congrArg not g7w))
  | _=>exact absurd (show false=true from hs) Bool.false_ne_true
 | _=>cases y <;> exact absurd (show false=true from hs) Bool.false_ne_true
theorem i5f:OpR X (compareOp .Lt) (rI0 fun i j=>.bl (decide (i < j))):=i4n fun _ _ _ _ _ _ _ q=>lt_int q
theorem i5g:OpR X (compareOp .LtE) (rI0 fun i j=>.bl (decide (i<=j))):=i4n fun _ _ _ _ _ _ _ q=>le_int q
theorem i5h:OpR X (compareOp .Gt) (rI0 fun i j=>.bl (decide (j < i))):=i4n fun _ _ _ _ _ _ _ q=>gt_int q
theorem i5i:OpR X (compareOp .GtE) (rI0 fun i j=>.bl (decide (j<=i))):=i4n fun _ _ _ _ _ _ _ q=>ge_int q
theorem g7x:OpR X (compareOp .In) (fun x y H Q=>∃ i j,x = .str i/\y = .str j/\Q (.bl (!(Builtin.Str.occurrences j i 0 j.length 1).isEmpty)) H):=by
 intro pins s σ H x y v u Q I rx ry h
 obtain⟨i,j,rfl,rfl,q⟩:=h
 obtain⟨t,rfl⟩:=rx
 obtain⟨t',rfl⟩:=ry
 exact in_str (a5h I q rfl)
theorem g3k:OpR X (compareOp .Is) (fun x y H Q=>y = .non/\Q (.bl (decide (x = .non))) H):=by
 intro pins s σ H x y v u Q I rx ry h
 obtain⟨rfl,q⟩:=h
 cases ry
 refine is_none_gen (a5h I q ?_)
 cases x <;> first
  | (cases rx; rfl)
  | (obtain⟨t,rfl⟩:=rx; rfl)
theorem h5z:OpR X (compareOp .IsNot) (fun x y H Q=>y = .non/\Q (.bl (!decide (x = .non))) H):=by
 intro pins s σ H x y v u Q I rx ry h
 obtain⟨rfl,q⟩:=h
 cases ry
 refine isnot_none_gen (a5h I q ?_)
 cases x <;> first
  | (cases rx; rfl)
  | (obtain⟨t,rfl⟩:=rx; rfl)
theorem a1i(b:Expr){op:CmpOp}(h:op≠.In:=by decide)(h2:op≠.NotIn:=by decide):behindInMarks op b=false:=by
 have e1:(op == CmpOp.In)=false:=by cases op <;> first | rfl | exact absurd rfl h
 have e2:(op == CmpOp.NotIn)=false:=by cases op <;> first | rfl | exact absurd rfl h2
 cases b <;> simp [behindInMarks,e1,e2]
theorem b3y{op:CmpOp}{r:R2}(ho:OpR X (compareOp op) r)(ha:PE X a ta)(hb:PE X b tb)(hm:behindInMarks op b=false):PE X (.Compare a [op] [b] pos) (tOp r ta tb):=by
 intro pins s σ H Q I h
 exact wpAny_Compare1 (i5c ha hb I h fun v u s2 x y H2 I2 rx ry q=>ho pins s2 σ H2 x y v u Q I2 rx ry q) hm
def h9y(t:TE):TT:=fun σ H Q=>t σ H fun x H'=>∃ k,x = .bl k/\Q k H'
theorem h6a{op:CmpOp}{r:R2}(ho:OpR X (compareOp op) r)(ha:PE X a ta)(hb:PE X b tb)(hm:behindInMarks op b=false):PT X (.Compare a [op] [b] pos) (h9y (tOp r ta tb)):=by
 intro pins s σ H Q I h
 refine wpAny_isTrue_Compare1 (thn (ha pins s σ H _ I h) fun v s1 ⟨x,H1,I1,r1,q1⟩=>thn (hb pins s1 σ H1 _ I1 q1) fun u s2 ⟨y,H2,I2,r2,q2⟩ =>
  thn (ho pins s2 σ H2 x y v u _ I2 r1 r2 q2) fun c s3 ⟨z,H3,I3,r3,k,e,q3⟩=>?_) hm
 subst e
 cases r3
 exact wpAny_truthy_bool ⟨H3,I3,q3⟩
def h4i(r r':R2)(ta tb tc:TE):TE:=fun σ H Q=>ta σ H fun x H1=>tb σ H1 fun y H2=>r x y H2 fun z H3=>∃ k,z = .bl k /\
 (if k=true then tc σ H3 fun w' H4=>r' y w' H4 Q else Q (.bl false) H3)
theorem h1t{op op':CmpOp}{r r':R2}(ho:OpR X (compareOp op) r)(ho':OpR X (compareOp op') r')(ha:PE X a ta)(hb:PE X b tb)(hc:PE X c tc)
  (hm:lastMarks [op,op'] [b,c]=false:=by with_unfolding_all rfl):PE X (.Compare a [op,op'] [b,c] pos) (h4i r r' ta tb tc):=by
 intro pins s σ H Q I h
 refine Compare_chain (thn (ha pins s σ H _ I h) fun v s1 ⟨x,H1,I1,r1,q1⟩=>chain_link (thn (hb pins s1 σ H1 _ I1 q1) fun u s2 ⟨y,H2,I2,r2,q2⟩ =>
  thn (ho pins s2 σ H2 x y v u _ I2 r1 r2 q2) fun d s3 ⟨z,H3,I3,r3,k,e,q3⟩=>?_)) hm
 subst e
 cases r3
 refine wpAny_truthy_bool ?_
 cases k with
 | false=>exact ite_ff ⟨.bl false,H3,I3,rfl,q3⟩
 | true=>exact ite_tt (chain_last (thn (hc pins s3 σ H3 _ I3 q3) fun w' s4 ⟨z',H4,I4,r4,q4⟩=>ho' pins s4 σ H4 y z' u w' Q I4 r2 r4 q4))
theorem f8h:(sizeLine:Nat) < 2 ^ 63:=by rw [sizeLine_eq]; decide
theorem g5e:OpR X (binaryOp .Add) (fun x y H Q=>∃ i j,x = .str i/\y = .str j/\i.length+j.length<=sizeLine/\Q (.str (i++j)) H):=by
 intro pins s σ H x y v u Q I rx ry h
 obtain⟨i,j,rfl,rfl,hz,q⟩:=h
 obtain⟨t,rfl⟩:=rx
 obtain⟨t',rfl⟩:=ry
 exact add_str (fun t' tk=>⟨.str (i++j),H,I.tok _,⟨_,rfl⟩,q⟩) hz
theorem vals1{x:V}{us:List Value}(r:Vals [x] us):∃ u,us = [u]/\RelV x u:=by
 cases r with
 | cons r1 r2=>cases r2; exact⟨_,rfl,r1⟩
theorem vals2{x y:V}{us:List Value}(r:Vals [x,y] us):∃ u w',us = [u,w']/\RelV x u/\RelV y w':=by
 cases r with
 | cons r1 r2 =>
  cases r2 with
  | cons r3 r4=>cases r4; exact⟨_,_,rfl,r1,r3⟩
theorem h1u : c8j X (.builtin "abs") (fun xs H Q => ∃ i, xs = [.int i] ∧ Q (.int (if i < 0 then -i else i)) H) := by
 intro pins s σ H xs us Q I r h
 obtain⟨i,rfl,q⟩:=h
 obtain⟨u,rfl,t,rfl⟩:=vals1 r
 exact call_abs_int fun u tk=>⟨.int (if i < 0 then -i else i),H,I.tok _,⟨_,rfl⟩,q⟩
theorem f8i : c8j X (.type "int") (fun xs H Q => (∃ i, xs = [.int i] ∧ Q (.int i) H) ∨ ∃ k, xs = [.bl k] ∧ Q (.int (if k then 1 else 0)) H) := by
 intro pins s σ H xs us Q I r h
 rcases h with ⟨i,rfl,q⟩ | ⟨k,rfl,q⟩
 ·obtain⟨u,rfl,t,rfl⟩:=vals1 r
  exact call_int_int ⟨.int i,H,I,⟨_,rfl⟩,q⟩
 ·obtain⟨u,rfl,r1⟩:=vals1 r
  cases r1
  exact call_int_bool ⟨.int (if k then 1 else 0),H,I.tok _,⟨_,rfl⟩,q⟩
theorem f8j : c8j X (.type "str") (fun xs H Q => ∃ i, xs = [.int i] ∧ i.natAbs.log2 < 1920 ∧ Q (.str (toString i)) H) := by
 intro pins s σ H xs us Q I r h
 obtain⟨i,rfl,hz,q⟩:=h
 obtain⟨u,rfl,t,rfl⟩:=vals1 r
 exact PySem.P.str_of_int hz ⟨.str _,H,I.tok _,⟨_,rfl⟩,q⟩
end
end L2
namespace L2
open PySem PySem.Spec PyProof.Rows
structure h6b(h:Heap)(x dx C:Addr)(mA:Str->Option Value):Prop where
 obj:h.get? x=some (PySem.W.instObj C dx)
 ns:h.Ns1 dx mA
 ne:dx≠x
theorem g7y{h:Heap}{dx:Addr}{mA:Str->Option Value}(n:h.Ns1 dx mA):∃ od,h.get? dx=some od/\∀ name,PySem.W.lookIn name od=some (mA name):=by
 obtain⟨o,es,ep,ho,hd,hk,_,hm⟩:=n
 refine⟨o,ho,fun name=>?_⟩
 have e:=hm name
 unfold nsFind findBy at e
 rw [<- Array.find?_toList] at e
 unfold PySem.W.lookIn
 rw [hd]
 dsimp only
 split
 ·rename_i y q
  rw [q] at e
  exact congrArg some e
 ·rename_i q
  rw [q] at e
  have a:es.toList.any (·.refKey)=false:=by
   rw [List.any_eq_false]
   intro y hy
   obtain⟨z,t,hkey⟩:=hk y (Array.mem_toList_iff.mp hy)
   simp [DictEntry.refKey,hkey]
  have a':¬ es.toList.any (·.refKey)=true:=by rw [a]; exact Bool.false_ne_true
  rw [if_neg a']
  exact congrArg some e
theorem h6b.look{h:Heap}{x dx C:Addr}{mA:Str->Option Value}(I:h6b h x dx C mA):∃ od,PySem.W.InstAt h x (PySem.W.instObj C dx) C (some od)/\∀ name,PySem.W.lookIn name od=some (mA name) :=
 let ⟨od,ho,hl⟩:=g7y I.ns
 ⟨od,⟨I.obj,rfl,rfl,ho⟩,hl⟩
section
variable {prog:Program}{w:World}{A:Around}{E:Value->Shared->Prop}{s:Shared}{K:PySem.W.Frag}{x dx C f:Addr}{mA:Str->Option Value}{name:Str}{v:Value}
theorem get_map{expr:Bool}{Q:Value->Shared->Prop}(X:K.In s.heap)(I:h6b s.heap x dx C mA)(hg:PySem.W.plainGet K C name=true)(hh:PySem.W.hasDictIn K C=true)
  (ha:PySem.W.findIn K (.ref C) name=some none) (hv:mA name=some v) (hv':PySem.W.handedIn v=true) (h:Q v { s with toks:=s.toks+1 }) :
  wpAny (model prog w) A (getAttr (.ref x) name expr) Q E s:=by
 obtain⟨od,J,hl⟩:=I.look
 exact PySem.W.get_value X J (PySem.W.plainGet_of hg).1 (PySem.W.findObj_own hh ha rfl (by rw [hl,hv])) hv' h
theorem h1v{pl:Sem Bool}{Q:Value×List Value->Shared->Prop}(X:K.In s.heap)(I:h6b s.heap x dx C mA)(hg:PySem.W.plainGet K C name=true)
  (hf:PySem.W.findIn K (.ref C) name=some (some (.ref f))) (ht:PySem.W.isFn K (.ref f)=true) (hv:mA name=none) (h:Q (.ref f,[.ref x]) s) :
  wpAny (model prog w) A (getMethod (.ref x) name pl) Q E s:=by
 obtain⟨od,J,hl⟩:=I.look
 exact PySem.W.method_fn X J (PySem.W.plainGet_of hg).1 (PySem.W.plainGet_of hg).2 hf (beq_iff_eq.mp ht) (by show (PySem.W.lookIn name od).map (·.isSome)=some false; rw [hl,hv]; rfl) h
theorem h6c{ns:List Str}{Q:Unit->Shared->Prop}(X:K.In s.heap)(I:h6b s.heap x dx C mA)
  (hs : PySem.W.findIn K (.ref C) "__setattr__" = some (some (.builtin "object.__setattr__"))) (hp : PySem.W.plainOver K C = true) (ht : PySem.W.takerIn K C name = some none) (hh : PySem.W.hasDictIn K C = true)
  (hw:PySem.Within mA ns) (hsz:ns.length<=sizeLine)
  (h:∀ h',h6b h' x dx C (fun y=>if y=name then some v else mA y)->Heap.SameBut dx s.heap h'->Q () { s with heap:=h',toks:=s.toks+2 }) :
  wpAny (model prog w) A (setAttr (.ref x) name v) Q E s:=by
 obtain⟨od,J,hl⟩:=I.look
 refine PySem.W.set_plain X J hs (PySem.W.osa_open (s:={ s with toks:=s.toks+1 }) (r:=none) X J hp ht fun b=>?_)
 obtain⟨cd,hc,hd'⟩:=PySem.W.any_some hh
 have hx:s.heap.get? x=some ⟨.ref C,some dx,.plain,#[]⟩:=I.obj
 refine wpAny_bind (wpAny_pure (wpAny_bind (wpAny_bind (wpAny_loadPart hx (wpAny_bind (PySem.W.Looks.here (s:={ s with toks:=s.toks+1 }) (PySem.W.looks_clsIn X hc) ?_))))))
 rw [hd']
 refine wpAny_pure (a:=some dx) (wpAny_bind (wpAny_pure (wpAny_bind ?_)))
 refine wpAny_nsSet1 (s:={ s with toks:=s.toks+1 }) I.ns fun h' hn2 hs2=>?_
 obtain⟨oD,esD,epD,hoD,hdD,hcD⟩:=hn2.count (PySem.Within.cons name v hw)
 refine wpAny_bind (wpAny_lookBehind hoD (by rw [hdD]; exact pastItsLine_dict (Nat.le_trans hcD (by rw [List.length_cons]; omega))) ?_)
 exact wpAny_pure (h _ ⟨(hs2.2 _ (Ne.symm I.ne)).trans I.obj,hn2,I.ne⟩ hs2)
theorem h1w{R:Result->Shared->Prop}{vs:List Value}{kw:List (Str×Value)}(X:K.In s.heap)(hm:PySem.W.makesIn K C=true)
  (hi : PySem.W.findIn K (.ref C) "__init__" = some (some (.ref f))) (hf : PySem.W.typeIn K (.ref f) = some (.type "function"))
  (h : codeAny (model prog w) (A.under (.builtin "type.__call__" ⟨.ref C :: vs, kw⟩)) (.call (.ref f) ⟨.ref (s.heap.objs.size + 1) :: vs, kw⟩) (PySem.W.InitBack (s.heap.objs.size + 1) R)
   { s with heap:=(s.heap.push PySem.W.emptyDict).push (PySem.W.instObj C s.heap.objs.size) }) :
  codeAny (model prog w) A (.call (.ref C) ⟨vs,kw⟩) R s:=by
 obtain⟨hh,g,d,t,os⟩:=s
 exact PySem.W.make_core (PySem.W.makes_of X hm) (PySem.W.looks_findIn X hi) (fun self=>PySem.W.bind_fn X self hf) (.inl rfl) h
end
noncomputable def d8m(f:Str)(v:V):List (Str×V)->List (Str×V)
 | []=>[(f,v)]
 | (g,x) :: r=>if g=f then (g,v) :: r else (g,x) :: d8m f v r
theorem d8n(f g:Str)(v:V):∀ fs:List (Str×V),(d8m f v fs).lookup g=if g=f then some v else fs.lookup g
 | []=>by
  show List.lookup g [(f,v)]=_
  by_cases h:g=f
  ·have hb:(g == f)=true:=beq_iff_eq.mpr h
   simp only [List.lookup,hb,if_pos h]
  ·have hb:(g == f)=false:=beq_eq_false_iff_ne.mpr h
   simp only [List.lookup,hb,if_neg h]
 | (k,x) :: r=>by
  have ih:=d8n f g v r
  rw [show d8m f v ((k,x) :: r)=(if k=f then (k,v) :: r else (k,x) :: d8m f v r) from rfl]
  by_cases hk:k=f
  ·rw [if_pos hk]
   by_cases h:g=k
   ·have hb:(g == k)=true:=beq_iff_eq.mpr h
    simp only [List.lookup,hb,if_pos (h.trans hk)]
   ·have hb:(g == k)=false:=beq_eq_false_iff_ne.mpr h
    simp only [List.lookup,hb,if_neg (fun e:g=f=>h (e.trans hk.symm))]
  ·rw [if_neg hk]
   by_cases h:g=k
   ·have hb:(g == k)=true:=beq_iff_eq.mpr h
    simp only [List.lookup,hb,if_neg (fun e:g=f=>hk (h.symm.trans e))]
   ·have hb:(g == k)=false:=beq_eq_false_iff_ne.mpr h
    simp only [List.lookup,hb]
    exact ih
theorem d8o(f:Str)(v:V):∀ fs:List (Str×V),f∈(d8m f v fs).map (·.1)/\∀ g,g∈fs.map (·.1)->g∈(d8m f v fs).map (·.1)
 | []=>⟨by simp [d8m],fun g h=>by simp at h⟩
 | (k,x) :: r=>by
  obtain⟨i1,i2⟩:=d8o f v r
  rw [show d8m f v ((k,x) :: r)=(if k=f then (k,v) :: r else (k,x) :: d8m f v r) from rfl]
  by_cases hk:k=f
  ·rw [if_pos hk]
   subst hk
   exact⟨by simp,fun g h=>by simpa using h⟩
  ·rw [if_neg hk]
   refine⟨?_,fun g h=>?_⟩
   ·rw [List.map_cons]
    exact List.mem_cons_of_mem _ i1
   ·rw [List.map_cons] at h ⊢
    rcases List.mem_cons.mp h with e | e
    ·exact List.mem_cons.mpr (.inl e)
    ·exact List.mem_cons_of_mem _ (i2 g e)
theorem d8p(f:Str)(v:V):∀ fs:List (Str×V),(d8m f v fs).length<=fs.length+1
 | []=>by simp [d8m]
 | (k,x) :: r=>by
  have ih:=d8p f v r
  rw [show d8m f v ((k,x) :: r)=(if k=f then (k,v) :: r else (k,x) :: d8m f v r) from rfl]
  by_cases hk:k=f
  ·rw [if_pos hk,List.length_cons,List.length_cons]; omega
  ·rw [if_neg hk,List.length_cons,List.length_cons]; omega
theorem g7e.some_of{v:V}{o:Option Value}(r:g7e (some v) o):∃ u,o=some u/\RelV v u:=by
 cases o with
 | none=>exact (show False from r).elim
 | some u=>exact⟨u,rfl,r⟩
theorem g7e.none_of{o:Option Value}(r:g7e none o):o=none:=by
 cases o with
 | none=>rfl
 | some u=>exact (show False from r).elim
theorem g7z{v:V}{u:Value}(r:RelV v u):PySem.W.handedIn u=true:=by
 cases v with
 | non=>cases (show u=Value.none from r); rfl
 | bl b=>cases (show u=Value.bool b from r); rfl
 | int i=>obtain⟨t,e⟩:=(show ∃ t,u=Value.int i t from r); cases e; rfl
 | str x=>obtain⟨t,e⟩:=(show ∃ t,u=Value.str x t from r); cases e; rfl
 | byt b=>obtain⟨t,e⟩:=(show ∃ t,u=Value.bytes b t from r); cases e; rfl
 | flt b=>obtain⟨t,e⟩:=(show ∃ t,u=Value.float b t from r); cases e; rfl
 | ref a=>cases (show u=Value.ref a from r); rfl
 | ty n=>cases (show u=Value.type n from r); rfl
section
variable {P:Program}{w:World}{H H':Hp}{h h':Heap}{a C dx:Addr}{fs fs':List (Str×V)}
theorem f5k(hok:HOk P w H h)(e:H a=some (.ins C dx fs)):∃ mA,h6b h a dx C mA/\(∀ f,g7e (fs.lookup f) (mA f))/\PySem.Within mA (fs.map (·.1))/\fs.length<=1000/\H dx=some (.own a):=by
 obtain⟨d,z,ne,ob,mA,n,r,q⟩:=(show b8y P w H h a (.ins C dx fs) from hok a _ e)
 exact⟨mA,⟨ob,n,ne⟩,r,q,z,d⟩
end
structure Cls(K:PySem.W.Frag)(C:Addr):Prop where
 pg:PySem.W.plainGet K C Str.empty=true
 hd:PySem.W.hasDictIn K C=true
 po:PySem.W.plainOver K C=true
 sa : PySem.W.findIn K (.ref C) "__setattr__" = some (some (.builtin "object.__setattr__"))
theorem Cls.get{K:PySem.W.Frag}{C:Addr}(c:Cls K C)(f:Str):PySem.W.plainGet K C f=true:=c.pg
def a3y(K:PySem.W.Frag)(C:Addr)(f:Str):Prop:=PySem.W.findIn K (.ref C) f=some none
theorem a3y.taker{K:PySem.W.Frag}{C:Addr}{f:Str}(n:a3y K C f):PySem.W.takerIn K C f=some none:=by
 unfold PySem.W.takerIn
 rw [show PySem.W.findIn K (.ref C) f=some none from n]
 rfl
structure Con(K:PySem.W.Frag)(C:Addr)(f:Str)(v:V)(u:Value):Prop where
 at_:PySem.W.findIn K (.ref C) f=some (some u)
 rel:RelV v u
 get : PySem.W.specialIn K u "__get__" = some none
 cp:PySem.W.copiedNames.contains f=false
structure Meth(K:PySem.W.Frag)(C:Addr)(m:Str)(f:Addr):Prop where
 at_:PySem.W.findIn K (.ref C) m=some (some (.ref f))
 fn:PySem.W.isFn K (.ref f)=true
 kp:PySem.W.keepIn K (.ref f)=true
section
variable {X:Cx}{pins:List (Addr×Obj)}{σ:St}{H:Hp}{s:Shared}{a C dx:Addr}{fs:List (Str×V)}{f:Str}{v:V}{A:Around}{E:Value->Shared->Prop}
theorem g5f{b:Bool}{Q:Value->Shared->Prop}(I:Inv X pins σ H s)(e:H a=some (.ins C dx fs))(c:Cls X.K C)(n:a3y X.K C f)(l:fs.lookup f=some v)
  (h:∀ u s',Inv X pins σ H s'->RelV v u->Q u s'):wpAny (model X.prog X.w) A (getAttr (.ref a) f b) Q E s:=by
 obtain⟨mA,O,r,_,_,_⟩:=f5k I.hok e
 obtain⟨u,hu,ru⟩:=g7e.some_of (v:=v) (o:=mA f) (by rw [<- l]; exact r f)
 exact get_map I.kIn O (c.get f) c.hd n hu (g7z ru) (h u _ (I.tok _) ru)
theorem g5g{m:Str}{g:Addr}{pl:Sem Bool}{Q:Value×List Value->Shared->Prop}(I:Inv X pins σ H s)(e:H a=some (.ins C dx fs))(c:Cls X.K C)(k:Meth X.K C m g)(l:fs.lookup m=none)
  (h:Q (.ref g,[.ref a]) s):wpAny (model X.prog X.w) A (getMethod (.ref a) m pl) Q E s:=by
 obtain⟨mA,O,r,_,_,_⟩:=f5k I.hok e
 have hn:mA m=none:=g7e.none_of (by rw [<- l]; exact r m)
 exact h1v I.kIn O (c.get m) k.at_ k.fn hn h
theorem g5h{y:V}{u:Value}{Q:Unit->Shared->Prop}(I:Inv X pins σ H s)(e:H a=some (.ins C dx fs))(c:Cls X.K C)(n:a3y X.K C f)(hl:fs.length < 1000)(ry:RelV y u)
  (h:∀ s',Inv X pins σ (upd H a (.ins C dx (d8m f y fs))) s'->Q () s'):wpAny (model X.prog X.w) A (setAttr (.ref a) f u) Q E s:=by
 obtain⟨mA,O,r,wi,_,ho⟩:=f5k I.hok e
 have hz:(fs.map (·.1)).length<=sizeLine:=by rw [List.length_map,sizeLine_eq]; omega
 refine h6c I.kIn O c.sa c.po n.taker c.hd wi hz fun h' O' sb=>h _ ?_
 have hd:∃ o,h'.get? dx=some o:=let ⟨o,_,_,e',_⟩:=O'.ns; ⟨o,e'⟩
 refine I.write (x:=a) (e:=dx) (by rw [e]; exact True.intro) (.inr ho) (fun b q hb z=>(sb.2 b hb).trans z) hd ?_
 refine⟨by rw [a4v O.ne]; exact ho,?_,O.ne,O'.obj,_,O'.ns,fun g=>?_,fun g hg=>?_⟩
 ·have:=d8p f y fs; omega
 ·show g7e ((d8m f y fs).lookup g) (if g=f then some u else mA g)
  rw [d8n]
  by_cases q:g=f
  ·rw [if_pos q,if_pos q]; exact ry
  ·rw [if_neg q,if_neg q]; exact r g
 ·by_cases q:g=f
  ·rw [q]; exact (d8o f y fs).1
  ·refine (d8o f y fs).2 g (wi g fun z=>hg ?_)
   show (if g=f then some u else mA g)=none
   rw [if_neg q]; exact z
theorem Inv.made(I:Inv X pins σ H s):Inv X pins σ (upd (upd H s.heap.objs.size (.own (s.heap.objs.size+1))) (s.heap.objs.size+1) (.ins C s.heap.objs.size []))
  { s with heap:=(s.heap.push PySem.W.emptyDict).push (PySem.W.instObj C s.heap.objs.size) }:=by
 have e1:(s.heap.push PySem.W.emptyDict).get? s.heap.objs.size=some PySem.W.emptyDict:=Heap.get?_push_size s.heap rfl
 have e2:((s.heap.push PySem.W.emptyDict).push (PySem.W.instObj C s.heap.objs.size)).get? (s.heap.objs.size+1)=some (PySem.W.instObj C s.heap.objs.size):=by
  have:=Heap.get?_push_size (s.heap.push PySem.W.emptyDict) (o:=PySem.W.instObj C s.heap.objs.size) rfl
  rwa [Heap.size_push] at this
 have e3:(s.heap.push PySem.W.emptyDict).Ns s.heap.objs.size (fun _=>none):=⟨PySem.W.emptyDict,#[],_,e1,rfl,(fun e he=>absurd he (by simp)),fun _=>rfl⟩
 have I1:=I.laid (a:=s.heap.objs.size) (o:=.own (s.heap.objs.size+1)) (h':=s.heap.push PySem.W.emptyDict) (t':=s.toks) (fun b u q=>Heap.get?_push_of_some _ q) (Nat.le_refl _) ⟨_,e1⟩
 refine I1.laid (a:=s.heap.objs.size+1) (o:=.ins C s.heap.objs.size []) (t':=s.toks) (fun b u q=>Heap.get?_push_of_some _ q) (Nat.le_of_eq (Heap.size_push _ _)) ?_
 have ne:s.heap.objs.size≠s.heap.objs.size+1:=Nat.ne_of_lt (Nat.lt_succ_self _)
 refine⟨by rw [a4v ne,a5j],Nat.zero_le _,ne,e2,fun _=>none,(Heap.Ns1.of_empty e3).at fun o q=>Heap.get?_push_of_some _ q,fun _=>True.intro,fun y hy=>absurd rfl hy⟩
theorem h6d{prog:Program}{w:World}{env:Env}{e:Expr}{f:Str}{pos:Pos}{s:Shared}{Q:Value->Shared->Prop}(hb:attributeBase e f env (eval e env)=eval e env)
  (h:wpAny (model prog w) A (eval e env) (fun o s₁=>wpAny (model prog w) A (getAttr o f true) Q E s₁) E s):wpAny (model prog w) A (eval (.Attribute e f pos) env) Q E s :=
 Attribute_any_ h (by rw [arm_eval_Attribute,hb])
end
def i8e(K:PySem.W.Frag)(ta:TE)(f:Str):TE:=fun σ H Q=>ta σ H fun x H1=>∃ a C dx fs v,x = .ref a/\H1 a=some (.ins C dx fs)/\Cls K C/\a3y K C f/\fs.lookup f=some v/\Q v H1
section
variable {X:Cx}{o e value:Expr}{f:Str}{pos pos' tpos:Pos}{ta tv:TE}
theorem h9z(he:PE X e ta)(hb:attributeBase e f X.env (eval e X.env)=eval e X.env):PE X (.Attribute e f pos) (i8e X.K ta f):=by
 intro pins s σ H Q I h
 refine h6d hb (thn (he pins s σ H _ I h) fun u s1 ⟨x,H1,I1,rx,a,C,dx,fs,v,ex,ea,c,n,l,q⟩=>?_)
 subst ex
 obtain rfl:u=Value.ref a:=rx
 exact g5f I1 ea c n l fun u' s2 I2 ru=>⟨v,H1,I2,ru,q⟩
end
section
variable {X:Cx}{pins:List (Addr×Obj)}{σ:St}{H:Hp}{s:Shared}{A:Around}{E:Value->Shared->Prop}{Q:Value->Shared->Prop}{c:Value}{b:Bool}
inductive g5i(K:PySem.W.Frag)(H:Hp):V->Value->Prop where
 | non : g5i K H .non (.type "NoneType")
 | bl (x : Bool) : g5i K H (.bl x) (.type "bool")
 | int (i : Int) : g5i K H (.int i) (.type "int")
 | str (x : Str) : g5i K H (.str x) (.type "str")
 | flt (x : UInt64) : g5i K H (.flt x) (.type "float")
 | lst {a : Addr} {xs : List V} (e : H a = some (.lst xs)) : g5i K H (.ref a) (.type "list")
 | frz {a : Addr} {o : Obj} {xs : List V} (e : H a = some (.frz o (.lst xs))) : g5i K H (.ref a) (.type "list")
 | tup {a : Addr} {xs : List V} (e : H a = some (.tup xs)) : g5i K H (.ref a) (.type "tuple")
 | dK {a : Addr} {kvs : List (Key × V)} (e : H a = some (.dK kvs)) : g5i K H (.ref a) (.type "dict")
 | dT {a : Addr} {kvs : List (List Key × V)} (e : H a = some (.dT kvs)) : g5i K H (.ref a) (.type "dict")
 | ins {a C dx : Addr} {fs : List (Str × V)} (e : H a = some (.ins C dx fs)) (cl : Cls K C) (ha : PySem.W.findIn K (.ref C) "__class__" = some (some (.builtin "object.__class__")))
   (hn : PySem.W.specialIn K (.builtin "object.__class__") "__get__" = some (some (.builtin "getset_descriptor.__get__"))) (htk : PySem.W.takesIn K (.builtin "object.__class__") = some true)
   (hm : PySem.W.mroIn K C (.type "object") = some true) : g5i K H (.ref a) (.ref C)
theorem d8q{x:V}{u t:Value}(I:Inv X pins σ H s)(rx:RelV x u)(ty:g5i X.K H x t)(e:PySem.W.kitOne X.K t c=some b)(h:∀ tk,Q (.bool b) { s with toks:=tk }) :
  wpAny (model X.prog X.w) A (call (.builtin "isinstance") [u, c]) Q E s := by
 cases ty with
 | non=>cases (show u=Value.none from rx); exact PySem.W.kia_one PySem.W.kitx_none I.kIn True.intro e (fun z=>nomatch z) h
 | bl y=>cases (show u=Value.bool y from rx); exact PySem.W.kia_one PySem.W.kitx_bool I.kIn True.intro e (fun z=>nomatch z) h
 | int i=>obtain⟨t,q⟩:=(show ∃ t,u=Value.int i t from rx); cases q; exact PySem.W.kia_one PySem.W.kitx_int I.kIn True.intro e (fun z=>nomatch z) h
 | str y=>obtain⟨t,q⟩:=(show ∃ t,u=Value.str y t from rx); cases q; exact PySem.W.kia_one PySem.W.kitx_str I.kIn True.intro e (fun z=>nomatch z) h
 | flt y=>obtain⟨t,q⟩:=(show ∃ t,u=Value.float y t from rx); cases q; exact PySem.W.kia_one PySem.W.kitx_float I.kIn True.intro e (fun z=>nomatch z) h
 | @lst a xs ea =>
  cases (show u=Value.ref a from rx)
  obtain⟨_,_,n,_,h1⟩:=(show b8y X.prog X.w H s.heap a (.lst xs) from I.hok a _ ea)
  exact PySem.W.kia_one PySem.W.kitx_list I.kIn ⟨_,h1,rfl⟩ e (fun z=>nomatch z) h
 | @frz a ob xs ea =>
  cases (show u=Value.ref a from rx)
  obtain⟨_,_,_,n,_,h1⟩:=(show b8y X.prog X.w H s.heap a (.frz ob (.lst xs)) from I.hok a _ ea)
  exact PySem.W.kia_one PySem.W.kitx_list I.kIn ⟨_,h1,rfl⟩ e (fun z=>nomatch z) h
 | @tup a xs ea =>
  cases (show u=Value.ref a from rx)
  obtain⟨_,_,_,p⟩:=(show b8y X.prog X.w H s.heap a (.tup xs) from I.hok a _ ea)
  obtain⟨o,h1,h2,_⟩:=p
  exact PySem.W.kia_one PySem.W.kitx_tuple I.kIn ⟨o,h1,h2⟩ e (fun z=>nomatch z) h
 | @dK a kvs ea =>
  cases (show u=Value.ref a from rx)
  obtain⟨_,_,vs,_,p⟩:=(show b8y X.prog X.w H s.heap a (.dK kvs) from I.hok a _ ea)
  obtain⟨o,es,ep,h1,h2,_⟩:=p
  exact PySem.W.kia_one PySem.W.kitx_dict I.kIn ⟨o,h1,h2.1⟩ e (fun z=>nomatch z) h
 | @dT a kvs ea =>
  cases (show u=Value.ref a from rx)
  obtain⟨_,_,xs,_,o,es,ep,h1,h2,_⟩:=(show b8y X.prog X.w H s.heap a (.dT kvs) from I.hok a _ ea)
  exact PySem.W.kia_one PySem.W.kitx_dict I.kIn ⟨o,h1,h2.1⟩ e (fun z=>nomatch z) h
 | @ins a C dx fs ea cl ha hn htk hm =>
  cases (show u=Value.ref a from rx)
  obtain⟨mA,O,_⟩:=f5k I.hok ea
  obtain⟨od,J,_⟩:=O.look
  exact PySem.W.kia_one (PySem.W.kitx_own (cl.get _) cl.hd ha hn htk hm) I.kIn J e (fun z=>nomatch z) h
end
end L2
namespace L2
open PySem PySem.Spec PyProof.Rows
structure a1y(k:Nat)(A:Around):Prop where
 hd:A.handled=none
 dp:A.depth+3*k+5 < recursionLimit
 un:A.units+16*k+200 < cLine
theorem a1y.mono{j k:Nat}{A:Around}(r:a1y k A)(h:j<=k):a1y j A:=⟨r.hd,by have:=r.dp; omega,by have:=r.un; omega⟩
theorem a1y.deeper{k:Nat}{A:Around}(r:a1y (k+1) A)(env:Env):a1y k (A.deeper env) :=
 ⟨r.hd,by have:=r.dp; show A.depth+1+3*k+5 < _; omega,by have:=r.un; show A.units+3+16*k+200 < _; omega⟩
theorem g5j {A : Around} {C : Addr} {us : List Value} {kw : List (Str × Value)} : (A.under (.builtin "type.__call__" ⟨.ref C :: us, kw⟩)).depth = A.depth + 1 := by
 first | rfl | simp [Around.under,Code.weight,Code.isCreation,Code.isGuard,Code.isCaller,Code.frames,Code.isFrame,guardIds]
theorem g5k {A : Around} {C : Addr} {us : List Value} {kw : List (Str × Value)} : (A.under (.builtin "type.__call__" ⟨.ref C :: us, kw⟩)).units = A.units + 1 := by
 first | rfl | simp [Around.under,Code.cUnits,Code.frames,Code.isFrame]
theorem a1y.make {k : Nat} {A : Around} (r : a1y (k + 1) A) (C : Addr) (us : List Value) (kw : List (Str × Value)) : a1y k (A.under (.builtin "type.__call__" ⟨.ref C :: us, kw⟩)) :=
 ⟨r.hd,by have:=r.dp; rw [g5j]; omega,by have:=r.un; rw [g5k]; omega⟩
theorem a1y.depth{k:Nat}{A:Around}(r:a1y k A):A.depth < recursionLimit:=by have:=r.dp; omega
theorem a1y.units{k:Nat}{A:Around}(r:a1y k A):A.units+64 < cLine:=by have:=r.un; omega
def h1x:TA:=fun _ H Q=>Q [] H
def i5j(ta:TE)(tr:TA):TA:=fun σ H Q=>ta σ H fun x H1=>tr σ H1 fun xs H2=>Q (x :: xs) H2
section
variable {X:Cx}{e:Expr}{es:List Expr}{te:TE}{t:TA}{pos:Pos}
theorem a0h:PA X [] h1x:=fun _ _ _ _ H Q I h=>Calls.spliced_nil ⟨[],H,I,.nil,h⟩
theorem a0g(ha:PE X e te)(hr:PA X es t)(hs:starEach (e :: es) X.env=(false,eval e X.env) :: starEach es X.env:=by rfl):PA X (e :: es) (i5j te t):=by
 intro pos pins s σ H Q I h
 rw [hs]
 show wpAny _ _ (spliced ((false,eval e X.env) :: backTo pos (starEach es X.env))) _ _ s
 refine Calls.spliced_cons (thn (ha pins s σ H _ I h) fun u s1 ⟨x,H1,I1,r1,q1⟩=>?_)
 exact thn (hr pos pins s1 σ H1 _ I1 q1) fun us s2 ⟨xs,H2,I2,r2,q2⟩=>⟨x :: xs,H2,I2,.cons r1 r2,q2⟩
end
noncomputable abbrev Sp:=List V->Hp->VK->XK->Prop
noncomputable abbrev CXT:=List Env->Hp->Shared->XK->Value->Shared->Prop
structure h4j(P:Program)(w:World)(K:PySem.W.Frag)(mg:Str->Option Value)(base:Heap)(A:Around)(outer:List Env)(s:Shared)(H:Hp):Prop where
 frames:A.frames=some outer
 mod:Mod K mg base
 bs:∀ b o,base.get? b=some o->s.heap.get? b=some o/\H b=none
 bsz:base.objs.size<=s.heap.objs.size
 g5b:s.heap.FunFrames base outer
 frf:∀ b∈frs outer,H b=none
 hok:HOk P w H s.heap
 bare:AllBare s.gens
def CE(outer:List Env)(P:Program)(w:World)(H:Hp)(s:Shared)(Q:VK)(u:Value)(s':Shared):Prop :=
 ∃ v H',s'.os=s.os/\AllBare s'.gens/\Un (frs outer) [] H H' s.heap s'.heap/\HOk P w H' s'.heap/\RelV v u/\Q v H'
def CR(CX:CXT)(outer:List Env)(P:Program)(w:World)(H:Hp)(s:Shared)(Q:VK)(E:XK)(r:Result)(s':Shared):Prop :=
 match r with
 | .ok (.ret u)=>CE outer P w H s Q u s'
 | .ok _=>False
 | .error e=>CX outer H s E e s'
structure a1g(P:Program)(w:World)(K:PySem.W.Frag)(mg:Str->Option Value)(base:Heap)(CX:CXT)(k:Nat)(f:Addr)(fd:FuncData)(ps:List Str)(sp:Sp):Prop where
 len:∀ vs H Q E,sp vs H Q E->vs.length=ps.length
 run:∀ (A:Around) (outer:List Env) (s:Shared) (H:Hp) (args:Args) (us:List Value) (vs:List V) (Q:VK) (E:XK),a1y k A->h4j P w K mg base A outer s H->BindsTo s fd args (ps.zip us)->Vals vs us->sp vs H Q E ->
  codeAny (model P w) A (.call (.ref f) args) (CR CX outer P w H s Q E) s
theorem h4j.make{P:Program}{w:World}{K:PySem.W.Frag}{mg:Str->Option Value}{base:Heap}{A:Around}{outer:List Env}{s:Shared}{H:Hp}(e:h4j P w K mg base A outer s H)(C:Addr)(us:List Value)(kw:List (Str×Value)) :
  h4j P w K mg base (A.under (.builtin "type.__call__" ⟨.ref C :: us, kw⟩)) outer s H := ⟨by first | exact e.frames | (simpa [Around.under, Code.envs, Code.isFrame, pushEnvs] using e.frames), e.mod, e.bs, e.bsz, e.g5b, e.frf, e.hok, e.bare⟩
section
variable {X:Cx}{pins:List (Addr×Obj)}{σ:St}{H:Hp}{s s':Shared}
theorem Inv.env0(I:Inv X pins σ H s):h4j X.prog X.w X.K X.mg X.base X.A X.stack s H :=
 ⟨I.ok.frames,I.ok.mod,I.bs,Nat.le_trans I.ok.bsz I.sz,I.stack,I.f5h,I.hok,I.bare⟩
theorem Inv.after{Q:VK}{u:Value}(I:Inv X pins σ H s)(h:CE X.stack X.prog X.w H s Q u s'):EP X pins σ Q u s':=by
 obtain⟨v,H',os,bare,un,hok,r,q⟩:=h
 obtain⟨hh,g,d,t,os'⟩:=s'
 obtain rfl:os'=s.os:=os
 exact⟨v,H',I.call (h':=hh) (g':=g) (d':=d) (t':=t) (ch:=[]) un hok bare (fun b z=>absurd z (by simp)),r,q⟩
end
def h1y(sp:Sp)(dvs:List V)(E:XK)(t:TA):TE:=fun σ H Q=>t σ H fun vs H1=>sp (vs++dvs) H1 Q E
def Binds(K:PySem.W.Frag)(fd:FuncData)(ps:List Str)(ds:List Value):Prop :=
 ∀ (s:Shared) (us:List Value),K.In s.heap->(us++ds).length=ps.length->BindsTo s fd ⟨us,[]⟩ (ps.zip (us++ds))
theorem Binds.all{K:PySem.W.Frag}{fd:FuncData}{ps:List Str}(h:∀ us:List Value,us.length=ps.length->bindArgs fd ⟨us,[]⟩=pure (ps.zip us)):Binds K fd ps []:=fun s us _ hl=>by
 rw [List.append_nil] at hl ⊢
 exact .of_eq (h us hl)
def Passes(CX:CXT)(X:Cx)(E:XK):Prop:=∀ (pins:List (Addr×Obj)) (σ:St) (H:Hp) (s:Shared) (e:Value) (s':Shared),Inv X pins σ H s->CX X.stack H s E e s'->X.xe e s'
section
variable {X:Cx}{CX:CXT}{k:Nat}{f C:Addr}{fd:FuncData}{ps:List Str}{sp:Sp}{dvs:List V}{ds:List Value}{E:XK}{x m:Str}{p pos apos:Pos}{e o:Expr}{es:List Expr}{ta:TE}{t:TA}
theorem g8a{pins:List (Addr×Obj)}{σ:St}{H:Hp}{s:Shared}{Q:VK}{us:List Value}{vs:List V}(F:a1g X.prog X.w X.K X.mg X.base CX k f fd ps sp)(hr:a1y k X.A)(hb:Binds X.K fd ps ds)(hd:Vals dvs ds)(hx:Passes CX X E)
  (I:Inv X pins σ H s) (r:Vals vs us) (h:sp (vs++dvs) H Q E):wpAny (model X.prog X.w) X.A (call (.ref f) us) (EP X pins σ Q) X.xe s:=by
 have r2:Vals (vs++dvs) (us++ds):=r.append hd
 have hl:(us++ds).length=ps.length:=by rw [<- r2.length]; exact F.len _ _ _ _ h
 refine wpAny_call (codeAny_mono (F.run X.A X.stack s H ⟨us,[]⟩ (us++ds) (vs++dvs) Q E hr I.env0 (hb s us I.kIn hl) r2 h) fun r s' hq=>?_)
 cases r with
 | error e=>exact hx pins σ H s e s' I hq
 | ok fl =>
  cases fl with
  | ret u=>exact I.after hq
  | next=>exact False.elim hq
  | brk=>exact False.elim hq
  | cont=>exact False.elim hq
theorem a0l(F:a1g X.prog X.w X.K X.mg X.base CX k f fd ps sp)(hr:a1y k X.A)(hg:Gl X x)(hm:X.mg x=some (.ref f))(hk:PySem.W.keepIn X.K (.ref f)=true)(hb:Binds X.K fd ps ds)(hd:Vals dvs ds)(hx:Passes CX X E)
  (ha : PA X (e :: es) t) (hdb : (x == ("__debug__" : Str)) = false := by decide) (he : starEach (e :: es) X.env = (false, eval e X.env) :: starEach es X.env := by rfl) (hpl : (backTo pos (starEach es X.env)).any (·.1) = false := by rfl) :
  PE X (.Call (.Name x p) (e :: es) [] pos) (h1y sp dvs E t):=by
 intro pins s σ H Q I h
 refine wpAny_Call_Name_kw (c6n I hg hm ?_ hdb)
 refine PySem.W.callWith_K (h₀:=X.base) I.ok.mod.kin hk (thn (ha pos pins s σ H _ I h) fun us s1 ⟨vs,H1,I1,r,q⟩=>⟨I1.kIn,?_⟩) he hpl
 exact g8a F hr hb hd hx I1 r q
structure Mk(K:PySem.W.Frag)(C f:Addr):Prop where
 makes:PySem.W.makesIn K C=true
 init : PySem.W.findIn K (.ref C) "__init__" = some (some (.ref f))
 fn:PySem.W.isFn K (.ref f)=true
 kp:PySem.W.keepIn K (.ref C)=true
theorem h1z{pins:List (Addr×Obj)}{σ:St}{H:Hp}{s:Shared}{Q:VK}{us:List Value}{vs:List V}(M:Mk X.K C f)(F:a1g X.prog X.w X.K X.mg X.base CX k f fd ps sp)(hr:a1y (k+1) X.A)(hb:Binds X.K fd ps ds)(hd:Vals dvs ds)
  (hx:Passes CX X E) (I:Inv X pins σ H s) (r:Vals vs us)
  (h:∀ x dx,H x=none->H dx=none->dx≠x->sp (.ref x :: (vs++dvs)) (upd (upd H dx (.own x)) x (.ins C dx [])) (fun v H2=>v = .non/\Q (.ref x) H2) E) :
  wpAny (model X.prog X.w) X.A (call (.ref C) us) (EP X pins σ Q) X.xe s:=by
 have hq:=h (s.heap.objs.size+1) s.heap.objs.size (I.hok.fresh (Nat.le_succ _)) (I.hok.fresh (Nat.le_refl _)) (Nat.ne_of_lt (Nat.lt_succ_self _))
 have I2:=Inv.made (C:=C) I
 have r2:Vals (V.ref (s.heap.objs.size+1) :: (vs++dvs)) (Value.ref (s.heap.objs.size+1) :: (us++ds)):=.cons rfl (r.append hd)
 have hl:(Value.ref (s.heap.objs.size+1) :: us++ds).length=ps.length:=by
  have e:=r2.length
  rw [F.len _ _ _ _ hq] at e
  exact e.symm
 refine wpAny_call (h1w (f:=f) I.kIn M.makes M.init (beq_iff_eq.mp M.fn) (codeAny_mono (F.run _ X.stack _ _ ⟨Value.ref (s.heap.objs.size+1) :: us,[]⟩ (Value.ref (s.heap.objs.size+1) :: (us++ds)) _ _ E (hr.make C us [])
  (I2.env0.make C us []) (hb _ (Value.ref (s.heap.objs.size+1) :: us) I2.kIn hl) r2 hq) fun r s' hq'=>?_))
 cases r with
 | error e=>exact hx pins σ _ _ e s' I2 hq'
 | ok fl =>
  cases fl with
  | ret u =>
   obtain⟨v,H',I3,rv,ev,q3⟩:=I2.after hq'
   subst ev
   exact⟨rv,⟨V.ref (s.heap.objs.size+1),H',I3,rfl,q3⟩⟩
  | next=>exact False.elim hq'
  | brk=>exact False.elim hq'
  | cont=>exact False.elim hq'
end
section
variable {X:Cx}{CX:CXT}{k:Nat}{f C:Addr}{fd:FuncData}{ps ks:List Str}{sp:Sp}{E:XK}{x m:Str}{p pos apos kpos:Pos}{e o:Expr}{es:List Expr}{kws:List Keyword}{te ta:TE}{t tk:TA}{nm:Option Str}
structure i8f(K:PySem.W.Frag)(fd:FuncData)(ps ks:List Str)(g:List Value->List Value->List Value)(gV:List V->List V->List V):Prop where
 to:∀ (s:Shared) (us ws:List Value),K.In s.heap->(g us ws).length=ps.length->BindsTo s fd ⟨us,ks.zip ws⟩ (ps.zip (g us ws))
 rel:∀ {vs:List V} {us:List Value} {zs:List V} {ws:List Value},Vals vs us->Vals zs ws->Vals (gV vs zs) (g us ws)
variable {g:List Value->List Value->List Value}{gV:List V->List V->List V}
end
structure a0v(N P:List Str)(sc:Scope):Prop where
 kind:sc.kind = .function
 co:sc.isCoroutine=false
 gen:sc.isGenerator=false
 nd:N.Nodup
 pre:N.take P.length=P
 par:∀ x∈P,sc.names.lookup x=some .local\/sc.names.lookup x=some .cell
 i0a:∀ y∈sc.names,y.2≠.free
theorem f8k{kindOf:Str->Option NameKind}{x:Str}:∀ {binds:List (Str×Value)} {m:Str->Option Value},(∀ v,(x,v)∉binds)->bindL kindOf binds m x=m x
 | [],_,_=>rfl
 | (n,v) :: r,m,h=>by
  unfold bindL
  rw [f8k fun w hw=>h w (List.mem_cons_of_mem _ hw)]
  split
  ·have:x≠n:=by rintro rfl; exact h v List.mem_cons_self
   simp [this]
  ·rfl
theorem f8l{kindOf:Str->Option NameKind}{x:Str}:∀ {binds:List (Str×Value)} {m:Str->Option Value},(∀ v,(x,v)∉binds)->bindC kindOf binds m x=m x
 | [],_,_=>rfl
 | (n,v) :: r,m,h=>by
  unfold bindC
  rw [f8l fun w hw=>h w (List.mem_cons_of_mem _ hw)]
  split
  ·rfl
  ·have:x≠n:=by rintro rfl; exact h v List.mem_cons_self
   simp [this]
theorem f8m{kindOf:Str->Option NameKind}{x:Str}{v:Value}:∀ {P:List Str} {vs:List Value} {i:Nat} {m:Str->Option Value},P.Nodup->P[i]? = some x->vs[i]? = some v->kindOf x=some .local ->
  bindL kindOf (P.zip vs) m x=some v
 | [],_,_,_,_,h,_,_=>by simp at h
 | _ :: _,[],_,_,_,_,h,_=>by simp at h
 | p :: P,w :: vs,0,m,nd,h1,h2,hk=>by
  simp at h1 h2; subst h1; subst h2
  show bindL kindOf ((p,w) :: P.zip vs) m p=_
  unfold bindL
  rw [f8k fun v hv=>(List.nodup_cons.mp nd).1 (List.of_mem_zip hv).1,if_pos hk]
  simp
 | p :: P,w :: vs,i+1,m,nd,h1,h2,hk=>by
  show bindL kindOf ((p,w) :: P.zip vs) m x=_
  unfold bindL
  exact f8m (i:=i) (List.nodup_cons.mp nd).2 (by simpa using h1) (by simpa using h2) hk
theorem f8n{kindOf:Str->Option NameKind}{x:Str}{v:Value}:∀ {P:List Str} {vs:List Value} {i:Nat} {m:Str->Option Value},P.Nodup->P[i]? = some x->vs[i]? = some v->kindOf x≠some .local ->
  bindC kindOf (P.zip vs) m x=some v
 | [],_,_,_,_,h,_,_=>by simp at h
 | _ :: _,[],_,_,_,_,h,_=>by simp at h
 | p :: P,w :: vs,0,m,nd,h1,h2,hk=>by
  simp at h1 h2; subst h1; subst h2
  show bindC kindOf ((p,w) :: P.zip vs) m p=_
  unfold bindC
  rw [f8l fun v hv=>(List.nodup_cons.mp nd).1 (List.of_mem_zip hv).1,if_neg hk]
  simp
 | p :: P,w :: vs,i+1,m,nd,h1,h2,hk=>by
  show bindC kindOf ((p,w) :: P.zip vs) m x=_
  unfold bindC
  exact f8n (i:=i) (List.nodup_cons.mp nd).2 (by simpa using h1) (by simpa using h2) hk
noncomputable def start(N:List Str)(vs:List V):St:=vs.map some++List.replicate (N.length - vs.length) none
def g7f(CX:CXT)(P:Program)(w:World)(K:PySem.W.Frag)(mg:Str->Option Value)(base:Heap)(N:List Str)(qual:Str)(scope:Scope)(f:Addr)(cd:Value)(A:Around)(outer:List Env)(s:Shared)(H:Hp)(E:XK):Cx where
 prog:=P
 w:=w
 K:=K
 mg:=mg
 base:=base
 A:=A.deeper (envOfC qual scope s.heap.objs.size f cd)
 N:=N
 s₀:=s
 H₀:=H
 env:=envOfC qual scope s.heap.objs.size f cd
 outer:=outer
 stack:=envOfC qual scope s.heap.objs.size f cd :: outer
 ex:=[]
 calm:=true
 fn:=fun _=>true
 pn:=[]
 xe:=fun e s'=>wpAny (model P w) (A.deeper (envOfC qual scope s.heap.objs.size f cd)) (leaving (envOfC qual scope s.heap.objs.size f cd) e) (fun _ s''=>CX outer H s E e s'') (fun e' s''=>CX outer H s E e' s'') s'
theorem g3l{sc:Scope}{n:Nat}{x:Str}(h:sc.names.lookup x=some .cell):∃ c,(cellsFrom n sc.names []).lookup x=some c:=by
 have q:=PySem.W.cellsFrom_some sc.names n [] (.inl h)
 exact Option.isSome_iff_exists.mp q
theorem g8b{CX:CXT}{P:Program}{w:World}{K:PySem.W.Frag}{mg:Str->Option Value}{base:Heap}{N ps:List Str}{qual:Str}{scope:Scope}{f:Addr}{cd:Value}{A:Around}{outer:List Env}{s s1:Shared}{H:Hp}{E:XK}{us:List Value}{vs:List V}
  (S:a0v N ps scope) (hd:A.handled=none) (e0:h4j P w K mg base A outer s H) (hl:vs.length=ps.length) (r:Vals vs us)
  (x:InCallC s s.heap.objs.size (bindL (envOfC qual scope s.heap.objs.size f cd).kindOf (ps.zip us) fun _=>none) (cellsFrom (s.heap.objs.size+1) scope.names []) (bindC (envOfC qual scope s.heap.objs.size f cd).kindOf (ps.zip us) fun _=>none) s1) :
  Inv (g7f CX P w K mg base N qual scope f cd A outer s H E) [] (start N vs) H s1:=by
 have hpl:ps.length<=N.length:=by have:=congrArg List.length S.pre; rw [List.length_take] at this; omega
 obtain⟨h1,tk,rfl,hk⟩:=x.done
 have noA:∀ b:Addr,b∉(g7f CX P w K mg base N qual scope f cd A outer s H E).ex:=fun b z=>absurd (show b∈([] : List Addr) from z) (by simp)
 refine⟨⟨e0.mod,S.kind,rfl,rfl,Nat.le_refl _,fun y z c h1 h2=>?_,fun y hy=>?_,fun y c _ h=>?_,fun _=>hd,Around.frames_deeper e0.frames,.inr ⟨rfl,rfl⟩,fun b z=>absurd z (noA b),e0.bs,e0.bsz,fun b _ _=>noA b,fun b z=>absurd z (noA b),e0.g5b,e0.frf⟩,
  rfl,e0.bare,Un.kept hk,⟨_,x.toInCall.ns,fun i y v h1 h2 h3=>?_⟩,fun y c h=>⟨_,x.cell y c h⟩,e0.hok.fresh (Nat.le_refl _),fun y c h=>?_,fun p hp=>absurd (show p∈([] : List (Addr×Obj)) from hp) (by simp),e0.hok.kept hk,?_⟩
 ·exact name_of_addr x.apart (PySem.mem_of_lookup h1) (PySem.mem_of_lookup h2)
 ·have hy:scope.names.lookup y=some .cell\/scope.names.lookup y=some .free:=hy
  rcases hy with hy | hy
  ·exact g3l hy
  ·exact absurd rfl (S.i0a _ (PySem.mem_of_lookup hy))
 ·exact Nat.le_of_lt (x.above y c (PySem.mem_of_lookup h))
 ·have hi:i < vs.length:=by
   unfold start at h2
   by_cases hi:i < vs.length
   ·exact hi
   ·rw [List.getElem?_append_right (by simpa using hi)] at h2
    rw [List.getElem?_replicate] at h2
    split at h2 <;> cases h2
  have ha:vs[i]? = some v:=by
   unfold start at h2
   rw [List.getElem?_append_left (by simpa using hi),List.getElem?_map] at h2
   cases e:vs[i]? with
   | none=>rw [e] at h2; cases h2
   | some a=>rw [e] at h2; cases h2; rfl
  obtain⟨u,hu,rv⟩:=r.get ha
  have hp:ps[i]? = some y:=by
   rw [<- S.pre,List.getElem?_take_of_lt (by omega)]; exact h1
  have ndP:ps.Nodup:=by rw [<- S.pre]; exact S.nd.sublist (List.take_sublist _ _)
  refine⟨u,rv,?_⟩
  rcases S.par y (List.mem_of_getElem? hp) with k | k
  ·exact .inl ⟨k,f8m ndP hp hu k⟩
  ·obtain⟨c,e⟩:=g3l (n:=s.heap.objs.size+1) k
   refine .inr ⟨.inl k,c,e,?_⟩
   have q:=x.cell y c e
   rw [f8n ndP hp hu (by show scope.names.lookup y≠_; rw [k]; decide)] at q
   exact q
 ·exact e0.hok.fresh (Nat.le_of_lt (x.above y c (PySem.mem_of_lookup h)))
 ·unfold start
  show _=N.length
  rw [List.length_append,List.length_map,List.length_replicate]
  omega
theorem h6e{CX:CXT}{P:Program}{w:World}{K:PySem.W.Frag}{mg:Str->Option Value}{base:Heap}{k:Nat}{f:Addr}{name qual:Str}{params:Arguments}{body:List Stmt}{scope:Scope}{dV kV doc pm cdv ct oc:Value}{an od:Option Addr}
  {osl:Array (Option Value)} {N ps:List Str} {sp:Sp} (lk:K.lookup f=some ⟨oc,od,.func (PySem.W.fnOf name qual params body scope dV kV doc pm an cdv ct),osl⟩) (hcd:PySem.W.codeIn K cdv qual=true) (S:a0v N ps scope)
  (len:∀ vs H Q E,sp vs H Q E->vs.length=ps.length)
  (hbody:∀ (A:Around) (outer:List Env) (s:Shared) (H:Hp) (vs:List V) (Q:VK) (E:XK),a1y k (A.deeper (envOfC qual scope s.heap.objs.size f cdv))->sp vs H Q E ->
   ∃ t,PSs (g7f CX P w K mg base N qual scope f cdv A outer s H E) body t/\t { nx:=fun _ H'=>Q .non H',rt:=Q } (start N vs) H) :
  a1g P w K mg base CX (k+1) f (PySem.W.fnOf name qual params body scope dV kV doc pm an cdv ct) ps sp:=by
 refine⟨len,fun A outer s H args us vs Q E hr e0 hb r hsp=>?_⟩
 have hl:=len _ _ _ _ hsp
 have KX:K.In s.heap:=e0.mod.kin.keeps fun b o e=>(e0.bs b o e).1
 have lim:s.heap.NoLimit:=e0.mod.nolimit.keeps fun b o e=>(e0.bs b o e).1
 have hkind:∀ y∈ps.zip us,scope.names.lookup y.1=some .local\/(scope.names.lookup y.1=some .cell/\((cellsFrom (s.heap.objs.size+1) scope.names []).lookup y.1).isSome=true):=fun⟨n,v⟩ hy=>by
  rcases S.par n (List.of_mem_zip hy).1 with q | q
  ·exact .inl q
  ·exact .inr ⟨q,PySem.W.cellsFrom_some _ _ _ (.inl q)⟩
 refine codeAny_call_function hr.depth (KX _ _ lk) rfl S.co S.gen rfl (PySem.W.codeRec_of KX hcd) (hb _ _ _ _ ?_)
 refine wpAny_newFunctionEnv_cells S.kind hkind fun env he s1 x=>?_
 subst he
 refine⟨lim.keeps x.toInCall.keep,codeAny_func ?_⟩
 obtain⟨t,ht,hq⟩:=hbody A outer s H vs Q E (hr.deeper _) hsp
 have I:Inv (g7f CX P w K mg base N qual scope f cdv A outer s H E) [] (start N vs) H s1:=g8b S hr.hd e0 hl r x
 refine wpAny_mono (ht [] s1 (start N vs) H _ I hq) (fun fl s' hs=>?_) fun e s' hs=>hs
 have fin:∀ {σ':St} {H':Hp} {v:V} {u:Value},Inv (g7f CX P w K mg base N qual scope f cdv A outer s H E) [] σ' H' s'->RelV v u->Q v H'->CE outer P w H s Q u s' :=
  fun {σ' H' v u} J rv q=>⟨v,H',J.os,J.bare,J.base,J.hok,rv,q⟩
 cases fl with
 | ret u =>
  obtain⟨v,σ',H',J,rv,q⟩:=hs
  exact fin J rv q
 | next =>
  obtain⟨σ',H',J,q⟩:=hs
  exact fin (v:=V.non) (u:=Value.none) J rfl q
 | brk =>
  obtain⟨_,_,_,q⟩:=hs
  exact False.elim q
 | cont =>
  obtain⟨_,_,_,q⟩:=hs
  exact False.elim q
end L2
namespace L2
open PySem PySem.Spec PyProof.Rows
section
variable {X:Cx}{x:Str}{p pos:Pos}{e:Expr}{es:List Expr}{t:TA}{id T:String}{r:List V->Hp->VK->Prop}
def tCB(r:List V->Hp->VK->Prop)(t:TA):TE:=fun σ H Q=>t σ H fun vs H1=>r vs H1 Q
theorem a0y (hc : c8j X (.builtin id) r) (hg : Gl X x) (hm : X.mg x = none) (hv : bootBuiltins x = some (.builtin id)) (ha : PA X (e :: es) t) (hn : x ≠ "__name__" := by decide) (hdb : (x == ("__debug__" : Str)) = false := by decide)
  (he:starEach (e :: es) X.env=(false,eval e X.env) :: starEach es X.env:=by rfl) (hpl:(backTo pos (starEach es X.env)).any (·.1)=false:=by rfl):PE X (.Call (.Name x p) (e :: es) [] pos) (tCB r t):=by
 intro pins s σ H Q I h
 refine wpAny_Call_Name_kw (f7z I hg hm hv ?_ hn hdb)
 exact PyProof.Rows.callWith_builtin1 (thn (ha pos pins s σ H _ I h) fun us s1 ⟨vs,H1,I1,r1,q1⟩=>hc pins s1 σ H1 vs us Q I1 r1 q1) he hpl
theorem a5i (hc : c8j X (.type T) r) (hg : Gl X x) (hm : X.mg x = none) (hv : bootBuiltins x = some (.type T)) (ha : PA X (e :: es) t) (hn : x ≠ "__name__" := by decide) (hdb : (x == ("__debug__" : Str)) = false := by decide)
  (he:starEach (e :: es) X.env=(false,eval e X.env) :: starEach es X.env:=by rfl) (hpl:(backTo pos (starEach es X.env)).any (·.1)=false:=by rfl):PE X (.Call (.Name x p) (e :: es) [] pos) (tCB r t):=by
 intro pins s σ H Q I h
 refine wpAny_Call_Name_kw (f7z I hg hm hv ?_ hn hdb)
 exact PyProof.Rows.callWith_type1 (thn (ha pos pins s σ H _ I h) fun us s1 ⟨vs,H1,I1,r1,q1⟩=>hc pins s1 σ H1 vs us Q I1 r1 q1) he hpl
end
end L2
namespace HT
open PySem PyProof.Rows
section
open PySem.SeqAt
open PySem.AutoSeq1 (wpAny_loadPart')
open PySem.MeetsSeq PySem.MeetsSeq2 PySem.MeetsSeq3
end
section
variable {prog:Program}{w:World}{A:Around}{E:Value->Shared->Prop}{s:Shared}
noncomputable def sIx(n d:Nat):Option Int->Nat
 | none=>d
 | some v=>if v < 0 then (v+(n:Int)).toNat else min v.toNat n
theorem h2b(n d:Nat):sIx n d none=d:=rfl
theorem g8c(n d k:Nat):sIx n d (some (k:Int))=min k n:=by
 show (if (k:Int) < 0 then ((k:Int)+(n:Int)).toNat else min (k:Int).toNat n)=min k n
 rw [if_neg (by omega),Int.toNat_natCast]
theorem i0b(n d:Nat)(hd:d<=n)(o:Option Int):sIx n d o<=n:=by
 cases o with
 | none=>exact hd
 | some v =>
  show (if v < 0 then (v+(n:Int)).toNat else min v.toNat n)<=n
  by_cases hv:v < 0
  ·rw [if_pos hv]; omega
  ·rw [if_neg hv]; exact Nat.min_le_right _ _
theorem g8d(v:Int)(n d:Nat):(if v < 0 then max (v+(n:Int)) 0 else min v (n:Int))=((sIx n d (some v):Nat):Int):=by
 show (if v < 0 then max (v+(n:Int)) 0 else min v (n:Int))=(((if v < 0 then (v+(n:Int)).toNat else min v.toNat n):Nat):Int)
 by_cases hv:v < 0
 ·simp only [if_pos hv]; omega
 ·simp only [if_neg hv]; omega
theorem g5l(lo hi:Option Int)(n:Nat):Builtin.Slice.sliceAdjust lo hi 1 (n:Int)=(((sIx n 0 lo:Nat):Int),((sIx n n hi:Nat):Int)):=by
 have h1:¬ ((1:Int) < 0):=by omega
 unfold Builtin.Slice.sliceAdjust
 simp only [h1,if_false]
 refine Prod.ext ?_ ?_
 ·cases lo with
  | none=>rfl
  | some v=>exact g8d v n 0
 ·cases hi with
  | none=>rfl
  | some v=>exact g8d v n n
theorem g5m(i j:Nat):Builtin.Slice.slicePlaces (i:Int) (j:Int) 1=j - i:=by
 unfold Builtin.Slice.slicePlaces
 have h1:(1:Int) > 0:=by omega
 simp only [h1,if_true,Int.ediv_one]
 split <;> omega
theorem f3i{v:Value}{o:Option Int}{Q:Option Int->Shared->Prop}(p:IsPart v o)(h:Q o s):wpAny (model prog w) A (Builtin.Slice.slicePartIndex v) Q E s:=by
 cases p with
 | none=>exact slicePart_none h
 | int i t=>exact slicePart_int h
theorem d7t{sl:Addr}{vl vu:Value}{lo hi:Option Int}{n:Nat}{Q:Int×Int×Nat->Shared->Prop}(hs:s.heap.IsSliceOf sl vl vu .none)(pl:IsPart vl lo)(pu:IsPart vu hi)
  (h:Q (((sIx n 0 lo:Nat):Int),1,sIx n n hi - sIx n 0 lo) s):wpAny (model prog w) A (Builtin.Slice.sliceApplied (.ref sl) (pure (n:Int))) Q E s:=by
 obtain⟨os,hos,hcs,hds⟩:=id hs
 unfold Builtin.Slice.sliceApplied Builtin.Slice.sliceFields
 refine wpAny_bind (wpAny_bind (wpAny_field hos hds (x:=vl) rfl (wpAny_bind (wpAny_field hos hds (x:=vu) rfl (wpAny_bind (wpAny_field hos hds (x:=.none) rfl (wpAny_pure ?_)))))))
 refine wpAny_bind (slicePart_none ?_)
 show wpAny _ _ (if ((1:Int) == 0)=true then _ else _) _ _ s
 rw [if_neg (by decide)]
 refine wpAny_bind (f3i pl (wpAny_bind (f3i pu (wpAny_bind (wpAny_pure ?_)))))
 show wpAny _ _ (match Builtin.Slice.sliceAdjust lo hi 1 (n:Int) with | (lo,hi)=>pure (lo,(1:Int),Builtin.Slice.slicePlaces lo hi 1)) _ _ s
 rw [g5l lo hi n]
 show wpAny _ _ (pure (((sIx n 0 lo:Nat):Int),(1:Int),Builtin.Slice.slicePlaces ((sIx n 0 lo:Nat):Int) ((sIx n n hi:Nat):Int) 1)) _ _ s
 rw [g5m]
 exact wpAny_pure h
theorem h2c(xs:Array Value)(i k:Nat):((List.range k).filterMap fun (m:Nat)=>xs[((i:Int)+(m:Int)*1).toNat]?).toArray=((xs.toList.drop i).take k).toArray:=by
 have e:(fun (m:Nat)=>xs[((i:Int)+(m:Int)*1).toNat]?)=fun m=>xs[i+m]?:=by
  funext m
  have:((i:Int)+(m:Int)*1).toNat=i+m:=by omega
  rw [this]
 rw [e]
 have:=pick_run xs i k
 rw [List.filterMap_map] at this
 have e2:((fun x=>xs[x]?)∘fun x=>i+x)=fun m=>xs[i+m]?:=rfl
 rw [e2] at this
 rw [this]
theorem d4s{t sl:Addr}{items:Array Value}{vl vu:Value}{lo hi:Option Int}{Q:Value->Shared->Prop}(ht:IsTup s.heap t items)(hs:s.heap.IsSliceOf sl vl vu .none)(pl:IsPart vl lo)(pu:IsPart vu hi)
  (hw:¬ (sIx items.size 0 lo=0/\sIx items.size items.size hi=items.size))
  (h : Q (.ref s.heap.objs.size) { s with heap := s.heap.push { cls := .type "tuple", data := .seq ((items.toList.drop (sIx items.size 0 lo)).take (sIx items.size items.size hi - sIx items.size 0 lo)).toArray } })
  (hsz:items.size<=sizeLine):wpAny (model prog w) A (getItem (.ref t) (.ref sl)) Q E s:=by
 have h2d:sizeOk (.seq ((items.toList.drop (sIx items.size 0 lo)).take (sIx items.size items.size hi - sIx items.size 0 lo)).toArray):=by
  show ((items.toList.drop (sIx items.size 0 lo)).take (sIx items.size items.size hi - sIx items.size 0 lo)).toArray.size<=sizeLine
  rw [List.size_toArray,List.length_take,List.length_drop,Array.length_toList]
  omega
 have hj:sIx items.size items.size hi<=items.size:=i0b _ _ (Nat.le_refl _) hi
 obtain⟨os,hos,hcs,hds⟩:=id hs
 have hTs : s.TypeIs (.ref sl) "slice" := ⟨os, hos, hcs⟩
 unfold getItem
 try with_reducible refine wpAny_holding ?_
 first | refine wpAny_bind (wpAny_pure ?_) | skip
 refine wpAny_bind (wpAny_sequenceKey ht.typeIs (by decide) ?_)
 refine wpAny_bind (wpAny_callSpecial?_slot (name := Str.ofString "__getitem__") ht.typeIs PyProof.Rows.slot_tuple_getitem
  (wpAny_call_entry PyProof.Rows.slot_tuple_getitem ht.typeIs entry_tuple_getitem ?_ (args_tuple_getitem _ _)))
 show wpAny _ _ (Builtin.Tuple.tupleItemsOf (.ref t) >>= _) _ _ s
 refine wpAny_bind (tupleItemsOf_ ht ?_)
 refine wpAny_bind (wpAny_typeOf hTs ?_)
 rw [if_pos (by decide)]
 refine wpAny_bind (d7t hs pl pu ?_)
 have hno:¬ ((((sIx items.size 0 lo:Nat):Int) == 0 && (1:Int) == 1 && (sIx items.size items.size hi - sIx items.size 0 lo) == items.size)=true):=by
  intro q
  rw [Bool.and_eq_true,Bool.and_eq_true] at q
  have q1:((sIx items.size 0 lo:Nat):Int)=0:=eq_of_beq q.1.1
  have q2:sIx items.size items.size hi - sIx items.size 0 lo=items.size:=eq_of_beq q.2
  exact hw ⟨by omega,by omega⟩
 show wpAny _ _ (if (((sIx items.size 0 lo:Nat):Int) == 0 && (1:Int) == 1 && (sIx items.size items.size hi - sIx items.size 0 lo) == items.size)=true then _ else _) _ _ s
 rw [if_neg hno,h2c]
 first
  | exact wpAny_bind (m:=Builtin.Tuple.tupleExact _) (wpAny_newObj_type (wpAny_pure ⟨_,rfl,wpAny_pure h⟩) h2d)
  | exact wpAny_bind (m:=Builtin.Tuple.tupleExact _) (wpAny_newObj_type (wpAny_bind (wpAny_pure (wpAny_pure ⟨_,rfl,wpAny_pure h⟩))) h2d)
  | exact wpAny_bind (wpAny_bind (m:=Builtin.Tuple.tupleExact _) (wpAny_newObj_type (wpAny_pure (wpAny_pure ⟨_,rfl,wpAny_pure h⟩)) h2d))
  | exact wpAny_bind (wpAny_bind (m:=Builtin.Tuple.tupleExact _) (wpAny_newObj_type (wpAny_pure ⟨_,rfl,wpAny_pure h⟩) h2d))
end
end HT
namespace L2
open PySem PySem.Spec PyProof.Rows
noncomputable abbrev TO:=St->Hp->(Option Int->Hp->Prop)->Prop
def PO(X:Cx)(e:Option Expr)(t:TO):Prop :=
 ∀ (pins:List (Addr×Obj)) (s:Shared) (σ:St) (H:Hp) (Q:Option Int->Hp->Prop),Inv X pins σ H s->t σ H Q ->
  wpAny (model X.prog X.w) X.A (evalPart e X.env) (fun u s'=>∃ o H',Inv X pins σ H' s'/\IsPart u o/\Q o H') X.xe s
noncomputable def h6f:TO:=fun _ H Q=>Q none H
def i0c(t:TE):TO:=fun σ H Q=>t σ H fun x H1=>∃ i,x = .int i/\Q (some i) H1
section
variable {X:Cx}{e:Expr}{te:TE}{lo hi:Option Expr}{tl th:TO}{pos p2:Pos}
theorem a4g:PO X none h6f:=by
 intro pins s σ H Q I h
 rw [evalPart_none]
 exact wpAny_pure ⟨none,H,I,.none,h⟩
theorem h6g(h:PE X e te):PO X (some e) (i0c te):=by
 intro pins s σ H Q I hw
 rw [evalPart_some]
 refine thn (h pins s σ H _ I hw) fun u s1 ⟨x,H1,I1,r1,q1⟩=>?_
 obtain⟨i,rfl,q⟩:=q1
 obtain⟨t,rfl⟩:=r1
 exact⟨some i,H1,I1,.int i t,q⟩
def SlR(X:Cx)(r:V->Option Int->Option Int->Hp->VK->Prop):Prop :=
 ∀ (pins:List (Addr×Obj)) (s:Shared) (σ:St) (H:Hp) (x:V) (v vl vu:Value) (lo hi:Option Int) (sl:Addr) (Q:VK),Inv X pins σ H s->RelV x v->s.heap.IsSliceOf sl vl vu .none->IsPart vl lo->IsPart vu hi->r x lo hi H Q ->
  ∃ T id, typeLookup (.type T) "__getitem__" = pure (some (.builtin id)) ∧ s.TypeIs v T ∧ wpAny (model X.prog X.w) X.A (getItem v (.ref sl)) (EP X pins σ Q) X.xe s
def tSl(r:V->Option Int->Option Int->Hp->VK->Prop)(te:TE)(tl th:TO):TE:=fun σ H Q=>te σ H fun x H1=>tl σ H1 fun l H2=>th σ H2 fun u H3=>r x l u H3 Q
theorem a2g{r:V->Option Int->Option Int->Hp->VK->Prop}(hr:SlR X r)(he:PE X e te)(hl:PO X lo tl)(hu:PO X hi th):PE X (.Subscript e (.Slice lo hi none p2) pos) (tSl r te tl th):=by
 intro pins s σ H Q I h
 refine Subscript_ (thn (he pins s σ H _ I h) fun v s1 ⟨x,H1,I1,r1,q1⟩=>?_)
 refine wpAny_Slice (thn (hl pins s1 σ H1 _ I1 q1) fun vl s2 ⟨l,H2,I2,pl,q2⟩=>thn (hu pins s2 σ H2 _ I2 q2) fun vu s3 ⟨u,H3,I3,pu,q3⟩=>?_)
 rw [evalPart_none]
 refine wpAny_pure ?_
 have I4 : Inv X pins σ H3 { s3 with heap := s3.heap.push { cls := .type "slice", data := .fields #[vl, vu, .none] } } := I3.kept (t' := s3.toks) fun b ob q => Heap.get?_push_of_some _ q
 obtain ⟨T, id, hT, ht, hg⟩ := hr pins { s3 with heap := s3.heap.push { cls := .type "slice", data := .fields #[vl, vu, .none] } } σ H3 x v vl vu l u s3.heap.objs.size Q I4 r1 (Heap.IsSliceOf.new ..) pl pu q3
 show wpAny (model X.prog X.w) X.A (subscriptTail e (.Slice lo hi none p2) v (.ref s3.heap.objs.size)) (EP X pins σ Q) X.xe { s3 with heap := s3.heap.push { cls := .type "slice", data := .fields #[vl, vu, .none] } }
 exact tail_any (ops:=[.ref s3.heap.objs.size,v]) ht hT hg (by with_unfolding_all rfl)
noncomputable def d0z(xs:List V)(lo hi:Option Int):List V:=(xs.drop (HT.sIx xs.length 0 lo)).take (HT.sIx xs.length xs.length hi - HT.sIx xs.length 0 lo)
theorem d8r(xs:List V)(lo hi:Option Int):(d0z xs lo hi).length<=xs.length:=by
 unfold d0z
 rw [List.length_take,List.length_drop]
 omega
noncomputable def rSlT(K:PySem.W.Frag):V->Option Int->Option Int->Hp->VK->Prop:=fun x lo hi H Q=>∃ a xs,x = .ref a/\SqT K H a xs /\
 ¬ (HT.sIx xs.length 0 lo=0/\HT.sIx xs.length xs.length hi=xs.length)/\∀ p,H p=none->Q (.ref p) (upd H p (.tup (d0z xs lo hi)))
theorem i0d:SlR X (rSlT X.K):=by
 intro pins s σ H x v vl vu lo hi sl Q I rx hs pl pu h
 obtain⟨a,xs,rfl,hx,hw,q⟩:=h
 cases rx
 obtain⟨its,r,ht,hz⟩:=I.tuple hx
 have hlen:its.toArray.size=xs.length:=by rw [List.size_toArray]; exact r.length.symm
 refine ⟨"tuple", _, PyProof.Rows.slot_tuple_getitem.lookup, ht.typeIs, ?_⟩
 refine HT.d4s ht hs pl pu (by rw [hlen]; exact hw) ?_ (by rw [hlen]; exact hz)
 rw [hlen]
 refine⟨.ref s.heap.objs.size,_,I.laid (t':=s.toks) (o:=.tup (d0z xs lo hi)) (fun b ob q=>Heap.get?_push_of_some _ q) (Nat.le_refl _) ?_,rfl,q _ (I.hok.fresh (Nat.le_refl _))⟩
 exact⟨Nat.le_trans (d8r xs lo hi) hz,_,(r.drop (HT.sIx xs.length 0 lo)).take (HT.sIx xs.length xs.length hi - HT.sIx xs.length 0 lo),IsTup.new _ _⟩
end
end L2
namespace L2
open PySem PySem.Spec PyProof.Rows
noncomputable def ixN(n:Nat)(i:Int):Option Nat:=if 0<=i then (if i < n then some i.toNat else none) else if -(n:Int)<=i then some (i+n).toNat else none
noncomputable def atI{α:Type}(xs:List α)(i:Int):Option α:=(ixN xs.length i).bind fun j=>xs[j]?
theorem h6h{n:Nat}{i:Int}{j:Nat}(h:ixN n i=some j):seqIndex? i n=some j/\j < n /\ -(n:Int)<=i/\i < n:=by
 unfold ixN at h
 by_cases h0:0<=i
 ·rw [if_pos h0] at h
  by_cases h1:i < n
  ·rw [if_pos h1] at h
   have e:i.toNat=j:=Option.some.inj h
   exact⟨by rw [seqIndex_of h0 h1,e],by omega,by omega,h1⟩
  ·rw [if_neg h1] at h; cases h
 ·rw [if_neg h0] at h
  by_cases h1 : -(n:Int)<=i
  ·rw [if_pos h1] at h
   have e:(i+n).toNat=j:=Option.some.inj h
   exact⟨by rw [seqIndex_neg (by omega) h1,e],by omega,h1,by omega⟩
  ·rw [if_neg h1] at h; cases h
theorem g0z{α:Type}{xs:List α}{i:Int}{v:α}(h:atI xs i=some v):∃ j,seqIndex? i xs.length=some j/\xs[j]? = some v/\j < xs.length /\ -(xs.length:Int)<=i/\i < xs.length:=by
 unfold atI at h
 cases e:ixN xs.length i with
 | none=>rw [e] at h; cases h
 | some j =>
  rw [e] at h
  obtain⟨h1,h2,h3,h4⟩:=h6h e
  exact⟨j,h1,h,h2,h3,h4⟩
theorem c4j{α:Type}{xs:List α}{j:Nat}{v:α}(h:xs[j]? = some v):atI xs (j:Int)=some v:=by
 have hj:j < xs.length:=(List.getElem?_eq_some_iff.mp h).1
 have e:ixN xs.length (j:Int)=some j:=by
  unfold ixN
  rw [if_pos (by omega),if_pos (by omega)]; simp
 unfold atI; rw [e]; exact h
def h6i(b:Expr):Prop:=∀ o i,subscripted b false o i=operate [o,i] (getItem o i)
def IxR(X:Cx)(r:R2):Prop :=
 ∀ (value slice:Expr) (pins:List (Addr×Obj)) (s:Shared) (σ:St) (H:Hp) (x y:V) (v u:Value) (Q:VK),Inv X pins σ H s->RelV x v->RelV y u->r x y H Q ->
  subscripted slice false v u=operate [v,u] (getItem v u)->wpAny (model X.prog X.w) X.A (subscriptTail value slice v u) (EP X pins σ Q) X.xe s
def MtR(X:Cx)(id:String)(r:V->List V->Hp->VK->Prop):Prop :=
 ∀ (pins:List (Addr×Obj)) (s:Shared) (σ:St) (H:Hp) (x:V) (xs:List V) (v:Value) (us:List Value) (Q:VK),Inv X pins σ H s->RelV x v->Vals xs us->r x xs H Q ->
  wpAny (model X.prog X.w) X.A (call (.builtin id) (v :: us)) (EP X pins σ Q) X.xe s
section
variable {X:Cx}{a b:Expr}{ta tb:TE}{pos:Pos}
theorem a0r{r:R2}(hr:IxR X r)(ha:PE X a ta)(hb:PE X b tb)(hs:h6i b):PE X (.Subscript a b pos) (tOp r ta tb):=by
 intro pins s σ H Q I h
 exact Subscript_ (i5c ha hb I h fun v u s2 x y H2 I2 rx ry q=>hr a b pins s2 σ H2 x y v u Q I2 rx ry q (hs _ _))
def rIxL(K:PySem.W.Frag):R2:=fun x y H Q=>∃ p xs i v,x = .ref p/\y = .int i/\SqL K H p xs/\atI xs i=some v/\Q v H
def rIxT(K:PySem.W.Frag):R2:=fun x y H Q=>∃ p xs i v,x = .ref p/\y = .int i/\SqT K H p xs/\atI xs i=some v/\Q v H
def rIxS:R2:=fun x y H Q=>∃ z i c,x = .str z/\y = .int i/\z.length<=sizeLine/\atI z.cps.toList i=some c/\Q (.str ⟨#[c]⟩) H
theorem h6j:IxR X (rIxL X.K):=by
 intro value slice pins s σ H x y v u Q I rx ry h hs
 obtain⟨p,xs,i,z,rfl,rfl,hq,he,q⟩:=h
 cases rx
 obtain⟨t,rfl⟩:=ry
 obtain⟨its,r,pl,hz⟩:=I.list hq
 obtain⟨j,h1,h2,h3,h4,h5⟩:=g0z he
 obtain⟨w,ew,rw'⟩:=r.get h2
 have hl:=r.length
 have hn:=f8h
 have fin:EP X pins σ Q w s:=⟨z,H,I,rw',q⟩
 by_cases h0:0<=i
 ·have hj:i.toNat=j:=by
   rw [seqIndex_of h0 h5] at h1
   exact Option.some.inj h1
  exact item_listR pl.isList h0 (by omega) (by rw [hj]; simpa using ew) fin hs
 ·have hj:(i+(its.toArray.size:Int)).toNat=j:=by
   rw [seqIndex_neg (by omega) h4] at h1
   rw [List.size_toArray,<- hl]
   exact Option.some.inj h1
  exact subscriptTail_builtinR (x:=w) pl.isList.typeIs slot_list_getitem.lookup
   (wpAny_getItem_list_neg (Q:=fun r s'=>r=w/\EP X pins σ Q r s') pl.isList (by omega) (by rw [List.size_toArray] <;> omega) (by omega) (by rw [hj]; simpa using ew) ⟨rfl,fin⟩) hs
theorem i0e:IxR X (rIxT X.K):=by
 intro value slice pins s σ H x y v u Q I rx ry h hs
 obtain⟨p,xs,i,z,rfl,rfl,hq,he,q⟩:=h
 cases rx
 obtain⟨t,rfl⟩:=ry
 obtain⟨its,r,pl,hz⟩:=I.tuple hq
 obtain⟨j,h1,h2,h3,h4,h5⟩:=g0z he
 obtain⟨w,ew,rw'⟩:=r.get h2
 have hl:=r.length
 have hn:=f8h
 have fin:EP X pins σ Q w s:=⟨z,H,I,rw',q⟩
 exact subscriptTail_builtinR (x:=w) pl.typeIs slot_tuple_getitem.lookup
  (getItem_tuple (j:=j) (Q:=fun r s'=>r=w/\EP X pins σ Q r s') pl (by omega) (by omega) (by rw [List.size_toArray,<- hl]; exact h1) (by simpa using ew) ⟨rfl,fin⟩) hs
theorem i0f:IxR X rIxS:=by
 intro value slice pins s σ H x y v u Q I rx ry h hs
 obtain⟨z,i,c,rfl,rfl,hz,he,q⟩:=h
 obtain⟨t,rfl⟩:=rx
 obtain⟨t',rfl⟩:=ry
 obtain⟨j,h1,h2,h3,h4,h5⟩:=g0z he
 have hl:z.cps.toList.length=z.length:=by simp [Str.length]
 rw [hl] at h1 h4 h5
 have hn:=f8h
 exact tail_any (typeIs_str s z t) slot_str_getitem.lookup (getItem_str (c:=c) (by
  have e1:decide (i < -(2 ^ 63:Int))=false:=decide_eq_false (by omega)
  have e2:decide (i ≥ 2 ^ 63)=false:=decide_eq_false (by omega)
  rw [e1,e2,Bool.or_false]) (by rw [h1]; simpa using h2) ⟨.str ⟨#[c]⟩,H,I.tok _,⟨_,rfl⟩,q⟩) hs
theorem Inv.lst{pins:List (Addr×Obj)}{σ:St}{H:Hp}{s:Shared}{p:Addr}{xs:List V}(I:Inv X pins σ H s)(h:H p=some (.lst xs)) :
  ∃ (its : List Value) (n : Nat), Vals xs its ∧ s.heap.get? p = some { cls := .type "list", data := .seq its.toArray n } ∧ xs.length ≤ sizeLine := by
 obtain⟨z,its,n,r,e⟩:=I.hok p _ h
 exact⟨its,n,r,e,z⟩
theorem f8o(lo hi:Option Int)(n:Nat):(sliceBounds lo hi none n).1=((HT.sIx n 0 lo:Nat):Int)/\(sliceBounds lo hi none n).2.1=((HT.sIx n n hi:Nat):Int)/\(sliceBounds lo hi none n).2.2=1:=by
 refine⟨?_,?_,rfl⟩
 ·cases lo with
  | none=>simp [sliceBounds,HT.sIx]
  | some i =>
   simp only [sliceBounds,HT.sIx,Option.getD_none,show (1:Int) > 0 by decide,if_true]
   by_cases h:i < 0
   ·simp only [h,if_true] <;> omega
   ·simp only [h,if_false] <;> omega
 ·cases hi with
  | none=>simp [sliceBounds,HT.sIx]
  | some i =>
   simp only [sliceBounds,HT.sIx,Option.getD_none,show (1:Int) > 0 by decide,if_true]
   by_cases h:i < 0
   ·simp only [h,if_true] <;> omega
   ·simp only [h,if_false] <;> omega
theorem f5l(its:List Value)(lo hi:Option Int):slicePick its.toArray lo hi none=((its.drop (HT.sIx its.length 0 lo)).take (HT.sIx its.length its.length hi - HT.sIx its.length 0 lo)).toArray:=by
 obtain⟨h1,h2,h3⟩:=f8o lo hi its.toArray.size
 unfold slicePick
 rw [h1,h2,h3]
 simp only [sliceRange_one,pick_run,List.size_toArray] <;> rfl
noncomputable def rSlL(K:PySem.W.Frag):V->Option Int->Option Int->Hp->VK->Prop:=fun x lo hi H Q=>∃ a xs,x = .ref a/\SqL K H a xs/\∀ p,H p=none->Q (.ref p) (upd H p (.lst (d0z xs lo hi)))
theorem g1a:SlR X (rSlL X.K):=by
 intro pins s σ H x v vl vu lo hi sl Q I rx hs pl pu h
 obtain⟨a,xs,rfl,hx,q⟩:=h
 cases rx
 obtain⟨its,r,ht,hz⟩:=I.list hx
 have hlen:=r.length
 refine ⟨"list", _, slot_list_getitem.lookup, ht.isList.typeIs, ?_⟩
 refine wpAny_getItem_list_slice ht.isList hs pl pu .none (by simp) ?_ (by rw [List.size_toArray] <;> omega)
 rw [f5l,<- hlen]
 refine⟨.ref s.heap.objs.size,_,I.laid (t':=s.toks) (o:=.lst (d0z xs lo hi)) (fun b ob q=>Heap.get?_push_of_some _ q) (Nat.le_refl _) ?_,rfl,q _ (I.hok.fresh (Nat.le_refl _))⟩
 exact⟨Nat.le_trans (d8r xs lo hi) hz,_,0,(r.drop (HT.sIx xs.length 0 lo)).take (HT.sIx xs.length xs.length hi - HT.sIx xs.length 0 lo),Heap.get?_push_size _ rfl⟩
noncomputable def c5i:V->Bool
 | .non=>true
 | .bl _=>true
 | .int _=>true
 | .str _=>true
 | _=>false
noncomputable def eqV:V->V->Bool
 | .non,.non=>true
 | .bl a,.bl b=>a == b
 | .bl a,.int b=>(if a then 1 else 0) == b
 | .int a,.bl b=>a == (if b then 1 else 0)
 | .int a,.int b=>a == b
 | .str a,.str b=>a == b
 | _,_=>false
theorem i0g{A:Around}{s:Shared}{y x:V}{u v:Value}(ry:RelV y u)(rx:RelV x v)(fy:c5i y=true)(fx:c5i x=true):SeqAt.EqAt A s u v (eqV y x):=by
 cases y with
 | non =>
  cases ry
  cases x with
  | non=>cases rx; exact SeqAt.EqAt.same _
  | bl b=>cases rx; exact SeqAt.EqAt.none_bool b
  | int b=>obtain⟨t,rfl⟩:=rx; exact SeqAt.EqAt.none_int b t
  | str b=>obtain⟨t,rfl⟩:=rx; exact SeqAt.EqAt.none_str b t
  | _=>exact absurd (show false=true from fx) Bool.false_ne_true
 | bl a =>
  cases ry
  cases x with
  | non=>cases rx; exact SeqAt.EqAt.bool_none a
  | bl b=>cases rx; exact SeqAt.EqAt.bool_bool a b
  | int b=>obtain⟨t,rfl⟩:=rx; exact SeqAt.EqAt.bool_int a b t
  | str b=>obtain⟨t,rfl⟩:=rx; exact SeqAt.EqAt.bool_str a b t
  | _=>exact absurd (show false=true from fx) Bool.false_ne_true
 | int a =>
  obtain⟨t',rfl⟩:=ry
  cases x with
  | non=>cases rx; exact SeqAt.EqAt.int_none a t'
  | bl b=>cases rx; exact SeqAt.EqAt.int_bool a t' b
  | int b=>obtain⟨t,rfl⟩:=rx; exact SeqAt.EqAt.int_int a t' b t
  | str b=>obtain⟨t,rfl⟩:=rx; exact SeqAt.EqAt.int_str a t' b t
  | _=>exact absurd (show false=true from fx) Bool.false_ne_true
 | str a =>
  obtain⟨t',rfl⟩:=ry
  cases x with
  | non=>cases rx; exact SeqAt.EqAt.str_none a t'
  | bl b=>cases rx; exact SeqAt.EqAt.str_bool a t' b
  | int b=>obtain⟨t,rfl⟩:=rx; exact SeqAt.EqAt.str_int a t' b t
  | str b=>obtain⟨t,rfl⟩:=rx; exact SeqAt.EqAt.str_str a t' b t
  | _=>exact absurd (show false=true from fx) Bool.false_ne_true
 | _=>exact absurd (show false=true from fy) Bool.false_ne_true
noncomputable def eqU(x:V)(u:Value):Bool:=match u with
 | .none=>eqV .non x
 | .bool b=>eqV (.bl b) x
 | .int i _=>eqV (.int i) x
 | .str z _=>eqV (.str z) x
 | _=>false
theorem h4k{x y:V}{u:Value}(r:RelV y u)(f:c5i y=true):eqU x u=eqV y x:=by
 cases y with
 | non=>cases r; rfl
 | bl b=>cases r; rfl
 | int i=>obtain⟨t,rfl⟩:=r; rfl
 | str z=>obtain⟨t,rfl⟩:=r; rfl
 | _=>exact absurd (show false=true from f) Bool.false_ne_true
theorem d8s{x:V}:∀ {xs:List V} {us:List Value},Vals xs us->xs.all c5i=true->us.any (eqU x)=xs.any fun y=>eqV y x
 | _,_,.nil,_=>rfl
 | y :: xs,u :: us,.cons r t,f=>by
  rw [List.all_cons,Bool.and_eq_true] at f
  rw [List.any_cons,List.any_cons,h4k r f.1,d8s t f.2]
theorem d2u{A:Around}{s:Shared}{x:V}{v:Value}(rx:RelV x v)(fx:c5i x=true):∀ {xs:List V} {us:List Value},Vals xs us->xs.all c5i=true->∀ u∈us,SeqAt.EqAt A s u v (eqU x u)
 | _,_,.nil,_=>fun u hu=>by cases hu
 | y :: xs,u :: us,.cons r t,f=>fun u' hu=>by
  rw [List.all_cons,Bool.and_eq_true] at f
  rcases List.mem_cons.mp hu with rfl | hu
  ·rw [h4k r f.1]; exact i0g r rx f.1 fx
  ·exact d2u rx fx t f.2 u' hu
noncomputable def inV(x:V)(xs:List V):Bool:=xs.any fun y=>eqV y x
def rIn(K:PySem.W.Frag)(neg:Bool):R2:=fun x y H Q=>∃ p xs,y = .ref p/\(SqL K H p xs\/SqT K H p xs)/\c5i x=true/\xs.all c5i=true/\Q (.bl (if neg then !inV x xs else inV x xs)) H
theorem f8p:OpR X (compareOp .In) (rIn X.K false):=by
 intro pins s σ H x y v u Q I rx ry h
 obtain⟨p,xs,rfl,hq,fx,fs,q⟩:=h
 cases ry
 rcases hq with hq | hq
 ·obtain⟨its,r,pl,hz⟩:=I.list hq
  refine SeqAt.in_listAt (eqU x) pl.isList (fun w hw=>d2u rx fx r fs w (by simpa using hw)) ⟨.bl _,H,I,rfl,?_⟩
  rw [show its.toArray.any (eqU x)=its.any (eqU x) by simp,d8s r fs]
  exact q
 ·obtain⟨its,r,pl,hz⟩:=I.tuple hq
  refine SeqAt.in_tupleAt (eqU x) pl (fun w hw=>d2u rx fx r fs w (by simpa using hw)) ⟨.bl _,H,I,rfl,?_⟩
  rw [show its.toArray.any (eqU x)=its.any (eqU x) by simp,d8s r fs]
  exact q
theorem d6w:OpR X (compareOp .NotIn) (rIn X.K true):=by
 intro pins s σ H x y v u Q I rx ry h
 obtain⟨p,xs,rfl,hq,fx,fs,q⟩:=h
 cases ry
 rcases hq with hq | hq
 ·obtain⟨its,r,pl,hz⟩:=I.list hq
  refine SeqAt.notIn_listAt (eqU x) pl.isList (fun w hw=>d2u rx fx r fs w (by simpa using hw)) ⟨.bl _,H,I,rfl,?_⟩
  rw [show its.toArray.any (eqU x)=its.any (eqU x) by simp,d8s r fs]
  exact q
 ·obtain⟨its,r,pl,hz⟩:=I.tuple hq
  refine SeqAt.notIn_tupleAt (eqU x) pl (fun w hw=>d2u rx fx r fs w (by simpa using hw)) ⟨.bl _,H,I,rfl,?_⟩
  rw [show its.toArray.any (eqU x)=its.any (eqU x) by simp,d8s r fs]
  exact q
theorem f8q:OpR X (compareOp .NotIn) (fun x y H Q=>∃ i j,x = .str i/\y = .str j/\Q (.bl (!(!(Builtin.Str.occurrences j i 0 j.length 1).isEmpty))) H):=by
 intro pins s σ H x y v u Q I rx ry h
 obtain⟨i,j,rfl,rfl,q⟩:=h
 obtain⟨t,rfl⟩:=rx
 obtain⟨t',rfl⟩:=ry
 exact notIn_str ⟨.bl _,H,I,rfl,q⟩
theorem d6y : c8j X (.builtin "len") (fun xs H Q => ∃ p ys, xs = [.ref p] ∧ (SqL X.K H p ys ∨ SqT X.K H p ys) ∧ Q (.int ys.length) H) := by
 intro pins s σ H xs us Q I r h
 obtain⟨p,ys,rfl,hq,q⟩:=h
 obtain⟨u,rfl,rx⟩:=vals1 r
 cases rx
 have hn:=f8h
 rcases hq with hq | hq
 ·obtain⟨its,r',pl,hz⟩:=I.list hq
  have hlen:=r'.length
  exact Calls.call_len_list pl.isList (by simp only [List.size_toArray] <;> omega) ⟨.int ys.length,H,I.tok _,⟨s.toks+1,by rw [List.size_toArray,hlen]⟩,q⟩
 ·obtain⟨its,r',pl,hz⟩:=I.tuple hq
  have hlen:=r'.length
  exact len_tuple pl (by simp only [List.size_toArray] <;> omega) ⟨.int ys.length,H,I.tok _,⟨s.toks+1,by rw [List.size_toArray,hlen]⟩,q⟩
theorem f8r : c8j X (.builtin "len") (fun xs H Q => ∃ z, xs = [.str z] ∧ z.length ≤ sizeLine ∧ Q (.int z.length) H) := by
 intro pins s σ H xs us Q I r h
 obtain⟨z,rfl,hz,q⟩:=h
 obtain⟨u,rfl,t,rfl⟩:=vals1 r
 have hn:=f8h
 exact len_str (by omega) ⟨.int z.length,H,I.tok _,⟨_,rfl⟩,q⟩
theorem f5m : c8j X (.type "tuple") (fun xs H Q => ∃ p ys, xs = [.ref p] ∧ ((SqL X.K H p ys ∧ ∀ l, H l = none → Q (.ref l) (upd H l (.tup ys))) ∨ (SqT X.K H p ys ∧ Q (.ref p) H))) := by
 intro pins s σ H xs us Q I r h
 obtain⟨p,ys,rfl,h⟩:=h
 obtain⟨u,rfl,rx⟩:=vals1 r
 cases rx
 rcases h with ⟨hq,q⟩ | ⟨hq,q⟩
 ·obtain⟨its,r',pl,hz⟩:=I.list hq
  have hlen:=r'.length
  refine call_tuple_list pl.isList (fun h' kp=>?_) (by simp only [List.size_toArray] <;> omega)
  have I1:Inv X pins σ H { s with heap:=h' }:=I.kept (t':=s.toks) kp
  have I2 : Inv X pins σ (upd H h'.objs.size (.tup ys)) { s with heap := h'.push { cls := .type "tuple", data := .seq its.toArray } } :=
   I1.laid (t':=s.toks) (fun b o e=>Heap.get?_push_of_some _ e) (Nat.le_refl _) (show b8y X.prog X.w _ _ _ (.tup ys) from ⟨hz,its,r',IsTup.new _ _⟩)
  exact⟨.ref h'.objs.size,_,I2,rfl,q _ (I1.hok.fresh (Nat.le_refl _))⟩
 ·obtain⟨its,r',pl,hz⟩:=I.tuple hq
  exact call_tuple_same pl ⟨.ref p,H,I,rfl,q⟩
def tyV(K:PySem.W.Frag)(T:String)(x:V)(H:Hp):Prop:=match x with
 | .str _ => T = "str"
 | .int _ => T = "int"
 | .ref p => (T = "list" ∧ ∃ xs, SqL K H p xs) ∨ (T = "tuple" ∧ ∃ o, K.lookup p = some o ∧ o.cls = .type "tuple" ∧ o.dict = none) ∨
   (T = "dict" ∧ ((∃ kvs, H p = some (.dK kvs)) ∨ ∃ kvs, H p = some (.dT kvs))) ∨ (T = "set" ∧ ∃ S n, H p = some (.set S n))
 | _=>False
theorem i0h{pins:List (Addr×Obj)}{σ:St}{H:Hp}{s:Shared}{T:String}{x:V}{v:Value}(I:Inv X pins σ H s)(r:RelV x v)(ty:tyV X.K T x H) :
  s.TypeIs v T/\∀ a,v = .ref a->∃ ob,s.heap.get? a=some ob/\ob.dict=none:=by
 cases x with
 | str z =>
  obtain⟨t,rfl⟩:=r
  cases (show T = "str" from ty)
  exact⟨typeIs_str s z t,fun _ e=>nomatch e⟩
 | int i =>
  obtain⟨t,rfl⟩:=r
  cases (show T = "int" from ty)
  exact⟨typeIs_int s i t,fun _ e=>nomatch e⟩
 | ref p =>
  cases r
  rcases ty with ⟨rfl,xs,hq⟩ | ⟨rfl,o,hk,hc,hd⟩ | ⟨rfl,hk⟩ | ⟨rfl,S,n,hk⟩
  ·obtain⟨its,_,pl,_⟩:=I.list hq
   refine⟨pl.isList.typeIs,fun a e=>?_⟩
   cases e
   obtain⟨o,n,e,c,hd,_⟩:=pl
   exact⟨o,e,hd⟩
  ·refine⟨⟨o,I.kIn p o hk,hc⟩,fun a e=>?_⟩
   cases e
   exact⟨o,I.kIn _ o hk,hd⟩
  ·have z:∃ o,s.heap.get? p=some o/\o.ExactDict:=by
    rcases hk with ⟨kvs,hk⟩ | ⟨kvs,hk⟩
    ·obtain⟨_,_,_,_,o,_,_,e,ex,_⟩:=I.hok p _ hk
     exact⟨o,e,ex⟩
    ·obtain⟨_,_,_,_,o,_,_,e,ex,_⟩:=I.hok p _ hk
     exact⟨o,e,ex⟩
   obtain⟨o,e,ex⟩:=z
   refine⟨⟨o,e,ex.1⟩,fun a e2=>?_⟩
   cases e2
   exact⟨o,e,ex.2.1⟩
  ·obtain⟨o,_,_,_,e,ex,_⟩:=I.hok p _ hk
   refine⟨⟨o,e,ex.1⟩,fun a e2=>?_⟩
   cases e2
   exact⟨o,e,ex.2.1⟩
 | _=>exact False.elim ty
variable {o e:Expr}{es:List Expr}{to:TE}{t:TA}{name:Str}{apos cpos:Pos}{T id:String}{r:V->List V->Hp->VK->Prop}
/- xs.append(e),list.index on a module's tuple .. are MtR facts of 06m -/
end
end L2
namespace L2
open PySem PySem.Spec PyProof.Rows
def MtM(X:Cx)(id:String)(r:V->List V->Hp->VK->Prop):Prop :=
 ∀ (pins:List (Addr×Obj)) (s:Shared) (σ:St) (H:Hp) (x:V) (xs:List V) (v:Value) (us:List Value) (Q:VK),Inv X pins σ H s->RelV x v->Vals xs us->r x xs H Q ->
  wpAny (model X.prog X.w) X.A (call (.builtin id) (v :: us)) (EP X pins σ Q) X.xe s
theorem Vals.one:∀ {x:V} {us:List Value},Vals [x] us->∃ u,us = [u]/\RelV x u
 | _,_,.cons r .nil=>⟨_,rfl,r⟩
theorem Vals.two{x y:V}{us:List Value}(h:Vals [x,y] us):∃ u v,us = [u,v]/\RelV x u/\RelV y v:=by
 cases h with
 | cons r t =>
  cases t with
  | cons q z =>
   cases z
   exact⟨_,_,rfl,r,q⟩
theorem Vals.rep{xs:List V}{us:List Value}(h:Vals xs us):∀ k:Nat,Vals (List.replicate k xs).flatten (List.replicate k us).flatten
 | 0=>.nil
 | k+1=>by
  rw [List.replicate_succ,List.replicate_succ,List.flatten_cons,List.flatten_cons]
  exact Vals.append h (Vals.rep h k)
theorem foldl_rep(its:List Value):∀ (k:Nat) (acc:List Value),
  List.foldl (fun x1 x2=>x1++x2) acc.toArray (List.replicate k its.toArray)=(acc++(List.replicate k its).flatten).toArray
 | 0,acc=>by simp
 | k+1,acc=>by
  have e:acc.toArray++its.toArray=(acc++its).toArray:=by simp
  have e2:(acc++its)++(List.replicate k its).flatten=acc++(List.replicate (k+1) its).flatten:=by
   rw [List.replicate_succ,List.flatten_cons,List.append_assoc]
  rw [<- e2,<- foldl_rep its k (acc++its),<- e,List.replicate_succ,List.foldl_cons]
section
variable {X:Cx}{pins:List (Addr×Obj)}{σ:St}{H:Hp}{s:Shared}{l b:Addr}{xs ys zs:List V}
theorem Inv.lset{its its':List Value}{n:Nat}{f:Array Value->Array Value}{t':Nat}(I:Inv X pins σ H s)(hH:H l=some (.lst xs))
  (e : s.heap.get? l = some { cls := .type "list", data := .seq its.toArray n }) (hf : f its.toArray = its'.toArray) (hv : Vals ys its') (hz : ys.length ≤ sizeLine) :
  Inv X pins σ (upd H l (.lst ys)) { s with heap:=s.heap.update l (Obj.mapSeq f),toks:=t' }:=by
 have q:=PySem.IsL.update e f
 rw [hf] at q
 refine I.write (x:=l) (e:=l) (by rw [hH]; exact trivial) (.inl rfl) (fun b' u hb hu=>(Heap.get?_update_other s.heap (Obj.mapSeq f) (Ne.symm hb)).trans hu) ⟨_,q⟩ ?_
 exact⟨hz,its',_,hv,q⟩
theorem Inv.i8g{its:List Value}{t':Nat}(I:Inv X pins σ H s)(hv:Vals ys its)(hz:ys.length<=sizeLine) :
  Inv X pins σ (upd H s.heap.objs.size (.lst ys)) { s with heap := s.heap.push { cls := .type "list", data := .seq its.toArray }, toks := t' } :=
 I.laid (fun _ _ q=>Heap.get?_push_of_some _ q) (Nat.le_refl _) ⟨hz,its,0,hv,Heap.get?_push_size _ rfl⟩
theorem Inv.fresh(I:Inv X pins σ H s):H s.heap.objs.size=none:=I.hok.fresh (Nat.le_refl _)
theorem Inv.i4o (I : Inv X pins σ H s) (hH : H l = some (.lst xs)) : xs.length ≤ sizeLine ∧ ∃ (its : List Value) (n : Nat), Vals xs its ∧ xs.length = its.length ∧ s.heap.get? l = some { cls := .type "list", data := .seq its.toArray n } := by
 obtain⟨z,its,n,r,e⟩:=I.hok l _ hH
 exact⟨z,its,n,r,r.length,e⟩
theorem h2e{n:Nat}(h:n<=sizeLine):Builtin.List.listTooLong n=false:=by
 unfold Builtin.List.listTooLong
 exact decide_eq_false (by omega)
end
section
variable {X:Cx}
noncomputable def g8e:V->List V->Hp->VK->Prop:=fun x vs H Q=>∃ l xs y,x = .ref l/\vs = [y]/\H l=some (.lst xs)/\xs.length < sizeLine/\Q .non (upd H l (.lst (xs++[y])))
theorem d2v : MtM X "list.append" g8e := by
 intro pins s σ H x vs v us Q I rx rv h
 obtain⟨l,xs,y,rfl,rfl,hH,hz,q⟩:=h
 cases rx
 obtain⟨u,rfl,ru⟩:=rv.one
 obtain⟨z,its,n,r,hl,e⟩:=I.i4o hH
 refine call_meets F.slot_list_append ⟨_,e,rfl⟩ F.entry_list_append (F.args_list_append_2 _ _) (PySem.list_append l its.toArray n u (by rw [List.size_toArray]; omega)) ⟨e,?_⟩
 refine⟨.non,_,I.lset (its':=its++[u]) hH e (by simp) (r.append (.cons ru .nil)) ?_,rfl,q⟩
 rw [List.length_append,List.length_singleton]
 omega
def rCat:R2:=fun x y H Q=>∃ l b xs zs,x = .ref l/\y = .ref b/\H l=some (.lst xs)/\H b=some (.lst zs)/\xs.length+zs.length<=sizeLine/\∀ p,H p=none->Q (.ref p) (upd H p (.lst (xs++zs)))
theorem i0i:OpR X (binaryOp .Add) rCat:=by
 intro pins s σ H x y v u Q I rx ry h
 obtain⟨l,b,xs,zs,rfl,rfl,hH,hB,hz,q⟩:=h
 cases rx
 cases ry
 obtain⟨z,its,n,r,hl,e⟩:=I.i4o hH
 obtain⟨z2,its2,n2,r2,hl2,e2⟩:=I.i4o hB
 refine PySem.P.add_list e e2 ?_ (by rw [List.size_toArray,List.size_toArray]; omega)
 have ea:its.toArray++its2.toArray=(its++its2).toArray:=by simp
 rw [ea]
 exact⟨.ref _,_,I.i8g (t':=s.toks) (r.append r2) (by rw [List.length_append]; omega),rfl,q _ I.fresh⟩
def rRep:R2:=fun x y H Q=>∃ l k xs,x = .ref l/\y = .int k/\H l=some (.lst xs) /\ -(2 ^ 63)<=k/\k < 2 ^ 63/\xs.length*k.toNat<=sizeLine /\
 ∀ p,H p=none->Q (.ref p) (upd H p (.lst (List.replicate k.toNat xs).flatten))
theorem len_rep{α:Type}(xs:List α)(k:Nat):(List.replicate k xs).flatten.length=k*xs.length:=by
 induction k with
 | zero=>simp
 | succ k ih=>rw [List.replicate_succ,List.flatten_cons,List.length_append,ih,Nat.succ_mul,Nat.add_comm]
theorem i0j:OpR X (binaryOp .Mult) rRep:=by
 intro pins s σ H x y v u Q I rx ry h
 obtain⟨l,k,xs,rfl,rfl,hH,h1,h2,hz,q⟩:=h
 cases rx
 obtain⟨t,rfl⟩:=ry
 obtain⟨z,its,n,r,hl,e⟩:=I.i4o hH
 have hlen:its.toArray.size*k.toNat<=sizeLine:=by rw [List.size_toArray,<- hl]; exact hz
 have hcap:¬ its.toArray.size*k.toNat > (2 ^ 63 - 1) / 8:=by
  have:(sizeLine:Nat)<=(2 ^ 63 - 1) / 8:=by decide
  omega
 have hfit:¬ (!Builtin.List.listFitsIndex k)=true:=by
  rw [fitsIndex_both h1 h2]
  exact Bool.false_ne_true
 have i5k:¬ Builtin.List.listTooLong (its.toArray.size*k.toNat)=true:=by
  rw [h2e hlen]
  exact Bool.false_ne_true
 have hnew:List.foldl (fun x1 x2=>x1++x2) #[] (List.replicate (if its.toArray.isEmpty=true then 0 else k.toNat) its.toArray)=(List.replicate k.toNat its).flatten.toArray:=by
  have f0:∀ m:Nat,List.foldl (fun x1 x2=>x1++x2) #[] (List.replicate m its.toArray)=(List.replicate m its).flatten.toArray:=fun m=>by
   have:=foldl_rep its m []
   rw [List.nil_append] at this
   exact this
  rw [f0]
  cases its with
  | nil=>simp
  | cons a r'=>rw [if_neg (by simp)]
 refine wpAny_binaryOp_repeat_ref (T := "list") (U := "int") (by decide) ⟨_, e, rfl⟩ (fun s' => typeIs_int s' k t) noFill_list_mul F.fills_int_mul F.slot_int_rmul repeat_list F.slot_int_index.lookup
  (call_meets F.slot_int_rmul (typeIs_int s k t) F.entry_int_rmul (F.args_int_rmul_2 _ _) (int___rmul___int_list k t l its.toArray n)
   ⟨e,rfl,⟨_,e,rfl⟩,call_meets F.slot_list_mul ⟨_,e,rfl⟩ F.entry_list_mul (F.args_list_mul_2 _ _) (AutoListH.list___mul___list_int_3 l its.toArray n k t hfit hcap i5k) ⟨e,?_⟩⟩)
 rw [hnew]
 exact⟨.ref _,_,I.i8g (t':=s.toks) (r.rep k.toNat) (by rw [len_rep,Nat.mul_comm]; exact hz),rfl,q _ I.fresh⟩
end
section
variable {prog:Program}{w:World}{A:Around}{E:Value->Shared->Prop}{s:Shared}
end
section
variable {X:Cx}
end
end L2
namespace Att
open PySem PySem.W PySem.Calls PyProof.Rows
theorem d8t{P:Params}{h:Heap}:∀ (ns:List Int) (vs:List Value),WellAll P h vs (ns.map WData.int)->IntsAre vs ns:=by
 intro ns
 induction ns with
 | nil =>
  intro vs w
  rw [List.map_nil] at w
  cases w
  exact .nil
 | cons n ns ih =>
  intro vs w
  rw [List.map_cons] at w
  cases w with
  | cons a b =>
   cases a
   exact .cons _ _ (ih _ b)
theorem g8f{l:OpenLaw}{n:Nat}(hn:l.most=some n){P:Params}{h:Heap}{args:List WData}{vals:List Value}
  (hpre:l.row.toRowW.claim.pre args=true) (hwl:WellAll P h vals args) :
  ∃ a vs ns, vals = [Value.ref a] ∧ args = [WData.list (ns.map WData.int)] ∧ h.get? a = some { cls := .type "list", data := .seq vs.toArray } ∧ IntsAre vs ns ∧ ns.length ≤ n := by
 have hsh:WShape.hasAll [] args [.list .int]=true:=(pre_splitW hpre).1
 have hc:l.pre.holds [] { args:=args }=true:=(pre_splitW hpre).2
 obtain⟨d,r,rfl,h1,h2⟩:=hasAllW_cons hsh
 obtain rfl:=hasAllW_nil h2
 obtain⟨xs,rfl,h3⟩:=hasW_list h1
 obtain⟨ns,rfl⟩:=items_int h3
 have hlen:ns.length<=n:=by
  unfold OpenLaw.pre at hc
  have h4:(WTm.not (.lt (.lit (.int (n:Int))) (.len (.arg 0)))).holds [] { args:=[.list (ns.map .int)] }=true:=by
   have h4:=(holds_andW hc).1
   rw [hn] at h4
   exact h4
  have h5:=condW_of h4 (w_not (w_lt w_lit (w_len_list (w_arg rfl))))
  rw [List.length_map] at h5
  refine Nat.le_of_not_lt fun q=>?_
  have q':(n:Int) < ((ns.length:Nat):Int):=by omega
  first
   | (rw [decide_eq_true q'] at h5; exact absurd h5 (by decide))
   | (simp at h5; omega)
 cases hwl with
 | cons w1 w2 =>
  cases w2
  cases w1 with
  | list ho hall=>exact⟨_,_,ns,rfl,rfl,ho,d8t ns _ hall,hlen⟩
theorem g8g(l:OpenLaw)(args:List WData):l.row.toRowW.claim.post args (.bool true) args=true :=
 postW_of (r:=l.row.toRowW) (X:=(true == true))
  (show WShape.has [] (.bool true) .bool=true by first | rfl | decide | simp [WShape.has,WShape.arms,WShape.armsAll])
  (show (WTm.eq .res (.lit (.bool true))).value [] { args:=args,res:=some (.bool true),after:=args }=some (.bool (true == true)) from w_eq_bool (w_res rfl) w_lit) rfl
section
variable {prog:Program}{w:World}{A:Around}{E:Value->Shared->Prop}{s:Shared}{K:Frag}
end
end Att
namespace L2
open PySem PySem.Spec PyProof.Rows
theorem f8s:∀ {vs:List Value} {ns:List Int},IntsAre vs ns->Vals (ns.map V.int) vs
 | _,_,.nil=>.nil
 | _,_,.cons n t h=>.cons ⟨t,rfl⟩ (f8s h)
def Only(H:Hp):Prop:=∀ b,H b=none\/∃ o xs,H b=some (.frz o (.lst xs))
theorem h2f{P:Program}{w:World}{K:PySem.W.Frag}{mg mb:Str->Option Value}{CX:CXT}{k:Nat}{fa a:Addr}{fd:FuncData}{x:Str}{sp:Sp}{s₁:Shared}{vs:List Value}{ns:List Int}
  (KX : K.In s₁.heap) (hns : s₁.heap.Ns mainGlobals mg) (hb : s₁.heap.Ns builtinsNs mb) (hbb : ∀ x : Str, x ≠ "__name__" → mb x = bootBuiltins x) (hlim : s₁.heap.NoLimit) (hg : s₁.gens = #[])
  (ha : s₁.heap.get? a = some { cls := .type "list", data := .seq vs.toArray }) (hi : IntsAre vs ns) (hl : ns.length ≤ sizeLine) (hr : a1y k callerA)
  (F:∀ base:Heap,K.In base->base.Ns mainGlobals mg->a1g P w K mg base CX k fa fd [x] sp) (hbind:∀ (s:Shared) (u:Value),BindsTo s fd ⟨[u],[]⟩ [(x,u)])
  (hsp:∀ H:Hp,Only H->SqL K H a (ns.map V.int)->sp [.ref a] H (fun v _=>v = .bl true) fun _ _ _=>False)
  (hCX:∀ H e s',CX [] H s₁ (fun _ _ _=>False) e s'->False) :
  codeAny (model P w) callerA (.call (.ref fa) ⟨[.ref a],[]⟩) (fun r s'=>r = .ok (.ret (.bool true))/\OldK s₁.heap s'.heap/\s'.os=s₁.os/\AllBare s'.gens) s₁:=by
 have rv:=f8s hi
 have lenV:=hi.length
 -- from an abstract heap in which nothing but the script may be tracked
 have core:∀ H:Hp,Only H->SqL K H a (ns.map V.int)->HOk P w H s₁.heap->(∀ b,H b≠none->b=a)->(H a≠none->K.lookup a=none) ->
   codeAny (model P w) callerA (.call (.ref fa) ⟨[.ref a],[]⟩) (fun r s'=>r = .ok (.ret (.bool true))/\OldK s₁.heap s'.heap/\s'.os=s₁.os/\AllBare s'.gens) s₁:=by
  intro H hO hS hok hA hK
  have g8h:∀ {b:Addr} {o:Obj},s₁.heap.get? b=some o->H b=none->(h1l s₁.heap H).get? b=some o:=fun e n=>h1n e n
  have noA:∀ {b:Addr} {o:Obj} {es:Array DictEntry} {ep:Nat},s₁.heap.get? b=some o->o.data = .dict es ep->H b=none:=fun {b o es ep} e d=>by
   cases q:H b with
   | none=>rfl
   | some u =>
    have e':b=a:=hA b (by rw [q]; simp)
    subst e'
    rw [ha] at e; cases e
    have d':Data.seq vs.toArray _=Data.dict es ep:=d
    cases d'
  have nsK:∀ {b:Addr} {m:Str->Option Value},s₁.heap.Ns b m->(h1l s₁.heap H).Ns b m:=fun {b m} ⟨o,es,ep,e,d,r⟩=>⟨o,es,ep,g8h e (noA e d),d,r⟩
  have hKb:K.In (h1l s₁.heap H):=fun b o e=>g8h (KX b o e) (by
   cases q:H b with
   | none=>rfl
   | some u =>
    have e':b=a:=hA b (by rw [q]; simp)
    subst e'
    rw [hK (by rw [q]; simp)] at e; cases e)
  have hM:Mod K mg (h1l s₁.heap H):=⟨hKb,nsK hns,⟨mb,nsK hb,hbb⟩,let ⟨mc,h1,h2⟩:=hlim; ⟨mc,nsK h1,h2⟩⟩
  have e0:h4j P w K mg (h1l s₁.heap H) callerA [] s₁ H:=⟨rfl,hM,fun b o e=>h5t e,Nat.le_of_eq (g7l _ _),trivial,fun b hb=>absurd (show b∈([] : List Addr) from hb) (by simp),hok,.of_eq hg⟩
  refine codeAny_mono ((F _ hKb (nsK hns)).run callerA [] s₁ H ⟨[.ref a],[]⟩ [.ref a] [.ref a] _ _ hr e0 (hbind s₁ (.ref a)) (.cons rfl .nil) (hsp H hO hS)) fun r s' h=>?_
  cases r with
  | error e=>exact (hCX H e s' h).elim
  | ok fl =>
   cases fl with
   | next=>exact False.elim h
   | brk=>exact False.elim h
   | cont=>exact False.elim h
   | ret u =>
    obtain⟨v,H',os,bare,un,hok',r',q⟩:=h
    have q':v = .bl true:=q
    subst q'
    obtain rfl:u=Value.bool true:=r'
    refine⟨rfl,OldK.of_keep fun b o e=>?_,os,bare⟩
    cases q:H b with
    | none=>exact un.keep b o e q (by intro z; exact absurd (show b∈([] : List Addr) from z) (by simp)) (by simp)
    | some u =>
     rcases hO b with z | ⟨ob,xs,z⟩
     ·rw [q] at z; cases z
     ·have z2:=un.f7v b ob _ z
      obtain⟨e1,_⟩:=hok b _ z
      obtain⟨e2,_⟩:=hok' b _ z2
      rw [e] at e1; cases e1
      exact e2
 cases hk:K.lookup a with
 | some o =>
  -- the script is one of the module's own objects
  have e:=KX a o hk
  rw [ha] at e
  cases e
  refine core (fun _=>none) (fun _=>.inl rfl) (.inr ⟨_,vs.toArray,_,hk,rfl,rfl,rfl,by rw [List.size_toArray,lenV]; exact hl,by simpa using rv⟩) (fun b u z=>by have z':(none:Option HO)=some u:=z; cases z') (fun b z=>absurd rfl z) fun z=>absurd rfl z
 | none =>
  refine core (fun b => if b = a then some (.frz { cls := .type "list", data := .seq vs.toArray } (.lst (ns.map V.int))) else none) (fun b => ?_) (.inl (.inr ⟨{ cls := .type "list", data := .seq vs.toArray }, if_pos rfl⟩)) (fun b u z => ?_) (fun b z => ?_) fun _ => hk
  ·by_cases hb:b=a
   ·exact .inr ⟨_,_,if_pos hb⟩
   ·exact .inl (if_neg hb)
  ·by_cases hb:b=a
   ·have z':=(if_pos hb).symm.trans z
    cases z'
    subst hb
    exact⟨ha,by rw [List.length_map]; exact hl,vs,_,rv,ha⟩
   ·have z':=(if_neg hb).symm.trans z
    cases z'
  ·by_cases hb:b=a
   ·exact hb
   ·exact absurd (if_neg hb) z
end L2
namespace L2
open PySem PySem.Spec PyProof.Rows
end L2
/- THE LAST THEOREM (shape; LID,My.* are yours):
  My.Adr: a structure of the addresses that your layer names (classes,functions); My.Txt K t: a structure (Prop) of the equations over K;
  My.txt_mk : {K} {implicit addresses ..} (e1 : nsIn K mainGlobals "law" = some (some (.ref f))) (e2 : K.lookup f = some ⟨oc, od, .func (fnOf "law" "law" params body scope dV kV doc pm an cdv ct), sl⟩) (e3 : codeIn K cdv "law" = true) .. : ∃ t, My.Txt K t
(the tactic k_is has no namespace: write k_is) -/
namespace L2
open PySem PySem.Spec PyProof.Rows
noncomputable def inClass(s:Stmt)(j:Nat):Stmt:=match s with
 | .ClassDef _ _ _ body _ _ _ _ _ _ _=>body.getD j (.Pass ⟨0,0,0,0⟩)
 | _=>.Pass ⟨0,0,0,0⟩
noncomputable def f5n(s:Stmt):Arguments:=match s with
 | .FunctionDef _ a _ _ _ _ _ _ _ _=>a
 | _=>{ posonlyargs:=[],args:=[],vararg:=none,kwonlyargs:=[],kw_defaults:=[],kwarg:=none,defaults:=[] }
noncomputable def d1m(s:Stmt):List Stmt:=match s with
 | .FunctionDef _ _ b _ _ _ _ _ _ _=>b
 | _=>[]
noncomputable def a0n(s:Stmt):Scope:=match s with
 | .FunctionDef _ _ _ _ _ _ sc _ _ _=>sc
 | _=>{ kind:=.function,names:=[],isGenerator:=false,isCoroutine:=false }
noncomputable abbrev CX0:CXT:=fun _ _ _ _ _ _=>False
abbrev E0:XK:=fun _ _ _=>False
theorem a0w{X:Cx}:Passes CX0 X E0:=fun _ _ _ _ _ _ _ h=>h.elim
structure Fun(K:PySem.W.Frag)(x qual:Str)(st:Stmt)(f:Addr)(fd:FuncData):Prop where
 ex:∃ (oc:Value) (od:Option Addr) (kV doc pm:Value) (an:Option Addr) (cdv ct:Value) (osl:Array (Option Value)),
  fd=PySem.W.fnOf x qual (f5n st) (d1m st) (a0n st) .none kV doc pm an cdv ct/\K.lookup f=some ⟨oc,od,.func fd,osl⟩/\PySem.W.codeIn K cdv qual=true
 kp:PySem.W.keepIn K (.ref f)=true
section
variable {P:Program}{w:World}{K:PySem.W.Frag}{mg:Str->Option Value}{base:Heap}
theorem Fun.ok{x qual:Str}{st:Stmt}{f:Addr}{fd:FuncData}{N ps:List Str}{k:Nat}{sp:Sp}(F:Fun K x qual st f fd)(S:a0v N ps (a0n st))(len:∀ vs H Q E,sp vs H Q E->vs.length=ps.length)
  (hbody:∀ (cdv:Value) (A:Around) (outer:List Env) (s:Shared) (H:Hp) (vs:List V) (Q:VK) (E:XK),a1y k (A.deeper (envOfC qual (a0n st) s.heap.objs.size f cdv))->sp vs H Q E ->
   ∃ t,PSs (g7f CX0 P w K mg base N qual (a0n st) f cdv A outer s H E).nox (d1m st) t/\t { nx:=fun _ H'=>Q .non H',rt:=Q } (start N vs) H):a1g P w K mg base CX0 (k+1) f fd ps sp:=by
 obtain⟨oc,od,kV,doc,pm,an,cdv,ct,osl,rfl,lk,hcd⟩:=F.ex
 refine h6e lk hcd S len fun A outer s H vs Q E hr hsp=>?_
 obtain⟨t,h,q⟩:=hbody cdv A outer s H vs Q E hr hsp
 exact⟨t,h.nox,q⟩
theorem Fun.binds{x qual:Str}{st:Stmt}{f:Addr}{fd:FuncData}{ps:List Str}(F:Fun K x qual st f fd)
  (h:∀ (kV doc pm:Value) (an:Option Addr) (cdv ct:Value) (us:List Value),us.length=ps.length->bindArgs (PySem.W.fnOf x qual (f5n st) (d1m st) (a0n st) .none kV doc pm an cdv ct) ⟨us,[]⟩=pure (ps.zip us)):Binds K fd ps []:=by
 obtain⟨oc,od,kV,doc,pm,an,cdv,ct,osl,rfl,lk,hcd⟩:=F.ex
 exact .all (h kV doc pm an cdv ct)
theorem a1s{x qual:Str}{st:Stmt}{f:Addr}{oc:Value}{od an:Option Addr}{osl:Array (Option Value)}{kV doc pm cdv ct:Value}(l:K.lookup f=some ⟨oc,od,.func (PySem.W.fnOf x qual (f5n st) (d1m st) (a0n st) .none kV doc pm an cdv ct),osl⟩)
  (c:PySem.W.codeIn K cdv qual=true) (k:PySem.W.keepIn K (.ref f)=true):Fun K x qual st f (PySem.W.fnOf x qual (f5n st) (d1m st) (a0n st) .none kV doc pm an cdv ct):=⟨⟨oc,od,kV,doc,pm,an,cdv,ct,osl,rfl,l,c⟩,k⟩
end
section
variable {X:Cx}
end
def Same(H H':Hp):Prop:=∀ b o,H b=some o->H' b=some o
theorem Same.refl(H:Hp):Same H H:=fun _ _ h=>h
theorem Same.trans{H H1 H2:Hp}(a:Same H H1)(b:Same H1 H2):Same H H2:=fun c o h=>b c o (a c o h)
theorem Same.free{H H':Hp}(e:Same H H'){l:Addr}(h:H' l=Option.none):H l=Option.none:=by
 cases q:H l with
 | none=>rfl
 | some o =>
  rw [e l o q] at h
  cases h
theorem Same.seq{K:PySem.W.Frag}{H H':Hp}{a:Addr}{xs:List V}(e:Same H H')(h:SqL K H a xs):SqL K H' a xs:=by
 rcases h with (h | ⟨o,h⟩) | h
 ·exact .inl (.inl (e _ _ h))
 ·exact .inl (.inr ⟨o,e _ _ h⟩)
 ·exact .inr h
end L2
namespace L2
open PySem PySem.Spec PyProof.Rows
section
variable {κ:Type}[DecidableEq κ]
noncomputable def h1e(kvs:List (κ×V))(k:κ):Option V:=(kvs.find? fun kv=>decide (kv.1=k)).map (·.2)
noncomputable def putK(kvs:List (κ×V))(k:κ)(v:V):List (κ×V) :=
 if (kvs.any fun kv=>decide (kv.1=k))=true then kvs.map (fun kv=>if kv.1=k then (kv.1,v) else kv) else kvs++[(k,v)]
noncomputable def dropK(kvs:List (κ×V))(k:κ):List (κ×V):=kvs.filter fun kv=>decide (kv.1≠k)
theorem h2g{p:κ×V}{r:List (κ×V)}{k:κ}(e:p.1=k):h1e (p :: r) k=some p.2:=by simp [h1e,List.find?_cons,e]
theorem h2i{p:κ×V}{r:List (κ×V)}{k:κ}(e:¬ p.1=k):h1e (p :: r) k=h1e r k:=by simp [h1e,List.find?_cons,e]
theorem h2j(k:κ):∀ kvs:List (κ×V),(kvs.any fun kv=>decide (kv.1=k))=(h1e kvs k).isSome
 | []=>rfl
 | p :: r=>by
  rw [List.any_cons]
  by_cases e:p.1=k
  ·simp only [h2g e,decide_eq_true e,Bool.true_or,Option.isSome_some]
  ·rw [h2i e,decide_eq_false e,Bool.false_or]; exact h2j k r
theorem g7e.getD{o:Option V}{u:Option Value}{d:V}{d':Value}(r:g7e o u)(rd:RelV d d'):RelV (o.getD d) (u.getD d'):=by
 cases o with
 | none=>cases u with
  | none=>exact rd
  | some _=>exact (show False from r).elim
 | some _=>cases u with
  | none=>exact (show False from r).elim
  | some _=>exact r
theorem KV.any{kvs:List (κ×V)}{vs:List (κ×Value)}(r:KV kvs vs)(k:κ):(kvs.any fun kv=>decide (kv.1=k))=vs.any fun kv=>decide (kv.1=k):=by
 unfold KV at r
 induction r with
 | nil=>rfl
 | cons h t ih=>rw [List.any_cons,List.any_cons,ih,h.1]
theorem KV.repl{kvs:List (κ×V)}{vs:List (κ×Value)}(r:KV kvs vs)(k:κ){y:V}{u:Value}(ry:RelV y u) :
  KV (kvs.map fun kv=>if kv.1=k then (kv.1,y) else kv) (vs.map fun kv=>if kv.1=k then (kv.1,u) else kv):=by
 unfold KV at r ⊢
 induction r with
 | nil=>exact .nil
 | @cons p q ps qs h t ih =>
  rw [List.map_cons,List.map_cons]
  refine .cons ?_ ih
  obtain⟨h1,h2⟩:=h
  by_cases e:p.1=k
  ·rw [if_pos e,if_pos (h1.symm.trans e)]; exact⟨h1,ry⟩
  ·rw [if_neg e,if_neg (fun z=>e (h1.trans z))]; exact⟨h1,h2⟩
theorem KV.length{kvs:List (κ×V)}{vs:List (κ×Value)}(r:KV kvs vs):kvs.length=vs.length:=Paired.length r
end
section
variable {P:Program}{w:World}{H:Hp}{h:Heap}{a:Addr}
end
def i4p(H:Hp)(a:Addr)(y:V)(r:Option V):Prop :=
 (∃ kvs k,Rd H a (.dK kvs)/\y=kV k/\r=h1e kvs k)\/∃ kvs k b,Rd H a (.dT kvs)/\y = .ref b/\H b=some (.tup (k.map kV))/\r=h1e kvs k
def i4q(H:Hp)(a:Addr)(y v:V)(H':Hp):Prop :=
 (∃ kvs k,H a=some (.dK kvs)/\y=kV k/\kvs.length < sizeLine/\H'=upd H a (.dK (putK kvs k v))) \/
 ∃ kvs k b,H a=some (.dT kvs)/\y = .ref b/\H b=some (.tup (k.map kV))/\kvs.length < sizeLine/\H'=upd H a (.dT (putK kvs k v))
theorem i4p.k{H:Hp}{a:Addr}{kvs:List (Key×V)}{k:Key}(e:H a=some (.dK kvs)):i4p H a (kV k) (h1e kvs k):=.inl ⟨kvs,k,.inl e,rfl,rfl⟩
theorem i4p.t{H:Hp}{a b:Addr}{kvs:List (List Key×V)}{k:List Key}(e:H a=some (.dT kvs))(eb:H b=some (.tup (k.map kV))):i4p H a (.ref b) (h1e kvs k):=.inr ⟨kvs,k,b,.inl e,rfl,eb,rfl⟩
theorem i4q.k{H:Hp}{a:Addr}{kvs:List (Key×V)}{k:Key}{v:V}(e:H a=some (.dK kvs))(hl:kvs.length < sizeLine):i4q H a (kV k) v (upd H a (.dK (putK kvs k v))):=.inl ⟨kvs,k,e,rfl,hl,rfl⟩
theorem i4q.t{H:Hp}{a b:Addr}{kvs:List (List Key×V)}{k:List Key}{v:V}(e:H a=some (.dT kvs))(eb:H b=some (.tup (k.map kV)))(hl:kvs.length < sizeLine) :
  i4q H a (.ref b) v (upd H a (.dT (putK kvs k v))):=.inr ⟨kvs,k,b,e,rfl,eb,hl,rfl⟩
section
variable {X:Cx}{pins:List (Addr×Obj)}{σ:St}{H:Hp}{s:Shared}{a:Addr}{y v:V}{u r:Value}{o:Option V}{A:Around}{E:Value->Shared->Prop}
theorem Inv.big(I:Inv X pins σ H s):sysModules < s.heap.objs.size:=by
 have h:mainGlobals < s.heap.objs.size:=(I.mod.glob.keeps I.bk).lt
 exact Nat.lt_trans (by decide) h
end
section
variable {X:Cx}{pins:List (Addr×Obj)}{σ:St}{H:Hp}{s:Shared}{a:Addr}{kvs:List (Key×V)}{k:Key}{u:Value}{A:Around}{E:Value->Shared->Prop}
end
section
variable {X:Cx}{o i e value:Expr}{pos pos' tpos:Pos}{td ty tv:TE}
end
theorem h2l {P : Program} {w : World} {H : Hp} (h : Heap) (hb : sysModules < h.objs.size) : b8y P w H (h.push { cls := .type "dict", data := .dict #[] }) h.objs.size (.dK []) :=
 ⟨Nat.zero_le _,beq_eq_false_iff_ne.mpr (Ne.symm (Nat.ne_of_lt hb)),[],.nil,Heap.DictOf.new h⟩
def i0k:TE:=fun _ H Q=>∀ p,H p=none->Q (.ref p) (upd H p (.dK []))
section
variable {X:Cx}{pos:Pos}
theorem h2m:PE X (.Dict [] [] pos) i0k:=fun pins s σ H Q I h =>
 wpAny_Dict_empty ⟨.ref s.heap.objs.size,_,I.laid (a:=s.heap.objs.size) (o:=.dK []) (t':=s.toks) (fun _ _ q=>Heap.get?_push_of_some _ q) (Nat.le_refl _) (h2l s.heap I.big),rfl,h _ (I.hok.fresh (Nat.le_refl _))⟩
end
structure M1(X:Cx)(o:Expr)(m:Str)(apos:Pos)(e:Expr)(cpos:Pos):Prop where
 base:attributeBase o m X.env (eval o X.env)=eval o X.env
 few:((backTo cpos (starEach [e] X.env)).all (fun x=>!x.1) && (backToKw cpos (keywordEach [] X.env)).all (fun x=>x.1.isSome)
  && decide (([e] : List Expr).length+([] : List Keyword).length+(if ([] : List Keyword).isEmpty then 0 else 1) < 30))=true
 line:(apos.endLine == cpos.line)=true
 trees:backTo cpos (starEach [e] X.env) = [(false,eval e X.env)]
structure M2(X:Cx)(o:Expr)(m:Str)(apos:Pos)(e f:Expr)(cpos:Pos):Prop where
 base:attributeBase o m X.env (eval o X.env)=eval o X.env
 few:((backTo cpos (starEach [e,f] X.env)).all (fun x=>!x.1) && (backToKw cpos (keywordEach [] X.env)).all (fun x=>x.1.isSome)
  && decide (([e,f] : List Expr).length+([] : List Keyword).length+(if ([] : List Keyword).isEmpty then 0 else 1) < 30))=true
 line:(apos.endLine == cpos.line)=true
 trees:backTo cpos (starEach [e,f] X.env) = [(false,eval e X.env),(false,eval f X.env)]
section
variable {X:Cx}{pins:List (Addr×Obj)}{σ:St}{H:Hp}{s:Shared}{a:Addr}{y d:V}{u r:Value}{o:Option V}{A:Around}{E:Value->Shared->Prop}
end
section
variable {X:Cx}{o e f:Expr}{apos cpos:Pos}{td ty tx:TE}
end
section
variable {X:Cx}{pins:List (Addr×Obj)}{σ:St}{H:Hp}{s:Shared}{a:Addr}{kvs:List (Key×V)}{A:Around}{E:Value->Shared->Prop}
end
section
variable {X:Cx}{pins:List (Addr×Obj)}{σ:St}{H:Hp}{s:Shared}{a:Addr}{y:V}{u:Value}{A:Around}{E:Value->Shared->Prop}
end
section
variable {X:Cx}
end
section
variable {κ:Type}[DecidableEq κ]
end
end L2
namespace L2
open PySem PySem.Spec PyProof.Rows
open PySem.Builtin.Int (intBits)
section
variable {X:Cx}{a b c:Expr}{ta tb tc:TE}{pos:Pos}
theorem h6k:OpR X (binaryOp .Mult) (rI IntMulOk fun i j=>.int (i*j)):=opI fun _ _ _ _ _ _ _ hc q=>mul_int q hc
def CFd(i j:Int):Prop:=j≠0/\intBits j<=9000
theorem g1b{j:Int}(h:j≠0)(hb:intBits j<=9000):j.natAbs.log2 < 9000:=by
 have h1:=intBits_le_iff.mp hb
 exact (Nat.log2_lt (by omega)).mpr h1
theorem h2n:OpR X (binaryOp .FloorDiv) (rI CFd fun i j=>.int (i.fdiv j)):=opI fun i j _ _ _ _ _ hc q =>
 floordiv_int hc.1 q (.inl (PyProof.noPylong_of_log2 (g1b hc.1 hc.2)))
inductive Ty where
 | non | bl | int | str | lst | tup | dct
 deriving DecidableEq
noncomputable def Ty.nm:Ty->String
 | .non => "NoneType" | .bl => "bool" | .int => "int" | .str => "str" | .lst => "list" | .tup => "tuple" | .dct => "dict"
noncomputable def g1c(H:Hp):V->Option Ty
 | .non=>some .non
 | .bl _=>some .bl
 | .int _=>some .int
 | .str _=>some .str
 | .ref a=>match H a with
  | some (.lst _)=>some .lst
  | some (.frz _ (.lst _))=>some .lst
  | some (.tup _)=>some .tup
  | some (.dK _)=>some .dct
  | some (.dT _)=>some .dct
  | _=>none
 | _=>none
noncomputable def h4l(t T:Ty):Bool:=decide (t=T) || (decide (t = .bl) && decide (T = .int))
theorem h6l{K:PySem.W.Frag}{H:Hp}{x:V}{t:Ty}(h:g1c H x=some t):g5i K H x (.type t.nm):=by
 cases x with
 | non=>cases h; exact .non
 | bl b=>cases h; exact .bl b
 | int i=>cases h; exact .int i
 | str s=>cases h; exact .str s
 | byt b=>cases h
 | flt b=>cases h
 | ty n=>cases h
 | ref a =>
  unfold g1c at h
  cases e:H a with
  | none=>simp [e] at h
  | some o =>
   cases o with
   | lst xs=>simp [e] at h; subst h; exact .lst e
   | tup xs=>simp [e] at h; subst h; exact .tup e
   | dK kvs=>simp [e] at h; subst h; exact .dK e
   | dT kvs=>simp [e] at h; subst h; exact .dT e
   | frz ob u =>
    cases u with
    | lst xs=>simp [e] at h; subst h; exact .frz e
    | _=>simp [e] at h
   | _=>simp [e] at h
theorem i0l{K:PySem.W.Frag}(t T:Ty):PySem.W.kitOne K (.type t.nm) (.type T.nm)=some (h4l t T):=by
 cases t <;> cases T <;> rfl
noncomputable def rIsT(T:Ty):List V->Hp->VK->Prop:=fun xs H Q=>match xs with
 | [x,.ty n]=>n=T.nm/\∃ t,g1c H x=some t/\Q (.bl (h4l t T)) H
 | _=>False
theorem d0k (T : Ty) : c8j X (.builtin "isinstance") (rIsT T) := by
 intro pins s σ H xs us Q I r h
 match xs,r,h with
 | [x,.ty n],r,h =>
  obtain⟨rfl,t,ht,q⟩:=h
  obtain⟨u,v,rfl,r1,r2⟩:=vals2 r
  cases (show v=Value.type T.nm from r2)
  exact d8q I r1 (h6l ht) (i0l t T) fun tk=>⟨.bl _,H,I.tok tk,rfl,q⟩
mutual
inductive g5n(K:PySem.W.Frag)(H:Hp):V->PyData->Prop
 | non:g5n K H .non .none
 | bl (b:Bool):g5n K H (.bl b) (.bool b)
 | int (i:Int):g5n K H (.int i) (.int i)
 | str (x:Str):g5n K H (.str x) (.str x)
 | lst {a:Addr} {xs:List V} {ds:List PyData}:SqL K H a xs->d1n K H xs ds->g5n K H (.ref a) (.list ds)
 | tup {a:Addr} {xs:List V} {ds:List PyData}:SqT K H a xs->d1n K H xs ds->g5n K H (.ref a) (.tuple ds)
inductive d1n(K:PySem.W.Frag)(H:Hp):List V->List PyData->Prop
 | nil:d1n K H [] []
 | cons {x:V} {xs:List V} {d:PyData} {ds:List PyData}:g5n K H x d->d1n K H xs ds->d1n K H (x :: xs) (d :: ds)
end
section
variable {pins:List (Addr×Obj)}{σ:St}{H:Hp}{s:Shared}
mutual
theorem Inv.reads(I:Inv X pins σ H s):∀ {v:V} {d:PyData} {u:Value},g5n X.K H v d->RelV v u->∃ as,Reads s.heap u d as
 | _,_,_,.non,r=>by cases (show _=Value.none from r); exact⟨_,.none⟩
 | _,_,_,.bl b,r=>by cases (show _=Value.bool b from r); exact⟨_,.bool b⟩
 | _,_,_,.int i,r=>by obtain⟨t,rfl⟩:=r; exact⟨_,.int i t⟩
 | _,_,_,.str x,r=>by obtain⟨t,rfl⟩:=r; exact⟨_,.str x t⟩
 | _,_,_,.lst (a:=a) hs ha,r=>by
  cases (show _=Value.ref a from r)
  obtain⟨its,rv,⟨o,n,e,c,_,dd⟩,_⟩:=I.list hs
  obtain⟨as,q⟩:=Inv.readsAll I ha rv
  exact⟨_,.list e c dd (by simpa using q)⟩
 | _,_,_,.tup (a:=a) hs ha,r=>by
  cases (show _=Value.ref a from r)
  obtain⟨its,rv,⟨o,e,c,n,dd⟩,_⟩:=I.tuple hs
  obtain⟨as,q⟩:=Inv.readsAll I ha rv
  exact⟨_,.tuple e c dd (by simpa using q)⟩
theorem Inv.readsAll(I:Inv X pins σ H s):∀ {vs:List V} {ds:List PyData} {us:List Value},d1n X.K H vs ds->Vals vs us->∃ as,ReadsAll s.heap us ds as
 | _,_,_,.nil,.nil=>⟨_,.nil⟩
 | _,_,_,.cons h t,.cons r q=>by
  obtain⟨as,x⟩:=Inv.reads I h r
  obtain⟨bs,y⟩:=Inv.readsAll I t q
  exact⟨_,.cons x y⟩
end
end
def i8h(K:PySem.W.Frag):R2:=fun x y H Q=>∃ d e,g5n K H x d/\g5n K H y e/\SeqAt.shaped d=true/\SeqAt.shaped e=true/\Q (.bl (PyData.eqv d e)) H
def i8i(K:PySem.W.Frag):R2:=fun x y H Q=>∃ d e,g5n K H x d/\g5n K H y e/\SeqAt.shaped d=true/\SeqAt.shaped e=true/\Q (.bl (!PyData.eqv d e)) H
theorem i0m(hu:X.A.units+64 < cLine):OpR X (compareOp .Eq) (i8h X.K):=by
 intro pins s σ H x y v u Q I rx ry h
 obtain⟨d,e,hd,he,sd,se,q⟩:=h
 obtain⟨as,ra⟩:=I.reads hd rx
 obtain⟨bs,rb⟩:=I.reads he ry
 exact eq_dataH ra rb sd se hu ⟨.bl _,H,I,rfl,q⟩
theorem i0n(hu:X.A.units+64 < cLine):OpR X (compareOp .NotEq) (i8i X.K):=by
 intro pins s σ H x y v u Q I rx ry h
 obtain⟨d,e,hd,he,sd,se,q⟩:=h
 obtain⟨as,ra⟩:=I.reads hd rx
 obtain⟨bs,rb⟩:=I.reads he ry
 exact ne_dataH ra rb sd se hu ⟨.bl _,H,I,rfl,q⟩
end
noncomputable def Itr3(lo c:Int)(n:Nat):It:=⟨fun i _=>i < n,fun i H x H'=>H'=H/\x = .int (lo+i*c),fun i _=>n<=i⟩
noncomputable def rngN(lo hi c:Int):Nat:=(Builtin.Range.rangeSize lo hi c).toNat
section
variable {X:Cx}{tg:Expr}
end
def i0o(J:It)(g:TG)(tb:TS)(D:Ends)(σ:St)(H:Hp):Prop:=∃ W:Nat->Nat->St->Hp->Prop,(∃ m,W 0 m σ H)/\∀ i m σ H,W i m σ H ->
 (J.stop i H/\D.nx σ H)\/(J.go i H/\∃ N:St->Hp->Prop,(∀ σ' H',N σ' H'->∃ m',m' < m/\W (i+1) m' σ' H')/\∀ x H',J.yld i H x H'->g x σ H' fun σ2 H2=>tb { D with nx:=N,ct:=N,bk:=D.nx } σ2 H2)
def i5l(wi:TI)(g:TG)(tb:TS):TS:=fun D σ H=>wi σ H fun J H1=>i0o J g tb D σ H1
theorem b8z{X:Cx}{tg iter:Expr}{body:List Stmt}{wi:TI}{g:TG}{tb:TS}{pos:Pos}(hp:PassesOwn (model X.prog X.w) X.A X.env X.xe)(hc:X.calm=true)(hi:PI X tg iter wi)(hg:PG X tg g)(hb:PSs X body tb)
  (hs:∀ x,foldedSetIterable iter X.env x=pure x:=by intro _; rfl):PS X (.For tg iter body [] pos) (i5l wi g tb):=h9t hp hc hi hg hb hs
theorem c5j{K:PySem.W.Frag}{a:Addr}{xs:List V}{g:TG}{tb:TS}{D:Ends}{σ:St}{H:Hp}(Pv:Nat->St->Hp->Prop)(h0:Pv 0 σ H)(hl:∀ i σ H,i<=xs.length->Pv i σ H->SqL K H a xs)
  (hs:∀ i x σ H,xs[i]? = some x->Pv i σ H->g x σ H fun σ2 H2=>tb { D with nx:=Pv (i+1),ct:=Pv (i+1),bk:=D.nx } σ2 H2) (hd:∀ σ H,Pv xs.length σ H->D.nx σ H):i0o (Itl K a) g tb D σ H:=h1s Pv h0 hl hs hd
theorem g5o{lo:Int}{n:Nat}{g:TG}{tb:TS}{D:Ends}{σ:St}{H:Hp}(Pv:Nat->St->Hp->Prop)(h0:Pv 0 σ H)
  (hs:∀ i σ H,i < n->Pv i σ H->g (.int (lo+i)) σ H fun σ2 H2=>tb { D with nx:=Pv (i+1),ct:=Pv (i+1),bk:=D.nx } σ2 H2) (hd:∀ σ H,Pv n σ H->D.nx σ H):i0o (Itr lo n) g tb D σ H:=g7s Pv h0 hs hd
def h4m(c:TT)(tb:TS)(D:Ends)(σ:St)(H:Hp):Prop:=∃ W:Nat->St->Hp->Prop,(∃ m,W m σ H)/\∀ m σ H,W m σ H ->
 c σ H fun b H1=>if b=true then tb { D with nx:=fun σ' H'=>∃ m',m' < m/\W m' σ' H',ct:=fun σ' H'=>∃ m',m' < m/\W m' σ' H',bk:=D.nx } σ H1 else D.nx σ H1
def h6m(c:TT)(tb:TS):TS:=fun D σ H=>h4m c tb D σ H
theorem f8t{X:Cx}{c:Expr}{body:List Stmt}{tc:TT}{tb:TS}{pos:Pos}(hp:PassesOwn (model X.prog X.w) X.A X.env X.xe)(hc:PT X c tc)(hb:PSs X body tb):PS X (.While c body [] pos) (h6m tc tb):=by
 intro pins s σ H D I h
 obtain⟨W,⟨m0,w0⟩,turn⟩:=h
 refine wpAny_While (codeAny_whileLoop (fun n s'=>∃ σ' H',Inv X pins σ' H' s'/\W n σ' H') ?_ m0 ⟨σ,H,I,w0⟩)
 rintro n s1 ⟨σ1,H1,I1,w1⟩
 refine wpAny_passesOwn hp (thn (hc pins s1 σ1 H1 _ I1 (turn n σ1 H1 w1)) fun b s2 ⟨H2,I2,q2⟩=>?_)
 cases b with
 | true =>
  rw [if_pos rfl]
  refine wpAny_passesOwn hp (thn (hb pins s2 σ1 H2 _ I2 q2) fun f s3 q3=>?_)
  cases f with
  | next =>
   obtain⟨σ3,H3,I3,m',hm,w3⟩:=q3
   exact⟨m',hm,σ3,H3,I3,w3⟩
  | cont =>
   obtain⟨σ3,H3,I3,m',hm,w3⟩:=q3
   exact⟨m',hm,σ3,H3,I3,w3⟩
  | brk=>exact q3
  | ret v=>exact q3
 | false =>
  rw [if_neg Bool.false_ne_true]
  exact wpAny_execs_nil ⟨σ1,H2,I2,q2⟩
theorem f8u{c:TT}{tb:TS}{D:Ends}{σ:St}{H:Hp}(Pv:Nat->St->Hp->Prop)(m0:Nat)(h0:Pv m0 σ H)
  (hs:∀ m σ H,Pv m σ H->c σ H fun b H1=>if b=true then tb { D with nx:=fun σ' H'=>∃ m',m' < m/\Pv m' σ' H',ct:=fun σ' H'=>∃ m',m' < m/\Pv m' σ' H',bk:=D.nx } σ H1 else D.nx σ H1):h4m c tb D σ H :=
 ⟨Pv,⟨m0,h0⟩,hs⟩
end L2
namespace Att
open PySem PySem.W PySem.Calls PyProof.Rows
open PySem.Builtin.Int (intBits)
theorem g1d{ns:List Int}(h:WData.layableAll [WData.list (ns.map WData.int)]=true):∀ n∈ns,intBits n<=1048576:=by
 intro n hn
 have h1:=layableW_arg h _ (List.mem_singleton.mpr rfl)
 have h2:=layableW_item h1 (WData.int n) (List.mem_map.mpr ⟨n,hn,rfl⟩)
 have h3:=(layableW_iff.mp h2).2.2
 exact h3
theorem f8v{l:OpenLaw}{n:Nat}{q:Program}{loose:List Str}{XP:(Str->Option Value)->Heap->Prop}{YP:World->Heap->Prop}{d:DefRec}
  (hn:l.most=some n) (hdf:d.params.defaults = [])
  (call:∀ (w:World) (s₀ s₁:Shared) (mg mb:Str->Option Value) (fa:Addr) (o:Obj) (pm cd doc:Value) (a:Addr) (vs:List Value) (ns:List Int),
   Ground q loose [] XP w s₀ mg mb s₁.heap->YP w s₁.heap ->
   s₁.heap.get? fa=some o->o.data = .func (docDef d.name d.params d.body d.scope pm cd doc)->s₁.heap.CodeRec cd d.name->mg d.name=some (.ref fa) ->
   s₁.heap.get? a = some { cls := .type "list", data := .seq vs.toArray } → IntsAre vs ns → ns.length ≤ n → (∀ x ∈ ns, intBits x ≤ 1048576) → s₁.gens = #[] →
   codeAny (model l.prog w) callerA (.call (.ref fa) ⟨[.ref a],[]⟩) (fun r s'=>r = .ok (.ret (.bool true))/\OldK s₁.heap s'.heap/\s'.os=s₁.os/\AllBare s'.gens) s₁) :
  WalkO q loose XP YP l.row.toRowW d [] (fun f vs=>PySem.call f vs):=by
 intro w s₀ s₁ mg mb G Y fa o pm cd doc dV kV ho hd hcd hD hmg hg args vals as hpre hlay hrd hwl hlo
 obtain rfl:dV = .none:=Dflts.none hD hdf
 obtain rfl:kV = .none:=Dflts.noKw hD
 obtain⟨a,vs,ns,rfl,rfl,hobj,hints,hlen⟩:=g8f hn hpre hwl
 refine enter_call (codeAny_mono (call w s₀ s₁ mg mb fa o pm cd doc a vs ns G Y ho (fd_plain hd) hcd hmg hobj hints hlen (g1d hlay) hg) fun r s' hq=>?_)
 obtain⟨rfl,h2,h3,h4⟩:=hq
 exact⟨.inl ⟨.bool true,.bool true,[],rfl,fun _=>rfl,.bool true,g8g l _,fun _=>⟨List.Pairwise.nil,fun _ hm=>(nomatch hm)⟩⟩,h2,h3,h4⟩
end Att
namespace L2
open PySem PySem.Spec PyProof.Rows
open PySem.Builtin.Int (intBits)
def g1e(n:Nat)(K:PySem.W.Frag):Sp:=fun vs H Q _=>∃ (a:Addr) (ns:List Int),vs = [.ref a]/\SqL K H a (ns.map V.int)/\ns.length<=n/\(∀ x∈ns,intBits x<=1048576)/\Only H/\∀ H',Q (.bl true) H'
theorem h2o{l:PySem.W.OpenLaw}{k:Nat}{q:Program}{loose:List Str}{XP:(Str->Option Value)->Heap->Prop}{YP:World->Heap->Prop}{d:DefRec}{K:Params->PySem.W.Frag}{CX:World->CXT}{x:Str}
  (hn:l.most=some 63) (hdf:d.params.defaults = []) (hr:a1y k callerA)
  (hY:∀ (w:World) (h:Heap),YP w h->(K w.params).In h)
  (F:∀ (w:World) (mg:Str->Option Value) (fa:Addr) (h:Heap),(K w.params).In h->h.Ns mainGlobals mg->mg d.name=some (.ref fa) ->
   ∃ fd:FuncData,(∀ (s:Shared) (u:Value),BindsTo s fd ⟨[u],[]⟩ [(x,u)]) /\
    ∀ base:Heap,(K w.params).In base->base.Ns mainGlobals mg->a1g l.prog w (K w.params) mg base (CX w) k fa fd [x] (g1e 63 (K w.params)))
  (hCX:∀ (w:World) (H:Hp) (s:Shared) (e:Value) (s':Shared),CX w [] H s (fun _ _ _=>False) e s'->False) :
  PySem.W.WalkO q loose XP YP l.row.toRowW d [] (fun f vs=>PySem.call f vs):=by
 refine Att.f8v hn hdf fun w s₀ s₁ mg mb fa o pm cd doc a vs ns G Y ho hd hcd hmg hobj hints hlen hbits hg=>?_
 have KX:=hY w _ Y
 obtain⟨fd,hb,hF⟩:=F w mg fa _ KX G.T.g hmg
 exact h2f KX G.T.g G.T.b G.T.builtins G.T.nolimit hg hobj hints (Nat.le_trans hlen (by decide)) hr hF hb (fun H hO hS=>⟨a,ns,rfl,hS,hlen,hbits,hO,fun _=>rfl⟩) fun H e s'=>hCX w H s₁ e s'
end L2
namespace L2
open PySem PySem.Spec PyProof.Rows
theorem Same.upd{H:Hp}{p:Addr}{o:HO}(h:H p=none):Same H (upd H p o):=fun b u e=>by
 rw [a4v (a6l e h)]; exact e
structure Tag{α:Type}(a:α):Type where
def New(H:Hp)(o:HO)(Q:VK)(_:Tag Q):Prop:=∀ p H1,H p=none->Same H H1->H1 p=some o->Q (.ref p) H1
def All(C:V->Hp->Prop)(Q:VK)(_:Tag C)(_:Tag Q):Prop:=∀ v H1,C v H1->Q v H1
theorem New.raw{H:Hp}{o:HO}{Q:VK}{t:Tag Q}(h:New H o Q t):∀ p,H p=none->Q (.ref p) (L2.upd H p o):=fun p e=>h p _ e (Same.upd e) a5j
theorem i8j{CX:CXT}{P:Program}{w:World}{K:PySem.W.Frag}{mg:Str->Option Value}{base:Heap}{N:List Str}{qual:Str}{scope:Scope}{f:Addr}{cd:Value}{A:Around}{outer:List Env}{s:Shared}{H:Hp}{E:XK}:(g7f CX P w K mg base N qual scope f cd A outer s H E).K=K:=rfl
section
variable {X:Cx}{es:List Expr}{t:TA}{pos:Pos}
def i5m(t:TA):TE:=fun σ H Q=>t σ H fun xs H1=>xs.length<=sizeLine/\New H1 (.tup xs) Q ⟨⟩
def i5n(t:TA):TE:=fun σ H Q=>t σ H fun xs H1=>xs.length<=sizeLine/\New H1 (.lst xs) Q ⟨⟩
end
section
variable {X:Cx}{a b c:Expr}{ta tb tc:TE}{pos:Pos}
def i5o:R2:=fun x y H Q=>match x,y with
 | .int i,.int j=>Q (.int (i+j)) H
 | .str u,.str v=>u.length+v.length<=sizeLine/\Q (.str (u++v)) H
 | .ref l,.ref b=>∃ xs zs,H l=some (.lst xs)/\H b=some (.lst zs)/\xs.length+zs.length<=sizeLine/\New H (.lst (xs++zs)) Q ⟨⟩
 | _,_=>False
theorem a7l:OpR X (binaryOp .Add) i5o:=by
 intro pins s σ H x y v u Q I rx ry h
 cases x <;> cases y <;> first
  | exact False.elim h
  | exact h9u pins s σ H _ _ v u Q I rx ry ⟨_,_,rfl,rfl,h⟩
  | exact g5e pins s σ H _ _ v u Q I rx ry ⟨_,_,rfl,rfl,h.1,h.2⟩
  | (obtain ⟨xs, zs, h1, h2, h3, h4⟩ := h
     exact i0i pins s σ H _ _ v u Q I rx ry ⟨_,_,_,_,rfl,rfl,h1,h2,h3,h4.raw⟩)
def i5p:R2:=fun x y H Q=>match x,y with
 | .int i,.int j=>IntMulOk i j/\Q (.int (i*j)) H
 | .ref l,.int k=>∃ xs,H l=some (.lst xs) /\ -(2 ^ 63)<=k/\k < 2 ^ 63/\xs.length*k.toNat<=sizeLine/\New H (.lst (List.replicate k.toNat xs).flatten) Q ⟨⟩
 | _,_=>False
theorem b9g:OpR X (binaryOp .Mult) i5p:=by
 intro pins s σ H x y v u Q I rx ry h
 cases x <;> cases y <;> first
  | exact False.elim h
  | exact h6k pins s σ H _ _ v u Q I rx ry ⟨_,_,rfl,rfl,h.1,h.2⟩
  | (obtain ⟨xs, h1, h2, h3, h4, h5⟩ := h
     exact i0j pins s σ H _ _ v u Q I rx ry ⟨_,_,_,rfl,rfl,h1,h2,h3,h4,h5.raw⟩)
def i5q(K:PySem.W.Frag):R2:=fun x y H Q=>if g7t x y=true then Q (.bl (decide (x=y))) H else i8h K x y H Q
def i8k(K:PySem.W.Frag):R2:=fun x y H Q=>if g7t x y=true then Q (.bl (!decide (x=y))) H else i8i K x y H Q
theorem b1n(hu:X.A.units+64 < cLine):OpR X (compareOp .Eq) (i5q X.K):=by
 intro pins s σ H x y v u Q I rx ry h
 unfold i5q at h
 by_cases hs:g7t x y=true
 ·rw [if_pos hs] at h
  exact i5d pins s σ H x y v u Q I rx ry ⟨hs,h⟩
 ·rw [if_neg hs] at h
  exact i0m hu pins s σ H x y v u Q I rx ry h
theorem c1y(hu:X.A.units+64 < cLine):OpR X (compareOp .NotEq) (i8k X.K):=by
 intro pins s σ H x y v u Q I rx ry h
 unfold i8k at h
 by_cases hs:g7t x y=true
 ·rw [if_pos hs] at h
  exact i5e pins s σ H x y v u Q I rx ry ⟨hs,h⟩
 ·rw [if_neg hs] at h
  exact i0n hu pins s σ H x y v u Q I rx ry h
def i8l:R2:=fun x y H Q=>match x,y with
 | .ref p,.int i=>(match H p with
  | some (.tup xs)=>∃ v,atI xs i=some v/\Q v H
  | some (.lst xs)=>∃ v,atI xs i=some v/\Q v H
  | _=>False)
 | .str z,.int i=>∃ c,z.length<=sizeLine/\atI z.cps.toList i=some c/\Q (.str ⟨#[c]⟩) H
 | _,_=>False
theorem a3z:IxR X i8l:=by
 intro value slice pins s σ H x y v u Q I rx ry h hs
 cases x with
 | ref p =>
  cases y with
  | int i =>
   have h':(match H p with
    | some (.tup xs)=>∃ v,atI xs i=some v/\Q v H
    | some (.lst xs)=>∃ v,atI xs i=some v/\Q v H
    | _=>False):=h
   split at h'
   ·rename_i xs e
    obtain⟨z,h2,h3⟩:=h'
    exact i0e value slice pins s σ H _ _ v u Q I rx ry ⟨_,xs,_,z,rfl,rfl,SqT.of e,h2,h3⟩ hs
   ·rename_i xs e
    obtain⟨z,h2,h3⟩:=h'
    exact h6j value slice pins s σ H _ _ v u Q I rx ry ⟨_,xs,_,z,rfl,rfl,SqL.of e,h2,h3⟩ hs
   ·exact h'.elim
  | _=>exact False.elim h
 | str z =>
  cases y with
  | int i =>
   obtain⟨c,h1,h2,h3⟩:=h
   exact i0f value slice pins s σ H _ _ v u Q I rx ry ⟨_,_,c,rfl,rfl,h1,h2,h3⟩ hs
  | _=>exact False.elim h
 | _=>exact False.elim h
noncomputable def rSlM:V->Option Int->Option Int->Hp->VK->Prop:=fun x lo hi H Q=>match x with
 | .ref a=>(match H a with
  | some (.lst xs)=>New H (.lst (d0z xs lo hi)) Q ⟨⟩
  | _=>False)
 | _=>False
theorem sl_M:SlR X rSlM:=by
 intro pins s σ H x v vl vu lo hi sl Q I rx hs pl pu h
 cases x with
 | ref a =>
  have h':(match H a with
   | some (.lst xs)=>New H (.lst (d0z xs lo hi)) Q ⟨⟩
   | _=>False):=h
  split at h'
  ·rename_i xs e
   exact g1a pins s σ H _ v vl vu lo hi sl Q I rx hs pl pu ⟨_,xs,rfl,SqL.of e,h'.raw⟩
  ·exact h'.elim
 | _=>exact False.elim h
noncomputable def rSlK(K:PySem.W.Frag):V->Option Int->Option Int->Hp->VK->Prop:=fun x lo hi H Q=>∃ a xs,x = .ref a/\SqL K H a xs/\New H (.lst (d0z xs lo hi)) Q ⟨⟩
theorem sl_K:SlR X (rSlK X.K):=by
 intro pins s σ H x v vl vu lo hi sl Q I rx hs pl pu h
 obtain⟨a,xs,e,h1,h2⟩:=h
 exact g1a pins s σ H _ v vl vu lo hi sl Q I rx hs pl pu ⟨a,xs,e,h1,h2.raw⟩
noncomputable def i5r:List V->Hp->VK->Prop:=fun xs H Q=>match xs with
 | [.ref p]=>(match H p with
  | some (.lst ys)=>Q (.int ys.length) H
  | some (.tup ys)=>Q (.int ys.length) H
  | _=>False)
 | [.str z]=>z.length<=sizeLine/\Q (.int z.length) H
 | _=>False
theorem a3l : c8j X (.builtin "len") i5r := by
 intro pins s σ H xs us Q I r h
 match xs,r,h with
 | [.ref p],r,h =>
  have h':(match H p with
   | some (.lst ys)=>Q (.int ys.length) H
   | some (.tup ys)=>Q (.int ys.length) H
   | _=>False):=h
  split at h'
  ·rename_i ys e
   exact d6y pins s σ H _ us Q I r ⟨p,ys,rfl,.inl (SqL.of e),h'⟩
  ·rename_i ys e
   exact d6y pins s σ H _ us Q I r ⟨p,ys,rfl,.inr (SqT.of e),h'⟩
  ·exact h'.elim
 | [.str z],r,h=>exact f8r pins s σ H _ us Q I r ⟨z,rfl,h.1,h.2⟩
theorem i5s{i j:Int}:g7t (.int i) (.int j)=true:=rfl
theorem i5t{i j:Str}:g7t (.str i) (.str j)=true:=rfl
theorem i5u{i j:Bool}:g7t (.bl i) (.bl j)=true:=rfl
theorem i5v:g7t .non .non=true:=rfl
theorem i5w{i j:Addr}:g7t (.ref i) (.ref j)=false:=rfl
theorem i8m{H:Hp}{i:Int}:g1c H (.int i)=some .int:=rfl
theorem i8n{H:Hp}{i:Str}:g1c H (.str i)=some .str:=rfl
theorem i8o{H:Hp}{i:Bool}:g1c H (.bl i)=some .bl:=rfl
theorem i8p{H:Hp}:g1c H .non=some .non:=rfl
theorem i8q{H:Hp}{a:Addr}:g1c H (.ref a)=(match H a with
  | some (.lst _)=>some .lst
  | some (.frz _ (.lst _))=>some .lst
  | some (.tup _)=>some .tup
  | some (.dK _)=>some .dct
  | some (.dT _)=>some .dct
  | _=>none):=rfl
theorem two_line:2<=sizeLine:=by decide
theorem i0p{α:Type}{x:α}{xs:List α}:atI (x :: xs) 0=some x:=c4j (j:=0) rfl
theorem i0q{α:Type}{x y:α}{xs:List α}:atI (x :: y :: xs) 1=some y:=c4j (j:=1) rfl
theorem i0r{α:Type}{x y z:α}{xs:List α}:atI (x :: y :: z :: xs) 2=some z:=c4j (j:=2) rfl
theorem i0s{α:Type}{x y z u:α}{xs:List α}:atI (x :: y :: z :: u :: xs) 3=some u:=c4j (j:=3) rfl
theorem h4n{p q A B:Prop}[Decidable p][Decidable q] : (if p then (if q then A else B) else B)=(if p/\q then A else B):=by
 by_cases hp:p <;> by_cases hq:q <;> simp [hp,hq]
theorem h6n{p q A B:Prop}[Decidable p][Decidable q] : (if p then A else (if q then A else B))=(if p\/q then A else B):=by
 by_cases hp:p <;> by_cases hq:q <;> simp [hp,hq]
end
section
variable {X:Cx}{es:List Expr}{t:TA}{pos:Pos}
theorem c1z{x1}(h:PA X es t):PE X (.Tuple es x1 pos) (i5m t):=by
 intro pins s σ H Q I hq
 refine wpAny_Tuple_spliced (thn (h pos pins s σ H _ I hq) fun us s1 ⟨xs,H1,I1,r,z,q⟩=>⟨by rw [<- r.length]; exact z,?_⟩)
 have hf:H1 s1.heap.objs.size=none:=I1.hok.fresh (Nat.le_refl _)
 refine⟨.ref s1.heap.objs.size,upd H1 s1.heap.objs.size (.tup xs),I1.laid (t':=s1.toks) (fun b u e=>Heap.get?_push_of_some _ e) (Nat.le_refl _) ?_,rfl,q.raw _ hf⟩
 exact⟨z,us,r,⟨_,Heap.get?_push_size _ rfl,rfl,_,rfl⟩⟩
theorem a8v(h:PA X es t):PE X (.List es pos) (i5n t):=by
 intro pins s σ H Q I hq
 refine wpAny_List_spliced (thn (h pos pins s σ H _ I hq) fun us s1 ⟨xs,H1,I1,r,z,q⟩=>⟨by rw [<- r.length]; exact z,?_⟩)
 have hf:H1 s1.heap.objs.size=none:=I1.hok.fresh (Nat.le_refl _)
 refine⟨.ref s1.heap.objs.size,upd H1 s1.heap.objs.size (.lst xs),I1.laid (t':=s1.toks) (fun b u e=>Heap.get?_push_of_some _ e) (Nat.le_refl _) ?_,rfl,q.raw _ hf⟩
 exact⟨z,us,0,r,Heap.get?_push_size _ rfl⟩
end
theorem Same.tup{K:PySem.W.Frag}{H H':Hp}{a:Addr}{xs:List V}(e:Same H H')(h:SqT K H a xs):SqT K H' a xs:=by
 rcases h with (h | ⟨o,h⟩) | h
 ·exact .inl (.inl (e _ _ h))
 ·exact .inl (.inr ⟨o,e _ _ h⟩)
 ·exact .inr h
end L2
namespace L2
open PySem PySem.Spec PyProof.Rows
open PySem.Builtin.Int (intBits)
section
variable {X:Cx}{e a b c:Expr}{es rest:List Expr}{pos:Pos}{tg iter:Expr}
theorem PE.weak{t u:TE}(h:PE X e t)(q:∀ σ H Q,u σ H Q->t σ H Q):PE X e u:=fun pins s σ H Q I hu=>h pins s σ H Q I (q σ H Q hu)
theorem PI.weak{t u:TI}(h:PI X tg iter t)(q:∀ σ H Q,u σ H Q->t σ H Q):PI X tg iter u:=fun pins s σ H Q I hu=>h pins s σ H Q I (q σ H Q hu)
theorem OpR.weak{f:Value->Value->Sem Value}{r r':R2}(h:OpR X f r)(q:∀ x y H Q,r' x y H Q->r x y H Q):OpR X f r':=fun pins s σ H x y v u Q I rx ry hr=>h pins s σ H x y v u Q I rx ry (q x y H Q hr)
theorem UnR.weak{f:Value->Sem Value}{r r':V->Hp->VK->Prop}(h:UnR X f r)(q:∀ x H Q,r' x H Q->r x H Q):UnR X f r':=fun pins s σ H x v Q I rx hr=>h pins s σ H x v Q I rx (q x H Q hr)
theorem c8j.weak{f:Value}{r r':List V->Hp->VK->Prop}(h:c8j X f r)(q:∀ xs H Q,r' xs H Q->r xs H Q):c8j X f r':=fun pins s σ H xs us Q I rx hr=>h pins s σ H xs us Q I rx (q xs H Q hr)
def h6o(i:Nat):TE:=fun σ H Q=>match σ[i]? with
 | some (some v)=>Q v H
 | _=>False
theorem pvF (i : Nat) {x : Str} {pos : Pos} (hN : X.N[i]? = some x := by rfl) (hv : Vis X.env.scope x := by first | exact Or.inl rfl | exact Or.inr (Or.inl rfl) | exact Or.inr (Or.inr rfl)) (hd : (x == ("__debug__" : Str)) = false := by decide)
  (hcd : (x == ("__classdict__" : Str)) = false := by decide) : PE X (.Name x pos) (h6o i) := (h9i hN hv hd hcd).weak fun σ H Q h => by
 unfold h6o at h
 split at h
 ·rename_i v e
  exact⟨v,e,h⟩
 ·exact h.elim
def rIF(C:Int->Int->Prop)(g:Int->Int->V):R2:=fun x y H Q=>match x,y with
 | .int i,.int j=>C i j/\Q (g i j) H
 | _,_=>False
def h8u(g:Int->Int->V):R2:=fun x y H Q=>match x,y with
 | .int i,.int j=>Q (g i j) H
 | _,_=>False
theorem g8i{C:Int->Int->Prop}{g:Int->Int->V}:∀ x y H Q,rIF C g x y H Q->rI C g x y H Q:=fun x y H Q h=>by
 cases x <;> cases y <;> first | exact False.elim h | exact⟨_,_,rfl,rfl,h⟩
theorem d8u{g:Int->Int->V}:∀ x y H Q,h8u g x y H Q->rI0 g x y H Q:=fun x y H Q h=>by
 cases x <;> cases y <;> first | exact False.elim h | exact⟨_,_,rfl,rfl,h⟩
theorem h4o:OpR X (binaryOp .Sub) (h8u fun i j=>.int (i - j)):=h9v.weak d8u
theorem c8l:OpR X (binaryOp .FloorDiv) (rIF CFd fun i j=>.int (i.fdiv j)):=h2n.weak g8i
theorem d6z:OpR X (binaryOp .Mod) (rIF (fun _ j=>j≠0) fun i j=>.int (i.fmod j)):=h5y.weak g8i
theorem h4p:OpR X (binaryOp .Pow) (rIF i8d fun i j=>.int (i ^ j.toNat)):=h9w.weak g8i
theorem of_lt:OpR X (compareOp .Lt) (h8u fun i j=>.bl (decide (i < j))):=i5f.weak d8u
theorem of_le:OpR X (compareOp .LtE) (h8u fun i j=>.bl (decide (i<=j))):=i5g.weak d8u
theorem c8m:OpR X (compareOp .Gt) (h8u fun i j=>.bl (decide (j < i))):=i5h.weak d8u
theorem i0t:OpR X (compareOp .GtE) (h8u fun i j=>.bl (decide (j<=i))):=i5i.weak d8u
noncomputable def rUF(g:Int->V):V->Hp->VK->Prop:=fun x H Q=>match x with
 | .int i=>Q (g i) H
 | _=>False
theorem g8j:UnR X (unaryOp .USub) (rUF fun i=>.int (-i)):=h9x.weak fun x H Q h=>by
 cases x <;> first | exact False.elim h | exact⟨_,rfl,h⟩
def tBF(t:TE):TT:=fun σ H Q=>t σ H fun x H1=>match x with
 | .bl k=>Q k H1
 | _=>False
theorem a0t{op:CmpOp}{r:R2}{ta tb:TE}(ho:OpR X (compareOp op) r)(ha:PE X a ta)(hb:PE X b tb)(hm:behindInMarks op b=false):PT X (.Compare a [op] [b] pos) (tBF (tOp r ta tb)):=by
 intro pins s σ H Q I h
 refine (h6a (ho.weak (r':=fun x y H Q=>r x y H Q) fun _ _ _ _ z=>z) ha hb hm) pins s σ H _ I ?_
 unfold h9y
 exact h |> fun h=>by
  unfold tBF at h
  have e:(fun (x:V) (H1:Hp)=>match x with | .bl k=>Q k H1 | _=>False)=fun x H1=>∃ k,x=V.bl k/\Q k H1:=by
   funext x H1
   cases x <;> simp
  rw [e] at h
  exact h
theorem a3m{t:TE}(h:PE X e t)(he:∀ whole,isTrue e X.env whole=(do let v <- whole; standAt e.pos; holding [v] (truthy v)):=by intro _; rfl):PT X e (tBF t):=by
 intro pins s σ H Q I hw
 refine (h9j h he) pins s σ H _ I ?_
 unfold tB
 unfold tBF at hw
 have e:(fun (x:V) (H1:Hp)=>match x with | .bl k=>Q k H1 | _=>False)=fun x H1=>∃ k,x=V.bl k/\Q k H1:=by
  funext x H1
  cases x <;> simp
 rw [e] at hw
 exact hw
def i0u(ta tb:TE):TE:=fun σ H Q=>ta σ H fun x H1=>match x with
 | .bl c=>if c=true then tb σ H1 Q else Q (.bl false) H1
 | _=>False
def i8r(ta tb:TE):TE:=fun σ H Q=>ta σ H fun x H1=>match x with
 | .bl c=>if c=true then Q (.bl true) H1 else tb σ H1 Q
 | _=>False
def i0v(ta:TE):TE:=fun σ H Q=>ta σ H fun x H1=>match x with
 | .bl c=>Q (.bl (!c)) H1
 | _=>False
theorem c4k{ta tb:TE}(ha:PE X a ta)(hb:PE X (.BoolOp .And (b :: rest) pos) tb):PE X (.BoolOp .And (a :: b :: rest) pos) (i0u ta tb):=by
 intro pins s σ H Q I h
 refine (h9m ha hb) pins s σ H Q I ?_
 unfold h9k
 unfold i0u at h
 have e:(fun (x:V) (H1:Hp)=>match x with | .bl c=>(if c=true then tb σ H1 Q else Q (.bl false) H1) | _=>False)=fun x H1=>∃ c,x=V.bl c/\if c=true then tb σ H1 Q else Q (.bl false) H1:=by
  funext x H1
  cases x <;> simp
 rw [e] at h
 exact h
theorem i0w{ta tb:TE}(ha:PE X a ta)(hb:PE X (.BoolOp .Or (b :: rest) pos) tb):PE X (.BoolOp .Or (a :: b :: rest) pos) (i8r ta tb):=by
 intro pins s σ H Q I h
 refine (i5a ha hb) pins s σ H Q I ?_
 unfold i8b
 unfold i8r at h
 have e:(fun (x:V) (H1:Hp)=>match x with | .bl c=>(if c=true then Q (.bl true) H1 else tb σ H1 Q) | _=>False)=fun x H1=>∃ c,x=V.bl c/\if c=true then Q (.bl true) H1 else tb σ H1 Q:=by
  funext x H1
  cases x <;> simp
 rw [e] at h
 exact h
theorem g1f{ta:TE}(ha:PE X a ta):PE X (.UnaryOp .Not a pos) (i0v ta):=by
 intro pins s σ H Q I h
 refine (h9n ha) pins s σ H Q I ?_
 unfold h9l
 unfold i0v at h
 have e:(fun (x:V) (H1:Hp)=>match x with | .bl c=>Q (.bl (!c)) H1 | _=>False)=fun x H1=>∃ c,x=V.bl c/\Q (.bl (!c)) H1:=by
  funext x H1
  cases x <;> simp
 rw [e] at h
 exact h
def h4q(ta:TA):TI:=fun σ H R=>ta σ H fun vs H1=>match vs with
 | [.int j] => -(2 ^ 62)<=j/\j < 2 ^ 62/\R (Itr 0 j.toNat) H1
 | _=>False
def i8s(ta:TA):TI:=fun σ H R=>ta σ H fun vs H1=>match vs with
 | [.int i,.int j]=>(-(2 ^ 62)<=i/\i < 2 ^ 62 /\ -(2 ^ 62)<=j/\j < 2 ^ 62)/\R (Itr i (j - i).toNat) H1
 | _=>False
def i8t(ta:TA):TI:=fun σ H R=>ta σ H fun vs H1=>match vs with
 | [.int i,.int j,.int c]=>(0<=i/\i < 2 ^ 32/\0<=j/\j < 2 ^ 32/\0 < c/\c < 2 ^ 30)/\R (Itr3 i c (rngN i j c)) H1
 | _=>False
theorem d4t {ta : TA} {p pos : Pos} (hg : Gl X "range") (hm : X.mg "range" = none) (ha : PA X [a] ta) (hs : starEach [a] X.env = [(false, eval a X.env)] := by rfl) : PI X tg (.Call (.Name "range" p) [a] [] pos) (h4q ta) := by
 refine (g7q hg hm ha hs).weak fun σ H R h=>?_
 unfold h9s
 unfold h4q at h
 have e:(fun (vs:List V) (H1:Hp)=>(match vs with | [.int j] => -(2 ^ 62)<=j/\j < 2 ^ 62/\R (Itr 0 j.toNat) H1 | _=>False:Prop))=fun vs H1=>∃ j:Int,vs = [.int j] /\ -(2 ^ 62)<=j/\j < 2 ^ 62/\R (Itr 0 j.toNat) H1:=by
  funext vs H1
  refine propext ⟨fun z=>?_,fun⟨j,e,z⟩=>by subst e; exact z⟩
  match vs,z with
  | [.int j],z=>exact⟨j,rfl,z⟩
 rw [e] at h
 exact h
def h4r(K:PySem.W.Frag)(tl:TE):TI:=fun σ H R=>tl σ H fun x H1=>match x with
 | .ref a=>(∃ xs,SqL K H1 a xs)/\R (Itl K a) H1
 | _=>False
theorem b8k{l:Expr}{tl:TE}(hl:PE X l tl):PI X tg l (h4r X.K tl):=(h5w hl).weak fun σ H R h=>by
 unfold h9r
 unfold h4r at h
 have e:(fun (x:V) (H1:Hp)=>match x with | .ref a=>(∃ xs,SqL X.K H1 a xs)/\R (Itl X.K a) H1 | _=>False)=fun x H1=>∃ a,x = .ref a/\(∃ xs,SqL X.K H1 a xs)/\R (Itl X.K a) H1:=by
  funext x H1
  cases x <;> simp
 rw [e] at h
 exact h
def rIxS0(K:PySem.W.Frag):R2:=fun x y H Q=>match x,y with
 | .ref p,.int i=>∃ ns:List Int,SqL K H p (ns.map V.int)/\0<=i/\i < ns.length/\Q (.int (ns.getD i.toNat 0)) H
 | _,_=>False
noncomputable def rLenK(K:PySem.W.Frag):List V->Hp->VK->Prop:=fun xs H Q=>match xs with
 | [.ref p]=>∃ ys,SqL K H p ys/\Q (.int ys.length) H
 | _=>False
noncomputable def i5x(K:PySem.W.Frag):V->Option Int->Option Int->Hp->VK->Prop:=fun x lo hi H Q=>match x with
 | .ref a=>∃ xs,SqL K H a xs/\New H (.lst (d0z xs lo hi)) Q ⟨⟩
 | _=>False
theorem i5y:SlR X (i5x X.K):=by
 intro pins s σ H x v vl vu lo hi sl Q I rx hs pl pu h
 cases x <;> first
  | exact False.elim h
  | (obtain ⟨xs, h1, h2⟩ := h
     exact sl_K pins s σ H _ v vl vu lo hi sl Q I rx hs pl pu ⟨_,xs,rfl,h1,h2⟩)
def h4s(t:TE):TO:=fun σ H Q=>t σ H fun x H1=>match x with
 | .int i=>Q (some i) H1
 | _=>False
theorem a2h{te:TE}(h:PE X e te):PO X (some e) (h4s te):=by
 intro pins s σ H Q I hw
 refine (h6g h) pins s σ H Q I ?_
 unfold i0c
 unfold h4s at hw
 have e:(fun (x:V) (H1:Hp)=>match x with | .int i=>Q (some i) H1 | _=>False)=fun x H1=>∃ i,x=V.int i/\Q (some i) H1:=by
  funext x H1
  cases x <;> simp
 rw [e] at hw
 exact hw
noncomputable def rAbs:List V->Hp->VK->Prop:=fun xs H Q=>match xs with
 | [.int i]=>Q (.int i.natAbs) H
 | _=>False
theorem c2g : c8j X (.builtin "abs") rAbs := h1u.weak fun xs H Q h => by
 match xs,h with
 | [.int i],h =>
  refine⟨i,rfl,?_⟩
  have e:(if i < 0 then -i else i)=(i.natAbs:Int):=by split <;> omega
  rw [e]
  exact h
noncomputable def rMin:List V->Hp->VK->Prop:=fun xs H Q=>match xs with
 | [.int i,.int j]=>Q (.int (min i j)) H
 | _=>False
noncomputable def rMax:List V->Hp->VK->Prop:=fun xs H Q=>match xs with
 | [.int i,.int j]=>Q (.int (max i j)) H
 | _=>False
noncomputable def i8u(K:PySem.W.Frag):List V->Hp->VK->Prop:=fun xs H Q=>match xs with
 | [.ref p]=>(match H p with
  | some (.lst ys)=>New H (.lst ys) Q ⟨⟩
  | some (.tup ys)=>New H (.lst ys) Q ⟨⟩
  | _=>False)
 | _=>False
theorem i8v{α:Type}{x:α}{xs:List α}{p:α->Prop}:(∃ v,atI (x :: xs) 0=some v/\p v)=p x:=by
 rw [i0p]; simp
theorem i8w{α:Type}{x y:α}{xs:List α}{p:α->Prop}:(∃ v,atI (x :: y :: xs) 1=some v/\p v)=p y:=by
 rw [i0q]; simp
theorem i8x{α:Type}{x y z:α}{xs:List α}{p:α->Prop}:(∃ v,atI (x :: y :: z :: xs) 2=some v/\p v)=p z:=by
 rw [i0r]; simp
theorem i8y{α:Type}{x y z u:α}{xs:List α}{p:α->Prop}:(∃ v,atI (x :: y :: z :: u :: xs) 3=some v/\p v)=p u:=by
 rw [i0s]; simp
end
end L2
namespace L2
open PySem PySem.Spec PyProof.Rows PySem.W
end L2
namespace L2
open PySem PySem.Spec PyProof.Rows
open PySem.Builtin.Int (intBits)
def tCut(t u:TS):TS:=fun D σ H=>∃ Mid:St->Hp->Prop,t { D with nx:=Mid } σ H/\∀ σ' H',Mid σ' H'->u D σ' H'
theorem d1o{X:Cx}{st:Stmt}{rest:List Stmt}{t u:TS}(h1:PS X st t)(h2:PSs X rest u):PSs X (st :: rest) (tCut t u):=by
 intro pins s σ H D I h
 obtain⟨Mid,h,hm⟩:=h
 refine wpAny_execs_cons (thn (h1 pins s σ H { D with nx:=Mid } I h) fun f s1 q=>?_)
 cases f with
 | next =>
  obtain⟨σ',H',I',q⟩:=q
  exact h2 pins s1 σ' H' D I' (hm σ' H' q)
 | ret v=>exact q
 | brk=>exact q
 | cont=>exact q
end L2
namespace L2
open PySem PySem.Spec PyProof.Rows
theorem d4u{env:Env}:∀ (names:List (Str×NameKind)) (acc:List (Str×Addr)),(∀ y,(y,NameKind.free)∈names->∃ c,env.cells.lookup y=some c) ->
  ∃ cl,(forIn names acc (fun (x:Str×NameKind) (cs:List (Str×Addr))=>(if x.2 == NameKind.free then (do let c <- cellOf env x.1; pure (ForInStep.yield ((x.1,c) :: cs))) else pure (ForInStep.yield cs):Sem (ForInStep (List (Str×Addr))))))=pure cl /\
   (∀ y c,cl.lookup y=some c->acc.lookup y=some c\/((y,NameKind.free)∈names/\env.cells.lookup y=some c)) /\
   (∀ y,(y,NameKind.free)∈names->cl.lookup y=env.cells.lookup y)/\(∀ y,(∀ k,(y,k)∈names->k≠NameKind.free)->cl.lookup y=acc.lookup y)
 | [],acc,_=>⟨acc,rfl,fun y c h=>.inl h,fun y h=>(nomatch h),fun y _=>rfl⟩
 | (n,k) :: r,acc,h=>by
  by_cases hk:k=NameKind.free
  ·subst hk
   obtain⟨c,hc⟩:=h n List.mem_cons_self
   obtain⟨cl,h1,h2,h3,h4⟩:=d4u r ((n,c) :: acc) fun y hy=>h y (List.mem_cons_of_mem _ hy)
   have e:cellOf env n=pure c:=by unfold cellOf; rw [hc]
   refine⟨cl,?_,fun y d hd=>?_,fun y hy=>?_,fun y hy=>?_⟩
   ·rw [List.forIn_cons]
    simp only [beq_self_eq_true,if_true,e,pure_bind]
    exact h1
   ·rcases h2 y d hd with z | ⟨z1,z2⟩
    ·rw [List.lookup_cons] at z
     by_cases hy:y=n
     ·subst hy
      simp only [beq_self_eq_true] at z
      cases z
      exact .inr ⟨List.mem_cons_self,hc⟩
     ·have:(y == n)=false:=by simpa using hy
      rw [this] at z
      exact .inl z
    ·exact .inr ⟨List.mem_cons_of_mem _ z1,z2⟩
   ·by_cases hr:(y,NameKind.free)∈r
    ·exact h3 y hr
    ·rcases List.mem_cons.mp hy with z | z
     ·cases z
      by_cases hq:∃ k,(n,k)∈r/\k=NameKind.free
      ·obtain⟨k,z,rfl⟩:=hq
       exact absurd z hr
      ·rw [h4 n fun k hk e=>hq ⟨k,hk,e⟩,List.lookup_cons]
       simp only [beq_self_eq_true]
       exact hc.symm
     ·exact absurd z hr
   ·have hn:y≠n:=fun e=>by
     subst e
     exact hy _ List.mem_cons_self rfl
    rw [h4 y fun k hk=>hy k (List.mem_cons_of_mem _ hk),List.lookup_cons]
    have:(y == n)=false:=by simpa using hn
    rw [this]
  ·obtain⟨cl,h1,h2,h3,h4⟩:=d4u r acc fun y hy=>h y (List.mem_cons_of_mem _ hy)
   have hb:(k == NameKind.free)=false:=by simpa using hk
   refine⟨cl,?_,fun y d hd=>?_,fun y hy=>?_,fun y hy=>h4 y fun k hk=>hy k (List.mem_cons_of_mem _ hk)⟩
   ·rw [List.forIn_cons]
    simp only [hb,Bool.false_eq_true,if_false,pure_bind]
    exact h1
   ·rcases h2 y d hd with z | ⟨z1,z2⟩
    ·exact .inl z
    ·exact .inr ⟨List.mem_cons_of_mem _ z1,z2⟩
   ·rcases List.mem_cons.mp hy with z | z
    ·cases z
     exact absurd rfl hk
    ·exact h3 y z
theorem d0l{env:Env}{sc:Scope}(h:∀ y,(y,NameKind.free)∈sc.names->∃ c,env.cells.lookup y=some c) :
  ∃ cl,closureFor sc env=pure cl/\(∀ y c,cl.lookup y=some c->(y,NameKind.free)∈sc.names/\env.cells.lookup y=some c)/\(∀ y,(y,NameKind.free)∈sc.names->cl.lookup y=env.cells.lookup y):=by
 obtain⟨cl,h1,h2,h3,_⟩:=d4u (env:=env) sc.names [] h
 refine⟨cl,?_,fun y c hy=>(h2 y c hy).elim (fun z=>nomatch z) id,h3⟩
 unfold closureFor
 show (forIn sc.names [] _ >>= fun cs=>pure cs)=pure cl
 rw [bind_pure]
 exact h1
end L2
namespace L2
open PySem PySem.Spec PyProof.Rows
noncomputable def mask (x : Str) (N : List Str) : List Str := N.map fun y => if y = x then "" else y
noncomputable def a8z(X:Cx)(scope:Scope)(cl:List (Str×Addr))(C:Addr)(s₃:Shared)(H₃:Hp)(fp:List Addr)(x:Str):Cx where
 prog:=X.prog
 w:=X.w
 K:=X.K
 mg:=X.mg
 base:=X.base
 A:=X.A
 N:=x :: mask x X.N
 s₀:=s₃
 H₀:=H₃
 env:=compEnvC scope cl C X.env
 outer:=X.stack
 stack:=X.stack
 ex:=fp
 fn:=fun _=>false
 calm:=X.calm
 pn:=[]
 xe:=fun _ _=>False
def b3v(D:Addr)(H H':Hp):Prop:=∀ b o,b≠D->H b=some o->H' b=some o
theorem b3v.upd{D:Addr}{H:Hp}{o:HO}:b3v D H (upd H D o):=fun b u hb e=>by rw [a4v hb]; exact e
def f5o(J:It)(te:TE)(D:Addr)(σ:St)(H:Hp)(Q:VK)(_:Tag Q):Prop:=∃ (n:Nat) (W:Nat->List V->Hp->Prop),W 0 [] H/\∀ i ys H,i<=n->W i ys H->H D=some (.lst ys) /\
 ((J.stop i H/\Q (.ref D) H)\/(i < n/\J.go i H/\ys.length < sizeLine/\∀ x H',J.yld i H x H'->te (some x :: σ) H' fun y H2=>H2 D=some (.lst ys) /\
  ∀ H3,b3v D H2 H3->H3 D=some (.lst (ys++[y]))->W (i+1) (ys++[y]) H3))
def h6p(wi:TI)(te:TE):TE:=fun σ H Q=>wi σ H fun J H1=>∀ D H2,H1 D=none->Same H1 H2->H2 D=some (.lst [])->f5o J te D σ H2 Q ⟨⟩
theorem c5k{env:Env}{x:Str}:∀ (names:List (Str×NameKind)) (k:NameKind),(names.map fun (n,k)=>if (k == NameKind.free && env.scope.kind == .function && env.kindOf n == some .cell) then (n,NameKind.cell) else (n,k)).lookup x=some k ->
  (names.lookup x=some k)\/(k = .cell/\names.lookup x=some .free)
 | [],k,e=>by cases e
 | (n,q) :: r,k,e=>by
  rw [List.map_cons] at e
  dsimp only at e
  rw [List.lookup_cons]
  cases hx:(x == n) with
  | true =>
   by_cases hc:(q == NameKind.free && env.scope.kind == .function && env.kindOf n == some .cell)=true
   ·rw [if_pos hc,List.lookup_cons,hx] at e
    have:q = .free:=by
     simp only [Bool.and_eq_true,beq_iff_eq] at hc
     exact hc.1.1
    subst this
    cases e
    exact .inr ⟨rfl,rfl⟩
   ·rw [if_neg hc,List.lookup_cons,hx] at e
    exact .inl e
  | false =>
   have e':(r.map fun (n,k)=>if (k == NameKind.free && env.scope.kind == .function && env.kindOf n == some .cell) then (n,NameKind.cell) else (n,k)).lookup x=some k:=by
    by_cases hc:(q == NameKind.free && env.scope.kind == .function && env.kindOf n == some .cell)=true
    ·rw [if_pos hc,List.lookup_cons,hx] at e
     exact e
    ·rw [if_neg hc,List.lookup_cons,hx] at e
     exact e
   exact c5k r k e'
theorem b8l{env:Env}{sc:Scope}{x:Str}(h:(relabel sc env).names.lookup x=some .cell\/(relabel sc env).names.lookup x=some .free):(x,NameKind.free)∈sc.names\/(x,NameKind.cell)∈sc.names:=by
 rcases h with h | h
 ·rcases c5k sc.names _ h with z | ⟨_,z⟩
  ·exact .inr (PySem.mem_of_lookup z)
  ·exact .inl (PySem.mem_of_lookup z)
 ·rcases c5k sc.names _ h with z | ⟨z,_⟩
  ·exact .inl (PySem.mem_of_lookup z)
  ·cases z
structure c2h(X:Cx)(scope:Scope)(x:Str):Prop where
 kind:scope.kind = .function
 d2w:∀ y∈scope.names,y.2≠.cell
 loc:∀ y∈scope.names,y.2 = .local->scope.names.lookup y.1=some .local
 own:scope.names.lookup x=some .local
 free:∀ y∈scope.names,y.2 = .free->X.env.kindOf y.1=some .cell\/X.env.kindOf y.1=some .free
 nd:(x :: mask x X.N).Nodup
 noe : ∀ y ∈ scope.names, y.1 ≠ ""
 vis:∀ y∈mask x X.N,scope.names.lookup y≠some .local
section
variable {X:Cx}{scope:Scope}{x:Str}{cl:List (Str×Addr)}{pins:List (Addr×Obj)}{σ:St}{H:Hp}{s s₄:Shared}{fp:List Addr}
theorem Inv.comp(S:c2h X scope x)(I:Inv X pins σ H s)(hcl:∀ y c,cl.lookup y=some c->(y,NameKind.free)∈scope.names/\X.env.cells.lookup y=some c)(hcl2:∀ y,(y,NameKind.free)∈scope.names->cl.lookup y=X.env.cells.lookup y)
  (hfp:∀ b∈fp,d7s X pins H b) (hlt:∀ b∈fp,b < s.heap.objs.size) {m:Str->Option Value} (hns:s₄.heap.Ns s.heap.objs.size m) (hk:∀ b o,s.heap.get? b=some o->s₄.heap.get? b=some o) (hos:s₄.os=s.os) (hg:s₄.gens=s.gens) :
  Inv (a8z X scope cl s.heap.objs.size s H fp x) [] (none :: σ) H s₄:=by
 have below:∀ {b:Addr} {o:Obj},s.heap.get? b=some o->b≠s.heap.objs.size:=fun e=>Nat.ne_of_lt (Heap.lt_size e)
 refine⟨⟨I.ok.mod,?_,I.ok.glob,I.ok.blt,Nat.le_refl _,fun y z c h1 h2=>I.ok.inj y z c (hcl y c h1).2 (hcl z c h2).2,fun y hy=>?_,(fun y c h=>nomatch h),I.ok.hd,I.ok.frames,.inl rfl,fun b hb=>⟨Nat.ne_of_lt (hlt b hb),fun y c e=>(hfp b hb).2.2.2.2.1 y c (hcl y c e).2⟩,
  fun b o e=>I.bs b o e,Nat.le_trans I.ok.bsz I.sz,fun b o e hb=>?_,fun b hb hf=>?_,I.stack,I.f5h⟩,
  hos,by rw [hg]; exact I.bare,Un.kept hk,⟨m,hns,fun i y v h1 h2 h3=>?_⟩,fun y c e=>?_,I.hok.fresh (Nat.le_refl _),fun y c e=>I.d1k y c (hcl y c e).2,fun p hp=>absurd (show p∈([] : List (Addr×Obj)) from hp) (by simp),I.hok.kept hk,by show (none :: σ).length=(x :: mask x X.N).length; rw [List.length_cons,List.length_cons,mask,List.length_map,I.len]⟩
 ·exact S.kind
 ·rcases b8l (env:=X.env) (sc:=scope) (x:=y) hy with z | z
  ·obtain⟨c,hc⟩:=I.ok.has y (S.free _ z rfl)
   exact⟨c,(hcl2 y z).trans hc⟩
  ·exact absurd rfl (S.d2w _ z)
 ·rcases (hfp b hb).2.2.2.1 with z | z
  ·exact I.ok.h5v b o e z
  ·exact absurd (Nat.lt_of_lt_of_le (Heap.lt_size (I.ok.bs b o e).1) z) (Nat.lt_irrefl _)
 ·rcases List.mem_cons.mp (I.d8j b hf) with z | z
  ·exact (hfp b hb).2.1 z
  ·exact (hfp b hb).2.2.1 z
 ·cases i with
  | zero=>cases h2
  | succ i =>
   have h1m:(mask x X.N)[i]? = some y:=by simpa [a8z] using h1
   have h2':σ[i]? = some (some v):=by simpa using h2
   have hyN:y∈mask x X.N:=List.mem_of_getElem? h1m
   have hc:(relabel scope X.env).names.lookup y=some .cell\/(relabel scope X.env).names.lookup y=some .free:=by
    rcases h3 with z | z | z
    ·exfalso
     rcases c5k (env:=X.env) scope.names _ z with q | ⟨q,_⟩
     ·exact S.vis y hyN q
     ·cases q
    ·exact .inl z
    ·exact .inr z
   have hfr:(y,NameKind.free)∈scope.names:=by
    rcases b8l hc with z | z
    ·exact z
    ·exact absurd rfl (S.d2w _ z)
   have h1':X.N[i]? = some y:=by
    rw [mask,List.getElem?_map] at h1m
    obtain⟨z,hz,e⟩:=Option.map_eq_some_iff.mp h1m
    by_cases hzx:z=x
    ·rw [if_pos hzx] at e
     exact absurd e.symm (S.noe _ hfr)
    ·rw [if_neg hzx] at e
     rw [hz,e]
   obtain⟨mX,hnX,hl⟩:=I.loc
   have hk2:=S.free _ hfr rfl
   have i5z:Vis X.env.scope y:=by
    rcases hk2 with z | z
    ·exact .inr (.inl z)
    ·exact .inr (.inr z)
   obtain⟨u,ru,lk⟩:=hl i y v h1' h2' i5z
   refine⟨u,ru,.inr ⟨hc,?_⟩⟩
   rcases lk with ⟨z,_⟩ | ⟨_,c,ec,o,ho,hd⟩
   ·rcases hk2 with q | q
    ·rw [q] at z; cases z
    ·rw [q] at z; cases z
   ·exact⟨c,(hcl2 y hfr).trans ec,o,hk c o ho,hd⟩
 ·obtain⟨v,o,ho,hd⟩:=I.cell y c (hcl y c e).2
  exact⟨v,o,hk c o ho,hd⟩
theorem Inv.h4t{σ':St}{H':Hp}{s':Shared}{h':Heap}(I:Inv X pins σ H s)(hfp:∀ b∈fp,d7s X pins H b)(J:Inv (a8z X scope cl s.heap.objs.size s H fp x) [] σ' H' s')(hs:Heap.SameBut s.heap.objs.size s'.heap h') :
  Inv X pins σ H' { s' with heap:=h' }:=by
 have ne:∀ {b:Addr} {o:Obj},s.heap.get? b=some o->b≠s.heap.objs.size:=fun e=>Nat.ne_of_lt (Heap.lt_size e)
 have u:=J.base
 have u':Un (frs X.stack) fp H H' s.heap h':=⟨fun b o e n hb hx=>hs.extBut b o (ne e) (u.keep b o e n hb hx),fun b o e n hb hx=>(u.slot b o e n hb hx).elim fun sl q=>⟨sl,hs.extBut b _ (ne e) q⟩,u.free,
  fun b o e hx=>(u.there b o e hx).elim fun o' q=>⟨o',hs.extBut b o' (ne e) q⟩,u.tups,u.f7v,u.f7y⟩
 have nC:∀ {b:Addr} {o:HO},H' b=some o->b≠s.heap.objs.size:=fun {b o} e z=>by
  have f:H' s.heap.objs.size=none:=J.free
  rw [z,f] at e; cases e
 have ok:HOk X.prog X.w H' h':=fun b o e=>(J.hok b o e).stay (fun c v hc q=>hs.extBut c v (by
  rcases hc with z | z
  ·rw [z]; exact nC e
  ·exact nC z) q) (fun _ q=>q) fun _ _ q=>q
 exact I.call' (s':={ s' with heap:=h' }) (ch:=fp) J.os u' ok J.bare fun b hb=>⟨(hfp b hb).2.2.2.1,(hfp b hb).2.1,(hfp b hb).2.2.2.2.1,(hfp b hb).2.2.2.2.2⟩
end
end L2
namespace L2
open PySem PySem.Spec PyProof.Rows
section
variable {X:Cx}{scope:Scope}{x:Str}{pins:List (Addr×Obj)}{σ:St}{elt iter:Expr}{px pos:Pos}{wi:TI}{te:TE}
theorem f3j{s₂:Shared}{H1:Hp}{it:Addr}{fp:List Addr}{tn:Nat->Heap->Prop}{J:It}{Q:VK}{RR:Value->Addr->Result->Shared->Prop}{E:Value->Shared->Prop}{cl:List (Str×Addr)}
  (S:c2h X scope x) (hc:X.calm=true) (he:∀ cl C s₃ H₃ fp,PE (a8z X scope cl C s₃ H₃ fp x) elt te)
  (hcl:∀ y c,cl.lookup y=some c->(y,NameKind.free)∈scope.names/\X.env.cells.lookup y=some c) (hcl2:∀ y,(y,NameKind.free)∈scope.names->cl.lookup y=X.env.cells.lookup y)
  (I2:Inv X pins σ H1 s₂) (T:Turn X.prog X.w X.K (.Name x px) J fp it tn) (st2:tn 0 s₂.heap) (f2:∀ b∈fp,d7s X pins H1 b) (h:∀ D H2,H1 D=none->Same H1 H2->H2 D=some (.lst [])->f5o J te D σ H2 Q ⟨⟩)
  (hRR:∀ (D C:Addr) (s':Shared) (H':Hp),(∃ m,s'.heap.Ns C m)->(∀ h' ,Heap.SameBut C s'.heap h'->Inv X pins σ H' { s' with heap:=h' })->d7s X pins H' C->Q (.ref D) H'->RR (.ref D) C (.ok .next) s') :
  wpAny (model X.prog X.w) X.A (newList []) (fun acc s₃=>wpAny (model X.prog X.w) X.A (newFunctionEnv scope X.env.globals cl [] X.env.qual none .none (some X.env)) (fun cenv s₄ =>
   codeAny (model X.prog X.w) X.A (.compStart (.ListComp elt [⟨.Name x px,iter,[],0⟩] scope pos) 0 (.ref it) acc { cenv with scope:=relabel scope X.env }) (RR acc cenv.locals) s₄) E s₃) E s₂:=by
 have hfr:H1 s₂.heap.objs.size=none:=I2.hok.fresh (Nat.le_refl _)
 have hCW:=h s₂.heap.objs.size _ hfr (Same.upd hfr) a5j
 refine wpAny_newObj_type ?_
 have I3 : Inv X pins σ (upd H1 s₂.heap.objs.size (.lst [])) { s₂ with heap := s₂.heap.push { cls := .type "list", data := .seq ([] : List Value).toArray }, toks := s₂.toks } :=
  I2.laid (t':=s₂.toks) (fun b u e=>Heap.get?_push_of_some _ e) (Nat.le_refl _) ⟨Nat.zero_le _,[],0,.nil,Heap.get?_push_size _ rfl⟩
 have nD:∀ b∈fp,b≠s₂.heap.objs.size:=fun b hb=>by
  obtain⟨o,e,_⟩:=T.obj 0 _ st2 b hb
  exact Nat.ne_of_lt (Heap.lt_size e)
 have f3:∀ b∈fp,d7s X pins (upd H1 s₂.heap.objs.size (.lst [])) b:=fun b hb=>⟨by rw [a4v (nD b hb)]; exact (f2 b hb).1,(f2 b hb).2⟩
 generalize hH3:upd H1 s₂.heap.objs.size (.lst [])=H3 at *
 have st3 : tn 0 (s₂.heap.push { cls := .type "list", data := .seq ([] : List Value).toArray }) := T.keep _ _ _ st2 fun b _ o e => Heap.get?_push_of_some _ e
 have g8k : ∀ b ∈ fp, b < (s₂.heap.push { cls := .type "list", data := .seq ([] : List Value).toArray }).objs.size := fun b hb => by
  obtain⟨o,e,_⟩:=T.obj 0 _ st3 b hb
  exact Heap.lt_size e
 show wpAny (model X.prog X.w) X.A (newFunctionEnv scope X.env.globals cl [] X.env.qual none .none (some X.env)) _ E { s₂ with heap := s₂.heap.push { cls := .type "list", data := .seq ([] : List Value).toArray }, toks := s₂.toks }
 generalize hs3 : ({ s₂ with heap := s₂.heap.push { cls := .type "list", data := .seq ([] : List Value).toArray }, toks := s₂.toks } : Shared) = s₃ at *
 have eh : s₃.heap = s₂.heap.push { cls := .type "list", data := .seq ([] : List Value).toArray } := by rw [← hs3]
 rw [<- eh] at st3 g8k
 generalize s₂.heap.objs.size=D at *
 refine wpAny_newFunctionEnv S.d2w (by intro y hy; simp at hy) (fun h₁ hns₁ hsb₁=>?_) S.kind
 have hk1:∀ b o,s₃.heap.get? b=some o->h₁.get? b=some o:=fun b o e=>hsb₁.extBut b o (Nat.ne_of_lt (Heap.lt_size e)) (Heap.get?_push_of_some _ e)
 have J0:Inv (a8z X scope cl s₃.heap.objs.size s₃ H3 fp x) [] (none :: σ) H3 { s₃ with heap:=h₁,toks:=s₃.toks+([] : List (Str×Value)).length }:=I3.comp S hcl hcl2 f3 g8k hns₁ hk1 rfl rfl
 obtain⟨n0,W,w0,turn⟩:=hCW
 have loop:codeAny (model X.prog X.w) X.A (.compLoop (.ListComp elt [⟨.Name x px,iter,[],0⟩] scope pos) 0 (.ref it) (.ref D) (compEnvC scope cl s₃.heap.objs.size X.env)) (RR (.ref D) s₃.heap.objs.size) { s₃ with heap:=h₁,toks:=s₃.toks+([] : List (Str×Value)).length }:=by
  refine codeAny_loop rfl (fun n s'=>∃ i ys o H',Inv (a8z X scope cl s₃.heap.objs.size s₃ H3 fp x) [] (o :: σ) H' s'/\tn i s'.heap/\(∀ b∈fp,H' b=none)/\W i ys H'/\i<=n0/\n=n0 - i) (fun n s5 hI=>?_) n0
   ⟨0,[],none,H3,J0,T.keep _ _ _ st3 (fun b _ o e=>hk1 b o e),fun b hb=>(f3 b hb).1,w0,Nat.zero_le _,rfl⟩
  obtain⟨i,ys,o5,H5,I5,st5,fr5,w5,hin,hnn⟩:=hI
  have stat:∀ {H':Hp},(∀ b∈fp,H' b=none)->∀ b∈fp,d7s (a8z X scope cl s₃.heap.objs.size s₃ H3 fp x) [] H' b:=fun hn b hb =>
   ⟨hn b hb,Nat.ne_of_lt (g8k b hb),fun z=>(List.mem_cons.mp (I3.d8j b z)).elim (fun q=>(f3 b hb).2.1 q) fun q=>(f3 b hb).2.2.1 q,.inl hb,fun y c e=>(f3 b hb).2.2.2.2.1 y c (hcl y c e).2,fun p hp=>absurd (show p∈([] : List (Addr×Obj)) from hp) (by simp)⟩
  show wpAny _ X.A ((compTurn (.ListComp elt [⟨.Name x px,iter,[],0⟩] scope pos) 0 (.ref it) (.ref D) (compEnvC scope cl s₃.heap.objs.size X.env)).onRaise (fun x=>do noteFrame x (compEnvC scope cl s₃.heap.objs.size X.env); theTreesLotGoes x)) _ _ s5
  refine wpAny_noted ?_
  rw [compTurn_list1]
  refine wpAny_bind (wpAny_standAt (wpAny_bind ?_))
  obtain⟨hD5,alt⟩:=turn i ys H5 hin w5
  rcases alt with ⟨stop,q⟩ | ⟨hlt,go,hsz,step⟩
  ·refine wpAny_mono (T.done (a8z X scope cl s₃.heap.objs.size s₃ H3 fp x) rfl rfl rfl hc i [] s5 _ H5 _ I5 (stat fr5) st5 stop) (fun r s6 ⟨hr,I6⟩=>?_) fun _ _ z=>z
   subst hr
   refine wpAny_pure ?_
   obtain⟨m6,hn6,_⟩:=I6.loc
   exact hRR D s₃.heap.objs.size s6 H5 ⟨m6,hn6⟩ (fun h' hs'=>I3.h4t f3 I6 hs') (I3.h1p (Nat.le_refl _) I6.free) q
  ·refine wpAny_mono (T.item (a8z X scope cl s₃.heap.objs.size s₃ H3 fp x) rfl rfl rfl hc i [] s5 _ H5 _ I5 (stat fr5) st5 go) (fun r s6 ⟨u,hr,h6⟩=>?_) fun _ _ z=>z
   subst hr
   refine wpAny_bind (wpAny_mono h6 (fun _ s7 ⟨v,H7,I7,r7,y7,st7,fr7⟩=>?_) fun _ _ z=>z)
   have I7':=I7.pinned (stat fr7) (T.obj _ _ st7)
   have G:=a4y (X:=a8z X scope cl s₃.heap.objs.size s₃ H3 fp x) (pos:=px) (i:=0) (x:=x) S.nd rfl (.inl (lookup_relabel_local S.own)) (.inr (lookup_relabel_local S.own))
   refine wpAny_bind (wpAny_mono (G _ s7 _ H7 v u (fun σ' H'=>σ'=some v :: σ/\H'=H7) I7' r7 ⟨rfl,rfl⟩) (fun _ s8 hs8=>?_) fun _ _ z=>False.elim z)
   obtain⟨σ8,H8,I8,rfl,rfl⟩:=hs8
   refine wpAny_bind (wpAny_bind (wpAny_mono (he cl s₃.heap.objs.size s₃ H3 fp _ s8 _ _ _ I8 (step v H8 y7)) (fun yv s9 hs9=>?_) fun _ _ z=>False.elim z))
   obtain⟨y,H9,I9,r9,hD9,k9⟩:=hs9
   refine wpAny_bind (wpAny_mono (d2v (X:=a8z X scope cl s₃.heap.objs.size s₃ H3 fp x) _ s9 _ H9 (.ref D) [y] (.ref D) [yv] (fun _ H'=>H'=upd H9 D (.lst (ys++[y]))) I9 rfl (.cons r9 .nil) ⟨D,ys,y,rfl,rfl,hD9,hsz,rfl⟩) (fun _ sA hsA=>?_) fun _ _ z=>False.elim z)
   obtain⟨_,HA,IA,_,rfl⟩:=hsA
   refine wpAny_pure ?_
   have wA:=k9 _ b3v.upd a5j
   refine wpAny_pure ⟨rfl,n0 - (i+1),by omega,i+1,ys++[y],some v,_,IA.d0j (pins:=[]) (pl:=d8l fp s7.heap),T.keep _ _ _ st7 (fun b hb o e=>(IA.pin (b,o) (List.mem_append_right _ (List.mem_append_right _ (a9v hb e)))).1),fun b hb=>?_,wA,hlt,rfl⟩
   obtain⟨o,e,d⟩:=T.obj _ _ st7 b hb
   exact (IA.pin (b,o) (List.mem_append_right _ (List.mem_append_right _ (a9v hb e)))).2.1
 exact codeAny_compStart_list loop (T.self _ 0 _ _ _ (T.keep _ _ _ st3 fun b _ o e=>hk1 b o e) loop)
theorem d8v(hi:PI X (.Name x px) iter wi)(he:∀ cl C s₃ H₃ fp,PE (a8z X scope cl C s₃ H₃ fp x) elt te)(S:c2h X scope x)(hc:X.calm=true)
  (hs:∀ x,foldedSetIterable iter X.env x=pure x:=by intro _; rfl):PE X (.ListComp elt [⟨.Name x px,iter,[],0⟩] scope pos) (h6p wi te):=by
 intro pins s σ H Q I h
 obtain⟨cl,hclos,hcl,hcl2⟩:=d0l (env:=X.env) (sc:=scope) fun y hy=>I.ok.has y (S.free _ hy rfl)
 rw [eval_ListComp]
 refine wpAny_comprehension_free (use:=none) rfl hs hclos S.kind S.loc ?_
 refine thn (hi pins s σ H _ I h) fun v s1 h1=>thn h1 fun itv s2 h2=>?_
 obtain⟨it,fp,tn,J,H2,e,I2,T,st2,f2,hW⟩:=h2
 subst e
 exact f3j (RR:=fun acc C=>compPost (model X.prog X.w) X.A X.xe none (EP X pins σ Q) acc C) S hc he hcl hcl2 I2 T st2 f2 hW fun D C s' H' hm hI _ hq =>
  hm.elim fun m hn=>⟨m,hn,fun h' hs'=>⟨.ref D,H',hI h' hs',rfl,hq⟩⟩
theorem h6q{i:Nat}{y:Str}{py spos:Pos}(hN:X.N.Nodup)(hyi:X.N[i]? = some y)(hy:X.env.scope.names.lookup y=some .local)(hi:PI X (.Name x px) iter wi)(he:∀ cl C s₃ H₃ fp,PE (a8z X scope cl C s₃ H₃ fp x) elt te)(S:c2h X scope x)(hc:X.calm=true)
  (hsw:swapsWith (.ListComp elt [⟨.Name x px,iter,[],0⟩] scope pos) (some (.Name y py)) spos.line X.env=pure true:=by rfl)
  (hs:∀ x,foldedSetIterable iter X.env x=pure x:=by intro _; rfl):PS X (.Assign [.Name y py] (.ListComp elt [⟨.Name x px,iter,[],0⟩] scope pos) spos) (h9q (h6p wi te) (g7n i)):=by
 intro pins s σ H D I h
 obtain⟨cl,hclos,hcl,hcl2⟩:=d0l (env:=X.env) (sc:=scope) fun y hy=>I.ok.has y (S.free _ hy rfl)
 rw [exec_Assign_Name_used _ _ _ _ hsw]
 refine wpAny_bind (wpAny_standAt (wpAny_bind ?_))
 show wpAny _ X.A (do let _ <- comprehension (.ListComp elt [⟨.Name x px,iter,[],0⟩] scope pos) scope X.env _ (newList []) false (eval iter X.env) (some (assign (.Name y py) X.env))) _ _ s
 refine wpAny_bind (wpAny_mono (wpAny_comprehension_free (use:=some (assign (.Name y py) X.env)) (Q:=fun _ s'=>SP X pins D .next s') rfl hs hclos S.kind S.loc ?_) (fun _ s' hq=>wpAny_pure (wpAny_pure hq)) fun _ _ e=>e)
 refine thn (hi pins s σ H _ I h) fun v s1 h1=>thn h1 fun itv s2 h2=>?_
 obtain⟨it,fp,tn,J,H2,e,I2,T,st2,f2,hW⟩:=h2
 subst e
 refine f3j (Q:=fun v H'=>D.nx (σ.set i (some v)) H') (RR:=fun acc C=>compPost (model X.prog X.w) X.A X.xe (some (assign (.Name y py) X.env)) (fun _ s'=>SP X pins D .next s') acc C) S hc he hcl hcl2 I2 T st2 f2 hW fun L C s' H' hm hI hfp hq=>?_
 obtain⟨m,hn⟩:=hm
 have I':Inv X pins σ H' s':=hI s'.heap (Heap.SameBut.refl ..)
 show wpAny _ X.A (assign (.Name y py) X.env (.ref L)) _ _ s'
 refine wpAny_assign_Name (d8k (v:=.ref L) I' hN hyi (.inl hy) rfl (fun s'' I'' hsb=>?_) (.inr hy))
 obtain⟨a,hsame,ha⟩:=hsb
 have nea:C≠a:=by
  rcases ha with z | z
  ·rw [z]; exact hfp.2.1
  ·exact fun q=>hfp.2.2.2.2.1 y a z q.symm
 refine⟨m,hn.sameBut hsame nea,fun h' hs'=>⟨_,H',I''.turned (t':=s''.toks) (it:=C) (fun b o hb e=>hs'.extBut b o hb e) hfp.1 hfp.2.1 hfp.2.2.2.1 hfp.2.2.2.2.1 hfp.2.2.2.2.2,hq⟩⟩
end
theorem d4v{K:PySem.W.Frag}{a D:Addr}{xs:List V}{te:TE}{σ:St}{H:Hp}{Q:VK}(Pv:Nat->List V->Hp->Prop)(h0:Pv 0 [] H)(hsz:xs.length<=sizeLine)
  (hD:∀ i ys H,i<=xs.length->Pv i ys H->H D=some (.lst ys)/\SqL K H a xs/\ys.length=i)
  (hs:∀ i x ys H,xs[i]? = some x->Pv i ys H->te (some x :: σ) H fun y H2=>H2 D=some (.lst ys)/\∀ H3,b3v D H2 H3->H3 D=some (.lst (ys++[y]))->Pv (i+1) (ys++[y]) H3)
  (hd:∀ ys H,Pv xs.length ys H->Q (.ref D) H):f5o (Itl K a) te D σ H Q ⟨⟩:=by
 refine⟨xs.length,Pv,h0,fun i ys H hi p=>?_⟩
 obtain⟨e1,e2,e3⟩:=hD i ys H hi p
 refine⟨e1,?_⟩
 by_cases hlt:i < xs.length
 ·refine .inr ⟨hlt,⟨xs,xs[i],e2,by simp [hlt]⟩,by omega,fun x H' y=>?_⟩
  obtain⟨e,y⟩:=y
  subst e
  exact hs i x ys _ (y xs e2) p
 ·have e:i=xs.length:=by omega
  subst e
  exact .inl ⟨⟨xs,e2,Nat.le_refl _⟩,hd ys H p⟩
theorem d8w{D:Addr}{lo:Int}{n:Nat}{te:TE}{σ:St}{H:Hp}{Q:VK}(Pv:Nat->List V->Hp->Prop)(h0:Pv 0 [] H)(hsz:n<=sizeLine)
  (hD:∀ i ys H,i<=n->Pv i ys H->H D=some (.lst ys)/\ys.length=i)
  (hs:∀ i ys H,i < n->Pv i ys H->te (some (.int (lo+i)) :: σ) H fun y H2=>H2 D=some (.lst ys)/\∀ H3,b3v D H2 H3->H3 D=some (.lst (ys++[y]))->Pv (i+1) (ys++[y]) H3)
  (hd:∀ ys H,Pv n ys H->Q (.ref D) H):f5o (Itr lo n) te D σ H Q ⟨⟩:=by
 refine⟨n,Pv,h0,fun i ys H hi p=>?_⟩
 obtain⟨e1,e3⟩:=hD i ys H hi p
 refine⟨e1,?_⟩
 by_cases hlt:i < n
 ·refine .inr ⟨hlt,hlt,by omega,fun x H' y=>?_⟩
  obtain⟨e,y⟩:=y
  subst e y
  exact hs i ys _ hlt p
 ·have e:i=n:=by omega
  subst e
  exact .inl ⟨Nat.le_refl _,hd ys H p⟩
theorem Same.step{D:Addr}{H0 H H':Hp}(S:Same H0 H)(n:H0 D=none)(s:b3v D H H'):Same H0 H':=fun b o e=>s b o (a6l e n) (S b o e)
theorem g5p{D:Addr}{lo:Int}{n:Nat}{te:TE}{σ:St}{H0 H:Hp}{Q:VK}(g:Nat->V)(n0:H0 D=none)(S:Same H0 H)(hD:H D=some (.lst []))(hsz:n<=sizeLine)
  (hs:∀ (i:Nat) H' (Q':VK),i < n->Same H0 H'->Q' (g i) H'->te (some (.int (lo+i)) :: σ) H' Q') (q:∀ H',Same H0 H'->H' D=some (.lst ((List.range n).map g))->Q (.ref D) H'):f5o (Itr lo n) te D σ H Q ⟨⟩:=by
 refine d8w (fun i ys H'=>Same H0 H'/\H' D=some (.lst ys)/\ys=(List.range i).map g) ⟨S,hD,by simp⟩ hsz (fun i ys H' hi p=>?_) (fun i ys H' hx p=>?_) (fun ys H' p=>?_)
 ·refine⟨p.2.1,?_⟩
  rw [p.2.2,List.length_map,List.length_range]
 ·refine hs i H' _ hx p.1 ⟨p.2.1,fun H3 s3 h3=>⟨p.1.step n0 s3,h3,?_⟩⟩
  rw [p.2.2,List.range_succ,List.map_append]
  rfl
 ·refine q H' p.1 ?_
  rw [p.2.1,p.2.2]
noncomputable def h4u(sc scope:Scope)(x:Str)(N:List Str):Bool :=
 (scope.kind == .function) && scope.names.all (fun y=>y.2 != .cell) && scope.names.all (fun y=>y.2 != .local || scope.names.lookup y.1 == some .local) && (scope.names.lookup x == some .local) &&
 scope.names.all (fun y => y.2 != .free || (sc.names.lookup y.1 == some .cell || sc.names.lookup y.1 == some .free)) && decide ((x :: mask x N).Nodup) && scope.names.all (fun y => y.1 != "") && (mask x N).all (fun y => scope.names.lookup y != some .local)
theorem g1g{X:Cx}{sc scope:Scope}{x:Str}{N:List Str}(hsc:X.env.scope=sc)(hN:X.N=N)(h:h4u sc scope x N=true):c2h X scope x:=by
 subst hN hsc
 unfold h4u at h
 simp only [Bool.and_eq_true,List.all_eq_true,beq_iff_eq,Bool.or_eq_true,bne_iff_ne,ne_eq,decide_eq_true_eq] at h
 obtain⟨⟨⟨⟨⟨⟨⟨h1,h2⟩,h3⟩,h4⟩,h5⟩,h6⟩,h7⟩,h8⟩:=h
 exact⟨h1,h2,fun y hy e=>(h3 y hy).resolve_left fun z=>z e,h4,fun y hy e=>(h5 y hy).resolve_left fun z=>z e,h6,h7,h8⟩
end L2
namespace L2
open PySem PySem.Spec PyProof.Rows
noncomputable def i6a:V->Hp->Bool:=fun x H=>match x with
 | .ref l=>(match H l with
  | some (.lst _)=>true
  | _=>false)
 | _=>false
noncomputable def i0x:V->Hp->Bool:=fun x _=>match x with
 | .str _=>true
 | _=>false
theorem f5p {K : PySem.W.Frag} : ∀ x H, i6a x H = true → tyV K "list" x H := fun x H h => by
 cases x with
 | ref l =>
  have h':(match H l with
   | some (.lst _)=>true
   | _=>false)=true:=h
  split at h'
  ·rename_i xs e
   exact .inl ⟨rfl,xs,SqL.of e⟩
  ·cases h'
 | _=>cases h
theorem a4j {K : PySem.W.Frag} : ∀ x H, i0x x H = true → tyV K "str" x H := fun x H h => by
 cases x with
 | str z=>exact rfl
 | _=>cases h
def tBMF(chk:V->Hp->Bool)(r:V->List V->Hp->VK->Prop)(to:TE)(t:TA):TE:=fun σ H Q=>to σ H fun x H1=>chk x H1=true/\t σ H1 fun xs H2=>r x xs H2 Q
section
variable {X:Cx}{o e:Expr}{es:List Expr}{to:TE}{t:TA}{name:Str}{apos cpos:Pos}{T id:String}{r r':V->List V->Hp->VK->Prop}{chk:V->Hp->Bool}
theorem MtR.weak(h:MtR X id r)(q:∀ x xs H Q,r' x xs H Q->r x xs H Q):MtR X id r':=fun pins s σ H x xs v us Q I rx rs hr=>h pins s σ H x xs v us Q I rx rs (q x xs H Q hr)
theorem b1o (hchk : ∀ x H, chk x H = true → tyV X.K T x H) (pa : PlainAttrs T) (slot : Slot T name id) (hty : typeOf (.builtin id) = pure (.type "method_descriptor")) (hm : MtR X id r) (ho : PE X o to) (ha : PA X (e :: es) t)
  (hbase:attributeBase o name X.env (eval o X.env)=eval o X.env:=by rfl)
  (hfew:((backTo cpos (starEach (e :: es) X.env)).all (fun x=>!x.1) && (backToKw cpos (keywordEach [] X.env)).all (fun x=>x.1.isSome)
   && decide ((e :: es).length+([] : List Keyword).length+(if ([] : List Keyword).isEmpty then 0 else 1) < 30))=true:=by rfl)
  (hline:(apos.endLine == cpos.line)=true:=by rfl) (hs:starEach (e :: es) X.env=(false,eval e X.env) :: starEach es X.env:=by rfl) (hplain:(backTo cpos (starEach es X.env)).any (·.1)=false:=by rfl) :
  PE X (.Call (.Attribute o name apos) (e :: es) [] cpos) (tBMF chk r to t):=by
 intro pins s σ H Q I h
 refine wpAny_Call_method_late hbase hfew hline rfl (thn (ho pins s σ H _ I h) fun v s1 ⟨x,H1,I1,r1,ty,q1⟩=>?_)
 obtain⟨h1,h2⟩:=i0h I1 r1 (hchk x H1 ty)
 refine⟨T,id,pa,slot,hty,h1,h2,?_⟩
 have hA:=ha cpos pins s1 σ H1 _ I1 q1
 rw [hs] at hA ⊢
 refine Calls.callWith_builtin (by show (false || (backTo cpos (starEach es X.env)).any (·.1))=false; rw [hplain] <;> rfl) (Calls.evalArgs_plain ?_)
 exact thn hA fun us s2 ⟨vs,H2,I2,r2,q2⟩=>hm pins s2 σ H2 x vs v us Q I2 r1 r2 q2
noncomputable def i6b:V->List V->Hp->VK->Prop:=fun x vs H Q=>match x,vs with
 | .ref l,[y]=>(match H l with
  | some (.lst xs)=>xs.length < sizeLine/\All (fun v H1=>v = .non/\b3v l H H1/\H1 l=some (.lst (xs++[y]))) Q ⟨⟩ ⟨⟩
  | _=>False)
 | _,_=>False
theorem d4w : MtR X "list.append" i6b := MtR.weak (r := g8e) d2v fun x vs H Q h => by
 match x,vs,h with
 | .ref l,[y],h =>
  have h':(match H l with
   | some (.lst xs)=>xs.length < sizeLine/\All (fun v H1=>v = .non/\b3v l H H1/\H1 l=some (.lst (xs++[y]))) Q ⟨⟩ ⟨⟩
   | _=>False):=h
  split at h'
  ·rename_i xs e
   exact⟨l,xs,y,rfl,rfl,e,h'.1,h'.2 _ _ ⟨rfl,b3v.upd,a5j⟩⟩
  ·exact h'.elim
end
noncomputable def f5q{α:Type}(xs:List α)(lo hi:Option Int):List α:=(xs.drop (HT.sIx xs.length 0 lo)).take (HT.sIx xs.length xs.length hi - HT.sIx xs.length 0 lo)
theorem h2p{α β:Type}(f:α->β)(xs:List α)(lo hi:Option Int):f5q (xs.map f) lo hi=(f5q xs lo hi).map f:=by
 unfold f5q
 rw [List.length_map,List.map_take,List.map_drop]
theorem g8l(ns:List Int)(lo hi:Option Int):d0z (ns.map V.int) lo hi=(f5q ns lo hi).map V.int:=h2p V.int ns lo hi
theorem h2q{α:Type}{xs:List α}{lo hi:Option Int}{x:α}(h:x∈f5q xs lo hi):x∈xs:=List.mem_of_mem_drop (List.mem_of_mem_take h)
theorem b1p{α:Type}(xs:List α)(a:Nat):f5q xs (some (a:Int)) none=xs.drop a:=by
 unfold f5q
 rw [HT.g8c,HT.h2b]
 by_cases h:a<=xs.length
 ·rw [Nat.min_eq_left h,List.take_of_length_le (by rw [List.length_drop] <;> exact Nat.le_refl _)]
 ·rw [Nat.min_eq_right (by omega),List.drop_length,List.drop_of_length_le (by omega)]
  simp
end L2
namespace L2
theorem f8w(F:Nat->St->Hp->Prop):∃ Pv:Nat->St->Hp->Prop,(∀ i σ H,F i σ H->Pv i σ H)/\∀ i σ H,Pv i σ H->F i σ H:=⟨F,fun _ _ _ h=>h,fun _ _ _ h=>h⟩
theorem i4r(F:St->Hp->Prop):∃ Pv:St->Hp->Prop,(∀ σ H,F σ H->Pv σ H)/\∀ σ H,Pv σ H->F σ H:=⟨F,fun _ _ h=>h,fun _ _ h=>h⟩
end L2
namespace L2
open PySem PySem.Spec PyProof.Rows
open PySem.Builtin.Int (intBits)
section
variable {X:Cx}
noncomputable def rSumF:List V->Hp->VK->Prop:=fun xs H Q=>match xs with
 | [.ref p]=>(match H p with
  | some (.lst ys)=>∃ ns:List Int,ys=ns.map V.int/\Q (.int ns.sum) H
  | _=>False)
 | _=>False
end
def Stop(p:Prop)(_:Tag p):Prop:=p
theorem Stop.go{p:Prop}{t:Tag p}(h:p):Stop p t:=h
def i0y(t u:TS):TS:=fun D σ H=>t { D with nx:=fun σ' H'=>Stop (u D σ' H') ⟨⟩ } σ H
theorem f8y{X:Cx}{st:Stmt}{rest:List Stmt}{t u:TS}(h1:PS X st t)(h2:PSs X rest u):PSs X (st :: rest) (i0y t u):=a0i h1 h2
def Hs(H:Hp)(fs:List (Addr×HO)):Prop:=(fs.map (·.1)).Nodup/\∀ p∈fs,H p.1=some p.2
theorem Hs.nil{H:Hp}:Hs H []:=⟨List.nodup_nil,fun _ h=>nomatch h⟩
theorem h2r{ns:List Int}{i:Nat}(h:i < ns.length):atI (ns.map V.int) (i:Int)=some (.int (ns.getD i 0)):=by
 refine c4j ?_
 rw [List.getElem?_map,List.getElem?_eq_getElem h,List.getD_eq_getElem?_getD,List.getElem?_eq_getElem h]
 rfl
def i8z(H:Hp)(cs:List Addr)(bs:List (List Int)):Prop:=cs.length=bs.length/\∀ (i:Nat) c b,cs[i]? = some c->bs[i]? = some b->H c=some (.lst (b.map V.int))
theorem i8z.two{H:Hp}{a b:Addr}{x y:List Int}(ha:H a=some (.lst (x.map V.int)))(hb:H b=some (.lst (y.map V.int))):i8z H [a,b] [x,y]:=by
 refine⟨rfl,fun i c d e1 e2=>?_⟩
 match i,e1,e2 with
 | 0,e1,e2=>cases e1; cases e2; exact ha
 | 1,e1,e2=>cases e1; cases e2; exact hb
 | i+2,e1,e2=>simp at e1
def i0z(H:Hp)(xs:List V)(v:V)(H':Hp):Prop:=∃ b,v = .ref b/\H b=none/\Same H H'/\H' b=some (.lst xs)
def f3k(H:Hp)(xs:List V)(v:V)(H':Hp):Prop:=∃ b,v = .ref b/\H b=none/\Same H H'/\H' b=some (.tup xs)
noncomputable def c8g(q:Rat):List V:=[.int q.num,.int (q.den:Nat)]
end L2
namespace L2
open PySem PySem.Spec PyProof.Rows
noncomputable def h6r(o:Obj):Option Value:=match o.data with
 | .fields vs=>vs[2]?
 | _=>none
def Kd(e:Addr)(d:Option Addr×Option Value)(h:Heap):Prop:=∃ o,h.get? e=some o/\o.dict=d.1/\h6r o=d.2
noncomputable def c3j{α:Type}:Sem α->Prop
 | .pure _=>True
 | .raise _=>True
 | .unsupported _=>True
 | .finish _=>True
 | .rule _ k=>c3j (k ())
 | .at _ k=>c3j (k ())
 | .load _ _ k=>∀ o,c3j (k o)
 | .update _ _ f k=>(∀ o:Obj,o.isFreed=false->(f o).isFreed=false/\(f o).dict=o.dict/\h6r (f o)=h6r o)/\c3j (k ())
 | .alloc _ k=>∀ a,c3j (k a)
 | .stack k=>∀ x,c3j (k x)
 | _=>False
theorem c3j.bind{α β:Type}{f:α->Sem β}(hf:∀ a,c3j (f a)):∀ {m:Sem α},c3j m->c3j (m >>= f):=by
 intro m
 induction m with
 | pure a=>intro _; exact hf a
 | raise e=>intro _; exact True.intro
 | unsupported w=>intro _; exact True.intro
 | finish e=>intro _; exact True.intro
 | rule t k ih=>intro h; exact ih () h
 | «at» p k ih => intro h; exact ih () h
 | load a p k ih=>intro h o; exact ih o (h o)
 | update a p g k ih=>intro h; exact⟨h.1,ih () h.2⟩
 | alloc o k ih=>intro h a; exact ih a (h a)
 | stack k ih=>intro h x; exact ih x (h x)
 | _=>intro h; exact False.elim h
theorem Kd.push{e:Addr}{d:Option Addr×Option Value}{h:Heap}(x:Kd e d h)(o:Obj):Kd e d (h.push o) :=
 let ⟨u,a,b⟩:=x; ⟨u,Heap.get?_push_of_some _ a,b⟩
theorem Kd.upd{e a:Addr}{d:Option Addr×Option Value}{h:Heap}{f:Obj->Obj}(x:Kd e d h)(hf:∀ o:Obj,o.isFreed=false->(f o).isFreed=false/\(f o).dict=o.dict/\h6r (f o)=h6r o):Kd e d (h.update a f):=by
 obtain⟨u,q,b⟩:=x
 have y:=hf u (Heap.get?_some_iff.mp q).2
 by_cases hb:a=e
 ·subst hb
  exact⟨_,Heap.get?_update_self f q y.1,y.2.1.trans b.1,y.2.2.trans b.2⟩
 ·exact⟨u,(Heap.get?_update_other h f hb).trans q,b⟩
theorem c3j.wp{α:Type}{M:Model}{Γ:PySem.Ctx}{e:Addr}{d:Option Addr×Option Value}{Q:α->Pos->Shared->Prop}{E:Value->Pos->Shared->Prop}:∀ {t:Sem α} {p:Pos} {s:Shared},c3j t->Sem.wp M Γ t Q E p s->Kd e d s.heap ->
  Sem.wp M Γ t (fun a p s'=>Q a p s'/\Kd e d s'.heap) (fun v p s'=>E v p s'/\Kd e d s'.heap) p s:=by
 intro t
 induction t with
 | pure a=>intro p s _ h k; rw [Sem.wp] at h ⊢; exact⟨h,k⟩
 | raise e=>intro p s _ h k; rw [Sem.wp] at h ⊢; exact⟨h,k⟩
 | unsupported w=>intro p s _ h k; rw [Sem.wp] at h; exact False.elim h
 | finish e=>intro p s _ h k; rw [Sem.wp] at h; exact False.elim h
 | rule t k ih=>intro p s m h q; rw [Sem.wp] at h ⊢; exact ih () m h q
 | «at» p k ih => intro p s m h q; rw [Sem.wp] at h ⊢; exact ih () m h q
 | load a p k ih=>intro p s m h q; rw [Sem.wp] at h ⊢; exact let ⟨o,x,y⟩:=h; ⟨o,x,ih o (m o) y q⟩
 | update a p g k ih=>intro p s m h q; rw [Sem.wp] at h ⊢; exact⟨h.1,ih () m.2 h.2 (q.upd m.1)⟩
 | alloc o k ih=>intro p s m h q; rw [Sem.wp] at h ⊢; exact ih _ (m _) h (q.push o)
 | stack k ih=>intro p s m h q; rw [Sem.wp] at h ⊢; exact ih _ (m _) h q
 | _=>intro p s m; exact False.elim m
theorem c3j.any{α:Type}{M:Model}{A:Around}{e:Addr}{d:Option Addr×Option Value}{Q:α->Shared->Prop}{E:Value->Shared->Prop}{t:Sem α}{s:Shared}(m:c3j t)(h:wpAny M A t Q E s)(k:Kd e d s.heap) :
  wpAny M A t (fun a s'=>Q a s'/\Kd e d s'.heap) (fun v s'=>E v s'/\Kd e d s'.heap) s:=fun Γ p hΓ=>m.wp (h Γ p hΓ) k
theorem c5l{v:Value}{i:Nat}:c3j (field v i):=by
 unfold field fieldsOf
 refine c3j.bind (fun vs=>?_) ?_
 ·split <;> exact True.intro
 ·split
  ·refine c3j.bind (fun o=>?_) (fun o=>True.intro)
   split <;> exact True.intro
  ·exact True.intro
theorem b9y{v x:Value}{i:Nat}(hi:i≠2):c3j (setField v i x):=by
 unfold setField updateField
 split
 ·refine c3j.bind (fun o=>?_) (fun o=>True.intro)
  split
  ·split
   ·refine⟨fun o ho=>?_,True.intro⟩
    obtain⟨c,dd,dt,sl⟩:=o
    cases dt with
    | fields vs=>exact⟨rfl,rfl,Array.getElem?_setIfInBounds_ne hi⟩
    | _=>first | exact⟨rfl,rfl,rfl⟩ | exact⟨ho,rfl,rfl⟩
   ·exact True.intro
  ·exact True.intro
 ·exact True.intro
theorem c4l{e:Value}:c3j (setFlight e none):=by
 unfold setFlight
 refine c3j.bind (fun v=>?_) c5l
 split
 ·exact b9y (by decide)
 ·exact True.intro
theorem f3l:∀ l:List Env,c3j (readyFrames l)
 | []=>True.intro
 | env :: outer=>by
  unfold readyFrames
  split
  ·refine c3j.bind (fun o=>?_) (fun o=>True.intro)
   split
   ·exact True.intro
   ·refine c3j.bind (fun b=>?_) ?_
    ·refine c3j.bind (fun v=>?_) ?_
     ·refine c3j.bind (fun _=>f3l outer) ⟨fun o ho=>?_,True.intro⟩
      obtain⟨c,dd,dt,sl⟩:=o
      cases dt <;> first | exact⟨rfl,rfl,rfl⟩ | exact⟨ho,rfl,rfl⟩
     ·unfold keptBack
      split
      ·split
       ·exact True.intro
       ·unfold underTheClaimsCaller
        exact c3j.bind (m := (do return (← stack).any fun (c, _) => match c with | .builtin "claim.caller" _ => true | _ => false : Sem Bool)) (fun v => by exact True.intro) (c3j.bind (m := stack) (fun v => by exact True.intro) fun _ => True.intro)
      ·exact True.intro
    ·unfold behindIsImport
     split
     ·exact True.intro
     ·split
      ·exact True.intro
      ·exact c3j.bind (fun v=>by exact True.intro) c5l
  ·exact True.intro
theorem d8y{e:Value}{env:Env}:c3j (noteFrame e env):=by
 have rest:∀ (f:Addr) (head:Value),c3j (do setField e 1 (<- EntryCells.newEntry head (<- PySem.frameOf env) .none (rawInt f) .none (<- entryPlaceOf f (head != .none)))):=fun f head=>by
  refine c3j.bind (fun a=>c3j.bind (fun pl=>c3j.bind (fun b=>b9y (by decide)) ?_) ?_) ?_
  ·unfold EntryCells.newEntry newFields newObj
   dsimp only
   generalize (([head,a,.none,rawInt f,.none] : List Value)++(if pl.isEmpty then List.replicate 6 .none else pl)).toArray=vs
   by_cases hz:vs.size > sizeLine+2
   ·rw [if_pos hz]
    exact True.intro
   ·rw [if_neg hz]
    exact fun _=>True.intro
  ·unfold entryPlaceOf
   refine c3j.bind (fun acts=>?_) (fun _=>True.intro)
   split <;> exact True.intro
  ·unfold PySem.frameOf frameEnvs
   refine c3j.bind (fun l=>c3j.bind (fun o=>?_) ?_) (c3j.bind (fun _=>by exact True.intro) fun _=>True.intro)
   ·split <;> exact True.intro
   ·unfold frameObject
    split
    ·exact True.intro
    ·exact c3j.bind (fun _=>by exact True.intro) (f3l _)
 unfold noteFrame
 split
 ·refine c3j.bind (fun head=>?_) c5l
  split
  ·refine c3j.bind (fun v=>?_) c5l
   split
   ·exact True.intro
   ·exact c3j.bind (fun _=>rest _ _) (b9y (by decide))
  ·exact rest _ _
 ·exact True.intro
theorem c8n{env:Env}{e:Value}:c3j (leaving env e):=by
 unfold leaving
 exact c3j.bind (fun _=>c4l) d8y
section
variable {M:Model}{A:Around}{E:Value->Shared->Prop}{s:Shared}{base:Heap}{env:Env}{outer l:List Env}{L e:Addr}{cls a0:Value}{dx:Option Addr×Option Value}{Q:Unit->Shared->Prop}
theorem d8z(hfr:A.frames=some (env :: outer))(hf:env.frame=some L)(hfl:Heap.FlyingW base (env :: outer) e cls a0 s.heap)(kd:Kd e dx s.heap)
  (hQ:∀ h',Heap.HeldW base (env :: outer) e cls a0 L h'->s.heap.UpToSlots h'->Kd e dx h'->Q () { s with heap:=h' }):wpAny M A (noteFrame (.ref e) env) Q E s:=by
 refine wpAny_mono (d8y.any (E:=fun _ _=>False) (wpAny_looks_onW (Q:=fun _ s'=>∃ h',s' = { s with heap:=h' }/\Heap.HeldW base (env :: outer) e cls a0 L h'/\s.heap.UpToSlots h') hfr hf hfl fun h' a b=>⟨h',rfl,a,b⟩) kd) (fun _ s' z=>?_) fun _ _ z=>z.1.elim
 obtain⟨⟨h',rfl,a,b⟩,c⟩:=z
 exact hQ h' a b c
theorem h4v(hh:Heap.HeldW base l e cls a0 L s.heap)(kd:Kd e dx s.heap)(hQ:∀ h',Heap.FlyingW base l e cls a0 h'->s.heap.UpToSlots h'->Kd e dx h'->Q () { s with heap:=h' }):wpAny M A (setFlight (.ref e) none) Q E s:=by
 refine wpAny_mono (c4l.any (E:=fun _ _=>False) (wpAny_landsW (Q:=fun _ s'=>∃ h',s' = { s with heap:=h' }/\Heap.FlyingW base l e cls a0 h'/\s.heap.UpToSlots h') hh fun h' a b=>⟨h',rfl,a,b⟩) kd) (fun _ s' z=>?_) fun _ _ z=>z.1.elim
 obtain⟨⟨h',rfl,a,b⟩,c⟩:=z
 exact hQ h' a b c
theorem h4w(hh:Heap.FlyingW base l e cls a0 s.heap)(kd:Kd e dx s.heap)(hQ:∀ h',Heap.FlyingW base l e cls a0 h'->s.heap.UpToSlots h'->Kd e dx h'->Q () { s with heap:=h' }):wpAny M A (setFlight (.ref e) none) Q E s:=by
 refine wpAny_mono (c4l.any (E:=fun _ _=>False) (lands_againW (Q:=fun _ s'=>∃ h',s' = { s with heap:=h' }/\Heap.FlyingW base l e cls a0 h'/\s.heap.UpToSlots h') hh fun h' a b=>⟨h',rfl,a,b⟩) kd) (fun _ s' z=>?_) fun _ _ z=>z.1.elim
 obtain⟨⟨h',rfl,a,b⟩,c⟩:=z
 exact hQ h' a b c
theorem g5q(hfr:A.frames=some (env :: outer))(hf:env.frame=some L)(hfl:Heap.FlyingW base (env :: outer) e cls a0 s.heap)(kd:Kd e dx s.heap)
  (hQ:∀ h',Heap.FlyingW base outer e cls a0 h'->s.heap.UpToSlots h'->Kd e dx h'->Q () { s with heap:=h' }):wpAny M A (leaving env (.ref e)) Q E s:=by
 refine wpAny_mono (c8n.any (E:=fun _ _=>False) (wpAny_leaves_onW (Q:=fun _ s'=>∃ h',s' = { s with heap:=h' }/\Heap.FlyingW base outer e cls a0 h'/\s.heap.UpToSlots h') hfr hf hfl fun h' a b=>⟨h',rfl,a,b⟩) kd) (fun _ s' z=>?_) fun _ _ z=>z.1.elim
 obtain⟨⟨h',rfl,a,b⟩,c⟩:=z
 exact hQ h' a b c
theorem f5r{oe:Obj}{vs:Array Value}(hfr:A.frames=some (env :: outer))(hf:env.frame=some L)(hl:s.heap.FunFrames base (env :: outer))(he:s.heap.get? e=some oe)(hc:oe.cls=cls)(hkb:base.StaysIn s.heap)(hen:base.get? e=none)
  (hd:oe.data = .fields vs) (h1:vs[1]? = some .none) (h0:vs[0]? = some a0) (hdx:oe.dict=dx.1) (hcx:h6r oe=dx.2)
  (hQ:∀ h',Heap.FlyingW base outer e cls a0 h'->s.heap.UpToSlots h'->Kd e dx h'->Q () { s with heap:=h' }):wpAny M A (leaving env (.ref e)) Q E s:=by
 subst hc
 refine wpAny_mono (c8n.any (e:=e) (d:=dx) (E:=fun _ _=>False) (wpAny_leaving_firstW (Q:=fun _ s'=>∃ h',s' = { s with heap:=h' }/\Heap.LeftW base (env :: outer) e oe.cls a0 s.heap h') hfr hl hf he hkb hen hd h1 h0 fun h' a=>⟨h',rfl,a⟩) ⟨_,he,hdx,hcx⟩) (fun _ s' z=>?_) fun _ _ z=>z.1.elim
 obtain⟨⟨h',rfl,⟨k1,⟨_,_,k2⟩,k3,k4⟩⟩,c⟩:=z
 exact hQ h' ⟨k1,hen,k2,k3⟩ k4 c
end
end L2
namespace L2
open PySem PySem.Spec PyProof.Rows
noncomputable def CXF(st:Bool)(P:Program)(w:World):CXT:=fun outer H s E e s'=>∃ (a:Addr) (C a0:Value) (B:Heap) (H':Hp),e = .ref a/\Heap.FlyingW B outer a C a0 s'.heap/\s'.os=s.os/\AllBare s'.gens /\
 (∀ h',B.StaysIn h'->s'.heap.UpToSlots h'->Un (frs outer) [] H H' s.heap h'/\HOk P w H' h')/\H' a=none/\s.heap.get? a=none/\∃ dx cx,Kd a (dx,cx) s'.heap/\(st=true->cx=some .none)/\E C dx H'
noncomputable abbrev CXE(P:Program)(w:World):CXT:=CXF false P w
theorem b8y.obj{P:Program}{w:World}{H:Hp}{h:Heap}{a:Addr}{o:HO}(x:b8y P w H h a o):∃ u,h.get? a=some u:=by
 cases o with
 | lst xs=>obtain⟨_,_,_,_,e⟩:=x; exact⟨_,e⟩
 | tup xs=>obtain⟨_,_,_,ob,e,_⟩:=x; exact⟨_,e⟩
 | dK kvs=>obtain⟨_,_,_,_,o,_,_,e,_⟩:=x; exact⟨_,e⟩
 | dT kvs=>obtain⟨_,_,_,_,o,_,_,e,_⟩:=x; exact⟨_,e⟩
 | set S n=>obtain⟨o,_,_,_,e,_⟩:=x; exact⟨_,e⟩
 | ins C dx fs=>obtain⟨_,_,_,e,_⟩:=x; exact⟨_,e⟩
 | own y=>obtain⟨_,e⟩:=x; exact⟨_,e⟩
 | xd fs=>obtain⟨_,⟨_,_,_,e,_⟩,_⟩:=x; exact⟨_,e⟩
 | rng lo hi=>obtain⟨_,_,_,e⟩:=x; exact⟨_,e⟩
 | frz ob u=>obtain⟨e,_⟩:=x; exact⟨_,e⟩
 | tbl ps=>exact⟨_,(show h.get? a=some _ from x)⟩
 | met f y=>exact⟨_,(show h.get? a=some _ from x)⟩
 | ext φ=>obtain⟨_,⟨_,e⟩,_⟩:=x; exact⟨_,e⟩
section
variable {X:Cx}{pins:List (Addr×Obj)}{σ:St}{H:Hp}{s:Shared}
theorem g8m{e:Addr}{cls:Value}{args:List Value}{h1 h':Heap}(I:Inv X pins σ H s)(hx:Heap.MadeExcOf s.heap h1 e cls args)(hB:(PySem.W.hideAll s.heap (frs X.stack)).StaysIn h')(hU:h1.UpToSlots h') :
  Un (frs X.stack) [] H H s.heap h'/\HOk X.prog X.w H h':=by
 have kb:∀ b o,s.heap.get? b=some o->b∉frs X.stack->h'.get? b=some o:=fun b o q n=>hB b o (PySem.W.hideAll_get _ q n)
 have kf:∀ b o,s.heap.get? b=some o->b∈frs X.stack->∃ sl,h'.get? b=some { o with slots:=sl }:=fun b o q hb=>by
  obtain⟨_,o',q',nf⟩:=I.stack.mem hb
  rw [q] at q'
  cases q'
  exact hU b o (hx.keeps b o q) nf
 refine⟨⟨fun b o q _ hb _=>kb b o q hb,fun b o q _ hb _=>kf b o q hb,fun _ _ _ n _=>n,fun b o q _=>?_,fun _ _ q=>q,fun _ _ _ q=>q,fun _ ps q=>⟨#[],by rw [q]; simp⟩⟩,fun a o e=>?_⟩
 ·by_cases hb:b∈frs X.stack
  ·obtain⟨sl,z⟩:=kf b o q hb
   exact⟨_,z⟩
  ·exact⟨o,kb b o q hb⟩
 ·refine (I.hok a o e).stay (fun b u hb q=>kb b u q fun z=>?_) (fun _ q=>q) fun _ _ q=>q
  have hn:=I.f5h b z
  rcases hb with r | r
  ·rw [r,e] at hn
   cases hn
  ·rw [hn] at r
   cases r
theorem f8z{e:Addr}{cls:Value}{args:List Value}{h1:Heap}(I:Inv X pins σ H s)(hx:Heap.MadeExcOf s.heap h1 e cls args):H e=none:=by
 cases q:H e with
 | none=>rfl
 | some o =>
  obtain⟨u,z⟩:=(I.hok e o q).obj
  rw [hx.new] at z
  cases z
theorem Inv.caught{H':Hp}{s':Shared}{h':Heap}{t':Nat}(I:Inv X pins σ H s)(os:s'.os=s.os)(bare:AllBare s'.gens)(u:Un (frs X.stack) [] H H' s.heap h')(hok:HOk X.prog X.w H' h'):Inv X pins σ H' { s' with heap:=h',toks:=t' }:=by
 obtain⟨hh,g,d,t,os'⟩:=s'
 obtain rfl:os'=s.os:=os
 exact Inv.call (s:=s) (h':=h') (g':=g) (d':=d) (t':=t') (ch:=[]) I u hok bare (fun b z=>absurd z (by simp))
theorem Inv.older{a:Addr}(I:Inv X pins σ H s)(hex:X.ex = [])(h:s.heap.get? a=none):X.s₀.heap.get? a=none:=by
 cases q:X.s₀.heap.get? a with
 | none=>rfl
 | some o =>
  obtain⟨o',z⟩:=I.base.there a o q (by rw [hex]; simp)
  rw [h] at z
  cases z
theorem Inv.track{a:Addr}{o:HO}(I:Inv X pins σ H s)(h1:X.s₀.heap.get? a=none)(h2:a≠X.env.locals)(h3:∀ x c,X.env.cells.lookup x=some c->c≠a)(h4:∀ p∈X.pn++pins,p.1≠a)(hH:H a=none)
  (new:b8y X.prog X.w (upd H a o) s.heap a o):Inv X pins σ (upd H a o) s:=by
 refine⟨I.ok,I.os,I.bare,⟨I.base.keep,I.base.slot,fun b u q n hx=>?_,I.base.there,fun b xs q=>?_,fun b u xs q=>?_,fun b ps q=>?_⟩,I.loc,I.cell,?_,fun x c e=>?_,fun p hp=>?_,fun b u e=>?_,I.len⟩
 ·rw [a4v (fun z=>by rw [z,h1] at q; cases q)]
  exact I.base.free b u q n hx
 ·have z:=I.base.tups b xs q
  rw [a4v (a6l z hH)]
  exact z
 ·have z:=I.base.f7v b u xs q
  rw [a4v (a6l z hH)]
  exact z
 ·obtain⟨m,z⟩:=I.base.f7y b ps q
  exact⟨m,by rw [a4v (a6l z hH)]; exact z⟩
 ·rw [a4v h2.symm]
  exact I.free
 ·rw [a4v (h3 x c e)]
  exact I.d1k x c e
 ·obtain⟨e,n,ne,nf,d⟩:=I.pin p hp
  exact⟨e,by rw [a4v (h4 p hp)]; exact n,ne,nf,d⟩
 ·by_cases hb:b=a
  ·subst hb
   rw [a5j] at e
   cases e
   exact new
  ·rw [a4v hb] at e
   exact (I.hok b u e).stay (fun _ _ _ q=>q) (fun c q=>by rw [a4v (a6l q hH)]; exact q) fun c xs q=>by rw [a4v (a6l q hH)]; exact q
def h4x(X:Cx)(E:XK):Prop:=∀ (pins:List (Addr×Obj)) (σ:St) (H:Hp) (s:Shared) (e C:Addr) (args:List Value) (h':Heap),Inv X pins σ H s->Heap.MadeExcOf s.heap h' e (.ref C) args->E (.ref C) none H->X.xe (.ref e) { s with heap:=h' }
end
section
variable {P:Program}{w:World}{K:PySem.W.Frag}{mg:Str->Option Value}{base:Heap}{N:List Str}{qual:Str}{scope:Scope}{f:Addr}{cd:Value}{A:Around}{outer:List Env}{s:Shared}{H:Hp}{E:XK}
theorem a9g{st:Bool}:h4x (g7f (CXF st P w) P w K mg base N qual scope f cd A outer s H E) E:=by
 intro pins σ H1 s1 e C args h1 I hx he
 show wpAny (model P w) (A.deeper (envOfC qual scope s.heap.objs.size f cd)) (leaving (envOfC qual scope s.heap.objs.size f cd) (.ref e)) (fun _ s''=>CXF st P w outer H s E (.ref e) s'') (fun e' s''=>CXF st P w outer H s E e' s'') { s1 with heap:=h1 }
 have hin:∀ env∈(envOfC qual scope s.heap.objs.size f cd :: outer),∀ b,env.frame=some b->b∈frs (envOfC qual scope s.heap.objs.size f cd :: outer):=fun env he b hb=>List.mem_filterMap.mpr ⟨env,he,hb⟩
 obtain⟨t,he0,htn,ht⟩:=hx.there
 have hkb:(PySem.W.hideAll s1.heap (frs (envOfC qual scope s.heap.objs.size f cd :: outer))).StaysIn s1.heap:=fun b o q=>PySem.W.of_hideAll _ q
 have hno:(PySem.W.hideAll s1.heap (frs (envOfC qual scope s.heap.objs.size f cd :: outer))).get? e=none:=by
  cases q:(PySem.W.hideAll s1.heap (frs (envOfC qual scope s.heap.objs.size f cd :: outer))).get? e with
  | none=>rfl
  | some o=>have z:=hkb e o q; rw [hx.new] at z; cases z
 refine f5r (base:=PySem.W.hideAll s1.heap (frs (envOfC qual scope s.heap.objs.size f cd :: outer))) I.ok.frames rfl ((PySem.W.funFrames_hide I.stack hin).of_keeps fun b o hb _=>⟨o,hx.keeps b o hb,rfl⟩) he0 rfl (fun b o hb=>hx.keeps b o (hkb b o hb)) hno rfl rfl rfl (dx:=(none,some .none)) rfl rfl fun h2 fl u kd=>?_
 refine⟨e,.ref C,.ref t,_,H1,rfl,fl,I.os,I.bare,fun h3 b3 u3=>?_,f8z I hx,I.older rfl hx.new,none,some .none,kd,fun _=>rfl,he⟩
 have z:=g8m I hx b3 (u.trans u3)
 exact⟨(I.caught (s':=s1) (t':=0) rfl I.bare z.1 z.2).base,z.2⟩
theorem a5k:Passes (CXE P w) (g7f (CXE P w) P w K mg base N qual scope f cd A outer s H E) E:=by
 intro pins σ H1 s1 e s' I h
 obtain⟨a,C,a0,B,H',rfl,fl,os,bare,un,hn,nw,dx,cx,kd,hcx,he⟩:=h
 show wpAny (model P w) (A.deeper (envOfC qual scope s.heap.objs.size f cd)) (leaving (envOfC qual scope s.heap.objs.size f cd) (.ref a)) (fun _ s''=>CXE P w outer H s E (.ref a) s'') (fun e' s''=>CXE P w outer H s E e' s'') s'
 refine g5q I.ok.frames rfl fl kd fun h2 fl2 u2 kd2=>?_
 refine⟨a,C,a0,B,H',rfl,fl2,os.trans I.os,bare,fun h3 b3 u3=>?_,hn,I.older rfl nw,dx,cx,kd2,hcx,he⟩
 have z:=un h3 b3 (u2.trans u3)
 exact⟨(I.caught (s':=s') (t':=0) os bare z.1 z.2).base,z.2⟩
theorem Fun.okX{x:Str}{st:Stmt}{fd:FuncData}{ps:List Str}{k:Nat}{sp:Sp}(F:Fun K x qual st f fd)(S:a0v N ps (a0n st))(len:∀ vs H Q E,sp vs H Q E->vs.length=ps.length)
  (hbody:∀ (cdv:Value) (A:Around) (outer:List Env) (s:Shared) (H:Hp) (vs:List V) (Q:VK) (E:XK),a1y k (A.deeper (envOfC qual (a0n st) s.heap.objs.size f cdv))->sp vs H Q E ->
   ∃ t,PSs (g7f (CXE P w) P w K mg base N qual (a0n st) f cdv A outer s H E) (d1m st) t/\t { nx:=fun _ H'=>Q .non H',rt:=Q } (start N vs) H):a1g P w K mg base (CXE P w) (k+1) f fd ps sp:=by
 obtain⟨oc,od,kV,doc,pm,an,cdv,ct,osl,rfl,lk,hcd⟩:=F.ex
 exact h6e lk hcd S len fun A outer s H vs Q E hr hsp=>hbody cdv A outer s H vs Q E hr hsp
end
theorem a1g.or{P:Program}{w:World}{K:PySem.W.Frag}{mg:Str->Option Value}{base:Heap}{k:Nat}{f:Addr}{fd:FuncData}{ps:List Str}{sp sp':Sp}(F:a1g P w K mg base CX0 k f fd ps sp)(G:a1g P w K mg base (CXE P w) k f fd ps sp') :
  a1g P w K mg base (CXE P w) k f fd ps (fun vs H Q E=>sp vs H Q E\/sp' vs H Q E):=by
 refine⟨fun vs H Q E h=>h.elim (F.len vs H Q E) (G.len vs H Q E),fun A outer s H args us vs Q E hr e0 hb hv h=>?_⟩
 rcases h with h | h
 ·refine codeAny_mono (F.run A outer s H args us vs Q E hr e0 hb hv h) fun r s' q=>?_
  cases r with
  | error e=>exact False.elim q
  | ok fl=>cases fl <;> exact q
 ·exact G.run A outer s H args us vs Q E hr e0 hb hv h
abbrev vE : List Value := [.type "ValueError", .type "Exception", .type "BaseException", .type "object"]
structure Exc(K:PySem.W.Frag)(C:Addr):Prop where
 ok : PySem.W.excIn K C vE "ValueError.__new__" = true
theorem g8n{K:PySem.W.Frag}{h:Heap}{C:Addr}{bmB:List Value}{newId:String}(X:K.In h)(q:PySem.W.excIn K C bmB newId=true) :
  ∃ bm N nm qn bs hdct sn sub ab col dd k0 k1 k2 k3 k5 mN, h.get? C = some (excClassObj nm qn C N bs bm hdct sn sub ab col dd k0 k1 k2 k3 k5 newId) ∧ h.Ns N mN ∧ mN "__init__" = none ∧ OwnTail h bmB bm := by
 unfold PySem.W.excIn at q
 split at q
 ·rename_i dd cd sl ho
  split at q
  ·rename_i C' bm k0 k1 k2 k3 n k5 hm hs
   simp only [Bool.and_eq_true,beq_iff_eq,Bool.not_eq_true'] at q
   obtain⟨⟨⟨⟨⟨q1,q2⟩,hdel⟩,ht⟩,hok⟩,hni⟩:=q
   subst q1 q2
   obtain⟨nm,bs,mro,ns,qn,hd,sn,sub,ab,col,del⟩:=cd
   dsimp only at hm hdel hok hni
   subst hm hdel
   obtain⟨l⟩:=sl
   have hs':l = [k0,k1,k2,k3,some (.builtin n),k5]:=hs
   subst hs'
   exact⟨bm,ns,nm,qn,bs,hd,sn,sub,ab,col,dd,k0,k1,k2,k3,k5,_,X _ _ ho,.of_isNs (PySem.W.isNs_of_in X hok),PySem.W.nsMap_none_of_in X hok hni,PySem.W.tail_of_in X ht⟩
  ·cases q
 ·cases q
section
variable {X:Cx}{e₀:Expr}{rest:List Expr}{t:TA}{x:Str}{C:Addr}{E:XK}{np cpos pos:Pos}
def i1a(C:Addr)(E:XK)(t:TA):TS:=fun _ σ H=>t σ H fun vs H1=>vs.length<=sizeLine/\E (.ref C) none H1
theorem a9h(O:Exc X.K C)(hm:X.mg x=some (.ref C))(hT:h4x X E)(hc:X.calm=true)(hg:Gl X x)(ha:PA X (e₀ :: rest) t)
  (he : starEach (e₀ :: rest) X.env = (false, eval e₀ X.env) :: starEach rest X.env := by rfl) (hplain : (backTo cpos (starEach rest X.env)).any (·.1) = false := by rfl) (hd : (x == ("__debug__" : Str)) = false := by decide) :
  PS X (.Raise (some (.Call (.Name x np) (e₀ :: rest) [] cpos)) none pos) (i1a C E t):=by
 intro pins s σ H D I h
 obtain⟨bm,N,nm,qn,bs,hdct,sn,sub,ab,col,dd,k0,k1,k2,k3,k5,mN,hC,hN,hni,T⟩:=g8n (h:=X.base) I.ok.mod.kin O.ok
 refine wpAny_Raise_call_subT (C:=C) (nm:=nm) (q:=qn) (N:=N) (bs:=bs) (bm:=bm) (hdct:=hdct) (sn:=sn) (sub:=sub) (ab:=ab) (col:=col) (dd:=dd) (k0:=k0) (k1:=k1) (k2:=k2) (k3:=k3) (k5:=k5)
  PySem.F.excBase_ValueError (mN:=mN) (T.hasType PySem.F.excBase_ValueError.hasBase) (I.ok.hd hc) (by rw [he]; show (false || (backTo cpos (starEach rest X.env)).any (·.1))=false; rw [hplain]; rfl) hni (c6n I hg hm ⟨rfl,?_⟩ hd)
 have hA:=ha cpos pins s σ H _ I h
 rw [he] at hA ⊢
 refine Calls.evalArgs_plain (wpAny_mono hA (fun us s2 h2=>?_) fun _ _ y=>y)
 obtain⟨vs,H1,I1,r,hl,hE⟩:=h2
 refine⟨rfl,?_,I1.bk _ _ hC,hN.keeps I1.bk,T.keeps I1.bk,fun h' e hx=>hT pins σ H1 s2 e C _ h' I1 hx hE⟩
 show us.length<=sizeLine
 rw [<- r.length]
 exact hl
end
structure d4q(K:PySem.W.Frag)(C:Addr):Prop where
 ga : PySem.W.findIn K (.ref C) "__getattribute__" = some (some (.builtin "BaseException.__getattribute__"))
 cl : PySem.W.findIn K (.ref C) "__class__" = some (some (.builtin "object.__class__"))
 ng : PySem.W.findIn K (.ref C) "__getattr__" = some none
 so : PySem.W.subIn K (.ref C) (.type "object") = some true
 sb : PySem.W.subIn K (.ref C) (.type "BaseException") = some true
 ty : PySem.W.typeIn K (.ref C) = some (.type "type")
 ic:PySem.W.isClsIn K C=true
 ss:PySem.W.subIn K (.ref C) (.ref C)=some true
theorem a6h{K:PySem.W.Frag}{C D:Addr}{b:Bool}(h:PySem.W.subIn K (.ref C) (.ref D)=some b)(c:d4q K C)(d:d4q K D):PySem.W.kitOne K (.ref C) (.ref D)=some b:=by
 unfold PySem.W.kitOne
 by_cases e:(Value.ref C == Value.ref D)=true
 ·rw [if_pos e]
  have z:C=D:=Value.ref.inj (beq_iff_eq.mp e)
  subst z
  rw [<- h,c.ss]
 ·rw [if_neg e]
  unfold PySem.W.kitCls
  have z : ((PySem.W.clsIn K D).isSome && PySem.W.typeIn K (.ref D) == some (.type "type")) = true := by
   rw [d.ty,show (PySem.W.clsIn K D).isSome=true from d.ic]
   rfl
  dsimp only
  rw [if_pos z]
  exact h
theorem b3z{K:PySem.W.Frag}{D:Addr}{n:String}{b:Bool}(h:PySem.W.subIn K (.type n) (.ref D)=some b)(d:d4q K D):PySem.W.kitOne K (.type n) (.ref D)=some b:=by
 unfold PySem.W.kitOne
 rw [if_neg (by simp)]
 unfold PySem.W.kitCls
 have z : ((PySem.W.clsIn K D).isSome && PySem.W.typeIn K (.ref D) == some (.type "type")) = true := by
  rw [d.ty,show (PySem.W.clsIn K D).isSome=true from d.ic]
  rfl
 dsimp only
 rw [if_pos z]
 exact h
theorem g3m{K:PySem.W.Frag}{C:Addr}{n:String}{b:Bool}(h:PySem.W.subIn K (.ref C) (.type n)=some b)(hm:PySem.W.kitMeta n=true):PySem.W.kitOne K (.ref C) (.type n)=some b:=by
 unfold PySem.W.kitOne
 rw [if_neg (by simp)]
 unfold PySem.W.kitCls
 dsimp only
 rw [if_pos hm]
 exact h
theorem f9g : PySem.W.kitMeta "ValueError" = true := by kernel_rfl
section
variable {prog:Program}{w:World}{A:Around}{E:Value->Shared->Prop}{h:Heap}{g:Array GenState}{d:Drawn}{t:Nat}{os:OsState}{a C:Addr}{o:Obj}{K:PySem.W.Frag}
theorem i1b{R:Result->Shared->Prop}(X:K.In h)(Z:d4q K C)(hx:h.get? a=some o)(hc:o.cls = .ref C)(hq:R (.ok (.ret (.ref C))) ⟨h,g,d,t,os⟩) :
  codeAny (model prog w) A (.call (.builtin "getset_descriptor.__get__") ⟨[.builtin "object.__class__", .ref a, .ref C], []⟩) R ⟨h, g, d, t, os⟩ := by
 have hT5 : (⟨h, g, d, t, os⟩ : Shared).TypeIs (.builtin "object.__class__") "getset_descriptor" := F.typeOf_object_class
 have hs : PySem.W.subIn K (.ref C) (.type (".".intercalate ("object.__class__".cutAt '.').dropLast)) = some true := by rw [F.owner_object_class]; exact Z.so
 refine codeAny_call_builtin F.slot_gs_get.plain F.entry_gs_get (F.slot_gs_get.check _ _ _ _ _ _ _ _ hT5 (F.args_gs_get _ _ _) ?_)
 repeat (any_goals (first | assumption | (with_reducible refine wpAny_loadPart_at hx ?_; rw [hc]) | with_reducible refine PySem.W.Looks.here (PySem.W.looks_subIn X hs) ?_ | wp_step))
 refine⟨Code.quiet_builtin _ (by decide +kernel),codeAny_builtin F.entry_object_class ?_⟩
 repeat (any_goals (first | assumption | (with_reducible refine wpAny_loadPart_at hx ?_; rw [hc]) | wp_step))
theorem h2t{M:Model}{nameV:Value}{Q:Unit->Shared->Prop}(X:K.In h)(Z:d4q K C)(hx:h.get? a=some o)(hc:o.cls = .ref C)(hq:Q () ⟨h,g,d,t,os⟩) :
  wpAny M A (checkBuiltinCall "BaseException.__getattribute__" ⟨[.ref a, nameV], []⟩) Q E ⟨h, g, d, t, os⟩ := by
 have hk : builtinKind "BaseException.__getattribute__" = some .slot := by decide +kernel
 have hsplit : splitId "BaseException.__getattribute__" = some ("BaseException", "__getattribute__") := by decide +kernel
 have ha:=F.args_bexc_ga (.ref a) nameV
 simp only [checkBuiltinCall,hk,hsplit]
 refine wpAny_bind ?_
 ·unfold isInstance
  repeat (first | (with_reducible refine wpAny_loadPart_at hx ?_; rw [hc]) | with_reducible refine PySem.W.Looks.here (PySem.W.looks_subIn X Z.sb) ?_ | wp_step)
  exact hq
theorem h2u{tk:Tok}{Q:Fin->Shared->Prop}(X:K.In h)(Z:d4q K C)(hx:h.get? a=some o)(hc:o.cls = .ref C)(hq:Q (.done (.ret (.ref C))) ⟨h,g,d,t,os⟩) :
  wpAny (model prog w) A (Builtin.«object.__getattribute__» ⟨[.ref a, .str "__class__" tk], []⟩) Q E ⟨h, g, d, t, os⟩ := by
 have hT5 : (⟨h, g, d, t, os⟩ : Shared).TypeIs (.builtin "object.__class__") "getset_descriptor" := F.typeOf_object_class
 have f5:=F.typeOf_object_class
 have f6:=F.slot_gs_get.lookup
 have f7:=F.slot_gs_set.lookup
 repeat (any_goals (first | assumption | (with_reducible refine wpAny_loadPart_at hx ?_; rw [hc]) | with_reducible refine PySem.W.Looks.here (PySem.W.looks_findIn X Z.cl) ?_ | wp_step))
 refine i1b X Z hx hc ?_
 repeat (any_goals (first | assumption | wp_step))
theorem i6c{tk:Tok}{Q:Value->Shared->Prop}(X:K.In h)(Z:d4q K C)(hx:h.get? a=some o)(hc:o.cls = .ref C)(hq:Q (.ref C) ⟨h,g,d,t,os⟩) :
  wpAny (model prog w) A (getAttrBy (.ref a) (.str "__class__" tk) false) Q E ⟨h, g, d, t, os⟩ := by
 have f3:=F.attrBase_ValueError.ga.bind (.ref a)
 have hx2 : (Value.builtin "BaseException.__getattribute__" == Value.builtin "object.__getattribute__") = false := by decide +kernel
 have hx1 : (onTheHeap (Value.ref C) && Value.builtin "BaseException.__getattribute__" == Value.builtin "object.__getattribute__") = false := by rw [hx2]; rfl
 repeat (any_goals (first | assumption | (with_reducible refine wpAny_loadPart_at hx ?_; rw [hc]) | with_reducible refine PySem.W.Looks.here (PySem.W.looks_findIn X Z.ga) ?_ | with_reducible refine PySem.W.Looks.here (PySem.W.looks_findIn X Z.ng) ?_ | wp_step))
 refine codeAny_call_builtin F.attrBase_ValueError.ga.plain F.entry_bexc_ga (h2t X Z hx hc (h2u X Z hx hc ?_))
 repeat (any_goals (first | assumption | wp_step))
theorem h6s{Q:Option Value->Shared->Prop}(X:K.In h)(Z:d4q K C)(hx:h.get? a=some o)(hc:o.cls = .ref C)(hq:Q (some (.ref C)) ⟨h,g,d,t+1,os⟩) :
  wpAny (model prog w) A (getAttr? (.ref a) "__class__") Q E ⟨h, g, d, t, os⟩ := by
 unfold getAttr? getAttrBy?
 repeat (any_goals (first | assumption | with_reducible apply i6c X Z hx hc | wp_step))
theorem h2v(Z:d4q K C):PySem.W.KitX K (.ref a) (.ref C) (fun h=>∃ o,h.get? a=some o/\o.cls = .ref C) where
 ty:=fun M h X p=>by
  obtain⟨o,e,c⟩:=p
  intro A Q E s k q
  obtain⟨hp,g,d,t,os⟩:=s
  have hx:hp.get? a=some o:=k _ _ e
  repeat (any_goals (first | assumption | (with_reducible refine wpAny_loadPart_at hx ?_; rw [c]) | wp_step))
 it:=fun M h X _=>by
  have z:=Z.ic
  unfold PySem.W.isClsIn PySem.W.clsIn at z
  split at z
  ·rename_i c' d' cd' sl' ho
   intro A' Q' E' s' k q
   unfold isType loadHead
   exact wpAny_bind (wpAny_loadPart (k _ _ (X _ _ ho)) (wpAny_pure q))
  ·cases z
 ne:=fun h tp dd its n sl X htp=>by
  refine Bool.eq_false_iff.mpr fun q=>?_
  have e:C=tp:=Value.ref.inj (beq_iff_eq.mp q)
  subst e
  have z:=Z.ic
  unfold PySem.W.isClsIn PySem.W.clsIn at z
  split at z
  ·rename_i c' d' cd' sl' ho
   have y:=(X _ _ ho).symm.trans htp
   cases y
  ·cases z
 ca:=fun {prog w A E Q s} X p k=>by
  obtain⟨o,e,c⟩:=p
  obtain⟨hp,g,d,t,os⟩:=s
  exact h6s X Z e c k
end
noncomputable def h4y(a:Addr)(C:Value):HO:=.ext fun h=>∃ o,h.get? a=some o/\o.cls=C
noncomputable def excD(a:Addr)(C:Value)(d:Addr):HO:=.ext fun h=>∃ o,h.get? a=some o/\o.cls=C/\o.dict=some d/\∃ vs,o.data = .fields vs
noncomputable def i6d(a:Addr)(C:Value):Option Addr->HO
 | none=>h4y a C
 | some d=>excD a C d
section
variable {X:Cx}
noncomputable def i6e(K:PySem.W.Frag):List V->Hp->VK->Prop:=fun xs H Q=>match xs with
 | [.non, .ref D] => (∃ b, PySem.W.kitOne K (.type "NoneType") (.ref D) = some b ∧ Q (.bl b) H)
 | [.ref a,.ref D]=>∃ C b,H a=some (h4y a (.ref C))/\d4q K C/\PySem.W.kitOne K (.ref C) (.ref D)=some b/\Q (.bl b) H
 | [.ref a,.ty n]=>∃ C b,H a=some (h4y a (.ref C))/\d4q K C/\PySem.W.kitOne K (.ref C) (.type n)=some b/\Q (.bl b) H
 | [.non, .ty n] => (∃ b, PySem.W.kitOne K (.type "NoneType") (.type n) = some b ∧ Q (.bl b) H)
 | _=>False
theorem isx{K:PySem.W.Frag}{H:Hp}{e C D:Addr}{b:Bool}{Q:VK}(h:H e=some (h4y e (.ref C)))(q:d4q K C)(k:PySem.W.kitOne K (.ref C) (.ref D)=some b)(hq:Q (.bl b) H):i6e K [.ref e,.ref D] H Q:=⟨C,b,h,q,k,hq⟩
theorem isxT{K:PySem.W.Frag}{H:Hp}{e C:Addr}{n:String}{b:Bool}{Q:VK}(h:H e=some (h4y e (.ref C)))(q:d4q K C)(k:PySem.W.kitOne K (.ref C) (.type n)=some b)(hq:Q (.bl b) H):i6e K [.ref e,.ty n] H Q:=⟨C,b,h,q,k,hq⟩
theorem g8o{pins:List (Addr×Obj)}{σ:St}{H:Hp}{s:Shared}{a C:Addr}{c:Value}{b:Bool}{A:Around}{E:Value->Shared->Prop}{Q:Value->Shared->Prop}(I:Inv X pins σ H s)(ha:H a=some (h4y a (.ref C)))(Z:d4q X.K C)(e:PySem.W.kitOne X.K (.ref C) c=some b)
  (h : ∀ tk, Q (.bool b) { s with toks := tk }) : wpAny (model X.prog X.w) A (call (.builtin "isinstance") [.ref a, c]) Q E s := by
 obtain⟨p,_,_⟩:=(show b8y X.prog X.w H s.heap a (h4y a (.ref C)) from I.hok a _ ha)
 exact PySem.W.kia_one (h2v Z) I.kIn p e (fun z=>nomatch z) h
theorem b4g : c8j X (.builtin "isinstance") (i6e X.K) := by
 intro pins s σ H xs us Q I r h
 match xs,r,h with
 | [.non,.ref D],r,⟨b,e,q⟩ =>
  obtain⟨u,v,rfl,r1,r2⟩:=vals2 r
  cases (show v=Value.ref D from r2)
  exact d8q I r1 .non e fun tk=>⟨.bl b,H,I.tok tk,rfl,q⟩
 | [.non,.ty n],r,⟨b,e,q⟩ =>
  obtain⟨u,v,rfl,r1,r2⟩:=vals2 r
  cases (show v=Value.type n from r2)
  exact d8q I r1 .non e fun tk=>⟨.bl b,H,I.tok tk,rfl,q⟩
 | [.ref a,.ref D],r,⟨C,b,ha,Z,e,q⟩ =>
  obtain⟨u,v,rfl,r1,r2⟩:=vals2 r
  cases (show v=Value.ref D from r2)
  cases (show u=Value.ref a from r1)
  exact g8o I ha Z e fun tk=>⟨.bl b,H,I.tok tk,rfl,q⟩
 | [.ref a,.ty n],r,⟨C,b,ha,Z,e,q⟩ =>
  obtain⟨u,v,rfl,r1,r2⟩:=vals2 r
  cases (show v=Value.type n from r2)
  cases (show u=Value.ref a from r1)
  exact g8o I ha Z e fun tk=>⟨.bl b,H,I.tok tk,rfl,q⟩
end
def XPo(X:Cx)(pins:List (Addr×Obj))(σ:St)(E:XK)(e:Value)(s':Shared):Prop:=∃ H1 s1,Inv X pins σ H1 s1/\CXE X.prog X.w X.stack H1 s1 E e s'
def PEX(X:Cx)(e:Expr)(t:TE)(E:XK):Prop :=
 ∀ (pins:List (Addr×Obj)) (s:Shared) (σ:St) (H:Hp) (Q:VK),Inv X pins σ H s->t σ H Q->wpAny (model X.prog X.w) X.A (eval e X.env) (EP X pins σ Q) (XPo X pins σ E) s
def PSX(X:Cx)(st:Stmt)(t:TS)(E:XK):Prop :=
 ∀ (pins:List (Addr×Obj)) (s:Shared) (σ:St) (H:Hp) (D:Ends),Inv X pins σ H s->t D σ H->wpAny (model X.prog X.w) X.A (exec st X.env) (SP X pins D) (XPo X pins σ E) s
section
variable {X:Cx}{k:Nat}{f C:Addr}{fd:FuncData}{ps:List Str}{sp:Sp}{dvs:List V}{ds:List Value}{E:XK}{x m:Str}{p pos apos:Pos}{e o:Expr}{es:List Expr}{ta:TE}{t:TA}
theorem h6t{pins:List (Addr×Obj)}{σ:St}{H:Hp}{s:Shared}{Q:VK}{us:List Value}{vs:List V}(F:a1g X.prog X.w X.K X.mg X.base (CXE X.prog X.w) k f fd ps sp)(hr:a1y k X.A)(hb:Binds X.K fd ps ds)(hd:Vals dvs ds)
  (I:Inv X pins σ H s) (r:Vals vs us) (h:sp (vs++dvs) H Q E):wpAny (model X.prog X.w) X.A (call (.ref f) us) (EP X pins σ Q) (XPo X pins σ E) s:=by
 have r2:Vals (vs++dvs) (us++ds):=r.append hd
 have hl:(us++ds).length=ps.length:=by rw [<- r2.length]; exact F.len _ _ _ _ h
 refine wpAny_call (codeAny_mono (F.run X.A X.stack s H ⟨us,[]⟩ (us++ds) (vs++dvs) Q E hr I.env0 (hb s us I.kIn hl) r2 h) fun r s' hq=>?_)
 cases r with
 | error e=>exact⟨H,s,I,hq⟩
 | ok fl =>
  cases fl with
  | ret u=>exact I.after hq
  | next=>exact False.elim hq
  | brk=>exact False.elim hq
  | cont=>exact False.elim hq
theorem g3n(F:a1g X.prog X.w X.K X.mg X.base (CXE X.prog X.w) k f fd ps sp)(hr:a1y k X.A)(hg:Gl X x)(hm:X.mg x=some (.ref f))(hk:PySem.W.keepIn X.K (.ref f)=true)(hb:Binds X.K fd ps ds)(hd:Vals dvs ds)
  (ha : PA X.nox (e :: es) t) (hdb : (x == ("__debug__" : Str)) = false := by decide) (he : starEach (e :: es) X.env = (false, eval e X.env) :: starEach es X.env := by rfl) (hpl : (backTo pos (starEach es X.env)).any (·.1) = false := by rfl) :
  PEX X (.Call (.Name x p) (e :: es) [] pos) (h1y sp dvs E t) E:=by
 intro pins s σ H Q I h
 refine wpAny_Call_Name_kw (c6n I hg hm ?_ hdb)
 refine PySem.W.callWith_K (h₀:=X.base) I.ok.mod.kin hk (wpAny_mono (ha pos pins s σ H _ (I.wish _) h) (fun us s1 ⟨vs,H1,I1,r,q⟩=>⟨I1.b9w.kIn,?_⟩) fun _ _ z=>False.elim z) he hpl
 exact h6t F hr hb hd I1.b9w r q
theorem h2w{te:TE}(he:PEX X e te E)(hs:swapsWith e none pos.line X.env=pure false:=by rfl):PSX X (.Expr e pos) (h9o te) E:=by
 intro pins s σ H D I h
 exact wpAny_Expr_any (thn (he pins s σ H _ I h) fun v s1 ⟨x,H1,I1,r1,q1⟩=>⟨σ,H1,I1,q1⟩) I.quiet hs
end
section
variable {X:Cx}{pins:List (Addr×Obj)}{σ:St}{H:Hp}{s:Shared}
noncomputable abbrev Cx.held(X:Cx)(e:Addr):Cx:={ X with A:=X.A.mark (some (.ref e)),calm:=false,xe:=fun _ _=>False }
theorem Inv.held(I:Inv X pins σ H s)(e:Addr):Inv (X.held e) pins σ H s :=
 ⟨⟨I.ok.mod,I.ok.kind,I.ok.glob,I.ok.blt,I.ok.above,I.ok.inj,I.ok.has,I.ok.cab,fun h=>Bool.noConfusion h,I.ok.frames,I.ok.stk,I.ok.exf,I.ok.bs,I.ok.bsz,I.ok.h5v,I.ok.h9h,I.ok.g5b,I.ok.frf⟩,I.os,I.bare,I.base,I.loc,I.cell,I.free,I.d1k,I.pin,I.hok,I.len⟩
theorem Inv.i1c{e:Addr}(ok:X.Ok)(I:Inv (X.held e) pins σ H s):Inv X pins σ H s:=⟨ok,I.os,I.bare,I.base,I.loc,I.cell,I.free,I.d1k,I.pin,I.hok,I.len⟩
theorem d9g{K:PySem.W.Frag}{M:Model}{A:Around}{E:Value->Shared->Prop}{a C D:Addr}{o:Obj}{Q:Bool->Shared->Prop}(KX:K.In s.heap)(Z:d4q K D)(hx:s.heap.get? a=some o)(hc:o.cls = .ref C)(hs:PySem.W.subIn K (.ref C) (.ref D)=some true)
  (hq:Q true s):wpAny M A (excMatches (.ref a) (.ref D)) Q E s:=by
 obtain⟨hp,g,d,t,os⟩:=s
 have f:=tc_notTuple
 have hi:PySem.W.Looks M hp (isType (.ref D)) true:=by
  have z:=Z.ic
  unfold PySem.W.isClsIn PySem.W.clsIn at z
  split at z
  ·rename_i c' d' cd' sl' ho
   intro A' Q' E' s' k q
   unfold isType loadHead
   exact wpAny_bind (wpAny_loadPart (k _ _ (KX _ _ ho)) (wpAny_pure q))
  ·cases z
 unfold excMatches isExcClass isInstance
 repeat (first | with_reducible refine PySem.W.Looks.here (PySem.W.looks_typeIn KX Z.ty) ?_ | with_reducible refine PySem.W.Looks.here hi ?_ | with_reducible refine PySem.W.Looks.here (PySem.W.looks_subIn KX Z.sb) ?_ | with_reducible refine PySem.W.Looks.here (PySem.W.looks_subIn KX hs) ?_ | (with_reducible refine wpAny_loadPart_at hx ?_; rw [hc]) | wp_step)
 exact hq
theorem Inv.unset{i:Nat}{x:Str}{h':Heap}{v:Option Value}{m:Str->Option Value}{t':Nat}(I:Inv X pins σ H s)(hN:X.N.Nodup)(hi:X.N[i]? = some x)(hk:X.env.scope.names.lookup x=some .local)(hn:s.heap.Ns X.env.locals m)
  (hl:∀ (j:Nat) (y:Str) (v:V),X.N[j]? = some y->σ[j]? = some (some v)->Vis X.env.scope y->∃ u,RelV v u/\Look X.env s.heap m y u)
  (hn':h'.Ns X.env.locals (fun y=>if y=x then v else m y)) (hs:Heap.SameBut X.env.locals s.heap h'):Inv X pins (σ.set i none) H { s with heap:=h',toks:=t' }:=by
 have hiσ:i < σ.length:=by rw [I.len]; exact (List.getElem?_eq_some_iff.mp hi).1
 refine⟨I.ok,I.os,I.bare,⟨fun b o e n hb hx=>?_,fun b o e n hb hx=>?_,I.base.free,fun b o e hx=>?_,I.base.tups,I.base.f7v,I.base.f7y⟩,⟨_,hn',fun j y v' e1 e2 e3=>?_⟩,fun y c e=>?_,I.free,I.d1k,fun p hp=>?_,fun b ob e=>?_,by simpa using I.len⟩
 ·exact (hs.2 b (Nat.ne_of_lt (Nat.lt_of_lt_of_le (Heap.lt_size e) I.ok.above))).trans (I.base.keep b o e n hb hx)
 ·obtain⟨sl,e1⟩:=I.base.slot b o e n hb hx
  exact⟨sl,(hs.2 b (Nat.ne_of_lt (Nat.lt_of_lt_of_le (Heap.lt_size e) I.ok.above))).trans e1⟩
 ·obtain⟨o',e1⟩:=I.base.there b o e hx
  exact⟨o',(hs.2 b (Nat.ne_of_lt (Nat.lt_of_lt_of_le (Heap.lt_size e) I.ok.above))).trans e1⟩
 ·by_cases hj:j=i
  ·subst hj
   rw [List.getElem?_set_self hiσ] at e2
   cases e2
  ·rw [List.getElem?_set_ne (Ne.symm hj)] at e2
   obtain⟨u',r',q⟩:=hl j y v' e1 e2 e3
   refine⟨u',r',?_⟩
   rcases q with ⟨k,e⟩ | ⟨k,c,e,z⟩
   ·refine .inl ⟨k,?_⟩
    have hyx:y≠x:=fun e=>hj (f5i hN e1 (e▸hi))
    simp [hyx,e]
   ·exact .inr ⟨k,c,e,z.sameBut hs (I.cne y c e)⟩
 ·obtain⟨w',z⟩:=I.cell y c e
  exact⟨w',z.sameBut hs (I.cne y c e)⟩
 ·obtain⟨e,n,ne,nf,d⟩:=I.pin p hp
  exact⟨(hs.2 p.1 ne).trans e,n,ne,nf,d⟩
 ·refine (I.hok b ob e).stay (fun c w' hc q=>(hs.2 c ?_).trans q) (fun _ q=>q) fun _ _ q=>q
  intro z
  have hf:=I.free
  rw [<- z] at hf
  rcases hc with r | r
  ·rw [r,e] at hf
   cases hf
  ·rw [hf] at r
   cases r
end
theorem h6u{P:Program}{w:World}{H:Hp}{h:Heap}{a:Addr}{C:Value}{dx:Option Addr}{ob:Obj}{vs:Array Value}(e:h.get? a=some ob)(c:ob.cls=C){cx:Option Value}(f:ob.data = .fields vs)(k:Kd a (dx,cx) h):b8y P w H h a (i6d a C dx):=by
 cases dx with
 | none=>exact⟨⟨ob,e,c⟩,⟨ob,e⟩,fun h1 h2 ⟨o,e1,e2⟩ k=>⟨o,k o e1,e2⟩⟩
 | some d =>
  obtain⟨o,e',q,_⟩:=k
  rw [e] at e'
  cases e'
  exact⟨⟨ob,e,c,q,vs,f⟩,⟨ob,e⟩,fun h1 h2 ⟨o,e1,e2⟩ k=>⟨o,k o e1,e2⟩⟩
def hAs(K:PySem.W.Frag)(D:Addr)(i:Nat)(th:TS)(Dn:Ends)(σ:St):XK:=fun C dx H'=>∃ c,C = .ref c/\PySem.W.subIn K (.ref c) (.ref D)=some true /\
 ∀ e H2,H' e=none->Same H' H2->H2 e=some (i6d e (.ref c) dx)->th { nx:=fun σ2 H3=>Dn.nx (σ2.set i none) H3,rt:=Dn.rt,bk:=fun σ2 H3=>Dn.bk (σ2.set i none) H3,ct:=fun σ2 H3=>Dn.ct (σ2.set i none) H3 } (σ.set i (some (.ref e))) H2
def i1d(K:PySem.W.Frag)(D:Addr)(i:Nat)(tb:XK->TS)(th:TS):TS:=fun Dn σ H=>tb (hAs K D i th Dn σ) Dn σ H
section
variable {X:Cx}{D:Addr}{dn n:Str}{i:Nat}{st b₀:Stmt}{suite:List Stmt}{tb:XK->TS}{th:TS}{np hpos pos:Pos}
theorem h2x(hb:∀ E,PSX X st (tb E) E)(hh:∀ e,PSs (X.held e) (b₀ :: suite) th)(hg:Gl X dn)(hm:X.mg dn=some (.ref D))(ZD:d4q X.K D)(hN:X.N.Nodup)(hi:X.N[i]? = some n)(hk:X.env.scope.names.lookup n=some .local)
  (hst : X.stack = X.env :: X.outer := by rfl) (hfr : X.env.frame = some X.env.locals := by rfl) (hex : X.ex = [] := by rfl) (hdb : (dn == ("__debug__" : Str)) = false := by decide) :
  PS X (.Try [st] [.ExceptHandler (some (.Name dn np)) (some n) (b₀ :: suite) hpos] [] [] pos) (i1d X.K D i tb th):=by
 intro pins s σ H Dn I h
 refine wpAny_Try_except (wpAny_execs_cons (wpAny_mono (hb _ pins s σ H Dn I h) (fun f s1 q=>?_) fun e s1 q=>?_))
 ·cases f with
  | next=>exact wpAny_execs_nil (wpAny_execs_nil q)
  | ret v=>exact q
  | brk=>exact q
  | cont=>exact q
 ·obtain⟨H1,s0,I1,a,C,a0,B,H',rfl,fl,os,bare,un,hn0,nw,dx,cx,kd,_,c,rfl,hsub,k⟩:=q
  have hA:X.A.frames=some (X.env :: X.outer):=by rw [<- hst]; exact I1.ok.frames
  rw [hst] at fl
  refine d8z hA hfr fl kd fun h4 hd4 sm4 kd4=>h4v hd4 kd4 fun h5 fl5 sm5 kd5=>?_
  have u5:=un h5 fl5.1 (sm4.trans sm5)
  have I5:Inv X pins σ H' { s1 with heap:=h5,toks:=s1.toks }:=I1.caught os bare u5.1 u5.2
  have cls:=I.ok.kind
  obtain⟨ob,hob,hcl⟩:=fl5.there
  refine wpAny_handleBy_cons (codeAny_handlers_test ?_) (by intro q; cases q)
  refine c6n (X:=X.held a) (s:={ s1 with heap:=h5 }) (I5.held a) hg hm ?_ hdb
  refine d9g (s:={ s1 with heap:=h5 }) I5.kIn ZD hob hcl hsub ?_
  refine codeAny_handlers_suite_as (h4w fl5 kd5 fun h6 fl6 sm6 kd6=>?_)
  have u6:=un h6 fl6.1 ((sm4.trans sm5).trans sm6)
  have I6:Inv X pins σ H' { s1 with heap:=h6,toks:=s1.toks }:=I1.caught os bare u6.1 u6.2
  obtain⟨ob6,vs6,hob6,hcl6,hda6,_⟩:=fl6.first
  have nl:a≠X.env.locals:=fun z=>by
   obtain⟨m,⟨o,_,_,ho,_⟩,_⟩:=I1.loc
   rw [<- z,nw] at ho
   cases ho
  have I7:Inv X pins σ (upd H' a (i6d a (.ref c) dx)) { s1 with heap:=h6,toks:=s1.toks }:=by
   refine I6.track (I1.older hex nw) nl (fun x cc e z=>?_) (fun p hp z=>?_) hn0 (h6u hob6 hcl6 hda6 kd6)
   ·obtain⟨v,o,ho,_⟩:=I1.cell x cc e
    rw [z,nw] at ho
    cases ho
   ·have ho:=(I1.pin p hp).1
    rw [z,nw] at ho
    cases ho
  refine d8g (X:=X.held a) (v:=.ref a) (I7.held a) hN hi (.inl hk) rfl (fun s8 I8=>?_) (.inr hk)
  refine wpAny_mono (hh a pins s8 _ _ _ I8 (k a _ hn0 (Same.upd hn0) a5j)) (fun f s9 q9=>?_) fun _ _ z=>False.elim z
  have goes:∀ {σ9:St} {H9:Hp} {Q9:Shared->Prop},Inv (X.held a) pins σ9 H9 s9->(∀ s',Inv X pins (σ9.set i none) H9 s'->Q9 s')->wpAny (model X.prog X.w) X.A (do bindName X.env n .none; unbindBehindTheSuite X.env n hpos) (fun _ s'=>Q9 s') X.xe s9:=by
   intro σ9 H9 Q9 J kk
   have J':=J.i1c I.ok
   obtain⟨m,hn,hl⟩:=id J'.loc
   refine wpAny_nameGoes_keeps hk hn (by rw [I.ok.kind]; rfl) fun h' v hn' hs'=>kk _ ?_
   exact J'.unset hN hi hk hn hl hn' hs'
  cases f with
  | next =>
   obtain⟨σ',H9,J,q⟩:=q9
   exact goes (Q9:=fun s'=>SP X pins Dn .next s') J fun s' J'=>⟨_,_,J',q⟩
  | brk =>
   obtain⟨σ',H9,J,q⟩:=q9
   exact goes (Q9:=fun s'=>SP X pins Dn .brk s') J fun s' J'=>⟨_,_,J',q⟩
  | cont =>
   obtain⟨σ',H9,J,q⟩:=q9
   exact goes (Q9:=fun s'=>SP X pins Dn .cont s') J fun s' J'=>⟨_,_,J',q⟩
  | ret u =>
   obtain⟨v,σ',H9,J,r,q⟩:=q9
   exact goes (Q9:=fun s'=>SP X pins Dn (.ret u) s') J fun s' J'=>⟨v,_,_,J',r,q⟩
end
def i1e:TE:=fun _ H Q=>New H (.dK []) Q ⟨⟩
theorem h2y{X:Cx}{pos:Pos}:PE X (.Dict [] [] pos) i1e:=PE.weak h2m fun _ _ _ h=>h.raw
end L2
namespace L2
open PySem PySem.Spec PyProof.Rows
section
variable {X:Cx}{tg:Expr}
noncomputable def i6f(g:Str->Str->V):V->List V->Hp->VK->Prop:=fun x vs H Q=>match x,vs with
 | .str z,[.str y]=>Q (g z y) H
 | _,_=>False
theorem b9z : MtR X "str.startswith" (i6f fun z y => .bl (Txt.startswith z y)) := by
 intro pins s σ H x xs v us Q I rx rs h
 match x,xs,h with
 | .str z,[.str y],q =>
  obtain⟨t,rfl⟩:=rx
  obtain⟨u,rfl,t',rfl⟩:=vals1 rs
  exact call_gives F.slot_str_startswith (typeIs_str _ _ _) F.entry_str_startswith (F.args_str_startswith_2 _ _) (gives_str_startswith z y t t') ⟨.bl (Txt.startswith z y),H,I,rfl,q⟩
noncomputable def Its(x:Str):It:=⟨fun i _=>i < x.cps.size,fun i H v H'=>H'=H/\∃ c,x.cps[i]? = some c/\v = .str ⟨#[c]⟩,fun i _=>i=x.cps.size⟩
theorem h2z {P : Program} {w : World} {K : PySem.W.Frag} (it : Addr) (x : Str) (t : Tok) {n : String} (hn : ["enumerate", "zip", "dict_itemiterator", "dict_reverseitemiterator", "odict_iterator", "itertools.zip_longest", "itertools.pairwise"].contains n = false)
  (W:∀ A':Around,A'.handled=none->Walks P w A' it [it] [it] x.cps.size (SignAt x) (fun i h=>h.IsStrIter it n x t i))
  (S:∀ (A:Around) (i:Nat) (s:Shared) (Q:Value->Shared->Prop) (E:Value->Shared->Prop),s.heap.IsStrIter it n x t i->Q (.ref it) s->wpAny (model P w) A (pyIter (.ref it)) Q E s):Turn P w K tg (Its x) [it] it (fun i h=>h.IsStrIter it n x t i) where
 mem:=by simp
 obj:=fun i h st b hb=>by
  have e:b=it:=by simpa using hb
  subst e
  obtain⟨o,e,c,d⟩:=st
  exact⟨o,e,fun v z=>by rw [d] at z; cases z⟩
 keep:=fun i h h' st k=>let ⟨o,ho,r⟩:=st; ⟨o,k it (by simp) o ho,r⟩
 item:=by
  intro X hP hw hK hc i pins s σ H E I hf st hg
  subst hP hw hK
  obtain⟨f0,f1,f2,f3,f4,f5⟩:=hf it (by simp)
  refine (W _ (I.ok.hd hc)).item i s _ _ hg st fun v h' tk hv st' kk=>?_
  obtain⟨c,u,hc',rfl⟩:=hv
  have I1:Inv X pins σ H { s with heap:=h',toks:=tk }:=I.turned (fun b o hb e=>kk b o (by simpa using hb) e) f0 f1 f3 f4 f5
  obtain⟨o,e1,c1,d1⟩:=id st'
  exact⟨_,rfl,h1q (s:={ s with heap:=h',toks:=tk }) e1 c1 d1 hn ⟨.str ⟨#[c]⟩,H,I1,⟨u,rfl⟩,⟨rfl,c,hc',rfl⟩,st',fun b hb=>(hf b hb).1⟩⟩
 done:=by
  intro X hP hw hK hc i pins s σ H E I hf st hg
  subst hP hw hK
  obtain⟨f0,f1,f2,f3,f4,f5⟩:=hf it (by simp)
  have hi:i=x.cps.size:=hg
  subst hi
  exact (W _ (I.ok.hd hc)).done s _ _ st fun h' tk kk=>⟨rfl,I.turned (t':=tk) (fun b o hb e=>kk b o (by simpa using hb) e) f0 f1 f3 f4 f5⟩
 self:=S
def iStr(tl:TE):TI:=fun σ H R=>tl σ H fun x H1=>match x with
 | .str z=>R (Its z) H1
 | _=>False
theorem h4z{l:Expr}{tl:TE}(hl:PE X l tl):PI X tg l (iStr tl):=by
 intro pins s σ H R I h
 refine thn (hl pins s σ H _ I h) fun v s1 ⟨x,H1,I1,r1,q1⟩=>?_
 cases x with
 | str z =>
  obtain⟨t,rfl⟩:=r1
  have fin : ∀ (o : Obj) (n : String), ["enumerate", "zip", "dict_itemiterator", "dict_reverseitemiterator", "odict_iterator", "itertools.zip_longest", "itertools.pairwise"].contains n = false → (s1.heap.push o).IsStrIter s1.heap.objs.size n z t 0 →
    (∀ A':Around,A'.handled=none->Walks X.prog X.w A' s1.heap.objs.size [s1.heap.objs.size] [s1.heap.objs.size] z.cps.size (SignAt z) (fun i h=>h.IsStrIter s1.heap.objs.size n z t i)) ->
    (∀ (A:Around) (i:Nat) (s:Shared) (Q:Value->Shared->Prop) (E:Value->Shared->Prop),s.heap.IsStrIter s1.heap.objs.size n z t i->Q (.ref s1.heap.objs.size) s->wpAny (model X.prog X.w) A (pyIter (.ref s1.heap.objs.size)) Q E s) ->
    PIE X pins σ tg R (.ref s1.heap.objs.size) { s1 with heap:=s1.heap.push o }:=fun o n hn st W S=>by
   refine⟨s1.heap.objs.size,[s1.heap.objs.size],_,_,H1,rfl,I1.kept (t':=s1.toks) fun b o e=>Heap.get?_push_of_some _ e,h2z _ z t hn W S,st,fun b hb=>?_,q1⟩
   have e:b=s1.heap.objs.size:=by simpa using hb
   subst e
   exact I1.h1p (Nat.le_refl _) (I1.hok.fresh (Nat.le_refl _))
  cases ha:z.cps.all (· < 128)
  ·exact wpAny_pyIter_wide ha (fin _ "str_iterator" (by decide) ⟨_, Heap.get?_push_size _ rfl, rfl, rfl⟩ (fun A' hA => Walks.strWide hA _ z t) fun _ _ _ _ _ st hQ => wpAny_pyIter_striter_wide st hQ)
  ·exact wpAny_pyIter_ascii ha (fin _ "str_ascii_iterator" (by decide) ⟨_, Heap.get?_push_size _ rfl, rfl, rfl⟩ (fun A' hA => Walks.strAscii hA _ z t) fun _ _ _ _ _ st hQ => wpAny_pyIter_striter_ascii st hQ)
 | _=>exact False.elim q1
theorem g3o{x:Str}{g:TG}{tb:TS}{D:Ends}{σ:St}{H:Hp}(Pv:Nat->St->Hp->Prop)(h0:Pv 0 σ H)
  (hs:∀ i c σ H,x.cps[i]? = some c->Pv i σ H->g (.str ⟨#[c]⟩) σ H fun σ2 H2=>tb { D with nx:=Pv (i+1),ct:=Pv (i+1),bk:=D.nx } σ2 H2) (hd:∀ σ H,Pv x.cps.size σ H->D.nx σ H):i0o (Its x) g tb D σ H:=by
 refine⟨fun i m σ H=>m=x.cps.size - i/\i<=x.cps.size/\Pv i σ H,⟨x.cps.size,by simp,Nat.zero_le _,h0⟩,?_⟩
 rintro i m σ H ⟨rfl,hi,p⟩
 by_cases hlt:i < x.cps.size
 ·refine .inr ⟨hlt,Pv (i+1),fun σ' H' p'=>⟨x.cps.size - (i+1),by omega,rfl,hlt,p'⟩,fun v H' y=>?_⟩
  obtain⟨e,c,hc,e2⟩:=y
  subst e e2
  exact hs i c σ _ hc p
 ·have e:i=x.cps.size:=by omega
  subst e
  exact .inl ⟨rfl,hd σ H p⟩
noncomputable def rSlA:V->Option Int->Option Int->Hp->VK->Prop:=fun x lo hi H Q=>match x with
 | .ref a=>(match H a with
  | some (.lst xs)=>New H (.lst (d0z xs lo hi)) Q ⟨⟩
  | _=>False)
 | .str z=>z.length<=sizeLine/\Q (.str (Txt.slice z lo hi)) H
 | _=>False
theorem d8h:SlR X rSlA:=by
 intro pins s σ H x v vl vu lo hi sl Q I rx hs pl pu h
 cases x with
 | ref a=>exact sl_M pins s σ H _ v vl vu lo hi sl Q I rx hs pl pu h
 | str z =>
  obtain⟨t,rfl⟩:=rx
  obtain⟨hz,q⟩:=h
  have fin:∀ t' k,EP X pins σ Q (.str (Txt.slice z lo hi) t') { s with toks:=k }:=fun t' k=>⟨.str _,H,I.tok k,⟨_,rfl⟩,q⟩
  refine ⟨"str", _, F.slot_str_getitem.lookup, typeIs_str _ _ _, ?_⟩
  cases pl with
  | none =>
   cases pu with
   | none=>exact wpAny_getItem_str_slice (l:=none) (u:=none) (st:=none) hs rfl (post_val_or_str ⟨Nat.le_trans (Txt.slice_le z _ _) hz,fin⟩)
   | int j uj=>exact wpAny_getItem_str_slice (l:=none) (u:=some (j,uj)) (st:=none) hs rfl (post_val_or_str ⟨Nat.le_trans (Txt.slice_le z _ _) hz,fin⟩)
  | int i ui =>
   cases pu with
   | none=>exact wpAny_getItem_str_slice (l:=some (i,ui)) (u:=none) (st:=none) hs rfl (post_val_or_str ⟨Nat.le_trans (Txt.slice_le z _ _) hz,fin⟩)
   | int j uj=>exact wpAny_getItem_str_slice (l:=some (i,ui)) (u:=some (j,uj)) (st:=none) hs rfl (post_val_or_str ⟨Nat.le_trans (Txt.slice_le z _ _) hz,fin⟩)
 | _=>exact False.elim h
noncomputable def i6g:List V->Hp->VK->Prop:=fun xs H Q=>match xs with
 | [.int i]=>Q (.int i) H
 | [.bl k]=>Q (.int (if k then 1 else 0)) H
 | [.str z]=>∃ n,PySem.intText? z=some n/\z.length<=640/\Q (.int n) H
 | _=>False
theorem a8l : c8j X (.type "int") i6g := by
 intro pins s σ H xs us Q I r h
 match xs,r,h with
 | [.int i],r,q=>exact f8i pins s σ H _ us Q I r (.inl ⟨i,rfl,q⟩)
 | [.bl k],r,q=>exact f8i pins s σ H _ us Q I r (.inr ⟨k,rfl,q⟩)
 | [.str z],r,⟨n,hn,hl,q⟩ =>
  obtain⟨u,rfl,t,rfl⟩:=vals1 r
  exact PySem.W.KIN.call_text hn hl ⟨.int n,H,I.tok _,⟨_,rfl⟩,q⟩
noncomputable def i6h:List V->Hp->VK->Prop:=fun xs H Q=>match xs with
 | [.int i]=>i.natAbs.log2 < 1920/\Q (.str (toString i)) H
 | _=>False
theorem g8p : c8j X (.type "str") i6h := f8j.weak fun xs H Q h => by
 match xs,h with
 | [.int i],⟨a,b⟩=>exact⟨i,rfl,a,b⟩
def tFmt(te:TE):TE:=fun σ H Q=>te σ H fun x H1=>match x with
 | .int i=>i.natAbs.log2 < 1920/\Q (.str (toString i)) H1
 | .str y=>y.length<=sizeLine/\Q (.str y) H1
 | _=>False
theorem b4z{e:Expr}{te:TE}{pos:Pos}(he:PE X e te):PE X (.FormattedValue e (-1) none pos) (tFmt te):=by
 intro pins s σ H Q I h
 refine wpAny_FormattedValue_plain (thn (he pins s σ H _ I h) fun v s1 ⟨x,H1,I1,r1,q1⟩=>?_)
 cases x with
 | int i =>
  obtain⟨t,rfl⟩:=r1
  exact wpAny_formatField_int q1.1 ⟨.str (toString i),H1,I1.tok _,⟨_,rfl⟩,q1.2⟩
 | str y =>
  obtain⟨t,rfl⟩:=r1
  exact wpAny_formatField_str (hx:=q1.1) ⟨.str y,H1,I1,⟨_,rfl⟩,q1.2⟩ ⟨.str y,H1,I1.tok _,⟨_,rfl⟩,q1.2⟩
 | _=>exact False.elim q1
noncomputable abbrev TJ:=Str->St->Hp->(Str->Hp->Prop)->Prop
def PJ(X:Cx)(es:List Expr)(t:TJ):Prop:=∀ (pins:List (Addr×Obj)) (acc:Str) (s:Shared) (σ:St) (H:Hp) (Q:Str->Hp->Prop) (Q':Str->Shared->Prop),Inv X pins σ H s->t acc σ H Q->(∀ out H1 s1,Inv X pins σ H1 s1->Q out H1->Q' out s1) ->
 Joins (model X.prog X.w) X.A X.xe (evalEach es X.env) acc Q' s
noncomputable def i6i:TJ:=fun acc _ H Q=>Q acc H
def i1f(te:TE)(tr:TJ):TJ:=fun acc σ H Q=>te σ H fun x H1=>match x with
 | .str y=>acc.length+y.length<=sizeLine/\tr (acc++y) σ H1 Q
 | _=>False
theorem d1g:PJ X [] i6i:=fun pins acc s σ H Q Q' I h k=>k acc H s I h
theorem a3h{e:Expr}{es:List Expr}{te:TE}{tr:TJ}(he:PE X e te)(hr:PJ X es tr)(hs:evalEach (e :: es) X.env=eval e X.env :: evalEach es X.env:=by rfl):PJ X (e :: es) (i1f te tr):=by
 intro pins acc s σ H Q Q' I h k
 rw [hs]
 refine thn (he pins s σ H _ I h) fun v s1 ⟨x,H1,I1,r1,q1⟩=>?_
 cases x with
 | str y =>
  obtain⟨t,rfl⟩:=r1
  exact⟨y,t,rfl,by rw [strLen_append]; exact q1.1,hr pins (acc++y) s1 σ H1 Q Q' I1 q1.2 k⟩
 | _=>exact False.elim q1
def i6j(tj:TJ):TE:=fun σ H Q=>tj Str.empty σ H fun out H1=>out.length<=sizeLine/\Q (.str out) H1
theorem b1q{e₁ e₂:Expr}{es:List Expr}{tj:TJ}{pos:Pos}(h:PJ X (e₁ :: e₂ :: es) tj):PE X (.JoinedStr (e₁ :: e₂ :: es) pos) (i6j tj):=by
 intro pins s σ H Q I hq
 exact wpAny_JoinedStr (h pins Str.empty s σ H _ _ I hq fun out H1 s1 I1 q=>⟨q.1,.str out,H1,I1.tok _,⟨_,rfl⟩,q.2⟩)
noncomputable def a3r(x y:Str):List Str:=if (decide (x.length < y.length) || decide (Builtin.Str.strKind x < Builtin.Str.strKind y))=true then [x] else if (Builtin.Str.occurrences x y 0 x.length (x.length+1)).isEmpty=true then [x] else Builtin.Str.partsBetween x (Builtin.Str.occurrences x y 0 x.length (x.length+1)) y.length
noncomputable def i1g:V->List V->Hp->VK->Prop:=fun x vs H Q=>match x,vs with
 | .str z,[.str y]=>(y.length == 0)=false/\z.length<=sizeLine/\(a3r z y).length<=sizeLine/\New H (.lst ((a3r z y).map V.str)) Q ⟨⟩
 | _,_=>False
theorem f9h:∀ (l:List Str) (k:Nat),Vals (l.map V.str) (strsFrom k l)
 | [],_=>.nil
 | x :: l,k=>.cons ⟨_,rfl⟩ (f9h l (k+1))
theorem b8m : MtR X "str.split" i1g := by
 intro pins s σ H x xs v us Q I rx rs h
 match x,xs,h with
 | .str z,[.str y],⟨hy,hz,hn,q⟩ =>
  obtain⟨t,rfl⟩:=rx
  obtain⟨u,rfl,t',rfl⟩:=vals1 rs
  have fr:H s.heap.objs.size=none:=I.hok.fresh (Nat.le_refl _)
  have itself : a3r z y = [z] → EP X pins σ Q (.ref s.heap.objs.size) { s with heap := s.heap.push { cls := .type "list", data := .seq [Value.str z t].toArray } } := fun e => by
   rw [e] at q
   exact⟨.ref _,_,I.laid (o:=.lst ([z].map V.str)) (t':=s.toks) (fun b u e=>Heap.get?_push_of_some _ e) (Nat.le_refl _) ⟨show 1<=sizeLine by decide,[Value.str z t],0,.cons ⟨t,rfl⟩ .nil,Heap.get?_push_size _ rfl⟩,rfl,q.raw _ fr⟩
  by_cases h1:(decide (z.length < y.length) || decide (Builtin.Str.strKind z < Builtin.Str.strKind y))=true
  ·exact call_meets F.slot_str_split (typeIs_str _ _ _) F.entry_str_split (F.args_str_split_2 _ _) (meets_str_split_cannot_occur z y t t' h1) (itself (by unfold a3r; rw [if_pos h1]))
  ·have h1':=Bool.eq_false_iff.mpr h1
   by_cases h2:(Builtin.Str.occurrences z y 0 z.length (z.length+1)).isEmpty=true
   ·exact call_meets F.slot_str_split (typeIs_str _ _ _) F.entry_str_split (F.args_str_split_2 _ _) (meets_str_split_not_found z y t t' h1' hy h2) (itself (by unfold a3r; rw [if_neg h1,if_pos h2]))
   ·have h2':=Bool.eq_false_iff.mpr h2
    have e:a3r z y=Builtin.Str.partsBetween z (Builtin.Str.occurrences z y 0 z.length (z.length+1)) y.length:=by unfold a3r; rw [if_neg h1,if_neg h2]
    refine call_meets F.slot_str_split (typeIs_str _ _ _) F.entry_str_split (F.args_str_split_2 _ _) (meets_str_split_sep z y t t' h1' hy h2' hz (by rw [<- e]; exact hn)) ?_
    rw [<- e]
    refine⟨.ref _,_,I.laid (o:=.lst ((a3r z y).map V.str)) (t':=s.toks+(a3r z y).length) (fun b u e=>Heap.get?_push_of_some _ e) (Nat.le_refl _) ⟨by rw [List.length_map]; exact hn,strsFrom s.toks (a3r z y),0,f9h _ _,Heap.get?_push_size _ rfl⟩,rfl,q.raw _ fr⟩
noncomputable def i1h(z y:Str):Bool:=!(Builtin.Str.occurrences z y 0 z.length 1).isEmpty
def i9a(neg:Bool):R2:=fun x y H Q=>match y with
 | .str z=>(match x with
  | .str y=>Q (.bl (i1h z y != neg)) H
  | _=>False)
 | .ref p=>(match H p with
  | some (.lst xs)=>c5i x=true/\xs.all c5i=true/\Q (.bl (inV x xs != neg)) H
  | some (.tup xs)=>c5i x=true/\xs.all c5i=true/\Q (.bl (inV x xs != neg)) H
  | _=>False)
 | _=>False
theorem h5a:OpR X (compareOp .In) (i9a false):=by
 intro pins s σ H x y v u Q I rx ry h
 cases y with
 | str z =>
  cases x with
  | str y =>
   have h:Q (.bl (i1h z y != false)) H:=h
   rw [Bool.bne_false] at h
   exact g7x pins s σ H _ _ v u Q I rx ry ⟨y,z,rfl,rfl,h⟩
  | _=>exact False.elim h
 | ref p =>
  have h:(match H p with
   | some (.lst xs)=>c5i x=true/\xs.all c5i=true/\Q (.bl (inV x xs != false)) H
   | some (.tup xs)=>c5i x=true/\xs.all c5i=true/\Q (.bl (inV x xs != false)) H
   | _=>False):=h
  split at h
  ·rename_i xs e
   rw [Bool.bne_false] at h
   exact f8p pins s σ H _ _ v u Q I rx ry ⟨p,xs,rfl,.inl (SqL.of e),h.1,h.2.1,by simpa using h.2.2⟩
  ·rename_i xs e
   rw [Bool.bne_false] at h
   exact f8p pins s σ H _ _ v u Q I rx ry ⟨p,xs,rfl,.inr (SqT.of e),h.1,h.2.1,by simpa using h.2.2⟩
  ·exact h.elim
 | _=>exact False.elim h
theorem f9i:OpR X (compareOp .NotIn) (i9a true):=by
 intro pins s σ H x y v u Q I rx ry h
 cases y with
 | str z =>
  cases x with
  | str y =>
   have h:Q (.bl (i1h z y != true)) H:=h
   rw [Bool.bne_true] at h
   exact f8q pins s σ H _ _ v u Q I rx ry ⟨y,z,rfl,rfl,h⟩
  | _=>exact False.elim h
 | ref p =>
  have h:(match H p with
   | some (.lst xs)=>c5i x=true/\xs.all c5i=true/\Q (.bl (inV x xs != true)) H
   | some (.tup xs)=>c5i x=true/\xs.all c5i=true/\Q (.bl (inV x xs != true)) H
   | _=>False):=h
  split at h
  ·rename_i xs e
   rw [Bool.bne_true] at h
   exact d6w pins s σ H _ _ v u Q I rx ry ⟨p,xs,rfl,.inl (SqL.of e),h.1,h.2.1,by simpa using h.2.2⟩
  ·rename_i xs e
   rw [Bool.bne_true] at h
   exact d6w pins s σ H _ _ v u Q I rx ry ⟨p,xs,rfl,.inr (SqT.of e),h.1,h.2.1,by simpa using h.2.2⟩
  ·exact h.elim
 | _=>exact False.elim h
end
end L2
namespace L2
open PySem PySem.Spec PyProof.Rows
def Wr(H:Hp)(a:Addr)(o:HO)(k:Hp->Prop)(_:Tag k):Prop:=∀ H1,b3v a H H1->H1 a=some o->k H1
section
variable {X:Cx}{e o value:Expr}{f m x:Str}{pos pos' apos:Pos}{ta tv:TE}{t:TA}{C:Addr}{es:List Expr}
def h6v(K:PySem.W.Frag)(ta:TE)(f:Str):TE:=fun σ H Q=>ta σ H fun x H1=>match x with
 | .ref a=>(match H1 a with
  | some (.ins C dx fs)=>Cls K C/\a3y K C f/\(match fs.lookup f with
   | some v=>Q v H1
   | none=>False)
  | _=>False)
 | _=>False
theorem b5i(he:PE X e ta)(hb:attributeBase e f X.env (eval e X.env)=eval e X.env):PE X (.Attribute e f pos) (h6v X.K ta f):=by
 intro pins s σ H Q I h
 refine (h9z he hb) pins s σ H Q I ?_
 unfold i8e
 unfold h6v at h
 have q:(fun (x:V) (H1:Hp)=>(match x with
   | .ref a=>(match H1 a with
    | some (.ins C dx fs)=>Cls X.K C/\a3y X.K C f/\(match fs.lookup f with
     | some v=>Q v H1
     | none=>False)
    | _=>False)
   | _=>False:Prop))=fun x H1=>∃ a C dx fs v,x = .ref a/\H1 a=some (.ins C dx fs)/\Cls X.K C/\a3y X.K C f/\fs.lookup f=some v/\Q v H1:=by
  funext x H1
  refine propext ⟨fun z=>?_,fun⟨a,C,dx,fs,v,e1,e2,c,n,l,q⟩=>?_⟩
  ·cases x with
   | ref a =>
    dsimp only at z
    split at z
    ·rename_i C dx fs e1
     obtain⟨c,n,z⟩:=z
     split at z
     ·rename_i v e2
      exact⟨a,C,dx,fs,v,rfl,e1,c,n,e2,z⟩
     ·exact z.elim
    ·exact z.elim
   | _=>exact False.elim z
  ·subst e1
   dsimp only
   rw [e2]
   dsimp only
   rw [l]
   exact⟨c,n,q⟩
 rw [q] at h
 exact h
def i6k(K:PySem.W.Frag)(ta tv:TE)(f:Str):TS:=fun D σ H=>tv σ H fun y H1=>ta σ H1 fun x H2=>match x with
 | .ref a=>(match H2 a with
  | some (.ins C dx fs)=>Cls K C/\a3y K C f/\fs.length < 1000/\Wr H2 a (.ins C dx (d8m f y fs)) (D.nx σ) ⟨⟩
  | _=>False)
 | _=>False
theorem b4h(ha:PE X o ta)(hv:PE X value tv)(hs:swapsWith value (some (.Attribute o f pos')) pos.line X.env=pure false):PS X (.Assign [.Attribute o f pos'] value pos) (i6k X.K ta tv f):=by
 intro pins s σ H D I h
 refine plainObj_wpAny_Assign_Attribute (thn (hv pins s σ H _ I h) fun u s1 ⟨y,H1,I1,ry,q⟩=>thn (ha pins s1 σ H1 _ I1 q) fun ov s2 ⟨x,H2,I2,rx,z⟩=>?_) hs
 cases x with
 | ref a =>
  obtain rfl:ov=Value.ref a:=rx
  dsimp only at z
  split at z
  ·rename_i C dx fs e1
   obtain⟨c,n,l,k⟩:=z
   exact g5h I2 e1 c n l ry fun s3 I3=>⟨σ,_,I3,k _ b3v.upd a5j⟩
  ·exact z.elim
 | _=>exact False.elim z
end
def d9h(C:Addr)(m:Str)(sp:Sp)(dvs:List V)(E:XK)(ta:TE)(t:TA):TE:=fun σ H Q=>ta σ H fun x H1=>match x with
 | .ref a=>(match H1 a with
  | some (.ins C' dx fs)=>C'=C/\fs.lookup m=none/\t σ H1 fun vs H2=>sp (x :: (vs++dvs)) H2 Q E
  | _=>False)
 | _=>False
section
variable {X:Cx}{CX:CXT}{k:Nat}{f C:Addr}{fd:FuncData}{ps:List Str}{sp:Sp}{dvs:List V}{ds:List Value}{E:XK}{x m:Str}{p pos apos:Pos}{e o:Expr}{es:List Expr}{ta:TE}{t:TA}
theorem a8m{pl:Sem Bool}(he:PE X o ta)(c:Cls X.K C)(hm:Meth X.K C m f)(F:a1g X.prog X.w X.K X.mg X.base CX k f fd ps sp)(hr:a1y k X.A)(hb:Binds X.K fd ps ds)(hd:Vals dvs ds)(hx:Passes CX X E)
  (ht:eval (.Call (.Attribute o m apos) [] [] pos) X.env=(do
   let ov <- eval o X.env
   standAt apos.atName
   let (f,first) <- holding [ov] (getMethod ov m pl)
   callWith pos f first (backTo pos (starEach [] X.env)) (backToKw pos (keywordEach [] X.env))):=by rfl) :
  PE X (.Call (.Attribute o m apos) [] [] pos) (d9h C m sp dvs E ta h1x):=by
 intro pins s σ H Q I h
 refine PySem.W.methodCall_KW (pl:=pl) (thn (he pins s σ H _ I h) fun u s1 ⟨x,H1,I1,rx,z⟩=>?_) ht
 cases x with
 | ref a =>
  obtain rfl:u=Value.ref a:=rx
  dsimp only at z
  split at z
  ·rename_i C' dx fs ea
   obtain⟨rfl,l,q⟩:=z
   refine g5g I1 ea c hm l ?_
   exact PySem.W.callWith_K0 (first:=[.ref a]) I1.kIn hm.kp (g8a (us:=[.ref a]) (vs:=[.ref a]) F hr hb hd hx I1 (.cons rfl .nil) q)
  ·exact z.elim
 | _=>exact False.elim z
def i6l(H:Hp)(C:Addr)(k:Addr->Hp->Prop)(_:Tag k):Prop:=∀ x dx H1,H x=none->H dx=none->dx≠x->Same H H1->H1 dx=some (.own x)->H1 x=some (.ins C dx [])->k x H1
def i1i(x:Addr)(Q:VK):VK:=fun v H2=>v = .non/\Q (.ref x) H2
theorem asNew{x:Addr}{Q:VK}{H2:Hp}{v:V}:i1i x Q v H2=(v = .non/\Q (.ref x) H2):=rfl
def i1j(C:Addr)(sp:Sp)(dvs:List V)(E:XK)(t:TA):TE:=fun σ H Q=>t σ H fun vs H1=>i6l H1 C (fun x H2=>sp (.ref x :: (vs++dvs)) H2 (i1i x Q) E) ⟨⟩
theorem i6l.raw{H:Hp}{C:Addr}{k:Addr->Hp->Prop}{t:Tag k}(h:i6l H C k t):∀ x dx,H x=none->H dx=none->dx≠x->k x (upd (upd H dx (.own x)) x (.ins C dx [])):=fun x dx ex ed ne =>
 h x dx _ ex ed ne ((Same.upd ed).trans (Same.upd (by rw [a4v ne.symm]; exact ex))) (by rw [a4v ne]; exact a5j) a5j
theorem b4i(M:Mk X.K C f)(F:a1g X.prog X.w X.K X.mg X.base CX k f fd ps sp)(hr:a1y (k+1) X.A)(hg:Gl X x)(hm:X.mg x=some (.ref C))(hb:Binds X.K fd ps ds)(hd:Vals dvs ds)(hx:Passes CX X E)
  (ha : PA X (e :: es) t) (hdb : (x == ("__debug__" : Str)) = false := by decide) (he : starEach (e :: es) X.env = (false, eval e X.env) :: starEach es X.env := by rfl) (hpl : (backTo pos (starEach es X.env)).any (·.1) = false := by rfl) :
  PE X (.Call (.Name x p) (e :: es) [] pos) (i1j C sp dvs E t):=by
 intro pins s σ H Q I h
 refine wpAny_Call_Name_kw (c6n I hg hm ?_ hdb)
 refine PySem.W.callWith_K (h₀:=X.base) I.ok.mod.kin M.kp (thn (ha pos pins s σ H _ I h) fun us s1 ⟨vs,H1,I1,r,q⟩=>⟨I1.kIn,?_⟩) he hpl
 exact h1z M F hr hb hd hx I1 r q.raw
end
def i4s(K:PySem.W.Frag)(ta tv:TE)(rd:V->V->Hp->VK->Prop)(f:Str):TS:=fun D σ H=>ta σ H fun x H1=>match x with
 | .ref a=>(match H1 a with
  | some (.ins C dx fs)=>Cls K C/\a3y K C f/\(match fs.lookup f with
   | some v=>tv σ H1 fun y H2=>rd v y H2 fun z H3=>(match H3 a with
    | some (.ins C' dx' fs')=>C'=C/\fs'.length < 1000/\Wr H3 a (.ins C dx' (d8m f z fs')) (D.nx σ) ⟨⟩
    | _=>False)
   | none=>False)
  | _=>False)
 | _=>False
section
variable {X:Cx}{o e value:Expr}{f:Str}{pos pos' tpos:Pos}{ta tv:TE}
end
noncomputable def rInF(g:Int->Int->Int):V->V->Hp->VK->Prop:=fun x y H Q=>match x,y with
 | .int i,.int j=>Q (.int (g i j)) H
 | _,_=>False
def tAugF(i:Nat)(te:TE)(ti:TIp):TS:=fun D σ H=>match σ[i]? with
 | some (some x)=>te σ H fun y H1=>ti x y H1 fun z H2=>D.nx (σ.set i (some z)) H2
 | _=>False
section
variable {X:Cx}{pos:Pos}
end
theorem lookup_same{f:Str}{v:V}{r:List (Str×V)}:List.lookup f ((f,v) :: r)=some v:=by rw [List.lookup_cons,beq_self_eq_true]
theorem i1k{f:Str}{v x:V}{r:List (Str×V)}:d8m f v ((f,x) :: r)=(f,v) :: r:=by rw [d8m,if_pos rfl]
theorem i4t{f:Str}{v:V}:d8m f v [] = [(f,v)]:=rfl
theorem h5b{f g:Str}{v:V}{r:List (Str×V)}(h:(f == g)=false):List.lookup f ((g,v) :: r)=r.lookup f:=by rw [List.lookup_cons,h]
theorem h8v{f g:Str}{v x:V}{r:List (Str×V)}(h:(f == g)=false):d8m f v ((g,x) :: r)=(g,x) :: d8m f v r:=by rw [d8m,if_neg fun e=>by rw [e,beq_self_eq_true] at h; exact Bool.noConfusion h]
theorem noxK{X:Cx}:X.nox.K=X.K:=rfl
end L2
namespace L2
open PySem PySem.Spec PyProof.Rows
structure i1l(k:Nat)(A:Around):Prop where
 dp:A.depth+3*k+5 < recursionLimit
 un:A.units+16*k+200 < cLine
theorem a1y.h{k:Nat}{A:Around}(r:a1y k A):i1l k A:=⟨r.dp,r.un⟩
structure FnOkH(P:Program)(w:World)(K:PySem.W.Frag)(mg:Str->Option Value)(base:Heap)(k:Nat)(f:Addr)(fd:FuncData)(ps:List Str)(sp:Sp):Prop where
 len:∀ vs H Q E,sp vs H Q E->vs.length=ps.length
 run:∀ (A:Around) (outer:List Env) (s:Shared) (H:Hp) (args:Args) (us:List Value) (vs:List V) (Q:VK) (E:XK),i1l k A->h4j P w K mg base A outer s H->BindsTo s fd args (ps.zip us)->Vals vs us->sp vs H Q E ->
  codeAny (model P w) A (.call (.ref f) args) (CR CX0 outer P w H s Q E) s
section
variable {X:Cx}{k:Nat}{f:Addr}{fd:FuncData}{ps:List Str}{sp:Sp}{dvs:List V}{ds:List Value}{x:Str}{p pos:Pos}{e:Expr}{es:List Expr}{t:TA}
end
end L2
namespace L2
open PySem PySem.Spec PyProof.Rows
open PySem.Builtin.Str (occurrences subAt partsBetween strSub)
noncomputable abbrev sg(x:Str):List Nat:=x.cps.toList
theorem a6r{x y:Str}(h:sg x=sg y):x=y:=Str.ext' (by
 have:=congrArg List.toArray h
 simpa using this)
theorem a4p(x y:Str):sg (x++y)=sg x++sg y:=by unfold sg; rw [Str.cps_append]; simp
theorem a3k(x:Str):(sg x).length=x.length:=by simp [Str.length]
theorem f3m{x:Str}{c i:Nat}:StrLaws.At x ⟨#[c]⟩ x.length i ↔ (sg x)[i]? = some c:=StrLaws.subAt_one x c i
theorem d4y{c:Nat}:(⟨#[c]⟩:Str).length=1:=rfl
theorem d9i(x:Str)(i j:Nat):sg (strSub x i j)=((sg x).drop i).take (j - i):=StrLaws.strSub_toList x i j
theorem g8q{x h0 h1:Str}{c:Nat}(h:a3r x ⟨#[c]⟩ = [h0,h1]):sg x=sg h0++c :: sg h1:=by
 unfold a3r at h
 split at h
 ·cases h
 ·split at h
  ·cases h
  ·obtain⟨f,ch⟩:=StrLaws.occ_chain x ⟨#[c]⟩ (x.length+1)
   cases ho:occurrences x ⟨#[c]⟩ 0 x.length (x.length+1) with
   | nil=>rw [ho] at h; simp [partsBetween] at h
   | cons i r =>
    rw [ho] at h ch
    cases r with
    | cons j r=>simp [partsBetween] at h
    | nil =>
     obtain⟨_,ha,_⟩:=ch
     have hi:=f3m.mp ha
     simp only [partsBetween,List.map_cons,List.map_nil,List.cons_append,List.nil_append,List.zip_cons_cons,List.zip_nil_right,List.cons.injEq,and_true] at h
     obtain⟨rfl,rfl⟩:=h
     have hl:i < (sg x).length:=(List.getElem?_eq_some_iff.mp hi).1
     have hc:(sg x)[i]=c:=(List.getElem?_eq_some_iff.mp hi).2
     rw [d9i,d9i,d4y,List.drop_zero,Nat.sub_zero]
     have e1:((sg x).drop (i+1)).take (x.length - (i+1))=(sg x).drop (i+1):=List.take_of_length_le (by rw [List.length_drop,a3k]; exact Nat.le_refl _)
     rw [e1]
     conv=>lhs; rw [<- List.take_append_drop i (sg x),List.drop_eq_getElem_cons hl,hc]
theorem h3a{x:Str}{c:Nat}{a b:List Nat}(hk:c < 128)(h:sg x=a++c :: b)(ha:c∉a)(hb:c∉b):a3r x ⟨#[c]⟩ = [⟨a.toArray⟩,⟨b.toArray⟩]:=by
 have hl:x.length=a.length+(b.length+1):=by rw [<- a3k,h]; simp
 have k1:¬ ((decide (x.length < (⟨#[c]⟩:Str).length) || decide (Builtin.Str.strKind x < Builtin.Str.strKind ⟨#[c]⟩))=true):=by
  have e:Builtin.Str.strKind ⟨#[c]⟩=1:=by
   unfold Builtin.Str.strKind
   rw [if_pos (by simp; omega)]
  have g:1<=Builtin.Str.strKind x:=by
   unfold Builtin.Str.strKind
   split
   ·decide
   ·split <;> decide
  rw [e,d4y]
  simp only [Bool.or_eq_true,decide_eq_true_eq]
  omega
 have only:∀ i,StrLaws.At x ⟨#[c]⟩ x.length i->i=a.length:=by
  intro i hi
  have hi:=f3m.mp hi
  rw [h] at hi
  rcases Nat.lt_trichotomy i a.length with q | q | q
  ·rw [List.getElem?_append_left q] at hi
   exact absurd (List.mem_of_getElem? hi) ha
  ·exact q
  ·rw [List.getElem?_append_right (Nat.le_of_lt q)] at hi
   obtain⟨j,hj⟩:∃ j,i - a.length=j+1:=⟨i - a.length - 1,by omega⟩
   rw [hj,List.getElem?_cons_succ] at hi
   exact absurd (List.mem_of_getElem? hi) hb
 have there:StrLaws.At x ⟨#[c]⟩ x.length a.length:=f3m.mpr (by rw [h,List.getElem?_append_right (Nat.le_refl _),Nat.sub_self]; rfl)
 obtain⟨f,ch⟩:=StrLaws.occ_chain x ⟨#[c]⟩ (x.length+1)
 have ho:occurrences x ⟨#[c]⟩ 0 x.length (x.length+1) = [a.length]:=by
  rcases StrLaws.occ_head x ⟨#[c]⟩ (x.length+1) (by omega) with ⟨h0,hn⟩ | ⟨i,r,h0,hi,hn⟩
  ·exact absurd there (hn _)
  ·rw [h0] at ch ⊢
   have e:=only i hi
   subst e
   cases r with
   | nil=>rfl
   | cons j r =>
    obtain⟨_,_,q1,q2,_⟩:=ch
    have:=only j q2
    rw [d4y] at q1
    omega
 unfold a3r
 rw [if_neg k1,ho,if_neg (by simp)]
 simp only [partsBetween,List.map_cons,List.map_nil,List.cons_append,List.nil_append,List.zip_cons_cons,List.zip_nil_right,List.cons.injEq,and_true]
 constructor
 ·refine a6r ?_
  rw [d9i,h]
  simp
 ·refine a6r ?_
  rw [d9i,d4y,h,hl]
  have e:(a++c :: b).drop (a.length+1)=b:=by rw [List.drop_append]; simp
  rw [e,List.take_of_length_le (by omega)]
theorem split_le(x:Str)(c:Nat):(a3r x ⟨#[c]⟩).length<=x.length+2:=by
 unfold a3r
 split
 ·simp
 ·split
  ·simp
  ·have:=StrLaws.occ_length_le x ⟨#[c]⟩ 0 x.length (x.length+1)
   rw [length_partsBetween]
   omega
open PySem.NumText (AllDigits digitsVal digitsVal_snoc)
noncomputable def dg(n:Nat):List Nat:=(Nat.toDigits 10 n).map Char.toNat
theorem c8o(n:Nat):digitsVal (dg n)=n:=PySem.W.KIN.val_back n
theorem f2n{n:Nat}(h:n < 10):dg n = [n+48]:=by
 have:∀ d,d < 10->dg d = [d+48]:=by decide
 exact this n h
theorem d4z{m c:Nat}(hm:0 < m)(hc:c < 10):dg (10*m+c)=dg m++[c+48]:=by
 have t:Nat.toDigits 10 m++Nat.toDigits 10 c=Nat.toDigits 10 (10*m+c):=Nat.toDigits_append_toDigits (by decide) hm hc
 unfold dg
 rw [<- t,List.map_append]
 have:=f2n hc
 unfold dg at this
 rw [this]
theorem g5r(n:Nat):dg n≠[]:=by
 by_cases h:n < 10
 ·rw [f2n h]; simp
 ·have e:n=10*(n / 10)+n % 10:=by omega
  rw [e,d4z (by omega) (by omega)]
  simp
theorem c3k(n:Nat):AllDigits (dg n):=by
 induction n using Nat.strongRecOn with
 | _ n ih =>
  by_cases h:n < 10
  ·rw [f2n h]
   intro c hc
   simp at hc
   omega
  ·have e:n=10*(n / 10)+n % 10:=by omega
   rw [e,d4z (by omega) (by omega)]
   intro c hc
   rcases List.mem_append.mp hc with q | q
   ·exact ih (n / 10) (by omega) c q
   ·simp at q
    omega
theorem g8r{n:Nat}(h:0 < n):∃ c r,dg n=c :: r/\c≠48:=by
 induction n using Nat.strongRecOn with
 | _ n ih =>
  by_cases q:n < 10
  ·exact⟨n+48,[],f2n q,by omega⟩
  ·obtain⟨c,r,e,hc⟩:=ih (n / 10) (by omega) (by omega)
   have e2:n=10*(n / 10)+n % 10:=by omega
   refine⟨c,r++[n % 10+48],?_,hc⟩
   conv=>lhs; rw [e2]
   rw [d4z (by omega) (by omega),e]
   rfl
def Canon(ds:List Nat):Prop:=AllDigits ds/\ds≠[]/\∀ r,ds=48 :: r->r = []
theorem h3b(n:Nat):Canon (dg n):=by
 refine⟨c3k n,g5r n,fun r e=>?_⟩
 by_cases h:0 < n
 ·obtain⟨c,r',e',hc⟩:=g8r h
  rw [e'] at e
  cases e
  exact absurd rfl hc
 ·have:n=0:=by omega
  subst this
  rw [f2n (by decide)] at e
  cases e
  rfl
theorem g5s{ds:List Nat}(h:Canon ds):dg (digitsVal ds)=ds:=by
 generalize hn:ds.length=n
 induction n generalizing ds with
 | zero=>exact absurd (List.length_eq_zero_iff.mp hn) h.2.1
 | succ n ih =>
  obtain⟨hd,hne,hl⟩:=h
  have e:ds=ds.dropLast++[ds.getLast hne]:=(List.dropLast_concat_getLast hne).symm
  generalize ds.dropLast=cs at e
  generalize ds.getLast hne=c at e
  subst e
  have hc:=hd c (by simp)
  rw [digitsVal_snoc]
  by_cases q:cs = []
  ·subst q
   show dg (0*10+(c - 48))=_
   rw [f2n (by omega)]
   simp
   omega
  ·have k:Canon cs:=by
    refine⟨fun d hd'=>hd d (by simp [hd']),q,fun r er=>?_⟩
    subst er
    have:=hl (r++[c]) (by simp)
    simp at this
   have e:=ih k (by simp at hn; exact hn)
   have pos:0 < digitsVal cs:=by
    rcases Nat.eq_zero_or_pos (digitsVal cs) with z | z
    ·rw [z,f2n (by decide)] at e
     have e':cs = [48]:=e.symm
     subst e'
     have:=hl [c] (by simp)
     simp at this
    ·exact z
   rw [Nat.mul_comm,d4z pos (by omega),e]
   congr 2
   omega
theorem g3p:∀ {ds:List Nat},AllDigits ds->digitsVal ds < 10 ^ ds.length:=by
 intro ds
 generalize hn:ds.length=n
 induction n generalizing ds with
 | zero=>intro _; rw [List.length_eq_zero_iff.mp hn]; decide
 | succ n ih =>
  intro hd
  have hne:ds≠[]:=fun e=>by rw [e] at hn; cases hn
  have e:ds=ds.dropLast++[ds.getLast hne]:=(List.dropLast_concat_getLast hne).symm
  generalize ds.dropLast=cs at e
  generalize ds.getLast hne=c at e
  subst e
  have hc:=hd c (by simp)
  have:=ih (ds:=cs) (by simp at hn; exact hn) fun d hd'=>hd d (by simp [hd'])
  rw [digitsVal_snoc,Nat.pow_succ]
  omega
noncomputable def txt(t:Int):List Nat:=if t < 0 then 45 :: dg t.natAbs else dg t.natAbs
theorem c8h(t:Int):sg (Str.ofString (toString t))=txt t:=by
 unfold txt
 match t with
 | .ofNat m=>exact PySem.W.KIN.signs_num m
 | .negSucc m =>
  rw [if_pos (Int.negSucc_lt_zero m)]
  unfold sg
  rw [signs_ofString]
  show (("-" ++ Nat.repr (m + 1)).toList.map Char.toNat) = _
  rw [String.toList_append,List.map_append,Nat.toList_repr]
  rfl
theorem d0m{x:Str}{t:Int}(h:sg x=txt t)(hl:x.length<=4300):PySem.intText? x=some t:=by
 unfold txt at h
 split at h
 ·rename_i ht
  have:=intText_neg h (c3k _) (g5r _) hl
  rw [c8o] at this
  rw [this]
  congr 1
  omega
 ·rename_i ht
  have:=intText_digits (x:=x) (by rw [show x.cps.toList=sg x from rfl,h]; exact c3k _) (by rw [show x.cps.toList=sg x from rfl,h]; exact g5r _) hl
  rw [show x.cps.toList=sg x from rfl,h,c8o] at this
  rw [this]
  congr 1
  omega
theorem i1m(n:Nat):(dg n).length<=n.log2+1:=by
 induction n using Nat.strongRecOn with
 | _ n ih =>
  by_cases h:n < 10
  ·rw [f2n h]; simp
  ·have e:n=10*(n / 10)+n % 10:=by omega
   have i:=ih (n / 10) (by omega)
   have k:(n / 10).log2+1<=n.log2:=by
    rw [Nat.le_log2 (by omega),Nat.pow_succ]
    have:=Nat.log2_self_le (n:=n / 10) (by omega)
    omega
   have z:=d4z (m:=n / 10) (c:=n % 10) (by omega) (by omega)
   rw [<- e] at z
   rw [z]
   rw [List.length_append]
   simp only [List.length_cons,List.length_nil]
   omega
theorem g1h(t:Int):(txt t).length<=t.natAbs.log2+2:=by
 have:=i1m t.natAbs
 unfold txt
 split
 ·rw [List.length_cons]; omega
 ·omega
noncomputable def g1i(t b:Int):List Nat:=txt t++47 :: txt b
structure Good(x:List Nat)(t b:Int):Prop where
 eq:x=g1i t b
 pos:0 < b
 low:Int.gcd t b=1
 l1:(dg t.natAbs).length<=9
 l2:(dg b.natAbs).length<=9
noncomputable def f2o(l:List Nat):Bool:=l.all (fun c=>decide (48<=c) && decide (c<=57)) && !l.isEmpty
theorem c0g{l:List Nat}:f2o l=true ↔ AllDigits l/\l≠[]:=by
 unfold f2o AllDigits
 simp
theorem g8s (c : Nat) : i1h "0123456789" ⟨#[c]⟩ = (decide (48 ≤ c) && decide (c ≤ 57)) := by
 unfold i1h
 rw [StrLaws.found_one]
 have e : (Str.ofString "0123456789").cps.toList = [48, 49, 50, 51, 52, 53, 54, 55, 56, 57] := by decide +kernel
 rw [e]
 by_cases h:48<=c/\c<=57
 ·rw [show (decide (48<=c) && decide (c<=57))=true by simp [h]]
  rw [decide_eq_true_eq]
  simp
  omega
 ·rw [show (decide (48<=c) && decide (c<=57))=false by simp; omega]
  rw [decide_eq_false_iff_not]
  simp
  omega
theorem c2i{t:Int}{c:Nat}(h1:c≠45)(h2:c < 48\/57 < c):c∉txt t:=by
 unfold txt
 intro h
 split at h
 ·rcases List.mem_cons.mp h with q | q
  ·exact h1 q
  ·have:=c3k _ c q; omega
 ·have:=c3k _ c h; omega
theorem i1n(t:Int):(txt t).length<=(dg t.natAbs).length+1:=by
 unfold txt
 split
 ·rw [List.length_cons]; exact Nat.le_refl _
 ·exact Nat.le_succ _
theorem g3q(x:Str)(c:Nat):Txt.startswith x ⟨#[c]⟩=decide ((sg x)[0]? = some c):=by
 unfold Txt.startswith
 rw [Bool.eq_iff_iff,Bool.and_eq_true,decide_eq_true_eq,decide_eq_true_eq]
 exact StrLaws.subAt_one x c 0
theorem i1o{x:Str}{t:Int}(h:sg x=txt t):Txt.startswith x ⟨#[45]⟩=decide (t < 0):=by
 rw [g3q,h]
 unfold txt
 split
 ·rename_i q
  simp [q]
 ·rename_i q
  rw [decide_eq_false q,decide_eq_false_iff_not]
  intro e
  have:=c3k _ 45 (List.mem_of_getElem? e)
  omega
theorem f5s{x:Str}{i:Nat}(h:i<=x.length):sg (Txt.slice x (some (i:Int)) none)=(sg x).drop i:=by
 rw [slice_from_eq (b:=(x.length:Int)) (by omega) (by omega) rfl]
 simp only [sg,Int.toNat_natCast]
 rw [List.take_of_length_le]
 rw [List.length_drop]
 have:=a3k x
 unfold sg at this
 omega
theorem h6w{x:Str}{j:Nat}(hj:j<=x.length):sg (Txt.slice x none (some (j:Int)))=(sg x).take j:=by
 have e:=slice_closes_to (x:=x) (j:=(j:Int)) ⟨by omega,by rw [show x.cps.toList=sg x from rfl,a3k]; omega⟩
 rw [beq_iff_eq.mp e]
 simp [sg]
end L2
namespace L2
open PySem PySem.Spec PyProof.Rows
section
variable {X:Cx}
noncomputable def i1p(K:PySem.W.Frag):List V->Hp->VK->Prop:=fun xs H Q=>match xs with
 | [.ref p]=>(match H p with
  | some (.lst ys)=>New H (.tup ys) Q ⟨⟩
  | some (.tup ys)=>Q (.ref p) H
  | _=>False)
 | _=>False
theorem d9j : c8j X (.type "tuple") (i1p X.K) := f5m.weak fun xs H Q h => by
 match xs,h with
 | [.ref p],h =>
  unfold i1p at h
  dsimp only at h
  split at h
  ·rename_i ys e
   exact⟨p,ys,rfl,.inl ⟨SqL.of e,h.raw⟩⟩
  ·rename_i ys e
   exact⟨p,ys,rfl,.inr ⟨SqT.of e,h⟩⟩
  ·exact h.elim
end
section
variable {X:Cx}
structure InsQ(K:PySem.W.Frag)(C:Addr):Prop where
 ha : PySem.W.findIn K (.ref C) "__class__" = some (some (.builtin "object.__class__"))
 hn : PySem.W.specialIn K (.builtin "object.__class__") "__get__" = some (some (.builtin "getset_descriptor.__get__"))
 htk : PySem.W.takesIn K (.builtin "object.__class__") = some true
 hm : PySem.W.mroIn K C (.type "object") = some true
noncomputable def rIsI(K:PySem.W.Frag):List V->Hp->VK->Prop:=fun xs H Q=>match xs with
 | [.ref a,.ref D]=>(match H a with
  | some (.ins C dx fs)=>Cls K C/\InsQ K C/\(match PySem.W.kitOne K (.ref C) (.ref D) with
   | some b=>Q (.bl b) H
   | none=>False)
  | _=>False)
 | _=>False
end
section
variable {X:Cx}{pos:Pos}
noncomputable def i6m:List V->Hp->VK->Prop:=fun xs H Q=>match xs with
 | [.int i,.int j]=>(0 < j/\j < 1073741824)/\New H (.tup [.int (i / j),.int (i % j)]) Q ⟨⟩
 | _=>False
noncomputable def i1q:TGs:=fun vs σ H Q=>match vs with
 | []=>Q σ H
 | _=>False
def h5c(t:TG)(u:TGs):TGs:=fun vs σ H Q=>match vs with
 | v :: r=>t v σ H fun σ' H'=>u r σ' H' Q
 | _=>False
def i1r(n:Nat)(t:TGs):TG:=fun v σ H Q=>match v with
 | .ref a=>(match H a with
  | some (.tup xs)=>xs.length=n/\t xs σ H Q
  | _=>False)
 | _=>False
theorem d2y:PGs X [] i1q:=by
 intro pins s σ H vs us Q I r h
 refine g7o pins s σ H vs us Q I r ?_
 unfold i1q at h
 split at h
 ·exact⟨rfl,h⟩
 ·exact h.elim
theorem a8n{e:Expr}{es:List Expr}{t:TG}{u:TGs}(h1:PG X e t)(h2:PGs X es u)
  (hs:(assignEach (e :: es) X.env).map (·.2)=assign e X.env :: (assignEach es X.env).map (·.2):=by rfl):PGs X (e :: es) (h5c t u):=by
 intro pins s σ H vs us Q I r h
 refine f5j h1 h2 hs pins s σ H vs us Q I r ?_
 unfold h5c at h
 split at h
 ·exact⟨_,_,rfl,h⟩
 ·exact h.elim
theorem d9k{es:List Expr}{k:Nat}{t:TGs}{n:Nat}(hc:X.calm=true)(h:PGs X es t)
  (hn:(assignEach es X.env).length=n:=by rfl) (hst:(assignEach es X.env).findIdx? (·.1)=none:=by rfl):PG X (.Tuple es k pos) (i1r n t):=by
 intro pins s σ H v u Q I r hw
 refine h4f hc h hn hst pins s σ H v u Q I r ?_
 unfold i1r at hw
 cases v with
 | ref a =>
  dsimp only at hw
  split at hw
  ·rename_i xs e
   exact⟨a,xs,rfl,SqT.of e,hw.1,hw.2⟩
  ·exact hw.elim
 | _=>exact False.elim hw
end
end L2
namespace L2
open PySem PySem.Spec PyProof.Rows
section
variable {X:Cx}{scope:Scope}{x:Str}{pins:List (Addr×Obj)}{σ:St}{elt iter cnd:Expr}{px pos:Pos}{wi:TI}{te:TE}{tc:TT}
end
section
variable {X:Cx}{k:Nat}{f C:Addr}{fd:FuncData}{ps:List Str}{sp:Sp}{dvs:List V}{ds:List Value}{E:XK}{x m:Str}{p pos apos:Pos}{e o:Expr}{es:List Expr}{ta:TE}{t:TA}
end
end L2
namespace L2
open PySem PySem.Spec PyProof.Rows
section
variable {X:Cx}
end
section
variable {prog:Program}{w:World}{A:Around}{E:Value->Shared->Prop}{s:Shared}
end
noncomputable def rSetM:V->V->V->Hp->(Hp->Prop)->Prop:=fun o i v H Q=>match o,i with
 | .ref p,.int k=>(match H p with
  | some (.lst xs)=>(0<=k/\k < xs.length)/\∀ H1,b3v p H H1->H1 p=some (.lst (xs.set k.toNat v))->Q H1
  | _=>False)
 | _,_=>False
theorem g3r{K:PySem.W.Frag}{a D:Addr}{xs:List V}{te:TE}{σ:St}{H0 H:Hp}{Q:VK}(zs:List V)(hz:zs.length=xs.length)(n0:H0 D=none)(S:Same H0 H)(hD:H D=some (.lst []))(hS:SqL K H0 a xs)(hsz:xs.length<=sizeLine)
  (hs:∀ (i:Nat) x z H' (Q':VK),xs[i]? = some x->zs[i]? = some z->Same H0 H'->Q' z H'->te (some x :: σ) H' Q') (q:∀ H',Same H0 H'->H' D=some (.lst zs)->Q (.ref D) H'):f5o (Itl K a) te D σ H Q ⟨⟩:=by
 refine d4v (fun i ys H'=>Same H0 H'/\H' D=some (.lst ys)/\ys=zs.take i) ⟨S,hD,by simp⟩ hsz (fun i ys H' hi p=>?_) (fun i x ys H' hx p=>?_) (fun ys H' p=>?_)
 ·refine⟨p.2.1,p.1.seq hS,?_⟩
  rw [p.2.2,List.length_take]
  omega
 ·have hi:i < zs.length:=by rw [hz]; exact (List.getElem?_eq_some_iff.mp hx).1
  have hzi:zs[i]? = some zs[i]:=List.getElem?_eq_getElem hi
  refine hs i x _ H' _ hx hzi p.1 ⟨p.2.1,fun H3 s3 h3=>⟨p.1.step n0 s3,h3,?_⟩⟩
  rw [p.2.2,List.take_add_one,hzi]
  rfl
 ·refine q H' p.1 ?_
  rw [p.2.1,p.2.2,<- hz,List.take_length]
end L2
namespace L2
open PySem PySem.Spec PyProof.Rows
section
variable {X:Cx}{pins:List (Addr×Obj)}{σ:St}{H:Hp}{s:Shared}
theorem Inv.g8t{t':Nat}{h':Heap}{fp:List Addr}(I:Inv X pins σ H s)(k:∀ b o,b∉fp->s.heap.get? b=some o->h'.get? b=some o)(hf:∀ b∈fp,d7s X pins H b):Inv X pins σ H { s with heap:=h',toks:=t' }:=by
 have nit:∀ b u,H b=some u->b∉fp:=fun b u e z=>by rw [(hf b z).1] at e; cases e
 refine I.call' (s':={ s with heap:=h',toks:=t' }) (ch:=fp) rfl ⟨fun b o e n hb hx=>k b o hx e,fun b o e n hb hx=>⟨o.slots,k b o hx e⟩,fun _ _ _ n _=>n,fun b o e hx=>⟨o,k b o hx e⟩,fun _ _ q=>q,fun _ _ _ q=>q,fun _ ps q=>⟨#[],by rw [q]; simp⟩⟩ ?_ I.bare fun b hb=>⟨(hf b hb).2.2.2.1,(hf b hb).2.1,(hf b hb).2.2.2.2.1,(hf b hb).2.2.2.2.2⟩
 intro b u e
 refine (I.hok b u e).stay (fun c v hc q=>k c v ?_ q) (fun _ q=>q) fun _ _ q=>q
 rcases hc with z | z
 ·rw [z]; exact nit b u e
 ·exact nit c _ z
end
def ItB (b : Bool) (h : Heap) (it l : Addr) (i : Nat) : Prop := ∃ o, h.get? it = some o ∧ o.cls = .type (cond b "list_iterator" "tuple_iterator") ∧ o.data = .fields #[.ref l, .int i 0]
def SqB (b : Bool) (h : Heap) (l : Addr) (items : Array Value) : Prop := ∃ o, h.get? l = some o ∧ o.cls = .type (cond b "list" "tuple") ∧ ∃ n, o.data = .seq items n
theorem ItB.at{b:Bool}{h h':Heap}{it l:Addr}{i:Nat}(x:ItB b h it l i)(k:∀ o,h.get? it=some o->h'.get? it=some o):ItB b h' it l i:=let ⟨o,e,r⟩:=x; ⟨o,k o e,r⟩
theorem SqB.at{b:Bool}{h h':Heap}{l:Addr}{items:Array Value}(x:SqB b h l items)(k:∀ o,h.get? l=some o->h'.get? l=some o):SqB b h' l items:=let ⟨o,e,r⟩:=x; ⟨o,k o e,r⟩
section
variable {prog:Program}{w:World}{A:Around}{E:Value->Shared->Prop}{s:Shared}
theorem g1j{it t:Addr}{i:Nat}{items:Array Value}{x:Value}{Q:Value->Shared->Prop}(hit:s.heap.IsTupleIter it t i)(ht:s.heap.IsTuple t items)(hx:items[i]? = some x)
  (hQ:∀ h',h'.IsTupleIter it t (i+1)->Heap.SameBut it s.heap h'->Q x { s with heap:=h' }):wpAny (model prog w) A (Builtin.SmallTypes.nextOf (.ref it)) Q E s:=by
 obtain⟨o,ho,hc,hd⟩:=id hit
 obtain⟨ol,hol,_,nl,hdl⟩:=ht
 unfold Builtin.SmallTypes.nextOf
 refine wpAny_bind (wpAny_callSpecial?_slot (name := Str.ofString "__next__") hit.typeIs F.slot_tuple_iterator_next
  (wpAny_call_entry F.slot_tuple_iterator_next hit.typeIs F.entry_tuple_iterator_next ?_ (F.args_tuple_iterator_next_1 _)))
 show wpAny _ _ (field (.ref it) 0 >>= _) _ _ s
 refine wpAny_bind (wpAny_field ho hd (x:=.ref t) rfl ?_)
 show wpAny _ _ (if (Value.ref t == Value.none)=true then _ else _) _ _ s
 rw [if_neg (show ¬ ((Value.ref t == Value.none)=true) from Bool.false_ne_true)]
 show wpAny _ _ (field (.ref it) 1 >>= _) _ _ s
 refine wpAny_bind (wpAny_field ho hd (x:=.int i 0) rfl ?_)
 show wpAny _ _ (seqItems? (.ref t) >>= _) _ _ s
 refine wpAny_bind (wpAny_seqItems hol hdl ?_)
 simp only [Int.toNat_natCast,hx]
 refine wpAny_bind (wpAny_setField ho hd (by simp) (wpAny_pure ⟨x,rfl,wpAny_pure (hQ _ ?_ (Heap.SameBut.update ..))⟩))
 exact⟨_,Heap.get?_update_self _ ho (Obj.isFreed_of_fields (Obj.data_mapFields hd _)),(Obj.cls_mapFields ..).trans hc,by
  rw [Obj.data_mapFields hd]; simp [rawInt]⟩
theorem g5t{it t:Addr}{i:Nat}{items:Array Value}{Q:Value->Shared->Prop}(hh:A.handled=none)(hit:s.heap.IsTupleIter it t i)(ht:s.heap.IsTuple t items)(hx:items[i]? = none)
  (hE : ∀ h' e, Heap.ExtBut it s.heap h' → (∃ o, h'.get? e = some o ∧ o.cls = .type "StopIteration") → E (.ref e) { s with heap := h' }) : wpAny (model prog w) A (Builtin.SmallTypes.nextOf (.ref it)) Q E s := by
 obtain⟨o,ho,hc,hd⟩:=id hit
 obtain⟨ol,hol,_,nl,hdl⟩:=ht
 unfold Builtin.SmallTypes.nextOf
 refine wpAny_bind (wpAny_callSpecial?_slot (name := Str.ofString "__next__") hit.typeIs F.slot_tuple_iterator_next
  (wpAny_call_entry F.slot_tuple_iterator_next hit.typeIs F.entry_tuple_iterator_next ?_ (F.args_tuple_iterator_next_1 _)))
 show wpAny _ _ (field (.ref it) 0 >>= _) _ _ s
 refine wpAny_bind (wpAny_field ho hd (x:=.ref t) rfl ?_)
 show wpAny _ _ (if (Value.ref t == Value.none)=true then _ else _) _ _ s
 rw [if_neg (show ¬ ((Value.ref t == Value.none)=true) from Bool.false_ne_true)]
 show wpAny _ _ (field (.ref it) 1 >>= _) _ _ s
 refine wpAny_bind (wpAny_field ho hd (x:=.int i 0) rfl ?_)
 show wpAny _ _ (seqItems? (.ref t) >>= _) _ _ s
 refine wpAny_bind (wpAny_seqItems hol hdl ?_)
 simp only [Int.toNat_natCast,hx]
 refine wpAny_bind (wpAny_rule (wpAny_bind (wpAny_setField ho hd (by simp) ?_)))
 show wpAny _ _ (newExc (.type "StopIteration") [] >>= _) _ _ _
 refine wpAny_bind ?_
 simp only [newExc,newTuple]
 refine wpAny_bind (wpAny_newObj_type ?_ (by size_fits))
 refine wpAny_bind (m:=firstArgMember _ _) (wpAny_of_eq (a:=Value.none) (by first | rfl | (simp only [firstArgMember]; rfl)) ?_)
 refine wpAny_newObj_type ?_ (by size_fits)
 simp only [raiseNew]
 refine wpAny_bind (wpAny_handled ?_)
 first | rw [show A.in1.handled=none from hh] | rw [hh]
 refine wpAny_bind (wpAny_pure (wpAny_throw ?_))
 exact hE _ _ (((Heap.SameBut.update ..).extBut.push _).push _) ⟨_,Heap.get?_push_size _ rfl,rfl⟩
theorem g1k{b:Bool}{it l:Addr}{i:Nat}{items:Array Value}{x:Value}{Q:Value->Shared->Prop}(hit:ItB b s.heap it l i)(hl:SqB b s.heap l items)(hx:items[i]? = some x)
  (hQ:∀ h',ItB b h' it l (i+1)->Heap.SameBut it s.heap h'->Q x { s with heap:=h' }):wpAny (model prog w) A (Builtin.SmallTypes.nextOf (.ref it)) Q E s:=by
 cases b with
 | true=>exact wpAny_nextOf_list_item hit hl hx hQ
 | false=>exact g1j hit hl hx hQ
theorem h5d{b:Bool}{it l:Addr}{i:Nat}{items:Array Value}{Q:Value->Shared->Prop}(hh:A.handled=none)(hit:ItB b s.heap it l i)(hl:SqB b s.heap l items)(hx:items[i]? = none)
  (hE : ∀ h' e, Heap.ExtBut it s.heap h' → (∃ o, h'.get? e = some o ∧ o.cls = .type "StopIteration") → E (.ref e) { s with heap := h' }) : wpAny (model prog w) A (Builtin.SmallTypes.nextOf (.ref it)) Q E s := by
 cases b with
 | true=>exact wpAny_nextOf_list_end hh hit hl hx hE
 | false=>exact g5t hh hit hl hx hE
noncomputable def itO (b : Bool) (l : Addr) : Obj := { cls := .type (cond b "list_iterator" "tuple_iterator"), data := .fields #[.ref l, .int 0 0] }
theorem i1s{b:Bool}{l:Addr}{items:Array Value}{Q:Value->Shared->Prop}(hl:SqB b s.heap l items)(hQ:Q (.ref s.heap.objs.size) { s with heap:=s.heap.push (itO b l) }):wpAny (model prog w) A (pyIter (.ref l)) Q E s:=by
 cases b with
 | true=>exact wpAny_pyIter_list hl hQ
 | false=>exact wpAny_pyIter_tuple hl hQ
theorem g8u{b1 b2:Bool}{z TI TO i1 i2 l1 l2:Addr}{k:Nat}{xs ys:Array Value}{x y a b:Value}{Q:Option Value->Shared->Prop}(D:ZipApart z TI TO i1 i2 l1 l2)
  (hz:IsZip s.heap z TI TO .none) (hTI:IsPair s.heap TI (.ref i1) (.ref i2)) (hTO:IsPair s.heap TO a b)
  (h1:ItB b1 s.heap i1 l1 k) (h2:ItB b2 s.heap i2 l2 k) (hl1:SqB b1 s.heap l1 xs) (hl2:SqB b2 s.heap l2 ys) (hx:xs[k]? = some x) (hy:ys[k]? = some y)
  (hQ:∀ h',IsZip h' z TI TO (rawInt s.heap.objs.size)->IsPair h' TO x y->ItB b1 h' i1 l1 (k+1)->ItB b2 h' i2 l2 (k+1)->IsPair h' s.heap.objs.size x y ->
   (∀ c o,c≠z->c≠TO->c≠i1->c≠i2->s.heap.get? c=some o->h'.get? c=some o)->Q (some (.ref s.heap.objs.size)) { s with heap:=h' }) :
  wpAny (model prog w) A (pyNext (.ref z)) Q E s:=by
 have hT : s.TypeIs (.ref z) "zip" := ⟨_, hz, rfl⟩
 unfold pyNext
 refine wpAny_bind (wpAny_attempt (wpAny_callSpecial?_slot (name := Str.ofString "__next__") hT F.slot_zip_next (wpAny_call_entry F.slot_zip_next hT F.entry_zip_next ?_ (F.args_zip_next_1 _))))
 show wpAny _ _ (field (.ref z) 2 >>= _) _ _ _
 refine wpAny_bind (wpAny_field hz rfl (x:=.bool false) rfl ?_)
 show wpAny _ _ (field (.ref z) 3 >>= _) _ _ _
 refine wpAny_bind (wpAny_field hz rfl (x:=.ref TI) rfl ?_)
 refine wpAny_bind (wpAny_seqItems hTI rfl ?_)
 show wpAny _ _ (Builtin.SmallTypes.ownedTupleIsFree (.ref z) >>= _) _ _ _
 refine wpAny_bind ?_
 unfold Builtin.SmallTypes.ownedTupleIsFree
 refine wpAny_bind (wpAny_field hz rfl (x:=.none) rfl (wpAny_pure ?_))
 simp only [if_true]
 refine wpAny_bind (wpAny_rule ?_)
 refine wpAny_bind (wpAny_field hz rfl (x:=.ref TO) rfl ?_)
 refine wpAny_bind (wpAny_setField_rec hz (by simp) fun g1 hz1 s1=>?_)
 replace hz1:IsZip g1 z TI TO .ellipsis:=hz1
 refine wpAny_bind ?_
 simp only [List.zipIdx_cons,List.zipIdx_nil,List.forIn_cons,List.forIn_nil]
 refine wpAny_bind (wpAny_bind (wpAny_onRaise ?_))
 show wpAny _ _ (Builtin.SmallTypes.nextOf (.ref i1) >>= _) _ _ _
 refine wpAny_bind (g1k (h1.at fun o e=>s1.extBut _ _ D.i1z e) (hl1.at fun o e=>s1.extBut _ _ D.l1z e) hx fun g2 h12 s2=>wpAny_pure ?_)
 have i1t:IsPair g2 TO a b:=s2.extBut _ _ D.TOi1 (s1.extBut _ _ D.TOz hTO)
 refine wpAny_bind (wpAny_seqItems i1t rfl ?_)
 refine wpAny_bind (wpAny_updateSeq_pair i1t fun g3 hTO3 s3=>?_)
 replace hTO3:IsPair g3 TO x b:=hTO3
 refine wpAny_bind (wpAny_letGo (wpAny_pure ?_))
 refine wpAny_bind (wpAny_bind (wpAny_onRaise ?_))
 show wpAny _ _ (Builtin.SmallTypes.nextOf (.ref i2) >>= _) _ _ _
 refine wpAny_bind (g1k (h2.at fun o e=>s3.extBut _ _ D.TOi2.symm (s2.extBut _ _ D.i12.symm (s1.extBut _ _ D.i2z e))) (hl2.at fun o e=>s3.extBut _ _ D.l2TO (s2.extBut _ _ D.l2i1 (s1.extBut _ _ D.l2z e))) hy fun g4 h24 s4=>wpAny_pure ?_)
 have i9b:IsPair g4 TO x b:=s4.extBut _ _ D.TOi2 hTO3
 refine wpAny_bind (wpAny_seqItems i9b rfl ?_)
 refine wpAny_bind (wpAny_updateSeq_pair i9b fun g5 hTO5 s5=>?_)
 replace hTO5:IsPair g5 TO x y:=hTO5
 refine wpAny_bind (wpAny_letGo (wpAny_pure (wpAny_pure ?_)))
 refine wpAny_bind (wpAny_seqItems hTO5 rfl ?_)
 refine wpAny_bind (wpAny_newTuple ?_)
 have hsz:g5.objs.size=s.heap.objs.size:=by rw [s5.1,s4.1,s3.1,s2.1,s1.1]
 have hz5:IsZip g5 z TI TO .ellipsis:=s5.extBut _ _ D.TOz.symm (s4.extBut _ _ D.i2z.symm (s3.extBut _ _ D.TOz.symm (s2.extBut _ _ D.i1z.symm hz1)))
 have h15:ItB b1 g5 i1 l1 (k+1):=h12.at fun o e=>s5.extBut _ _ D.TOi1.symm (s4.extBut _ _ D.i12 (s3.extBut _ _ D.TOi1.symm e))
 have h25:ItB b2 g5 i2 l2 (k+1):=h24.at fun o e=>s5.extBut _ _ D.TOi2.symm e
 have hzlt:z < g5.objs.size:=Heap.lt_size hz5
 show wpAny _ _ (Builtin.SmallTypes.ownedTupleHandOut (.ref z) (.ref g5.objs.size) >>= _) _ _ _
 refine wpAny_bind ?_
 unfold Builtin.SmallTypes.ownedTupleHandOut
 have hz6 : IsZip (g5.push { cls := .type "tuple", data := .seq #[x, y] }) z TI TO .ellipsis := Heap.get?_push_of_some _ hz5
 refine wpAny_bind (wpAny_setField_rec hz6 (by simp) fun g7 hz7 s7=>?_)
 replace hz7:IsZip g7 z TI TO (rawInt g5.objs.size):=hz7
 refine wpAny_setField_rec hz7 (by simp) fun g8 hz8 s8=>?_
 replace hz8:IsZip g8 z TI TO (rawInt g5.objs.size):=hz8
 have up:∀ c o,c≠z->g5.get? c=some o->g8.get? c=some o:=fun c o c1 e=>s8.extBut _ _ c1 (s7.extBut _ _ c1 (Heap.get?_push_of_some _ e))
 have hT8:IsPair g8 g5.objs.size x y:=s8.extBut _ _ (Nat.ne_of_gt hzlt) (s7.extBut _ _ (Nat.ne_of_gt hzlt) (Heap.get?_push_size _ rfl))
 rw [hsz] at hz8 hT8
 refine wpAny_pure ⟨_,rfl,wpAny_pure ?_⟩
 show Q (some (.ref g5.objs.size)) _
 rw [hsz]
 exact hQ g8 hz8 (up _ _ D.TOz hTO5) (h15.at fun o e=>up _ o D.i1z e) (h25.at fun o e=>up _ o D.i2z e) hT8 fun c o c1 c2 c3 c4 e =>
  up c o c1 (s5.extBut _ _ c2 (s4.extBut _ _ c4 (s3.extBut _ _ c2 (s2.extBut _ _ c3 (s1.extBut _ _ c1 e)))))
theorem h3c{b1 b2:Bool}{z TI TO i1 i2 l1 l2:Addr}{k:Nat}{xs ys:Array Value}{a b:Value}{Q:Option Value->Shared->Prop}(hh:A.handled=none)(D:ZipApart z TI TO i1 i2 l1 l2)
  (hz:IsZip s.heap z TI TO .none) (hTI:IsPair s.heap TI (.ref i1) (.ref i2)) (hTO:IsPair s.heap TO a b)
  (h1:ItB b1 s.heap i1 l1 k) (h2:ItB b2 s.heap i2 l2 k) (hl1:SqB b1 s.heap l1 xs) (hl2:SqB b2 s.heap l2 ys) (hend:xs[k]? = none\/ys[k]? = none)
  (hQ:∀ h',(∀ c o,c≠z->c≠TO->c≠i1->c≠i2->s.heap.get? c=some o->h'.get? c=some o)->Q none { s with heap:=h' }):wpAny (model prog w) A (pyNext (.ref z)) Q E s:=by
 have hT : s.TypeIs (.ref z) "zip" := ⟨_, hz, rfl⟩
 unfold pyNext
 have fin : ∀ (h' : Heap) (e : Addr), (∀ c o, c ≠ z → c ≠ TO → c ≠ i1 → c ≠ i2 → s.heap.get? c = some o → h'.get? c = some o) → (∃ o, h'.get? e = some o ∧ o.cls = .type "StopIteration") →
   wpAny (model prog w) A (isInstance (.ref e) (.type "StopIteration") >>= fun b => if b = true then pure none else throw (.ref e)) Q E { s with heap := h' } := fun h' e hk he => by
  obtain⟨o,ho,hc⟩:=he
  refine wpAny_bind (wpAny_isInstance (T := "StopIteration") (b := true) ⟨o, ho, hc⟩ isSubtype_stop ?_)
  exact wpAny_pure (hQ _ hk)
 refine wpAny_bind (wpAny_attempt (wpAny_callSpecial?_slot (name := Str.ofString "__next__") hT F.slot_zip_next (wpAny_call_entry F.slot_zip_next hT F.entry_zip_next ?_ (F.args_zip_next_1 _))))
 show wpAny _ _ (field (.ref z) 2 >>= _) _ _ _
 refine wpAny_bind (wpAny_field hz rfl (x:=.bool false) rfl ?_)
 show wpAny _ _ (field (.ref z) 3 >>= _) _ _ _
 refine wpAny_bind (wpAny_field hz rfl (x:=.ref TI) rfl ?_)
 refine wpAny_bind (wpAny_seqItems hTI rfl ?_)
 show wpAny _ _ (Builtin.SmallTypes.ownedTupleIsFree (.ref z) >>= _) _ _ _
 refine wpAny_bind ?_
 unfold Builtin.SmallTypes.ownedTupleIsFree
 refine wpAny_bind (wpAny_field hz rfl (x:=.none) rfl (wpAny_pure ?_))
 simp only [if_true]
 refine wpAny_bind (wpAny_rule ?_)
 refine wpAny_bind (wpAny_field hz rfl (x:=.ref TO) rfl ?_)
 refine wpAny_bind (wpAny_setField_rec hz (by simp) fun g1 hz1 s1=>?_)
 replace hz1:IsZip g1 z TI TO .ellipsis:=hz1
 refine wpAny_bind ?_
 simp only [List.zipIdx_cons,List.zipIdx_nil,List.forIn_cons,List.forIn_nil]
 refine wpAny_bind (wpAny_bind (wpAny_onRaise ?_))
 show wpAny _ _ (Builtin.SmallTypes.nextOf (.ref i1) >>= _) _ _ _
 cases hx:xs[k]? with
 | none =>
  refine wpAny_bind (h5d hh (h1.at fun o e=>s1.extBut _ _ D.i1z e) (hl1.at fun o e=>s1.extBut _ _ D.l1z e) hx fun g2 e s2 he=>?_)
  obtain⟨oe,hoe,hce⟩:=he
  have hz2:IsZip g2 z TI TO .ellipsis:=s2 _ _ D.i1z.symm hz1
  have hez:e≠z:=fun x=>by subst x; rw [hz2] at hoe; cases hoe; simp at hce
  exact wpAny_setField_rec hz2 (by simp) fun g3 _ s3=>fin g3 e (fun c o c1 _ c3 _ x=>s3.extBut _ _ c1 (s2 _ _ c3 (s1.extBut _ _ c1 x))) ⟨oe,s3.extBut _ _ hez hoe,hce⟩
 | some x =>
  have hy:ys[k]? = none:=by
   rcases hend with h | h
   ·rw [hx] at h; cases h
   ·exact h
  refine wpAny_bind (g1k (h1.at fun o e=>s1.extBut _ _ D.i1z e) (hl1.at fun o e=>s1.extBut _ _ D.l1z e) hx fun g2 h12 s2=>wpAny_pure ?_)
  have i1t:IsPair g2 TO a b:=s2.extBut _ _ D.TOi1 (s1.extBut _ _ D.TOz hTO)
  refine wpAny_bind (wpAny_seqItems i1t rfl ?_)
  refine wpAny_bind (wpAny_updateSeq_pair i1t fun g3 hTO3 s3=>?_)
  refine wpAny_bind (wpAny_letGo (wpAny_pure ?_))
  refine wpAny_bind (wpAny_bind (wpAny_onRaise ?_))
  show wpAny _ _ (Builtin.SmallTypes.nextOf (.ref i2) >>= _) _ _ _
  refine wpAny_bind (h5d hh (h2.at fun o e=>s3.extBut _ _ D.TOi2.symm (s2.extBut _ _ D.i12.symm (s1.extBut _ _ D.i2z e))) (hl2.at fun o e=>s3.extBut _ _ D.l2TO (s2.extBut _ _ D.l2i1 (s1.extBut _ _ D.l2z e))) hy fun g4 e s4 he=>?_)
  obtain⟨oe,hoe,hce⟩:=he
  have hz4:IsZip g4 z TI TO .ellipsis:=s4 _ _ D.i2z.symm (s3.extBut _ _ D.TOz.symm (s2.extBut _ _ D.i1z.symm hz1))
  have hez:e≠z:=fun x=>by subst x; rw [hz4] at hoe; cases hoe; simp at hce
  exact wpAny_setField_rec hz4 (by simp) fun g5 _ s5=>fin g5 e (fun c o c1 c2 c3 c4 x=>s5.extBut _ _ c1 (s4 _ _ c4 (s3.extBut _ _ c2 (s2.extBut _ _ c3 (s1.extBut _ _ c1 x))))) ⟨oe,s5.extBut _ _ hez hoe,hce⟩
noncomputable abbrev zB1(b1:Bool)(h:Heap)(l1:Addr):Heap:=h.push (itO b1 l1)
noncomputable abbrev zB2(b1 b2:Bool)(h:Heap)(l1 l2:Addr):Heap:=(zB1 b1 h l1).push (itO b2 l2)
noncomputable abbrev zB3 (b1 b2 : Bool) (h : Heap) (l1 l2 : Addr) : Heap := (zB2 b1 b2 h l1 l2).push { cls := .type "tuple", data := .seq #[.ref h.objs.size, .ref (zB1 b1 h l1).objs.size] }
noncomputable abbrev zB4 (b1 b2 : Bool) (h : Heap) (l1 l2 : Addr) : Heap := (zB3 b1 b2 h l1 l2).push { cls := .type "tuple", data := .seq #[.none, .none] }
noncomputable abbrev zB5 (b1 b2 : Bool) (h : Heap) (l1 l2 : Addr) : Heap := (zB4 b1 b2 h l1 l2).push { cls := .type "zip", data := .fields #[.none, .bool false, .bool false, .ref (zB2 b1 b2 h l1 l2).objs.size, .ref (zB3 b1 b2 h l1 l2).objs.size] }
theorem g5u(b1 b2:Bool)(l1 l2:Addr)(xs ys:Array Value) :
  Meets (Builtin.«zip.__new__» ⟨[.type "zip", .ref l1, .ref l2], []⟩) (fun _ R s => SqB b1 s.heap l1 xs ∧ SqB b2 s.heap l2 ys ∧
   R (.ok (.ret (.ref (zB4 b1 b2 s.heap l1 l2).objs.size))) { s with heap:=zB5 b1 b2 s.heap l1 l2 }) :=
 .of_wp fun prog w A R s h=>by
  obtain⟨hp,g,d,tk,os⟩:=s; obtain⟨hl1,hl2,h⟩:=h
  have hsub:=sub_zip
  have hL1:SqB b1 (Shared.heap ⟨hp,g,d,tk,os⟩) l1 xs:=hl1
  have hL2:SqB b2 (Shared.heap ⟨hp.push (itO b1 l1),g,d,tk,os⟩) l2 ys:=hl2.at fun o e=>Heap.get?_push_of_some _ e
  wp_walk using i1s hL1,i1s hL2
  exact⟨_,rfl,h⟩
theorem h3d{b1 b2:Bool}{l1 l2:Addr}{xs ys:Array Value}{Q:Value->Shared->Prop}(hl1:SqB b1 s.heap l1 xs)(hl2:SqB b2 s.heap l2 ys)
  (h:∀ h',IsZip h' (s.heap.objs.size+4) (s.heap.objs.size+2) (s.heap.objs.size+3) .none->IsPair h' (s.heap.objs.size+2) (.ref s.heap.objs.size) (.ref (s.heap.objs.size+1)) ->
   IsPair h' (s.heap.objs.size+3) .none .none->ItB b1 h' s.heap.objs.size l1 0->ItB b2 h' (s.heap.objs.size+1) l2 0 ->
   (∀ c o,s.heap.get? c=some o->h'.get? c=some o)->Q (.ref (s.heap.objs.size+4)) { s with heap:=h' }) :
  wpAny (model prog w) A (call (.type "zip") [.ref l1, .ref l2]) Q E s := by
 refine callType_new F.called_zip (by decide) (F.typeCall_zip_2 _ _) (F.newCall_zip_2 _ _) (fun obj=>F.args_object_init_3 obj _ _) F.entry_zip_new
  (g5u b1 b2 l1 l2 xs ys) ⟨hl1,hl2,?_⟩
 have z1:(zB1 b1 s.heap l1).objs.size=s.heap.objs.size+1:=Heap.size_push ..
 have z2:(zB2 b1 b2 s.heap l1 l2).objs.size=s.heap.objs.size+2:=by rw [Heap.size_push,z1]
 have z3:(zB3 b1 b2 s.heap l1 l2).objs.size=s.heap.objs.size+3:=by rw [Heap.size_push,z2]
 have z4:(zB4 b1 b2 s.heap l1 l2).objs.size=s.heap.objs.size+4:=by rw [Heap.size_push,z3]
 have g5:(zB5 b1 b2 s.heap l1 l2).get? (zB4 b1 b2 s.heap l1 l2).objs.size=some _:=Heap.get?_push_size _ rfl
 have g4:(zB5 b1 b2 s.heap l1 l2).get? (zB3 b1 b2 s.heap l1 l2).objs.size=some _:=Heap.get?_push_of_some _ (Heap.get?_push_size _ rfl)
 have g3:(zB5 b1 b2 s.heap l1 l2).get? (zB2 b1 b2 s.heap l1 l2).objs.size=some _:=Heap.get?_push_of_some _ (Heap.get?_push_of_some _ (Heap.get?_push_size _ rfl))
 have g2:(zB5 b1 b2 s.heap l1 l2).get? (zB1 b1 s.heap l1).objs.size=some (itO b2 l2):=Heap.get?_push_of_some _ (Heap.get?_push_of_some _ (Heap.get?_push_of_some _ (Heap.get?_push_size _ rfl)))
 have g1:(zB5 b1 b2 s.heap l1 l2).get? s.heap.objs.size=some (itO b1 l1):=Heap.get?_push_of_some _ (Heap.get?_push_of_some _ (Heap.get?_push_of_some _ (Heap.get?_push_of_some _ (Heap.get?_push_size _ rfl))))
 show _/\_
 rw [z2,z3,z4] at g5
 rw [z1,z2] at g3
 rw [z3] at g4
 rw [z1] at g2
 rw [z4]
 exact⟨⟨_,g5,rfl⟩,h _ g5 g3 g4 ⟨_,g1,rfl,rfl⟩ ⟨_,g2,rfl,rfl⟩ fun c o x =>
  Heap.get?_push_of_some _ (Heap.get?_push_of_some _ (Heap.get?_push_of_some _ (Heap.get?_push_of_some _ (Heap.get?_push_of_some _ x))))⟩
end
def SqK(b:Bool)(K:PySem.W.Frag)(H:Hp)(l:Addr)(xs:List V):Prop:=match b with
 | true=>SqL K H l xs
 | false=>SqT K H l xs
theorem Inv.h5e{X:Cx}{pins:List (Addr×Obj)}{σ:St}{H:Hp}{s:Shared}{b:Bool}{l:Addr}{xs:List V}(I:Inv X pins σ H s)(h:SqK b X.K H l xs):∃ its:List Value,Vals xs its/\SqB b s.heap l its.toArray/\xs.length<=sizeLine:=by
 cases b with
 | true =>
  obtain⟨its,r,p,z⟩:=I.list h
  exact⟨its,r,p.isList,z⟩
 | false =>
  obtain⟨its,r,p,z⟩:=I.tuple h
  exact⟨its,r,p,z⟩
theorem Inv.g3s{X:Cx}{pins:List (Addr×Obj)}{σ:St}{H:Hp}{s:Shared}{b:Bool}{l:Addr}{xs ys:List V}(I:Inv X pins σ H s)(h:SqK b X.K H l xs)(h':SqK b X.K H l ys):xs=ys:=by
 cases b with
 | true=>exact I.g3j h h'
 | false=>exact I.f8g h h'
noncomputable def Itz(K:PySem.W.Frag)(b1 b2:Bool)(l1 l2:Addr):It :=
 ⟨fun i H=>∃ xs ys x y,SqK b1 K H l1 xs/\SqK b2 K H l2 ys/\xs[i]? = some x/\ys[i]? = some y,
  fun i H v H'=>∃ p x y,v = .ref p ∧ H p=none ∧ H'=upd H p (.tup [x,y]) ∧ (∀ xs,SqK b1 K H l1 xs → xs[i]? = some x) ∧ ∀ ys,SqK b2 K H l2 ys → ys[i]? = some y,
  fun i H=>∃ xs ys,SqK b1 K H l1 xs ∧ SqK b2 K H l2 ys ∧ (xs.length ≤ i ∨ ys.length ≤ i)⟩
theorem h3e{P:Program}{w:World}{K:PySem.W.Frag}{elts:List Expr}{kk:Nat}{tpos:Pos}{b1 b2:Bool}{z TI TO i1 i2 l1 l2:Addr}(D:ZipApart z TI TO i1 i2 l1 l2) :
  Turn P w K (.Tuple elts kk tpos) (Itz K b1 b2 l1 l2) [z,TI,TO,i1,i2] z (fun i h=>IsZip h z TI TO .none/\IsPair h TI (.ref i1) (.ref i2)/\(∃ a b,IsPair h TO a b)/\ItB b1 h i1 l1 i/\ItB b2 h i2 l2 i) where
 mem:=by simp
 obj:=fun i h st b hb=>by
  obtain⟨hz,hTI,⟨a,c,hTO⟩,⟨o1,e1,_,d1⟩,⟨o2,e2,_,d2⟩⟩:=st
  simp only [List.mem_cons,List.not_mem_nil,or_false] at hb
  rcases hb with rfl | rfl | rfl | rfl | rfl
  ·exact⟨_,hz,fun v z=>by cases z⟩
  ·exact⟨_,hTI,fun v z=>by cases z⟩
  ·exact⟨_,hTO,fun v z=>by cases z⟩
  ·exact⟨_,e1,fun v z=>by rw [d1] at z; cases z⟩
  ·exact⟨_,e2,fun v z=>by rw [d2] at z; cases z⟩
 keep:=fun i h h' st k=>by
  obtain⟨hz,hTI,⟨a,c,hTO⟩,h1,h2⟩:=st
  exact⟨k z (by simp) _ hz,k TI (by simp) _ hTI,⟨a,c,k TO (by simp) _ hTO⟩,h1.at fun o e=>k i1 (by simp) o e,h2.at fun o e=>k i2 (by simp) o e⟩
 item:=by
  intro X hP hw hK hc i pins s σ H E I hf st hg
  subst hP hw hK
  obtain⟨xs,ys,x,y,hq1,hq2,hx,hy⟩:=hg
  obtain⟨us,r1,p1,_⟩:=I.h5e hq1
  obtain⟨ws,r2,p2,_⟩:=I.h5e hq2
  obtain⟨u,hu,ru⟩:=r1.get hx
  obtain⟨v,hv,rv⟩:=r2.get hy
  obtain⟨hz,hTI,⟨a,b,hTO⟩,h1,h2⟩:=st
  refine g8u D hz hTI hTO h1 h2 p1 p2 (x:=u) (y:=v) (by simpa using hu) (by simpa using hv) fun h' z' TO' h1' h2' pT kk'=>?_
  refine⟨.ref s.heap.objs.size,rfl,wpAny_letOwnedTupleGo_zip (s:={ s with heap:=h' }) z' fun h'' z'' sb=>?_⟩
  replace sb:Heap.SameBut z h' h'':=sb
  have k2:∀ c o,c∉[z,TI,TO,i1,i2]->s.heap.get? c=some o->h''.get? c=some o:=fun c o hc e=>by
   simp only [List.mem_cons,List.not_mem_nil,or_false,not_or] at hc
   exact sb.extBut _ _ hc.1 (kk' c o hc.1 hc.2.2.1 hc.2.2.2.1 hc.2.2.2.2 e)
  have I1:Inv X pins σ H { s with heap:=h'' }:=I.g8t (t':=s.toks) k2 hf
  have zlt:z < s.heap.objs.size:=Heap.lt_size hz
  have pT2:IsPair h'' s.heap.objs.size u v:=sb.extBut _ _ (Nat.ne_of_gt zlt) pT
  have fo:=I.h1p (b:=s.heap.objs.size) (Nat.le_refl _) (I.hok.fresh (Nat.le_refl _))
  have nT:H s.heap.objs.size=none:=I.hok.fresh (Nat.le_refl _)
  have I2:Inv X pins σ (upd H s.heap.objs.size (.tup [x,y])) { s with heap:=h'' }:=by
   refine I1.track ?_ fo.2.1 fo.2.2.2.2.1 fo.2.2.2.2.2 nT ⟨two_line,[u,v],.cons ru (.cons rv .nil),⟨_,pT2,rfl,0,rfl⟩⟩
   cases q:X.s₀.heap.get? s.heap.objs.size with
   | none=>rfl
   | some o=>exact absurd (Nat.lt_of_lt_of_le (Heap.lt_size q) I.sz) (Nat.lt_irrefl _)
  have ne:∀ b∈[z,TI,TO,i1,i2],b≠s.heap.objs.size:=fun b hb e=>by
   have lt:b < s.heap.objs.size:=by
    simp only [List.mem_cons,List.not_mem_nil,or_false] at hb
    rcases hb with rfl | rfl | rfl | rfl | rfl
    ·exact zlt
    ·exact Heap.lt_size hTI
    ·exact Heap.lt_size hTO
    ·obtain⟨_,e,_⟩:=h1; exact Heap.lt_size e
    ·obtain⟨_,e,_⟩:=h2; exact Heap.lt_size e
   exact Nat.ne_of_lt lt e
  refine⟨.ref s.heap.objs.size,_,I2,rfl,⟨_,x,y,rfl,nT,rfl,fun xs' h=>by rw [I.g3s h hq1]; exact hx,fun ys' h=>by rw [I.g3s h hq2]; exact hy⟩,
   ⟨z'',sb.extBut _ _ D.TIz (kk' _ _ D.TIz D.TITO D.TIi1 D.TIi2 hTI),⟨_,_,sb.extBut _ _ D.TOz TO'⟩,h1'.at fun o e=>sb.extBut _ _ D.i1z e,h2'.at fun o e=>sb.extBut _ _ D.i2z e⟩,fun b hb=>by rw [a4v (ne b hb)]; exact (hf b hb).1⟩
 done:=by
  intro X hP hw hK hc i pins s σ H E I hf st hg
  subst hP hw hK
  obtain⟨xs,ys,hq1,hq2,hle⟩:=hg
  obtain⟨us,r1,p1,_⟩:=I.h5e hq1
  obtain⟨ws,r2,p2,_⟩:=I.h5e hq2
  obtain⟨hz,hTI,⟨a,b,hTO⟩,h1,h2⟩:=st
  have l1':=r1.length
  have l2':=r2.length
  refine h3c (I.ok.hd hc) D hz hTI hTO h1 h2 p1 p2 (by rcases hle with h | h <;> simp <;> omega) fun h' kk'=>⟨rfl,I.g8t (t':=s.toks) (fun c o hc e=>?_) hf⟩
  simp only [List.mem_cons,List.not_mem_nil,or_false,not_or] at hc
  exact kk' c o hc.1 hc.2.2.1 hc.2.2.2.1 hc.2.2.2.2 e
 self:=fun _ _ _ _ _ st h=>wpAny_pyIter_zip st.1 h
def i6n(K:PySem.W.Frag)(ta:TA):TI:=fun σ H R=>ta σ H fun vs H1=>match vs with
 | [.ref l1,.ref l2]=>(match H1 l1,H1 l2 with
  | some (.lst _),some (.lst _)=>R (Itz K true true l1 l2) H1
  | some (.lst _),some (.tup _)=>R (Itz K true false l1 l2) H1
  | some (.tup _),some (.lst _)=>R (Itz K false true l1 l2) H1
  | some (.tup _),some (.tup _)=>R (Itz K false false l1 l2) H1
  | _,_=>False)
 | _=>False
theorem g3t {X : Cx} {elts : List Expr} {kk : Nat} {tpos : Pos} {a b : Expr} {ta : TA} {p pos : Pos} (hg : Gl X "zip") (hm : X.mg "zip" = none) (ha : PA X [a, b] ta) (hs : starEach [a, b] X.env = [(false, eval a X.env), (false, eval b X.env)] := by rfl) (hs2 : starEach [b] X.env = [(false, eval b X.env)] := by rfl) :
  PI X (.Tuple elts kk tpos) (.Call (.Name "zip" p) [a, b] [] pos) (i6n X.K ta) := by
 intro pins s σ H R I h
 refine Call_ (f7z I hg hm boot_zip (PyProof.Rows.callWith_type1 (thn (ha pos pins s σ H _ I h) fun us s1 ⟨vs,H1,I1,r1,q1⟩=>?_) (by rw [hs,hs2]) (by rw [hs2]; rfl)))
 match vs,q1 with
 | [.ref l1,.ref l2],q1 =>
  obtain⟨u,u',e0,e,e'⟩:=r1.two
  cases e
  cases e'
  subst e0
  have q:∃ (b1 b2:Bool) (xs ys:List V),SqK b1 X.K H1 l1 xs/\SqK b2 X.K H1 l2 ys/\R (Itz X.K b1 b2 l1 l2) H1:=by
   have q1':(match H1 l1,H1 l2 with
    | some (.lst _),some (.lst _)=>R (Itz X.K true true l1 l2) H1
    | some (.lst _),some (.tup _)=>R (Itz X.K true false l1 l2) H1
    | some (.tup _),some (.lst _)=>R (Itz X.K false true l1 l2) H1
    | some (.tup _),some (.tup _)=>R (Itz X.K false false l1 l2) H1
    | _,_=>False):=q1
   split at q1'
   ·rename_i e1 e2
    exact⟨true,true,_,_,SqL.of e1,SqL.of e2,q1'⟩
   ·rename_i e1 e2
    exact⟨true,false,_,_,SqL.of e1,SqT.of e2,q1'⟩
   ·rename_i e1 e2
    exact⟨false,true,_,_,SqT.of e1,SqL.of e2,q1'⟩
   ·rename_i e1 e2
    exact⟨false,false,_,_,SqT.of e1,SqT.of e2,q1'⟩
   ·exact q1'.elim
  obtain⟨b1,b2,xs,ys,hq1,hq2,q⟩:=q
  obtain⟨us,rr1,p1,_⟩:=I1.h5e hq1
  obtain⟨ws,rr2,p2,_⟩:=I1.h5e hq2
  have L1:l1 < s1.heap.objs.size:=by obtain⟨_,e,_⟩:=p1; exact Heap.lt_size e
  have L2:l2 < s1.heap.objs.size:=by obtain⟨_,e,_⟩:=p2; exact Heap.lt_size e
  refine h3d p1 p2 fun h' hz hTI hTO h1 h2 hk=>?_
  refine wpAny_pyIter_zip (s:={ s1 with heap:=h' }) hz ?_
  have D:ZipApart (s1.heap.objs.size+4) (s1.heap.objs.size+2) (s1.heap.objs.size+3) s1.heap.objs.size (s1.heap.objs.size+1) l1 l2:=by
   generalize s1.heap.objs.size=n at L1 L2
   replace L1:Nat.lt l1 n:=L1
   replace L2:Nat.lt l2 n:=L2
   constructor <;> (intro e; have:(n:Nat)=n:=rfl; simp only [Nat.lt_eq] at L1 L2; first | (have e':(_:Nat)=_:=e; omega))
  refine⟨_,[s1.heap.objs.size+4,s1.heap.objs.size+2,s1.heap.objs.size+3,s1.heap.objs.size,s1.heap.objs.size+1],_,_,H1,rfl,I1.kept (t':=s1.toks) hk,h3e D,⟨hz,hTI,⟨_,_,hTO⟩,h1,h2⟩,fun b hb=>?_,q⟩
  have hb':s1.heap.objs.size<=b:=by
   simp only [List.mem_cons,List.not_mem_nil,or_false] at hb
   rcases hb with rfl | rfl | rfl | rfl | rfl
   ·exact Nat.le_add_right _ _
   ·exact Nat.le_add_right _ _
   ·exact Nat.le_add_right _ _
   ·exact Nat.le_refl _
   ·exact Nat.le_add_right _ _
  exact I1.h1p hb' (I1.hok.fresh hb')
theorem f5t{K:PySem.W.Frag}{b1 b2:Bool}{l1 l2:Addr}{xs ys:List V}{g:TG}{tb:TS}{D:Ends}{σ:St}{H:Hp}(Pv:Nat->St->Hp->Prop)(h0:Pv 0 σ H)(hl:∀ i σ H,Pv i σ H->SqK b1 K H l1 xs/\SqK b2 K H l2 ys)
  (hs:∀ i x y σ H p H',xs[i]? = some x->ys[i]? = some y->Pv i σ H->H p=none->Same H H'->H' p=some (.tup [x,y])->g (.ref p) σ H' fun σ2 H2=>tb { D with nx:=Pv (i+1),ct:=Pv (i+1),bk:=D.nx } σ2 H2)
  (hd:∀ σ H,Pv (min xs.length ys.length) σ H->D.nx σ H):i0o (Itz K b1 b2 l1 l2) g tb D σ H:=by
 refine⟨fun i m σ H=>m=min xs.length ys.length - i/\i<=min xs.length ys.length/\Pv i σ H,⟨min xs.length ys.length,by simp,Nat.zero_le _,h0⟩,?_⟩
 rintro i m σ H ⟨rfl,hi,p⟩
 obtain⟨e1,e2⟩:=hl i σ H p
 by_cases hlt:i < min xs.length ys.length
 ·have hx : xs[i]? = some (xs[i]'(by omega)) := List.getElem?_eq_getElem _
  have hy : ys[i]? = some (ys[i]'(by omega)) := List.getElem?_eq_getElem _
  refine .inr ⟨⟨xs,ys,_,_,e1,e2,hx,hy⟩,Pv (i+1),fun σ' H' p'=>⟨min xs.length ys.length - (i+1),by omega,rfl,hlt,p'⟩,fun v H' y=>?_⟩
  obtain⟨q,x,y,rfl,nq,rfl,k1,k2⟩:=y
  exact hs i x y σ H q _ (k1 _ e1) (k2 _ e2) p nq (Same.upd nq) a5j
 ·have e:i=min xs.length ys.length:=by omega
  subst e
  exact .inl ⟨⟨xs,ys,e1,e2,by omega⟩,hd σ H p⟩
end L2
namespace L2
open PySem PySem.Spec PyProof.Rows
noncomputable def b4j(X:Cx)(scope:Scope)(cl:List (Str×Addr))(C:Addr)(s₃:Shared)(H₃:Hp)(fp:List Addr)(x y:Str):Cx where
 prog:=X.prog
 w:=X.w
 K:=X.K
 mg:=X.mg
 base:=X.base
 A:=X.A
 N:=x :: y :: mask x X.N
 s₀:=s₃
 H₀:=H₃
 env:=compEnvC scope cl C X.env
 outer:=X.stack
 stack:=X.stack
 ex:=fp
 fn:=fun _=>false
 calm:=X.calm
 pn:=[]
 xe:=fun _ _=>False
structure d0n(X:Cx)(scope:Scope)(x y:Str):Prop where
 kind:scope.kind = .function
 d2w:∀ y∈scope.names,y.2≠.cell
 loc:∀ y∈scope.names,y.2 = .local->scope.names.lookup y.1=some .local
 own:scope.names.lookup x=some .local
 i6o:scope.names.lookup y=some .local
 free:∀ y∈scope.names,y.2 = .free->X.env.kindOf y.1=some .cell\/X.env.kindOf y.1=some .free
 nd:(x :: y :: mask x X.N).Nodup
 noe : ∀ y ∈ scope.names, y.1 ≠ ""
 vis:∀ y∈mask x X.N,scope.names.lookup y≠some .local
def g8v(J:It)(te:TE)(D:Addr)(σ:St)(H:Hp)(Q:VK)(_:Tag Q):Prop:=∃ (n:Nat) (W:Nat->List V->Hp->Prop),W 0 [] H/\∀ i ys H,i<=n->W i ys H->H D=some (.lst ys) /\
 ((J.stop i H/\Q (.ref D) H)\/(i < n/\J.go i H/\ys.length < sizeLine/\∀ x H',J.yld i H x H'->∃ p u v,x = .ref p/\H' p=some (.tup [u,v])/\te (some u :: some v :: σ) H' fun y H2=>H2 D=some (.lst ys) /\
  ∀ H3,b3v D H2 H3->H3 D=some (.lst (ys++[y]))->W (i+1) (ys++[y]) H3))
def i1u(wi:TI)(te:TE):TE:=fun σ H Q=>wi σ H fun J H1=>∀ D H2,H1 D=none->Same H1 H2->H2 D=some (.lst [])->g8v J te D σ H2 Q ⟨⟩
section
variable {X:Cx}{scope:Scope}{x y:Str}{cl:List (Str×Addr)}{pins:List (Addr×Obj)}{σ:St}{H:Hp}{s s₄:Shared}{fp:List Addr}
theorem Inv.i6p(S:d0n X scope x y)(I:Inv X pins σ H s)(hcl:∀ y c,cl.lookup y=some c->(y,NameKind.free)∈scope.names/\X.env.cells.lookup y=some c)(hcl2:∀ y,(y,NameKind.free)∈scope.names->cl.lookup y=X.env.cells.lookup y)
  (hfp:∀ b∈fp,d7s X pins H b) (hlt:∀ b∈fp,b < s.heap.objs.size) {m:Str->Option Value} (hns:s₄.heap.Ns s.heap.objs.size m) (hk:∀ b o,s.heap.get? b=some o->s₄.heap.get? b=some o) (hos:s₄.os=s.os) (hg:s₄.gens=s.gens) :
  Inv (b4j X scope cl s.heap.objs.size s H fp x y) [] (none :: none :: σ) H s₄:=by
 refine⟨⟨I.ok.mod,?_,I.ok.glob,I.ok.blt,Nat.le_refl _,fun y z c h1 h2=>I.ok.inj y z c (hcl y c h1).2 (hcl z c h2).2,fun y hy=>?_,(fun y c h=>nomatch h),I.ok.hd,I.ok.frames,.inl rfl,fun b hb=>⟨Nat.ne_of_lt (hlt b hb),fun y c e=>(hfp b hb).2.2.2.2.1 y c (hcl y c e).2⟩,
  fun b o e=>I.bs b o e,Nat.le_trans I.ok.bsz I.sz,fun b o e hb=>?_,fun b hb hf=>?_,I.stack,I.f5h⟩,
  hos,by rw [hg]; exact I.bare,Un.kept hk,⟨m,hns,fun i y v h1 h2 h3=>?_⟩,fun y c e=>?_,I.hok.fresh (Nat.le_refl _),fun y c e=>I.d1k y c (hcl y c e).2,fun p hp=>absurd (show p∈([] : List (Addr×Obj)) from hp) (by simp),I.hok.kept hk,by show (none :: none :: σ).length=(x :: y :: mask x X.N).length; rw [List.length_cons,List.length_cons,List.length_cons,List.length_cons,mask,List.length_map,I.len]⟩
 ·exact S.kind
 ·rcases b8l (env:=X.env) (sc:=scope) (x:=y) hy with z | z
  ·obtain⟨c,hc⟩:=I.ok.has y (S.free _ z rfl)
   exact⟨c,(hcl2 y z).trans hc⟩
  ·exact absurd rfl (S.d2w _ z)
 ·rcases (hfp b hb).2.2.2.1 with z | z
  ·exact I.ok.h5v b o e z
  ·exact absurd (Nat.lt_of_lt_of_le (Heap.lt_size (I.ok.bs b o e).1) z) (Nat.lt_irrefl _)
 ·rcases List.mem_cons.mp (I.d8j b hf) with z | z
  ·exact (hfp b hb).2.1 z
  ·exact (hfp b hb).2.2.1 z
 ·match i,h1,h2 with
  | 0,h1,h2=>cases h2
  | 1,h1,h2=>cases h2
  | i+2,h1,h2 =>
   have h1m:(mask x X.N)[i]? = some y:=by simpa [b4j] using h1
   have h2':σ[i]? = some (some v):=by simpa using h2
   have hyN:y∈mask x X.N:=List.mem_of_getElem? h1m
   have hc:(relabel scope X.env).names.lookup y=some .cell\/(relabel scope X.env).names.lookup y=some .free:=by
    rcases h3 with z | z | z
    ·exfalso
     rcases c5k (env:=X.env) scope.names _ z with q | ⟨q,_⟩
     ·exact S.vis y hyN q
     ·cases q
    ·exact .inl z
    ·exact .inr z
   have hfr:(y,NameKind.free)∈scope.names:=by
    rcases b8l hc with z | z
    ·exact z
    ·exact absurd rfl (S.d2w _ z)
   have h1':X.N[i]? = some y:=by
    rw [mask,List.getElem?_map] at h1m
    obtain⟨z,hz,e⟩:=Option.map_eq_some_iff.mp h1m
    by_cases hzx:z=x
    ·rw [if_pos hzx] at e
     exact absurd e.symm (S.noe _ hfr)
    ·rw [if_neg hzx] at e
     rw [hz,e]
   obtain⟨mX,hnX,hl⟩:=I.loc
   have hk2:=S.free _ hfr rfl
   have i5z:Vis X.env.scope y:=by
    rcases hk2 with z | z
    ·exact .inr (.inl z)
    ·exact .inr (.inr z)
   obtain⟨u,ru,lk⟩:=hl i y v h1' h2' i5z
   refine⟨u,ru,.inr ⟨hc,?_⟩⟩
   rcases lk with ⟨z,_⟩ | ⟨_,c,ec,o,ho,hd⟩
   ·rcases hk2 with q | q
    ·rw [q] at z; cases z
    ·rw [q] at z; cases z
   ·exact⟨c,(hcl2 y hfr).trans ec,o,hk c o ho,hd⟩
 ·obtain⟨v,o,ho,hd⟩:=I.cell y c (hcl y c e).2
  exact⟨v,o,hk c o ho,hd⟩
theorem Inv.h6x{σ':St}{H':Hp}{s':Shared}{h':Heap}(I:Inv X pins σ H s)(hfp:∀ b∈fp,d7s X pins H b)(J:Inv (b4j X scope cl s.heap.objs.size s H fp x y) [] σ' H' s')(hs:Heap.SameBut s.heap.objs.size s'.heap h') :
  Inv X pins σ H' { s' with heap:=h' }:=by
 have ne:∀ {b:Addr} {o:Obj},s.heap.get? b=some o->b≠s.heap.objs.size:=fun e=>Nat.ne_of_lt (Heap.lt_size e)
 have u:=J.base
 have u':Un (frs X.stack) fp H H' s.heap h':=⟨fun b o e n hb hx=>hs.extBut b o (ne e) (u.keep b o e n hb hx),fun b o e n hb hx=>(u.slot b o e n hb hx).elim fun sl q=>⟨sl,hs.extBut b _ (ne e) q⟩,u.free,
  fun b o e hx=>(u.there b o e hx).elim fun o' q=>⟨o',hs.extBut b o' (ne e) q⟩,u.tups,u.f7v,u.f7y⟩
 have nC:∀ {b:Addr} {o:HO},H' b=some o->b≠s.heap.objs.size:=fun {b o} e z=>by
  have f:H' s.heap.objs.size=none:=J.free
  rw [z,f] at e; cases e
 have ok:HOk X.prog X.w H' h':=fun b o e=>(J.hok b o e).stay (fun c v hc q=>hs.extBut c v (by
  rcases hc with z | z
  ·rw [z]; exact nC e
  ·exact nC z) q) (fun _ q=>q) fun _ _ q=>q
 exact I.call' (s':={ s' with heap:=h' }) (ch:=fp) J.os u' ok J.bare fun b hb=>⟨(hfp b hb).2.2.2.1,(hfp b hb).2.1,(hfp b hb).2.2.2.2.1,(hfp b hb).2.2.2.2.2⟩
end
section
variable {X:Cx}{scope:Scope}{x y:Str}{pins:List (Addr×Obj)}{σ:St}{elt iter:Expr}{px py tpos pos:Pos}{kk:Nat}{wi:TI}{te:TE}
theorem g1l{s₂:Shared}{H1:Hp}{it:Addr}{fp:List Addr}{tn:Nat->Heap->Prop}{J:It}{Q:VK}{RR:Value->Addr->Result->Shared->Prop}{E:Value->Shared->Prop}{cl:List (Str×Addr)}
  (S:d0n X scope x y) (hc:X.calm=true) (he:∀ cl C s₃ H₃ fp,PE (b4j X scope cl C s₃ H₃ fp x y) elt te)
  (hcl:∀ y c,cl.lookup y=some c->(y,NameKind.free)∈scope.names/\X.env.cells.lookup y=some c) (hcl2:∀ y,(y,NameKind.free)∈scope.names->cl.lookup y=X.env.cells.lookup y)
  (I2:Inv X pins σ H1 s₂) (T:Turn X.prog X.w X.K (.Tuple [.Name x px,.Name y py] kk tpos) J fp it tn) (st2:tn 0 s₂.heap) (f2:∀ b∈fp,d7s X pins H1 b) (h:∀ D H2,H1 D=none->Same H1 H2->H2 D=some (.lst [])->g8v J te D σ H2 Q ⟨⟩)
  (hRR:∀ (D C:Addr) (s':Shared) (H':Hp),(∃ m,s'.heap.Ns C m)->(∀ h' ,Heap.SameBut C s'.heap h'->Inv X pins σ H' { s' with heap:=h' })->d7s X pins H' C->Q (.ref D) H'->RR (.ref D) C (.ok .next) s') :
  wpAny (model X.prog X.w) X.A (newList []) (fun acc s₃=>wpAny (model X.prog X.w) X.A (newFunctionEnv scope X.env.globals cl [] X.env.qual none .none (some X.env)) (fun cenv s₄ =>
   codeAny (model X.prog X.w) X.A (.compStart (.ListComp elt [⟨.Tuple [.Name x px,.Name y py] kk tpos,iter,[],0⟩] scope pos) 0 (.ref it) acc { cenv with scope:=relabel scope X.env }) (RR acc cenv.locals) s₄) E s₃) E s₂:=by
 have hfr:H1 s₂.heap.objs.size=none:=I2.hok.fresh (Nat.le_refl _)
 have hCW:=h s₂.heap.objs.size _ hfr (Same.upd hfr) a5j
 refine wpAny_newObj_type ?_
 have I3 : Inv X pins σ (upd H1 s₂.heap.objs.size (.lst [])) { s₂ with heap := s₂.heap.push { cls := .type "list", data := .seq ([] : List Value).toArray }, toks := s₂.toks } :=
  I2.laid (t':=s₂.toks) (fun b u e=>Heap.get?_push_of_some _ e) (Nat.le_refl _) ⟨Nat.zero_le _,[],0,.nil,Heap.get?_push_size _ rfl⟩
 have nD:∀ b∈fp,b≠s₂.heap.objs.size:=fun b hb=>by
  obtain⟨o,e,_⟩:=T.obj 0 _ st2 b hb
  exact Nat.ne_of_lt (Heap.lt_size e)
 have f3:∀ b∈fp,d7s X pins (upd H1 s₂.heap.objs.size (.lst [])) b:=fun b hb=>⟨by rw [a4v (nD b hb)]; exact (f2 b hb).1,(f2 b hb).2⟩
 generalize hH3:upd H1 s₂.heap.objs.size (.lst [])=H3 at *
 have st3 : tn 0 (s₂.heap.push { cls := .type "list", data := .seq ([] : List Value).toArray }) := T.keep _ _ _ st2 fun b _ o e => Heap.get?_push_of_some _ e
 have g8k : ∀ b ∈ fp, b < (s₂.heap.push { cls := .type "list", data := .seq ([] : List Value).toArray }).objs.size := fun b hb => by
  obtain⟨o,e,_⟩:=T.obj 0 _ st3 b hb
  exact Heap.lt_size e
 show wpAny (model X.prog X.w) X.A (newFunctionEnv scope X.env.globals cl [] X.env.qual none .none (some X.env)) _ E { s₂ with heap := s₂.heap.push { cls := .type "list", data := .seq ([] : List Value).toArray }, toks := s₂.toks }
 generalize hs3 : ({ s₂ with heap := s₂.heap.push { cls := .type "list", data := .seq ([] : List Value).toArray }, toks := s₂.toks } : Shared) = s₃ at *
 have eh : s₃.heap = s₂.heap.push { cls := .type "list", data := .seq ([] : List Value).toArray } := by rw [← hs3]
 rw [<- eh] at st3 g8k
 generalize s₂.heap.objs.size=D at *
 refine wpAny_newFunctionEnv S.d2w (by intro y hy; simp at hy) (fun h₁ hns₁ hsb₁=>?_) S.kind
 have hk1:∀ b o,s₃.heap.get? b=some o->h₁.get? b=some o:=fun b o e=>hsb₁.extBut b o (Nat.ne_of_lt (Heap.lt_size e)) (Heap.get?_push_of_some _ e)
 have J0:Inv (b4j X scope cl s₃.heap.objs.size s₃ H3 fp x y) [] (none :: none :: σ) H3 { s₃ with heap:=h₁,toks:=s₃.toks+([] : List (Str×Value)).length }:=I3.i6p S hcl hcl2 f3 g8k hns₁ hk1 rfl rfl
 obtain⟨n0,W,w0,turn⟩:=hCW
 have loop:codeAny (model X.prog X.w) X.A (.compLoop (.ListComp elt [⟨.Tuple [.Name x px,.Name y py] kk tpos,iter,[],0⟩] scope pos) 0 (.ref it) (.ref D) (compEnvC scope cl s₃.heap.objs.size X.env)) (RR (.ref D) s₃.heap.objs.size) { s₃ with heap:=h₁,toks:=s₃.toks+([] : List (Str×Value)).length }:=by
  refine codeAny_loop rfl (fun n s'=>∃ i ys o o' H',Inv (b4j X scope cl s₃.heap.objs.size s₃ H3 fp x y) [] (o :: o' :: σ) H' s'/\tn i s'.heap/\(∀ b∈fp,H' b=none)/\W i ys H'/\i<=n0/\n=n0 - i) (fun n s5 hI=>?_) n0
   ⟨0,[],none,none,H3,J0,T.keep _ _ _ st3 (fun b _ o e=>hk1 b o e),fun b hb=>(f3 b hb).1,w0,Nat.zero_le _,rfl⟩
  obtain⟨i,ys,o5,o5',H5,I5,st5,fr5,w5,hin,hnn⟩:=hI
  have stat:∀ {H':Hp},(∀ b∈fp,H' b=none)->∀ b∈fp,d7s (b4j X scope cl s₃.heap.objs.size s₃ H3 fp x y) [] H' b:=fun hn b hb =>
   ⟨hn b hb,Nat.ne_of_lt (g8k b hb),fun z=>(List.mem_cons.mp (I3.d8j b z)).elim (fun q=>(f3 b hb).2.1 q) fun q=>(f3 b hb).2.2.1 q,.inl hb,fun y c e=>(f3 b hb).2.2.2.2.1 y c (hcl y c e).2,fun p hp=>absurd (show p∈([] : List (Addr×Obj)) from hp) (by simp)⟩
  show wpAny _ X.A ((compTurn (.ListComp elt [⟨.Tuple [.Name x px,.Name y py] kk tpos,iter,[],0⟩] scope pos) 0 (.ref it) (.ref D) (compEnvC scope cl s₃.heap.objs.size X.env)).onRaise (fun x=>do noteFrame x (compEnvC scope cl s₃.heap.objs.size X.env); theTreesLotGoes x)) _ _ s5
  refine wpAny_noted ?_
  rw [compTurn_list1]
  refine wpAny_bind (wpAny_standAt (wpAny_bind ?_))
  obtain⟨hD5,alt⟩:=turn i ys H5 hin w5
  rcases alt with ⟨stop,q⟩ | ⟨hlt,go,hsz,step⟩
  ·refine wpAny_mono (T.done (b4j X scope cl s₃.heap.objs.size s₃ H3 fp x y) rfl rfl rfl hc i [] s5 _ H5 _ I5 (stat fr5) st5 stop) (fun r s6 ⟨hr,I6⟩=>?_) fun _ _ z=>z
   subst hr
   refine wpAny_pure ?_
   obtain⟨m6,hn6,_⟩:=I6.loc
   exact hRR D s₃.heap.objs.size s6 H5 ⟨m6,hn6⟩ (fun h' hs'=>I3.h6x f3 I6 hs') (I3.h1p (Nat.le_refl _) I6.free) q
  ·refine wpAny_mono (T.item (b4j X scope cl s₃.heap.objs.size s₃ H3 fp x y) rfl rfl rfl hc i [] s5 _ H5 _ I5 (stat fr5) st5 go) (fun r s6 ⟨u,hr,h6⟩=>?_) fun _ _ z=>z
   subst hr
   refine wpAny_bind (wpAny_mono h6 (fun _ s7 ⟨v,H7,I7,r7,y7,st7,fr7⟩=>?_) fun _ _ z=>z)
   have I7':=I7.pinned (stat fr7) (T.obj _ _ st7)
   obtain⟨p7,u1,u2,e7,t7,step7⟩:=step v H7 y7
   subst e7
   have G1:=a4y (X:=b4j X scope cl s₃.heap.objs.size s₃ H3 fp x y) (pos:=px) (i:=0) (x:=x) S.nd rfl (.inl (lookup_relabel_local S.own)) (.inr (lookup_relabel_local S.own))
   have G2:=a4y (X:=b4j X scope cl s₃.heap.objs.size s₃ H3 fp x y) (pos:=py) (i:=1) (x:=y) S.nd rfl (.inl (lookup_relabel_local S.i6o)) (.inr (lookup_relabel_local S.i6o))
   have G:=h4f (X:=b4j X scope cl s₃.heap.objs.size s₃ H3 fp x y) (pos:=tpos) (k:=kk) (n:=2) hc (f5j G1 (f5j G2 g7o)) rfl rfl
   refine wpAny_bind (wpAny_mono (G _ s7 _ H7 (.ref p7) u (fun σ' H'=>σ'=some u1 :: some u2 :: σ/\H'=H7) I7' r7 ⟨p7,[u1,u2],rfl,SqT.of t7,rfl,_,_,rfl,_,_,rfl,rfl,rfl,rfl⟩) (fun _ s8 hs8=>?_) fun _ _ z=>False.elim z)
   obtain⟨σ8,H8,I8,rfl,rfl⟩:=hs8
   refine wpAny_bind (wpAny_bind (wpAny_mono (he cl s₃.heap.objs.size s₃ H3 fp _ s8 _ _ _ I8 step7) (fun yv s9 hs9=>?_) fun _ _ z=>False.elim z))
   obtain⟨y',H9,I9,r9,hD9,k9⟩:=hs9
   refine wpAny_bind (wpAny_mono (d2v (X:=b4j X scope cl s₃.heap.objs.size s₃ H3 fp x y) _ s9 _ H9 (.ref D) [y'] (.ref D) [yv] (fun _ H'=>H'=upd H9 D (.lst (ys++[y']))) I9 rfl (.cons r9 .nil) ⟨D,ys,y',rfl,rfl,hD9,hsz,rfl⟩) (fun _ sA hsA=>?_) fun _ _ z=>False.elim z)
   obtain⟨_,HA,IA,_,rfl⟩:=hsA
   refine wpAny_pure ?_
   have wA:=k9 _ b3v.upd a5j
   refine wpAny_pure ⟨rfl,n0 - (i+1),by omega,i+1,ys++[y'],some u1,some u2,_,IA.d0j (pins:=[]) (pl:=d8l fp s7.heap),T.keep _ _ _ st7 (fun b hb o e=>(IA.pin (b,o) (List.mem_append_right _ (List.mem_append_right _ (a9v hb e)))).1),fun b hb=>?_,wA,hlt,rfl⟩
   obtain⟨o,e,d⟩:=T.obj _ _ st7 b hb
   exact (IA.pin (b,o) (List.mem_append_right _ (List.mem_append_right _ (a9v hb e)))).2.1
 exact codeAny_compStart_list loop (T.self _ 0 _ _ _ (T.keep _ _ _ st3 fun b _ o e=>hk1 b o e) loop)
theorem h3f(hi:PI X (.Tuple [.Name x px,.Name y py] kk tpos) iter wi)(he:∀ cl C s₃ H₃ fp,PE (b4j X scope cl C s₃ H₃ fp x y) elt te)(S:d0n X scope x y)(hc:X.calm=true)
  (hs:∀ x,foldedSetIterable iter X.env x=pure x:=by intro _; rfl):PE X (.ListComp elt [⟨.Tuple [.Name x px,.Name y py] kk tpos,iter,[],0⟩] scope pos) (i1u wi te):=by
 intro pins s σ H Q I h
 obtain⟨cl,hclos,hcl,hcl2⟩:=d0l (env:=X.env) (sc:=scope) fun y hy=>I.ok.has y (S.free _ hy rfl)
 rw [eval_ListComp]
 refine wpAny_comprehension_free (use:=none) rfl hs hclos S.kind S.loc ?_
 refine thn (hi pins s σ H _ I h) fun v s1 h1=>thn h1 fun itv s2 h2=>?_
 obtain⟨it,fp,tn,J,H2,e,I2,T,st2,f2,hW⟩:=h2
 subst e
 exact g1l (RR:=fun acc C=>compPost (model X.prog X.w) X.A X.xe none (EP X pins σ Q) acc C) S hc he hcl hcl2 I2 T st2 f2 hW fun D C s' H' hm hI _ hq =>
  hm.elim fun m hn=>⟨m,hn,fun h' hs'=>⟨.ref D,H',hI h' hs',rfl,hq⟩⟩
end
noncomputable def g8w(sc scope:Scope)(x y:Str)(N:List Str):Bool :=
 (scope.kind == .function) && scope.names.all (fun y=>y.2 != .cell) && scope.names.all (fun y=>y.2 != .local || scope.names.lookup y.1 == some .local) && (scope.names.lookup x == some .local) && (scope.names.lookup y == some .local) &&
 scope.names.all (fun y => y.2 != .free || (sc.names.lookup y.1 == some .cell || sc.names.lookup y.1 == some .free)) && decide ((x :: y :: mask x N).Nodup) && scope.names.all (fun y => y.1 != "") && (mask x N).all (fun y => scope.names.lookup y != some .local)
theorem i1v{X:Cx}{sc scope:Scope}{x y:Str}{N:List Str}(hsc:X.env.scope=sc)(hN:X.N=N)(h:g8w sc scope x y N=true):d0n X scope x y:=by
 subst hN hsc
 unfold g8w at h
 simp only [Bool.and_eq_true,List.all_eq_true,beq_iff_eq,Bool.or_eq_true,bne_iff_ne,ne_eq,decide_eq_true_eq] at h
 obtain⟨⟨⟨⟨⟨⟨⟨⟨h1,h2⟩,h3⟩,h4⟩,h5⟩,h6⟩,h7⟩,h8⟩,h9⟩:=h
 exact⟨h1,h2,fun y hy e=>(h3 y hy).resolve_left fun z=>z e,h4,h5,fun y hy e=>(h6 y hy).resolve_left fun z=>z e,h7,h8,h9⟩
theorem g5v{K:PySem.W.Frag}{b1 b2:Bool}{l1 l2 D:Addr}{xs ys:List V}{te:TE}{σ:St}{H:Hp}{Q:VK}(Pv:Nat->List V->Hp->Prop)(h0:Pv 0 [] H)(hsz:xs.length<=sizeLine)
  (hD:∀ i zs H,i<=min xs.length ys.length->Pv i zs H->H D=some (.lst zs)/\SqK b1 K H l1 xs/\SqK b2 K H l2 ys/\zs.length=i)
  (hs:∀ i x y zs H p H',xs[i]? = some x->ys[i]? = some y->Pv i zs H->H p=none->Same H H'->H' p=some (.tup [x,y])->te (some x :: some y :: σ) H' fun z H2=>H2 D=some (.lst zs)/\∀ H3,b3v D H2 H3->H3 D=some (.lst (zs++[z]))->Pv (i+1) (zs++[z]) H3)
  (hd:∀ zs H,Pv (min xs.length ys.length) zs H->Q (.ref D) H):g8v (Itz K b1 b2 l1 l2) te D σ H Q ⟨⟩:=by
 refine⟨min xs.length ys.length,Pv,h0,fun i zs H hi p=>?_⟩
 obtain⟨e1,e2,e3,e4⟩:=hD i zs H hi p
 refine⟨e1,?_⟩
 by_cases hlt:i < min xs.length ys.length
 ·have hx : xs[i]? = some (xs[i]'(by omega)) := List.getElem?_eq_getElem _
  have hy : ys[i]? = some (ys[i]'(by omega)) := List.getElem?_eq_getElem _
  refine .inr ⟨hlt,⟨xs,ys,_,_,e2,e3,hx,hy⟩,by omega,fun v H' q=>?_⟩
  obtain⟨q,x,y,rfl,nq,rfl,k1,k2⟩:=q
  exact⟨q,x,y,rfl,a5j,hs i x y zs H q _ (k1 _ e2) (k2 _ e3) p nq (Same.upd nq) a5j⟩
 ·have e:i=min xs.length ys.length:=by omega
  subst e
  exact .inl ⟨⟨xs,ys,e2,e3,by omega⟩,hd zs H p⟩
end L2
namespace L2
open PySem PySem.Spec PyProof.Rows
def i6q(K:PySem.W.Frag)(tl:TE):TI:=fun σ H R=>tl σ H fun x H1=>match x with
 | .ref a=>(match H1 a with
  | some (.tup _)=>R (Itt K a) H1
  | _=>False)
 | _=>False
theorem h6y{X:Cx}{tg l:Expr}{tl:TE}(hl:PE X l tl):PI X tg l (i6q X.K tl):=by
 intro pins s σ H R I h
 refine thn (hl pins s σ H _ I h) fun v s1 ⟨x,H1,I1,r1,q1⟩=>?_
 cases x with
 | ref a =>
  have q':(match H1 a with
   | some (.tup _)=>R (Itt X.K a) H1
   | _=>False):=q1
  split at q'
  ·rename_i xs e
   cases r1
   obtain⟨its,rv,p,hz⟩:=I1.tuple (SqT.of e)
   refine wpAny_pyIter_tuple (show s1.heap.IsTuple a its.toArray from p) ?_
   refine⟨s1.heap.objs.size,[s1.heap.objs.size],_,_,H1,rfl,I1.kept (t':=s1.toks) fun b o e=>Heap.get?_push_of_some _ e,g5c a _,⟨_,Heap.get?_push_size _ rfl,rfl,rfl⟩,fun b hb=>?_,q'⟩
   have e:b=s1.heap.objs.size:=by simpa using hb
   subst e
   exact I1.h1p (Nat.le_refl _) (I1.hok.fresh (Nat.le_refl _))
  ·exact q'.elim
 | _=>exact False.elim q1
noncomputable def rSlG:V->Option Int->Option Int->Hp->VK->Prop:=fun x lo hi H Q=>match x with
 | .ref a=>(match H a with
  | some (.lst xs)=>New H (.lst (d0z xs lo hi)) Q ⟨⟩
  | some (.tup xs)=>¬ (HT.sIx xs.length 0 lo=0/\HT.sIx xs.length xs.length hi=xs.length)/\New H (.tup (d0z xs lo hi)) Q ⟨⟩
  | _=>False)
 | _=>False
theorem i6r{X:Cx}:SlR X rSlG:=by
 intro pins s σ H x v vl vu lo hi sl Q I rx hs pl pu h
 cases x with
 | ref a =>
  have h':(match H a with
   | some (.lst xs)=>New H (.lst (d0z xs lo hi)) Q ⟨⟩
   | some (.tup xs)=>¬ (HT.sIx xs.length 0 lo=0/\HT.sIx xs.length xs.length hi=xs.length)/\New H (.tup (d0z xs lo hi)) Q ⟨⟩
   | _=>False):=h
  split at h'
  ·rename_i xs e
   exact g1a pins s σ H _ v vl vu lo hi sl Q I rx hs pl pu ⟨_,xs,rfl,SqL.of e,h'.raw⟩
  ·rename_i xs e
   exact i0d pins s σ H _ v vl vu lo hi sl Q I rx hs pl pu ⟨_,xs,rfl,SqT.of e,h'.1,h'.2.raw⟩
  ·exact h'.elim
 | _=>exact False.elim h
theorem g8x{K:PySem.W.Frag}{a D:Addr}{xs:List V}{te:TE}{σ:St}{H:Hp}{Q:VK}(Pv:Nat->List V->Hp->Prop)(h0:Pv 0 [] H)(hsz:xs.length<=sizeLine)
  (hD:∀ i ys H,i<=xs.length->Pv i ys H->H D=some (.lst ys)/\SqT K H a xs/\ys.length=i)
  (hs:∀ i x ys H,xs[i]? = some x->Pv i ys H->te (some x :: σ) H fun y H2=>H2 D=some (.lst ys)/\∀ H3,b3v D H2 H3->H3 D=some (.lst (ys++[y]))->Pv (i+1) (ys++[y]) H3)
  (hd:∀ ys H,Pv xs.length ys H->Q (.ref D) H):f5o (Itt K a) te D σ H Q ⟨⟩:=by
 refine⟨xs.length,Pv,h0,fun i ys H hi p=>?_⟩
 obtain⟨e1,e2,e3⟩:=hD i ys H hi p
 refine⟨e1,?_⟩
 by_cases hlt:i < xs.length
 ·refine .inr ⟨hlt,⟨xs,xs[i],e2,by simp [hlt]⟩,by omega,fun x H' y=>?_⟩
  obtain⟨e,y⟩:=y
  subst e
  exact hs i x ys _ (y xs e2) p
 ·have e:i=xs.length:=by omega
  subst e
  exact .inl ⟨⟨xs,e2,Nat.le_refl _⟩,hd ys H p⟩
theorem g3u{X:Cx}{K:PySem.W.Frag}{e:Expr}{f:Str}{pos:Pos}{ta:TE}(hK:X.K=K)(he:PE X e ta)(hb:attributeBase e f X.env (eval e X.env)=eval e X.env):PE X (.Attribute e f pos) (h6v K ta f):=hK▸b5i he hb
end L2
namespace L2
open PySem PySem.Spec PyProof.Rows
section
variable {prog:Program}{w:World}{A:Around}{E:Value->Shared->Prop}{s:Shared}
end
section
variable {prog:Program}{w:World}{A:Around}{E:Value->Shared->Prop}{s:Shared}
end
end L2
namespace L2
open PySem PySem.Spec PyProof.Rows
section
variable {M:Model}{A:Around}{E:Value->Shared->Prop}{s:Shared}{env:Env}
end
end L2
namespace L2
open PySem PySem.Spec PyProof.Rows
section
variable {X:Cx}{o:Expr}{to:TE}{name:Str}{apos cpos:Pos}{T id:String}{r:V->List V->Hp->VK->Prop}{chk:V->Hp->Bool}
noncomputable def i1w:V->List V->Hp->VK->Prop:=fun x vs H Q=>match x,vs with
 | .str z,[.ref l]=>(match H l with
  | some (.lst xs)=>∃ ys:List Str,xs=ys.map V.str/\JoinOk z ys=true/\Q (.str (Txt.join z ys)) H
  | _=>False)
 | _,_=>False
theorem f3n:∀ {ys:List Str} {us:List Value},Vals (ys.map V.str) us->∃ l:List (Str×Tok),us=strValues l/\l.map (·.1)=ys
 | [],_,h=>by
  cases h
  exact⟨[],rfl,rfl⟩
 | y :: ys,_,h=>by
  cases h with
  | cons a b =>
   obtain⟨t,rfl⟩:=a
   obtain⟨l,rfl,e⟩:=f3n b
   exact⟨(y,t) :: l,rfl,by rw [List.map_cons,e]⟩
theorem g3v : MtR X "str.join" i1w := by
 intro pins s σ H x vs v us Q I rx rv h
 match x,vs,h with
 | .str z,[.ref l],h =>
  have h':(match H l with
   | some (.lst xs)=>∃ ys:List Str,xs=ys.map V.str/\JoinOk z ys=true/\Q (.str (Txt.join z ys)) H
   | _=>False):=h
  split at h'
  ·rename_i xs hH
   obtain⟨ys,rfl,ok,q⟩:=h'
   obtain⟨t,rfl⟩:=rx
   obtain⟨u,rfl,ru⟩:=rv.one
   cases ru
   obtain⟨its,n,r,ho,hz⟩:=I.lst hH
   obtain⟨lt,rfl,e⟩:=f3n r
   exact SC.join ⟨_,ho,rfl,_,rfl⟩ e ok fun t' k=>⟨.str _,H,I.tok k,⟨_,rfl⟩,q⟩
  ·exact h'.elim
end
theorem joinOk_of{z:Str}{ys:List Str}{n:Nat}(h:∀ y∈ys,y.length<=n)(hl:ys.length*(n+z.length)<=sizeLine):JoinOk z ys=true:=by
 unfold JoinOk
 have:∀ (ys:List Str) (a:Nat),(∀ y∈ys,y.length<=n)->ys.foldl (· + ·.length+z.length) a<=a+ys.length*(n+z.length):=by
  intro ys
  induction ys with
  | nil=>intro a _; simp
  | cons y ys ih =>
   intro a h
   have i:=ih (a+y.length+z.length) fun y hy=>h y (List.mem_cons_of_mem _ hy)
   have hy:=h y (List.mem_cons_self ..)
   rw [List.foldl_cons,List.length_cons,Nat.succ_mul]
   omega
 have t:=this ys 0 h
 rw [List.foldl_toArray]
 unfold Builtin.Str.tooLong
 simp
 omega
end L2
namespace L2
open PySem PySem.Spec PyProof.Rows
structure i4u(K:PySem.W.Frag)(w:World)(d:Addr):Prop where
 lk : ∃ es n, K.lookup d = some ⟨.type "dict", none, .dict es n, #[]⟩ ∧ PySem.W.KeysLit w.params es.toList
 ns:(d == sysModules)=false
def rNiD(K:PySem.W.Frag)(w:World)(neg:Bool):R2:=fun x y H Q=>match x,y with
 | .str z,.ref d=>i4u K w d/\∃ r,PySem.W.nsIn K d z=some r/\Q (.bl (r.isSome != neg)) H
 | _,_=>False
section
variable {X:Cx}
theorem f9j{K:PySem.W.Frag}{w:World}(eK:X.K=K)(eW:X.w=w):OpR X (compareOp .NotIn) (rNiD K w true):=by
 subst eK eW
 intro pins s σ H x y v u Q I rx ry h
 cases x <;> cases y <;> first | exact False.elim h | skip
 ·rename_i z d
  obtain⟨⟨⟨es,n,hl,hk⟩,hn⟩,r,e,q⟩:=h
  obtain⟨t,rfl⟩:=rx
  cases ry
  refine wpAny_notIn_of (PySem.strKind_is X.prog X.w z t) hn (PySem.W.mapOf_K (prog:=X.prog) I.kIn hl (hk)) ?_
  rw [PySem.W.find_K hl e]
  rw [Bool.bne_true] at q
  exact⟨.bl (!r.isSome),H,I.tok _,rfl,q⟩
def rIxD(K:PySem.W.Frag)(w:World):R2:=fun x y H Q=>match x,y with
 | .ref d,.str z=>i4u K w d/\∃ f,PySem.W.nsIn K d z=some (some (.ref f))/\Q (.ref f) H
 | _,_=>False
theorem g7g{K:PySem.W.Frag}{w:World}(eK:X.K=K)(eW:X.w=w):IxR X (rIxD K w):=by
 subst eK eW
 intro value slice pins s σ H x y v u Q I rx ry h hs
 cases x <;> cases y <;> first | exact False.elim h | skip
 ·rename_i d z
  obtain⟨⟨⟨es,n,hl,hk⟩,hn⟩,f,e,q⟩:=h
  obtain⟨t,rfl⟩:=ry
  cases rx
  have hm:=PySem.W.mapOf_K (prog:=X.prog) (w:=X.w) I.kIn hl (hk)
  exact tail_any hm.typeIs slot_dict_getitem.lookup (wpAny_getItem_of (PySem.strKind_is X.prog X.w z t) hm (PySem.W.find_K hl e) ⟨.ref f,H,I.tok _,rfl,q⟩) hs
def i1x(f:Addr)(sp:Sp)(dvs:List V)(E:XK)(tg:TE)(t:TA):TE:=fun σ H Q=>tg σ H fun x H1=>x = .ref f/\h1y sp dvs E t σ H1 Q
theorem b1t{CX:CXT}{k:Nat}{f:Addr}{fd:FuncData}{ps:List Str}{sp:Sp}{ds:List Value}{dvs:List V}{E:XK}{g e:Expr}{es:List Expr}{tg:TE}{t:TA}{pos:Pos}(F:a1g X.prog X.w X.K X.mg X.base CX k f fd ps sp)(hr:a1y k X.A)(hk:PySem.W.keepIn X.K (.ref f)=true)(hb:Binds X.K fd ps ds)(hd:Vals dvs ds)(hx:Passes CX X E)
  (hg:PE X g tg) (ha:PA X (e :: es) t) (he:starEach (e :: es) X.env=(false,eval e X.env) :: starEach es X.env:=by rfl) (hpl:(backTo pos (starEach es X.env)).any (·.1)=false:=by rfl)
  (hc:eval (.Call g (e :: es) [] pos) X.env=(do callWith pos (<- eval g X.env) [] (backTo pos (starEach (e :: es) X.env)) (backToKw pos (keywordEach [] X.env))):=by rfl) :
  PE X (.Call g (e :: es) [] pos) (i1x f sp dvs E tg t):=by
 intro pins s σ H Q I h
 refine Call_ (thn (hg pins s σ H _ I h) fun v s1 ⟨x,H1,I1,r1,ex,q1⟩=>?_) hc
 subst ex
 cases r1
 refine PySem.W.callWith_K (h₀:=X.base) I1.ok.mod.kin hk (thn (ha pos pins s1 σ H1 _ I1 q1) fun us s2 ⟨vs,H2,I2,r,q⟩=>⟨I2.kIn,?_⟩) he hpl
 exact g8a F hr hb hd hx I2 r q
theorem SP.i6s{pins:List (Addr×Obj)}{D:Ends}{f:Flow}{s:Shared}(h:SP X.nox pins D f s):SP X pins D f s:=by
 cases f with
 | next=>obtain⟨a,b,c,d⟩:=h; exact⟨a,b,c.b9w,d⟩
 | brk=>obtain⟨a,b,c,d⟩:=h; exact⟨a,b,c.b9w,d⟩
 | cont=>obtain⟨a,b,c,d⟩:=h; exact⟨a,b,c.b9w,d⟩
 | ret u=>obtain⟨v,a,b,c,d⟩:=h; exact⟨v,a,b,c.b9w,d⟩
theorem h6z{st:Stmt}{h₀:ExceptHandler}{hs:List ExceptHandler}{tb:TS}{pos:Pos}(hb:PS X.nox st tb):PS X (.Try [st] (h₀ :: hs) [] [] pos) tb:=by
 intro pins s σ H Dn I h
 refine wpAny_Try_except (wpAny_execs_cons (wpAny_mono (hb pins s σ H Dn (I.wish _) h) (fun f s1 q=>?_) fun e s1 z=>False.elim z))
 have q':=SP.i6s q
 cases f with
 | next=>exact wpAny_execs_nil (wpAny_execs_nil q')
 | ret v=>exact q'
 | brk=>exact q'
 | cont=>exact q'
end
end L2
namespace L2
open PySem PySem.Spec PyProof.Rows
theorem g3w{c:Nat}:∀ {a a' b b':List Nat},a++c :: b=a'++c :: b'->c∉a->c∉a'->a=a'/\b=b'
 | [],[],_,_,h,_,_=>by simpa using h
 | [],d :: a',_,_,h,_,h2=>by
  rw [List.nil_append,List.cons_append,List.cons.injEq] at h
  exact absurd (by rw [h.1]; exact List.mem_cons_self) h2
 | d :: a,[],_,_,h,h1,_=>by
  rw [List.nil_append,List.cons_append,List.cons.injEq] at h
  exact absurd (by rw [h.1]; exact List.mem_cons_self) h1
 | d :: a,d' :: a',_,_,h,h1,h2=>by
  rw [List.cons_append,List.cons_append,List.cons.injEq] at h
  obtain⟨e1,e2⟩:=g3w h.2 (fun q=>h1 (List.mem_cons_of_mem _ q)) (fun q=>h2 (List.mem_cons_of_mem _ q))
  exact⟨by rw [h.1,e1],e2⟩
theorem a9i(c:Nat)(p q:Str)(r:List Str):sg (Str.join ⟨#[c]⟩ (p :: q :: r))=sg p++c :: sg (Str.join ⟨#[c]⟩ (q :: r)):=by
 show sg (p++⟨#[c]⟩++Str.join ⟨#[c]⟩ (q :: r))=_
 rw [a4p,a4p,List.append_assoc]
 rfl
theorem f9k{c:Nat}:∀ {ps qs:List Str},ps≠[]->qs≠[]->(∀ p∈ps,c∉sg p)->(∀ q∈qs,c∉sg q)->sg (Str.join ⟨#[c]⟩ ps)=sg (Str.join ⟨#[c]⟩ qs)->ps=qs
 | [],_,h,_,_,_,_=>absurd rfl h
 | _ :: _,[],_,h,_,_,_=>absurd rfl h
 | [p],[q],_,_,_,_,e=>by
  rw [a6r (show sg p=sg q from e)]
 | [p],q :: q' :: qs,_,_,fp,_,e=>by
  rw [a9i] at e
  exact absurd (by rw [show sg p=_ from e]; simp) (fp p (List.mem_cons_self ..))
 | p :: p' :: ps,[q],_,_,_,fq,e=>by
  rw [a9i] at e
  exact absurd (by rw [show sg q=_ from e.symm]; simp) (fq q (List.mem_cons_self ..))
 | p :: p' :: ps,q :: q' :: qs,_,_,fp,fq,e=>by
  rw [a9i,a9i] at e
  obtain⟨e1,e2⟩:=g3w e (fp p (List.mem_cons_self ..)) (fq q (List.mem_cons_self ..))
  rw [a6r e1,f9k (by simp) (by simp) (fun x hx=>fp x (List.mem_cons_of_mem _ hx)) (fun x hx=>fq x (List.mem_cons_of_mem _ hx)) e2]
theorem d9l(x y:Str):a3r x y=Txt.split x y:=rfl
theorem d2z(x y:Str):Txt.split x y≠[]:=by
 unfold Txt.split
 split
 ·simp
 ·split
  ·simp
  ·rw [StrLaws.partsBetween_eq]
   obtain⟨p,r,e⟩:=StrLaws.partsFrom_ne x y.length 0 (Builtin.Str.occurrences x y 0 x.length (x.length+1))
   rw [e]
   simp
theorem d5g{x:Str}{c:Nat}{ps:List Str}(hn:ps≠[])(hf:∀ p∈ps,c∉sg p)(h:sg x=sg (Str.join ⟨#[c]⟩ ps)):a3r x ⟨#[c]⟩=ps:=by
 rw [d9l]
 refine f9k (c:=c) (d2z _ _) hn (fun p hp=>StrLaws.split_free x c p hp) hf ?_
 rw [StrLaws.join_split,h]
end L2
namespace L2
open PySem PySem.Spec PyProof.Rows
def d5h(t t':TE):TE:=fun σ H Q=>t σ H Q\/t' σ H Q
theorem a3t{X:Cx}{e:Expr}{t t':TE}(h:PE X e t)(h':PE X e t'):PE X e (d5h t t'):=fun pins s σ H Q I z=>z.elim (h pins s σ H Q I) (h' pins s σ H Q I)
theorem g1m:∀ (k n:Nat),n < 10 ^ (k+1)->(dg n).length<=k+1
 | 0,n,h=>by
  rw [f2n (by omega)]
  exact Nat.le_refl _
 | k+1,n,h=>by
  rcases Nat.lt_or_ge n 10 with z | z
  ·rw [f2n z,List.length_singleton]
   omega
  ·have e:n=10*(n / 10)+n % 10:=by omega
   rw [e,d4z (by omega) (by omega),List.length_append,List.length_singleton]
   have:=g1m k (n / 10) (by rw [Nat.pow_succ] at h; omega)
   omega
open PySem.Builtin.Int (intBits)
noncomputable def fW (x : Rat) : Str := Str.empty ++ Str.ofString (toString x.num) ++ Str.ofString "/" ++ Str.ofString (toString (x.den : Int))
noncomputable def cW (c : Int × Rat) : Str := Str.empty ++ Str.ofString (toString c.1) ++ Str.ofString "=" ++ fW c.2
noncomputable def nW(n:Nat):Str:=Str.ofString (toString (n:Int))
def YOk(y:Rat):Prop:=y.num.natAbs<=1000/\y.den<=1000
inductive Dt where
 | gain (y:Rat)
 | delay (n:Nat)
 | echo (y:Rat) (n t:Nat)
 | back (y:Rat) (n:Nat)
 | hall (y:Rat) (n:Nat)
 | swell (cs:List (Int×Rat))
noncomputable def Dt.kd:Dt->Nat
 | .gain _=>0
 | .delay _=>1
 | .echo .. => 2
 | .back .. => 3
 | .hall .. => 4
 | .swell _=>5
noncomputable def Dt.kind:Dt->Str
 | .gain _ => Str.ofString "gain"
 | .delay _ => Str.ofString "delay"
 | .echo .. => Str.ofString "echo"
 | .back .. => Str.ofString "back"
 | .hall .. => Str.ofString "hall"
 | .swell _ => Str.ofString "swell"
noncomputable def Dt.vals:Dt->List Str
 | .gain y=>[fW y]
 | .delay n=>[nW n]
 | .echo y n t=>[fW y,nW n,nW t]
 | .back y n=>[fW y,nW n]
 | .hall y n=>[fW y,nW n]
 | .swell cs=>[Str.join ⟨#[44]⟩ (cs.map cW)]
noncomputable def Dt.word(d:Dt):Str:=Str.join ⟨#[58]⟩ (d.kind :: d.vals)
def f5u(cs:List (Int×Rat)):Prop:=(∀ c∈cs,0<=c.1/\c.1<=100000/\YOk c.2)/\(∀ (i:Nat) c d,cs[i]? = some c->cs[i+1]? = some d->c.1 < d.1)/\1<=cs.length/\cs.length<=12
noncomputable def Dt.ok:Dt->Prop
 | .gain y=>YOk y
 | .delay n=>n<=1000
 | .echo y n t=>YOk y/\1<=n/\n<=1000/\t<=16
 | .back y n=>YOk y/\1<=n/\n<=1000
 | .hall y n=>YOk y/\(y.num.natAbs:Int) < y.den/\1<=n/\n<=1000
 | .swell cs=>f5u cs
theorem c8i{t:Int}{n:Nat}(h:t.natAbs < 2 ^ n)(hn:1<=n):t.natAbs.log2 < n:=by
 rcases Nat.eq_zero_or_pos t.natAbs with z | z
 ·rw [z]
  show Nat.log2 0 < n
  have:Nat.log2 0=0:=by decide
  omega
 ·rw [Nat.log2_lt (by omega)]
  exact h
theorem c4m{t:Int}{n:Nat}(h:t.natAbs < 2 ^ n)(hn:1<=n):(Str.ofString (toString t)).length<=n+1:=by
 have e:(Str.ofString (toString t)).length=(txt t).length:=by rw [<- a3k,c8h]
 have:=g1h t
 have:=c8i h hn
 omega
theorem f3o{n:Nat}(h:n < 2 ^ 20):(nW n).length<=21:=c4m (t:=(n:Int)) (n:=20) (by omega) (by decide)
theorem YOk.b{y:Rat}(h:YOk y):intBits y.num<=10/\intBits (y.den:Int)<=10:=⟨intBits_le_iff.mpr (Nat.lt_of_le_of_lt h.1 (by decide)),intBits_le_iff.mpr (Nat.lt_of_le_of_lt (show (y.den:Int).natAbs<=1000 from h.2) (by decide))⟩
theorem d7g{x:Rat}(h1:intBits x.num<=10)(h2:intBits (x.den:Int)<=10):(fW x).length<=23:=by
 have a:=c4m (intBits_le_iff.mp h1) (by decide)
 have b:=c4m (intBits_le_iff.mp h2) (by decide)
 have e0:Str.empty.length=0:=rfl
 have e1 : (Str.ofString "/").length = 1 := by decide +kernel
 unfold fW
 simp only [strLen_append,e0,e1]
 omega
theorem h5f{c:Int×Rat}(h0:c.1.natAbs < 2 ^ 20)(h1:intBits c.2.num<=10)(h2:intBits (c.2.den:Int)<=10):(cW c).length<=45:=by
 have a:=c4m h0 (by decide)
 have b:=d7g h1 h2
 have e0:Str.empty.length=0:=rfl
 have e1 : (Str.ofString "=").length = 1 := by decide +kernel
 unfold cW
 simp only [strLen_append,e0,e1]
 omega
theorem c4n(n:Nat):sg (nW n)=txt (n:Int):=c8h _
theorem f9l(y:Rat):sg (fW y)=g1i y.num (y.den:Int):=by
 unfold fW g1i
 rw [a4p,a4p,a4p,c8h,c8h]
 have e4:sg Str.empty = []:=rfl
 have e5 : sg (Str.ofString "/") = [47] := by decide +kernel
 rw [e4,e5]
 simp
theorem f5v(c:Int×Rat):sg (cW c)=txt c.1++61 :: sg (fW c.2):=by
 unfold cW
 rw [a4p,a4p,a4p,c8h]
 have e4:sg Str.empty = []:=rfl
 have e5 : sg (Str.ofString "=") = [61] := by decide +kernel
 rw [e4,e5]
 simp
theorem h7a{y:Rat}(h:YOk y):Good (sg (fW y)) y.num (y.den:Int):=by
 have dp:=y.den_pos
 refine⟨f9l y,by omega,y.reduced,?_,?_⟩
 ·exact g1m 8 _ (Nat.lt_of_le_of_lt h.1 (by decide))
 ·exact g1m 8 _ (Nat.lt_of_le_of_lt (show (y.den:Int).natAbs<=1000 from h.2) (by decide))
theorem g5w{c:Nat}(h1:c≠45)(h2:57 < c)(y:Rat):c∉sg (fW y):=by
 rw [f9l]
 unfold g1i
 intro h
 rcases List.mem_append.mp h with z | z
 ·exact c2i h1 (.inr h2) z
 ·rcases List.mem_cons.mp z with z | z
  ·omega
  ·exact c2i h1 (.inr h2) z
theorem g8y{c:Nat}(h1:c≠45)(h2:c < 48\/57 < c)(n:Nat):c∉sg (nW n):=by
 rw [c4n]
 exact c2i h1 h2
theorem h7b(y:Rat):44∉sg (fW y):=by
 rw [f9l]
 unfold g1i
 intro h
 rcases List.mem_append.mp h with z | z
 ·exact c2i (by decide) (.inl (by decide)) z
 ·rcases List.mem_cons.mp z with z | z
  ·omega
  ·exact c2i (by decide) (.inl (by decide)) z
theorem h7c(c:Int×Rat):44∉sg (cW c):=by
 rw [f5v]
 intro h
 rcases List.mem_append.mp h with z | z
 ·exact c2i (by decide) (.inl (by decide)) z
 ·rcases List.mem_cons.mp z with z | z
  ·omega
  ·exact h7b _ z
theorem h7d(c:Int×Rat):58∉sg (cW c):=by
 rw [f5v]
 intro h
 rcases List.mem_append.mp h with z | z
 ·exact c2i (by decide) (.inr (by decide)) z
 ·rcases List.mem_cons.mp z with z | z
  ·omega
  ·exact g5w (by decide) (by decide) _ z
theorem g8z{c k:Nat}(hk:c≠k):∀ {ps:List Str},(∀ p∈ps,c∉sg p)->c∉sg (Str.join ⟨#[k]⟩ ps)
 | [],_=>by
  show c∉([] : List Nat)
  simp
 | [p],h=>h p (List.mem_cons_self ..)
 | p :: q :: r,h=>by
  rw [a9i]
  intro z
  rcases List.mem_append.mp z with z | z
  ·exact h p (List.mem_cons_self ..) z
  ·rcases List.mem_cons.mp z with z | z
   ·exact hk z
   ·exact g8z hk (fun x hx=>h x (List.mem_cons_of_mem _ hx)) z
theorem f9m{b:Nat}:∀ {l:List Nat},(∀ x∈l,x<=b)->l.sum<=l.length*b
 | [],_=>Nat.zero_le _
 | x :: l,h=>by
  have i:=f9m (l:=l) fun y hy=>h y (List.mem_cons_of_mem _ hy)
  have:=h x (List.mem_cons_self ..)
  rw [List.sum_cons,List.length_cons,Nat.succ_mul]
  omega
theorem f5w{z:Str}{ps:List Str}{n:Nat}(h:∀ p∈ps,p.length<=n):(Str.join z ps).length<=ps.length*n+ps.length*z.length:=by
 have a:=StrLaws.join_length_le z ps
 have b:=f9m (b:=n) (l:=ps.map (·.length)) fun x hx=>by
  obtain⟨y,hy,rfl⟩:=List.mem_map.mp hx
  exact h y hy
 rw [List.length_map] at b
 have c:(ps.length - 1)*z.length<=ps.length*z.length:=Nat.mul_le_mul_right _ (Nat.sub_le _ _)
 omega
theorem f5u.len{cs:List (Int×Rat)}(h:f5u cs):∀ c∈cs,(cW c).length<=45:=fun c hc=>by
 obtain⟨a,b,y⟩:=h.1 c hc
 exact h5f (by omega) y.b.1 y.b.2
theorem f5u.i6t{cs:List (Int×Rat)}(h:f5u cs):(Str.join ⟨#[44]⟩ (cs.map cW)).length<=600:=by
 have a:=f5w (z:=⟨#[44]⟩) (ps:=cs.map cW) (n:=45) fun p hp=>by
  obtain⟨c,hc,rfl⟩:=List.mem_map.mp hp
  exact h.len c hc
 rw [List.length_map,d4y] at a
 have:=h.2.2.2
 omega
theorem Dt.free{d:Dt}:∀ p∈d.kind :: d.vals,58∉sg p:=by
 cases d <;> intro p hp <;> simp only [Dt.kind,Dt.vals,List.mem_cons,List.not_mem_nil,or_false] at hp
 case gain => rcases hp with rfl | rfl; decide +kernel; exact g5w (by decide) (by decide) _
 case delay => rcases hp with rfl | rfl; decide +kernel; exact g8y (by decide) (.inr (by decide)) _
 case echo => rcases hp with rfl | rfl | rfl | rfl; decide +kernel; exact g5w (by decide) (by decide) _; exact g8y (by decide) (.inr (by decide)) _; exact g8y (by decide) (.inr (by decide)) _
 case back => rcases hp with rfl | rfl | rfl; decide +kernel; exact g5w (by decide) (by decide) _; exact g8y (by decide) (.inr (by decide)) _
 case hall => rcases hp with rfl | rfl | rfl; decide +kernel; exact g5w (by decide) (by decide) _; exact g8y (by decide) (.inr (by decide)) _
 case swell cs =>
  rcases hp with rfl | rfl
  ·decide +kernel
  ·refine g8z (by decide) fun p hp=>?_
   obtain⟨c,_,rfl⟩:=List.mem_map.mp hp
   exact h7d c
theorem Dt.vlen{d:Dt}(h:d.ok):∀ p∈d.kind :: d.vals,p.length<=600:=by
 have k1 : (Str.ofString "gain").length = 4 := by decide +kernel
 have k2 : (Str.ofString "delay").length = 5 := by decide +kernel
 have k3 : (Str.ofString "echo").length = 4 := by decide +kernel
 have k4 : (Str.ofString "back").length = 4 := by decide +kernel
 have k5 : (Str.ofString "hall").length = 4 := by decide +kernel
 have k6 : (Str.ofString "swell").length = 5 := by decide +kernel
 have f:∀ {y:Rat},YOk y->(fW y).length<=600:=fun h=>Nat.le_trans (d7g h.b.1 h.b.2) (by decide)
 have g:∀ {n:Nat},n<=1000->(nW n).length<=600:=fun h=>Nat.le_trans (f3o (Nat.lt_of_le_of_lt h (by decide))) (by decide)
 cases d <;> intro p hp <;> simp only [Dt.kind,Dt.vals,List.mem_cons,List.not_mem_nil,or_false] at hp
 case gain => rcases hp with rfl | rfl; omega; exact f h
 case delay => rcases hp with rfl | rfl; omega; exact g h
 case echo => rcases hp with rfl | rfl | rfl | rfl; omega; exact f h.1; exact g h.2.2.1; exact g (Nat.le_trans h.2.2.2 (by decide))
 case back => rcases hp with rfl | rfl | rfl; omega; exact f h.1; exact g h.2.2
 case hall => rcases hp with rfl | rfl | rfl; omega; exact f h.1; exact g h.2.2.2
 case swell cs => rcases hp with rfl | rfl; omega; exact h.i6t
theorem Dt.vn{d:Dt}:d.vals.length<=3:=by
 cases d <;> simp [Dt.vals]
theorem Dt.wlen{d:Dt}(h:d.ok):d.word.length<=4000:=by
 have a:=f5w (z:=⟨#[58]⟩) (d.vlen h)
 have b:=d.vn
 rw [List.length_cons,d4y] at a
 unfold Dt.word
 omega
theorem Dt.split(d:Dt):a3r d.word ⟨#[58]⟩=d.kind :: d.vals:=d5g (by simp) d.free rfl
theorem d3g{cs:List (Int×Rat)}(h:1<=cs.length):a3r (Str.join ⟨#[44]⟩ (cs.map cW)) ⟨#[44]⟩=cs.map cW:=d5g (by intro z; have:=congrArg List.length z; rw [List.length_map,List.length_nil] at this; omega) (fun p hp=>by
 obtain⟨c,_,rfl⟩:=List.mem_map.mp hp
 exact h7c c) rfl
theorem f9n{c:Int×Rat}:a3r (cW c) ⟨#[61]⟩ = [Str.ofString (toString c.1),fW c.2]:=d5g (by simp) (fun p hp=>by
 rcases List.mem_cons.mp hp with rfl | hp
 ·rw [c8h]
  exact c2i (by decide) (.inr (by decide))
 ·rw [List.mem_singleton.mp hp]
  exact g5w (by decide) (by decide) _) (by rw [a9i,f5v,c8h]; rfl)
theorem g1n(z p:Str):Str.join z [p]=p:=rfl
theorem g5x:sg Str.empty = []:=rfl
theorem i1y : sg (Str.ofString "gain:") = sg (Str.ofString "gain") ++ [58] := by decide +kernel
theorem h7e : sg (Str.ofString "delay:") = sg (Str.ofString "delay") ++ [58] := by decide +kernel
theorem i2a : sg (Str.ofString "echo:") = sg (Str.ofString "echo") ++ [58] := by decide +kernel
theorem i2b : sg (Str.ofString "back:") = sg (Str.ofString "back") ++ [58] := by decide +kernel
theorem i2c : sg (Str.ofString "hall:") = sg (Str.ofString "hall") ++ [58] := by decide +kernel
theorem h7f : sg (Str.ofString "swell:") = sg (Str.ofString "swell") ++ [58] := by decide +kernel
theorem g5y : sg (Str.ofString ":") = [58] := by decide +kernel
theorem g9a : Str.ofString "," = ⟨#[44]⟩ := by decide +kernel
theorem h7g : Str.ofString ":" = ⟨#[58]⟩ := by decide +kernel
theorem h7h : Str.ofString "=" = ⟨#[61]⟩ := by decide +kernel
theorem i2d (y : Rat) : Str.empty ++ Str.ofString "gain:" ++ fW y = (Dt.gain y).word := a6r (by
 simp only [Dt.word,Dt.kind,Dt.vals,a4p,a9i,g1n,g5x,i1y,g5y,List.nil_append,List.append_assoc,List.singleton_append,List.cons_append])
theorem h7i (n : Nat) : Str.empty ++ Str.ofString "delay:" ++ nW n = (Dt.delay n).word := a6r (by
 simp only [Dt.word,Dt.kind,Dt.vals,a4p,a9i,g1n,g5x,h7e,g5y,List.nil_append,List.append_assoc,List.singleton_append,List.cons_append])
theorem i2e (y : Rat) (n t : Nat) : Str.empty ++ Str.ofString "echo:" ++ fW y ++ Str.ofString ":" ++ nW n ++ Str.ofString ":" ++ nW t = (Dt.echo y n t).word := a6r (by
 simp only [Dt.word,Dt.kind,Dt.vals,a4p,a9i,g1n,g5x,i2a,g5y,List.nil_append,List.append_assoc,List.singleton_append,List.cons_append])
theorem i2f (y : Rat) (n : Nat) : Str.empty ++ Str.ofString "back:" ++ fW y ++ Str.ofString ":" ++ nW n = (Dt.back y n).word := a6r (by
 simp only [Dt.word,Dt.kind,Dt.vals,a4p,a9i,g1n,g5x,i2b,g5y,List.nil_append,List.append_assoc,List.singleton_append,List.cons_append])
theorem i2g (y : Rat) (n : Nat) : Str.empty ++ Str.ofString "hall:" ++ fW y ++ Str.ofString ":" ++ nW n = (Dt.hall y n).word := a6r (by
 simp only [Dt.word,Dt.kind,Dt.vals,a4p,a9i,g1n,g5x,i2c,g5y,List.nil_append,List.append_assoc,List.singleton_append,List.cons_append])
theorem h7j(z:Str)(ps:List Str):Txt.join z ps=Str.join z ps:=by
 show Builtin.Str.glued _ _=_
 rw [StrLaws.glued_eq_join]
theorem h7k (cs : List (Int × Rat)) : Str.empty ++ Str.ofString "swell:" ++ Txt.join (Str.ofString ",") (cs.map cW) = (Dt.swell cs).word := a6r (by
 rw [h7j,g9a]
 simp only [Dt.word,Dt.kind,Dt.vals,a4p,a9i,g1n,g5x,h7f,g5y,List.nil_append,List.append_assoc,List.singleton_append,List.cons_append])
end L2
namespace L2
open PySem PySem.Spec PyProof.Rows
section
variable {X:Cx}
end
end L2
namespace L2
open PySem PySem.Spec PyProof.Rows PySem.W
end L2
namespace L2
open PySem PySem.Spec PyProof.Rows
section
variable {X:Cx}
end
section
variable {X:Cx}{scope:Scope}{x y:Str}{pins:List (Addr×Obj)}{σ:St}{elt iter cnd:Expr}{px py tpos pos:Pos}{kk:Nat}{wi:TI}{te:TE}{tc:TT}
end
end L2
namespace L2
open PySem PySem.Spec PyProof.Rows
theorem hu1{n:Nat}(h:n+64 < cLine):n+1 < cLine:=by omega
section
variable {X:Cx}{o i e value:Expr}{pos pos' tpos:Pos}{td ty tv tk:TE}
end
end L2
namespace L2
open PySem PySem.Spec PyProof.Rows PySem.W
mutual
inductive Rp(H:Hp)(N:Addr->Prop):V->Dat->Prop
 | str (s:Str):Rp H N (.str s) (.str s)
 | int (n:Int):Rp H N (.int n) (.int n)
 | lst {p:Addr} {vs:List V} {ds:List Dat}:N p->H p=some (.lst vs)->RpL H N vs ds->Rp H N (.ref p) (.list ds)
 | tup {p:Addr} {vs:List V} {ds:List Dat}:H p=some (.tup vs)->RpL H N vs ds->Rp H N (.ref p) (.tuple ds)
inductive RpL(H:Hp)(N:Addr->Prop):List V->List Dat->Prop
 | nil:RpL H N [] []
 | cons {v:V} {vs:List V} {d:Dat} {ds:List Dat}:Rp H N v d->RpL H N vs ds->RpL H N (v :: vs) (d :: ds)
end
section
variable {H H':Hp}{N M:Addr->Prop}
mutual
theorem Rp.go(h1:∀ z vs,N z->H z=some (.lst vs)->H' z=some (.lst vs)/\M z)(h2:∀ z vs,H z=some (.tup vs)->H' z=some (.tup vs)):∀ {v:V} {d:Dat},Rp H N v d->Rp H' M v d
 | _,_,.str s=>.str s
 | _,_,.int n=>.int n
 | _,_,.lst n h r=>.lst (h1 _ _ n h).2 (h1 _ _ n h).1 (RpL.go h1 h2 r)
 | _,_,.tup h r=>.tup (h2 _ _ h) (RpL.go h1 h2 r)
theorem RpL.go(h1:∀ z vs,N z->H z=some (.lst vs)->H' z=some (.lst vs)/\M z)(h2:∀ z vs,H z=some (.tup vs)->H' z=some (.tup vs)):∀ {vs:List V} {ds:List Dat},RpL H N vs ds->RpL H' M vs ds
 | _,_,.nil=>.nil
 | _,_,.cons h r=>.cons (Rp.go h1 h2 h) (RpL.go h1 h2 r)
end
mutual
theorem Rp.deep{K:PySem.W.Frag}:∀ {v:V} {d:Dat},Rp H N v d->g5n K H v (kqdP d)
 | _,_,.str s=>by rw [kqdP]; exact .str s
 | _,_,.int n=>by rw [kqdP]; exact .int n
 | _,_,.lst n h r=>by rw [kqdP]; exact .lst (SqL.of h) (RpL.deep r)
 | _,_,.tup h r=>by rw [kqdP]; exact .tup (SqT.of h) (RpL.deep r)
theorem RpL.deep{K:PySem.W.Frag}:∀ {vs:List V} {ds:List Dat},RpL H N vs ds->d1n K H vs (kqdPs ds)
 | _,_,.nil=>.nil
 | _,_,.cons h r=>.cons (Rp.deep h) (RpL.deep r)
end
theorem RpL.at:∀ {vs:List V} {ds:List Dat} {i:Nat} {d:Dat},RpL H N vs ds->ds[i]? = some d->∃ v,vs[i]? = some v/\Rp H N v d
 | _,_,_,_,.nil,h=>by simp at h
 | _,_,0,_,.cons h r,e=>by cases e; exact⟨_,rfl,h⟩
 | _,_,i+1,_,.cons h r,e=>by
  rw [List.getElem?_cons_succ] at e
  obtain⟨v,e1,e2⟩:=RpL.at r e
  exact⟨v,by rw [List.getElem?_cons_succ]; exact e1,e2⟩
theorem Rp.list{v:V}{ds:List Dat}(h:Rp H N v (.list ds)):∃ p vs,v = .ref p/\N p/\H p=some (.lst vs)/\RpL H N vs ds:=by
 cases h with
 | lst n e r=>exact⟨_,_,rfl,n,e,r⟩
theorem Rp.tuple{v:V}{ds:List Dat}(h:Rp H N v (.tuple ds)):∃ p vs,v = .ref p/\H p=some (.tup vs)/\RpL H N vs ds:=by
 cases h with
 | tup e r=>exact⟨_,_,rfl,e,r⟩
theorem RpL.two{vs:List V}{a b:Dat}(h:RpL H N vs [a,b]):∃ x y,vs = [x,y]/\Rp H N x a/\Rp H N y b:=by
 cases h with
 | cons h1 r=>cases r with
  | cons h2 r=>cases r; exact⟨_,_,rfl,h1,h2⟩
end
noncomputable abbrev Sd:=Str×Str×List Str
structure Pd where
 ts:List Str
 bs:List Str
 es:List Sd
 os:List (Str×Int)
noncomputable def g1o(ss:List Str):Dat:=.list (ss.map .str)
noncomputable def dSd(e:Sd):Dat:=.tuple [.str e.1,.str e.2.1,g1o e.2.2]
noncomputable def dOu(x:Str×Int):Dat:=.tuple [.str x.1,.int x.2]
noncomputable def dPd(p:Pd):Dat:=.list [g1o p.ts,g1o p.bs,.list (p.es.map dSd),.list (p.os.map dOu)]
noncomputable def Nw(N:Addr->Prop)(t b sd ou:Addr):Addr->Prop:=fun a=>N a/\a≠t/\a≠b/\a≠sd/\a≠ou
structure Fl(H:Hp)(N:Addr->Prop)(t b sd ou:Addr)(p:Pd):Prop where
 n:N t/\N b/\N sd/\N ou
 d:t≠b/\t≠sd/\t≠ou/\b≠sd/\b≠ou/\sd≠ou
 ht:H t=some (.lst (p.ts.map V.str))
 hb:H b=some (.lst (p.bs.map V.str))
 hs:∃ us,H sd=some (.lst us)/\RpL H (Nw N t b sd ou) us (p.es.map dSd)
 ho:∃ us,H ou=some (.lst us)/\RpL H (Nw N t b sd ou) us (p.os.map dOu)
section
variable {H H':Hp}{N M:Addr->Prop}{t b sd ou:Addr}{p:Pd}
end
section
variable {H H':Hp}{N M:Addr->Prop}{L:Addr}{p:Pd}
end
structure i9c(p:Pd):Prop where
 t:∀ s∈p.ts,PyData.strOk s=true
 b:∀ s∈p.bs,PyData.strOk s=true
 s:∀ e∈p.es,PyData.strOk e.1=true/\PyData.strOk e.2.1=true/\∀ x∈e.2.2,PyData.strOk x=true
 o:∀ x∈p.os,PyData.strOk x.1=true
theorem f5y{n:Nat}{ss:List Str}(h:∀ s∈ss,PyData.strOk s=true):kqdOk (n+1) (g1o ss)=true:=by
 show (ss.map Dat.str).all (kqdOk n)=true
 rw [List.all_eq_true]
 intro d hd
 obtain⟨s,hs,rfl⟩:=List.mem_map.mp hd
 cases n <;> exact h s hs
theorem i2h{n:Nat}{es:List Sd}(h:∀ e∈es,PyData.strOk e.1=true/\PyData.strOk e.2.1=true/\∀ x∈e.2.2,PyData.strOk x=true):kqdOk (n+3) (.list (es.map dSd))=true:=by
 show (es.map dSd).all (kqdOk (n+2))=true
 rw [List.all_eq_true]
 intro d hd
 obtain⟨e,he,rfl⟩:=List.mem_map.mp hd
 show (PyData.strOk e.1 && (PyData.strOk e.2.1 && (kqdOk (n+1) (g1o e.2.2) && true)))=true
 rw [(h e he).1,(h e he).2.1,f5y (h e he).2.2]
 rfl
theorem i2i{n:Nat}{os:List (Str×Int)}(h:∀ x∈os,PyData.strOk x.1=true):kqdOk (n+3) (.list (os.map dOu))=true:=by
 show (os.map dOu).all (kqdOk (n+2))=true
 rw [List.all_eq_true]
 intro d hd
 obtain⟨e,he,rfl⟩:=List.mem_map.mp hd
 show (PyData.strOk e.1 && (true && true))=true
 rw [h e he]
 rfl
theorem i9c.k{p:Pd}(h:i9c p):kqdOk 4 (dPd p)=true:=by
 show (kqdOk 3 (g1o p.ts) && (kqdOk 3 (g1o p.bs) && (kqdOk 3 (.list (p.es.map dSd)) && (kqdOk 3 (.list (p.os.map dOu)) && true))))=true
 rw [f5y h.t,f5y h.b,i2h h.s,i2i h.o]
 rfl
end L2
namespace L2
open PySem PySem.Spec PyProof.Rows
section
variable {X:Cx}
end
end L2
namespace L2
open PySem PySem.Spec PyProof.Rows
noncomputable def i2j(K:PySem.W.Frag)(C fI:Addr):Bool:=match K.lookup C with
 | some ⟨.type "type", _, .cls cd, sl⟩ => (match cd.mro, sl.toList with
  | .ref C' :: bm, [_, _, _, _, some (.builtin n), _] => (C' == C && n == "ValueError.__new__") && (!cd.hasDel && PySem.W.tailIn K vE bm) && (PySem.W.nsOkIn K cd.ns && PySem.W.nsIn K cd.ns "__init__" == some (some (.ref fI)))
  | _,_=>false)
 | _=>false
section
variable {prog:Program}{w:World}{A:Around}{E:Value->Shared->Prop}{h:Heap}{g:Array GenState}{d:Drawn}{t:Nat}{os:OsState}
variable {nm q:Str}{C N:Addr}{bs bm:List Value}{hdct:Bool}{sn:List Str}{sub:List Value}{ab:Bool}{col:Option Bool}{dd:Option Addr}{k0 k1 k2 k3 k5:Option Value}
end
end L2
namespace L2
open PySem PySem.Spec PyProof.Rows
section
variable {X:Cx}{pins:List (Addr×Obj)}{σ:St}{H:Hp}{s:Shared}{e:Addr}
end
section
variable {P:Program}{w:World}{K:PySem.W.Frag}{mg:Str->Option Value}{base:Heap}{N:List Str}{qual:Str}{scope:Scope}{f:Addr}{cd:Value}{A:Around}{outer:List Env}{s:Shared}{H:Hp}{E:XK}
end
section
variable {X:Cx}{k:Nat}{f C:Addr}{fd:FuncData}{ps:List Str}{sp:Sp}{E:XK}{x:Str}
end
end L2
namespace L2
open PySem PySem.Spec PyProof.Rows
section
variable {prog:Program}{w:World}{A:Around}{E:Value->Shared->Prop}{h:Heap}{g:Array GenState}{d:Drawn}{t:Nat}{os:OsState}
variable {nm q:Str}{C N:Addr}{bs bm:List Value}{hdct:Bool}{sn:List Str}{sub:List Value}{ab:Bool}{col:Option Bool}{dd:Option Addr}{k0 k1 k2 k3 k5:Option Value}
end
structure XAt(K:PySem.W.Frag)(C:Addr)(f:Str):Prop where
 sa : PySem.W.findIn K (.ref C) "__setattr__" = some (some (.builtin "object.__setattr__"))
 na:PySem.W.findIn K (.ref C) f=some none
 hd:PySem.W.hasDictIn K C=true
section
variable {prog:Program}{w:World}{A:Around}{E:Value->Shared->Prop}{s:Shared}{K:PySem.W.Frag}{C fI:Addr}{name:Str}{v:Value}
end
section
variable {prog:Program}{w:World}{A:Around}{E:Value->Shared->Prop}{h:Heap}{g:Array GenState}{d:Drawn}{t:Nat}{os:OsState}{K:PySem.W.Frag}{a C dx:Addr}{o:Obj}{mA:Str->Option Value}{name:Str}{v:Value}
end
section
variable {X:Cx}{f C:Addr}{name:Str}{pos pos' apos p np:Pos}{ta tv:TE}{e₀ o value:Expr}{es:List Expr}{t:TA}{m:Str}{M:Addr}
structure XIn(K:PySem.W.Frag)(M:Addr):Prop where
 sp : PySem.W.specialIn K (.ref M) "__getattribute__" = some (some (.builtin "type.__getattribute__"))
 rd : PySem.W.readsIn K M (.type "type") = true
 fi : PySem.W.findCls K (.ref M) (.type "type") "__init__" = some (.val (.builtin "ValueError.__init__"))
end
end L2
namespace L2
open PySem PySem.Spec PyProof.Rows
section
variable {X:Cx}{k:Nat}{f C:Addr}{fd:FuncData}{ps:List Str}{sp:Sp}{dvs:List V}{ds:List Value}{E:XK}{m:Str}{pos apos:Pos}{e o:Expr}{es:List Expr}{ta:TE}{t:TA}
end
structure i9d(K:PySem.W.Frag)(C f:Addr)(name:Str):Prop where
 ok:i2j K C f=true
 fn:PySem.W.isFn K (.ref f)=true
 kp:PySem.W.keepIn K (.ref C)=true
 sa : PySem.W.findIn K (.ref C) "__setattr__" = some (some (.builtin "object.__setattr__"))
 na:PySem.W.findIn K (.ref C) name=some none
 hd:PySem.W.hasDictIn K C=true
theorem i9d.at{K:PySem.W.Frag}{C f:Addr}{name:Str}(h:i9d K C f name):XAt K C name:=⟨h.sa,h.na,h.hd⟩
end L2
namespace L2
open PySem PySem.Spec PyProof.Rows
structure h8w(X:Cx)(scope:Scope)(x y zz:Str):Prop where
 kind:scope.kind = .function
 d2w:∀ y∈scope.names,y.2≠.cell
 loc:∀ y∈scope.names,y.2 = .local->scope.names.lookup y.1=some .local
 own:scope.names.lookup x=some .local
 i6o:scope.names.lookup y=some .local
 own3:scope.names.lookup zz=some .local
 free:∀ y∈scope.names,y.2 = .free->X.env.kindOf y.1=some .cell\/X.env.kindOf y.1=some .free
 nd:(x :: y :: zz :: mask x X.N).Nodup
 noe : ∀ y ∈ scope.names, y.1 ≠ ""
 vis:∀ y∈mask x X.N,scope.names.lookup y≠some .local
section
variable {X:Cx}{scope:Scope}{x y zz:Str}{cl:List (Str×Addr)}{pins:List (Addr×Obj)}{σ:St}{H:Hp}{s s₄:Shared}{fp:List Addr}
end
section
variable {X:Cx}{scope:Scope}{x y zz:Str}{pins:List (Addr×Obj)}{σ:St}{elt iter:Expr}{px py pz tpos pos:Pos}{kk:Nat}{wi:TI}{te:TE}
end
end L2
namespace L2
open PySem PySem.Spec PyProof.Rows
theorem d9m{e:Value}{f:Option Addr}:c3j (setFlight e f):=by
 unfold setFlight
 refine c3j.bind (fun v=>?_) c5l
 split
 ·exact b9y (by decide)
 ·exact True.intro
theorem g5z{e:Value}{env env':Env}(h:env.frame=env'.frame):noteFrame e env=noteFrame e env':=by
 unfold noteFrame PySem.frameOf
 rw [h]
def g1p(B:Heap)(l:List Env)(a:Addr)(C a0:Value)(h:Heap):Prop:=B.StaysIn h/\B.get? a=none/\h.FunFrames B l/\∃ fl,h.TracedAtW B a C a0 fl
section
variable {M:Model}{A:Around}{E:Value->Shared->Prop}{s:Shared}{base:Heap}{env:Env}{outer l:List Env}{L e:Addr}{cls a0:Value}{dx:Option Addr×Option Value}{Q:Unit->Shared->Prop}
theorem g6a(hfr:A.frames=some (env :: outer))(hf:env.frame=some L)(hh:g1p base (env :: outer) e cls a0 s.heap)(kd:Kd e dx s.heap)
  (hQ:∀ h',Heap.FlyingW base outer e cls a0 h'->s.heap.UpToSlots h'->Kd e dx h'->Q () { s with heap:=h' }):wpAny M A (leaving env (.ref e)) Q E s:=by
 refine wpAny_mono (c8n.any (E:=fun _ _=>False) (Q:=fun _ s'=>∃ h',s' = { s with heap:=h' }/\Heap.FlyingW base outer e cls a0 h'/\s.heap.UpToSlots h') ?_ kd) (fun _ s' z=>?_) fun _ _ z=>z.1.elim
 ·obtain⟨f1,f2,f3,fl,tr⟩:=hh
  by_cases hfl:fl=rawInt L
  ·subst hfl
   unfold leaving
   refine wpAny_bind (wpAny_noteFrame_againW hf tr (wpAny_landsW (L:=L) ⟨f1,f2,f3,tr⟩ fun h' a b=>?_))
   obtain⟨k1,k2,⟨_,_,k3⟩,k4⟩:=a
   exact⟨h',rfl,⟨k1,k2,k3,k4⟩,b⟩
  ·obtain⟨oe,vs,T,oT,ts,he,⟨hc,h0⟩,hd,h1,hnT,hTe,hT,hdT,h3⟩:=tr
   subst hc
   unfold leaving noteFrame
   simp only [hf]
   refine wpAny_bind (wpAny_bind (wpAny_field he hd h1 ?_))
   rw [if_pos (show (Value.ref T != Value.none)=true from by simp)]
   refine wpAny_bind (wpAny_field hT hdT h3 ?_)
   rw [if_neg (by simpa using hfl)]
   refine wpAny_bind (wpAny_setField hT hdT (Array.getElem?_eq_some_iff.mp h3).1 ?_)
   have oth:∀ b,b≠T->(s.heap.update T (Obj.mapFields (·.setIfInBounds 3 Value.none))).get? b=s.heap.get? b:=fun b hb=>Heap.get?_update_other _ _ (Ne.symm hb)
   have h5g:∀ b o,s.heap.get? b=some o->(∀ vs,o.data≠.fields vs)->b≠T:=fun b o hb hnf q=>by
    rw [q,hT] at hb
    cases hb
    exact hnf ts hdT
   refine wpAny_newEntryW hfr (f3.of_keeps fun b o hb hnf=>⟨o,(oth b (h5g b o hb hnf)).trans hb,rfl⟩) hf ((oth e (Ne.symm hTe)).trans he) (fun b o hbo=>(oth b fun q=>by rw [q,hnT] at hbo; cases hbo).trans (f1 b o hbo)) f2 hd (Array.getElem?_eq_some_iff.mp h1).1 h0 fun h' ⟨x1,⟨_,_,x2⟩,x3,x4⟩=>⟨h',rfl,⟨x1,f2,x2,x3⟩,fun b o hb hnf=>x4 b o ((oth b (h5g b o hb hnf)).trans hb) hnf⟩
 ·obtain⟨⟨h',rfl,a,b⟩,c⟩:=z
  exact hQ h' a b c
theorem g6b{α:Type}{what:String}{Q':α->Shared->Prop}{cenv:Env}(hh:g1p base l e cls a0 s.heap)(kd:Kd e dx s.heap)(hE:∀ h',g1p base l e cls a0 h'->s.heap.UpToSlots h'->Kd e dx h'->E (.ref e) { s with heap:=h' }):wpAny M A (PySem.passOn what (.ref e) cenv:Sem α) Q' E s:=by
 obtain⟨f1,f2,f3,fl,oe,vs,T,oT,ts,he,hc,hd,h1,hnT,hTe,hT,hdT,h3⟩:=hh
 have z3:3 < ts.size:=(Array.getElem?_eq_some_iff.mp h3).1
 have oth:∀ (x:Value) (b:Addr),b≠T->(s.heap.update T (Obj.mapFields (·.setIfInBounds 3 x))).get? b=s.heap.get? b:=fun x b hb=>Heap.get?_update_other _ _ (Ne.symm hb)
 have h5g:∀ b o,s.heap.get? b=some o->(∀ vs,o.data≠.fields vs)->b≠T:=fun b o hb hnf q=>by
  rw [q,hT] at hb
  cases hb
  exact hnf ts hdT
 unfold PySem.passOn
 refine wpAny_bind (wpAny_field he hd h1 ?_)
 rw [if_neg (show ¬ ((Value.ref T == Value.none)=true) from by simp)]
 refine wpAny_bind (wpAny_mono (d9m.any (E:=fun _ _=>False) (Q:=fun _ s'=>∃ h',s' = { s with heap:=h' }/\g1p base l e cls a0 h'/\s.heap.UpToSlots h') ?_ kd) (fun _ s' z=>?_) fun _ _ z=>z.1.elim)
 ·unfold setFlight
  refine wpAny_bind (wpAny_field he hd h1 ?_)
  rw [if_pos (show (Value.ref T != Value.none)=true from by simp)]
  refine wpAny_setField hT hdT z3 ⟨_,rfl,⟨fun b o hbo=>(oth _ b fun q=>by rw [q,hnT] at hbo; cases hbo).trans (f1 b o hbo),f2,f3.of_keeps fun b o hb hnf=>⟨o,(oth _ b (h5g b o hb hnf)).trans hb,rfl⟩,(cenv.frame.elim Value.none fun f=>rawInt f),oe,vs,T,_,_,(oth _ e (Ne.symm hTe)).trans he,hc,hd,h1,hnT,hTe,Heap.get?_update_self _ hT (Obj.isFreed_of_fields (Obj.data_mapFields hdT _)),Obj.data_mapFields hdT _,by simp [z3]⟩,fun b o hb hnf=>⟨o.slots,(oth _ b (h5g b o hb hnf)).trans hb⟩⟩
 ·obtain⟨⟨h',rfl,a,b⟩,c⟩:=z
  exact wpAny_throw (hE h' a b c)
end
def f5z(X:Cx)(E:XK):Prop:=∀ (pins:List (Addr×Obj)) (σ:St) (a:Addr) (C a0:Value) (B:Heap) (H':Hp) (s':Shared),g1p B X.stack a C a0 s'.heap->(∀ h',B.StaysIn h'->s'.heap.UpToSlots h'->Inv X pins σ H' { s' with heap:=h' })->H' a=none->X.s₀.heap.get? a=none->(∃ dx cx,Kd a (dx,cx) s'.heap/\E C dx H')->X.xe (.ref a) s'
section
variable {P:Program}{w:World}{K:PySem.W.Frag}{mg:Str->Option Value}{base:Heap}{N:List Str}{qual:Str}{scope:Scope}{f:Addr}{cd:Value}{A:Around}{outer:List Env}{s:Shared}{H:Hp}{E:XK}
theorem g3x:f5z (g7f (CXE P w) P w K mg base N qual scope f cd A outer s H E) E:=by
 intro pins σ a C a0 B H' s' hh un hn nw hE
 obtain⟨dx,cx,kd,hE⟩:=hE
 have J:=un s'.heap hh.1 (Heap.UpToSlots.refl _)
 show wpAny (model P w) (A.deeper (envOfC qual scope s.heap.objs.size f cd)) (leaving (envOfC qual scope s.heap.objs.size f cd) (.ref a)) (fun _ s''=>CXE P w outer H s E (.ref a) s'') (fun e' s''=>CXE P w outer H s E e' s'') s'
 refine g6a J.ok.frames rfl hh kd fun h2 fl u kd2=>?_
 exact⟨a,C,a0,B,H',rfl,fl,J.os,J.bare,fun h3 b3 u3=>let J3:=un h3 b3 (u.trans u3); ⟨J3.base,J3.hok⟩,hn,nw,dx,cx,kd2,(fun h=>by cases h),hE⟩
end
noncomputable def putBack(h:Heap)(a:Addr)(o:Obj):Heap:=if a < h.objs.size then h.update a (fun _=>o) else { h with objs:=h.objs++(Array.replicate (a - h.objs.size) { cls:=.none,data:=.freed }) ++ #[o] }
theorem f9o{h:Heap}{a:Addr}{o:Obj}(ho:o.isFreed=false):(putBack h a o).get? a=some o:=by
 unfold putBack
 split
 ·rename_i hl
  refine Heap.get?_some_iff.mpr ⟨?_,ho⟩
  cases h
  simp only [Heap.update,Array.getElem?_modify,if_true]
  rw [Array.getElem?_eq_getElem hl]
  rfl
 ·rename_i hl
  have hl':h.objs.size<=a:=Nat.le_of_not_lt hl
  have hz:(h.objs++Array.replicate (a - h.objs.size) ({ cls:=.none,data:=.freed }:Obj)).size=a:=by
   rw [Array.size_append,Array.size_replicate]
   exact Nat.add_sub_cancel' hl'
  refine Heap.get?_some_iff.mpr ⟨?_,ho⟩
  show (h.objs++Array.replicate (a - h.objs.size) ({ cls:=.none,data:=.freed }:Obj) ++ #[o])[a]? = some o
  rw [Array.getElem?_append_right (Nat.le_of_eq hz),hz,Nat.sub_self]
  rfl
theorem g6c{h:Heap}{a b:Addr}{o:Obj}(hb:b≠a):(putBack h a o).get? b=h.get? b:=by
 unfold putBack
 split
 ·exact Heap.get?_update_other _ _ (Ne.symm hb)
 ·rename_i hl
  have hl':h.objs.size<=a:=Nat.le_of_not_lt hl
  have hz:(h.objs++Array.replicate (a - h.objs.size) ({ cls:=.none,data:=.freed }:Obj)).size=a:=by
   rw [Array.size_append,Array.size_replicate]
   exact Nat.add_sub_cancel' hl'
  apply Option.ext
  intro u
  rw [Heap.get?_some_iff,Heap.get?_some_iff]
  show ((h.objs++Array.replicate (a - h.objs.size) ({ cls:=.none,data:=.freed }:Obj) ++ #[o])[b]? = some u/\_) ↔ _
  rcases Nat.lt_or_ge b h.objs.size with z | z
  ·rw [Array.getElem?_append_left (by rw [hz]; exact Nat.lt_of_lt_of_le z hl'),Array.getElem?_append_left z]
  ·rw [Array.getElem?_eq_none z]
   constructor
   ·rintro ⟨e,f⟩
    exfalso
    rcases Nat.lt_or_ge b a with y | y
    ·rw [Array.getElem?_append_left (by rw [hz]; exact y),Array.getElem?_append_right z,Array.getElem?_replicate,if_pos (Nat.sub_lt_sub_right z y)] at e
     cases e
     cases f
    ·have y':a < b:=Nat.lt_of_le_of_ne y (Ne.symm hb)
     rw [Array.getElem?_append_right (by rw [hz]; exact y),hz,Array.getElem?_eq_none (Nat.sub_pos_of_lt y')] at e
     cases e
   ·rintro ⟨e,_⟩
    cases e
section
variable {X:Cx}{scope:Scope}{x:Str}{pins pl:List (Addr×Obj)}{σ σ':St}{cl:List (Str×Addr)}{s₃ s9 s':Shared}{H3 H9:Hp}{fp:List Addr}{E:XK}{e:Value}{Q:Value->Shared->Prop}{acc:Value}
theorem g6d(hP:f5z X E)(I3:Inv X pins σ H3 s₃)(f3:∀ b∈fp,d7s X pins H3 b)(I9:Inv (a8z X scope cl s₃.heap.objs.size s₃ H3 fp x) pl σ' H9 s9)(hfp:∀ b∈fp,∃ o,s9.heap.get? b=some o)(cx:CXE X.prog X.w X.stack H9 s9 E e s')
  (hst:X.stack=X.env :: X.outer) (hfr:X.env.frame=some X.env.locals) (hex:X.ex = []) :
  notedBy (model X.prog X.w) X.A (compEnvC scope cl s₃.heap.objs.size X.env) (fun e s''=>compPost (model X.prog X.w) X.A X.xe none Q acc s₃.heap.objs.size (.error e) s'') e s':=by
 obtain⟨a,C,a0,B,H',rfl,fl,os,bare,un,hn,nw,dx,cx',kd,_,hE⟩:=cx
 show wpAny _ _ (noteFrame (.ref a) (compEnvC scope cl s₃.heap.objs.size X.env)) _ _ s'
 rw [g5z (env:=compEnvC scope cl s₃.heap.objs.size X.env) (env':=X.env) rfl]
 have hA:X.A.frames=some (X.env :: X.outer):=by rw [<- hst]; exact I3.ok.frames
 rw [hst] at fl
 refine d8z hA hfr fl kd fun h4 hd4 sm4 kd4=>?_
 obtain⟨Cc,eC⟩:∃ Cc,s₃.heap.objs.size=Cc:=⟨_,rfl⟩
 -- the block's own names
 obtain⟨m,⟨oc,es,ep,hoc,hdc,hrest⟩,_⟩:=I9.loc
 have hfree:H9 s₃.heap.objs.size=none:=I9.free
 have hoc:s9.heap.get? s₃.heap.objs.size=some oc:=hoc
 have nfs:s₃.heap.objs.size∉frs X.stack:=fun hb=>by
  obtain⟨_,o,ho,_⟩:=I3.stack.mem hb
  exact absurd (Heap.lt_size ho) (Nat.lt_irrefl _)
 have ua:∀ h',B.StaysIn h'->s'.heap.UpToSlots h'->h'.get? s₃.heap.objs.size=some oc:=fun h' b u=>(un h' b u).1.keep _ _ hoc hfree nfs (by simp)
 have hs':s'.heap.get? s₃.heap.objs.size=some oc:=ua _ fl.1 (Heap.UpToSlots.refl _)
 have h4c:h4.get? s₃.heap.objs.size=some oc:=ua _ hd4.1 sm4
 have nfl:∀ vs,oc.data≠.fields vs:=fun vs q=>by rw [hdc] at q; cases q
 have i2k:H' s₃.heap.objs.size=none:=(un _ hd4.1 sm4).1.free _ _ hoc hfree (by simp)
 refine⟨m,⟨oc,es,ep,h4c,hdc,hrest⟩,fun h5 sb cenv hce=>?_⟩
 have k5:∀ b,b≠s₃.heap.objs.size->h5.get? b=h4.get? b:=sb.2
 obtain⟨f1,f2,f3',oe,vs,T,oT,ts,he,hc,hd,h1,hnT,hTe,hT,hdT,h3⟩:=hd4
 have nr:∀ {b:Addr} {o:Obj} {ws:Array Value},h4.get? b=some o->o.data = .fields ws->b≠s₃.heap.objs.size:=fun {b o ws} hb hd q=>by
  rw [q,h4c] at hb
  cases hb
  exact nfl ws hd
 -- the ground without the block's names
 have hB:∀ b o,(PySem.W.hideAll B [s₃.heap.objs.size]).get? b=some o->B.get? b=some o/\b≠s₃.heap.objs.size:=fun b o q=>⟨PySem.W.of_hideAll _ q,fun z=>by
  rw [z,PySem.W.hideAll_none _ (by simp)] at q
  cases q⟩
 have no:∀ {b:Addr},B.get? b=none->(PySem.W.hideAll B [s₃.heap.objs.size]).get? b=none:=fun {b} q=>by
  cases z:(PySem.W.hideAll B [s₃.heap.objs.size]).get? b with
  | none=>rfl
  | some o=>rw [(hB b o z).1] at q; cases q
 have ff:∀ {l:List Env},(∀ b∈frs l,b∈frs X.stack)->h4.FunFrames B l->h5.FunFrames (PySem.W.hideAll B [s₃.heap.objs.size]) l:=by
  intro l
  induction l with
  | nil=>intro _ _; trivial
  | cons en r ih =>
   intro hs hl
   obtain⟨hk,⟨L,o,hf,hnn,ho,hdd⟩,hr⟩:=hl
   have hL:L∈frs X.stack:=hs L (List.mem_filterMap.mpr ⟨en,List.mem_cons_self,hf⟩)
   refine⟨hk,⟨L,o,hf,no hnn,(k5 L fun z=>nfs (by rw [<- z]; exact hL)).trans ho,hdd⟩,ih (fun b hb=>hs b ?_) hr⟩
   obtain⟨en',h1,h2⟩:=List.mem_filterMap.mp hb
   exact List.mem_filterMap.mpr ⟨en',List.mem_cons_of_mem _ h1,h2⟩
 rw [<- hst] at f3'
 have HA:g1p (PySem.W.hideAll B [s₃.heap.objs.size]) X.stack a C a0 h5 :=
  ⟨fun b o q=>(k5 b (hB b o q).2).trans (f1 b o (hB b o q).1),no f2,ff (fun _ z=>z) f3',_,oe,vs,T,oT,ts,(k5 _ (nr he hd)).trans he,hc,hd,h1,no hnT,hTe,(k5 _ (nr hT hdT)).trans hT,hdT,h3⟩
 have kd5:Kd a (dx,cx') h5:=by
  obtain⟨o,q1,q2⟩:=kd4
  rw [he] at q1
  cases q1
  exact⟨oe,(k5 _ (nr he hd)).trans he,q2⟩
 refine g6b (s:={ s' with heap:=h5 }) HA kd5 fun h6 HA6 sm6 kd6=>?_
 have nw0:X.s₀.heap.get? a=none:=by
  refine I3.older hex ?_
  cases q:s₃.heap.get? a with
  | none=>rfl
  | some o =>
   have nfp:a∉fp:=fun hb=>by
    obtain⟨o',z⟩:=hfp a hb
    rw [nw] at z
    cases z
   obtain⟨o',z⟩:=I9.base.there a o q nfp
   rw [nw] at z
   cases z
 refine hP pins σ a C a0 _ H' { s' with heap:=h6 } HA6 (fun h7 b7 u7=>?_) hn nw0 ⟨dx,cx',kd6,hE⟩
 -- the block's names put back
 have k8:∀ b,b≠s₃.heap.objs.size->(putBack h7 s₃.heap.objs.size oc).get? b=h7.get? b:=fun b hb=>g6c hb
 have c8:(putBack h7 s₃.heap.objs.size oc).get? s₃.heap.objs.size=some oc:=f9o (Heap.get?_some_iff.mp hs').2
 have st8:B.StaysIn (putBack h7 s₃.heap.objs.size oc):=fun b o q=>by
  by_cases hb:b=s₃.heap.objs.size
  ·subst hb
   rw [c8,<- hs']
   exact fl.1 _ _ q
  ·rw [k8 b hb]
   exact b7 b o (PySem.W.hideAll_get _ q (by simp [hb]))
 have up8:s'.heap.UpToSlots (putBack h7 s₃.heap.objs.size oc):=fun b o q nf=>by
  by_cases hb:b=s₃.heap.objs.size
  ·subst hb
   rw [hs'] at q
   cases q
   exact⟨oc.slots,c8⟩
  ·obtain⟨s4,e4⟩:=sm4 b o q nf
   have e5:h5.get? b=some { o with slots:=s4 }:=(k5 b hb).trans e4
   obtain⟨s6,e6⟩:=sm6 b _ e5 nf
   obtain⟨s7,e7⟩:=u7 b _ e6 nf
   exact⟨s7,(k8 b hb).trans e7⟩
 obtain⟨U,ok8⟩:=un _ st8 up8
 have u9:=I9.base
 have nb:∀ {b:Addr} {o:Obj},s₃.heap.get? b=some o->b≠s₃.heap.objs.size:=fun q=>Nat.ne_of_lt (Heap.lt_size q)
 have U':Un (frs X.stack) fp H3 H' s₃.heap (putBack h7 s₃.heap.objs.size oc) :=
  Un.trans u9 ⟨fun b o e n hb _=>U.keep b o e n hb (by simp),fun b o e n hb _=>U.slot b o e n hb (by simp),fun b o e n _=>U.free b o e n (by simp),fun b o e _=>U.there b o e (by simp),U.tups,U.f7v,U.f7y⟩
 have U7:Un (frs X.stack) fp H3 H' s₃.heap h7 :=
  ⟨fun b o e n hb hx=>(k8 b (nb e)).symm.trans (U'.keep b o e n hb hx),fun b o e n hb hx=>(U'.slot b o e n hb hx).elim fun sl q=>⟨sl,(k8 b (nb e)).symm.trans q⟩,U'.free,fun b o e hx=>(U'.there b o e hx).elim fun o' q=>⟨o',(k8 b (nb e)).symm.trans q⟩,U'.tups,U'.f7v,U'.f7y⟩
 have nC:∀ {b:Addr} {o:HO},H' b=some o->b≠s₃.heap.objs.size:=fun {b o} q z=>by rw [z,i2k] at q; cases q
 have ok7:HOk X.prog X.w H' h7:=fun b o q=>(ok8 b o q).stay (fun c v hc r=>(k8 c (hc.elim (fun z=>by rw [z]; exact nC q) nC)).symm.trans r) (fun _ z=>z) fun _ _ z=>z
 exact I3.call' (s':={ s' with heap:=h7 }) (ch:=fp) (os.trans I9.os) U7 ok7 bare fun b hb=>⟨(f3 b hb).2.2.2.1,(f3 b hb).2.1,(f3 b hb).2.2.2.2.1,(f3 b hb).2.2.2.2.2⟩
end
section
variable {X:Cx}{scope:Scope}{x:Str}{pins:List (Addr×Obj)}{σ:St}{elt iter:Expr}{px pos:Pos}{wi:TI}{te:TE}
theorem g1q{s₂:Shared}{H1:Hp}{it:Addr}{fp:List Addr}{tn:Nat->Heap->Prop}{J:It}{Q:VK}{RR:Value->Addr->Result->Shared->Prop}{E:Value->Shared->Prop}{Ee:XK}{cl:List (Str×Addr)}
  (S:c2h X scope x) (hc:X.calm=true) (he:∀ cl C s₃ H₃ fp,PEX (a8z X scope cl C s₃ H₃ fp x) elt te Ee)
  (hcl:∀ y c,cl.lookup y=some c->(y,NameKind.free)∈scope.names/\X.env.cells.lookup y=some c) (hcl2:∀ y,(y,NameKind.free)∈scope.names->cl.lookup y=X.env.cells.lookup y)
  (I2:Inv X pins σ H1 s₂) (T:Turn X.prog X.w X.K (.Name x px) J fp it tn) (st2:tn 0 s₂.heap) (f2:∀ b∈fp,d7s X pins H1 b) (h:∀ D H2,H1 D=none->Same H1 H2->H2 D=some (.lst [])->f5o J te D σ H2 Q ⟨⟩)
  (hRR:∀ (D C:Addr) (s':Shared) (H':Hp),(∃ m,s'.heap.Ns C m)->(∀ h' ,Heap.SameBut C s'.heap h'->Inv X pins σ H' { s' with heap:=h' })->d7s X pins H' C->Q (.ref D) H'->RR (.ref D) C (.ok .next) s')
  (hXX:∀ (D:Addr) (s₃ s9 s':Shared) (H3 H9:Hp) (pl:List (Addr×Obj)) (σ':St) (e:Value),Inv X pins σ H3 s₃->(∀ b∈fp,d7s X pins H3 b)->Inv (a8z X scope cl s₃.heap.objs.size s₃ H3 fp x) pl σ' H9 s9->(∀ b∈fp,∃ o,s9.heap.get? b=some o)->CXE X.prog X.w X.stack H9 s9 Ee e s'->notedBy (model X.prog X.w) X.A (compEnvC scope cl s₃.heap.objs.size X.env) (fun e s''=>RR (.ref D) s₃.heap.objs.size (.error e) s'') e s') :
  wpAny (model X.prog X.w) X.A (newList []) (fun acc s₃=>wpAny (model X.prog X.w) X.A (newFunctionEnv scope X.env.globals cl [] X.env.qual none .none (some X.env)) (fun cenv s₄ =>
   codeAny (model X.prog X.w) X.A (.compStart (.ListComp elt [⟨.Name x px,iter,[],0⟩] scope pos) 0 (.ref it) acc { cenv with scope:=relabel scope X.env }) (RR acc cenv.locals) s₄) E s₃) E s₂:=by
 have hfr:H1 s₂.heap.objs.size=none:=I2.hok.fresh (Nat.le_refl _)
 have hCW:=h s₂.heap.objs.size _ hfr (Same.upd hfr) a5j
 refine wpAny_newObj_type ?_
 have I3 : Inv X pins σ (upd H1 s₂.heap.objs.size (.lst [])) { s₂ with heap := s₂.heap.push { cls := .type "list", data := .seq ([] : List Value).toArray }, toks := s₂.toks } :=
  I2.laid (t':=s₂.toks) (fun b u e=>Heap.get?_push_of_some _ e) (Nat.le_refl _) ⟨Nat.zero_le _,[],0,.nil,Heap.get?_push_size _ rfl⟩
 have nD:∀ b∈fp,b≠s₂.heap.objs.size:=fun b hb=>by
  obtain⟨o,e,_⟩:=T.obj 0 _ st2 b hb
  exact Nat.ne_of_lt (Heap.lt_size e)
 have f3:∀ b∈fp,d7s X pins (upd H1 s₂.heap.objs.size (.lst [])) b:=fun b hb=>⟨by rw [a4v (nD b hb)]; exact (f2 b hb).1,(f2 b hb).2⟩
 generalize hH3:upd H1 s₂.heap.objs.size (.lst [])=H3 at *
 have st3 : tn 0 (s₂.heap.push { cls := .type "list", data := .seq ([] : List Value).toArray }) := T.keep _ _ _ st2 fun b _ o e => Heap.get?_push_of_some _ e
 have g8k : ∀ b ∈ fp, b < (s₂.heap.push { cls := .type "list", data := .seq ([] : List Value).toArray }).objs.size := fun b hb => by
  obtain⟨o,e,_⟩:=T.obj 0 _ st3 b hb
  exact Heap.lt_size e
 show wpAny (model X.prog X.w) X.A (newFunctionEnv scope X.env.globals cl [] X.env.qual none .none (some X.env)) _ E { s₂ with heap := s₂.heap.push { cls := .type "list", data := .seq ([] : List Value).toArray }, toks := s₂.toks }
 generalize hs3 : ({ s₂ with heap := s₂.heap.push { cls := .type "list", data := .seq ([] : List Value).toArray }, toks := s₂.toks } : Shared) = s₃ at *
 have eh : s₃.heap = s₂.heap.push { cls := .type "list", data := .seq ([] : List Value).toArray } := by rw [← hs3]
 rw [<- eh] at st3 g8k
 generalize s₂.heap.objs.size=D at *
 refine wpAny_newFunctionEnv S.d2w (by intro y hy; simp at hy) (fun h₁ hns₁ hsb₁=>?_) S.kind
 have hk1:∀ b o,s₃.heap.get? b=some o->h₁.get? b=some o:=fun b o e=>hsb₁.extBut b o (Nat.ne_of_lt (Heap.lt_size e)) (Heap.get?_push_of_some _ e)
 have J0:Inv (a8z X scope cl s₃.heap.objs.size s₃ H3 fp x) [] (none :: σ) H3 { s₃ with heap:=h₁,toks:=s₃.toks+([] : List (Str×Value)).length }:=I3.comp S hcl hcl2 f3 g8k hns₁ hk1 rfl rfl
 obtain⟨n0,W,w0,turn⟩:=hCW
 have loop:codeAny (model X.prog X.w) X.A (.compLoop (.ListComp elt [⟨.Name x px,iter,[],0⟩] scope pos) 0 (.ref it) (.ref D) (compEnvC scope cl s₃.heap.objs.size X.env)) (RR (.ref D) s₃.heap.objs.size) { s₃ with heap:=h₁,toks:=s₃.toks+([] : List (Str×Value)).length }:=by
  refine codeAny_loop rfl (fun n s'=>∃ i ys o H',Inv (a8z X scope cl s₃.heap.objs.size s₃ H3 fp x) [] (o :: σ) H' s'/\tn i s'.heap/\(∀ b∈fp,H' b=none)/\W i ys H'/\i<=n0/\n=n0 - i) (fun n s5 hI=>?_) n0
   ⟨0,[],none,H3,J0,T.keep _ _ _ st3 (fun b _ o e=>hk1 b o e),fun b hb=>(f3 b hb).1,w0,Nat.zero_le _,rfl⟩
  obtain⟨i,ys,o5,H5,I5,st5,fr5,w5,hin,hnn⟩:=hI
  have stat:∀ {H':Hp},(∀ b∈fp,H' b=none)->∀ b∈fp,d7s (a8z X scope cl s₃.heap.objs.size s₃ H3 fp x) [] H' b:=fun hn b hb =>
   ⟨hn b hb,Nat.ne_of_lt (g8k b hb),fun z=>(List.mem_cons.mp (I3.d8j b z)).elim (fun q=>(f3 b hb).2.1 q) fun q=>(f3 b hb).2.2.1 q,.inl hb,fun y c e=>(f3 b hb).2.2.2.2.1 y c (hcl y c e).2,fun p hp=>absurd (show p∈([] : List (Addr×Obj)) from hp) (by simp)⟩
  show wpAny _ X.A ((compTurn (.ListComp elt [⟨.Name x px,iter,[],0⟩] scope pos) 0 (.ref it) (.ref D) (compEnvC scope cl s₃.heap.objs.size X.env)).onRaise (fun x=>do noteFrame x (compEnvC scope cl s₃.heap.objs.size X.env); theTreesLotGoes x)) _ _ s5
  refine wpAny_noted ?_
  rw [compTurn_list1]
  refine wpAny_bind (wpAny_standAt (wpAny_bind ?_))
  obtain⟨hD5,alt⟩:=turn i ys H5 hin w5
  rcases alt with ⟨stop,q⟩ | ⟨hlt,go,hsz,step⟩
  ·refine wpAny_mono (T.done (a8z X scope cl s₃.heap.objs.size s₃ H3 fp x) rfl rfl rfl hc i [] s5 _ H5 _ I5 (stat fr5) st5 stop) (fun r s6 ⟨hr,I6⟩=>?_) fun _ _ z=>z
   subst hr
   refine wpAny_pure ?_
   obtain⟨m6,hn6,_⟩:=I6.loc
   exact hRR D s₃.heap.objs.size s6 H5 ⟨m6,hn6⟩ (fun h' hs'=>I3.h4t f3 I6 hs') (I3.h1p (Nat.le_refl _) I6.free) q
  ·refine wpAny_mono (T.item (a8z X scope cl s₃.heap.objs.size s₃ H3 fp x) rfl rfl rfl hc i [] s5 _ H5 _ I5 (stat fr5) st5 go) (fun r s6 ⟨u,hr,h6⟩=>?_) fun _ _ z=>z
   subst hr
   refine wpAny_bind (wpAny_mono h6 (fun _ s7 ⟨v,H7,I7,r7,y7,st7,fr7⟩=>?_) fun _ _ z=>z)
   have I7':=I7.pinned (stat fr7) (T.obj _ _ st7)
   have G:=a4y (X:=a8z X scope cl s₃.heap.objs.size s₃ H3 fp x) (pos:=px) (i:=0) (x:=x) S.nd rfl (.inl (lookup_relabel_local S.own)) (.inr (lookup_relabel_local S.own))
   refine wpAny_bind (wpAny_mono (G _ s7 _ H7 v u (fun σ' H'=>σ'=some v :: σ/\H'=H7) I7' r7 ⟨rfl,rfl⟩) (fun _ s8 hs8=>?_) fun _ _ z=>False.elim z)
   obtain⟨σ8,H8,I8,rfl,rfl⟩:=hs8
   refine wpAny_bind (wpAny_bind (wpAny_mono (he cl s₃.heap.objs.size s₃ H3 fp _ s8 _ _ _ I8 (step v H8 y7)) (fun yv s9 hs9=>?_) fun e s' z=>?_))
   rotate_left
   ·obtain⟨Hx,sx,Ix,cx⟩:=z
    refine hXX D s₃ sx s' H3 Hx _ _ e I3 f3 Ix (fun b hb=>?_) cx
    obtain⟨o,e,d⟩:=T.obj _ _ st7 b hb
    exact⟨o,(Ix.pin (b,o) (List.mem_append_right _ (List.mem_append_right _ (a9v hb e)))).1⟩
   obtain⟨y,H9,I9,r9,hD9,k9⟩:=hs9
   refine wpAny_bind (wpAny_mono (d2v (X:=a8z X scope cl s₃.heap.objs.size s₃ H3 fp x) _ s9 _ H9 (.ref D) [y] (.ref D) [yv] (fun _ H'=>H'=upd H9 D (.lst (ys++[y]))) I9 rfl (.cons r9 .nil) ⟨D,ys,y,rfl,rfl,hD9,hsz,rfl⟩) (fun _ sA hsA=>?_) fun _ _ z=>False.elim z)
   obtain⟨_,HA,IA,_,rfl⟩:=hsA
   refine wpAny_pure ?_
   have wA:=k9 _ b3v.upd a5j
   refine wpAny_pure ⟨rfl,n0 - (i+1),by omega,i+1,ys++[y],some v,_,IA.d0j (pins:=[]) (pl:=d8l fp s7.heap),T.keep _ _ _ st7 (fun b hb o e=>(IA.pin (b,o) (List.mem_append_right _ (List.mem_append_right _ (a9v hb e)))).1),fun b hb=>?_,wA,hlt,rfl⟩
   obtain⟨o,e,d⟩:=T.obj _ _ st7 b hb
   exact (IA.pin (b,o) (List.mem_append_right _ (List.mem_append_right _ (a9v hb e)))).2.1
 exact codeAny_compStart_list loop (T.self _ 0 _ _ _ (T.keep _ _ _ st3 fun b _ o e=>hk1 b o e) loop)
end
end L2
namespace L2
open PySem PySem.Spec PyProof.Rows
section
variable {X:Cx}{E:XK}{st:Stmt}{t u:TS}{pos:Pos}
end
section
variable {X:Cx}
end
end L2
namespace L2
open PySem PySem.Spec PyProof.Rows PySem.SeqAt PySem.AutoSeq1
open PySem.MeetsSeq
section
variable {X:Cx}
end
end L2
namespace L2
open PySem PySem.Spec PyProof.Rows
def i9e(X:Cx)(pins:List (Addr×Obj))(σ:St)(E:XK)(e:Value)(s':Shared):Prop:=∃ H1 s1,Inv X pins σ H1 s1/\CXF true X.prog X.w X.stack H1 s1 E e s'
def i9f(X:Cx)(e:Expr)(t:TE)(E:XK):Prop :=
 ∀ (pins:List (Addr×Obj)) (s:Shared) (σ:St) (H:Hp) (Q:VK),Inv X pins σ H s->t σ H Q->wpAny (model X.prog X.w) X.A (eval e X.env) (EP X pins σ Q) (i9e X pins σ E) s
def i9g(X:Cx)(st:Stmt)(t:TS)(E:XK):Prop :=
 ∀ (pins:List (Addr×Obj)) (s:Shared) (σ:St) (H:Hp) (D:Ends),Inv X pins σ H s->t D σ H->wpAny (model X.prog X.w) X.A (exec st X.env) (SP X pins D) (i9e X pins σ E) s
theorem Fun.okN{P:Program}{w:World}{K:PySem.W.Frag}{mg:Str->Option Value}{base:Heap}{N:List Str}{qual:Str}{f:Addr}{x:Str}{st:Stmt}{fd:FuncData}{ps:List Str}{k:Nat}{sp:Sp}(F:Fun K x qual st f fd)(S:a0v N ps (a0n st))(len:∀ vs H Q E,sp vs H Q E->vs.length=ps.length)
  (hbody:∀ (cdv:Value) (A:Around) (outer:List Env) (s:Shared) (H:Hp) (vs:List V) (Q:VK) (E:XK),a1y k (A.deeper (envOfC qual (a0n st) s.heap.objs.size f cdv))->sp vs H Q E ->
   ∃ t,PSs (g7f (CXF true P w) P w K mg base N qual (a0n st) f cdv A outer s H E) (d1m st) t/\t { nx:=fun _ H'=>Q .non H',rt:=Q } (start N vs) H):a1g P w K mg base (CXF true P w) (k+1) f fd ps sp:=by
 obtain⟨oc,od,kV,doc,pm,an,cdv,ct,osl,rfl,lk,hcd⟩:=F.ex
 exact h6e lk hcd S len fun A outer s H vs Q E hr hsp=>hbody cdv A outer s H vs Q E hr hsp
section
variable {X:Cx}{k:Nat}{f C:Addr}{fd:FuncData}{ps:List Str}{sp:Sp}{dvs:List V}{ds:List Value}{E:XK}{x m:Str}{p pos apos:Pos}{e o:Expr}{es:List Expr}{ta:TE}{t:TA}
theorem g9b(F:a1g X.prog X.w X.K X.mg X.base (CXF true X.prog X.w) k f fd ps sp)(hr:a1y k X.A)(hg:Gl X x)(hm:X.mg x=some (.ref f))(hk:PySem.W.keepIn X.K (.ref f)=true)(hb:Binds X.K fd ps ds)(hd:Vals dvs ds)
  (ha : PA X.nox (e :: es) t) (hdb : (x == ("__debug__" : Str)) = false := by decide) (he : starEach (e :: es) X.env = (false, eval e X.env) :: starEach es X.env := by rfl) (hpl : (backTo pos (starEach es X.env)).any (·.1) = false := by rfl) :
  i9f X (.Call (.Name x p) (e :: es) [] pos) (h1y sp dvs E t) E:=by
 intro pins s σ H Q I h
 refine wpAny_Call_Name_kw (c6n I hg hm ?_ hdb)
 refine PySem.W.callWith_K (h₀:=X.base) I.ok.mod.kin hk (wpAny_mono (ha pos pins s σ H _ (I.wish _) h) (fun us s1 ⟨vs,H1,I1,r,q⟩=>⟨I1.b9w.kIn,?_⟩) fun _ _ z=>False.elim z) he hpl
 have I2:=I1.b9w
 have r2:Vals (vs++dvs) (us++ds):=r.append hd
 have hl:(us++ds).length=ps.length:=by rw [<- r2.length]; exact F.len _ _ _ _ q
 refine wpAny_call (codeAny_mono (F.run X.A X.stack s1 H1 ⟨us,[]⟩ (us++ds) (vs++dvs) Q E hr I2.env0 (hb s1 us I2.kIn hl) r2 q) fun r s' hq=>?_)
 cases r with
 | error e=>exact⟨H1,s1,I2,hq⟩
 | ok fl =>
  cases fl with
  | ret u=>exact I2.after hq
  | next=>exact False.elim hq
  | brk=>exact False.elim hq
  | cont=>exact False.elim hq
theorem h3g{i:Nat}{y:Str}{te:TE}{pos':Pos}(hN:X.N.Nodup)(hi:X.N[i]? = some y)(hx:Loc X.env.scope y)(he:i9f X e te E)(hs:swapsWith e (some (.Name y pos')) pos.line X.env=pure false:=by rfl)(hf:X.fn y=true\/X.env.scope.names.lookup y=some .local:=by first | exact .inl rfl | exact .inr rfl | assumption) :
  i9g X (.Assign [.Name y pos'] e pos) (h9q te (g7n i)) E:=by
 intro pins s σ H D I h
 refine wpAny_Assign_Name (thn (he pins s σ H _ I h) fun v s1 ⟨z,H1,I1,r1,q1⟩=>?_) hs
 exact d8g I1 hN hi hx r1 (fun s2 I2=>⟨_,H1,I2,q1⟩) hf
end
theorem f6g : entryFor table "proto.unchain" = some Builtin.«proto.unchain» := entryFor_of_tree (by kernel_rfl)
section
variable {prog:Program}{w:World}{A:Around}{E:Value->Shared->Prop}{s:Shared}{env:Env}{a:Addr}
theorem g1r{id:String}{args:Args}{b:Builtin}(hb:entryFor table id=some b):(model prog w).den (.builtin id args)=b args:=by
 show (match entryFor table id with | some b => b args | none => unsupported ((withoutEnding? id "#data").getD id)) = _
 rw [hb]
theorem g6e{e:Value}{o:Obj}{vs:Array Value}{Q:Value->Shared->Prop}(ho:s.heap.get? a=some o)(hd:o.data = .fields vs)(h2:vs[2]? = some .none)(h:Q .none s) :
  wpAny (model prog w) A (runValue (.builtin "proto.unchain" ⟨[e, .ref a, .ref a, .bool false], []⟩)) Q E s := by
 refine wpAny_runValue (codeAny_of_tree ?_)
 rw [g1r f6g]
 generalize A.under _=A'
 unfold Builtin.«proto.unchain»
 refine wpAny_bind (wpAny_field ho hd h2 ?_)
 exact wpAny_pure h
variable {nm q:Str}{C N:Addr}{bs bm:List Value}{hdct:Bool}{sn:List Str}{sub:List Value}{ab:Bool}{col:Option Bool}{dd:Option Addr}{k0 k1 k2 k3 k5:Option Value}{newId:String}
theorem g1s {x c : Sem Value} {Q : Flow → Shared → Prop} (hbase : bm.contains (.type "BaseException") = true) (hh : A.handled = some (.ref a)) (hc : ∀ (Q' : Value → Shared → Prop) s', Q' .none s' → wpAny (model prog w) A c Q' E s')
  (h:wpAny (model prog w) A x (fun v s₁=>∃ e t,v = .ref e/\a≠e/\s₁.heap.get? C=some (excClassObj nm q C N bs bm hdct sn sub ab col dd k0 k1 k2 k3 k5 newId) /\
   s₁.heap.get? e=some { cls:=.ref C,data:=.fields #[.ref t,.none,.none,.none,.bool false,.none] }/\(∃ oa va,s₁.heap.get? a=some oa/\oa.data = .fields va/\va[2]? = some .none) /\
   ∀ h',(∀ b,b≠e->h'.get? b=s₁.heap.get? b)->h'.get? e=some { cls:=.ref C,data:=.fields #[.ref t,.none,.ref a,.none,.bool true,.none] }->E (.ref e) { s₁ with heap:=h' }) E s) :
  wpAny (model prog w) A (raiseStmt env (some x) (some c)) Q E s:=by
 have hcB : (Value.ref C :: bm).contains (.type "BaseException") = true := by rw [List.contains_cons, hbase, Bool.or_true]
 unfold raiseStmt
 refine wpAny_bind (wpAny_mono h (fun v s₁ h₁=>?_) fun _ _ x=>x)
 obtain⟨e,t,rfl,hne,hC,he,⟨oa,va,hoa,hda,h2a⟩,hE⟩:=h₁
 obtain⟨hp,g,d,tk,os⟩:=s₁
 refine wpAny_bind (wpAny_holding (hc _ _ ?_))
 repeat (first | with_reducible refine wpAny_loadPart_at he ?_ | with_reducible refine wpAny_loadPart_at hC ?_ | (with_reducible refine wpAny_isSubtype_exc hC ?_; rw [hcB]) | wp_step)
 have hCe:C≠e:=fun z=>by
  subst z
  rw [hC] at he
  cases he
 have e1:=Heap.get?_update_self (Obj.mapFields (·.setIfInBounds 3 Value.none)) he (Obj.isFreed_of_fields (Obj.data_mapFields rfl _))
 have e2:=Heap.get?_update_self (Obj.mapFields (·.setIfInBounds 4 (Value.bool true))) e1 (Obj.isFreed_of_fields (Obj.data_mapFields rfl _))
 have oth:∀ b,b≠e->((hp.update e (Obj.mapFields (·.setIfInBounds 3 Value.none))).update e (Obj.mapFields (·.setIfInBounds 4 (Value.bool true)))).get? b=hp.get? b:=fun b hb=>(Heap.get?_update_other _ _ (Ne.symm hb)).trans (Heap.get?_update_other _ _ (Ne.symm hb))
 generalize (hp.update e (Obj.mapFields (·.setIfInBounds 3 Value.none))).update e (Obj.mapFields (·.setIfInBounds 4 (Value.bool true)))=h2 at *
 have hC2:=(oth C hCe).trans hC
 have e2':h2.get? e=some { cls:=.ref C,data:=.fields #[.ref t,.none,.none,.none,.bool true,.none] }:=e2
 refine wpAny_loadPart_at hC2 (wpAny_pure ?_)
 refine wpAny_pure ?_
 refine wpAny_bind ?_
 unfold setFlight
 refine wpAny_bind (wpAny_field (x:=Value.none) e2' rfl rfl ?_)
 rw [if_neg (show ¬ ((Value.none != Value.none)=true) from by simp)]
 refine wpAny_pure ?_
 unfold raiseNew
 refine wpAny_bind (wpAny_handled ?_)
 rw [hh]
 have hab:(Value.ref a != Value.ref e)=true:=by
  simp only [bne_iff_ne,ne_eq,Value.ref.injEq]
  exact hne
 dsimp only
 rw [if_pos hab]
 have h2a':=(oth a hne).trans hoa
 refine wpAny_bind (wpAny_holding (g6e (s:=⟨h2,g,d,tk,os⟩) h2a' hda h2a ?_))
 refine wpAny_bind (wpAny_setField (s:=⟨h2,g,d,tk,os⟩) (i:=2) e2' rfl (by simp) ?_)
 have e3:=Heap.get?_update_self (Obj.mapFields (·.setIfInBounds 2 (Value.ref a))) e2' (Obj.isFreed_of_fields (Obj.data_mapFields rfl _))
 exact wpAny_throw (hE _ (fun b hb=>(Heap.get?_update_other _ _ (Ne.symm hb)).trans (oth b hb)) e3)
end
def g9c(K:PySem.W.Frag)(D C:Addr)(tb:XK->TS)(E:XK):TS:=fun Dn σ H=>tb (fun Cv _ H'=>∃ c,Cv = .ref c/\PySem.W.subIn K (.ref c) (.ref D)=some true/\E (.ref C) none H') Dn σ H
section
variable {X:Cx}{D C:Addr}{dn cn:Str}{st:Stmt}{tb:XK->TS}{E:XK}{z:Str}{j j':Nat}{np hpos pos rpos cpos npos zpos kpos:Pos}
theorem g1t(hP:f5z X E)(hb:∀ E,i9g X st (tb E) E)(O:Exc X.K C)(hkC:PySem.W.keepIn X.K (.ref C)=true)(hgC:Gl X cn)(hmC:X.mg cn=some (.ref C))(hg:Gl X dn)(hm:X.mg dn=some (.ref D))(ZD:d4q X.K D)
  (hst : X.stack = X.env :: X.outer := by rfl) (hfr : X.env.frame = some X.env.locals := by rfl) (hex : X.ex = [] := by rfl) (hdb : (dn == ("__debug__" : Str)) = false := by decide) (hdc : (cn == ("__debug__" : Str)) = false := by decide) :
  PS X (.Try [st] [.ExceptHandler (some (.Name dn np)) none [.Raise (some (.Call (.Name cn npos) [.Constant (.str z) j zpos] [] cpos)) (some (.Constant .none j' kpos)) rpos] hpos] [] [] pos) (g9c X.K D C tb E):=by
 intro pins s σ H Dn I h
 refine wpAny_Try_except (wpAny_execs_cons (wpAny_mono (hb _ pins s σ H Dn I h) (fun f s1 q=>?_) fun e s1 q=>?_))
 ·cases f with
  | next=>exact wpAny_execs_nil (wpAny_execs_nil q)
  | ret v=>exact q
  | brk=>exact q
  | cont=>exact q
 ·obtain⟨H1,s0,I1,a,Cv,a0,B,H',rfl,fl,os,bare,un,hn0,nw,dx,cx,kd,hcx,c,rfl,hsub,hE⟩:=q
  obtain rfl:=hcx rfl
  have hA:X.A.frames=some (X.env :: X.outer):=by rw [<- hst]; exact I1.ok.frames
  rw [hst] at fl
  refine d8z hA hfr fl kd fun h4 hd4 sm4 kd4=>h4v hd4 kd4 fun h5 fl5 sm5 kd5=>?_
  have u5:=un h5 fl5.1 (sm4.trans sm5)
  have I5:Inv X pins σ H' { s1 with heap:=h5,toks:=s1.toks }:=I1.caught os bare u5.1 u5.2
  obtain⟨ob,hob,hcl⟩:=fl5.there
  refine wpAny_handleBy_cons (codeAny_handlers_test ?_) (by intro q; cases q)
  refine c6n (X:=X.held a) (s:={ s1 with heap:=h5 }) (I5.held a) hg hm ?_ hdb
  refine d9g (s:={ s1 with heap:=h5 }) I5.kIn ZD hob hcl hsub ?_
  refine codeAny_handlers_suite (h4w fl5 kd5 fun h6 fl6 sm6 kd6=>?_)
  have u6:=un h6 fl6.1 ((sm4.trans sm5).trans sm6)
  have I6:Inv X pins σ H' { s1 with heap:=h6,toks:=s1.toks }:=I1.caught os bare u6.1 u6.2
  obtain⟨oa,va,hoa,hcla,hda,_⟩:=fl6.first
  have h2a:va[2]? = some .none:=by
   obtain⟨o,q1,_,q2⟩:=kd6
   rw [hoa] at q1
   cases q1
   unfold h6r at q2
   rw [hda] at q2
   exact q2
  obtain⟨bm,N,nm,qn,bs,hdct,sn,sub,ab,col,dd,k0,k1,k2,k3,k5,mN,hC,hN,hni,T⟩:=g8n (h:=h6) I6.kIn O.ok
  refine wpAny_execs_cons ?_
  rw [arm_exec_Raise]
  refine wpAny_bind (wpAny_standAt (g1s (a := a) (C := C) (nm := nm) (q := qn) (N := N) (bs := bs) (bm := bm) (hdct := hdct) (sn := sn) (sub := sub) (ab := ab) (col := col) (dd := dd) (k0 := k0) (k1 := k1) (k2 := k2) (k3 := k3) (k5 := k5) (newId := "ValueError.__new__") (T.hasType PySem.F.excBase_ValueError.hasBase) rfl (fun Q' s' q => wpAny_bind (Constant_none (wpAny_bind (wpAny_standAt (wpAny_pure q))))) (wpAny_bind ?_)))
  refine wpAny_mono (Q:=fun v s2=>∃ e h7 tk,v = .ref e/\s2 = { s1 with heap:=h7,toks:=tk }/\∃ args,Heap.MadeExcOf h6 h7 e (.ref C) args) (E:=fun _ _=>False) ?_ (fun v s2 q=>wpAny_bind (wpAny_standAt (wpAny_pure ?_))) fun _ _ z=>False.elim z
  ·refine wpAny_Call_Name_kw (c6n (X:=X.held a) (I6.held a) hgC hmC ?_ hdc)
   refine PySem.W.callWith_K (h₀:=X.base) I.ok.mod.kin hkC (Calls.spliced_cons (Calls.Constant_str (k:=j) (pos:=zpos) (Calls.spliced_nil ⟨I6.kIn,?_⟩))) rfl rfl
   exact wpAny_call_exc_subT (hrest:=by show 1<=sizeLine; rw [sizeLine_eq]; decide) PySem.F.excBase_ValueError T hC hN hni fun h' e hm=>⟨e,h',_,rfl,rfl,_,hm⟩
  ·obtain⟨e,h7,tk,rfl,rfl,args,hx⟩:=q
   obtain⟨t,he,_,_⟩:=hx.there
   have hne:a≠e:=fun z=>by rw [z,hx.new] at hoa; cases hoa
   refine⟨e,t,rfl,hne,hx.keeps _ _ hC,he,⟨oa,va,hx.keeps _ _ hoa,hda,h2a⟩,fun h8 oth e8=>?_⟩
   have up8:h7.UpToSlots h8:=fun b o q nf=>⟨o.slots,(oth b fun z=>by
    rw [z,he] at q
    cases q
    exact nf _ rfl).trans q⟩
   have k8:∀ b o,h6.get? b=some o->h8.get? b=some o:=fun b o q=>(oth b fun z=>by rw [z,hx.new] at q; cases q).trans (hx.keeps b o q)
   have hin:∀ env∈X.stack,∀ b,env.frame=some b->b∈frs X.stack:=fun env he b hb=>List.mem_filterMap.mpr ⟨env,he,hb⟩
   have hkb:(PySem.W.hideAll h6 (frs X.stack)).StaysIn h8:=fun b o q=>k8 b o (PySem.W.of_hideAll _ q)
   have hno:(PySem.W.hideAll h6 (frs X.stack)).get? e=none:=by
    cases q:(PySem.W.hideAll h6 (frs X.stack)).get? e with
    | none=>rfl
    | some o=>have z:=PySem.W.of_hideAll _ q; rw [hx.new] at z; cases z
   have ff:h8.FunFrames (PySem.W.hideAll h6 (frs X.stack)) X.stack:=(PySem.W.funFrames_hide I6.stack hin).of_keeps fun b o hb _=>⟨o,k8 b o hb,rfl⟩
   have kd8:Kd e (none,some (.ref a)) h8:=⟨_,e8,rfl,rfl⟩
   have hAm:(X.A.mark (some (.ref a))).frames=some (X.env :: X.outer):=hA
   show wpAny _ _ (noteFrame (.ref e) X.env) _ _ _
   refine wpAny_mono (d8y.any (e:=e) (d:=(none,some (.ref a))) (E:=fun _ _=>False) (Q:=fun _ s'=>∃ h9,s' = { s1 with heap:=h9,toks:=tk }/\Heap.NotedW (PySem.W.hideAll h6 (frs X.stack)) (X.env :: X.outer) e (.ref C) (.ref t) (rawInt X.env.locals) h8 h9) ?_ kd8) (fun _ s' z=>?_) fun _ _ z=>z.1.elim
   ·unfold noteFrame
    simp only [hfr]
    refine wpAny_bind (wpAny_field (x:=.none) e8 rfl rfl ?_)
    rw [if_neg (show ¬ ((Value.none != Value.none)=true) from by simp)]
    exact wpAny_entryW hAm (by rw [<- hst]; exact ff) hfr e8 hkb hno rfl (by simp) rfl fun h' n=>⟨h',rfl,n⟩
   ·obtain⟨⟨h9,rfl,n1,n2,⟨oe,vs,T9,oT,ts,he9,⟨hc9,h09⟩,hd9,h19,hnT,hTe,hT,hdT,h3⟩,n4⟩,kd9⟩:=z
    have z3:3 < ts.size:=(Array.getElem?_eq_some_iff.mp h3).1
    show wpAny _ _ _ _ _ _
    refine wpAny_bind (wpAny_field he9 hd9 h19 ?_)
    rw [if_neg (show ¬ ((Value.ref T9 == Value.none)=true) from by simp)]
    have i4v:∀ (x:Value) (b:Addr),b≠T9->(h9.update T9 (Obj.mapFields (·.setIfInBounds 3 x))).get? b=h9.get? b:=fun x b hb=>Heap.get?_update_other _ _ (Ne.symm hb)
    have h5g:∀ b o,h9.get? b=some o->(∀ vs,o.data≠.fields vs)->b≠T9:=fun b o hb hnf q=>by
     rw [q,hT] at hb
     cases hb
     exact hnf ts hdT
    refine wpAny_mono (d9m.any (E:=fun _ _=>False) (Q:=fun _ s'=>∃ h10,s' = { s1 with heap:=h10,toks:=tk }/\g1p (PySem.W.hideAll h6 (frs X.stack)) X.stack e (.ref C) (.ref t) h10/\h9.UpToSlots h10) ?_ kd9) (fun _ s' z=>?_) fun _ _ z=>z.1.elim
    ·unfold setFlight
     refine wpAny_bind (wpAny_field he9 hd9 h19 ?_)
     rw [if_pos (show (Value.ref T9 != Value.none)=true from by simp)]
     rw [<- hst] at n2
     exact wpAny_setField hT hdT z3 ⟨_,rfl,⟨fun b o hbo=>(i4v _ b fun q=>by rw [q,hnT] at hbo; cases hbo).trans (n1 b o hbo),hno,n2.of_keeps fun b o hb hnf=>⟨o,(i4v _ b (h5g b o hb hnf)).trans hb,rfl⟩,(X.env.frame.elim Value.none fun f=>rawInt f),oe,vs,T9,_,_,(i4v _ e (Ne.symm hTe)).trans he9,⟨hc9,h09⟩,hd9,h19,hnT,hTe,Heap.get?_update_self _ hT (Obj.isFreed_of_fields (Obj.data_mapFields hdT _)),Obj.data_mapFields hdT _,by simp [z3]⟩,fun b o hb hnf=>⟨o.slots,(i4v _ b (h5g b o hb hnf)).trans hb⟩⟩
    ·obtain⟨⟨h10,rfl,HA,u10⟩,kd10⟩:=z
     refine hP pins σ e (.ref C) (.ref t) _ H' _ HA (fun h' b' u'=>?_) (f8z I6 hx) ?_ ⟨none,_,kd10,hE⟩
     ·have y:=g8m I6 hx b' (((up8.trans n4).trans u10).trans u')
      exact I6.caught (s':={ s1 with heap:=h',toks:=tk }) rfl bare y.1 y.2
     ·exact I6.older hex hx.new
end
end L2
namespace L2
open PySem PySem.Spec PyProof.Rows
noncomputable def g9d(z:Str)(c:Nat):List Str:=match Builtin.Str.occurrences z ⟨#[c]⟩ 0 z.length 1 with
 | i :: _=>[Builtin.Str.strSub z 0 i,⟨#[c]⟩,Builtin.Str.strSub z (i+1) z.length]
 | []=>[z,Str.empty,Str.empty]
noncomputable def i2l:V->List V->Hp->VK->Prop:=fun x vs H Q=>match x,vs with
 | .str z,[.str y]=>z.length<=sizeLine/\∃ c,y = ⟨#[c]⟩/\New H (.tup ((g9d z c).map V.str)) Q ⟨⟩
 | _,_=>False
theorem g3y {X : Cx} : MtR X "str.partition" i2l := by
 intro pins s σ H x xs v us Q I rx rs h
 match x,xs,h with
 | .str z,[.str y],⟨hz,c,hy,q⟩ =>
  subst hy
  obtain⟨t,rfl⟩:=rx
  obtain⟨u,rfl,t',rfl⟩:=vals1 rs
  have fr:H s.heap.objs.size=none:=I.hok.fresh (Nat.le_refl _)
  refine call_meets F.slot_str_partition (typeIs_str _ _ _) F.entry_str_partition (F.args_str_partition_2 _ _) (meets_str_partition z ⟨#[c]⟩ t t' rfl hz) ?_
  unfold g9d at q
  cases e:Builtin.Str.occurrences z ⟨#[c]⟩ 0 z.length 1 with
  | nil =>
   rw [e] at q
   exact⟨.ref _,_,I.laid (o:=.tup ([z,Str.empty,Str.empty].map V.str)) (t':=s.toks+1) (fun b u e=>Heap.get?_push_of_some _ e) (Nat.le_refl _) ⟨show 3<=sizeLine by decide,[Value.str z t,.str Str.empty s.toks,.str Str.empty s.toks],.cons ⟨t,rfl⟩ (.cons ⟨_,rfl⟩ (.cons ⟨_,rfl⟩ .nil)),_,Heap.get?_push_size _ rfl,rfl,0,rfl⟩,rfl,q.raw _ fr⟩
  | cons i r =>
   rw [e] at q
   exact⟨.ref _,_,I.laid (o:=.tup ([Builtin.Str.strSub z 0 i,⟨#[c]⟩,Builtin.Str.strSub z (i+1) z.length].map V.str)) (t':=s.toks+1+1) (fun b u e=>Heap.get?_push_of_some _ e) (Nat.le_refl _) ⟨show 3<=sizeLine by decide,[Value.str (Builtin.Str.strSub z 0 i) s.toks,.str ⟨#[c]⟩ t',.str (Builtin.Str.strSub z (i+1) z.length) (s.toks+1)],.cons ⟨_,rfl⟩ (.cons ⟨_,rfl⟩ (.cons ⟨_,rfl⟩ .nil)),_,Heap.get?_push_size _ rfl,rfl,0,rfl⟩,rfl,q.raw _ fr⟩
section
variable {X:Cx}{scope:Scope}{x:Str}{elt iter:Expr}{px pos:Pos}{wi:TI}{te:TE}
theorem h3h{Ee:XK}{i:Nat}{y:Str}{py spos:Pos}(hN:X.N.Nodup)(hyi:X.N[i]? = some y)(hy:X.env.scope.names.lookup y=some .local)(hP:f5z X Ee)(hi:PI X (.Name x px) iter wi)(he:∀ cl C s₃ H₃ fp,PEX (a8z X scope cl C s₃ H₃ fp x) elt te Ee)(S:c2h X scope x)(hc:X.calm=true)
  (hst:X.stack=X.env :: X.outer:=by rfl) (hfr:X.env.frame=some X.env.locals:=by rfl) (hex:X.ex = []:=by rfl)
  (hsw:swapsWith (.ListComp elt [⟨.Name x px,iter,[],0⟩] scope pos) (some (.Name y py)) spos.line X.env=pure true:=by rfl)
  (hs:∀ x,foldedSetIterable iter X.env x=pure x:=by intro _; rfl):PS X (.Assign [.Name y py] (.ListComp elt [⟨.Name x px,iter,[],0⟩] scope pos) spos) (h9q (h6p wi te) (g7n i)):=by
 intro pins s σ H D I h
 obtain⟨cl,hclos,hcl,hcl2⟩:=d0l (env:=X.env) (sc:=scope) fun y hy=>I.ok.has y (S.free _ hy rfl)
 rw [exec_Assign_Name_used _ _ _ _ hsw]
 refine wpAny_bind (wpAny_standAt (wpAny_bind ?_))
 show wpAny _ X.A (do let _ <- comprehension (.ListComp elt [⟨.Name x px,iter,[],0⟩] scope pos) scope X.env _ (newList []) false (eval iter X.env) (some (assign (.Name y py) X.env))) _ _ s
 refine wpAny_bind (wpAny_mono (wpAny_comprehension_free (use:=some (assign (.Name y py) X.env)) (Q:=fun _ s'=>SP X pins D .next s') rfl hs hclos S.kind S.loc ?_) (fun _ s' hq=>wpAny_pure (wpAny_pure hq)) fun _ _ e=>e)
 refine thn (hi pins s σ H _ I h) fun v s1 h1=>thn h1 fun itv s2 h2=>?_
 obtain⟨it,fp,tn,J,H2,e,I2,T,st2,f2,hW⟩:=h2
 subst e
 refine g1q (Q:=fun v H'=>D.nx (σ.set i (some v)) H') (RR:=fun acc C=>compPost (model X.prog X.w) X.A X.xe (some (assign (.Name y py) X.env)) (fun _ s'=>SP X pins D .next s') acc C) S hc he hcl hcl2 I2 T st2 f2 hW (fun L C s' H' hm hI hfp hq=>?_) ?_
 ·obtain⟨m,hn⟩:=hm
  have I':Inv X pins σ H' s':=hI s'.heap (Heap.SameBut.refl ..)
  show wpAny _ X.A (assign (.Name y py) X.env (.ref L)) _ _ s'
  refine wpAny_assign_Name (d8k (v:=.ref L) I' hN hyi (.inl hy) rfl (fun s'' I'' hsb=>?_) (.inr hy))
  obtain⟨a,hsame,ha⟩:=hsb
  have nea:C≠a:=by
   rcases ha with z | z
   ·rw [z]; exact hfp.2.1
   ·exact fun q=>hfp.2.2.2.2.1 y a z q.symm
  refine⟨m,hn.sameBut hsame nea,fun h' hs'=>⟨_,H',I''.turned (t':=s''.toks) (it:=C) (fun b o hb e=>hs'.extBut b o hb e) hfp.1 hfp.2.1 hfp.2.2.2.1 hfp.2.2.2.2.1 hfp.2.2.2.2.2,hq⟩⟩
 ·exact fun D s₃ s9 s' H3 H9 pl σ' e I3 f3 I9 hfp cx=>g6d (Q:=fun _ _=>True) (acc:=.none) hP I3 f3 I9 hfp cx hst hfr hex
end
theorem a1g.orN{P:Program}{w:World}{K:PySem.W.Frag}{mg:Str->Option Value}{base:Heap}{k:Nat}{f:Addr}{fd:FuncData}{ps:List Str}{sp sp':Sp}(F:a1g P w K mg base CX0 k f fd ps sp)(G:a1g P w K mg base (CXF true P w) k f fd ps sp') :
  a1g P w K mg base (CXF true P w) k f fd ps (fun vs H Q E=>sp vs H Q E\/sp' vs H Q E):=by
 refine⟨fun vs H Q E h=>h.elim (F.len vs H Q E) (G.len vs H Q E),fun A outer s H args us vs Q E hr e0 hb hv h=>?_⟩
 rcases h with h | h
 ·refine codeAny_mono (F.run A outer s H args us vs Q E hr e0 hb hv h) fun r s' q=>?_
  cases r with
  | error e=>exact False.elim q
  | ok fl=>cases fl <;> exact q
 ·exact G.run A outer s H args us vs Q E hr e0 hb hv h
noncomputable def i9h(e:DictEntry):Str:=match e.key with
 | .str x _=>x
 | _=>Str.empty
noncomputable def g9e(K:PySem.W.Frag)(d:Addr):Option (List Str):=match K.lookup d with
 | some ⟨_,_,.dict es _,_⟩=>some (es.toList.map i9h)
 | _=>none
theorem h7l{K:PySem.W.Frag}{w:World}{d:Addr}{ks:List Str}{k:Str}(h:g9e K d=some ks)(D:i4u K w d)(hk:k∉ks):PySem.W.nsIn K d k=some none:=by
 obtain⟨es,n,e,kl⟩:=D.lk
 unfold g9e at h
 rw [e] at h
 cases h
 have al:=kl.all
 unfold PySem.W.nsIn
 rw [e]
 dsimp only
 have f:es.toList.find? (·.key.isStr k)=none:=by
  rw [List.find?_eq_none]
  intro en hen
  obtain⟨x,t,ek,_⟩:=al en hen
  rw [ek]
  intro hx
  refine hk (List.mem_map.mpr ⟨en,hen,?_⟩)
  unfold i9h
  rw [ek]
  have hx':(x == k)=true\/(k == x)=true:=by
   first | exact .inl hx | exact .inr hx
  rcases hx' with h | h
  ·exact beq_iff_eq.mp h
  ·exact (beq_iff_eq.mp h).symm
 rw [f]
 have g:es.toList.any (·.refKey)=false:=by
  rw [List.any_eq_false]
  intro en hen
  obtain⟨x,t,ek,_⟩:=al en hen
  unfold PySem.DictEntry.refKey
  rw [ek]
  exact Bool.false_ne_true
 rw [if_neg (by rw [g]; exact Bool.false_ne_true)]
end L2
set_option maxHeartbeats 4000000
namespace My
open PySem PySem.Spec PyProof.Rows L2
open PySem.Builtin.Int (intBits)
theorem h8x{P:Int->Prop}{vs:List V}(h:match vs with | [.int x0]=>P x0 | _=>False):∃ x0,vs = [.int x0]/\P x0:=by
 obtain _ | ⟨y0,vs⟩:=vs
 ·exact False.elim h
 cases y0 <;> first | exact False.elim h | skip
 obtain _ | ⟨y,vs⟩:=vs
 ·exact⟨_,rfl,h⟩
 ·exact False.elim h
theorem f2p{P:Int->Int->Prop}{vs:List V}(h:match vs with | [.int x0,.int x1]=>P x0 x1 | _=>False):∃ x0 x1,vs = [.int x0,.int x1]/\P x0 x1:=by
 obtain _ | ⟨y0,vs⟩:=vs
 ·exact False.elim h
 cases y0 <;> first | exact False.elim h | skip
 obtain _ | ⟨y1,vs⟩:=vs
 ·exact False.elim h
 cases y1 <;> first | exact False.elim h | skip
 obtain _ | ⟨y,vs⟩:=vs
 ·exact⟨_,_,rfl,h⟩
 ·exact False.elim h
theorem c0m{P:Addr->Prop}{vs:List V}(h:match vs with | [.ref x0]=>P x0 | _=>False):∃ x0,vs = [.ref x0]/\P x0:=by
 obtain _ | ⟨y0,vs⟩:=vs
 ·exact False.elim h
 cases y0 <;> first | exact False.elim h | skip
 obtain _ | ⟨y,vs⟩:=vs
 ·exact⟨_,rfl,h⟩
 ·exact False.elim h
theorem f9p{P:Addr->Int->Prop}{vs:List V}(h:match vs with | [.ref x0,.int x1]=>P x0 x1 | _=>False):∃ x0 x1,vs = [.ref x0,.int x1]/\P x0 x1:=by
 obtain _ | ⟨y0,vs⟩:=vs
 ·exact False.elim h
 cases y0 <;> first | exact False.elim h | skip
 obtain _ | ⟨y1,vs⟩:=vs
 ·exact False.elim h
 cases y1 <;> first | exact False.elim h | skip
 obtain _ | ⟨y,vs⟩:=vs
 ·exact⟨_,_,rfl,h⟩
 ·exact False.elim h
theorem f2q{P:Addr->Addr->Prop}{vs:List V}(h:match vs with | [.ref x0,.ref x1]=>P x0 x1 | _=>False):∃ x0 x1,vs = [.ref x0,.ref x1]/\P x0 x1:=by
 obtain _ | ⟨y0,vs⟩:=vs
 ·exact False.elim h
 cases y0 <;> first | exact False.elim h | skip
 obtain _ | ⟨y1,vs⟩:=vs
 ·exact False.elim h
 cases y1 <;> first | exact False.elim h | skip
 obtain _ | ⟨y,vs⟩:=vs
 ·exact⟨_,_,rfl,h⟩
 ·exact False.elim h
theorem g3z{P:Addr->Addr->Int->Prop}{vs:List V}(h:match vs with | [.ref x0,.ref x1,.int x2]=>P x0 x1 x2 | _=>False):∃ x0 x1 x2,vs = [.ref x0,.ref x1,.int x2]/\P x0 x1 x2:=by
 obtain _ | ⟨y0,vs⟩:=vs
 ·exact False.elim h
 cases y0 <;> first | exact False.elim h | skip
 obtain _ | ⟨y1,vs⟩:=vs
 ·exact False.elim h
 cases y1 <;> first | exact False.elim h | skip
 obtain _ | ⟨y2,vs⟩:=vs
 ·exact False.elim h
 cases y2 <;> first | exact False.elim h | skip
 obtain _ | ⟨y,vs⟩:=vs
 ·exact⟨_,_,_,rfl,h⟩
 ·exact False.elim h
theorem g9f{P:Addr->Addr->Int->Int->Prop}{vs:List V}(h:match vs with | [.ref x0,.ref x1,.int x2,.int x3]=>P x0 x1 x2 x3 | _=>False):∃ x0 x1 x2 x3,vs = [.ref x0,.ref x1,.int x2,.int x3]/\P x0 x1 x2 x3:=by
 obtain _ | ⟨y0,vs⟩:=vs
 ·exact False.elim h
 cases y0 <;> first | exact False.elim h | skip
 obtain _ | ⟨y1,vs⟩:=vs
 ·exact False.elim h
 cases y1 <;> first | exact False.elim h | skip
 obtain _ | ⟨y2,vs⟩:=vs
 ·exact False.elim h
 cases y2 <;> first | exact False.elim h | skip
 obtain _ | ⟨y3,vs⟩:=vs
 ·exact False.elim h
 cases y3 <;> first | exact False.elim h | skip
 obtain _ | ⟨y,vs⟩:=vs
 ·exact⟨_,_,_,_,rfl,h⟩
 ·exact False.elim h
theorem d2t{P:Str->Prop}{vs:List V}(h:match vs with | [.str x0]=>P x0 | _=>False):∃ x0,vs = [.str x0]/\P x0:=by
 obtain _ | ⟨y0,vs⟩:=vs
 ·exact False.elim h
 cases y0 <;> first | exact False.elim h | skip
 obtain _ | ⟨y,vs⟩:=vs
 ·exact⟨_,rfl,h⟩
 ·exact False.elim h
theorem i2m{P:Str->Bool->Prop}{vs:List V}(h:match vs with | [.str x0,.bl x1]=>P x0 x1 | _=>False):∃ x0 x1,vs = [.str x0,.bl x1]/\P x0 x1:=by
 obtain _ | ⟨y0,vs⟩:=vs
 ·exact False.elim h
 cases y0 <;> first | exact False.elim h | skip
 obtain _ | ⟨y1,vs⟩:=vs
 ·exact False.elim h
 cases y1 <;> first | exact False.elim h | skip
 obtain _ | ⟨y,vs⟩:=vs
 ·exact⟨_,_,rfl,h⟩
 ·exact False.elim h
theorem i2n{P:Str->Int->Prop}{vs:List V}(h:match vs with | [.str x0,.int x1]=>P x0 x1 | _=>False):∃ x0 x1,vs = [.str x0,.int x1]/\P x0 x1:=by
 obtain _ | ⟨y0,vs⟩:=vs
 ·exact False.elim h
 cases y0 <;> first | exact False.elim h | skip
 obtain _ | ⟨y1,vs⟩:=vs
 ·exact False.elim h
 cases y1 <;> first | exact False.elim h | skip
 obtain _ | ⟨y,vs⟩:=vs
 ·exact⟨_,_,rfl,h⟩
 ·exact False.elim h
theorem f3p{P:Str->Int->Int->Prop}{vs:List V}(h:match vs with | [.str x0,.int x1,.int x2]=>P x0 x1 x2 | _=>False):∃ x0 x1 x2,vs = [.str x0,.int x1,.int x2]/\P x0 x1 x2:=by
 obtain _ | ⟨y0,vs⟩:=vs
 ·exact False.elim h
 cases y0 <;> first | exact False.elim h | skip
 obtain _ | ⟨y1,vs⟩:=vs
 ·exact False.elim h
 cases y1 <;> first | exact False.elim h | skip
 obtain _ | ⟨y2,vs⟩:=vs
 ·exact False.elim h
 cases y2 <;> first | exact False.elim h | skip
 obtain _ | ⟨y,vs⟩:=vs
 ·exact⟨_,_,_,rfl,h⟩
 ·exact False.elim h
theorem h8y{P:V->Prop}{vs:List V}(h:match vs with | [x0]=>P x0 | _=>False):∃ x0,vs = [x0]/\P x0:=by
 obtain _ | ⟨y0,vs⟩:=vs
 ·exact False.elim h
 obtain _ | ⟨y,vs⟩:=vs
 ·exact⟨_,rfl,h⟩
 ·exact False.elim h
noncomputable def top(i:Nat):Stmt:=PySem.Challenge.pw_mixbench_k40_what_is_no_part.main.body.getD i (.Pass ⟨0,0,0,0⟩)
noncomputable abbrev f3q:Stmt:=(top 16)
noncomputable abbrev d7h:Stmt:=(top 17)
noncomputable abbrev f3r:Stmt:=(top 18)
noncomputable abbrev f9q:Stmt:=(top 21)
noncomputable abbrev f3s:Stmt:=(top 22)
noncomputable abbrev f3t:Stmt:=(top 23)
noncomputable abbrev h5h:Stmt:=(top 24)
noncomputable abbrev g9g:Stmt:=(top 25)
noncomputable abbrev f9r:Stmt:=(top 26)
noncomputable abbrev f3u:Stmt:=(top 27)
noncomputable abbrev c8p:Stmt:=(top 28)
noncomputable abbrev c8q:Stmt:=(top 29)
noncomputable abbrev d9n:Stmt:=(inClass (top 32) 0)
noncomputable abbrev d9o:Stmt:=(inClass (top 32) 4)
noncomputable abbrev d7i:Stmt:=(inClass (top 33) 0)
noncomputable abbrev d7j:Stmt:=(inClass (top 33) 3)
noncomputable abbrev d9p:Stmt:=(top 35)
noncomputable abbrev d1p:Stmt:=(inClass (top 36) 0)
noncomputable abbrev d9q:Stmt:=(inClass (top 36) 5)
noncomputable abbrev d9r:Stmt:=(inClass (top 37) 0)
noncomputable abbrev d9s:Stmt:=(inClass (top 37) 5)
noncomputable abbrev d9t:Stmt:=(inClass (top 38) 0)
noncomputable abbrev d9u:Stmt:=(inClass (top 38) 4)
noncomputable abbrev c8r:Stmt:=(top 40)
noncomputable abbrev d9v:Stmt:=(top 42)
noncomputable abbrev h5i:Stmt:=(top 43)
noncomputable abbrev d3h:Stmt:=(top 44)
noncomputable abbrev b8s:Stmt:=(inClass (top 45) 0)
noncomputable abbrev c8s:Stmt:=(inClass (top 45) 8)
noncomputable abbrev d9w:Stmt:=(top 52)
noncomputable abbrev d3i:Stmt:=(top 53)
noncomputable abbrev d9y:Stmt:=(top 54)
noncomputable abbrev d3j:Stmt:=(top 55)
noncomputable abbrev f9s:Stmt:=(top 56)
noncomputable abbrev f3v:Stmt:=(top 57)
noncomputable abbrev f9t:Stmt:=(top 58)
noncomputable abbrev f9u:Stmt:=(top 59)
noncomputable abbrev f9v:Stmt:=(top 60)
noncomputable abbrev d3k:Stmt:=(top 61)
noncomputable abbrev d0o:Stmt:=(top 62)
noncomputable abbrev f9w:Stmt:=(top 64)
noncomputable abbrev d3l:Stmt:=(top 66)
noncomputable abbrev d7k:Stmt:=(top 67)
noncomputable abbrev g4a:Stmt:=(top 68)
noncomputable abbrev d3m:Stmt:=(top 69)
noncomputable abbrev d1h:Stmt:=(top 70)
noncomputable abbrev d3n:Stmt:=(top 71)
noncomputable abbrev f3w:Stmt:=(top 72)
noncomputable abbrev d5i:Stmt:=(top 73)
noncomputable abbrev d3o:Stmt:=(top 74)
noncomputable abbrev d3p:Stmt:=(top 75)
noncomputable abbrev f3y:Stmt:=(top 76)
noncomputable abbrev i2o:Stmt:=(top 77)
theorem g1u : a0v ["value"] ["value"] (a0n f3q) := ⟨rfl, rfl, rfl, by decide +kernel, rfl, by decide +kernel, by decide +kernel⟩
theorem d3q : a0v ["text", "sign"] ["text"] (a0n d7h) := ⟨rfl, rfl, rfl, by decide +kernel, rfl, by decide +kernel, by decide +kernel⟩
theorem d9z : a0v ["text"] ["text"] (a0n f3r) := ⟨rfl, rfl, rfl, by decide +kernel, rfl, by decide +kernel, by decide +kernel⟩
theorem c0n : a0v ["one", "other", "left", "right", "rest"] ["one", "other"] (a0n f9q) := ⟨rfl, rfl, rfl, by decide +kernel, rfl, by decide +kernel, by decide +kernel⟩
theorem g1v : a0v ["one", "other"] ["one", "other"] (a0n f3s) := ⟨rfl, rfl, rfl, by decide +kernel, rfl, by decide +kernel, by decide +kernel⟩
theorem d1q : a0v ["top", "bottom", "by"] ["top", "bottom"] (a0n f3t) := ⟨rfl, rfl, rfl, by decide +kernel, rfl, by decide +kernel, by decide +kernel⟩
theorem h7m : a0v ["one", "other"] ["one", "other"] (a0n h5h) := ⟨rfl, rfl, rfl, by decide +kernel, rfl, by decide +kernel, by decide +kernel⟩
theorem h3i : a0v ["one", "other"] ["one", "other"] (a0n g9g) := ⟨rfl, rfl, rfl, by decide +kernel, rfl, by decide +kernel, by decide +kernel⟩
theorem g6f : a0v ["one"] ["one"] (a0n f9r) := ⟨rfl, rfl, rfl, by decide +kernel, rfl, by decide +kernel, by decide +kernel⟩
theorem g1w : a0v ["one", "other"] ["one", "other"] (a0n f3u) := ⟨rfl, rfl, rfl, by decide +kernel, rfl, by decide +kernel, by decide +kernel⟩
theorem a6m : a0v ["one", "top", "bottom"] ["one"] (a0n c8p) := ⟨rfl, rfl, rfl, by decide +kernel, rfl, by decide +kernel, by decide +kernel⟩
theorem a2z : a0v ["text", "halves", "top", "number", "one"] ["text"] (a0n c8q) := ⟨rfl, rfl, rfl, by decide +kernel, rfl, by decide +kernel, by decide +kernel⟩
theorem f9y : a0v ["self", "gain"] ["self", "gain"] (a0n d9n) := ⟨rfl, rfl, rfl, by decide +kernel, rfl, by decide +kernel, by decide +kernel⟩
theorem d7l : a0v ["self", "gain"] ["self"] (a0n d9o) := ⟨rfl, rfl, rfl, by decide +kernel, rfl, by decide +kernel, by decide +kernel⟩
theorem f6h : a0v ["self", "many"] ["self", "many"] (a0n d7i) := ⟨rfl, rfl, rfl, by decide +kernel, rfl, by decide +kernel, by decide +kernel⟩
theorem d3r : a0v ["self", "many"] ["self"] (a0n d7j) := ⟨rfl, rfl, rfl, by decide +kernel, rfl, by decide +kernel, by decide +kernel⟩
theorem c8t : a0v ["number", "most", "powers", "turn"] ["number", "most"] (a0n d9p) := ⟨rfl, rfl, rfl, by decide +kernel, rfl, by decide +kernel, by decide +kernel⟩
theorem c8u : a0v ["self", "gain", "many", "turns", "tops", "bottoms"] ["self", "gain", "many", "turns"] (a0n d1p) := ⟨rfl, rfl, rfl, by decide +kernel, rfl, by decide +kernel, by decide +kernel⟩
theorem c3l : a0v ["self", "gain", "many", "turns"] ["self"] (a0n d9q) := ⟨rfl, rfl, rfl, by decide +kernel, rfl, by decide +kernel, by decide +kernel⟩
theorem f9z : a0v ["self", "gain", "many"] ["self", "gain", "many"] (a0n d9r) := ⟨rfl, rfl, rfl, by decide +kernel, rfl, by decide +kernel, by decide +kernel⟩
theorem c8v : a0v ["self", "gain", "many"] ["self"] (a0n d9s) := ⟨rfl, rfl, rfl, by decide +kernel, rfl, by decide +kernel, by decide +kernel⟩
theorem g0a : a0v ["self", "gain", "many"] ["self", "gain", "many"] (a0n d9t) := ⟨rfl, rfl, rfl, by decide +kernel, rfl, by decide +kernel, by decide +kernel⟩
theorem c8w : a0v ["self", "gain", "many"] ["self"] (a0n d9u) := ⟨rfl, rfl, rfl, by decide +kernel, rfl, by decide +kernel, by decide +kernel⟩
theorem b1u : a0v ["bottoms", "shared", "bottom"] ["bottoms"] (a0n c8r) := ⟨rfl, rfl, rfl, by decide +kernel, rfl, by decide +kernel, by decide +kernel⟩
theorem b8t : a0v ["corners", "slopes", "left", "right", "rise"] ["corners"] (a0n d9v) := ⟨rfl, rfl, rfl, by decide +kernel, rfl, by decide +kernel, by decide +kernel⟩
theorem h7n : a0v ["one", "bottom"] ["one", "bottom"] (a0n h5i) := ⟨rfl, rfl, rfl, by decide +kernel, rfl, by decide +kernel, by decide +kernel⟩
theorem c4o : a0v ["corner", "at", "gain"] ["corner"] (a0n d3h) := ⟨rfl, rfl, rfl, by decide +kernel, rfl, by decide +kernel, by decide +kernel⟩
theorem d3s : a0v ["self", "corners", "slopes"] ["self", "corners"] (a0n b8s) := ⟨rfl, rfl, rfl, by decide +kernel, rfl, by decide +kernel, by decide +kernel⟩
theorem d3t : a0v ["self", "corners"] ["self"] (a0n c8s) := ⟨rfl, rfl, rfl, by decide +kernel, rfl, by decide +kernel, by decide +kernel⟩
theorem c3m : a0v ["text", "gain"] ["text"] (a0n d9w) := ⟨rfl, rfl, rfl, by decide +kernel, rfl, by decide +kernel, by decide +kernel⟩
theorem b8n : a0v ["text", "least", "most", "number"] ["text", "least", "most"] (a0n d3i) := ⟨rfl, rfl, rfl, by decide +kernel, rfl, by decide +kernel, by decide +kernel⟩
theorem d7m : a0v ["text"] ["text"] (a0n d9y) := ⟨rfl, rfl, rfl, by decide +kernel, rfl, by decide +kernel, by decide +kernel⟩
theorem d1i : a0v ["values", "count"] ["values", "count"] (a0n d3j) := ⟨rfl, rfl, rfl, by decide +kernel, rfl, by decide +kernel, by decide +kernel⟩
theorem f3z : a0v ["values"] ["values"] (a0n f9s) := ⟨rfl, rfl, rfl, by decide +kernel, rfl, by decide +kernel, by decide +kernel⟩
theorem f0g : a0v ["values"] ["values"] (a0n f3v) := ⟨rfl, rfl, rfl, by decide +kernel, rfl, by decide +kernel, by decide +kernel⟩
theorem f4g : a0v ["values"] ["values"] (a0n f9t) := ⟨rfl, rfl, rfl, by decide +kernel, rfl, by decide +kernel, by decide +kernel⟩
theorem f4h : a0v ["values"] ["values"] (a0n f9u) := ⟨rfl, rfl, rfl, by decide +kernel, rfl, by decide +kernel, by decide +kernel⟩
theorem d0p : a0v ["values", "gain"] ["values"] (a0n f9v) := ⟨rfl, rfl, rfl, by decide +kernel, rfl, by decide +kernel, by decide +kernel⟩
theorem b8o : a0v ["text", "halves"] ["text"] (a0n d3k) := ⟨rfl, rfl, rfl, by decide +kernel, rfl, by decide +kernel, by decide +kernel⟩
theorem a9j : a0v ["values", "corners", "left", "right"] ["values"] (a0n d0o) := ⟨rfl, rfl, rfl, by decide +kernel, rfl, by decide +kernel, by decide +kernel⟩
theorem d0q : a0v ["word", "values"] ["word"] (a0n f9w) := ⟨rfl, rfl, rfl, by decide +kernel, rfl, by decide +kernel, by decide +kernel⟩
theorem b8p : a0v ["_law_one", "_law_other", "_law_rest"] ["_law_one", "_law_other"] (a0n d3l) := ⟨rfl, rfl, rfl, by decide +kernel, rfl, by decide +kernel, by decide +kernel⟩
theorem d3u : a0v ["_law_text", "_law_sign"] ["_law_text"] (a0n d7k) := ⟨rfl, rfl, rfl, by decide +kernel, rfl, by decide +kernel, by decide +kernel⟩
theorem g0b : a0v ["_law_text", "_law_least", "_law_most", "_law_number_here"] ["_law_text", "_law_least", "_law_most"] (a0n g4a) := ⟨rfl, rfl, rfl, by decide +kernel, rfl, by decide +kernel, by decide +kernel⟩
theorem a6y : a0v ["_law_text", "_law_hall", "_law_top", "_law_mark", "_law_low", "_law_sign", "_law_number_here", "_law_below"] ["_law_text", "_law_hall"] (a0n d3m) := ⟨rfl, rfl, rfl, by decide +kernel, rfl, by decide +kernel, by decide +kernel⟩
theorem a4q : a0v ["_law_text", "_law_last", "_law_corners", "_law_corner", "_law_at", "_law_mark", "_law_gain"] ["_law_text"] (a0n d1h) := ⟨rfl, rfl, rfl, by decide +kernel, rfl, by decide +kernel, by decide +kernel⟩
theorem d1j : a0v ["_law_word", "_law_some"] ["_law_word"] (a0n d3n) := ⟨rfl, rfl, rfl, by decide +kernel, rfl, by decide +kernel, by decide +kernel⟩
theorem d1r : a0v ["_law_mixed", "_law_some"] ["_law_mixed"] (a0n f3w) := ⟨rfl, rfl, rfl, by decide +kernel, rfl, by decide +kernel, by decide +kernel⟩
theorem b5j : a0v ["_law_mixed", "_law_some"] ["_law_mixed"] (a0n d5i) := ⟨rfl, rfl, rfl, by decide +kernel, rfl, by decide +kernel, by decide +kernel⟩
theorem b1r : a0v ["_law_word", "_law_mixed", "_law_signs", "_law_put", "_law_at", "_law_some"] ["_law_word", "_law_mixed"] (a0n d3o) := ⟨rfl, rfl, rfl, by decide +kernel, rfl, by decide +kernel, by decide +kernel⟩
theorem b8q : a0v ["_law_thing", "_law_found", "error"] ["_law_thing"] (a0n d3p) := ⟨rfl, rfl, rfl, by decide +kernel, rfl, by decide +kernel, by decide +kernel⟩
theorem g1x : a0v ["_law_word"] ["_law_word"] (a0n f3y) := ⟨rfl, rfl, rfl, by decide +kernel, rfl, by decide +kernel, by decide +kernel⟩
theorem g0c : a0v ["_law_script", "_law_cell", "_law_mixed", "_law_word", "_law_odd"] ["_law_script"] (a0n i2o) := ⟨rfl, rfl, rfl, by decide +kernel, rfl, by decide +kernel, by decide +kernel⟩
set_option genInjectivity false in
structure Ad where
 b5k:Addr
 b5l:FuncData
 a9k:Addr
 a9w:FuncData
 b2n:Addr
 b1z:FuncData
 b8u:Addr
 b5m:FuncData
 b5n:Addr
 b5o:FuncData
 b5p:Addr
 b5q:FuncData
 f0h:Addr
 d5j:FuncData
 d1s:Addr
 d0r:FuncData
 c2j:Addr
 c0o:FuncData
 b5r:Addr
 b5s:FuncData
 a4r:Addr
 a4z:FuncData
 a4s:Addr
 a5g:FuncData
 b5t:Addr
 b2o:FuncData
 b5u:Addr
 b2p:FuncData
 b2q:Addr
 a9y:FuncData
 b2r:Addr
 a9z:FuncData
 b2g:Addr
 b2s:FuncData
 b5v:Addr
 b2t:FuncData
 b5w:Addr
 b2u:FuncData
 b5y:Addr
 b2v:FuncData
 b5z:Addr
 b2w:FuncData
 b6g:Addr
 b2y:FuncData
 b6h:Addr
 b2z:FuncData
 a5s:Addr
 a6n:FuncData
 b2h:Addr
 b3g:FuncData
 f0i:Addr
 d5k:FuncData
 a7w:Addr
 a8o:FuncData
 b3h:Addr
 b0g:FuncData
 b3i:Addr
 b0h:FuncData
 a9l:Addr
 a9m:FuncData
 a6s:Addr
 a6z:FuncData
 a9n:Addr
 a9o:FuncData
 a6t:Addr
 a7g:FuncData
 b4k:Addr
 b6i:FuncData
 b0i:Addr
 b2j:FuncData
 b4l:Addr
 b6j:FuncData
 b4m:Addr
 b6k:FuncData
 b4n:Addr
 b6l:FuncData
 a6u:Addr
 a7h:FuncData
 b0j:Addr
 b2k:FuncData
 b8v:Addr
 b6m:FuncData
 a7y:Addr
 a8p:FuncData
 a9p:Addr
 b0k:FuncData
 c6o:Addr
 c5m:FuncData
 a7z:Addr
 a8q:FuncData
 a7i:Addr
 a7m:FuncData
 a8g:Addr
 a8r:FuncData
 b6n:Addr
 b6o:FuncData
 b6p:Addr
 b6q:FuncData
 a8h:Addr
 a8s:FuncData
 a8i:Addr
 a8t:FuncData
 b6r:Addr
 b6s:FuncData
 g0d:Addr
 d7n:FuncData
 a1q:Addr
 a1u:Addr
 a0p:Addr
 a0o:Addr
 a4h:Addr
 a6i:Addr
 a6j:Addr
 b1k:Addr
 a3j:Addr
 a6k:Addr
 a4i:Addr
 f4i:Addr
 c5n:Addr
 b6t:Addr
 b8w:Addr
 c3n:Addr
 c3o:Addr
 b2l:Addr
 c5o:Value
 a3u:Value
 a3v:Value
 b6u:Value
 b6v:Value
 b3j:Value
 c5p:Value
 a8u:Value
 a1k:Addr
 wd:World
structure Ty(K:W.Frag)(A:Ad):Prop where
 d1t : W.nsIn K mainGlobals "MixError" = some (some (.ref A.a1q))
 d1u : W.nsIn K mainGlobals "NoNumber" = some (some (.ref A.a1u))
 f0j : W.nsIn K mainGlobals "NoText" = some (some (.ref A.a0p))
 f0k : W.nsIn K mainGlobals "NoPart" = some (some (.ref A.a0o))
 f0l : W.nsIn K mainGlobals "NoName" = some (some (.ref A.a4h))
 f6i : W.nsIn K mainGlobals "Twice" = some (some (.ref A.a6i))
 f6j : W.nsIn K mainGlobals "NoBus" = some (some (.ref A.a6j))
 g1y : W.nsIn K mainGlobals "Ring" = some (some (.ref A.b1k))
 d5l : W.nsIn K mainGlobals "NoBlock" = some (some (.ref A.a3j))
 f6k : W.nsIn K mainGlobals "NoRow" = some (some (.ref A.a6k))
 f0m : W.nsIn K mainGlobals "NoDeed" = some (some (.ref A.a4i))
 g1z : W.nsIn K mainGlobals "Part" = some (some (.ref A.f4i))
 g2a : W.nsIn K mainGlobals "Gain" = some (some (.ref A.c5n))
 f6l : W.nsIn K mainGlobals "Delay" = some (some (.ref A.b6t))
 g2b : W.nsIn K mainGlobals "Echo" = some (some (.ref A.b8w))
 g2c : W.nsIn K mainGlobals "Back" = some (some (.ref A.c3n))
 g2d : W.nsIn K mainGlobals "Hall" = some (some (.ref A.c3o))
 f6m : W.nsIn K mainGlobals "Swell" = some (some (.ref A.b2l))
 d5m : W.nsIn K mainGlobals "is_whole" = some (some (.ref A.b5k))
 c8y : W.nsIn K mainGlobals "is_figures" = some (some (.ref A.a9k))
 d5n : W.nsIn K mainGlobals "whole_of" = some (some (.ref A.b2n))
 f0n : W.nsIn K mainGlobals "divisor" = some (some (.ref A.b8u))
 d5o : W.nsIn K mainGlobals "multiple" = some (some (.ref A.b5n))
 d5p : W.nsIn K mainGlobals "fraction" = some (some (.ref A.b5p))
 g9h : W.nsIn K mainGlobals "plus" = some (some (.ref A.f0h))
 g2e : W.nsIn K mainGlobals "times" = some (some (.ref A.d1s))
 f0o : W.nsIn K mainGlobals "size_of" = some (some (.ref A.c2j))
 d5q : W.nsIn K mainGlobals "is_under" = some (some (.ref A.b5r))
 c2k : W.nsIn K mainGlobals "fraction_text" = some (some (.ref A.a4r))
 c2l : W.nsIn K mainGlobals "read_fraction" = some (some (.ref A.a4s))
 d1v : W.nsIn K mainGlobals "powers_of" = some (some (.ref A.b2g))
 c2m : W.nsIn K mainGlobals "shared_bottom" = some (some (.ref A.a5s))
 d1w : W.nsIn K mainGlobals "slopes_of" = some (some (.ref A.b2h))
 g9i : W.nsIn K mainGlobals "over" = some (some (.ref A.f0i))
 c6p : W.nsIn K mainGlobals "corner_word" = some (some (.ref A.a7w))
 d1y : W.nsIn K mainGlobals "read_gain" = some (some (.ref A.a9l))
 c6q : W.nsIn K mainGlobals "read_number" = some (some (.ref A.a6s))
 d1z : W.nsIn K mainGlobals "read_many" = some (some (.ref A.a9n))
 c6r : W.nsIn K mainGlobals "check_count" = some (some (.ref A.a6t))
 f0p : W.nsIn K mainGlobals "gain_of" = some (some (.ref A.b4k))
 d5r : W.nsIn K mainGlobals "delay_of" = some (some (.ref A.b0i))
 f0q : W.nsIn K mainGlobals "echo_of" = some (some (.ref A.b4l))
 f0r : W.nsIn K mainGlobals "back_of" = some (some (.ref A.b4m))
 f0s : W.nsIn K mainGlobals "hall_of" = some (some (.ref A.b4n))
 c6s : W.nsIn K mainGlobals "read_corner" = some (some (.ref A.a6u))
 d5s : W.nsIn K mainGlobals "swell_of" = some (some (.ref A.b0j))
 f0t : W.nsIn K mainGlobals "part_of" = some (some (.ref A.b8v))
 c6t : W.nsIn K mainGlobals "_law_divisor" = some (some (.ref A.a7y))
 c8z : W.nsIn K mainGlobals "_law_number" = some (some (.ref A.a9p))
 f6n : W.nsIn K mainGlobals "_law_in" = some (some (.ref A.c6o))
 c6u : W.nsIn K mainGlobals "_law_is_gain" = some (some (.ref A.a7z))
 c4p : W.nsIn K mainGlobals "_law_is_swell" = some (some (.ref A.a7i))
 c6v : W.nsIn K mainGlobals "_law_is_part" = some (some (.ref A.a8g))
 d5t : W.nsIn K mainGlobals "_law_good" = some (some (.ref A.b6n))
 d5u : W.nsIn K mainGlobals "_law_bent" = some (some (.ref A.b6p))
 c6w : W.nsIn K mainGlobals "_law_spoiled" = some (some (.ref A.a8h))
 c6y : W.nsIn K mainGlobals "_law_refused" = some (some (.ref A.a8i))
 d5v : W.nsIn K mainGlobals "_law_told" = some (some (.ref A.b6r))
 h3j : W.nsIn K mainGlobals "law" = some (some (.ref A.g0d))
 g9j:Cls K A.f4i
 b9h:Cls K A.c5n
 a5l : a3y K A.c5n "gain"
 g4b:Mk K A.c5n A.b5t
 c3p : Meth K A.c5n "word" A.b5u
 b1v:Cls K A.b6t
 a4m : a3y K A.b6t "many"
 f6o:Mk K A.b6t A.b2q
 c0h : Meth K A.b6t "word" A.b2r
 b9i:Cls K A.b8w
 a5m : a3y K A.b8w "gain"
 a5n : a3y K A.b8w "many"
 a4n : a3y K A.b8w "turns"
 a3n : a3y K A.b8w "factors"
 a1j : a3y K A.b8w "factor_bottom"
 g4c:Mk K A.b8w A.b5v
 c3q : Meth K A.b8w "word" A.b5w
 b9j:Cls K A.c3n
 a5o : a3y K A.c3n "gain"
 a5p : a3y K A.c3n "many"
 g4d:Mk K A.c3n A.b5y
 c3r : Meth K A.c3n "word" A.b5z
 b9k:Cls K A.c3o
 a5q : a3y K A.c3o "gain"
 a5r : a3y K A.c3o "many"
 g4e:Mk K A.c3o A.b6g
 c3s : Meth K A.c3o "word" A.b6h
 b1w:Cls K A.b2l
 a3g : a3y K A.b2l "corners"
 a3o : a3y K A.b2l "shared"
 a3w : a3y K A.b2l "lines"
 g2f:Mk K A.b2l A.b3h
 c0i : Meth K A.b2l "word" A.b3i
 c0p : Fun K "is_whole" "is_whole" f3q A.b5k A.b5l
 a7u : Fun K "is_figures" "is_figures" d7h A.a9k A.a9w
 b6w : Fun K "whole_of" "whole_of" f3r A.b2n A.b1z
 c5q : Fun K "divisor" "divisor" f9q A.b8u A.b5m
 c5r : Fun K "multiple" "multiple" f3s A.b5n A.b5o
 b3k : Fun K "fraction" "fraction" f3t A.b5p A.b5q
 g0e : Fun K "plus" "plus" h5h A.f0h A.d5j
 d5w : Fun K "times" "times" g9g A.d1s A.d0r
 c5s : Fun K "size_of" "size_of" f9r A.c2j A.c0o
 c0q : Fun K "is_under" "is_under" f3u A.b5r A.b5s
 a1z : Fun K "fraction_text" "fraction_text" c8p A.a4r A.a4z
 a5t : Fun K "read_fraction" "read_fraction" c8q A.a4s A.a5g
 c6z : Fun K "__init__" "Gain.__init__" d9n A.b5t A.b2o
 c7g : Fun K "word" "Gain.word" d9o A.b5u A.b2p
 c3t : Fun K "__init__" "Delay.__init__" d7i A.b2q A.a9y
 c3u : Fun K "word" "Delay.word" d7j A.b2r A.a9z
 b6y : Fun K "powers_of" "powers_of" d9p A.b2g A.b2s
 c7h : Fun K "__init__" "Echo.__init__" d1p A.b5v A.b2t
 c7i : Fun K "word" "Echo.word" d9q A.b5w A.b2u
 c7j : Fun K "__init__" "Back.__init__" d9r A.b5y A.b2v
 c7k : Fun K "word" "Back.word" d9s A.b5z A.b2w
 c7l : Fun K "__init__" "Hall.__init__" d9t A.b6g A.b2y
 c7m : Fun K "word" "Hall.word" d9u A.b6h A.b2z
 a9q : Fun K "shared_bottom" "shared_bottom" c8r A.a5s A.a6n
 c2n : Fun K "slopes_of" "slopes_of" d9v A.b2h A.b3g
 f4j : Fun K "over" "over" h5i A.f0i A.d5k
 b4o : Fun K "corner_word" "corner_word" d3h A.a7w A.a8o
 c3v : Fun K "__init__" "Swell.__init__" b8s A.b3h A.b0g
 c3w : Fun K "word" "Swell.word" c8s A.b3i A.b0h
 a3s : Fun K "read_gain" "read_gain" d9w A.a9l A.a9m
 a3i : Fun K "read_number" "read_number" d3i A.a6s A.a6z
 a5u : Fun K "read_many" "read_many" d9y A.a9n A.a9o
 a1m : Fun K "check_count" "check_count" d3j A.a6t A.a7g
 c2o : Fun K "gain_of" "gain_of" f9s A.b4k A.b6i
 b6z : Fun K "delay_of" "delay_of" f3v A.b0i A.b2j
 c2p : Fun K "echo_of" "echo_of" f9t A.b4l A.b6j
 c2q : Fun K "back_of" "back_of" f9u A.b4m A.b6k
 c2r : Fun K "hall_of" "hall_of" f9v A.b4n A.b6l
 a8j : Fun K "read_corner" "read_corner" d3k A.a6u A.a7h
 b7g : Fun K "swell_of" "swell_of" d0o A.b0j A.b2k
 a4k : Fun K "part_of" "part_of" f9w A.b8v A.b6m
 b4p : Fun K "_law_divisor" "_law_divisor" d3l A.a7y A.a8p
 a9r : Fun K "_law_number" "_law_number" d7k A.a9p A.b0k
 c0j : Fun K "_law_in" "_law_in" g4a A.c6o A.c5m
 b0l : Fun K "_law_is_gain" "_law_is_gain" d3m A.a7z A.a8q
 b1s : Fun K "_law_is_swell" "_law_is_swell" d1h A.a7i A.a7m
 b4q : Fun K "_law_is_part" "_law_is_part" d3n A.a8g A.a8r
 c5t : Fun K "_law_good" "_law_good" f3w A.b6n A.b6o
 c5u : Fun K "_law_bent" "_law_bent" d5i A.b6p A.b6q
 b4r : Fun K "_law_spoiled" "_law_spoiled" d3o A.a8h A.a8s
 b0m : Fun K "_law_refused" "_law_refused" d3p A.a8i A.a8t
 c0r : Fun K "_law_told" "_law_told" f3y A.b6r A.b6s
 g9k : Fun K "law" "law" i2o A.g0d A.d7n
 c9g : W.nsIn K mainGlobals "ValueError" = some none
 h7o : W.nsIn K mainGlobals "abs" = some none
 y_bool : W.nsIn K mainGlobals "bool" = some none
 h7p : W.nsIn K mainGlobals "int" = some none
 c9h : W.nsIn K mainGlobals "isinstance" = some none
 h7q : W.nsIn K mainGlobals "len" = some none
 g2g : W.nsIn K mainGlobals "range" = some none
 h7r : W.nsIn K mainGlobals "str" = some none
 g2h : W.nsIn K mainGlobals "tuple" = some none
 h7s : W.nsIn K mainGlobals "zip" = some none
 f0u : W.excIn K A.a0p vE "ValueError.__new__" = true
 f0v : W.excIn K A.a0o vE "ValueError.__new__" = true
 f6p:W.keepIn K (.ref A.a0o)=true
 b0n : W.findIn K (.ref A.a1q) "__getattribute__" = some (some (.builtin "BaseException.__getattribute__"))
 b0o : W.findIn K (.ref A.a1q) "__class__" = some (some (.builtin "object.__class__"))
 b0p : W.findIn K (.ref A.a1q) "__getattr__" = some none
 b0q : W.subIn K (.ref A.a1q) (.type "object") = some true
 b0r : W.subIn K (.ref A.a1q) (.type "BaseException") = some true
 b0s : W.typeIn K (.ref A.a1q) = some (.type "type")
 b0t:W.isClsIn K A.a1q=true
 b0u:W.subIn K (.ref A.a1q) (.ref A.a1q)=some true
 b3l : W.findIn K (.ref A.a3j) "__getattribute__" = some (some (.builtin "BaseException.__getattribute__"))
 b3m : W.findIn K (.ref A.a3j) "__class__" = some (some (.builtin "object.__class__"))
 b3n : W.findIn K (.ref A.a3j) "__getattr__" = some none
 b3o : W.subIn K (.ref A.a3j) (.type "object") = some true
 b3p : W.subIn K (.ref A.a3j) (.type "BaseException") = some true
 b3q : W.typeIn K (.ref A.a3j) = some (.type "type")
 b3r:W.isClsIn K A.a3j=true
 b3s:W.subIn K (.ref A.a3j) (.ref A.a3j)=some true
 c0s : W.findIn K (.ref A.a6j) "__getattribute__" = some (some (.builtin "BaseException.__getattribute__"))
 c0t : W.findIn K (.ref A.a6j) "__class__" = some (some (.builtin "object.__class__"))
 c0u : W.findIn K (.ref A.a6j) "__getattr__" = some none
 c0v : W.subIn K (.ref A.a6j) (.type "object") = some true
 c0w : W.subIn K (.ref A.a6j) (.type "BaseException") = some true
 c0y : W.typeIn K (.ref A.a6j) = some (.type "type")
 c0z:W.isClsIn K A.a6j=true
 c1g:W.subIn K (.ref A.a6j) (.ref A.a6j)=some true
 b7h : W.findIn K (.ref A.a4i) "__getattribute__" = some (some (.builtin "BaseException.__getattribute__"))
 b7i : W.findIn K (.ref A.a4i) "__class__" = some (some (.builtin "object.__class__"))
 b7j : W.findIn K (.ref A.a4i) "__getattr__" = some none
 b7k : W.subIn K (.ref A.a4i) (.type "object") = some true
 b7l : W.subIn K (.ref A.a4i) (.type "BaseException") = some true
 b7m : W.typeIn K (.ref A.a4i) = some (.type "type")
 b7n:W.isClsIn K A.a4i=true
 b7o:W.subIn K (.ref A.a4i) (.ref A.a4i)=some true
 b7p : W.findIn K (.ref A.a4h) "__getattribute__" = some (some (.builtin "BaseException.__getattribute__"))
 b7q : W.findIn K (.ref A.a4h) "__class__" = some (some (.builtin "object.__class__"))
 b7r : W.findIn K (.ref A.a4h) "__getattr__" = some none
 b7s : W.subIn K (.ref A.a4h) (.type "object") = some true
 b7t : W.subIn K (.ref A.a4h) (.type "BaseException") = some true
 b7u : W.typeIn K (.ref A.a4h) = some (.type "type")
 b7v:W.isClsIn K A.a4h=true
 b7w:W.subIn K (.ref A.a4h) (.ref A.a4h)=some true
 b0v : W.findIn K (.ref A.a1u) "__getattribute__" = some (some (.builtin "BaseException.__getattribute__"))
 b0w : W.findIn K (.ref A.a1u) "__class__" = some (some (.builtin "object.__class__"))
 b0y : W.findIn K (.ref A.a1u) "__getattr__" = some none
 b0z : W.subIn K (.ref A.a1u) (.type "object") = some true
 b1g : W.subIn K (.ref A.a1u) (.type "BaseException") = some true
 b1h : W.typeIn K (.ref A.a1u) = some (.type "type")
 b1i:W.isClsIn K A.a1u=true
 b1j:W.subIn K (.ref A.a1u) (.ref A.a1u)=some true
 a2i : W.findIn K (.ref A.a0o) "__getattribute__" = some (some (.builtin "BaseException.__getattribute__"))
 a2j : W.findIn K (.ref A.a0o) "__class__" = some (some (.builtin "object.__class__"))
 a2k : W.findIn K (.ref A.a0o) "__getattr__" = some none
 a2l : W.subIn K (.ref A.a0o) (.type "object") = some true
 a2m : W.subIn K (.ref A.a0o) (.type "BaseException") = some true
 a2n : W.typeIn K (.ref A.a0o) = some (.type "type")
 a2o:W.isClsIn K A.a0o=true
 a2p:W.subIn K (.ref A.a0o) (.ref A.a0o)=some true
 c1h : W.findIn K (.ref A.a6k) "__getattribute__" = some (some (.builtin "BaseException.__getattribute__"))
 c1i : W.findIn K (.ref A.a6k) "__class__" = some (some (.builtin "object.__class__"))
 c1j : W.findIn K (.ref A.a6k) "__getattr__" = some none
 c1k : W.subIn K (.ref A.a6k) (.type "object") = some true
 c1l : W.subIn K (.ref A.a6k) (.type "BaseException") = some true
 c1m : W.typeIn K (.ref A.a6k) = some (.type "type")
 c1n:W.isClsIn K A.a6k=true
 c1o:W.subIn K (.ref A.a6k) (.ref A.a6k)=some true
 a2q : W.findIn K (.ref A.a0p) "__getattribute__" = some (some (.builtin "BaseException.__getattribute__"))
 a2r : W.findIn K (.ref A.a0p) "__class__" = some (some (.builtin "object.__class__"))
 a2s : W.findIn K (.ref A.a0p) "__getattr__" = some none
 a2t : W.subIn K (.ref A.a0p) (.type "object") = some true
 a2u : W.subIn K (.ref A.a0p) (.type "BaseException") = some true
 a2v : W.typeIn K (.ref A.a0p) = some (.type "type")
 a2w:W.isClsIn K A.a0p=true
 a2y:W.subIn K (.ref A.a0p) (.ref A.a0p)=some true
 c5v : W.findIn K (.ref A.b1k) "__getattribute__" = some (some (.builtin "BaseException.__getattribute__"))
 c5w : W.findIn K (.ref A.b1k) "__class__" = some (some (.builtin "object.__class__"))
 c5y : W.findIn K (.ref A.b1k) "__getattr__" = some none
 c5z : W.subIn K (.ref A.b1k) (.type "object") = some true
 c6g : W.subIn K (.ref A.b1k) (.type "BaseException") = some true
 c6h : W.typeIn K (.ref A.b1k) = some (.type "type")
 c6i:W.isClsIn K A.b1k=true
 c6j:W.subIn K (.ref A.b1k) (.ref A.b1k)=some true
 c1p : W.findIn K (.ref A.a6i) "__getattribute__" = some (some (.builtin "BaseException.__getattribute__"))
 c1q : W.findIn K (.ref A.a6i) "__class__" = some (some (.builtin "object.__class__"))
 c1r : W.findIn K (.ref A.a6i) "__getattr__" = some none
 c1s : W.subIn K (.ref A.a6i) (.type "object") = some true
 c1t : W.subIn K (.ref A.a6i) (.type "BaseException") = some true
 c1u : W.typeIn K (.ref A.a6i) = some (.type "type")
 c1v:W.isClsIn K A.a6i=true
 c1w:W.subIn K (.ref A.a6i) (.ref A.a6i)=some true
 b4s:W.subIn K (.ref A.a0p) (.ref A.a1q)=some true
 c6k:W.subIn K (.ref A.a0p) (.ref A.a1q)=some true
 b7y:W.subIn K (.ref A.a0p) (.ref A.a3j)=some false
 c2s:W.subIn K (.ref A.a0p) (.ref A.a6j)=some false
 b9l:W.subIn K (.ref A.a0p) (.ref A.a4i)=some false
 b9m:W.subIn K (.ref A.a0p) (.ref A.a4h)=some false
 b4t:W.subIn K (.ref A.a0p) (.ref A.a1u)=some false
 b9n:W.subIn K (.ref A.a0p) (.ref A.a0o)=some false
 c2t:W.subIn K (.ref A.a0p) (.ref A.a6k)=some false
 b9o:W.subIn K (.ref A.a0p) (.ref A.a0p)=some true
 c2u:W.subIn K (.ref A.a0p) (.ref A.a0p)=some true
 c4q:W.subIn K (.ref A.a0p) (.ref A.b1k)=some false
 c2v:W.subIn K (.ref A.a0p) (.ref A.a6i)=some false
 b1l : W.subIn K (.ref A.a0p) (.type "ValueError") = some true
 b4u:W.subIn K (.ref A.a0o) (.ref A.a1q)=some true
 b7z:W.subIn K (.ref A.a0o) (.ref A.a1q)=some true
 b8g:W.subIn K (.ref A.a0o) (.ref A.a3j)=some false
 c2w:W.subIn K (.ref A.a0o) (.ref A.a6j)=some false
 b9p:W.subIn K (.ref A.a0o) (.ref A.a4i)=some false
 b9q:W.subIn K (.ref A.a0o) (.ref A.a4h)=some false
 b4v:W.subIn K (.ref A.a0o) (.ref A.a1u)=some false
 b9r:W.subIn K (.ref A.a0o) (.ref A.a0o)=some true
 c9i:W.subIn K (.ref A.a0o) (.ref A.a0o)=some true
 c2y:W.subIn K (.ref A.a0o) (.ref A.a6k)=some false
 b9s:W.subIn K (.ref A.a0o) (.ref A.a0p)=some false
 c4r:W.subIn K (.ref A.a0o) (.ref A.b1k)=some false
 c2z:W.subIn K (.ref A.a0o) (.ref A.a6i)=some false
 b1m : W.subIn K (.ref A.a0o) (.type "ValueError") = some true
 b9t : W.subIn K (.type "NoneType") (.ref A.a1q) = some false
 c3g : W.subIn K (.type "NoneType") (.ref A.a3j) = some false
 c7n : W.subIn K (.type "NoneType") (.ref A.a6j) = some false
 c4s : W.subIn K (.type "NoneType") (.ref A.a4i) = some false
 c4t : W.subIn K (.type "NoneType") (.ref A.a4h) = some false
 b9u : W.subIn K (.type "NoneType") (.ref A.a1u) = some false
 c4u : W.subIn K (.type "NoneType") (.ref A.a0o) = some false
 c7o : W.subIn K (.type "NoneType") (.ref A.a6k) = some false
 c4v : W.subIn K (.type "NoneType") (.ref A.a0p) = some false
 c9j : W.subIn K (.type "NoneType") (.ref A.b1k) = some false
 c7p : W.subIn K (.type "NoneType") (.ref A.a6i) = some false
 d5y : W.nsIn K mainGlobals "FIGURES" = some (some A.c5o)
 d5z : RelV (.str "0123456789") A.c5o
 a8w : W.nsIn K mainGlobals "MOST_FIGURES_wholes" = some (some A.a3u)
 a5z:RelV (.int 13) A.a3u
 a8y : W.nsIn K mainGlobals "MOST_FIGURES_ratios" = some (some A.a3v)
 a6g:RelV (.int 9) A.a3v
 c9k : W.nsIn K mainGlobals "MOST_GAIN" = some (some A.b6u)
 b3t:RelV (.int 1000) A.b6u
 c9l : W.nsIn K mainGlobals "MOST_MANY" = some (some A.b6v)
 b3u:RelV (.int 1000) A.b6v
 c7q : W.nsIn K mainGlobals "MOST_TURNS" = some (some A.b3j)
 c0k:RelV (.int 16) A.b3j
 d6g : W.nsIn K mainGlobals "MOST_AT" = some (some A.c5p)
 d0s:RelV (.int 100000) A.c5p
 c3h : W.nsIn K mainGlobals "MOST_CORNERS" = some (some A.a8u)
 b4w:RelV (.int 12) A.a8u
 d6h : W.nsIn K mainGlobals "READERS" = some (some (.ref A.a1k))
 a7n : W.nsIn K A.a1k "gain" = some (some (.ref A.b4k))
 a6o : W.nsIn K A.a1k "delay" = some (some (.ref A.b0i))
 a7o : W.nsIn K A.a1k "echo" = some (some (.ref A.b4l))
 a7p : W.nsIn K A.a1k "back" = some (some (.ref A.b4m))
 a6p : W.nsIn K A.a1k "swell" = some (some (.ref A.b0j))
 a7q : W.nsIn K A.a1k "hall" = some (some (.ref A.b4n))
 d6i : g9e K A.a1k = some (["gain", "delay", "echo", "back", "swell", "hall"] : List Str)
structure Tx(K:W.Frag)(mg:Str->Option Value)(A:Ad):Prop extends Ty K A where
 f4k : Binds K A.b5l ["value"] []
 f4l : mg "is_whole" = some (.ref A.b5k)
 c3y : Binds K A.a9w ["text"] []
 c3z : mg "is_figures" = some (.ref A.a9k)
 f4m : Binds K A.b1z ["text"] []
 f4n : mg "whole_of" = some (.ref A.b2n)
 g0f : Binds K A.b5m ["one", "other"] []
 g0g : mg "divisor" = some (.ref A.b8u)
 g6g : Binds K A.b5o ["one", "other"] []
 g6h : mg "multiple" = some (.ref A.b5n)
 d0t : Binds K A.b5q ["top", "bottom"] []
 d0u : mg "fraction" = some (.ref A.b5p)
 i2p : Binds K A.d5j ["one", "other"] []
 i2q : mg "plus" = some (.ref A.f0h)
 g9l : Binds K A.d0r ["one", "other"] []
 g9m : mg "times" = some (.ref A.d1s)
 g0h : Binds K A.c0o ["one"] []
 g0i : mg "size_of" = some (.ref A.c2j)
 f4o : Binds K A.b5s ["one", "other"] []
 f4p : mg "is_under" = some (.ref A.b5r)
 a5v : Binds K A.a4z ["one"] []
 a5w : mg "fraction_text" = some (.ref A.a4r)
 c9m : Binds K A.a5g ["text"] []
 c9n : mg "read_fraction" = some (.ref A.a4s)
 f0w : Binds K A.b2o ["self", "gain"] []
 f0y : Binds K A.b2p ["self"] []
 d7o : Binds K A.a9y ["self", "many"] []
 d7p : Binds K A.a9z ["self"] []
 f0z : Binds K A.b2s ["number", "most"] []
 f1g : mg "powers_of" = some (.ref A.b2g)
 f1h : Binds K A.b2t ["self", "gain", "many", "turns"] []
 f1i : Binds K A.b2u ["self"] []
 f1j : Binds K A.b2v ["self", "gain", "many"] []
 f1k : Binds K A.b2w ["self"] []
 f1l : Binds K A.b2y ["self", "gain", "many"] []
 f1m : Binds K A.b2z ["self"] []
 f1n : Binds K A.a6n ["bottoms"] []
 f1o : mg "shared_bottom" = some (.ref A.a5s)
 g2i : Binds K A.b3g ["corners"] []
 g2j : mg "slopes_of" = some (.ref A.b2h)
 h5j : Binds K A.d5k ["one", "bottom"] []
 h5k : mg "over" = some (.ref A.f0i)
 f6q : Binds K A.a8o ["corner"] []
 f6r : mg "corner_word" = some (.ref A.a7w)
 g0j : Binds K A.b0g ["self", "corners"] []
 d7q : Binds K A.b0h ["self"] []
 a7j : Binds K A.a9m ["text"] []
 a7k : mg "read_gain" = some (.ref A.a9l)
 a6v : Binds K A.a6z ["text", "least", "most"] []
 a6w : mg "read_number" = some (.ref A.a6s)
 b8h : Binds K A.a9o ["text"] []
 b8i : mg "read_many" = some (.ref A.a9n)
 a3p : Binds K A.a7g ["values", "count"] []
 a3q : mg "check_count" = some (.ref A.a6t)
 g0k : Binds K A.b6i ["values"] []
 i2r : mg "gain_of" = some (.ref A.b4k)
 f4q : Binds K A.b2j ["values"] []
 h8z : mg "delay_of" = some (.ref A.b0i)
 g0l : Binds K A.b6j ["values"] []
 i2s : mg "echo_of" = some (.ref A.b4l)
 g0m : Binds K A.b6k ["values"] []
 i2t : mg "back_of" = some (.ref A.b4m)
 g0n : Binds K A.b6l ["values"] []
 i2u : mg "hall_of" = some (.ref A.b4n)
 d3v : Binds K A.a7h ["text"] []
 d3w : mg "read_corner" = some (.ref A.a6u)
 f4r : Binds K A.b2k ["values"] []
 h9a : mg "swell_of" = some (.ref A.b0j)
 a7r : Binds K A.b6m ["word"] []
 a7s : mg "part_of" = some (.ref A.b8v)
 f6s : Binds K A.a8p ["_law_one", "_law_other"] []
 f6t : mg "_law_divisor" = some (.ref A.a7y)
 c9o : Binds K A.b0k ["_law_text"] []
 c9p : mg "_law_number" = some (.ref A.a9p)
 d3y : Binds K A.c5m ["_law_text", "_law_least", "_law_most"] []
 d3z : mg "_law_in" = some (.ref A.c6o)
 d4g : Binds K A.a8q ["_law_text", "_law_hall"] []
 d4h : mg "_law_is_gain" = some (.ref A.a7z)
 f2r : Binds K A.a7m ["_law_text"] []
 f2s : mg "_law_is_swell" = some (.ref A.a7i)
 f6u : Binds K A.a8r ["_law_word"] []
 f6v : mg "_law_is_part" = some (.ref A.a8g)
 g6i : Binds K A.b6o ["_law_mixed"] []
 g6j : mg "_law_good" = some (.ref A.b6n)
 g6k : Binds K A.b6q ["_law_mixed"] []
 g6l : mg "_law_bent" = some (.ref A.b6p)
 f6w : Binds K A.a8s ["_law_word", "_law_mixed"] []
 f6y : mg "_law_spoiled" = some (.ref A.a8h)
 d4i : Binds K A.a8t ["_law_thing"] []
 d4j : mg "_law_refused" = some (.ref A.a8i)
 f4s : Binds K A.b6s ["_law_word"] []
 f4t : mg "_law_told" = some (.ref A.b6r)
 b_law : Binds K A.d7n ["_law_script"] []
 m_law : mg "law" = some (.ref A.g0d)
 g0o : mg "ValueError" = none
 g2k : mg "abs" = none
 i2v : mg "bool" = none
 d6j : mg "int" = none
 a1t : mg "isinstance" = none
 c4w : mg "len" = none
 g2l : mg "range" = none
 g9n : mg "str" = none
 g2m : mg "tuple" = none
 h3k : mg "zip" = none
 g2n : mg "MixError" = some (.ref A.a1q)
 g2o : mg "NoNumber" = some (.ref A.a1u)
 c3i : mg "NoText" = some (.ref A.a0p)
 a9s : mg "NoPart" = some (.ref A.a0o)
 g9o : mg "NoName" = some (.ref A.a4h)
 h3l : mg "Twice" = some (.ref A.a6i)
 h3m : mg "NoBus" = some (.ref A.a6j)
 h7t : mg "Ring" = some (.ref A.b1k)
 g6m : mg "NoBlock" = some (.ref A.a3j)
 h3n : mg "NoRow" = some (.ref A.a6k)
 g9p : mg "NoDeed" = some (.ref A.a4i)
 i6u : mg "Part" = some (.ref A.f4i)
 g9q : mg "Gain" = some (.ref A.c5n)
 g4f : mg "Delay" = some (.ref A.b6t)
 g9r : mg "Echo" = some (.ref A.b8w)
 g9s : mg "Back" = some (.ref A.c3n)
 g9t : mg "Hall" = some (.ref A.c3o)
 h3o : mg "Swell" = some (.ref A.b2l)
 d4k:Exc K A.a0p
 b8r:Exc K A.a0o
 g6n:d4q K A.a1q
 i2w:d4q K A.a3j
 i6v:d4q K A.a6j
 i4w:d4q K A.a4i
 i4x:d4q K A.a4h
 h9b:d4q K A.a1u
 b4y:d4q K A.a0o
 i6w:d4q K A.a6k
 h3p:d4q K A.a0p
 i9i:d4q K A.b1k
 i6x:d4q K A.a6i
 g6o:W.kitOne K (.ref A.a0p) (.ref A.a1q)=some true
 g7h:W.kitOne K (.ref A.a0p) (.ref A.a3j)=some false
 h1f:W.kitOne K (.ref A.a0p) (.ref A.a6j)=some false
 g9u:W.kitOne K (.ref A.a0p) (.ref A.a4i)=some false
 g9v:W.kitOne K (.ref A.a0p) (.ref A.a4h)=some false
 g6p:W.kitOne K (.ref A.a0p) (.ref A.a1u)=some false
 g9w:W.kitOne K (.ref A.a0p) (.ref A.a0o)=some false
 h1g:W.kitOne K (.ref A.a0p) (.ref A.a6k)=some false
 g9x:W.kitOne K (.ref A.a0p) (.ref A.a0p)=some true
 h3q:W.kitOne K (.ref A.a0p) (.ref A.b1k)=some false
 h1h:W.kitOne K (.ref A.a0p) (.ref A.a6i)=some false
 g2p : W.kitOne K (.ref A.a0p) (.type "ValueError") = some true
 g6q:W.kitOne K (.ref A.a0o) (.ref A.a1q)=some true
 d7u:W.kitOne K (.ref A.a0o) (.ref A.a3j)=some false
 f2t:W.kitOne K (.ref A.a0o) (.ref A.a6j)=some false
 f1p:W.kitOne K (.ref A.a0o) (.ref A.a4i)=some false
 f1q:W.kitOne K (.ref A.a0o) (.ref A.a4h)=some false
 d6k:W.kitOne K (.ref A.a0o) (.ref A.a1u)=some false
 f1r:W.kitOne K (.ref A.a0o) (.ref A.a0o)=some true
 f2u:W.kitOne K (.ref A.a0o) (.ref A.a6k)=some false
 f1s:W.kitOne K (.ref A.a0o) (.ref A.a0p)=some false
 f6z:W.kitOne K (.ref A.a0o) (.ref A.b1k)=some false
 f2v:W.kitOne K (.ref A.a0o) (.ref A.a6i)=some false
 d2g : W.kitOne K (.ref A.a0o) (.type "ValueError") = some true
 g9y : W.kitOne K (.type "NoneType") (.ref A.a1q) = some false
 h1i : W.kitOne K (.type "NoneType") (.ref A.a3j) = some false
 h5l : W.kitOne K (.type "NoneType") (.ref A.a6j) = some false
 h3r : W.kitOne K (.type "NoneType") (.ref A.a4i) = some false
 h3s : W.kitOne K (.type "NoneType") (.ref A.a4h) = some false
 g9z : W.kitOne K (.type "NoneType") (.ref A.a1u) = some false
 h3t : W.kitOne K (.type "NoneType") (.ref A.a0o) = some false
 h5m : W.kitOne K (.type "NoneType") (.ref A.a6k) = some false
 h3u : W.kitOne K (.type "NoneType") (.ref A.a0p) = some false
 h7u : W.kitOne K (.type "NoneType") (.ref A.b1k) = some false
 h5n : W.kitOne K (.type "NoneType") (.ref A.a6i) = some false
 g6r : W.kitOne K (.type "NoneType") (.type "ValueError") = some false
 g6s : mg "FIGURES" = some A.c5o
 b5g : mg "MOST_FIGURES_wholes" = some A.a3u
 b5h : mg "MOST_FIGURES_ratios" = some A.a3v
 c4g : mg "MOST_GAIN" = some A.b6u
 c4h : mg "MOST_MANY" = some A.b6v
 d4l : mg "MOST_TURNS" = some A.b3j
 f4u : mg "MOST_AT" = some A.c5p
 c9q : mg "MOST_CORNERS" = some A.a8u
 a4w : mg "READERS" = some (.ref A.a1k)
 f4v:i4u K A.wd A.a1k
theorem nq0 : (("__init__" : Str) == ("gain" : Str)) = false := by decide +kernel
theorem nq1 : (("word" : Str) == ("gain" : Str)) = false := by decide +kernel
theorem nq2 : (("__init__" : Str) == ("many" : Str)) = false := by decide +kernel
theorem nq3 : (("word" : Str) == ("many" : Str)) = false := by decide +kernel
theorem nq4 : (("gain" : Str) == ("many" : Str)) = false := by decide +kernel
theorem nq5 : (("gain" : Str) == ("turns" : Str)) = false := by decide +kernel
theorem nq6 : (("gain" : Str) == ("factors" : Str)) = false := by decide +kernel
theorem nq7 : (("gain" : Str) == ("factor_bottom" : Str)) = false := by decide +kernel
theorem nq8 : (("many" : Str) == ("gain" : Str)) = false := by decide +kernel
theorem nq9 : (("many" : Str) == ("turns" : Str)) = false := by decide +kernel
theorem nq10 : (("many" : Str) == ("factors" : Str)) = false := by decide +kernel
theorem nq11 : (("many" : Str) == ("factor_bottom" : Str)) = false := by decide +kernel
theorem nq12 : (("turns" : Str) == ("gain" : Str)) = false := by decide +kernel
theorem nq13 : (("turns" : Str) == ("many" : Str)) = false := by decide +kernel
theorem nq14 : (("turns" : Str) == ("factors" : Str)) = false := by decide +kernel
theorem nq15 : (("turns" : Str) == ("factor_bottom" : Str)) = false := by decide +kernel
theorem nq16 : (("factors" : Str) == ("gain" : Str)) = false := by decide +kernel
theorem nq17 : (("factors" : Str) == ("many" : Str)) = false := by decide +kernel
theorem nq18 : (("factors" : Str) == ("turns" : Str)) = false := by decide +kernel
theorem nq19 : (("factors" : Str) == ("factor_bottom" : Str)) = false := by decide +kernel
theorem nq20 : (("factor_bottom" : Str) == ("gain" : Str)) = false := by decide +kernel
theorem nq21 : (("factor_bottom" : Str) == ("many" : Str)) = false := by decide +kernel
theorem nq22 : (("factor_bottom" : Str) == ("turns" : Str)) = false := by decide +kernel
theorem nq23 : (("factor_bottom" : Str) == ("factors" : Str)) = false := by decide +kernel
theorem nq24 : (("__init__" : Str) == ("turns" : Str)) = false := by decide +kernel
theorem nq25 : (("__init__" : Str) == ("factors" : Str)) = false := by decide +kernel
theorem nq26 : (("__init__" : Str) == ("factor_bottom" : Str)) = false := by decide +kernel
theorem nq27 : (("word" : Str) == ("turns" : Str)) = false := by decide +kernel
theorem nq28 : (("word" : Str) == ("factors" : Str)) = false := by decide +kernel
theorem nq29 : (("word" : Str) == ("factor_bottom" : Str)) = false := by decide +kernel
theorem nq30 : (("corners" : Str) == ("shared" : Str)) = false := by decide +kernel
theorem nq31 : (("corners" : Str) == ("lines" : Str)) = false := by decide +kernel
theorem nq32 : (("shared" : Str) == ("corners" : Str)) = false := by decide +kernel
theorem nq33 : (("shared" : Str) == ("lines" : Str)) = false := by decide +kernel
theorem nq34 : (("lines" : Str) == ("corners" : Str)) = false := by decide +kernel
theorem nq35 : (("lines" : Str) == ("shared" : Str)) = false := by decide +kernel
theorem nq36 : (("__init__" : Str) == ("corners" : Str)) = false := by decide +kernel
theorem nq37 : (("__init__" : Str) == ("shared" : Str)) = false := by decide +kernel
theorem nq38 : (("__init__" : Str) == ("lines" : Str)) = false := by decide +kernel
theorem nq39 : (("word" : Str) == ("corners" : Str)) = false := by decide +kernel
theorem nq40 : (("word" : Str) == ("shared" : Str)) = false := by decide +kernel
theorem nq41 : (("word" : Str) == ("lines" : Str)) = false := by decide +kernel
seal PE PT PA PS PSs PI PO PW PG PGs PEX PSX
local macro_rules | `(tactic| walk_at "bits") => `(tactic| first | with_reducible assumption | exact intBits_le_64 (by omega) (by omega) | exact (intBits_le_iff (m := 250)).mpr (by decide) | ((with_reducible apply intBits_mul_le) <;> walk_at "bits") | ((with_reducible apply intBits_add_le) <;> walk_at "bits") | ((with_reducible apply intBits_sub_le) <;> walk_at "bits") | ((with_reducible apply intBits_neg_le) <;> walk_at "bits") | ((with_reducible apply intBits_natAbs_le) <;> walk_at "bits") | ((with_reducible apply intBits_fdiv_le) <;> walk_at "bits") | ((with_reducible apply intBits_fmod_le) <;> walk_at "bits"))
local macro_rules | `(tactic| walk_at "mul") => `(tactic| first | exact IntMulOk.of_right (intBits_le_64 (by omega) (by omega)) | exact IntMulOk.of_left (intBits_le_64 (by omega) (by omega)) | ((with_reducible apply IntMulOk.of_le) <;> first | walk_at "bits" | decide))
local macro_rules | `(tactic| walk_at "le") => `(tactic| ((with_reducible apply Nat.le_trans) <;> first | walk_at "bits" | decide))
variable {P:Program}{w:World}{K:PySem.W.Frag}{mg:Str->Option Value}{base:Heap}{A:Ad}
def h3v:Sp:=fun vs H Q _=>match vs with | [.int a,.int b]=>Q (.int (Int.gcd a b)) H | _=>False
def h7v:Sp:=fun vs H Q _=>match vs with | [.int a,.int b]=>intBits a<=4000/\intBits b<=4000/\Q (.int (Int.lcm a b)) H | _=>False
def h7w:Sp:=fun vs H Q _=>match vs with | [.int _]=>Q (.bl true) H | _=>False
def h0a:Sp:=fun vs H Q _=>match vs with
 | [.int t,.int b]=>b≠0/\intBits t<=4000/\intBits b<=4000/\All (f3k H (c8g (Rat.divInt t b))) Q ⟨⟩ ⟨⟩
 | _=>False
def h7x:Sp:=fun vs H Q _=>match vs with | [.str x]=>Q (.bl (f2o (sg x))) H | _=>False
def g2q:Sp:=fun vs H Q _=>match vs with | [.ref p]=>∃ t b:Int,H p=some (.tup [.int t,.int b])/\t.natAbs.log2 < 1920/\b.natAbs.log2 < 1920/\(∀ y:Str,sg y=g1i t b->Q (.str y) H) | _=>False
def h0b:Sp:=fun vs H Q _=>match vs with | [.str x]=>∃ t b,Good (sg x) t b/\All (f3k H [.int t,.int b]) Q ⟨⟩ ⟨⟩ | _=>False
def h7y:Sp:=fun vs H Q _=>match vs with
 | [.str x]=>∃ n:Nat,sg x=txt (n:Int)/\n < 10 ^ 13/\Q (.int n) H
 | _=>False
def Two(H:Hp)(p q:Addr)(x y:Rat):Prop:=H p=some (.tup (c8g x))/\H q=some (.tup (c8g y))/\intBits x.num<=1900/\intBits (x.den:Int)<=1900/\intBits y.num<=1900/\intBits (y.den:Int)<=1900
def h0c:Sp:=fun vs H Q _=>match vs with
 | [.ref p,.ref q]=>∃ x y:Rat,Two H p q x y/\All (f3k H (c8g (x+y))) Q ⟨⟩ ⟨⟩
 | _=>False
def h0d:Sp:=fun vs H Q _=>match vs with
 | [.ref p,.ref q]=>∃ x y:Rat,Two H p q x y/\All (f3k H (c8g (x*y))) Q ⟨⟩ ⟨⟩
 | _=>False
def h0e:Sp:=fun vs H Q _=>match vs with
 | [.ref p]=>∃ x:Rat,H p=some (.tup (c8g x))/\All (f3k H (c8g (Rat.abs x))) Q ⟨⟩ ⟨⟩
 | _=>False
def g2r:Sp:=fun vs H Q _=>match vs with
 | [.ref p,.ref q]=>∃ x y:Rat,Two H p q x y/\Q (.bl (decide (x.num*(y.den:Int) < y.num*(x.den:Int)))) H
 | _=>False
def Rts(H:Hp)(qs:List Addr)(ss:List Rat):Prop:=qs.length=ss.length/\∀ (i:Nat) q s,qs[i]? = some q->ss[i]? = some s->H q=some (.tup (c8g s))
def g4g(l:Addr)(H:Hp)(qs:List Addr)(ss:List Rat):Prop:=qs.length=ss.length/\∀ (i:Nat) q s,qs[i]? = some q->ss[i]? = some s->q≠l/\H q=some (.tup (c8g s))
def Crn(H:Hp)(ps:List Addr)(cs:List (Int×Rat)):Prop:=ps.length=cs.length/\∀ (i:Nat) p c,ps[i]? = some p->cs[i]? = some c->∃ g,H p=some (.tup [.int c.1,.ref g])/\H g=some (.tup (c8g c.2))
def h7z(cs:List (Int×Rat)):Prop:=(∀ c∈cs,0<=c.1/\c.1<=200000/\intBits c.2.num<=10/\intBits (c.2.den:Int)<=10)/\∀ (i:Nat) c d,cs[i]? = some c->cs[i+1]? = some d->c.1 < d.1
noncomputable def g7i(bs:List Int):Int:=bs.foldl (fun o b=>(Int.lcm o b:Int)) 1
def f7g:Sp:=fun vs H Q _=>match vs with
 | [.ref p]=>∃ bs:List Int,H p=some (.lst (bs.map V.int))/\(∀ b∈bs,1<=b/\intBits b<=64)/\bs.length<=24/\Q (.int (g7i bs)) H
 | _=>False
def g2s:Sp:=fun vs H Q _=>match vs with
 | [.ref p,.int S]=>∃ y:Rat,H p=some (.tup (c8g y))/\intBits y.num<=2000/\intBits (y.den:Int)<=2000/\intBits S<=2000/\Q (.int (y.num*S.fdiv y.den)) H
 | _=>False
def SlR(cs:List (Int×Rat))(i:Nat)(s:Rat):Prop:=∀ c d,cs[i]? = some c->cs[i+1]? = some d->s*((d.1 - c.1:Int):Rat)=d.2 - c.2
def f7h:Sp:=fun vs H Q _=>match vs with
 | [.ref ct]=>∃ (ps:List Addr) (cs:List (Int×Rat)),H ct=some (.tup (ps.map V.ref))/\Crn H ps cs/\h7z cs/\1<=cs.length/\cs.length<=12 /\
   (∀ l H' qs ss,H l=none->Same H H'->H' l=some (.lst (List.map V.ref qs))->Rts H' qs ss->ss.length=cs.length->(∀ s∈ss,intBits s.num<=60/\intBits (s.den:Int)<=60)->(∀ j s,ss[j]? = some s->SlR cs j s)->ss[cs.length - 1]? = some 0->Q (.ref l) H')
 | _=>False
noncomputable def h0f(n:Int)(m:Nat):List Int:=(List.range (m+1)).map fun j=>n ^ j
def h8a:Sp:=fun vs H Q _=>match vs with
 | [.int n,.int t]=>∃ m:Nat,t=m/\m<=16/\intBits n<=10/\All (i0z H ((h0f n m).map V.int)) Q ⟨⟩ ⟨⟩
 | _=>False
noncomputable def i6y(p q:Int)(t j:Nat):Int:=p ^ j*q ^ (t - j)
noncomputable def i2x(p q:Int)(t:Nat):List Int:=(List.range (t+1)).map (i6y p q t)
noncomputable def ecF (gt fa : Addr) (n t : Nat) (q : Int) : List (Str × V) := [("gain", .ref gt), ("many", .int n), ("turns", .int t), ("factors", .ref fa), ("factor_bottom", .int (q ^ t))]
def IsE(C:Addr)(H:Hp)(o:Addr)(p q:Int)(n t:Nat):Prop:=∃ dx gt fa,H o=some (.ins C dx (ecF gt fa n t q))/\H gt=some (.tup [.int p,.int q])/\H fa=some (.tup ((i2x p q t).map V.int))
def g2t(C:Addr):Sp:=fun vs H Q _=>match vs with
 | [.ref o,.ref gt,.int n,.int t]=>∃ (dx:Addr) (m tt:Nat) (p q:Int),n=m/\t=tt/\tt<=16/\intBits p<=10/\intBits q<=10/\H gt=some (.tup [.int p,.int q])/\H o=some (.ins C dx []) /\
   (∀ (fa:Addr) (H1:Hp),b3v o H H1->H fa=none->H1 o=some (.ins C dx (ecF gt fa m tt q))->H1 fa=some (.tup ((i2x p q tt).map V.int))->Q .non H1)
 | _=>False
def Tps(H:Hp)(qs:List Addr)(vs:List (List V)):Prop:=qs.length=vs.length/\∀ (i:Nat) q v,qs[i]? = some q->vs[i]? = some v->H q=some (.tup v)
def g4h(l:Addr)(H:Hp)(qs:List Addr)(vs:List (List V)):Prop:=qs.length=vs.length/\∀ (i:Nat) q v,qs[i]? = some q->vs[i]? = some v->q≠l/\H q=some (.tup v)
noncomputable def lnOf(S:Int)(c:Int×Rat)(s:Rat):Int×Int×Int:=(c.1,c.2.num*S.fdiv c.2.den,s.num*S.fdiv s.den)
noncomputable def lnV(l:Int×Int×Int):List V:=[.int l.1,.int l.2.1,.int l.2.2]
def SwOk(cs:List (Int×Rat))(ss:List Rat)(S:Int):Prop:=ss.length=cs.length/\(∀ j s,ss[j]? = some s->SlR cs j s)/\ss[cs.length - 1]? = some 0/\1<=S/\intBits S<=1600/\(∀ c∈cs,(c.2.den:Int)∣S)/\(∀ s∈ss,(s.den:Int)∣S)/\(∀ s∈ss,intBits s.num<=60)/\intBits S<=1+128*cs.length/\S=g7i ((cs.map fun c=>(c.2.den:Int))++ss.map fun s=>(s.den:Int))
noncomputable def swF (ct ln : Addr) (S : Int) : List (Str × V) := [("corners", .ref ct), ("shared", .int S), ("lines", .ref ln)]
def f7i(C:Addr):Sp:=fun vs H Q _=>match vs with
 | [.ref o,.ref l]=>∃ (dx:Addr) (ps:List Addr) (cs:List (Int×Rat)),H o=some (.ins C dx [])/\H l=some (.lst (ps.map V.ref))/\Crn H ps cs/\h7z cs/\1<=cs.length/\cs.length<=12 /\
   (∀ ct ln S ss us H1,b3v o H H1->H ct=none->H1 o=some (.ins C dx (swF ct ln S))->H1 ct=some (.tup (ps.map V.ref))->H1 ln=some (.tup (us.map V.ref))->Tps H1 us ((List.zipWith (lnOf S) cs ss).map lnV)->SwOk cs ss S->Q .non H1)
 | _=>False
def g2u(C:Addr):Sp:=fun vs H Q _=>match vs with
 | [.ref o, .ref gt] => ∃ dx, H o = some (.ins C dx []) ∧ (∀ H1, b3v o H H1 → H1 o = some (.ins C dx [("gain", .ref gt)]) → Q .non H1)
 | _=>False
def f7j(C:Addr):Sp:=fun vs H Q _=>match vs with
 | [.ref o, .int n] => ∃ dx, H o = some (.ins C dx []) ∧ (∀ H1, b3v o H H1 → H1 o = some (.ins C dx [("many", .int n)]) → Q .non H1)
 | _=>False
def g2v(C:Addr):Sp:=fun vs H Q _=>match vs with
 | [.ref o, .ref gt, .int n] => ∃ dx, H o = some (.ins C dx []) ∧ (∀ H1, b3v o H H1 → H1 o = some (.ins C dx [("gain", .ref gt), ("many", .int n)]) → Q .non H1)
 | _=>False
def g2w(C:Addr):Sp:=fun vs H Q _=>match vs with
 | [.ref o, .ref gt, .int n] => ∃ dx, H o = some (.ins C dx []) ∧ (∀ H1, b3v o H H1 → H1 o = some (.ins C dx [("gain", .ref gt), ("many", .int n)]) → Q .non H1)
 | _=>False
noncomputable def clsOf(A:Ad):Dt->Addr
 | .gain _=>A.c5n
 | .delay _=>A.b6t
 | .echo .. => A.b8w
 | .back .. => A.c3n
 | .hall .. => A.c3o
 | .swell _=>A.b2l
noncomputable def gnF (g : Addr) : List (Str × V) := [("gain", .ref g)]
noncomputable def dlF (n : Nat) : List (Str × V) := [("many", .int n)]
noncomputable def bkF (g : Addr) (n : Nat) : List (Str × V) := [("gain", .ref g), ("many", .int n)]
noncomputable def FsOf(H:Hp)(fs:List (Str×V)):Dt->Prop
 | .gain y=>∃ g,fs=gnF g/\H g=some (.tup (c8g y))
 | .delay n=>fs=dlF n
 | .echo y n t=>∃ g fa,fs=ecF g fa n t (y.den:Int)/\H g=some (.tup (c8g y))/\H fa=some (.tup ((i2x y.num (y.den:Int) t).map V.int))
 | .back y n=>∃ g,fs=bkF g n/\H g=some (.tup (c8g y))
 | .hall y n=>∃ g,fs=bkF g n/\H g=some (.tup (c8g y))
 | .swell cs=>∃ ct ln S ss us ps,fs=swF ct ln S/\H ct=some (.tup (List.map V.ref ps))/\H ln=some (.tup (List.map V.ref us))/\Tps H us ((List.zipWith (lnOf S) cs ss).map lnV)/\SwOk cs ss S/\Crn H ps cs
def IsP(A:Ad)(H:Hp)(o:Addr)(d:Dt):Prop:=∃ dx fs,H o=some (.ins (clsOf A d) dx fs)/\FsOf H fs d
def i6z:Sp:=fun vs H Q _=>match vs with
 | [.ref p]=>∃ x:Rat,H p=some (.tup (c8g x))/\intBits x.num<=10/\intBits (x.den:Int)<=10/\Q (.str (fW x)) H
 | _=>False
def i7a:Sp:=fun vs H Q _=>match vs with
 | [.ref p]=>∃ (c:Int×Rat) (g:Addr),H p=some (.tup [.int c.1,.ref g])/\H g=some (.tup (c8g c.2))/\c.1.natAbs < 2 ^ 20/\intBits c.2.num<=10/\intBits (c.2.den:Int)<=10/\Q (.str (cW c)) H
 | _=>False
def d7v(A:Ad)(k:Nat):Sp:=fun vs H Q _=>match vs with
 | [.ref o]=>∃ d:Dt,d.kd=k/\IsP A H o d/\d.ok/\(∀ H1,Same H H1->Q (.str d.word) H1)
 | _=>False
def i7b:Sp:=fun vs H Q _=>match vs with
 | [.str x]=>∃ y:Rat,x=fW y/\YOk y/\All (f3k H (c8g y)) Q ⟨⟩ ⟨⟩
 | _=>False
def i7c:Sp:=fun vs H Q _=>match vs with
 | [.str x,.int a,.int b]=>∃ n:Nat,sg x=txt (n:Int)/\n < 10 ^ 9/\a<=n/\(n:Int)<=b/\Q (.int n) H
 | _=>False
def i7d:Sp:=fun vs H Q _=>match vs with
 | [.str x]=>∃ n:Nat,x=nW n/\1<=n/\n<=1000/\Q (.int n) H
 | _=>False
def i7e:Sp:=fun vs H Q _=>match vs with
 | [.ref l,.int c]=>∃ xs,H l=some (.lst xs)/\(xs.length:Int)=c/\Q .non H
 | _=>False
def f7w(A:Ad)(k:Nat):Sp:=fun vs H Q _=>match vs with
 | [.ref l]=>∃ d:Dt,d.kd=k/\d.ok/\H l=some (.lst (d.vals.map V.str))/\(∀ o H1,H o=none->Same H H1->IsP A H1 o d->Q (.ref o) H1)
 | _=>False
def i7f:Sp:=fun vs H Q _=>match vs with
 | [.str x]=>∃ c:Int×Rat,x=cW c/\0<=c.1/\c.1<=100000/\YOk c.2/\(∀ p g H1,H p=none->Same H H1->H1 p=some (.tup [.int c.1,.ref g])->H1 g=some (.tup (c8g c.2))->Q (.ref p) H1)
 | _=>False
def h0g(A:Ad):Sp:=fun vs H Q _=>match vs with
 | [.str x]=>∃ d:Dt,d.ok/\x=d.word/\(∀ o H1,H o=none->Same H H1->IsP A H1 o d->Q (.ref o) H1)
 | _=>False
noncomputable def lead(l:List Nat):Bool:=match l with
 | 48 :: _ :: _=>true
 | _=>false
noncomputable def h1j(x:Str):Option Nat:=if (f2o (sg x) && !lead (sg x))=true then some (NumText.digitsVal (sg x)) else none
def IsN(x:Str)(a b:Nat):Prop:=∃ n:Nat,x=nW n/\a<=n/\n<=b
def IsG(x:Str):Prop:=∃ y:Rat,x=fW y/\YOk y
def IsC(x:Str):Prop:=∃ c:Int×Rat,x=cW c/\0<=c.1/\c.1<=100000/\YOk c.2
def IsPart(x:Str):Prop:=∃ d:Dt,d.ok/\x=d.word
noncomputable def i2y(x:Str):V:=match h1j x with
 | some n=>if x.length<=13 then .int n else .non
 | none=>.non
def h0h:Sp:=fun vs H Q _=>match vs with
 | [.str x]=>x.length<=1000/\Q (i2y x) H
 | _=>False
def h8b(A:Ad):Sp:=fun vs H _ E=>match vs with
 | [.str x,.int a,.int b]=>∃ m n:Nat,a=m/\b=n/\n<=100000/\m<=1/\x.length<=1000/\¬ IsN x m n/\E (.ref A.a0o) none H
 | _=>False
def h8c(A:Ad):Sp:=fun vs H _ E=>match vs with
 | [.str x]=>x.length<=1000/\¬ IsN x 1 1000/\E (.ref A.a0o) none H
 | _=>False
def h8d(A:Ad):Sp:=fun vs H _ E=>match vs with
 | [.ref l,.int c]=>∃ xs,H l=some (.lst xs)/\xs.length<=2000/\(xs.length:Int)≠c/\E (.ref A.a0o) none H
 | _=>False
def i3a(H:Hp)(v:V):Prop:=(∃ x:Str,v = .str x/\x.length<=1000000/\∀ t b,¬ Good (sg x) t b)\/∃ ty,g1c H v=some ty/\ty≠.str
def g2x(c:Addr):Sp:=fun vs H _ E=>match vs with | [v]=>i3a H v/\(∀ H',Same H H'->E (.ref c) none H') | _=>False
def h8e(A:Ad):Sp:=fun vs H _ E=>match vs with
 | [.str x]=>x.length<=1000/\¬ IsG x/\(∀ H',Same H H'->E (.ref A.a0o) none H')
 | _=>False
def h8f(A:Ad):Sp:=fun vs H _ E=>match vs with
 | [.str x]=>x.length<=1000/\¬ IsC x/\(∀ H',Same H H'->E (.ref A.a0o) none H')
 | _=>False
def c8k(A:Ad)(k:Nat):Sp:=fun vs H _ E=>match vs with
 | [.ref l]=>∃ ws:List Str,H l=some (.lst (ws.map V.str))/\ws.length<=1100/\(∀ v∈ws,v.length<=1000)/\(¬ ∃ d:Dt,d.kd=k/\d.ok/\d.vals=ws)/\(∀ H',Same H H'->E (.ref A.a0o) none H')
 | _=>False
def h8g(A:Ad):Sp:=fun vs H _ E=>match vs with
 | [v]=>((∃ x,v = .str x/\x.length<=1000/\¬ IsPart x)\/∃ ty,g1c H v=some ty/\ty≠.str)/\(∀ H',Same H H'->E (.ref A.a0o) none H')
 | _=>False
noncomputable def h0i(x:Str):V:=match h1j x with
 | some n=>if x.length<=6 then .int n else .non
 | none=>.non
def h0j(x:Str)(h:Bool):Prop:=∃ y:Rat,x=fW y/\YOk y/\(h=true->(y.num.natAbs:Int) < (y.den:Int))
def g7j(x:Str):Prop:=∃ cs,f5u cs/\x=Str.join ⟨#[44]⟩ (cs.map cW)
def i7g:Sp:=fun vs H Q _=>match vs with
 | [.int a,.int b]=>0<=a/\0<=b/\Q (.int (Int.gcd a b)) H
 | _=>False
def i7h:Sp:=fun vs H Q _=>match vs with
 | [.str x]=>x.length<=1000/\Q (h0i x) H
 | _=>False
def i7i:Sp:=fun vs H Q _=>match vs with
 | [.str x,.int a,.int b]=>∃ m n:Nat,a=m/\b=n/\n<=100000/\x.length<=1000/\(∀ r:Bool,(r=true ↔ IsN x m n)->Q (.bl r) H)
 | _=>False
def i7j:Sp:=fun vs H Q _=>match vs with
 | [.str x,.bl h]=>x.length<=1000/\(∀ (r:Bool) H1,Same H H1->(r=true ↔ h0j x h)->Q (.bl r) H1)
 | _=>False
def i7k:Sp:=fun vs H Q _=>match vs with
 | [.str x]=>x.length<=1000/\(∀ (r:Bool) H1,Same H H1->(r=true ↔ g7j x)->Q (.bl r) H1)
 | _=>False
def i7l:Sp:=fun vs H Q _=>match vs with
 | [.str x]=>x.length<=1000/\(∀ (r:Bool) H1,Same H H1->(r=true ↔ IsPart x)->Q (.bl r) H1)
 | _=>False
def i7m:Sp:=fun vs H Q _=>match vs with
 | [.int m]=>∀ (d:Dt) H1,Same H H1->d.ok->1<=d.word.length->d.word.length<=100->Q (.str d.word) H1
 | _=>False
def h0k:Sp:=fun vs H Q _=>match vs with
 | [.int m]=>∀ (x:Str) H1,Same H H1->x.length<=420->Q (.str x) H1
 | _=>False
def h8h:Sp:=fun vs H Q _=>match vs with
 | [.str x,.int m]=>1<=x.length/\x.length<=100/\0<=m/\(∀ (y:Str) H1,Same H H1->y.length<=400->Q (.str y) H1)
 | _=>False
def h8i:Sp:=fun vs H Q _=>match vs with
 | [v]=>((∃ x,v = .str x/\x.length<=1000/\¬ IsPart x)\/∃ ty,g1c H v=some ty/\ty≠.str)/\(∀ H1,Same H H1->Q (.bl true) H1)
 | _=>False
def h8j:Sp:=fun vs H Q _=>match vs with
 | [.str x]=>x.length<=1000/\(∀ H1,Same H H1->Q (.bl true) H1)
 | _=>False
def Ris(cs:List (Int×Rat)):Prop:=∀ (j:Nat) c d,cs[j]? = some c->cs[j+1]? = some d->c.1 < d.1
local macro_rules | `(tactic| walk_at $s:str)=>do
 unless s.getString == "rd" || s.getString == "rd*" do Lean.Macro.throwUnsupported
 let mut ls:Array (Lean.TSyntax [`Lean.Parser.Tactic.simpStar,`Lean.Parser.Tactic.simpErase,`Lean.Parser.Tactic.simpLemma]) := #[]
 if s.getString == "rd*" then
  let y <- `(Lean.Parser.Tactic.simpStar| *)
  ls:=ls.push ⟨y.raw⟩
 for n in "h3v h7v h7w h0a h7x g2q h0b h7y h0c h0d h0e g2r f7g g2s f7h h8a g2t f7i g2u f7j g2v g2w i6z i7a d7v i7b i7c i7d i7e f7w i7f h0g h0h h8b h8c h8d g2x h8e h8f c8k h8g i7g i7h i7i i7j i7k i7l i7m h0k h8h h8i h8j i6f iStr rSlA i6g i6h tFmt i6i i1f i6j i1g i9a i6q rSlG i6n i1u gSub rSetM i1w i1x rIxD rNiD i9a g9c i2l h6v i6k i4s d9h i1j rInF tAugF i1p rIsI i6m i1q h5c i1r i4l h9q h6o tC g7n tOp tUn i4m tRet tRetN h1o tCB i5j h1x i5m i5n h1y tAnd tOr tNot tBF i0u i8r i0v h9o tIf i5l h6m h4q i8s i8t h4r tSl h6f h4s rIF h8u rUF i5o i5p i5q i8k i8l rSlM i5r rLenK i5x rIxS0 rIsT rAbs rMin rMax i8u rSumF h6p tBMF i6b i6a i0x i8v i8w i8x i8y h9p i1e i0y i1a i1d hAs _root_.L2.start".splitOn " " do
  let i:=Lean.mkIdent n.toName
  let y <- `(Lean.Parser.Tactic.simpLemma| ↓$i:ident)
  ls:=ls.push ⟨y.raw⟩
 for n in "noxK Bool.bne_false Bool.bne_true noxK noxK asNew lookup_same h5b i1k h8v i4t List.lookup_nil nq0 nq1 nq2 nq3 nq4 nq5 nq6 nq7 nq8 nq9 nq10 nq11 nq12 nq13 nq14 nq15 nq16 nq17 nq18 nq19 nq20 nq21 nq22 nq23 nq24 nq25 nq26 nq27 nq28 nq29 nq30 nq31 nq32 nq33 nq34 nq35 nq36 nq37 nq38 nq39 nq40 nq41 i8m i8n i8o i8p i8q h4l Ty.nm i8d i8j i0p i0q i0r i0s h4n h6n List.map_cons List.map_nil List.length_cons List.length_nil List.length_map List.replicate List.cons_append List.nil_append List.append_nil List.getElem?_cons_zero List.getElem?_cons_succ List.set_cons_zero List.set_cons_succ Option.some.injEq exists_eq_left' exists_eq_left exists_and_left V.int.injEq V.bl.injEq V.str.injEq V.ref.injEq V.ty.injEq Value.ref.injEq List.cons.injEq HO.lst.injEq HO.tup.injEq Int.zero_add List.length_append and_true true_and i5s i5t i5u i5v i5w two_line if_true reduceCtorEq if_false Bool.false_eq_true decide_eq_true_eq decide_eq_false_iff_not decide_true decide_false Bool.or_true Bool.true_or Bool.or_false Bool.false_or Bool.and_true Bool.true_and Bool.and_false Bool.false_and or_false false_or Nat.zero_add Nat.reduceAdd Nat.reduceSub exists_const false_and and_false Bool.not_true Bool.not_false Bool.not_eq_true' ne_eq not_true_eq_false not_false_eq_true Int.reduceEq Int.reduceNe Int.reduceLT Int.reduceLE Int.reducePow Int.reduceMul Int.reduceAdd Int.reduceSub Int.reduceNeg Int.reduceToNat Nat.reducePow Nat.reduceLT Nat.reduceLeDiff".splitOn " " do
  let i:=Lean.mkIdent n.toName
  let y <- `(Lean.Parser.Tactic.simpLemma| $i:ident)
  ls:=ls.push ⟨y.raw⟩
 `(tactic| simp (config:={ maxSteps:=1000000,dsimp:=false }) only [$ls,*])
theorem g4i{l r:Int}(hl:0<=l)(hr:0 < r):Int.gcd r (l.fmod r)=Int.gcd l r:=by
 rw [Int.fmod_eq_emod_of_nonneg _ (by omega)]
 obtain⟨x,rfl⟩:=Int.eq_ofNat_of_zero_le hl
 obtain⟨y,rfl⟩:=Int.eq_ofNat_of_zero_le (by omega:0<=r)
 rw [<- Int.natCast_emod,Int.gcd_natCast_natCast,Int.gcd_natCast_natCast,Nat.gcd_comm x y,Nat.gcd_rec y x,Nat.gcd_comm]
theorem h0l{l r:Int}(hl:0<=l)(hr:0 < r):0<=l.fmod r/\l.fmod r < r:=by
 rw [Int.fmod_eq_emod_of_nonneg _ (by omega)]
 exact⟨Int.emod_nonneg _ (by omega),Int.emod_lt_of_pos _ hr⟩
theorem h8k(a b:Int):Int.gcd (a.natAbs:Int) (b.natAbs:Int)=Int.gcd a b:=by
 rw [Int.gcd_natCast_natCast]; rfl
theorem gcd_zero{l:Int}(hl:0<=l):((Int.gcd l 0:Nat):Int)=l:=by
 rw [Int.gcd_zero_right]; omega
theorem i3b(a b:Int):(a.natAbs:Int).fdiv (Int.gcd a b:Int)*(b.natAbs:Int)=(Int.lcm a b:Int):=by
 rw [Int.fdiv_eq_ediv_of_nonneg _ (Int.natCast_nonneg _),<- Int.natCast_ediv,<- Int.natCast_mul]
 congr 1
 show a.natAbs / Nat.gcd a.natAbs b.natAbs*b.natAbs=Nat.lcm a.natAbs b.natAbs
 unfold Nat.lcm
 exact Nat.div_mul_right_comm (Nat.gcd_dvd_left _ _) _
theorem lcm_zero{a b:Int}(h:a=0\/b=0):Int.lcm a b=0:=by
 rcases h with rfl | rfl
 ·exact Int.lcm_zero_left _
 ·exact Int.lcm_zero_right _
theorem g4j{a b:Int}{n:Nat}(h:a≠0)(ha:intBits a<=n):intBits (Int.gcd a b:Int)<=n:=by
 refine intBits_le_of_natAbs ?_ ha
 rw [Int.natAbs_natCast]
 exact Nat.le_of_dvd (by omega) (Nat.gcd_dvd_left _ _)
theorem i3c{t b:Int}(hb:b≠0):t.fdiv (if b < 0 then -(Int.gcd t b:Int) else (Int.gcd t b:Int))=(Rat.divInt t b).num:=by
 rw [Rat.num_divInt,Int.gcd_comm b t]
 have hp:0 < Int.gcd t b:=Int.gcd_pos_of_ne_zero_right t hb
 obtain⟨k,hk⟩:(Int.gcd t b:Int)∣t:=Int.gcd_dvd_left t b
 generalize hg:(Int.gcd t b:Int)=g at *
 have hg0:0 < g:=by omega
 by_cases h:b < 0
 ·rw [if_pos h,Int.sign_eq_neg_one_of_neg h,hk]
  rw [show g*k=(-g)*(-k) by grind,Int.mul_fdiv_cancel_left _ (by omega),show -1*(-g * -k)=g*(-k) by grind,Int.mul_ediv_cancel_left _ (by omega)]
 ·rw [if_neg h,Int.sign_eq_one_of_pos (by omega),hk,Int.mul_fdiv_cancel_left _ (by omega),Int.one_mul,Int.mul_ediv_cancel_left _ (by omega)]
theorem i3d{t b:Int}(hb:b≠0):b.fdiv (if b < 0 then -(Int.gcd t b:Int) else (Int.gcd t b:Int))=((Rat.divInt t b).den:Int):=by
 rw [Rat.den_divInt,if_neg hb,Int.gcd_comm b t]
 have hp:0 < Int.gcd t b:=Int.gcd_pos_of_ne_zero_right t hb
 obtain⟨k,hk⟩:(Int.gcd t b:Int)∣b:=Int.gcd_dvd_right t b
 rw [Int.natCast_ediv]
 generalize hg:(Int.gcd t b:Int)=g at *
 have hg0:0 < g:=by omega
 by_cases h:b < 0
 ·have e:((b.natAbs:Nat):Int) = -b:=by omega
  rw [if_pos h,e,hk,show g*k=(-g)*(-k) by grind,Int.mul_fdiv_cancel_left _ (by omega),show -(-g * -k)=g*(-k) by grind,Int.mul_ediv_cancel_left _ (by omega)]
 ·have e:((b.natAbs:Nat):Int)=b:=by omega
  rw [if_neg h,e,hk,Int.mul_fdiv_cancel_left _ (by omega),Int.mul_ediv_cancel_left _ (by omega)]
theorem h8l(q:Rat):Int.gcd q.num (q.den:Int)=1:=q.reduced
theorem g4k(q r:Rat):Rat.divInt (q.num*(r.den:Int)+r.num*(q.den:Int)) ((q.den:Int)*(r.den:Int))=q+r:=by
 conv=>rhs; rw [<- Rat.num_divInt_den q,<- Rat.num_divInt_den r]
 rw [Rat.divInt_add_divInt _ _ (by have:=q.den_pos; omega) (by have:=r.den_pos; omega)]
theorem g0p(q r:Rat):Rat.divInt (q.num*r.num) ((q.den:Int)*(r.den:Int))=q*r:=by
 conv=>rhs; rw [<- Rat.num_divInt_den q,<- Rat.num_divInt_den r]
 rw [Rat.divInt_mul_divInt]
theorem f7k(q:Rat):(Rat.abs q).num=q.num.natAbs:=by
 unfold Rat.abs
 split
 ·rename_i h
  have:=Rat.num_nonneg.mpr h
  omega
 ·rename_i h
  have:¬ 0<=q.num:=fun z=>h (Rat.num_nonneg.mp z)
  show -q.num=_
  omega
theorem f1t(q:Rat):(Rat.abs q).den=q.den:=by
 unfold Rat.abs
 split <;> rfl
theorem h5o{t b:Int}(hb:b≠0):(Rat.divInt t b).num.natAbs<=t.natAbs:=by
 rw [Rat.num_divInt]
 have e:(b.sign*t).natAbs=t.natAbs:=by
  rw [Int.natAbs_mul,Int.natAbs_sign_of_ne_zero hb,Nat.one_mul]
 rw [<- e]
 exact Int.natAbs_ediv_le_natAbs _ _
theorem h5p{t b:Int}(hb:b≠0):(Rat.divInt t b).den<=b.natAbs:=by
 rw [Rat.den_divInt,if_neg hb]
 exact Nat.div_le_self _ _
theorem f4w (T : Tx K mg A) : a1g P A.wd K mg base CX0 1 A.b8u A.b5m ["one", "other"] h3v := by
 refine T.c5q.ok c0n (fun vs H Q E h=>?_) (fun cdv A' outer s H vs Q E hr h=>?_)
 ·obtain⟨_,_,rfl,_⟩:=f2p (by unfold h3v at h; exact h)
  rfl
 ·obtain⟨a,b,rfl,q⟩:=f2p (by unfold h3v at h; exact h)
  have q:Q (.int (Int.gcd a b)) H:=q
  have hu:=hr.units
  refine⟨_,(a0i (a0z (i:=2) c0n.nd rfl (Or.inl rfl) (a0y c2g (by rfl) T.g2k boot_abs (a0g (pvF 0) a0h)))
   (a0i (a0z (i:=3) c0n.nd rfl (Or.inl rfl) (a0y c2g (by rfl) T.g2k boot_abs (a0g (pvF 1) a0h)))
   (a0i (f8t PassesOwn.never (a0t (c1y hu) (pvF 3) a0j (a1i _))
   (a0i (a0z (i:=4) c0n.nd rfl (Or.inl rfl) (a4u d6z (pvF 2) (pvF 3)))
   (a0i (a0z (i:=2) c0n.nd rfl (Or.inl rfl) (pvF 3))
   (a0k (a0z (i:=3) c0n.nd rfl (Or.inl rfl) (pvF 4))))))
   (a0k (a0s (pvF 2)))))),?_⟩
  walk_at "rd"
  refine f8u (fun m σ H1=>∃ l r z,σ = [some (.int a),some (.int b),some (.int l),some (.int r),z]/\H1=H/\0<=l/\0<=r/\m=r.toNat/\Int.gcd l r=Int.gcd a b) _
   ⟨_,_,_,rfl,rfl,by omega,by omega,rfl,h8k a b⟩ ?_
  rintro m σ H1 ⟨l,r,z,rfl,rfl,hl,hr',rfl,hg⟩
  walk_at "rd"
  split
  ·rename_i h
   have hp:0 < r:=by omega
   have f:=h0l hl hp
   exact⟨h,_,(by omega:(l.fmod r).toNat < r.toNat),_,_,_,⟨rfl,rfl,rfl⟩,hr',f.1,rfl,(g4i hl hp).trans hg⟩
  ·rename_i h
   obtain rfl:r=0:=by omega
   rw [<- hg,gcd_zero hl] at q
   exact q
theorem g2y (T : Tx K mg A) : a1g P A.wd K mg base CX0 2 A.b5n A.b5o ["one", "other"] h7v := by
 have f1u : a1g P A.wd K mg base CX0 1 A.b8u A.b5m ["one", "other"] h3v := f4w T
 refine T.c5r.ok g1v (fun vs H Q E h=>?_) (fun cdv A' outer s H vs Q E hr h=>?_)
 ·obtain⟨_,_,rfl,_⟩:=f2p (by unfold h7v at h; exact h)
  rfl
 ·obtain⟨a,b,rfl,⟨ha,hb,q⟩⟩:=f2p (by unfold h7v at h; exact h)
  have hu:=hr.units
  have d6l:a1y 1 _:=hr.mono (by decide)
  refine⟨_,(a0i (a4o (pw_or (a0t (b1n hu) (pvF 0) a0j (a1i _)) (pw_or1 (a0t (b1n hu) (pvF 1) a0j (a1i _)))).pt
   (a0k (a0s a0j))
   a1h)
   (a0k (a0s (a4u b9g (a4u c8l (a0y c2g (by rfl) T.g2k boot_abs (a0g (pvF 0) a0h)) (a0l f1u d6l (by rfl) T.g0g T.c5q.kp T.g0f .nil a0w (a0g (pvF 0) (a0g (pvF 1) a0h)))) (a0y c2g (by rfl) T.g2k boot_abs (a0g (pvF 1) a0h)))))),?_⟩
  walk_at "rd"
  split
  ·rename_i h
   rw [lcm_zero h] at q
   exact q
  ·rename_i h
   simp only [not_or] at h
   have hg:=g4j (b:=b) h.1 ha
   have hn:(Int.gcd a b:Int)≠0:=by
    have:=Int.gcd_pos_of_ne_zero_left b h.1
    omega
   refine⟨⟨hn,Nat.le_trans hg (by decide)⟩,?_,?_⟩
   ·exact IntMulOk.of_le (intBits_fdiv_le (intBits_natAbs_le ha)) (intBits_natAbs_le hb) (by decide)
   ·rw [i3b]
    exact q
theorem g4l{t b:Int}{n:Nat}(hb:b≠0)(h:intBits t<=n):intBits (Rat.divInt t b).num<=n:=intBits_le_of_natAbs (h5o hb) h
theorem g4m{t b:Int}{n:Nat}(hb:b≠0)(h:intBits b<=n):intBits ((Rat.divInt t b).den:Int)<=n:=by
 refine intBits_le_of_natAbs ?_ h
 rw [Int.natAbs_natCast]
 exact h5p hb
theorem g2z (T : Tx K mg A) : a1g P A.wd K mg base CX0 1 A.b5k A.b5l ["value"] h7w := by
 refine T.c0p.ok g1u (fun vs H Q E h=>?_) (fun cdv A' outer s H vs Q E hr h=>?_)
 ·obtain⟨_,rfl,_⟩:=h8x (by unfold h7w at h; exact h)
  rfl
 ·obtain⟨i,rfl,q⟩:=h8x (by unfold h7w at h; exact h)
  have hu:=hr.units
  refine ⟨_, (a0k (a0s (c4k (a0y (d0k .int) (by rfl) T.a1t boot_isinstance (a0g (pvF 0) (a0g (d1l (v := .ty "int") (u := .type "int") (by rfl) T.d6j rfl rfl) a0h))) (d6v (g1f (a0y (d0k .bl) (by rfl) T.a1t boot_isinstance (a0g (pvF 0) (a0g (d1l (v := .ty "bool") (u := .type "bool") (by rfl) T.i2v rfl rfl) a0h)))))))), ?_⟩
  walk_at "rd"
  exact q
theorem c7r (T : Tx K mg A) : a1g P A.wd K mg base CX0 2 A.b5p A.b5q ["top", "bottom"] h0a := by
 have f4y:a1g P A.wd K mg base CX0 1 _ _ _ _:=g2z T
 have f1u:a1g P A.wd K mg base CX0 1 _ _ _ _:=f4w T
 refine T.b3k.ok d1q (fun vs H Q E h=>?_) (fun cdv A' outer s H vs Q E hr h=>?_)
 ·obtain⟨_,_,rfl,_⟩:=f2p (by unfold h0a at h; exact h)
  rfl
 ·obtain⟨t,b,rfl,⟨hb,h1,h2,k⟩⟩:=f2p (by unfold h0a at h; exact h)
  have hu:=hr.units
  have f1v:a1y 1 _:=hr.mono (by decide)
  have d6l:a1y 1 _:=hr.mono (by decide)
  refine⟨_,(a0i (a4o (pw_or (b3w (a3m (a0l f4y f1v (by rfl) T.f4l T.c0p.kp T.f4k .nil a0w (a0g (pvF 0) a0h)))) (pw_or1 (b3w (a3m (a0l f4y f1v (by rfl) T.f4l T.c0p.kp T.f4k .nil a0w (a0g (pvF 1) a0h)))))).pt
   (a0k a6q)
   a1h)
   (a0i (a4o (a0t (b1n hu) (pvF 1) a0j (a1i _))
   (a0k a6q)
   a1h)
   (a0i (a0z (i:=2) d1q.nd rfl (Or.inl rfl) (a0l f1u d6l (by rfl) T.g0g T.c5q.kp T.g0f .nil a0w (a0g (pvF 0) (a0g (pvF 1) a0h))))
   (d1o (a4o (a0t of_lt (pvF 1) a0j (a1i _))
   (a0k (a0z (i:=2) d1q.nd rfl (Or.inl rfl) (h5x g8j (pvF 2))))
   a1h)
   (a0k (a0s (c1z (a0g (a4u c8l (pvF 0) (pvF 2)) (a0g (a4u c8l (pvF 1) (pvF 2)) a0h))))))))),?_⟩
  walk_at "rd"
  rw [if_neg hb]
  refine⟨fun σ' H'=>σ' = [some (.int t),some (.int b),some (.int (if b < 0 then -(Int.gcd t b:Int) else (Int.gcd t b:Int)))]/\H'=H,?_,?_⟩
  ·walk_at "rd"
   split
   ·rfl
   ·rfl
  ·rintro σ' H' ⟨rfl,rfl⟩
   have hg:intBits (Int.gcd t b:Int)<=4000:=by
    rw [Int.gcd_comm]
    exact g4j hb h2
   have hp:0 < Int.gcd t b:=Int.gcd_pos_of_ne_zero_right t hb
   have hc:CFd t (if b < 0 then -(Int.gcd t b:Int) else (Int.gcd t b:Int)):=by
    split
    ·exact⟨by omega,Nat.le_trans (intBits_neg_le hg) (by decide)⟩
    ·exact⟨by omega,Nat.le_trans hg (by decide)⟩
   walk_at "rd"
   refine⟨hc,hc,fun p H1 n1 S1 h1=>k _ _ ⟨p,rfl,n1,S1,?_⟩⟩
   rw [h1,i3c hb,i3d hb]
   rfl
theorem d4m{n:Nat}(h:n < 10 ^ 9):n.log2 < 1920:=by
 rcases Nat.eq_zero_or_pos n with z | z
 ·rw [z]; decide
 ·rw [Nat.log2_lt (by omega)]
  exact Nat.lt_of_lt_of_le h (Nat.le_trans (by decide:10 ^ 9<=2 ^ 30) (Nat.pow_le_pow_right (by decide) (by decide)))
theorem d0v{t:Int}(h:t.natAbs < 10 ^ 9):intBits t<=4000:=by
 refine Nat.le_trans (intBits_le_iff.mpr (Nat.lt_of_lt_of_le h (by decide:10 ^ 9<=2 ^ 30))) (by decide)
theorem d0w (T : Tx K mg A) : a1g P A.wd K mg base CX0 1 A.a9k A.a9w ["text"] h7x := by
 refine T.a7u.ok d3q (fun vs H Q E h=>?_) (fun cdv A' outer s H vs Q E hr h=>?_)
 ·obtain⟨_,rfl,_⟩:=d2t (by unfold h7x at h; exact h)
  rfl
 ·obtain⟨x,rfl,q⟩:=d2t (by unfold h7x at h; exact h)
  have q:Q (.bl (f2o (sg x))) H:=q
  have hu:=hr.units
  refine⟨_,(a0i (b8z PassesOwn.never rfl (h4z (pvF 0)) (a4y (i:=1) d3q.nd rfl (Or.inl rfl))
   (a0k (a4o (a0t f9i (pvF 1) (a1o (v := .str "0123456789") (by rfl) T.g6s T.d5z) (by rfl))
   (a0k (a0s d4r))
   a1h)))
   (a0k (a0s (b3y (c1y hu) (pvF 0) a0m (a1i _))))),?_⟩
  walk_at "rd"
  refine g3o (fun i σ H1=>H1=H/\(∃ z,σ = [some (.str x),z])/\((sg x).take i).all (fun c=>decide (48<=c) && decide (c<=57))=true) ⟨rfl,⟨_,rfl⟩,rfl⟩ ?_ ?_
  ·rintro i c σ H1 hc ⟨rfl,⟨z,rfl⟩,ha⟩
   walk_at "rd"
   have hc':(sg x)[i]? = some c:=by
    unfold sg
    rw [Array.getElem?_toList]
    exact hc
   rw [g8s]
   split
   ·rename_i hb
    have:f2o (sg x)=false:=by
     unfold f2o
     rw [show (sg x).all (fun c=>decide (48<=c) && decide (c<=57))=false from ?_,Bool.false_and]
     rw [List.all_eq_false]
     exact⟨c,List.mem_of_getElem? hc',by rw [hb]; decide⟩
    rw [this] at q
    exact q
   ·rename_i hb
    refine⟨⟨_,rfl⟩,?_⟩
    rw [List.take_add_one,hc',List.all_append,ha]
    simpa using hb
  ·rintro σ H1 ⟨rfl,⟨z,rfl⟩,ha⟩
   walk_at "rd"
   have hl:x.cps.size=(sg x).length:=by simp
   rw [hl,List.take_length] at ha
   have e : f2o (sg x) = !decide (x = Str.ofString "") := by
    unfold f2o
    rw [ha,Bool.true_and]
    congr 1
    rw [Bool.eq_iff_iff,decide_eq_true_eq,List.isEmpty_iff]
    exact⟨fun h=>a6r (h.trans (by decide +kernel)),fun h=>by rw [h]; decide +kernel⟩
   rw [e] at q
   exact q
theorem g4n (T : Tx K mg A) : a1g P A.wd K mg base CX0 1 A.a4r A.a4z ["one"] g2q := by
 refine T.a1z.ok a6m (fun vs H Q E h=>?_) (fun cdv A' outer s H vs Q E hr h=>?_)
 ·obtain⟨_,rfl,_⟩:=c0m (by unfold g2q at h; exact h)
  rfl
 ·obtain⟨p,rfl,⟨t,b,hp,l1,l2,q⟩⟩:=c0m (by unfold g2q at h; exact h)
  have hu:=hr.units
  refine⟨_,(a0i (a0z (i:=1) a6m.nd rfl (Or.inl rfl) (a0r a3z (pvF 0) a0j (fun _ _=>rfl)))
   (a0i (a0z (i:=2) a6m.nd rfl (Or.inl rfl) (a0r a3z (pvF 0) a0j (fun _ _=>rfl)))
   (a0k (a0s (b1q (a3h (b4z (pvF 1)) (a3h a0m (a3h (b4z (pvF 2)) d1g)))))))),?_⟩
  walk_at "rd*"
  have e0:Str.empty.length=0:=rfl
  have e1 : (Str.ofString "/").length = 1 := by decide +kernel
  have e2:(Str.ofString (toString t)).length=(txt t).length:=by rw [<- a3k,c8h]
  have e3:(Str.ofString (toString b)).length=(txt b).length:=by rw [<- a3k,c8h]
  have f2:=g1h t
  have f3:=g1h b
  have hs:sizeLine=16777216:=sizeLine_eq
  simp only [strLen_append,e0,e1,e2,e3]
  refine⟨by omega,by omega,by omega,by omega,q _ ?_⟩
  rw [a4p,a4p,a4p,c8h,c8h]
  unfold g1i
  have e4:sg Str.empty = []:=rfl
  have e5 : sg (Str.ofString "/") = [47] := by decide +kernel
  rw [e4,e5]
  simp
theorem h0m (T : Tx K mg A) : a1g P A.wd K mg base CX0 3 A.a4s A.a5g ["text"] h0b := by
 have a9t:a1g P A.wd K mg base CX0 1 _ _ _ _:=d0w T
 have a1r:a1g P A.wd K mg base CX0 1 _ _ _ _:=g4n T
 have b8j:a1g P A.wd K mg base CX0 2 _ _ _ _:=c7r T
 refine T.a5t.ok a2z (fun vs H Q E h=>?_) (fun cdv A' outer s H vs Q E hr h=>?_)
 ·obtain⟨_,rfl,_⟩:=d2t (by unfold h0b at h; exact h)
  rfl
 ·obtain⟨x,rfl,⟨t,b,g,k⟩⟩:=d2t (by unfold h0b at h; exact h)
  have hu:=hr.units
  have a8k:a1y 1 _:=hr.mono (by decide)
  have a1l:a1y 1 _:=hr.mono (by decide)
  have b2m:a1y 2 _:=hr.mono (by decide)
  obtain⟨hx,hb,hg,l1,l2⟩:=g
  have hb0:b≠0:=by omega
  have tb:txt b=dg b.natAbs:=if_neg (by omega)
  have sl : Str.ofString "/" = ⟨#[47]⟩ := by decide +kernel
  have mi : Str.ofString "-" = ⟨#[45]⟩ := by decide +kernel
  have sp:=h3a (x:=x) (c:=47) (by decide) hx (c2i (by decide) (by decide)) (c2i (by decide) (by decide))
  have hs:sizeLine=16777216:=sizeLine_eq
  have q1:=i1n t
  have xl:x.length=(txt t).length+((txt b).length+1):=by rw [<- a3k,hx]; simp [g1i]
  rw [tb] at xl
  obtain⟨h0,e0⟩:∃ h0:Str,h0 = ⟨(txt t).toArray⟩:=⟨_,rfl⟩
  obtain⟨h1,e1⟩:∃ h1:Str,h1 = ⟨(txt b).toArray⟩:=⟨_,rfl⟩
  have s0:sg h0=txt t:=by rw [e0]
  have s1:sg h1=txt b:=by rw [e1]
  have n0:h0.length=(txt t).length:=by rw [<- a3k,s0]
  have n1:h1.length=(txt b).length:=by rw [<- a3k,s1]
  rw [<- e0,<- e1] at sp
  have sw:=i1o s0
  have i0:=d0m s0 (by omega)
  have i1:=d0m s1 (by rw [tb] at n1; omega)
  have r0:Rat.divInt t b = ⟨t,b.toNat,by omega,by
   show Nat.gcd t.natAbs b.toNat=1
   rw [<- hg]
   unfold Int.gcd
   congr 1
   omega⟩:=by
   rw [Rat.mk_eq_divInt]
   congr 1
   omega
  refine ⟨_, (a0i (a4o (b3w (a3m (a0y (d0k .str) (by rfl) T.a1t boot_isinstance (a0g (pvF 0) (a0g (d1l (v := .ty "str") (u := .type "str") (by rfl) T.g9n rfl rfl) a0h)))))
   (a0k a6q)
   a1h)
   (a0i (a0z (i:=1) a2z.nd rfl (Or.inl rfl) (b1o a4j PySem.F.plainAttrs_str PySem.F.slot_str_split PySem.F.type_str_split b8m (pvF 0) (a0g a0m a0h)))
   (a0i (a4o (a0t (c1y hu) (a0y a3l (by rfl) T.c4w boot_len (a0g (pvF 1) a0h)) a0j (a1i _))
   (a0k a6q)
   a1h)
   (d1o (a0z (i:=2) a2z.nd rfl (Or.inl rfl) (g3i (a3m (b1o a4j PySem.F.plainAttrs_str PySem.F.slot_str_startswith PySem.F.type_str_startswith b9z (a0r a3z (pvF 1) a0j (fun _ _=>rfl)) (a0g a0m a0h))) (a2g d8h (a0r a3z (pvF 1) a0j (fun _ _=>rfl)) (a2h a0j) a4g) (a0r a3z (pvF 1) a0j (fun _ _=>rfl))))
   (a0i (b8z PassesOwn.never rfl (b8k (a8v (a0g (pvF 2) (a0g (a0r a3z (pvF 1) a0j (fun _ _=>rfl)) a0h)))) (a4y (i:=3) a2z.nd rfl (Or.inl rfl))
   (a0k (a4o (pw_or (b3w (a3m (a0l a9t a8k (by rfl) T.c3z T.a7u.kp T.c3y .nil a0w (a0g (pvF 3) a0h)))) (pw_or1 (a0t c8m (a0y a3l (by rfl) T.c4w boot_len (a0g (pvF 3) a0h)) (a1o (v:=.int 9) (by rfl) T.b5h T.a6g) (a1i _)))).pt
   (a0k a6q)
   a1h)))
   (a0i (a4o (a0t (b1n hu) (a5i a8l (by rfl) T.d6j boot_int (a0g (a0r a3z (pvF 1) a0j (fun _ _=>rfl)) a0h)) a0j (a1i _))
   (a0k a6q)
   a1h)
   (a0i (a0z (i:=4) a2z.nd rfl (Or.inl rfl) (a0l b8j b2m (by rfl) T.d0u T.b3k.kp T.d0t .nil a0w (a0g (a5i a8l (by rfl) T.d6j boot_int (a0g (a0r a3z (pvF 1) a0j (fun _ _=>rfl)) a0h)) (a0g (a5i a8l (by rfl) T.d6j boot_int (a0g (a0r a3z (pvF 1) a0j (fun _ _=>rfl)) a0h)) a0h))))
   (a0i (a4o (a0t (c1y hu) (a0l a1r a1l (by rfl) T.a5w T.a1z.kp T.a5v .nil a0w (a0g (pvF 4) a0h)) (pvF 0) (a1i _))
   (a0k a6q)
   a1h)
   (a0k (a0s (pvF 4))))))))))),?_⟩
  rw [sl,mi]
  have hx':id (sg x=g1i t b):=hx
  clear e0 e1 hx sl mi
  have d1:((⟨#[47]⟩:Str).length == 0)=false:=rfl
  have d2:x.length<=sizeLine:=by omega
  have d3:2<=sizeLine:=by omega
  have d4:h0.length<=sizeLine:=by omega
  have d5:h1.length<=sizeLine:=by rw [tb] at n1; omega
  have N0:h0.length<=10:=by omega
  have N1:h1.length<=9:=by rw [tb] at n1; omega
  clear xl n0 n1 q1 hs
  walk_at "rd*"
  intro p H1 n1' S1 h1'
  walk_at "rd*"
  rw [if_neg (by decide)]
  refine⟨fun σ' H'=>∃ top:Str,sg top=dg t.natAbs/\σ' = [some (.str x),some (.ref p),some (.str top),none,none]/\H'=H1,?_,?_⟩
  ·walk_at "rd*"
   split
   ·rename_i ht
    have z:=f5s (x:=h0) (i:=1) (by
     rw [<- a3k,s0]
     unfold txt
     rw [if_pos ht]
     simp)
    rw [show ((1:Nat):Int)=1 from rfl] at z
    refine⟨_,?_,rfl⟩
    rw [z,s0]
    unfold txt
    rw [if_pos ht]
    rfl
   ·rename_i ht
    refine⟨_,?_,rfl⟩
    rw [s0]
    unfold txt
    rw [if_neg ht]
  ·rintro σ' H' ⟨top,st,rfl,rfl⟩
   walk_at "rd*"
   intro q H2 n2 S2 h2
   walk_at "rd*"
   have hp2:=S2 _ _ h1'
   refine⟨⟨_,SqL.of h2⟩,?_⟩
   have f0:f2o (sg top)=true:=by rw [st]; exact c0g.mpr ⟨c3k _,g5r _⟩
   have f1:f2o (sg h1)=true:=by rw [s1,tb]; exact c0g.mpr ⟨c3k _,g5r _⟩
   have m0:top.length<=9:=by rw [<- a3k,st]; exact l1
   have m1:top.length<=sizeLine:=Nat.le_trans m0 (by decide)
   refine c5j (xs:=[.str top,.str h1]) (fun i σ H'=>H'=H2/\∃ z,σ = [some (.str x),some (.ref p),some (.str top),z,none]) ⟨rfl,_,rfl⟩ (fun i σ H' _ h=>by rw [h.1]; exact SqL.of h2) ?_ ?_
   ·rintro i v σ H' hv ⟨rfl,z,rfl⟩
    match i,hv with
    | 0,hv =>
     cases hv
     walk_at "rd*"
     rw [st] at f0
     rw [f0,if_neg (by simp; omega)]
     exact⟨_,rfl⟩
    | 1,hv =>
     cases hv
     walk_at "rd*"
     rw [s1,tb] at f1
     rw [f1,if_neg (by simp; omega)]
     exact⟨_,rfl⟩
    | i+2,hv=>cases hv
   ·rintro σ H' ⟨rfl,z,rfl⟩
    walk_at "rd*"
    have v1:t.natAbs < 10 ^ 9:=by
     have:=g3p (c3k t.natAbs)
     rw [c8o] at this
     exact Nat.lt_of_lt_of_le this (Nat.pow_le_pow_right (by decide) l1)
    have v2:b.natAbs < 10 ^ 9:=by
     have:=g3p (c3k b.natAbs)
     rw [c8o] at this
     exact Nat.lt_of_lt_of_le this (Nat.pow_le_pow_right (by decide) l2)
    have g1:t.natAbs.log2 < 1920:=d4m v1
    have g2:b.natAbs.log2 < 1920:=d4m v2
    refine⟨by omega,by omega,by omega,d0v v1,d0v v2,?_⟩
    rw [r0]
    rintro _ H3 ⟨o,rfl,n3,S3,h3⟩
    replace h3:H3 o=some (.tup [.int t,.int b]):=by
     rw [h3]
     unfold c8g
     show some (HO.tup [V.int t,V.int ((b.toNat:Nat):Int)])=_
     rw [Int.toNat_of_nonneg (by omega)]
    walk_at "rd*"
    refine⟨t,b,⟨rfl,rfl⟩,g1,g2,fun y hy=>?_⟩
    rw [if_neg (not_not_intro (a6r (hy.trans hx'.symm)))]
    refine k _ _ ⟨o,rfl,?_,fun c u e=>S3 _ _ (S2 _ _ (S1 _ _ e)),h3⟩
    cases e:H o with
    | none=>rfl
    | some u =>
     have:=S2 _ _ (S1 _ _ e)
     rw [n3] at this
     cases this
theorem h0n{x:Str}{n:Nat}(h:sg x=txt (n:Int)):(Txt.startswith x ⟨#[48]⟩ && !decide (x=(⟨#[48]⟩:Str)))=false:=by
 have e:txt (n:Int)=dg n:=if_neg (by omega)
 rw [e] at h
 rcases Nat.eq_zero_or_pos n with z | z
 ·subst z
  have:x = ⟨#[48]⟩:=a6r (by rw [h]; rfl)
  rw [this]
  simp
 ·obtain⟨c,r,e1,e2⟩:=g8r z
  rw [g3q,h,e1]
  simp [e2]
theorem i3e (T : Tx K mg A) : a1g P A.wd K mg base CX0 2 A.b2n A.b1z ["text"] h7y := by
 have a9t:a1g P A.wd K mg base CX0 1 _ _ _ _:=d0w T
 refine T.b6w.ok d9z (fun vs H Q E h=>?_) (fun cdv A' outer s H vs Q E hr h=>?_)
 ·obtain⟨_,rfl,_⟩:=d2t (by unfold h7y at h; exact h)
  rfl
 ·obtain⟨x,rfl,⟨n,hx,hn,q⟩⟩:=d2t (by unfold h7y at h; exact h)
  have hu:=hr.units
  have a8k:a1y 1 _:=hr.mono (by decide)
  have sl : Str.ofString "0" = ⟨#[48]⟩ := by decide +kernel
  refine⟨_,(a0i (a4o (pw_or (b3w (a3m (a0l a9t a8k (by rfl) T.c3z T.a7u.kp T.c3y .nil a0w (a0g (pvF 0) a0h)))) (pw_or1 (a0t c8m (a0y a3l (by rfl) T.c4w boot_len (a0g (pvF 0) a0h)) (a1o (v:=.int 13) (by rfl) T.b5g T.a5z) (a1i _)))).pt
   (a0k (a0s c5h))
   a1h)
   (a0i (a4o (pw_and (a3m (b1o a4j PySem.F.plainAttrs_str PySem.F.slot_str_startswith PySem.F.type_str_startswith b9z (pvF 0) (a0g a0m a0h))) (pw_and1 (a0t (c1y hu) (pvF 0) a0m (a1i _)))).pt
   (a0k (a0s c5h))
   a1h)
   (a0k (a0s (a5i a8l (by rfl) T.d6j boot_int (a0g (pvF 0) a0h)))))),?_⟩
  rw [sl]
  walk_at "rd*"
  have e:txt (n:Int)=dg n:=if_neg (by omega)
  have f:f2o (txt (n:Int))=true:=by rw [e]; exact c0g.mpr ⟨c3k _,g5r _⟩
  have lx:x.length<=13:=by
   rw [<- a3k,hx,e]
   have a:=g1m 12 n (by omega)
   omega
  have sw:=h0n hx
  have hs:sizeLine=16777216:=sizeLine_eq
  rw [f,if_neg (by decide)]
  refine⟨by omega,?_⟩
  rw [if_neg ?_]
  ·exact⟨_,d0m hx (by omega),by omega,q⟩
  ·rintro (z | ⟨z1,z2⟩)
   ·omega
   ·rw [z1,Bool.true_and] at sw
    simp [z2] at sw
theorem h5q(x:Rat):(x.den:Int)≠0:=by
 have:=x.den_pos
 omega
theorem f7l(x y:Rat):(x.den:Int)*(y.den:Int)≠0:=Int.mul_ne_zero (h5q x) (h5q y)
theorem h8m (T : Tx K mg A) : a1g P A.wd K mg base CX0 3 A.f0h A.d5j ["one", "other"] h0c := by
 have b8j:a1g P A.wd K mg base CX0 2 _ _ _ _:=c7r T
 refine T.g0e.ok h7m (fun vs H Q E h=>?_) (fun cdv A' outer s H vs Q E hr h=>?_)
 ·obtain⟨_,_,rfl,_⟩:=f2q (by unfold h0c at h; exact h)
  rfl
 ·obtain⟨p,q,rfl,⟨x,y,⟨hp,hq,b1,b2,b3,b4⟩,k⟩⟩:=f2q (by unfold h0c at h; exact h)
  have hu:=hr.units
  have b2m:a1y 2 _:=hr.mono (by decide)
  unfold c8g at hp hq
  refine⟨_,(a0k (a0s (a0l b8j b2m (by rfl) T.d0u T.b3k.kp T.d0t .nil a0w (a0g (a4u a7l (a4u b9g (a0r a3z (pvF 0) a0j (fun _ _=>rfl)) (a0r a3z (pvF 1) a0j (fun _ _=>rfl))) (a4u b9g (a0r a3z (pvF 1) a0j (fun _ _=>rfl)) (a0r a3z (pvF 0) a0j (fun _ _=>rfl)))) (a0g (a4u b9g (a0r a3z (pvF 0) a0j (fun _ _=>rfl)) (a0r a3z (pvF 1) a0j (fun _ _=>rfl))) a0h))))),?_⟩
  walk_at "rd*"
  refine ⟨by walk_at "mul", by walk_at "mul", by walk_at "mul", f7l x y, by walk_at "le", by walk_at "le", ?_⟩
  rw [g4k]
  exact k
theorem h8n (T : Tx K mg A) : a1g P A.wd K mg base CX0 3 A.d1s A.d0r ["one", "other"] h0d := by
 have b8j:a1g P A.wd K mg base CX0 2 _ _ _ _:=c7r T
 refine T.d5w.ok h3i (fun vs H Q E h=>?_) (fun cdv A' outer s H vs Q E hr h=>?_)
 ·obtain⟨_,_,rfl,_⟩:=f2q (by unfold h0d at h; exact h)
  rfl
 ·obtain⟨p,q,rfl,⟨x,y,⟨hp,hq,b1,b2,b3,b4⟩,k⟩⟩:=f2q (by unfold h0d at h; exact h)
  have hu:=hr.units
  have b2m:a1y 2 _:=hr.mono (by decide)
  unfold c8g at hp hq
  refine⟨_,(a0k (a0s (a0l b8j b2m (by rfl) T.d0u T.b3k.kp T.d0t .nil a0w (a0g (a4u b9g (a0r a3z (pvF 0) a0j (fun _ _=>rfl)) (a0r a3z (pvF 1) a0j (fun _ _=>rfl))) (a0g (a4u b9g (a0r a3z (pvF 0) a0j (fun _ _=>rfl)) (a0r a3z (pvF 1) a0j (fun _ _=>rfl))) a0h))))),?_⟩
  walk_at "rd*"
  refine ⟨by walk_at "mul", by walk_at "mul", f7l x y, by walk_at "le", by walk_at "le", ?_⟩
  rw [g0p]
  exact k
theorem h0o (T : Tx K mg A) : a1g P A.wd K mg base CX0 1 A.c2j A.c0o ["one"] h0e := by
 refine T.c5s.ok g6f (fun vs H Q E h=>?_) (fun cdv A' outer s H vs Q E hr h=>?_)
 ·obtain⟨_,rfl,_⟩:=c0m (by unfold h0e at h; exact h)
  rfl
 ·obtain⟨p,rfl,⟨x,hp,k⟩⟩:=c0m (by unfold h0e at h; exact h)
  have hu:=hr.units
  unfold c8g at hp
  refine⟨_,(a0k (a0s (c1z (a0g (a0y c2g (by rfl) T.g2k boot_abs (a0g (a0r a3z (pvF 0) a0j (fun _ _=>rfl)) a0h)) (a0g (a0r a3z (pvF 0) a0j (fun _ _=>rfl)) a0h))))),?_⟩
  walk_at "rd*"
  intro b H1 n1 S1 h1
  refine k _ _ ⟨b,rfl,n1,S1,?_⟩
  rw [h1]
  unfold c8g
  rw [f7k,f1t]
theorem g4o (T : Tx K mg A) : a1g P A.wd K mg base CX0 1 A.b5r A.b5s ["one", "other"] g2r := by
 refine T.c0q.ok g1w (fun vs H Q E h=>?_) (fun cdv A' outer s H vs Q E hr h=>?_)
 ·obtain⟨_,_,rfl,_⟩:=f2q (by unfold g2r at h; exact h)
  rfl
 ·obtain⟨p,q,rfl,⟨x,y,⟨hp,hq,b1,b2,b3,b4⟩,k⟩⟩:=f2q (by unfold g2r at h; exact h)
  have hu:=hr.units
  unfold c8g at hp hq
  refine⟨_,(a0k (a0s (b3y of_lt (a4u b9g (a0r a3z (pvF 0) a0j (fun _ _=>rfl)) (a0r a3z (pvF 1) a0j (fun _ _=>rfl))) (a4u b9g (a0r a3z (pvF 1) a0j (fun _ _=>rfl)) (a0r a3z (pvF 0) a0j (fun _ _=>rfl))) (a1i _)))),?_⟩
  walk_at "rd*"
  exact ⟨by walk_at "mul", by walk_at "mul"⟩
theorem i3f{p q:Int}(h:1<=q)(g:Int.gcd p q=1):∃ y:Rat,y.num=p/\(y.den:Int)=q:=by
 refine⟨⟨p,q.toNat,by omega,?_⟩,rfl,?_⟩
 ·show Nat.gcd p.natAbs q.toNat=1
  rw [show q.toNat=q.natAbs by omega]
  exact g
 ·show ((q.toNat:Nat):Int)=q
  omega
theorem g0q{x y:Rat}{a b c d:Nat}(h1:intBits x.num<=a)(h2:intBits (x.den:Int)<=b)(h3:intBits y.num<=c)(h4:intBits (y.den:Int)<=d):intBits (x*y).num<=a+c/\intBits ((x*y).den:Int)<=b+d:=by
 rw [<- g0p]
 have ne:(x.den:Int)*(y.den:Int)≠0:=f7l x y
 exact⟨g4l ne (intBits_mul_le h1 h3),g4m ne (intBits_mul_le h2 h4)⟩
theorem g6t{x y:Rat}{a:Nat}(h1:intBits x.num<=a)(h2:intBits (x.den:Int)<=a)(h3:intBits y.num<=a)(h4:intBits (y.den:Int)<=a):intBits (x+y).num<=a+a+1/\intBits ((x+y).den:Int)<=a+a:=by
 rw [<- g4k]
 have ne:(x.den:Int)*(y.den:Int)≠0:=f7l x y
 refine⟨g4l ne ?_,g4m ne (intBits_mul_le h2 h4)⟩
 have:=intBits_add_le (intBits_mul_le h1 h4) (intBits_mul_le h3 h2)
 omega
theorem g4g.rts{l:Addr}{H:Hp}{qs:List Addr}{ss:List Rat}(h:g4g l H qs ss):Rts H qs ss:=⟨h.1,fun i q s e1 e2=>(h.2 i q s e1 e2).2⟩
theorem Rts.same{H H':Hp}{qs:List Addr}{ss:List Rat}(h:Rts H qs ss)(S:Same H H'):Rts H' qs ss:=⟨h.1,fun i q s e1 e2=>S _ _ (h.2 i q s e1 e2)⟩
theorem Rts.d4n{o:Addr}{H H':Hp}{qs:List Addr}{ss:List Rat}{C dx:Addr}{fs:List (Str×V)}(h:Rts H qs ss)(ho:H o=some (.ins C dx fs))(S:b3v o H H'):Rts H' qs ss :=
 ⟨h.1,fun i q s e1 e2=>S _ _ (fun z=>by have:=h.2 i q s e1 e2; rw [z,ho] at this; cases this) (h.2 i q s e1 e2)⟩
theorem g4g.d4n{l:Addr}{H H':Hp}{qs:List Addr}{ss:List Rat}(h:g4g l H qs ss)(S:b3v l H H'):g4g l H' qs ss:=⟨h.1,fun i q s e1 e2=>⟨(h.2 i q s e1 e2).1,S _ _ (h.2 i q s e1 e2).1 (h.2 i q s e1 e2).2⟩⟩
theorem g4g.same{l:Addr}{H H':Hp}{qs:List Addr}{ss:List Rat}(h:g4g l H qs ss)(S:Same H H'):g4g l H' qs ss:=h.d4n fun b o _ e=>S b o e
theorem g4g.nil{l:Addr}{H:Hp}:g4g l H [] []:=⟨rfl,fun i q s e=>by simp at e⟩
theorem g4g.snoc{l:Addr}{H:Hp}{qs:List Addr}{ss:List Rat}{q:Addr}{s:Rat}(h:g4g l H qs ss)(hl:q≠l)(hq:H q=some (.tup (c8g s))):g4g l H (qs++[q]) (ss++[s]):=by
 refine⟨by rw [List.length_append,List.length_append,h.1]; rfl,fun i q' s' e1 e2=>?_⟩
 by_cases hi:i < qs.length
 ·rw [List.getElem?_append_left hi] at e1
  rw [List.getElem?_append_left (by rw [<- h.1]; exact hi)] at e2
  exact h.2 i q' s' e1 e2
 ·rw [List.getElem?_append_right (by omega)] at e1
  rw [List.getElem?_append_right (by rw [<- h.1]; omega)] at e2
  rw [<- h.1] at e2
  cases hz:i - qs.length with
  | zero =>
   rw [hz] at e1 e2
   simp at e1 e2
   subst e1 e2
   exact⟨hl,hq⟩
  | succ n =>
   rw [hz] at e1
   simp at e1
theorem Rts.get{H:Hp}{qs:List Addr}{ss:List Rat}(h:Rts H qs ss){i:Nat}{v:V}(e:(qs.map V.ref)[i]? = some v):∃ q s,v = .ref q/\ss[i]? = some s/\H q=some (.tup (c8g s)):=by
 rw [List.getElem?_map] at e
 obtain⟨q,hq,rfl⟩:=Option.map_eq_some_iff.mp e
 have hi:i < qs.length:=(List.getElem?_eq_some_iff.mp hq).1
 have hr : ss[i]? = some (ss[i]'(by rw [<- h.1]; exact hi)) := List.getElem?_eq_getElem _
 exact⟨q,_,rfl,hr,h.2 i q _ hq hr⟩
theorem Crn.same{H H':Hp}{ps:List Addr}{cs:List (Int×Rat)}(h:Crn H ps cs)(S:Same H H'):Crn H' ps cs:=⟨h.1,fun i p c e1 e2=>(h.2 i p c e1 e2).elim fun g z=>⟨g,S _ _ z.1,S _ _ z.2⟩⟩
theorem Crn.d4n{o:Addr}{H H':Hp}{ps:List Addr}{cs:List (Int×Rat)}{C dx:Addr}{fs:List (Str×V)}(h:Crn H ps cs)(ho:H o=some (.ins C dx fs))(S:b3v o H H'):Crn H' ps cs :=
 ⟨h.1,fun i p c e1 e2=>(h.2 i p c e1 e2).elim fun g z=>⟨g,S _ _ (fun e=>by have:=z.1; rw [e,ho] at this; cases this) z.1,S _ _ (fun e=>by have:=z.2; rw [e,ho] at this; cases this) z.2⟩⟩
theorem Crn.get{H:Hp}{ps:List Addr}{cs:List (Int×Rat)}(h:Crn H ps cs){i:Nat}{v:V}(e:(ps.map V.ref)[i]? = some v):∃ p c g,v = .ref p/\cs[i]? = some c/\H p=some (.tup [.int c.1,.ref g])/\H g=some (.tup (c8g c.2)):=by
 rw [List.getElem?_map] at e
 obtain⟨p,hp,rfl⟩:=Option.map_eq_some_iff.mp e
 have hi:i < ps.length:=(List.getElem?_eq_some_iff.mp hp).1
 have hr : cs[i]? = some (cs[i]'(by rw [<- h.1]; exact hi)) := List.getElem?_eq_getElem _
 obtain⟨g,h1,h2⟩:=h.2 i p _ hp hr
 exact⟨p,_,g,rfl,hr,h1,h2⟩
theorem g0r(bs:List Int)(b:Int):g7i (bs++[b])=(Int.lcm (g7i bs) b:Int):=by
 unfold g7i
 rw [List.foldl_append]
 rfl
theorem i7n{α:Type}{p:List α->Prop}(h0:p [])(hs:∀ l x,p l->p (l++[x]))(l:List α):p l:=by
 have:∀ l:List α,p l.reverse:=fun l=>by
  induction l with
  | nil=>exact h0
  | cons x l ih=>rw [List.reverse_cons]; exact hs _ _ ih
 have z:=this l.reverse
 rwa [List.reverse_reverse] at z
theorem h0p{a b:Int}{m n:Nat}(h:¬ (a=0/\b=0))(ha:intBits a<=m)(hb:intBits b<=n):intBits (Int.lcm a b:Int)<=m+n:=by
 refine intBits_le_of_natAbs ?_ (intBits_mul_le ha hb)
 have hp:0 < Int.gcd a b:=by
  rw [Int.gcd_pos_iff]
  omega
 rw [Int.natAbs_natCast,Int.natAbs_mul,<- Int.gcd_mul_lcm]
 exact Nat.le_mul_of_pos_left _ hp
theorem h0q(bs:List Int):(∀ b∈bs,1<=b/\intBits b<=64)->1<=g7i bs/\(∀ b∈bs,b∣g7i bs)/\intBits (g7i bs)<=1+64*bs.length:=by
 induction bs using i7n with
 | h0=>exact fun _=>⟨by decide,(fun b hb=>by cases hb),by decide⟩
 | hs l x ih =>
  intro h
  have i:=ih fun b hb=>h b (List.mem_append_left _ hb)
  have hx:=h x (List.mem_append_right _ (List.mem_singleton.mpr rfl))
  rw [g0r,List.length_append,List.length_singleton]
  have lp:0 < Int.lcm (g7i l) x:=Int.lcm_pos (by omega) (by omega)
  refine⟨by omega,fun b hb=>?_,Nat.le_trans (h0p (by omega) i.2.2 hx.2) (by omega)⟩
  rcases List.mem_append.mp hb with e | e
  ·exact Int.dvd_trans (i.2.1 b e) (Int.dvd_lcm_left _ _)
  ·rw [List.mem_singleton.mp e]
   exact Int.dvd_lcm_right _ _
theorem h0r (T : Tx K mg A) : a1g P A.wd K mg base CX0 3 A.a5s A.a6n ["bottoms"] f7g := by
 have g6u:a1g P A.wd K mg base CX0 2 _ _ _ _:=g2y T
 refine T.a9q.ok b1u (fun vs H Q E h=>?_) (fun cdv A' outer s H vs Q E hr h=>?_)
 ·obtain⟨_,rfl,_⟩:=c0m (by unfold f7g at h; exact h)
  rfl
 ·obtain⟨p,rfl,⟨bs,hp,O,L,q⟩⟩:=c0m (by unfold f7g at h; exact h)
  have hu:=hr.units
  have g3a:a1y 2 _:=hr.mono (by decide)
  refine⟨_,(a0i (a0z (i:=1) b1u.nd rfl (Or.inl rfl) a0j)
   (a0i (b8z PassesOwn.never rfl (b8k (pvF 0)) (a4y (i:=2) b1u.nd rfl (Or.inl rfl))
   (a0k (a0z (i:=1) b1u.nd rfl (Or.inl rfl) (a0l g6u g3a (by rfl) T.g6h T.c5r.kp T.g6g .nil a0w (a0g (pvF 1) (a0g (pvF 2) a0h))))))
   (a0k (a0s (pvF 1))))),?_⟩
  walk_at "rd"
  refine⟨⟨_,SqL.of hp⟩,?_⟩
  obtain⟨Pv,pin,pout⟩:=f8w (fun i σ H'=>∃ (v2:Option V),σ = [some (.ref p),some (.int (g7i (bs.take i))),v2]/\H'=H)
  refine c5j (xs:=bs.map V.int) Pv (pin _ _ _ ⟨_,rfl,rfl⟩) ?_ ?_ ?_
  ·intro i σ H2 hi hp'
   obtain⟨v2,rfl,rfl⟩:=pout _ _ _ hp'
   exact SqL.of hp
  ·intro i v σ H2 hv hp'
   obtain⟨v2,rfl,rfl⟩:=pout _ _ _ hp'
   rw [List.getElem?_map] at hv
   obtain⟨b,hb,rfl⟩:=Option.map_eq_some_iff.mp hv
   have Ob:=O b (List.mem_of_getElem? hb)
   have lk:=h0q (bs.take i) fun b hb=>O b (List.mem_of_mem_take hb)
   have hl:(bs.take i).length<=24:=by rw [List.length_take]; omega
   have et:bs.take (i+1)=bs.take i++[b]:=by rw [List.take_add_one,hb]; rfl
   walk_at "rd"
   refine⟨by omega,by omega,pin _ _ _ ⟨some (.int b),?_,rfl⟩⟩
   rw [et,g0r]
  ·intro σ H2 hp'
   obtain⟨v2,rfl,rfl⟩:=pout _ _ _ hp'
   rw [List.length_map,List.take_of_length_le (Nat.le_refl _)]
   walk_at "rd"
   exact q
theorem h3w (T : Tx K mg A) : a1g P A.wd K mg base CX0 1 A.f0i A.d5k ["one", "bottom"] g2s := by
 refine T.f4j.ok h7n (fun vs H Q E h=>?_) (fun cdv A' outer s H vs Q E hr h=>?_)
 ·obtain⟨_,_,rfl,_⟩:=f9p (by unfold g2s at h; exact h)
  rfl
 ·obtain⟨p,S,rfl,⟨y,hp,b1,b2,b3,q⟩⟩:=f9p (by unfold g2s at h; exact h)
  have hu:=hr.units
  unfold c8g at hp
  have dp:=y.den_pos
  refine⟨_,(a0k (a0s (a4u b9g (a0r a3z (pvF 0) a0j (fun _ _=>rfl)) (a4u c8l (pvF 1) (a0r a3z (pvF 0) a0j (fun _ _=>rfl)))))),?_⟩
  walk_at "rd*"
  exact⟨⟨by omega,by omega⟩,IntMulOk.of_le b1 (intBits_fdiv_le b3) (by decide)⟩
theorem h8o(a:Rat):a*((a.den:Int):Rat)=(a.num:Rat):=by
 have h:((a.den:Int):Rat)≠0:=fun e=>by
  have:=Rat.intCast_inj.mp (e.trans (by rfl:(0:Rat)=((0:Int):Rat)))
  have:=a.den_pos
  omega
 conv=>lhs; lhs; rw [<- Rat.num_divInt_den a]
 rw [Rat.divInt_eq_div,Rat.div_def,Rat.mul_assoc,Rat.inv_mul_cancel _ h,Rat.mul_one]
theorem i3g{iv:Rat}{n:Int}(h1:iv.num=1)(h2:(iv.den:Int)=n)(x:Rat):x*iv*(n:Rat)=x:=by
 rw [<- h2,Rat.mul_assoc,h8o,h1]
 exact Rat.mul_one x
theorem h0s (T : Tx K mg A) : a1g P A.wd K mg base CX0 4 A.b2h A.b3g ["corners"] f7h := by
 have i3h:a1g P A.wd K mg base CX0 3 _ _ _ _:=h8m T
 have h0t:a1g P A.wd K mg base CX0 3 _ _ _ _:=h8n T
 refine T.c2n.ok b8t (fun vs H Q E h=>?_) (fun cdv A' outer s H vs Q E hr h=>?_)
 ·obtain⟨_,rfl,_⟩:=c0m (by unfold f7h at h; exact h)
  rfl
 ·obtain⟨ct,rfl,⟨ps,cs,hct,R,O,L1,L12,k⟩⟩:=c0m (by unfold f7h at h; exact h)
  have hu:=hr.units
  have h8p:a1y 3 _:=hr.mono (by decide)
  have g4p:a1y 3 _:=hr.mono (by decide)
  have pl:=R.1
  refine⟨_,(a0i (a0z (i:=1) b8t.nd rfl (Or.inl rfl) (a8v a0h))
   (a0i (b8z PassesOwn.never rfl (g3t (by rfl) T.h3k (a0g (pvF 0) (a0g (a2g i6r (pvF 0) (a2h a0j) a4g) a0h))) (d9k (n:=2) rfl (a8n (a4y (i:=2) b8t.nd rfl (Or.inl rfl)) (a8n (a4y (i:=3) b8t.nd rfl (Or.inl rfl)) d2y)))
   (a0i (a0z (i:=4) b8t.nd rfl (Or.inl rfl) (a0l i3h h8p (by rfl) T.i2q T.g0e.kp T.i2p .nil a0w (a0g (a0r a3z (pvF 3) a0j (fun _ _=>rfl)) (a0g (a0l h0t g4p (by rfl) T.g9m T.d5w.kp T.g9l .nil a0w (a0g (c1z (a0g (h5x g8j a0j) (a0g a0j a0h))) (a0g (a0r a3z (pvF 2) a0j (fun _ _=>rfl)) a0h))) a0h))))
   (a0k (b1y (b1o f5p PySem.F.plainAttrs_list PySem.F.slot_list_append PySem.F.type_list_append d4w (pvF 1) (a0g (a0l h0t g4p (by rfl) T.g9m T.d5w.kp T.g9l .nil a0w (a0g (pvF 4) (a0g (c1z (a0g a0j (a0g (a4u h4o (a0r a3z (pvF 3) a0j (fun _ _=>rfl)) (a0r a3z (pvF 2) a0j (fun _ _=>rfl))) a0h))) a0h))) a0h))))))
   (a0i (b1y (b1o f5p PySem.F.plainAttrs_list PySem.F.slot_list_append PySem.F.type_list_append d4w (pvF 1) (a0g (c1z (a0g a0j (a0g a0j a0h))) a0h)))
   (a0k (a0s (pvF 1)))))),?_⟩
  walk_at "rd"
  refine⟨Nat.zero_le _,fun l H1 n1 S1 h1=>?_⟩
  have i9j:=S1 _ _ hct
  walk_at "rd*"
  refine⟨fun z=>?_,fun c2 H2 n2 S2 h2=>?_⟩
  ·have:=z.1
   rw [show (some (1:Int))=some ((1:Nat):Int) from rfl,HT.g8c] at this
   omega
  have e2:d0z (ps.map V.ref) (some 1) none=(ps.drop 1).map V.ref:=by
   show f5q (ps.map V.ref) (some ((1:Nat):Int)) none=_
   rw [b1p,List.map_drop]
  rw [e2] at h2
  have i3i:=S2 _ _ i9j
  have h12:=S2 _ _ h1
  clear i9j h1
  walk_at "rd*"
  obtain⟨Pv,pin,pout⟩:=f8w (fun i σ H'=>∃ (v2 v3 v4:Option V) (qs:List Addr) (ss:List Rat),σ = [some (.ref ct),some (.ref l),v2,v3,v4]/\Same H H'/\H' c2=some (.tup ((ps.drop 1).map V.ref))/\H' l=some (.lst (qs.map V.ref))/\g4g l H' qs ss/\ss.length=i/\(∀ s∈ss,intBits s.num<=60/\intBits (s.den:Int)<=60)/\∀ j s,ss[j]? = some s->SlR cs j s)
  refine f5t (xs:=ps.map V.ref) (ys:=(ps.drop 1).map V.ref) Pv (pin _ _ _ ⟨_,_,_,[],[],rfl,S1.trans S2,h2,h12,.nil,rfl,(fun s hs=>by cases hs),(fun j s e=>by simp at e)⟩) ?_ ?_ ?_
  ·intro i σ H3 hp
   obtain⟨v2,v3,v4,qs,ss,rfl,S3,h3,hl3,R3,L3,B3,V3⟩:=pout _ _ _ hp
   exact⟨SqT.of (S3 _ _ hct),SqT.of h3⟩
  ·intro i x y σ H3 p H4 hx hy hp np S4 h4
   obtain⟨v2,v3,v4,qs,ss,rfl,S3,h3,hl3,R3,L3,B3,V3⟩:=pout _ _ _ hp
   obtain⟨pc,c,g,rfl,hc,hpc,hg⟩:=R.get hx
   have hy':(ps.map V.ref)[i+1]? = some y:=by
    rw [List.map_drop,List.getElem?_drop] at hy
    rwa [Nat.add_comm] at hy
   obtain⟨pd,d,gd,rfl,hd,hpd,hgd⟩:=R.get hy'
   have Oc:=O.1 c (List.mem_of_getElem? hc)
   have Od:=O.1 d (List.mem_of_getElem? hd)
   have lt:=O.2 i c d hc hd
   have S04:=S3.trans S4
   have hpc4:=S04 _ _ hpc
   have hpd4:=S04 _ _ hpd
   clear i3i h12 h2
   walk_at "rd*"
   refine fun m H5 n5 S5 h5=>?_
   have S05:=S04.trans S5
   have hpc5:=S05 _ _ hpc
   clear hpc4
   walk_at "rd*"
   refine⟨-1,c.2,⟨h5,S05 _ _ hg,by decide,by decide,by omega,by omega⟩,?_⟩
   rintro _ H6 ⟨t6,rfl,n6,S6,h6⟩
   have S06:=S05.trans S6
   have m1:=g0q (x := -1) (y:=c.2) (a:=1) (b:=1) (by decide) (by decide) Oc.2.2.1 Oc.2.2.2
   walk_at "rd"
   refine⟨d.2,-1*c.2,⟨S06 _ _ hgd,h6,by omega,by omega,by omega,by omega⟩,?_⟩
   rintro _ H7 ⟨t7,rfl,n7,S7,h7⟩
   have S07:=S06.trans S7
   have m2:=g6t (x:=d.2) (y := -1*c.2) (a:=11) (by omega) (by omega) (by omega) (by omega)
   have hpc7:=S07 _ _ hpc
   have hpd7:=S07 _ _ hpd
   have hl7:=S7 _ _ (S6 _ _ (S5 _ _ (S4 _ _ hl3)))
   clear hpd4 hpc5 h5 h4
   walk_at "rd*"
   refine fun u H8 n8 S8 h8=>?_
   obtain⟨iv,in1,in2⟩:=i3f (p:=1) (q:=d.1 - c.1) (by omega) (by rw [Int.gcd_one_left])
   have h8':H8 u=some (.tup (c8g iv)):=by rw [h8,<- in1,<- in2]; rfl
   have b1:intBits iv.num<=1:=by rw [in1]; decide
   have b2:intBits (iv.den:Int)<=20:=by rw [in2]; exact intBits_le_iff.mpr (Nat.lt_of_le_of_lt (by omega:(d.1 - c.1).natAbs<=200000) (by decide))
   have m3:=g0q (x:=d.2 + -1*c.2) (y:=iv) m2.1 m2.2 b1 b2
   walk_at "rd"
   refine⟨d.2 + -1*c.2,iv,⟨S8 _ _ h7,h8',by omega,by omega,by omega,by omega⟩,?_⟩
   rintro _ H9 ⟨t9,rfl,n9,S9,h9⟩
   have S79:=S8.trans S9
   have hl9:=S79 _ _ hl7
   have tl:t9≠l:=fun e=>by rw [e,S8 _ _ hl7] at n9; cases n9
   have ql:=R3.1
   have hc2l:c2≠l:=fun e=>by rw [e,hl3] at h3; cases h3
   clear hpc7 hpd7 h8
   walk_at "rd*"
   refine⟨by rw [sizeLine_eq]; have:=(List.getElem?_eq_some_iff.mp hc).1; omega,?_⟩
   rintro _ H10 ⟨rfl,B10,h10⟩
   have S39:Same H3 H9:=S4.trans (S5.trans (S6.trans (S7.trans S79)))
   refine pin _ _ _ ⟨_,_,_,qs++[t9],ss++[(d.2 + -1*c.2)*iv],rfl,(S3.trans S39).step n1 B10,B10 _ _ hc2l (S39 _ _ h3),by rw [h10,List.map_append]; rfl,((R3.same S39).snoc tl h9).d4n B10,by rw [List.length_append,L3]; rfl,fun s hs=>?_,fun j s e=>?_⟩
   ·rcases List.mem_append.mp hs with z | z
    ·exact B3 s z
    ·rw [List.mem_singleton.mp z]
     omega
   ·rcases Nat.lt_or_ge j ss.length with hj | hj
    ·rw [List.getElem?_append_left hj] at e
     exact V3 j s e
    ·rw [List.getElem?_append_right hj] at e
     have hj0:j - ss.length=0:=by
      rcases Nat.eq_zero_or_pos (j - ss.length) with z | z
      ·exact z
      ·rw [List.getElem?_eq_none (by rw [List.length_singleton]; omega)] at e
       cases e
     rw [hj0] at e
     cases e
     have ji:j=i:=by omega
     subst ji
     intro c' d' hc' hd'
     rw [hc] at hc'
     rw [hd] at hd'
     cases hc'
     cases hd'
     rw [i3g in1 in2]
     rw [Rat.sub_eq_add_neg,Rat.neg_mul,Rat.one_mul]
  ·intro σ H3 hp
   obtain⟨v2,v3,v4,qs,ss,rfl,S3,h3,hl3,R3,L3,B3,V3⟩:=pout _ _ _ hp
   have ql:=R3.1
   rw [List.length_map,List.length_map,List.length_drop] at L3
   clear i3i h12 h2
   walk_at "rd*"
   refine fun u H4 n4 S4 h4=>?_
   have hl4:=S4 _ _ hl3
   have ul:u≠l:=fun e=>by rw [e,hl3] at n4; cases n4
   have h4':H4 u=some (.tup (c8g 0)):=h4
   walk_at "rd*"
   refine⟨by rw [sizeLine_eq]; omega,?_⟩
   rintro _ H5 ⟨rfl,B5,h5⟩
   walk_at "rd"
   refine k l H5 (qs++[u]) (ss++[0]) n1 ((S3.trans S4).step n1 B5) (by rw [h5,List.map_append]; rfl) (((R3.same S4).snoc ul h4').d4n B5).rts (by rw [List.length_append,List.length_singleton]; omega) (fun s hs=>?_) (fun j s e=>?_) ?_
   ·rcases List.mem_append.mp hs with z | z
    ·exact B3 s z
    ·rw [List.mem_singleton.mp z]
     exact⟨by decide,by decide⟩
   ·rcases Nat.lt_or_ge j ss.length with hj | hj
    ·rw [List.getElem?_append_left hj] at e
     exact V3 j s e
    ·intro c' d' hc' hd'
     have:=(List.getElem?_eq_some_iff.mp hd').1
     omega
   ·rw [List.getElem?_append_right (by omega),show cs.length - 1 - ss.length=0 by omega]
    rfl
theorem d8i(n:Int)(m:Nat):(h0f n m).length=m+1:=by unfold h0f; simp
theorem f7m{n:Int}{m i:Nat}(h:i < m+1):(h0f n m).getD i 0=n ^ i:=by
 unfold h0f
 rw [List.getD_eq_getElem?_getD,List.getElem?_map,List.getElem?_range h]
 rfl
theorem f7n{n:Int}(h:intBits n<=10):∀ j:Nat,intBits (n ^ j)<=1+10*j
 | 0=>by rw [Int.pow_zero]; decide
 | j+1=>by
  rw [Int.pow_succ]
  exact Nat.le_trans (intBits_mul_le (f7n h j) h) (by omega)
theorem i3j (T : Tx K mg A) : a1g P A.wd K mg base CX0 1 A.b2g A.b2s ["number", "most"] h8a := by
 refine T.b6y.ok c8t (fun vs H Q E h=>?_) (fun cdv A' outer s H vs Q E hr h=>?_)
 ·obtain⟨_,_,rfl,_⟩:=f2p (by unfold h8a at h; exact h)
  rfl
 ·obtain⟨n,t,rfl,⟨m,e,hm,hb,k⟩⟩:=f2p (by unfold h8a at h; exact h)
  subst e
  have hu:=hr.units
  refine⟨_,(a0i (a0z (i:=2) c8t.nd rfl (Or.inl rfl) (a8v (a0g a0j a0h)))
   (a0i (b8z PassesOwn.never rfl (d4t (by rfl) T.g2l (a0g (pvF 1) a0h)) (a4y (i:=3) c8t.nd rfl (Or.inl rfl))
   (a0k (b1y (b1o f5p PySem.F.plainAttrs_list PySem.F.slot_list_append PySem.F.type_list_append d4w (pvF 2) (a0g (a4u b9g (a0r a3z (pvF 2) (pvF 3) (fun _ _=>rfl)) (pvF 0)) a0h)))))
   (a0k (a0s (pvF 2))))),?_⟩
  walk_at "rd"
  refine⟨by decide,?_⟩
  intro l H1 n1 S1 h1
  walk_at "rd*"
  refine⟨by omega,by omega,?_⟩
  rw [Int.toNat_natCast]
  obtain⟨Pv,pin,pout⟩:=f8w (fun i σ H'=>∃ v3:Option V,σ = [some (.int n),some (.int m),some (.ref l),v3]/\Same H H'/\H' l=some (.lst ((h0f n i).map V.int)))
  refine g5o (lo:=0) Pv (pin _ _ _ ⟨_,rfl,S1,by rw [h1]; show _=some (HO.lst [V.int (n ^ 0)]); rw [Int.pow_zero]⟩) ?_ ?_
  ·intro i σ H2 hi hp
   obtain⟨v3,rfl,S2,h2⟩:=pout _ _ _ hp
   have e1:=h2r (ns:=h0f n i) (i:=i) (by rw [d8i]; omega)
   rw [f7m (by omega)] at e1
   have pl:=d8i n i
   clear h1 hp
   walk_at "rd*"
   refine⟨IntMulOk.of_right (Nat.le_trans hb (by decide)),by rw [sizeLine_eq]; omega,?_⟩
   rintro _ H3 ⟨rfl,B3,h3⟩
   refine pin _ _ _ ⟨_,rfl,S2.step n1 B3,?_⟩
   rw [h3]
   unfold h0f
   rw [List.range_succ (n:=i+1),List.map_append,List.map_append]
   show _=some (HO.lst (_++[V.int (n ^ (i+1))]))
   rw [Int.pow_succ]
  ·intro σ H2 hp
   obtain⟨v3,rfl,S2,h2⟩:=pout _ _ _ hp
   walk_at "rd"
   exact k _ _ ⟨l,rfl,n1,S2,h2⟩
theorem g4q (T : Tx K mg A) : a1g P A.wd K mg base CX0 2 A.b5v A.b2t ["self", "gain", "many", "turns"] (g2t A.b8w) := by
 have f1w:a1g P A.wd K mg base CX0 1 _ _ _ _:=i3j T
 have b9i:=T.b9i
 have a5m:=T.a5m
 have a5n:=T.a5n
 have a4n:=T.a4n
 have a3n:=T.a3n
 have a1j:=T.a1j
 refine T.c7h.ok c8u (fun vs H Q E h=>?_) (fun cdv A' outer s H vs Q E hr h=>?_)
 ·obtain⟨_,_,_,_,rfl,_⟩:=g9f (by unfold g2t at h; exact h)
  rfl
 ·obtain⟨o,gt,n,t,rfl,⟨dx,m,tt,p,q,e1,e2,ht,bp,bq,hg,ho,k⟩⟩:=g9f (by unfold g2t at h; exact h)
  subst e1 e2
  have hu:=hr.units
  have d7r:a1y 1 _:=hr.mono (by decide)
  have gto:gt≠o:=fun e=>by rw [e,ho] at hg; cases hg
  refine⟨_,(a0i (b4h (pvF 0) (pvF 1) rfl)
   (a0i (b4h (pvF 0) (pvF 2) rfl)
   (a0i (b4h (pvF 0) (pvF 3) rfl)
   (a0i (a0z (i:=4) c8u.nd rfl (Or.inr rfl) (a0l f1w d7r (by rfl) T.f1g T.b6y.kp T.f0z .nil a0w (a0g (a0r a3z (pvF 1) a0j (fun _ _=>rfl)) (a0g (pvF 3) a0h))))
   (a0i (a0z (i:=5) c8u.nd rfl (Or.inr rfl) (a0l f1w d7r (by rfl) T.f1g T.b6y.kp T.f0z .nil a0w (a0g (a0r a3z (pvF 1) a0j (fun _ _=>rfl)) (a0g (pvF 3) a0h))))
   (a0i (b4h (pvF 0) (a5i d9j (by rfl) T.g2m boot_tuple (a0g (d8v (d4t (by rfl) T.g2l (a0g (a4u a7l (pvF 3) a0j) a0h)) (fun _ _ _ _ _ => (a4u b9g (a0r a3z (pvF 5) (pvF 0) (fun _ _ => rfl)) (a0r a3z (pvF 6) (a4u h4o (pvF 4) (pvF 0)) (fun _ _ => rfl)))) (g1g (sc := a0n d1p) (N := ["self", "gain", "many", "turns", "tops", "bottoms"]) rfl rfl (by decide +kernel)) rfl) a0h)) rfl)
   (a0k (b4h (pvF 0) (a0r a3z (pvF 5) (pvF 3) (fun _ _=>rfl)) rfl)))))))),?_⟩
  walk_at "rd*"
  intro H1 B1 h1
  walk_at "rd*"
  intro H2 B2 h2
  walk_at "rd*"
  intro H3 B3 h3
  have hg3:=B3 _ _ gto (B2 _ _ gto (B1 _ _ gto hg))
  walk_at "rd*"
  refine⟨tt,rfl,ht,?_⟩
  rintro _ H4 ⟨l4,rfl,n4,S4,h4⟩
  have hg4:=S4 _ _ hg3
  walk_at "rd*"
  refine⟨tt,rfl,ht,?_⟩
  rintro _ H5 ⟨l5,rfl,n5,S5,h5⟩
  have h45:=S5 _ _ h4
  have h35:=S5 _ _ (S4 _ _ h3)
  have pl1:=d8i p tt
  have pl2:=d8i q tt
  clear h4 hg4 hg3
  walk_at "rd*"
  refine⟨by omega,by omega,fun D H6 n6 S6 h6=>?_⟩
  rw [show ((tt:Int)+1).toNat=tt+1 by omega]
  refine g5p (fun i=>.int (i6y p q tt i)) n6 S6 h6 (by rw [sizeLine_eq]; omega) ?_ ?_
  ·intro i H' Q' hi S' q'
   have h4':=S' _ _ h45
   have h5':=S' _ _ h5
   have e1:=h2r (ns:=h0f p tt) (i:=i) (by omega)
   have e2:=h2r (ns:=h0f q tt) (i:=tt - i) (by omega)
   rw [f7m (by omega)] at e1 e2
   rw [show ((tt - i:Nat):Int)=(tt:Int) - (i:Int) by omega] at e2
   clear h45 h35 h5 hg ho h1 h2 h3 pl1 pl2
   walk_at "rd*"
   exact⟨IntMulOk.of_le (f7n bp i) (f7n bq (tt - i)) (by omega),q'⟩
  intro H7 S7 h7
  have e7:(List.range (tt+1)).map (fun i=>V.int (i6y p q tt i))=(i2x p q tt).map V.int:=by
   unfold i2x
   rw [List.map_map]
   rfl
  rw [e7] at h7
  walk_at "rd*"
  intro fa H8 n8 S8 h8
  have h38:=S8 _ _ (S7 _ _ h35)
  have h58:=S8 _ _ (S7 _ _ h5)
  have e2:=h2r (ns:=h0f q tt) (i:=tt) (by omega)
  rw [f7m (by omega)] at e2
  clear h45 h35 h5 h7 e7
  walk_at "rd*"
  intro H9 B9 h9
  have l5o:l5≠o:=fun e=>by
   rw [e,h38] at h58
   cases h58
  have h59:=B9 _ _ l5o h58
  clear h38 h58
  walk_at "rd*"
  intro H10 B10 h10
  have S38:Same H3 H8:=S4.trans (S5.trans (S7.trans S8))
  have fao:fa≠o:=fun e=>by
   have:=S38 _ _ h3
   rw [e] at h8
   rw [h8] at this
   cases this
  refine k fa H10 (fun b u hb e=>B10 _ _ hb (B9 _ _ hb (S38 _ _ (B3 _ _ hb (B2 _ _ hb (B1 _ _ hb e)))))) ?_ h10 (B10 _ _ fao (B9 _ _ fao h8))
  cases hn:H fa with
  | none=>rfl
  | some u =>
   exfalso
   have:=(S4.trans (S5.trans S7)) _ _ (B3 _ _ fao (B2 _ _ fao (B1 _ _ fao hn)))
   rw [this] at n8
   cases n8
theorem g4h.tps{l:Addr}{H:Hp}{qs:List Addr}{vs:List (List V)}(h:g4h l H qs vs):Tps H qs vs:=⟨h.1,fun i q s e1 e2=>(h.2 i q s e1 e2).2⟩
theorem Tps.same{H H':Hp}{qs:List Addr}{vs:List (List V)}(h:Tps H qs vs)(S:Same H H'):Tps H' qs vs:=⟨h.1,fun i q s e1 e2=>S _ _ (h.2 i q s e1 e2)⟩
theorem Tps.d4n{o:Addr}{H H':Hp}{qs:List Addr}{vs:List (List V)}{C dx:Addr}{fs:List (Str×V)}(h:Tps H qs vs)(ho:H o=some (.ins C dx fs))(S:b3v o H H'):Tps H' qs vs :=
 ⟨h.1,fun i q s e1 e2=>S _ _ (fun z=>by have:=h.2 i q s e1 e2; rw [z,ho] at this; cases this) (h.2 i q s e1 e2)⟩
theorem g4h.d4n{l:Addr}{H H':Hp}{qs:List Addr}{vs:List (List V)}(h:g4h l H qs vs)(S:b3v l H H'):g4h l H' qs vs:=⟨h.1,fun i q s e1 e2=>⟨(h.2 i q s e1 e2).1,S _ _ (h.2 i q s e1 e2).1 (h.2 i q s e1 e2).2⟩⟩
theorem g4h.same{l:Addr}{H H':Hp}{qs:List Addr}{vs:List (List V)}(h:g4h l H qs vs)(S:Same H H'):g4h l H' qs vs:=h.d4n fun b o _ e=>S b o e
theorem g4h.nil{l:Addr}{H:Hp}:g4h l H [] []:=⟨rfl,fun i q s e=>by simp at e⟩
theorem g4h.snoc{l:Addr}{H:Hp}{qs:List Addr}{vs:List (List V)}{q:Addr}{v:List V}(h:g4h l H qs vs)(hl:q≠l)(hq:H q=some (.tup v)):g4h l H (qs++[q]) (vs++[v]):=by
 refine⟨by rw [List.length_append,List.length_append,h.1]; rfl,fun i q' s' e1 e2=>?_⟩
 by_cases hi:i < qs.length
 ·rw [List.getElem?_append_left hi] at e1
  rw [List.getElem?_append_left (by rw [<- h.1]; exact hi)] at e2
  exact h.2 i q' s' e1 e2
 ·rw [List.getElem?_append_right (by omega)] at e1
  rw [List.getElem?_append_right (by rw [<- h.1]; omega)] at e2
  rw [<- h.1] at e2
  cases hz:i - qs.length with
  | zero =>
   rw [hz] at e1 e2
   simp at e1 e2
   subst e1 e2
   exact⟨hl,hq⟩
  | succ n =>
   rw [hz] at e1
   simp at e1
theorem h0u (T : Tx K mg A) : a1g P A.wd K mg base CX0 5 A.b3h A.b0g ["self", "corners"] (f7i A.b2l) := by
 have g3b:a1g P A.wd K mg base CX0 4 _ _ _ _:=h0s T
 have f1y:a1g P A.wd K mg base CX0 3 _ _ _ _:=h0r T
 have h5r:a1g P A.wd K mg base CX0 1 _ _ _ _:=h3w T
 have b1w:=T.b1w
 have a3g:=T.a3g
 have a3o:=T.a3o
 have a3w:=T.a3w
 refine T.c3v.ok d3s (fun vs H Q E h=>?_) (fun cdv A' outer s H vs Q E hr h=>?_)
 ·obtain⟨_,_,rfl,_⟩:=f2q (by unfold f7i at h; exact h)
  rfl
 ·obtain⟨o,l,rfl,⟨dx,ps,cs,ho,hl,R,O,L1,L12,k⟩⟩:=f2q (by unfold f7i at h; exact h)
  have hu:=hr.units
  have g0s:a1y 4 _:=hr.mono (by decide)
  have d7w:a1y 3 _:=hr.mono (by decide)
  have h0v:a1y 1 _:=hr.mono (by decide)
  have pl:=R.1
  have lo:l≠o:=fun e=>by rw [e,ho] at hl; cases hl
  refine⟨_,(a0i (b4h (pvF 0) (a5i d9j (by rfl) T.g2m boot_tuple (a0g (pvF 1) a0h)) rfl)
   (a0i (a0z (i:=2) d3s.nd rfl (Or.inl rfl) (a0l g3b g0s (by rfl) T.g2j T.c2n.kp T.g2i .nil a0w (a0g (b5i (pvF 0) rfl) a0h)))
   (a0i (b4h (pvF 0) (a0l f1y d7w (by rfl) T.f1o T.a9q.kp T.f1n .nil a0w (a0g (a4u a7l (d8v (b8k (pvF 1)) (fun _ _ _ _ _ => (a0r a3z (a0r a3z (pvF 0) a0j (fun _ _ => rfl)) a0j (fun _ _ => rfl))) (g1g (sc := a0n b8s) (N := ["self", "corners", "slopes"]) rfl rfl (by decide +kernel)) rfl) (d8v (b8k (pvF 2)) (fun _ _ _ _ _ => (a0r a3z (pvF 0) a0j (fun _ _ => rfl))) (g1g (sc := a0n b8s) (N := ["self", "corners", "slopes"]) rfl rfl (by decide +kernel)) rfl)) a0h)) rfl)
   (a0k (b4h (pvF 0) (a5i d9j (by rfl) T.g2m boot_tuple (a0g (h3f (g3t (by rfl) T.h3k (a0g (b5i (pvF 0) rfl) (a0g (pvF 2) a0h))) (fun _ _ _ _ _ => (c1z (a0g (a0r a3z (pvF 0) a0j (fun _ _ => rfl)) (a0g (a0l h5r h0v (by rfl) T.h5k T.f4j.kp T.h5j .nil a0w (a0g (a0r a3z (pvF 0) a0j (fun _ _ => rfl)) (a0g (g3u (K := K) (by rfl) (pvF 2) (by rfl)) a0h))) (a0g (a0l h5r h0v (by rfl) T.h5k T.f4j.kp T.h5j .nil a0w (a0g (pvF 1) (a0g (g3u (K := K) (by rfl) (pvF 2) (by rfl)) a0h))) a0h))))) (i1v (sc := a0n b8s) (N := ["self", "corners", "slopes"]) rfl rfl (by decide +kernel)) rfl) a0h)) rfl))))), ?_⟩
  walk_at "rd*"
  refine fun ct H1 n1 S1 h1=>?_
  have ho1:=S1 _ _ ho
  walk_at "rd*"
  refine fun H2 B2 h2=>?_
  have cto:ct≠o:=fun e=>by rw [e,ho] at n1; cases n1
  have i3i:=B2 _ _ cto h1
  have hl2:=B2 _ _ lo (S1 _ _ hl)
  have R2:=(R.same S1).d4n ho1 B2
  clear ho1 h1
  walk_at "rd*"
  refine⟨ps,rfl,cs,R2,O,L1,L12,fun l3 H3 qs ss n3 S3 h3 R3 L3 B3 V3 Z3=>?_⟩
  have hl3:=S3 _ _ hl2
  have R23:=R2.same S3
  have ho3:=S3 _ _ h2
  have i4y:=S3 _ _ i3i
  have ql:=R3.1
  clear hl2 i3i h2
  try walk_at "rd"
  refine⟨⟨_,SqL.of hl3⟩,fun D4 H4 n4 S4 h4=>?_⟩
  refine g3r (cs.map fun c=>V.int (c.2.den:Nat)) (by rw [List.length_map,List.length_map,pl]) n4 S4 h4 (SqL.of hl3) (by rw [List.length_map,pl,sizeLine_eq]; omega) ?_ ?_
  ·intro i x z H' Q' hx hz S' q'
   obtain⟨p,c,g,rfl,hc,hp,hg⟩:=R23.get hx
   rw [List.getElem?_map,hc] at hz
   cases hz
   have hp':=S' _ _ hp
   have hg':=S' _ _ hg
   unfold c8g at hg'
   clear ho3 i4y hl3 h3 h4 hp hg
   walk_at "rd*"
  intro H5 S5 h5
  have h35:=S5 _ _ h3
  try walk_at "rd"
  refine⟨⟨_,SqL.of h35⟩,fun D6 H6 n6 S6 h6=>?_⟩
  have R35:=R3.same S5
  refine g3r (ss.map fun s=>V.int (s.den:Nat)) (by rw [List.length_map,List.length_map,ql]) n6 S6 h6 (SqL.of h35) (by rw [List.length_map,ql,sizeLine_eq]; omega) ?_ ?_
  ·intro i x z H' Q' hx hz S' q'
   obtain⟨p,c,rfl,hc,hp⟩:=R35.get hx
   rw [List.getElem?_map,hc] at hz
   cases hz
   have hp':=S' _ _ hp
   unfold c8g at hp'
   clear ho3 i4y hl3 h3 h4 hp h35 h5 h6
   walk_at "rd*"
  intro H7 S7 h7
  have h57:=S7 _ _ h5
  clear h4 h6 h35
  walk_at "rd*"
  refine⟨by rw [sizeLine_eq]; omega,fun b8 H8 n8 S8 h8=>?_⟩
  have e8:cs.map (fun c=>V.int (c.2.den:Nat))++ss.map (fun s=>V.int (s.den:Nat))=((cs.map fun c=>(c.2.den:Int))++ss.map fun s=>(s.den:Int)).map V.int:=by
   rw [List.map_append,List.map_map,List.map_map]
   rfl
  rw [e8] at h8
  have S38:Same H3 H8:=S5.trans (S7.trans S8)
  have ho8:=S38 _ _ ho3
  have i9k:=S38 _ _ i4y
  have i4z:=S38 _ _ h3
  have R8:=R23.same S38
  have Q8:=R3.same S38
  have bk:∀ b∈(cs.map fun c=>(c.2.den:Int))++ss.map fun s=>(s.den:Int),1<=b/\intBits b<=64:=fun b hb=>by
   rcases List.mem_append.mp hb with z | z
   ·obtain⟨c,hc,rfl⟩:=List.mem_map.mp z
    have:=O.1 c hc
    have:=c.2.den_pos
    omega
   ·obtain⟨s,hs,rfl⟩:=List.mem_map.mp z
    have:=B3 s hs
    have:=s.den_pos
    omega
  have lk:=h0q _ bk
  have dv:=lk.2.1
  have ll:((cs.map fun c=>(c.2.den:Int))++ss.map fun s=>(s.den:Int)).length=cs.length+ss.length:=by simp
  clear h57 h7 h5 ho3 i4y hl3
  walk_at "rd"
  refine⟨_,h8,bk,by omega,?_⟩
  rw [ll] at lk
  have hSw:SwOk cs ss (g7i ((cs.map fun c=>(c.2.den:Int))++ss.map fun s=>(s.den:Int))):=⟨L3,V3,Z3,lk.1,by omega,fun c hc=>dv _ (List.mem_append_left _ (List.mem_map.mpr ⟨c,hc,rfl⟩)),fun s hs=>dv _ (List.mem_append_right _ (List.mem_map.mpr ⟨s,hs,rfl⟩)),fun s hs=>(B3 s hs).1,by omega,rfl⟩
  clear dv
  generalize g7i ((cs.map fun c=>(c.2.den:Int))++ss.map fun s=>(s.den:Int))=S at lk hSw
  clear h8
  walk_at "rd*"
  refine fun H9 B9 h9=>?_
  have i7o:=B9 _ _ cto i9k
  have l3o:l3≠o:=fun e=>by rw [e,ho8] at i4z; cases i4z
  have i9l:=B9 _ _ l3o i4z
  have R9:=R8.d4n ho8 B9
  have Q9:=Q8.d4n ho8 B9
  clear ho8 i9k i4z
  walk_at "rd*"
  refine fun D10 H10 n10 S10 h10=>?_
  refine g5v (xs:=ps.map V.ref) (ys:=qs.map V.ref) (fun i zs H'=>Same H9 H'/\H' D10=some (.lst zs)/\zs.length=i/\∃ us,zs=us.map V.ref/\g4h D10 H' us (((List.zipWith (lnOf S) cs ss).map lnV).take i)) ⟨S10,h10,rfl,[],rfl,.nil⟩ (by rw [List.length_map,pl,sizeLine_eq]; omega) ?_ ?_ ?_
  ·intro i zs H' hi ⟨S',h',zl,_⟩
   exact⟨h',SqT.of (S' _ _ i7o),SqL.of (S' _ _ i9l),zl⟩
  ·intro i x y zs H' p H'' hx hy ⟨S',h',zl,us,ez,TN⟩ np S'' h''
   obtain⟨pc,c,g,rfl,hc,hpc,hg⟩:=R9.get hx
   obtain⟨ps',s',rfl,hs',hps⟩:=Q9.get hy
   have Oc:=O.1 c (List.mem_of_getElem? hc)
   have Bs:=B3 s' (List.mem_of_getElem? hs')
   have SS:=S'.trans S''
   have i9m:=SS _ _ hpc
   have hg':=SS _ _ hg
   have ho':=SS _ _ h9
   have hD':=S'' _ _ h'
   clear i7o i9l h9 h10 hpc hg h' h''
   walk_at "rd*"
   refine⟨c.2,rfl,by omega,by omega,by omega,s',SS _ _ hps,by omega,by omega,by omega,by decide,fun u H3' n3' S3' h3'=>⟨S3' _ _ hD',fun H4' B4' h4'=>⟨(SS.trans S3').step n10 B4',h4',by rw [List.length_append,zl]; rfl,us++[u],by rw [ez,List.map_append]; rfl,?_⟩⟩⟩
   have uD:u≠D10:=fun e=>by rw [e,hD'] at n3'; cases n3'
   have et:((List.zipWith (lnOf S) cs ss).map lnV).take (i+1)=((List.zipWith (lnOf S) cs ss).map lnV).take i++[lnV (lnOf S c s')]:=by
    rw [List.take_add_one,List.getElem?_map,List.getElem?_zipWith,hc,hs']
    rfl
   rw [et]
   exact (((TN.same S'').same S3').snoc uD h3').d4n B4'
  intro zs H11 ⟨S11,h11,zl,us,ez,TN⟩
  have i9n:=S11 _ _ h9
  have i3k:=S11 _ _ i7o
  clear h10
  walk_at "rd*"
  refine fun ln H12 n12 S12 h12=>?_
  have i9o:=S12 _ _ i9n
  have i7p:=S12 _ _ i3k
  clear h11 i9n i3k
  walk_at "rd*"
  refine fun H13 B13 h13=>?_
  have el:((List.zipWith (lnOf S) cs ss).map lnV).take (min (ps.map V.ref).length (qs.map V.ref).length)=(List.zipWith (lnOf S) cs ss).map lnV:=List.take_of_length_le (by rw [List.length_map,List.length_zipWith,List.length_map,List.length_map,pl,ql]; exact Nat.le_refl _)
  rw [el] at TN
  have lno:ln≠o:=fun e=>by rw [e,i9o] at h12; cases h12
  exact k ct ln S ss us H13 (fun b u hb e=>B13 _ _ hb (S12 _ _ (S11 _ _ (B9 _ _ hb (S38 _ _ (S3 _ _ (B2 _ _ hb (S1 _ _ e)))))))) n1 h13 (B13 _ _ cto i7p) (B13 _ _ lno h12) ((TN.tps.same S12).d4n i9o B13) hSw
theorem g4r (T : Tx K mg A) : a1g P A.wd K mg base CX0 1 A.b5t A.b2o ["self", "gain"] (g2u A.c5n) := by
 have b9h:=T.b9h
 have a5l:=T.a5l
 refine T.c6z.ok f9y (fun vs H Q E h=>?_) (fun cdv A' outer s H vs Q E hr h=>?_)
 ·obtain⟨_,_,rfl,_⟩:=f2q (by unfold g2u at h; exact h)
  rfl
 ·obtain⟨o,gt,rfl,⟨dx,ho,k⟩⟩:=f2q (by unfold g2u at h; exact h)
  have hu:=hr.units
  refine⟨_,(a0k (b4h (pvF 0) (pvF 1) rfl)),?_⟩
  walk_at "rd*"
  intro H1 B1 h1
  exact k H1 B1 h1
theorem g0t (T : Tx K mg A) : a1g P A.wd K mg base CX0 1 A.b2q A.a9y ["self", "many"] (f7j A.b6t) := by
 have b1v:=T.b1v
 have a4m:=T.a4m
 refine T.c3t.ok f6h (fun vs H Q E h=>?_) (fun cdv A' outer s H vs Q E hr h=>?_)
 ·obtain⟨_,_,rfl,_⟩:=f9p (by unfold f7j at h; exact h)
  rfl
 ·obtain⟨o,n,rfl,⟨dx,ho,k⟩⟩:=f9p (by unfold f7j at h; exact h)
  have hu:=hr.units
  refine⟨_,(a0k (b4h (pvF 0) (pvF 1) rfl)),?_⟩
  walk_at "rd*"
  intro H1 B1 h1
  exact k H1 B1 h1
theorem g4s (T : Tx K mg A) : a1g P A.wd K mg base CX0 1 A.b5y A.b2v ["self", "gain", "many"] (g2v A.c3n) := by
 have b9j:=T.b9j
 have a5o:=T.a5o
 have a5p:=T.a5p
 refine T.c7j.ok f9z (fun vs H Q E h=>?_) (fun cdv A' outer s H vs Q E hr h=>?_)
 ·obtain⟨_,_,_,rfl,_⟩:=g3z (by unfold g2v at h; exact h)
  rfl
 ·obtain⟨o,gt,n,rfl,⟨dx,ho,k⟩⟩:=g3z (by unfold g2v at h; exact h)
  have hu:=hr.units
  refine⟨_,(a0i (b4h (pvF 0) (pvF 1) rfl)
   (a0k (b4h (pvF 0) (pvF 2) rfl))),?_⟩
  walk_at "rd*"
  intro H1 B1 h1
  walk_at "rd*"
  intro H2 B2 h2
  exact k H2 (fun b u hb e=>B2 _ _ hb (B1 _ _ hb e)) h2
theorem g4t (T : Tx K mg A) : a1g P A.wd K mg base CX0 1 A.b6g A.b2y ["self", "gain", "many"] (g2w A.c3o) := by
 have b9k:=T.b9k
 have a5q:=T.a5q
 have a5r:=T.a5r
 refine T.c7l.ok g0a (fun vs H Q E h=>?_) (fun cdv A' outer s H vs Q E hr h=>?_)
 ·obtain⟨_,_,_,rfl,_⟩:=g3z (by unfold g2w at h; exact h)
  rfl
 ·obtain⟨o,gt,n,rfl,⟨dx,ho,k⟩⟩:=g3z (by unfold g2w at h; exact h)
  have hu:=hr.units
  refine⟨_,(a0i (b4h (pvF 0) (pvF 1) rfl)
   (a0k (b4h (pvF 0) (pvF 2) rfl))),?_⟩
  walk_at "rd*"
  intro H1 B1 h1
  walk_at "rd*"
  intro H2 B2 h2
  exact k H2 (fun b u hb e=>B2 _ _ hb (B1 _ _ hb e)) h2
theorem f5u.crn{cs:List (Int×Rat)}(h:f5u cs):h7z cs:=⟨fun c hc=>⟨(h.1 c hc).1,Int.le_trans (h.1 c hc).2.1 (by decide),(h.1 c hc).2.2.b.1,(h.1 c hc).2.2.b.2⟩,h.2.1⟩
theorem g4u{x:Rat}{a:Nat}(h:intBits x.num<=a):intBits (Rat.abs x).num<=a:=by
 rw [f7k]
 exact intBits_natAbs_le h
theorem h0w (T : Tx K mg A) : a1g P A.wd K mg base CX0 1 A.a4r A.a4z ["one"] i6z := by
 refine T.a1z.ok a6m (fun vs H Q E h=>?_) (fun cdv A' outer s H vs Q E hr h=>?_)
 ·obtain⟨_,rfl,_⟩:=c0m (by unfold i6z at h; exact h)
  rfl
 ·obtain⟨p,rfl,⟨x,hp,l1,l2,q⟩⟩:=c0m (by unfold i6z at h; exact h)
  have hu:=hr.units
  unfold c8g at hp
  have fl:=d7g l1 l2
  have g1:=c8i (intBits_le_iff.mp l1) (by decide)
  have g2:=c8i (intBits_le_iff.mp l2) (by decide)
  have a:=c4m (intBits_le_iff.mp l1) (by decide)
  have b:=c4m (intBits_le_iff.mp l2) (by decide)
  have e0:Str.empty.length=0:=rfl
  have e1 : (Str.ofString "/").length = 1 := by decide +kernel
  have hs:sizeLine=16777216:=sizeLine_eq
  unfold fW at q
  refine⟨_,(a0i (a0z (i:=1) a6m.nd rfl (Or.inl rfl) (a0r a3z (pvF 0) a0j (fun _ _=>rfl)))
   (a0i (a0z (i:=2) a6m.nd rfl (Or.inl rfl) (a0r a3z (pvF 0) a0j (fun _ _=>rfl)))
   (a0k (a0s (b1q (a3h (b4z (pvF 1)) (a3h a0m (a3h (b4z (pvF 2)) d1g)))))))),?_⟩
  walk_at "rd*"
  simp only [strLen_append,e0,e1]
  refine⟨by omega,by omega,by omega,by omega,by omega,by omega⟩
theorem i7q (T : Tx K mg A) : a1g P A.wd K mg base CX0 2 A.a7w A.a8o ["corner"] i7a := by
 have a1r:a1g P A.wd K mg base CX0 1 _ _ _ _:=h0w T
 refine T.b4o.ok c4o (fun vs H Q E h=>?_) (fun cdv A' outer s H vs Q E hr h=>?_)
 ·obtain⟨_,rfl,_⟩:=c0m (by unfold i7a at h; exact h)
  rfl
 ·obtain⟨p,rfl,⟨c,g,hp,hg,l0,l1,l2,q⟩⟩:=c0m (by unfold i7a at h; exact h)
  have hu:=hr.units
  have a1l:a1y 1 _:=hr.mono (by decide)
  have g0:=c8i l0 (by decide)
  have a:=c4m l0 (by decide)
  have b:=d7g l1 l2
  have e0:Str.empty.length=0:=rfl
  have e1 : (Str.ofString "=").length = 1 := by decide +kernel
  have hs:sizeLine=16777216:=sizeLine_eq
  unfold cW at q
  refine⟨_,(a0i (a0z (i:=1) c4o.nd rfl (Or.inl rfl) (a0r a3z (pvF 0) a0j (fun _ _=>rfl)))
   (a0i (a0z (i:=2) c4o.nd rfl (Or.inl rfl) (a0l a1r a1l (by rfl) T.a5w T.a1z.kp T.a5v .nil a0w (a0g (a0r a3z (pvF 0) a0j (fun _ _=>rfl)) a0h)))
   (a0k (a0s (b1q (a3h (b4z (pvF 1)) (a3h a0m (a3h (b4z (pvF 2)) d1g)))))))),?_⟩
  walk_at "rd*"
  refine⟨c.2,rfl,l1,l2,?_⟩
  simp only [strLen_append,e0,e1]
  exact⟨by omega,by omega,by omega,by omega,by omega,by omega,q⟩
theorem h0x{K:PySem.W.Frag}{a D:Addr}{xs:List V}{te:TE}{σ:L2.St}{H0 H:Hp}{Q:VK}(zs:List V)(hz:zs.length=xs.length)(n0:H0 D=none)(S:Same H0 H)(hD:H D=some (.lst []))(hS:H0 a=some (.tup xs))(hsz:xs.length<=sizeLine)
  (hs:∀ (i:Nat) x z H' (Q':VK),xs[i]? = some x->zs[i]? = some z->Same H0 H'->Q' z H'->te (some x :: σ) H' Q') (q:∀ H',Same H0 H'->H' D=some (.lst zs)->Q (.ref D) H'):f5o (Itt K a) te D σ H Q ⟨⟩:=by
 refine g8x (fun i ys H'=>Same H0 H'/\H' D=some (.lst ys)/\ys=zs.take i) ⟨S,hD,by simp⟩ hsz (fun i ys H' hi p=>?_) (fun i x ys H' hx p=>?_) (fun ys H' p=>?_)
 ·refine⟨p.2.1,SqT.of (p.1 _ _ hS),?_⟩
  rw [p.2.2,List.length_take]
  omega
 ·have hi:i < zs.length:=by rw [hz]; exact (List.getElem?_eq_some_iff.mp hx).1
  have hzi:zs[i]? = some zs[i]:=List.getElem?_eq_getElem hi
  refine hs i x _ H' _ hx hzi p.1 ⟨p.2.1,fun H3 s3 h3=>⟨p.1.step n0 s3,h3,?_⟩⟩
  rw [p.2.2,List.take_add_one,hzi]
  rfl
 ·refine q H' p.1 ?_
  rw [p.2.1,p.2.2,<- hz,List.take_length]
theorem i3l (T : Tx K mg A) : a1g P A.wd K mg base CX0 2 A.b5u A.b2p ["self"] (d7v A 0) := by
 have a1r:a1g P A.wd K mg base CX0 1 _ _ _ _:=h0w T
 have b9h:=T.b9h
 have a5l:=T.a5l
 refine T.c7g.ok d7l (fun vs H Q E h=>?_) (fun cdv A' outer s H vs Q E hr h=>?_)
 ·obtain⟨_,rfl,_⟩:=c0m (by unfold d7v at h; exact h)
  rfl
 ·obtain⟨o,rfl,⟨d,hk,hd,ok,q⟩⟩:=c0m (by unfold d7v at h; exact h)
  cases d with
  | gain y =>
   obtain⟨dx,_,ho,g,rfl,hg⟩:=hd
   have ok:YOk y:=ok
   replace ho : H o = some (.ins A.c5n dx [("gain", .ref g)]) := ho
   have hu:=hr.units
   have a1l:a1y 1 _:=hr.mono (by decide)
   have a:=d7g ok.b.1 ok.b.2
   have e0:Str.empty.length=0:=rfl
   have e1 : (Str.ofString "gain:").length = 5 := by decide +kernel
   have hs:sizeLine=16777216:=sizeLine_eq
   refine⟨_,(a0i (a0z (i:=1) d7l.nd rfl (Or.inl rfl) (a0l a1r a1l (by rfl) T.a5w T.a1z.kp T.a5v .nil a0w (a0g (b5i (pvF 0) rfl) a0h)))
   (a0k (a0s (b1q (a3h a0m (a3h (b4z (pvF 1)) d1g)))))),?_⟩
   walk_at "rd*"
   refine⟨y,rfl,ok.b.1,ok.b.2,?_⟩
   simp only [strLen_append,e0,e1]
   exact⟨by omega,by omega,by omega,by rw [i2d]; exact q _ (Same.refl _)⟩
  | _=>simp [Dt.kd] at hk
theorem i3m (T : Tx K mg A) : a1g P A.wd K mg base CX0 1 A.b2r A.a9z ["self"] (d7v A 1) := by
 have b1v:=T.b1v
 have a4m:=T.a4m
 refine T.c3u.ok d3r (fun vs H Q E h=>?_) (fun cdv A' outer s H vs Q E hr h=>?_)
 ·obtain⟨_,rfl,_⟩:=c0m (by unfold d7v at h; exact h)
  rfl
 ·obtain⟨o,rfl,⟨d,hk,hd,ok,q⟩⟩:=c0m (by unfold d7v at h; exact h)
  cases d with
  | delay n =>
   obtain⟨dx,_,ho,rfl⟩:=hd
   have ok:n<=1000:=ok
   replace ho : H o = some (.ins A.b6t dx [("many", .int n)]) := ho
   have hu:=hr.units
   have a:=f3o (n:=n) (Nat.lt_of_le_of_lt ok (by decide))
   have e0:Str.empty.length=0:=rfl
   have e1 : (Str.ofString "delay:").length = 6 := by decide +kernel
   have hs:sizeLine=16777216:=sizeLine_eq
   have g0:=c8i (t:=(n:Int)) (n:=20) (by omega) (by decide)
   unfold nW at a
   refine⟨_,(a0i (a0z (i:=1) d3r.nd rfl (Or.inl rfl) (b5i (pvF 0) rfl))
   (a0k (a0s (b1q (a3h a0m (a3h (b4z (pvF 1)) d1g)))))),?_⟩
   walk_at "rd*"
   have w:=h7i n
   unfold nW at w
   simp only [strLen_append,e0,e1]
   refine⟨by omega,by omega,by omega,?_⟩
   rw [w]
   exact q _ (Same.refl _)
  | _=>simp [Dt.kd] at hk
theorem i3n (T : Tx K mg A) : a1g P A.wd K mg base CX0 2 A.b5w A.b2u ["self"] (d7v A 2) := by
 have a1r:a1g P A.wd K mg base CX0 1 _ _ _ _:=h0w T
 have b9i:=T.b9i
 have a5m:=T.a5m
 have a5n:=T.a5n
 have a4n:=T.a4n
 have a3n:=T.a3n
 have a1j:=T.a1j
 refine T.c7i.ok c3l (fun vs H Q E h=>?_) (fun cdv A' outer s H vs Q E hr h=>?_)
 ·obtain⟨_,rfl,_⟩:=c0m (by unfold d7v at h; exact h)
  rfl
 ·obtain⟨o,rfl,⟨d,hk,hd,ok,q⟩⟩:=c0m (by unfold d7v at h; exact h)
  cases d with
  | echo y n t =>
   obtain⟨dx,_,ho,g,fa,rfl,hg,hf⟩:=hd
   obtain⟨oy,n1,n2,t2⟩:=ok
   replace ho:H o=some (.ins A.b8w dx (ecF g fa n t (y.den:Int))):=ho
   unfold ecF at ho
   have hu:=hr.units
   have a1l:a1y 1 _:=hr.mono (by decide)
   have a:=d7g oy.b.1 oy.b.2
   have b:=f3o (n:=n) (Nat.lt_of_le_of_lt n2 (by decide))
   have c:=f3o (n:=t) (Nat.lt_of_le_of_lt t2 (by decide))
   have e0:Str.empty.length=0:=rfl
   have e1 : (Str.ofString "echo:").length = 5 := by decide +kernel
   have e2 : (Str.ofString ":").length = 1 := by decide +kernel
   have hs:sizeLine=16777216:=sizeLine_eq
   have g0:=c8i (t:=(n:Int)) (n:=20) (by omega) (by decide)
   have g1:=c8i (t:=(t:Int)) (n:=20) (by omega) (by decide)
   have w:=i2e y n t
   unfold nW at b c w
   refine⟨_,(a0i (a0z (i:=1) c3l.nd rfl (Or.inl rfl) (a0l a1r a1l (by rfl) T.a5w T.a1z.kp T.a5v .nil a0w (a0g (b5i (pvF 0) rfl) a0h)))
   (a0i (a0z (i:=2) c3l.nd rfl (Or.inl rfl) (b5i (pvF 0) rfl))
   (a0i (a0z (i:=3) c3l.nd rfl (Or.inl rfl) (b5i (pvF 0) rfl))
   (a0k (a0s (b1q (a3h a0m (a3h (b4z (pvF 1)) (a3h a0m (a3h (b4z (pvF 2)) (a3h a0m (a3h (b4z (pvF 3)) d1g)))))))))))),?_⟩
   walk_at "rd*"
   refine⟨y,rfl,oy.b.1,oy.b.2,?_⟩
   simp only [strLen_append,e0,e1,e2]
   refine⟨by omega,by omega,by omega,by omega,by omega,by omega,by omega,by omega,by omega,?_⟩
   rw [w]
   exact q _ (Same.refl _)
  | _=>simp [Dt.kd] at hk
theorem i3o (T : Tx K mg A) : a1g P A.wd K mg base CX0 2 A.b5z A.b2w ["self"] (d7v A 3) := by
 have a1r:a1g P A.wd K mg base CX0 1 _ _ _ _:=h0w T
 have b9j:=T.b9j
 have a5o:=T.a5o
 have a5p:=T.a5p
 refine T.c7k.ok c8v (fun vs H Q E h=>?_) (fun cdv A' outer s H vs Q E hr h=>?_)
 ·obtain⟨_,rfl,_⟩:=c0m (by unfold d7v at h; exact h)
  rfl
 ·obtain⟨o,rfl,⟨d,hk,hd,ok,q⟩⟩:=c0m (by unfold d7v at h; exact h)
  cases d with
  | back y n =>
   obtain⟨dx,_,ho,g,rfl,hg⟩:=hd
   obtain⟨oy,n1,n2⟩:=ok
   replace ho : H o = some (.ins A.c3n dx [("gain", .ref g), ("many", .int n)]) := ho
   have hu:=hr.units
   have a1l:a1y 1 _:=hr.mono (by decide)
   have a:=d7g oy.b.1 oy.b.2
   have b:=f3o (n:=n) (Nat.lt_of_le_of_lt n2 (by decide))
   have e0:Str.empty.length=0:=rfl
   have e1 : (Str.ofString "back:").length = 5 := by decide +kernel
   have e2 : (Str.ofString ":").length = 1 := by decide +kernel
   have hs:sizeLine=16777216:=sizeLine_eq
   have g0:=c8i (t:=(n:Int)) (n:=20) (by omega) (by decide)
   have w:=i2f y n
   unfold nW at b w
   refine⟨_,(a0i (a0z (i:=1) c8v.nd rfl (Or.inl rfl) (a0l a1r a1l (by rfl) T.a5w T.a1z.kp T.a5v .nil a0w (a0g (b5i (pvF 0) rfl) a0h)))
   (a0i (a0z (i:=2) c8v.nd rfl (Or.inl rfl) (b5i (pvF 0) rfl))
   (a0k (a0s (b1q (a3h a0m (a3h (b4z (pvF 1)) (a3h a0m (a3h (b4z (pvF 2)) d1g))))))))),?_⟩
   walk_at "rd*"
   refine⟨y,rfl,oy.b.1,oy.b.2,?_⟩
   simp only [strLen_append,e0,e1,e2]
   refine⟨by omega,by omega,by omega,by omega,by omega,by omega,?_⟩
   rw [w]
   exact q _ (Same.refl _)
  | _=>simp [Dt.kd] at hk
theorem i3p (T : Tx K mg A) : a1g P A.wd K mg base CX0 2 A.b6h A.b2z ["self"] (d7v A 4) := by
 have a1r:a1g P A.wd K mg base CX0 1 _ _ _ _:=h0w T
 have b9k:=T.b9k
 have a5q:=T.a5q
 have a5r:=T.a5r
 refine T.c7m.ok c8w (fun vs H Q E h=>?_) (fun cdv A' outer s H vs Q E hr h=>?_)
 ·obtain⟨_,rfl,_⟩:=c0m (by unfold d7v at h; exact h)
  rfl
 ·obtain⟨o,rfl,⟨d,hk,hd,ok,q⟩⟩:=c0m (by unfold d7v at h; exact h)
  cases d with
  | hall y n =>
   obtain⟨dx,_,ho,g,rfl,hg⟩:=hd
   obtain⟨oy,yl,n1,n2⟩:=ok
   replace ho : H o = some (.ins A.c3o dx [("gain", .ref g), ("many", .int n)]) := ho
   have hu:=hr.units
   have a1l:a1y 1 _:=hr.mono (by decide)
   have a:=d7g oy.b.1 oy.b.2
   have b:=f3o (n:=n) (Nat.lt_of_le_of_lt n2 (by decide))
   have e0:Str.empty.length=0:=rfl
   have e1 : (Str.ofString "hall:").length = 5 := by decide +kernel
   have e2 : (Str.ofString ":").length = 1 := by decide +kernel
   have hs:sizeLine=16777216:=sizeLine_eq
   have g0:=c8i (t:=(n:Int)) (n:=20) (by omega) (by decide)
   have w:=i2g y n
   unfold nW at b w
   clear yl
   refine⟨_,(a0i (a0z (i:=1) c8w.nd rfl (Or.inl rfl) (a0l a1r a1l (by rfl) T.a5w T.a1z.kp T.a5v .nil a0w (a0g (b5i (pvF 0) rfl) a0h)))
   (a0i (a0z (i:=2) c8w.nd rfl (Or.inl rfl) (b5i (pvF 0) rfl))
   (a0k (a0s (b1q (a3h a0m (a3h (b4z (pvF 1)) (a3h a0m (a3h (b4z (pvF 2)) d1g))))))))),?_⟩
   walk_at "rd*"
   refine⟨y,rfl,oy.b.1,oy.b.2,?_⟩
   simp only [strLen_append,e0,e1,e2]
   refine⟨by omega,by omega,by omega,by omega,by omega,by omega,?_⟩
   rw [w]
   exact q _ (Same.refl _)
  | _=>simp [Dt.kd] at hk
theorem i3q (T : Tx K mg A) : a1g P A.wd K mg base CX0 3 A.b3i A.b0h ["self"] (d7v A 5) := by
 have f7o:a1g P A.wd K mg base CX0 2 _ _ _ _:=i7q T
 have b1w:=T.b1w
 have a3g:=T.a3g
 have a3o:=T.a3o
 have a3w:=T.a3w
 refine T.c3w.ok d3t (fun vs H Q E h=>?_) (fun cdv A' outer s H vs Q E hr h=>?_)
 ·obtain⟨_,rfl,_⟩:=c0m (by unfold d7v at h; exact h)
  rfl
 ·obtain⟨o,rfl,⟨d,hk,hd,ok,q⟩⟩:=c0m (by unfold d7v at h; exact h)
  cases d with
  | swell cs =>
   obtain⟨dx,_,ho,ct,ln,S,ss,us,ps,rfl,hct,hln,TP,sok,R⟩:=hd
   have ok:f5u cs:=ok
   replace ho : H o = some (.ins A.b2l dx [("corners", .ref ct), ("shared", .int S), ("lines", .ref ln)]) := ho
   have hu:=hr.units
   have f2w:a1y 2 _:=hr.mono (by decide)
   have pl:=R.1
   have hs:sizeLine=16777216:=sizeLine_eq
   have cl:=ok.len
   have L12:=ok.2.2.2
   have e2 : (Str.ofString ",").length = 1 := by decide +kernel
   have jo : JoinOk (Str.ofString ",") (cs.map cW) = true := joinOk_of (n := 45) (fun y hy => by obtain ⟨c, hc, rfl⟩ := List.mem_map.mp hy; exact cl c hc) (by rw [List.length_map, e2, hs]; omega)
   have jl : (Txt.join (Str.ofString ",") (cs.map cW)).length ≤ 600 := by
    rw [h7j,g9a]
    exact ok.i6t
   have e0:Str.empty.length=0:=rfl
   have e1 : (Str.ofString "swell:").length = 6 := by decide +kernel
   refine ⟨_, (a0i (a0z (i := 1) d3t.nd rfl (Or.inl rfl) (b1o a4j PySem.F.plainAttrs_str PySem.F.slot_str_join PySem.F.type_str_join g3v a0m (a0g (d8v (h6y (b5i (pvF 0) rfl)) (fun _ _ _ _ _ => (a0l f7o f2w (by rfl) T.f6r T.b4o.kp T.f6q .nil a0w (a0g (pvF 0) a0h))) (g1g (sc := a0n c8s) (N := ["self", "corners"]) rfl rfl (by decide +kernel)) rfl) a0h)))
   (a0k (a0s (b1q (a3h a0m (a3h (b4z (pvF 1)) d1g)))))),?_⟩
   walk_at "rd*"
   intro D H2 n2 S2 h2
   refine h0x (cs.map fun c=>V.str (cW c)) (by rw [List.length_map,List.length_map,pl]) n2 S2 h2 hct (by rw [List.length_map,pl,hs]; omega) ?_ ?_
   ·intro i x z H' Q' hx hz S' q'
    obtain⟨p,c,g,rfl,hc,hp,hg⟩:=R.get hx
    rw [List.getElem?_map,hc] at hz
    cases hz
    have hp':=S' _ _ hp
    have hg':=S' _ _ hg
    obtain⟨o1,o2,oy⟩:=ok.1 c (List.mem_of_getElem? hc)
    clear ho hct hln h2 hp hg
    walk_at "rd*"
    exact⟨c,g,⟨rfl,rfl⟩,hg',by omega,oy.b.1,oy.b.2,q'⟩
   intro H3 S3 h3
   clear h2
   walk_at "rd*"
   refine⟨cs.map cW,by rw [List.map_map]; rfl,jo,by omega,?_,?_,?_⟩
   ·rw [strLen_append,e0,e1]
    omega
   ·rw [strLen_append,strLen_append,e0,e1]
    omega
   ·rw [h7k]
    exact q H3 S3
  | _=>simp [Dt.kd] at hk
theorem g0u (T : Tx K mg A) : a1g P A.wd K mg base CX0 4 A.a9l A.a9m ["text"] i7b := by
 have f1z:a1g P A.wd K mg base CX0 3 _ _ _ _:=h0m T
 refine T.a3s.ok c3m (fun vs H Q E h=>?_) (fun cdv A' outer s H vs Q E hr h=>?_)
 ·obtain⟨_,rfl,_⟩:=d2t (by unfold i7b at h; exact h)
  rfl
 ·obtain⟨x,rfl,⟨y,hx,oy,k⟩⟩:=d2t (by unfold i7b at h; exact h)
  subst hx
  have hu:=hr.units
  have b9v:a1y 3 _:=hr.mono (by decide)
  refine⟨_,(a0i (h6z (a0z (i:=1) c3m.nd rfl (Or.inl rfl) (a0l f1z b9v (by rfl) T.c9n T.a5t.kp T.c9m .nil a0w (a0g (pvF 0) a0h))))
   (a0i (a4o (pw_or (a0t c8m (a0y c2g (by rfl) T.g2k boot_abs (a0g (a0r a3z (pvF 1) a0j (fun _ _=>rfl)) a0h)) (a1o (v:=.int 1000) (by rfl) T.c4g T.b3t) (a1i _)) (pw_or1 (a0t c8m (a0r a3z (pvF 1) a0j (fun _ _=>rfl)) (a1o (v:=.int 1000) (by rfl) T.c4g T.b3t) (a1i _)))).pt
   (a0k a6q)
   a1h)
   (a0k (a0s (pvF 1))))),?_⟩
  walk_at "rd"
  refine⟨y.num,(y.den:Int),h7a oy,?_⟩
  rintro _ H1 ⟨o,rfl,n1,S1,h1⟩
  have y1:¬ 1000 < (y.num.natAbs:Int):=by have:=oy.1; omega
  have y2:¬ 1000 < (y.den:Int):=by have:=oy.2; omega
  walk_at "rd*"
  exact k _ _ ⟨o,rfl,n1,S1,h1⟩
theorem h0y (T : Tx K mg A) : a1g P A.wd K mg base CX0 3 A.a6s A.a6z ["text", "least", "most"] i7c := by
 have d6m:a1g P A.wd K mg base CX0 2 _ _ _ _:=i3e T
 refine T.a3i.ok b8n (fun vs H Q E h=>?_) (fun cdv A' outer s H vs Q E hr h=>?_)
 ·obtain⟨_,_,_,rfl,_⟩:=f3p (by unfold i7c at h; exact h)
  rfl
 ·obtain⟨x,a,b,rfl,⟨n,hx,hn,h1,h2,q⟩⟩:=f3p (by unfold i7c at h; exact h)
  have hu:=hr.units
  have d2h:a1y 2 _:=hr.mono (by decide)
  refine⟨_,(a0i (a0z (i:=3) b8n.nd rfl (Or.inl rfl) (a0l d6m d2h (by rfl) T.f4n T.b6w.kp T.f4m .nil a0w (a0g (pvF 0) a0h)))
   (a0i (a4o (pw_or (a0t g3k (pvF 3) c5h (a1i _)) (pw_or (a0t of_lt (pvF 3) (pvF 1) (a1i _)) (pw_or1 (a0t c8m (pvF 3) (pvF 2) (a1i _))))).pt
   (a0k a6q)
   a1h)
   (a0k (a0s (pvF 3))))),?_⟩
  walk_at "rd"
  refine⟨n,hx,by omega,?_⟩
  have z1:¬ (n:Int) < a:=by omega
  have z2:¬ b < (n:Int):=by omega
  walk_at "rd*"
theorem h3x (T : Tx K mg A) : a1g P A.wd K mg base CX0 4 A.a9n A.a9o ["text"] i7d := by
 have a1v:a1g P A.wd K mg base CX0 3 _ _ _ _:=h0y T
 refine T.a5u.ok d7m (fun vs H Q E h=>?_) (fun cdv A' outer s H vs Q E hr h=>?_)
 ·obtain⟨_,rfl,_⟩:=d2t (by unfold i7d at h; exact h)
  rfl
 ·obtain⟨x,rfl,⟨n,hx,n1,n2,q⟩⟩:=d2t (by unfold i7d at h; exact h)
  subst hx
  have hu:=hr.units
  have a1p:a1y 3 _:=hr.mono (by decide)
  refine⟨_,(a0k (a0s (a0l a1v a1p (by rfl) T.a6w T.a3i.kp T.a6v .nil a0w (a0g (pvF 0) (a0g a0j (a0g (a1o (v:=.int 1000) (by rfl) T.c4h T.b3u) a0h)))))),?_⟩
  walk_at "rd"
  exact⟨n,c4n n,by omega,by omega,by omega,q⟩
theorem d7y (T : Tx K mg A) : a1g P A.wd K mg base CX0 1 A.a6t A.a7g ["values", "count"] i7e := by
 refine T.a1m.ok d1i (fun vs H Q E h=>?_) (fun cdv A' outer s H vs Q E hr h=>?_)
 ·obtain⟨_,_,rfl,_⟩:=f9p (by unfold i7e at h; exact h)
  rfl
 ·obtain⟨l,c,rfl,⟨xs,hl,e,q⟩⟩:=f9p (by unfold i7e at h; exact h)
  have hu:=hr.units
  refine⟨_,(a0k (a4o (a0t (c1y hu) (a0y a3l (by rfl) T.c4w boot_len (a0g (pvF 0) a0h)) (pvF 1) (a1i _))
   (a0k a6q)
   a1h)),?_⟩
  walk_at "rd*"
theorem g6v (T : Tx K mg A) : a1g P A.wd K mg base CX0 6 A.b4k A.b6i ["values"] (f7w A 0) := by
 have a0u:a1g P A.wd K mg base CX0 1 _ _ _ _:=d7y T
 have a1w:a1g P A.wd K mg base CX0 4 _ _ _ _:=g0u T
 have d2i:a1g P A.wd K mg base CX0 1 _ _ _ _:=g4r T
 have b9h:=T.b9h
 have a5l:=T.a5l
 refine T.c2o.ok f3z (fun vs H Q E h=>?_) (fun cdv A' outer s H vs Q E hr h=>?_)
 ·obtain⟨_,rfl,_⟩:=c0m (by unfold f7w at h; exact h)
  rfl
 ·obtain⟨l,rfl,⟨d,hk,ok,hl,q⟩⟩:=c0m (by unfold f7w at h; exact h)
  cases d with
  | gain y =>
   have hu:=hr.units
   have a0q:a1y 1 _:=hr.mono (by decide)
   have a1n:a1y 4 _:=hr.mono (by decide)
   have c9r:a1y 2 _:=hr.mono (by decide)
   replace hl:H l=some (.lst [.str (fW y)]):=hl
   refine⟨_,(a0i (b1y (a0l a0u a0q (by rfl) T.a3q T.a1m.kp T.a3p .nil a0w (a0g (pvF 0) (a0g a0j a0h))))
   (a0k (a0s (b4i T.g4b d2i c9r (by rfl) T.g9q T.f0w .nil a0w (a0g (a0l a1w a1n (by rfl) T.a7k T.a3s.kp T.a7j .nil a0w (a0g (a0r a3z (pvF 0) a0j (fun _ _=>rfl)) a0h)) a0h))))),?_⟩
   walk_at "rd"
   refine⟨_,hl,rfl,?_⟩
   walk_at "rd*"
   refine⟨y,rfl,ok,?_⟩
   rintro _ H1 ⟨g,rfl,n1,S1,h1⟩
   walk_at "rd"
   intro x dx H2 n2 n3 nx S2 hdx hx
   refine⟨dx,hx,fun H3 B3 h3=>?_⟩
   rw [asNew]
   refine⟨rfl,?_⟩
   have gx:g≠x:=fun e=>by rw [e] at h1; rw [h1] at n2; cases n2
   refine q x H3 (S1.free n2) (fun b u e=>B3 _ _ (fun z=>by rw [z] at e; rw [S1 _ _ e] at n2; cases n2) (S2 _ _ (S1 _ _ e))) ⟨dx,_,h3,g,rfl,B3 _ _ gx (S2 _ _ h1)⟩
  | _=>simp [Dt.kd] at hk
theorem g3c (T : Tx K mg A) : a1g P A.wd K mg base CX0 6 A.b0i A.b2j ["values"] (f7w A 1) := by
 have a0u:a1g P A.wd K mg base CX0 1 _ _ _ _:=d7y T
 have a1v:a1g P A.wd K mg base CX0 3 _ _ _ _:=h0y T
 have c9s:a1g P A.wd K mg base CX0 1 _ _ _ _:=g0t T
 have b1v:=T.b1v
 have a4m:=T.a4m
 refine T.b6z.ok f0g (fun vs H Q E h=>?_) (fun cdv A' outer s H vs Q E hr h=>?_)
 ·obtain⟨_,rfl,_⟩:=c0m (by unfold f7w at h; exact h)
  rfl
 ·obtain⟨l,rfl,⟨d,hk,ok,hl,q⟩⟩:=c0m (by unfold f7w at h; exact h)
  cases d with
  | delay n =>
   have hu:=hr.units
   have a0q:a1y 1 _:=hr.mono (by decide)
   have a1p:a1y 3 _:=hr.mono (by decide)
   have c7s:a1y 2 _:=hr.mono (by decide)
   have ok:n<=1000:=ok
   replace hl:H l=some (.lst [.str (nW n)]):=hl
   refine⟨_,(a0i (b1y (a0l a0u a0q (by rfl) T.a3q T.a1m.kp T.a3p .nil a0w (a0g (pvF 0) (a0g a0j a0h))))
   (a0k (a0s (b4i T.f6o c9s c7s (by rfl) T.g4f T.d7o .nil a0w (a0g (a0l a1v a1p (by rfl) T.a6w T.a3i.kp T.a6v .nil a0w (a0g (a0r a3z (pvF 0) a0j (fun _ _=>rfl)) (a0g a0j (a0g (a1o (v:=.int 1000) (by rfl) T.c4h T.b3u) a0h)))) a0h))))),?_⟩
   walk_at "rd"
   refine⟨_,hl,rfl,?_⟩
   walk_at "rd*"
   refine⟨n,c4n n,by omega,by omega,by omega,?_⟩
   intro x dx H2 n2 n3 nx S2 hdx hx
   refine⟨dx,hx,fun H3 B3 h3=>?_⟩
   rw [asNew]
   refine⟨rfl,?_⟩
   exact q x H3 n2 (fun b u e=>B3 _ _ (fun z=>by rw [z] at e; rw [e] at n2; cases n2) (S2 _ _ e)) ⟨dx,_,h3,rfl⟩
  | _=>simp [Dt.kd] at hk
theorem g6w (T : Tx K mg A) : a1g P A.wd K mg base CX0 6 A.b4l A.b6j ["values"] (f7w A 2) := by
 have a0u:a1g P A.wd K mg base CX0 1 _ _ _ _:=d7y T
 have a1w:a1g P A.wd K mg base CX0 4 _ _ _ _:=g0u T
 have a5y:a1g P A.wd K mg base CX0 4 _ _ _ _:=h3x T
 have a1v:a1g P A.wd K mg base CX0 3 _ _ _ _:=h0y T
 have d2j:a1g P A.wd K mg base CX0 2 _ _ _ _:=g4q T
 have b9i:=T.b9i
 have a5m:=T.a5m
 have a5n:=T.a5n
 have a4n:=T.a4n
 have a3n:=T.a3n
 have a1j:=T.a1j
 refine T.c2p.ok f4g (fun vs H Q E h=>?_) (fun cdv A' outer s H vs Q E hr h=>?_)
 ·obtain⟨_,rfl,_⟩:=c0m (by unfold f7w at h; exact h)
  rfl
 ·obtain⟨l,rfl,⟨d,hk,ok,hl,q⟩⟩:=c0m (by unfold f7w at h; exact h)
  cases d with
  | echo y n t =>
   have hu:=hr.units
   have a0q:a1y 1 _:=hr.mono (by decide)
   have a1n:a1y 4 _:=hr.mono (by decide)
   have a4t:a1y 4 _:=hr.mono (by decide)
   have a1p:a1y 3 _:=hr.mono (by decide)
   have c9t:a1y 3 _:=hr.mono (by decide)
   obtain⟨oy,na,nb,tb⟩:=ok
   replace hl:H l=some (.lst [.str (fW y),.str (nW n),.str (nW t)]):=hl
   refine⟨_,(a0i (b1y (a0l a0u a0q (by rfl) T.a3q T.a1m.kp T.a3p .nil a0w (a0g (pvF 0) (a0g a0j a0h))))
   (a0k (a0s (b4i T.g4c d2j c9t (by rfl) T.g9r T.f1h .nil a0w (a0g (a0l a1w a1n (by rfl) T.a7k T.a3s.kp T.a7j .nil a0w (a0g (a0r a3z (pvF 0) a0j (fun _ _=>rfl)) a0h)) (a0g (a0l a5y a4t (by rfl) T.b8i T.a5u.kp T.b8h .nil a0w (a0g (a0r a3z (pvF 0) a0j (fun _ _=>rfl)) a0h)) (a0g (a0l a1v a1p (by rfl) T.a6w T.a3i.kp T.a6v .nil a0w (a0g (a0r a3z (pvF 0) a0j (fun _ _=>rfl)) (a0g a0j (a0g (a1o (v:=.int 16) (by rfl) T.d4l T.c0k) a0h)))) a0h))))))),?_⟩
   walk_at "rd"
   refine⟨_,hl,rfl,?_⟩
   walk_at "rd*"
   refine⟨y,rfl,oy,?_⟩
   rintro _ H1 ⟨g,rfl,n1,S1,h1⟩
   have hl1:=S1 _ _ hl
   clear hl
   walk_at "rd*"
   refine⟨n,rfl,na,nb,t,c4n t,by omega,by omega,by omega,?_⟩
   intro x dx H2 n2 n3 nx S2 hdx hx
   refine⟨dx,n,t,y.num,(y.den:Int),rfl,rfl,tb,oy.b.1,oy.b.2,S2 _ _ h1,hx,fun fa H3 B3 nf h3 hf=>?_⟩
   rw [asNew]
   refine⟨rfl,?_⟩
   have gx:g≠x:=fun e=>by rw [e] at h1; rw [h1] at n2; cases n2
   exact q x H3 (S1.free n2) (fun b u e=>B3 _ _ (fun z=>by rw [z] at e; rw [S1 _ _ e] at n2; cases n2) (S2 _ _ (S1 _ _ e))) ⟨dx,_,h3,g,fa,rfl,B3 _ _ gx (S2 _ _ h1),hf⟩
  | _=>simp [Dt.kd] at hk
theorem g6x (T : Tx K mg A) : a1g P A.wd K mg base CX0 6 A.b4m A.b6k ["values"] (f7w A 3) := by
 have a0u:a1g P A.wd K mg base CX0 1 _ _ _ _:=d7y T
 have a1w:a1g P A.wd K mg base CX0 4 _ _ _ _:=g0u T
 have a5y:a1g P A.wd K mg base CX0 4 _ _ _ _:=h3x T
 have d2k:a1g P A.wd K mg base CX0 1 _ _ _ _:=g4s T
 have b9j:=T.b9j
 have a5o:=T.a5o
 have a5p:=T.a5p
 refine T.c2q.ok f4h (fun vs H Q E h=>?_) (fun cdv A' outer s H vs Q E hr h=>?_)
 ·obtain⟨_,rfl,_⟩:=c0m (by unfold f7w at h; exact h)
  rfl
 ·obtain⟨l,rfl,⟨d,hk,ok,hl,q⟩⟩:=c0m (by unfold f7w at h; exact h)
  cases d with
  | back y n =>
   have hu:=hr.units
   have a0q:a1y 1 _:=hr.mono (by decide)
   have a1n:a1y 4 _:=hr.mono (by decide)
   have a4t:a1y 4 _:=hr.mono (by decide)
   have c9u:a1y 2 _:=hr.mono (by decide)
   obtain⟨oy,na,nb⟩:=ok
   replace hl:H l=some (.lst [.str (fW y),.str (nW n)]):=hl
   refine⟨_,(a0i (b1y (a0l a0u a0q (by rfl) T.a3q T.a1m.kp T.a3p .nil a0w (a0g (pvF 0) (a0g a0j a0h))))
   (a0k (a0s (b4i T.g4d d2k c9u (by rfl) T.g9s T.f1j .nil a0w (a0g (a0l a1w a1n (by rfl) T.a7k T.a3s.kp T.a7j .nil a0w (a0g (a0r a3z (pvF 0) a0j (fun _ _=>rfl)) a0h)) (a0g (a0l a5y a4t (by rfl) T.b8i T.a5u.kp T.b8h .nil a0w (a0g (a0r a3z (pvF 0) a0j (fun _ _=>rfl)) a0h)) a0h)))))),?_⟩
   walk_at "rd"
   refine⟨_,hl,rfl,?_⟩
   walk_at "rd*"
   refine⟨y,rfl,oy,?_⟩
   rintro _ H1 ⟨g,rfl,n1,S1,h1⟩
   have hl1:=S1 _ _ hl
   clear hl
   walk_at "rd*"
   refine⟨n,rfl,na,nb,?_⟩
   intro x dx H2 n2 n3 nx S2 hdx hx
   refine⟨dx,hx,fun H3 B3 h3=>?_⟩
   rw [asNew]
   refine⟨rfl,?_⟩
   have gx:g≠x:=fun e=>by rw [e] at h1; rw [h1] at n2; cases n2
   exact q x H3 (S1.free n2) (fun b u e=>B3 _ _ (fun z=>by rw [z] at e; rw [S1 _ _ e] at n2; cases n2) (S2 _ _ (S1 _ _ e))) ⟨dx,_,h3,g,rfl,B3 _ _ gx (S2 _ _ h1)⟩
  | _=>simp [Dt.kd] at hk
theorem g6y (T : Tx K mg A) : a1g P A.wd K mg base CX0 6 A.b4n A.b6l ["values"] (f7w A 4) := by
 have a0u:a1g P A.wd K mg base CX0 1 _ _ _ _:=d7y T
 have a1w:a1g P A.wd K mg base CX0 4 _ _ _ _:=g0u T
 have a5y:a1g P A.wd K mg base CX0 4 _ _ _ _:=h3x T
 have f2g:a1g P A.wd K mg base CX0 1 _ _ _ _:=h0o T
 have d6n:a1g P A.wd K mg base CX0 1 _ _ _ _:=g4o T
 have d2l:a1g P A.wd K mg base CX0 1 _ _ _ _:=g4t T
 have b9k:=T.b9k
 have a5q:=T.a5q
 have a5r:=T.a5r
 refine T.c2r.ok d0p (fun vs H Q E h=>?_) (fun cdv A' outer s H vs Q E hr h=>?_)
 ·obtain⟨_,rfl,_⟩:=c0m (by unfold f7w at h; exact h)
  rfl
 ·obtain⟨l,rfl,⟨d,hk,ok,hl,q⟩⟩:=c0m (by unfold f7w at h; exact h)
  cases d with
  | hall y n =>
   have hu:=hr.units
   have a0q:a1y 1 _:=hr.mono (by decide)
   have a1n:a1y 4 _:=hr.mono (by decide)
   have a4t:a1y 4 _:=hr.mono (by decide)
   have d6o:a1y 1 _:=hr.mono (by decide)
   have d2m:a1y 1 _:=hr.mono (by decide)
   have c9v:a1y 2 _:=hr.mono (by decide)
   obtain⟨oy,yl,na,nb⟩:=ok
   replace hl:H l=some (.lst [.str (fW y),.str (nW n)]):=hl
   refine⟨_,(a0i (b1y (a0l a0u a0q (by rfl) T.a3q T.a1m.kp T.a3p .nil a0w (a0g (pvF 0) (a0g a0j a0h))))
   (a0i (a0z (i:=1) d0p.nd rfl (Or.inl rfl) (a0l a1w a1n (by rfl) T.a7k T.a3s.kp T.a7j .nil a0w (a0g (a0r a3z (pvF 0) a0j (fun _ _=>rfl)) a0h)))
   (a0i (a4o (b3w (a3m (a0l d6n d2m (by rfl) T.f4p T.c0q.kp T.f4o .nil a0w (a0g (a0l f2g d6o (by rfl) T.g0i T.c5s.kp T.g0h .nil a0w (a0g (pvF 1) a0h)) (a0g (c1z (a0g a0j (a0g a0j a0h))) a0h)))))
   (a0k a6q)
   a1h)
   (a0k (a0s (b4i T.g4e d2l c9v (by rfl) T.g9t T.f1l .nil a0w (a0g (pvF 1) (a0g (a0l a5y a4t (by rfl) T.b8i T.a5u.kp T.b8h .nil a0w (a0g (a0r a3z (pvF 0) a0j (fun _ _=>rfl)) a0h)) a0h)))))))),?_⟩
   walk_at "rd"
   refine⟨_,hl,rfl,?_⟩
   walk_at "rd*"
   refine⟨y,rfl,oy,?_⟩
   rintro _ H1 ⟨g,rfl,n1,S1,h1⟩
   have hl1:=S1 _ _ hl
   clear hl
   walk_at "rd"
   refine⟨y,h1,?_⟩
   rintro _ H2 ⟨a,rfl,n2,S2,h2⟩
   walk_at "rd"
   refine fun u H3 n3 S3 h3=>?_
   have h3':H3 u=some (.tup (c8g 1)):=h3
   have S13:=S2.trans S3
   have b1:=oy.b.1
   have b2:=oy.b.2
   have ab:=g4u b1
   have hl3:=S13 _ _ hl1
   clear h3 hl1
   have un:(Rat.abs y).num*((1:Rat).den:Int) < (1:Rat).num*((Rat.abs y).den:Int):=by
    rw [f7k,f1t]
    show (y.num.natAbs:Int)*1 < 1*(y.den:Int)
    omega
   walk_at "rd"
   refine⟨Rat.abs y,1,⟨S3 _ _ h2,h3',by omega,by rw [f1t]; omega,by decide,by decide⟩,?_⟩
   walk_at "rd*"
   refine⟨n,rfl,na,nb,?_⟩
   intro x dx H4 n4 n5 nx S4 hdx hx
   refine⟨dx,hx,fun H5 B5 h5=>?_⟩
   rw [asNew]
   refine⟨rfl,?_⟩
   have h1':=S13 _ _ h1
   have S03:=S1.trans S13
   have gx:g≠x:=fun e=>by rw [e] at h1'; rw [h1'] at n4; cases n4
   exact q x H5 (S03.free n4) (fun b u e=>B5 _ _ (fun z=>by rw [z] at e; rw [S03 _ _ e] at n4; cases n4) (S4 _ _ (S03 _ _ e))) ⟨dx,_,h5,g,rfl,B5 _ _ gx (S4 _ _ h1')⟩
  | _=>simp [Dt.kd] at hk
theorem Crn.i3r{l:Addr}{H H':Hp}{ps:List Addr}{cs:List (Int×Rat)}{xs:List V}(h:Crn H ps cs)(hl:H l=some (.lst xs))(S:b3v l H H'):Crn H' ps cs :=
 ⟨h.1,fun i p c e1 e2=>(h.2 i p c e1 e2).elim fun g z=>⟨g,S _ _ (fun e=>by have:=z.1; rw [e,hl] at this; cases this) z.1,S _ _ (fun e=>by have:=z.2; rw [e,hl] at this; cases this) z.2⟩⟩
theorem Crn.nil{H:Hp}:Crn H [] []:=⟨rfl,fun i p r e=>by simp at e⟩
theorem Crn.snoc{H:Hp}{ps:List Addr}{cs:List (Int×Rat)}{p g:Addr}{a:Int}{y:Rat}(h:Crn H ps cs)(hp:H p=some (.tup [.int a,.ref g]))(hg:H g=some (.tup (c8g y))):Crn H (ps++[p]) (cs++[(a,y)]):=by
 refine⟨by rw [List.length_append,List.length_append,h.1]; rfl,fun i p' c' e1 e2=>?_⟩
 by_cases hi:i < ps.length
 ·rw [List.getElem?_append_left hi] at e1
  rw [List.getElem?_append_left (by rw [<- h.1]; exact hi)] at e2
  exact h.2 i p' c' e1 e2
 ·rw [List.getElem?_append_right (by omega)] at e1
  rw [List.getElem?_append_right (by rw [<- h.1]; omega)] at e2
  rw [<- h.1] at e2
  cases hz:i - ps.length with
  | zero =>
   rw [hz] at e1 e2
   simp at e1 e2
   subst e1 e2
   exact⟨g,hp,hg⟩
  | succ n =>
   rw [hz] at e1
   simp at e1
theorem i3s (T : Tx K mg A) : a1g P A.wd K mg base CX0 5 A.a6u A.a7h ["text"] i7f := by
 have a1w:a1g P A.wd K mg base CX0 4 _ _ _ _:=g0u T
 have a1v:a1g P A.wd K mg base CX0 3 _ _ _ _:=h0y T
 refine T.a8j.ok b8o (fun vs H Q E h=>?_) (fun cdv A' outer s H vs Q E hr h=>?_)
 ·obtain⟨_,rfl,_⟩:=d2t (by unfold i7f at h; exact h)
  rfl
 ·obtain⟨x,rfl,⟨c,hx,c0,c1,oy,q⟩⟩:=d2t (by unfold i7f at h; exact h)
  subst hx
  have hu:=hr.units
  have a1n:a1y 4 _:=hr.mono (by decide)
  have a1p:a1y 3 _:=hr.mono (by decide)
  have sp:=f9n (c:=c)
  have cl:=h5f (c:=c) (by omega) oy.b.1 oy.b.2
  have hs:sizeLine=16777216:=sizeLine_eq
  have d1:((⟨#[61]⟩:Str).length == 0)=false:=rfl
  have d2:(cW c).length<=sizeLine:=by omega
  refine⟨_,(a0i (a0z (i:=1) b8o.nd rfl (Or.inl rfl) (b1o a4j PySem.F.plainAttrs_str PySem.F.slot_str_split PySem.F.type_str_split b8m (pvF 0) (a0g a0m a0h)))
   (a0i (a4o (a0t (c1y hu) (a0y a3l (by rfl) T.c4w boot_len (a0g (pvF 1) a0h)) a0j (a1i _))
   (a0k a6q)
   a1h)
   (a0k (a0s (c1z (a0g (a0l a1v a1p (by rfl) T.a6w T.a3i.kp T.a6v .nil a0w (a0g (a0r a3z (pvF 1) a0j (fun _ _=>rfl)) (a0g a0j (a0g (a1o (v:=.int 100000) (by rfl) T.f4u T.d0s) a0h)))) (a0g (a0l a1w a1n (by rfl) T.a7k T.a3s.kp T.a7j .nil a0w (a0g (a0r a3z (pvF 1) a0j (fun _ _=>rfl)) a0h)) a0h))))))),?_⟩
  rw [h7h]
  walk_at "rd*"
  refine⟨by omega,fun l H1 n1 S1 h1=>?_⟩
  walk_at "rd*"
  have e:((c.1.toNat:Nat):Int)=c.1:=Int.toNat_of_nonneg c0
  refine⟨c.1.toNat,by rw [c8h,e],by omega,by omega,by omega,c.2,rfl,oy,?_⟩
  rw [e]
  rintro _ H2 ⟨g,rfl,n2,S2,h2⟩
  walk_at "rd"
  intro p H3 n3 S3 h3
  exact q p g H3 ((S1.trans S2).free n3) (S1.trans (S2.trans S3)) h3 (S3 _ _ h2)
theorem g3d (T : Tx K mg A) : a1g P A.wd K mg base CX0 7 A.b0j A.b2k ["values"] (f7w A 5) := by
 have a0u:a1g P A.wd K mg base CX0 1 _ _ _ _:=d7y T
 have c7t:a1g P A.wd K mg base CX0 5 _ _ _ _:=i3s T
 have g0v:a1g P A.wd K mg base CX0 5 _ _ _ _:=h0u T
 have b1w:=T.b1w
 have a3g:=T.a3g
 have a3o:=T.a3o
 have a3w:=T.a3w
 refine T.b7g.ok a9j (fun vs H Q E h=>?_) (fun cdv A' outer s H vs Q E hr h=>?_)
 ·obtain⟨_,rfl,_⟩:=c0m (by unfold f7w at h; exact h)
  rfl
 ·obtain⟨l,rfl,⟨d,hk,ok,hl,q⟩⟩:=c0m (by unfold f7w at h; exact h)
  cases d with
  | swell cs =>
   have hu:=hr.units
   have a0q:a1y 1 _:=hr.mono (by decide)
   have c4y:a1y 5 _:=hr.mono (by decide)
   have f7p:a1y 6 _:=hr.mono (by decide)
   have ok:f5u cs:=ok
   have L1:=ok.2.2.1
   have L12:=ok.2.2.2
   have hs:sizeLine=16777216:=sizeLine_eq
   have jl:=ok.i6t
   have sp:=d3g L1
   have d1:((⟨#[44]⟩:Str).length == 0)=false:=rfl
   replace hl:H l=some (.lst [.str (Str.join ⟨#[44]⟩ (cs.map cW))]):=hl
   refine⟨_,(a0i (b1y (a0l a0u a0q (by rfl) T.a3q T.a1m.kp T.a3p .nil a0w (a0g (pvF 0) (a0g a0j a0h))))
   (a0i (h6q (i := 1) a9j.nd rfl rfl (b8k (b1o a4j PySem.F.plainAttrs_str PySem.F.slot_str_split PySem.F.type_str_split b8m (a0r a3z (pvF 0) a0j (fun _ _ => rfl)) (a0g a0m a0h))) (fun _ _ _ _ _ => (a0l c7t c4y (by rfl) T.d3w T.a8j.kp T.d3v .nil a0w (a0g (pvF 0) a0h))) (g1g (sc := a0n d0o) (N := ["values", "corners", "left", "right"]) rfl rfl (by decide +kernel)) rfl)
   (a0i (a4o (a0t c8m (a0y a3l (by rfl) T.c4w boot_len (a0g (pvF 1) a0h)) (a1o (v:=.int 12) (by rfl) T.c9q T.b4w) (a1i _))
   (a0k a6q)
   a1h)
   (a0i (b8z PassesOwn.never rfl (g3t (by rfl) T.h3k (a0g (pvF 1) (a0g (a2g i6r (pvF 1) (a2h a0j) a4g) a0h))) (d9k (n:=2) rfl (a8n (a4y (i:=2) a9j.nd rfl (Or.inl rfl)) (a8n (a4y (i:=3) a9j.nd rfl (Or.inl rfl)) d2y)))
   (a0k (a4o (a0t i0t (a0r a3z (pvF 2) a0j (fun _ _=>rfl)) (a0r a3z (pvF 3) a0j (fun _ _=>rfl)) (a1i _))
   (a0k a6q)
   a1h)))
   (a0k (a0s (b4i T.g2f g0v f7p (by rfl) T.h3o T.g0j .nil a0w (a0g (pvF 1) a0h)))))))),?_⟩
   rw [g9a]
   walk_at "rd"
   refine⟨_,hl,rfl,?_⟩
   walk_at "rd*"
   refine⟨by omega,by omega,fun a H1 n1 S1 h1=>?_⟩
   walk_at "rd"
   refine⟨⟨_,SqL.of h1⟩,fun D H2 n2 S2 h2=>?_⟩
   refine d4v (xs:=(cs.map cW).map V.str) (fun i ys H'=>Same H1 H'/\H' D=some (.lst ys)/\∃ ps,ys=ps.map V.ref/\Crn H' ps (cs.take i)) ⟨S2,h2,[],rfl,by rw [List.take_zero]; exact Crn.nil⟩ (by rw [List.length_map,List.length_map,hs]; omega) ?_ ?_ ?_
   ·intro i ys H' hi ⟨S',h',ps,e,R⟩
    rw [List.length_map,List.length_map] at hi
    exact⟨h',SqL.of (S' _ _ h1),by rw [e,List.length_map,R.1,List.length_take]; omega⟩
   ·intro i x ys H' hx ⟨S',h',ps,e,R⟩
    rw [List.map_map,List.getElem?_map] at hx
    obtain⟨c,hc,rfl⟩:=Option.map_eq_some_iff.mp hx
    obtain⟨o1,o2,oy⟩:=ok.1 c (List.mem_of_getElem? hc)
    walk_at "rd"
    refine⟨c,rfl,o1,o2,oy,fun p g H3 n3 S3 h3 hg=>⟨S3 _ _ h',fun H4 B4 h4=>⟨(S'.trans S3).step n2 B4,h4,ps++[p],by rw [e,List.map_append]; rfl,?_⟩⟩⟩
    rw [List.take_add_one,hc]
    exact ((R.same S3).snoc h3 hg).i3r (S3 _ _ h') B4
   ·intro ys H3 ⟨S3,h3,ps,e,R⟩
    rw [List.length_map,List.length_map,List.take_length] at R
    subst e
    have pl:=R.1
    have ln:¬ (12:Int) < (cs.length:Int):=by omega
    clear h2 sp jl
    walk_at "rd*"
    refine fun c2 H4 n4 S4 h4=>?_
    have e2:d0z (ps.map V.ref) (some 1) none=(ps.drop 1).map V.ref:=by
     show f5q (ps.map V.ref) (some ((1:Nat):Int)) none=_
     rw [b1p,List.map_drop]
    rw [e2] at h4
    have h34:=S4 _ _ h3
    clear e2 h3
    walk_at "rd*"
    obtain⟨Pv,pin,pout⟩:=f8w (fun i σ H'=>∃ (v2 v3:Option V),σ = [some (.ref l),some (.ref D),v2,v3]/\Same H4 H')
    refine f5t (xs:=ps.map V.ref) (ys:=(ps.drop 1).map V.ref) Pv (pin _ _ _ ⟨_,_,rfl,Same.refl _⟩) ?_ ?_ ?_
    ·intro i σ H5 hp
     obtain⟨v2,v3,rfl,S5⟩:=pout _ _ _ hp
     exact⟨SqL.of (S5 _ _ h34),SqL.of (S5 _ _ h4)⟩
    ·intro i x y σ H5 p H6 hx hy hp np S6 h6
     obtain⟨v2,v3,rfl,S5⟩:=pout _ _ _ hp
     obtain⟨pc,c,g,rfl,hc,hpc,hg⟩:=R.get hx
     have hy':(ps.map V.ref)[i+1]? = some y:=by
      rw [List.map_drop,List.getElem?_drop] at hy
      rwa [Nat.add_comm] at hy
     obtain⟨pd,d,gd,rfl,hd,hpd,hgd⟩:=R.get hy'
     have lt:=ok.2.1 i c d hc hd
     have nlt:¬ d.1<=c.1:=by omega
     have SS:=S4.trans (S5.trans S6)
     have i9m:=SS _ _ hpc
     have hpd':=SS _ _ hpd
     clear hpc hpd h34 h4 hg hgd
     walk_at "rd*"
     exact pin _ _ _ ⟨_,_,rfl,S5.trans S6⟩
    ·intro σ H5 hp
     obtain⟨v2,v3,rfl,S5⟩:=pout _ _ _ hp
     walk_at "rd"
     intro x dx H6 n6 n7 nx S6 hdx hx
     have hl6:=S6 _ _ (S5 _ _ h34)
     have S36:=S4.trans (S5.trans S6)
     have S03:=S1.trans S3
     have S05:=S03.trans (S4.trans S5)
     refine⟨dx,ps,cs,hx,hl6,R.same S36,f5u.crn ok,L1,L12,fun ct ln S ss us H7 B7 nct h7 hct hln TP sok=>?_⟩
     rw [asNew]
     refine⟨rfl,q x H7 (S05.free n6) (fun b u e=>B7 _ _ (fun z=>by rw [z] at e; rw [S05 _ _ e] at n6; cases n6) (S6 _ _ (S05 _ _ e))) ⟨dx,_,h7,ct,ln,S,ss,us,ps,rfl,hct,hln,TP,sok,(R.same S36).d4n hx B7⟩⟩
  | _=>simp [Dt.kd] at hk
theorem h0z (T : Tx K mg A) : a1g P A.wd K mg base CX0 8 A.b8v A.b6m ["word"] (h0g A) := by
 have f2h:a1g P A.wd K mg base CX0 6 _ _ _ _:=g6v T
 have d6p:a1g P A.wd K mg base CX0 6 _ _ _ _:=g3c T
 have f2i:a1g P A.wd K mg base CX0 6 _ _ _ _:=g6w T
 have f2j:a1g P A.wd K mg base CX0 6 _ _ _ _:=g6x T
 have f2k:a1g P A.wd K mg base CX0 6 _ _ _ _:=g6y T
 have d6q:a1g P A.wd K mg base CX0 7 _ _ _ _:=g3d T
 refine T.a4k.ok d0q (fun vs H Q E h=>?_) (fun cdv A' outer s H vs Q E hr h=>?_)
 ·obtain⟨_,rfl,_⟩:=d2t (by unfold h0g at h; exact h)
  rfl
 ·obtain⟨x,rfl,⟨d,ok,hx,q⟩⟩:=d2t (by unfold h0g at h; exact h)
  subst hx
  have hu:=hr.units
  have d6r:a1y 6 _:=hr.mono (by decide)
  have d2n:a1y 6 _:=hr.mono (by decide)
  have d6s:a1y 6 _:=hr.mono (by decide)
  have d6t:a1y 6 _:=hr.mono (by decide)
  have d6u:a1y 6 _:=hr.mono (by decide)
  have d2o:a1y 7 _:=hr.mono (by decide)
  have dk:=T.f4v
  have sp:=d.split
  have wl:=d.wlen ok
  have vn:=d.vn
  have hs:sizeLine=16777216:=sizeLine_eq
  have d1:((⟨#[58]⟩:Str).length == 0)=false:=rfl
  obtain⟨f,hf⟩:∃ f,PySem.W.nsIn K A.a1k d.kind=some (some (.ref f)):=by
   cases d with
   | gain=>exact⟨_,T.a7n⟩
   | delay=>exact⟨_,T.a6o⟩
   | echo=>exact⟨_,T.a7o⟩
   | back=>exact⟨_,T.a7p⟩
   | hall=>exact⟨_,T.a7q⟩
   | swell=>exact⟨_,T.a6p⟩
  refine ⟨_, (a0i (a4o (b3w (a3m (a0y (d0k .str) (by rfl) T.a1t boot_isinstance (a0g (pvF 0) (a0g (d1l (v := .ty "str") (u := .type "str") (by rfl) T.g9n rfl rfl) a0h)))))
   (a0k a6q)
   a1h)
   (a0i (a0z (i:=1) d0q.nd rfl (Or.inl rfl) (b1o a4j PySem.F.plainAttrs_str PySem.F.slot_str_split PySem.F.type_str_split b8m (pvF 0) (a0g a0m a0h)))
   (a0i (a4o (a0t (f9j (K:=K) (w:=A.wd) (by rfl) (by rfl)) (a0r a3z (pvF 1) a0j (fun _ _=>rfl)) (a1o (v:=.ref A.a1k) (by rfl) T.a4w rfl) (by rfl))
   (a0k a6q)
   a1h)
   (a0k (a0s (a3t (b1t f2h d6r T.c2o.kp T.g0k .nil a0w (a0r (g7g (K:=K) (w:=A.wd) (by rfl) (by rfl)) (a1o (v:=.ref A.a1k) (by rfl) T.a4w rfl) (a0r a3z (pvF 1) a0j (fun _ _=>rfl)) (fun _ _=>rfl)) (a0g (a2g d8h (pvF 1) (a2h a0j) a4g) a0h)) (a3t (b1t d6p d2n T.b6z.kp T.f4q .nil a0w (a0r (g7g (K:=K) (w:=A.wd) (by rfl) (by rfl)) (a1o (v:=.ref A.a1k) (by rfl) T.a4w rfl) (a0r a3z (pvF 1) a0j (fun _ _=>rfl)) (fun _ _=>rfl)) (a0g (a2g d8h (pvF 1) (a2h a0j) a4g) a0h)) (a3t (b1t f2i d6s T.c2p.kp T.g0l .nil a0w (a0r (g7g (K:=K) (w:=A.wd) (by rfl) (by rfl)) (a1o (v:=.ref A.a1k) (by rfl) T.a4w rfl) (a0r a3z (pvF 1) a0j (fun _ _=>rfl)) (fun _ _=>rfl)) (a0g (a2g d8h (pvF 1) (a2h a0j) a4g) a0h)) (a3t (b1t f2j d6t T.c2q.kp T.g0m .nil a0w (a0r (g7g (K:=K) (w:=A.wd) (by rfl) (by rfl)) (a1o (v:=.ref A.a1k) (by rfl) T.a4w rfl) (a0r a3z (pvF 1) a0j (fun _ _=>rfl)) (fun _ _=>rfl)) (a0g (a2g d8h (pvF 1) (a2h a0j) a4g) a0h)) (a3t (b1t f2k d6u T.c2r.kp T.g0n .nil a0w (a0r (g7g (K:=K) (w:=A.wd) (by rfl) (by rfl)) (a1o (v:=.ref A.a1k) (by rfl) T.a4w rfl) (a0r a3z (pvF 1) a0j (fun _ _=>rfl)) (fun _ _=>rfl)) (a0g (a2g d8h (pvF 1) (a2h a0j) a4g) a0h)) (b1t d6q d2o T.b7g.kp T.f4r .nil a0w (a0r (g7g (K:=K) (w:=A.wd) (by rfl) (by rfl)) (a1o (v:=.ref A.a1k) (by rfl) T.a4w rfl) (a0r a3z (pvF 1) a0j (fun _ _=>rfl)) (fun _ _=>rfl)) (a0g (a2g d8h (pvF 1) (a2h a0j) a4g) a0h)))))))))))),?_⟩
  rw [h7g]
  walk_at "rd*"
  refine⟨by omega,by omega,fun l H1 n1 S1 h1=>?_⟩
  clear sp wl
  walk_at "rd*"
  clear hf
  cases d with
  | gain y =>
   refine Or.inl ?_
   have rd:=T.a7n
   have q1:=ok
   clear ok
   replace h1 : H1 l = some (.lst [.str (Str.ofString "gain"), .str (fW y)]) := h1
   walk_at "rd*"
   refine fun m H2 n2 S2 h2=>?_
   have e2 : d0z [V.str (Str.ofString "gain"), V.str (fW y)] (some 1) none = (Dt.gain y).vals.map V.str := by
    show f5q _ (some ((1:Nat):Int)) none=_
    rw [b1p]
    rfl
   rw [e2] at h2
   walk_at "rd"
   exact⟨_,rfl,q1,h2,fun o H3 n3 S3 hp=>q o H3 ((S1.trans S2).free n3) (S1.trans (S2.trans S3)) hp⟩
  | delay n =>
   refine Or.inr (Or.inl ?_)
   have rd:=T.a6o
   have q1:=ok
   clear ok
   replace h1 : H1 l = some (.lst [.str (Str.ofString "delay"), .str (nW n)]) := h1
   walk_at "rd*"
   refine fun m H2 n2 S2 h2=>?_
   have e2 : d0z [V.str (Str.ofString "delay"), V.str (nW n)] (some 1) none = (Dt.delay n).vals.map V.str := by
    show f5q _ (some ((1:Nat):Int)) none=_
    rw [b1p]
    rfl
   rw [e2] at h2
   walk_at "rd"
   exact⟨_,rfl,q1,h2,fun o H3 n3 S3 hp=>q o H3 ((S1.trans S2).free n3) (S1.trans (S2.trans S3)) hp⟩
  | echo y n t =>
   refine Or.inr (Or.inr (Or.inl ?_))
   have rd:=T.a7o
   have q1:=ok
   clear ok
   replace h1 : H1 l = some (.lst [.str (Str.ofString "echo"), .str (fW y), .str (nW n), .str (nW t)]) := h1
   walk_at "rd*"
   refine fun m H2 n2 S2 h2=>?_
   have e2 : d0z [V.str (Str.ofString "echo"), V.str (fW y), V.str (nW n), V.str (nW t)] (some 1) none = (Dt.echo y n t).vals.map V.str := by
    show f5q _ (some ((1:Nat):Int)) none=_
    rw [b1p]
    rfl
   rw [e2] at h2
   walk_at "rd"
   exact⟨_,rfl,q1,h2,fun o H3 n3 S3 hp=>q o H3 ((S1.trans S2).free n3) (S1.trans (S2.trans S3)) hp⟩
  | back y n =>
   refine Or.inr (Or.inr (Or.inr (Or.inl ?_)))
   have rd:=T.a7p
   have q1:=ok
   clear ok
   replace h1 : H1 l = some (.lst [.str (Str.ofString "back"), .str (fW y), .str (nW n)]) := h1
   walk_at "rd*"
   refine fun m H2 n2 S2 h2=>?_
   have e2 : d0z [V.str (Str.ofString "back"), V.str (fW y), V.str (nW n)] (some 1) none = (Dt.back y n).vals.map V.str := by
    show f5q _ (some ((1:Nat):Int)) none=_
    rw [b1p]
    rfl
   rw [e2] at h2
   walk_at "rd"
   exact⟨_,rfl,q1,h2,fun o H3 n3 S3 hp=>q o H3 ((S1.trans S2).free n3) (S1.trans (S2.trans S3)) hp⟩
  | hall y n =>
   refine Or.inr (Or.inr (Or.inr (Or.inr (Or.inl ?_))))
   have rd:=T.a7q
   have q1:=ok
   clear ok
   replace h1 : H1 l = some (.lst [.str (Str.ofString "hall"), .str (fW y), .str (nW n)]) := h1
   walk_at "rd*"
   refine fun m H2 n2 S2 h2=>?_
   have e2 : d0z [V.str (Str.ofString "hall"), V.str (fW y), V.str (nW n)] (some 1) none = (Dt.hall y n).vals.map V.str := by
    show f5q _ (some ((1:Nat):Int)) none=_
    rw [b1p]
    rfl
   rw [e2] at h2
   walk_at "rd"
   exact⟨_,rfl,q1,h2,fun o H3 n3 S3 hp=>q o H3 ((S1.trans S2).free n3) (S1.trans (S2.trans S3)) hp⟩
  | swell cs =>
   refine Or.inr (Or.inr (Or.inr (Or.inr (Or.inr ?_))))
   have rd:=T.a6p
   have q1:=ok
   clear ok
   replace h1 : H1 l = some (.lst [.str (Str.ofString "swell"), .str (Str.join ⟨#[44]⟩ (cs.map cW))]) := h1
   walk_at "rd*"
   refine fun m H2 n2 S2 h2=>?_
   have e2 : d0z [V.str (Str.ofString "swell"), V.str (Str.join ⟨#[44]⟩ (cs.map cW))] (some 1) none = (Dt.swell cs).vals.map V.str := by
    show f5q _ (some ((1:Nat):Int)) none=_
    rw [b1p]
    rfl
   rw [e2] at h2
   walk_at "rd"
   exact⟨_,rfl,q1,h2,fun o H3 n3 S3 hp=>q o H3 ((S1.trans S2).free n3) (S1.trans (S2.trans S3)) hp⟩
theorem c6l{c:Nat}:∀ {a a' b b':List Nat},a++c :: b=a'++c :: b'->c∉a->c∉a'->a=a'/\b=b'
 | [],[],_,_,h,_,_=>by simpa using h
 | [],d :: a',_,_,h,_,h2=>by
  rw [List.nil_append,List.cons_append,List.cons.injEq] at h
  exact absurd (by rw [h.1]; exact List.mem_cons_self) h2
 | d :: a,[],_,_,h,h1,_=>by
  rw [List.nil_append,List.cons_append,List.cons.injEq] at h
  exact absurd (by rw [h.1]; exact List.mem_cons_self) h1
 | d :: a,d' :: a',_,_,h,h1,h2=>by
  rw [List.cons_append,List.cons_append,List.cons.injEq] at h
  obtain⟨e1,e2⟩:=c6l h.2 (fun q=>h1 (List.mem_cons_of_mem _ q)) (fun q=>h2 (List.mem_cons_of_mem _ q))
  exact⟨by rw [h.1,e1],e2⟩
theorem g4v{l:List Nat}:lead l=false ↔ ∀ r,l=48 :: r->r = []:=by
 unfold lead
 split
 ·rename_i d r
  simp
 ·rename_i h
  simp only [true_iff]
  intro r e
  cases r with
  | nil=>rfl
  | cons d r=>exact absurd e (h d r)
theorem a9u(n:Nat):txt (n:Int)=dg n:=if_neg (by omega)
theorem d4o{x:Str}{n:Nat}:h1j x=some n ↔ x=nW n:=by
 unfold h1j
 constructor
 ·intro h
  split at h
  ·rename_i q
   rw [Bool.and_eq_true,c0g,Bool.not_eq_true',g4v] at q
   have e:=g5s ⟨q.1.1,q.1.2,q.2⟩
   cases h
   refine a6r ?_
   rw [c4n,a9u,e]
  ·cases h
 ·rintro rfl
  have c:=h3b n
  rw [c4n,a9u,if_pos (by rw [c0g.mpr ⟨c.1,c.2.1⟩,g4v.mpr c.2.2]; rfl),c8o]
theorem i3t{x:Str}{t b:Int}(g:Good (sg x) t b)(h1:t.natAbs<=1000)(h2:b<=1000):IsG x:=by
 have hp:=g.pos
 have hl:=g.low
 refine⟨⟨t,b.toNat,by omega,?_⟩,a6r ?_,h1,by show b.toNat<=1000; omega⟩
 ·show Nat.gcd t.natAbs b.toNat=1
  rw [<- hl]
  unfold Int.gcd
  congr 1
  omega
 ·rw [f9l,g.eq]
  show g1i t b=g1i t ((b.toNat:Nat):Int)
  rw [Int.toNat_of_nonneg (by omega)]
theorem g4w{x:Str}:IsPart x ↔ ∃ d:Dt,d.ok/\a3r x ⟨#[58]⟩=d.kind :: d.vals:=by
 constructor
 ·rintro ⟨d,ok,rfl⟩
  exact⟨d,ok,d.split⟩
 ·rintro ⟨d,ok,e⟩
  refine⟨d,ok,?_⟩
  unfold Dt.word
  rw [<- e,d9l]
  exact a6r (by rw [StrLaws.join_split])
theorem f7q{x:Str}{c:Nat}:x=Str.join ⟨#[c]⟩ (a3r x ⟨#[c]⟩):=by
 rw [d9l]
 exact a6r (by rw [StrLaws.join_split])
theorem g4x{c:Nat}:∀ {ps:List Str} {p:Str},p∈ps->p.length<=(Str.join ⟨#[c]⟩ ps).length
 | [q],p,h=>by
  obtain rfl:=List.mem_singleton.mp h
  exact Nat.le_refl _
 | q :: q' :: r,p,h=>by
  rw [<- a3k (Str.join ⟨#[c]⟩ (q :: q' :: r)),a9i,List.length_append,List.length_cons,a3k,a3k]
  rcases List.mem_cons.mp h with rfl | h
  ·omega
  ·have:=g4x (c:=c) h
   omega
theorem d4p{x p:Str}{c:Nat}(h:p∈a3r x ⟨#[c]⟩):p.length<=x.length:=by
 have:=g4x (c:=c) h
 rwa [<- f7q] at this
theorem h8q (T : Tx K mg A) : a1g P A.wd K mg base CX0 2 A.b2n A.b1z ["text"] h0h := by
 have a9t:a1g P A.wd K mg base CX0 1 _ _ _ _:=d0w T
 refine T.b6w.ok d9z (fun vs H Q E h=>?_) (fun cdv A' outer s H vs Q E hr h=>?_)
 ·obtain⟨_,rfl,_⟩:=d2t (by unfold h0h at h; exact h)
  rfl
 ·obtain⟨x,rfl,⟨xl,q⟩⟩:=d2t (by unfold h0h at h; exact h)
  have hu:=hr.units
  have a8k:a1y 1 _:=hr.mono (by decide)
  have hs:sizeLine=16777216:=sizeLine_eq
  have sl : Str.ofString "0" = ⟨#[48]⟩ := by decide +kernel
  refine⟨_,(a0i (a4o (pw_or (b3w (a3m (a0l a9t a8k (by rfl) T.c3z T.a7u.kp T.c3y .nil a0w (a0g (pvF 0) a0h)))) (pw_or1 (a0t c8m (a0y a3l (by rfl) T.c4w boot_len (a0g (pvF 0) a0h)) (a1o (v:=.int 13) (by rfl) T.b5g T.a5z) (a1i _)))).pt
   (a0k (a0s c5h))
   a1h)
   (a0i (a4o (pw_and (a3m (b1o a4j PySem.F.plainAttrs_str PySem.F.slot_str_startswith PySem.F.type_str_startswith b9z (pvF 0) (a0g a0m a0h))) (pw_and1 (a0t (c1y hu) (pvF 0) a0m (a1i _)))).pt
   (a0k (a0s c5h))
   a1h)
   (a0k (a0s (a5i a8l (by rfl) T.d6j boot_int (a0g (pvF 0) a0h)))))),?_⟩
  rw [sl]
  walk_at "rd"
  unfold i2y h1j at q
  cases hf:f2o (sg x) with
  | false =>
   rw [if_pos rfl]
   rw [hf,Bool.false_and,if_neg Bool.false_ne_true] at q
   exact q
  | true =>
   rw [if_neg (by decide)]
   refine⟨by omega,?_⟩
   rw [hf,Bool.true_and] at q
   have ff:=c0g.mp hf
   have h3y:lead (sg x)=(Txt.startswith x ⟨#[48]⟩ && !decide (x=(⟨#[48]⟩:Str))):=by
    rw [g3q]
    unfold lead
    split
    ·rename_i d r e
     rw [e,decide_eq_false (p:=x=(⟨#[48]⟩:Str)) (fun z=>by rw [z] at e; cases e)]
     rfl
    ·rename_i h
     cases e:sg x with
     | nil=>exact absurd e ff.2
     | cons c r =>
      by_cases hc:c=48
      ·subst hc
       cases r with
       | nil=>rw [show x=(⟨#[48]⟩:Str) from a6r e]; rfl
       | cons d r=>exact absurd e (h d r)
      ·rw [show decide ((c :: r)[0]? = some 48)=false from decide_eq_false (by simpa using hc)]
       rfl
   rw [h3y] at q
   by_cases h1:(13:Int) < (x.length:Int)
   ·rw [if_pos (.inl h1)]
    split at q
    ·rw [if_neg (by omega)] at q
     exact q
    ·exact q
   ·by_cases h2:Txt.startswith x ⟨#[48]⟩=true/\¬ x=(⟨#[48]⟩:Str)
    ·rw [if_pos (.inr h2)]
     rw [h2.1,decide_eq_false h2.2,if_neg (by decide)] at q
     exact q
    ·rw [if_neg (fun z=>z.elim h1 h2)]
     rw [if_pos ?_] at q
     ·replace q:Q (if x.length<=13 then V.int (NumText.digitsVal (sg x):Nat) else V.non) H:=q
      rw [if_pos (by omega)] at q
      exact⟨_,PySem.intText_digits ff.1 ff.2 (by omega),by omega,q⟩
     ·rw [Bool.not_eq_true',Bool.and_eq_false_iff]
      by_cases h3:Txt.startswith x ⟨#[48]⟩=true
      ·right
       rw [decide_eq_true (Classical.byContradiction fun z=>h2 ⟨h3,z⟩)]
       rfl
      ·exact .inl (Bool.eq_false_iff.mpr h3)
theorem g4y (T : Tx K mg A) : a1g P A.wd K mg base (CXE P A.wd) 3 A.a6s A.a6z ["text", "least", "most"] (h8b A) := by
 have d6m:a1g P A.wd K mg base CX0 2 _ _ _ _:=h8q T
 refine T.a3i.okX b8n (fun vs H Q E h=>?_) (fun cdv A' outer s H vs Q E hr h=>?_)
 ·obtain⟨_,_,_,rfl,_⟩:=f3p (by unfold h8b at h; exact h)
  rfl
 ·obtain⟨x,a,b,rfl,⟨m,n,ea,eb,nl,ml,xl,no,q⟩⟩:=f3p (by unfold h8b at h; exact h)
  subst ea eb
  have hu:=hr.units
  have d2h:a1y 2 _:=hr.mono (by decide)
  have hs:sizeLine=16777216:=sizeLine_eq
  have e0:Str.empty.length=0:=rfl
  have e1 : (Str.ofString "a number from ").length = 14 := by decide +kernel
  have e2 : (Str.ofString " to ").length = 4 := by decide +kernel
  have e3 : (Str.ofString " is due, in figures without noughts ahead").length = 41 := by decide +kernel
  have l1:=c4m (t:=(m:Int)) (n:=20) (by omega) (by decide)
  have l2:=c4m (t:=(n:Int)) (n:=20) (by omega) (by decide)
  have g1:=c8i (t:=(m:Int)) (n:=20) (by omega) (by decide)
  have g2:=c8i (t:=(n:Int)) (n:=20) (by omega) (by decide)
  obtain⟨R,hR⟩:∃ R:Prop,R=E (.ref A.a0o) none H:=⟨_,rfl⟩
  rw [<- hR] at q
  have key:i2y x = .non\/∃ i:Int,i2y x = .int i/\(i < m\/(n:Int) < i):=by
   unfold i2y
   cases hn:h1j x with
   | none=>exact .inl rfl
   | some i =>
    by_cases h13:x.length<=13
    ·refine .inr ⟨i,if_pos h13,?_⟩
     rcases Nat.lt_or_ge i m with z | z
     ·exact .inl (by omega)
     ·rcases Nat.lt_or_ge n i with y | y
      ·exact .inr (by omega)
      ·exact absurd ⟨i,d4o.mp hn,z,y⟩ no
    ·exact .inl (if_neg h13)
  refine⟨_,(a0i (a0z (i:=3) b8n.nd rfl (Or.inl rfl) (a0l d6m d2h (by rfl) T.f4n T.b6w.kp T.f4m .nil a0w (a0g (pvF 0) a0h)))
   (a0i (a4o (pw_or (a0t g3k (pvF 3) c5h (a1i _)) (pw_or (a0t of_lt (pvF 3) (pvF 1) (a1i _)) (pw_or1 (a0t c8m (pvF 3) (pvF 2) (a1i _))))).pt
   (a0k (a9h T.b8r T.a9s a9g rfl (by rfl) (a0g (b1q (a3h a0m (a3h (b4z (pvF 1)) (a3h a0m (a3h (b4z (pvF 2)) (a3h a0m d1g)))))) a0h)))
   a1h)
   (a0k (a0s (pvF 3))))),?_⟩
  walk_at "rd"
  rw [<- hR]
  simp only [strLen_append,e0,e1,e2,e3]
  refine⟨xl,?_⟩
  rcases key with hv | ⟨i,hv,hi⟩
  ·rw [hv,if_pos rfl]
   exact⟨by omega,by omega,by omega,by omega,by omega,by omega,by omega,by omega,by omega,q⟩
  ·rw [hv,if_neg (by simp)]
   show if i < (m:Int) then _ else _
   split
   ·exact⟨by omega,by omega,by omega,by omega,by omega,by omega,by omega,by omega,by omega,q⟩
   ·show if (n:Int) < i then _ else _
    rw [if_pos (by omega)]
    exact⟨by omega,by omega,by omega,by omega,by omega,by omega,by omega,by omega,by omega,q⟩
theorem h1a (T : Tx K mg A) : a1g P A.wd K mg base (CXE P A.wd) 4 A.a9n A.a9o ["text"] (h8c A) := by
 have a1v:a1g P A.wd K mg base (CXE P A.wd) 3 _ _ _ _:=g4y T
 refine T.a5u.okX d7m (fun vs H Q E h=>?_) (fun cdv A' outer s H vs Q E hr h=>?_)
 ·obtain⟨_,rfl,_⟩:=d2t (by unfold h8c at h; exact h)
  rfl
 ·obtain⟨x,rfl,⟨xl,no,q⟩⟩:=d2t (by unfold h8c at h; exact h)
  have hu:=hr.units
  have a1p:a1y 3 _:=hr.mono (by decide)
  refine⟨_,(a0k (a0s (a0l a1v a1p (by rfl) T.a6w T.a3i.kp T.a6v .nil a5k (a0g (pvF 0) (a0g a0j (a0g (a1o (v:=.int 1000) (by rfl) T.c4h T.b3u) a0h)))))),?_⟩
  walk_at "rd"
  exact⟨1,rfl,1000,rfl,by decide,by decide,xl,no,q⟩
theorem f4z (T : Tx K mg A) : a1g P A.wd K mg base (CXE P A.wd) 1 A.a6t A.a7g ["values", "count"] (h8d A) := by
 refine T.a1m.okX d1i (fun vs H Q E h=>?_) (fun cdv A' outer s H vs Q E hr h=>?_)
 ·obtain⟨_,_,rfl,_⟩:=f9p (by unfold h8d at h; exact h)
  rfl
 ·obtain⟨l,c,rfl,⟨xs,hl,xl,e,q⟩⟩:=f9p (by unfold h8d at h; exact h)
  have hu:=hr.units
  have hs:sizeLine=16777216:=sizeLine_eq
  have c7u:1<=sizeLine:=by decide
  refine⟨_,(a0k (a4o (a0t (c1y hu) (a0y a3l (by rfl) T.c4w boot_len (a0g (pvF 0) a0h)) (pvF 1) (a1i _))
   (a0k (a9h T.b8r T.a9s a9g rfl (by rfl) (a0g a0m a0h)))
   a1h)),?_⟩
  walk_at "rd*"
  try omega
theorem h3z (T : Tx K mg A) : a1g P A.wd K mg base (CXF true P A.wd) 3 A.a4s A.a5g ["text"] (g2x A.a0p) := by
 have a9t:a1g P A.wd K mg base CX0 1 _ _ _ _:=d0w T
 have a1r:a1g P A.wd K mg base CX0 1 _ _ _ _:=g4n T
 have b8j:a1g P A.wd K mg base CX0 2 _ _ _ _:=c7r T
 refine T.a5t.okN a2z (fun vs H Q E h=>?_) (fun cdv A' outer s H vs Q E hr h=>?_)
 ·obtain⟨_,rfl,_⟩:=h8y (by unfold g2x at h; exact h)
  rfl
 ·obtain⟨v,rfl,⟨g,k⟩⟩:=h8y (by unfold g2x at h; exact h)
  have hu:=hr.units
  have a8k:a1y 1 _:=hr.mono (by decide)
  have a1l:a1y 1 _:=hr.mono (by decide)
  have b2m:a1y 2 _:=hr.mono (by decide)
  have c7u:1<=sizeLine:=by decide
  refine ⟨_, (a0i (a4o (b3w (a3m (a0y (d0k .str) (by rfl) T.a1t boot_isinstance (a0g (pvF 0) (a0g (d1l (v := .ty "str") (u := .type "str") (by rfl) T.g9n rfl rfl) a0h)))))
   (a0k (a9h T.d4k T.c3i a9g rfl (by rfl) (a0g a0m a0h)))
   a1h)
   (a0i (a0z (i:=1) a2z.nd rfl (Or.inl rfl) (b1o a4j PySem.F.plainAttrs_str PySem.F.slot_str_split PySem.F.type_str_split b8m (pvF 0) (a0g a0m a0h)))
   (a0i (a4o (a0t (c1y hu) (a0y a3l (by rfl) T.c4w boot_len (a0g (pvF 1) a0h)) a0j (a1i _))
   (a0k (a9h T.d4k T.c3i a9g rfl (by rfl) (a0g a0m a0h)))
   a1h)
   (d1o (a0z (i:=2) a2z.nd rfl (Or.inl rfl) (g3i (a3m (b1o a4j PySem.F.plainAttrs_str PySem.F.slot_str_startswith PySem.F.type_str_startswith b9z (a0r a3z (pvF 1) a0j (fun _ _=>rfl)) (a0g a0m a0h))) (a2g d8h (a0r a3z (pvF 1) a0j (fun _ _=>rfl)) (a2h a0j) a4g) (a0r a3z (pvF 1) a0j (fun _ _=>rfl))))
   (a0i (b8z PassesOwn.leaving rfl (b8k (a8v (a0g (pvF 2) (a0g (a0r a3z (pvF 1) a0j (fun _ _=>rfl)) a0h)))) (a4y (i:=3) a2z.nd rfl (Or.inl rfl))
   (a0k (a4o (pw_or (b3w (a3m (a0l a9t a8k (by rfl) T.c3z T.a7u.kp T.c3y .nil a0w (a0g (pvF 3) a0h)))) (pw_or1 (a0t c8m (a0y a3l (by rfl) T.c4w boot_len (a0g (pvF 3) a0h)) (a1o (v:=.int 9) (by rfl) T.b5h T.a6g) (a1i _)))).pt
   (a0k (a9h T.d4k T.c3i a9g rfl (by rfl) (a0g a0m a0h)))
   a1h)))
   (a0i (a4o (a0t (b1n hu) (a5i a8l (by rfl) T.d6j boot_int (a0g (a0r a3z (pvF 1) a0j (fun _ _=>rfl)) a0h)) a0j (a1i _))
   (a0k (a9h T.d4k T.c3i a9g rfl (by rfl) (a0g a0m a0h)))
   a1h)
   (a0i (a0z (i:=4) a2z.nd rfl (Or.inl rfl) (a0l b8j b2m (by rfl) T.d0u T.b3k.kp T.d0t .nil a0w (a0g (a5i a8l (by rfl) T.d6j boot_int (a0g (a0r a3z (pvF 1) a0j (fun _ _=>rfl)) a0h)) (a0g (a5i a8l (by rfl) T.d6j boot_int (a0g (a0r a3z (pvF 1) a0j (fun _ _=>rfl)) a0h)) a0h))))
   (a0i (a4o (a0t (c1y hu) (a0l a1r a1l (by rfl) T.a5w T.a1z.kp T.a5v .nil a0w (a0g (pvF 4) a0h)) (pvF 0) (a1i _))
   (a0k (a9h T.d4k T.c3i a9g rfl (by rfl) (a0g a0m a0h)))
   a1h)
   (a0k (a0s (pvF 4))))))))))),?_⟩
  rcases g with ⟨x,rfl,xl,ng⟩ | ⟨ty,hty,hne⟩
  ·have k0:E (.ref A.a0p) none H:=k H (fun _ _ e=>e)
   have sl : Str.ofString "/" = ⟨#[47]⟩ := by decide +kernel
   have mi : Str.ofString "-" = ⟨#[45]⟩ := by decide +kernel
   have hs:sizeLine=16777216:=sizeLine_eq
   have sle:=split_le x 47
   rw [sl,mi]
   clear sl mi
   have d1:((⟨#[47]⟩:Str).length == 0)=false:=rfl
   have d2:x.length<=sizeLine:=by omega
   have d3:(a3r x ⟨#[47]⟩).length<=sizeLine:=by omega
   have xl':id (x.length<=1000000):=xl
   have ng':id (∀ t b,¬ Good (sg x) t b):=ng
   clear hs sle xl ng
   walk_at "rd*"
   intro p H1 n1 S1 h1'
   have k1:E (.ref A.a0p) none H1:=k H1 S1
   walk_at "rd*"
   by_cases hl:(a3r x ⟨#[47]⟩).length=2
   ·obtain⟨h0,h1,sp⟩:∃ h0 h1,a3r x ⟨#[47]⟩ = [h0,h1]:=by
     match a3r x ⟨#[47]⟩,hl with
     | [a,b],_=>exact⟨a,b,rfl⟩
    have cut:=g8q sp
    have hz:h0.length+h1.length+1=x.length:=by
     rw [<- a3k,<- a3k,<- a3k,cut]
     simp
     omega
    have d4:h0.length<=sizeLine:=by omega
    have d5:h1.length<=sizeLine:=by omega
    have cut':id (sg x=sg h0++47 :: sg h1):=cut
    clear hl cut hz
    rw [sp] at h1' ⊢
    clear sp
    rw [if_neg (by simp)]
    refine⟨fun σ' H'=>∃ top:Str,(sg h0=45 :: sg top\/top=h0/\∀ r,sg h0≠45 :: r)/\σ' = [some (.str x),some (.ref p),some (.str top),none,none]/\H'=H1,?_,?_⟩
    ·walk_at "rd*"
     rw [g3q]
     have z:∀ r,sg h0=45 :: r->r=(sg h0).drop 1:=fun r e=>by rw [e]; rfl
     split
     ·rename_i hq
      rw [decide_eq_true_eq] at hq
      have hlen:1<=h0.length:=by
       rw [<- a3k]
       exact (List.getElem?_eq_some_iff.mp hq).1
      refine⟨_,.inl ?_,rfl⟩
      have z:=f5s (x:=h0) (i:=1) hlen
      rw [show ((1:Nat):Int)=1 from rfl] at z
      rw [z]
      cases e:sg h0 with
      | nil=>rw [e] at hq; cases hq
      | cons c r =>
       rw [e] at hq
       cases hq
       rfl
     ·rename_i hq
      rw [decide_eq_true_eq] at hq
      refine⟨_,.inr ⟨rfl,fun r e=>hq (by rw [e]; rfl)⟩,rfl⟩
    ·rintro σ' H' ⟨top,ht,rfl,rfl⟩
     have dt:top.length<=sizeLine:=by
      rcases ht with e | e
      ·have:=congrArg List.length e
       rw [a3k,List.length_cons,a3k] at this
       omega
      ·rw [e.1]; exact d4
     have ht':=(id ht:id _)
     clear ht
     walk_at "rd*"
     intro q H2 n2 S2 h2
     have k2:E (.ref A.a0p) none H2:=k H2 fun c u e=>S2 _ _ (S1 _ _ e)
     have hp2:=S2 _ _ h1'
     walk_at "rd*"
     refine⟨⟨_,SqL.of h2⟩,?_⟩
     refine c5j (xs:=[.str top,.str h1]) (fun i σ H'=>H'=H2/\(∃ z,σ = [some (.str x),some (.ref p),some (.str top),z,none])/\(1<=i->f2o (sg top)=true/\top.length<=9)/\(2<=i->f2o (sg h1)=true/\h1.length<=9)) ⟨rfl,⟨_,rfl⟩,fun h=>absurd h (by decide),fun h=>absurd h (by decide)⟩ (fun i σ H' _ h=>by rw [h.1]; exact SqL.of h2) ?_ ?_
     ·rintro i v σ H' hv ⟨rfl,⟨z,rfl⟩,ha,hb⟩
      match i,hv with
      | 0,hv =>
       cases hv
       clear ha hb
       walk_at "rd*"
       split
       ·trivial
       ·rename_i hn
        exact⟨⟨_,rfl⟩,fun _=>⟨by cases e:f2o (sg top) <;> simp_all,by omega⟩,fun h=>h.elim⟩
      | 1,hv =>
       cases hv
       have ha:=ha (by decide)
       have ha':=(id ha:id _)
       clear ha hb
       walk_at "rd*"
       split
       ·trivial
       ·rename_i hn
        exact⟨⟨_,rfl⟩,fun _=>trivial,fun _=>⟨by cases e:f2o (sg h1) <;> simp_all,by omega⟩⟩
      | i+2,hv=>cases hv
     ·rintro σ H' ⟨rfl,⟨z,rfl⟩,ha,hb⟩
      have ha:=ha (by simp)
      have hb:=hb (by simp)
      obtain⟨f0,m0⟩:=ha
      obtain⟨f1,m1⟩:=hb
      obtain⟨a0,b0⟩:=c0g.mp f0
      obtain⟨a1,b1⟩:=c0g.mp f1
      have i1:=PySem.intText_digits (x:=h1) a1 b1 (by omega)
      clear f0 f1
      have hn0:h0.length<=10:=by
       rcases ht' with e | e
       ·have:=congrArg List.length e
        rw [a3k,List.length_cons,a3k] at this
        omega
       ·rw [<- e.1]; omega
      have hn47:47∉sg h0:=by
       intro hm
       rcases ht' with e | e
       ·rw [e] at hm
        rcases List.mem_cons.mp hm with z | z
        ·cases z
        ·have:=a0 47 z; omega
       ·rw [<- e.1] at hm
        have:=a0 47 hm
        omega
      obtain⟨m,i0,hm9⟩:∃ m:Int,intText? h0=some m/\m.natAbs < 10 ^ 9:=by
       have v:=g3p a0
       have v:NumText.digitsVal (sg top) < 10 ^ 9:=Nat.lt_of_lt_of_le v (Nat.pow_le_pow_right (by decide) (by rw [a3k]; exact m0))
       rcases ht' with e | e
       ·exact⟨_,PySem.intText_neg e a0 b0 (by omega),by omega⟩
       ·have:=PySem.intText_digits (x:=h0) (by rw [<- e.1]; exact a0) (by rw [<- e.1]; exact b0) (by omega)
        refine⟨_,this,?_⟩
        rw [show h0.cps.toList=sg top by rw [e.1]]
        omega
      have hb9:NumText.digitsVal (sg h1) < 10 ^ 9:=Nat.lt_of_lt_of_le (g3p a1) (Nat.pow_le_pow_right (by decide) (by rw [a3k]; exact m1))
      walk_at "rd*"
      refine⟨by omega,?_⟩
      split
      ·trivial
      ·rename_i hnz
       generalize hbb:((NumText.digitsVal h1.cps.toList:Nat):Int)=b at hnz ⊢
       have hb9':b.natAbs < 10 ^ 9:=by rw [<- hbb]; exact hb9
       refine⟨by omega,by omega,hnz,d0v hm9,d0v hb9',?_⟩
       rintro _ H3 ⟨o,rfl,n3,S3,h3⟩
       have g1:(Rat.divInt m b).num.natAbs.log2 < 1920:=d4m (Nat.lt_of_le_of_lt (h5o hnz) hm9)
       have g2:((Rat.divInt m b).den:Int).natAbs.log2 < 1920:=d4m (Nat.lt_of_le_of_lt (h5p hnz) hb9')
       have k3:E (.ref A.a0p) none H3:=k H3 fun c u e=>S3 _ _ (S2 _ _ (S1 _ _ e))
       unfold c8g at h3
       walk_at "rd*"
       refine⟨_,_,⟨rfl,rfl⟩,g1,g2,fun y hy=>?_⟩
       by_cases hyx:y=x
       ·exfalso
        subst hyx
        have hd:=(Rat.divInt m b).den_pos
        have hgr:=h8l (Rat.divInt m b)
        generalize (Rat.divInt m b)=f at hy hd hgr
        have cut:sg y=sg h0++47 :: sg h1:=cut'
        have ht:sg h0=45 :: sg top\/top=h0/\∀ r,sg h0≠45 :: r:=ht'
        rw [hy] at cut
        unfold g1i at cut
        obtain⟨c1,c2⟩:=c6l cut (c2i (by decide) (by decide)) hn47
        refine ng' f.num f.den ⟨hy,by omega,hgr,?_,?_⟩
        ·have:dg f.num.natAbs=sg top:=by
          unfold txt at c1
          split at c1
          ·rcases ht with e | e
           ·rw [e,List.cons.injEq] at c1
            exact c1.2
           ·exact absurd c1.symm (e.2 _)
          ·rcases ht with e | e
           ·rw [e] at c1
            have:=c3k f.num.natAbs 45 (by rw [c1]; exact List.mem_cons_self)
            omega
           ·rw [c1,e.1]
         rw [this,a3k]
         exact m0
        ·have:dg ((f.den:Int)).natAbs=sg h1:=by
          rw [<- c2]
          unfold txt
          rw [if_neg (by omega)]
         rw [this,a3k]
         exact m1
       ·rw [if_pos hyx]
        trivial
   ·rw [if_pos (by omega)]
    trivial
  ·have k0:E (.ref A.a0p) none H:=k H (fun _ _ e=>e)
   walk_at "rd*"
theorem g0w (T : Tx K mg A) : a1g P A.wd K mg base (CXE P A.wd) 4 A.a9l A.a9m ["text"] (h8e A) := by
 have d7z:a1g P A.wd K mg base (CXF true P A.wd) 3 _ _ _ _:=(h0m T).orN (h3z T)
 refine T.a3s.okX c3m (fun vs H Q E h=>?_) (fun cdv A' outer s H vs Q E hr h=>?_)
 ·obtain⟨_,rfl,_⟩:=d2t (by unfold h8e at h; exact h)
  rfl
 ·obtain⟨x,rfl,⟨xl,no,k⟩⟩:=d2t (by unfold h8e at h; exact h)
  have hu:=hr.units
  have b9v:a1y 3 _:=hr.mono (by decide)
  have c7u:1<=sizeLine:=by decide
  refine⟨_,(d1o (g1t g3x (fun E=>(h3g (i:=1) c3m.nd rfl (Or.inl rfl) (g9b (E:=E) d7z b9v (by rfl) T.c9n T.a5t.kp T.c9m .nil (a0g (pvF 0) a0h)))) T.b8r T.f6p (by rfl) T.a9s (by rfl) T.c3i T.h3p)
   (a0i (a4o (pw_or (a0t c8m (a0y c2g (by rfl) T.g2k boot_abs (a0g (a0r a3z (pvF 1) a0j (fun _ _=>rfl)) a0h)) (a1o (v:=.int 1000) (by rfl) T.c4g T.b3t) (a1i _)) (pw_or1 (a0t c8m (a0r a3z (pvF 1) a0j (fun _ _=>rfl)) (a1o (v:=.int 1000) (by rfl) T.c4g T.b3t) (a1i _)))).pt
   (a0k (a9h T.b8r T.a9s a9g rfl (by rfl) (a0g a0m a0h)))
   a1h)
   (a0k (a0s (pvF 1))))),?_⟩
  obtain⟨Mid,pin,pout⟩:=i4r (fun σ' H'=>∃ (t b:Int) (o:Addr),Good (sg x) t b/\σ' = [some (.str x),some (.ref o)]/\Same H H'/\H' o=some (.tup [.int t,.int b]))
  walk_at "rd"
  refine⟨Mid,?_,?_⟩
  ·walk_at "rd"
   by_cases hg:∃ t b,Good (sg x) t b
   ·obtain⟨t,b,g⟩:=hg
    refine .inl ⟨t,b,g,?_⟩
    rintro _ H1 ⟨o,rfl,n1,S1,h1⟩
    try walk_at "rd"
    exact pin _ _ ⟨t,b,o,g,rfl,S1,h1⟩
   ·refine .inr ⟨.inl ⟨x,rfl,by omega,fun t b g=>hg ⟨t,b,g⟩⟩,fun H1 S1=>?_⟩
    try walk_at "rd"
    exact⟨T.c2u,k H1 S1⟩
  ·intro σ' H1 hm
   obtain⟨t,b,o,g,rfl,S1,h1⟩:=pout _ _ hm
   have k1:=k H1 S1
   have hb:(1000:Int) < (t.natAbs:Int)\/1000 < b:=by
    refine Classical.byContradiction fun z=>?_
    rw [not_or] at z
    exact no (i3t g (by omega) (by omega))
   walk_at "rd*"
   try (rw [if_pos hb]; trivial)
theorem ln2{α:Type}{l:List α}(h:l.length=2):∃ a b,l = [a,b]:=match l,h with | [a,b],_=>⟨a,b,rfl⟩
theorem ln3{α:Type}{l:List α}(h:l.length=3):∃ a b c,l = [a,b,c]:=match l,h with | [a,b,c],_=>⟨a,b,c,rfl⟩
theorem i3u (T : Tx K mg A) : a1g P A.wd K mg base (CXE P A.wd) 6 A.b4k A.b6i ["values"] (c8k A 0) := by
 have a0u:a1g P A.wd K mg base (CXE P A.wd) 1 _ _ _ _:=(d7y T).or (f4z T)
 have a1w:a1g P A.wd K mg base (CXE P A.wd) 4 _ _ _ _:=g0w T
 have d2i:a1g P A.wd K mg base CX0 1 _ _ _ _:=g4r T
 have b9h:=T.b9h
 have a5l:=T.a5l
 refine T.c2o.okX f3z (fun vs H Q E h=>?_) (fun cdv A' outer s H vs Q E hr h=>?_)
 ·obtain⟨_,rfl,_⟩:=c0m (by unfold c8k at h; exact h)
  rfl
 ·obtain⟨l,rfl,⟨ws,hl,wl,wz,no,k⟩⟩:=c0m (by unfold c8k at h; exact h)
  have hu:=hr.units
  have a0q:a1y 1 _:=hr.mono (by decide)
  have a1n:a1y 4 _:=hr.mono (by decide)
  have c9r:a1y 2 _:=hr.mono (by decide)
  refine⟨_,(a0i (b1y (a0l a0u a0q (by rfl) T.a3q T.a1m.kp T.a3p .nil a5k (a0g (pvF 0) (a0g a0j a0h))))
   (a0k (a0s (b4i T.g4b d2i c9r (by rfl) T.g9q T.f0w .nil a0w (a0g (a0l a1w a1n (by rfl) T.a7k T.a3s.kp T.a7j .nil a5k (a0g (a0r a3z (pvF 0) a0j (fun _ _=>rfl)) a0h)) a0h))))),?_⟩
  walk_at "rd"
  by_cases h1:ws.length=1
  ·obtain⟨v,rfl⟩:=List.length_eq_one_iff.mp h1
   refine .inl ⟨_,hl,rfl,?_⟩
   replace hl:H l=some (.lst [.str v]):=hl
   walk_at "rd*"
   exact⟨wz v List.mem_cons_self,fun⟨y,e,oy⟩=>no ⟨.gain y,rfl,oy,by rw [e]; rfl⟩,k⟩
  ·exact .inr ⟨_,hl,by rw [List.length_map]; omega,by rw [List.length_map]; omega,k H (Same.refl _)⟩
theorem i3v (T : Tx K mg A) : a1g P A.wd K mg base (CXE P A.wd) 6 A.b0i A.b2j ["values"] (c8k A 1) := by
 have a0u:a1g P A.wd K mg base (CXE P A.wd) 1 _ _ _ _:=(d7y T).or (f4z T)
 have a1v:a1g P A.wd K mg base (CXE P A.wd) 3 _ _ _ _:=g4y T
 have c9s:a1g P A.wd K mg base CX0 1 _ _ _ _:=g0t T
 have b1v:=T.b1v
 have a4m:=T.a4m
 refine T.b6z.okX f0g (fun vs H Q E h=>?_) (fun cdv A' outer s H vs Q E hr h=>?_)
 ·obtain⟨_,rfl,_⟩:=c0m (by unfold c8k at h; exact h)
  rfl
 ·obtain⟨l,rfl,⟨ws,hl,wl,wz,no,k⟩⟩:=c0m (by unfold c8k at h; exact h)
  have hu:=hr.units
  have a0q:a1y 1 _:=hr.mono (by decide)
  have a1p:a1y 3 _:=hr.mono (by decide)
  have c7s:a1y 2 _:=hr.mono (by decide)
  refine⟨_,(a0i (b1y (a0l a0u a0q (by rfl) T.a3q T.a1m.kp T.a3p .nil a5k (a0g (pvF 0) (a0g a0j a0h))))
   (a0k (a0s (b4i T.f6o c9s c7s (by rfl) T.g4f T.d7o .nil a0w (a0g (a0l a1v a1p (by rfl) T.a6w T.a3i.kp T.a6v .nil a5k (a0g (a0r a3z (pvF 0) a0j (fun _ _=>rfl)) (a0g a0j (a0g (a1o (v:=.int 1000) (by rfl) T.c4h T.b3u) a0h)))) a0h))))),?_⟩
  walk_at "rd"
  by_cases h1:ws.length=1
  ·obtain⟨v,rfl⟩:=List.length_eq_one_iff.mp h1
   refine .inl ⟨_,hl,rfl,?_⟩
   replace hl:H l=some (.lst [.str v]):=hl
   walk_at "rd*"
   exact⟨0,rfl,1000,rfl,by decide,by decide,wz v List.mem_cons_self,fun⟨n,e,_,n2⟩=>no ⟨.delay n,rfl,n2,by rw [e]; rfl⟩,k H (Same.refl _)⟩
  ·exact .inr ⟨_,hl,by rw [List.length_map]; omega,by rw [List.length_map]; omega,k H (Same.refl _)⟩
theorem i3w (T : Tx K mg A) : a1g P A.wd K mg base (CXE P A.wd) 6 A.b4l A.b6j ["values"] (c8k A 2) := by
 have a0u:a1g P A.wd K mg base (CXE P A.wd) 1 _ _ _ _:=(d7y T).or (f4z T)
 have a1w:a1g P A.wd K mg base (CXE P A.wd) 4 _ _ _ _:=(g0u T).or (g0w T)
 have a5y:a1g P A.wd K mg base (CXE P A.wd) 4 _ _ _ _:=(h3x T).or (h1a T)
 have a1v:a1g P A.wd K mg base (CXE P A.wd) 3 _ _ _ _:=g4y T
 have d2j:a1g P A.wd K mg base CX0 2 _ _ _ _:=g4q T
 have b9i:=T.b9i
 have a5m:=T.a5m
 have a5n:=T.a5n
 have a4n:=T.a4n
 have a3n:=T.a3n
 have a1j:=T.a1j
 refine T.c2p.okX f4g (fun vs H Q E h=>?_) (fun cdv A' outer s H vs Q E hr h=>?_)
 ·obtain⟨_,rfl,_⟩:=c0m (by unfold c8k at h; exact h)
  rfl
 ·obtain⟨l,rfl,⟨ws,hl,wl,wz,no,k⟩⟩:=c0m (by unfold c8k at h; exact h)
  have hu:=hr.units
  have a0q:a1y 1 _:=hr.mono (by decide)
  have a1n:a1y 4 _:=hr.mono (by decide)
  have a4t:a1y 4 _:=hr.mono (by decide)
  have a1p:a1y 3 _:=hr.mono (by decide)
  have c9t:a1y 3 _:=hr.mono (by decide)
  refine⟨_,(a0i (b1y (a0l a0u a0q (by rfl) T.a3q T.a1m.kp T.a3p .nil a5k (a0g (pvF 0) (a0g a0j a0h))))
   (a0k (a0s (b4i T.g4c d2j c9t (by rfl) T.g9r T.f1h .nil a0w (a0g (a0l a1w a1n (by rfl) T.a7k T.a3s.kp T.a7j .nil a5k (a0g (a0r a3z (pvF 0) a0j (fun _ _=>rfl)) a0h)) (a0g (a0l a5y a4t (by rfl) T.b8i T.a5u.kp T.b8h .nil a5k (a0g (a0r a3z (pvF 0) a0j (fun _ _=>rfl)) a0h)) (a0g (a0l a1v a1p (by rfl) T.a6w T.a3i.kp T.a6v .nil a5k (a0g (a0r a3z (pvF 0) a0j (fun _ _=>rfl)) (a0g a0j (a0g (a1o (v:=.int 16) (by rfl) T.d4l T.c0k) a0h)))) a0h))))))),?_⟩
  walk_at "rd"
  by_cases h1:ws.length=3
  ·obtain⟨v1,v2,v3,rfl⟩:=ln3 h1
   refine .inl ⟨_,hl,rfl,?_⟩
   replace hl:H l=some (.lst [.str v1,.str v2,.str v3]):=hl
   walk_at "rd*"
   by_cases g1:IsG v1
   ·obtain⟨y,e1,oy⟩:=g1
    refine .inl ⟨y,e1,oy,?_⟩
    rintro _ H1 ⟨o,rfl,n1,S1,hg⟩
    have hl1:=S1 _ _ hl
    clear hl
    walk_at "rd*"
    by_cases g2:IsN v2 1 1000
    ·obtain⟨n,e2,n2,n3⟩:=g2
     refine .inl ⟨n,e2,n2,n3,?_⟩
     try walk_at "rd*"
     exact⟨0,rfl,16,rfl,by decide,by decide,wz v3 (by simp),fun⟨t,e3,_,t2⟩=>no ⟨.echo y n t,rfl,⟨oy,n2,n3,t2⟩,by rw [e1,e2,e3]; rfl⟩⟩
    ·exact .inr ⟨wz v2 (by simp),g2⟩
   ·exact .inr ⟨wz v1 (by simp),g1,k⟩
  ·exact .inr ⟨_,hl,by rw [List.length_map]; omega,by rw [List.length_map]; omega,k H (Same.refl _)⟩
theorem i3x (T : Tx K mg A) : a1g P A.wd K mg base (CXE P A.wd) 6 A.b4m A.b6k ["values"] (c8k A 3) := by
 have a0u:a1g P A.wd K mg base (CXE P A.wd) 1 _ _ _ _:=(d7y T).or (f4z T)
 have a1w:a1g P A.wd K mg base (CXE P A.wd) 4 _ _ _ _:=(g0u T).or (g0w T)
 have a5y:a1g P A.wd K mg base (CXE P A.wd) 4 _ _ _ _:=h1a T
 have d2k:a1g P A.wd K mg base CX0 1 _ _ _ _:=g4s T
 have b9j:=T.b9j
 have a5o:=T.a5o
 have a5p:=T.a5p
 refine T.c2q.okX f4h (fun vs H Q E h=>?_) (fun cdv A' outer s H vs Q E hr h=>?_)
 ·obtain⟨_,rfl,_⟩:=c0m (by unfold c8k at h; exact h)
  rfl
 ·obtain⟨l,rfl,⟨ws,hl,wl,wz,no,k⟩⟩:=c0m (by unfold c8k at h; exact h)
  have hu:=hr.units
  have a0q:a1y 1 _:=hr.mono (by decide)
  have a1n:a1y 4 _:=hr.mono (by decide)
  have a4t:a1y 4 _:=hr.mono (by decide)
  have c9u:a1y 2 _:=hr.mono (by decide)
  refine⟨_,(a0i (b1y (a0l a0u a0q (by rfl) T.a3q T.a1m.kp T.a3p .nil a5k (a0g (pvF 0) (a0g a0j a0h))))
   (a0k (a0s (b4i T.g4d d2k c9u (by rfl) T.g9s T.f1j .nil a0w (a0g (a0l a1w a1n (by rfl) T.a7k T.a3s.kp T.a7j .nil a5k (a0g (a0r a3z (pvF 0) a0j (fun _ _=>rfl)) a0h)) (a0g (a0l a5y a4t (by rfl) T.b8i T.a5u.kp T.b8h .nil a5k (a0g (a0r a3z (pvF 0) a0j (fun _ _=>rfl)) a0h)) a0h)))))),?_⟩
  walk_at "rd"
  by_cases h1:ws.length=2
  ·obtain⟨v1,v2,rfl⟩:=ln2 h1
   refine .inl ⟨_,hl,rfl,?_⟩
   replace hl:H l=some (.lst [.str v1,.str v2]):=hl
   walk_at "rd*"
   by_cases g1:IsG v1
   ·obtain⟨y,e1,oy⟩:=g1
    refine .inl ⟨y,e1,oy,?_⟩
    rintro _ H1 ⟨o,rfl,n1,S1,hg⟩
    have hl1:=S1 _ _ hl
    clear hl
    walk_at "rd*"
    exact⟨wz v2 (by simp),fun⟨n,e2,n2,n3⟩=>no ⟨.back y n,rfl,⟨oy,n2,n3⟩,by rw [e1,e2]; rfl⟩⟩
   ·exact .inr ⟨wz v1 (by simp),g1,k⟩
  ·exact .inr ⟨_,hl,by rw [List.length_map]; omega,by rw [List.length_map]; omega,k H (Same.refl _)⟩
theorem i3y (T : Tx K mg A) : a1g P A.wd K mg base (CXE P A.wd) 6 A.b4n A.b6l ["values"] (c8k A 4) := by
 have a0u:a1g P A.wd K mg base (CXE P A.wd) 1 _ _ _ _:=(d7y T).or (f4z T)
 have a1w:a1g P A.wd K mg base (CXE P A.wd) 4 _ _ _ _:=(g0u T).or (g0w T)
 have a5y:a1g P A.wd K mg base (CXE P A.wd) 4 _ _ _ _:=h1a T
 have f2g:a1g P A.wd K mg base CX0 1 _ _ _ _:=h0o T
 have d6n:a1g P A.wd K mg base CX0 1 _ _ _ _:=g4o T
 have d2l:a1g P A.wd K mg base CX0 1 _ _ _ _:=g4t T
 have b9k:=T.b9k
 have a5q:=T.a5q
 have a5r:=T.a5r
 refine T.c2r.okX d0p (fun vs H Q E h=>?_) (fun cdv A' outer s H vs Q E hr h=>?_)
 ·obtain⟨_,rfl,_⟩:=c0m (by unfold c8k at h; exact h)
  rfl
 ·obtain⟨l,rfl,⟨ws,hl,wl,wz,no,k⟩⟩:=c0m (by unfold c8k at h; exact h)
  have hu:=hr.units
  have a0q:a1y 1 _:=hr.mono (by decide)
  have a1n:a1y 4 _:=hr.mono (by decide)
  have a4t:a1y 4 _:=hr.mono (by decide)
  have d6o:a1y 1 _:=hr.mono (by decide)
  have d2m:a1y 1 _:=hr.mono (by decide)
  have c9v:a1y 2 _:=hr.mono (by decide)
  have c7u:1<=sizeLine:=by decide
  refine⟨_,(a0i (b1y (a0l a0u a0q (by rfl) T.a3q T.a1m.kp T.a3p .nil a5k (a0g (pvF 0) (a0g a0j a0h))))
   (a0i (a0z (i:=1) d0p.nd rfl (Or.inl rfl) (a0l a1w a1n (by rfl) T.a7k T.a3s.kp T.a7j .nil a5k (a0g (a0r a3z (pvF 0) a0j (fun _ _=>rfl)) a0h)))
   (a0i (a4o (b3w (a3m (a0l d6n d2m (by rfl) T.f4p T.c0q.kp T.f4o .nil a0w (a0g (a0l f2g d6o (by rfl) T.g0i T.c5s.kp T.g0h .nil a0w (a0g (pvF 1) a0h)) (a0g (c1z (a0g a0j (a0g a0j a0h))) a0h)))))
   (a0k (a9h T.b8r T.a9s a9g rfl (by rfl) (a0g a0m a0h)))
   a1h)
   (a0k (a0s (b4i T.g4e d2l c9v (by rfl) T.g9t T.f1l .nil a0w (a0g (pvF 1) (a0g (a0l a5y a4t (by rfl) T.b8i T.a5u.kp T.b8h .nil a5k (a0g (a0r a3z (pvF 0) a0j (fun _ _=>rfl)) a0h)) a0h)))))))),?_⟩
  walk_at "rd"
  by_cases h1:ws.length=2
  ·obtain⟨v1,v2,rfl⟩:=ln2 h1
   refine .inl ⟨_,hl,rfl,?_⟩
   replace hl:H l=some (.lst [.str v1,.str v2]):=hl
   walk_at "rd*"
   by_cases g1:IsG v1
   ·obtain⟨y,e1,oy⟩:=g1
    refine .inl ⟨y,e1,oy,?_⟩
    rintro _ H1 ⟨o,rfl,n1,S1,hg⟩
    have hl1:=S1 _ _ hl
    clear hl
    walk_at "rd"
    refine⟨y,hg,?_⟩
    rintro _ H2 ⟨a,rfl,n2,S2,h2⟩
    walk_at "rd"
    refine fun u H3 n3 S3 h3=>?_
    have h3':H3 u=some (.tup (c8g 1)):=h3
    have S13:=S2.trans S3
    have b1:=oy.b.1
    have b2:=oy.b.2
    have ab:=g4u b1
    have hl3:=S13 _ _ hl1
    have k3:=k H3 (S1.trans S13)
    clear h3 hl1
    have un:decide ((Rat.abs y).num*((1:Rat).den:Int) < (1:Rat).num*((Rat.abs y).den:Int))=decide ((y.num.natAbs:Int) < (y.den:Int)):=by
     rw [f7k,f1t]
     show decide ((y.num.natAbs:Int)*1 < 1*(y.den:Int))=_
     rw [Int.mul_one,Int.one_mul]
    walk_at "rd"
    refine⟨Rat.abs y,1,⟨S3 _ _ h2,h3',by omega,by rw [f1t]; omega,by decide,by decide⟩,?_⟩
    by_cases hu1:(y.num.natAbs:Int) < (y.den:Int)
    ·rw [decide_eq_true hu1,decide_eq_true_eq] at un
     rw [if_neg (not_not_intro un),hl3]
     exact⟨_,rfl,wz v2 (by simp),fun⟨n,e2,n2,n3⟩=>no ⟨.hall y n,rfl,⟨oy,hu1,n2,n3⟩,by rw [e1,e2]; rfl⟩,k3⟩
    ·rw [decide_eq_false hu1,decide_eq_false_iff_not] at un
     rw [if_pos un]
     exact⟨c7u,k3⟩
   ·exact .inr ⟨wz v1 (by simp),g1,k⟩
  ·exact .inr ⟨_,hl,by rw [List.length_map]; omega,by rw [List.length_map]; omega,k H (Same.refl _)⟩
theorem i3z (T : Tx K mg A) : a1g P A.wd K mg base (CXE P A.wd) 5 A.a6u A.a7h ["text"] (h8f A) := by
 have a1w:a1g P A.wd K mg base (CXE P A.wd) 4 _ _ _ _:=g0w T
 have a1v:a1g P A.wd K mg base (CXE P A.wd) 3 _ _ _ _:=(h0y T).or (g4y T)
 refine T.a8j.okX b8o (fun vs H Q E h=>?_) (fun cdv A' outer s H vs Q E hr h=>?_)
 ·obtain⟨_,rfl,_⟩:=d2t (by unfold h8f at h; exact h)
  rfl
 ·obtain⟨x,rfl,⟨xl,no,k⟩⟩:=d2t (by unfold h8f at h; exact h)
  have hu:=hr.units
  have a1n:a1y 4 _:=hr.mono (by decide)
  have a1p:a1y 3 _:=hr.mono (by decide)
  have hs:sizeLine=16777216:=sizeLine_eq
  have c7u:1<=sizeLine:=by decide
  have d1:((⟨#[61]⟩:Str).length == 0)=false:=rfl
  have sle:=split_le x 61
  have jo:=f7q (x:=x) (c:=61)
  have pl:∀ p∈a3r x ⟨#[61]⟩,p.length<=1000:=fun p hp=>Nat.le_trans (d4p hp) xl
  obtain⟨ps,eps⟩:∃ ps,a3r x ⟨#[61]⟩=ps:=⟨_,rfl⟩
  rw [eps] at sle jo pl
  refine⟨_,(a0i (a0z (i:=1) b8o.nd rfl (Or.inl rfl) (b1o a4j PySem.F.plainAttrs_str PySem.F.slot_str_split PySem.F.type_str_split b8m (pvF 0) (a0g a0m a0h)))
   (a0i (a4o (a0t (c1y hu) (a0y a3l (by rfl) T.c4w boot_len (a0g (pvF 1) a0h)) a0j (a1i _))
   (a0k (a9h T.b8r T.a9s a9g rfl (by rfl) (a0g a0m a0h)))
   a1h)
   (a0k (a0s (c1z (a0g (a0l a1v a1p (by rfl) T.a6w T.a3i.kp T.a6v .nil a5k (a0g (a0r a3z (pvF 1) a0j (fun _ _=>rfl)) (a0g a0j (a0g (a1o (v:=.int 100000) (by rfl) T.f4u T.d0s) a0h)))) (a0g (a0l a1w a1n (by rfl) T.a7k T.a3s.kp T.a7j .nil a5k (a0g (a0r a3z (pvF 1) a0j (fun _ _=>rfl)) a0h)) a0h))))))),?_⟩
  rw [h7h]
  walk_at "rd"
  refine⟨rfl,by omega,by rw [eps]; omega,?_⟩
  rw [eps]
  refine fun l H1 n1 S1 h1=>?_
  have k1:=k H1 S1
  by_cases h2:ps.length=2
  ·obtain⟨v1,v2,rfl⟩:=ln2 h2
   replace h1:H1 l=some (.lst [.str v1,.str v2]):=h1
   have p1:=pl v1 (by simp)
   have p2:=pl v2 (by simp)
   clear eps pl
   walk_at "rd*"
   rw [if_neg (by decide)]
   by_cases g1:IsN v1 0 100000
   ·obtain⟨n,e1,_,n2⟩:=g1
    refine .inl ⟨n,by rw [e1,c4n],by omega,by omega,by omega,?_⟩
    have ng:¬ IsG v2:=fun⟨y,e2,oy⟩=>no ⟨((n:Int),y),a6r (by rw [jo,a9i,g1n,f5v,e1,e2,c4n]),by show (0:Int)<=n; omega,by show (n:Int)<=100000; omega,oy⟩
    exact⟨ng,fun H2 S2=>k H2 (S1.trans S2)⟩
   ·exact .inr ⟨0,rfl,100000,rfl,by decide,by decide,g1⟩
  ·clear eps pl
   walk_at "rd*"
   rw [if_pos (by omega)]
   trivial
theorem i4a (T : Tx K mg A) : a1g P A.wd K mg base (CXE P A.wd) 7 A.b0j A.b2k ["values"] (c8k A 5) := by
 have a0u:a1g P A.wd K mg base (CXE P A.wd) 1 _ _ _ _:=(d7y T).or (f4z T)
 have c7t:a1g P A.wd K mg base (CXE P A.wd) 5 _ _ _ _:=(i3s T).or (i3z T)
 have b1w:=T.b1w
 have a3g:=T.a3g
 have a3o:=T.a3o
 have a3w:=T.a3w
 refine T.b7g.okX a9j (fun vs H Q E h=>?_) (fun cdv A' outer s H vs Q E hr h=>?_)
 ·obtain⟨_,rfl,_⟩:=c0m (by unfold c8k at h; exact h)
  rfl
 ·obtain⟨l,rfl,⟨ws,hl,wl,wz,no,k⟩⟩:=c0m (by unfold c8k at h; exact h)
  have hu:=hr.units
  have a0q:a1y 1 _:=hr.mono (by decide)
  have c4y:a1y 5 _:=hr.mono (by decide)
  have hs:sizeLine=16777216:=sizeLine_eq
  have c7u:1<=sizeLine:=by decide
  have d1:((⟨#[44]⟩:Str).length == 0)=false:=rfl
  refine⟨_,(a0i (b1y (a0l a0u a0q (by rfl) T.a3q T.a1m.kp T.a3p .nil a5k (a0g (pvF 0) (a0g a0j a0h))))
   (a0i (h3h (i := 1) a9j.nd rfl rfl g3x (b8k (b1o a4j PySem.F.plainAttrs_str PySem.F.slot_str_split PySem.F.type_str_split b8m (a0r a3z (pvF 0) a0j (fun _ _ => rfl)) (a0g a0m a0h))) (fun _ _ _ _ _ => (g3n c7t c4y (by rfl) T.d3w T.a8j.kp T.d3v .nil (a0g (pvF 0) a0h))) (g1g (sc := a0n d0o) (N := ["values", "corners", "left", "right"]) rfl rfl (by decide +kernel)) rfl)
   (a0i (a4o (a0t c8m (a0y a3l (by rfl) T.c4w boot_len (a0g (pvF 1) a0h)) (a1o (v:=.int 12) (by rfl) T.c9q T.b4w) (a1i _))
   (a0k (a9h T.b8r T.a9s a9g rfl (by rfl) (a0g a0m a0h)))
   a1h)
   (a0i (b8z PassesOwn.leaving rfl (g3t (by rfl) T.h3k (a0g (pvF 1) (a0g (a2g i6r (pvF 1) (a2h a0j) a4g) a0h))) (d9k (n:=2) rfl (a8n (a4y (i:=2) a9j.nd rfl (Or.inl rfl)) (a8n (a4y (i:=3) a9j.nd rfl (Or.inl rfl)) d2y)))
   (a0k (a4o (a0t i0t (a0r a3z (pvF 2) a0j (fun _ _=>rfl)) (a0r a3z (pvF 3) a0j (fun _ _=>rfl)) (a1i _))
   (a0k (a9h T.b8r T.a9s a9g rfl (by rfl) (a0g a0m a0h)))
   a1h)))
   (a0k a6q))))),?_⟩
  rw [g9a]
  walk_at "rd"
  by_cases h1:ws.length=1
  ·obtain⟨x,rfl⟩:=List.length_eq_one_iff.mp h1
   refine .inl ⟨_,hl,rfl,?_⟩
   replace hl:H l=some (.lst [.str x]):=hl
   have xl:=wz x List.mem_cons_self
   have sle:=split_le x 44
   have jo:=f7q (x:=x) (c:=44)
   have pl:∀ p∈a3r x ⟨#[44]⟩,p.length<=1000:=fun p hp=>Nat.le_trans (d4p hp) xl
   have pne:a3r x ⟨#[44]⟩≠[]:=d2z _ _
   obtain⟨vs,evs⟩:∃ vs,a3r x ⟨#[44]⟩=vs:=⟨_,rfl⟩
   rw [evs] at sle jo pl pne
   have jo':id (x=Str.join ⟨#[44]⟩ vs):=jo
   clear jo
   clear wz
   walk_at "rd*"
   refine⟨by omega,by omega,fun a H1 n1 S1 h1'=>?_⟩
   clear evs
   walk_at "rd"
   refine⟨⟨_,SqL.of h1'⟩,fun D H2 n2 S2 h2=>?_⟩
   refine d4v (xs:=vs.map V.str) (fun i ys H'=>Same H1 H'/\H' D=some (.lst ys)/\i<=vs.length/\∃ ps,ys=ps.map V.ref/\∃ cs,Crn H' ps cs/\vs.take i=cs.map cW/\∀ c∈cs,0<=c.1/\c.1<=100000/\YOk c.2) ⟨S2,h2,Nat.zero_le _,[],rfl,[],Crn.nil,rfl,fun c hc=>by cases hc⟩ (by rw [List.length_map]; omega) ?_ ?_ ?_
   ·intro i ys H' hi ⟨S',h',il,ps,e,cs,R,et,ok⟩
    have:=congrArg List.length et
    rw [List.length_take,List.length_map] at this
    exact⟨h',SqL.of (S' _ _ h1'),by rw [e,List.length_map,R.1]; omega⟩
   ·intro i v ys H' hv ⟨S',h',il,ps,e,cs,R,et,ok⟩
    rw [List.getElem?_map] at hv
    obtain⟨z,hz,rfl⟩:=Option.map_eq_some_iff.mp hv
    have zl:=pl z (List.mem_of_getElem? hz)
    have il2:=(List.getElem?_eq_some_iff.mp hz).1
    walk_at "rd"
    by_cases hc:IsC z
    ·obtain⟨c,ec,c0,c1,oy⟩:=hc
     refine .inl ⟨c,ec,c0,c1,oy,fun p g H3 n3 S3 h3 hg=>⟨S3 _ _ h',fun H4 B4 h4=>⟨(S'.trans S3).step n2 B4,h4,il2,ps++[p],(by rw [e,List.map_append]; rfl),cs++[c],((R.same S3).snoc h3 hg).i3r (S3 _ _ h') B4,?_,fun d hd=>?_⟩⟩⟩
     ·rw [List.take_add_one,hz,et,List.map_append,ec]
      rfl
     ·rcases List.mem_append.mp hd with q | q
      ·exact ok d q
      ·obtain rfl:=List.mem_singleton.mp q
       exact⟨c0,c1,oy⟩
    ·exact .inr ⟨zl,hc,fun H3 S3=>k H3 (S1.trans (S'.trans S3))⟩
   ·intro ys H3 ⟨S3,h3,il,ps,e,cs,R,et,ok⟩
    rw [List.length_map,List.take_length] at et
    subst e
    subst et
    have pl':=R.1
    have k3:=k H3 (S1.trans S3)
    rw [List.length_map] at sle
    have c1:1<=cs.length:=by
     have:=List.length_pos_iff.mpr pne
     rwa [List.length_map] at this
    have no':¬ f5u cs:=fun h=>no ⟨.swell cs,rfl,h,by rw [show x=_ from jo']; rfl⟩
    clear h2 hl h1' pne pl il no jo'
    walk_at "rd*"
    by_cases h12:(12:Int) < (cs.length:Int)
    ·rw [if_pos h12]
     trivial
    rw [if_neg h12]
    refine fun c2 H4 n4 S4 h4=>?_
    have e2:d0z (ps.map V.ref) (some 1) none=(ps.drop 1).map V.ref:=by
     show f5q (ps.map V.ref) (some ((1:Nat):Int)) none=_
     rw [b1p,List.map_drop]
    rw [e2] at h4
    have h34:=S4 _ _ h3
    clear e2 h3
    walk_at "rd*"
    obtain⟨Pv,pin,pout⟩:=f8w (fun i σ H'=>∃ (v2 v3:Option V),σ = [some (.ref l),some (.ref D),v2,v3]/\Same H4 H'/\∀ (j:Nat) c d,j < i->cs[j]? = some c->cs[j+1]? = some d->c.1 < d.1)
    refine f5t (xs:=ps.map V.ref) (ys:=(ps.drop 1).map V.ref) Pv (pin _ _ _ ⟨_,_,rfl,Same.refl _,fun j c d hj=>absurd hj (Nat.not_lt_zero _)⟩) ?_ ?_ ?_
    ·intro i σ H5 hp
     obtain⟨v2,v3,rfl,S5,_⟩:=pout _ _ _ hp
     exact⟨SqL.of (S5 _ _ h34),SqL.of (S5 _ _ h4)⟩
    ·intro i x y σ H5 p H6 hx hy hp np S6 h6
     obtain⟨v2,v3,rfl,S5,ris⟩:=pout _ _ _ hp
     obtain⟨pc,c,g,rfl,hc,hpc,hg⟩:=R.get hx
     have hy':(ps.map V.ref)[i+1]? = some y:=by
      rw [List.map_drop,List.getElem?_drop] at hy
      rwa [Nat.add_comm] at hy
     obtain⟨pd,d,gd,rfl,hd,hpd,hgd⟩:=R.get hy'
     have SS:=S4.trans (S5.trans S6)
     have i9m:=SS _ _ hpc
     have hpd':=SS _ _ hpd
     have k6:=k H6 (S1.trans (S3.trans SS))
     have ris':=(id ris:id _)
     clear hpc hpd h34 h4 hg hgd hx hy hy' hp np ris
     walk_at "rd*"
     by_cases hle:d.1<=c.1
     ·rw [if_pos hle]
      trivial
     ·rw [if_neg hle]
      refine pin _ _ _ ⟨_,_,rfl,S5.trans S6,fun j c' d' hj hc' hd'=>?_⟩
      rcases Nat.lt_or_eq_of_le (Nat.le_of_lt_succ hj) with z | z
      ·exact (show ∀ (j:Nat) c d,j < i->cs[j]? = some c->cs[j+1]? = some d->c.1 < d.1 from ris') j c' d' z hc' hd'
      ·subst z
       rw [hc] at hc'
       rw [hd] at hd'
       cases hc'
       cases hd'
       omega
    ·intro σ H5 hp
     obtain⟨v2,v3,rfl,S5,ris⟩:=pout _ _ _ hp
     refine no' ⟨ok,fun j c d hc hd=>ris j c d ?_ hc hd,c1,by omega⟩
     have:=(List.getElem?_eq_some_iff.mp hd).1
     rw [List.length_map,List.length_map,List.length_drop]
     omega
  ·exact .inr ⟨_,hl,by rw [List.length_map]; omega,by rw [List.length_map]; omega,k H (Same.refl _)⟩
theorem h4a (T : Tx K mg A) : a1g P A.wd K mg base (CXE P A.wd) 9 A.b8v A.b6m ["word"] (h8g A) := by
 have f2h:a1g P A.wd K mg base (CXE P A.wd) 6 _ _ _ _:=i3u T
 have d6p:a1g P A.wd K mg base (CXE P A.wd) 6 _ _ _ _:=i3v T
 have f2i:a1g P A.wd K mg base (CXE P A.wd) 6 _ _ _ _:=i3w T
 have f2j:a1g P A.wd K mg base (CXE P A.wd) 6 _ _ _ _:=i3x T
 have f2k:a1g P A.wd K mg base (CXE P A.wd) 6 _ _ _ _:=i3y T
 have d6q:a1g P A.wd K mg base (CXE P A.wd) 7 _ _ _ _:=i4a T
 refine T.a4k.okX d0q (fun vs H Q E h=>?_) (fun cdv A' outer s H vs Q E hr h=>?_)
 ·obtain⟨_,rfl,_⟩:=h8y (by unfold h8g at h; exact h)
  rfl
 ·obtain⟨v,rfl,⟨hv,k⟩⟩:=h8y (by unfold h8g at h; exact h)
  have hu:=hr.units
  have d6r:a1y 6 _:=hr.mono (by decide)
  have d2n:a1y 6 _:=hr.mono (by decide)
  have d6s:a1y 6 _:=hr.mono (by decide)
  have d6t:a1y 6 _:=hr.mono (by decide)
  have d6u:a1y 6 _:=hr.mono (by decide)
  have d2o:a1y 7 _:=hr.mono (by decide)
  have dk:=T.f4v
  have c7u:1<=sizeLine:=by decide
  have hs:sizeLine=16777216:=sizeLine_eq
  have d1:((⟨#[58]⟩:Str).length == 0)=false:=rfl
  refine ⟨_, (a0i (a4o (b3w (a3m (a0y (d0k .str) (by rfl) T.a1t boot_isinstance (a0g (pvF 0) (a0g (d1l (v := .ty "str") (u := .type "str") (by rfl) T.g9n rfl rfl) a0h)))))
   (a0k (a9h T.b8r T.a9s a9g rfl (by rfl) (a0g a0m a0h)))
   a1h)
   (a0i (a0z (i:=1) d0q.nd rfl (Or.inl rfl) (b1o a4j PySem.F.plainAttrs_str PySem.F.slot_str_split PySem.F.type_str_split b8m (pvF 0) (a0g a0m a0h)))
   (a0i (a4o (a0t (f9j (K:=K) (w:=A.wd) (by rfl) (by rfl)) (a0r a3z (pvF 1) a0j (fun _ _=>rfl)) (a1o (v:=.ref A.a1k) (by rfl) T.a4w rfl) (by rfl))
   (a0k (a9h T.b8r T.a9s a9g rfl (by rfl) (a0g a0m a0h)))
   a1h)
   (a0k (a0s (a3t (b1t f2h d6r T.c2o.kp T.g0k .nil a5k (a0r (g7g (K:=K) (w:=A.wd) (by rfl) (by rfl)) (a1o (v:=.ref A.a1k) (by rfl) T.a4w rfl) (a0r a3z (pvF 1) a0j (fun _ _=>rfl)) (fun _ _=>rfl)) (a0g (a2g d8h (pvF 1) (a2h a0j) a4g) a0h)) (a3t (b1t d6p d2n T.b6z.kp T.f4q .nil a5k (a0r (g7g (K:=K) (w:=A.wd) (by rfl) (by rfl)) (a1o (v:=.ref A.a1k) (by rfl) T.a4w rfl) (a0r a3z (pvF 1) a0j (fun _ _=>rfl)) (fun _ _=>rfl)) (a0g (a2g d8h (pvF 1) (a2h a0j) a4g) a0h)) (a3t (b1t f2i d6s T.c2p.kp T.g0l .nil a5k (a0r (g7g (K:=K) (w:=A.wd) (by rfl) (by rfl)) (a1o (v:=.ref A.a1k) (by rfl) T.a4w rfl) (a0r a3z (pvF 1) a0j (fun _ _=>rfl)) (fun _ _=>rfl)) (a0g (a2g d8h (pvF 1) (a2h a0j) a4g) a0h)) (a3t (b1t f2j d6t T.c2q.kp T.g0m .nil a5k (a0r (g7g (K:=K) (w:=A.wd) (by rfl) (by rfl)) (a1o (v:=.ref A.a1k) (by rfl) T.a4w rfl) (a0r a3z (pvF 1) a0j (fun _ _=>rfl)) (fun _ _=>rfl)) (a0g (a2g d8h (pvF 1) (a2h a0j) a4g) a0h)) (a3t (b1t f2k d6u T.c2r.kp T.g0n .nil a5k (a0r (g7g (K:=K) (w:=A.wd) (by rfl) (by rfl)) (a1o (v:=.ref A.a1k) (by rfl) T.a4w rfl) (a0r a3z (pvF 1) a0j (fun _ _=>rfl)) (fun _ _=>rfl)) (a0g (a2g d8h (pvF 1) (a2h a0j) a4g) a0h)) (b1t d6q d2o T.b7g.kp T.f4r .nil a5k (a0r (g7g (K:=K) (w:=A.wd) (by rfl) (by rfl)) (a1o (v:=.ref A.a1k) (by rfl) T.a4w rfl) (a0r a3z (pvF 1) a0j (fun _ _=>rfl)) (fun _ _=>rfl)) (a0g (a2g d8h (pvF 1) (a2h a0j) a4g) a0h)))))))))))),?_⟩
  rw [h7g]
  rcases hv with ⟨x,rfl,xl,no⟩ | ⟨ty,ht,ne⟩
  ·have sle:=split_le x 58
   have pl:∀ p∈a3r x ⟨#[58]⟩,p.length<=1000:=fun p hp=>Nat.le_trans (d4p hp) xl
   rw [g4w] at no
   obtain⟨kd,ws,ek⟩:∃ kd ws,a3r x ⟨#[58]⟩=kd :: ws:=List.exists_cons_of_ne_nil (d2z _ _)
   rw [ek] at sle pl no
   rw [List.length_cons] at sle
   have wz:∀ v∈ws,v.length<=1000:=fun v hv=>pl v (List.mem_cons_of_mem _ hv)
   have nk:∀ (j:Nat) (z:Str),kd=z->(∀ d:Dt,d.kd=j->d.kind=z)->¬ ∃ d:Dt,d.kd=j/\d.ok/\d.vals=ws:=fun j z e hk ⟨d,h1,h2,h3⟩=>no ⟨d,h2,by rw [hk d h1,h3,e]⟩
   have e2:d0z (V.str kd :: ws.map V.str) (some 1) none=ws.map V.str:=by
    show f5q _ (some ((1:Nat):Int)) none=_
    rw [b1p]
    rfl
   have ek':id (a3r x ⟨#[58]⟩=kd :: ws):=ek
   clear pl no ek
   walk_at "rd"
   rw [show a3r x ⟨#[58]⟩=kd :: ws from ek']
   refine⟨rfl,by omega,by rw [List.length_cons]; omega,fun l H1 n1 S1 h1=>?_⟩
   replace h1:H1 l=some (.lst (V.str kd :: ws.map V.str)):=h1
   have k1:=k H1 S1
   have wz':=(id wz:id _)
   have nk':=(id nk:id _)
   have e2':=(id e2:id _)
   clear ek' wz nk e2
   walk_at "rd*"
   have wz:∀ v∈ws,v.length<=1000:=wz'
   have nk:∀ (j:Nat) (z:Str),kd=z->(∀ d:Dt,d.kd=j->d.kind=z)->¬ ∃ d:Dt,d.kd=j/\d.ok/\d.vals=ws:=nk'
   by_cases hm : kd ∈ (["gain", "delay", "echo", "back", "swell", "hall"] : List Str)
   ·simp only [List.mem_cons,List.not_mem_nil,or_false] at hm
    rcases hm with e | e | e | e | e | e
    ·have nd:=nk 0 _ e (fun d h=>by cases d <;> first | rfl | (simp [Dt.kd] at h))
     clear nk nk' wz'
     subst e
     refine⟨_,T.a7n,?_⟩
     rw [if_neg (by exact Bool.noConfusion)]
     refine Or.inl ?_
     have rd:=T.a7n
     have wz2:=(id wz:id _)
     have nd':=(id nd:id _)
     clear wz nd
     walk_at "rd*"
     refine fun m H2 n2 S2 h2=>?_
     rw [show d0z _ (some 1) none=ws.map V.str from e2'] at h2
     try walk_at "rd"
     exact⟨ws,h2,by omega,wz2,nd',fun H3 S3=>k H3 (S1.trans (S2.trans S3))⟩
    ·have nd:=nk 1 _ e (fun d h=>by cases d <;> first | rfl | (simp [Dt.kd] at h))
     clear nk nk' wz'
     subst e
     refine⟨_,T.a6o,?_⟩
     rw [if_neg (by exact Bool.noConfusion)]
     refine Or.inr (Or.inl ?_)
     have rd:=T.a6o
     have wz2:=(id wz:id _)
     have nd':=(id nd:id _)
     clear wz nd
     walk_at "rd*"
     refine fun m H2 n2 S2 h2=>?_
     rw [show d0z _ (some 1) none=ws.map V.str from e2'] at h2
     try walk_at "rd"
     exact⟨ws,h2,by omega,wz2,nd',fun H3 S3=>k H3 (S1.trans (S2.trans S3))⟩
    ·have nd:=nk 2 _ e (fun d h=>by cases d <;> first | rfl | (simp [Dt.kd] at h))
     clear nk nk' wz'
     subst e
     refine⟨_,T.a7o,?_⟩
     rw [if_neg (by exact Bool.noConfusion)]
     refine Or.inr (Or.inr (Or.inl ?_))
     have rd:=T.a7o
     have wz2:=(id wz:id _)
     have nd':=(id nd:id _)
     clear wz nd
     walk_at "rd*"
     refine fun m H2 n2 S2 h2=>?_
     rw [show d0z _ (some 1) none=ws.map V.str from e2'] at h2
     try walk_at "rd"
     exact⟨ws,h2,by omega,wz2,nd',fun H3 S3=>k H3 (S1.trans (S2.trans S3))⟩
    ·have nd:=nk 3 _ e (fun d h=>by cases d <;> first | rfl | (simp [Dt.kd] at h))
     clear nk nk' wz'
     subst e
     refine⟨_,T.a7p,?_⟩
     rw [if_neg (by exact Bool.noConfusion)]
     refine Or.inr (Or.inr (Or.inr (Or.inl ?_)))
     have rd:=T.a7p
     have wz2:=(id wz:id _)
     have nd':=(id nd:id _)
     clear wz nd
     walk_at "rd*"
     refine fun m H2 n2 S2 h2=>?_
     rw [show d0z _ (some 1) none=ws.map V.str from e2'] at h2
     try walk_at "rd"
     exact⟨ws,h2,by omega,wz2,nd',fun H3 S3=>k H3 (S1.trans (S2.trans S3))⟩
    ·have nd:=nk 5 _ e (fun d h=>by cases d <;> first | rfl | (simp [Dt.kd] at h))
     clear nk nk' wz'
     subst e
     refine⟨_,T.a6p,?_⟩
     rw [if_neg (by exact Bool.noConfusion)]
     refine Or.inr (Or.inr (Or.inr (Or.inr (Or.inr ?_))))
     have rd:=T.a6p
     have wz2:=(id wz:id _)
     have nd':=(id nd:id _)
     clear wz nd
     walk_at "rd*"
     refine fun m H2 n2 S2 h2=>?_
     rw [show d0z _ (some 1) none=ws.map V.str from e2'] at h2
     try walk_at "rd"
     exact⟨ws,h2,by omega,wz2,nd',fun H3 S3=>k H3 (S1.trans (S2.trans S3))⟩
    ·have nd:=nk 4 _ e (fun d h=>by cases d <;> first | rfl | (simp [Dt.kd] at h))
     clear nk nk' wz'
     subst e
     refine⟨_,T.a7q,?_⟩
     rw [if_neg (by exact Bool.noConfusion)]
     refine Or.inr (Or.inr (Or.inr (Or.inr (Or.inl ?_))))
     have rd:=T.a7q
     have wz2:=(id wz:id _)
     have nd':=(id nd:id _)
     clear wz nd
     walk_at "rd*"
     refine fun m H2 n2 S2 h2=>?_
     rw [show d0z _ (some 1) none=ws.map V.str from e2'] at h2
     try walk_at "rd"
     exact⟨ws,h2,by omega,wz2,nd',fun H3 S3=>k H3 (S1.trans (S2.trans S3))⟩
   ·refine⟨none,h7l T.d6i dk hm,?_⟩
    rw [if_pos (show (none:Option Value).isSome=false from rfl)]
    trivial
  ·have k0:=k H (Same.refl _)
   walk_at "rd*"
theorem i7r (T : Tx K mg A) : a1g P A.wd K mg base CX0 1 A.a7y A.a8p ["_law_one", "_law_other"] i7g := by
 refine T.b4p.ok b8p (fun vs H Q E h=>?_) (fun cdv A' outer s H vs Q E hr h=>?_)
 ·obtain⟨_,_,rfl,_⟩:=f2p (by unfold i7g at h; exact h)
  rfl
 ·obtain⟨a,b,rfl,⟨a0,b0,q⟩⟩:=f2p (by unfold i7g at h; exact h)
  have hu:=hr.units
  refine⟨_,(a0i (f8t PassesOwn.never (a0t c8m (pvF 1) a0j (a1i _))
   (a0i (a0z (i:=2) b8p.nd rfl (Or.inl rfl) (a4u d6z (pvF 0) (pvF 1)))
   (a0i (a0z (i:=0) b8p.nd rfl (Or.inl rfl) (pvF 1))
   (a0k (a0z (i:=1) b8p.nd rfl (Or.inl rfl) (pvF 2))))))
   (a0k (a0s (pvF 0)))),?_⟩
  walk_at "rd"
  refine f8u (fun m σ H1=>∃ l r z,σ = [some (.int l),some (.int r),z]/\H1=H/\0<=l/\0<=r/\m=r.toNat/\Int.gcd l r=Int.gcd a b) _
   ⟨_,_,_,rfl,rfl,a0,b0,rfl,rfl⟩ ?_
  rintro m σ H1 ⟨l,r,z,rfl,rfl,hl,hr',rfl,hg⟩
  walk_at "rd"
  split
  ·rename_i h
   have hp:0 < r:=by omega
   have f:=h0l hl hp
   exact⟨by omega,_,(by omega:(l.fmod r).toNat < r.toNat),_,_,_,⟨rfl,rfl,rfl⟩,hr',f.1,rfl,(g4i hl hp).trans hg⟩
  ·rename_i h
   obtain rfl:r=0:=by omega
   rw [<- hg,gcd_zero hl] at q
   exact q
theorem i4b (T : Tx K mg A) : a1g P A.wd K mg base CX0 1 A.a9p A.b0k ["_law_text"] i7h := by
 refine T.a9r.ok d3u (fun vs H Q E h=>?_) (fun cdv A' outer s H vs Q E hr h=>?_)
 ·obtain⟨_,rfl,_⟩:=d2t (by unfold i7h at h; exact h)
  rfl
 ·obtain⟨x,rfl,⟨xl,q⟩⟩:=d2t (by unfold i7h at h; exact h)
  have hu:=hr.units
  have hs:sizeLine=16777216:=sizeLine_eq
  have xl':x.length<=sizeLine:=by omega
  refine⟨_,(a0i (a4o (pw_or (a0t (b1n hu) (pvF 0) a0m (a1i _)) (pw_or (a0t c8m (a0y a3l (by rfl) T.c4w boot_len (a0g (pvF 0) a0h)) a0j (a1i _)) (pw_or1 (pw_and (a0t (b1n hu) (a2g d8h (pvF 0) a4g (a2h a0j)) a0m (a1i _)) (pw_and1 (a0t (c1y hu) (pvF 0) a0m (a1i _)))).pt))).pt
   (a0k (a0s c5h))
   a1h)
   (a0i (b8z PassesOwn.never rfl (h4z (pvF 0)) (a4y (i:=1) d3u.nd rfl (Or.inl rfl))
   (a0k (a4o (a0t f9i (pvF 1) a0m (by rfl))
   (a0k (a0s c5h))
   a1h)))
   (a0k (a0s (a5i a8l (by rfl) T.d6j boot_int (a0g (pvF 0) a0h)))))),?_⟩
  walk_at "rd*"
  have no:(f2o (sg x)=false\/lead (sg x)=true\/6 < x.length)->Q .non H:=fun h=>by
   have e:h0i x = .non:=by
    unfold h0i h1j
    rcases h with h | h | h
    ·rw [h,Bool.false_and,if_neg Bool.false_ne_true]
    ·rw [h,Bool.not_true,Bool.and_false,if_neg Bool.false_ne_true]
    ·split
     ·exact if_neg (by omega)
     ·rfl
   rw [<- e]
   exact q
  by_cases he : x = Str.ofString ""
  ·rw [if_pos he]
   exact no (.inl (by rw [he]; decide +kernel))
  rw [if_neg he]
  refine⟨by omega,?_⟩
  by_cases h6:(6:Int) < (x.length:Int)
  ·rw [if_pos h6]
   exact no (.inr (.inr (by omega)))
  rw [if_neg h6]
  refine⟨by omega,?_⟩
  have ne:sg x≠[]:=fun e=>he (a6r (e.trans (by decide +kernel)))
  have l1:1<=x.length:=by
   rw [<- a3k]
   exact List.length_pos_iff.mpr ne
  have s1:=h6w (x:=x) (j:=1) l1
  have z0 : sg (Str.ofString "0") = [48] := by decide +kernel
  have h3y : (Txt.slice x none (some 1) = Str.ofString "0" ∧ ¬ x = Str.ofString "0") ↔ lead (sg x) = true := by
   obtain⟨c,r,ec⟩:=List.exists_cons_of_ne_nil ne
   rw [ec] at s1
   constructor
   ·rintro ⟨h1,h2⟩
    rw [show ((1:Nat):Int)=1 from rfl,h1,z0] at s1
    simp at s1
    rw [ec]
    cases r with
    | nil=>exact absurd (a6r (by rw [ec,z0,<- s1])) h2
    | cons d r=>rw [<- s1]; rfl
   ·intro h
    rw [ec] at h
    unfold lead at h
    split at h
    ·rename_i d r' e
     cases e
     refine⟨a6r ?_,fun z=>?_⟩
     ·rw [z0]
      exact s1
     ·rw [z,z0] at ec
      cases ec
    ·cases h
  by_cases hl : Txt.slice x none (some 1) = Str.ofString "0" ∧ ¬ x = Str.ofString "0"
  ·rw [if_pos hl]
   exact no (.inr (.inl (h3y.mp hl)))
  rw [if_neg hl]
  have nl:lead (sg x)=false:=Bool.eq_false_iff.mpr fun h=>hl (h3y.mpr h)
  refine g3o (fun i σ H1=>H1=H/\(∃ z,σ = [some (.str x),z])/\((sg x).take i).all (fun c=>decide (48<=c) && decide (c<=57))=true) ⟨rfl,⟨_,rfl⟩,rfl⟩ ?_ ?_
  ·rintro i c σ H1 hc ⟨rfl,⟨z,rfl⟩,ha⟩
   have hc':(sg x)[i]? = some c:=by
    unfold sg
    rw [Array.getElem?_toList]
    exact hc
   walk_at "rd"
   rw [g8s]
   split
   ·rename_i hb
    refine no (.inl ?_)
    unfold f2o
    rw [show (sg x).all (fun c=>decide (48<=c) && decide (c<=57))=false from ?_,Bool.false_and]
    rw [List.all_eq_false]
    exact⟨c,List.mem_of_getElem? hc',by rw [hb]; decide⟩
   ·rename_i hb
    refine⟨⟨_,rfl⟩,?_⟩
    rw [List.take_add_one,hc',List.all_append,ha]
    simpa using hb
  ·rintro σ H1 ⟨rfl,⟨z,rfl⟩,ha⟩
   walk_at "rd"
   have hl':x.cps.size=(sg x).length:=by simp
   rw [hl',List.take_length] at ha
   have ff:f2o (sg x)=true:=by
    unfold f2o
    rw [ha,Bool.true_and,List.isEmpty_eq_false_iff.mpr ne]
    rfl
   obtain⟨f1,f2⟩:=c0g.mp ff
   have e:h0i x = .int (NumText.digitsVal (sg x):Nat):=by
    unfold h0i h1j
    rw [ff,nl,if_pos (show (true && !false)=true from rfl)]
    exact if_pos (by omega)
   rw [e] at q
   exact⟨_,PySem.intText_digits f1 f2 (by omega),by omega,q⟩
theorem i4c (T : Tx K mg A) : a1g P A.wd K mg base CX0 2 A.c6o A.c5m ["_law_text", "_law_least", "_law_most"] i7i := by
 have c4i:a1g P A.wd K mg base CX0 1 _ _ _ _:=i4b T
 refine T.c0j.ok g0b (fun vs H Q E h=>?_) (fun cdv A' outer s H vs Q E hr h=>?_)
 ·obtain⟨_,_,_,rfl,_⟩:=f3p (by unfold i7i at h; exact h)
  rfl
 ·obtain⟨x,a,b,rfl,⟨m,n,ea,eb,nl,xl,q⟩⟩:=f3p (by unfold i7i at h; exact h)
  subst ea eb
  have hu:=hr.units
  have c0l:a1y 1 _:=hr.mono (by decide)
  refine⟨_,(a0i (a0z (i:=3) g0b.nd rfl (Or.inl rfl) (a0l c4i c0l (by rfl) T.c9p T.a9r.kp T.c9o .nil a0w (a0g (pvF 0) a0h)))
   (a0k (a0s (c4k (b3y h5z (pvF 3) c5h (a1i _)) (d6v (h1t of_le of_le (pvF 1) (pvF 3) (pvF 2))))))),?_⟩
  walk_at "rd"
  refine⟨xl,?_⟩
  have key:(h0i x = .non/\¬ IsN x m n)\/∃ i:Nat,h0i x = .int i/\x=nW i:=by
   unfold h0i
   cases hn:h1j x with
   | none=>exact .inl ⟨rfl,fun⟨i,e,_⟩=>by rw [d4o.mpr e] at hn; cases hn⟩
   | some i =>
    have ei:=d4o.mp hn
    by_cases h6:x.length<=6
    ·exact .inr ⟨i,if_pos h6,ei⟩
    ·refine .inl ⟨if_neg h6,fun⟨j,e,_,j2⟩=>h6 ?_⟩
     rw [e,<- a3k,c4n,a9u]
     exact g1m 5 j (by omega)
  rcases key with ⟨hv,hn⟩ | ⟨i,hv,ei⟩
  ·rw [hv,if_neg (not_not_intro rfl)]
   exact q false ⟨fun h=>(Bool.false_ne_true h).elim,fun h=>(hn h).elim⟩
  ·rw [hv,if_pos (by simp)]
   unfold h4i
   walk_at "rd"
   by_cases h1:(m:Int)<=i
   ·rw [if_pos h1]
    refine q _ ⟨fun h=>⟨i,ei,by omega,by have:=of_decide_eq_true h; omega⟩,fun⟨j,e,j1,j2⟩=>decide_eq_true ?_⟩
    have e':dg i=dg j:=by rw [<- a9u,<- a9u,<- c4n,<- c4n,<- ei,<- e]
    have:=congrArg NumText.digitsVal e'
    rw [c8o,c8o] at this
    omega
   ·rw [if_neg h1]
    refine q _ ⟨fun h=>(Bool.false_ne_true h).elim,fun⟨j,e,j1,j2⟩=>?_⟩
    have e':dg i=dg j:=by rw [<- a9u,<- a9u,<- c4n,<- c4n,<- ei,<- e]
    have:=congrArg NumText.digitsVal e'
    rw [c8o,c8o] at this
    omega
theorem g4z(x:Str)(c:Nat):(c∉sg x/\g9d x c = [x,Str.empty,Str.empty])\/∃ a b:Str,g9d x c = [a,⟨#[c]⟩,b]/\sg x=sg a++c :: sg b/\c∉sg a:=by
 unfold g9d
 rcases StrLaws.occ_head x ⟨#[c]⟩ 1 (by decide) with ⟨h0,hn⟩ | ⟨i,r,h0,hi,hn⟩
 ·refine .inl ⟨fun hm=>?_,by rw [h0]⟩
  obtain⟨j,hj⟩:=List.getElem?_of_mem hm
  exact hn j (f3m.mpr hj)
 ·have hi':=f3m.mp hi
  have hl:i < (sg x).length:=(List.getElem?_eq_some_iff.mp hi').1
  have hc:(sg x)[i]=c:=(List.getElem?_eq_some_iff.mp hi').2
  refine .inr ⟨_,_,by rw [h0],?_,fun hm=>?_⟩
  ·rw [d9i,d9i,List.drop_zero,Nat.sub_zero]
   have e1:((sg x).drop (i+1)).take (x.length - (i+1))=(sg x).drop (i+1):=List.take_of_length_le (by rw [List.length_drop,a3k]; exact Nat.le_refl _)
   rw [e1]
   conv=>lhs; rw [<- List.take_append_drop i (sg x),List.drop_eq_getElem_cons hl,hc]
  ·rw [d9i,List.drop_zero,Nat.sub_zero] at hm
   obtain⟨j,hj⟩:=List.getElem?_of_mem hm
   have hj':j < i:=by
    have:=(List.getElem?_eq_some_iff.mp hj).1
    rw [List.length_take] at this
    omega
   rw [List.getElem?_take_of_lt hj'] at hj
   exact hn j hj' (f3m.mpr hj)
theorem g0x{z:Str}:(h0i z = .non/\∀ n:Nat,n<=100000->sg z≠dg n)\/∃ n:Nat,h0i z = .int n/\sg z=dg n:=by
 unfold h0i
 cases hn:h1j z with
 | none=>exact .inl ⟨rfl,fun n _ e=>by rw [d4o.mpr (a6r (by rw [e,c4n,a9u]))] at hn; cases hn⟩
 | some i =>
  have ei:=d4o.mp hn
  have e1:sg z=dg i:=by rw [ei,c4n,a9u]
  by_cases h6:z.length<=6
  ·exact .inr ⟨i,if_pos h6,e1⟩
  ·refine .inl ⟨if_neg h6,fun n hn' e=>h6 ?_⟩
   rw [<- a3k,e]
   exact g1m 5 n (by omega)
theorem g5a{n m:Nat}(h:dg n=dg m):n=m:=by
 have:=congrArg NumText.digitsVal h
 rwa [c8o,c8o] at this
theorem i4d{x a b:Str}{s h:Bool}{A1:List Nat}(hx:sg x=sg a++47 :: sg b)(ha:47∉sg a)(hA:(s=true/\sg a=45 :: A1)\/(s=false/\sg a=A1/\∀ r,sg a≠45 :: r)) :
  h0j x h ↔ ∃ n m:Nat,A1=dg n/\sg b=dg m/\n<=1000/\1<=m/\m<=1000/\(s=true->n≠0)/\Nat.gcd n m=1/\(h=true->n < m):=by
 constructor
 ·rintro ⟨y,e,oy,hh⟩
  rw [e,f9l] at hx
  unfold g1i at hx
  obtain⟨c1,c2⟩:=c6l hx (c2i (by decide) (by decide)) ha
  refine⟨y.num.natAbs,y.den,?_,by rw [<- c2,a9u],oy.1,y.den_pos,oy.2,?_,y.reduced,fun h=>by have:=hh h; omega⟩
  ·unfold txt at c1
   split at c1
   ·rcases hA with ⟨_,h2⟩ | ⟨_,_,h3⟩
    ·rw [<- c1,List.cons.injEq] at h2
     exact h2.2.symm
    ·exact absurd c1.symm (h3 _)
   ·rcases hA with ⟨_,h2⟩ | ⟨_,h2,_⟩
    ·have:=c3k y.num.natAbs 45 (by rw [c1,h2]; exact List.mem_cons_self)
     omega
    ·rw [<- h2,c1]
  ·intro hs hz
   unfold txt at c1
   rw [if_neg (by omega)] at c1
   rcases hA with ⟨_,h2⟩ | ⟨h1,_⟩
   ·have:=c3k y.num.natAbs 45 (by rw [c1,h2]; exact List.mem_cons_self)
    omega
   ·rw [h1] at hs
    cases hs
 ·rintro ⟨n,m,e1,e2,n1,m0,m1,hs,hg,hh⟩
  refine⟨⟨if s=true then -(n:Int) else n,m,by omega,?_⟩,a6r ?_,⟨?_,m1⟩,fun h=>?_⟩
  ·have:(if s=true then -(n:Int) else n).natAbs=n:=by split <;> omega
   rw [this]
   exact hg
  ·rw [f9l,hx,e2]
   show _=txt (if s=true then -(n:Int) else n)++47 :: txt ((m:Nat):Int)
   rw [a9u]
   congr 1
   rcases hA with ⟨h1,h2⟩ | ⟨h1,h2,_⟩
   ·have:=hs h1
    rw [h2,e1,if_pos h1]
    unfold txt
    rw [if_pos (by omega),Int.natAbs_neg,Int.natAbs_natCast]
   ·rw [h2,e1,if_neg (by rw [h1]; exact Bool.false_ne_true),a9u]
  ·show (if s=true then -(n:Int) else n).natAbs<=1000
   split <;> omega
  ·have:=hh h
   show ((if s=true then -(n:Int) else n).natAbs:Int) < (m:Int)
   split <;> omega
theorem g6z{c:TT}{a r:TS}{D:Ends}{σ:L2.St}{H:Hp}(b:Bool)(hc:∀ Q:Bool->Hp->Prop,Q b H->c σ H Q)(hy:b=true->∀ D':Ends,D'.rt=D.rt->a D' σ H)(hn:b=false->r D σ H):i4l (i4m c a h1o) r D σ H:=by
 refine hc _ ?_
 cases b with
 | true=>exact hy rfl _ rfl
 | false=>exact hn rfl
theorem i4e (T : Tx K mg A) : a1g P A.wd K mg base CX0 2 A.a7z A.a8q ["_law_text", "_law_hall"] i7j := by
 have c4i:a1g P A.wd K mg base CX0 1 _ _ _ _:=i4b T
 have f7r:a1g P A.wd K mg base CX0 1 _ _ _ _:=i7r T
 refine T.b0l.ok a6y (fun vs H Q E h=>?_) (fun cdv A' outer s H vs Q E hr h=>?_)
 ·obtain⟨_,_,rfl,_⟩:=i2m (by unfold i7j at h; exact h)
  rfl
 ·obtain⟨x,hl,rfl,⟨xl,q⟩⟩:=i2m (by unfold i7j at h; exact h)
  have hu:=hr.units
  have hs:sizeLine=16777216:=sizeLine_eq
  have c0l:a1y 1 _:=hr.mono (by decide)
  have f2y:a1y 1 _:=hr.mono (by decide)
  have sl : Str.ofString "/" = ⟨#[47]⟩ := by decide +kernel
  refine⟨_,(a0i (h4g (b1o a4j PySem.F.plainAttrs_str PySem.F.slot_str_partition PySem.F.type_str_partition g3y (pvF 0) (a0g a0m a0h)) (d9k (n:=3) rfl (a8n (a4y (i:=2) a6y.nd rfl (Or.inl rfl)) (a8n (a4y (i:=3) a6y.nd rfl (Or.inl rfl)) (a8n (a4y (i:=4) a6y.nd rfl (Or.inl rfl)) d2y)))))
   (d1o (a0z (i:=5) a6y.nd rfl (Or.inl rfl) (b3y (b1n hu) (a2g d8h (pvF 2) a4g (a2h a0j)) a0m (a1i _)))
   (a0i (a0z (i:=6) a6y.nd rfl (Or.inl rfl) (a0l c4i c0l (by rfl) T.c9p T.a9r.kp T.c9o .nil a0w (a0g (a2g d8h (pvF 2) (a2h (a5i a8l (by rfl) T.d6j boot_int (a0g (pvF 5) a0h))) a4g) a0h)))
   (f8y (a0z (i:=7) a6y.nd rfl (Or.inl rfl) (a0l c4i c0l (by rfl) T.c9p T.a9r.kp T.c9o .nil a0w (a0g (pvF 4) a0h)))
   (a0i (a4o (pw_or (a0t (b1n hu) (pvF 3) a0m (a1i _)) (pw_or (a0t g3k (pvF 6) c5h (a1i _)) (pw_or (a0t g3k (pvF 7) c5h (a1i _)) (pw_or (a0t c8m (pvF 6) a0j (a1i _)) (pw_or (a0t of_lt (pvF 7) a0j (a1i _)) (pw_or1 (a0t c8m (pvF 7) a0j (a1i _)))))))).pt
   (a0k (a0s d4r))
   a1h)
   (a0i (a4o (pw_or (pw_and (a3m (pvF 5)) (pw_and1 (a0t (b1n hu) (pvF 6) a0j (a1i _)))).pt (pw_or1 (a0t (c1y hu) (a0l f7r f2y (by rfl) T.f6t T.b4p.kp T.f6s .nil a0w (a0g (pvF 6) (a0g (pvF 7) a0h))) a0j (a1i _)))).pt
   (a0k (a0s d4r))
   a1h)
   (a0k (a0s (i0w (g1f (pvF 1)) (d6v (b3y of_lt (pvF 6) (pvF 7) (a1i _)))))))))))),?_⟩
  rw [sl]
  walk_at "rd"
  refine⟨by omega,47,rfl,fun p H1 n1 S1 h1=>?_⟩
  rcases g4z x 47 with ⟨hn,e⟩ | ⟨a,b,e,hx,ha⟩
  ·rw [e] at h1
   replace h1:H1 p=some (.tup [.str x,.str Str.empty,.str Str.empty]):=h1
   walk_at "rd*"
   have qf:=q false H1 S1 ⟨fun h=>(Bool.false_ne_true h).elim,fun⟨y,ey,_⟩=>absurd (by rw [ey,f9l]; unfold g1i; simp) hn⟩
   refine⟨fun σ' H'=>∃ sb,σ' = [some (.str x),some (.bl hl),some (.str x),some (.str Str.empty),some (.str Str.empty),some (.bl sb),none,none]/\H'=H1,?_,?_⟩
   ·walk_at "rd*"
    exact⟨by omega,⟨_,rfl⟩⟩
   rintro σ' H' ⟨sb,rfl,rfl⟩
   have tl:(Txt.slice x (some (if sb=true then 1 else 0)) none).length<=1000:=Nat.le_trans (Txt.slice_le _ _ _) xl
   clear h1
   walk_at "rd"
   refine⟨by omega,tl,by decide,Stop.go ?_⟩
   refine g6z true (fun Q hq=>?_) (fun hb D' eD=>?_) (fun hb=>by cases hb)
   ·walk_at "rd"
    rw [if_pos (.inl (by decide +kernel))]
    exact hq
   ·walk_at "rd"
    rw [eD]
    exact qf
  ·rw [e] at h1
   replace h1:H1 p=some (.tup [.str a,.str ⟨#[47]⟩,.str b]):=h1
   have lx:x.length=a.length+(b.length+1):=by rw [<- a3k,hx,List.length_append,List.length_cons,a3k,a3k]
   walk_at "rd*"
   obtain ⟨Mid, pin, pout⟩ := i4r (fun σ' H' => ∃ sb, σ' = [some (.str x), some (.bl hl), some (.str a), some (.str ⟨#[47]⟩), some (.str b), some (.bl sb), none, none] ∧ H' = H1 ∧ decide (Txt.slice a none (some 1) = Str.ofString "-") = sb)
   refine⟨Mid,?_,?_⟩
   ·walk_at "rd*"
    first | (show a.length ≤ 16777216; omega) | exact⟨by omega,pin _ _ ⟨_,rfl,rfl,rfl⟩⟩
   intro σ' H' hm
   obtain⟨sb,rfl,rfl,esb⟩:=pout _ _ hm
   clear hm pin pout
   obtain⟨A1,hA⟩:∃ A1,(sb=true/\sg a=45 :: A1)\/(sb=false/\sg a=A1/\∀ r,sg a≠45 :: r):=by
    have mi : sg (Str.ofString "-") = [45] := by decide +kernel
    by_cases q:∃ r,sg a=45 :: r
    ·obtain⟨r,er⟩:=q
     have s1:=h6w (x:=a) (j:=1) (by rw [<- a3k,er]; simp)
     refine⟨r,.inl ⟨?_,er⟩⟩
     rw [<- esb]
     exact decide_eq_true (a6r (by rw [mi,<- show ((1:Nat):Int)=1 from rfl,s1,er]; rfl))
    ·refine⟨sg a,.inr ⟨?_,rfl,fun r e=>q ⟨r,e⟩⟩⟩
     rw [<- esb]
     refine decide_eq_false fun z=>?_
     have l1:1<=a.length:=by
      rcases Nat.eq_zero_or_pos a.length with z0 | z0
      ·have ea:a=Str.empty:=a6r (List.length_eq_zero_iff.mp (by rw [a3k]; exact z0))
       rw [ea] at z
       exact absurd z (by decide +kernel)
      ·exact z0
     have s1:=h6w (x:=a) (j:=1) l1
     rw [show ((1:Nat):Int)=1 from rfl,z,mi] at s1
     cases ec:sg a with
     | nil=>rw [ec] at s1; cases s1
     | cons c r =>
      rw [ec] at s1
      simp at s1
      exact q ⟨r,by rw [ec,<- s1]⟩
   have tT:sg (Txt.slice a (some (if sb=true then 1 else 0)) none)=A1:=by
    rcases hA with ⟨h1,h2⟩ | ⟨h1,h2,_⟩
    ·rw [h1,if_pos rfl]
     have:=f5s (x:=a) (i:=1) (by rw [<- a3k,h2]; simp)
     rw [show ((1:Nat):Int)=1 from rfl] at this
     rw [this,h2]
     rfl
    ·rw [h1,if_neg Bool.false_ne_true]
     have:=f5s (x:=a) (i:=0) (Nat.zero_le _)
     rw [show ((0:Nat):Int)=0 from rfl] at this
     rw [this,h2]
     rfl
   have gi:=i4d (h:=hl) hx ha hA
   have lA:A1.length<=a.length:=by
    rw [<- a3k]
    rcases hA with ⟨h1,h2⟩ | ⟨h1,h2,_⟩
    ·rw [h2]; simp
    ·rw [h2]; exact Nat.le_refl _
   obtain⟨tp,etp⟩:∃ tp,Txt.slice a (some (if sb=true then 1 else 0)) none=tp:=⟨_,rfl⟩
   rw [etp] at tT
   have tl:tp.length<=a.length:=by rw [<- a3k,tT]; exact lA
   have etp':id (Txt.slice a (some (if sb=true then 1 else 0)) none=tp):=etp
   have gi':=(id gi:id _)
   clear esb hA gi h1 etp
   walk_at "rd"
   rw [show Txt.slice a (some (if sb=true then 1 else 0)) none=tp from etp']
   refine⟨by omega,by omega,by omega,Stop.go ?_⟩
   have gi:h0j x hl ↔ ∃ n m:Nat,A1=dg n/\sg b=dg m/\n<=1000/\1<=m/\m<=1000/\(sb=true->n≠0)/\Nat.gcd n m=1/\(hl=true->n < m):=gi'
   have no:¬ h0j x hl->Q (.bl false) H':=fun h=>q false H' S1 ⟨fun z=>(Bool.false_ne_true z).elim,fun z=>(h z).elim⟩
   have s47 : ¬ (⟨#[47]⟩ : Str) = Str.ofString "" := by decide +kernel
   clear gi'
   rcases g0x (z:=tp) with ⟨hv1,no1⟩ | ⟨n,hv1,e1⟩
   ·refine g6z true (fun Q hq=>?_) (fun hb D' eD=>?_) (fun hb=>by cases hb)
    ·rw [hv1]
     walk_at "rd"
     rw [if_neg s47]
     exact hq
    ·walk_at "rd"
     rw [eD]
     refine no fun h=>?_
     obtain⟨n,m,h1,_,h3,_⟩:=gi.mp h
     exact no1 n (by omega) (tT.trans h1)
   rcases g0x (z:=b) with ⟨hv2,no2⟩ | ⟨m,hv2,e2⟩
   ·refine g6z true (fun Q hq=>?_) (fun hb D' eD=>?_) (fun hb=>by cases hb)
    ·rw [hv1,hv2]
     walk_at "rd"
     rw [if_neg s47]
     exact hq
    ·walk_at "rd"
     rw [eD]
     refine no fun h=>?_
     obtain⟨n,m,_,h2,_,_,h5,_⟩:=gi.mp h
     exact no2 m (by omega) h2
   have gi2:h0j x hl ↔ n<=1000/\1<=m/\m<=1000/\(sb=true->n≠0)/\Nat.gcd n m=1/\(hl=true->n < m):=by
    rw [gi]
    constructor
    ·rintro ⟨n',m',h1,h2,h3⟩
     obtain rfl:=g5a ((tT.symm.trans e1).symm.trans h1)
     obtain rfl:=g5a (e2.symm.trans h2)
     exact h3
    ·exact fun h=>⟨n,m,tT.symm.trans e1,e2,h⟩
   refine g6z (decide ((1000:Int) < n\/(m:Int) < 1\/(1000:Int) < m)) (fun Q hq=>?_) (fun hb D' eD=>?_) (fun hb=>?_)
   ·rw [hv1,hv2]
    walk_at "rd"
    by_cases h1:(1000:Int) < n\/(m:Int) < 1
    ·rw [if_pos (.inr h1)]
     rw [decide_eq_true (by omega)] at hq
     exact hq
    ·rw [if_neg (fun z=>z.elim s47 h1)]
     rw [show decide ((1000:Int) < n\/(m:Int) < 1\/(1000:Int) < m)=decide ((1000:Int) < m) from decide_eq_decide.mpr (by omega)] at hq
     exact hq
   ·walk_at "rd"
    rw [eD]
    refine no fun h=>?_
    have:=gi2.mp h
    have:=of_decide_eq_true hb
    omega
   replace hb:=of_decide_eq_false hb
   refine g6z (decide ((sb=true/\n=0)\/Nat.gcd n m≠1)) (fun Q hq=>?_) (fun hc D' eD=>?_) (fun hc=>?_)
   ·rw [hv1,hv2]
    walk_at "rd"
    have gn:((Int.gcd (n:Int) (m:Int):Nat):Int)=1 ↔ Nat.gcd n m=1:=by
     unfold Int.gcd
     rw [Int.natAbs_natCast,Int.natAbs_natCast]
     omega
    by_cases h1:sb=true/\(n:Int)=0
    ·rw [if_pos h1]
     rw [decide_eq_true (.inl ⟨h1.1,by omega⟩)] at hq
     exact hq
    ·rw [if_neg h1]
     refine⟨by omega,by omega,?_⟩
     have e:decide ((sb=true/\n=0)\/Nat.gcd n m≠1) = !decide (((Int.gcd (n:Int) (m:Int):Nat):Int)=1):=by
      rw [<- decide_not]
      refine decide_eq_decide.mpr ?_
      rw [gn]
      exact⟨fun h=>h.elim (fun z=>absurd ⟨z.1,by omega⟩ h1) id,.inr⟩
     rw [e] at hq
     exact hq
   ·walk_at "rd"
    rw [eD]
    refine no fun h=>?_
    obtain⟨_,_,_,h4,h5,_⟩:=gi2.mp h
    rcases of_decide_eq_true hc with h | h
    ·exact h4 h.1 h.2
    ·exact h h5
   replace hc:=of_decide_eq_false hc
   rw [hv1,hv2]
   walk_at "rd"
   have hg1:Nat.gcd n m=1:=Classical.byContradiction fun z=>hc (.inr z)
   have hs1:sb=true->n≠0:=fun z y=>hc (.inl ⟨z,y⟩)
   cases hl with
   | false =>
    rw [if_pos rfl]
    exact q true H' S1 ⟨fun _=>gi2.mpr ⟨by omega,by omega,by omega,hs1,hg1,fun z=>by cases z⟩,fun _=>rfl⟩
   | true =>
    rw [if_neg (by decide)]
    refine q _ H' S1 ⟨fun z=>gi2.mpr ⟨by omega,by omega,by omega,hs1,hg1,fun _=>by have:=of_decide_eq_true z; omega⟩,fun z=>decide_eq_true ?_⟩
    have:=(gi2.mp z).2.2.2.2.2 rfl
    omega
theorem g3e{z a b:Str}{c:Int×Rat}(hz:sg z=sg a++61 :: sg b)(ha:61∉sg a)(e:z=cW c)(c0:0<=c.1):a=nW c.1.toNat/\b=fW c.2:=by
 rw [e,f5v] at hz
 obtain⟨h1,h2⟩:=c6l hz (c2i (by decide) (by decide)) ha
 exact⟨a6r (by rw [c4n,<- h1,Int.toNat_of_nonneg c0]),a6r h2.symm⟩
theorem i4f{c d:Int×Rat}(e:cW c=cW d)(c0:0<=c.1)(d0:0<=d.1):c.1=d.1:=by
 have h:=congrArg sg e
 rw [f5v,f5v] at h
 obtain⟨h1,_⟩:=c6l h (c2i (by decide) (by decide)) (c2i (by decide) (by decide))
 rw [<- Int.toNat_of_nonneg c0,<- Int.toNat_of_nonneg d0,a9u,a9u] at h1
 have:=g5a h1
 omega
theorem Ris.snoc{cs:List (Int×Rat)}{c:Int×Rat}(h:Ris cs)(hl:∀ j d,cs.length=j+1->cs[j]? = some d->d.1 < c.1):Ris (cs++[c]):=fun j d e h1 h2=>by
 rcases Nat.lt_trichotomy (j+1) cs.length with z | z | z
 ·rw [List.getElem?_append_left (by omega)] at h1
  rw [List.getElem?_append_left z] at h2
  exact h j d e h1 h2
 ·rw [List.getElem?_append_left (by omega)] at h1
  rw [z,List.getElem?_concat_length] at h2
  cases h2
  exact hl j d z.symm h1
 ·rw [List.getElem?_append_right (by omega),List.getElem?_singleton,if_neg (by omega)] at h2
  cases h2
theorem i7s (T : Tx K mg A) : a1g P A.wd K mg base CX0 3 A.a7i A.a7m ["_law_text"] i7k := by
 have d0y:a1g P A.wd K mg base CX0 2 _ _ _ _:=i4c T
 have c7v:a1g P A.wd K mg base CX0 2 _ _ _ _:=i4e T
 refine T.b1s.ok a4q (fun vs H Q E h=>?_) (fun cdv A' outer s H vs Q E hr h=>?_)
 ·obtain⟨_,rfl,_⟩:=d2t (by unfold i7k at h; exact h)
  rfl
 ·obtain⟨x,rfl,⟨xl,q⟩⟩:=d2t (by unfold i7k at h; exact h)
  have hu:=hr.units
  have hs:sizeLine=16777216:=sizeLine_eq
  have c6m:a1y 2 _:=hr.mono (by decide)
  have c4z:a1y 2 _:=hr.mono (by decide)
  have sle:=split_le x 44
  have jo:=f7q (x:=x) (c:=44)
  have pl:∀ p∈a3r x ⟨#[44]⟩,p.length<=1000:=fun p hp=>Nat.le_trans (d4p hp) xl
  have pne:a3r x ⟨#[44]⟩≠[]:=d2z _ _
  obtain⟨vs,evs⟩:∃ vs,a3r x ⟨#[44]⟩=vs:=⟨_,rfl⟩
  rw [evs] at sle jo pl pne
  have si:g7j x ↔ ∃ cs,f5u cs/\vs=cs.map cW:=by
   constructor
   ·rintro ⟨cs,ok,e⟩
    refine⟨cs,ok,?_⟩
    rw [<- evs,e]
    exact d3g ok.2.2.1
   ·rintro ⟨cs,ok,e⟩
    exact⟨cs,ok,by rw [jo,e]⟩
  refine⟨_,(a0i (a0z (i:=1) a4q.nd rfl (Or.inl rfl) (h5x g8j a0j))
   (a0i (a0z (i:=2) a4q.nd rfl (Or.inl rfl) (b1o a4j PySem.F.plainAttrs_str PySem.F.slot_str_split PySem.F.type_str_split b8m (pvF 0) (a0g a0m a0h)))
   (a0i (b8z PassesOwn.never rfl (b8k (pvF 2)) (a4y (i:=3) a4q.nd rfl (Or.inl rfl))
   (a0i (h4g (b1o a4j PySem.F.plainAttrs_str PySem.F.slot_str_partition PySem.F.type_str_partition g3y (pvF 3) (a0g a0m a0h)) (d9k (n:=3) rfl (a8n (a4y (i:=4) a4q.nd rfl (Or.inl rfl)) (a8n (a4y (i:=5) a4q.nd rfl (Or.inl rfl)) (a8n (a4y (i:=6) a4q.nd rfl (Or.inl rfl)) d2y)))))
   (a0i (a4o (pw_or (b3w (a3m (a0l d0y c6m (by rfl) T.d3z T.c0j.kp T.d3y .nil a0w (a0g (pvF 4) (a0g a0j (a0g a0j a0h)))))) (pw_or (b3w (a3m (a0l c7v c4z (by rfl) T.d4h T.b0l.kp T.d4g .nil a0w (a0g (pvF 6) (a0g d4r a0h))))) (pw_or1 (a0t of_le (a5i a8l (by rfl) T.d6j boot_int (a0g (pvF 4) a0h)) (pvF 1) (a1i _))))).pt
   (a0k (a0s d4r))
   a1h)
   (a0k (a0z (i:=1) a4q.nd rfl (Or.inl rfl) (a5i a8l (by rfl) T.d6j boot_int (a0g (pvF 4) a0h)))))))
   (a0k (a0s (b3y of_lt (a0y a3l (by rfl) T.c4w boot_len (a0g (pvF 2) a0h)) a0j (a1i _))))))),?_⟩
  rw [g9a,h7h]
  walk_at "rd"
  rw [evs]
  refine⟨rfl,by omega,by omega,fun l H1 n1 S1 h1=>?_⟩
  have si':=(id si:id _)
  have pl':=(id pl:id _)
  clear evs jo si pl
  walk_at "rd*"
  have si:g7j x ↔ ∃ cs,f5u cs/\vs=cs.map cW:=si'
  have pl:∀ p∈vs,p.length<=1000:=pl'
  refine⟨⟨_,SqL.of h1⟩,?_⟩
  obtain⟨Pv,pin,pout⟩:=f8w (fun i σ H'=>∃ (cs:List (Int×Rat)) (la:Int) (v3 v4 v5 v6:Option V),σ = [some (.str x),some (.int la),some (.ref l),v3,v4,v5,v6]/\Same H1 H'/\vs.take i=cs.map cW/\(∀ c∈cs,0<=c.1/\c.1<=100000/\YOk c.2)/\Ris cs/\(cs = []->la = -1)/\(∀ j d,cs.length=j+1->cs[j]? = some d->d.1=la)/\i<=vs.length)
  have Q0:∀ H',Same H1 H'->¬ g7j x->Q (.bl false) H':=fun H' S' hn=>q false H' (S1.trans S') ⟨fun z=>(Bool.false_ne_true z).elim,fun z=>(hn z).elim⟩
  refine c5j (xs:=vs.map V.str) Pv (pin _ _ _ ⟨[],-1,_,_,_,_,rfl,Same.refl _,rfl,(fun c hc=>by cases hc),(fun j c d h=>by simp at h),(fun _=>rfl),(fun j d h=>by simp at h),Nat.zero_le _⟩) ?_ ?_ ?_
  ·intro i σ H2 hi hp
   obtain⟨cs,la,v3,v4,v5,v6,rfl,S2,_⟩:=pout _ _ _ hp
   exact SqL.of (S2 _ _ h1)
  ·intro i v σ H2 hv hp
   obtain⟨cs,la,v3,v4,v5,v6,rfl,S2,et,ok,ris,la0,la1,il⟩:=pout _ _ _ hp
   rw [List.getElem?_map] at hv
   obtain⟨z,hz,rfl⟩:=Option.map_eq_some_iff.mp hv
   have zl:=pl z (List.mem_of_getElem? hz)
   have il2:=(List.getElem?_eq_some_iff.mp hz).1
   have cl:cs.length=i:=by
    have:=congrArg List.length et
    rw [List.length_take,List.length_map] at this
    omega
   -- what a chain of corners would have here
   have at':∀ cs',f5u cs'->vs=cs'.map cW->∃ c,cs'[i]? = some c/\z=cW c/\0<=c.1/\c.1<=100000/\YOk c.2/\la < c.1:=fun cs' ok' ev=>by
    rw [ev,List.getElem?_map] at hz
    obtain⟨c,hc,ez⟩:=Option.map_eq_some_iff.mp hz
    obtain⟨c0,c1,oy⟩:=ok'.1 c (List.mem_of_getElem? hc)
    refine⟨c,hc,ez.symm,c0,c1,oy,?_⟩
    rcases Nat.eq_zero_or_pos i with z0 | z0
    ·have:cs = []:=List.length_eq_zero_iff.mp (by omega)
     rw [la0 this]
     omega
    ·obtain⟨j,rfl⟩:∃ j,i=j+1:=⟨i - 1,by omega⟩
     obtain⟨d,hd⟩:∃ d,cs[j]? = some d:=⟨_,List.getElem?_eq_getElem (by omega)⟩
     obtain⟨d',hd'⟩:∃ d',cs'[j]? = some d':=⟨_,List.getElem?_eq_getElem (by have:=(List.getElem?_eq_some_iff.mp hc).1; omega)⟩
     have e1:(vs.take (j+1))[j]? = some (cW d):=by rw [et,List.getElem?_map,hd]; rfl
     rw [List.getElem?_take_of_lt (by omega),ev,List.getElem?_map,hd'] at e1
     have e2:=i4f (Option.some.inj e1) (ok'.1 d' (List.mem_of_getElem? hd')).1 (ok d (List.mem_of_getElem? hd)).1
     have:=ok'.2.1 j d' c hd' hc
     rw [<- la1 j d cl hd]
     omega
   have nsw:(∀ c:Int×Rat,z=cW c->0<=c.1->c.1<=100000->YOk c.2->la < c.1->False)->¬ g7j x:=fun hf hsw=>by
    obtain⟨cs',ok',ev⟩:=si.mp hsw
    obtain⟨c,_,e1,e2,e3,e4,e5⟩:=at' cs' ok' ev
    exact hf c e1 e2 e3 e4 e5
   clear hv hp at'
   walk_at "rd"
   refine⟨by omega,61,rfl,fun p H3 n3 S3 h3=>?_⟩
   rcases g4z z 61 with ⟨hn,e⟩ | ⟨a,b,e,hx,ha⟩
   ·rw [e] at h3
    replace h3:H3 p=some (.tup [.str z,.str Str.empty,.str Str.empty]):=h3
    have ns:¬ g7j x:=nsw fun c ec _ _ _ _=>hn (by rw [ec,f5v]; simp)
    have S23:=S2.trans S3
    have q3:∀ H',Same H3 H'->Q (.bl false) H':=fun H' S'=>Q0 H' (S23.trans S') ns
    have q3':=(id q3:id _)
    clear nsw si si' pl pl' et ok ris la0 la1 Q0 pin pout q h1 pne q3 S2 ns S23
    walk_at "rd*"
    have q3:∀ H',Same H3 H'->Q (.bl false) H':=q3'
    refine⟨0,rfl,100000,rfl,Nat.le_refl _,fun r hr=>?_⟩
    cases r with
    | false =>
     rw [if_pos rfl]
     exact q3 H3 (Same.refl _)
    | true =>
     rw [if_neg (by decide)]
     refine⟨by decide,fun r2 H4 S4 h2=>?_⟩
     cases r2 with
     | false =>
      rw [if_pos rfl]
      exact q3 H4 S4
     | true =>
      obtain⟨y,e,_⟩:=h2.mp rfl
      have:=congrArg (fun z=>(sg z).length) e
      simp only [f9l,g1i,List.length_append,List.length_cons] at this
      exact absurd this (by show ¬ (0=_); omega)
   ·rw [e] at h3
    replace h3:H3 p=some (.tup [.str a,.str ⟨#[61]⟩,.str b]):=h3
    have lx:z.length=a.length+(b.length+1):=by rw [<- a3k,hx,List.length_append,List.length_cons,a3k,a3k]
    have al:a.length<=1000:=by omega
    have bl:b.length<=1000:=by omega
    have q3:∀ H',Same H3 H'->¬ g7j x->Q (.bl false) H':=fun H' S' hn=>Q0 H' (S2.trans (S3.trans S')) hn
    have step:∀ (n:Nat) (y:Rat) (v3 v4 v5 v6:Option V) H',Same H3 H'->a=nW n->b=fW y->n<=100000->YOk y->la < n->Pv (i+1) [some (.str x),some (.int n),some (.ref l),v3,v4,v5,v6] H':=(fun n y v3 v4 v5 v6 H' S' ea eb n1 oy hl=>pin _ _ _ ⟨cs++[((n:Int),y)],n,v3,v4,v5,v6,rfl,S2.trans (S3.trans S'),by rw [List.take_add_one,hz,et,List.map_append,show z=cW ((n:Int),y) from a6r (by rw [hx,f5v,ea,eb,c4n])]; rfl,(fun d hd=>by
      rcases List.mem_append.mp hd with h | h
      ·exact ok d h
      ·obtain rfl:=List.mem_singleton.mp h
       exact⟨by show (0:Int)<=n; omega,by show (n:Int)<=100000; omega,oy⟩),ris.snoc (fun j d h1 h2=>by rw [la1 j d h1 h2]; exact hl),(fun h=>by simp at h),(fun j d h1 h2=>by
      rw [List.length_append,List.length_singleton] at h1
      rw [show j=cs.length by omega,List.getElem?_concat_length] at h2
      cases h2
      rfl),il2⟩)
    have step':=(id step:id _)
    have nsw':=(id nsw:id _)
    have q3':=(id q3:id _)
    clear nsw si si' pl pl' et ok ris la0 la1 Q0 pin pout q h1 pne step q3 S2
    walk_at "rd*"
    have q3:∀ H',Same H3 H'->¬ g7j x->Q (.bl false) H':=q3'
    have nsw:(∀ c:Int×Rat,z=cW c->0<=c.1->c.1<=100000->YOk c.2->la < c.1->False)->¬ g7j x:=nsw'
    have step:∀ (n:Nat) (y:Rat) (v3 v4 v5 v6:Option V) H',Same H3 H'->a=nW n->b=fW y->n<=100000->YOk y->la < n->Pv (i+1) [some (.str x),some (.int n),some (.ref l),v3,v4,v5,v6] H':=step'
    refine⟨0,rfl,100000,rfl,Nat.le_refl _,fun r hr=>?_⟩
    cases r with
    | false =>
     rw [if_pos rfl]
     exact q3 H3 (Same.refl _) (nsw fun c ec c0 c1 oy _=>absurd (hr.mpr ⟨c.1.toNat,(g3e hx ha ec c0).1,Nat.zero_le _,by omega⟩) Bool.false_ne_true)
    | true =>
     rw [if_neg (by decide)]
     obtain⟨n,ea,_,n1⟩:=hr.mp rfl
     intro r2 H4 S4 h2
     cases r2 with
     | false =>
      rw [if_pos rfl]
      exact q3 H4 S4 (nsw fun c ec c0 c1 oy _=>absurd (h2.mpr ⟨c.2,(g3e hx ha ec c0).2,oy,fun z=>by cases z⟩) Bool.false_ne_true)
     | true =>
      rw [if_neg (by decide)]
      obtain⟨y,eb,oy,_⟩:=h2.mp rfl
      have a6:a.length<=6:=by
       rw [<- a3k,ea,c4n,a9u]
       exact g1m 5 n (by omega)
      have it:intText? a=some (n:Int):=d0m (by rw [ea,c4n]) (by omega)
      refine⟨n,it,by omega,?_⟩
      by_cases hl:(n:Int)<=la
      ·rw [if_pos hl]
       refine q3 H4 S4 (nsw fun c ec c0 c1 oy' h=>?_)
       have e1:=(g3e hx ha ec c0).1
       rw [ea] at e1
       have e2:=congrArg sg e1
       rw [c4n,c4n,a9u,a9u] at e2
       have:=g5a e2
       omega
      ·rw [if_neg hl]
       exact⟨n,it,by omega,step n y _ _ _ _ H4 S4 ea eb n1 oy (by omega)⟩
  ·intro σ H2 hp
   obtain⟨cs,la,v3,v4,v5,v6,rfl,S2,et,ok,ris,la0,la1,il⟩:=pout _ _ _ hp
   rw [List.length_map,List.take_length] at et
   have cl:cs.length=vs.length:=by rw [et,List.length_map]
   have c1:1<=cs.length:=by
    rw [cl]
    exact List.length_pos_iff.mpr pne
   have h12:=S2 _ _ h1
   have fin:g7j x ↔ vs.length < 13:=by
    rw [si]
    constructor
    ·rintro ⟨cs',ok',e⟩
     rw [e,List.length_map]
     exact Nat.lt_succ_of_le ok'.2.2.2
    ·exact fun h=>⟨cs,⟨ok,ris,c1,by omega⟩,et⟩
   have fin':=(id fin:id _)
   have q':=(id q:id _)
   clear hp et h1 si si' pl pl' ok ris la0 la1 Q0 pin pout fin q cl
   walk_at "rd*"
   have fin:g7j x ↔ vs.length < 13:=fin'
   exact (show ∀ (r:Bool) H1,Same H H1->(r=true ↔ g7j x)->Q (.bl r) H1 from q') _ H2 (S1.trans S2) (by rw [fin,decide_eq_true_eq]; omega)
theorem h5e{c:TT}{a r:TS}{D:Ends}{σ:L2.St}{H:Hp}(B:Bool->Hp->Prop)(hc:∀ Qb:Bool->Hp->Prop,(∀ b H1,B b H1->Qb b H1)->c σ H Qb)(hy:∀ H1,B true H1->∀ D':Ends,D'.rt=D.rt->a D' σ H1)(hn:∀ H1,B false H1->r D σ H1):i4l (i4m c a h1o) r D σ H:=by
 refine hc _ fun b H1 h=>?_
 cases b with
 | true=>exact hy H1 h _ rfl
 | false=>exact hn H1 h
theorem g3f(x:Str):∀ ts:List Str,inV (.str x) (ts.map V.str)=decide (x∈ts)
 | []=>rfl
 | t :: ts=>by
  have ih:=g3f x ts
  unfold inV at ih ⊢
  rw [List.map_cons,List.any_cons,ih]
  by_cases h:t=x
  ·subst h
   simp [eqV]
  ·have:eqV (.str t) (.str x)=false:=by simp [eqV,h]
   rw [this]
   simp
   exact fun e=>absurd e.symm h
section
variable {x kd:Str}{ws:List Str}(hp:IsPart x ↔ ∃ d:Dt,d.ok/\kd :: ws=d.kind :: d.vals)
include hp
theorem h8r (hk : kd = Str.ofString "gain") : IsPart x ↔ ∃ y, YOk y ∧ ws = [fW y] := by
 rw [hp]
 constructor
 ·rintro ⟨d,ok,e⟩
  rw [List.cons.injEq,hk] at e
  cases d with
  | gain y=>exact⟨y,ok,e.2⟩
  | _=>exact absurd e.1 (by simp only [Dt.kind]; decide +kernel)
 ·rintro ⟨y,ok,e⟩
  exact⟨.gain y,ok,by rw [hk,e]; rfl⟩
theorem h4b (hk : kd = Str.ofString "delay") : IsPart x ↔ ∃ n, n ≤ 1000 ∧ ws = [nW n] := by
 rw [hp]
 constructor
 ·rintro ⟨d,ok,e⟩
  rw [List.cons.injEq,hk] at e
  cases d with
  | delay n=>exact⟨n,ok,e.2⟩
  | _=>exact absurd e.1 (by simp only [Dt.kind]; decide +kernel)
 ·rintro ⟨n,ok,e⟩
  exact⟨.delay n,ok,by rw [hk,e]; rfl⟩
theorem h8s (hk : kd = Str.ofString "echo") : IsPart x ↔ ∃ y n t, YOk y ∧ (1 ≤ n ∧ n ≤ 1000) ∧ t ≤ 16 ∧ ws = [fW y, nW n, nW t] := by
 rw [hp]
 constructor
 ·rintro ⟨d,ok,e⟩
  rw [List.cons.injEq,hk] at e
  cases d with
  | echo y n t=>exact⟨y,n,t,ok.1,⟨ok.2.1,ok.2.2.1⟩,ok.2.2.2,e.2⟩
  | _=>exact absurd e.1 (by simp only [Dt.kind]; decide +kernel)
 ·rintro ⟨y,n,t,o1,o2,o3,e⟩
  exact⟨.echo y n t,⟨o1,o2.1,o2.2,o3⟩,by rw [hk,e]; rfl⟩
theorem h1b (hk : kd = Str.ofString "back") : IsPart x ↔ ∃ y n, YOk y ∧ (1 ≤ n ∧ n ≤ 1000) ∧ ws = [fW y, nW n] := by
 rw [hp]
 constructor
 ·rintro ⟨d,ok,e⟩
  rw [List.cons.injEq,hk] at e
  cases d with
  | back y n=>exact⟨y,n,ok.1,ok.2,e.2⟩
  | _=>exact absurd e.1 (by simp only [Dt.kind]; decide +kernel)
 ·rintro ⟨y,n,o1,o2,e⟩
  exact⟨.back y n,⟨o1,o2⟩,by rw [hk,e]; rfl⟩
theorem h1c (hk : kd = Str.ofString "hall") : IsPart x ↔ ∃ y n, YOk y ∧ (y.num.natAbs : Int) < (y.den : Int) ∧ (1 ≤ n ∧ n ≤ 1000) ∧ ws = [fW y, nW n] := by
 rw [hp]
 constructor
 ·rintro ⟨d,ok,e⟩
  rw [List.cons.injEq,hk] at e
  cases d with
  | hall y n=>exact⟨y,n,ok.1,ok.2.1,ok.2.2,e.2⟩
  | _=>exact absurd e.1 (by simp only [Dt.kind]; decide +kernel)
 ·rintro ⟨y,n,o1,o2,o3,e⟩
  exact⟨.hall y n,⟨o1,o2,o3⟩,by rw [hk,e]; rfl⟩
theorem h4d (hk : kd = Str.ofString "swell") : IsPart x ↔ ∃ cs, f5u cs ∧ ws = [Str.join ⟨#[44]⟩ (cs.map cW)] := by
 rw [hp]
 constructor
 ·rintro ⟨d,ok,e⟩
  rw [List.cons.injEq,hk] at e
  cases d with
  | swell cs=>exact⟨cs,ok,e.2⟩
  | _=>exact absurd e.1 (by simp only [Dt.kind]; decide +kernel)
 ·rintro ⟨cs,ok,e⟩
  exact⟨.swell cs,ok,by rw [hk,e]; rfl⟩
theorem i7t (hk : kd ∉ (["gain", "delay", "echo", "back", "swell", "hall"] : List Str)) : ¬ IsPart x := by
 rw [hp]
 rintro ⟨d,ok,e⟩
 rw [List.cons.injEq] at e
 refine hk ?_
 rw [e.1]
 cases d <;> simp [Dt.kind]
theorem i7u {v : Str} {r : List Str} (hm : kd ∈ (["gain", "back", "echo", "hall"] : List Str)) (ew : ws = v :: r) (h : IsPart x) : h0j v (decide (kd = Str.ofString "hall")) := by
 obtain⟨d,ok,e⟩:=hp.mp h
 rw [List.cons.injEq,ew] at e
 obtain⟨e1,e2⟩:=e
 cases d with
 | gain y =>
  rw [Dt.vals,List.cons.injEq] at e2
  exact⟨y,e2.1,ok,fun z=>absurd (e1.symm.trans (of_decide_eq_true z)) (by simp only [Dt.kind]; decide +kernel)⟩
 | echo y n t =>
  rw [Dt.vals,List.cons.injEq] at e2
  exact⟨y,e2.1,ok.1,fun z=>absurd (e1.symm.trans (of_decide_eq_true z)) (by simp only [Dt.kind]; decide +kernel)⟩
 | back y n =>
  rw [Dt.vals,List.cons.injEq] at e2
  exact⟨y,e2.1,ok.1,fun z=>absurd (e1.symm.trans (of_decide_eq_true z)) (by simp only [Dt.kind]; decide +kernel)⟩
 | hall y n =>
  rw [Dt.vals,List.cons.injEq] at e2
  exact⟨y,e2.1,ok.1,fun _=>ok.2.1⟩
 | _ =>
  rw [e1] at hm
  exact absurd hm (by simp only [Dt.kind]; decide +kernel)
end
theorem i7v (T : Tx K mg A) : a1g P A.wd K mg base CX0 4 A.a8g A.a8r ["_law_word"] i7l := by
 have d0y:a1g P A.wd K mg base CX0 2 _ _ _ _:=i4c T
 have c7v:a1g P A.wd K mg base CX0 2 _ _ _ _:=i4e T
 have f2z:a1g P A.wd K mg base CX0 3 _ _ _ _:=i7s T
 refine T.b4q.ok d1j (fun vs H Q E h=>?_) (fun cdv A' outer s H vs Q E hr h=>?_)
 ·obtain⟨_,rfl,_⟩:=d2t (by unfold i7l at h; exact h)
  rfl
 ·obtain⟨x,rfl,⟨xl,q⟩⟩:=d2t (by unfold i7l at h; exact h)
  have hu:=hr.units
  have hs:sizeLine=16777216:=sizeLine_eq
  have c6m:a1y 2 _:=hr.mono (by decide)
  have c4z:a1y 2 _:=hr.mono (by decide)
  have f2l:a1y 3 _:=hr.mono (by decide)
  have sle:=split_le x 58
  have pl:∀ p∈a3r x ⟨#[58]⟩,p.length<=1000:=fun p hp=>Nat.le_trans (d4p hp) xl
  obtain⟨kd,ws,ek⟩:∃ kd ws,a3r x ⟨#[58]⟩=kd :: ws:=List.exists_cons_of_ne_nil (d2z _ _)
  have pi:=g4w (x:=x)
  rw [ek] at sle pl pi
  rw [List.length_cons] at sle
  refine⟨_,(f8y (a0z (i:=1) d1j.nd rfl (Or.inl rfl) (b1o a4j PySem.F.plainAttrs_str PySem.F.slot_str_split PySem.F.type_str_split b8m (pvF 0) (a0g a0m a0h)))
   (a0i (a4o (pw_and (a0t h5a (a0r a3z (pvF 1) a0j (fun _ _=>rfl)) (a8v (a0g a0m (a0g a0m (a0g a0m (a0g a0m a0h))))) (by rfl)) (pw_and (a0t c8m (a0y a3l (by rfl) T.c4w boot_len (a0g (pvF 1) a0h)) a0j (a1i _)) (pw_and1 (b3w (a3m (a0l c7v c4z (by rfl) T.d4h T.b0l.kp T.d4g .nil a0w (a0g (a0r a3z (pvF 1) a0j (fun _ _=>rfl)) (a0g (b3y (b1n hu) (a0r a3z (pvF 1) a0j (fun _ _=>rfl)) a0m (a1i _)) a0h)))))))).pt
   (a0k (a0s d4r))
   a1h)
   (a0i (a4o (a0t (b1n hu) (a0r a3z (pvF 1) a0j (fun _ _=>rfl)) a0m (a1i _))
   (a0k (a0s (b3y (b1n hu) (a0y a3l (by rfl) T.c4w boot_len (a0g (pvF 1) a0h)) a0j (a1i _))))
   a1h)
   (a0i (a4o (a0t (b1n hu) (a0r a3z (pvF 1) a0j (fun _ _=>rfl)) a0m (a1i _))
   (a0k (a0s (c4k (b3y (b1n hu) (a0y a3l (by rfl) T.c4w boot_len (a0g (pvF 1) a0h)) a0j (a1i _)) (d6v (a0l d0y c6m (by rfl) T.d3z T.c0j.kp T.d3y .nil a0w (a0g (a0r a3z (pvF 1) a0j (fun _ _=>rfl)) (a0g a0j (a0g a0j a0h))))))))
   a1h)
   (a0i (a4o (a0t (b1n hu) (a0r a3z (pvF 1) a0j (fun _ _=>rfl)) a0m (a1i _))
   (a0k (a0s (c4k (b3y (b1n hu) (a0y a3l (by rfl) T.c4w boot_len (a0g (pvF 1) a0h)) a0j (a1i _)) (d6v (a0l f2z f2l (by rfl) T.f2s T.b1s.kp T.f2r .nil a0w (a0g (a0r a3z (pvF 1) a0j (fun _ _=>rfl)) a0h))))))
   a1h)
   (a0i (a4o (a0t (b1n hu) (a0r a3z (pvF 1) a0j (fun _ _=>rfl)) a0m (a1i _))
   (a0k (a0s (c4k (b3y (b1n hu) (a0y a3l (by rfl) T.c4w boot_len (a0g (pvF 1) a0h)) a0j (a1i _)) (c4k (a0l d0y c6m (by rfl) T.d3z T.c0j.kp T.d3y .nil a0w (a0g (a0r a3z (pvF 1) a0j (fun _ _=>rfl)) (a0g a0j (a0g a0j a0h)))) (d6v (a0l d0y c6m (by rfl) T.d3z T.c0j.kp T.d3y .nil a0w (a0g (a0r a3z (pvF 1) a0j (fun _ _=>rfl)) (a0g a0j (a0g a0j a0h)))))))))
   a1h)
   (a0k (a0s (c4k (b3y h5a (a0r a3z (pvF 1) a0j (fun _ _=>rfl)) (a8v (a0g a0m (a0g a0m a0h))) (by rfl)) (c4k (b3y (b1n hu) (a0y a3l (by rfl) T.c4w boot_len (a0g (pvF 1) a0h)) a0j (a1i _)) (d6v (a0l d0y c6m (by rfl) T.d3z T.c0j.kp T.d3y .nil a0w (a0g (a0r a3z (pvF 1) a0j (fun _ _=>rfl)) (a0g a0j (a0g a0j a0h))))))))))))))),?_⟩
  rw [h7g]
  walk_at "rd"
  rw [ek]
  refine⟨rfl,by omega,by rw [List.length_cons]; omega,fun l H1 n1 S1 h1=>?_⟩
  replace h1:H1 l=some (.lst (V.str kd :: ws.map V.str)):=h1
  have wz:∀ v∈ws,v.length<=1000:=fun v hv=>pl v (List.mem_cons_of_mem _ hv)
  walk_at "rd"
  refine Stop.go ?_
  have Q0:∀ H',Same H1 H'->¬ IsPart x->Q (.bl false) H':=fun H' S' hn=>q false H' (S1.trans S') ⟨fun z=>(Bool.false_ne_true z).elim,fun z=>(hn z).elim⟩
  have Q1:∀ (r:Bool) H',Same H1 H'->(r=true ↔ IsPart x)->Q (.bl r) H':=fun r H' S' h=>q r H' (S1.trans S') h
  have lws:((V.str kd :: ws.map V.str).length:Int)=(ws.length:Int)+1:=by rw [List.length_cons,List.length_map]; omega
  clear q ek
  obtain ⟨gp, egp⟩ : ∃ gp : Prop, gp = (kd ∈ (["gain", "back", "echo", "hall"] : List Str) → ∀ v r, ws = v :: r → h0j v (decide (kd = Str.ofString "hall"))) := ⟨_, rfl⟩
  refine h5e (fun b H'=>Same H1 H'/\(b=true->¬ IsPart x)/\(b=false->gp)) (fun Qb hq=>?_) (fun H2 ⟨S2,hb,_⟩ D' eD=>?_) (fun H2 ⟨S2,_,hb⟩=>?_)
  ·have iv := g3f kd ["gain", "back", "echo", "hall"]
   replace iv : inV (.str kd) [V.str (Str.ofString "gain"), V.str (Str.ofString "back"), V.str (Str.ofString "echo"), V.str (Str.ofString "hall")] = decide (kd ∈ (["gain", "back", "echo", "hall"] : List Str)) := iv
   have hq':=(id hq:id _)
   have gh:=fun (v:Str) (r:List Str)=>i7u (v:=v) (r:=r) pi
   have gh':=(id gh:id _)
   have egp':=(id egp:id _)
   have wz':=(id wz:id _)
   clear hq Q0 Q1 pi egp gh wz
   walk_at "rd*"
   refine fun l2 H2 m2 S2 h2=>?_
   have h12:=S2 _ _ h1
   clear h1
   walk_at "rd*"
   have hq:∀ b H1',(Same H1 H1'/\(b=true->¬ IsPart x)/\(b=false->gp))->Qb b H1':=hq'
   have egp : gp = (kd ∈ (["gain", "back", "echo", "hall"] : List Str) → ∀ v r, ws = v :: r → h0j v (decide (kd = Str.ofString "hall"))) := egp'
   have wz:∀ v∈ws,v.length<=1000:=wz'
   have gh : ∀ (v : Str) (r : List Str), kd ∈ (["gain", "back", "echo", "hall"] : List Str) → ws = v :: r → IsPart x → h0j v (decide (kd = Str.ofString "hall")) := gh'
   refine⟨rfl,rfl,?_⟩
   cases ws with
   | nil =>
    rw [if_neg (fun z=>absurd z.2 (by decide))]
    exact hq false H2 ⟨S2,(fun z=>by cases z),fun _=>by rw [egp]; exact fun _ v r e=>by cases e⟩
   | cons v r =>
    by_cases hm : kd ∈ (["gain", "back", "echo", "hall"] : List Str)
    ·rw [if_pos ⟨hm,by rw [List.length_cons]; omega⟩]
     refine⟨.str v,c4j (j:=1) rfl,wz v List.mem_cons_self,fun rr H3 S3 h=>hq _ H3 ⟨S2.trans S3,fun z hp=>?_,fun z=>?_⟩⟩
     ·have:rr=true:=h.mpr (gh v r hm rfl hp)
      rw [this] at z
      cases z
     ·rw [egp]
      intro _ v' r' e
      cases e
      exact h.mp (by simpa using z)
    ·rw [if_neg (fun z=>hm z.1)]
     exact hq false H2 ⟨S2,(fun z=>by cases z),fun _=>by rw [egp]; exact fun z=>absurd z hm⟩
  ·walk_at "rd"
   rw [eD]
   exact Q0 H2 S2 (hb rfl)
  replace hb:=hb rfl
  rw [egp] at hb
  have h2:=S2 _ _ h1
  have Q2:∀ (r:Bool) H',Same H2 H'->(r=true ↔ IsPart x)->Q (.bl r) H':=fun r H' S' h=>Q1 r H' (S2.trans S') h
  clear Q0 Q1 h1 egp
  have go:∀ {z:Str} {r:TS} {a:TS} {D:Ends},(kd=z->∀ D':Ends,D'.rt=D.rt->a D' [some (.str x),some (.ref l)] H2)->(kd≠z->r D [some (.str x),some (.ref l)] H2)->i4l (i4m (tBF (tOp (i5q K) (tOp i8l (h6o 1) (tC (.int 0))) (tC (.str z)))) a h1o) r D [some (.str x),some (.ref l)] H2:=fun {z r a D} hy hn=>by
   refine g6z (decide (kd=z)) (fun Qb hq=>?_) (fun h=>hy (of_decide_eq_true h)) (fun h=>hn (of_decide_eq_false h))
   walk_at "rd*"
  refine go (fun hk D' eD=>?_) (fun k0=>?_)
  ·have e:=h8r pi hk
   have e':=(id e:id _)
   clear e pi wz pl
   walk_at "rd*"
   refine Q2 _ H2 (Same.refl _) ?_
   rw [show IsPart x ↔ _ from e',decide_eq_true_eq]
   constructor
   ·intro h
    obtain⟨v,rfl⟩:=List.length_eq_one_iff.mp (show ws.length=1 by omega)
    obtain⟨y,ey,oy,_⟩:=hb (by rw [hk]; simp) v [] rfl
    exact⟨y,oy,by rw [ey]⟩
   ·rintro ⟨y,_,rfl⟩
    rfl
  refine go (fun hk D' eD=>?_) (fun k1=>?_)
  ·have e:=h4b pi hk
   have e':=(id e:id _)
   have wz':=(id wz:id _)
   have hb':=(id hb:id _)
   clear e pi wz pl hb
   walk_at "rd*"
   have wz:∀ v∈ws,v.length<=1000:=wz'
   have e:IsPart x ↔ ∃ n,n<=1000/\ws = [nW n]:=e'
   by_cases h1:ws.length=1
   ·rw [if_pos (by omega)]
    obtain⟨v,rfl⟩:=List.length_eq_one_iff.mp h1
    refine⟨.str v,rfl,0,rfl,1000,rfl,by decide,wz v List.mem_cons_self,fun r hr=>Q2 r H2 (Same.refl _) ?_⟩
    rw [hr,e]
    exact⟨fun⟨n,e1,_,e3⟩=>⟨n,e3,by rw [e1]⟩,fun⟨n,e1,e2⟩=>⟨n,(List.cons.inj e2).1,Nat.zero_le _,e1⟩⟩
   ·rw [if_neg (by omega)]
    refine Q2 _ H2 (Same.refl _) ⟨fun z=>(Bool.false_ne_true z).elim,fun z=>?_⟩
    obtain⟨n,_,rfl⟩:=e.mp z
    exact absurd rfl h1
  refine go (fun hk D' eD=>?_) (fun k2=>?_)
  ·have e:=h4d pi hk
   have e':=(id e:id _)
   have wz':=(id wz:id _)
   have hb':=(id hb:id _)
   clear e pi wz pl hb
   walk_at "rd*"
   have wz:∀ v∈ws,v.length<=1000:=wz'
   have e:IsPart x ↔ ∃ cs,f5u cs/\ws = [Str.join ⟨#[44]⟩ (cs.map cW)]:=e'
   by_cases h1:ws.length=1
   ·rw [if_pos (by omega)]
    obtain⟨v,rfl⟩:=List.length_eq_one_iff.mp h1
    refine⟨.str v,rfl,wz v List.mem_cons_self,fun r H3 S3 hr=>Q2 r H3 S3 ?_⟩
    rw [hr,e]
    exact⟨fun⟨cs,e1,e3⟩=>⟨cs,e1,by rw [e3]⟩,fun⟨cs,e1,e2⟩=>⟨cs,e1,(List.cons.inj e2).1⟩⟩
   ·rw [if_neg (by omega)]
    refine Q2 _ H2 (Same.refl _) ⟨fun z=>(Bool.false_ne_true z).elim,fun z=>?_⟩
    obtain⟨n,_,rfl⟩:=e.mp z
    exact absurd rfl h1
  refine go (fun hk D' eD=>?_) (fun k3=>?_)
  ·have e:=h8s pi hk
   have e':=(id e:id _)
   have wz':=(id wz:id _)
   have hb':=(id hb:id _)
   clear e pi wz pl hb
   walk_at "rd*"
   have wz:∀ v∈ws,v.length<=1000:=wz'
   have hb : kd ∈ (["gain", "back", "echo", "hall"] : List Str) → ∀ v r, ws = v :: r → h0j v (decide (kd = Str.ofString "hall")) := hb'
   have e:IsPart x ↔ ∃ y n t,YOk y/\(1<=n/\n<=1000)/\t<=16/\ws = [fW y,nW n,nW t]:=e'
   by_cases h1:ws.length=3
   ·rw [if_pos (by omega)]
    obtain⟨v1,v2,v3,rfl⟩:=ln3 h1
    obtain⟨y,ey,oy,_⟩:=hb (by rw [hk]; simp) v1 _ rfl
    refine⟨.str v2,c4j (j:=2) rfl,1,rfl,1000,rfl,by decide,wz v2 (by simp),fun r hr=>?_⟩
    cases r with
    | false =>
     rw [if_neg Bool.false_ne_true]
     refine Q2 _ H2 (Same.refl _) ⟨fun z=>(Bool.false_ne_true z).elim,fun z=>?_⟩
     obtain⟨y',n,t,_,o2,_,e3⟩:=e.mp z
     simp only [List.cons.injEq,and_true] at e3
     exact hr.mpr ⟨n,e3.2.1,o2⟩
    | true =>
     rw [if_pos rfl]
     obtain⟨n,en,o2⟩:=hr.mp rfl
     refine⟨.str v3,c4j (j:=3) rfl,0,rfl,16,rfl,by decide,wz v3 (by simp),fun r hr=>Q2 r H2 (Same.refl _) ?_⟩
     rw [hr,e]
     constructor
     ·rintro ⟨t,et,_,t2⟩
      exact⟨y,n,t,oy,o2,t2,by rw [ey,en,et]⟩
     ·rintro ⟨y',n',t,_,_,o3,e3⟩
      simp only [List.cons.injEq,and_true] at e3
      exact⟨t,e3.2.2,Nat.zero_le _,o3⟩
   ·rw [if_neg (by omega)]
    refine Q2 _ H2 (Same.refl _) ⟨fun z=>(Bool.false_ne_true z).elim,fun z=>?_⟩
    obtain⟨y,n,t,_,_,_,rfl⟩:=e.mp z
    exact absurd rfl h1
  have iv := g3f kd ["back", "hall"]
  replace iv : inV (.str kd) [V.str (Str.ofString "back"), V.str (Str.ofString "hall")] = decide (kd ∈ (["back", "hall"] : List Str)) := iv
  have wz':=(id wz:id _)
  have hb':=(id hb:id _)
  have pi':=(id pi:id _)
  clear pi wz pl hb
  walk_at "rd*"
  refine fun l2 H3 m3 S3 h3=>?_
  have h23:=S3 _ _ h2
  clear h2
  walk_at "rd*"
  have wz:∀ v∈ws,v.length<=1000:=wz'
  have hb : kd ∈ (["gain", "back", "echo", "hall"] : List Str) → ∀ v r, ws = v :: r → h0j v (decide (kd = Str.ofString "hall")) := hb'
  have pi:IsPart x ↔ ∃ d:Dt,d.ok/\kd :: ws=d.kind :: d.vals:=pi'
  refine⟨rfl,rfl,?_⟩
  by_cases hm : kd ∈ (["back", "hall"] : List Str)
  ·by_cases h1:ws.length=2
   ·rw [if_pos ⟨hm,by omega⟩]
    obtain⟨v1,v2,rfl⟩:=ln2 h1
    refine⟨.str v2,c4j (j:=2) rfl,1,rfl,1000,rfl,by decide,wz v2 (by simp),fun r hr=>Q2 r H3 S3 ?_⟩
    rw [hr]
    simp only [List.mem_cons,List.not_mem_nil,or_false] at hm
    rcases hm with hk | hk
    ·rw [h1b pi hk]
     obtain⟨y,ey,oy,_⟩:=hb (by rw [hk]; simp) v1 _ rfl
     constructor
     ·rintro ⟨n,en,o2⟩
      exact⟨y,n,oy,o2,by rw [ey,en]⟩
     ·rintro ⟨y',n,_,o2,e3⟩
      simp only [List.cons.injEq,and_true] at e3
      exact⟨n,e3.2,o2⟩
    ·rw [h1c pi hk]
     obtain⟨y,ey,oy,hy⟩:=hb (by rw [hk]; simp) v1 _ rfl
     constructor
     ·rintro ⟨n,en,o2⟩
      exact⟨y,n,oy,hy (decide_eq_true hk),o2,by rw [ey,en]⟩
     ·rintro ⟨y',n,_,_,o2,e3⟩
      simp only [List.cons.injEq,and_true] at e3
      exact⟨n,e3.2,o2⟩
   ·rw [if_neg (fun z=>h1 (by omega))]
    refine Q2 _ H3 S3 ⟨fun z=>(Bool.false_ne_true z).elim,fun z=>?_⟩
    simp only [List.mem_cons,List.not_mem_nil,or_false] at hm
    rcases hm with hk | hk
    ·obtain⟨y,n,_,_,rfl⟩:=(h1b pi hk).mp z
     exact absurd rfl h1
    ·obtain⟨y,n,_,_,_,rfl⟩:=(h1c pi hk).mp z
     exact absurd rfl h1
  ·rw [if_neg (fun z=>hm z.1)]
   refine Q2 _ H3 S3 ⟨fun z=>(Bool.false_ne_true z).elim,fun z=>absurd z (i7t pi ?_)⟩
   simp only [List.mem_cons,List.not_mem_nil,or_false,not_or] at hm ⊢
   exact⟨k0,k1,k3,hm.1,k2,hm.2⟩
theorem f7s{xs:List V}{j:Nat}{R:V->Prop}(hj:j < xs.length)(h:∀ v∈xs,R v):∃ v,atI xs (j:Int)=some v/\R v:=⟨xs[j],c4j (List.getElem?_eq_getElem hj),h _ (List.getElem_mem hj)⟩
theorem g0y(k:Int){n:Int}(h:0 < n):∃ j:Nat,k.fmod n=j/\(j:Int) < n:=by
 have h1:=Int.fmod_nonneg_of_pos k h
 have h2:=Int.fmod_lt_of_pos k h
 exact⟨(k.fmod n).toNat,by omega,by omega⟩
theorem jtxt(z:Str)(l:List Str):Txt.join z l=Str.join z l:=by
 first | rfl | exact h7j _ _
theorem i4g:f5u [(0,mkRat 0 1)]:=⟨fun c hc=>by
  obtain rfl:=List.mem_singleton.mp hc
  exact⟨by decide,by decide,by decide +kernel,by decide +kernel⟩,(fun i c d h1 h2=>by cases i <;> cases h2),by decide,by decide⟩
theorem h4e:f5u [(5,mkRat (-1) 3),(17,mkRat 2 1),(100000,mkRat 1000 1)]:=⟨fun c hc=>by
  simp only [List.mem_cons,List.not_mem_nil,or_false] at hc
  rcases hc with rfl | rfl | rfl
  ·exact⟨by decide,by decide,by decide +kernel,by decide +kernel⟩
  ·exact⟨by decide,by decide,by decide +kernel,by decide +kernel⟩
  ·exact⟨by decide,by decide,by decide +kernel,by decide +kernel⟩,(fun i c d h1 h2=>by
  match i,h1,h2 with
  | 0,h1,h2=>cases h1; cases h2; decide
  | 1,h1,h2=>cases h1; cases h2; decide
  | i+2,h1,h2=>cases h2),by decide,by decide⟩
theorem i7w (T : Tx K mg A) : a1g P A.wd K mg base CX0 1 A.b6n A.b6o ["_law_mixed"] i7m := by
 refine T.c5t.ok d1r (fun vs H Q E h=>?_) (fun cdv A' outer s H vs Q E hr h=>?_)
 ·obtain⟨_,rfl,_⟩:=h8x (by unfold i7m at h; exact h)
  rfl
 ·obtain⟨m,rfl,q⟩:=h8x (by unfold i7m at h; exact h)
  have q:∀ (d:Dt) H1,Same H H1->d.ok->1<=d.word.length->d.word.length<=100->Q (.str d.word) H1:=q
  have hu:=hr.units
  have hs:sizeLine=16777216:=sizeLine_eq
  obtain⟨j,ej,jl⟩:=g0y m (n:=11) (by decide)
  refine⟨_,(a0i (a0z (i:=1) d1r.nd rfl (Or.inl rfl) (a8v (a0g a0m (a0g a0m (a0g a0m (a0g a0m (a0g a0m (a0g a0m (a0g a0m a0h)))))))))
   (a0i (a0z (i:=1) d1r.nd rfl (Or.inl rfl) (a4u a7l (pvF 1) (a8v (a0g a0m (a0g a0m (a0g a0m (a0g a0m a0h)))))))
   (a0k (a0s (a0r a3z (pvF 1) (a4u d6z (pvF 0) a0j) (fun _ _=>rfl)))))),?_⟩
  have q':=(id q:id _)
  clear q
  walk_at "rd*"
  refine fun l1 H1 n1 S1 h1=>?_
  walk_at "rd*"
  refine fun l2 H2 n2 S2 h2=>?_
  have h12:=S2 _ _ h1
  clear h1
  walk_at "rd*"
  refine fun l3 H3 n3 S3 h3=>?_
  clear h12 h2
  walk_at "rd*"
  have q:∀ (d:Dt) H1,Same H H1->d.ok->1<=d.word.length->d.word.length<=100->Q (.str d.word) H1:=q'
  have S03:=S1.trans (S2.trans S3)
  have qd:∀ (d:Dt) (z:Str),d.word=z->d.ok->1<=z.length->z.length<=100->Q (.str z) H3:=fun d z e ok l1 l2=>by
   subst e
   exact q d H3 S03 ok l1 l2
  refine f7s (R:=fun v=>Q v H3) (by show j < 11; omega) fun v hv=>?_
  simp only [List.mem_cons,List.not_mem_nil,or_false] at hv
  rcases hv with rfl | rfl | rfl | rfl | rfl | rfl | rfl | rfl | rfl | rfl | rfl
  ·exact qd (.gain (mkRat 3 4)) _ (by decide +kernel) ⟨by decide +kernel,by decide +kernel⟩ (by decide +kernel) (by decide +kernel)
  ·exact qd (.gain (mkRat (-1000) 999)) _ (by decide +kernel) ⟨by decide +kernel,by decide +kernel⟩ (by decide +kernel) (by decide +kernel)
  ·exact qd (.delay 0) _ (by decide +kernel) (by decide:0<=1000) (by decide +kernel) (by decide +kernel)
  ·exact qd (.delay 1000) _ (by decide +kernel) (by decide:1000<=1000) (by decide +kernel) (by decide +kernel)
  ·exact qd (.echo (mkRat 1 2) 3 4) _ (by decide +kernel) ⟨⟨by decide +kernel,by decide +kernel⟩,by decide,by decide,by decide⟩ (by decide +kernel) (by decide +kernel)
  ·exact qd (.echo (mkRat (-7) 1) 1000 16) _ (by decide +kernel) ⟨⟨by decide +kernel,by decide +kernel⟩,by decide,by decide,by decide⟩ (by decide +kernel) (by decide +kernel)
  ·exact qd (.back (mkRat 0 1) 1) _ (by decide +kernel) ⟨⟨by decide +kernel,by decide +kernel⟩,by decide,by decide⟩ (by decide +kernel) (by decide +kernel)
  ·exact qd (.hall (mkRat (-1) 2) 20) _ (by decide +kernel) ⟨⟨by decide +kernel,by decide +kernel⟩,by decide +kernel,by decide,by decide⟩ (by decide +kernel) (by decide +kernel)
  ·exact qd (.hall (mkRat 999 1000) 1) _ (by decide +kernel) ⟨⟨by decide +kernel,by decide +kernel⟩,by decide +kernel,by decide,by decide⟩ (by decide +kernel) (by decide +kernel)
  ·exact qd (.swell [(0,mkRat 0 1)]) _ (by decide +kernel) i4g (by decide +kernel) (by decide +kernel)
  ·exact qd (.swell [(5,mkRat (-1) 3),(17,mkRat 2 1),(100000,mkRat 1000 1)]) _ (by decide +kernel) h4e (by decide +kernel) (by decide +kernel)
theorem h8t (T : Tx K mg A) : a1g P A.wd K mg base CX0 1 A.b6p A.b6q ["_law_mixed"] h0k := by
 refine T.c5u.ok b5j (fun vs H Q E h=>?_) (fun cdv A' outer s H vs Q E hr h=>?_)
 ·obtain⟨_,rfl,_⟩:=h8x (by unfold h0k at h; exact h)
  rfl
 ·obtain⟨m,rfl,q⟩:=h8x (by unfold h0k at h; exact h)
  have q:∀ (x:Str) H1,Same H H1->x.length<=420->Q (.str x) H1:=q
  have hu:=hr.units
  have hs:sizeLine=16777216:=sizeLine_eq
  obtain⟨j,ej,jl⟩:=g0y m (n:=33) (by decide)
  refine⟨_,(a0i (a0z (i:=1) b5j.nd rfl (Or.inl rfl) (a8v (a0g a0m (a0g a0m (a0g a0m (a0g a0m (a0g a0m (a0g a0m (a0g a0m (a0g a0m a0h))))))))))
   (a0i (a0z (i:=1) b5j.nd rfl (Or.inl rfl) (a4u a7l (pvF 1) (a8v (a0g a0m (a0g a0m (a0g a0m (a0g a0m (a0g a0m (a0g a0m (a0g a0m a0h))))))))))
   (a0i (a0z (i:=1) b5j.nd rfl (Or.inl rfl) (a4u a7l (pvF 1) (a8v (a0g a0m (a0g a0m (a0g a0m (a0g a0m (a0g a0m (a0g a0m (a0g a0m a0h))))))))))
   (a0i (a0z (i:=1) b5j.nd rfl (Or.inl rfl) (a4u a7l (pvF 1) (a8v (a0g a0m (a0g a0m (a0g a0m (a0g a0m (a0g a0m (a0g a0m a0h)))))))))
   (a0i (a0z (i := 1) b5j.nd rfl (Or.inl rfl) (a4u a7l (pvF 1) (a8v (a0g (a4u a7l a0m (b1o a4j PySem.F.plainAttrs_str PySem.F.slot_str_join PySem.F.type_str_join g3v a0m (a0g (d8v (d4t (by rfl) T.g2l (a0g a0j a0h)) (fun _ _ _ _ _ => (a4u a7l (a5i g8p (by rfl) T.g9n boot_str (a0g (pvF 0) a0h)) a0m)) (g1g (sc := a0n d5i) (N := ["_law_mixed", "_law_some"]) rfl rfl (by decide +kernel)) rfl) a0h))) (a0g a0m (a0g a0m (a0g a0m (a0g a0m a0h))))))))
   (a0k (a0s (a0r a3z (pvF 1) (a4u d6z (pvF 0) a0j) (fun _ _=>rfl))))))))),?_⟩
  have q':=(id q:id _)
  clear q
  have small:∀ {xs:List String} {vs:List V},vs=xs.map (fun z=>V.str (Str.ofString z))->(xs.all fun z=>decide ((Str.ofString z).length<=400))=true->∀ v∈vs,∃ z:Str,v = .str z/\z.length<=400:=fun {xs vs} e h v hv=>by
   rw [e] at hv
   obtain⟨z,hz,rfl⟩:=List.mem_map.mp hv
   exact⟨_,rfl,of_decide_eq_true (List.all_eq_true.mp h z hz)⟩
  walk_at "rd*"
  refine fun l1 H1 n1 S1 h1=>?_
  walk_at "rd*"
  refine fun l2 H2 n2 S2 h2=>?_
  have h12:=S2 _ _ h1
  clear h1
  walk_at "rd*"
  refine fun l3 H3 n3 S3 h3=>?_
  clear h12 h2
  walk_at "rd*"
  refine fun l4 H4 n4 S4 h4=>?_
  have h34:=S4 _ _ h3
  clear h3
  walk_at "rd*"
  refine fun l5 H5 n5 S5 h5=>?_
  clear h34 h4
  walk_at "rd*"
  refine fun l6 H6 n6 S6 h6=>?_
  have h56:=S6 _ _ h5
  clear h5
  walk_at "rd*"
  refine fun l7 H7 n7 S7 h7=>?_
  clear h56 h6
  walk_at "rd*"
  refine fun D H8 n8 S8 h8=>?_
  refine d8w (n:=13) (fun i ys H'=>Same H7 H'/\H' D=some (.lst ys)/\ys.length=i/\∃ zs:List Str,ys=zs.map V.str/\∀ z∈zs,z.length<=30) ⟨S8,h8,rfl,[],rfl,fun z hz=>by cases hz⟩ (by omega) ?_ ?_ ?_
  ·intro i ys H' hi ⟨S',h',yl,_⟩
   exact⟨h',yl⟩
  ·intro i ys H' hi ⟨S',h',yl,zs,e,zl⟩
   have l1:=c4m (t:=0+(i:Int)) (n:=20) (by omega) (by decide)
   have g1:=c8i (t:=0+(i:Int)) (n:=20) (by omega) (by decide)
   have e1 : (Str.ofString "=1/1").length = 4 := by decide +kernel
   walk_at "rd"
   rw [Int.zero_add] at l1 g1
   refine ⟨by omega, by rw [e1]; omega, h', fun H3 B3 h3 => ⟨S'.step n8 B3, h3, by rw [yl], zs ++ [Str.ofString (toString (i : Int)) ++ Str.ofString "=1/1"], by rw [e, List.map_append]; rfl, fun z hz => ?_⟩⟩
   rcases List.mem_append.mp hz with h | h
   ·exact zl z h
   ·obtain rfl:=List.mem_singleton.mp h
    rw [strLen_append,e1]
    omega
  ·intro ys H9 ⟨S9,h9,yl,zs,e,zl⟩
   subst e
   rw [List.length_map] at yl
   have h79:=S9 _ _ h7
   have jo : JoinOk (Str.ofString ",") zs = true := joinOk_of (n := 30) zl (by rw [yl]; decide +kernel)
   have jl := f5w (z := Str.ofString ",") zl
   clear h7 h8
   walk_at "rd*"
   have e6 : (Str.ofString "swell:").length = 6 := by decide +kernel
   have e7 : (Str.ofString ",").length = 1 := by decide +kernel
   rw [yl,e7] at jl
   replace jl : (Txt.join (Str.ofString ",") zs).length ≤ 403 := by
    rw [jtxt]
    omega
   refine⟨zs,rfl,jo,by omega,fun lA HA nA SA hA=>?_⟩
   have h7A:=SA _ _ h79
   clear h79 h9
   walk_at "rd*"
   refine fun lB HB nB SB hB=>?_
   clear h7A hA
   walk_at "rd*"
   have q:∀ (x:Str) H1,Same H H1->x.length<=420->Q (.str x) H1:=q'
   have S0B:=S1.trans (S2.trans (S3.trans (S4.trans (S5.trans (S6.trans (S7.trans (S9.trans (SA.trans SB))))))))
   refine f7s (R:=fun v=>Q v HB) (by show j < 33; omega) fun v hv=>?_
   have hz:∃ z:Str,v = .str z/\z.length<=420:=by
    simp only [List.mem_cons,List.not_mem_nil,or_false] at hv
    rcases hv with rfl | rfl | rfl | rfl | rfl | rfl | rfl | rfl | rfl | rfl | rfl | rfl | rfl | rfl | rfl | rfl | rfl | rfl | rfl | rfl | rfl | rfl | rfl | rfl | rfl | rfl | rfl | rfl | rfl | rfl | rfl | rfl | rfl
    all_goals first | exact⟨_,rfl,by decide +kernel⟩ | exact⟨_,rfl,by rw [strLen_append,e6]; omega⟩
   obtain⟨z,rfl,zl'⟩:=hz
   exact q z HB S0B zl'
theorem i4h (T : Tx K mg A) : a1g P A.wd K mg base CX0 1 A.a8h A.a8s ["_law_word", "_law_mixed"] h8h := by
 refine T.b4r.ok b1r (fun vs H Q E h=>?_) (fun cdv A' outer s H vs Q E hr h=>?_)
 ·obtain⟨_,_,rfl,_⟩:=i2n (by unfold h8h at h; exact h)
  rfl
 ·obtain⟨x,m,rfl,⟨x1,x100,m0,q⟩⟩:=i2n (by unfold h8h at h; exact h)
  have hu:=hr.units
  have hs:sizeLine=16777216:=sizeLine_eq
  obtain⟨j1,ej1,jl1⟩:=g0y (m.fdiv 5) (n:=21) (by decide)
  obtain⟨j2,ej2,jl2⟩:=g0y (m.fdiv 105) (n:=(x.length:Int)) (by omega)
  obtain⟨j3,ej3,jl3⟩:=g0y m (n:=5) (by decide)
  have c5:CFd m 5:=⟨by decide,by decide +kernel⟩
  have c105:CFd m 105:=⟨by decide,by decide +kernel⟩
  have xn:¬ (x.length:Int)=0:=by omega
  refine⟨_,(a0i (a0z (i:=2) b1r.nd rfl (Or.inl rfl) (a8v (a0g a0m (a0g a0m (a0g a0m (a0g a0m (a0g a0m (a0g a0m (a0g a0m (a0g a0m (a0g a0m (a0g a0m (a0g a0m (a0g a0m (a0g a0m (a0g a0m (a0g a0m (a0g a0m (a0g a0m (a0g a0m (a0g a0m (a0g a0m (a0g a0m a0h)))))))))))))))))))))))
   (a0i (a0z (i:=3) b1r.nd rfl (Or.inl rfl) (a0r a3z (pvF 2) (a4u d6z (a4u c8l (pvF 1) a0j) a0j) (fun _ _=>rfl)))
   (a0i (a0z (i:=4) b1r.nd rfl (Or.inl rfl) (a4u d6z (a4u c8l (pvF 1) a0j) (a0y a3l (by rfl) T.c4w boot_len (a0g (pvF 0) a0h))))
   (a0i (a0z (i:=5) b1r.nd rfl (Or.inl rfl) (a8v (a0g (a4u a7l (a4u a7l (a2g d8h (pvF 0) a4g (a2h (pvF 4))) (pvF 3)) (a2g d8h (pvF 0) (a2h (pvF 4)) a4g)) (a0g (a4u a7l (a4u a7l (a2g d8h (pvF 0) a4g (a2h (pvF 4))) (pvF 3)) (a2g d8h (pvF 0) (a2h (a4u a7l (pvF 4) a0j)) a4g)) (a0g (a4u a7l (a2g d8h (pvF 0) a4g (a2h (pvF 4))) (a2g d8h (pvF 0) (a2h (a4u a7l (pvF 4) a0j)) a4g)) (a0g (a2g d8h (pvF 0) a4g (a2h (pvF 4))) a0h))))))
   (a0k (a0s (a0r a3z (a4u a7l (pvF 5) (a8v (a0g (a4u a7l (pvF 0) (pvF 3)) a0h))) (a4u d6z (pvF 1) a0j) (fun _ _=>rfl)))))))),?_⟩
  have q':=(id q:id _)
  clear q
  walk_at "rd*"
  refine fun l1 H1 n1 S1 h1=>?_
  obtain ⟨u, hu1, hu2⟩ := f7s (xs := ["0", "1", "9", "-", "/", ":", "=", ",", " ", "_", "+", ".", "e", "g", "h", "a", "s", "d", "\n", "2", "5"].map fun z => V.str (Str.ofString z)) (j := j1) (R := fun v => ∃ z : Str, v = .str z ∧ z.length = 1) (by show j1 < 21; omega) (fun v hv => by
   obtain⟨z,hz,rfl⟩:=List.mem_map.mp hv
   refine⟨_,rfl,?_⟩
   simp only [List.mem_cons,List.not_mem_nil,or_false] at hz
   rcases hz with rfl | rfl | rfl | rfl | rfl | rfl | rfl | rfl | rfl | rfl | rfl | rfl | rfl | rfl | rfl | rfl | rfl | rfl | rfl | rfl | rfl <;> decide +kernel)
  obtain⟨pu,rfl,pl⟩:=hu2
  replace hu1 : atI [V.str (Str.ofString "0"), V.str (Str.ofString "1"), V.str (Str.ofString "9"), V.str (Str.ofString "-"), V.str (Str.ofString "/"), V.str (Str.ofString ":"), V.str (Str.ofString "="), V.str (Str.ofString ","), V.str (Str.ofString " "), V.str (Str.ofString "_"), V.str (Str.ofString "+"), V.str (Str.ofString "."), V.str (Str.ofString "e"), V.str (Str.ofString "g"), V.str (Str.ofString "h"), V.str (Str.ofString "a"), V.str (Str.ofString "s"), V.str (Str.ofString "d"), V.str (Str.ofString "\n"), V.str (Str.ofString "2"), V.str (Str.ofString "5")] (j1 : Int) = some (.str pu) := hu1
  walk_at "rd*"
  have q:∀ (y:Str) H1,Same H H1->y.length<=400->Q (.str y) H1:=q'
  have s1:=Txt.slice_le x none (some (j2:Int))
  have s2:=Txt.slice_le x (some (j2:Int)) none
  have s3:=Txt.slice_le x (some ((j2:Int)+1)) none
  generalize Txt.slice x none (some (j2:Int))=y1 at s1 ⊢
  generalize Txt.slice x (some (j2:Int)) none=y2 at s2 ⊢
  generalize Txt.slice x (some ((j2:Int)+1)) none=y3 at s3 ⊢
  simp only [strLen_append,pl]
  refine⟨by omega,by omega,by omega,by omega,by omega,by omega,by omega,by omega,by omega,by omega,by omega,by omega,by omega,fun l2 H2 n2 S2 h2=>?_⟩
  clear h1
  walk_at "rd*"
  refine⟨by omega,fun l3 H3 n3 S3 h3=>?_⟩
  have h23:=S3 _ _ h2
  clear h2
  walk_at "rd*"
  refine fun l4 H4 n4 S4 h4=>?_
  clear h23 h3
  walk_at "rd*"
  refine f7s (R:=fun v=>Q v H4) (by show j3 < 5; omega) fun v hv=>?_
  simp only [List.mem_cons,List.not_mem_nil,or_false] at hv
  have S04:=S1.trans (S2.trans (S3.trans S4))
  rcases hv with rfl | rfl | rfl | rfl | rfl
  ·exact q _ H4 S04 (by rw [strLen_append,strLen_append]; omega)
  ·exact q _ H4 S04 (by rw [strLen_append,strLen_append]; omega)
  ·exact q _ H4 S04 (by rw [strLen_append]; omega)
  ·exact q _ H4 S04 (by omega)
  ·exact q _ H4 S04 (by rw [strLen_append]; omega)
theorem h5s (T : Tx K mg A) : a1g P A.wd K mg base CX0 10 A.a8i A.a8t ["_law_thing"] h8i := by
 have g7a:a1g P A.wd K mg base (CXE P A.wd) 9 _ _ _ _:=h4a T
 refine T.b0m.ok b8q (fun vs H Q E h=>?_) (fun cdv A' outer s H vs Q E hr h=>?_)
 ·obtain⟨_,rfl,_⟩:=h8y (by unfold h8i at h; exact h)
  rfl
 ·obtain⟨v,rfl,⟨hv,q⟩⟩:=h8y (by unfold h8i at h; exact h)
  have hu:=hr.units
  have a4l:a1y 9 _:=hr.mono (by decide)
  refine⟨_,(a0i (a0z (i:=1) b8q.nd rfl (Or.inl rfl) c5h)
   (d1o (h2x (i:=2) (fun E=>(h2w (g3n (E:=E) g7a a4l (by rfl) T.a7s T.a4k.kp T.a7r .nil (a0g (pvF 0) a0h)))) (fun e=>(a0k (a0z (i:=1) b8q.nd rfl (Or.inl rfl) (pvF 2)))) (by rfl) T.g2n T.g6n b8q.nd rfl rfl)
   (a0i (a4o (pw_or (a3m (a0y (b4g) (by rfl) T.a1t boot_isinstance (a0g (pvF 1) (a0g (a1o (v:=.ref A.a0p) (by rfl) T.c3i rfl) a0h)))) (pw_or (a3m (a0y (b4g) (by rfl) T.a1t boot_isinstance (a0g (pvF 1) (a0g (a1o (v:=.ref A.a1u) (by rfl) T.g2o rfl) a0h)))) (pw_or (a3m (a0y (b4g) (by rfl) T.a1t boot_isinstance (a0g (pvF 1) (a0g (a1o (v:=.ref A.a4h) (by rfl) T.g9o rfl) a0h)))) (pw_or1 (a3m (a0y (b4g) (by rfl) T.a1t boot_isinstance (a0g (pvF 1) (a0g (a1o (v:=.ref A.b1k) (by rfl) T.h7t rfl) a0h)))))))).pt
   (a0k (a0s d4r))
   a1h)
   (a0i (a4o (pw_or (a3m (a0y (b4g) (by rfl) T.a1t boot_isinstance (a0g (pvF 1) (a0g (a1o (v:=.ref A.a6i) (by rfl) T.h3l rfl) a0h)))) (pw_or (a3m (a0y (b4g) (by rfl) T.a1t boot_isinstance (a0g (pvF 1) (a0g (a1o (v:=.ref A.a6j) (by rfl) T.h3m rfl) a0h)))) (pw_or (a3m (a0y (b4g) (by rfl) T.a1t boot_isinstance (a0g (pvF 1) (a0g (a1o (v:=.ref A.a3j) (by rfl) T.g6m rfl) a0h)))) (pw_or1 (a3m (a0y (b4g) (by rfl) T.a1t boot_isinstance (a0g (pvF 1) (a0g (a1o (v:=.ref A.a6k) (by rfl) T.h3n rfl) a0h)))))))).pt
   (a0k (a0s d4r))
   a1h)
   (a0k (a0s (c4k (a0y (b4g) (by rfl) T.a1t boot_isinstance (a0g (pvF 1) (a0g (a1o (v := .ref A.a0o) (by rfl) T.a9s rfl) a0h))) (c4k (a0y (b4g) (by rfl) T.a1t boot_isinstance (a0g (pvF 1) (a0g (d1l (v := .ty "ValueError") (u := .type "ValueError") (by rfl) T.g0o rfl rfl) a0h))) (d6v (g1f (a0y (b4g) (by rfl) T.a1t boot_isinstance (a0g (pvF 1) (a0g (a1o (v := .ref A.a4i) (by rfl) T.g9p rfl) a0h))))))))))))), ?_⟩
  walk_at "rd"
  obtain⟨Mid,pin,pout⟩:=i4r (fun σ' H'=>∃ e:Addr,σ' = [some v,some (.ref e),none]/\Same H H'/\H' e=some (h4y e (.ref A.a0o)))
  refine⟨Mid,?_,?_⟩
  ·walk_at "rd"
   refine⟨hv,fun H1 S1=>⟨T.b7z,fun e H2 n2 S2 h2=>?_⟩⟩
   try walk_at "rd"
   exact pin _ _ ⟨e,rfl,S1.trans S2,h2⟩
  ·intro σ' H' hm
   obtain⟨e,rfl,S1,he⟩:=pout _ _ hm
   walk_at "rd"
   refine isx he T.b4y T.f1s ?_
   walk_at "rd"
   refine isx he T.b4y T.d6k ?_
   walk_at "rd"
   refine isx he T.b4y T.f1q ?_
   walk_at "rd"
   refine isx he T.b4y T.f6z ?_
   walk_at "rd"
   refine isx he T.b4y T.f2v ?_
   walk_at "rd"
   refine isx he T.b4y T.f2t ?_
   walk_at "rd"
   refine isx he T.b4y T.d7u ?_
   walk_at "rd"
   refine isx he T.b4y T.f2u ?_
   walk_at "rd"
   refine isx he T.b4y T.f1r ?_
   walk_at "rd"
   refine isxT he T.b4y T.d2g ?_
   walk_at "rd"
   refine isx he T.b4y T.f1p ?_
   walk_at "rd"
   exact q _ S1
theorem g7b{σ:L2.St}{H:Hp}{d:Dt}{k:Nat}{o:Addr}{Q:VK}{E:XK}(hk:d.kd=k)(z:IsP A H o d)(ok:d.ok)(q:∀ H1,Same H H1->Q (.str d.word) H1):h1x σ H fun vs H2=>d7v A k (.ref o :: (vs++[])) H2 Q E:=by
 show ∃ d:Dt,d.kd=k/\IsP A H o d/\d.ok/\(∀ H1,Same H H1->Q (.str d.word) H1)
 exact⟨d,hk,z,ok,q⟩
theorem i4i(T:Tx K mg A){σ:L2.St}{H:Hp}{d:Dt}{Q:VK}{E:XK}{r:TE}(ok:d.ok)(hr:∀ R:VK,(∀ o H1,Same H H1->IsP A H1 o d->R (.ref o) H1)->r σ H R)(q:∀ H1,Same H H1->Q (.str d.word) H1) :
  d5h (d9h A.c5n "word" (d7v A 0) [] E r h1x) (d5h (d9h A.b6t "word" (d7v A 1) [] E r h1x) (d5h (d9h A.b8w "word" (d7v A 2) [] E r h1x) (d5h (d9h A.c3n "word" (d7v A 3) [] E r h1x) (d5h (d9h A.c3o "word" (d7v A 4) [] E r h1x) (d9h A.b2l "word" (d7v A 5) [] E r h1x))))) σ H Q := by
 cases d with
 | gain y =>
  refine .inl (hr _ fun o H1 S1 z=>?_)
  obtain⟨dx,_,ho,g,rfl,hg⟩:=id z
  simp only [ho]
  exact⟨rfl,rfl,g7b rfl z ok fun H2 S2=>q H2 (S1.trans S2)⟩
 | delay n =>
  refine .inr (.inl (hr _ fun o H1 S1 z=>?_))
  obtain⟨dx,_,ho,rfl⟩:=id z
  simp only [ho]
  exact⟨rfl,rfl,g7b rfl z ok fun H2 S2=>q H2 (S1.trans S2)⟩
 | echo y n t =>
  refine .inr (.inr (.inl (hr _ fun o H1 S1 z=>?_)))
  obtain⟨dx,_,ho,g,fa,rfl,hg,hf⟩:=id z
  simp only [ho]
  exact⟨rfl,rfl,g7b rfl z ok fun H2 S2=>q H2 (S1.trans S2)⟩
 | back y n =>
  refine .inr (.inr (.inr (.inl (hr _ fun o H1 S1 z=>?_))))
  obtain⟨dx,_,ho,g,rfl,hg⟩:=id z
  simp only [ho]
  exact⟨rfl,rfl,g7b rfl z ok fun H2 S2=>q H2 (S1.trans S2)⟩
 | hall y n =>
  refine .inr (.inr (.inr (.inr (.inl (hr _ fun o H1 S1 z=>?_)))))
  obtain⟨dx,_,ho,g,rfl,hg⟩:=id z
  simp only [ho]
  exact⟨rfl,rfl,g7b rfl z ok fun H2 S2=>q H2 (S1.trans S2)⟩
 | swell cs =>
  refine .inr (.inr (.inr (.inr (.inr (hr _ fun o H1 S1 z=>?_)))))
  obtain⟨dx,_,ho,ct,ln,S,ss,us,ps,rfl,_⟩:=id z
  simp only [ho]
  exact⟨rfl,rfl,g7b rfl z ok fun H2 S2=>q H2 (S1.trans S2)⟩
theorem i4j (T : Tx K mg A) : a1g P A.wd K mg base CX0 11 A.b6r A.b6s ["_law_word"] h8j := by
 have f7t:a1g P A.wd K mg base CX0 4 _ _ _ _:=i7v T
 have c7w:a1g P A.wd K mg base CX0 10 _ _ _ _:=h5s T
 have a7t:a1g P A.wd K mg base CX0 8 _ _ _ _:=h0z T
 have d2p:a1g P A.wd K mg base CX0 2 _ _ _ _:=i3l T
 have c9w:a1g P A.wd K mg base CX0 1 _ _ _ _:=i3m T
 have d2q:a1g P A.wd K mg base CX0 2 _ _ _ _:=i3n T
 have d2r:a1g P A.wd K mg base CX0 2 _ _ _ _:=i3o T
 have d2s:a1g P A.wd K mg base CX0 2 _ _ _ _:=i3p T
 have c9y:a1g P A.wd K mg base CX0 3 _ _ _ _:=i3q T
 refine T.c0r.ok g1x (fun vs H Q E h=>?_) (fun cdv A' outer s H vs Q E hr h=>?_)
 ·obtain⟨_,rfl,_⟩:=d2t (by unfold h8j at h; exact h)
  rfl
 ·obtain⟨x,rfl,⟨xl,q⟩⟩:=d2t (by unfold h8j at h; exact h)
  have hu:=hr.units
  have f3g:a1y 4 _:=hr.mono (by decide)
  have c5g:a1y 10 _:=hr.mono (by decide)
  have a4l:a1y 8 _:=hr.mono (by decide)
  have c9z:a1y 2 _:=hr.mono (by decide)
  have c7y:a1y 1 _:=hr.mono (by decide)
  have d0g:a1y 2 _:=hr.mono (by decide)
  have d0h:a1y 2 _:=hr.mono (by decide)
  have d0i:a1y 2 _:=hr.mono (by decide)
  have c7z:a1y 3 _:=hr.mono (by decide)
  refine⟨_,(a0i (a4o (b3w (a3m (a0l f7t f3g (by rfl) T.f6v T.b4q.kp T.f6u .nil a0w (a0g (pvF 0) a0h))))
   (a0k (a0s (a0l c7w c5g (by rfl) T.d4j T.b0m.kp T.d4i .nil a0w (a0g (pvF 0) a0h))))
   a1h)
   (a0k (a0s (b3y (b1n hu) (a3t (a8m (a0l a7t a4l (by rfl) T.a7s T.a4k.kp T.a7r .nil a0w (a0g (pvF 0) a0h)) T.b9h T.c3p d2p c9z T.f0y .nil a0w) (a3t (a8m (a0l a7t a4l (by rfl) T.a7s T.a4k.kp T.a7r .nil a0w (a0g (pvF 0) a0h)) T.b1v T.c0h c9w c7y T.d7p .nil a0w) (a3t (a8m (a0l a7t a4l (by rfl) T.a7s T.a4k.kp T.a7r .nil a0w (a0g (pvF 0) a0h)) T.b9i T.c3q d2q d0g T.f1i .nil a0w) (a3t (a8m (a0l a7t a4l (by rfl) T.a7s T.a4k.kp T.a7r .nil a0w (a0g (pvF 0) a0h)) T.b9j T.c3r d2r d0h T.f1k .nil a0w) (a3t (a8m (a0l a7t a4l (by rfl) T.a7s T.a4k.kp T.a7r .nil a0w (a0g (pvF 0) a0h)) T.b9k T.c3s d2s d0i T.f1m .nil a0w) (a8m (a0l a7t a4l (by rfl) T.a7s T.a4k.kp T.a7r .nil a0w (a0g (pvF 0) a0h)) T.b1w T.c0i c9y c7z T.d7q .nil a0w)))))) (pvF 0) (a1i _))))),?_⟩
  walk_at "rd"
  refine⟨xl,fun r H1 S1 hr1=>?_⟩
  cases r with
  | false =>
   walk_at "rd"
   exact⟨⟨xl,fun z=>Bool.false_ne_true (hr1.mpr z)⟩,fun H2 S2=>q H2 (S1.trans S2)⟩
  | true =>
   obtain⟨d,ok,rfl⟩:=hr1.mp rfl
   walk_at "rd"
   refine i4i T ok (fun R h=>?_) fun H2 S2=>?_
   ·walk_at "rd"
    exact⟨d,ok,rfl,fun o H2 _ S2 z=>h o H2 S2 z⟩
   ·walk_at "rd"
    exact q H2 (S1.trans S2)
theorem i7x(k:Int){b:Int}(h:0 < b):0<=k.fmod b:=Int.fmod_nonneg_of_pos k h
theorem i7y{m b:Int}(h:0<=m)(hb:0<=b):0<=m.fdiv b:=Int.fdiv_nonneg h hb
theorem i4k (T : Tx K mg A) : a1g P A.wd K mg base CX0 12 A.g0d A.d7n ["_law_script"] (g1e 63 K) := by
 have g7c:a1g P A.wd K mg base CX0 1 _ _ _ _:=i7w T
 have g7d:a1g P A.wd K mg base CX0 1 _ _ _ _:=h8t T
 have f7u:a1g P A.wd K mg base CX0 1 _ _ _ _:=i4h T
 have c7w:a1g P A.wd K mg base CX0 10 _ _ _ _:=h5s T
 have f5g:a1g P A.wd K mg base CX0 11 _ _ _ _:=i4j T
 have a7t:a1g P A.wd K mg base CX0 8 _ _ _ _:=h0z T
 have d2p:a1g P A.wd K mg base CX0 2 _ _ _ _:=i3l T
 have c9w:a1g P A.wd K mg base CX0 1 _ _ _ _:=i3m T
 have d2q:a1g P A.wd K mg base CX0 2 _ _ _ _:=i3n T
 have d2r:a1g P A.wd K mg base CX0 2 _ _ _ _:=i3o T
 have d2s:a1g P A.wd K mg base CX0 2 _ _ _ _:=i3p T
 have c9y:a1g P A.wd K mg base CX0 3 _ _ _ _:=i3q T
 refine T.g9k.ok g0c (fun vs H Q E h=>?_) (fun cdv A' outer s H vs Q E hr h=>?_)
 ·obtain⟨a,ns,rfl,_⟩:=h
  rfl
 ·obtain⟨a,ns,rfl,hS,hl,hbit,hO,q⟩:=h
  have hu:=hr.units
  have g3g:a1y 1 _:=hr.mono (by decide)
  have g3h:a1y 1 _:=hr.mono (by decide)
  have f3h:a1y 1 _:=hr.mono (by decide)
  have c5g:a1y 10 _:=hr.mono (by decide)
  have f2m:a1y 11 _:=hr.mono (by decide)
  have a4l:a1y 8 _:=hr.mono (by decide)
  have c9z:a1y 2 _:=hr.mono (by decide)
  have c7y:a1y 1 _:=hr.mono (by decide)
  have d0g:a1y 2 _:=hr.mono (by decide)
  have d0h:a1y 2 _:=hr.mono (by decide)
  have d0i:a1y 2 _:=hr.mono (by decide)
  have c7z:a1y 3 _:=hr.mono (by decide)
  have hs:sizeLine=16777216:=sizeLine_eq
  refine⟨_,(a0i (b8z PassesOwn.never rfl (b8k (a2g i5y (pvF 0) a4g (a2h a0j))) (a4y (i:=1) g0c.nd rfl (Or.inl rfl))
   (d1o (a0z (i:=2) g0c.nd rfl (Or.inl rfl) (a4u d6z (a4u b9g (pvF 1) a0j) (a4u a7l (a4u h4p a0j a0j) a0j)))
   (a0i (a0z (i:=3) g0c.nd rfl (Or.inl rfl) (a0l g7c g3g (by rfl) T.g6j T.c5t.kp T.g6i .nil a0w (a0g (pvF 2) a0h)))
   (a0i (a4o (pw_or (b3w (a3m (a0l f5g f2m (by rfl) T.f4t T.c0r.kp T.f4s .nil a0w (a0g (a0l f7u f3h (by rfl) T.f6y T.b4r.kp T.f6w .nil a0w (a0g (pvF 3) (a0g (a4u c8l (pvF 2) a0j) a0h))) a0h)))) (pw_or1 (b3w (a3m (a0l f5g f2m (by rfl) T.f4t T.c0r.kp T.f4s .nil a0w (a0g (a0l g7d g3h (by rfl) T.g6l T.c5u.kp T.g6k .nil a0w (a0g (a4u c8l (pvF 2) (a4u h4p a0j a0j)) a0h)) a0h)))))).pt
   (a0k (a0s d4r))
   a1h)
   (a0k (a4o (a0t (c1y hu) (a3t (a8m (a0l a7t a4l (by rfl) T.a7s T.a4k.kp T.a7r .nil a0w (a0g (pvF 3) a0h)) T.b9h T.c3p d2p c9z T.f0y .nil a0w) (a3t (a8m (a0l a7t a4l (by rfl) T.a7s T.a4k.kp T.a7r .nil a0w (a0g (pvF 3) a0h)) T.b1v T.c0h c9w c7y T.d7p .nil a0w) (a3t (a8m (a0l a7t a4l (by rfl) T.a7s T.a4k.kp T.a7r .nil a0w (a0g (pvF 3) a0h)) T.b9i T.c3q d2q d0g T.f1i .nil a0w) (a3t (a8m (a0l a7t a4l (by rfl) T.a7s T.a4k.kp T.a7r .nil a0w (a0g (pvF 3) a0h)) T.b9j T.c3r d2r d0h T.f1k .nil a0w) (a3t (a8m (a0l a7t a4l (by rfl) T.a7s T.a4k.kp T.a7r .nil a0w (a0g (pvF 3) a0h)) T.b9k T.c3s d2s d0i T.f1m .nil a0w) (a8m (a0l a7t a4l (by rfl) T.a7s T.a4k.kp T.a7r .nil a0w (a0g (pvF 3) a0h)) T.b1w T.c0i c9y c7z T.d7q .nil a0w)))))) (pvF 3) (a1i _))
   (a0k (a0s d4r))
   a1h))))))
   (a0i (b8z PassesOwn.never rfl (b8k (a8v (a0g c5h (a0g a0j (a0g d4r (a0g (a8v (a0g a0m a0h)) (a0g (c1z (a0g a0m a0h)) (a0g h2y a0h)))))))) (a4y (i:=4) g0c.nd rfl (Or.inl rfl))
   (a0k (a4o (b3w (a3m (a0l c7w c5g (by rfl) T.d4j T.b0m.kp T.d4i .nil a0w (a0g (pvF 4) a0h))))
   (a0k (a0s d4r))
   a1h)))
   (a0k (a0s d4r)))),?_⟩
  walk_at "rd"
  refine⟨_,hS,fun p1 H1 n1 S1 h1=>?_⟩
  rw [g8l] at h1
  have hm1:∀ x∈f5q ns none (some 20),intBits x<=1048576:=fun x hx=>hbit x (h2q hx)
  generalize f5q ns none (some 20)=ms at h1 hm1
  walk_at "rd"
  refine⟨⟨_,SqL.of h1⟩,?_⟩
  obtain⟨Pv,pin,pout⟩:=f8w (fun i σ H'=>∃ v1 v2 v3 v4:Option V,σ = [some (.ref a),v1,v2,v3,v4]/\Same H1 H')
  refine c5j (xs:=ms.map V.int) Pv (pin _ _ _ ⟨_,_,_,_,rfl,.refl _⟩) ?_ ?_ ?_
  ·intro i σ H2 hi hp
   obtain⟨v1,v2,v3,v4,rfl,S2⟩:=pout _ _ _ hp
   exact SqL.of (S2 _ _ h1)
  ·intro i v σ H2 hv hp
   obtain⟨v1,v2,v3,v4,rfl,S2⟩:=pout _ _ _ hp
   rw [List.getElem?_map] at hv
   obtain⟨c,hc,rfl⟩:=Option.map_eq_some_iff.mp hv
   have bc:=hm1 c (List.mem_of_getElem? hc)
   have fM:=i7x (c*618033988749894848204587) (b:=1000000000000000000000007) (by decide)
   obtain⟨Mid,min',mout⟩:=i4r (fun σ' H'=>∃ M:Int,σ' = [some (.ref a),some (.int c),some (.int M),v3,v4]/\H'=H2/\0<=M)
   walk_at "rd"
   refine⟨Mid,?_,?_⟩
   ·walk_at "rd"
    exact ⟨by walk_at "mul", by decide, min' _ _ ⟨_, rfl, rfl, fM⟩⟩
   clear fM
   intro σ' H' hm
   obtain⟨M,rfl,rfl,M0⟩:=mout _ _ hm
   walk_at "rd"
   refine fun d H3 S3 ok l1 l2=>?_
   refine⟨⟨by decide,by decide +kernel⟩,l1,l2,i7y M0 (by decide),fun y H4 S4 yl=>?_⟩
   refine⟨by omega,fun H5 S5=>⟨by decide,⟨by decide,by decide +kernel⟩,fun x H6 S6 xl=>⟨by omega,fun H7 S7=>?_⟩⟩⟩
   refine i4i T ok (fun R h=>?_) fun H8 S8=>?_
   ·walk_at "rd"
    exact⟨d,ok,rfl,fun o H9 _ S9 z=>h o H9 S9 z⟩
   ·walk_at "rd"
    exact pin _ _ _ ⟨_,_,_,_,rfl,S2.trans (S3.trans (S4.trans (S5.trans (S6.trans (S7.trans S8)))))⟩
  ·intro σ H2 hp
   obtain⟨v1,v2,v3,v4,rfl,S2⟩:=pout _ _ _ hp
   walk_at "rd"
   refine⟨by decide,fun o1 H3 n3 S3 h3=>?_⟩
   walk_at "rd"
   refine⟨by decide,fun o2 H4 n4 S4 h4=>?_⟩
   walk_at "rd"
   refine fun o3 H5 n5 S5 h5=>?_
   walk_at "rd"
   refine⟨by decide,fun o4 H6 n6 S6 h6=>?_⟩
   walk_at "rd"
   refine⟨⟨_,SqL.of h6⟩,?_⟩
   have h36:=S6 _ _ (S5 _ _ (S4 _ _ h3))
   have h46:=S6 _ _ (S5 _ _ h4)
   have h56:=S6 _ _ h5
   obtain⟨Pw,win,wout⟩:=f8w (fun i σ H'=>∃ v1 v2 v3 v4:Option V,σ = [some (.ref a),v1,v2,v3,v4]/\Same H6 H')
   refine c5j (xs:=[.non,.int 5,.bl true,.ref o1,.ref o2,.ref o3]) Pw (win _ _ _ ⟨_,_,_,_,rfl,.refl _⟩) ?_ ?_ ?_
   ·intro i σ H7 hi hp
    obtain⟨v1,v2,v3,v4,rfl,S7⟩:=wout _ _ _ hp
    exact SqL.of (S7 _ _ h6)
   ·intro i v σ H7 hv hp
    obtain⟨v1,v2,v3,v4,rfl,S7⟩:=wout _ _ _ hp
    have ht:∃ ty,g1c H7 v=some ty/\ty≠.str:=by
     have hm:=List.mem_of_getElem? hv
     simp only [List.mem_cons,List.not_mem_nil,or_false] at hm
     rcases hm with rfl | rfl | rfl | rfl | rfl | rfl
     ·exact⟨_,rfl,by decide⟩
     ·exact⟨_,rfl,by decide⟩
     ·exact⟨_,rfl,by decide⟩
     ·exact⟨_,by rw [g1c,S7 _ _ h36],by decide⟩
     ·exact⟨_,by rw [g1c,S7 _ _ h46],by decide⟩
     ·exact⟨_,by rw [g1c,S7 _ _ h56],by decide⟩
    walk_at "rd"
    refine⟨.inr ht,fun H8 S8=>?_⟩
    try walk_at "rd"
    exact win _ _ _ ⟨_,_,_,_,rfl,S7.trans S8⟩
   ·intro σ H7 hp
    obtain⟨v1,v2,v3,v4,rfl,S7⟩:=wout _ _ _ hp
    walk_at "rd"
    exact q _
theorem len1{α:Type _}{us:List α}(h:us.length=1):∃ a,us = [a]:=match us,h with | [a],_=>⟨a,rfl⟩
local macro_rules | `(tactic| walk_at "b1") => `(tactic| (intro _ _ _ _ _ _ us hl; obtain ⟨_, e⟩ := len1 hl; subst e; rfl))
theorem len2{α:Type _}{us:List α}(h:us.length=2):∃ a b,us = [a,b]:=match us,h with | [a,b],_=>⟨a,b,rfl⟩
local macro_rules | `(tactic| walk_at "b2") => `(tactic| (intro _ _ _ _ _ _ us hl; obtain ⟨_, _, e⟩ := len2 hl; subst e; rfl))
theorem len3{α:Type _}{us:List α}(h:us.length=3):∃ a b c,us = [a,b,c]:=match us,h with | [a,b,c],_=>⟨a,b,c,rfl⟩
local macro_rules | `(tactic| walk_at "b3") => `(tactic| (intro _ _ _ _ _ _ us hl; obtain ⟨_, _, _, e⟩ := len3 hl; subst e; rfl))
theorem len4{α:Type _}{us:List α}(h:us.length=4):∃ a b c d,us = [a,b,c,d]:=match us,h with | [a,b,c,d],_=>⟨a,b,c,d,rfl⟩
local macro_rules | `(tactic| walk_at "b4") => `(tactic| (intro _ _ _ _ _ _ us hl; obtain ⟨_, _, _, _, e⟩ := len4 hl; subst e; rfl))
theorem all_mk {l : W.OpenLaw} {K : W.Frag} {h : Heap} {mg : Str → Option Value} {fa : Addr} {b5k a9k b2n b8u b5n b5p f0h d1s c2j b5r a4r a4s b5t b5u b2q b2r b2g b5v b5w b5y b5z b6g b6h a5s b2h f0i a7w b3h b3i a9l a6s a9n a6t b4k b0i b4l b4m b4n a6u b0j b8v a7y a9p c6o a7z a7i a8g b6n b6p a8h a8i b6r g0d a1q a1u a0p a0o a4h a6i a6j b1k a3j a6k a4i f4i c5n b6t b8w c3n c3o b2l a1k : Addr} {b5l a9w b1z b5m b5o b5q d5j d0r c0o b5s a4z a5g b2o b2p a9y a9z b2s b2t b2u b2v b2w b2y b2z a6n b3g d5k a8o b0g b0h a9m a6z a9o a7g b6i b2j b6j b6k b6l a7h b2k b6m a8p b0k c5m a8q a7m a8r b6o b6q a8s a8t b6s d7n : FuncData} {c5o a3u a3v b6u b6v b3j c5p a8u : Value} {wd : World} {es_READERS : Array DictEntry} {n_READERS : Nat} (X : K.In h) (G : h.Ns mainGlobals mg) (hfa : mg "law" = some (.ref fa)) (Y : Ty K ⟨b5k, b5l, a9k, a9w, b2n, b1z, b8u, b5m, b5n, b5o, b5p, b5q, f0h, d5j, d1s, d0r, c2j, c0o, b5r, b5s, a4r, a4z, a4s, a5g, b5t, b2o, b5u, b2p, b2q, a9y, b2r, a9z, b2g, b2s, b5v, b2t, b5w, b2u, b5y, b2v, b5z, b2w, b6g, b2y, b6h, b2z, a5s, a6n, b2h, b3g, f0i, d5k, a7w, a8o, b3h, b0g, b3i, b0h, a9l, a9m, a6s, a6z, a9n, a9o, a6t, a7g, b4k, b6i, b0i, b2j, b4l, b6j, b4m, b6k, b4n, b6l, a6u, a7h, b0j, b2k, b8v, b6m, a7y, a8p, a9p, b0k, c6o, c5m, a7z, a8q, a7i, a7m, a8g, a8r, b6n, b6o, b6p, b6q, a8h, a8s, a8i, a8t, b6r, b6s, g0d, d7n, a1q, a1u, a0p, a0o, a4h, a6i, a6j, b1k, a3j, a6k, a4i, f4i, c5n, b6t, b8w, c3n, c3o, b2l, c5o, a3u, a3v, b6u, b6v, b3j, c5p, a8u, a1k, wd⟩) (ld_READERS : K.lookup a1k = some ⟨.type "dict", none, .dict es_READERS n_READERS, #[]⟩) (kd_READERS : W.KeysLit wd.params es_READERS.toList) (ne_READERS : (a1k == sysModules) = false) : ∃ fd : FuncData, (∀ (s : Shared) (v : Value), BindsTo s fd ⟨[v], []⟩ [("_law_script", v)]) ∧ ∀ base : Heap, K.In base → base.Ns mainGlobals mg → a1g l.prog wd K mg base CX0 12 fa fd ["_law_script"] (g1e 63 K) := by
 have ea:fa=g0d:=by injection (hfa.symm.trans (W.mg_of X G Y.h3j)) with e; injection e
 rw [ea]
 have T : Tx K mg ⟨b5k, b5l, a9k, a9w, b2n, b1z, b8u, b5m, b5n, b5o, b5p, b5q, f0h, d5j, d1s, d0r, c2j, c0o, b5r, b5s, a4r, a4z, a4s, a5g, b5t, b2o, b5u, b2p, b2q, a9y, b2r, a9z, b2g, b2s, b5v, b2t, b5w, b2u, b5y, b2v, b5z, b2w, b6g, b2y, b6h, b2z, a5s, a6n, b2h, b3g, f0i, d5k, a7w, a8o, b3h, b0g, b3i, b0h, a9l, a9m, a6s, a6z, a9n, a9o, a6t, a7g, b4k, b6i, b0i, b2j, b4l, b6j, b4m, b6k, b4n, b6l, a6u, a7h, b0j, b2k, b8v, b6m, a7y, a8p, a9p, b0k, c6o, c5m, a7z, a8q, a7i, a7m, a8g, a8r, b6n, b6o, b6p, b6q, a8h, a8s, a8i, a8t, b6r, b6s, g0d, d7n, a1q, a1u, a0p, a0o, a4h, a6i, a6j, b1k, a3j, a6k, a4i, f4i, c5n, b6t, b8w, c3n, c3o, b2l, c5o, a3u, a3v, b6u, b6v, b3j, c5p, a8u, a1k, wd⟩ := ⟨Y, Y.c0p.binds (by walk_at "b1"), W.mg_of X G Y.d5m, Y.a7u.binds (by walk_at "b1"), W.mg_of X G Y.c8y, Y.b6w.binds (by walk_at "b1"), W.mg_of X G Y.d5n, Y.c5q.binds (by walk_at "b2"), W.mg_of X G Y.f0n, Y.c5r.binds (by walk_at "b2"), W.mg_of X G Y.d5o, Y.b3k.binds (by walk_at "b2"), W.mg_of X G Y.d5p, Y.g0e.binds (by walk_at "b2"), W.mg_of X G Y.g9h, Y.d5w.binds (by walk_at "b2"), W.mg_of X G Y.g2e, Y.c5s.binds (by walk_at "b1"), W.mg_of X G Y.f0o, Y.c0q.binds (by walk_at "b2"), W.mg_of X G Y.d5q, Y.a1z.binds (by walk_at "b1"), W.mg_of X G Y.c2k, Y.a5t.binds (by walk_at "b1"), W.mg_of X G Y.c2l, Y.c6z.binds (by walk_at "b2"), Y.c7g.binds (by walk_at "b1"), Y.c3t.binds (by walk_at "b2"), Y.c3u.binds (by walk_at "b1"), Y.b6y.binds (by walk_at "b2"), W.mg_of X G Y.d1v, Y.c7h.binds (by walk_at "b4"), Y.c7i.binds (by walk_at "b1"), Y.c7j.binds (by walk_at "b3"), Y.c7k.binds (by walk_at "b1"), Y.c7l.binds (by walk_at "b3"), Y.c7m.binds (by walk_at "b1"), Y.a9q.binds (by walk_at "b1"), W.mg_of X G Y.c2m, Y.c2n.binds (by walk_at "b1"), W.mg_of X G Y.d1w, Y.f4j.binds (by walk_at "b2"), W.mg_of X G Y.g9i, Y.b4o.binds (by walk_at "b1"), W.mg_of X G Y.c6p, Y.c3v.binds (by walk_at "b2"), Y.c3w.binds (by walk_at "b1"), Y.a3s.binds (by walk_at "b1"), W.mg_of X G Y.d1y, Y.a3i.binds (by walk_at "b3"), W.mg_of X G Y.c6q, Y.a5u.binds (by walk_at "b1"), W.mg_of X G Y.d1z, Y.a1m.binds (by walk_at "b2"), W.mg_of X G Y.c6r, Y.c2o.binds (by walk_at "b1"), W.mg_of X G Y.f0p, Y.b6z.binds (by walk_at "b1"), W.mg_of X G Y.d5r, Y.c2p.binds (by walk_at "b1"), W.mg_of X G Y.f0q, Y.c2q.binds (by walk_at "b1"), W.mg_of X G Y.f0r, Y.c2r.binds (by walk_at "b1"), W.mg_of X G Y.f0s, Y.a8j.binds (by walk_at "b1"), W.mg_of X G Y.c6s, Y.b7g.binds (by walk_at "b1"), W.mg_of X G Y.d5s, Y.a4k.binds (by walk_at "b1"), W.mg_of X G Y.f0t, Y.b4p.binds (by walk_at "b2"), W.mg_of X G Y.c6t, Y.a9r.binds (by walk_at "b1"), W.mg_of X G Y.c8z, Y.c0j.binds (by walk_at "b3"), W.mg_of X G Y.f6n, Y.b0l.binds (by walk_at "b2"), W.mg_of X G Y.c6u, Y.b1s.binds (by walk_at "b1"), W.mg_of X G Y.c4p, Y.b4q.binds (by walk_at "b1"), W.mg_of X G Y.c6v, Y.c5t.binds (by walk_at "b1"), W.mg_of X G Y.d5t, Y.c5u.binds (by walk_at "b1"), W.mg_of X G Y.d5u, Y.b4r.binds (by walk_at "b2"), W.mg_of X G Y.c6w, Y.b0m.binds (by walk_at "b1"), W.mg_of X G Y.c6y, Y.c0r.binds (by walk_at "b1"), W.mg_of X G Y.d5v, Y.g9k.binds (by walk_at "b1"), W.mg_of X G Y.h3j, W.mg_none_of X G Y.c9g, W.mg_none_of X G Y.h7o, W.mg_none_of X G Y.y_bool, W.mg_none_of X G Y.h7p, W.mg_none_of X G Y.c9h, W.mg_none_of X G Y.h7q, W.mg_none_of X G Y.g2g, W.mg_none_of X G Y.h7r, W.mg_none_of X G Y.g2h, W.mg_none_of X G Y.h7s, W.mg_of X G Y.d1t, W.mg_of X G Y.d1u, W.mg_of X G Y.f0j, W.mg_of X G Y.f0k, W.mg_of X G Y.f0l, W.mg_of X G Y.f6i, W.mg_of X G Y.f6j, W.mg_of X G Y.g1y, W.mg_of X G Y.d5l, W.mg_of X G Y.f6k, W.mg_of X G Y.f0m, W.mg_of X G Y.g1z, W.mg_of X G Y.g2a, W.mg_of X G Y.f6l, W.mg_of X G Y.g2b, W.mg_of X G Y.g2c, W.mg_of X G Y.g2d, W.mg_of X G Y.f6m, ⟨Y.f0u⟩, ⟨Y.f0v⟩, ⟨Y.b0n, Y.b0o, Y.b0p, Y.b0q, Y.b0r, Y.b0s, Y.b0t, Y.b0u⟩, ⟨Y.b3l, Y.b3m, Y.b3n, Y.b3o, Y.b3p, Y.b3q, Y.b3r, Y.b3s⟩, ⟨Y.c0s, Y.c0t, Y.c0u, Y.c0v, Y.c0w, Y.c0y, Y.c0z, Y.c1g⟩, ⟨Y.b7h, Y.b7i, Y.b7j, Y.b7k, Y.b7l, Y.b7m, Y.b7n, Y.b7o⟩, ⟨Y.b7p, Y.b7q, Y.b7r, Y.b7s, Y.b7t, Y.b7u, Y.b7v, Y.b7w⟩, ⟨Y.b0v, Y.b0w, Y.b0y, Y.b0z, Y.b1g, Y.b1h, Y.b1i, Y.b1j⟩, ⟨Y.a2i, Y.a2j, Y.a2k, Y.a2l, Y.a2m, Y.a2n, Y.a2o, Y.a2p⟩, ⟨Y.c1h, Y.c1i, Y.c1j, Y.c1k, Y.c1l, Y.c1m, Y.c1n, Y.c1o⟩, ⟨Y.a2q, Y.a2r, Y.a2s, Y.a2t, Y.a2u, Y.a2v, Y.a2w, Y.a2y⟩, ⟨Y.c5v, Y.c5w, Y.c5y, Y.c5z, Y.c6g, Y.c6h, Y.c6i, Y.c6j⟩, ⟨Y.c1p, Y.c1q, Y.c1r, Y.c1s, Y.c1t, Y.c1u, Y.c1v, Y.c1w⟩, a6h Y.b4s ⟨Y.a2q, Y.a2r, Y.a2s, Y.a2t, Y.a2u, Y.a2v, Y.a2w, Y.a2y⟩ ⟨Y.b0n, Y.b0o, Y.b0p, Y.b0q, Y.b0r, Y.b0s, Y.b0t, Y.b0u⟩, a6h Y.b7y ⟨Y.a2q, Y.a2r, Y.a2s, Y.a2t, Y.a2u, Y.a2v, Y.a2w, Y.a2y⟩ ⟨Y.b3l, Y.b3m, Y.b3n, Y.b3o, Y.b3p, Y.b3q, Y.b3r, Y.b3s⟩, a6h Y.c2s ⟨Y.a2q, Y.a2r, Y.a2s, Y.a2t, Y.a2u, Y.a2v, Y.a2w, Y.a2y⟩ ⟨Y.c0s, Y.c0t, Y.c0u, Y.c0v, Y.c0w, Y.c0y, Y.c0z, Y.c1g⟩, a6h Y.b9l ⟨Y.a2q, Y.a2r, Y.a2s, Y.a2t, Y.a2u, Y.a2v, Y.a2w, Y.a2y⟩ ⟨Y.b7h, Y.b7i, Y.b7j, Y.b7k, Y.b7l, Y.b7m, Y.b7n, Y.b7o⟩, a6h Y.b9m ⟨Y.a2q, Y.a2r, Y.a2s, Y.a2t, Y.a2u, Y.a2v, Y.a2w, Y.a2y⟩ ⟨Y.b7p, Y.b7q, Y.b7r, Y.b7s, Y.b7t, Y.b7u, Y.b7v, Y.b7w⟩, a6h Y.b4t ⟨Y.a2q, Y.a2r, Y.a2s, Y.a2t, Y.a2u, Y.a2v, Y.a2w, Y.a2y⟩ ⟨Y.b0v, Y.b0w, Y.b0y, Y.b0z, Y.b1g, Y.b1h, Y.b1i, Y.b1j⟩, a6h Y.b9n ⟨Y.a2q, Y.a2r, Y.a2s, Y.a2t, Y.a2u, Y.a2v, Y.a2w, Y.a2y⟩ ⟨Y.a2i, Y.a2j, Y.a2k, Y.a2l, Y.a2m, Y.a2n, Y.a2o, Y.a2p⟩, a6h Y.c2t ⟨Y.a2q, Y.a2r, Y.a2s, Y.a2t, Y.a2u, Y.a2v, Y.a2w, Y.a2y⟩ ⟨Y.c1h, Y.c1i, Y.c1j, Y.c1k, Y.c1l, Y.c1m, Y.c1n, Y.c1o⟩, a6h Y.b9o ⟨Y.a2q, Y.a2r, Y.a2s, Y.a2t, Y.a2u, Y.a2v, Y.a2w, Y.a2y⟩ ⟨Y.a2q, Y.a2r, Y.a2s, Y.a2t, Y.a2u, Y.a2v, Y.a2w, Y.a2y⟩, a6h Y.c4q ⟨Y.a2q, Y.a2r, Y.a2s, Y.a2t, Y.a2u, Y.a2v, Y.a2w, Y.a2y⟩ ⟨Y.c5v, Y.c5w, Y.c5y, Y.c5z, Y.c6g, Y.c6h, Y.c6i, Y.c6j⟩, a6h Y.c2v ⟨Y.a2q, Y.a2r, Y.a2s, Y.a2t, Y.a2u, Y.a2v, Y.a2w, Y.a2y⟩ ⟨Y.c1p, Y.c1q, Y.c1r, Y.c1s, Y.c1t, Y.c1u, Y.c1v, Y.c1w⟩, g3m Y.b1l f9g, a6h Y.b4u ⟨Y.a2i, Y.a2j, Y.a2k, Y.a2l, Y.a2m, Y.a2n, Y.a2o, Y.a2p⟩ ⟨Y.b0n, Y.b0o, Y.b0p, Y.b0q, Y.b0r, Y.b0s, Y.b0t, Y.b0u⟩, a6h Y.b8g ⟨Y.a2i, Y.a2j, Y.a2k, Y.a2l, Y.a2m, Y.a2n, Y.a2o, Y.a2p⟩ ⟨Y.b3l, Y.b3m, Y.b3n, Y.b3o, Y.b3p, Y.b3q, Y.b3r, Y.b3s⟩, a6h Y.c2w ⟨Y.a2i, Y.a2j, Y.a2k, Y.a2l, Y.a2m, Y.a2n, Y.a2o, Y.a2p⟩ ⟨Y.c0s, Y.c0t, Y.c0u, Y.c0v, Y.c0w, Y.c0y, Y.c0z, Y.c1g⟩, a6h Y.b9p ⟨Y.a2i, Y.a2j, Y.a2k, Y.a2l, Y.a2m, Y.a2n, Y.a2o, Y.a2p⟩ ⟨Y.b7h, Y.b7i, Y.b7j, Y.b7k, Y.b7l, Y.b7m, Y.b7n, Y.b7o⟩, a6h Y.b9q ⟨Y.a2i, Y.a2j, Y.a2k, Y.a2l, Y.a2m, Y.a2n, Y.a2o, Y.a2p⟩ ⟨Y.b7p, Y.b7q, Y.b7r, Y.b7s, Y.b7t, Y.b7u, Y.b7v, Y.b7w⟩, a6h Y.b4v ⟨Y.a2i, Y.a2j, Y.a2k, Y.a2l, Y.a2m, Y.a2n, Y.a2o, Y.a2p⟩ ⟨Y.b0v, Y.b0w, Y.b0y, Y.b0z, Y.b1g, Y.b1h, Y.b1i, Y.b1j⟩, a6h Y.b9r ⟨Y.a2i, Y.a2j, Y.a2k, Y.a2l, Y.a2m, Y.a2n, Y.a2o, Y.a2p⟩ ⟨Y.a2i, Y.a2j, Y.a2k, Y.a2l, Y.a2m, Y.a2n, Y.a2o, Y.a2p⟩, a6h Y.c2y ⟨Y.a2i, Y.a2j, Y.a2k, Y.a2l, Y.a2m, Y.a2n, Y.a2o, Y.a2p⟩ ⟨Y.c1h, Y.c1i, Y.c1j, Y.c1k, Y.c1l, Y.c1m, Y.c1n, Y.c1o⟩, a6h Y.b9s ⟨Y.a2i, Y.a2j, Y.a2k, Y.a2l, Y.a2m, Y.a2n, Y.a2o, Y.a2p⟩ ⟨Y.a2q, Y.a2r, Y.a2s, Y.a2t, Y.a2u, Y.a2v, Y.a2w, Y.a2y⟩, a6h Y.c4r ⟨Y.a2i, Y.a2j, Y.a2k, Y.a2l, Y.a2m, Y.a2n, Y.a2o, Y.a2p⟩ ⟨Y.c5v, Y.c5w, Y.c5y, Y.c5z, Y.c6g, Y.c6h, Y.c6i, Y.c6j⟩, a6h Y.c2z ⟨Y.a2i, Y.a2j, Y.a2k, Y.a2l, Y.a2m, Y.a2n, Y.a2o, Y.a2p⟩ ⟨Y.c1p, Y.c1q, Y.c1r, Y.c1s, Y.c1t, Y.c1u, Y.c1v, Y.c1w⟩, g3m Y.b1m f9g, b3z Y.b9t ⟨Y.b0n, Y.b0o, Y.b0p, Y.b0q, Y.b0r, Y.b0s, Y.b0t, Y.b0u⟩, b3z Y.c3g ⟨Y.b3l, Y.b3m, Y.b3n, Y.b3o, Y.b3p, Y.b3q, Y.b3r, Y.b3s⟩, b3z Y.c7n ⟨Y.c0s, Y.c0t, Y.c0u, Y.c0v, Y.c0w, Y.c0y, Y.c0z, Y.c1g⟩, b3z Y.c4s ⟨Y.b7h, Y.b7i, Y.b7j, Y.b7k, Y.b7l, Y.b7m, Y.b7n, Y.b7o⟩, b3z Y.c4t ⟨Y.b7p, Y.b7q, Y.b7r, Y.b7s, Y.b7t, Y.b7u, Y.b7v, Y.b7w⟩, b3z Y.b9u ⟨Y.b0v, Y.b0w, Y.b0y, Y.b0z, Y.b1g, Y.b1h, Y.b1i, Y.b1j⟩, b3z Y.c4u ⟨Y.a2i, Y.a2j, Y.a2k, Y.a2l, Y.a2m, Y.a2n, Y.a2o, Y.a2p⟩, b3z Y.c7o ⟨Y.c1h, Y.c1i, Y.c1j, Y.c1k, Y.c1l, Y.c1m, Y.c1n, Y.c1o⟩, b3z Y.c4v ⟨Y.a2q, Y.a2r, Y.a2s, Y.a2t, Y.a2u, Y.a2v, Y.a2w, Y.a2y⟩, b3z Y.c9j ⟨Y.c5v, Y.c5w, Y.c5y, Y.c5z, Y.c6g, Y.c6h, Y.c6i, Y.c6j⟩, b3z Y.c7p ⟨Y.c1p, Y.c1q, Y.c1r, Y.c1s, Y.c1t, Y.c1u, Y.c1v, Y.c1w⟩, (by kernel_rfl), W.mg_of X G Y.d5y, W.mg_of X G Y.a8w, W.mg_of X G Y.a8y, W.mg_of X G Y.c9k, W.mg_of X G Y.c9l, W.mg_of X G Y.c7q, W.mg_of X G Y.d6g, W.mg_of X G Y.c3h, W.mg_of X G Y.d6h, ⟨⟨_, _, ld_READERS, kd_READERS⟩, ne_READERS⟩⟩
 obtain⟨_,_,_,_,_,_,_,_,_,e,_,_⟩:=Y.g9k.ex
 exact⟨d7n,fun s v=>by have e':d7n=_:=e; rw [e']; exact .of_eq rfl,fun base _ _=>i4k T⟩
end My
namespace PySem.W.Fast
theorem tw7687502131273020211:1=1:=rfl
theorem tw9058903451487427196:1=1:=rfl
theorem tw16624479128462482882:1=1:=rfl
theorem tw2039509903397915682:1=1:=rfl
theorem tw12664343916550648042:1=1:=rfl
theorem tw10904839608188710022:1=1:=rfl
theorem tw2931224704541785003:1=1:=rfl
theorem tw8272477262200865179:1=1:=rfl
theorem tw11773388814297149837:1=1:=rfl
theorem tw10998676924272122471:1=1:=rfl
theorem tw15877098161213089817:1=1:=rfl
theorem tw326992239973450438:1=1:=rfl
theorem tw1289954158233903851:1=1:=rfl
theorem tw6917752709518191286:1=1:=rfl
theorem tw10329774449350557957:1=1:=rfl
theorem tw12419966646381156908:1=1:=rfl
theorem tw7369683607611140982:1=1:=rfl
theorem tw15450472454826788999:1=1:=rfl
theorem tw5374569786111749004:1=1:=rfl
theorem tw5357327892825314902:1=1:=rfl
theorem tw4438998395622393494:1=1:=rfl
theorem tw12638267609638026684:1=1:=rfl
theorem tw15493307626913539327:1=1:=rfl
theorem tw12445193258212384087:1=1:=rfl
theorem tw14957528312333219711:1=1:=rfl
theorem tw9644866085878595815:1=1:=rfl
theorem tw4585929636792044635:1=1:=rfl
theorem tw2418172583524844635:1=1:=rfl
theorem tw11866157083551845015:1=1:=rfl
theorem tw10098219257506739419:1=1:=rfl
theorem tw4594636533831978402:1=1:=rfl
theorem tw7236773339989962153:1=1:=rfl
theorem tw9950842833916490693:1=1:=rfl
theorem tw1102568995129392237:1=1:=rfl
theorem tw10936722434243809946:1=1:=rfl
theorem tw2680968941489593199:1=1:=rfl
theorem tw9065243498628816801:1=1:=rfl
theorem tw3645979042990388402:1=1:=rfl
theorem tw11803382110786959657:1=1:=rfl
theorem tw7965403212917376178:1=1:=rfl
theorem tw6865100776005699348:1=1:=rfl
theorem tw12483590541347071991:1=1:=rfl
theorem tw15040902420653441105:1=1:=rfl
theorem tw15414209845533748036:1=1:=rfl
theorem tw5160439202613873929:1=1:=rfl
theorem tw16280953794288232221:1=1:=rfl
theorem tw8216857510417142832:1=1:=rfl
theorem tw15359254935866831671:1=1:=rfl
theorem tw5264525287588732275:1=1:=rfl
theorem tw17971575310155616548:1=1:=rfl
theorem tw15900007312759901687:1=1:=rfl
theorem tw13817468887193803749:1=1:=rfl
theorem tw8384832857948904679:1=1:=rfl
theorem tw17165712364460007937:1=1:=rfl
theorem tw13540725540893423100:1=1:=rfl
theorem tw15105806713761394313:1=1:=rfl
theorem tw14298418986509007056:1=1:=rfl
theorem tw932214003668086457:1=1:=rfl
theorem tw11829331155249565312:1=1:=rfl
theorem tw1630083953374262664:1=1:=rfl
theorem tw2235888599747002902:1=1:=rfl
theorem tw17965629447888445576:1=1:=rfl
theorem tw6225181420625569832:1=1:=rfl
theorem tw6150764768037045286:1=1:=rfl
theorem tw3130525254842944936:1=1:=rfl
theorem tw15300794157633374332:1=1:=rfl
theorem tw7049366616728830603:1=1:=rfl
theorem tw13576721898564114338:1=1:=rfl
theorem tw12071802852684117207:1=1:=rfl
theorem tw7337089448092107536:1=1:=rfl
theorem tw2916998574820748194:1=1:=rfl
theorem tw13480440709091876462:1=1:=rfl
theorem tw6756707577665458313:1=1:=rfl
theorem tw15243644328299185083:1=1:=rfl
theorem tw9709981882016846742:1=1:=rfl
theorem tw15286783187098128181:1=1:=rfl
theorem tw12285488967942064174:1=1:=rfl
theorem tw1349151153501796843:1=1:=rfl
theorem tw4322482778802586882:1=1:=rfl
theorem tw14278619406327155330:1=1:=rfl
theorem tw6910251329036823970:1=1:=rfl
theorem tw3503302711149190957:1=1:=rfl
theorem tw133381090150804090:1=1:=rfl
theorem tw2152953855164078319:1=1:=rfl
theorem tw5245841597140941911:1=1:=rfl
theorem tw17593935190561054225:1=1:=rfl
theorem tw8141263387593659383:1=1:=rfl
theorem tw17321512205300026661:1=1:=rfl
theorem tw4424809238849751997:1=1:=rfl
theorem tw4261255773741033546:1=1:=rfl
theorem tw2585008737069547893:1=1:=rfl
theorem tw2172223381889606366:1=1:=rfl
theorem tw17286997634445182477:1=1:=rfl
theorem tw12250230636717015637:1=1:=rfl
theorem tw6131040260406604677:1=1:=rfl
theorem tw6505427078173107533:1=1:=rfl
theorem tw5613470965413351501:1=1:=rfl
theorem tw15539236916454272900:1=1:=rfl
theorem tw11052540488509135860:1=1:=rfl
theorem tw3035682678408222518:1=1:=rfl
theorem tw15442583921367103575:1=1:=rfl
theorem tw11394740388844991958:1=1:=rfl
theorem tw14652924865153871199:1=1:=rfl
theorem tw4225531253737659736:1=1:=rfl
theorem tw9051837429672037936:1=1:=rfl
theorem tw13274250556126008314:1=1:=rfl
theorem tw3306447094245158999:1=1:=rfl
theorem tw12332528960089250777:1=1:=rfl
theorem tw4828809600006439705:1=1:=rfl
theorem tw8054595290487376567:1=1:=rfl
theorem tw7457751651735821875:1=1:=rfl
theorem tw9637297530898433422:1=1:=rfl
theorem tw7928172418438543884:1=1:=rfl
theorem tw13716034536571382266:1=1:=rfl
theorem tw11014885588857433670:1=1:=rfl
theorem tw9041426583954315877:1=1:=rfl
theorem tw5419572216518330487:1=1:=rfl
theorem tw16322616311375946358:1=1:=rfl
theorem tw4988236911257663882:1=1:=rfl
theorem tw4800743163909790611:1=1:=rfl
theorem tw2088793307034842086:1=1:=rfl
theorem tw4419987464307190580:1=1:=rfl
theorem tw15974597539433384530:1=1:=rfl
theorem tw14931113039455845036:1=1:=rfl
theorem tw11043643399508910216:1=1:=rfl
theorem tw2580249495100799622:1=1:=rfl
theorem tw1471764807460988530:1=1:=rfl
theorem tw2600820611333463122:1=1:=rfl
theorem tw16713902334773635990:1=1:=rfl
theorem tw4031639576677850867:1=1:=rfl
theorem tw900216099249623828:1=1:=rfl
theorem tw16533412631908523082:1=1:=rfl
theorem tw5435783858883292161:1=1:=rfl
theorem tw812546845885817520:1=1:=rfl
theorem tw10576786305314289271:1=1:=rfl
theorem tw15927760500313062848:1=1:=rfl
theorem tw14169709337709584489:1=1:=rfl
theorem tw5599671514589108556:1=1:=rfl
theorem tw1246731405592632764:1=1:=rfl
theorem tw9323473763970740547:1=1:=rfl
theorem tw3863660458401684711:1=1:=rfl
theorem tw6498735818622450274:1=1:=rfl
theorem tw4798127326429708951:1=1:=rfl
theorem tw2126453673721677931:1=1:=rfl
theorem tw14305680604236791328:1=1:=rfl
theorem tw1490791921715190733:1=1:=rfl
theorem tw15878036034204283131:1=1:=rfl
theorem tw7127970258720509975:1=1:=rfl
theorem tw15007170219593818854:1=1:=rfl
theorem tw1707600452403224913:1=1:=rfl
theorem tw2655216322794107768:1=1:=rfl
theorem tw17542650128778772790:1=1:=rfl
theorem tw4172632329834292328:1=1:=rfl
theorem tw6207323099518022218:1=1:=rfl
theorem tw17674115885542113071:1=1:=rfl
theorem tw3600244767320679572:1=1:=rfl
theorem tw1812757042138187628:1=1:=rfl
theorem tw5684812820690707663:1=1:=rfl
theorem tw10334708332442072548:1=1:=rfl
theorem tw17410972906545960284:1=1:=rfl
theorem tw2446757469591453431:1=1:=rfl
theorem tw2634636273838339802:1=1:=rfl
theorem tw14551348143791369726:1=1:=rfl
theorem tw6622604566399932881:1=1:=rfl
theorem tw7351249277310072703:1=1:=rfl
theorem tw14102385580091608584:1=1:=rfl
theorem tw14269374366269030924:1=1:=rfl
theorem tw12124680564775212648:1=1:=rfl
theorem tw1267074408049388623:1=1:=rfl
theorem tw17930205921673347877:1=1:=rfl
theorem tw10508118327840518487:1=1:=rfl
theorem tw99895101104972770:1=1:=rfl
theorem tw17353719198573461692:1=1:=rfl
theorem tw1120378703073080984:1=1:=rfl
theorem tw11591726912162540476:1=1:=rfl
theorem tw9100382375031993442:1=1:=rfl
theorem tw8725059677655484452:1=1:=rfl
theorem tw6689350096569504988:1=1:=rfl
theorem tw2401461521836112038:1=1:=rfl
theorem tw12049828935002638253:1=1:=rfl
theorem tw15640029020394065769:1=1:=rfl
theorem tw8263971166867255881:1=1:=rfl
theorem tw15172441499983108166:1=1:=rfl
theorem tw2265990059756110327:1=1:=rfl
theorem tw16606704723652039555:1=1:=rfl
theorem tw3482626037594883918:1=1:=rfl
theorem tw7806651007038000558:1=1:=rfl
theorem tw15453581548073923776:1=1:=rfl
theorem tw1954877351237114929:1=1:=rfl
theorem tw15771459322346455648:1=1:=rfl
theorem tw6050960403440217865:1=1:=rfl
theorem tw2582756030061788042:1=1:=rfl
theorem tw13277239534572160365:1=1:=rfl
theorem tw1635655573229679399:1=1:=rfl
theorem tw12247707282760983687:1=1:=rfl
theorem tw14531303171804788266:1=1:=rfl
theorem tw13402103109764226466:1=1:=rfl
theorem tw6646003885556115655:1=1:=rfl
theorem tw6419334046794059804:1=1:=rfl
theorem tw5271467121874206470:1=1:=rfl
theorem tw1596987721567607775:1=1:=rfl
theorem tw5337126626304507616:1=1:=rfl
theorem tw11796905445531070416:1=1:=rfl
theorem tw1714023582662231770:1=1:=rfl
theorem tw10633012420260794283:1=1:=rfl
theorem tw10355239223276769094:1=1:=rfl
theorem tw12522035170717025529:1=1:=rfl
theorem tw711430827291370100:1=1:=rfl
theorem tw7936068150006667137:1=1:=rfl
theorem tw14183050297402097407:1=1:=rfl
theorem tw3675379175676460315:1=1:=rfl
theorem tw4988462803469058012:1=1:=rfl
theorem tw9664707035558707877:1=1:=rfl
theorem tw13760118252497610483:1=1:=rfl
theorem tw12215644844303838159:1=1:=rfl
theorem tw12245885799754354706:1=1:=rfl
theorem tw12193566923665895083:1=1:=rfl
theorem tw2304455495163837959:1=1:=rfl
theorem tw18099510968524121806:1=1:=rfl
theorem tw17534988058880130753:1=1:=rfl
theorem tw1452902093025605581:1=1:=rfl
theorem tw8750402127289216011:1=1:=rfl
theorem tw5982850650927668263:1=1:=rfl
theorem tw16659760403366483246:1=1:=rfl
theorem tw10652615766987560946:1=1:=rfl
theorem tw6825530769567761243:1=1:=rfl
theorem tw11744087546685426935:1=1:=rfl
theorem tw7363145418141512098:1=1:=rfl
theorem tw11498053353004439143:1=1:=rfl
theorem tw6202874217378425527:1=1:=rfl
theorem tw15326577007417913124:1=1:=rfl
theorem tw1195913452316292180:1=1:=rfl
theorem tw14291449594337139114:1=1:=rfl
theorem tw12752476953644363712:1=1:=rfl
theorem tw4258947415787317151:1=1:=rfl
theorem tw12241858751901206447:1=1:=rfl
theorem tw10849863382492631494:1=1:=rfl
theorem tw3673075479763972640:1=1:=rfl
theorem tw7548683913116642850:1=1:=rfl
theorem tw7824338710590476527:1=1:=rfl
theorem tw1820417400142045337:1=1:=rfl
theorem tw14284565487745367066:1=1:=rfl
theorem tw14915657405573119798:1=1:=rfl
theorem tw7938529595942361926:1=1:=rfl
theorem tw1822061811007949983:1=1:=rfl
theorem tw11118915669183142625:1=1:=rfl
theorem tw15385599636126506499:1=1:=rfl
theorem tw13606265183500765131:1=1:=rfl
theorem tw12063497602304948606:1=1:=rfl
theorem tw4072288234265741916:1=1:=rfl
theorem tw5809732414218659452:1=1:=rfl
theorem tw9989745709353677026:1=1:=rfl
theorem tw5888316966887003166:1=1:=rfl
theorem tw17843520918326414148:1=1:=rfl
theorem tw11289089281010067795:1=1:=rfl
theorem tw8690880558122867397:1=1:=rfl
theorem tw14859335021724635482:1=1:=rfl
theorem tw10928925445423092382:1=1:=rfl
theorem tw7907946782498036361:1=1:=rfl
theorem tw17642006680159162300:1=1:=rfl
theorem tw16233829936678643607:1=1:=rfl
theorem tw10414586970819323837:1=1:=rfl
theorem tw1889440941070222870:1=1:=rfl
theorem tw12617419049585481319:1=1:=rfl
theorem tw3121016368562537910:1=1:=rfl
theorem tw11200650992520223573:1=1:=rfl
theorem tw8177266755620483120:1=1:=rfl
theorem tw183067136824522472:1=1:=rfl
theorem tw6178462720602536336:1=1:=rfl
theorem tw174316752664678008:1=1:=rfl
theorem tw13890271388660422976:1=1:=rfl
theorem tw15717966384179826945:1=1:=rfl
theorem tw4700950976058068989:1=1:=rfl
theorem tw17208214401897237788:1=1:=rfl
theorem tw14908747974270511362:1=1:=rfl
theorem tw13265711884592169333:1=1:=rfl
theorem tw8587570012586772022:1=1:=rfl
theorem tw991727415622018006:1=1:=rfl
theorem tw1541911628249430351:1=1:=rfl
theorem tw7366280623422732884:1=1:=rfl
theorem tw13672821708197478046:1=1:=rfl
theorem tw14388435822916158720:1=1:=rfl
theorem tw1993449474332767168:1=1:=rfl
theorem tw2332259328726559358:1=1:=rfl
theorem tw2588605788810773504:1=1:=rfl
theorem tw4479832988220667259:1=1:=rfl
theorem tw13266985462945764468:1=1:=rfl
theorem tw11914997758929328924:1=1:=rfl
theorem tw12152441772792366316:1=1:=rfl
theorem tw8850738118777825483:1=1:=rfl
theorem tw6430248026204317428:1=1:=rfl
theorem tw6676989767137982751:1=1:=rfl
theorem tw14381766856048945433:1=1:=rfl
theorem tw5190011149381158487:1=1:=rfl
theorem tw15764521715205760310:1=1:=rfl
theorem tw15069123727520371563:1=1:=rfl
theorem tw16635894107647495697:1=1:=rfl
theorem tw8300031291596133939:1=1:=rfl
theorem tw2871319601104954459:1=1:=rfl
theorem tw16977618397772972943:1=1:=rfl
theorem tw3342188776414495030:1=1:=rfl
theorem tw645909743579892064:1=1:=rfl
theorem tw1800565318445509570:1=1:=rfl
theorem tw3052398999409065687:1=1:=rfl
theorem tw12071435423592371931:1=1:=rfl
theorem tw15967749638566243801:1=1:=rfl
theorem tw16601229256719868550:1=1:=rfl
theorem tw7336723902049056050:1=1:=rfl
theorem tw16280969686454202295:1=1:=rfl
theorem tw2300516129754424105:1=1:=rfl
theorem tw12400394568479174630:1=1:=rfl
theorem tw10672030562340400272:1=1:=rfl
theorem tw1216437563523744578:1=1:=rfl
theorem tw14745805373527021547:1=1:=rfl
theorem tw5379872874919617695:1=1:=rfl
theorem tw1707082700335149104:1=1:=rfl
theorem tw835005728025071682:1=1:=rfl
theorem tw3411286436073419761:1=1:=rfl
theorem tw12432843160676736155:1=1:=rfl
theorem tw13352145691472105997:1=1:=rfl
theorem tw10938117191696466552:1=1:=rfl
theorem tw10556459493720713138:1=1:=rfl
theorem tw8782810985308110559:1=1:=rfl
theorem tw5069062042849229780:1=1:=rfl
theorem tw16021070028754448450:1=1:=rfl
theorem tw6724255461637289107:1=1:=rfl
theorem tw6689434244721510140:1=1:=rfl
theorem tw104786470329618045:1=1:=rfl
theorem tw2808722715522151509:1=1:=rfl
theorem tw16568153913168160959:1=1:=rfl
theorem tw3340232101271222931:1=1:=rfl
theorem tw9147989417916084734:1=1:=rfl
theorem tw2818178653058265487:1=1:=rfl
theorem tw4698958259724025399:1=1:=rfl
theorem tw10217597236254993061:1=1:=rfl
theorem tw8827548973460737127:1=1:=rfl
theorem tw12602197898412500054:1=1:=rfl
theorem tw14259297419709960235:1=1:=rfl
theorem tw3624019958350288400:1=1:=rfl
theorem tw16705930161868960860:1=1:=rfl
theorem tw12380603299014557641:1=1:=rfl
theorem tw3023037913431905264:1=1:=rfl
theorem tw12784587400264815434:1=1:=rfl
theorem tw13104785121037690194:1=1:=rfl
theorem tw14673565255846624119:1=1:=rfl
theorem tw15583481324478574179:1=1:=rfl
theorem tw11094813674942963335:1=1:=rfl
theorem tw16958262632934863303:1=1:=rfl
theorem tw1633981161268592020:1=1:=rfl
theorem tw8914090129809717197:1=1:=rfl
theorem tw13414605361683377920:1=1:=rfl
theorem tw338100440679890882:1=1:=rfl
theorem tw7336948357875904767:1=1:=rfl
theorem tw14735691198693859800:1=1:=rfl
theorem tw6514814863589689792:1=1:=rfl
theorem tw11124368481990794141:1=1:=rfl
theorem tw15269477571086558809:1=1:=rfl
theorem tw9113455888159716818:1=1:=rfl
theorem tw17114200378221469093:1=1:=rfl
theorem tw1831169024540564339:1=1:=rfl
theorem tw4075800056648111610:1=1:=rfl
theorem tw2375616487892761061:1=1:=rfl
theorem tw6501823202231153112:1=1:=rfl
theorem tw6741125765297415290:1=1:=rfl
theorem tw4286146907742119080:1=1:=rfl
theorem tw8032517009832129252:1=1:=rfl
theorem tw17813903705716963841:1=1:=rfl
theorem tw13191135812737294089:1=1:=rfl
theorem tw11667899460910557686:1=1:=rfl
theorem tw6072067645199902039:1=1:=rfl
theorem tw13355850267783891271:1=1:=rfl
theorem tw14559916469804857943:1=1:=rfl
theorem tw6078461715532398520:1=1:=rfl
theorem tw12868662151203163426:1=1:=rfl
theorem tw16889935903621287800:1=1:=rfl
theorem tw16616841751442304206:1=1:=rfl
theorem tw14003825949467877638:1=1:=rfl
theorem tw1996178545554698548:1=1:=rfl
theorem tw14368677021355051235:1=1:=rfl
theorem tw12700485813491390391:1=1:=rfl
theorem tw5364902933105141269:1=1:=rfl
theorem tw8512007606518242012:1=1:=rfl
theorem tw17670776812319671056:1=1:=rfl
theorem tw7649276417596223044:1=1:=rfl
theorem tw4974550942289673938:1=1:=rfl
theorem tw4803286731070606639:1=1:=rfl
theorem tw15261255886470536362:1=1:=rfl
theorem tw14436271735805788437:1=1:=rfl
theorem tw10930382426098784560:1=1:=rfl
theorem tw3417349241574355353:1=1:=rfl
theorem tw6318247730116039189:1=1:=rfl
theorem tw13624876894099462920:1=1:=rfl
theorem tw1819104566311801969:1=1:=rfl
theorem tw3976318922756111317:1=1:=rfl
theorem tw14536371293306324527:1=1:=rfl
theorem tw15747635799288760360:1=1:=rfl
theorem tw10152488134153914156:1=1:=rfl
theorem tw11613304955208985909:1=1:=rfl
theorem tw8463819011408869496:1=1:=rfl
theorem tw3254245129052336900:1=1:=rfl
theorem tw17953159953764078128:1=1:=rfl
theorem tw16772281668003842143:1=1:=rfl
theorem tw12216308405678577629:1=1:=rfl
theorem tw8347482170685583504:1=1:=rfl
theorem tw18091893836119308267:1=1:=rfl
theorem tw13344414578632776554:1=1:=rfl
theorem tw10001027356148380601:1=1:=rfl
theorem tw4753849060693910197:1=1:=rfl
theorem tw17177626257958418070:1=1:=rfl
theorem tw13243696697520713581:1=1:=rfl
theorem tw4101223260936597071:1=1:=rfl
theorem tw803724083960703065:1=1:=rfl
theorem tw1324920072621081615:1=1:=rfl
theorem tw12029575091959782443:1=1:=rfl
theorem tw7160085857918200395:1=1:=rfl
theorem tw12735099779261400637:1=1:=rfl
theorem tw12916591752422080223:1=1:=rfl
theorem tw10293317752367047743:1=1:=rfl
theorem tw17632228442900498531:1=1:=rfl
theorem tw3700928689878217531:1=1:=rfl
theorem tw11558212811357586375:1=1:=rfl
theorem tw424086943281067741:1=1:=rfl
theorem tw18428731932012132806:1=1:=rfl
theorem tw5238678978474165082:1=1:=rfl
theorem tw6621361990873319048:1=1:=rfl
theorem tw8745025201630198770:1=1:=rfl
theorem tw18275993504930318477:1=1:=rfl
theorem tw2075722217934689361:1=1:=rfl
theorem tw12608429925392261052:1=1:=rfl
theorem tw11714883356498250124:1=1:=rfl
theorem tw14230329178127710899:1=1:=rfl
theorem tw687531364874762898:1=1:=rfl
theorem tw5084275262051377365:1=1:=rfl
theorem tw12139591951932464906:1=1:=rfl
theorem tw93608570361098901:1=1:=rfl
theorem tw3599327191551985587:1=1:=rfl
theorem tw1771039421998445798:1=1:=rfl
theorem tw2023397886573350847:1=1:=rfl
theorem tw9373362323971220990:1=1:=rfl
theorem tw16218080193917954930:1=1:=rfl
theorem tw13413294339648327401:1=1:=rfl
theorem tw9371964875402475871:1=1:=rfl
theorem tw794259056712597830:1=1:=rfl
theorem tw3416404156026667731:1=1:=rfl
theorem tw12148317829505751521:1=1:=rfl
theorem tw3573442583693900507:1=1:=rfl
theorem tw14478306475194421910:1=1:=rfl
theorem tw5826855697027023985:1=1:=rfl
theorem tw6799124512404562375:1=1:=rfl
theorem tw14904963855705952672:1=1:=rfl
theorem tw5129275154748309544:1=1:=rfl
theorem tw2472905744220464591:1=1:=rfl
theorem tw13963215974031195999:1=1:=rfl
theorem tw13535739701028303454:1=1:=rfl
theorem tw13953130967000322353:1=1:=rfl
theorem tw575948719858868943:1=1:=rfl
theorem tw3243048273413842090:1=1:=rfl
theorem tw463744223977042604:1=1:=rfl
theorem tw1275273303642779121:1=1:=rfl
theorem tw1869963959017181742:1=1:=rfl
theorem tw1276929853879983564:1=1:=rfl
theorem tw11246953818955978860:1=1:=rfl
theorem tw10079039695890502656:1=1:=rfl
theorem tw10415705077363066123:1=1:=rfl
theorem tw8096024577269495205:1=1:=rfl
theorem tw1488483059145440615:1=1:=rfl
theorem tw17910007580522627840:1=1:=rfl
theorem tw10663619674169620916:1=1:=rfl
theorem tw14709706120505837653:1=1:=rfl
theorem tw6659117919037513865:1=1:=rfl
theorem tw9349593628291709975:1=1:=rfl
theorem tw7353498121257285008:1=1:=rfl
theorem tw4606892653509030081:1=1:=rfl
theorem tw3558192779172405705:1=1:=rfl
theorem tw9761641626264742596:1=1:=rfl
theorem tw8446673182641565275:1=1:=rfl
theorem tw7337949515909325178:1=1:=rfl
theorem tw13069630498162423561:1=1:=rfl
theorem tw3168712848267494130:1=1:=rfl
theorem tw15115748814983533780:1=1:=rfl
theorem tw6623498628569504812:1=1:=rfl
theorem tw1569361113817226157:1=1:=rfl
theorem tw8484238627280716818:1=1:=rfl
theorem tw1491285576359691509:1=1:=rfl
theorem tw13411797879138340210:1=1:=rfl
theorem tw7502245587549455305:1=1:=rfl
theorem tw5157132087063588645:1=1:=rfl
theorem tw9601814991291247293:1=1:=rfl
theorem tw12182383344580051601:1=1:=rfl
theorem tw9099946142010916802:1=1:=rfl
theorem tw11731841345329122232:1=1:=rfl
theorem tw12644860057274988192:1=1:=rfl
theorem tw5879287676200930337:1=1:=rfl
theorem tw7215428993110118673:1=1:=rfl
theorem tw18255477214890231121:1=1:=rfl
theorem tw8254476876653714585:1=1:=rfl
theorem tw11040562890951042130:1=1:=rfl
theorem tw17343565659818473866:1=1:=rfl
theorem tw4568780098450495304:1=1:=rfl
theorem tw9999045135334528133:1=1:=rfl
theorem tw13973932231043585741:1=1:=rfl
theorem tw357028755677097556:1=1:=rfl
theorem tw8562630573327375037:1=1:=rfl
theorem tw17152717762757635489:1=1:=rfl
theorem tw8167413696648441449:1=1:=rfl
theorem tw2797027107842473021:1=1:=rfl
theorem tw6563602746778532501:1=1:=rfl
theorem tw3280107044474570536:1=1:=rfl
theorem tw16490974828834105916:1=1:=rfl
theorem tw14785144986517705731:1=1:=rfl
theorem tw5813666870539218755:1=1:=rfl
theorem tw8354290064440278082:1=1:=rfl
theorem tw14809768869237195533:1=1:=rfl
theorem tw14091023523960594164:1=1:=rfl
theorem tw18217163282802411114:1=1:=rfl
theorem tw858139813673996486:1=1:=rfl
theorem tw15263373104276008136:1=1:=rfl
theorem tw10972317158499130374:1=1:=rfl
theorem tw17450738933095650294:1=1:=rfl
theorem tw1879967022234385349:1=1:=rfl
theorem tw9636416788191930390:1=1:=rfl
theorem tw26587152945370518:1=1:=rfl
theorem tw14872819148286540964:1=1:=rfl
theorem tw9619032744152986289:1=1:=rfl
theorem tw6088855693936107887:1=1:=rfl
theorem tw9634027993933104511:1=1:=rfl
theorem tw17785230749658819545:1=1:=rfl
theorem tw17943620607006842737:1=1:=rfl
theorem tw12132094785217517035:1=1:=rfl
theorem tw1841821844246913614:1=1:=rfl
theorem tw1268682980064380107:1=1:=rfl
theorem tw16799758635649053609:1=1:=rfl
theorem tw5688847100164935042:1=1:=rfl
theorem tw13564228390422705138:1=1:=rfl
theorem tw2163773929710066478:1=1:=rfl
theorem tw4852689326696035396:1=1:=rfl
theorem tw6032933818578340846:1=1:=rfl
theorem tw9619860448164075218:1=1:=rfl
theorem tw639363770214068292:1=1:=rfl
theorem tw13706404430160941224:1=1:=rfl
theorem tw8115465133167465463:1=1:=rfl
theorem tw3770678128650141085:1=1:=rfl
theorem tw17819684365695629512:1=1:=rfl
theorem tw14913637385009602642:1=1:=rfl
theorem tw11558504214164975120:1=1:=rfl
theorem tw7879233393520884538:1=1:=rfl
theorem tw4479655425086674523:1=1:=rfl
theorem tw12597546975965701300:1=1:=rfl
theorem tw10919146235142289431:1=1:=rfl
theorem tw6247437269155710794:1=1:=rfl
theorem tw9249303593815560287:1=1:=rfl
theorem tw11263225504359747703:1=1:=rfl
theorem tw11477771267043840082:1=1:=rfl
theorem tw4792219550047748730:1=1:=rfl
theorem tw11218880142606695987:1=1:=rfl
theorem tw5571746090955006714:1=1:=rfl
theorem tw8814019125498115040:1=1:=rfl
theorem tw6362027993711680926:1=1:=rfl
theorem tw12511726720478329291:1=1:=rfl
theorem tw3780024315532542274:1=1:=rfl
theorem tw507300135974588481:1=1:=rfl
theorem tw4034899447775226415:1=1:=rfl
theorem tw13581170827293162252:1=1:=rfl
theorem tw9685369057885546767:1=1:=rfl
theorem tw3954682711582651075:1=1:=rfl
theorem tw13779549221161857280:1=1:=rfl
theorem tw160321457427303562:1=1:=rfl
theorem tw4050823194520514481:1=1:=rfl
theorem tw8448070926386192639:1=1:=rfl
theorem tw17190877662109970264:1=1:=rfl
theorem tw4881405476104658271:1=1:=rfl
theorem tw17987482668957189192:1=1:=rfl
theorem tw15977002792822242392:1=1:=rfl
theorem tw8797609263067152877:1=1:=rfl
theorem tw1944184707872726720:1=1:=rfl
theorem tw5448230382270670946:1=1:=rfl
theorem tw2134450568221870630:1=1:=rfl
theorem tw13352289635171012386:1=1:=rfl
theorem tw8253498169697750490:1=1:=rfl
theorem tw4598576143998138658:1=1:=rfl
theorem tw3590106548494760316:1=1:=rfl
theorem tw12830213170039020001:1=1:=rfl
theorem tw9124691886488982240:1=1:=rfl
theorem tw4233817204388368255:1=1:=rfl
theorem tw11941928966795200132:1=1:=rfl
theorem tw14891007465025112720:1=1:=rfl
theorem tw132492936131875577:1=1:=rfl
theorem tw941191847636617388:1=1:=rfl
theorem tw11599517430124628276:1=1:=rfl
theorem tw8985631591010042898:1=1:=rfl
theorem tw17410412724120537579:1=1:=rfl
theorem tw2813174413005995733:1=1:=rfl
theorem tw6353285159567239071:1=1:=rfl
theorem tw6308391528324404790:1=1:=rfl
theorem tw7633940407449255043:1=1:=rfl
theorem tw9809431272535289733:1=1:=rfl
theorem tw13092316188315033129:1=1:=rfl
theorem tw10938256935911992679:1=1:=rfl
theorem tw4525724958390306265:1=1:=rfl
theorem tw3789697140002129664:1=1:=rfl
theorem tw14342875313950948615:1=1:=rfl
theorem tw2770504343616500506:1=1:=rfl
theorem tw4844672077499364459:1=1:=rfl
theorem tw12008099235872616629:1=1:=rfl
theorem tw13307559070910793601:1=1:=rfl
theorem tw18163914184360113495:1=1:=rfl
theorem tw17504174860514705769:1=1:=rfl
theorem tw14155067824888742814:1=1:=rfl
theorem tw11753859013096383089:1=1:=rfl
theorem tw14832404970206635504:1=1:=rfl
theorem tw11293627282515160620:1=1:=rfl
theorem tw7358324430364095793:1=1:=rfl
theorem tw15376917349270894632:1=1:=rfl
theorem tw13732550841121539194:1=1:=rfl
theorem tw17416499285649986558:1=1:=rfl
theorem tw17098967819449313475:1=1:=rfl
theorem tw11017786981717620225:1=1:=rfl
theorem tw10451231846977190588:1=1:=rfl
theorem tw460627098243258082:1=1:=rfl
theorem tw5313938410439437781:1=1:=rfl
theorem tw15464786294207635039:1=1:=rfl
theorem tw12216062818721277644:1=1:=rfl
theorem tw13499203305473863790:1=1:=rfl
theorem tw7459946263303700809:1=1:=rfl
theorem tw545214415357890431:1=1:=rfl
theorem tw15048246081063969966:1=1:=rfl
theorem tw16428973990920895614:1=1:=rfl
theorem tw5150298350667919348:1=1:=rfl
theorem tw283141518611729095:1=1:=rfl
theorem tw12987551809351828339:1=1:=rfl
theorem tw3665831208291474911:1=1:=rfl
theorem tw7010779729337648770:1=1:=rfl
theorem tw7948411875597940769:1=1:=rfl
theorem tw13770339171830260313:1=1:=rfl
theorem tw1917611789385081931:1=1:=rfl
theorem tw4186819295914549448:1=1:=rfl
theorem tw12167418935499061065:1=1:=rfl
theorem tw4654724583486025713:1=1:=rfl
theorem tw8589464339514674647:1=1:=rfl
theorem tw7003669457378953937:1=1:=rfl
theorem tw2296296235998229896:1=1:=rfl
theorem tw10030062899841357406:1=1:=rfl
theorem tw5304175265611773422:1=1:=rfl
theorem tw9272049055934918128:1=1:=rfl
theorem tw3720165932109903765:1=1:=rfl
theorem tw7278215447997664157:1=1:=rfl
theorem tw9890614969686619641:1=1:=rfl
theorem tw1089242148981669635:1=1:=rfl
theorem tw11023688010088407678:1=1:=rfl
theorem tw7183550241242803304:1=1:=rfl
theorem tw1793949655891746278:1=1:=rfl
theorem tw922013359831815654:1=1:=rfl
theorem tw18184290383899267087:1=1:=rfl
theorem tw997872055794823846:1=1:=rfl
theorem tw3155664432212603518:1=1:=rfl
theorem tw1254006135392557453:1=1:=rfl
theorem tw16389081409289876730:1=1:=rfl
theorem tw164504837409028103:1=1:=rfl
theorem tw1475060178368235395:1=1:=rfl
theorem tw18038909562631122230:1=1:=rfl
theorem tw1310394820708341173:1=1:=rfl
theorem tw1670285388576350709:1=1:=rfl
theorem tw15003944612852504942:1=1:=rfl
theorem tw13893188375010023145:1=1:=rfl
theorem tw15109019773793915036:1=1:=rfl
theorem tw11416484511123919137:1=1:=rfl
theorem tw857211949007406408:1=1:=rfl
theorem tw14563527811529670747:1=1:=rfl
theorem tw9606548349810565411:1=1:=rfl
theorem tw4653117777906647106:1=1:=rfl
theorem tw5698583211343536144:1=1:=rfl
theorem tw13175182896891517676:1=1:=rfl
theorem tw5040086416374787529:1=1:=rfl
theorem tw4906972421357566537:1=1:=rfl
theorem tw2025292328763209327:1=1:=rfl
theorem tw7136425490829389361:1=1:=rfl
theorem tw4633803398832564210:1=1:=rfl
theorem tw18282418337999338003:1=1:=rfl
theorem tw1986186937589305303:1=1:=rfl
theorem tw8030466416126971455:1=1:=rfl
theorem tw12348090541104180041:1=1:=rfl
theorem tw6872589268017334869:1=1:=rfl
theorem tw13490217351551191321:1=1:=rfl
theorem tw13702309871257484258:1=1:=rfl
theorem tw17111555650450406681:1=1:=rfl
theorem tw1392105951331737113:1=1:=rfl
theorem tw7290191184984712457:1=1:=rfl
theorem tw16059300048711432460:1=1:=rfl
theorem tw3341982596970732497:1=1:=rfl
theorem tw4731201336571266640:1=1:=rfl
theorem tw15154383256248977202:1=1:=rfl
theorem tw17663452883631147141:1=1:=rfl
theorem tw12010489065037101942:1=1:=rfl
theorem tw8233824303537144934:1=1:=rfl
theorem tw18143603997739235636:1=1:=rfl
theorem tw9039138102003288065:1=1:=rfl
theorem tw8120294217932533490:1=1:=rfl
theorem tw8627264486754180786:1=1:=rfl
theorem tw6545005072836055949:1=1:=rfl
theorem tw7815305083361351820:1=1:=rfl
theorem tw7695539368318809607:1=1:=rfl
theorem tw8867536478297040575:1=1:=rfl
theorem tw2953472343416791029:1=1:=rfl
theorem tw9495751393980700471:1=1:=rfl
theorem tw13060687217884807222:1=1:=rfl
theorem tw600734389660143006:1=1:=rfl
theorem tw1172128474822354570:1=1:=rfl
theorem tw12053019336312687109:1=1:=rfl
theorem tw4442803635005764140:1=1:=rfl
theorem tw8634368401444420673:1=1:=rfl
theorem tw1727710895658328058:1=1:=rfl
theorem tw7534350798815098323:1=1:=rfl
theorem tw5519190262063147351:1=1:=rfl
theorem tw10247408175605340238:1=1:=rfl
theorem tw3567946558884622647:1=1:=rfl
theorem tw12490010682961251937:1=1:=rfl
theorem tw9753819735549061520:1=1:=rfl
theorem tw3339879953584483310:1=1:=rfl
theorem tw3677572375489526849:1=1:=rfl
theorem tw9272400904480188892:1=1:=rfl
theorem tw8542385458545809879:1=1:=rfl
theorem tw17459269369455870934:1=1:=rfl
theorem tw11971937871247248200:1=1:=rfl
theorem tw6333968009027658105:1=1:=rfl
theorem tw9492931821569619763:1=1:=rfl
theorem tw2950985823001006337:1=1:=rfl
theorem tw202797289487056322:1=1:=rfl
theorem tw1998620150276966099:1=1:=rfl
theorem tw13424763464159496802:1=1:=rfl
theorem tw3816856620824792060:1=1:=rfl
theorem tw9951650998433885606:1=1:=rfl
theorem tw6480606569870912840:1=1:=rfl
theorem tw1167365404668820209:1=1:=rfl
theorem tw9477250435586026969:1=1:=rfl
theorem tw1760979578540545144:1=1:=rfl
theorem tw4597227423087860451:1=1:=rfl
theorem tw147217522123444178:1=1:=rfl
theorem tw3425829358323812572:1=1:=rfl
theorem tw14424227243314616453:1=1:=rfl
theorem tw15105347545255533015:1=1:=rfl
theorem tw6799224871049833036:1=1:=rfl
theorem tw4576801516855156276:1=1:=rfl
theorem tw3914275581166775021:1=1:=rfl
theorem tw9963388263732682630:1=1:=rfl
theorem tw5567169996510081907:1=1:=rfl
theorem tw16238980458882292844:1=1:=rfl
theorem tw3921159855935532072:1=1:=rfl
theorem tw7882273822151103220:1=1:=rfl
theorem tw6985328804734395133:1=1:=rfl
theorem tw13309915634166419164:1=1:=rfl
theorem tw9727879892956046472:1=1:=rfl
theorem tw5791730551071296813:1=1:=rfl
theorem tw13501065371836314191:1=1:=rfl
theorem tw15538260563583966206:1=1:=rfl
theorem tw15970816823766957123:1=1:=rfl
theorem tw11744209615159102581:1=1:=rfl
theorem tw13388479175342307203:1=1:=rfl
theorem tw4439174499647628646:1=1:=rfl
theorem tw10246640153444487632:1=1:=rfl
theorem tw16495994246533283432:1=1:=rfl
theorem tw16707885896754580591:1=1:=rfl
theorem tw7713549317744122814:1=1:=rfl
theorem tw1565056790417558413:1=1:=rfl
theorem tw14475818836164427136:1=1:=rfl
theorem tw12319962600664660193:1=1:=rfl
theorem tw7084316766810736126:1=1:=rfl
theorem tw8609476419256407912:1=1:=rfl
theorem tw586458239817527323:1=1:=rfl
theorem tw3988606789889725249:1=1:=rfl
theorem tw12668965514476484051:1=1:=rfl
theorem tw12506161696728123382:1=1:=rfl
theorem tw11782448599797869021:1=1:=rfl
theorem tw9332569110415669355:1=1:=rfl
theorem tw6539886911943741896:1=1:=rfl
theorem tw8080774845428085235:1=1:=rfl
theorem tw12696314674573162978:1=1:=rfl
theorem tw10385160492121360400:1=1:=rfl
theorem tw12316867498639224279:1=1:=rfl
theorem tw14760408208351179499:1=1:=rfl
theorem tw3276325141929007091:1=1:=rfl
theorem tw9167822329576482428:1=1:=rfl
theorem tw11087769161945743545:1=1:=rfl
theorem tw10345226115758574577:1=1:=rfl
theorem tw15025857571257198930:1=1:=rfl
theorem tw15120993303392308798:1=1:=rfl
theorem tw4453607140804857048:1=1:=rfl
end PySem.W.Fast
open PySem PySem.W PyProof.Rows L2
set_option maxRecDepth 100000 in
set_option maxHeartbeats 0 in
theorem PySem.Challenge.cw_mixbench_k40_what_is_no_part_holds : PySem.Challenge.rw_mixbench_k40_what_is_no_part.Holds := by
 w_on; o_law; k_head; (case hw=>w_witness2)
 k_fill
 refine L2.h2o (l := PySem.Challenge.rw_mixbench_k40_what_is_no_part) (k := 12) (x := "_law_script") (CX := fun _ => L2.CX0) rfl rfl ⟨rfl, by decide, by decide⟩ (fun w h Y => PySem.W.kIn_of Y) ?F (fun _ _ _ _ _ z => z)
 case F =>
  intro w mg fa h KX G hmg
  refine' My.all_mk (wd:=w) KX G hmg ⟨?d1t,?d1u,?f0j,?f0k,?f0l,?f6i,?f6j,?g1y,?d5l,?f6k,?f0m,?g1z,?g2a,?f6l,?g2b,?g2c,?g2d,?f6m,?d5m,?c8y,?d5n,?f0n,?d5o,?d5p,?g9h,?g2e,?f0o,?d5q,?c2k,?c2l,?d1v,?c2m,?d1w,?g9i,?c6p,?d1y,?c6q,?d1z,?c6r,?f0p,?d5r,?f0q,?f0r,?f0s,?c6s,?d5s,?f0t,?c6t,?c8z,?f6n,?c6u,?c4p,?c6v,?d5t,?d5u,?c6w,?c6y,?d5v,?h3j,?g9j,?b9h,?a5l,?g4b,?c3p,?b1v,?a4m,?f6o,?c0h,?b9i,?a5m,?a5n,?a4n,?a3n,?a1j,?g4c,?c3q,?b9j,?a5o,?a5p,?g4d,?c3r,?b9k,?a5q,?a5r,?g4e,?c3s,?b1w,?a3g,?a3o,?a3w,?g2f,?c0i,?c0p,?a7u,?b6w,?c5q,?c5r,?b3k,?g0e,?d5w,?c5s,?c0q,?a1z,?a5t,?c6z,?c7g,?c3t,?c3u,?b6y,?c7h,?c7i,?c7j,?c7k,?c7l,?c7m,?a9q,?c2n,?f4j,?b4o,?c3v,?c3w,?a3s,?a3i,?a5u,?a1m,?c2o,?b6z,?c2p,?c2q,?c2r,?a8j,?b7g,?a4k,?b4p,?a9r,?c0j,?b0l,?b1s,?b4q,?c5t,?c5u,?b4r,?b0m,?c0r,?g9k,?c9g,?h7o,?y_bool,?h7p,?c9h,?h7q,?g2g,?h7r,?g2h,?h7s,?f0u,?f0v,?f6p,?b0n,?b0o,?b0p,?b0q,?b0r,?b0s,?b0t,?b0u,?b3l,?b3m,?b3n,?b3o,?b3p,?b3q,?b3r,?b3s,?c0s,?c0t,?c0u,?c0v,?c0w,?c0y,?c0z,?c1g,?b7h,?b7i,?b7j,?b7k,?b7l,?b7m,?b7n,?b7o,?b7p,?b7q,?b7r,?b7s,?b7t,?b7u,?b7v,?b7w,?b0v,?b0w,?b0y,?b0z,?b1g,?b1h,?b1i,?b1j,?a2i,?a2j,?a2k,?a2l,?a2m,?a2n,?a2o,?a2p,?c1h,?c1i,?c1j,?c1k,?c1l,?c1m,?c1n,?c1o,?a2q,?a2r,?a2s,?a2t,?a2u,?a2v,?a2w,?a2y,?c5v,?c5w,?c5y,?c5z,?c6g,?c6h,?c6i,?c6j,?c1p,?c1q,?c1r,?c1s,?c1t,?c1u,?c1v,?c1w,?b4s,?c6k,?b7y,?c2s,?b9l,?b9m,?b4t,?b9n,?c2t,?b9o,?c2u,?c4q,?c2v,?b1l,?b4u,?b7z,?b8g,?c2w,?b9p,?b9q,?b4v,?b9r,?c9i,?c2y,?b9s,?c4r,?c2z,?b1m,?b9t,?c3g,?c7n,?c4s,?c4t,?b9u,?c4u,?c7o,?c4v,?c9j,?c7p,?d5y,?d5z,?a8w,?a5z,?a8y,?a6g,?c9k,?b3t,?c9l,?b3u,?c7q,?c0k,?d6g,?d0s,?c3h,?b4w,?d6h,?a7n,?a6o,?a7o,?a7p,?a6p,?a7q,?d6i⟩ ?ld_READERS ?kd_READERS ?ne_READERS
  case d1t | d1u | f0j | f0k | f0l | f6i | f6j | g1y | d5l | f6k | f0m | g1z | g2a | f6l | g2b | g2c | g2d | f6m | d5m | c8y | d5n | f0n | d5o | d5p | g9h | g2e | f0o | d5q | c2k | c2l | d1v | c2m | d1w | g9i | c6p | d1y | c6q | d1z | c6r | f0p | d5r | f0q | f0r | f0s | c6s | d5s | f0t | c6t | c8z | f6n | c6u | c4p | c6v | d5t | d5u | c6w | c6y | d5v | h3j | f6p => dsimp only; k_is
  case b0n | b0o | b0p | b0q | b0r | b0s | b0t | b0u | b3l | b3m | b3n | b3o | b3p | b3q | b3r | b3s | c0s | c0t | c0u | c0v | c0w | c0y | c0z | c1g | b7h | b7i | b7j | b7k | b7l | b7m | b7n | b7o | b7p | b7q | b7r | b7s | b7t | b7u | b7v | b7w | b0v | b0w | b0y | b0z | b1g | b1h | b1i | b1j | a2i | a2j | a2k | a2l | a2m | a2n | a2o | a2p | c1h | c1i | c1j | c1k => dsimp only; k_is
  case c1l | c1m | c1n | c1o | a2q | a2r | a2s | a2t | a2u | a2v | a2w | a2y | c5v | c5w | c5y | c5z | c6g | c6h | c6i | c6j | c1p | c1q | c1r | c1s | c1t | c1u | c1v | c1w | b4s | c6k | b7y | c2s | b9l | b9m | b4t | b9n | c2t | b9o | c2u | c4q | c2v | b1l | b4u | b7z | b8g | c2w | b9p | b9q | b4v | b9r | c9i | c2y | b9s | c4r | c2z | b1m | b9t | c3g | c7n | c4s => dsimp only; k_is
  case c4t | b9u | c4u | c7o | c4v | c9j | c7p | d5y | a8w | a8y | c9k | c9l | c7q | d6g | c3h | d6h | a7n | a6o | a7o | a7p | a6p | a7q => dsimp only; k_is
  case g9j | b9h | b1v | b9i | b9j | b9k | b1w => refine' ⟨?_, ?_, ?_, ?_⟩ <;> ((try dsimp only); k_is)
  case a5l | a4m | a5m | a5n | a4n | a3n | a1j | a5o | a5p | a5q | a5r | a3g | a3o | a3w => dsimp only; unfold a3y; k_is
  case g4b | f6o | g4c | g4d | g4e | g2f => (dsimp only; refine' ⟨?a, ?l, ?c, ?k⟩; (case a => k_is); (case l => k_is); (case c => k_is); (case k => k_is))
  case c3p | c0h | c3q | c3r | c3s | c0i => (dsimp only; refine' ⟨?a, ?l, ?c⟩; (case a => k_is); (case l => k_is); (case c => k_is))
  case c0p | a7u | b6w | c5q | c5r | b3k | g0e | d5w | c5s | c0q | a1z | a5t | c6z | c7g | c3t | c3u | b6y | c7h | c7i | c7j | c7k | c7l | c7m | a9q | c2n | f4j | b4o | c3v | c3w | a3s | a3i | a5u | a1m | c2o | b6z | c2p | c2q | c2r | a8j | b7g | a4k | b4p | a9r | c0j | b0l | b1s | b4q | c5t | c5u | b4r | b0m | c0r | g9k => (dsimp only; refine' a1s ?l ?c ?k; (try dsimp only); (case l => k_is); (case c => k_is); (case k => k_is))
  case c9g | h7o | y_bool | h7p | c9h | h7q | g2g | h7r | g2h | h7s | ld_READERS => k_is
  case f0u | f0v => dsimp only; k_exc
  case d5z | a5z | a6g | b3t | b3u | c0k | d0s | b4w => exact ⟨_, rfl⟩
  case d6i => dsimp only; kernel_rfl
  (case kd_READERS=>k_keys)
  (case ne_READERS=>decide)
