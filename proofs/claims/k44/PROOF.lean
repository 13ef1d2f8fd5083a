import PyProof.Rows.All
import Wide.All
import OpenK.AllK
import Wide.FinOn
import Lean
import PyProof.EqAt
import PyProof.EqKinds
import PyProof.TupleCall
import PySem.Challenge.RW_mixbench_k44_chains_told
set_option Elab.async false
set_option linter.all false
set_option maxRecDepth 100000
namespace L2
open PySem PySem.Spec PyProof.Rows
noncomputable abbrev Key:=Sum Int Str
noncomputable def j6c:Key->Value->Bool
 | .inl k,v=>Value.isInt k v
 | .inr x,v=>Value.isStrOf x v
noncomputable def keyH(w:World):Key->Int
 | .inl k=>hashInt k
 | .inr x=>hashStr w x
theorem a9u:∀ {k:Key} {v:Value},j6c k v=true->(∃ i t,k=Sum.inl i/\v=Value.int i t)\/(∃ x t,k=Sum.inr x/\v=Value.str x t)
 | .inl i,v,h=>by
  obtain⟨t,e⟩:=Value.isInt_shape (k:=i) (v:=v) h
  exact .inl ⟨i,t,rfl,e⟩
 | .inr x,v,h=>by
  obtain⟨t,e⟩:=Value.isStrOf_shape (x:=x) (v:=v) h
  exact .inr ⟨x,t,rfl,e⟩
theorem j6d(a b:Int):decide ((Sum.inl a:Key)=Sum.inl b)=(a == b):=by
 by_cases e:a=b
 ·subst e; simp
 ·have h:¬ (Sum.inl a:Key)=Sum.inl b:=fun q=>e (Sum.inl.inj q)
  rw [decide_eq_false h]
  exact (beq_eq_false_iff_ne.mpr e).symm
theorem j6e(a b:Str):decide ((Sum.inr a:Key)=Sum.inr b)=decide (a=b):=by
 by_cases e:a=b
 ·subst e; simp
 ·have h:¬ (Sum.inr a:Key)=Sum.inr b:=fun q=>e (Sum.inr.inj q)
  rw [decide_eq_false h,decide_eq_false e]
theorem j6f(a:Int)(b:Str):decide ((Sum.inl a:Key)=Sum.inr b)=false:=decide_eq_false (fun q=>nomatch q)
theorem j6g(a:Str)(b:Int):decide ((Sum.inr a:Key)=Sum.inl b)=false:=decide_eq_false (fun q=>nomatch q)
noncomputable def i3c(prog:Program)(w:World):PySem.KeyKind prog w Key where
 is:=j6c
 hash:=keyH w
 inj:=fun v a b ha hb=>by
  rcases a9u ha with ⟨i,t,rfl,rfl⟩ | ⟨x,t,rfl,rfl⟩
  ·rcases a9u hb with ⟨j,u,rfl,e⟩ | ⟨y,u,rfl,e⟩
   ·injection e with e1 _; rw [e1]
   ·exact nomatch e
  ·rcases a9u hb with ⟨j,u,rfl,e⟩ | ⟨y,u,rfl,e⟩
   ·exact nomatch e
   ·injection e with e1 _; rw [e1]
 byValue:=fun k v h=>by
  rcases a9u h with ⟨i,t,rfl,rfl⟩ | ⟨x,t,rfl,rfl⟩ <;> rfl
 pyHash:=fun hv h=>by
  rcases a9u hv with ⟨i,t,rfl,rfl⟩ | ⟨x,t,rfl,rfl⟩
  ·exact wpAny_pyHash_int h
  ·exact wpAny_pyHash_str h
 eqBool:=fun hu hv h=>by
  rcases a9u hu with ⟨i,t,rfl,rfl⟩ | ⟨x,t,rfl,rfl⟩
  ·rcases a9u hv with ⟨j,u,rfl,rfl⟩ | ⟨y,u,rfl,rfl⟩
   ·rw [j6d] at h; exact wpAny_eqBool_int h
   ·rw [j6f] at h; exact SeqAt.EqAt.int_str i t y u _ _ _ _ h
  ·rcases a9u hv with ⟨j,u,rfl,rfl⟩ | ⟨y,u,rfl,rfl⟩
   ·rw [j6g] at h; exact SeqAt.EqAt.str_int x t j u _ _ _ _ h
   ·rw [j6e] at h; exact wpAny_eqBool_str h
 «strs» := fun k x t v h => by
  rcases a9u h with ⟨i,u,rfl,e⟩ | ⟨y,u,rfl,e⟩
  ·exact nomatch e
  ·injection e with e1 _
   subst e1
   cases v <;> rfl
end L2
namespace L2
open PySem PySem.Spec PyProof.Rows
inductive V where
 | non | bl (b:Bool) | int (i:Int) | str (x:Str) | byt (b:Array UInt8) | flt (b:UInt64) | ref (a:Addr) | ty (n:String)
 deriving DecidableEq
noncomputable def RelV:V->Value->Prop
 | .non,u=>u=Value.none
 | .bl b,u=>u=Value.bool b
 | .int i,u=>∃ t,u=Value.int i t
 | .str x,u=>∃ t,u=Value.str x t
 | .byt b,u=>∃ t,u=Value.bytes b t
 | .flt b,u=>∃ t,u=Value.float b t
 | .ref a,u=>u=Value.ref a
 | .ty n,u=>u=Value.type n
noncomputable abbrev Vals:List V->List Value->Prop:=Paired RelV
theorem Vals.length{xs:List V}{us:List Value}(r:Vals xs us):xs.length=us.length:=Paired.length r
theorem Vals.get:∀ {xs:List V} {us:List Value} {i:Nat} {x:V},Vals xs us->xs[i]? = some x->∃ u,us[i]? = some u/\RelV x u
 | _,_,_,_,.nil,e=>by simp at e
 | _,_,0,_,.cons r _,e=>by simp at e; subst e; exact⟨_,rfl,r⟩
 | _,_,i+1,x,.cons _ t,e=>by
  obtain⟨u,h1,h2⟩:=Vals.get (i:=i) (x:=x) t (by simpa using e)
  exact⟨u,by simpa using h1,h2⟩
theorem Vals.set{x:V}{u:Value}(r:RelV x u):∀ {xs:List V} {us:List Value} (i:Nat),Vals xs us->Vals (xs.set i x) (us.set i u)
 | _,_,_,.nil=>.nil
 | _,_,0,.cons _ t=>.cons r t
 | _,_,i+1,.cons q t=>.cons q (Vals.set r i t)
theorem Vals.append:∀ {xs ys:List V} {us ws:List Value},Vals xs us->Vals ys ws->Vals (xs++ys) (us++ws)
 | _,_,_,_,.nil,s=>s
 | _,_,_,_,.cons r t,s=>.cons r (Vals.append t s)
theorem Vals.take:∀ {xs:List V} {us:List Value} (n:Nat),Vals xs us->Vals (xs.take n) (us.take n)
 | _,_,0,_=>.nil
 | _,_,_+1,.nil=>.nil
 | _,_,n+1,.cons r t=>.cons r (Vals.take n t)
theorem Vals.drop:∀ {xs:List V} {us:List Value} (n:Nat),Vals xs us->Vals (xs.drop n) (us.drop n)
 | _,_,0,r=>r
 | _,_,_+1,.nil=>.nil
 | _,_,n+1,.cons _ t=>Vals.drop n t
noncomputable def i2u:Option V->Option Value->Prop
 | some v,some u=>RelV v u
 | none,none=>True
 | _,_=>False
noncomputable def KV{κ:Type}:List (κ×V)->List (κ×Value)->Prop:=Paired fun (p:κ×V) (q:κ×Value)=>p.1=q.1/\RelV p.2 q.2
noncomputable def kV:Key->V
 | .inl i=>.int i
 | .inr x=>.str x
inductive HO where
  | lst (xs:List V)
  | tup (xs:List V)
  | dK (kvs:List (Key×V)) | dT (kvs:List (List Key×V))
  | set (S:Int->Bool) (n:Nat)
  | ins (C dx:Addr) (fs:List (Str×V))
  | own (x:Addr)
  | xd (fs:List (Str×V))
  | met (f x:Addr)
  | rng (lo hi:Int)
  | frz (o:Obj) (u:HO)
  | tbl (ps:Array Value)
  | ext (φ:Heap->Prop)
noncomputable abbrev Hp:=Addr->Option HO
noncomputable def upd(H:Hp)(a:Addr)(o:HO):Hp:=fun b=>if b=a then some o else H b
theorem a6s{H:Hp}{a:Addr}{o:HO}:upd H a o a=some o:=by unfold upd; rw [if_pos rfl]
theorem a6l{H:Hp}{a b:Addr}{o:HO}(h:b≠a):upd H a o b=H b:=by unfold upd; rw [if_neg h]
theorem a7u{H:Hp}{a b:Addr}{o:HO}(h:H a=some o)(h':H b=none):a≠b:=by
 intro e; subst e; rw [h] at h'; cases h'
section
variable (P:Program)(w:World)
noncomputable def c4u(H:Hp)(h:Heap)(a:Addr):HO->Prop
 | .lst xs => xs.length ≤ sizeLine ∧ ∃ (its : List Value) (n : Nat), Vals xs its ∧ h.get? a = some { cls := .type "list", data := .seq its.toArray n }
 | .tup xs=>xs.length<=sizeLine/\∃ its:List Value,Vals xs its/\IsTup h a its.toArray
 | .dK kvs=>kvs.length<=sizeLine/\(a == sysModules)=false/\∃ vs,KV kvs vs/\h.DictOf (i3c P w) a vs
 | .dT kvs=>kvs.length<=sizeLine/\(a == sysModules)=false/\∃ xs:List (List Key×Addr×Value),
   Paired (fun (p:List Key×V) (q:List Key×Addr×Value)=>p.1=q.1/\H q.2.1=some (.tup (p.1.map kV))/\RelV p.2 q.2.2) kvs xs /\
   ∃ o es ep,h.get? a=some o/\o.ExactDict/\o.data = .dict es ep/\es.toList=xs.map (entryOfKey (tupleKind (i3c P w)))/\(xs.map (·.1)).Nodup
 | .set S n=>h.SetOf (intKind P w) a S n
 | .ins C dx fs=>H dx=some (.own a)/\fs.length<=1000/\dx≠a/\h.get? a=some (PySem.W.instObj C dx) /\
   ∃ mA,h.Ns1 dx mA/\(∀ f,i2u (fs.lookup f) (mA f))/\PySem.Within mA (fs.map (·.1))
 | .own _=>∃ o,h.get? a=some o
 | .xd fs=>∃ mA,h.Ns1 a mA/\∀ f,i2u (fs.lookup f) (mA f)
 | .rng lo hi => ∃ t u v, h.get? a = some { cls := .type "range", data := .fields #[.int lo t, .int hi u, .int 1 v] }
 | .frz o u=>h.get? a=some o/\c4u H h a u
 | .tbl ps=>h.get? a=some { cls:=.none,data:=.fields ps }
 | .met f x=>h.get? a=some (PySem.W.methodObj (.ref f) (.ref x))
 | .ext φ=>φ h/\(∃ o,h.get? a=some o)/\∀ h1 h2:Heap,φ h1->(∀ o,h1.get? a=some o->h2.get? a=some o)->φ h2
def HOk(H:Hp)(h:Heap):Prop:=∀ a o,H a=some o->c4u P w H h a o
end
section
variable {P:Program}{w:World}{H H':Hp}{h h':Heap}{a:Addr}{o:HO}
theorem c4u.lt(x:c4u P w H h a o):a < h.objs.size:=by
 cases o with
 | lst xs=>obtain⟨_,_,_,_,e⟩:=x; exact Heap.lt_size e
 | tup xs=>obtain⟨_,_,_,p⟩:=x; exact p.lt
 | dK kvs=>obtain⟨_,_,_,_,o,_,_,e,_⟩:=x; exact Heap.lt_size e
 | dT kvs=>obtain⟨_,_,_,_,o,_,_,e,_⟩:=x; exact Heap.lt_size e
 | set S n=>obtain⟨o,_,_,_,e,_⟩:=x; exact Heap.lt_size e
 | ins C dx fs=>obtain⟨_,_,_,e,_⟩:=x; exact Heap.lt_size e
 | own y=>obtain⟨_,e⟩:=x; exact Heap.lt_size e
 | xd fs=>obtain⟨_,⟨_,_,_,e,_⟩,_⟩:=x; exact Heap.lt_size e
 | rng lo hi=>obtain⟨_,_,_,e⟩:=x; exact Heap.lt_size e
 | frz ob u=>obtain⟨e,_⟩:=x; exact Heap.lt_size e
 | tbl ps=>exact Heap.lt_size (show h.get? a=some _ from x)
 | met f y=>exact Heap.lt_size (show h.get? a=some _ from x)
 | ext φ=>obtain⟨_,⟨_,e⟩,_⟩:=x; exact Heap.lt_size e
theorem Paired.k4o{α β:Type}{F G:α->β->Prop}:∀ {l₁:List α} {l₂:List β},Paired F l₁ l₂->(∀ a b,F a b->G a b)->Paired G l₁ l₂
 | _,_,.nil,_=>.nil
 | _,_,.cons r t,f=>.cons (f _ _ r) (Paired.k4o t f)
theorem c4u.stay(x:c4u P w H h a o)(k:∀ b u,(b=a\/H b=some (.own a))->h.get? b=some u->h'.get? b=some u)
  (ho:∀ b,H b=some (.own a)->H' b=some (.own a)) (ht:∀ b xs,H b=some (.tup xs)->H' b=some (.tup xs)):c4u P w H' h' a o:=by
 induction o with
 | lst xs=>obtain⟨z,its,n,r,e⟩:=x; exact⟨z,its,n,r,k _ _ (.inl rfl) e⟩
 | tup xs=>obtain⟨z,its,r,ob,e,c⟩:=x; exact⟨z,its,r,ob,k _ _ (.inl rfl) e,c⟩
 | dK kvs=>obtain⟨z,y,vs,r,ob,es,ep,e,c⟩:=x; exact⟨z,y,vs,r,ob,es,ep,k _ _ (.inl rfl) e,c⟩
 | dT kvs =>
  obtain⟨z,y,xs,r,ob,es,ep,e,c⟩:=x
  exact⟨z,y,xs,Paired.k4o r fun p q z=>⟨z.1,ht _ _ z.2.1,z.2.2⟩,ob,es,ep,k _ _ (.inl rfl) e,c⟩
 | set S n=>obtain⟨ob,es,ep,t,e,c⟩:=x; exact⟨ob,es,ep,t,k _ _ (.inl rfl) e,c⟩
 | ins C dx fs =>
  obtain⟨d,z,ne,e,mA,⟨od,es,ep,e2,c⟩,r⟩:=x
  exact⟨ho _ d,z,ne,k _ _ (.inl rfl) e,mA,⟨od,es,ep,k _ _ (.inr d) e2,c⟩,r⟩
 | own y=>obtain⟨ob,e⟩:=x; exact⟨ob,k _ _ (.inl rfl) e⟩
 | xd fs=>obtain⟨mA,⟨od,es,ep,e,c⟩,r⟩:=x; exact⟨mA,⟨od,es,ep,k _ _ (.inl rfl) e,c⟩,r⟩
 | rng lo hi=>obtain⟨t,u,v,e⟩:=x; exact⟨t,u,v,k _ _ (.inl rfl) e⟩
 | frz ob u ih=>obtain⟨e,q⟩:=x; exact⟨k _ _ (.inl rfl) e,ih q⟩
 | tbl ps =>
  have e:h.get? a=some { cls:=.none,data:=.fields ps }:=x
  show h'.get? a=some { cls:=.none,data:=.fields ps }
  exact k a _ (.inl rfl) e
 | met f y =>
  have e:h.get? a=some (PySem.W.methodObj (.ref f) (.ref y)):=x
  show h'.get? a=some (PySem.W.methodObj (.ref f) (.ref y))
  exact k a _ (.inl rfl) e
 | ext φ=>obtain⟨p,⟨o,e⟩,st⟩:=x; exact⟨st _ _ p fun o q=>k _ _ (.inl rfl) q,⟨o,k _ _ (.inl rfl) e⟩,st⟩
theorem HOk.lt(x:HOk P w H h)(e:H a=some o):a < h.objs.size:=(x a o e).lt
theorem HOk.fresh(x:HOk P w H h)(e:h.objs.size<=a):H a=none:=by
 cases q:H a with
 | none=>rfl
 | some u=>exact absurd (Nat.lt_of_lt_of_le (x.lt q) e) (Nat.lt_irrefl _)
theorem HOk.kept(x:HOk P w H h)(k:∀ b u,h.get? b=some u->h'.get? b=some u):HOk P w H h':=fun a o e =>
 (x a o e).stay (fun b u _ q=>k b u q) (fun _ q=>q) fun _ _ q=>q
theorem HOk.laid(x:HOk P w H h)(k:∀ b u,h.get? b=some u->h'.get? b=some u)(hp:h.objs.size<=a)(new:c4u P w (upd H a o) h' a o):HOk P w (upd H a o) h':=fun b u e=>by
 have hn:=x.fresh hp
 by_cases hb:b=a
 ·subst hb; rw [a6s] at e; cases e; exact new
 ·rw [a6l hb] at e
  exact (x b u e).stay (fun c v _ q=>k c v q) (fun c q=>by rw [a6l (a7u q hn)]; exact q) fun c xs q=>by rw [a6l (a7u q hn)]; exact q
end
def Rd(H:Hp)(a:Addr)(u:HO):Prop:=H a=some u\/∃ o,H a=some (.frz o u)
theorem Rd.ok{P:Program}{w:World}{H:Hp}{h:Heap}{a:Addr}{u:HO}(r:Rd H a u)(x:HOk P w H h):c4u P w H h a u:=by
 rcases r with r | ⟨o,r⟩
 ·exact x a u r
 ·obtain⟨_,q⟩:=x a _ r
  exact q
noncomputable def Mut:Option HO->Prop
 | some (.lst _)=>True
 | some (.dK _)=>True
 | some (.dT _)=>True
 | some (.set _ _)=>True
 | some (.ins _ _ _)=>True
 | some (.ext _)=>True
 | _=>False
section
variable {P:Program}{w:World}{H:Hp}{h h':Heap}{x e:Addr}{o':HO}
theorem HOk.write(ok:HOk P w H h)(mu:Mut (H x))(he:e=x\/H e=some (.own x))(k:∀ b u,b≠e->h.get? b=some u->h'.get? b=some u)(heo:∃ u,h'.get? e=some u)
  (new:c4u P w (upd H x o') h' x o'):HOk P w (upd H x o') h':=fun b u q=>by
 have k4p:∀ c y,H c=some (.own y)->c≠x:=fun c y r z=>by subst z; rw [r] at mu; exact mu
 have ntup:∀ c xs,H c=some (.tup xs)->c≠x:=fun c xs r z=>by subst z; rw [r] at mu; exact mu
 by_cases hb:b=x
 ·subst hb; rw [a6s] at q; cases q; exact new
 ·rw [a6l hb] at q
  by_cases hbe:b=e
  ·have q':H b=some (.own x):=by
    rcases he with z | z
    ·exact absurd (hbe.trans z) hb
    ·rw [hbe]; exact z
   rw [q] at q'; cases q'
   obtain⟨v,hv⟩:=heo
   exact⟨v,by rw [hbe]; exact hv⟩
  ·refine (ok b u q).stay (fun c v hc r=>k c v ?_ r) (fun c r=>by rw [a6l (k4p c b r)]; exact r) fun c xs r=>by rw [a6l (ntup c xs r)]; exact r
   rcases hc with rfl | hc
   ·exact hbe
   ·rintro rfl
    rcases he with z | z
    ·exact k4p c b hc z
    ·rw [hc] at z; cases z; exact hb rfl
end
structure Un(fs ex:List Addr)(H H':Hp)(h h':Heap):Prop where
 keep:∀ b o,h.get? b=some o->H b=none->b∉fs->b∉ex->h'.get? b=some o
 slot:∀ b o,h.get? b=some o->H b=none->b∈fs->b∉ex->∃ sl,h'.get? b=some { o with slots:=sl }
 free:∀ b o,h.get? b=some o->H b=none->b∉ex->H' b=none
 there:∀ b o,h.get? b=some o->b∉ex->∃ o',h'.get? b=some o'
 tups:∀ b xs,H b=some (.tup xs)->H' b=some (.tup xs)
 h1o:∀ b o u,H b=some (.frz o u)->H' b=some (.frz o u)
 h1s:∀ b ps,H b=some (.tbl ps)->∃ more,H' b=some (.tbl (ps++more))
section
variable {fs fs' ex ex':List Addr}{H H1 H2:Hp}{h h1 h2 h':Heap}{a x e:Addr}{o:HO}
theorem Un.any(u:Un fs ex H H1 h h1){b:Addr}{ob:Obj}(q:h.get? b=some ob)(n:H b=none)(hx:b∉ex):∃ sl,h1.get? b=some { ob with slots:=sl }:=by
 by_cases hb:b∈fs
 ·exact u.slot b ob q n hb hx
 ·exact⟨ob.slots,u.keep b ob q n hb hx⟩
theorem Un.trans(a:Un fs ex H H1 h h1)(b:Un fs ex H1 H2 h1 h2):Un fs ex H H2 h h2 where
 keep:=fun c ob q n hc hx=>b.keep c ob (a.keep c ob q n hc hx) (a.free c ob q n hx) hc hx
 slot:=fun c ob q n hc hx=>by
  obtain⟨sl,e1⟩:=a.slot c ob q n hc hx
  obtain⟨sl',e2⟩:=b.slot c _ e1 (a.free c ob q n hx) hc hx
  exact⟨sl',e2⟩
 free:=fun c ob q n hx=>by
  obtain⟨o',e1⟩:=a.there c ob q hx
  exact b.free c o' e1 (a.free c ob q n hx) hx
 there:=fun c ob q hx=>by
  obtain⟨o',e1⟩:=a.there c ob q hx
  exact b.there c o' e1 hx
 tups:=fun c xs q=>b.tups c xs (a.tups c xs q)
 h1o:=fun c ob xs q=>b.h1o c ob xs (a.h1o c ob xs q)
 h1s:=fun c ps q=>by
  obtain⟨m1,e1⟩:=a.h1s c ps q
  obtain⟨m2,e2⟩:=b.h1s c _ e1
  exact⟨m1++m2,by rw [e2,Array.append_assoc]⟩
theorem Un.kept(k:∀ b u,h.get? b=some u->h'.get? b=some u):Un fs ex H H h h' :=
 ⟨fun b ob q _ _ _=>k b ob q,fun b ob q _ _ _=>⟨ob.slots,k b ob q⟩,fun _ _ _ n _=>n,fun b ob q _=>⟨ob,k b ob q⟩,fun _ _ q=>q,fun _ _ _ q=>q,fun _ ps q=>⟨#[],by rw [q]; simp⟩⟩
theorem Un.refl:Un fs ex H H h h:=Un.kept fun _ _ q=>q
theorem Un.laid(k:∀ b u,h.get? b=some u->h'.get? b=some u)(hp:h.objs.size<=a)(hn:H a=none):Un fs ex H (upd H a o) h h' where
 keep:=fun b u q _ _ _=>k b u q
 slot:=fun b u q _ _ _=>⟨u.slots,k b u q⟩
 free:=fun b u q n _=>by rw [a6l (Nat.ne_of_lt (Nat.lt_of_lt_of_le (Heap.lt_size q) hp))]; exact n
 there:=fun b u q _=>⟨u,k b u q⟩
 tups:=fun b xs q=>by rw [a6l (a7u q hn)]; exact q
 h1o:=fun b u xs q=>by rw [a6l (a7u q hn)]; exact q
 h1s:=fun b ps q=>⟨#[],by rw [a6l (a7u q hn),q]; simp⟩
theorem Un.write(mu:Mut (H x))(he:e=x\/H e=some (.own x))(k:∀ b u,b≠e->h.get? b=some u->h'.get? b=some u)(heo:∃ u,h'.get? e=some u):Un fs ex H (upd H x o) h h':=by
 have hx:∀ b,H b=none->b≠x:=fun b n z=>by subst z; rw [n] at mu; exact mu
 have hb:∀ b,H b=none->b≠e:=fun b n z=>by
  subst z
  rcases he with r | r
  ·exact hx b n r
  ·rw [n] at r; cases r
 have hm:∀ b u,H b=some u->¬ Mut (some u)->b≠x:=fun b u q nm z=>by subst z; rw [q] at mu; exact nm mu
 refine⟨fun b u q n _ _=>k b u (hb b n) q,fun b u q n _ _=>⟨u.slots,k b u (hb b n) q⟩,fun b u q n _=>by rw [a6l (hx b n)]; exact n,fun b u q _=>?_,
  fun b xs q=>by rw [a6l (hm b _ q fun z=>z)]; exact q,fun b u xs q=>by rw [a6l (hm b _ q fun z=>z)]; exact q,fun b ps q=>⟨#[],by rw [a6l (hm b _ q fun z=>z),q]; simp⟩⟩
 by_cases hbe:b=e
 ·subst hbe; exact heo
 ·exact⟨u,k b u hbe q⟩
end
noncomputable def trk(h:Heap)(H:Hp):List Addr:=(List.range h.objs.size).filter fun a=>(H a).isSome
noncomputable def i7q(h:Heap)(H:Hp):Heap:=PySem.W.hideAll h (trk h H)
theorem i3d(h:Heap)(H:Hp):(i7q h H).objs.size=h.objs.size:=PySem.W.hideAll_size _ _
theorem i7r{h:Heap}{H:Hp}{b:Addr}{o:Obj}(e:h.get? b=some o)(n:H b=none):(i7q h H).get? b=some o :=
 PySem.W.hideAll_get _ e fun hm=>by
  have q:(H b).isSome=true:=(List.mem_filter.mp hm).2
  rw [n] at q; simp at q
theorem j2n{h:Heap}{H:Hp}{b:Addr}{o:Obj}(e:(i7q h H).get? b=some o):h.get? b=some o/\H b=none:=by
 have e':h.get? b=some o:=PySem.W.of_hideAll (trk h H) e
 refine⟨e',?_⟩
 cases q:H b with
 | none=>rfl
 | some x =>
  have hm:b∈trk h H:=List.mem_filter.mpr ⟨List.mem_range.mpr (Heap.lt_size e'),by simp [q]⟩
  have z:(i7q h H).get? b=none:=PySem.W.hideAll_none (trk h H) hm
  rw [z] at e; cases e
noncomputable def j2o(g h:Heap)(L:Addr):List (Addr×Obj):=(List.range h.objs.size).filterMap fun a=>if a=L\/(g.get? a).isSome=true then none else (h.get? a).map fun o=>(a,o)
noncomputable def rest(g h:Heap)(L d:Addr):List (Addr×Obj):=(j2o g h L).filter fun p=>decide (p.1≠d)
end L2
namespace L2
open PySem PySem.Spec PyProof.Rows
structure Mod(K:PySem.W.Frag)(mg:Str->Option Value)(base:Heap):Prop where
 kin:K.In base
 glob:base.Ns mainGlobals mg
 blt : ∃ mb, base.Ns builtinsNs mb ∧ ∀ x : Str, x ≠ "__name__" → mb x = bootBuiltins x
 nolimit:base.NoLimit
structure Cx where
 prog:Program
 w:World
 K:PySem.W.Frag
 mg:Str->Option Value
 base:Heap
 A:Around
 N:List Str
 s₀:Shared
 H₀:Hp
 env:Env
 outer:List Env
 stack:List Env
 ex:List Addr
 fn:Str->Bool
 calm:Bool
 pn:List (Addr×Obj)
 xe:Value->Shared->Prop
noncomputable def frs(l:List Env):List Addr:=l.filterMap (·.frame)
noncomputable abbrev Cx.fs(X:Cx):List Addr:=frs X.outer
def Vis(sc:Scope)(x:Str):Prop:=sc.names.lookup x=some .local\/sc.names.lookup x=some .cell\/sc.names.lookup x=some .free
def Loc(sc:Scope)(x:Str):Prop:=sc.names.lookup x=some .local\/sc.names.lookup x=some .cell
def Look(env:Env)(h:Heap)(m:Str->Option Value)(x:Str)(u:Value):Prop :=
 (env.kindOf x=some .local/\m x=some u)\/((env.kindOf x=some .cell\/env.kindOf x=some .free)/\∃ c,env.cells.lookup x=some c/\h.IsCell c (some u))
structure Cx.Ok(X:Cx):Prop where
 mod:Mod X.K X.mg X.base
 kind:X.env.scope.kind = .function
 glob:X.env.globals=mainGlobals
 blt:X.env.builtins=builtinsNs
 above:X.s₀.heap.objs.size<=X.env.locals
 inj:∀ x y c,X.env.cells.lookup x=some c->X.env.cells.lookup y=some c->x=y
 has:∀ x,(X.env.kindOf x=some .cell\/X.env.kindOf x=some .free)->∃ c,X.env.cells.lookup x=some c
 cab:∀ x c,X.fn x=true->X.env.cells.lookup x=some c->X.s₀.heap.objs.size<=c
 hd:X.calm=true->X.A.handled=none
 frames:X.A.frames=some X.stack
 stk:X.stack=X.outer\/(X.stack=X.env :: X.outer/\X.env.frame=some X.env.locals)
 exf:∀ b∈X.ex,b≠X.env.locals/\∀ x c,X.env.cells.lookup x=some c->c≠b
 bs:∀ b o,X.base.get? b=some o->X.s₀.heap.get? b=some o/\X.H₀ b=none
 bsz:X.base.objs.size<=X.s₀.heap.objs.size
 j2p:∀ b o,X.base.get? b=some o->b∉X.ex
 j6h:∀ b∈X.ex,b∉X.fs
 i0g:X.s₀.heap.FunFrames X.base X.outer
 frf:∀ b∈X.fs,X.H₀ b=none
structure Inv(X:Cx)(pins:List (Addr×Obj))(σ:List (Option V))(H:Hp)(s:Shared):Prop where
 ok:X.Ok
 os:s.os=X.s₀.os
 bare:AllBare s.gens
 base:Un X.fs X.ex X.H₀ H X.s₀.heap s.heap
 loc:∃ m,s.heap.Ns X.env.locals m/\∀ (i:Nat) (x:Str) (v:V),X.N[i]? = some x->σ[i]? = some (some v)->Vis X.env.scope x->∃ u,RelV v u/\Look X.env s.heap m x u
 cell:∀ x c,X.env.cells.lookup x=some c->∃ v,s.heap.IsCell c v
 free:H X.env.locals=none
 f1o:∀ x c,X.env.cells.lookup x=some c->H c=none
 pin:∀ p∈X.pn++pins,s.heap.get? p.1=some p.2/\H p.1=none/\p.1≠X.env.locals/\p.1∉X.fs/\∀ v,p.2.data≠.cell v
 hok:HOk X.prog X.w H s.heap
 len:σ.length=X.N.length
section
variable {X:Cx}{pins:List (Addr×Obj)}{σ:List (Option V)}{H H':Hp}{s:Shared}{h':Heap}
theorem Cx.Ok.nofr(ok:X.Ok){b:Addr}{o:Obj}(e:X.base.get? b=some o):b∉X.fs:=fun hb=>by
 have:=(ok.i0g.mem hb).1
 rw [e] at this; cases this
theorem Inv.bs(I:Inv X pins σ H s):∀ b o,X.base.get? b=some o->s.heap.get? b=some o/\H b=none:=fun b o e =>
 ⟨I.base.keep b o (I.ok.bs b o e).1 (I.ok.bs b o e).2 (I.ok.nofr e) (I.ok.j2p b o e),I.base.free b o (I.ok.bs b o e).1 (I.ok.bs b o e).2 (I.ok.j2p b o e)⟩
theorem Inv.bk(I:Inv X pins σ H s):∀ b o,X.base.get? b=some o->s.heap.get? b=some o:=fun b o e=>(I.bs b o e).1
theorem Inv.mod(I:Inv X pins σ H s):Mod X.K X.mg X.base:=I.ok.mod
theorem Inv.kIn(I:Inv X pins σ H s):X.K.In s.heap:=I.ok.mod.kin.keeps I.bk
theorem Inv.lt(I:Inv X pins σ H s):X.env.locals < s.heap.objs.size:=let ⟨_,hn,_⟩:=I.loc; hn.lt
theorem Inv.sz(I:Inv X pins σ H s):X.s₀.heap.objs.size<=s.heap.objs.size:=Nat.le_trans I.ok.above (Nat.le_of_lt I.lt)
theorem Inv.nofs(I:Inv X pins σ H s){a:Addr}(h:s.heap.objs.size<=a):a∉X.fs:=fun hb=>by
 obtain⟨_,o,ho,_⟩:=I.ok.i0g.mem hb
 exact absurd (Nat.lt_of_lt_of_le (Heap.lt_size ho) (Nat.le_trans I.sz h)) (Nat.lt_irrefl _)
theorem Inv.cne(I:Inv X pins σ H s):∀ x c,X.env.cells.lookup x=some c->c≠X.env.locals:=fun x c e z=>by
 obtain⟨v,o,ho,hd⟩:=I.cell x c e
 obtain⟨m,⟨o',es,ep,ho',hd',_⟩,_⟩:=I.loc
 rw [z,ho'] at ho; cases ho; rw [hd'] at hd; cases hd
theorem Inv.i0g(I:Inv X pins σ H s):s.heap.FunFrames X.base X.outer:=by
 have all:∀ (l:List Env),(∀ b∈frs l,b∈X.fs)->X.s₀.heap.FunFrames X.base l->s.heap.FunFrames X.base l:=by
  intro l
  induction l with
  | nil=>intro _ _; trivial
  | cons env r ih =>
   intro hs hl
   obtain⟨hk,⟨L,o,hf,hn,ho,hd⟩,hr⟩:=hl
   have hL:L∈X.fs:=hs L (by unfold frs; rw [List.filterMap_cons,hf]; exact List.mem_cons_self)
   obtain⟨sl,e⟩:=I.base.slot L o ho (I.ok.frf L hL) hL fun z=>I.ok.j6h L z hL
   exact⟨hk,⟨L,_,hf,hn,e,hd⟩,ih (fun b hb=>hs b (by unfold frs; rw [List.filterMap_cons,hf]; exact List.mem_cons_of_mem _ hb)) hr⟩
 exact all X.outer (fun _ hb=>hb) I.ok.i0g
theorem Inv.stack(I:Inv X pins σ H s):s.heap.FunFrames X.base X.stack:=by
 rcases I.ok.stk with e | ⟨e,hf⟩
 ·rw [e]; exact I.i0g
 ·rw [e]
  obtain⟨m,hn,_⟩:=I.loc
  refine .cons (by rw [I.ok.kind]; decide) hf hn ?_ I.i0g
  exact Heap.get?_none_of_le (Nat.le_trans I.ok.bsz I.ok.above)
theorem Inv.g1k(I:Inv X pins σ H s):∀ b∈frs X.stack,b∈X.env.locals :: X.fs:=fun b hb=>by
 rcases I.ok.stk with e | ⟨e,hf⟩
 ·rw [e] at hb; exact List.mem_cons_of_mem _ hb
 ·rw [e] at hb
  unfold frs at hb
  rw [List.filterMap_cons,hf] at hb
  exact hb
theorem Inv.g7w(I:Inv X pins σ H s):∀ b∈frs X.stack,H b=none:=fun b hb=>by
 rcases List.mem_cons.mp (I.g1k b hb) with e | hb
 ·rw [e]; exact I.free
 ·obtain⟨_,o,ho,_⟩:=I.ok.i0g.mem hb
  exact I.base.free b o ho (I.ok.frf b hb) fun z=>I.ok.j6h b z hb
theorem Inv.step{g':Array GenState}{t':Nat}{d':Drawn}{ch:List Addr}(I:Inv X pins σ H s)
  (hch:∀ b∈ch,(b∈X.ex\/X.s₀.heap.objs.size<=b)/\b≠X.env.locals/\(∀ x c,X.env.cells.lookup x=some c->c≠b)/\∀ p∈X.pn++pins,p.1≠b)
  (keep:∀ b o,b≠X.env.locals->b∉X.fs->b∉ch->s.heap.get? b=some o->H b=none->h'.get? b=some o)
  (slot:∀ b o,b≠X.env.locals->b∈X.fs->b∉ch->s.heap.get? b=some o->H b=none->∃ sl,h'.get? b=some { o with slots:=sl }) (free:∀ b o,b∉ch->s.heap.get? b=some o->H b=none->H' b=none)
  (there:∀ b o,b∉ch->s.heap.get? b=some o->∃ o',h'.get? b=some o')
  (tups:∀ b xs,H b=some (.tup xs)->H' b=some (.tup xs)) (h1o:∀ b o u,H b=some (.frz o u)->H' b=some (.frz o u)) (h1s:∀ b ps,H b=some (.tbl ps)->∃ more,H' b=some (.tbl (ps++more)))
  (ns:∀ m,s.heap.Ns X.env.locals m->h'.Ns X.env.locals m) (hok:HOk X.prog X.w H' h') (hg:AllBare g') :
  Inv X pins σ H' { s with heap:=h',gens:=g',drawn:=d',toks:=t' }:=by
 have neL:∀ b o,X.s₀.heap.get? b=some o->b≠X.env.locals:=fun b o e=>Nat.ne_of_lt (Nat.lt_of_lt_of_le (Heap.lt_size e) I.ok.above)
 have neC:∀ b o,X.s₀.heap.get? b=some o->b∉X.ex->b∉ch:=fun b o e hx hb=>by
  rcases (hch b hb).1 with z | z
  ·exact hx z
  ·exact absurd (Nat.lt_of_lt_of_le (Heap.lt_size e) z) (Nat.lt_irrefl _)
 have cellK:∀ x c,X.env.cells.lookup x=some c->∀ v,s.heap.IsCell c v->h'.IsCell c v:=fun x c e v ⟨o,ho,hd⟩=>by
  have nch:c∉ch:=fun z=>(hch c z).2.2.1 x c e rfl
  by_cases hc:c∈X.fs
  ·obtain⟨sl,q⟩:=slot c o (I.cne x c e) hc nch ho (I.f1o x c e)
   exact⟨_,q,hd⟩
  ·exact⟨o,keep c o (I.cne x c e) hc nch ho (I.f1o x c e),hd⟩
 refine⟨I.ok,I.os,hg,⟨fun b o e n hb hx=>?_,fun b o e n hb hx=>?_,fun b o e n hx=>?_,fun b o e hx=>?_,fun b xs e=>tups b xs (I.base.tups b xs e),fun b o xs e=>h1o b o xs (I.base.h1o b o xs e),fun b ps e=>?_⟩,?_,fun x c e=>?_,?_,fun x c e=>?_,fun p hp=>?_,hok,I.len⟩
 ·exact keep b o (neL b o e) hb (neC b o e hx) (I.base.keep b o e n hb hx) (I.base.free b o e n hx)
 ·obtain⟨sl,e1⟩:=I.base.slot b o e n hb hx
  obtain⟨sl',e2⟩:=slot b _ (neL b o e) hb (neC b o e hx) e1 (I.base.free b o e n hx)
  exact⟨sl',e2⟩
 ·obtain⟨o',e1⟩:=I.base.there b o e hx
  exact free b o' (neC b o e hx) e1 (I.base.free b o e n hx)
 ·obtain⟨o',e1⟩:=I.base.there b o e hx
  exact there b o' (neC b o e hx) e1
 ·obtain⟨m1,e1⟩:=I.base.h1s b ps e
  obtain⟨m2,e2⟩:=h1s b _ e1
  exact⟨m1++m2,by rw [e2,Array.append_assoc]⟩
 ·obtain⟨m,hn,hl⟩:=I.loc
  refine⟨m,ns m hn,fun i x v e1 e2 e3=>?_⟩
  obtain⟨u,r,l⟩:=hl i x v e1 e2 e3
  refine⟨u,r,?_⟩
  rcases l with l | ⟨k,c,e,z⟩
  ·exact .inl l
  ·exact .inr ⟨k,c,e,cellK x c e _ z⟩
 ·obtain⟨v,z⟩:=I.cell x c e
  exact⟨v,cellK x c e v z⟩
 ·obtain⟨m,⟨o,_,_,ho,_⟩,_⟩:=I.loc
  exact free _ o (fun z=>(hch _ z).2.1 rfl) ho I.free
 ·obtain⟨v,o,ho,hd⟩:=I.cell x c e
  exact free c o (fun z=>(hch c z).2.2.1 x c e rfl) ho (I.f1o x c e)
 ·obtain⟨e,n,ne,nf,d⟩:=I.pin p hp
  have nch:p.1∉ch:=fun z=>(hch p.1 z).2.2.2 p hp rfl
  exact⟨keep p.1 p.2 ne nf nch e n,free p.1 p.2 nch e n,ne,nf,d⟩
theorem Inv.un{t':Nat}(I:Inv X pins σ H s)(u:Un X.fs [] H H' s.heap h')(hok:HOk X.prog X.w H' h'):Inv X pins σ H' { s with heap:=h',toks:=t' }:=by
 obtain⟨m,⟨o,es,ep,ho,r⟩,_⟩:=id I.loc
 obtain⟨sl,hL⟩:=u.any ho I.free (by simp)
 exact I.step (g':=s.gens) (d':=s.drawn) (ch:=[]) (fun _ z=>nomatch z) (fun b o _ hb _ e n=>u.keep b o e n hb (by simp)) (fun b o _ hb _ e n=>u.slot b o e n hb (by simp)) (fun b o _ e n=>u.free b o e n (by simp)) (fun b o _ e=>u.there b o e (by simp)) u.tups u.h1o u.h1s (fun m' hm=>by
  obtain⟨o',es',ep',ho',r'⟩:=hm
  rw [ho] at ho'; cases ho'
  exact⟨_,es',ep',hL,r'⟩) hok I.bare
theorem Inv.call{g':Array GenState}{t':Nat}{d':Drawn}{ch:List Addr}(I:Inv X pins σ H s)(u:Un (frs X.stack) ch H H' s.heap h')(hok:HOk X.prog X.w H' h')(hg:AllBare g')
  (hch:∀ b∈ch,(b∈X.ex\/X.s₀.heap.objs.size<=b)/\b≠X.env.locals/\(∀ x c,X.env.cells.lookup x=some c->c≠b)/\∀ p∈X.pn++pins,p.1≠b) :
  Inv X pins σ H' { s with heap:=h',gens:=g',drawn:=d',toks:=t' }:=by
 obtain⟨m,⟨o,es,ep,ho,r⟩,_⟩:=id I.loc
 obtain⟨sl,hL⟩:=u.any ho I.free fun z=>(hch _ z).2.1 rfl
 exact I.step (ch:=ch) hch (fun b o hL hb hc e n=>u.keep b o e n (fun z=>(List.mem_cons.mp (I.g1k b z)).elim hL hb) hc) (fun b o _ _ hc e n=>u.any e n hc) (fun b o hc e n=>u.free b o e n hc) (fun b o hc e=>u.there b o e hc) u.tups u.h1o u.h1s (fun m' hm=>by
  obtain⟨o',es',ep',ho',r'⟩:=hm
  rw [ho] at ho'; cases ho'
  exact⟨_,es',ep',hL,r'⟩) hok hg
theorem Inv.turned{t':Nat}{it:Addr}(I:Inv X pins σ H s)(k:∀ b o,b≠it->s.heap.get? b=some o->h'.get? b=some o)(hn:H it=none)(hL:it≠X.env.locals)
  (h1:it∈X.ex\/X.s₀.heap.objs.size<=it) (h2:∀ x c,X.env.cells.lookup x=some c->c≠it) (h3:∀ p∈X.pn++pins,p.1≠it):Inv X pins σ H { s with heap:=h',toks:=t' }:=by
 have nit:∀ b u,H b=some u->b≠it:=fun b u e z=>by rw [z,hn] at e; cases e
 refine I.step (g':=s.gens) (d':=s.drawn) (ch:=[it]) (fun b hb=>?_) (fun b o _ _ hc e _=>k b o (fun z=>hc (by simp [z])) e) (fun b o _ _ hc e _=>⟨o.slots,k b o (fun z=>hc (by simp [z])) e⟩) (fun _ _ _ _ n=>n)
  (fun b o hc e=>⟨o,k b o (fun z=>hc (by simp [z])) e⟩) (fun _ _ e=>e) (fun _ _ _ e=>e) (fun b ps e=>⟨#[],by rw [e]; simp⟩) (fun m hm=>?_) (fun b u e=>?_) I.bare
 ·have e:b=it:=by simpa using hb
  subst e
  exact⟨h1,hL,h2,h3⟩
 ·obtain⟨o,es,ep,ho,r⟩:=hm
  exact⟨o,es,ep,k _ o (Ne.symm hL) ho,r⟩
 ·refine (I.hok b u e).stay (fun c v hc q=>k c v ?_ q) (fun _ q=>q) fun _ _ q=>q
  rcases hc with z | z
  ·rw [z]; exact nit b u e
  ·exact nit c _ z
theorem Inv.tok(I:Inv X pins σ H s)(t:Nat):Inv X pins σ H { s with toks:=t }:=I.un (h':=s.heap) (t':=t) Un.refl I.hok
theorem Inv.kept{t':Nat}(I:Inv X pins σ H s)(k:∀ b u,s.heap.get? b=some u->h'.get? b=some u):Inv X pins σ H { s with heap:=h',toks:=t' }:=I.un (Un.kept k) (I.hok.kept k)
theorem Inv.laid{a:Addr}{o:HO}{t':Nat}(I:Inv X pins σ H s)(k:∀ b u,s.heap.get? b=some u->h'.get? b=some u)(hp:s.heap.objs.size<=a)(new:c4u X.prog X.w (upd H a o) h' a o) :
  Inv X pins σ (upd H a o) { s with heap:=h',toks:=t' }:=I.un (Un.laid k hp (I.hok.fresh hp)) (I.hok.laid k hp new)
theorem Inv.write{x e:Addr}{o:HO}{t':Nat}(I:Inv X pins σ H s)(mu:Mut (H x))(he:e=x\/H e=some (.own x))(k:∀ b u,b≠e->s.heap.get? b=some u->h'.get? b=some u)(heo:∃ u,h'.get? e=some u)
  (new:c4u X.prog X.w (upd H x o) h' x o):Inv X pins σ (upd H x o) { s with heap:=h',toks:=t' }:=I.un (Un.write mu he k heo) (I.hok.write mu he k heo new)
theorem Inv.weak{σ':List (Option V)}(I:Inv X pins σ H s)(hl:σ'.length=σ.length)(w:∀ (i:Nat) v,σ'[i]? = some (some v)->σ[i]? = some (some v)):Inv X pins σ' H s :=
 ⟨I.ok,I.os,I.bare,I.base,let ⟨m,hn,hl'⟩:=I.loc; ⟨m,hn,fun i x v e1 e2 e3=>hl' i x v e1 (w i v e2) e3⟩,I.cell,I.free,I.f1o,I.pin,I.hok,hl.trans I.len⟩
theorem Inv.i3e{pins':List (Addr×Obj)}(I:Inv X pins σ H s)(h:∀ p∈pins',s.heap.get? p.1=some p.2/\H p.1=none/\p.1≠X.env.locals/\p.1∉X.fs/\∀ v,p.2.data≠.cell v):Inv X pins' σ H s :=
 ⟨I.ok,I.os,I.bare,I.base,I.loc,I.cell,I.free,I.f1o,fun p hp=>(List.mem_append.mp hp).elim (fun z=>I.pin p (List.mem_append_left _ z)) (h p),I.hok,I.len⟩
theorem g7x{N:List Str}(hN:N.Nodup){i j:Nat}{x:Str}(a:N[i]? = some x)(b:N[j]? = some x):i=j:=by
 obtain⟨h1,e1⟩:=List.getElem?_eq_some_iff.mp a
 obtain⟨h2,e2⟩:=List.getElem?_eq_some_iff.mp b
 exact (List.getElem_inj hN).mp (e1.trans e2.symm)
theorem g1l{M:Model}{A:Around}{E:Value->Shared->Prop}{i:Nat}{x:Str}{v:V}{u:Value}{Q:Unit->Shared->Prop}(I:Inv X pins σ H s)(hN:X.N.Nodup)(hi:X.N[i]? = some x)(hx:Loc X.env.scope x)(r:RelV v u)
  (h:∀ s',Inv X pins (σ.set i (some v)) H s'->(∃ a,Heap.SameBut a s.heap s'.heap/\(a=X.env.locals\/X.env.cells.lookup x=some a))->Q () s') (hf:X.fn x=true\/X.env.scope.names.lookup x=some .local:=by first | exact .inl rfl | exact .inr rfl | assumption):wpAny M A (storeName X.env x u) Q E s:=by
 obtain⟨m,hn,hl⟩:=id I.loc
 have hcls:(X.env.scope.kind == .class || (X.env.scope.kind == .module && X.env.locals != X.env.globals))=false:=by rw [I.ok.kind]; rfl
 have hiσ:i < σ.length:=by rw [I.len]; exact (List.getElem?_eq_some_iff.mp hi).1
 have cne:=I.cne
 have tracked:∀ {a:Addr} {h':Heap},(∃ o,s.heap.get? a=some o/\H a=none)->Heap.SameBut a s.heap h'->HOk X.prog X.w H h':=fun {a h'} ha hs b ob e=>by
  obtain⟨_,_,hfree⟩:=ha
  refine (I.hok b ob e).stay (fun c w' hc q=>(hs.2 c ?_).trans q) (fun _ q=>q) fun _ _ q=>q
  rintro rfl
  rcases hc with rfl | hc
  ·rw [hfree] at e; cases e
  ·rw [hfree] at hc; cases hc
 rcases hx with hk | hk
 ·refine wpAny_storeName_local hk hn (fun h' hn' hs=>?_) hcls
  obtain⟨oL,_,_,hoL,_⟩:=id hn
  refine h _ ⟨I.ok,I.os,I.bare,⟨fun b o e n hb hx=>?_,fun b o e n hb hx=>?_,I.base.free,fun b o e hx=>?_,I.base.tups,I.base.h1o,I.base.h1s⟩,⟨_,hn',fun j y v' e1 e2 e3=>?_⟩,fun y c e=>?_,I.free,I.f1o,fun p hp=>?_,tracked ⟨oL,hoL,I.free⟩ hs,by simpa using I.len⟩ ⟨_,hs,.inl rfl⟩
  ·exact (hs.2 b (Nat.ne_of_lt (Nat.lt_of_lt_of_le (Heap.lt_size e) I.ok.above))).trans (I.base.keep b o e n hb hx)
  ·obtain⟨sl,e1⟩:=I.base.slot b o e n hb hx
   exact⟨sl,(hs.2 b (Nat.ne_of_lt (Nat.lt_of_lt_of_le (Heap.lt_size e) I.ok.above))).trans e1⟩
  ·obtain⟨o',e1⟩:=I.base.there b o e hx
   exact⟨o',(hs.2 b (Nat.ne_of_lt (Nat.lt_of_lt_of_le (Heap.lt_size e) I.ok.above))).trans e1⟩
  ·by_cases hj:j=i
   ·subst hj
    rw [hi] at e1; cases e1
    rw [List.getElem?_set_self hiσ] at e2
    cases e2
    exact⟨u,r,.inl ⟨hk,by simp⟩⟩
   ·rw [List.getElem?_set_ne (Ne.symm hj)] at e2
    obtain⟨u',r',q⟩:=hl j y v' e1 e2 e3
    refine⟨u',r',?_⟩
    rcases q with ⟨k,e⟩ | ⟨k,c,e,z⟩
    ·refine .inl ⟨k,?_⟩
     have:y≠x:=fun e=>hj (g7x hN e1 (e▸hi))
     simp [this,e]
    ·exact .inr ⟨k,c,e,z.sameBut hs (cne y c e)⟩
  ·obtain⟨w',z⟩:=I.cell y c e
   exact⟨w',z.sameBut hs (cne y c e)⟩
  ·obtain⟨e,n,ne,nf,d⟩:=I.pin p hp
   exact⟨(hs.2 p.1 ne).trans e,n,ne,nf,d⟩
 ·have hfn:X.fn x=true:=by
   rcases hf with z | z
   ·exact z
   ·rw [z] at hk; cases hk
  obtain⟨c,hc⟩:=I.ok.has x (.inl hk)
  obtain⟨w',z⟩:=I.cell x c hc
  refine wpAny_storeName_cell I.ok.kind hk hc z (fun h' hc' hs=>?_)
  obtain⟨oc,hoc,hocd⟩:=id z
  refine h { s with heap:=h' } ⟨I.ok,I.os,I.bare,⟨fun b o e n hb hx=>?_,fun b o e n hb hx=>?_,I.base.free,fun b o e hx=>?_,I.base.tups,I.base.h1o,I.base.h1s⟩,⟨m,hn.sameBut hs (Ne.symm (cne x c hc)),fun j y v' e1 e2 e3=>?_⟩,fun y c' e=>?_,I.free,I.f1o,fun p hp=>?_,tracked ⟨oc,hoc,I.f1o x c hc⟩ hs,by simpa using I.len⟩ ⟨c,hs,.inr hc⟩
  ·exact (hs.2 b (Nat.ne_of_lt (Nat.lt_of_lt_of_le (Heap.lt_size e) (I.ok.cab x c hfn hc)))).trans (I.base.keep b o e n hb hx)
  ·obtain⟨sl,e1⟩:=I.base.slot b o e n hb hx
   exact⟨sl,(hs.2 b (Nat.ne_of_lt (Nat.lt_of_lt_of_le (Heap.lt_size e) (I.ok.cab x c hfn hc)))).trans e1⟩
  ·obtain⟨o',e1⟩:=I.base.there b o e hx
   exact⟨o',(hs.2 b (Nat.ne_of_lt (Nat.lt_of_lt_of_le (Heap.lt_size e) (I.ok.cab x c hfn hc)))).trans e1⟩
  ·by_cases hj:j=i
   ·subst hj
    rw [hi] at e1; cases e1
    rw [List.getElem?_set_self hiσ] at e2
    cases e2
    exact⟨u,r,.inr ⟨.inl hk,c,hc,hc'⟩⟩
   ·rw [List.getElem?_set_ne (Ne.symm hj)] at e2
    obtain⟨u',r',q⟩:=hl j y v' e1 e2 e3
    refine⟨u',r',?_⟩
    rcases q with q | ⟨k,c',e,z'⟩
    ·exact .inl q
    ·refine .inr ⟨k,c',e,z'.sameBut hs ?_⟩
     rintro rfl
     exact hj (g7x hN e1 (I.ok.inj _ _ _ e hc▸hi))
  ·by_cases hcc:c'=c
   ·subst hcc; exact⟨_,hc'⟩
   ·obtain⟨w2,z2⟩:=I.cell y c' e
    exact⟨w2,z2.sameBut hs hcc⟩
  ·obtain⟨e,n,ne,nf,d⟩:=I.pin p hp
   refine⟨(hs.2 p.1 ?_).trans e,n,ne,nf,d⟩
   intro q
   rw [q,hoc] at e
   have q':oc=p.2:=Option.some.inj e
   exact d w' (by rw [<- q']; exact hocd)
theorem g1f{M:Model}{A:Around}{E:Value->Shared->Prop}{i:Nat}{x:Str}{v:V}{u:Value}{Q:Unit->Shared->Prop}(I:Inv X pins σ H s)(hN:X.N.Nodup)(hi:X.N[i]? = some x)(hx:Loc X.env.scope x)(r:RelV v u)
  (h:∀ s',Inv X pins (σ.set i (some v)) H s'->Q () s') (hf:X.fn x=true\/X.env.scope.names.lookup x=some .local:=by first | exact .inl rfl | exact .inr rfl | assumption):wpAny M A (storeName X.env x u) Q E s :=
 g1l I hN hi hx r (fun s' I' _=>h s' I') hf
theorem Inv.call'{s':Shared}{ch:List Addr}(I:Inv X pins σ H s)(ho:s'.os=s.os)(u:Un (frs X.stack) ch H H' s.heap s'.heap)(hok:HOk X.prog X.w H' s'.heap)(hg:AllBare s'.gens)
  (hch:∀ b∈ch,(b∈X.ex\/X.s₀.heap.objs.size<=b)/\b≠X.env.locals/\(∀ x c,X.env.cells.lookup x=some c->c≠b)/\∀ p∈X.pn++pins,p.1≠b):Inv X pins σ H' s':=by
 obtain⟨h',g',d',t',o'⟩:=s'
 have e:o'=s.os:=ho
 subst e
 exact I.call (g':=g') (t':=t') (d':=d') u hok hg hch
end
noncomputable abbrev XK:=Value->Option Addr->Hp->Prop
noncomputable abbrev St:=List (Option V)
noncomputable abbrev VK:=V->Hp->Prop
noncomputable abbrev TE:=St->Hp->VK->Prop
noncomputable abbrev TT:=St->Hp->(Bool->Hp->Prop)->Prop
noncomputable abbrev TA:=St->Hp->(List V->Hp->Prop)->Prop
structure Ends where
 nx:St->Hp->Prop
 rt:VK
 bk:St->Hp->Prop:=fun _ _=>False
 ct:St->Hp->Prop:=fun _ _=>False
noncomputable abbrev TS:=Ends->St->Hp->Prop
def EP(X:Cx)(pins:List (Addr×Obj))(σ:St)(Q:VK)(u:Value)(s':Shared):Prop:=∃ v H',Inv X pins σ H' s'/\RelV v u/\Q v H'
def TP(X:Cx)(pins:List (Addr×Obj))(σ:St)(Q:Bool->Hp->Prop)(b:Bool)(s':Shared):Prop:=∃ H',Inv X pins σ H' s'/\Q b H'
def AP(X:Cx)(pins:List (Addr×Obj))(σ:St)(Q:List V->Hp->Prop)(us:List Value)(s':Shared):Prop:=∃ vs H',Inv X pins σ H' s'/\Vals vs us/\Q vs H'
def SP(X:Cx)(pins:List (Addr×Obj))(D:Ends)(f:Flow)(s':Shared):Prop :=
 match f with
 | .next=>∃ σ' H',Inv X pins σ' H' s'/\D.nx σ' H'
 | .brk=>∃ σ' H',Inv X pins σ' H' s'/\D.bk σ' H'
 | .cont=>∃ σ' H',Inv X pins σ' H' s'/\D.ct σ' H'
 | .ret u=>∃ v σ' H',Inv X pins σ' H' s'/\RelV v u/\D.rt v H'
def PE(X:Cx)(e:Expr)(t:TE):Prop :=
 ∀ (pins:List (Addr×Obj)) (s:Shared) (σ:St) (H:Hp) (Q:VK),Inv X pins σ H s->t σ H Q->wpAny (model X.prog X.w) X.A (eval e X.env) (EP X pins σ Q) X.xe s
def PT(X:Cx)(e:Expr)(t:TT):Prop :=
 ∀ (pins:List (Addr×Obj)) (s:Shared) (σ:St) (H:Hp) (Q:Bool->Hp->Prop),Inv X pins σ H s->t σ H Q->wpAny (model X.prog X.w) X.A (isTrue e X.env (eval e X.env)) (TP X pins σ Q) X.xe s
def PW(X:Cx)(e:Expr)(t:TT):Prop :=
 ∀ (whole:Sem Value) (pins:List (Addr×Obj)) (s:Shared) (σ:St) (H:Hp) (Q:Bool->Hp->Prop),Inv X pins σ H s->t σ H Q->wpAny (model X.prog X.w) X.A (isTrue e X.env whole) (TP X pins σ Q) X.xe s
theorem PW.pt{X:Cx}{e:Expr}{t:TT}(h:PW X e t):PT X e t:=h _
def PA(X:Cx)(es:List Expr)(t:TA):Prop :=
 ∀ (pos:Pos) (pins:List (Addr×Obj)) (s:Shared) (σ:St) (H:Hp) (Q:List V->Hp->Prop),Inv X pins σ H s->t σ H Q->wpAny (model X.prog X.w) X.A (spliced (backTo pos (starEach es X.env))) (AP X pins σ Q) X.xe s
def PS(X:Cx)(st:Stmt)(t:TS):Prop :=
 ∀ (pins:List (Addr×Obj)) (s:Shared) (σ:St) (H:Hp) (D:Ends),Inv X pins σ H s->t D σ H->wpAny (model X.prog X.w) X.A (exec st X.env) (SP X pins D) X.xe s
def PSs(X:Cx)(st:List Stmt)(t:TS):Prop :=
 ∀ (pins:List (Addr×Obj)) (s:Shared) (σ:St) (H:Hp) (D:Ends),Inv X pins σ H s->t D σ H->wpAny (model X.prog X.w) X.A (execs st X.env) (SP X pins D) X.xe s
theorem thn{α:Type}{t:Sem α}{Q Q':α->Shared->Prop}{M:Model}{A:Around}{E:Value->Shared->Prop}{s:Shared}(h:wpAny M A t Q E s)(hQ:∀ a s,Q a s->Q' a s):wpAny M A t Q' E s:=wpAny_mono h hQ fun _ _ x=>x
end L2
namespace L2
open PySem PySem.Spec PyProof.Rows
section
variable {X:Cx}
def tVar(i:Nat):TE:=fun σ H Q=>∃ v,σ[i]? = some (some v)/\Q v H
def tC(v:V):TE:=fun _ H Q=>Q v H
theorem j6i {i : Nat} {x : Str} {pos : Pos} (hN : X.N[i]? = some x) (hv : Vis X.env.scope x) (hd : (x == ("__debug__" : Str)) = false := by decide) (hcd : (x == ("__classdict__" : Str)) = false := by decide) : PE X (.Name x pos) (tVar i) := by
 intro pins s σ H Q I h
 obtain⟨v,e,h⟩:=h
 obtain⟨m,hn,hl⟩:=I.loc
 obtain⟨u,r,l⟩:=hl i x v hN e hv
 have fin:EP X pins σ Q u s:=⟨v,H,I,r,h⟩
 rcases l with ⟨hk,hm⟩ | ⟨hk,c,hc,hcell⟩
 ·exact wpAny_Name (wpAny_loadName_local I.ok.kind hk hn hm fin) hd
 ·rcases hk with hk | hk
  ·exact wpAny_Name (wpAny_loadName_cell I.ok.kind hk hc hcell fin) hd
  ·exact wpAny_Name (wpAny_loadName_free I.ok.kind hk hc hcell fin hcd) hd
theorem a0i{i j pos}:PE X (.Constant (.int i) j pos) (tC (.int i)):=fun _ _ _ H _ I h=>wpAny_Constant_int ⟨.int i,H,I.tok _,⟨_,rfl⟩,h⟩
theorem g0u{b j pos}:PE X (.Constant (.bool b) j pos) (tC (.bl b)):=fun _ _ _ H _ I h=>Constant_bool ⟨.bl b,H,I,rfl,h⟩
theorem d3m{j pos}:PE X (.Constant .none j pos) (tC .non):=fun _ _ _ H _ I h=>Constant_none ⟨.non,H,I,rfl,h⟩
theorem a1z{x j pos}:PE X (.Constant (.str x) j pos) (tC (.str x)):=fun _ _ _ H _ I h=>Calls.Constant_str ⟨.str x,H,I.tok _,⟨_,rfl⟩,h⟩
def Gl(X:Cx)(x:Str):Prop:=X.env.kindOf x=some .globalImplicit
theorem d2h{E:Value->Shared->Prop}{pins:List (Addr×Obj)}{s:Shared}{σ:St}{H:Hp}{x:Str}{u:Value}{pos:Pos}{Q:Value->Shared->Prop}(I:Inv X pins σ H s)(hg:Gl X x)(hm:X.mg x=some u)(h:Q u s)
  (hd : (x == ("__debug__" : Str)) = false := by decide) : wpAny (model X.prog X.w) X.A (eval (.Name x pos) X.env) Q E s :=
 Calls.Name_function_global I.ok.kind hg (Calls.loadGlobal_global (by rw [I.ok.glob]; exact I.mod.glob.keeps I.bk) hm h) hd
theorem h1t{E:Value->Shared->Prop}{pins:List (Addr×Obj)}{s:Shared}{σ:St}{H:Hp}{x:Str}{u:Value}{pos:Pos}{Q:Value->Shared->Prop}(I:Inv X pins σ H s)(hg:Gl X x)(hm:X.mg x=none)(hv:bootBuiltins x=some u)(h:Q u s)
  (hn : x ≠ "__name__" := by decide) (hd : (x == ("__debug__" : Str)) = false := by decide) : wpAny (model X.prog X.w) X.A (eval (.Name x pos) X.env) Q E s := by
 obtain⟨mb,h1,h2⟩:=I.mod.blt
 exact Calls.Name_function_global I.ok.kind hg (Calls.loadGlobal_builtin (by rw [I.ok.glob]; exact I.mod.glob.keeps I.bk) hm (by rw [I.ok.blt]; exact h1.keeps I.bk) ((h2 x hn).trans hv) h) hd
theorem a2t {x : Str} {v : V} {u : Value} {pos : Pos} (hg : Gl X x) (hm : X.mg x = some u) (r : RelV v u) (hd : (x == ("__debug__" : Str)) = false := by decide) : PE X (.Name x pos) (tC v) :=
 fun _ _ _ H _ I h=>d2h I hg hm ⟨v,H,I,r,h⟩ hd
theorem b9h {x : Str} {v : V} {u : Value} {pos : Pos} (hg : Gl X x) (hm : X.mg x = none) (hv : bootBuiltins x = some u) (r : RelV v u) (hn : x ≠ "__name__" := by decide) (hd : (x == ("__debug__" : Str)) = false := by decide) : PE X (.Name x pos) (tC v) :=
 fun _ _ _ H _ I h=>h1t I hg hm hv ⟨v,H,I,r,h⟩ hn hd
variable {a b:Expr}{ta tb:TE}{pos:Pos}
def tB(t:TE):TT:=fun σ H Q=>t σ H fun x H1=>∃ c,x = .bl c/\Q c H1
theorem j6j{e:Expr}{t:TE}(h:PE X e t)(he:∀ whole,isTrue e X.env whole=(do let v <- whole; standAt e.pos; holding [v] (truthy v)):=by intro _; rfl):PT X e (tB t):=by
 intro pins s σ H Q I hw
 refine isTrue_plain (thn (h pins s σ H _ I hw) fun v s1 ⟨x,H1,I1,r1,q1⟩=>?_) (he _)
 obtain⟨d,rfl,q⟩:=q1
 cases r1
 exact wpAny_truthy_bool ⟨H1,I1,q⟩
variable {tA tB':TT}{rest:List Expr}
def tAnd(t u:TT):TT:=fun σ H Q=>t σ H fun c H1=>if c=true then u σ H1 Q else Q false H1
def tOr(t u:TT):TT:=fun σ H Q=>t σ H fun c H1=>if c=true then Q true H1 else u σ H1 Q
def tNot(t:TT):TT:=fun σ H Q=>t σ H fun c H1=>Q (!c) H1
theorem pw_and1(ha:PT X a tA):PW X (.BoolOp .And [a] pos) tA:=by
 intro wh pins s σ H Q I h
 refine isTrue_and (thn (ha pins s σ H Q I h) fun c s1 e=>?_)
 cases c with
 | true=>exact isTrue_and_nil e
 | false=>exact e
theorem pw_or1(ha:PT X a tA):PW X (.BoolOp .Or [a] pos) tA:=by
 intro wh pins s σ H Q I h
 refine isTrue_or (thn (ha pins s σ H Q I h) fun c s1 e=>?_)
 cases c with
 | false=>exact isTrue_or_nil e
 | true=>exact e
theorem pw_and(ha:PT X a tA)(hb:PW X (.BoolOp .And (b :: rest) pos) tB'):PW X (.BoolOp .And (a :: b :: rest) pos) (tAnd tA tB'):=by
 intro wh pins s σ H Q I h
 refine isTrue_and (thn (ha pins s σ H _ I h) fun c s1 ⟨H1,I1,q1⟩=>?_)
 cases c with
 | true=>exact hb wh pins s1 σ H1 Q I1 q1
 | false=>exact⟨H1,I1,q1⟩
theorem pw_or(ha:PT X a tA)(hb:PW X (.BoolOp .Or (b :: rest) pos) tB'):PW X (.BoolOp .Or (a :: b :: rest) pos) (tOr tA tB'):=by
 intro wh pins s σ H Q I h
 refine isTrue_or (thn (ha pins s σ H _ I h) fun c s1 ⟨H1,I1,q1⟩=>?_)
 cases c with
 | true=>exact⟨H1,I1,q1⟩
 | false=>exact hb wh pins s1 σ H1 Q I1 q1
theorem b2g(ha:PT X a tA):PT X (.UnaryOp .Not a pos) (tNot tA):=by
 intro pins s σ H Q I h
 exact isTrue_not (ha pins s σ H (fun c H1=>Q (!c) H1) I h)
def j6k(ta tb:TE):TE:=fun σ H Q=>ta σ H fun x H1=>∃ c,x = .bl c/\if c=true then tb σ H1 Q else Q (.bl false) H1
def k4q(ta tb:TE):TE:=fun σ H Q=>ta σ H fun x H1=>∃ c,x = .bl c/\if c=true then Q (.bl true) H1 else tb σ H1 Q
def j6l(ta:TE):TE:=fun σ H Q=>ta σ H fun x H1=>∃ c,x = .bl c/\Q (.bl (!c)) H1
theorem g6i{op}{t:TE}(h:PE X a t):PE X (.BoolOp op [a] pos) t:=fun pins s σ H Q I hw=>BoolOp_one (h pins s σ H Q I hw)
theorem j6m(ha:PE X a ta)(hb:PE X (.BoolOp .And (b :: rest) pos) tb):PE X (.BoolOp .And (a :: b :: rest) pos) (j6k ta tb):=by
 intro pins s σ H Q I h
 refine BoolOp_and (thn (ha pins s σ H _ I h) fun v s1 ⟨x,H1,I1,r1,q1⟩=>?_)
 obtain⟨c,rfl,q1⟩:=q1
 cases r1
 refine wpAny_truthy_bool ?_
 cases c with
 | true=>exact hb pins s1 σ H1 Q I1 q1
 | false=>exact⟨.bl false,H1,I1,rfl,q1⟩
theorem k2b(ha:PE X a ta)(hb:PE X (.BoolOp .Or (b :: rest) pos) tb):PE X (.BoolOp .Or (a :: b :: rest) pos) (k4q ta tb):=by
 intro pins s σ H Q I h
 refine BoolOp_or (thn (ha pins s σ H _ I h) fun v s1 ⟨x,H1,I1,r1,q1⟩=>?_)
 obtain⟨c,rfl,q1⟩:=q1
 cases r1
 refine wpAny_truthy_bool ?_
 cases c with
 | false=>exact hb pins s1 σ H1 Q I1 q1
 | true=>exact⟨.bl true,H1,I1,rfl,q1⟩
theorem j6n(ha:PE X a ta):PE X (.UnaryOp .Not a pos) (j6l ta):=by
 intro pins s σ H Q I h
 refine UnaryOp_ (thn (ha pins s σ H _ I h) fun v s1 ⟨x,H1,I1,r1,q1⟩=>?_)
 obtain⟨c,rfl,q1⟩:=q1
 cases r1
 exact not_of (wpAny_truthy_bool ⟨.bl (!c),H1,I1,rfl,q1⟩)
def tIf(t:TT)(ta tb:TE):TE:=fun σ H Q=>t σ H fun c H1=>if c=true then ta σ H1 Q else tb σ H1 Q
theorem g7y{c:Expr}(hc:PT X c tA)(ha:PE X a ta)(hb:PE X b tb):PE X (.IfExp c a b pos) (tIf tA ta tb):=by
 intro pins s σ H Q I h
 refine wpAny_IfExp (thn (hc pins s σ H _ I h) fun d s1 ⟨H1,I1,q1⟩=>?_)
 cases d with
 | true=>exact ha pins s1 σ H1 Q I1 q1
 | false=>exact hb pins s1 σ H1 Q I1 q1
end
end L2
namespace L2
open PySem PySem.Spec PyProof.Rows
def SqL(K:PySem.W.Frag)(H:Hp)(a:Addr)(xs:List V):Prop :=
 Rd H a (.lst xs) \/
  ∃ (o : Obj) (its : Array Value) (n : Nat), K.lookup a = some o ∧ o.cls = .type "list" ∧ o.dict = none ∧ o.data = .seq its n ∧ its.size ≤ sizeLine ∧ Vals xs its.toList
def SqT(K:PySem.W.Frag)(H:Hp)(a:Addr)(xs:List V):Prop :=
 Rd H a (.tup xs) \/
  ∃ (o : Obj) (its : Array Value) (n : Nat), K.lookup a = some o ∧ o.cls = .type "tuple" ∧ o.data = .seq its n ∧ its.size ≤ sizeLine ∧ Vals xs its.toList
noncomputable def absV:Value->Option V
 | .none=>some .non
 | .bool b=>some (.bl b)
 | .int i _=>some (.int i)
 | .str x _=>some (.str x)
 | .bytes b _=>some (.byt b)
 | .float b _=>some (.flt b)
 | .ref a=>some (.ref a)
 | .type n=>some (.ty n)
 | _=>none
theorem RelV.abs{x:V}{u:Value}(r:RelV x u):absV u=some x:=by
 cases x with
 | non=>cases r; rfl
 | bl _=>cases r; rfl
 | int _=>obtain⟨t,rfl⟩:=r; rfl
 | str _=>obtain⟨t,rfl⟩:=r; rfl
 | byt _=>obtain⟨t,rfl⟩:=r; rfl
 | flt _=>obtain⟨t,rfl⟩:=r; rfl
 | ref _=>cases r; rfl
 | ty _=>cases r; rfl
theorem RelV.inj{x y:V}{u:Value}(r:RelV x u)(q:RelV y u):x=y:=Option.some.inj (r.abs.symm.trans q.abs)
theorem Vals.inj:∀ {xs ys:List V} {us:List Value},Vals xs us->Vals ys us->xs=ys
 | _,_,_,.nil,.nil=>rfl
 | _,_,_,.cons r t,.cons r' t'=>by rw [r.inj r',Vals.inj t t']
section
variable {X:Cx}{pins:List (Addr×Obj)}{σ:St}{H:Hp}{s:Shared}{a:Addr}{xs ys:List V}
theorem SqL.of{K:PySem.W.Frag}(h:H a=some (.lst xs)):SqL K H a xs:=.inl (.inl h)
theorem SqT.of{K:PySem.W.Frag}(h:H a=some (.tup xs)):SqT K H a xs:=.inl (.inl h)
theorem Inv.list(I:Inv X pins σ H s)(h:SqL X.K H a xs):∃ its:List Value,Vals xs its/\PlainL s.heap a its.toArray/\xs.length<=sizeLine:=by
 rcases h with h | ⟨o,its,n,hk,hc,hd,hs,hz,r⟩
 ·obtain⟨z,its,n,r,e⟩:=h.ok I.hok
  exact⟨its,r,⟨_,n,e,rfl,rfl,rfl⟩,z⟩
 ·refine⟨its.toList,r,⟨o,n,I.kIn a o hk,hc,hd,by simpa using hs⟩,?_⟩
  have e:=r.length
  simp only [Array.length_toList] at e
  omega
theorem Inv.tuple(I:Inv X pins σ H s)(h:SqT X.K H a xs):∃ its:List Value,Vals xs its/\IsTup s.heap a its.toArray/\xs.length<=sizeLine:=by
 rcases h with h | ⟨o,its,n,hk,hc,hs,hz,r⟩
 ·obtain⟨z,its,r,p⟩:=h.ok I.hok
  exact⟨its,r,p,z⟩
 ·refine⟨its.toList,r,⟨o,I.kIn a o hk,hc,n,by simpa using hs⟩,?_⟩
  have e:=r.length
  simp only [Array.length_toList] at e
  omega
theorem Inv.h8f(I:Inv X pins σ H s)(h:SqL X.K H a xs)(h':SqL X.K H a ys):xs=ys:=by
 obtain⟨its,r,⟨o,n,e,_,_,d⟩,_⟩:=I.list h
 obtain⟨its',r',⟨o',n',e',_,_,d'⟩,_⟩:=I.list h'
 rw [e] at e'; cases e'
 rw [d] at d'
 injection d' with d1 _
 have:its=its':=by simpa using congrArg Array.toList d1
 subst this
 exact r.inj r'
theorem Inv.h1u(I:Inv X pins σ H s)(h:SqT X.K H a xs)(h':SqT X.K H a ys):xs=ys:=by
 obtain⟨its,r,⟨o,e,_,n,d⟩,_⟩:=I.tuple h
 obtain⟨its',r',⟨o',e',_,n',d'⟩,_⟩:=I.tuple h'
 rw [e] at e'; cases e'
 rw [d] at d'
 injection d' with d1 _
 have:its=its':=by simpa using congrArg Array.toList d1
 subst this
 exact r.inj r'
end
noncomputable abbrev Cx.wish(X:Cx)(E:Value->Shared->Prop):Cx:={ X with xe:=E }
noncomputable abbrev Cx.nox(X:Cx):Cx:=X.wish fun _ _=>False
theorem Cx.Ok.wish{X:Cx}(ok:X.Ok)(E:Value->Shared->Prop):(X.wish E).Ok :=
 ⟨ok.mod,ok.kind,ok.glob,ok.blt,ok.above,ok.inj,ok.has,ok.cab,ok.hd,ok.frames,ok.stk,ok.exf,ok.bs,ok.bsz,ok.j2p,ok.j6h,ok.i0g,ok.frf⟩
theorem Cx.Ok.c0p{X:Cx}{E:Value->Shared->Prop}(ok:(X.wish E).Ok):X.Ok :=
 ⟨ok.mod,ok.kind,ok.glob,ok.blt,ok.above,ok.inj,ok.has,ok.cab,ok.hd,ok.frames,ok.stk,ok.exf,ok.bs,ok.bsz,ok.j2p,ok.j6h,ok.i0g,ok.frf⟩
section
variable {X:Cx}{pins:List (Addr×Obj)}{σ:St}{H:Hp}{s:Shared}{E:Value->Shared->Prop}
theorem Inv.wish(I:Inv X pins σ H s)(E:Value->Shared->Prop):Inv (X.wish E) pins σ H s:=⟨I.ok.wish E,I.os,I.bare,I.base,I.loc,I.cell,I.free,I.f1o,I.pin,I.hok,I.len⟩
theorem Inv.c0p(I:Inv (X.wish E) pins σ H s):Inv X pins σ H s:=⟨I.ok.c0p,I.os,I.bare,I.base,I.loc,I.cell,I.free,I.f1o,I.pin,I.hok,I.len⟩
theorem SP.c0p{D:Ends}{f:Flow}{s':Shared}(h:SP (X.wish E) pins D f s'):SP X pins D f s':=by
 cases f with
 | next=>obtain⟨σ',H',I,q⟩:=h; exact⟨σ',H',I.c0p,q⟩
 | brk=>obtain⟨σ',H',I,q⟩:=h; exact⟨σ',H',I.c0p,q⟩
 | cont=>obtain⟨σ',H',I,q⟩:=h; exact⟨σ',H',I.c0p,q⟩
 | ret u=>obtain⟨v,σ',H',I,r,q⟩:=h; exact⟨v,σ',H',I.c0p,r,q⟩
theorem PSs.nox{st:List Stmt}{t:TS}(h:PSs X.nox st t):PSs X st t:=fun pins s σ H D I hw =>
 wpAny_mono (h pins s σ H D (I.wish _) hw) (fun _ _ q=>q.c0p) fun _ _ z=>False.elim z
end
section
variable {X:Cx}{st:Stmt}{rest:List Stmt}{t u:TS}{e:Expr}{te:TE}{pos:Pos}
def j6o:TS:=fun D σ H=>D.nx σ H
def k4r(t u:TS):TS:=fun D σ H=>t { D with nx:=u D } σ H
theorem a1k:PSs X [] j6o:=fun _ _ σ H _ I h=>wpAny_execs_nil ⟨σ,H,I,h⟩
theorem a0j(h1:PS X st t)(h2:PSs X rest u):PSs X (st :: rest) (k4r t u):=by
 intro pins s σ H D I h
 refine wpAny_execs_cons (thn (h1 pins s σ H { D with nx:=u D } I h) fun f s1 q=>?_)
 cases f with
 | next =>
  obtain⟨σ',H',I',q⟩:=q
  exact h2 pins s1 σ' H' D I' q
 | ret v=>exact q
 | brk=>exact q
 | cont=>exact q
theorem a0k(h1:PS X st t):PSs X [st] t:=by
 intro pins s σ H D I h
 refine wpAny_execs_cons (thn (h1 pins s σ H D I h) fun f s1 q=>?_)
 cases f with
 | next=>exact wpAny_execs_nil q
 | ret v=>exact q
 | brk=>exact q
 | cont=>exact q
theorem Inv.quiet{pins:List (Addr×Obj)}{σ:St}{H:Hp}{s:Shared}(I:Inv X pins σ H s):interactive X.env=false:=by simp [interactive,I.ok.kind]
def j6p(te:TE):TS:=fun D σ H=>te σ H fun _ H1=>D.nx σ H1
theorem b1t(he:PE X e te)(hs:swapsWith e none pos.line X.env=pure false:=by rfl):PS X (.Expr e pos) (j6p te):=by
 intro pins s σ H D I h
 exact wpAny_Expr_any (thn (he pins s σ H _ I h) fun v s1 ⟨x,H1,I1,r1,q1⟩=>⟨σ,H1,I1,q1⟩) I.quiet hs
def tRet(te:TE):TS:=fun D σ H=>te σ H D.rt
theorem a0r(he:PE X e te):PS X (.Return (some e) pos) (tRet te):=by
 intro pins s σ H D I h
 exact wpAny_Return_some (thn (he pins s σ H _ I h) fun v s1 ⟨x,H1,I1,r1,q1⟩=>⟨x,σ,H1,I1,r1,q1⟩)
def tRetN:TS:=fun D _ H=>D.rt .non H
def k4s(c:TT)(t u:TS):TS:=fun D σ H=>c σ H fun b H1=>if b=true then t D σ H1 else u D σ H1
theorem a3v{c:Expr}{a b:List Stmt}{tc:TT}(hc:PT X c tc)(ha:PSs X a t)(hb:PSs X b u):PS X (.If c a b pos) (k4s tc t u):=by
 intro pins s σ H D I h
 refine wpAny_If (thn (hc pins s σ H _ I h) fun d s1 ⟨H1,I1,q1⟩=>?_)
 cases d with
 | true=>exact ha pins s1 σ H1 D I1 q1
 | false=>exact hb pins s1 σ H1 D I1 q1
def j6q:TS:=fun _ _ _=>False
theorem a6m:PS X st j6q:=fun _ _ _ _ _ _ h=>h.elim
end
noncomputable abbrev TG:=V->St->Hp->(St->Hp->Prop)->Prop
noncomputable abbrev TGs:=List V->St->Hp->(St->Hp->Prop)->Prop
def PG(X:Cx)(target:Expr)(t:TG):Prop :=
 ∀ (pins:List (Addr×Obj)) (s:Shared) (σ:St) (H:Hp) (v:V) (u:Value) (Q:St->Hp->Prop),Inv X pins σ H s->RelV v u->t v σ H Q ->
  wpAny (model X.prog X.w) X.A (assign target X.env u) (fun _ s'=>∃ σ' H',Inv X pins σ' H' s'/\Q σ' H') X.xe s
def PGs(X:Cx)(ts:List Expr)(t:TGs):Prop :=
 ∀ (pins:List (Addr×Obj)) (s:Shared) (σ:St) (H:Hp) (vs:List V) (us:List Value) (Q:St->Hp->Prop),Inv X pins σ H s->Vals vs us->t vs σ H Q ->
  wpAny (model X.prog X.w) X.A (assignInOrder ((assignEach ts X.env).map (·.2)) us) (fun _ s'=>∃ σ' H',Inv X pins σ' H' s'/\Q σ' H') X.xe s
noncomputable abbrev TSet:=V->V->V->Hp->(Hp->Prop)->Prop
noncomputable abbrev TIp:=V->V->Hp->VK->Prop
section
variable {X:Cx}{pos:Pos}
def g7z(i:Nat):TG:=fun v σ H Q=>Q (σ.set i (some v)) H
theorem a5g{i:Nat}{x:Str}(hN:X.N.Nodup)(hi:X.N[i]? = some x)(hx:Loc X.env.scope x)(hf:X.fn x=true\/X.env.scope.names.lookup x=some .local:=by first | exact .inl rfl | exact .inr rfl | assumption):PG X (.Name x pos) (g7z i):=by
 intro pins s σ H v u Q I r h
 exact wpAny_assign_Name (g1f I hN hi hx r (fun s' I'=>⟨_,H,I',h⟩) hf)
noncomputable def gNil:TGs:=fun vs σ H Q=>vs = []/\Q σ H
def k2c(t:TG)(u:TGs):TGs:=fun vs σ H Q=>∃ v r,vs=v :: r/\t v σ H fun σ' H'=>u r σ' H' Q
theorem i3f:PGs X [] gNil:=by
 intro pins s σ H vs us Q I r h
 obtain⟨e,h⟩:=h
 subst e
 cases r
 exact assignInOrder_nil ⟨σ,H,I,h⟩
theorem g8a{e:Expr}{es:List Expr}{t:TG}{u:TGs}(h1:PG X e t)(h2:PGs X es u)
  (hs:(assignEach (e :: es) X.env).map (·.2)=assign e X.env :: (assignEach es X.env).map (·.2):=by rfl):PGs X (e :: es) (k2c t u):=by
 intro pins s σ H vs us Q I r h
 obtain⟨v,vr,e1,h⟩:=h
 subst e1
 cases r with
 | cons r rr =>
  rw [hs]
  refine assignInOrder_cons (thn (h1 pins s σ H _ _ _ I r h) fun _ s1 ⟨σ1,H1,I1,q1⟩=>?_)
  exact h2 pins s1 σ1 H1 _ _ Q I1 rr q1
def gTup(K:PySem.W.Frag)(n:Nat)(t:TGs):TG:=fun v σ H Q=>∃ a xs,v = .ref a/\SqT K H a xs/\xs.length=n/\t xs σ H Q
theorem j0k{es:List Expr}{k:Nat}{t:TGs}{n:Nat}(hc:X.calm=true)(h:PGs X es t)
  (hn:(assignEach es X.env).length=n:=by rfl) (hst:(assignEach es X.env).findIdx? (·.1)=none:=by rfl):PG X (.Tuple es k pos) (gTup X.K n t):=by
 intro pins s σ H v u Q I r hw
 obtain⟨a,xs,e1,hq,hl,hw⟩:=hw
 subst e1
 cases r
 obtain⟨its,rv,ht,hz⟩:=I.tuple hq
 refine assign_Tuple_tuple (I.ok.hd hc) ht (by simp [hn,<- hl,rv.length]) hst fun h' hx=>?_
 have I1:Inv X pins σ H { s with heap:=h' }:=I.kept (t':=s.toks) fun b o e=>hx b o (Nat.ne_of_lt (Heap.lt_size e)) e
 exact h pins _ σ H xs _ Q I1 (by simpa using rv) hw
def gSub(to ti:TE)(t:TSet):TG:=fun v σ H Q=>to σ H fun o H1=>ti σ H1 fun i H2=>t o i v H2 fun H3=>Q σ H3
def j5s(te:TE)(g:TG):TS:=fun D σ H=>te σ H fun x H1=>g x σ H1 D.nx
theorem j0l{tg e:Expr}{te:TE}{g:TG}(he:PE X e te)(hg:PG X tg g)(hs:swapsWithSole [tg] e pos.line X.env=pure false:=by rfl)(hw:swappedStores [tg] e X.env=pure none:=by rfl)
  (h1:(assignEach [tg] X.env).map (·.2) = [assign tg X.env]:=by rfl):PS X (.Assign [tg] e pos) (j5s te g):=by
 intro pins s σ H D I h
 refine wpAny_Assign_stores (thn (he pins s σ H _ I h) fun v s1 ⟨x,H1,I1,r1,q1⟩=>?_) hs hw
 rw [h1]
 exact thn (hg pins s1 σ H1 x v _ I1 r1 q1) fun _ s2 q=>q
theorem a1n{i:Nat}{x:Str}{e:Expr}{te:TE}{pos':Pos}(hN:X.N.Nodup)(hi:X.N[i]? = some x)(hx:Loc X.env.scope x)(he:PE X e te)(hs:swapsWith e (some (.Name x pos')) pos.line X.env=pure false:=by rfl)(hf:X.fn x=true\/X.env.scope.names.lookup x=some .local:=by first | exact .inl rfl | exact .inr rfl | assumption) :
  PS X (.Assign [.Name x pos'] e pos) (j5s te (g7z i)):=by
 intro pins s σ H D I h
 refine wpAny_Assign_Name (thn (he pins s σ H _ I h) fun v s1 ⟨y,H1,I1,r1,q1⟩=>?_) hs
 exact g1f I1 hN hi hx r1 (fun s2 I2=>⟨_,H1,I2,q1⟩) hf
end
section
variable {X:Cx}{pos:Pos}
end
structure It where
 go:Nat->Hp->Prop
 yld:Nat->Hp->V->Hp->Prop
 stop:Nat->Hp->Prop
def g0v(X:Cx)(pins:List (Addr×Obj))(H:Hp)(b:Addr):Prop :=
 H b=none/\b≠X.env.locals/\b∉X.fs/\(b∈X.ex\/X.s₀.heap.objs.size<=b)/\(∀ x c,X.env.cells.lookup x=some c->c≠b)/\∀ p∈X.pn++pins,p.1≠b
theorem Inv.i7s{X:Cx}{pins:List (Addr×Obj)}{σ:St}{H H':Hp}{s:Shared}{b:Addr}(I:Inv X pins σ H s)(hb:s.heap.objs.size<=b)(hn:H' b=none):g0v X pins H' b:=by
 refine⟨hn,Nat.ne_of_gt (Nat.lt_of_lt_of_le I.lt hb),I.nofs hb,.inr (Nat.le_trans I.sz hb),fun x c e z=>?_,fun p hp z=>?_⟩
 ·obtain⟨v,q⟩:=I.cell x c e
  exact absurd (Nat.lt_of_lt_of_le q.lt (by rw [z]; exact hb)) (Nat.lt_irrefl _)
 ·exact absurd (Nat.lt_of_lt_of_le (Heap.lt_size (I.pin p hp).1) (by rw [z]; exact hb)) (Nat.lt_irrefl _)
structure Turn(P:Program)(w:World)(K:PySem.W.Frag)(tg:Expr)(J:It)(fp:List Addr)(it:Addr)(tn:Nat->Heap->Prop):Prop where
 mem:it∈fp
 obj:∀ i h,tn i h->∀ b∈fp,∃ o,h.get? b=some o/\∀ v,o.data≠.cell v
 keep:∀ i h h',tn i h->(∀ b∈fp,∀ o,h.get? b=some o->h'.get? b=some o)->tn i h'
 item:∀ (X:Cx),X.prog=P->X.w=w->X.K=K->X.calm=true->∀ (i:Nat) (pins:List (Addr×Obj)) (s:Shared) (σ:St) (H:Hp) (E:Value->Shared->Prop),Inv X pins σ H s->(∀ b∈fp,g0v X pins H b)->tn i s.heap->J.go i H ->
  wpAny (model P w) X.A (pyNext (.ref it)) (fun r s1=>∃ u,r=some u /\
   wpAny (model P w) X.A (letOwnedTupleGo tg (.ref it) u) (fun _ s2=>∃ x H',Inv X pins σ H' s2/\RelV x u/\J.yld i H x H'/\tn (i+1) s2.heap/\∀ b∈fp,H' b=none) E s1) E s
 done:∀ (X:Cx),X.prog=P->X.w=w->X.K=K->X.calm=true->∀ (i:Nat) (pins:List (Addr×Obj)) (s:Shared) (σ:St) (H:Hp) (E:Value->Shared->Prop),Inv X pins σ H s->(∀ b∈fp,g0v X pins H b)->tn i s.heap->J.stop i H ->
  wpAny (model P w) X.A (pyNext (.ref it)) (fun r s1=>r=none/\Inv X pins σ H s1) E s
 self:∀ (A:Around) (i:Nat) (s:Shared) (Q:Value->Shared->Prop) (E:Value->Shared->Prop),tn i s.heap->Q (.ref it) s->wpAny (model P w) A (pyIter (.ref it)) Q E s
noncomputable abbrev TI:=St->Hp->(It->Hp->Prop)->Prop
def PIE(X:Cx)(pins:List (Addr×Obj))(σ:St)(tg:Expr)(R:It->Hp->Prop)(itv:Value)(s2:Shared):Prop :=
 ∃ (it:Addr) (fp:List Addr) (tn:Nat->Heap->Prop) (J:It) (H':Hp),itv = .ref it/\Inv X pins σ H' s2/\Turn X.prog X.w X.K tg J fp it tn/\tn 0 s2.heap/\(∀ b∈fp,g0v X pins H' b)/\R J H'
def PI(X:Cx)(tg iter:Expr)(wi:TI):Prop :=
 ∀ (pins:List (Addr×Obj)) (s:Shared) (σ:St) (H:Hp) (R:It->Hp->Prop),Inv X pins σ H s->wi σ H R ->
  wpAny (model X.prog X.w) X.A (eval iter X.env) (fun v s1=>wpAny (model X.prog X.w) X.A (pyIter v) (PIE X pins σ tg R) X.xe s1) X.xe s
theorem i7t{M:Model}{A:Around}{E:Value->Shared->Prop}{s:Shared}{tg:Expr}{it:Addr}{u:Value}{o:Obj}{n:String}{vs:Array Value}{Q:Unit->Shared->Prop}(ho:s.heap.get? it=some o)(hc:o.cls = .type n)(hd:o.data = .fields vs)
  (hn : ["enumerate", "zip", "dict_itemiterator", "dict_reverseitemiterator", "odict_iterator", "itertools.zip_longest", "itertools.pairwise"].contains n = false) (hQ : Q () s) : wpAny M A (letOwnedTupleGo tg (.ref it) u) Q E s := by
 unfold letOwnedTupleGo
 cases tg <;> first
  | exact wpAny_pure hQ
  | (cases u <;> first
    | exact wpAny_pure hQ
    | (refine wpAny_bind (wpAny_load ho ?_)
       rw [hc,hd]
       show wpAny M A (if (["enumerate", "zip", "dict_itemiterator", "dict_reverseitemiterator", "odict_iterator", "itertools.zip_longest", "itertools.pairwise"].contains n && vs[0]? == some (rawInt _)) = true then _ else _) Q E s
       rw [if_neg (by intro h; rw [hn,Bool.false_and] at h; cases h)]
       exact wpAny_pure hQ))
noncomputable def Itl(K:PySem.W.Frag)(a:Addr):It :=
 ⟨fun i H=>∃ xs x,SqL K H a xs/\xs[i]? = some x,fun i H x H'=>H'=H/\∀ xs,SqL K H a xs->xs[i]? = some x,fun i H=>∃ xs,SqL K H a xs/\xs.length<=i⟩
noncomputable def Itt(K:PySem.W.Frag)(a:Addr):It :=
 ⟨fun i H=>∃ xs x,SqT K H a xs/\xs[i]? = some x,fun i H x H'=>H'=H/\∀ xs,SqT K H a xs->xs[i]? = some x,fun i H=>∃ xs,SqT K H a xs/\xs.length<=i⟩
noncomputable def Itr(lo:Int)(n:Nat):It:=⟨fun i _=>i < n,fun i H x H'=>H'=H/\x = .int (lo+i),fun i _=>n<=i⟩
theorem i3g{P:Program}{w:World}{K:PySem.W.Frag}{tg:Expr}(a it:Addr):Turn P w K tg (Itl K a) [it] it (fun i h=>h.IsListIter it a i) where
 mem:=by simp
 obj:=fun i h st b hb=>by
  have e:b=it:=by simpa using hb
  subst e
  obtain⟨o,e,c,d⟩:=st
  exact⟨o,e,fun v z=>by rw [d] at z; cases z⟩
 keep:=fun i h h' st k=>st.at fun o e=>k it (by simp) o e
 item:=by
  intro X hP hw hK hc i pins s σ H E I hf st hg
  subst hP hw hK
  obtain⟨xs,x,hq,hx⟩:=hg
  obtain⟨its,rv,p,hz⟩:=I.list hq
  obtain⟨u,hu,ru⟩:=rv.get hx
  obtain⟨f0,f1,f2,f3,f4,f5⟩:=hf it (by simp)
  refine wpAny_pyNext_list_item st p.isList (x:=u) (by simpa using hu) fun h' st' sb=>?_
  have I1:Inv X pins σ H { s with heap:=h' }:=I.turned (t':=s.toks) (fun b o hb e=>(sb.2 b hb).trans e) f0 f1 f3 f4 f5
  obtain⟨o,e,c,d⟩:=id st'
  exact⟨u,rfl,i7t (s:={ s with heap:=h' }) e c d (by decide) ⟨x,H,I1,ru,⟨rfl,fun ys hy=>by rw [I.h8f hy hq]; exact hx⟩,st',fun b hb=>(hf b hb).1⟩⟩
 done:=by
  intro X hP hw hK hc i pins s σ H E I hf st hg
  subst hP hw hK
  obtain⟨xs,hq,hx⟩:=hg
  obtain⟨its,rv,p,hz⟩:=I.list hq
  obtain⟨f0,f1,f2,f3,f4,f5⟩:=hf it (by simp)
  have hl:=rv.length
  exact wpAny_pyNext_list_end (I.ok.hd hc) st p.isList (by simp; omega) fun h' eb=>⟨rfl,I.turned (t':=s.toks) (fun b o hb e=>eb b o hb e) f0 f1 f3 f4 f5⟩
 self:=fun _ _ _ _ _ st h=>wpAny_pyIter_listiter st h
theorem i0h{P:Program}{w:World}{K:PySem.W.Frag}{tg:Expr}(a it:Addr):Turn P w K tg (Itt K a) [it] it (fun i h=>h.IsTupleIter it a i) where
 mem:=by simp
 obj:=fun i h st b hb=>by
  have e:b=it:=by simpa using hb
  subst e
  obtain⟨o,e,c,d⟩:=st
  exact⟨o,e,fun v z=>by rw [d] at z; cases z⟩
 keep:=fun i h h' st k=>st.at fun o e=>k it (by simp) o e
 item:=by
  intro X hP hw hK hc i pins s σ H E I hf st hg
  subst hP hw hK
  obtain⟨xs,x,hq,hx⟩:=hg
  obtain⟨its,rv,p,hz⟩:=I.tuple hq
  obtain⟨u,hu,ru⟩:=rv.get hx
  obtain⟨f0,f1,f2,f3,f4,f5⟩:=hf it (by simp)
  refine wpAny_pyNext_tuple_item st (show s.heap.IsTuple a its.toArray from p) (x:=u) (by simpa using hu) fun h' st' sb=>?_
  have I1:Inv X pins σ H { s with heap:=h' }:=I.turned (t':=s.toks) (fun b o hb e=>(sb.2 b hb).trans e) f0 f1 f3 f4 f5
  obtain⟨o,e,c,d⟩:=id st'
  exact⟨u,rfl,i7t (s:={ s with heap:=h' }) e c d (by decide) ⟨x,H,I1,ru,⟨rfl,fun ys hy=>by rw [I.h1u hy hq]; exact hx⟩,st',fun b hb=>(hf b hb).1⟩⟩
 done:=by
  intro X hP hw hK hc i pins s σ H E I hf st hg
  subst hP hw hK
  obtain⟨xs,hq,hx⟩:=hg
  obtain⟨its,rv,p,hz⟩:=I.tuple hq
  obtain⟨f0,f1,f2,f3,f4,f5⟩:=hf it (by simp)
  have hl:=rv.length
  exact wpAny_pyNext_tuple_end (I.ok.hd hc) st (show s.heap.IsTuple a its.toArray from p) (by simp; omega) fun h' eb=>⟨rfl,I.turned (t':=s.toks) (fun b o hb e=>eb b o hb e) f0 f1 f3 f4 f5⟩
 self:=fun _ _ _ _ _ st h=>wpAny_pyIter_tupleiter st h
theorem i0i{P:Program}{w:World}{K:PySem.W.Frag}{tg:Expr}(it:Addr)(lo:Int)(n:Nat):Turn P w K tg (Itr lo n) [it] it (fun i h=>IsRangeIter h it (lo+(i:Nat)*1) ((n:Int) - (i:Nat)) 1) where
 mem:=by simp
 obj:=fun i h st b hb=>by
  have e:b=it:=by simpa using hb
  subst e
  exact⟨_,st,fun v z=>by
   have z':Data.fields _=Data.cell v:=z
   cases z'⟩
 keep:=fun i h h' st k=>k it (by simp) _ st
 item:=by
  intro X hP hw hK hc i pins s σ H E I hf st hg
  subst hP hw hK
  obtain⟨f0,f1,f2,f3,f4,f5⟩:=hf it (by simp)
  have W:=Walks.range (prog:=X.prog) (w:=X.w) (I.ok.hd hc) it lo 1 n
  refine W.item i s _ _ hg st fun v h' tk hv st' kk=>?_
  obtain⟨t,rfl⟩:=hv
  have I1:Inv X pins σ H { s with heap:=h',toks:=tk }:=I.turned (fun b o hb e=>kk b o (by simpa using hb) e) f0 f1 f3 f4 f5
  refine ⟨_, rfl, i7t (s := { s with heap := h', toks := tk }) (n := "range_iterator") st' rfl rfl (by decide) ⟨.int (lo + i), H, I1, ⟨t, ?_⟩, ⟨rfl, rfl⟩, st', fun b hb => (hf b hb).1⟩⟩
  rw [Int.mul_one]
 done:=by
  intro X hP hw hK hc i pins s σ H E I hf st hg
  subst hP hw hK
  obtain⟨f0,f1,f2,f3,f4,f5⟩:=hf it (by simp)
  exact wpAny_pyNext_range_end (I.ok.hd hc) st (by have:n<=i:=hg; omega) fun h' eb=>⟨rfl,I.turned (t':=s.toks) (fun b o hb e=>eb b o hb e) f0 f1 f3 f4 f5⟩
 self:=fun _ _ _ _ _ st h=>wpAny_pyIter_rangeiter st h
end L2
namespace L2
open PySem PySem.Spec PyProof.Rows
section
variable {X:Cx}{tg:Expr}
def j6r(K:PySem.W.Frag)(tl:TE):TI:=fun σ H R=>tl σ H fun x H1=>∃ a,x = .ref a/\(∃ xs,SqL K H1 a xs)/\R (Itl K a) H1
theorem j2q{l:Expr}{tl:TE}(hl:PE X l tl):PI X tg l (j6r X.K tl):=by
 intro pins s σ H R I h
 refine thn (hl pins s σ H _ I h) fun v s1 ⟨x,H1,I1,r1,q1⟩=>?_
 obtain⟨a,e,⟨xs,hq⟩,q⟩:=q1
 subst e
 cases r1
 obtain⟨its,rv,p,hz⟩:=I1.list hq
 refine wpAny_pyIter_list p.isList ?_
 refine⟨s1.heap.objs.size,[s1.heap.objs.size],_,_,H1,rfl,I1.kept (t':=s1.toks) fun b o e=>Heap.get?_push_of_some _ e,i3g a _,⟨_,Heap.get?_push_size _ rfl,rfl,rfl⟩,fun b hb=>?_,q⟩
 have e:b=s1.heap.objs.size:=by simpa using hb
 subst e
 exact I1.i7s (Nat.le_refl _) (I1.hok.fresh (Nat.le_refl _))
theorem i7u{pins:List (Addr×Obj)}{σ:St}{H:Hp}{s:Shared}{R:It->Hp->Prop}{E:Value->Shared->Prop}{lo hi:Int}{t u v:Tok}{tk:Nat}(I:Inv X pins σ H s)(h1 : -(2 ^ 62)<=lo)(h2:lo < 2 ^ 62)(h3 : -(2 ^ 62)<=hi)(h4:hi < 2 ^ 62)
  (q : R (Itr lo (hi - lo).toNat) H) : wpAny (model X.prog X.w) X.A (pyIter (.ref s.heap.objs.size)) (PIE X pins σ tg R) E { s with heap := s.heap.push { cls := .type "range", data := .fields #[.int lo t, .int hi u, .int 1 v] }, toks := tk } := by
 refine wpAny_pyIter_range (IsRange.new ..) (small_one h1 h2 h3 h4) ?_
 have I1 : Inv X pins σ H { s with heap := s.heap.push { cls := .type "range", data := .fields #[.int lo t, .int hi u, .int 1 v] }, toks := tk } := I.kept fun b o e => Heap.get?_push_of_some _ e
 refine ⟨(s.heap.push { cls := .type "range", data := .fields #[.int lo t, .int hi u, .int 1 v] }).objs.size, [(s.heap.push { cls := .type "range", data := .fields #[.int lo t, .int hi u, .int 1 v] }).objs.size], _, _, H, rfl,
  I1.kept (t':=tk) fun b o e=>Heap.get?_push_of_some _ e,i0i _ lo (hi - lo).toNat,?_,fun b hb=>?_,q⟩
 ·have e1:lo+((0:Nat):Int)*1=lo:=by simp
  have e2:(((hi - lo).toNat:Nat):Int) - ((0:Nat):Int)=Builtin.Range.rangeSize lo hi 1:=by rw [rangeSize_one]; split <;> omega
  show IsRangeIter _ _ (lo+((0:Nat):Int)*1) ((((hi - lo).toNat:Nat):Int) - ((0:Nat):Int)) 1
  rw [e1,e2]
  exact Heap.get?_push_size _ rfl
 ·have e : b = (s.heap.push { cls := .type "range", data := .fields #[.int lo t, .int hi u, .int 1 v] }).objs.size := by simpa using hb
  subst e
  exact I1.i7s (Nat.le_refl _) (I1.hok.fresh (Nat.le_refl _))
def j6s(ta:TA):TI:=fun σ H R=>ta σ H fun vs H1=>∃ j:Int,vs = [.int j] /\ -(2 ^ 62)<=j/\j < 2 ^ 62/\R (Itr 0 j.toNat) H1
theorem i3h {a : Expr} {ta : TA} {p pos : Pos} (hg : Gl X "range") (hm : X.mg "range" = none) (ha : PA X [a] ta) (hs : starEach [a] X.env = [(false, eval a X.env)] := by rfl) : PI X tg (.Call (.Name "range" p) [a] [] pos) (j6s ta) := by
 intro pins s σ H R I h
 refine Call_ (h1t I hg hm boot_range (PyProof.Rows.callWith_type1 (thn (ha pos pins s σ H _ I h) fun us s1 ⟨vs,H1,I1,r1,q1⟩=>?_) hs rfl))
 obtain⟨j,e,q1,q2,q⟩:=q1
 subst e
 cases r1 with
 | cons r rr =>
  cases rr
  obtain⟨t,rfl⟩:=r
  exact call_range_1 (i7u I1 (by omega) (by omega) q1 q2 (by simpa using q))
def tFor(wi:TI)(g:TG)(tb:TS):TS:=fun D σ H=>wi σ H fun J H1=>∃ W:Nat->Nat->St->Hp->Prop,(∃ m,W 0 m σ H1)/\∀ i m σ H,W i m σ H ->
 (J.stop i H/\D.nx σ H)\/(J.go i H/\∃ N:St->Hp->Prop,(∀ σ' H',N σ' H'->∃ m',m' < m/\W (i+1) m' σ' H')/\∀ x H',J.yld i H x H'->g x σ H' fun σ2 H2=>tb { D with nx:=N,ct:=N,bk:=D.nx } σ2 H2)
noncomputable def g1m(fp:List Addr)(h:Heap):List (Addr×Obj):=fp.filterMap fun b=>(h.get? b).map fun o=>(b,o)
theorem b3j{fp:List Addr}{h:Heap}{b:Addr}{o:Obj}(hb:b∈fp)(e:h.get? b=some o):(b,o)∈g1m fp h:=List.mem_filterMap.mpr ⟨b,hb,by rw [e]; rfl⟩
theorem i3i{fp:List Addr}{h:Heap}{p:Addr×Obj}(hp:p∈g1m fp h):p.1∈fp/\h.get? p.1=some p.2:=by
 obtain⟨b,hb,e⟩:=List.mem_filterMap.mp hp
 cases q:h.get? b with
 | none=>rw [q] at e; cases e
 | some o =>
  rw [q] at e
  have e':(b,o)=p:=Option.some.inj e
  subst e'
  exact⟨hb,q⟩
theorem Inv.pinned{pins:List (Addr×Obj)}{σ:St}{H:Hp}{s:Shared}{fp:List Addr}(I:Inv X pins σ H s)(hf:∀ b∈fp,g0v X pins H b)(ho:∀ b∈fp,∃ o,s.heap.get? b=some o/\∀ v,o.data≠.cell v):Inv X (pins++g1m fp s.heap) σ H s :=
 I.i3e fun p hp=>(List.mem_append.mp hp).elim (fun z=>I.pin p (List.mem_append_right _ z)) fun z=>by
  obtain⟨hb,e⟩:=i3i z
  obtain⟨f0,f1,f2,_⟩:=hf p.1 hb
  obtain⟨o,e',d⟩:=ho p.1 hb
  rw [e] at e'; cases e'
  exact⟨e,f0,f1,f2,d⟩
theorem Inv.f0m{pins pl:List (Addr×Obj)}{σ:St}{H:Hp}{s:Shared}(I:Inv X (pins++pl) σ H s):Inv X pins σ H s:=I.i3e fun p hp=>I.pin p (List.mem_append_right _ (List.mem_append_left _ hp))
theorem j6t{iter:Expr}{body:List Stmt}{wi:TI}{g:TG}{tb:TS}{pos:Pos}(hp:PassesOwn (model X.prog X.w) X.A X.env X.xe)(hc:X.calm=true)(hi:PI X tg iter wi)(hg:PG X tg g)(hb:PSs X body tb)
  (hs:∀ x,foldedSetIterable iter X.env x=pure x:=by intro _; rfl):PS X (.For tg iter body [] pos) (tFor wi g tb):=by
 intro pins s σ H D I h
 refine wpAny_For (thn (hi pins s σ H _ I h) fun v s1 h1=>thn h1 fun itv s2 h2=>?_) hs
 obtain⟨it,fp,tn,J,H2,e,I2,T,st2,f2,W,⟨m0,w0⟩,turn⟩:=h2
 subst e
 -- what stays true of the iterator's objects through the loop
 have stat:∀ {H':Hp},(∀ b∈fp,H' b=none)->∀ b∈fp,g0v X pins H' b:=fun hn b hb=>⟨hn b hb,(f2 b hb).2⟩
 refine codeAny_forLoop_any (fun n s'=>∃ i σ' H',Inv X pins σ' H' s'/\tn i s'.heap/\(∀ b∈fp,H' b=none)/\W i n σ' H') ?_ m0 ⟨0,σ,H2,I2,st2,fun b hb=>(f2 b hb).1,w0⟩
 rintro n s3 ⟨i,σ3,H3,I3,st3,fr3,w3⟩
 rcases turn i n σ3 H3 w3 with ⟨stop,qn⟩ | ⟨go,N,hN,step⟩
 ·refine wpAny_passesOwn hp (thn (T.done X rfl rfl rfl hc i pins s3 σ3 H3 X.xe I3 (stat fr3) st3 stop) fun r s4 ⟨hr,I4⟩=>?_)
  subst hr
  exact wpAny_execs_nil ⟨σ3,H3,I4,qn⟩
 ·refine wpAny_passesOwn hp (thn (T.item X rfl rfl rfl hc i pins s3 σ3 H3 X.xe I3 (stat fr3) st3 go) fun r s4 ⟨u,hr,h4⟩=>?_)
  subst hr
  refine wpAny_passesOwn hp (thn h4 fun _ s5 ⟨x,H5,I5,r5,y5,st5,fr5⟩=>?_)
  have I5':=I5.pinned (stat fr5) (T.obj _ _ st5)
  refine wpAny_passesOwn hp (thn (hg _ s5 σ3 H5 x u _ I5' r5 (step x H5 y5)) fun _ s6 ⟨σ6,H6,I6,q6⟩=>?_)
  refine wpAny_passesOwn hp (thn (hb _ s6 σ6 H6 _ I6 q6) fun f s7 q7=>?_)
  have again:∀ {σ7:St} {H7:Hp},Inv X (pins++g1m fp s5.heap) σ7 H7 s7->N σ7 H7->∃ m,m < n/\∃ i σ' H',Inv X pins σ' H' s7/\tn i s7.heap/\(∀ b∈fp,H' b=none)/\W i m σ' H':=fun {σ7 H7} I7 n7=>by
   obtain⟨m',hm,w7⟩:=hN σ7 H7 n7
   refine⟨m',hm,i+1,σ7,H7,I7.f0m,T.keep _ _ _ st5 fun b hb o e=>(I7.pin (b,o) (List.mem_append_right _ (List.mem_append_right _ (b3j hb e)))).1,fun b hb=>?_,w7⟩
   obtain⟨o,e,d⟩:=T.obj _ _ st5 b hb
   exact (I7.pin (b,o) (List.mem_append_right _ (List.mem_append_right _ (b3j hb e)))).2.1
  cases f with
  | next=>obtain⟨σ7,H7,I7,n7⟩:=q7; exact again I7 n7
  | cont=>obtain⟨σ7,H7,I7,n7⟩:=q7; exact again I7 n7
  | brk=>obtain⟨σ7,H7,I7,q7⟩:=q7; exact⟨σ7,H7,I7.f0m,q7⟩
  | ret v=>obtain⟨x7,σ7,H7,I7,r7,q7⟩:=q7; exact⟨x7,σ7,H7,I7.f0m,r7,q7⟩
end
theorem i7v{K:PySem.W.Frag}{a:Addr}{xs:List V}{g:TG}{tb:TS}{D:Ends}{σ:St}{H:Hp}(Pv:Nat->St->Hp->Prop)(h0:Pv 0 σ H)(hl:∀ i σ H,i<=xs.length->Pv i σ H->SqL K H a xs)
  (hs:∀ i x σ H,xs[i]? = some x->Pv i σ H->g x σ H fun σ2 H2=>tb { D with nx:=Pv (i+1),ct:=Pv (i+1),bk:=D.nx } σ2 H2) (hd:∀ σ H,Pv xs.length σ H->D.nx σ H) :
  ∃ W:Nat->Nat->St->Hp->Prop,(∃ m,W 0 m σ H)/\∀ i m σ H,W i m σ H ->
   ((Itl K a).stop i H/\D.nx σ H)\/((Itl K a).go i H/\∃ N:St->Hp->Prop,(∀ σ' H',N σ' H'->∃ m',m' < m/\W (i+1) m' σ' H')/\∀ x H',(Itl K a).yld i H x H'->g x σ H' fun σ2 H2=>tb { D with nx:=N,ct:=N,bk:=D.nx } σ2 H2):=by
 refine⟨fun i m σ H=>m=xs.length - i/\i<=xs.length/\Pv i σ H,⟨xs.length,by simp,Nat.zero_le _,h0⟩,?_⟩
 rintro i m σ H ⟨rfl,hi,p⟩
 have q:=hl i σ H hi p
 by_cases hlt:i < xs.length
 ·refine .inr ⟨⟨xs,xs[i],q,by simp [hlt]⟩,Pv (i+1),fun σ' H' p'=>⟨xs.length - (i+1),by omega,rfl,hlt,p'⟩,fun x H' y=>?_⟩
  obtain⟨e,y⟩:=y
  subst e
  exact hs i x σ _ (y xs q) p
 ·have e:i=xs.length:=by omega
  subst e
  exact .inl ⟨⟨xs,q,Nat.le_refl _⟩,hd σ H p⟩
theorem j2r{K:PySem.W.Frag}{a:Addr}{xs:List V}{g:TG}{tb:TS}{D:Ends}{σ:St}{H:Hp}(Pv:Nat->St->Hp->Prop)(h0:Pv 0 σ H)(hl:∀ i σ H,i<=xs.length->Pv i σ H->SqT K H a xs)
  (hs:∀ i x σ H,xs[i]? = some x->Pv i σ H->g x σ H fun σ2 H2=>tb { D with nx:=Pv (i+1),ct:=Pv (i+1),bk:=D.nx } σ2 H2) (hd:∀ σ H,Pv xs.length σ H->D.nx σ H) :
  ∃ W:Nat->Nat->St->Hp->Prop,(∃ m,W 0 m σ H)/\∀ i m σ H,W i m σ H ->
   ((Itt K a).stop i H/\D.nx σ H)\/((Itt K a).go i H/\∃ N:St->Hp->Prop,(∀ σ' H',N σ' H'->∃ m',m' < m/\W (i+1) m' σ' H')/\∀ x H',(Itt K a).yld i H x H'->g x σ H' fun σ2 H2=>tb { D with nx:=N,ct:=N,bk:=D.nx } σ2 H2):=by
 refine⟨fun i m σ H=>m=xs.length - i/\i<=xs.length/\Pv i σ H,⟨xs.length,by simp,Nat.zero_le _,h0⟩,?_⟩
 rintro i m σ H ⟨rfl,hi,p⟩
 have q:=hl i σ H hi p
 by_cases hlt:i < xs.length
 ·refine .inr ⟨⟨xs,xs[i],q,by simp [hlt]⟩,Pv (i+1),fun σ' H' p'=>⟨xs.length - (i+1),by omega,rfl,hlt,p'⟩,fun x H' y=>?_⟩
  obtain⟨e,y⟩:=y
  subst e
  exact hs i x σ _ (y xs q) p
 ·have e:i=xs.length:=by omega
  subst e
  exact .inl ⟨⟨xs,q,Nat.le_refl _⟩,hd σ H p⟩
theorem i3j{lo:Int}{n:Nat}{g:TG}{tb:TS}{D:Ends}{σ:St}{H:Hp}(Pv:Nat->St->Hp->Prop)(h0:Pv 0 σ H)
  (hs:∀ i σ H,i < n->Pv i σ H->g (.int (lo+i)) σ H fun σ2 H2=>tb { D with nx:=Pv (i+1),ct:=Pv (i+1),bk:=D.nx } σ2 H2) (hd:∀ σ H,Pv n σ H->D.nx σ H) :
  ∃ W:Nat->Nat->St->Hp->Prop,(∃ m,W 0 m σ H)/\∀ i m σ H,W i m σ H ->
   ((Itr lo n).stop i H/\D.nx σ H)\/((Itr lo n).go i H/\∃ N:St->Hp->Prop,(∀ σ' H',N σ' H'->∃ m',m' < m/\W (i+1) m' σ' H')/\∀ x H',(Itr lo n).yld i H x H'->g x σ H' fun σ2 H2=>tb { D with nx:=N,ct:=N,bk:=D.nx } σ2 H2):=by
 refine⟨fun i m σ H=>m=n - i/\i<=n/\Pv i σ H,⟨n,by simp,Nat.zero_le _,h0⟩,?_⟩
 rintro i m σ H ⟨rfl,hi,p⟩
 by_cases hlt:i < n
 ·refine .inr ⟨hlt,Pv (i+1),fun σ' H' p'=>⟨n - (i+1),by omega,rfl,hlt,p'⟩,fun x H' y=>?_⟩
  obtain⟨e,y⟩:=y
  subst e y
  exact hs i σ _ hlt p
 ·have e:i=n:=by omega
  subst e
  exact .inl ⟨Nat.le_refl _,hd σ H p⟩
end L2
namespace L2
open PySem PySem.Spec PyProof.Rows
noncomputable abbrev R2:=V->V->Hp->VK->Prop
def OpR(X:Cx)(f:Value->Value->Sem Value)(r:R2):Prop :=
 ∀ (pins:List (Addr×Obj)) (s:Shared) (σ:St) (H:Hp) (x y:V) (v u:Value) (Q:VK),Inv X pins σ H s->RelV x v->RelV y u->r x y H Q ->
  wpAny (model X.prog X.w) X.A (f v u) (EP X pins σ Q) X.xe s
def UnR(X:Cx)(f:Value->Sem Value)(r:V->Hp->VK->Prop):Prop :=
 ∀ (pins:List (Addr×Obj)) (s:Shared) (σ:St) (H:Hp) (x:V) (v:Value) (Q:VK),Inv X pins σ H s->RelV x v->r x H Q ->
  wpAny (model X.prog X.w) X.A (f v) (EP X pins σ Q) X.xe s
def c6j(X:Cx)(f:Value)(r:List V->Hp->VK->Prop):Prop :=
 ∀ (pins:List (Addr×Obj)) (s:Shared) (σ:St) (H:Hp) (xs:List V) (us:List Value) (Q:VK),Inv X pins σ H s->Vals xs us->r xs H Q ->
  wpAny (model X.prog X.w) X.A (call f us) (EP X pins σ Q) X.xe s
def tOp(r:R2)(ta tb:TE):TE:=fun σ H Q=>ta σ H fun x H1=>tb σ H1 fun y H2=>r x y H2 Q
def tUn(r:V->Hp->VK->Prop)(ta:TE):TE:=fun σ H Q=>ta σ H fun x H1=>r x H1 Q
def rI(C:Int->Int->Prop)(g:Int->Int->V):R2:=fun x y H Q=>∃ i j,x = .int i/\y = .int j/\C i j/\Q (g i j) H
def rI0(g:Int->Int->V):R2:=fun x y H Q=>∃ i j,x = .int i/\y = .int j/\Q (g i j) H
noncomputable def rU(g:Int->V):V->Hp->VK->Prop:=fun x H Q=>∃ i,x = .int i/\Q (g i) H
section
variable {X:Cx}{a b c:Expr}{ta tb tc:TE}{pos:Pos}
theorem k2d(ha:PE X a ta)(hb:PE X b tb){pins:List (Addr×Obj)}{s:Shared}{σ:St}{H:Hp}{R:V->V->Hp->Prop}(I:Inv X pins σ H s)
  (h:ta σ H fun x H1=>tb σ H1 fun y H2=>R x y H2) {Q:Value->Shared->Prop} {f:Value->Value->Sem Value}
  (hf:∀ v u s2 x y H2,Inv X pins σ H2 s2->RelV x v->RelV y u->R x y H2->wpAny (model X.prog X.w) X.A (f v u) Q X.xe s2) :
  wpAny (model X.prog X.w) X.A (eval a X.env) (fun v s₁=>wpAny (model X.prog X.w) X.A (eval b X.env) (fun u s₂=>wpAny (model X.prog X.w) X.A (f v u) Q X.xe s₂) X.xe s₁) X.xe s:=by
 refine thn (ha pins s σ H _ I h) fun v s1 ⟨x,H1,I1,r1,q1⟩=>?_
 refine thn (hb pins s1 σ H1 _ I1 q1) fun u s2 ⟨y,H2,I2,r2,q2⟩=>?_
 exact hf v u s2 x y H2 I2 r1 r2 q2
theorem a1l{op:Operator}{r:R2}(ho:OpR X (binaryOp op) r)(ha:PE X a ta)(hb:PE X b tb):PE X (.BinOp a op b pos) (tOp r ta tb):=by
 intro pins s σ H Q I h
 exact wpAny_BinOp (k2d ha hb I h fun v u s2 x y H2 I2 rx ry q=>ho pins s2 σ H2 x y v u Q I2 rx ry q)
theorem j6u{op:UnaryOp}{r:V->Hp->VK->Prop}(ho:UnR X (unaryOp op) r)(ha:PE X a ta):PE X (.UnaryOp op a pos) (tUn r ta):=by
 intro pins s σ H Q I h
 exact UnaryOp_ (thn (ha pins s σ H _ I h) fun v s1 ⟨x,H1,I1,r1,q1⟩=>ho pins s1 σ H1 x v Q I1 r1 q1)
theorem opI{f:Value->Value->Sem Value}{C:Int->Int->Prop}{g:Int->Int->Int}
  (rule:∀ (i j:Int) (t u:Tok) (s:Shared) (Q:Value->Shared->Prop) (E:Value->Shared->Prop),C i j->Q (.int (g i j) s.toks) { s with toks:=s.toks+1 }->wpAny (model X.prog X.w) X.A (f (.int i t) (.int j u)) Q E s) :
  OpR X f (rI C fun i j=>.int (g i j)):=by
 intro pins s σ H x y v u Q I rx ry h
 obtain⟨i,j,rfl,rfl,hc,q⟩:=h
 obtain⟨t,rfl⟩:=rx
 obtain⟨t',rfl⟩:=ry
 exact rule i j t t' s _ _ hc ⟨.int (g i j),H,I.tok _,⟨_,rfl⟩,q⟩
theorem k4t{f:Value->Value->Sem Value}{g:Int->Int->Int}
  (rule:∀ (i j:Int) (t u:Tok) (s:Shared) (Q:Value->Shared->Prop) (E:Value->Shared->Prop),Q (.int (g i j) s.toks) { s with toks:=s.toks+1 }->wpAny (model X.prog X.w) X.A (f (.int i t) (.int j u)) Q E s) :
  OpR X f (rI0 fun i j=>.int (g i j)):=by
 intro pins s σ H x y v u Q I rx ry h
 obtain⟨i,j,rfl,rfl,q⟩:=h
 obtain⟨t,rfl⟩:=rx
 obtain⟨t',rfl⟩:=ry
 exact rule i j t t' s _ _ ⟨.int (g i j),H,I.tok _,⟨_,rfl⟩,q⟩
theorem k1j{f:Value->Value->Sem Value}{g:Int->Int->Bool}
  (rule:∀ (i j:Int) (t u:Tok) (s:Shared) (Q:Value->Shared->Prop) (E:Value->Shared->Prop),Q (.bool (g i j)) s->wpAny (model X.prog X.w) X.A (f (.int i t) (.int j u)) Q E s) :
  OpR X f (rI0 fun i j=>.bl (g i j)):=by
 intro pins s σ H x y v u Q I rx ry h
 obtain⟨i,j,rfl,rfl,q⟩:=h
 obtain⟨t,rfl⟩:=rx
 obtain⟨t',rfl⟩:=ry
 exact rule i j t t' s _ _ ⟨.bl (g i j),H,I,rfl,q⟩
def k4u(i j:Int):Prop:=0<=j/\j<=1000000/\i.natAbs < 2 ^ 64
def k4v(i j:Int):Prop:=(-(2 ^ 64) < i/\i < 2 ^ 64)\/(-(2 ^ 64) < j/\j < 2 ^ 64)
theorem k4v.ok{i j:Int}(h:k4v i j):IntMulOk i j:=by
 rcases h with ⟨h1,h2⟩ | ⟨h1,h2⟩
 ·exact .of_left (intBits_le_64 h1 h2)
 ·exact .of_right (intBits_le_64 h1 h2)
theorem j6v:OpR X (binaryOp .Add) (rI0 fun i j=>.int (i+j)):=k4t fun _ _ _ _ _ _ _ q=>add_int q
theorem j6w:OpR X (binaryOp .Sub) (rI0 fun i j=>.int (i - j)):=k4t fun _ _ _ _ _ _ _ q=>sub_int q
theorem j2s:OpR X (binaryOp .Mod) (rI (fun _ j=>j≠0) fun i j=>.int (i.fmod j)):=opI fun _ _ _ _ _ _ _ hc q=>mod_int' hc q
theorem j6x:OpR X (binaryOp .Pow) (rI k4u fun i j=>.int (i ^ j.toNat)):=opI fun _ _ _ _ _ _ _ hc q=>pow_int_small hc.1 hc.2.1 hc.2.2 q
theorem unI{f:Value->Sem Value}{g:Int->Int}
  (rule:∀ (i:Int) (t:Tok) (s:Shared) (Q:Value->Shared->Prop) (E:Value->Shared->Prop),Q (.int (g i) s.toks) { s with toks:=s.toks+1 }->wpAny (model X.prog X.w) X.A (f (.int i t)) Q E s) :
  UnR X f (rU fun i=>.int (g i)):=by
 intro pins s σ H x v Q I rx h
 obtain⟨i,rfl,q⟩:=h
 obtain⟨t,rfl⟩:=rx
 exact rule i t s _ _ ⟨.int (g i),H,I.tok _,⟨_,rfl⟩,q⟩
theorem j6y:UnR X (unaryOp .USub) (rU fun i=>.int (-i)):=unI fun _ _ _ _ _ q=>neg_int q
end
noncomputable def i0j:V->V->Bool
 | .non,.non=>true | .non,.int _=>true | .int _,.non=>true | .non,.bl _=>true | .bl _,.non=>true | .non,.str _=>true | .str _,.non=>true
 | .int _,.int _=>true | .bl _,.bl _=>true | .str _,.str _=>true | .byt _,.byt _=>true
 | .int _,.str _=>true | .str _,.int _=>true | .bl _,.str _=>true | .str _,.bl _=>true
 | _,_=>false
def rEq:R2:=fun x y H Q=>i0j x y=true/\Q (.bl (decide (x=y))) H
def rNe:R2:=fun x y H Q=>i0j x y=true/\Q (.bl (!decide (x=y))) H
theorem i3k{i j:Int}:decide (V.int i=V.int j)=(i == j):=by
 rw [Bool.eq_iff_iff]
 simp
theorem j0m{i j:Bool}:decide (V.bl i=V.bl j)=(i == j):=by
 rw [Bool.eq_iff_iff]
 simp
theorem i3l{i j:Str}:decide (V.str i=V.str j)=(i == j):=by
 rw [Bool.eq_iff_iff]
 simp
theorem i3m{i j:Array UInt8}:decide (V.byt i=V.byt j)=(i.toList == j.toList):=by
 rw [Bool.eq_iff_iff]
 cases i
 cases j
 simp
section
variable {X:Cx}{a b c:Expr}{ta tb tc:TE}{pos:Pos}
theorem a6u{pins:List (Addr×Obj)}{σ:St}{H:Hp}{s:Shared}{Q:VK}{k k':Bool}(I:Inv X pins σ H s)(q:Q (.bl k) H)(e:k=k'):EP X pins σ Q (.bool k') s:=by
 subst e
 exact⟨.bl k,H,I,rfl,q⟩
theorem k2e:OpR X (compareOp .Eq) rEq:=by
 intro pins s σ H x y v u Q I rx ry h
 obtain⟨hs,q⟩:=h
 cases x with
 | non =>
  cases rx
  cases y with
  | non=>cases ry; exact PySem.EqNone.eq_none_none (a6u I q (by simp))
  | bl j=>cases ry; exact PySem.EqNone.eq_none_bool (a6u I q (by simp))
  | int j=>obtain⟨t',rfl⟩:=ry; exact PySem.EqNone.eq_none_int (a6u I q (by simp))
  | str j=>obtain⟨t',rfl⟩:=ry; exact PySem.EqNone.eq_none_str (a6u I q (by simp))
  | _=>exact absurd (show false=true from hs) Bool.false_ne_true
 | bl i =>
  cases rx
  cases y with
  | non=>cases ry; exact PySem.EqNone.eq_bool_none (a6u I q (by simp))
  | bl j=>cases ry; exact eq_bool (a6u I q j0m)
  | str j=>obtain⟨t',rfl⟩:=ry; exact PySem.EqMixed.eq_bool_str (a6u I q (by simp))
  | _=>exact absurd (show false=true from hs) Bool.false_ne_true
 | int i =>
  obtain⟨t,rfl⟩:=rx
  cases y with
  | non=>cases ry; exact PySem.EqNone.eq_int_none (a6u I q (by simp))
  | int j=>obtain⟨t',rfl⟩:=ry; exact eq_int (a6u I q i3k)
  | str j=>obtain⟨t',rfl⟩:=ry; exact PySem.EqMixed.eq_int_str (a6u I q (by simp))
  | _=>exact absurd (show false=true from hs) Bool.false_ne_true
 | str i =>
  obtain⟨t,rfl⟩:=rx
  cases y with
  | non=>cases ry; exact PySem.EqNone.eq_str_none (a6u I q (by simp))
  | bl j=>cases ry; exact PySem.EqMixed.eq_str_bool (a6u I q (by simp))
  | int j=>obtain⟨t',rfl⟩:=ry; exact PySem.EqMixed.eq_str_int (a6u I q (by simp))
  | str j=>obtain⟨t',rfl⟩:=ry; exact eq_str (a6u I q i3l)
  | _=>exact absurd (show false=true from hs) Bool.false_ne_true
 | byt i =>
  obtain⟨t,rfl⟩:=rx
  cases y with
  | byt j=>obtain⟨t',rfl⟩:=ry; exact PySem.W.eq_bytes (a6u I q i3m)
  | _=>exact absurd (show false=true from hs) Bool.false_ne_true
 | _=>cases y <;> exact absurd (show false=true from hs) Bool.false_ne_true
theorem k2f:OpR X (compareOp .NotEq) rNe:=by
 intro pins s σ H x y v u Q I rx ry h
 obtain⟨hs,q⟩:=h
 cases x with
 | non =>
  cases rx
  cases y with
  | non=>cases ry; exact PySem.EqNone.ne_none_none (a6u I q (by simp))
  | bl j=>cases ry; exact PySem.EqNone.ne_none_bool (a6u I q (by simp))
  | int j=>obtain⟨t',rfl⟩:=ry; exact PySem.EqNone.ne_none_int (a6u I q (by simp))
  | str j=>obtain⟨t',rfl⟩:=ry; exact PySem.EqNone.ne_none_str (a6u I q (by simp))
  | _=>exact absurd (show false=true from hs) Bool.false_ne_true
 | bl i =>
  cases rx
  cases y with
  | non=>cases ry; exact PySem.EqNone.ne_bool_none (a6u I q (by simp))
  | bl j=>cases ry; exact ne_bool (a6u I q (congrArg not j0m))
  | str j=>obtain⟨t',rfl⟩:=ry; exact PySem.EqMixed.ne_bool_str (a6u I q (by simp))
  | _=>exact absurd (show false=true from hs) Bool.false_ne_true
 | int i =>
  obtain⟨t,rfl⟩:=rx
  cases y with
  | non=>cases ry; exact PySem.EqNone.ne_int_none (a6u I q (by simp))
  | int j=>obtain⟨t',rfl⟩:=ry; exact ne_int (a6u I q (congrArg not i3k))
  | str j=>obtain⟨t',rfl⟩:=ry; exact PySem.EqMixed.ne_int_str (a6u I q (by simp))
  | _=>exact absurd (show false=true from hs) Bool.false_ne_true
 | str i =>
  obtain⟨t,rfl⟩:=rx
  cases y with
  | non=>cases ry; exact PySem.EqNone.ne_str_none (a6u I q (by simp))
  | bl j=>cases ry; exact PySem.EqMixed.ne_str_bool (a6u I q (by simp))
  | int j=>obtain⟨t',rfl⟩:=ry; exact PySem.EqMixed.ne_str_int (a6u I q (by simp))
  | str j=>obtain⟨t',rfl⟩:=ry; exact ne_str (a6u I q (congrArg not i3l))
  | _=>exact absurd (show false=true from hs) Bool.false_ne_true
 | byt i =>
  obtain⟨t,rfl⟩:=rx
  cases y with
  | byt j=>obtain⟨t',rfl⟩:=ry; exact PySem.W.ne_bytes (a6u I q (congrArg not i3m))
  | _=>exact absurd (show false=true from hs) Bool.false_ne_true
 | _=>cases y <;> exact absurd (show false=true from hs) Bool.false_ne_true
theorem k2g:OpR X (compareOp .Lt) (rI0 fun i j=>.bl (decide (i < j))):=k1j fun _ _ _ _ _ _ _ q=>lt_int q
theorem k2h:OpR X (compareOp .LtE) (rI0 fun i j=>.bl (decide (i<=j))):=k1j fun _ _ _ _ _ _ _ q=>le_int q
theorem k2i:OpR X (compareOp .Gt) (rI0 fun i j=>.bl (decide (j < i))):=k1j fun _ _ _ _ _ _ _ q=>gt_int q
theorem k2j:OpR X (compareOp .GtE) (rI0 fun i j=>.bl (decide (j<=i))):=k1j fun _ _ _ _ _ _ _ q=>ge_int q
theorem i3n:OpR X (compareOp .In) (fun x y H Q=>∃ i j,x = .str i/\y = .str j/\Q (.bl (!(Builtin.Str.occurrences j i 0 j.length 1).isEmpty)) H):=by
 intro pins s σ H x y v u Q I rx ry h
 obtain⟨i,j,rfl,rfl,q⟩:=h
 obtain⟨t,rfl⟩:=rx
 obtain⟨t',rfl⟩:=ry
 exact in_str (a6u I q rfl)
theorem i3o:OpR X (compareOp .Is) (fun x y H Q=>y = .non/\Q (.bl (decide (x = .non))) H):=by
 intro pins s σ H x y v u Q I rx ry h
 obtain⟨rfl,q⟩:=h
 cases ry
 refine is_none_gen (a6u I q ?_)
 cases x <;> first
  | (cases rx; rfl)
  | (obtain⟨t,rfl⟩:=rx; rfl)
theorem a2n(b:Expr){op:CmpOp}(h:op≠.In:=by decide)(h2:op≠.NotIn:=by decide):behindInMarks op b=false:=by
 have e1:(op == CmpOp.In)=false:=by cases op <;> first | rfl | exact absurd rfl h
 have e2:(op == CmpOp.NotIn)=false:=by cases op <;> first | rfl | exact absurd rfl h2
 cases b <;> simp [behindInMarks,e1,e2]
theorem d7t{op:CmpOp}{r:R2}(ho:OpR X (compareOp op) r)(ha:PE X a ta)(hb:PE X b tb)(hm:behindInMarks op b=false):PE X (.Compare a [op] [b] pos) (tOp r ta tb):=by
 intro pins s σ H Q I h
 exact wpAny_Compare1 (k2d ha hb I h fun v u s2 x y H2 I2 rx ry q=>ho pins s2 σ H2 x y v u Q I2 rx ry q) hm
def j6z(t:TE):TT:=fun σ H Q=>t σ H fun x H'=>∃ k,x = .bl k/\Q k H'
theorem j2t{op:CmpOp}{r:R2}(ho:OpR X (compareOp op) r)(ha:PE X a ta)(hb:PE X b tb)(hm:behindInMarks op b=false):PT X (.Compare a [op] [b] pos) (j6z (tOp r ta tb)):=by
 intro pins s σ H Q I h
 refine wpAny_isTrue_Compare1 (thn (ha pins s σ H _ I h) fun v s1 ⟨x,H1,I1,r1,q1⟩=>thn (hb pins s1 σ H1 _ I1 q1) fun u s2 ⟨y,H2,I2,r2,q2⟩ =>
  thn (ho pins s2 σ H2 x y v u _ I2 r1 r2 q2) fun c s3 ⟨z,H3,I3,r3,k,e,q3⟩=>?_) hm
 subst e
 cases r3
 exact wpAny_truthy_bool ⟨H3,I3,q3⟩
theorem h1v:(sizeLine:Nat) < 2 ^ 63:=by rw [sizeLine_eq]; decide
theorem i0k:OpR X (binaryOp .Add) (fun x y H Q=>∃ i j,x = .str i/\y = .str j/\i.length+j.length<=sizeLine/\Q (.str (i++j)) H):=by
 intro pins s σ H x y v u Q I rx ry h
 obtain⟨i,j,rfl,rfl,hz,q⟩:=h
 obtain⟨t,rfl⟩:=rx
 obtain⟨t',rfl⟩:=ry
 exact add_str (fun t' tk=>⟨.str (i++j),H,I.tok _,⟨_,rfl⟩,q⟩) hz
theorem vals1{x:V}{us:List Value}(r:Vals [x] us):∃ u,us = [u]/\RelV x u:=by
 cases r with
 | cons r1 r2=>cases r2; exact⟨_,rfl,r1⟩
theorem vals2{x y:V}{us:List Value}(r:Vals [x,y] us):∃ u w',us = [u,w']/\RelV x u/\RelV y w':=by
 cases r with
 | cons r1 r2 =>
  cases r2 with
  | cons r3 r4=>cases r4; exact⟨_,_,rfl,r1,r3⟩
theorem i7w : c6j X (.builtin "abs") (fun xs H Q => ∃ i, xs = [.int i] ∧ Q (.int (if i < 0 then -i else i)) H) := by
 intro pins s σ H xs us Q I r h
 obtain⟨i,rfl,q⟩:=h
 obtain⟨u,rfl,t,rfl⟩:=vals1 r
 exact call_abs_int fun u tk=>⟨.int (if i < 0 then -i else i),H,I.tok _,⟨_,rfl⟩,q⟩
theorem i3p (hc : X.calm = true) : c6j X (.builtin "max") (fun xs H Q => ∃ i j, xs = [.int i, .int j] ∧ Q (.int (if j > i then j else i)) H) := by
 intro pins s σ H xs us Q I r h
 obtain⟨i,j,rfl,q⟩:=h
 obtain⟨u,w',rfl,⟨t,rfl⟩,⟨t',rfl⟩⟩:=vals2 r
 refine max_two_ints (I.ok.hd hc) fun h' tk k=>⟨_,H,I.kept k,?_,q⟩
 by_cases hj:j > i
 ·rw [if_pos hj,if_pos hj]; exact⟨_,rfl⟩
 ·rw [if_neg hj,if_neg hj]; exact⟨_,rfl⟩
theorem h1w : c6j X (.type "int") (fun xs H Q => (∃ i, xs = [.int i] ∧ Q (.int i) H) ∨ ∃ k, xs = [.bl k] ∧ Q (.int (if k then 1 else 0)) H) := by
 intro pins s σ H xs us Q I r h
 rcases h with ⟨i,rfl,q⟩ | ⟨k,rfl,q⟩
 ·obtain⟨u,rfl,t,rfl⟩:=vals1 r
  exact call_int_int ⟨.int i,H,I,⟨_,rfl⟩,q⟩
 ·obtain⟨u,rfl,r1⟩:=vals1 r
  cases r1
  exact call_int_bool ⟨.int (if k then 1 else 0),H,I.tok _,⟨_,rfl⟩,q⟩
theorem h1x : c6j X (.type "str") (fun xs H Q => ∃ i, xs = [.int i] ∧ i.natAbs.log2 < 1920 ∧ Q (.str (toString i)) H) := by
 intro pins s σ H xs us Q I r h
 obtain⟨i,rfl,hz,q⟩:=h
 obtain⟨u,rfl,t,rfl⟩:=vals1 r
 exact PySem.P.str_of_int hz ⟨.str _,H,I.tok _,⟨_,rfl⟩,q⟩
end
end L2
namespace L2
open PySem PySem.Spec PyProof.Rows
structure j2u(h:Heap)(x dx C:Addr)(mA:Str->Option Value):Prop where
 obj:h.get? x=some (PySem.W.instObj C dx)
 ns:h.Ns1 dx mA
 ne:dx≠x
theorem i3q{h:Heap}{dx:Addr}{mA:Str->Option Value}(n:h.Ns1 dx mA):∃ od,h.get? dx=some od/\∀ name,PySem.W.lookIn name od=some (mA name):=by
 obtain⟨o,es,ep,ho,hd,hk,_,hm⟩:=n
 refine⟨o,ho,fun name=>?_⟩
 have e:=hm name
 unfold nsFind findBy at e
 rw [<- Array.find?_toList] at e
 unfold PySem.W.lookIn
 rw [hd]
 dsimp only
 split
 ·rename_i y q
  rw [q] at e
  exact congrArg some e
 ·rename_i q
  rw [q] at e
  have a:es.toList.any (·.refKey)=false:=by
   rw [List.any_eq_false]
   intro y hy
   obtain⟨z,t,hkey⟩:=hk y (Array.mem_toList_iff.mp hy)
   simp [DictEntry.refKey,hkey]
  have a':¬ es.toList.any (·.refKey)=true:=by rw [a]; exact Bool.false_ne_true
  rw [if_neg a']
  exact congrArg some e
theorem j2u.look{h:Heap}{x dx C:Addr}{mA:Str->Option Value}(I:j2u h x dx C mA):∃ od,PySem.W.InstAt h x (PySem.W.instObj C dx) C (some od)/\∀ name,PySem.W.lookIn name od=some (mA name) :=
 let ⟨od,ho,hl⟩:=i3q I.ns
 ⟨od,⟨I.obj,rfl,rfl,ho⟩,hl⟩
section
variable {prog:Program}{w:World}{A:Around}{E:Value->Shared->Prop}{s:Shared}{K:PySem.W.Frag}{x dx C f:Addr}{mA:Str->Option Value}{name:Str}{v:Value}
theorem get_map{expr:Bool}{Q:Value->Shared->Prop}(X:K.In s.heap)(I:j2u s.heap x dx C mA)(hg:PySem.W.plainGet K C name=true)(hh:PySem.W.hasDictIn K C=true)
  (ha:PySem.W.findIn K (.ref C) name=some none) (hv:mA name=some v) (hv':PySem.W.handedIn v=true) (h:Q v { s with toks:=s.toks+1 }) :
  wpAny (model prog w) A (getAttr (.ref x) name expr) Q E s:=by
 obtain⟨od,J,hl⟩:=I.look
 exact PySem.W.get_value X J (PySem.W.plainGet_of hg).1 (PySem.W.findObj_own hh ha rfl (by rw [hl,hv])) hv' h
theorem i7x{pl:Sem Bool}{Q:Value×List Value->Shared->Prop}(X:K.In s.heap)(I:j2u s.heap x dx C mA)(hg:PySem.W.plainGet K C name=true)
  (hf:PySem.W.findIn K (.ref C) name=some (some (.ref f))) (ht:PySem.W.isFn K (.ref f)=true) (hv:mA name=none) (h:Q (.ref f,[.ref x]) s) :
  wpAny (model prog w) A (getMethod (.ref x) name pl) Q E s:=by
 obtain⟨od,J,hl⟩:=I.look
 exact PySem.W.method_fn X J (PySem.W.plainGet_of hg).1 (PySem.W.plainGet_of hg).2 hf (beq_iff_eq.mp ht) (by show (PySem.W.lookIn name od).map (·.isSome)=some false; rw [hl,hv]; rfl) h
theorem j2v{ns:List Str}{Q:Unit->Shared->Prop}(X:K.In s.heap)(I:j2u s.heap x dx C mA)
  (hs : PySem.W.findIn K (.ref C) "__setattr__" = some (some (.builtin "object.__setattr__"))) (hp : PySem.W.plainOver K C = true) (ht : PySem.W.takerIn K C name = some none) (hh : PySem.W.hasDictIn K C = true)
  (hw:PySem.Within mA ns) (hsz:ns.length<=sizeLine)
  (h:∀ h',j2u h' x dx C (fun y=>if y=name then some v else mA y)->Heap.SameBut dx s.heap h'->Q () { s with heap:=h',toks:=s.toks+2 }) :
  wpAny (model prog w) A (setAttr (.ref x) name v) Q E s:=by
 obtain⟨od,J,hl⟩:=I.look
 refine PySem.W.set_plain X J hs (PySem.W.osa_open (s:={ s with toks:=s.toks+1 }) (r:=none) X J hp ht fun b=>?_)
 obtain⟨cd,hc,hd'⟩:=PySem.W.any_some hh
 have hx:s.heap.get? x=some ⟨.ref C,some dx,.plain,#[]⟩:=I.obj
 refine wpAny_bind (wpAny_pure (wpAny_bind (wpAny_bind (wpAny_loadPart hx (wpAny_bind (PySem.W.Looks.here (s:={ s with toks:=s.toks+1 }) (PySem.W.looks_clsIn X hc) ?_))))))
 rw [hd']
 refine wpAny_pure (a:=some dx) (wpAny_bind (wpAny_pure (wpAny_bind ?_)))
 refine wpAny_nsSet1 (s:={ s with toks:=s.toks+1 }) I.ns fun h' hn2 hs2=>?_
 obtain⟨oD,esD,epD,hoD,hdD,hcD⟩:=hn2.count (PySem.Within.cons name v hw)
 refine wpAny_bind (wpAny_lookBehind hoD (by rw [hdD]; exact pastItsLine_dict (Nat.le_trans hcD (by rw [List.length_cons]; omega))) ?_)
 exact wpAny_pure (h _ ⟨(hs2.2 _ (Ne.symm I.ne)).trans I.obj,hn2,I.ne⟩ hs2)
theorem h8g{R:Result->Shared->Prop}{vs:List Value}{kw:List (Str×Value)}(X:K.In s.heap)(hm:PySem.W.makesIn K C=true)
  (hi : PySem.W.findIn K (.ref C) "__init__" = some (some (.ref f))) (hf : PySem.W.typeIn K (.ref f) = some (.type "function"))
  (h : codeAny (model prog w) (A.under (.builtin "type.__call__" ⟨.ref C :: vs, kw⟩)) (.call (.ref f) ⟨.ref (s.heap.objs.size + 1) :: vs, kw⟩) (PySem.W.InitBack (s.heap.objs.size + 1) R)
   { s with heap:=(s.heap.push PySem.W.emptyDict).push (PySem.W.instObj C s.heap.objs.size) }) :
  codeAny (model prog w) A (.call (.ref C) ⟨vs,kw⟩) R s:=by
 obtain⟨hh,g,d,t,os⟩:=s
 exact PySem.W.make_core (PySem.W.makes_of X hm) (PySem.W.looks_findIn X hi) (fun self=>PySem.W.bind_fn X self hf) (.inl rfl) h
end
noncomputable def g1n(f:Str)(v:V):List (Str×V)->List (Str×V)
 | []=>[(f,v)]
 | (g,x) :: r=>if g=f then (g,v) :: r else (g,x) :: g1n f v r
theorem g1o(f g:Str)(v:V):∀ fs:List (Str×V),(g1n f v fs).lookup g=if g=f then some v else fs.lookup g
 | []=>by
  show List.lookup g [(f,v)]=_
  by_cases h:g=f
  ·have hb:(g == f)=true:=beq_iff_eq.mpr h
   simp only [List.lookup,hb,if_pos h]
  ·have hb:(g == f)=false:=beq_eq_false_iff_ne.mpr h
   simp only [List.lookup,hb,if_neg h]
 | (k,x) :: r=>by
  have ih:=g1o f g v r
  rw [show g1n f v ((k,x) :: r)=(if k=f then (k,v) :: r else (k,x) :: g1n f v r) from rfl]
  by_cases hk:k=f
  ·rw [if_pos hk]
   by_cases h:g=k
   ·have hb:(g == k)=true:=beq_iff_eq.mpr h
    simp only [List.lookup,hb,if_pos (h.trans hk)]
   ·have hb:(g == k)=false:=beq_eq_false_iff_ne.mpr h
    simp only [List.lookup,hb,if_neg (fun e:g=f=>h (e.trans hk.symm))]
  ·rw [if_neg hk]
   by_cases h:g=k
   ·have hb:(g == k)=true:=beq_iff_eq.mpr h
    simp only [List.lookup,hb,if_neg (fun e:g=f=>hk (h.symm.trans e))]
   ·have hb:(g == k)=false:=beq_eq_false_iff_ne.mpr h
    simp only [List.lookup,hb]
    exact ih
theorem g1p(f:Str)(v:V):∀ fs:List (Str×V),f∈(g1n f v fs).map (·.1)/\∀ g,g∈fs.map (·.1)->g∈(g1n f v fs).map (·.1)
 | []=>⟨by simp [g1n],fun g h=>by simp at h⟩
 | (k,x) :: r=>by
  obtain⟨i1,i2⟩:=g1p f v r
  rw [show g1n f v ((k,x) :: r)=(if k=f then (k,v) :: r else (k,x) :: g1n f v r) from rfl]
  by_cases hk:k=f
  ·rw [if_pos hk]
   subst hk
   exact⟨by simp,fun g h=>by simpa using h⟩
  ·rw [if_neg hk]
   refine⟨?_,fun g h=>?_⟩
   ·rw [List.map_cons]
    exact List.mem_cons_of_mem _ i1
   ·rw [List.map_cons] at h ⊢
    rcases List.mem_cons.mp h with e | e
    ·exact List.mem_cons.mpr (.inl e)
    ·exact List.mem_cons_of_mem _ (i2 g e)
theorem g1q(f:Str)(v:V):∀ fs:List (Str×V),(g1n f v fs).length<=fs.length+1
 | []=>by simp [g1n]
 | (k,x) :: r=>by
  have ih:=g1q f v r
  rw [show g1n f v ((k,x) :: r)=(if k=f then (k,v) :: r else (k,x) :: g1n f v r) from rfl]
  by_cases hk:k=f
  ·rw [if_pos hk,List.length_cons,List.length_cons]; omega
  ·rw [if_neg hk,List.length_cons,List.length_cons]; omega
theorem i2u.some_of{v:V}{o:Option Value}(r:i2u (some v) o):∃ u,o=some u/\RelV v u:=by
 cases o with
 | none=>exact (show False from r).elim
 | some u=>exact⟨u,rfl,r⟩
theorem i2u.none_of{o:Option Value}(r:i2u none o):o=none:=by
 cases o with
 | none=>rfl
 | some u=>exact (show False from r).elim
theorem i3r{v:V}{u:Value}(r:RelV v u):PySem.W.handedIn u=true:=by
 cases v with
 | non=>cases (show u=Value.none from r); rfl
 | bl b=>cases (show u=Value.bool b from r); rfl
 | int i=>obtain⟨t,e⟩:=(show ∃ t,u=Value.int i t from r); cases e; rfl
 | str x=>obtain⟨t,e⟩:=(show ∃ t,u=Value.str x t from r); cases e; rfl
 | byt b=>obtain⟨t,e⟩:=(show ∃ t,u=Value.bytes b t from r); cases e; rfl
 | flt b=>obtain⟨t,e⟩:=(show ∃ t,u=Value.float b t from r); cases e; rfl
 | ref a=>cases (show u=Value.ref a from r); rfl
 | ty n=>cases (show u=Value.type n from r); rfl
section
variable {P:Program}{w:World}{H H':Hp}{h h':Heap}{a C dx:Addr}{fs fs':List (Str×V)}
theorem g8b(hok:HOk P w H h)(e:H a=some (.ins C dx fs)):∃ mA,j2u h a dx C mA/\(∀ f,i2u (fs.lookup f) (mA f))/\PySem.Within mA (fs.map (·.1))/\fs.length<=1000/\H dx=some (.own a):=by
 obtain⟨d,z,ne,ob,mA,n,r,q⟩:=(show c4u P w H h a (.ins C dx fs) from hok a _ e)
 exact⟨mA,⟨ob,n,ne⟩,r,q,z,d⟩
end
structure Cls(K:PySem.W.Frag)(C:Addr):Prop where
 pg:PySem.W.plainGet K C Str.empty=true
 hd:PySem.W.hasDictIn K C=true
 po:PySem.W.plainOver K C=true
 sa : PySem.W.findIn K (.ref C) "__setattr__" = some (some (.builtin "object.__setattr__"))
theorem Cls.get{K:PySem.W.Frag}{C:Addr}(c:Cls K C)(f:Str):PySem.W.plainGet K C f=true:=c.pg
def a5k(K:PySem.W.Frag)(C:Addr)(f:Str):Prop:=PySem.W.findIn K (.ref C) f=some none
theorem a5k.taker{K:PySem.W.Frag}{C:Addr}{f:Str}(n:a5k K C f):PySem.W.takerIn K C f=some none:=by
 unfold PySem.W.takerIn
 rw [show PySem.W.findIn K (.ref C) f=some none from n]
 rfl
structure Con(K:PySem.W.Frag)(C:Addr)(f:Str)(v:V)(u:Value):Prop where
 at_:PySem.W.findIn K (.ref C) f=some (some u)
 rel:RelV v u
 get : PySem.W.specialIn K u "__get__" = some none
 cp:PySem.W.copiedNames.contains f=false
structure Meth(K:PySem.W.Frag)(C:Addr)(m:Str)(f:Addr):Prop where
 at_:PySem.W.findIn K (.ref C) m=some (some (.ref f))
 fn:PySem.W.isFn K (.ref f)=true
 kp:PySem.W.keepIn K (.ref f)=true
section
variable {X:Cx}{pins:List (Addr×Obj)}{σ:St}{H:Hp}{s:Shared}{a C dx:Addr}{fs:List (Str×V)}{f:Str}{v:V}{A:Around}{E:Value->Shared->Prop}
theorem i0l{b:Bool}{Q:Value->Shared->Prop}(I:Inv X pins σ H s)(e:H a=some (.ins C dx fs))(c:Cls X.K C)(n:a5k X.K C f)(l:fs.lookup f=some v)
  (h:∀ u s',Inv X pins σ H s'->RelV v u->Q u s'):wpAny (model X.prog X.w) A (getAttr (.ref a) f b) Q E s:=by
 obtain⟨mA,O,r,_,_,_⟩:=g8b I.hok e
 obtain⟨u,hu,ru⟩:=i2u.some_of (v:=v) (o:=mA f) (by rw [<- l]; exact r f)
 exact get_map I.kIn O (c.get f) c.hd n hu (i3r ru) (h u _ (I.tok _) ru)
theorem g6j{m:Str}{g:Addr}{pl:Sem Bool}{Q:Value×List Value->Shared->Prop}(I:Inv X pins σ H s)(e:H a=some (.ins C dx fs))(c:Cls X.K C)(k:Meth X.K C m g)(l:fs.lookup m=none)
  (h:Q (.ref g,[.ref a]) s):wpAny (model X.prog X.w) A (getMethod (.ref a) m pl) Q E s:=by
 obtain⟨mA,O,r,_,_,_⟩:=g8b I.hok e
 have hn:mA m=none:=i2u.none_of (by rw [<- l]; exact r m)
 exact i7x I.kIn O (c.get m) k.at_ k.fn hn h
theorem i0m{y:V}{u:Value}{Q:Unit->Shared->Prop}(I:Inv X pins σ H s)(e:H a=some (.ins C dx fs))(c:Cls X.K C)(n:a5k X.K C f)(hl:fs.length < 1000)(ry:RelV y u)
  (h:∀ s',Inv X pins σ (upd H a (.ins C dx (g1n f y fs))) s'->Q () s'):wpAny (model X.prog X.w) A (setAttr (.ref a) f u) Q E s:=by
 obtain⟨mA,O,r,wi,_,ho⟩:=g8b I.hok e
 have hz:(fs.map (·.1)).length<=sizeLine:=by rw [List.length_map,sizeLine_eq]; omega
 refine j2v I.kIn O c.sa c.po n.taker c.hd wi hz fun h' O' sb=>h _ ?_
 have hd:∃ o,h'.get? dx=some o:=let ⟨o,_,_,e',_⟩:=O'.ns; ⟨o,e'⟩
 refine I.write (x:=a) (e:=dx) (by rw [e]; exact True.intro) (.inr ho) (fun b q hb z=>(sb.2 b hb).trans z) hd ?_
 refine⟨by rw [a6l O.ne]; exact ho,?_,O.ne,O'.obj,_,O'.ns,fun g=>?_,fun g hg=>?_⟩
 ·have:=g1q f y fs; omega
 ·show i2u ((g1n f y fs).lookup g) (if g=f then some u else mA g)
  rw [g1o]
  by_cases q:g=f
  ·rw [if_pos q,if_pos q]; exact ry
  ·rw [if_neg q,if_neg q]; exact r g
 ·by_cases q:g=f
  ·rw [q]; exact (g1p f y fs).1
  ·refine (g1p f y fs).2 g (wi g fun z=>hg ?_)
   show (if g=f then some u else mA g)=none
   rw [if_neg q]; exact z
theorem Inv.made(I:Inv X pins σ H s):Inv X pins σ (upd (upd H s.heap.objs.size (.own (s.heap.objs.size+1))) (s.heap.objs.size+1) (.ins C s.heap.objs.size []))
  { s with heap:=(s.heap.push PySem.W.emptyDict).push (PySem.W.instObj C s.heap.objs.size) }:=by
 have e1:(s.heap.push PySem.W.emptyDict).get? s.heap.objs.size=some PySem.W.emptyDict:=Heap.get?_push_size s.heap rfl
 have e2:((s.heap.push PySem.W.emptyDict).push (PySem.W.instObj C s.heap.objs.size)).get? (s.heap.objs.size+1)=some (PySem.W.instObj C s.heap.objs.size):=by
  have:=Heap.get?_push_size (s.heap.push PySem.W.emptyDict) (o:=PySem.W.instObj C s.heap.objs.size) rfl
  rwa [Heap.size_push] at this
 have e3:(s.heap.push PySem.W.emptyDict).Ns s.heap.objs.size (fun _=>none):=⟨PySem.W.emptyDict,#[],_,e1,rfl,(fun e he=>absurd he (by simp)),fun _=>rfl⟩
 have I1:=I.laid (a:=s.heap.objs.size) (o:=.own (s.heap.objs.size+1)) (h':=s.heap.push PySem.W.emptyDict) (t':=s.toks) (fun b u q=>Heap.get?_push_of_some _ q) (Nat.le_refl _) ⟨_,e1⟩
 refine I1.laid (a:=s.heap.objs.size+1) (o:=.ins C s.heap.objs.size []) (t':=s.toks) (fun b u q=>Heap.get?_push_of_some _ q) (Nat.le_of_eq (Heap.size_push _ _)) ?_
 have ne:s.heap.objs.size≠s.heap.objs.size+1:=Nat.ne_of_lt (Nat.lt_succ_self _)
 refine⟨by rw [a6l ne,a6s],Nat.zero_le _,ne,e2,fun _=>none,(Heap.Ns1.of_empty e3).at fun o q=>Heap.get?_push_of_some _ q,fun _=>True.intro,fun y hy=>absurd rfl hy⟩
theorem j2w{prog:Program}{w:World}{env:Env}{e:Expr}{f:Str}{pos:Pos}{s:Shared}{Q:Value->Shared->Prop}(hb:attributeBase e f env (eval e env)=eval e env)
  (h:wpAny (model prog w) A (eval e env) (fun o s₁=>wpAny (model prog w) A (getAttr o f true) Q E s₁) E s):wpAny (model prog w) A (eval (.Attribute e f pos) env) Q E s :=
 Attribute_any_ h (by rw [arm_eval_Attribute,hb])
end
def k4w(K:PySem.W.Frag)(ta:TE)(f:Str):TE:=fun σ H Q=>ta σ H fun x H1=>∃ a C dx fs v,x = .ref a/\H1 a=some (.ins C dx fs)/\Cls K C/\a5k K C f/\fs.lookup f=some v/\Q v H1
section
variable {X:Cx}{o e value:Expr}{f:Str}{pos pos' tpos:Pos}{ta tv:TE}
theorem j7a(he:PE X e ta)(hb:attributeBase e f X.env (eval e X.env)=eval e X.env):PE X (.Attribute e f pos) (k4w X.K ta f):=by
 intro pins s σ H Q I h
 refine j2w hb (thn (he pins s σ H _ I h) fun u s1 ⟨x,H1,I1,rx,a,C,dx,fs,v,ex,ea,c,n,l,q⟩=>?_)
 subst ex
 obtain rfl:u=Value.ref a:=rx
 exact i0l I1 ea c n l fun u' s2 I2 ru=>⟨v,H1,I2,ru,q⟩
end
section
variable {X:Cx}{pins:List (Addr×Obj)}{σ:St}{H:Hp}{s:Shared}{A:Around}{E:Value->Shared->Prop}{Q:Value->Shared->Prop}{c:Value}{b:Bool}
inductive i0n(K:PySem.W.Frag)(H:Hp):V->Value->Prop where
 | non : i0n K H .non (.type "NoneType")
 | bl (x : Bool) : i0n K H (.bl x) (.type "bool")
 | int (i : Int) : i0n K H (.int i) (.type "int")
 | str (x : Str) : i0n K H (.str x) (.type "str")
 | flt (x : UInt64) : i0n K H (.flt x) (.type "float")
 | lst {a : Addr} {xs : List V} (e : H a = some (.lst xs)) : i0n K H (.ref a) (.type "list")
 | frz {a : Addr} {o : Obj} {xs : List V} (e : H a = some (.frz o (.lst xs))) : i0n K H (.ref a) (.type "list")
 | tup {a : Addr} {xs : List V} (e : H a = some (.tup xs)) : i0n K H (.ref a) (.type "tuple")
 | dK {a : Addr} {kvs : List (Key × V)} (e : H a = some (.dK kvs)) : i0n K H (.ref a) (.type "dict")
 | dT {a : Addr} {kvs : List (List Key × V)} (e : H a = some (.dT kvs)) : i0n K H (.ref a) (.type "dict")
 | ins {a C dx : Addr} {fs : List (Str × V)} (e : H a = some (.ins C dx fs)) (cl : Cls K C) (ha : PySem.W.findIn K (.ref C) "__class__" = some (some (.builtin "object.__class__")))
   (hn : PySem.W.specialIn K (.builtin "object.__class__") "__get__" = some (some (.builtin "getset_descriptor.__get__"))) (htk : PySem.W.takesIn K (.builtin "object.__class__") = some true)
   (hm : PySem.W.mroIn K C (.type "object") = some true) : i0n K H (.ref a) (.ref C)
theorem g1r{x:V}{u t:Value}(I:Inv X pins σ H s)(rx:RelV x u)(ty:i0n X.K H x t)(e:PySem.W.kitOne X.K t c=some b)(h:∀ tk,Q (.bool b) { s with toks:=tk }) :
  wpAny (model X.prog X.w) A (call (.builtin "isinstance") [u, c]) Q E s := by
 cases ty with
 | non=>cases (show u=Value.none from rx); exact PySem.W.kia_one PySem.W.kitx_none I.kIn True.intro e (fun z=>nomatch z) h
 | bl y=>cases (show u=Value.bool y from rx); exact PySem.W.kia_one PySem.W.kitx_bool I.kIn True.intro e (fun z=>nomatch z) h
 | int i=>obtain⟨t,q⟩:=(show ∃ t,u=Value.int i t from rx); cases q; exact PySem.W.kia_one PySem.W.kitx_int I.kIn True.intro e (fun z=>nomatch z) h
 | str y=>obtain⟨t,q⟩:=(show ∃ t,u=Value.str y t from rx); cases q; exact PySem.W.kia_one PySem.W.kitx_str I.kIn True.intro e (fun z=>nomatch z) h
 | flt y=>obtain⟨t,q⟩:=(show ∃ t,u=Value.float y t from rx); cases q; exact PySem.W.kia_one PySem.W.kitx_float I.kIn True.intro e (fun z=>nomatch z) h
 | @lst a xs ea =>
  cases (show u=Value.ref a from rx)
  obtain⟨_,_,n,_,h1⟩:=(show c4u X.prog X.w H s.heap a (.lst xs) from I.hok a _ ea)
  exact PySem.W.kia_one PySem.W.kitx_list I.kIn ⟨_,h1,rfl⟩ e (fun z=>nomatch z) h
 | @frz a ob xs ea =>
  cases (show u=Value.ref a from rx)
  obtain⟨_,_,_,n,_,h1⟩:=(show c4u X.prog X.w H s.heap a (.frz ob (.lst xs)) from I.hok a _ ea)
  exact PySem.W.kia_one PySem.W.kitx_list I.kIn ⟨_,h1,rfl⟩ e (fun z=>nomatch z) h
 | @tup a xs ea =>
  cases (show u=Value.ref a from rx)
  obtain⟨_,_,_,p⟩:=(show c4u X.prog X.w H s.heap a (.tup xs) from I.hok a _ ea)
  obtain⟨o,h1,h2,_⟩:=p
  exact PySem.W.kia_one PySem.W.kitx_tuple I.kIn ⟨o,h1,h2⟩ e (fun z=>nomatch z) h
 | @dK a kvs ea =>
  cases (show u=Value.ref a from rx)
  obtain⟨_,_,vs,_,p⟩:=(show c4u X.prog X.w H s.heap a (.dK kvs) from I.hok a _ ea)
  obtain⟨o,es,ep,h1,h2,_⟩:=p
  exact PySem.W.kia_one PySem.W.kitx_dict I.kIn ⟨o,h1,h2.1⟩ e (fun z=>nomatch z) h
 | @dT a kvs ea =>
  cases (show u=Value.ref a from rx)
  obtain⟨_,_,xs,_,o,es,ep,h1,h2,_⟩:=(show c4u X.prog X.w H s.heap a (.dT kvs) from I.hok a _ ea)
  exact PySem.W.kia_one PySem.W.kitx_dict I.kIn ⟨o,h1,h2.1⟩ e (fun z=>nomatch z) h
 | @ins a C dx fs ea cl ha hn htk hm =>
  cases (show u=Value.ref a from rx)
  obtain⟨mA,O,_⟩:=g8b I.hok ea
  obtain⟨od,J,_⟩:=O.look
  exact PySem.W.kia_one (PySem.W.kitx_own (cl.get _) cl.hd ha hn htk hm) I.kIn J e (fun z=>nomatch z) h
end
end L2
namespace L2
open PySem PySem.Spec PyProof.Rows
structure a2p(k:Nat)(A:Around):Prop where
 hd:A.handled=none
 dp:A.depth+3*k+5 < recursionLimit
 un:A.units+16*k+200 < cLine
theorem a2p.mono{j k:Nat}{A:Around}(r:a2p k A)(h:j<=k):a2p j A:=⟨r.hd,by have:=r.dp; omega,by have:=r.un; omega⟩
theorem a2p.deeper{k:Nat}{A:Around}(r:a2p (k+1) A)(env:Env):a2p k (A.deeper env) :=
 ⟨r.hd,by have:=r.dp; show A.depth+1+3*k+5 < _; omega,by have:=r.un; show A.units+3+16*k+200 < _; omega⟩
theorem i0o {A : Around} {C : Addr} {us : List Value} {kw : List (Str × Value)} : (A.under (.builtin "type.__call__" ⟨.ref C :: us, kw⟩)).depth = A.depth + 1 := by
 first | rfl | simp [Around.under,Code.weight,Code.isCreation,Code.isGuard,Code.isCaller,Code.frames,Code.isFrame,guardIds]
theorem i0p {A : Around} {C : Addr} {us : List Value} {kw : List (Str × Value)} : (A.under (.builtin "type.__call__" ⟨.ref C :: us, kw⟩)).units = A.units + 1 := by
 first | rfl | simp [Around.under,Code.cUnits,Code.frames,Code.isFrame]
theorem a2p.make {k : Nat} {A : Around} (r : a2p (k + 1) A) (C : Addr) (us : List Value) (kw : List (Str × Value)) : a2p k (A.under (.builtin "type.__call__" ⟨.ref C :: us, kw⟩)) :=
 ⟨r.hd,by have:=r.dp; rw [i0o]; omega,by have:=r.un; rw [i0p]; omega⟩
theorem a2p.depth{k:Nat}{A:Around}(r:a2p k A):A.depth < recursionLimit:=by have:=r.dp; omega
theorem a2p.units{k:Nat}{A:Around}(r:a2p k A):A.units+64 < cLine:=by have:=r.un; omega
def h5g:TA:=fun _ H Q=>Q [] H
def k2k(ta:TE)(tr:TA):TA:=fun σ H Q=>ta σ H fun x H1=>tr σ H1 fun xs H2=>Q (x :: xs) H2
section
variable {X:Cx}{e:Expr}{es:List Expr}{te:TE}{t:TA}{pos:Pos}
theorem a0h:PA X [] h5g:=fun _ _ _ _ H Q I h=>Calls.spliced_nil ⟨[],H,I,.nil,h⟩
theorem a0g(ha:PE X e te)(hr:PA X es t)(hs:starEach (e :: es) X.env=(false,eval e X.env) :: starEach es X.env:=by rfl):PA X (e :: es) (k2k te t):=by
 intro pos pins s σ H Q I h
 rw [hs]
 show wpAny _ _ (spliced ((false,eval e X.env) :: backTo pos (starEach es X.env))) _ _ s
 refine Calls.spliced_cons (thn (ha pins s σ H _ I h) fun u s1 ⟨x,H1,I1,r1,q1⟩=>?_)
 exact thn (hr pos pins s1 σ H1 _ I1 q1) fun us s2 ⟨xs,H2,I2,r2,q2⟩=>⟨x :: xs,H2,I2,.cons r1 r2,q2⟩
end
noncomputable abbrev Sp:=List V->Hp->VK->XK->Prop
noncomputable abbrev CXT:=List Env->Hp->Shared->XK->Value->Shared->Prop
structure j0n(P:Program)(w:World)(K:PySem.W.Frag)(mg:Str->Option Value)(base:Heap)(A:Around)(outer:List Env)(s:Shared)(H:Hp):Prop where
 frames:A.frames=some outer
 mod:Mod K mg base
 bs:∀ b o,base.get? b=some o->s.heap.get? b=some o/\H b=none
 bsz:base.objs.size<=s.heap.objs.size
 i0g:s.heap.FunFrames base outer
 frf:∀ b∈frs outer,H b=none
 hok:HOk P w H s.heap
 bare:AllBare s.gens
def CE(outer:List Env)(P:Program)(w:World)(H:Hp)(s:Shared)(Q:VK)(u:Value)(s':Shared):Prop :=
 ∃ v H',s'.os=s.os/\AllBare s'.gens/\Un (frs outer) [] H H' s.heap s'.heap/\HOk P w H' s'.heap/\RelV v u/\Q v H'
def CR(CX:CXT)(outer:List Env)(P:Program)(w:World)(H:Hp)(s:Shared)(Q:VK)(E:XK)(r:Result)(s':Shared):Prop :=
 match r with
 | .ok (.ret u)=>CE outer P w H s Q u s'
 | .ok _=>False
 | .error e=>CX outer H s E e s'
structure a1h(P:Program)(w:World)(K:PySem.W.Frag)(mg:Str->Option Value)(base:Heap)(CX:CXT)(k:Nat)(f:Addr)(fd:FuncData)(ps:List Str)(sp:Sp):Prop where
 len:∀ vs H Q E,sp vs H Q E->vs.length=ps.length
 run:∀ (A:Around) (outer:List Env) (s:Shared) (H:Hp) (args:Args) (us:List Value) (vs:List V) (Q:VK) (E:XK),a2p k A->j0n P w K mg base A outer s H->BindsTo s fd args (ps.zip us)->Vals vs us->sp vs H Q E ->
  codeAny (model P w) A (.call (.ref f) args) (CR CX outer P w H s Q E) s
theorem a1h.mono{P:Program}{w:World}{K:PySem.W.Frag}{mg:Str->Option Value}{base:Heap}{CX:CXT}{j k:Nat}{f:Addr}{fd:FuncData}{ps:List Str}{sp:Sp}(F:a1h P w K mg base CX j f fd ps sp)(h:j<=k) :
  a1h P w K mg base CX k f fd ps sp:=⟨F.len,fun A outer s H args us vs Q E hr=>F.run A outer s H args us vs Q E (hr.mono h)⟩
theorem j0n.make{P:Program}{w:World}{K:PySem.W.Frag}{mg:Str->Option Value}{base:Heap}{A:Around}{outer:List Env}{s:Shared}{H:Hp}(e:j0n P w K mg base A outer s H)(C:Addr)(us:List Value)(kw:List (Str×Value)) :
  j0n P w K mg base (A.under (.builtin "type.__call__" ⟨.ref C :: us, kw⟩)) outer s H := ⟨by first | exact e.frames | (simpa [Around.under, Code.envs, Code.isFrame, pushEnvs] using e.frames), e.mod, e.bs, e.bsz, e.i0g, e.frf, e.hok, e.bare⟩
section
variable {X:Cx}{pins:List (Addr×Obj)}{σ:St}{H:Hp}{s s':Shared}
theorem Inv.env0(I:Inv X pins σ H s):j0n X.prog X.w X.K X.mg X.base X.A X.stack s H :=
 ⟨I.ok.frames,I.ok.mod,I.bs,Nat.le_trans I.ok.bsz I.sz,I.stack,I.g7w,I.hok,I.bare⟩
theorem Inv.after{Q:VK}{u:Value}(I:Inv X pins σ H s)(h:CE X.stack X.prog X.w H s Q u s'):EP X pins σ Q u s':=by
 obtain⟨v,H',os,bare,un,hok,r,q⟩:=h
 obtain⟨hh,g,d,t,os'⟩:=s'
 obtain rfl:os'=s.os:=os
 exact⟨v,H',I.call (h':=hh) (g':=g) (d':=d) (t':=t) (ch:=[]) un hok bare (fun b z=>absurd z (by simp)),r,q⟩
end
def i7y(sp:Sp)(dvs:List V)(E:XK)(t:TA):TE:=fun σ H Q=>t σ H fun vs H1=>sp (vs++dvs) H1 Q E
def Binds(K:PySem.W.Frag)(fd:FuncData)(ps:List Str)(ds:List Value):Prop :=
 ∀ (s:Shared) (us:List Value),K.In s.heap->(us++ds).length=ps.length->BindsTo s fd ⟨us,[]⟩ (ps.zip (us++ds))
theorem Binds.all{K:PySem.W.Frag}{fd:FuncData}{ps:List Str}(h:∀ us:List Value,us.length=ps.length->bindArgs fd ⟨us,[]⟩=pure (ps.zip us)):Binds K fd ps []:=fun s us _ hl=>by
 rw [List.append_nil] at hl ⊢
 exact .of_eq (h us hl)
def Passes(CX:CXT)(X:Cx)(E:XK):Prop:=∀ (pins:List (Addr×Obj)) (σ:St) (H:Hp) (s:Shared) (e:Value) (s':Shared),Inv X pins σ H s->CX X.stack H s E e s'->X.xe e s'
section
variable {X:Cx}{CX:CXT}{k:Nat}{f C:Addr}{fd:FuncData}{ps:List Str}{sp:Sp}{dvs:List V}{ds:List Value}{E:XK}{x m:Str}{p pos apos:Pos}{e o:Expr}{es:List Expr}{ta:TE}{t:TA}
theorem h8h{pins:List (Addr×Obj)}{σ:St}{H:Hp}{s:Shared}{Q:VK}{us:List Value}{vs:List V}(F:a1h X.prog X.w X.K X.mg X.base CX k f fd ps sp)(hr:a2p k X.A)(hb:Binds X.K fd ps ds)(hd:Vals dvs ds)(hx:Passes CX X E)
  (I:Inv X pins σ H s) (r:Vals vs us) (h:sp (vs++dvs) H Q E):wpAny (model X.prog X.w) X.A (call (.ref f) us) (EP X pins σ Q) X.xe s:=by
 have r2:Vals (vs++dvs) (us++ds):=r.append hd
 have hl:(us++ds).length=ps.length:=by rw [<- r2.length]; exact F.len _ _ _ _ h
 refine wpAny_call (codeAny_mono (F.run X.A X.stack s H ⟨us,[]⟩ (us++ds) (vs++dvs) Q E hr I.env0 (hb s us I.kIn hl) r2 h) fun r s' hq=>?_)
 cases r with
 | error e=>exact hx pins σ H s e s' I hq
 | ok fl =>
  cases fl with
  | ret u=>exact I.after hq
  | next=>exact False.elim hq
  | brk=>exact False.elim hq
  | cont=>exact False.elim hq
theorem a0n(F:a1h X.prog X.w X.K X.mg X.base CX k f fd ps sp)(hr:a2p k X.A)(hg:Gl X x)(hm:X.mg x=some (.ref f))(hk:PySem.W.keepIn X.K (.ref f)=true)(hb:Binds X.K fd ps ds)(hd:Vals dvs ds)(hx:Passes CX X E)
  (ha : PA X (e :: es) t) (hdb : (x == ("__debug__" : Str)) = false := by decide) (he : starEach (e :: es) X.env = (false, eval e X.env) :: starEach es X.env := by rfl) (hpl : (backTo pos (starEach es X.env)).any (·.1) = false := by rfl) :
  PE X (.Call (.Name x p) (e :: es) [] pos) (i7y sp dvs E t):=by
 intro pins s σ H Q I h
 refine wpAny_Call_Name_kw (d2h I hg hm ?_ hdb)
 refine PySem.W.callWith_K (h₀:=X.base) I.ok.mod.kin hk (thn (ha pos pins s σ H _ I h) fun us s1 ⟨vs,H1,I1,r,q⟩=>⟨I1.kIn,?_⟩) he hpl
 exact h8h F hr hb hd hx I1 r q
structure Mk(K:PySem.W.Frag)(C f:Addr):Prop where
 makes:PySem.W.makesIn K C=true
 init : PySem.W.findIn K (.ref C) "__init__" = some (some (.ref f))
 fn:PySem.W.isFn K (.ref f)=true
 kp:PySem.W.keepIn K (.ref C)=true
theorem i7z{pins:List (Addr×Obj)}{σ:St}{H:Hp}{s:Shared}{Q:VK}{us:List Value}{vs:List V}(M:Mk X.K C f)(F:a1h X.prog X.w X.K X.mg X.base CX k f fd ps sp)(hr:a2p (k+1) X.A)(hb:Binds X.K fd ps ds)(hd:Vals dvs ds)
  (hx:Passes CX X E) (I:Inv X pins σ H s) (r:Vals vs us)
  (h:∀ x dx,H x=none->H dx=none->dx≠x->sp (.ref x :: (vs++dvs)) (upd (upd H dx (.own x)) x (.ins C dx [])) (fun v H2=>v = .non/\Q (.ref x) H2) E) :
  wpAny (model X.prog X.w) X.A (call (.ref C) us) (EP X pins σ Q) X.xe s:=by
 have hq:=h (s.heap.objs.size+1) s.heap.objs.size (I.hok.fresh (Nat.le_succ _)) (I.hok.fresh (Nat.le_refl _)) (Nat.ne_of_lt (Nat.lt_succ_self _))
 have I2:=Inv.made (C:=C) I
 have r2:Vals (V.ref (s.heap.objs.size+1) :: (vs++dvs)) (Value.ref (s.heap.objs.size+1) :: (us++ds)):=.cons rfl (r.append hd)
 have hl:(Value.ref (s.heap.objs.size+1) :: us++ds).length=ps.length:=by
  have e:=r2.length
  rw [F.len _ _ _ _ hq] at e
  exact e.symm
 refine wpAny_call (h8g (f:=f) I.kIn M.makes M.init (beq_iff_eq.mp M.fn) (codeAny_mono (F.run _ X.stack _ _ ⟨Value.ref (s.heap.objs.size+1) :: us,[]⟩ (Value.ref (s.heap.objs.size+1) :: (us++ds)) _ _ E (hr.make C us [])
  (I2.env0.make C us []) (hb _ (Value.ref (s.heap.objs.size+1) :: us) I2.kIn hl) r2 hq) fun r s' hq'=>?_))
 cases r with
 | error e=>exact hx pins σ _ _ e s' I2 hq'
 | ok fl =>
  cases fl with
  | ret u =>
   obtain⟨v,H',I3,rv,ev,q3⟩:=I2.after hq'
   subst ev
   exact⟨rv,⟨V.ref (s.heap.objs.size+1),H',I3,rfl,q3⟩⟩
  | next=>exact False.elim hq'
  | brk=>exact False.elim hq'
  | cont=>exact False.elim hq'
end
section
variable {X:Cx}{CX:CXT}{k:Nat}{f C:Addr}{fd:FuncData}{ps ks:List Str}{sp:Sp}{E:XK}{x m:Str}{p pos apos kpos:Pos}{e o:Expr}{es:List Expr}{kws:List Keyword}{te ta:TE}{t tk:TA}{nm:Option Str}
structure k4x(K:PySem.W.Frag)(fd:FuncData)(ps ks:List Str)(g:List Value->List Value->List Value)(gV:List V->List V->List V):Prop where
 to:∀ (s:Shared) (us ws:List Value),K.In s.heap->(g us ws).length=ps.length->BindsTo s fd ⟨us,ks.zip ws⟩ (ps.zip (g us ws))
 rel:∀ {vs:List V} {us:List Value} {zs:List V} {ws:List Value},Vals vs us->Vals zs ws->Vals (gV vs zs) (g us ws)
variable {g:List Value->List Value->List Value}{gV:List V->List V->List V}
end
structure a0s(N P:List Str)(sc:Scope):Prop where
 kind:sc.kind = .function
 co:sc.isCoroutine=false
 gen:sc.isGenerator=false
 nd:N.Nodup
 pre:N.take P.length=P
 par:∀ x∈P,sc.names.lookup x=some .local\/sc.names.lookup x=some .cell
 j7b:∀ y∈sc.names,y.2≠.free
theorem h1y{kindOf:Str->Option NameKind}{x:Str}:∀ {binds:List (Str×Value)} {m:Str->Option Value},(∀ v,(x,v)∉binds)->bindL kindOf binds m x=m x
 | [],_,_=>rfl
 | (n,v) :: r,m,h=>by
  unfold bindL
  rw [h1y fun w hw=>h w (List.mem_cons_of_mem _ hw)]
  split
  ·have:x≠n:=by rintro rfl; exact h v List.mem_cons_self
   simp [this]
  ·rfl
theorem h1z{kindOf:Str->Option NameKind}{x:Str}:∀ {binds:List (Str×Value)} {m:Str->Option Value},(∀ v,(x,v)∉binds)->bindC kindOf binds m x=m x
 | [],_,_=>rfl
 | (n,v) :: r,m,h=>by
  unfold bindC
  rw [h1z fun w hw=>h w (List.mem_cons_of_mem _ hw)]
  split
  ·rfl
  ·have:x≠n:=by rintro rfl; exact h v List.mem_cons_self
   simp [this]
theorem h2b{kindOf:Str->Option NameKind}{x:Str}{v:Value}:∀ {P:List Str} {vs:List Value} {i:Nat} {m:Str->Option Value},P.Nodup->P[i]? = some x->vs[i]? = some v->kindOf x=some .local ->
  bindL kindOf (P.zip vs) m x=some v
 | [],_,_,_,_,h,_,_=>by simp at h
 | _ :: _,[],_,_,_,_,h,_=>by simp at h
 | p :: P,w :: vs,0,m,nd,h1,h2,hk=>by
  simp at h1 h2; subst h1; subst h2
  show bindL kindOf ((p,w) :: P.zip vs) m p=_
  unfold bindL
  rw [h1y fun v hv=>(List.nodup_cons.mp nd).1 (List.of_mem_zip hv).1,if_pos hk]
  simp
 | p :: P,w :: vs,i+1,m,nd,h1,h2,hk=>by
  show bindL kindOf ((p,w) :: P.zip vs) m x=_
  unfold bindL
  exact h2b (i:=i) (List.nodup_cons.mp nd).2 (by simpa using h1) (by simpa using h2) hk
theorem h2c{kindOf:Str->Option NameKind}{x:Str}{v:Value}:∀ {P:List Str} {vs:List Value} {i:Nat} {m:Str->Option Value},P.Nodup->P[i]? = some x->vs[i]? = some v->kindOf x≠some .local ->
  bindC kindOf (P.zip vs) m x=some v
 | [],_,_,_,_,h,_,_=>by simp at h
 | _ :: _,[],_,_,_,_,h,_=>by simp at h
 | p :: P,w :: vs,0,m,nd,h1,h2,hk=>by
  simp at h1 h2; subst h1; subst h2
  show bindC kindOf ((p,w) :: P.zip vs) m p=_
  unfold bindC
  rw [h1z fun v hv=>(List.nodup_cons.mp nd).1 (List.of_mem_zip hv).1,if_neg hk]
  simp
 | p :: P,w :: vs,i+1,m,nd,h1,h2,hk=>by
  show bindC kindOf ((p,w) :: P.zip vs) m x=_
  unfold bindC
  exact h2c (i:=i) (List.nodup_cons.mp nd).2 (by simpa using h1) (by simpa using h2) hk
noncomputable def start(N:List Str)(vs:List V):St:=vs.map some++List.replicate (N.length - vs.length) none
def i2v(CX:CXT)(P:Program)(w:World)(K:PySem.W.Frag)(mg:Str->Option Value)(base:Heap)(N:List Str)(qual:Str)(scope:Scope)(f:Addr)(cd:Value)(A:Around)(outer:List Env)(s:Shared)(H:Hp)(E:XK):Cx where
 prog:=P
 w:=w
 K:=K
 mg:=mg
 base:=base
 A:=A.deeper (envOfC qual scope s.heap.objs.size f cd)
 N:=N
 s₀:=s
 H₀:=H
 env:=envOfC qual scope s.heap.objs.size f cd
 outer:=outer
 stack:=envOfC qual scope s.heap.objs.size f cd :: outer
 ex:=[]
 calm:=true
 fn:=fun _=>true
 pn:=[]
 xe:=fun e s'=>wpAny (model P w) (A.deeper (envOfC qual scope s.heap.objs.size f cd)) (leaving (envOfC qual scope s.heap.objs.size f cd) e) (fun _ s''=>CX outer H s E e s'') (fun e' s''=>CX outer H s E e' s'') s'
theorem h8i{sc:Scope}{n:Nat}{x:Str}(h:sc.names.lookup x=some .cell):∃ c,(cellsFrom n sc.names []).lookup x=some c:=by
 have q:=PySem.W.cellsFrom_some sc.names n [] (.inl h)
 exact Option.isSome_iff_exists.mp q
theorem i3s{CX:CXT}{P:Program}{w:World}{K:PySem.W.Frag}{mg:Str->Option Value}{base:Heap}{N ps:List Str}{qual:Str}{scope:Scope}{f:Addr}{cd:Value}{A:Around}{outer:List Env}{s s1:Shared}{H:Hp}{E:XK}{us:List Value}{vs:List V}
  (S:a0s N ps scope) (hd:A.handled=none) (e0:j0n P w K mg base A outer s H) (hl:vs.length=ps.length) (r:Vals vs us)
  (x:InCallC s s.heap.objs.size (bindL (envOfC qual scope s.heap.objs.size f cd).kindOf (ps.zip us) fun _=>none) (cellsFrom (s.heap.objs.size+1) scope.names []) (bindC (envOfC qual scope s.heap.objs.size f cd).kindOf (ps.zip us) fun _=>none) s1) :
  Inv (i2v CX P w K mg base N qual scope f cd A outer s H E) [] (start N vs) H s1:=by
 have hpl:ps.length<=N.length:=by have:=congrArg List.length S.pre; rw [List.length_take] at this; omega
 obtain⟨h1,tk,rfl,hk⟩:=x.done
 have noA:∀ b:Addr,b∉(i2v CX P w K mg base N qual scope f cd A outer s H E).ex:=fun b z=>absurd (show b∈([] : List Addr) from z) (by simp)
 refine⟨⟨e0.mod,S.kind,rfl,rfl,Nat.le_refl _,fun y z c h1 h2=>?_,fun y hy=>?_,fun y c _ h=>?_,fun _=>hd,Around.frames_deeper e0.frames,.inr ⟨rfl,rfl⟩,fun b z=>absurd z (noA b),e0.bs,e0.bsz,fun b _ _=>noA b,fun b z=>absurd z (noA b),e0.i0g,e0.frf⟩,
  rfl,e0.bare,Un.kept hk,⟨_,x.toInCall.ns,fun i y v h1 h2 h3=>?_⟩,fun y c h=>⟨_,x.cell y c h⟩,e0.hok.fresh (Nat.le_refl _),fun y c h=>?_,fun p hp=>absurd (show p∈([] : List (Addr×Obj)) from hp) (by simp),e0.hok.kept hk,?_⟩
 ·exact name_of_addr x.apart (PySem.mem_of_lookup h1) (PySem.mem_of_lookup h2)
 ·have hy:scope.names.lookup y=some .cell\/scope.names.lookup y=some .free:=hy
  rcases hy with hy | hy
  ·exact h8i hy
  ·exact absurd rfl (S.j7b _ (PySem.mem_of_lookup hy))
 ·exact Nat.le_of_lt (x.above y c (PySem.mem_of_lookup h))
 ·have hi:i < vs.length:=by
   unfold start at h2
   by_cases hi:i < vs.length
   ·exact hi
   ·rw [List.getElem?_append_right (by simpa using hi)] at h2
    rw [List.getElem?_replicate] at h2
    split at h2 <;> cases h2
  have ha:vs[i]? = some v:=by
   unfold start at h2
   rw [List.getElem?_append_left (by simpa using hi),List.getElem?_map] at h2
   cases e:vs[i]? with
   | none=>rw [e] at h2; cases h2
   | some a=>rw [e] at h2; cases h2; rfl
  obtain⟨u,hu,rv⟩:=r.get ha
  have hp:ps[i]? = some y:=by
   rw [<- S.pre,List.getElem?_take_of_lt (by omega)]; exact h1
  have ndP:ps.Nodup:=by rw [<- S.pre]; exact S.nd.sublist (List.take_sublist _ _)
  refine⟨u,rv,?_⟩
  rcases S.par y (List.mem_of_getElem? hp) with k | k
  ·exact .inl ⟨k,h2b ndP hp hu k⟩
  ·obtain⟨c,e⟩:=h8i (n:=s.heap.objs.size+1) k
   refine .inr ⟨.inl k,c,e,?_⟩
   have q:=x.cell y c e
   rw [h2c ndP hp hu (by show scope.names.lookup y≠_; rw [k]; decide)] at q
   exact q
 ·exact e0.hok.fresh (Nat.le_of_lt (x.above y c (PySem.mem_of_lookup h)))
 ·unfold start
  show _=N.length
  rw [List.length_append,List.length_map,List.length_replicate]
  omega
theorem j2x{CX:CXT}{P:Program}{w:World}{K:PySem.W.Frag}{mg:Str->Option Value}{base:Heap}{k:Nat}{f:Addr}{name qual:Str}{params:Arguments}{body:List Stmt}{scope:Scope}{dV kV doc pm cdv ct oc:Value}{an od:Option Addr}
  {osl:Array (Option Value)} {N ps:List Str} {sp:Sp} (lk:K.lookup f=some ⟨oc,od,.func (PySem.W.fnOf name qual params body scope dV kV doc pm an cdv ct),osl⟩) (hcd:PySem.W.codeIn K cdv qual=true) (S:a0s N ps scope)
  (len:∀ vs H Q E,sp vs H Q E->vs.length=ps.length)
  (hbody:∀ (A:Around) (outer:List Env) (s:Shared) (H:Hp) (vs:List V) (Q:VK) (E:XK),a2p k (A.deeper (envOfC qual scope s.heap.objs.size f cdv))->sp vs H Q E ->
   ∃ t,PSs (i2v CX P w K mg base N qual scope f cdv A outer s H E) body t/\t { nx:=fun _ H'=>Q .non H',rt:=Q } (start N vs) H) :
  a1h P w K mg base CX (k+1) f (PySem.W.fnOf name qual params body scope dV kV doc pm an cdv ct) ps sp:=by
 refine⟨len,fun A outer s H args us vs Q E hr e0 hb r hsp=>?_⟩
 have hl:=len _ _ _ _ hsp
 have KX:K.In s.heap:=e0.mod.kin.keeps fun b o e=>(e0.bs b o e).1
 have lim:s.heap.NoLimit:=e0.mod.nolimit.keeps fun b o e=>(e0.bs b o e).1
 have hkind:∀ y∈ps.zip us,scope.names.lookup y.1=some .local\/(scope.names.lookup y.1=some .cell/\((cellsFrom (s.heap.objs.size+1) scope.names []).lookup y.1).isSome=true):=fun⟨n,v⟩ hy=>by
  rcases S.par n (List.of_mem_zip hy).1 with q | q
  ·exact .inl q
  ·exact .inr ⟨q,PySem.W.cellsFrom_some _ _ _ (.inl q)⟩
 refine codeAny_call_function hr.depth (KX _ _ lk) rfl S.co S.gen rfl (PySem.W.codeRec_of KX hcd) (hb _ _ _ _ ?_)
 refine wpAny_newFunctionEnv_cells S.kind hkind fun env he s1 x=>?_
 subst he
 refine⟨lim.keeps x.toInCall.keep,codeAny_func ?_⟩
 obtain⟨t,ht,hq⟩:=hbody A outer s H vs Q E (hr.deeper _) hsp
 have I:Inv (i2v CX P w K mg base N qual scope f cdv A outer s H E) [] (start N vs) H s1:=i3s S hr.hd e0 hl r x
 refine wpAny_mono (ht [] s1 (start N vs) H _ I hq) (fun fl s' hs=>?_) fun e s' hs=>hs
 have fin:∀ {σ':St} {H':Hp} {v:V} {u:Value},Inv (i2v CX P w K mg base N qual scope f cdv A outer s H E) [] σ' H' s'->RelV v u->Q v H'->CE outer P w H s Q u s' :=
  fun {σ' H' v u} J rv q=>⟨v,H',J.os,J.bare,J.base,J.hok,rv,q⟩
 cases fl with
 | ret u =>
  obtain⟨v,σ',H',J,rv,q⟩:=hs
  exact fin J rv q
 | next =>
  obtain⟨σ',H',J,q⟩:=hs
  exact fin (v:=V.non) (u:=Value.none) J rfl q
 | brk =>
  obtain⟨_,_,_,q⟩:=hs
  exact False.elim q
 | cont =>
  obtain⟨_,_,_,q⟩:=hs
  exact False.elim q
end L2
namespace L2
open PySem PySem.Spec PyProof.Rows
section
variable {X:Cx}{x:Str}{p pos:Pos}{e:Expr}{es:List Expr}{t:TA}{id T:String}{r:List V->Hp->VK->Prop}
def tCB(r:List V->Hp->VK->Prop)(t:TA):TE:=fun σ H Q=>t σ H fun vs H1=>r vs H1 Q
theorem a0z (hc : c6j X (.builtin id) r) (hg : Gl X x) (hm : X.mg x = none) (hv : bootBuiltins x = some (.builtin id)) (ha : PA X (e :: es) t) (hn : x ≠ "__name__" := by decide) (hdb : (x == ("__debug__" : Str)) = false := by decide)
  (he:starEach (e :: es) X.env=(false,eval e X.env) :: starEach es X.env:=by rfl) (hpl:(backTo pos (starEach es X.env)).any (·.1)=false:=by rfl):PE X (.Call (.Name x p) (e :: es) [] pos) (tCB r t):=by
 intro pins s σ H Q I h
 refine wpAny_Call_Name_kw (h1t I hg hm hv ?_ hn hdb)
 exact PyProof.Rows.callWith_builtin1 (thn (ha pos pins s σ H _ I h) fun us s1 ⟨vs,H1,I1,r1,q1⟩=>hc pins s1 σ H1 vs us Q I1 r1 q1) he hpl
theorem a5h (hc : c6j X (.type T) r) (hg : Gl X x) (hm : X.mg x = none) (hv : bootBuiltins x = some (.type T)) (ha : PA X (e :: es) t) (hn : x ≠ "__name__" := by decide) (hdb : (x == ("__debug__" : Str)) = false := by decide)
  (he:starEach (e :: es) X.env=(false,eval e X.env) :: starEach es X.env:=by rfl) (hpl:(backTo pos (starEach es X.env)).any (·.1)=false:=by rfl):PE X (.Call (.Name x p) (e :: es) [] pos) (tCB r t):=by
 intro pins s σ H Q I h
 refine wpAny_Call_Name_kw (h1t I hg hm hv ?_ hn hdb)
 exact PyProof.Rows.callWith_type1 (thn (ha pos pins s σ H _ I h) fun us s1 ⟨vs,H1,I1,r1,q1⟩=>hc pins s1 σ H1 vs us Q I1 r1 q1) he hpl
end
end L2
namespace HT
open PySem PyProof.Rows
section
open PySem.SeqAt
open PySem.AutoSeq1 (wpAny_loadPart')
open PySem.MeetsSeq PySem.MeetsSeq2 PySem.MeetsSeq3
end
section
variable {prog:Program}{w:World}{A:Around}{E:Value->Shared->Prop}{s:Shared}
noncomputable def sIx(n d:Nat):Option Int->Nat
 | none=>d
 | some v=>if v < 0 then (v+(n:Int)).toNat else min v.toNat n
theorem h8j(n d:Nat):sIx n d none=d:=rfl
theorem h5i(n d k:Nat):sIx n d (some (k:Int))=min k n:=by
 show (if (k:Int) < 0 then ((k:Int)+(n:Int)).toNat else min (k:Int).toNat n)=min k n
 rw [if_neg (by omega),Int.toNat_natCast]
theorem j7c(n d:Nat)(hd:d<=n)(o:Option Int):sIx n d o<=n:=by
 cases o with
 | none=>exact hd
 | some v =>
  show (if v < 0 then (v+(n:Int)).toNat else min v.toNat n)<=n
  by_cases hv:v < 0
  ·rw [if_pos hv]; omega
  ·rw [if_neg hv]; exact Nat.min_le_right _ _
theorem i3t(v:Int)(n d:Nat):(if v < 0 then max (v+(n:Int)) 0 else min v (n:Int))=((sIx n d (some v):Nat):Int):=by
 show (if v < 0 then max (v+(n:Int)) 0 else min v (n:Int))=(((if v < 0 then (v+(n:Int)).toNat else min v.toNat n):Nat):Int)
 by_cases hv:v < 0
 ·simp only [if_pos hv]; omega
 ·simp only [if_neg hv]; omega
theorem i0q(lo hi:Option Int)(n:Nat):Builtin.Slice.sliceAdjust lo hi 1 (n:Int)=(((sIx n 0 lo:Nat):Int),((sIx n n hi:Nat):Int)):=by
 have h1:¬ ((1:Int) < 0):=by omega
 unfold Builtin.Slice.sliceAdjust
 simp only [h1,if_false]
 refine Prod.ext ?_ ?_
 ·cases lo with
  | none=>rfl
  | some v=>exact i3t v n 0
 ·cases hi with
  | none=>rfl
  | some v=>exact i3t v n n
theorem i0r(i j:Nat):Builtin.Slice.slicePlaces (i:Int) (j:Int) 1=j - i:=by
 unfold Builtin.Slice.slicePlaces
 have h1:(1:Int) > 0:=by omega
 simp only [h1,if_true,Int.ediv_one]
 split <;> omega
theorem g6k{v:Value}{o:Option Int}{Q:Option Int->Shared->Prop}(p:IsPart v o)(h:Q o s):wpAny (model prog w) A (Builtin.Slice.slicePartIndex v) Q E s:=by
 cases p with
 | none=>exact slicePart_none h
 | int i t=>exact slicePart_int h
theorem g0w{sl:Addr}{vl vu:Value}{lo hi:Option Int}{n:Nat}{Q:Int×Int×Nat->Shared->Prop}(hs:s.heap.IsSliceOf sl vl vu .none)(pl:IsPart vl lo)(pu:IsPart vu hi)
  (h:Q (((sIx n 0 lo:Nat):Int),1,sIx n n hi - sIx n 0 lo) s):wpAny (model prog w) A (Builtin.Slice.sliceApplied (.ref sl) (pure (n:Int))) Q E s:=by
 obtain⟨os,hos,hcs,hds⟩:=id hs
 unfold Builtin.Slice.sliceApplied Builtin.Slice.sliceFields
 refine wpAny_bind (wpAny_bind (wpAny_field hos hds (x:=vl) rfl (wpAny_bind (wpAny_field hos hds (x:=vu) rfl (wpAny_bind (wpAny_field hos hds (x:=.none) rfl (wpAny_pure ?_)))))))
 refine wpAny_bind (slicePart_none ?_)
 show wpAny _ _ (if ((1:Int) == 0)=true then _ else _) _ _ s
 rw [if_neg (by decide)]
 refine wpAny_bind (g6k pl (wpAny_bind (g6k pu (wpAny_bind (wpAny_pure ?_)))))
 show wpAny _ _ (match Builtin.Slice.sliceAdjust lo hi 1 (n:Int) with | (lo,hi)=>pure (lo,(1:Int),Builtin.Slice.slicePlaces lo hi 1)) _ _ s
 rw [i0q lo hi n]
 show wpAny _ _ (pure (((sIx n 0 lo:Nat):Int),(1:Int),Builtin.Slice.slicePlaces ((sIx n 0 lo:Nat):Int) ((sIx n n hi:Nat):Int) 1)) _ _ s
 rw [i0r]
 exact wpAny_pure h
theorem i8a(xs:Array Value)(i k:Nat):((List.range k).filterMap fun (m:Nat)=>xs[((i:Int)+(m:Int)*1).toNat]?).toArray=((xs.toList.drop i).take k).toArray:=by
 have e:(fun (m:Nat)=>xs[((i:Int)+(m:Int)*1).toNat]?)=fun m=>xs[i+m]?:=by
  funext m
  have:((i:Int)+(m:Int)*1).toNat=i+m:=by omega
  rw [this]
 rw [e]
 have:=pick_run xs i k
 rw [List.filterMap_map] at this
 have e2:((fun x=>xs[x]?)∘fun x=>i+x)=fun m=>xs[i+m]?:=rfl
 rw [e2] at this
 rw [this]
theorem f6s{t sl:Addr}{items:Array Value}{vl vu:Value}{lo hi:Option Int}{Q:Value->Shared->Prop}(ht:IsTup s.heap t items)(hs:s.heap.IsSliceOf sl vl vu .none)(pl:IsPart vl lo)(pu:IsPart vu hi)
  (hw:¬ (sIx items.size 0 lo=0/\sIx items.size items.size hi=items.size))
  (h : Q (.ref s.heap.objs.size) { s with heap := s.heap.push { cls := .type "tuple", data := .seq ((items.toList.drop (sIx items.size 0 lo)).take (sIx items.size items.size hi - sIx items.size 0 lo)).toArray } })
  (hsz:items.size<=sizeLine):wpAny (model prog w) A (getItem (.ref t) (.ref sl)) Q E s:=by
 have i8b:sizeOk (.seq ((items.toList.drop (sIx items.size 0 lo)).take (sIx items.size items.size hi - sIx items.size 0 lo)).toArray):=by
  show ((items.toList.drop (sIx items.size 0 lo)).take (sIx items.size items.size hi - sIx items.size 0 lo)).toArray.size<=sizeLine
  rw [List.size_toArray,List.length_take,List.length_drop,Array.length_toList]
  omega
 have hj:sIx items.size items.size hi<=items.size:=j7c _ _ (Nat.le_refl _) hi
 obtain⟨os,hos,hcs,hds⟩:=id hs
 have hTs : s.TypeIs (.ref sl) "slice" := ⟨os, hos, hcs⟩
 unfold getItem
 try with_reducible refine wpAny_holding ?_
 first | refine wpAny_bind (wpAny_pure ?_) | skip
 refine wpAny_bind (wpAny_sequenceKey ht.typeIs (by decide) ?_)
 refine wpAny_bind (wpAny_callSpecial?_slot (name := Str.ofString "__getitem__") ht.typeIs PyProof.Rows.slot_tuple_getitem
  (wpAny_call_entry PyProof.Rows.slot_tuple_getitem ht.typeIs entry_tuple_getitem ?_ (args_tuple_getitem _ _)))
 show wpAny _ _ (Builtin.Tuple.tupleItemsOf (.ref t) >>= _) _ _ s
 refine wpAny_bind (tupleItemsOf_ ht ?_)
 refine wpAny_bind (wpAny_typeOf hTs ?_)
 rw [if_pos (by decide)]
 refine wpAny_bind (g0w hs pl pu ?_)
 have hno:¬ ((((sIx items.size 0 lo:Nat):Int) == 0 && (1:Int) == 1 && (sIx items.size items.size hi - sIx items.size 0 lo) == items.size)=true):=by
  intro q
  rw [Bool.and_eq_true,Bool.and_eq_true] at q
  have q1:((sIx items.size 0 lo:Nat):Int)=0:=eq_of_beq q.1.1
  have q2:sIx items.size items.size hi - sIx items.size 0 lo=items.size:=eq_of_beq q.2
  exact hw ⟨by omega,by omega⟩
 show wpAny _ _ (if (((sIx items.size 0 lo:Nat):Int) == 0 && (1:Int) == 1 && (sIx items.size items.size hi - sIx items.size 0 lo) == items.size)=true then _ else _) _ _ s
 rw [if_neg hno,i8a]
 first
  | exact wpAny_bind (m:=Builtin.Tuple.tupleExact _) (wpAny_newObj_type (wpAny_pure ⟨_,rfl,wpAny_pure h⟩) i8b)
  | exact wpAny_bind (m:=Builtin.Tuple.tupleExact _) (wpAny_newObj_type (wpAny_bind (wpAny_pure (wpAny_pure ⟨_,rfl,wpAny_pure h⟩))) i8b)
  | exact wpAny_bind (wpAny_bind (m:=Builtin.Tuple.tupleExact _) (wpAny_newObj_type (wpAny_pure (wpAny_pure ⟨_,rfl,wpAny_pure h⟩)) i8b))
  | exact wpAny_bind (wpAny_bind (m:=Builtin.Tuple.tupleExact _) (wpAny_newObj_type (wpAny_pure ⟨_,rfl,wpAny_pure h⟩) i8b))
end
end HT
namespace L2
open PySem PySem.Spec PyProof.Rows
noncomputable abbrev TO:=St->Hp->(Option Int->Hp->Prop)->Prop
def PO(X:Cx)(e:Option Expr)(t:TO):Prop :=
 ∀ (pins:List (Addr×Obj)) (s:Shared) (σ:St) (H:Hp) (Q:Option Int->Hp->Prop),Inv X pins σ H s->t σ H Q ->
  wpAny (model X.prog X.w) X.A (evalPart e X.env) (fun u s'=>∃ o H',Inv X pins σ H' s'/\IsPart u o/\Q o H') X.xe s
noncomputable def j2y:TO:=fun _ H Q=>Q none H
def j7d(t:TE):TO:=fun σ H Q=>t σ H fun x H1=>∃ i,x = .int i/\Q (some i) H1
theorem intsAre_of{ns:List Int}:∀ {us:List Value},Vals (ns.map V.int) us->IntsAre us ns:=by
 induction ns with
 | nil=>intro us r; rw [List.map_nil] at r; cases r; exact .nil
 | cons n ns ih =>
  intro us r
  rw [List.map_cons] at r
  cases r with
  | cons r1 r2 =>
   obtain⟨t,e⟩:=r1
   subst e
   exact .cons n t (ih r2)
section
variable {X:Cx}{e:Expr}{te:TE}{lo hi:Option Expr}{tl th:TO}{pos p2:Pos}
theorem a6z:PO X none j2y:=by
 intro pins s σ H Q I h
 rw [evalPart_none]
 exact wpAny_pure ⟨none,H,I,.none,h⟩
theorem j2z(h:PE X e te):PO X (some e) (j7d te):=by
 intro pins s σ H Q I hw
 rw [evalPart_some]
 refine thn (h pins s σ H _ I hw) fun u s1 ⟨x,H1,I1,r1,q1⟩=>?_
 obtain⟨i,rfl,q⟩:=q1
 obtain⟨t,rfl⟩:=r1
 exact⟨some i,H1,I1,.int i t,q⟩
def SlR(X:Cx)(r:V->Option Int->Option Int->Hp->VK->Prop):Prop :=
 ∀ (pins:List (Addr×Obj)) (s:Shared) (σ:St) (H:Hp) (x:V) (v vl vu:Value) (lo hi:Option Int) (sl:Addr) (Q:VK),Inv X pins σ H s->RelV x v->s.heap.IsSliceOf sl vl vu .none->IsPart vl lo->IsPart vu hi->r x lo hi H Q ->
  ∃ T id, typeLookup (.type T) "__getitem__" = pure (some (.builtin id)) ∧ s.TypeIs v T ∧ wpAny (model X.prog X.w) X.A (getItem v (.ref sl)) (EP X pins σ Q) X.xe s
def tSl(r:V->Option Int->Option Int->Hp->VK->Prop)(te:TE)(tl th:TO):TE:=fun σ H Q=>te σ H fun x H1=>tl σ H1 fun l H2=>th σ H2 fun u H3=>r x l u H3 Q
theorem a5p{r:V->Option Int->Option Int->Hp->VK->Prop}(hr:SlR X r)(he:PE X e te)(hl:PO X lo tl)(hu:PO X hi th):PE X (.Subscript e (.Slice lo hi none p2) pos) (tSl r te tl th):=by
 intro pins s σ H Q I h
 refine Subscript_ (thn (he pins s σ H _ I h) fun v s1 ⟨x,H1,I1,r1,q1⟩=>?_)
 refine wpAny_Slice (thn (hl pins s1 σ H1 _ I1 q1) fun vl s2 ⟨l,H2,I2,pl,q2⟩=>thn (hu pins s2 σ H2 _ I2 q2) fun vu s3 ⟨u,H3,I3,pu,q3⟩=>?_)
 rw [evalPart_none]
 refine wpAny_pure ?_
 have I4 : Inv X pins σ H3 { s3 with heap := s3.heap.push { cls := .type "slice", data := .fields #[vl, vu, .none] } } := I3.kept (t' := s3.toks) fun b ob q => Heap.get?_push_of_some _ q
 obtain ⟨T, id, hT, ht, hg⟩ := hr pins { s3 with heap := s3.heap.push { cls := .type "slice", data := .fields #[vl, vu, .none] } } σ H3 x v vl vu l u s3.heap.objs.size Q I4 r1 (Heap.IsSliceOf.new ..) pl pu q3
 show wpAny (model X.prog X.w) X.A (subscriptTail e (.Slice lo hi none p2) v (.ref s3.heap.objs.size)) (EP X pins σ Q) X.xe { s3 with heap := s3.heap.push { cls := .type "slice", data := .fields #[vl, vu, .none] } }
 exact tail_any (ops:=[.ref s3.heap.objs.size,v]) ht hT hg (by with_unfolding_all rfl)
noncomputable def d7r(xs:List V)(lo hi:Option Int):List V:=(xs.drop (HT.sIx xs.length 0 lo)).take (HT.sIx xs.length xs.length hi - HT.sIx xs.length 0 lo)
theorem g1s(xs:List V)(lo hi:Option Int):(d7r xs lo hi).length<=xs.length:=by
 unfold d7r
 rw [List.length_take,List.length_drop]
 omega
noncomputable def rSlT(K:PySem.W.Frag):V->Option Int->Option Int->Hp->VK->Prop:=fun x lo hi H Q=>∃ a xs,x = .ref a/\SqT K H a xs /\
 ¬ (HT.sIx xs.length 0 lo=0/\HT.sIx xs.length xs.length hi=xs.length)/\∀ p,H p=none->Q (.ref p) (upd H p (.tup (d7r xs lo hi)))
theorem j7e:SlR X (rSlT X.K):=by
 intro pins s σ H x v vl vu lo hi sl Q I rx hs pl pu h
 obtain⟨a,xs,rfl,hx,hw,q⟩:=h
 cases rx
 obtain⟨its,r,ht,hz⟩:=I.tuple hx
 have hlen:its.toArray.size=xs.length:=by rw [List.size_toArray]; exact r.length.symm
 refine ⟨"tuple", _, PyProof.Rows.slot_tuple_getitem.lookup, ht.typeIs, ?_⟩
 refine HT.f6s ht hs pl pu (by rw [hlen]; exact hw) ?_ (by rw [hlen]; exact hz)
 rw [hlen]
 refine⟨.ref s.heap.objs.size,_,I.laid (t':=s.toks) (o:=.tup (d7r xs lo hi)) (fun b ob q=>Heap.get?_push_of_some _ q) (Nat.le_refl _) ?_,rfl,q _ (I.hok.fresh (Nat.le_refl _))⟩
 exact⟨Nat.le_trans (g1s xs lo hi) hz,_,(r.drop (HT.sIx xs.length 0 lo)).take (HT.sIx xs.length xs.length hi - HT.sIx xs.length 0 lo),IsTup.new _ _⟩
end
end L2
namespace L2
open PySem PySem.Spec PyProof.Rows
noncomputable def ixN(n:Nat)(i:Int):Option Nat:=if 0<=i then (if i < n then some i.toNat else none) else if -(n:Int)<=i then some (i+n).toNat else none
noncomputable def atI{α:Type}(xs:List α)(i:Int):Option α:=(ixN xs.length i).bind fun j=>xs[j]?
theorem j3a{n:Nat}{i:Int}{j:Nat}(h:ixN n i=some j):seqIndex? i n=some j/\j < n /\ -(n:Int)<=i/\i < n:=by
 unfold ixN at h
 by_cases h0:0<=i
 ·rw [if_pos h0] at h
  by_cases h1:i < n
  ·rw [if_pos h1] at h
   have e:i.toNat=j:=Option.some.inj h
   exact⟨by rw [seqIndex_of h0 h1,e],by omega,by omega,h1⟩
  ·rw [if_neg h1] at h; cases h
 ·rw [if_neg h0] at h
  by_cases h1 : -(n:Int)<=i
  ·rw [if_pos h1] at h
   have e:(i+n).toNat=j:=Option.some.inj h
   exact⟨by rw [seqIndex_neg (by omega) h1,e],by omega,h1,by omega⟩
  ·rw [if_neg h1] at h; cases h
theorem h5j{α:Type}{xs:List α}{i:Int}{v:α}(h:atI xs i=some v):∃ j,seqIndex? i xs.length=some j/\xs[j]? = some v/\j < xs.length /\ -(xs.length:Int)<=i/\i < xs.length:=by
 unfold atI at h
 cases e:ixN xs.length i with
 | none=>rw [e] at h; cases h
 | some j =>
  rw [e] at h
  obtain⟨h1,h2,h3,h4⟩:=j3a e
  exact⟨j,h1,h,h2,h3,h4⟩
theorem f6t{α:Type}{xs:List α}{j:Nat}{v:α}(h:xs[j]? = some v):atI xs (j:Int)=some v:=by
 have hj:j < xs.length:=(List.getElem?_eq_some_iff.mp h).1
 have e:ixN xs.length (j:Int)=some j:=by
  unfold ixN
  rw [if_pos (by omega),if_pos (by omega)]; simp
 unfold atI; rw [e]; exact h
def j3b(b:Expr):Prop:=∀ o i,subscripted b false o i=operate [o,i] (getItem o i)
def IxR(X:Cx)(r:R2):Prop :=
 ∀ (value slice:Expr) (pins:List (Addr×Obj)) (s:Shared) (σ:St) (H:Hp) (x y:V) (v u:Value) (Q:VK),Inv X pins σ H s->RelV x v->RelV y u->r x y H Q ->
  subscripted slice false v u=operate [v,u] (getItem v u)->wpAny (model X.prog X.w) X.A (subscriptTail value slice v u) (EP X pins σ Q) X.xe s
def MtR(X:Cx)(id:String)(r:V->List V->Hp->VK->Prop):Prop :=
 ∀ (pins:List (Addr×Obj)) (s:Shared) (σ:St) (H:Hp) (x:V) (xs:List V) (v:Value) (us:List Value) (Q:VK),Inv X pins σ H s->RelV x v->Vals xs us->r x xs H Q ->
  wpAny (model X.prog X.w) X.A (call (.builtin id) (v :: us)) (EP X pins σ Q) X.xe s
section
variable {X:Cx}{a b:Expr}{ta tb:TE}{pos:Pos}
theorem a0v{r:R2}(hr:IxR X r)(ha:PE X a ta)(hb:PE X b tb)(hs:j3b b):PE X (.Subscript a b pos) (tOp r ta tb):=by
 intro pins s σ H Q I h
 exact Subscript_ (k2d ha hb I h fun v u s2 x y H2 I2 rx ry q=>hr a b pins s2 σ H2 x y v u Q I2 rx ry q (hs _ _))
def rIxL(K:PySem.W.Frag):R2:=fun x y H Q=>∃ p xs i v,x = .ref p/\y = .int i/\SqL K H p xs/\atI xs i=some v/\Q v H
def rIxT(K:PySem.W.Frag):R2:=fun x y H Q=>∃ p xs i v,x = .ref p/\y = .int i/\SqT K H p xs/\atI xs i=some v/\Q v H
def rIxS:R2:=fun x y H Q=>∃ z i c,x = .str z/\y = .int i/\z.length<=sizeLine/\atI z.cps.toList i=some c/\Q (.str ⟨#[c]⟩) H
theorem j3c:IxR X (rIxL X.K):=by
 intro value slice pins s σ H x y v u Q I rx ry h hs
 obtain⟨p,xs,i,z,rfl,rfl,hq,he,q⟩:=h
 cases rx
 obtain⟨t,rfl⟩:=ry
 obtain⟨its,r,pl,hz⟩:=I.list hq
 obtain⟨j,h1,h2,h3,h4,h5⟩:=h5j he
 obtain⟨w,ew,rw'⟩:=r.get h2
 have hl:=r.length
 have hn:=h1v
 have fin:EP X pins σ Q w s:=⟨z,H,I,rw',q⟩
 by_cases h0:0<=i
 ·have hj:i.toNat=j:=by
   rw [seqIndex_of h0 h5] at h1
   exact Option.some.inj h1
  exact item_listR pl.isList h0 (by omega) (by rw [hj]; simpa using ew) fin hs
 ·have hj:(i+(its.toArray.size:Int)).toNat=j:=by
   rw [seqIndex_neg (by omega) h4] at h1
   rw [List.size_toArray,<- hl]
   exact Option.some.inj h1
  exact subscriptTail_builtinR (x:=w) pl.isList.typeIs slot_list_getitem.lookup
   (wpAny_getItem_list_neg (Q:=fun r s'=>r=w/\EP X pins σ Q r s') pl.isList (by omega) (by rw [List.size_toArray] <;> omega) (by omega) (by rw [hj]; simpa using ew) ⟨rfl,fin⟩) hs
theorem j7f:IxR X (rIxT X.K):=by
 intro value slice pins s σ H x y v u Q I rx ry h hs
 obtain⟨p,xs,i,z,rfl,rfl,hq,he,q⟩:=h
 cases rx
 obtain⟨t,rfl⟩:=ry
 obtain⟨its,r,pl,hz⟩:=I.tuple hq
 obtain⟨j,h1,h2,h3,h4,h5⟩:=h5j he
 obtain⟨w,ew,rw'⟩:=r.get h2
 have hl:=r.length
 have hn:=h1v
 have fin:EP X pins σ Q w s:=⟨z,H,I,rw',q⟩
 exact subscriptTail_builtinR (x:=w) pl.typeIs slot_tuple_getitem.lookup
  (getItem_tuple (j:=j) (Q:=fun r s'=>r=w/\EP X pins σ Q r s') pl (by omega) (by omega) (by rw [List.size_toArray,<- hl]; exact h1) (by simpa using ew) ⟨rfl,fin⟩) hs
theorem j7g:IxR X rIxS:=by
 intro value slice pins s σ H x y v u Q I rx ry h hs
 obtain⟨z,i,c,rfl,rfl,hz,he,q⟩:=h
 obtain⟨t,rfl⟩:=rx
 obtain⟨t',rfl⟩:=ry
 obtain⟨j,h1,h2,h3,h4,h5⟩:=h5j he
 have hl:z.cps.toList.length=z.length:=by simp [Str.length]
 rw [hl] at h1 h4 h5
 have hn:=h1v
 exact tail_any (typeIs_str s z t) slot_str_getitem.lookup (getItem_str (c:=c) (by
  have e1:decide (i < -(2 ^ 63:Int))=false:=decide_eq_false (by omega)
  have e2:decide (i ≥ 2 ^ 63)=false:=decide_eq_false (by omega)
  rw [e1,e2,Bool.or_false]) (by rw [h1]; simpa using h2) ⟨.str ⟨#[c]⟩,H,I.tok _,⟨_,rfl⟩,q⟩) hs
theorem Inv.lst{pins:List (Addr×Obj)}{σ:St}{H:Hp}{s:Shared}{p:Addr}{xs:List V}(I:Inv X pins σ H s)(h:H p=some (.lst xs)) :
  ∃ (its : List Value) (n : Nat), Vals xs its ∧ s.heap.get? p = some { cls := .type "list", data := .seq its.toArray n } ∧ xs.length ≤ sizeLine := by
 obtain⟨z,its,n,r,e⟩:=I.hok p _ h
 exact⟨its,n,r,e,z⟩
theorem h2d(lo hi:Option Int)(n:Nat):(sliceBounds lo hi none n).1=((HT.sIx n 0 lo:Nat):Int)/\(sliceBounds lo hi none n).2.1=((HT.sIx n n hi:Nat):Int)/\(sliceBounds lo hi none n).2.2=1:=by
 refine⟨?_,?_,rfl⟩
 ·cases lo with
  | none=>simp [sliceBounds,HT.sIx]
  | some i =>
   simp only [sliceBounds,HT.sIx,Option.getD_none,show (1:Int) > 0 by decide,if_true]
   by_cases h:i < 0
   ·simp only [h,if_true] <;> omega
   ·simp only [h,if_false] <;> omega
 ·cases hi with
  | none=>simp [sliceBounds,HT.sIx]
  | some i =>
   simp only [sliceBounds,HT.sIx,Option.getD_none,show (1:Int) > 0 by decide,if_true]
   by_cases h:i < 0
   ·simp only [h,if_true] <;> omega
   ·simp only [h,if_false] <;> omega
theorem g8c(its:List Value)(lo hi:Option Int):slicePick its.toArray lo hi none=((its.drop (HT.sIx its.length 0 lo)).take (HT.sIx its.length its.length hi - HT.sIx its.length 0 lo)).toArray:=by
 obtain⟨h1,h2,h3⟩:=h2d lo hi its.toArray.size
 unfold slicePick
 rw [h1,h2,h3]
 simp only [sliceRange_one,pick_run,List.size_toArray] <;> rfl
noncomputable def rSlL(K:PySem.W.Frag):V->Option Int->Option Int->Hp->VK->Prop:=fun x lo hi H Q=>∃ a xs,x = .ref a/\SqL K H a xs/\∀ p,H p=none->Q (.ref p) (upd H p (.lst (d7r xs lo hi)))
theorem h5k:SlR X (rSlL X.K):=by
 intro pins s σ H x v vl vu lo hi sl Q I rx hs pl pu h
 obtain⟨a,xs,rfl,hx,q⟩:=h
 cases rx
 obtain⟨its,r,ht,hz⟩:=I.list hx
 have hlen:=r.length
 refine ⟨"list", _, slot_list_getitem.lookup, ht.isList.typeIs, ?_⟩
 refine wpAny_getItem_list_slice ht.isList hs pl pu .none (by simp) ?_ (by rw [List.size_toArray] <;> omega)
 rw [g8c,<- hlen]
 refine⟨.ref s.heap.objs.size,_,I.laid (t':=s.toks) (o:=.lst (d7r xs lo hi)) (fun b ob q=>Heap.get?_push_of_some _ q) (Nat.le_refl _) ?_,rfl,q _ (I.hok.fresh (Nat.le_refl _))⟩
 exact⟨Nat.le_trans (g1s xs lo hi) hz,_,0,(r.drop (HT.sIx xs.length 0 lo)).take (HT.sIx xs.length xs.length hi - HT.sIx xs.length 0 lo),Heap.get?_push_size _ rfl⟩
noncomputable def c6k:V->Bool
 | .non=>true
 | .bl _=>true
 | .int _=>true
 | .str _=>true
 | _=>false
noncomputable def eqV:V->V->Bool
 | .non,.non=>true
 | .bl a,.bl b=>a == b
 | .bl a,.int b=>(if a then 1 else 0) == b
 | .int a,.bl b=>a == (if b then 1 else 0)
 | .int a,.int b=>a == b
 | .str a,.str b=>a == b
 | _,_=>false
theorem j7h{A:Around}{s:Shared}{y x:V}{u v:Value}(ry:RelV y u)(rx:RelV x v)(fy:c6k y=true)(fx:c6k x=true):SeqAt.EqAt A s u v (eqV y x):=by
 cases y with
 | non =>
  cases ry
  cases x with
  | non=>cases rx; exact SeqAt.EqAt.same _
  | bl b=>cases rx; exact SeqAt.EqAt.none_bool b
  | int b=>obtain⟨t,rfl⟩:=rx; exact SeqAt.EqAt.none_int b t
  | str b=>obtain⟨t,rfl⟩:=rx; exact SeqAt.EqAt.none_str b t
  | _=>exact absurd (show false=true from fx) Bool.false_ne_true
 | bl a =>
  cases ry
  cases x with
  | non=>cases rx; exact SeqAt.EqAt.bool_none a
  | bl b=>cases rx; exact SeqAt.EqAt.bool_bool a b
  | int b=>obtain⟨t,rfl⟩:=rx; exact SeqAt.EqAt.bool_int a b t
  | str b=>obtain⟨t,rfl⟩:=rx; exact SeqAt.EqAt.bool_str a b t
  | _=>exact absurd (show false=true from fx) Bool.false_ne_true
 | int a =>
  obtain⟨t',rfl⟩:=ry
  cases x with
  | non=>cases rx; exact SeqAt.EqAt.int_none a t'
  | bl b=>cases rx; exact SeqAt.EqAt.int_bool a t' b
  | int b=>obtain⟨t,rfl⟩:=rx; exact SeqAt.EqAt.int_int a t' b t
  | str b=>obtain⟨t,rfl⟩:=rx; exact SeqAt.EqAt.int_str a t' b t
  | _=>exact absurd (show false=true from fx) Bool.false_ne_true
 | str a =>
  obtain⟨t',rfl⟩:=ry
  cases x with
  | non=>cases rx; exact SeqAt.EqAt.str_none a t'
  | bl b=>cases rx; exact SeqAt.EqAt.str_bool a t' b
  | int b=>obtain⟨t,rfl⟩:=rx; exact SeqAt.EqAt.str_int a t' b t
  | str b=>obtain⟨t,rfl⟩:=rx; exact SeqAt.EqAt.str_str a t' b t
  | _=>exact absurd (show false=true from fx) Bool.false_ne_true
 | _=>exact absurd (show false=true from fy) Bool.false_ne_true
noncomputable def eqU(x:V)(u:Value):Bool:=match u with
 | .none=>eqV .non x
 | .bool b=>eqV (.bl b) x
 | .int i _=>eqV (.int i) x
 | .str z _=>eqV (.str z) x
 | _=>false
theorem j0o{x y:V}{u:Value}(r:RelV y u)(f:c6k y=true):eqU x u=eqV y x:=by
 cases y with
 | non=>cases r; rfl
 | bl b=>cases r; rfl
 | int i=>obtain⟨t,rfl⟩:=r; rfl
 | str z=>obtain⟨t,rfl⟩:=r; rfl
 | _=>exact absurd (show false=true from f) Bool.false_ne_true
theorem g1t{x:V}:∀ {xs:List V} {us:List Value},Vals xs us->xs.all c6k=true->us.any (eqU x)=xs.any fun y=>eqV y x
 | _,_,.nil,_=>rfl
 | y :: xs,u :: us,.cons r t,f=>by
  rw [List.all_cons,Bool.and_eq_true] at f
  rw [List.any_cons,List.any_cons,j0o r f.1,g1t t f.2]
theorem f3q{A:Around}{s:Shared}{x:V}{v:Value}(rx:RelV x v)(fx:c6k x=true):∀ {xs:List V} {us:List Value},Vals xs us->xs.all c6k=true->∀ u∈us,SeqAt.EqAt A s u v (eqU x u)
 | _,_,.nil,_=>fun u hu=>by cases hu
 | y :: xs,u :: us,.cons r t,f=>fun u' hu=>by
  rw [List.all_cons,Bool.and_eq_true] at f
  rcases List.mem_cons.mp hu with rfl | hu
  ·rw [j0o r f.1]; exact j7h r rx f.1 fx
  ·exact f3q rx fx t f.2 u' hu
noncomputable def inV(x:V)(xs:List V):Bool:=xs.any fun y=>eqV y x
def rIn(K:PySem.W.Frag)(neg:Bool):R2:=fun x y H Q=>∃ p xs,y = .ref p/\(SqL K H p xs\/SqT K H p xs)/\c6k x=true/\xs.all c6k=true/\Q (.bl (if neg then !inV x xs else inV x xs)) H
theorem h2e:OpR X (compareOp .In) (rIn X.K false):=by
 intro pins s σ H x y v u Q I rx ry h
 obtain⟨p,xs,rfl,hq,fx,fs,q⟩:=h
 cases ry
 rcases hq with hq | hq
 ·obtain⟨its,r,pl,hz⟩:=I.list hq
  refine SeqAt.in_listAt (eqU x) pl.isList (fun w hw=>f3q rx fx r fs w (by simpa using hw)) ⟨.bl _,H,I,rfl,?_⟩
  rw [show its.toArray.any (eqU x)=its.any (eqU x) by simp,g1t r fs]
  exact q
 ·obtain⟨its,r,pl,hz⟩:=I.tuple hq
  refine SeqAt.in_tupleAt (eqU x) pl (fun w hw=>f3q rx fx r fs w (by simpa using hw)) ⟨.bl _,H,I,rfl,?_⟩
  rw [show its.toArray.any (eqU x)=its.any (eqU x) by simp,g1t r fs]
  exact q
theorem f9n:OpR X (compareOp .NotIn) (rIn X.K true):=by
 intro pins s σ H x y v u Q I rx ry h
 obtain⟨p,xs,rfl,hq,fx,fs,q⟩:=h
 cases ry
 rcases hq with hq | hq
 ·obtain⟨its,r,pl,hz⟩:=I.list hq
  refine SeqAt.notIn_listAt (eqU x) pl.isList (fun w hw=>f3q rx fx r fs w (by simpa using hw)) ⟨.bl _,H,I,rfl,?_⟩
  rw [show its.toArray.any (eqU x)=its.any (eqU x) by simp,g1t r fs]
  exact q
 ·obtain⟨its,r,pl,hz⟩:=I.tuple hq
  refine SeqAt.notIn_tupleAt (eqU x) pl (fun w hw=>f3q rx fx r fs w (by simpa using hw)) ⟨.bl _,H,I,rfl,?_⟩
  rw [show its.toArray.any (eqU x)=its.any (eqU x) by simp,g1t r fs]
  exact q
theorem h2f:OpR X (compareOp .NotIn) (fun x y H Q=>∃ i j,x = .str i/\y = .str j/\Q (.bl (!(!(Builtin.Str.occurrences j i 0 j.length 1).isEmpty))) H):=by
 intro pins s σ H x y v u Q I rx ry h
 obtain⟨i,j,rfl,rfl,q⟩:=h
 obtain⟨t,rfl⟩:=rx
 obtain⟨t',rfl⟩:=ry
 exact notIn_str ⟨.bl _,H,I,rfl,q⟩
theorem f9o : c6j X (.builtin "len") (fun xs H Q => ∃ p ys, xs = [.ref p] ∧ (SqL X.K H p ys ∨ SqT X.K H p ys) ∧ Q (.int ys.length) H) := by
 intro pins s σ H xs us Q I r h
 obtain⟨p,ys,rfl,hq,q⟩:=h
 obtain⟨u,rfl,rx⟩:=vals1 r
 cases rx
 have hn:=h1v
 rcases hq with hq | hq
 ·obtain⟨its,r',pl,hz⟩:=I.list hq
  have hlen:=r'.length
  exact Calls.call_len_list pl.isList (by simp only [List.size_toArray] <;> omega) ⟨.int ys.length,H,I.tok _,⟨s.toks+1,by rw [List.size_toArray,hlen]⟩,q⟩
 ·obtain⟨its,r',pl,hz⟩:=I.tuple hq
  have hlen:=r'.length
  exact len_tuple pl (by simp only [List.size_toArray] <;> omega) ⟨.int ys.length,H,I.tok _,⟨s.toks+1,by rw [List.size_toArray,hlen]⟩,q⟩
theorem h2g : c6j X (.builtin "len") (fun xs H Q => ∃ z, xs = [.str z] ∧ z.length ≤ sizeLine ∧ Q (.int z.length) H) := by
 intro pins s σ H xs us Q I r h
 obtain⟨z,rfl,hz,q⟩:=h
 obtain⟨u,rfl,t,rfl⟩:=vals1 r
 have hn:=h1v
 exact len_str (by omega) ⟨.int z.length,H,I.tok _,⟨_,rfl⟩,q⟩
theorem h2i : c6j X (.type "list") (fun xs H Q => ∃ p ys, xs = [.ref p] ∧ (SqL X.K H p ys ∨ SqT X.K H p ys) ∧ ∀ l, H l = none → Q (.ref l) (upd H l (.lst ys))) := by
 intro pins s σ H xs us Q I r h
 obtain⟨p,ys,rfl,hq,q⟩:=h
 obtain⟨u,rfl,rx⟩:=vals1 r
 cases rx
 have fin:∀ (its:List Value),Vals ys its->ys.length<=sizeLine->∀ (h':Heap) (c':Nat),(∀ b o',s.heap.get? b=some o'->h'.get? b=some o') ->
   h'.get? s.heap.objs.size = some { cls := .type "list", dict := none, data := .seq its.toArray c', slots := #[] } → EP X pins σ Q (.ref s.heap.objs.size) { s with heap := h' } := fun its r' hz h' c' kp e =>
  ⟨.ref s.heap.objs.size,_,I.laid (t':=s.toks) kp (Nat.le_refl _) (show c4u X.prog X.w _ h' _ (.lst ys) from ⟨hz,its,c',r',e⟩),rfl,q _ (I.hok.fresh (Nat.le_refl _))⟩
 rcases hq with hq | hq
 ·obtain⟨its,r',pl,hz⟩:=I.list hq
  have hlen:=r'.length
  obtain⟨o,ho,hc,n,hd⟩:=pl.isList
  exact call_list_seq p (.inl rfl) ho hc hd (fun h' c' kp e=>fin its r' hz h' c' kp e) (by simp only [List.size_toArray] <;> omega)
 ·obtain⟨its,r',pl,hz⟩:=I.tuple hq
  have hlen:=r'.length
  obtain⟨o,ho,hc,n,hd⟩:=pl
  exact call_list_seq p (.inr rfl) ho hc hd (fun h' c' kp e=>fin its r' hz h' c' kp e) (by simp only [List.size_toArray] <;> omega)
theorem g8d : c6j X (.type "tuple") (fun xs H Q => ∃ p ys, xs = [.ref p] ∧ ((SqL X.K H p ys ∧ ∀ l, H l = none → Q (.ref l) (upd H l (.tup ys))) ∨ (SqT X.K H p ys ∧ Q (.ref p) H))) := by
 intro pins s σ H xs us Q I r h
 obtain⟨p,ys,rfl,h⟩:=h
 obtain⟨u,rfl,rx⟩:=vals1 r
 cases rx
 rcases h with ⟨hq,q⟩ | ⟨hq,q⟩
 ·obtain⟨its,r',pl,hz⟩:=I.list hq
  have hlen:=r'.length
  refine call_tuple_list pl.isList (fun h' kp=>?_) (by simp only [List.size_toArray] <;> omega)
  have I1:Inv X pins σ H { s with heap:=h' }:=I.kept (t':=s.toks) kp
  have I2 : Inv X pins σ (upd H h'.objs.size (.tup ys)) { s with heap := h'.push { cls := .type "tuple", data := .seq its.toArray } } :=
   I1.laid (t':=s.toks) (fun b o e=>Heap.get?_push_of_some _ e) (Nat.le_refl _) (show c4u X.prog X.w _ _ _ (.tup ys) from ⟨hz,its,r',IsTup.new _ _⟩)
  exact⟨.ref h'.objs.size,_,I2,rfl,q _ (I1.hok.fresh (Nat.le_refl _))⟩
 ·obtain⟨its,r',pl,hz⟩:=I.tuple hq
  exact call_tuple_same pl ⟨.ref p,H,I,rfl,q⟩
def tyV(K:PySem.W.Frag)(T:String)(x:V)(H:Hp):Prop:=match x with
 | .str _ => T = "str"
 | .int _ => T = "int"
 | .ref p => (T = "list" ∧ ∃ xs, SqL K H p xs) ∨ (T = "tuple" ∧ ∃ o, K.lookup p = some o ∧ o.cls = .type "tuple" ∧ o.dict = none) ∨
   (T = "dict" ∧ ((∃ kvs, H p = some (.dK kvs)) ∨ ∃ kvs, H p = some (.dT kvs))) ∨ (T = "set" ∧ ∃ S n, H p = some (.set S n))
 | _=>False
theorem j7i{pins:List (Addr×Obj)}{σ:St}{H:Hp}{s:Shared}{T:String}{x:V}{v:Value}(I:Inv X pins σ H s)(r:RelV x v)(ty:tyV X.K T x H) :
  s.TypeIs v T/\∀ a,v = .ref a->∃ ob,s.heap.get? a=some ob/\ob.dict=none:=by
 cases x with
 | str z =>
  obtain⟨t,rfl⟩:=r
  cases (show T = "str" from ty)
  exact⟨typeIs_str s z t,fun _ e=>nomatch e⟩
 | int i =>
  obtain⟨t,rfl⟩:=r
  cases (show T = "int" from ty)
  exact⟨typeIs_int s i t,fun _ e=>nomatch e⟩
 | ref p =>
  cases r
  rcases ty with ⟨rfl,xs,hq⟩ | ⟨rfl,o,hk,hc,hd⟩ | ⟨rfl,hk⟩ | ⟨rfl,S,n,hk⟩
  ·obtain⟨its,_,pl,_⟩:=I.list hq
   refine⟨pl.isList.typeIs,fun a e=>?_⟩
   cases e
   obtain⟨o,n,e,c,hd,_⟩:=pl
   exact⟨o,e,hd⟩
  ·refine⟨⟨o,I.kIn p o hk,hc⟩,fun a e=>?_⟩
   cases e
   exact⟨o,I.kIn _ o hk,hd⟩
  ·have z:∃ o,s.heap.get? p=some o/\o.ExactDict:=by
    rcases hk with ⟨kvs,hk⟩ | ⟨kvs,hk⟩
    ·obtain⟨_,_,_,_,o,_,_,e,ex,_⟩:=I.hok p _ hk
     exact⟨o,e,ex⟩
    ·obtain⟨_,_,_,_,o,_,_,e,ex,_⟩:=I.hok p _ hk
     exact⟨o,e,ex⟩
   obtain⟨o,e,ex⟩:=z
   refine⟨⟨o,e,ex.1⟩,fun a e2=>?_⟩
   cases e2
   exact⟨o,e,ex.2.1⟩
  ·obtain⟨o,_,_,_,e,ex,_⟩:=I.hok p _ hk
   refine⟨⟨o,e,ex.1⟩,fun a e2=>?_⟩
   cases e2
   exact⟨o,e,ex.2.1⟩
 | _=>exact False.elim ty
variable {o e:Expr}{es:List Expr}{to:TE}{t:TA}{name:Str}{apos cpos:Pos}{T id:String}{r:V->List V->Hp->VK->Prop}
/- xs.append(e),list.index on a module's tuple .. are MtR facts of 06m -/
end
end L2
namespace L2
open PySem PySem.Spec PyProof.Rows
def MtM(X:Cx)(id:String)(r:V->List V->Hp->VK->Prop):Prop :=
 ∀ (pins:List (Addr×Obj)) (s:Shared) (σ:St) (H:Hp) (x:V) (xs:List V) (v:Value) (us:List Value) (Q:VK),Inv X pins σ H s->RelV x v->Vals xs us->r x xs H Q ->
  wpAny (model X.prog X.w) X.A (call (.builtin id) (v :: us)) (EP X pins σ Q) X.xe s
theorem Vals.one:∀ {x:V} {us:List Value},Vals [x] us->∃ u,us = [u]/\RelV x u
 | _,_,.cons r .nil=>⟨_,rfl,r⟩
theorem Vals.two{x y:V}{us:List Value}(h:Vals [x,y] us):∃ u v,us = [u,v]/\RelV x u/\RelV y v:=by
 cases h with
 | cons r t =>
  cases t with
  | cons q z =>
   cases z
   exact⟨_,_,rfl,r,q⟩
theorem Vals.rep{xs:List V}{us:List Value}(h:Vals xs us):∀ k:Nat,Vals (List.replicate k xs).flatten (List.replicate k us).flatten
 | 0=>.nil
 | k+1=>by
  rw [List.replicate_succ,List.replicate_succ,List.flatten_cons,List.flatten_cons]
  exact Vals.append h (Vals.rep h k)
theorem foldl_rep(its:List Value):∀ (k:Nat) (acc:List Value),
  List.foldl (fun x1 x2=>x1++x2) acc.toArray (List.replicate k its.toArray)=(acc++(List.replicate k its).flatten).toArray
 | 0,acc=>by simp
 | k+1,acc=>by
  have e:acc.toArray++its.toArray=(acc++its).toArray:=by simp
  have e2:(acc++its)++(List.replicate k its).flatten=acc++(List.replicate (k+1) its).flatten:=by
   rw [List.replicate_succ,List.flatten_cons,List.append_assoc]
  rw [<- e2,<- foldl_rep its k (acc++its),<- e,List.replicate_succ,List.foldl_cons]
section
variable {X:Cx}{pins:List (Addr×Obj)}{σ:St}{H:Hp}{s:Shared}{l b:Addr}{xs ys zs:List V}
theorem Inv.lset{its its':List Value}{n:Nat}{f:Array Value->Array Value}{t':Nat}(I:Inv X pins σ H s)(hH:H l=some (.lst xs))
  (e : s.heap.get? l = some { cls := .type "list", data := .seq its.toArray n }) (hf : f its.toArray = its'.toArray) (hv : Vals ys its') (hz : ys.length ≤ sizeLine) :
  Inv X pins σ (upd H l (.lst ys)) { s with heap:=s.heap.update l (Obj.mapSeq f),toks:=t' }:=by
 have q:=PySem.IsL.update e f
 rw [hf] at q
 refine I.write (x:=l) (e:=l) (by rw [hH]; exact trivial) (.inl rfl) (fun b' u hb hu=>(Heap.get?_update_other s.heap (Obj.mapSeq f) (Ne.symm hb)).trans hu) ⟨_,q⟩ ?_
 exact⟨hz,its',_,hv,q⟩
theorem Inv.k4y{its:List Value}{t':Nat}(I:Inv X pins σ H s)(hv:Vals ys its)(hz:ys.length<=sizeLine) :
  Inv X pins σ (upd H s.heap.objs.size (.lst ys)) { s with heap := s.heap.push { cls := .type "list", data := .seq its.toArray }, toks := t' } :=
 I.laid (fun _ _ q=>Heap.get?_push_of_some _ q) (Nat.le_refl _) ⟨hz,its,0,hv,Heap.get?_push_size _ rfl⟩
theorem Inv.fresh(I:Inv X pins σ H s):H s.heap.objs.size=none:=I.hok.fresh (Nat.le_refl _)
theorem Inv.k1k (I : Inv X pins σ H s) (hH : H l = some (.lst xs)) : xs.length ≤ sizeLine ∧ ∃ (its : List Value) (n : Nat), Vals xs its ∧ xs.length = its.length ∧ s.heap.get? l = some { cls := .type "list", data := .seq its.toArray n } := by
 obtain⟨z,its,n,r,e⟩:=I.hok l _ hH
 exact⟨z,its,n,r,r.length,e⟩
theorem i8c{n:Nat}(h:n<=sizeLine):Builtin.List.listTooLong n=false:=by
 unfold Builtin.List.listTooLong
 exact decide_eq_false (by omega)
end
section
variable {X:Cx}
noncomputable def i3u:V->List V->Hp->VK->Prop:=fun x vs H Q=>∃ l xs y,x = .ref l/\vs = [y]/\H l=some (.lst xs)/\xs.length < sizeLine/\Q .non (upd H l (.lst (xs++[y])))
theorem f3r : MtM X "list.append" i3u := by
 intro pins s σ H x vs v us Q I rx rv h
 obtain⟨l,xs,y,rfl,rfl,hH,hz,q⟩:=h
 cases rx
 obtain⟨u,rfl,ru⟩:=rv.one
 obtain⟨z,its,n,r,hl,e⟩:=I.k1k hH
 refine call_meets F.slot_list_append ⟨_,e,rfl⟩ F.entry_list_append (F.args_list_append_2 _ _) (PySem.list_append l its.toArray n u (by rw [List.size_toArray]; omega)) ⟨e,?_⟩
 refine⟨.non,_,I.lset (its':=its++[u]) hH e (by simp) (r.append (.cons ru .nil)) ?_,rfl,q⟩
 rw [List.length_append,List.length_singleton]
 omega
def rCat:R2:=fun x y H Q=>∃ l b xs zs,x = .ref l/\y = .ref b/\H l=some (.lst xs)/\H b=some (.lst zs)/\xs.length+zs.length<=sizeLine/\∀ p,H p=none->Q (.ref p) (upd H p (.lst (xs++zs)))
theorem j7j:OpR X (binaryOp .Add) rCat:=by
 intro pins s σ H x y v u Q I rx ry h
 obtain⟨l,b,xs,zs,rfl,rfl,hH,hB,hz,q⟩:=h
 cases rx
 cases ry
 obtain⟨z,its,n,r,hl,e⟩:=I.k1k hH
 obtain⟨z2,its2,n2,r2,hl2,e2⟩:=I.k1k hB
 refine PySem.P.add_list e e2 ?_ (by rw [List.size_toArray,List.size_toArray]; omega)
 have ea:its.toArray++its2.toArray=(its++its2).toArray:=by simp
 rw [ea]
 exact⟨.ref _,_,I.k4y (t':=s.toks) (r.append r2) (by rw [List.length_append]; omega),rfl,q _ I.fresh⟩
def rRep:R2:=fun x y H Q=>∃ l k xs,x = .ref l/\y = .int k/\H l=some (.lst xs) /\ -(2 ^ 63)<=k/\k < 2 ^ 63/\xs.length*k.toNat<=sizeLine /\
 ∀ p,H p=none->Q (.ref p) (upd H p (.lst (List.replicate k.toNat xs).flatten))
theorem len_rep{α:Type}(xs:List α)(k:Nat):(List.replicate k xs).flatten.length=k*xs.length:=by
 induction k with
 | zero=>simp
 | succ k ih=>rw [List.replicate_succ,List.flatten_cons,List.length_append,ih,Nat.succ_mul,Nat.add_comm]
theorem j7k:OpR X (binaryOp .Mult) rRep:=by
 intro pins s σ H x y v u Q I rx ry h
 obtain⟨l,k,xs,rfl,rfl,hH,h1,h2,hz,q⟩:=h
 cases rx
 obtain⟨t,rfl⟩:=ry
 obtain⟨z,its,n,r,hl,e⟩:=I.k1k hH
 have hlen:its.toArray.size*k.toNat<=sizeLine:=by rw [List.size_toArray,<- hl]; exact hz
 have hcap:¬ its.toArray.size*k.toNat > (2 ^ 63 - 1) / 8:=by
  have:(sizeLine:Nat)<=(2 ^ 63 - 1) / 8:=by decide
  omega
 have hfit:¬ (!Builtin.List.listFitsIndex k)=true:=by
  rw [fitsIndex_both h1 h2]
  exact Bool.false_ne_true
 have k2l:¬ Builtin.List.listTooLong (its.toArray.size*k.toNat)=true:=by
  rw [i8c hlen]
  exact Bool.false_ne_true
 have hnew:List.foldl (fun x1 x2=>x1++x2) #[] (List.replicate (if its.toArray.isEmpty=true then 0 else k.toNat) its.toArray)=(List.replicate k.toNat its).flatten.toArray:=by
  have f0:∀ m:Nat,List.foldl (fun x1 x2=>x1++x2) #[] (List.replicate m its.toArray)=(List.replicate m its).flatten.toArray:=fun m=>by
   have:=foldl_rep its m []
   rw [List.nil_append] at this
   exact this
  rw [f0]
  cases its with
  | nil=>simp
  | cons a r'=>rw [if_neg (by simp)]
 refine wpAny_binaryOp_repeat_ref (T := "list") (U := "int") (by decide) ⟨_, e, rfl⟩ (fun s' => typeIs_int s' k t) noFill_list_mul F.fills_int_mul F.slot_int_rmul repeat_list F.slot_int_index.lookup
  (call_meets F.slot_int_rmul (typeIs_int s k t) F.entry_int_rmul (F.args_int_rmul_2 _ _) (int___rmul___int_list k t l its.toArray n)
   ⟨e,rfl,⟨_,e,rfl⟩,call_meets F.slot_list_mul ⟨_,e,rfl⟩ F.entry_list_mul (F.args_list_mul_2 _ _) (AutoListH.list___mul___list_int_3 l its.toArray n k t hfit hcap k2l) ⟨e,?_⟩⟩)
 rw [hnew]
 exact⟨.ref _,_,I.k4y (t':=s.toks) (r.rep k.toNat) (by rw [len_rep,Nat.mul_comm]; exact hz),rfl,q _ I.fresh⟩
end
section
variable {prog:Program}{w:World}{A:Around}{E:Value->Shared->Prop}{s:Shared}
end
section
variable {X:Cx}
end
end L2
namespace Att
open PySem PySem.W PySem.Calls PyProof.Rows
theorem g1u{P:Params}{h:Heap}:∀ (ns:List Int) (vs:List Value),WellAll P h vs (ns.map WData.int)->IntsAre vs ns:=by
 intro ns
 induction ns with
 | nil =>
  intro vs w
  rw [List.map_nil] at w
  cases w
  exact .nil
 | cons n ns ih =>
  intro vs w
  rw [List.map_cons] at w
  cases w with
  | cons a b =>
   cases a
   exact .cons _ _ (ih _ b)
theorem i3v{l:OpenLaw}{n:Nat}(hn:l.most=some n){P:Params}{h:Heap}{args:List WData}{vals:List Value}
  (hpre:l.row.toRowW.claim.pre args=true) (hwl:WellAll P h vals args) :
  ∃ a vs ns, vals = [Value.ref a] ∧ args = [WData.list (ns.map WData.int)] ∧ h.get? a = some { cls := .type "list", data := .seq vs.toArray } ∧ IntsAre vs ns ∧ ns.length ≤ n := by
 have hsh:WShape.hasAll [] args [.list .int]=true:=(pre_splitW hpre).1
 have hc:l.pre.holds [] { args:=args }=true:=(pre_splitW hpre).2
 obtain⟨d,r,rfl,h1,h2⟩:=hasAllW_cons hsh
 obtain rfl:=hasAllW_nil h2
 obtain⟨xs,rfl,h3⟩:=hasW_list h1
 obtain⟨ns,rfl⟩:=items_int h3
 have hlen:ns.length<=n:=by
  unfold OpenLaw.pre at hc
  have h4:(WTm.not (.lt (.lit (.int (n:Int))) (.len (.arg 0)))).holds [] { args:=[.list (ns.map .int)] }=true:=by
   have h4:=(holds_andW hc).1
   rw [hn] at h4
   exact h4
  have h5:=condW_of h4 (w_not (w_lt w_lit (w_len_list (w_arg rfl))))
  rw [List.length_map] at h5
  refine Nat.le_of_not_lt fun q=>?_
  have q':(n:Int) < ((ns.length:Nat):Int):=by omega
  first
   | (rw [decide_eq_true q'] at h5; exact absurd h5 (by decide))
   | (simp at h5; omega)
 cases hwl with
 | cons w1 w2 =>
  cases w2
  cases w1 with
  | list ho hall=>exact⟨_,_,ns,rfl,rfl,ho,g1u ns _ hall,hlen⟩
theorem i3w(l:OpenLaw)(args:List WData):l.row.toRowW.claim.post args (.bool true) args=true :=
 postW_of (r:=l.row.toRowW) (X:=(true == true))
  (show WShape.has [] (.bool true) .bool=true by first | rfl | decide | simp [WShape.has,WShape.arms,WShape.armsAll])
  (show (WTm.eq .res (.lit (.bool true))).value [] { args:=args,res:=some (.bool true),after:=args }=some (.bool (true == true)) from w_eq_bool (w_res rfl) w_lit) rfl
section
variable {prog:Program}{w:World}{A:Around}{E:Value->Shared->Prop}{s:Shared}{K:Frag}
end
end Att
namespace L2
open PySem PySem.Spec PyProof.Rows
theorem h2j:∀ {vs:List Value} {ns:List Int},IntsAre vs ns->Vals (ns.map V.int) vs
 | _,_,.nil=>.nil
 | _,_,.cons n t h=>.cons ⟨t,rfl⟩ (h2j h)
def Only(H:Hp):Prop:=∀ b,H b=none\/∃ o xs,H b=some (.frz o (.lst xs))
theorem i8d{P:Program}{w:World}{K:PySem.W.Frag}{mg mb:Str->Option Value}{CX:CXT}{k:Nat}{fa a:Addr}{fd:FuncData}{x:Str}{sp:Sp}{s₁:Shared}{vs:List Value}{ns:List Int}
  (KX : K.In s₁.heap) (hns : s₁.heap.Ns mainGlobals mg) (hb : s₁.heap.Ns builtinsNs mb) (hbb : ∀ x : Str, x ≠ "__name__" → mb x = bootBuiltins x) (hlim : s₁.heap.NoLimit) (hg : s₁.gens = #[])
  (ha : s₁.heap.get? a = some { cls := .type "list", data := .seq vs.toArray }) (hi : IntsAre vs ns) (hl : ns.length ≤ sizeLine) (hr : a2p k callerA)
  (F:∀ base:Heap,K.In base->base.Ns mainGlobals mg->a1h P w K mg base CX k fa fd [x] sp) (hbind:∀ (s:Shared) (u:Value),BindsTo s fd ⟨[u],[]⟩ [(x,u)])
  (hsp:∀ H:Hp,Only H->SqL K H a (ns.map V.int)->sp [.ref a] H (fun v _=>v = .bl true) fun _ _ _=>False)
  (hCX:∀ H e s',CX [] H s₁ (fun _ _ _=>False) e s'->False) :
  codeAny (model P w) callerA (.call (.ref fa) ⟨[.ref a],[]⟩) (fun r s'=>r = .ok (.ret (.bool true))/\OldK s₁.heap s'.heap/\s'.os=s₁.os/\AllBare s'.gens) s₁:=by
 have rv:=h2j hi
 have lenV:=hi.length
 -- from an abstract heap in which nothing but the script may be tracked
 have core:∀ H:Hp,Only H->SqL K H a (ns.map V.int)->HOk P w H s₁.heap->(∀ b,H b≠none->b=a)->(H a≠none->K.lookup a=none) ->
   codeAny (model P w) callerA (.call (.ref fa) ⟨[.ref a],[]⟩) (fun r s'=>r = .ok (.ret (.bool true))/\OldK s₁.heap s'.heap/\s'.os=s₁.os/\AllBare s'.gens) s₁:=by
  intro H hO hS hok hA hK
  have i3x:∀ {b:Addr} {o:Obj},s₁.heap.get? b=some o->H b=none->(i7q s₁.heap H).get? b=some o:=fun e n=>i7r e n
  have noA:∀ {b:Addr} {o:Obj} {es:Array DictEntry} {ep:Nat},s₁.heap.get? b=some o->o.data = .dict es ep->H b=none:=fun {b o es ep} e d=>by
   cases q:H b with
   | none=>rfl
   | some u =>
    have e':b=a:=hA b (by rw [q]; simp)
    subst e'
    rw [ha] at e; cases e
    have d':Data.seq vs.toArray _=Data.dict es ep:=d
    cases d'
  have nsK:∀ {b:Addr} {m:Str->Option Value},s₁.heap.Ns b m->(i7q s₁.heap H).Ns b m:=fun {b m} ⟨o,es,ep,e,d,r⟩=>⟨o,es,ep,i3x e (noA e d),d,r⟩
  have hKb:K.In (i7q s₁.heap H):=fun b o e=>i3x (KX b o e) (by
   cases q:H b with
   | none=>rfl
   | some u =>
    have e':b=a:=hA b (by rw [q]; simp)
    subst e'
    rw [hK (by rw [q]; simp)] at e; cases e)
  have hM:Mod K mg (i7q s₁.heap H):=⟨hKb,nsK hns,⟨mb,nsK hb,hbb⟩,let ⟨mc,h1,h2⟩:=hlim; ⟨mc,nsK h1,h2⟩⟩
  have e0:j0n P w K mg (i7q s₁.heap H) callerA [] s₁ H:=⟨rfl,hM,fun b o e=>j2n e,Nat.le_of_eq (i3d _ _),trivial,fun b hb=>absurd (show b∈([] : List Addr) from hb) (by simp),hok,.of_eq hg⟩
  refine codeAny_mono ((F _ hKb (nsK hns)).run callerA [] s₁ H ⟨[.ref a],[]⟩ [.ref a] [.ref a] _ _ hr e0 (hbind s₁ (.ref a)) (.cons rfl .nil) (hsp H hO hS)) fun r s' h=>?_
  cases r with
  | error e=>exact (hCX H e s' h).elim
  | ok fl =>
   cases fl with
   | next=>exact False.elim h
   | brk=>exact False.elim h
   | cont=>exact False.elim h
   | ret u =>
    obtain⟨v,H',os,bare,un,hok',r',q⟩:=h
    have q':v = .bl true:=q
    subst q'
    obtain rfl:u=Value.bool true:=r'
    refine⟨rfl,OldK.of_keep fun b o e=>?_,os,bare⟩
    cases q:H b with
    | none=>exact un.keep b o e q (by intro z; exact absurd (show b∈([] : List Addr) from z) (by simp)) (by simp)
    | some u =>
     rcases hO b with z | ⟨ob,xs,z⟩
     ·rw [q] at z; cases z
     ·have z2:=un.h1o b ob _ z
      obtain⟨e1,_⟩:=hok b _ z
      obtain⟨e2,_⟩:=hok' b _ z2
      rw [e] at e1; cases e1
      exact e2
 cases hk:K.lookup a with
 | some o =>
  -- the script is one of the module's own objects
  have e:=KX a o hk
  rw [ha] at e
  cases e
  refine core (fun _=>none) (fun _=>.inl rfl) (.inr ⟨_,vs.toArray,_,hk,rfl,rfl,rfl,by rw [List.size_toArray,lenV]; exact hl,by simpa using rv⟩) (fun b u z=>by have z':(none:Option HO)=some u:=z; cases z') (fun b z=>absurd rfl z) fun z=>absurd rfl z
 | none =>
  refine core (fun b => if b = a then some (.frz { cls := .type "list", data := .seq vs.toArray } (.lst (ns.map V.int))) else none) (fun b => ?_) (.inl (.inr ⟨{ cls := .type "list", data := .seq vs.toArray }, if_pos rfl⟩)) (fun b u z => ?_) (fun b z => ?_) fun _ => hk
  ·by_cases hb:b=a
   ·exact .inr ⟨_,_,if_pos hb⟩
   ·exact .inl (if_neg hb)
  ·by_cases hb:b=a
   ·have z':=(if_pos hb).symm.trans z
    cases z'
    subst hb
    exact⟨ha,by rw [List.length_map]; exact hl,vs,_,rv,ha⟩
   ·have z':=(if_neg hb).symm.trans z
    cases z'
  ·by_cases hb:b=a
   ·exact hb
   ·exact absurd (if_neg hb) z
end L2
namespace L2
open PySem PySem.Spec PyProof.Rows
end L2
/- THE LAST THEOREM (shape; LID,My.* are yours):
  My.Adr: a structure of the addresses that your layer names (classes,functions); My.Txt K t: a structure (Prop) of the equations over K;
  My.txt_mk : {K} {implicit addresses ..} (e1 : nsIn K mainGlobals "law" = some (some (.ref f))) (e2 : K.lookup f = some ⟨oc, od, .func (fnOf "law" "law" params body scope dV kV doc pm an cdv ct), sl⟩) (e3 : codeIn K cdv "law" = true) .. : ∃ t, My.Txt K t
(the tactic k_is has no namespace: write k_is) -/
namespace L2
open PySem PySem.Spec PyProof.Rows
noncomputable def inClass(s:Stmt)(j:Nat):Stmt:=match s with
 | .ClassDef _ _ _ body _ _ _ _ _ _ _=>body.getD j (.Pass ⟨0,0,0,0⟩)
 | _=>.Pass ⟨0,0,0,0⟩
noncomputable def g8e(s:Stmt):Arguments:=match s with
 | .FunctionDef _ a _ _ _ _ _ _ _ _=>a
 | _=>{ posonlyargs:=[],args:=[],vararg:=none,kwonlyargs:=[],kw_defaults:=[],kwarg:=none,defaults:=[] }
noncomputable def f2g(s:Stmt):List Stmt:=match s with
 | .FunctionDef _ _ b _ _ _ _ _ _ _=>b
 | _=>[]
noncomputable def a0l(s:Stmt):Scope:=match s with
 | .FunctionDef _ _ _ _ _ _ sc _ _ _=>sc
 | _=>{ kind:=.function,names:=[],isGenerator:=false,isCoroutine:=false }
noncomputable abbrev CX0:CXT:=fun _ _ _ _ _ _=>False
abbrev E0:XK:=fun _ _ _=>False
theorem a0p{X:Cx}:Passes CX0 X E0:=fun _ _ _ _ _ _ _ h=>h.elim
structure Fun(K:PySem.W.Frag)(x qual:Str)(st:Stmt)(f:Addr)(fd:FuncData):Prop where
 ex:∃ (oc:Value) (od:Option Addr) (kV doc pm:Value) (an:Option Addr) (cdv ct:Value) (osl:Array (Option Value)),
  fd=PySem.W.fnOf x qual (g8e st) (f2g st) (a0l st) .none kV doc pm an cdv ct/\K.lookup f=some ⟨oc,od,.func fd,osl⟩/\PySem.W.codeIn K cdv qual=true
 kp:PySem.W.keepIn K (.ref f)=true
section
variable {P:Program}{w:World}{K:PySem.W.Frag}{mg:Str->Option Value}{base:Heap}
theorem Fun.ok{x qual:Str}{st:Stmt}{f:Addr}{fd:FuncData}{N ps:List Str}{k:Nat}{sp:Sp}(F:Fun K x qual st f fd)(S:a0s N ps (a0l st))(len:∀ vs H Q E,sp vs H Q E->vs.length=ps.length)
  (hbody:∀ (cdv:Value) (A:Around) (outer:List Env) (s:Shared) (H:Hp) (vs:List V) (Q:VK) (E:XK),a2p k (A.deeper (envOfC qual (a0l st) s.heap.objs.size f cdv))->sp vs H Q E ->
   ∃ t,PSs (i2v CX0 P w K mg base N qual (a0l st) f cdv A outer s H E).nox (f2g st) t/\t { nx:=fun _ H'=>Q .non H',rt:=Q } (start N vs) H):a1h P w K mg base CX0 (k+1) f fd ps sp:=by
 obtain⟨oc,od,kV,doc,pm,an,cdv,ct,osl,rfl,lk,hcd⟩:=F.ex
 refine j2x lk hcd S len fun A outer s H vs Q E hr hsp=>?_
 obtain⟨t,h,q⟩:=hbody cdv A outer s H vs Q E hr hsp
 exact⟨t,h.nox,q⟩
theorem Fun.binds{x qual:Str}{st:Stmt}{f:Addr}{fd:FuncData}{ps:List Str}(F:Fun K x qual st f fd)
  (h:∀ (kV doc pm:Value) (an:Option Addr) (cdv ct:Value) (us:List Value),us.length=ps.length->bindArgs (PySem.W.fnOf x qual (g8e st) (f2g st) (a0l st) .none kV doc pm an cdv ct) ⟨us,[]⟩=pure (ps.zip us)):Binds K fd ps []:=by
 obtain⟨oc,od,kV,doc,pm,an,cdv,ct,osl,rfl,lk,hcd⟩:=F.ex
 exact .all (h kV doc pm an cdv ct)
theorem a2h{x qual:Str}{st:Stmt}{f:Addr}{oc:Value}{od an:Option Addr}{osl:Array (Option Value)}{kV doc pm cdv ct:Value}(l:K.lookup f=some ⟨oc,od,.func (PySem.W.fnOf x qual (g8e st) (f2g st) (a0l st) .none kV doc pm an cdv ct),osl⟩)
  (c:PySem.W.codeIn K cdv qual=true) (k:PySem.W.keepIn K (.ref f)=true):Fun K x qual st f (PySem.W.fnOf x qual (g8e st) (f2g st) (a0l st) .none kV doc pm an cdv ct):=⟨⟨oc,od,kV,doc,pm,an,cdv,ct,osl,rfl,l,c⟩,k⟩
end
section
variable {X:Cx}
end
def Same(H H':Hp):Prop:=∀ b o,H b=some o->H' b=some o
theorem Same.refl(H:Hp):Same H H:=fun _ _ h=>h
theorem Same.trans{H H1 H2:Hp}(a:Same H H1)(b:Same H1 H2):Same H H2:=fun c o h=>b c o (a c o h)
theorem Same.free{H H':Hp}(e:Same H H'){l:Addr}(h:H' l=Option.none):H l=Option.none:=by
 cases q:H l with
 | none=>rfl
 | some o =>
  rw [e l o q] at h
  cases h
theorem Same.seq{K:PySem.W.Frag}{H H':Hp}{a:Addr}{xs:List V}(e:Same H H')(h:SqL K H a xs):SqL K H' a xs:=by
 rcases h with (h | ⟨o,h⟩) | h
 ·exact .inl (.inl (e _ _ h))
 ·exact .inl (.inr ⟨o,e _ _ h⟩)
 ·exact .inr h
end L2
namespace L2
open PySem PySem.Spec PyProof.Rows
section
variable {κ:Type}[DecidableEq κ]
noncomputable def i7l(kvs:List (κ×V))(k:κ):Option V:=(kvs.find? fun kv=>decide (kv.1=k)).map (·.2)
noncomputable def putK(kvs:List (κ×V))(k:κ)(v:V):List (κ×V) :=
 if (kvs.any fun kv=>decide (kv.1=k))=true then kvs.map (fun kv=>if kv.1=k then (kv.1,v) else kv) else kvs++[(k,v)]
noncomputable def j7l(kvs:List (κ×V))(k:κ):List (κ×V):=kvs.filter fun kv=>decide (kv.1≠k)
theorem i8e{p:κ×V}{r:List (κ×V)}{k:κ}(e:p.1=k):i7l (p :: r) k=some p.2:=by simp [i7l,List.find?_cons,e]
theorem i8f{p:κ×V}{r:List (κ×V)}{k:κ}(e:¬ p.1=k):i7l (p :: r) k=i7l r k:=by simp [i7l,List.find?_cons,e]
theorem i8g(k:κ):∀ kvs:List (κ×V),(kvs.any fun kv=>decide (kv.1=k))=(i7l kvs k).isSome
 | []=>rfl
 | p :: r=>by
  rw [List.any_cons]
  by_cases e:p.1=k
  ·simp only [i8e e,decide_eq_true e,Bool.true_or,Option.isSome_some]
  ·rw [i8f e,decide_eq_false e,Bool.false_or]; exact i8g k r
theorem i2u.getD{o:Option V}{u:Option Value}{d:V}{d':Value}(r:i2u o u)(rd:RelV d d'):RelV (o.getD d) (u.getD d'):=by
 cases o with
 | none=>cases u with
  | none=>exact rd
  | some _=>exact (show False from r).elim
 | some _=>cases u with
  | none=>exact (show False from r).elim
  | some _=>exact r
theorem KV.any{kvs:List (κ×V)}{vs:List (κ×Value)}(r:KV kvs vs)(k:κ):(kvs.any fun kv=>decide (kv.1=k))=vs.any fun kv=>decide (kv.1=k):=by
 unfold KV at r
 induction r with
 | nil=>rfl
 | cons h t ih=>rw [List.any_cons,List.any_cons,ih,h.1]
theorem KV.repl{kvs:List (κ×V)}{vs:List (κ×Value)}(r:KV kvs vs)(k:κ){y:V}{u:Value}(ry:RelV y u) :
  KV (kvs.map fun kv=>if kv.1=k then (kv.1,y) else kv) (vs.map fun kv=>if kv.1=k then (kv.1,u) else kv):=by
 unfold KV at r ⊢
 induction r with
 | nil=>exact .nil
 | @cons p q ps qs h t ih =>
  rw [List.map_cons,List.map_cons]
  refine .cons ?_ ih
  obtain⟨h1,h2⟩:=h
  by_cases e:p.1=k
  ·rw [if_pos e,if_pos (h1.symm.trans e)]; exact⟨h1,ry⟩
  ·rw [if_neg e,if_neg (fun z=>e (h1.trans z))]; exact⟨h1,h2⟩
theorem KV.drop{kvs:List (κ×V)}{vs:List (κ×Value)}(r:KV kvs vs)(k:κ):KV (j7l kvs k) (without vs k):=by
 unfold KV at r ⊢
 unfold j7l without
 induction r with
 | nil=>exact .nil
 | @cons p q ps qs h t ih =>
  obtain⟨h1,h2⟩:=h
  rw [List.filter_cons,List.filter_cons]
  by_cases e:p.1=k
  ·have a:¬ decide (p.1≠k)=true:=by simp [e]
   have b:¬ decide (q.1≠k)=true:=by simp [h1.symm.trans e]
   rw [if_neg a,if_neg b]; exact ih
  ·have e':¬ q.1=k:=fun z=>e (h1.trans z)
   have a:decide (p.1≠k)=true:=by simp [e]
   have b:decide (q.1≠k)=true:=by simp [e']
   rw [if_pos a,if_pos b]; exact .cons ⟨h1,h2⟩ ih
theorem KV.length{kvs:List (κ×V)}{vs:List (κ×Value)}(r:KV kvs vs):kvs.length=vs.length:=Paired.length r
end
section
variable {P:Program}{w:World}{H:Hp}{h:Heap}{a:Addr}
end
def k1l(H:Hp)(a:Addr)(y:V)(r:Option V):Prop :=
 (∃ kvs k,Rd H a (.dK kvs)/\y=kV k/\r=i7l kvs k)\/∃ kvs k b,Rd H a (.dT kvs)/\y = .ref b/\H b=some (.tup (k.map kV))/\r=i7l kvs k
def k1m(H:Hp)(a:Addr)(y v:V)(H':Hp):Prop :=
 (∃ kvs k,H a=some (.dK kvs)/\y=kV k/\kvs.length < sizeLine/\H'=upd H a (.dK (putK kvs k v))) \/
 ∃ kvs k b,H a=some (.dT kvs)/\y = .ref b/\H b=some (.tup (k.map kV))/\kvs.length < sizeLine/\H'=upd H a (.dT (putK kvs k v))
theorem k1l.k{H:Hp}{a:Addr}{kvs:List (Key×V)}{k:Key}(e:H a=some (.dK kvs)):k1l H a (kV k) (i7l kvs k):=.inl ⟨kvs,k,.inl e,rfl,rfl⟩
theorem k1l.t{H:Hp}{a b:Addr}{kvs:List (List Key×V)}{k:List Key}(e:H a=some (.dT kvs))(eb:H b=some (.tup (k.map kV))):k1l H a (.ref b) (i7l kvs k):=.inr ⟨kvs,k,b,.inl e,rfl,eb,rfl⟩
theorem k1m.k{H:Hp}{a:Addr}{kvs:List (Key×V)}{k:Key}{v:V}(e:H a=some (.dK kvs))(hl:kvs.length < sizeLine):k1m H a (kV k) v (upd H a (.dK (putK kvs k v))):=.inl ⟨kvs,k,e,rfl,hl,rfl⟩
theorem k1m.t{H:Hp}{a b:Addr}{kvs:List (List Key×V)}{k:List Key}{v:V}(e:H a=some (.dT kvs))(eb:H b=some (.tup (k.map kV)))(hl:kvs.length < sizeLine) :
  k1m H a (.ref b) v (upd H a (.dT (putK kvs k v))):=.inr ⟨kvs,k,b,e,rfl,eb,hl,rfl⟩
section
variable {X:Cx}{pins:List (Addr×Obj)}{σ:St}{H:Hp}{s:Shared}{a:Addr}{y v:V}{u r:Value}{o:Option V}{A:Around}{E:Value->Shared->Prop}
theorem Inv.big(I:Inv X pins σ H s):sysModules < s.heap.objs.size:=by
 have h:mainGlobals < s.heap.objs.size:=(I.mod.glob.keeps I.bk).lt
 exact Nat.lt_trans (by decide) h
end
section
variable {X:Cx}{pins:List (Addr×Obj)}{σ:St}{H:Hp}{s:Shared}{a:Addr}{kvs:List (Key×V)}{k:Key}{u:Value}{A:Around}{E:Value->Shared->Prop}
end
section
variable {X:Cx}{o i e value:Expr}{pos pos' tpos:Pos}{td ty tv:TE}
end
theorem i8h {P : Program} {w : World} {H : Hp} (h : Heap) (hb : sysModules < h.objs.size) : c4u P w H (h.push { cls := .type "dict", data := .dict #[] }) h.objs.size (.dK []) :=
 ⟨Nat.zero_le _,beq_eq_false_iff_ne.mpr (Ne.symm (Nat.ne_of_lt hb)),[],.nil,Heap.DictOf.new h⟩
def j7m:TE:=fun _ H Q=>∀ p,H p=none->Q (.ref p) (upd H p (.dK []))
section
variable {X:Cx}{pos:Pos}
theorem i8i:PE X (.Dict [] [] pos) j7m:=fun pins s σ H Q I h =>
 wpAny_Dict_empty ⟨.ref s.heap.objs.size,_,I.laid (a:=s.heap.objs.size) (o:=.dK []) (t':=s.toks) (fun _ _ q=>Heap.get?_push_of_some _ q) (Nat.le_refl _) (i8h s.heap I.big),rfl,h _ (I.hok.fresh (Nat.le_refl _))⟩
end
structure M1(X:Cx)(o:Expr)(m:Str)(apos:Pos)(e:Expr)(cpos:Pos):Prop where
 base:attributeBase o m X.env (eval o X.env)=eval o X.env
 few:((backTo cpos (starEach [e] X.env)).all (fun x=>!x.1) && (backToKw cpos (keywordEach [] X.env)).all (fun x=>x.1.isSome)
  && decide (([e] : List Expr).length+([] : List Keyword).length+(if ([] : List Keyword).isEmpty then 0 else 1) < 30))=true
 line:(apos.endLine == cpos.line)=true
 trees:backTo cpos (starEach [e] X.env) = [(false,eval e X.env)]
structure M2(X:Cx)(o:Expr)(m:Str)(apos:Pos)(e f:Expr)(cpos:Pos):Prop where
 base:attributeBase o m X.env (eval o X.env)=eval o X.env
 few:((backTo cpos (starEach [e,f] X.env)).all (fun x=>!x.1) && (backToKw cpos (keywordEach [] X.env)).all (fun x=>x.1.isSome)
  && decide (([e,f] : List Expr).length+([] : List Keyword).length+(if ([] : List Keyword).isEmpty then 0 else 1) < 30))=true
 line:(apos.endLine == cpos.line)=true
 trees:backTo cpos (starEach [e,f] X.env) = [(false,eval e X.env),(false,eval f X.env)]
section
variable {X:Cx}{pins:List (Addr×Obj)}{σ:St}{H:Hp}{s:Shared}{a:Addr}{y d:V}{u r:Value}{o:Option V}{A:Around}{E:Value->Shared->Prop}
end
section
variable {X:Cx}{o e f:Expr}{apos cpos:Pos}{td ty tx:TE}
end
section
variable {X:Cx}{pins:List (Addr×Obj)}{σ:St}{H:Hp}{s:Shared}{a:Addr}{kvs:List (Key×V)}{A:Around}{E:Value->Shared->Prop}
end
section
variable {X:Cx}{pins:List (Addr×Obj)}{σ:St}{H:Hp}{s:Shared}{a:Addr}{y:V}{u:Value}{A:Around}{E:Value->Shared->Prop}
end
section
variable {X:Cx}
end
section
variable {κ:Type}[DecidableEq κ]
end
end L2
namespace L2
open PySem PySem.Spec PyProof.Rows
open PySem.Builtin.Int (intBits)
section
variable {X:Cx}{a b c:Expr}{ta tb tc:TE}{pos:Pos}
theorem j3d:OpR X (binaryOp .Mult) (rI IntMulOk fun i j=>.int (i*j)):=opI fun _ _ _ _ _ _ _ hc q=>mul_int q hc
def CFd(i j:Int):Prop:=j≠0/\intBits j<=9000
theorem h5l{j:Int}(h:j≠0)(hb:intBits j<=9000):j.natAbs.log2 < 9000:=by
 have h1:=intBits_le_iff.mp hb
 exact (Nat.log2_lt (by omega)).mpr h1
theorem i8j:OpR X (binaryOp .FloorDiv) (rI CFd fun i j=>.int (i.fdiv j)):=opI fun i j _ _ _ _ _ hc q =>
 floordiv_int hc.1 q (.inl (PyProof.noPylong_of_log2 (h5l hc.1 hc.2)))
inductive Ty where
 | non | bl | int | str | lst | tup | dct
 deriving DecidableEq
noncomputable def Ty.nm:Ty->String
 | .non => "NoneType" | .bl => "bool" | .int => "int" | .str => "str" | .lst => "list" | .tup => "tuple" | .dct => "dict"
noncomputable def h5h(H:Hp):V->Option Ty
 | .non=>some .non
 | .bl _=>some .bl
 | .int _=>some .int
 | .str _=>some .str
 | .ref a=>match H a with
  | some (.lst _)=>some .lst
  | some (.frz _ (.lst _))=>some .lst
  | some (.tup _)=>some .tup
  | some (.dK _)=>some .dct
  | some (.dT _)=>some .dct
  | _=>none
 | _=>none
noncomputable def j0p(t T:Ty):Bool:=decide (t=T) || (decide (t = .bl) && decide (T = .int))
theorem j3e{K:PySem.W.Frag}{H:Hp}{x:V}{t:Ty}(h:h5h H x=some t):i0n K H x (.type t.nm):=by
 cases x with
 | non=>cases h; exact .non
 | bl b=>cases h; exact .bl b
 | int i=>cases h; exact .int i
 | str s=>cases h; exact .str s
 | byt b=>cases h
 | flt b=>cases h
 | ty n=>cases h
 | ref a =>
  unfold h5h at h
  cases e:H a with
  | none=>simp [e] at h
  | some o =>
   cases o with
   | lst xs=>simp [e] at h; subst h; exact .lst e
   | tup xs=>simp [e] at h; subst h; exact .tup e
   | dK kvs=>simp [e] at h; subst h; exact .dK e
   | dT kvs=>simp [e] at h; subst h; exact .dT e
   | frz ob u =>
    cases u with
    | lst xs=>simp [e] at h; subst h; exact .frz e
    | _=>simp [e] at h
   | _=>simp [e] at h
theorem j7n{K:PySem.W.Frag}(t T:Ty):PySem.W.kitOne K (.type t.nm) (.type T.nm)=some (j0p t T):=by
 cases t <;> cases T <;> rfl
noncomputable def rIsT(T:Ty):List V->Hp->VK->Prop:=fun xs H Q=>match xs with
 | [x,.ty n]=>n=T.nm/\∃ t,h5h H x=some t/\Q (.bl (j0p t T)) H
 | _=>False
theorem b3k (T : Ty) : c6j X (.builtin "isinstance") (rIsT T) := by
 intro pins s σ H xs us Q I r h
 match xs,r,h with
 | [x,.ty n],r,h =>
  obtain⟨rfl,t,ht,q⟩:=h
  obtain⟨u,v,rfl,r1,r2⟩:=vals2 r
  cases (show v=Value.type T.nm from r2)
  exact g1r I r1 (j3e ht) (j7n t T) fun tk=>⟨.bl _,H,I.tok tk,rfl,q⟩
mutual
inductive h1p(K:PySem.W.Frag)(H:Hp):V->PyData->Prop
 | non:h1p K H .non .none
 | bl (b:Bool):h1p K H (.bl b) (.bool b)
 | int (i:Int):h1p K H (.int i) (.int i)
 | str (x:Str):h1p K H (.str x) (.str x)
 | lst {a:Addr} {xs:List V} {ds:List PyData}:SqL K H a xs->d7u K H xs ds->h1p K H (.ref a) (.list ds)
 | tup {a:Addr} {xs:List V} {ds:List PyData}:SqT K H a xs->d7u K H xs ds->h1p K H (.ref a) (.tuple ds)
inductive d7u(K:PySem.W.Frag)(H:Hp):List V->List PyData->Prop
 | nil:d7u K H [] []
 | cons {x:V} {xs:List V} {d:PyData} {ds:List PyData}:h1p K H x d->d7u K H xs ds->d7u K H (x :: xs) (d :: ds)
end
section
variable {pins:List (Addr×Obj)}{σ:St}{H:Hp}{s:Shared}
mutual
theorem Inv.reads(I:Inv X pins σ H s):∀ {v:V} {d:PyData} {u:Value},h1p X.K H v d->RelV v u->∃ as,Reads s.heap u d as
 | _,_,_,.non,r=>by cases (show _=Value.none from r); exact⟨_,.none⟩
 | _,_,_,.bl b,r=>by cases (show _=Value.bool b from r); exact⟨_,.bool b⟩
 | _,_,_,.int i,r=>by obtain⟨t,rfl⟩:=r; exact⟨_,.int i t⟩
 | _,_,_,.str x,r=>by obtain⟨t,rfl⟩:=r; exact⟨_,.str x t⟩
 | _,_,_,.lst (a:=a) hs ha,r=>by
  cases (show _=Value.ref a from r)
  obtain⟨its,rv,⟨o,n,e,c,_,dd⟩,_⟩:=I.list hs
  obtain⟨as,q⟩:=Inv.readsAll I ha rv
  exact⟨_,.list e c dd (by simpa using q)⟩
 | _,_,_,.tup (a:=a) hs ha,r=>by
  cases (show _=Value.ref a from r)
  obtain⟨its,rv,⟨o,e,c,n,dd⟩,_⟩:=I.tuple hs
  obtain⟨as,q⟩:=Inv.readsAll I ha rv
  exact⟨_,.tuple e c dd (by simpa using q)⟩
theorem Inv.readsAll(I:Inv X pins σ H s):∀ {vs:List V} {ds:List PyData} {us:List Value},d7u X.K H vs ds->Vals vs us->∃ as,ReadsAll s.heap us ds as
 | _,_,_,.nil,.nil=>⟨_,.nil⟩
 | _,_,_,.cons h t,.cons r q=>by
  obtain⟨as,x⟩:=Inv.reads I h r
  obtain⟨bs,y⟩:=Inv.readsAll I t q
  exact⟨_,.cons x y⟩
end
end
def k1n(K:PySem.W.Frag):R2:=fun x y H Q=>∃ d e,h1p K H x d/\h1p K H y e/\SeqAt.shaped d=true/\SeqAt.shaped e=true/\Q (.bl (PyData.eqv d e)) H
def k1o(K:PySem.W.Frag):R2:=fun x y H Q=>∃ d e,h1p K H x d/\h1p K H y e/\SeqAt.shaped d=true/\SeqAt.shaped e=true/\Q (.bl (!PyData.eqv d e)) H
theorem j7o(hu:X.A.units+64 < cLine):OpR X (compareOp .Eq) (k1n X.K):=by
 intro pins s σ H x y v u Q I rx ry h
 obtain⟨d,e,hd,he,sd,se,q⟩:=h
 obtain⟨as,ra⟩:=I.reads hd rx
 obtain⟨bs,rb⟩:=I.reads he ry
 exact eq_dataH ra rb sd se hu ⟨.bl _,H,I,rfl,q⟩
theorem j7p(hu:X.A.units+64 < cLine):OpR X (compareOp .NotEq) (k1o X.K):=by
 intro pins s σ H x y v u Q I rx ry h
 obtain⟨d,e,hd,he,sd,se,q⟩:=h
 obtain⟨as,ra⟩:=I.reads hd rx
 obtain⟨bs,rb⟩:=I.reads he ry
 exact ne_dataH ra rb sd se hu ⟨.bl _,H,I,rfl,q⟩
end
noncomputable def Itr3(lo c:Int)(n:Nat):It:=⟨fun i _=>i < n,fun i H x H'=>H'=H/\x = .int (lo+i*c),fun i _=>n<=i⟩
noncomputable def rngN(lo hi c:Int):Nat:=(Builtin.Range.rangeSize lo hi c).toNat
section
variable {X:Cx}{tg:Expr}
end
def j5t(J:It)(g:TG)(tb:TS)(D:Ends)(σ:St)(H:Hp):Prop:=∃ W:Nat->Nat->St->Hp->Prop,(∃ m,W 0 m σ H)/\∀ i m σ H,W i m σ H ->
 (J.stop i H/\D.nx σ H)\/(J.go i H/\∃ N:St->Hp->Prop,(∀ σ' H',N σ' H'->∃ m',m' < m/\W (i+1) m' σ' H')/\∀ x H',J.yld i H x H'->g x σ H' fun σ2 H2=>tb { D with nx:=N,ct:=N,bk:=D.nx } σ2 H2)
def k2m(wi:TI)(g:TG)(tb:TS):TS:=fun D σ H=>wi σ H fun J H1=>j5t J g tb D σ H1
theorem b6j{X:Cx}{tg iter:Expr}{body:List Stmt}{wi:TI}{g:TG}{tb:TS}{pos:Pos}(hp:PassesOwn (model X.prog X.w) X.A X.env X.xe)(hc:X.calm=true)(hi:PI X tg iter wi)(hg:PG X tg g)(hb:PSs X body tb)
  (hs:∀ x,foldedSetIterable iter X.env x=pure x:=by intro _; rfl):PS X (.For tg iter body [] pos) (k2m wi g tb):=j6t hp hc hi hg hb hs
theorem c4v{K:PySem.W.Frag}{a:Addr}{xs:List V}{g:TG}{tb:TS}{D:Ends}{σ:St}{H:Hp}(Pv:Nat->St->Hp->Prop)(h0:Pv 0 σ H)(hl:∀ i σ H,i<=xs.length->Pv i σ H->SqL K H a xs)
  (hs:∀ i x σ H,xs[i]? = some x->Pv i σ H->g x σ H fun σ2 H2=>tb { D with nx:=Pv (i+1),ct:=Pv (i+1),bk:=D.nx } σ2 H2) (hd:∀ σ H,Pv xs.length σ H->D.nx σ H):j5t (Itl K a) g tb D σ H:=i7v Pv h0 hl hs hd
theorem i8k{K:PySem.W.Frag}{a:Addr}{xs:List V}{g:TG}{tb:TS}{D:Ends}{σ:St}{H:Hp}(Pv:Nat->St->Hp->Prop)(h0:Pv 0 σ H)(hl:∀ i σ H,i<=xs.length->Pv i σ H->SqT K H a xs)
  (hs:∀ i x σ H,xs[i]? = some x->Pv i σ H->g x σ H fun σ2 H2=>tb { D with nx:=Pv (i+1),ct:=Pv (i+1),bk:=D.nx } σ2 H2) (hd:∀ σ H,Pv xs.length σ H->D.nx σ H):j5t (Itt K a) g tb D σ H:=j2r Pv h0 hl hs hd
theorem f6u{lo:Int}{n:Nat}{g:TG}{tb:TS}{D:Ends}{σ:St}{H:Hp}(Pv:Nat->St->Hp->Prop)(h0:Pv 0 σ H)
  (hs:∀ i σ H,i < n->Pv i σ H->g (.int (lo+i)) σ H fun σ2 H2=>tb { D with nx:=Pv (i+1),ct:=Pv (i+1),bk:=D.nx } σ2 H2) (hd:∀ σ H,Pv n σ H->D.nx σ H):j5t (Itr lo n) g tb D σ H:=i3j Pv h0 hs hd
def j0q(c:TT)(tb:TS)(D:Ends)(σ:St)(H:Hp):Prop:=∃ W:Nat->St->Hp->Prop,(∃ m,W m σ H)/\∀ m σ H,W m σ H ->
 c σ H fun b H1=>if b=true then tb { D with nx:=fun σ' H'=>∃ m',m' < m/\W m' σ' H',ct:=fun σ' H'=>∃ m',m' < m/\W m' σ' H',bk:=D.nx } σ H1 else D.nx σ H1
def j3f(c:TT)(tb:TS):TS:=fun D σ H=>j0q c tb D σ H
theorem h2l{X:Cx}{c:Expr}{body:List Stmt}{tc:TT}{tb:TS}{pos:Pos}(hp:PassesOwn (model X.prog X.w) X.A X.env X.xe)(hc:PT X c tc)(hb:PSs X body tb):PS X (.While c body [] pos) (j3f tc tb):=by
 intro pins s σ H D I h
 obtain⟨W,⟨m0,w0⟩,turn⟩:=h
 refine wpAny_While (codeAny_whileLoop (fun n s'=>∃ σ' H',Inv X pins σ' H' s'/\W n σ' H') ?_ m0 ⟨σ,H,I,w0⟩)
 rintro n s1 ⟨σ1,H1,I1,w1⟩
 refine wpAny_passesOwn hp (thn (hc pins s1 σ1 H1 _ I1 (turn n σ1 H1 w1)) fun b s2 ⟨H2,I2,q2⟩=>?_)
 cases b with
 | true =>
  rw [if_pos rfl]
  refine wpAny_passesOwn hp (thn (hb pins s2 σ1 H2 _ I2 q2) fun f s3 q3=>?_)
  cases f with
  | next =>
   obtain⟨σ3,H3,I3,m',hm,w3⟩:=q3
   exact⟨m',hm,σ3,H3,I3,w3⟩
  | cont =>
   obtain⟨σ3,H3,I3,m',hm,w3⟩:=q3
   exact⟨m',hm,σ3,H3,I3,w3⟩
  | brk=>exact q3
  | ret v=>exact q3
 | false =>
  rw [if_neg Bool.false_ne_true]
  exact wpAny_execs_nil ⟨σ1,H2,I2,q2⟩
theorem h2m{c:TT}{tb:TS}{D:Ends}{σ:St}{H:Hp}(Pv:Nat->St->Hp->Prop)(m0:Nat)(h0:Pv m0 σ H)
  (hs:∀ m σ H,Pv m σ H->c σ H fun b H1=>if b=true then tb { D with nx:=fun σ' H'=>∃ m',m' < m/\Pv m' σ' H',ct:=fun σ' H'=>∃ m',m' < m/\Pv m' σ' H',bk:=D.nx } σ H1 else D.nx σ H1):j0q c tb D σ H :=
 ⟨Pv,⟨m0,h0⟩,hs⟩
end L2
namespace Att
open PySem PySem.W PySem.Calls PyProof.Rows
open PySem.Builtin.Int (intBits)
theorem h5m{ns:List Int}(h:WData.layableAll [WData.list (ns.map WData.int)]=true):∀ n∈ns,intBits n<=1048576:=by
 intro n hn
 have h1:=layableW_arg h _ (List.mem_singleton.mpr rfl)
 have h2:=layableW_item h1 (WData.int n) (List.mem_map.mpr ⟨n,hn,rfl⟩)
 have h3:=(layableW_iff.mp h2).2.2
 exact h3
theorem h2n{l:OpenLaw}{n:Nat}{q:Program}{loose:List Str}{XP:(Str->Option Value)->Heap->Prop}{YP:World->Heap->Prop}{d:DefRec}
  (hn:l.most=some n) (hdf:d.params.defaults = [])
  (call:∀ (w:World) (s₀ s₁:Shared) (mg mb:Str->Option Value) (fa:Addr) (o:Obj) (pm cd doc:Value) (a:Addr) (vs:List Value) (ns:List Int),
   Ground q loose [] XP w s₀ mg mb s₁.heap->YP w s₁.heap ->
   s₁.heap.get? fa=some o->o.data = .func (docDef d.name d.params d.body d.scope pm cd doc)->s₁.heap.CodeRec cd d.name->mg d.name=some (.ref fa) ->
   s₁.heap.get? a = some { cls := .type "list", data := .seq vs.toArray } → IntsAre vs ns → ns.length ≤ n → (∀ x ∈ ns, intBits x ≤ 1048576) → s₁.gens = #[] →
   codeAny (model l.prog w) callerA (.call (.ref fa) ⟨[.ref a],[]⟩) (fun r s'=>r = .ok (.ret (.bool true))/\OldK s₁.heap s'.heap/\s'.os=s₁.os/\AllBare s'.gens) s₁) :
  WalkO q loose XP YP l.row.toRowW d [] (fun f vs=>PySem.call f vs):=by
 intro w s₀ s₁ mg mb G Y fa o pm cd doc dV kV ho hd hcd hD hmg hg args vals as hpre hlay hrd hwl hlo
 obtain rfl:dV = .none:=Dflts.none hD hdf
 obtain rfl:kV = .none:=Dflts.noKw hD
 obtain⟨a,vs,ns,rfl,rfl,hobj,hints,hlen⟩:=i3v hn hpre hwl
 refine enter_call (codeAny_mono (call w s₀ s₁ mg mb fa o pm cd doc a vs ns G Y ho (fd_plain hd) hcd hmg hobj hints hlen (h5m hlay) hg) fun r s' hq=>?_)
 obtain⟨rfl,h2,h3,h4⟩:=hq
 exact⟨.inl ⟨.bool true,.bool true,[],rfl,fun _=>rfl,.bool true,i3w l _,fun _=>⟨List.Pairwise.nil,fun _ hm=>(nomatch hm)⟩⟩,h2,h3,h4⟩
end Att
namespace L2
open PySem PySem.Spec PyProof.Rows
open PySem.Builtin.Int (intBits)
def h5n(n:Nat)(K:PySem.W.Frag):Sp:=fun vs H Q _=>∃ (a:Addr) (ns:List Int),vs = [.ref a]/\SqL K H a (ns.map V.int)/\ns.length<=n/\(∀ x∈ns,intBits x<=1048576)/\Only H/\∀ H',Q (.bl true) H'
theorem i8l{l:PySem.W.OpenLaw}{k:Nat}{q:Program}{loose:List Str}{XP:(Str->Option Value)->Heap->Prop}{YP:World->Heap->Prop}{d:DefRec}{K:Params->PySem.W.Frag}{CX:World->CXT}{x:Str}
  (hn:l.most=some 63) (hdf:d.params.defaults = []) (hr:a2p k callerA)
  (hY:∀ (w:World) (h:Heap),YP w h->(K w.params).In h)
  (F:∀ (w:World) (mg:Str->Option Value) (fa:Addr) (h:Heap),(K w.params).In h->h.Ns mainGlobals mg->mg d.name=some (.ref fa) ->
   ∃ fd:FuncData,(∀ (s:Shared) (u:Value),BindsTo s fd ⟨[u],[]⟩ [(x,u)]) /\
    ∀ base:Heap,(K w.params).In base->base.Ns mainGlobals mg->a1h l.prog w (K w.params) mg base (CX w) k fa fd [x] (h5n 63 (K w.params)))
  (hCX:∀ (w:World) (H:Hp) (s:Shared) (e:Value) (s':Shared),CX w [] H s (fun _ _ _=>False) e s'->False) :
  PySem.W.WalkO q loose XP YP l.row.toRowW d [] (fun f vs=>PySem.call f vs):=by
 refine Att.h2n hn hdf fun w s₀ s₁ mg mb fa o pm cd doc a vs ns G Y ho hd hcd hmg hobj hints hlen hbits hg=>?_
 have KX:=hY w _ Y
 obtain⟨fd,hb,hF⟩:=F w mg fa _ KX G.T.g hmg
 exact i8d KX G.T.g G.T.b G.T.builtins G.T.nolimit hg hobj hints (Nat.le_trans hlen (by decide)) hr hF hb (fun H hO hS=>⟨a,ns,rfl,hS,hlen,hbits,hO,fun _=>rfl⟩) fun H e s'=>hCX w H s₁ e s'
end L2
namespace L2
open PySem PySem.Spec PyProof.Rows
theorem Same.upd{H:Hp}{p:Addr}{o:HO}(h:H p=none):Same H (upd H p o):=fun b u e=>by
 rw [a6l (a7u e h)]; exact e
structure Tag{α:Type}(a:α):Type where
def New(H:Hp)(o:HO)(Q:VK)(_:Tag Q):Prop:=∀ p H1,H p=none->Same H H1->H1 p=some o->Q (.ref p) H1
def All(C:V->Hp->Prop)(Q:VK)(_:Tag C)(_:Tag Q):Prop:=∀ v H1,C v H1->Q v H1
theorem New.raw{H:Hp}{o:HO}{Q:VK}{t:Tag Q}(h:New H o Q t):∀ p,H p=none->Q (.ref p) (L2.upd H p o):=fun p e=>h p _ e (Same.upd e) a6s
theorem k4z{CX:CXT}{P:Program}{w:World}{K:PySem.W.Frag}{mg:Str->Option Value}{base:Heap}{N:List Str}{qual:Str}{scope:Scope}{f:Addr}{cd:Value}{A:Around}{outer:List Env}{s:Shared}{H:Hp}{E:XK}:(i2v CX P w K mg base N qual scope f cd A outer s H E).K=K:=rfl
section
variable {X:Cx}{es:List Expr}{t:TA}{pos:Pos}
def k2n(t:TA):TE:=fun σ H Q=>t σ H fun xs H1=>xs.length<=sizeLine/\New H1 (.tup xs) Q ⟨⟩
def k2o(t:TA):TE:=fun σ H Q=>t σ H fun xs H1=>xs.length<=sizeLine/\New H1 (.lst xs) Q ⟨⟩
end
section
variable {X:Cx}{a b c:Expr}{ta tb tc:TE}{pos:Pos}
def k2p:R2:=fun x y H Q=>match x,y with
 | .int i,.int j=>Q (.int (i+j)) H
 | .str u,.str v=>u.length+v.length<=sizeLine/\Q (.str (u++v)) H
 | .ref l,.ref b=>∃ xs zs,H l=some (.lst xs)/\H b=some (.lst zs)/\xs.length+zs.length<=sizeLine/\New H (.lst (xs++zs)) Q ⟨⟩
 | _,_=>False
theorem a2z:OpR X (binaryOp .Add) k2p:=by
 intro pins s σ H x y v u Q I rx ry h
 cases x <;> cases y <;> first
  | exact False.elim h
  | exact j6v pins s σ H _ _ v u Q I rx ry ⟨_,_,rfl,rfl,h⟩
  | exact i0k pins s σ H _ _ v u Q I rx ry ⟨_,_,rfl,rfl,h.1,h.2⟩
  | (obtain ⟨xs, zs, h1, h2, h3, h4⟩ := h
     exact j7j pins s σ H _ _ v u Q I rx ry ⟨_,_,_,_,rfl,rfl,h1,h2,h3,h4.raw⟩)
def k2q:R2:=fun x y H Q=>match x,y with
 | .int i,.int j=>IntMulOk i j/\Q (.int (i*j)) H
 | .ref l,.int k=>∃ xs,H l=some (.lst xs) /\ -(2 ^ 63)<=k/\k < 2 ^ 63/\xs.length*k.toNat<=sizeLine/\New H (.lst (List.replicate k.toNat xs).flatten) Q ⟨⟩
 | _,_=>False
theorem a5l:OpR X (binaryOp .Mult) k2q:=by
 intro pins s σ H x y v u Q I rx ry h
 cases x <;> cases y <;> first
  | exact False.elim h
  | exact j3d pins s σ H _ _ v u Q I rx ry ⟨_,_,rfl,rfl,h.1,h.2⟩
  | (obtain ⟨xs, h1, h2, h3, h4, h5⟩ := h
     exact j7k pins s σ H _ _ v u Q I rx ry ⟨_,_,_,rfl,rfl,h1,h2,h3,h4,h5.raw⟩)
def k5a(K:PySem.W.Frag):R2:=fun x y H Q=>if i0j x y=true then Q (.bl (decide (x=y))) H else k1n K x y H Q
def k5b(K:PySem.W.Frag):R2:=fun x y H Q=>if i0j x y=true then Q (.bl (!decide (x=y))) H else k1o K x y H Q
theorem b0l(hu:X.A.units+64 < cLine):OpR X (compareOp .Eq) (k5a X.K):=by
 intro pins s σ H x y v u Q I rx ry h
 unfold k5a at h
 by_cases hs:i0j x y=true
 ·rw [if_pos hs] at h
  exact k2e pins s σ H x y v u Q I rx ry ⟨hs,h⟩
 ·rw [if_neg hs] at h
  exact j7o hu pins s σ H x y v u Q I rx ry h
theorem b7i(hu:X.A.units+64 < cLine):OpR X (compareOp .NotEq) (k5b X.K):=by
 intro pins s σ H x y v u Q I rx ry h
 unfold k5b at h
 by_cases hs:i0j x y=true
 ·rw [if_pos hs] at h
  exact k2f pins s σ H x y v u Q I rx ry ⟨hs,h⟩
 ·rw [if_neg hs] at h
  exact j7p hu pins s σ H x y v u Q I rx ry h
def rIxM:R2:=fun x y H Q=>match x,y with
 | .ref p,.int i=>(match H p with
  | some (.tup xs)=>∃ v,atI xs i=some v/\Q v H
  | some (.lst xs)=>∃ v,atI xs i=some v/\Q v H
  | _=>False)
 | .str z,.int i=>∃ c,z.length<=sizeLine/\atI z.cps.toList i=some c/\Q (.str ⟨#[c]⟩) H
 | _,_=>False
theorem a3s:IxR X rIxM:=by
 intro value slice pins s σ H x y v u Q I rx ry h hs
 cases x with
 | ref p =>
  cases y with
  | int i =>
   have h':(match H p with
    | some (.tup xs)=>∃ v,atI xs i=some v/\Q v H
    | some (.lst xs)=>∃ v,atI xs i=some v/\Q v H
    | _=>False):=h
   split at h'
   ·rename_i xs e
    obtain⟨z,h2,h3⟩:=h'
    exact j7f value slice pins s σ H _ _ v u Q I rx ry ⟨_,xs,_,z,rfl,rfl,SqT.of e,h2,h3⟩ hs
   ·rename_i xs e
    obtain⟨z,h2,h3⟩:=h'
    exact j3c value slice pins s σ H _ _ v u Q I rx ry ⟨_,xs,_,z,rfl,rfl,SqL.of e,h2,h3⟩ hs
   ·exact h'.elim
  | _=>exact False.elim h
 | str z =>
  cases y with
  | int i =>
   obtain⟨c,h1,h2,h3⟩:=h
   exact j7g value slice pins s σ H _ _ v u Q I rx ry ⟨_,_,c,rfl,rfl,h1,h2,h3⟩ hs
  | _=>exact False.elim h
 | _=>exact False.elim h
noncomputable def rSlM:V->Option Int->Option Int->Hp->VK->Prop:=fun x lo hi H Q=>match x with
 | .ref a=>(match H a with
  | some (.lst xs)=>New H (.lst (d7r xs lo hi)) Q ⟨⟩
  | _=>False)
 | _=>False
theorem sl_M:SlR X rSlM:=by
 intro pins s σ H x v vl vu lo hi sl Q I rx hs pl pu h
 cases x with
 | ref a =>
  have h':(match H a with
   | some (.lst xs)=>New H (.lst (d7r xs lo hi)) Q ⟨⟩
   | _=>False):=h
  split at h'
  ·rename_i xs e
   exact h5k pins s σ H _ v vl vu lo hi sl Q I rx hs pl pu ⟨_,xs,rfl,SqL.of e,h'.raw⟩
  ·exact h'.elim
 | _=>exact False.elim h
noncomputable def rSlK(K:PySem.W.Frag):V->Option Int->Option Int->Hp->VK->Prop:=fun x lo hi H Q=>∃ a xs,x = .ref a/\SqL K H a xs/\New H (.lst (d7r xs lo hi)) Q ⟨⟩
theorem sl_K:SlR X (rSlK X.K):=by
 intro pins s σ H x v vl vu lo hi sl Q I rx hs pl pu h
 obtain⟨a,xs,e,h1,h2⟩:=h
 exact h5k pins s σ H _ v vl vu lo hi sl Q I rx hs pl pu ⟨a,xs,e,h1,h2.raw⟩
noncomputable def k2r:List V->Hp->VK->Prop:=fun xs H Q=>match xs with
 | [.ref p]=>(match H p with
  | some (.lst ys)=>Q (.int ys.length) H
  | some (.tup ys)=>Q (.int ys.length) H
  | _=>False)
 | [.str z]=>z.length<=sizeLine/\Q (.int z.length) H
 | _=>False
theorem a5w : c6j X (.builtin "len") k2r := by
 intro pins s σ H xs us Q I r h
 match xs,r,h with
 | [.ref p],r,h =>
  have h':(match H p with
   | some (.lst ys)=>Q (.int ys.length) H
   | some (.tup ys)=>Q (.int ys.length) H
   | _=>False):=h
  split at h'
  ·rename_i ys e
   exact f9o pins s σ H _ us Q I r ⟨p,ys,rfl,.inl (SqL.of e),h'⟩
  ·rename_i ys e
   exact f9o pins s σ H _ us Q I r ⟨p,ys,rfl,.inr (SqT.of e),h'⟩
  ·exact h'.elim
 | [.str z],r,h=>exact h2g pins s σ H _ us Q I r ⟨z,rfl,h.1,h.2⟩
theorem k2s{i j:Int}:i0j (.int i) (.int j)=true:=rfl
theorem k2t{i j:Str}:i0j (.str i) (.str j)=true:=rfl
theorem k2u{i j:Bool}:i0j (.bl i) (.bl j)=true:=rfl
theorem k2v:i0j .non .non=true:=rfl
theorem k2w{i j:Addr}:i0j (.ref i) (.ref j)=false:=rfl
theorem k5c{H:Hp}{i:Int}:h5h H (.int i)=some .int:=rfl
theorem k5d{H:Hp}{i:Str}:h5h H (.str i)=some .str:=rfl
theorem k5e{H:Hp}{i:Bool}:h5h H (.bl i)=some .bl:=rfl
theorem k5f{H:Hp}:h5h H .non=some .non:=rfl
theorem j7q{H:Hp}{a:Addr}:h5h H (.ref a)=(match H a with
  | some (.lst _)=>some .lst
  | some (.frz _ (.lst _))=>some .lst
  | some (.tup _)=>some .tup
  | some (.dK _)=>some .dct
  | some (.dT _)=>some .dct
  | _=>none):=rfl
theorem two_line:2<=sizeLine:=by decide
theorem j7r{α:Type}{x:α}{xs:List α}:atI (x :: xs) 0=some x:=f6t (j:=0) rfl
theorem j7s{α:Type}{x y:α}{xs:List α}:atI (x :: y :: xs) 1=some y:=f6t (j:=1) rfl
theorem j7t{α:Type}{x y z:α}{xs:List α}:atI (x :: y :: z :: xs) 2=some z:=f6t (j:=2) rfl
theorem j7u{α:Type}{x y z u:α}{xs:List α}:atI (x :: y :: z :: u :: xs) 3=some u:=f6t (j:=3) rfl
theorem j0r{p q A B:Prop}[Decidable p][Decidable q] : (if p then (if q then A else B) else B)=(if p/\q then A else B):=by
 by_cases hp:p <;> by_cases hq:q <;> simp [hp,hq]
theorem j3g{p q A B:Prop}[Decidable p][Decidable q] : (if p then A else (if q then A else B))=(if p\/q then A else B):=by
 by_cases hp:p <;> by_cases hq:q <;> simp [hp,hq]
end
section
variable {X:Cx}{es:List Expr}{t:TA}{pos:Pos}
theorem PA.weak{t:TA}(h:PA X es t){u:TA}(q:∀ σ H (Q:List V->Hp->Prop),u σ H Q->t σ H Q):PA X es u:=fun pos pins s σ H Q I hu=>h pos pins s σ H Q I (q σ H Q hu)
theorem a4u{x1}(h:PA X es t):PE X (.Tuple es x1 pos) (k2n t):=by
 intro pins s σ H Q I hq
 refine wpAny_Tuple_spliced (thn (h pos pins s σ H _ I hq) fun us s1 ⟨xs,H1,I1,r,z,q⟩=>⟨by rw [<- r.length]; exact z,?_⟩)
 have hf:H1 s1.heap.objs.size=none:=I1.hok.fresh (Nat.le_refl _)
 refine⟨.ref s1.heap.objs.size,upd H1 s1.heap.objs.size (.tup xs),I1.laid (t':=s1.toks) (fun b u e=>Heap.get?_push_of_some _ e) (Nat.le_refl _) ?_,rfl,q.raw _ hf⟩
 exact⟨z,us,r,⟨_,Heap.get?_push_size _ rfl,rfl,_,rfl⟩⟩
theorem d4u(h:PA X es t):PE X (.List es pos) (k2o t):=by
 intro pins s σ H Q I hq
 refine wpAny_List_spliced (thn (h pos pins s σ H _ I hq) fun us s1 ⟨xs,H1,I1,r,z,q⟩=>⟨by rw [<- r.length]; exact z,?_⟩)
 have hf:H1 s1.heap.objs.size=none:=I1.hok.fresh (Nat.le_refl _)
 refine⟨.ref s1.heap.objs.size,upd H1 s1.heap.objs.size (.lst xs),I1.laid (t':=s1.toks) (fun b u e=>Heap.get?_push_of_some _ e) (Nat.le_refl _) ?_,rfl,q.raw _ hf⟩
 exact⟨z,us,0,r,Heap.get?_push_size _ rfl⟩
theorem i0s : c6j X (.type "list") (fun xs H Q => ∃ p ys, xs = [.ref p] ∧ (SqL X.K H p ys ∨ SqT X.K H p ys) ∧ New H (.lst ys) Q ⟨⟩) := by
 intro pins s σ H xs us Q I r h
 obtain⟨p,ys,e,h1,h2⟩:=h
 exact h2i pins s σ H xs us Q I r ⟨p,ys,e,h1,h2.raw⟩
end
theorem Same.tup{K:PySem.W.Frag}{H H':Hp}{a:Addr}{xs:List V}(e:Same H H')(h:SqT K H a xs):SqT K H' a xs:=by
 rcases h with (h | ⟨o,h⟩) | h
 ·exact .inl (.inl (e _ _ h))
 ·exact .inl (.inr ⟨o,e _ _ h⟩)
 ·exact .inr h
end L2
namespace L2
open PySem PySem.Spec PyProof.Rows
open PySem.Builtin.Int (intBits)
section
variable {X:Cx}{e a b c:Expr}{es rest:List Expr}{pos:Pos}{tg iter:Expr}
theorem PE.weak{t u:TE}(h:PE X e t)(q:∀ σ H Q,u σ H Q->t σ H Q):PE X e u:=fun pins s σ H Q I hu=>h pins s σ H Q I (q σ H Q hu)
theorem PT.weak{t u:TT}(h:PT X e t)(q:∀ σ H Q,u σ H Q->t σ H Q):PT X e u:=fun pins s σ H Q I hu=>h pins s σ H Q I (q σ H Q hu)
theorem PI.weak{t u:TI}(h:PI X tg iter t)(q:∀ σ H Q,u σ H Q->t σ H Q):PI X tg iter u:=fun pins s σ H Q I hu=>h pins s σ H Q I (q σ H Q hu)
theorem OpR.weak{f:Value->Value->Sem Value}{r r':R2}(h:OpR X f r)(q:∀ x y H Q,r' x y H Q->r x y H Q):OpR X f r':=fun pins s σ H x y v u Q I rx ry hr=>h pins s σ H x y v u Q I rx ry (q x y H Q hr)
theorem UnR.weak{f:Value->Sem Value}{r r':V->Hp->VK->Prop}(h:UnR X f r)(q:∀ x H Q,r' x H Q->r x H Q):UnR X f r':=fun pins s σ H x v Q I rx hr=>h pins s σ H x v Q I rx (q x H Q hr)
theorem c6j.weak{f:Value}{r r':List V->Hp->VK->Prop}(h:c6j X f r)(q:∀ xs H Q,r' xs H Q->r xs H Q):c6j X f r':=fun pins s σ H xs us Q I rx hr=>h pins s σ H xs us Q I rx (q xs H Q hr)
theorem IxR.weak{r r':R2}(h:IxR X r)(q:∀ x y H Q,r' x y H Q->r x y H Q):IxR X r':=fun value slice pins s σ H x y v u Q I rx ry hr hs=>h value slice pins s σ H x y v u Q I rx ry (q x y H Q hr) hs
def d7v(i:Nat):TE:=fun σ H Q=>match σ[i]? with
 | some (some v)=>Q v H
 | _=>False
theorem pvF (i : Nat) {x : Str} {pos : Pos} (hN : X.N[i]? = some x := by rfl) (hv : Vis X.env.scope x := by first | exact Or.inl rfl | exact Or.inr (Or.inl rfl) | exact Or.inr (Or.inr rfl)) (hd : (x == ("__debug__" : Str)) = false := by decide)
  (hcd : (x == ("__classdict__" : Str)) = false := by decide) : PE X (.Name x pos) (d7v i) := (j6i hN hv hd hcd).weak fun σ H Q h => by
 unfold d7v at h
 split at h
 ·rename_i v e
  exact⟨v,e,h⟩
 ·exact h.elim
def rIF(C:Int->Int->Prop)(g:Int->Int->V):R2:=fun x y H Q=>match x,y with
 | .int i,.int j=>C i j/\Q (g i j) H
 | _,_=>False
def j5u(g:Int->Int->V):R2:=fun x y H Q=>match x,y with
 | .int i,.int j=>Q (g i j) H
 | _,_=>False
theorem i3y{C:Int->Int->Prop}{g:Int->Int->V}:∀ x y H Q,rIF C g x y H Q->rI C g x y H Q:=fun x y H Q h=>by
 cases x <;> cases y <;> first | exact False.elim h | exact⟨_,_,rfl,rfl,h⟩
theorem g1v{g:Int->Int->V}:∀ x y H Q,j5u g x y H Q->rI0 g x y H Q:=fun x y H Q h=>by
 cases x <;> cases y <;> first | exact False.elim h | exact⟨_,_,rfl,rfl,h⟩
theorem f3s:OpR X (binaryOp .Sub) (j5u fun i j=>.int (i - j)):=j6w.weak g1v
theorem a5v:OpR X (binaryOp .FloorDiv) (rIF CFd fun i j=>.int (i.fdiv j)):=i8j.weak i3y
theorem b0m:OpR X (binaryOp .Mod) (rIF (fun _ j=>j≠0) fun i j=>.int (i.fmod j)):=j2s.weak i3y
theorem f9p:OpR X (binaryOp .Pow) (rIF k4u fun i j=>.int (i ^ j.toNat)):=j6x.weak i3y
theorem of_lt:OpR X (compareOp .Lt) (j5u fun i j=>.bl (decide (i < j))):=k2g.weak g1v
theorem of_le:OpR X (compareOp .LtE) (j5u fun i j=>.bl (decide (i<=j))):=k2h.weak g1v
theorem d7w:OpR X (compareOp .Gt) (j5u fun i j=>.bl (decide (j < i))):=k2i.weak g1v
theorem j7v:OpR X (compareOp .GtE) (j5u fun i j=>.bl (decide (j<=i))):=k2j.weak g1v
noncomputable def rUF(g:Int->V):V->Hp->VK->Prop:=fun x H Q=>match x with
 | .int i=>Q (g i) H
 | _=>False
theorem j0s:UnR X (unaryOp .USub) (rUF fun i=>.int (-i)):=j6y.weak fun x H Q h=>by
 cases x <;> first | exact False.elim h | exact⟨_,rfl,h⟩
def tBF(t:TE):TT:=fun σ H Q=>t σ H fun x H1=>match x with
 | .bl k=>Q k H1
 | _=>False
theorem a1m{op:CmpOp}{r:R2}{ta tb:TE}(ho:OpR X (compareOp op) r)(ha:PE X a ta)(hb:PE X b tb)(hm:behindInMarks op b=false):PT X (.Compare a [op] [b] pos) (tBF (tOp r ta tb)):=by
 intro pins s σ H Q I h
 refine (j2t (ho.weak (r':=fun x y H Q=>r x y H Q) fun _ _ _ _ z=>z) ha hb hm) pins s σ H _ I ?_
 unfold j6z
 exact h |> fun h=>by
  unfold tBF at h
  have e:(fun (x:V) (H1:Hp)=>match x with | .bl k=>Q k H1 | _=>False)=fun x H1=>∃ k,x=V.bl k/\Q k H1:=by
   funext x H1
   cases x <;> simp
  rw [e] at h
  exact h
theorem a3t{t:TE}(h:PE X e t)(he:∀ whole,isTrue e X.env whole=(do let v <- whole; standAt e.pos; holding [v] (truthy v)):=by intro _; rfl):PT X e (tBF t):=by
 intro pins s σ H Q I hw
 refine (j6j h he) pins s σ H _ I ?_
 unfold tB
 unfold tBF at hw
 have e:(fun (x:V) (H1:Hp)=>match x with | .bl k=>Q k H1 | _=>False)=fun x H1=>∃ k,x=V.bl k/\Q k H1:=by
  funext x H1
  cases x <;> simp
 rw [e] at hw
 exact hw
def j7w(ta tb:TE):TE:=fun σ H Q=>ta σ H fun x H1=>match x with
 | .bl c=>if c=true then tb σ H1 Q else Q (.bl false) H1
 | _=>False
def k5g(ta tb:TE):TE:=fun σ H Q=>ta σ H fun x H1=>match x with
 | .bl c=>if c=true then Q (.bl true) H1 else tb σ H1 Q
 | _=>False
def j7x(ta:TE):TE:=fun σ H Q=>ta σ H fun x H1=>match x with
 | .bl c=>Q (.bl (!c)) H1
 | _=>False
theorem f2h{ta tb:TE}(ha:PE X a ta)(hb:PE X (.BoolOp .And (b :: rest) pos) tb):PE X (.BoolOp .And (a :: b :: rest) pos) (j7w ta tb):=by
 intro pins s σ H Q I h
 refine (j6m ha hb) pins s σ H Q I ?_
 unfold j6k
 unfold j7w at h
 have e:(fun (x:V) (H1:Hp)=>match x with | .bl c=>(if c=true then tb σ H1 Q else Q (.bl false) H1) | _=>False)=fun x H1=>∃ c,x=V.bl c/\if c=true then tb σ H1 Q else Q (.bl false) H1:=by
  funext x H1
  cases x <;> simp
 rw [e] at h
 exact h
theorem j7y{ta tb:TE}(ha:PE X a ta)(hb:PE X (.BoolOp .Or (b :: rest) pos) tb):PE X (.BoolOp .Or (a :: b :: rest) pos) (k5g ta tb):=by
 intro pins s σ H Q I h
 refine (k2b ha hb) pins s σ H Q I ?_
 unfold k4q
 unfold k5g at h
 have e:(fun (x:V) (H1:Hp)=>match x with | .bl c=>(if c=true then Q (.bl true) H1 else tb σ H1 Q) | _=>False)=fun x H1=>∃ c,x=V.bl c/\if c=true then Q (.bl true) H1 else tb σ H1 Q:=by
  funext x H1
  cases x <;> simp
 rw [e] at h
 exact h
theorem h5o{ta:TE}(ha:PE X a ta):PE X (.UnaryOp .Not a pos) (j7x ta):=by
 intro pins s σ H Q I h
 refine (j6n ha) pins s σ H Q I ?_
 unfold j6l
 unfold j7x at h
 have e:(fun (x:V) (H1:Hp)=>match x with | .bl c=>Q (.bl (!c)) H1 | _=>False)=fun x H1=>∃ c,x=V.bl c/\Q (.bl (!c)) H1:=by
  funext x H1
  cases x <;> simp
 rw [e] at h
 exact h
def j0t(ta:TA):TI:=fun σ H R=>ta σ H fun vs H1=>match vs with
 | [.int j] => -(2 ^ 62)<=j/\j < 2 ^ 62/\R (Itr 0 j.toNat) H1
 | _=>False
def k5h(ta:TA):TI:=fun σ H R=>ta σ H fun vs H1=>match vs with
 | [.int i,.int j]=>(-(2 ^ 62)<=i/\i < 2 ^ 62 /\ -(2 ^ 62)<=j/\j < 2 ^ 62)/\R (Itr i (j - i).toNat) H1
 | _=>False
def k5i(ta:TA):TI:=fun σ H R=>ta σ H fun vs H1=>match vs with
 | [.int i,.int j,.int c]=>(0<=i/\i < 2 ^ 32/\0<=j/\j < 2 ^ 32/\0 < c/\c < 2 ^ 30)/\R (Itr3 i c (rngN i j c)) H1
 | _=>False
theorem d3n {ta : TA} {p pos : Pos} (hg : Gl X "range") (hm : X.mg "range" = none) (ha : PA X [a] ta) (hs : starEach [a] X.env = [(false, eval a X.env)] := by rfl) : PI X tg (.Call (.Name "range" p) [a] [] pos) (j0t ta) := by
 refine (i3h hg hm ha hs).weak fun σ H R h=>?_
 unfold j6s
 unfold j0t at h
 have e:(fun (vs:List V) (H1:Hp)=>(match vs with | [.int j] => -(2 ^ 62)<=j/\j < 2 ^ 62/\R (Itr 0 j.toNat) H1 | _=>False:Prop))=fun vs H1=>∃ j:Int,vs = [.int j] /\ -(2 ^ 62)<=j/\j < 2 ^ 62/\R (Itr 0 j.toNat) H1:=by
  funext vs H1
  refine propext ⟨fun z=>?_,fun⟨j,e,z⟩=>by subst e; exact z⟩
  match vs,z with
  | [.int j],z=>exact⟨j,rfl,z⟩
 rw [e] at h
 exact h
def j0u(K:PySem.W.Frag)(tl:TE):TI:=fun σ H R=>tl σ H fun x H1=>match x with
 | .ref a=>(∃ xs,SqL K H1 a xs)/\R (Itl K a) H1
 | _=>False
theorem a5q{l:Expr}{tl:TE}(hl:PE X l tl):PI X tg l (j0u X.K tl):=(j2q hl).weak fun σ H R h=>by
 unfold j6r
 unfold j0u at h
 have e:(fun (x:V) (H1:Hp)=>match x with | .ref a=>(∃ xs,SqL X.K H1 a xs)/\R (Itl X.K a) H1 | _=>False)=fun x H1=>∃ a,x = .ref a/\(∃ xs,SqL X.K H1 a xs)/\R (Itl X.K a) H1:=by
  funext x H1
  cases x <;> simp
 rw [e] at h
 exact h
def rIxS0(K:PySem.W.Frag):R2:=fun x y H Q=>match x,y with
 | .ref p,.int i=>∃ ns:List Int,SqL K H p (ns.map V.int)/\0<=i/\i < ns.length/\Q (.int (ns.getD i.toNat 0)) H
 | _,_=>False
noncomputable def rLenK(K:PySem.W.Frag):List V->Hp->VK->Prop:=fun xs H Q=>match xs with
 | [.ref p]=>∃ ys,SqL K H p ys/\Q (.int ys.length) H
 | _=>False
noncomputable def k2x(K:PySem.W.Frag):V->Option Int->Option Int->Hp->VK->Prop:=fun x lo hi H Q=>match x with
 | .ref a=>∃ xs,SqL K H a xs/\New H (.lst (d7r xs lo hi)) Q ⟨⟩
 | _=>False
theorem k2y:SlR X (k2x X.K):=by
 intro pins s σ H x v vl vu lo hi sl Q I rx hs pl pu h
 cases x <;> first
  | exact False.elim h
  | (obtain ⟨xs, h1, h2⟩ := h
     exact sl_K pins s σ H _ v vl vu lo hi sl Q I rx hs pl pu ⟨_,xs,rfl,h1,h2⟩)
def j0v(t:TE):TO:=fun σ H Q=>t σ H fun x H1=>match x with
 | .int i=>Q (some i) H1
 | _=>False
theorem a5r{te:TE}(h:PE X e te):PO X (some e) (j0v te):=by
 intro pins s σ H Q I hw
 refine (j2z h) pins s σ H Q I ?_
 unfold j7d
 unfold j0v at hw
 have e:(fun (x:V) (H1:Hp)=>match x with | .int i=>Q (some i) H1 | _=>False)=fun x H1=>∃ i,x=V.int i/\Q (some i) H1:=by
  funext x H1
  cases x <;> simp
 rw [e] at hw
 exact hw
noncomputable def rAbs:List V->Hp->VK->Prop:=fun xs H Q=>match xs with
 | [.int i]=>Q (.int i.natAbs) H
 | _=>False
theorem a5y : c6j X (.builtin "abs") rAbs := i7w.weak fun xs H Q h => by
 match xs,h with
 | [.int i],h =>
  refine⟨i,rfl,?_⟩
  have e:(if i < 0 then -i else i)=(i.natAbs:Int):=by split <;> omega
  rw [e]
  exact h
noncomputable def rMin:List V->Hp->VK->Prop:=fun xs H Q=>match xs with
 | [.int i,.int j]=>Q (.int (min i j)) H
 | _=>False
noncomputable def rMax:List V->Hp->VK->Prop:=fun xs H Q=>match xs with
 | [.int i,.int j]=>Q (.int (max i j)) H
 | _=>False
theorem h2o (hc : X.calm = true) : c6j X (.builtin "max") rMax := (i3p hc).weak fun xs H Q h => by
 match xs,h with
 | [.int i,.int j],h =>
  refine⟨i,j,rfl,?_⟩
  have e:(if j > i then j else i)=max i j:=by split <;> omega
  rw [e]
  exact h
noncomputable def j7z(K:PySem.W.Frag):List V->Hp->VK->Prop:=fun xs H Q=>match xs with
 | [.ref p]=>(match H p with
  | some (.lst ys)=>New H (.lst ys) Q ⟨⟩
  | some (.tup ys)=>New H (.lst ys) Q ⟨⟩
  | _=>False)
 | _=>False
theorem i0t : c6j X (.type "list") (j7z X.K) := i0s.weak fun xs H Q h => by
 match xs,h with
 | [.ref p],h =>
  have h':(match H p with
   | some (.lst ys)=>New H (.lst ys) Q ⟨⟩
   | some (.tup ys)=>New H (.lst ys) Q ⟨⟩
   | _=>False):=h
  split at h'
  ·rename_i ys e
   exact⟨p,ys,rfl,.inl (SqL.of e),h'⟩
  ·rename_i ys e
   exact⟨p,ys,rfl,.inr (SqT.of e),h'⟩
  ·exact h'.elim
theorem k5j{α:Type}{x:α}{xs:List α}{p:α->Prop}:(∃ v,atI (x :: xs) 0=some v/\p v)=p x:=by
 rw [j7r]; simp
theorem k5k{α:Type}{x y:α}{xs:List α}{p:α->Prop}:(∃ v,atI (x :: y :: xs) 1=some v/\p v)=p y:=by
 rw [j7s]; simp
theorem k5l{α:Type}{x y z:α}{xs:List α}{p:α->Prop}:(∃ v,atI (x :: y :: z :: xs) 2=some v/\p v)=p z:=by
 rw [j7t]; simp
theorem k5m{α:Type}{x y z u:α}{xs:List α}{p:α->Prop}:(∃ v,atI (x :: y :: z :: u :: xs) 3=some v/\p v)=p u:=by
 rw [j7u]; simp
end
end L2
namespace L2
open PySem PySem.Spec PyProof.Rows PySem.W
theorem f3t{n:Nat}{d:Dat}(h:kqdOk n d=true)(hn:n<=64):SeqAt.shaped (kqdP d)=true:=by
 have l:=kqd_lay n d h
 unfold SeqAt.shaped
 rw [l.1,Bool.true_and]
 exact decide_eq_true (Nat.le_trans l.2 hn)
theorem j0w{n k:Nat}{d e:Dat}(hd:kqdOk n d=true)(he:kqdOk k e=true){c:Bool}(hc:c=true ↔ d=e):PyData.eqv (kqdP d) (kqdP e)=c:=by
 have q:=kqd_eqv n d e k hd he
 cases c with
 | true=>exact q.mpr (hc.mp rfl)
 | false=>exact Bool.eq_false_iff.mpr fun z=>absurd (hc.mpr (q.mp z)) Bool.false_ne_true
theorem j8a{K:PySem.W.Frag}{H:Hp}{x y:V}{d e:Dat}{n k:Nat}{c:Bool}{Q:VK}(hd:h1p K H x (kqdP d))(he:h1p K H y (kqdP e))(kd:kqdOk n d=true)(ke:kqdOk k e=true)(hn:n<=64)(hk:k<=64)(hc:c=true ↔ d=e)(q:Q (.bl c) H):k1n K x y H Q :=
 ⟨_,_,hd,he,f3t kd hn,f3t ke hk,by rw [j0w kd ke hc]; exact q⟩
theorem j8b{K:PySem.W.Frag}{H:Hp}{x y:V}{d e:Dat}{n k:Nat}{c:Bool}{Q:VK}(hd:h1p K H x (kqdP d))(he:h1p K H y (kqdP e))(kd:kqdOk n d=true)(ke:kqdOk k e=true)(hn:n<=64)(hk:k<=64)(hc:c=true ↔ d=e)(q:Q (.bl (!c)) H):k1o K x y H Q :=
 ⟨_,_,hd,he,f3t kd hn,f3t ke hk,by rw [j0w kd ke hc]; exact q⟩
end L2
namespace L2
open PySem PySem.Spec PyProof.Rows
open PySem.Builtin.Int (intBits)
def k5n(t u:TS):TS:=fun D σ H=>∃ Mid:St->Hp->Prop,t { D with nx:=Mid } σ H/\∀ σ' H',Mid σ' H'->u D σ' H'
theorem c5p{X:Cx}{st:Stmt}{rest:List Stmt}{t u:TS}(h1:PS X st t)(h2:PSs X rest u):PSs X (st :: rest) (k5n t u):=by
 intro pins s σ H D I h
 obtain⟨Mid,h,hm⟩:=h
 refine wpAny_execs_cons (thn (h1 pins s σ H { D with nx:=Mid } I h) fun f s1 q=>?_)
 cases f with
 | next =>
  obtain⟨σ',H',I',q⟩:=q
  exact h2 pins s1 σ' H' D I' (hm σ' H' q)
 | ret v=>exact q
 | brk=>exact q
 | cont=>exact q
end L2
namespace L2
open PySem PySem.Spec PyProof.Rows
theorem f6v{env:Env}:∀ (names:List (Str×NameKind)) (acc:List (Str×Addr)),(∀ y,(y,NameKind.free)∈names->∃ c,env.cells.lookup y=some c) ->
  ∃ cl,(forIn names acc (fun (x:Str×NameKind) (cs:List (Str×Addr))=>(if x.2 == NameKind.free then (do let c <- cellOf env x.1; pure (ForInStep.yield ((x.1,c) :: cs))) else pure (ForInStep.yield cs):Sem (ForInStep (List (Str×Addr))))))=pure cl /\
   (∀ y c,cl.lookup y=some c->acc.lookup y=some c\/((y,NameKind.free)∈names/\env.cells.lookup y=some c)) /\
   (∀ y,(y,NameKind.free)∈names->cl.lookup y=env.cells.lookup y)/\(∀ y,(∀ k,(y,k)∈names->k≠NameKind.free)->cl.lookup y=acc.lookup y)
 | [],acc,_=>⟨acc,rfl,fun y c h=>.inl h,fun y h=>(nomatch h),fun y _=>rfl⟩
 | (n,k) :: r,acc,h=>by
  by_cases hk:k=NameKind.free
  ·subst hk
   obtain⟨c,hc⟩:=h n List.mem_cons_self
   obtain⟨cl,h1,h2,h3,h4⟩:=f6v r ((n,c) :: acc) fun y hy=>h y (List.mem_cons_of_mem _ hy)
   have e:cellOf env n=pure c:=by unfold cellOf; rw [hc]
   refine⟨cl,?_,fun y d hd=>?_,fun y hy=>?_,fun y hy=>?_⟩
   ·rw [List.forIn_cons]
    simp only [beq_self_eq_true,if_true,e,pure_bind]
    exact h1
   ·rcases h2 y d hd with z | ⟨z1,z2⟩
    ·rw [List.lookup_cons] at z
     by_cases hy:y=n
     ·subst hy
      simp only [beq_self_eq_true] at z
      cases z
      exact .inr ⟨List.mem_cons_self,hc⟩
     ·have:(y == n)=false:=by simpa using hy
      rw [this] at z
      exact .inl z
    ·exact .inr ⟨List.mem_cons_of_mem _ z1,z2⟩
   ·by_cases hr:(y,NameKind.free)∈r
    ·exact h3 y hr
    ·rcases List.mem_cons.mp hy with z | z
     ·cases z
      by_cases hq:∃ k,(n,k)∈r/\k=NameKind.free
      ·obtain⟨k,z,rfl⟩:=hq
       exact absurd z hr
      ·rw [h4 n fun k hk e=>hq ⟨k,hk,e⟩,List.lookup_cons]
       simp only [beq_self_eq_true]
       exact hc.symm
     ·exact absurd z hr
   ·have hn:y≠n:=fun e=>by
     subst e
     exact hy _ List.mem_cons_self rfl
    rw [h4 y fun k hk=>hy k (List.mem_cons_of_mem _ hk),List.lookup_cons]
    have:(y == n)=false:=by simpa using hn
    rw [this]
  ·obtain⟨cl,h1,h2,h3,h4⟩:=f6v r acc fun y hy=>h y (List.mem_cons_of_mem _ hy)
   have hb:(k == NameKind.free)=false:=by simpa using hk
   refine⟨cl,?_,fun y d hd=>?_,fun y hy=>?_,fun y hy=>h4 y fun k hk=>hy k (List.mem_cons_of_mem _ hk)⟩
   ·rw [List.forIn_cons]
    simp only [hb,Bool.false_eq_true,if_false,pure_bind]
    exact h1
   ·rcases h2 y d hd with z | ⟨z1,z2⟩
    ·exact .inl z
    ·exact .inr ⟨List.mem_cons_of_mem _ z1,z2⟩
   ·rcases List.mem_cons.mp hy with z | z
    ·cases z
     exact absurd rfl hk
    ·exact h3 y z
theorem d3o{env:Env}{sc:Scope}(h:∀ y,(y,NameKind.free)∈sc.names->∃ c,env.cells.lookup y=some c) :
  ∃ cl,closureFor sc env=pure cl/\(∀ y c,cl.lookup y=some c->(y,NameKind.free)∈sc.names/\env.cells.lookup y=some c)/\(∀ y,(y,NameKind.free)∈sc.names->cl.lookup y=env.cells.lookup y):=by
 obtain⟨cl,h1,h2,h3,_⟩:=f6v (env:=env) sc.names [] h
 refine⟨cl,?_,fun y c hy=>(h2 y c hy).elim (fun z=>nomatch z) id,h3⟩
 unfold closureFor
 show (forIn sc.names [] _ >>= fun cs=>pure cs)=pure cl
 rw [bind_pure]
 exact h1
end L2
namespace L2
open PySem PySem.Spec PyProof.Rows
noncomputable def mask (x : Str) (N : List Str) : List Str := N.map fun y => if y = x then "" else y
noncomputable def b0n(X:Cx)(scope:Scope)(cl:List (Str×Addr))(C:Addr)(s₃:Shared)(H₃:Hp)(fp:List Addr)(x:Str):Cx where
 prog:=X.prog
 w:=X.w
 K:=X.K
 mg:=X.mg
 base:=X.base
 A:=X.A
 N:=x :: mask x X.N
 s₀:=s₃
 H₀:=H₃
 env:=compEnvC scope cl C X.env
 outer:=X.stack
 stack:=X.stack
 ex:=fp
 fn:=fun _=>false
 calm:=X.calm
 pn:=[]
 xe:=fun _ _=>False
def b1u(D:Addr)(H H':Hp):Prop:=∀ b o,b≠D->H b=some o->H' b=some o
theorem b1u.upd{D:Addr}{H:Hp}{o:HO}:b1u D H (upd H D o):=fun b u hb e=>by rw [a6l hb]; exact e
def g0x(J:It)(te:TE)(D:Addr)(σ:St)(H:Hp)(Q:VK)(_:Tag Q):Prop:=∃ (n:Nat) (W:Nat->List V->Hp->Prop),W 0 [] H/\∀ i ys H,i<=n->W i ys H->H D=some (.lst ys) /\
 ((J.stop i H/\Q (.ref D) H)\/(i < n/\J.go i H/\ys.length < sizeLine/\∀ x H',J.yld i H x H'->te (some x :: σ) H' fun y H2=>H2 D=some (.lst ys) /\
  ∀ H3,b1u D H2 H3->H3 D=some (.lst (ys++[y]))->W (i+1) (ys++[y]) H3))
def i8m(wi:TI)(te:TE):TE:=fun σ H Q=>wi σ H fun J H1=>∀ D H2,H1 D=none->Same H1 H2->H2 D=some (.lst [])->g0x J te D σ H2 Q ⟨⟩
theorem d3p{env:Env}{x:Str}:∀ (names:List (Str×NameKind)) (k:NameKind),(names.map fun (n,k)=>if (k == NameKind.free && env.scope.kind == .function && env.kindOf n == some .cell) then (n,NameKind.cell) else (n,k)).lookup x=some k ->
  (names.lookup x=some k)\/(k = .cell/\names.lookup x=some .free)
 | [],k,e=>by cases e
 | (n,q) :: r,k,e=>by
  rw [List.map_cons] at e
  dsimp only at e
  rw [List.lookup_cons]
  cases hx:(x == n) with
  | true =>
   by_cases hc:(q == NameKind.free && env.scope.kind == .function && env.kindOf n == some .cell)=true
   ·rw [if_pos hc,List.lookup_cons,hx] at e
    have:q = .free:=by
     simp only [Bool.and_eq_true,beq_iff_eq] at hc
     exact hc.1.1
    subst this
    cases e
    exact .inr ⟨rfl,rfl⟩
   ·rw [if_neg hc,List.lookup_cons,hx] at e
    exact .inl e
  | false =>
   have e':(r.map fun (n,k)=>if (k == NameKind.free && env.scope.kind == .function && env.kindOf n == some .cell) then (n,NameKind.cell) else (n,k)).lookup x=some k:=by
    by_cases hc:(q == NameKind.free && env.scope.kind == .function && env.kindOf n == some .cell)=true
    ·rw [if_pos hc,List.lookup_cons,hx] at e
     exact e
    ·rw [if_neg hc,List.lookup_cons,hx] at e
     exact e
   exact d3p r k e'
theorem c4k{env:Env}{sc:Scope}{x:Str}(h:(relabel sc env).names.lookup x=some .cell\/(relabel sc env).names.lookup x=some .free):(x,NameKind.free)∈sc.names\/(x,NameKind.cell)∈sc.names:=by
 rcases h with h | h
 ·rcases d3p sc.names _ h with z | ⟨_,z⟩
  ·exact .inr (PySem.mem_of_lookup z)
  ·exact .inl (PySem.mem_of_lookup z)
 ·rcases d3p sc.names _ h with z | ⟨z,_⟩
  ·exact .inl (PySem.mem_of_lookup z)
  ·cases z
structure c4w(X:Cx)(scope:Scope)(x:Str):Prop where
 kind:scope.kind = .function
 f3u:∀ y∈scope.names,y.2≠.cell
 loc:∀ y∈scope.names,y.2 = .local->scope.names.lookup y.1=some .local
 own:scope.names.lookup x=some .local
 free:∀ y∈scope.names,y.2 = .free->X.env.kindOf y.1=some .cell\/X.env.kindOf y.1=some .free
 nd:(x :: mask x X.N).Nodup
 noe : ∀ y ∈ scope.names, y.1 ≠ ""
 vis:∀ y∈mask x X.N,scope.names.lookup y≠some .local
section
variable {X:Cx}{scope:Scope}{x:Str}{cl:List (Str×Addr)}{pins:List (Addr×Obj)}{σ:St}{H:Hp}{s s₄:Shared}{fp:List Addr}
theorem Inv.comp(S:c4w X scope x)(I:Inv X pins σ H s)(hcl:∀ y c,cl.lookup y=some c->(y,NameKind.free)∈scope.names/\X.env.cells.lookup y=some c)(hcl2:∀ y,(y,NameKind.free)∈scope.names->cl.lookup y=X.env.cells.lookup y)
  (hfp:∀ b∈fp,g0v X pins H b) (hlt:∀ b∈fp,b < s.heap.objs.size) {m:Str->Option Value} (hns:s₄.heap.Ns s.heap.objs.size m) (hk:∀ b o,s.heap.get? b=some o->s₄.heap.get? b=some o) (hos:s₄.os=s.os) (hg:s₄.gens=s.gens) :
  Inv (b0n X scope cl s.heap.objs.size s H fp x) [] (none :: σ) H s₄:=by
 have below:∀ {b:Addr} {o:Obj},s.heap.get? b=some o->b≠s.heap.objs.size:=fun e=>Nat.ne_of_lt (Heap.lt_size e)
 refine⟨⟨I.ok.mod,?_,I.ok.glob,I.ok.blt,Nat.le_refl _,fun y z c h1 h2=>I.ok.inj y z c (hcl y c h1).2 (hcl z c h2).2,fun y hy=>?_,(fun y c h=>nomatch h),I.ok.hd,I.ok.frames,.inl rfl,fun b hb=>⟨Nat.ne_of_lt (hlt b hb),fun y c e=>(hfp b hb).2.2.2.2.1 y c (hcl y c e).2⟩,
  fun b o e=>I.bs b o e,Nat.le_trans I.ok.bsz I.sz,fun b o e hb=>?_,fun b hb hf=>?_,I.stack,I.g7w⟩,
  hos,by rw [hg]; exact I.bare,Un.kept hk,⟨m,hns,fun i y v h1 h2 h3=>?_⟩,fun y c e=>?_,I.hok.fresh (Nat.le_refl _),fun y c e=>I.f1o y c (hcl y c e).2,fun p hp=>absurd (show p∈([] : List (Addr×Obj)) from hp) (by simp),I.hok.kept hk,by show (none :: σ).length=(x :: mask x X.N).length; rw [List.length_cons,List.length_cons,mask,List.length_map,I.len]⟩
 ·exact S.kind
 ·rcases c4k (env:=X.env) (sc:=scope) (x:=y) hy with z | z
  ·obtain⟨c,hc⟩:=I.ok.has y (S.free _ z rfl)
   exact⟨c,(hcl2 y z).trans hc⟩
  ·exact absurd rfl (S.f3u _ z)
 ·rcases (hfp b hb).2.2.2.1 with z | z
  ·exact I.ok.j2p b o e z
  ·exact absurd (Nat.lt_of_lt_of_le (Heap.lt_size (I.ok.bs b o e).1) z) (Nat.lt_irrefl _)
 ·rcases List.mem_cons.mp (I.g1k b hf) with z | z
  ·exact (hfp b hb).2.1 z
  ·exact (hfp b hb).2.2.1 z
 ·cases i with
  | zero=>cases h2
  | succ i =>
   have h1m:(mask x X.N)[i]? = some y:=by simpa [b0n] using h1
   have h2':σ[i]? = some (some v):=by simpa using h2
   have hyN:y∈mask x X.N:=List.mem_of_getElem? h1m
   have hc:(relabel scope X.env).names.lookup y=some .cell\/(relabel scope X.env).names.lookup y=some .free:=by
    rcases h3 with z | z | z
    ·exfalso
     rcases d3p (env:=X.env) scope.names _ z with q | ⟨q,_⟩
     ·exact S.vis y hyN q
     ·cases q
    ·exact .inl z
    ·exact .inr z
   have hfr:(y,NameKind.free)∈scope.names:=by
    rcases c4k hc with z | z
    ·exact z
    ·exact absurd rfl (S.f3u _ z)
   have h1':X.N[i]? = some y:=by
    rw [mask,List.getElem?_map] at h1m
    obtain⟨z,hz,e⟩:=Option.map_eq_some_iff.mp h1m
    by_cases hzx:z=x
    ·rw [if_pos hzx] at e
     exact absurd e.symm (S.noe _ hfr)
    ·rw [if_neg hzx] at e
     rw [hz,e]
   obtain⟨mX,hnX,hl⟩:=I.loc
   have hk2:=S.free _ hfr rfl
   have k2z:Vis X.env.scope y:=by
    rcases hk2 with z | z
    ·exact .inr (.inl z)
    ·exact .inr (.inr z)
   obtain⟨u,ru,lk⟩:=hl i y v h1' h2' k2z
   refine⟨u,ru,.inr ⟨hc,?_⟩⟩
   rcases lk with ⟨z,_⟩ | ⟨_,c,ec,o,ho,hd⟩
   ·rcases hk2 with q | q
    ·rw [q] at z; cases z
    ·rw [q] at z; cases z
   ·exact⟨c,(hcl2 y hfr).trans ec,o,hk c o ho,hd⟩
 ·obtain⟨v,o,ho,hd⟩:=I.cell y c (hcl y c e).2
  exact⟨v,o,hk c o ho,hd⟩
theorem Inv.j0x{σ':St}{H':Hp}{s':Shared}{h':Heap}(I:Inv X pins σ H s)(hfp:∀ b∈fp,g0v X pins H b)(J:Inv (b0n X scope cl s.heap.objs.size s H fp x) [] σ' H' s')(hs:Heap.SameBut s.heap.objs.size s'.heap h') :
  Inv X pins σ H' { s' with heap:=h' }:=by
 have ne:∀ {b:Addr} {o:Obj},s.heap.get? b=some o->b≠s.heap.objs.size:=fun e=>Nat.ne_of_lt (Heap.lt_size e)
 have u:=J.base
 have u':Un (frs X.stack) fp H H' s.heap h':=⟨fun b o e n hb hx=>hs.extBut b o (ne e) (u.keep b o e n hb hx),fun b o e n hb hx=>(u.slot b o e n hb hx).elim fun sl q=>⟨sl,hs.extBut b _ (ne e) q⟩,u.free,
  fun b o e hx=>(u.there b o e hx).elim fun o' q=>⟨o',hs.extBut b o' (ne e) q⟩,u.tups,u.h1o,u.h1s⟩
 have nC:∀ {b:Addr} {o:HO},H' b=some o->b≠s.heap.objs.size:=fun {b o} e z=>by
  have f:H' s.heap.objs.size=none:=J.free
  rw [z,f] at e; cases e
 have ok:HOk X.prog X.w H' h':=fun b o e=>(J.hok b o e).stay (fun c v hc q=>hs.extBut c v (by
  rcases hc with z | z
  ·rw [z]; exact nC e
  ·exact nC z) q) (fun _ q=>q) fun _ _ q=>q
 exact I.call' (s':={ s' with heap:=h' }) (ch:=fp) J.os u' ok J.bare fun b hb=>⟨(hfp b hb).2.2.2.1,(hfp b hb).2.1,(hfp b hb).2.2.2.2.1,(hfp b hb).2.2.2.2.2⟩
end
end L2
namespace L2
open PySem PySem.Spec PyProof.Rows
section
variable {X:Cx}{scope:Scope}{x:Str}{pins:List (Addr×Obj)}{σ:St}{elt iter:Expr}{px pos:Pos}{wi:TI}{te:TE}
theorem g6l{s₂:Shared}{H1:Hp}{it:Addr}{fp:List Addr}{tn:Nat->Heap->Prop}{J:It}{Q:VK}{RR:Value->Addr->Result->Shared->Prop}{E:Value->Shared->Prop}{cl:List (Str×Addr)}
  (S:c4w X scope x) (hc:X.calm=true) (he:∀ cl C s₃ H₃ fp,PE (b0n X scope cl C s₃ H₃ fp x) elt te)
  (hcl:∀ y c,cl.lookup y=some c->(y,NameKind.free)∈scope.names/\X.env.cells.lookup y=some c) (hcl2:∀ y,(y,NameKind.free)∈scope.names->cl.lookup y=X.env.cells.lookup y)
  (I2:Inv X pins σ H1 s₂) (T:Turn X.prog X.w X.K (.Name x px) J fp it tn) (st2:tn 0 s₂.heap) (f2:∀ b∈fp,g0v X pins H1 b) (h:∀ D H2,H1 D=none->Same H1 H2->H2 D=some (.lst [])->g0x J te D σ H2 Q ⟨⟩)
  (hRR:∀ (D C:Addr) (s':Shared) (H':Hp),(∃ m,s'.heap.Ns C m)->(∀ h' ,Heap.SameBut C s'.heap h'->Inv X pins σ H' { s' with heap:=h' })->g0v X pins H' C->Q (.ref D) H'->RR (.ref D) C (.ok .next) s') :
  wpAny (model X.prog X.w) X.A (newList []) (fun acc s₃=>wpAny (model X.prog X.w) X.A (newFunctionEnv scope X.env.globals cl [] X.env.qual none .none (some X.env)) (fun cenv s₄ =>
   codeAny (model X.prog X.w) X.A (.compStart (.ListComp elt [⟨.Name x px,iter,[],0⟩] scope pos) 0 (.ref it) acc { cenv with scope:=relabel scope X.env }) (RR acc cenv.locals) s₄) E s₃) E s₂:=by
 have hfr:H1 s₂.heap.objs.size=none:=I2.hok.fresh (Nat.le_refl _)
 have hCW:=h s₂.heap.objs.size _ hfr (Same.upd hfr) a6s
 refine wpAny_newObj_type ?_
 have I3 : Inv X pins σ (upd H1 s₂.heap.objs.size (.lst [])) { s₂ with heap := s₂.heap.push { cls := .type "list", data := .seq ([] : List Value).toArray }, toks := s₂.toks } :=
  I2.laid (t':=s₂.toks) (fun b u e=>Heap.get?_push_of_some _ e) (Nat.le_refl _) ⟨Nat.zero_le _,[],0,.nil,Heap.get?_push_size _ rfl⟩
 have nD:∀ b∈fp,b≠s₂.heap.objs.size:=fun b hb=>by
  obtain⟨o,e,_⟩:=T.obj 0 _ st2 b hb
  exact Nat.ne_of_lt (Heap.lt_size e)
 have f3:∀ b∈fp,g0v X pins (upd H1 s₂.heap.objs.size (.lst [])) b:=fun b hb=>⟨by rw [a6l (nD b hb)]; exact (f2 b hb).1,(f2 b hb).2⟩
 generalize hH3:upd H1 s₂.heap.objs.size (.lst [])=H3 at *
 have st3 : tn 0 (s₂.heap.push { cls := .type "list", data := .seq ([] : List Value).toArray }) := T.keep _ _ _ st2 fun b _ o e => Heap.get?_push_of_some _ e
 have i3z : ∀ b ∈ fp, b < (s₂.heap.push { cls := .type "list", data := .seq ([] : List Value).toArray }).objs.size := fun b hb => by
  obtain⟨o,e,_⟩:=T.obj 0 _ st3 b hb
  exact Heap.lt_size e
 show wpAny (model X.prog X.w) X.A (newFunctionEnv scope X.env.globals cl [] X.env.qual none .none (some X.env)) _ E { s₂ with heap := s₂.heap.push { cls := .type "list", data := .seq ([] : List Value).toArray }, toks := s₂.toks }
 generalize hs3 : ({ s₂ with heap := s₂.heap.push { cls := .type "list", data := .seq ([] : List Value).toArray }, toks := s₂.toks } : Shared) = s₃ at *
 have eh : s₃.heap = s₂.heap.push { cls := .type "list", data := .seq ([] : List Value).toArray } := by rw [← hs3]
 rw [<- eh] at st3 i3z
 generalize s₂.heap.objs.size=D at *
 refine wpAny_newFunctionEnv S.f3u (by intro y hy; simp at hy) (fun h₁ hns₁ hsb₁=>?_) S.kind
 have hk1:∀ b o,s₃.heap.get? b=some o->h₁.get? b=some o:=fun b o e=>hsb₁.extBut b o (Nat.ne_of_lt (Heap.lt_size e)) (Heap.get?_push_of_some _ e)
 have J0:Inv (b0n X scope cl s₃.heap.objs.size s₃ H3 fp x) [] (none :: σ) H3 { s₃ with heap:=h₁,toks:=s₃.toks+([] : List (Str×Value)).length }:=I3.comp S hcl hcl2 f3 i3z hns₁ hk1 rfl rfl
 obtain⟨n0,W,w0,turn⟩:=hCW
 have loop:codeAny (model X.prog X.w) X.A (.compLoop (.ListComp elt [⟨.Name x px,iter,[],0⟩] scope pos) 0 (.ref it) (.ref D) (compEnvC scope cl s₃.heap.objs.size X.env)) (RR (.ref D) s₃.heap.objs.size) { s₃ with heap:=h₁,toks:=s₃.toks+([] : List (Str×Value)).length }:=by
  refine codeAny_loop rfl (fun n s'=>∃ i ys o H',Inv (b0n X scope cl s₃.heap.objs.size s₃ H3 fp x) [] (o :: σ) H' s'/\tn i s'.heap/\(∀ b∈fp,H' b=none)/\W i ys H'/\i<=n0/\n=n0 - i) (fun n s5 hI=>?_) n0
   ⟨0,[],none,H3,J0,T.keep _ _ _ st3 (fun b _ o e=>hk1 b o e),fun b hb=>(f3 b hb).1,w0,Nat.zero_le _,rfl⟩
  obtain⟨i,ys,o5,H5,I5,st5,fr5,w5,hin,hnn⟩:=hI
  have stat:∀ {H':Hp},(∀ b∈fp,H' b=none)->∀ b∈fp,g0v (b0n X scope cl s₃.heap.objs.size s₃ H3 fp x) [] H' b:=fun hn b hb =>
   ⟨hn b hb,Nat.ne_of_lt (i3z b hb),fun z=>(List.mem_cons.mp (I3.g1k b z)).elim (fun q=>(f3 b hb).2.1 q) fun q=>(f3 b hb).2.2.1 q,.inl hb,fun y c e=>(f3 b hb).2.2.2.2.1 y c (hcl y c e).2,fun p hp=>absurd (show p∈([] : List (Addr×Obj)) from hp) (by simp)⟩
  show wpAny _ X.A ((compTurn (.ListComp elt [⟨.Name x px,iter,[],0⟩] scope pos) 0 (.ref it) (.ref D) (compEnvC scope cl s₃.heap.objs.size X.env)).onRaise (fun x=>do noteFrame x (compEnvC scope cl s₃.heap.objs.size X.env); theTreesLotGoes x)) _ _ s5
  refine wpAny_noted ?_
  rw [compTurn_list1]
  refine wpAny_bind (wpAny_standAt (wpAny_bind ?_))
  obtain⟨hD5,alt⟩:=turn i ys H5 hin w5
  rcases alt with ⟨stop,q⟩ | ⟨hlt,go,hsz,step⟩
  ·refine wpAny_mono (T.done (b0n X scope cl s₃.heap.objs.size s₃ H3 fp x) rfl rfl rfl hc i [] s5 _ H5 _ I5 (stat fr5) st5 stop) (fun r s6 ⟨hr,I6⟩=>?_) fun _ _ z=>z
   subst hr
   refine wpAny_pure ?_
   obtain⟨m6,hn6,_⟩:=I6.loc
   exact hRR D s₃.heap.objs.size s6 H5 ⟨m6,hn6⟩ (fun h' hs'=>I3.j0x f3 I6 hs') (I3.i7s (Nat.le_refl _) I6.free) q
  ·refine wpAny_mono (T.item (b0n X scope cl s₃.heap.objs.size s₃ H3 fp x) rfl rfl rfl hc i [] s5 _ H5 _ I5 (stat fr5) st5 go) (fun r s6 ⟨u,hr,h6⟩=>?_) fun _ _ z=>z
   subst hr
   refine wpAny_bind (wpAny_mono h6 (fun _ s7 ⟨v,H7,I7,r7,y7,st7,fr7⟩=>?_) fun _ _ z=>z)
   have I7':=I7.pinned (stat fr7) (T.obj _ _ st7)
   have G:=a5g (X:=b0n X scope cl s₃.heap.objs.size s₃ H3 fp x) (pos:=px) (i:=0) (x:=x) S.nd rfl (.inl (lookup_relabel_local S.own)) (.inr (lookup_relabel_local S.own))
   refine wpAny_bind (wpAny_mono (G _ s7 _ H7 v u (fun σ' H'=>σ'=some v :: σ/\H'=H7) I7' r7 ⟨rfl,rfl⟩) (fun _ s8 hs8=>?_) fun _ _ z=>False.elim z)
   obtain⟨σ8,H8,I8,rfl,rfl⟩:=hs8
   refine wpAny_bind (wpAny_bind (wpAny_mono (he cl s₃.heap.objs.size s₃ H3 fp _ s8 _ _ _ I8 (step v H8 y7)) (fun yv s9 hs9=>?_) fun _ _ z=>False.elim z))
   obtain⟨y,H9,I9,r9,hD9,k9⟩:=hs9
   refine wpAny_bind (wpAny_mono (f3r (X:=b0n X scope cl s₃.heap.objs.size s₃ H3 fp x) _ s9 _ H9 (.ref D) [y] (.ref D) [yv] (fun _ H'=>H'=upd H9 D (.lst (ys++[y]))) I9 rfl (.cons r9 .nil) ⟨D,ys,y,rfl,rfl,hD9,hsz,rfl⟩) (fun _ sA hsA=>?_) fun _ _ z=>False.elim z)
   obtain⟨_,HA,IA,_,rfl⟩:=hsA
   refine wpAny_pure ?_
   have wA:=k9 _ b1u.upd a6s
   refine wpAny_pure ⟨rfl,n0 - (i+1),by omega,i+1,ys++[y],some v,_,IA.f0m (pins:=[]) (pl:=g1m fp s7.heap),T.keep _ _ _ st7 (fun b hb o e=>(IA.pin (b,o) (List.mem_append_right _ (List.mem_append_right _ (b3j hb e)))).1),fun b hb=>?_,wA,hlt,rfl⟩
   obtain⟨o,e,d⟩:=T.obj _ _ st7 b hb
   exact (IA.pin (b,o) (List.mem_append_right _ (List.mem_append_right _ (b3j hb e)))).2.1
 exact codeAny_compStart_list loop (T.self _ 0 _ _ _ (T.keep _ _ _ st3 fun b _ o e=>hk1 b o e) loop)
theorem c5q(hi:PI X (.Name x px) iter wi)(he:∀ cl C s₃ H₃ fp,PE (b0n X scope cl C s₃ H₃ fp x) elt te)(S:c4w X scope x)(hc:X.calm=true)
  (hs:∀ x,foldedSetIterable iter X.env x=pure x:=by intro _; rfl):PE X (.ListComp elt [⟨.Name x px,iter,[],0⟩] scope pos) (i8m wi te):=by
 intro pins s σ H Q I h
 obtain⟨cl,hclos,hcl,hcl2⟩:=d3o (env:=X.env) (sc:=scope) fun y hy=>I.ok.has y (S.free _ hy rfl)
 rw [eval_ListComp]
 refine wpAny_comprehension_free (use:=none) rfl hs hclos S.kind S.loc ?_
 refine thn (hi pins s σ H _ I h) fun v s1 h1=>thn h1 fun itv s2 h2=>?_
 obtain⟨it,fp,tn,J,H2,e,I2,T,st2,f2,hW⟩:=h2
 subst e
 exact g6l (RR:=fun acc C=>compPost (model X.prog X.w) X.A X.xe none (EP X pins σ Q) acc C) S hc he hcl hcl2 I2 T st2 f2 hW fun D C s' H' hm hI _ hq =>
  hm.elim fun m hn=>⟨m,hn,fun h' hs'=>⟨.ref D,H',hI h' hs',rfl,hq⟩⟩
theorem g1w{i:Nat}{y:Str}{py spos:Pos}(hN:X.N.Nodup)(hyi:X.N[i]? = some y)(hy:X.env.scope.names.lookup y=some .local)(hi:PI X (.Name x px) iter wi)(he:∀ cl C s₃ H₃ fp,PE (b0n X scope cl C s₃ H₃ fp x) elt te)(S:c4w X scope x)(hc:X.calm=true)
  (hsw:swapsWith (.ListComp elt [⟨.Name x px,iter,[],0⟩] scope pos) (some (.Name y py)) spos.line X.env=pure true:=by rfl)
  (hs:∀ x,foldedSetIterable iter X.env x=pure x:=by intro _; rfl):PS X (.Assign [.Name y py] (.ListComp elt [⟨.Name x px,iter,[],0⟩] scope pos) spos) (j5s (i8m wi te) (g7z i)):=by
 intro pins s σ H D I h
 obtain⟨cl,hclos,hcl,hcl2⟩:=d3o (env:=X.env) (sc:=scope) fun y hy=>I.ok.has y (S.free _ hy rfl)
 rw [exec_Assign_Name_used _ _ _ _ hsw]
 refine wpAny_bind (wpAny_standAt (wpAny_bind ?_))
 show wpAny _ X.A (do let _ <- comprehension (.ListComp elt [⟨.Name x px,iter,[],0⟩] scope pos) scope X.env _ (newList []) false (eval iter X.env) (some (assign (.Name y py) X.env))) _ _ s
 refine wpAny_bind (wpAny_mono (wpAny_comprehension_free (use:=some (assign (.Name y py) X.env)) (Q:=fun _ s'=>SP X pins D .next s') rfl hs hclos S.kind S.loc ?_) (fun _ s' hq=>wpAny_pure (wpAny_pure hq)) fun _ _ e=>e)
 refine thn (hi pins s σ H _ I h) fun v s1 h1=>thn h1 fun itv s2 h2=>?_
 obtain⟨it,fp,tn,J,H2,e,I2,T,st2,f2,hW⟩:=h2
 subst e
 refine g6l (Q:=fun v H'=>D.nx (σ.set i (some v)) H') (RR:=fun acc C=>compPost (model X.prog X.w) X.A X.xe (some (assign (.Name y py) X.env)) (fun _ s'=>SP X pins D .next s') acc C) S hc he hcl hcl2 I2 T st2 f2 hW fun L C s' H' hm hI hfp hq=>?_
 obtain⟨m,hn⟩:=hm
 have I':Inv X pins σ H' s':=hI s'.heap (Heap.SameBut.refl ..)
 show wpAny _ X.A (assign (.Name y py) X.env (.ref L)) _ _ s'
 refine wpAny_assign_Name (g1l (v:=.ref L) I' hN hyi (.inl hy) rfl (fun s'' I'' hsb=>?_) (.inr hy))
 obtain⟨a,hsame,ha⟩:=hsb
 have nea:C≠a:=by
  rcases ha with z | z
  ·rw [z]; exact hfp.2.1
  ·exact fun q=>hfp.2.2.2.2.1 y a z q.symm
 refine⟨m,hn.sameBut hsame nea,fun h' hs'=>⟨_,H',I''.turned (t':=s''.toks) (it:=C) (fun b o hb e=>hs'.extBut b o hb e) hfp.1 hfp.2.1 hfp.2.2.2.1 hfp.2.2.2.2.1 hfp.2.2.2.2.2,hq⟩⟩
end
theorem c0t{K:PySem.W.Frag}{a D:Addr}{xs:List V}{te:TE}{σ:St}{H:Hp}{Q:VK}(Pv:Nat->List V->Hp->Prop)(h0:Pv 0 [] H)(hsz:xs.length<=sizeLine)
  (hD:∀ i ys H,i<=xs.length->Pv i ys H->H D=some (.lst ys)/\SqL K H a xs/\ys.length=i)
  (hs:∀ i x ys H,xs[i]? = some x->Pv i ys H->te (some x :: σ) H fun y H2=>H2 D=some (.lst ys)/\∀ H3,b1u D H2 H3->H3 D=some (.lst (ys++[y]))->Pv (i+1) (ys++[y]) H3)
  (hd:∀ ys H,Pv xs.length ys H->Q (.ref D) H):g0x (Itl K a) te D σ H Q ⟨⟩:=by
 refine⟨xs.length,Pv,h0,fun i ys H hi p=>?_⟩
 obtain⟨e1,e2,e3⟩:=hD i ys H hi p
 refine⟨e1,?_⟩
 by_cases hlt:i < xs.length
 ·refine .inr ⟨hlt,⟨xs,xs[i],e2,by simp [hlt]⟩,by omega,fun x H' y=>?_⟩
  obtain⟨e,y⟩:=y
  subst e
  exact hs i x ys _ (y xs e2) p
 ·have e:i=xs.length:=by omega
  subst e
  exact .inl ⟨⟨xs,e2,Nat.le_refl _⟩,hd ys H p⟩
theorem g1x{D:Addr}{lo:Int}{n:Nat}{te:TE}{σ:St}{H:Hp}{Q:VK}(Pv:Nat->List V->Hp->Prop)(h0:Pv 0 [] H)(hsz:n<=sizeLine)
  (hD:∀ i ys H,i<=n->Pv i ys H->H D=some (.lst ys)/\ys.length=i)
  (hs:∀ i ys H,i < n->Pv i ys H->te (some (.int (lo+i)) :: σ) H fun y H2=>H2 D=some (.lst ys)/\∀ H3,b1u D H2 H3->H3 D=some (.lst (ys++[y]))->Pv (i+1) (ys++[y]) H3)
  (hd:∀ ys H,Pv n ys H->Q (.ref D) H):g0x (Itr lo n) te D σ H Q ⟨⟩:=by
 refine⟨n,Pv,h0,fun i ys H hi p=>?_⟩
 obtain⟨e1,e3⟩:=hD i ys H hi p
 refine⟨e1,?_⟩
 by_cases hlt:i < n
 ·refine .inr ⟨hlt,hlt,by omega,fun x H' y=>?_⟩
  obtain⟨e,y⟩:=y
  subst e y
  exact hs i ys _ hlt p
 ·have e:i=n:=by omega
  subst e
  exact .inl ⟨Nat.le_refl _,hd ys H p⟩
theorem Same.step{D:Addr}{H0 H H':Hp}(S:Same H0 H)(n:H0 D=none)(s:b1u D H H'):Same H0 H':=fun b o e=>s b o (a7u e n) (S b o e)
theorem i0u{D:Addr}{lo:Int}{n:Nat}{te:TE}{σ:St}{H0 H:Hp}{Q:VK}(g:Nat->V)(n0:H0 D=none)(S:Same H0 H)(hD:H D=some (.lst []))(hsz:n<=sizeLine)
  (hs:∀ (i:Nat) H' (Q':VK),i < n->Same H0 H'->Q' (g i) H'->te (some (.int (lo+i)) :: σ) H' Q') (q:∀ H',Same H0 H'->H' D=some (.lst ((List.range n).map g))->Q (.ref D) H'):g0x (Itr lo n) te D σ H Q ⟨⟩:=by
 refine g1x (fun i ys H'=>Same H0 H'/\H' D=some (.lst ys)/\ys=(List.range i).map g) ⟨S,hD,by simp⟩ hsz (fun i ys H' hi p=>?_) (fun i ys H' hx p=>?_) (fun ys H' p=>?_)
 ·refine⟨p.2.1,?_⟩
  rw [p.2.2,List.length_map,List.length_range]
 ·refine hs i H' _ hx p.1 ⟨p.2.1,fun H3 s3 h3=>⟨p.1.step n0 s3,h3,?_⟩⟩
  rw [p.2.2,List.range_succ,List.map_append]
  rfl
 ·refine q H' p.1 ?_
  rw [p.2.1,p.2.2]
noncomputable def j0y(sc scope:Scope)(x:Str)(N:List Str):Bool :=
 (scope.kind == .function) && scope.names.all (fun y=>y.2 != .cell) && scope.names.all (fun y=>y.2 != .local || scope.names.lookup y.1 == some .local) && (scope.names.lookup x == some .local) &&
 scope.names.all (fun y => y.2 != .free || (sc.names.lookup y.1 == some .cell || sc.names.lookup y.1 == some .free)) && decide ((x :: mask x N).Nodup) && scope.names.all (fun y => y.1 != "") && (mask x N).all (fun y => scope.names.lookup y != some .local)
theorem d4v{X:Cx}{sc scope:Scope}{x:Str}{N:List Str}(hsc:X.env.scope=sc)(hN:X.N=N)(h:j0y sc scope x N=true):c4w X scope x:=by
 subst hN hsc
 unfold j0y at h
 simp only [Bool.and_eq_true,List.all_eq_true,beq_iff_eq,Bool.or_eq_true,bne_iff_ne,ne_eq,decide_eq_true_eq] at h
 obtain⟨⟨⟨⟨⟨⟨⟨h1,h2⟩,h3⟩,h4⟩,h5⟩,h6⟩,h7⟩,h8⟩:=h
 exact⟨h1,h2,fun y hy e=>(h3 y hy).resolve_left fun z=>z e,h4,fun y hy e=>(h5 y hy).resolve_left fun z=>z e,h6,h7,h8⟩
end L2
namespace L2
open PySem PySem.Spec PyProof.Rows
noncomputable def k3a:V->Hp->Bool:=fun x H=>match x with
 | .ref l=>(match H l with
  | some (.lst _)=>true
  | _=>false)
 | _=>false
noncomputable def j8c:V->Hp->Bool:=fun x _=>match x with
 | .str _=>true
 | _=>false
theorem f0n {K : PySem.W.Frag} : ∀ x H, k3a x H = true → tyV K "list" x H := fun x H h => by
 cases x with
 | ref l =>
  have h':(match H l with
   | some (.lst _)=>true
   | _=>false)=true:=h
  split at h'
  ·rename_i xs e
   exact .inl ⟨rfl,xs,SqL.of e⟩
  ·cases h'
 | _=>cases h
theorem a8g {K : PySem.W.Frag} : ∀ x H, j8c x H = true → tyV K "str" x H := fun x H h => by
 cases x with
 | str z=>exact rfl
 | _=>cases h
def tBMF(chk:V->Hp->Bool)(r:V->List V->Hp->VK->Prop)(to:TE)(t:TA):TE:=fun σ H Q=>to σ H fun x H1=>chk x H1=true/\t σ H1 fun xs H2=>r x xs H2 Q
section
variable {X:Cx}{o e:Expr}{es:List Expr}{to:TE}{t:TA}{name:Str}{apos cpos:Pos}{T id:String}{r r':V->List V->Hp->VK->Prop}{chk:V->Hp->Bool}
theorem MtR.weak(h:MtR X id r)(q:∀ x xs H Q,r' x xs H Q->r x xs H Q):MtR X id r':=fun pins s σ H x xs v us Q I rx rs hr=>h pins s σ H x xs v us Q I rx rs (q x xs H Q hr)
theorem b7j (hchk : ∀ x H, chk x H = true → tyV X.K T x H) (pa : PlainAttrs T) (slot : Slot T name id) (hty : typeOf (.builtin id) = pure (.type "method_descriptor")) (hm : MtR X id r) (ho : PE X o to) (ha : PA X (e :: es) t)
  (hbase:attributeBase o name X.env (eval o X.env)=eval o X.env:=by rfl)
  (hfew:((backTo cpos (starEach (e :: es) X.env)).all (fun x=>!x.1) && (backToKw cpos (keywordEach [] X.env)).all (fun x=>x.1.isSome)
   && decide ((e :: es).length+([] : List Keyword).length+(if ([] : List Keyword).isEmpty then 0 else 1) < 30))=true:=by rfl)
  (hline:(apos.endLine == cpos.line)=true:=by rfl) (hs:starEach (e :: es) X.env=(false,eval e X.env) :: starEach es X.env:=by rfl) (hplain:(backTo cpos (starEach es X.env)).any (·.1)=false:=by rfl) :
  PE X (.Call (.Attribute o name apos) (e :: es) [] cpos) (tBMF chk r to t):=by
 intro pins s σ H Q I h
 refine wpAny_Call_method_late hbase hfew hline rfl (thn (ho pins s σ H _ I h) fun v s1 ⟨x,H1,I1,r1,ty,q1⟩=>?_)
 obtain⟨h1,h2⟩:=j7i I1 r1 (hchk x H1 ty)
 refine⟨T,id,pa,slot,hty,h1,h2,?_⟩
 have hA:=ha cpos pins s1 σ H1 _ I1 q1
 rw [hs] at hA ⊢
 refine Calls.callWith_builtin (by show (false || (backTo cpos (starEach es X.env)).any (·.1))=false; rw [hplain] <;> rfl) (Calls.evalArgs_plain ?_)
 exact thn hA fun us s2 ⟨vs,H2,I2,r2,q2⟩=>hm pins s2 σ H2 x vs v us Q I2 r1 r2 q2
noncomputable def k3b:V->List V->Hp->VK->Prop:=fun x vs H Q=>match x,vs with
 | .ref l,[y]=>(match H l with
  | some (.lst xs)=>xs.length < sizeLine/\All (fun v H1=>v = .non/\b1u l H H1/\H1 l=some (.lst (xs++[y]))) Q ⟨⟩ ⟨⟩
  | _=>False)
 | _,_=>False
theorem c7o : MtR X "list.append" k3b := MtR.weak (r := i3u) f3r fun x vs H Q h => by
 match x,vs,h with
 | .ref l,[y],h =>
  have h':(match H l with
   | some (.lst xs)=>xs.length < sizeLine/\All (fun v H1=>v = .non/\b1u l H H1/\H1 l=some (.lst (xs++[y]))) Q ⟨⟩ ⟨⟩
   | _=>False):=h
  split at h'
  ·rename_i xs e
   exact⟨l,xs,y,rfl,rfl,e,h'.1,h'.2 _ _ ⟨rfl,b1u.upd,a6s⟩⟩
  ·exact h'.elim
end
noncomputable def g5a{α:Type}(xs:List α)(lo hi:Option Int):List α:=(xs.drop (HT.sIx xs.length 0 lo)).take (HT.sIx xs.length xs.length hi - HT.sIx xs.length 0 lo)
theorem i8n{α β:Type}(f:α->β)(xs:List α)(lo hi:Option Int):g5a (xs.map f) lo hi=(g5a xs lo hi).map f:=by
 unfold g5a
 rw [List.length_map,List.map_take,List.map_drop]
theorem i4a(ns:List Int)(lo hi:Option Int):d7r (ns.map V.int) lo hi=(g5a ns lo hi).map V.int:=i8n V.int ns lo hi
theorem i8o{α:Type}{xs:List α}{lo hi:Option Int}{x:α}(h:x∈g5a xs lo hi):x∈xs:=List.mem_of_mem_drop (List.mem_of_mem_take h)
theorem b2h{α:Type}(xs:List α)(a:Nat):g5a xs (some (a:Int)) none=xs.drop a:=by
 unfold g5a
 rw [HT.h5i,HT.h8j]
 by_cases h:a<=xs.length
 ·rw [Nat.min_eq_left h,List.take_of_length_le (by rw [List.length_drop] <;> exact Nat.le_refl _)]
 ·rw [Nat.min_eq_right (by omega),List.drop_length,List.drop_of_length_le (by omega)]
  simp
theorem f3v{α:Type}(xs:List α)(a:Nat):g5a xs none (some (a:Int))=xs.take a:=by
 unfold g5a
 rw [HT.h5i,HT.h8j,List.drop_zero,Nat.sub_zero]
 by_cases h:a<=xs.length
 ·rw [Nat.min_eq_left h]
 ·rw [Nat.min_eq_right (by omega),List.take_length,List.take_of_length_le (by omega)]
end L2
namespace L2
theorem f6w(F:Nat->St->Hp->Prop):∃ Pv:Nat->St->Hp->Prop,(∀ i σ H,F i σ H->Pv i σ H)/\∀ i σ H,Pv i σ H->F i σ H:=⟨F,fun _ _ _ h=>h,fun _ _ _ h=>h⟩
theorem j8d(F:St->Hp->Prop):∃ Pv:St->Hp->Prop,(∀ σ H,F σ H->Pv σ H)/\∀ σ H,Pv σ H->F σ H:=⟨F,fun _ _ h=>h,fun _ _ h=>h⟩
end L2
namespace L2
open PySem PySem.Spec PyProof.Rows
open PySem.Builtin.Int (intBits)
section
variable {X:Cx}
noncomputable def k3c:List V->Hp->VK->Prop:=fun xs H Q=>match xs with
 | [.ref p]=>(match H p with
  | some (.lst ys)=>∃ ns:List Int,ys=ns.map V.int/\Q (.int ns.sum) H
  | _=>False)
 | _=>False
theorem h2p (hc : X.calm = true) : c6j X (.builtin "sum") k3c := by
 intro pins s σ H xs us Q I r h
 match xs,r,h with
 | [.ref p],r,h =>
  have h':(match H p with
   | some (.lst ys)=>∃ ns:List Int,ys=ns.map V.int/\Q (.int ns.sum) H
   | _=>False):=h
  split at h'
  ·rename_i ys e
   obtain⟨ns,rfl,q⟩:=h'
   obtain⟨u,rfl,ru⟩:=vals1 r
   cases (show u=Value.ref p from ru)
   obtain⟨its,rv,⟨o,n,e1,c1,d1,dd⟩,_⟩:=I.list (SqL.of e)
   have hi:IntsAre its ns:=intsAre_of rv
   obtain⟨xs,hx⟩:=hi.allInts.items
   have hn:=hi.numsOf
   have hl:s.heap.IsList p (intItems xs):=⟨o,e1,c1,n,by rw [<- hx]; exact dd⟩
   have hs:ns=xs.toList.map (·.1):=by
    rw [<- nums_intItems,<- hx]
    exact hn.symm
   refine sum_intListG (I.ok.hd hc) hl fun h' tk t' hk=>⟨.int ns.sum,H,I.kept hk,⟨t',?_⟩,q⟩
   rw [preSum_eq,List.take_of_length_le (by simp),hs]
  ·exact h'.elim
end
def Stop(p:Prop)(_:Tag p):Prop:=p
def k5o(t u:TS):TS:=fun D σ H=>t { D with nx:=fun σ' H'=>Stop (u D σ' H') ⟨⟩ } σ H
def Hs(H:Hp)(fs:List (Addr×HO)):Prop:=(fs.map (·.1)).Nodup/\∀ p∈fs,H p.1=some p.2
theorem Hs.nil{H:Hp}:Hs H []:=⟨List.nodup_nil,fun _ h=>nomatch h⟩
theorem Hs.fresh{H:Hp}{fs:List (Addr×HO)}{a:Addr}(F:Hs H fs)(n:H a=none):a∉fs.map (·.1):=fun h=>by
 obtain⟨p,hp,e⟩:=List.mem_map.mp h
 have:=F.2 p hp
 rw [e,n] at this
 cases this
theorem Hs.drop{H:Hp}{l r:List (Addr×HO)}(F:Hs H (l++r)):Hs H r:=⟨(List.nodup_append.mp (by rw [<- List.map_append]; exact F.1)).2.1,fun p hp=>F.2 p (List.mem_append_right _ hp)⟩
theorem i8p{ns:List Int}{i:Nat}(h:i < ns.length):atI (ns.map V.int) (i:Int)=some (.int (ns.getD i 0)):=by
 refine f6t ?_
 rw [List.getElem?_map,List.getElem?_eq_getElem h,List.getD_eq_getElem?_getD,List.getElem?_eq_getElem h]
 rfl
def k5p(H:Hp)(cs:List Addr)(bs:List (List Int)):Prop:=cs.length=bs.length/\∀ (i:Nat) c b,cs[i]? = some c->bs[i]? = some b->H c=some (.lst (b.map V.int))
theorem k5p.two{H:Hp}{a b:Addr}{x y:List Int}(ha:H a=some (.lst (x.map V.int)))(hb:H b=some (.lst (y.map V.int))):k5p H [a,b] [x,y]:=by
 refine⟨rfl,fun i c d e1 e2=>?_⟩
 match i,e1,e2 with
 | 0,e1,e2=>cases e1; cases e2; exact ha
 | 1,e1,e2=>cases e1; cases e2; exact hb
 | i+2,e1,e2=>simp at e1
def i4b(H:Hp)(xs:List V)(v:V)(H':Hp):Prop:=∃ b,v = .ref b/\H b=none/\Same H H'/\H' b=some (.lst xs)
def c9i(H:Hp)(xs:List V)(v:V)(H':Hp):Prop:=∃ b,v = .ref b/\H b=none/\Same H H'/\H' b=some (.tup xs)
noncomputable def a9v(q:Rat):List V:=[.int q.num,.int (q.den:Nat)]
end L2
namespace L2
open PySem PySem.Spec PyProof.Rows
noncomputable def j3h(o:Obj):Option Value:=match o.data with
 | .fields vs=>vs[2]?
 | _=>none
def Kd(e:Addr)(d:Option Addr×Option Value)(h:Heap):Prop:=∃ o,h.get? e=some o/\o.dict=d.1/\j3h o=d.2
noncomputable def d0q{α:Type}:Sem α->Prop
 | .pure _=>True
 | .raise _=>True
 | .unsupported _=>True
 | .finish _=>True
 | .rule _ k=>d0q (k ())
 | .at _ k=>d0q (k ())
 | .load _ _ k=>∀ o,d0q (k o)
 | .update _ _ f k=>(∀ o:Obj,o.isFreed=false->(f o).isFreed=false/\(f o).dict=o.dict/\j3h (f o)=j3h o)/\d0q (k ())
 | .alloc _ k=>∀ a,d0q (k a)
 | .stack k=>∀ x,d0q (k x)
 | _=>False
theorem d0q.bind{α β:Type}{f:α->Sem β}(hf:∀ a,d0q (f a)):∀ {m:Sem α},d0q m->d0q (m >>= f):=by
 intro m
 induction m with
 | pure a=>intro _; exact hf a
 | raise e=>intro _; exact True.intro
 | unsupported w=>intro _; exact True.intro
 | finish e=>intro _; exact True.intro
 | rule t k ih=>intro h; exact ih () h
 | «at» p k ih => intro h; exact ih () h
 | load a p k ih=>intro h o; exact ih o (h o)
 | update a p g k ih=>intro h; exact⟨h.1,ih () h.2⟩
 | alloc o k ih=>intro h a; exact ih a (h a)
 | stack k ih=>intro h x; exact ih x (h x)
 | _=>intro h; exact False.elim h
theorem Kd.push{e:Addr}{d:Option Addr×Option Value}{h:Heap}(x:Kd e d h)(o:Obj):Kd e d (h.push o) :=
 let ⟨u,a,b⟩:=x; ⟨u,Heap.get?_push_of_some _ a,b⟩
theorem Kd.upd{e a:Addr}{d:Option Addr×Option Value}{h:Heap}{f:Obj->Obj}(x:Kd e d h)(hf:∀ o:Obj,o.isFreed=false->(f o).isFreed=false/\(f o).dict=o.dict/\j3h (f o)=j3h o):Kd e d (h.update a f):=by
 obtain⟨u,q,b⟩:=x
 have y:=hf u (Heap.get?_some_iff.mp q).2
 by_cases hb:a=e
 ·subst hb
  exact⟨_,Heap.get?_update_self f q y.1,y.2.1.trans b.1,y.2.2.trans b.2⟩
 ·exact⟨u,(Heap.get?_update_other h f hb).trans q,b⟩
theorem d0q.wp{α:Type}{M:Model}{Γ:PySem.Ctx}{e:Addr}{d:Option Addr×Option Value}{Q:α->Pos->Shared->Prop}{E:Value->Pos->Shared->Prop}:∀ {t:Sem α} {p:Pos} {s:Shared},d0q t->Sem.wp M Γ t Q E p s->Kd e d s.heap ->
  Sem.wp M Γ t (fun a p s'=>Q a p s'/\Kd e d s'.heap) (fun v p s'=>E v p s'/\Kd e d s'.heap) p s:=by
 intro t
 induction t with
 | pure a=>intro p s _ h k; rw [Sem.wp] at h ⊢; exact⟨h,k⟩
 | raise e=>intro p s _ h k; rw [Sem.wp] at h ⊢; exact⟨h,k⟩
 | unsupported w=>intro p s _ h k; rw [Sem.wp] at h; exact False.elim h
 | finish e=>intro p s _ h k; rw [Sem.wp] at h; exact False.elim h
 | rule t k ih=>intro p s m h q; rw [Sem.wp] at h ⊢; exact ih () m h q
 | «at» p k ih => intro p s m h q; rw [Sem.wp] at h ⊢; exact ih () m h q
 | load a p k ih=>intro p s m h q; rw [Sem.wp] at h ⊢; exact let ⟨o,x,y⟩:=h; ⟨o,x,ih o (m o) y q⟩
 | update a p g k ih=>intro p s m h q; rw [Sem.wp] at h ⊢; exact⟨h.1,ih () m.2 h.2 (q.upd m.1)⟩
 | alloc o k ih=>intro p s m h q; rw [Sem.wp] at h ⊢; exact ih _ (m _) h (q.push o)
 | stack k ih=>intro p s m h q; rw [Sem.wp] at h ⊢; exact ih _ (m _) h q
 | _=>intro p s m; exact False.elim m
theorem d0q.any{α:Type}{M:Model}{A:Around}{e:Addr}{d:Option Addr×Option Value}{Q:α->Shared->Prop}{E:Value->Shared->Prop}{t:Sem α}{s:Shared}(m:d0q t)(h:wpAny M A t Q E s)(k:Kd e d s.heap) :
  wpAny M A t (fun a s'=>Q a s'/\Kd e d s'.heap) (fun v s'=>E v s'/\Kd e d s'.heap) s:=fun Γ p hΓ=>m.wp (h Γ p hΓ) k
theorem d3q{v:Value}{i:Nat}:d0q (field v i):=by
 unfold field fieldsOf
 refine d0q.bind (fun vs=>?_) ?_
 ·split <;> exact True.intro
 ·split
  ·refine d0q.bind (fun o=>?_) (fun o=>True.intro)
   split <;> exact True.intro
  ·exact True.intro
theorem c6l{v x:Value}{i:Nat}(hi:i≠2):d0q (setField v i x):=by
 unfold setField updateField
 split
 ·refine d0q.bind (fun o=>?_) (fun o=>True.intro)
  split
  ·split
   ·refine⟨fun o ho=>?_,True.intro⟩
    obtain⟨c,dd,dt,sl⟩:=o
    cases dt with
    | fields vs=>exact⟨rfl,rfl,Array.getElem?_setIfInBounds_ne hi⟩
    | _=>first | exact⟨rfl,rfl,rfl⟩ | exact⟨ho,rfl,rfl⟩
   ·exact True.intro
  ·exact True.intro
 ·exact True.intro
theorem d2i{e:Value}:d0q (setFlight e none):=by
 unfold setFlight
 refine d0q.bind (fun v=>?_) d3q
 split
 ·exact c6l (by decide)
 ·exact True.intro
theorem g6m:∀ l:List Env,d0q (readyFrames l)
 | []=>True.intro
 | env :: outer=>by
  unfold readyFrames
  split
  ·refine d0q.bind (fun o=>?_) (fun o=>True.intro)
   split
   ·exact True.intro
   ·refine d0q.bind (fun b=>?_) ?_
    ·refine d0q.bind (fun v=>?_) ?_
     ·refine d0q.bind (fun _=>g6m outer) ⟨fun o ho=>?_,True.intro⟩
      obtain⟨c,dd,dt,sl⟩:=o
      cases dt <;> first | exact⟨rfl,rfl,rfl⟩ | exact⟨ho,rfl,rfl⟩
     ·unfold keptBack
      split
      ·split
       ·exact True.intro
       ·unfold underTheClaimsCaller
        exact d0q.bind (m := (do return (← stack).any fun (c, _) => match c with | .builtin "claim.caller" _ => true | _ => false : Sem Bool)) (fun v => by exact True.intro) (d0q.bind (m := stack) (fun v => by exact True.intro) fun _ => True.intro)
      ·exact True.intro
    ·unfold behindIsImport
     split
     ·exact True.intro
     ·split
      ·exact True.intro
      ·exact d0q.bind (fun v=>by exact True.intro) d3q
  ·exact True.intro
theorem g1y{e:Value}{env:Env}:d0q (noteFrame e env):=by
 have rest:∀ (f:Addr) (head:Value),d0q (do setField e 1 (<- EntryCells.newEntry head (<- PySem.frameOf env) .none (rawInt f) .none (<- entryPlaceOf f (head != .none)))):=fun f head=>by
  refine d0q.bind (fun a=>d0q.bind (fun pl=>d0q.bind (fun b=>c6l (by decide)) ?_) ?_) ?_
  ·unfold EntryCells.newEntry newFields newObj
   dsimp only
   generalize (([head,a,.none,rawInt f,.none] : List Value)++(if pl.isEmpty then List.replicate 6 .none else pl)).toArray=vs
   by_cases hz:vs.size > sizeLine+2
   ·rw [if_pos hz]
    exact True.intro
   ·rw [if_neg hz]
    exact fun _=>True.intro
  ·unfold entryPlaceOf
   refine d0q.bind (fun acts=>?_) (fun _=>True.intro)
   split <;> exact True.intro
  ·unfold PySem.frameOf frameEnvs
   refine d0q.bind (fun l=>d0q.bind (fun o=>?_) ?_) (d0q.bind (fun _=>by exact True.intro) fun _=>True.intro)
   ·split <;> exact True.intro
   ·unfold frameObject
    split
    ·exact True.intro
    ·exact d0q.bind (fun _=>by exact True.intro) (g6m _)
 unfold noteFrame
 split
 ·refine d0q.bind (fun head=>?_) d3q
  split
  ·refine d0q.bind (fun v=>?_) d3q
   split
   ·exact True.intro
   ·exact d0q.bind (fun _=>rest _ _) (c6l (by decide))
  ·exact rest _ _
 ·exact True.intro
theorem d7y{env:Env}{e:Value}:d0q (leaving env e):=by
 unfold leaving
 exact d0q.bind (fun _=>d2i) g1y
section
variable {M:Model}{A:Around}{E:Value->Shared->Prop}{s:Shared}{base:Heap}{env:Env}{outer l:List Env}{L e:Addr}{cls a0:Value}{dx:Option Addr×Option Value}{Q:Unit->Shared->Prop}
theorem g1z(hfr:A.frames=some (env :: outer))(hf:env.frame=some L)(hfl:Heap.FlyingW base (env :: outer) e cls a0 s.heap)(kd:Kd e dx s.heap)
  (hQ:∀ h',Heap.HeldW base (env :: outer) e cls a0 L h'->s.heap.UpToSlots h'->Kd e dx h'->Q () { s with heap:=h' }):wpAny M A (noteFrame (.ref e) env) Q E s:=by
 refine wpAny_mono (g1y.any (E:=fun _ _=>False) (wpAny_looks_onW (Q:=fun _ s'=>∃ h',s' = { s with heap:=h' }/\Heap.HeldW base (env :: outer) e cls a0 L h'/\s.heap.UpToSlots h') hfr hf hfl fun h' a b=>⟨h',rfl,a,b⟩) kd) (fun _ s' z=>?_) fun _ _ z=>z.1.elim
 obtain⟨⟨h',rfl,a,b⟩,c⟩:=z
 exact hQ h' a b c
theorem j0z(hh:Heap.HeldW base l e cls a0 L s.heap)(kd:Kd e dx s.heap)(hQ:∀ h',Heap.FlyingW base l e cls a0 h'->s.heap.UpToSlots h'->Kd e dx h'->Q () { s with heap:=h' }):wpAny M A (setFlight (.ref e) none) Q E s:=by
 refine wpAny_mono (d2i.any (E:=fun _ _=>False) (wpAny_landsW (Q:=fun _ s'=>∃ h',s' = { s with heap:=h' }/\Heap.FlyingW base l e cls a0 h'/\s.heap.UpToSlots h') hh fun h' a b=>⟨h',rfl,a,b⟩) kd) (fun _ s' z=>?_) fun _ _ z=>z.1.elim
 obtain⟨⟨h',rfl,a,b⟩,c⟩:=z
 exact hQ h' a b c
theorem j1a(hh:Heap.FlyingW base l e cls a0 s.heap)(kd:Kd e dx s.heap)(hQ:∀ h',Heap.FlyingW base l e cls a0 h'->s.heap.UpToSlots h'->Kd e dx h'->Q () { s with heap:=h' }):wpAny M A (setFlight (.ref e) none) Q E s:=by
 refine wpAny_mono (d2i.any (E:=fun _ _=>False) (lands_againW (Q:=fun _ s'=>∃ h',s' = { s with heap:=h' }/\Heap.FlyingW base l e cls a0 h'/\s.heap.UpToSlots h') hh fun h' a b=>⟨h',rfl,a,b⟩) kd) (fun _ s' z=>?_) fun _ _ z=>z.1.elim
 obtain⟨⟨h',rfl,a,b⟩,c⟩:=z
 exact hQ h' a b c
theorem i0v(hfr:A.frames=some (env :: outer))(hf:env.frame=some L)(hfl:Heap.FlyingW base (env :: outer) e cls a0 s.heap)(kd:Kd e dx s.heap)
  (hQ:∀ h',Heap.FlyingW base outer e cls a0 h'->s.heap.UpToSlots h'->Kd e dx h'->Q () { s with heap:=h' }):wpAny M A (leaving env (.ref e)) Q E s:=by
 refine wpAny_mono (d7y.any (E:=fun _ _=>False) (wpAny_leaves_onW (Q:=fun _ s'=>∃ h',s' = { s with heap:=h' }/\Heap.FlyingW base outer e cls a0 h'/\s.heap.UpToSlots h') hfr hf hfl fun h' a b=>⟨h',rfl,a,b⟩) kd) (fun _ s' z=>?_) fun _ _ z=>z.1.elim
 obtain⟨⟨h',rfl,a,b⟩,c⟩:=z
 exact hQ h' a b c
theorem g8f{oe:Obj}{vs:Array Value}(hfr:A.frames=some (env :: outer))(hf:env.frame=some L)(hl:s.heap.FunFrames base (env :: outer))(he:s.heap.get? e=some oe)(hc:oe.cls=cls)(hkb:base.StaysIn s.heap)(hen:base.get? e=none)
  (hd:oe.data = .fields vs) (h1:vs[1]? = some .none) (h0:vs[0]? = some a0) (hdx:oe.dict=dx.1) (hcx:j3h oe=dx.2)
  (hQ:∀ h',Heap.FlyingW base outer e cls a0 h'->s.heap.UpToSlots h'->Kd e dx h'->Q () { s with heap:=h' }):wpAny M A (leaving env (.ref e)) Q E s:=by
 subst hc
 refine wpAny_mono (d7y.any (e:=e) (d:=dx) (E:=fun _ _=>False) (wpAny_leaving_firstW (Q:=fun _ s'=>∃ h',s' = { s with heap:=h' }/\Heap.LeftW base (env :: outer) e oe.cls a0 s.heap h') hfr hl hf he hkb hen hd h1 h0 fun h' a=>⟨h',rfl,a⟩) ⟨_,he,hdx,hcx⟩) (fun _ s' z=>?_) fun _ _ z=>z.1.elim
 obtain⟨⟨h',rfl,⟨k1,⟨_,_,k2⟩,k3,k4⟩⟩,c⟩:=z
 exact hQ h' ⟨k1,hen,k2,k3⟩ k4 c
end
end L2
namespace L2
open PySem PySem.Spec PyProof.Rows
noncomputable def CXF(st:Bool)(P:Program)(w:World):CXT:=fun outer H s E e s'=>∃ (a:Addr) (C a0:Value) (B:Heap) (H':Hp),e = .ref a/\Heap.FlyingW B outer a C a0 s'.heap/\s'.os=s.os/\AllBare s'.gens /\
 (∀ h',B.StaysIn h'->s'.heap.UpToSlots h'->Un (frs outer) [] H H' s.heap h'/\HOk P w H' h')/\H' a=none/\s.heap.get? a=none/\∃ dx cx,Kd a (dx,cx) s'.heap/\(st=true->cx=some .none)/\E C dx H'
noncomputable abbrev CXE(P:Program)(w:World):CXT:=CXF false P w
theorem c4u.obj{P:Program}{w:World}{H:Hp}{h:Heap}{a:Addr}{o:HO}(x:c4u P w H h a o):∃ u,h.get? a=some u:=by
 cases o with
 | lst xs=>obtain⟨_,_,_,_,e⟩:=x; exact⟨_,e⟩
 | tup xs=>obtain⟨_,_,_,ob,e,_⟩:=x; exact⟨_,e⟩
 | dK kvs=>obtain⟨_,_,_,_,o,_,_,e,_⟩:=x; exact⟨_,e⟩
 | dT kvs=>obtain⟨_,_,_,_,o,_,_,e,_⟩:=x; exact⟨_,e⟩
 | set S n=>obtain⟨o,_,_,_,e,_⟩:=x; exact⟨_,e⟩
 | ins C dx fs=>obtain⟨_,_,_,e,_⟩:=x; exact⟨_,e⟩
 | own y=>obtain⟨_,e⟩:=x; exact⟨_,e⟩
 | xd fs=>obtain⟨_,⟨_,_,_,e,_⟩,_⟩:=x; exact⟨_,e⟩
 | rng lo hi=>obtain⟨_,_,_,e⟩:=x; exact⟨_,e⟩
 | frz ob u=>obtain⟨e,_⟩:=x; exact⟨_,e⟩
 | tbl ps=>exact⟨_,(show h.get? a=some _ from x)⟩
 | met f y=>exact⟨_,(show h.get? a=some _ from x)⟩
 | ext φ=>obtain⟨_,⟨_,e⟩,_⟩:=x; exact⟨_,e⟩
section
variable {X:Cx}{pins:List (Addr×Obj)}{σ:St}{H:Hp}{s:Shared}
theorem i4c{e:Addr}{cls:Value}{args:List Value}{h1 h':Heap}(I:Inv X pins σ H s)(hx:Heap.MadeExcOf s.heap h1 e cls args)(hB:(PySem.W.hideAll s.heap (frs X.stack)).StaysIn h')(hU:h1.UpToSlots h') :
  Un (frs X.stack) [] H H s.heap h'/\HOk X.prog X.w H h':=by
 have kb:∀ b o,s.heap.get? b=some o->b∉frs X.stack->h'.get? b=some o:=fun b o q n=>hB b o (PySem.W.hideAll_get _ q n)
 have kf:∀ b o,s.heap.get? b=some o->b∈frs X.stack->∃ sl,h'.get? b=some { o with slots:=sl }:=fun b o q hb=>by
  obtain⟨_,o',q',nf⟩:=I.stack.mem hb
  rw [q] at q'
  cases q'
  exact hU b o (hx.keeps b o q) nf
 refine⟨⟨fun b o q _ hb _=>kb b o q hb,fun b o q _ hb _=>kf b o q hb,fun _ _ _ n _=>n,fun b o q _=>?_,fun _ _ q=>q,fun _ _ _ q=>q,fun _ ps q=>⟨#[],by rw [q]; simp⟩⟩,fun a o e=>?_⟩
 ·by_cases hb:b∈frs X.stack
  ·obtain⟨sl,z⟩:=kf b o q hb
   exact⟨_,z⟩
  ·exact⟨o,kb b o q hb⟩
 ·refine (I.hok a o e).stay (fun b u hb q=>kb b u q fun z=>?_) (fun _ q=>q) fun _ _ q=>q
  have hn:=I.g7w b z
  rcases hb with r | r
  ·rw [r,e] at hn
   cases hn
  ·rw [hn] at r
   cases r
theorem h2q{e:Addr}{cls:Value}{args:List Value}{h1:Heap}(I:Inv X pins σ H s)(hx:Heap.MadeExcOf s.heap h1 e cls args):H e=none:=by
 cases q:H e with
 | none=>rfl
 | some o =>
  obtain⟨u,z⟩:=(I.hok e o q).obj
  rw [hx.new] at z
  cases z
theorem Inv.caught{H':Hp}{s':Shared}{h':Heap}{t':Nat}(I:Inv X pins σ H s)(os:s'.os=s.os)(bare:AllBare s'.gens)(u:Un (frs X.stack) [] H H' s.heap h')(hok:HOk X.prog X.w H' h'):Inv X pins σ H' { s' with heap:=h',toks:=t' }:=by
 obtain⟨hh,g,d,t,os'⟩:=s'
 obtain rfl:os'=s.os:=os
 exact Inv.call (s:=s) (h':=h') (g':=g) (d':=d) (t':=t') (ch:=[]) I u hok bare (fun b z=>absurd z (by simp))
theorem Inv.older{a:Addr}(I:Inv X pins σ H s)(hex:X.ex = [])(h:s.heap.get? a=none):X.s₀.heap.get? a=none:=by
 cases q:X.s₀.heap.get? a with
 | none=>rfl
 | some o =>
  obtain⟨o',z⟩:=I.base.there a o q (by rw [hex]; simp)
  rw [h] at z
  cases z
theorem Inv.track{a:Addr}{o:HO}(I:Inv X pins σ H s)(h1:X.s₀.heap.get? a=none)(h2:a≠X.env.locals)(h3:∀ x c,X.env.cells.lookup x=some c->c≠a)(h4:∀ p∈X.pn++pins,p.1≠a)(hH:H a=none)
  (new:c4u X.prog X.w (upd H a o) s.heap a o):Inv X pins σ (upd H a o) s:=by
 refine⟨I.ok,I.os,I.bare,⟨I.base.keep,I.base.slot,fun b u q n hx=>?_,I.base.there,fun b xs q=>?_,fun b u xs q=>?_,fun b ps q=>?_⟩,I.loc,I.cell,?_,fun x c e=>?_,fun p hp=>?_,fun b u e=>?_,I.len⟩
 ·rw [a6l (fun z=>by rw [z,h1] at q; cases q)]
  exact I.base.free b u q n hx
 ·have z:=I.base.tups b xs q
  rw [a6l (a7u z hH)]
  exact z
 ·have z:=I.base.h1o b u xs q
  rw [a6l (a7u z hH)]
  exact z
 ·obtain⟨m,z⟩:=I.base.h1s b ps q
  exact⟨m,by rw [a6l (a7u z hH)]; exact z⟩
 ·rw [a6l h2.symm]
  exact I.free
 ·rw [a6l (h3 x c e)]
  exact I.f1o x c e
 ·obtain⟨e,n,ne,nf,d⟩:=I.pin p hp
  exact⟨e,by rw [a6l (h4 p hp)]; exact n,ne,nf,d⟩
 ·by_cases hb:b=a
  ·subst hb
   rw [a6s] at e
   cases e
   exact new
  ·rw [a6l hb] at e
   exact (I.hok b u e).stay (fun _ _ _ q=>q) (fun c q=>by rw [a6l (a7u q hH)]; exact q) fun c xs q=>by rw [a6l (a7u q hH)]; exact q
def j1b(X:Cx)(E:XK):Prop:=∀ (pins:List (Addr×Obj)) (σ:St) (H:Hp) (s:Shared) (e C:Addr) (args:List Value) (h':Heap),Inv X pins σ H s->Heap.MadeExcOf s.heap h' e (.ref C) args->E (.ref C) none H->X.xe (.ref e) { s with heap:=h' }
end
section
variable {P:Program}{w:World}{K:PySem.W.Frag}{mg:Str->Option Value}{base:Heap}{N:List Str}{qual:Str}{scope:Scope}{f:Addr}{cd:Value}{A:Around}{outer:List Env}{s:Shared}{H:Hp}{E:XK}
theorem a8y{st:Bool}:j1b (i2v (CXF st P w) P w K mg base N qual scope f cd A outer s H E) E:=by
 intro pins σ H1 s1 e C args h1 I hx he
 show wpAny (model P w) (A.deeper (envOfC qual scope s.heap.objs.size f cd)) (leaving (envOfC qual scope s.heap.objs.size f cd) (.ref e)) (fun _ s''=>CXF st P w outer H s E (.ref e) s'') (fun e' s''=>CXF st P w outer H s E e' s'') { s1 with heap:=h1 }
 have hin:∀ env∈(envOfC qual scope s.heap.objs.size f cd :: outer),∀ b,env.frame=some b->b∈frs (envOfC qual scope s.heap.objs.size f cd :: outer):=fun env he b hb=>List.mem_filterMap.mpr ⟨env,he,hb⟩
 obtain⟨t,he0,htn,ht⟩:=hx.there
 have hkb:(PySem.W.hideAll s1.heap (frs (envOfC qual scope s.heap.objs.size f cd :: outer))).StaysIn s1.heap:=fun b o q=>PySem.W.of_hideAll _ q
 have hno:(PySem.W.hideAll s1.heap (frs (envOfC qual scope s.heap.objs.size f cd :: outer))).get? e=none:=by
  cases q:(PySem.W.hideAll s1.heap (frs (envOfC qual scope s.heap.objs.size f cd :: outer))).get? e with
  | none=>rfl
  | some o=>have z:=hkb e o q; rw [hx.new] at z; cases z
 refine g8f (base:=PySem.W.hideAll s1.heap (frs (envOfC qual scope s.heap.objs.size f cd :: outer))) I.ok.frames rfl ((PySem.W.funFrames_hide I.stack hin).of_keeps fun b o hb _=>⟨o,hx.keeps b o hb,rfl⟩) he0 rfl (fun b o hb=>hx.keeps b o (hkb b o hb)) hno rfl rfl rfl (dx:=(none,some .none)) rfl rfl fun h2 fl u kd=>?_
 refine⟨e,.ref C,.ref t,_,H1,rfl,fl,I.os,I.bare,fun h3 b3 u3=>?_,h2q I hx,I.older rfl hx.new,none,some .none,kd,fun _=>rfl,he⟩
 have z:=i4c I hx b3 (u.trans u3)
 exact⟨(I.caught (s':=s1) (t':=0) rfl I.bare z.1 z.2).base,z.2⟩
theorem a6o:Passes (CXE P w) (i2v (CXE P w) P w K mg base N qual scope f cd A outer s H E) E:=by
 intro pins σ H1 s1 e s' I h
 obtain⟨a,C,a0,B,H',rfl,fl,os,bare,un,hn,nw,dx,cx,kd,hcx,he⟩:=h
 show wpAny (model P w) (A.deeper (envOfC qual scope s.heap.objs.size f cd)) (leaving (envOfC qual scope s.heap.objs.size f cd) (.ref a)) (fun _ s''=>CXE P w outer H s E (.ref a) s'') (fun e' s''=>CXE P w outer H s E e' s'') s'
 refine i0v I.ok.frames rfl fl kd fun h2 fl2 u2 kd2=>?_
 refine⟨a,C,a0,B,H',rfl,fl2,os.trans I.os,bare,fun h3 b3 u3=>?_,hn,I.older rfl nw,dx,cx,kd2,hcx,he⟩
 have z:=un h3 b3 (u2.trans u3)
 exact⟨(I.caught (s':=s') (t':=0) os bare z.1 z.2).base,z.2⟩
theorem Fun.okX{x:Str}{st:Stmt}{fd:FuncData}{ps:List Str}{k:Nat}{sp:Sp}(F:Fun K x qual st f fd)(S:a0s N ps (a0l st))(len:∀ vs H Q E,sp vs H Q E->vs.length=ps.length)
  (hbody:∀ (cdv:Value) (A:Around) (outer:List Env) (s:Shared) (H:Hp) (vs:List V) (Q:VK) (E:XK),a2p k (A.deeper (envOfC qual (a0l st) s.heap.objs.size f cdv))->sp vs H Q E ->
   ∃ t,PSs (i2v (CXE P w) P w K mg base N qual (a0l st) f cdv A outer s H E) (f2g st) t/\t { nx:=fun _ H'=>Q .non H',rt:=Q } (start N vs) H):a1h P w K mg base (CXE P w) (k+1) f fd ps sp:=by
 obtain⟨oc,od,kV,doc,pm,an,cdv,ct,osl,rfl,lk,hcd⟩:=F.ex
 exact j2x lk hcd S len fun A outer s H vs Q E hr hsp=>hbody cdv A outer s H vs Q E hr hsp
end
theorem a1h.or{P:Program}{w:World}{K:PySem.W.Frag}{mg:Str->Option Value}{base:Heap}{k:Nat}{f:Addr}{fd:FuncData}{ps:List Str}{sp sp':Sp}(F:a1h P w K mg base CX0 k f fd ps sp)(G:a1h P w K mg base (CXE P w) k f fd ps sp') :
  a1h P w K mg base (CXE P w) k f fd ps (fun vs H Q E=>sp vs H Q E\/sp' vs H Q E):=by
 refine⟨fun vs H Q E h=>h.elim (F.len vs H Q E) (G.len vs H Q E),fun A outer s H args us vs Q E hr e0 hb hv h=>?_⟩
 rcases h with h | h
 ·refine codeAny_mono (F.run A outer s H args us vs Q E hr e0 hb hv h) fun r s' q=>?_
  cases r with
  | error e=>exact False.elim q
  | ok fl=>cases fl <;> exact q
 ·exact G.run A outer s H args us vs Q E hr e0 hb hv h
abbrev vE : List Value := [.type "ValueError", .type "Exception", .type "BaseException", .type "object"]
structure Exc(K:PySem.W.Frag)(C:Addr):Prop where
 ok : PySem.W.excIn K C vE "ValueError.__new__" = true
theorem i4d{K:PySem.W.Frag}{h:Heap}{C:Addr}{bmB:List Value}{newId:String}(X:K.In h)(q:PySem.W.excIn K C bmB newId=true) :
  ∃ bm N nm qn bs hdct sn sub ab col dd k0 k1 k2 k3 k5 mN, h.get? C = some (excClassObj nm qn C N bs bm hdct sn sub ab col dd k0 k1 k2 k3 k5 newId) ∧ h.Ns N mN ∧ mN "__init__" = none ∧ OwnTail h bmB bm := by
 unfold PySem.W.excIn at q
 split at q
 ·rename_i dd cd sl ho
  split at q
  ·rename_i C' bm k0 k1 k2 k3 n k5 hm hs
   simp only [Bool.and_eq_true,beq_iff_eq,Bool.not_eq_true'] at q
   obtain⟨⟨⟨⟨⟨q1,q2⟩,hdel⟩,ht⟩,hok⟩,hni⟩:=q
   subst q1 q2
   obtain⟨nm,bs,mro,ns,qn,hd,sn,sub,ab,col,del⟩:=cd
   dsimp only at hm hdel hok hni
   subst hm hdel
   obtain⟨l⟩:=sl
   have hs':l = [k0,k1,k2,k3,some (.builtin n),k5]:=hs
   subst hs'
   exact⟨bm,ns,nm,qn,bs,hd,sn,sub,ab,col,dd,k0,k1,k2,k3,k5,_,X _ _ ho,.of_isNs (PySem.W.isNs_of_in X hok),PySem.W.nsMap_none_of_in X hok hni,PySem.W.tail_of_in X ht⟩
  ·cases q
 ·cases q
section
variable {X:Cx}{e₀:Expr}{rest:List Expr}{t:TA}{x:Str}{C:Addr}{E:XK}{np cpos pos:Pos}
def j8e(C:Addr)(E:XK)(t:TA):TS:=fun _ σ H=>t σ H fun vs H1=>vs.length<=sizeLine/\E (.ref C) none H1
theorem a8z(O:Exc X.K C)(hm:X.mg x=some (.ref C))(hT:j1b X E)(hc:X.calm=true)(hg:Gl X x)(ha:PA X (e₀ :: rest) t)
  (he : starEach (e₀ :: rest) X.env = (false, eval e₀ X.env) :: starEach rest X.env := by rfl) (hplain : (backTo cpos (starEach rest X.env)).any (·.1) = false := by rfl) (hd : (x == ("__debug__" : Str)) = false := by decide) :
  PS X (.Raise (some (.Call (.Name x np) (e₀ :: rest) [] cpos)) none pos) (j8e C E t):=by
 intro pins s σ H D I h
 obtain⟨bm,N,nm,qn,bs,hdct,sn,sub,ab,col,dd,k0,k1,k2,k3,k5,mN,hC,hN,hni,T⟩:=i4d (h:=X.base) I.ok.mod.kin O.ok
 refine wpAny_Raise_call_subT (C:=C) (nm:=nm) (q:=qn) (N:=N) (bs:=bs) (bm:=bm) (hdct:=hdct) (sn:=sn) (sub:=sub) (ab:=ab) (col:=col) (dd:=dd) (k0:=k0) (k1:=k1) (k2:=k2) (k3:=k3) (k5:=k5)
  PySem.F.excBase_ValueError (mN:=mN) (T.hasType PySem.F.excBase_ValueError.hasBase) (I.ok.hd hc) (by rw [he]; show (false || (backTo cpos (starEach rest X.env)).any (·.1))=false; rw [hplain]; rfl) hni (d2h I hg hm ⟨rfl,?_⟩ hd)
 have hA:=ha cpos pins s σ H _ I h
 rw [he] at hA ⊢
 refine Calls.evalArgs_plain (wpAny_mono hA (fun us s2 h2=>?_) fun _ _ y=>y)
 obtain⟨vs,H1,I1,r,hl,hE⟩:=h2
 refine⟨rfl,?_,I1.bk _ _ hC,hN.keeps I1.bk,T.keeps I1.bk,fun h' e hx=>hT pins σ H1 s2 e C _ h' I1 hx hE⟩
 show us.length<=sizeLine
 rw [<- r.length]
 exact hl
end
structure f6r(K:PySem.W.Frag)(C:Addr):Prop where
 ga : PySem.W.findIn K (.ref C) "__getattribute__" = some (some (.builtin "BaseException.__getattribute__"))
 cl : PySem.W.findIn K (.ref C) "__class__" = some (some (.builtin "object.__class__"))
 ng : PySem.W.findIn K (.ref C) "__getattr__" = some none
 so : PySem.W.subIn K (.ref C) (.type "object") = some true
 sb : PySem.W.subIn K (.ref C) (.type "BaseException") = some true
 ty : PySem.W.typeIn K (.ref C) = some (.type "type")
 ic:PySem.W.isClsIn K C=true
 ss:PySem.W.subIn K (.ref C) (.ref C)=some true
theorem a7q{K:PySem.W.Frag}{C D:Addr}{b:Bool}(h:PySem.W.subIn K (.ref C) (.ref D)=some b)(c:f6r K C)(d:f6r K D):PySem.W.kitOne K (.ref C) (.ref D)=some b:=by
 unfold PySem.W.kitOne
 by_cases e:(Value.ref C == Value.ref D)=true
 ·rw [if_pos e]
  have z:C=D:=Value.ref.inj (beq_iff_eq.mp e)
  subst z
  rw [<- h,c.ss]
 ·rw [if_neg e]
  unfold PySem.W.kitCls
  have z : ((PySem.W.clsIn K D).isSome && PySem.W.typeIn K (.ref D) == some (.type "type")) = true := by
   rw [d.ty,show (PySem.W.clsIn K D).isSome=true from d.ic]
   rfl
  dsimp only
  rw [if_pos z]
  exact h
theorem b9i{K:PySem.W.Frag}{D:Addr}{n:String}{b:Bool}(h:PySem.W.subIn K (.type n) (.ref D)=some b)(d:f6r K D):PySem.W.kitOne K (.type n) (.ref D)=some b:=by
 unfold PySem.W.kitOne
 rw [if_neg (by simp)]
 unfold PySem.W.kitCls
 have z : ((PySem.W.clsIn K D).isSome && PySem.W.typeIn K (.ref D) == some (.type "type")) = true := by
  rw [d.ty,show (PySem.W.clsIn K D).isSome=true from d.ic]
  rfl
 dsimp only
 rw [if_pos z]
 exact h
theorem h8k{K:PySem.W.Frag}{C:Addr}{n:String}{b:Bool}(h:PySem.W.subIn K (.ref C) (.type n)=some b)(hm:PySem.W.kitMeta n=true):PySem.W.kitOne K (.ref C) (.type n)=some b:=by
 unfold PySem.W.kitOne
 rw [if_neg (by simp)]
 unfold PySem.W.kitCls
 dsimp only
 rw [if_pos hm]
 exact h
theorem h2r : PySem.W.kitMeta "ValueError" = true := by kernel_rfl
section
variable {prog:Program}{w:World}{A:Around}{E:Value->Shared->Prop}{h:Heap}{g:Array GenState}{d:Drawn}{t:Nat}{os:OsState}{a C:Addr}{o:Obj}{K:PySem.W.Frag}
theorem j8f{R:Result->Shared->Prop}(X:K.In h)(Z:f6r K C)(hx:h.get? a=some o)(hc:o.cls = .ref C)(hq:R (.ok (.ret (.ref C))) ⟨h,g,d,t,os⟩) :
  codeAny (model prog w) A (.call (.builtin "getset_descriptor.__get__") ⟨[.builtin "object.__class__", .ref a, .ref C], []⟩) R ⟨h, g, d, t, os⟩ := by
 have hT5 : (⟨h, g, d, t, os⟩ : Shared).TypeIs (.builtin "object.__class__") "getset_descriptor" := F.typeOf_object_class
 have hs : PySem.W.subIn K (.ref C) (.type (".".intercalate ("object.__class__".cutAt '.').dropLast)) = some true := by rw [F.owner_object_class]; exact Z.so
 refine codeAny_call_builtin F.slot_gs_get.plain F.entry_gs_get (F.slot_gs_get.check _ _ _ _ _ _ _ _ hT5 (F.args_gs_get _ _ _) ?_)
 repeat (any_goals (first | assumption | (with_reducible refine wpAny_loadPart_at hx ?_; rw [hc]) | with_reducible refine PySem.W.Looks.here (PySem.W.looks_subIn X hs) ?_ | wp_step))
 refine⟨Code.quiet_builtin _ (by decide +kernel),codeAny_builtin F.entry_object_class ?_⟩
 repeat (any_goals (first | assumption | (with_reducible refine wpAny_loadPart_at hx ?_; rw [hc]) | wp_step))
theorem i8q{M:Model}{nameV:Value}{Q:Unit->Shared->Prop}(X:K.In h)(Z:f6r K C)(hx:h.get? a=some o)(hc:o.cls = .ref C)(hq:Q () ⟨h,g,d,t,os⟩) :
  wpAny M A (checkBuiltinCall "BaseException.__getattribute__" ⟨[.ref a, nameV], []⟩) Q E ⟨h, g, d, t, os⟩ := by
 have hk : builtinKind "BaseException.__getattribute__" = some .slot := by decide +kernel
 have hsplit : splitId "BaseException.__getattribute__" = some ("BaseException", "__getattribute__") := by decide +kernel
 have ha:=F.args_bexc_ga (.ref a) nameV
 simp only [checkBuiltinCall,hk,hsplit]
 refine wpAny_bind ?_
 ·unfold isInstance
  repeat (first | (with_reducible refine wpAny_loadPart_at hx ?_; rw [hc]) | with_reducible refine PySem.W.Looks.here (PySem.W.looks_subIn X Z.sb) ?_ | wp_step)
  exact hq
theorem i8r{tk:Tok}{Q:Fin->Shared->Prop}(X:K.In h)(Z:f6r K C)(hx:h.get? a=some o)(hc:o.cls = .ref C)(hq:Q (.done (.ret (.ref C))) ⟨h,g,d,t,os⟩) :
  wpAny (model prog w) A (Builtin.«object.__getattribute__» ⟨[.ref a, .str "__class__" tk], []⟩) Q E ⟨h, g, d, t, os⟩ := by
 have hT5 : (⟨h, g, d, t, os⟩ : Shared).TypeIs (.builtin "object.__class__") "getset_descriptor" := F.typeOf_object_class
 have f5:=F.typeOf_object_class
 have f6:=F.slot_gs_get.lookup
 have f7:=F.slot_gs_set.lookup
 repeat (any_goals (first | assumption | (with_reducible refine wpAny_loadPart_at hx ?_; rw [hc]) | with_reducible refine PySem.W.Looks.here (PySem.W.looks_findIn X Z.cl) ?_ | wp_step))
 refine j8f X Z hx hc ?_
 repeat (any_goals (first | assumption | wp_step))
theorem k3d{tk:Tok}{Q:Value->Shared->Prop}(X:K.In h)(Z:f6r K C)(hx:h.get? a=some o)(hc:o.cls = .ref C)(hq:Q (.ref C) ⟨h,g,d,t,os⟩) :
  wpAny (model prog w) A (getAttrBy (.ref a) (.str "__class__" tk) false) Q E ⟨h, g, d, t, os⟩ := by
 have f3:=F.attrBase_ValueError.ga.bind (.ref a)
 have hx2 : (Value.builtin "BaseException.__getattribute__" == Value.builtin "object.__getattribute__") = false := by decide +kernel
 have hx1 : (onTheHeap (Value.ref C) && Value.builtin "BaseException.__getattribute__" == Value.builtin "object.__getattribute__") = false := by rw [hx2]; rfl
 repeat (any_goals (first | assumption | (with_reducible refine wpAny_loadPart_at hx ?_; rw [hc]) | with_reducible refine PySem.W.Looks.here (PySem.W.looks_findIn X Z.ga) ?_ | with_reducible refine PySem.W.Looks.here (PySem.W.looks_findIn X Z.ng) ?_ | wp_step))
 refine codeAny_call_builtin F.attrBase_ValueError.ga.plain F.entry_bexc_ga (i8q X Z hx hc (i8r X Z hx hc ?_))
 repeat (any_goals (first | assumption | wp_step))
theorem j3i{Q:Option Value->Shared->Prop}(X:K.In h)(Z:f6r K C)(hx:h.get? a=some o)(hc:o.cls = .ref C)(hq:Q (some (.ref C)) ⟨h,g,d,t+1,os⟩) :
  wpAny (model prog w) A (getAttr? (.ref a) "__class__") Q E ⟨h, g, d, t, os⟩ := by
 unfold getAttr? getAttrBy?
 repeat (any_goals (first | assumption | with_reducible apply k3d X Z hx hc | wp_step))
theorem i8s(Z:f6r K C):PySem.W.KitX K (.ref a) (.ref C) (fun h=>∃ o,h.get? a=some o/\o.cls = .ref C) where
 ty:=fun M h X p=>by
  obtain⟨o,e,c⟩:=p
  intro A Q E s k q
  obtain⟨hp,g,d,t,os⟩:=s
  have hx:hp.get? a=some o:=k _ _ e
  repeat (any_goals (first | assumption | (with_reducible refine wpAny_loadPart_at hx ?_; rw [c]) | wp_step))
 it:=fun M h X _=>by
  have z:=Z.ic
  unfold PySem.W.isClsIn PySem.W.clsIn at z
  split at z
  ·rename_i c' d' cd' sl' ho
   intro A' Q' E' s' k q
   unfold isType loadHead
   exact wpAny_bind (wpAny_loadPart (k _ _ (X _ _ ho)) (wpAny_pure q))
  ·cases z
 ne:=fun h tp dd its n sl X htp=>by
  refine Bool.eq_false_iff.mpr fun q=>?_
  have e:C=tp:=Value.ref.inj (beq_iff_eq.mp q)
  subst e
  have z:=Z.ic
  unfold PySem.W.isClsIn PySem.W.clsIn at z
  split at z
  ·rename_i c' d' cd' sl' ho
   have y:=(X _ _ ho).symm.trans htp
   cases y
  ·cases z
 ca:=fun {prog w A E Q s} X p k=>by
  obtain⟨o,e,c⟩:=p
  obtain⟨hp,g,d,t,os⟩:=s
  exact j3i X Z e c k
end
noncomputable def j1c(a:Addr)(C:Value):HO:=.ext fun h=>∃ o,h.get? a=some o/\o.cls=C
noncomputable def excD(a:Addr)(C:Value)(d:Addr):HO:=.ext fun h=>∃ o,h.get? a=some o/\o.cls=C/\o.dict=some d/\∃ vs,o.data = .fields vs
noncomputable def k3e(a:Addr)(C:Value):Option Addr->HO
 | none=>j1c a C
 | some d=>excD a C d
section
variable {X:Cx}
noncomputable def k3f(K:PySem.W.Frag):List V->Hp->VK->Prop:=fun xs H Q=>match xs with
 | [.non, .ref D] => (∃ b, PySem.W.kitOne K (.type "NoneType") (.ref D) = some b ∧ Q (.bl b) H)
 | [.ref a,.ref D]=>∃ C b,H a=some (j1c a (.ref C))/\f6r K C/\PySem.W.kitOne K (.ref C) (.ref D)=some b/\Q (.bl b) H
 | [.ref a,.ty n]=>∃ C b,H a=some (j1c a (.ref C))/\f6r K C/\PySem.W.kitOne K (.ref C) (.type n)=some b/\Q (.bl b) H
 | [.non, .ty n] => (∃ b, PySem.W.kitOne K (.type "NoneType") (.type n) = some b ∧ Q (.bl b) H)
 | _=>False
theorem isx{K:PySem.W.Frag}{H:Hp}{e C D:Addr}{b:Bool}{Q:VK}(h:H e=some (j1c e (.ref C)))(q:f6r K C)(k:PySem.W.kitOne K (.ref C) (.ref D)=some b)(hq:Q (.bl b) H):k3f K [.ref e,.ref D] H Q:=⟨C,b,h,q,k,hq⟩
theorem isxT{K:PySem.W.Frag}{H:Hp}{e C:Addr}{n:String}{b:Bool}{Q:VK}(h:H e=some (j1c e (.ref C)))(q:f6r K C)(k:PySem.W.kitOne K (.ref C) (.type n)=some b)(hq:Q (.bl b) H):k3f K [.ref e,.ty n] H Q:=⟨C,b,h,q,k,hq⟩
theorem i4e{pins:List (Addr×Obj)}{σ:St}{H:Hp}{s:Shared}{a C:Addr}{c:Value}{b:Bool}{A:Around}{E:Value->Shared->Prop}{Q:Value->Shared->Prop}(I:Inv X pins σ H s)(ha:H a=some (j1c a (.ref C)))(Z:f6r X.K C)(e:PySem.W.kitOne X.K (.ref C) c=some b)
  (h : ∀ tk, Q (.bool b) { s with toks := tk }) : wpAny (model X.prog X.w) A (call (.builtin "isinstance") [.ref a, c]) Q E s := by
 obtain⟨p,_,_⟩:=(show c4u X.prog X.w H s.heap a (j1c a (.ref C)) from I.hok a _ ha)
 exact PySem.W.kia_one (i8s Z) I.kIn p e (fun z=>nomatch z) h
theorem b9j : c6j X (.builtin "isinstance") (k3f X.K) := by
 intro pins s σ H xs us Q I r h
 match xs,r,h with
 | [.non,.ref D],r,⟨b,e,q⟩ =>
  obtain⟨u,v,rfl,r1,r2⟩:=vals2 r
  cases (show v=Value.ref D from r2)
  exact g1r I r1 .non e fun tk=>⟨.bl b,H,I.tok tk,rfl,q⟩
 | [.non,.ty n],r,⟨b,e,q⟩ =>
  obtain⟨u,v,rfl,r1,r2⟩:=vals2 r
  cases (show v=Value.type n from r2)
  exact g1r I r1 .non e fun tk=>⟨.bl b,H,I.tok tk,rfl,q⟩
 | [.ref a,.ref D],r,⟨C,b,ha,Z,e,q⟩ =>
  obtain⟨u,v,rfl,r1,r2⟩:=vals2 r
  cases (show v=Value.ref D from r2)
  cases (show u=Value.ref a from r1)
  exact i4e I ha Z e fun tk=>⟨.bl b,H,I.tok tk,rfl,q⟩
 | [.ref a,.ty n],r,⟨C,b,ha,Z,e,q⟩ =>
  obtain⟨u,v,rfl,r1,r2⟩:=vals2 r
  cases (show v=Value.type n from r2)
  cases (show u=Value.ref a from r1)
  exact i4e I ha Z e fun tk=>⟨.bl b,H,I.tok tk,rfl,q⟩
end
def XPo(X:Cx)(pins:List (Addr×Obj))(σ:St)(E:XK)(e:Value)(s':Shared):Prop:=∃ H1 s1,Inv X pins σ H1 s1/\CXE X.prog X.w X.stack H1 s1 E e s'
def PEX(X:Cx)(e:Expr)(t:TE)(E:XK):Prop :=
 ∀ (pins:List (Addr×Obj)) (s:Shared) (σ:St) (H:Hp) (Q:VK),Inv X pins σ H s->t σ H Q->wpAny (model X.prog X.w) X.A (eval e X.env) (EP X pins σ Q) (XPo X pins σ E) s
def PSX(X:Cx)(st:Stmt)(t:TS)(E:XK):Prop :=
 ∀ (pins:List (Addr×Obj)) (s:Shared) (σ:St) (H:Hp) (D:Ends),Inv X pins σ H s->t D σ H->wpAny (model X.prog X.w) X.A (exec st X.env) (SP X pins D) (XPo X pins σ E) s
section
variable {X:Cx}{k:Nat}{f C:Addr}{fd:FuncData}{ps:List Str}{sp:Sp}{dvs:List V}{ds:List Value}{E:XK}{x m:Str}{p pos apos:Pos}{e o:Expr}{es:List Expr}{ta:TE}{t:TA}
theorem j3j{pins:List (Addr×Obj)}{σ:St}{H:Hp}{s:Shared}{Q:VK}{us:List Value}{vs:List V}(F:a1h X.prog X.w X.K X.mg X.base (CXE X.prog X.w) k f fd ps sp)(hr:a2p k X.A)(hb:Binds X.K fd ps ds)(hd:Vals dvs ds)
  (I:Inv X pins σ H s) (r:Vals vs us) (h:sp (vs++dvs) H Q E):wpAny (model X.prog X.w) X.A (call (.ref f) us) (EP X pins σ Q) (XPo X pins σ E) s:=by
 have r2:Vals (vs++dvs) (us++ds):=r.append hd
 have hl:(us++ds).length=ps.length:=by rw [<- r2.length]; exact F.len _ _ _ _ h
 refine wpAny_call (codeAny_mono (F.run X.A X.stack s H ⟨us,[]⟩ (us++ds) (vs++dvs) Q E hr I.env0 (hb s us I.kIn hl) r2 h) fun r s' hq=>?_)
 cases r with
 | error e=>exact⟨H,s,I,hq⟩
 | ok fl =>
  cases fl with
  | ret u=>exact I.after hq
  | next=>exact False.elim hq
  | brk=>exact False.elim hq
  | cont=>exact False.elim hq
theorem h8l(F:a1h X.prog X.w X.K X.mg X.base (CXE X.prog X.w) k f fd ps sp)(hr:a2p k X.A)(hg:Gl X x)(hm:X.mg x=some (.ref f))(hk:PySem.W.keepIn X.K (.ref f)=true)(hb:Binds X.K fd ps ds)(hd:Vals dvs ds)
  (ha : PA X.nox (e :: es) t) (hdb : (x == ("__debug__" : Str)) = false := by decide) (he : starEach (e :: es) X.env = (false, eval e X.env) :: starEach es X.env := by rfl) (hpl : (backTo pos (starEach es X.env)).any (·.1) = false := by rfl) :
  PEX X (.Call (.Name x p) (e :: es) [] pos) (i7y sp dvs E t) E:=by
 intro pins s σ H Q I h
 refine wpAny_Call_Name_kw (d2h I hg hm ?_ hdb)
 refine PySem.W.callWith_K (h₀:=X.base) I.ok.mod.kin hk (wpAny_mono (ha pos pins s σ H _ (I.wish _) h) (fun us s1 ⟨vs,H1,I1,r,q⟩=>⟨I1.c0p.kIn,?_⟩) fun _ _ z=>False.elim z) he hpl
 exact j3j F hr hb hd I1.c0p r q
theorem i8t{te:TE}(he:PEX X e te E)(hs:swapsWith e none pos.line X.env=pure false:=by rfl):PSX X (.Expr e pos) (j6p te) E:=by
 intro pins s σ H D I h
 exact wpAny_Expr_any (thn (he pins s σ H _ I h) fun v s1 ⟨x,H1,I1,r1,q1⟩=>⟨σ,H1,I1,q1⟩) I.quiet hs
end
section
variable {X:Cx}{pins:List (Addr×Obj)}{σ:St}{H:Hp}{s:Shared}
noncomputable abbrev Cx.held(X:Cx)(e:Addr):Cx:={ X with A:=X.A.mark (some (.ref e)),calm:=false,xe:=fun _ _=>False }
theorem Inv.held(I:Inv X pins σ H s)(e:Addr):Inv (X.held e) pins σ H s :=
 ⟨⟨I.ok.mod,I.ok.kind,I.ok.glob,I.ok.blt,I.ok.above,I.ok.inj,I.ok.has,I.ok.cab,fun h=>Bool.noConfusion h,I.ok.frames,I.ok.stk,I.ok.exf,I.ok.bs,I.ok.bsz,I.ok.j2p,I.ok.j6h,I.ok.i0g,I.ok.frf⟩,I.os,I.bare,I.base,I.loc,I.cell,I.free,I.f1o,I.pin,I.hok,I.len⟩
theorem Inv.j8g{e:Addr}(ok:X.Ok)(I:Inv (X.held e) pins σ H s):Inv X pins σ H s:=⟨ok,I.os,I.bare,I.base,I.loc,I.cell,I.free,I.f1o,I.pin,I.hok,I.len⟩
theorem g2a{K:PySem.W.Frag}{M:Model}{A:Around}{E:Value->Shared->Prop}{a C D:Addr}{o:Obj}{Q:Bool->Shared->Prop}(KX:K.In s.heap)(Z:f6r K D)(hx:s.heap.get? a=some o)(hc:o.cls = .ref C)(hs:PySem.W.subIn K (.ref C) (.ref D)=some true)
  (hq:Q true s):wpAny M A (excMatches (.ref a) (.ref D)) Q E s:=by
 obtain⟨hp,g,d,t,os⟩:=s
 have f:=tc_notTuple
 have hi:PySem.W.Looks M hp (isType (.ref D)) true:=by
  have z:=Z.ic
  unfold PySem.W.isClsIn PySem.W.clsIn at z
  split at z
  ·rename_i c' d' cd' sl' ho
   intro A' Q' E' s' k q
   unfold isType loadHead
   exact wpAny_bind (wpAny_loadPart (k _ _ (KX _ _ ho)) (wpAny_pure q))
  ·cases z
 unfold excMatches isExcClass isInstance
 repeat (first | with_reducible refine PySem.W.Looks.here (PySem.W.looks_typeIn KX Z.ty) ?_ | with_reducible refine PySem.W.Looks.here hi ?_ | with_reducible refine PySem.W.Looks.here (PySem.W.looks_subIn KX Z.sb) ?_ | with_reducible refine PySem.W.Looks.here (PySem.W.looks_subIn KX hs) ?_ | (with_reducible refine wpAny_loadPart_at hx ?_; rw [hc]) | wp_step)
 exact hq
theorem Inv.unset{i:Nat}{x:Str}{h':Heap}{v:Option Value}{m:Str->Option Value}{t':Nat}(I:Inv X pins σ H s)(hN:X.N.Nodup)(hi:X.N[i]? = some x)(hk:X.env.scope.names.lookup x=some .local)(hn:s.heap.Ns X.env.locals m)
  (hl:∀ (j:Nat) (y:Str) (v:V),X.N[j]? = some y->σ[j]? = some (some v)->Vis X.env.scope y->∃ u,RelV v u/\Look X.env s.heap m y u)
  (hn':h'.Ns X.env.locals (fun y=>if y=x then v else m y)) (hs:Heap.SameBut X.env.locals s.heap h'):Inv X pins (σ.set i none) H { s with heap:=h',toks:=t' }:=by
 have hiσ:i < σ.length:=by rw [I.len]; exact (List.getElem?_eq_some_iff.mp hi).1
 refine⟨I.ok,I.os,I.bare,⟨fun b o e n hb hx=>?_,fun b o e n hb hx=>?_,I.base.free,fun b o e hx=>?_,I.base.tups,I.base.h1o,I.base.h1s⟩,⟨_,hn',fun j y v' e1 e2 e3=>?_⟩,fun y c e=>?_,I.free,I.f1o,fun p hp=>?_,fun b ob e=>?_,by simpa using I.len⟩
 ·exact (hs.2 b (Nat.ne_of_lt (Nat.lt_of_lt_of_le (Heap.lt_size e) I.ok.above))).trans (I.base.keep b o e n hb hx)
 ·obtain⟨sl,e1⟩:=I.base.slot b o e n hb hx
  exact⟨sl,(hs.2 b (Nat.ne_of_lt (Nat.lt_of_lt_of_le (Heap.lt_size e) I.ok.above))).trans e1⟩
 ·obtain⟨o',e1⟩:=I.base.there b o e hx
  exact⟨o',(hs.2 b (Nat.ne_of_lt (Nat.lt_of_lt_of_le (Heap.lt_size e) I.ok.above))).trans e1⟩
 ·by_cases hj:j=i
  ·subst hj
   rw [List.getElem?_set_self hiσ] at e2
   cases e2
  ·rw [List.getElem?_set_ne (Ne.symm hj)] at e2
   obtain⟨u',r',q⟩:=hl j y v' e1 e2 e3
   refine⟨u',r',?_⟩
   rcases q with ⟨k,e⟩ | ⟨k,c,e,z⟩
   ·refine .inl ⟨k,?_⟩
    have hyx:y≠x:=fun e=>hj (g7x hN e1 (e▸hi))
    simp [hyx,e]
   ·exact .inr ⟨k,c,e,z.sameBut hs (I.cne y c e)⟩
 ·obtain⟨w',z⟩:=I.cell y c e
  exact⟨w',z.sameBut hs (I.cne y c e)⟩
 ·obtain⟨e,n,ne,nf,d⟩:=I.pin p hp
  exact⟨(hs.2 p.1 ne).trans e,n,ne,nf,d⟩
 ·refine (I.hok b ob e).stay (fun c w' hc q=>(hs.2 c ?_).trans q) (fun _ q=>q) fun _ _ q=>q
  intro z
  have hf:=I.free
  rw [<- z] at hf
  rcases hc with r | r
  ·rw [r,e] at hf
   cases hf
  ·rw [hf] at r
   cases r
end
theorem j3k{P:Program}{w:World}{H:Hp}{h:Heap}{a:Addr}{C:Value}{dx:Option Addr}{ob:Obj}{vs:Array Value}(e:h.get? a=some ob)(c:ob.cls=C){cx:Option Value}(f:ob.data = .fields vs)(k:Kd a (dx,cx) h):c4u P w H h a (k3e a C dx):=by
 cases dx with
 | none=>exact⟨⟨ob,e,c⟩,⟨ob,e⟩,fun h1 h2 ⟨o,e1,e2⟩ k=>⟨o,k o e1,e2⟩⟩
 | some d =>
  obtain⟨o,e',q,_⟩:=k
  rw [e] at e'
  cases e'
  exact⟨⟨ob,e,c,q,vs,f⟩,⟨ob,e⟩,fun h1 h2 ⟨o,e1,e2⟩ k=>⟨o,k o e1,e2⟩⟩
def hAs(K:PySem.W.Frag)(D:Addr)(i:Nat)(th:TS)(Dn:Ends)(σ:St):XK:=fun C dx H'=>∃ c,C = .ref c/\PySem.W.subIn K (.ref c) (.ref D)=some true /\
 ∀ e H2,H' e=none->Same H' H2->H2 e=some (k3e e (.ref c) dx)->th { nx:=fun σ2 H3=>Dn.nx (σ2.set i none) H3,rt:=Dn.rt,bk:=fun σ2 H3=>Dn.bk (σ2.set i none) H3,ct:=fun σ2 H3=>Dn.ct (σ2.set i none) H3 } (σ.set i (some (.ref e))) H2
def j8h(K:PySem.W.Frag)(D:Addr)(i:Nat)(tb:XK->TS)(th:TS):TS:=fun Dn σ H=>tb (hAs K D i th Dn σ) Dn σ H
section
variable {X:Cx}{D:Addr}{dn n:Str}{i:Nat}{st b₀:Stmt}{suite:List Stmt}{tb:XK->TS}{th:TS}{np hpos pos:Pos}
theorem i8u(hb:∀ E,PSX X st (tb E) E)(hh:∀ e,PSs (X.held e) (b₀ :: suite) th)(hg:Gl X dn)(hm:X.mg dn=some (.ref D))(ZD:f6r X.K D)(hN:X.N.Nodup)(hi:X.N[i]? = some n)(hk:X.env.scope.names.lookup n=some .local)
  (hst : X.stack = X.env :: X.outer := by rfl) (hfr : X.env.frame = some X.env.locals := by rfl) (hex : X.ex = [] := by rfl) (hdb : (dn == ("__debug__" : Str)) = false := by decide) :
  PS X (.Try [st] [.ExceptHandler (some (.Name dn np)) (some n) (b₀ :: suite) hpos] [] [] pos) (j8h X.K D i tb th):=by
 intro pins s σ H Dn I h
 refine wpAny_Try_except (wpAny_execs_cons (wpAny_mono (hb _ pins s σ H Dn I h) (fun f s1 q=>?_) fun e s1 q=>?_))
 ·cases f with
  | next=>exact wpAny_execs_nil (wpAny_execs_nil q)
  | ret v=>exact q
  | brk=>exact q
  | cont=>exact q
 ·obtain⟨H1,s0,I1,a,C,a0,B,H',rfl,fl,os,bare,un,hn0,nw,dx,cx,kd,_,c,rfl,hsub,k⟩:=q
  have hA:X.A.frames=some (X.env :: X.outer):=by rw [<- hst]; exact I1.ok.frames
  rw [hst] at fl
  refine g1z hA hfr fl kd fun h4 hd4 sm4 kd4=>j0z hd4 kd4 fun h5 fl5 sm5 kd5=>?_
  have u5:=un h5 fl5.1 (sm4.trans sm5)
  have I5:Inv X pins σ H' { s1 with heap:=h5,toks:=s1.toks }:=I1.caught os bare u5.1 u5.2
  have cls:=I.ok.kind
  obtain⟨ob,hob,hcl⟩:=fl5.there
  refine wpAny_handleBy_cons (codeAny_handlers_test ?_) (by intro q; cases q)
  refine d2h (X:=X.held a) (s:={ s1 with heap:=h5 }) (I5.held a) hg hm ?_ hdb
  refine g2a (s:={ s1 with heap:=h5 }) I5.kIn ZD hob hcl hsub ?_
  refine codeAny_handlers_suite_as (j1a fl5 kd5 fun h6 fl6 sm6 kd6=>?_)
  have u6:=un h6 fl6.1 ((sm4.trans sm5).trans sm6)
  have I6:Inv X pins σ H' { s1 with heap:=h6,toks:=s1.toks }:=I1.caught os bare u6.1 u6.2
  obtain⟨ob6,vs6,hob6,hcl6,hda6,_⟩:=fl6.first
  have nl:a≠X.env.locals:=fun z=>by
   obtain⟨m,⟨o,_,_,ho,_⟩,_⟩:=I1.loc
   rw [<- z,nw] at ho
   cases ho
  have I7:Inv X pins σ (upd H' a (k3e a (.ref c) dx)) { s1 with heap:=h6,toks:=s1.toks }:=by
   refine I6.track (I1.older hex nw) nl (fun x cc e z=>?_) (fun p hp z=>?_) hn0 (j3k hob6 hcl6 hda6 kd6)
   ·obtain⟨v,o,ho,_⟩:=I1.cell x cc e
    rw [z,nw] at ho
    cases ho
   ·have ho:=(I1.pin p hp).1
    rw [z,nw] at ho
    cases ho
  refine g1f (X:=X.held a) (v:=.ref a) (I7.held a) hN hi (.inl hk) rfl (fun s8 I8=>?_) (.inr hk)
  refine wpAny_mono (hh a pins s8 _ _ _ I8 (k a _ hn0 (Same.upd hn0) a6s)) (fun f s9 q9=>?_) fun _ _ z=>False.elim z
  have goes:∀ {σ9:St} {H9:Hp} {Q9:Shared->Prop},Inv (X.held a) pins σ9 H9 s9->(∀ s',Inv X pins (σ9.set i none) H9 s'->Q9 s')->wpAny (model X.prog X.w) X.A (do bindName X.env n .none; unbindBehindTheSuite X.env n hpos) (fun _ s'=>Q9 s') X.xe s9:=by
   intro σ9 H9 Q9 J kk
   have J':=J.j8g I.ok
   obtain⟨m,hn,hl⟩:=id J'.loc
   refine wpAny_nameGoes_keeps hk hn (by rw [I.ok.kind]; rfl) fun h' v hn' hs'=>kk _ ?_
   exact J'.unset hN hi hk hn hl hn' hs'
  cases f with
  | next =>
   obtain⟨σ',H9,J,q⟩:=q9
   exact goes (Q9:=fun s'=>SP X pins Dn .next s') J fun s' J'=>⟨_,_,J',q⟩
  | brk =>
   obtain⟨σ',H9,J,q⟩:=q9
   exact goes (Q9:=fun s'=>SP X pins Dn .brk s') J fun s' J'=>⟨_,_,J',q⟩
  | cont =>
   obtain⟨σ',H9,J,q⟩:=q9
   exact goes (Q9:=fun s'=>SP X pins Dn .cont s') J fun s' J'=>⟨_,_,J',q⟩
  | ret u =>
   obtain⟨v,σ',H9,J,r,q⟩:=q9
   exact goes (Q9:=fun s'=>SP X pins Dn (.ret u) s') J fun s' J'=>⟨v,_,_,J',r,q⟩
end
def j8i:TE:=fun _ H Q=>New H (.dK []) Q ⟨⟩
theorem i8v{X:Cx}{pos:Pos}:PE X (.Dict [] [] pos) j8i:=PE.weak i8i fun _ _ _ h=>h.raw
theorem h2t{H H':Hp}{v:V}{t:Ty}(S:Same H H')(h:h5h H v=some t):h5h H' v=some t:=by
 cases v with
 | ref a =>
  rw [j7q] at h ⊢
  cases e:H a with
  | none=>rw [e] at h; cases h
  | some o=>rw [e] at h; rw [S _ _ e]; exact h
 | _=>exact h
end L2
namespace L2
open PySem PySem.Spec PyProof.Rows
section
variable {X:Cx}{tg:Expr}
noncomputable def k3g(g:Str->Str->V):V->List V->Hp->VK->Prop:=fun x vs H Q=>match x,vs with
 | .str z,[.str y]=>Q (g z y) H
 | _,_=>False
theorem c6m : MtR X "str.startswith" (k3g fun z y => .bl (Txt.startswith z y)) := by
 intro pins s σ H x xs v us Q I rx rs h
 match x,xs,h with
 | .str z,[.str y],q =>
  obtain⟨t,rfl⟩:=rx
  obtain⟨u,rfl,t',rfl⟩:=vals1 rs
  exact call_gives F.slot_str_startswith (typeIs_str _ _ _) F.entry_str_startswith (F.args_str_startswith_2 _ _) (gives_str_startswith z y t t') ⟨.bl (Txt.startswith z y),H,I,rfl,q⟩
noncomputable def Its(x:Str):It:=⟨fun i _=>i < x.cps.size,fun i H v H'=>H'=H/\∃ c,x.cps[i]? = some c/\v = .str ⟨#[c]⟩,fun i _=>i=x.cps.size⟩
theorem i8w {P : Program} {w : World} {K : PySem.W.Frag} (it : Addr) (x : Str) (t : Tok) {n : String} (hn : ["enumerate", "zip", "dict_itemiterator", "dict_reverseitemiterator", "odict_iterator", "itertools.zip_longest", "itertools.pairwise"].contains n = false)
  (W:∀ A':Around,A'.handled=none->Walks P w A' it [it] [it] x.cps.size (SignAt x) (fun i h=>h.IsStrIter it n x t i))
  (S:∀ (A:Around) (i:Nat) (s:Shared) (Q:Value->Shared->Prop) (E:Value->Shared->Prop),s.heap.IsStrIter it n x t i->Q (.ref it) s->wpAny (model P w) A (pyIter (.ref it)) Q E s):Turn P w K tg (Its x) [it] it (fun i h=>h.IsStrIter it n x t i) where
 mem:=by simp
 obj:=fun i h st b hb=>by
  have e:b=it:=by simpa using hb
  subst e
  obtain⟨o,e,c,d⟩:=st
  exact⟨o,e,fun v z=>by rw [d] at z; cases z⟩
 keep:=fun i h h' st k=>let ⟨o,ho,r⟩:=st; ⟨o,k it (by simp) o ho,r⟩
 item:=by
  intro X hP hw hK hc i pins s σ H E I hf st hg
  subst hP hw hK
  obtain⟨f0,f1,f2,f3,f4,f5⟩:=hf it (by simp)
  refine (W _ (I.ok.hd hc)).item i s _ _ hg st fun v h' tk hv st' kk=>?_
  obtain⟨c,u,hc',rfl⟩:=hv
  have I1:Inv X pins σ H { s with heap:=h',toks:=tk }:=I.turned (fun b o hb e=>kk b o (by simpa using hb) e) f0 f1 f3 f4 f5
  obtain⟨o,e1,c1,d1⟩:=id st'
  exact⟨_,rfl,i7t (s:={ s with heap:=h',toks:=tk }) e1 c1 d1 hn ⟨.str ⟨#[c]⟩,H,I1,⟨u,rfl⟩,⟨rfl,c,hc',rfl⟩,st',fun b hb=>(hf b hb).1⟩⟩
 done:=by
  intro X hP hw hK hc i pins s σ H E I hf st hg
  subst hP hw hK
  obtain⟨f0,f1,f2,f3,f4,f5⟩:=hf it (by simp)
  have hi:i=x.cps.size:=hg
  subst hi
  exact (W _ (I.ok.hd hc)).done s _ _ st fun h' tk kk=>⟨rfl,I.turned (t':=tk) (fun b o hb e=>kk b o (by simpa using hb) e) f0 f1 f3 f4 f5⟩
 self:=S
def iStr(tl:TE):TI:=fun σ H R=>tl σ H fun x H1=>match x with
 | .str z=>R (Its z) H1
 | _=>False
theorem j8j{l:Expr}{tl:TE}(hl:PE X l tl):PI X tg l (iStr tl):=by
 intro pins s σ H R I h
 refine thn (hl pins s σ H _ I h) fun v s1 ⟨x,H1,I1,r1,q1⟩=>?_
 cases x with
 | str z =>
  obtain⟨t,rfl⟩:=r1
  have fin : ∀ (o : Obj) (n : String), ["enumerate", "zip", "dict_itemiterator", "dict_reverseitemiterator", "odict_iterator", "itertools.zip_longest", "itertools.pairwise"].contains n = false → (s1.heap.push o).IsStrIter s1.heap.objs.size n z t 0 →
    (∀ A':Around,A'.handled=none->Walks X.prog X.w A' s1.heap.objs.size [s1.heap.objs.size] [s1.heap.objs.size] z.cps.size (SignAt z) (fun i h=>h.IsStrIter s1.heap.objs.size n z t i)) ->
    (∀ (A:Around) (i:Nat) (s:Shared) (Q:Value->Shared->Prop) (E:Value->Shared->Prop),s.heap.IsStrIter s1.heap.objs.size n z t i->Q (.ref s1.heap.objs.size) s->wpAny (model X.prog X.w) A (pyIter (.ref s1.heap.objs.size)) Q E s) ->
    PIE X pins σ tg R (.ref s1.heap.objs.size) { s1 with heap:=s1.heap.push o }:=fun o n hn st W S=>by
   refine⟨s1.heap.objs.size,[s1.heap.objs.size],_,_,H1,rfl,I1.kept (t':=s1.toks) fun b o e=>Heap.get?_push_of_some _ e,i8w _ z t hn W S,st,fun b hb=>?_,q1⟩
   have e:b=s1.heap.objs.size:=by simpa using hb
   subst e
   exact I1.i7s (Nat.le_refl _) (I1.hok.fresh (Nat.le_refl _))
  cases ha:z.cps.all (· < 128)
  ·exact wpAny_pyIter_wide ha (fin _ "str_iterator" (by decide) ⟨_, Heap.get?_push_size _ rfl, rfl, rfl⟩ (fun A' hA => Walks.strWide hA _ z t) fun _ _ _ _ _ st hQ => wpAny_pyIter_striter_wide st hQ)
  ·exact wpAny_pyIter_ascii ha (fin _ "str_ascii_iterator" (by decide) ⟨_, Heap.get?_push_size _ rfl, rfl, rfl⟩ (fun A' hA => Walks.strAscii hA _ z t) fun _ _ _ _ _ st hQ => wpAny_pyIter_striter_ascii st hQ)
 | _=>exact False.elim q1
theorem i8x{x:Str}{g:TG}{tb:TS}{D:Ends}{σ:St}{H:Hp}(Pv:Nat->St->Hp->Prop)(h0:Pv 0 σ H)
  (hs:∀ i c σ H,x.cps[i]? = some c->Pv i σ H->g (.str ⟨#[c]⟩) σ H fun σ2 H2=>tb { D with nx:=Pv (i+1),ct:=Pv (i+1),bk:=D.nx } σ2 H2) (hd:∀ σ H,Pv x.cps.size σ H->D.nx σ H):j5t (Its x) g tb D σ H:=by
 refine⟨fun i m σ H=>m=x.cps.size - i/\i<=x.cps.size/\Pv i σ H,⟨x.cps.size,by simp,Nat.zero_le _,h0⟩,?_⟩
 rintro i m σ H ⟨rfl,hi,p⟩
 by_cases hlt:i < x.cps.size
 ·refine .inr ⟨hlt,Pv (i+1),fun σ' H' p'=>⟨x.cps.size - (i+1),by omega,rfl,hlt,p'⟩,fun v H' y=>?_⟩
  obtain⟨e,c,hc,e2⟩:=y
  subst e e2
  exact hs i c σ _ hc p
 ·have e:i=x.cps.size:=by omega
  subst e
  exact .inl ⟨rfl,hd σ H p⟩
noncomputable def rSlA:V->Option Int->Option Int->Hp->VK->Prop:=fun x lo hi H Q=>match x with
 | .ref a=>(match H a with
  | some (.lst xs)=>New H (.lst (d7r xs lo hi)) Q ⟨⟩
  | _=>False)
 | .str z=>z.length<=sizeLine/\Q (.str (Txt.slice z lo hi)) H
 | _=>False
theorem g8g:SlR X rSlA:=by
 intro pins s σ H x v vl vu lo hi sl Q I rx hs pl pu h
 cases x with
 | ref a=>exact sl_M pins s σ H _ v vl vu lo hi sl Q I rx hs pl pu h
 | str z =>
  obtain⟨t,rfl⟩:=rx
  obtain⟨hz,q⟩:=h
  have fin:∀ t' k,EP X pins σ Q (.str (Txt.slice z lo hi) t') { s with toks:=k }:=fun t' k=>⟨.str _,H,I.tok k,⟨_,rfl⟩,q⟩
  refine ⟨"str", _, F.slot_str_getitem.lookup, typeIs_str _ _ _, ?_⟩
  cases pl with
  | none =>
   cases pu with
   | none=>exact wpAny_getItem_str_slice (l:=none) (u:=none) (st:=none) hs rfl (post_val_or_str ⟨Nat.le_trans (Txt.slice_le z _ _) hz,fin⟩)
   | int j uj=>exact wpAny_getItem_str_slice (l:=none) (u:=some (j,uj)) (st:=none) hs rfl (post_val_or_str ⟨Nat.le_trans (Txt.slice_le z _ _) hz,fin⟩)
  | int i ui =>
   cases pu with
   | none=>exact wpAny_getItem_str_slice (l:=some (i,ui)) (u:=none) (st:=none) hs rfl (post_val_or_str ⟨Nat.le_trans (Txt.slice_le z _ _) hz,fin⟩)
   | int j uj=>exact wpAny_getItem_str_slice (l:=some (i,ui)) (u:=some (j,uj)) (st:=none) hs rfl (post_val_or_str ⟨Nat.le_trans (Txt.slice_le z _ _) hz,fin⟩)
 | _=>exact False.elim h
noncomputable def k3h:List V->Hp->VK->Prop:=fun xs H Q=>match xs with
 | [.int i]=>Q (.int i) H
 | [.bl k]=>Q (.int (if k then 1 else 0)) H
 | [.str z]=>∃ n,PySem.intText? z=some n/\z.length<=640/\Q (.int n) H
 | _=>False
theorem b9k : c6j X (.type "int") k3h := by
 intro pins s σ H xs us Q I r h
 match xs,r,h with
 | [.int i],r,q=>exact h1w pins s σ H _ us Q I r (.inl ⟨i,rfl,q⟩)
 | [.bl k],r,q=>exact h1w pins s σ H _ us Q I r (.inr ⟨k,rfl,q⟩)
 | [.str z],r,⟨n,hn,hl,q⟩ =>
  obtain⟨u,rfl,t,rfl⟩:=vals1 r
  exact PySem.W.KIN.call_text hn hl ⟨.int n,H,I.tok _,⟨_,rfl⟩,q⟩
noncomputable def k3i:List V->Hp->VK->Prop:=fun xs H Q=>match xs with
 | [.int i]=>i.natAbs.log2 < 1920/\Q (.str (toString i)) H
 | _=>False
theorem c4y : c6j X (.type "str") k3i := h1x.weak fun xs H Q h => by
 match xs,h with
 | [.int i],⟨a,b⟩=>exact⟨i,rfl,a,b⟩
def tFmt(te:TE):TE:=fun σ H Q=>te σ H fun x H1=>match x with
 | .int i=>i.natAbs.log2 < 1920/\Q (.str (toString i)) H1
 | .str y=>y.length<=sizeLine/\Q (.str y) H1
 | _=>False
theorem c0q{e:Expr}{te:TE}{pos:Pos}(he:PE X e te):PE X (.FormattedValue e (-1) none pos) (tFmt te):=by
 intro pins s σ H Q I h
 refine wpAny_FormattedValue_plain (thn (he pins s σ H _ I h) fun v s1 ⟨x,H1,I1,r1,q1⟩=>?_)
 cases x with
 | int i =>
  obtain⟨t,rfl⟩:=r1
  exact wpAny_formatField_int q1.1 ⟨.str (toString i),H1,I1.tok _,⟨_,rfl⟩,q1.2⟩
 | str y =>
  obtain⟨t,rfl⟩:=r1
  exact wpAny_formatField_str (hx:=q1.1) ⟨.str y,H1,I1,⟨_,rfl⟩,q1.2⟩ ⟨.str y,H1,I1.tok _,⟨_,rfl⟩,q1.2⟩
 | _=>exact False.elim q1
noncomputable abbrev TJ:=Str->St->Hp->(Str->Hp->Prop)->Prop
def PJ(X:Cx)(es:List Expr)(t:TJ):Prop:=∀ (pins:List (Addr×Obj)) (acc:Str) (s:Shared) (σ:St) (H:Hp) (Q:Str->Hp->Prop) (Q':Str->Shared->Prop),Inv X pins σ H s->t acc σ H Q->(∀ out H1 s1,Inv X pins σ H1 s1->Q out H1->Q' out s1) ->
 Joins (model X.prog X.w) X.A X.xe (evalEach es X.env) acc Q' s
noncomputable def k3j:TJ:=fun acc _ H Q=>Q acc H
def j8k(te:TE)(tr:TJ):TJ:=fun acc σ H Q=>te σ H fun x H1=>match x with
 | .str y=>acc.length+y.length<=sizeLine/\tr (acc++y) σ H1 Q
 | _=>False
theorem f1r:PJ X [] k3j:=fun pins acc s σ H Q Q' I h k=>k acc H s I h
theorem a4v{e:Expr}{es:List Expr}{te:TE}{tr:TJ}(he:PE X e te)(hr:PJ X es tr)(hs:evalEach (e :: es) X.env=eval e X.env :: evalEach es X.env:=by rfl):PJ X (e :: es) (j8k te tr):=by
 intro pins acc s σ H Q Q' I h k
 rw [hs]
 refine thn (he pins s σ H _ I h) fun v s1 ⟨x,H1,I1,r1,q1⟩=>?_
 cases x with
 | str y =>
  obtain⟨t,rfl⟩:=r1
  exact⟨y,t,rfl,by rw [strLen_append]; exact q1.1,hr pins (acc++y) s1 σ H1 Q Q' I1 q1.2 k⟩
 | _=>exact False.elim q1
def k3k(tj:TJ):TE:=fun σ H Q=>tj Str.empty σ H fun out H1=>out.length<=sizeLine/\Q (.str out) H1
theorem b6n{e₁ e₂:Expr}{es:List Expr}{tj:TJ}{pos:Pos}(h:PJ X (e₁ :: e₂ :: es) tj):PE X (.JoinedStr (e₁ :: e₂ :: es) pos) (k3k tj):=by
 intro pins s σ H Q I hq
 exact wpAny_JoinedStr (h pins Str.empty s σ H _ _ I hq fun out H1 s1 I1 q=>⟨q.1,.str out,H1,I1.tok _,⟨_,rfl⟩,q.2⟩)
noncomputable def a5s(x y:Str):List Str:=if (decide (x.length < y.length) || decide (Builtin.Str.strKind x < Builtin.Str.strKind y))=true then [x] else if (Builtin.Str.occurrences x y 0 x.length (x.length+1)).isEmpty=true then [x] else Builtin.Str.partsBetween x (Builtin.Str.occurrences x y 0 x.length (x.length+1)) y.length
noncomputable def j8l:V->List V->Hp->VK->Prop:=fun x vs H Q=>match x,vs with
 | .str z,[.str y]=>(y.length == 0)=false/\z.length<=sizeLine/\(a5s z y).length<=sizeLine/\New H (.lst ((a5s z y).map V.str)) Q ⟨⟩
 | _,_=>False
theorem h2u:∀ (l:List Str) (k:Nat),Vals (l.map V.str) (strsFrom k l)
 | [],_=>.nil
 | x :: l,k=>.cons ⟨_,rfl⟩ (h2u l (k+1))
theorem d0r : MtR X "str.split" j8l := by
 intro pins s σ H x xs v us Q I rx rs h
 match x,xs,h with
 | .str z,[.str y],⟨hy,hz,hn,q⟩ =>
  obtain⟨t,rfl⟩:=rx
  obtain⟨u,rfl,t',rfl⟩:=vals1 rs
  have fr:H s.heap.objs.size=none:=I.hok.fresh (Nat.le_refl _)
  have itself : a5s z y = [z] → EP X pins σ Q (.ref s.heap.objs.size) { s with heap := s.heap.push { cls := .type "list", data := .seq [Value.str z t].toArray } } := fun e => by
   rw [e] at q
   exact⟨.ref _,_,I.laid (o:=.lst ([z].map V.str)) (t':=s.toks) (fun b u e=>Heap.get?_push_of_some _ e) (Nat.le_refl _) ⟨show 1<=sizeLine by decide,[Value.str z t],0,.cons ⟨t,rfl⟩ .nil,Heap.get?_push_size _ rfl⟩,rfl,q.raw _ fr⟩
  by_cases h1:(decide (z.length < y.length) || decide (Builtin.Str.strKind z < Builtin.Str.strKind y))=true
  ·exact call_meets F.slot_str_split (typeIs_str _ _ _) F.entry_str_split (F.args_str_split_2 _ _) (meets_str_split_cannot_occur z y t t' h1) (itself (by unfold a5s; rw [if_pos h1]))
  ·have h1':=Bool.eq_false_iff.mpr h1
   by_cases h2:(Builtin.Str.occurrences z y 0 z.length (z.length+1)).isEmpty=true
   ·exact call_meets F.slot_str_split (typeIs_str _ _ _) F.entry_str_split (F.args_str_split_2 _ _) (meets_str_split_not_found z y t t' h1' hy h2) (itself (by unfold a5s; rw [if_neg h1,if_pos h2]))
   ·have h2':=Bool.eq_false_iff.mpr h2
    have e:a5s z y=Builtin.Str.partsBetween z (Builtin.Str.occurrences z y 0 z.length (z.length+1)) y.length:=by unfold a5s; rw [if_neg h1,if_neg h2]
    refine call_meets F.slot_str_split (typeIs_str _ _ _) F.entry_str_split (F.args_str_split_2 _ _) (meets_str_split_sep z y t t' h1' hy h2' hz (by rw [<- e]; exact hn)) ?_
    rw [<- e]
    refine⟨.ref _,_,I.laid (o:=.lst ((a5s z y).map V.str)) (t':=s.toks+(a5s z y).length) (fun b u e=>Heap.get?_push_of_some _ e) (Nat.le_refl _) ⟨by rw [List.length_map]; exact hn,strsFrom s.toks (a5s z y),0,h2u _ _,Heap.get?_push_size _ rfl⟩,rfl,q.raw _ fr⟩
noncomputable def j8m(z y:Str):Bool:=!(Builtin.Str.occurrences z y 0 z.length 1).isEmpty
def k5q(neg:Bool):R2:=fun x y H Q=>match y with
 | .str z=>(match x with
  | .str y=>Q (.bl (j8m z y != neg)) H
  | _=>False)
 | .ref p=>(match H p with
  | some (.lst xs)=>c6k x=true/\xs.all c6k=true/\Q (.bl (inV x xs != neg)) H
  | some (.tup xs)=>c6k x=true/\xs.all c6k=true/\Q (.bl (inV x xs != neg)) H
  | _=>False)
 | _=>False
theorem j1d:OpR X (compareOp .In) (k5q false):=by
 intro pins s σ H x y v u Q I rx ry h
 cases y with
 | str z =>
  cases x with
  | str y =>
   have h:Q (.bl (j8m z y != false)) H:=h
   rw [Bool.bne_false] at h
   exact i3n pins s σ H _ _ v u Q I rx ry ⟨y,z,rfl,rfl,h⟩
  | _=>exact False.elim h
 | ref p =>
  have h:(match H p with
   | some (.lst xs)=>c6k x=true/\xs.all c6k=true/\Q (.bl (inV x xs != false)) H
   | some (.tup xs)=>c6k x=true/\xs.all c6k=true/\Q (.bl (inV x xs != false)) H
   | _=>False):=h
  split at h
  ·rename_i xs e
   rw [Bool.bne_false] at h
   exact h2e pins s σ H _ _ v u Q I rx ry ⟨p,xs,rfl,.inl (SqL.of e),h.1,h.2.1,by simpa using h.2.2⟩
  ·rename_i xs e
   rw [Bool.bne_false] at h
   exact h2e pins s σ H _ _ v u Q I rx ry ⟨p,xs,rfl,.inr (SqT.of e),h.1,h.2.1,by simpa using h.2.2⟩
  ·exact h.elim
 | _=>exact False.elim h
theorem i4f:OpR X (compareOp .NotIn) (k5q true):=by
 intro pins s σ H x y v u Q I rx ry h
 cases y with
 | str z =>
  cases x with
  | str y =>
   have h:Q (.bl (j8m z y != true)) H:=h
   rw [Bool.bne_true] at h
   exact h2f pins s σ H _ _ v u Q I rx ry ⟨y,z,rfl,rfl,h⟩
  | _=>exact False.elim h
 | ref p =>
  have h:(match H p with
   | some (.lst xs)=>c6k x=true/\xs.all c6k=true/\Q (.bl (inV x xs != true)) H
   | some (.tup xs)=>c6k x=true/\xs.all c6k=true/\Q (.bl (inV x xs != true)) H
   | _=>False):=h
  split at h
  ·rename_i xs e
   rw [Bool.bne_true] at h
   exact f9n pins s σ H _ _ v u Q I rx ry ⟨p,xs,rfl,.inl (SqL.of e),h.1,h.2.1,by simpa using h.2.2⟩
  ·rename_i xs e
   rw [Bool.bne_true] at h
   exact f9n pins s σ H _ _ v u Q I rx ry ⟨p,xs,rfl,.inr (SqT.of e),h.1,h.2.1,by simpa using h.2.2⟩
  ·exact h.elim
 | _=>exact False.elim h
end
end L2
namespace L2
open PySem PySem.Spec PyProof.Rows
def Wr(H:Hp)(a:Addr)(o:HO)(k:Hp->Prop)(_:Tag k):Prop:=∀ H1,b1u a H H1->H1 a=some o->k H1
section
variable {X:Cx}{e o value:Expr}{f m x:Str}{pos pos' apos:Pos}{ta tv:TE}{t:TA}{C:Addr}{es:List Expr}
def j3l(K:PySem.W.Frag)(ta:TE)(f:Str):TE:=fun σ H Q=>ta σ H fun x H1=>match x with
 | .ref a=>(match H1 a with
  | some (.ins C dx fs)=>Cls K C/\a5k K C f/\(match fs.lookup f with
   | some v=>Q v H1
   | none=>False)
  | _=>False)
 | _=>False
theorem a3u(he:PE X e ta)(hb:attributeBase e f X.env (eval e X.env)=eval e X.env):PE X (.Attribute e f pos) (j3l X.K ta f):=by
 intro pins s σ H Q I h
 refine (j7a he hb) pins s σ H Q I ?_
 unfold k4w
 unfold j3l at h
 have q:(fun (x:V) (H1:Hp)=>(match x with
   | .ref a=>(match H1 a with
    | some (.ins C dx fs)=>Cls X.K C/\a5k X.K C f/\(match fs.lookup f with
     | some v=>Q v H1
     | none=>False)
    | _=>False)
   | _=>False:Prop))=fun x H1=>∃ a C dx fs v,x = .ref a/\H1 a=some (.ins C dx fs)/\Cls X.K C/\a5k X.K C f/\fs.lookup f=some v/\Q v H1:=by
  funext x H1
  refine propext ⟨fun z=>?_,fun⟨a,C,dx,fs,v,e1,e2,c,n,l,q⟩=>?_⟩
  ·cases x with
   | ref a =>
    dsimp only at z
    split at z
    ·rename_i C dx fs e1
     obtain⟨c,n,z⟩:=z
     split at z
     ·rename_i v e2
      exact⟨a,C,dx,fs,v,rfl,e1,c,n,e2,z⟩
     ·exact z.elim
    ·exact z.elim
   | _=>exact False.elim z
  ·subst e1
   dsimp only
   rw [e2]
   dsimp only
   rw [l]
   exact⟨c,n,q⟩
 rw [q] at h
 exact h
def k3l(K:PySem.W.Frag)(ta tv:TE)(f:Str):TS:=fun D σ H=>tv σ H fun y H1=>ta σ H1 fun x H2=>match x with
 | .ref a=>(match H2 a with
  | some (.ins C dx fs)=>Cls K C/\a5k K C f/\fs.length < 1000/\Wr H2 a (.ins C dx (g1n f y fs)) (D.nx σ) ⟨⟩
  | _=>False)
 | _=>False
theorem b2j(ha:PE X o ta)(hv:PE X value tv)(hs:swapsWith value (some (.Attribute o f pos')) pos.line X.env=pure false):PS X (.Assign [.Attribute o f pos'] value pos) (k3l X.K ta tv f):=by
 intro pins s σ H D I h
 refine plainObj_wpAny_Assign_Attribute (thn (hv pins s σ H _ I h) fun u s1 ⟨y,H1,I1,ry,q⟩=>thn (ha pins s1 σ H1 _ I1 q) fun ov s2 ⟨x,H2,I2,rx,z⟩=>?_) hs
 cases x with
 | ref a =>
  obtain rfl:ov=Value.ref a:=rx
  dsimp only at z
  split at z
  ·rename_i C dx fs e1
   obtain⟨c,n,l,k⟩:=z
   exact i0m I2 e1 c n l ry fun s3 I3=>⟨σ,_,I3,k _ b1u.upd a6s⟩
  ·exact z.elim
 | _=>exact False.elim z
end
def b6h(C:Addr)(m:Str)(sp:Sp)(dvs:List V)(E:XK)(ta:TE)(t:TA):TE:=fun σ H Q=>ta σ H fun x H1=>match x with
 | .ref a=>(match H1 a with
  | some (.ins C' dx fs)=>C'=C/\fs.lookup m=none/\t σ H1 fun vs H2=>sp (x :: (vs++dvs)) H2 Q E
  | _=>False)
 | _=>False
section
variable {X:Cx}{CX:CXT}{k:Nat}{f C:Addr}{fd:FuncData}{ps:List Str}{sp:Sp}{dvs:List V}{ds:List Value}{E:XK}{x m:Str}{p pos apos:Pos}{e o:Expr}{es:List Expr}{ta:TE}{t:TA}
theorem a2q{pl:Sem Bool}(he:PE X o ta)(c:Cls X.K C)(hm:Meth X.K C m f)(F:a1h X.prog X.w X.K X.mg X.base CX k f fd ps sp)(hr:a2p k X.A)(hb:Binds X.K fd ps ds)(hd:Vals dvs ds)(hx:Passes CX X E)(ha:PA X (e :: es) t)
  (hst:starEach (e :: es) X.env=(false,eval e X.env) :: starEach es X.env:=by rfl) (hpl:(backTo pos (starEach es X.env)).any (·.1)=false:=by rfl)
  (ht:eval (.Call (.Attribute o m apos) (e :: es) [] pos) X.env=(do
   let ov <- eval o X.env
   standAt apos.atName
   let (f,first) <- holding [ov] (getMethod ov m pl)
   callWith pos f first (backTo pos (starEach (e :: es) X.env)) (backToKw pos (keywordEach [] X.env))):=by rfl) :
  PE X (.Call (.Attribute o m apos) (e :: es) [] pos) (b6h C m sp dvs E ta t):=by
 intro pins s σ H Q I h
 refine PySem.W.methodCall_KW (pl:=pl) (thn (he pins s σ H _ I h) fun u s1 ⟨x,H1,I1,rx,z⟩=>?_) ht
 cases x with
 | ref a =>
  obtain rfl:u=Value.ref a:=rx
  dsimp only at z
  split at z
  ·rename_i C' dx fs ea
   obtain⟨rfl,l,q⟩:=z
   refine g6j I1 ea c hm l ?_
   refine PySem.W.callWith_K (first:=[.ref a]) (h₀:=X.base) I.ok.mod.kin hm.kp (thn (ha pos pins s1 σ H1 _ I1 q) fun us s2 ⟨vs,H2,I2,r,q2⟩=>⟨I2.kIn,?_⟩) hst hpl
   exact h8h (us:=.ref a :: us) (vs:=.ref a :: vs) F hr hb hd hx I2 (.cons rfl r) q2
  ·exact z.elim
 | _=>exact False.elim z
theorem a1s{pl:Sem Bool}(he:PE X o ta)(c:Cls X.K C)(hm:Meth X.K C m f)(F:a1h X.prog X.w X.K X.mg X.base CX k f fd ps sp)(hr:a2p k X.A)(hb:Binds X.K fd ps ds)(hd:Vals dvs ds)(hx:Passes CX X E)
  (ht:eval (.Call (.Attribute o m apos) [] [] pos) X.env=(do
   let ov <- eval o X.env
   standAt apos.atName
   let (f,first) <- holding [ov] (getMethod ov m pl)
   callWith pos f first (backTo pos (starEach [] X.env)) (backToKw pos (keywordEach [] X.env))):=by rfl) :
  PE X (.Call (.Attribute o m apos) [] [] pos) (b6h C m sp dvs E ta h5g):=by
 intro pins s σ H Q I h
 refine PySem.W.methodCall_KW (pl:=pl) (thn (he pins s σ H _ I h) fun u s1 ⟨x,H1,I1,rx,z⟩=>?_) ht
 cases x with
 | ref a =>
  obtain rfl:u=Value.ref a:=rx
  dsimp only at z
  split at z
  ·rename_i C' dx fs ea
   obtain⟨rfl,l,q⟩:=z
   refine g6j I1 ea c hm l ?_
   exact PySem.W.callWith_K0 (first:=[.ref a]) I1.kIn hm.kp (h8h (us:=[.ref a]) (vs:=[.ref a]) F hr hb hd hx I1 (.cons rfl .nil) q)
  ·exact z.elim
 | _=>exact False.elim z
def k3m(H:Hp)(C:Addr)(k:Addr->Hp->Prop)(_:Tag k):Prop:=∀ x dx H1,H x=none->H dx=none->dx≠x->Same H H1->H1 dx=some (.own x)->H1 x=some (.ins C dx [])->k x H1
def j8n(x:Addr)(Q:VK):VK:=fun v H2=>v = .non/\Q (.ref x) H2
theorem asNew{x:Addr}{Q:VK}{H2:Hp}{v:V}:j8n x Q v H2=(v = .non/\Q (.ref x) H2):=rfl
def j1e(C:Addr)(sp:Sp)(dvs:List V)(E:XK)(t:TA):TE:=fun σ H Q=>t σ H fun vs H1=>k3m H1 C (fun x H2=>sp (.ref x :: (vs++dvs)) H2 (j8n x Q) E) ⟨⟩
theorem k3m.raw{H:Hp}{C:Addr}{k:Addr->Hp->Prop}{t:Tag k}(h:k3m H C k t):∀ x dx,H x=none->H dx=none->dx≠x->k x (upd (upd H dx (.own x)) x (.ins C dx [])):=fun x dx ex ed ne =>
 h x dx _ ex ed ne ((Same.upd ed).trans (Same.upd (by rw [a6l ne.symm]; exact ex))) (by rw [a6l ne]; exact a6s) a6s
theorem b1y(M:Mk X.K C f)(F:a1h X.prog X.w X.K X.mg X.base CX k f fd ps sp)(hr:a2p (k+1) X.A)(hg:Gl X x)(hm:X.mg x=some (.ref C))(hb:Binds X.K fd ps ds)(hd:Vals dvs ds)(hx:Passes CX X E)
  (ha : PA X (e :: es) t) (hdb : (x == ("__debug__" : Str)) = false := by decide) (he : starEach (e :: es) X.env = (false, eval e X.env) :: starEach es X.env := by rfl) (hpl : (backTo pos (starEach es X.env)).any (·.1) = false := by rfl) :
  PE X (.Call (.Name x p) (e :: es) [] pos) (j1e C sp dvs E t):=by
 intro pins s σ H Q I h
 refine wpAny_Call_Name_kw (d2h I hg hm ?_ hdb)
 refine PySem.W.callWith_K (h₀:=X.base) I.ok.mod.kin M.kp (thn (ha pos pins s σ H _ I h) fun us s1 ⟨vs,H1,I1,r,q⟩=>⟨I1.kIn,?_⟩) he hpl
 exact i7z M F hr hb hd hx I1 r q.raw
end
def k1p(K:PySem.W.Frag)(ta tv:TE)(rd:V->V->Hp->VK->Prop)(f:Str):TS:=fun D σ H=>ta σ H fun x H1=>match x with
 | .ref a=>(match H1 a with
  | some (.ins C dx fs)=>Cls K C/\a5k K C f/\(match fs.lookup f with
   | some v=>tv σ H1 fun y H2=>rd v y H2 fun z H3=>(match H3 a with
    | some (.ins C' dx' fs')=>C'=C/\fs'.length < 1000/\Wr H3 a (.ins C dx' (g1n f z fs')) (D.nx σ) ⟨⟩
    | _=>False)
   | none=>False)
  | _=>False)
 | _=>False
section
variable {X:Cx}{o e value:Expr}{f:Str}{pos pos' tpos:Pos}{ta tv:TE}
end
noncomputable def rInF(g:Int->Int->Int):V->V->Hp->VK->Prop:=fun x y H Q=>match x,y with
 | .int i,.int j=>Q (.int (g i j)) H
 | _,_=>False
def tAugF(i:Nat)(te:TE)(ti:TIp):TS:=fun D σ H=>match σ[i]? with
 | some (some x)=>te σ H fun y H1=>ti x y H1 fun z H2=>D.nx (σ.set i (some z)) H2
 | _=>False
section
variable {X:Cx}{pos:Pos}
end
theorem lookup_same{f:Str}{v:V}{r:List (Str×V)}:List.lookup f ((f,v) :: r)=some v:=by rw [List.lookup_cons,beq_self_eq_true]
theorem j8o{f:Str}{v x:V}{r:List (Str×V)}:g1n f v ((f,x) :: r)=(f,v) :: r:=by rw [g1n,if_pos rfl]
theorem k1q{f:Str}{v:V}:g1n f v [] = [(f,v)]:=rfl
theorem j1f{f g:Str}{v:V}{r:List (Str×V)}(h:(f == g)=false):List.lookup f ((g,v) :: r)=r.lookup f:=by rw [List.lookup_cons,h]
theorem j5v{f g:Str}{v x:V}{r:List (Str×V)}(h:(f == g)=false):g1n f v ((g,x) :: r)=(g,x) :: g1n f v r:=by rw [g1n,if_neg fun e=>by rw [e,beq_self_eq_true] at h; exact Bool.noConfusion h]
theorem noxK{X:Cx}:X.nox.K=X.K:=rfl
end L2
namespace L2
open PySem PySem.Spec PyProof.Rows
structure j8p(k:Nat)(A:Around):Prop where
 dp:A.depth+3*k+5 < recursionLimit
 un:A.units+16*k+200 < cLine
theorem a2p.h{k:Nat}{A:Around}(r:a2p k A):j8p k A:=⟨r.dp,r.un⟩
structure j8q(P:Program)(w:World)(K:PySem.W.Frag)(mg:Str->Option Value)(base:Heap)(k:Nat)(f:Addr)(fd:FuncData)(ps:List Str)(sp:Sp):Prop where
 len:∀ vs H Q E,sp vs H Q E->vs.length=ps.length
 run:∀ (A:Around) (outer:List Env) (s:Shared) (H:Hp) (args:Args) (us:List Value) (vs:List V) (Q:VK) (E:XK),j8p k A->j0n P w K mg base A outer s H->BindsTo s fd args (ps.zip us)->Vals vs us->sp vs H Q E ->
  codeAny (model P w) A (.call (.ref f) args) (CR CX0 outer P w H s Q E) s
theorem j8q.ok{P:Program}{w:World}{K:PySem.W.Frag}{mg:Str->Option Value}{base:Heap}{k:Nat}{f:Addr}{fd:FuncData}{ps:List Str}{sp:Sp}(F:j8q P w K mg base k f fd ps sp):a1h P w K mg base CX0 k f fd ps sp :=
 ⟨F.len,fun A outer s H args us vs Q E hr=>F.run A outer s H args us vs Q E hr.h⟩
section
variable {X:Cx}{k:Nat}{f:Addr}{fd:FuncData}{ps:List Str}{sp:Sp}{dvs:List V}{ds:List Value}{x:Str}{p pos:Pos}{e:Expr}{es:List Expr}{t:TA}
end
end L2
namespace L2
open PySem PySem.Spec PyProof.Rows
open PySem.Builtin.Str (occurrences subAt partsBetween strSub)
noncomputable abbrev sg(x:Str):List Nat:=x.cps.toList
theorem a9p{x y:Str}(h:sg x=sg y):x=y:=Str.ext' (by
 have:=congrArg List.toArray h
 simpa using this)
theorem a3r(x y:Str):sg (x++y)=sg x++sg y:=by unfold sg; rw [Str.cps_append]; simp
theorem a9g(x:Str):(sg x).length=x.length:=by simp [Str.length]
theorem i4g{x:Str}{c i:Nat}:StrLaws.At x ⟨#[c]⟩ x.length i ↔ (sg x)[i]? = some c:=StrLaws.subAt_one x c i
theorem f6y{c:Nat}:(⟨#[c]⟩:Str).length=1:=rfl
theorem h8m(x:Str)(i j:Nat):sg (strSub x i j)=((sg x).drop i).take (j - i):=StrLaws.strSub_toList x i j
theorem i4h{x h0 h1:Str}{c:Nat}(h:a5s x ⟨#[c]⟩ = [h0,h1]):sg x=sg h0++c :: sg h1:=by
 unfold a5s at h
 split at h
 ·cases h
 ·split at h
  ·cases h
  ·obtain⟨f,ch⟩:=StrLaws.occ_chain x ⟨#[c]⟩ (x.length+1)
   cases ho:occurrences x ⟨#[c]⟩ 0 x.length (x.length+1) with
   | nil=>rw [ho] at h; simp [partsBetween] at h
   | cons i r =>
    rw [ho] at h ch
    cases r with
    | cons j r=>simp [partsBetween] at h
    | nil =>
     obtain⟨_,ha,_⟩:=ch
     have hi:=i4g.mp ha
     simp only [partsBetween,List.map_cons,List.map_nil,List.cons_append,List.nil_append,List.zip_cons_cons,List.zip_nil_right,List.cons.injEq,and_true] at h
     obtain⟨rfl,rfl⟩:=h
     have hl:i < (sg x).length:=(List.getElem?_eq_some_iff.mp hi).1
     have hc:(sg x)[i]=c:=(List.getElem?_eq_some_iff.mp hi).2
     rw [h8m,h8m,f6y,List.drop_zero,Nat.sub_zero]
     have e1:((sg x).drop (i+1)).take (x.length - (i+1))=(sg x).drop (i+1):=List.take_of_length_le (by rw [List.length_drop,a9g]; exact Nat.le_refl _)
     rw [e1]
     conv=>lhs; rw [<- List.take_append_drop i (sg x),List.drop_eq_getElem_cons hl,hc]
theorem i8y{x:Str}{c:Nat}{a b:List Nat}(hk:c < 128)(h:sg x=a++c :: b)(ha:c∉a)(hb:c∉b):a5s x ⟨#[c]⟩ = [⟨a.toArray⟩,⟨b.toArray⟩]:=by
 have hl:x.length=a.length+(b.length+1):=by rw [<- a9g,h]; simp
 have k1:¬ ((decide (x.length < (⟨#[c]⟩:Str).length) || decide (Builtin.Str.strKind x < Builtin.Str.strKind ⟨#[c]⟩))=true):=by
  have e:Builtin.Str.strKind ⟨#[c]⟩=1:=by
   unfold Builtin.Str.strKind
   rw [if_pos (by simp; omega)]
  have g:1<=Builtin.Str.strKind x:=by
   unfold Builtin.Str.strKind
   split
   ·decide
   ·split <;> decide
  rw [e,f6y]
  simp only [Bool.or_eq_true,decide_eq_true_eq]
  omega
 have only:∀ i,StrLaws.At x ⟨#[c]⟩ x.length i->i=a.length:=by
  intro i hi
  have hi:=i4g.mp hi
  rw [h] at hi
  rcases Nat.lt_trichotomy i a.length with q | q | q
  ·rw [List.getElem?_append_left q] at hi
   exact absurd (List.mem_of_getElem? hi) ha
  ·exact q
  ·rw [List.getElem?_append_right (Nat.le_of_lt q)] at hi
   obtain⟨j,hj⟩:∃ j,i - a.length=j+1:=⟨i - a.length - 1,by omega⟩
   rw [hj,List.getElem?_cons_succ] at hi
   exact absurd (List.mem_of_getElem? hi) hb
 have there:StrLaws.At x ⟨#[c]⟩ x.length a.length:=i4g.mpr (by rw [h,List.getElem?_append_right (Nat.le_refl _),Nat.sub_self]; rfl)
 obtain⟨f,ch⟩:=StrLaws.occ_chain x ⟨#[c]⟩ (x.length+1)
 have ho:occurrences x ⟨#[c]⟩ 0 x.length (x.length+1) = [a.length]:=by
  rcases StrLaws.occ_head x ⟨#[c]⟩ (x.length+1) (by omega) with ⟨h0,hn⟩ | ⟨i,r,h0,hi,hn⟩
  ·exact absurd there (hn _)
  ·rw [h0] at ch ⊢
   have e:=only i hi
   subst e
   cases r with
   | nil=>rfl
   | cons j r =>
    obtain⟨_,_,q1,q2,_⟩:=ch
    have:=only j q2
    rw [f6y] at q1
    omega
 unfold a5s
 rw [if_neg k1,ho,if_neg (by simp)]
 simp only [partsBetween,List.map_cons,List.map_nil,List.cons_append,List.nil_append,List.zip_cons_cons,List.zip_nil_right,List.cons.injEq,and_true]
 constructor
 ·refine a9p ?_
  rw [h8m,h]
  simp
 ·refine a9p ?_
  rw [h8m,f6y,h,hl]
  have e:(a++c :: b).drop (a.length+1)=b:=by rw [List.drop_append]; simp
  rw [e,List.take_of_length_le (by omega)]
theorem split_le(x:Str)(c:Nat):(a5s x ⟨#[c]⟩).length<=x.length+2:=by
 unfold a5s
 split
 ·simp
 ·split
  ·simp
  ·have:=StrLaws.occ_length_le x ⟨#[c]⟩ 0 x.length (x.length+1)
   rw [length_partsBetween]
   omega
open PySem.NumText (AllDigits digitsVal digitsVal_snoc)
noncomputable def dg(n:Nat):List Nat:=(Nat.toDigits 10 n).map Char.toNat
theorem g2b(n:Nat):digitsVal (dg n)=n:=PySem.W.KIN.val_back n
theorem g5c{n:Nat}(h:n < 10):dg n = [n+48]:=by
 have:∀ d,d < 10->dg d = [d+48]:=by decide
 exact this n h
theorem f6z{m c:Nat}(hm:0 < m)(hc:c < 10):dg (10*m+c)=dg m++[c+48]:=by
 have t:Nat.toDigits 10 m++Nat.toDigits 10 c=Nat.toDigits 10 (10*m+c):=Nat.toDigits_append_toDigits (by decide) hm hc
 unfold dg
 rw [<- t,List.map_append]
 have:=g5c hc
 unfold dg at this
 rw [this]
theorem i0w(n:Nat):dg n≠[]:=by
 by_cases h:n < 10
 ·rw [g5c h]; simp
 ·have e:n=10*(n / 10)+n % 10:=by omega
  rw [e,f6z (by omega) (by omega)]
  simp
theorem d3r(n:Nat):AllDigits (dg n):=by
 induction n using Nat.strongRecOn with
 | _ n ih =>
  by_cases h:n < 10
  ·rw [g5c h]
   intro c hc
   simp at hc
   omega
  ·have e:n=10*(n / 10)+n % 10:=by omega
   rw [e,f6z (by omega) (by omega)]
   intro c hc
   rcases List.mem_append.mp hc with q | q
   ·exact ih (n / 10) (by omega) c q
   ·simp at q
    omega
theorem i4i{n:Nat}(h:0 < n):∃ c r,dg n=c :: r/\c≠48:=by
 induction n using Nat.strongRecOn with
 | _ n ih =>
  by_cases q:n < 10
  ·exact⟨n+48,[],g5c q,by omega⟩
  ·obtain⟨c,r,e,hc⟩:=ih (n / 10) (by omega) (by omega)
   have e2:n=10*(n / 10)+n % 10:=by omega
   refine⟨c,r++[n % 10+48],?_,hc⟩
   conv=>lhs; rw [e2]
   rw [f6z (by omega) (by omega),e]
   rfl
def Canon(ds:List Nat):Prop:=AllDigits ds/\ds≠[]/\∀ r,ds=48 :: r->r = []
theorem i8z(n:Nat):Canon (dg n):=by
 refine⟨d3r n,i0w n,fun r e=>?_⟩
 by_cases h:0 < n
 ·obtain⟨c,r',e',hc⟩:=i4i h
  rw [e'] at e
  cases e
  exact absurd rfl hc
 ·have:n=0:=by omega
  subst this
  rw [g5c (by decide)] at e
  cases e
  rfl
theorem i0x{ds:List Nat}(h:Canon ds):dg (digitsVal ds)=ds:=by
 generalize hn:ds.length=n
 induction n generalizing ds with
 | zero=>exact absurd (List.length_eq_zero_iff.mp hn) h.2.1
 | succ n ih =>
  obtain⟨hd,hne,hl⟩:=h
  have e:ds=ds.dropLast++[ds.getLast hne]:=(List.dropLast_concat_getLast hne).symm
  generalize ds.dropLast=cs at e
  generalize ds.getLast hne=c at e
  subst e
  have hc:=hd c (by simp)
  rw [digitsVal_snoc]
  by_cases q:cs = []
  ·subst q
   show dg (0*10+(c - 48))=_
   rw [g5c (by omega)]
   simp
   omega
  ·have k:Canon cs:=by
    refine⟨fun d hd'=>hd d (by simp [hd']),q,fun r er=>?_⟩
    subst er
    have:=hl (r++[c]) (by simp)
    simp at this
   have e:=ih k (by simp at hn; exact hn)
   have pos:0 < digitsVal cs:=by
    rcases Nat.eq_zero_or_pos (digitsVal cs) with z | z
    ·rw [z,g5c (by decide)] at e
     have e':cs = [48]:=e.symm
     subst e'
     have:=hl [c] (by simp)
     simp at this
    ·exact z
   rw [Nat.mul_comm,f6z pos (by omega),e]
   congr 2
   omega
theorem h8n:∀ {ds:List Nat},AllDigits ds->digitsVal ds < 10 ^ ds.length:=by
 intro ds
 generalize hn:ds.length=n
 induction n generalizing ds with
 | zero=>intro _; rw [List.length_eq_zero_iff.mp hn]; decide
 | succ n ih =>
  intro hd
  have hne:ds≠[]:=fun e=>by rw [e] at hn; cases hn
  have e:ds=ds.dropLast++[ds.getLast hne]:=(List.dropLast_concat_getLast hne).symm
  generalize ds.dropLast=cs at e
  generalize ds.getLast hne=c at e
  subst e
  have hc:=hd c (by simp)
  have:=ih (ds:=cs) (by simp at hn; exact hn) fun d hd'=>hd d (by simp [hd'])
  rw [digitsVal_snoc,Nat.pow_succ]
  omega
noncomputable def txt(t:Int):List Nat:=if t < 0 then 45 :: dg t.natAbs else dg t.natAbs
theorem d7p(t:Int):sg (Str.ofString (toString t))=txt t:=by
 unfold txt
 match t with
 | .ofNat m=>exact PySem.W.KIN.signs_num m
 | .negSucc m =>
  rw [if_pos (Int.negSucc_lt_zero m)]
  unfold sg
  rw [signs_ofString]
  show (("-" ++ Nat.repr (m + 1)).toList.map Char.toNat) = _
  rw [String.toList_append,List.map_append,Nat.toList_repr]
  rfl
theorem f7g{x:Str}{t:Int}(h:sg x=txt t)(hl:x.length<=4300):PySem.intText? x=some t:=by
 unfold txt at h
 split at h
 ·rename_i ht
  have:=intText_neg h (d3r _) (i0w _) hl
  rw [g2b] at this
  rw [this]
  congr 1
  omega
 ·rename_i ht
  have:=intText_digits (x:=x) (by rw [show x.cps.toList=sg x from rfl,h]; exact d3r _) (by rw [show x.cps.toList=sg x from rfl,h]; exact i0w _) hl
  rw [show x.cps.toList=sg x from rfl,h,g2b] at this
  rw [this]
  congr 1
  omega
theorem j8r(n:Nat):(dg n).length<=n.log2+1:=by
 induction n using Nat.strongRecOn with
 | _ n ih =>
  by_cases h:n < 10
  ·rw [g5c h]; simp
  ·have e:n=10*(n / 10)+n % 10:=by omega
   have i:=ih (n / 10) (by omega)
   have k:(n / 10).log2+1<=n.log2:=by
    rw [Nat.le_log2 (by omega),Nat.pow_succ]
    have:=Nat.log2_self_le (n:=n / 10) (by omega)
    omega
   have z:=f6z (m:=n / 10) (c:=n % 10) (by omega) (by omega)
   rw [<- e] at z
   rw [z]
   rw [List.length_append]
   simp only [List.length_cons,List.length_nil]
   omega
theorem h5p(t:Int):(txt t).length<=t.natAbs.log2+2:=by
 have:=j8r t.natAbs
 unfold txt
 split
 ·rw [List.length_cons]; omega
 ·omega
noncomputable def h8o(t b:Int):List Nat:=txt t++47 :: txt b
structure Good(x:List Nat)(t b:Int):Prop where
 eq:x=h8o t b
 pos:0 < b
 low:Int.gcd t b=1
 l1:(dg t.natAbs).length<=9
 l2:(dg b.natAbs).length<=9
noncomputable def h2v(l:List Nat):Bool:=l.all (fun c=>decide (48<=c) && decide (c<=57)) && !l.isEmpty
theorem d0s{l:List Nat}:h2v l=true ↔ AllDigits l/\l≠[]:=by
 unfold h2v AllDigits
 simp
theorem j3m (c : Nat) : j8m "0123456789" ⟨#[c]⟩ = (decide (48 ≤ c) && decide (c ≤ 57)) := by
 unfold j8m
 rw [StrLaws.found_one]
 have e : (Str.ofString "0123456789").cps.toList = [48, 49, 50, 51, 52, 53, 54, 55, 56, 57] := by decide +kernel
 rw [e]
 by_cases h:48<=c/\c<=57
 ·rw [show (decide (48<=c) && decide (c<=57))=true by simp [h]]
  rw [decide_eq_true_eq]
  simp
  omega
 ·rw [show (decide (48<=c) && decide (c<=57))=false by simp; omega]
  rw [decide_eq_false_iff_not]
  simp
  omega
theorem d3s{t:Int}{c:Nat}(h1:c≠45)(h2:c < 48\/57 < c):c∉txt t:=by
 unfold txt
 intro h
 split at h
 ·rcases List.mem_cons.mp h with q | q
  ·exact h1 q
  ·have:=d3r _ c q; omega
 ·have:=d3r _ c h; omega
theorem j8s(t:Int):(txt t).length<=(dg t.natAbs).length+1:=by
 unfold txt
 split
 ·rw [List.length_cons]; exact Nat.le_refl _
 ·exact Nat.le_succ _
theorem h8p(x:Str)(c:Nat):Txt.startswith x ⟨#[c]⟩=decide ((sg x)[0]? = some c):=by
 unfold Txt.startswith
 rw [Bool.eq_iff_iff,Bool.and_eq_true,decide_eq_true_eq,decide_eq_true_eq]
 exact StrLaws.subAt_one x c 0
theorem j8t{x:Str}{t:Int}(h:sg x=txt t):Txt.startswith x ⟨#[45]⟩=decide (t < 0):=by
 rw [h8p,h]
 unfold txt
 split
 ·rename_i q
  simp [q]
 ·rename_i q
  rw [decide_eq_false q,decide_eq_false_iff_not]
  intro e
  have:=d3r _ 45 (List.mem_of_getElem? e)
  omega
theorem i4j{x:Str}{i:Nat}(h:i<=x.length):sg (Txt.slice x (some (i:Int)) none)=(sg x).drop i:=by
 rw [slice_from_eq (b:=(x.length:Int)) (by omega) (by omega) rfl]
 simp only [sg,Int.toNat_natCast]
 rw [List.take_of_length_le]
 rw [List.length_drop]
 have:=a9g x
 unfold sg at this
 omega
end L2
namespace L2
open PySem PySem.Spec PyProof.Rows
section
variable {X:Cx}
noncomputable def j8u(K:PySem.W.Frag):List V->Hp->VK->Prop:=fun xs H Q=>match xs with
 | [.ref p]=>(match H p with
  | some (.lst ys)=>New H (.tup ys) Q ⟨⟩
  | some (.tup ys)=>Q (.ref p) H
  | _=>False)
 | _=>False
theorem g2c : c6j X (.type "tuple") (j8u X.K) := g8d.weak fun xs H Q h => by
 match xs,h with
 | [.ref p],h =>
  unfold j8u at h
  dsimp only at h
  split at h
  ·rename_i ys e
   exact⟨p,ys,rfl,.inl ⟨SqL.of e,h.raw⟩⟩
  ·rename_i ys e
   exact⟨p,ys,rfl,.inr ⟨SqT.of e,h⟩⟩
  ·exact h.elim
end
section
variable {X:Cx}
structure InsQ(K:PySem.W.Frag)(C:Addr):Prop where
 ha : PySem.W.findIn K (.ref C) "__class__" = some (some (.builtin "object.__class__"))
 hn : PySem.W.specialIn K (.builtin "object.__class__") "__get__" = some (some (.builtin "getset_descriptor.__get__"))
 htk : PySem.W.takesIn K (.builtin "object.__class__") = some true
 hm : PySem.W.mroIn K C (.type "object") = some true
noncomputable def rIsI(K:PySem.W.Frag):List V->Hp->VK->Prop:=fun xs H Q=>match xs with
 | [.ref a,.ref D]=>(match H a with
  | some (.ins C dx fs)=>Cls K C/\InsQ K C/\(match PySem.W.kitOne K (.ref C) (.ref D) with
   | some b=>Q (.bl b) H
   | none=>False)
  | _=>False)
 | _=>False
end
section
variable {X:Cx}{pos:Pos}
noncomputable def k3n:List V->Hp->VK->Prop:=fun xs H Q=>match xs with
 | [.int i,.int j]=>(0 < j/\j < 1073741824)/\New H (.tup [.int (i / j),.int (i % j)]) Q ⟨⟩
 | _=>False
noncomputable def j3n:TGs:=fun vs σ H Q=>match vs with
 | []=>Q σ H
 | _=>False
def g6n(t:TG)(u:TGs):TGs:=fun vs σ H Q=>match vs with
 | v :: r=>t v σ H fun σ' H'=>u r σ' H' Q
 | _=>False
def j3o(n:Nat)(t:TGs):TG:=fun v σ H Q=>match v with
 | .ref a=>(match H a with
  | some (.tup xs)=>xs.length=n/\t xs σ H Q
  | _=>False)
 | _=>False
theorem f0o:PGs X [] j3n:=by
 intro pins s σ H vs us Q I r h
 refine i3f pins s σ H vs us Q I r ?_
 unfold j3n at h
 split at h
 ·exact⟨rfl,h⟩
 ·exact h.elim
theorem a6r{e:Expr}{es:List Expr}{t:TG}{u:TGs}(h1:PG X e t)(h2:PGs X es u)
  (hs:(assignEach (e :: es) X.env).map (·.2)=assign e X.env :: (assignEach es X.env).map (·.2):=by rfl):PGs X (e :: es) (g6n t u):=by
 intro pins s σ H vs us Q I r h
 refine g8a h1 h2 hs pins s σ H vs us Q I r ?_
 unfold g6n at h
 split at h
 ·exact⟨_,_,rfl,h⟩
 ·exact h.elim
theorem f7h{es:List Expr}{k:Nat}{t:TGs}{n:Nat}(hc:X.calm=true)(h:PGs X es t)
  (hn:(assignEach es X.env).length=n:=by rfl) (hst:(assignEach es X.env).findIdx? (·.1)=none:=by rfl):PG X (.Tuple es k pos) (j3o n t):=by
 intro pins s σ H v u Q I r hw
 refine j0k hc h hn hst pins s σ H v u Q I r ?_
 unfold j3o at hw
 cases v with
 | ref a =>
  dsimp only at hw
  split at hw
  ·rename_i xs e
   exact⟨a,xs,rfl,SqT.of e,hw.1,hw.2⟩
  ·exact hw.elim
 | _=>exact False.elim hw
end
end L2
namespace L2
open PySem PySem.Spec PyProof.Rows
section
variable {X:Cx}{scope:Scope}{x:Str}{pins:List (Addr×Obj)}{σ:St}{elt iter cnd:Expr}{px pos:Pos}{wi:TI}{te:TE}{tc:TT}
end
section
variable {X:Cx}{k:Nat}{f C:Addr}{fd:FuncData}{ps:List Str}{sp:Sp}{dvs:List V}{ds:List Value}{E:XK}{x m:Str}{p pos apos:Pos}{e o:Expr}{es:List Expr}{ta:TE}{t:TA}
theorem i4k{pins:List (Addr×Obj)}{σ:St}{H:Hp}{s:Shared}{Q:VK}{us:List Value}{vs:List V}(M:Mk X.K C f)(F:a1h X.prog X.w X.K X.mg X.base (CXE X.prog X.w) k f fd ps sp)(hr:a2p (k+1) X.A)(hb:Binds X.K fd ps ds)(hd:Vals dvs ds)
  (I:Inv X pins σ H s) (r:Vals vs us)
  (h:∀ x dx,H x=none->H dx=none->dx≠x->sp (.ref x :: (vs++dvs)) (upd (upd H dx (.own x)) x (.ins C dx [])) (fun v H2=>v = .non/\Q (.ref x) H2) E) :
  wpAny (model X.prog X.w) X.A (call (.ref C) us) (EP X pins σ Q) (XPo X pins σ E) s:=by
 have hq:=h (s.heap.objs.size+1) s.heap.objs.size (I.hok.fresh (Nat.le_succ _)) (I.hok.fresh (Nat.le_refl _)) (Nat.ne_of_lt (Nat.lt_succ_self _))
 have I2:=Inv.made (C:=C) I
 have r2:Vals (V.ref (s.heap.objs.size+1) :: (vs++dvs)) (Value.ref (s.heap.objs.size+1) :: (us++ds)):=.cons rfl (r.append hd)
 have hl:(Value.ref (s.heap.objs.size+1) :: us++ds).length=ps.length:=by
  have e:=r2.length
  rw [F.len _ _ _ _ hq] at e
  exact e.symm
 refine wpAny_call (h8g (f:=f) I.kIn M.makes M.init (beq_iff_eq.mp M.fn) (codeAny_mono (F.run _ X.stack _ _ ⟨Value.ref (s.heap.objs.size+1) :: us,[]⟩ (Value.ref (s.heap.objs.size+1) :: (us++ds)) _ _ E (hr.make C us [])
  (I2.env0.make C us []) (hb _ (Value.ref (s.heap.objs.size+1) :: us) I2.kIn hl) r2 hq) fun r s' hq'=>?_))
 cases r with
 | error e=>exact⟨_,_,I2,hq'⟩
 | ok fl =>
  cases fl with
  | ret u =>
   obtain⟨v,H',I3,rv,ev,q3⟩:=I2.after hq'
   subst ev
   exact⟨rv,⟨V.ref (s.heap.objs.size+1),H',I3,rfl,q3⟩⟩
  | next=>exact False.elim hq'
  | brk=>exact False.elim hq'
  | cont=>exact False.elim hq'
theorem i4l(M:Mk X.K C f)(F:a1h X.prog X.w X.K X.mg X.base (CXE X.prog X.w) k f fd ps sp)(hr:a2p (k+1) X.A)(hg:Gl X x)(hm:X.mg x=some (.ref C))(hb:Binds X.K fd ps ds)(hd:Vals dvs ds)
  (ha : PA X.nox (e :: es) t) (hdb : (x == ("__debug__" : Str)) = false := by decide) (he : starEach (e :: es) X.env = (false, eval e X.env) :: starEach es X.env := by rfl) (hpl : (backTo pos (starEach es X.env)).any (·.1) = false := by rfl) :
  PEX X (.Call (.Name x p) (e :: es) [] pos) (j1e C sp dvs E t) E:=by
 intro pins s σ H Q I h
 refine wpAny_Call_Name_kw (d2h I hg hm ?_ hdb)
 refine PySem.W.callWith_K (h₀:=X.base) I.ok.mod.kin M.kp (wpAny_mono (ha pos pins s σ H _ (I.wish _) h) (fun us s1 ⟨vs,H1,I1,r,q⟩=>⟨I1.c0p.kIn,?_⟩) fun _ _ z=>False.elim z) he hpl
 exact i4k M F hr hb hd I1.c0p r q.raw
end
end L2
namespace L2
open PySem PySem.Spec PyProof.Rows
noncomputable def rSl3:V->Option Int->Hp->VK->Prop:=fun x st H Q=>match x with
 | .ref a=>(match H a with
  | some (.lst xs)=>st≠some 0/\∀ ys:List V,ys.length<=xs.length->(∀ y∈ys,y∈xs)->New H (.lst ys) Q ⟨⟩
  | _=>False)
 | _=>False
def tSl3(te:TE)(tl th ts:TO):TE:=fun σ H Q=>te σ H fun x H1=>tl σ H1 fun _ H2=>th σ H2 fun _ H3=>ts σ H3 fun st H4=>rSl3 x st H4 Q
section
variable {X:Cx}
end
section
variable {prog:Program}{w:World}{A:Around}{E:Value->Shared->Prop}{s:Shared}
end
noncomputable def rSetM:V->V->V->Hp->(Hp->Prop)->Prop:=fun o i v H Q=>match o,i with
 | .ref p,.int k=>(match H p with
  | some (.lst xs)=>(0<=k/\k < xs.length)/\∀ H1,b1u p H H1->H1 p=some (.lst (xs.set k.toNat v))->Q H1
  | _=>False)
 | _,_=>False
theorem h8q{K:PySem.W.Frag}{a D:Addr}{xs:List V}{te:TE}{σ:St}{H0 H:Hp}{Q:VK}(zs:List V)(hz:zs.length=xs.length)(n0:H0 D=none)(S:Same H0 H)(hD:H D=some (.lst []))(hS:SqL K H0 a xs)(hsz:xs.length<=sizeLine)
  (hs:∀ (i:Nat) x z H' (Q':VK),xs[i]? = some x->zs[i]? = some z->Same H0 H'->Q' z H'->te (some x :: σ) H' Q') (q:∀ H',Same H0 H'->H' D=some (.lst zs)->Q (.ref D) H'):g0x (Itl K a) te D σ H Q ⟨⟩:=by
 refine c0t (fun i ys H'=>Same H0 H'/\H' D=some (.lst ys)/\ys=zs.take i) ⟨S,hD,by simp⟩ hsz (fun i ys H' hi p=>?_) (fun i x ys H' hx p=>?_) (fun ys H' p=>?_)
 ·refine⟨p.2.1,p.1.seq hS,?_⟩
  rw [p.2.2,List.length_take]
  omega
 ·have hi:i < zs.length:=by rw [hz]; exact (List.getElem?_eq_some_iff.mp hx).1
  have hzi:zs[i]? = some zs[i]:=List.getElem?_eq_getElem hi
  refine hs i x _ H' _ hx hzi p.1 ⟨p.2.1,fun H3 s3 h3=>⟨p.1.step n0 s3,h3,?_⟩⟩
  rw [p.2.2,List.take_add_one,hzi]
  rfl
 ·refine q H' p.1 ?_
  rw [p.2.1,p.2.2,<- hz,List.take_length]
end L2
namespace L2
open PySem PySem.Spec PyProof.Rows
section
variable {X:Cx}{pins:List (Addr×Obj)}{σ:St}{H:Hp}{s:Shared}
theorem Inv.i4m{t':Nat}{h':Heap}{fp:List Addr}(I:Inv X pins σ H s)(k:∀ b o,b∉fp->s.heap.get? b=some o->h'.get? b=some o)(hf:∀ b∈fp,g0v X pins H b):Inv X pins σ H { s with heap:=h',toks:=t' }:=by
 have nit:∀ b u,H b=some u->b∉fp:=fun b u e z=>by rw [(hf b z).1] at e; cases e
 refine I.call' (s':={ s with heap:=h',toks:=t' }) (ch:=fp) rfl ⟨fun b o e n hb hx=>k b o hx e,fun b o e n hb hx=>⟨o.slots,k b o hx e⟩,fun _ _ _ n _=>n,fun b o e hx=>⟨o,k b o hx e⟩,fun _ _ q=>q,fun _ _ _ q=>q,fun _ ps q=>⟨#[],by rw [q]; simp⟩⟩ ?_ I.bare fun b hb=>⟨(hf b hb).2.2.2.1,(hf b hb).2.1,(hf b hb).2.2.2.2.1,(hf b hb).2.2.2.2.2⟩
 intro b u e
 refine (I.hok b u e).stay (fun c v hc q=>k c v ?_ q) (fun _ q=>q) fun _ _ q=>q
 rcases hc with z | z
 ·rw [z]; exact nit b u e
 ·exact nit c _ z
end
def ItB (b : Bool) (h : Heap) (it l : Addr) (i : Nat) : Prop := ∃ o, h.get? it = some o ∧ o.cls = .type (cond b "list_iterator" "tuple_iterator") ∧ o.data = .fields #[.ref l, .int i 0]
def SqB (b : Bool) (h : Heap) (l : Addr) (items : Array Value) : Prop := ∃ o, h.get? l = some o ∧ o.cls = .type (cond b "list" "tuple") ∧ ∃ n, o.data = .seq items n
theorem ItB.at{b:Bool}{h h':Heap}{it l:Addr}{i:Nat}(x:ItB b h it l i)(k:∀ o,h.get? it=some o->h'.get? it=some o):ItB b h' it l i:=let ⟨o,e,r⟩:=x; ⟨o,k o e,r⟩
theorem SqB.at{b:Bool}{h h':Heap}{l:Addr}{items:Array Value}(x:SqB b h l items)(k:∀ o,h.get? l=some o->h'.get? l=some o):SqB b h' l items:=let ⟨o,e,r⟩:=x; ⟨o,k o e,r⟩
section
variable {prog:Program}{w:World}{A:Around}{E:Value->Shared->Prop}{s:Shared}
theorem h5q{it t:Addr}{i:Nat}{items:Array Value}{x:Value}{Q:Value->Shared->Prop}(hit:s.heap.IsTupleIter it t i)(ht:s.heap.IsTuple t items)(hx:items[i]? = some x)
  (hQ:∀ h',h'.IsTupleIter it t (i+1)->Heap.SameBut it s.heap h'->Q x { s with heap:=h' }):wpAny (model prog w) A (Builtin.SmallTypes.nextOf (.ref it)) Q E s:=by
 obtain⟨o,ho,hc,hd⟩:=id hit
 obtain⟨ol,hol,_,nl,hdl⟩:=ht
 unfold Builtin.SmallTypes.nextOf
 refine wpAny_bind (wpAny_callSpecial?_slot (name := Str.ofString "__next__") hit.typeIs F.slot_tuple_iterator_next
  (wpAny_call_entry F.slot_tuple_iterator_next hit.typeIs F.entry_tuple_iterator_next ?_ (F.args_tuple_iterator_next_1 _)))
 show wpAny _ _ (field (.ref it) 0 >>= _) _ _ s
 refine wpAny_bind (wpAny_field ho hd (x:=.ref t) rfl ?_)
 show wpAny _ _ (if (Value.ref t == Value.none)=true then _ else _) _ _ s
 rw [if_neg (show ¬ ((Value.ref t == Value.none)=true) from Bool.false_ne_true)]
 show wpAny _ _ (field (.ref it) 1 >>= _) _ _ s
 refine wpAny_bind (wpAny_field ho hd (x:=.int i 0) rfl ?_)
 show wpAny _ _ (seqItems? (.ref t) >>= _) _ _ s
 refine wpAny_bind (wpAny_seqItems hol hdl ?_)
 simp only [Int.toNat_natCast,hx]
 refine wpAny_bind (wpAny_setField ho hd (by simp) (wpAny_pure ⟨x,rfl,wpAny_pure (hQ _ ?_ (Heap.SameBut.update ..))⟩))
 exact⟨_,Heap.get?_update_self _ ho (Obj.isFreed_of_fields (Obj.data_mapFields hd _)),(Obj.cls_mapFields ..).trans hc,by
  rw [Obj.data_mapFields hd]; simp [rawInt]⟩
theorem i0y{it t:Addr}{i:Nat}{items:Array Value}{Q:Value->Shared->Prop}(hh:A.handled=none)(hit:s.heap.IsTupleIter it t i)(ht:s.heap.IsTuple t items)(hx:items[i]? = none)
  (hE : ∀ h' e, Heap.ExtBut it s.heap h' → (∃ o, h'.get? e = some o ∧ o.cls = .type "StopIteration") → E (.ref e) { s with heap := h' }) : wpAny (model prog w) A (Builtin.SmallTypes.nextOf (.ref it)) Q E s := by
 obtain⟨o,ho,hc,hd⟩:=id hit
 obtain⟨ol,hol,_,nl,hdl⟩:=ht
 unfold Builtin.SmallTypes.nextOf
 refine wpAny_bind (wpAny_callSpecial?_slot (name := Str.ofString "__next__") hit.typeIs F.slot_tuple_iterator_next
  (wpAny_call_entry F.slot_tuple_iterator_next hit.typeIs F.entry_tuple_iterator_next ?_ (F.args_tuple_iterator_next_1 _)))
 show wpAny _ _ (field (.ref it) 0 >>= _) _ _ s
 refine wpAny_bind (wpAny_field ho hd (x:=.ref t) rfl ?_)
 show wpAny _ _ (if (Value.ref t == Value.none)=true then _ else _) _ _ s
 rw [if_neg (show ¬ ((Value.ref t == Value.none)=true) from Bool.false_ne_true)]
 show wpAny _ _ (field (.ref it) 1 >>= _) _ _ s
 refine wpAny_bind (wpAny_field ho hd (x:=.int i 0) rfl ?_)
 show wpAny _ _ (seqItems? (.ref t) >>= _) _ _ s
 refine wpAny_bind (wpAny_seqItems hol hdl ?_)
 simp only [Int.toNat_natCast,hx]
 refine wpAny_bind (wpAny_rule (wpAny_bind (wpAny_setField ho hd (by simp) ?_)))
 show wpAny _ _ (newExc (.type "StopIteration") [] >>= _) _ _ _
 refine wpAny_bind ?_
 simp only [newExc,newTuple]
 refine wpAny_bind (wpAny_newObj_type ?_ (by size_fits))
 refine wpAny_bind (m:=firstArgMember _ _) (wpAny_of_eq (a:=Value.none) (by first | rfl | (simp only [firstArgMember]; rfl)) ?_)
 refine wpAny_newObj_type ?_ (by size_fits)
 simp only [raiseNew]
 refine wpAny_bind (wpAny_handled ?_)
 first | rw [show A.in1.handled=none from hh] | rw [hh]
 refine wpAny_bind (wpAny_pure (wpAny_throw ?_))
 exact hE _ _ (((Heap.SameBut.update ..).extBut.push _).push _) ⟨_,Heap.get?_push_size _ rfl,rfl⟩
theorem h5r{b:Bool}{it l:Addr}{i:Nat}{items:Array Value}{x:Value}{Q:Value->Shared->Prop}(hit:ItB b s.heap it l i)(hl:SqB b s.heap l items)(hx:items[i]? = some x)
  (hQ:∀ h',ItB b h' it l (i+1)->Heap.SameBut it s.heap h'->Q x { s with heap:=h' }):wpAny (model prog w) A (Builtin.SmallTypes.nextOf (.ref it)) Q E s:=by
 cases b with
 | true=>exact wpAny_nextOf_list_item hit hl hx hQ
 | false=>exact h5q hit hl hx hQ
theorem j1g{b:Bool}{it l:Addr}{i:Nat}{items:Array Value}{Q:Value->Shared->Prop}(hh:A.handled=none)(hit:ItB b s.heap it l i)(hl:SqB b s.heap l items)(hx:items[i]? = none)
  (hE : ∀ h' e, Heap.ExtBut it s.heap h' → (∃ o, h'.get? e = some o ∧ o.cls = .type "StopIteration") → E (.ref e) { s with heap := h' }) : wpAny (model prog w) A (Builtin.SmallTypes.nextOf (.ref it)) Q E s := by
 cases b with
 | true=>exact wpAny_nextOf_list_end hh hit hl hx hE
 | false=>exact i0y hh hit hl hx hE
noncomputable def itO (b : Bool) (l : Addr) : Obj := { cls := .type (cond b "list_iterator" "tuple_iterator"), data := .fields #[.ref l, .int 0 0] }
theorem j8v{b:Bool}{l:Addr}{items:Array Value}{Q:Value->Shared->Prop}(hl:SqB b s.heap l items)(hQ:Q (.ref s.heap.objs.size) { s with heap:=s.heap.push (itO b l) }):wpAny (model prog w) A (pyIter (.ref l)) Q E s:=by
 cases b with
 | true=>exact wpAny_pyIter_list hl hQ
 | false=>exact wpAny_pyIter_tuple hl hQ
theorem i4n{b1 b2:Bool}{z TI TO i1 i2 l1 l2:Addr}{k:Nat}{xs ys:Array Value}{x y a b:Value}{Q:Option Value->Shared->Prop}(D:ZipApart z TI TO i1 i2 l1 l2)
  (hz:IsZip s.heap z TI TO .none) (hTI:IsPair s.heap TI (.ref i1) (.ref i2)) (hTO:IsPair s.heap TO a b)
  (h1:ItB b1 s.heap i1 l1 k) (h2:ItB b2 s.heap i2 l2 k) (hl1:SqB b1 s.heap l1 xs) (hl2:SqB b2 s.heap l2 ys) (hx:xs[k]? = some x) (hy:ys[k]? = some y)
  (hQ:∀ h',IsZip h' z TI TO (rawInt s.heap.objs.size)->IsPair h' TO x y->ItB b1 h' i1 l1 (k+1)->ItB b2 h' i2 l2 (k+1)->IsPair h' s.heap.objs.size x y ->
   (∀ c o,c≠z->c≠TO->c≠i1->c≠i2->s.heap.get? c=some o->h'.get? c=some o)->Q (some (.ref s.heap.objs.size)) { s with heap:=h' }) :
  wpAny (model prog w) A (pyNext (.ref z)) Q E s:=by
 have hT : s.TypeIs (.ref z) "zip" := ⟨_, hz, rfl⟩
 unfold pyNext
 refine wpAny_bind (wpAny_attempt (wpAny_callSpecial?_slot (name := Str.ofString "__next__") hT F.slot_zip_next (wpAny_call_entry F.slot_zip_next hT F.entry_zip_next ?_ (F.args_zip_next_1 _))))
 show wpAny _ _ (field (.ref z) 2 >>= _) _ _ _
 refine wpAny_bind (wpAny_field hz rfl (x:=.bool false) rfl ?_)
 show wpAny _ _ (field (.ref z) 3 >>= _) _ _ _
 refine wpAny_bind (wpAny_field hz rfl (x:=.ref TI) rfl ?_)
 refine wpAny_bind (wpAny_seqItems hTI rfl ?_)
 show wpAny _ _ (Builtin.SmallTypes.ownedTupleIsFree (.ref z) >>= _) _ _ _
 refine wpAny_bind ?_
 unfold Builtin.SmallTypes.ownedTupleIsFree
 refine wpAny_bind (wpAny_field hz rfl (x:=.none) rfl (wpAny_pure ?_))
 simp only [if_true]
 refine wpAny_bind (wpAny_rule ?_)
 refine wpAny_bind (wpAny_field hz rfl (x:=.ref TO) rfl ?_)
 refine wpAny_bind (wpAny_setField_rec hz (by simp) fun g1 hz1 s1=>?_)
 replace hz1:IsZip g1 z TI TO .ellipsis:=hz1
 refine wpAny_bind ?_
 simp only [List.zipIdx_cons,List.zipIdx_nil,List.forIn_cons,List.forIn_nil]
 refine wpAny_bind (wpAny_bind (wpAny_onRaise ?_))
 show wpAny _ _ (Builtin.SmallTypes.nextOf (.ref i1) >>= _) _ _ _
 refine wpAny_bind (h5r (h1.at fun o e=>s1.extBut _ _ D.i1z e) (hl1.at fun o e=>s1.extBut _ _ D.l1z e) hx fun g2 h12 s2=>wpAny_pure ?_)
 have j8w:IsPair g2 TO a b:=s2.extBut _ _ D.TOi1 (s1.extBut _ _ D.TOz hTO)
 refine wpAny_bind (wpAny_seqItems j8w rfl ?_)
 refine wpAny_bind (wpAny_updateSeq_pair j8w fun g3 hTO3 s3=>?_)
 replace hTO3:IsPair g3 TO x b:=hTO3
 refine wpAny_bind (wpAny_letGo (wpAny_pure ?_))
 refine wpAny_bind (wpAny_bind (wpAny_onRaise ?_))
 show wpAny _ _ (Builtin.SmallTypes.nextOf (.ref i2) >>= _) _ _ _
 refine wpAny_bind (h5r (h2.at fun o e=>s3.extBut _ _ D.TOi2.symm (s2.extBut _ _ D.i12.symm (s1.extBut _ _ D.i2z e))) (hl2.at fun o e=>s3.extBut _ _ D.l2TO (s2.extBut _ _ D.l2i1 (s1.extBut _ _ D.l2z e))) hy fun g4 h24 s4=>wpAny_pure ?_)
 have k5r:IsPair g4 TO x b:=s4.extBut _ _ D.TOi2 hTO3
 refine wpAny_bind (wpAny_seqItems k5r rfl ?_)
 refine wpAny_bind (wpAny_updateSeq_pair k5r fun g5 hTO5 s5=>?_)
 replace hTO5:IsPair g5 TO x y:=hTO5
 refine wpAny_bind (wpAny_letGo (wpAny_pure (wpAny_pure ?_)))
 refine wpAny_bind (wpAny_seqItems hTO5 rfl ?_)
 refine wpAny_bind (wpAny_newTuple ?_)
 have hsz:g5.objs.size=s.heap.objs.size:=by rw [s5.1,s4.1,s3.1,s2.1,s1.1]
 have hz5:IsZip g5 z TI TO .ellipsis:=s5.extBut _ _ D.TOz.symm (s4.extBut _ _ D.i2z.symm (s3.extBut _ _ D.TOz.symm (s2.extBut _ _ D.i1z.symm hz1)))
 have h15:ItB b1 g5 i1 l1 (k+1):=h12.at fun o e=>s5.extBut _ _ D.TOi1.symm (s4.extBut _ _ D.i12 (s3.extBut _ _ D.TOi1.symm e))
 have h25:ItB b2 g5 i2 l2 (k+1):=h24.at fun o e=>s5.extBut _ _ D.TOi2.symm e
 have hzlt:z < g5.objs.size:=Heap.lt_size hz5
 show wpAny _ _ (Builtin.SmallTypes.ownedTupleHandOut (.ref z) (.ref g5.objs.size) >>= _) _ _ _
 refine wpAny_bind ?_
 unfold Builtin.SmallTypes.ownedTupleHandOut
 have hz6 : IsZip (g5.push { cls := .type "tuple", data := .seq #[x, y] }) z TI TO .ellipsis := Heap.get?_push_of_some _ hz5
 refine wpAny_bind (wpAny_setField_rec hz6 (by simp) fun g7 hz7 s7=>?_)
 replace hz7:IsZip g7 z TI TO (rawInt g5.objs.size):=hz7
 refine wpAny_setField_rec hz7 (by simp) fun g8 hz8 s8=>?_
 replace hz8:IsZip g8 z TI TO (rawInt g5.objs.size):=hz8
 have up:∀ c o,c≠z->g5.get? c=some o->g8.get? c=some o:=fun c o c1 e=>s8.extBut _ _ c1 (s7.extBut _ _ c1 (Heap.get?_push_of_some _ e))
 have hT8:IsPair g8 g5.objs.size x y:=s8.extBut _ _ (Nat.ne_of_gt hzlt) (s7.extBut _ _ (Nat.ne_of_gt hzlt) (Heap.get?_push_size _ rfl))
 rw [hsz] at hz8 hT8
 refine wpAny_pure ⟨_,rfl,wpAny_pure ?_⟩
 show Q (some (.ref g5.objs.size)) _
 rw [hsz]
 exact hQ g8 hz8 (up _ _ D.TOz hTO5) (h15.at fun o e=>up _ o D.i1z e) (h25.at fun o e=>up _ o D.i2z e) hT8 fun c o c1 c2 c3 c4 e =>
  up c o c1 (s5.extBut _ _ c2 (s4.extBut _ _ c4 (s3.extBut _ _ c2 (s2.extBut _ _ c3 (s1.extBut _ _ c1 e)))))
theorem i9a{b1 b2:Bool}{z TI TO i1 i2 l1 l2:Addr}{k:Nat}{xs ys:Array Value}{a b:Value}{Q:Option Value->Shared->Prop}(hh:A.handled=none)(D:ZipApart z TI TO i1 i2 l1 l2)
  (hz:IsZip s.heap z TI TO .none) (hTI:IsPair s.heap TI (.ref i1) (.ref i2)) (hTO:IsPair s.heap TO a b)
  (h1:ItB b1 s.heap i1 l1 k) (h2:ItB b2 s.heap i2 l2 k) (hl1:SqB b1 s.heap l1 xs) (hl2:SqB b2 s.heap l2 ys) (hend:xs[k]? = none\/ys[k]? = none)
  (hQ:∀ h',(∀ c o,c≠z->c≠TO->c≠i1->c≠i2->s.heap.get? c=some o->h'.get? c=some o)->Q none { s with heap:=h' }):wpAny (model prog w) A (pyNext (.ref z)) Q E s:=by
 have hT : s.TypeIs (.ref z) "zip" := ⟨_, hz, rfl⟩
 unfold pyNext
 have fin : ∀ (h' : Heap) (e : Addr), (∀ c o, c ≠ z → c ≠ TO → c ≠ i1 → c ≠ i2 → s.heap.get? c = some o → h'.get? c = some o) → (∃ o, h'.get? e = some o ∧ o.cls = .type "StopIteration") →
   wpAny (model prog w) A (isInstance (.ref e) (.type "StopIteration") >>= fun b => if b = true then pure none else throw (.ref e)) Q E { s with heap := h' } := fun h' e hk he => by
  obtain⟨o,ho,hc⟩:=he
  refine wpAny_bind (wpAny_isInstance (T := "StopIteration") (b := true) ⟨o, ho, hc⟩ isSubtype_stop ?_)
  exact wpAny_pure (hQ _ hk)
 refine wpAny_bind (wpAny_attempt (wpAny_callSpecial?_slot (name := Str.ofString "__next__") hT F.slot_zip_next (wpAny_call_entry F.slot_zip_next hT F.entry_zip_next ?_ (F.args_zip_next_1 _))))
 show wpAny _ _ (field (.ref z) 2 >>= _) _ _ _
 refine wpAny_bind (wpAny_field hz rfl (x:=.bool false) rfl ?_)
 show wpAny _ _ (field (.ref z) 3 >>= _) _ _ _
 refine wpAny_bind (wpAny_field hz rfl (x:=.ref TI) rfl ?_)
 refine wpAny_bind (wpAny_seqItems hTI rfl ?_)
 show wpAny _ _ (Builtin.SmallTypes.ownedTupleIsFree (.ref z) >>= _) _ _ _
 refine wpAny_bind ?_
 unfold Builtin.SmallTypes.ownedTupleIsFree
 refine wpAny_bind (wpAny_field hz rfl (x:=.none) rfl (wpAny_pure ?_))
 simp only [if_true]
 refine wpAny_bind (wpAny_rule ?_)
 refine wpAny_bind (wpAny_field hz rfl (x:=.ref TO) rfl ?_)
 refine wpAny_bind (wpAny_setField_rec hz (by simp) fun g1 hz1 s1=>?_)
 replace hz1:IsZip g1 z TI TO .ellipsis:=hz1
 refine wpAny_bind ?_
 simp only [List.zipIdx_cons,List.zipIdx_nil,List.forIn_cons,List.forIn_nil]
 refine wpAny_bind (wpAny_bind (wpAny_onRaise ?_))
 show wpAny _ _ (Builtin.SmallTypes.nextOf (.ref i1) >>= _) _ _ _
 cases hx:xs[k]? with
 | none =>
  refine wpAny_bind (j1g hh (h1.at fun o e=>s1.extBut _ _ D.i1z e) (hl1.at fun o e=>s1.extBut _ _ D.l1z e) hx fun g2 e s2 he=>?_)
  obtain⟨oe,hoe,hce⟩:=he
  have hz2:IsZip g2 z TI TO .ellipsis:=s2 _ _ D.i1z.symm hz1
  have hez:e≠z:=fun x=>by subst x; rw [hz2] at hoe; cases hoe; simp at hce
  exact wpAny_setField_rec hz2 (by simp) fun g3 _ s3=>fin g3 e (fun c o c1 _ c3 _ x=>s3.extBut _ _ c1 (s2 _ _ c3 (s1.extBut _ _ c1 x))) ⟨oe,s3.extBut _ _ hez hoe,hce⟩
 | some x =>
  have hy:ys[k]? = none:=by
   rcases hend with h | h
   ·rw [hx] at h; cases h
   ·exact h
  refine wpAny_bind (h5r (h1.at fun o e=>s1.extBut _ _ D.i1z e) (hl1.at fun o e=>s1.extBut _ _ D.l1z e) hx fun g2 h12 s2=>wpAny_pure ?_)
  have j8w:IsPair g2 TO a b:=s2.extBut _ _ D.TOi1 (s1.extBut _ _ D.TOz hTO)
  refine wpAny_bind (wpAny_seqItems j8w rfl ?_)
  refine wpAny_bind (wpAny_updateSeq_pair j8w fun g3 hTO3 s3=>?_)
  refine wpAny_bind (wpAny_letGo (wpAny_pure ?_))
  refine wpAny_bind (wpAny_bind (wpAny_onRaise ?_))
  show wpAny _ _ (Builtin.SmallTypes.nextOf (.ref i2) >>= _) _ _ _
  refine wpAny_bind (j1g hh (h2.at fun o e=>s3.extBut _ _ D.TOi2.symm (s2.extBut _ _ D.i12.symm (s1.extBut _ _ D.i2z e))) (hl2.at fun o e=>s3.extBut _ _ D.l2TO (s2.extBut _ _ D.l2i1 (s1.extBut _ _ D.l2z e))) hy fun g4 e s4 he=>?_)
  obtain⟨oe,hoe,hce⟩:=he
  have hz4:IsZip g4 z TI TO .ellipsis:=s4 _ _ D.i2z.symm (s3.extBut _ _ D.TOz.symm (s2.extBut _ _ D.i1z.symm hz1))
  have hez:e≠z:=fun x=>by subst x; rw [hz4] at hoe; cases hoe; simp at hce
  exact wpAny_setField_rec hz4 (by simp) fun g5 _ s5=>fin g5 e (fun c o c1 c2 c3 c4 x=>s5.extBut _ _ c1 (s4 _ _ c4 (s3.extBut _ _ c2 (s2.extBut _ _ c3 (s1.extBut _ _ c1 x))))) ⟨oe,s5.extBut _ _ hez hoe,hce⟩
noncomputable abbrev zB1(b1:Bool)(h:Heap)(l1:Addr):Heap:=h.push (itO b1 l1)
noncomputable abbrev zB2(b1 b2:Bool)(h:Heap)(l1 l2:Addr):Heap:=(zB1 b1 h l1).push (itO b2 l2)
noncomputable abbrev zB3 (b1 b2 : Bool) (h : Heap) (l1 l2 : Addr) : Heap := (zB2 b1 b2 h l1 l2).push { cls := .type "tuple", data := .seq #[.ref h.objs.size, .ref (zB1 b1 h l1).objs.size] }
noncomputable abbrev zB4 (b1 b2 : Bool) (h : Heap) (l1 l2 : Addr) : Heap := (zB3 b1 b2 h l1 l2).push { cls := .type "tuple", data := .seq #[.none, .none] }
noncomputable abbrev zB5 (b1 b2 : Bool) (h : Heap) (l1 l2 : Addr) : Heap := (zB4 b1 b2 h l1 l2).push { cls := .type "zip", data := .fields #[.none, .bool false, .bool false, .ref (zB2 b1 b2 h l1 l2).objs.size, .ref (zB3 b1 b2 h l1 l2).objs.size] }
theorem i0z(b1 b2:Bool)(l1 l2:Addr)(xs ys:Array Value) :
  Meets (Builtin.«zip.__new__» ⟨[.type "zip", .ref l1, .ref l2], []⟩) (fun _ R s => SqB b1 s.heap l1 xs ∧ SqB b2 s.heap l2 ys ∧
   R (.ok (.ret (.ref (zB4 b1 b2 s.heap l1 l2).objs.size))) { s with heap:=zB5 b1 b2 s.heap l1 l2 }) :=
 .of_wp fun prog w A R s h=>by
  obtain⟨hp,g,d,tk,os⟩:=s; obtain⟨hl1,hl2,h⟩:=h
  have hsub:=sub_zip
  have hL1:SqB b1 (Shared.heap ⟨hp,g,d,tk,os⟩) l1 xs:=hl1
  have hL2:SqB b2 (Shared.heap ⟨hp.push (itO b1 l1),g,d,tk,os⟩) l2 ys:=hl2.at fun o e=>Heap.get?_push_of_some _ e
  wp_walk using j8v hL1,j8v hL2
  exact⟨_,rfl,h⟩
theorem i9b{b1 b2:Bool}{l1 l2:Addr}{xs ys:Array Value}{Q:Value->Shared->Prop}(hl1:SqB b1 s.heap l1 xs)(hl2:SqB b2 s.heap l2 ys)
  (h:∀ h',IsZip h' (s.heap.objs.size+4) (s.heap.objs.size+2) (s.heap.objs.size+3) .none->IsPair h' (s.heap.objs.size+2) (.ref s.heap.objs.size) (.ref (s.heap.objs.size+1)) ->
   IsPair h' (s.heap.objs.size+3) .none .none->ItB b1 h' s.heap.objs.size l1 0->ItB b2 h' (s.heap.objs.size+1) l2 0 ->
   (∀ c o,s.heap.get? c=some o->h'.get? c=some o)->Q (.ref (s.heap.objs.size+4)) { s with heap:=h' }) :
  wpAny (model prog w) A (call (.type "zip") [.ref l1, .ref l2]) Q E s := by
 refine callType_new F.called_zip (by decide) (F.typeCall_zip_2 _ _) (F.newCall_zip_2 _ _) (fun obj=>F.args_object_init_3 obj _ _) F.entry_zip_new
  (i0z b1 b2 l1 l2 xs ys) ⟨hl1,hl2,?_⟩
 have z1:(zB1 b1 s.heap l1).objs.size=s.heap.objs.size+1:=Heap.size_push ..
 have z2:(zB2 b1 b2 s.heap l1 l2).objs.size=s.heap.objs.size+2:=by rw [Heap.size_push,z1]
 have z3:(zB3 b1 b2 s.heap l1 l2).objs.size=s.heap.objs.size+3:=by rw [Heap.size_push,z2]
 have z4:(zB4 b1 b2 s.heap l1 l2).objs.size=s.heap.objs.size+4:=by rw [Heap.size_push,z3]
 have g5:(zB5 b1 b2 s.heap l1 l2).get? (zB4 b1 b2 s.heap l1 l2).objs.size=some _:=Heap.get?_push_size _ rfl
 have g4:(zB5 b1 b2 s.heap l1 l2).get? (zB3 b1 b2 s.heap l1 l2).objs.size=some _:=Heap.get?_push_of_some _ (Heap.get?_push_size _ rfl)
 have g3:(zB5 b1 b2 s.heap l1 l2).get? (zB2 b1 b2 s.heap l1 l2).objs.size=some _:=Heap.get?_push_of_some _ (Heap.get?_push_of_some _ (Heap.get?_push_size _ rfl))
 have g2:(zB5 b1 b2 s.heap l1 l2).get? (zB1 b1 s.heap l1).objs.size=some (itO b2 l2):=Heap.get?_push_of_some _ (Heap.get?_push_of_some _ (Heap.get?_push_of_some _ (Heap.get?_push_size _ rfl)))
 have g1:(zB5 b1 b2 s.heap l1 l2).get? s.heap.objs.size=some (itO b1 l1):=Heap.get?_push_of_some _ (Heap.get?_push_of_some _ (Heap.get?_push_of_some _ (Heap.get?_push_of_some _ (Heap.get?_push_size _ rfl))))
 show _/\_
 rw [z2,z3,z4] at g5
 rw [z1,z2] at g3
 rw [z3] at g4
 rw [z1] at g2
 rw [z4]
 exact⟨⟨_,g5,rfl⟩,h _ g5 g3 g4 ⟨_,g1,rfl,rfl⟩ ⟨_,g2,rfl,rfl⟩ fun c o x =>
  Heap.get?_push_of_some _ (Heap.get?_push_of_some _ (Heap.get?_push_of_some _ (Heap.get?_push_of_some _ (Heap.get?_push_of_some _ x))))⟩
end
def SqK(b:Bool)(K:PySem.W.Frag)(H:Hp)(l:Addr)(xs:List V):Prop:=match b with
 | true=>SqL K H l xs
 | false=>SqT K H l xs
theorem Inv.j5w{X:Cx}{pins:List (Addr×Obj)}{σ:St}{H:Hp}{s:Shared}{b:Bool}{l:Addr}{xs:List V}(I:Inv X pins σ H s)(h:SqK b X.K H l xs):∃ its:List Value,Vals xs its/\SqB b s.heap l its.toArray/\xs.length<=sizeLine:=by
 cases b with
 | true =>
  obtain⟨its,r,p,z⟩:=I.list h
  exact⟨its,r,p.isList,z⟩
 | false =>
  obtain⟨its,r,p,z⟩:=I.tuple h
  exact⟨its,r,p,z⟩
theorem Inv.h8r{X:Cx}{pins:List (Addr×Obj)}{σ:St}{H:Hp}{s:Shared}{b:Bool}{l:Addr}{xs ys:List V}(I:Inv X pins σ H s)(h:SqK b X.K H l xs)(h':SqK b X.K H l ys):xs=ys:=by
 cases b with
 | true=>exact I.h8f h h'
 | false=>exact I.h1u h h'
noncomputable def Itz(K:PySem.W.Frag)(b1 b2:Bool)(l1 l2:Addr):It :=
 ⟨fun i H=>∃ xs ys x y,SqK b1 K H l1 xs/\SqK b2 K H l2 ys/\xs[i]? = some x/\ys[i]? = some y,
  fun i H v H'=>∃ p x y,v = .ref p ∧ H p=none ∧ H'=upd H p (.tup [x,y]) ∧ (∀ xs,SqK b1 K H l1 xs → xs[i]? = some x) ∧ ∀ ys,SqK b2 K H l2 ys → ys[i]? = some y,
  fun i H=>∃ xs ys,SqK b1 K H l1 xs ∧ SqK b2 K H l2 ys ∧ (xs.length ≤ i ∨ ys.length ≤ i)⟩
theorem i9c{P:Program}{w:World}{K:PySem.W.Frag}{elts:List Expr}{kk:Nat}{tpos:Pos}{b1 b2:Bool}{z TI TO i1 i2 l1 l2:Addr}(D:ZipApart z TI TO i1 i2 l1 l2) :
  Turn P w K (.Tuple elts kk tpos) (Itz K b1 b2 l1 l2) [z,TI,TO,i1,i2] z (fun i h=>IsZip h z TI TO .none/\IsPair h TI (.ref i1) (.ref i2)/\(∃ a b,IsPair h TO a b)/\ItB b1 h i1 l1 i/\ItB b2 h i2 l2 i) where
 mem:=by simp
 obj:=fun i h st b hb=>by
  obtain⟨hz,hTI,⟨a,c,hTO⟩,⟨o1,e1,_,d1⟩,⟨o2,e2,_,d2⟩⟩:=st
  simp only [List.mem_cons,List.not_mem_nil,or_false] at hb
  rcases hb with rfl | rfl | rfl | rfl | rfl
  ·exact⟨_,hz,fun v z=>by cases z⟩
  ·exact⟨_,hTI,fun v z=>by cases z⟩
  ·exact⟨_,hTO,fun v z=>by cases z⟩
  ·exact⟨_,e1,fun v z=>by rw [d1] at z; cases z⟩
  ·exact⟨_,e2,fun v z=>by rw [d2] at z; cases z⟩
 keep:=fun i h h' st k=>by
  obtain⟨hz,hTI,⟨a,c,hTO⟩,h1,h2⟩:=st
  exact⟨k z (by simp) _ hz,k TI (by simp) _ hTI,⟨a,c,k TO (by simp) _ hTO⟩,h1.at fun o e=>k i1 (by simp) o e,h2.at fun o e=>k i2 (by simp) o e⟩
 item:=by
  intro X hP hw hK hc i pins s σ H E I hf st hg
  subst hP hw hK
  obtain⟨xs,ys,x,y,hq1,hq2,hx,hy⟩:=hg
  obtain⟨us,r1,p1,_⟩:=I.j5w hq1
  obtain⟨ws,r2,p2,_⟩:=I.j5w hq2
  obtain⟨u,hu,ru⟩:=r1.get hx
  obtain⟨v,hv,rv⟩:=r2.get hy
  obtain⟨hz,hTI,⟨a,b,hTO⟩,h1,h2⟩:=st
  refine i4n D hz hTI hTO h1 h2 p1 p2 (x:=u) (y:=v) (by simpa using hu) (by simpa using hv) fun h' z' TO' h1' h2' pT kk'=>?_
  refine⟨.ref s.heap.objs.size,rfl,wpAny_letOwnedTupleGo_zip (s:={ s with heap:=h' }) z' fun h'' z'' sb=>?_⟩
  replace sb:Heap.SameBut z h' h'':=sb
  have k2:∀ c o,c∉[z,TI,TO,i1,i2]->s.heap.get? c=some o->h''.get? c=some o:=fun c o hc e=>by
   simp only [List.mem_cons,List.not_mem_nil,or_false,not_or] at hc
   exact sb.extBut _ _ hc.1 (kk' c o hc.1 hc.2.2.1 hc.2.2.2.1 hc.2.2.2.2 e)
  have I1:Inv X pins σ H { s with heap:=h'' }:=I.i4m (t':=s.toks) k2 hf
  have zlt:z < s.heap.objs.size:=Heap.lt_size hz
  have pT2:IsPair h'' s.heap.objs.size u v:=sb.extBut _ _ (Nat.ne_of_gt zlt) pT
  have fo:=I.i7s (b:=s.heap.objs.size) (Nat.le_refl _) (I.hok.fresh (Nat.le_refl _))
  have nT:H s.heap.objs.size=none:=I.hok.fresh (Nat.le_refl _)
  have I2:Inv X pins σ (upd H s.heap.objs.size (.tup [x,y])) { s with heap:=h'' }:=by
   refine I1.track ?_ fo.2.1 fo.2.2.2.2.1 fo.2.2.2.2.2 nT ⟨two_line,[u,v],.cons ru (.cons rv .nil),⟨_,pT2,rfl,0,rfl⟩⟩
   cases q:X.s₀.heap.get? s.heap.objs.size with
   | none=>rfl
   | some o=>exact absurd (Nat.lt_of_lt_of_le (Heap.lt_size q) I.sz) (Nat.lt_irrefl _)
  have ne:∀ b∈[z,TI,TO,i1,i2],b≠s.heap.objs.size:=fun b hb e=>by
   have lt:b < s.heap.objs.size:=by
    simp only [List.mem_cons,List.not_mem_nil,or_false] at hb
    rcases hb with rfl | rfl | rfl | rfl | rfl
    ·exact zlt
    ·exact Heap.lt_size hTI
    ·exact Heap.lt_size hTO
    ·obtain⟨_,e,_⟩:=h1; exact Heap.lt_size e
    ·obtain⟨_,e,_⟩:=h2; exact Heap.lt_size e
   exact Nat.ne_of_lt lt e
  refine⟨.ref s.heap.objs.size,_,I2,rfl,⟨_,x,y,rfl,nT,rfl,fun xs' h=>by rw [I.h8r h hq1]; exact hx,fun ys' h=>by rw [I.h8r h hq2]; exact hy⟩,
   ⟨z'',sb.extBut _ _ D.TIz (kk' _ _ D.TIz D.TITO D.TIi1 D.TIi2 hTI),⟨_,_,sb.extBut _ _ D.TOz TO'⟩,h1'.at fun o e=>sb.extBut _ _ D.i1z e,h2'.at fun o e=>sb.extBut _ _ D.i2z e⟩,fun b hb=>by rw [a6l (ne b hb)]; exact (hf b hb).1⟩
 done:=by
  intro X hP hw hK hc i pins s σ H E I hf st hg
  subst hP hw hK
  obtain⟨xs,ys,hq1,hq2,hle⟩:=hg
  obtain⟨us,r1,p1,_⟩:=I.j5w hq1
  obtain⟨ws,r2,p2,_⟩:=I.j5w hq2
  obtain⟨hz,hTI,⟨a,b,hTO⟩,h1,h2⟩:=st
  have l1':=r1.length
  have l2':=r2.length
  refine i9a (I.ok.hd hc) D hz hTI hTO h1 h2 p1 p2 (by rcases hle with h | h <;> simp <;> omega) fun h' kk'=>⟨rfl,I.i4m (t':=s.toks) (fun c o hc e=>?_) hf⟩
  simp only [List.mem_cons,List.not_mem_nil,or_false,not_or] at hc
  exact kk' c o hc.1 hc.2.2.1 hc.2.2.2.1 hc.2.2.2.2 e
 self:=fun _ _ _ _ _ st h=>wpAny_pyIter_zip st.1 h
def k3o(K:PySem.W.Frag)(ta:TA):TI:=fun σ H R=>ta σ H fun vs H1=>match vs with
 | [.ref l1,.ref l2]=>(match H1 l1,H1 l2 with
  | some (.lst _),some (.lst _)=>R (Itz K true true l1 l2) H1
  | some (.lst _),some (.tup _)=>R (Itz K true false l1 l2) H1
  | some (.tup _),some (.lst _)=>R (Itz K false true l1 l2) H1
  | some (.tup _),some (.tup _)=>R (Itz K false false l1 l2) H1
  | _,_=>False)
 | _=>False
theorem h8s {X : Cx} {elts : List Expr} {kk : Nat} {tpos : Pos} {a b : Expr} {ta : TA} {p pos : Pos} (hg : Gl X "zip") (hm : X.mg "zip" = none) (ha : PA X [a, b] ta) (hs : starEach [a, b] X.env = [(false, eval a X.env), (false, eval b X.env)] := by rfl) (hs2 : starEach [b] X.env = [(false, eval b X.env)] := by rfl) :
  PI X (.Tuple elts kk tpos) (.Call (.Name "zip" p) [a, b] [] pos) (k3o X.K ta) := by
 intro pins s σ H R I h
 refine Call_ (h1t I hg hm boot_zip (PyProof.Rows.callWith_type1 (thn (ha pos pins s σ H _ I h) fun us s1 ⟨vs,H1,I1,r1,q1⟩=>?_) (by rw [hs,hs2]) (by rw [hs2]; rfl)))
 match vs,q1 with
 | [.ref l1,.ref l2],q1 =>
  obtain⟨u,u',e0,e,e'⟩:=r1.two
  cases e
  cases e'
  subst e0
  have q:∃ (b1 b2:Bool) (xs ys:List V),SqK b1 X.K H1 l1 xs/\SqK b2 X.K H1 l2 ys/\R (Itz X.K b1 b2 l1 l2) H1:=by
   have q1':(match H1 l1,H1 l2 with
    | some (.lst _),some (.lst _)=>R (Itz X.K true true l1 l2) H1
    | some (.lst _),some (.tup _)=>R (Itz X.K true false l1 l2) H1
    | some (.tup _),some (.lst _)=>R (Itz X.K false true l1 l2) H1
    | some (.tup _),some (.tup _)=>R (Itz X.K false false l1 l2) H1
    | _,_=>False):=q1
   split at q1'
   ·rename_i e1 e2
    exact⟨true,true,_,_,SqL.of e1,SqL.of e2,q1'⟩
   ·rename_i e1 e2
    exact⟨true,false,_,_,SqL.of e1,SqT.of e2,q1'⟩
   ·rename_i e1 e2
    exact⟨false,true,_,_,SqT.of e1,SqL.of e2,q1'⟩
   ·rename_i e1 e2
    exact⟨false,false,_,_,SqT.of e1,SqT.of e2,q1'⟩
   ·exact q1'.elim
  obtain⟨b1,b2,xs,ys,hq1,hq2,q⟩:=q
  obtain⟨us,rr1,p1,_⟩:=I1.j5w hq1
  obtain⟨ws,rr2,p2,_⟩:=I1.j5w hq2
  have L1:l1 < s1.heap.objs.size:=by obtain⟨_,e,_⟩:=p1; exact Heap.lt_size e
  have L2:l2 < s1.heap.objs.size:=by obtain⟨_,e,_⟩:=p2; exact Heap.lt_size e
  refine i9b p1 p2 fun h' hz hTI hTO h1 h2 hk=>?_
  refine wpAny_pyIter_zip (s:={ s1 with heap:=h' }) hz ?_
  have D:ZipApart (s1.heap.objs.size+4) (s1.heap.objs.size+2) (s1.heap.objs.size+3) s1.heap.objs.size (s1.heap.objs.size+1) l1 l2:=by
   generalize s1.heap.objs.size=n at L1 L2
   replace L1:Nat.lt l1 n:=L1
   replace L2:Nat.lt l2 n:=L2
   constructor <;> (intro e; have:(n:Nat)=n:=rfl; simp only [Nat.lt_eq] at L1 L2; first | (have e':(_:Nat)=_:=e; omega))
  refine⟨_,[s1.heap.objs.size+4,s1.heap.objs.size+2,s1.heap.objs.size+3,s1.heap.objs.size,s1.heap.objs.size+1],_,_,H1,rfl,I1.kept (t':=s1.toks) hk,i9c D,⟨hz,hTI,⟨_,_,hTO⟩,h1,h2⟩,fun b hb=>?_,q⟩
  have hb':s1.heap.objs.size<=b:=by
   simp only [List.mem_cons,List.not_mem_nil,or_false] at hb
   rcases hb with rfl | rfl | rfl | rfl | rfl
   ·exact Nat.le_add_right _ _
   ·exact Nat.le_add_right _ _
   ·exact Nat.le_add_right _ _
   ·exact Nat.le_refl _
   ·exact Nat.le_add_right _ _
  exact I1.i7s hb' (I1.hok.fresh hb')
theorem g8h{K:PySem.W.Frag}{b1 b2:Bool}{l1 l2:Addr}{xs ys:List V}{g:TG}{tb:TS}{D:Ends}{σ:St}{H:Hp}(Pv:Nat->St->Hp->Prop)(h0:Pv 0 σ H)(hl:∀ i σ H,Pv i σ H->SqK b1 K H l1 xs/\SqK b2 K H l2 ys)
  (hs:∀ i x y σ H p H',xs[i]? = some x->ys[i]? = some y->Pv i σ H->H p=none->Same H H'->H' p=some (.tup [x,y])->g (.ref p) σ H' fun σ2 H2=>tb { D with nx:=Pv (i+1),ct:=Pv (i+1),bk:=D.nx } σ2 H2)
  (hd:∀ σ H,Pv (min xs.length ys.length) σ H->D.nx σ H):j5t (Itz K b1 b2 l1 l2) g tb D σ H:=by
 refine⟨fun i m σ H=>m=min xs.length ys.length - i/\i<=min xs.length ys.length/\Pv i σ H,⟨min xs.length ys.length,by simp,Nat.zero_le _,h0⟩,?_⟩
 rintro i m σ H ⟨rfl,hi,p⟩
 obtain⟨e1,e2⟩:=hl i σ H p
 by_cases hlt:i < min xs.length ys.length
 ·have hx : xs[i]? = some (xs[i]'(by omega)) := List.getElem?_eq_getElem _
  have hy : ys[i]? = some (ys[i]'(by omega)) := List.getElem?_eq_getElem _
  refine .inr ⟨⟨xs,ys,_,_,e1,e2,hx,hy⟩,Pv (i+1),fun σ' H' p'=>⟨min xs.length ys.length - (i+1),by omega,rfl,hlt,p'⟩,fun v H' y=>?_⟩
  obtain⟨q,x,y,rfl,nq,rfl,k1,k2⟩:=y
  exact hs i x y σ H q _ (k1 _ e1) (k2 _ e2) p nq (Same.upd nq) a6s
 ·have e:i=min xs.length ys.length:=by omega
  subst e
  exact .inl ⟨⟨xs,ys,e1,e2,by omega⟩,hd σ H p⟩
end L2
namespace L2
open PySem PySem.Spec PyProof.Rows
noncomputable def b9l(X:Cx)(scope:Scope)(cl:List (Str×Addr))(C:Addr)(s₃:Shared)(H₃:Hp)(fp:List Addr)(x y:Str):Cx where
 prog:=X.prog
 w:=X.w
 K:=X.K
 mg:=X.mg
 base:=X.base
 A:=X.A
 N:=x :: y :: mask x X.N
 s₀:=s₃
 H₀:=H₃
 env:=compEnvC scope cl C X.env
 outer:=X.stack
 stack:=X.stack
 ex:=fp
 fn:=fun _=>false
 calm:=X.calm
 pn:=[]
 xe:=fun _ _=>False
structure f0p(X:Cx)(scope:Scope)(x y:Str):Prop where
 kind:scope.kind = .function
 f3u:∀ y∈scope.names,y.2≠.cell
 loc:∀ y∈scope.names,y.2 = .local->scope.names.lookup y.1=some .local
 own:scope.names.lookup x=some .local
 k3p:scope.names.lookup y=some .local
 free:∀ y∈scope.names,y.2 = .free->X.env.kindOf y.1=some .cell\/X.env.kindOf y.1=some .free
 nd:(x :: y :: mask x X.N).Nodup
 noe : ∀ y ∈ scope.names, y.1 ≠ ""
 vis:∀ y∈mask x X.N,scope.names.lookup y≠some .local
def h8t(J:It)(te:TE)(D:Addr)(σ:St)(H:Hp)(Q:VK)(_:Tag Q):Prop:=∃ (n:Nat) (W:Nat->List V->Hp->Prop),W 0 [] H/\∀ i ys H,i<=n->W i ys H->H D=some (.lst ys) /\
 ((J.stop i H/\Q (.ref D) H)\/(i < n/\J.go i H/\ys.length < sizeLine/\∀ x H',J.yld i H x H'->∃ p u v,x = .ref p/\H' p=some (.tup [u,v])/\te (some u :: some v :: σ) H' fun y H2=>H2 D=some (.lst ys) /\
  ∀ H3,b1u D H2 H3->H3 D=some (.lst (ys++[y]))->W (i+1) (ys++[y]) H3))
def j8x(wi:TI)(te:TE):TE:=fun σ H Q=>wi σ H fun J H1=>∀ D H2,H1 D=none->Same H1 H2->H2 D=some (.lst [])->h8t J te D σ H2 Q ⟨⟩
section
variable {X:Cx}{scope:Scope}{x y:Str}{cl:List (Str×Addr)}{pins:List (Addr×Obj)}{σ:St}{H:Hp}{s s₄:Shared}{fp:List Addr}
theorem Inv.k3q(S:f0p X scope x y)(I:Inv X pins σ H s)(hcl:∀ y c,cl.lookup y=some c->(y,NameKind.free)∈scope.names/\X.env.cells.lookup y=some c)(hcl2:∀ y,(y,NameKind.free)∈scope.names->cl.lookup y=X.env.cells.lookup y)
  (hfp:∀ b∈fp,g0v X pins H b) (hlt:∀ b∈fp,b < s.heap.objs.size) {m:Str->Option Value} (hns:s₄.heap.Ns s.heap.objs.size m) (hk:∀ b o,s.heap.get? b=some o->s₄.heap.get? b=some o) (hos:s₄.os=s.os) (hg:s₄.gens=s.gens) :
  Inv (b9l X scope cl s.heap.objs.size s H fp x y) [] (none :: none :: σ) H s₄:=by
 refine⟨⟨I.ok.mod,?_,I.ok.glob,I.ok.blt,Nat.le_refl _,fun y z c h1 h2=>I.ok.inj y z c (hcl y c h1).2 (hcl z c h2).2,fun y hy=>?_,(fun y c h=>nomatch h),I.ok.hd,I.ok.frames,.inl rfl,fun b hb=>⟨Nat.ne_of_lt (hlt b hb),fun y c e=>(hfp b hb).2.2.2.2.1 y c (hcl y c e).2⟩,
  fun b o e=>I.bs b o e,Nat.le_trans I.ok.bsz I.sz,fun b o e hb=>?_,fun b hb hf=>?_,I.stack,I.g7w⟩,
  hos,by rw [hg]; exact I.bare,Un.kept hk,⟨m,hns,fun i y v h1 h2 h3=>?_⟩,fun y c e=>?_,I.hok.fresh (Nat.le_refl _),fun y c e=>I.f1o y c (hcl y c e).2,fun p hp=>absurd (show p∈([] : List (Addr×Obj)) from hp) (by simp),I.hok.kept hk,by show (none :: none :: σ).length=(x :: y :: mask x X.N).length; rw [List.length_cons,List.length_cons,List.length_cons,List.length_cons,mask,List.length_map,I.len]⟩
 ·exact S.kind
 ·rcases c4k (env:=X.env) (sc:=scope) (x:=y) hy with z | z
  ·obtain⟨c,hc⟩:=I.ok.has y (S.free _ z rfl)
   exact⟨c,(hcl2 y z).trans hc⟩
  ·exact absurd rfl (S.f3u _ z)
 ·rcases (hfp b hb).2.2.2.1 with z | z
  ·exact I.ok.j2p b o e z
  ·exact absurd (Nat.lt_of_lt_of_le (Heap.lt_size (I.ok.bs b o e).1) z) (Nat.lt_irrefl _)
 ·rcases List.mem_cons.mp (I.g1k b hf) with z | z
  ·exact (hfp b hb).2.1 z
  ·exact (hfp b hb).2.2.1 z
 ·match i,h1,h2 with
  | 0,h1,h2=>cases h2
  | 1,h1,h2=>cases h2
  | i+2,h1,h2 =>
   have h1m:(mask x X.N)[i]? = some y:=by simpa [b9l] using h1
   have h2':σ[i]? = some (some v):=by simpa using h2
   have hyN:y∈mask x X.N:=List.mem_of_getElem? h1m
   have hc:(relabel scope X.env).names.lookup y=some .cell\/(relabel scope X.env).names.lookup y=some .free:=by
    rcases h3 with z | z | z
    ·exfalso
     rcases d3p (env:=X.env) scope.names _ z with q | ⟨q,_⟩
     ·exact S.vis y hyN q
     ·cases q
    ·exact .inl z
    ·exact .inr z
   have hfr:(y,NameKind.free)∈scope.names:=by
    rcases c4k hc with z | z
    ·exact z
    ·exact absurd rfl (S.f3u _ z)
   have h1':X.N[i]? = some y:=by
    rw [mask,List.getElem?_map] at h1m
    obtain⟨z,hz,e⟩:=Option.map_eq_some_iff.mp h1m
    by_cases hzx:z=x
    ·rw [if_pos hzx] at e
     exact absurd e.symm (S.noe _ hfr)
    ·rw [if_neg hzx] at e
     rw [hz,e]
   obtain⟨mX,hnX,hl⟩:=I.loc
   have hk2:=S.free _ hfr rfl
   have k2z:Vis X.env.scope y:=by
    rcases hk2 with z | z
    ·exact .inr (.inl z)
    ·exact .inr (.inr z)
   obtain⟨u,ru,lk⟩:=hl i y v h1' h2' k2z
   refine⟨u,ru,.inr ⟨hc,?_⟩⟩
   rcases lk with ⟨z,_⟩ | ⟨_,c,ec,o,ho,hd⟩
   ·rcases hk2 with q | q
    ·rw [q] at z; cases z
    ·rw [q] at z; cases z
   ·exact⟨c,(hcl2 y hfr).trans ec,o,hk c o ho,hd⟩
 ·obtain⟨v,o,ho,hd⟩:=I.cell y c (hcl y c e).2
  exact⟨v,o,hk c o ho,hd⟩
theorem Inv.j3p{σ':St}{H':Hp}{s':Shared}{h':Heap}(I:Inv X pins σ H s)(hfp:∀ b∈fp,g0v X pins H b)(J:Inv (b9l X scope cl s.heap.objs.size s H fp x y) [] σ' H' s')(hs:Heap.SameBut s.heap.objs.size s'.heap h') :
  Inv X pins σ H' { s' with heap:=h' }:=by
 have ne:∀ {b:Addr} {o:Obj},s.heap.get? b=some o->b≠s.heap.objs.size:=fun e=>Nat.ne_of_lt (Heap.lt_size e)
 have u:=J.base
 have u':Un (frs X.stack) fp H H' s.heap h':=⟨fun b o e n hb hx=>hs.extBut b o (ne e) (u.keep b o e n hb hx),fun b o e n hb hx=>(u.slot b o e n hb hx).elim fun sl q=>⟨sl,hs.extBut b _ (ne e) q⟩,u.free,
  fun b o e hx=>(u.there b o e hx).elim fun o' q=>⟨o',hs.extBut b o' (ne e) q⟩,u.tups,u.h1o,u.h1s⟩
 have nC:∀ {b:Addr} {o:HO},H' b=some o->b≠s.heap.objs.size:=fun {b o} e z=>by
  have f:H' s.heap.objs.size=none:=J.free
  rw [z,f] at e; cases e
 have ok:HOk X.prog X.w H' h':=fun b o e=>(J.hok b o e).stay (fun c v hc q=>hs.extBut c v (by
  rcases hc with z | z
  ·rw [z]; exact nC e
  ·exact nC z) q) (fun _ q=>q) fun _ _ q=>q
 exact I.call' (s':={ s' with heap:=h' }) (ch:=fp) J.os u' ok J.bare fun b hb=>⟨(hfp b hb).2.2.2.1,(hfp b hb).2.1,(hfp b hb).2.2.2.2.1,(hfp b hb).2.2.2.2.2⟩
end
section
variable {X:Cx}{scope:Scope}{x y:Str}{pins:List (Addr×Obj)}{σ:St}{elt iter:Expr}{px py tpos pos:Pos}{kk:Nat}{wi:TI}{te:TE}
theorem h5s{s₂:Shared}{H1:Hp}{it:Addr}{fp:List Addr}{tn:Nat->Heap->Prop}{J:It}{Q:VK}{RR:Value->Addr->Result->Shared->Prop}{E:Value->Shared->Prop}{cl:List (Str×Addr)}
  (S:f0p X scope x y) (hc:X.calm=true) (he:∀ cl C s₃ H₃ fp,PE (b9l X scope cl C s₃ H₃ fp x y) elt te)
  (hcl:∀ y c,cl.lookup y=some c->(y,NameKind.free)∈scope.names/\X.env.cells.lookup y=some c) (hcl2:∀ y,(y,NameKind.free)∈scope.names->cl.lookup y=X.env.cells.lookup y)
  (I2:Inv X pins σ H1 s₂) (T:Turn X.prog X.w X.K (.Tuple [.Name x px,.Name y py] kk tpos) J fp it tn) (st2:tn 0 s₂.heap) (f2:∀ b∈fp,g0v X pins H1 b) (h:∀ D H2,H1 D=none->Same H1 H2->H2 D=some (.lst [])->h8t J te D σ H2 Q ⟨⟩)
  (hRR:∀ (D C:Addr) (s':Shared) (H':Hp),(∃ m,s'.heap.Ns C m)->(∀ h' ,Heap.SameBut C s'.heap h'->Inv X pins σ H' { s' with heap:=h' })->g0v X pins H' C->Q (.ref D) H'->RR (.ref D) C (.ok .next) s') :
  wpAny (model X.prog X.w) X.A (newList []) (fun acc s₃=>wpAny (model X.prog X.w) X.A (newFunctionEnv scope X.env.globals cl [] X.env.qual none .none (some X.env)) (fun cenv s₄ =>
   codeAny (model X.prog X.w) X.A (.compStart (.ListComp elt [⟨.Tuple [.Name x px,.Name y py] kk tpos,iter,[],0⟩] scope pos) 0 (.ref it) acc { cenv with scope:=relabel scope X.env }) (RR acc cenv.locals) s₄) E s₃) E s₂:=by
 have hfr:H1 s₂.heap.objs.size=none:=I2.hok.fresh (Nat.le_refl _)
 have hCW:=h s₂.heap.objs.size _ hfr (Same.upd hfr) a6s
 refine wpAny_newObj_type ?_
 have I3 : Inv X pins σ (upd H1 s₂.heap.objs.size (.lst [])) { s₂ with heap := s₂.heap.push { cls := .type "list", data := .seq ([] : List Value).toArray }, toks := s₂.toks } :=
  I2.laid (t':=s₂.toks) (fun b u e=>Heap.get?_push_of_some _ e) (Nat.le_refl _) ⟨Nat.zero_le _,[],0,.nil,Heap.get?_push_size _ rfl⟩
 have nD:∀ b∈fp,b≠s₂.heap.objs.size:=fun b hb=>by
  obtain⟨o,e,_⟩:=T.obj 0 _ st2 b hb
  exact Nat.ne_of_lt (Heap.lt_size e)
 have f3:∀ b∈fp,g0v X pins (upd H1 s₂.heap.objs.size (.lst [])) b:=fun b hb=>⟨by rw [a6l (nD b hb)]; exact (f2 b hb).1,(f2 b hb).2⟩
 generalize hH3:upd H1 s₂.heap.objs.size (.lst [])=H3 at *
 have st3 : tn 0 (s₂.heap.push { cls := .type "list", data := .seq ([] : List Value).toArray }) := T.keep _ _ _ st2 fun b _ o e => Heap.get?_push_of_some _ e
 have i3z : ∀ b ∈ fp, b < (s₂.heap.push { cls := .type "list", data := .seq ([] : List Value).toArray }).objs.size := fun b hb => by
  obtain⟨o,e,_⟩:=T.obj 0 _ st3 b hb
  exact Heap.lt_size e
 show wpAny (model X.prog X.w) X.A (newFunctionEnv scope X.env.globals cl [] X.env.qual none .none (some X.env)) _ E { s₂ with heap := s₂.heap.push { cls := .type "list", data := .seq ([] : List Value).toArray }, toks := s₂.toks }
 generalize hs3 : ({ s₂ with heap := s₂.heap.push { cls := .type "list", data := .seq ([] : List Value).toArray }, toks := s₂.toks } : Shared) = s₃ at *
 have eh : s₃.heap = s₂.heap.push { cls := .type "list", data := .seq ([] : List Value).toArray } := by rw [← hs3]
 rw [<- eh] at st3 i3z
 generalize s₂.heap.objs.size=D at *
 refine wpAny_newFunctionEnv S.f3u (by intro y hy; simp at hy) (fun h₁ hns₁ hsb₁=>?_) S.kind
 have hk1:∀ b o,s₃.heap.get? b=some o->h₁.get? b=some o:=fun b o e=>hsb₁.extBut b o (Nat.ne_of_lt (Heap.lt_size e)) (Heap.get?_push_of_some _ e)
 have J0:Inv (b9l X scope cl s₃.heap.objs.size s₃ H3 fp x y) [] (none :: none :: σ) H3 { s₃ with heap:=h₁,toks:=s₃.toks+([] : List (Str×Value)).length }:=I3.k3q S hcl hcl2 f3 i3z hns₁ hk1 rfl rfl
 obtain⟨n0,W,w0,turn⟩:=hCW
 have loop:codeAny (model X.prog X.w) X.A (.compLoop (.ListComp elt [⟨.Tuple [.Name x px,.Name y py] kk tpos,iter,[],0⟩] scope pos) 0 (.ref it) (.ref D) (compEnvC scope cl s₃.heap.objs.size X.env)) (RR (.ref D) s₃.heap.objs.size) { s₃ with heap:=h₁,toks:=s₃.toks+([] : List (Str×Value)).length }:=by
  refine codeAny_loop rfl (fun n s'=>∃ i ys o o' H',Inv (b9l X scope cl s₃.heap.objs.size s₃ H3 fp x y) [] (o :: o' :: σ) H' s'/\tn i s'.heap/\(∀ b∈fp,H' b=none)/\W i ys H'/\i<=n0/\n=n0 - i) (fun n s5 hI=>?_) n0
   ⟨0,[],none,none,H3,J0,T.keep _ _ _ st3 (fun b _ o e=>hk1 b o e),fun b hb=>(f3 b hb).1,w0,Nat.zero_le _,rfl⟩
  obtain⟨i,ys,o5,o5',H5,I5,st5,fr5,w5,hin,hnn⟩:=hI
  have stat:∀ {H':Hp},(∀ b∈fp,H' b=none)->∀ b∈fp,g0v (b9l X scope cl s₃.heap.objs.size s₃ H3 fp x y) [] H' b:=fun hn b hb =>
   ⟨hn b hb,Nat.ne_of_lt (i3z b hb),fun z=>(List.mem_cons.mp (I3.g1k b z)).elim (fun q=>(f3 b hb).2.1 q) fun q=>(f3 b hb).2.2.1 q,.inl hb,fun y c e=>(f3 b hb).2.2.2.2.1 y c (hcl y c e).2,fun p hp=>absurd (show p∈([] : List (Addr×Obj)) from hp) (by simp)⟩
  show wpAny _ X.A ((compTurn (.ListComp elt [⟨.Tuple [.Name x px,.Name y py] kk tpos,iter,[],0⟩] scope pos) 0 (.ref it) (.ref D) (compEnvC scope cl s₃.heap.objs.size X.env)).onRaise (fun x=>do noteFrame x (compEnvC scope cl s₃.heap.objs.size X.env); theTreesLotGoes x)) _ _ s5
  refine wpAny_noted ?_
  rw [compTurn_list1]
  refine wpAny_bind (wpAny_standAt (wpAny_bind ?_))
  obtain⟨hD5,alt⟩:=turn i ys H5 hin w5
  rcases alt with ⟨stop,q⟩ | ⟨hlt,go,hsz,step⟩
  ·refine wpAny_mono (T.done (b9l X scope cl s₃.heap.objs.size s₃ H3 fp x y) rfl rfl rfl hc i [] s5 _ H5 _ I5 (stat fr5) st5 stop) (fun r s6 ⟨hr,I6⟩=>?_) fun _ _ z=>z
   subst hr
   refine wpAny_pure ?_
   obtain⟨m6,hn6,_⟩:=I6.loc
   exact hRR D s₃.heap.objs.size s6 H5 ⟨m6,hn6⟩ (fun h' hs'=>I3.j3p f3 I6 hs') (I3.i7s (Nat.le_refl _) I6.free) q
  ·refine wpAny_mono (T.item (b9l X scope cl s₃.heap.objs.size s₃ H3 fp x y) rfl rfl rfl hc i [] s5 _ H5 _ I5 (stat fr5) st5 go) (fun r s6 ⟨u,hr,h6⟩=>?_) fun _ _ z=>z
   subst hr
   refine wpAny_bind (wpAny_mono h6 (fun _ s7 ⟨v,H7,I7,r7,y7,st7,fr7⟩=>?_) fun _ _ z=>z)
   have I7':=I7.pinned (stat fr7) (T.obj _ _ st7)
   obtain⟨p7,u1,u2,e7,t7,step7⟩:=step v H7 y7
   subst e7
   have G1:=a5g (X:=b9l X scope cl s₃.heap.objs.size s₃ H3 fp x y) (pos:=px) (i:=0) (x:=x) S.nd rfl (.inl (lookup_relabel_local S.own)) (.inr (lookup_relabel_local S.own))
   have G2:=a5g (X:=b9l X scope cl s₃.heap.objs.size s₃ H3 fp x y) (pos:=py) (i:=1) (x:=y) S.nd rfl (.inl (lookup_relabel_local S.k3p)) (.inr (lookup_relabel_local S.k3p))
   have G:=j0k (X:=b9l X scope cl s₃.heap.objs.size s₃ H3 fp x y) (pos:=tpos) (k:=kk) (n:=2) hc (g8a G1 (g8a G2 i3f)) rfl rfl
   refine wpAny_bind (wpAny_mono (G _ s7 _ H7 (.ref p7) u (fun σ' H'=>σ'=some u1 :: some u2 :: σ/\H'=H7) I7' r7 ⟨p7,[u1,u2],rfl,SqT.of t7,rfl,_,_,rfl,_,_,rfl,rfl,rfl,rfl⟩) (fun _ s8 hs8=>?_) fun _ _ z=>False.elim z)
   obtain⟨σ8,H8,I8,rfl,rfl⟩:=hs8
   refine wpAny_bind (wpAny_bind (wpAny_mono (he cl s₃.heap.objs.size s₃ H3 fp _ s8 _ _ _ I8 step7) (fun yv s9 hs9=>?_) fun _ _ z=>False.elim z))
   obtain⟨y',H9,I9,r9,hD9,k9⟩:=hs9
   refine wpAny_bind (wpAny_mono (f3r (X:=b9l X scope cl s₃.heap.objs.size s₃ H3 fp x y) _ s9 _ H9 (.ref D) [y'] (.ref D) [yv] (fun _ H'=>H'=upd H9 D (.lst (ys++[y']))) I9 rfl (.cons r9 .nil) ⟨D,ys,y',rfl,rfl,hD9,hsz,rfl⟩) (fun _ sA hsA=>?_) fun _ _ z=>False.elim z)
   obtain⟨_,HA,IA,_,rfl⟩:=hsA
   refine wpAny_pure ?_
   have wA:=k9 _ b1u.upd a6s
   refine wpAny_pure ⟨rfl,n0 - (i+1),by omega,i+1,ys++[y'],some u1,some u2,_,IA.f0m (pins:=[]) (pl:=g1m fp s7.heap),T.keep _ _ _ st7 (fun b hb o e=>(IA.pin (b,o) (List.mem_append_right _ (List.mem_append_right _ (b3j hb e)))).1),fun b hb=>?_,wA,hlt,rfl⟩
   obtain⟨o,e,d⟩:=T.obj _ _ st7 b hb
   exact (IA.pin (b,o) (List.mem_append_right _ (List.mem_append_right _ (b3j hb e)))).2.1
 exact codeAny_compStart_list loop (T.self _ 0 _ _ _ (T.keep _ _ _ st3 fun b _ o e=>hk1 b o e) loop)
theorem h8u(hi:PI X (.Tuple [.Name x px,.Name y py] kk tpos) iter wi)(he:∀ cl C s₃ H₃ fp,PE (b9l X scope cl C s₃ H₃ fp x y) elt te)(S:f0p X scope x y)(hc:X.calm=true)
  (hs:∀ x,foldedSetIterable iter X.env x=pure x:=by intro _; rfl):PE X (.ListComp elt [⟨.Tuple [.Name x px,.Name y py] kk tpos,iter,[],0⟩] scope pos) (j8x wi te):=by
 intro pins s σ H Q I h
 obtain⟨cl,hclos,hcl,hcl2⟩:=d3o (env:=X.env) (sc:=scope) fun y hy=>I.ok.has y (S.free _ hy rfl)
 rw [eval_ListComp]
 refine wpAny_comprehension_free (use:=none) rfl hs hclos S.kind S.loc ?_
 refine thn (hi pins s σ H _ I h) fun v s1 h1=>thn h1 fun itv s2 h2=>?_
 obtain⟨it,fp,tn,J,H2,e,I2,T,st2,f2,hW⟩:=h2
 subst e
 exact h5s (RR:=fun acc C=>compPost (model X.prog X.w) X.A X.xe none (EP X pins σ Q) acc C) S hc he hcl hcl2 I2 T st2 f2 hW fun D C s' H' hm hI _ hq =>
  hm.elim fun m hn=>⟨m,hn,fun h' hs'=>⟨.ref D,H',hI h' hs',rfl,hq⟩⟩
end
noncomputable def i4o(sc scope:Scope)(x y:Str)(N:List Str):Bool :=
 (scope.kind == .function) && scope.names.all (fun y=>y.2 != .cell) && scope.names.all (fun y=>y.2 != .local || scope.names.lookup y.1 == some .local) && (scope.names.lookup x == some .local) && (scope.names.lookup y == some .local) &&
 scope.names.all (fun y => y.2 != .free || (sc.names.lookup y.1 == some .cell || sc.names.lookup y.1 == some .free)) && decide ((x :: y :: mask x N).Nodup) && scope.names.all (fun y => y.1 != "") && (mask x N).all (fun y => scope.names.lookup y != some .local)
theorem j1h{X:Cx}{sc scope:Scope}{x y:Str}{N:List Str}(hsc:X.env.scope=sc)(hN:X.N=N)(h:i4o sc scope x y N=true):f0p X scope x y:=by
 subst hN hsc
 unfold i4o at h
 simp only [Bool.and_eq_true,List.all_eq_true,beq_iff_eq,Bool.or_eq_true,bne_iff_ne,ne_eq,decide_eq_true_eq] at h
 obtain⟨⟨⟨⟨⟨⟨⟨⟨h1,h2⟩,h3⟩,h4⟩,h5⟩,h6⟩,h7⟩,h8⟩,h9⟩:=h
 exact⟨h1,h2,fun y hy e=>(h3 y hy).resolve_left fun z=>z e,h4,h5,fun y hy e=>(h6 y hy).resolve_left fun z=>z e,h7,h8,h9⟩
theorem i1a{K:PySem.W.Frag}{b1 b2:Bool}{l1 l2 D:Addr}{xs ys:List V}{te:TE}{σ:St}{H:Hp}{Q:VK}(Pv:Nat->List V->Hp->Prop)(h0:Pv 0 [] H)(hsz:xs.length<=sizeLine)
  (hD:∀ i zs H,i<=min xs.length ys.length->Pv i zs H->H D=some (.lst zs)/\SqK b1 K H l1 xs/\SqK b2 K H l2 ys/\zs.length=i)
  (hs:∀ i x y zs H p H',xs[i]? = some x->ys[i]? = some y->Pv i zs H->H p=none->Same H H'->H' p=some (.tup [x,y])->te (some x :: some y :: σ) H' fun z H2=>H2 D=some (.lst zs)/\∀ H3,b1u D H2 H3->H3 D=some (.lst (zs++[z]))->Pv (i+1) (zs++[z]) H3)
  (hd:∀ zs H,Pv (min xs.length ys.length) zs H->Q (.ref D) H):h8t (Itz K b1 b2 l1 l2) te D σ H Q ⟨⟩:=by
 refine⟨min xs.length ys.length,Pv,h0,fun i zs H hi p=>?_⟩
 obtain⟨e1,e2,e3,e4⟩:=hD i zs H hi p
 refine⟨e1,?_⟩
 by_cases hlt:i < min xs.length ys.length
 ·have hx : xs[i]? = some (xs[i]'(by omega)) := List.getElem?_eq_getElem _
  have hy : ys[i]? = some (ys[i]'(by omega)) := List.getElem?_eq_getElem _
  refine .inr ⟨hlt,⟨xs,ys,_,_,e2,e3,hx,hy⟩,by omega,fun v H' q=>?_⟩
  obtain⟨q,x,y,rfl,nq,rfl,k1,k2⟩:=q
  exact⟨q,x,y,rfl,a6s,hs i x y zs H q _ (k1 _ e2) (k2 _ e3) p nq (Same.upd nq) a6s⟩
 ·have e:i=min xs.length ys.length:=by omega
  subst e
  exact .inl ⟨⟨xs,ys,e2,e3,by omega⟩,hd zs H p⟩
end L2
namespace L2
open PySem PySem.Spec PyProof.Rows
def k3r(K:PySem.W.Frag)(tl:TE):TI:=fun σ H R=>tl σ H fun x H1=>match x with
 | .ref a=>(match H1 a with
  | some (.tup _)=>R (Itt K a) H1
  | _=>False)
 | _=>False
theorem g8i{X:Cx}{tg l:Expr}{tl:TE}(hl:PE X l tl):PI X tg l (k3r X.K tl):=by
 intro pins s σ H R I h
 refine thn (hl pins s σ H _ I h) fun v s1 ⟨x,H1,I1,r1,q1⟩=>?_
 cases x with
 | ref a =>
  have q':(match H1 a with
   | some (.tup _)=>R (Itt X.K a) H1
   | _=>False):=q1
  split at q'
  ·rename_i xs e
   cases r1
   obtain⟨its,rv,p,hz⟩:=I1.tuple (SqT.of e)
   refine wpAny_pyIter_tuple (show s1.heap.IsTuple a its.toArray from p) ?_
   refine⟨s1.heap.objs.size,[s1.heap.objs.size],_,_,H1,rfl,I1.kept (t':=s1.toks) fun b o e=>Heap.get?_push_of_some _ e,i0h a _,⟨_,Heap.get?_push_size _ rfl,rfl,rfl⟩,fun b hb=>?_,q'⟩
   have e:b=s1.heap.objs.size:=by simpa using hb
   subst e
   exact I1.i7s (Nat.le_refl _) (I1.hok.fresh (Nat.le_refl _))
  ·exact q'.elim
 | _=>exact False.elim q1
noncomputable def rSlG:V->Option Int->Option Int->Hp->VK->Prop:=fun x lo hi H Q=>match x with
 | .ref a=>(match H a with
  | some (.lst xs)=>New H (.lst (d7r xs lo hi)) Q ⟨⟩
  | some (.tup xs)=>¬ (HT.sIx xs.length 0 lo=0/\HT.sIx xs.length xs.length hi=xs.length)/\New H (.tup (d7r xs lo hi)) Q ⟨⟩
  | _=>False)
 | _=>False
theorem k3s{X:Cx}:SlR X rSlG:=by
 intro pins s σ H x v vl vu lo hi sl Q I rx hs pl pu h
 cases x with
 | ref a =>
  have h':(match H a with
   | some (.lst xs)=>New H (.lst (d7r xs lo hi)) Q ⟨⟩
   | some (.tup xs)=>¬ (HT.sIx xs.length 0 lo=0/\HT.sIx xs.length xs.length hi=xs.length)/\New H (.tup (d7r xs lo hi)) Q ⟨⟩
   | _=>False):=h
  split at h'
  ·rename_i xs e
   exact h5k pins s σ H _ v vl vu lo hi sl Q I rx hs pl pu ⟨_,xs,rfl,SqL.of e,h'.raw⟩
  ·rename_i xs e
   exact j7e pins s σ H _ v vl vu lo hi sl Q I rx hs pl pu ⟨_,xs,rfl,SqT.of e,h'.1,h'.2.raw⟩
  ·exact h'.elim
 | _=>exact False.elim h
theorem g2d{K:PySem.W.Frag}{a D:Addr}{xs:List V}{te:TE}{σ:St}{H:Hp}{Q:VK}(Pv:Nat->List V->Hp->Prop)(h0:Pv 0 [] H)(hsz:xs.length<=sizeLine)
  (hD:∀ i ys H,i<=xs.length->Pv i ys H->H D=some (.lst ys)/\SqT K H a xs/\ys.length=i)
  (hs:∀ i x ys H,xs[i]? = some x->Pv i ys H->te (some x :: σ) H fun y H2=>H2 D=some (.lst ys)/\∀ H3,b1u D H2 H3->H3 D=some (.lst (ys++[y]))->Pv (i+1) (ys++[y]) H3)
  (hd:∀ ys H,Pv xs.length ys H->Q (.ref D) H):g0x (Itt K a) te D σ H Q ⟨⟩:=by
 refine⟨xs.length,Pv,h0,fun i ys H hi p=>?_⟩
 obtain⟨e1,e2,e3⟩:=hD i ys H hi p
 refine⟨e1,?_⟩
 by_cases hlt:i < xs.length
 ·refine .inr ⟨hlt,⟨xs,xs[i],e2,by simp [hlt]⟩,by omega,fun x H' y=>?_⟩
  obtain⟨e,y⟩:=y
  subst e
  exact hs i x ys _ (y xs e2) p
 ·have e:i=xs.length:=by omega
  subst e
  exact .inl ⟨⟨xs,e2,Nat.le_refl _⟩,hd ys H p⟩
theorem i1b{K:PySem.W.Frag}{a D:Addr}{xs:List V}{te:TE}{σ:St}{H0 H:Hp}{Q:VK}(g:V->V)(n0:H0 D=none)(S:Same H0 H)(hD:H D=some (.lst []))(hS:H0 a=some (.tup xs))(hsz:xs.length<=sizeLine)
  (hs:∀ (i:Nat) x H' (Q':VK),xs[i]? = some x->Same H0 H'->Q' (g x) H'->te (some x :: σ) H' Q') (q:∀ H',Same H0 H'->H' D=some (.lst (xs.map g))->Q (.ref D) H'):g0x (Itt K a) te D σ H Q ⟨⟩:=by
 refine g2d (fun i ys H'=>Same H0 H'/\H' D=some (.lst ys)/\ys=(xs.take i).map g) ⟨S,hD,by simp⟩ hsz (fun i ys H' hi p=>?_) (fun i x ys H' hx p=>?_) (fun ys H' p=>?_)
 ·refine⟨p.2.1,SqT.of (p.1 _ _ hS),?_⟩
  rw [p.2.2,List.length_map,List.length_take]
  omega
 ·refine hs i x H' _ hx p.1 ⟨p.2.1,fun H3 s3 h3=>⟨p.1.step n0 s3,h3,?_⟩⟩
  have hi:i < xs.length:=(List.getElem?_eq_some_iff.mp hx).1
  rw [p.2.2,List.take_add_one,hx,List.map_append]
  rfl
 ·refine q H' p.1 ?_
  rw [p.2.1,p.2.2,List.take_length]
theorem h8v{X:Cx}{K:PySem.W.Frag}{e:Expr}{f:Str}{pos:Pos}{ta:TE}(hK:X.K=K)(he:PE X e ta)(hb:attributeBase e f X.env (eval e X.env)=eval e X.env):PE X (.Attribute e f pos) (j3l K ta f):=hK▸a3u he hb
end L2
namespace L2
open PySem PySem.Spec PyProof.Rows
section
variable {prog:Program}{w:World}{A:Around}{E:Value->Shared->Prop}{s:Shared}
end
section
variable {prog:Program}{w:World}{A:Around}{E:Value->Shared->Prop}{s:Shared}
end
end L2
namespace L2
open PySem PySem.Spec PyProof.Rows
section
variable {M:Model}{A:Around}{E:Value->Shared->Prop}{s:Shared}{env:Env}
end
end L2
namespace L2
open PySem PySem.Spec PyProof.Rows
section
variable {X:Cx}{o:Expr}{to:TE}{name:Str}{apos cpos:Pos}{T id:String}{r:V->List V->Hp->VK->Prop}{chk:V->Hp->Bool}
noncomputable def j8y:V->List V->Hp->VK->Prop:=fun x vs H Q=>match x,vs with
 | .str z,[.ref l]=>(match H l with
  | some (.lst xs)=>∃ ys:List Str,xs=ys.map V.str/\JoinOk z ys=true/\Q (.str (Txt.join z ys)) H
  | _=>False)
 | _,_=>False
theorem g6o:∀ {ys:List Str} {us:List Value},Vals (ys.map V.str) us->∃ l:List (Str×Tok),us=strValues l/\l.map (·.1)=ys
 | [],_,h=>by
  cases h
  exact⟨[],rfl,rfl⟩
 | y :: ys,_,h=>by
  cases h with
  | cons a b =>
   obtain⟨t,rfl⟩:=a
   obtain⟨l,rfl,e⟩:=g6o b
   exact⟨(y,t) :: l,rfl,by rw [List.map_cons,e]⟩
theorem h8w : MtR X "str.join" j8y := by
 intro pins s σ H x vs v us Q I rx rv h
 match x,vs,h with
 | .str z,[.ref l],h =>
  have h':(match H l with
   | some (.lst xs)=>∃ ys:List Str,xs=ys.map V.str/\JoinOk z ys=true/\Q (.str (Txt.join z ys)) H
   | _=>False):=h
  split at h'
  ·rename_i xs hH
   obtain⟨ys,rfl,ok,q⟩:=h'
   obtain⟨t,rfl⟩:=rx
   obtain⟨u,rfl,ru⟩:=rv.one
   cases ru
   obtain⟨its,n,r,ho,hz⟩:=I.lst hH
   obtain⟨lt,rfl,e⟩:=g6o r
   exact SC.join ⟨_,ho,rfl,_,rfl⟩ e ok fun t' k=>⟨.str _,H,I.tok k,⟨_,rfl⟩,q⟩
  ·exact h'.elim
end
theorem joinOk_of{z:Str}{ys:List Str}{n:Nat}(h:∀ y∈ys,y.length<=n)(hl:ys.length*(n+z.length)<=sizeLine):JoinOk z ys=true:=by
 unfold JoinOk
 have:∀ (ys:List Str) (a:Nat),(∀ y∈ys,y.length<=n)->ys.foldl (· + ·.length+z.length) a<=a+ys.length*(n+z.length):=by
  intro ys
  induction ys with
  | nil=>intro a _; simp
  | cons y ys ih =>
   intro a h
   have i:=ih (a+y.length+z.length) fun y hy=>h y (List.mem_cons_of_mem _ hy)
   have hy:=h y (List.mem_cons_self ..)
   rw [List.foldl_cons,List.length_cons,Nat.succ_mul]
   omega
 have t:=this ys 0 h
 rw [List.foldl_toArray]
 unfold Builtin.Str.tooLong
 simp
 omega
end L2
namespace L2
open PySem PySem.Spec PyProof.Rows
structure k1r(K:PySem.W.Frag)(w:World)(d:Addr):Prop where
 lk : ∃ es n, K.lookup d = some ⟨.type "dict", none, .dict es n, #[]⟩ ∧ PySem.W.KeysLit w.params es.toList
 ns:(d == sysModules)=false
def rNiD(K:PySem.W.Frag)(w:World)(neg:Bool):R2:=fun x y H Q=>match x,y with
 | .str z,.ref d=>k1r K w d/\∃ r,PySem.W.nsIn K d z=some r/\Q (.bl (r.isSome != neg)) H
 | _,_=>False
section
variable {X:Cx}
theorem h2w{K:PySem.W.Frag}{w:World}(eK:X.K=K)(eW:X.w=w):OpR X (compareOp .NotIn) (rNiD K w true):=by
 subst eK eW
 intro pins s σ H x y v u Q I rx ry h
 cases x <;> cases y <;> first | exact False.elim h | skip
 ·rename_i z d
  obtain⟨⟨⟨es,n,hl,hk⟩,hn⟩,r,e,q⟩:=h
  obtain⟨t,rfl⟩:=rx
  cases ry
  refine wpAny_notIn_of (PySem.strKind_is X.prog X.w z t) hn (PySem.W.mapOf_K (prog:=X.prog) I.kIn hl (hk)) ?_
  rw [PySem.W.find_K hl e]
  rw [Bool.bne_true] at q
  exact⟨.bl (!r.isSome),H,I.tok _,rfl,q⟩
def rIxD(K:PySem.W.Frag)(w:World):R2:=fun x y H Q=>match x,y with
 | .ref d,.str z=>k1r K w d/\∃ f,PySem.W.nsIn K d z=some (some (.ref f))/\Q (.ref f) H
 | _,_=>False
theorem i2w{K:PySem.W.Frag}{w:World}(eK:X.K=K)(eW:X.w=w):IxR X (rIxD K w):=by
 subst eK eW
 intro value slice pins s σ H x y v u Q I rx ry h hs
 cases x <;> cases y <;> first | exact False.elim h | skip
 ·rename_i d z
  obtain⟨⟨⟨es,n,hl,hk⟩,hn⟩,f,e,q⟩:=h
  obtain⟨t,rfl⟩:=ry
  cases rx
  have hm:=PySem.W.mapOf_K (prog:=X.prog) (w:=X.w) I.kIn hl (hk)
  exact tail_any hm.typeIs slot_dict_getitem.lookup (wpAny_getItem_of (PySem.strKind_is X.prog X.w z t) hm (PySem.W.find_K hl e) ⟨.ref f,H,I.tok _,rfl,q⟩) hs
def j8z(f:Addr)(sp:Sp)(dvs:List V)(E:XK)(tg:TE)(t:TA):TE:=fun σ H Q=>tg σ H fun x H1=>x = .ref f/\i7y sp dvs E t σ H1 Q
theorem b6r{CX:CXT}{k:Nat}{f:Addr}{fd:FuncData}{ps:List Str}{sp:Sp}{ds:List Value}{dvs:List V}{E:XK}{g e:Expr}{es:List Expr}{tg:TE}{t:TA}{pos:Pos}(F:a1h X.prog X.w X.K X.mg X.base CX k f fd ps sp)(hr:a2p k X.A)(hk:PySem.W.keepIn X.K (.ref f)=true)(hb:Binds X.K fd ps ds)(hd:Vals dvs ds)(hx:Passes CX X E)
  (hg:PE X g tg) (ha:PA X (e :: es) t) (he:starEach (e :: es) X.env=(false,eval e X.env) :: starEach es X.env:=by rfl) (hpl:(backTo pos (starEach es X.env)).any (·.1)=false:=by rfl)
  (hc:eval (.Call g (e :: es) [] pos) X.env=(do callWith pos (<- eval g X.env) [] (backTo pos (starEach (e :: es) X.env)) (backToKw pos (keywordEach [] X.env))):=by rfl) :
  PE X (.Call g (e :: es) [] pos) (j8z f sp dvs E tg t):=by
 intro pins s σ H Q I h
 refine Call_ (thn (hg pins s σ H _ I h) fun v s1 ⟨x,H1,I1,r1,ex,q1⟩=>?_) hc
 subst ex
 cases r1
 refine PySem.W.callWith_K (h₀:=X.base) I1.ok.mod.kin hk (thn (ha pos pins s1 σ H1 _ I1 q1) fun us s2 ⟨vs,H2,I2,r,q⟩=>⟨I2.kIn,?_⟩) he hpl
 exact h8h F hr hb hd hx I2 r q
theorem SP.k3t{pins:List (Addr×Obj)}{D:Ends}{f:Flow}{s:Shared}(h:SP X.nox pins D f s):SP X pins D f s:=by
 cases f with
 | next=>obtain⟨a,b,c,d⟩:=h; exact⟨a,b,c.c0p,d⟩
 | brk=>obtain⟨a,b,c,d⟩:=h; exact⟨a,b,c.c0p,d⟩
 | cont=>obtain⟨a,b,c,d⟩:=h; exact⟨a,b,c.c0p,d⟩
 | ret u=>obtain⟨v,a,b,c,d⟩:=h; exact⟨v,a,b,c.c0p,d⟩
theorem j3q{st:Stmt}{h₀:ExceptHandler}{hs:List ExceptHandler}{tb:TS}{pos:Pos}(hb:PS X.nox st tb):PS X (.Try [st] (h₀ :: hs) [] [] pos) tb:=by
 intro pins s σ H Dn I h
 refine wpAny_Try_except (wpAny_execs_cons (wpAny_mono (hb pins s σ H Dn (I.wish _) h) (fun f s1 q=>?_) fun e s1 z=>False.elim z))
 have q':=SP.k3t q
 cases f with
 | next=>exact wpAny_execs_nil (wpAny_execs_nil q')
 | ret v=>exact q'
 | brk=>exact q'
 | cont=>exact q'
end
end L2
namespace L2
open PySem PySem.Spec PyProof.Rows
theorem h8x{c:Nat}:∀ {a a' b b':List Nat},a++c :: b=a'++c :: b'->c∉a->c∉a'->a=a'/\b=b'
 | [],[],_,_,h,_,_=>by simpa using h
 | [],d :: a',_,_,h,_,h2=>by
  rw [List.nil_append,List.cons_append,List.cons.injEq] at h
  exact absurd (by rw [h.1]; exact List.mem_cons_self) h2
 | d :: a,[],_,_,h,h1,_=>by
  rw [List.nil_append,List.cons_append,List.cons.injEq] at h
  exact absurd (by rw [h.1]; exact List.mem_cons_self) h1
 | d :: a,d' :: a',_,_,h,h1,h2=>by
  rw [List.cons_append,List.cons_append,List.cons.injEq] at h
  obtain⟨e1,e2⟩:=h8x h.2 (fun q=>h1 (List.mem_cons_of_mem _ q)) (fun q=>h2 (List.mem_cons_of_mem _ q))
  exact⟨by rw [h.1,e1],e2⟩
theorem b1z(c:Nat)(p q:Str)(r:List Str):sg (Str.join ⟨#[c]⟩ (p :: q :: r))=sg p++c :: sg (Str.join ⟨#[c]⟩ (q :: r)):=by
 show sg (p++⟨#[c]⟩++Str.join ⟨#[c]⟩ (q :: r))=_
 rw [a3r,a3r,List.append_assoc]
 rfl
theorem h2x{c:Nat}:∀ {ps qs:List Str},ps≠[]->qs≠[]->(∀ p∈ps,c∉sg p)->(∀ q∈qs,c∉sg q)->sg (Str.join ⟨#[c]⟩ ps)=sg (Str.join ⟨#[c]⟩ qs)->ps=qs
 | [],_,h,_,_,_,_=>absurd rfl h
 | _ :: _,[],_,h,_,_,_=>absurd rfl h
 | [p],[q],_,_,_,_,e=>by
  rw [a9p (show sg p=sg q from e)]
 | [p],q :: q' :: qs,_,_,fp,_,e=>by
  rw [b1z] at e
  exact absurd (by rw [show sg p=_ from e]; simp) (fp p (List.mem_cons_self ..))
 | p :: p' :: ps,[q],_,_,_,fq,e=>by
  rw [b1z] at e
  exact absurd (by rw [show sg q=_ from e.symm]; simp) (fq q (List.mem_cons_self ..))
 | p :: p' :: ps,q :: q' :: qs,_,_,fp,fq,e=>by
  rw [b1z,b1z] at e
  obtain⟨e1,e2⟩:=h8x e (fp p (List.mem_cons_self ..)) (fq q (List.mem_cons_self ..))
  rw [a9p e1,h2x (by simp) (by simp) (fun x hx=>fp x (List.mem_cons_of_mem _ hx)) (fun x hx=>fq x (List.mem_cons_of_mem _ hx)) e2]
theorem g2e(x y:Str):a5s x y=Txt.split x y:=rfl
theorem g8j(x y:Str):Txt.split x y≠[]:=by
 unfold Txt.split
 split
 ·simp
 ·split
  ·simp
  ·rw [StrLaws.partsBetween_eq]
   obtain⟨p,r,e⟩:=StrLaws.partsFrom_ne x y.length 0 (Builtin.Str.occurrences x y 0 x.length (x.length+1))
   rw [e]
   simp
theorem f7i{x:Str}{c:Nat}{ps:List Str}(hn:ps≠[])(hf:∀ p∈ps,c∉sg p)(h:sg x=sg (Str.join ⟨#[c]⟩ ps)):a5s x ⟨#[c]⟩=ps:=by
 rw [g2e]
 refine h2x (c:=c) (g8j _ _) hn (fun p hp=>StrLaws.split_free x c p hp) hf ?_
 rw [StrLaws.join_split,h]
end L2
namespace L2
open PySem PySem.Spec PyProof.Rows
def b6k(t t':TE):TE:=fun σ H Q=>t σ H Q\/t' σ H Q
theorem a0o{X:Cx}{e:Expr}{t t':TE}(h:PE X e t)(h':PE X e t'):PE X e (b6k t t'):=fun pins s σ H Q I z=>z.elim (h pins s σ H Q I) (h' pins s σ H Q I)
theorem i9d:∀ (k n:Nat),n < 10 ^ (k+1)->(dg n).length<=k+1
 | 0,n,h=>by
  rw [g5c (by omega)]
  exact Nat.le_refl _
 | k+1,n,h=>by
  rcases Nat.lt_or_ge n 10 with z | z
  ·rw [g5c z,List.length_singleton]
   omega
  ·have e:n=10*(n / 10)+n % 10:=by omega
   rw [e,f6z (by omega) (by omega),List.length_append,List.length_singleton]
   have:=i9d k (n / 10) (by rw [Nat.pow_succ] at h; omega)
   omega
theorem h5t{K:PySem.W.Frag}{a D:Addr}{xs:List V}{te:TE}{σ:St}{H:Hp}{Q:VK}(Pv:Nat->List V->Hp->Prop)(h0:Pv 0 [] H)(hsz:xs.length<=sizeLine)
  (hD:∀ i ys H,i<=xs.length->Pv i ys H->H D=some (.lst ys)/\SqL K H a xs/\ys.length=i)
  (hs:∀ i x ys H,xs[i]? = some x->Pv i ys H->∃ p u v,x = .ref p/\H p=some (.tup [u,v])/\te (some u :: some v :: σ) H fun y H2=>H2 D=some (.lst ys)/\∀ H3,b1u D H2 H3->H3 D=some (.lst (ys++[y]))->Pv (i+1) (ys++[y]) H3)
  (hd:∀ ys H,Pv xs.length ys H->Q (.ref D) H):h8t (Itl K a) te D σ H Q ⟨⟩:=by
 refine⟨xs.length,Pv,h0,fun i ys H hi p=>?_⟩
 obtain⟨e1,e2,e3⟩:=hD i ys H hi p
 refine⟨e1,?_⟩
 by_cases hlt:i < xs.length
 ·refine .inr ⟨hlt,⟨xs,xs[i],e2,by simp [hlt]⟩,by omega,fun x H' y=>?_⟩
  obtain⟨e,y⟩:=y
  subst e
  exact hs i x ys _ (y xs e2) p
 ·have e:i=xs.length:=by omega
  subst e
  exact .inl ⟨⟨xs,e2,Nat.le_refl _⟩,hd ys H p⟩
open PySem.Builtin.Int (intBits)
noncomputable def fW (x : Rat) : Str := Str.empty ++ Str.ofString (toString x.num) ++ Str.ofString "/" ++ Str.ofString (toString (x.den : Int))
noncomputable def cW (c : Int × Rat) : Str := Str.empty ++ Str.ofString (toString c.1) ++ Str.ofString "=" ++ fW c.2
noncomputable def nW(n:Nat):Str:=Str.ofString (toString (n:Int))
def YOk(y:Rat):Prop:=y.num.natAbs<=1000/\y.den<=1000
inductive Dt where
 | gain (y:Rat)
 | delay (n:Nat)
 | echo (y:Rat) (n t:Nat)
 | back (y:Rat) (n:Nat)
 | hall (y:Rat) (n:Nat)
 | swell (cs:List (Int×Rat))
noncomputable def Dt.kd:Dt->Nat
 | .gain _=>0
 | .delay _=>1
 | .echo .. => 2
 | .back .. => 3
 | .hall .. => 4
 | .swell _=>5
noncomputable def Dt.kind:Dt->Str
 | .gain _ => Str.ofString "gain"
 | .delay _ => Str.ofString "delay"
 | .echo .. => Str.ofString "echo"
 | .back .. => Str.ofString "back"
 | .hall .. => Str.ofString "hall"
 | .swell _ => Str.ofString "swell"
noncomputable def Dt.vals:Dt->List Str
 | .gain y=>[fW y]
 | .delay n=>[nW n]
 | .echo y n t=>[fW y,nW n,nW t]
 | .back y n=>[fW y,nW n]
 | .hall y n=>[fW y,nW n]
 | .swell cs=>[Str.join ⟨#[44]⟩ (cs.map cW)]
noncomputable def Dt.word(d:Dt):Str:=Str.join ⟨#[58]⟩ (d.kind :: d.vals)
def h1q(cs:List (Int×Rat)):Prop:=(∀ c∈cs,0<=c.1/\c.1<=100000/\YOk c.2)/\(∀ (i:Nat) c d,cs[i]? = some c->cs[i+1]? = some d->c.1 < d.1)/\1<=cs.length/\cs.length<=12
noncomputable def Dt.ok:Dt->Prop
 | .gain y=>YOk y
 | .delay n=>n<=1000
 | .echo y n t=>YOk y/\1<=n/\n<=1000/\t<=16
 | .back y n=>YOk y/\1<=n/\n<=1000
 | .hall y n=>YOk y/\(y.num.natAbs:Int) < y.den/\1<=n/\n<=1000
 | .swell cs=>h1q cs
theorem b9m{t:Int}{n:Nat}(h:t.natAbs < 2 ^ n)(hn:1<=n):t.natAbs.log2 < n:=by
 rcases Nat.eq_zero_or_pos t.natAbs with z | z
 ·rw [z]
  show Nat.log2 0 < n
  have:Nat.log2 0=0:=by decide
  omega
 ·rw [Nat.log2_lt (by omega)]
  exact h
theorem b9n{t:Int}{n:Nat}(h:t.natAbs < 2 ^ n)(hn:1<=n):(Str.ofString (toString t)).length<=n+1:=by
 have e:(Str.ofString (toString t)).length=(txt t).length:=by rw [<- a9g,d7p]
 have:=h5p t
 have:=b9m h hn
 omega
theorem f3w{n:Nat}(h:n < 2 ^ 20):(nW n).length<=21:=b9n (t:=(n:Int)) (n:=20) (by omega) (by decide)
theorem YOk.b{y:Rat}(h:YOk y):intBits y.num<=10/\intBits (y.den:Int)<=10:=⟨intBits_le_iff.mpr (Nat.lt_of_le_of_lt h.1 (by decide)),intBits_le_iff.mpr (Nat.lt_of_le_of_lt (show (y.den:Int).natAbs<=1000 from h.2) (by decide))⟩
theorem f3y{x:Rat}(h1:intBits x.num<=10)(h2:intBits (x.den:Int)<=10):(fW x).length<=23:=by
 have a:=b9n (intBits_le_iff.mp h1) (by decide)
 have b:=b9n (intBits_le_iff.mp h2) (by decide)
 have e0:Str.empty.length=0:=rfl
 have e1 : (Str.ofString "/").length = 1 := by decide +kernel
 unfold fW
 simp only [strLen_append,e0,e1]
 omega
theorem j1i{c:Int×Rat}(h0:c.1.natAbs < 2 ^ 20)(h1:intBits c.2.num<=10)(h2:intBits (c.2.den:Int)<=10):(cW c).length<=45:=by
 have a:=b9n h0 (by decide)
 have b:=f3y h1 h2
 have e0:Str.empty.length=0:=rfl
 have e1 : (Str.ofString "=").length = 1 := by decide +kernel
 unfold cW
 simp only [strLen_append,e0,e1]
 omega
theorem h2y(n:Nat):sg (nW n)=txt (n:Int):=d7p _
theorem i1c(y:Rat):sg (fW y)=h8o y.num (y.den:Int):=by
 unfold fW h8o
 rw [a3r,a3r,a3r,d7p,d7p]
 have e4:sg Str.empty = []:=rfl
 have e5 : sg (Str.ofString "/") = [47] := by decide +kernel
 rw [e4,e5]
 simp
theorem i9e(c:Int×Rat):sg (cW c)=txt c.1++61 :: sg (fW c.2):=by
 unfold cW
 rw [a3r,a3r,a3r,d7p]
 have e4:sg Str.empty = []:=rfl
 have e5 : sg (Str.ofString "=") = [61] := by decide +kernel
 rw [e4,e5]
 simp
theorem j3r{y:Rat}(h:YOk y):Good (sg (fW y)) y.num (y.den:Int):=by
 have dp:=y.den_pos
 refine⟨i1c y,by omega,y.reduced,?_,?_⟩
 ·exact i9d 8 _ (Nat.lt_of_le_of_lt h.1 (by decide))
 ·exact i9d 8 _ (Nat.lt_of_le_of_lt (show (y.den:Int).natAbs<=1000 from h.2) (by decide))
theorem i1d{c:Nat}(h1:c≠45)(h2:57 < c)(y:Rat):c∉sg (fW y):=by
 rw [i1c]
 unfold h8o
 intro h
 rcases List.mem_append.mp h with z | z
 ·exact d3s h1 (.inr h2) z
 ·rcases List.mem_cons.mp z with z | z
  ·omega
  ·exact d3s h1 (.inr h2) z
theorem i4p{c:Nat}(h1:c≠45)(h2:c < 48\/57 < c)(n:Nat):c∉sg (nW n):=by
 rw [h2y]
 exact d3s h1 h2
theorem j3s(y:Rat):44∉sg (fW y):=by
 rw [i1c]
 unfold h8o
 intro h
 rcases List.mem_append.mp h with z | z
 ·exact d3s (by decide) (.inl (by decide)) z
 ·rcases List.mem_cons.mp z with z | z
  ·omega
  ·exact d3s (by decide) (.inl (by decide)) z
theorem j3t(c:Int×Rat):44∉sg (cW c):=by
 rw [i9e]
 intro h
 rcases List.mem_append.mp h with z | z
 ·exact d3s (by decide) (.inl (by decide)) z
 ·rcases List.mem_cons.mp z with z | z
  ·omega
  ·exact j3s _ z
theorem j3u(c:Int×Rat):58∉sg (cW c):=by
 rw [i9e]
 intro h
 rcases List.mem_append.mp h with z | z
 ·exact d3s (by decide) (.inr (by decide)) z
 ·rcases List.mem_cons.mp z with z | z
  ·omega
  ·exact i1d (by decide) (by decide) _ z
theorem i4q{c k:Nat}(hk:c≠k):∀ {ps:List Str},(∀ p∈ps,c∉sg p)->c∉sg (Str.join ⟨#[k]⟩ ps)
 | [],_=>by
  show c∉([] : List Nat)
  simp
 | [p],h=>h p (List.mem_cons_self ..)
 | p :: q :: r,h=>by
  rw [b1z]
  intro z
  rcases List.mem_append.mp z with z | z
  ·exact h p (List.mem_cons_self ..) z
  ·rcases List.mem_cons.mp z with z | z
   ·exact hk z
   ·exact i4q hk (fun x hx=>h x (List.mem_cons_of_mem _ hx)) z
theorem h2z{b:Nat}:∀ {l:List Nat},(∀ x∈l,x<=b)->l.sum<=l.length*b
 | [],_=>Nat.zero_le _
 | x :: l,h=>by
  have i:=h2z (l:=l) fun y hy=>h y (List.mem_cons_of_mem _ hy)
  have:=h x (List.mem_cons_self ..)
  rw [List.sum_cons,List.length_cons,Nat.succ_mul]
  omega
theorem h8y{z:Str}{ps:List Str}{n:Nat}(h:∀ p∈ps,p.length<=n):(Str.join z ps).length<=ps.length*n+ps.length*z.length:=by
 have a:=StrLaws.join_length_le z ps
 have b:=h2z (b:=n) (l:=ps.map (·.length)) fun x hx=>by
  obtain⟨y,hy,rfl⟩:=List.mem_map.mp hx
  exact h y hy
 rw [List.length_map] at b
 have c:(ps.length - 1)*z.length<=ps.length*z.length:=Nat.mul_le_mul_right _ (Nat.sub_le _ _)
 omega
theorem h1q.len{cs:List (Int×Rat)}(h:h1q cs):∀ c∈cs,(cW c).length<=45:=fun c hc=>by
 obtain⟨a,b,y⟩:=h.1 c hc
 exact j1i (by omega) y.b.1 y.b.2
theorem h1q.k1s{cs:List (Int×Rat)}(h:h1q cs):(Str.join ⟨#[44]⟩ (cs.map cW)).length<=600:=by
 have a:=h8y (z:=⟨#[44]⟩) (ps:=cs.map cW) (n:=45) fun p hp=>by
  obtain⟨c,hc,rfl⟩:=List.mem_map.mp hp
  exact h.len c hc
 rw [List.length_map,f6y] at a
 have:=h.2.2.2
 omega
theorem Dt.free{d:Dt}:∀ p∈d.kind :: d.vals,58∉sg p:=by
 cases d <;> intro p hp <;> simp only [Dt.kind,Dt.vals,List.mem_cons,List.not_mem_nil,or_false] at hp
 case gain => rcases hp with rfl | rfl; decide +kernel; exact i1d (by decide) (by decide) _
 case delay => rcases hp with rfl | rfl; decide +kernel; exact i4p (by decide) (.inr (by decide)) _
 case echo => rcases hp with rfl | rfl | rfl | rfl; decide +kernel; exact i1d (by decide) (by decide) _; exact i4p (by decide) (.inr (by decide)) _; exact i4p (by decide) (.inr (by decide)) _
 case back => rcases hp with rfl | rfl | rfl; decide +kernel; exact i1d (by decide) (by decide) _; exact i4p (by decide) (.inr (by decide)) _
 case hall => rcases hp with rfl | rfl | rfl; decide +kernel; exact i1d (by decide) (by decide) _; exact i4p (by decide) (.inr (by decide)) _
 case swell cs =>
  rcases hp with rfl | rfl
  ·decide +kernel
  ·refine i4q (by decide) fun p hp=>?_
   obtain⟨c,_,rfl⟩:=List.mem_map.mp hp
   exact j3u c
theorem Dt.vlen{d:Dt}(h:d.ok):∀ p∈d.kind :: d.vals,p.length<=600:=by
 have k1 : (Str.ofString "gain").length = 4 := by decide +kernel
 have k2 : (Str.ofString "delay").length = 5 := by decide +kernel
 have k3 : (Str.ofString "echo").length = 4 := by decide +kernel
 have k4 : (Str.ofString "back").length = 4 := by decide +kernel
 have k5 : (Str.ofString "hall").length = 4 := by decide +kernel
 have k6 : (Str.ofString "swell").length = 5 := by decide +kernel
 have f:∀ {y:Rat},YOk y->(fW y).length<=600:=fun h=>Nat.le_trans (f3y h.b.1 h.b.2) (by decide)
 have g:∀ {n:Nat},n<=1000->(nW n).length<=600:=fun h=>Nat.le_trans (f3w (Nat.lt_of_le_of_lt h (by decide))) (by decide)
 cases d <;> intro p hp <;> simp only [Dt.kind,Dt.vals,List.mem_cons,List.not_mem_nil,or_false] at hp
 case gain => rcases hp with rfl | rfl; omega; exact f h
 case delay => rcases hp with rfl | rfl; omega; exact g h
 case echo => rcases hp with rfl | rfl | rfl | rfl; omega; exact f h.1; exact g h.2.2.1; exact g (Nat.le_trans h.2.2.2 (by decide))
 case back => rcases hp with rfl | rfl | rfl; omega; exact f h.1; exact g h.2.2
 case hall => rcases hp with rfl | rfl | rfl; omega; exact f h.1; exact g h.2.2.2
 case swell cs => rcases hp with rfl | rfl; omega; exact h.k1s
theorem Dt.vn{d:Dt}:d.vals.length<=3:=by
 cases d <;> simp [Dt.vals]
theorem Dt.wlen{d:Dt}(h:d.ok):d.word.length<=4000:=by
 have a:=h8y (z:=⟨#[58]⟩) (d.vlen h)
 have b:=d.vn
 rw [List.length_cons,f6y] at a
 unfold Dt.word
 omega
theorem Dt.split(d:Dt):a5s d.word ⟨#[58]⟩=d.kind :: d.vals:=f7i (by simp) d.free rfl
theorem g8k{cs:List (Int×Rat)}(h:1<=cs.length):a5s (Str.join ⟨#[44]⟩ (cs.map cW)) ⟨#[44]⟩=cs.map cW:=f7i (by intro z; have:=congrArg List.length z; rw [List.length_map,List.length_nil] at this; omega) (fun p hp=>by
 obtain⟨c,_,rfl⟩:=List.mem_map.mp hp
 exact j3t c) rfl
theorem h3a{c:Int×Rat}:a5s (cW c) ⟨#[61]⟩ = [Str.ofString (toString c.1),fW c.2]:=f7i (by simp) (fun p hp=>by
 rcases List.mem_cons.mp hp with rfl | hp
 ·rw [d7p]
  exact d3s (by decide) (.inr (by decide))
 ·rw [List.mem_singleton.mp hp]
  exact i1d (by decide) (by decide) _) (by rw [b1z,i9e,d7p]; rfl)
theorem h5u(z p:Str):Str.join z [p]=p:=rfl
theorem i1e:sg Str.empty = []:=rfl
theorem j9a : sg (Str.ofString "gain:") = sg (Str.ofString "gain") ++ [58] := by decide +kernel
theorem j3v : sg (Str.ofString "delay:") = sg (Str.ofString "delay") ++ [58] := by decide +kernel
theorem j9b : sg (Str.ofString "echo:") = sg (Str.ofString "echo") ++ [58] := by decide +kernel
theorem j1j : sg (Str.ofString "back:") = sg (Str.ofString "back") ++ [58] := by decide +kernel
theorem j1k : sg (Str.ofString "hall:") = sg (Str.ofString "hall") ++ [58] := by decide +kernel
theorem j3w : sg (Str.ofString "swell:") = sg (Str.ofString "swell") ++ [58] := by decide +kernel
theorem h3b : sg (Str.ofString ":") = [58] := by decide +kernel
theorem i4r : Str.ofString "," = ⟨#[44]⟩ := by decide +kernel
theorem j9c : Str.ofString ":" = ⟨#[58]⟩ := by decide +kernel
theorem j9d : Str.ofString "=" = ⟨#[61]⟩ := by decide +kernel
theorem i4s (y : Rat) : Str.empty ++ Str.ofString "gain:" ++ fW y = (Dt.gain y).word := a9p (by
 simp only [Dt.word,Dt.kind,Dt.vals,a3r,b1z,h5u,i1e,j9a,h3b,List.nil_append,List.append_assoc,List.singleton_append,List.cons_append])
theorem h5v (n : Nat) : Str.empty ++ Str.ofString "delay:" ++ nW n = (Dt.delay n).word := a9p (by
 simp only [Dt.word,Dt.kind,Dt.vals,a3r,b1z,h5u,i1e,j3v,h3b,List.nil_append,List.append_assoc,List.singleton_append,List.cons_append])
theorem i4t (y : Rat) (n t : Nat) : Str.empty ++ Str.ofString "echo:" ++ fW y ++ Str.ofString ":" ++ nW n ++ Str.ofString ":" ++ nW t = (Dt.echo y n t).word := a9p (by
 simp only [Dt.word,Dt.kind,Dt.vals,a3r,b1z,h5u,i1e,j9b,h3b,List.nil_append,List.append_assoc,List.singleton_append,List.cons_append])
theorem i4u (y : Rat) (n : Nat) : Str.empty ++ Str.ofString "back:" ++ fW y ++ Str.ofString ":" ++ nW n = (Dt.back y n).word := a9p (by
 simp only [Dt.word,Dt.kind,Dt.vals,a3r,b1z,h5u,i1e,j1j,h3b,List.nil_append,List.append_assoc,List.singleton_append,List.cons_append])
theorem i4v (y : Rat) (n : Nat) : Str.empty ++ Str.ofString "hall:" ++ fW y ++ Str.ofString ":" ++ nW n = (Dt.hall y n).word := a9p (by
 simp only [Dt.word,Dt.kind,Dt.vals,a3r,b1z,h5u,i1e,j1k,h3b,List.nil_append,List.append_assoc,List.singleton_append,List.cons_append])
theorem i9f(z:Str)(ps:List Str):Txt.join z ps=Str.join z ps:=by
 show Builtin.Str.glued _ _=_
 rw [StrLaws.glued_eq_join]
theorem h5w (cs : List (Int × Rat)) : Str.empty ++ Str.ofString "swell:" ++ Txt.join (Str.ofString ",") (cs.map cW) = (Dt.swell cs).word := a9p (by
 rw [i9f,i4r]
 simp only [Dt.word,Dt.kind,Dt.vals,a3r,b1z,h5u,i1e,j3w,h3b,List.nil_append,List.append_assoc,List.singleton_append,List.cons_append])
end L2
namespace L2
open PySem PySem.Spec PyProof.Rows
section
variable {X:Cx}
noncomputable def rInsF:V->List V->Hp->VK->Prop:=fun x vs H Q=>match x,vs with
 | .ref l,[.int i,y]=>(match H l with
  | some (.lst xs)=>0<=i/\i < 1000000/\xs.length < sizeLine/\All (fun v H1=>v = .non/\b1u l H H1/\H1 l=some (.lst (xs.take i.toNat++y :: xs.drop i.toNat))) Q ⟨⟩ ⟨⟩
  | _=>False)
 | _,_=>False
end
end L2
namespace L2
open PySem PySem.Spec PyProof.Rows PySem.W
theorem d2j(s:String):PyData.strOk (Str.ofString s)=true:=by
 rw [Str.ofString_eq_toList]
 unfold PyData.strOk
 show (List.toArray (s.toList.map Char.toNat)).all _=true
 rw [List.all_toArray,List.all_eq_true]
 intro c hc
 obtain⟨x,_,rfl⟩:=List.mem_map.mp hc
 rw [decide_eq_true_eq]
 have:=x.valid
 unfold UInt32.isValidChar Nat.isValidChar at this
 show x.val.toNat < 1114112
 omega
theorem a8w{x y:Str}(h1:PyData.strOk x=true)(h2:PyData.strOk y=true):PyData.strOk (x++y)=true:=by
 unfold PyData.strOk at *
 show (x.cps++y.cps).all _=true
 rw [Array.all_append,h1,h2]
 rfl
theorem h3c{K:PySem.W.Frag}{H:Hp}:∀ ss:List Str,d7u K H (ss.map V.str) (kqdPs (ss.map Dat.str))
 | []=>.nil
 | n :: ns=>.cons (.str n) (h3c ns)
theorem g2f{ns ms:List Str}:ns.map Dat.str=ms.map Dat.str ↔ ns=ms:=by
 induction ns generalizing ms with
 | nil=>cases ms <;> simp
 | cons n ns ih=>cases ms <;> simp [ih]
theorem g1g{ss:List Str}(h:∀ s∈ss,PyData.strOk s=true):kqdOk 1 (.list (ss.map .str))=true:=by
 show (ss.map Dat.str).all (kqdOk 0)=true
 rw [List.all_eq_true]
 intro d hd
 obtain⟨s,hs,rfl⟩:=List.mem_map.mp hd
 exact h s hs
theorem f3z{K:PySem.W.Frag}{H:Hp}{p:Addr}{ss:List Str}(h:SqL K H p (ss.map V.str)):h1p K H (.ref p) (kqdP (.list (ss.map .str))):=by
 rw [kqdP]
 exact .lst h (h3c ss)
theorem g8l{K:PySem.W.Frag}{H:Hp}{p q:Addr}{ns ms:List Str}{Q:VK}(hp:SqL K H p (ns.map V.str))(hq:SqL K H q (ms.map V.str))(h1:∀ s∈ns,PyData.strOk s=true)(h2:∀ s∈ms,PyData.strOk s=true)(h:Q (.bl (!decide (ns=ms))) H):k1o K (.ref p) (.ref q) H Q :=
 j8b (f3z hp) (f3z hq) (g1g h1) (g1g h2) (by decide) (by decide) (by rw [decide_eq_true_eq,Dat.list.injEq,g2f]) h
theorem h8z{K:PySem.W.Frag}{H:Hp}{p q:Addr}{ns ms:List Str}{Q:VK}(hp:SqL K H p (ns.map V.str))(hq:SqL K H q (ms.map V.str))(h1:∀ s∈ns,PyData.strOk s=true)(h2:∀ s∈ms,PyData.strOk s=true)(h:Q (.bl (decide (ns=ms))) H):k1n K (.ref p) (.ref q) H Q :=
 j8a (f3z hp) (f3z hq) (g1g h1) (g1g h2) (by decide) (by decide) (by rw [decide_eq_true_eq,Dat.list.injEq,g2f]) h
theorem f4g:PyData.strOk Str.empty=true:=by decide +kernel
theorem i4w(x:Rat):PyData.strOk (fW x)=true:=by
 unfold fW
 exact a8w (a8w (a8w f4g (d2j _)) (d2j _)) (d2j _)
theorem g8m{d:Dt}(h:d.kd < 4):PyData.strOk d.word=true:=by
 cases d with
 | gain y=>rw [<- i4s]; exact a8w (a8w f4g (d2j _)) (i4w _)
 | delay n=>rw [<- h5v]; exact a8w (a8w f4g (d2j _)) (d2j _)
 | echo y n t=>rw [<- i4t]; exact a8w (a8w (a8w (a8w (a8w (a8w f4g (d2j _)) (i4w _)) (d2j _)) (d2j _)) (d2j _)) (d2j _)
 | back y n=>rw [<- i4u]; exact a8w (a8w (a8w (a8w f4g (d2j _)) (i4w _)) (d2j _)) (d2j _)
 | hall y n=>exact absurd h (by simp [Dt.kd])
 | swell cs=>exact absurd h (by simp [Dt.kd])
end L2
namespace L2
open PySem PySem.Spec PyProof.Rows
section
variable {X:Cx}
end
section
variable {X:Cx}{scope:Scope}{x y:Str}{pins:List (Addr×Obj)}{σ:St}{elt iter cnd:Expr}{px py tpos pos:Pos}{kk:Nat}{wi:TI}{te:TE}{tc:TT}
end
end L2
namespace L2
open PySem PySem.Spec PyProof.Rows
theorem hu1{n:Nat}(h:n+64 < cLine):n+1 < cLine:=by omega
section
variable {X:Cx}{o i e value:Expr}{pos pos' tpos:Pos}{td ty tv tk:TE}
end
end L2
namespace L2
open PySem PySem.Spec PyProof.Rows PySem.W
mutual
inductive Rp(H:Hp)(N:Addr->Prop):V->Dat->Prop
 | str (s:Str):Rp H N (.str s) (.str s)
 | int (n:Int):Rp H N (.int n) (.int n)
 | lst {p:Addr} {vs:List V} {ds:List Dat}:N p->H p=some (.lst vs)->RpL H N vs ds->Rp H N (.ref p) (.list ds)
 | tup {p:Addr} {vs:List V} {ds:List Dat}:H p=some (.tup vs)->RpL H N vs ds->Rp H N (.ref p) (.tuple ds)
inductive RpL(H:Hp)(N:Addr->Prop):List V->List Dat->Prop
 | nil:RpL H N [] []
 | cons {v:V} {vs:List V} {d:Dat} {ds:List Dat}:Rp H N v d->RpL H N vs ds->RpL H N (v :: vs) (d :: ds)
end
def i9g(N:Addr->Prop)(H H':Hp):Prop:=∀ z u,(N z->∀ ys,u≠.lst ys)->H z=some u->H' z=some u
section
variable {H H':Hp}{N M:Addr->Prop}
mutual
theorem Rp.go(h1:∀ z vs,N z->H z=some (.lst vs)->H' z=some (.lst vs)/\M z)(h2:∀ z vs,H z=some (.tup vs)->H' z=some (.tup vs)):∀ {v:V} {d:Dat},Rp H N v d->Rp H' M v d
 | _,_,.str s=>.str s
 | _,_,.int n=>.int n
 | _,_,.lst n h r=>.lst (h1 _ _ n h).2 (h1 _ _ n h).1 (RpL.go h1 h2 r)
 | _,_,.tup h r=>.tup (h2 _ _ h) (RpL.go h1 h2 r)
theorem RpL.go(h1:∀ z vs,N z->H z=some (.lst vs)->H' z=some (.lst vs)/\M z)(h2:∀ z vs,H z=some (.tup vs)->H' z=some (.tup vs)):∀ {vs:List V} {ds:List Dat},RpL H N vs ds->RpL H' M vs ds
 | _,_,.nil=>.nil
 | _,_,.cons h r=>.cons (Rp.go h1 h2 h) (RpL.go h1 h2 r)
end
mutual
theorem Rp.deep{K:PySem.W.Frag}:∀ {v:V} {d:Dat},Rp H N v d->h1p K H v (kqdP d)
 | _,_,.str s=>by rw [kqdP]; exact .str s
 | _,_,.int n=>by rw [kqdP]; exact .int n
 | _,_,.lst n h r=>by rw [kqdP]; exact .lst (SqL.of h) (RpL.deep r)
 | _,_,.tup h r=>by rw [kqdP]; exact .tup (SqT.of h) (RpL.deep r)
theorem RpL.deep{K:PySem.W.Frag}:∀ {vs:List V} {ds:List Dat},RpL H N vs ds->d7u K H vs (kqdPs ds)
 | _,_,.nil=>.nil
 | _,_,.cons h r=>.cons (Rp.deep h) (RpL.deep r)
end
theorem RpL.len:∀ {vs:List V} {ds:List Dat},RpL H N vs ds->vs.length=ds.length
 | _,_,.nil=>rfl
 | _,_,.cons _ r=>by rw [List.length_cons,List.length_cons,RpL.len r]
theorem RpL.at:∀ {vs:List V} {ds:List Dat} {i:Nat} {d:Dat},RpL H N vs ds->ds[i]? = some d->∃ v,vs[i]? = some v/\Rp H N v d
 | _,_,_,_,.nil,h=>by simp at h
 | _,_,0,_,.cons h r,e=>by cases e; exact⟨_,rfl,h⟩
 | _,_,i+1,_,.cons h r,e=>by
  rw [List.getElem?_cons_succ] at e
  obtain⟨v,e1,e2⟩:=RpL.at r e
  exact⟨v,by rw [List.getElem?_cons_succ]; exact e1,e2⟩
theorem Rp.list{v:V}{ds:List Dat}(h:Rp H N v (.list ds)):∃ p vs,v = .ref p/\N p/\H p=some (.lst vs)/\RpL H N vs ds:=by
 cases h with
 | lst n e r=>exact⟨_,_,rfl,n,e,r⟩
theorem Rp.tuple{v:V}{ds:List Dat}(h:Rp H N v (.tuple ds)):∃ p vs,v = .ref p/\H p=some (.tup vs)/\RpL H N vs ds:=by
 cases h with
 | tup e r=>exact⟨_,_,rfl,e,r⟩
theorem RpL.two{vs:List V}{a b:Dat}(h:RpL H N vs [a,b]):∃ x y,vs = [x,y]/\Rp H N x a/\Rp H N y b:=by
 cases h with
 | cons h1 r=>cases r with
  | cons h2 r=>cases r; exact⟨_,_,rfl,h1,h2⟩
theorem i9g.trans{H2:Hp}(S:i9g N H H')(S2:i9g N H' H2):i9g N H H2:=fun z u n e=>S2 _ _ n (S _ _ n e)
end
noncomputable abbrev Sd:=Str×Str×List Str
structure Pd where
 ts:List Str
 bs:List Str
 es:List Sd
 os:List (Str×Int)
noncomputable def h5x(ss:List Str):Dat:=.list (ss.map .str)
noncomputable def dSd(e:Sd):Dat:=.tuple [.str e.1,.str e.2.1,h5x e.2.2]
noncomputable def dOu(x:Str×Int):Dat:=.tuple [.str x.1,.int x.2]
noncomputable def dPd(p:Pd):Dat:=.list [h5x p.ts,h5x p.bs,.list (p.es.map dSd),.list (p.os.map dOu)]
noncomputable def Nw(N:Addr->Prop)(t b sd ou:Addr):Addr->Prop:=fun a=>N a/\a≠t/\a≠b/\a≠sd/\a≠ou
structure Fl(H:Hp)(N:Addr->Prop)(t b sd ou:Addr)(p:Pd):Prop where
 n:N t/\N b/\N sd/\N ou
 d:t≠b/\t≠sd/\t≠ou/\b≠sd/\b≠ou/\sd≠ou
 ht:H t=some (.lst (p.ts.map V.str))
 hb:H b=some (.lst (p.bs.map V.str))
 hs:∃ us,H sd=some (.lst us)/\RpL H (Nw N t b sd ou) us (p.es.map dSd)
 ho:∃ us,H ou=some (.lst us)/\RpL H (Nw N t b sd ou) us (p.os.map dOu)
section
variable {H H':Hp}{N M:Addr->Prop}{t b sd ou:Addr}{p:Pd}
end
section
variable {H H':Hp}{N M:Addr->Prop}{L:Addr}{p:Pd}
end
structure k5s(p:Pd):Prop where
 t:∀ s∈p.ts,PyData.strOk s=true
 b:∀ s∈p.bs,PyData.strOk s=true
 s:∀ e∈p.es,PyData.strOk e.1=true/\PyData.strOk e.2.1=true/\∀ x∈e.2.2,PyData.strOk x=true
 o:∀ x∈p.os,PyData.strOk x.1=true
theorem g8n{n:Nat}{ss:List Str}(h:∀ s∈ss,PyData.strOk s=true):kqdOk (n+1) (h5x ss)=true:=by
 show (ss.map Dat.str).all (kqdOk n)=true
 rw [List.all_eq_true]
 intro d hd
 obtain⟨s,hs,rfl⟩:=List.mem_map.mp hd
 cases n <;> exact h s hs
theorem j9e{n:Nat}{es:List Sd}(h:∀ e∈es,PyData.strOk e.1=true/\PyData.strOk e.2.1=true/\∀ x∈e.2.2,PyData.strOk x=true):kqdOk (n+3) (.list (es.map dSd))=true:=by
 show (es.map dSd).all (kqdOk (n+2))=true
 rw [List.all_eq_true]
 intro d hd
 obtain⟨e,he,rfl⟩:=List.mem_map.mp hd
 show (PyData.strOk e.1 && (PyData.strOk e.2.1 && (kqdOk (n+1) (h5x e.2.2) && true)))=true
 rw [(h e he).1,(h e he).2.1,g8n (h e he).2.2]
 rfl
theorem j9f{n:Nat}{os:List (Str×Int)}(h:∀ x∈os,PyData.strOk x.1=true):kqdOk (n+3) (.list (os.map dOu))=true:=by
 show (os.map dOu).all (kqdOk (n+2))=true
 rw [List.all_eq_true]
 intro d hd
 obtain⟨e,he,rfl⟩:=List.mem_map.mp hd
 show (PyData.strOk e.1 && (true && true))=true
 rw [h e he]
 rfl
theorem k5s.k{p:Pd}(h:k5s p):kqdOk 4 (dPd p)=true:=by
 show (kqdOk 3 (h5x p.ts) && (kqdOk 3 (h5x p.bs) && (kqdOk 3 (.list (p.es.map dSd)) && (kqdOk 3 (.list (p.os.map dOu)) && true))))=true
 rw [g8n h.t,g8n h.b,j9e h.s,j9f h.o]
 rfl
end L2
namespace L2
open PySem PySem.Spec PyProof.Rows
section
variable {X:Cx}
end
end L2
namespace L2
open PySem PySem.Spec PyProof.Rows
noncomputable def j9g(K:PySem.W.Frag)(C fI:Addr):Bool:=match K.lookup C with
 | some ⟨.type "type", _, .cls cd, sl⟩ => (match cd.mro, sl.toList with
  | .ref C' :: bm, [_, _, _, _, some (.builtin n), _] => (C' == C && n == "ValueError.__new__") && (!cd.hasDel && PySem.W.tailIn K vE bm) && (PySem.W.nsOkIn K cd.ns && PySem.W.nsIn K cd.ns "__init__" == some (some (.ref fI)))
  | _,_=>false)
 | _=>false
section
variable {prog:Program}{w:World}{A:Around}{E:Value->Shared->Prop}{h:Heap}{g:Array GenState}{d:Drawn}{t:Nat}{os:OsState}
variable {nm q:Str}{C N:Addr}{bs bm:List Value}{hdct:Bool}{sn:List Str}{sub:List Value}{ab:Bool}{col:Option Bool}{dd:Option Addr}{k0 k1 k2 k3 k5:Option Value}
end
end L2
namespace L2
open PySem PySem.Spec PyProof.Rows
section
variable {X:Cx}{pins:List (Addr×Obj)}{σ:St}{H:Hp}{s:Shared}{e:Addr}
end
section
variable {P:Program}{w:World}{K:PySem.W.Frag}{mg:Str->Option Value}{base:Heap}{N:List Str}{qual:Str}{scope:Scope}{f:Addr}{cd:Value}{A:Around}{outer:List Env}{s:Shared}{H:Hp}{E:XK}
end
section
variable {X:Cx}{k:Nat}{f C:Addr}{fd:FuncData}{ps:List Str}{sp:Sp}{E:XK}{x:Str}
end
end L2
namespace L2
open PySem PySem.Spec PyProof.Rows
section
variable {prog:Program}{w:World}{A:Around}{E:Value->Shared->Prop}{h:Heap}{g:Array GenState}{d:Drawn}{t:Nat}{os:OsState}
variable {nm q:Str}{C N:Addr}{bs bm:List Value}{hdct:Bool}{sn:List Str}{sub:List Value}{ab:Bool}{col:Option Bool}{dd:Option Addr}{k0 k1 k2 k3 k5:Option Value}
end
structure XAt(K:PySem.W.Frag)(C:Addr)(f:Str):Prop where
 sa : PySem.W.findIn K (.ref C) "__setattr__" = some (some (.builtin "object.__setattr__"))
 na:PySem.W.findIn K (.ref C) f=some none
 hd:PySem.W.hasDictIn K C=true
section
variable {prog:Program}{w:World}{A:Around}{E:Value->Shared->Prop}{s:Shared}{K:PySem.W.Frag}{C fI:Addr}{name:Str}{v:Value}
end
section
variable {prog:Program}{w:World}{A:Around}{E:Value->Shared->Prop}{h:Heap}{g:Array GenState}{d:Drawn}{t:Nat}{os:OsState}{K:PySem.W.Frag}{a C dx:Addr}{o:Obj}{mA:Str->Option Value}{name:Str}{v:Value}
end
section
variable {X:Cx}{f C:Addr}{name:Str}{pos pos' apos p np:Pos}{ta tv:TE}{e₀ o value:Expr}{es:List Expr}{t:TA}{m:Str}{M:Addr}
structure XIn(K:PySem.W.Frag)(M:Addr):Prop where
 sp : PySem.W.specialIn K (.ref M) "__getattribute__" = some (some (.builtin "type.__getattribute__"))
 rd : PySem.W.readsIn K M (.type "type") = true
 fi : PySem.W.findCls K (.ref M) (.type "type") "__init__" = some (.val (.builtin "ValueError.__init__"))
end
end L2
namespace L2
open PySem PySem.Spec PyProof.Rows
section
variable {X:Cx}{k:Nat}{f C:Addr}{fd:FuncData}{ps:List Str}{sp:Sp}{dvs:List V}{ds:List Value}{E:XK}{m:Str}{pos apos:Pos}{e o:Expr}{es:List Expr}{ta:TE}{t:TA}
end
structure k5t(K:PySem.W.Frag)(C f:Addr)(name:Str):Prop where
 ok:j9g K C f=true
 fn:PySem.W.isFn K (.ref f)=true
 kp:PySem.W.keepIn K (.ref C)=true
 sa : PySem.W.findIn K (.ref C) "__setattr__" = some (some (.builtin "object.__setattr__"))
 na:PySem.W.findIn K (.ref C) name=some none
 hd:PySem.W.hasDictIn K C=true
theorem k5t.at{K:PySem.W.Frag}{C f:Addr}{name:Str}(h:k5t K C f name):XAt K C name:=⟨h.sa,h.na,h.hd⟩
end L2
namespace L2
open PySem PySem.Spec PyProof.Rows
structure j5x(X:Cx)(scope:Scope)(x y zz:Str):Prop where
 kind:scope.kind = .function
 f3u:∀ y∈scope.names,y.2≠.cell
 loc:∀ y∈scope.names,y.2 = .local->scope.names.lookup y.1=some .local
 own:scope.names.lookup x=some .local
 k3p:scope.names.lookup y=some .local
 own3:scope.names.lookup zz=some .local
 free:∀ y∈scope.names,y.2 = .free->X.env.kindOf y.1=some .cell\/X.env.kindOf y.1=some .free
 nd:(x :: y :: zz :: mask x X.N).Nodup
 noe : ∀ y ∈ scope.names, y.1 ≠ ""
 vis:∀ y∈mask x X.N,scope.names.lookup y≠some .local
section
variable {X:Cx}{scope:Scope}{x y zz:Str}{cl:List (Str×Addr)}{pins:List (Addr×Obj)}{σ:St}{H:Hp}{s s₄:Shared}{fp:List Addr}
end
section
variable {X:Cx}{scope:Scope}{x y zz:Str}{pins:List (Addr×Obj)}{σ:St}{elt iter:Expr}{px py pz tpos pos:Pos}{kk:Nat}{wi:TI}{te:TE}
end
end L2
namespace L2
open PySem PySem.Spec PyProof.Rows
theorem g2g{e:Value}{f:Option Addr}:d0q (setFlight e f):=by
 unfold setFlight
 refine d0q.bind (fun v=>?_) d3q
 split
 ·exact c6l (by decide)
 ·exact True.intro
theorem i1f{e:Value}{env env':Env}(h:env.frame=env'.frame):noteFrame e env=noteFrame e env':=by
 unfold noteFrame PySem.frameOf
 rw [h]
def h5y(B:Heap)(l:List Env)(a:Addr)(C a0:Value)(h:Heap):Prop:=B.StaysIn h/\B.get? a=none/\h.FunFrames B l/\∃ fl,h.TracedAtW B a C a0 fl
section
variable {M:Model}{A:Around}{E:Value->Shared->Prop}{s:Shared}{base:Heap}{env:Env}{outer l:List Env}{L e:Addr}{cls a0:Value}{dx:Option Addr×Option Value}{Q:Unit->Shared->Prop}
theorem i1g(hfr:A.frames=some (env :: outer))(hf:env.frame=some L)(hh:h5y base (env :: outer) e cls a0 s.heap)(kd:Kd e dx s.heap)
  (hQ:∀ h',Heap.FlyingW base outer e cls a0 h'->s.heap.UpToSlots h'->Kd e dx h'->Q () { s with heap:=h' }):wpAny M A (leaving env (.ref e)) Q E s:=by
 refine wpAny_mono (d7y.any (E:=fun _ _=>False) (Q:=fun _ s'=>∃ h',s' = { s with heap:=h' }/\Heap.FlyingW base outer e cls a0 h'/\s.heap.UpToSlots h') ?_ kd) (fun _ s' z=>?_) fun _ _ z=>z.1.elim
 ·obtain⟨f1,f2,f3,fl,tr⟩:=hh
  by_cases hfl:fl=rawInt L
  ·subst hfl
   unfold leaving
   refine wpAny_bind (wpAny_noteFrame_againW hf tr (wpAny_landsW (L:=L) ⟨f1,f2,f3,tr⟩ fun h' a b=>?_))
   obtain⟨k1,k2,⟨_,_,k3⟩,k4⟩:=a
   exact⟨h',rfl,⟨k1,k2,k3,k4⟩,b⟩
  ·obtain⟨oe,vs,T,oT,ts,he,⟨hc,h0⟩,hd,h1,hnT,hTe,hT,hdT,h3⟩:=tr
   subst hc
   unfold leaving noteFrame
   simp only [hf]
   refine wpAny_bind (wpAny_bind (wpAny_field he hd h1 ?_))
   rw [if_pos (show (Value.ref T != Value.none)=true from by simp)]
   refine wpAny_bind (wpAny_field hT hdT h3 ?_)
   rw [if_neg (by simpa using hfl)]
   refine wpAny_bind (wpAny_setField hT hdT (Array.getElem?_eq_some_iff.mp h3).1 ?_)
   have oth:∀ b,b≠T->(s.heap.update T (Obj.mapFields (·.setIfInBounds 3 Value.none))).get? b=s.heap.get? b:=fun b hb=>Heap.get?_update_other _ _ (Ne.symm hb)
   have j1l:∀ b o,s.heap.get? b=some o->(∀ vs,o.data≠.fields vs)->b≠T:=fun b o hb hnf q=>by
    rw [q,hT] at hb
    cases hb
    exact hnf ts hdT
   refine wpAny_newEntryW hfr (f3.of_keeps fun b o hb hnf=>⟨o,(oth b (j1l b o hb hnf)).trans hb,rfl⟩) hf ((oth e (Ne.symm hTe)).trans he) (fun b o hbo=>(oth b fun q=>by rw [q,hnT] at hbo; cases hbo).trans (f1 b o hbo)) f2 hd (Array.getElem?_eq_some_iff.mp h1).1 h0 fun h' ⟨x1,⟨_,_,x2⟩,x3,x4⟩=>⟨h',rfl,⟨x1,f2,x2,x3⟩,fun b o hb hnf=>x4 b o ((oth b (j1l b o hb hnf)).trans hb) hnf⟩
 ·obtain⟨⟨h',rfl,a,b⟩,c⟩:=z
  exact hQ h' a b c
theorem i1h{α:Type}{what:String}{Q':α->Shared->Prop}{cenv:Env}(hh:h5y base l e cls a0 s.heap)(kd:Kd e dx s.heap)(hE:∀ h',h5y base l e cls a0 h'->s.heap.UpToSlots h'->Kd e dx h'->E (.ref e) { s with heap:=h' }):wpAny M A (PySem.passOn what (.ref e) cenv:Sem α) Q' E s:=by
 obtain⟨f1,f2,f3,fl,oe,vs,T,oT,ts,he,hc,hd,h1,hnT,hTe,hT,hdT,h3⟩:=hh
 have z3:3 < ts.size:=(Array.getElem?_eq_some_iff.mp h3).1
 have oth:∀ (x:Value) (b:Addr),b≠T->(s.heap.update T (Obj.mapFields (·.setIfInBounds 3 x))).get? b=s.heap.get? b:=fun x b hb=>Heap.get?_update_other _ _ (Ne.symm hb)
 have j1l:∀ b o,s.heap.get? b=some o->(∀ vs,o.data≠.fields vs)->b≠T:=fun b o hb hnf q=>by
  rw [q,hT] at hb
  cases hb
  exact hnf ts hdT
 unfold PySem.passOn
 refine wpAny_bind (wpAny_field he hd h1 ?_)
 rw [if_neg (show ¬ ((Value.ref T == Value.none)=true) from by simp)]
 refine wpAny_bind (wpAny_mono (g2g.any (E:=fun _ _=>False) (Q:=fun _ s'=>∃ h',s' = { s with heap:=h' }/\h5y base l e cls a0 h'/\s.heap.UpToSlots h') ?_ kd) (fun _ s' z=>?_) fun _ _ z=>z.1.elim)
 ·unfold setFlight
  refine wpAny_bind (wpAny_field he hd h1 ?_)
  rw [if_pos (show (Value.ref T != Value.none)=true from by simp)]
  refine wpAny_setField hT hdT z3 ⟨_,rfl,⟨fun b o hbo=>(oth _ b fun q=>by rw [q,hnT] at hbo; cases hbo).trans (f1 b o hbo),f2,f3.of_keeps fun b o hb hnf=>⟨o,(oth _ b (j1l b o hb hnf)).trans hb,rfl⟩,(cenv.frame.elim Value.none fun f=>rawInt f),oe,vs,T,_,_,(oth _ e (Ne.symm hTe)).trans he,hc,hd,h1,hnT,hTe,Heap.get?_update_self _ hT (Obj.isFreed_of_fields (Obj.data_mapFields hdT _)),Obj.data_mapFields hdT _,by simp [z3]⟩,fun b o hb hnf=>⟨o.slots,(oth _ b (j1l b o hb hnf)).trans hb⟩⟩
 ·obtain⟨⟨h',rfl,a,b⟩,c⟩:=z
  exact wpAny_throw (hE h' a b c)
end
def g2h(X:Cx)(E:XK):Prop:=∀ (pins:List (Addr×Obj)) (σ:St) (a:Addr) (C a0:Value) (B:Heap) (H':Hp) (s':Shared),h5y B X.stack a C a0 s'.heap->(∀ h',B.StaysIn h'->s'.heap.UpToSlots h'->Inv X pins σ H' { s' with heap:=h' })->H' a=none->X.s₀.heap.get? a=none->(∃ dx cx,Kd a (dx,cx) s'.heap/\E C dx H')->X.xe (.ref a) s'
section
variable {P:Program}{w:World}{K:PySem.W.Frag}{mg:Str->Option Value}{base:Heap}{N:List Str}{qual:Str}{scope:Scope}{f:Addr}{cd:Value}{A:Around}{outer:List Env}{s:Shared}{H:Hp}{E:XK}
theorem g8o:g2h (i2v (CXE P w) P w K mg base N qual scope f cd A outer s H E) E:=by
 intro pins σ a C a0 B H' s' hh un hn nw hE
 obtain⟨dx,cx,kd,hE⟩:=hE
 have J:=un s'.heap hh.1 (Heap.UpToSlots.refl _)
 show wpAny (model P w) (A.deeper (envOfC qual scope s.heap.objs.size f cd)) (leaving (envOfC qual scope s.heap.objs.size f cd) (.ref a)) (fun _ s''=>CXE P w outer H s E (.ref a) s'') (fun e' s''=>CXE P w outer H s E e' s'') s'
 refine i1g J.ok.frames rfl hh kd fun h2 fl u kd2=>?_
 exact⟨a,C,a0,B,H',rfl,fl,J.os,J.bare,fun h3 b3 u3=>let J3:=un h3 b3 (u.trans u3); ⟨J3.base,J3.hok⟩,hn,nw,dx,cx,kd2,(fun h=>by cases h),hE⟩
end
noncomputable def putBack(h:Heap)(a:Addr)(o:Obj):Heap:=if a < h.objs.size then h.update a (fun _=>o) else { h with objs:=h.objs++(Array.replicate (a - h.objs.size) { cls:=.none,data:=.freed }) ++ #[o] }
theorem h3d{h:Heap}{a:Addr}{o:Obj}(ho:o.isFreed=false):(putBack h a o).get? a=some o:=by
 unfold putBack
 split
 ·rename_i hl
  refine Heap.get?_some_iff.mpr ⟨?_,ho⟩
  cases h
  simp only [Heap.update,Array.getElem?_modify,if_true]
  rw [Array.getElem?_eq_getElem hl]
  rfl
 ·rename_i hl
  have hl':h.objs.size<=a:=Nat.le_of_not_lt hl
  have hz:(h.objs++Array.replicate (a - h.objs.size) ({ cls:=.none,data:=.freed }:Obj)).size=a:=by
   rw [Array.size_append,Array.size_replicate]
   exact Nat.add_sub_cancel' hl'
  refine Heap.get?_some_iff.mpr ⟨?_,ho⟩
  show (h.objs++Array.replicate (a - h.objs.size) ({ cls:=.none,data:=.freed }:Obj) ++ #[o])[a]? = some o
  rw [Array.getElem?_append_right (Nat.le_of_eq hz),hz,Nat.sub_self]
  rfl
theorem i1i{h:Heap}{a b:Addr}{o:Obj}(hb:b≠a):(putBack h a o).get? b=h.get? b:=by
 unfold putBack
 split
 ·exact Heap.get?_update_other _ _ (Ne.symm hb)
 ·rename_i hl
  have hl':h.objs.size<=a:=Nat.le_of_not_lt hl
  have hz:(h.objs++Array.replicate (a - h.objs.size) ({ cls:=.none,data:=.freed }:Obj)).size=a:=by
   rw [Array.size_append,Array.size_replicate]
   exact Nat.add_sub_cancel' hl'
  apply Option.ext
  intro u
  rw [Heap.get?_some_iff,Heap.get?_some_iff]
  show ((h.objs++Array.replicate (a - h.objs.size) ({ cls:=.none,data:=.freed }:Obj) ++ #[o])[b]? = some u/\_) ↔ _
  rcases Nat.lt_or_ge b h.objs.size with z | z
  ·rw [Array.getElem?_append_left (by rw [hz]; exact Nat.lt_of_lt_of_le z hl'),Array.getElem?_append_left z]
  ·rw [Array.getElem?_eq_none z]
   constructor
   ·rintro ⟨e,f⟩
    exfalso
    rcases Nat.lt_or_ge b a with y | y
    ·rw [Array.getElem?_append_left (by rw [hz]; exact y),Array.getElem?_append_right z,Array.getElem?_replicate,if_pos (Nat.sub_lt_sub_right z y)] at e
     cases e
     cases f
    ·have y':a < b:=Nat.lt_of_le_of_ne y (Ne.symm hb)
     rw [Array.getElem?_append_right (by rw [hz]; exact y),hz,Array.getElem?_eq_none (Nat.sub_pos_of_lt y')] at e
     cases e
   ·rintro ⟨e,_⟩
    cases e
section
variable {X:Cx}{scope:Scope}{x:Str}{pins pl:List (Addr×Obj)}{σ σ':St}{cl:List (Str×Addr)}{s₃ s9 s':Shared}{H3 H9:Hp}{fp:List Addr}{E:XK}{e:Value}{Q:Value->Shared->Prop}{acc:Value}
theorem g6p(hP:g2h X E)(I3:Inv X pins σ H3 s₃)(f3:∀ b∈fp,g0v X pins H3 b)(I9:Inv (b0n X scope cl s₃.heap.objs.size s₃ H3 fp x) pl σ' H9 s9)(hfp:∀ b∈fp,∃ o,s9.heap.get? b=some o)(cx:CXE X.prog X.w X.stack H9 s9 E e s')
  (hst:X.stack=X.env :: X.outer) (hfr:X.env.frame=some X.env.locals) (hex:X.ex = []) :
  notedBy (model X.prog X.w) X.A (compEnvC scope cl s₃.heap.objs.size X.env) (fun e s''=>compPost (model X.prog X.w) X.A X.xe none Q acc s₃.heap.objs.size (.error e) s'') e s':=by
 obtain⟨a,C,a0,B,H',rfl,fl,os,bare,un,hn,nw,dx,cx',kd,_,hE⟩:=cx
 show wpAny _ _ (noteFrame (.ref a) (compEnvC scope cl s₃.heap.objs.size X.env)) _ _ s'
 rw [i1f (env:=compEnvC scope cl s₃.heap.objs.size X.env) (env':=X.env) rfl]
 have hA:X.A.frames=some (X.env :: X.outer):=by rw [<- hst]; exact I3.ok.frames
 rw [hst] at fl
 refine g1z hA hfr fl kd fun h4 hd4 sm4 kd4=>?_
 obtain⟨Cc,eC⟩:∃ Cc,s₃.heap.objs.size=Cc:=⟨_,rfl⟩
 -- the block's own names
 obtain⟨m,⟨oc,es,ep,hoc,hdc,hrest⟩,_⟩:=I9.loc
 have hfree:H9 s₃.heap.objs.size=none:=I9.free
 have hoc:s9.heap.get? s₃.heap.objs.size=some oc:=hoc
 have nfs:s₃.heap.objs.size∉frs X.stack:=fun hb=>by
  obtain⟨_,o,ho,_⟩:=I3.stack.mem hb
  exact absurd (Heap.lt_size ho) (Nat.lt_irrefl _)
 have ua:∀ h',B.StaysIn h'->s'.heap.UpToSlots h'->h'.get? s₃.heap.objs.size=some oc:=fun h' b u=>(un h' b u).1.keep _ _ hoc hfree nfs (by simp)
 have hs':s'.heap.get? s₃.heap.objs.size=some oc:=ua _ fl.1 (Heap.UpToSlots.refl _)
 have h4c:h4.get? s₃.heap.objs.size=some oc:=ua _ hd4.1 sm4
 have nfl:∀ vs,oc.data≠.fields vs:=fun vs q=>by rw [hdc] at q; cases q
 have j9h:H' s₃.heap.objs.size=none:=(un _ hd4.1 sm4).1.free _ _ hoc hfree (by simp)
 refine⟨m,⟨oc,es,ep,h4c,hdc,hrest⟩,fun h5 sb cenv hce=>?_⟩
 have k5:∀ b,b≠s₃.heap.objs.size->h5.get? b=h4.get? b:=sb.2
 obtain⟨f1,f2,f3',oe,vs,T,oT,ts,he,hc,hd,h1,hnT,hTe,hT,hdT,h3⟩:=hd4
 have nr:∀ {b:Addr} {o:Obj} {ws:Array Value},h4.get? b=some o->o.data = .fields ws->b≠s₃.heap.objs.size:=fun {b o ws} hb hd q=>by
  rw [q,h4c] at hb
  cases hb
  exact nfl ws hd
 -- the ground without the block's names
 have hB:∀ b o,(PySem.W.hideAll B [s₃.heap.objs.size]).get? b=some o->B.get? b=some o/\b≠s₃.heap.objs.size:=fun b o q=>⟨PySem.W.of_hideAll _ q,fun z=>by
  rw [z,PySem.W.hideAll_none _ (by simp)] at q
  cases q⟩
 have no:∀ {b:Addr},B.get? b=none->(PySem.W.hideAll B [s₃.heap.objs.size]).get? b=none:=fun {b} q=>by
  cases z:(PySem.W.hideAll B [s₃.heap.objs.size]).get? b with
  | none=>rfl
  | some o=>rw [(hB b o z).1] at q; cases q
 have ff:∀ {l:List Env},(∀ b∈frs l,b∈frs X.stack)->h4.FunFrames B l->h5.FunFrames (PySem.W.hideAll B [s₃.heap.objs.size]) l:=by
  intro l
  induction l with
  | nil=>intro _ _; trivial
  | cons en r ih =>
   intro hs hl
   obtain⟨hk,⟨L,o,hf,hnn,ho,hdd⟩,hr⟩:=hl
   have hL:L∈frs X.stack:=hs L (List.mem_filterMap.mpr ⟨en,List.mem_cons_self,hf⟩)
   refine⟨hk,⟨L,o,hf,no hnn,(k5 L fun z=>nfs (by rw [<- z]; exact hL)).trans ho,hdd⟩,ih (fun b hb=>hs b ?_) hr⟩
   obtain⟨en',h1,h2⟩:=List.mem_filterMap.mp hb
   exact List.mem_filterMap.mpr ⟨en',List.mem_cons_of_mem _ h1,h2⟩
 rw [<- hst] at f3'
 have HA:h5y (PySem.W.hideAll B [s₃.heap.objs.size]) X.stack a C a0 h5 :=
  ⟨fun b o q=>(k5 b (hB b o q).2).trans (f1 b o (hB b o q).1),no f2,ff (fun _ z=>z) f3',_,oe,vs,T,oT,ts,(k5 _ (nr he hd)).trans he,hc,hd,h1,no hnT,hTe,(k5 _ (nr hT hdT)).trans hT,hdT,h3⟩
 have kd5:Kd a (dx,cx') h5:=by
  obtain⟨o,q1,q2⟩:=kd4
  rw [he] at q1
  cases q1
  exact⟨oe,(k5 _ (nr he hd)).trans he,q2⟩
 refine i1h (s:={ s' with heap:=h5 }) HA kd5 fun h6 HA6 sm6 kd6=>?_
 have nw0:X.s₀.heap.get? a=none:=by
  refine I3.older hex ?_
  cases q:s₃.heap.get? a with
  | none=>rfl
  | some o =>
   have nfp:a∉fp:=fun hb=>by
    obtain⟨o',z⟩:=hfp a hb
    rw [nw] at z
    cases z
   obtain⟨o',z⟩:=I9.base.there a o q nfp
   rw [nw] at z
   cases z
 refine hP pins σ a C a0 _ H' { s' with heap:=h6 } HA6 (fun h7 b7 u7=>?_) hn nw0 ⟨dx,cx',kd6,hE⟩
 -- the block's names put back
 have k8:∀ b,b≠s₃.heap.objs.size->(putBack h7 s₃.heap.objs.size oc).get? b=h7.get? b:=fun b hb=>i1i hb
 have c8:(putBack h7 s₃.heap.objs.size oc).get? s₃.heap.objs.size=some oc:=h3d (Heap.get?_some_iff.mp hs').2
 have st8:B.StaysIn (putBack h7 s₃.heap.objs.size oc):=fun b o q=>by
  by_cases hb:b=s₃.heap.objs.size
  ·subst hb
   rw [c8,<- hs']
   exact fl.1 _ _ q
  ·rw [k8 b hb]
   exact b7 b o (PySem.W.hideAll_get _ q (by simp [hb]))
 have up8:s'.heap.UpToSlots (putBack h7 s₃.heap.objs.size oc):=fun b o q nf=>by
  by_cases hb:b=s₃.heap.objs.size
  ·subst hb
   rw [hs'] at q
   cases q
   exact⟨oc.slots,c8⟩
  ·obtain⟨s4,e4⟩:=sm4 b o q nf
   have e5:h5.get? b=some { o with slots:=s4 }:=(k5 b hb).trans e4
   obtain⟨s6,e6⟩:=sm6 b _ e5 nf
   obtain⟨s7,e7⟩:=u7 b _ e6 nf
   exact⟨s7,(k8 b hb).trans e7⟩
 obtain⟨U,ok8⟩:=un _ st8 up8
 have u9:=I9.base
 have nb:∀ {b:Addr} {o:Obj},s₃.heap.get? b=some o->b≠s₃.heap.objs.size:=fun q=>Nat.ne_of_lt (Heap.lt_size q)
 have U':Un (frs X.stack) fp H3 H' s₃.heap (putBack h7 s₃.heap.objs.size oc) :=
  Un.trans u9 ⟨fun b o e n hb _=>U.keep b o e n hb (by simp),fun b o e n hb _=>U.slot b o e n hb (by simp),fun b o e n _=>U.free b o e n (by simp),fun b o e _=>U.there b o e (by simp),U.tups,U.h1o,U.h1s⟩
 have U7:Un (frs X.stack) fp H3 H' s₃.heap h7 :=
  ⟨fun b o e n hb hx=>(k8 b (nb e)).symm.trans (U'.keep b o e n hb hx),fun b o e n hb hx=>(U'.slot b o e n hb hx).elim fun sl q=>⟨sl,(k8 b (nb e)).symm.trans q⟩,U'.free,fun b o e hx=>(U'.there b o e hx).elim fun o' q=>⟨o',(k8 b (nb e)).symm.trans q⟩,U'.tups,U'.h1o,U'.h1s⟩
 have nC:∀ {b:Addr} {o:HO},H' b=some o->b≠s₃.heap.objs.size:=fun {b o} q z=>by rw [z,j9h] at q; cases q
 have ok7:HOk X.prog X.w H' h7:=fun b o q=>(ok8 b o q).stay (fun c v hc r=>(k8 c (hc.elim (fun z=>by rw [z]; exact nC q) nC)).symm.trans r) (fun _ z=>z) fun _ _ z=>z
 exact I3.call' (s':={ s' with heap:=h7 }) (ch:=fp) (os.trans I9.os) U7 ok7 bare fun b hb=>⟨(f3 b hb).2.2.2.1,(f3 b hb).2.1,(f3 b hb).2.2.2.2.1,(f3 b hb).2.2.2.2.2⟩
end
section
variable {X:Cx}{scope:Scope}{x:Str}{pins:List (Addr×Obj)}{σ:St}{elt iter:Expr}{px pos:Pos}{wi:TI}{te:TE}
theorem g2i{s₂:Shared}{H1:Hp}{it:Addr}{fp:List Addr}{tn:Nat->Heap->Prop}{J:It}{Q:VK}{RR:Value->Addr->Result->Shared->Prop}{E:Value->Shared->Prop}{Ee:XK}{cl:List (Str×Addr)}
  (S:c4w X scope x) (hc:X.calm=true) (he:∀ cl C s₃ H₃ fp,PEX (b0n X scope cl C s₃ H₃ fp x) elt te Ee)
  (hcl:∀ y c,cl.lookup y=some c->(y,NameKind.free)∈scope.names/\X.env.cells.lookup y=some c) (hcl2:∀ y,(y,NameKind.free)∈scope.names->cl.lookup y=X.env.cells.lookup y)
  (I2:Inv X pins σ H1 s₂) (T:Turn X.prog X.w X.K (.Name x px) J fp it tn) (st2:tn 0 s₂.heap) (f2:∀ b∈fp,g0v X pins H1 b) (h:∀ D H2,H1 D=none->Same H1 H2->H2 D=some (.lst [])->g0x J te D σ H2 Q ⟨⟩)
  (hRR:∀ (D C:Addr) (s':Shared) (H':Hp),(∃ m,s'.heap.Ns C m)->(∀ h' ,Heap.SameBut C s'.heap h'->Inv X pins σ H' { s' with heap:=h' })->g0v X pins H' C->Q (.ref D) H'->RR (.ref D) C (.ok .next) s')
  (hXX:∀ (D:Addr) (s₃ s9 s':Shared) (H3 H9:Hp) (pl:List (Addr×Obj)) (σ':St) (e:Value),Inv X pins σ H3 s₃->(∀ b∈fp,g0v X pins H3 b)->Inv (b0n X scope cl s₃.heap.objs.size s₃ H3 fp x) pl σ' H9 s9->(∀ b∈fp,∃ o,s9.heap.get? b=some o)->CXE X.prog X.w X.stack H9 s9 Ee e s'->notedBy (model X.prog X.w) X.A (compEnvC scope cl s₃.heap.objs.size X.env) (fun e s''=>RR (.ref D) s₃.heap.objs.size (.error e) s'') e s') :
  wpAny (model X.prog X.w) X.A (newList []) (fun acc s₃=>wpAny (model X.prog X.w) X.A (newFunctionEnv scope X.env.globals cl [] X.env.qual none .none (some X.env)) (fun cenv s₄ =>
   codeAny (model X.prog X.w) X.A (.compStart (.ListComp elt [⟨.Name x px,iter,[],0⟩] scope pos) 0 (.ref it) acc { cenv with scope:=relabel scope X.env }) (RR acc cenv.locals) s₄) E s₃) E s₂:=by
 have hfr:H1 s₂.heap.objs.size=none:=I2.hok.fresh (Nat.le_refl _)
 have hCW:=h s₂.heap.objs.size _ hfr (Same.upd hfr) a6s
 refine wpAny_newObj_type ?_
 have I3 : Inv X pins σ (upd H1 s₂.heap.objs.size (.lst [])) { s₂ with heap := s₂.heap.push { cls := .type "list", data := .seq ([] : List Value).toArray }, toks := s₂.toks } :=
  I2.laid (t':=s₂.toks) (fun b u e=>Heap.get?_push_of_some _ e) (Nat.le_refl _) ⟨Nat.zero_le _,[],0,.nil,Heap.get?_push_size _ rfl⟩
 have nD:∀ b∈fp,b≠s₂.heap.objs.size:=fun b hb=>by
  obtain⟨o,e,_⟩:=T.obj 0 _ st2 b hb
  exact Nat.ne_of_lt (Heap.lt_size e)
 have f3:∀ b∈fp,g0v X pins (upd H1 s₂.heap.objs.size (.lst [])) b:=fun b hb=>⟨by rw [a6l (nD b hb)]; exact (f2 b hb).1,(f2 b hb).2⟩
 generalize hH3:upd H1 s₂.heap.objs.size (.lst [])=H3 at *
 have st3 : tn 0 (s₂.heap.push { cls := .type "list", data := .seq ([] : List Value).toArray }) := T.keep _ _ _ st2 fun b _ o e => Heap.get?_push_of_some _ e
 have i3z : ∀ b ∈ fp, b < (s₂.heap.push { cls := .type "list", data := .seq ([] : List Value).toArray }).objs.size := fun b hb => by
  obtain⟨o,e,_⟩:=T.obj 0 _ st3 b hb
  exact Heap.lt_size e
 show wpAny (model X.prog X.w) X.A (newFunctionEnv scope X.env.globals cl [] X.env.qual none .none (some X.env)) _ E { s₂ with heap := s₂.heap.push { cls := .type "list", data := .seq ([] : List Value).toArray }, toks := s₂.toks }
 generalize hs3 : ({ s₂ with heap := s₂.heap.push { cls := .type "list", data := .seq ([] : List Value).toArray }, toks := s₂.toks } : Shared) = s₃ at *
 have eh : s₃.heap = s₂.heap.push { cls := .type "list", data := .seq ([] : List Value).toArray } := by rw [← hs3]
 rw [<- eh] at st3 i3z
 generalize s₂.heap.objs.size=D at *
 refine wpAny_newFunctionEnv S.f3u (by intro y hy; simp at hy) (fun h₁ hns₁ hsb₁=>?_) S.kind
 have hk1:∀ b o,s₃.heap.get? b=some o->h₁.get? b=some o:=fun b o e=>hsb₁.extBut b o (Nat.ne_of_lt (Heap.lt_size e)) (Heap.get?_push_of_some _ e)
 have J0:Inv (b0n X scope cl s₃.heap.objs.size s₃ H3 fp x) [] (none :: σ) H3 { s₃ with heap:=h₁,toks:=s₃.toks+([] : List (Str×Value)).length }:=I3.comp S hcl hcl2 f3 i3z hns₁ hk1 rfl rfl
 obtain⟨n0,W,w0,turn⟩:=hCW
 have loop:codeAny (model X.prog X.w) X.A (.compLoop (.ListComp elt [⟨.Name x px,iter,[],0⟩] scope pos) 0 (.ref it) (.ref D) (compEnvC scope cl s₃.heap.objs.size X.env)) (RR (.ref D) s₃.heap.objs.size) { s₃ with heap:=h₁,toks:=s₃.toks+([] : List (Str×Value)).length }:=by
  refine codeAny_loop rfl (fun n s'=>∃ i ys o H',Inv (b0n X scope cl s₃.heap.objs.size s₃ H3 fp x) [] (o :: σ) H' s'/\tn i s'.heap/\(∀ b∈fp,H' b=none)/\W i ys H'/\i<=n0/\n=n0 - i) (fun n s5 hI=>?_) n0
   ⟨0,[],none,H3,J0,T.keep _ _ _ st3 (fun b _ o e=>hk1 b o e),fun b hb=>(f3 b hb).1,w0,Nat.zero_le _,rfl⟩
  obtain⟨i,ys,o5,H5,I5,st5,fr5,w5,hin,hnn⟩:=hI
  have stat:∀ {H':Hp},(∀ b∈fp,H' b=none)->∀ b∈fp,g0v (b0n X scope cl s₃.heap.objs.size s₃ H3 fp x) [] H' b:=fun hn b hb =>
   ⟨hn b hb,Nat.ne_of_lt (i3z b hb),fun z=>(List.mem_cons.mp (I3.g1k b z)).elim (fun q=>(f3 b hb).2.1 q) fun q=>(f3 b hb).2.2.1 q,.inl hb,fun y c e=>(f3 b hb).2.2.2.2.1 y c (hcl y c e).2,fun p hp=>absurd (show p∈([] : List (Addr×Obj)) from hp) (by simp)⟩
  show wpAny _ X.A ((compTurn (.ListComp elt [⟨.Name x px,iter,[],0⟩] scope pos) 0 (.ref it) (.ref D) (compEnvC scope cl s₃.heap.objs.size X.env)).onRaise (fun x=>do noteFrame x (compEnvC scope cl s₃.heap.objs.size X.env); theTreesLotGoes x)) _ _ s5
  refine wpAny_noted ?_
  rw [compTurn_list1]
  refine wpAny_bind (wpAny_standAt (wpAny_bind ?_))
  obtain⟨hD5,alt⟩:=turn i ys H5 hin w5
  rcases alt with ⟨stop,q⟩ | ⟨hlt,go,hsz,step⟩
  ·refine wpAny_mono (T.done (b0n X scope cl s₃.heap.objs.size s₃ H3 fp x) rfl rfl rfl hc i [] s5 _ H5 _ I5 (stat fr5) st5 stop) (fun r s6 ⟨hr,I6⟩=>?_) fun _ _ z=>z
   subst hr
   refine wpAny_pure ?_
   obtain⟨m6,hn6,_⟩:=I6.loc
   exact hRR D s₃.heap.objs.size s6 H5 ⟨m6,hn6⟩ (fun h' hs'=>I3.j0x f3 I6 hs') (I3.i7s (Nat.le_refl _) I6.free) q
  ·refine wpAny_mono (T.item (b0n X scope cl s₃.heap.objs.size s₃ H3 fp x) rfl rfl rfl hc i [] s5 _ H5 _ I5 (stat fr5) st5 go) (fun r s6 ⟨u,hr,h6⟩=>?_) fun _ _ z=>z
   subst hr
   refine wpAny_bind (wpAny_mono h6 (fun _ s7 ⟨v,H7,I7,r7,y7,st7,fr7⟩=>?_) fun _ _ z=>z)
   have I7':=I7.pinned (stat fr7) (T.obj _ _ st7)
   have G:=a5g (X:=b0n X scope cl s₃.heap.objs.size s₃ H3 fp x) (pos:=px) (i:=0) (x:=x) S.nd rfl (.inl (lookup_relabel_local S.own)) (.inr (lookup_relabel_local S.own))
   refine wpAny_bind (wpAny_mono (G _ s7 _ H7 v u (fun σ' H'=>σ'=some v :: σ/\H'=H7) I7' r7 ⟨rfl,rfl⟩) (fun _ s8 hs8=>?_) fun _ _ z=>False.elim z)
   obtain⟨σ8,H8,I8,rfl,rfl⟩:=hs8
   refine wpAny_bind (wpAny_bind (wpAny_mono (he cl s₃.heap.objs.size s₃ H3 fp _ s8 _ _ _ I8 (step v H8 y7)) (fun yv s9 hs9=>?_) fun e s' z=>?_))
   rotate_left
   ·obtain⟨Hx,sx,Ix,cx⟩:=z
    refine hXX D s₃ sx s' H3 Hx _ _ e I3 f3 Ix (fun b hb=>?_) cx
    obtain⟨o,e,d⟩:=T.obj _ _ st7 b hb
    exact⟨o,(Ix.pin (b,o) (List.mem_append_right _ (List.mem_append_right _ (b3j hb e)))).1⟩
   obtain⟨y,H9,I9,r9,hD9,k9⟩:=hs9
   refine wpAny_bind (wpAny_mono (f3r (X:=b0n X scope cl s₃.heap.objs.size s₃ H3 fp x) _ s9 _ H9 (.ref D) [y] (.ref D) [yv] (fun _ H'=>H'=upd H9 D (.lst (ys++[y]))) I9 rfl (.cons r9 .nil) ⟨D,ys,y,rfl,rfl,hD9,hsz,rfl⟩) (fun _ sA hsA=>?_) fun _ _ z=>False.elim z)
   obtain⟨_,HA,IA,_,rfl⟩:=hsA
   refine wpAny_pure ?_
   have wA:=k9 _ b1u.upd a6s
   refine wpAny_pure ⟨rfl,n0 - (i+1),by omega,i+1,ys++[y],some v,_,IA.f0m (pins:=[]) (pl:=g1m fp s7.heap),T.keep _ _ _ st7 (fun b hb o e=>(IA.pin (b,o) (List.mem_append_right _ (List.mem_append_right _ (b3j hb e)))).1),fun b hb=>?_,wA,hlt,rfl⟩
   obtain⟨o,e,d⟩:=T.obj _ _ st7 b hb
   exact (IA.pin (b,o) (List.mem_append_right _ (List.mem_append_right _ (b3j hb e)))).2.1
 exact codeAny_compStart_list loop (T.self _ 0 _ _ _ (T.keep _ _ _ st3 fun b _ o e=>hk1 b o e) loop)
theorem i9h{Ee:XK}(hP:g2h X Ee)(hi:PI X (.Name x px) iter wi)(he:∀ cl C s₃ H₃ fp,PEX (b0n X scope cl C s₃ H₃ fp x) elt te Ee)(S:c4w X scope x)(hc:X.calm=true)(hst:X.stack=X.env :: X.outer:=by rfl)(hfr:X.env.frame=some X.env.locals:=by rfl)(hex:X.ex = []:=by rfl)
  (hs:∀ x,foldedSetIterable iter X.env x=pure x:=by intro _; rfl):PE X (.ListComp elt [⟨.Name x px,iter,[],0⟩] scope pos) (i8m wi te):=by
 intro pins s σ H Q I h
 obtain⟨cl,hclos,hcl,hcl2⟩:=d3o (env:=X.env) (sc:=scope) fun y hy=>I.ok.has y (S.free _ hy rfl)
 rw [eval_ListComp]
 refine wpAny_comprehension_free (use:=none) rfl hs hclos S.kind S.loc ?_
 refine thn (hi pins s σ H _ I h) fun v s1 h1=>thn h1 fun itv s2 h2=>?_
 obtain⟨it,fp,tn,J,H2,e,I2,T,st2,f2,hW⟩:=h2
 subst e
 refine g2i (RR:=fun acc C=>compPost (model X.prog X.w) X.A X.xe none (EP X pins σ Q) acc C) S hc he hcl hcl2 I2 T st2 f2 hW (fun D C s' H' hm hI _ hq =>
  hm.elim fun m hn=>⟨m,hn,fun h' hs'=>⟨.ref D,H',hI h' hs',rfl,hq⟩⟩) ?_
 exact fun D s₃ s9 s' H3 H9 pl σ' e I3 f3 I9 hfp cx=>g6p hP I3 f3 I9 hfp cx hst hfr hex
end
end L2
namespace L2
open PySem PySem.Spec PyProof.Rows
section
variable {X:Cx}{E:XK}{st:Stmt}{t u:TS}{pos:Pos}
end
section
variable {X:Cx}
end
end L2
namespace L2
open PySem PySem.Spec PyProof.Rows PySem.SeqAt PySem.AutoSeq1
open PySem.MeetsSeq
section
variable {X:Cx}
end
end L2
namespace L2
open PySem PySem.Spec PyProof.Rows
def k5u(X:Cx)(pins:List (Addr×Obj))(σ:St)(E:XK)(e:Value)(s':Shared):Prop:=∃ H1 s1,Inv X pins σ H1 s1/\CXF true X.prog X.w X.stack H1 s1 E e s'
def k5v(X:Cx)(e:Expr)(t:TE)(E:XK):Prop :=
 ∀ (pins:List (Addr×Obj)) (s:Shared) (σ:St) (H:Hp) (Q:VK),Inv X pins σ H s->t σ H Q->wpAny (model X.prog X.w) X.A (eval e X.env) (EP X pins σ Q) (k5u X pins σ E) s
def k5w(X:Cx)(st:Stmt)(t:TS)(E:XK):Prop :=
 ∀ (pins:List (Addr×Obj)) (s:Shared) (σ:St) (H:Hp) (D:Ends),Inv X pins σ H s->t D σ H->wpAny (model X.prog X.w) X.A (exec st X.env) (SP X pins D) (k5u X pins σ E) s
theorem Fun.okN{P:Program}{w:World}{K:PySem.W.Frag}{mg:Str->Option Value}{base:Heap}{N:List Str}{qual:Str}{f:Addr}{x:Str}{st:Stmt}{fd:FuncData}{ps:List Str}{k:Nat}{sp:Sp}(F:Fun K x qual st f fd)(S:a0s N ps (a0l st))(len:∀ vs H Q E,sp vs H Q E->vs.length=ps.length)
  (hbody:∀ (cdv:Value) (A:Around) (outer:List Env) (s:Shared) (H:Hp) (vs:List V) (Q:VK) (E:XK),a2p k (A.deeper (envOfC qual (a0l st) s.heap.objs.size f cdv))->sp vs H Q E ->
   ∃ t,PSs (i2v (CXF true P w) P w K mg base N qual (a0l st) f cdv A outer s H E) (f2g st) t/\t { nx:=fun _ H'=>Q .non H',rt:=Q } (start N vs) H):a1h P w K mg base (CXF true P w) (k+1) f fd ps sp:=by
 obtain⟨oc,od,kV,doc,pm,an,cdv,ct,osl,rfl,lk,hcd⟩:=F.ex
 exact j2x lk hcd S len fun A outer s H vs Q E hr hsp=>hbody cdv A outer s H vs Q E hr hsp
section
variable {X:Cx}{k:Nat}{f C:Addr}{fd:FuncData}{ps:List Str}{sp:Sp}{dvs:List V}{ds:List Value}{E:XK}{x m:Str}{p pos apos:Pos}{e o:Expr}{es:List Expr}{ta:TE}{t:TA}
theorem i4x(F:a1h X.prog X.w X.K X.mg X.base (CXF true X.prog X.w) k f fd ps sp)(hr:a2p k X.A)(hg:Gl X x)(hm:X.mg x=some (.ref f))(hk:PySem.W.keepIn X.K (.ref f)=true)(hb:Binds X.K fd ps ds)(hd:Vals dvs ds)
  (ha : PA X.nox (e :: es) t) (hdb : (x == ("__debug__" : Str)) = false := by decide) (he : starEach (e :: es) X.env = (false, eval e X.env) :: starEach es X.env := by rfl) (hpl : (backTo pos (starEach es X.env)).any (·.1) = false := by rfl) :
  k5v X (.Call (.Name x p) (e :: es) [] pos) (i7y sp dvs E t) E:=by
 intro pins s σ H Q I h
 refine wpAny_Call_Name_kw (d2h I hg hm ?_ hdb)
 refine PySem.W.callWith_K (h₀:=X.base) I.ok.mod.kin hk (wpAny_mono (ha pos pins s σ H _ (I.wish _) h) (fun us s1 ⟨vs,H1,I1,r,q⟩=>⟨I1.c0p.kIn,?_⟩) fun _ _ z=>False.elim z) he hpl
 have I2:=I1.c0p
 have r2:Vals (vs++dvs) (us++ds):=r.append hd
 have hl:(us++ds).length=ps.length:=by rw [<- r2.length]; exact F.len _ _ _ _ q
 refine wpAny_call (codeAny_mono (F.run X.A X.stack s1 H1 ⟨us,[]⟩ (us++ds) (vs++dvs) Q E hr I2.env0 (hb s1 us I2.kIn hl) r2 q) fun r s' hq=>?_)
 cases r with
 | error e=>exact⟨H1,s1,I2,hq⟩
 | ok fl =>
  cases fl with
  | ret u=>exact I2.after hq
  | next=>exact False.elim hq
  | brk=>exact False.elim hq
  | cont=>exact False.elim hq
theorem i9i{i:Nat}{y:Str}{te:TE}{pos':Pos}(hN:X.N.Nodup)(hi:X.N[i]? = some y)(hx:Loc X.env.scope y)(he:k5v X e te E)(hs:swapsWith e (some (.Name y pos')) pos.line X.env=pure false:=by rfl)(hf:X.fn y=true\/X.env.scope.names.lookup y=some .local:=by first | exact .inl rfl | exact .inr rfl | assumption) :
  k5w X (.Assign [.Name y pos'] e pos) (j5s te (g7z i)) E:=by
 intro pins s σ H D I h
 refine wpAny_Assign_Name (thn (he pins s σ H _ I h) fun v s1 ⟨z,H1,I1,r1,q1⟩=>?_) hs
 exact g1f I1 hN hi hx r1 (fun s2 I2=>⟨_,H1,I2,q1⟩) hf
end
theorem g8p : entryFor table "proto.unchain" = some Builtin.«proto.unchain» := entryFor_of_tree (by kernel_rfl)
section
variable {prog:Program}{w:World}{A:Around}{E:Value->Shared->Prop}{s:Shared}{env:Env}{a:Addr}
theorem h5z{id:String}{args:Args}{b:Builtin}(hb:entryFor table id=some b):(model prog w).den (.builtin id args)=b args:=by
 show (match entryFor table id with | some b => b args | none => unsupported ((withoutEnding? id "#data").getD id)) = _
 rw [hb]
theorem i1j{e:Value}{o:Obj}{vs:Array Value}{Q:Value->Shared->Prop}(ho:s.heap.get? a=some o)(hd:o.data = .fields vs)(h2:vs[2]? = some .none)(h:Q .none s) :
  wpAny (model prog w) A (runValue (.builtin "proto.unchain" ⟨[e, .ref a, .ref a, .bool false], []⟩)) Q E s := by
 refine wpAny_runValue (codeAny_of_tree ?_)
 rw [h5z g8p]
 generalize A.under _=A'
 unfold Builtin.«proto.unchain»
 refine wpAny_bind (wpAny_field ho hd h2 ?_)
 exact wpAny_pure h
variable {nm q:Str}{C N:Addr}{bs bm:List Value}{hdct:Bool}{sn:List Str}{sub:List Value}{ab:Bool}{col:Option Bool}{dd:Option Addr}{k0 k1 k2 k3 k5:Option Value}{newId:String}
theorem h6a {x c : Sem Value} {Q : Flow → Shared → Prop} (hbase : bm.contains (.type "BaseException") = true) (hh : A.handled = some (.ref a)) (hc : ∀ (Q' : Value → Shared → Prop) s', Q' .none s' → wpAny (model prog w) A c Q' E s')
  (h:wpAny (model prog w) A x (fun v s₁=>∃ e t,v = .ref e/\a≠e/\s₁.heap.get? C=some (excClassObj nm q C N bs bm hdct sn sub ab col dd k0 k1 k2 k3 k5 newId) /\
   s₁.heap.get? e=some { cls:=.ref C,data:=.fields #[.ref t,.none,.none,.none,.bool false,.none] }/\(∃ oa va,s₁.heap.get? a=some oa/\oa.data = .fields va/\va[2]? = some .none) /\
   ∀ h',(∀ b,b≠e->h'.get? b=s₁.heap.get? b)->h'.get? e=some { cls:=.ref C,data:=.fields #[.ref t,.none,.ref a,.none,.bool true,.none] }->E (.ref e) { s₁ with heap:=h' }) E s) :
  wpAny (model prog w) A (raiseStmt env (some x) (some c)) Q E s:=by
 have hcB : (Value.ref C :: bm).contains (.type "BaseException") = true := by rw [List.contains_cons, hbase, Bool.or_true]
 unfold raiseStmt
 refine wpAny_bind (wpAny_mono h (fun v s₁ h₁=>?_) fun _ _ x=>x)
 obtain⟨e,t,rfl,hne,hC,he,⟨oa,va,hoa,hda,h2a⟩,hE⟩:=h₁
 obtain⟨hp,g,d,tk,os⟩:=s₁
 refine wpAny_bind (wpAny_holding (hc _ _ ?_))
 repeat (first | with_reducible refine wpAny_loadPart_at he ?_ | with_reducible refine wpAny_loadPart_at hC ?_ | (with_reducible refine wpAny_isSubtype_exc hC ?_; rw [hcB]) | wp_step)
 have hCe:C≠e:=fun z=>by
  subst z
  rw [hC] at he
  cases he
 have e1:=Heap.get?_update_self (Obj.mapFields (·.setIfInBounds 3 Value.none)) he (Obj.isFreed_of_fields (Obj.data_mapFields rfl _))
 have e2:=Heap.get?_update_self (Obj.mapFields (·.setIfInBounds 4 (Value.bool true))) e1 (Obj.isFreed_of_fields (Obj.data_mapFields rfl _))
 have oth:∀ b,b≠e->((hp.update e (Obj.mapFields (·.setIfInBounds 3 Value.none))).update e (Obj.mapFields (·.setIfInBounds 4 (Value.bool true)))).get? b=hp.get? b:=fun b hb=>(Heap.get?_update_other _ _ (Ne.symm hb)).trans (Heap.get?_update_other _ _ (Ne.symm hb))
 generalize (hp.update e (Obj.mapFields (·.setIfInBounds 3 Value.none))).update e (Obj.mapFields (·.setIfInBounds 4 (Value.bool true)))=h2 at *
 have hC2:=(oth C hCe).trans hC
 have e2':h2.get? e=some { cls:=.ref C,data:=.fields #[.ref t,.none,.none,.none,.bool true,.none] }:=e2
 refine wpAny_loadPart_at hC2 (wpAny_pure ?_)
 refine wpAny_pure ?_
 refine wpAny_bind ?_
 unfold setFlight
 refine wpAny_bind (wpAny_field (x:=Value.none) e2' rfl rfl ?_)
 rw [if_neg (show ¬ ((Value.none != Value.none)=true) from by simp)]
 refine wpAny_pure ?_
 unfold raiseNew
 refine wpAny_bind (wpAny_handled ?_)
 rw [hh]
 have hab:(Value.ref a != Value.ref e)=true:=by
  simp only [bne_iff_ne,ne_eq,Value.ref.injEq]
  exact hne
 dsimp only
 rw [if_pos hab]
 have h2a':=(oth a hne).trans hoa
 refine wpAny_bind (wpAny_holding (i1j (s:=⟨h2,g,d,tk,os⟩) h2a' hda h2a ?_))
 refine wpAny_bind (wpAny_setField (s:=⟨h2,g,d,tk,os⟩) (i:=2) e2' rfl (by simp) ?_)
 have e3:=Heap.get?_update_self (Obj.mapFields (·.setIfInBounds 2 (Value.ref a))) e2' (Obj.isFreed_of_fields (Obj.data_mapFields rfl _))
 exact wpAny_throw (hE _ (fun b hb=>(Heap.get?_update_other _ _ (Ne.symm hb)).trans (oth b hb)) e3)
end
def i4y(K:PySem.W.Frag)(D C:Addr)(tb:XK->TS)(E:XK):TS:=fun Dn σ H=>tb (fun Cv _ H'=>∃ c,Cv = .ref c/\PySem.W.subIn K (.ref c) (.ref D)=some true/\E (.ref C) none H') Dn σ H
section
variable {X:Cx}{D C:Addr}{dn cn:Str}{st:Stmt}{tb:XK->TS}{E:XK}{z:Str}{j j':Nat}{np hpos pos rpos cpos npos zpos kpos:Pos}
theorem h6b(hP:g2h X E)(hb:∀ E,k5w X st (tb E) E)(O:Exc X.K C)(hkC:PySem.W.keepIn X.K (.ref C)=true)(hgC:Gl X cn)(hmC:X.mg cn=some (.ref C))(hg:Gl X dn)(hm:X.mg dn=some (.ref D))(ZD:f6r X.K D)
  (hst : X.stack = X.env :: X.outer := by rfl) (hfr : X.env.frame = some X.env.locals := by rfl) (hex : X.ex = [] := by rfl) (hdb : (dn == ("__debug__" : Str)) = false := by decide) (hdc : (cn == ("__debug__" : Str)) = false := by decide) :
  PS X (.Try [st] [.ExceptHandler (some (.Name dn np)) none [.Raise (some (.Call (.Name cn npos) [.Constant (.str z) j zpos] [] cpos)) (some (.Constant .none j' kpos)) rpos] hpos] [] [] pos) (i4y X.K D C tb E):=by
 intro pins s σ H Dn I h
 refine wpAny_Try_except (wpAny_execs_cons (wpAny_mono (hb _ pins s σ H Dn I h) (fun f s1 q=>?_) fun e s1 q=>?_))
 ·cases f with
  | next=>exact wpAny_execs_nil (wpAny_execs_nil q)
  | ret v=>exact q
  | brk=>exact q
  | cont=>exact q
 ·obtain⟨H1,s0,I1,a,Cv,a0,B,H',rfl,fl,os,bare,un,hn0,nw,dx,cx,kd,hcx,c,rfl,hsub,hE⟩:=q
  obtain rfl:=hcx rfl
  have hA:X.A.frames=some (X.env :: X.outer):=by rw [<- hst]; exact I1.ok.frames
  rw [hst] at fl
  refine g1z hA hfr fl kd fun h4 hd4 sm4 kd4=>j0z hd4 kd4 fun h5 fl5 sm5 kd5=>?_
  have u5:=un h5 fl5.1 (sm4.trans sm5)
  have I5:Inv X pins σ H' { s1 with heap:=h5,toks:=s1.toks }:=I1.caught os bare u5.1 u5.2
  obtain⟨ob,hob,hcl⟩:=fl5.there
  refine wpAny_handleBy_cons (codeAny_handlers_test ?_) (by intro q; cases q)
  refine d2h (X:=X.held a) (s:={ s1 with heap:=h5 }) (I5.held a) hg hm ?_ hdb
  refine g2a (s:={ s1 with heap:=h5 }) I5.kIn ZD hob hcl hsub ?_
  refine codeAny_handlers_suite (j1a fl5 kd5 fun h6 fl6 sm6 kd6=>?_)
  have u6:=un h6 fl6.1 ((sm4.trans sm5).trans sm6)
  have I6:Inv X pins σ H' { s1 with heap:=h6,toks:=s1.toks }:=I1.caught os bare u6.1 u6.2
  obtain⟨oa,va,hoa,hcla,hda,_⟩:=fl6.first
  have h2a:va[2]? = some .none:=by
   obtain⟨o,q1,_,q2⟩:=kd6
   rw [hoa] at q1
   cases q1
   unfold j3h at q2
   rw [hda] at q2
   exact q2
  obtain⟨bm,N,nm,qn,bs,hdct,sn,sub,ab,col,dd,k0,k1,k2,k3,k5,mN,hC,hN,hni,T⟩:=i4d (h:=h6) I6.kIn O.ok
  refine wpAny_execs_cons ?_
  rw [arm_exec_Raise]
  refine wpAny_bind (wpAny_standAt (h6a (a := a) (C := C) (nm := nm) (q := qn) (N := N) (bs := bs) (bm := bm) (hdct := hdct) (sn := sn) (sub := sub) (ab := ab) (col := col) (dd := dd) (k0 := k0) (k1 := k1) (k2 := k2) (k3 := k3) (k5 := k5) (newId := "ValueError.__new__") (T.hasType PySem.F.excBase_ValueError.hasBase) rfl (fun Q' s' q => wpAny_bind (Constant_none (wpAny_bind (wpAny_standAt (wpAny_pure q))))) (wpAny_bind ?_)))
  refine wpAny_mono (Q:=fun v s2=>∃ e h7 tk,v = .ref e/\s2 = { s1 with heap:=h7,toks:=tk }/\∃ args,Heap.MadeExcOf h6 h7 e (.ref C) args) (E:=fun _ _=>False) ?_ (fun v s2 q=>wpAny_bind (wpAny_standAt (wpAny_pure ?_))) fun _ _ z=>False.elim z
  ·refine wpAny_Call_Name_kw (d2h (X:=X.held a) (I6.held a) hgC hmC ?_ hdc)
   refine PySem.W.callWith_K (h₀:=X.base) I.ok.mod.kin hkC (Calls.spliced_cons (Calls.Constant_str (k:=j) (pos:=zpos) (Calls.spliced_nil ⟨I6.kIn,?_⟩))) rfl rfl
   exact wpAny_call_exc_subT (hrest:=by show 1<=sizeLine; rw [sizeLine_eq]; decide) PySem.F.excBase_ValueError T hC hN hni fun h' e hm=>⟨e,h',_,rfl,rfl,_,hm⟩
  ·obtain⟨e,h7,tk,rfl,rfl,args,hx⟩:=q
   obtain⟨t,he,_,_⟩:=hx.there
   have hne:a≠e:=fun z=>by rw [z,hx.new] at hoa; cases hoa
   refine⟨e,t,rfl,hne,hx.keeps _ _ hC,he,⟨oa,va,hx.keeps _ _ hoa,hda,h2a⟩,fun h8 oth e8=>?_⟩
   have up8:h7.UpToSlots h8:=fun b o q nf=>⟨o.slots,(oth b fun z=>by
    rw [z,he] at q
    cases q
    exact nf _ rfl).trans q⟩
   have k8:∀ b o,h6.get? b=some o->h8.get? b=some o:=fun b o q=>(oth b fun z=>by rw [z,hx.new] at q; cases q).trans (hx.keeps b o q)
   have hin:∀ env∈X.stack,∀ b,env.frame=some b->b∈frs X.stack:=fun env he b hb=>List.mem_filterMap.mpr ⟨env,he,hb⟩
   have hkb:(PySem.W.hideAll h6 (frs X.stack)).StaysIn h8:=fun b o q=>k8 b o (PySem.W.of_hideAll _ q)
   have hno:(PySem.W.hideAll h6 (frs X.stack)).get? e=none:=by
    cases q:(PySem.W.hideAll h6 (frs X.stack)).get? e with
    | none=>rfl
    | some o=>have z:=PySem.W.of_hideAll _ q; rw [hx.new] at z; cases z
   have ff:h8.FunFrames (PySem.W.hideAll h6 (frs X.stack)) X.stack:=(PySem.W.funFrames_hide I6.stack hin).of_keeps fun b o hb _=>⟨o,k8 b o hb,rfl⟩
   have kd8:Kd e (none,some (.ref a)) h8:=⟨_,e8,rfl,rfl⟩
   have hAm:(X.A.mark (some (.ref a))).frames=some (X.env :: X.outer):=hA
   show wpAny _ _ (noteFrame (.ref e) X.env) _ _ _
   refine wpAny_mono (g1y.any (e:=e) (d:=(none,some (.ref a))) (E:=fun _ _=>False) (Q:=fun _ s'=>∃ h9,s' = { s1 with heap:=h9,toks:=tk }/\Heap.NotedW (PySem.W.hideAll h6 (frs X.stack)) (X.env :: X.outer) e (.ref C) (.ref t) (rawInt X.env.locals) h8 h9) ?_ kd8) (fun _ s' z=>?_) fun _ _ z=>z.1.elim
   ·unfold noteFrame
    simp only [hfr]
    refine wpAny_bind (wpAny_field (x:=.none) e8 rfl rfl ?_)
    rw [if_neg (show ¬ ((Value.none != Value.none)=true) from by simp)]
    exact wpAny_entryW hAm (by rw [<- hst]; exact ff) hfr e8 hkb hno rfl (by simp) rfl fun h' n=>⟨h',rfl,n⟩
   ·obtain⟨⟨h9,rfl,n1,n2,⟨oe,vs,T9,oT,ts,he9,⟨hc9,h09⟩,hd9,h19,hnT,hTe,hT,hdT,h3⟩,n4⟩,kd9⟩:=z
    have z3:3 < ts.size:=(Array.getElem?_eq_some_iff.mp h3).1
    show wpAny _ _ _ _ _ _
    refine wpAny_bind (wpAny_field he9 hd9 h19 ?_)
    rw [if_neg (show ¬ ((Value.ref T9 == Value.none)=true) from by simp)]
    have k1t:∀ (x:Value) (b:Addr),b≠T9->(h9.update T9 (Obj.mapFields (·.setIfInBounds 3 x))).get? b=h9.get? b:=fun x b hb=>Heap.get?_update_other _ _ (Ne.symm hb)
    have j1l:∀ b o,h9.get? b=some o->(∀ vs,o.data≠.fields vs)->b≠T9:=fun b o hb hnf q=>by
     rw [q,hT] at hb
     cases hb
     exact hnf ts hdT
    refine wpAny_mono (g2g.any (E:=fun _ _=>False) (Q:=fun _ s'=>∃ h10,s' = { s1 with heap:=h10,toks:=tk }/\h5y (PySem.W.hideAll h6 (frs X.stack)) X.stack e (.ref C) (.ref t) h10/\h9.UpToSlots h10) ?_ kd9) (fun _ s' z=>?_) fun _ _ z=>z.1.elim
    ·unfold setFlight
     refine wpAny_bind (wpAny_field he9 hd9 h19 ?_)
     rw [if_pos (show (Value.ref T9 != Value.none)=true from by simp)]
     rw [<- hst] at n2
     exact wpAny_setField hT hdT z3 ⟨_,rfl,⟨fun b o hbo=>(k1t _ b fun q=>by rw [q,hnT] at hbo; cases hbo).trans (n1 b o hbo),hno,n2.of_keeps fun b o hb hnf=>⟨o,(k1t _ b (j1l b o hb hnf)).trans hb,rfl⟩,(X.env.frame.elim Value.none fun f=>rawInt f),oe,vs,T9,_,_,(k1t _ e (Ne.symm hTe)).trans he9,⟨hc9,h09⟩,hd9,h19,hnT,hTe,Heap.get?_update_self _ hT (Obj.isFreed_of_fields (Obj.data_mapFields hdT _)),Obj.data_mapFields hdT _,by simp [z3]⟩,fun b o hb hnf=>⟨o.slots,(k1t _ b (j1l b o hb hnf)).trans hb⟩⟩
    ·obtain⟨⟨h10,rfl,HA,u10⟩,kd10⟩:=z
     refine hP pins σ e (.ref C) (.ref t) _ H' _ HA (fun h' b' u'=>?_) (h2q I6 hx) ?_ ⟨none,_,kd10,hE⟩
     ·have y:=i4c I6 hx b' (((up8.trans n4).trans u10).trans u')
      exact I6.caught (s':={ s1 with heap:=h',toks:=tk }) rfl bare y.1 y.2
     ·exact I6.older hex hx.new
end
end L2
namespace L2
open PySem PySem.Spec PyProof.Rows
noncomputable def k3u(z:Str)(c:Nat):List Str:=match Builtin.Str.occurrences z ⟨#[c]⟩ 0 z.length 1 with
 | i :: _=>[Builtin.Str.strSub z 0 i,⟨#[c]⟩,Builtin.Str.strSub z (i+1) z.length]
 | []=>[z,Str.empty,Str.empty]
noncomputable def k5x:V->List V->Hp->VK->Prop:=fun x vs H Q=>match x,vs with
 | .str z,[.str y]=>z.length<=sizeLine/\∃ c,y = ⟨#[c]⟩/\New H (.tup ((k3u z c).map V.str)) Q ⟨⟩
 | _,_=>False
section
variable {X:Cx}{scope:Scope}{x:Str}{elt iter:Expr}{px pos:Pos}{wi:TI}{te:TE}
theorem i9j{Ee:XK}{i:Nat}{y:Str}{py spos:Pos}(hN:X.N.Nodup)(hyi:X.N[i]? = some y)(hy:X.env.scope.names.lookup y=some .local)(hP:g2h X Ee)(hi:PI X (.Name x px) iter wi)(he:∀ cl C s₃ H₃ fp,PEX (b0n X scope cl C s₃ H₃ fp x) elt te Ee)(S:c4w X scope x)(hc:X.calm=true)
  (hst:X.stack=X.env :: X.outer:=by rfl) (hfr:X.env.frame=some X.env.locals:=by rfl) (hex:X.ex = []:=by rfl)
  (hsw:swapsWith (.ListComp elt [⟨.Name x px,iter,[],0⟩] scope pos) (some (.Name y py)) spos.line X.env=pure true:=by rfl)
  (hs:∀ x,foldedSetIterable iter X.env x=pure x:=by intro _; rfl):PS X (.Assign [.Name y py] (.ListComp elt [⟨.Name x px,iter,[],0⟩] scope pos) spos) (j5s (i8m wi te) (g7z i)):=by
 intro pins s σ H D I h
 obtain⟨cl,hclos,hcl,hcl2⟩:=d3o (env:=X.env) (sc:=scope) fun y hy=>I.ok.has y (S.free _ hy rfl)
 rw [exec_Assign_Name_used _ _ _ _ hsw]
 refine wpAny_bind (wpAny_standAt (wpAny_bind ?_))
 show wpAny _ X.A (do let _ <- comprehension (.ListComp elt [⟨.Name x px,iter,[],0⟩] scope pos) scope X.env _ (newList []) false (eval iter X.env) (some (assign (.Name y py) X.env))) _ _ s
 refine wpAny_bind (wpAny_mono (wpAny_comprehension_free (use:=some (assign (.Name y py) X.env)) (Q:=fun _ s'=>SP X pins D .next s') rfl hs hclos S.kind S.loc ?_) (fun _ s' hq=>wpAny_pure (wpAny_pure hq)) fun _ _ e=>e)
 refine thn (hi pins s σ H _ I h) fun v s1 h1=>thn h1 fun itv s2 h2=>?_
 obtain⟨it,fp,tn,J,H2,e,I2,T,st2,f2,hW⟩:=h2
 subst e
 refine g2i (Q:=fun v H'=>D.nx (σ.set i (some v)) H') (RR:=fun acc C=>compPost (model X.prog X.w) X.A X.xe (some (assign (.Name y py) X.env)) (fun _ s'=>SP X pins D .next s') acc C) S hc he hcl hcl2 I2 T st2 f2 hW (fun L C s' H' hm hI hfp hq=>?_) ?_
 ·obtain⟨m,hn⟩:=hm
  have I':Inv X pins σ H' s':=hI s'.heap (Heap.SameBut.refl ..)
  show wpAny _ X.A (assign (.Name y py) X.env (.ref L)) _ _ s'
  refine wpAny_assign_Name (g1l (v:=.ref L) I' hN hyi (.inl hy) rfl (fun s'' I'' hsb=>?_) (.inr hy))
  obtain⟨a,hsame,ha⟩:=hsb
  have nea:C≠a:=by
   rcases ha with z | z
   ·rw [z]; exact hfp.2.1
   ·exact fun q=>hfp.2.2.2.2.1 y a z q.symm
  refine⟨m,hn.sameBut hsame nea,fun h' hs'=>⟨_,H',I''.turned (t':=s''.toks) (it:=C) (fun b o hb e=>hs'.extBut b o hb e) hfp.1 hfp.2.1 hfp.2.2.2.1 hfp.2.2.2.2.1 hfp.2.2.2.2.2,hq⟩⟩
 ·exact fun D s₃ s9 s' H3 H9 pl σ' e I3 f3 I9 hfp cx=>g6p (Q:=fun _ _=>True) (acc:=.none) hP I3 f3 I9 hfp cx hst hfr hex
end
theorem a1h.orN{P:Program}{w:World}{K:PySem.W.Frag}{mg:Str->Option Value}{base:Heap}{k:Nat}{f:Addr}{fd:FuncData}{ps:List Str}{sp sp':Sp}(F:a1h P w K mg base CX0 k f fd ps sp)(G:a1h P w K mg base (CXF true P w) k f fd ps sp') :
  a1h P w K mg base (CXF true P w) k f fd ps (fun vs H Q E=>sp vs H Q E\/sp' vs H Q E):=by
 refine⟨fun vs H Q E h=>h.elim (F.len vs H Q E) (G.len vs H Q E),fun A outer s H args us vs Q E hr e0 hb hv h=>?_⟩
 rcases h with h | h
 ·refine codeAny_mono (F.run A outer s H args us vs Q E hr e0 hb hv h) fun r s' q=>?_
  cases r with
  | error e=>exact False.elim q
  | ok fl=>cases fl <;> exact q
 ·exact G.run A outer s H args us vs Q E hr e0 hb hv h
noncomputable def k5y(e:DictEntry):Str:=match e.key with
 | .str x _=>x
 | _=>Str.empty
noncomputable def i4z(K:PySem.W.Frag)(d:Addr):Option (List Str):=match K.lookup d with
 | some ⟨_,_,.dict es _,_⟩=>some (es.toList.map k5y)
 | _=>none
theorem j3x{K:PySem.W.Frag}{w:World}{d:Addr}{ks:List Str}{k:Str}(h:i4z K d=some ks)(D:k1r K w d)(hk:k∉ks):PySem.W.nsIn K d k=some none:=by
 obtain⟨es,n,e,kl⟩:=D.lk
 unfold i4z at h
 rw [e] at h
 cases h
 have al:=kl.all
 unfold PySem.W.nsIn
 rw [e]
 dsimp only
 have f:es.toList.find? (·.key.isStr k)=none:=by
  rw [List.find?_eq_none]
  intro en hen
  obtain⟨x,t,ek,_⟩:=al en hen
  rw [ek]
  intro hx
  refine hk (List.mem_map.mpr ⟨en,hen,?_⟩)
  unfold k5y
  rw [ek]
  have hx':(x == k)=true\/(k == x)=true:=by
   first | exact .inl hx | exact .inr hx
  rcases hx' with h | h
  ·exact beq_iff_eq.mp h
  ·exact (beq_iff_eq.mp h).symm
 rw [f]
 have g:es.toList.any (·.refKey)=false:=by
  rw [List.any_eq_false]
  intro en hen
  obtain⟨x,t,ek,_⟩:=al en hen
  unfold PySem.DictEntry.refKey
  rw [ek]
  exact Bool.false_ne_true
 rw [if_neg (by rw [g]; exact Bool.false_ne_true)]
end L2
set_option maxHeartbeats 4000000
namespace My
open PySem PySem.Spec PyProof.Rows L2
open PySem.Builtin.Int (intBits)
theorem i2x{P:Int->Prop}{vs:List V}(h:match vs with | [.int x0]=>P x0 | _=>False):∃ x0,vs = [.int x0]/\P x0:=by
 obtain _ | ⟨y0,vs⟩:=vs
 ·exact False.elim h
 cases y0 <;> first | exact False.elim h | skip
 obtain _ | ⟨y,vs⟩:=vs
 ·exact⟨_,rfl,h⟩
 ·exact False.elim h
theorem g0y{P:Int->Int->Prop}{vs:List V}(h:match vs with | [.int x0,.int x1]=>P x0 x1 | _=>False):∃ x0 x1,vs = [.int x0,.int x1]/\P x0 x1:=by
 obtain _ | ⟨y0,vs⟩:=vs
 ·exact False.elim h
 cases y0 <;> first | exact False.elim h | skip
 obtain _ | ⟨y1,vs⟩:=vs
 ·exact False.elim h
 cases y1 <;> first | exact False.elim h | skip
 obtain _ | ⟨y,vs⟩:=vs
 ·exact⟨_,_,rfl,h⟩
 ·exact False.elim h
theorem a6y{P:Addr->Prop}{vs:List V}(h:match vs with | [.ref x0]=>P x0 | _=>False):∃ x0,vs = [.ref x0]/\P x0:=by
 obtain _ | ⟨y0,vs⟩:=vs
 ·exact False.elim h
 cases y0 <;> first | exact False.elim h | skip
 obtain _ | ⟨y,vs⟩:=vs
 ·exact⟨_,rfl,h⟩
 ·exact False.elim h
theorem d3t{P:Addr->Int->Prop}{vs:List V}(h:match vs with | [.ref x0,.int x1]=>P x0 x1 | _=>False):∃ x0 x1,vs = [.ref x0,.int x1]/\P x0 x1:=by
 obtain _ | ⟨y0,vs⟩:=vs
 ·exact False.elim h
 cases y0 <;> first | exact False.elim h | skip
 obtain _ | ⟨y1,vs⟩:=vs
 ·exact False.elim h
 cases y1 <;> first | exact False.elim h | skip
 obtain _ | ⟨y,vs⟩:=vs
 ·exact⟨_,_,rfl,h⟩
 ·exact False.elim h
theorem f4h{P:Addr->Addr->Prop}{vs:List V}(h:match vs with | [.ref x0,.ref x1]=>P x0 x1 | _=>False):∃ x0 x1,vs = [.ref x0,.ref x1]/\P x0 x1:=by
 obtain _ | ⟨y0,vs⟩:=vs
 ·exact False.elim h
 cases y0 <;> first | exact False.elim h | skip
 obtain _ | ⟨y1,vs⟩:=vs
 ·exact False.elim h
 cases y1 <;> first | exact False.elim h | skip
 obtain _ | ⟨y,vs⟩:=vs
 ·exact⟨_,_,rfl,h⟩
 ·exact False.elim h
theorem h9a{P:Addr->Addr->Int->Prop}{vs:List V}(h:match vs with | [.ref x0,.ref x1,.int x2]=>P x0 x1 x2 | _=>False):∃ x0 x1 x2,vs = [.ref x0,.ref x1,.int x2]/\P x0 x1 x2:=by
 obtain _ | ⟨y0,vs⟩:=vs
 ·exact False.elim h
 cases y0 <;> first | exact False.elim h | skip
 obtain _ | ⟨y1,vs⟩:=vs
 ·exact False.elim h
 cases y1 <;> first | exact False.elim h | skip
 obtain _ | ⟨y2,vs⟩:=vs
 ·exact False.elim h
 cases y2 <;> first | exact False.elim h | skip
 obtain _ | ⟨y,vs⟩:=vs
 ·exact⟨_,_,_,rfl,h⟩
 ·exact False.elim h
theorem i5a{P:Addr->Addr->Int->Int->Prop}{vs:List V}(h:match vs with | [.ref x0,.ref x1,.int x2,.int x3]=>P x0 x1 x2 x3 | _=>False):∃ x0 x1 x2 x3,vs = [.ref x0,.ref x1,.int x2,.int x3]/\P x0 x1 x2 x3:=by
 obtain _ | ⟨y0,vs⟩:=vs
 ·exact False.elim h
 cases y0 <;> first | exact False.elim h | skip
 obtain _ | ⟨y1,vs⟩:=vs
 ·exact False.elim h
 cases y1 <;> first | exact False.elim h | skip
 obtain _ | ⟨y2,vs⟩:=vs
 ·exact False.elim h
 cases y2 <;> first | exact False.elim h | skip
 obtain _ | ⟨y3,vs⟩:=vs
 ·exact False.elim h
 cases y3 <;> first | exact False.elim h | skip
 obtain _ | ⟨y,vs⟩:=vs
 ·exact⟨_,_,_,_,rfl,h⟩
 ·exact False.elim h
theorem j9i{P:Addr->V->Prop}{vs:List V}(h:match vs with | [.ref x0,x1]=>P x0 x1 | _=>False):∃ x0 x1,vs = [.ref x0,x1]/\P x0 x1:=by
 obtain _ | ⟨y0,vs⟩:=vs
 ·exact False.elim h
 cases y0 <;> first | exact False.elim h | skip
 obtain _ | ⟨y1,vs⟩:=vs
 ·exact False.elim h
 obtain _ | ⟨y,vs⟩:=vs
 ·exact⟨_,_,rfl,h⟩
 ·exact False.elim h
theorem g5b{P:Str->Prop}{vs:List V}(h:match vs with | [.str x0]=>P x0 | _=>False):∃ x0,vs = [.str x0]/\P x0:=by
 obtain _ | ⟨y0,vs⟩:=vs
 ·exact False.elim h
 cases y0 <;> first | exact False.elim h | skip
 obtain _ | ⟨y,vs⟩:=vs
 ·exact⟨_,rfl,h⟩
 ·exact False.elim h
theorem h9b{P:Str->Int->Int->Prop}{vs:List V}(h:match vs with | [.str x0,.int x1,.int x2]=>P x0 x1 x2 | _=>False):∃ x0 x1 x2,vs = [.str x0,.int x1,.int x2]/\P x0 x1 x2:=by
 obtain _ | ⟨y0,vs⟩:=vs
 ·exact False.elim h
 cases y0 <;> first | exact False.elim h | skip
 obtain _ | ⟨y1,vs⟩:=vs
 ·exact False.elim h
 cases y1 <;> first | exact False.elim h | skip
 obtain _ | ⟨y2,vs⟩:=vs
 ·exact False.elim h
 cases y2 <;> first | exact False.elim h | skip
 obtain _ | ⟨y,vs⟩:=vs
 ·exact⟨_,_,_,rfl,h⟩
 ·exact False.elim h
theorem j1m{P:V->Prop}{vs:List V}(h:match vs with | [x0]=>P x0 | _=>False):∃ x0,vs = [x0]/\P x0:=by
 obtain _ | ⟨y0,vs⟩:=vs
 ·exact False.elim h
 obtain _ | ⟨y,vs⟩:=vs
 ·exact⟨_,rfl,h⟩
 ·exact False.elim h
noncomputable def top(i:Nat):Stmt:=PySem.Challenge.pw_mixbench_k44_chains_told.main.body.getD i (.Pass ⟨0,0,0,0⟩)
noncomputable abbrev g6q:Stmt:=(top 16)
noncomputable abbrev f9q:Stmt:=(top 17)
noncomputable abbrev g6r:Stmt:=(top 18)
noncomputable abbrev h3e:Stmt:=(top 21)
noncomputable abbrev g6s:Stmt:=(top 22)
noncomputable abbrev g6t:Stmt:=(top 23)
noncomputable abbrev j1n:Stmt:=(top 24)
noncomputable abbrev i5b:Stmt:=(top 25)
noncomputable abbrev h3f:Stmt:=(top 26)
noncomputable abbrev g6u:Stmt:=(top 27)
noncomputable abbrev d7z:Stmt:=(top 28)
noncomputable abbrev d8g:Stmt:=(top 29)
noncomputable abbrev f9r:Stmt:=(inClass (top 31) 0)
noncomputable abbrev f9s:Stmt:=(inClass (top 31) 1)
noncomputable abbrev f9t:Stmt:=(inClass (top 31) 2)
noncomputable abbrev f4i:Stmt:=(inClass (top 31) 3)
noncomputable abbrev f9u:Stmt:=(inClass (top 31) 4)
noncomputable abbrev g2j:Stmt:=(inClass (top 32) 0)
noncomputable abbrev f9v:Stmt:=(inClass (top 32) 1)
noncomputable abbrev f4j:Stmt:=(inClass (top 32) 3)
noncomputable abbrev g2k:Stmt:=(inClass (top 32) 4)
noncomputable abbrev f9w:Stmt:=(inClass (top 33) 0)
noncomputable abbrev f4k:Stmt:=(inClass (top 33) 2)
noncomputable abbrev f9y:Stmt:=(inClass (top 33) 3)
noncomputable abbrev g2l:Stmt:=(top 35)
noncomputable abbrev f2i:Stmt:=(inClass (top 36) 0)
noncomputable abbrev f9z:Stmt:=(inClass (top 36) 1)
noncomputable abbrev g0a:Stmt:=(inClass (top 36) 3)
noncomputable abbrev d4w:Stmt:=(inClass (top 36) 4)
noncomputable abbrev g2m:Stmt:=(inClass (top 36) 5)
noncomputable abbrev g2n:Stmt:=(inClass (top 37) 0)
noncomputable abbrev g0b:Stmt:=(inClass (top 37) 1)
noncomputable abbrev g0c:Stmt:=(inClass (top 37) 3)
noncomputable abbrev f4l:Stmt:=(inClass (top 37) 4)
noncomputable abbrev g2o:Stmt:=(inClass (top 37) 5)
noncomputable abbrev g2p:Stmt:=(inClass (top 38) 0)
noncomputable abbrev g0d:Stmt:=(inClass (top 38) 2)
noncomputable abbrev f4m:Stmt:=(inClass (top 38) 3)
noncomputable abbrev g2q:Stmt:=(inClass (top 38) 4)
noncomputable abbrev d8h:Stmt:=(top 40)
noncomputable abbrev g2r:Stmt:=(top 42)
noncomputable abbrev j1o:Stmt:=(top 43)
noncomputable abbrev f4n:Stmt:=(top 44)
noncomputable abbrev c4z:Stmt:=(inClass (top 45) 0)
noncomputable abbrev f4o:Stmt:=(inClass (top 45) 1)
noncomputable abbrev f4p:Stmt:=(inClass (top 45) 2)
noncomputable abbrev f1s:Stmt:=(inClass (top 45) 6)
noncomputable abbrev d4y:Stmt:=(inClass (top 45) 7)
noncomputable abbrev d8i:Stmt:=(inClass (top 45) 8)
noncomputable abbrev g2s:Stmt:=(top 52)
noncomputable abbrev f4q:Stmt:=(top 53)
noncomputable abbrev g2t:Stmt:=(top 54)
noncomputable abbrev f4r:Stmt:=(top 55)
noncomputable abbrev h3g:Stmt:=(top 56)
noncomputable abbrev g6v:Stmt:=(top 57)
noncomputable abbrev h3h:Stmt:=(top 58)
noncomputable abbrev h3i:Stmt:=(top 59)
noncomputable abbrev h3j:Stmt:=(top 60)
noncomputable abbrev f4s:Stmt:=(top 61)
noncomputable abbrev f0q:Stmt:=(top 62)
noncomputable abbrev h3k:Stmt:=(top 64)
noncomputable abbrev f0r:Stmt:=(top 67)
noncomputable abbrev d8j:Stmt:=(inClass (top 68) 0)
noncomputable abbrev f4t:Stmt:=(inClass (top 68) 2)
noncomputable abbrev f1t:Stmt:=(inClass (top 68) 3)
noncomputable abbrev d4z:Stmt:=(inClass (top 68) 4)
noncomputable abbrev d5g:Stmt:=(inClass (top 68) 5)
noncomputable abbrev d5h:Stmt:=(inClass (top 68) 6)
noncomputable abbrev g2u:Stmt:=(top 70)
noncomputable abbrev f4u:Stmt:=(top 71)
noncomputable abbrev g0e:Stmt:=(top 72)
noncomputable abbrev g6w:Stmt:=(top 73)
noncomputable abbrev g0f:Stmt:=(top 74)
noncomputable abbrev f4v:Stmt:=(top 75)
noncomputable abbrev g6x:Stmt:=(top 76)
noncomputable abbrev f7j:Stmt:=(top 77)
noncomputable abbrev g0g:Stmt:=(top 78)
noncomputable abbrev f7k:Stmt:=(top 79)
noncomputable abbrev g6y:Stmt:=(top 80)
noncomputable abbrev f4w:Stmt:=(top 81)
noncomputable abbrev f0s:Stmt:=(top 82)
noncomputable abbrev i9k:Stmt:=(top 83)
theorem h6c : a0s ["value"] ["value"] (a0l g6q) := ⟨rfl, rfl, rfl, by decide +kernel, rfl, by decide +kernel, by decide +kernel⟩
theorem f4y : a0s ["text", "sign"] ["text"] (a0l f9q) := ⟨rfl, rfl, rfl, by decide +kernel, rfl, by decide +kernel, by decide +kernel⟩
theorem g2v : a0s ["text"] ["text"] (a0l g6r) := ⟨rfl, rfl, rfl, by decide +kernel, rfl, by decide +kernel, by decide +kernel⟩
theorem c7p : a0s ["one", "other", "left", "right", "rest"] ["one", "other"] (a0l h3e) := ⟨rfl, rfl, rfl, by decide +kernel, rfl, by decide +kernel, by decide +kernel⟩
theorem h6d : a0s ["one", "other"] ["one", "other"] (a0l g6s) := ⟨rfl, rfl, rfl, by decide +kernel, rfl, by decide +kernel, by decide +kernel⟩
theorem f2j : a0s ["top", "bottom", "by"] ["top", "bottom"] (a0l g6t) := ⟨rfl, rfl, rfl, by decide +kernel, rfl, by decide +kernel, by decide +kernel⟩
theorem j3y : a0s ["one", "other"] ["one", "other"] (a0l j1n) := ⟨rfl, rfl, rfl, by decide +kernel, rfl, by decide +kernel, by decide +kernel⟩
theorem i9l : a0s ["one", "other"] ["one", "other"] (a0l i5b) := ⟨rfl, rfl, rfl, by decide +kernel, rfl, by decide +kernel, by decide +kernel⟩
theorem i1k : a0s ["one"] ["one"] (a0l h3f) := ⟨rfl, rfl, rfl, by decide +kernel, rfl, by decide +kernel, by decide +kernel⟩
theorem h6e : a0s ["one", "other"] ["one", "other"] (a0l g6u) := ⟨rfl, rfl, rfl, by decide +kernel, rfl, by decide +kernel, by decide +kernel⟩
theorem a7v : a0s ["one", "top", "bottom"] ["one"] (a0l d7z) := ⟨rfl, rfl, rfl, by decide +kernel, rfl, by decide +kernel, by decide +kernel⟩
theorem a4t : a0s ["text", "halves", "top", "number", "one"] ["text"] (a0l d8g) := ⟨rfl, rfl, rfl, by decide +kernel, rfl, by decide +kernel, by decide +kernel⟩
theorem g8q : a0s ["self"] ["self"] (a0l f9r) := ⟨rfl, rfl, rfl, by decide +kernel, rfl, by decide +kernel, by decide +kernel⟩
theorem g8r : a0s ["self"] ["self"] (a0l f9s) := ⟨rfl, rfl, rfl, by decide +kernel, rfl, by decide +kernel, by decide +kernel⟩
theorem g8s : a0s ["self"] ["self"] (a0l f9t) := ⟨rfl, rfl, rfl, by decide +kernel, rfl, by decide +kernel, by decide +kernel⟩
theorem g5d : a0s ["self"] ["self"] (a0l f4i) := ⟨rfl, rfl, rfl, by decide +kernel, rfl, by decide +kernel, by decide +kernel⟩
theorem g8t : a0s ["self", "n"] ["self", "n"] (a0l f9u) := ⟨rfl, rfl, rfl, by decide +kernel, rfl, by decide +kernel, by decide +kernel⟩
theorem h3l : a0s ["self", "gain"] ["self", "gain"] (a0l g2j) := ⟨rfl, rfl, rfl, by decide +kernel, rfl, by decide +kernel, by decide +kernel⟩
theorem g8u : a0s ["self"] ["self"] (a0l f9v) := ⟨rfl, rfl, rfl, by decide +kernel, rfl, by decide +kernel, by decide +kernel⟩
theorem g5e : a0s ["self"] ["self"] (a0l f4j) := ⟨rfl, rfl, rfl, by decide +kernel, rfl, by decide +kernel, by decide +kernel⟩
theorem g0h : a0s ["self", "gain"] ["self"] (a0l g2k) := ⟨rfl, rfl, rfl, by decide +kernel, rfl, by decide +kernel, by decide +kernel⟩
theorem g8v : a0s ["self", "many"] ["self", "many"] (a0l f9w) := ⟨rfl, rfl, rfl, by decide +kernel, rfl, by decide +kernel, by decide +kernel⟩
theorem g5f : a0s ["self"] ["self"] (a0l f4k) := ⟨rfl, rfl, rfl, by decide +kernel, rfl, by decide +kernel, by decide +kernel⟩
theorem f4z : a0s ["self", "many"] ["self"] (a0l f9y) := ⟨rfl, rfl, rfl, by decide +kernel, rfl, by decide +kernel, by decide +kernel⟩
theorem d8k : a0s ["number", "most", "powers", "turn"] ["number", "most"] (a0l g2l) := ⟨rfl, rfl, rfl, by decide +kernel, rfl, by decide +kernel, by decide +kernel⟩
theorem d8l : a0s ["self", "gain", "many", "turns", "tops", "bottoms"] ["self", "gain", "many", "turns"] (a0l f2i) := ⟨rfl, rfl, rfl, by decide +kernel, rfl, by decide +kernel, by decide +kernel⟩
theorem g8w : a0s ["self"] ["self"] (a0l f9z) := ⟨rfl, rfl, rfl, by decide +kernel, rfl, by decide +kernel, by decide +kernel⟩
theorem g8x : a0s ["self"] ["self"] (a0l g0a) := ⟨rfl, rfl, rfl, by decide +kernel, rfl, by decide +kernel, by decide +kernel⟩
theorem g5g : a0s ["self"] ["self"] (a0l d4w) := ⟨rfl, rfl, rfl, by decide +kernel, rfl, by decide +kernel, by decide +kernel⟩
theorem d0t : a0s ["self", "gain", "many", "turns"] ["self"] (a0l g2m) := ⟨rfl, rfl, rfl, by decide +kernel, rfl, by decide +kernel, by decide +kernel⟩
theorem h3m : a0s ["self", "gain", "many"] ["self", "gain", "many"] (a0l g2n) := ⟨rfl, rfl, rfl, by decide +kernel, rfl, by decide +kernel, by decide +kernel⟩
theorem g8y : a0s ["self"] ["self"] (a0l g0b) := ⟨rfl, rfl, rfl, by decide +kernel, rfl, by decide +kernel, by decide +kernel⟩
theorem g8z : a0s ["self"] ["self"] (a0l g0c) := ⟨rfl, rfl, rfl, by decide +kernel, rfl, by decide +kernel, by decide +kernel⟩
theorem g5h : a0s ["self"] ["self"] (a0l f4l) := ⟨rfl, rfl, rfl, by decide +kernel, rfl, by decide +kernel, by decide +kernel⟩
theorem d8m : a0s ["self", "gain", "many"] ["self"] (a0l g2o) := ⟨rfl, rfl, rfl, by decide +kernel, rfl, by decide +kernel, by decide +kernel⟩
theorem h3n : a0s ["self", "gain", "many"] ["self", "gain", "many"] (a0l g2p) := ⟨rfl, rfl, rfl, by decide +kernel, rfl, by decide +kernel, by decide +kernel⟩
theorem g9a : a0s ["self"] ["self"] (a0l g0d) := ⟨rfl, rfl, rfl, by decide +kernel, rfl, by decide +kernel, by decide +kernel⟩
theorem g5i : a0s ["self"] ["self"] (a0l f4m) := ⟨rfl, rfl, rfl, by decide +kernel, rfl, by decide +kernel, by decide +kernel⟩
theorem d8n : a0s ["self", "gain", "many"] ["self"] (a0l g2q) := ⟨rfl, rfl, rfl, by decide +kernel, rfl, by decide +kernel, by decide +kernel⟩
theorem b6s : a0s ["bottoms", "shared", "bottom"] ["bottoms"] (a0l d8h) := ⟨rfl, rfl, rfl, by decide +kernel, rfl, by decide +kernel, by decide +kernel⟩
theorem c5g : a0s ["corners", "slopes", "left", "right", "rise"] ["corners"] (a0l g2r) := ⟨rfl, rfl, rfl, by decide +kernel, rfl, by decide +kernel, by decide +kernel⟩
theorem j3z : a0s ["one", "bottom"] ["one", "bottom"] (a0l j1o) := ⟨rfl, rfl, rfl, by decide +kernel, rfl, by decide +kernel, by decide +kernel⟩
theorem d2k : a0s ["corner", "at", "gain"] ["corner"] (a0l f4n) := ⟨rfl, rfl, rfl, by decide +kernel, rfl, by decide +kernel, by decide +kernel⟩
theorem f5g : a0s ["self", "corners", "slopes"] ["self", "corners"] (a0l c4z) := ⟨rfl, rfl, rfl, by decide +kernel, rfl, by decide +kernel, by decide +kernel⟩
theorem g5j : a0s ["self"] ["self"] (a0l f4o) := ⟨rfl, rfl, rfl, by decide +kernel, rfl, by decide +kernel, by decide +kernel⟩
theorem g5k : a0s ["self"] ["self"] (a0l f4p) := ⟨rfl, rfl, rfl, by decide +kernel, rfl, by decide +kernel, by decide +kernel⟩
theorem b2k : a0s ["self", "most", "corner", "size"] ["self"] (a0l f1s) := ⟨rfl, rfl, rfl, by decide +kernel, rfl, by decide +kernel, by decide +kernel⟩
theorem g5l : a0s ["self", "n"] ["self", "n"] (a0l d4y) := ⟨rfl, rfl, rfl, by decide +kernel, rfl, by decide +kernel, by decide +kernel⟩
theorem f5h : a0s ["self", "corners"] ["self"] (a0l d8i) := ⟨rfl, rfl, rfl, by decide +kernel, rfl, by decide +kernel, by decide +kernel⟩
theorem d0u : a0s ["text", "gain"] ["text"] (a0l g2s) := ⟨rfl, rfl, rfl, by decide +kernel, rfl, by decide +kernel, by decide +kernel⟩
theorem c4l : a0s ["text", "least", "most", "number"] ["text", "least", "most"] (a0l f4q) := ⟨rfl, rfl, rfl, by decide +kernel, rfl, by decide +kernel, by decide +kernel⟩
theorem g0i : a0s ["text"] ["text"] (a0l g2t) := ⟨rfl, rfl, rfl, by decide +kernel, rfl, by decide +kernel, by decide +kernel⟩
theorem f1u : a0s ["values", "count"] ["values", "count"] (a0l f4r) := ⟨rfl, rfl, rfl, by decide +kernel, rfl, by decide +kernel, by decide +kernel⟩
theorem g6z : a0s ["values"] ["values"] (a0l h3g) := ⟨rfl, rfl, rfl, by decide +kernel, rfl, by decide +kernel, by decide +kernel⟩
theorem g2w : a0s ["values"] ["values"] (a0l g6v) := ⟨rfl, rfl, rfl, by decide +kernel, rfl, by decide +kernel, by decide +kernel⟩
theorem g7a : a0s ["values"] ["values"] (a0l h3h) := ⟨rfl, rfl, rfl, by decide +kernel, rfl, by decide +kernel, by decide +kernel⟩
theorem g7b : a0s ["values"] ["values"] (a0l h3i) := ⟨rfl, rfl, rfl, by decide +kernel, rfl, by decide +kernel, by decide +kernel⟩
theorem f0t : a0s ["values", "gain"] ["values"] (a0l h3j) := ⟨rfl, rfl, rfl, by decide +kernel, rfl, by decide +kernel, by decide +kernel⟩
theorem c4m : a0s ["text", "halves"] ["text"] (a0l f4s) := ⟨rfl, rfl, rfl, by decide +kernel, rfl, by decide +kernel, by decide +kernel⟩
theorem b2l : a0s ["values", "corners", "left", "right"] ["values"] (a0l f0q) := ⟨rfl, rfl, rfl, by decide +kernel, rfl, by decide +kernel, by decide +kernel⟩
theorem f0u : a0s ["word", "values"] ["word"] (a0l h3k) := ⟨rfl, rfl, rfl, by decide +kernel, rfl, by decide +kernel, by decide +kernel⟩
theorem g2x : a0s ["words"] ["words"] (a0l f0r) := ⟨rfl, rfl, rfl, by decide +kernel, rfl, by decide +kernel, by decide +kernel⟩
theorem f5i : a0s ["self", "words"] ["self", "words"] (a0l d8j) := ⟨rfl, rfl, rfl, by decide +kernel, rfl, by decide +kernel, by decide +kernel⟩
theorem c4n : a0s ["self", "product", "part"] ["self"] (a0l f4t) := ⟨rfl, rfl, rfl, by decide +kernel, rfl, by decide +kernel, by decide +kernel⟩
theorem b9o : a0s ["self", "product", "part"] ["self"] (a0l f1t) := ⟨rfl, rfl, rfl, by decide +kernel, rfl, by decide +kernel, by decide +kernel⟩
theorem f1v : a0s ["self", "reaches"] ["self"] (a0l d4z) := ⟨rfl, rfl, rfl, by decide +kernel, rfl, by decide +kernel, by decide +kernel⟩
theorem g5m : a0s ["self"] ["self"] (a0l d5g) := ⟨rfl, rfl, rfl, by decide +kernel, rfl, by decide +kernel, by decide +kernel⟩
theorem g5n : a0s ["self", "n"] ["self", "n"] (a0l d5h) := ⟨rfl, rfl, rfl, by decide +kernel, rfl, by decide +kernel, by decide +kernel⟩
theorem h3o : a0s ["_law_found"] ["_law_found"] (a0l g2u) := ⟨rfl, rfl, rfl, by decide +kernel, rfl, by decide +kernel, by decide +kernel⟩
theorem b0p : a0s ["_law_one", "_law_other", "_law_rest"] ["_law_one", "_law_other"] (a0l f4u) := ⟨rfl, rfl, rfl, by decide +kernel, rfl, by decide +kernel, by decide +kernel⟩
theorem f5j : a0s ["_law_top", "_law_bottom", "_law_by"] ["_law_top", "_law_bottom"] (a0l g0e) := ⟨rfl, rfl, rfl, by decide +kernel, rfl, by decide +kernel, by decide +kernel⟩
theorem h6f : a0s ["_law_mixed"] ["_law_mixed"] (a0l g6w) := ⟨rfl, rfl, rfl, by decide +kernel, rfl, by decide +kernel, by decide +kernel⟩
theorem f5k : a0s ["_law_mixed", "_law_bottom"] ["_law_mixed"] (a0l g0f) := ⟨rfl, rfl, rfl, by decide +kernel, rfl, by decide +kernel, by decide +kernel⟩
theorem b6o : a0s ["_law_mixed", "_law_corners_here", "_law_at", "_law_k"] ["_law_mixed"] (a0l f4v) := ⟨rfl, rfl, rfl, by decide +kernel, rfl, by decide +kernel, by decide +kernel⟩
theorem d5i : a0s ["_law_cell", "_law_mixed", "_law_many", "_law_pick"] ["_law_cell"] (a0l g6x) := ⟨rfl, rfl, rfl, by decide +kernel, rfl, by decide +kernel, by decide +kernel⟩
theorem b2m : a0s ["_law_part_here", "_law_n", "_law_kind", "_law_gain_here", "_law_many", "_law_turns", "_law_word_here"] ["_law_part_here", "_law_n"] (a0l f7j) := ⟨rfl, rfl, rfl, by decide +kernel, rfl, by decide +kernel, by decide +kernel⟩
theorem a4w : a0s ["_law_part_here", "_law_kind", "_law_gain_here", "_law_many", "_law_turns", "_law_most", "_law_at", "_law_one", "_law_total", "_law_j"] ["_law_part_here"] (a0l g0g) := ⟨rfl, rfl, rfl, by decide +kernel, rfl, by decide +kernel, by decide +kernel⟩
theorem a7g : a0s ["_law_chain", "_law_parts", "_law_top", "_law_bottom", "_law_reach", "_law_part_here", "_law_here", "_law_found", "_law_far"] ["_law_chain", "_law_parts"] (a0l f7k) := ⟨rfl, rfl, rfl, by decide +kernel, rfl, by decide +kernel, by decide +kernel⟩
theorem d5j : a0s ["_law_words", "_law_cell", "_law_odd", "_law_at", "_law_pick"] ["_law_words", "_law_cell"] (a0l g6y) := ⟨rfl, rfl, rfl, by decide +kernel, rfl, by decide +kernel, by decide +kernel⟩
theorem c4o : a0s ["_law_words", "_law_found", "error"] ["_law_words"] (a0l f4w) := ⟨rfl, rfl, rfl, by decide +kernel, rfl, by decide +kernel, by decide +kernel⟩
theorem c9j : a0s ["_law_parts", "_law_n", "_law_words", "_law_chain", "_law_told_here", "_law_found"] ["_law_parts", "_law_n"] (a0l f0s) := ⟨rfl, rfl, rfl, by decide +kernel, rfl, by decide +kernel, by decide +kernel⟩
theorem h3p : a0s ["_law_script", "_law_cell", "_law_mixed", "_law_parts", "_law_words"] ["_law_script"] (a0l i9k) := ⟨rfl, rfl, rfl, by decide +kernel, rfl, by decide +kernel, by decide +kernel⟩
set_option genInjectivity false in
structure Ad where
 c0u:Addr
 c0v:FuncData
 b2n:Addr
 b3l:FuncData
 b7k:Addr
 b6u:FuncData
 c5h:Addr
 c0w:FuncData
 c0y:Addr
 c0z:FuncData
 c1g:Addr
 c1h:FuncData
 g2y:Addr
 f7l:FuncData
 f2k:Addr
 f0v:FuncData
 c9k:Addr
 c7q:FuncData
 c1i:Addr
 c1j:FuncData
 a5z:Addr
 a6p:FuncData
 a6g:Addr
 a6q:FuncData
 a9q:Addr
 b3m:FuncData
 a6h:Addr
 b3n:FuncData
 a9r:Addr
 b3o:FuncData
 a9w:Addr
 b0q:FuncData
 a6i:Addr
 b3p:FuncData
 c1k:Addr
 b7l:FuncData
 b7m:Addr
 b3q:FuncData
 b3r:Addr
 b0r:FuncData
 c1l:Addr
 b7n:FuncData
 b7o:Addr
 b3s:FuncData
 b3t:Addr
 b0s:FuncData
 b7p:Addr
 b3u:FuncData
 b6v:Addr
 b7q:FuncData
 c1m:Addr
 b7r:FuncData
 b7s:Addr
 b3v:FuncData
 b7t:Addr
 b3w:FuncData
 b3y:Addr
 b0t:FuncData
 c1n:Addr
 b7u:FuncData
 c1o:Addr
 b7v:FuncData
 b7w:Addr
 b3z:FuncData
 b7y:Addr
 b4g:FuncData
 b4h:Addr
 b0u:FuncData
 c1p:Addr
 b7z:FuncData
 c1q:Addr
 b8g:FuncData
 b8h:Addr
 b4i:FuncData
 b4j:Addr
 b0v:FuncData
 c1r:Addr
 b8i:FuncData
 a7h:Addr
 a7w:FuncData
 b6w:Addr
 b8j:FuncData
 g2z:Addr
 f7m:FuncData
 a9y:Addr
 b0w:FuncData
 b8k:Addr
 b4k:FuncData
 b4l:Addr
 b0y:FuncData
 b4m:Addr
 b0z:FuncData
 b1g:Addr
 a9h:FuncData
 b4n:Addr
 b1h:FuncData
 b8l:Addr
 b4o:FuncData
 b2o:Addr
 b2p:FuncData
 a8h:Addr
 a8r:FuncData
 b2q:Addr
 b2r:FuncData
 a8i:Addr
 a8s:FuncData
 b9p:Addr
 c1s:FuncData
 b4p:Addr
 b6y:FuncData
 b9q:Addr
 c1t:FuncData
 b9r:Addr
 c1u:FuncData
 b9s:Addr
 c1v:FuncData
 a8j:Addr
 a8t:FuncData
 b4q:Addr
 b6z:FuncData
 c5i:Addr
 c1w:FuncData
 b8m:Addr
 b7g:FuncData
 b2s:Addr
 a9z:FuncData
 b4r:Addr
 b1i:FuncData
 b1j:Addr
 a9i:FuncData
 b4s:Addr
 b1k:FuncData
 b4t:Addr
 b1l:FuncData
 b4u:Addr
 b1m:FuncData
 b7h:Addr
 b8n:FuncData
 b0g:Addr
 b1n:FuncData
 b2t:Addr
 b4v:FuncData
 c1y:Addr
 c1z:FuncData
 b2u:Addr
 b4w:FuncData
 b0h:Addr
 b1o:FuncData
 c2g:Addr
 c2h:FuncData
 c2i:Addr
 c2j:FuncData
 b2v:Addr
 b4y:FuncData
 c2k:Addr
 c2l:FuncData
 c2m:Addr
 c2n:FuncData
 b0i:Addr
 b1p:FuncData
 c2o:Addr
 c2p:FuncData
 h3q:Addr
 g0j:FuncData
 a3g:Addr
 a3k:Addr
 a1i:Addr
 a0w:Addr
 a5t:Addr
 a7r:Addr
 a7s:Addr
 b6i:Addr
 a4z:Addr
 a7t:Addr
 a5u:Addr
 d8o:Addr
 b2w:Addr
 a6t:Addr
 a8k:Addr
 a9s:Addr
 b0o:Addr
 a6j:Addr
 b2y:Addr
 d3u:Value
 a5n:Value
 a5o:Value
 c2q:Value
 c2r:Value
 b8o:Value
 d3v:Value
 b1q:Value
 b8p:Value
 a2s:Addr
 wd:World
structure Ty(K:W.Frag)(A:Ad):Prop where
 f2l : W.nsIn K mainGlobals "MixError" = some (some (.ref A.a3g))
 f2m : W.nsIn K mainGlobals "NoNumber" = some (some (.ref A.a3k))
 g3a : W.nsIn K mainGlobals "NoText" = some (some (.ref A.a1i))
 g3b : W.nsIn K mainGlobals "NoPart" = some (some (.ref A.a0w))
 g3c : W.nsIn K mainGlobals "NoName" = some (some (.ref A.a5t))
 g9b : W.nsIn K mainGlobals "Twice" = some (some (.ref A.a7r))
 g9c : W.nsIn K mainGlobals "NoBus" = some (some (.ref A.a7s))
 h6g : W.nsIn K mainGlobals "Ring" = some (some (.ref A.b6i))
 f7n : W.nsIn K mainGlobals "NoBlock" = some (some (.ref A.a4z))
 g9d : W.nsIn K mainGlobals "NoRow" = some (some (.ref A.a7t))
 g3d : W.nsIn K mainGlobals "NoDeed" = some (some (.ref A.a5u))
 h6h : W.nsIn K mainGlobals "Part" = some (some (.ref A.d8o))
 h6i : W.nsIn K mainGlobals "Gain" = some (some (.ref A.b2w))
 g9e : W.nsIn K mainGlobals "Delay" = some (some (.ref A.a6t))
 h6j : W.nsIn K mainGlobals "Echo" = some (some (.ref A.a8k))
 h6k : W.nsIn K mainGlobals "Back" = some (some (.ref A.a9s))
 h6l : W.nsIn K mainGlobals "Hall" = some (some (.ref A.b0o))
 g9f : W.nsIn K mainGlobals "Swell" = some (some (.ref A.a6j))
 g9g : W.nsIn K mainGlobals "Chain" = some (some (.ref A.b2y))
 f7o : W.nsIn K mainGlobals "is_whole" = some (some (.ref A.c0u))
 d8p : W.nsIn K mainGlobals "is_figures" = some (some (.ref A.b2n))
 f7p : W.nsIn K mainGlobals "whole_of" = some (some (.ref A.b7k))
 g3e : W.nsIn K mainGlobals "divisor" = some (some (.ref A.c5h))
 f7q : W.nsIn K mainGlobals "multiple" = some (some (.ref A.c0y))
 f7r : W.nsIn K mainGlobals "fraction" = some (some (.ref A.c1g))
 i5c : W.nsIn K mainGlobals "plus" = some (some (.ref A.g2y))
 h6m : W.nsIn K mainGlobals "times" = some (some (.ref A.f2k))
 g3f : W.nsIn K mainGlobals "size_of" = some (some (.ref A.c9k))
 f7s : W.nsIn K mainGlobals "is_under" = some (some (.ref A.c1i))
 c9l : W.nsIn K mainGlobals "fraction_text" = some (some (.ref A.a5z))
 c9m : W.nsIn K mainGlobals "read_fraction" = some (some (.ref A.a6g))
 f2n : W.nsIn K mainGlobals "powers_of" = some (some (.ref A.b6v))
 c9n : W.nsIn K mainGlobals "shared_bottom" = some (some (.ref A.a7h))
 f2o : W.nsIn K mainGlobals "slopes_of" = some (some (.ref A.b6w))
 i5d : W.nsIn K mainGlobals "over" = some (some (.ref A.g2z))
 d5k : W.nsIn K mainGlobals "corner_word" = some (some (.ref A.a9y))
 f2p : W.nsIn K mainGlobals "read_gain" = some (some (.ref A.b2o))
 d5l : W.nsIn K mainGlobals "read_number" = some (some (.ref A.a8h))
 f2q : W.nsIn K mainGlobals "read_many" = some (some (.ref A.b2q))
 d5m : W.nsIn K mainGlobals "check_count" = some (some (.ref A.a8i))
 g3g : W.nsIn K mainGlobals "gain_of" = some (some (.ref A.b9p))
 f7t : W.nsIn K mainGlobals "delay_of" = some (some (.ref A.b4p))
 g3h : W.nsIn K mainGlobals "echo_of" = some (some (.ref A.b9q))
 g3i : W.nsIn K mainGlobals "back_of" = some (some (.ref A.b9r))
 g3j : W.nsIn K mainGlobals "hall_of" = some (some (.ref A.b9s))
 d5n : W.nsIn K mainGlobals "read_corner" = some (some (.ref A.a8j))
 f7u : W.nsIn K mainGlobals "swell_of" = some (some (.ref A.b4q))
 g3k : W.nsIn K mainGlobals "part_of" = some (some (.ref A.c5i))
 f7v : W.nsIn K mainGlobals "parts_of" = some (some (.ref A.b8m))
 f2r : W.nsIn K mainGlobals "_law_whole" = some (some (.ref A.b7h))
 d5o : W.nsIn K mainGlobals "_law_divisor" = some (some (.ref A.b0g))
 d8q : W.nsIn K mainGlobals "_law_lowest" = some (some (.ref A.b2t))
 f7w : W.nsIn K mainGlobals "_law_gain" = some (some (.ref A.c1y))
 d8r : W.nsIn K mainGlobals "_law_weaker" = some (some (.ref A.b2u))
 d5p : W.nsIn K mainGlobals "_law_corners" = some (some (.ref A.b0h))
 f7y : W.nsIn K mainGlobals "_law_part" = some (some (.ref A.c2g))
 f7z : W.nsIn K mainGlobals "_law_word" = some (some (.ref A.c2i))
 d8s : W.nsIn K mainGlobals "_law_weight" = some (some (.ref A.b2v))
 f8g : W.nsIn K mainGlobals "_law_told" = some (some (.ref A.c2k))
 f8h : W.nsIn K mainGlobals "_law_none" = some (some (.ref A.c2m))
 d5q : W.nsIn K mainGlobals "_law_refused" = some (some (.ref A.b0i))
 f8i : W.nsIn K mainGlobals "_law_good" = some (some (.ref A.c2o))
 i9m : W.nsIn K mainGlobals "law" = some (some (.ref A.h3q))
 i5e:Cls K A.d8o
 f5l : Meth K A.d8o "grain" A.a9q
 f5m : Meth K A.d8o "fresh" A.a6h
 f5n : Meth K A.d8o "reach" A.a9r
 f1w : Meth K A.d8o "weight" A.a9w
 f5o : Meth K A.d8o "later" A.a6i
 a3o:Cls K A.b2w
 a2i : a5k K A.b2w "gain"
 h9c:Mk K A.b2w A.c1k
 d5r : Meth K A.b2w "grain" A.b7m
 d2l : Meth K A.b2w "weight" A.b3r
 d0v : Meth K A.b2w "word" A.c1l
 d5s : Meth K A.b2w "fresh" A.a6h
 d5t : Meth K A.b2w "reach" A.a9r
 a8l : Meth K A.b2w "later" A.a6i
 a2r:Cls K A.a6t
 a1r : a5k K A.a6t "many"
 g9h:Mk K A.a6t A.b7o
 d2m : Meth K A.a6t "reach" A.b3t
 c6n : Meth K A.a6t "word" A.b7p
 d2n : Meth K A.a6t "grain" A.a9q
 d2o : Meth K A.a6t "fresh" A.a6h
 c9o : Meth K A.a6t "weight" A.a9w
 a6v : Meth K A.a6t "later" A.a6i
 a3i:Cls K A.a8k
 a1u : a5k K A.a8k "gain"
 a1v : a5k K A.a8k "many"
 a1j : a5k K A.a8k "turns"
 a0t : a5k K A.a8k "factors"
 a0m : a5k K A.a8k "factor_bottom"
 h9d:Mk K A.a8k A.c1m
 d5u : Meth K A.a8k "grain" A.b7s
 d5v : Meth K A.a8k "reach" A.b7t
 d2p : Meth K A.a8k "weight" A.b3y
 d0w : Meth K A.a8k "word" A.c1n
 d5w : Meth K A.a8k "fresh" A.a6h
 a8m : Meth K A.a8k "later" A.a6i
 a3j:Cls K A.a9s
 a1w : a5k K A.a9s "gain"
 a1y : a5k K A.a9s "many"
 h9e:Mk K A.a9s A.c1o
 d5y : Meth K A.a9s "grain" A.b7w
 d5z : Meth K A.a9s "reach" A.b7y
 d2q : Meth K A.a9s "weight" A.b4h
 d0y : Meth K A.a9s "word" A.c1p
 d6g : Meth K A.a9s "fresh" A.a6h
 a8n : Meth K A.a9s "later" A.a6i
 a3p:Cls K A.b0o
 a2j : a5k K A.b0o "gain"
 a2k : a5k K A.b0o "many"
 h9f:Mk K A.b0o A.c1q
 d6h : Meth K A.b0o "reach" A.b8h
 d2r : Meth K A.b0o "weight" A.b4j
 d0z : Meth K A.b0o "word" A.c1r
 d6i : Meth K A.b0o "grain" A.a9q
 d6j : Meth K A.b0o "fresh" A.a6h
 a8o : Meth K A.b0o "later" A.a6i
 a2o:Cls K A.a6j
 a0q : a5k K A.a6j "corners"
 a0u : a5k K A.a6j "shared"
 a0y : a5k K A.a6j "lines"
 g9i:Mk K A.a6j A.b8k
 d2s : Meth K A.a6j "grain" A.b4l
 d2t : Meth K A.a6j "fresh" A.b4m
 c9p : Meth K A.a6j "weight" A.b1g
 a6w : Meth K A.a6j "later" A.b4n
 c6o : Meth K A.a6j "word" A.b8l
 d2u : Meth K A.a6j "reach" A.a9r
 a3l:Cls K A.b2y
 a2g : a5k K A.b2y "parts"
 a1q : a5k K A.b2y "states"
 g3l:Mk K A.b2y A.b2s
 c4p : Meth K A.b2y "grain" A.b4r
 c9q : Meth K A.b2y "weight" A.b1j
 d2v : Meth K A.b2y "reach" A.b4s
 b6p : Meth K A.b2y "words" A.b4t
 c4q : Meth K A.b2y "later" A.b4u
 c7r : Fun K "is_whole" "is_whole" g6q A.c0u A.c0v
 a9t : Fun K "is_figures" "is_figures" f9q A.b2n A.b3l
 c2s : Fun K "whole_of" "whole_of" g6r A.b7k A.b6u
 d3w : Fun K "divisor" "divisor" h3e A.c5h A.c0w
 d3y : Fun K "multiple" "multiple" g6s A.c0y A.c0z
 b1r : Fun K "fraction" "fraction" g6t A.c1g A.c1h
 g7c : Fun K "plus" "plus" j1n A.g2y A.f7l
 f2s : Fun K "times" "times" i5b A.f2k A.f0v
 b9t : Fun K "size_of" "size_of" h3f A.c9k A.c7q
 c2t : Fun K "is_under" "is_under" g6u A.c1i A.c1j
 a3q : Fun K "fraction_text" "fraction_text" d7z A.a5z A.a6p
 a7i : Fun K "read_fraction" "read_fraction" d8g A.a6g A.a6q
 d1g : Fun K "grain" "Part.grain" f9r A.a9q A.b3m
 d1h : Fun K "fresh" "Part.fresh" f9s A.a6h A.b3n
 d1i : Fun K "reach" "Part.reach" f9t A.a9r A.b3o
 c6p : Fun K "weight" "Part.weight" f4i A.a9w A.b0q
 d1j : Fun K "later" "Part.later" f9u A.a6i A.b3p
 d6k : Fun K "__init__" "Gain.__init__" g2j A.c1k A.b7l
 d1k : Fun K "grain" "Gain.grain" f9v A.b7m A.b3q
 c6q : Fun K "weight" "Gain.weight" f4j A.b3r A.b0r
 d6l : Fun K "word" "Gain.word" g2k A.c1l A.b7n
 d1l : Fun K "__init__" "Delay.__init__" f9w A.b7o A.b3s
 c6r : Fun K "reach" "Delay.reach" f4k A.b3t A.b0s
 d1m : Fun K "word" "Delay.word" f9y A.b7p A.b3u
 c2u : Fun K "powers_of" "powers_of" g2l A.b6v A.b7q
 d6m : Fun K "__init__" "Echo.__init__" f2i A.c1m A.b7r
 d1n : Fun K "grain" "Echo.grain" f9z A.b7s A.b3v
 d1o : Fun K "reach" "Echo.reach" g0a A.b7t A.b3w
 c6s : Fun K "weight" "Echo.weight" d4w A.b3y A.b0t
 d6n : Fun K "word" "Echo.word" g2m A.c1n A.b7u
 d6o : Fun K "__init__" "Back.__init__" g2n A.c1o A.b7v
 d1p : Fun K "grain" "Back.grain" g0b A.b7w A.b3z
 d1q : Fun K "reach" "Back.reach" g0c A.b7y A.b4g
 c6t : Fun K "weight" "Back.weight" f4l A.b4h A.b0u
 d6p : Fun K "word" "Back.word" g2o A.c1p A.b7z
 d6q : Fun K "__init__" "Hall.__init__" g2p A.c1q A.b8g
 d1r : Fun K "reach" "Hall.reach" g0d A.b8h A.b4i
 c6u : Fun K "weight" "Hall.weight" f4m A.b4j A.b0v
 d6r : Fun K "word" "Hall.word" g2q A.c1r A.b8i
 b2z : Fun K "shared_bottom" "shared_bottom" d8h A.a7h A.a7w
 c9r : Fun K "slopes_of" "slopes_of" g2r A.b6w A.b8j
 g7d : Fun K "over" "over" j1o A.g2z A.f7m
 b9u : Fun K "corner_word" "corner_word" f4n A.a9y A.b0w
 d1s : Fun K "__init__" "Swell.__init__" c4z A.b8k A.b4k
 c6v : Fun K "grain" "Swell.grain" f4o A.b4l A.b0y
 c6w : Fun K "fresh" "Swell.fresh" f4p A.b4m A.b0z
 c4r : Fun K "weight" "Swell.weight" f1s A.b1g A.a9h
 c6y : Fun K "later" "Swell.later" d4y A.b4n A.b1h
 d1t : Fun K "word" "Swell.word" d8i A.b8l A.b4o
 a5m : Fun K "read_gain" "read_gain" g2s A.b2o A.b2p
 a4y : Fun K "read_number" "read_number" f4q A.a8h A.a8r
 a7j : Fun K "read_many" "read_many" g2t A.b2q A.b2r
 a2v : Fun K "check_count" "check_count" f4r A.a8i A.a8s
 c9s : Fun K "gain_of" "gain_of" h3g A.b9p A.c1s
 c2v : Fun K "delay_of" "delay_of" g6v A.b4p A.b6y
 c9t : Fun K "echo_of" "echo_of" h3h A.b9q A.c1t
 c9u : Fun K "back_of" "back_of" h3i A.b9r A.c1u
 c9v : Fun K "hall_of" "hall_of" h3j A.b9s A.c1v
 b0j : Fun K "read_corner" "read_corner" f4s A.a8j A.a8t
 c2w : Fun K "swell_of" "swell_of" f0q A.b4q A.b6z
 c9w : Fun K "part_of" "part_of" h3k A.c5i A.c1w
 c2y : Fun K "parts_of" "parts_of" f0r A.b8m A.b7g
 c5j : Fun K "__init__" "Chain.__init__" d8j A.b2s A.a9z
 c6z : Fun K "grain" "Chain.grain" f4t A.b4r A.b1i
 c4s : Fun K "weight" "Chain.weight" f1t A.b1j A.a9i
 c7g : Fun K "reach" "Chain.reach" d4z A.b4s A.b1k
 c7h : Fun K "words" "Chain.words" d5g A.b4t A.b1l
 c7i : Fun K "later" "Chain.later" d5h A.b4u A.b1m
 b3g : Fun K "_law_whole" "_law_whole" g2u A.b7h A.b8n
 b4z : Fun K "_law_divisor" "_law_divisor" f4u A.b0g A.b1n
 b3h : Fun K "_law_lowest" "_law_lowest" g0e A.b2t A.b4v
 b5g : Fun K "_law_gain" "_law_gain" g6w A.c1y A.c1z
 c5k : Fun K "_law_weaker" "_law_weaker" g0f A.b2u A.b4w
 b9v : Fun K "_law_corners" "_law_corners" f4v A.b0h A.b1o
 d3z : Fun K "_law_part" "_law_part" g6x A.c2g A.c2h
 c2z : Fun K "_law_word" "_law_word" f7j A.c2i A.c2j
 c5l : Fun K "_law_weight" "_law_weight" g0g A.b2v A.b4y
 c7s : Fun K "_law_told" "_law_told" f7k A.c2k A.c2l
 d4g : Fun K "_law_none" "_law_none" g6y A.c2m A.c2n
 b9w : Fun K "_law_refused" "_law_refused" f4w A.b0i A.b1p
 d4h : Fun K "_law_good" "_law_good" f0s A.c2o A.c2p
 i5f : Fun K "law" "law" i9k A.h3q A.g0j
 d8t : W.nsIn K mainGlobals "ValueError" = some none
 j4a : W.nsIn K mainGlobals "abs" = some none
 y_bool : W.nsIn K mainGlobals "bool" = some none
 j4b : W.nsIn K mainGlobals "int" = some none
 d8u : W.nsIn K mainGlobals "isinstance" = some none
 j4c : W.nsIn K mainGlobals "len" = some none
 i5g : W.nsIn K mainGlobals "list" = some none
 j4d : W.nsIn K mainGlobals "max" = some none
 h6n : W.nsIn K mainGlobals "range" = some none
 j4e : W.nsIn K mainGlobals "str" = some none
 j4f : W.nsIn K mainGlobals "sum" = some none
 h6o : W.nsIn K mainGlobals "tuple" = some none
 j4g : W.nsIn K mainGlobals "zip" = some none
 g3m : W.excIn K A.a1i vE "ValueError.__new__" = true
 g3n : W.excIn K A.a0w vE "ValueError.__new__" = true
 g9j:W.keepIn K (.ref A.a0w)=true
 b5h : W.findIn K (.ref A.a3g) "__getattribute__" = some (some (.builtin "BaseException.__getattribute__"))
 b5i : W.findIn K (.ref A.a3g) "__class__" = some (some (.builtin "object.__class__"))
 b5j : W.findIn K (.ref A.a3g) "__getattr__" = some none
 b5k : W.subIn K (.ref A.a3g) (.type "object") = some true
 b5l : W.subIn K (.ref A.a3g) (.type "BaseException") = some true
 b5m : W.typeIn K (.ref A.a3g) = some (.type "type")
 b5n:W.isClsIn K A.a3g=true
 b5o:W.subIn K (.ref A.a3g) (.ref A.a3g)=some true
 b8q : W.findIn K (.ref A.a4z) "__getattribute__" = some (some (.builtin "BaseException.__getattribute__"))
 b8r : W.findIn K (.ref A.a4z) "__class__" = some (some (.builtin "object.__class__"))
 b8s : W.findIn K (.ref A.a4z) "__getattr__" = some none
 b8t : W.subIn K (.ref A.a4z) (.type "object") = some true
 b8u : W.subIn K (.ref A.a4z) (.type "BaseException") = some true
 b8v : W.typeIn K (.ref A.a4z) = some (.type "type")
 b8w:W.isClsIn K A.a4z=true
 b8y:W.subIn K (.ref A.a4z) (.ref A.a4z)=some true
 c7t : W.findIn K (.ref A.a7s) "__getattribute__" = some (some (.builtin "BaseException.__getattribute__"))
 c7u : W.findIn K (.ref A.a7s) "__class__" = some (some (.builtin "object.__class__"))
 c7v : W.findIn K (.ref A.a7s) "__getattr__" = some none
 c7w : W.subIn K (.ref A.a7s) (.type "object") = some true
 c7y : W.subIn K (.ref A.a7s) (.type "BaseException") = some true
 c7z : W.typeIn K (.ref A.a7s) = some (.type "type")
 c8g:W.isClsIn K A.a7s=true
 c8h:W.subIn K (.ref A.a7s) (.ref A.a7s)=some true
 c3g : W.findIn K (.ref A.a5u) "__getattribute__" = some (some (.builtin "BaseException.__getattribute__"))
 c3h : W.findIn K (.ref A.a5u) "__class__" = some (some (.builtin "object.__class__"))
 c3i : W.findIn K (.ref A.a5u) "__getattr__" = some none
 c3j : W.subIn K (.ref A.a5u) (.type "object") = some true
 c3k : W.subIn K (.ref A.a5u) (.type "BaseException") = some true
 c3l : W.typeIn K (.ref A.a5u) = some (.type "type")
 c3m:W.isClsIn K A.a5u=true
 c3n:W.subIn K (.ref A.a5u) (.ref A.a5u)=some true
 c3o : W.findIn K (.ref A.a5t) "__getattribute__" = some (some (.builtin "BaseException.__getattribute__"))
 c3p : W.findIn K (.ref A.a5t) "__class__" = some (some (.builtin "object.__class__"))
 c3q : W.findIn K (.ref A.a5t) "__getattr__" = some none
 c3r : W.subIn K (.ref A.a5t) (.type "object") = some true
 c3s : W.subIn K (.ref A.a5t) (.type "BaseException") = some true
 c3t : W.typeIn K (.ref A.a5t) = some (.type "type")
 c3u:W.isClsIn K A.a5t=true
 c3v:W.subIn K (.ref A.a5t) (.ref A.a5t)=some true
 b5p : W.findIn K (.ref A.a3k) "__getattribute__" = some (some (.builtin "BaseException.__getattribute__"))
 b5q : W.findIn K (.ref A.a3k) "__class__" = some (some (.builtin "object.__class__"))
 b5r : W.findIn K (.ref A.a3k) "__getattr__" = some none
 b5s : W.subIn K (.ref A.a3k) (.type "object") = some true
 b5t : W.subIn K (.ref A.a3k) (.type "BaseException") = some true
 b5u : W.typeIn K (.ref A.a3k) = some (.type "type")
 b5v:W.isClsIn K A.a3k=true
 b5w:W.subIn K (.ref A.a3k) (.ref A.a3k)=some true
 a3w : W.findIn K (.ref A.a0w) "__getattribute__" = some (some (.builtin "BaseException.__getattribute__"))
 a3y : W.findIn K (.ref A.a0w) "__class__" = some (some (.builtin "object.__class__"))
 a3z : W.findIn K (.ref A.a0w) "__getattr__" = some none
 a4g : W.subIn K (.ref A.a0w) (.type "object") = some true
 a4h : W.subIn K (.ref A.a0w) (.type "BaseException") = some true
 a4i : W.typeIn K (.ref A.a0w) = some (.type "type")
 a4j:W.isClsIn K A.a0w=true
 a4k:W.subIn K (.ref A.a0w) (.ref A.a0w)=some true
 c8i : W.findIn K (.ref A.a7t) "__getattribute__" = some (some (.builtin "BaseException.__getattribute__"))
 c8j : W.findIn K (.ref A.a7t) "__class__" = some (some (.builtin "object.__class__"))
 c8k : W.findIn K (.ref A.a7t) "__getattr__" = some none
 c8l : W.subIn K (.ref A.a7t) (.type "object") = some true
 c8m : W.subIn K (.ref A.a7t) (.type "BaseException") = some true
 c8n : W.typeIn K (.ref A.a7t) = some (.type "type")
 c8o:W.isClsIn K A.a7t=true
 c8p:W.subIn K (.ref A.a7t) (.ref A.a7t)=some true
 a4l : W.findIn K (.ref A.a1i) "__getattribute__" = some (some (.builtin "BaseException.__getattribute__"))
 a4m : W.findIn K (.ref A.a1i) "__class__" = some (some (.builtin "object.__class__"))
 a4n : W.findIn K (.ref A.a1i) "__getattr__" = some none
 a4o : W.subIn K (.ref A.a1i) (.type "object") = some true
 a4p : W.subIn K (.ref A.a1i) (.type "BaseException") = some true
 a4q : W.typeIn K (.ref A.a1i) = some (.type "type")
 a4r:W.isClsIn K A.a1i=true
 a4s:W.subIn K (.ref A.a1i) (.ref A.a1i)=some true
 d4i : W.findIn K (.ref A.b6i) "__getattribute__" = some (some (.builtin "BaseException.__getattribute__"))
 d4j : W.findIn K (.ref A.b6i) "__class__" = some (some (.builtin "object.__class__"))
 d4k : W.findIn K (.ref A.b6i) "__getattr__" = some none
 d4l : W.subIn K (.ref A.b6i) (.type "object") = some true
 d4m : W.subIn K (.ref A.b6i) (.type "BaseException") = some true
 d4n : W.typeIn K (.ref A.b6i) = some (.type "type")
 d4o:W.isClsIn K A.b6i=true
 d4p:W.subIn K (.ref A.b6i) (.ref A.b6i)=some true
 c8q : W.findIn K (.ref A.a7r) "__getattribute__" = some (some (.builtin "BaseException.__getattribute__"))
 c8r : W.findIn K (.ref A.a7r) "__class__" = some (some (.builtin "object.__class__"))
 c8s : W.findIn K (.ref A.a7r) "__getattr__" = some none
 c8t : W.subIn K (.ref A.a7r) (.type "object") = some true
 c8u : W.subIn K (.ref A.a7r) (.type "BaseException") = some true
 c8v : W.typeIn K (.ref A.a7r) = some (.type "type")
 c8w:W.isClsIn K A.a7r=true
 c8y:W.subIn K (.ref A.a7r) (.ref A.a7r)=some true
 b9y:W.subIn K (.ref A.a1i) (.ref A.a3g)=some true
 d4q:W.subIn K (.ref A.a1i) (.ref A.a3g)=some true
 c3w:W.subIn K (.ref A.a1i) (.ref A.a4z)=some false
 c9y:W.subIn K (.ref A.a1i) (.ref A.a7s)=some false
 c5r:W.subIn K (.ref A.a1i) (.ref A.a5u)=some false
 c5s:W.subIn K (.ref A.a1i) (.ref A.a5t)=some false
 b9z:W.subIn K (.ref A.a1i) (.ref A.a3k)=some false
 c5t:W.subIn K (.ref A.a1i) (.ref A.a0w)=some false
 c9z:W.subIn K (.ref A.a1i) (.ref A.a7t)=some false
 c5u:W.subIn K (.ref A.a1i) (.ref A.a1i)=some true
 d0g:W.subIn K (.ref A.a1i) (.ref A.a1i)=some true
 d2w:W.subIn K (.ref A.a1i) (.ref A.b6i)=some false
 d0h:W.subIn K (.ref A.a1i) (.ref A.a7r)=some false
 b6l : W.subIn K (.ref A.a1i) (.type "ValueError") = some true
 c0g:W.subIn K (.ref A.a0w) (.ref A.a3g)=some true
 c3y:W.subIn K (.ref A.a0w) (.ref A.a3g)=some true
 c3z:W.subIn K (.ref A.a0w) (.ref A.a4z)=some false
 d0i:W.subIn K (.ref A.a0w) (.ref A.a7s)=some false
 c5v:W.subIn K (.ref A.a0w) (.ref A.a5u)=some false
 c5w:W.subIn K (.ref A.a0w) (.ref A.a5t)=some false
 c0h:W.subIn K (.ref A.a0w) (.ref A.a3k)=some false
 c5y:W.subIn K (.ref A.a0w) (.ref A.a0w)=some true
 d8v:W.subIn K (.ref A.a0w) (.ref A.a0w)=some true
 d0j:W.subIn K (.ref A.a0w) (.ref A.a7t)=some false
 c5z:W.subIn K (.ref A.a0w) (.ref A.a1i)=some false
 d2y:W.subIn K (.ref A.a0w) (.ref A.b6i)=some false
 d0k:W.subIn K (.ref A.a0w) (.ref A.a7r)=some false
 b6m : W.subIn K (.ref A.a0w) (.type "ValueError") = some true
 c6g : W.subIn K (.type "NoneType") (.ref A.a3g) = some false
 d0l : W.subIn K (.type "NoneType") (.ref A.a4z) = some false
 d6s : W.subIn K (.type "NoneType") (.ref A.a7s) = some false
 d2z : W.subIn K (.type "NoneType") (.ref A.a5u) = some false
 d3g : W.subIn K (.type "NoneType") (.ref A.a5t) = some false
 c6h : W.subIn K (.type "NoneType") (.ref A.a3k) = some false
 d3h : W.subIn K (.type "NoneType") (.ref A.a0w) = some false
 d6t : W.subIn K (.type "NoneType") (.ref A.a7t) = some false
 d3i : W.subIn K (.type "NoneType") (.ref A.a1i) = some false
 d8w : W.subIn K (.type "NoneType") (.ref A.b6i) = some false
 d6u : W.subIn K (.type "NoneType") (.ref A.a7r) = some false
 f8j : W.nsIn K mainGlobals "FIGURES" = some (some A.d3u)
 f8k : RelV (.str "0123456789") A.d3u
 b1v : W.nsIn K mainGlobals "MOST_FIGURES_wholes" = some (some A.a5n)
 a7o:RelV (.int 13) A.a5n
 b1w : W.nsIn K mainGlobals "MOST_FIGURES_ratios" = some (some A.a5o)
 a7p:RelV (.int 9) A.a5o
 d8y : W.nsIn K mainGlobals "MOST_GAIN" = some (some A.c2q)
 b8z:RelV (.int 1000) A.c2q
 d8z : W.nsIn K mainGlobals "MOST_MANY" = some (some A.c2r)
 b9g:RelV (.int 1000) A.c2r
 d6v : W.nsIn K mainGlobals "MOST_TURNS" = some (some A.b8o)
 c7j:RelV (.int 16) A.b8o
 f8l : W.nsIn K mainGlobals "MOST_AT" = some (some A.d3v)
 f0w:RelV (.int 100000) A.d3v
 d0m : W.nsIn K mainGlobals "MOST_CORNERS" = some (some A.b1q)
 c0i:RelV (.int 12) A.b1q
 d6w : W.nsIn K mainGlobals "MOST_PARTS" = some (some A.b8p)
 c7k:RelV (.int 8) A.b8p
 f8m : W.nsIn K mainGlobals "READERS" = some (some (.ref A.a2s))
 a9j : W.nsIn K A.a2s "gain" = some (some (.ref A.b9p))
 a7y : W.nsIn K A.a2s "delay" = some (some (.ref A.b4p))
 a9k : W.nsIn K A.a2s "echo" = some (some (.ref A.b9q))
 a9l : W.nsIn K A.a2s "back" = some (some (.ref A.b9r))
 a7z : W.nsIn K A.a2s "swell" = some (some (.ref A.b4q))
 a9m : W.nsIn K A.a2s "hall" = some (some (.ref A.b9s))
 f8n : i4z K A.a2s = some (["gain", "delay", "echo", "back", "swell", "hall"] : List Str)
structure Tx(K:W.Frag)(mg:Str->Option Value)(A:Ad):Prop extends Ty K A where
 g7e : Binds K A.c0v ["value"] []
 g7f : mg "is_whole" = some (.ref A.c0u)
 d1u : Binds K A.b3l ["text"] []
 d1v : mg "is_figures" = some (.ref A.b2n)
 g7g : Binds K A.b6u ["text"] []
 g7h : mg "whole_of" = some (.ref A.b7k)
 h3r : Binds K A.c0w ["one", "other"] []
 h3s : mg "divisor" = some (.ref A.c5h)
 i1l : Binds K A.c0z ["one", "other"] []
 i1m : mg "multiple" = some (.ref A.c0y)
 c8z : Binds K A.c1h ["top", "bottom"] []
 c9g : mg "fraction" = some (.ref A.c1g)
 j1p : Binds K A.f7l ["one", "other"] []
 j1q : mg "plus" = some (.ref A.g2y)
 h6p : Binds K A.f0v ["one", "other"] []
 h6q : mg "times" = some (.ref A.f2k)
 d9g : Binds K A.c7q ["one"] []
 d9h : mg "size_of" = some (.ref A.c9k)
 f8o : Binds K A.c1j ["one", "other"] []
 f8p : mg "is_under" = some (.ref A.c1i)
 a7k : Binds K A.a6p ["one"] []
 a7l : mg "fraction_text" = some (.ref A.a5z)
 d9i : Binds K A.a6q ["text"] []
 d9j : mg "read_fraction" = some (.ref A.a6g)
 g0k : Binds K A.b3m ["self"] []
 c5m : Binds K A.b3n ["self"] []
 g0l : Binds K A.b3o ["self"] []
 g9k : Binds K A.b0q ["self"] []
 a1o : Binds K A.b3p ["self", "n"] []
 g3o : Binds K A.b7l ["self", "gain"] []
 h3t : Binds K A.b3q ["self"] []
 g9l : Binds K A.b0r ["self"] []
 g3p : Binds K A.b7n ["self"] []
 g0m : Binds K A.b3s ["self", "many"] []
 g9m : Binds K A.b0s ["self"] []
 g0n : Binds K A.b3u ["self"] []
 g3q : Binds K A.b7q ["number", "most"] []
 g3r : mg "powers_of" = some (.ref A.b6v)
 g3s : Binds K A.b7r ["self", "gain", "many", "turns"] []
 h3u : Binds K A.b3v ["self"] []
 h3v : Binds K A.b3w ["self"] []
 g9n : Binds K A.b0t ["self"] []
 g3t : Binds K A.b7u ["self"] []
 g3u : Binds K A.b7v ["self", "gain", "many"] []
 h3w : Binds K A.b3z ["self"] []
 h3x : Binds K A.b4g ["self"] []
 g9o : Binds K A.b0u ["self"] []
 g3v : Binds K A.b7z ["self"] []
 g3w : Binds K A.b8g ["self", "gain", "many"] []
 h3y : Binds K A.b4i ["self"] []
 g9p : Binds K A.b0v ["self"] []
 g3x : Binds K A.b8i ["self"] []
 g3y : Binds K A.a7w ["bottoms"] []
 g3z : mg "shared_bottom" = some (.ref A.a7h)
 h6r : Binds K A.b8j ["corners"] []
 h6s : mg "slopes_of" = some (.ref A.b6w)
 j1r : Binds K A.f7m ["one", "bottom"] []
 j1s : mg "over" = some (.ref A.g2z)
 g9q : Binds K A.b0w ["corner"] []
 g9r : mg "corner_word" = some (.ref A.a9y)
 g0o : Binds K A.b4k ["self", "corners"] []
 g9s : Binds K A.b0y ["self"] []
 g9t : Binds K A.b0z ["self"] []
 g5o : Binds K A.a9h ["self"] []
 b5y : Binds K A.b1h ["self", "n"] []
 g0p : Binds K A.b4o ["self"] []
 a8u : Binds K A.b2p ["text"] []
 a8v : mg "read_gain" = some (.ref A.b2o)
 a8p : Binds K A.a8r ["text", "least", "most"] []
 a8q : mg "read_number" = some (.ref A.a8h)
 c4g : Binds K A.b2r ["text"] []
 c4h : mg "read_many" = some (.ref A.b2q)
 a5i : Binds K A.a8s ["values", "count"] []
 a5j : mg "check_count" = some (.ref A.a8i)
 h3z : Binds K A.c1s ["values"] []
 j9j : mg "gain_of" = some (.ref A.b9p)
 g7i : Binds K A.b6y ["values"] []
 j5y : mg "delay_of" = some (.ref A.b4p)
 h4a : Binds K A.c1t ["values"] []
 j9k : mg "echo_of" = some (.ref A.b9q)
 h4b : Binds K A.c1u ["values"] []
 j9l : mg "back_of" = some (.ref A.b9r)
 h4d : Binds K A.c1v ["values"] []
 j9m : mg "hall_of" = some (.ref A.b9s)
 f5p : Binds K A.a8t ["text"] []
 f5q : mg "read_corner" = some (.ref A.a8j)
 g7j : Binds K A.b6z ["values"] []
 j5z : mg "swell_of" = some (.ref A.b4q)
 h4e : Binds K A.c1w ["word"] []
 h4f : mg "part_of" = some (.ref A.c5i)
 g7k : Binds K A.b7g ["words"] []
 g7l : mg "parts_of" = some (.ref A.b8m)
 d9k : Binds K A.a9z ["self", "words"] []
 f5r : Binds K A.b1i ["self"] []
 g5p : Binds K A.a9i ["self"] []
 g9u : Binds K A.b1k ["self"] []
 d6y : Binds K A.b1l ["self"] []
 f5s : Binds K A.b1m ["self", "n"] []
 d6z : Binds K A.b8n ["_law_found"] []
 d7g : mg "_law_whole" = some (.ref A.b7h)
 f5t : Binds K A.b1n ["_law_one", "_law_other"] []
 f5u : mg "_law_divisor" = some (.ref A.b0g)
 d9l : Binds K A.b4v ["_law_top", "_law_bottom"] []
 d9m : mg "_law_lowest" = some (.ref A.b2t)
 d4r : Binds K A.c1z ["_law_mixed"] []
 d4s : mg "_law_gain" = some (.ref A.c1y)
 h4g : Binds K A.b4w ["_law_mixed"] []
 h4h : mg "_law_weaker" = some (.ref A.b2u)
 g9v : Binds K A.b1o ["_law_mixed"] []
 g9w : mg "_law_corners" = some (.ref A.b0h)
 i1n : Binds K A.c2h ["_law_cell"] []
 i1o : mg "_law_part" = some (.ref A.c2g)
 f8q : Binds K A.c2j ["_law_part_here", "_law_n"] []
 f8r : mg "_law_word" = some (.ref A.c2i)
 h4i : Binds K A.b4y ["_law_part_here"] []
 h4j : mg "_law_weight" = some (.ref A.b2v)
 g7m : Binds K A.c2l ["_law_chain", "_law_parts"] []
 g7n : mg "_law_told" = some (.ref A.c2k)
 i1p : Binds K A.c2n ["_law_words", "_law_cell"] []
 i1q : mg "_law_none" = some (.ref A.c2m)
 g9x : Binds K A.b1p ["_law_words"] []
 g9y : mg "_law_refused" = some (.ref A.b0i)
 i1r : Binds K A.c2p ["_law_parts", "_law_n"] []
 i1s : mg "_law_good" = some (.ref A.c2o)
 b_law : Binds K A.g0j ["_law_script"] []
 m_law : mg "law" = some (.ref A.h3q)
 h4k : mg "ValueError" = none
 d9n : mg "abs" = none
 j1t : mg "bool" = none
 g4a : mg "int" = none
 a2m : mg "isinstance" = none
 d9o : mg "len" = none
 h4l : mg "list" = none
 j9n : mg "max" = none
 g4b : mg "range" = none
 g0z : mg "str" = none
 j9o : mg "sum" = none
 g9z : mg "tuple" = none
 i9n : mg "zip" = none
 h6t : mg "MixError" = some (.ref A.a3g)
 h6u : mg "NoNumber" = some (.ref A.a3k)
 d0n : mg "NoText" = some (.ref A.a1i)
 a9n : mg "NoPart" = some (.ref A.a0w)
 i5h : mg "NoName" = some (.ref A.a5t)
 i9o : mg "Twice" = some (.ref A.a7r)
 i9p : mg "NoBus" = some (.ref A.a7s)
 j4h : mg "Ring" = some (.ref A.b6i)
 i1t : mg "NoBlock" = some (.ref A.a4z)
 i9q : mg "NoRow" = some (.ref A.a7t)
 i5i : mg "NoDeed" = some (.ref A.a5u)
 k3v : mg "Part" = some (.ref A.d8o)
 i5j : mg "Gain" = some (.ref A.b2w)
 h9g : mg "Delay" = some (.ref A.a6t)
 i5k : mg "Echo" = some (.ref A.a8k)
 i5l : mg "Back" = some (.ref A.a9s)
 i5m : mg "Hall" = some (.ref A.b0o)
 h9h : mg "Swell" = some (.ref A.a6j)
 h0a : mg "Chain" = some (.ref A.b2y)
 f5v:Exc K A.a1i
 b6t:Exc K A.a0w
 i1u:f6r K A.a3g
 j9p:f6r K A.a4z
 k3w:f6r K A.a7s
 k1u:f6r K A.a5u
 k1v:f6r K A.a5t
 j6a:f6r K A.a3k
 c0j:f6r K A.a0w
 k3x:f6r K A.a7t
 i9r:f6r K A.a1i
 k5z:f6r K A.b6i
 k3y:f6r K A.a7r
 i1v:W.kitOne K (.ref A.a1i) (.ref A.a3g)=some true
 i2y:W.kitOne K (.ref A.a1i) (.ref A.a4z)=some false
 i7m:W.kitOne K (.ref A.a1i) (.ref A.a7s)=some false
 i5n:W.kitOne K (.ref A.a1i) (.ref A.a5u)=some false
 i5o:W.kitOne K (.ref A.a1i) (.ref A.a5t)=some false
 i1w:W.kitOne K (.ref A.a1i) (.ref A.a3k)=some false
 i5p:W.kitOne K (.ref A.a1i) (.ref A.a0w)=some false
 i7n:W.kitOne K (.ref A.a1i) (.ref A.a7t)=some false
 i5q:W.kitOne K (.ref A.a1i) (.ref A.a1i)=some true
 i9s:W.kitOne K (.ref A.a1i) (.ref A.b6i)=some false
 i7o:W.kitOne K (.ref A.a1i) (.ref A.a7r)=some false
 h6v : W.kitOne K (.ref A.a1i) (.type "ValueError") = some true
 i1x:W.kitOne K (.ref A.a0w) (.ref A.a3g)=some true
 g1a:W.kitOne K (.ref A.a0w) (.ref A.a4z)=some false
 g5q:W.kitOne K (.ref A.a0w) (.ref A.a7s)=some false
 g4c:W.kitOne K (.ref A.a0w) (.ref A.a5u)=some false
 g4d:W.kitOne K (.ref A.a0w) (.ref A.a5t)=some false
 f8s:W.kitOne K (.ref A.a0w) (.ref A.a3k)=some false
 g4e:W.kitOne K (.ref A.a0w) (.ref A.a0w)=some true
 g5r:W.kitOne K (.ref A.a0w) (.ref A.a7t)=some false
 g4f:W.kitOne K (.ref A.a0w) (.ref A.a1i)=some false
 h0b:W.kitOne K (.ref A.a0w) (.ref A.b6i)=some false
 g5s:W.kitOne K (.ref A.a0w) (.ref A.a7r)=some false
 f2t : W.kitOne K (.ref A.a0w) (.type "ValueError") = some true
 i5r : W.kitOne K (.type "NoneType") (.ref A.a3g) = some false
 i7p : W.kitOne K (.type "NoneType") (.ref A.a4z) = some false
 j1u : W.kitOne K (.type "NoneType") (.ref A.a7s) = some false
 i9t : W.kitOne K (.type "NoneType") (.ref A.a5u) = some false
 i9u : W.kitOne K (.type "NoneType") (.ref A.a5t) = some false
 i5s : W.kitOne K (.type "NoneType") (.ref A.a3k) = some false
 i9v : W.kitOne K (.type "NoneType") (.ref A.a0w) = some false
 j1v : W.kitOne K (.type "NoneType") (.ref A.a7t) = some false
 i9w : W.kitOne K (.type "NoneType") (.ref A.a1i) = some false
 j4i : W.kitOne K (.type "NoneType") (.ref A.b6i) = some false
 j1w : W.kitOne K (.type "NoneType") (.ref A.a7r) = some false
 i1y : W.kitOne K (.type "NoneType") (.type "ValueError") = some false
 i2a : mg "FIGURES" = some A.d3u
 c0r : mg "MOST_FIGURES_wholes" = some A.a5n
 c0s : mg "MOST_FIGURES_ratios" = some A.a5o
 d1w : mg "MOST_GAIN" = some A.c2q
 d1y : mg "MOST_MANY" = some A.c2r
 f5w : mg "MOST_TURNS" = some A.b8o
 g7o : mg "MOST_AT" = some A.d3v
 d9p : mg "MOST_CORNERS" = some A.b1q
 f5y : mg "MOST_PARTS" = some A.b8p
 a6n : mg "READERS" = some (.ref A.a2s)
 g7p:k1r K A.wd A.a2s
theorem nq0 : (("__init__" : Str) == ("gain" : Str)) = false := by decide +kernel
theorem nq1 : (("grain" : Str) == ("gain" : Str)) = false := by decide +kernel
theorem nq2 : (("weight" : Str) == ("gain" : Str)) = false := by decide +kernel
theorem nq3 : (("word" : Str) == ("gain" : Str)) = false := by decide +kernel
theorem nq4 : (("fresh" : Str) == ("gain" : Str)) = false := by decide +kernel
theorem nq5 : (("reach" : Str) == ("gain" : Str)) = false := by decide +kernel
theorem nq6 : (("later" : Str) == ("gain" : Str)) = false := by decide +kernel
theorem nq7 : (("__init__" : Str) == ("many" : Str)) = false := by decide +kernel
theorem nq8 : (("reach" : Str) == ("many" : Str)) = false := by decide +kernel
theorem nq9 : (("word" : Str) == ("many" : Str)) = false := by decide +kernel
theorem nq10 : (("grain" : Str) == ("many" : Str)) = false := by decide +kernel
theorem nq11 : (("fresh" : Str) == ("many" : Str)) = false := by decide +kernel
theorem nq12 : (("weight" : Str) == ("many" : Str)) = false := by decide +kernel
theorem nq13 : (("later" : Str) == ("many" : Str)) = false := by decide +kernel
theorem nq14 : (("gain" : Str) == ("many" : Str)) = false := by decide +kernel
theorem nq15 : (("gain" : Str) == ("turns" : Str)) = false := by decide +kernel
theorem nq16 : (("gain" : Str) == ("factors" : Str)) = false := by decide +kernel
theorem nq17 : (("gain" : Str) == ("factor_bottom" : Str)) = false := by decide +kernel
theorem nq18 : (("many" : Str) == ("gain" : Str)) = false := by decide +kernel
theorem nq19 : (("many" : Str) == ("turns" : Str)) = false := by decide +kernel
theorem nq20 : (("many" : Str) == ("factors" : Str)) = false := by decide +kernel
theorem nq21 : (("many" : Str) == ("factor_bottom" : Str)) = false := by decide +kernel
theorem nq22 : (("turns" : Str) == ("gain" : Str)) = false := by decide +kernel
theorem nq23 : (("turns" : Str) == ("many" : Str)) = false := by decide +kernel
theorem nq24 : (("turns" : Str) == ("factors" : Str)) = false := by decide +kernel
theorem nq25 : (("turns" : Str) == ("factor_bottom" : Str)) = false := by decide +kernel
theorem nq26 : (("factors" : Str) == ("gain" : Str)) = false := by decide +kernel
theorem nq27 : (("factors" : Str) == ("many" : Str)) = false := by decide +kernel
theorem nq28 : (("factors" : Str) == ("turns" : Str)) = false := by decide +kernel
theorem nq29 : (("factors" : Str) == ("factor_bottom" : Str)) = false := by decide +kernel
theorem nq30 : (("factor_bottom" : Str) == ("gain" : Str)) = false := by decide +kernel
theorem nq31 : (("factor_bottom" : Str) == ("many" : Str)) = false := by decide +kernel
theorem nq32 : (("factor_bottom" : Str) == ("turns" : Str)) = false := by decide +kernel
theorem nq33 : (("factor_bottom" : Str) == ("factors" : Str)) = false := by decide +kernel
theorem nq34 : (("__init__" : Str) == ("turns" : Str)) = false := by decide +kernel
theorem nq35 : (("__init__" : Str) == ("factors" : Str)) = false := by decide +kernel
theorem nq36 : (("__init__" : Str) == ("factor_bottom" : Str)) = false := by decide +kernel
theorem nq37 : (("grain" : Str) == ("turns" : Str)) = false := by decide +kernel
theorem nq38 : (("grain" : Str) == ("factors" : Str)) = false := by decide +kernel
theorem nq39 : (("grain" : Str) == ("factor_bottom" : Str)) = false := by decide +kernel
theorem nq40 : (("reach" : Str) == ("turns" : Str)) = false := by decide +kernel
theorem nq41 : (("reach" : Str) == ("factors" : Str)) = false := by decide +kernel
theorem nq42 : (("reach" : Str) == ("factor_bottom" : Str)) = false := by decide +kernel
theorem nq43 : (("weight" : Str) == ("turns" : Str)) = false := by decide +kernel
theorem nq44 : (("weight" : Str) == ("factors" : Str)) = false := by decide +kernel
theorem nq45 : (("weight" : Str) == ("factor_bottom" : Str)) = false := by decide +kernel
theorem nq46 : (("word" : Str) == ("turns" : Str)) = false := by decide +kernel
theorem nq47 : (("word" : Str) == ("factors" : Str)) = false := by decide +kernel
theorem nq48 : (("word" : Str) == ("factor_bottom" : Str)) = false := by decide +kernel
theorem nq49 : (("fresh" : Str) == ("turns" : Str)) = false := by decide +kernel
theorem nq50 : (("fresh" : Str) == ("factors" : Str)) = false := by decide +kernel
theorem nq51 : (("fresh" : Str) == ("factor_bottom" : Str)) = false := by decide +kernel
theorem nq52 : (("later" : Str) == ("turns" : Str)) = false := by decide +kernel
theorem nq53 : (("later" : Str) == ("factors" : Str)) = false := by decide +kernel
theorem nq54 : (("later" : Str) == ("factor_bottom" : Str)) = false := by decide +kernel
theorem nq55 : (("corners" : Str) == ("shared" : Str)) = false := by decide +kernel
theorem nq56 : (("corners" : Str) == ("lines" : Str)) = false := by decide +kernel
theorem nq57 : (("shared" : Str) == ("corners" : Str)) = false := by decide +kernel
theorem nq58 : (("shared" : Str) == ("lines" : Str)) = false := by decide +kernel
theorem nq59 : (("lines" : Str) == ("corners" : Str)) = false := by decide +kernel
theorem nq60 : (("lines" : Str) == ("shared" : Str)) = false := by decide +kernel
theorem nq61 : (("__init__" : Str) == ("corners" : Str)) = false := by decide +kernel
theorem nq62 : (("__init__" : Str) == ("shared" : Str)) = false := by decide +kernel
theorem nq63 : (("__init__" : Str) == ("lines" : Str)) = false := by decide +kernel
theorem nq64 : (("grain" : Str) == ("corners" : Str)) = false := by decide +kernel
theorem nq65 : (("grain" : Str) == ("shared" : Str)) = false := by decide +kernel
theorem nq66 : (("grain" : Str) == ("lines" : Str)) = false := by decide +kernel
theorem nq67 : (("fresh" : Str) == ("corners" : Str)) = false := by decide +kernel
theorem nq68 : (("fresh" : Str) == ("shared" : Str)) = false := by decide +kernel
theorem nq69 : (("fresh" : Str) == ("lines" : Str)) = false := by decide +kernel
theorem nq70 : (("weight" : Str) == ("corners" : Str)) = false := by decide +kernel
theorem nq71 : (("weight" : Str) == ("shared" : Str)) = false := by decide +kernel
theorem nq72 : (("weight" : Str) == ("lines" : Str)) = false := by decide +kernel
theorem nq73 : (("later" : Str) == ("corners" : Str)) = false := by decide +kernel
theorem nq74 : (("later" : Str) == ("shared" : Str)) = false := by decide +kernel
theorem nq75 : (("later" : Str) == ("lines" : Str)) = false := by decide +kernel
theorem nq76 : (("word" : Str) == ("corners" : Str)) = false := by decide +kernel
theorem nq77 : (("word" : Str) == ("shared" : Str)) = false := by decide +kernel
theorem nq78 : (("word" : Str) == ("lines" : Str)) = false := by decide +kernel
theorem nq79 : (("reach" : Str) == ("corners" : Str)) = false := by decide +kernel
theorem nq80 : (("reach" : Str) == ("shared" : Str)) = false := by decide +kernel
theorem nq81 : (("reach" : Str) == ("lines" : Str)) = false := by decide +kernel
theorem nq82 : (("parts" : Str) == ("states" : Str)) = false := by decide +kernel
theorem nq83 : (("states" : Str) == ("parts" : Str)) = false := by decide +kernel
theorem nq84 : (("__init__" : Str) == ("parts" : Str)) = false := by decide +kernel
theorem nq85 : (("__init__" : Str) == ("states" : Str)) = false := by decide +kernel
theorem nq86 : (("grain" : Str) == ("parts" : Str)) = false := by decide +kernel
theorem nq87 : (("grain" : Str) == ("states" : Str)) = false := by decide +kernel
theorem nq88 : (("weight" : Str) == ("parts" : Str)) = false := by decide +kernel
theorem nq89 : (("weight" : Str) == ("states" : Str)) = false := by decide +kernel
theorem nq90 : (("reach" : Str) == ("parts" : Str)) = false := by decide +kernel
theorem nq91 : (("reach" : Str) == ("states" : Str)) = false := by decide +kernel
theorem nq92 : (("words" : Str) == ("parts" : Str)) = false := by decide +kernel
theorem nq93 : (("words" : Str) == ("states" : Str)) = false := by decide +kernel
theorem nq94 : (("later" : Str) == ("parts" : Str)) = false := by decide +kernel
theorem nq95 : (("later" : Str) == ("states" : Str)) = false := by decide +kernel
seal PE PT PA PS PSs PI PO PW PG PGs PEX PSX
local macro_rules | `(tactic| walk_at "bits") => `(tactic| first | with_reducible assumption | exact intBits_le_64 (by omega) (by omega) | exact (intBits_le_iff (m := 250)).mpr (by decide) | ((with_reducible apply intBits_mul_le) <;> walk_at "bits") | ((with_reducible apply intBits_add_le) <;> walk_at "bits") | ((with_reducible apply intBits_sub_le) <;> walk_at "bits") | ((with_reducible apply intBits_neg_le) <;> walk_at "bits") | ((with_reducible apply intBits_natAbs_le) <;> walk_at "bits") | ((with_reducible apply intBits_fdiv_le) <;> walk_at "bits") | ((with_reducible apply intBits_fmod_le) <;> walk_at "bits"))
local macro_rules | `(tactic| walk_at "mul") => `(tactic| first | exact IntMulOk.of_right (intBits_le_64 (by omega) (by omega)) | exact IntMulOk.of_left (intBits_le_64 (by omega) (by omega)) | ((with_reducible apply IntMulOk.of_le) <;> first | walk_at "bits" | decide))
local macro_rules | `(tactic| walk_at "le") => `(tactic| ((with_reducible apply Nat.le_trans) <;> first | walk_at "bits" | decide))
variable {P:Program}{w:World}{K:PySem.W.Frag}{mg:Str->Option Value}{base:Heap}{A:Ad}
def h6w:Sp:=fun vs H Q _=>match vs with | [.int a,.int b]=>Q (.int (Int.gcd a b)) H | _=>False
def j4j:Sp:=fun vs H Q _=>match vs with | [.int a,.int b]=>intBits a<=4000/\intBits b<=4000/\Q (.int (Int.lcm a b)) H | _=>False
def j4k:Sp:=fun vs H Q _=>match vs with | [.int _]=>Q (.bl true) H | _=>False
def i5t:Sp:=fun vs H Q _=>match vs with
 | [.int t,.int b]=>b≠0/\intBits t<=4000/\intBits b<=4000/\All (c9i H (a9v (Rat.divInt t b))) Q ⟨⟩ ⟨⟩
 | _=>False
def j4l:Sp:=fun vs H Q _=>match vs with | [.str x]=>Q (.bl (h2v (sg x))) H | _=>False
def h6x:Sp:=fun vs H Q _=>match vs with | [.ref p]=>∃ t b:Int,H p=some (.tup [.int t,.int b])/\t.natAbs.log2 < 1920/\b.natAbs.log2 < 1920/\(∀ y:Str,sg y=h8o t b->Q (.str y) H) | _=>False
def i5u:Sp:=fun vs H Q _=>match vs with | [.str x]=>∃ t b,Good (sg x) t b/\All (c9i H [.int t,.int b]) Q ⟨⟩ ⟨⟩ | _=>False
def j4m:Sp:=fun vs H Q _=>match vs with
 | [.str x]=>∃ n:Nat,sg x=txt (n:Int)/\n < 10 ^ 13/\Q (.int n) H
 | _=>False
def Two(H:Hp)(p q:Addr)(x y:Rat):Prop:=H p=some (.tup (a9v x))/\H q=some (.tup (a9v y))/\intBits x.num<=1900/\intBits (x.den:Int)<=1900/\intBits y.num<=1900/\intBits (y.den:Int)<=1900
def i5v:Sp:=fun vs H Q _=>match vs with
 | [.ref p,.ref q]=>∃ x y:Rat,Two H p q x y/\All (c9i H (a9v (x+y))) Q ⟨⟩ ⟨⟩
 | _=>False
def i5w:Sp:=fun vs H Q _=>match vs with
 | [.ref p,.ref q]=>∃ x y:Rat,Two H p q x y/\All (c9i H (a9v (x*y))) Q ⟨⟩ ⟨⟩
 | _=>False
def i5x:Sp:=fun vs H Q _=>match vs with
 | [.ref p]=>∃ x:Rat,H p=some (.tup (a9v x))/\All (c9i H (a9v (Rat.abs x))) Q ⟨⟩ ⟨⟩
 | _=>False
def h6y:Sp:=fun vs H Q _=>match vs with
 | [.ref p,.ref q]=>∃ x y:Rat,Two H p q x y/\Q (.bl (decide (x.num*(y.den:Int) < y.num*(x.den:Int)))) H
 | _=>False
def Rts(H:Hp)(qs:List Addr)(ss:List Rat):Prop:=qs.length=ss.length/\∀ (i:Nat) q s,qs[i]? = some q->ss[i]? = some s->H q=some (.tup (a9v s))
def h9i(l:Addr)(H:Hp)(qs:List Addr)(ss:List Rat):Prop:=qs.length=ss.length/\∀ (i:Nat) q s,qs[i]? = some q->ss[i]? = some s->q≠l/\H q=some (.tup (a9v s))
def Crn(H:Hp)(ps:List Addr)(cs:List (Int×Rat)):Prop:=ps.length=cs.length/\∀ (i:Nat) p c,ps[i]? = some p->cs[i]? = some c->∃ g,H p=some (.tup [.int c.1,.ref g])/\H g=some (.tup (a9v c.2))
def i9x(cs:List (Int×Rat)):Prop:=(∀ c∈cs,0<=c.1/\c.1<=200000/\intBits c.2.num<=10/\intBits (c.2.den:Int)<=10)/\∀ (i:Nat) c d,cs[i]? = some c->cs[i+1]? = some d->c.1 < d.1
noncomputable def i3a(bs:List Int):Int:=bs.foldl (fun o b=>(Int.lcm o b:Int)) 1
def h0c:Sp:=fun vs H Q _=>match vs with
 | [.ref p]=>∃ bs:List Int,H p=some (.lst (bs.map V.int))/\(∀ b∈bs,1<=b/\intBits b<=64)/\bs.length<=24/\Q (.int (i3a bs)) H
 | _=>False
def h6z:Sp:=fun vs H Q _=>match vs with
 | [.ref p,.int S]=>∃ y:Rat,H p=some (.tup (a9v y))/\intBits y.num<=2000/\intBits (y.den:Int)<=2000/\intBits S<=2000/\Q (.int (y.num*S.fdiv y.den)) H
 | _=>False
def SlR(cs:List (Int×Rat))(i:Nat)(s:Rat):Prop:=∀ c d,cs[i]? = some c->cs[i+1]? = some d->s*((d.1 - c.1:Int):Rat)=d.2 - c.2
def h0d:Sp:=fun vs H Q _=>match vs with
 | [.ref ct]=>∃ (ps:List Addr) (cs:List (Int×Rat)),H ct=some (.tup (ps.map V.ref))/\Crn H ps cs/\i9x cs/\1<=cs.length/\cs.length<=12 /\
   (∀ l H' qs ss,H l=none->Same H H'->H' l=some (.lst (List.map V.ref qs))->Rts H' qs ss->ss.length=cs.length->(∀ s∈ss,intBits s.num<=60/\intBits (s.den:Int)<=60)->(∀ j s,ss[j]? = some s->SlR cs j s)->ss[cs.length - 1]? = some 0->Q (.ref l) H')
 | _=>False
noncomputable def i5y(n:Int)(m:Nat):List Int:=(List.range (m+1)).map fun j=>n ^ j
def j4n:Sp:=fun vs H Q _=>match vs with
 | [.int n,.int t]=>∃ m:Nat,t=m/\m<=16/\intBits n<=10/\All (i4b H ((i5y n m).map V.int)) Q ⟨⟩ ⟨⟩
 | _=>False
noncomputable def j9q(p q:Int)(t j:Nat):Int:=p ^ j*q ^ (t - j)
noncomputable def g7q(p q:Int)(t:Nat):List Int:=(List.range (t+1)).map (j9q p q t)
noncomputable def ecF (gt fa : Addr) (n t : Nat) (q : Int) : List (Str × V) := [("gain", .ref gt), ("many", .int n), ("turns", .int t), ("factors", .ref fa), ("factor_bottom", .int (q ^ t))]
def IsE(C:Addr)(H:Hp)(o:Addr)(p q:Int)(n t:Nat):Prop:=∃ dx gt fa,H o=some (.ins C dx (ecF gt fa n t q))/\H gt=some (.tup [.int p,.int q])/\H fa=some (.tup ((g7q p q t).map V.int))
def h7a(C:Addr):Sp:=fun vs H Q _=>match vs with
 | [.ref o,.ref gt,.int n,.int t]=>∃ (dx:Addr) (m tt:Nat) (p q:Int),n=m/\t=tt/\tt<=16/\intBits p<=10/\intBits q<=10/\H gt=some (.tup [.int p,.int q])/\H o=some (.ins C dx []) /\
   (∀ (fa:Addr) (H1:Hp),b1u o H H1->H fa=none->H1 o=some (.ins C dx (ecF gt fa m tt q))->H1 fa=some (.tup ((g7q p q tt).map V.int))->Q .non H1)
 | _=>False
def Tps(H:Hp)(qs:List Addr)(vs:List (List V)):Prop:=qs.length=vs.length/\∀ (i:Nat) q v,qs[i]? = some q->vs[i]? = some v->H q=some (.tup v)
def h9j(l:Addr)(H:Hp)(qs:List Addr)(vs:List (List V)):Prop:=qs.length=vs.length/\∀ (i:Nat) q v,qs[i]? = some q->vs[i]? = some v->q≠l/\H q=some (.tup v)
noncomputable def lnOf(S:Int)(c:Int×Rat)(s:Rat):Int×Int×Int:=(c.1,c.2.num*S.fdiv c.2.den,s.num*S.fdiv s.den)
noncomputable def lnV(l:Int×Int×Int):List V:=[.int l.1,.int l.2.1,.int l.2.2]
def SwOk(cs:List (Int×Rat))(ss:List Rat)(S:Int):Prop:=ss.length=cs.length/\(∀ j s,ss[j]? = some s->SlR cs j s)/\ss[cs.length - 1]? = some 0/\1<=S/\intBits S<=1600/\(∀ c∈cs,(c.2.den:Int)∣S)/\(∀ s∈ss,(s.den:Int)∣S)/\(∀ s∈ss,intBits s.num<=60)/\intBits S<=1+128*cs.length/\S=i3a ((cs.map fun c=>(c.2.den:Int))++ss.map fun s=>(s.den:Int))
noncomputable def swF (ct ln : Addr) (S : Int) : List (Str × V) := [("corners", .ref ct), ("shared", .int S), ("lines", .ref ln)]
def h0e(C:Addr):Sp:=fun vs H Q _=>match vs with
 | [.ref o,.ref l]=>∃ (dx:Addr) (ps:List Addr) (cs:List (Int×Rat)),H o=some (.ins C dx [])/\H l=some (.lst (ps.map V.ref))/\Crn H ps cs/\i9x cs/\1<=cs.length/\cs.length<=12 /\
   (∀ ct ln S ss us H1,b1u o H H1->H ct=none->H1 o=some (.ins C dx (swF ct ln S))->H1 ct=some (.tup (ps.map V.ref))->H1 ln=some (.tup (us.map V.ref))->Tps H1 us ((List.zipWith (lnOf S) cs ss).map lnV)->SwOk cs ss S->Q .non H1)
 | _=>False
noncomputable def clsOf(A:Ad):Dt->Addr
 | .gain _=>A.b2w
 | .delay _=>A.a6t
 | .echo .. => A.a8k
 | .back .. => A.a9s
 | .hall .. => A.b0o
 | .swell _=>A.a6j
noncomputable def gnF (g : Addr) : List (Str × V) := [("gain", .ref g)]
noncomputable def dlF (n : Nat) : List (Str × V) := [("many", .int n)]
noncomputable def bkF (g : Addr) (n : Nat) : List (Str × V) := [("gain", .ref g), ("many", .int n)]
noncomputable def k1w(H:Hp)(fs:List (Str×V)):Dt->Prop
 | .gain y=>∃ g,fs=gnF g/\H g=some (.tup (a9v y))
 | .delay n=>fs=dlF n
 | .echo y n t=>∃ g fa,fs=ecF g fa n t (y.den:Int)/\H g=some (.tup (a9v y))/\H fa=some (.tup ((g7q y.num (y.den:Int) t).map V.int))
 | .back y n=>∃ g,fs=bkF g n/\H g=some (.tup (a9v y))
 | .hall y n=>∃ g,fs=bkF g n/\H g=some (.tup (a9v y))
 | .swell cs=>∃ ct ln S ss us ps,fs=swF ct ln S/\H ct=some (.tup (List.map V.ref ps))/\H ln=some (.tup (List.map V.ref us))/\Tps H us ((List.zipWith (lnOf S) cs ss).map lnV)/\SwOk cs ss S/\Crn H ps cs
def IsP(A:Ad)(H:Hp)(o:Addr)(d:Dt):Prop:=∃ dx fs,H o=some (.ins (clsOf A d) dx fs)/\k1w H fs d
noncomputable def f1p(cs:List (Int×Rat)):Rat:=cs.foldl (fun m c=>if m.num*((Rat.abs c.2).den:Int) < (Rat.abs c.2).num*(m.den:Int) then Rat.abs c.2 else m) 0
def i5z(C:Addr)(H:Hp)(o:Addr)(v:V)(x:Rat):Prop:=∃ (dx ct ln:Addr) (S:Int) (ps:List Addr) (cs:List (Int×Rat)),H o=some (.ins C dx (swF ct ln S))/\H ct=some (.tup (ps.map V.ref))/\Crn H ps cs/\i9x cs/\v = .int 0/\x=f1p cs
def f0y(C:Addr):Sp:=fun vs H Q _=>match vs with
 | [.ref o]=>∃ v x,i5z C H o v x/\All (c9i H (a9v x)) Q ⟨⟩ ⟨⟩
 | _=>False
def j1x (C : Addr) (H : Hp) (o : Addr) (v : V) (x : Rat) : Prop := ∃ (dx gt : Addr) (y : Rat), H o = some (.ins C dx [("gain", .ref gt)]) ∧ H gt = some (.tup (a9v y)) ∧ v = .int 0 ∧ x = Rat.abs y
def i6a (C : Addr) (H : Hp) (o : Addr) (v : V) (x : Rat) : Prop := ∃ (dx : Addr) (n : Int), H o = some (.ins C dx [("many", .int n)]) ∧ v = .int n ∧ x = 1
def j1y(C:Addr)(H:Hp)(o:Addr)(v:V)(x:Rat):Prop:=∃ (p q:Int) (n t:Nat),IsE C H o p q n t/\n<=1000/\t<=16/\1<=q/\intBits p<=10/\intBits q<=10/\v = .int ((n*t:Nat):Int)/\x=Rat.divInt ((g7q p q t).map fun f=>(f.natAbs:Int)).sum (q ^ t)
def j1z (C : Addr) (H : Hp) (o : Addr) (v : V) (x : Rat) : Prop := ∃ (dx gt : Addr) (n : Int) (y : Rat), H o = some (.ins C dx [("gain", .ref gt), ("many", .int n)]) ∧ H gt = some (.tup (a9v y)) ∧ intBits y.num ≤ 10 ∧ intBits (y.den : Int) ≤ 10 ∧ v = .int n ∧ x = 1 + Rat.abs y
def j2a (C : Addr) (H : Hp) (o : Addr) (v : V) (x : Rat) : Prop := ∃ (dx gt : Addr) (n : Int) (y : Rat), H o = some (.ins C dx [("gain", .ref gt), ("many", .int n)]) ∧ H gt = some (.tup (a9v y)) ∧ intBits y.num ≤ 10 ∧ intBits (y.den : Int) ≤ 10 ∧ (y.num.natAbs : Int) < y.den ∧ v = .non ∧ x = Rat.divInt y.den (y.den - (y.num.natAbs : Int))
def h7b(C:Addr):Sp:=fun vs H Q _=>match vs with
 | [.ref o, .ref gt] => ∃ dx, H o = some (.ins C dx []) ∧ (∀ H1, b1u o H H1 → H1 o = some (.ins C dx [("gain", .ref gt)]) → Q .non H1)
 | _=>False
def h0f(C:Addr):Sp:=fun vs H Q _=>match vs with
 | [.ref o, .int n] => ∃ dx, H o = some (.ins C dx []) ∧ (∀ H1, b1u o H H1 → H1 o = some (.ins C dx [("many", .int n)]) → Q .non H1)
 | _=>False
def h7c(C:Addr):Sp:=fun vs H Q _=>match vs with
 | [.ref o, .ref gt, .int n] => ∃ dx, H o = some (.ins C dx []) ∧ (∀ H1, b1u o H H1 → H1 o = some (.ins C dx [("gain", .ref gt), ("many", .int n)]) → Q .non H1)
 | _=>False
def h7d(C:Addr):Sp:=fun vs H Q _=>match vs with
 | [.ref o, .ref gt, .int n] => ∃ dx, H o = some (.ins C dx []) ∧ (∀ H1, b1u o H H1 → H1 o = some (.ins C dx [("gain", .ref gt), ("many", .int n)]) → Q .non H1)
 | _=>False
def j9r(C:Addr):Sp:=fun vs H Q _=>match vs with
 | [.ref o]=>∃ v x,j1x C H o v x/\Q v H
 | _=>False
def f5z(C:Addr):Sp:=fun vs H Q _=>match vs with
 | [.ref o]=>∃ v x,j1x C H o v x/\All (c9i H (a9v x)) Q ⟨⟩ ⟨⟩
 | _=>False
def f0z(C:Addr):Sp:=fun vs H Q _=>match vs with
 | [.ref o]=>∃ v x,i6a C H o v x/\Q v H
 | _=>False
def f1g(C:Addr):Sp:=fun vs H Q _=>match vs with
 | [.ref o]=>∃ v x,i6a C H o v x/\All (c9i H (a9v x)) Q ⟨⟩ ⟨⟩
 | _=>False
def f6g(C:Addr):Sp:=fun vs H Q _=>match vs with
 | [.ref o]=>∃ v x,j1y C H o v x/\Q v H
 | _=>False
def f6h(C:Addr):Sp:=fun vs H Q _=>match vs with
 | [.ref o]=>∃ v x,j1y C H o v x/\All (c9i H (a9v x)) Q ⟨⟩ ⟨⟩
 | _=>False
def f6i(C:Addr):Sp:=fun vs H Q _=>match vs with
 | [.ref o]=>∃ v x,j1z C H o v x/\Q v H
 | _=>False
def f6j(C:Addr):Sp:=fun vs H Q _=>match vs with
 | [.ref o]=>∃ v x,j1z C H o v x/\All (c9i H (a9v x)) Q ⟨⟩ ⟨⟩
 | _=>False
def f6k(C:Addr):Sp:=fun vs H Q _=>match vs with
 | [.ref o]=>∃ v x,j2a C H o v x/\Q v H
 | _=>False
def f6l(C:Addr):Sp:=fun vs H Q _=>match vs with
 | [.ref o]=>∃ v x,j2a C H o v x/\All (c9i H (a9v x)) Q ⟨⟩ ⟨⟩
 | _=>False
def j6b(C:Addr):Sp:=fun vs H Q _=>match vs with
 | [.ref o]=>∃ v x,i5z C H o v x/\Q v H
 | _=>False
def k3z:Sp:=fun vs H Q _=>match vs with
 | [.ref p]=>∃ x:Rat,H p=some (.tup (a9v x))/\intBits x.num<=10/\intBits (x.den:Int)<=10/\Q (.str (fW x)) H
 | _=>False
def k4a:Sp:=fun vs H Q _=>match vs with
 | [.ref p]=>∃ (c:Int×Rat) (g:Addr),H p=some (.tup [.int c.1,.ref g])/\H g=some (.tup (a9v c.2))/\c.1.natAbs < 2 ^ 20/\intBits c.2.num<=10/\intBits (c.2.den:Int)<=10/\Q (.str (cW c)) H
 | _=>False
def g1b(A:Ad)(k:Nat):Sp:=fun vs H Q _=>match vs with
 | [.ref o]=>∃ d:Dt,d.kd=k/\IsP A H o d/\d.ok/\(∀ H1,Same H H1->Q (.str d.word) H1)
 | _=>False
def k4b:Sp:=fun vs H Q _=>match vs with
 | [.str x]=>∃ y:Rat,x=fW y/\YOk y/\All (c9i H (a9v y)) Q ⟨⟩ ⟨⟩
 | _=>False
def k4c:Sp:=fun vs H Q _=>match vs with
 | [.str x,.int a,.int b]=>∃ n:Nat,sg x=txt (n:Int)/\n < 10 ^ 9/\a<=n/\(n:Int)<=b/\Q (.int n) H
 | _=>False
def k4d:Sp:=fun vs H Q _=>match vs with
 | [.str x]=>∃ n:Nat,x=nW n/\1<=n/\n<=1000/\Q (.int n) H
 | _=>False
def k4e:Sp:=fun vs H Q _=>match vs with
 | [.ref l,.int c]=>∃ xs,H l=some (.lst xs)/\(xs.length:Int)=c/\Q .non H
 | _=>False
def h1r(A:Ad)(k:Nat):Sp:=fun vs H Q _=>match vs with
 | [.ref l]=>∃ d:Dt,d.kd=k/\d.ok/\H l=some (.lst (d.vals.map V.str))/\(∀ o H1,H o=none->Same H H1->IsP A H1 o d->Q (.ref o) H1)
 | _=>False
def k4f:Sp:=fun vs H Q _=>match vs with
 | [.str x]=>∃ c:Int×Rat,x=cW c/\0<=c.1/\c.1<=100000/\YOk c.2/\(∀ p g H1,H p=none->Same H H1->H1 p=some (.tup [.int c.1,.ref g])->H1 g=some (.tup (a9v c.2))->Q (.ref p) H1)
 | _=>False
def i6b(A:Ad):Sp:=fun vs H Q _=>match vs with
 | [.str x]=>∃ d:Dt,d.ok/\x=d.word/\(∀ o H1,H o=none->Same H H1->IsP A H1 o d->Q (.ref o) H1)
 | _=>False
noncomputable def lead(l:List Nat):Bool:=match l with
 | 48 :: _ :: _=>true
 | _=>false
noncomputable def j4o(x:Str):Option Nat:=if (h2v (sg x) && !lead (sg x))=true then some (NumText.digitsVal (sg x)) else none
def IsN(x:Str)(a b:Nat):Prop:=∃ n:Nat,x=nW n/\a<=n/\n<=b
def IsG(x:Str):Prop:=∃ y:Rat,x=fW y/\YOk y
def IsC(x:Str):Prop:=∃ c:Int×Rat,x=cW c/\0<=c.1/\c.1<=100000/\YOk c.2
def IsPart(x:Str):Prop:=∃ d:Dt,d.ok/\x=d.word
noncomputable def j9s(x:Str):V:=match j4o x with
 | some n=>if x.length<=13 then .int n else .non
 | none=>.non
def i6c:Sp:=fun vs H Q _=>match vs with
 | [.str x]=>x.length<=1000/\Q (j9s x) H
 | _=>False
def j4p(A:Ad):Sp:=fun vs H _ E=>match vs with
 | [.str x,.int a,.int b]=>∃ m n:Nat,a=m/\b=n/\n<=100000/\m<=1/\x.length<=1000/\¬ IsN x m n/\E (.ref A.a0w) none H
 | _=>False
def j4q(A:Ad):Sp:=fun vs H _ E=>match vs with
 | [.str x]=>x.length<=1000/\¬ IsN x 1 1000/\E (.ref A.a0w) none H
 | _=>False
def j4r(A:Ad):Sp:=fun vs H _ E=>match vs with
 | [.ref l,.int c]=>∃ xs,H l=some (.lst xs)/\xs.length<=2000/\(xs.length:Int)≠c/\E (.ref A.a0w) none H
 | _=>False
def j9t(H:Hp)(v:V):Prop:=(∃ x:Str,v = .str x/\x.length<=1000000/\∀ t b,¬ Good (sg x) t b)\/∃ ty,h5h H v=some ty/\ty≠.str
def h7e(c:Addr):Sp:=fun vs H _ E=>match vs with | [v]=>j9t H v/\(∀ H',Same H H'->E (.ref c) none H') | _=>False
def j4s(A:Ad):Sp:=fun vs H _ E=>match vs with
 | [.str x]=>x.length<=1000/\¬ IsG x/\(∀ H',Same H H'->E (.ref A.a0w) none H')
 | _=>False
def j4t(A:Ad):Sp:=fun vs H _ E=>match vs with
 | [.str x]=>x.length<=1000/\¬ IsC x/\(∀ H',Same H H'->E (.ref A.a0w) none H')
 | _=>False
def d7s(A:Ad)(k:Nat):Sp:=fun vs H _ E=>match vs with
 | [.ref l]=>∃ ws:List Str,H l=some (.lst (ws.map V.str))/\ws.length<=1100/\(∀ v∈ws,v.length<=1000)/\(¬ ∃ d:Dt,d.kd=k/\d.ok/\d.vals=ws)/\(∀ H',Same H H'->E (.ref A.a0w) none H')
 | _=>False
def j4u(A:Ad):Sp:=fun vs H _ E=>match vs with
 | [v]=>((∃ x,v = .str x/\x.length<=1000/\¬ IsPart x)\/∃ ty,h5h H v=some ty/\ty≠.str)/\(∀ H',Same H H'->E (.ref A.a0w) none H')
 | _=>False
def h7f:Sp:=fun vs H Q _=>match vs with
 | [.ref o]=>All (c9i H []) Q ⟨⟩ ⟨⟩
 | _=>False
def i3b(A:Ad)(H:Hp)(os:List Addr)(ds:List Dt):Prop:=os.length=ds.length/\∀ (i:Nat) o d,os[i]? = some o->ds[i]? = some d->IsP A H o d
def j4v(A:Ad):Sp:=fun vs H Q _=>match vs with
 | [.ref l]=>∃ ds:List Dt,H l=some (.lst (ds.map fun d=>V.str d.word))/\ds.length<=8/\(∀ d∈ds,d.ok)/\(∀ p os H1,H p=none->(∀ o∈os,H o=none)->Same H H1->H1 p=some (.lst (os.map V.ref))->i3b A H1 os ds->Q (.ref p) H1)
 | _=>False
noncomputable def chF (pl sl : Addr) : List (Str × V) := [("parts", .ref pl), ("states", .ref sl)]
def ChW(A:Ad)(H:Hp)(o:Addr)(ds:List Dt):Prop:=∃ dx pl sl os,H o=some (.ins A.b2y dx (chF pl sl))/\H pl=some (.lst (os.map V.ref))/\i3b A H os ds
def g4g:Sp:=fun vs H Q _=>match vs with
 | [.ref _]=>Q (.int 0) H
 | _=>False
def h7g(A:Ad):Sp:=fun vs H Q _=>match vs with
 | [.ref o,.ref l]=>∃ (dx:Addr) (ds:List Dt),H o=some (.ins A.b2y dx [])/\H l=some (.lst (ds.map fun d=>V.str d.word))/\ds.length<=8/\(∀ d∈ds,d.ok)/\(∀ H1,b1u o H H1->ChW A H1 o ds->Q .non H1)
 | _=>False
def j4w(A:Ad):Sp:=fun vs H Q _=>match vs with
 | [.ref o]=>∃ ds:List Dt,ChW A H o ds/\ds.length<=8/\(∀ d∈ds,d.ok)/\All (i4b H (ds.map fun d=>V.str d.word)) Q ⟨⟩ ⟨⟩
 | _=>False
noncomputable def h0g:Dt->Rat
 | .gain y=>Rat.abs y
 | .delay _=>1
 | .echo y _ t=>Rat.divInt ((g7q y.num (y.den:Int) t).map fun f=>(f.natAbs:Int)).sum ((y.den:Int) ^ t)
 | .back y _=>1+Rat.abs y
 | .hall y _=>Rat.divInt y.den (y.den - (y.num.natAbs:Int))
 | .swell cs=>f1p cs
noncomputable def g7r:Dt->Option Nat
 | .gain _=>some 0
 | .delay n=>some n
 | .echo _ n t=>some (n*t)
 | .back _ n=>some n
 | .hall .. => none
 | .swell _=>some 0
noncomputable def oV:Option Nat->V
 | some n=>.int n
 | none=>.non
def j9u:Sp:=fun vs H Q _=>match vs with
 | [.ref _]=>Q (.int 1) H
 | _=>False
def j9v:Sp:=fun vs H Q _=>match vs with
 | [.ref _]=>Q (.int 0) H
 | _=>False
noncomputable def h7h:List Dt->Rat->Rat
 | [],x=>x
 | d :: ds,x=>h7h ds (x*h0g d)
def j4x(A:Ad):Sp:=fun vs H Q _=>match vs with
 | [.ref o]=>∃ ds:List Dt,ChW A H o ds/\ds.length<=8/\(∀ d∈ds,d.ok)/\All (c9i H (a9v (h7h ds 1))) Q ⟨⟩ ⟨⟩
 | _=>False
noncomputable def j2b:List Dt->Option Nat
 | []=>some 0
 | d :: ds=>match g7r d,j2b ds with
  | some a,some b=>some (a+b)
  | _,_=>none
def j4y(A:Ad):Sp:=fun vs H Q _=>match vs with
 | [.ref o]=>∃ ds:List Dt,ChW A H o ds/\ds.length<=8/\(∀ d∈ds,d.ok)/\(∀ H1,Same H H1->Q (oV (j2b ds)) H1)
 | _=>False
def f1q(A:Ad)(k:Nat):Sp:=fun vs H Q _=>match vs with
 | [.ref o]=>∃ d:Dt,d.kd=k/\IsP A H o d/\d.ok/\(∀ g:Int,1<=g->intBits g<=1600->Q (.int g) H)
 | _=>False
def j4z(A:Ad):Sp:=fun vs H Q _=>match vs with
 | [.ref o]=>∃ ds:List Dt,ChW A H o ds/\ds.length<=8/\(∀ d∈ds,d.ok)/\(∀ g:Int,1<=g->Q (.int g) H)
 | _=>False
noncomputable def b6q(n:Nat):Dt->Dt
 | .swell cs=>.swell (cs.map fun c=>(c.1+(n:Int),c.2))
 | d=>d
def i6d:Sp:=fun vs H Q _=>match vs with
 | [.ref o,.int _]=>Q (.ref o) H
 | _=>False
def i6e(A:Ad):Sp:=fun vs H Q _=>match vs with
 | [.ref o,.int n]=>∃ (cs:List (Int×Rat)) (m:Nat),n=m/\IsP A H o (.swell cs)/\(b6q m (.swell cs)).ok/\(∀ o' H1,Same H H1->IsP A H1 o' (b6q m (.swell cs))->Q (.ref o') H1)
 | _=>False
def j5a(A:Ad):Sp:=fun vs H Q _=>match vs with
 | [.ref o,.int m]=>∃ (n:Nat) (ds:List Dt),m=n/\ChW A H o ds/\ds.length<=8/\(∀ d∈ds,d.ok/\(b6q n d).ok)/\All (i4b H (ds.map fun d=>V.str (b6q n d).word)) Q ⟨⟩ ⟨⟩
 | _=>False
noncomputable def LPt(H:Hp)(p:Addr):Dt->Prop
 | .gain y => ∃ g, H p = some (.tup [.str "gain", .ref g, .int 0, .int 0]) ∧ H g = some (.tup (a9v y))
 | .delay n => ∃ g, H p = some (.tup [.str "delay", .ref g, .int n, .int 0]) ∧ H g = some (.tup (a9v 1))
 | .echo y n t => ∃ g, H p = some (.tup [.str "echo", .ref g, .int n, .int t]) ∧ H g = some (.tup (a9v y))
 | .back y n => ∃ g, H p = some (.tup [.str "back", .ref g, .int n, .int 0]) ∧ H g = some (.tup (a9v y))
 | .hall y n => ∃ g, H p = some (.tup [.str "hall", .ref g, .int n, .int 0]) ∧ H g = some (.tup (a9v y))
 | .swell cs => ∃ g ps, H p = some (.tup [.str "swell", .ref g, .int 0, .int 0]) ∧ H g = some (.lst (List.map V.ref ps)) ∧ Crn H ps cs
def okN(d:Dt):Prop:=d.ok/\∀ n:Nat,n<=2000->(b6q n d).ok
def j5b:Sp:=fun vs H Q _=>match vs with
 | [.int t,.int b]=>t.natAbs<=1000/\1<=b/\b<=1000/\(∀ p y H1,H p=none->Same H H1->H1 p=some (.tup (a9v y))->YOk y->((t.natAbs:Int) < b->(y.num.natAbs:Int) < y.den)->Q (.ref p) H1)
 | _=>False
def h7i:Sp:=fun vs H Q _=>match vs with
 | [.int m]=>∀ p y H1,H p=none->Same H H1->H1 p=some (.tup (a9v y))->YOk y->Q (.ref p) H1
 | _=>False
def i6f:Sp:=fun vs H Q _=>match vs with
 | [.int m]=>∀ p y H1,H p=none->Same H H1->H1 p=some (.tup (a9v y))->YOk y->(y.num.natAbs:Int) < y.den->Q (.ref p) H1
 | _=>False
def CsN(cs:List (Int×Rat)):Prop:=h1q cs/\∀ c∈cs,c.1<=10000
def h7j:Sp:=fun vs H Q _=>match vs with
 | [.int m]=>∀ l ps cs H1,H l=none->Same H H1->H1 l=some (.lst (List.map V.ref ps))->Crn H1 ps cs->CsN cs->Q (.ref l) H1
 | _=>False
def h7k:Sp:=fun vs H Q _=>match vs with
 | [.int c]=>intBits c<=1100000/\(∀ p d H1,H p=none->Same H H1->LPt H1 p d->(∀ g k m t,H1 p=some (.tup [k,.ref g,m,t])->H g=none)->okN d->Q (.ref p) H1)
 | _=>False
def h7l:Sp:=fun vs H Q _=>match vs with
 | [.ref p,.int m]=>∃ (n:Nat) (d:Dt),m=n/\n<=2000/\LPt H p d/\okN d/\(∀ H1,Same H H1->Q (.str (b6q n d).word) H1)
 | _=>False
def i6g:Sp:=fun vs H Q _=>match vs with
 | [.ref p]=>∃ d:Dt,LPt H p d/\okN d/\(∀ (q:Addr) (t b:Int) H1,H q=none->Same H H1->H1 q=some (.tup [.int t,.int b])->0 < b->h0g d=Rat.divInt t b->intBits t<=220->intBits b<=220->Q (.ref q) H1)
 | _=>False
def LPk(D:Addr)(H:Hp)(p:Addr)(d:Dt):Prop:=LPt H p d/\∀ g k m t,H p=some (.tup [k,.ref g,m,t])->g≠D
def LPs(H:Hp)(ps:List Addr)(ds:List Dt):Prop:=ps.length=ds.length/\∀ (i:Nat) p d,ps[i]? = some p->ds[i]? = some d->LPt H p d
def h7m(A:Ad):Sp:=fun vs H Q _=>match vs with
 | [.ref o,.ref l]=>∃ (ps:List Addr) (ds:List Dt),ChW A H o ds/\H l=some (.lst (List.map V.ref ps))/\LPs H ps ds/\ds.length<=8/\(∀ d∈ds,okN d)/\(∀ H1,Same H H1->Q (.bl true) H1)
 | _=>False
def h7n:Sp:=fun vs H Q _=>match vs with | [.int _]=>Q (.bl true) H | _=>False
noncomputable def tlW (ks : Str) (y : Rat) (n t : Nat) : Str := if ks = Str.ofString "echo" then (if ks = Str.ofString "gain" then ks ++ Str.ofString ":" ++ fW y else ks ++ Str.ofString ":" ++ fW y ++ Str.ofString ":" ++ nW n) ++ Str.ofString ":" ++ nW t else if ks = Str.ofString "gain" then ks ++ Str.ofString ":" ++ fW y else ks ++ Str.ofString ":" ++ fW y ++ Str.ofString ":" ++ nW n
def Gn4 (H : Hp) (p : Addr) (d : Dt) : Prop := ∃ (ks : Str) (g : Addr) (y : Rat) (n t : Nat), H p = some (.tup [.str ks, .ref g, .int n, .int t]) ∧ H g = some (.tup (a9v y)) ∧ YOk y ∧ n ≤ 1000 ∧ t ≤ 16 ∧ ks ≠ Str.ofString "swell" ∧ ks ≠ Str.ofString "delay" ∧ ks.length ≤ 5 ∧ d.word = tlW ks y n t ∧ ∀ m, b6q m d = d
noncomputable def ewT(p q:Int):Nat->Int
 | 0=>1
 | t+1=>ewT p q t*(p.natAbs:Int)+q ^ t*q
noncomputable def kS:Dt->String
 | .gain _ => "gain"
 | .delay _ => "delay"
 | .echo .. => "echo"
 | .back .. => "back"
 | .hall .. => "hall"
 | .swell _ => "swell"
noncomputable def nS:Dt->Nat×Nat
 | .gain _=>(0,0)
 | .delay n=>(n,0)
 | .echo _ n t=>(n,t)
 | .back _ n=>(n,0)
 | .hall _ n=>(n,0)
 | .swell _=>(0,0)
noncomputable def rS (d : Dt) : Nat := (nS d).1 * max 1 (nS d).2 * if kS d ≠ "echo" ∨ (nS d).2 > 0 then 1 else 0
def j9w(H:Hp)(v:V):Prop:=(∃ x,v = .str x/\x.length<=1000/\¬ IsPart x)\/∃ ty,h5h H v=some ty/\ty≠.str
def d7q(H:Hp)(v:V):Prop:=(∃ t,h5h H v=some t/\t≠.lst)\/∃ r xs,v = .ref r/\H r=some (.lst xs)/\xs.length<=100/\(8 < xs.length\/(xs.length<=8/\∃ (ds:List Dt) (u:V) (rest:List V),(∀ d∈ds,d.ok)/\j9w H u/\xs=ds.map (fun d=>V.str d.word)++u :: rest))
def j5c(A:Ad):Sp:=fun vs H _ E=>match vs with | [v]=>d7q H v/\(∀ H',Same H H'->E (.ref A.a0w) none H') | _=>False
def j5d(A:Ad):Sp:=fun vs H _ E=>match vs with
 | [.ref o,v]=>∃ dx,H o=some (.ins A.b2y dx [])/\d7q H v/\(∀ H',Same H H'->E (.ref A.a0w) none H')
 | _=>False
def h7o:Sp:=fun vs H Q _=>match vs with
 | [.ref l,.int c]=>∃ ds:List Dt,H l=some (.lst (ds.map fun d=>V.str d.word))/\ds.length<=8/\(∀ d∈ds,d.ok)/\(∀ v H1,Same H H1->d7q H1 v->Q v H1)
 | _=>False
def i6h:Sp:=fun vs H Q _=>match vs with
 | [v]=>d7q H v/\(∀ H1,Same H H1->Q (.bl true) H1)
 | _=>False
def h7p(A:Ad):Sp:=fun vs H Q _=>match vs with
 | [.ref l,.int m]=>∃ (n:Nat) (ps:List Addr) (ds:List Dt),m=n/\n<=2000/\H l=some (.lst (List.map V.ref ps))/\LPs H ps ds/\ds.length<=8/\(∀ d∈ds,okN d)/\(∀ H1,Same H H1->Q (.bl true) H1)
 | _=>False
local macro_rules | `(tactic| walk_at $s:str)=>do
 unless s.getString == "rd" || s.getString == "rd*" do Lean.Macro.throwUnsupported
 let mut ls:Array (Lean.TSyntax [`Lean.Parser.Tactic.simpStar,`Lean.Parser.Tactic.simpErase,`Lean.Parser.Tactic.simpLemma]) := #[]
 if s.getString == "rd*" then
  let y <- `(Lean.Parser.Tactic.simpStar| *)
  ls:=ls.push ⟨y.raw⟩
 for n in "h6w j4j j4k i5t j4l h6x i5u j4m i5v i5w i5x h6y h0c h6z h0d j4n h7a h0e f0y h7b h0f h7c h7d j9r f5z f0z f1g f6g f6h f6i f6j f6k f6l j6b k3z k4a g1b k4b k4c k4d k4e h1r k4f i6b i6c j4p j4q j4r h7e j4s j4t d7s j4u h7f j4v g4g h7g j4w j9u j9v j4x j4y f1q j4z i6d i6e j5a j5b h7i i6f h7j h7k h7l i6g h7m h7n j5c j5d h7o i6h h7p k3g iStr rSlA k3h k3i tFmt k3j j8k k3k j8l k5q k3r rSlG k3o j8x gSub rSetM j8y j8z rIxD rNiD k5q i4y k5x rInsF tSl3 rSl3 j3l k3l k1p b6h j1e rInF tAugF j8u rIsI k3n j3n g6n j3o k4r j5s d7v tC g7z tOp tUn k4s tRet tRetN j6o tCB k2k h5g k2n k2o i7y tAnd tOr tNot tBF j7w k5g j7x j6p tIf k2m j3f j0t k5h k5i j0u tSl j2y j0v rIF j5u rUF k2p k2q k5a k5b rIxM rSlM k2r rLenK k2x rIxS0 rIsT rAbs rMin rMax j7z k3c i8m tBMF k3b k3a j8c k5j k5k k5l k5m j6q j8i k5o j8e j8h hAs _root_.L2.start".splitOn " " do
  let i:=Lean.mkIdent n.toName
  let y <- `(Lean.Parser.Tactic.simpLemma| ↓$i:ident)
  ls:=ls.push ⟨y.raw⟩
 for n in "noxK Bool.bne_false Bool.bne_true noxK noxK asNew lookup_same j1f j8o j5v k1q List.lookup_nil nq0 nq1 nq2 nq3 nq4 nq5 nq6 nq7 nq8 nq9 nq10 nq11 nq12 nq13 nq14 nq15 nq16 nq17 nq18 nq19 nq20 nq21 nq22 nq23 nq24 nq25 nq26 nq27 nq28 nq29 nq30 nq31 nq32 nq33 nq34 nq35 nq36 nq37 nq38 nq39 nq40 nq41 nq42 nq43 nq44 nq45 nq46 nq47 nq48 nq49 nq50 nq51 nq52 nq53 nq54 nq55 nq56 nq57 nq58 nq59 nq60 nq61 nq62 nq63 nq64 nq65 nq66 nq67 nq68 nq69 nq70 nq71 nq72 nq73 nq74 nq75 nq76 nq77 nq78 nq79 nq80 nq81 nq82 nq83 nq84 nq85 nq86 nq87 nq88 nq89 nq90 nq91 nq92 nq93 nq94 nq95 k5c k5d k5e k5f j7q j0p Ty.nm k4u k4z j7r j7s j7t j7u j0r j3g List.map_cons List.map_nil List.length_cons List.length_nil List.length_map List.replicate List.cons_append List.nil_append List.append_nil List.getElem?_cons_zero List.getElem?_cons_succ List.set_cons_zero List.set_cons_succ Option.some.injEq exists_eq_left' exists_eq_left exists_and_left V.int.injEq V.bl.injEq V.str.injEq V.ref.injEq V.ty.injEq Value.ref.injEq List.cons.injEq HO.lst.injEq HO.tup.injEq Int.zero_add List.length_append and_true true_and k2s k2t k2u k2v k2w two_line if_true reduceCtorEq if_false Bool.false_eq_true decide_eq_true_eq decide_eq_false_iff_not decide_true decide_false Bool.or_true Bool.true_or Bool.or_false Bool.false_or Bool.and_true Bool.true_and Bool.and_false Bool.false_and or_false false_or Nat.zero_add Nat.reduceAdd Nat.reduceSub exists_const false_and and_false Bool.not_true Bool.not_false Bool.not_eq_true' ne_eq not_true_eq_false not_false_eq_true Int.reduceEq Int.reduceNe Int.reduceLT Int.reduceLE Int.reducePow Int.reduceMul Int.reduceAdd Int.reduceSub Int.reduceNeg Int.reduceToNat Nat.reducePow Nat.reduceLT Nat.reduceLeDiff".splitOn " " do
  let i:=Lean.mkIdent n.toName
  let y <- `(Lean.Parser.Tactic.simpLemma| $i:ident)
  ls:=ls.push ⟨y.raw⟩
 `(tactic| simp (config:={ maxSteps:=1000000,dsimp:=false }) only [$ls,*])
theorem h9k{l r:Int}(hl:0<=l)(hr:0 < r):Int.gcd r (l.fmod r)=Int.gcd l r:=by
 rw [Int.fmod_eq_emod_of_nonneg _ (by omega)]
 obtain⟨x,rfl⟩:=Int.eq_ofNat_of_zero_le hl
 obtain⟨y,rfl⟩:=Int.eq_ofNat_of_zero_le (by omega:0<=r)
 rw [<- Int.natCast_emod,Int.gcd_natCast_natCast,Int.gcd_natCast_natCast,Nat.gcd_comm x y,Nat.gcd_rec y x,Nat.gcd_comm]
theorem i6i{l r:Int}(hl:0<=l)(hr:0 < r):0<=l.fmod r/\l.fmod r < r:=by
 rw [Int.fmod_eq_emod_of_nonneg _ (by omega)]
 exact⟨Int.emod_nonneg _ (by omega),Int.emod_lt_of_pos _ hr⟩
theorem d1z(a:Int){b:Int}(hb:0 < b):0<=a.fmod b/\a.fmod b < b:=by
 rw [Int.fmod_eq_emod_of_nonneg _ (by omega)]
 exact⟨Int.emod_nonneg _ (by omega),Int.emod_lt_of_pos _ hb⟩
theorem h0h(a b:Int):Int.gcd (a.natAbs:Int) (b.natAbs:Int)=Int.gcd a b:=by
 rw [Int.gcd_natCast_natCast]; rfl
theorem gcd_zero{l:Int}(hl:0<=l):((Int.gcd l 0:Nat):Int)=l:=by
 rw [Int.gcd_zero_right]; omega
theorem j9x(a b:Int):(a.natAbs:Int).fdiv (Int.gcd a b:Int)*(b.natAbs:Int)=(Int.lcm a b:Int):=by
 rw [Int.fdiv_eq_ediv_of_nonneg _ (Int.natCast_nonneg _),<- Int.natCast_ediv,<- Int.natCast_mul]
 congr 1
 show a.natAbs / Nat.gcd a.natAbs b.natAbs*b.natAbs=Nat.lcm a.natAbs b.natAbs
 unfold Nat.lcm
 exact Nat.div_mul_right_comm (Nat.gcd_dvd_left _ _) _
theorem lcm_zero{a b:Int}(h:a=0\/b=0):Int.lcm a b=0:=by
 rcases h with rfl | rfl
 ·exact Int.lcm_zero_left _
 ·exact Int.lcm_zero_right _
theorem h9l{a b:Int}{n:Nat}(h:a≠0)(ha:intBits a<=n):intBits (Int.gcd a b:Int)<=n:=by
 refine intBits_le_of_natAbs ?_ ha
 rw [Int.natAbs_natCast]
 exact Nat.le_of_dvd (by omega) (Nat.gcd_dvd_left _ _)
theorem d7h{a g:Int}(hg:0 < g)(h:g∣a):(a.fdiv g).natAbs=a.natAbs / g.natAbs:=by
 rw [Int.fdiv_eq_ediv_of_nonneg _ (by omega)]
 obtain⟨k,rfl⟩:=h
 rw [Int.mul_ediv_cancel_left _ (by omega),Int.natAbs_mul,Nat.mul_div_cancel_left _ (by omega)]
theorem i9y{a b:Int}(h:¬ (a=0/\b=0)):((Int.gcd (a.fdiv (Int.gcd a b:Int)) (b.fdiv (Int.gcd a b:Int)):Nat):Int)=1:=by
 have hp:0 < Int.gcd a b:=by
  rw [Int.gcd_pos_iff]
  omega
 have e:Int.gcd (a.fdiv (Int.gcd a b:Int)) (b.fdiv (Int.gcd a b:Int))=1:=by
  show Nat.gcd _ _=1
  rw [d7h (by omega) (Int.gcd_dvd_left a b),d7h (by omega) (Int.gcd_dvd_right a b),Int.natAbs_natCast]
  exact Nat.coprime_div_gcd_div_gcd hp
 rw [e]
 rfl
theorem j9y{t b:Int}(hb:b≠0):t.fdiv (if b < 0 then -(Int.gcd t b:Int) else (Int.gcd t b:Int))=(Rat.divInt t b).num:=by
 rw [Rat.num_divInt,Int.gcd_comm b t]
 have hp:0 < Int.gcd t b:=Int.gcd_pos_of_ne_zero_right t hb
 obtain⟨k,hk⟩:(Int.gcd t b:Int)∣t:=Int.gcd_dvd_left t b
 generalize hg:(Int.gcd t b:Int)=g at *
 have hg0:0 < g:=by omega
 by_cases h:b < 0
 ·rw [if_pos h,Int.sign_eq_neg_one_of_neg h,hk]
  rw [show g*k=(-g)*(-k) by grind,Int.mul_fdiv_cancel_left _ (by omega),show -1*(-g * -k)=g*(-k) by grind,Int.mul_ediv_cancel_left _ (by omega)]
 ·rw [if_neg h,Int.sign_eq_one_of_pos (by omega),hk,Int.mul_fdiv_cancel_left _ (by omega),Int.one_mul,Int.mul_ediv_cancel_left _ (by omega)]
theorem j9z{t b:Int}(hb:b≠0):b.fdiv (if b < 0 then -(Int.gcd t b:Int) else (Int.gcd t b:Int))=((Rat.divInt t b).den:Int):=by
 rw [Rat.den_divInt,if_neg hb,Int.gcd_comm b t]
 have hp:0 < Int.gcd t b:=Int.gcd_pos_of_ne_zero_right t hb
 obtain⟨k,hk⟩:(Int.gcd t b:Int)∣b:=Int.gcd_dvd_right t b
 rw [Int.natCast_ediv]
 generalize hg:(Int.gcd t b:Int)=g at *
 have hg0:0 < g:=by omega
 by_cases h:b < 0
 ·have e:((b.natAbs:Nat):Int) = -b:=by omega
  rw [if_pos h,e,hk,show g*k=(-g)*(-k) by grind,Int.mul_fdiv_cancel_left _ (by omega),show -(-g * -k)=g*(-k) by grind,Int.mul_ediv_cancel_left _ (by omega)]
 ·have e:((b.natAbs:Nat):Int)=b:=by omega
  rw [if_neg h,e,hk,Int.mul_fdiv_cancel_left _ (by omega),Int.mul_ediv_cancel_left _ (by omega)]
theorem cross{t b:Int}(hb:b≠0):(Rat.divInt t b).num*b=t*((Rat.divInt t b).den:Int):=by
 have h:=Rat.num_divInt_den (Rat.divInt t b)
 exact (Rat.divInt_eq_divInt_iff (by have:=(Rat.divInt t b).den_pos; omega) hb).mp h
theorem i6j(q:Rat):Int.gcd q.num (q.den:Int)=1:=q.reduced
theorem h0i(q r:Rat):Rat.divInt (q.num*(r.den:Int)+r.num*(q.den:Int)) ((q.den:Int)*(r.den:Int))=q+r:=by
 conv=>rhs; rw [<- Rat.num_divInt_den q,<- Rat.num_divInt_den r]
 rw [Rat.divInt_add_divInt _ _ (by have:=q.den_pos; omega) (by have:=r.den_pos; omega)]
theorem g4h(q r:Rat):Rat.divInt (q.num*r.num) ((q.den:Int)*(r.den:Int))=q*r:=by
 conv=>rhs; rw [<- Rat.num_divInt_den q,<- Rat.num_divInt_den r]
 rw [Rat.divInt_mul_divInt]
theorem d3j(q:Rat):(Rat.abs q).num=q.num.natAbs:=by
 unfold Rat.abs
 split
 ·rename_i h
  have:=Rat.num_nonneg.mpr h
  omega
 ·rename_i h
  have:¬ 0<=q.num:=fun z=>h (Rat.num_nonneg.mp z)
  show -q.num=_
  omega
theorem c0k(q:Rat):(Rat.abs q).den=q.den:=by
 unfold Rat.abs
 split <;> rfl
theorem j2c{t b:Int}(hb:b≠0):(Rat.divInt t b).num.natAbs<=t.natAbs:=by
 rw [Rat.num_divInt]
 have e:(b.sign*t).natAbs=t.natAbs:=by
  rw [Int.natAbs_mul,Int.natAbs_sign_of_ne_zero hb,Nat.one_mul]
 rw [<- e]
 exact Int.natAbs_ediv_le_natAbs _ _
theorem j2d{t b:Int}(hb:b≠0):(Rat.divInt t b).den<=b.natAbs:=by
 rw [Rat.den_divInt,if_neg hb]
 exact Nat.div_le_self _ _
theorem g7s (T : Tx K mg A) : a1h P A.wd K mg base CX0 1 A.c5h A.c0w ["one", "other"] h6w := by
 refine T.d3w.ok c7p (fun vs H Q E h=>?_) (fun cdv A' outer s H vs Q E hr h=>?_)
 ·obtain⟨_,_,rfl,_⟩:=g0y (by unfold h6w at h; exact h)
  rfl
 ·obtain⟨a,b,rfl,q⟩:=g0y (by unfold h6w at h; exact h)
  have q:Q (.int (Int.gcd a b)) H:=q
  have hu:=hr.units
  refine⟨_,(a0j (a1n (i:=2) c7p.nd rfl (Or.inl rfl) (a0z a5y (by rfl) T.d9n boot_abs (a0g (pvF 0) a0h)))
   (a0j (a1n (i:=3) c7p.nd rfl (Or.inl rfl) (a0z a5y (by rfl) T.d9n boot_abs (a0g (pvF 1) a0h)))
   (a0j (h2l PassesOwn.never (a1m (b7i hu) (pvF 3) a0i (a2n _))
   (a0j (a1n (i:=4) c7p.nd rfl (Or.inl rfl) (a1l b0m (pvF 2) (pvF 3)))
   (a0j (a1n (i:=2) c7p.nd rfl (Or.inl rfl) (pvF 3))
   (a0k (a1n (i:=3) c7p.nd rfl (Or.inl rfl) (pvF 4))))))
   (a0k (a0r (pvF 2)))))),?_⟩
  walk_at "rd"
  refine h2m (fun m σ H1=>∃ l r z,σ = [some (.int a),some (.int b),some (.int l),some (.int r),z]/\H1=H/\0<=l/\0<=r/\m=r.toNat/\Int.gcd l r=Int.gcd a b) _
   ⟨_,_,_,rfl,rfl,by omega,by omega,rfl,h0h a b⟩ ?_
  rintro m σ H1 ⟨l,r,z,rfl,rfl,hl,hr',rfl,hg⟩
  walk_at "rd"
  split
  ·rename_i h
   have hp:0 < r:=by omega
   have f:=i6i hl hp
   exact⟨h,_,(by omega:(l.fmod r).toNat < r.toNat),_,_,_,⟨rfl,rfl,rfl⟩,hr',f.1,rfl,(h9k hl hp).trans hg⟩
  ·rename_i h
   obtain rfl:r=0:=by omega
   rw [<- hg,gcd_zero hl] at q
   exact q
theorem h7q (T : Tx K mg A) : a1h P A.wd K mg base CX0 2 A.c0y A.c0z ["one", "other"] j4j := by
 have g4i : a1h P A.wd K mg base CX0 1 A.c5h A.c0w ["one", "other"] h6w := g7s T
 refine T.d3y.ok h6d (fun vs H Q E h=>?_) (fun cdv A' outer s H vs Q E hr h=>?_)
 ·obtain⟨_,_,rfl,_⟩:=g0y (by unfold j4j at h; exact h)
  rfl
 ·obtain⟨a,b,rfl,⟨ha,hb,q⟩⟩:=g0y (by unfold j4j at h; exact h)
  have hu:=hr.units
  have f8t:a2p 1 _:=hr.mono (by decide)
  refine⟨_,(a0j (a3v (pw_or (a1m (b0l hu) (pvF 0) a0i (a2n _)) (pw_or1 (a1m (b0l hu) (pvF 1) a0i (a2n _)))).pt
   (a0k (a0r a0i))
   a1k)
   (a0k (a0r (a1l a5l (a1l a5v (a0z a5y (by rfl) T.d9n boot_abs (a0g (pvF 0) a0h)) (a0n g4i f8t (by rfl) T.h3s T.d3w.kp T.h3r .nil a0p (a0g (pvF 0) (a0g (pvF 1) a0h)))) (a0z a5y (by rfl) T.d9n boot_abs (a0g (pvF 1) a0h)))))),?_⟩
  walk_at "rd"
  split
  ·rename_i h
   rw [lcm_zero h] at q
   exact q
  ·rename_i h
   simp only [not_or] at h
   have hg:=h9l (b:=b) h.1 ha
   have hn:(Int.gcd a b:Int)≠0:=by
    have:=Int.gcd_pos_of_ne_zero_left b h.1
    omega
   refine⟨⟨hn,Nat.le_trans hg (by decide)⟩,?_,?_⟩
   ·exact IntMulOk.of_le (intBits_fdiv_le (intBits_natAbs_le ha)) (intBits_natAbs_le hb) (by decide)
   ·rw [j9x]
    exact q
theorem f1h{t b:Int}{n:Nat}(hb:b≠0)(h:intBits t<=n):intBits (Rat.divInt t b).num<=n:=intBits_le_of_natAbs (j2c hb) h
theorem f1i{t b:Int}{n:Nat}(hb:b≠0)(h:intBits b<=n):intBits ((Rat.divInt t b).den:Int)<=n:=by
 refine intBits_le_of_natAbs ?_ h
 rw [Int.natAbs_natCast]
 exact j2d hb
theorem h7r (T : Tx K mg A) : a1h P A.wd K mg base CX0 1 A.c0u A.c0v ["value"] j4k := by
 refine T.c7r.ok h6c (fun vs H Q E h=>?_) (fun cdv A' outer s H vs Q E hr h=>?_)
 ·obtain⟨_,rfl,_⟩:=i2x (by unfold j4k at h; exact h)
  rfl
 ·obtain⟨i,rfl,q⟩:=i2x (by unfold j4k at h; exact h)
  have hu:=hr.units
  refine ⟨_, (a0k (a0r (f2h (a0z (b3k .int) (by rfl) T.a2m boot_isinstance (a0g (pvF 0) (a0g (b9h (v := .ty "int") (u := .type "int") (by rfl) T.g4a rfl rfl) a0h))) (g6i (h5o (a0z (b3k .bl) (by rfl) T.a2m boot_isinstance (a0g (pvF 0) (a0g (b9h (v := .ty "bool") (u := .type "bool") (by rfl) T.j1t rfl rfl) a0h)))))))), ?_⟩
  walk_at "rd"
  exact q
theorem c4i (T : Tx K mg A) : a1h P A.wd K mg base CX0 2 A.c1g A.c1h ["top", "bottom"] i5t := by
 have g7t:a1h P A.wd K mg base CX0 1 _ _ _ _:=h7r T
 have g4i:a1h P A.wd K mg base CX0 1 _ _ _ _:=g7s T
 refine T.b1r.ok f2j (fun vs H Q E h=>?_) (fun cdv A' outer s H vs Q E hr h=>?_)
 ·obtain⟨_,_,rfl,_⟩:=g0y (by unfold i5t at h; exact h)
  rfl
 ·obtain⟨t,b,rfl,⟨hb,h1,h2,k⟩⟩:=g0y (by unfold i5t at h; exact h)
  have hu:=hr.units
  have g4j:a2p 1 _:=hr.mono (by decide)
  have f8t:a2p 1 _:=hr.mono (by decide)
  refine⟨_,(a0j (a3v (pw_or (b2g (a3t (a0n g7t g4j (by rfl) T.g7f T.c7r.kp T.g7e .nil a0p (a0g (pvF 0) a0h)))) (pw_or1 (b2g (a3t (a0n g7t g4j (by rfl) T.g7f T.c7r.kp T.g7e .nil a0p (a0g (pvF 1) a0h)))))).pt
   (a0k a6m)
   a1k)
   (a0j (a3v (a1m (b0l hu) (pvF 1) a0i (a2n _))
   (a0k a6m)
   a1k)
   (a0j (a1n (i:=2) f2j.nd rfl (Or.inl rfl) (a0n g4i f8t (by rfl) T.h3s T.d3w.kp T.h3r .nil a0p (a0g (pvF 0) (a0g (pvF 1) a0h))))
   (c5p (a3v (a1m of_lt (pvF 1) a0i (a2n _))
   (a0k (a1n (i:=2) f2j.nd rfl (Or.inl rfl) (j6u j0s (pvF 2))))
   a1k)
   (a0k (a0r (a4u (a0g (a1l a5v (pvF 0) (pvF 2)) (a0g (a1l a5v (pvF 1) (pvF 2)) a0h))))))))),?_⟩
  walk_at "rd"
  rw [if_neg hb]
  refine⟨fun σ' H'=>σ' = [some (.int t),some (.int b),some (.int (if b < 0 then -(Int.gcd t b:Int) else (Int.gcd t b:Int)))]/\H'=H,?_,?_⟩
  ·walk_at "rd"
   split
   ·rfl
   ·rfl
  ·rintro σ' H' ⟨rfl,rfl⟩
   have hg:intBits (Int.gcd t b:Int)<=4000:=by
    rw [Int.gcd_comm]
    exact h9l hb h2
   have hp:0 < Int.gcd t b:=Int.gcd_pos_of_ne_zero_right t hb
   have hc:CFd t (if b < 0 then -(Int.gcd t b:Int) else (Int.gcd t b:Int)):=by
    split
    ·exact⟨by omega,Nat.le_trans (intBits_neg_le hg) (by decide)⟩
    ·exact⟨by omega,Nat.le_trans hg (by decide)⟩
   walk_at "rd"
   refine⟨hc,hc,fun p H1 n1 S1 h1=>k _ _ ⟨p,rfl,n1,S1,?_⟩⟩
   rw [h1,j9y hb,j9z hb]
   rfl
theorem f6m{n:Nat}(h:n < 10 ^ 9):n.log2 < 1920:=by
 rcases Nat.eq_zero_or_pos n with z | z
 ·rw [z]; decide
 ·rw [Nat.log2_lt (by omega)]
  exact Nat.lt_of_lt_of_le h (Nat.le_trans (by decide:10 ^ 9<=2 ^ 30) (Nat.pow_le_pow_right (by decide) (by decide)))
theorem f1j{t:Int}(h:t.natAbs < 10 ^ 9):intBits t<=4000:=by
 refine Nat.le_trans (intBits_le_iff.mpr (Nat.lt_of_lt_of_le h (by decide:10 ^ 9<=2 ^ 30))) (by decide)
theorem f1k (T : Tx K mg A) : a1h P A.wd K mg base CX0 1 A.b2n A.b3l ["text"] j4l := by
 refine T.a9t.ok f4y (fun vs H Q E h=>?_) (fun cdv A' outer s H vs Q E hr h=>?_)
 ·obtain⟨_,rfl,_⟩:=g5b (by unfold j4l at h; exact h)
  rfl
 ·obtain⟨x,rfl,q⟩:=g5b (by unfold j4l at h; exact h)
  have q:Q (.bl (h2v (sg x))) H:=q
  have hu:=hr.units
  refine⟨_,(a0j (b6j PassesOwn.never rfl (j8j (pvF 0)) (a5g (i:=1) f4y.nd rfl (Or.inl rfl))
   (a0k (a3v (a1m i4f (pvF 1) (a2t (v := .str "0123456789") (by rfl) T.i2a T.f8k) (by rfl))
   (a0k (a0r g0u))
   a1k)))
   (a0k (a0r (d7t (b7i hu) (pvF 0) a1z (a2n _))))),?_⟩
  walk_at "rd"
  refine i8x (fun i σ H1=>H1=H/\(∃ z,σ = [some (.str x),z])/\((sg x).take i).all (fun c=>decide (48<=c) && decide (c<=57))=true) ⟨rfl,⟨_,rfl⟩,rfl⟩ ?_ ?_
  ·rintro i c σ H1 hc ⟨rfl,⟨z,rfl⟩,ha⟩
   walk_at "rd"
   have hc':(sg x)[i]? = some c:=by
    unfold sg
    rw [Array.getElem?_toList]
    exact hc
   rw [j3m]
   split
   ·rename_i hb
    have:h2v (sg x)=false:=by
     unfold h2v
     rw [show (sg x).all (fun c=>decide (48<=c) && decide (c<=57))=false from ?_,Bool.false_and]
     rw [List.all_eq_false]
     exact⟨c,List.mem_of_getElem? hc',by rw [hb]; decide⟩
    rw [this] at q
    exact q
   ·rename_i hb
    refine⟨⟨_,rfl⟩,?_⟩
    rw [List.take_add_one,hc',List.all_append,ha]
    simpa using hb
  ·rintro σ H1 ⟨rfl,⟨z,rfl⟩,ha⟩
   walk_at "rd"
   have hl:x.cps.size=(sg x).length:=by simp
   rw [hl,List.take_length] at ha
   have e : h2v (sg x) = !decide (x = Str.ofString "") := by
    unfold h2v
    rw [ha,Bool.true_and]
    congr 1
    rw [Bool.eq_iff_iff,decide_eq_true_eq,List.isEmpty_iff]
    exact⟨fun h=>a9p (h.trans (by decide +kernel)),fun h=>by rw [h]; decide +kernel⟩
   rw [e] at q
   exact q
theorem h9m (T : Tx K mg A) : a1h P A.wd K mg base CX0 1 A.a5z A.a6p ["one"] h6x := by
 refine T.a3q.ok a7v (fun vs H Q E h=>?_) (fun cdv A' outer s H vs Q E hr h=>?_)
 ·obtain⟨_,rfl,_⟩:=a6y (by unfold h6x at h; exact h)
  rfl
 ·obtain⟨p,rfl,⟨t,b,hp,l1,l2,q⟩⟩:=a6y (by unfold h6x at h; exact h)
  have hu:=hr.units
  refine⟨_,(a0j (a1n (i:=1) a7v.nd rfl (Or.inl rfl) (a0v a3s (pvF 0) a0i (fun _ _=>rfl)))
   (a0j (a1n (i:=2) a7v.nd rfl (Or.inl rfl) (a0v a3s (pvF 0) a0i (fun _ _=>rfl)))
   (a0k (a0r (b6n (a4v (c0q (pvF 1)) (a4v a1z (a4v (c0q (pvF 2)) f1r)))))))),?_⟩
  walk_at "rd*"
  have e0:Str.empty.length=0:=rfl
  have e1 : (Str.ofString "/").length = 1 := by decide +kernel
  have e2:(Str.ofString (toString t)).length=(txt t).length:=by rw [<- a9g,d7p]
  have e3:(Str.ofString (toString b)).length=(txt b).length:=by rw [<- a9g,d7p]
  have f2:=h5p t
  have f3:=h5p b
  have hs:sizeLine=16777216:=sizeLine_eq
  simp only [strLen_append,e0,e1,e2,e3]
  refine⟨by omega,by omega,by omega,by omega,q _ ?_⟩
  rw [a3r,a3r,a3r,d7p,d7p]
  unfold h8o
  have e4:sg Str.empty = []:=rfl
  have e5 : sg (Str.ofString "/") = [47] := by decide +kernel
  rw [e4,e5]
  simp
theorem i6k (T : Tx K mg A) : a1h P A.wd K mg base CX0 3 A.a6g A.a6q ["text"] i5u := by
 have b3i:a1h P A.wd K mg base CX0 1 _ _ _ _:=f1k T
 have a3h:a1h P A.wd K mg base CX0 1 _ _ _ _:=h9m T
 have a9o:a1h P A.wd K mg base CX0 2 _ _ _ _:=c4i T
 refine T.a7i.ok a4t (fun vs H Q E h=>?_) (fun cdv A' outer s H vs Q E hr h=>?_)
 ·obtain⟨_,rfl,_⟩:=g5b (by unfold i5u at h; exact h)
  rfl
 ·obtain⟨x,rfl,⟨t,b,g,k⟩⟩:=g5b (by unfold i5u at h; exact h)
  have hu:=hr.units
  have b0k:a2p 1 _:=hr.mono (by decide)
  have a2u:a2p 1 _:=hr.mono (by decide)
  have a7m:a2p 2 _:=hr.mono (by decide)
  obtain⟨hx,hb,hg,l1,l2⟩:=g
  have hb0:b≠0:=by omega
  have tb:txt b=dg b.natAbs:=if_neg (by omega)
  have sl : Str.ofString "/" = ⟨#[47]⟩ := by decide +kernel
  have mi : Str.ofString "-" = ⟨#[45]⟩ := by decide +kernel
  have sp:=i8y (x:=x) (c:=47) (by decide) hx (d3s (by decide) (by decide)) (d3s (by decide) (by decide))
  have hs:sizeLine=16777216:=sizeLine_eq
  have q1:=j8s t
  have xl:x.length=(txt t).length+((txt b).length+1):=by rw [<- a9g,hx]; simp [h8o]
  rw [tb] at xl
  obtain⟨h0,e0⟩:∃ h0:Str,h0 = ⟨(txt t).toArray⟩:=⟨_,rfl⟩
  obtain⟨h1,e1⟩:∃ h1:Str,h1 = ⟨(txt b).toArray⟩:=⟨_,rfl⟩
  have s0:sg h0=txt t:=by rw [e0]
  have s1:sg h1=txt b:=by rw [e1]
  have n0:h0.length=(txt t).length:=by rw [<- a9g,s0]
  have n1:h1.length=(txt b).length:=by rw [<- a9g,s1]
  rw [<- e0,<- e1] at sp
  have sw:=j8t s0
  have i0:=f7g s0 (by omega)
  have i1:=f7g s1 (by rw [tb] at n1; omega)
  have r0:Rat.divInt t b = ⟨t,b.toNat,by omega,by
   show Nat.gcd t.natAbs b.toNat=1
   rw [<- hg]
   unfold Int.gcd
   congr 1
   omega⟩:=by
   rw [Rat.mk_eq_divInt]
   congr 1
   omega
  refine ⟨_, (a0j (a3v (b2g (a3t (a0z (b3k .str) (by rfl) T.a2m boot_isinstance (a0g (pvF 0) (a0g (b9h (v := .ty "str") (u := .type "str") (by rfl) T.g0z rfl rfl) a0h)))))
   (a0k a6m)
   a1k)
   (a0j (a1n (i:=1) a4t.nd rfl (Or.inl rfl) (b7j a8g PySem.F.plainAttrs_str PySem.F.slot_str_split PySem.F.type_str_split d0r (pvF 0) (a0g a1z a0h)))
   (a0j (a3v (a1m (b7i hu) (a0z a5w (by rfl) T.d9o boot_len (a0g (pvF 1) a0h)) a0i (a2n _))
   (a0k a6m)
   a1k)
   (c5p (a1n (i:=2) a4t.nd rfl (Or.inl rfl) (g7y (a3t (b7j a8g PySem.F.plainAttrs_str PySem.F.slot_str_startswith PySem.F.type_str_startswith c6m (a0v a3s (pvF 1) a0i (fun _ _=>rfl)) (a0g a1z a0h))) (a5p g8g (a0v a3s (pvF 1) a0i (fun _ _=>rfl)) (a5r a0i) a6z) (a0v a3s (pvF 1) a0i (fun _ _=>rfl))))
   (a0j (b6j PassesOwn.never rfl (a5q (d4u (a0g (pvF 2) (a0g (a0v a3s (pvF 1) a0i (fun _ _=>rfl)) a0h)))) (a5g (i:=3) a4t.nd rfl (Or.inl rfl))
   (a0k (a3v (pw_or (b2g (a3t (a0n b3i b0k (by rfl) T.d1v T.a9t.kp T.d1u .nil a0p (a0g (pvF 3) a0h)))) (pw_or1 (a1m d7w (a0z a5w (by rfl) T.d9o boot_len (a0g (pvF 3) a0h)) (a2t (v:=.int 9) (by rfl) T.c0s T.a7p) (a2n _)))).pt
   (a0k a6m)
   a1k)))
   (a0j (a3v (a1m (b0l hu) (a5h b9k (by rfl) T.g4a boot_int (a0g (a0v a3s (pvF 1) a0i (fun _ _=>rfl)) a0h)) a0i (a2n _))
   (a0k a6m)
   a1k)
   (a0j (a1n (i:=4) a4t.nd rfl (Or.inl rfl) (a0n a9o a7m (by rfl) T.c9g T.b1r.kp T.c8z .nil a0p (a0g (a5h b9k (by rfl) T.g4a boot_int (a0g (a0v a3s (pvF 1) a0i (fun _ _=>rfl)) a0h)) (a0g (a5h b9k (by rfl) T.g4a boot_int (a0g (a0v a3s (pvF 1) a0i (fun _ _=>rfl)) a0h)) a0h))))
   (a0j (a3v (a1m (b7i hu) (a0n a3h a2u (by rfl) T.a7l T.a3q.kp T.a7k .nil a0p (a0g (pvF 4) a0h)) (pvF 0) (a2n _))
   (a0k a6m)
   a1k)
   (a0k (a0r (pvF 4))))))))))),?_⟩
  rw [sl,mi]
  have hx':id (sg x=h8o t b):=hx
  clear e0 e1 hx sl mi
  have d1:((⟨#[47]⟩:Str).length == 0)=false:=rfl
  have d2:x.length<=sizeLine:=by omega
  have d3:2<=sizeLine:=by omega
  have d4:h0.length<=sizeLine:=by omega
  have d5:h1.length<=sizeLine:=by rw [tb] at n1; omega
  have N0:h0.length<=10:=by omega
  have N1:h1.length<=9:=by rw [tb] at n1; omega
  clear xl n0 n1 q1 hs
  walk_at "rd*"
  intro p H1 n1' S1 h1'
  walk_at "rd*"
  rw [if_neg (by decide)]
  refine⟨fun σ' H'=>∃ top:Str,sg top=dg t.natAbs/\σ' = [some (.str x),some (.ref p),some (.str top),none,none]/\H'=H1,?_,?_⟩
  ·walk_at "rd*"
   split
   ·rename_i ht
    have z:=i4j (x:=h0) (i:=1) (by
     rw [<- a9g,s0]
     unfold txt
     rw [if_pos ht]
     simp)
    rw [show ((1:Nat):Int)=1 from rfl] at z
    refine⟨_,?_,rfl⟩
    rw [z,s0]
    unfold txt
    rw [if_pos ht]
    rfl
   ·rename_i ht
    refine⟨_,?_,rfl⟩
    rw [s0]
    unfold txt
    rw [if_neg ht]
  ·rintro σ' H' ⟨top,st,rfl,rfl⟩
   walk_at "rd*"
   intro q H2 n2 S2 h2
   walk_at "rd*"
   have hp2:=S2 _ _ h1'
   refine⟨⟨_,SqL.of h2⟩,?_⟩
   have f0:h2v (sg top)=true:=by rw [st]; exact d0s.mpr ⟨d3r _,i0w _⟩
   have f1:h2v (sg h1)=true:=by rw [s1,tb]; exact d0s.mpr ⟨d3r _,i0w _⟩
   have m0:top.length<=9:=by rw [<- a9g,st]; exact l1
   have m1:top.length<=sizeLine:=Nat.le_trans m0 (by decide)
   refine c4v (xs:=[.str top,.str h1]) (fun i σ H'=>H'=H2/\∃ z,σ = [some (.str x),some (.ref p),some (.str top),z,none]) ⟨rfl,_,rfl⟩ (fun i σ H' _ h=>by rw [h.1]; exact SqL.of h2) ?_ ?_
   ·rintro i v σ H' hv ⟨rfl,z,rfl⟩
    match i,hv with
    | 0,hv =>
     cases hv
     walk_at "rd*"
     rw [st] at f0
     rw [f0,if_neg (by simp; omega)]
     exact⟨_,rfl⟩
    | 1,hv =>
     cases hv
     walk_at "rd*"
     rw [s1,tb] at f1
     rw [f1,if_neg (by simp; omega)]
     exact⟨_,rfl⟩
    | i+2,hv=>cases hv
   ·rintro σ H' ⟨rfl,z,rfl⟩
    walk_at "rd*"
    have v1:t.natAbs < 10 ^ 9:=by
     have:=h8n (d3r t.natAbs)
     rw [g2b] at this
     exact Nat.lt_of_lt_of_le this (Nat.pow_le_pow_right (by decide) l1)
    have v2:b.natAbs < 10 ^ 9:=by
     have:=h8n (d3r b.natAbs)
     rw [g2b] at this
     exact Nat.lt_of_lt_of_le this (Nat.pow_le_pow_right (by decide) l2)
    have g1:t.natAbs.log2 < 1920:=f6m v1
    have g2:b.natAbs.log2 < 1920:=f6m v2
    refine⟨by omega,by omega,by omega,f1j v1,f1j v2,?_⟩
    rw [r0]
    rintro _ H3 ⟨o,rfl,n3,S3,h3⟩
    replace h3:H3 o=some (.tup [.int t,.int b]):=by
     rw [h3]
     unfold a9v
     show some (HO.tup [V.int t,V.int ((b.toNat:Nat):Int)])=_
     rw [Int.toNat_of_nonneg (by omega)]
    walk_at "rd*"
    refine⟨t,b,⟨rfl,rfl⟩,g1,g2,fun y hy=>?_⟩
    rw [if_neg (not_not_intro (a9p (hy.trans hx'.symm)))]
    refine k _ _ ⟨o,rfl,?_,fun c u e=>S3 _ _ (S2 _ _ (S1 _ _ e)),h3⟩
    cases e:H o with
    | none=>rfl
    | some u =>
     have:=S2 _ _ (S1 _ _ e)
     rw [n3] at this
     cases this
theorem i6l{x:Str}{n:Nat}(h:sg x=txt (n:Int)):(Txt.startswith x ⟨#[48]⟩ && !decide (x=(⟨#[48]⟩:Str)))=false:=by
 have e:txt (n:Int)=dg n:=if_neg (by omega)
 rw [e] at h
 rcases Nat.eq_zero_or_pos n with z | z
 ·subst z
  have:x = ⟨#[48]⟩:=a9p (by rw [h]; rfl)
  rw [this]
  simp
 ·obtain⟨c,r,e1,e2⟩:=i4i z
  rw [h8p,h,e1]
  simp [e2]
theorem k0a (T : Tx K mg A) : a1h P A.wd K mg base CX0 2 A.b7k A.b6u ["text"] j4m := by
 have b3i:a1h P A.wd K mg base CX0 1 _ _ _ _:=f1k T
 refine T.c2s.ok g2v (fun vs H Q E h=>?_) (fun cdv A' outer s H vs Q E hr h=>?_)
 ·obtain⟨_,rfl,_⟩:=g5b (by unfold j4m at h; exact h)
  rfl
 ·obtain⟨x,rfl,⟨n,hx,hn,q⟩⟩:=g5b (by unfold j4m at h; exact h)
  have hu:=hr.units
  have b0k:a2p 1 _:=hr.mono (by decide)
  have sl : Str.ofString "0" = ⟨#[48]⟩ := by decide +kernel
  refine⟨_,(a0j (a3v (pw_or (b2g (a3t (a0n b3i b0k (by rfl) T.d1v T.a9t.kp T.d1u .nil a0p (a0g (pvF 0) a0h)))) (pw_or1 (a1m d7w (a0z a5w (by rfl) T.d9o boot_len (a0g (pvF 0) a0h)) (a2t (v:=.int 13) (by rfl) T.c0r T.a7o) (a2n _)))).pt
   (a0k (a0r d3m))
   a1k)
   (a0j (a3v (pw_and (a3t (b7j a8g PySem.F.plainAttrs_str PySem.F.slot_str_startswith PySem.F.type_str_startswith c6m (pvF 0) (a0g a1z a0h))) (pw_and1 (a1m (b7i hu) (pvF 0) a1z (a2n _)))).pt
   (a0k (a0r d3m))
   a1k)
   (a0k (a0r (a5h b9k (by rfl) T.g4a boot_int (a0g (pvF 0) a0h)))))),?_⟩
  rw [sl]
  walk_at "rd*"
  have e:txt (n:Int)=dg n:=if_neg (by omega)
  have f:h2v (txt (n:Int))=true:=by rw [e]; exact d0s.mpr ⟨d3r _,i0w _⟩
  have lx:x.length<=13:=by
   rw [<- a9g,hx,e]
   have a:=i9d 12 n (by omega)
   omega
  have sw:=i6l hx
  have hs:sizeLine=16777216:=sizeLine_eq
  rw [f,if_neg (by decide)]
  refine⟨by omega,?_⟩
  rw [if_neg ?_]
  ·exact⟨_,f7g hx (by omega),by omega,q⟩
  ·rintro (z | ⟨z1,z2⟩)
   ·omega
   ·rw [z1,Bool.true_and] at sw
    simp [z2] at sw
theorem j2e(x:Rat):(x.den:Int)≠0:=by
 have:=x.den_pos
 omega
theorem f8u(x y:Rat):(x.den:Int)*(y.den:Int)≠0:=Int.mul_ne_zero (j2e x) (j2e y)
theorem i6m (T : Tx K mg A) : a1h P A.wd K mg base CX0 3 A.g2y A.f7l ["one", "other"] i5v := by
 have a9o:a1h P A.wd K mg base CX0 2 _ _ _ _:=c4i T
 refine T.g7c.ok j3y (fun vs H Q E h=>?_) (fun cdv A' outer s H vs Q E hr h=>?_)
 ·obtain⟨_,_,rfl,_⟩:=f4h (by unfold i5v at h; exact h)
  rfl
 ·obtain⟨p,q,rfl,⟨x,y,⟨hp,hq,b1,b2,b3,b4⟩,k⟩⟩:=f4h (by unfold i5v at h; exact h)
  have hu:=hr.units
  have a7m:a2p 2 _:=hr.mono (by decide)
  unfold a9v at hp hq
  refine⟨_,(a0k (a0r (a0n a9o a7m (by rfl) T.c9g T.b1r.kp T.c8z .nil a0p (a0g (a1l a2z (a1l a5l (a0v a3s (pvF 0) a0i (fun _ _=>rfl)) (a0v a3s (pvF 1) a0i (fun _ _=>rfl))) (a1l a5l (a0v a3s (pvF 1) a0i (fun _ _=>rfl)) (a0v a3s (pvF 0) a0i (fun _ _=>rfl)))) (a0g (a1l a5l (a0v a3s (pvF 0) a0i (fun _ _=>rfl)) (a0v a3s (pvF 1) a0i (fun _ _=>rfl))) a0h))))),?_⟩
  walk_at "rd*"
  refine ⟨by walk_at "mul", by walk_at "mul", by walk_at "mul", f8u x y, by walk_at "le", by walk_at "le", ?_⟩
  rw [h0i]
  exact k
theorem i6n (T : Tx K mg A) : a1h P A.wd K mg base CX0 3 A.f2k A.f0v ["one", "other"] i5w := by
 have a9o:a1h P A.wd K mg base CX0 2 _ _ _ _:=c4i T
 refine T.f2s.ok i9l (fun vs H Q E h=>?_) (fun cdv A' outer s H vs Q E hr h=>?_)
 ·obtain⟨_,_,rfl,_⟩:=f4h (by unfold i5w at h; exact h)
  rfl
 ·obtain⟨p,q,rfl,⟨x,y,⟨hp,hq,b1,b2,b3,b4⟩,k⟩⟩:=f4h (by unfold i5w at h; exact h)
  have hu:=hr.units
  have a7m:a2p 2 _:=hr.mono (by decide)
  unfold a9v at hp hq
  refine⟨_,(a0k (a0r (a0n a9o a7m (by rfl) T.c9g T.b1r.kp T.c8z .nil a0p (a0g (a1l a5l (a0v a3s (pvF 0) a0i (fun _ _=>rfl)) (a0v a3s (pvF 1) a0i (fun _ _=>rfl))) (a0g (a1l a5l (a0v a3s (pvF 0) a0i (fun _ _=>rfl)) (a0v a3s (pvF 1) a0i (fun _ _=>rfl))) a0h))))),?_⟩
  walk_at "rd*"
  refine ⟨by walk_at "mul", by walk_at "mul", f8u x y, by walk_at "le", by walk_at "le", ?_⟩
  rw [g4h]
  exact k
theorem g4k (T : Tx K mg A) : a1h P A.wd K mg base CX0 1 A.c9k A.c7q ["one"] i5x := by
 refine T.b9t.ok i1k (fun vs H Q E h=>?_) (fun cdv A' outer s H vs Q E hr h=>?_)
 ·obtain⟨_,rfl,_⟩:=a6y (by unfold i5x at h; exact h)
  rfl
 ·obtain⟨p,rfl,⟨x,hp,k⟩⟩:=a6y (by unfold i5x at h; exact h)
  have hu:=hr.units
  unfold a9v at hp
  refine⟨_,(a0k (a0r (a4u (a0g (a0z a5y (by rfl) T.d9n boot_abs (a0g (a0v a3s (pvF 0) a0i (fun _ _=>rfl)) a0h)) (a0g (a0v a3s (pvF 0) a0i (fun _ _=>rfl)) a0h))))),?_⟩
  walk_at "rd*"
  intro b H1 n1 S1 h1
  refine k _ _ ⟨b,rfl,n1,S1,?_⟩
  rw [h1]
  unfold a9v
  rw [d3j,c0k]
theorem h0j (T : Tx K mg A) : a1h P A.wd K mg base CX0 1 A.c1i A.c1j ["one", "other"] h6y := by
 refine T.c2t.ok h6e (fun vs H Q E h=>?_) (fun cdv A' outer s H vs Q E hr h=>?_)
 ·obtain⟨_,_,rfl,_⟩:=f4h (by unfold h6y at h; exact h)
  rfl
 ·obtain⟨p,q,rfl,⟨x,y,⟨hp,hq,b1,b2,b3,b4⟩,k⟩⟩:=f4h (by unfold h6y at h; exact h)
  have hu:=hr.units
  unfold a9v at hp hq
  refine⟨_,(a0k (a0r (d7t of_lt (a1l a5l (a0v a3s (pvF 0) a0i (fun _ _=>rfl)) (a0v a3s (pvF 1) a0i (fun _ _=>rfl))) (a1l a5l (a0v a3s (pvF 1) a0i (fun _ _=>rfl)) (a0v a3s (pvF 0) a0i (fun _ _=>rfl))) (a2n _)))),?_⟩
  walk_at "rd*"
  exact ⟨by walk_at "mul", by walk_at "mul"⟩
theorem j2f{p q:Int}(h:1<=q)(g:Int.gcd p q=1):∃ y:Rat,y.num=p/\(y.den:Int)=q:=by
 refine⟨⟨p,q.toNat,by omega,?_⟩,rfl,?_⟩
 ·show Nat.gcd p.natAbs q.toNat=1
  rw [show q.toNat=q.natAbs by omega]
  exact g
 ·show ((q.toNat:Nat):Int)=q
  omega
theorem h4m{x y:Rat}{a b c d:Nat}(h1:intBits x.num<=a)(h2:intBits (x.den:Int)<=b)(h3:intBits y.num<=c)(h4:intBits (y.den:Int)<=d):intBits (x*y).num<=a+c/\intBits ((x*y).den:Int)<=b+d:=by
 rw [<- g4h]
 have ne:(x.den:Int)*(y.den:Int)≠0:=f8u x y
 exact⟨f1h ne (intBits_mul_le h1 h3),f1i ne (intBits_mul_le h2 h4)⟩
theorem i2b{x y:Rat}{a:Nat}(h1:intBits x.num<=a)(h2:intBits (x.den:Int)<=a)(h3:intBits y.num<=a)(h4:intBits (y.den:Int)<=a):intBits (x+y).num<=a+a+1/\intBits ((x+y).den:Int)<=a+a:=by
 rw [<- h0i]
 have ne:(x.den:Int)*(y.den:Int)≠0:=f8u x y
 refine⟨f1h ne ?_,f1i ne (intBits_mul_le h2 h4)⟩
 have:=intBits_add_le (intBits_mul_le h1 h4) (intBits_mul_le h3 h2)
 omega
theorem h9i.rts{l:Addr}{H:Hp}{qs:List Addr}{ss:List Rat}(h:h9i l H qs ss):Rts H qs ss:=⟨h.1,fun i q s e1 e2=>(h.2 i q s e1 e2).2⟩
theorem Rts.same{H H':Hp}{qs:List Addr}{ss:List Rat}(h:Rts H qs ss)(S:Same H H'):Rts H' qs ss:=⟨h.1,fun i q s e1 e2=>S _ _ (h.2 i q s e1 e2)⟩
theorem Rts.f2u{o:Addr}{H H':Hp}{qs:List Addr}{ss:List Rat}{C dx:Addr}{fs:List (Str×V)}(h:Rts H qs ss)(ho:H o=some (.ins C dx fs))(S:b1u o H H'):Rts H' qs ss :=
 ⟨h.1,fun i q s e1 e2=>S _ _ (fun z=>by have:=h.2 i q s e1 e2; rw [z,ho] at this; cases this) (h.2 i q s e1 e2)⟩
theorem h9i.f2u{l:Addr}{H H':Hp}{qs:List Addr}{ss:List Rat}(h:h9i l H qs ss)(S:b1u l H H'):h9i l H' qs ss:=⟨h.1,fun i q s e1 e2=>⟨(h.2 i q s e1 e2).1,S _ _ (h.2 i q s e1 e2).1 (h.2 i q s e1 e2).2⟩⟩
theorem h9i.same{l:Addr}{H H':Hp}{qs:List Addr}{ss:List Rat}(h:h9i l H qs ss)(S:Same H H'):h9i l H' qs ss:=h.f2u fun b o _ e=>S b o e
theorem h9i.nil{l:Addr}{H:Hp}:h9i l H [] []:=⟨rfl,fun i q s e=>by simp at e⟩
theorem h9i.snoc{l:Addr}{H:Hp}{qs:List Addr}{ss:List Rat}{q:Addr}{s:Rat}(h:h9i l H qs ss)(hl:q≠l)(hq:H q=some (.tup (a9v s))):h9i l H (qs++[q]) (ss++[s]):=by
 refine⟨by rw [List.length_append,List.length_append,h.1]; rfl,fun i q' s' e1 e2=>?_⟩
 by_cases hi:i < qs.length
 ·rw [List.getElem?_append_left hi] at e1
  rw [List.getElem?_append_left (by rw [<- h.1]; exact hi)] at e2
  exact h.2 i q' s' e1 e2
 ·rw [List.getElem?_append_right (by omega)] at e1
  rw [List.getElem?_append_right (by rw [<- h.1]; omega)] at e2
  rw [<- h.1] at e2
  cases hz:i - qs.length with
  | zero =>
   rw [hz] at e1 e2
   simp at e1 e2
   subst e1 e2
   exact⟨hl,hq⟩
  | succ n =>
   rw [hz] at e1
   simp at e1
theorem Rts.get{H:Hp}{qs:List Addr}{ss:List Rat}(h:Rts H qs ss){i:Nat}{v:V}(e:(qs.map V.ref)[i]? = some v):∃ q s,v = .ref q/\ss[i]? = some s/\H q=some (.tup (a9v s)):=by
 rw [List.getElem?_map] at e
 obtain⟨q,hq,rfl⟩:=Option.map_eq_some_iff.mp e
 have hi:i < qs.length:=(List.getElem?_eq_some_iff.mp hq).1
 have hr : ss[i]? = some (ss[i]'(by rw [<- h.1]; exact hi)) := List.getElem?_eq_getElem _
 exact⟨q,_,rfl,hr,h.2 i q _ hq hr⟩
theorem Crn.same{H H':Hp}{ps:List Addr}{cs:List (Int×Rat)}(h:Crn H ps cs)(S:Same H H'):Crn H' ps cs:=⟨h.1,fun i p c e1 e2=>(h.2 i p c e1 e2).elim fun g z=>⟨g,S _ _ z.1,S _ _ z.2⟩⟩
theorem Crn.f2u{o:Addr}{H H':Hp}{ps:List Addr}{cs:List (Int×Rat)}{C dx:Addr}{fs:List (Str×V)}(h:Crn H ps cs)(ho:H o=some (.ins C dx fs))(S:b1u o H H'):Crn H' ps cs :=
 ⟨h.1,fun i p c e1 e2=>(h.2 i p c e1 e2).elim fun g z=>⟨g,S _ _ (fun e=>by have:=z.1; rw [e,ho] at this; cases this) z.1,S _ _ (fun e=>by have:=z.2; rw [e,ho] at this; cases this) z.2⟩⟩
theorem Crn.get{H:Hp}{ps:List Addr}{cs:List (Int×Rat)}(h:Crn H ps cs){i:Nat}{v:V}(e:(ps.map V.ref)[i]? = some v):∃ p c g,v = .ref p/\cs[i]? = some c/\H p=some (.tup [.int c.1,.ref g])/\H g=some (.tup (a9v c.2)):=by
 rw [List.getElem?_map] at e
 obtain⟨p,hp,rfl⟩:=Option.map_eq_some_iff.mp e
 have hi:i < ps.length:=(List.getElem?_eq_some_iff.mp hp).1
 have hr : cs[i]? = some (cs[i]'(by rw [<- h.1]; exact hi)) := List.getElem?_eq_getElem _
 obtain⟨g,h1,h2⟩:=h.2 i p _ hp hr
 exact⟨p,_,g,rfl,hr,h1,h2⟩
theorem h4n(bs:List Int)(b:Int):i3a (bs++[b])=(Int.lcm (i3a bs) b:Int):=by
 unfold i3a
 rw [List.foldl_append]
 rfl
theorem k0b{α:Type}{p:List α->Prop}(h0:p [])(hs:∀ l x,p l->p (l++[x]))(l:List α):p l:=by
 have:∀ l:List α,p l.reverse:=fun l=>by
  induction l with
  | nil=>exact h0
  | cons x l ih=>rw [List.reverse_cons]; exact hs _ _ ih
 have z:=this l.reverse
 rwa [List.reverse_reverse] at z
theorem i6o{a b:Int}{m n:Nat}(h:¬ (a=0/\b=0))(ha:intBits a<=m)(hb:intBits b<=n):intBits (Int.lcm a b:Int)<=m+n:=by
 refine intBits_le_of_natAbs ?_ (intBits_mul_le ha hb)
 have hp:0 < Int.gcd a b:=by
  rw [Int.gcd_pos_iff]
  omega
 rw [Int.natAbs_natCast,Int.natAbs_mul,<- Int.gcd_mul_lcm]
 exact Nat.le_mul_of_pos_left _ hp
theorem i6p(bs:List Int):(∀ b∈bs,1<=b/\intBits b<=64)->1<=i3a bs/\(∀ b∈bs,b∣i3a bs)/\intBits (i3a bs)<=1+64*bs.length:=by
 induction bs using k0b with
 | h0=>exact fun _=>⟨by decide,(fun b hb=>by cases hb),by decide⟩
 | hs l x ih =>
  intro h
  have i:=ih fun b hb=>h b (List.mem_append_left _ hb)
  have hx:=h x (List.mem_append_right _ (List.mem_singleton.mpr rfl))
  rw [h4n,List.length_append,List.length_singleton]
  have lp:0 < Int.lcm (i3a l) x:=Int.lcm_pos (by omega) (by omega)
  refine⟨by omega,fun b hb=>?_,Nat.le_trans (i6o (by omega) i.2.2 hx.2) (by omega)⟩
  rcases List.mem_append.mp hb with e | e
  ·exact Int.dvd_trans (i.2.1 b e) (Int.dvd_lcm_left _ _)
  ·rw [List.mem_singleton.mp e]
   exact Int.dvd_lcm_right _ _
theorem i6q (T : Tx K mg A) : a1h P A.wd K mg base CX0 3 A.a7h A.a7w ["bottoms"] h0c := by
 have i2c:a1h P A.wd K mg base CX0 2 _ _ _ _:=h7q T
 refine T.b2z.ok b6s (fun vs H Q E h=>?_) (fun cdv A' outer s H vs Q E hr h=>?_)
 ·obtain⟨_,rfl,_⟩:=a6y (by unfold h0c at h; exact h)
  rfl
 ·obtain⟨p,rfl,⟨bs,hp,O,L,q⟩⟩:=a6y (by unfold h0c at h; exact h)
  have hu:=hr.units
  have h7s:a2p 2 _:=hr.mono (by decide)
  refine⟨_,(a0j (a1n (i:=1) b6s.nd rfl (Or.inl rfl) a0i)
   (a0j (b6j PassesOwn.never rfl (a5q (pvF 0)) (a5g (i:=2) b6s.nd rfl (Or.inl rfl))
   (a0k (a1n (i:=1) b6s.nd rfl (Or.inl rfl) (a0n i2c h7s (by rfl) T.i1m T.d3y.kp T.i1l .nil a0p (a0g (pvF 1) (a0g (pvF 2) a0h))))))
   (a0k (a0r (pvF 1))))),?_⟩
  walk_at "rd"
  refine⟨⟨_,SqL.of hp⟩,?_⟩
  obtain⟨Pv,pin,pout⟩:=f6w (fun i σ H'=>∃ (v2:Option V),σ = [some (.ref p),some (.int (i3a (bs.take i))),v2]/\H'=H)
  refine c4v (xs:=bs.map V.int) Pv (pin _ _ _ ⟨_,rfl,rfl⟩) ?_ ?_ ?_
  ·intro i σ H2 hi hp'
   obtain⟨v2,rfl,rfl⟩:=pout _ _ _ hp'
   exact SqL.of hp
  ·intro i v σ H2 hv hp'
   obtain⟨v2,rfl,rfl⟩:=pout _ _ _ hp'
   rw [List.getElem?_map] at hv
   obtain⟨b,hb,rfl⟩:=Option.map_eq_some_iff.mp hv
   have Ob:=O b (List.mem_of_getElem? hb)
   have lk:=i6p (bs.take i) fun b hb=>O b (List.mem_of_mem_take hb)
   have hl:(bs.take i).length<=24:=by rw [List.length_take]; omega
   have et:bs.take (i+1)=bs.take i++[b]:=by rw [List.take_add_one,hb]; rfl
   walk_at "rd"
   refine⟨by omega,by omega,pin _ _ _ ⟨some (.int b),?_,rfl⟩⟩
   rw [et,h4n]
  ·intro σ H2 hp'
   obtain⟨v2,rfl,rfl⟩:=pout _ _ _ hp'
   rw [List.length_map,List.take_of_length_le (Nat.le_refl _)]
   walk_at "rd"
   exact q
theorem i9z (T : Tx K mg A) : a1h P A.wd K mg base CX0 1 A.g2z A.f7m ["one", "bottom"] h6z := by
 refine T.g7d.ok j3z (fun vs H Q E h=>?_) (fun cdv A' outer s H vs Q E hr h=>?_)
 ·obtain⟨_,_,rfl,_⟩:=d3t (by unfold h6z at h; exact h)
  rfl
 ·obtain⟨p,S,rfl,⟨y,hp,b1,b2,b3,q⟩⟩:=d3t (by unfold h6z at h; exact h)
  have hu:=hr.units
  unfold a9v at hp
  have dp:=y.den_pos
  refine⟨_,(a0k (a0r (a1l a5l (a0v a3s (pvF 0) a0i (fun _ _=>rfl)) (a1l a5v (pvF 1) (a0v a3s (pvF 0) a0i (fun _ _=>rfl)))))),?_⟩
  walk_at "rd*"
  exact⟨⟨by omega,by omega⟩,IntMulOk.of_le b1 (intBits_fdiv_le b3) (by decide)⟩
theorem j5e(a:Rat):a*((a.den:Int):Rat)=(a.num:Rat):=by
 have h:((a.den:Int):Rat)≠0:=fun e=>by
  have:=Rat.intCast_inj.mp (e.trans (by rfl:(0:Rat)=((0:Int):Rat)))
  have:=a.den_pos
  omega
 conv=>lhs; lhs; rw [<- Rat.num_divInt_den a]
 rw [Rat.divInt_eq_div,Rat.div_def,Rat.mul_assoc,Rat.inv_mul_cancel _ h,Rat.mul_one]
theorem k0c{iv:Rat}{n:Int}(h1:iv.num=1)(h2:(iv.den:Int)=n)(x:Rat):x*iv*(n:Rat)=x:=by
 rw [<- h2,Rat.mul_assoc,j5e,h1]
 exact Rat.mul_one x
theorem i6r (T : Tx K mg A) : a1h P A.wd K mg base CX0 4 A.b6w A.b8j ["corners"] h0d := by
 have i6s:a1h P A.wd K mg base CX0 3 _ _ _ _:=i6m T
 have h0k:a1h P A.wd K mg base CX0 3 _ _ _ _:=i6n T
 refine T.c9r.ok c5g (fun vs H Q E h=>?_) (fun cdv A' outer s H vs Q E hr h=>?_)
 ·obtain⟨_,rfl,_⟩:=a6y (by unfold h0d at h; exact h)
  rfl
 ·obtain⟨ct,rfl,⟨ps,cs,hct,R,O,L1,L12,k⟩⟩:=a6y (by unfold h0d at h; exact h)
  have hu:=hr.units
  have h7t:a2p 3 _:=hr.mono (by decide)
  have g1h:a2p 3 _:=hr.mono (by decide)
  have pl:=R.1
  refine⟨_,(a0j (a1n (i:=1) c5g.nd rfl (Or.inl rfl) (d4u a0h))
   (a0j (b6j PassesOwn.never rfl (h8s (by rfl) T.i9n (a0g (pvF 0) (a0g (a5p k3s (pvF 0) (a5r a0i) a6z) a0h))) (f7h (n:=2) rfl (a6r (a5g (i:=2) c5g.nd rfl (Or.inl rfl)) (a6r (a5g (i:=3) c5g.nd rfl (Or.inl rfl)) f0o)))
   (a0j (a1n (i:=4) c5g.nd rfl (Or.inl rfl) (a0n i6s h7t (by rfl) T.j1q T.g7c.kp T.j1p .nil a0p (a0g (a0v a3s (pvF 3) a0i (fun _ _=>rfl)) (a0g (a0n h0k g1h (by rfl) T.h6q T.f2s.kp T.h6p .nil a0p (a0g (a4u (a0g (j6u j0s a0i) (a0g a0i a0h))) (a0g (a0v a3s (pvF 2) a0i (fun _ _=>rfl)) a0h))) a0h))))
   (a0k (b1t (b7j f0n PySem.F.plainAttrs_list PySem.F.slot_list_append PySem.F.type_list_append c7o (pvF 1) (a0g (a0n h0k g1h (by rfl) T.h6q T.f2s.kp T.h6p .nil a0p (a0g (pvF 4) (a0g (a4u (a0g a0i (a0g (a1l f3s (a0v a3s (pvF 3) a0i (fun _ _=>rfl)) (a0v a3s (pvF 2) a0i (fun _ _=>rfl))) a0h))) a0h))) a0h))))))
   (a0j (b1t (b7j f0n PySem.F.plainAttrs_list PySem.F.slot_list_append PySem.F.type_list_append c7o (pvF 1) (a0g (a4u (a0g a0i (a0g a0i a0h))) a0h)))
   (a0k (a0r (pvF 1)))))),?_⟩
  walk_at "rd"
  refine⟨Nat.zero_le _,fun l H1 n1 S1 h1=>?_⟩
  have k1x:=S1 _ _ hct
  walk_at "rd*"
  refine⟨fun z=>?_,fun c2 H2 n2 S2 h2=>?_⟩
  ·have:=z.1
   rw [show (some (1:Int))=some ((1:Nat):Int) from rfl,HT.h5i] at this
   omega
  have e2:d7r (ps.map V.ref) (some 1) none=(ps.drop 1).map V.ref:=by
   show g5a (ps.map V.ref) (some ((1:Nat):Int)) none=_
   rw [b2h,List.map_drop]
  rw [e2] at h2
  have k0d:=S2 _ _ k1x
  have h12:=S2 _ _ h1
  clear k1x h1
  walk_at "rd*"
  obtain⟨Pv,pin,pout⟩:=f6w (fun i σ H'=>∃ (v2 v3 v4:Option V) (qs:List Addr) (ss:List Rat),σ = [some (.ref ct),some (.ref l),v2,v3,v4]/\Same H H'/\H' c2=some (.tup ((ps.drop 1).map V.ref))/\H' l=some (.lst (qs.map V.ref))/\h9i l H' qs ss/\ss.length=i/\(∀ s∈ss,intBits s.num<=60/\intBits (s.den:Int)<=60)/\∀ j s,ss[j]? = some s->SlR cs j s)
  refine g8h (xs:=ps.map V.ref) (ys:=(ps.drop 1).map V.ref) Pv (pin _ _ _ ⟨_,_,_,[],[],rfl,S1.trans S2,h2,h12,.nil,rfl,(fun s hs=>by cases hs),(fun j s e=>by simp at e)⟩) ?_ ?_ ?_
  ·intro i σ H3 hp
   obtain⟨v2,v3,v4,qs,ss,rfl,S3,h3,hl3,R3,L3,B3,V3⟩:=pout _ _ _ hp
   exact⟨SqT.of (S3 _ _ hct),SqT.of h3⟩
  ·intro i x y σ H3 p H4 hx hy hp np S4 h4
   obtain⟨v2,v3,v4,qs,ss,rfl,S3,h3,hl3,R3,L3,B3,V3⟩:=pout _ _ _ hp
   obtain⟨pc,c,g,rfl,hc,hpc,hg⟩:=R.get hx
   have hy':(ps.map V.ref)[i+1]? = some y:=by
    rw [List.map_drop,List.getElem?_drop] at hy
    rwa [Nat.add_comm] at hy
   obtain⟨pd,d,gd,rfl,hd,hpd,hgd⟩:=R.get hy'
   have Oc:=O.1 c (List.mem_of_getElem? hc)
   have Od:=O.1 d (List.mem_of_getElem? hd)
   have lt:=O.2 i c d hc hd
   have S04:=S3.trans S4
   have hpc4:=S04 _ _ hpc
   have hpd4:=S04 _ _ hpd
   clear k0d h12 h2
   walk_at "rd*"
   refine fun m H5 n5 S5 h5=>?_
   have S05:=S04.trans S5
   have hpc5:=S05 _ _ hpc
   clear hpc4
   walk_at "rd*"
   refine⟨-1,c.2,⟨h5,S05 _ _ hg,by decide,by decide,by omega,by omega⟩,?_⟩
   rintro _ H6 ⟨t6,rfl,n6,S6,h6⟩
   have S06:=S05.trans S6
   have m1:=h4m (x := -1) (y:=c.2) (a:=1) (b:=1) (by decide) (by decide) Oc.2.2.1 Oc.2.2.2
   walk_at "rd"
   refine⟨d.2,-1*c.2,⟨S06 _ _ hgd,h6,by omega,by omega,by omega,by omega⟩,?_⟩
   rintro _ H7 ⟨t7,rfl,n7,S7,h7⟩
   have S07:=S06.trans S7
   have m2:=i2b (x:=d.2) (y := -1*c.2) (a:=11) (by omega) (by omega) (by omega) (by omega)
   have hpc7:=S07 _ _ hpc
   have hpd7:=S07 _ _ hpd
   have hl7:=S7 _ _ (S6 _ _ (S5 _ _ (S4 _ _ hl3)))
   clear hpd4 hpc5 h5 h4
   walk_at "rd*"
   refine fun u H8 n8 S8 h8=>?_
   obtain⟨iv,in1,in2⟩:=j2f (p:=1) (q:=d.1 - c.1) (by omega) (by rw [Int.gcd_one_left])
   have h8':H8 u=some (.tup (a9v iv)):=by rw [h8,<- in1,<- in2]; rfl
   have b1:intBits iv.num<=1:=by rw [in1]; decide
   have b2:intBits (iv.den:Int)<=20:=by rw [in2]; exact intBits_le_iff.mpr (Nat.lt_of_le_of_lt (by omega:(d.1 - c.1).natAbs<=200000) (by decide))
   have m3:=h4m (x:=d.2 + -1*c.2) (y:=iv) m2.1 m2.2 b1 b2
   walk_at "rd"
   refine⟨d.2 + -1*c.2,iv,⟨S8 _ _ h7,h8',by omega,by omega,by omega,by omega⟩,?_⟩
   rintro _ H9 ⟨t9,rfl,n9,S9,h9⟩
   have S79:=S8.trans S9
   have hl9:=S79 _ _ hl7
   have tl:t9≠l:=fun e=>by rw [e,S8 _ _ hl7] at n9; cases n9
   have ql:=R3.1
   have hc2l:c2≠l:=fun e=>by rw [e,hl3] at h3; cases h3
   clear hpc7 hpd7 h8
   walk_at "rd*"
   refine⟨by rw [sizeLine_eq]; have:=(List.getElem?_eq_some_iff.mp hc).1; omega,?_⟩
   rintro _ H10 ⟨rfl,B10,h10⟩
   have S39:Same H3 H9:=S4.trans (S5.trans (S6.trans (S7.trans S79)))
   refine pin _ _ _ ⟨_,_,_,qs++[t9],ss++[(d.2 + -1*c.2)*iv],rfl,(S3.trans S39).step n1 B10,B10 _ _ hc2l (S39 _ _ h3),by rw [h10,List.map_append]; rfl,((R3.same S39).snoc tl h9).f2u B10,by rw [List.length_append,L3]; rfl,fun s hs=>?_,fun j s e=>?_⟩
   ·rcases List.mem_append.mp hs with z | z
    ·exact B3 s z
    ·rw [List.mem_singleton.mp z]
     omega
   ·rcases Nat.lt_or_ge j ss.length with hj | hj
    ·rw [List.getElem?_append_left hj] at e
     exact V3 j s e
    ·rw [List.getElem?_append_right hj] at e
     have hj0:j - ss.length=0:=by
      rcases Nat.eq_zero_or_pos (j - ss.length) with z | z
      ·exact z
      ·rw [List.getElem?_eq_none (by rw [List.length_singleton]; omega)] at e
       cases e
     rw [hj0] at e
     cases e
     have ji:j=i:=by omega
     subst ji
     intro c' d' hc' hd'
     rw [hc] at hc'
     rw [hd] at hd'
     cases hc'
     cases hd'
     rw [k0c in1 in2]
     rw [Rat.sub_eq_add_neg,Rat.neg_mul,Rat.one_mul]
  ·intro σ H3 hp
   obtain⟨v2,v3,v4,qs,ss,rfl,S3,h3,hl3,R3,L3,B3,V3⟩:=pout _ _ _ hp
   have ql:=R3.1
   rw [List.length_map,List.length_map,List.length_drop] at L3
   clear k0d h12 h2
   walk_at "rd*"
   refine fun u H4 n4 S4 h4=>?_
   have hl4:=S4 _ _ hl3
   have ul:u≠l:=fun e=>by rw [e,hl3] at n4; cases n4
   have h4':H4 u=some (.tup (a9v 0)):=h4
   walk_at "rd*"
   refine⟨by rw [sizeLine_eq]; omega,?_⟩
   rintro _ H5 ⟨rfl,B5,h5⟩
   walk_at "rd"
   refine k l H5 (qs++[u]) (ss++[0]) n1 ((S3.trans S4).step n1 B5) (by rw [h5,List.map_append]; rfl) (((R3.same S4).snoc ul h4').f2u B5).rts (by rw [List.length_append,List.length_singleton]; omega) (fun s hs=>?_) (fun j s e=>?_) ?_
   ·rcases List.mem_append.mp hs with z | z
    ·exact B3 s z
    ·rw [List.mem_singleton.mp z]
     exact⟨by decide,by decide⟩
   ·rcases Nat.lt_or_ge j ss.length with hj | hj
    ·rw [List.getElem?_append_left hj] at e
     exact V3 j s e
    ·intro c' d' hc' hd'
     have:=(List.getElem?_eq_some_iff.mp hd').1
     omega
   ·rw [List.getElem?_append_right (by omega),show cs.length - 1 - ss.length=0 by omega]
    rfl
theorem g1i(n:Int)(m:Nat):(i5y n m).length=m+1:=by unfold i5y; simp
theorem h0l{n:Int}{m i:Nat}(h:i < m+1):(i5y n m).getD i 0=n ^ i:=by
 unfold i5y
 rw [List.getD_eq_getElem?_getD,List.getElem?_map,List.getElem?_range h]
 rfl
theorem c0l{n:Int}(h:intBits n<=10):∀ j:Nat,intBits (n ^ j)<=1+10*j
 | 0=>by rw [Int.pow_zero]; decide
 | j+1=>by
  rw [Int.pow_succ]
  exact Nat.le_trans (intBits_mul_le (c0l h j) h) (by omega)
theorem k0f (T : Tx K mg A) : a1h P A.wd K mg base CX0 1 A.b6v A.b7q ["number", "most"] j4n := by
 refine T.c2u.ok d8k (fun vs H Q E h=>?_) (fun cdv A' outer s H vs Q E hr h=>?_)
 ·obtain⟨_,_,rfl,_⟩:=g0y (by unfold j4n at h; exact h)
  rfl
 ·obtain⟨n,t,rfl,⟨m,e,hm,hb,k⟩⟩:=g0y (by unfold j4n at h; exact h)
  subst e
  have hu:=hr.units
  refine⟨_,(a0j (a1n (i:=2) d8k.nd rfl (Or.inl rfl) (d4u (a0g a0i a0h)))
   (a0j (b6j PassesOwn.never rfl (d3n (by rfl) T.g4b (a0g (pvF 1) a0h)) (a5g (i:=3) d8k.nd rfl (Or.inl rfl))
   (a0k (b1t (b7j f0n PySem.F.plainAttrs_list PySem.F.slot_list_append PySem.F.type_list_append c7o (pvF 2) (a0g (a1l a5l (a0v a3s (pvF 2) (pvF 3) (fun _ _=>rfl)) (pvF 0)) a0h)))))
   (a0k (a0r (pvF 2))))),?_⟩
  walk_at "rd"
  refine⟨by decide,?_⟩
  intro l H1 n1 S1 h1
  walk_at "rd*"
  refine⟨by omega,by omega,?_⟩
  rw [Int.toNat_natCast]
  obtain⟨Pv,pin,pout⟩:=f6w (fun i σ H'=>∃ v3:Option V,σ = [some (.int n),some (.int m),some (.ref l),v3]/\Same H H'/\H' l=some (.lst ((i5y n i).map V.int)))
  refine f6u (lo:=0) Pv (pin _ _ _ ⟨_,rfl,S1,by rw [h1]; show _=some (HO.lst [V.int (n ^ 0)]); rw [Int.pow_zero]⟩) ?_ ?_
  ·intro i σ H2 hi hp
   obtain⟨v3,rfl,S2,h2⟩:=pout _ _ _ hp
   have e1:=i8p (ns:=i5y n i) (i:=i) (by rw [g1i]; omega)
   rw [h0l (by omega)] at e1
   have pl:=g1i n i
   clear h1 hp
   walk_at "rd*"
   refine⟨IntMulOk.of_right (Nat.le_trans hb (by decide)),by rw [sizeLine_eq]; omega,?_⟩
   rintro _ H3 ⟨rfl,B3,h3⟩
   refine pin _ _ _ ⟨_,rfl,S2.step n1 B3,?_⟩
   rw [h3]
   unfold i5y
   rw [List.range_succ (n:=i+1),List.map_append,List.map_append]
   show _=some (HO.lst (_++[V.int (n ^ (i+1))]))
   rw [Int.pow_succ]
  ·intro σ H2 hp
   obtain⟨v3,rfl,S2,h2⟩:=pout _ _ _ hp
   walk_at "rd"
   exact k _ _ ⟨l,rfl,n1,S2,h2⟩
theorem h9n(p q:Int)(t:Nat):(g7q p q t).length=t+1:=by unfold g7q; simp
theorem h9o (T : Tx K mg A) : a1h P A.wd K mg base CX0 2 A.c1m A.b7r ["self", "gain", "many", "turns"] (h7a A.a8k) := by
 have g4l:a1h P A.wd K mg base CX0 1 _ _ _ _:=k0f T
 have a3i:=T.a3i
 have a1u:=T.a1u
 have a1v:=T.a1v
 have a1j:=T.a1j
 have a0t:=T.a0t
 have a0m:=T.a0m
 refine T.d6m.ok d8l (fun vs H Q E h=>?_) (fun cdv A' outer s H vs Q E hr h=>?_)
 ·obtain⟨_,_,_,_,rfl,_⟩:=i5a (by unfold h7a at h; exact h)
  rfl
 ·obtain⟨o,gt,n,t,rfl,⟨dx,m,tt,p,q,e1,e2,ht,bp,bq,hg,ho,k⟩⟩:=i5a (by unfold h7a at h; exact h)
  subst e1 e2
  have hu:=hr.units
  have g0q:a2p 1 _:=hr.mono (by decide)
  have gto:gt≠o:=fun e=>by rw [e,ho] at hg; cases hg
  refine⟨_,(a0j (b2j (pvF 0) (pvF 1) rfl)
   (a0j (b2j (pvF 0) (pvF 2) rfl)
   (a0j (b2j (pvF 0) (pvF 3) rfl)
   (a0j (a1n (i:=4) d8l.nd rfl (Or.inr rfl) (a0n g4l g0q (by rfl) T.g3r T.c2u.kp T.g3q .nil a0p (a0g (a0v a3s (pvF 1) a0i (fun _ _=>rfl)) (a0g (pvF 3) a0h))))
   (a0j (a1n (i:=5) d8l.nd rfl (Or.inr rfl) (a0n g4l g0q (by rfl) T.g3r T.c2u.kp T.g3q .nil a0p (a0g (a0v a3s (pvF 1) a0i (fun _ _=>rfl)) (a0g (pvF 3) a0h))))
   (a0j (b2j (pvF 0) (a5h g2c (by rfl) T.g9z boot_tuple (a0g (c5q (d3n (by rfl) T.g4b (a0g (a1l a2z (pvF 3) a0i) a0h)) (fun _ _ _ _ _ => (a1l a5l (a0v a3s (pvF 5) (pvF 0) (fun _ _ => rfl)) (a0v a3s (pvF 6) (a1l f3s (pvF 4) (pvF 0)) (fun _ _ => rfl)))) (d4v (sc := a0l f2i) (N := ["self", "gain", "many", "turns", "tops", "bottoms"]) rfl rfl (by decide +kernel)) rfl) a0h)) rfl)
   (a0k (b2j (pvF 0) (a0v a3s (pvF 5) (pvF 3) (fun _ _=>rfl)) rfl)))))))),?_⟩
  walk_at "rd*"
  intro H1 B1 h1
  walk_at "rd*"
  intro H2 B2 h2
  walk_at "rd*"
  intro H3 B3 h3
  have hg3:=B3 _ _ gto (B2 _ _ gto (B1 _ _ gto hg))
  walk_at "rd*"
  refine⟨tt,rfl,ht,?_⟩
  rintro _ H4 ⟨l4,rfl,n4,S4,h4⟩
  have hg4:=S4 _ _ hg3
  walk_at "rd*"
  refine⟨tt,rfl,ht,?_⟩
  rintro _ H5 ⟨l5,rfl,n5,S5,h5⟩
  have h45:=S5 _ _ h4
  have h35:=S5 _ _ (S4 _ _ h3)
  have pl1:=g1i p tt
  have pl2:=g1i q tt
  clear h4 hg4 hg3
  walk_at "rd*"
  refine⟨by omega,by omega,fun D H6 n6 S6 h6=>?_⟩
  rw [show ((tt:Int)+1).toNat=tt+1 by omega]
  refine i0u (fun i=>.int (j9q p q tt i)) n6 S6 h6 (by rw [sizeLine_eq]; omega) ?_ ?_
  ·intro i H' Q' hi S' q'
   have h4':=S' _ _ h45
   have h5':=S' _ _ h5
   have e1:=i8p (ns:=i5y p tt) (i:=i) (by omega)
   have e2:=i8p (ns:=i5y q tt) (i:=tt - i) (by omega)
   rw [h0l (by omega)] at e1 e2
   rw [show ((tt - i:Nat):Int)=(tt:Int) - (i:Int) by omega] at e2
   clear h45 h35 h5 hg ho h1 h2 h3 pl1 pl2
   walk_at "rd*"
   exact⟨IntMulOk.of_le (c0l bp i) (c0l bq (tt - i)) (by omega),q'⟩
  intro H7 S7 h7
  have e7:(List.range (tt+1)).map (fun i=>V.int (j9q p q tt i))=(g7q p q tt).map V.int:=by
   unfold g7q
   rw [List.map_map]
   rfl
  rw [e7] at h7
  walk_at "rd*"
  intro fa H8 n8 S8 h8
  have h38:=S8 _ _ (S7 _ _ h35)
  have h58:=S8 _ _ (S7 _ _ h5)
  have e2:=i8p (ns:=i5y q tt) (i:=tt) (by omega)
  rw [h0l (by omega)] at e2
  clear h45 h35 h5 h7 e7
  walk_at "rd*"
  intro H9 B9 h9
  have l5o:l5≠o:=fun e=>by
   rw [e,h38] at h58
   cases h58
  have h59:=B9 _ _ l5o h58
  clear h38 h58
  walk_at "rd*"
  intro H10 B10 h10
  have S38:Same H3 H8:=S4.trans (S5.trans (S7.trans S8))
  have fao:fa≠o:=fun e=>by
   have:=S38 _ _ h3
   rw [e] at h8
   rw [h8] at this
   cases this
  refine k fa H10 (fun b u hb e=>B10 _ _ hb (B9 _ _ hb (S38 _ _ (B3 _ _ hb (B2 _ _ hb (B1 _ _ hb e)))))) ?_ h10 (B10 _ _ fao (B9 _ _ fao h8))
  cases hn:H fa with
  | none=>rfl
  | some u =>
   exfalso
   have:=(S4.trans (S5.trans S7)) _ _ (B3 _ _ fao (B2 _ _ fao (B1 _ _ fao hn)))
   rw [this] at n8
   cases n8
theorem h9j.tps{l:Addr}{H:Hp}{qs:List Addr}{vs:List (List V)}(h:h9j l H qs vs):Tps H qs vs:=⟨h.1,fun i q s e1 e2=>(h.2 i q s e1 e2).2⟩
theorem Tps.same{H H':Hp}{qs:List Addr}{vs:List (List V)}(h:Tps H qs vs)(S:Same H H'):Tps H' qs vs:=⟨h.1,fun i q s e1 e2=>S _ _ (h.2 i q s e1 e2)⟩
theorem Tps.f2u{o:Addr}{H H':Hp}{qs:List Addr}{vs:List (List V)}{C dx:Addr}{fs:List (Str×V)}(h:Tps H qs vs)(ho:H o=some (.ins C dx fs))(S:b1u o H H'):Tps H' qs vs :=
 ⟨h.1,fun i q s e1 e2=>S _ _ (fun z=>by have:=h.2 i q s e1 e2; rw [z,ho] at this; cases this) (h.2 i q s e1 e2)⟩
theorem h9j.f2u{l:Addr}{H H':Hp}{qs:List Addr}{vs:List (List V)}(h:h9j l H qs vs)(S:b1u l H H'):h9j l H' qs vs:=⟨h.1,fun i q s e1 e2=>⟨(h.2 i q s e1 e2).1,S _ _ (h.2 i q s e1 e2).1 (h.2 i q s e1 e2).2⟩⟩
theorem h9j.same{l:Addr}{H H':Hp}{qs:List Addr}{vs:List (List V)}(h:h9j l H qs vs)(S:Same H H'):h9j l H' qs vs:=h.f2u fun b o _ e=>S b o e
theorem h9j.nil{l:Addr}{H:Hp}:h9j l H [] []:=⟨rfl,fun i q s e=>by simp at e⟩
theorem h9j.snoc{l:Addr}{H:Hp}{qs:List Addr}{vs:List (List V)}{q:Addr}{v:List V}(h:h9j l H qs vs)(hl:q≠l)(hq:H q=some (.tup v)):h9j l H (qs++[q]) (vs++[v]):=by
 refine⟨by rw [List.length_append,List.length_append,h.1]; rfl,fun i q' s' e1 e2=>?_⟩
 by_cases hi:i < qs.length
 ·rw [List.getElem?_append_left hi] at e1
  rw [List.getElem?_append_left (by rw [<- h.1]; exact hi)] at e2
  exact h.2 i q' s' e1 e2
 ·rw [List.getElem?_append_right (by omega)] at e1
  rw [List.getElem?_append_right (by rw [<- h.1]; omega)] at e2
  rw [<- h.1] at e2
  cases hz:i - qs.length with
  | zero =>
   rw [hz] at e1 e2
   simp at e1 e2
   subst e1 e2
   exact⟨hl,hq⟩
  | succ n =>
   rw [hz] at e1
   simp at e1
theorem h4o (T : Tx K mg A) : a1h P A.wd K mg base CX0 5 A.b8k A.b4k ["self", "corners"] (h0e A.a6j) := by
 have h7u:a1h P A.wd K mg base CX0 4 _ _ _ _:=i6r T
 have g4m:a1h P A.wd K mg base CX0 3 _ _ _ _:=i6q T
 have j2g:a1h P A.wd K mg base CX0 1 _ _ _ _:=i9z T
 have a2o:=T.a2o
 have a0q:=T.a0q
 have a0u:=T.a0u
 have a0y:=T.a0y
 refine T.d1s.ok f5g (fun vs H Q E h=>?_) (fun cdv A' outer s H vs Q E hr h=>?_)
 ·obtain⟨_,_,rfl,_⟩:=f4h (by unfold h0e at h; exact h)
  rfl
 ·obtain⟨o,l,rfl,⟨dx,ps,cs,ho,hl,R,O,L1,L12,k⟩⟩:=f4h (by unfold h0e at h; exact h)
  have hu:=hr.units
  have h4p:a2p 4 _:=hr.mono (by decide)
  have g1c:a2p 3 _:=hr.mono (by decide)
  have i6t:a2p 1 _:=hr.mono (by decide)
  have pl:=R.1
  have lo:l≠o:=fun e=>by rw [e,ho] at hl; cases hl
  refine⟨_,(a0j (b2j (pvF 0) (a5h g2c (by rfl) T.g9z boot_tuple (a0g (pvF 1) a0h)) rfl)
   (a0j (a1n (i:=2) f5g.nd rfl (Or.inl rfl) (a0n h7u h4p (by rfl) T.h6s T.c9r.kp T.h6r .nil a0p (a0g (a3u (pvF 0) rfl) a0h)))
   (a0j (b2j (pvF 0) (a0n g4m g1c (by rfl) T.g3z T.b2z.kp T.g3y .nil a0p (a0g (a1l a2z (c5q (a5q (pvF 1)) (fun _ _ _ _ _ => (a0v a3s (a0v a3s (pvF 0) a0i (fun _ _ => rfl)) a0i (fun _ _ => rfl))) (d4v (sc := a0l c4z) (N := ["self", "corners", "slopes"]) rfl rfl (by decide +kernel)) rfl) (c5q (a5q (pvF 2)) (fun _ _ _ _ _ => (a0v a3s (pvF 0) a0i (fun _ _ => rfl))) (d4v (sc := a0l c4z) (N := ["self", "corners", "slopes"]) rfl rfl (by decide +kernel)) rfl)) a0h)) rfl)
   (a0k (b2j (pvF 0) (a5h g2c (by rfl) T.g9z boot_tuple (a0g (h8u (h8s (by rfl) T.i9n (a0g (a3u (pvF 0) rfl) (a0g (pvF 2) a0h))) (fun _ _ _ _ _ => (a4u (a0g (a0v a3s (pvF 0) a0i (fun _ _ => rfl)) (a0g (a0n j2g i6t (by rfl) T.j1s T.g7d.kp T.j1r .nil a0p (a0g (a0v a3s (pvF 0) a0i (fun _ _ => rfl)) (a0g (h8v (K := K) (by rfl) (pvF 2) (by rfl)) a0h))) (a0g (a0n j2g i6t (by rfl) T.j1s T.g7d.kp T.j1r .nil a0p (a0g (pvF 1) (a0g (h8v (K := K) (by rfl) (pvF 2) (by rfl)) a0h))) a0h))))) (j1h (sc := a0l c4z) (N := ["self", "corners", "slopes"]) rfl rfl (by decide +kernel)) rfl) a0h)) rfl))))), ?_⟩
  walk_at "rd*"
  refine fun ct H1 n1 S1 h1=>?_
  have ho1:=S1 _ _ ho
  walk_at "rd*"
  refine fun H2 B2 h2=>?_
  have cto:ct≠o:=fun e=>by rw [e,ho] at n1; cases n1
  have k0d:=B2 _ _ cto h1
  have hl2:=B2 _ _ lo (S1 _ _ hl)
  have R2:=(R.same S1).f2u ho1 B2
  clear ho1 h1
  walk_at "rd*"
  refine⟨ps,rfl,cs,R2,O,L1,L12,fun l3 H3 qs ss n3 S3 h3 R3 L3 B3 V3 Z3=>?_⟩
  have hl3:=S3 _ _ hl2
  have R23:=R2.same S3
  have ho3:=S3 _ _ h2
  have k1y:=S3 _ _ k0d
  have ql:=R3.1
  clear hl2 k0d h2
  try walk_at "rd"
  refine⟨⟨_,SqL.of hl3⟩,fun D4 H4 n4 S4 h4=>?_⟩
  refine h8q (cs.map fun c=>V.int (c.2.den:Nat)) (by rw [List.length_map,List.length_map,pl]) n4 S4 h4 (SqL.of hl3) (by rw [List.length_map,pl,sizeLine_eq]; omega) ?_ ?_
  ·intro i x z H' Q' hx hz S' q'
   obtain⟨p,c,g,rfl,hc,hp,hg⟩:=R23.get hx
   rw [List.getElem?_map,hc] at hz
   cases hz
   have hp':=S' _ _ hp
   have hg':=S' _ _ hg
   unfold a9v at hg'
   clear ho3 k1y hl3 h3 h4 hp hg
   walk_at "rd*"
  intro H5 S5 h5
  have h35:=S5 _ _ h3
  try walk_at "rd"
  refine⟨⟨_,SqL.of h35⟩,fun D6 H6 n6 S6 h6=>?_⟩
  have R35:=R3.same S5
  refine h8q (ss.map fun s=>V.int (s.den:Nat)) (by rw [List.length_map,List.length_map,ql]) n6 S6 h6 (SqL.of h35) (by rw [List.length_map,ql,sizeLine_eq]; omega) ?_ ?_
  ·intro i x z H' Q' hx hz S' q'
   obtain⟨p,c,rfl,hc,hp⟩:=R35.get hx
   rw [List.getElem?_map,hc] at hz
   cases hz
   have hp':=S' _ _ hp
   unfold a9v at hp'
   clear ho3 k1y hl3 h3 h4 hp h35 h5 h6
   walk_at "rd*"
  intro H7 S7 h7
  have h57:=S7 _ _ h5
  clear h4 h6 h35
  walk_at "rd*"
  refine⟨by rw [sizeLine_eq]; omega,fun b8 H8 n8 S8 h8=>?_⟩
  have e8:cs.map (fun c=>V.int (c.2.den:Nat))++ss.map (fun s=>V.int (s.den:Nat))=((cs.map fun c=>(c.2.den:Int))++ss.map fun s=>(s.den:Int)).map V.int:=by
   rw [List.map_append,List.map_map,List.map_map]
   rfl
  rw [e8] at h8
  have S38:Same H3 H8:=S5.trans (S7.trans S8)
  have ho8:=S38 _ _ ho3
  have k6a:=S38 _ _ k1y
  have k1z:=S38 _ _ h3
  have R8:=R23.same S38
  have Q8:=R3.same S38
  have bk:∀ b∈(cs.map fun c=>(c.2.den:Int))++ss.map fun s=>(s.den:Int),1<=b/\intBits b<=64:=fun b hb=>by
   rcases List.mem_append.mp hb with z | z
   ·obtain⟨c,hc,rfl⟩:=List.mem_map.mp z
    have:=O.1 c hc
    have:=c.2.den_pos
    omega
   ·obtain⟨s,hs,rfl⟩:=List.mem_map.mp z
    have:=B3 s hs
    have:=s.den_pos
    omega
  have lk:=i6p _ bk
  have dv:=lk.2.1
  have ll:((cs.map fun c=>(c.2.den:Int))++ss.map fun s=>(s.den:Int)).length=cs.length+ss.length:=by simp
  clear h57 h7 h5 ho3 k1y hl3
  walk_at "rd"
  refine⟨_,h8,bk,by omega,?_⟩
  rw [ll] at lk
  have hSw:SwOk cs ss (i3a ((cs.map fun c=>(c.2.den:Int))++ss.map fun s=>(s.den:Int))):=⟨L3,V3,Z3,lk.1,by omega,fun c hc=>dv _ (List.mem_append_left _ (List.mem_map.mpr ⟨c,hc,rfl⟩)),fun s hs=>dv _ (List.mem_append_right _ (List.mem_map.mpr ⟨s,hs,rfl⟩)),fun s hs=>(B3 s hs).1,by omega,rfl⟩
  clear dv
  generalize i3a ((cs.map fun c=>(c.2.den:Int))++ss.map fun s=>(s.den:Int))=S at lk hSw
  clear h8
  walk_at "rd*"
  refine fun H9 B9 h9=>?_
  have k4g:=B9 _ _ cto k6a
  have l3o:l3≠o:=fun e=>by rw [e,ho8] at k1z; cases k1z
  have k6b:=B9 _ _ l3o k1z
  have R9:=R8.f2u ho8 B9
  have Q9:=Q8.f2u ho8 B9
  clear ho8 k6a k1z
  walk_at "rd*"
  refine fun D10 H10 n10 S10 h10=>?_
  refine i1a (xs:=ps.map V.ref) (ys:=qs.map V.ref) (fun i zs H'=>Same H9 H'/\H' D10=some (.lst zs)/\zs.length=i/\∃ us,zs=us.map V.ref/\h9j D10 H' us (((List.zipWith (lnOf S) cs ss).map lnV).take i)) ⟨S10,h10,rfl,[],rfl,.nil⟩ (by rw [List.length_map,pl,sizeLine_eq]; omega) ?_ ?_ ?_
  ·intro i zs H' hi ⟨S',h',zl,_⟩
   exact⟨h',SqT.of (S' _ _ k4g),SqL.of (S' _ _ k6b),zl⟩
  ·intro i x y zs H' p H'' hx hy ⟨S',h',zl,us,ez,TN⟩ np S'' h''
   obtain⟨pc,c,g,rfl,hc,hpc,hg⟩:=R9.get hx
   obtain⟨ps',s',rfl,hs',hps⟩:=Q9.get hy
   have Oc:=O.1 c (List.mem_of_getElem? hc)
   have Bs:=B3 s' (List.mem_of_getElem? hs')
   have SS:=S'.trans S''
   have k6c:=SS _ _ hpc
   have hg':=SS _ _ hg
   have ho':=SS _ _ h9
   have hD':=S'' _ _ h'
   clear k4g k6b h9 h10 hpc hg h' h''
   walk_at "rd*"
   refine⟨c.2,rfl,by omega,by omega,by omega,s',SS _ _ hps,by omega,by omega,by omega,by decide,fun u H3' n3' S3' h3'=>⟨S3' _ _ hD',fun H4' B4' h4'=>⟨(SS.trans S3').step n10 B4',h4',by rw [List.length_append,zl]; rfl,us++[u],by rw [ez,List.map_append]; rfl,?_⟩⟩⟩
   have uD:u≠D10:=fun e=>by rw [e,hD'] at n3'; cases n3'
   have et:((List.zipWith (lnOf S) cs ss).map lnV).take (i+1)=((List.zipWith (lnOf S) cs ss).map lnV).take i++[lnV (lnOf S c s')]:=by
    rw [List.take_add_one,List.getElem?_map,List.getElem?_zipWith,hc,hs']
    rfl
   rw [et]
   exact (((TN.same S'').same S3').snoc uD h3').f2u B4'
  intro zs H11 ⟨S11,h11,zl,us,ez,TN⟩
  have k6d:=S11 _ _ h9
  have k0g:=S11 _ _ k4g
  clear h10
  walk_at "rd*"
  refine fun ln H12 n12 S12 h12=>?_
  have k6e:=S12 _ _ k6d
  have k4h:=S12 _ _ k0g
  clear h11 k6d k0g
  walk_at "rd*"
  refine fun H13 B13 h13=>?_
  have el:((List.zipWith (lnOf S) cs ss).map lnV).take (min (ps.map V.ref).length (qs.map V.ref).length)=(List.zipWith (lnOf S) cs ss).map lnV:=List.take_of_length_le (by rw [List.length_map,List.length_zipWith,List.length_map,List.length_map,pl,ql]; exact Nat.le_refl _)
  rw [el] at TN
  have lno:ln≠o:=fun e=>by rw [e,k6e] at h12; cases h12
  exact k ct ln S ss us H13 (fun b u hb e=>B13 _ _ hb (S12 _ _ (S11 _ _ (B9 _ _ hb (S38 _ _ (S3 _ _ (B2 _ _ hb (S1 _ _ e)))))))) n1 h13 (B13 _ _ cto k4h) (B13 _ _ lno h12) ((TN.tps.same S12).f2u k6e B13) hSw
theorem k1w.same{H H':Hp}{fs:List (Str×V)}{d:Dt}(h:k1w H fs d)(S:Same H H'):k1w H' fs d:=by
 cases d with
 | gain y=>obtain⟨g,e,h1⟩:=h; exact⟨g,e,S _ _ h1⟩
 | delay n=>exact h
 | echo y n t=>obtain⟨g,fa,e,h1,h2⟩:=h; exact⟨g,fa,e,S _ _ h1,S _ _ h2⟩
 | back y n=>obtain⟨g,e,h1⟩:=h; exact⟨g,e,S _ _ h1⟩
 | hall y n=>obtain⟨g,e,h1⟩:=h; exact⟨g,e,S _ _ h1⟩
 | swell cs=>obtain⟨ct,ln,S',ss,us,ps,e,h1,h2,h3,h4,h5⟩:=h; exact⟨ct,ln,S',ss,us,ps,e,S _ _ h1,S _ _ h2,h3.same S,h4,h5.same S⟩
theorem IsP.same{A:Ad}{H H':Hp}{o:Addr}{d:Dt}(h:IsP A H o d)(S:Same H H'):IsP A H' o d:=by
 obtain⟨dx,fs,h1,h2⟩:=h
 exact⟨dx,fs,S _ _ h1,h2.same S⟩
theorem h1q.crn{cs:List (Int×Rat)}(h:h1q cs):i9x cs:=⟨fun c hc=>⟨(h.1 c hc).1,Int.le_trans (h.1 c hc).2.1 (by decide),(h.1 c hc).2.2.b.1,(h.1 c hc).2.2.b.2⟩,h.2.1⟩
theorem f1l{x:Rat}{a:Nat}(h:intBits x.num<=a):intBits (Rat.abs x).num<=a:=by
 rw [d3j]
 exact intBits_natAbs_le h
theorem f1m(cs:List (Int×Rat))(c:Int×Rat):f1p (cs++[c])=if (f1p cs).num*((Rat.abs c.2).den:Int) < (Rat.abs c.2).num*((f1p cs).den:Int) then Rat.abs c.2 else f1p cs:=by
 unfold f1p
 rw [List.foldl_append]
 rfl
theorem g1j(cs:List (Int×Rat)):(∀ c∈cs,intBits c.2.num<=10/\intBits (c.2.den:Int)<=10)->intBits (f1p cs).num<=10/\intBits ((f1p cs).den:Int)<=10/\0<=(f1p cs).num:=by
 induction cs using k0b with
 | h0=>exact fun _=>⟨by decide,by decide,by decide⟩
 | hs l x ih =>
  intro h
  have i:=ih fun c hc=>h c (List.mem_append_left _ hc)
  have hx:=h x (List.mem_append_right _ (List.mem_singleton.mpr rfl))
  rw [f1m]
  split
  ·refine⟨f1l hx.1,by rw [c0k]; exact hx.2,?_⟩
   rw [d3j]
   omega
  ·exact i
theorem h7v (T : Tx K mg A) : a1h P A.wd K mg base CX0 2 A.b1g A.a9h ["self"] (f0y A.a6j) := by
 have c0m:a1h P A.wd K mg base CX0 1 _ _ _ _:=g4k T
 have d4t:a1h P A.wd K mg base CX0 1 _ _ _ _:=h0j T
 have a2o:=T.a2o
 have a0q:=T.a0q
 have a0u:=T.a0u
 have a0y:=T.a0y
 refine T.c4r.ok b2k (fun vs H Q E h=>?_) (fun cdv A' outer s H vs Q E hr h=>?_)
 ·obtain⟨_,rfl,_⟩:=a6y (by unfold f0y at h; exact h)
  rfl
 ·obtain⟨o,rfl,⟨v,x,⟨dx,ct,ln,S,ps,cs,ho,hct,R,O,ev,ex⟩,k⟩⟩:=a6y (by unfold f0y at h; exact h)
  subst ev ex
  have hu:=hr.units
  have b5z:a2p 1 _:=hr.mono (by decide)
  have d0o:a2p 1 _:=hr.mono (by decide)
  unfold swF at ho
  refine⟨_,(a0j (a1n (i:=1) b2k.nd rfl (Or.inl rfl) (a4u (a0g a0i (a0g a0i a0h))))
   (a0j (b6j PassesOwn.never rfl (g8i (a3u (pvF 0) rfl)) (a5g (i:=2) b2k.nd rfl (Or.inl rfl))
   (a0j (a1n (i:=3) b2k.nd rfl (Or.inl rfl) (a0n c0m b5z (by rfl) T.d9h T.b9t.kp T.d9g .nil a0p (a0g (a0v a3s (pvF 2) a0i (fun _ _=>rfl)) a0h)))
   (a0k (a3v (a3t (a0n d4t d0o (by rfl) T.f8p T.c2t.kp T.f8o .nil a0p (a0g (pvF 1) (a0g (pvF 3) a0h))))
   (a0k (a1n (i:=1) b2k.nd rfl (Or.inl rfl) (pvF 3)))
   a1k))))
   (a0k (a0r (pvF 1))))),?_⟩
  walk_at "rd*"
  refine fun m H1 n1 S1 h1=>?_
  have ho1:=S1 _ _ ho
  have k1x:=S1 _ _ hct
  have h1':H1 m=some (.tup (a9v 0)):=h1
  clear h1
  walk_at "rd*"
  obtain⟨Pv,pin,pout⟩:=f6w (fun i σ H'=>∃ (v2 v3:Option V) (m:Addr),σ = [some (.ref o),some (.ref m),v2,v3]/\Same H H'/\H m=none/\H' m=some (.tup (a9v (f1p (cs.take i)))))
  refine i8k (xs:=ps.map V.ref) Pv (pin _ _ _ ⟨_,_,m,rfl,S1,n1,h1'⟩) ?_ ?_ ?_
  ·intro i σ H2 hi hp
   obtain⟨v2,v3,m2,rfl,S2,nm,h2⟩:=pout _ _ _ hp
   exact SqT.of (S2 _ _ hct)
  ·intro i v σ H2 hv hp
   obtain⟨v2,v3,m2,rfl,S2,nm,h2⟩:=pout _ _ _ hp
   obtain⟨p,c,g,rfl,hc,hpc,hg⟩:=R.get hv
   have Oc:=O.1 c (List.mem_of_getElem? hc)
   have mo:=g1j (cs.take i) fun c hc=>⟨(O.1 c (List.mem_of_mem_take hc)).2.2.1,(O.1 c (List.mem_of_mem_take hc)).2.2.2⟩
   have et:cs.take (i+1)=cs.take i++[c]:=by rw [List.take_add_one,hc]; rfl
   have hpc2:=S2 _ _ hpc
   have hg2:=S2 _ _ hg
   clear ho1 k1x h1'
   walk_at "rd*"
   refine⟨c.2,rfl,?_⟩
   rintro _ H3 ⟨z3,rfl,n3,S3,h3⟩
   have ab:=f1l Oc.2.2.1
   have ad:=c0k c.2
   refine⟨f1p (cs.take i),Rat.abs c.2,⟨S3 _ _ h2,h3,by omega,by omega,by omega,by rw [c0k]; omega⟩,?_⟩
   walk_at "rd"
   split
   ·rename_i hlt
    refine pin _ _ _ ⟨_,_,z3,rfl,S2.trans S3,S2.free n3,?_⟩
    rw [et,f1m,if_pos hlt]
    exact h3
   ·rename_i hlt
    refine pin _ _ _ ⟨_,_,m2,rfl,S2.trans S3,nm,?_⟩
    rw [et,f1m,if_neg hlt]
    exact S3 _ _ h2
  ·intro σ H2 hp
   obtain⟨v2,v3,m2,rfl,S2,nm,h2⟩:=pout _ _ _ hp
   rw [List.length_map,R.1,List.take_of_length_le (Nat.le_refl _)] at h2
   walk_at "rd"
   exact k _ _ ⟨m2,rfl,nm,S2,h2⟩
theorem h9p (T : Tx K mg A) : a1h P A.wd K mg base CX0 1 A.c1k A.b7l ["self", "gain"] (h7b A.b2w) := by
 have a3o:=T.a3o
 have a2i:=T.a2i
 refine T.d6k.ok h3l (fun vs H Q E h=>?_) (fun cdv A' outer s H vs Q E hr h=>?_)
 ·obtain⟨_,_,rfl,_⟩:=f4h (by unfold h7b at h; exact h)
  rfl
 ·obtain⟨o,gt,rfl,⟨dx,ho,k⟩⟩:=f4h (by unfold h7b at h; exact h)
  have hu:=hr.units
  refine⟨_,(a0k (b2j (pvF 0) (pvF 1) rfl)),?_⟩
  walk_at "rd*"
  intro H1 B1 h1
  exact k H1 B1 h1
theorem h4q (T : Tx K mg A) : a1h P A.wd K mg base CX0 1 A.b7o A.b3s ["self", "many"] (h0f A.a6t) := by
 have a2r:=T.a2r
 have a1r:=T.a1r
 refine T.d1l.ok g8v (fun vs H Q E h=>?_) (fun cdv A' outer s H vs Q E hr h=>?_)
 ·obtain⟨_,_,rfl,_⟩:=d3t (by unfold h0f at h; exact h)
  rfl
 ·obtain⟨o,n,rfl,⟨dx,ho,k⟩⟩:=d3t (by unfold h0f at h; exact h)
  have hu:=hr.units
  refine⟨_,(a0k (b2j (pvF 0) (pvF 1) rfl)),?_⟩
  walk_at "rd*"
  intro H1 B1 h1
  exact k H1 B1 h1
theorem h9q (T : Tx K mg A) : a1h P A.wd K mg base CX0 1 A.c1o A.b7v ["self", "gain", "many"] (h7c A.a9s) := by
 have a3j:=T.a3j
 have a1w:=T.a1w
 have a1y:=T.a1y
 refine T.d6o.ok h3m (fun vs H Q E h=>?_) (fun cdv A' outer s H vs Q E hr h=>?_)
 ·obtain⟨_,_,_,rfl,_⟩:=h9a (by unfold h7c at h; exact h)
  rfl
 ·obtain⟨o,gt,n,rfl,⟨dx,ho,k⟩⟩:=h9a (by unfold h7c at h; exact h)
  have hu:=hr.units
  refine⟨_,(a0j (b2j (pvF 0) (pvF 1) rfl)
   (a0k (b2j (pvF 0) (pvF 2) rfl))),?_⟩
  walk_at "rd*"
  intro H1 B1 h1
  walk_at "rd*"
  intro H2 B2 h2
  exact k H2 (fun b u hb e=>B2 _ _ hb (B1 _ _ hb e)) h2
theorem h9r (T : Tx K mg A) : a1h P A.wd K mg base CX0 1 A.c1q A.b8g ["self", "gain", "many"] (h7d A.b0o) := by
 have a3p:=T.a3p
 have a2j:=T.a2j
 have a2k:=T.a2k
 refine T.d6q.ok h3n (fun vs H Q E h=>?_) (fun cdv A' outer s H vs Q E hr h=>?_)
 ·obtain⟨_,_,_,rfl,_⟩:=h9a (by unfold h7d at h; exact h)
  rfl
 ·obtain⟨o,gt,n,rfl,⟨dx,ho,k⟩⟩:=h9a (by unfold h7d at h; exact h)
  have hu:=hr.units
  refine⟨_,(a0j (b2j (pvF 0) (pvF 1) rfl)
   (a0k (b2j (pvF 0) (pvF 2) rfl))),?_⟩
  walk_at "rd*"
  intro H1 B1 h1
  walk_at "rd*"
  intro H2 B2 h2
  exact k H2 (fun b u hb e=>B2 _ _ hb (B1 _ _ hb e)) h2
theorem i2d (T : Tx K mg A) : a1h P A.wd K mg base CX0 2 A.b3r A.b0r ["self"] (f5z A.b2w) := by
 have c0m:a1h P A.wd K mg base CX0 1 _ _ _ _:=g4k T
 have a3o:=T.a3o
 have a2i:=T.a2i
 refine T.c6q.ok g5e (fun vs H Q E h=>?_) (fun cdv A' outer s H vs Q E hr h=>?_)
 ·obtain⟨_,rfl,_⟩:=a6y (by unfold f5z at h; exact h)
  rfl
 ·obtain⟨o,rfl,⟨v,x,⟨dx,gt,y,ho,hg,ev,ex⟩,k⟩⟩:=a6y (by unfold f5z at h; exact h)
  have hu:=hr.units
  subst ev ex
  have b5z:a2p 1 _:=hr.mono (by decide)
  refine⟨_,(a0k (a0r (a0n c0m b5z (by rfl) T.d9h T.b9t.kp T.d9g .nil a0p (a0g (a3u (pvF 0) rfl) a0h)))),?_⟩
  walk_at "rd*"
  exact⟨y,rfl,k⟩
theorem h7w (T : Tx K mg A) : a1h P A.wd K mg base CX0 1 A.b3t A.b0s ["self"] (f0z A.a6t) := by
 have a2r:=T.a2r
 have a1r:=T.a1r
 refine T.c6r.ok g5f (fun vs H Q E h=>?_) (fun cdv A' outer s H vs Q E hr h=>?_)
 ·obtain⟨_,rfl,_⟩:=a6y (by unfold f0z at h; exact h)
  rfl
 ·obtain⟨o,rfl,⟨v,x,⟨dx,n,ho,ev,ex⟩,k⟩⟩:=a6y (by unfold f0z at h; exact h)
  have hu:=hr.units
  subst ev ex
  refine⟨_,(a0k (a0r (a3u (pvF 0) rfl))),?_⟩
  walk_at "rd*"
theorem h7x (T : Tx K mg A) : a1h P A.wd K mg base CX0 1 A.a9w A.b0q ["self"] (f1g A.a6t) := by
 have a2r:=T.a2r
 have a1r:=T.a1r
 refine T.c6p.ok g5d (fun vs H Q E h=>?_) (fun cdv A' outer s H vs Q E hr h=>?_)
 ·obtain⟨_,rfl,_⟩:=a6y (by unfold f1g at h; exact h)
  rfl
 ·obtain⟨o,rfl,⟨v,x,⟨dx,n,ho,ev,ex⟩,k⟩⟩:=a6y (by unfold f1g at h; exact h)
  have hu:=hr.units
  subst ev ex
  refine⟨_,(a0k (a0r (a4u (a0g a0i (a0g a0i a0h))))),?_⟩
  walk_at "rd"
  intro b H1 n1 S1 h1
  exact k _ _ ⟨b,rfl,n1,S1,h1⟩
theorem i2e (T : Tx K mg A) : a1h P A.wd K mg base CX0 1 A.b7y A.b4g ["self"] (f6i A.a9s) := by
 have a3j:=T.a3j
 have a1w:=T.a1w
 have a1y:=T.a1y
 refine T.d1q.ok g8z (fun vs H Q E h=>?_) (fun cdv A' outer s H vs Q E hr h=>?_)
 ·obtain⟨_,rfl,_⟩:=a6y (by unfold f6i at h; exact h)
  rfl
 ·obtain⟨o,rfl,⟨v,x,⟨dx,gt,n,y,ho,hg,b1,b2,ev,ex⟩,k⟩⟩:=a6y (by unfold f6i at h; exact h)
  have hu:=hr.units
  subst ev ex
  refine⟨_,(a0k (a0r (a3u (pvF 0) rfl))),?_⟩
  walk_at "rd*"
theorem i2f (T : Tx K mg A) : a1h P A.wd K mg base CX0 4 A.b4h A.b0u ["self"] (f6j A.a9s) := by
 have c0m:a1h P A.wd K mg base CX0 1 _ _ _ _:=g4k T
 have i6s:a1h P A.wd K mg base CX0 3 _ _ _ _:=i6m T
 have a3j:=T.a3j
 have a1w:=T.a1w
 have a1y:=T.a1y
 refine T.c6t.ok g5h (fun vs H Q E h=>?_) (fun cdv A' outer s H vs Q E hr h=>?_)
 ·obtain⟨_,rfl,_⟩:=a6y (by unfold f6j at h; exact h)
  rfl
 ·obtain⟨o,rfl,⟨v,x,⟨dx,gt,n,y,ho,hg,b1,b2,ev,ex⟩,k⟩⟩:=a6y (by unfold f6j at h; exact h)
  have hu:=hr.units
  subst ev ex
  have b5z:a2p 1 _:=hr.mono (by decide)
  have h7t:a2p 3 _:=hr.mono (by decide)
  refine⟨_,(a0k (a0r (a0n i6s h7t (by rfl) T.j1q T.g7c.kp T.j1p .nil a0p (a0g (a4u (a0g a0i (a0g a0i a0h))) (a0g (a0n c0m b5z (by rfl) T.d9h T.b9t.kp T.d9g .nil a0p (a0g (a3u (pvF 0) rfl) a0h)) a0h))))),?_⟩
  walk_at "rd*"
  intro u H1 n1 S1 h1
  have ho1:=S1 _ _ ho
  have hg1:=S1 _ _ hg
  have h1':H1 u=some (.tup (a9v 1)):=h1
  have ab:=f1l b1
  clear ho hg h1
  walk_at "rd*"
  refine⟨y,rfl,?_⟩
  rintro _ H2 ⟨z2,rfl,n2,S2,h2⟩
  walk_at "rd"
  refine⟨1,Rat.abs y,⟨S2 _ _ h1',h2,by decide,by decide,by omega,by rw [c0k]; omega⟩,?_⟩
  rintro _ H3 ⟨z3,rfl,n3,S3,h3⟩
  exact k _ _ ⟨z3,rfl,(S1.trans S2).free n3,S1.trans (S2.trans S3),h3⟩
theorem i2g (T : Tx K mg A) : a1h P A.wd K mg base CX0 1 A.b8h A.b4i ["self"] (f6k A.b0o) := by
 have a3p:=T.a3p
 have a2j:=T.a2j
 have a2k:=T.a2k
 refine T.d1r.ok g9a (fun vs H Q E h=>?_) (fun cdv A' outer s H vs Q E hr h=>?_)
 ·obtain⟨_,rfl,_⟩:=a6y (by unfold f6k at h; exact h)
  rfl
 ·obtain⟨o,rfl,⟨v,x,⟨dx,gt,n,y,ho,hg,b1,b2,b3,ev,ex⟩,k⟩⟩:=a6y (by unfold f6k at h; exact h)
  have hu:=hr.units
  subst ev ex
  refine⟨_,(a0k (a0r d3m)),?_⟩
  walk_at "rd"
  exact k
theorem i2h (T : Tx K mg A) : a1h P A.wd K mg base CX0 3 A.b4j A.b0v ["self"] (f6l A.b0o) := by
 have a9o:a1h P A.wd K mg base CX0 2 _ _ _ _:=c4i T
 have a3p:=T.a3p
 have a2j:=T.a2j
 have a2k:=T.a2k
 refine T.c6u.ok g5i (fun vs H Q E h=>?_) (fun cdv A' outer s H vs Q E hr h=>?_)
 ·obtain⟨_,rfl,_⟩:=a6y (by unfold f6l at h; exact h)
  rfl
 ·obtain⟨o,rfl,⟨v,x,⟨dx,gt,n,y,ho,hg,b1,b2,b3,ev,ex⟩,k⟩⟩:=a6y (by unfold f6l at h; exact h)
  have hu:=hr.units
  subst ev ex
  have a7m:a2p 2 _:=hr.mono (by decide)
  unfold a9v at hg
  have b4:=intBits_sub_le b2 (intBits_natAbs_le b1)
  refine⟨_,(a0k (a0r (a0n a9o a7m (by rfl) T.c9g T.b1r.kp T.c8z .nil a0p (a0g (a0v a3s (a3u (pvF 0) rfl) a0i (fun _ _=>rfl)) (a0g (a1l f3s (a0v a3s (a3u (pvF 0) rfl) a0i (fun _ _=>rfl)) (a0z a5y (by rfl) T.d9n boot_abs (a0g (a0v a3s (a3u (pvF 0) rfl) a0i (fun _ _=>rfl)) a0h))) a0h))))),?_⟩
  walk_at "rd*"
  exact⟨by omega,by omega,by omega⟩
theorem i2i (T : Tx K mg A) : a1h P A.wd K mg base CX0 1 A.b7t A.b3w ["self"] (f6g A.a8k) := by
 have a3i:=T.a3i
 have a1u:=T.a1u
 have a1v:=T.a1v
 have a1j:=T.a1j
 have a0t:=T.a0t
 have a0m:=T.a0m
 refine T.d1o.ok g8x (fun vs H Q E h=>?_) (fun cdv A' outer s H vs Q E hr h=>?_)
 ·obtain⟨_,rfl,_⟩:=a6y (by unfold f6g at h; exact h)
  rfl
 ·obtain⟨o,rfl,⟨v,x,⟨p,q,n,t,⟨dx,gt,fa,ho,hg,hf⟩,nl,tl,q1,bp,bq,ev,ex⟩,k⟩⟩:=a6y (by unfold f6g at h; exact h)
  have hu:=hr.units
  subst ev ex
  unfold ecF at ho
  refine⟨_,(a0k (a0r (a1l a5l (a3u (pvF 0) rfl) (a3u (pvF 0) rfl)))),?_⟩
  walk_at "rd*"
  exact⟨IntMulOk.of_left (intBits_le_64 (by omega) (by omega)),by rw [<- Int.natCast_mul]; exact k⟩
theorem h4r{p q:Int}(bp:intBits p<=10)(bq:intBits q<=10){t:Nat}(ht:t<=16):∀ f∈g7q p q t,intBits f<=170:=fun f hf=>by
 unfold g7q at hf
 obtain⟨j,hj,rfl⟩:=List.mem_map.mp hf
 have:j < t+1:=by simpa using hj
 exact Nat.le_trans (intBits_mul_le (c0l bp j) (c0l bq (t - j))) (by omega)
theorem g4n{a:Nat}:∀ {fs:List Int},(∀ f∈fs,intBits f<=a)->intBits fs.sum<=a+fs.length
 | [],_=>by
  show intBits 0<=_
  exact Nat.zero_le _
 | f :: fs,h=>by
  have i:=g4n (fs:=fs) fun g hg=>h g (List.mem_cons_of_mem _ hg)
  have h1:=h f (List.mem_cons_self ..)
  rw [List.sum_cons,List.length_cons]
  have:=intBits_add_le (Nat.le_trans h1 (Nat.le_add_right a fs.length)) i
  omega
theorem i2j (T : Tx K mg A) : a1h P A.wd K mg base CX0 3 A.b3y A.b0t ["self"] (f6h A.a8k) := by
 have a9o:a1h P A.wd K mg base CX0 2 _ _ _ _:=c4i T
 have a3i:=T.a3i
 have a1u:=T.a1u
 have a1v:=T.a1v
 have a1j:=T.a1j
 have a0t:=T.a0t
 have a0m:=T.a0m
 refine T.c6s.ok g5g (fun vs H Q E h=>?_) (fun cdv A' outer s H vs Q E hr h=>?_)
 ·obtain⟨_,rfl,_⟩:=a6y (by unfold f6h at h; exact h)
  rfl
 ·obtain⟨o,rfl,⟨v,x,⟨p,q,n,t,⟨dx,gt,fa,ho,hg,hf⟩,nl,tl,q1,bp,bq,ev,ex⟩,k⟩⟩:=a6y (by unfold f6h at h; exact h)
  have hu:=hr.units
  subst ev ex
  have a7m:a2p 2 _:=hr.mono (by decide)
  unfold ecF at ho
  have fl:=h9n p q t
  refine ⟨_, (a0k (a0r (a0n a9o a7m (by rfl) T.c9g T.b1r.kp T.c8z .nil a0p (a0g (a0z (h2p rfl) (by rfl) T.j9o boot_sum (a0g (c5q (g8i (a3u (pvF 0) rfl)) (fun _ _ _ _ _ => (a0z a5y (by rfl) T.d9n boot_abs (a0g (pvF 0) a0h))) (d4v (sc := a0l d4w) (N := ["self"]) rfl rfl (by decide +kernel)) rfl) a0h)) (a0g (a3u (pvF 0) rfl) a0h))))), ?_⟩
  walk_at "rd*"
  refine fun D H1 n1 S1 h1=>?_
  refine i1b (fun v=>match v with | .int c=>.int (c.natAbs:Int) | v=>v) n1 S1 h1 hf (by rw [List.length_map,fl,sizeLine_eq]; omega) ?_ ?_
  ·intro i x H' Q' hx S' q'
   rw [List.getElem?_map] at hx
   obtain⟨c,hc,rfl⟩:=Option.map_eq_some_iff.mp hx
   walk_at "rd"
   exact q'
  intro H2 S2 h2
  have e2:((g7q p q t).map V.int).map (fun v:V=>match v with | .int c=>V.int (c.natAbs:Int) | v=>v)=((g7q p q t).map fun f=>(f.natAbs:Int)).map V.int:=by
   rw [List.map_map,List.map_map]
   rfl
  rw [e2] at h2
  have ho2:=S2 _ _ ho
  have pq:intBits (q ^ t)<=170:=Nat.le_trans (c0l bq t) (by omega)
  have qp:0 < q ^ t:=Int.pow_pos (by omega)
  have sb:intBits ((g7q p q t).map fun f=>(f.natAbs:Int)).sum<=170+((g7q p q t).map fun f=>(f.natAbs:Int)).length:=g4n fun f hf=>by
   obtain⟨g,hg,rfl⟩:=List.mem_map.mp hf
   exact intBits_natAbs_le (h4r bp bq tl g hg)
  rw [List.length_map,fl] at sb
  clear ho hg hf h1 e2
  walk_at "rd*"
  refine⟨_,rfl,by omega,by omega,by omega,?_⟩
  rintro _ H3 ⟨z3,rfl,n3,S3,h3⟩
  exact k _ _ ⟨z3,rfl,S2.free n3,S2.trans S3,h3⟩
theorem i6u (T : Tx K mg A) : a1h P A.wd K mg base CX0 1 A.a5z A.a6p ["one"] k3z := by
 refine T.a3q.ok a7v (fun vs H Q E h=>?_) (fun cdv A' outer s H vs Q E hr h=>?_)
 ·obtain⟨_,rfl,_⟩:=a6y (by unfold k3z at h; exact h)
  rfl
 ·obtain⟨p,rfl,⟨x,hp,l1,l2,q⟩⟩:=a6y (by unfold k3z at h; exact h)
  have hu:=hr.units
  unfold a9v at hp
  have fl:=f3y l1 l2
  have g1:=b9m (intBits_le_iff.mp l1) (by decide)
  have g2:=b9m (intBits_le_iff.mp l2) (by decide)
  have a:=b9n (intBits_le_iff.mp l1) (by decide)
  have b:=b9n (intBits_le_iff.mp l2) (by decide)
  have e0:Str.empty.length=0:=rfl
  have e1 : (Str.ofString "/").length = 1 := by decide +kernel
  have hs:sizeLine=16777216:=sizeLine_eq
  unfold fW at q
  refine⟨_,(a0j (a1n (i:=1) a7v.nd rfl (Or.inl rfl) (a0v a3s (pvF 0) a0i (fun _ _=>rfl)))
   (a0j (a1n (i:=2) a7v.nd rfl (Or.inl rfl) (a0v a3s (pvF 0) a0i (fun _ _=>rfl)))
   (a0k (a0r (b6n (a4v (c0q (pvF 1)) (a4v a1z (a4v (c0q (pvF 2)) f1r)))))))),?_⟩
  walk_at "rd*"
  simp only [strLen_append,e0,e1]
  refine⟨by omega,by omega,by omega,by omega,by omega,by omega⟩
theorem k4i (T : Tx K mg A) : a1h P A.wd K mg base CX0 2 A.a9y A.b0w ["corner"] k4a := by
 have a3h:a1h P A.wd K mg base CX0 1 _ _ _ _:=i6u T
 refine T.b9u.ok d2k (fun vs H Q E h=>?_) (fun cdv A' outer s H vs Q E hr h=>?_)
 ·obtain⟨_,rfl,_⟩:=a6y (by unfold k4a at h; exact h)
  rfl
 ·obtain⟨p,rfl,⟨c,g,hp,hg,l0,l1,l2,q⟩⟩:=a6y (by unfold k4a at h; exact h)
  have hu:=hr.units
  have a2u:a2p 1 _:=hr.mono (by decide)
  have g0:=b9m l0 (by decide)
  have a:=b9n l0 (by decide)
  have b:=f3y l1 l2
  have e0:Str.empty.length=0:=rfl
  have e1 : (Str.ofString "=").length = 1 := by decide +kernel
  have hs:sizeLine=16777216:=sizeLine_eq
  unfold cW at q
  refine⟨_,(a0j (a1n (i:=1) d2k.nd rfl (Or.inl rfl) (a0v a3s (pvF 0) a0i (fun _ _=>rfl)))
   (a0j (a1n (i:=2) d2k.nd rfl (Or.inl rfl) (a0n a3h a2u (by rfl) T.a7l T.a3q.kp T.a7k .nil a0p (a0g (a0v a3s (pvF 0) a0i (fun _ _=>rfl)) a0h)))
   (a0k (a0r (b6n (a4v (c0q (pvF 1)) (a4v a1z (a4v (c0q (pvF 2)) f1r)))))))),?_⟩
  walk_at "rd*"
  refine⟨c.2,rfl,l1,l2,?_⟩
  simp only [strLen_append,e0,e1]
  exact⟨by omega,by omega,by omega,by omega,by omega,by omega,q⟩
theorem i6v{K:PySem.W.Frag}{a D:Addr}{xs:List V}{te:TE}{σ:L2.St}{H0 H:Hp}{Q:VK}(zs:List V)(hz:zs.length=xs.length)(n0:H0 D=none)(S:Same H0 H)(hD:H D=some (.lst []))(hS:H0 a=some (.tup xs))(hsz:xs.length<=sizeLine)
  (hs:∀ (i:Nat) x z H' (Q':VK),xs[i]? = some x->zs[i]? = some z->Same H0 H'->Q' z H'->te (some x :: σ) H' Q') (q:∀ H',Same H0 H'->H' D=some (.lst zs)->Q (.ref D) H'):g0x (Itt K a) te D σ H Q ⟨⟩:=by
 refine g2d (fun i ys H'=>Same H0 H'/\H' D=some (.lst ys)/\ys=zs.take i) ⟨S,hD,by simp⟩ hsz (fun i ys H' hi p=>?_) (fun i x ys H' hx p=>?_) (fun ys H' p=>?_)
 ·refine⟨p.2.1,SqT.of (p.1 _ _ hS),?_⟩
  rw [p.2.2,List.length_take]
  omega
 ·have hi:i < zs.length:=by rw [hz]; exact (List.getElem?_eq_some_iff.mp hx).1
  have hzi:zs[i]? = some zs[i]:=List.getElem?_eq_getElem hi
  refine hs i x _ H' _ hx hzi p.1 ⟨p.2.1,fun H3 s3 h3=>⟨p.1.step n0 s3,h3,?_⟩⟩
  rw [p.2.2,List.take_add_one,hzi]
  rfl
 ·refine q H' p.1 ?_
  rw [p.2.1,p.2.2,<- hz,List.take_length]
theorem k0h (T : Tx K mg A) : a1h P A.wd K mg base CX0 2 A.c1l A.b7n ["self"] (g1b A 0) := by
 have a3h:a1h P A.wd K mg base CX0 1 _ _ _ _:=i6u T
 have a3o:=T.a3o
 have a2i:=T.a2i
 refine T.d6l.ok g0h (fun vs H Q E h=>?_) (fun cdv A' outer s H vs Q E hr h=>?_)
 ·obtain⟨_,rfl,_⟩:=a6y (by unfold g1b at h; exact h)
  rfl
 ·obtain⟨o,rfl,⟨d,hk,hd,ok,q⟩⟩:=a6y (by unfold g1b at h; exact h)
  cases d with
  | gain y =>
   obtain⟨dx,_,ho,g,rfl,hg⟩:=hd
   have ok:YOk y:=ok
   replace ho : H o = some (.ins A.b2w dx [("gain", .ref g)]) := ho
   have hu:=hr.units
   have a2u:a2p 1 _:=hr.mono (by decide)
   have a:=f3y ok.b.1 ok.b.2
   have e0:Str.empty.length=0:=rfl
   have e1 : (Str.ofString "gain:").length = 5 := by decide +kernel
   have hs:sizeLine=16777216:=sizeLine_eq
   refine⟨_,(a0j (a1n (i:=1) g0h.nd rfl (Or.inl rfl) (a0n a3h a2u (by rfl) T.a7l T.a3q.kp T.a7k .nil a0p (a0g (a3u (pvF 0) rfl) a0h)))
   (a0k (a0r (b6n (a4v a1z (a4v (c0q (pvF 1)) f1r)))))),?_⟩
   walk_at "rd*"
   refine⟨y,rfl,ok.b.1,ok.b.2,?_⟩
   simp only [strLen_append,e0,e1]
   exact⟨by omega,by omega,by omega,by rw [i4s]; exact q _ (Same.refl _)⟩
  | _=>simp [Dt.kd] at hk
theorem k0i (T : Tx K mg A) : a1h P A.wd K mg base CX0 1 A.b7p A.b3u ["self"] (g1b A 1) := by
 have a2r:=T.a2r
 have a1r:=T.a1r
 refine T.d1m.ok f4z (fun vs H Q E h=>?_) (fun cdv A' outer s H vs Q E hr h=>?_)
 ·obtain⟨_,rfl,_⟩:=a6y (by unfold g1b at h; exact h)
  rfl
 ·obtain⟨o,rfl,⟨d,hk,hd,ok,q⟩⟩:=a6y (by unfold g1b at h; exact h)
  cases d with
  | delay n =>
   obtain⟨dx,_,ho,rfl⟩:=hd
   have ok:n<=1000:=ok
   replace ho : H o = some (.ins A.a6t dx [("many", .int n)]) := ho
   have hu:=hr.units
   have a:=f3w (n:=n) (Nat.lt_of_le_of_lt ok (by decide))
   have e0:Str.empty.length=0:=rfl
   have e1 : (Str.ofString "delay:").length = 6 := by decide +kernel
   have hs:sizeLine=16777216:=sizeLine_eq
   have g0:=b9m (t:=(n:Int)) (n:=20) (by omega) (by decide)
   unfold nW at a
   refine⟨_,(a0j (a1n (i:=1) f4z.nd rfl (Or.inl rfl) (a3u (pvF 0) rfl))
   (a0k (a0r (b6n (a4v a1z (a4v (c0q (pvF 1)) f1r)))))),?_⟩
   walk_at "rd*"
   have w:=h5v n
   unfold nW at w
   simp only [strLen_append,e0,e1]
   refine⟨by omega,by omega,by omega,?_⟩
   rw [w]
   exact q _ (Same.refl _)
  | _=>simp [Dt.kd] at hk
theorem k0j (T : Tx K mg A) : a1h P A.wd K mg base CX0 2 A.c1n A.b7u ["self"] (g1b A 2) := by
 have a3h:a1h P A.wd K mg base CX0 1 _ _ _ _:=i6u T
 have a3i:=T.a3i
 have a1u:=T.a1u
 have a1v:=T.a1v
 have a1j:=T.a1j
 have a0t:=T.a0t
 have a0m:=T.a0m
 refine T.d6n.ok d0t (fun vs H Q E h=>?_) (fun cdv A' outer s H vs Q E hr h=>?_)
 ·obtain⟨_,rfl,_⟩:=a6y (by unfold g1b at h; exact h)
  rfl
 ·obtain⟨o,rfl,⟨d,hk,hd,ok,q⟩⟩:=a6y (by unfold g1b at h; exact h)
  cases d with
  | echo y n t =>
   obtain⟨dx,_,ho,g,fa,rfl,hg,hf⟩:=hd
   obtain⟨oy,n1,n2,t2⟩:=ok
   replace ho:H o=some (.ins A.a8k dx (ecF g fa n t (y.den:Int))):=ho
   unfold ecF at ho
   have hu:=hr.units
   have a2u:a2p 1 _:=hr.mono (by decide)
   have a:=f3y oy.b.1 oy.b.2
   have b:=f3w (n:=n) (Nat.lt_of_le_of_lt n2 (by decide))
   have c:=f3w (n:=t) (Nat.lt_of_le_of_lt t2 (by decide))
   have e0:Str.empty.length=0:=rfl
   have e1 : (Str.ofString "echo:").length = 5 := by decide +kernel
   have e2 : (Str.ofString ":").length = 1 := by decide +kernel
   have hs:sizeLine=16777216:=sizeLine_eq
   have g0:=b9m (t:=(n:Int)) (n:=20) (by omega) (by decide)
   have g1:=b9m (t:=(t:Int)) (n:=20) (by omega) (by decide)
   have w:=i4t y n t
   unfold nW at b c w
   refine⟨_,(a0j (a1n (i:=1) d0t.nd rfl (Or.inl rfl) (a0n a3h a2u (by rfl) T.a7l T.a3q.kp T.a7k .nil a0p (a0g (a3u (pvF 0) rfl) a0h)))
   (a0j (a1n (i:=2) d0t.nd rfl (Or.inl rfl) (a3u (pvF 0) rfl))
   (a0j (a1n (i:=3) d0t.nd rfl (Or.inl rfl) (a3u (pvF 0) rfl))
   (a0k (a0r (b6n (a4v a1z (a4v (c0q (pvF 1)) (a4v a1z (a4v (c0q (pvF 2)) (a4v a1z (a4v (c0q (pvF 3)) f1r)))))))))))),?_⟩
   walk_at "rd*"
   refine⟨y,rfl,oy.b.1,oy.b.2,?_⟩
   simp only [strLen_append,e0,e1,e2]
   refine⟨by omega,by omega,by omega,by omega,by omega,by omega,by omega,by omega,by omega,?_⟩
   rw [w]
   exact q _ (Same.refl _)
  | _=>simp [Dt.kd] at hk
theorem k0k (T : Tx K mg A) : a1h P A.wd K mg base CX0 2 A.c1p A.b7z ["self"] (g1b A 3) := by
 have a3h:a1h P A.wd K mg base CX0 1 _ _ _ _:=i6u T
 have a3j:=T.a3j
 have a1w:=T.a1w
 have a1y:=T.a1y
 refine T.d6p.ok d8m (fun vs H Q E h=>?_) (fun cdv A' outer s H vs Q E hr h=>?_)
 ·obtain⟨_,rfl,_⟩:=a6y (by unfold g1b at h; exact h)
  rfl
 ·obtain⟨o,rfl,⟨d,hk,hd,ok,q⟩⟩:=a6y (by unfold g1b at h; exact h)
  cases d with
  | back y n =>
   obtain⟨dx,_,ho,g,rfl,hg⟩:=hd
   obtain⟨oy,n1,n2⟩:=ok
   replace ho : H o = some (.ins A.a9s dx [("gain", .ref g), ("many", .int n)]) := ho
   have hu:=hr.units
   have a2u:a2p 1 _:=hr.mono (by decide)
   have a:=f3y oy.b.1 oy.b.2
   have b:=f3w (n:=n) (Nat.lt_of_le_of_lt n2 (by decide))
   have e0:Str.empty.length=0:=rfl
   have e1 : (Str.ofString "back:").length = 5 := by decide +kernel
   have e2 : (Str.ofString ":").length = 1 := by decide +kernel
   have hs:sizeLine=16777216:=sizeLine_eq
   have g0:=b9m (t:=(n:Int)) (n:=20) (by omega) (by decide)
   have w:=i4u y n
   unfold nW at b w
   refine⟨_,(a0j (a1n (i:=1) d8m.nd rfl (Or.inl rfl) (a0n a3h a2u (by rfl) T.a7l T.a3q.kp T.a7k .nil a0p (a0g (a3u (pvF 0) rfl) a0h)))
   (a0j (a1n (i:=2) d8m.nd rfl (Or.inl rfl) (a3u (pvF 0) rfl))
   (a0k (a0r (b6n (a4v a1z (a4v (c0q (pvF 1)) (a4v a1z (a4v (c0q (pvF 2)) f1r))))))))),?_⟩
   walk_at "rd*"
   refine⟨y,rfl,oy.b.1,oy.b.2,?_⟩
   simp only [strLen_append,e0,e1,e2]
   refine⟨by omega,by omega,by omega,by omega,by omega,by omega,?_⟩
   rw [w]
   exact q _ (Same.refl _)
  | _=>simp [Dt.kd] at hk
theorem k0l (T : Tx K mg A) : a1h P A.wd K mg base CX0 2 A.c1r A.b8i ["self"] (g1b A 4) := by
 have a3h:a1h P A.wd K mg base CX0 1 _ _ _ _:=i6u T
 have a3p:=T.a3p
 have a2j:=T.a2j
 have a2k:=T.a2k
 refine T.d6r.ok d8n (fun vs H Q E h=>?_) (fun cdv A' outer s H vs Q E hr h=>?_)
 ·obtain⟨_,rfl,_⟩:=a6y (by unfold g1b at h; exact h)
  rfl
 ·obtain⟨o,rfl,⟨d,hk,hd,ok,q⟩⟩:=a6y (by unfold g1b at h; exact h)
  cases d with
  | hall y n =>
   obtain⟨dx,_,ho,g,rfl,hg⟩:=hd
   obtain⟨oy,yl,n1,n2⟩:=ok
   replace ho : H o = some (.ins A.b0o dx [("gain", .ref g), ("many", .int n)]) := ho
   have hu:=hr.units
   have a2u:a2p 1 _:=hr.mono (by decide)
   have a:=f3y oy.b.1 oy.b.2
   have b:=f3w (n:=n) (Nat.lt_of_le_of_lt n2 (by decide))
   have e0:Str.empty.length=0:=rfl
   have e1 : (Str.ofString "hall:").length = 5 := by decide +kernel
   have e2 : (Str.ofString ":").length = 1 := by decide +kernel
   have hs:sizeLine=16777216:=sizeLine_eq
   have g0:=b9m (t:=(n:Int)) (n:=20) (by omega) (by decide)
   have w:=i4v y n
   unfold nW at b w
   clear yl
   refine⟨_,(a0j (a1n (i:=1) d8n.nd rfl (Or.inl rfl) (a0n a3h a2u (by rfl) T.a7l T.a3q.kp T.a7k .nil a0p (a0g (a3u (pvF 0) rfl) a0h)))
   (a0j (a1n (i:=2) d8n.nd rfl (Or.inl rfl) (a3u (pvF 0) rfl))
   (a0k (a0r (b6n (a4v a1z (a4v (c0q (pvF 1)) (a4v a1z (a4v (c0q (pvF 2)) f1r))))))))),?_⟩
   walk_at "rd*"
   refine⟨y,rfl,oy.b.1,oy.b.2,?_⟩
   simp only [strLen_append,e0,e1,e2]
   refine⟨by omega,by omega,by omega,by omega,by omega,by omega,?_⟩
   rw [w]
   exact q _ (Same.refl _)
  | _=>simp [Dt.kd] at hk
theorem k0m (T : Tx K mg A) : a1h P A.wd K mg base CX0 3 A.b8l A.b4o ["self"] (g1b A 5) := by
 have h0m:a1h P A.wd K mg base CX0 2 _ _ _ _:=k4i T
 have a2o:=T.a2o
 have a0q:=T.a0q
 have a0u:=T.a0u
 have a0y:=T.a0y
 refine T.d1t.ok f5h (fun vs H Q E h=>?_) (fun cdv A' outer s H vs Q E hr h=>?_)
 ·obtain⟨_,rfl,_⟩:=a6y (by unfold g1b at h; exact h)
  rfl
 ·obtain⟨o,rfl,⟨d,hk,hd,ok,q⟩⟩:=a6y (by unfold g1b at h; exact h)
  cases d with
  | swell cs =>
   obtain⟨dx,_,ho,ct,ln,S,ss,us,ps,rfl,hct,hln,TP,sok,R⟩:=hd
   have ok:h1q cs:=ok
   replace ho : H o = some (.ins A.a6j dx [("corners", .ref ct), ("shared", .int S), ("lines", .ref ln)]) := ho
   have hu:=hr.units
   have g5t:a2p 2 _:=hr.mono (by decide)
   have pl:=R.1
   have hs:sizeLine=16777216:=sizeLine_eq
   have cl:=ok.len
   have L12:=ok.2.2.2
   have e2 : (Str.ofString ",").length = 1 := by decide +kernel
   have jo : JoinOk (Str.ofString ",") (cs.map cW) = true := joinOk_of (n := 45) (fun y hy => by obtain ⟨c, hc, rfl⟩ := List.mem_map.mp hy; exact cl c hc) (by rw [List.length_map, e2, hs]; omega)
   have jl : (Txt.join (Str.ofString ",") (cs.map cW)).length ≤ 600 := by
    rw [i9f,i4r]
    exact ok.k1s
   have e0:Str.empty.length=0:=rfl
   have e1 : (Str.ofString "swell:").length = 6 := by decide +kernel
   refine ⟨_, (a0j (a1n (i := 1) f5h.nd rfl (Or.inl rfl) (b7j a8g PySem.F.plainAttrs_str PySem.F.slot_str_join PySem.F.type_str_join h8w a1z (a0g (c5q (g8i (a3u (pvF 0) rfl)) (fun _ _ _ _ _ => by exact (a0n h0m g5t (by rfl) T.g9r T.b9u.kp T.g9q .nil a0p (a0g (pvF 0) a0h))) (d4v (sc := a0l d8i) (N := ["self", "corners"]) rfl rfl (by decide +kernel)) rfl) a0h)))
   (a0k (a0r (b6n (a4v a1z (a4v (c0q (pvF 1)) f1r)))))),?_⟩
   walk_at "rd*"
   intro D H2 n2 S2 h2
   refine i6v (cs.map fun c=>V.str (cW c)) (by rw [List.length_map,List.length_map,pl]) n2 S2 h2 hct (by rw [List.length_map,pl,hs]; omega) ?_ ?_
   ·intro i x z H' Q' hx hz S' q'
    obtain⟨p,c,g,rfl,hc,hp,hg⟩:=R.get hx
    rw [List.getElem?_map,hc] at hz
    cases hz
    have hp':=S' _ _ hp
    have hg':=S' _ _ hg
    obtain⟨o1,o2,oy⟩:=ok.1 c (List.mem_of_getElem? hc)
    clear ho hct hln h2 hp hg
    walk_at "rd*"
    exact⟨c,g,⟨rfl,rfl⟩,hg',by omega,oy.b.1,oy.b.2,q'⟩
   intro H3 S3 h3
   clear h2
   walk_at "rd*"
   refine⟨cs.map cW,by rw [List.map_map]; rfl,jo,by omega,?_,?_,?_⟩
   ·rw [strLen_append,e0,e1]
    omega
   ·rw [strLen_append,strLen_append,e0,e1]
    omega
   ·rw [h5w]
    exact q H3 S3
  | _=>simp [Dt.kd] at hk
theorem h4s (T : Tx K mg A) : a1h P A.wd K mg base CX0 4 A.b2o A.b2p ["text"] k4b := by
 have g4o:a1h P A.wd K mg base CX0 3 _ _ _ _:=i6k T
 refine T.a5m.ok d0u (fun vs H Q E h=>?_) (fun cdv A' outer s H vs Q E hr h=>?_)
 ·obtain⟨_,rfl,_⟩:=g5b (by unfold k4b at h; exact h)
  rfl
 ·obtain⟨x,rfl,⟨y,hx,oy,k⟩⟩:=g5b (by unfold k4b at h; exact h)
  subst hx
  have hu:=hr.units
  have c6i:a2p 3 _:=hr.mono (by decide)
  refine⟨_,(a0j (j3q (a1n (i:=1) d0u.nd rfl (Or.inl rfl) (a0n g4o c6i (by rfl) T.d9j T.a7i.kp T.d9i .nil a0p (a0g (pvF 0) a0h))))
   (a0j (a3v (pw_or (a1m d7w (a0z a5y (by rfl) T.d9n boot_abs (a0g (a0v a3s (pvF 1) a0i (fun _ _=>rfl)) a0h)) (a2t (v:=.int 1000) (by rfl) T.d1w T.b8z) (a2n _)) (pw_or1 (a1m d7w (a0v a3s (pvF 1) a0i (fun _ _=>rfl)) (a2t (v:=.int 1000) (by rfl) T.d1w T.b8z) (a2n _)))).pt
   (a0k a6m)
   a1k)
   (a0k (a0r (pvF 1))))),?_⟩
  walk_at "rd"
  refine⟨y.num,(y.den:Int),j3r oy,?_⟩
  rintro _ H1 ⟨o,rfl,n1,S1,h1⟩
  have y1:¬ 1000 < (y.num.natAbs:Int):=by have:=oy.1; omega
  have y2:¬ 1000 < (y.den:Int):=by have:=oy.2; omega
  walk_at "rd*"
  exact k _ _ ⟨o,rfl,n1,S1,h1⟩
theorem i6w (T : Tx K mg A) : a1h P A.wd K mg base CX0 3 A.a8h A.a8r ["text", "least", "most"] k4c := by
 have f8v:a1h P A.wd K mg base CX0 2 _ _ _ _:=k0a T
 refine T.a4y.ok c4l (fun vs H Q E h=>?_) (fun cdv A' outer s H vs Q E hr h=>?_)
 ·obtain⟨_,_,_,rfl,_⟩:=h9b (by unfold k4c at h; exact h)
  rfl
 ·obtain⟨x,a,b,rfl,⟨n,hx,hn,h1,h2,q⟩⟩:=h9b (by unfold k4c at h; exact h)
  have hu:=hr.units
  have f2v:a2p 2 _:=hr.mono (by decide)
  refine⟨_,(a0j (a1n (i:=3) c4l.nd rfl (Or.inl rfl) (a0n f8v f2v (by rfl) T.g7h T.c2s.kp T.g7g .nil a0p (a0g (pvF 0) a0h)))
   (a0j (a3v (pw_or (a1m i3o (pvF 3) d3m (a2n _)) (pw_or (a1m of_lt (pvF 3) (pvF 1) (a2n _)) (pw_or1 (a1m d7w (pvF 3) (pvF 2) (a2n _))))).pt
   (a0k a6m)
   a1k)
   (a0k (a0r (pvF 3))))),?_⟩
  walk_at "rd"
  refine⟨n,hx,by omega,?_⟩
  have z1:¬ (n:Int) < a:=by omega
  have z2:¬ b < (n:Int):=by omega
  walk_at "rd*"
theorem j0a (T : Tx K mg A) : a1h P A.wd K mg base CX0 4 A.b2q A.b2r ["text"] k4d := by
 have a3m:a1h P A.wd K mg base CX0 3 _ _ _ _:=i6w T
 refine T.a7j.ok g0i (fun vs H Q E h=>?_) (fun cdv A' outer s H vs Q E hr h=>?_)
 ·obtain⟨_,rfl,_⟩:=g5b (by unfold k4d at h; exact h)
  rfl
 ·obtain⟨x,rfl,⟨n,hx,n1,n2,q⟩⟩:=g5b (by unfold k4d at h; exact h)
  subst hx
  have hu:=hr.units
  have a2y:a2p 3 _:=hr.mono (by decide)
  refine⟨_,(a0k (a0r (a0n a3m a2y (by rfl) T.a8q T.a4y.kp T.a8p .nil a0p (a0g (pvF 0) (a0g a0i (a0g (a2t (v:=.int 1000) (by rfl) T.d1y T.b9g) a0h)))))),?_⟩
  walk_at "rd"
  exact⟨n,h2y n,by omega,by omega,by omega,q⟩
theorem g1d (T : Tx K mg A) : a1h P A.wd K mg base CX0 1 A.a8i A.a8s ["values", "count"] k4e := by
 refine T.a2v.ok f1u (fun vs H Q E h=>?_) (fun cdv A' outer s H vs Q E hr h=>?_)
 ·obtain⟨_,_,rfl,_⟩:=d3t (by unfold k4e at h; exact h)
  rfl
 ·obtain⟨l,c,rfl,⟨xs,hl,e,q⟩⟩:=d3t (by unfold k4e at h; exact h)
  have hu:=hr.units
  refine⟨_,(a0k (a3v (a1m (b7i hu) (a0z a5w (by rfl) T.d9o boot_len (a0g (pvF 0) a0h)) (pvF 1) (a2n _))
   (a0k a6m)
   a1k)),?_⟩
  walk_at "rd*"
theorem i2k (T : Tx K mg A) : a1h P A.wd K mg base CX0 6 A.b9p A.c1s ["values"] (h1r A 0) := by
 have a2l:a1h P A.wd K mg base CX0 1 _ _ _ _:=g1d T
 have a3n:a1h P A.wd K mg base CX0 4 _ _ _ _:=h4s T
 have f2w:a1h P A.wd K mg base CX0 1 _ _ _ _:=h9p T
 have a3o:=T.a3o
 have a2i:=T.a2i
 refine T.c9s.ok g6z (fun vs H Q E h=>?_) (fun cdv A' outer s H vs Q E hr h=>?_)
 ·obtain⟨_,rfl,_⟩:=a6y (by unfold h1r at h; exact h)
  rfl
 ·obtain⟨l,rfl,⟨d,hk,ok,hl,q⟩⟩:=a6y (by unfold h1r at h; exact h)
  cases d with
  | gain y =>
   have hu:=hr.units
   have a1t:a2p 1 _:=hr.mono (by decide)
   have a2w:a2p 4 _:=hr.mono (by decide)
   have d9q:a2p 2 _:=hr.mono (by decide)
   replace hl:H l=some (.lst [.str (fW y)]):=hl
   refine⟨_,(a0j (b1t (a0n a2l a1t (by rfl) T.a5j T.a2v.kp T.a5i .nil a0p (a0g (pvF 0) (a0g a0i a0h))))
   (a0k (a0r (b1y T.h9c f2w d9q (by rfl) T.i5j T.g3o .nil a0p (a0g (a0n a3n a2w (by rfl) T.a8v T.a5m.kp T.a8u .nil a0p (a0g (a0v a3s (pvF 0) a0i (fun _ _=>rfl)) a0h)) a0h))))),?_⟩
   walk_at "rd"
   refine⟨_,hl,rfl,?_⟩
   walk_at "rd*"
   refine⟨y,rfl,ok,?_⟩
   rintro _ H1 ⟨g,rfl,n1,S1,h1⟩
   walk_at "rd"
   intro x dx H2 n2 n3 nx S2 hdx hx
   refine⟨dx,hx,fun H3 B3 h3=>?_⟩
   rw [asNew]
   refine⟨rfl,?_⟩
   have gx:g≠x:=fun e=>by rw [e] at h1; rw [h1] at n2; cases n2
   refine q x H3 (S1.free n2) (fun b u e=>B3 _ _ (fun z=>by rw [z] at e; rw [S1 _ _ e] at n2; cases n2) (S2 _ _ (S1 _ _ e))) ⟨dx,_,h3,g,rfl,B3 _ _ gx (S2 _ _ h1)⟩
  | _=>simp [Dt.kd] at hk
theorem h7y (T : Tx K mg A) : a1h P A.wd K mg base CX0 6 A.b4p A.b6y ["values"] (h1r A 1) := by
 have a2l:a1h P A.wd K mg base CX0 1 _ _ _ _:=g1d T
 have a3m:a1h P A.wd K mg base CX0 3 _ _ _ _:=i6w T
 have d9r:a1h P A.wd K mg base CX0 1 _ _ _ _:=h4q T
 have a2r:=T.a2r
 have a1r:=T.a1r
 refine T.c2v.ok g2w (fun vs H Q E h=>?_) (fun cdv A' outer s H vs Q E hr h=>?_)
 ·obtain⟨_,rfl,_⟩:=a6y (by unfold h1r at h; exact h)
  rfl
 ·obtain⟨l,rfl,⟨d,hk,ok,hl,q⟩⟩:=a6y (by unfold h1r at h; exact h)
  cases d with
  | delay n =>
   have hu:=hr.units
   have a1t:a2p 1 _:=hr.mono (by decide)
   have a2y:a2p 3 _:=hr.mono (by decide)
   have d7i:a2p 2 _:=hr.mono (by decide)
   have ok:n<=1000:=ok
   replace hl:H l=some (.lst [.str (nW n)]):=hl
   refine⟨_,(a0j (b1t (a0n a2l a1t (by rfl) T.a5j T.a2v.kp T.a5i .nil a0p (a0g (pvF 0) (a0g a0i a0h))))
   (a0k (a0r (b1y T.g9h d9r d7i (by rfl) T.h9g T.g0m .nil a0p (a0g (a0n a3m a2y (by rfl) T.a8q T.a4y.kp T.a8p .nil a0p (a0g (a0v a3s (pvF 0) a0i (fun _ _=>rfl)) (a0g a0i (a0g (a2t (v:=.int 1000) (by rfl) T.d1y T.b9g) a0h)))) a0h))))),?_⟩
   walk_at "rd"
   refine⟨_,hl,rfl,?_⟩
   walk_at "rd*"
   refine⟨n,h2y n,by omega,by omega,by omega,?_⟩
   intro x dx H2 n2 n3 nx S2 hdx hx
   refine⟨dx,hx,fun H3 B3 h3=>?_⟩
   rw [asNew]
   refine⟨rfl,?_⟩
   exact q x H3 n2 (fun b u e=>B3 _ _ (fun z=>by rw [z] at e; rw [e] at n2; cases n2) (S2 _ _ e)) ⟨dx,_,h3,rfl⟩
  | _=>simp [Dt.kd] at hk
theorem i2l (T : Tx K mg A) : a1h P A.wd K mg base CX0 6 A.b9q A.c1t ["values"] (h1r A 2) := by
 have a2l:a1h P A.wd K mg base CX0 1 _ _ _ _:=g1d T
 have a3n:a1h P A.wd K mg base CX0 4 _ _ _ _:=h4s T
 have a7n:a1h P A.wd K mg base CX0 4 _ _ _ _:=j0a T
 have a3m:a1h P A.wd K mg base CX0 3 _ _ _ _:=i6w T
 have f2y:a1h P A.wd K mg base CX0 2 _ _ _ _:=h9o T
 have a3i:=T.a3i
 have a1u:=T.a1u
 have a1v:=T.a1v
 have a1j:=T.a1j
 have a0t:=T.a0t
 have a0m:=T.a0m
 refine T.c9t.ok g7a (fun vs H Q E h=>?_) (fun cdv A' outer s H vs Q E hr h=>?_)
 ·obtain⟨_,rfl,_⟩:=a6y (by unfold h1r at h; exact h)
  rfl
 ·obtain⟨l,rfl,⟨d,hk,ok,hl,q⟩⟩:=a6y (by unfold h1r at h; exact h)
  cases d with
  | echo y n t =>
   have hu:=hr.units
   have a1t:a2p 1 _:=hr.mono (by decide)
   have a2w:a2p 4 _:=hr.mono (by decide)
   have a6k:a2p 4 _:=hr.mono (by decide)
   have a2y:a2p 3 _:=hr.mono (by decide)
   have d9s:a2p 3 _:=hr.mono (by decide)
   obtain⟨oy,na,nb,tb⟩:=ok
   replace hl:H l=some (.lst [.str (fW y),.str (nW n),.str (nW t)]):=hl
   refine⟨_,(a0j (b1t (a0n a2l a1t (by rfl) T.a5j T.a2v.kp T.a5i .nil a0p (a0g (pvF 0) (a0g a0i a0h))))
   (a0k (a0r (b1y T.h9d f2y d9s (by rfl) T.i5k T.g3s .nil a0p (a0g (a0n a3n a2w (by rfl) T.a8v T.a5m.kp T.a8u .nil a0p (a0g (a0v a3s (pvF 0) a0i (fun _ _=>rfl)) a0h)) (a0g (a0n a7n a6k (by rfl) T.c4h T.a7j.kp T.c4g .nil a0p (a0g (a0v a3s (pvF 0) a0i (fun _ _=>rfl)) a0h)) (a0g (a0n a3m a2y (by rfl) T.a8q T.a4y.kp T.a8p .nil a0p (a0g (a0v a3s (pvF 0) a0i (fun _ _=>rfl)) (a0g a0i (a0g (a2t (v:=.int 16) (by rfl) T.f5w T.c7j) a0h)))) a0h))))))),?_⟩
   walk_at "rd"
   refine⟨_,hl,rfl,?_⟩
   walk_at "rd*"
   refine⟨y,rfl,oy,?_⟩
   rintro _ H1 ⟨g,rfl,n1,S1,h1⟩
   have hl1:=S1 _ _ hl
   clear hl
   walk_at "rd*"
   refine⟨n,rfl,na,nb,t,h2y t,by omega,by omega,by omega,?_⟩
   intro x dx H2 n2 n3 nx S2 hdx hx
   refine⟨dx,n,t,y.num,(y.den:Int),rfl,rfl,tb,oy.b.1,oy.b.2,S2 _ _ h1,hx,fun fa H3 B3 nf h3 hf=>?_⟩
   rw [asNew]
   refine⟨rfl,?_⟩
   have gx:g≠x:=fun e=>by rw [e] at h1; rw [h1] at n2; cases n2
   exact q x H3 (S1.free n2) (fun b u e=>B3 _ _ (fun z=>by rw [z] at e; rw [S1 _ _ e] at n2; cases n2) (S2 _ _ (S1 _ _ e))) ⟨dx,_,h3,g,fa,rfl,B3 _ _ gx (S2 _ _ h1),hf⟩
  | _=>simp [Dt.kd] at hk
theorem i2m (T : Tx K mg A) : a1h P A.wd K mg base CX0 6 A.b9r A.c1u ["values"] (h1r A 3) := by
 have a2l:a1h P A.wd K mg base CX0 1 _ _ _ _:=g1d T
 have a3n:a1h P A.wd K mg base CX0 4 _ _ _ _:=h4s T
 have a7n:a1h P A.wd K mg base CX0 4 _ _ _ _:=j0a T
 have f2z:a1h P A.wd K mg base CX0 1 _ _ _ _:=h9q T
 have a3j:=T.a3j
 have a1w:=T.a1w
 have a1y:=T.a1y
 refine T.c9u.ok g7b (fun vs H Q E h=>?_) (fun cdv A' outer s H vs Q E hr h=>?_)
 ·obtain⟨_,rfl,_⟩:=a6y (by unfold h1r at h; exact h)
  rfl
 ·obtain⟨l,rfl,⟨d,hk,ok,hl,q⟩⟩:=a6y (by unfold h1r at h; exact h)
  cases d with
  | back y n =>
   have hu:=hr.units
   have a1t:a2p 1 _:=hr.mono (by decide)
   have a2w:a2p 4 _:=hr.mono (by decide)
   have a6k:a2p 4 _:=hr.mono (by decide)
   have d9t:a2p 2 _:=hr.mono (by decide)
   obtain⟨oy,na,nb⟩:=ok
   replace hl:H l=some (.lst [.str (fW y),.str (nW n)]):=hl
   refine⟨_,(a0j (b1t (a0n a2l a1t (by rfl) T.a5j T.a2v.kp T.a5i .nil a0p (a0g (pvF 0) (a0g a0i a0h))))
   (a0k (a0r (b1y T.h9e f2z d9t (by rfl) T.i5l T.g3u .nil a0p (a0g (a0n a3n a2w (by rfl) T.a8v T.a5m.kp T.a8u .nil a0p (a0g (a0v a3s (pvF 0) a0i (fun _ _=>rfl)) a0h)) (a0g (a0n a7n a6k (by rfl) T.c4h T.a7j.kp T.c4g .nil a0p (a0g (a0v a3s (pvF 0) a0i (fun _ _=>rfl)) a0h)) a0h)))))),?_⟩
   walk_at "rd"
   refine⟨_,hl,rfl,?_⟩
   walk_at "rd*"
   refine⟨y,rfl,oy,?_⟩
   rintro _ H1 ⟨g,rfl,n1,S1,h1⟩
   have hl1:=S1 _ _ hl
   clear hl
   walk_at "rd*"
   refine⟨n,rfl,na,nb,?_⟩
   intro x dx H2 n2 n3 nx S2 hdx hx
   refine⟨dx,hx,fun H3 B3 h3=>?_⟩
   rw [asNew]
   refine⟨rfl,?_⟩
   have gx:g≠x:=fun e=>by rw [e] at h1; rw [h1] at n2; cases n2
   exact q x H3 (S1.free n2) (fun b u e=>B3 _ _ (fun z=>by rw [z] at e; rw [S1 _ _ e] at n2; cases n2) (S2 _ _ (S1 _ _ e))) ⟨dx,_,h3,g,rfl,B3 _ _ gx (S2 _ _ h1)⟩
  | _=>simp [Dt.kd] at hk
theorem i2n (T : Tx K mg A) : a1h P A.wd K mg base CX0 6 A.b9s A.c1v ["values"] (h1r A 4) := by
 have a2l:a1h P A.wd K mg base CX0 1 _ _ _ _:=g1d T
 have a3n:a1h P A.wd K mg base CX0 4 _ _ _ _:=h4s T
 have a7n:a1h P A.wd K mg base CX0 4 _ _ _ _:=j0a T
 have c0m:a1h P A.wd K mg base CX0 1 _ _ _ _:=g4k T
 have d4t:a1h P A.wd K mg base CX0 1 _ _ _ _:=h0j T
 have f3g:a1h P A.wd K mg base CX0 1 _ _ _ _:=h9r T
 have a3p:=T.a3p
 have a2j:=T.a2j
 have a2k:=T.a2k
 refine T.c9v.ok f0t (fun vs H Q E h=>?_) (fun cdv A' outer s H vs Q E hr h=>?_)
 ·obtain⟨_,rfl,_⟩:=a6y (by unfold h1r at h; exact h)
  rfl
 ·obtain⟨l,rfl,⟨d,hk,ok,hl,q⟩⟩:=a6y (by unfold h1r at h; exact h)
  cases d with
  | hall y n =>
   have hu:=hr.units
   have a1t:a2p 1 _:=hr.mono (by decide)
   have a2w:a2p 4 _:=hr.mono (by decide)
   have a6k:a2p 4 _:=hr.mono (by decide)
   have b5z:a2p 1 _:=hr.mono (by decide)
   have d0o:a2p 1 _:=hr.mono (by decide)
   have d9u:a2p 2 _:=hr.mono (by decide)
   obtain⟨oy,yl,na,nb⟩:=ok
   replace hl:H l=some (.lst [.str (fW y),.str (nW n)]):=hl
   refine⟨_,(a0j (b1t (a0n a2l a1t (by rfl) T.a5j T.a2v.kp T.a5i .nil a0p (a0g (pvF 0) (a0g a0i a0h))))
   (a0j (a1n (i:=1) f0t.nd rfl (Or.inl rfl) (a0n a3n a2w (by rfl) T.a8v T.a5m.kp T.a8u .nil a0p (a0g (a0v a3s (pvF 0) a0i (fun _ _=>rfl)) a0h)))
   (a0j (a3v (b2g (a3t (a0n d4t d0o (by rfl) T.f8p T.c2t.kp T.f8o .nil a0p (a0g (a0n c0m b5z (by rfl) T.d9h T.b9t.kp T.d9g .nil a0p (a0g (pvF 1) a0h)) (a0g (a4u (a0g a0i (a0g a0i a0h))) a0h)))))
   (a0k a6m)
   a1k)
   (a0k (a0r (b1y T.h9f f3g d9u (by rfl) T.i5m T.g3w .nil a0p (a0g (pvF 1) (a0g (a0n a7n a6k (by rfl) T.c4h T.a7j.kp T.c4g .nil a0p (a0g (a0v a3s (pvF 0) a0i (fun _ _=>rfl)) a0h)) a0h)))))))),?_⟩
   walk_at "rd"
   refine⟨_,hl,rfl,?_⟩
   walk_at "rd*"
   refine⟨y,rfl,oy,?_⟩
   rintro _ H1 ⟨g,rfl,n1,S1,h1⟩
   have hl1:=S1 _ _ hl
   clear hl
   walk_at "rd"
   refine⟨y,h1,?_⟩
   rintro _ H2 ⟨a,rfl,n2,S2,h2⟩
   walk_at "rd"
   refine fun u H3 n3 S3 h3=>?_
   have h3':H3 u=some (.tup (a9v 1)):=h3
   have S13:=S2.trans S3
   have b1:=oy.b.1
   have b2:=oy.b.2
   have ab:=f1l b1
   have hl3:=S13 _ _ hl1
   clear h3 hl1
   have un:(Rat.abs y).num*((1:Rat).den:Int) < (1:Rat).num*((Rat.abs y).den:Int):=by
    rw [d3j,c0k]
    show (y.num.natAbs:Int)*1 < 1*(y.den:Int)
    omega
   walk_at "rd"
   refine⟨Rat.abs y,1,⟨S3 _ _ h2,h3',by omega,by rw [c0k]; omega,by decide,by decide⟩,?_⟩
   walk_at "rd*"
   refine⟨n,rfl,na,nb,?_⟩
   intro x dx H4 n4 n5 nx S4 hdx hx
   refine⟨dx,hx,fun H5 B5 h5=>?_⟩
   rw [asNew]
   refine⟨rfl,?_⟩
   have h1':=S13 _ _ h1
   have S03:=S1.trans S13
   have gx:g≠x:=fun e=>by rw [e] at h1'; rw [h1'] at n4; cases n4
   exact q x H5 (S03.free n4) (fun b u e=>B5 _ _ (fun z=>by rw [z] at e; rw [S03 _ _ e] at n4; cases n4) (S4 _ _ (S03 _ _ e))) ⟨dx,_,h5,g,rfl,B5 _ _ gx (S4 _ _ h1')⟩
  | _=>simp [Dt.kd] at hk
theorem Crn.i6x{l:Addr}{H H':Hp}{ps:List Addr}{cs:List (Int×Rat)}{xs:List V}(h:Crn H ps cs)(hl:H l=some (.lst xs))(S:b1u l H H'):Crn H' ps cs :=
 ⟨h.1,fun i p c e1 e2=>(h.2 i p c e1 e2).elim fun g z=>⟨g,S _ _ (fun e=>by have:=z.1; rw [e,hl] at this; cases this) z.1,S _ _ (fun e=>by have:=z.2; rw [e,hl] at this; cases this) z.2⟩⟩
theorem Crn.nil{H:Hp}:Crn H [] []:=⟨rfl,fun i p r e=>by simp at e⟩
theorem Crn.snoc{H:Hp}{ps:List Addr}{cs:List (Int×Rat)}{p g:Addr}{a:Int}{y:Rat}(h:Crn H ps cs)(hp:H p=some (.tup [.int a,.ref g]))(hg:H g=some (.tup (a9v y))):Crn H (ps++[p]) (cs++[(a,y)]):=by
 refine⟨by rw [List.length_append,List.length_append,h.1]; rfl,fun i p' c' e1 e2=>?_⟩
 by_cases hi:i < ps.length
 ·rw [List.getElem?_append_left hi] at e1
  rw [List.getElem?_append_left (by rw [<- h.1]; exact hi)] at e2
  exact h.2 i p' c' e1 e2
 ·rw [List.getElem?_append_right (by omega)] at e1
  rw [List.getElem?_append_right (by rw [<- h.1]; omega)] at e2
  rw [<- h.1] at e2
  cases hz:i - ps.length with
  | zero =>
   rw [hz] at e1 e2
   simp at e1 e2
   subst e1 e2
   exact⟨g,hp,hg⟩
  | succ n =>
   rw [hz] at e1
   simp at e1
theorem k0n (T : Tx K mg A) : a1h P A.wd K mg base CX0 5 A.a8j A.a8t ["text"] k4f := by
 have a3n:a1h P A.wd K mg base CX0 4 _ _ _ _:=h4s T
 have a3m:a1h P A.wd K mg base CX0 3 _ _ _ _:=i6w T
 refine T.b0j.ok c4m (fun vs H Q E h=>?_) (fun cdv A' outer s H vs Q E hr h=>?_)
 ·obtain⟨_,rfl,_⟩:=g5b (by unfold k4f at h; exact h)
  rfl
 ·obtain⟨x,rfl,⟨c,hx,c0,c1,oy,q⟩⟩:=g5b (by unfold k4f at h; exact h)
  subst hx
  have hu:=hr.units
  have a2w:a2p 4 _:=hr.mono (by decide)
  have a2y:a2p 3 _:=hr.mono (by decide)
  have sp:=h3a (c:=c)
  have cl:=j1i (c:=c) (by omega) oy.b.1 oy.b.2
  have hs:sizeLine=16777216:=sizeLine_eq
  have d1:((⟨#[61]⟩:Str).length == 0)=false:=rfl
  have d2:(cW c).length<=sizeLine:=by omega
  refine⟨_,(a0j (a1n (i:=1) c4m.nd rfl (Or.inl rfl) (b7j a8g PySem.F.plainAttrs_str PySem.F.slot_str_split PySem.F.type_str_split d0r (pvF 0) (a0g a1z a0h)))
   (a0j (a3v (a1m (b7i hu) (a0z a5w (by rfl) T.d9o boot_len (a0g (pvF 1) a0h)) a0i (a2n _))
   (a0k a6m)
   a1k)
   (a0k (a0r (a4u (a0g (a0n a3m a2y (by rfl) T.a8q T.a4y.kp T.a8p .nil a0p (a0g (a0v a3s (pvF 1) a0i (fun _ _=>rfl)) (a0g a0i (a0g (a2t (v:=.int 100000) (by rfl) T.g7o T.f0w) a0h)))) (a0g (a0n a3n a2w (by rfl) T.a8v T.a5m.kp T.a8u .nil a0p (a0g (a0v a3s (pvF 1) a0i (fun _ _=>rfl)) a0h)) a0h))))))),?_⟩
  rw [j9d]
  walk_at "rd*"
  refine⟨by omega,fun l H1 n1 S1 h1=>?_⟩
  walk_at "rd*"
  have e:((c.1.toNat:Nat):Int)=c.1:=Int.toNat_of_nonneg c0
  refine⟨c.1.toNat,by rw [d7p,e],by omega,by omega,by omega,c.2,rfl,oy,?_⟩
  rw [e]
  rintro _ H2 ⟨g,rfl,n2,S2,h2⟩
  walk_at "rd"
  intro p H3 n3 S3 h3
  exact q p g H3 ((S1.trans S2).free n3) (S1.trans (S2.trans S3)) h3 (S3 _ _ h2)
theorem h7z (T : Tx K mg A) : a1h P A.wd K mg base CX0 7 A.b4q A.b6z ["values"] (h1r A 5) := by
 have a2l:a1h P A.wd K mg base CX0 1 _ _ _ _:=g1d T
 have d7j:a1h P A.wd K mg base CX0 5 _ _ _ _:=k0n T
 have d9v:a1h P A.wd K mg base CX0 5 _ _ _ _:=h4o T
 have a2o:=T.a2o
 have a0q:=T.a0q
 have a0u:=T.a0u
 have a0y:=T.a0y
 refine T.c2w.ok b2l (fun vs H Q E h=>?_) (fun cdv A' outer s H vs Q E hr h=>?_)
 ·obtain⟨_,rfl,_⟩:=a6y (by unfold h1r at h; exact h)
  rfl
 ·obtain⟨l,rfl,⟨d,hk,ok,hl,q⟩⟩:=a6y (by unfold h1r at h; exact h)
  cases d with
  | swell cs =>
   have hu:=hr.units
   have a1t:a2p 1 _:=hr.mono (by decide)
   have d3k:a2p 5 _:=hr.mono (by decide)
   have d7k:a2p 6 _:=hr.mono (by decide)
   have ok:h1q cs:=ok
   have L1:=ok.2.2.1
   have L12:=ok.2.2.2
   have hs:sizeLine=16777216:=sizeLine_eq
   have jl:=ok.k1s
   have sp:=g8k L1
   have d1:((⟨#[44]⟩:Str).length == 0)=false:=rfl
   replace hl:H l=some (.lst [.str (Str.join ⟨#[44]⟩ (cs.map cW))]):=hl
   refine⟨_,(a0j (b1t (a0n a2l a1t (by rfl) T.a5j T.a2v.kp T.a5i .nil a0p (a0g (pvF 0) (a0g a0i a0h))))
   (a0j (g1w (i := 1) b2l.nd rfl rfl (a5q (b7j a8g PySem.F.plainAttrs_str PySem.F.slot_str_split PySem.F.type_str_split d0r (a0v a3s (pvF 0) a0i (fun _ _ => rfl)) (a0g a1z a0h))) (fun _ _ _ _ _ => (a0n d7j d3k (by rfl) T.f5q T.b0j.kp T.f5p .nil a0p (a0g (pvF 0) a0h))) (d4v (sc := a0l f0q) (N := ["values", "corners", "left", "right"]) rfl rfl (by decide +kernel)) rfl)
   (a0j (a3v (a1m d7w (a0z a5w (by rfl) T.d9o boot_len (a0g (pvF 1) a0h)) (a2t (v:=.int 12) (by rfl) T.d9p T.c0i) (a2n _))
   (a0k a6m)
   a1k)
   (a0j (b6j PassesOwn.never rfl (h8s (by rfl) T.i9n (a0g (pvF 1) (a0g (a5p k3s (pvF 1) (a5r a0i) a6z) a0h))) (f7h (n:=2) rfl (a6r (a5g (i:=2) b2l.nd rfl (Or.inl rfl)) (a6r (a5g (i:=3) b2l.nd rfl (Or.inl rfl)) f0o)))
   (a0k (a3v (a1m j7v (a0v a3s (pvF 2) a0i (fun _ _=>rfl)) (a0v a3s (pvF 3) a0i (fun _ _=>rfl)) (a2n _))
   (a0k a6m)
   a1k)))
   (a0k (a0r (b1y T.g9i d9v d7k (by rfl) T.h9h T.g0o .nil a0p (a0g (pvF 1) a0h)))))))),?_⟩
   rw [i4r]
   walk_at "rd"
   refine⟨_,hl,rfl,?_⟩
   walk_at "rd*"
   refine⟨by omega,by omega,fun a H1 n1 S1 h1=>?_⟩
   walk_at "rd"
   refine⟨⟨_,SqL.of h1⟩,fun D H2 n2 S2 h2=>?_⟩
   refine c0t (xs:=(cs.map cW).map V.str) (fun i ys H'=>Same H1 H'/\H' D=some (.lst ys)/\∃ ps,ys=ps.map V.ref/\Crn H' ps (cs.take i)) ⟨S2,h2,[],rfl,by rw [List.take_zero]; exact Crn.nil⟩ (by rw [List.length_map,List.length_map,hs]; omega) ?_ ?_ ?_
   ·intro i ys H' hi ⟨S',h',ps,e,R⟩
    rw [List.length_map,List.length_map] at hi
    exact⟨h',SqL.of (S' _ _ h1),by rw [e,List.length_map,R.1,List.length_take]; omega⟩
   ·intro i x ys H' hx ⟨S',h',ps,e,R⟩
    rw [List.map_map,List.getElem?_map] at hx
    obtain⟨c,hc,rfl⟩:=Option.map_eq_some_iff.mp hx
    obtain⟨o1,o2,oy⟩:=ok.1 c (List.mem_of_getElem? hc)
    walk_at "rd"
    refine⟨c,rfl,o1,o2,oy,fun p g H3 n3 S3 h3 hg=>⟨S3 _ _ h',fun H4 B4 h4=>⟨(S'.trans S3).step n2 B4,h4,ps++[p],by rw [e,List.map_append]; rfl,?_⟩⟩⟩
    rw [List.take_add_one,hc]
    exact ((R.same S3).snoc h3 hg).i6x (S3 _ _ h') B4
   ·intro ys H3 ⟨S3,h3,ps,e,R⟩
    rw [List.length_map,List.length_map,List.take_length] at R
    subst e
    have pl:=R.1
    have ln:¬ (12:Int) < (cs.length:Int):=by omega
    clear h2 sp jl
    walk_at "rd*"
    refine fun c2 H4 n4 S4 h4=>?_
    have e2:d7r (ps.map V.ref) (some 1) none=(ps.drop 1).map V.ref:=by
     show g5a (ps.map V.ref) (some ((1:Nat):Int)) none=_
     rw [b2h,List.map_drop]
    rw [e2] at h4
    have h34:=S4 _ _ h3
    clear e2 h3
    walk_at "rd*"
    obtain⟨Pv,pin,pout⟩:=f6w (fun i σ H'=>∃ (v2 v3:Option V),σ = [some (.ref l),some (.ref D),v2,v3]/\Same H4 H')
    refine g8h (xs:=ps.map V.ref) (ys:=(ps.drop 1).map V.ref) Pv (pin _ _ _ ⟨_,_,rfl,Same.refl _⟩) ?_ ?_ ?_
    ·intro i σ H5 hp
     obtain⟨v2,v3,rfl,S5⟩:=pout _ _ _ hp
     exact⟨SqL.of (S5 _ _ h34),SqL.of (S5 _ _ h4)⟩
    ·intro i x y σ H5 p H6 hx hy hp np S6 h6
     obtain⟨v2,v3,rfl,S5⟩:=pout _ _ _ hp
     obtain⟨pc,c,g,rfl,hc,hpc,hg⟩:=R.get hx
     have hy':(ps.map V.ref)[i+1]? = some y:=by
      rw [List.map_drop,List.getElem?_drop] at hy
      rwa [Nat.add_comm] at hy
     obtain⟨pd,d,gd,rfl,hd,hpd,hgd⟩:=R.get hy'
     have lt:=ok.2.1 i c d hc hd
     have nlt:¬ d.1<=c.1:=by omega
     have SS:=S4.trans (S5.trans S6)
     have k6c:=SS _ _ hpc
     have hpd':=SS _ _ hpd
     clear hpc hpd h34 h4 hg hgd
     walk_at "rd*"
     exact pin _ _ _ ⟨_,_,rfl,S5.trans S6⟩
    ·intro σ H5 hp
     obtain⟨v2,v3,rfl,S5⟩:=pout _ _ _ hp
     walk_at "rd"
     intro x dx H6 n6 n7 nx S6 hdx hx
     have hl6:=S6 _ _ (S5 _ _ h34)
     have S36:=S4.trans (S5.trans S6)
     have S03:=S1.trans S3
     have S05:=S03.trans (S4.trans S5)
     refine⟨dx,ps,cs,hx,hl6,R.same S36,h1q.crn ok,L1,L12,fun ct ln S ss us H7 B7 nct h7 hct hln TP sok=>?_⟩
     rw [asNew]
     refine⟨rfl,q x H7 (S05.free n6) (fun b u e=>B7 _ _ (fun z=>by rw [z] at e; rw [S05 _ _ e] at n6; cases n6) (S6 _ _ (S05 _ _ e))) ⟨dx,_,h7,ct,ln,S,ss,us,ps,rfl,hct,hln,TP,sok,(R.same S36).f2u hx B7⟩⟩
  | _=>simp [Dt.kd] at hk
theorem i6y (T : Tx K mg A) : a1h P A.wd K mg base CX0 8 A.c5i A.c1w ["word"] (i6b A) := by
 have g4p:a1h P A.wd K mg base CX0 6 _ _ _ _:=i2k T
 have f8w:a1h P A.wd K mg base CX0 6 _ _ _ _:=h7y T
 have g4q:a1h P A.wd K mg base CX0 6 _ _ _ _:=i2l T
 have g4r:a1h P A.wd K mg base CX0 6 _ _ _ _:=i2m T
 have g4s:a1h P A.wd K mg base CX0 6 _ _ _ _:=i2n T
 have f8y:a1h P A.wd K mg base CX0 7 _ _ _ _:=h7z T
 refine T.c9w.ok f0u (fun vs H Q E h=>?_) (fun cdv A' outer s H vs Q E hr h=>?_)
 ·obtain⟨_,rfl,_⟩:=g5b (by unfold i6b at h; exact h)
  rfl
 ·obtain⟨x,rfl,⟨d,ok,hx,q⟩⟩:=g5b (by unfold i6b at h; exact h)
  subst hx
  have hu:=hr.units
  have f8z:a2p 6 _:=hr.mono (by decide)
  have f3h:a2p 6 _:=hr.mono (by decide)
  have f9g:a2p 6 _:=hr.mono (by decide)
  have f9h:a2p 6 _:=hr.mono (by decide)
  have f9i:a2p 6 _:=hr.mono (by decide)
  have f3i:a2p 7 _:=hr.mono (by decide)
  have dk:=T.g7p
  have sp:=d.split
  have wl:=d.wlen ok
  have vn:=d.vn
  have hs:sizeLine=16777216:=sizeLine_eq
  have d1:((⟨#[58]⟩:Str).length == 0)=false:=rfl
  obtain⟨f,hf⟩:∃ f,PySem.W.nsIn K A.a2s d.kind=some (some (.ref f)):=by
   cases d with
   | gain=>exact⟨_,T.a9j⟩
   | delay=>exact⟨_,T.a7y⟩
   | echo=>exact⟨_,T.a9k⟩
   | back=>exact⟨_,T.a9l⟩
   | hall=>exact⟨_,T.a9m⟩
   | swell=>exact⟨_,T.a7z⟩
  refine ⟨_, (a0j (a3v (b2g (a3t (a0z (b3k .str) (by rfl) T.a2m boot_isinstance (a0g (pvF 0) (a0g (b9h (v := .ty "str") (u := .type "str") (by rfl) T.g0z rfl rfl) a0h)))))
   (a0k a6m)
   a1k)
   (a0j (a1n (i:=1) f0u.nd rfl (Or.inl rfl) (b7j a8g PySem.F.plainAttrs_str PySem.F.slot_str_split PySem.F.type_str_split d0r (pvF 0) (a0g a1z a0h)))
   (a0j (a3v (a1m (h2w (K:=K) (w:=A.wd) (by rfl) (by rfl)) (a0v a3s (pvF 1) a0i (fun _ _=>rfl)) (a2t (v:=.ref A.a2s) (by rfl) T.a6n rfl) (by rfl))
   (a0k a6m)
   a1k)
   (a0k (a0r (a0o (b6r g4p f8z T.c9s.kp T.h3z .nil a0p (a0v (i2w (K:=K) (w:=A.wd) (by rfl) (by rfl)) (a2t (v:=.ref A.a2s) (by rfl) T.a6n rfl) (a0v a3s (pvF 1) a0i (fun _ _=>rfl)) (fun _ _=>rfl)) (a0g (a5p g8g (pvF 1) (a5r a0i) a6z) a0h)) (a0o (b6r f8w f3h T.c2v.kp T.g7i .nil a0p (a0v (i2w (K:=K) (w:=A.wd) (by rfl) (by rfl)) (a2t (v:=.ref A.a2s) (by rfl) T.a6n rfl) (a0v a3s (pvF 1) a0i (fun _ _=>rfl)) (fun _ _=>rfl)) (a0g (a5p g8g (pvF 1) (a5r a0i) a6z) a0h)) (a0o (b6r g4q f9g T.c9t.kp T.h4a .nil a0p (a0v (i2w (K:=K) (w:=A.wd) (by rfl) (by rfl)) (a2t (v:=.ref A.a2s) (by rfl) T.a6n rfl) (a0v a3s (pvF 1) a0i (fun _ _=>rfl)) (fun _ _=>rfl)) (a0g (a5p g8g (pvF 1) (a5r a0i) a6z) a0h)) (a0o (b6r g4r f9h T.c9u.kp T.h4b .nil a0p (a0v (i2w (K:=K) (w:=A.wd) (by rfl) (by rfl)) (a2t (v:=.ref A.a2s) (by rfl) T.a6n rfl) (a0v a3s (pvF 1) a0i (fun _ _=>rfl)) (fun _ _=>rfl)) (a0g (a5p g8g (pvF 1) (a5r a0i) a6z) a0h)) (a0o (b6r g4s f9i T.c9v.kp T.h4d .nil a0p (a0v (i2w (K:=K) (w:=A.wd) (by rfl) (by rfl)) (a2t (v:=.ref A.a2s) (by rfl) T.a6n rfl) (a0v a3s (pvF 1) a0i (fun _ _=>rfl)) (fun _ _=>rfl)) (a0g (a5p g8g (pvF 1) (a5r a0i) a6z) a0h)) (b6r f8y f3i T.c2w.kp T.g7j .nil a0p (a0v (i2w (K:=K) (w:=A.wd) (by rfl) (by rfl)) (a2t (v:=.ref A.a2s) (by rfl) T.a6n rfl) (a0v a3s (pvF 1) a0i (fun _ _=>rfl)) (fun _ _=>rfl)) (a0g (a5p g8g (pvF 1) (a5r a0i) a6z) a0h)))))))))))),?_⟩
  rw [j9c]
  walk_at "rd*"
  refine⟨by omega,by omega,fun l H1 n1 S1 h1=>?_⟩
  clear sp wl
  walk_at "rd*"
  clear hf
  cases d with
  | gain y =>
   refine Or.inl ?_
   have rd:=T.a9j
   have q1:=ok
   clear ok
   replace h1 : H1 l = some (.lst [.str (Str.ofString "gain"), .str (fW y)]) := h1
   walk_at "rd*"
   refine fun m H2 n2 S2 h2=>?_
   have e2 : d7r [V.str (Str.ofString "gain"), V.str (fW y)] (some 1) none = (Dt.gain y).vals.map V.str := by
    show g5a _ (some ((1:Nat):Int)) none=_
    rw [b2h]
    rfl
   rw [e2] at h2
   walk_at "rd"
   exact⟨_,rfl,q1,h2,fun o H3 n3 S3 hp=>q o H3 ((S1.trans S2).free n3) (S1.trans (S2.trans S3)) hp⟩
  | delay n =>
   refine Or.inr (Or.inl ?_)
   have rd:=T.a7y
   have q1:=ok
   clear ok
   replace h1 : H1 l = some (.lst [.str (Str.ofString "delay"), .str (nW n)]) := h1
   walk_at "rd*"
   refine fun m H2 n2 S2 h2=>?_
   have e2 : d7r [V.str (Str.ofString "delay"), V.str (nW n)] (some 1) none = (Dt.delay n).vals.map V.str := by
    show g5a _ (some ((1:Nat):Int)) none=_
    rw [b2h]
    rfl
   rw [e2] at h2
   walk_at "rd"
   exact⟨_,rfl,q1,h2,fun o H3 n3 S3 hp=>q o H3 ((S1.trans S2).free n3) (S1.trans (S2.trans S3)) hp⟩
  | echo y n t =>
   refine Or.inr (Or.inr (Or.inl ?_))
   have rd:=T.a9k
   have q1:=ok
   clear ok
   replace h1 : H1 l = some (.lst [.str (Str.ofString "echo"), .str (fW y), .str (nW n), .str (nW t)]) := h1
   walk_at "rd*"
   refine fun m H2 n2 S2 h2=>?_
   have e2 : d7r [V.str (Str.ofString "echo"), V.str (fW y), V.str (nW n), V.str (nW t)] (some 1) none = (Dt.echo y n t).vals.map V.str := by
    show g5a _ (some ((1:Nat):Int)) none=_
    rw [b2h]
    rfl
   rw [e2] at h2
   walk_at "rd"
   exact⟨_,rfl,q1,h2,fun o H3 n3 S3 hp=>q o H3 ((S1.trans S2).free n3) (S1.trans (S2.trans S3)) hp⟩
  | back y n =>
   refine Or.inr (Or.inr (Or.inr (Or.inl ?_)))
   have rd:=T.a9l
   have q1:=ok
   clear ok
   replace h1 : H1 l = some (.lst [.str (Str.ofString "back"), .str (fW y), .str (nW n)]) := h1
   walk_at "rd*"
   refine fun m H2 n2 S2 h2=>?_
   have e2 : d7r [V.str (Str.ofString "back"), V.str (fW y), V.str (nW n)] (some 1) none = (Dt.back y n).vals.map V.str := by
    show g5a _ (some ((1:Nat):Int)) none=_
    rw [b2h]
    rfl
   rw [e2] at h2
   walk_at "rd"
   exact⟨_,rfl,q1,h2,fun o H3 n3 S3 hp=>q o H3 ((S1.trans S2).free n3) (S1.trans (S2.trans S3)) hp⟩
  | hall y n =>
   refine Or.inr (Or.inr (Or.inr (Or.inr (Or.inl ?_))))
   have rd:=T.a9m
   have q1:=ok
   clear ok
   replace h1 : H1 l = some (.lst [.str (Str.ofString "hall"), .str (fW y), .str (nW n)]) := h1
   walk_at "rd*"
   refine fun m H2 n2 S2 h2=>?_
   have e2 : d7r [V.str (Str.ofString "hall"), V.str (fW y), V.str (nW n)] (some 1) none = (Dt.hall y n).vals.map V.str := by
    show g5a _ (some ((1:Nat):Int)) none=_
    rw [b2h]
    rfl
   rw [e2] at h2
   walk_at "rd"
   exact⟨_,rfl,q1,h2,fun o H3 n3 S3 hp=>q o H3 ((S1.trans S2).free n3) (S1.trans (S2.trans S3)) hp⟩
  | swell cs =>
   refine Or.inr (Or.inr (Or.inr (Or.inr (Or.inr ?_))))
   have rd:=T.a7z
   have q1:=ok
   clear ok
   replace h1 : H1 l = some (.lst [.str (Str.ofString "swell"), .str (Str.join ⟨#[44]⟩ (cs.map cW))]) := h1
   walk_at "rd*"
   refine fun m H2 n2 S2 h2=>?_
   have e2 : d7r [V.str (Str.ofString "swell"), V.str (Str.join ⟨#[44]⟩ (cs.map cW))] (some 1) none = (Dt.swell cs).vals.map V.str := by
    show g5a _ (some ((1:Nat):Int)) none=_
    rw [b2h]
    rfl
   rw [e2] at h2
   walk_at "rd"
   exact⟨_,rfl,q1,h2,fun o H3 n3 S3 hp=>q o H3 ((S1.trans S2).free n3) (S1.trans (S2.trans S3)) hp⟩
theorem f9j{c:Nat}:∀ {a a' b b':List Nat},a++c :: b=a'++c :: b'->c∉a->c∉a'->a=a'/\b=b'
 | [],[],_,_,h,_,_=>by simpa using h
 | [],d :: a',_,_,h,_,h2=>by
  rw [List.nil_append,List.cons_append,List.cons.injEq] at h
  exact absurd (by rw [h.1]; exact List.mem_cons_self) h2
 | d :: a,[],_,_,h,h1,_=>by
  rw [List.nil_append,List.cons_append,List.cons.injEq] at h
  exact absurd (by rw [h.1]; exact List.mem_cons_self) h1
 | d :: a,d' :: a',_,_,h,h1,h2=>by
  rw [List.cons_append,List.cons_append,List.cons.injEq] at h
  obtain⟨e1,e2⟩:=f9j h.2 (fun q=>h1 (List.mem_cons_of_mem _ q)) (fun q=>h2 (List.mem_cons_of_mem _ q))
  exact⟨by rw [h.1,e1],e2⟩
theorem h9s{l:List Nat}:lead l=false ↔ ∀ r,l=48 :: r->r = []:=by
 unfold lead
 split
 ·rename_i d r
  simp
 ·rename_i h
  simp only [true_iff]
  intro r e
  cases r with
  | nil=>rfl
  | cons d r=>exact absurd e (h d r)
theorem h0n(n:Nat):txt (n:Int)=dg n:=if_neg (by omega)
theorem h0o{x:Str}{n:Nat}:j4o x=some n ↔ x=nW n:=by
 unfold j4o
 constructor
 ·intro h
  split at h
  ·rename_i q
   rw [Bool.and_eq_true,d0s,Bool.not_eq_true',h9s] at q
   have e:=i0x ⟨q.1.1,q.1.2,q.2⟩
   cases h
   refine a9p ?_
   rw [h2y,h0n,e]
  ·cases h
 ·rintro rfl
  have c:=i8z n
  rw [h2y,h0n,if_pos (by rw [d0s.mpr ⟨c.1,c.2.1⟩,h9s.mpr c.2.2]; rfl),g2b]
theorem k0o{x:Str}{t b:Int}(g:Good (sg x) t b)(h1:t.natAbs<=1000)(h2:b<=1000):IsG x:=by
 have hp:=g.pos
 have hl:=g.low
 refine⟨⟨t,b.toNat,by omega,?_⟩,a9p ?_,h1,by show b.toNat<=1000; omega⟩
 ·show Nat.gcd t.natAbs b.toNat=1
  rw [<- hl]
  unfold Int.gcd
  congr 1
  omega
 ·rw [i1c,g.eq]
  show h8o t b=h8o t ((b.toNat:Nat):Int)
  rw [Int.toNat_of_nonneg (by omega)]
theorem h9t{x:Str}:IsPart x ↔ ∃ d:Dt,d.ok/\a5s x ⟨#[58]⟩=d.kind :: d.vals:=by
 constructor
 ·rintro ⟨d,ok,rfl⟩
  exact⟨d,ok,d.split⟩
 ·rintro ⟨d,ok,e⟩
  refine⟨d,ok,?_⟩
  unfold Dt.word
  rw [<- e,g2e]
  exact a9p (by rw [StrLaws.join_split])
theorem h8a{x:Str}{c:Nat}:x=Str.join ⟨#[c]⟩ (a5s x ⟨#[c]⟩):=by
 rw [g2e]
 exact a9p (by rw [StrLaws.join_split])
theorem h9u{c:Nat}:∀ {ps:List Str} {p:Str},p∈ps->p.length<=(Str.join ⟨#[c]⟩ ps).length
 | [q],p,h=>by
  obtain rfl:=List.mem_singleton.mp h
  exact Nat.le_refl _
 | q :: q' :: r,p,h=>by
  rw [<- a9g (Str.join ⟨#[c]⟩ (q :: q' :: r)),b1z,List.length_append,List.length_cons,a9g,a9g]
  rcases List.mem_cons.mp h with rfl | h
  ·omega
  ·have:=h9u (c:=c) h
   omega
theorem h0p{x p:Str}{c:Nat}(h:p∈a5s x ⟨#[c]⟩):p.length<=x.length:=by
 have:=h9u (c:=c) h
 rwa [<- h8a] at this
theorem j5f (T : Tx K mg A) : a1h P A.wd K mg base CX0 2 A.b7k A.b6u ["text"] i6c := by
 have b3i:a1h P A.wd K mg base CX0 1 _ _ _ _:=f1k T
 refine T.c2s.ok g2v (fun vs H Q E h=>?_) (fun cdv A' outer s H vs Q E hr h=>?_)
 ·obtain⟨_,rfl,_⟩:=g5b (by unfold i6c at h; exact h)
  rfl
 ·obtain⟨x,rfl,⟨xl,q⟩⟩:=g5b (by unfold i6c at h; exact h)
  have hu:=hr.units
  have b0k:a2p 1 _:=hr.mono (by decide)
  have hs:sizeLine=16777216:=sizeLine_eq
  have sl : Str.ofString "0" = ⟨#[48]⟩ := by decide +kernel
  refine⟨_,(a0j (a3v (pw_or (b2g (a3t (a0n b3i b0k (by rfl) T.d1v T.a9t.kp T.d1u .nil a0p (a0g (pvF 0) a0h)))) (pw_or1 (a1m d7w (a0z a5w (by rfl) T.d9o boot_len (a0g (pvF 0) a0h)) (a2t (v:=.int 13) (by rfl) T.c0r T.a7o) (a2n _)))).pt
   (a0k (a0r d3m))
   a1k)
   (a0j (a3v (pw_and (a3t (b7j a8g PySem.F.plainAttrs_str PySem.F.slot_str_startswith PySem.F.type_str_startswith c6m (pvF 0) (a0g a1z a0h))) (pw_and1 (a1m (b7i hu) (pvF 0) a1z (a2n _)))).pt
   (a0k (a0r d3m))
   a1k)
   (a0k (a0r (a5h b9k (by rfl) T.g4a boot_int (a0g (pvF 0) a0h)))))),?_⟩
  rw [sl]
  walk_at "rd"
  unfold j9s j4o at q
  cases hf:h2v (sg x) with
  | false =>
   rw [if_pos rfl]
   rw [hf,Bool.false_and,if_neg Bool.false_ne_true] at q
   exact q
  | true =>
   rw [if_neg (by decide)]
   refine⟨by omega,?_⟩
   rw [hf,Bool.true_and] at q
   have ff:=d0s.mp hf
   have k4j:lead (sg x)=(Txt.startswith x ⟨#[48]⟩ && !decide (x=(⟨#[48]⟩:Str))):=by
    rw [h8p]
    unfold lead
    split
    ·rename_i d r e
     rw [e,decide_eq_false (p:=x=(⟨#[48]⟩:Str)) (fun z=>by rw [z] at e; cases e)]
     rfl
    ·rename_i h
     cases e:sg x with
     | nil=>exact absurd e ff.2
     | cons c r =>
      by_cases hc:c=48
      ·subst hc
       cases r with
       | nil=>rw [show x=(⟨#[48]⟩:Str) from a9p e]; rfl
       | cons d r=>exact absurd e (h d r)
      ·rw [show decide ((c :: r)[0]? = some 48)=false from decide_eq_false (by simpa using hc)]
       rfl
   rw [k4j] at q
   by_cases h1:(13:Int) < (x.length:Int)
   ·rw [if_pos (.inl h1)]
    split at q
    ·rw [if_neg (by omega)] at q
     exact q
    ·exact q
   ·by_cases h2:Txt.startswith x ⟨#[48]⟩=true/\¬ x=(⟨#[48]⟩:Str)
    ·rw [if_pos (.inr h2)]
     rw [h2.1,decide_eq_false h2.2,if_neg (by decide)] at q
     exact q
    ·rw [if_neg (fun z=>z.elim h1 h2)]
     rw [if_pos ?_] at q
     ·replace q:Q (if x.length<=13 then V.int (NumText.digitsVal (sg x):Nat) else V.non) H:=q
      rw [if_pos (by omega)] at q
      exact⟨_,PySem.intText_digits ff.1 ff.2 (by omega),by omega,q⟩
     ·rw [Bool.not_eq_true',Bool.and_eq_false_iff]
      by_cases h3:Txt.startswith x ⟨#[48]⟩=true
      ·right
       rw [decide_eq_true (Classical.byContradiction fun z=>h2 ⟨h3,z⟩)]
       rfl
      ·exact .inl (Bool.eq_false_iff.mpr h3)
theorem h9v (T : Tx K mg A) : a1h P A.wd K mg base (CXE P A.wd) 3 A.a8h A.a8r ["text", "least", "most"] (j4p A) := by
 have f8v:a1h P A.wd K mg base CX0 2 _ _ _ _:=j5f T
 refine T.a4y.okX c4l (fun vs H Q E h=>?_) (fun cdv A' outer s H vs Q E hr h=>?_)
 ·obtain⟨_,_,_,rfl,_⟩:=h9b (by unfold j4p at h; exact h)
  rfl
 ·obtain⟨x,a,b,rfl,⟨m,n,ea,eb,nl,ml,xl,no,q⟩⟩:=h9b (by unfold j4p at h; exact h)
  subst ea eb
  have hu:=hr.units
  have f2v:a2p 2 _:=hr.mono (by decide)
  have hs:sizeLine=16777216:=sizeLine_eq
  have e0:Str.empty.length=0:=rfl
  have e1 : (Str.ofString "a number from ").length = 14 := by decide +kernel
  have e2 : (Str.ofString " to ").length = 4 := by decide +kernel
  have e3 : (Str.ofString " is due, in figures without noughts ahead").length = 41 := by decide +kernel
  have l1:=b9n (t:=(m:Int)) (n:=20) (by omega) (by decide)
  have l2:=b9n (t:=(n:Int)) (n:=20) (by omega) (by decide)
  have g1:=b9m (t:=(m:Int)) (n:=20) (by omega) (by decide)
  have g2:=b9m (t:=(n:Int)) (n:=20) (by omega) (by decide)
  obtain⟨R,hR⟩:∃ R:Prop,R=E (.ref A.a0w) none H:=⟨_,rfl⟩
  rw [<- hR] at q
  have key:j9s x = .non\/∃ i:Int,j9s x = .int i/\(i < m\/(n:Int) < i):=by
   unfold j9s
   cases hn:j4o x with
   | none=>exact .inl rfl
   | some i =>
    by_cases h13:x.length<=13
    ·refine .inr ⟨i,if_pos h13,?_⟩
     rcases Nat.lt_or_ge i m with z | z
     ·exact .inl (by omega)
     ·rcases Nat.lt_or_ge n i with y | y
      ·exact .inr (by omega)
      ·exact absurd ⟨i,h0o.mp hn,z,y⟩ no
    ·exact .inl (if_neg h13)
  refine⟨_,(a0j (a1n (i:=3) c4l.nd rfl (Or.inl rfl) (a0n f8v f2v (by rfl) T.g7h T.c2s.kp T.g7g .nil a0p (a0g (pvF 0) a0h)))
   (a0j (a3v (pw_or (a1m i3o (pvF 3) d3m (a2n _)) (pw_or (a1m of_lt (pvF 3) (pvF 1) (a2n _)) (pw_or1 (a1m d7w (pvF 3) (pvF 2) (a2n _))))).pt
   (a0k (a8z T.b6t T.a9n a8y rfl (by rfl) (a0g (b6n (a4v a1z (a4v (c0q (pvF 1)) (a4v a1z (a4v (c0q (pvF 2)) (a4v a1z f1r)))))) a0h)))
   a1k)
   (a0k (a0r (pvF 3))))),?_⟩
  walk_at "rd"
  rw [<- hR]
  simp only [strLen_append,e0,e1,e2,e3]
  refine⟨xl,?_⟩
  rcases key with hv | ⟨i,hv,hi⟩
  ·rw [hv,if_pos rfl]
   exact⟨by omega,by omega,by omega,by omega,by omega,by omega,by omega,by omega,by omega,q⟩
  ·rw [hv,if_neg (by simp)]
   show if i < (m:Int) then _ else _
   split
   ·exact⟨by omega,by omega,by omega,by omega,by omega,by omega,by omega,by omega,by omega,q⟩
   ·show if (n:Int) < i then _ else _
    rw [if_pos (by omega)]
    exact⟨by omega,by omega,by omega,by omega,by omega,by omega,by omega,by omega,by omega,q⟩
theorem i6z (T : Tx K mg A) : a1h P A.wd K mg base (CXE P A.wd) 4 A.b2q A.b2r ["text"] (j4q A) := by
 have a3m:a1h P A.wd K mg base (CXE P A.wd) 3 _ _ _ _:=h9v T
 refine T.a7j.okX g0i (fun vs H Q E h=>?_) (fun cdv A' outer s H vs Q E hr h=>?_)
 ·obtain⟨_,rfl,_⟩:=g5b (by unfold j4q at h; exact h)
  rfl
 ·obtain⟨x,rfl,⟨xl,no,q⟩⟩:=g5b (by unfold j4q at h; exact h)
  have hu:=hr.units
  have a2y:a2p 3 _:=hr.mono (by decide)
  refine⟨_,(a0k (a0r (a0n a3m a2y (by rfl) T.a8q T.a4y.kp T.a8p .nil a6o (a0g (pvF 0) (a0g a0i (a0g (a2t (v:=.int 1000) (by rfl) T.d1y T.b9g) a0h)))))),?_⟩
  walk_at "rd"
  exact⟨1,rfl,1000,rfl,by decide,by decide,xl,no,q⟩
theorem g7u (T : Tx K mg A) : a1h P A.wd K mg base (CXE P A.wd) 1 A.a8i A.a8s ["values", "count"] (j4r A) := by
 refine T.a2v.okX f1u (fun vs H Q E h=>?_) (fun cdv A' outer s H vs Q E hr h=>?_)
 ·obtain⟨_,_,rfl,_⟩:=d3t (by unfold j4r at h; exact h)
  rfl
 ·obtain⟨l,c,rfl,⟨xs,hl,xl,e,q⟩⟩:=d3t (by unfold j4r at h; exact h)
  have hu:=hr.units
  have hs:sizeLine=16777216:=sizeLine_eq
  have c7l:1<=sizeLine:=by decide
  refine⟨_,(a0k (a3v (a1m (b7i hu) (a0z a5w (by rfl) T.d9o boot_len (a0g (pvF 0) a0h)) (pvF 1) (a2n _))
   (a0k (a8z T.b6t T.a9n a8y rfl (by rfl) (a0g a1z a0h)))
   a1k)),?_⟩
  walk_at "rd*"
  try omega
theorem j0b (T : Tx K mg A) : a1h P A.wd K mg base (CXF true P A.wd) 3 A.a6g A.a6q ["text"] (h7e A.a1i) := by
 have b3i:a1h P A.wd K mg base CX0 1 _ _ _ _:=f1k T
 have a3h:a1h P A.wd K mg base CX0 1 _ _ _ _:=h9m T
 have a9o:a1h P A.wd K mg base CX0 2 _ _ _ _:=c4i T
 refine T.a7i.okN a4t (fun vs H Q E h=>?_) (fun cdv A' outer s H vs Q E hr h=>?_)
 ·obtain⟨_,rfl,_⟩:=j1m (by unfold h7e at h; exact h)
  rfl
 ·obtain⟨v,rfl,⟨g,k⟩⟩:=j1m (by unfold h7e at h; exact h)
  have hu:=hr.units
  have b0k:a2p 1 _:=hr.mono (by decide)
  have a2u:a2p 1 _:=hr.mono (by decide)
  have a7m:a2p 2 _:=hr.mono (by decide)
  have c7l:1<=sizeLine:=by decide
  refine ⟨_, (a0j (a3v (b2g (a3t (a0z (b3k .str) (by rfl) T.a2m boot_isinstance (a0g (pvF 0) (a0g (b9h (v := .ty "str") (u := .type "str") (by rfl) T.g0z rfl rfl) a0h)))))
   (a0k (a8z T.f5v T.d0n a8y rfl (by rfl) (a0g a1z a0h)))
   a1k)
   (a0j (a1n (i:=1) a4t.nd rfl (Or.inl rfl) (b7j a8g PySem.F.plainAttrs_str PySem.F.slot_str_split PySem.F.type_str_split d0r (pvF 0) (a0g a1z a0h)))
   (a0j (a3v (a1m (b7i hu) (a0z a5w (by rfl) T.d9o boot_len (a0g (pvF 1) a0h)) a0i (a2n _))
   (a0k (a8z T.f5v T.d0n a8y rfl (by rfl) (a0g a1z a0h)))
   a1k)
   (c5p (a1n (i:=2) a4t.nd rfl (Or.inl rfl) (g7y (a3t (b7j a8g PySem.F.plainAttrs_str PySem.F.slot_str_startswith PySem.F.type_str_startswith c6m (a0v a3s (pvF 1) a0i (fun _ _=>rfl)) (a0g a1z a0h))) (a5p g8g (a0v a3s (pvF 1) a0i (fun _ _=>rfl)) (a5r a0i) a6z) (a0v a3s (pvF 1) a0i (fun _ _=>rfl))))
   (a0j (b6j PassesOwn.leaving rfl (a5q (d4u (a0g (pvF 2) (a0g (a0v a3s (pvF 1) a0i (fun _ _=>rfl)) a0h)))) (a5g (i:=3) a4t.nd rfl (Or.inl rfl))
   (a0k (a3v (pw_or (b2g (a3t (a0n b3i b0k (by rfl) T.d1v T.a9t.kp T.d1u .nil a0p (a0g (pvF 3) a0h)))) (pw_or1 (a1m d7w (a0z a5w (by rfl) T.d9o boot_len (a0g (pvF 3) a0h)) (a2t (v:=.int 9) (by rfl) T.c0s T.a7p) (a2n _)))).pt
   (a0k (a8z T.f5v T.d0n a8y rfl (by rfl) (a0g a1z a0h)))
   a1k)))
   (a0j (a3v (a1m (b0l hu) (a5h b9k (by rfl) T.g4a boot_int (a0g (a0v a3s (pvF 1) a0i (fun _ _=>rfl)) a0h)) a0i (a2n _))
   (a0k (a8z T.f5v T.d0n a8y rfl (by rfl) (a0g a1z a0h)))
   a1k)
   (a0j (a1n (i:=4) a4t.nd rfl (Or.inl rfl) (a0n a9o a7m (by rfl) T.c9g T.b1r.kp T.c8z .nil a0p (a0g (a5h b9k (by rfl) T.g4a boot_int (a0g (a0v a3s (pvF 1) a0i (fun _ _=>rfl)) a0h)) (a0g (a5h b9k (by rfl) T.g4a boot_int (a0g (a0v a3s (pvF 1) a0i (fun _ _=>rfl)) a0h)) a0h))))
   (a0j (a3v (a1m (b7i hu) (a0n a3h a2u (by rfl) T.a7l T.a3q.kp T.a7k .nil a0p (a0g (pvF 4) a0h)) (pvF 0) (a2n _))
   (a0k (a8z T.f5v T.d0n a8y rfl (by rfl) (a0g a1z a0h)))
   a1k)
   (a0k (a0r (pvF 4))))))))))),?_⟩
  rcases g with ⟨x,rfl,xl,ng⟩ | ⟨ty,hty,hne⟩
  ·have k0:E (.ref A.a1i) none H:=k H (fun _ _ e=>e)
   have sl : Str.ofString "/" = ⟨#[47]⟩ := by decide +kernel
   have mi : Str.ofString "-" = ⟨#[45]⟩ := by decide +kernel
   have hs:sizeLine=16777216:=sizeLine_eq
   have sle:=split_le x 47
   rw [sl,mi]
   clear sl mi
   have d1:((⟨#[47]⟩:Str).length == 0)=false:=rfl
   have d2:x.length<=sizeLine:=by omega
   have d3:(a5s x ⟨#[47]⟩).length<=sizeLine:=by omega
   have xl':id (x.length<=1000000):=xl
   have ng':id (∀ t b,¬ Good (sg x) t b):=ng
   clear hs sle xl ng
   walk_at "rd*"
   intro p H1 n1 S1 h1'
   have k1:E (.ref A.a1i) none H1:=k H1 S1
   walk_at "rd*"
   by_cases hl:(a5s x ⟨#[47]⟩).length=2
   ·obtain⟨h0,h1,sp⟩:∃ h0 h1,a5s x ⟨#[47]⟩ = [h0,h1]:=by
     match a5s x ⟨#[47]⟩,hl with
     | [a,b],_=>exact⟨a,b,rfl⟩
    have cut:=i4h sp
    have hz:h0.length+h1.length+1=x.length:=by
     rw [<- a9g,<- a9g,<- a9g,cut]
     simp
     omega
    have d4:h0.length<=sizeLine:=by omega
    have d5:h1.length<=sizeLine:=by omega
    have cut':id (sg x=sg h0++47 :: sg h1):=cut
    clear hl cut hz
    rw [sp] at h1' ⊢
    clear sp
    rw [if_neg (by simp)]
    refine⟨fun σ' H'=>∃ top:Str,(sg h0=45 :: sg top\/top=h0/\∀ r,sg h0≠45 :: r)/\σ' = [some (.str x),some (.ref p),some (.str top),none,none]/\H'=H1,?_,?_⟩
    ·walk_at "rd*"
     rw [h8p]
     have z:∀ r,sg h0=45 :: r->r=(sg h0).drop 1:=fun r e=>by rw [e]; rfl
     split
     ·rename_i hq
      rw [decide_eq_true_eq] at hq
      have hlen:1<=h0.length:=by
       rw [<- a9g]
       exact (List.getElem?_eq_some_iff.mp hq).1
      refine⟨_,.inl ?_,rfl⟩
      have z:=i4j (x:=h0) (i:=1) hlen
      rw [show ((1:Nat):Int)=1 from rfl] at z
      rw [z]
      cases e:sg h0 with
      | nil=>rw [e] at hq; cases hq
      | cons c r =>
       rw [e] at hq
       cases hq
       rfl
     ·rename_i hq
      rw [decide_eq_true_eq] at hq
      refine⟨_,.inr ⟨rfl,fun r e=>hq (by rw [e]; rfl)⟩,rfl⟩
    ·rintro σ' H' ⟨top,ht,rfl,rfl⟩
     have dt:top.length<=sizeLine:=by
      rcases ht with e | e
      ·have:=congrArg List.length e
       rw [a9g,List.length_cons,a9g] at this
       omega
      ·rw [e.1]; exact d4
     have ht':=(id ht:id _)
     clear ht
     walk_at "rd*"
     intro q H2 n2 S2 h2
     have k2:E (.ref A.a1i) none H2:=k H2 fun c u e=>S2 _ _ (S1 _ _ e)
     have hp2:=S2 _ _ h1'
     walk_at "rd*"
     refine⟨⟨_,SqL.of h2⟩,?_⟩
     refine c4v (xs:=[.str top,.str h1]) (fun i σ H'=>H'=H2/\(∃ z,σ = [some (.str x),some (.ref p),some (.str top),z,none])/\(1<=i->h2v (sg top)=true/\top.length<=9)/\(2<=i->h2v (sg h1)=true/\h1.length<=9)) ⟨rfl,⟨_,rfl⟩,fun h=>absurd h (by decide),fun h=>absurd h (by decide)⟩ (fun i σ H' _ h=>by rw [h.1]; exact SqL.of h2) ?_ ?_
     ·rintro i v σ H' hv ⟨rfl,⟨z,rfl⟩,ha,hb⟩
      match i,hv with
      | 0,hv =>
       cases hv
       clear ha hb
       walk_at "rd*"
       split
       ·trivial
       ·rename_i hn
        exact⟨⟨_,rfl⟩,fun _=>⟨by cases e:h2v (sg top) <;> simp_all,by omega⟩,fun h=>h.elim⟩
      | 1,hv =>
       cases hv
       have ha:=ha (by decide)
       have ha':=(id ha:id _)
       clear ha hb
       walk_at "rd*"
       split
       ·trivial
       ·rename_i hn
        exact⟨⟨_,rfl⟩,fun _=>trivial,fun _=>⟨by cases e:h2v (sg h1) <;> simp_all,by omega⟩⟩
      | i+2,hv=>cases hv
     ·rintro σ H' ⟨rfl,⟨z,rfl⟩,ha,hb⟩
      have ha:=ha (by simp)
      have hb:=hb (by simp)
      obtain⟨f0,m0⟩:=ha
      obtain⟨f1,m1⟩:=hb
      obtain⟨a0,b0⟩:=d0s.mp f0
      obtain⟨a1,b1⟩:=d0s.mp f1
      have i1:=PySem.intText_digits (x:=h1) a1 b1 (by omega)
      clear f0 f1
      have hn0:h0.length<=10:=by
       rcases ht' with e | e
       ·have:=congrArg List.length e
        rw [a9g,List.length_cons,a9g] at this
        omega
       ·rw [<- e.1]; omega
      have hn47:47∉sg h0:=by
       intro hm
       rcases ht' with e | e
       ·rw [e] at hm
        rcases List.mem_cons.mp hm with z | z
        ·cases z
        ·have:=a0 47 z; omega
       ·rw [<- e.1] at hm
        have:=a0 47 hm
        omega
      obtain⟨m,i0,hm9⟩:∃ m:Int,intText? h0=some m/\m.natAbs < 10 ^ 9:=by
       have v:=h8n a0
       have v:NumText.digitsVal (sg top) < 10 ^ 9:=Nat.lt_of_lt_of_le v (Nat.pow_le_pow_right (by decide) (by rw [a9g]; exact m0))
       rcases ht' with e | e
       ·exact⟨_,PySem.intText_neg e a0 b0 (by omega),by omega⟩
       ·have:=PySem.intText_digits (x:=h0) (by rw [<- e.1]; exact a0) (by rw [<- e.1]; exact b0) (by omega)
        refine⟨_,this,?_⟩
        rw [show h0.cps.toList=sg top by rw [e.1]]
        omega
      have hb9:NumText.digitsVal (sg h1) < 10 ^ 9:=Nat.lt_of_lt_of_le (h8n a1) (Nat.pow_le_pow_right (by decide) (by rw [a9g]; exact m1))
      walk_at "rd*"
      refine⟨by omega,?_⟩
      split
      ·trivial
      ·rename_i hnz
       generalize hbb:((NumText.digitsVal h1.cps.toList:Nat):Int)=b at hnz ⊢
       have hb9':b.natAbs < 10 ^ 9:=by rw [<- hbb]; exact hb9
       refine⟨by omega,by omega,hnz,f1j hm9,f1j hb9',?_⟩
       rintro _ H3 ⟨o,rfl,n3,S3,h3⟩
       have g1:(Rat.divInt m b).num.natAbs.log2 < 1920:=f6m (Nat.lt_of_le_of_lt (j2c hnz) hm9)
       have g2:((Rat.divInt m b).den:Int).natAbs.log2 < 1920:=f6m (Nat.lt_of_le_of_lt (j2d hnz) hb9')
       have k3:E (.ref A.a1i) none H3:=k H3 fun c u e=>S3 _ _ (S2 _ _ (S1 _ _ e))
       unfold a9v at h3
       walk_at "rd*"
       refine⟨_,_,⟨rfl,rfl⟩,g1,g2,fun y hy=>?_⟩
       by_cases hyx:y=x
       ·exfalso
        subst hyx
        have hd:=(Rat.divInt m b).den_pos
        have hgr:=i6j (Rat.divInt m b)
        generalize (Rat.divInt m b)=f at hy hd hgr
        have cut:sg y=sg h0++47 :: sg h1:=cut'
        have ht:sg h0=45 :: sg top\/top=h0/\∀ r,sg h0≠45 :: r:=ht'
        rw [hy] at cut
        unfold h8o at cut
        obtain⟨c1,c2⟩:=f9j cut (d3s (by decide) (by decide)) hn47
        refine ng' f.num f.den ⟨hy,by omega,hgr,?_,?_⟩
        ·have:dg f.num.natAbs=sg top:=by
          unfold txt at c1
          split at c1
          ·rcases ht with e | e
           ·rw [e,List.cons.injEq] at c1
            exact c1.2
           ·exact absurd c1.symm (e.2 _)
          ·rcases ht with e | e
           ·rw [e] at c1
            have:=d3r f.num.natAbs 45 (by rw [c1]; exact List.mem_cons_self)
            omega
           ·rw [c1,e.1]
         rw [this,a9g]
         exact m0
        ·have:dg ((f.den:Int)).natAbs=sg h1:=by
          rw [<- c2]
          unfold txt
          rw [if_neg (by omega)]
         rw [this,a9g]
         exact m1
       ·rw [if_pos hyx]
        trivial
   ·rw [if_pos (by omega)]
    trivial
  ·have k0:E (.ref A.a1i) none H:=k H (fun _ _ e=>e)
   walk_at "rd*"
theorem h4t (T : Tx K mg A) : a1h P A.wd K mg base (CXE P A.wd) 4 A.b2o A.b2p ["text"] (j4s A) := by
 have g1e:a1h P A.wd K mg base (CXF true P A.wd) 3 _ _ _ _:=(i6k T).orN (j0b T)
 refine T.a5m.okX d0u (fun vs H Q E h=>?_) (fun cdv A' outer s H vs Q E hr h=>?_)
 ·obtain⟨_,rfl,_⟩:=g5b (by unfold j4s at h; exact h)
  rfl
 ·obtain⟨x,rfl,⟨xl,no,k⟩⟩:=g5b (by unfold j4s at h; exact h)
  have hu:=hr.units
  have c6i:a2p 3 _:=hr.mono (by decide)
  have c7l:1<=sizeLine:=by decide
  refine⟨_,(c5p (h6b g8o (fun E=>(i9i (i:=1) d0u.nd rfl (Or.inl rfl) (i4x (E:=E) g1e c6i (by rfl) T.d9j T.a7i.kp T.d9i .nil (a0g (pvF 0) a0h)))) T.b6t T.g9j (by rfl) T.a9n (by rfl) T.d0n T.i9r)
   (a0j (a3v (pw_or (a1m d7w (a0z a5y (by rfl) T.d9n boot_abs (a0g (a0v a3s (pvF 1) a0i (fun _ _=>rfl)) a0h)) (a2t (v:=.int 1000) (by rfl) T.d1w T.b8z) (a2n _)) (pw_or1 (a1m d7w (a0v a3s (pvF 1) a0i (fun _ _=>rfl)) (a2t (v:=.int 1000) (by rfl) T.d1w T.b8z) (a2n _)))).pt
   (a0k (a8z T.b6t T.a9n a8y rfl (by rfl) (a0g a1z a0h)))
   a1k)
   (a0k (a0r (pvF 1))))),?_⟩
  obtain⟨Mid,pin,pout⟩:=j8d (fun σ' H'=>∃ (t b:Int) (o:Addr),Good (sg x) t b/\σ' = [some (.str x),some (.ref o)]/\Same H H'/\H' o=some (.tup [.int t,.int b]))
  walk_at "rd"
  refine⟨Mid,?_,?_⟩
  ·walk_at "rd"
   by_cases hg:∃ t b,Good (sg x) t b
   ·obtain⟨t,b,g⟩:=hg
    refine .inl ⟨t,b,g,?_⟩
    rintro _ H1 ⟨o,rfl,n1,S1,h1⟩
    try walk_at "rd"
    exact pin _ _ ⟨t,b,o,g,rfl,S1,h1⟩
   ·refine .inr ⟨.inl ⟨x,rfl,by omega,fun t b g=>hg ⟨t,b,g⟩⟩,fun H1 S1=>?_⟩
    try walk_at "rd"
    exact⟨T.d0g,k H1 S1⟩
  ·intro σ' H1 hm
   obtain⟨t,b,o,g,rfl,S1,h1⟩:=pout _ _ hm
   have k1:=k H1 S1
   have hb:(1000:Int) < (t.natAbs:Int)\/1000 < b:=by
    refine Classical.byContradiction fun z=>?_
    rw [not_or] at z
    exact no (k0o g (by omega) (by omega))
   walk_at "rd*"
   try (rw [if_pos hb]; trivial)
theorem ln2{α:Type}{l:List α}(h:l.length=2):∃ a b,l = [a,b]:=match l,h with | [a,b],_=>⟨a,b,rfl⟩
theorem ln3{α:Type}{l:List α}(h:l.length=3):∃ a b c,l = [a,b,c]:=match l,h with | [a,b,c],_=>⟨a,b,c,rfl⟩
theorem k0p (T : Tx K mg A) : a1h P A.wd K mg base (CXE P A.wd) 6 A.b9p A.c1s ["values"] (d7s A 0) := by
 have a2l:a1h P A.wd K mg base (CXE P A.wd) 1 _ _ _ _:=(g1d T).or (g7u T)
 have a3n:a1h P A.wd K mg base (CXE P A.wd) 4 _ _ _ _:=h4t T
 have f2w:a1h P A.wd K mg base CX0 1 _ _ _ _:=h9p T
 have a3o:=T.a3o
 have a2i:=T.a2i
 refine T.c9s.okX g6z (fun vs H Q E h=>?_) (fun cdv A' outer s H vs Q E hr h=>?_)
 ·obtain⟨_,rfl,_⟩:=a6y (by unfold d7s at h; exact h)
  rfl
 ·obtain⟨l,rfl,⟨ws,hl,wl,wz,no,k⟩⟩:=a6y (by unfold d7s at h; exact h)
  have hu:=hr.units
  have a1t:a2p 1 _:=hr.mono (by decide)
  have a2w:a2p 4 _:=hr.mono (by decide)
  have d9q:a2p 2 _:=hr.mono (by decide)
  refine⟨_,(a0j (b1t (a0n a2l a1t (by rfl) T.a5j T.a2v.kp T.a5i .nil a6o (a0g (pvF 0) (a0g a0i a0h))))
   (a0k (a0r (b1y T.h9c f2w d9q (by rfl) T.i5j T.g3o .nil a0p (a0g (a0n a3n a2w (by rfl) T.a8v T.a5m.kp T.a8u .nil a6o (a0g (a0v a3s (pvF 0) a0i (fun _ _=>rfl)) a0h)) a0h))))),?_⟩
  walk_at "rd"
  by_cases h1:ws.length=1
  ·obtain⟨v,rfl⟩:=List.length_eq_one_iff.mp h1
   refine .inl ⟨_,hl,rfl,?_⟩
   replace hl:H l=some (.lst [.str v]):=hl
   walk_at "rd*"
   exact⟨wz v List.mem_cons_self,fun⟨y,e,oy⟩=>no ⟨.gain y,rfl,oy,by rw [e]; rfl⟩,k⟩
  ·exact .inr ⟨_,hl,by rw [List.length_map]; omega,by rw [List.length_map]; omega,k H (Same.refl _)⟩
theorem k0q (T : Tx K mg A) : a1h P A.wd K mg base (CXE P A.wd) 6 A.b4p A.b6y ["values"] (d7s A 1) := by
 have a2l:a1h P A.wd K mg base (CXE P A.wd) 1 _ _ _ _:=(g1d T).or (g7u T)
 have a3m:a1h P A.wd K mg base (CXE P A.wd) 3 _ _ _ _:=h9v T
 have d9r:a1h P A.wd K mg base CX0 1 _ _ _ _:=h4q T
 have a2r:=T.a2r
 have a1r:=T.a1r
 refine T.c2v.okX g2w (fun vs H Q E h=>?_) (fun cdv A' outer s H vs Q E hr h=>?_)
 ·obtain⟨_,rfl,_⟩:=a6y (by unfold d7s at h; exact h)
  rfl
 ·obtain⟨l,rfl,⟨ws,hl,wl,wz,no,k⟩⟩:=a6y (by unfold d7s at h; exact h)
  have hu:=hr.units
  have a1t:a2p 1 _:=hr.mono (by decide)
  have a2y:a2p 3 _:=hr.mono (by decide)
  have d7i:a2p 2 _:=hr.mono (by decide)
  refine⟨_,(a0j (b1t (a0n a2l a1t (by rfl) T.a5j T.a2v.kp T.a5i .nil a6o (a0g (pvF 0) (a0g a0i a0h))))
   (a0k (a0r (b1y T.g9h d9r d7i (by rfl) T.h9g T.g0m .nil a0p (a0g (a0n a3m a2y (by rfl) T.a8q T.a4y.kp T.a8p .nil a6o (a0g (a0v a3s (pvF 0) a0i (fun _ _=>rfl)) (a0g a0i (a0g (a2t (v:=.int 1000) (by rfl) T.d1y T.b9g) a0h)))) a0h))))),?_⟩
  walk_at "rd"
  by_cases h1:ws.length=1
  ·obtain⟨v,rfl⟩:=List.length_eq_one_iff.mp h1
   refine .inl ⟨_,hl,rfl,?_⟩
   replace hl:H l=some (.lst [.str v]):=hl
   walk_at "rd*"
   exact⟨0,rfl,1000,rfl,by decide,by decide,wz v List.mem_cons_self,fun⟨n,e,_,n2⟩=>no ⟨.delay n,rfl,n2,by rw [e]; rfl⟩,k H (Same.refl _)⟩
  ·exact .inr ⟨_,hl,by rw [List.length_map]; omega,by rw [List.length_map]; omega,k H (Same.refl _)⟩
theorem k0r (T : Tx K mg A) : a1h P A.wd K mg base (CXE P A.wd) 6 A.b9q A.c1t ["values"] (d7s A 2) := by
 have a2l:a1h P A.wd K mg base (CXE P A.wd) 1 _ _ _ _:=(g1d T).or (g7u T)
 have a3n:a1h P A.wd K mg base (CXE P A.wd) 4 _ _ _ _:=(h4s T).or (h4t T)
 have a7n:a1h P A.wd K mg base (CXE P A.wd) 4 _ _ _ _:=(j0a T).or (i6z T)
 have a3m:a1h P A.wd K mg base (CXE P A.wd) 3 _ _ _ _:=h9v T
 have f2y:a1h P A.wd K mg base CX0 2 _ _ _ _:=h9o T
 have a3i:=T.a3i
 have a1u:=T.a1u
 have a1v:=T.a1v
 have a1j:=T.a1j
 have a0t:=T.a0t
 have a0m:=T.a0m
 refine T.c9t.okX g7a (fun vs H Q E h=>?_) (fun cdv A' outer s H vs Q E hr h=>?_)
 ·obtain⟨_,rfl,_⟩:=a6y (by unfold d7s at h; exact h)
  rfl
 ·obtain⟨l,rfl,⟨ws,hl,wl,wz,no,k⟩⟩:=a6y (by unfold d7s at h; exact h)
  have hu:=hr.units
  have a1t:a2p 1 _:=hr.mono (by decide)
  have a2w:a2p 4 _:=hr.mono (by decide)
  have a6k:a2p 4 _:=hr.mono (by decide)
  have a2y:a2p 3 _:=hr.mono (by decide)
  have d9s:a2p 3 _:=hr.mono (by decide)
  refine⟨_,(a0j (b1t (a0n a2l a1t (by rfl) T.a5j T.a2v.kp T.a5i .nil a6o (a0g (pvF 0) (a0g a0i a0h))))
   (a0k (a0r (b1y T.h9d f2y d9s (by rfl) T.i5k T.g3s .nil a0p (a0g (a0n a3n a2w (by rfl) T.a8v T.a5m.kp T.a8u .nil a6o (a0g (a0v a3s (pvF 0) a0i (fun _ _=>rfl)) a0h)) (a0g (a0n a7n a6k (by rfl) T.c4h T.a7j.kp T.c4g .nil a6o (a0g (a0v a3s (pvF 0) a0i (fun _ _=>rfl)) a0h)) (a0g (a0n a3m a2y (by rfl) T.a8q T.a4y.kp T.a8p .nil a6o (a0g (a0v a3s (pvF 0) a0i (fun _ _=>rfl)) (a0g a0i (a0g (a2t (v:=.int 16) (by rfl) T.f5w T.c7j) a0h)))) a0h))))))),?_⟩
  walk_at "rd"
  by_cases h1:ws.length=3
  ·obtain⟨v1,v2,v3,rfl⟩:=ln3 h1
   refine .inl ⟨_,hl,rfl,?_⟩
   replace hl:H l=some (.lst [.str v1,.str v2,.str v3]):=hl
   walk_at "rd*"
   by_cases g1:IsG v1
   ·obtain⟨y,e1,oy⟩:=g1
    refine .inl ⟨y,e1,oy,?_⟩
    rintro _ H1 ⟨o,rfl,n1,S1,hg⟩
    have hl1:=S1 _ _ hl
    clear hl
    walk_at "rd*"
    by_cases g2:IsN v2 1 1000
    ·obtain⟨n,e2,n2,n3⟩:=g2
     refine .inl ⟨n,e2,n2,n3,?_⟩
     try walk_at "rd*"
     exact⟨0,rfl,16,rfl,by decide,by decide,wz v3 (by simp),fun⟨t,e3,_,t2⟩=>no ⟨.echo y n t,rfl,⟨oy,n2,n3,t2⟩,by rw [e1,e2,e3]; rfl⟩⟩
    ·exact .inr ⟨wz v2 (by simp),g2⟩
   ·exact .inr ⟨wz v1 (by simp),g1,k⟩
  ·exact .inr ⟨_,hl,by rw [List.length_map]; omega,by rw [List.length_map]; omega,k H (Same.refl _)⟩
theorem k0s (T : Tx K mg A) : a1h P A.wd K mg base (CXE P A.wd) 6 A.b9r A.c1u ["values"] (d7s A 3) := by
 have a2l:a1h P A.wd K mg base (CXE P A.wd) 1 _ _ _ _:=(g1d T).or (g7u T)
 have a3n:a1h P A.wd K mg base (CXE P A.wd) 4 _ _ _ _:=(h4s T).or (h4t T)
 have a7n:a1h P A.wd K mg base (CXE P A.wd) 4 _ _ _ _:=i6z T
 have f2z:a1h P A.wd K mg base CX0 1 _ _ _ _:=h9q T
 have a3j:=T.a3j
 have a1w:=T.a1w
 have a1y:=T.a1y
 refine T.c9u.okX g7b (fun vs H Q E h=>?_) (fun cdv A' outer s H vs Q E hr h=>?_)
 ·obtain⟨_,rfl,_⟩:=a6y (by unfold d7s at h; exact h)
  rfl
 ·obtain⟨l,rfl,⟨ws,hl,wl,wz,no,k⟩⟩:=a6y (by unfold d7s at h; exact h)
  have hu:=hr.units
  have a1t:a2p 1 _:=hr.mono (by decide)
  have a2w:a2p 4 _:=hr.mono (by decide)
  have a6k:a2p 4 _:=hr.mono (by decide)
  have d9t:a2p 2 _:=hr.mono (by decide)
  refine⟨_,(a0j (b1t (a0n a2l a1t (by rfl) T.a5j T.a2v.kp T.a5i .nil a6o (a0g (pvF 0) (a0g a0i a0h))))
   (a0k (a0r (b1y T.h9e f2z d9t (by rfl) T.i5l T.g3u .nil a0p (a0g (a0n a3n a2w (by rfl) T.a8v T.a5m.kp T.a8u .nil a6o (a0g (a0v a3s (pvF 0) a0i (fun _ _=>rfl)) a0h)) (a0g (a0n a7n a6k (by rfl) T.c4h T.a7j.kp T.c4g .nil a6o (a0g (a0v a3s (pvF 0) a0i (fun _ _=>rfl)) a0h)) a0h)))))),?_⟩
  walk_at "rd"
  by_cases h1:ws.length=2
  ·obtain⟨v1,v2,rfl⟩:=ln2 h1
   refine .inl ⟨_,hl,rfl,?_⟩
   replace hl:H l=some (.lst [.str v1,.str v2]):=hl
   walk_at "rd*"
   by_cases g1:IsG v1
   ·obtain⟨y,e1,oy⟩:=g1
    refine .inl ⟨y,e1,oy,?_⟩
    rintro _ H1 ⟨o,rfl,n1,S1,hg⟩
    have hl1:=S1 _ _ hl
    clear hl
    walk_at "rd*"
    exact⟨wz v2 (by simp),fun⟨n,e2,n2,n3⟩=>no ⟨.back y n,rfl,⟨oy,n2,n3⟩,by rw [e1,e2]; rfl⟩⟩
   ·exact .inr ⟨wz v1 (by simp),g1,k⟩
  ·exact .inr ⟨_,hl,by rw [List.length_map]; omega,by rw [List.length_map]; omega,k H (Same.refl _)⟩
theorem k0t (T : Tx K mg A) : a1h P A.wd K mg base (CXE P A.wd) 6 A.b9s A.c1v ["values"] (d7s A 4) := by
 have a2l:a1h P A.wd K mg base (CXE P A.wd) 1 _ _ _ _:=(g1d T).or (g7u T)
 have a3n:a1h P A.wd K mg base (CXE P A.wd) 4 _ _ _ _:=(h4s T).or (h4t T)
 have a7n:a1h P A.wd K mg base (CXE P A.wd) 4 _ _ _ _:=i6z T
 have c0m:a1h P A.wd K mg base CX0 1 _ _ _ _:=g4k T
 have d4t:a1h P A.wd K mg base CX0 1 _ _ _ _:=h0j T
 have f3g:a1h P A.wd K mg base CX0 1 _ _ _ _:=h9r T
 have a3p:=T.a3p
 have a2j:=T.a2j
 have a2k:=T.a2k
 refine T.c9v.okX f0t (fun vs H Q E h=>?_) (fun cdv A' outer s H vs Q E hr h=>?_)
 ·obtain⟨_,rfl,_⟩:=a6y (by unfold d7s at h; exact h)
  rfl
 ·obtain⟨l,rfl,⟨ws,hl,wl,wz,no,k⟩⟩:=a6y (by unfold d7s at h; exact h)
  have hu:=hr.units
  have a1t:a2p 1 _:=hr.mono (by decide)
  have a2w:a2p 4 _:=hr.mono (by decide)
  have a6k:a2p 4 _:=hr.mono (by decide)
  have b5z:a2p 1 _:=hr.mono (by decide)
  have d0o:a2p 1 _:=hr.mono (by decide)
  have d9u:a2p 2 _:=hr.mono (by decide)
  have c7l:1<=sizeLine:=by decide
  refine⟨_,(a0j (b1t (a0n a2l a1t (by rfl) T.a5j T.a2v.kp T.a5i .nil a6o (a0g (pvF 0) (a0g a0i a0h))))
   (a0j (a1n (i:=1) f0t.nd rfl (Or.inl rfl) (a0n a3n a2w (by rfl) T.a8v T.a5m.kp T.a8u .nil a6o (a0g (a0v a3s (pvF 0) a0i (fun _ _=>rfl)) a0h)))
   (a0j (a3v (b2g (a3t (a0n d4t d0o (by rfl) T.f8p T.c2t.kp T.f8o .nil a0p (a0g (a0n c0m b5z (by rfl) T.d9h T.b9t.kp T.d9g .nil a0p (a0g (pvF 1) a0h)) (a0g (a4u (a0g a0i (a0g a0i a0h))) a0h)))))
   (a0k (a8z T.b6t T.a9n a8y rfl (by rfl) (a0g a1z a0h)))
   a1k)
   (a0k (a0r (b1y T.h9f f3g d9u (by rfl) T.i5m T.g3w .nil a0p (a0g (pvF 1) (a0g (a0n a7n a6k (by rfl) T.c4h T.a7j.kp T.c4g .nil a6o (a0g (a0v a3s (pvF 0) a0i (fun _ _=>rfl)) a0h)) a0h)))))))),?_⟩
  walk_at "rd"
  by_cases h1:ws.length=2
  ·obtain⟨v1,v2,rfl⟩:=ln2 h1
   refine .inl ⟨_,hl,rfl,?_⟩
   replace hl:H l=some (.lst [.str v1,.str v2]):=hl
   walk_at "rd*"
   by_cases g1:IsG v1
   ·obtain⟨y,e1,oy⟩:=g1
    refine .inl ⟨y,e1,oy,?_⟩
    rintro _ H1 ⟨o,rfl,n1,S1,hg⟩
    have hl1:=S1 _ _ hl
    clear hl
    walk_at "rd"
    refine⟨y,hg,?_⟩
    rintro _ H2 ⟨a,rfl,n2,S2,h2⟩
    walk_at "rd"
    refine fun u H3 n3 S3 h3=>?_
    have h3':H3 u=some (.tup (a9v 1)):=h3
    have S13:=S2.trans S3
    have b1:=oy.b.1
    have b2:=oy.b.2
    have ab:=f1l b1
    have hl3:=S13 _ _ hl1
    have k3:=k H3 (S1.trans S13)
    clear h3 hl1
    have un:decide ((Rat.abs y).num*((1:Rat).den:Int) < (1:Rat).num*((Rat.abs y).den:Int))=decide ((y.num.natAbs:Int) < (y.den:Int)):=by
     rw [d3j,c0k]
     show decide ((y.num.natAbs:Int)*1 < 1*(y.den:Int))=_
     rw [Int.mul_one,Int.one_mul]
    walk_at "rd"
    refine⟨Rat.abs y,1,⟨S3 _ _ h2,h3',by omega,by rw [c0k]; omega,by decide,by decide⟩,?_⟩
    by_cases hu1:(y.num.natAbs:Int) < (y.den:Int)
    ·rw [decide_eq_true hu1,decide_eq_true_eq] at un
     rw [if_neg (not_not_intro un),hl3]
     exact⟨_,rfl,wz v2 (by simp),fun⟨n,e2,n2,n3⟩=>no ⟨.hall y n,rfl,⟨oy,hu1,n2,n3⟩,by rw [e1,e2]; rfl⟩,k3⟩
    ·rw [decide_eq_false hu1,decide_eq_false_iff_not] at un
     rw [if_pos un]
     exact⟨c7l,k3⟩
   ·exact .inr ⟨wz v1 (by simp),g1,k⟩
  ·exact .inr ⟨_,hl,by rw [List.length_map]; omega,by rw [List.length_map]; omega,k H (Same.refl _)⟩
theorem k0u (T : Tx K mg A) : a1h P A.wd K mg base (CXE P A.wd) 5 A.a8j A.a8t ["text"] (j4t A) := by
 have a3n:a1h P A.wd K mg base (CXE P A.wd) 4 _ _ _ _:=h4t T
 have a3m:a1h P A.wd K mg base (CXE P A.wd) 3 _ _ _ _:=(i6w T).or (h9v T)
 refine T.b0j.okX c4m (fun vs H Q E h=>?_) (fun cdv A' outer s H vs Q E hr h=>?_)
 ·obtain⟨_,rfl,_⟩:=g5b (by unfold j4t at h; exact h)
  rfl
 ·obtain⟨x,rfl,⟨xl,no,k⟩⟩:=g5b (by unfold j4t at h; exact h)
  have hu:=hr.units
  have a2w:a2p 4 _:=hr.mono (by decide)
  have a2y:a2p 3 _:=hr.mono (by decide)
  have hs:sizeLine=16777216:=sizeLine_eq
  have c7l:1<=sizeLine:=by decide
  have d1:((⟨#[61]⟩:Str).length == 0)=false:=rfl
  have sle:=split_le x 61
  have jo:=h8a (x:=x) (c:=61)
  have pl:∀ p∈a5s x ⟨#[61]⟩,p.length<=1000:=fun p hp=>Nat.le_trans (h0p hp) xl
  obtain⟨ps,eps⟩:∃ ps,a5s x ⟨#[61]⟩=ps:=⟨_,rfl⟩
  rw [eps] at sle jo pl
  refine⟨_,(a0j (a1n (i:=1) c4m.nd rfl (Or.inl rfl) (b7j a8g PySem.F.plainAttrs_str PySem.F.slot_str_split PySem.F.type_str_split d0r (pvF 0) (a0g a1z a0h)))
   (a0j (a3v (a1m (b7i hu) (a0z a5w (by rfl) T.d9o boot_len (a0g (pvF 1) a0h)) a0i (a2n _))
   (a0k (a8z T.b6t T.a9n a8y rfl (by rfl) (a0g a1z a0h)))
   a1k)
   (a0k (a0r (a4u (a0g (a0n a3m a2y (by rfl) T.a8q T.a4y.kp T.a8p .nil a6o (a0g (a0v a3s (pvF 1) a0i (fun _ _=>rfl)) (a0g a0i (a0g (a2t (v:=.int 100000) (by rfl) T.g7o T.f0w) a0h)))) (a0g (a0n a3n a2w (by rfl) T.a8v T.a5m.kp T.a8u .nil a6o (a0g (a0v a3s (pvF 1) a0i (fun _ _=>rfl)) a0h)) a0h))))))),?_⟩
  rw [j9d]
  walk_at "rd"
  refine⟨rfl,by omega,by rw [eps]; omega,?_⟩
  rw [eps]
  refine fun l H1 n1 S1 h1=>?_
  have k1:=k H1 S1
  by_cases h2:ps.length=2
  ·obtain⟨v1,v2,rfl⟩:=ln2 h2
   replace h1:H1 l=some (.lst [.str v1,.str v2]):=h1
   have p1:=pl v1 (by simp)
   have p2:=pl v2 (by simp)
   clear eps pl
   walk_at "rd*"
   rw [if_neg (by decide)]
   by_cases g1:IsN v1 0 100000
   ·obtain⟨n,e1,_,n2⟩:=g1
    refine .inl ⟨n,by rw [e1,h2y],by omega,by omega,by omega,?_⟩
    have ng:¬ IsG v2:=fun⟨y,e2,oy⟩=>no ⟨((n:Int),y),a9p (by rw [jo,b1z,h5u,i9e,e1,e2,h2y]),by show (0:Int)<=n; omega,by show (n:Int)<=100000; omega,oy⟩
    exact⟨ng,fun H2 S2=>k H2 (S1.trans S2)⟩
   ·exact .inr ⟨0,rfl,100000,rfl,by decide,by decide,g1⟩
  ·clear eps pl
   walk_at "rd*"
   rw [if_pos (by omega)]
   trivial
theorem k0v (T : Tx K mg A) : a1h P A.wd K mg base (CXE P A.wd) 7 A.b4q A.b6z ["values"] (d7s A 5) := by
 have a2l:a1h P A.wd K mg base (CXE P A.wd) 1 _ _ _ _:=(g1d T).or (g7u T)
 have d7j:a1h P A.wd K mg base (CXE P A.wd) 5 _ _ _ _:=(k0n T).or (k0u T)
 have a2o:=T.a2o
 have a0q:=T.a0q
 have a0u:=T.a0u
 have a0y:=T.a0y
 refine T.c2w.okX b2l (fun vs H Q E h=>?_) (fun cdv A' outer s H vs Q E hr h=>?_)
 ·obtain⟨_,rfl,_⟩:=a6y (by unfold d7s at h; exact h)
  rfl
 ·obtain⟨l,rfl,⟨ws,hl,wl,wz,no,k⟩⟩:=a6y (by unfold d7s at h; exact h)
  have hu:=hr.units
  have a1t:a2p 1 _:=hr.mono (by decide)
  have d3k:a2p 5 _:=hr.mono (by decide)
  have hs:sizeLine=16777216:=sizeLine_eq
  have c7l:1<=sizeLine:=by decide
  have d1:((⟨#[44]⟩:Str).length == 0)=false:=rfl
  refine⟨_,(a0j (b1t (a0n a2l a1t (by rfl) T.a5j T.a2v.kp T.a5i .nil a6o (a0g (pvF 0) (a0g a0i a0h))))
   (a0j (i9j (i := 1) b2l.nd rfl rfl g8o (a5q (b7j a8g PySem.F.plainAttrs_str PySem.F.slot_str_split PySem.F.type_str_split d0r (a0v a3s (pvF 0) a0i (fun _ _ => rfl)) (a0g a1z a0h))) (fun _ _ _ _ _ => (h8l d7j d3k (by rfl) T.f5q T.b0j.kp T.f5p .nil (a0g (pvF 0) a0h))) (d4v (sc := a0l f0q) (N := ["values", "corners", "left", "right"]) rfl rfl (by decide +kernel)) rfl)
   (a0j (a3v (a1m d7w (a0z a5w (by rfl) T.d9o boot_len (a0g (pvF 1) a0h)) (a2t (v:=.int 12) (by rfl) T.d9p T.c0i) (a2n _))
   (a0k (a8z T.b6t T.a9n a8y rfl (by rfl) (a0g a1z a0h)))
   a1k)
   (a0j (b6j PassesOwn.leaving rfl (h8s (by rfl) T.i9n (a0g (pvF 1) (a0g (a5p k3s (pvF 1) (a5r a0i) a6z) a0h))) (f7h (n:=2) rfl (a6r (a5g (i:=2) b2l.nd rfl (Or.inl rfl)) (a6r (a5g (i:=3) b2l.nd rfl (Or.inl rfl)) f0o)))
   (a0k (a3v (a1m j7v (a0v a3s (pvF 2) a0i (fun _ _=>rfl)) (a0v a3s (pvF 3) a0i (fun _ _=>rfl)) (a2n _))
   (a0k (a8z T.b6t T.a9n a8y rfl (by rfl) (a0g a1z a0h)))
   a1k)))
   (a0k a6m))))),?_⟩
  rw [i4r]
  walk_at "rd"
  by_cases h1:ws.length=1
  ·obtain⟨x,rfl⟩:=List.length_eq_one_iff.mp h1
   refine .inl ⟨_,hl,rfl,?_⟩
   replace hl:H l=some (.lst [.str x]):=hl
   have xl:=wz x List.mem_cons_self
   have sle:=split_le x 44
   have jo:=h8a (x:=x) (c:=44)
   have pl:∀ p∈a5s x ⟨#[44]⟩,p.length<=1000:=fun p hp=>Nat.le_trans (h0p hp) xl
   have pne:a5s x ⟨#[44]⟩≠[]:=g8j _ _
   obtain⟨vs,evs⟩:∃ vs,a5s x ⟨#[44]⟩=vs:=⟨_,rfl⟩
   rw [evs] at sle jo pl pne
   have jo':id (x=Str.join ⟨#[44]⟩ vs):=jo
   clear jo
   clear wz
   walk_at "rd*"
   refine⟨by omega,by omega,fun a H1 n1 S1 h1'=>?_⟩
   clear evs
   walk_at "rd"
   refine⟨⟨_,SqL.of h1'⟩,fun D H2 n2 S2 h2=>?_⟩
   refine c0t (xs:=vs.map V.str) (fun i ys H'=>Same H1 H'/\H' D=some (.lst ys)/\i<=vs.length/\∃ ps,ys=ps.map V.ref/\∃ cs,Crn H' ps cs/\vs.take i=cs.map cW/\∀ c∈cs,0<=c.1/\c.1<=100000/\YOk c.2) ⟨S2,h2,Nat.zero_le _,[],rfl,[],Crn.nil,rfl,fun c hc=>by cases hc⟩ (by rw [List.length_map]; omega) ?_ ?_ ?_
   ·intro i ys H' hi ⟨S',h',il,ps,e,cs,R,et,ok⟩
    have:=congrArg List.length et
    rw [List.length_take,List.length_map] at this
    exact⟨h',SqL.of (S' _ _ h1'),by rw [e,List.length_map,R.1]; omega⟩
   ·intro i v ys H' hv ⟨S',h',il,ps,e,cs,R,et,ok⟩
    rw [List.getElem?_map] at hv
    obtain⟨z,hz,rfl⟩:=Option.map_eq_some_iff.mp hv
    have zl:=pl z (List.mem_of_getElem? hz)
    have il2:=(List.getElem?_eq_some_iff.mp hz).1
    walk_at "rd"
    by_cases hc:IsC z
    ·obtain⟨c,ec,c0,c1,oy⟩:=hc
     refine .inl ⟨c,ec,c0,c1,oy,fun p g H3 n3 S3 h3 hg=>⟨S3 _ _ h',fun H4 B4 h4=>⟨(S'.trans S3).step n2 B4,h4,il2,ps++[p],(by rw [e,List.map_append]; rfl),cs++[c],((R.same S3).snoc h3 hg).i6x (S3 _ _ h') B4,?_,fun d hd=>?_⟩⟩⟩
     ·rw [List.take_add_one,hz,et,List.map_append,ec]
      rfl
     ·rcases List.mem_append.mp hd with q | q
      ·exact ok d q
      ·obtain rfl:=List.mem_singleton.mp q
       exact⟨c0,c1,oy⟩
    ·exact .inr ⟨zl,hc,fun H3 S3=>k H3 (S1.trans (S'.trans S3))⟩
   ·intro ys H3 ⟨S3,h3,il,ps,e,cs,R,et,ok⟩
    rw [List.length_map,List.take_length] at et
    subst e
    subst et
    have pl':=R.1
    have k3:=k H3 (S1.trans S3)
    rw [List.length_map] at sle
    have c1:1<=cs.length:=by
     have:=List.length_pos_iff.mpr pne
     rwa [List.length_map] at this
    have no':¬ h1q cs:=fun h=>no ⟨.swell cs,rfl,h,by rw [show x=_ from jo']; rfl⟩
    clear h2 hl h1' pne pl il no jo'
    walk_at "rd*"
    by_cases h12:(12:Int) < (cs.length:Int)
    ·rw [if_pos h12]
     trivial
    rw [if_neg h12]
    refine fun c2 H4 n4 S4 h4=>?_
    have e2:d7r (ps.map V.ref) (some 1) none=(ps.drop 1).map V.ref:=by
     show g5a (ps.map V.ref) (some ((1:Nat):Int)) none=_
     rw [b2h,List.map_drop]
    rw [e2] at h4
    have h34:=S4 _ _ h3
    clear e2 h3
    walk_at "rd*"
    obtain⟨Pv,pin,pout⟩:=f6w (fun i σ H'=>∃ (v2 v3:Option V),σ = [some (.ref l),some (.ref D),v2,v3]/\Same H4 H'/\∀ (j:Nat) c d,j < i->cs[j]? = some c->cs[j+1]? = some d->c.1 < d.1)
    refine g8h (xs:=ps.map V.ref) (ys:=(ps.drop 1).map V.ref) Pv (pin _ _ _ ⟨_,_,rfl,Same.refl _,fun j c d hj=>absurd hj (Nat.not_lt_zero _)⟩) ?_ ?_ ?_
    ·intro i σ H5 hp
     obtain⟨v2,v3,rfl,S5,_⟩:=pout _ _ _ hp
     exact⟨SqL.of (S5 _ _ h34),SqL.of (S5 _ _ h4)⟩
    ·intro i x y σ H5 p H6 hx hy hp np S6 h6
     obtain⟨v2,v3,rfl,S5,ris⟩:=pout _ _ _ hp
     obtain⟨pc,c,g,rfl,hc,hpc,hg⟩:=R.get hx
     have hy':(ps.map V.ref)[i+1]? = some y:=by
      rw [List.map_drop,List.getElem?_drop] at hy
      rwa [Nat.add_comm] at hy
     obtain⟨pd,d,gd,rfl,hd,hpd,hgd⟩:=R.get hy'
     have SS:=S4.trans (S5.trans S6)
     have k6c:=SS _ _ hpc
     have hpd':=SS _ _ hpd
     have k6:=k H6 (S1.trans (S3.trans SS))
     have ris':=(id ris:id _)
     clear hpc hpd h34 h4 hg hgd hx hy hy' hp np ris
     walk_at "rd*"
     by_cases hle:d.1<=c.1
     ·rw [if_pos hle]
      trivial
     ·rw [if_neg hle]
      refine pin _ _ _ ⟨_,_,rfl,S5.trans S6,fun j c' d' hj hc' hd'=>?_⟩
      rcases Nat.lt_or_eq_of_le (Nat.le_of_lt_succ hj) with z | z
      ·exact (show ∀ (j:Nat) c d,j < i->cs[j]? = some c->cs[j+1]? = some d->c.1 < d.1 from ris') j c' d' z hc' hd'
      ·subst z
       rw [hc] at hc'
       rw [hd] at hd'
       cases hc'
       cases hd'
       omega
    ·intro σ H5 hp
     obtain⟨v2,v3,rfl,S5,ris⟩:=pout _ _ _ hp
     refine no' ⟨ok,fun j c d hc hd=>ris j c d ?_ hc hd,c1,by omega⟩
     have:=(List.getElem?_eq_some_iff.mp hd).1
     rw [List.length_map,List.length_map,List.length_drop]
     omega
  ·exact .inr ⟨_,hl,by rw [List.length_map]; omega,by rw [List.length_map]; omega,k H (Same.refl _)⟩
theorem j0c (T : Tx K mg A) : a1h P A.wd K mg base (CXE P A.wd) 9 A.c5i A.c1w ["word"] (j4u A) := by
 have g4p:a1h P A.wd K mg base (CXE P A.wd) 6 _ _ _ _:=k0p T
 have f8w:a1h P A.wd K mg base (CXE P A.wd) 6 _ _ _ _:=k0q T
 have g4q:a1h P A.wd K mg base (CXE P A.wd) 6 _ _ _ _:=k0r T
 have g4r:a1h P A.wd K mg base (CXE P A.wd) 6 _ _ _ _:=k0s T
 have g4s:a1h P A.wd K mg base (CXE P A.wd) 6 _ _ _ _:=k0t T
 have f8y:a1h P A.wd K mg base (CXE P A.wd) 7 _ _ _ _:=k0v T
 refine T.c9w.okX f0u (fun vs H Q E h=>?_) (fun cdv A' outer s H vs Q E hr h=>?_)
 ·obtain⟨_,rfl,_⟩:=j1m (by unfold j4u at h; exact h)
  rfl
 ·obtain⟨v,rfl,⟨hv,k⟩⟩:=j1m (by unfold j4u at h; exact h)
  have hu:=hr.units
  have f8z:a2p 6 _:=hr.mono (by decide)
  have f3h:a2p 6 _:=hr.mono (by decide)
  have f9g:a2p 6 _:=hr.mono (by decide)
  have f9h:a2p 6 _:=hr.mono (by decide)
  have f9i:a2p 6 _:=hr.mono (by decide)
  have f3i:a2p 7 _:=hr.mono (by decide)
  have dk:=T.g7p
  have c7l:1<=sizeLine:=by decide
  have hs:sizeLine=16777216:=sizeLine_eq
  have d1:((⟨#[58]⟩:Str).length == 0)=false:=rfl
  refine ⟨_, (a0j (a3v (b2g (a3t (a0z (b3k .str) (by rfl) T.a2m boot_isinstance (a0g (pvF 0) (a0g (b9h (v := .ty "str") (u := .type "str") (by rfl) T.g0z rfl rfl) a0h)))))
   (a0k (a8z T.b6t T.a9n a8y rfl (by rfl) (a0g a1z a0h)))
   a1k)
   (a0j (a1n (i:=1) f0u.nd rfl (Or.inl rfl) (b7j a8g PySem.F.plainAttrs_str PySem.F.slot_str_split PySem.F.type_str_split d0r (pvF 0) (a0g a1z a0h)))
   (a0j (a3v (a1m (h2w (K:=K) (w:=A.wd) (by rfl) (by rfl)) (a0v a3s (pvF 1) a0i (fun _ _=>rfl)) (a2t (v:=.ref A.a2s) (by rfl) T.a6n rfl) (by rfl))
   (a0k (a8z T.b6t T.a9n a8y rfl (by rfl) (a0g a1z a0h)))
   a1k)
   (a0k (a0r (a0o (b6r g4p f8z T.c9s.kp T.h3z .nil a6o (a0v (i2w (K:=K) (w:=A.wd) (by rfl) (by rfl)) (a2t (v:=.ref A.a2s) (by rfl) T.a6n rfl) (a0v a3s (pvF 1) a0i (fun _ _=>rfl)) (fun _ _=>rfl)) (a0g (a5p g8g (pvF 1) (a5r a0i) a6z) a0h)) (a0o (b6r f8w f3h T.c2v.kp T.g7i .nil a6o (a0v (i2w (K:=K) (w:=A.wd) (by rfl) (by rfl)) (a2t (v:=.ref A.a2s) (by rfl) T.a6n rfl) (a0v a3s (pvF 1) a0i (fun _ _=>rfl)) (fun _ _=>rfl)) (a0g (a5p g8g (pvF 1) (a5r a0i) a6z) a0h)) (a0o (b6r g4q f9g T.c9t.kp T.h4a .nil a6o (a0v (i2w (K:=K) (w:=A.wd) (by rfl) (by rfl)) (a2t (v:=.ref A.a2s) (by rfl) T.a6n rfl) (a0v a3s (pvF 1) a0i (fun _ _=>rfl)) (fun _ _=>rfl)) (a0g (a5p g8g (pvF 1) (a5r a0i) a6z) a0h)) (a0o (b6r g4r f9h T.c9u.kp T.h4b .nil a6o (a0v (i2w (K:=K) (w:=A.wd) (by rfl) (by rfl)) (a2t (v:=.ref A.a2s) (by rfl) T.a6n rfl) (a0v a3s (pvF 1) a0i (fun _ _=>rfl)) (fun _ _=>rfl)) (a0g (a5p g8g (pvF 1) (a5r a0i) a6z) a0h)) (a0o (b6r g4s f9i T.c9v.kp T.h4d .nil a6o (a0v (i2w (K:=K) (w:=A.wd) (by rfl) (by rfl)) (a2t (v:=.ref A.a2s) (by rfl) T.a6n rfl) (a0v a3s (pvF 1) a0i (fun _ _=>rfl)) (fun _ _=>rfl)) (a0g (a5p g8g (pvF 1) (a5r a0i) a6z) a0h)) (b6r f8y f3i T.c2w.kp T.g7j .nil a6o (a0v (i2w (K:=K) (w:=A.wd) (by rfl) (by rfl)) (a2t (v:=.ref A.a2s) (by rfl) T.a6n rfl) (a0v a3s (pvF 1) a0i (fun _ _=>rfl)) (fun _ _=>rfl)) (a0g (a5p g8g (pvF 1) (a5r a0i) a6z) a0h)))))))))))),?_⟩
  rw [j9c]
  rcases hv with ⟨x,rfl,xl,no⟩ | ⟨ty,ht,ne⟩
  ·have sle:=split_le x 58
   have pl:∀ p∈a5s x ⟨#[58]⟩,p.length<=1000:=fun p hp=>Nat.le_trans (h0p hp) xl
   rw [h9t] at no
   obtain⟨kd,ws,ek⟩:∃ kd ws,a5s x ⟨#[58]⟩=kd :: ws:=List.exists_cons_of_ne_nil (g8j _ _)
   rw [ek] at sle pl no
   rw [List.length_cons] at sle
   have wz:∀ v∈ws,v.length<=1000:=fun v hv=>pl v (List.mem_cons_of_mem _ hv)
   have nk:∀ (j:Nat) (z:Str),kd=z->(∀ d:Dt,d.kd=j->d.kind=z)->¬ ∃ d:Dt,d.kd=j/\d.ok/\d.vals=ws:=fun j z e hk ⟨d,h1,h2,h3⟩=>no ⟨d,h2,by rw [hk d h1,h3,e]⟩
   have e2:d7r (V.str kd :: ws.map V.str) (some 1) none=ws.map V.str:=by
    show g5a _ (some ((1:Nat):Int)) none=_
    rw [b2h]
    rfl
   have ek':id (a5s x ⟨#[58]⟩=kd :: ws):=ek
   clear pl no ek
   walk_at "rd"
   rw [show a5s x ⟨#[58]⟩=kd :: ws from ek']
   refine⟨rfl,by omega,by rw [List.length_cons]; omega,fun l H1 n1 S1 h1=>?_⟩
   replace h1:H1 l=some (.lst (V.str kd :: ws.map V.str)):=h1
   have k1:=k H1 S1
   have wz':=(id wz:id _)
   have nk':=(id nk:id _)
   have e2':=(id e2:id _)
   clear ek' wz nk e2
   walk_at "rd*"
   have wz:∀ v∈ws,v.length<=1000:=wz'
   have nk:∀ (j:Nat) (z:Str),kd=z->(∀ d:Dt,d.kd=j->d.kind=z)->¬ ∃ d:Dt,d.kd=j/\d.ok/\d.vals=ws:=nk'
   by_cases hm : kd ∈ (["gain", "delay", "echo", "back", "swell", "hall"] : List Str)
   ·simp only [List.mem_cons,List.not_mem_nil,or_false] at hm
    rcases hm with e | e | e | e | e | e
    ·have nd:=nk 0 _ e (fun d h=>by cases d <;> first | rfl | (simp [Dt.kd] at h))
     clear nk nk' wz'
     subst e
     refine⟨_,T.a9j,?_⟩
     rw [if_neg (by exact Bool.noConfusion)]
     refine Or.inl ?_
     have rd:=T.a9j
     have wz2:=(id wz:id _)
     have nd':=(id nd:id _)
     clear wz nd
     walk_at "rd*"
     refine fun m H2 n2 S2 h2=>?_
     rw [show d7r _ (some 1) none=ws.map V.str from e2'] at h2
     try walk_at "rd"
     exact⟨ws,h2,by omega,wz2,nd',fun H3 S3=>k H3 (S1.trans (S2.trans S3))⟩
    ·have nd:=nk 1 _ e (fun d h=>by cases d <;> first | rfl | (simp [Dt.kd] at h))
     clear nk nk' wz'
     subst e
     refine⟨_,T.a7y,?_⟩
     rw [if_neg (by exact Bool.noConfusion)]
     refine Or.inr (Or.inl ?_)
     have rd:=T.a7y
     have wz2:=(id wz:id _)
     have nd':=(id nd:id _)
     clear wz nd
     walk_at "rd*"
     refine fun m H2 n2 S2 h2=>?_
     rw [show d7r _ (some 1) none=ws.map V.str from e2'] at h2
     try walk_at "rd"
     exact⟨ws,h2,by omega,wz2,nd',fun H3 S3=>k H3 (S1.trans (S2.trans S3))⟩
    ·have nd:=nk 2 _ e (fun d h=>by cases d <;> first | rfl | (simp [Dt.kd] at h))
     clear nk nk' wz'
     subst e
     refine⟨_,T.a9k,?_⟩
     rw [if_neg (by exact Bool.noConfusion)]
     refine Or.inr (Or.inr (Or.inl ?_))
     have rd:=T.a9k
     have wz2:=(id wz:id _)
     have nd':=(id nd:id _)
     clear wz nd
     walk_at "rd*"
     refine fun m H2 n2 S2 h2=>?_
     rw [show d7r _ (some 1) none=ws.map V.str from e2'] at h2
     try walk_at "rd"
     exact⟨ws,h2,by omega,wz2,nd',fun H3 S3=>k H3 (S1.trans (S2.trans S3))⟩
    ·have nd:=nk 3 _ e (fun d h=>by cases d <;> first | rfl | (simp [Dt.kd] at h))
     clear nk nk' wz'
     subst e
     refine⟨_,T.a9l,?_⟩
     rw [if_neg (by exact Bool.noConfusion)]
     refine Or.inr (Or.inr (Or.inr (Or.inl ?_)))
     have rd:=T.a9l
     have wz2:=(id wz:id _)
     have nd':=(id nd:id _)
     clear wz nd
     walk_at "rd*"
     refine fun m H2 n2 S2 h2=>?_
     rw [show d7r _ (some 1) none=ws.map V.str from e2'] at h2
     try walk_at "rd"
     exact⟨ws,h2,by omega,wz2,nd',fun H3 S3=>k H3 (S1.trans (S2.trans S3))⟩
    ·have nd:=nk 5 _ e (fun d h=>by cases d <;> first | rfl | (simp [Dt.kd] at h))
     clear nk nk' wz'
     subst e
     refine⟨_,T.a7z,?_⟩
     rw [if_neg (by exact Bool.noConfusion)]
     refine Or.inr (Or.inr (Or.inr (Or.inr (Or.inr ?_))))
     have rd:=T.a7z
     have wz2:=(id wz:id _)
     have nd':=(id nd:id _)
     clear wz nd
     walk_at "rd*"
     refine fun m H2 n2 S2 h2=>?_
     rw [show d7r _ (some 1) none=ws.map V.str from e2'] at h2
     try walk_at "rd"
     exact⟨ws,h2,by omega,wz2,nd',fun H3 S3=>k H3 (S1.trans (S2.trans S3))⟩
    ·have nd:=nk 4 _ e (fun d h=>by cases d <;> first | rfl | (simp [Dt.kd] at h))
     clear nk nk' wz'
     subst e
     refine⟨_,T.a9m,?_⟩
     rw [if_neg (by exact Bool.noConfusion)]
     refine Or.inr (Or.inr (Or.inr (Or.inr (Or.inl ?_))))
     have rd:=T.a9m
     have wz2:=(id wz:id _)
     have nd':=(id nd:id _)
     clear wz nd
     walk_at "rd*"
     refine fun m H2 n2 S2 h2=>?_
     rw [show d7r _ (some 1) none=ws.map V.str from e2'] at h2
     try walk_at "rd"
     exact⟨ws,h2,by omega,wz2,nd',fun H3 S3=>k H3 (S1.trans (S2.trans S3))⟩
   ·refine⟨none,j3x T.f8n dk hm,?_⟩
    rw [if_pos (show (none:Option Value).isSome=false from rfl)]
    trivial
  ·have k0:=k H (Same.refl _)
   walk_at "rd*"
theorem j0d (T : Tx K mg A) : a1h P A.wd K mg base CX0 1 A.a6h A.b3n ["self"] h7f := by
 refine T.d1h.ok g8r (fun vs H Q E h=>?_) (fun cdv A' outer s H vs Q E hr h=>?_)
 ·obtain⟨_,rfl,_⟩:=a6y (by unfold h7f at h; exact h)
  rfl
 ·obtain⟨o,rfl,k⟩:=a6y (by unfold h7f at h; exact h)
  have hu:=hr.units
  refine⟨_,(a0k (a0r (a4u a0h))),?_⟩
  walk_at "rd"
  refine⟨Nat.zero_le _,fun t H1 n1 S1 h1=>k _ _ ⟨t,rfl,n1,S1,h1⟩⟩
theorem i3b.same{A:Ad}{H H':Hp}{os:List Addr}{ds:List Dt}(h:i3b A H os ds)(S:Same H H'):i3b A H' os ds:=⟨h.1,fun i o d e1 e2=>(h.2 i o d e1 e2).same S⟩
theorem IsP.keep{A:Ad}{D:Addr}{H H':Hp}{o:Addr}{d:Dt}(h:IsP A H o d)(no:o≠D)(nt:∀ ts,H D≠some (.tup ts))(B:b1u D H H'):IsP A H' o d:=by
 have ne:∀ {p:Addr} {ts:List V},H p=some (.tup ts)->H' p=some (.tup ts):=fun hp=>B _ _ (fun e=>by rw [e] at hp; exact nt _ hp) hp
 obtain⟨dx,fs,h1,h2⟩:=h
 refine⟨dx,fs,B _ _ no h1,?_⟩
 cases d with
 | gain y=>obtain⟨g,e,h1⟩:=h2; exact⟨g,e,ne h1⟩
 | delay n=>exact h2
 | echo y n t=>obtain⟨g,fa,e,h1,h2⟩:=h2; exact⟨g,fa,e,ne h1,ne h2⟩
 | back y n=>obtain⟨g,e,h1⟩:=h2; exact⟨g,e,ne h1⟩
 | hall y n=>obtain⟨g,e,h1⟩:=h2; exact⟨g,e,ne h1⟩
 | swell cs =>
  obtain⟨ct,ln,S,ss,us,ps,e,h1,h2,h3,h4,h5⟩:=h2
  exact⟨ct,ln,S,ss,us,ps,e,ne h1,ne h2,⟨h3.1,fun i q v e1 e2=>ne (h3.2 i q v e1 e2)⟩,h4,⟨h5.1,fun i p c e1 e2=>(h5.2 i p c e1 e2).elim fun g z=>⟨g,ne z.1,ne z.2⟩⟩⟩
theorem i3b.keep{A:Ad}{D:Addr}{H H':Hp}{os:List Addr}{ds:List Dt}(h:i3b A H os ds)(no:∀ o∈os,o≠D)(nt:∀ ts,H D≠some (.tup ts))(B:b1u D H H'):i3b A H' os ds:=⟨h.1,fun i o d e1 e2=>(h.2 i o d e1 e2).keep (no o (List.mem_of_getElem? e1)) nt B⟩
theorem i3b.snoc{A:Ad}{H:Hp}{os:List Addr}{ds:List Dt}{o:Addr}{d:Dt}(h:i3b A H os ds)(hp:IsP A H o d):i3b A H (os++[o]) (ds++[d]):=by
 obtain⟨hl,h⟩:=h
 refine⟨by rw [List.length_append,List.length_append,hl]; rfl,fun i s e h1 h2=>?_⟩
 rcases Nat.lt_or_ge i ds.length with z | z
 ·rw [List.getElem?_append_left (by omega)] at h1
  rw [List.getElem?_append_left z] at h2
  exact h i s e h1 h2
 ·have hi:=(List.getElem?_eq_some_iff.mp h2).1
  rw [List.length_append,List.length_singleton] at hi
  obtain rfl:i=ds.length:=by omega
  rw [<- hl,List.getElem?_concat_length] at h1
  rw [List.getElem?_concat_length] at h2
  cases h1
  cases h2
  exact hp
theorem k0w (T : Tx K mg A) : a1h P A.wd K mg base CX0 9 A.b8m A.b7g ["words"] (j4v A) := by
 have g4t:a1h P A.wd K mg base CX0 8 _ _ _ _:=i6y T
 refine T.c2y.ok g2x (fun vs H Q E h=>?_) (fun cdv A' outer s H vs Q E hr h=>?_)
 ·obtain⟨_,rfl,_⟩:=a6y (by unfold j4v at h; exact h)
  rfl
 ·obtain⟨l,rfl,⟨ds,hl,l8,ok,q⟩⟩:=a6y (by unfold j4v at h; exact h)
  have hu:=hr.units
  have f9k:a2p 8 _:=hr.mono (by decide)
  have hs:sizeLine=16777216:=sizeLine_eq
  have z1:¬ (8:Int) < (ds.length:Int):=by omega
  refine ⟨_, (a0j (a3v (b2g (a3t (a0z (b3k .lst) (by rfl) T.a2m boot_isinstance (a0g (pvF 0) (a0g (b9h (v := .ty "list") (u := .type "list") (by rfl) T.h4l rfl rfl) a0h)))))
   (a0k a6m)
   a1k)
   (a0j (a3v (a1m d7w (a0z a5w (by rfl) T.d9o boot_len (a0g (pvF 0) a0h)) (a2t (v:=.int 8) (by rfl) T.f5y T.c7k) (a2n _))
   (a0k a6m)
   a1k)
   (a0k (a0r (c5q (a5q (pvF 0)) (fun _ _ _ _ _ => by exact (a0n g4t f9k (by rfl) T.h4f T.c9w.kp T.h4e .nil a0p (a0g (pvF 0) a0h))) (d4v (sc := a0l f0r) (N := ["words"]) rfl rfl (by decide +kernel)) rfl))))), ?_⟩
  walk_at "rd*"
  refine⟨⟨_,SqL.of hl⟩,fun D H2 n2 S2 h2=>?_⟩
  refine c0t (xs:=ds.map fun d=>V.str d.word) (fun i ys H'=>Same H H'/\H' D=some (.lst ys)/\∃ os:List Addr,ys=os.map V.ref/\(∀ o∈os,H o=none/\o≠D)/\i3b A H' os (ds.take i)) ⟨S2,h2,[],rfl,(fun o ho=>by cases ho),rfl,fun i o d e=>by simp at e⟩ (by rw [List.length_map,hs]; omega) ?_ ?_ ?_
  ·intro i ys H' hi ⟨S',h',os,e,no,R⟩
   rw [List.length_map] at hi
   exact⟨h',SqL.of (S' _ _ hl),by rw [e,List.length_map,R.1,List.length_take]; omega⟩
  ·intro i x ys H' hx ⟨S',h',os,e,no,R⟩
   rw [List.getElem?_map] at hx
   obtain⟨d,hd,rfl⟩:=Option.map_eq_some_iff.mp hx
   have o1:=ok d (List.mem_of_getElem? hd)
   walk_at "rd"
   refine⟨d,o1,rfl,fun o H3 n3 S3 hp=>?_⟩
   have no3:∀ p∈os++[o],H p=none/\p≠D:=fun p hp=>by
    rcases List.mem_append.mp hp with h | h
    ·exact no p h
    ·obtain rfl:=List.mem_singleton.mp h
     exact⟨S'.free n3,fun z=>by rw [z,h'] at n3; cases n3⟩
   refine⟨S3 _ _ h',fun H4 B4 h4=>⟨(S'.trans S3).step n2 B4,h4,os++[o],(by rw [e,List.map_append]; rfl),no3,?_⟩⟩
   rw [List.take_add_one,hd]
   exact ((R.same S3).snoc hp).keep (fun p hp=>(no3 p hp).2) (fun ts z=>by rw [S3 _ _ h'] at z; cases z) B4
  ·intro ys H3 ⟨S3,h3,os,e,no,R⟩
   rw [List.length_map,List.take_length] at R
   subst e
   exact q D os H3 n2 (fun o ho=>(no o ho).1) S3 h3 R
theorem ChW.same{A:Ad}{H H':Hp}{o:Addr}{ds:List Dt}(h:ChW A H o ds)(S:Same H H'):ChW A H' o ds:=by
 obtain⟨dx,pl,sl,os,h1,h2,h3⟩:=h
 exact⟨dx,pl,sl,os,S _ _ h1,S _ _ h2,h3.same S⟩
theorem i2o (T : Tx K mg A) : a1h P A.wd K mg base CX0 1 A.b4m A.b0z ["self"] g4g := by
 refine T.c6w.ok g5k (fun vs H Q E h=>?_) (fun cdv A' outer s H vs Q E hr h=>?_)
 ·obtain⟨_,rfl,_⟩:=a6y (by unfold g4g at h; exact h)
  rfl
 ·obtain⟨o,rfl,k⟩:=a6y (by unfold g4g at h; exact h)
  have hu:=hr.units
  refine⟨_,(a0k (a0r a0i)),?_⟩
  walk_at "rd*"
  all_goals exact k
theorem f9l{C o:Addr}{i:Nat}{m:Str}{sp:Sp}{E:XK}{t:TA}{σ:L2.St}{H:Hp}{Q:VK}{dx:Addr}{fs:List (Str×V)}(hσ:σ[i]? = some (some (.ref o)))(ho:H o=some (.ins C dx fs))(hl:fs.lookup m=none)(ht:t σ H fun vs H2=>sp (.ref o :: (vs++[])) H2 Q E):b6h C m sp [] E (d7v i) t σ H Q:=by
 simp only [b6h,d7v,hσ,ho]
 exact⟨trivial,hl,ht⟩
theorem k0x{σ:L2.St}{i:Nat}{o:Addr}{H:Hp}{d:Dt}{Q:VK}{E:XK}{m:Str}{s0 s1 s2 s3 s4 s5:Sp}{t:TA}(hσ:σ[i]? = some (some (.ref o)))(hd:IsP A H o d)
  (nm : m ≠ ("gain" : Str) ∧ m ≠ ("many" : Str) ∧ m ≠ ("turns" : Str) ∧ m ≠ ("factors" : Str) ∧ m ≠ ("factor_bottom" : Str) ∧ m ≠ ("corners" : Str) ∧ m ≠ ("shared" : Str) ∧ m ≠ ("lines" : Str))
  (q:t σ H fun vs H2=>(match d with | .gain _=>s0 | .delay _=>s1 | .echo .. => s2 | .back .. => s3 | .hall .. => s4 | .swell _=>s5) (.ref o :: (vs++[])) H2 Q E) :
  b6k (b6h A.b2w m s0 [] E (d7v i) t) (b6k (b6h A.a6t m s1 [] E (d7v i) t) (b6k (b6h A.a8k m s2 [] E (d7v i) t) (b6k (b6h A.a9s m s3 [] E (d7v i) t) (b6k (b6h A.b0o m s4 [] E (d7v i) t) (b6h A.a6j m s5 [] E (d7v i) t))))) σ H Q:=by
 obtain⟨m1,m2,m3,m4,m5,m6,m7,m8⟩:=nm
 have b:∀ {a c:Str},a≠c->(a == c)=false:=fun h=>beq_false_of_ne h
 obtain⟨dx,fs,ho,hf⟩:=hd
 have lk:fs.lookup m=none:=by
  cases d with
  | gain y=>obtain⟨g,rfl,_⟩:=hf; simp only [gnF,List.lookup,b m1]
  | delay n=>obtain rfl:=hf; simp only [dlF,List.lookup,b m2]
  | echo y n t=>obtain⟨g,fa,rfl,_⟩:=hf; simp only [ecF,List.lookup,b m1,b m2,b m3,b m4,b m5]
  | back y n=>obtain⟨g,rfl,_⟩:=hf; simp only [bkF,List.lookup,b m1,b m2]
  | hall y n=>obtain⟨g,rfl,_⟩:=hf; simp only [bkF,List.lookup,b m1,b m2]
  | swell cs=>obtain⟨ct,ln,S,ss,us,ps,rfl,_⟩:=hf; simp only [swF,List.lookup,b m6,b m7,b m8]
 cases d with
 | gain y=>exact .inl (f9l hσ ho lk q)
 | delay n=>exact .inr (.inl (f9l hσ ho lk q))
 | echo y n t=>exact .inr (.inr (.inl (f9l hσ ho lk q)))
 | back y n=>exact .inr (.inr (.inr (.inl (f9l hσ ho lk q))))
 | hall y n=>exact .inr (.inr (.inr (.inr (.inl (f9l hσ ho lk q)))))
 | swell cs=>exact .inr (.inr (.inr (.inr (.inr (f9l hσ ho lk q)))))
theorem k0y{σ:L2.St}{i:Nat}{o:Addr}{H:Hp}{d:Dt}{Q:VK}{E:XK}{m:Str}{s0 s1 s2 s3 s4 s5:Sp}(hσ:σ[i]? = some (some (.ref o)))(hd:IsP A H o d)
  (nm : m ≠ ("gain" : Str) ∧ m ≠ ("many" : Str) ∧ m ≠ ("turns" : Str) ∧ m ≠ ("factors" : Str) ∧ m ≠ ("factor_bottom" : Str) ∧ m ≠ ("corners" : Str) ∧ m ≠ ("shared" : Str) ∧ m ≠ ("lines" : Str))
  (q:(match d with | .gain _=>s0 | .delay _=>s1 | .echo .. => s2 | .back .. => s3 | .hall .. => s4 | .swell _=>s5) [.ref o] H Q E) :
  b6k (b6h A.b2w m s0 [] E (d7v i) h5g) (b6k (b6h A.a6t m s1 [] E (d7v i) h5g) (b6k (b6h A.a8k m s2 [] E (d7v i) h5g) (b6k (b6h A.a9s m s3 [] E (d7v i) h5g) (b6k (b6h A.b0o m s4 [] E (d7v i) h5g) (b6h A.a6j m s5 [] E (d7v i) h5g))))) σ H Q :=
 k0x (t:=h5g) hσ hd nm q
theorem h9w (T : Tx K mg A) : a1h P A.wd K mg base CX0 10 A.b2s A.a9z ["self", "words"] (h7g A) := by
 have f9m:a1h P A.wd K mg base CX0 9 _ _ _ _:=k0w T
 have c5n:a1h P A.wd K mg base CX0 1 _ _ _ _:=j0d T
 have h0q:a1h P A.wd K mg base CX0 1 _ _ _ _:=i2o T
 have a3l:=T.a3l
 have a2g:=T.a2g
 have a1q:=T.a1q
 have a3o:=T.a3o
 have a2i:=T.a2i
 have a2r:=T.a2r
 have a1r:=T.a1r
 have a3i:=T.a3i
 have a1u:=T.a1u
 have a1v:=T.a1v
 have a1j:=T.a1j
 have a0t:=T.a0t
 have a0m:=T.a0m
 have a3j:=T.a3j
 have a1w:=T.a1w
 have a1y:=T.a1y
 have a3p:=T.a3p
 have a2j:=T.a2j
 have a2k:=T.a2k
 have a2o:=T.a2o
 have a0q:=T.a0q
 have a0u:=T.a0u
 have a0y:=T.a0y
 refine T.c5j.ok f5i (fun vs H Q E h=>?_) (fun cdv A' outer s H vs Q E hr h=>?_)
 ·obtain⟨_,_,rfl,_⟩:=f4h (by unfold h7g at h; exact h)
  rfl
 ·obtain⟨o,l,rfl,⟨dx,ds,ho,hl,l8,ok,q⟩⟩:=f4h (by unfold h7g at h; exact h)
  have hu:=hr.units
  have f3j:a2p 9 _:=hr.mono (by decide)
  have c0n:a2p 1 _:=hr.mono (by decide)
  have g5u:a2p 1 _:=hr.mono (by decide)
  have hs:sizeLine=16777216:=sizeLine_eq
  refine⟨_,(a0j (b2j (pvF 0) (a0n f9m f3j (by rfl) T.g7l T.c2y.kp T.g7k .nil a0p (a0g (pvF 1) a0h)) rfl)
   (a0k (b2j (pvF 0) (c5q (a5q (a3u (pvF 0) rfl)) (fun _ _ _ _ _ => (a0o (a1s (pvF 0) T.a3o T.d5s c5n c0n T.c5m .nil a0p) (a0o (a1s (pvF 0) T.a2r T.d2o c5n c0n T.c5m .nil a0p) (a0o (a1s (pvF 0) T.a3i T.d5w c5n c0n T.c5m .nil a0p) (a0o (a1s (pvF 0) T.a3j T.d6g c5n c0n T.c5m .nil a0p) (a0o (a1s (pvF 0) T.a3p T.d6j c5n c0n T.c5m .nil a0p) (a1s (pvF 0) T.a2o T.d2t h0q g5u T.g9t .nil a0p))))))) (d4v (sc := a0l d8j) (N := ["self", "words"]) rfl rfl (by decide +kernel)) rfl) rfl))), ?_⟩
  walk_at "rd"
  refine⟨ds,hl,l8,ok,fun pl os H1 np no S1 hpl R=>?_⟩
  have ho1:=S1 _ _ ho
  have noc:∀ p∈os,p≠o:=fun p hp e=>by rw [<- e,no p hp] at ho; cases ho
  walk_at "rd*"
  intro H2 B2 h2
  have nop:o≠pl:=fun e=>by rw [<- e,ho] at np; cases np
  have k2a:=B2 _ _ nop.symm hpl
  have R2:=R.keep noc (fun ts z=>by rw [ho1] at z; cases z) B2
  clear hpl R ho ho1
  walk_at "rd*"
  refine⟨⟨_,SqL.of k2a⟩,fun D H3 n3 S3 h3=>?_⟩
  have ol:=R2.1
  refine c0t (xs:=os.map V.ref) (fun i ys H'=>Same H2 H'/\H' D=some (.lst ys)/\ys.length=i) ⟨S3,h3,rfl⟩ (by rw [List.length_map,hs]; omega) ?_ ?_ ?_
  ·intro i ys H' hi ⟨S',h',yl⟩
   exact⟨h',SqL.of (S' _ _ k2a),yl⟩
  ·intro i x ys H' hx ⟨S',h',yl⟩
   rw [List.getElem?_map] at hx
   obtain⟨oi,hoi,rfl⟩:=Option.map_eq_some_iff.mp hx
   have hi:=(List.getElem?_eq_some_iff.mp hoi).1
   have hd : ds[i]? = some (ds[i]'(by omega)) := List.getElem?_eq_getElem _
   have hp:=(R2.2 i _ _ hoi hd).same S'
   generalize ds[i]'(by omega) = d at hd hp
   try walk_at "rd"
   have fin:∀ (v:V) H5,Same H' H5->(H5 D=some (.lst ys)/\∀ H6,b1u D H5 H6->H6 D=some (.lst (ys++[v]))->Same H2 H6/\H6 D=some (.lst (ys++[v]))/\ys.length+1=i+1):=fun v H5 S5=>⟨S5 _ _ h',fun H6 B6 h6=>⟨(S'.trans S5).step n3 B6,h6,by rw [yl]⟩⟩
   refine k0y rfl hp (by decide +kernel) ?_
   cases d with
   | swell cs=>exact fin _ _ (Same.refl _)
   | _=>exact fun v H5 ⟨p,e,n5,S5,h5⟩=>fin v H5 S5
  ·intro ys H4 ⟨S4,h4,yl⟩
   have ho4:=S4 _ _ h2
   have hpl4:=S4 _ _ k2a
   have R4:=R2.same S4
   clear h2 h3 k2a
   walk_at "rd*"
   intro H5 B5 h5
   exact q H5 (fun z u hz e=>B5 _ _ hz (S4 _ _ (B2 _ _ hz (S1 _ _ e)))) ⟨dx,pl,D,os,h5,B5 _ _ nop.symm hpl4,R4.keep noc (fun ts z=>by rw [ho4] at z; cases z) B5⟩
theorem d9w{K:PySem.W.Frag}{a D:Addr}{xs:List V}{te:TE}{σ:L2.St}{H0 H:Hp}{Q:VK}(zs:List V)(hz:zs.length=xs.length)(n0:H0 D=none)(S:Same H0 H)(hD:H D=some (.lst []))(hS:SqL K H0 a xs)(hsz:xs.length<=sizeLine)
  (hs:∀ (i:Nat) x z H' (Q':VK),xs[i]? = some x->zs[i]? = some z->Same H0 H'->(∀ H2,Same H' H2->Q' z H2)->te (some x :: σ) H' Q') (q:∀ H',Same H0 H'->H' D=some (.lst zs)->Q (.ref D) H'):g0x (Itl K a) te D σ H Q ⟨⟩:=by
 refine c0t (fun i ys H'=>Same H0 H'/\H' D=some (.lst ys)/\ys=zs.take i) ⟨S,hD,by simp⟩ hsz (fun i ys H' hi p=>?_) (fun i x ys H' hx p=>?_) (fun ys H' p=>?_)
 ·refine⟨p.2.1,p.1.seq hS,?_⟩
  rw [p.2.2,List.length_take]
  omega
 ·have hi:i < zs.length:=by rw [hz]; exact (List.getElem?_eq_some_iff.mp hx).1
  have hzi:zs[i]? = some zs[i]:=List.getElem?_eq_getElem hi
  refine hs i x _ H' _ hx hzi p.1 fun H2 S2=>⟨S2 _ _ p.2.1,fun H3 s3 h3=>⟨(p.1.trans S2).step n0 s3,h3,?_⟩⟩
  rw [p.2.2,List.take_add_one,hzi]
  rfl
 ·refine q H' p.1 ?_
  rw [p.2.1,p.2.2,<- hz,List.take_length]
theorem j2h (T : Tx K mg A) : a1h P A.wd K mg base CX0 4 A.b4t A.b1l ["self"] (j4w A) := by
 have f3k:a1h P A.wd K mg base CX0 2 _ _ _ _:=k0h T
 have d9y:a1h P A.wd K mg base CX0 1 _ _ _ _:=k0i T
 have f3l:a1h P A.wd K mg base CX0 2 _ _ _ _:=k0j T
 have f3m:a1h P A.wd K mg base CX0 2 _ _ _ _:=k0k T
 have f3n:a1h P A.wd K mg base CX0 2 _ _ _ _:=k0l T
 have d9z:a1h P A.wd K mg base CX0 3 _ _ _ _:=k0m T
 have a3l:=T.a3l
 have a2g:=T.a2g
 have a1q:=T.a1q
 have a3o:=T.a3o
 have a2i:=T.a2i
 have a2r:=T.a2r
 have a1r:=T.a1r
 have a3i:=T.a3i
 have a1u:=T.a1u
 have a1v:=T.a1v
 have a1j:=T.a1j
 have a0t:=T.a0t
 have a0m:=T.a0m
 have a3j:=T.a3j
 have a1w:=T.a1w
 have a1y:=T.a1y
 have a3p:=T.a3p
 have a2j:=T.a2j
 have a2k:=T.a2k
 have a2o:=T.a2o
 have a0q:=T.a0q
 have a0u:=T.a0u
 have a0y:=T.a0y
 refine T.c7h.ok g5m (fun vs H Q E h=>?_) (fun cdv A' outer s H vs Q E hr h=>?_)
 ·obtain⟨_,rfl,_⟩:=a6y (by unfold j4w at h; exact h)
  rfl
 ·obtain⟨o,rfl,⟨ds,⟨dx,pl,sl,os,ho,hpl,R⟩,l8,ok,q⟩⟩:=a6y (by unfold j4w at h; exact h)
  have hu:=hr.units
  have f0g:a2p 2 _:=hr.mono (by decide)
  have d7l:a2p 1 _:=hr.mono (by decide)
  have f0h:a2p 2 _:=hr.mono (by decide)
  have f0i:a2p 2 _:=hr.mono (by decide)
  have f0j:a2p 2 _:=hr.mono (by decide)
  have d7m:a2p 3 _:=hr.mono (by decide)
  have hs:sizeLine=16777216:=sizeLine_eq
  have ol:=R.1
  unfold chF at ho
  refine ⟨_, (a0k (a0r (c5q (a5q (a3u (pvF 0) rfl)) (fun _ _ _ _ _ => (a0o (a1s (pvF 0) T.a3o T.d0v f3k f0g T.g3p .nil a0p) (a0o (a1s (pvF 0) T.a2r T.c6n d9y d7l T.g0n .nil a0p) (a0o (a1s (pvF 0) T.a3i T.d0w f3l f0h T.g3t .nil a0p) (a0o (a1s (pvF 0) T.a3j T.d0y f3m f0i T.g3v .nil a0p) (a0o (a1s (pvF 0) T.a3p T.d0z f3n f0j T.g3x .nil a0p) (a1s (pvF 0) T.a2o T.c6o d9z d7m T.g0p .nil a0p))))))) (d4v (sc := a0l d5g) (N := ["self"]) rfl rfl (by decide +kernel)) rfl))), ?_⟩
  walk_at "rd*"
  refine⟨⟨_,SqL.of hpl⟩,fun D H2 n2 S2 h2=>?_⟩
  refine d9w (ds.map fun d=>V.str d.word) (by rw [List.length_map,List.length_map,ol]) n2 S2 h2 (SqL.of hpl) (by rw [List.length_map,hs]; omega) ?_ ?_
  ·intro i x z H' Q' hx hz S' q'
   rw [List.getElem?_map] at hx hz
   obtain⟨oi,hoi,rfl⟩:=Option.map_eq_some_iff.mp hx
   obtain⟨d,hd,rfl⟩:=Option.map_eq_some_iff.mp hz
   have hp:=(R.2 i _ _ hoi hd).same S'
   have okd:=ok d (List.mem_of_getElem? hd)
   have hi:=(List.getElem?_eq_some_iff.mp hoi).1
   try walk_at "rd"
   refine k0y rfl hp (by decide +kernel) ?_
   cases d <;> exact⟨_,rfl,hp,okd,fun H1 S1=>q' H1 S1⟩
  ·intro H3 S3 h3
   exact q _ _ ⟨D,rfl,n2,S3,h3⟩
theorem i7a{t b:Int}(hb:0 < b)(ht:0<=t):0<=(Rat.divInt t b).num:=by
 have c:=cross (t:=t) (b:=b) (by omega)
 have d:=(Rat.divInt t b).den_pos
 have h:0<=(Rat.divInt t b).num*b:=by rw [c]; exact Int.mul_nonneg ht (by omega)
 rcases Int.lt_or_le (Rat.divInt t b).num 0 with z | z
 ·have:=Int.mul_neg_of_neg_of_pos z hb
  omega
 ·exact z
theorem h9x(y:Rat):1+Rat.abs y=Rat.divInt ((y.den:Int)+(y.num.natAbs:Int)) (y.den:Int):=by
 rw [<- h0i,d3j,c0k]
 show Rat.divInt (1*(y.den:Int)+(y.num.natAbs:Int)*1) (1*(y.den:Int))=_
 rw [Int.one_mul,Int.mul_one]
theorem j2i:∀ {fs:List Int},(∀ f∈fs,0<=f)->0<=fs.sum
 | [],_=>by decide
 | f :: fs,h=>by
  have i:=j2i (fs:=fs) fun g hg=>h g (List.mem_cons_of_mem _ hg)
  have h1:=h f (List.mem_cons_self ..)
  rw [List.sum_cons]
  omega
theorem wgt6{H:Hp}{o:Addr}{d:Dt}{Q:VK}{E:XK}(hd:IsP A H o d)(ok:d.ok)(k:All (c9i H (a9v (h0g d))) Q ⟨⟩ ⟨⟩):(match d with | .gain _=>f5z A.b2w | .delay _=>f1g A.a6t | .echo .. => f6h A.a8k | .back .. => f6j A.a9s | .hall .. => f6l A.b0o | .swell _=>f0y A.a6j) [.ref o] H Q E:=by
 obtain⟨dx,fs,ho,hf⟩:=hd
 cases d with
 | gain y=>obtain⟨g,rfl,hg⟩:=hf; exact⟨_,_,⟨dx,g,y,ho,hg,rfl,rfl⟩,k⟩
 | delay n=>obtain rfl:=hf; exact⟨_,_,⟨dx,n,ho,rfl,rfl⟩,k⟩
 | echo y n t =>
  obtain⟨g,fa,rfl,hg,hfa⟩:=hf
  obtain⟨oy,_,n2,t2⟩:=ok
  have:=y.den_pos
  exact⟨_,_,⟨y.num,y.den,n,t,⟨dx,g,fa,ho,hg,hfa⟩,n2,t2,by omega,oy.b.1,oy.b.2,rfl,rfl⟩,k⟩
 | back y n=>obtain⟨g,rfl,hg⟩:=hf; exact⟨_,_,⟨dx,g,n,y,ho,hg,ok.1.b.1,ok.1.b.2,rfl,rfl⟩,k⟩
 | hall y n=>obtain⟨g,rfl,hg⟩:=hf; exact⟨_,_,⟨dx,g,n,y,ho,hg,ok.1.b.1,ok.1.b.2,ok.2.1,rfl,rfl⟩,k⟩
 | swell cs =>
  obtain⟨ct,ln,S,ss,us,ps,rfl,hct,hln,TP,sok,R⟩:=hf
  exact⟨_,_,⟨dx,ct,ln,S,ps,cs,ho,hct,R,h1q.crn ok,rfl,rfl⟩,k⟩
theorem h9y{ds:List Dt}:inV .non (ds.map fun d=>oV (g7r d))=true ↔ ∃ d∈ds,g7r d=none:=by
 unfold inV
 rw [List.any_eq_true]
 constructor
 ·rintro ⟨v,hv,e⟩
  obtain⟨d,hd,rfl⟩:=List.mem_map.mp hv
  refine⟨d,hd,?_⟩
  cases h:g7r d with
  | none=>rfl
  | some n=>rw [h] at e; simp [oV,eqV] at e
 ·rintro ⟨d,hd,e⟩
  exact⟨_,List.mem_map.mpr ⟨d,hd,rfl⟩,by rw [e]; rfl⟩
theorem h9z:∀ ns:List Nat,(ns.map fun n:Nat=>(n:Int)).sum=((ns.sum:Nat):Int)
 | []=>rfl
 | n :: ns=>by rw [List.map_cons,List.sum_cons,List.sum_cons,h9z ns,Int.natCast_add]
theorem j5g (T : Tx K mg A) : a1h P A.wd K mg base CX0 1 A.a9r A.b3o ["self"] j9v := by
 refine T.d1i.ok g8s (fun vs H Q E h=>?_) (fun cdv A' outer s H vs Q E hr h=>?_)
 ·obtain⟨_,rfl,_⟩:=a6y (by unfold j9v at h; exact h)
  rfl
 ·obtain⟨o,rfl,k⟩:=a6y (by unfold j9v at h; exact h)
  have hu:=hr.units
  refine⟨_,(a0k (a0r a0i)),?_⟩
  walk_at "rd"
  exact k
theorem rch6{H:Hp}{o:Addr}{d:Dt}{Q:VK}{E:XK}(hd:IsP A H o d)(ok:d.ok)(k:Q (oV (g7r d)) H):(match d with | .gain _=>j9v | .delay _=>f0z A.a6t | .echo .. => f6g A.a8k | .back .. => f6i A.a9s | .hall .. => f6k A.b0o | .swell _=>j9v) [.ref o] H Q E:=by
 obtain⟨dx,fs,ho,hf⟩:=hd
 cases d with
 | gain y=>exact k
 | delay n=>obtain rfl:=hf; exact⟨_,_,⟨dx,n,ho,rfl,rfl⟩,k⟩
 | echo y n t =>
  obtain⟨g,fa,rfl,hg,hfa⟩:=hf
  obtain⟨oy,_,n2,t2⟩:=ok
  have:=y.den_pos
  exact⟨_,_,⟨y.num,y.den,n,t,⟨dx,g,fa,ho,hg,hfa⟩,n2,t2,by omega,oy.b.1,oy.b.2,rfl,rfl⟩,k⟩
 | back y n=>obtain⟨g,rfl,hg⟩:=hf; exact⟨_,_,⟨dx,g,n,y,ho,hg,ok.1.b.1,ok.1.b.2,rfl,rfl⟩,k⟩
 | hall y n=>obtain⟨g,rfl,hg⟩:=hf; exact⟨_,_,⟨dx,g,n,y,ho,hg,ok.1.b.1,ok.1.b.2,ok.2.1,rfl,rfl⟩,k⟩
 | swell cs=>exact k
theorem i0a{d:Dt}(ok:d.ok):intBits (h0g d).num<=187/\intBits ((h0g d).den:Int)<=187/\0<=(h0g d).num:=by
 have ab:∀ {y:Rat},YOk y->intBits (Rat.abs y).num<=10/\intBits ((Rat.abs y).den:Int)<=10:=fun h=>⟨f1l h.b.1,by rw [c0k]; exact h.b.2⟩
 cases d with
 | gain y =>
  have:=ab (y:=y) ok
  refine⟨by show intBits (Rat.abs y).num<=_; omega,by show intBits ((Rat.abs y).den:Int)<=_; omega,?_⟩
  show 0<=(Rat.abs y).num
  rw [d3j]
  omega
 | delay n=>exact⟨(by decide:intBits (1:Rat).num<=187),(by decide:intBits ((1:Rat).den:Int)<=187),(by decide:(0:Int)<=(1:Rat).num)⟩
 | echo y n t =>
  obtain⟨oy,_,n2,t2⟩:=ok
  have qp:0 < (y.den:Int) ^ t:=Int.pow_pos (by have:=y.den_pos; omega)
  have pq:intBits ((y.den:Int) ^ t)<=170:=Nat.le_trans (c0l oy.b.2 t) (by omega)
  have sb:intBits ((g7q y.num (y.den:Int) t).map fun f=>(f.natAbs:Int)).sum<=170+((g7q y.num (y.den:Int) t).map fun f=>(f.natAbs:Int)).length:=g4n fun f hf=>by
   obtain⟨g,hg,rfl⟩:=List.mem_map.mp hf
   exact intBits_natAbs_le (h4r oy.b.1 oy.b.2 t2 g hg)
  rw [List.length_map,h9n] at sb
  refine⟨f1h (by omega) (by omega),f1i (by omega) (by omega),?_⟩
  exact i7a qp (j2i fun f hf=>by
   obtain⟨g,_,rfl⟩:=List.mem_map.mp hf
   omega)
 | back y n =>
  have h:=ok.1.b
  have e:=h9x y
  have dp:=y.den_pos
  refine⟨?_,?_,?_⟩
  ·show intBits (1+Rat.abs y).num<=_
   rw [e]
   exact f1h (by omega) (Nat.le_trans (intBits_add_le h.2 (intBits_natAbs_le h.1)) (by decide))
  ·show intBits ((1+Rat.abs y).den:Int)<=_
   rw [e]
   exact f1i (by omega) (by omega)
  ·show 0<=(1+Rat.abs y).num
   rw [e]
   exact i7a (by omega) (by omega)
 | hall y n =>
  have h:=ok.1.b
  have l:=ok.2.1
  exact⟨f1h (by omega) (by omega),f1i (by omega) (Nat.le_trans (intBits_sub_le h.2 (intBits_natAbs_le h.1)) (by decide)),i7a (by omega) (by omega)⟩
 | swell cs =>
  have:=g1j cs fun c hc=>⟨(ok.1 c hc).2.2.b.1,(ok.1 c hc).2.2.b.2⟩
  exact⟨by show intBits (f1p cs).num<=_; omega,by show intBits ((f1p cs).den:Int)<=_; omega,this.2.2⟩
theorem h4u(ds:List Dt)(d:Dt)(x:Rat):h7h (ds++[d]) x=h7h ds x*h0g d:=by
 induction ds generalizing x with
 | nil=>rfl
 | cons e ds ih=>exact ih _
theorem g4u:∀ {ds:List Dt} {x:Rat} {a:Nat},(∀ d∈ds,d.ok)->intBits x.num<=a->intBits (x.den:Int)<=a->intBits (h7h ds x).num<=a+187*ds.length/\intBits ((h7h ds x).den:Int)<=a+187*ds.length
 | [],_,_,_,h1,h2=>⟨h1,h2⟩
 | d :: ds,x,a,ok,h1,h2=>by
  have w:=i0a (ok d (List.mem_cons_self ..))
  have e:=g4h x (h0g d)
  have n1:intBits (x*h0g d).num<=a+187:=by rw [<- e]; exact f1h (f8u _ _) (Nat.le_trans (intBits_mul_le h1 w.1) (by omega))
  have n2:intBits ((x*h0g d).den:Int)<=a+187:=by rw [<- e]; exact f1i (f8u _ _) (Nat.le_trans (intBits_mul_le h2 w.2.1) (by omega))
  have i:=g4u (ds:=ds) (fun d hd=>ok d (List.mem_cons_of_mem _ hd)) n1 n2
  rw [List.length_cons]
  show intBits (h7h ds (x*h0g d)).num<=_/\intBits ((h7h ds (x*h0g d)).den:Int)<=_
  omega
theorem k0z (T : Tx K mg A) : a1h P A.wd K mg base CX0 5 A.b1j A.a9i ["self"] (j4x A) := by
 have h0k:a1h P A.wd K mg base CX0 3 _ _ _ _:=i6n T
 have h0r:a1h P A.wd K mg base CX0 1 _ _ _ _:=h7x T
 have h0s:a1h P A.wd K mg base CX0 2 _ _ _ _:=i2d T
 have h0t:a1h P A.wd K mg base CX0 3 _ _ _ _:=i2j T
 have h0u:a1h P A.wd K mg base CX0 4 _ _ _ _:=i2f T
 have h0v:a1h P A.wd K mg base CX0 3 _ _ _ _:=i2h T
 have g5v:a1h P A.wd K mg base CX0 2 _ _ _ _:=h7v T
 have a3l:=T.a3l
 have a2g:=T.a2g
 have a1q:=T.a1q
 have a3o:=T.a3o
 have a2i:=T.a2i
 have a2r:=T.a2r
 have a1r:=T.a1r
 have a3i:=T.a3i
 have a1u:=T.a1u
 have a1v:=T.a1v
 have a1j:=T.a1j
 have a0t:=T.a0t
 have a0m:=T.a0m
 have a3j:=T.a3j
 have a1w:=T.a1w
 have a1y:=T.a1y
 have a3p:=T.a3p
 have a2j:=T.a2j
 have a2k:=T.a2k
 have a2o:=T.a2o
 have a0q:=T.a0q
 have a0u:=T.a0u
 have a0y:=T.a0y
 refine T.c4s.ok b9o (fun vs H Q E h=>?_) (fun cdv A' outer s H vs Q E hr h=>?_)
 ·obtain⟨_,rfl,_⟩:=a6y (by unfold j4x at h; exact h)
  rfl
 ·obtain⟨o,rfl,⟨ds,⟨dx,pl,sl,os,ho,hpl,R⟩,l8,ok,q⟩⟩:=a6y (by unfold j4x at h; exact h)
  have hu:=hr.units
  have g1h:a2p 3 _:=hr.mono (by decide)
  have g5w:a2p 1 _:=hr.mono (by decide)
  have g5x:a2p 2 _:=hr.mono (by decide)
  have g5y:a2p 3 _:=hr.mono (by decide)
  have g5z:a2p 4 _:=hr.mono (by decide)
  have g6a:a2p 3 _:=hr.mono (by decide)
  have g4v:a2p 2 _:=hr.mono (by decide)
  have ol:=R.1
  unfold chF at ho
  refine⟨_,(a0j (a1n (i:=1) b9o.nd rfl (Or.inl rfl) (a4u (a0g a0i (a0g a0i a0h))))
   (a0j (b6j PassesOwn.never rfl (a5q (a3u (pvF 0) rfl)) (a5g (i:=2) b9o.nd rfl (Or.inl rfl))
   (a0k (a1n (i:=1) b9o.nd rfl (Or.inl rfl) (a0n h0k g1h (by rfl) T.h6q T.f2s.kp T.h6p .nil a0p (a0g (pvF 1) (a0g (a0o (a1s (pvF 2) T.a3o T.d2l h0s g5x T.g9l .nil a0p) (a0o (a1s (pvF 2) T.a2r T.c9o h0r g5w T.g9k .nil a0p) (a0o (a1s (pvF 2) T.a3i T.d2p h0t g5y T.g9n .nil a0p) (a0o (a1s (pvF 2) T.a3j T.d2q h0u g5z T.g9o .nil a0p) (a0o (a1s (pvF 2) T.a3p T.d2r h0v g6a T.g9p .nil a0p) (a1s (pvF 2) T.a2o T.c9p g5v g4v T.g5o .nil a0p)))))) a0h))))))
   (a0k (a0r (pvF 1))))),?_⟩
  walk_at "rd*"
  refine fun p1 H1 n1 S1 h1=>?_
  have ho1:=S1 _ _ ho
  replace h1:H1 p1=some (.tup (a9v 1)):=h1
  clear ho
  walk_at "rd*"
  refine⟨⟨_,SqL.of (S1 _ _ hpl)⟩,?_⟩
  obtain⟨Pv,pin,pout⟩:=f6w (fun i σ H'=>∃ (v2:Option V) (p:Addr),σ = [some (.ref o),some (.ref p),v2]/\Same H H'/\H p=none/\H' p=some (.tup (a9v (h7h (ds.take i) 1))))
  refine c4v (xs:=os.map V.ref) Pv (pin _ _ _ ⟨_,p1,rfl,S1,n1,h1⟩) ?_ ?_ ?_
  ·intro i σ H2 hi hp
   obtain⟨v2,p,rfl,S2,np,h2⟩:=pout _ _ _ hp
   exact SqL.of (S2 _ _ hpl)
  ·intro i v σ H2 hv hp
   obtain⟨v2,p,rfl,S2,np,h2⟩:=pout _ _ _ hp
   rw [List.getElem?_map] at hv
   obtain⟨oi,hoi,rfl⟩:=Option.map_eq_some_iff.mp hv
   have hi:=(List.getElem?_eq_some_iff.mp hoi).1
   have hd : ds[i]? = some (ds[i]'(by omega)) := List.getElem?_eq_getElem _
   have hpi:=(R.2 i _ _ hoi hd).same S2
   have okd:=ok _ (List.mem_of_getElem? hd)
   have et : ds.take (i + 1) = ds.take i ++ [ds[i]'(by omega)] := by rw [List.take_add_one, hd]; rfl
   generalize ds[i]'(by omega) = d at hd hpi okd et
   have wb:=g4u (ds:=ds.take i) (x:=1) (a:=1) (fun d hd=>ok d (List.mem_of_mem_take hd)) (by decide) (by decide)
   have db:=i0a okd
   have tl:(ds.take i).length<=8:=by rw [List.length_take]; omega
   clear hv hp hpl ho1 h1
   walk_at "rd"
   refine k0y rfl hpi (by decide +kernel) (wgt6 hpi okd ?_)
   rintro _ H3 ⟨z3,rfl,n3,S3,h3⟩
   walk_at "rd"
   refine⟨_,_,⟨S3 _ _ h2,h3,by omega,by omega,by omega,by omega⟩,?_⟩
   rintro _ H4 ⟨z4,rfl,n4,S4,h4⟩
   try walk_at "rd"
   exact pin _ _ _ ⟨_,z4,rfl,S2.trans (S3.trans S4),(S2.trans S3).free n4,by rw [h4,et,h4u]⟩
  ·intro σ H2 hp
   obtain⟨v2,p,rfl,S2,np,h2⟩:=pout _ _ _ hp
   rw [List.length_map,ol,List.take_length] at h2
   walk_at "rd"
   exact q _ _ ⟨p,rfl,np,S2,h2⟩
theorem j5h(o:Option Nat):c6k (oV o)=true:=by cases o <;> rfl
theorem i7b{ds:List Dt}:(∀ d∈ds,g7r d≠none)->∃ ns:List Nat,ds.map g7r=ns.map some/\j2b ds=some ns.sum:=by
 induction ds with
 | nil=>exact fun _=>⟨[],rfl,rfl⟩
 | cons d ds ih =>
  intro h
  obtain⟨ns,e1,e2⟩:=ih fun e he=>h e (List.mem_cons_of_mem _ he)
  cases hd:g7r d with
  | none=>exact absurd hd (h d (List.mem_cons_self ..))
  | some a =>
   refine⟨a :: ns,by rw [List.map_cons,List.map_cons,hd,e1],?_⟩
   rw [j2b,hd,e2,List.sum_cons]
theorem h4v{ds:List Dt}{d:Dt}(h:d∈ds)(hn:g7r d=none):j2b ds=none:=by
 induction ds with
 | nil=>cases h
 | cons e ds ih =>
  rw [j2b]
  rcases List.mem_cons.mp h with rfl | h
  ·rw [hn]
  ·rw [ih h]
   cases g7r e <;> rfl
theorem k1a (T : Tx K mg A) : a1h P A.wd K mg base CX0 2 A.b4s A.b1k ["self"] (j4y A) := by
 have g0r:a1h P A.wd K mg base CX0 1 _ _ _ _:=j5g T
 have h0w:a1h P A.wd K mg base CX0 1 _ _ _ _:=h7w T
 have h4w:a1h P A.wd K mg base CX0 1 _ _ _ _:=i2i T
 have h4x:a1h P A.wd K mg base CX0 1 _ _ _ _:=i2e T
 have h4y:a1h P A.wd K mg base CX0 1 _ _ _ _:=i2g T
 have a3l:=T.a3l
 have a2g:=T.a2g
 have a1q:=T.a1q
 have a3o:=T.a3o
 have a2i:=T.a2i
 have a2r:=T.a2r
 have a1r:=T.a1r
 have a3i:=T.a3i
 have a1u:=T.a1u
 have a1v:=T.a1v
 have a1j:=T.a1j
 have a0t:=T.a0t
 have a0m:=T.a0m
 have a3j:=T.a3j
 have a1w:=T.a1w
 have a1y:=T.a1y
 have a3p:=T.a3p
 have a2j:=T.a2j
 have a2k:=T.a2k
 have a2o:=T.a2o
 have a0q:=T.a0q
 have a0u:=T.a0u
 have a0y:=T.a0y
 refine T.c7g.ok f1v (fun vs H Q E h=>?_) (fun cdv A' outer s H vs Q E hr h=>?_)
 ·obtain⟨_,rfl,_⟩:=a6y (by unfold j4y at h; exact h)
  rfl
 ·obtain⟨o,rfl,⟨ds,⟨dx,pl,sl,os,ho,hpl,R⟩,l8,ok,q⟩⟩:=a6y (by unfold j4y at h; exact h)
  have hu:=hr.units
  have f6n:a2p 1 _:=hr.mono (by decide)
  have g6b:a2p 1 _:=hr.mono (by decide)
  have h0x:a2p 1 _:=hr.mono (by decide)
  have h0y:a2p 1 _:=hr.mono (by decide)
  have h0z:a2p 1 _:=hr.mono (by decide)
  have hs:sizeLine=16777216:=sizeLine_eq
  have ol:=R.1
  unfold chF at ho
  refine ⟨_, (a0j (g1w (i := 1) f1v.nd rfl rfl (a5q (a3u (pvF 0) rfl)) (fun _ _ _ _ _ => (a0o (a1s (pvF 0) T.a3o T.d5t g0r f6n T.g0l .nil a0p) (a0o (a1s (pvF 0) T.a2r T.d2m h0w g6b T.g9m .nil a0p) (a0o (a1s (pvF 0) T.a3i T.d5v h4w h0x T.h3v .nil a0p) (a0o (a1s (pvF 0) T.a3j T.d5z h4x h0y T.h3x .nil a0p) (a0o (a1s (pvF 0) T.a3p T.d6h h4y h0z T.h3y .nil a0p) (a1s (pvF 0) T.a2o T.d2u g0r f6n T.g0l .nil a0p))))))) (d4v (sc := a0l d4z) (N := ["self", "reaches"]) rfl rfl (by decide +kernel)) rfl)
   (a0k (a0r (g7y (a1m j1d d3m (pvF 1) (by rfl)) d3m (a0z (h2p rfl) (by rfl) T.j9o boot_sum (a0g (pvF 1) a0h)))))),?_⟩
  walk_at "rd*"
  refine⟨⟨_,SqL.of hpl⟩,fun D H2 n2 S2 h2=>?_⟩
  refine d9w (ds.map fun d=>oV (g7r d)) (by rw [List.length_map,List.length_map,ol]) n2 S2 h2 (SqL.of hpl) (by rw [List.length_map,hs]; omega) ?_ ?_
  ·intro i x z H' Q' hx hz S' q'
   rw [List.getElem?_map] at hx hz
   obtain⟨oi,hoi,rfl⟩:=Option.map_eq_some_iff.mp hx
   obtain⟨d,hd,rfl⟩:=Option.map_eq_some_iff.mp hz
   have hp:=(R.2 i _ _ hoi hd).same S'
   exact k0y rfl hp (by decide +kernel) (rch6 hp (ok d (List.mem_of_getElem? hd)) (q' _ (Same.refl _)))
  ·intro H3 S3 h3
   have q3:=q H3 S3
   have fl:(ds.map fun d=>oV (g7r d)).all c6k=true:=List.all_eq_true.mpr fun v hv=>by
    obtain⟨d,_,rfl⟩:=List.mem_map.mp hv
    exact j5h _
   clear hpl h2
   walk_at "rd*"
   refine⟨rfl,?_⟩
   by_cases hn:∃ d∈ds,g7r d=none
   ·obtain⟨d,hd,e⟩:=hn
    rw [if_pos (h9y.mpr ⟨d,hd,e⟩)]
    rw [h4v hd e] at q3
    exact q3
   ·obtain⟨ns,e1,e2⟩:=i7b fun d hd e=>hn ⟨d,hd,e⟩
    rw [if_neg (fun z=>hn (h9y.mp z))]
    rw [e2] at q3
    refine⟨ns.map fun n:Nat=>(n:Int),?_,?_⟩
    ·rw [show (ds.map fun d=>oV (g7r d))=(ds.map g7r).map oV by rw [List.map_map]; rfl,e1,List.map_map,List.map_map]
     rfl
    ·rw [h9z]
     exact q3
theorem i7c (T : Tx K mg A) : a1h P A.wd K mg base CX0 1 A.a9q A.b3m ["self"] j9u := by
 refine T.d1g.ok g8q (fun vs H Q E h=>?_) (fun cdv A' outer s H vs Q E hr h=>?_)
 ·obtain⟨_,rfl,_⟩:=a6y (by unfold j9u at h; exact h)
  rfl
 ·obtain⟨o,rfl,k⟩:=a6y (by unfold j9u at h; exact h)
  have hu:=hr.units
  refine⟨_,(a0k (a0r a0i)),?_⟩
  walk_at "rd"
  exact k
theorem i7d (T : Tx K mg A) : a1h P A.wd K mg base CX0 1 A.b7m A.b3q ["self"] (f1q A 0) := by
 have a3o:=T.a3o
 have a2i:=T.a2i
 refine T.d1k.ok g8u (fun vs H Q E h=>?_) (fun cdv A' outer s H vs Q E hr h=>?_)
 ·obtain⟨_,rfl,_⟩:=a6y (by unfold f1q at h; exact h)
  rfl
 ·obtain⟨o,rfl,⟨d,hk,hd,ok,q⟩⟩:=a6y (by unfold f1q at h; exact h)
  cases d with
  | gain y =>
   obtain⟨dx,_,ho,g,rfl,hg⟩:=hd
   replace ho : H o = some (.ins A.b2w dx [("gain", .ref g)]) := ho
   unfold a9v at hg
   have hu:=hr.units
   refine⟨_,(a0k (a0r (a0v a3s (a3u (pvF 0) rfl) a0i (fun _ _=>rfl)))),?_⟩
   walk_at "rd*"
   exact q _ (by have:=y.den_pos; omega) (Nat.le_trans ok.b.2 (by decide))
  | _=>simp [Dt.kd] at hk
theorem i7e (T : Tx K mg A) : a1h P A.wd K mg base CX0 1 A.b7s A.b3v ["self"] (f1q A 2) := by
 have a3i:=T.a3i
 have a1u:=T.a1u
 have a1v:=T.a1v
 have a1j:=T.a1j
 have a0t:=T.a0t
 have a0m:=T.a0m
 refine T.d1n.ok g8w (fun vs H Q E h=>?_) (fun cdv A' outer s H vs Q E hr h=>?_)
 ·obtain⟨_,rfl,_⟩:=a6y (by unfold f1q at h; exact h)
  rfl
 ·obtain⟨o,rfl,⟨d,hk,hd,ok,q⟩⟩:=a6y (by unfold f1q at h; exact h)
  cases d with
  | echo y n t =>
   obtain⟨dx,_,ho,g,fa,rfl,hg,hf⟩:=hd
   replace ho:H o=some (.ins A.a8k dx (ecF g fa n t (y.den:Int))):=ho
   unfold ecF at ho
   have hu:=hr.units
   refine⟨_,(a0k (a0r (a3u (pvF 0) rfl))),?_⟩
   walk_at "rd*"
   exact q _ (Int.pow_pos (by have:=y.den_pos; omega)) (Nat.le_trans (c0l ok.1.b.2 t) (by have:=ok.2.2.2; omega))
  | _=>simp [Dt.kd] at hk
theorem i7f (T : Tx K mg A) : a1h P A.wd K mg base CX0 1 A.b7w A.b3z ["self"] (f1q A 3) := by
 have a3j:=T.a3j
 have a1w:=T.a1w
 have a1y:=T.a1y
 refine T.d1p.ok g8y (fun vs H Q E h=>?_) (fun cdv A' outer s H vs Q E hr h=>?_)
 ·obtain⟨_,rfl,_⟩:=a6y (by unfold f1q at h; exact h)
  rfl
 ·obtain⟨o,rfl,⟨d,hk,hd,ok,q⟩⟩:=a6y (by unfold f1q at h; exact h)
  cases d with
  | back y n =>
   obtain⟨dx,_,ho,g,rfl,hg⟩:=hd
   replace ho : H o = some (.ins A.a9s dx [("gain", .ref g), ("many", .int n)]) := ho
   unfold a9v at hg
   have hu:=hr.units
   refine⟨_,(a0k (a0r (a0v a3s (a3u (pvF 0) rfl) a0i (fun _ _=>rfl)))),?_⟩
   walk_at "rd*"
   exact q _ (by have:=y.den_pos; omega) (Nat.le_trans ok.1.b.2 (by decide))
  | _=>simp [Dt.kd] at hk
theorem i2p (T : Tx K mg A) : a1h P A.wd K mg base CX0 1 A.b4l A.b0y ["self"] (f1q A 5) := by
 have a2o:=T.a2o
 have a0q:=T.a0q
 have a0u:=T.a0u
 have a0y:=T.a0y
 refine T.c6v.ok g5j (fun vs H Q E h=>?_) (fun cdv A' outer s H vs Q E hr h=>?_)
 ·obtain⟨_,rfl,_⟩:=a6y (by unfold f1q at h; exact h)
  rfl
 ·obtain⟨o,rfl,⟨d,hk,hd,ok,q⟩⟩:=a6y (by unfold f1q at h; exact h)
  cases d with
  | swell cs =>
   obtain⟨dx,_,ho,ct,ln,S,ss,us,ps,rfl,hct,hln,TP,sok,R⟩:=hd
   replace ho : H o = some (.ins A.a6j dx [("corners", .ref ct), ("shared", .int S), ("lines", .ref ln)]) := ho
   have hu:=hr.units
   refine⟨_,(a0k (a0r (a3u (pvF 0) rfl))),?_⟩
   walk_at "rd*"
   exact q S sok.2.2.2.1 sok.2.2.2.2.1
  | _=>simp [Dt.kd] at hk
theorem gr6w{H:Hp}{o:Addr}{d:Dt}{Q:VK}{E:XK}(hd:IsP A H o d)(ok:d.ok)(q:∀ g:Int,1<=g->intBits g<=1600->Q (.int g) H):(match d with | .gain _=>f1q A 0 | .delay _=>j9u | .echo .. => f1q A 2 | .back .. => f1q A 3 | .hall .. => j9u | .swell _=>f1q A 5) [.ref o] H Q E:=by
 cases d with
 | delay n=>exact q 1 (by decide) (by decide)
 | hall y n=>exact q 1 (by decide) (by decide)
 | _=>exact⟨_,rfl,hd,ok,q⟩
theorem k1b (T : Tx K mg A) : a1h P A.wd K mg base CX0 2 A.b4r A.b1i ["self"] (j4z A) := by
 have g0s:a1h P A.wd K mg base CX0 1 _ _ _ _:=i7c T
 have h4z:a1h P A.wd K mg base CX0 1 _ _ _ _:=i7d T
 have h5a:a1h P A.wd K mg base CX0 1 _ _ _ _:=i7e T
 have h5b:a1h P A.wd K mg base CX0 1 _ _ _ _:=i7f T
 have h1a:a1h P A.wd K mg base CX0 1 _ _ _ _:=i2p T
 have a3l:=T.a3l
 have a2g:=T.a2g
 have a1q:=T.a1q
 have a3o:=T.a3o
 have a2i:=T.a2i
 have a2r:=T.a2r
 have a1r:=T.a1r
 have a3i:=T.a3i
 have a1u:=T.a1u
 have a1v:=T.a1v
 have a1j:=T.a1j
 have a0t:=T.a0t
 have a0m:=T.a0m
 have a3j:=T.a3j
 have a1w:=T.a1w
 have a1y:=T.a1y
 have a3p:=T.a3p
 have a2j:=T.a2j
 have a2k:=T.a2k
 have a2o:=T.a2o
 have a0q:=T.a0q
 have a0u:=T.a0u
 have a0y:=T.a0y
 refine T.c6z.ok c4n (fun vs H Q E h=>?_) (fun cdv A' outer s H vs Q E hr h=>?_)
 ·obtain⟨_,rfl,_⟩:=a6y (by unfold j4z at h; exact h)
  rfl
 ·obtain⟨o,rfl,⟨ds,⟨dx,pl,sl,os,ho,hpl,R⟩,l8,ok,q⟩⟩:=a6y (by unfold j4z at h; exact h)
  have hu:=hr.units
  have f6o:a2p 1 _:=hr.mono (by decide)
  have h1b:a2p 1 _:=hr.mono (by decide)
  have h1c:a2p 1 _:=hr.mono (by decide)
  have h1e:a2p 1 _:=hr.mono (by decide)
  have g6c:a2p 1 _:=hr.mono (by decide)
  have ol:=R.1
  unfold chF at ho
  refine⟨_,(a0j (a1n (i:=1) c4n.nd rfl (Or.inl rfl) a0i)
   (a0j (b6j PassesOwn.never rfl (a5q (a3u (pvF 0) rfl)) (a5g (i:=2) c4n.nd rfl (Or.inl rfl))
   (a0k (a1n (i:=1) c4n.nd rfl (Or.inl rfl) (a1l a5l (pvF 1) (a0o (a1s (pvF 2) T.a3o T.d5r h4z h1b T.h3t .nil a0p) (a0o (a1s (pvF 2) T.a2r T.d2n g0s f6o T.g0k .nil a0p) (a0o (a1s (pvF 2) T.a3i T.d5u h5a h1c T.h3u .nil a0p) (a0o (a1s (pvF 2) T.a3j T.d5y h5b h1e T.h3w .nil a0p) (a0o (a1s (pvF 2) T.a3p T.d6i g0s f6o T.g0k .nil a0p) (a1s (pvF 2) T.a2o T.d2s h1a g6c T.g9s .nil a0p))))))))))
   (a0k (a0r (pvF 1))))),?_⟩
  walk_at "rd*"
  refine⟨⟨_,SqL.of hpl⟩,?_⟩
  obtain⟨Pv,pin,pout⟩:=f6w (fun i σ H'=>∃ (v2:Option V) (g:Int),σ = [some (.ref o),some (.int g),v2]/\H=H'/\1<=g/\intBits g<=1+1600*i)
  refine c4v (xs:=os.map V.ref) Pv (pin _ _ _ ⟨_,1,rfl,rfl,by decide,by decide⟩) ?_ ?_ ?_
  ·intro i σ H2 hi hp
   obtain⟨v2,g,rfl,rfl,g1,gb⟩:=pout _ _ _ hp
   exact SqL.of hpl
  ·intro i v σ H2 hv hp
   obtain⟨v2,g,rfl,rfl,g1,gb⟩:=pout _ _ _ hp
   rw [List.getElem?_map] at hv
   obtain⟨oi,hoi,rfl⟩:=Option.map_eq_some_iff.mp hv
   have hi:=(List.getElem?_eq_some_iff.mp hoi).1
   have hd : ds[i]? = some (ds[i]'(by omega)) := List.getElem?_eq_getElem _
   have hpi:=R.2 i _ _ hoi hd
   have okd:=ok _ (List.mem_of_getElem? hd)
   generalize ds[i]'(by omega) = d at hd hpi okd
   clear hv hp hpl ho
   walk_at "rd"
   refine k0y rfl hpi (by decide +kernel) (gr6w hpi okd fun g' h1 h2=>?_)
   walk_at "rd"
   refine⟨IntMulOk.of_le gb h2 (by omega),pin _ _ _ ⟨_,g*g',rfl,rfl,?_,Nat.le_trans (intBits_mul_le gb h2) (by omega)⟩⟩
   have:=Int.mul_pos (show 0 < g by omega) (show 0 < g' by omega)
   omega
  ·intro σ H2 hp
   obtain⟨v2,g,rfl,rfl,g1,gb⟩:=pout _ _ _ hp
   walk_at "rd"
   exact q g g1
theorem j5i (T : Tx K mg A) : a1h P A.wd K mg base CX0 1 A.a6i A.b3p ["self", "n"] i6d := by
 refine T.d1j.ok g8t (fun vs H Q E h=>?_) (fun cdv A' outer s H vs Q E hr h=>?_)
 ·obtain⟨_,_,rfl,_⟩:=d3t (by unfold i6d at h; exact h)
  rfl
 ·obtain⟨o,n,rfl,k⟩:=d3t (by unfold i6d at h; exact h)
  have hu:=hr.units
  refine⟨_,(a0k (a0r (pvF 0))),?_⟩
  walk_at "rd"
  exact k
theorem j5j (T : Tx K mg A) : a1h P A.wd K mg base CX0 7 A.b4n A.b1h ["self", "n"] (i6e A) := by
 have d9v:a1h P A.wd K mg base CX0 5 _ _ _ _:=h4o T
 have a2o:=T.a2o
 have a0q:=T.a0q
 have a0u:=T.a0u
 have a0y:=T.a0y
 refine T.c6y.ok g5l (fun vs H Q E h=>?_) (fun cdv A' outer s H vs Q E hr h=>?_)
 ·obtain⟨_,_,rfl,_⟩:=d3t (by unfold i6e at h; exact h)
  rfl
 ·obtain⟨o,n,rfl,⟨cs,m,en,hd,ok,q⟩⟩:=d3t (by unfold i6e at h; exact h)
  subst en
  obtain⟨dx,_,ho,ct,ln,S,ss,us,ps,rfl,hct,hln,TP,sok,R⟩:=hd
  replace ho : H o = some (.ins A.a6j dx [("corners", .ref ct), ("shared", .int S), ("lines", .ref ln)]) := ho
  have ok:h1q (cs.map fun c=>(c.1+(m:Int),c.2)):=ok
  have hu:=hr.units
  have d7k:a2p 6 _:=hr.mono (by decide)
  have pl:=R.1
  have hs:sizeLine=16777216:=sizeLine_eq
  have L12:=ok.2.2.2
  have L1:=ok.2.2.1
  rw [List.length_map] at L12 L1
  refine ⟨_, (a0k (a0r (b1y T.g9i d9v d7k (by rfl) T.h9h T.g0o .nil a0p (a0g (c5q (g8i (a3u (pvF 0) rfl)) (fun _ _ _ _ _ => (a4u (a0g (a1l a2z (a0v a3s (pvF 0) a0i (fun _ _ => rfl)) (pvF 2)) (a0g (a0v a3s (pvF 0) a0i (fun _ _ => rfl)) a0h)))) (d4v (sc := a0l d4y) (N := ["self", "n"]) rfl rfl (by decide +kernel)) rfl) a0h)))), ?_⟩
  walk_at "rd*"
  intro D H2 n2 S2 h2
  refine g2d (xs:=ps.map V.ref) (fun i ys H'=>Same H H'/\H' D=some (.lst ys)/\∃ ps',ys=ps'.map V.ref/\Crn H' ps' ((cs.map fun c=>(c.1+(m:Int),c.2)).take i)) ⟨S2,h2,[],rfl,by rw [List.take_zero]; exact Crn.nil⟩ (by rw [List.length_map,pl,hs]; omega) ?_ ?_ ?_
  ·intro i ys H' hi ⟨S',h',ps',e,R'⟩
   rw [List.length_map] at hi
   exact⟨h',SqT.of (S' _ _ hct),by rw [e,List.length_map,R'.1,List.length_take,List.length_map]; omega⟩
  ·intro i x ys H' hx ⟨S',h',ps',e,R'⟩
   obtain⟨p,c,g,rfl,hc,hp,hg⟩:=R.get hx
   have hp':=S' _ _ hp
   have hg':=S' _ _ hg
   clear ho hct hln h2 hp hg
   walk_at "rd*"
   refine fun u H3 n3 S3 h3=>⟨S3 _ _ h',fun H4 B4 h4=>⟨(S'.trans S3).step n2 B4,h4,ps'++[u],by rw [e,List.map_append]; rfl,?_⟩⟩
   rw [List.take_add_one,List.getElem?_map,hc]
   exact ((R'.same S3).snoc h3 (S3 _ _ hg')).i6x (S3 _ _ h') B4
  ·intro ys H3 ⟨S3,h3,ps',e,R'⟩
   rw [List.length_map,pl,List.take_of_length_le (by rw [List.length_map]; exact Nat.le_refl _)] at R'
   subst e
   clear h2
   walk_at "rd"
   intro x dx' H6 n6 n7 nx S6 hdx hx
   refine⟨dx',ps',_,hx,S6 _ _ h3,R'.same S6,h1q.crn ok,by rw [List.length_map]; exact L1,by rw [List.length_map]; exact L12,fun ct' ln' S' ss' us' H7 B7 nct h7 hct' hln' TP' sok'=>?_⟩
   rw [asNew]
   exact⟨rfl,q x H7 ((S3.trans S6).step (S3.free n6) B7) ⟨dx',_,h7,ct',ln',S',ss',us',ps',rfl,hct',hln',TP',sok',(R'.same S6).f2u hx B7⟩⟩
theorem i2q{σ:L2.St}{H:Hp}{d:Dt}{k:Nat}{o:Addr}{Q:VK}{E:XK}(hk:d.kd=k)(z:IsP A H o d)(ok:d.ok)(q:∀ H1,Same H H1->Q (.str d.word) H1):h5g σ H fun vs H2=>g1b A k (.ref o :: (vs++[])) H2 Q E:=by
 show ∃ d:Dt,d.kd=k/\IsP A H o d/\d.ok/\(∀ H1,Same H H1->Q (.str d.word) H1)
 exact⟨d,hk,z,ok,q⟩
theorem k4k(T:Tx K mg A){σ:L2.St}{H:Hp}{d:Dt}{Q:VK}{E:XK}{r:TE}(ok:d.ok)(hr:∀ R:VK,(∀ o H1,Same H H1->IsP A H1 o d->R (.ref o) H1)->r σ H R)(q:∀ H1,Same H H1->Q (.str d.word) H1) :
  b6k (b6h A.b2w "word" (g1b A 0) [] E r h5g) (b6k (b6h A.a6t "word" (g1b A 1) [] E r h5g) (b6k (b6h A.a8k "word" (g1b A 2) [] E r h5g) (b6k (b6h A.a9s "word" (g1b A 3) [] E r h5g) (b6k (b6h A.b0o "word" (g1b A 4) [] E r h5g) (b6h A.a6j "word" (g1b A 5) [] E r h5g))))) σ H Q := by
 cases d with
 | gain y =>
  refine .inl (hr _ fun o H1 S1 z=>?_)
  obtain⟨dx,_,ho,g,rfl,hg⟩:=id z
  simp only [ho]
  exact⟨rfl,rfl,i2q rfl z ok fun H2 S2=>q H2 (S1.trans S2)⟩
 | delay n =>
  refine .inr (.inl (hr _ fun o H1 S1 z=>?_))
  obtain⟨dx,_,ho,rfl⟩:=id z
  simp only [ho]
  exact⟨rfl,rfl,i2q rfl z ok fun H2 S2=>q H2 (S1.trans S2)⟩
 | echo y n t =>
  refine .inr (.inr (.inl (hr _ fun o H1 S1 z=>?_)))
  obtain⟨dx,_,ho,g,fa,rfl,hg,hf⟩:=id z
  simp only [ho]
  exact⟨rfl,rfl,i2q rfl z ok fun H2 S2=>q H2 (S1.trans S2)⟩
 | back y n =>
  refine .inr (.inr (.inr (.inl (hr _ fun o H1 S1 z=>?_))))
  obtain⟨dx,_,ho,g,rfl,hg⟩:=id z
  simp only [ho]
  exact⟨rfl,rfl,i2q rfl z ok fun H2 S2=>q H2 (S1.trans S2)⟩
 | hall y n =>
  refine .inr (.inr (.inr (.inr (.inl (hr _ fun o H1 S1 z=>?_)))))
  obtain⟨dx,_,ho,g,rfl,hg⟩:=id z
  simp only [ho]
  exact⟨rfl,rfl,i2q rfl z ok fun H2 S2=>q H2 (S1.trans S2)⟩
 | swell cs =>
  refine .inr (.inr (.inr (.inr (.inr (hr _ fun o H1 S1 z=>?_)))))
  obtain⟨dx,_,ho,ct,ln,S,ss,us,ps,rfl,_⟩:=id z
  simp only [ho]
  exact⟨rfl,rfl,i2q rfl z ok fun H2 S2=>q H2 (S1.trans S2)⟩
theorem k1c (T : Tx K mg A) : a1h P A.wd K mg base CX0 8 A.b4u A.b1m ["self", "n"] (j5a A) := by
 have a1p:a1h P A.wd K mg base CX0 1 _ _ _ _:=j5i T
 have b6g:a1h P A.wd K mg base CX0 7 _ _ _ _:=j5j T
 have f3k:a1h P A.wd K mg base CX0 2 _ _ _ _:=k0h T
 have d9y:a1h P A.wd K mg base CX0 1 _ _ _ _:=k0i T
 have f3l:a1h P A.wd K mg base CX0 2 _ _ _ _:=k0j T
 have f3m:a1h P A.wd K mg base CX0 2 _ _ _ _:=k0k T
 have f3n:a1h P A.wd K mg base CX0 2 _ _ _ _:=k0l T
 have d9z:a1h P A.wd K mg base CX0 3 _ _ _ _:=k0m T
 have a3l:=T.a3l
 have a2g:=T.a2g
 have a1q:=T.a1q
 have a3o:=T.a3o
 have a2i:=T.a2i
 have a2r:=T.a2r
 have a1r:=T.a1r
 have a3i:=T.a3i
 have a1u:=T.a1u
 have a1v:=T.a1v
 have a1j:=T.a1j
 have a0t:=T.a0t
 have a0m:=T.a0m
 have a3j:=T.a3j
 have a1w:=T.a1w
 have a1y:=T.a1y
 have a3p:=T.a3p
 have a2j:=T.a2j
 have a2k:=T.a2k
 have a2o:=T.a2o
 have a0q:=T.a0q
 have a0u:=T.a0u
 have a0y:=T.a0y
 refine T.c7i.ok g5n (fun vs H Q E h=>?_) (fun cdv A' outer s H vs Q E hr h=>?_)
 ·obtain⟨_,_,rfl,_⟩:=d3t (by unfold j5a at h; exact h)
  rfl
 ·obtain⟨o,m,rfl,⟨n,ds,em,⟨dx,pl,sl,os,ho,hpl,R⟩,l8,ok,q⟩⟩:=d3t (by unfold j5a at h; exact h)
  subst em
  have hu:=hr.units
  have a1g:a2p 1 _:=hr.mono (by decide)
  have b1s:a2p 7 _:=hr.mono (by decide)
  have f0g:a2p 2 _:=hr.mono (by decide)
  have d7l:a2p 1 _:=hr.mono (by decide)
  have f0h:a2p 2 _:=hr.mono (by decide)
  have f0i:a2p 2 _:=hr.mono (by decide)
  have f0j:a2p 2 _:=hr.mono (by decide)
  have d7m:a2p 3 _:=hr.mono (by decide)
  have hs:sizeLine=16777216:=sizeLine_eq
  have ol:=R.1
  unfold chF at ho
  refine ⟨_, (a0k (a0r (c5q (a5q (a3u (pvF 0) rfl)) (fun _ _ _ _ _ => (a0o (a1s (a0o (a2q (pvF 0) T.a3o T.a8l a1p a1g T.a1o .nil a0p (a0g (pvF 2) a0h)) (a0o (a2q (pvF 0) T.a2r T.a6v a1p a1g T.a1o .nil a0p (a0g (pvF 2) a0h)) (a0o (a2q (pvF 0) T.a3i T.a8m a1p a1g T.a1o .nil a0p (a0g (pvF 2) a0h)) (a0o (a2q (pvF 0) T.a3j T.a8n a1p a1g T.a1o .nil a0p (a0g (pvF 2) a0h)) (a0o (a2q (pvF 0) T.a3p T.a8o a1p a1g T.a1o .nil a0p (a0g (pvF 2) a0h)) (a2q (pvF 0) T.a2o T.a6w b6g b1s T.b5y .nil a0p (a0g (pvF 2) a0h))))))) T.a3o T.d0v f3k f0g T.g3p .nil a0p) (a0o (a1s (a0o (a2q (pvF 0) T.a3o T.a8l a1p a1g T.a1o .nil a0p (a0g (pvF 2) a0h)) (a0o (a2q (pvF 0) T.a2r T.a6v a1p a1g T.a1o .nil a0p (a0g (pvF 2) a0h)) (a0o (a2q (pvF 0) T.a3i T.a8m a1p a1g T.a1o .nil a0p (a0g (pvF 2) a0h)) (a0o (a2q (pvF 0) T.a3j T.a8n a1p a1g T.a1o .nil a0p (a0g (pvF 2) a0h)) (a0o (a2q (pvF 0) T.a3p T.a8o a1p a1g T.a1o .nil a0p (a0g (pvF 2) a0h)) (a2q (pvF 0) T.a2o T.a6w b6g b1s T.b5y .nil a0p (a0g (pvF 2) a0h))))))) T.a2r T.c6n d9y d7l T.g0n .nil a0p) (a0o (a1s (a0o (a2q (pvF 0) T.a3o T.a8l a1p a1g T.a1o .nil a0p (a0g (pvF 2) a0h)) (a0o (a2q (pvF 0) T.a2r T.a6v a1p a1g T.a1o .nil a0p (a0g (pvF 2) a0h)) (a0o (a2q (pvF 0) T.a3i T.a8m a1p a1g T.a1o .nil a0p (a0g (pvF 2) a0h)) (a0o (a2q (pvF 0) T.a3j T.a8n a1p a1g T.a1o .nil a0p (a0g (pvF 2) a0h)) (a0o (a2q (pvF 0) T.a3p T.a8o a1p a1g T.a1o .nil a0p (a0g (pvF 2) a0h)) (a2q (pvF 0) T.a2o T.a6w b6g b1s T.b5y .nil a0p (a0g (pvF 2) a0h))))))) T.a3i T.d0w f3l f0h T.g3t .nil a0p) (a0o (a1s (a0o (a2q (pvF 0) T.a3o T.a8l a1p a1g T.a1o .nil a0p (a0g (pvF 2) a0h)) (a0o (a2q (pvF 0) T.a2r T.a6v a1p a1g T.a1o .nil a0p (a0g (pvF 2) a0h)) (a0o (a2q (pvF 0) T.a3i T.a8m a1p a1g T.a1o .nil a0p (a0g (pvF 2) a0h)) (a0o (a2q (pvF 0) T.a3j T.a8n a1p a1g T.a1o .nil a0p (a0g (pvF 2) a0h)) (a0o (a2q (pvF 0) T.a3p T.a8o a1p a1g T.a1o .nil a0p (a0g (pvF 2) a0h)) (a2q (pvF 0) T.a2o T.a6w b6g b1s T.b5y .nil a0p (a0g (pvF 2) a0h))))))) T.a3j T.d0y f3m f0i T.g3v .nil a0p) (a0o (a1s (a0o (a2q (pvF 0) T.a3o T.a8l a1p a1g T.a1o .nil a0p (a0g (pvF 2) a0h)) (a0o (a2q (pvF 0) T.a2r T.a6v a1p a1g T.a1o .nil a0p (a0g (pvF 2) a0h)) (a0o (a2q (pvF 0) T.a3i T.a8m a1p a1g T.a1o .nil a0p (a0g (pvF 2) a0h)) (a0o (a2q (pvF 0) T.a3j T.a8n a1p a1g T.a1o .nil a0p (a0g (pvF 2) a0h)) (a0o (a2q (pvF 0) T.a3p T.a8o a1p a1g T.a1o .nil a0p (a0g (pvF 2) a0h)) (a2q (pvF 0) T.a2o T.a6w b6g b1s T.b5y .nil a0p (a0g (pvF 2) a0h))))))) T.a3p T.d0z f3n f0j T.g3x .nil a0p) (a1s (a0o (a2q (pvF 0) T.a3o T.a8l a1p a1g T.a1o .nil a0p (a0g (pvF 2) a0h)) (a0o (a2q (pvF 0) T.a2r T.a6v a1p a1g T.a1o .nil a0p (a0g (pvF 2) a0h)) (a0o (a2q (pvF 0) T.a3i T.a8m a1p a1g T.a1o .nil a0p (a0g (pvF 2) a0h)) (a0o (a2q (pvF 0) T.a3j T.a8n a1p a1g T.a1o .nil a0p (a0g (pvF 2) a0h)) (a0o (a2q (pvF 0) T.a3p T.a8o a1p a1g T.a1o .nil a0p (a0g (pvF 2) a0h)) (a2q (pvF 0) T.a2o T.a6w b6g b1s T.b5y .nil a0p (a0g (pvF 2) a0h))))))) T.a2o T.c6o d9z d7m T.g0p .nil a0p))))))) (d4v (sc := a0l d5h) (N := ["self", "n"]) rfl rfl (by decide +kernel)) rfl))), ?_⟩
  walk_at "rd*"
  refine⟨⟨_,SqL.of hpl⟩,fun D H2 n2 S2 h2=>?_⟩
  refine d9w (ds.map fun d=>V.str (b6q n d).word) (by rw [List.length_map,List.length_map,ol]) n2 S2 h2 (SqL.of hpl) (by rw [List.length_map,hs]; omega) ?_ ?_
  ·intro i x z H' Q' hx hz S' q'
   rw [List.getElem?_map] at hx hz
   obtain⟨oi,hoi,rfl⟩:=Option.map_eq_some_iff.mp hx
   obtain⟨d,hd,rfl⟩:=Option.map_eq_some_iff.mp hz
   have hp:=(R.2 i _ _ hoi hd).same S'
   have okd:=ok d (List.mem_of_getElem? hd)
   refine k4k T okd.2 (fun R h=>k0x rfl hp (by decide +kernel) ?_) fun H4 S4=>q' H4 S4
   walk_at "rd"
   cases d with
   | swell cs=>exact⟨cs,n,rfl,hp,okd.2,fun o' H4 S4 z=>h o' H4 S4 z⟩
   | _=>exact h _ _ (Same.refl _) hp
  ·intro H3 S3 h3
   exact q _ _ ⟨D,rfl,n2,S3,h3⟩
theorem LPt.same{H H':Hp}{p:Addr}{d:Dt}(h:LPt H p d)(S:Same H H'):LPt H' p d:=by
 cases d with
 | swell cs=>obtain⟨g,ps,h1,h2,h3⟩:=h; exact⟨g,ps,S _ _ h1,S _ _ h2,h3.same S⟩
 | _=>obtain⟨g,h1,h2⟩:=h; exact⟨g,S _ _ h1,S _ _ h2⟩
theorem LPt.i0b{H H':Hp}{p:Addr}{d:Dt}(h:LPt H p d)(S:∀ o,H p=some o->H' p=some o):H' p=H p:=by
 cases d with
 | swell cs=>obtain⟨g,ps,h1,_⟩:=h; rw [h1]; exact S _ h1
 | _=>obtain⟨g,h1,_⟩:=h; rw [h1]; exact S _ h1
theorem LPk.same{D:Addr}{H H':Hp}{p:Addr}{d:Dt}(h:LPk D H p d)(S:Same H H'):LPk D H' p d:=⟨h.1.same S,fun g k m t e=>h.2 g k m t (by rw [<- h.1.i0b fun o e=>S _ _ e]; exact e)⟩
theorem LPk.keep{D:Addr}{H H':Hp}{p:Addr}{d:Dt}{ys:List V}(h:LPk D H p d)(hD:H D=some (.lst ys))(B:b1u D H H'):LPk D H' p d:=by
 have nt:∀ {q:Addr} {ts:List V},H q=some (.tup ts)->H' q=some (.tup ts):=fun {q ts} e=>B _ _ (fun z=>by rw [z,hD] at e; cases e) e
 have e1:H' p=H p:=h.1.i0b fun o e=>B _ _ (fun z=>by
  obtain⟨h1,_⟩:=h
  rw [z] at h1
  cases d with
  | swell cs=>obtain⟨g,ps,h1,_⟩:=h1; rw [hD] at h1; cases h1
  | _=>obtain⟨g,h1,_⟩:=h1; rw [hD] at h1; cases h1) e
 refine⟨?_,fun g k m t e=>h.2 g k m t (by rw [<- e1]; exact e)⟩
 obtain⟨h1,h2⟩:=h
 cases d with
 | swell cs =>
  obtain⟨g,ps,h1,h3,R⟩:=h1
  exact⟨g,ps,nt h1,B _ _ (h2 _ _ _ _ h1) h3,R.i6x hD B⟩
 | _=>obtain⟨g,h1,h3⟩:=h1; exact⟨g,nt h1,nt h3⟩
theorem i0c (T : Tx K mg A) : a1h P A.wd K mg base CX0 1 A.b7h A.b8n ["_law_found"] h7n := by
 refine T.b3g.ok h3o (fun vs H Q E h=>?_) (fun cdv A' outer s H vs Q E hr h=>?_)
 ·obtain⟨_,rfl,_⟩:=i2x (by unfold h7n at h; exact h)
  rfl
 ·obtain⟨i,rfl,q⟩:=i2x (by unfold h7n at h; exact h)
  have hu:=hr.units
  refine ⟨_, (a0k (a0r (f2h (a0z (b3k .int) (by rfl) T.a2m boot_isinstance (a0g (pvF 0) (a0g (b9h (v := .ty "int") (u := .type "int") (by rfl) T.g4a rfl rfl) a0h))) (g6i (h5o (a0z (b3k .bl) (by rfl) T.a2m boot_isinstance (a0g (pvF 0) (a0g (b9h (v := .ty "bool") (u := .type "bool") (by rfl) T.j1t rfl rfl) a0h)))))))), ?_⟩
  walk_at "rd"
  exact q
theorem g4w (T : Tx K mg A) : a1h P A.wd K mg base CX0 1 A.b0g A.b1n ["_law_one", "_law_other"] h6w := by
 refine T.b4z.ok b0p (fun vs H Q E h=>?_) (fun cdv A' outer s H vs Q E hr h=>?_)
 ·obtain⟨_,_,rfl,_⟩:=g0y (by unfold h6w at h; exact h)
  rfl
 ·obtain⟨a,b,rfl,q⟩:=g0y (by unfold h6w at h; exact h)
  have q:Q (.int (Int.gcd a b)) H:=q
  have hu:=hr.units
  refine⟨_,(a0j (a1n (i:=0) b0p.nd rfl (Or.inl rfl) (a0z a5y (by rfl) T.d9n boot_abs (a0g (pvF 0) a0h)))
   (a0j (a1n (i:=1) b0p.nd rfl (Or.inl rfl) (a0z a5y (by rfl) T.d9n boot_abs (a0g (pvF 1) a0h)))
   (a0j (h2l PassesOwn.never (a1m d7w (pvF 1) a0i (a2n _))
   (a0j (a1n (i:=2) b0p.nd rfl (Or.inl rfl) (a1l b0m (pvF 0) (pvF 1)))
   (a0j (a1n (i:=0) b0p.nd rfl (Or.inl rfl) (pvF 1))
   (a0k (a1n (i:=1) b0p.nd rfl (Or.inl rfl) (pvF 2))))))
   (a0k (a0r (pvF 0)))))),?_⟩
  walk_at "rd"
  refine h2m (fun m σ H1=>∃ l r z,σ = [some (.int l),some (.int r),z]/\H1=H/\0<=l/\0<=r/\m=r.toNat/\Int.gcd l r=Int.gcd a b) _
   ⟨_,_,_,rfl,rfl,by omega,by omega,rfl,h0h a b⟩ ?_
  rintro m σ H1 ⟨l,r,z,rfl,rfl,hl,hr',rfl,hg⟩
  walk_at "rd"
  split
  ·rename_i h
   have hp:0 < r:=by omega
   have f:=i6i hl hp
   exact⟨by omega,_,(by omega:(l.fmod r).toNat < r.toNat),_,_,_,⟨rfl,rfl,rfl⟩,hr',f.1,rfl,(h9k hl hp).trans hg⟩
  ·rename_i h
   obtain rfl:r=0:=by omega
   rw [<- hg,gcd_zero hl] at q
   exact q
theorem h5c{t b g:Int}(hg:0 < g)(h1:g∣t)(h2:g∣b)(h:(t.natAbs:Int) < b):((t.fdiv g).natAbs:Int) < b.fdiv g:=by
 obtain⟨x,rfl⟩:=h1
 obtain⟨y,rfl⟩:=h2
 rw [Int.mul_fdiv_cancel_left _ (by omega),Int.mul_fdiv_cancel_left _ (by omega)]
 rw [Int.natAbs_mul] at h
 have e:((g.natAbs*x.natAbs:Nat):Int)=g*(x.natAbs:Int):=by rw [Int.natCast_mul]; congr 1; omega
 rw [e] at h
 exact Int.lt_of_mul_lt_mul_left h (by omega)
theorem g4x{a g:Int}(ha:0 < a)(hg:0 < g)(h:g∣a):0 < a.fdiv g:=by
 obtain⟨z,rfl⟩:=h
 rw [Int.mul_fdiv_cancel_left _ (by omega)]
 rcases Int.lt_or_le 0 z with h | h
 ·exact h
 ·exfalso
  have:=Int.mul_nonpos_of_nonneg_of_nonpos (a:=g) (by omega) h
  omega
theorem i7g{t b:Int}(t1:t.natAbs<=1000)(b1:1<=b)(b2:b<=1000):0 < Int.gcd (t.natAbs:Int) b/\CFd t (Int.gcd (t.natAbs:Int) b:Int)/\CFd b (Int.gcd (t.natAbs:Int) b:Int) /\
  ∃ y:Rat,YOk y/\y.num=t.fdiv (Int.gcd (t.natAbs:Int) b:Int)/\(y.den:Int)=b.fdiv (Int.gcd (t.natAbs:Int) b:Int)/\((t.natAbs:Int) < b->(y.num.natAbs:Int) < y.den):=by
 have gp:0 < Int.gcd (t.natAbs:Int) b:=Int.gcd_pos_of_ne_zero_right _ (by omega)
 have gl:(Int.gcd (t.natAbs:Int) b:Int)<=b:=Int.le_of_dvd (by omega) (Int.gcd_dvd_right _ _)
 have gd:(Int.gcd (t.natAbs:Int) b:Int)∣t:=by
  have:=Int.gcd_dvd_left (t.natAbs:Int) b
  exact Int.dvd_natAbs.mp this
 have gd2:(Int.gcd (t.natAbs:Int) b:Int)∣b:=Int.gcd_dvd_right _ _
 have ge:Int.gcd (t.natAbs:Int) b=Int.gcd t b:=by
  have:=h0h t b
  rw [<- this,show ((b.natAbs:Nat):Int)=b by omega]
 have cf:CFd t (Int.gcd (t.natAbs:Int) b:Int):=⟨by omega,Nat.le_trans (intBits_le_64 (by omega) (by omega)) (by decide)⟩
 have q1:=d7h (a:=t) (g:=(Int.gcd (t.natAbs:Int) b:Int)) (by omega) gd
 have q2:=d7h (a:=b) (g:=(Int.gcd (t.natAbs:Int) b:Int)) (by omega) gd2
 have q3:0 < b.fdiv (Int.gcd (t.natAbs:Int) b:Int):=g4x (by omega) (by omega) gd2
 have q4:Int.gcd (t.fdiv (Int.gcd (t.natAbs:Int) b:Int)) (b.fdiv (Int.gcd (t.natAbs:Int) b:Int))=1:=by
  rw [ge]
  have:=i9y (a:=t) (b:=b) (by omega)
  omega
 have d1:t.natAbs / (Int.gcd (t.natAbs:Int) b:Int).natAbs<=t.natAbs:=Nat.div_le_self _ _
 have d2:b.natAbs / (Int.gcd (t.natAbs:Int) b:Int).natAbs<=b.natAbs:=Nat.div_le_self _ _
 obtain⟨y,y1,y2⟩:=j2f (by omega:1<=b.fdiv (Int.gcd (t.natAbs:Int) b:Int)) q4
 refine⟨gp,cf,⟨cf.1,cf.2⟩,y,⟨by rw [y1]; omega,by omega⟩,y1,y2,fun z=>?_⟩
 rw [y1,y2]
 exact h5c (by omega) gd gd2 z
theorem j2j (T : Tx K mg A) : a1h P A.wd K mg base CX0 2 A.b2t A.b4v ["_law_top", "_law_bottom"] j5b := by
 have d7n:a1h P A.wd K mg base CX0 1 _ _ _ _:=g4w T
 refine T.b3h.ok f5j (fun vs H Q E h=>?_) (fun cdv A' outer s H vs Q E hr h=>?_)
 ·obtain⟨_,_,rfl,_⟩:=g0y (by unfold j5b at h; exact h)
  rfl
 ·obtain⟨t,b,rfl,⟨t1,b1,b2,q⟩⟩:=g0y (by unfold j5b at h; exact h)
  have hu:=hr.units
  have d3l:a2p 1 _:=hr.mono (by decide)
  obtain⟨gp,cf1,cf2,y,oy,y1,y2,yl⟩:=i7g t1 b1 b2
  have ge:Int.gcd (t.natAbs:Int) b=Int.gcd t b:=by
   have:=h0h t b
   rw [<- this,show ((b.natAbs:Nat):Int)=b by omega]
  rw [ge] at gp cf1 cf2 y1 y2
  refine⟨_,(a0j (a1n (i:=2) f5j.nd rfl (Or.inl rfl) (a0n d7n d3l (by rfl) T.f5u T.b4z.kp T.f5t .nil a0p (a0g (pvF 0) (a0g (pvF 1) a0h))))
   (a0k (a0r (a4u (a0g (a1l a5v (pvF 0) (pvF 2)) (a0g (a1l a5v (pvF 1) (pvF 2)) a0h)))))),?_⟩
  walk_at "rd"
  refine⟨cf1,cf2,fun p H1 n1 S1 h1=>q p y H1 n1 S1 ?_ oy yl⟩
  rw [h1]
  unfold a9v
  rw [y1,y2]
theorem i0d (T : Tx K mg A) : a1h P A.wd K mg base CX0 3 A.c1y A.c1z ["_law_mixed"] h7i := by
 have d2g:a1h P A.wd K mg base CX0 2 _ _ _ _:=j2j T
 refine T.b5g.ok h6f (fun vs H Q E h=>?_) (fun cdv A' outer s H vs Q E hr h=>?_)
 ·obtain⟨_,rfl,_⟩:=i2x (by unfold h7i at h; exact h)
  rfl
 ·obtain⟨m,rfl,q⟩:=i2x (by unfold h7i at h; exact h)
  have q:∀ p y H1,H p=none->Same H H1->H1 p=some (.tup (a9v y))->YOk y->Q (.ref p) H1:=q
  have hu:=hr.units
  have c7m:a2p 2 _:=hr.mono (by decide)
  have f1:=d1z (m.fdiv 2) (b:=9) (by decide)
  have f2:=d1z (m.fdiv 18) (b:=4) (by decide)
  have f3:=d1z (m.fdiv 2) (b:=2001) (by decide)
  have f4:=d1z (m.fdiv 4002) (b:=1000) (by decide)
  refine⟨_,(a0j (a3v (a1m (b0l hu) (a1l b0m (pvF 0) a0i) a0i (a2n _))
   (a0k (a0r (a0n d2g c7m (by rfl) T.d9m T.b3h.kp T.d9l .nil a0p (a0g (a1l f3s (a1l b0m (a1l a5v (pvF 0) a0i) a0i) a0i) (a0g (a1l a2z a0i (a1l b0m (a1l a5v (pvF 0) a0i) a0i)) a0h)))))
   a1k)
   (a0k (a0r (a0n d2g c7m (by rfl) T.d9m T.b3h.kp T.d9l .nil a0p (a0g (a1l f3s (a1l b0m (a1l a5v (pvF 0) a0i) a0i) a0i) (a0g (a1l a2z a0i (a1l b0m (a1l a5v (pvF 0) a0i) a0i)) a0h)))))),?_⟩
  walk_at "rd"
  split
  ·exact⟨⟨by decide,by decide⟩,⟨by decide,by decide⟩,by omega,by omega,by omega,fun p y H1 n S h oy _=>q p y H1 n S h oy⟩
  ·exact⟨⟨by decide,by decide⟩,⟨by decide,by decide⟩,by omega,by omega,by omega,fun p y H1 n S h oy _=>q p y H1 n S h oy⟩
theorem j5k (T : Tx K mg A) : a1h P A.wd K mg base CX0 3 A.b2u A.b4w ["_law_mixed"] i6f := by
 have d2g:a1h P A.wd K mg base CX0 2 _ _ _ _:=j2j T
 refine T.c5k.ok f5k (fun vs H Q E h=>?_) (fun cdv A' outer s H vs Q E hr h=>?_)
 ·obtain⟨_,rfl,_⟩:=i2x (by unfold i6f at h; exact h)
  rfl
 ·obtain⟨m,rfl,q⟩:=i2x (by unfold i6f at h; exact h)
  have q:∀ p y H1,H p=none->Same H H1->H1 p=some (.tup (a9v y))->YOk y->(y.num.natAbs:Int) < y.den->Q (.ref p) H1:=q
  have hu:=hr.units
  have c7m:a2p 2 _:=hr.mono (by decide)
  obtain⟨B,eB⟩:∃ B,2+(m.fdiv 2).fmod 999=B:=⟨_,rfl⟩
  have f1:=d1z (m.fdiv 2) (b:=999) (by decide)
  have f2:=d1z (m.fdiv 2000) (b:=2*B - 1) (by omega)
  refine⟨_,(a0j (a1n (i:=1) f5k.nd rfl (Or.inl rfl) (a1l a2z a0i (a1l b0m (a1l a5v (pvF 0) a0i) a0i)))
   (a0k (a0r (a0n d2g c7m (by rfl) T.d9m T.b3h.kp T.d9l .nil a0p (a0g (a1l a2z (a1l f3s (a1l b0m (a1l a5v (pvF 0) a0i) (a1l f3s (a1l a5l a0i (pvF 1)) a0i)) (pvF 1)) a0i) (a0g (pvF 1) a0h)))))),?_⟩
  walk_at "rd"
  rw [eB]
  refine ⟨⟨by decide, by decide⟩, ⟨by decide, by decide⟩, by walk_at "mul", by omega, by omega, by omega, by omega, fun p y H1 n S h oy yl => q p y H1 n S h oy (yl (by omega))⟩
theorem j0e (T : Tx K mg A) : a1h P A.wd K mg base CX0 4 A.b0h A.b1o ["_law_mixed"] h7j := by
 have c9h:a1h P A.wd K mg base CX0 3 _ _ _ _:=i0d T
 refine T.b9v.ok b6o (fun vs H Q E h=>?_) (fun cdv A' outer s H vs Q E hr h=>?_)
 ·obtain⟨_,rfl,_⟩:=i2x (by unfold h7j at h; exact h)
  rfl
 ·obtain⟨m,rfl,q⟩:=i2x (by unfold h7j at h; exact h)
  have q:∀ l ps cs H1,H l=none->Same H H1->H1 l=some (.lst (List.map V.ref ps))->Crn H1 ps cs->CsN cs->Q (.ref l) H1:=q
  have hu:=hr.units
  have c4j:a2p 3 _:=hr.mono (by decide)
  have f1:=d1z (m.fdiv 7) (b:=6) (by decide)
  have f2:=d1z (m.fdiv 42) (b:=4) (by decide)
  refine⟨_,(a0j (a1n (i:=1) b6o.nd rfl (Or.inl rfl) (d4u a0h))
   (a0j (a1n (i:=2) b6o.nd rfl (Or.inl rfl) (a1l b0m (a1l a5v (pvF 0) a0i) a0i))
   (a0j (b6j PassesOwn.never rfl (d3n (by rfl) T.g4b (a0g (a1l a2z a0i (a1l b0m (a1l a5v (pvF 0) a0i) a0i)) a0h)) (a5g (i:=3) b6o.nd rfl (Or.inl rfl))
   (a0j (b1t (b7j f0n PySem.F.plainAttrs_list PySem.F.slot_list_append PySem.F.type_list_append c7o (pvF 1) (a0g (a4u (a0g (pvF 2) (a0g (a0n c9h c4j (by rfl) T.d4s T.b5g.kp T.d4r .nil a0p (a0g (a1l a5v (pvF 0) (a1l a2z (pvF 3) a0i)) a0h)) a0h))) a0h)))
   (a0k (a1n (i:=2) b6o.nd rfl (Or.inl rfl) (a1l a2z (a1l a2z (pvF 2) a0i) (a1l b0m (a1l a5v (pvF 0) (a1l a2z a0i (pvF 3))) a0i))))))
   (a0k (a0r (pvF 1)))))),?_⟩
  walk_at "rd"
  refine⟨Nat.zero_le _,fun l H1 n1 S1 h1=>?_⟩
  walk_at "rd"
  obtain⟨B,eB⟩:∃ B,1+(m.fdiv 42).fmod 4=B:=⟨_,rfl⟩
  rw [eB]
  refine⟨⟨by decide,by decide⟩,⟨by decide,by decide⟩,by omega,by omega,?_⟩
  obtain⟨Pv,pin,pout⟩:=f6w (fun i σ H'=>∃ (v3:Option V) (at':Int) (ps:List Addr) (cs:List (Int×Rat)),σ = [some (.int m),some (.ref l),some (.int at'),v3]/\Same H H'/\H' l=some (.lst (ps.map V.ref))/\Crn H' ps cs/\cs.length=i/\0<=at'/\at'<=6+901*(i:Int) /\
   (∀ c∈cs,0<=c.1/\c.1 < at'/\YOk c.2)/\∀ (j:Nat) c d,cs[j]? = some c->cs[j+1]? = some d->c.1 < d.1)
  refine f6u (lo:=0) Pv (pin _ _ _ ⟨_,_,[],[],rfl,S1,h1,Crn.nil,rfl,by omega,by omega,(fun c hc=>by cases hc),fun j c d hc=>by simp at hc⟩) ?_ ?_
  ·intro i σ H2 hi hp
   obtain⟨v3,a,ps,cs,rfl,S2,h2,R2,L2',a0,a1,B2,A2⟩:=pout _ _ _ hp
   have pl:=R2.1
   have f3:=d1z (m.fdiv (50+(i:Int))) (b:=900) (by decide)
   clear h1
   walk_at "rd"
   rw [h2]
   refine⟨rfl,⟨by omega,Nat.le_trans (intBits_le_64 (by omega) (by omega)) (by decide)⟩,fun g y H3 n3 S3 h3 oy=>?_⟩
   have h23:=S3 _ _ h2
   refine fun p H4 n4 S4 h4=>?_
   have h24:=S4 _ _ h23
   clear h23 h2
   walk_at "rd*"
   refine⟨by rw [sizeLine_eq]; omega,?_⟩
   rintro _ H5 ⟨rfl,B5,h5⟩
   have R5:=(((R2.same S3).same S4).snoc h4 (S4 _ _ h3)).i6x h24 B5
   clear h24
   walk_at "rd"
   refine⟨⟨by omega,Nat.le_trans (intBits_le_64 (by omega) (by omega)) (by decide)⟩,?_⟩
   refine pin _ _ _ ⟨_,_,ps++[p],cs++[(a,y)],rfl,((S2.trans S3).trans S4).step n1 B5,by rw [h5,List.map_append]; rfl,R5,by rw [List.length_append,L2']; rfl,by omega,by omega,fun c hc=>?_,fun j c d hc hd=>?_⟩
   ·rcases List.mem_append.mp hc with z | z
    ·have:=B2 c z
     exact⟨this.1,by omega,this.2.2⟩
    ·rw [List.mem_singleton.mp z]
     exact⟨a0,by show a < _; omega,oy⟩
   ·have hj:=(List.getElem?_eq_some_iff.mp hd).1
    rw [List.length_append,List.length_singleton] at hj
    rw [List.getElem?_append_left (by omega)] at hc
    by_cases hz:j+1 < cs.length
    ·rw [List.getElem?_append_left hz] at hd
     exact A2 j c d hc hd
    ·rw [List.getElem?_append_right (by omega),show j+1 - cs.length=0 by omega] at hd
     cases hd
     exact (B2 c (List.mem_of_getElem? hc)).2.1
  ·intro σ H2 hp
   obtain⟨v3,a,ps,cs,rfl,S2,h2,R2,L2',a0,a1,B2,A2⟩:=pout _ _ _ hp
   walk_at "rd"
   exact q l ps cs H2 n1 S2 h2 R2 ⟨⟨fun c hc=>⟨(B2 c hc).1,by have:=(B2 c hc).2.1; omega,(B2 c hc).2.2⟩,A2,by omega,by omega⟩,fun c hc=>by have:=(B2 c hc).2.1; omega⟩
theorem CsN.okN{cs:List (Int×Rat)}(h:CsN cs):okN (.swell cs):=by
 refine⟨h.1,fun n hn=>?_⟩
 show h1q (cs.map fun c=>(c.1+(n:Int),c.2))
 obtain⟨⟨h1,h2,h3,h4⟩,h5⟩:=h
 refine⟨fun c hc=>?_,fun j c d hc hd=>?_,by rw [List.length_map]; exact h3,by rw [List.length_map]; exact h4⟩
 ·obtain⟨e,he,rfl⟩:=List.mem_map.mp hc
  have a:=h1 e he
  have b:=h5 e he
  exact⟨by show 0<=e.1+(n:Int); omega,by show e.1+(n:Int)<=_; omega,a.2.2⟩
 ·rw [List.getElem?_map] at hc hd
  obtain⟨e,he,rfl⟩:=Option.map_eq_some_iff.mp hc
  obtain⟨f,hf,rfl⟩:=Option.map_eq_some_iff.mp hd
  have:=h2 j e f he hf
  show e.1+(n:Int) < f.1+(n:Int)
  omega
theorem g0t(k:Int){n:Int}(h:0 < n):∃ j:Nat,k.fmod n=j/\(j:Int) < n:=by
 have h1:=Int.fmod_nonneg_of_pos k h
 have h2:=Int.fmod_lt_of_pos k h
 exact⟨(k.fmod n).toNat,by omega,by omega⟩
theorem g6d{c:TT}{a r:TS}{D:Ends}{σ:L2.St}{H:Hp}(b:Bool)(hc:∀ Q:Bool->Hp->Prop,Q b H->c σ H Q)(hy:b=true->∀ D':Ends,D'.rt=D.rt->a D' σ H)(hn:b=false->r D σ H):k4r (k4s c a j6o) r D σ H:=by
 refine hc _ ?_
 cases b with
 | true=>exact hy rfl _ rfl
 | false=>exact hn rfl
theorem j0f (T : Tx K mg A) : a1h P A.wd K mg base CX0 5 A.c2g A.c2h ["_law_cell"] h7k := by
 have c9h:a1h P A.wd K mg base CX0 3 _ _ _ _:=i0d T
 have h5d:a1h P A.wd K mg base CX0 3 _ _ _ _:=j5k T
 have h1f:a1h P A.wd K mg base CX0 4 _ _ _ _:=j0e T
 refine T.d3z.ok d5i (fun vs H Q E h=>?_) (fun cdv A' outer s H vs Q E hr h=>?_)
 ·obtain⟨_,rfl,_⟩:=i2x (by unfold h7k at h; exact h)
  rfl
 ·obtain⟨c,rfl,⟨bc,q⟩⟩:=i2x (by unfold h7k at h; exact h)
  have hu:=hr.units
  have c4j:a2p 3 _:=hr.mono (by decide)
  have h1g:a2p 3 _:=hr.mono (by decide)
  have g6e:a2p 4 _:=hr.mono (by decide)
  refine⟨_,(c5p (a1n (i:=1) d5i.nd rfl (Or.inl rfl) (a1l a5v (a1l b0m (a1l a5l (pvF 0) a0i) (a1l a2z (a1l f9p a0i a0i) a0i)) (a1l f9p a0i a0i)))
   (a0j (a1n (i:=2) d5i.nd rfl (Or.inl rfl) (a1l a2z a0i (a1l b0m (a1l a5v (pvF 1) (a1l f9p a0i a0i)) a0i)))
   (c5p (a1n (i:=3) d5i.nd rfl (Or.inl rfl) (a1l b0m (a1l a5v (pvF 1) (a1l f9p a0i a0i)) a0i))
   (a0j (a3v (a1m (b0l hu) (pvF 3) a0i (a2n _))
   (a0k (a0r (a4u (a0g a1z (a0g (a0n c9h c4j (by rfl) T.d4s T.b5g.kp T.d4r .nil a0p (a0g (pvF 1) a0h)) (a0g a0i (a0g a0i a0h)))))))
   a1k)
   (a0j (a3v (a1m (b0l hu) (pvF 3) a0i (a2n _))
   (a0k (a0r (a4u (a0g a1z (a0g (a4u (a0g a0i (a0g a0i a0h))) (a0g (a1l f3s (pvF 2) a0i) (a0g a0i a0h)))))))
   a1k)
   (a0j (a3v (pw_and (a1m (b0l hu) (pvF 3) a0i (a2n _)) (pw_and1 (a1m (b0l hu) (a1l b0m (a1l a5v (pvF 1) (a1l f9p a0i a0i)) a0i) a0i (a2n _)))).pt
   (a0k (a0r (a4u (a0g a1z (a0g (a0n c9h c4j (by rfl) T.d4s T.b5g.kp T.d4r .nil a0p (a0g (pvF 1) a0h)) (a0g (pvF 2) (a0g (a1l b0m (a1l a5v (pvF 1) (a1l f9p a0i a0i)) a0i) a0h)))))))
   a1k)
   (a0j (a3v (a1m (b0l hu) (pvF 3) a0i (a2n _))
   (a0k (a0r (a4u (a0g a1z (a0g (a0n c9h c4j (by rfl) T.d4s T.b5g.kp T.d4r .nil a0p (a0g (pvF 1) a0h)) (a0g (pvF 2) (a0g (a1l b0m (a1l a5v (pvF 1) (a1l f9p a0i a0i)) a0i) a0h)))))))
   a1k)
   (a0j (a3v (a1m (b0l hu) (pvF 3) a0i (a2n _))
   (a0k (a0r (a4u (a0g a1z (a0g (a0n c9h c4j (by rfl) T.d4s T.b5g.kp T.d4r .nil a0p (a0g (pvF 1) a0h)) (a0g (pvF 2) (a0g a0i a0h)))))))
   a1k)
   (a0j (a3v (a1m (b0l hu) (pvF 3) a0i (a2n _))
   (a0k (a0r (a4u (a0g a1z (a0g (a0n h5d h1g (by rfl) T.h4h T.c5k.kp T.h4g .nil a0p (a0g (pvF 1) a0h)) (a0g (pvF 2) (a0g a0i a0h)))))))
   a1k)
   (a0k (a0r (a4u (a0g a1z (a0g (a0n h1f g6e (by rfl) T.g9w T.b9v.kp T.g9v .nil a0p (a0g (pvF 1) a0h)) (a0g a0i (a0g a0i a0h)))))))))))))))),?_⟩
  obtain⟨Mid,min',mout⟩:=j8d (fun σ' H'=>∃ M:Int,σ' = [some (.int c),some (.int M),none,none]/\H'=H)
  refine⟨Mid,?_,?_⟩
  ·walk_at "rd"
   exact ⟨by walk_at "mul", by decide, by decide, ⟨by decide, by decide⟩, min' _ _ ⟨_, rfl, rfl⟩⟩
  intro σ' H' hm
  obtain⟨M,rfl,rfl⟩:=mout _ _ hm
  clear hm min' mout
  have f1:=d1z (M.fdiv 1000000000) (b:=1000) (by decide)
  have f2:=d1z (M.fdiv 10000000000000) (b:=6) (by decide)
  obtain⟨n,en⟩:∃ n:Nat,1+(M.fdiv 1000000000).fmod 1000=n:=⟨(1+(M.fdiv 1000000000).fmod 1000).toNat,by omega⟩
  obtain⟨k,ek⟩:∃ k:Int,(M.fdiv 10000000000000).fmod 6=k:=⟨_,rfl⟩
  obtain⟨Mid,min',mout⟩:=j8d (fun σ' H1=>σ' = [some (.int c),some (.int M),some (.int n),some (.int k)]/\H1=H')
  walk_at "rd"
  refine⟨by decide,⟨by decide,by decide⟩,Mid,?_,?_⟩
  ·walk_at "rd"
   rw [en,ek]
   exact⟨by decide,⟨by decide,by decide⟩,min' _ _ ⟨rfl,rfl⟩⟩
  intro σ' H1 hm
  obtain⟨rfl,rfl⟩:=mout _ _ hm
  clear hm min' mout
  have f3:=d1z (M.fdiv 10000000) (b:=12) (by decide)
  have f4:=d1z (M.fdiv 100000000) (b:=17) (by decide)
  have f5:=d1z (M.fdiv 100000000) (b:=4) (by decide)
  have n1:1<=n:=by omega
  have n2':n<=1000:=by omega
  have k5:k=0\/k=1\/k=2\/k=3\/k=4\/k=5:=by omega
  clear en ek f1 f2
  clear f3 f4 f5 k5
  have gn:∀ {u p:Addr} {Hx:Hp} {k m t:V},Hx u=some (.tup [k,.ref p,m,t])->H1 p=none->∀ g k m t,Hx u=some (.tup [k,.ref g,m,t])->H1 g=none:=fun h n g k m t e=>by
   rw [h] at e
   cases e
   exact n
  have q':=(id q:id _)
  clear q
  have c7:CFd M 10000000:=⟨by decide,by decide⟩
  have c8:CFd M 100000000:=⟨by decide,by decide⟩
  refine g6d (decide (k = 0)) (fun Qb h => by walk_at "rd"; exact h) (fun hk D' hD => ?_) fun hk => ?_
  ·walk_at "rd"
   rw [hD]
   refine fun p y H2 n2 S2 h2 oy=>⟨by decide,fun u H3 n3 S3 h3=>?_⟩
   have q:∀ p d Hx,H1 p=none->Same H1 Hx->LPt Hx p d->(∀ g k m t,Hx p=some (.tup [k,.ref g,m,t])->H1 g=none)->okN d->Q (.ref p) Hx:=q'
   exact q u (.gain y) H3 (S2.free n3) (S2.trans S3) ⟨p,h3,S3 _ _ h2⟩ (gn h3 n2) ⟨oy,fun n _=>oy⟩
  refine g6d (decide (k = 1)) (fun Qb h => by walk_at "rd"; exact h) (fun hk D' hD => ?_) fun hk => ?_
  ·walk_at "rd"
   rw [hD]
   refine fun p H2 n2 S2 h2=>?_
   walk_at "rd"
   refine⟨by decide,fun u H3 n3 S3 h3=>?_⟩
   rw [show (n:Int) - 1=((n - 1:Nat):Int) by omega] at h3
   have q:∀ p d Hx,H1 p=none->Same H1 Hx->LPt Hx p d->(∀ g k m t,Hx p=some (.tup [k,.ref g,m,t])->H1 g=none)->okN d->Q (.ref p) Hx:=q'
   have ok:n - 1<=1000:=by omega
   exact q u (.delay (n - 1)) H3 (S2.free n3) (S2.trans S3) ⟨p,h3,S3 _ _ h2⟩ (gn h3 n2) ⟨ok,fun n _=>ok⟩
  have ec : ∀ (w : Int) (t : Nat), w = t → t ≤ 16 → ∀ (D' : Ends), D'.rt = Q → ∀ (p : Addr) (y : Rat) (H2 : Hp), H1 p = none → Same H1 H2 → H2 p = some (.tup (a9v y)) → YOk y → New H2 (.tup [.str (Str.ofString "echo"), .ref p, .int n, .int w]) D'.rt ⟨⟩ := fun w t e tl D' hD p y H2 n2 S2 h2 oy u H3 n3 S3 h3 => by
   subst e
   rw [hD]
   have q:∀ p d Hx,H1 p=none->Same H1 Hx->LPt Hx p d->(∀ g k m t,Hx p=some (.tup [k,.ref g,m,t])->H1 g=none)->okN d->Q (.ref p) Hx:=q'
   exact q u (.echo y n t) H3 (S2.free n3) (S2.trans S3) ⟨p,h3,S3 _ _ h2⟩ (gn h3 n2) ⟨⟨oy,n1,n2',tl⟩,fun _ _=>⟨oy,n1,n2',tl⟩⟩
  refine g6d (decide (k=2) && decide ((M.fdiv 10000000).fmod 12=0)) (fun Qb h=>?_) (fun hk D' hD=>?_) fun hk=>?_
  ·walk_at "rd*"
   split
   ·rename_i h2
    rw [decide_eq_true h2] at h
    exact⟨by decide,h⟩
   ·rename_i h2
    rw [decide_eq_false h2] at h
    exact h
  ·walk_at "rd*"
   obtain⟨t,et,tl⟩:=g0t (M.fdiv 100000000) (n:=17) (by decide)
   exact fun p y H2 n2 S2 h2 oy=>⟨by decide,by decide,ec _ t et (by omega) D' hD p y H2 n2 S2 h2 oy⟩
  refine g6d (decide (k = 2)) (fun Qb h => by walk_at "rd"; exact h) (fun hk D' hD => ?_) fun hk => ?_
  ·walk_at "rd*"
   obtain⟨t,et,tl⟩:=g0t (M.fdiv 100000000) (n:=4) (by decide)
   exact fun p y H2 n2 S2 h2 oy=>⟨by decide,by decide,ec _ t et (by omega) D' hD p y H2 n2 S2 h2 oy⟩
  refine g6d (decide (k = 3)) (fun Qb h => by walk_at "rd"; exact h) (fun hk D' hD => ?_) fun hk => ?_
  ·walk_at "rd"
   rw [hD]
   refine fun p y H2 n2 S2 h2 oy=>⟨by decide,fun u H3 n3 S3 h3=>?_⟩
   have q:∀ p d Hx,H1 p=none->Same H1 Hx->LPt Hx p d->(∀ g k m t,Hx p=some (.tup [k,.ref g,m,t])->H1 g=none)->okN d->Q (.ref p) Hx:=q'
   exact q u (.back y n) H3 (S2.free n3) (S2.trans S3) ⟨p,h3,S3 _ _ h2⟩ (gn h3 n2) ⟨⟨oy,n1,n2'⟩,fun _ _=>⟨oy,n1,n2'⟩⟩
  refine g6d (decide (k = 4)) (fun Qb h => by walk_at "rd"; exact h) (fun hk D' hD => ?_) fun hk => ?_
  ·walk_at "rd"
   rw [hD]
   refine fun p y H2 n2 S2 h2 oy yl=>⟨by decide,fun u H3 n3 S3 h3=>?_⟩
   have q:∀ p d Hx,H1 p=none->Same H1 Hx->LPt Hx p d->(∀ g k m t,Hx p=some (.tup [k,.ref g,m,t])->H1 g=none)->okN d->Q (.ref p) Hx:=q'
   exact q u (.hall y n) H3 (S2.free n3) (S2.trans S3) ⟨p,h3,S3 _ _ h2⟩ (gn h3 n2) ⟨⟨oy,yl,n1,n2'⟩,fun _ _=>⟨oy,yl,n1,n2'⟩⟩
  walk_at "rd"
  refine fun l ps cs H2 n2 S2 h2 R2 ok=>⟨by decide,fun u H3 n3 S3 h3=>?_⟩
  have q:∀ p d Hx,H1 p=none->Same H1 Hx->LPt Hx p d->(∀ g k m t,Hx p=some (.tup [k,.ref g,m,t])->H1 g=none)->okN d->Q (.ref p) Hx:=q'
  exact q u (.swell cs) H3 (S2.free n3) (S2.trans S3) ⟨l,ps,h3,S3 _ _ h2,R2.same S3⟩ (gn h3 n2) ok.okN
theorem f0k(x:Str):Str.empty++x=x:=a9p (by rw [a3r]; rfl)
theorem k1d (y : Rat) : Str.ofString "gain:" ++ fW y = (Dt.gain y).word := by rw [← i4s, f0k]
theorem j5l (n : Nat) : Str.ofString "delay:" ++ nW n = (Dt.delay n).word := by rw [← h5v, f0k]
theorem k1e (y : Rat) (n t : Nat) : Str.ofString "echo:" ++ fW y ++ Str.ofString ":" ++ nW n ++ Str.ofString ":" ++ nW t = (Dt.echo y n t).word := by rw [← i4t, f0k]
theorem k1f (y : Rat) (n : Nat) : Str.ofString "back" ++ Str.ofString ":" ++ fW y ++ Str.ofString ":" ++ nW n = (Dt.back y n).word := by
 rw [← i4u, f0k, show Str.ofString "back" ++ Str.ofString ":" = Str.ofString "back:" from a9p (by rw [a3r, j1j, h3b])]
theorem k1g (y : Rat) (n : Nat) : Str.ofString "hall" ++ Str.ofString ":" ++ fW y ++ Str.ofString ":" ++ nW n = (Dt.hall y n).word := by
 rw [← i4v, f0k, show Str.ofString "hall" ++ Str.ofString ":" = Str.ofString "hall:" from a9p (by rw [a3r, j1k, h3b])]
theorem j5m (cs : List (Int × Rat)) : Str.ofString "swell:" ++ Txt.join (Str.ofString ",") (cs.map cW) = (Dt.swell cs).word := by rw [← h5w, f0k]
theorem j0g{a b:TS}{D:Ends}{σ:L2.St}{H:Hp}(h:a { D with nx:=b D } σ H):k5n a b D σ H:=⟨b D,h,fun _ _ h=>h⟩
theorem k4l (k : Str) (y : Rat) : k ++ Str.ofString ":" ++ Str.ofString (toString y.num) ++ Str.ofString "/" ++ Str.ofString (toString (y.den : Int)) = k ++ Str.ofString ":" ++ fW y := a9p (by
 unfold fW
 simp only [a3r,f0k,List.append_assoc])
theorem LPt.gn4 {H : Hp} {p : Addr} {d : Dt} (h : LPt H p d) (ok : d.ok) : Gn4 H p d ∨ (∃ n g, d = .delay n ∧ n ≤ 1000 ∧ H p = some (.tup [.str "delay", .ref g, .int n, .int 0]) ∧ H g = some (.tup (a9v 1))) ∨ ∃ cs g ps, d = .swell cs ∧ h1q cs ∧ H p = some (.tup [.str "swell", .ref g, .int 0, .int 0]) ∧ H g = some (.lst (List.map V.ref ps)) ∧ Crn H ps cs := by
 cases d with
 | gain y =>
  obtain⟨g,h1,h2⟩:=h
  refine .inl ⟨_,g,y,0,0,h1,h2,ok,by decide,by decide,by decide +kernel,by decide +kernel,by decide +kernel,?_,fun _=>rfl⟩
  unfold tlW
  rw [if_neg (by decide +kernel),if_pos rfl,<- k1d]
  exact a9p (by simp only [a3r]; rfl)
 | delay n=>obtain⟨g,h1,h2⟩:=h; exact .inr (.inl ⟨n,g,rfl,ok,h1,h2⟩)
 | echo y n t =>
  obtain⟨g,h1,h2⟩:=h
  refine .inl ⟨_,g,y,n,t,h1,h2,ok.1,ok.2.2.1,ok.2.2.2,by decide +kernel,by decide +kernel,by decide +kernel,?_,fun _=>rfl⟩
  unfold tlW
  rw [if_pos rfl,if_neg (by decide +kernel),<- k1e]
  exact a9p (by simp only [a3r]; rfl)
 | back y n =>
  obtain⟨g,h1,h2⟩:=h
  refine .inl ⟨_,g,y,n,0,h1,h2,ok.1,ok.2.2,by decide,by decide +kernel,by decide +kernel,by decide +kernel,?_,fun _=>rfl⟩
  unfold tlW
  rw [if_neg (by decide +kernel),if_neg (by decide +kernel),<- k1f]
 | hall y n =>
  obtain⟨g,h1,h2⟩:=h
  refine .inl ⟨_,g,y,n,0,h1,h2,ok.1,ok.2.2.2,by decide,by decide +kernel,by decide +kernel,by decide +kernel,?_,fun _=>rfl⟩
  unfold tlW
  rw [if_neg (by decide +kernel),if_neg (by decide +kernel),<- k1g]
 | swell cs=>obtain⟨g,ps,h1,h2,h3⟩:=h; exact .inr (.inr ⟨cs,g,ps,rfl,ok,h1,h2,h3⟩)
theorem i0e (T : Tx K mg A) : a1h P A.wd K mg base CX0 1 A.c2i A.c2j ["_law_part_here", "_law_n"] h7l := by
 refine T.c2z.ok b2m (fun vs H Q E h=>?_) (fun cdv A' outer s H vs Q E hr h=>?_)
 ·obtain⟨_,_,rfl,_⟩:=d3t (by unfold h7l at h; exact h)
  rfl
 ·obtain⟨p,m,rfl,⟨n,d,em,n2,hp,ok,q⟩⟩:=d3t (by unfold h7l at h; exact h)
  subst em
  have hu:=hr.units
  have hs:sizeLine=16777216:=sizeLine_eq
  have ec : (Str.ofString ":").length = 1 := by decide +kernel
  have es : (Str.ofString "/").length = 1 := by decide +kernel
  refine⟨_,(a0j (j0l (pvF 0) (f7h (n:=4) rfl (a6r (a5g (i:=2) b2m.nd rfl (Or.inl rfl)) (a6r (a5g (i:=3) b2m.nd rfl (Or.inl rfl)) (a6r (a5g (i:=4) b2m.nd rfl (Or.inl rfl)) (a6r (a5g (i:=5) b2m.nd rfl (Or.inl rfl)) f0o))))))
   (a0j (a3v (a1m (b0l hu) (pvF 2) a1z (a2n _))
   (a0k (a0r (a1l a2z a1z (b7j a8g PySem.F.plainAttrs_str PySem.F.slot_str_join PySem.F.type_str_join h8w a1z (a0g (h8u (a5q (pvF 3)) (fun _ _ _ _ _ => (a1l a2z (a1l a2z (a1l a2z (a1l a2z (a5h c4y (by rfl) T.g0z boot_str (a0g (a1l a2z (pvF 0) (pvF 3)) a0h)) a1z) (a5h c4y (by rfl) T.g0z boot_str (a0g (a0v a3s (pvF 1) a0i (fun _ _ => rfl)) a0h))) a1z) (a5h c4y (by rfl) T.g0z boot_str (a0g (a0v a3s (pvF 1) a0i (fun _ _ => rfl)) a0h)))) (j1h (sc := a0l f7j) (N := ["_law_part_here", "_law_n", "_law_kind", "_law_gain_here", "_law_many", "_law_turns", "_law_word_here"]) rfl rfl (by decide +kernel)) rfl) a0h)))))
   a1k)
   (a0j (a3v (a1m (b0l hu) (pvF 2) a1z (a2n _))
   (a0k (a0r (a1l a2z a1z (a5h c4y (by rfl) T.g0z boot_str (a0g (pvF 4) a0h)))))
   a1k)
   (a0j (a1n (i:=6) b2m.nd rfl (Or.inl rfl) (a1l a2z (a1l a2z (a1l a2z (a1l a2z (pvF 2) a1z) (a5h c4y (by rfl) T.g0z boot_str (a0g (a0v a3s (pvF 3) a0i (fun _ _=>rfl)) a0h))) a1z) (a5h c4y (by rfl) T.g0z boot_str (a0g (a0v a3s (pvF 3) a0i (fun _ _=>rfl)) a0h))))
   (c5p (a3v (a1m (b7i hu) (pvF 2) a1z (a2n _))
   (a0k (a1n (i:=6) b2m.nd rfl (Or.inl rfl) (a1l a2z (a1l a2z (pvF 6) a1z) (a5h c4y (by rfl) T.g0z boot_str (a0g (pvF 4) a0h)))))
   a1k)
   (c5p (a3v (a1m (b0l hu) (pvF 2) a1z (a2n _))
   (a0k (a1n (i:=6) b2m.nd rfl (Or.inl rfl) (a1l a2z (a1l a2z (pvF 6) a1z) (a5h c4y (by rfl) T.g0z boot_str (a0g (pvF 5) a0h)))))
   a1k)
   (a0k (a0r (pvF 6))))))))),?_⟩
  rcases hp.gn4 ok.1 with ⟨ks,g,y,n',t,hp,hg,oy,nl,tl,k1,k2,kl,ew,es'⟩ | ⟨n',g,rfl,nl,hp,hg⟩ | ⟨cs,g,ps,rfl,okc,hp,hg,R⟩
  ·have q0:Q (.str (tlW ks y n' t)) H:=by
    have z:=q H (Same.refl _)
    rw [es' n,ew] at z
    exact z
   have e1:=eq_false k1
   have e2:=eq_false k2
   unfold a9v at hg
   have g1:=b9m (intBits_le_iff.mp oy.b.1) (by decide)
   have g2:=b9m (intBits_le_iff.mp oy.b.2) (by decide)
   have a:=b9n (intBits_le_iff.mp oy.b.1) (by decide)
   have c:=b9n (intBits_le_iff.mp oy.b.2) (by decide)
   have fl:=f3y oy.b.1 oy.b.2
   have q0':=(id q0:id _)
   have ew':=(id ew:id _)
   clear q q0 k1 k2 ew
   walk_at "rd*"
   simp only [strLen_append,ec,es]
   refine⟨by omega,by omega,by omega,by omega,by omega,by omega,?_⟩
   rw [k4l]
   have q:Q (.str (tlW ks y n' t)) H:=q0'
   have kf : (ks ++ Str.ofString ":" ++ fW y).length ≤ 40 := by rw [strLen_append, strLen_append, ec]; omega
   have nl2:=f3w (n:=n') (by omega)
   have tl2:=f3w (n:=t) (by omega)
   have g3:=b9m (t:=(n':Int)) (n:=20) (by omega) (by decide)
   have g4:=b9m (t:=(t:Int)) (n:=20) (by omega) (by decide)
   unfold tlW at q
   unfold nW at nl2 tl2 q
   generalize ks ++ Str.ofString ":" ++ fW y = x at kf q ⊢
   have q0:=(id q:id _)
   clear q q0' hp hg
   refine j0g ?_
   by_cases h1 : ks = Str.ofString "gain"
   ·have h1':=eq_true h1
    have h2 : (ks = Str.ofString "echo") = False := eq_false (by rw [h1]; decide +kernel)
    clear h1
    walk_at "rd*"
    refine j0g ?_
    walk_at "rd*"
    have q:Q (.str _) H:=q0
    rw [if_neg (of_eq_false h2),if_pos (of_eq_true h1')] at q
    exact q
   ·have h1':=eq_false h1
    clear h1
    walk_at "rd*"
    refine⟨by omega,by omega,by simp only [strLen_append,ec]; omega,j0g ?_⟩
    by_cases h2 : ks = Str.ofString "echo"
    ·have h2':=eq_true h2
     clear h2
     walk_at "rd*"
     refine⟨by simp only [strLen_append,ec]; omega,by omega,by simp only [strLen_append,ec]; omega,?_⟩
     have q:Q (.str _) H:=q0
     rw [if_pos (of_eq_true h2'),if_neg (of_eq_false h1')] at q
     exact q
    ·have h2':=eq_false h2
     clear h2
     walk_at "rd*"
     have q:Q (.str _) H:=q0
     rw [if_neg (of_eq_false h2'),if_neg (of_eq_false h1')] at q
     exact q
  ·obtain ⟨ks, eks⟩ : ∃ ks : Str, ks = Str.ofString "delay" := ⟨_, rfl⟩
   have q0:=(id (q H (Same.refl _)):id _)
   have e1 : (ks = Str.ofString "swell") = False := eq_false (by rw [eks]; decide +kernel)
   have e2:=eq_true eks
   rw [<- eks] at hp
   have nl2:=f3w (n:=n') (by omega)
   have g3:=b9m (t:=(n':Int)) (n:=20) (by omega) (by decide)
   have l6 : (Str.ofString "delay:").length = 6 := by decide +kernel
   unfold nW at nl2
   clear eks q
   walk_at "rd*"
   refine⟨by omega,by omega,?_⟩
   have q:Q (.str (Dt.delay n').word) H:=q0
   rw [<- j5l] at q
   exact q
  ·obtain ⟨ks, eks⟩ : ∃ ks : Str, ks = Str.ofString "swell" := ⟨_, rfl⟩
   have q0:=(id q:id _)
   have e2:=eq_true eks
   rw [<- eks] at hp
   clear eks q
   walk_at "rd*"
   have okn:h1q (cs.map fun c=>(c.1+(n:Int),c.2)):=ok.2 n n2
   have sl : (Str.ofString "swell:").length = 6 := by decide +kernel
   have e1 : (Str.ofString "=").length = 1 := by decide +kernel
   have e3 : (Str.ofString ",").length = 1 := by decide +kernel
   have pl:=R.1
   have L12:=okc.2.2.2
   have cl:=okn.len
   have jl : (Txt.join (Str.ofString ",") ((cs.map fun c => (c.1 + (n : Int), c.2)).map cW)).length ≤ 600 := by
    rw [i9f,i4r]
    exact okn.k1s
   have jo : JoinOk (Str.ofString ",") ((cs.map fun c => (c.1 + (n : Int), c.2)).map cW) = true := joinOk_of (n := 45) (fun y hy => by obtain ⟨c, hc, rfl⟩ := List.mem_map.mp hy; exact cl c hc) (by rw [List.length_map, List.length_map, e3, hs]; omega)
   refine⟨⟨_,SqL.of hg⟩,fun D H1 nD S1 h1=>?_⟩
   refine h5t (xs:=ps.map V.ref) (fun i zs H'=>Same H H'/\H' D=some (.lst zs)/\zs=(((cs.map fun c=>(c.1+(n:Int),c.2)).map cW).map V.str).take i) ⟨S1,h1,rfl⟩ (by rw [List.length_map,hs]; omega) ?_ ?_ ?_
   ·intro i zs H' hi ⟨S',h',ez⟩
    rw [List.length_map] at hi
    exact⟨h',SqL.of (S' _ _ hg),by rw [ez,List.length_take,List.length_map,List.length_map,List.length_map]; omega⟩
   ·intro i x zs H' hx ⟨S',h',ez⟩
    obtain⟨p',c,gg,rfl,hc,hp',hgg⟩:=R.get hx
    obtain⟨c0,c1,cy⟩:=okc.1 c (List.mem_of_getElem? hc)
    have cb:=okn.1 _ (List.mem_map.mpr ⟨c,List.mem_of_getElem? hc,rfl⟩)
    have cb2:c.1+(n:Int)<=100000:=cb.2.1
    have ca:=b9n (t:=c.1+(n:Int)) (n:=20) (by omega) (by decide)
    have cg:=b9m (t:=c.1+(n:Int)) (n:=20) (by omega) (by decide)
    have g1:=b9m (intBits_le_iff.mp cy.b.1) (by decide)
    have g2:=b9m (intBits_le_iff.mp cy.b.2) (by decide)
    have a1:=b9n (intBits_le_iff.mp cy.b.1) (by decide)
    have a2:=b9n (intBits_le_iff.mp cy.b.2) (by decide)
    have hgg':=S' _ _ hgg
    unfold a9v at hgg'
    refine⟨p',.int c.1,.ref gg,rfl,S' _ _ hp',?_⟩
    clear hp hg hgg hp' hx
    walk_at "rd*"
    simp only [strLen_append]
    refine⟨by omega,by omega,by omega,by omega,by omega,by omega,by omega,fun H3 B3 h3=>⟨S'.step nD B3,h3,?_⟩⟩
    rw [List.take_add_one,List.getElem?_map,List.getElem?_map,List.getElem?_map,hc]
    show _++[V.str _]=_++[V.str (cW (c.1+(n:Int),c.2))]
    congr 3
    exact a9p (by unfold cW fW; simp only [a3r,f0k,List.append_assoc])
   ·intro zs H2 ⟨S2,h2,ez⟩
    rw [List.length_map,pl,List.take_of_length_le (by rw [List.length_map,List.length_map,List.length_map]; exact Nat.le_refl _)] at ez
    subst ez
    clear h1 hg hp
    walk_at "rd*"
    refine⟨_,rfl,jo,by omega,?_⟩
    rw [j5m]
    have q:∀ H1,Same H H1->Q (.str (b6q n (.swell cs)).word) H1:=q0
    exact q H2 S2
theorem k1h{p q:Int}(hq:1<=q):∀ t:Nat,((g7q p q t).map fun f=>(f.natAbs:Int)).sum=ewT p q t:=by
 have fa:∀ (t j:Nat),((j9q p q t j).natAbs:Int)=(p.natAbs:Int) ^ j*q ^ (t - j):=fun t j=>by
  unfold j9q
  have qp:0<=q ^ (t - j):=Int.le_of_lt (Int.pow_pos (by omega))
  rw [Int.natAbs_mul,Int.natCast_mul,Int.natAbs_pow,Int.natCast_pow]
  congr 1
  omega
 have key:∀ t:Nat,((List.range (t+1)).map fun j=>(p.natAbs:Int) ^ j*q ^ (t - j)).sum=ewT p q t:=fun t=>by
  induction t with
  | zero =>
   rw [show List.range (0+1) = [0] from rfl]
   simp [ewT]
  | succ t ih =>
   rw [List.range_succ_eq_map,List.map_cons,List.sum_cons,List.map_map,ewT,<- ih]
   have e:(List.range (t+1)).map ((fun j=>(p.natAbs:Int) ^ j*q ^ (t+1 - j))∘Nat.succ)=(List.range (t+1)).map fun j=>(p.natAbs:Int) ^ j*q ^ (t - j)*(p.natAbs:Int):=by
    refine List.map_congr_left fun j _=>?_
    show (p.natAbs:Int) ^ (j+1)*q ^ (t+1 - (j+1))=_
    rw [Int.pow_succ,show t+1 - (j+1)=t - j by omega]
    grind
   have m:∀ (l:List Nat) (f:Nat->Int) (c:Int),(l.map fun j=>f j*c).sum=(l.map f).sum*c:=fun l f c=>by
    induction l with
    | nil=>simp
    | cons x l ih=>rw [List.map_cons,List.map_cons,List.sum_cons,List.sum_cons,ih,Int.add_mul]
   rw [e,m,Int.pow_zero,Int.one_mul,Nat.sub_zero,Int.pow_succ]
   omega
 intro t
 rw [<- key t]
 unfold g7q
 rw [List.map_map]
 exact congrArg List.sum (List.map_congr_left fun j _=>fa t j)
theorem h8b{p q:Int}(bp:intBits p<=10)(bq:intBits q<=10):∀ t:Nat,intBits (ewT p q t)<=2+12*t
 | 0=>by
  show intBits 1<=2
  decide
 | t+1=>by
  have i:=h8b bp bq t
  have h1:=intBits_mul_le i (intBits_natAbs_le bp)
  have h2:=intBits_mul_le (c0l bq t) bq
  have:=intBits_add_le h1 h2
  rw [ewT]
  omega
theorem LPt.gw {H : Hp} {p : Addr} {d : Dt} (h : LPt H p d) (ok : d.ok) (ns : ∀ cs, d ≠ .swell cs) : ∃ (ks : Str) (g : Addr) (y : Rat) (n t : Nat), H p = some (.tup [.str ks, .ref g, .int n, .int t]) ∧ H g = some (.tup (a9v y)) ∧ YOk y ∧ t ≤ 16 ∧ ks ≠ Str.ofString "swell" ∧
  (ks = Str.ofString "hall" → (y.num.natAbs : Int) < y.den ∧ h0g d = Rat.divInt y.den (y.den - (y.num.natAbs : Int))) ∧ (ks = Str.ofString "back" → h0g d = 1 + Rat.abs y) ∧ (ks = Str.ofString "echo" → h0g d = Rat.divInt ((g7q y.num (y.den : Int) t).map fun f => (f.natAbs : Int)).sum ((y.den : Int) ^ t)) ∧
  (ks ≠ Str.ofString "hall" → ks ≠ Str.ofString "back" → ks ≠ Str.ofString "echo" → h0g d = Rat.abs y) := by
 cases d with
 | gain y=>obtain⟨g,h1,h2⟩:=h; exact⟨_,g,y,0,0,h1,h2,ok,by decide,by decide +kernel,(fun e=>absurd e (by decide +kernel)),(fun e=>absurd e (by decide +kernel)),(fun e=>absurd e (by decide +kernel)),fun _ _ _=>rfl⟩
 | delay n=>obtain⟨g,h1,h2⟩:=h; exact⟨_,g,1,n,0,h1,h2,⟨by decide,by decide⟩,by decide,by decide +kernel,(fun e=>absurd e (by decide +kernel)),(fun e=>absurd e (by decide +kernel)),(fun e=>absurd e (by decide +kernel)),fun _ _ _=>rfl⟩
 | echo y n t=>obtain⟨g,h1,h2⟩:=h; exact⟨_,g,y,n,t,h1,h2,ok.1,ok.2.2.2,by decide +kernel,(fun e=>absurd e (by decide +kernel)),(fun e=>absurd e (by decide +kernel)),(fun _=>rfl),fun _ _ e=>absurd rfl e⟩
 | back y n=>obtain⟨g,h1,h2⟩:=h; exact⟨_,g,y,n,0,h1,h2,ok.1,by decide,by decide +kernel,(fun e=>absurd e (by decide +kernel)),(fun _=>rfl),(fun e=>absurd e (by decide +kernel)),fun _ e=>absurd rfl e⟩
 | hall y n=>obtain⟨g,h1,h2⟩:=h; exact⟨_,g,y,n,0,h1,h2,ok.1,by decide,by decide +kernel,(fun _=>⟨ok.2.1,rfl⟩),(fun e=>absurd e (by decide +kernel)),(fun e=>absurd e (by decide +kernel)),fun e=>absurd rfl e⟩
 | swell cs=>exact absurd rfl (ns cs)
theorem j5n (T : Tx K mg A) : a1h P A.wd K mg base CX0 1 A.b2v A.b4y ["_law_part_here"] i6g := by
 refine T.c5l.ok a4w (fun vs H Q E h=>?_) (fun cdv A' outer s H vs Q E hr h=>?_)
 ·obtain⟨_,rfl,_⟩:=a6y (by unfold i6g at h; exact h)
  rfl
 ·obtain⟨p,rfl,⟨d,hp,ok,q⟩⟩:=a6y (by unfold i6g at h; exact h)
  have hu:=hr.units
  refine⟨_,(c5p (j0l (pvF 0) (f7h (n:=4) rfl (a6r (a5g (i:=1) a4w.nd rfl (Or.inl rfl)) (a6r (a5g (i:=2) a4w.nd rfl (Or.inl rfl)) (a6r (a5g (i:=3) a4w.nd rfl (Or.inl rfl)) (a6r (a5g (i:=4) a4w.nd rfl (Or.inl rfl)) f0o))))))
   (a0j (a3v (a1m (b0l hu) (pvF 1) a1z (a2n _))
   (a0j (a1n (i:=5) a4w.nd rfl (Or.inl rfl) (a4u (a0g a0i (a0g a0i a0h))))
   (a0j (b6j PassesOwn.never rfl (a5q (pvF 2)) (f7h (n:=2) rfl (a6r (a5g (i:=6) a4w.nd rfl (Or.inl rfl)) (a6r (a5g (i:=7) a4w.nd rfl (Or.inl rfl)) f0o)))
   (a0k (a3v (a1m d7w (a1l a5l (a0z a5y (by rfl) T.d9n boot_abs (a0g (a0v a3s (pvF 7) a0i (fun _ _=>rfl)) a0h)) (a0v a3s (pvF 5) a0i (fun _ _=>rfl))) (a1l a5l (a0v a3s (pvF 5) a0i (fun _ _=>rfl)) (a0v a3s (pvF 7) a0i (fun _ _=>rfl))) (a2n _))
   (a0k (a1n (i:=5) a4w.nd rfl (Or.inl rfl) (a4u (a0g (a0z a5y (by rfl) T.d9n boot_abs (a0g (a0v a3s (pvF 7) a0i (fun _ _=>rfl)) a0h)) (a0g (a0v a3s (pvF 7) a0i (fun _ _=>rfl)) a0h)))))
   a1k)))
   (a0k (a0r (pvF 5)))))
   a1k)
   (a0j (a3v (a1m (b0l hu) (pvF 1) a1z (a2n _))
   (a0k (a0r (a4u (a0g (a0v a3s (pvF 2) a0i (fun _ _=>rfl)) (a0g (a1l f3s (a0v a3s (pvF 2) a0i (fun _ _=>rfl)) (a0z a5y (by rfl) T.d9n boot_abs (a0g (a0v a3s (pvF 2) a0i (fun _ _=>rfl)) a0h))) a0h)))))
   a1k)
   (a0j (a3v (a1m (b0l hu) (pvF 1) a1z (a2n _))
   (a0k (a0r (a4u (a0g (a1l a2z (a0v a3s (pvF 2) a0i (fun _ _=>rfl)) (a0z a5y (by rfl) T.d9n boot_abs (a0g (a0v a3s (pvF 2) a0i (fun _ _=>rfl)) a0h))) (a0g (a0v a3s (pvF 2) a0i (fun _ _=>rfl)) a0h)))))
   a1k)
   (a0j (a1n (i:=8) a4w.nd rfl (Or.inl rfl) (a4u (a0g (a0z a5y (by rfl) T.d9n boot_abs (a0g (a0v a3s (pvF 2) a0i (fun _ _=>rfl)) a0h)) (a0g (a0v a3s (pvF 2) a0i (fun _ _=>rfl)) a0h))))
   (c5p (a3v (a1m (b0l hu) (pvF 1) a1z (a2n _))
   (a0j (a1n (i:=8) a4w.nd rfl (Or.inl rfl) (a4u (a0g a0i (a0g a0i a0h))))
   (a0k (b6j PassesOwn.never rfl (d3n (by rfl) T.g4b (a0g (pvF 4) a0h)) (a5g (i:=9) a4w.nd rfl (Or.inl rfl))
   (a0k (a1n (i:=8) a4w.nd rfl (Or.inl rfl) (a4u (a0g (a1l a2z (a1l a5l (a0v a3s (pvF 2) a0i (fun _ _=>rfl)) (a0v a3s (pvF 8) a0i (fun _ _=>rfl))) (a1l a5l (a0z a5y (by rfl) T.d9n boot_abs (a0g (a0v a3s (pvF 2) a0i (fun _ _=>rfl)) a0h)) (a0v a3s (pvF 8) a0i (fun _ _=>rfl)))) (a0g (a1l a5l (a0v a3s (pvF 2) a0i (fun _ _=>rfl)) (a0v a3s (pvF 8) a0i (fun _ _=>rfl))) a0h))))))))
   a1k)
   (a0k (a0r (pvF 8))))))))),?_⟩
  have un : ∀ {ks : Str} {g : Addr} {n t : Int} {R : TS}, H p = some (.tup [.str ks, .ref g, .int n, .int t]) → R { nx := fun _ H' => Q .non H', rt := Q } [some (.ref p), some (.str ks), some (.ref g), some (.int n), some (.int t), none, none, none, none, none] H → ∃ Mid : L2.St → Hp → Prop, j5s (d7v 0) (j3o 4 (g6n (g7z 1) (g6n (g7z 2) (g6n (g7z 3) (g6n (g7z 4) j3n))))) { nx := Mid, rt := Q } (L2.start ["_law_part_here", "_law_kind", "_law_gain_here", "_law_many", "_law_turns", "_law_most", "_law_at", "_law_one", "_law_total", "_law_j"] [.ref p]) H ∧ ∀ σ' H', Mid σ' H' → R { nx := fun _ H' => Q .non H', rt := Q } σ' H' := fun {ks g n t R} hp h => by
   refine⟨fun σ' H'=>R { nx:=fun _ H'=>Q .non H',rt:=Q } σ' H',?_,fun _ _ h=>h⟩
   walk_at "rd*"
  by_cases sw:∃ cs,d = .swell cs
  ·obtain⟨cs,rfl⟩:=sw
   obtain⟨g,ps,hp,hg,R⟩:=hp
   obtain ⟨ks, eks⟩ : ∃ ks : Str, ks = Str.ofString "swell" := ⟨_, rfl⟩
   rw [<- eks] at hp
   refine un hp (g6d true (fun Qb h => by walk_at "rd"; rw [decide_eq_true eks]; exact h) (fun _ D' hD => ?_) fun e => by cases e)
   clear un eks
   have q0:=(id q:id _)
   clear q
   walk_at "rd"
   refine fun m H1 n1 S1 h1=>?_
   have h1':H1 m=some (.tup (a9v 0)):=h1
   clear h1 hp
   have hD':=(id hD:id _)
   clear hD
   have O:=ok.1.1
   walk_at "rd"
   refine⟨⟨_,SqL.of (S1 _ _ hg)⟩,?_⟩
   obtain⟨Pv,pin,pout⟩:=f6w (fun i σ H'=>∃ (v6 v7:Option V) (m:Addr),σ = [some (.ref p),some (.str ks),some (.ref g),some (.int 0),some (.int 0),some (.ref m),v6,v7,none,none]/\Same H H'/\H m=none/\H' m=some (.tup (a9v (f1p (cs.take i)))))
   refine c4v (xs:=ps.map V.ref) Pv (pin _ _ _ ⟨_,_,m,rfl,S1,n1,h1'⟩) ?_ ?_ ?_
   ·intro i σ H2 hi hp
    obtain⟨v2,v3,m2,rfl,S2,nm,h2⟩:=pout _ _ _ hp
    exact SqL.of (S2 _ _ hg)
   ·intro i v σ H2 hv hp
    obtain⟨v2,v3,m2,rfl,S2,nm,h2⟩:=pout _ _ _ hp
    obtain⟨p,c,g',rfl,hc,hpc,hg'⟩:=R.get hv
    have Oc:=(O c (List.mem_of_getElem? hc)).2.2.b
    have mo:=g1j (cs.take i) fun c hc=>(O c (List.mem_of_mem_take hc)).2.2.b
    have et:cs.take (i+1)=cs.take i++[c]:=by rw [List.take_add_one,hc]; rfl
    have ms:=f1m (cs.take i) c
    rw [<- et,d3j,c0k] at ms
    have hpc2:=S2 _ _ hpc
    have hg2:=S2 _ _ hg'
    have h2':=h2
    unfold a9v at hg2 h2
    clear h1' hg hg' hpc
    walk_at "rd*"
    refine⟨IntMulOk.of_le (intBits_natAbs_le Oc.1) mo.2.1 (by decide),IntMulOk.of_le mo.1 Oc.2 (by decide),?_⟩
    split
    ·rename_i hlt
     intro u H3 n3 S3 h3
     rw [if_pos hlt] at ms
     refine pin _ _ _ ⟨_,_,u,rfl,S2.trans S3,S2.free n3,?_⟩
     rw [ms,h3]
     show _=some (HO.tup [V.int (Rat.abs c.2).num,V.int ((Rat.abs c.2).den:Nat)])
     rw [d3j,c0k]
    ·rename_i hlt
     rw [if_neg hlt] at ms
     refine pin _ _ _ ⟨_,_,m2,rfl,S2,nm,?_⟩
     rw [ms]
     exact h2'
   ·intro σ H2 hp
    obtain⟨v2,v3,m2,rfl,S2,nm,h2⟩:=pout _ _ _ hp
    rw [List.length_map,R.1,List.take_of_length_le (Nat.le_refl _)] at h2
    walk_at "rd"
    rw [show D'.rt=Q from hD']
    have q:∀ (r:Addr) (t b:Int) H1,H r=none->Same H H1->H1 r=some (.tup [.int t,.int b])->0 < b->h0g (.swell cs)=Rat.divInt t b->intBits t<=220->intBits b<=220->Q (.ref r) H1:=q0
    have mo:=g1j cs fun c hc=>(O c hc).2.2.b
    have dp:=(f1p cs).den_pos
    exact q m2 _ _ H2 nm S2 h2 (by omega) (Rat.num_divInt_den _).symm (by omega) (by omega)
  ·obtain⟨ks,g,y,n,t,hp,hg,oy,tl,k1,kh,kb,ke,ko⟩:=hp.gw ok.1 fun cs e=>sw ⟨cs,e⟩
   have dp:=y.den_pos
   refine un hp (g6d false (fun Qb h => by walk_at "rd"; rw [decide_eq_false k1]; exact h) (fun e => by cases e) fun _ => ?_)
   clear un hp sw
   unfold a9v at hg
   refine g6d (decide (ks = Str.ofString "hall")) (fun Qb h => by walk_at "rd"; exact h) (fun hk D' hD => ?_) fun hk => ?_
   ·obtain⟨yl,e⟩:=kh (of_decide_eq_true hk)
    walk_at "rd*"
    rw [hD]
    exact fun u H1 n1 S1 h1=>q u _ _ H1 n1 S1 h1 (by omega) e (Nat.le_trans oy.b.2 (by decide)) (Nat.le_trans (intBits_sub_le oy.b.2 (intBits_natAbs_le oy.b.1)) (by decide))
   refine g6d (decide (ks = Str.ofString "back")) (fun Qb h => by walk_at "rd"; exact h) (fun hb D' hD => ?_) fun hb => ?_
   ·have e:=kb (of_decide_eq_true hb)
    walk_at "rd*"
    rw [hD]
    exact fun u H1 n1 S1 h1=>q u _ _ H1 n1 S1 h1 (by omega) (e.trans (h9x y)) (Nat.le_trans (intBits_add_le oy.b.2 (intBits_natAbs_le oy.b.1)) (by decide)) (Nat.le_trans oy.b.2 (by decide))
   have bp:=oy.b.1
   have bq:=oy.b.2
   walk_at "rd*"
   refine fun u H1 n1 S1 h1=>j0g ?_
   have hg1:=S1 _ _ hg
   have q0:=(id q:id _)
   clear hg q
   by_cases he : ks = Str.ofString "echo"
   ·have he':=eq_true he
    have he:=decide_eq_true he
    clear h1
    walk_at "rd*"
    refine fun u2 H2 n2 S2 h2=>?_
    have hg2':=(id (S2 _ _ hg1):id _)
    have S02:=S1.trans S2
    have n02:=S1.free n2
    clear hg1 n1 n2
    walk_at "rd"
    refine⟨by omega,by omega,?_⟩
    rw [Int.toNat_natCast]
    have hg:H2 g=some (.tup [.int y.num,.int (y.den:Int)]):=hg2'
    clear hg2'
    obtain⟨Pv,pin,pout⟩:=f6w (fun i σ H'=>∃ (v9:Option V) (r:Addr),σ = [some (.ref p),some (.str ks),some (.ref g),some (.int n),some (.int t),none,none,none,some (.ref r),v9]/\Same H H'/\Same H2 H'/\H r=none/\H' r=some (.tup [.int (ewT y.num (y.den:Int) i),.int ((y.den:Int) ^ i)]))
    refine f6u (lo:=0) Pv (pin _ _ _ ⟨_,u2,rfl,S02,.refl _,n02,h2⟩) ?_ ?_
    ·intro i σ H3 hi hp
     obtain⟨v9,r,rfl,S3,S23,nr,h3⟩:=pout _ _ _ hp
     have b1:=h8b bp bq i
     have b2:=c0l bq i
     have hg3:=S23 _ _ hg
     clear h2 hg hp
     walk_at "rd*"
     refine⟨IntMulOk.of_le bq b2 (by omega),IntMulOk.of_le (intBits_natAbs_le bp) b1 (by omega),IntMulOk.of_le bq b2 (by omega),fun r2 H4 n4 S4 h4=>pin _ _ _ ⟨_,r2,rfl,S3.trans S4,S23.trans S4,S3.free n4,?_⟩⟩
     rw [h4,ewT,Int.pow_succ,Int.mul_comm (y.den:Int),Int.mul_comm ((y.num.natAbs:Nat):Int),Int.add_comm]
    ·intro σ H3 hp
     obtain⟨v9,r,rfl,S3,S23,nr,h3⟩:=pout _ _ _ hp
     walk_at "rd"
     have q:∀ (r:Addr) (a b:Int) H1,H r=none->Same H H1->H1 r=some (.tup [.int a,.int b])->0 < b->h0g d=Rat.divInt a b->intBits a<=220->intBits b<=220->Q (.ref r) H1:=q0
     refine q r _ _ H3 nr S3 h3 (Int.pow_pos (by omega)) ?_ (Nat.le_trans (h8b bp bq t) (by omega)) (Nat.le_trans (c0l bq t) (by omega))
     rw [ke (of_decide_eq_true he),k1h (by omega)]
   ·have he':=eq_false he
    walk_at "rd*"
    have q:∀ (r:Addr) (a b:Int) H1,H r=none->Same H H1->H1 r=some (.tup [.int a,.int b])->0 < b->h0g d=Rat.divInt a b->intBits a<=220->intBits b<=220->Q (.ref r) H1:=q0
    refine q u _ _ H1 n1 S1 h1 (by omega) ?_ (Nat.le_trans (intBits_natAbs_le oy.b.1) (by decide)) (Nat.le_trans oy.b.2 (by decide))
    rw [ko (of_decide_eq_false hk) (of_decide_eq_false hb) he]
    conv=>lhs; rw [<- Rat.num_divInt_den (Rat.abs y),d3j,c0k]
theorem LPs.same{H H':Hp}{ps:List Addr}{ds:List Dt}(h:LPs H ps ds)(S:Same H H'):LPs H' ps ds:=⟨h.1,fun i p d e1 e2=>(h.2 i p d e1 e2).same S⟩
theorem LPt.tup{H:Hp}{p:Addr}{d:Dt}(h:LPt H p d):∃ g,H p=some (.tup [.str (Str.ofString (kS d)),.ref g,.int (nS d).1,.int (nS d).2]):=by
 cases d with
 | swell cs=>obtain⟨g,ps,h1,_⟩:=h; exact⟨g,h1⟩
 | _=>obtain⟨g,h1,_⟩:=h; exact⟨g,h1⟩
theorem k4m{d:Dt}(h:d.ok):(nS d).1<=1000/\(nS d).2<=16:=by
 cases d with
 | gain y=>exact⟨Nat.zero_le _,Nat.zero_le _⟩
 | delay n=>exact⟨h,Nat.zero_le _⟩
 | echo y n t=>exact h.2.2
 | back y n=>exact⟨h.2.2,Nat.zero_le _⟩
 | hall y n=>exact⟨h.2.2.2,Nat.zero_le _⟩
 | swell cs=>exact⟨Nat.zero_le _,Nat.zero_le _⟩
theorem k4n(d:Dt)(h:g7r d≠none):g7r d=some (rS d):=by
 cases d with
 | gain y=>rfl
 | delay n=>show some n=some (n*max 1 0*1); simp
 | echo y n t =>
  show some (n * t) = some (n * max 1 t * if "echo" ≠ "echo" ∨ t > 0 then 1 else 0)
  rcases Nat.eq_zero_or_pos t with rfl | z
  ·simp
  ·rw [if_pos (.inr z),Nat.max_eq_right z,Nat.mul_one]
 | back y n=>show some n=some (n*max 1 0*1); simp
 | hall y n=>exact absurd rfl h
 | swell cs=>rfl
theorem i0f(x:Str):∀ ts:List Str,inV (.str x) (ts.map V.str)=decide (x∈ts)
 | []=>rfl
 | t :: ts=>by
  have ih:=i0f x ts
  unfold inV at ih ⊢
  rw [List.map_cons,List.any_cons,ih]
  by_cases h:t=x
  ·subst h
   simp [eqV]
  ·have:eqV (.str t) (.str x)=false:=by simp [eqV,h]
   rw [this]
   simp
   exact fun e=>absurd e.symm h
theorem i7h(ts:List Str):(ts.map V.str).all c6k=true:=by
 rw [List.all_eq_true]
 intro v hv
 obtain⟨n,_,rfl⟩:=List.mem_map.mp hv
 rfl
theorem h5e {ds : List Dt} : (Str.ofString "hall" ∈ ds.map fun d => Str.ofString (kS d)) ↔ ∃ d ∈ ds, g7r d = none := by
 constructor
 ·intro h
  obtain⟨d,hd,e⟩:=List.mem_map.mp h
  refine⟨d,hd,?_⟩
  cases d with
  | hall y n=>rfl
  | gain y => exact absurd e (by show Str.ofString "gain" ≠ Str.ofString "hall"; decide +kernel)
  | delay n => exact absurd e (by show Str.ofString "delay" ≠ Str.ofString "hall"; decide +kernel)
  | echo y n t => exact absurd e (by show Str.ofString "echo" ≠ Str.ofString "hall"; decide +kernel)
  | back y n => exact absurd e (by show Str.ofString "back" ≠ Str.ofString "hall"; decide +kernel)
  | swell cs => exact absurd e (by show Str.ofString "swell" ≠ Str.ofString "hall"; decide +kernel)
 ·rintro ⟨d,hd,e⟩
  refine List.mem_map.mpr ⟨d,hd,?_⟩
  cases d with
  | hall y n=>rfl
  | _=>cases e
theorem j5o{ds:List Dt}(h:∀ d∈ds,g7r d≠none):j2b ds=some (ds.map rS).sum:=by
 induction ds with
 | nil=>rfl
 | cons d ds ih=>rw [j2b,k4n d (h d (List.mem_cons_self ..)),ih fun e he=>h e (List.mem_cons_of_mem _ he),List.map_cons,List.sum_cons]
theorem j0h (T : Tx K mg A) : a1h P A.wd K mg base CX0 6 A.c2k A.c2l ["_law_chain", "_law_parts"] (h7m A) := by
 have h5f:a1h P A.wd K mg base CX0 1 _ _ _ _:=j5n T
 have d0p:a1h P A.wd K mg base CX0 1 _ _ _ _:=i0c T
 have d7n:a1h P A.wd K mg base CX0 1 _ _ _ _:=g4w T
 have g6f:a1h P A.wd K mg base CX0 5 _ _ _ _:=k0z T
 have h1h:a1h P A.wd K mg base CX0 2 _ _ _ _:=k1a T
 have a3l:=T.a3l
 have a2g:=T.a2g
 have a1q:=T.a1q
 refine T.c7s.ok a7g (fun vs H Q E h=>?_) (fun cdv A' outer s H vs Q E hr h=>?_)
 ·obtain⟨_,_,rfl,_⟩:=f4h (by unfold h7m at h; exact h)
  rfl
 ·obtain⟨o,l,rfl,⟨ps,ds,hc,hl,R,l8,ok,q⟩⟩:=f4h (by unfold h7m at h; exact h)
  have hu:=hr.units
  have h1i:a2p 1 _:=hr.mono (by decide)
  have c5o:a2p 1 _:=hr.mono (by decide)
  have d3l:a2p 1 _:=hr.mono (by decide)
  have g4y:a2p 5 _:=hr.mono (by decide)
  have g6g:a2p 2 _:=hr.mono (by decide)
  have hs:sizeLine=16777216:=sizeLine_eq
  have pl:=R.1
  refine⟨_,(a0j (a1n (i:=2) a7g.nd rfl (Or.inl rfl) a0i)
   (a0j (a1n (i:=3) a7g.nd rfl (Or.inl rfl) a0i)
   (a0j (a1n (i:=4) a7g.nd rfl (Or.inl rfl) a0i)
   (a0j (b6j PassesOwn.never rfl (a5q (pvF 1)) (a5g (i:=5) a7g.nd rfl (Or.inl rfl))
   (a0j (a1n (i:=6) a7g.nd rfl (Or.inl rfl) (a0n h5f h1i (by rfl) T.h4j T.c5l.kp T.h4i .nil a0p (a0g (pvF 5) a0h)))
   (a0j (a1n (i:=2) a7g.nd rfl (Or.inl rfl) (a1l a5l (pvF 2) (a0v a3s (pvF 6) a0i (fun _ _=>rfl))))
   (a0j (a1n (i:=3) a7g.nd rfl (Or.inl rfl) (a1l a5l (pvF 3) (a0v a3s (pvF 6) a0i (fun _ _=>rfl))))
   (a0k (a1n (i:=4) a7g.nd rfl (Or.inl rfl) (a1l a2z (pvF 4) (a1l a5l (a1l a5l (a0v a3s (pvF 5) a0i (fun _ _=>rfl)) (a0z (h2o rfl) (by rfl) T.j9n boot_max (a0g a0i (a0g (a0v a3s (pvF 5) a0i (fun _ _=>rfl)) a0h)))) (a5h b9k (by rfl) T.g4a boot_int (a0g (j7y (d7t (b7i hu) (a0v a3s (pvF 5) a0i (fun _ _=>rfl)) a1z (a2n _)) (g6i (d7t d7w (a0v a3s (pvF 5) a0i (fun _ _=>rfl)) a0i (a2n _)))) a0h))))))))))
   (a0j (a1n (i:=7) a7g.nd rfl (Or.inl rfl) (a1s (pvF 0) T.a3l T.c9q g6f g4y T.g5p .nil a0p))
   (a0j (a3v (pw_or (b2g (a3t (a0z (b3k .tup) (by rfl) T.a2m boot_isinstance (a0g (pvF 7) (a0g (b9h (v := .ty "tuple") (u := .type "tuple") (by rfl) T.g9z rfl rfl) a0h))))) (pw_or (a1m (b7i hu) (a0z a5w (by rfl) T.d9o boot_len (a0g (pvF 7) a0h)) a0i (a2n _)) (pw_or (b2g (a3t (a0n d0p c5o (by rfl) T.d7g T.b3g.kp T.d6z .nil a0p (a0g (a0v a3s (pvF 7) a0i (fun _ _ => rfl)) a0h)))) (pw_or1 (b2g (a3t (a0n d0p c5o (by rfl) T.d7g T.b3g.kp T.d6z .nil a0p (a0g (a0v a3s (pvF 7) a0i (fun _ _ => rfl)) a0h)))))))).pt
   (a0k (a0r g0u))
   a1k)
   (a0j (a3v (pw_or (a1m of_lt (a0v a3s (pvF 7) a0i (fun _ _=>rfl)) a0i (a2n _)) (pw_or (a1m (b7i hu) (a0n d7n d3l (by rfl) T.f5u T.b4z.kp T.f5t .nil a0p (a0g (a0v a3s (pvF 7) a0i (fun _ _=>rfl)) (a0g (a0v a3s (pvF 7) a0i (fun _ _=>rfl)) a0h))) a0i (a2n _)) (pw_or1 (a1m (b7i hu) (a1l a5l (a0v a3s (pvF 7) a0i (fun _ _=>rfl)) (pvF 3)) (a1l a5l (pvF 2) (a0v a3s (pvF 7) a0i (fun _ _=>rfl))) (a2n _))))).pt
   (a0k (a0r g0u))
   a1k)
   (a0j (a1n (i:=8) a7g.nd rfl (Or.inl rfl) (a1s (pvF 0) T.a3l T.d2v h1h g6g T.g9u .nil a0p))
   (a0j (a3v (a1m j1d a1z (c5q (a5q (pvF 1)) (fun _ _ _ _ _ => (a0v a3s (pvF 0) a0i (fun _ _ => rfl))) (d4v (sc := a0l f7k) (N := ["_law_chain", "_law_parts", "_law_top", "_law_bottom", "_law_reach", "_law_part_here", "_law_here", "_law_found", "_law_far"]) rfl rfl (by decide +kernel)) rfl) (by rfl))
   (a0k (a0r (d7t i3o (pvF 8) d3m (a2n _))))
   a1k)
   (a0k (a0r (f2h (a0n d0p c5o (by rfl) T.d7g T.b3g.kp T.d6z .nil a0p (a0g (pvF 8) a0h)) (g6i (d7t (b0l hu) (pvF 8) (pvF 4) (a2n _))))))))))))))),?_⟩
  walk_at "rd"
  refine⟨⟨_,SqL.of hl⟩,?_⟩
  obtain⟨Pv,pin,pout⟩:=f6w (fun i σ H'=>∃ (v5 v6:Option V) (t b:Int) (r:Nat),σ = [some (.ref o),some (.ref l),some (.int t),some (.int b),some (.int r),v5,v6,none,none]/\Same H H'/\0 < b/\h7h (ds.take i) 1=Rat.divInt t b/\intBits t<=1+220*i/\intBits b<=1+220*i/\r=((ds.take i).map rS).sum/\r<=16000*i)
  refine c4v (xs:=ps.map V.ref) Pv (pin _ _ _ ⟨_,_,1,1,0,rfl,.refl _,by decide,rfl,by decide,by decide,rfl,Nat.zero_le _⟩) ?_ ?_ ?_
  ·intro i σ H2 hi hp
   obtain⟨v5,v6,t,b,r,rfl,S2,b0,ew,bt,bb,er,rl⟩:=pout _ _ _ hp
   exact SqL.of (S2 _ _ hl)
  ·intro i v σ H2 hv hp
   obtain⟨v5,v6,t,b,r,rfl,S2,b0,ew,bt,bb,er,rl⟩:=pout _ _ _ hp
   rw [List.getElem?_map] at hv
   obtain⟨pi,hpi,rfl⟩:=Option.map_eq_some_iff.mp hv
   have hi:=(List.getElem?_eq_some_iff.mp hpi).1
   have hd : ds[i]? = some (ds[i]'(by omega)) := List.getElem?_eq_getElem _
   have hlp:=(R.2 i _ _ hpi hd).same S2
   have okd:=ok _ (List.mem_of_getElem? hd)
   have et : ds.take (i + 1) = ds.take i ++ [ds[i]'(by omega)] := by rw [List.take_add_one, hd]; rfl
   generalize ds[i]'(by omega) = d at hd hlp okd et
   walk_at "rd"
   refine⟨d,hlp,okd,fun u t' b' H3 n3 S3 h3 b0' ew' bt' bb'=>?_⟩
   obtain⟨g,htp⟩:=(hlp.same S3).tup
   have nb:=k4m okd.1
   have ew2:h7h (ds.take (i+1)) 1=Rat.divInt (t*t') (b*b'):=by
    rw [et,h4u,ew,ew',Rat.divInt_mul_divInt]
   have er2:((ds.take (i+1)).map rS).sum=r+rS d:=by
    rw [et,List.map_append,List.sum_append,er]
    show _+(rS d+0)=_
    omega
   have he : (Str.ofString (kS d) = Str.ofString "echo") ↔ kS d = "echo" := by
    cases d <;> simp only [kS] <;> decide +kernel
   have rb:rS d<=16000:=by
    unfold rS
    have m1:max 1 (nS d).2<=16:=by omega
    have m2:(nS d).1*max 1 (nS d).2<=1000*16:=Nat.mul_le_mul nb.1 m1
    split <;> omega
   have fin:∀ {z:Nat} {w6:Option V} ,rS d=z->Pv (i+1) [some (.ref o),some (.ref l),some (.int (t*t')),some (.int (b*b')),some (.int ((r:Int)+(z:Int))),some (.ref pi),w6,none,none] H3:=fun {z w6} e=>by
    subst e
    exact pin _ _ _ ⟨_,_,t*t',b*b',r+rS d,by rw [Int.natCast_add],S2.trans S3,Int.mul_pos b0 b0',ew2,Nat.le_trans (intBits_mul_le bt bt') (by omega),Nat.le_trans (intBits_mul_le bb bb') (by omega),er2.symm,by omega⟩
   have mx:max (1:Int) ((nS d).2:Int)=((max 1 (nS d).2:Nat):Int):=by omega
   have im:=IntMulOk.of_left (a:=((nS d).1:Int)) (b:=max (1:Int) ((nS d).2:Int)) (intBits_le_64 (by omega) (by omega))
   have m1:max 1 (nS d).2<=16:=by omega
   have m2:(nS d).1*max 1 (nS d).2<=1000*16:=Nat.mul_le_mul nb.1 m1
   have im2:∀ c:Int,IntMulOk (((nS d).1:Int)*max (1:Int) ((nS d).2:Int)) c:=fun c=>IntMulOk.of_left (intBits_le_64 (by rw [mx,<- Int.natCast_mul]; omega) (by rw [mx,<- Int.natCast_mul]; omega))
   have it:=IntMulOk.of_le bt bt' (by omega)
   have ib:=IntMulOk.of_le bb bb' (by omega)
   obtain⟨ks,eks⟩:∃ ks:Str,ks=Str.ofString (kS d):=⟨_,rfl⟩
   rw [<- eks] at htp he
   have hlp':=(id hlp:id _)
   have he':=(id he:id _)
   have mx':=(id mx:id _)
   clear hlp eks hl hv hp ew ew' et er er2 mx he
   walk_at "rd*"
   have he : (ks = Str.ofString "echo") ↔ kS d = "echo" := he'
   have mx:max (1:Int) ((nS d).2:Int)=((max 1 (nS d).2:Nat):Int):=mx'
   have go:∀ {z:Nat} {x:Int},rS d=z->x=z->Pv (i+1) [some (.ref o),some (.ref l),some (.int (t*t')),some (.int (b*b')),some (.int ((r:Int)+x)),some (.ref pi),some (.ref u),none,none] H3:=fun e1 e2=>by
    rw [e2]
    exact fin e1
   split
   ·rename_i h1
    refine go (z:=(nS d).1*max 1 (nS d).2) (by unfold rS; rw [if_pos (.inl fun z=>h1 (he.mpr z)),Nat.mul_one]) ?_
    rw [mx,Int.mul_one,Int.natCast_mul]
   ·rename_i h1
    have h1:=he.mp (Decidable.not_not.mp h1)
    split
    ·rename_i h2
     refine go (z:=(nS d).1*max 1 (nS d).2) (by unfold rS; rw [if_pos (.inr (by omega)),Nat.mul_one]) ?_
     rw [mx,Int.mul_one,Int.natCast_mul]
    ·rename_i h2
     refine go (z:=0) (by unfold rS; rw [if_neg (fun z=>z.elim (fun z=>z h1) fun z=>h2 (by omega)),Nat.mul_zero]) ?_
     rw [Int.mul_zero]
     rfl
  ·intro σ H2 hp
   obtain⟨v5,v6,t,b,r,rfl,S2,b0,ew,bt,bb,er,rl⟩:=pout _ _ _ hp
   rw [List.length_map,pl,List.take_of_length_le (Nat.le_refl _)] at ew er
   have hc2:=hc.same S2
   obtain⟨dx,pl',sl,os,ho,hpl,Rz⟩:=id hc2
   unfold chF at ho
   have okd:∀ d∈ds,d.ok:=fun d hd=>(ok d hd).1
   have er':=(id er:id _)
   clear er rl
   walk_at "rd*"
   refine⟨ds,hc2,l8,okd,?_⟩
   rintro _ H3 ⟨u,rfl,n3,S3,h3⟩
   have wb:=g4u (ds:=ds) (x:=1) (a:=1) okd (by decide) (by decide)
   have dp:=(h7h ds 1).den_pos
   have cr:=(Rat.divInt_eq_divInt_iff (by omega) (by omega)).mp ((Rat.num_divInt_den (h7h ds 1)).trans ew)
   have gr:=i6j (h7h ds 1)
   have i1:=IntMulOk.of_le wb.1 bb (by rw [List.length_map] at *; omega)
   have i2:=IntMulOk.of_le bt wb.2 (by rw [List.length_map] at *; omega)
   have dp':((h7h ds 1).den:Int) < 1 ↔ False:=⟨fun z=>by omega,False.elim⟩
   unfold a9v at h3
   have hl2:=S2 _ _ hl
   have cr':=(id cr:id _)
   clear ho hpl hl ew cr
   walk_at "rd*"
   rw [if_neg (fun z=>z.elim (fun z=>z rfl) fun z=>z.elim (fun z=>z rfl) fun z=>z (show _ from cr'))]
   have hc3:=hc2.same S3
   obtain⟨dx3,pl3,sl3,os3,ho3,hpl3,Rz3⟩:=id hc3
   rw [ho3]
   refine⟨rfl,rfl,ds,hc3,l8,okd,fun H4 S4=>⟨⟨_,SqL.of (S4 _ _ (S3 _ _ hl2))⟩,fun D H5 n5 S5 h5=>?_⟩⟩
   have R4:=(R.same S2).same (S3.trans S4)
   refine d9w (ds.map fun d=>V.str (Str.ofString (kS d))) (by rw [List.length_map,List.length_map,pl]) n5 S5 h5 (SqL.of (S4 _ _ (S3 _ _ hl2))) (by rw [List.length_map,hs]; omega) ?_ ?_
   ·intro i x z H' Q' hx hz S' q'
    rw [List.getElem?_map] at hx hz
    obtain⟨pi,hpi,rfl⟩:=Option.map_eq_some_iff.mp hx
    obtain⟨d,hd,rfl⟩:=Option.map_eq_some_iff.mp hz
    obtain⟨g,htp⟩:=((R4.2 i _ _ hpi hd).same S').tup
    have q2:=q' H' (Same.refl _)
    clear hl2 h3 h5
    walk_at "rd*"
   ·intro H6 S6 h6
    have fl:=i7h (ds.map fun d=>Str.ofString (kS d))
    have iv := i0f (Str.ofString "hall") (ds.map fun d => Str.ofString (kS d))
    rw [List.map_map] at fl iv
    replace fl:(ds.map fun d=>V.str (Str.ofString (kS d))).all c6k=true:=fl
    replace iv : inV (.str (Str.ofString "hall")) (ds.map fun d => V.str (Str.ofString (kS d))) = decide (Str.ofString "hall" ∈ ds.map fun d => Str.ofString (kS d)) := iv
    have q2:=q H6 (S2.trans (S3.trans (S4.trans S6)))
    clear hl2 h3 h5
    walk_at "rd*"
    refine⟨rfl,?_⟩
    by_cases hn:∃ d∈ds,g7r d=none
    ·rw [if_pos (h5e.mpr hn)]
     obtain⟨d,hd,e⟩:=hn
     rw [h4v hd e]
     exact q2
    ·rw [if_neg (fun z=>hn (h5e.mp z))]
     have e:=j5o fun d hd z=>hn ⟨d,hd,z⟩
     have er:r=(ds.map rS).sum:=er'
     rw [e,<- er]
     show if i0j (V.int (r:Int)) (V.int (r:Int))=true then _ else _
     rw [if_pos (show i0j (V.int (r:Int)) (V.int (r:Int))=true from rfl),decide_eq_true (show oV (some r)=V.int (r:Int) from rfl)]
     exact q2
theorem j9w.same{H H':Hp}{v:V}(h:j9w H v)(S:Same H H'):j9w H' v:=h.elim .inl fun⟨t,ht,ne⟩=>.inr ⟨t,h2t S ht,ne⟩
theorem d7q.same{H H':Hp}{v:V}(h:d7q H v)(S:Same H H'):d7q H' v:=by
 rcases h with ⟨t,ht,ne⟩ | ⟨r,xs,e,hr,l,z⟩
 ·exact .inl ⟨t,h2t S ht,ne⟩
 ·refine .inr ⟨r,xs,e,S _ _ hr,l,z.elim .inl fun⟨h8,ds,u,rest,okd,bu,ex⟩=>.inr ⟨h8,ds,u,rest,okd,bu.same S,ex⟩⟩
theorem j5p (T : Tx K mg A) : a1h P A.wd K mg base (CXE P A.wd) 10 A.b8m A.b7g ["words"] (j5c A) := by
 have g4t:a1h P A.wd K mg base (CXE P A.wd) 9 _ _ _ _:=((i6y T).mono (by decide)).or (j0c T)
 refine T.c2y.okX g2x (fun vs H Q E h=>?_) (fun cdv A' outer s H vs Q E hr h=>?_)
 ·obtain⟨_,rfl,_⟩:=j1m (by unfold j5c at h; exact h)
  rfl
 ·obtain⟨v,rfl,⟨hv,k⟩⟩:=j1m (by unfold j5c at h; exact h)
  have hu:=hr.units
  have f9k:a2p 9 _:=hr.mono (by decide)
  have hs:sizeLine=16777216:=sizeLine_eq
  have c7l:1<=sizeLine:=by decide
  have q0:=k H (Same.refl _)
  refine ⟨_, (a0j (a3v (b2g (a3t (a0z (b3k .lst) (by rfl) T.a2m boot_isinstance (a0g (pvF 0) (a0g (b9h (v := .ty "list") (u := .type "list") (by rfl) T.h4l rfl rfl) a0h)))))
   (a0k (a8z T.b6t T.a9n a8y rfl (by rfl) (a0g a1z a0h)))
   a1k)
   (a0j (a3v (a1m d7w (a0z a5w (by rfl) T.d9o boot_len (a0g (pvF 0) a0h)) (a2t (v:=.int 8) (by rfl) T.f5y T.c7k) (a2n _))
   (a0k (a8z T.b6t T.a9n a8y rfl (by rfl) (a0g a1z a0h)))
   a1k)
   (a0k (a0r (i9h g8o (a5q (pvF 0)) (fun _ _ _ _ _ => (h8l g4t f9k (by rfl) T.h4f T.c9w.kp T.h4e .nil (a0g (pvF 0) a0h))) (d4v (sc := a0l f0r) (N := ["words"]) rfl rfl (by decide +kernel)) rfl))))), ?_⟩
  rcases hv with ⟨t,ht,ne⟩ | ⟨r,xs,rfl,hl,l100,h8⟩
  ·walk_at "rd*"
  ·walk_at "rd*"
   rcases h8 with h8 | ⟨h8,ds,u,rest,okd,bu,ex⟩
   ·rw [if_pos (by omega)]
    trivial
   rw [if_neg (by omega)]
   refine⟨⟨_,SqL.of hl⟩,fun D H2 n2 S2 h2=>?_⟩
   have xl:xs.length=ds.length+(rest.length+1):=by rw [ex,List.length_append,List.length_map]; rfl
   refine c0t (xs:=xs) (fun i ys H'=>Same H H'/\H' D=some (.lst ys)/\ys.length=i/\i<=ds.length) ⟨S2,h2,rfl,Nat.zero_le _⟩ (by omega) ?_ ?_ ?_
   ·intro i ys H' hi ⟨S',h',yl,_⟩
    exact⟨h',SqL.of (S' _ _ hl),yl⟩
   ·intro i x ys H' hx ⟨S',h',yl,il⟩
    walk_at "rd"
    rcases Nat.lt_or_eq_of_le il with z | z
    ·rw [ex,List.getElem?_append_left (by rw [List.length_map]; exact z),List.getElem?_map] at hx
     obtain⟨d,hd,rfl⟩:=Option.map_eq_some_iff.mp hx
     have o1:=okd d (List.mem_of_getElem? hd)
     refine .inl ⟨d,o1,rfl,fun o H3 n3 S3 hp=>?_⟩
     exact⟨S3 _ _ h',fun H4 B4 h4=>⟨(S'.trans S3).step n2 B4,h4,by rw [yl],z⟩⟩
    ·subst z
     rw [ex,List.getElem?_append_right (by rw [List.length_map]; exact Nat.le_refl _),List.length_map,Nat.sub_self] at hx
     cases hx
     exact .inr ⟨bu.same S',fun H3 S3=>k H3 (S'.trans S3)⟩
   ·intro ys H3 ⟨S3,h3,yl,il⟩
    omega
theorem i7i (T : Tx K mg A) : a1h P A.wd K mg base (CXE P A.wd) 11 A.b2s A.a9z ["self", "words"] (j5d A) := by
 have f9m:a1h P A.wd K mg base (CXE P A.wd) 10 _ _ _ _:=j5p T
 have a3l:=T.a3l
 have a2g:=T.a2g
 have a1q:=T.a1q
 refine T.c5j.okX f5i (fun vs H Q E h=>?_) (fun cdv A' outer s H vs Q E hr h=>?_)
 ·obtain⟨_,_,rfl,_⟩:=j9i (by unfold j5d at h; exact h)
  rfl
 ·obtain⟨o,v,rfl,⟨dx,ho,hv,k⟩⟩:=j9i (by unfold j5d at h; exact h)
  have hu:=hr.units
  have f3j:a2p 10 _:=hr.mono (by decide)
  refine⟨_,(a0j (b2j (pvF 0) (a0n f9m f3j (by rfl) T.g7l T.c2y.kp T.g7k .nil a6o (a0g (pvF 1) a0h)) rfl)
   (a0k a6m)),?_⟩
  walk_at "rd"
  exact⟨hv,k⟩
theorem j2k{n m:Nat}(h:dg n=dg m):n=m:=by
 have:=congrArg NumText.digitsVal h
 rwa [g2b,g2b] at this
theorem j2l{y:Rat}{x:Str}{a b:Nat}(e:x=fW y)(h:sg x=dg a++47 :: dg b):y.num=a/\y.den=b:=by
 rw [e,i1c] at h
 unfold h8o at h
 obtain⟨c1,c2⟩:=f9j h (d3s (by decide) (by decide)) (by rw [<- h0n]; exact d3s (by decide) (by decide))
 rw [h0n] at c2
 refine⟨?_,j2k c2⟩
 unfold txt at c1
 split at c1
 ·have:=d3r a 45 (by rw [<- c1]; exact List.mem_cons_self)
  omega
 ·have:=j2k c1
  omega
theorem f3o{x:Str}(ps:List Str)(e:a5s x ⟨#[58]⟩=ps)(h:∀ d:Dt,d.ok->ps=d.kind :: d.vals->False):¬ IsPart x:=fun z=>by
 obtain⟨d,ok,e2⟩:=h9t.mp z
 exact h d ok (e.symm.trans e2)
theorem f3p {k : String} {ws : List Str} {R : Prop} {d : Dt} (e : Str.ofString k :: ws = d.kind :: d.vals) (hk : (k = "gain" ∧ ∀ y, d = .gain y → R) ∨ (k = "delay" ∧ ∀ n, d = .delay n → R) ∨ (k = "echo" ∧ ∀ y n t, d = .echo y n t → R) ∨ (k = "hall" ∧ ∀ y n, d = .hall y n → R) ∨ k = "") : R := by
 have e1:=(List.cons.inj e).1
 rcases hk with ⟨rfl,h⟩ | ⟨rfl,h⟩ | ⟨rfl,h⟩ | ⟨rfl,h⟩ | rfl
 all_goals
  cases d with
  | gain y => first | exact h _ rfl | exact absurd e1 (by show Str.ofString _ ≠ Str.ofString "gain"; decide +kernel)
  | delay n => first | exact h _ rfl | exact absurd e1 (by show Str.ofString _ ≠ Str.ofString "delay"; decide +kernel)
  | echo y n t => first | exact h _ _ _ rfl | exact absurd e1 (by show Str.ofString _ ≠ Str.ofString "echo"; decide +kernel)
  | back y n => exact absurd e1 (by show Str.ofString _ ≠ Str.ofString "back"; decide +kernel)
  | hall y n => first | exact h _ _ rfl | exact absurd e1 (by show Str.ofString _ ≠ Str.ofString "hall"; decide +kernel)
  | swell cs => exact absurd e1 (by show Str.ofString _ ≠ Str.ofString "swell"; decide +kernel)
theorem j5q : ∀ z ∈ (["", "gain:1", "delay:1001", "delay:-1", "echo:1/2:1", "hall:1/1:4", "gain:2/4"] : List String), ¬ IsPart (Str.ofString z) := by
 intro z hz
 simp only [List.mem_cons,List.not_mem_nil,or_false] at hz
 rcases hz with rfl | rfl | rfl | rfl | rfl | rfl | rfl
 ·exact f3o [Str.ofString ""] (by decide +kernel) fun d ok e => f3p e (.inr (.inr (.inr (.inr rfl))))
 ·refine f3o [Str.ofString "gain", Str.ofString "1"] (by decide +kernel) fun d ok e => f3p e (.inl ⟨rfl, fun y h => ?_⟩)
  subst h
  have e2:=(List.cons.inj (List.cons.inj e).2).1
  have h47:47∈sg (fW y):=by rw [i1c]; unfold h8o; exact List.mem_append_right _ List.mem_cons_self
  rw [<- e2] at h47
  exact absurd h47 (by decide +kernel)
 ·refine f3o [Str.ofString "delay", Str.ofString "1001"] (by decide +kernel) fun d ok e => f3p e (.inr (.inl ⟨rfl, fun n h => ?_⟩))
  subst h
  have e2:=h0o.mpr (List.cons.inj (List.cons.inj e).2).1
  have e3 : j4o (Str.ofString "1001") = some 1001 := by decide +kernel
  rw [e3] at e2
  cases e2
  exact absurd (show 1001<=1000 from ok) (by decide)
 ·refine f3o [Str.ofString "delay", Str.ofString "-1"] (by decide +kernel) fun d ok e => f3p e (.inr (.inl ⟨rfl, fun n h => ?_⟩))
  subst h
  have e2:=h0o.mpr (List.cons.inj (List.cons.inj e).2).1
  have e3 : j4o (Str.ofString "-1") = none := by decide +kernel
  rw [e3] at e2
  cases e2
 ·refine f3o [Str.ofString "echo", Str.ofString "1/2", Str.ofString "1"] (by decide +kernel) fun d ok e => f3p e (.inr (.inr (.inl ⟨rfl, fun y n t h => ?_⟩)))
  subst h
  exact absurd (congrArg List.length e) (by show ¬ (3:Nat)=4; decide)
 ·refine f3o [Str.ofString "hall", Str.ofString "1/1", Str.ofString "4"] (by decide +kernel) fun d ok e => f3p e (.inr (.inr (.inr (.inl ⟨rfl, fun y n h => ?_⟩))))
  subst h
  have e2:=j2l (a:=1) (b:=1) (List.cons.inj (List.cons.inj e).2).1 (by decide +kernel)
  have:=ok.2.1
  omega
 ·refine f3o [Str.ofString "gain", Str.ofString "2/4"] (by decide +kernel) fun d ok e => f3p e (.inl ⟨rfl, fun y h => ?_⟩)
  subst h
  have e2:=j2l (a:=2) (b:=4) (List.cons.inj (List.cons.inj e).2).1 (by decide +kernel)
  have:=y.reduced
  rw [e2.1,e2.2] at this
  exact absurd this (by decide)
theorem i7j{xs:List V}{j:Nat}{R:V->Prop}(hj:j < xs.length)(h:∀ v∈xs,R v):∃ v,atI xs (j:Int)=some v/\R v:=⟨xs[j],f6t (List.getElem?_eq_getElem hj),h _ (List.getElem_mem hj)⟩
theorem j0i (T : Tx K mg A) : a1h P A.wd K mg base CX0 1 A.c2m A.c2n ["_law_words", "_law_cell"] h7o := by
 refine T.d4g.ok d5j (fun vs H Q E h=>?_) (fun cdv A' outer s H vs Q E hr h=>?_)
 ·obtain⟨_,_,rfl,_⟩:=d3t (by unfold h7o at h; exact h)
  rfl
 ·obtain⟨l,c,rfl,⟨ds,hl,l8,ok,q⟩⟩:=d3t (by unfold h7o at h; exact h)
  have hu:=hr.units
  have hs:sizeLine=16777216:=sizeLine_eq
  obtain⟨j,ej,jl⟩:=g0t c (n:=8) (by decide)
  obtain⟨a,ea,al⟩:=g0t (c.fdiv 8) (n:=(ds.length:Int)+1) (by omega)
  obtain⟨k,ek,kl⟩:=g0t (c.fdiv 72) (n:=7) (by decide)
  obtain⟨j4,ej4,jl4⟩:=g0t (c.fdiv 504) (n:=4) (by decide)
  have c8:CFd c 8:=⟨by decide,by decide +kernel⟩
  have c72:CFd c 72:=⟨by decide,by decide +kernel⟩
  have c504:CFd c 504:=⟨by decide,by decide +kernel⟩
  have dn:¬ (ds.length:Int)+1=0:=by omega
  refine⟨_,(a0j (a1n (i:=2) d5j.nd rfl (Or.inl rfl) (a0v a3s (d4u (a0g a1z (a0g a1z (a0g a1z (a0g a1z (a0g a1z (a0g a1z (a0g a1z (a0g d3m a0h))))))))) (a1l b0m (pvF 1) a0i) (fun _ _=>rfl)))
   (a0j (a1n (i:=3) d5j.nd rfl (Or.inl rfl) (a1l b0m (a1l a5v (pvF 1) a0i) (a1l a2z (a0z a5w (by rfl) T.d9o boot_len (a0g (pvF 0) a0h)) a0i)))
   (a0j (a1n (i:=4) d5j.nd rfl (Or.inl rfl) (a1l b0m (a1l a5v (pvF 1) a0i) a0i))
   (a0j (a3v (a1m (b0l hu) (pvF 4) a0i (a2n _))
   (a0k (a0r (a5p g8g (a1l a2z (pvF 0) (a1l a5l (d4u (a0g a1z a0h)) a0i)) a6z (a5r a0i))))
   a1k)
   (a0j (a3v (a1m (b0l hu) (pvF 4) a0i (a2n _))
   (a0k (a0r (a0v a3s (d4u (a0g d3m (a0g a1z (a0g (a4u (a0g a1z a0h)) (a0g i8v a0h))))) (a1l b0m (a1l a5v (pvF 1) a0i) a0i) (fun _ _=>rfl))))
   a1k)
   (a0k (a0r (a5p g8g (a1l a2z (a1l a2z (a5p g8g (pvF 0) a6z (a5r (pvF 3))) (d4u (a0g (pvF 2) a0h))) (a5p g8g (pvF 0) (a5r (pvF 3)) a6z)) a6z (a5r (a0z (h2o rfl) (by rfl) T.j9n boot_max (a0g a0i (a0g (a1l a2z (pvF 3) a0i) a0h)))))))))))),?_⟩
  have q':=(id q:id _)
  clear q
  walk_at "rd*"
  refine fun lo H1 n1 S1 h1=>?_
  obtain ⟨u, hu1, hu2⟩ := i7j (xs := [.str (Str.ofString ""), .str (Str.ofString "gain:1"), .str (Str.ofString "delay:1001"), .str (Str.ofString "delay:-1"), .str (Str.ofString "echo:1/2:1"), .str (Str.ofString "hall:1/1:4"), .str (Str.ofString "gain:2/4"), .non]) (j := j) (R := fun v => ∀ H, j9w H v) (by show j < 8; omega) (fun v hv H => by
   simp only [List.mem_cons,List.not_mem_nil,or_false] at hv
   rcases hv with rfl | rfl | rfl | rfl | rfl | rfl | rfl | rfl
   ·exact .inl ⟨_,rfl,by decide +kernel,j5q _ (by simp)⟩
   ·exact .inl ⟨_,rfl,by decide +kernel,j5q _ (by simp)⟩
   ·exact .inl ⟨_,rfl,by decide +kernel,j5q _ (by simp)⟩
   ·exact .inl ⟨_,rfl,by decide +kernel,j5q _ (by simp)⟩
   ·exact .inl ⟨_,rfl,by decide +kernel,j5q _ (by simp)⟩
   ·exact .inl ⟨_,rfl,by decide +kernel,j5q _ (by simp)⟩
   ·exact .inl ⟨_,rfl,by decide +kernel,j5q _ (by simp)⟩
   ·exact .inr ⟨_,rfl,by decide⟩)
  have hl1:=S1 _ _ hl
  clear hl
  walk_at "rd*"
  split
  ·refine fun m1 H2 n2 S2 h2=>?_
   have hl2:=S2 _ _ hl1
   clear hl1 h1
   walk_at "rd*"
   refine⟨by decide,fun m2 H3 n3 S3 h3=>?_⟩
   have hl3:=S3 _ _ hl2
   obtain⟨xs,ex⟩:∃ xs:List V,xs.length=9/\H3 m2=some (.lst xs):=⟨_,rfl,h3⟩
   clear hl2 h2 h3
   obtain⟨ex,h3⟩:=ex
   walk_at "rd*"
   refine⟨by omega,fun m3 H4 n4 S4 h4=>?_⟩
   clear hl3 h3
   walk_at "rd*"
   refine fun m4 H5 n5 S5 h5=>?_
   have q:∀ v H1,Same H H1->d7q H1 v->Q v H1:=q'
   refine q _ H5 (S1.trans (S2.trans (S3.trans (S4.trans S5)))) (.inr ⟨m4,_,rfl,h5,?_⟩)
   have e9:(d7r (List.map (fun d=>V.str d.word) ds++xs) none (some 9)).length=9:=by
    show (g5a _ none (some ((9:Nat):Int))).length=9
    rw [f3v,List.length_take,List.length_append,List.length_map]
    omega
   rw [e9]
   exact⟨by decide,.inl (by decide)⟩
  ·have q:∀ v H1,Same H H1->d7q H1 v->Q v H1:=q'
   clear q'
   split
   ·refine fun m1 H2 n2 S2 h2=>?_
    have qz:=(id q:id _)
    clear q h1
    walk_at "rd*"
    refine fun m2 H3 n3 S3 h3=>?_
    have h23:=S3 _ _ h2
    clear h2
    walk_at "rd*"
    refine fun m3 H4 n4 S4 h4=>?_
    clear hl1
    walk_at "rd*"
    have q:∀ v H1,Same H H1->d7q H1 v->Q v H1:=qz
    have S04:=S1.trans (S2.trans (S3.trans S4))
    refine i7j (R:=fun v=>Q v H4) (by show j4 < 4; omega) fun v hv=>?_
    have hb:d7q H4 v:=by
     simp only [List.mem_cons,List.not_mem_nil,or_false] at hv
     rcases hv with rfl | rfl | rfl | rfl
     ·exact .inl ⟨_,rfl,by decide⟩
     ·exact .inl ⟨_,rfl,by decide⟩
     ·exact .inl ⟨_,by rw [h5h,S4 _ _ h23],by decide⟩
     ·exact .inl ⟨_,by rw [h5h,S4 _ _ h3],by decide⟩
    exact q v H4 S04 hb
   ·refine fun m1 H2 n2 S2 h2=>?_
    rw [show d7r (ds.map fun d=>V.str d.word) none (some (a:Int))=(ds.take a).map fun d=>V.str d.word by rw [List.map_take]; exact f3v _ _] at h2
    have qz:=(id q:id _)
    have hl2:=S2 _ _ hl1
    have tl:(ds.take a).length=a:=by rw [List.length_take]; omega
    have c7l:1<=sizeLine:=by decide
    clear q h1 hl1
    walk_at "rd*"
    refine fun m2 H3 n3 S3 h3=>?_
    have h23:=S3 _ _ h2
    have hl3:=S3 _ _ hl2
    clear h2 hl2
    walk_at "rd*"
    refine⟨by omega,fun m3 H4 n4 S4 h4=>?_⟩
    have hl4:=S4 _ _ hl3
    clear h23 h3 hl3
    walk_at "rd*"
    refine fun m4 H5 n5 S5 h5=>?_
    rw [show d7r (ds.map fun d=>V.str d.word) (some (a:Int)) none=(ds.drop a).map fun d=>V.str d.word by rw [List.map_drop]; exact b2h _ _] at h5
    have h45:=S5 _ _ h4
    have dl:(ds.drop a).length<=8:=by rw [List.length_drop]; omega
    clear h4 hl4
    walk_at "rd*"
    refine⟨by omega,fun m5 H6 n6 S6 h6=>?_⟩
    clear h45 h5
    walk_at "rd*"
    refine fun m6 H7 n7 S7 h7=>?_
    have q:∀ v H1,Same H H1->d7q H1 v->Q v H1:=qz
    refine q _ H7 (S1.trans (S2.trans (S3.trans (S4.trans (S5.trans (S6.trans S7)))))) ?_
    have em:max (8:Int) ((a:Int)+1)=((max 8 (a+1):Nat):Int):=by omega
    have e1:d7r (List.map (fun d=>V.str d.word) (List.take a ds)++[u]++List.map (fun d=>V.str d.word) (List.drop a ds)) none (some (max 8 ((a:Int)+1)))=List.map (fun d=>V.str d.word) (List.take a ds)++u :: (List.map (fun d=>V.str d.word) (List.drop a ds)).take (max 8 (a+1) - a - 1):=by
     rw [em]
     refine (f3v _ _).trans ?_
     rw [List.append_assoc,List.take_append,List.length_map,tl,List.take_of_length_le (by rw [List.length_map,tl]; omega)]
     congr 1
     rw [show max 8 (a+1) - a=(max 8 (a+1) - a - 1)+1 by omega]
     rfl
    rw [e1] at h7
    have ln:(List.map (fun d=>V.str d.word) (List.take a ds)++u :: (List.map (fun d=>V.str d.word) (List.drop a ds)).take (max 8 (a+1) - a - 1)).length=a+1+min (max 8 (a+1) - a - 1) (ds.length - a):=by
     rw [List.length_append,List.length_cons,List.length_map,tl,List.length_take,List.length_map,List.length_drop]
     omega
    refine .inr ⟨m6,_,rfl,h7,by omega,?_⟩
    by_cases h8:a+1+min (max 8 (a+1) - a - 1) (ds.length - a)<=8
    ·exact .inr ⟨by omega,ds.take a,u,_,fun d hd=>ok d (List.mem_of_mem_take hd),hu2 _,rfl⟩
    ·exact .inl (by omega)
theorem j5r (T : Tx K mg A) : a1h P A.wd K mg base CX0 13 A.b0i A.b1p ["_law_words"] i6h := by
 have h1j:a1h P A.wd K mg base (CXE P A.wd) 11 _ _ _ _:=i7i T
 refine T.b9w.ok c4o (fun vs H Q E h=>?_) (fun cdv A' outer s H vs Q E hr h=>?_)
 ·obtain⟨_,rfl,_⟩:=j1m (by unfold i6h at h; exact h)
  rfl
 ·obtain⟨v,rfl,⟨hv,q⟩⟩:=j1m (by unfold i6h at h; exact h)
  have hu:=hr.units
  have c0o:a2p 12 _:=hr.mono (by decide)
  refine⟨_,(a0j (a1n (i:=1) c4o.nd rfl (Or.inl rfl) d3m)
   (c5p (i8u (i:=2) (fun E=>(i8t (i4l (E:=E) T.g3l h1j c0o (by rfl) T.h0a T.d9k .nil (a0g (pvF 0) a0h)))) (fun e=>(a0k (a1n (i:=1) c4o.nd rfl (Or.inl rfl) (pvF 2)))) (by rfl) T.h6t T.i1u c4o.nd rfl rfl)
   (a0j (a3v (pw_or (a3t (a0z (b9j) (by rfl) T.a2m boot_isinstance (a0g (pvF 1) (a0g (a2t (v:=.ref A.a3k) (by rfl) T.h6u rfl) a0h)))) (pw_or (a3t (a0z (b9j) (by rfl) T.a2m boot_isinstance (a0g (pvF 1) (a0g (a2t (v:=.ref A.a1i) (by rfl) T.d0n rfl) a0h)))) (pw_or1 (a3t (a0z (b9j) (by rfl) T.a2m boot_isinstance (a0g (pvF 1) (a0g (a2t (v:=.ref A.a5t) (by rfl) T.i5h rfl) a0h))))))).pt
   (a0k (a0r g0u))
   a1k)
   (a0j (a3v (a3t (a0z (b9j) (by rfl) T.a2m boot_isinstance (a0g (pvF 1) (a0g (a2t (v:=.ref A.a7r) (by rfl) T.i9o rfl) a0h))))
   (a0k (a0r g0u))
   a1k)
   (a0j (a3v (pw_or (a3t (a0z (b9j) (by rfl) T.a2m boot_isinstance (a0g (pvF 1) (a0g (a2t (v:=.ref A.a7s) (by rfl) T.i9p rfl) a0h)))) (pw_or (a3t (a0z (b9j) (by rfl) T.a2m boot_isinstance (a0g (pvF 1) (a0g (a2t (v:=.ref A.b6i) (by rfl) T.j4h rfl) a0h)))) (pw_or (a3t (a0z (b9j) (by rfl) T.a2m boot_isinstance (a0g (pvF 1) (a0g (a2t (v:=.ref A.a4z) (by rfl) T.i1t rfl) a0h)))) (pw_or1 (a3t (a0z (b9j) (by rfl) T.a2m boot_isinstance (a0g (pvF 1) (a0g (a2t (v:=.ref A.a7t) (by rfl) T.i9q rfl) a0h)))))))).pt
   (a0k (a0r g0u))
   a1k)
   (a0k (a0r (f2h (a0z (b9j) (by rfl) T.a2m boot_isinstance (a0g (pvF 1) (a0g (a2t (v := .ref A.a0w) (by rfl) T.a9n rfl) a0h))) (f2h (a0z (b9j) (by rfl) T.a2m boot_isinstance (a0g (pvF 1) (a0g (b9h (v := .ty "ValueError") (u := .type "ValueError") (by rfl) T.h4k rfl rfl) a0h))) (g6i (h5o (a0z (b9j) (by rfl) T.a2m boot_isinstance (a0g (pvF 1) (a0g (a2t (v := .ref A.a5u) (by rfl) T.i5i rfl) a0h)))))))))))))), ?_⟩
  walk_at "rd"
  obtain⟨Mid,pin,pout⟩:=j8d (fun σ' H'=>∃ e:Addr,σ' = [some v,some (.ref e),none]/\Same H H'/\H' e=some (j1c e (.ref A.a0w)))
  refine⟨Mid,?_,?_⟩
  ·walk_at "rd"
   intro o dx H1 no ndx dne S1 hdx ho
   try walk_at "rd"
   refine⟨dx,ho,hv.same S1,fun H2 S2=>⟨T.c3y,fun e H3 n3 S3 h3=>?_⟩⟩
   try walk_at "rd"
   exact pin _ _ ⟨e,rfl,S1.trans (S2.trans S3),h3⟩
  ·intro σ' H' hm
   obtain⟨e,rfl,S1,he⟩:=pout _ _ hm
   walk_at "rd"
   refine isx he T.c0j T.f8s ?_
   walk_at "rd"
   refine isx he T.c0j T.g4f ?_
   walk_at "rd"
   refine isx he T.c0j T.g4d ?_
   walk_at "rd"
   refine isx he T.c0j T.g5s ?_
   walk_at "rd"
   refine isx he T.c0j T.g5q ?_
   walk_at "rd"
   refine isx he T.c0j T.h0b ?_
   walk_at "rd"
   refine isx he T.c0j T.g1a ?_
   walk_at "rd"
   refine isx he T.c0j T.g5r ?_
   walk_at "rd"
   refine isx he T.c0j T.g4e ?_
   walk_at "rd"
   refine isxT he T.c0j T.f2t ?_
   walk_at "rd"
   refine isx he T.c0j T.g4c ?_
   walk_at "rd"
   exact q _ S1
theorem words_of{K:PySem.W.Frag}{l D:Addr}{ps:List Addr}{ds:List Dt}{n:Nat}{te:TE}{σ:L2.St}{H0 H:Hp}{Q:VK}(hl:H0 l=some (.lst (List.map V.ref ps)))(R:LPs H0 ps ds)(l8:ds.length<=8)(ok:∀ d∈ds,okN d)(n0:H0 D=none)(S:Same H0 H)(hD:H D=some (.lst []))
  (hs:∀ p d H' (Q':VK),LPt H' p d->okN d->(∀ H2,Same H' H2->Q' (.str (b6q n d).word) H2)->te (some (.ref p) :: σ) H' Q')
  (q:∀ H',Same H0 H'->H' D=some (.lst (ds.map fun d=>V.str (b6q n d).word))->Q (.ref D) H'):g0x (Itl K l) te D σ H Q ⟨⟩:=by
 refine d9w (ds.map fun d=>V.str (b6q n d).word) (by rw [List.length_map,List.length_map,R.1]) n0 S hD (SqL.of hl) (by rw [List.length_map,R.1,sizeLine_eq]; omega) ?_ q
 intro i x z H' Q' hx hz S' q'
 rw [List.getElem?_map] at hx hz
 obtain⟨p,hp,rfl⟩:=Option.map_eq_some_iff.mp hx
 obtain⟨d,hd,rfl⟩:=Option.map_eq_some_iff.mp hz
 exact hs p d H' Q' ((R.2 i _ _ hp hd).same S') (ok d (List.mem_of_getElem? hd)) q'
theorem i7k{z:Str}(hz:PyData.strOk z=true):∀ {xs:List Str},(∀ x∈xs,PyData.strOk x=true)->PyData.strOk (Str.join z xs)=true
 | [],_=>f4g
 | [x],h=>h x List.mem_cons_self
 | x :: y :: xs,h=>a8w (a8w (h x List.mem_cons_self) hz) (i7k hz (xs:=y :: xs) fun w hw=>h w (List.mem_cons_of_mem _ hw))
theorem h1l(d:Dt):PyData.strOk d.word=true:=by
 cases d with
 | gain y=>exact g8m (by show 0 < 4; decide)
 | delay n=>exact g8m (by show 1 < 4; decide)
 | echo y n t=>exact g8m (by show 2 < 4; decide)
 | back y n=>exact g8m (by show 3 < 4; decide)
 | hall y n=>rw [<- i4v]; exact a8w (a8w (a8w (a8w f4g (d2j _)) (i4w _)) (d2j _)) (d2j _)
 | swell cs =>
  rw [<- h5w,i9f]
  refine a8w (a8w f4g (d2j _)) (i7k (d2j _) fun x hx=>?_)
  obtain⟨c,_,rfl⟩:=List.mem_map.mp hx
  unfold cW
  exact a8w (a8w (a8w f4g (d2j _)) (d2j _)) (i4w _)
theorem j2m(d:Dt):b6q 0 d=d:=by
 cases d with
 | swell cs =>
  show Dt.swell _=Dt.swell _
  congr 1
  rw [show (fun c:Int×Rat=>(c.1+((0:Nat):Int),c.2))=id from funext fun c=>by show (c.1+0,c.2)=c; rw [Int.add_zero],List.map_id]
 | _=>rfl
theorem j0j (T : Tx K mg A) : a1h P A.wd K mg base CX0 12 A.c2o A.c2p ["_law_parts", "_law_n"] (h7p A) := by
 have f1n:a1h P A.wd K mg base CX0 1 _ _ _ _:=i0e T
 have g7v:a1h P A.wd K mg base CX0 6 _ _ _ _:=j0h T
 have d0p:a1h P A.wd K mg base CX0 1 _ _ _ _:=i0c T
 have f0l:a1h P A.wd K mg base CX0 10 _ _ _ _:=h9w T
 have f6p:a1h P A.wd K mg base CX0 2 _ _ _ _:=k1b T
 have f6q:a1h P A.wd K mg base CX0 8 _ _ _ _:=k1c T
 have c7n:a1h P A.wd K mg base CX0 4 _ _ _ _:=j2h T
 have a3l:=T.a3l
 have a2g:=T.a2g
 have a1q:=T.a1q
 refine T.d4h.ok c9j (fun vs H Q E h=>?_) (fun cdv A' outer s H vs Q E hr h=>?_)
 ·obtain⟨_,_,rfl,_⟩:=d3t (by unfold h7p at h; exact h)
  rfl
 ·obtain⟨l,m,rfl,⟨n,ps,ds,em,n2,hl,R,l8,ok,q⟩⟩:=d3t (by unfold h7p at h; exact h)
  subst em
  have hu:=hr.units
  have d7o:a2p 1 _:=hr.mono (by decide)
  have g4z:a2p 6 _:=hr.mono (by decide)
  have c5o:a2p 1 _:=hr.mono (by decide)
  have c0o:a2p 11 _:=hr.mono (by decide)
  have f1y:a2p 2 _:=hr.mono (by decide)
  have f1z:a2p 8 _:=hr.mono (by decide)
  have c4t:a2p 4 _:=hr.mono (by decide)
  have hs:sizeLine=16777216:=sizeLine_eq
  have okd:∀ d∈ds,d.ok:=fun d hd=>(ok d hd).1
  refine ⟨_, (a0j (g1w (i := 2) c9j.nd rfl rfl (a5q (pvF 0)) (fun _ _ _ _ _ => (a0n f1n d7o (by rfl) T.f8r T.c2z.kp T.f8q .nil a0p (a0g (pvF 0) (a0g a0i a0h)))) (d4v (sc := a0l f0s) (N := ["_law_parts", "_law_n", "_law_words", "_law_chain", "_law_told_here", "_law_found"]) rfl rfl (by decide +kernel)) rfl)
   (a0j (a1n (i:=3) c9j.nd rfl (Or.inl rfl) (b1y T.g3l f0l c0o (by rfl) T.h0a T.d9k .nil a0p (a0g (a5h i0t (by rfl) T.h4l boot_list (a0g (pvF 2) a0h)) a0h)))
   (a0j (a3v (pw_or (b2g (a3t (a0n g7v g4z (by rfl) T.g7n T.c7s.kp T.g7m .nil a0p (a0g (pvF 3) (a0g (pvF 0) a0h))))) (pw_or (b2g (a3t (a0n d0p c5o (by rfl) T.d7g T.b3g.kp T.d6z .nil a0p (a0g (a1s (pvF 3) T.a3l T.c4p f6p f1y T.f5r .nil a0p) a0h)))) (pw_or1 (a1m of_lt (a1s (pvF 3) T.a3l T.c4p f6p f1y T.f5r .nil a0p) a0i (a2n _))))).pt
   (a0k (a0r g0u))
   a1k)
   (a0j (a1n (i:=4) c9j.nd rfl (Or.inl rfl) (a2q (pvF 3) T.a3l T.c4q f6q f1z T.f5s .nil a0p (a0g (pvF 1) a0h)))
   (a0j (a3v (pw_or (b2g (a3t (a0z (b3k .lst) (by rfl) T.a2m boot_isinstance (a0g (pvF 4) (a0g (b9h (v := .ty "list") (u := .type "list") (by rfl) T.h4l rfl rfl) a0h))))) (pw_or1 (a1m (b7i hu) (pvF 4) (c5q (a5q (pvF 0)) (fun _ _ _ _ _ => by exact (a0n f1n d7o (by rfl) T.f8r T.c2z.kp T.f8q .nil a0p (a0g (pvF 0) (a0g (pvF 2) a0h)))) (d4v (sc := a0l f0s) (N := ["_law_parts", "_law_n", "_law_words", "_law_chain", "_law_told_here", "_law_found"]) rfl rfl (by decide +kernel)) rfl) (a2n _)))).pt
   (a0k (a0r g0u))
   a1k)
   (a0j (b1t (b7j f0n PySem.F.plainAttrs_list PySem.F.slot_list_append PySem.F.type_list_append c7o (pvF 4) (a0g a1z a0h)))
   (a0j (a1n (i:=5) c9j.nd rfl (Or.inl rfl) (a1s (pvF 3) T.a3l T.b6p c7n c4t T.d6y .nil a0p))
   (a0j (a3v (pw_or (b2g (a3t (a0z (b3k .lst) (by rfl) T.a2m boot_isinstance (a0g (pvF 5) (a0g (b9h (v := .ty "list") (u := .type "list") (by rfl) T.h4l rfl rfl) a0h))))) (pw_or1 (a1m (b7i hu) (pvF 5) (pvF 2) (a2n _)))).pt
   (a0k (a0r g0u))
   a1k)
   (a0j (b1t (b7j f0n PySem.F.plainAttrs_list PySem.F.slot_list_append PySem.F.type_list_append c7o (pvF 5) (a0g a1z a0h)))
   (a0k (a0r (f2h (d7t (b0l hu) (a1s (pvF 3) T.a3l T.b6p c7n c4t T.d6y .nil a0p) (pvF 2) (a2n _)) (f2h (d7t (b0l hu) (a2q (pvF 3) T.a3l T.c4q f6q f1z T.f5s .nil a0p (a0g (pvF 1) a0h)) (a5p g8g (pvF 4) a6z (a5r (a0z a5w (by rfl) T.d9o boot_len (a0g (pvF 2) a0h)))) (a2n _)) (g6i (a0n g7v g4z (by rfl) T.g7n T.c7s.kp T.g7m .nil a0p (a0g (pvF 3) (a0g (pvF 0) a0h))))))))))))))))),?_⟩
  walk_at "rd"
  have ew:∀ n,(ds.map fun d=>V.str (b6q n d).word)=(ds.map fun d=>(b6q n d).word).map V.str:=fun n=>by rw [List.map_map]; rfl
  have e0:(ds.map fun d=>(b6q 0 d).word)=ds.map Dt.word:=List.map_congr_left fun d _=>by rw [j2m]
  have ew0:(ds.map fun d=>V.str d.word)=(ds.map Dt.word).map V.str:=by rw [List.map_map]; rfl
  have so:∀ n,∀ z∈ds.map (fun d=>(b6q n d).word),PyData.strOk z=true:=fun n z hz=>by
   obtain⟨d,_,rfl⟩:=List.mem_map.mp hz
   exact h1l _
  have so0:∀ z∈ds.map Dt.word,PyData.strOk z=true:=fun z hz=>by
   obtain⟨d,_,rfl⟩:=List.mem_map.mp hz
   exact h1l _
  have wl:(ds.map Dt.word).length<=8:=by rw [List.length_map]; exact l8
  have hid:=(id (⟨ew,e0,ew0,so,so0⟩:_/\_/\_/\_/\_):id _)
  clear ew e0 ew0 so so0
  refine⟨⟨_,SqL.of hl⟩,fun lw H1 nw S1 h1=>?_⟩
  refine words_of (n:=0) hl R l8 ok nw S1 h1 (fun p d H' Q' hp od q'=>?_) fun H2 S2 h2=>?_
  ·walk_at "rd"
   exact⟨0,rfl,by decide,d,hp,od,q'⟩
  rw [hid.1 0,hid.2.1] at h2
  clear h1
  walk_at "rd*"
  refine fun l2 H3 n3 S3 h3=>?_
  try walk_at "rd"
  intro o dx H4 no ndx dne S4 hdx ho
  refine⟨dx,ds,ho,by rw [S4 _ _ h3,hid.2.2.1],l8,okd,fun H5 B5 hc5=>?_⟩
  have S25:Same H2 H5:=(S3.trans S4).step (S3.free no) B5
  have S05:=S2.trans S25
  have hw5:=S25 _ _ h2
  clear h3 hdx ho dne h2
  obtain⟨dx5,pl5,sl5,os5,ho5,hpl5,Rz5⟩:=id hc5
  unfold chF at ho5
  clear hpl5 Rz5
  walk_at "rd*"
  refine⟨ps,ds,hc5,S05 _ _ hl,R.same S05,l8,ok,fun H6 S6=>?_⟩
  have hc6:=hc5.same S6
  have ho6:=S6 _ _ ho5
  clear ho5
  walk_at "rd*"
  refine⟨ds,hc6,l8,okd,fun g g1=>⟨ds,hc6,l8,okd,fun g' g1'=>?_⟩⟩
  rw [if_neg (by omega)]
  try walk_at "rd*"
  refine⟨n,rfl,ds,hc6,l8,(fun d hd=>⟨(ok d hd).1,(ok d hd).2 n n2⟩),?_⟩
  rintro _ H7 ⟨lt,rfl,n7,S7,h7⟩
  rw [hid.1 n] at h7
  have S06:=S05.trans S6
  have hw6:=S6 _ _ hw5
  have hl7:=S7 _ _ (S06 _ _ hl)
  have R7:=(R.same S06).same S7
  clear hw5 ho6
  walk_at "rd*"
  refine⟨⟨_,SqL.of hl7⟩,fun D H8 n8 S8 h8=>?_⟩
  refine words_of (n:=n) hl7 R7 l8 ok n8 S8 h8 (fun p d H' Q' hp od q'=>?_) fun H9 S9 h9=>?_
  ·walk_at "rd"
   exact⟨n,rfl,n2,d,hp,od,q'⟩
  rw [hid.1 n] at h9
  have h79:=S9 _ _ h7
  walk_at "rd"
  refine g8l (SqL.of h79) (SqL.of h9) (hid.2.2.2.1 n) (hid.2.2.2.1 n) ?_
  rw [decide_eq_true rfl]
  clear h7 h8 h9 hl7
  walk_at "rd*"
  refine⟨by omega,?_⟩
  rintro _ HA ⟨rfl,BA,hA⟩
  have S6A:Same H6 HA:=(S7.trans S9).step n7 BA
  have hcA:=hc6.same S6A
  have hwA:=S6A _ _ hw6
  obtain⟨dxA,plA,slA,osA,hoA,hplA,RzA⟩:=id hcA
  unfold chF at hoA
  clear hplA RzA h79
  walk_at "rd*"
  refine⟨ds,hcA,l8,okd,?_⟩
  rintro _ HB ⟨lf,rfl,nB,SB,hB⟩
  rw [hid.2.2.1] at hB
  have hwB:=SB _ _ hwA
  clear hwA hoA
  walk_at "rd*"
  refine g8l (SqL.of hB) (SqL.of hwB) hid.2.2.2.2 hid.2.2.2.2 ?_
  rw [decide_eq_true rfl]
  have hA':=(id hA:id _)
  clear hwB hA
  walk_at "rd*"
  refine⟨by omega,?_⟩
  rintro _ HC ⟨rfl,BC,hC⟩
  have SAC:Same HA HC:=SB.step nB BC
  have hcC:=hcA.same SAC
  have hwC:=SAC _ _ (S6A _ _ hw6)
  have hA : HA lt = some (.lst ((ds.map fun d => (b6q n d).word).map V.str ++ [V.str (Str.ofString "gain:1/1")])) := hA'
  have htC:=SAC _ _ hA
  obtain⟨dxC,plC,slC,osC,hoC,hplC,RzC⟩:=id hcC
  unfold chF at hoC
  clear hplC RzC hA hA' hB hC hw6
  walk_at "rd*"
  refine⟨ds,hcC,l8,okd,?_⟩
  rintro _ HD ⟨lD,rfl,nD,SD,hD⟩
  rw [hid.2.2.1] at hD
  have hwD:=SD _ _ hwC
  have htD:=SD _ _ htC
  have hcD:=hcC.same SD
  have hoD:=SD _ _ hoC
  clear hwC htC hoC
  walk_at "rd*"
  refine h8z (SqL.of hD) (SqL.of hwD) hid.2.2.2.2 hid.2.2.2.2 ?_
  rw [decide_eq_true rfl]
  clear hD
  walk_at "rd*"
  refine⟨n,rfl,ds,hcD,l8,(fun d hd=>⟨(ok d hd).1,(ok d hd).2 n n2⟩),?_⟩
  rintro _ HE ⟨lE,rfl,nE,SE,hE⟩
  rw [hid.1 n] at hE
  have hwE:=SE _ _ hwD
  have htE:=SE _ _ htD
  clear hwD htD hoD
  walk_at "rd*"
  refine fun lF HF nF SF hF=>?_
  have hEF:=SF _ _ hE
  have ec : d7r ((ds.map fun d => (b6q n d).word).map V.str ++ [V.str (Str.ofString "gain:1/1")]) none (some (ds.length : Int)) = (ds.map fun d => (b6q n d).word).map V.str := by
   refine (f3v _ _).trans ?_
   rw [List.take_append_of_le_length (by rw [List.length_map,List.length_map]; exact Nat.le_refl _),List.take_of_length_le (by rw [List.length_map,List.length_map]; exact Nat.le_refl _)]
  rw [ec] at hF
  clear hE htE hwE
  walk_at "rd"
  refine h8z (SqL.of hEF) (SqL.of hF) (hid.2.2.2.1 n) (hid.2.2.2.1 n) ?_
  rw [decide_eq_true rfl]
  clear hF hEF ec
  walk_at "rd"
  have S0F:=S06.trans (S6A.trans (SAC.trans (SD.trans (SE.trans SF))))
  exact⟨ps,ds,hcD.same (SE.trans SF),S0F _ _ hl,R.same S0F,l8,ok,fun HG SG=>q HG (S0F.trans SG)⟩
theorem k1i (T : Tx K mg A) : a1h P A.wd K mg base CX0 15 A.h3q A.g0j ["_law_script"] (h5n 63 K) := by
 have i2r:a1h P A.wd K mg base CX0 5 _ _ _ _:=j0f T
 have i2s:a1h P A.wd K mg base CX0 12 _ _ _ _:=j0j T
 have f1n:a1h P A.wd K mg base CX0 1 _ _ _ _:=i0e T
 have h1n:a1h P A.wd K mg base CX0 13 _ _ _ _:=j5r T
 have i2t:a1h P A.wd K mg base CX0 1 _ _ _ _:=j0i T
 have f0l:a1h P A.wd K mg base CX0 10 _ _ _ _:=h9w T
 have c7n:a1h P A.wd K mg base CX0 4 _ _ _ _:=j2h T
 have a3l:=T.a3l
 have a2g:=T.a2g
 have a1q:=T.a1q
 refine T.i5f.ok h3p (fun vs H Q E h=>?_) (fun cdv A' outer s H vs Q E hr h=>?_)
 ·obtain⟨a,ns,rfl,_⟩:=h
  rfl
 ·obtain⟨a,ns,rfl,hS,hl,hbit,hO,q⟩:=h
  have hu:=hr.units
  have h8c:a2p 5 _:=hr.mono (by decide)
  have h8d:a2p 12 _:=hr.mono (by decide)
  have d7o:a2p 1 _:=hr.mono (by decide)
  have g6h:a2p 13 _:=hr.mono (by decide)
  have h8e:a2p 1 _:=hr.mono (by decide)
  have c0o:a2p 11 _:=hr.mono (by decide)
  have c4t:a2p 4 _:=hr.mono (by decide)
  have hs:sizeLine=16777216:=sizeLine_eq
  refine⟨_,(a0j (b6j PassesOwn.never rfl (a5q (a5p k2y (pvF 0) a6z (a5r a0i))) (a5g (i:=1) h3p.nd rfl (Or.inr rfl))
   (c5p (a1n (i:=2) h3p.nd rfl (Or.inl rfl) (a1l b0m (a1l a5l (pvF 1) a0i) (a1l a2z (a1l f9p a0i a0i) a0i)))
   (a0j (g1w (i := 3) h3p.nd rfl rfl (d3n (by rfl) T.g4b (a0g (a1l b0m (pvF 2) a0i) a0h)) (fun _ _ _ _ _ => (a0n i2r h8c (by rfl) T.i1o T.d3z.kp T.i1n .nil a0p (a0g (a1l a2z (a1l a2z (a1l a5l (pvF 2) a0i) (a1l a5l (pvF 0) (pvF 0))) (a1l a5l a0i (pvF 0))) a0h))) (d4v (sc := a0l i9k) (N := ["_law_script", "_law_cell", "_law_mixed", "_law_parts", "_law_words"]) rfl rfl (by decide +kernel)) rfl)
   (a0j (a3v (b2g (a3t (a0n i2s h8d (by rfl) T.i1s T.d4h.kp T.i1r .nil a0p (a0g (pvF 3) (a0g (a1l b0m (a1l a5v (pvF 2) a0i) a0i) a0h)))))
   (a0k (a0r g0u))
   a1k)
   (a0j (g1w (i := 4) h3p.nd rfl rfl (a5q (pvF 3)) (fun _ _ _ _ _ => (a0n f1n d7o (by rfl) T.f8r T.c2z.kp T.f8q .nil a0p (a0g (pvF 0) (a0g a0i a0h)))) (d4v (sc := a0l i9k) (N := ["_law_script", "_law_cell", "_law_mixed", "_law_parts", "_law_words"]) rfl rfl (by decide +kernel)) rfl)
   (a0k (a3v (pw_or (b2g (a3t (a0n h1n g6h (by rfl) T.g9y T.b9w.kp T.g9x .nil a0p (a0g (a0n i2t h8e (by rfl) T.i1q T.d4g.kp T.i1p .nil a0p (a0g (pvF 4) (a0g (a1l a5v (pvF 2) a0i) a0h))) a0h)))) (pw_or1 (a1m (b7i hu) (a1s (b1y T.g3l f0l c0o (by rfl) T.h0a T.d9k .nil a0p (a0g (pvF 4) a0h)) T.a3l T.b6p c7n c4t T.d6y .nil a0p) (pvF 4) (a2n _)))).pt
   (a0k (a0r g0u))
   a1k)))))))
   (a0k (a0r g0u))),?_⟩
  walk_at "rd"
  refine⟨_,hS,fun p1 H1 n1 S1 h1=>?_⟩
  rw [i4a] at h1
  have hm1:∀ x∈g5a ns none (some 12),intBits x<=1048576:=fun x hx=>hbit x (i8o hx)
  generalize g5a ns none (some 12)=ms at h1 hm1
  walk_at "rd"
  refine⟨⟨_,SqL.of h1⟩,?_⟩
  obtain⟨Pv,pin,pout⟩:=f6w (fun i σ H'=>∃ v1 v2 v3 v4:Option V,σ = [some (.ref a),v1,v2,v3,v4]/\Same H1 H')
  refine c4v (xs:=ms.map V.int) Pv (pin _ _ _ ⟨_,_,_,_,rfl,.refl _⟩) ?_ ?_ ?_
  ·intro i σ H2 hi hp
   obtain⟨v1,v2,v3,v4,rfl,S2⟩:=pout _ _ _ hp
   exact SqL.of (S2 _ _ h1)
  ·intro i v σ H2 hv hp
   obtain⟨v1,v2,v3,v4,rfl,S2⟩:=pout _ _ _ hp
   rw [List.getElem?_map] at hv
   obtain⟨c,hc,rfl⟩:=Option.map_eq_some_iff.mp hv
   have bc:=hm1 c (List.mem_of_getElem? hc)
   obtain⟨Mid,min',mout⟩:=j8d (fun σ' H'=>∃ M:Int,σ' = [some (.ref a),some (.int c),some (.int M),v3,v4]/\H'=H2)
   walk_at "rd"
   refine⟨Mid,?_,?_⟩
   ·walk_at "rd"
    exact ⟨by walk_at "mul", by decide, min' _ _ ⟨_, rfl, rfl⟩⟩
   intro σ' H' hm
   obtain⟨M,rfl,rfl⟩:=mout _ _ hm
   obtain⟨j,ej,jl⟩:=g0t M (n:=9) (by decide)
   obtain⟨n,en,nl⟩:=g0t (M.fdiv 9) (n:=2001) (by decide)
   walk_at "rd"
   rw [ej]
   refine⟨by omega,by omega,fun D H3 n3 S3 h3=>?_⟩
   rw [Int.toNat_natCast]
   refine g1x (n:=j) (fun i ys Hx=>Same H' Hx/\Hx D=some (.lst ys)/\ys.length=i/\∃ (ps:List Addr) (ds:List Dt),ys=ps.map V.ref/\ps.length=ds.length/\(∀ (i:Nat) p d,ps[i]? = some p->ds[i]? = some d->LPk D Hx p d)/\∀ d∈ds,okN d) ⟨S3,h3,rfl,[],[],rfl,rfl,(fun i p d e=>by simp at e),fun d hd=>by cases hd⟩ (by omega) ?_ ?_ ?_
   ·intro i ys Hx hi ⟨Sx,hx,yl,_⟩
    exact⟨hx,yl⟩
   ·intro i ys Hx hi ⟨Sx,hx,yl,ps,ds,ey,pl,R,okd⟩
    walk_at "rd"
    have bi:intBits ((i:Int)*(i:Int))<=128:=intBits_mul_le (intBits_le_64 (by omega) (by omega)) (intBits_le_64 (by omega) (by omega))
    have b3:intBits (3*(i:Int))<=64:=intBits_le_64 (by omega) (by omega)
    have b7:intBits (c*7)<=1048576+64:=intBits_mul_le bc (intBits_le_64 (by decide) (by decide))
    refine ⟨by walk_at "mul", by walk_at "mul", by walk_at "mul", Nat.le_trans (intBits_add_le (Nat.le_trans (intBits_add_le b7 (Nat.le_trans bi (by decide : 128 ≤ 1048576 + 64))) (by decide : _ ≤ 1048700)) (Nat.le_trans b3 (by decide : 64 ≤ 1048700))) (by decide), fun p d H5 n5 S5 lp gn od => ⟨S5 _ _ hx, fun H6 B6 h6 => ⟨(Sx.trans S5).step n3 B6, h6, by rw [yl], ps ++ [p], by rw [ey, List.map_append]; rfl, ds ++ [d], by rw [List.length_append, List.length_append, pl]; rfl, ?_, ?_⟩⟩⟩
    ·intro k p' d' e1 e2
     rcases Nat.lt_or_ge k ds.length with z | z
     ·rw [List.getElem?_append_left (by omega)] at e1
      rw [List.getElem?_append_left z] at e2
      exact ((R k p' d' e1 e2).same S5).keep (S5 _ _ hx) B6
     ·have hk:=(List.getElem?_eq_some_iff.mp e2).1
      rw [List.length_append,List.length_singleton] at hk
      obtain rfl:k=ds.length:=by omega
      rw [<- pl,List.getElem?_concat_length] at e1
      rw [List.getElem?_concat_length] at e2
      cases e1
      cases e2
      exact LPk.keep ⟨lp,fun g k m t e z=>by have:=gn g k m t e; rw [z,hx] at this; cases this⟩ (S5 _ _ hx) B6
    ·intro e he
     rcases List.mem_append.mp he with z | z
     ·exact okd e z
     ·rw [List.mem_singleton.mp z]
      exact od
   ·intro ys H4 ⟨S4,h4,yl,ps,ds,ey,pl,R,okd⟩
    subst ey
    have R4:LPs H4 ps ds:=⟨pl,fun i p d e1 e2=>(R i p d e1 e2).1⟩
    have d8:ds.length<=8:=by rw [List.length_map] at yl; omega
    clear R h3 yl
    walk_at "rd*"
    have hw5:=(id h4:id _)
    refine⟨⟨by decide,by decide⟩,n,rfl,by omega,ps,rfl,ds,R4,d8,okd,fun H5 S5=>?_⟩
    have h5:H5 D=some (.lst (ps.map V.ref)):=S5 _ _ hw5
    have R5:=R4.same S5
    clear h4 hw5
    refine⟨⟨_,SqL.of h5⟩,fun lw H6 nw S6 h6=>?_⟩
    refine words_of (n:=0) h5 R5 d8 okd nw S6 h6 (fun p d H' Q' hp od q'=>?_) fun H7 S7 h7=>?_
    ·walk_at "rd"
     exact⟨0,rfl,by decide,d,hp,od,q'⟩
    rw [show (ds.map fun d=>V.str (b6q 0 d).word)=ds.map fun d=>V.str d.word from List.map_congr_left fun d _=>by rw [j2m]] at h7
    have od:∀ d∈ds,d.ok:=fun d hd=>(okd d hd).1
    have h7':=(id h7:id _)
    clear h6 h5
    walk_at "rd*"
    have h7:H7 lw=some (.lst (ds.map fun d=>V.str d.word)):=h7'
    refine⟨⟨by decide,by decide⟩,ds,rfl,d8,od,fun v H8 S8 bad=>⟨bad,fun H9 S9=>?_⟩⟩
    have h9:=S9 _ _ (S8 _ _ h7)
    clear h7 h7'
    try walk_at "rd"
    intro o dx HA no ndx dne SA hdx ho
    refine⟨dx,ds,ho,SA _ _ h9,d8,od,fun HB BB hcB=>?_⟩
    have S9B:Same H9 HB:=SA.step no BB
    have hwB:=S9B _ _ h9
    obtain⟨dxB,plB,slB,osB,hoB,hplB,RzB⟩:=id hcB
    unfold chF at hoB
    clear hplB RzB ho h9 hdx
    walk_at "rd*"
    refine⟨ds,hcB,d8,od,?_⟩
    rintro _ HC ⟨lC,rfl,nC,SC,hC⟩
    have ew0:(ds.map fun d=>V.str d.word)=(ds.map Dt.word).map V.str:=by rw [List.map_map]; rfl
    have so0:∀ z∈ds.map Dt.word,PyData.strOk z=true:=fun z hz=>by
     obtain⟨d,_,rfl⟩:=List.mem_map.mp hz
     exact h1l _
    have hwC:=SC _ _ hwB
    rw [ew0] at hC hwC
    clear ew0
    walk_at "rd"
    refine g8l (SqL.of hC) (SqL.of hwC) so0 so0 ?_
    rw [decide_eq_true rfl]
    walk_at "rd"
    exact pin _ _ _ ⟨_,_,_,_,rfl,S2.trans (S4.trans (S5.trans (S7.trans (S8.trans (S9.trans (S9B.trans SC))))))⟩
  ·intro σ H2 hp
   obtain⟨v1,v2,v3,v4,rfl,S2⟩:=pout _ _ _ hp
   walk_at "rd"
   exact q _
theorem len1{α:Type _}{us:List α}(h:us.length=1):∃ a,us = [a]:=match us,h with | [a],_=>⟨a,rfl⟩
local macro_rules | `(tactic| walk_at "b1") => `(tactic| (intro _ _ _ _ _ _ us hl; obtain ⟨_, e⟩ := len1 hl; subst e; rfl))
theorem len2{α:Type _}{us:List α}(h:us.length=2):∃ a b,us = [a,b]:=match us,h with | [a,b],_=>⟨a,b,rfl⟩
local macro_rules | `(tactic| walk_at "b2") => `(tactic| (intro _ _ _ _ _ _ us hl; obtain ⟨_, _, e⟩ := len2 hl; subst e; rfl))
theorem len3{α:Type _}{us:List α}(h:us.length=3):∃ a b c,us = [a,b,c]:=match us,h with | [a,b,c],_=>⟨a,b,c,rfl⟩
local macro_rules | `(tactic| walk_at "b3") => `(tactic| (intro _ _ _ _ _ _ us hl; obtain ⟨_, _, _, e⟩ := len3 hl; subst e; rfl))
theorem len4{α:Type _}{us:List α}(h:us.length=4):∃ a b c d,us = [a,b,c,d]:=match us,h with | [a,b,c,d],_=>⟨a,b,c,d,rfl⟩
local macro_rules | `(tactic| walk_at "b4") => `(tactic| (intro _ _ _ _ _ _ us hl; obtain ⟨_, _, _, _, e⟩ := len4 hl; subst e; rfl))
theorem all_mk {l : W.OpenLaw} {K : W.Frag} {h : Heap} {mg : Str → Option Value} {fa : Addr} {c0u b2n b7k c5h c0y c1g g2y f2k c9k c1i a5z a6g a9q a6h a9r a9w a6i c1k b7m b3r c1l b7o b3t b7p b6v c1m b7s b7t b3y c1n c1o b7w b7y b4h c1p c1q b8h b4j c1r a7h b6w g2z a9y b8k b4l b4m b1g b4n b8l b2o a8h b2q a8i b9p b4p b9q b9r b9s a8j b4q c5i b8m b2s b4r b1j b4s b4t b4u b7h b0g b2t c1y b2u b0h c2g c2i b2v c2k c2m b0i c2o h3q a3g a3k a1i a0w a5t a7r a7s b6i a4z a7t a5u d8o b2w a6t a8k a9s b0o a6j b2y a2s : Addr} {c0v b3l b6u c0w c0z c1h f7l f0v c7q c1j a6p a6q b3m b3n b3o b0q b3p b7l b3q b0r b7n b3s b0s b3u b7q b7r b3v b3w b0t b7u b7v b3z b4g b0u b7z b8g b4i b0v b8i a7w b8j f7m b0w b4k b0y b0z a9h b1h b4o b2p a8r b2r a8s c1s b6y c1t c1u c1v a8t b6z c1w b7g a9z b1i a9i b1k b1l b1m b8n b1n b4v c1z b4w b1o c2h c2j b4y c2l c2n b1p c2p g0j : FuncData} {d3u a5n a5o c2q c2r b8o d3v b1q b8p : Value} {wd : World} {es_READERS : Array DictEntry} {n_READERS : Nat} (X : K.In h) (G : h.Ns mainGlobals mg) (hfa : mg "law" = some (.ref fa)) (Y : Ty K ⟨c0u, c0v, b2n, b3l, b7k, b6u, c5h, c0w, c0y, c0z, c1g, c1h, g2y, f7l, f2k, f0v, c9k, c7q, c1i, c1j, a5z, a6p, a6g, a6q, a9q, b3m, a6h, b3n, a9r, b3o, a9w, b0q, a6i, b3p, c1k, b7l, b7m, b3q, b3r, b0r, c1l, b7n, b7o, b3s, b3t, b0s, b7p, b3u, b6v, b7q, c1m, b7r, b7s, b3v, b7t, b3w, b3y, b0t, c1n, b7u, c1o, b7v, b7w, b3z, b7y, b4g, b4h, b0u, c1p, b7z, c1q, b8g, b8h, b4i, b4j, b0v, c1r, b8i, a7h, a7w, b6w, b8j, g2z, f7m, a9y, b0w, b8k, b4k, b4l, b0y, b4m, b0z, b1g, a9h, b4n, b1h, b8l, b4o, b2o, b2p, a8h, a8r, b2q, b2r, a8i, a8s, b9p, c1s, b4p, b6y, b9q, c1t, b9r, c1u, b9s, c1v, a8j, a8t, b4q, b6z, c5i, c1w, b8m, b7g, b2s, a9z, b4r, b1i, b1j, a9i, b4s, b1k, b4t, b1l, b4u, b1m, b7h, b8n, b0g, b1n, b2t, b4v, c1y, c1z, b2u, b4w, b0h, b1o, c2g, c2h, c2i, c2j, b2v, b4y, c2k, c2l, c2m, c2n, b0i, b1p, c2o, c2p, h3q, g0j, a3g, a3k, a1i, a0w, a5t, a7r, a7s, b6i, a4z, a7t, a5u, d8o, b2w, a6t, a8k, a9s, b0o, a6j, b2y, d3u, a5n, a5o, c2q, c2r, b8o, d3v, b1q, b8p, a2s, wd⟩) (ld_READERS : K.lookup a2s = some ⟨.type "dict", none, .dict es_READERS n_READERS, #[]⟩) (kd_READERS : W.KeysLit wd.params es_READERS.toList) (ne_READERS : (a2s == sysModules) = false) : ∃ fd : FuncData, (∀ (s : Shared) (v : Value), BindsTo s fd ⟨[v], []⟩ [("_law_script", v)]) ∧ ∀ base : Heap, K.In base → base.Ns mainGlobals mg → a1h l.prog wd K mg base CX0 15 fa fd ["_law_script"] (h5n 63 K) := by
 have ea:fa=h3q:=by injection (hfa.symm.trans (W.mg_of X G Y.i9m)) with e; injection e
 rw [ea]
 have T : Tx K mg ⟨c0u, c0v, b2n, b3l, b7k, b6u, c5h, c0w, c0y, c0z, c1g, c1h, g2y, f7l, f2k, f0v, c9k, c7q, c1i, c1j, a5z, a6p, a6g, a6q, a9q, b3m, a6h, b3n, a9r, b3o, a9w, b0q, a6i, b3p, c1k, b7l, b7m, b3q, b3r, b0r, c1l, b7n, b7o, b3s, b3t, b0s, b7p, b3u, b6v, b7q, c1m, b7r, b7s, b3v, b7t, b3w, b3y, b0t, c1n, b7u, c1o, b7v, b7w, b3z, b7y, b4g, b4h, b0u, c1p, b7z, c1q, b8g, b8h, b4i, b4j, b0v, c1r, b8i, a7h, a7w, b6w, b8j, g2z, f7m, a9y, b0w, b8k, b4k, b4l, b0y, b4m, b0z, b1g, a9h, b4n, b1h, b8l, b4o, b2o, b2p, a8h, a8r, b2q, b2r, a8i, a8s, b9p, c1s, b4p, b6y, b9q, c1t, b9r, c1u, b9s, c1v, a8j, a8t, b4q, b6z, c5i, c1w, b8m, b7g, b2s, a9z, b4r, b1i, b1j, a9i, b4s, b1k, b4t, b1l, b4u, b1m, b7h, b8n, b0g, b1n, b2t, b4v, c1y, c1z, b2u, b4w, b0h, b1o, c2g, c2h, c2i, c2j, b2v, b4y, c2k, c2l, c2m, c2n, b0i, b1p, c2o, c2p, h3q, g0j, a3g, a3k, a1i, a0w, a5t, a7r, a7s, b6i, a4z, a7t, a5u, d8o, b2w, a6t, a8k, a9s, b0o, a6j, b2y, d3u, a5n, a5o, c2q, c2r, b8o, d3v, b1q, b8p, a2s, wd⟩ := ⟨Y, Y.c7r.binds (by walk_at "b1"), W.mg_of X G Y.f7o, Y.a9t.binds (by walk_at "b1"), W.mg_of X G Y.d8p, Y.c2s.binds (by walk_at "b1"), W.mg_of X G Y.f7p, Y.d3w.binds (by walk_at "b2"), W.mg_of X G Y.g3e, Y.d3y.binds (by walk_at "b2"), W.mg_of X G Y.f7q, Y.b1r.binds (by walk_at "b2"), W.mg_of X G Y.f7r, Y.g7c.binds (by walk_at "b2"), W.mg_of X G Y.i5c, Y.f2s.binds (by walk_at "b2"), W.mg_of X G Y.h6m, Y.b9t.binds (by walk_at "b1"), W.mg_of X G Y.g3f, Y.c2t.binds (by walk_at "b2"), W.mg_of X G Y.f7s, Y.a3q.binds (by walk_at "b1"), W.mg_of X G Y.c9l, Y.a7i.binds (by walk_at "b1"), W.mg_of X G Y.c9m, Y.d1g.binds (by walk_at "b1"), Y.d1h.binds (by walk_at "b1"), Y.d1i.binds (by walk_at "b1"), Y.c6p.binds (by walk_at "b1"), Y.d1j.binds (by walk_at "b2"), Y.d6k.binds (by walk_at "b2"), Y.d1k.binds (by walk_at "b1"), Y.c6q.binds (by walk_at "b1"), Y.d6l.binds (by walk_at "b1"), Y.d1l.binds (by walk_at "b2"), Y.c6r.binds (by walk_at "b1"), Y.d1m.binds (by walk_at "b1"), Y.c2u.binds (by walk_at "b2"), W.mg_of X G Y.f2n, Y.d6m.binds (by walk_at "b4"), Y.d1n.binds (by walk_at "b1"), Y.d1o.binds (by walk_at "b1"), Y.c6s.binds (by walk_at "b1"), Y.d6n.binds (by walk_at "b1"), Y.d6o.binds (by walk_at "b3"), Y.d1p.binds (by walk_at "b1"), Y.d1q.binds (by walk_at "b1"), Y.c6t.binds (by walk_at "b1"), Y.d6p.binds (by walk_at "b1"), Y.d6q.binds (by walk_at "b3"), Y.d1r.binds (by walk_at "b1"), Y.c6u.binds (by walk_at "b1"), Y.d6r.binds (by walk_at "b1"), Y.b2z.binds (by walk_at "b1"), W.mg_of X G Y.c9n, Y.c9r.binds (by walk_at "b1"), W.mg_of X G Y.f2o, Y.g7d.binds (by walk_at "b2"), W.mg_of X G Y.i5d, Y.b9u.binds (by walk_at "b1"), W.mg_of X G Y.d5k, Y.d1s.binds (by walk_at "b2"), Y.c6v.binds (by walk_at "b1"), Y.c6w.binds (by walk_at "b1"), Y.c4r.binds (by walk_at "b1"), Y.c6y.binds (by walk_at "b2"), Y.d1t.binds (by walk_at "b1"), Y.a5m.binds (by walk_at "b1"), W.mg_of X G Y.f2p, Y.a4y.binds (by walk_at "b3"), W.mg_of X G Y.d5l, Y.a7j.binds (by walk_at "b1"), W.mg_of X G Y.f2q, Y.a2v.binds (by walk_at "b2"), W.mg_of X G Y.d5m, Y.c9s.binds (by walk_at "b1"), W.mg_of X G Y.g3g, Y.c2v.binds (by walk_at "b1"), W.mg_of X G Y.f7t, Y.c9t.binds (by walk_at "b1"), W.mg_of X G Y.g3h, Y.c9u.binds (by walk_at "b1"), W.mg_of X G Y.g3i, Y.c9v.binds (by walk_at "b1"), W.mg_of X G Y.g3j, Y.b0j.binds (by walk_at "b1"), W.mg_of X G Y.d5n, Y.c2w.binds (by walk_at "b1"), W.mg_of X G Y.f7u, Y.c9w.binds (by walk_at "b1"), W.mg_of X G Y.g3k, Y.c2y.binds (by walk_at "b1"), W.mg_of X G Y.f7v, Y.c5j.binds (by walk_at "b2"), Y.c6z.binds (by walk_at "b1"), Y.c4s.binds (by walk_at "b1"), Y.c7g.binds (by walk_at "b1"), Y.c7h.binds (by walk_at "b1"), Y.c7i.binds (by walk_at "b2"), Y.b3g.binds (by walk_at "b1"), W.mg_of X G Y.f2r, Y.b4z.binds (by walk_at "b2"), W.mg_of X G Y.d5o, Y.b3h.binds (by walk_at "b2"), W.mg_of X G Y.d8q, Y.b5g.binds (by walk_at "b1"), W.mg_of X G Y.f7w, Y.c5k.binds (by walk_at "b1"), W.mg_of X G Y.d8r, Y.b9v.binds (by walk_at "b1"), W.mg_of X G Y.d5p, Y.d3z.binds (by walk_at "b1"), W.mg_of X G Y.f7y, Y.c2z.binds (by walk_at "b2"), W.mg_of X G Y.f7z, Y.c5l.binds (by walk_at "b1"), W.mg_of X G Y.d8s, Y.c7s.binds (by walk_at "b2"), W.mg_of X G Y.f8g, Y.d4g.binds (by walk_at "b2"), W.mg_of X G Y.f8h, Y.b9w.binds (by walk_at "b1"), W.mg_of X G Y.d5q, Y.d4h.binds (by walk_at "b2"), W.mg_of X G Y.f8i, Y.i5f.binds (by walk_at "b1"), W.mg_of X G Y.i9m, W.mg_none_of X G Y.d8t, W.mg_none_of X G Y.j4a, W.mg_none_of X G Y.y_bool, W.mg_none_of X G Y.j4b, W.mg_none_of X G Y.d8u, W.mg_none_of X G Y.j4c, W.mg_none_of X G Y.i5g, W.mg_none_of X G Y.j4d, W.mg_none_of X G Y.h6n, W.mg_none_of X G Y.j4e, W.mg_none_of X G Y.j4f, W.mg_none_of X G Y.h6o, W.mg_none_of X G Y.j4g, W.mg_of X G Y.f2l, W.mg_of X G Y.f2m, W.mg_of X G Y.g3a, W.mg_of X G Y.g3b, W.mg_of X G Y.g3c, W.mg_of X G Y.g9b, W.mg_of X G Y.g9c, W.mg_of X G Y.h6g, W.mg_of X G Y.f7n, W.mg_of X G Y.g9d, W.mg_of X G Y.g3d, W.mg_of X G Y.h6h, W.mg_of X G Y.h6i, W.mg_of X G Y.g9e, W.mg_of X G Y.h6j, W.mg_of X G Y.h6k, W.mg_of X G Y.h6l, W.mg_of X G Y.g9f, W.mg_of X G Y.g9g, ⟨Y.g3m⟩, ⟨Y.g3n⟩, ⟨Y.b5h, Y.b5i, Y.b5j, Y.b5k, Y.b5l, Y.b5m, Y.b5n, Y.b5o⟩, ⟨Y.b8q, Y.b8r, Y.b8s, Y.b8t, Y.b8u, Y.b8v, Y.b8w, Y.b8y⟩, ⟨Y.c7t, Y.c7u, Y.c7v, Y.c7w, Y.c7y, Y.c7z, Y.c8g, Y.c8h⟩, ⟨Y.c3g, Y.c3h, Y.c3i, Y.c3j, Y.c3k, Y.c3l, Y.c3m, Y.c3n⟩, ⟨Y.c3o, Y.c3p, Y.c3q, Y.c3r, Y.c3s, Y.c3t, Y.c3u, Y.c3v⟩, ⟨Y.b5p, Y.b5q, Y.b5r, Y.b5s, Y.b5t, Y.b5u, Y.b5v, Y.b5w⟩, ⟨Y.a3w, Y.a3y, Y.a3z, Y.a4g, Y.a4h, Y.a4i, Y.a4j, Y.a4k⟩, ⟨Y.c8i, Y.c8j, Y.c8k, Y.c8l, Y.c8m, Y.c8n, Y.c8o, Y.c8p⟩, ⟨Y.a4l, Y.a4m, Y.a4n, Y.a4o, Y.a4p, Y.a4q, Y.a4r, Y.a4s⟩, ⟨Y.d4i, Y.d4j, Y.d4k, Y.d4l, Y.d4m, Y.d4n, Y.d4o, Y.d4p⟩, ⟨Y.c8q, Y.c8r, Y.c8s, Y.c8t, Y.c8u, Y.c8v, Y.c8w, Y.c8y⟩, a7q Y.b9y ⟨Y.a4l, Y.a4m, Y.a4n, Y.a4o, Y.a4p, Y.a4q, Y.a4r, Y.a4s⟩ ⟨Y.b5h, Y.b5i, Y.b5j, Y.b5k, Y.b5l, Y.b5m, Y.b5n, Y.b5o⟩, a7q Y.c3w ⟨Y.a4l, Y.a4m, Y.a4n, Y.a4o, Y.a4p, Y.a4q, Y.a4r, Y.a4s⟩ ⟨Y.b8q, Y.b8r, Y.b8s, Y.b8t, Y.b8u, Y.b8v, Y.b8w, Y.b8y⟩, a7q Y.c9y ⟨Y.a4l, Y.a4m, Y.a4n, Y.a4o, Y.a4p, Y.a4q, Y.a4r, Y.a4s⟩ ⟨Y.c7t, Y.c7u, Y.c7v, Y.c7w, Y.c7y, Y.c7z, Y.c8g, Y.c8h⟩, a7q Y.c5r ⟨Y.a4l, Y.a4m, Y.a4n, Y.a4o, Y.a4p, Y.a4q, Y.a4r, Y.a4s⟩ ⟨Y.c3g, Y.c3h, Y.c3i, Y.c3j, Y.c3k, Y.c3l, Y.c3m, Y.c3n⟩, a7q Y.c5s ⟨Y.a4l, Y.a4m, Y.a4n, Y.a4o, Y.a4p, Y.a4q, Y.a4r, Y.a4s⟩ ⟨Y.c3o, Y.c3p, Y.c3q, Y.c3r, Y.c3s, Y.c3t, Y.c3u, Y.c3v⟩, a7q Y.b9z ⟨Y.a4l, Y.a4m, Y.a4n, Y.a4o, Y.a4p, Y.a4q, Y.a4r, Y.a4s⟩ ⟨Y.b5p, Y.b5q, Y.b5r, Y.b5s, Y.b5t, Y.b5u, Y.b5v, Y.b5w⟩, a7q Y.c5t ⟨Y.a4l, Y.a4m, Y.a4n, Y.a4o, Y.a4p, Y.a4q, Y.a4r, Y.a4s⟩ ⟨Y.a3w, Y.a3y, Y.a3z, Y.a4g, Y.a4h, Y.a4i, Y.a4j, Y.a4k⟩, a7q Y.c9z ⟨Y.a4l, Y.a4m, Y.a4n, Y.a4o, Y.a4p, Y.a4q, Y.a4r, Y.a4s⟩ ⟨Y.c8i, Y.c8j, Y.c8k, Y.c8l, Y.c8m, Y.c8n, Y.c8o, Y.c8p⟩, a7q Y.c5u ⟨Y.a4l, Y.a4m, Y.a4n, Y.a4o, Y.a4p, Y.a4q, Y.a4r, Y.a4s⟩ ⟨Y.a4l, Y.a4m, Y.a4n, Y.a4o, Y.a4p, Y.a4q, Y.a4r, Y.a4s⟩, a7q Y.d2w ⟨Y.a4l, Y.a4m, Y.a4n, Y.a4o, Y.a4p, Y.a4q, Y.a4r, Y.a4s⟩ ⟨Y.d4i, Y.d4j, Y.d4k, Y.d4l, Y.d4m, Y.d4n, Y.d4o, Y.d4p⟩, a7q Y.d0h ⟨Y.a4l, Y.a4m, Y.a4n, Y.a4o, Y.a4p, Y.a4q, Y.a4r, Y.a4s⟩ ⟨Y.c8q, Y.c8r, Y.c8s, Y.c8t, Y.c8u, Y.c8v, Y.c8w, Y.c8y⟩, h8k Y.b6l h2r, a7q Y.c0g ⟨Y.a3w, Y.a3y, Y.a3z, Y.a4g, Y.a4h, Y.a4i, Y.a4j, Y.a4k⟩ ⟨Y.b5h, Y.b5i, Y.b5j, Y.b5k, Y.b5l, Y.b5m, Y.b5n, Y.b5o⟩, a7q Y.c3z ⟨Y.a3w, Y.a3y, Y.a3z, Y.a4g, Y.a4h, Y.a4i, Y.a4j, Y.a4k⟩ ⟨Y.b8q, Y.b8r, Y.b8s, Y.b8t, Y.b8u, Y.b8v, Y.b8w, Y.b8y⟩, a7q Y.d0i ⟨Y.a3w, Y.a3y, Y.a3z, Y.a4g, Y.a4h, Y.a4i, Y.a4j, Y.a4k⟩ ⟨Y.c7t, Y.c7u, Y.c7v, Y.c7w, Y.c7y, Y.c7z, Y.c8g, Y.c8h⟩, a7q Y.c5v ⟨Y.a3w, Y.a3y, Y.a3z, Y.a4g, Y.a4h, Y.a4i, Y.a4j, Y.a4k⟩ ⟨Y.c3g, Y.c3h, Y.c3i, Y.c3j, Y.c3k, Y.c3l, Y.c3m, Y.c3n⟩, a7q Y.c5w ⟨Y.a3w, Y.a3y, Y.a3z, Y.a4g, Y.a4h, Y.a4i, Y.a4j, Y.a4k⟩ ⟨Y.c3o, Y.c3p, Y.c3q, Y.c3r, Y.c3s, Y.c3t, Y.c3u, Y.c3v⟩, a7q Y.c0h ⟨Y.a3w, Y.a3y, Y.a3z, Y.a4g, Y.a4h, Y.a4i, Y.a4j, Y.a4k⟩ ⟨Y.b5p, Y.b5q, Y.b5r, Y.b5s, Y.b5t, Y.b5u, Y.b5v, Y.b5w⟩, a7q Y.c5y ⟨Y.a3w, Y.a3y, Y.a3z, Y.a4g, Y.a4h, Y.a4i, Y.a4j, Y.a4k⟩ ⟨Y.a3w, Y.a3y, Y.a3z, Y.a4g, Y.a4h, Y.a4i, Y.a4j, Y.a4k⟩, a7q Y.d0j ⟨Y.a3w, Y.a3y, Y.a3z, Y.a4g, Y.a4h, Y.a4i, Y.a4j, Y.a4k⟩ ⟨Y.c8i, Y.c8j, Y.c8k, Y.c8l, Y.c8m, Y.c8n, Y.c8o, Y.c8p⟩, a7q Y.c5z ⟨Y.a3w, Y.a3y, Y.a3z, Y.a4g, Y.a4h, Y.a4i, Y.a4j, Y.a4k⟩ ⟨Y.a4l, Y.a4m, Y.a4n, Y.a4o, Y.a4p, Y.a4q, Y.a4r, Y.a4s⟩, a7q Y.d2y ⟨Y.a3w, Y.a3y, Y.a3z, Y.a4g, Y.a4h, Y.a4i, Y.a4j, Y.a4k⟩ ⟨Y.d4i, Y.d4j, Y.d4k, Y.d4l, Y.d4m, Y.d4n, Y.d4o, Y.d4p⟩, a7q Y.d0k ⟨Y.a3w, Y.a3y, Y.a3z, Y.a4g, Y.a4h, Y.a4i, Y.a4j, Y.a4k⟩ ⟨Y.c8q, Y.c8r, Y.c8s, Y.c8t, Y.c8u, Y.c8v, Y.c8w, Y.c8y⟩, h8k Y.b6m h2r, b9i Y.c6g ⟨Y.b5h, Y.b5i, Y.b5j, Y.b5k, Y.b5l, Y.b5m, Y.b5n, Y.b5o⟩, b9i Y.d0l ⟨Y.b8q, Y.b8r, Y.b8s, Y.b8t, Y.b8u, Y.b8v, Y.b8w, Y.b8y⟩, b9i Y.d6s ⟨Y.c7t, Y.c7u, Y.c7v, Y.c7w, Y.c7y, Y.c7z, Y.c8g, Y.c8h⟩, b9i Y.d2z ⟨Y.c3g, Y.c3h, Y.c3i, Y.c3j, Y.c3k, Y.c3l, Y.c3m, Y.c3n⟩, b9i Y.d3g ⟨Y.c3o, Y.c3p, Y.c3q, Y.c3r, Y.c3s, Y.c3t, Y.c3u, Y.c3v⟩, b9i Y.c6h ⟨Y.b5p, Y.b5q, Y.b5r, Y.b5s, Y.b5t, Y.b5u, Y.b5v, Y.b5w⟩, b9i Y.d3h ⟨Y.a3w, Y.a3y, Y.a3z, Y.a4g, Y.a4h, Y.a4i, Y.a4j, Y.a4k⟩, b9i Y.d6t ⟨Y.c8i, Y.c8j, Y.c8k, Y.c8l, Y.c8m, Y.c8n, Y.c8o, Y.c8p⟩, b9i Y.d3i ⟨Y.a4l, Y.a4m, Y.a4n, Y.a4o, Y.a4p, Y.a4q, Y.a4r, Y.a4s⟩, b9i Y.d8w ⟨Y.d4i, Y.d4j, Y.d4k, Y.d4l, Y.d4m, Y.d4n, Y.d4o, Y.d4p⟩, b9i Y.d6u ⟨Y.c8q, Y.c8r, Y.c8s, Y.c8t, Y.c8u, Y.c8v, Y.c8w, Y.c8y⟩, (by kernel_rfl), W.mg_of X G Y.f8j, W.mg_of X G Y.b1v, W.mg_of X G Y.b1w, W.mg_of X G Y.d8y, W.mg_of X G Y.d8z, W.mg_of X G Y.d6v, W.mg_of X G Y.f8l, W.mg_of X G Y.d0m, W.mg_of X G Y.d6w, W.mg_of X G Y.f8m, ⟨⟨_, _, ld_READERS, kd_READERS⟩, ne_READERS⟩⟩
 obtain⟨_,_,_,_,_,_,_,_,_,e,_,_⟩:=Y.i5f.ex
 exact⟨g0j,fun s v=>by have e':g0j=_:=e; rw [e']; exact .of_eq rfl,fun base _ _=>k1i T⟩
end My
namespace PySem.W.Fast
theorem tw13100741125116022773:1=1:=rfl
theorem tw4151813470265447707:1=1:=rfl
theorem tw6009415155001914148:1=1:=rfl
theorem tw2161083817565166955:1=1:=rfl
theorem tw1287931131937296817:1=1:=rfl
theorem tw17484234239379186039:1=1:=rfl
theorem tw2479221303821893014:1=1:=rfl
theorem tw16399907390577693245:1=1:=rfl
theorem tw10035315379785034488:1=1:=rfl
theorem tw5603733322810313623:1=1:=rfl
theorem tw8577508911694524831:1=1:=rfl
theorem tw16942725286219727308:1=1:=rfl
theorem tw683878379841059057:1=1:=rfl
theorem tw10544865310882957362:1=1:=rfl
theorem tw10008284303920977672:1=1:=rfl
theorem tw15363589714380329469:1=1:=rfl
theorem tw5711041016922367774:1=1:=rfl
theorem tw10591981555095357383:1=1:=rfl
theorem tw2017733508218498853:1=1:=rfl
theorem tw4756891254096447165:1=1:=rfl
theorem tw2522117138103474471:1=1:=rfl
theorem tw9857150471350854361:1=1:=rfl
theorem tw3681819033126118353:1=1:=rfl
theorem tw1173841083088345309:1=1:=rfl
theorem tw20941688621548975:1=1:=rfl
theorem tw9760975931757171538:1=1:=rfl
theorem tw9547005765841785372:1=1:=rfl
theorem tw841936440270948304:1=1:=rfl
theorem tw4455233495494942090:1=1:=rfl
theorem tw17840464649955480344:1=1:=rfl
theorem tw18161446799458085656:1=1:=rfl
theorem tw12873961732306270743:1=1:=rfl
theorem tw9273862585473867612:1=1:=rfl
theorem tw9731598188370441953:1=1:=rfl
theorem tw13241110471738716082:1=1:=rfl
theorem tw6626506036210982851:1=1:=rfl
theorem tw11661092769130012481:1=1:=rfl
theorem tw11788696464143145066:1=1:=rfl
theorem tw7132873726228003588:1=1:=rfl
theorem tw9521050989669475602:1=1:=rfl
theorem tw13213188251547529025:1=1:=rfl
theorem tw6313248375893383738:1=1:=rfl
theorem tw17774205305470949955:1=1:=rfl
theorem tw2429046887825311311:1=1:=rfl
theorem tw9621285894452554605:1=1:=rfl
theorem tw10309029546816363708:1=1:=rfl
theorem tw2044086599253429133:1=1:=rfl
theorem tw12308540620336257780:1=1:=rfl
theorem tw8136702817692953698:1=1:=rfl
theorem tw1396135944439304817:1=1:=rfl
theorem tw16801001681409407405:1=1:=rfl
theorem tw297994569044998426:1=1:=rfl
theorem tw4586995802282688653:1=1:=rfl
theorem tw14965820446123334005:1=1:=rfl
theorem tw11848083403816244438:1=1:=rfl
theorem tw11054084333018103548:1=1:=rfl
theorem tw15382624939669816112:1=1:=rfl
theorem tw16618410873382784293:1=1:=rfl
theorem tw15870553248319654051:1=1:=rfl
theorem tw666061388996921842:1=1:=rfl
theorem tw20668232439410174:1=1:=rfl
theorem tw16457088547781950281:1=1:=rfl
theorem tw9798042688701568766:1=1:=rfl
theorem tw3649845084490488251:1=1:=rfl
theorem tw17963742277033148019:1=1:=rfl
theorem tw1935924304939126956:1=1:=rfl
theorem tw5476686878864510224:1=1:=rfl
theorem tw13650704226810911651:1=1:=rfl
theorem tw48306644278935090:1=1:=rfl
theorem tw14845730350958630507:1=1:=rfl
theorem tw1587017382443588957:1=1:=rfl
theorem tw8705968191378171103:1=1:=rfl
theorem tw5816422894748482147:1=1:=rfl
theorem tw6010177264882631296:1=1:=rfl
theorem tw14191556834911195183:1=1:=rfl
theorem tw14267534174180229483:1=1:=rfl
theorem tw16457648918764868535:1=1:=rfl
theorem tw9630269777218551223:1=1:=rfl
theorem tw15920863006649095324:1=1:=rfl
theorem tw16684827037597039029:1=1:=rfl
theorem tw9657540850643443098:1=1:=rfl
theorem tw4411676976666779256:1=1:=rfl
theorem tw3793375418130191794:1=1:=rfl
theorem tw14497498736884066492:1=1:=rfl
theorem tw13363259194776672885:1=1:=rfl
theorem tw4779199651603268104:1=1:=rfl
theorem tw748499510042684712:1=1:=rfl
theorem tw8391892378775620619:1=1:=rfl
theorem tw11325900707766996113:1=1:=rfl
theorem tw11939794185661671785:1=1:=rfl
theorem tw2064668735801604636:1=1:=rfl
theorem tw17013258498657082985:1=1:=rfl
theorem tw3603928785192052819:1=1:=rfl
theorem tw16179888632690620655:1=1:=rfl
theorem tw4382972748616083080:1=1:=rfl
theorem tw11951478931775231594:1=1:=rfl
theorem tw14832518920989984830:1=1:=rfl
theorem tw9235967089918813856:1=1:=rfl
theorem tw14581159967632361893:1=1:=rfl
theorem tw6989631436337919763:1=1:=rfl
theorem tw7854559996239833029:1=1:=rfl
theorem tw8632998965092711367:1=1:=rfl
theorem tw17962075265195260686:1=1:=rfl
theorem tw15218539620284372874:1=1:=rfl
theorem tw9552658435572354865:1=1:=rfl
theorem tw2688395054506082802:1=1:=rfl
theorem tw15801343112590106060:1=1:=rfl
theorem tw14317211318273339679:1=1:=rfl
theorem tw15555567889065008636:1=1:=rfl
theorem tw1203070556908819978:1=1:=rfl
theorem tw13220604338763321328:1=1:=rfl
theorem tw9192041786763163932:1=1:=rfl
theorem tw16251247365803457059:1=1:=rfl
theorem tw17600061739870854173:1=1:=rfl
theorem tw17527469365835808230:1=1:=rfl
theorem tw15600496149874340164:1=1:=rfl
theorem tw5789359034262763070:1=1:=rfl
theorem tw2075892690506646827:1=1:=rfl
theorem tw1905684934955164768:1=1:=rfl
theorem tw16418893461883572508:1=1:=rfl
theorem tw8385465523448792315:1=1:=rfl
theorem tw6803475269804931418:1=1:=rfl
theorem tw8366656907367216880:1=1:=rfl
theorem tw5882981794618768517:1=1:=rfl
theorem tw13446349209189971611:1=1:=rfl
theorem tw2966031726485028732:1=1:=rfl
theorem tw5410239498678333807:1=1:=rfl
theorem tw12622465317103204309:1=1:=rfl
theorem tw754469753924206361:1=1:=rfl
theorem tw8526565404710466159:1=1:=rfl
theorem tw6252292647747744423:1=1:=rfl
theorem tw5943757800586893744:1=1:=rfl
theorem tw10961046674893312813:1=1:=rfl
theorem tw13328742185464189519:1=1:=rfl
theorem tw10676428023768678529:1=1:=rfl
theorem tw13953919553342194446:1=1:=rfl
theorem tw7367582961794566972:1=1:=rfl
theorem tw8661530966568829124:1=1:=rfl
theorem tw7190162967060570058:1=1:=rfl
theorem tw15826093108321699922:1=1:=rfl
theorem tw2500547002107275709:1=1:=rfl
theorem tw14712204085670236514:1=1:=rfl
theorem tw3531709875824450194:1=1:=rfl
theorem tw1837496140002271087:1=1:=rfl
theorem tw917182867370651617:1=1:=rfl
theorem tw15273794331628169031:1=1:=rfl
theorem tw3361521596542583147:1=1:=rfl
theorem tw9542140245974956044:1=1:=rfl
theorem tw464658570202740387:1=1:=rfl
theorem tw10702000328930369793:1=1:=rfl
theorem tw18172702366712610748:1=1:=rfl
theorem tw4203865371993726595:1=1:=rfl
theorem tw8231584784155755430:1=1:=rfl
theorem tw706661795744280510:1=1:=rfl
theorem tw14780868220641643303:1=1:=rfl
theorem tw10870924932993376729:1=1:=rfl
theorem tw9587278041021355549:1=1:=rfl
theorem tw3467394789175991242:1=1:=rfl
theorem tw7218133830393399614:1=1:=rfl
theorem tw1463525457002678505:1=1:=rfl
theorem tw18206251016862514557:1=1:=rfl
theorem tw16459172165226945471:1=1:=rfl
theorem tw16525393214446581308:1=1:=rfl
theorem tw7279222506653739442:1=1:=rfl
theorem tw5848562106190100602:1=1:=rfl
theorem tw1182712716992486119:1=1:=rfl
theorem tw10483332193661691482:1=1:=rfl
theorem tw18375372910740887904:1=1:=rfl
theorem tw6987685468861116311:1=1:=rfl
theorem tw18062298910314914068:1=1:=rfl
theorem tw1924068274192886775:1=1:=rfl
theorem tw17707338296867603025:1=1:=rfl
theorem tw13715668331934961883:1=1:=rfl
theorem tw16143767334156737416:1=1:=rfl
theorem tw3587601141451154150:1=1:=rfl
theorem tw256919414105980797:1=1:=rfl
theorem tw7812101390423538652:1=1:=rfl
theorem tw809512365343373724:1=1:=rfl
theorem tw15306653905846979938:1=1:=rfl
theorem tw9408124211384046871:1=1:=rfl
theorem tw17206645787080980658:1=1:=rfl
theorem tw280334476838526990:1=1:=rfl
theorem tw10804448983151354841:1=1:=rfl
theorem tw4544295569896559044:1=1:=rfl
theorem tw4009509935979665615:1=1:=rfl
theorem tw15588320942227138850:1=1:=rfl
theorem tw553666847982501895:1=1:=rfl
theorem tw9385902474388586622:1=1:=rfl
theorem tw9659657187667072895:1=1:=rfl
theorem tw13686035602537870704:1=1:=rfl
theorem tw14529860808581669030:1=1:=rfl
theorem tw13783105596373395913:1=1:=rfl
theorem tw11352731380900770533:1=1:=rfl
theorem tw18429899445930064194:1=1:=rfl
theorem tw16669271022373205494:1=1:=rfl
theorem tw74997569656027874:1=1:=rfl
theorem tw6362106491350857008:1=1:=rfl
theorem tw14010857337052816108:1=1:=rfl
theorem tw12885189705925131449:1=1:=rfl
theorem tw6602646372595690369:1=1:=rfl
theorem tw3736555505494941724:1=1:=rfl
theorem tw4184454911759326353:1=1:=rfl
theorem tw296911141912197799:1=1:=rfl
theorem tw494402867045849550:1=1:=rfl
theorem tw12615965455977786955:1=1:=rfl
theorem tw11678523692766786600:1=1:=rfl
theorem tw10246502877502170652:1=1:=rfl
theorem tw16388224735249599038:1=1:=rfl
theorem tw12245800115362677457:1=1:=rfl
theorem tw6522489352074667361:1=1:=rfl
theorem tw16364782633216268042:1=1:=rfl
theorem tw9034572590399695607:1=1:=rfl
theorem tw15097488647508068433:1=1:=rfl
theorem tw2440164904239235263:1=1:=rfl
theorem tw9167785145432825517:1=1:=rfl
theorem tw161730124964760961:1=1:=rfl
theorem tw15510226748928627085:1=1:=rfl
theorem tw7954946613141845726:1=1:=rfl
theorem tw14181173604099960808:1=1:=rfl
theorem tw15428290404599773159:1=1:=rfl
theorem tw12072437637544438035:1=1:=rfl
theorem tw7388888664985530669:1=1:=rfl
theorem tw14176916240095101628:1=1:=rfl
theorem tw16368016539233211535:1=1:=rfl
theorem tw8187707111424065337:1=1:=rfl
theorem tw3859191477268215700:1=1:=rfl
theorem tw14993125270425845058:1=1:=rfl
theorem tw2016255678624022602:1=1:=rfl
theorem tw4905940161615242256:1=1:=rfl
theorem tw14922409292346697498:1=1:=rfl
theorem tw5490728787228167449:1=1:=rfl
theorem tw17818600240446360710:1=1:=rfl
theorem tw17171515439504937356:1=1:=rfl
theorem tw7810321968922181730:1=1:=rfl
theorem tw6568331886898011895:1=1:=rfl
theorem tw6126062178409167660:1=1:=rfl
theorem tw7416115209957963378:1=1:=rfl
theorem tw7778431051004277234:1=1:=rfl
theorem tw10662480805492694634:1=1:=rfl
theorem tw7317065465364976885:1=1:=rfl
theorem tw7425777872933520072:1=1:=rfl
theorem tw8399925134635177861:1=1:=rfl
theorem tw18284144132905038188:1=1:=rfl
theorem tw16395029618505733039:1=1:=rfl
theorem tw5616224996826909635:1=1:=rfl
theorem tw16107343794889335317:1=1:=rfl
theorem tw7785399919757577522:1=1:=rfl
theorem tw17068683273948061414:1=1:=rfl
theorem tw16370201484166930472:1=1:=rfl
theorem tw6208530962106989429:1=1:=rfl
theorem tw12523063453522585985:1=1:=rfl
theorem tw15619870634937924236:1=1:=rfl
theorem tw16212414415729524248:1=1:=rfl
theorem tw11494749332791218417:1=1:=rfl
theorem tw9004816796208274030:1=1:=rfl
theorem tw18180438602418692540:1=1:=rfl
theorem tw16476458454060982140:1=1:=rfl
theorem tw5833915060854988236:1=1:=rfl
theorem tw10157973064809530595:1=1:=rfl
theorem tw8650438058997138650:1=1:=rfl
theorem tw11673809257248060417:1=1:=rfl
theorem tw590665214361828259:1=1:=rfl
theorem tw16085127196896331821:1=1:=rfl
theorem tw2189287928878255900:1=1:=rfl
theorem tw15127549799978810883:1=1:=rfl
theorem tw5795857819101500461:1=1:=rfl
theorem tw4167313907235443124:1=1:=rfl
theorem tw13223971449297404937:1=1:=rfl
theorem tw8174663660745901437:1=1:=rfl
theorem tw4450062849515091473:1=1:=rfl
theorem tw17423968079378434386:1=1:=rfl
theorem tw13385717058232652804:1=1:=rfl
theorem tw7449588793603054090:1=1:=rfl
theorem tw8858638575971406368:1=1:=rfl
theorem tw14176375962602917295:1=1:=rfl
theorem tw13396457544739792616:1=1:=rfl
theorem tw7309712927783244823:1=1:=rfl
theorem tw10815094053647214437:1=1:=rfl
theorem tw868591572967955432:1=1:=rfl
theorem tw889830742354389182:1=1:=rfl
theorem tw3784418855050929751:1=1:=rfl
theorem tw9343286941448014231:1=1:=rfl
theorem tw15251973552623166903:1=1:=rfl
theorem tw10451551853693223429:1=1:=rfl
theorem tw2710807492892806367:1=1:=rfl
theorem tw17926381024175192011:1=1:=rfl
theorem tw7575443883327475482:1=1:=rfl
theorem tw419700000498038238:1=1:=rfl
theorem tw12732775333078972745:1=1:=rfl
theorem tw14743420888950482706:1=1:=rfl
theorem tw4535667195836050309:1=1:=rfl
theorem tw10499298139726756762:1=1:=rfl
theorem tw15637574648040245048:1=1:=rfl
theorem tw7049067865128955639:1=1:=rfl
theorem tw9348898161973509212:1=1:=rfl
theorem tw12838156093859875958:1=1:=rfl
theorem tw6537910382175600989:1=1:=rfl
theorem tw10157779283373302013:1=1:=rfl
theorem tw10229596916226869875:1=1:=rfl
theorem tw2281426221389222867:1=1:=rfl
theorem tw17441452129756733302:1=1:=rfl
theorem tw10888946336886920123:1=1:=rfl
theorem tw289009625884494935:1=1:=rfl
theorem tw7566568641204483254:1=1:=rfl
theorem tw6551843771129952381:1=1:=rfl
theorem tw17036365508632254996:1=1:=rfl
theorem tw11800119190631669551:1=1:=rfl
theorem tw783138198235041423:1=1:=rfl
theorem tw8193085322478542755:1=1:=rfl
theorem tw7557806660806781044:1=1:=rfl
theorem tw17100993663290821089:1=1:=rfl
theorem tw10665614951409276804:1=1:=rfl
theorem tw17248000609359351601:1=1:=rfl
theorem tw7972407104413793052:1=1:=rfl
theorem tw7257379054550091405:1=1:=rfl
theorem tw14541230379023489745:1=1:=rfl
theorem tw5034300981587304499:1=1:=rfl
theorem tw15494112672052333336:1=1:=rfl
theorem tw703146250509011184:1=1:=rfl
theorem tw8416787183019463549:1=1:=rfl
theorem tw560633167841380120:1=1:=rfl
theorem tw2560693308164658243:1=1:=rfl
theorem tw13802104254458350736:1=1:=rfl
theorem tw8509130861187645763:1=1:=rfl
theorem tw13499557912064653146:1=1:=rfl
theorem tw3715739000267815083:1=1:=rfl
theorem tw6276909131650582381:1=1:=rfl
theorem tw16800088804068021809:1=1:=rfl
theorem tw790754319862875260:1=1:=rfl
theorem tw11014125061859092179:1=1:=rfl
theorem tw7698712428814798502:1=1:=rfl
theorem tw15726675944841219080:1=1:=rfl
theorem tw11254875172943926477:1=1:=rfl
theorem tw8981259736189965283:1=1:=rfl
theorem tw10047959566982372650:1=1:=rfl
theorem tw9511059423141378059:1=1:=rfl
theorem tw10374937143416754244:1=1:=rfl
theorem tw9017068129677355543:1=1:=rfl
theorem tw1001311244731673604:1=1:=rfl
theorem tw11084299196870806232:1=1:=rfl
theorem tw2873582689852725684:1=1:=rfl
theorem tw16240040102300750995:1=1:=rfl
theorem tw7352342536471347777:1=1:=rfl
theorem tw4172067701271787352:1=1:=rfl
theorem tw5062735347837252017:1=1:=rfl
theorem tw252192251322961235:1=1:=rfl
theorem tw2229596035531575086:1=1:=rfl
theorem tw16474531189012277518:1=1:=rfl
theorem tw10962528795065452303:1=1:=rfl
theorem tw6783554388973332048:1=1:=rfl
theorem tw12746350107502874836:1=1:=rfl
theorem tw15494994369050040590:1=1:=rfl
theorem tw11684094559211642960:1=1:=rfl
theorem tw12222080730454608091:1=1:=rfl
theorem tw14834358867739127844:1=1:=rfl
theorem tw18000715965387478757:1=1:=rfl
theorem tw4255857584262041940:1=1:=rfl
theorem tw17540242052664534455:1=1:=rfl
theorem tw11938371451555132675:1=1:=rfl
theorem tw5503687628261169557:1=1:=rfl
theorem tw11611471416357868521:1=1:=rfl
theorem tw9501186814339661772:1=1:=rfl
theorem tw3555666938255191740:1=1:=rfl
theorem tw14098783093612283273:1=1:=rfl
theorem tw5151789231333864212:1=1:=rfl
theorem tw5274998145922379715:1=1:=rfl
theorem tw15076783749584955139:1=1:=rfl
theorem tw8550047534278608672:1=1:=rfl
theorem tw17343078535065542551:1=1:=rfl
theorem tw14220912795477369050:1=1:=rfl
theorem tw1887035591581169539:1=1:=rfl
theorem tw12801869878253563139:1=1:=rfl
theorem tw7705375556818652273:1=1:=rfl
theorem tw12998081620937609781:1=1:=rfl
theorem tw15976415041620379107:1=1:=rfl
theorem tw2247590988805647347:1=1:=rfl
theorem tw11417027425382789164:1=1:=rfl
theorem tw2384354977454139430:1=1:=rfl
theorem tw5252341850101619683:1=1:=rfl
theorem tw15211502745486973029:1=1:=rfl
theorem tw10144565843710884410:1=1:=rfl
theorem tw7161275799984998191:1=1:=rfl
theorem tw17433335054123493736:1=1:=rfl
theorem tw6625982686896807970:1=1:=rfl
theorem tw16563600438141759515:1=1:=rfl
theorem tw1858622136228208726:1=1:=rfl
theorem tw2848048685124400804:1=1:=rfl
theorem tw13268039087028740515:1=1:=rfl
theorem tw17430868285952633909:1=1:=rfl
theorem tw11579566640241701482:1=1:=rfl
theorem tw12349283161552842967:1=1:=rfl
theorem tw7547390784098233648:1=1:=rfl
theorem tw8949670237715999351:1=1:=rfl
theorem tw16336042202733314499:1=1:=rfl
theorem tw8867776251637478028:1=1:=rfl
theorem tw2630381459272240782:1=1:=rfl
theorem tw12265223360737102953:1=1:=rfl
theorem tw5798953272428757519:1=1:=rfl
theorem tw2198318795846205662:1=1:=rfl
theorem tw13528571460173473505:1=1:=rfl
theorem tw11996612188644868960:1=1:=rfl
theorem tw12489713012620496957:1=1:=rfl
theorem tw2362621855081740357:1=1:=rfl
theorem tw8853873413897849518:1=1:=rfl
theorem tw12702437799423637555:1=1:=rfl
theorem tw10302763569400074887:1=1:=rfl
theorem tw16899195264634377762:1=1:=rfl
theorem tw12948268994071094613:1=1:=rfl
theorem tw1110842181896471950:1=1:=rfl
theorem tw13740605155774466417:1=1:=rfl
theorem tw6702474817535060882:1=1:=rfl
theorem tw10221977481779679216:1=1:=rfl
theorem tw5307956703848944827:1=1:=rfl
theorem tw10183263233261312749:1=1:=rfl
theorem tw15028887014648438605:1=1:=rfl
theorem tw2539828664840251392:1=1:=rfl
theorem tw10225865973198686261:1=1:=rfl
theorem tw16675456501869284476:1=1:=rfl
theorem tw1882607220523862734:1=1:=rfl
theorem tw2763598504528077924:1=1:=rfl
theorem tw8863948335285156504:1=1:=rfl
theorem tw7077814376958359796:1=1:=rfl
theorem tw18102936341201602419:1=1:=rfl
theorem tw16081858840674721644:1=1:=rfl
theorem tw6935800622377561657:1=1:=rfl
theorem tw10557684793240922163:1=1:=rfl
theorem tw14217175640528664943:1=1:=rfl
theorem tw17716100712120587650:1=1:=rfl
theorem tw16011935874808841963:1=1:=rfl
theorem tw14706019386155546318:1=1:=rfl
theorem tw127087938576291718:1=1:=rfl
theorem tw2693903255374238731:1=1:=rfl
theorem tw1831785023594516980:1=1:=rfl
theorem tw17506371110944438439:1=1:=rfl
theorem tw9947416291328357575:1=1:=rfl
theorem tw16009444947718453998:1=1:=rfl
theorem tw10838939593719285556:1=1:=rfl
theorem tw8410485723839414175:1=1:=rfl
theorem tw4684152508415647859:1=1:=rfl
theorem tw5496305504620548036:1=1:=rfl
theorem tw4648788086482002899:1=1:=rfl
theorem tw18409480460372398342:1=1:=rfl
theorem tw5156815160298293971:1=1:=rfl
theorem tw16806646225685176825:1=1:=rfl
theorem tw8667757673851022634:1=1:=rfl
theorem tw6383739313162578952:1=1:=rfl
theorem tw17132330379931999086:1=1:=rfl
theorem tw3135420899468070676:1=1:=rfl
theorem tw1761678950400918740:1=1:=rfl
theorem tw15115869157158880619:1=1:=rfl
theorem tw9380721855805968574:1=1:=rfl
theorem tw6024316076669462749:1=1:=rfl
theorem tw14529550162284196879:1=1:=rfl
theorem tw15717922072918652810:1=1:=rfl
theorem tw5321682450438763510:1=1:=rfl
theorem tw17703313899923730756:1=1:=rfl
theorem tw9906910762667445691:1=1:=rfl
theorem tw1772889441342728865:1=1:=rfl
theorem tw10332092857294730796:1=1:=rfl
theorem tw3391016032546448813:1=1:=rfl
theorem tw12249284098940627771:1=1:=rfl
theorem tw10467191122202701644:1=1:=rfl
theorem tw12169599650144552877:1=1:=rfl
theorem tw6686388770604924697:1=1:=rfl
theorem tw17668494235461924681:1=1:=rfl
theorem tw1617082035511184548:1=1:=rfl
theorem tw9727596168610563237:1=1:=rfl
theorem tw16718722605401737137:1=1:=rfl
theorem tw6949036534579470054:1=1:=rfl
theorem tw2930782206804387494:1=1:=rfl
theorem tw7172932698242268018:1=1:=rfl
theorem tw16323628020385081708:1=1:=rfl
theorem tw13341373059643044885:1=1:=rfl
theorem tw12528862560098118373:1=1:=rfl
theorem tw11520226190292740170:1=1:=rfl
theorem tw14640970373933722657:1=1:=rfl
theorem tw906422470150707854:1=1:=rfl
theorem tw9099722435558267289:1=1:=rfl
theorem tw9731478441482010702:1=1:=rfl
theorem tw12257543264349851248:1=1:=rfl
theorem tw14125041725919159076:1=1:=rfl
theorem tw10820299764802714061:1=1:=rfl
theorem tw16926463404026362036:1=1:=rfl
theorem tw4300777478011112165:1=1:=rfl
theorem tw12784351065817499137:1=1:=rfl
theorem tw16718222790755531770:1=1:=rfl
theorem tw16625988072865238212:1=1:=rfl
theorem tw12277116113462939763:1=1:=rfl
theorem tw16042131968591297949:1=1:=rfl
theorem tw8239789553503702168:1=1:=rfl
theorem tw12939096291652797661:1=1:=rfl
theorem tw2657444945306845228:1=1:=rfl
theorem tw10688324085901075842:1=1:=rfl
theorem tw12902533586585362459:1=1:=rfl
theorem tw7286097179241680566:1=1:=rfl
theorem tw12076493798600218215:1=1:=rfl
theorem tw12004961493557474873:1=1:=rfl
theorem tw11214015646607425605:1=1:=rfl
theorem tw11606574108044871060:1=1:=rfl
theorem tw5068396502225411650:1=1:=rfl
end PySem.W.Fast
open PySem PySem.W PyProof.Rows L2
set_option maxRecDepth 100000 in
set_option maxHeartbeats 0 in
theorem PySem.Challenge.cw_mixbench_k44_chains_told_holds : PySem.Challenge.rw_mixbench_k44_chains_told.Holds := by
 w_on; o_law; k_head; (case hw=>w_witness2)
 k_fill
 refine L2.i8l (l := PySem.Challenge.rw_mixbench_k44_chains_told) (k := 15) (x := "_law_script") (CX := fun _ => L2.CX0) rfl rfl ⟨rfl, by decide, by decide⟩ (fun w h Y => PySem.W.kIn_of Y) ?F (fun _ _ _ _ _ z => z)
 case F =>
  intro w mg fa h KX G hmg
  refine' My.all_mk (wd:=w) KX G hmg ⟨?f2l,?f2m,?g3a,?g3b,?g3c,?g9b,?g9c,?h6g,?f7n,?g9d,?g3d,?h6h,?h6i,?g9e,?h6j,?h6k,?h6l,?g9f,?g9g,?f7o,?d8p,?f7p,?g3e,?f7q,?f7r,?i5c,?h6m,?g3f,?f7s,?c9l,?c9m,?f2n,?c9n,?f2o,?i5d,?d5k,?f2p,?d5l,?f2q,?d5m,?g3g,?f7t,?g3h,?g3i,?g3j,?d5n,?f7u,?g3k,?f7v,?f2r,?d5o,?d8q,?f7w,?d8r,?d5p,?f7y,?f7z,?d8s,?f8g,?f8h,?d5q,?f8i,?i9m,?i5e,?f5l,?f5m,?f5n,?f1w,?f5o,?a3o,?a2i,?h9c,?d5r,?d2l,?d0v,?d5s,?d5t,?a8l,?a2r,?a1r,?g9h,?d2m,?c6n,?d2n,?d2o,?c9o,?a6v,?a3i,?a1u,?a1v,?a1j,?a0t,?a0m,?h9d,?d5u,?d5v,?d2p,?d0w,?d5w,?a8m,?a3j,?a1w,?a1y,?h9e,?d5y,?d5z,?d2q,?d0y,?d6g,?a8n,?a3p,?a2j,?a2k,?h9f,?d6h,?d2r,?d0z,?d6i,?d6j,?a8o,?a2o,?a0q,?a0u,?a0y,?g9i,?d2s,?d2t,?c9p,?a6w,?c6o,?d2u,?a3l,?a2g,?a1q,?g3l,?c4p,?c9q,?d2v,?b6p,?c4q,?c7r,?a9t,?c2s,?d3w,?d3y,?b1r,?g7c,?f2s,?b9t,?c2t,?a3q,?a7i,?d1g,?d1h,?d1i,?c6p,?d1j,?d6k,?d1k,?c6q,?d6l,?d1l,?c6r,?d1m,?c2u,?d6m,?d1n,?d1o,?c6s,?d6n,?d6o,?d1p,?d1q,?c6t,?d6p,?d6q,?d1r,?c6u,?d6r,?b2z,?c9r,?g7d,?b9u,?d1s,?c6v,?c6w,?c4r,?c6y,?d1t,?a5m,?a4y,?a7j,?a2v,?c9s,?c2v,?c9t,?c9u,?c9v,?b0j,?c2w,?c9w,?c2y,?c5j,?c6z,?c4s,?c7g,?c7h,?c7i,?b3g,?b4z,?b3h,?b5g,?c5k,?b9v,?d3z,?c2z,?c5l,?c7s,?d4g,?b9w,?d4h,?i5f,?d8t,?j4a,?y_bool,?j4b,?d8u,?j4c,?i5g,?j4d,?h6n,?j4e,?j4f,?h6o,?j4g,?g3m,?g3n,?g9j,?b5h,?b5i,?b5j,?b5k,?b5l,?b5m,?b5n,?b5o,?b8q,?b8r,?b8s,?b8t,?b8u,?b8v,?b8w,?b8y,?c7t,?c7u,?c7v,?c7w,?c7y,?c7z,?c8g,?c8h,?c3g,?c3h,?c3i,?c3j,?c3k,?c3l,?c3m,?c3n,?c3o,?c3p,?c3q,?c3r,?c3s,?c3t,?c3u,?c3v,?b5p,?b5q,?b5r,?b5s,?b5t,?b5u,?b5v,?b5w,?a3w,?a3y,?a3z,?a4g,?a4h,?a4i,?a4j,?a4k,?c8i,?c8j,?c8k,?c8l,?c8m,?c8n,?c8o,?c8p,?a4l,?a4m,?a4n,?a4o,?a4p,?a4q,?a4r,?a4s,?d4i,?d4j,?d4k,?d4l,?d4m,?d4n,?d4o,?d4p,?c8q,?c8r,?c8s,?c8t,?c8u,?c8v,?c8w,?c8y,?b9y,?d4q,?c3w,?c9y,?c5r,?c5s,?b9z,?c5t,?c9z,?c5u,?d0g,?d2w,?d0h,?b6l,?c0g,?c3y,?c3z,?d0i,?c5v,?c5w,?c0h,?c5y,?d8v,?d0j,?c5z,?d2y,?d0k,?b6m,?c6g,?d0l,?d6s,?d2z,?d3g,?c6h,?d3h,?d6t,?d3i,?d8w,?d6u,?f8j,?f8k,?b1v,?a7o,?b1w,?a7p,?d8y,?b8z,?d8z,?b9g,?d6v,?c7j,?f8l,?f0w,?d0m,?c0i,?d6w,?c7k,?f8m,?a9j,?a7y,?a9k,?a9l,?a7z,?a9m,?f8n⟩ ?ld_READERS ?kd_READERS ?ne_READERS
  case f2l | f2m | g3a | g3b | g3c | g9b | g9c | h6g | f7n | g9d | g3d | h6h | h6i | g9e | h6j | h6k | h6l | g9f | g9g | f7o | d8p | f7p | g3e | f7q | f7r | i5c | h6m | g3f | f7s | c9l | c9m | f2n | c9n | f2o | i5d | d5k | f2p | d5l | f2q | d5m | g3g | f7t | g3h | g3i | g3j | d5n | f7u | g3k | f7v | f2r | d5o | d8q | f7w | d8r | d5p | f7y | f7z | d8s | f8g | f8h => dsimp only; k_is
  case d5q | f8i | i9m | g9j | b5h | b5i | b5j | b5k | b5l | b5m | b5n | b5o | b8q | b8r | b8s | b8t | b8u | b8v | b8w | b8y | c7t | c7u | c7v | c7w | c7y | c7z | c8g | c8h | c3g | c3h | c3i | c3j | c3k | c3l | c3m | c3n | c3o | c3p | c3q | c3r | c3s | c3t | c3u | c3v | b5p | b5q | b5r | b5s | b5t | b5u | b5v | b5w | a3w | a3y | a3z | a4g | a4h | a4i | a4j | a4k => dsimp only; k_is
  case c8i | c8j | c8k | c8l | c8m | c8n | c8o | c8p | a4l | a4m | a4n | a4o | a4p | a4q | a4r | a4s | d4i | d4j | d4k | d4l | d4m | d4n | d4o | d4p | c8q | c8r | c8s | c8t | c8u | c8v | c8w | c8y | b9y | d4q | c3w | c9y | c5r | c5s | b9z | c5t | c9z | c5u | d0g | d2w | d0h | b6l | c0g | c3y | c3z | d0i | c5v | c5w | c0h | c5y | d8v | d0j | c5z | d2y | d0k | b6m => dsimp only; k_is
  case c6g | d0l | d6s | d2z | d3g | c6h | d3h | d6t | d3i | d8w | d6u | f8j | b1v | b1w | d8y | d8z | d6v | f8l | d0m | d6w | f8m | a9j | a7y | a9k | a9l | a7z | a9m => dsimp only; k_is
  case i5e | a3o | a2r | a3i | a3j | a3p | a2o | a3l => refine' ⟨?_, ?_, ?_, ?_⟩ <;> ((try dsimp only); k_is)
  case f5l | f5m | f5n | f1w | f5o | d5r | d2l | d0v | d5s | d5t | a8l | d2m | c6n | d2n | d2o | c9o | a6v | d5u | d5v | d2p | d0w | d5w | a8m | d5y | d5z | d2q | d0y | d6g | a8n | d6h | d2r | d0z | d6i | d6j | a8o | d2s | d2t | c9p | a6w | c6o | d2u | c4p | c9q | d2v | b6p | c4q => (dsimp only; refine' ⟨?a, ?l, ?c⟩; (case a => k_is); (case l => k_is); (case c => k_is))
  case a2i | a1r | a1u | a1v | a1j | a0t | a0m | a1w | a1y | a2j | a2k | a0q | a0u | a0y | a2g | a1q => dsimp only; unfold a5k; k_is
  case h9c | g9h | h9d | h9e | h9f | g9i | g3l => (dsimp only; refine' ⟨?a, ?l, ?c, ?k⟩; (case a => k_is); (case l => k_is); (case c => k_is); (case k => k_is))
  case c7r | a9t | c2s | d3w | d3y | b1r | g7c | f2s | b9t | c2t | a3q | a7i | d1g | d1h | d1i | c6p | d1j | d6k | d1k | c6q | d6l | d1l | c6r | d1m | c2u | d6m | d1n | d1o | c6s | d6n | d6o | d1p | d1q | c6t | d6p | d6q | d1r | c6u | d6r | b2z | c9r | g7d | b9u | d1s | c6v | c6w | c4r | c6y | d1t | a5m | a4y | a7j | a2v | c9s | c2v | c9t | c9u | c9v | b0j | c2w => (dsimp only; refine' a2h ?l ?c ?k; (try dsimp only); (case l => k_is); (case c => k_is); (case k => k_is))
  case c9w | c2y | c5j | c6z | c4s | c7g | c7h | c7i | b3g | b4z | b3h | b5g | c5k | b9v | d3z | c2z | c5l | c7s | d4g | b9w | d4h | i5f => (dsimp only; refine' a2h ?l ?c ?k; (try dsimp only); (case l => k_is); (case c => k_is); (case k => k_is))
  case d8t | j4a | y_bool | j4b | d8u | j4c | i5g | j4d | h6n | j4e | j4f | h6o | j4g | ld_READERS => k_is
  case g3m | g3n => dsimp only; k_exc
  case f8k | a7o | a7p | b8z | b9g | c7j | f0w | c0i | c7k => exact ⟨_, rfl⟩
  case f8n => dsimp only; kernel_rfl
  (case kd_READERS=>k_keys)
  (case ne_READERS=>decide)
