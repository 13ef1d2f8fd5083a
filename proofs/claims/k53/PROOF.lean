import PyProof.Rows.All
import Wide.All
import OpenK.AllK
import Wide.FinOn
import Lean
import PyProof.EqAt
import PyProof.EqKinds
import PyProof.TupleCall
import PySem.Challenge.RW_mixbench_k53_rings
set_option Elab.async false
set_option linter.all false
set_option maxRecDepth 100000
namespace L2
open PySem PySem.Spec PyProof.Rows
noncomputable abbrev Key:=Sum Int Str
noncomputable def d8t:Key->Value->Bool
 | .inl k,v=>Value.isInt k v
 | .inr x,v=>Value.isStrOf x v
noncomputable def keyH(w:World):Key->Int
 | .inl k=>hashInt k
 | .inr x=>hashStr w x
theorem a2z:∀ {k:Key} {v:Value},d8t k v=true->(∃ i t,k=Sum.inl i/\v=Value.int i t)\/(∃ x t,k=Sum.inr x/\v=Value.str x t)
 | .inl i,v,h=>by
  obtain⟨t,e⟩:=Value.isInt_shape (k:=i) (v:=v) h
  exact .inl ⟨i,t,rfl,e⟩
 | .inr x,v,h=>by
  obtain⟨t,e⟩:=Value.isStrOf_shape (x:=x) (v:=v) h
  exact .inr ⟨x,t,rfl,e⟩
theorem f1g(i:Int)(t:Tok):d8t (.inl i) (.int i t)=true:=by simp [d8t,Value.isInt]
theorem f1h(x:Str)(t:Tok):d8t (.inr x) (.str x t)=true:=by simp [d8t,Value.isStrOf]
theorem g4p(a b:Int):decide ((Sum.inl a:Key)=Sum.inl b)=(a == b):=by
 by_cases e:a=b
 ·subst e; simp
 ·have h:¬ (Sum.inl a:Key)=Sum.inl b:=fun q=>e (Sum.inl.inj q)
  rw [decide_eq_false h]
  exact (beq_eq_false_iff_ne.mpr e).symm
theorem g4q(a b:Str):decide ((Sum.inr a:Key)=Sum.inr b)=decide (a=b):=by
 by_cases e:a=b
 ·subst e; simp
 ·have h:¬ (Sum.inr a:Key)=Sum.inr b:=fun q=>e (Sum.inr.inj q)
  rw [decide_eq_false h,decide_eq_false e]
theorem g4r(a:Int)(b:Str):decide ((Sum.inl a:Key)=Sum.inr b)=false:=decide_eq_false (fun q=>nomatch q)
theorem g4s(a:Str)(b:Int):decide ((Sum.inr a:Key)=Sum.inl b)=false:=decide_eq_false (fun q=>nomatch q)
noncomputable def a5w(prog:Program)(w:World):PySem.KeyKind prog w Key where
 is:=d8t
 hash:=keyH w
 inj:=fun v a b ha hb=>by
  rcases a2z ha with ⟨i,t,rfl,rfl⟩ | ⟨x,t,rfl,rfl⟩
  ·rcases a2z hb with ⟨j,u,rfl,e⟩ | ⟨y,u,rfl,e⟩
   ·injection e with e1 _; rw [e1]
   ·exact nomatch e
  ·rcases a2z hb with ⟨j,u,rfl,e⟩ | ⟨y,u,rfl,e⟩
   ·exact nomatch e
   ·injection e with e1 _; rw [e1]
 byValue:=fun k v h=>by
  rcases a2z h with ⟨i,t,rfl,rfl⟩ | ⟨x,t,rfl,rfl⟩ <;> rfl
 pyHash:=fun hv h=>by
  rcases a2z hv with ⟨i,t,rfl,rfl⟩ | ⟨x,t,rfl,rfl⟩
  ·exact wpAny_pyHash_int h
  ·exact wpAny_pyHash_str h
 eqBool:=fun hu hv h=>by
  rcases a2z hu with ⟨i,t,rfl,rfl⟩ | ⟨x,t,rfl,rfl⟩
  ·rcases a2z hv with ⟨j,u,rfl,rfl⟩ | ⟨y,u,rfl,rfl⟩
   ·rw [g4p] at h; exact wpAny_eqBool_int h
   ·rw [g4r] at h; exact SeqAt.EqAt.int_str i t y u _ _ _ _ h
  ·rcases a2z hv with ⟨j,u,rfl,rfl⟩ | ⟨y,u,rfl,rfl⟩
   ·rw [g4s] at h; exact SeqAt.EqAt.str_int x t j u _ _ _ _ h
   ·rw [g4q] at h; exact wpAny_eqBool_str h
 «strs» := fun k x t v h => by
  rcases a2z h with ⟨i,u,rfl,e⟩ | ⟨y,u,rfl,e⟩
  ·exact nomatch e
  ·injection e with e1 _
   subst e1
   cases v <;> rfl
theorem d4z(prog:Program)(w:World)(i:Int)(t:Tok):(a5w prog w).is (.inl i) (.int i t)=true:=f1g i t
theorem d5g(prog:Program)(w:World)(x:Str)(t:Tok):(a5w prog w).is (.inr x) (.str x t)=true:=f1h x t
end L2
namespace L2
open PySem PySem.Spec PyProof.Rows
inductive V where
 | non | bl (b:Bool) | int (i:Int) | str (x:Str) | byt (b:Array UInt8) | flt (b:UInt64) | ref (a:Addr) | ty (n:String)
 deriving DecidableEq
noncomputable def RelV:V->Value->Prop
 | .non,u=>u=Value.none
 | .bl b,u=>u=Value.bool b
 | .int i,u=>∃ t,u=Value.int i t
 | .str x,u=>∃ t,u=Value.str x t
 | .byt b,u=>∃ t,u=Value.bytes b t
 | .flt b,u=>∃ t,u=Value.float b t
 | .ref a,u=>u=Value.ref a
 | .ty n,u=>u=Value.type n
noncomputable abbrev Vals:List V->List Value->Prop:=Paired RelV
theorem Vals.length{xs:List V}{us:List Value}(r:Vals xs us):xs.length=us.length:=Paired.length r
theorem Vals.get:∀ {xs:List V} {us:List Value} {i:Nat} {x:V},Vals xs us->xs[i]? = some x->∃ u,us[i]? = some u/\RelV x u
 | _,_,_,_,.nil,e=>by simp at e
 | _,_,0,_,.cons r _,e=>by simp at e; subst e; exact⟨_,rfl,r⟩
 | _,_,i+1,x,.cons _ t,e=>by
  obtain⟨u,h1,h2⟩:=Vals.get (i:=i) (x:=x) t (by simpa using e)
  exact⟨u,by simpa using h1,h2⟩
theorem Vals.set{x:V}{u:Value}(r:RelV x u):∀ {xs:List V} {us:List Value} (i:Nat),Vals xs us->Vals (xs.set i x) (us.set i u)
 | _,_,_,.nil=>.nil
 | _,_,0,.cons _ t=>.cons r t
 | _,_,i+1,.cons q t=>.cons q (Vals.set r i t)
theorem Vals.append:∀ {xs ys:List V} {us ws:List Value},Vals xs us->Vals ys ws->Vals (xs++ys) (us++ws)
 | _,_,_,_,.nil,s=>s
 | _,_,_,_,.cons r t,s=>.cons r (Vals.append t s)
theorem Vals.take:∀ {xs:List V} {us:List Value} (n:Nat),Vals xs us->Vals (xs.take n) (us.take n)
 | _,_,0,_=>.nil
 | _,_,_+1,.nil=>.nil
 | _,_,n+1,.cons r t=>.cons r (Vals.take n t)
theorem Vals.drop:∀ {xs:List V} {us:List Value} (n:Nat),Vals xs us->Vals (xs.drop n) (us.drop n)
 | _,_,0,r=>r
 | _,_,_+1,.nil=>.nil
 | _,_,n+1,.cons _ t=>Vals.drop n t
noncomputable def d1p:Option V->Option Value->Prop
 | some v,some u=>RelV v u
 | none,none=>True
 | _,_=>False
noncomputable def KV{κ:Type}:List (κ×V)->List (κ×Value)->Prop:=Paired fun (p:κ×V) (q:κ×Value)=>p.1=q.1/\RelV p.2 q.2
noncomputable def kV:Key->V
 | .inl i=>.int i
 | .inr x=>.str x
inductive HO where
  | lst (xs:List V)
  | tup (xs:List V)
  | dK (kvs:List (Key×V)) | dT (kvs:List (List Key×V))
  | set (S:Int->Bool) (n:Nat)
  | ins (C dx:Addr) (fs:List (Str×V))
  | own (x:Addr)
  | xd (fs:List (Str×V))
  | met (f x:Addr)
  | rng (lo hi:Int)
  | frz (o:Obj) (u:HO)
  | tbl (ps:Array Value)
  | ext (φ:Heap->Prop)
noncomputable abbrev Hp:=Addr->Option HO
noncomputable def upd(H:Hp)(a:Addr)(o:HO):Hp:=fun b=>if b=a then some o else H b
theorem a1k{H:Hp}{a:Addr}{o:HO}:upd H a o a=some o:=by unfold upd; rw [if_pos rfl]
theorem a1l{H:Hp}{a b:Addr}{o:HO}(h:b≠a):upd H a o b=H b:=by unfold upd; rw [if_neg h]
theorem g9i{H:Hp}{a b:Addr}{o u:HO}(h:H a=some o)(h':H b=some u)(d:o≠u):a≠b:=by
 intro e; subst e; rw [h] at h'; exact d (Option.some.inj h')
theorem a2r{H:Hp}{a b:Addr}{o:HO}(h:H a=some o)(h':H b=none):a≠b:=by
 intro e; subst e; rw [h] at h'; cases h'
section
variable (P:Program)(w:World)
noncomputable def a3g(H:Hp)(h:Heap)(a:Addr):HO->Prop
 | .lst xs => xs.length ≤ sizeLine ∧ ∃ (its : List Value) (n : Nat), Vals xs its ∧ h.get? a = some { cls := .type "list", data := .seq its.toArray n }
 | .tup xs=>xs.length<=sizeLine/\∃ its:List Value,Vals xs its/\IsTup h a its.toArray
 | .dK kvs=>kvs.length<=sizeLine/\(a == sysModules)=false/\∃ vs,KV kvs vs/\h.DictOf (a5w P w) a vs
 | .dT kvs=>kvs.length<=sizeLine/\(a == sysModules)=false/\∃ xs:List (List Key×Addr×Value),
   Paired (fun (p:List Key×V) (q:List Key×Addr×Value)=>p.1=q.1/\H q.2.1=some (.tup (p.1.map kV))/\RelV p.2 q.2.2) kvs xs /\
   ∃ o es ep,h.get? a=some o/\o.ExactDict/\o.data = .dict es ep/\es.toList=xs.map (entryOfKey (tupleKind (a5w P w)))/\(xs.map (·.1)).Nodup
 | .set S n=>h.SetOf (intKind P w) a S n
 | .ins C dx fs=>H dx=some (.own a)/\fs.length<=1000/\dx≠a/\h.get? a=some (PySem.W.instObj C dx) /\
   ∃ mA,h.Ns1 dx mA/\(∀ f,d1p (fs.lookup f) (mA f))/\PySem.Within mA (fs.map (·.1))
 | .own _=>∃ o,h.get? a=some o
 | .xd fs=>∃ mA,h.Ns1 a mA/\∀ f,d1p (fs.lookup f) (mA f)
 | .rng lo hi => ∃ t u v, h.get? a = some { cls := .type "range", data := .fields #[.int lo t, .int hi u, .int 1 v] }
 | .frz o u=>h.get? a=some o/\a3g H h a u
 | .tbl ps=>h.get? a=some { cls:=.none,data:=.fields ps }
 | .met f x=>h.get? a=some (PySem.W.methodObj (.ref f) (.ref x))
 | .ext φ=>φ h/\(∃ o,h.get? a=some o)/\∀ h1 h2:Heap,φ h1->(∀ o,h1.get? a=some o->h2.get? a=some o)->φ h2
def HOk(H:Hp)(h:Heap):Prop:=∀ a o,H a=some o->a3g P w H h a o
end
section
variable {P:Program}{w:World}{H H':Hp}{h h':Heap}{a:Addr}{o:HO}
theorem a3g.lt(x:a3g P w H h a o):a < h.objs.size:=by
 cases o with
 | lst xs=>obtain⟨_,_,_,_,e⟩:=x; exact Heap.lt_size e
 | tup xs=>obtain⟨_,_,_,p⟩:=x; exact p.lt
 | dK kvs=>obtain⟨_,_,_,_,o,_,_,e,_⟩:=x; exact Heap.lt_size e
 | dT kvs=>obtain⟨_,_,_,_,o,_,_,e,_⟩:=x; exact Heap.lt_size e
 | set S n=>obtain⟨o,_,_,_,e,_⟩:=x; exact Heap.lt_size e
 | ins C dx fs=>obtain⟨_,_,_,e,_⟩:=x; exact Heap.lt_size e
 | own y=>obtain⟨_,e⟩:=x; exact Heap.lt_size e
 | xd fs=>obtain⟨_,⟨_,_,_,e,_⟩,_⟩:=x; exact Heap.lt_size e
 | rng lo hi=>obtain⟨_,_,_,e⟩:=x; exact Heap.lt_size e
 | frz ob u=>obtain⟨e,_⟩:=x; exact Heap.lt_size e
 | tbl ps=>exact Heap.lt_size (show h.get? a=some _ from x)
 | met f y=>exact Heap.lt_size (show h.get? a=some _ from x)
 | ext φ=>obtain⟨_,⟨_,e⟩,_⟩:=x; exact Heap.lt_size e
theorem Paired.g9j{α β:Type}{F G:α->β->Prop}:∀ {l₁:List α} {l₂:List β},Paired F l₁ l₂->(∀ a b,F a b->G a b)->Paired G l₁ l₂
 | _,_,.nil,_=>.nil
 | _,_,.cons r t,f=>.cons (f _ _ r) (Paired.g9j t f)
theorem a3g.stay(x:a3g P w H h a o)(k:∀ b u,(b=a\/H b=some (.own a))->h.get? b=some u->h'.get? b=some u)
  (ho:∀ b,H b=some (.own a)->H' b=some (.own a)) (ht:∀ b xs,H b=some (.tup xs)->H' b=some (.tup xs)):a3g P w H' h' a o:=by
 induction o with
 | lst xs=>obtain⟨z,its,n,r,e⟩:=x; exact⟨z,its,n,r,k _ _ (.inl rfl) e⟩
 | tup xs=>obtain⟨z,its,r,ob,e,c⟩:=x; exact⟨z,its,r,ob,k _ _ (.inl rfl) e,c⟩
 | dK kvs=>obtain⟨z,y,vs,r,ob,es,ep,e,c⟩:=x; exact⟨z,y,vs,r,ob,es,ep,k _ _ (.inl rfl) e,c⟩
 | dT kvs =>
  obtain⟨z,y,xs,r,ob,es,ep,e,c⟩:=x
  exact⟨z,y,xs,Paired.g9j r fun p q z=>⟨z.1,ht _ _ z.2.1,z.2.2⟩,ob,es,ep,k _ _ (.inl rfl) e,c⟩
 | set S n=>obtain⟨ob,es,ep,t,e,c⟩:=x; exact⟨ob,es,ep,t,k _ _ (.inl rfl) e,c⟩
 | ins C dx fs =>
  obtain⟨d,z,ne,e,mA,⟨od,es,ep,e2,c⟩,r⟩:=x
  exact⟨ho _ d,z,ne,k _ _ (.inl rfl) e,mA,⟨od,es,ep,k _ _ (.inr d) e2,c⟩,r⟩
 | own y=>obtain⟨ob,e⟩:=x; exact⟨ob,k _ _ (.inl rfl) e⟩
 | xd fs=>obtain⟨mA,⟨od,es,ep,e,c⟩,r⟩:=x; exact⟨mA,⟨od,es,ep,k _ _ (.inl rfl) e,c⟩,r⟩
 | rng lo hi=>obtain⟨t,u,v,e⟩:=x; exact⟨t,u,v,k _ _ (.inl rfl) e⟩
 | frz ob u ih=>obtain⟨e,q⟩:=x; exact⟨k _ _ (.inl rfl) e,ih q⟩
 | tbl ps =>
  have e:h.get? a=some { cls:=.none,data:=.fields ps }:=x
  show h'.get? a=some { cls:=.none,data:=.fields ps }
  exact k a _ (.inl rfl) e
 | met f y =>
  have e:h.get? a=some (PySem.W.methodObj (.ref f) (.ref y)):=x
  show h'.get? a=some (PySem.W.methodObj (.ref f) (.ref y))
  exact k a _ (.inl rfl) e
 | ext φ=>obtain⟨p,⟨o,e⟩,st⟩:=x; exact⟨st _ _ p fun o q=>k _ _ (.inl rfl) q,⟨o,k _ _ (.inl rfl) e⟩,st⟩
theorem HOk.lt(x:HOk P w H h)(e:H a=some o):a < h.objs.size:=(x a o e).lt
theorem HOk.fresh(x:HOk P w H h)(e:h.objs.size<=a):H a=none:=by
 cases q:H a with
 | none=>rfl
 | some u=>exact absurd (Nat.lt_of_lt_of_le (x.lt q) e) (Nat.lt_irrefl _)
theorem HOk.kept(x:HOk P w H h)(k:∀ b u,h.get? b=some u->h'.get? b=some u):HOk P w H h':=fun a o e =>
 (x a o e).stay (fun b u _ q=>k b u q) (fun _ q=>q) fun _ _ q=>q
theorem HOk.laid(x:HOk P w H h)(k:∀ b u,h.get? b=some u->h'.get? b=some u)(hp:h.objs.size<=a)(new:a3g P w (upd H a o) h' a o):HOk P w (upd H a o) h':=fun b u e=>by
 have hn:=x.fresh hp
 by_cases hb:b=a
 ·subst hb; rw [a1k] at e; cases e; exact new
 ·rw [a1l hb] at e
  exact (x b u e).stay (fun c v _ q=>k c v q) (fun c q=>by rw [a1l (a2r q hn)]; exact q) fun c xs q=>by rw [a1l (a2r q hn)]; exact q
end
def Rd(H:Hp)(a:Addr)(u:HO):Prop:=H a=some u\/∃ o,H a=some (.frz o u)
theorem Rd.ok{P:Program}{w:World}{H:Hp}{h:Heap}{a:Addr}{u:HO}(r:Rd H a u)(x:HOk P w H h):a3g P w H h a u:=by
 rcases r with r | ⟨o,r⟩
 ·exact x a u r
 ·obtain⟨_,q⟩:=x a _ r
  exact q
noncomputable def Mut:Option HO->Prop
 | some (.lst _)=>True
 | some (.dK _)=>True
 | some (.dT _)=>True
 | some (.set _ _)=>True
 | some (.ins _ _ _)=>True
 | some (.ext _)=>True
 | _=>False
section
variable {P:Program}{w:World}{H:Hp}{h h':Heap}{x e:Addr}{o':HO}
theorem HOk.write(ok:HOk P w H h)(mu:Mut (H x))(he:e=x\/H e=some (.own x))(k:∀ b u,b≠e->h.get? b=some u->h'.get? b=some u)(heo:∃ u,h'.get? e=some u)
  (new:a3g P w (upd H x o') h' x o'):HOk P w (upd H x o') h':=fun b u q=>by
 have h2n:∀ c y,H c=some (.own y)->c≠x:=fun c y r z=>by subst z; rw [r] at mu; exact mu
 have ntup:∀ c xs,H c=some (.tup xs)->c≠x:=fun c xs r z=>by subst z; rw [r] at mu; exact mu
 by_cases hb:b=x
 ·subst hb; rw [a1k] at q; cases q; exact new
 ·rw [a1l hb] at q
  by_cases hbe:b=e
  ·have q':H b=some (.own x):=by
    rcases he with z | z
    ·exact absurd (hbe.trans z) hb
    ·rw [hbe]; exact z
   rw [q] at q'; cases q'
   obtain⟨v,hv⟩:=heo
   exact⟨v,by rw [hbe]; exact hv⟩
  ·refine (ok b u q).stay (fun c v hc r=>k c v ?_ r) (fun c r=>by rw [a1l (h2n c b r)]; exact r) fun c xs r=>by rw [a1l (ntup c xs r)]; exact r
   rcases hc with rfl | hc
   ·exact hbe
   ·rintro rfl
    rcases he with z | z
    ·exact h2n c b hc z
    ·rw [hc] at z; cases z; exact hb rfl
end
structure Un(fs ex:List Addr)(H H':Hp)(h h':Heap):Prop where
 keep:∀ b o,h.get? b=some o->H b=none->b∉fs->b∉ex->h'.get? b=some o
 slot:∀ b o,h.get? b=some o->H b=none->b∈fs->b∉ex->∃ sl,h'.get? b=some { o with slots:=sl }
 free:∀ b o,h.get? b=some o->H b=none->b∉ex->H' b=none
 there:∀ b o,h.get? b=some o->b∉ex->∃ o',h'.get? b=some o'
 tups:∀ b xs,H b=some (.tup xs)->H' b=some (.tup xs)
 d1s:∀ b o u,H b=some (.frz o u)->H' b=some (.frz o u)
 d4y:∀ b ps,H b=some (.tbl ps)->∃ more,H' b=some (.tbl (ps++more))
section
variable {fs fs' ex ex':List Addr}{H H1 H2:Hp}{h h1 h2 h':Heap}{a x e:Addr}{o:HO}
theorem Un.any(u:Un fs ex H H1 h h1){b:Addr}{ob:Obj}(q:h.get? b=some ob)(n:H b=none)(hx:b∉ex):∃ sl,h1.get? b=some { ob with slots:=sl }:=by
 by_cases hb:b∈fs
 ·exact u.slot b ob q n hb hx
 ·exact⟨ob.slots,u.keep b ob q n hb hx⟩
theorem Un.trans(a:Un fs ex H H1 h h1)(b:Un fs ex H1 H2 h1 h2):Un fs ex H H2 h h2 where
 keep:=fun c ob q n hc hx=>b.keep c ob (a.keep c ob q n hc hx) (a.free c ob q n hx) hc hx
 slot:=fun c ob q n hc hx=>by
  obtain⟨sl,e1⟩:=a.slot c ob q n hc hx
  obtain⟨sl',e2⟩:=b.slot c _ e1 (a.free c ob q n hx) hc hx
  exact⟨sl',e2⟩
 free:=fun c ob q n hx=>by
  obtain⟨o',e1⟩:=a.there c ob q hx
  exact b.free c o' e1 (a.free c ob q n hx) hx
 there:=fun c ob q hx=>by
  obtain⟨o',e1⟩:=a.there c ob q hx
  exact b.there c o' e1 hx
 tups:=fun c xs q=>b.tups c xs (a.tups c xs q)
 d1s:=fun c ob xs q=>b.d1s c ob xs (a.d1s c ob xs q)
 d4y:=fun c ps q=>by
  obtain⟨m1,e1⟩:=a.d4y c ps q
  obtain⟨m2,e2⟩:=b.d4y c _ e1
  exact⟨m1++m2,by rw [e2,Array.append_assoc]⟩
theorem Un.kept(k:∀ b u,h.get? b=some u->h'.get? b=some u):Un fs ex H H h h' :=
 ⟨fun b ob q _ _ _=>k b ob q,fun b ob q _ _ _=>⟨ob.slots,k b ob q⟩,fun _ _ _ n _=>n,fun b ob q _=>⟨ob,k b ob q⟩,fun _ _ q=>q,fun _ _ _ q=>q,fun _ ps q=>⟨#[],by rw [q]; simp⟩⟩
theorem Un.refl:Un fs ex H H h h:=Un.kept fun _ _ q=>q
theorem Un.laid(k:∀ b u,h.get? b=some u->h'.get? b=some u)(hp:h.objs.size<=a)(hn:H a=none):Un fs ex H (upd H a o) h h' where
 keep:=fun b u q _ _ _=>k b u q
 slot:=fun b u q _ _ _=>⟨u.slots,k b u q⟩
 free:=fun b u q n _=>by rw [a1l (Nat.ne_of_lt (Nat.lt_of_lt_of_le (Heap.lt_size q) hp))]; exact n
 there:=fun b u q _=>⟨u,k b u q⟩
 tups:=fun b xs q=>by rw [a1l (a2r q hn)]; exact q
 d1s:=fun b u xs q=>by rw [a1l (a2r q hn)]; exact q
 d4y:=fun b ps q=>⟨#[],by rw [a1l (a2r q hn),q]; simp⟩
theorem Un.write(mu:Mut (H x))(he:e=x\/H e=some (.own x))(k:∀ b u,b≠e->h.get? b=some u->h'.get? b=some u)(heo:∃ u,h'.get? e=some u):Un fs ex H (upd H x o) h h':=by
 have hx:∀ b,H b=none->b≠x:=fun b n z=>by subst z; rw [n] at mu; exact mu
 have hb:∀ b,H b=none->b≠e:=fun b n z=>by
  subst z
  rcases he with r | r
  ·exact hx b n r
  ·rw [n] at r; cases r
 have hm:∀ b u,H b=some u->¬ Mut (some u)->b≠x:=fun b u q nm z=>by subst z; rw [q] at mu; exact nm mu
 refine⟨fun b u q n _ _=>k b u (hb b n) q,fun b u q n _ _=>⟨u.slots,k b u (hb b n) q⟩,fun b u q n _=>by rw [a1l (hx b n)]; exact n,fun b u q _=>?_,
  fun b xs q=>by rw [a1l (hm b _ q fun z=>z)]; exact q,fun b u xs q=>by rw [a1l (hm b _ q fun z=>z)]; exact q,fun b ps q=>⟨#[],by rw [a1l (hm b _ q fun z=>z),q]; simp⟩⟩
 by_cases hbe:b=e
 ·subst hbe; exact heo
 ·exact⟨u,k b u hbe q⟩
end
noncomputable def trk(h:Heap)(H:Hp):List Addr:=(List.range h.objs.size).filter fun a=>(H a).isSome
noncomputable def f6j(h:Heap)(H:Hp):Heap:=PySem.W.hideAll h (trk h H)
theorem f1i(h:Heap)(H:Hp):(f6j h H).objs.size=h.objs.size:=PySem.W.hideAll_size _ _
theorem f6k{h:Heap}{H:Hp}{b:Addr}{o:Obj}(e:h.get? b=some o)(n:H b=none):(f6j h H).get? b=some o :=
 PySem.W.hideAll_get _ e fun hm=>by
  have q:(H b).isSome=true:=(List.mem_filter.mp hm).2
  rw [n] at q; simp at q
theorem g1k{h:Heap}{H:Hp}{b:Addr}{o:Obj}(e:(f6j h H).get? b=some o):h.get? b=some o/\H b=none:=by
 have e':h.get? b=some o:=PySem.W.of_hideAll (trk h H) e
 refine⟨e',?_⟩
 cases q:H b with
 | none=>rfl
 | some x =>
  have hm:b∈trk h H:=List.mem_filter.mpr ⟨List.mem_range.mpr (Heap.lt_size e'),by simp [q]⟩
  have z:(f6j h H).get? b=none:=PySem.W.hideAll_none (trk h H) hm
  rw [z] at e; cases e
noncomputable def g1l(g h:Heap)(L:Addr):List (Addr×Obj):=(List.range h.objs.size).filterMap fun a=>if a=L\/(g.get? a).isSome=true then none else (h.get? a).map fun o=>(a,o)
noncomputable def rest(g h:Heap)(L d:Addr):List (Addr×Obj):=(g1l g h L).filter fun p=>decide (p.1≠d)
end L2
namespace L2
open PySem PySem.Spec PyProof.Rows
structure Mod(K:PySem.W.Frag)(mg:Str->Option Value)(base:Heap):Prop where
 kin:K.In base
 glob:base.Ns mainGlobals mg
 blt : ∃ mb, base.Ns builtinsNs mb ∧ ∀ x : Str, x ≠ "__name__" → mb x = bootBuiltins x
 nolimit:base.NoLimit
structure Cx where
 prog:Program
 w:World
 K:PySem.W.Frag
 mg:Str->Option Value
 base:Heap
 A:Around
 N:List Str
 s₀:Shared
 H₀:Hp
 env:Env
 outer:List Env
 stack:List Env
 ex:List Addr
 fn:Str->Bool
 calm:Bool
 pn:List (Addr×Obj)
 xe:Value->Shared->Prop
noncomputable def frs(l:List Env):List Addr:=l.filterMap (·.frame)
noncomputable abbrev Cx.fs(X:Cx):List Addr:=frs X.outer
def Vis(sc:Scope)(x:Str):Prop:=sc.names.lookup x=some .local\/sc.names.lookup x=some .cell\/sc.names.lookup x=some .free
def Loc(sc:Scope)(x:Str):Prop:=sc.names.lookup x=some .local\/sc.names.lookup x=some .cell
def Look(env:Env)(h:Heap)(m:Str->Option Value)(x:Str)(u:Value):Prop :=
 (env.kindOf x=some .local/\m x=some u)\/((env.kindOf x=some .cell\/env.kindOf x=some .free)/\∃ c,env.cells.lookup x=some c/\h.IsCell c (some u))
structure Cx.Ok(X:Cx):Prop where
 mod:Mod X.K X.mg X.base
 kind:X.env.scope.kind = .function
 glob:X.env.globals=mainGlobals
 blt:X.env.builtins=builtinsNs
 above:X.s₀.heap.objs.size<=X.env.locals
 inj:∀ x y c,X.env.cells.lookup x=some c->X.env.cells.lookup y=some c->x=y
 has:∀ x,(X.env.kindOf x=some .cell\/X.env.kindOf x=some .free)->∃ c,X.env.cells.lookup x=some c
 cab:∀ x c,X.fn x=true->X.env.cells.lookup x=some c->X.s₀.heap.objs.size<=c
 hd:X.calm=true->X.A.handled=none
 frames:X.A.frames=some X.stack
 stk:X.stack=X.outer\/(X.stack=X.env :: X.outer/\X.env.frame=some X.env.locals)
 exf:∀ b∈X.ex,b≠X.env.locals/\∀ x c,X.env.cells.lookup x=some c->c≠b
 bs:∀ b o,X.base.get? b=some o->X.s₀.heap.get? b=some o/\X.H₀ b=none
 bsz:X.base.objs.size<=X.s₀.heap.objs.size
 g1m:∀ b o,X.base.get? b=some o->b∉X.ex
 g4t:∀ b∈X.ex,b∉X.fs
 d8u:X.s₀.heap.FunFrames X.base X.outer
 frf:∀ b∈X.fs,X.H₀ b=none
structure Inv(X:Cx)(pins:List (Addr×Obj))(σ:List (Option V))(H:Hp)(s:Shared):Prop where
 ok:X.Ok
 os:s.os=X.s₀.os
 bare:AllBare s.gens
 base:Un X.fs X.ex X.H₀ H X.s₀.heap s.heap
 loc:∃ m,s.heap.Ns X.env.locals m/\∀ (i:Nat) (x:Str) (v:V),X.N[i]? = some x->σ[i]? = some (some v)->Vis X.env.scope x->∃ u,RelV v u/\Look X.env s.heap m x u
 cell:∀ x c,X.env.cells.lookup x=some c->∃ v,s.heap.IsCell c v
 free:H X.env.locals=none
 c0k:∀ x c,X.env.cells.lookup x=some c->H c=none
 pin:∀ p∈X.pn++pins,s.heap.get? p.1=some p.2/\H p.1=none/\p.1≠X.env.locals/\p.1∉X.fs/\∀ v,p.2.data≠.cell v
 hok:HOk X.prog X.w H s.heap
 len:σ.length=X.N.length
section
variable {X:Cx}{pins:List (Addr×Obj)}{σ:List (Option V)}{H H':Hp}{s:Shared}{h':Heap}
theorem Cx.Ok.nofr(ok:X.Ok){b:Addr}{o:Obj}(e:X.base.get? b=some o):b∉X.fs:=fun hb=>by
 have:=(ok.d8u.mem hb).1
 rw [e] at this; cases this
theorem Inv.bs(I:Inv X pins σ H s):∀ b o,X.base.get? b=some o->s.heap.get? b=some o/\H b=none:=fun b o e =>
 ⟨I.base.keep b o (I.ok.bs b o e).1 (I.ok.bs b o e).2 (I.ok.nofr e) (I.ok.g1m b o e),I.base.free b o (I.ok.bs b o e).1 (I.ok.bs b o e).2 (I.ok.g1m b o e)⟩
theorem Inv.bk(I:Inv X pins σ H s):∀ b o,X.base.get? b=some o->s.heap.get? b=some o:=fun b o e=>(I.bs b o e).1
theorem Inv.mod(I:Inv X pins σ H s):Mod X.K X.mg X.base:=I.ok.mod
theorem Inv.kIn(I:Inv X pins σ H s):X.K.In s.heap:=I.ok.mod.kin.keeps I.bk
theorem Inv.lt(I:Inv X pins σ H s):X.env.locals < s.heap.objs.size:=let ⟨_,hn,_⟩:=I.loc; hn.lt
theorem Inv.sz(I:Inv X pins σ H s):X.s₀.heap.objs.size<=s.heap.objs.size:=Nat.le_trans I.ok.above (Nat.le_of_lt I.lt)
theorem Inv.nofs(I:Inv X pins σ H s){a:Addr}(h:s.heap.objs.size<=a):a∉X.fs:=fun hb=>by
 obtain⟨_,o,ho,_⟩:=I.ok.d8u.mem hb
 exact absurd (Nat.lt_of_lt_of_le (Heap.lt_size ho) (Nat.le_trans I.sz h)) (Nat.lt_irrefl _)
theorem Inv.cne(I:Inv X pins σ H s):∀ x c,X.env.cells.lookup x=some c->c≠X.env.locals:=fun x c e z=>by
 obtain⟨v,o,ho,hd⟩:=I.cell x c e
 obtain⟨m,⟨o',es,ep,ho',hd',_⟩,_⟩:=I.loc
 rw [z,ho'] at ho; cases ho; rw [hd'] at hd; cases hd
theorem Inv.d8u(I:Inv X pins σ H s):s.heap.FunFrames X.base X.outer:=by
 have all:∀ (l:List Env),(∀ b∈frs l,b∈X.fs)->X.s₀.heap.FunFrames X.base l->s.heap.FunFrames X.base l:=by
  intro l
  induction l with
  | nil=>intro _ _; trivial
  | cons env r ih =>
   intro hs hl
   obtain⟨hk,⟨L,o,hf,hn,ho,hd⟩,hr⟩:=hl
   have hL:L∈X.fs:=hs L (by unfold frs; rw [List.filterMap_cons,hf]; exact List.mem_cons_self)
   obtain⟨sl,e⟩:=I.base.slot L o ho (I.ok.frf L hL) hL fun z=>I.ok.g4t L z hL
   exact⟨hk,⟨L,_,hf,hn,e,hd⟩,ih (fun b hb=>hs b (by unfold frs; rw [List.filterMap_cons,hf]; exact List.mem_cons_of_mem _ hb)) hr⟩
 exact all X.outer (fun _ hb=>hb) I.ok.d8u
theorem Inv.stack(I:Inv X pins σ H s):s.heap.FunFrames X.base X.stack:=by
 rcases I.ok.stk with e | ⟨e,hf⟩
 ·rw [e]; exact I.d8u
 ·rw [e]
  obtain⟨m,hn,_⟩:=I.loc
  refine .cons (by rw [I.ok.kind]; decide) hf hn ?_ I.d8u
  exact Heap.get?_none_of_le (Nat.le_trans I.ok.bsz I.ok.above)
theorem Inv.c4y(I:Inv X pins σ H s):∀ b∈frs X.stack,b∈X.env.locals :: X.fs:=fun b hb=>by
 rcases I.ok.stk with e | ⟨e,hf⟩
 ·rw [e] at hb; exact List.mem_cons_of_mem _ hb
 ·rw [e] at hb
  unfold frs at hb
  rw [List.filterMap_cons,hf] at hb
  exact hb
theorem Inv.c8n(I:Inv X pins σ H s):∀ b∈frs X.stack,H b=none:=fun b hb=>by
 rcases List.mem_cons.mp (I.c4y b hb) with e | hb
 ·rw [e]; exact I.free
 ·obtain⟨_,o,ho,_⟩:=I.ok.d8u.mem hb
  exact I.base.free b o ho (I.ok.frf b hb) fun z=>I.ok.g4t b z hb
theorem Inv.step{g':Array GenState}{t':Nat}{d':Drawn}{ch:List Addr}(I:Inv X pins σ H s)
  (hch:∀ b∈ch,(b∈X.ex\/X.s₀.heap.objs.size<=b)/\b≠X.env.locals/\(∀ x c,X.env.cells.lookup x=some c->c≠b)/\∀ p∈X.pn++pins,p.1≠b)
  (keep:∀ b o,b≠X.env.locals->b∉X.fs->b∉ch->s.heap.get? b=some o->H b=none->h'.get? b=some o)
  (slot:∀ b o,b≠X.env.locals->b∈X.fs->b∉ch->s.heap.get? b=some o->H b=none->∃ sl,h'.get? b=some { o with slots:=sl }) (free:∀ b o,b∉ch->s.heap.get? b=some o->H b=none->H' b=none)
  (there:∀ b o,b∉ch->s.heap.get? b=some o->∃ o',h'.get? b=some o')
  (tups:∀ b xs,H b=some (.tup xs)->H' b=some (.tup xs)) (d1s:∀ b o u,H b=some (.frz o u)->H' b=some (.frz o u)) (d4y:∀ b ps,H b=some (.tbl ps)->∃ more,H' b=some (.tbl (ps++more)))
  (ns:∀ m,s.heap.Ns X.env.locals m->h'.Ns X.env.locals m) (hok:HOk X.prog X.w H' h') (hg:AllBare g') :
  Inv X pins σ H' { s with heap:=h',gens:=g',drawn:=d',toks:=t' }:=by
 have neL:∀ b o,X.s₀.heap.get? b=some o->b≠X.env.locals:=fun b o e=>Nat.ne_of_lt (Nat.lt_of_lt_of_le (Heap.lt_size e) I.ok.above)
 have neC:∀ b o,X.s₀.heap.get? b=some o->b∉X.ex->b∉ch:=fun b o e hx hb=>by
  rcases (hch b hb).1 with z | z
  ·exact hx z
  ·exact absurd (Nat.lt_of_lt_of_le (Heap.lt_size e) z) (Nat.lt_irrefl _)
 have cellK:∀ x c,X.env.cells.lookup x=some c->∀ v,s.heap.IsCell c v->h'.IsCell c v:=fun x c e v ⟨o,ho,hd⟩=>by
  have nch:c∉ch:=fun z=>(hch c z).2.2.1 x c e rfl
  by_cases hc:c∈X.fs
  ·obtain⟨sl,q⟩:=slot c o (I.cne x c e) hc nch ho (I.c0k x c e)
   exact⟨_,q,hd⟩
  ·exact⟨o,keep c o (I.cne x c e) hc nch ho (I.c0k x c e),hd⟩
 refine⟨I.ok,I.os,hg,⟨fun b o e n hb hx=>?_,fun b o e n hb hx=>?_,fun b o e n hx=>?_,fun b o e hx=>?_,fun b xs e=>tups b xs (I.base.tups b xs e),fun b o xs e=>d1s b o xs (I.base.d1s b o xs e),fun b ps e=>?_⟩,?_,fun x c e=>?_,?_,fun x c e=>?_,fun p hp=>?_,hok,I.len⟩
 ·exact keep b o (neL b o e) hb (neC b o e hx) (I.base.keep b o e n hb hx) (I.base.free b o e n hx)
 ·obtain⟨sl,e1⟩:=I.base.slot b o e n hb hx
  obtain⟨sl',e2⟩:=slot b _ (neL b o e) hb (neC b o e hx) e1 (I.base.free b o e n hx)
  exact⟨sl',e2⟩
 ·obtain⟨o',e1⟩:=I.base.there b o e hx
  exact free b o' (neC b o e hx) e1 (I.base.free b o e n hx)
 ·obtain⟨o',e1⟩:=I.base.there b o e hx
  exact there b o' (neC b o e hx) e1
 ·obtain⟨m1,e1⟩:=I.base.d4y b ps e
  obtain⟨m2,e2⟩:=d4y b _ e1
  exact⟨m1++m2,by rw [e2,Array.append_assoc]⟩
 ·obtain⟨m,hn,hl⟩:=I.loc
  refine⟨m,ns m hn,fun i x v e1 e2 e3=>?_⟩
  obtain⟨u,r,l⟩:=hl i x v e1 e2 e3
  refine⟨u,r,?_⟩
  rcases l with l | ⟨k,c,e,z⟩
  ·exact .inl l
  ·exact .inr ⟨k,c,e,cellK x c e _ z⟩
 ·obtain⟨v,z⟩:=I.cell x c e
  exact⟨v,cellK x c e v z⟩
 ·obtain⟨m,⟨o,_,_,ho,_⟩,_⟩:=I.loc
  exact free _ o (fun z=>(hch _ z).2.1 rfl) ho I.free
 ·obtain⟨v,o,ho,hd⟩:=I.cell x c e
  exact free c o (fun z=>(hch c z).2.2.1 x c e rfl) ho (I.c0k x c e)
 ·obtain⟨e,n,ne,nf,d⟩:=I.pin p hp
  have nch:p.1∉ch:=fun z=>(hch p.1 z).2.2.2 p hp rfl
  exact⟨keep p.1 p.2 ne nf nch e n,free p.1 p.2 nch e n,ne,nf,d⟩
theorem Inv.un{t':Nat}(I:Inv X pins σ H s)(u:Un X.fs [] H H' s.heap h')(hok:HOk X.prog X.w H' h'):Inv X pins σ H' { s with heap:=h',toks:=t' }:=by
 obtain⟨m,⟨o,es,ep,ho,r⟩,_⟩:=id I.loc
 obtain⟨sl,hL⟩:=u.any ho I.free (by simp)
 exact I.step (g':=s.gens) (d':=s.drawn) (ch:=[]) (fun _ z=>nomatch z) (fun b o _ hb _ e n=>u.keep b o e n hb (by simp)) (fun b o _ hb _ e n=>u.slot b o e n hb (by simp)) (fun b o _ e n=>u.free b o e n (by simp)) (fun b o _ e=>u.there b o e (by simp)) u.tups u.d1s u.d4y (fun m' hm=>by
  obtain⟨o',es',ep',ho',r'⟩:=hm
  rw [ho] at ho'; cases ho'
  exact⟨_,es',ep',hL,r'⟩) hok I.bare
theorem Inv.call{g':Array GenState}{t':Nat}{d':Drawn}{ch:List Addr}(I:Inv X pins σ H s)(u:Un (frs X.stack) ch H H' s.heap h')(hok:HOk X.prog X.w H' h')(hg:AllBare g')
  (hch:∀ b∈ch,(b∈X.ex\/X.s₀.heap.objs.size<=b)/\b≠X.env.locals/\(∀ x c,X.env.cells.lookup x=some c->c≠b)/\∀ p∈X.pn++pins,p.1≠b) :
  Inv X pins σ H' { s with heap:=h',gens:=g',drawn:=d',toks:=t' }:=by
 obtain⟨m,⟨o,es,ep,ho,r⟩,_⟩:=id I.loc
 obtain⟨sl,hL⟩:=u.any ho I.free fun z=>(hch _ z).2.1 rfl
 exact I.step (ch:=ch) hch (fun b o hL hb hc e n=>u.keep b o e n (fun z=>(List.mem_cons.mp (I.c4y b z)).elim hL hb) hc) (fun b o _ _ hc e n=>u.any e n hc) (fun b o hc e n=>u.free b o e n hc) (fun b o hc e=>u.there b o e hc) u.tups u.d1s u.d4y (fun m' hm=>by
  obtain⟨o',es',ep',ho',r'⟩:=hm
  rw [ho] at ho'; cases ho'
  exact⟨_,es',ep',hL,r'⟩) hok hg
theorem Inv.turned{t':Nat}{it:Addr}(I:Inv X pins σ H s)(k:∀ b o,b≠it->s.heap.get? b=some o->h'.get? b=some o)(hn:H it=none)(hL:it≠X.env.locals)
  (h1:it∈X.ex\/X.s₀.heap.objs.size<=it) (h2:∀ x c,X.env.cells.lookup x=some c->c≠it) (h3:∀ p∈X.pn++pins,p.1≠it):Inv X pins σ H { s with heap:=h',toks:=t' }:=by
 have nit:∀ b u,H b=some u->b≠it:=fun b u e z=>by rw [z,hn] at e; cases e
 refine I.step (g':=s.gens) (d':=s.drawn) (ch:=[it]) (fun b hb=>?_) (fun b o _ _ hc e _=>k b o (fun z=>hc (by simp [z])) e) (fun b o _ _ hc e _=>⟨o.slots,k b o (fun z=>hc (by simp [z])) e⟩) (fun _ _ _ _ n=>n)
  (fun b o hc e=>⟨o,k b o (fun z=>hc (by simp [z])) e⟩) (fun _ _ e=>e) (fun _ _ _ e=>e) (fun b ps e=>⟨#[],by rw [e]; simp⟩) (fun m hm=>?_) (fun b u e=>?_) I.bare
 ·have e:b=it:=by simpa using hb
  subst e
  exact⟨h1,hL,h2,h3⟩
 ·obtain⟨o,es,ep,ho,r⟩:=hm
  exact⟨o,es,ep,k _ o (Ne.symm hL) ho,r⟩
 ·refine (I.hok b u e).stay (fun c v hc q=>k c v ?_ q) (fun _ q=>q) fun _ _ q=>q
  rcases hc with z | z
  ·rw [z]; exact nit b u e
  ·exact nit c _ z
theorem Inv.tok(I:Inv X pins σ H s)(t:Nat):Inv X pins σ H { s with toks:=t }:=I.un (h':=s.heap) (t':=t) Un.refl I.hok
theorem Inv.kept{t':Nat}(I:Inv X pins σ H s)(k:∀ b u,s.heap.get? b=some u->h'.get? b=some u):Inv X pins σ H { s with heap:=h',toks:=t' }:=I.un (Un.kept k) (I.hok.kept k)
theorem Inv.laid{a:Addr}{o:HO}{t':Nat}(I:Inv X pins σ H s)(k:∀ b u,s.heap.get? b=some u->h'.get? b=some u)(hp:s.heap.objs.size<=a)(new:a3g X.prog X.w (upd H a o) h' a o) :
  Inv X pins σ (upd H a o) { s with heap:=h',toks:=t' }:=I.un (Un.laid k hp (I.hok.fresh hp)) (I.hok.laid k hp new)
theorem Inv.write{x e:Addr}{o:HO}{t':Nat}(I:Inv X pins σ H s)(mu:Mut (H x))(he:e=x\/H e=some (.own x))(k:∀ b u,b≠e->s.heap.get? b=some u->h'.get? b=some u)(heo:∃ u,h'.get? e=some u)
  (new:a3g X.prog X.w (upd H x o) h' x o):Inv X pins σ (upd H x o) { s with heap:=h',toks:=t' }:=I.un (Un.write mu he k heo) (I.hok.write mu he k heo new)
theorem Inv.weak{σ':List (Option V)}(I:Inv X pins σ H s)(hl:σ'.length=σ.length)(w:∀ (i:Nat) v,σ'[i]? = some (some v)->σ[i]? = some (some v)):Inv X pins σ' H s :=
 ⟨I.ok,I.os,I.bare,I.base,let ⟨m,hn,hl'⟩:=I.loc; ⟨m,hn,fun i x v e1 e2 e3=>hl' i x v e1 (w i v e2) e3⟩,I.cell,I.free,I.c0k,I.pin,I.hok,hl.trans I.len⟩
theorem Inv.f1j{pins':List (Addr×Obj)}(I:Inv X pins σ H s)(h:∀ p∈pins',s.heap.get? p.1=some p.2/\H p.1=none/\p.1≠X.env.locals/\p.1∉X.fs/\∀ v,p.2.data≠.cell v):Inv X pins' σ H s :=
 ⟨I.ok,I.os,I.bare,I.base,I.loc,I.cell,I.free,I.c0k,fun p hp=>(List.mem_append.mp hp).elim (fun z=>I.pin p (List.mem_append_left _ z)) (h p),I.hok,I.len⟩
theorem c8o{N:List Str}(hN:N.Nodup){i j:Nat}{x:Str}(a:N[i]? = some x)(b:N[j]? = some x):i=j:=by
 obtain⟨h1,e1⟩:=List.getElem?_eq_some_iff.mp a
 obtain⟨h2,e2⟩:=List.getElem?_eq_some_iff.mp b
 exact (List.getElem_inj hN).mp (e1.trans e2.symm)
theorem c4z{M:Model}{A:Around}{E:Value->Shared->Prop}{i:Nat}{x:Str}{v:V}{u:Value}{Q:Unit->Shared->Prop}(I:Inv X pins σ H s)(hN:X.N.Nodup)(hi:X.N[i]? = some x)(hx:Loc X.env.scope x)(r:RelV v u)
  (h:∀ s',Inv X pins (σ.set i (some v)) H s'->(∃ a,Heap.SameBut a s.heap s'.heap/\(a=X.env.locals\/X.env.cells.lookup x=some a))->Q () s') (hf:X.fn x=true\/X.env.scope.names.lookup x=some .local:=by first | exact .inl rfl | exact .inr rfl | assumption):wpAny M A (storeName X.env x u) Q E s:=by
 obtain⟨m,hn,hl⟩:=id I.loc
 have hcls:(X.env.scope.kind == .class || (X.env.scope.kind == .module && X.env.locals != X.env.globals))=false:=by rw [I.ok.kind]; rfl
 have hiσ:i < σ.length:=by rw [I.len]; exact (List.getElem?_eq_some_iff.mp hi).1
 have cne:=I.cne
 have tracked:∀ {a:Addr} {h':Heap},(∃ o,s.heap.get? a=some o/\H a=none)->Heap.SameBut a s.heap h'->HOk X.prog X.w H h':=fun {a h'} ha hs b ob e=>by
  obtain⟨_,_,hfree⟩:=ha
  refine (I.hok b ob e).stay (fun c w' hc q=>(hs.2 c ?_).trans q) (fun _ q=>q) fun _ _ q=>q
  rintro rfl
  rcases hc with rfl | hc
  ·rw [hfree] at e; cases e
  ·rw [hfree] at hc; cases hc
 rcases hx with hk | hk
 ·refine wpAny_storeName_local hk hn (fun h' hn' hs=>?_) hcls
  obtain⟨oL,_,_,hoL,_⟩:=id hn
  refine h _ ⟨I.ok,I.os,I.bare,⟨fun b o e n hb hx=>?_,fun b o e n hb hx=>?_,I.base.free,fun b o e hx=>?_,I.base.tups,I.base.d1s,I.base.d4y⟩,⟨_,hn',fun j y v' e1 e2 e3=>?_⟩,fun y c e=>?_,I.free,I.c0k,fun p hp=>?_,tracked ⟨oL,hoL,I.free⟩ hs,by simpa using I.len⟩ ⟨_,hs,.inl rfl⟩
  ·exact (hs.2 b (Nat.ne_of_lt (Nat.lt_of_lt_of_le (Heap.lt_size e) I.ok.above))).trans (I.base.keep b o e n hb hx)
  ·obtain⟨sl,e1⟩:=I.base.slot b o e n hb hx
   exact⟨sl,(hs.2 b (Nat.ne_of_lt (Nat.lt_of_lt_of_le (Heap.lt_size e) I.ok.above))).trans e1⟩
  ·obtain⟨o',e1⟩:=I.base.there b o e hx
   exact⟨o',(hs.2 b (Nat.ne_of_lt (Nat.lt_of_lt_of_le (Heap.lt_size e) I.ok.above))).trans e1⟩
  ·by_cases hj:j=i
   ·subst hj
    rw [hi] at e1; cases e1
    rw [List.getElem?_set_self hiσ] at e2
    cases e2
    exact⟨u,r,.inl ⟨hk,by simp⟩⟩
   ·rw [List.getElem?_set_ne (Ne.symm hj)] at e2
    obtain⟨u',r',q⟩:=hl j y v' e1 e2 e3
    refine⟨u',r',?_⟩
    rcases q with ⟨k,e⟩ | ⟨k,c,e,z⟩
    ·refine .inl ⟨k,?_⟩
     have:y≠x:=fun e=>hj (c8o hN e1 (e▸hi))
     simp [this,e]
    ·exact .inr ⟨k,c,e,z.sameBut hs (cne y c e)⟩
  ·obtain⟨w',z⟩:=I.cell y c e
   exact⟨w',z.sameBut hs (cne y c e)⟩
  ·obtain⟨e,n,ne,nf,d⟩:=I.pin p hp
   exact⟨(hs.2 p.1 ne).trans e,n,ne,nf,d⟩
 ·have hfn:X.fn x=true:=by
   rcases hf with z | z
   ·exact z
   ·rw [z] at hk; cases hk
  obtain⟨c,hc⟩:=I.ok.has x (.inl hk)
  obtain⟨w',z⟩:=I.cell x c hc
  refine wpAny_storeName_cell I.ok.kind hk hc z (fun h' hc' hs=>?_)
  obtain⟨oc,hoc,hocd⟩:=id z
  refine h { s with heap:=h' } ⟨I.ok,I.os,I.bare,⟨fun b o e n hb hx=>?_,fun b o e n hb hx=>?_,I.base.free,fun b o e hx=>?_,I.base.tups,I.base.d1s,I.base.d4y⟩,⟨m,hn.sameBut hs (Ne.symm (cne x c hc)),fun j y v' e1 e2 e3=>?_⟩,fun y c' e=>?_,I.free,I.c0k,fun p hp=>?_,tracked ⟨oc,hoc,I.c0k x c hc⟩ hs,by simpa using I.len⟩ ⟨c,hs,.inr hc⟩
  ·exact (hs.2 b (Nat.ne_of_lt (Nat.lt_of_lt_of_le (Heap.lt_size e) (I.ok.cab x c hfn hc)))).trans (I.base.keep b o e n hb hx)
  ·obtain⟨sl,e1⟩:=I.base.slot b o e n hb hx
   exact⟨sl,(hs.2 b (Nat.ne_of_lt (Nat.lt_of_lt_of_le (Heap.lt_size e) (I.ok.cab x c hfn hc)))).trans e1⟩
  ·obtain⟨o',e1⟩:=I.base.there b o e hx
   exact⟨o',(hs.2 b (Nat.ne_of_lt (Nat.lt_of_lt_of_le (Heap.lt_size e) (I.ok.cab x c hfn hc)))).trans e1⟩
  ·by_cases hj:j=i
   ·subst hj
    rw [hi] at e1; cases e1
    rw [List.getElem?_set_self hiσ] at e2
    cases e2
    exact⟨u,r,.inr ⟨.inl hk,c,hc,hc'⟩⟩
   ·rw [List.getElem?_set_ne (Ne.symm hj)] at e2
    obtain⟨u',r',q⟩:=hl j y v' e1 e2 e3
    refine⟨u',r',?_⟩
    rcases q with q | ⟨k,c',e,z'⟩
    ·exact .inl q
    ·refine .inr ⟨k,c',e,z'.sameBut hs ?_⟩
     rintro rfl
     exact hj (c8o hN e1 (I.ok.inj _ _ _ e hc▸hi))
  ·by_cases hcc:c'=c
   ·subst hcc; exact⟨_,hc'⟩
   ·obtain⟨w2,z2⟩:=I.cell y c' e
    exact⟨w2,z2.sameBut hs hcc⟩
  ·obtain⟨e,n,ne,nf,d⟩:=I.pin p hp
   refine⟨(hs.2 p.1 ?_).trans e,n,ne,nf,d⟩
   intro q
   rw [q,hoc] at e
   have q':oc=p.2:=Option.some.inj e
   exact d w' (by rw [<- q']; exact hocd)
theorem c8p{M:Model}{A:Around}{E:Value->Shared->Prop}{i:Nat}{x:Str}{v:V}{u:Value}{Q:Unit->Shared->Prop}(I:Inv X pins σ H s)(hN:X.N.Nodup)(hi:X.N[i]? = some x)(hx:Loc X.env.scope x)(r:RelV v u)
  (h:∀ s',Inv X pins (σ.set i (some v)) H s'->Q () s') (hf:X.fn x=true\/X.env.scope.names.lookup x=some .local:=by first | exact .inl rfl | exact .inr rfl | assumption):wpAny M A (storeName X.env x u) Q E s :=
 c4z I hN hi hx r (fun s' I' _=>h s' I') hf
theorem Inv.call'{s':Shared}{ch:List Addr}(I:Inv X pins σ H s)(ho:s'.os=s.os)(u:Un (frs X.stack) ch H H' s.heap s'.heap)(hok:HOk X.prog X.w H' s'.heap)(hg:AllBare s'.gens)
  (hch:∀ b∈ch,(b∈X.ex\/X.s₀.heap.objs.size<=b)/\b≠X.env.locals/\(∀ x c,X.env.cells.lookup x=some c->c≠b)/\∀ p∈X.pn++pins,p.1≠b):Inv X pins σ H' s':=by
 obtain⟨h',g',d',t',o'⟩:=s'
 have e:o'=s.os:=ho
 subst e
 exact I.call (g':=g') (t':=t') (d':=d') u hok hg hch
end
noncomputable abbrev XK:=Value->Option Addr->Hp->Prop
noncomputable abbrev St:=List (Option V)
noncomputable abbrev VK:=V->Hp->Prop
noncomputable abbrev TE:=St->Hp->VK->Prop
noncomputable abbrev TT:=St->Hp->(Bool->Hp->Prop)->Prop
noncomputable abbrev TA:=St->Hp->(List V->Hp->Prop)->Prop
structure Ends where
 nx:St->Hp->Prop
 rt:VK
 bk:St->Hp->Prop:=fun _ _=>False
 ct:St->Hp->Prop:=fun _ _=>False
noncomputable abbrev TS:=Ends->St->Hp->Prop
def EP(X:Cx)(pins:List (Addr×Obj))(σ:St)(Q:VK)(u:Value)(s':Shared):Prop:=∃ v H',Inv X pins σ H' s'/\RelV v u/\Q v H'
def TP(X:Cx)(pins:List (Addr×Obj))(σ:St)(Q:Bool->Hp->Prop)(b:Bool)(s':Shared):Prop:=∃ H',Inv X pins σ H' s'/\Q b H'
def AP(X:Cx)(pins:List (Addr×Obj))(σ:St)(Q:List V->Hp->Prop)(us:List Value)(s':Shared):Prop:=∃ vs H',Inv X pins σ H' s'/\Vals vs us/\Q vs H'
def SP(X:Cx)(pins:List (Addr×Obj))(D:Ends)(f:Flow)(s':Shared):Prop :=
 match f with
 | .next=>∃ σ' H',Inv X pins σ' H' s'/\D.nx σ' H'
 | .brk=>∃ σ' H',Inv X pins σ' H' s'/\D.bk σ' H'
 | .cont=>∃ σ' H',Inv X pins σ' H' s'/\D.ct σ' H'
 | .ret u=>∃ v σ' H',Inv X pins σ' H' s'/\RelV v u/\D.rt v H'
def PE(X:Cx)(e:Expr)(t:TE):Prop :=
 ∀ (pins:List (Addr×Obj)) (s:Shared) (σ:St) (H:Hp) (Q:VK),Inv X pins σ H s->t σ H Q->wpAny (model X.prog X.w) X.A (eval e X.env) (EP X pins σ Q) X.xe s
def PT(X:Cx)(e:Expr)(t:TT):Prop :=
 ∀ (pins:List (Addr×Obj)) (s:Shared) (σ:St) (H:Hp) (Q:Bool->Hp->Prop),Inv X pins σ H s->t σ H Q->wpAny (model X.prog X.w) X.A (isTrue e X.env (eval e X.env)) (TP X pins σ Q) X.xe s
def PW(X:Cx)(e:Expr)(t:TT):Prop :=
 ∀ (whole:Sem Value) (pins:List (Addr×Obj)) (s:Shared) (σ:St) (H:Hp) (Q:Bool->Hp->Prop),Inv X pins σ H s->t σ H Q->wpAny (model X.prog X.w) X.A (isTrue e X.env whole) (TP X pins σ Q) X.xe s
theorem PW.pt{X:Cx}{e:Expr}{t:TT}(h:PW X e t):PT X e t:=h _
def PA(X:Cx)(es:List Expr)(t:TA):Prop :=
 ∀ (pos:Pos) (pins:List (Addr×Obj)) (s:Shared) (σ:St) (H:Hp) (Q:List V->Hp->Prop),Inv X pins σ H s->t σ H Q->wpAny (model X.prog X.w) X.A (spliced (backTo pos (starEach es X.env))) (AP X pins σ Q) X.xe s
def PS(X:Cx)(st:Stmt)(t:TS):Prop :=
 ∀ (pins:List (Addr×Obj)) (s:Shared) (σ:St) (H:Hp) (D:Ends),Inv X pins σ H s->t D σ H->wpAny (model X.prog X.w) X.A (exec st X.env) (SP X pins D) X.xe s
def PSs(X:Cx)(st:List Stmt)(t:TS):Prop :=
 ∀ (pins:List (Addr×Obj)) (s:Shared) (σ:St) (H:Hp) (D:Ends),Inv X pins σ H s->t D σ H->wpAny (model X.prog X.w) X.A (execs st X.env) (SP X pins D) X.xe s
theorem thn{α:Type}{t:Sem α}{Q Q':α->Shared->Prop}{M:Model}{A:Around}{E:Value->Shared->Prop}{s:Shared}(h:wpAny M A t Q E s)(hQ:∀ a s,Q a s->Q' a s):wpAny M A t Q' E s:=wpAny_mono h hQ fun _ _ x=>x
end L2
namespace L2
open PySem PySem.Spec PyProof.Rows
section
variable {X:Cx}
def tVar(i:Nat):TE:=fun σ H Q=>∃ v,σ[i]? = some (some v)/\Q v H
def tC(v:V):TE:=fun _ H Q=>Q v H
theorem g4u {i : Nat} {x : Str} {pos : Pos} (hN : X.N[i]? = some x) (hv : Vis X.env.scope x) (hd : (x == ("__debug__" : Str)) = false := by decide) (hcd : (x == ("__classdict__" : Str)) = false := by decide) : PE X (.Name x pos) (tVar i) := by
 intro pins s σ H Q I h
 obtain⟨v,e,h⟩:=h
 obtain⟨m,hn,hl⟩:=I.loc
 obtain⟨u,r,l⟩:=hl i x v hN e hv
 have fin:EP X pins σ Q u s:=⟨v,H,I,r,h⟩
 rcases l with ⟨hk,hm⟩ | ⟨hk,c,hc,hcell⟩
 ·exact wpAny_Name (wpAny_loadName_local I.ok.kind hk hn hm fin) hd
 ·rcases hk with hk | hk
  ·exact wpAny_Name (wpAny_loadName_cell I.ok.kind hk hc hcell fin) hd
  ·exact wpAny_Name (wpAny_loadName_free I.ok.kind hk hc hcell fin hcd) hd
theorem a0r{i j pos}:PE X (.Constant (.int i) j pos) (tC (.int i)):=fun _ _ _ H _ I h=>wpAny_Constant_int ⟨.int i,H,I.tok _,⟨_,rfl⟩,h⟩
theorem c1n{b j pos}:PE X (.Constant (.bool b) j pos) (tC (.bl b)):=fun _ _ _ H _ I h=>Constant_bool ⟨.bl b,H,I,rfl,h⟩
theorem d7s{j pos}:PE X (.Constant .none j pos) (tC .non):=fun _ _ _ H _ I h=>Constant_none ⟨.non,H,I,rfl,h⟩
theorem a6m{x j pos}:PE X (.Constant (.str x) j pos) (tC (.str x)):=fun _ _ _ H _ I h=>Calls.Constant_str ⟨.str x,H,I.tok _,⟨_,rfl⟩,h⟩
def Gl(X:Cx)(x:Str):Prop:=X.env.kindOf x=some .globalImplicit
theorem b8p{E:Value->Shared->Prop}{pins:List (Addr×Obj)}{s:Shared}{σ:St}{H:Hp}{x:Str}{u:Value}{pos:Pos}{Q:Value->Shared->Prop}(I:Inv X pins σ H s)(hg:Gl X x)(hm:X.mg x=some u)(h:Q u s)
  (hd : (x == ("__debug__" : Str)) = false := by decide) : wpAny (model X.prog X.w) X.A (eval (.Name x pos) X.env) Q E s :=
 Calls.Name_function_global I.ok.kind hg (Calls.loadGlobal_global (by rw [I.ok.glob]; exact I.mod.glob.keeps I.bk) hm h) hd
theorem d7t{E:Value->Shared->Prop}{pins:List (Addr×Obj)}{s:Shared}{σ:St}{H:Hp}{x:Str}{u:Value}{pos:Pos}{Q:Value->Shared->Prop}(I:Inv X pins σ H s)(hg:Gl X x)(hm:X.mg x=none)(hv:bootBuiltins x=some u)(h:Q u s)
  (hn : x ≠ "__name__" := by decide) (hd : (x == ("__debug__" : Str)) = false := by decide) : wpAny (model X.prog X.w) X.A (eval (.Name x pos) X.env) Q E s := by
 obtain⟨mb,h1,h2⟩:=I.mod.blt
 exact Calls.Name_function_global I.ok.kind hg (Calls.loadGlobal_builtin (by rw [I.ok.glob]; exact I.mod.glob.keeps I.bk) hm (by rw [I.ok.blt]; exact h1.keeps I.bk) ((h2 x hn).trans hv) h) hd
theorem a4h {x : Str} {v : V} {u : Value} {pos : Pos} (hg : Gl X x) (hm : X.mg x = some u) (r : RelV v u) (hd : (x == ("__debug__" : Str)) = false := by decide) : PE X (.Name x pos) (tC v) :=
 fun _ _ _ H _ I h=>b8p I hg hm ⟨v,H,I,r,h⟩ hd
theorem c5g {x : Str} {v : V} {u : Value} {pos : Pos} (hg : Gl X x) (hm : X.mg x = none) (hv : bootBuiltins x = some u) (r : RelV v u) (hn : x ≠ "__name__" := by decide) (hd : (x == ("__debug__" : Str)) = false := by decide) : PE X (.Name x pos) (tC v) :=
 fun _ _ _ H _ I h=>d7t I hg hm hv ⟨v,H,I,r,h⟩ hn hd
variable {a b:Expr}{ta tb:TE}{pos:Pos}
def PC(X:Cx)(op:CmpOp)(a b:Expr)(t:TE):Prop :=
 ∀ (pins:List (Addr×Obj)) (s:Shared) (σ:St) (H:Hp) (Q:VK),Inv X pins σ H s->t σ H Q ->
  wpAny (model X.prog X.w) X.A (eval a X.env) (fun v s₁=>wpAny (model X.prog X.w) X.A (eval b X.env) (fun u s₂=>wpAny (model X.prog X.w) X.A (compareOp op v u) (EP X pins σ Q) X.xe s₂) X.xe s₁) X.xe s
theorem f6l(b:Expr){op:CmpOp}(h:op≠.In)(h2:op≠.NotIn):behindInMarks op b=false:=by
 have e1:(op == CmpOp.In)=false:=by cases op <;> first | rfl | exact absurd rfl h
 have e2:(op == CmpOp.NotIn)=false:=by cases op <;> first | rfl | exact absurd rfl h2
 cases b <;> simp [behindInMarks,e1,e2]
def tB(t:TE):TT:=fun σ H Q=>t σ H fun x H1=>∃ c,x = .bl c/\Q c H1
theorem g4v{op:CmpOp}{t:TE}(h:PC X op a b t)(h1:behindInMarks op b=false:=by first | exact f6l _ (by decide) (by decide) | rfl):PT X (.Compare a [op] [b] pos) (tB t):=by
 intro pins s σ H Q I hw
 refine wpAny_isTrue_Compare1 (thn (h pins s σ H _ I hw) fun v s1 h1=>thn h1 fun u s2 h2=>thn h2 fun c s3 ⟨x,H1,I1,r1,q1⟩=>?_) h1
 obtain⟨d,rfl,q⟩:=q1
 cases r1
 exact wpAny_truthy_bool ⟨H1,I1,q⟩
theorem g4w{e:Expr}{t:TE}(h:PE X e t)(he:∀ whole,isTrue e X.env whole=(do let v <- whole; standAt e.pos; holding [v] (truthy v)):=by intro _; rfl):PT X e (tB t):=by
 intro pins s σ H Q I hw
 refine isTrue_plain (thn (h pins s σ H _ I hw) fun v s1 ⟨x,H1,I1,r1,q1⟩=>?_) (he _)
 obtain⟨d,rfl,q⟩:=q1
 cases r1
 exact wpAny_truthy_bool ⟨H1,I1,q⟩
variable {tA tB':TT}{rest:List Expr}
def tAnd(t u:TT):TT:=fun σ H Q=>t σ H fun c H1=>if c=true then u σ H1 Q else Q false H1
def tOr(t u:TT):TT:=fun σ H Q=>t σ H fun c H1=>if c=true then Q true H1 else u σ H1 Q
def tNot(t:TT):TT:=fun σ H Q=>t σ H fun c H1=>Q (!c) H1
theorem pw_and1(ha:PT X a tA):PW X (.BoolOp .And [a] pos) tA:=by
 intro wh pins s σ H Q I h
 refine isTrue_and (thn (ha pins s σ H Q I h) fun c s1 e=>?_)
 cases c with
 | true=>exact isTrue_and_nil e
 | false=>exact e
theorem pw_or1(ha:PT X a tA):PW X (.BoolOp .Or [a] pos) tA:=by
 intro wh pins s σ H Q I h
 refine isTrue_or (thn (ha pins s σ H Q I h) fun c s1 e=>?_)
 cases c with
 | false=>exact isTrue_or_nil e
 | true=>exact e
theorem pw_and(ha:PT X a tA)(hb:PW X (.BoolOp .And (b :: rest) pos) tB'):PW X (.BoolOp .And (a :: b :: rest) pos) (tAnd tA tB'):=by
 intro wh pins s σ H Q I h
 refine isTrue_and (thn (ha pins s σ H _ I h) fun c s1 ⟨H1,I1,q1⟩=>?_)
 cases c with
 | true=>exact hb wh pins s1 σ H1 Q I1 q1
 | false=>exact⟨H1,I1,q1⟩
theorem pw_or(ha:PT X a tA)(hb:PW X (.BoolOp .Or (b :: rest) pos) tB'):PW X (.BoolOp .Or (a :: b :: rest) pos) (tOr tA tB'):=by
 intro wh pins s σ H Q I h
 refine isTrue_or (thn (ha pins s σ H _ I h) fun c s1 ⟨H1,I1,q1⟩=>?_)
 cases c with
 | true=>exact⟨H1,I1,q1⟩
 | false=>exact hb wh pins s1 σ H1 Q I1 q1
theorem b8q(ha:PT X a tA):PT X (.UnaryOp .Not a pos) (tNot tA):=by
 intro pins s σ H Q I h
 exact isTrue_not (ha pins s σ H (fun c H1=>Q (!c) H1) I h)
def g4x(ta tb:TE):TE:=fun σ H Q=>ta σ H fun x H1=>∃ c,x = .bl c/\if c=true then tb σ H1 Q else Q (.bl false) H1
theorem f9w{op}{t:TE}(h:PE X a t):PE X (.BoolOp op [a] pos) t:=fun pins s σ H Q I hw=>BoolOp_one (h pins s σ H Q I hw)
theorem g4y(ha:PE X a ta)(hb:PE X (.BoolOp .And (b :: rest) pos) tb):PE X (.BoolOp .And (a :: b :: rest) pos) (g4x ta tb):=by
 intro pins s σ H Q I h
 refine BoolOp_and (thn (ha pins s σ H _ I h) fun v s1 ⟨x,H1,I1,r1,q1⟩=>?_)
 obtain⟨c,rfl,q1⟩:=q1
 cases r1
 refine wpAny_truthy_bool ?_
 cases c with
 | true=>exact hb pins s1 σ H1 Q I1 q1
 | false=>exact⟨.bl false,H1,I1,rfl,q1⟩
def tIf(t:TT)(ta tb:TE):TE:=fun σ H Q=>t σ H fun c H1=>if c=true then ta σ H1 Q else tb σ H1 Q
end
end L2
namespace L2
open PySem PySem.Spec PyProof.Rows
def SqL(K:PySem.W.Frag)(H:Hp)(a:Addr)(xs:List V):Prop :=
 Rd H a (.lst xs) \/
  ∃ (o : Obj) (its : Array Value) (n : Nat), K.lookup a = some o ∧ o.cls = .type "list" ∧ o.dict = none ∧ o.data = .seq its n ∧ its.size ≤ sizeLine ∧ Vals xs its.toList
def SqT(K:PySem.W.Frag)(H:Hp)(a:Addr)(xs:List V):Prop :=
 Rd H a (.tup xs) \/
  ∃ (o : Obj) (its : Array Value) (n : Nat), K.lookup a = some o ∧ o.cls = .type "tuple" ∧ o.data = .seq its n ∧ its.size ≤ sizeLine ∧ Vals xs its.toList
noncomputable def absV:Value->Option V
 | .none=>some .non
 | .bool b=>some (.bl b)
 | .int i _=>some (.int i)
 | .str x _=>some (.str x)
 | .bytes b _=>some (.byt b)
 | .float b _=>some (.flt b)
 | .ref a=>some (.ref a)
 | .type n=>some (.ty n)
 | _=>none
theorem RelV.abs{x:V}{u:Value}(r:RelV x u):absV u=some x:=by
 cases x with
 | non=>cases r; rfl
 | bl _=>cases r; rfl
 | int _=>obtain⟨t,rfl⟩:=r; rfl
 | str _=>obtain⟨t,rfl⟩:=r; rfl
 | byt _=>obtain⟨t,rfl⟩:=r; rfl
 | flt _=>obtain⟨t,rfl⟩:=r; rfl
 | ref _=>cases r; rfl
 | ty _=>cases r; rfl
theorem RelV.inj{x y:V}{u:Value}(r:RelV x u)(q:RelV y u):x=y:=Option.some.inj (r.abs.symm.trans q.abs)
theorem Vals.inj:∀ {xs ys:List V} {us:List Value},Vals xs us->Vals ys us->xs=ys
 | _,_,_,.nil,.nil=>rfl
 | _,_,_,.cons r t,.cons r' t'=>by rw [r.inj r',Vals.inj t t']
section
variable {X:Cx}{pins:List (Addr×Obj)}{σ:St}{H:Hp}{s:Shared}{a:Addr}{xs ys:List V}
theorem SqL.of{K:PySem.W.Frag}(h:H a=some (.lst xs)):SqL K H a xs:=.inl (.inl h)
theorem SqT.of{K:PySem.W.Frag}(h:H a=some (.tup xs)):SqT K H a xs:=.inl (.inl h)
theorem Inv.list(I:Inv X pins σ H s)(h:SqL X.K H a xs):∃ its:List Value,Vals xs its/\PlainL s.heap a its.toArray/\xs.length<=sizeLine:=by
 rcases h with h | ⟨o,its,n,hk,hc,hd,hs,hz,r⟩
 ·obtain⟨z,its,n,r,e⟩:=h.ok I.hok
  exact⟨its,r,⟨_,n,e,rfl,rfl,rfl⟩,z⟩
 ·refine⟨its.toList,r,⟨o,n,I.kIn a o hk,hc,hd,by simpa using hs⟩,?_⟩
  have e:=r.length
  simp only [Array.length_toList] at e
  omega
theorem Inv.tuple(I:Inv X pins σ H s)(h:SqT X.K H a xs):∃ its:List Value,Vals xs its/\IsTup s.heap a its.toArray/\xs.length<=sizeLine:=by
 rcases h with h | ⟨o,its,n,hk,hc,hs,hz,r⟩
 ·obtain⟨z,its,r,p⟩:=h.ok I.hok
  exact⟨its,r,p,z⟩
 ·refine⟨its.toList,r,⟨o,I.kIn a o hk,hc,n,by simpa using hs⟩,?_⟩
  have e:=r.length
  simp only [Array.length_toList] at e
  omega
theorem Inv.f6m(I:Inv X pins σ H s)(h:SqL X.K H a xs)(h':SqL X.K H a ys):xs=ys:=by
 obtain⟨its,r,⟨o,n,e,_,_,d⟩,_⟩:=I.list h
 obtain⟨its',r',⟨o',n',e',_,_,d'⟩,_⟩:=I.list h'
 rw [e] at e'; cases e'
 rw [d] at d'
 injection d' with d1 _
 have:its=its':=by simpa using congrArg Array.toList d1
 subst this
 exact r.inj r'
end
noncomputable abbrev Cx.wish(X:Cx)(E:Value->Shared->Prop):Cx:={ X with xe:=E }
noncomputable abbrev Cx.nox(X:Cx):Cx:=X.wish fun _ _=>False
theorem Cx.Ok.wish{X:Cx}(ok:X.Ok)(E:Value->Shared->Prop):(X.wish E).Ok :=
 ⟨ok.mod,ok.kind,ok.glob,ok.blt,ok.above,ok.inj,ok.has,ok.cab,ok.hd,ok.frames,ok.stk,ok.exf,ok.bs,ok.bsz,ok.g1m,ok.g4t,ok.d8u,ok.frf⟩
theorem Cx.Ok.b8r{X:Cx}{E:Value->Shared->Prop}(ok:(X.wish E).Ok):X.Ok :=
 ⟨ok.mod,ok.kind,ok.glob,ok.blt,ok.above,ok.inj,ok.has,ok.cab,ok.hd,ok.frames,ok.stk,ok.exf,ok.bs,ok.bsz,ok.g1m,ok.g4t,ok.d8u,ok.frf⟩
section
variable {X:Cx}{pins:List (Addr×Obj)}{σ:St}{H:Hp}{s:Shared}{E:Value->Shared->Prop}
theorem Inv.wish(I:Inv X pins σ H s)(E:Value->Shared->Prop):Inv (X.wish E) pins σ H s:=⟨I.ok.wish E,I.os,I.bare,I.base,I.loc,I.cell,I.free,I.c0k,I.pin,I.hok,I.len⟩
theorem Inv.b8r(I:Inv (X.wish E) pins σ H s):Inv X pins σ H s:=⟨I.ok.b8r,I.os,I.bare,I.base,I.loc,I.cell,I.free,I.c0k,I.pin,I.hok,I.len⟩
theorem SP.b8r{D:Ends}{f:Flow}{s':Shared}(h:SP (X.wish E) pins D f s'):SP X pins D f s':=by
 cases f with
 | next=>obtain⟨σ',H',I,q⟩:=h; exact⟨σ',H',I.b8r,q⟩
 | brk=>obtain⟨σ',H',I,q⟩:=h; exact⟨σ',H',I.b8r,q⟩
 | cont=>obtain⟨σ',H',I,q⟩:=h; exact⟨σ',H',I.b8r,q⟩
 | ret u=>obtain⟨v,σ',H',I,r,q⟩:=h; exact⟨v,σ',H',I.b8r,r,q⟩
theorem PSs.nox{st:List Stmt}{t:TS}(h:PSs X.nox st t):PSs X st t:=fun pins s σ H D I hw =>
 wpAny_mono (h pins s σ H D (I.wish _) hw) (fun _ _ q=>q.b8r) fun _ _ z=>False.elim z
end
section
variable {X:Cx}{st:Stmt}{rest:List Stmt}{t u:TS}{e:Expr}{te:TE}{pos:Pos}
def g9k:TS:=fun D σ H=>D.nx σ H
def tSeq(t u:TS):TS:=fun D σ H=>t { D with nx:=u D } σ H
theorem a1i:PSs X [] g9k:=fun _ _ σ H _ I h=>wpAny_execs_nil ⟨σ,H,I,h⟩
theorem a0l(h1:PS X st t)(h2:PSs X rest u):PSs X (st :: rest) (tSeq t u):=by
 intro pins s σ H D I h
 refine wpAny_execs_cons (thn (h1 pins s σ H { D with nx:=u D } I h) fun f s1 q=>?_)
 cases f with
 | next =>
  obtain⟨σ',H',I',q⟩:=q
  exact h2 pins s1 σ' H' D I' q
 | ret v=>exact q
 | brk=>exact q
 | cont=>exact q
theorem a0n(h1:PS X st t):PSs X [st] t:=by
 intro pins s σ H D I h
 refine wpAny_execs_cons (thn (h1 pins s σ H D I h) fun f s1 q=>?_)
 cases f with
 | next=>exact wpAny_execs_nil q
 | ret v=>exact q
 | brk=>exact q
 | cont=>exact q
theorem Inv.quiet{pins:List (Addr×Obj)}{σ:St}{H:Hp}{s:Shared}(I:Inv X pins σ H s):interactive X.env=false:=by simp [interactive,I.ok.kind]
def g4z(te:TE):TS:=fun D σ H=>te σ H fun _ H1=>D.nx σ H1
theorem a4i(he:PE X e te)(hs:swapsWith e none pos.line X.env=pure false:=by rfl):PS X (.Expr e pos) (g4z te):=by
 intro pins s σ H D I h
 exact wpAny_Expr_any (thn (he pins s σ H _ I h) fun v s1 ⟨x,H1,I1,r1,q1⟩=>⟨σ,H1,I1,q1⟩) I.quiet hs
def tRet(te:TE):TS:=fun D σ H=>te σ H D.rt
theorem a1j(he:PE X e te):PS X (.Return (some e) pos) (tRet te):=by
 intro pins s σ H D I h
 exact wpAny_Return_some (thn (he pins s σ H _ I h) fun v s1 ⟨x,H1,I1,r1,q1⟩=>⟨x,σ,H1,I1,r1,q1⟩)
def tRetN:TS:=fun D _ H=>D.rt .non H
def g9l(c:TT)(t u:TS):TS:=fun D σ H=>c σ H fun b H1=>if b=true then t D σ H1 else u D σ H1
theorem a5y{c:Expr}{a b:List Stmt}{tc:TT}(hc:PT X c tc)(ha:PSs X a t)(hb:PSs X b u):PS X (.If c a b pos) (g9l tc t u):=by
 intro pins s σ H D I h
 refine wpAny_If (thn (hc pins s σ H _ I h) fun d s1 ⟨H1,I1,q1⟩=>?_)
 cases d with
 | true=>exact ha pins s1 σ H1 D I1 q1
 | false=>exact hb pins s1 σ H1 D I1 q1
def g5a:TS:=fun _ _ _=>False
theorem a9g:PS X st g5a:=fun _ _ _ _ _ _ h=>h.elim
end
noncomputable abbrev TG:=V->St->Hp->(St->Hp->Prop)->Prop
noncomputable abbrev TGs:=List V->St->Hp->(St->Hp->Prop)->Prop
def PG(X:Cx)(target:Expr)(t:TG):Prop :=
 ∀ (pins:List (Addr×Obj)) (s:Shared) (σ:St) (H:Hp) (v:V) (u:Value) (Q:St->Hp->Prop),Inv X pins σ H s->RelV v u->t v σ H Q ->
  wpAny (model X.prog X.w) X.A (assign target X.env u) (fun _ s'=>∃ σ' H',Inv X pins σ' H' s'/\Q σ' H') X.xe s
def PGs(X:Cx)(ts:List Expr)(t:TGs):Prop :=
 ∀ (pins:List (Addr×Obj)) (s:Shared) (σ:St) (H:Hp) (vs:List V) (us:List Value) (Q:St->Hp->Prop),Inv X pins σ H s->Vals vs us->t vs σ H Q ->
  wpAny (model X.prog X.w) X.A (assignInOrder ((assignEach ts X.env).map (·.2)) us) (fun _ s'=>∃ σ' H',Inv X pins σ' H' s'/\Q σ' H') X.xe s
noncomputable abbrev TSet:=V->V->V->Hp->(Hp->Prop)->Prop
noncomputable abbrev TIp:=V->V->Hp->VK->Prop
section
variable {X:Cx}{pos:Pos}
def f6n(i:Nat):TG:=fun v σ H Q=>Q (σ.set i (some v)) H
theorem a4p{i:Nat}{x:Str}(hN:X.N.Nodup)(hi:X.N[i]? = some x)(hx:Loc X.env.scope x)(hf:X.fn x=true\/X.env.scope.names.lookup x=some .local:=by first | exact .inl rfl | exact .inr rfl | assumption):PG X (.Name x pos) (f6n i):=by
 intro pins s σ H v u Q I r h
 exact wpAny_assign_Name (c8p I hN hi hx r (fun s' I'=>⟨_,H,I',h⟩) hf)
noncomputable def gNil:TGs:=fun vs σ H Q=>vs = []/\Q σ H
def g9m(t:TG)(u:TGs):TGs:=fun vs σ H Q=>∃ v r,vs=v :: r/\t v σ H fun σ' H'=>u r σ' H' Q
theorem f1k:PGs X [] gNil:=by
 intro pins s σ H vs us Q I r h
 obtain⟨e,h⟩:=h
 subst e
 cases r
 exact assignInOrder_nil ⟨σ,H,I,h⟩
theorem c4r{e:Expr}{es:List Expr}{t:TG}{u:TGs}(h1:PG X e t)(h2:PGs X es u)
  (hs:(assignEach (e :: es) X.env).map (·.2)=assign e X.env :: (assignEach es X.env).map (·.2):=by rfl):PGs X (e :: es) (g9m t u):=by
 intro pins s σ H vs us Q I r h
 obtain⟨v,vr,e1,h⟩:=h
 subst e1
 cases r with
 | cons r rr =>
  rw [hs]
  refine assignInOrder_cons (thn (h1 pins s σ H _ _ _ I r h) fun _ s1 ⟨σ1,H1,I1,q1⟩=>?_)
  exact h2 pins s1 σ1 H1 _ _ Q I1 rr q1
def gTup(K:PySem.W.Frag)(n:Nat)(t:TGs):TG:=fun v σ H Q=>∃ a xs,v = .ref a/\SqT K H a xs/\xs.length=n/\t xs σ H Q
theorem f9y{es:List Expr}{k:Nat}{t:TGs}{n:Nat}(hc:X.calm=true)(h:PGs X es t)
  (hn:(assignEach es X.env).length=n:=by rfl) (hst:(assignEach es X.env).findIdx? (·.1)=none:=by rfl):PG X (.Tuple es k pos) (gTup X.K n t):=by
 intro pins s σ H v u Q I r hw
 obtain⟨a,xs,e1,hq,hl,hw⟩:=hw
 subst e1
 cases r
 obtain⟨its,rv,ht,hz⟩:=I.tuple hq
 refine assign_Tuple_tuple (I.ok.hd hc) ht (by simp [hn,<- hl,rv.length]) hst fun h' hx=>?_
 have I1:Inv X pins σ H { s with heap:=h' }:=I.kept (t':=s.toks) fun b o e=>hx b o (Nat.ne_of_lt (Heap.lt_size e)) e
 exact h pins _ σ H xs _ Q I1 (by simpa using rv) hw
def gSub(to ti:TE)(t:TSet):TG:=fun v σ H Q=>to σ H fun o H1=>ti σ H1 fun i H2=>t o i v H2 fun H3=>Q σ H3
def g9n(te:TE)(g:TG):TS:=fun D σ H=>te σ H fun x H1=>g x σ H1 D.nx
theorem a2i{i:Nat}{x:Str}{e:Expr}{te:TE}{pos':Pos}(hN:X.N.Nodup)(hi:X.N[i]? = some x)(hx:Loc X.env.scope x)(he:PE X e te)(hs:swapsWith e (some (.Name x pos')) pos.line X.env=pure false:=by rfl)(hf:X.fn x=true\/X.env.scope.names.lookup x=some .local:=by first | exact .inl rfl | exact .inr rfl | assumption) :
  PS X (.Assign [.Name x pos'] e pos) (g9n te (f6n i)):=by
 intro pins s σ H D I h
 refine wpAny_Assign_Name (thn (he pins s σ H _ I h) fun v s1 ⟨y,H1,I1,r1,q1⟩=>?_) hs
 exact c8p I1 hN hi hx r1 (fun s2 I2=>⟨_,H1,I2,q1⟩) hf
end
section
variable {X:Cx}{pos:Pos}
end
structure It where
 go:Nat->Hp->Prop
 yld:Nat->Hp->V->Hp->Prop
 stop:Nat->Hp->Prop
def d1q(X:Cx)(pins:List (Addr×Obj))(H:Hp)(b:Addr):Prop :=
 H b=none/\b≠X.env.locals/\b∉X.fs/\(b∈X.ex\/X.s₀.heap.objs.size<=b)/\(∀ x c,X.env.cells.lookup x=some c->c≠b)/\∀ p∈X.pn++pins,p.1≠b
theorem Inv.g5b{X:Cx}{pins:List (Addr×Obj)}{σ:St}{H H':Hp}{s:Shared}{b:Addr}(I:Inv X pins σ H s)(hb:s.heap.objs.size<=b)(hn:H' b=none):d1q X pins H' b:=by
 refine⟨hn,Nat.ne_of_gt (Nat.lt_of_lt_of_le I.lt hb),I.nofs hb,.inr (Nat.le_trans I.sz hb),fun x c e z=>?_,fun p hp z=>?_⟩
 ·obtain⟨v,q⟩:=I.cell x c e
  exact absurd (Nat.lt_of_lt_of_le q.lt (by rw [z]; exact hb)) (Nat.lt_irrefl _)
 ·exact absurd (Nat.lt_of_lt_of_le (Heap.lt_size (I.pin p hp).1) (by rw [z]; exact hb)) (Nat.lt_irrefl _)
structure Turn(P:Program)(w:World)(K:PySem.W.Frag)(tg:Expr)(J:It)(fp:List Addr)(it:Addr)(tn:Nat->Heap->Prop):Prop where
 mem:it∈fp
 obj:∀ i h,tn i h->∀ b∈fp,∃ o,h.get? b=some o/\∀ v,o.data≠.cell v
 keep:∀ i h h',tn i h->(∀ b∈fp,∀ o,h.get? b=some o->h'.get? b=some o)->tn i h'
 item:∀ (X:Cx),X.prog=P->X.w=w->X.K=K->X.calm=true->∀ (i:Nat) (pins:List (Addr×Obj)) (s:Shared) (σ:St) (H:Hp) (E:Value->Shared->Prop),Inv X pins σ H s->(∀ b∈fp,d1q X pins H b)->tn i s.heap->J.go i H ->
  wpAny (model P w) X.A (pyNext (.ref it)) (fun r s1=>∃ u,r=some u /\
   wpAny (model P w) X.A (letOwnedTupleGo tg (.ref it) u) (fun _ s2=>∃ x H',Inv X pins σ H' s2/\RelV x u/\J.yld i H x H'/\tn (i+1) s2.heap/\∀ b∈fp,H' b=none) E s1) E s
 done:∀ (X:Cx),X.prog=P->X.w=w->X.K=K->X.calm=true->∀ (i:Nat) (pins:List (Addr×Obj)) (s:Shared) (σ:St) (H:Hp) (E:Value->Shared->Prop),Inv X pins σ H s->(∀ b∈fp,d1q X pins H b)->tn i s.heap->J.stop i H ->
  wpAny (model P w) X.A (pyNext (.ref it)) (fun r s1=>r=none/\Inv X pins σ H s1) E s
 self:∀ (A:Around) (i:Nat) (s:Shared) (Q:Value->Shared->Prop) (E:Value->Shared->Prop),tn i s.heap->Q (.ref it) s->wpAny (model P w) A (pyIter (.ref it)) Q E s
noncomputable abbrev TI:=St->Hp->(It->Hp->Prop)->Prop
def PIE(X:Cx)(pins:List (Addr×Obj))(σ:St)(tg:Expr)(R:It->Hp->Prop)(itv:Value)(s2:Shared):Prop :=
 ∃ (it:Addr) (fp:List Addr) (tn:Nat->Heap->Prop) (J:It) (H':Hp),itv = .ref it/\Inv X pins σ H' s2/\Turn X.prog X.w X.K tg J fp it tn/\tn 0 s2.heap/\(∀ b∈fp,d1q X pins H' b)/\R J H'
def PI(X:Cx)(tg iter:Expr)(wi:TI):Prop :=
 ∀ (pins:List (Addr×Obj)) (s:Shared) (σ:St) (H:Hp) (R:It->Hp->Prop),Inv X pins σ H s->wi σ H R ->
  wpAny (model X.prog X.w) X.A (eval iter X.env) (fun v s1=>wpAny (model X.prog X.w) X.A (pyIter v) (PIE X pins σ tg R) X.xe s1) X.xe s
theorem g1n{M:Model}{A:Around}{E:Value->Shared->Prop}{s:Shared}{tg:Expr}{it:Addr}{u:Value}{o:Obj}{n:String}{vs:Array Value}{Q:Unit->Shared->Prop}(ho:s.heap.get? it=some o)(hc:o.cls = .type n)(hd:o.data = .fields vs)
  (hn : ["enumerate", "zip", "dict_itemiterator", "dict_reverseitemiterator", "odict_iterator", "itertools.zip_longest", "itertools.pairwise"].contains n = false) (hQ : Q () s) : wpAny M A (letOwnedTupleGo tg (.ref it) u) Q E s := by
 unfold letOwnedTupleGo
 cases tg <;> first
  | exact wpAny_pure hQ
  | (cases u <;> first
    | exact wpAny_pure hQ
    | (refine wpAny_bind (wpAny_load ho ?_)
       rw [hc,hd]
       show wpAny M A (if (["enumerate", "zip", "dict_itemiterator", "dict_reverseitemiterator", "odict_iterator", "itertools.zip_longest", "itertools.pairwise"].contains n && vs[0]? == some (rawInt _)) = true then _ else _) Q E s
       rw [if_neg (by intro h; rw [hn,Bool.false_and] at h; cases h)]
       exact wpAny_pure hQ))
noncomputable def Itl(K:PySem.W.Frag)(a:Addr):It :=
 ⟨fun i H=>∃ xs x,SqL K H a xs/\xs[i]? = some x,fun i H x H'=>H'=H/\∀ xs,SqL K H a xs->xs[i]? = some x,fun i H=>∃ xs,SqL K H a xs/\xs.length<=i⟩
noncomputable def Itr(lo:Int)(n:Nat):It:=⟨fun i _=>i < n,fun i H x H'=>H'=H/\x = .int (lo+i),fun i _=>n<=i⟩
theorem f1l{P:Program}{w:World}{K:PySem.W.Frag}{tg:Expr}(a it:Addr):Turn P w K tg (Itl K a) [it] it (fun i h=>h.IsListIter it a i) where
 mem:=by simp
 obj:=fun i h st b hb=>by
  have e:b=it:=by simpa using hb
  subst e
  obtain⟨o,e,c,d⟩:=st
  exact⟨o,e,fun v z=>by rw [d] at z; cases z⟩
 keep:=fun i h h' st k=>st.at fun o e=>k it (by simp) o e
 item:=by
  intro X hP hw hK hc i pins s σ H E I hf st hg
  subst hP hw hK
  obtain⟨xs,x,hq,hx⟩:=hg
  obtain⟨its,rv,p,hz⟩:=I.list hq
  obtain⟨u,hu,ru⟩:=rv.get hx
  obtain⟨f0,f1,f2,f3,f4,f5⟩:=hf it (by simp)
  refine wpAny_pyNext_list_item st p.isList (x:=u) (by simpa using hu) fun h' st' sb=>?_
  have I1:Inv X pins σ H { s with heap:=h' }:=I.turned (t':=s.toks) (fun b o hb e=>(sb.2 b hb).trans e) f0 f1 f3 f4 f5
  obtain⟨o,e,c,d⟩:=id st'
  exact⟨u,rfl,g1n (s:={ s with heap:=h' }) e c d (by decide) ⟨x,H,I1,ru,⟨rfl,fun ys hy=>by rw [I.f6m hy hq]; exact hx⟩,st',fun b hb=>(hf b hb).1⟩⟩
 done:=by
  intro X hP hw hK hc i pins s σ H E I hf st hg
  subst hP hw hK
  obtain⟨xs,hq,hx⟩:=hg
  obtain⟨its,rv,p,hz⟩:=I.list hq
  obtain⟨f0,f1,f2,f3,f4,f5⟩:=hf it (by simp)
  have hl:=rv.length
  exact wpAny_pyNext_list_end (I.ok.hd hc) st p.isList (by simp; omega) fun h' eb=>⟨rfl,I.turned (t':=s.toks) (fun b o hb e=>eb b o hb e) f0 f1 f3 f4 f5⟩
 self:=fun _ _ _ _ _ st h=>wpAny_pyIter_listiter st h
theorem d8v{P:Program}{w:World}{K:PySem.W.Frag}{tg:Expr}(it:Addr)(lo:Int)(n:Nat):Turn P w K tg (Itr lo n) [it] it (fun i h=>IsRangeIter h it (lo+(i:Nat)*1) ((n:Int) - (i:Nat)) 1) where
 mem:=by simp
 obj:=fun i h st b hb=>by
  have e:b=it:=by simpa using hb
  subst e
  exact⟨_,st,fun v z=>by
   have z':Data.fields _=Data.cell v:=z
   cases z'⟩
 keep:=fun i h h' st k=>k it (by simp) _ st
 item:=by
  intro X hP hw hK hc i pins s σ H E I hf st hg
  subst hP hw hK
  obtain⟨f0,f1,f2,f3,f4,f5⟩:=hf it (by simp)
  have W:=Walks.range (prog:=X.prog) (w:=X.w) (I.ok.hd hc) it lo 1 n
  refine W.item i s _ _ hg st fun v h' tk hv st' kk=>?_
  obtain⟨t,rfl⟩:=hv
  have I1:Inv X pins σ H { s with heap:=h',toks:=tk }:=I.turned (fun b o hb e=>kk b o (by simpa using hb) e) f0 f1 f3 f4 f5
  refine ⟨_, rfl, g1n (s := { s with heap := h', toks := tk }) (n := "range_iterator") st' rfl rfl (by decide) ⟨.int (lo + i), H, I1, ⟨t, ?_⟩, ⟨rfl, rfl⟩, st', fun b hb => (hf b hb).1⟩⟩
  rw [Int.mul_one]
 done:=by
  intro X hP hw hK hc i pins s σ H E I hf st hg
  subst hP hw hK
  obtain⟨f0,f1,f2,f3,f4,f5⟩:=hf it (by simp)
  exact wpAny_pyNext_range_end (I.ok.hd hc) st (by have:n<=i:=hg; omega) fun h' eb=>⟨rfl,I.turned (t':=s.toks) (fun b o hb e=>eb b o hb e) f0 f1 f3 f4 f5⟩
 self:=fun _ _ _ _ _ st h=>wpAny_pyIter_rangeiter st h
end L2
namespace L2
open PySem PySem.Spec PyProof.Rows
section
variable {X:Cx}{tg:Expr}
def g5c(K:PySem.W.Frag)(tl:TE):TI:=fun σ H R=>tl σ H fun x H1=>∃ a,x = .ref a/\(∃ xs,SqL K H1 a xs)/\R (Itl K a) H1
theorem g1o{l:Expr}{tl:TE}(hl:PE X l tl):PI X tg l (g5c X.K tl):=by
 intro pins s σ H R I h
 refine thn (hl pins s σ H _ I h) fun v s1 ⟨x,H1,I1,r1,q1⟩=>?_
 obtain⟨a,e,⟨xs,hq⟩,q⟩:=q1
 subst e
 cases r1
 obtain⟨its,rv,p,hz⟩:=I1.list hq
 refine wpAny_pyIter_list p.isList ?_
 refine⟨s1.heap.objs.size,[s1.heap.objs.size],_,_,H1,rfl,I1.kept (t':=s1.toks) fun b o e=>Heap.get?_push_of_some _ e,f1l a _,⟨_,Heap.get?_push_size _ rfl,rfl,rfl⟩,fun b hb=>?_,q⟩
 have e:b=s1.heap.objs.size:=by simpa using hb
 subst e
 exact I1.g5b (Nat.le_refl _) (I1.hok.fresh (Nat.le_refl _))
theorem f6o{pins:List (Addr×Obj)}{σ:St}{H:Hp}{s:Shared}{R:It->Hp->Prop}{E:Value->Shared->Prop}{lo hi:Int}{t u v:Tok}{tk:Nat}(I:Inv X pins σ H s)(h1 : -(2 ^ 62)<=lo)(h2:lo < 2 ^ 62)(h3 : -(2 ^ 62)<=hi)(h4:hi < 2 ^ 62)
  (q : R (Itr lo (hi - lo).toNat) H) : wpAny (model X.prog X.w) X.A (pyIter (.ref s.heap.objs.size)) (PIE X pins σ tg R) E { s with heap := s.heap.push { cls := .type "range", data := .fields #[.int lo t, .int hi u, .int 1 v] }, toks := tk } := by
 refine wpAny_pyIter_range (IsRange.new ..) (small_one h1 h2 h3 h4) ?_
 have I1 : Inv X pins σ H { s with heap := s.heap.push { cls := .type "range", data := .fields #[.int lo t, .int hi u, .int 1 v] }, toks := tk } := I.kept fun b o e => Heap.get?_push_of_some _ e
 refine ⟨(s.heap.push { cls := .type "range", data := .fields #[.int lo t, .int hi u, .int 1 v] }).objs.size, [(s.heap.push { cls := .type "range", data := .fields #[.int lo t, .int hi u, .int 1 v] }).objs.size], _, _, H, rfl,
  I1.kept (t':=tk) fun b o e=>Heap.get?_push_of_some _ e,d8v _ lo (hi - lo).toNat,?_,fun b hb=>?_,q⟩
 ·have e1:lo+((0:Nat):Int)*1=lo:=by simp
  have e2:(((hi - lo).toNat:Nat):Int) - ((0:Nat):Int)=Builtin.Range.rangeSize lo hi 1:=by rw [rangeSize_one]; split <;> omega
  show IsRangeIter _ _ (lo+((0:Nat):Int)*1) ((((hi - lo).toNat:Nat):Int) - ((0:Nat):Int)) 1
  rw [e1,e2]
  exact Heap.get?_push_size _ rfl
 ·have e : b = (s.heap.push { cls := .type "range", data := .fields #[.int lo t, .int hi u, .int 1 v] }).objs.size := by simpa using hb
  subst e
  exact I1.g5b (Nat.le_refl _) (I1.hok.fresh (Nat.le_refl _))
def g5d(ta:TA):TI:=fun σ H R=>ta σ H fun vs H1=>∃ j:Int,vs = [.int j] /\ -(2 ^ 62)<=j/\j < 2 ^ 62/\R (Itr 0 j.toNat) H1
theorem f1m {a : Expr} {ta : TA} {p pos : Pos} (hg : Gl X "range") (hm : X.mg "range" = none) (ha : PA X [a] ta) (hs : starEach [a] X.env = [(false, eval a X.env)] := by rfl) : PI X tg (.Call (.Name "range" p) [a] [] pos) (g5d ta) := by
 intro pins s σ H R I h
 refine Call_ (d7t I hg hm boot_range (PyProof.Rows.callWith_type1 (thn (ha pos pins s σ H _ I h) fun us s1 ⟨vs,H1,I1,r1,q1⟩=>?_) hs rfl))
 obtain⟨j,e,q1,q2,q⟩:=q1
 subst e
 cases r1 with
 | cons r rr =>
  cases rr
  obtain⟨t,rfl⟩:=r
  exact call_range_1 (f6o I1 (by omega) (by omega) q1 q2 (by simpa using q))
def tFor(wi:TI)(g:TG)(tb:TS):TS:=fun D σ H=>wi σ H fun J H1=>∃ W:Nat->Nat->St->Hp->Prop,(∃ m,W 0 m σ H1)/\∀ i m σ H,W i m σ H ->
 (J.stop i H/\D.nx σ H)\/(J.go i H/\∃ N:St->Hp->Prop,(∀ σ' H',N σ' H'->∃ m',m' < m/\W (i+1) m' σ' H')/\∀ x H',J.yld i H x H'->g x σ H' fun σ2 H2=>tb { D with nx:=N,ct:=N,bk:=D.nx } σ2 H2)
noncomputable def c7v(fp:List Addr)(h:Heap):List (Addr×Obj):=fp.filterMap fun b=>(h.get? b).map fun o=>(b,o)
theorem b0v{fp:List Addr}{h:Heap}{b:Addr}{o:Obj}(hb:b∈fp)(e:h.get? b=some o):(b,o)∈c7v fp h:=List.mem_filterMap.mpr ⟨b,hb,by rw [e]; rfl⟩
theorem f1n{fp:List Addr}{h:Heap}{p:Addr×Obj}(hp:p∈c7v fp h):p.1∈fp/\h.get? p.1=some p.2:=by
 obtain⟨b,hb,e⟩:=List.mem_filterMap.mp hp
 cases q:h.get? b with
 | none=>rw [q] at e; cases e
 | some o =>
  rw [q] at e
  have e':(b,o)=p:=Option.some.inj e
  subst e'
  exact⟨hb,q⟩
theorem Inv.pinned{pins:List (Addr×Obj)}{σ:St}{H:Hp}{s:Shared}{fp:List Addr}(I:Inv X pins σ H s)(hf:∀ b∈fp,d1q X pins H b)(ho:∀ b∈fp,∃ o,s.heap.get? b=some o/\∀ v,o.data≠.cell v):Inv X (pins++c7v fp s.heap) σ H s :=
 I.f1j fun p hp=>(List.mem_append.mp hp).elim (fun z=>I.pin p (List.mem_append_right _ z)) fun z=>by
  obtain⟨hb,e⟩:=f1n z
  obtain⟨f0,f1,f2,_⟩:=hf p.1 hb
  obtain⟨o,e',d⟩:=ho p.1 hb
  rw [e] at e'; cases e'
  exact⟨e,f0,f1,f2,d⟩
theorem Inv.c1o{pins pl:List (Addr×Obj)}{σ:St}{H:Hp}{s:Shared}(I:Inv X (pins++pl) σ H s):Inv X pins σ H s:=I.f1j fun p hp=>I.pin p (List.mem_append_right _ (List.mem_append_left _ hp))
theorem g5e{iter:Expr}{body:List Stmt}{wi:TI}{g:TG}{tb:TS}{pos:Pos}(hp:PassesOwn (model X.prog X.w) X.A X.env X.xe)(hc:X.calm=true)(hi:PI X tg iter wi)(hg:PG X tg g)(hb:PSs X body tb)
  (hs:∀ x,foldedSetIterable iter X.env x=pure x:=by intro _; rfl):PS X (.For tg iter body [] pos) (tFor wi g tb):=by
 intro pins s σ H D I h
 refine wpAny_For (thn (hi pins s σ H _ I h) fun v s1 h1=>thn h1 fun itv s2 h2=>?_) hs
 obtain⟨it,fp,tn,J,H2,e,I2,T,st2,f2,W,⟨m0,w0⟩,turn⟩:=h2
 subst e
 -- what stays true of the iterator's objects through the loop
 have stat:∀ {H':Hp},(∀ b∈fp,H' b=none)->∀ b∈fp,d1q X pins H' b:=fun hn b hb=>⟨hn b hb,(f2 b hb).2⟩
 refine codeAny_forLoop_any (fun n s'=>∃ i σ' H',Inv X pins σ' H' s'/\tn i s'.heap/\(∀ b∈fp,H' b=none)/\W i n σ' H') ?_ m0 ⟨0,σ,H2,I2,st2,fun b hb=>(f2 b hb).1,w0⟩
 rintro n s3 ⟨i,σ3,H3,I3,st3,fr3,w3⟩
 rcases turn i n σ3 H3 w3 with ⟨stop,qn⟩ | ⟨go,N,hN,step⟩
 ·refine wpAny_passesOwn hp (thn (T.done X rfl rfl rfl hc i pins s3 σ3 H3 X.xe I3 (stat fr3) st3 stop) fun r s4 ⟨hr,I4⟩=>?_)
  subst hr
  exact wpAny_execs_nil ⟨σ3,H3,I4,qn⟩
 ·refine wpAny_passesOwn hp (thn (T.item X rfl rfl rfl hc i pins s3 σ3 H3 X.xe I3 (stat fr3) st3 go) fun r s4 ⟨u,hr,h4⟩=>?_)
  subst hr
  refine wpAny_passesOwn hp (thn h4 fun _ s5 ⟨x,H5,I5,r5,y5,st5,fr5⟩=>?_)
  have I5':=I5.pinned (stat fr5) (T.obj _ _ st5)
  refine wpAny_passesOwn hp (thn (hg _ s5 σ3 H5 x u _ I5' r5 (step x H5 y5)) fun _ s6 ⟨σ6,H6,I6,q6⟩=>?_)
  refine wpAny_passesOwn hp (thn (hb _ s6 σ6 H6 _ I6 q6) fun f s7 q7=>?_)
  have again:∀ {σ7:St} {H7:Hp},Inv X (pins++c7v fp s5.heap) σ7 H7 s7->N σ7 H7->∃ m,m < n/\∃ i σ' H',Inv X pins σ' H' s7/\tn i s7.heap/\(∀ b∈fp,H' b=none)/\W i m σ' H':=fun {σ7 H7} I7 n7=>by
   obtain⟨m',hm,w7⟩:=hN σ7 H7 n7
   refine⟨m',hm,i+1,σ7,H7,I7.c1o,T.keep _ _ _ st5 fun b hb o e=>(I7.pin (b,o) (List.mem_append_right _ (List.mem_append_right _ (b0v hb e)))).1,fun b hb=>?_,w7⟩
   obtain⟨o,e,d⟩:=T.obj _ _ st5 b hb
   exact (I7.pin (b,o) (List.mem_append_right _ (List.mem_append_right _ (b0v hb e)))).2.1
  cases f with
  | next=>obtain⟨σ7,H7,I7,n7⟩:=q7; exact again I7 n7
  | cont=>obtain⟨σ7,H7,I7,n7⟩:=q7; exact again I7 n7
  | brk=>obtain⟨σ7,H7,I7,q7⟩:=q7; exact⟨σ7,H7,I7.c1o,q7⟩
  | ret v=>obtain⟨x7,σ7,H7,I7,r7,q7⟩:=q7; exact⟨x7,σ7,H7,I7.c1o,r7,q7⟩
end
theorem f6p{K:PySem.W.Frag}{a:Addr}{xs:List V}{g:TG}{tb:TS}{D:Ends}{σ:St}{H:Hp}(Pv:Nat->St->Hp->Prop)(h0:Pv 0 σ H)(hl:∀ i σ H,i<=xs.length->Pv i σ H->SqL K H a xs)
  (hs:∀ i x σ H,xs[i]? = some x->Pv i σ H->g x σ H fun σ2 H2=>tb { D with nx:=Pv (i+1),ct:=Pv (i+1),bk:=D.nx } σ2 H2) (hd:∀ σ H,Pv xs.length σ H->D.nx σ H) :
  ∃ W:Nat->Nat->St->Hp->Prop,(∃ m,W 0 m σ H)/\∀ i m σ H,W i m σ H ->
   ((Itl K a).stop i H/\D.nx σ H)\/((Itl K a).go i H/\∃ N:St->Hp->Prop,(∀ σ' H',N σ' H'->∃ m',m' < m/\W (i+1) m' σ' H')/\∀ x H',(Itl K a).yld i H x H'->g x σ H' fun σ2 H2=>tb { D with nx:=N,ct:=N,bk:=D.nx } σ2 H2):=by
 refine⟨fun i m σ H=>m=xs.length - i/\i<=xs.length/\Pv i σ H,⟨xs.length,by simp,Nat.zero_le _,h0⟩,?_⟩
 rintro i m σ H ⟨rfl,hi,p⟩
 have q:=hl i σ H hi p
 by_cases hlt:i < xs.length
 ·refine .inr ⟨⟨xs,xs[i],q,by simp [hlt]⟩,Pv (i+1),fun σ' H' p'=>⟨xs.length - (i+1),by omega,rfl,hlt,p'⟩,fun x H' y=>?_⟩
  obtain⟨e,y⟩:=y
  subst e
  exact hs i x σ _ (y xs q) p
 ·have e:i=xs.length:=by omega
  subst e
  exact .inl ⟨⟨xs,q,Nat.le_refl _⟩,hd σ H p⟩
theorem f1o{lo:Int}{n:Nat}{g:TG}{tb:TS}{D:Ends}{σ:St}{H:Hp}(Pv:Nat->St->Hp->Prop)(h0:Pv 0 σ H)
  (hs:∀ i σ H,i < n->Pv i σ H->g (.int (lo+i)) σ H fun σ2 H2=>tb { D with nx:=Pv (i+1),ct:=Pv (i+1),bk:=D.nx } σ2 H2) (hd:∀ σ H,Pv n σ H->D.nx σ H) :
  ∃ W:Nat->Nat->St->Hp->Prop,(∃ m,W 0 m σ H)/\∀ i m σ H,W i m σ H ->
   ((Itr lo n).stop i H/\D.nx σ H)\/((Itr lo n).go i H/\∃ N:St->Hp->Prop,(∀ σ' H',N σ' H'->∃ m',m' < m/\W (i+1) m' σ' H')/\∀ x H',(Itr lo n).yld i H x H'->g x σ H' fun σ2 H2=>tb { D with nx:=N,ct:=N,bk:=D.nx } σ2 H2):=by
 refine⟨fun i m σ H=>m=n - i/\i<=n/\Pv i σ H,⟨n,by simp,Nat.zero_le _,h0⟩,?_⟩
 rintro i m σ H ⟨rfl,hi,p⟩
 by_cases hlt:i < n
 ·refine .inr ⟨hlt,Pv (i+1),fun σ' H' p'=>⟨n - (i+1),by omega,rfl,hlt,p'⟩,fun x H' y=>?_⟩
  obtain⟨e,y⟩:=y
  subst e y
  exact hs i σ _ hlt p
 ·have e:i=n:=by omega
  subst e
  exact .inl ⟨Nat.le_refl _,hd σ H p⟩
end L2
namespace L2
open PySem PySem.Spec PyProof.Rows
noncomputable abbrev R2:=V->V->Hp->VK->Prop
def OpR(X:Cx)(f:Value->Value->Sem Value)(r:R2):Prop :=
 ∀ (pins:List (Addr×Obj)) (s:Shared) (σ:St) (H:Hp) (x y:V) (v u:Value) (Q:VK),Inv X pins σ H s->RelV x v->RelV y u->r x y H Q ->
  wpAny (model X.prog X.w) X.A (f v u) (EP X pins σ Q) X.xe s
def UnR(X:Cx)(f:Value->Sem Value)(r:V->Hp->VK->Prop):Prop :=
 ∀ (pins:List (Addr×Obj)) (s:Shared) (σ:St) (H:Hp) (x:V) (v:Value) (Q:VK),Inv X pins σ H s->RelV x v->r x H Q ->
  wpAny (model X.prog X.w) X.A (f v) (EP X pins σ Q) X.xe s
def b8n(X:Cx)(f:Value)(r:List V->Hp->VK->Prop):Prop :=
 ∀ (pins:List (Addr×Obj)) (s:Shared) (σ:St) (H:Hp) (xs:List V) (us:List Value) (Q:VK),Inv X pins σ H s->Vals xs us->r xs H Q ->
  wpAny (model X.prog X.w) X.A (call f us) (EP X pins σ Q) X.xe s
def tOp(r:R2)(ta tb:TE):TE:=fun σ H Q=>ta σ H fun x H1=>tb σ H1 fun y H2=>r x y H2 Q
def tUn(r:V->Hp->VK->Prop)(ta:TE):TE:=fun σ H Q=>ta σ H fun x H1=>r x H1 Q
def rI(C:Int->Int->Prop)(g:Int->Int->V):R2:=fun x y H Q=>∃ i j,x = .int i/\y = .int j/\C i j/\Q (g i j) H
def rI0(g:Int->Int->V):R2:=fun x y H Q=>∃ i j,x = .int i/\y = .int j/\Q (g i j) H
section
variable {X:Cx}{a b c:Expr}{ta tb tc:TE}{pos:Pos}
theorem g9o(ha:PE X a ta)(hb:PE X b tb){pins:List (Addr×Obj)}{s:Shared}{σ:St}{H:Hp}{R:V->V->Hp->Prop}(I:Inv X pins σ H s)
  (h:ta σ H fun x H1=>tb σ H1 fun y H2=>R x y H2) {Q:Value->Shared->Prop} {f:Value->Value->Sem Value}
  (hf:∀ v u s2 x y H2,Inv X pins σ H2 s2->RelV x v->RelV y u->R x y H2->wpAny (model X.prog X.w) X.A (f v u) Q X.xe s2) :
  wpAny (model X.prog X.w) X.A (eval a X.env) (fun v s₁=>wpAny (model X.prog X.w) X.A (eval b X.env) (fun u s₂=>wpAny (model X.prog X.w) X.A (f v u) Q X.xe s₂) X.xe s₁) X.xe s:=by
 refine thn (ha pins s σ H _ I h) fun v s1 ⟨x,H1,I1,r1,q1⟩=>?_
 refine thn (hb pins s1 σ H1 _ I1 q1) fun u s2 ⟨y,H2,I2,r2,q2⟩=>?_
 exact hf v u s2 x y H2 I2 r1 r2 q2
theorem a4q{op:Operator}{r:R2}(ho:OpR X (binaryOp op) r)(ha:PE X a ta)(hb:PE X b tb):PE X (.BinOp a op b pos) (tOp r ta tb):=by
 intro pins s σ H Q I h
 exact wpAny_BinOp (g9o ha hb I h fun v u s2 x y H2 I2 rx ry q=>ho pins s2 σ H2 x y v u Q I2 rx ry q)
theorem opI{f:Value->Value->Sem Value}{C:Int->Int->Prop}{g:Int->Int->Int}
  (rule:∀ (i j:Int) (t u:Tok) (s:Shared) (Q:Value->Shared->Prop) (E:Value->Shared->Prop),C i j->Q (.int (g i j) s.toks) { s with toks:=s.toks+1 }->wpAny (model X.prog X.w) X.A (f (.int i t) (.int j u)) Q E s) :
  OpR X f (rI C fun i j=>.int (g i j)):=by
 intro pins s σ H x y v u Q I rx ry h
 obtain⟨i,j,rfl,rfl,hc,q⟩:=h
 obtain⟨t,rfl⟩:=rx
 obtain⟨t',rfl⟩:=ry
 exact rule i j t t' s _ _ hc ⟨.int (g i j),H,I.tok _,⟨_,rfl⟩,q⟩
theorem h2o{f:Value->Value->Sem Value}{g:Int->Int->Int}
  (rule:∀ (i j:Int) (t u:Tok) (s:Shared) (Q:Value->Shared->Prop) (E:Value->Shared->Prop),Q (.int (g i j) s.toks) { s with toks:=s.toks+1 }->wpAny (model X.prog X.w) X.A (f (.int i t) (.int j u)) Q E s) :
  OpR X f (rI0 fun i j=>.int (g i j)):=by
 intro pins s σ H x y v u Q I rx ry h
 obtain⟨i,j,rfl,rfl,q⟩:=h
 obtain⟨t,rfl⟩:=rx
 obtain⟨t',rfl⟩:=ry
 exact rule i j t t' s _ _ ⟨.int (g i j),H,I.tok _,⟨_,rfl⟩,q⟩
theorem g9p{f:Value->Value->Sem Value}{g:Int->Int->Bool}
  (rule:∀ (i j:Int) (t u:Tok) (s:Shared) (Q:Value->Shared->Prop) (E:Value->Shared->Prop),Q (.bool (g i j)) s->wpAny (model X.prog X.w) X.A (f (.int i t) (.int j u)) Q E s) :
  OpR X f (rI0 fun i j=>.bl (g i j)):=by
 intro pins s σ H x y v u Q I rx ry h
 obtain⟨i,j,rfl,rfl,q⟩:=h
 obtain⟨t,rfl⟩:=rx
 obtain⟨t',rfl⟩:=ry
 exact rule i j t t' s _ _ ⟨.bl (g i j),H,I,rfl,q⟩
def h2p(i j:Int):Prop:=0<=j/\j<=1000000/\i.natAbs < 2 ^ 64
def h2q(i j:Int):Prop:=(-(2 ^ 64) < i/\i < 2 ^ 64)\/(-(2 ^ 64) < j/\j < 2 ^ 64)
theorem h2q.ok{i j:Int}(h:h2q i j):IntMulOk i j:=by
 rcases h with ⟨h1,h2⟩ | ⟨h1,h2⟩
 ·exact .of_left (intBits_le_64 h1 h2)
 ·exact .of_right (intBits_le_64 h1 h2)
theorem g5f:OpR X (binaryOp .Add) (rI0 fun i j=>.int (i+j)):=h2o fun _ _ _ _ _ _ _ q=>add_int q
theorem g5g:OpR X (binaryOp .Sub) (rI0 fun i j=>.int (i - j)):=h2o fun _ _ _ _ _ _ _ q=>sub_int q
theorem g1p:OpR X (binaryOp .Mod) (rI (fun _ j=>j≠0) fun i j=>.int (i.fmod j)):=opI fun _ _ _ _ _ _ _ hc q=>mod_int' hc q
theorem g5h:OpR X (binaryOp .Pow) (rI h2p fun i j=>.int (i ^ j.toNat)):=opI fun _ _ _ _ _ _ _ hc q=>pow_int_small hc.1 hc.2.1 hc.2.2 q
end
noncomputable def f1p:V->V->Bool
 | .non,.non=>true | .non,.int _=>true | .int _,.non=>true | .non,.bl _=>true | .bl _,.non=>true | .non,.str _=>true | .str _,.non=>true
 | .int _,.int _=>true | .bl _,.bl _=>true | .str _,.str _=>true | .byt _,.byt _=>true
 | .int _,.str _=>true | .str _,.int _=>true | .bl _,.str _=>true | .str _,.bl _=>true
 | _,_=>false
def rEq:R2:=fun x y H Q=>f1p x y=true/\Q (.bl (decide (x=y))) H
def rNe:R2:=fun x y H Q=>f1p x y=true/\Q (.bl (!decide (x=y))) H
theorem f1q{i j:Int}:decide (V.int i=V.int j)=(i == j):=by
 rw [Bool.eq_iff_iff]
 simp
theorem f9z{i j:Bool}:decide (V.bl i=V.bl j)=(i == j):=by
 rw [Bool.eq_iff_iff]
 simp
theorem f1r{i j:Str}:decide (V.str i=V.str j)=(i == j):=by
 rw [Bool.eq_iff_iff]
 simp
theorem f1s{i j:Array UInt8}:decide (V.byt i=V.byt j)=(i.toList == j.toList):=by
 rw [Bool.eq_iff_iff]
 cases i
 cases j
 simp
section
variable {X:Cx}{a b c:Expr}{ta tb tc:TE}{pos:Pos}
theorem a2j{pins:List (Addr×Obj)}{σ:St}{H:Hp}{s:Shared}{Q:VK}{k k':Bool}(I:Inv X pins σ H s)(q:Q (.bl k) H)(e:k=k'):EP X pins σ Q (.bool k') s:=by
 subst e
 exact⟨.bl k,H,I,rfl,q⟩
theorem g9q:OpR X (compareOp .Eq) rEq:=by
 intro pins s σ H x y v u Q I rx ry h
 obtain⟨hs,q⟩:=h
 cases x with
 | non =>
  cases rx
  cases y with
  | non=>cases ry; exact PySem.EqNone.eq_none_none (a2j I q (by simp))
  | bl j=>cases ry; exact PySem.EqNone.eq_none_bool (a2j I q (by simp))
  | int j=>obtain⟨t',rfl⟩:=ry; exact PySem.EqNone.eq_none_int (a2j I q (by simp))
  | str j=>obtain⟨t',rfl⟩:=ry; exact PySem.EqNone.eq_none_str (a2j I q (by simp))
  | _=>exact absurd (show false=true from hs) Bool.false_ne_true
 | bl i =>
  cases rx
  cases y with
  | non=>cases ry; exact PySem.EqNone.eq_bool_none (a2j I q (by simp))
  | bl j=>cases ry; exact eq_bool (a2j I q f9z)
  | str j=>obtain⟨t',rfl⟩:=ry; exact PySem.EqMixed.eq_bool_str (a2j I q (by simp))
  | _=>exact absurd (show false=true from hs) Bool.false_ne_true
 | int i =>
  obtain⟨t,rfl⟩:=rx
  cases y with
  | non=>cases ry; exact PySem.EqNone.eq_int_none (a2j I q (by simp))
  | int j=>obtain⟨t',rfl⟩:=ry; exact eq_int (a2j I q f1q)
  | str j=>obtain⟨t',rfl⟩:=ry; exact PySem.EqMixed.eq_int_str (a2j I q (by simp))
  | _=>exact absurd (show false=true from hs) Bool.false_ne_true
 | str i =>
  obtain⟨t,rfl⟩:=rx
  cases y with
  | non=>cases ry; exact PySem.EqNone.eq_str_none (a2j I q (by simp))
  | bl j=>cases ry; exact PySem.EqMixed.eq_str_bool (a2j I q (by simp))
  | int j=>obtain⟨t',rfl⟩:=ry; exact PySem.EqMixed.eq_str_int (a2j I q (by simp))
  | str j=>obtain⟨t',rfl⟩:=ry; exact eq_str (a2j I q f1r)
  | _=>exact absurd (show false=true from hs) Bool.false_ne_true
 | byt i =>
  obtain⟨t,rfl⟩:=rx
  cases y with
  | byt j=>obtain⟨t',rfl⟩:=ry; exact PySem.W.eq_bytes (a2j I q f1s)
  | _=>exact absurd (show false=true from hs) Bool.false_ne_true
 | _=>cases y <;> exact absurd (show false=true from hs) Bool.false_ne_true
theorem g9r:OpR X (compareOp .NotEq) rNe:=by
 intro pins s σ H x y v u Q I rx ry h
 obtain⟨hs,q⟩:=h
 cases x with
 | non =>
  cases rx
  cases y with
  | non=>cases ry; exact PySem.EqNone.ne_none_none (a2j I q (by simp))
  | bl j=>cases ry; exact PySem.EqNone.ne_none_bool (a2j I q (by simp))
  | int j=>obtain⟨t',rfl⟩:=ry; exact PySem.EqNone.ne_none_int (a2j I q (by simp))
  | str j=>obtain⟨t',rfl⟩:=ry; exact PySem.EqNone.ne_none_str (a2j I q (by simp))
  | _=>exact absurd (show false=true from hs) Bool.false_ne_true
 | bl i =>
  cases rx
  cases y with
  | non=>cases ry; exact PySem.EqNone.ne_bool_none (a2j I q (by simp))
  | bl j=>cases ry; exact ne_bool (a2j I q (congrArg not f9z))
  | str j=>obtain⟨t',rfl⟩:=ry; exact PySem.EqMixed.ne_bool_str (a2j I q (by simp))
  | _=>exact absurd (show false=true from hs) Bool.false_ne_true
 | int i =>
  obtain⟨t,rfl⟩:=rx
  cases y with
  | non=>cases ry; exact PySem.EqNone.ne_int_none (a2j I q (by simp))
  | int j=>obtain⟨t',rfl⟩:=ry; exact ne_int (a2j I q (congrArg not f1q))
  | str j=>obtain⟨t',rfl⟩:=ry; exact PySem.EqMixed.ne_int_str (a2j I q (by simp))
  | _=>exact absurd (show false=true from hs) Bool.false_ne_true
 | str i =>
  obtain⟨t,rfl⟩:=rx
  cases y with
  | non=>cases ry; exact PySem.EqNone.ne_str_none (a2j I q (by simp))
  | bl j=>cases ry; exact PySem.EqMixed.ne_str_bool (a2j I q (by simp))
  | int j=>obtain⟨t',rfl⟩:=ry; exact PySem.EqMixed.ne_str_int (a2j I q (by simp))
  | str j=>obtain⟨t',rfl⟩:=ry; exact ne_str (a2j I q (congrArg not f1r))
  | _=>exact absurd (show false=true from hs) Bool.false_ne_true
 | byt i =>
  obtain⟨t,rfl⟩:=rx
  cases y with
  | byt j=>obtain⟨t',rfl⟩:=ry; exact PySem.W.ne_bytes (a2j I q (congrArg not f1s))
  | _=>exact absurd (show false=true from hs) Bool.false_ne_true
 | _=>cases y <;> exact absurd (show false=true from hs) Bool.false_ne_true
theorem g9s:OpR X (compareOp .Lt) (rI0 fun i j=>.bl (decide (i < j))):=g9p fun _ _ _ _ _ _ _ q=>lt_int q
theorem g9t:OpR X (compareOp .LtE) (rI0 fun i j=>.bl (decide (i<=j))):=g9p fun _ _ _ _ _ _ _ q=>le_int q
theorem g9u:OpR X (compareOp .Gt) (rI0 fun i j=>.bl (decide (j < i))):=g9p fun _ _ _ _ _ _ _ q=>gt_int q
theorem f1t:OpR X (compareOp .In) (fun x y H Q=>∃ i j,x = .str i/\y = .str j/\Q (.bl (!(Builtin.Str.occurrences j i 0 j.length 1).isEmpty)) H):=by
 intro pins s σ H x y v u Q I rx ry h
 obtain⟨i,j,rfl,rfl,q⟩:=h
 obtain⟨t,rfl⟩:=rx
 obtain⟨t',rfl⟩:=ry
 exact in_str (a2j I q rfl)
theorem g5i:OpR X (compareOp .Is) (fun x y H Q=>y = .non/\Q (.bl (decide (x = .non))) H):=by
 intro pins s σ H x y v u Q I rx ry h
 obtain⟨rfl,q⟩:=h
 cases ry
 refine is_none_gen (a2j I q ?_)
 cases x <;> first
  | (cases rx; rfl)
  | (obtain⟨t,rfl⟩:=rx; rfl)
theorem a2s(b:Expr){op:CmpOp}(h:op≠.In:=by decide)(h2:op≠.NotIn:=by decide):behindInMarks op b=false:=by
 have e1:(op == CmpOp.In)=false:=by cases op <;> first | rfl | exact absurd rfl h
 have e2:(op == CmpOp.NotIn)=false:=by cases op <;> first | rfl | exact absurd rfl h2
 cases b <;> simp [behindInMarks,e1,e2]
theorem b8s{op:CmpOp}{r:R2}(ho:OpR X (compareOp op) r)(ha:PE X a ta)(hb:PE X b tb)(hm:behindInMarks op b=false):PE X (.Compare a [op] [b] pos) (tOp r ta tb):=by
 intro pins s σ H Q I h
 exact wpAny_Compare1 (g9o ha hb I h fun v u s2 x y H2 I2 rx ry q=>ho pins s2 σ H2 x y v u Q I2 rx ry q) hm
def g5j(t:TE):TT:=fun σ H Q=>t σ H fun x H'=>∃ k,x = .bl k/\Q k H'
theorem g1q{op:CmpOp}{r:R2}(ho:OpR X (compareOp op) r)(ha:PE X a ta)(hb:PE X b tb)(hm:behindInMarks op b=false):PT X (.Compare a [op] [b] pos) (g5j (tOp r ta tb)):=by
 intro pins s σ H Q I h
 refine wpAny_isTrue_Compare1 (thn (ha pins s σ H _ I h) fun v s1 ⟨x,H1,I1,r1,q1⟩=>thn (hb pins s1 σ H1 _ I1 q1) fun u s2 ⟨y,H2,I2,r2,q2⟩ =>
  thn (ho pins s2 σ H2 x y v u _ I2 r1 r2 q2) fun c s3 ⟨z,H3,I3,r3,k,e,q3⟩=>?_) hm
 subst e
 cases r3
 exact wpAny_truthy_bool ⟨H3,I3,q3⟩
theorem d1t:(sizeLine:Nat) < 2 ^ 63:=by rw [sizeLine_eq]; decide
theorem d8w:OpR X (binaryOp .Add) (fun x y H Q=>∃ i j,x = .str i/\y = .str j/\i.length+j.length<=sizeLine/\Q (.str (i++j)) H):=by
 intro pins s σ H x y v u Q I rx ry h
 obtain⟨i,j,rfl,rfl,hz,q⟩:=h
 obtain⟨t,rfl⟩:=rx
 obtain⟨t',rfl⟩:=ry
 exact add_str (fun t' tk=>⟨.str (i++j),H,I.tok _,⟨_,rfl⟩,q⟩) hz
theorem vals1{x:V}{us:List Value}(r:Vals [x] us):∃ u,us = [u]/\RelV x u:=by
 cases r with
 | cons r1 r2=>cases r2; exact⟨_,rfl,r1⟩
theorem vals2{x y:V}{us:List Value}(r:Vals [x,y] us):∃ u w',us = [u,w']/\RelV x u/\RelV y w':=by
 cases r with
 | cons r1 r2 =>
  cases r2 with
  | cons r3 r4=>cases r4; exact⟨_,_,rfl,r1,r3⟩
theorem d1u : b8n X (.type "int") (fun xs H Q => (∃ i, xs = [.int i] ∧ Q (.int i) H) ∨ ∃ k, xs = [.bl k] ∧ Q (.int (if k then 1 else 0)) H) := by
 intro pins s σ H xs us Q I r h
 rcases h with ⟨i,rfl,q⟩ | ⟨k,rfl,q⟩
 ·obtain⟨u,rfl,t,rfl⟩:=vals1 r
  exact call_int_int ⟨.int i,H,I,⟨_,rfl⟩,q⟩
 ·obtain⟨u,rfl,r1⟩:=vals1 r
  cases r1
  exact call_int_bool ⟨.int (if k then 1 else 0),H,I.tok _,⟨_,rfl⟩,q⟩
end
end L2
namespace L2
open PySem PySem.Spec PyProof.Rows
structure g1r(h:Heap)(x dx C:Addr)(mA:Str->Option Value):Prop where
 obj:h.get? x=some (PySem.W.instObj C dx)
 ns:h.Ns1 dx mA
 ne:dx≠x
theorem f1u{h:Heap}{dx:Addr}{mA:Str->Option Value}(n:h.Ns1 dx mA):∃ od,h.get? dx=some od/\∀ name,PySem.W.lookIn name od=some (mA name):=by
 obtain⟨o,es,ep,ho,hd,hk,_,hm⟩:=n
 refine⟨o,ho,fun name=>?_⟩
 have e:=hm name
 unfold nsFind findBy at e
 rw [<- Array.find?_toList] at e
 unfold PySem.W.lookIn
 rw [hd]
 dsimp only
 split
 ·rename_i y q
  rw [q] at e
  exact congrArg some e
 ·rename_i q
  rw [q] at e
  have a:es.toList.any (·.refKey)=false:=by
   rw [List.any_eq_false]
   intro y hy
   obtain⟨z,t,hkey⟩:=hk y (Array.mem_toList_iff.mp hy)
   simp [DictEntry.refKey,hkey]
  have a':¬ es.toList.any (·.refKey)=true:=by rw [a]; exact Bool.false_ne_true
  rw [if_neg a']
  exact congrArg some e
theorem g1r.look{h:Heap}{x dx C:Addr}{mA:Str->Option Value}(I:g1r h x dx C mA):∃ od,PySem.W.InstAt h x (PySem.W.instObj C dx) C (some od)/\∀ name,PySem.W.lookIn name od=some (mA name) :=
 let ⟨od,ho,hl⟩:=f1u I.ns
 ⟨od,⟨I.obj,rfl,rfl,ho⟩,hl⟩
section
variable {prog:Program}{w:World}{A:Around}{E:Value->Shared->Prop}{s:Shared}{K:PySem.W.Frag}{x dx C f:Addr}{mA:Str->Option Value}{name:Str}{v:Value}
theorem get_map{expr:Bool}{Q:Value->Shared->Prop}(X:K.In s.heap)(I:g1r s.heap x dx C mA)(hg:PySem.W.plainGet K C name=true)(hh:PySem.W.hasDictIn K C=true)
  (ha:PySem.W.findIn K (.ref C) name=some none) (hv:mA name=some v) (hv':PySem.W.handedIn v=true) (h:Q v { s with toks:=s.toks+1 }) :
  wpAny (model prog w) A (getAttr (.ref x) name expr) Q E s:=by
 obtain⟨od,J,hl⟩:=I.look
 exact PySem.W.get_value X J (PySem.W.plainGet_of hg).1 (PySem.W.findObj_own hh ha rfl (by rw [hl,hv])) hv' h
theorem f6q{pl:Sem Bool}{Q:Value×List Value->Shared->Prop}(X:K.In s.heap)(I:g1r s.heap x dx C mA)(hg:PySem.W.plainGet K C name=true)
  (hf:PySem.W.findIn K (.ref C) name=some (some (.ref f))) (ht:PySem.W.isFn K (.ref f)=true) (hv:mA name=none) (h:Q (.ref f,[.ref x]) s) :
  wpAny (model prog w) A (getMethod (.ref x) name pl) Q E s:=by
 obtain⟨od,J,hl⟩:=I.look
 exact PySem.W.method_fn X J (PySem.W.plainGet_of hg).1 (PySem.W.plainGet_of hg).2 hf (beq_iff_eq.mp ht) (by show (PySem.W.lookIn name od).map (·.isSome)=some false; rw [hl,hv]; rfl) h
theorem g1s{ns:List Str}{Q:Unit->Shared->Prop}(X:K.In s.heap)(I:g1r s.heap x dx C mA)
  (hs : PySem.W.findIn K (.ref C) "__setattr__" = some (some (.builtin "object.__setattr__"))) (hp : PySem.W.plainOver K C = true) (ht : PySem.W.takerIn K C name = some none) (hh : PySem.W.hasDictIn K C = true)
  (hw:PySem.Within mA ns) (hsz:ns.length<=sizeLine)
  (h:∀ h',g1r h' x dx C (fun y=>if y=name then some v else mA y)->Heap.SameBut dx s.heap h'->Q () { s with heap:=h',toks:=s.toks+2 }) :
  wpAny (model prog w) A (setAttr (.ref x) name v) Q E s:=by
 obtain⟨od,J,hl⟩:=I.look
 refine PySem.W.set_plain X J hs (PySem.W.osa_open (s:={ s with toks:=s.toks+1 }) (r:=none) X J hp ht fun b=>?_)
 obtain⟨cd,hc,hd'⟩:=PySem.W.any_some hh
 have hx:s.heap.get? x=some ⟨.ref C,some dx,.plain,#[]⟩:=I.obj
 refine wpAny_bind (wpAny_pure (wpAny_bind (wpAny_bind (wpAny_loadPart hx (wpAny_bind (PySem.W.Looks.here (s:={ s with toks:=s.toks+1 }) (PySem.W.looks_clsIn X hc) ?_))))))
 rw [hd']
 refine wpAny_pure (a:=some dx) (wpAny_bind (wpAny_pure (wpAny_bind ?_)))
 refine wpAny_nsSet1 (s:={ s with toks:=s.toks+1 }) I.ns fun h' hn2 hs2=>?_
 obtain⟨oD,esD,epD,hoD,hdD,hcD⟩:=hn2.count (PySem.Within.cons name v hw)
 refine wpAny_bind (wpAny_lookBehind hoD (by rw [hdD]; exact pastItsLine_dict (Nat.le_trans hcD (by rw [List.length_cons]; omega))) ?_)
 exact wpAny_pure (h _ ⟨(hs2.2 _ (Ne.symm I.ne)).trans I.obj,hn2,I.ne⟩ hs2)
theorem f6r{R:Result->Shared->Prop}{vs:List Value}{kw:List (Str×Value)}(X:K.In s.heap)(hm:PySem.W.makesIn K C=true)
  (hi : PySem.W.findIn K (.ref C) "__init__" = some (some (.ref f))) (hf : PySem.W.typeIn K (.ref f) = some (.type "function"))
  (h : codeAny (model prog w) (A.under (.builtin "type.__call__" ⟨.ref C :: vs, kw⟩)) (.call (.ref f) ⟨.ref (s.heap.objs.size + 1) :: vs, kw⟩) (PySem.W.InitBack (s.heap.objs.size + 1) R)
   { s with heap:=(s.heap.push PySem.W.emptyDict).push (PySem.W.instObj C s.heap.objs.size) }) :
  codeAny (model prog w) A (.call (.ref C) ⟨vs,kw⟩) R s:=by
 obtain⟨hh,g,d,t,os⟩:=s
 exact PySem.W.make_core (PySem.W.makes_of X hm) (PySem.W.looks_findIn X hi) (fun self=>PySem.W.bind_fn X self hf) (.inl rfl) h
end
noncomputable def c5h(f:Str)(v:V):List (Str×V)->List (Str×V)
 | []=>[(f,v)]
 | (g,x) :: r=>if g=f then (g,v) :: r else (g,x) :: c5h f v r
theorem c5i(f g:Str)(v:V):∀ fs:List (Str×V),(c5h f v fs).lookup g=if g=f then some v else fs.lookup g
 | []=>by
  show List.lookup g [(f,v)]=_
  by_cases h:g=f
  ·have hb:(g == f)=true:=beq_iff_eq.mpr h
   simp only [List.lookup,hb,if_pos h]
  ·have hb:(g == f)=false:=beq_eq_false_iff_ne.mpr h
   simp only [List.lookup,hb,if_neg h]
 | (k,x) :: r=>by
  have ih:=c5i f g v r
  rw [show c5h f v ((k,x) :: r)=(if k=f then (k,v) :: r else (k,x) :: c5h f v r) from rfl]
  by_cases hk:k=f
  ·rw [if_pos hk]
   by_cases h:g=k
   ·have hb:(g == k)=true:=beq_iff_eq.mpr h
    simp only [List.lookup,hb,if_pos (h.trans hk)]
   ·have hb:(g == k)=false:=beq_eq_false_iff_ne.mpr h
    simp only [List.lookup,hb,if_neg (fun e:g=f=>h (e.trans hk.symm))]
  ·rw [if_neg hk]
   by_cases h:g=k
   ·have hb:(g == k)=true:=beq_iff_eq.mpr h
    simp only [List.lookup,hb,if_neg (fun e:g=f=>hk (h.symm.trans e))]
   ·have hb:(g == k)=false:=beq_eq_false_iff_ne.mpr h
    simp only [List.lookup,hb]
    exact ih
theorem c5j(f:Str)(v:V):∀ fs:List (Str×V),f∈(c5h f v fs).map (·.1)/\∀ g,g∈fs.map (·.1)->g∈(c5h f v fs).map (·.1)
 | []=>⟨by simp [c5h],fun g h=>by simp at h⟩
 | (k,x) :: r=>by
  obtain⟨i1,i2⟩:=c5j f v r
  rw [show c5h f v ((k,x) :: r)=(if k=f then (k,v) :: r else (k,x) :: c5h f v r) from rfl]
  by_cases hk:k=f
  ·rw [if_pos hk]
   subst hk
   exact⟨by simp,fun g h=>by simpa using h⟩
  ·rw [if_neg hk]
   refine⟨?_,fun g h=>?_⟩
   ·rw [List.map_cons]
    exact List.mem_cons_of_mem _ i1
   ·rw [List.map_cons] at h ⊢
    rcases List.mem_cons.mp h with e | e
    ·exact List.mem_cons.mpr (.inl e)
    ·exact List.mem_cons_of_mem _ (i2 g e)
theorem c5k(f:Str)(v:V):∀ fs:List (Str×V),(c5h f v fs).length<=fs.length+1
 | []=>by simp [c5h]
 | (k,x) :: r=>by
  have ih:=c5k f v r
  rw [show c5h f v ((k,x) :: r)=(if k=f then (k,v) :: r else (k,x) :: c5h f v r) from rfl]
  by_cases hk:k=f
  ·rw [if_pos hk,List.length_cons,List.length_cons]; omega
  ·rw [if_neg hk,List.length_cons,List.length_cons]; omega
theorem d1p.some_of{v:V}{o:Option Value}(r:d1p (some v) o):∃ u,o=some u/\RelV v u:=by
 cases o with
 | none=>exact (show False from r).elim
 | some u=>exact⟨u,rfl,r⟩
theorem d1p.none_of{o:Option Value}(r:d1p none o):o=none:=by
 cases o with
 | none=>rfl
 | some u=>exact (show False from r).elim
theorem d1v{v:V}{u:Value}(r:RelV v u):PySem.W.handedIn u=true:=by
 cases v with
 | non=>cases (show u=Value.none from r); rfl
 | bl b=>cases (show u=Value.bool b from r); rfl
 | int i=>obtain⟨t,e⟩:=(show ∃ t,u=Value.int i t from r); cases e; rfl
 | str x=>obtain⟨t,e⟩:=(show ∃ t,u=Value.str x t from r); cases e; rfl
 | byt b=>obtain⟨t,e⟩:=(show ∃ t,u=Value.bytes b t from r); cases e; rfl
 | flt b=>obtain⟨t,e⟩:=(show ∃ t,u=Value.float b t from r); cases e; rfl
 | ref a=>cases (show u=Value.ref a from r); rfl
 | ty n=>cases (show u=Value.type n from r); rfl
section
variable {P:Program}{w:World}{H H':Hp}{h h':Heap}{a C dx:Addr}{fs fs':List (Str×V)}
theorem c8q(hok:HOk P w H h)(e:H a=some (.ins C dx fs)):∃ mA,g1r h a dx C mA/\(∀ f,d1p (fs.lookup f) (mA f))/\PySem.Within mA (fs.map (·.1))/\fs.length<=1000/\H dx=some (.own a):=by
 obtain⟨d,z,ne,ob,mA,n,r,q⟩:=(show a3g P w H h a (.ins C dx fs) from hok a _ e)
 exact⟨mA,⟨ob,n,ne⟩,r,q,z,d⟩
end
structure Cls(K:PySem.W.Frag)(C:Addr):Prop where
 pg:PySem.W.plainGet K C Str.empty=true
 hd:PySem.W.hasDictIn K C=true
 po:PySem.W.plainOver K C=true
 sa : PySem.W.findIn K (.ref C) "__setattr__" = some (some (.builtin "object.__setattr__"))
theorem Cls.get{K:PySem.W.Frag}{C:Addr}(c:Cls K C)(f:Str):PySem.W.plainGet K C f=true:=c.pg
def a4m(K:PySem.W.Frag)(C:Addr)(f:Str):Prop:=PySem.W.findIn K (.ref C) f=some none
theorem a4m.taker{K:PySem.W.Frag}{C:Addr}{f:Str}(n:a4m K C f):PySem.W.takerIn K C f=some none:=by
 unfold PySem.W.takerIn
 rw [show PySem.W.findIn K (.ref C) f=some none from n]
 rfl
structure Con(K:PySem.W.Frag)(C:Addr)(f:Str)(v:V)(u:Value):Prop where
 at_:PySem.W.findIn K (.ref C) f=some (some u)
 rel:RelV v u
 get : PySem.W.specialIn K u "__get__" = some none
 cp:PySem.W.copiedNames.contains f=false
structure Meth(K:PySem.W.Frag)(C:Addr)(m:Str)(f:Addr):Prop where
 at_:PySem.W.findIn K (.ref C) m=some (some (.ref f))
 fn:PySem.W.isFn K (.ref f)=true
 kp:PySem.W.keepIn K (.ref f)=true
section
variable {X:Cx}{pins:List (Addr×Obj)}{σ:St}{H:Hp}{s:Shared}{a C dx:Addr}{fs:List (Str×V)}{f:Str}{v:V}{A:Around}{E:Value->Shared->Prop}
theorem d8y{b:Bool}{Q:Value->Shared->Prop}(I:Inv X pins σ H s)(e:H a=some (.ins C dx fs))(c:Cls X.K C)(n:a4m X.K C f)(l:fs.lookup f=some v)
  (h:∀ u s',Inv X pins σ H s'->RelV v u->Q u s'):wpAny (model X.prog X.w) A (getAttr (.ref a) f b) Q E s:=by
 obtain⟨mA,O,r,_,_,_⟩:=c8q I.hok e
 obtain⟨u,hu,ru⟩:=d1p.some_of (v:=v) (o:=mA f) (by rw [<- l]; exact r f)
 exact get_map I.kIn O (c.get f) c.hd n hu (d1v ru) (h u _ (I.tok _) ru)
theorem c2w{m:Str}{g:Addr}{pl:Sem Bool}{Q:Value×List Value->Shared->Prop}(I:Inv X pins σ H s)(e:H a=some (.ins C dx fs))(c:Cls X.K C)(k:Meth X.K C m g)(l:fs.lookup m=none)
  (h:Q (.ref g,[.ref a]) s):wpAny (model X.prog X.w) A (getMethod (.ref a) m pl) Q E s:=by
 obtain⟨mA,O,r,_,_,_⟩:=c8q I.hok e
 have hn:mA m=none:=d1p.none_of (by rw [<- l]; exact r m)
 exact f6q I.kIn O (c.get m) k.at_ k.fn hn h
theorem d8z{y:V}{u:Value}{Q:Unit->Shared->Prop}(I:Inv X pins σ H s)(e:H a=some (.ins C dx fs))(c:Cls X.K C)(n:a4m X.K C f)(hl:fs.length < 1000)(ry:RelV y u)
  (h:∀ s',Inv X pins σ (upd H a (.ins C dx (c5h f y fs))) s'->Q () s'):wpAny (model X.prog X.w) A (setAttr (.ref a) f u) Q E s:=by
 obtain⟨mA,O,r,wi,_,ho⟩:=c8q I.hok e
 have hz:(fs.map (·.1)).length<=sizeLine:=by rw [List.length_map,sizeLine_eq]; omega
 refine g1s I.kIn O c.sa c.po n.taker c.hd wi hz fun h' O' sb=>h _ ?_
 have hd:∃ o,h'.get? dx=some o:=let ⟨o,_,_,e',_⟩:=O'.ns; ⟨o,e'⟩
 refine I.write (x:=a) (e:=dx) (by rw [e]; exact True.intro) (.inr ho) (fun b q hb z=>(sb.2 b hb).trans z) hd ?_
 refine⟨by rw [a1l O.ne]; exact ho,?_,O.ne,O'.obj,_,O'.ns,fun g=>?_,fun g hg=>?_⟩
 ·have:=c5k f y fs; omega
 ·show d1p ((c5h f y fs).lookup g) (if g=f then some u else mA g)
  rw [c5i]
  by_cases q:g=f
  ·rw [if_pos q,if_pos q]; exact ry
  ·rw [if_neg q,if_neg q]; exact r g
 ·by_cases q:g=f
  ·rw [q]; exact (c5j f y fs).1
  ·refine (c5j f y fs).2 g (wi g fun z=>hg ?_)
   show (if g=f then some u else mA g)=none
   rw [if_neg q]; exact z
theorem Inv.made(I:Inv X pins σ H s):Inv X pins σ (upd (upd H s.heap.objs.size (.own (s.heap.objs.size+1))) (s.heap.objs.size+1) (.ins C s.heap.objs.size []))
  { s with heap:=(s.heap.push PySem.W.emptyDict).push (PySem.W.instObj C s.heap.objs.size) }:=by
 have e1:(s.heap.push PySem.W.emptyDict).get? s.heap.objs.size=some PySem.W.emptyDict:=Heap.get?_push_size s.heap rfl
 have e2:((s.heap.push PySem.W.emptyDict).push (PySem.W.instObj C s.heap.objs.size)).get? (s.heap.objs.size+1)=some (PySem.W.instObj C s.heap.objs.size):=by
  have:=Heap.get?_push_size (s.heap.push PySem.W.emptyDict) (o:=PySem.W.instObj C s.heap.objs.size) rfl
  rwa [Heap.size_push] at this
 have e3:(s.heap.push PySem.W.emptyDict).Ns s.heap.objs.size (fun _=>none):=⟨PySem.W.emptyDict,#[],_,e1,rfl,(fun e he=>absurd he (by simp)),fun _=>rfl⟩
 have I1:=I.laid (a:=s.heap.objs.size) (o:=.own (s.heap.objs.size+1)) (h':=s.heap.push PySem.W.emptyDict) (t':=s.toks) (fun b u q=>Heap.get?_push_of_some _ q) (Nat.le_refl _) ⟨_,e1⟩
 refine I1.laid (a:=s.heap.objs.size+1) (o:=.ins C s.heap.objs.size []) (t':=s.toks) (fun b u q=>Heap.get?_push_of_some _ q) (Nat.le_of_eq (Heap.size_push _ _)) ?_
 have ne:s.heap.objs.size≠s.heap.objs.size+1:=Nat.ne_of_lt (Nat.lt_succ_self _)
 refine⟨by rw [a1l ne,a1k],Nat.zero_le _,ne,e2,fun _=>none,(Heap.Ns1.of_empty e3).at fun o q=>Heap.get?_push_of_some _ q,fun _=>True.intro,fun y hy=>absurd rfl hy⟩
theorem f1v{prog:Program}{w:World}{env:Env}{e:Expr}{f:Str}{pos:Pos}{s:Shared}{Q:Value->Shared->Prop}(hb:attributeBase e f env (eval e env)=eval e env)
  (h:wpAny (model prog w) A (eval e env) (fun o s₁=>wpAny (model prog w) A (getAttr o f true) Q E s₁) E s):wpAny (model prog w) A (eval (.Attribute e f pos) env) Q E s :=
 Attribute_any_ h (by rw [arm_eval_Attribute,hb])
end
def h2r(K:PySem.W.Frag)(ta:TE)(f:Str):TE:=fun σ H Q=>ta σ H fun x H1=>∃ a C dx fs v,x = .ref a/\H1 a=some (.ins C dx fs)/\Cls K C/\a4m K C f/\fs.lookup f=some v/\Q v H1
section
variable {X:Cx}{o e value:Expr}{f:Str}{pos pos' tpos:Pos}{ta tv:TE}
theorem g5k(he:PE X e ta)(hb:attributeBase e f X.env (eval e X.env)=eval e X.env):PE X (.Attribute e f pos) (h2r X.K ta f):=by
 intro pins s σ H Q I h
 refine f1v hb (thn (he pins s σ H _ I h) fun u s1 ⟨x,H1,I1,rx,a,C,dx,fs,v,ex,ea,c,n,l,q⟩=>?_)
 subst ex
 obtain rfl:u=Value.ref a:=rx
 exact d8y I1 ea c n l fun u' s2 I2 ru=>⟨v,H1,I2,ru,q⟩
end
section
variable {X:Cx}{pins:List (Addr×Obj)}{σ:St}{H:Hp}{s:Shared}{A:Around}{E:Value->Shared->Prop}{Q:Value->Shared->Prop}{c:Value}{b:Bool}
inductive d9g(K:PySem.W.Frag)(H:Hp):V->Value->Prop where
 | non : d9g K H .non (.type "NoneType")
 | bl (x : Bool) : d9g K H (.bl x) (.type "bool")
 | int (i : Int) : d9g K H (.int i) (.type "int")
 | str (x : Str) : d9g K H (.str x) (.type "str")
 | flt (x : UInt64) : d9g K H (.flt x) (.type "float")
 | lst {a : Addr} {xs : List V} (e : H a = some (.lst xs)) : d9g K H (.ref a) (.type "list")
 | frz {a : Addr} {o : Obj} {xs : List V} (e : H a = some (.frz o (.lst xs))) : d9g K H (.ref a) (.type "list")
 | tup {a : Addr} {xs : List V} (e : H a = some (.tup xs)) : d9g K H (.ref a) (.type "tuple")
 | dK {a : Addr} {kvs : List (Key × V)} (e : H a = some (.dK kvs)) : d9g K H (.ref a) (.type "dict")
 | dT {a : Addr} {kvs : List (List Key × V)} (e : H a = some (.dT kvs)) : d9g K H (.ref a) (.type "dict")
 | ins {a C dx : Addr} {fs : List (Str × V)} (e : H a = some (.ins C dx fs)) (cl : Cls K C) (ha : PySem.W.findIn K (.ref C) "__class__" = some (some (.builtin "object.__class__")))
   (hn : PySem.W.specialIn K (.builtin "object.__class__") "__get__" = some (some (.builtin "getset_descriptor.__get__"))) (htk : PySem.W.takesIn K (.builtin "object.__class__") = some true)
   (hm : PySem.W.mroIn K C (.type "object") = some true) : d9g K H (.ref a) (.ref C)
theorem f1w{x:V}{u t:Value}(I:Inv X pins σ H s)(rx:RelV x u)(ty:d9g X.K H x t)(e:PySem.W.kitOne X.K t c=some b)(h:∀ tk,Q (.bool b) { s with toks:=tk }) :
  wpAny (model X.prog X.w) A (call (.builtin "isinstance") [u, c]) Q E s := by
 cases ty with
 | non=>cases (show u=Value.none from rx); exact PySem.W.kia_one PySem.W.kitx_none I.kIn True.intro e (fun z=>nomatch z) h
 | bl y=>cases (show u=Value.bool y from rx); exact PySem.W.kia_one PySem.W.kitx_bool I.kIn True.intro e (fun z=>nomatch z) h
 | int i=>obtain⟨t,q⟩:=(show ∃ t,u=Value.int i t from rx); cases q; exact PySem.W.kia_one PySem.W.kitx_int I.kIn True.intro e (fun z=>nomatch z) h
 | str y=>obtain⟨t,q⟩:=(show ∃ t,u=Value.str y t from rx); cases q; exact PySem.W.kia_one PySem.W.kitx_str I.kIn True.intro e (fun z=>nomatch z) h
 | flt y=>obtain⟨t,q⟩:=(show ∃ t,u=Value.float y t from rx); cases q; exact PySem.W.kia_one PySem.W.kitx_float I.kIn True.intro e (fun z=>nomatch z) h
 | @lst a xs ea =>
  cases (show u=Value.ref a from rx)
  obtain⟨_,_,n,_,h1⟩:=(show a3g X.prog X.w H s.heap a (.lst xs) from I.hok a _ ea)
  exact PySem.W.kia_one PySem.W.kitx_list I.kIn ⟨_,h1,rfl⟩ e (fun z=>nomatch z) h
 | @frz a ob xs ea =>
  cases (show u=Value.ref a from rx)
  obtain⟨_,_,_,n,_,h1⟩:=(show a3g X.prog X.w H s.heap a (.frz ob (.lst xs)) from I.hok a _ ea)
  exact PySem.W.kia_one PySem.W.kitx_list I.kIn ⟨_,h1,rfl⟩ e (fun z=>nomatch z) h
 | @tup a xs ea =>
  cases (show u=Value.ref a from rx)
  obtain⟨_,_,_,p⟩:=(show a3g X.prog X.w H s.heap a (.tup xs) from I.hok a _ ea)
  obtain⟨o,h1,h2,_⟩:=p
  exact PySem.W.kia_one PySem.W.kitx_tuple I.kIn ⟨o,h1,h2⟩ e (fun z=>nomatch z) h
 | @dK a kvs ea =>
  cases (show u=Value.ref a from rx)
  obtain⟨_,_,vs,_,p⟩:=(show a3g X.prog X.w H s.heap a (.dK kvs) from I.hok a _ ea)
  obtain⟨o,es,ep,h1,h2,_⟩:=p
  exact PySem.W.kia_one PySem.W.kitx_dict I.kIn ⟨o,h1,h2.1⟩ e (fun z=>nomatch z) h
 | @dT a kvs ea =>
  cases (show u=Value.ref a from rx)
  obtain⟨_,_,xs,_,o,es,ep,h1,h2,_⟩:=(show a3g X.prog X.w H s.heap a (.dT kvs) from I.hok a _ ea)
  exact PySem.W.kia_one PySem.W.kitx_dict I.kIn ⟨o,h1,h2.1⟩ e (fun z=>nomatch z) h
 | @ins a C dx fs ea cl ha hn htk hm =>
  cases (show u=Value.ref a from rx)
  obtain⟨mA,O,_⟩:=c8q I.hok ea
  obtain⟨od,J,_⟩:=O.look
  exact PySem.W.kia_one (PySem.W.kitx_own (cl.get _) cl.hd ha hn htk hm) I.kIn J e (fun z=>nomatch z) h
end
end L2
namespace L2
open PySem PySem.Spec PyProof.Rows
structure a4w(k:Nat)(A:Around):Prop where
 hd:A.handled=none
 dp:A.depth+3*k+5 < recursionLimit
 un:A.units+16*k+200 < cLine
theorem a4w.mono{j k:Nat}{A:Around}(r:a4w k A)(h:j<=k):a4w j A:=⟨r.hd,by have:=r.dp; omega,by have:=r.un; omega⟩
theorem a4w.deeper{k:Nat}{A:Around}(r:a4w (k+1) A)(env:Env):a4w k (A.deeper env) :=
 ⟨r.hd,by have:=r.dp; show A.depth+1+3*k+5 < _; omega,by have:=r.un; show A.units+3+16*k+200 < _; omega⟩
theorem d9h {A : Around} {C : Addr} {us : List Value} {kw : List (Str × Value)} : (A.under (.builtin "type.__call__" ⟨.ref C :: us, kw⟩)).depth = A.depth + 1 := by
 first | rfl | simp [Around.under,Code.weight,Code.isCreation,Code.isGuard,Code.isCaller,Code.frames,Code.isFrame,guardIds]
theorem d9i {A : Around} {C : Addr} {us : List Value} {kw : List (Str × Value)} : (A.under (.builtin "type.__call__" ⟨.ref C :: us, kw⟩)).units = A.units + 1 := by
 first | rfl | simp [Around.under,Code.cUnits,Code.frames,Code.isFrame]
theorem a4w.make {k : Nat} {A : Around} (r : a4w (k + 1) A) (C : Addr) (us : List Value) (kw : List (Str × Value)) : a4w k (A.under (.builtin "type.__call__" ⟨.ref C :: us, kw⟩)) :=
 ⟨r.hd,by have:=r.dp; rw [d9h]; omega,by have:=r.un; rw [d9i]; omega⟩
theorem a4w.depth{k:Nat}{A:Around}(r:a4w k A):A.depth < recursionLimit:=by have:=r.dp; omega
theorem a4w.units{k:Nat}{A:Around}(r:a4w k A):A.units+64 < cLine:=by have:=r.un; omega
def g8w:TA:=fun _ H Q=>Q [] H
def g9v(ta:TE)(tr:TA):TA:=fun σ H Q=>ta σ H fun x H1=>tr σ H1 fun xs H2=>Q (x :: xs) H2
section
variable {X:Cx}{e:Expr}{es:List Expr}{te:TE}{t:TA}{pos:Pos}
theorem a0m:PA X [] g8w:=fun _ _ _ _ H Q I h=>Calls.spliced_nil ⟨[],H,I,.nil,h⟩
theorem a0g(ha:PE X e te)(hr:PA X es t)(hs:starEach (e :: es) X.env=(false,eval e X.env) :: starEach es X.env:=by rfl):PA X (e :: es) (g9v te t):=by
 intro pos pins s σ H Q I h
 rw [hs]
 show wpAny _ _ (spliced ((false,eval e X.env) :: backTo pos (starEach es X.env))) _ _ s
 refine Calls.spliced_cons (thn (ha pins s σ H _ I h) fun u s1 ⟨x,H1,I1,r1,q1⟩=>?_)
 exact thn (hr pos pins s1 σ H1 _ I1 q1) fun us s2 ⟨xs,H2,I2,r2,q2⟩=>⟨x :: xs,H2,I2,.cons r1 r2,q2⟩
end
noncomputable abbrev Sp:=List V->Hp->VK->XK->Prop
noncomputable abbrev CXT:=List Env->Hp->Shared->XK->Value->Shared->Prop
structure g0a(P:Program)(w:World)(K:PySem.W.Frag)(mg:Str->Option Value)(base:Heap)(A:Around)(outer:List Env)(s:Shared)(H:Hp):Prop where
 frames:A.frames=some outer
 mod:Mod K mg base
 bs:∀ b o,base.get? b=some o->s.heap.get? b=some o/\H b=none
 bsz:base.objs.size<=s.heap.objs.size
 d8u:s.heap.FunFrames base outer
 frf:∀ b∈frs outer,H b=none
 hok:HOk P w H s.heap
 bare:AllBare s.gens
def CE(outer:List Env)(P:Program)(w:World)(H:Hp)(s:Shared)(Q:VK)(u:Value)(s':Shared):Prop :=
 ∃ v H',s'.os=s.os/\AllBare s'.gens/\Un (frs outer) [] H H' s.heap s'.heap/\HOk P w H' s'.heap/\RelV v u/\Q v H'
def CR(CX:CXT)(outer:List Env)(P:Program)(w:World)(H:Hp)(s:Shared)(Q:VK)(E:XK)(r:Result)(s':Shared):Prop :=
 match r with
 | .ok (.ret u)=>CE outer P w H s Q u s'
 | .ok _=>False
 | .error e=>CX outer H s E e s'
structure a2t(P:Program)(w:World)(K:PySem.W.Frag)(mg:Str->Option Value)(base:Heap)(CX:CXT)(k:Nat)(f:Addr)(fd:FuncData)(ps:List Str)(sp:Sp):Prop where
 len:∀ vs H Q E,sp vs H Q E->vs.length=ps.length
 run:∀ (A:Around) (outer:List Env) (s:Shared) (H:Hp) (args:Args) (us:List Value) (vs:List V) (Q:VK) (E:XK),a4w k A->g0a P w K mg base A outer s H->BindsTo s fd args (ps.zip us)->Vals vs us->sp vs H Q E ->
  codeAny (model P w) A (.call (.ref f) args) (CR CX outer P w H s Q E) s
theorem g0a.make{P:Program}{w:World}{K:PySem.W.Frag}{mg:Str->Option Value}{base:Heap}{A:Around}{outer:List Env}{s:Shared}{H:Hp}(e:g0a P w K mg base A outer s H)(C:Addr)(us:List Value)(kw:List (Str×Value)) :
  g0a P w K mg base (A.under (.builtin "type.__call__" ⟨.ref C :: us, kw⟩)) outer s H := ⟨by first | exact e.frames | (simpa [Around.under, Code.envs, Code.isFrame, pushEnvs] using e.frames), e.mod, e.bs, e.bsz, e.d8u, e.frf, e.hok, e.bare⟩
section
variable {X:Cx}{pins:List (Addr×Obj)}{σ:St}{H:Hp}{s s':Shared}
theorem Inv.env0(I:Inv X pins σ H s):g0a X.prog X.w X.K X.mg X.base X.A X.stack s H :=
 ⟨I.ok.frames,I.ok.mod,I.bs,Nat.le_trans I.ok.bsz I.sz,I.stack,I.c8n,I.hok,I.bare⟩
theorem Inv.after{Q:VK}{u:Value}(I:Inv X pins σ H s)(h:CE X.stack X.prog X.w H s Q u s'):EP X pins σ Q u s':=by
 obtain⟨v,H',os,bare,un,hok,r,q⟩:=h
 obtain⟨hh,g,d,t,os'⟩:=s'
 obtain rfl:os'=s.os:=os
 exact⟨v,H',I.call (h':=hh) (g':=g) (d':=d) (t':=t) (ch:=[]) un hok bare (fun b z=>absurd z (by simp)),r,q⟩
end
def g1t(sp:Sp)(dvs:List V)(E:XK)(t:TA):TE:=fun σ H Q=>t σ H fun vs H1=>sp (vs++dvs) H1 Q E
def Binds(K:PySem.W.Frag)(fd:FuncData)(ps:List Str)(ds:List Value):Prop :=
 ∀ (s:Shared) (us:List Value),K.In s.heap->(us++ds).length=ps.length->BindsTo s fd ⟨us,[]⟩ (ps.zip (us++ds))
theorem Binds.all{K:PySem.W.Frag}{fd:FuncData}{ps:List Str}(h:∀ us:List Value,us.length=ps.length->bindArgs fd ⟨us,[]⟩=pure (ps.zip us)):Binds K fd ps []:=fun s us _ hl=>by
 rw [List.append_nil] at hl ⊢
 exact .of_eq (h us hl)
def Passes(CX:CXT)(X:Cx)(E:XK):Prop:=∀ (pins:List (Addr×Obj)) (σ:St) (H:Hp) (s:Shared) (e:Value) (s':Shared),Inv X pins σ H s->CX X.stack H s E e s'->X.xe e s'
section
variable {X:Cx}{CX:CXT}{k:Nat}{f C:Addr}{fd:FuncData}{ps:List Str}{sp:Sp}{dvs:List V}{ds:List Value}{E:XK}{x m:Str}{p pos apos:Pos}{e o:Expr}{es:List Expr}{ta:TE}{t:TA}
theorem d1w{pins:List (Addr×Obj)}{σ:St}{H:Hp}{s:Shared}{Q:VK}{us:List Value}{vs:List V}(F:a2t X.prog X.w X.K X.mg X.base CX k f fd ps sp)(hr:a4w k X.A)(hb:Binds X.K fd ps ds)(hd:Vals dvs ds)(hx:Passes CX X E)
  (I:Inv X pins σ H s) (r:Vals vs us) (h:sp (vs++dvs) H Q E):wpAny (model X.prog X.w) X.A (call (.ref f) us) (EP X pins σ Q) X.xe s:=by
 have r2:Vals (vs++dvs) (us++ds):=r.append hd
 have hl:(us++ds).length=ps.length:=by rw [<- r2.length]; exact F.len _ _ _ _ h
 refine wpAny_call (codeAny_mono (F.run X.A X.stack s H ⟨us,[]⟩ (us++ds) (vs++dvs) Q E hr I.env0 (hb s us I.kIn hl) r2 h) fun r s' hq=>?_)
 cases r with
 | error e=>exact hx pins σ H s e s' I hq
 | ok fl =>
  cases fl with
  | ret u=>exact I.after hq
  | next=>exact False.elim hq
  | brk=>exact False.elim hq
  | cont=>exact False.elim hq
theorem a5z(F:a2t X.prog X.w X.K X.mg X.base CX k f fd ps sp)(hr:a4w k X.A)(hg:Gl X x)(hm:X.mg x=some (.ref f))(hk:PySem.W.keepIn X.K (.ref f)=true)(hb:Binds X.K fd ps ds)(hd:Vals dvs ds)(hx:Passes CX X E)
  (ha : PA X (e :: es) t) (hdb : (x == ("__debug__" : Str)) = false := by decide) (he : starEach (e :: es) X.env = (false, eval e X.env) :: starEach es X.env := by rfl) (hpl : (backTo pos (starEach es X.env)).any (·.1) = false := by rfl) :
  PE X (.Call (.Name x p) (e :: es) [] pos) (g1t sp dvs E t):=by
 intro pins s σ H Q I h
 refine wpAny_Call_Name_kw (b8p I hg hm ?_ hdb)
 refine PySem.W.callWith_K (h₀:=X.base) I.ok.mod.kin hk (thn (ha pos pins s σ H _ I h) fun us s1 ⟨vs,H1,I1,r,q⟩=>⟨I1.kIn,?_⟩) he hpl
 exact d1w F hr hb hd hx I1 r q
theorem f6s(F:a2t X.prog X.w X.K X.mg X.base CX k f fd ps sp)(hr:a4w k X.A)(hg:Gl X x)(hm:X.mg x=some (.ref f))(hk:PySem.W.keepIn X.K (.ref f)=true)(hb:Binds X.K fd ps ds)(hd:Vals dvs ds)(hx:Passes CX X E)
  (hdb : (x == ("__debug__" : Str)) = false := by decide) : PE X (.Call (.Name x p) [] [] pos) (g1t sp dvs E g8w) := by
 intro pins s σ H Q I h
 refine wpAny_Call_Name_kw (b8p I hg hm ?_ hdb)
 exact PySem.W.callWith_K0 I.kIn hk (d1w (us:=[]) F hr hb hd hx I .nil h)
structure Mk(K:PySem.W.Frag)(C f:Addr):Prop where
 makes:PySem.W.makesIn K C=true
 init : PySem.W.findIn K (.ref C) "__init__" = some (some (.ref f))
 fn:PySem.W.isFn K (.ref f)=true
 kp:PySem.W.keepIn K (.ref C)=true
theorem d7u{pins:List (Addr×Obj)}{σ:St}{H:Hp}{s:Shared}{Q:VK}{us:List Value}{vs:List V}(M:Mk X.K C f)(F:a2t X.prog X.w X.K X.mg X.base CX k f fd ps sp)(hr:a4w (k+1) X.A)(hb:Binds X.K fd ps ds)(hd:Vals dvs ds)
  (hx:Passes CX X E) (I:Inv X pins σ H s) (r:Vals vs us)
  (h:∀ x dx,H x=none->H dx=none->dx≠x->sp (.ref x :: (vs++dvs)) (upd (upd H dx (.own x)) x (.ins C dx [])) (fun v H2=>v = .non/\Q (.ref x) H2) E) :
  wpAny (model X.prog X.w) X.A (call (.ref C) us) (EP X pins σ Q) X.xe s:=by
 have hq:=h (s.heap.objs.size+1) s.heap.objs.size (I.hok.fresh (Nat.le_succ _)) (I.hok.fresh (Nat.le_refl _)) (Nat.ne_of_lt (Nat.lt_succ_self _))
 have I2:=Inv.made (C:=C) I
 have r2:Vals (V.ref (s.heap.objs.size+1) :: (vs++dvs)) (Value.ref (s.heap.objs.size+1) :: (us++ds)):=.cons rfl (r.append hd)
 have hl:(Value.ref (s.heap.objs.size+1) :: us++ds).length=ps.length:=by
  have e:=r2.length
  rw [F.len _ _ _ _ hq] at e
  exact e.symm
 refine wpAny_call (f6r (f:=f) I.kIn M.makes M.init (beq_iff_eq.mp M.fn) (codeAny_mono (F.run _ X.stack _ _ ⟨Value.ref (s.heap.objs.size+1) :: us,[]⟩ (Value.ref (s.heap.objs.size+1) :: (us++ds)) _ _ E (hr.make C us [])
  (I2.env0.make C us []) (hb _ (Value.ref (s.heap.objs.size+1) :: us) I2.kIn hl) r2 hq) fun r s' hq'=>?_))
 cases r with
 | error e=>exact hx pins σ _ _ e s' I2 hq'
 | ok fl =>
  cases fl with
  | ret u =>
   obtain⟨v,H',I3,rv,ev,q3⟩:=I2.after hq'
   subst ev
   exact⟨rv,⟨V.ref (s.heap.objs.size+1),H',I3,rfl,q3⟩⟩
  | next=>exact False.elim hq'
  | brk=>exact False.elim hq'
  | cont=>exact False.elim hq'
end
section
variable {X:Cx}{CX:CXT}{k:Nat}{f C:Addr}{fd:FuncData}{ps ks:List Str}{sp:Sp}{E:XK}{x m:Str}{p pos apos kpos:Pos}{e o:Expr}{es:List Expr}{kws:List Keyword}{te ta:TE}{t tk:TA}{nm:Option Str}
structure h2t(K:PySem.W.Frag)(fd:FuncData)(ps ks:List Str)(g:List Value->List Value->List Value)(gV:List V->List V->List V):Prop where
 to:∀ (s:Shared) (us ws:List Value),K.In s.heap->(g us ws).length=ps.length->BindsTo s fd ⟨us,ks.zip ws⟩ (ps.zip (g us ws))
 rel:∀ {vs:List V} {us:List Value} {zs:List V} {ws:List Value},Vals vs us->Vals zs ws->Vals (gV vs zs) (g us ws)
variable {g:List Value->List Value->List Value}{gV:List V->List V->List V}
end
structure a0u(N P:List Str)(sc:Scope):Prop where
 kind:sc.kind = .function
 co:sc.isCoroutine=false
 gen:sc.isGenerator=false
 nd:N.Nodup
 pre:N.take P.length=P
 par:∀ x∈P,sc.names.lookup x=some .local\/sc.names.lookup x=some .cell
 g5l:∀ y∈sc.names,y.2≠.free
theorem d1y{kindOf:Str->Option NameKind}{x:Str}:∀ {binds:List (Str×Value)} {m:Str->Option Value},(∀ v,(x,v)∉binds)->bindL kindOf binds m x=m x
 | [],_,_=>rfl
 | (n,v) :: r,m,h=>by
  unfold bindL
  rw [d1y fun w hw=>h w (List.mem_cons_of_mem _ hw)]
  split
  ·have:x≠n:=by rintro rfl; exact h v List.mem_cons_self
   simp [this]
  ·rfl
theorem d1z{kindOf:Str->Option NameKind}{x:Str}:∀ {binds:List (Str×Value)} {m:Str->Option Value},(∀ v,(x,v)∉binds)->bindC kindOf binds m x=m x
 | [],_,_=>rfl
 | (n,v) :: r,m,h=>by
  unfold bindC
  rw [d1z fun w hw=>h w (List.mem_cons_of_mem _ hw)]
  split
  ·rfl
  ·have:x≠n:=by rintro rfl; exact h v List.mem_cons_self
   simp [this]
theorem d2g{kindOf:Str->Option NameKind}{x:Str}{v:Value}:∀ {P:List Str} {vs:List Value} {i:Nat} {m:Str->Option Value},P.Nodup->P[i]? = some x->vs[i]? = some v->kindOf x=some .local ->
  bindL kindOf (P.zip vs) m x=some v
 | [],_,_,_,_,h,_,_=>by simp at h
 | _ :: _,[],_,_,_,_,h,_=>by simp at h
 | p :: P,w :: vs,0,m,nd,h1,h2,hk=>by
  simp at h1 h2; subst h1; subst h2
  show bindL kindOf ((p,w) :: P.zip vs) m p=_
  unfold bindL
  rw [d1y fun v hv=>(List.nodup_cons.mp nd).1 (List.of_mem_zip hv).1,if_pos hk]
  simp
 | p :: P,w :: vs,i+1,m,nd,h1,h2,hk=>by
  show bindL kindOf ((p,w) :: P.zip vs) m x=_
  unfold bindL
  exact d2g (i:=i) (List.nodup_cons.mp nd).2 (by simpa using h1) (by simpa using h2) hk
theorem d2h{kindOf:Str->Option NameKind}{x:Str}{v:Value}:∀ {P:List Str} {vs:List Value} {i:Nat} {m:Str->Option Value},P.Nodup->P[i]? = some x->vs[i]? = some v->kindOf x≠some .local ->
  bindC kindOf (P.zip vs) m x=some v
 | [],_,_,_,_,h,_,_=>by simp at h
 | _ :: _,[],_,_,_,_,h,_=>by simp at h
 | p :: P,w :: vs,0,m,nd,h1,h2,hk=>by
  simp at h1 h2; subst h1; subst h2
  show bindC kindOf ((p,w) :: P.zip vs) m p=_
  unfold bindC
  rw [d1z fun v hv=>(List.nodup_cons.mp nd).1 (List.of_mem_zip hv).1,if_neg hk]
  simp
 | p :: P,w :: vs,i+1,m,nd,h1,h2,hk=>by
  show bindC kindOf ((p,w) :: P.zip vs) m x=_
  unfold bindC
  exact d2h (i:=i) (List.nodup_cons.mp nd).2 (by simpa using h1) (by simpa using h2) hk
noncomputable def start(N:List Str)(vs:List V):St:=vs.map some++List.replicate (N.length - vs.length) none
def f6t(CX:CXT)(P:Program)(w:World)(K:PySem.W.Frag)(mg:Str->Option Value)(base:Heap)(N:List Str)(qual:Str)(scope:Scope)(f:Addr)(cd:Value)(A:Around)(outer:List Env)(s:Shared)(H:Hp)(E:XK):Cx where
 prog:=P
 w:=w
 K:=K
 mg:=mg
 base:=base
 A:=A.deeper (envOfC qual scope s.heap.objs.size f cd)
 N:=N
 s₀:=s
 H₀:=H
 env:=envOfC qual scope s.heap.objs.size f cd
 outer:=outer
 stack:=envOfC qual scope s.heap.objs.size f cd :: outer
 ex:=[]
 calm:=true
 fn:=fun _=>true
 pn:=[]
 xe:=fun e s'=>wpAny (model P w) (A.deeper (envOfC qual scope s.heap.objs.size f cd)) (leaving (envOfC qual scope s.heap.objs.size f cd) e) (fun _ s''=>CX outer H s E e s'') (fun e' s''=>CX outer H s E e' s'') s'
theorem d7v{sc:Scope}{n:Nat}{x:Str}(h:sc.names.lookup x=some .cell):∃ c,(cellsFrom n sc.names []).lookup x=some c:=by
 have q:=PySem.W.cellsFrom_some sc.names n [] (.inl h)
 exact Option.isSome_iff_exists.mp q
theorem f1y{CX:CXT}{P:Program}{w:World}{K:PySem.W.Frag}{mg:Str->Option Value}{base:Heap}{N ps:List Str}{qual:Str}{scope:Scope}{f:Addr}{cd:Value}{A:Around}{outer:List Env}{s s1:Shared}{H:Hp}{E:XK}{us:List Value}{vs:List V}
  (S:a0u N ps scope) (hd:A.handled=none) (e0:g0a P w K mg base A outer s H) (hl:vs.length=ps.length) (r:Vals vs us)
  (x:InCallC s s.heap.objs.size (bindL (envOfC qual scope s.heap.objs.size f cd).kindOf (ps.zip us) fun _=>none) (cellsFrom (s.heap.objs.size+1) scope.names []) (bindC (envOfC qual scope s.heap.objs.size f cd).kindOf (ps.zip us) fun _=>none) s1) :
  Inv (f6t CX P w K mg base N qual scope f cd A outer s H E) [] (start N vs) H s1:=by
 have hpl:ps.length<=N.length:=by have:=congrArg List.length S.pre; rw [List.length_take] at this; omega
 obtain⟨h1,tk,rfl,hk⟩:=x.done
 have noA:∀ b:Addr,b∉(f6t CX P w K mg base N qual scope f cd A outer s H E).ex:=fun b z=>absurd (show b∈([] : List Addr) from z) (by simp)
 refine⟨⟨e0.mod,S.kind,rfl,rfl,Nat.le_refl _,fun y z c h1 h2=>?_,fun y hy=>?_,fun y c _ h=>?_,fun _=>hd,Around.frames_deeper e0.frames,.inr ⟨rfl,rfl⟩,fun b z=>absurd z (noA b),e0.bs,e0.bsz,fun b _ _=>noA b,fun b z=>absurd z (noA b),e0.d8u,e0.frf⟩,
  rfl,e0.bare,Un.kept hk,⟨_,x.toInCall.ns,fun i y v h1 h2 h3=>?_⟩,fun y c h=>⟨_,x.cell y c h⟩,e0.hok.fresh (Nat.le_refl _),fun y c h=>?_,fun p hp=>absurd (show p∈([] : List (Addr×Obj)) from hp) (by simp),e0.hok.kept hk,?_⟩
 ·exact name_of_addr x.apart (PySem.mem_of_lookup h1) (PySem.mem_of_lookup h2)
 ·have hy:scope.names.lookup y=some .cell\/scope.names.lookup y=some .free:=hy
  rcases hy with hy | hy
  ·exact d7v hy
  ·exact absurd rfl (S.g5l _ (PySem.mem_of_lookup hy))
 ·exact Nat.le_of_lt (x.above y c (PySem.mem_of_lookup h))
 ·have hi:i < vs.length:=by
   unfold start at h2
   by_cases hi:i < vs.length
   ·exact hi
   ·rw [List.getElem?_append_right (by simpa using hi)] at h2
    rw [List.getElem?_replicate] at h2
    split at h2 <;> cases h2
  have ha:vs[i]? = some v:=by
   unfold start at h2
   rw [List.getElem?_append_left (by simpa using hi),List.getElem?_map] at h2
   cases e:vs[i]? with
   | none=>rw [e] at h2; cases h2
   | some a=>rw [e] at h2; cases h2; rfl
  obtain⟨u,hu,rv⟩:=r.get ha
  have hp:ps[i]? = some y:=by
   rw [<- S.pre,List.getElem?_take_of_lt (by omega)]; exact h1
  have ndP:ps.Nodup:=by rw [<- S.pre]; exact S.nd.sublist (List.take_sublist _ _)
  refine⟨u,rv,?_⟩
  rcases S.par y (List.mem_of_getElem? hp) with k | k
  ·exact .inl ⟨k,d2g ndP hp hu k⟩
  ·obtain⟨c,e⟩:=d7v (n:=s.heap.objs.size+1) k
   refine .inr ⟨.inl k,c,e,?_⟩
   have q:=x.cell y c e
   rw [d2h ndP hp hu (by show scope.names.lookup y≠_; rw [k]; decide)] at q
   exact q
 ·exact e0.hok.fresh (Nat.le_of_lt (x.above y c (PySem.mem_of_lookup h)))
 ·unfold start
  show _=N.length
  rw [List.length_append,List.length_map,List.length_replicate]
  omega
theorem g5m{CX:CXT}{P:Program}{w:World}{K:PySem.W.Frag}{mg:Str->Option Value}{base:Heap}{k:Nat}{f:Addr}{name qual:Str}{params:Arguments}{body:List Stmt}{scope:Scope}{dV kV doc pm cdv ct oc:Value}{an od:Option Addr}
  {osl:Array (Option Value)} {N ps:List Str} {sp:Sp} (lk:K.lookup f=some ⟨oc,od,.func (PySem.W.fnOf name qual params body scope dV kV doc pm an cdv ct),osl⟩) (hcd:PySem.W.codeIn K cdv qual=true) (S:a0u N ps scope)
  (len:∀ vs H Q E,sp vs H Q E->vs.length=ps.length)
  (hbody:∀ (A:Around) (outer:List Env) (s:Shared) (H:Hp) (vs:List V) (Q:VK) (E:XK),a4w k (A.deeper (envOfC qual scope s.heap.objs.size f cdv))->sp vs H Q E ->
   ∃ t,PSs (f6t CX P w K mg base N qual scope f cdv A outer s H E) body t/\t { nx:=fun _ H'=>Q .non H',rt:=Q } (start N vs) H) :
  a2t P w K mg base CX (k+1) f (PySem.W.fnOf name qual params body scope dV kV doc pm an cdv ct) ps sp:=by
 refine⟨len,fun A outer s H args us vs Q E hr e0 hb r hsp=>?_⟩
 have hl:=len _ _ _ _ hsp
 have KX:K.In s.heap:=e0.mod.kin.keeps fun b o e=>(e0.bs b o e).1
 have lim:s.heap.NoLimit:=e0.mod.nolimit.keeps fun b o e=>(e0.bs b o e).1
 have hkind:∀ y∈ps.zip us,scope.names.lookup y.1=some .local\/(scope.names.lookup y.1=some .cell/\((cellsFrom (s.heap.objs.size+1) scope.names []).lookup y.1).isSome=true):=fun⟨n,v⟩ hy=>by
  rcases S.par n (List.of_mem_zip hy).1 with q | q
  ·exact .inl q
  ·exact .inr ⟨q,PySem.W.cellsFrom_some _ _ _ (.inl q)⟩
 refine codeAny_call_function hr.depth (KX _ _ lk) rfl S.co S.gen rfl (PySem.W.codeRec_of KX hcd) (hb _ _ _ _ ?_)
 refine wpAny_newFunctionEnv_cells S.kind hkind fun env he s1 x=>?_
 subst he
 refine⟨lim.keeps x.toInCall.keep,codeAny_func ?_⟩
 obtain⟨t,ht,hq⟩:=hbody A outer s H vs Q E (hr.deeper _) hsp
 have I:Inv (f6t CX P w K mg base N qual scope f cdv A outer s H E) [] (start N vs) H s1:=f1y S hr.hd e0 hl r x
 refine wpAny_mono (ht [] s1 (start N vs) H _ I hq) (fun fl s' hs=>?_) fun e s' hs=>hs
 have fin:∀ {σ':St} {H':Hp} {v:V} {u:Value},Inv (f6t CX P w K mg base N qual scope f cdv A outer s H E) [] σ' H' s'->RelV v u->Q v H'->CE outer P w H s Q u s' :=
  fun {σ' H' v u} J rv q=>⟨v,H',J.os,J.bare,J.base,J.hok,rv,q⟩
 cases fl with
 | ret u =>
  obtain⟨v,σ',H',J,rv,q⟩:=hs
  exact fin J rv q
 | next =>
  obtain⟨σ',H',J,q⟩:=hs
  exact fin (v:=V.non) (u:=Value.none) J rfl q
 | brk =>
  obtain⟨_,_,_,q⟩:=hs
  exact False.elim q
 | cont =>
  obtain⟨_,_,_,q⟩:=hs
  exact False.elim q
end L2
namespace L2
open PySem PySem.Spec PyProof.Rows
section
variable {X:Cx}{x:Str}{p pos:Pos}{e:Expr}{es:List Expr}{t:TA}{id T:String}{r:List V->Hp->VK->Prop}
def tCB(r:List V->Hp->VK->Prop)(t:TA):TE:=fun σ H Q=>t σ H fun vs H1=>r vs H1 Q
theorem a0w (hc : b8n X (.builtin id) r) (hg : Gl X x) (hm : X.mg x = none) (hv : bootBuiltins x = some (.builtin id)) (ha : PA X (e :: es) t) (hn : x ≠ "__name__" := by decide) (hdb : (x == ("__debug__" : Str)) = false := by decide)
  (he:starEach (e :: es) X.env=(false,eval e X.env) :: starEach es X.env:=by rfl) (hpl:(backTo pos (starEach es X.env)).any (·.1)=false:=by rfl):PE X (.Call (.Name x p) (e :: es) [] pos) (tCB r t):=by
 intro pins s σ H Q I h
 refine wpAny_Call_Name_kw (d7t I hg hm hv ?_ hn hdb)
 exact PyProof.Rows.callWith_builtin1 (thn (ha pos pins s σ H _ I h) fun us s1 ⟨vs,H1,I1,r1,q1⟩=>hc pins s1 σ H1 vs us Q I1 r1 q1) he hpl
theorem a7h (hc : b8n X (.type T) r) (hg : Gl X x) (hm : X.mg x = none) (hv : bootBuiltins x = some (.type T)) (ha : PA X (e :: es) t) (hn : x ≠ "__name__" := by decide) (hdb : (x == ("__debug__" : Str)) = false := by decide)
  (he:starEach (e :: es) X.env=(false,eval e X.env) :: starEach es X.env:=by rfl) (hpl:(backTo pos (starEach es X.env)).any (·.1)=false:=by rfl):PE X (.Call (.Name x p) (e :: es) [] pos) (tCB r t):=by
 intro pins s σ H Q I h
 refine wpAny_Call_Name_kw (d7t I hg hm hv ?_ hn hdb)
 exact PyProof.Rows.callWith_type1 (thn (ha pos pins s σ H _ I h) fun us s1 ⟨vs,H1,I1,r1,q1⟩=>hc pins s1 σ H1 vs us Q I1 r1 q1) he hpl
end
end L2
namespace HT
open PySem PyProof.Rows
section
open PySem.SeqAt
open PySem.AutoSeq1 (wpAny_loadPart')
open PySem.MeetsSeq PySem.MeetsSeq2 PySem.MeetsSeq3
end
section
variable {prog:Program}{w:World}{A:Around}{E:Value->Shared->Prop}{s:Shared}
noncomputable def sIx(n d:Nat):Option Int->Nat
 | none=>d
 | some v=>if v < 0 then (v+(n:Int)).toNat else min v.toNat n
theorem d7w(n d:Nat):sIx n d none=d:=rfl
theorem f1z(n d k:Nat):sIx n d (some (k:Int))=min k n:=by
 show (if (k:Int) < 0 then ((k:Int)+(n:Int)).toNat else min (k:Int).toNat n)=min k n
 rw [if_neg (by omega),Int.toNat_natCast]
end
end HT
namespace L2
open PySem PySem.Spec PyProof.Rows
noncomputable abbrev TO:=St->Hp->(Option Int->Hp->Prop)->Prop
def PO(X:Cx)(e:Option Expr)(t:TO):Prop :=
 ∀ (pins:List (Addr×Obj)) (s:Shared) (σ:St) (H:Hp) (Q:Option Int->Hp->Prop),Inv X pins σ H s->t σ H Q ->
  wpAny (model X.prog X.w) X.A (evalPart e X.env) (fun u s'=>∃ o H',Inv X pins σ H' s'/\IsPart u o/\Q o H') X.xe s
noncomputable def g1u:TO:=fun _ H Q=>Q none H
def g5n(t:TE):TO:=fun σ H Q=>t σ H fun x H1=>∃ i,x = .int i/\Q (some i) H1
section
variable {X:Cx}{e:Expr}{te:TE}{lo hi:Option Expr}{tl th:TO}{pos p2:Pos}
theorem c5l:PO X none g1u:=by
 intro pins s σ H Q I h
 rw [evalPart_none]
 exact wpAny_pure ⟨none,H,I,.none,h⟩
theorem g1v(h:PE X e te):PO X (some e) (g5n te):=by
 intro pins s σ H Q I hw
 rw [evalPart_some]
 refine thn (h pins s σ H _ I hw) fun u s1 ⟨x,H1,I1,r1,q1⟩=>?_
 obtain⟨i,rfl,q⟩:=q1
 obtain⟨t,rfl⟩:=r1
 exact⟨some i,H1,I1,.int i t,q⟩
def SlR(X:Cx)(r:V->Option Int->Option Int->Hp->VK->Prop):Prop :=
 ∀ (pins:List (Addr×Obj)) (s:Shared) (σ:St) (H:Hp) (x:V) (v vl vu:Value) (lo hi:Option Int) (sl:Addr) (Q:VK),Inv X pins σ H s->RelV x v->s.heap.IsSliceOf sl vl vu .none->IsPart vl lo->IsPart vu hi->r x lo hi H Q ->
  ∃ T id, typeLookup (.type T) "__getitem__" = pure (some (.builtin id)) ∧ s.TypeIs v T ∧ wpAny (model X.prog X.w) X.A (getItem v (.ref sl)) (EP X pins σ Q) X.xe s
def tSl(r:V->Option Int->Option Int->Hp->VK->Prop)(te:TE)(tl th:TO):TE:=fun σ H Q=>te σ H fun x H1=>tl σ H1 fun l H2=>th σ H2 fun u H3=>r x l u H3 Q
theorem c0g{r:V->Option Int->Option Int->Hp->VK->Prop}(hr:SlR X r)(he:PE X e te)(hl:PO X lo tl)(hu:PO X hi th):PE X (.Subscript e (.Slice lo hi none p2) pos) (tSl r te tl th):=by
 intro pins s σ H Q I h
 refine Subscript_ (thn (he pins s σ H _ I h) fun v s1 ⟨x,H1,I1,r1,q1⟩=>?_)
 refine wpAny_Slice (thn (hl pins s1 σ H1 _ I1 q1) fun vl s2 ⟨l,H2,I2,pl,q2⟩=>thn (hu pins s2 σ H2 _ I2 q2) fun vu s3 ⟨u,H3,I3,pu,q3⟩=>?_)
 rw [evalPart_none]
 refine wpAny_pure ?_
 have I4 : Inv X pins σ H3 { s3 with heap := s3.heap.push { cls := .type "slice", data := .fields #[vl, vu, .none] } } := I3.kept (t' := s3.toks) fun b ob q => Heap.get?_push_of_some _ q
 obtain ⟨T, id, hT, ht, hg⟩ := hr pins { s3 with heap := s3.heap.push { cls := .type "slice", data := .fields #[vl, vu, .none] } } σ H3 x v vl vu l u s3.heap.objs.size Q I4 r1 (Heap.IsSliceOf.new ..) pl pu q3
 show wpAny (model X.prog X.w) X.A (subscriptTail e (.Slice lo hi none p2) v (.ref s3.heap.objs.size)) (EP X pins σ Q) X.xe { s3 with heap := s3.heap.push { cls := .type "slice", data := .fields #[vl, vu, .none] } }
 exact tail_any (ops:=[.ref s3.heap.objs.size,v]) ht hT hg (by with_unfolding_all rfl)
noncomputable def f0w(xs:List V)(lo hi:Option Int):List V:=(xs.drop (HT.sIx xs.length 0 lo)).take (HT.sIx xs.length xs.length hi - HT.sIx xs.length 0 lo)
theorem d5h(xs:List V)(lo hi:Option Int):(f0w xs lo hi).length<=xs.length:=by
 unfold f0w
 rw [List.length_take,List.length_drop]
 omega
end
end L2
namespace L2
open PySem PySem.Spec PyProof.Rows
noncomputable def ixN(n:Nat)(i:Int):Option Nat:=if 0<=i then (if i < n then some i.toNat else none) else if -(n:Int)<=i then some (i+n).toNat else none
noncomputable def atI{α:Type}(xs:List α)(i:Int):Option α:=(ixN xs.length i).bind fun j=>xs[j]?
theorem g1w{n:Nat}{i:Int}{j:Nat}(h:ixN n i=some j):seqIndex? i n=some j/\j < n /\ -(n:Int)<=i/\i < n:=by
 unfold ixN at h
 by_cases h0:0<=i
 ·rw [if_pos h0] at h
  by_cases h1:i < n
  ·rw [if_pos h1] at h
   have e:i.toNat=j:=Option.some.inj h
   exact⟨by rw [seqIndex_of h0 h1,e],by omega,by omega,h1⟩
  ·rw [if_neg h1] at h; cases h
 ·rw [if_neg h0] at h
  by_cases h1 : -(n:Int)<=i
  ·rw [if_pos h1] at h
   have e:(i+n).toNat=j:=Option.some.inj h
   exact⟨by rw [seqIndex_neg (by omega) h1,e],by omega,h1,by omega⟩
  ·rw [if_neg h1] at h; cases h
theorem d5i{α:Type}{xs:List α}{i:Int}{v:α}(h:atI xs i=some v):∃ j,seqIndex? i xs.length=some j/\xs[j]? = some v/\j < xs.length /\ -(xs.length:Int)<=i/\i < xs.length:=by
 unfold atI at h
 cases e:ixN xs.length i with
 | none=>rw [e] at h; cases h
 | some j =>
  rw [e] at h
  obtain⟨h1,h2,h3,h4⟩:=g1w e
  exact⟨j,h1,h,h2,h3,h4⟩
theorem a4j{α:Type}{xs:List α}{j:Nat}{v:α}(h:xs[j]? = some v):atI xs (j:Int)=some v:=by
 have hj:j < xs.length:=(List.getElem?_eq_some_iff.mp h).1
 have e:ixN xs.length (j:Int)=some j:=by
  unfold ixN
  rw [if_pos (by omega),if_pos (by omega)]; simp
 unfold atI; rw [e]; exact h
def g1x(b:Expr):Prop:=∀ o i,subscripted b false o i=operate [o,i] (getItem o i)
def IxR(X:Cx)(r:R2):Prop :=
 ∀ (value slice:Expr) (pins:List (Addr×Obj)) (s:Shared) (σ:St) (H:Hp) (x y:V) (v u:Value) (Q:VK),Inv X pins σ H s->RelV x v->RelV y u->r x y H Q ->
  subscripted slice false v u=operate [v,u] (getItem v u)->wpAny (model X.prog X.w) X.A (subscriptTail value slice v u) (EP X pins σ Q) X.xe s
def MtR(X:Cx)(id:String)(r:V->List V->Hp->VK->Prop):Prop :=
 ∀ (pins:List (Addr×Obj)) (s:Shared) (σ:St) (H:Hp) (x:V) (xs:List V) (v:Value) (us:List Value) (Q:VK),Inv X pins σ H s->RelV x v->Vals xs us->r x xs H Q ->
  wpAny (model X.prog X.w) X.A (call (.builtin id) (v :: us)) (EP X pins σ Q) X.xe s
section
variable {X:Cx}{a b:Expr}{ta tb:TE}{pos:Pos}
theorem a5v{r:R2}(hr:IxR X r)(ha:PE X a ta)(hb:PE X b tb)(hs:g1x b):PE X (.Subscript a b pos) (tOp r ta tb):=by
 intro pins s σ H Q I h
 exact Subscript_ (g9o ha hb I h fun v u s2 x y H2 I2 rx ry q=>hr a b pins s2 σ H2 x y v u Q I2 rx ry q (hs _ _))
def rIxL(K:PySem.W.Frag):R2:=fun x y H Q=>∃ p xs i v,x = .ref p/\y = .int i/\SqL K H p xs/\atI xs i=some v/\Q v H
def rIxT(K:PySem.W.Frag):R2:=fun x y H Q=>∃ p xs i v,x = .ref p/\y = .int i/\SqT K H p xs/\atI xs i=some v/\Q v H
def rIxS:R2:=fun x y H Q=>∃ z i c,x = .str z/\y = .int i/\z.length<=sizeLine/\atI z.cps.toList i=some c/\Q (.str ⟨#[c]⟩) H
theorem f2g:IxR X (rIxL X.K):=by
 intro value slice pins s σ H x y v u Q I rx ry h hs
 obtain⟨p,xs,i,z,rfl,rfl,hq,he,q⟩:=h
 cases rx
 obtain⟨t,rfl⟩:=ry
 obtain⟨its,r,pl,hz⟩:=I.list hq
 obtain⟨j,h1,h2,h3,h4,h5⟩:=d5i he
 obtain⟨w,ew,rw'⟩:=r.get h2
 have hl:=r.length
 have hn:=d1t
 have fin:EP X pins σ Q w s:=⟨z,H,I,rw',q⟩
 by_cases h0:0<=i
 ·have hj:i.toNat=j:=by
   rw [seqIndex_of h0 h5] at h1
   exact Option.some.inj h1
  exact item_listR pl.isList h0 (by omega) (by rw [hj]; simpa using ew) fin hs
 ·have hj:(i+(its.toArray.size:Int)).toNat=j:=by
   rw [seqIndex_neg (by omega) h4] at h1
   rw [List.size_toArray,<- hl]
   exact Option.some.inj h1
  exact subscriptTail_builtinR (x:=w) pl.isList.typeIs slot_list_getitem.lookup
   (wpAny_getItem_list_neg (Q:=fun r s'=>r=w/\EP X pins σ Q r s') pl.isList (by omega) (by rw [List.size_toArray] <;> omega) (by omega) (by rw [hj]; simpa using ew) ⟨rfl,fin⟩) hs
theorem g5o:IxR X (rIxT X.K):=by
 intro value slice pins s σ H x y v u Q I rx ry h hs
 obtain⟨p,xs,i,z,rfl,rfl,hq,he,q⟩:=h
 cases rx
 obtain⟨t,rfl⟩:=ry
 obtain⟨its,r,pl,hz⟩:=I.tuple hq
 obtain⟨j,h1,h2,h3,h4,h5⟩:=d5i he
 obtain⟨w,ew,rw'⟩:=r.get h2
 have hl:=r.length
 have hn:=d1t
 have fin:EP X pins σ Q w s:=⟨z,H,I,rw',q⟩
 exact subscriptTail_builtinR (x:=w) pl.typeIs slot_tuple_getitem.lookup
  (getItem_tuple (j:=j) (Q:=fun r s'=>r=w/\EP X pins σ Q r s') pl (by omega) (by omega) (by rw [List.size_toArray,<- hl]; exact h1) (by simpa using ew) ⟨rfl,fin⟩) hs
theorem g5p:IxR X rIxS:=by
 intro value slice pins s σ H x y v u Q I rx ry h hs
 obtain⟨z,i,c,rfl,rfl,hz,he,q⟩:=h
 obtain⟨t,rfl⟩:=rx
 obtain⟨t',rfl⟩:=ry
 obtain⟨j,h1,h2,h3,h4,h5⟩:=d5i he
 have hl:z.cps.toList.length=z.length:=by simp [Str.length]
 rw [hl] at h1 h4 h5
 have hn:=d1t
 exact tail_any (typeIs_str s z t) slot_str_getitem.lookup (getItem_str (c:=c) (by
  have e1:decide (i < -(2 ^ 63:Int))=false:=decide_eq_false (by omega)
  have e2:decide (i ≥ 2 ^ 63)=false:=decide_eq_false (by omega)
  rw [e1,e2,Bool.or_false]) (by rw [h1]; simpa using h2) ⟨.str ⟨#[c]⟩,H,I.tok _,⟨_,rfl⟩,q⟩) hs
theorem Inv.lst{pins:List (Addr×Obj)}{σ:St}{H:Hp}{s:Shared}{p:Addr}{xs:List V}(I:Inv X pins σ H s)(h:H p=some (.lst xs)) :
  ∃ (its : List Value) (n : Nat), Vals xs its ∧ s.heap.get? p = some { cls := .type "list", data := .seq its.toArray n } ∧ xs.length ≤ sizeLine := by
 obtain⟨z,its,n,r,e⟩:=I.hok p _ h
 exact⟨its,n,r,e,z⟩
theorem d2i(lo hi:Option Int)(n:Nat):(sliceBounds lo hi none n).1=((HT.sIx n 0 lo:Nat):Int)/\(sliceBounds lo hi none n).2.1=((HT.sIx n n hi:Nat):Int)/\(sliceBounds lo hi none n).2.2=1:=by
 refine⟨?_,?_,rfl⟩
 ·cases lo with
  | none=>simp [sliceBounds,HT.sIx]
  | some i =>
   simp only [sliceBounds,HT.sIx,Option.getD_none,show (1:Int) > 0 by decide,if_true]
   by_cases h:i < 0
   ·simp only [h,if_true] <;> omega
   ·simp only [h,if_false] <;> omega
 ·cases hi with
  | none=>simp [sliceBounds,HT.sIx]
  | some i =>
   simp only [sliceBounds,HT.sIx,Option.getD_none,show (1:Int) > 0 by decide,if_true]
   by_cases h:i < 0
   ·simp only [h,if_true] <;> omega
   ·simp only [h,if_false] <;> omega
theorem c8r(its:List Value)(lo hi:Option Int):slicePick its.toArray lo hi none=((its.drop (HT.sIx its.length 0 lo)).take (HT.sIx its.length its.length hi - HT.sIx its.length 0 lo)).toArray:=by
 obtain⟨h1,h2,h3⟩:=d2i lo hi its.toArray.size
 unfold slicePick
 rw [h1,h2,h3]
 simp only [sliceRange_one,pick_run,List.size_toArray] <;> rfl
noncomputable def rSlL(K:PySem.W.Frag):V->Option Int->Option Int->Hp->VK->Prop:=fun x lo hi H Q=>∃ a xs,x = .ref a/\SqL K H a xs/\∀ p,H p=none->Q (.ref p) (upd H p (.lst (f0w xs lo hi)))
theorem f2h:SlR X (rSlL X.K):=by
 intro pins s σ H x v vl vu lo hi sl Q I rx hs pl pu h
 obtain⟨a,xs,rfl,hx,q⟩:=h
 cases rx
 obtain⟨its,r,ht,hz⟩:=I.list hx
 have hlen:=r.length
 refine ⟨"list", _, slot_list_getitem.lookup, ht.isList.typeIs, ?_⟩
 refine wpAny_getItem_list_slice ht.isList hs pl pu .none (by simp) ?_ (by rw [List.size_toArray] <;> omega)
 rw [c8r,<- hlen]
 refine⟨.ref s.heap.objs.size,_,I.laid (t':=s.toks) (o:=.lst (f0w xs lo hi)) (fun b ob q=>Heap.get?_push_of_some _ q) (Nat.le_refl _) ?_,rfl,q _ (I.hok.fresh (Nat.le_refl _))⟩
 exact⟨Nat.le_trans (d5h xs lo hi) hz,_,0,(r.drop (HT.sIx xs.length 0 lo)).take (HT.sIx xs.length xs.length hi - HT.sIx xs.length 0 lo),Heap.get?_push_size _ rfl⟩
noncomputable def b3r:V->Bool
 | .non=>true
 | .bl _=>true
 | .int _=>true
 | .str _=>true
 | _=>false
noncomputable def eqV:V->V->Bool
 | .non,.non=>true
 | .bl a,.bl b=>a == b
 | .bl a,.int b=>(if a then 1 else 0) == b
 | .int a,.bl b=>a == (if b then 1 else 0)
 | .int a,.int b=>a == b
 | .str a,.str b=>a == b
 | _,_=>false
theorem g5q{A:Around}{s:Shared}{y x:V}{u v:Value}(ry:RelV y u)(rx:RelV x v)(fy:b3r y=true)(fx:b3r x=true):SeqAt.EqAt A s u v (eqV y x):=by
 cases y with
 | non =>
  cases ry
  cases x with
  | non=>cases rx; exact SeqAt.EqAt.same _
  | bl b=>cases rx; exact SeqAt.EqAt.none_bool b
  | int b=>obtain⟨t,rfl⟩:=rx; exact SeqAt.EqAt.none_int b t
  | str b=>obtain⟨t,rfl⟩:=rx; exact SeqAt.EqAt.none_str b t
  | _=>exact absurd (show false=true from fx) Bool.false_ne_true
 | bl a =>
  cases ry
  cases x with
  | non=>cases rx; exact SeqAt.EqAt.bool_none a
  | bl b=>cases rx; exact SeqAt.EqAt.bool_bool a b
  | int b=>obtain⟨t,rfl⟩:=rx; exact SeqAt.EqAt.bool_int a b t
  | str b=>obtain⟨t,rfl⟩:=rx; exact SeqAt.EqAt.bool_str a b t
  | _=>exact absurd (show false=true from fx) Bool.false_ne_true
 | int a =>
  obtain⟨t',rfl⟩:=ry
  cases x with
  | non=>cases rx; exact SeqAt.EqAt.int_none a t'
  | bl b=>cases rx; exact SeqAt.EqAt.int_bool a t' b
  | int b=>obtain⟨t,rfl⟩:=rx; exact SeqAt.EqAt.int_int a t' b t
  | str b=>obtain⟨t,rfl⟩:=rx; exact SeqAt.EqAt.int_str a t' b t
  | _=>exact absurd (show false=true from fx) Bool.false_ne_true
 | str a =>
  obtain⟨t',rfl⟩:=ry
  cases x with
  | non=>cases rx; exact SeqAt.EqAt.str_none a t'
  | bl b=>cases rx; exact SeqAt.EqAt.str_bool a t' b
  | int b=>obtain⟨t,rfl⟩:=rx; exact SeqAt.EqAt.str_int a t' b t
  | str b=>obtain⟨t,rfl⟩:=rx; exact SeqAt.EqAt.str_str a t' b t
  | _=>exact absurd (show false=true from fx) Bool.false_ne_true
 | _=>exact absurd (show false=true from fy) Bool.false_ne_true
noncomputable def eqU(x:V)(u:Value):Bool:=match u with
 | .none=>eqV .non x
 | .bool b=>eqV (.bl b) x
 | .int i _=>eqV (.int i) x
 | .str z _=>eqV (.str z) x
 | _=>false
theorem g0b{x y:V}{u:Value}(r:RelV y u)(f:b3r y=true):eqU x u=eqV y x:=by
 cases y with
 | non=>cases r; rfl
 | bl b=>cases r; rfl
 | int i=>obtain⟨t,rfl⟩:=r; rfl
 | str z=>obtain⟨t,rfl⟩:=r; rfl
 | _=>exact absurd (show false=true from f) Bool.false_ne_true
theorem c5m{x:V}:∀ {xs:List V} {us:List Value},Vals xs us->xs.all b3r=true->us.any (eqU x)=xs.any fun y=>eqV y x
 | _,_,.nil,_=>rfl
 | y :: xs,u :: us,.cons r t,f=>by
  rw [List.all_cons,Bool.and_eq_true] at f
  rw [List.any_cons,List.any_cons,g0b r f.1,c5m t f.2]
theorem c1p{A:Around}{s:Shared}{x:V}{v:Value}(rx:RelV x v)(fx:b3r x=true):∀ {xs:List V} {us:List Value},Vals xs us->xs.all b3r=true->∀ u∈us,SeqAt.EqAt A s u v (eqU x u)
 | _,_,.nil,_=>fun u hu=>by cases hu
 | y :: xs,u :: us,.cons r t,f=>fun u' hu=>by
  rw [List.all_cons,Bool.and_eq_true] at f
  rcases List.mem_cons.mp hu with rfl | hu
  ·rw [g0b r f.1]; exact g5q r rx f.1 fx
  ·exact c1p rx fx t f.2 u' hu
noncomputable def inV(x:V)(xs:List V):Bool:=xs.any fun y=>eqV y x
def rIn(K:PySem.W.Frag)(neg:Bool):R2:=fun x y H Q=>∃ p xs,y = .ref p/\(SqL K H p xs\/SqT K H p xs)/\b3r x=true/\xs.all b3r=true/\Q (.bl (if neg then !inV x xs else inV x xs)) H
theorem d2j:OpR X (compareOp .In) (rIn X.K false):=by
 intro pins s σ H x y v u Q I rx ry h
 obtain⟨p,xs,rfl,hq,fx,fs,q⟩:=h
 cases ry
 rcases hq with hq | hq
 ·obtain⟨its,r,pl,hz⟩:=I.list hq
  refine SeqAt.in_listAt (eqU x) pl.isList (fun w hw=>c1p rx fx r fs w (by simpa using hw)) ⟨.bl _,H,I,rfl,?_⟩
  rw [show its.toArray.any (eqU x)=its.any (eqU x) by simp,c5m r fs]
  exact q
 ·obtain⟨its,r,pl,hz⟩:=I.tuple hq
  refine SeqAt.in_tupleAt (eqU x) pl (fun w hw=>c1p rx fx r fs w (by simpa using hw)) ⟨.bl _,H,I,rfl,?_⟩
  rw [show its.toArray.any (eqU x)=its.any (eqU x) by simp,c5m r fs]
  exact q
theorem c3u:OpR X (compareOp .NotIn) (rIn X.K true):=by
 intro pins s σ H x y v u Q I rx ry h
 obtain⟨p,xs,rfl,hq,fx,fs,q⟩:=h
 cases ry
 rcases hq with hq | hq
 ·obtain⟨its,r,pl,hz⟩:=I.list hq
  refine SeqAt.notIn_listAt (eqU x) pl.isList (fun w hw=>c1p rx fx r fs w (by simpa using hw)) ⟨.bl _,H,I,rfl,?_⟩
  rw [show its.toArray.any (eqU x)=its.any (eqU x) by simp,c5m r fs]
  exact q
 ·obtain⟨its,r,pl,hz⟩:=I.tuple hq
  refine SeqAt.notIn_tupleAt (eqU x) pl (fun w hw=>c1p rx fx r fs w (by simpa using hw)) ⟨.bl _,H,I,rfl,?_⟩
  rw [show its.toArray.any (eqU x)=its.any (eqU x) by simp,c5m r fs]
  exact q
theorem d2k:OpR X (compareOp .NotIn) (fun x y H Q=>∃ i j,x = .str i/\y = .str j/\Q (.bl (!(!(Builtin.Str.occurrences j i 0 j.length 1).isEmpty))) H):=by
 intro pins s σ H x y v u Q I rx ry h
 obtain⟨i,j,rfl,rfl,q⟩:=h
 obtain⟨t,rfl⟩:=rx
 obtain⟨t',rfl⟩:=ry
 exact notIn_str ⟨.bl _,H,I,rfl,q⟩
theorem b8t : b8n X (.builtin "len") (fun xs H Q => ∃ p ys, xs = [.ref p] ∧ (SqL X.K H p ys ∨ SqT X.K H p ys) ∧ Q (.int ys.length) H) := by
 intro pins s σ H xs us Q I r h
 obtain⟨p,ys,rfl,hq,q⟩:=h
 obtain⟨u,rfl,rx⟩:=vals1 r
 cases rx
 have hn:=d1t
 rcases hq with hq | hq
 ·obtain⟨its,r',pl,hz⟩:=I.list hq
  have hlen:=r'.length
  exact Calls.call_len_list pl.isList (by simp only [List.size_toArray] <;> omega) ⟨.int ys.length,H,I.tok _,⟨s.toks+1,by rw [List.size_toArray,hlen]⟩,q⟩
 ·obtain⟨its,r',pl,hz⟩:=I.tuple hq
  have hlen:=r'.length
  exact len_tuple pl (by simp only [List.size_toArray] <;> omega) ⟨.int ys.length,H,I.tok _,⟨s.toks+1,by rw [List.size_toArray,hlen]⟩,q⟩
theorem d2l : b8n X (.builtin "len") (fun xs H Q => ∃ z, xs = [.str z] ∧ z.length ≤ sizeLine ∧ Q (.int z.length) H) := by
 intro pins s σ H xs us Q I r h
 obtain⟨z,rfl,hz,q⟩:=h
 obtain⟨u,rfl,t,rfl⟩:=vals1 r
 have hn:=d1t
 exact len_str (by omega) ⟨.int z.length,H,I.tok _,⟨_,rfl⟩,q⟩
theorem d2m : b8n X (.type "list") (fun xs H Q => ∃ p ys, xs = [.ref p] ∧ (SqL X.K H p ys ∨ SqT X.K H p ys) ∧ ∀ l, H l = none → Q (.ref l) (upd H l (.lst ys))) := by
 intro pins s σ H xs us Q I r h
 obtain⟨p,ys,rfl,hq,q⟩:=h
 obtain⟨u,rfl,rx⟩:=vals1 r
 cases rx
 have fin:∀ (its:List Value),Vals ys its->ys.length<=sizeLine->∀ (h':Heap) (c':Nat),(∀ b o',s.heap.get? b=some o'->h'.get? b=some o') ->
   h'.get? s.heap.objs.size = some { cls := .type "list", dict := none, data := .seq its.toArray c', slots := #[] } → EP X pins σ Q (.ref s.heap.objs.size) { s with heap := h' } := fun its r' hz h' c' kp e =>
  ⟨.ref s.heap.objs.size,_,I.laid (t':=s.toks) kp (Nat.le_refl _) (show a3g X.prog X.w _ h' _ (.lst ys) from ⟨hz,its,c',r',e⟩),rfl,q _ (I.hok.fresh (Nat.le_refl _))⟩
 rcases hq with hq | hq
 ·obtain⟨its,r',pl,hz⟩:=I.list hq
  have hlen:=r'.length
  obtain⟨o,ho,hc,n,hd⟩:=pl.isList
  exact call_list_seq p (.inl rfl) ho hc hd (fun h' c' kp e=>fin its r' hz h' c' kp e) (by simp only [List.size_toArray] <;> omega)
 ·obtain⟨its,r',pl,hz⟩:=I.tuple hq
  have hlen:=r'.length
  obtain⟨o,ho,hc,n,hd⟩:=pl
  exact call_list_seq p (.inr rfl) ho hc hd (fun h' c' kp e=>fin its r' hz h' c' kp e) (by simp only [List.size_toArray] <;> omega)
def tyV(K:PySem.W.Frag)(T:String)(x:V)(H:Hp):Prop:=match x with
 | .str _ => T = "str"
 | .int _ => T = "int"
 | .ref p => (T = "list" ∧ ∃ xs, SqL K H p xs) ∨ (T = "tuple" ∧ ∃ o, K.lookup p = some o ∧ o.cls = .type "tuple" ∧ o.dict = none) ∨
   (T = "dict" ∧ ((∃ kvs, H p = some (.dK kvs)) ∨ ∃ kvs, H p = some (.dT kvs))) ∨ (T = "set" ∧ ∃ S n, H p = some (.set S n))
 | _=>False
theorem g0c{pins:List (Addr×Obj)}{σ:St}{H:Hp}{s:Shared}{T:String}{x:V}{v:Value}(I:Inv X pins σ H s)(r:RelV x v)(ty:tyV X.K T x H) :
  s.TypeIs v T/\∀ a,v = .ref a->∃ ob,s.heap.get? a=some ob/\ob.dict=none:=by
 cases x with
 | str z =>
  obtain⟨t,rfl⟩:=r
  cases (show T = "str" from ty)
  exact⟨typeIs_str s z t,fun _ e=>nomatch e⟩
 | int i =>
  obtain⟨t,rfl⟩:=r
  cases (show T = "int" from ty)
  exact⟨typeIs_int s i t,fun _ e=>nomatch e⟩
 | ref p =>
  cases r
  rcases ty with ⟨rfl,xs,hq⟩ | ⟨rfl,o,hk,hc,hd⟩ | ⟨rfl,hk⟩ | ⟨rfl,S,n,hk⟩
  ·obtain⟨its,_,pl,_⟩:=I.list hq
   refine⟨pl.isList.typeIs,fun a e=>?_⟩
   cases e
   obtain⟨o,n,e,c,hd,_⟩:=pl
   exact⟨o,e,hd⟩
  ·refine⟨⟨o,I.kIn p o hk,hc⟩,fun a e=>?_⟩
   cases e
   exact⟨o,I.kIn _ o hk,hd⟩
  ·have z:∃ o,s.heap.get? p=some o/\o.ExactDict:=by
    rcases hk with ⟨kvs,hk⟩ | ⟨kvs,hk⟩
    ·obtain⟨_,_,_,_,o,_,_,e,ex,_⟩:=I.hok p _ hk
     exact⟨o,e,ex⟩
    ·obtain⟨_,_,_,_,o,_,_,e,ex,_⟩:=I.hok p _ hk
     exact⟨o,e,ex⟩
   obtain⟨o,e,ex⟩:=z
   refine⟨⟨o,e,ex.1⟩,fun a e2=>?_⟩
   cases e2
   exact⟨o,e,ex.2.1⟩
  ·obtain⟨o,_,_,_,e,ex,_⟩:=I.hok p _ hk
   refine⟨⟨o,e,ex.1⟩,fun a e2=>?_⟩
   cases e2
   exact⟨o,e,ex.2.1⟩
 | _=>exact False.elim ty
variable {o e:Expr}{es:List Expr}{to:TE}{t:TA}{name:Str}{apos cpos:Pos}{T id:String}{r:V->List V->Hp->VK->Prop}
/- xs.append(e),list.index on a module's tuple .. are MtR facts of 06m -/
end
end L2
namespace L2
open PySem PySem.Spec PyProof.Rows
def MtM(X:Cx)(id:String)(r:V->List V->Hp->VK->Prop):Prop :=
 ∀ (pins:List (Addr×Obj)) (s:Shared) (σ:St) (H:Hp) (x:V) (xs:List V) (v:Value) (us:List Value) (Q:VK),Inv X pins σ H s->RelV x v->Vals xs us->r x xs H Q ->
  wpAny (model X.prog X.w) X.A (call (.builtin id) (v :: us)) (EP X pins σ Q) X.xe s
theorem Vals.one:∀ {x:V} {us:List Value},Vals [x] us->∃ u,us = [u]/\RelV x u
 | _,_,.cons r .nil=>⟨_,rfl,r⟩
theorem Vals.two{x y:V}{us:List Value}(h:Vals [x,y] us):∃ u v,us = [u,v]/\RelV x u/\RelV y v:=by
 cases h with
 | cons r t =>
  cases t with
  | cons q z =>
   cases z
   exact⟨_,_,rfl,r,q⟩
theorem Vals.zero:∀ {us:List Value},Vals [] us->us = []
 | _,.nil=>rfl
theorem Vals.dropLast{xs:List V}{us:List Value}(h:Vals xs us):Vals xs.dropLast us.dropLast:=by
 induction h with
 | nil=>exact .nil
 | cons r t ih =>
  cases t with
  | nil=>exact .nil
  | cons q t'=>exact .cons r ih
theorem Vals.eraseIdx:∀ {xs:List V} {us:List Value} (i:Nat),Vals xs us->Vals (xs.eraseIdx i) (us.eraseIdx i)
 | _,_,_,.nil=>.nil
 | _,_,0,.cons _ t=>t
 | _,_,i+1,.cons r t=>.cons r (Vals.eraseIdx i t)
theorem Vals.reverse{xs:List V}{us:List Value}(h:Vals xs us):Vals xs.reverse us.reverse:=by
 induction h with
 | nil=>exact .nil
 | cons r t ih=>rw [List.reverse_cons,List.reverse_cons]; exact Vals.append ih (.cons r .nil)
theorem Vals.rep{xs:List V}{us:List Value}(h:Vals xs us):∀ k:Nat,Vals (List.replicate k xs).flatten (List.replicate k us).flatten
 | 0=>.nil
 | k+1=>by
  rw [List.replicate_succ,List.replicate_succ,List.flatten_cons,List.flatten_cons]
  exact Vals.append h (Vals.rep h k)
theorem d9j{α:Type}(l:List α):l.eraseIdx (l.length - 1)=l.dropLast:=by
 induction l with
 | nil=>rfl
 | cons a r ih =>
  cases r with
  | nil=>rfl
  | cons b r =>
   have e:(a :: b :: r).length - 1=((b :: r).length - 1)+1:=by
    have h1:(a :: b :: r).length=r.length+2:=rfl
    have h2:(b :: r).length=r.length+1:=rfl
    omega
   rw [e,List.eraseIdx_cons_succ,ih]
   all_goals rfl
theorem d2n{α:Type}:∀ (l:List α) (i:Nat),(l.eraseIdx i).length<=l.length
 | [],_=>Nat.le_refl _
 | _ :: _,0=>Nat.le_succ _
 | _ :: r,i+1=>Nat.succ_le_succ (d2n r i)
theorem foldl_rep(its:List Value):∀ (k:Nat) (acc:List Value),
  List.foldl (fun x1 x2=>x1++x2) acc.toArray (List.replicate k its.toArray)=(acc++(List.replicate k its).flatten).toArray
 | 0,acc=>by simp
 | k+1,acc=>by
  have e:acc.toArray++its.toArray=(acc++its).toArray:=by simp
  have e2:(acc++its)++(List.replicate k its).flatten=acc++(List.replicate (k+1) its).flatten:=by
   rw [List.replicate_succ,List.flatten_cons,List.append_assoc]
  rw [<- e2,<- foldl_rep its k (acc++its),<- e,List.replicate_succ,List.foldl_cons]
section
variable {X:Cx}{pins:List (Addr×Obj)}{σ:St}{H:Hp}{s:Shared}{l b:Addr}{xs ys zs:List V}
theorem Inv.g9w{its its':List Value}{n:Nat}{f:Array Value->Array Value}{t':Nat}(I:Inv X pins σ H s)(hH:H l=some (.lst xs))
  (e : s.heap.get? l = some { cls := .type "list", data := .seq its.toArray n }) (hf : f its.toArray = its'.toArray) (hv : Vals ys its') (hz : ys.length ≤ sizeLine) :
  Inv X pins σ (upd H l (.lst ys)) { s with heap:=s.heap.update l (Obj.mapSeq f),toks:=t' }:=by
 have q:=PySem.IsL.update e f
 rw [hf] at q
 refine I.write (x:=l) (e:=l) (by rw [hH]; exact trivial) (.inl rfl) (fun b' u hb hu=>(Heap.get?_update_other s.heap (Obj.mapSeq f) (Ne.symm hb)).trans hu) ⟨_,q⟩ ?_
 exact⟨hz,its',_,hv,q⟩
theorem Inv.h2u{its:List Value}{t':Nat}(I:Inv X pins σ H s)(hv:Vals ys its)(hz:ys.length<=sizeLine) :
  Inv X pins σ (upd H s.heap.objs.size (.lst ys)) { s with heap := s.heap.push { cls := .type "list", data := .seq its.toArray }, toks := t' } :=
 I.laid (fun _ _ q=>Heap.get?_push_of_some _ q) (Nat.le_refl _) ⟨hz,its,0,hv,Heap.get?_push_size _ rfl⟩
theorem Inv.fresh(I:Inv X pins σ H s):H s.heap.objs.size=none:=I.hok.fresh (Nat.le_refl _)
theorem Inv.g1y (I : Inv X pins σ H s) (hH : H l = some (.lst xs)) : xs.length ≤ sizeLine ∧ ∃ (its : List Value) (n : Nat), Vals xs its ∧ xs.length = its.length ∧ s.heap.get? l = some { cls := .type "list", data := .seq its.toArray n } := by
 obtain⟨z,its,n,r,e⟩:=I.hok l _ hH
 exact⟨z,its,n,r,r.length,e⟩
theorem f6u{n:Nat}(h:n<=sizeLine):Builtin.List.listTooLong n=false:=by
 unfold Builtin.List.listTooLong
 exact decide_eq_false (by omega)
end
section
variable {X:Cx}
noncomputable def f2i:V->List V->Hp->VK->Prop:=fun x vs H Q=>∃ l xs y,x = .ref l/\vs = [y]/\H l=some (.lst xs)/\xs.length < sizeLine/\Q .non (upd H l (.lst (xs++[y])))
theorem c5n : MtM X "list.append" f2i := by
 intro pins s σ H x vs v us Q I rx rv h
 obtain⟨l,xs,y,rfl,rfl,hH,hz,q⟩:=h
 cases rx
 obtain⟨u,rfl,ru⟩:=rv.one
 obtain⟨z,its,n,r,hl,e⟩:=I.g1y hH
 refine call_meets F.slot_list_append ⟨_,e,rfl⟩ F.entry_list_append (F.args_list_append_2 _ _) (PySem.list_append l its.toArray n u (by rw [List.size_toArray]; omega)) ⟨e,?_⟩
 refine⟨.non,_,I.g9w (its':=its++[u]) hH e (by simp) (r.append (.cons ru .nil)) ?_,rfl,q⟩
 rw [List.length_append,List.length_singleton]
 omega
noncomputable def rPop:V->List V->Hp->VK->Prop:=fun x vs H Q=>∃ l xs y,x = .ref l/\vs = []/\H l=some (.lst xs)/\xs[xs.length - 1]? = some y/\Q y (upd H l (.lst xs.dropLast))
theorem g5r : MtM X "list.pop" rPop := by
 intro pins s σ H x vs v us Q I rx rv h
 obtain⟨l,xs,y,rfl,rfl,hH,hy,q⟩:=h
 cases rx
 have hus:=rv.zero
 subst hus
 obtain⟨z,its,n,r,hl,e⟩:=I.g1y hH
 obtain⟨u,hu,ru⟩:=r.get hy
 have hy':its.toArray[its.toArray.size - 1]? = some u:=by
  show its.toArray[its.length - 1]? = some u
  rw [<- Array.getElem?_toList,<- hl]
  exact hu
 refine call_meets F.slot_list_pop ⟨_,e,rfl⟩ F.entry_list_pop (F.args_list_pop_1 _) (MeetsSeq.list_pop_last l its.toArray n u hy' (by rw [List.size_toArray]; omega)) ⟨e,?_⟩
 refine⟨y,_,I.g9w (its':=its.dropLast) hH e ?_ r.dropLast ?_,ru,q⟩
 ·show its.toArray.eraseIdxIfInBounds (its.toArray.size - 1)=its.dropLast.toArray
  rw [List.size_toArray,List.eraseIdxIfInBounds_toArray,d9j]
 ·rw [List.length_dropLast]
  omega
noncomputable def g5s:V->List V->Hp->VK->Prop:=fun x vs H Q=>∃ l xs i k y,x = .ref l/\vs = [.int i]/\H l=some (.lst xs) /\ -(2 ^ 63)<=i/\i < 2 ^ 63/\seqIndex? i xs.length=some k/\xs[k]? = some y/\Q y (upd H l (.lst (xs.eraseIdx k)))
theorem f6v : MtM X "list.pop" g5s := by
 intro pins s σ H x vs v us Q I rx rv h
 obtain⟨l,xs,i,k,y,rfl,rfl,hH,h1,h2,hk,hy,q⟩:=h
 cases rx
 obtain⟨u,rfl,ru⟩:=rv.one
 obtain⟨t,rfl⟩:=ru
 obtain⟨z,its,n,r,hl,e⟩:=I.g1y hH
 obtain⟨w,hw,rw'⟩:=r.get hy
 refine call_meets F.slot_list_pop ⟨_,e,rfl⟩ F.entry_list_pop (F.args_list_pop_2 _ _)
  (MeetsSeq.list_pop_at l its.toArray n i t k w (fitsIndex_both h1 h2) (by rw [List.size_toArray,<- hl]; exact hk) (by rw [<- Array.getElem?_toList]; exact hw) (by rw [List.size_toArray]; omega)) ⟨e,?_⟩
 refine⟨y,_,I.g9w (its':=its.eraseIdx k) hH e ?_ (r.eraseIdx k) ?_,rw',q⟩
 ·show its.toArray.eraseIdxIfInBounds k=(its.eraseIdx k).toArray
  rw [List.eraseIdxIfInBounds_toArray]
 ·have:=d2n xs k
  omega
def rCat:R2:=fun x y H Q=>∃ l b xs zs,x = .ref l/\y = .ref b/\H l=some (.lst xs)/\H b=some (.lst zs)/\xs.length+zs.length<=sizeLine/\∀ p,H p=none->Q (.ref p) (upd H p (.lst (xs++zs)))
theorem g5t:OpR X (binaryOp .Add) rCat:=by
 intro pins s σ H x y v u Q I rx ry h
 obtain⟨l,b,xs,zs,rfl,rfl,hH,hB,hz,q⟩:=h
 cases rx
 cases ry
 obtain⟨z,its,n,r,hl,e⟩:=I.g1y hH
 obtain⟨z2,its2,n2,r2,hl2,e2⟩:=I.g1y hB
 refine PySem.P.add_list e e2 ?_ (by rw [List.size_toArray,List.size_toArray]; omega)
 have ea:its.toArray++its2.toArray=(its++its2).toArray:=by simp
 rw [ea]
 exact⟨.ref _,_,I.h2u (t':=s.toks) (r.append r2) (by rw [List.length_append]; omega),rfl,q _ I.fresh⟩
def rRep:R2:=fun x y H Q=>∃ l k xs,x = .ref l/\y = .int k/\H l=some (.lst xs) /\ -(2 ^ 63)<=k/\k < 2 ^ 63/\xs.length*k.toNat<=sizeLine /\
 ∀ p,H p=none->Q (.ref p) (upd H p (.lst (List.replicate k.toNat xs).flatten))
theorem len_rep{α:Type}(xs:List α)(k:Nat):(List.replicate k xs).flatten.length=k*xs.length:=by
 induction k with
 | zero=>simp
 | succ k ih=>rw [List.replicate_succ,List.flatten_cons,List.length_append,ih,Nat.succ_mul,Nat.add_comm]
theorem g5u:OpR X (binaryOp .Mult) rRep:=by
 intro pins s σ H x y v u Q I rx ry h
 obtain⟨l,k,xs,rfl,rfl,hH,h1,h2,hz,q⟩:=h
 cases rx
 obtain⟨t,rfl⟩:=ry
 obtain⟨z,its,n,r,hl,e⟩:=I.g1y hH
 have hlen:its.toArray.size*k.toNat<=sizeLine:=by rw [List.size_toArray,<- hl]; exact hz
 have hcap:¬ its.toArray.size*k.toNat > (2 ^ 63 - 1) / 8:=by
  have:(sizeLine:Nat)<=(2 ^ 63 - 1) / 8:=by decide
  omega
 have hfit:¬ (!Builtin.List.listFitsIndex k)=true:=by
  rw [fitsIndex_both h1 h2]
  exact Bool.false_ne_true
 have g9x:¬ Builtin.List.listTooLong (its.toArray.size*k.toNat)=true:=by
  rw [f6u hlen]
  exact Bool.false_ne_true
 have hnew:List.foldl (fun x1 x2=>x1++x2) #[] (List.replicate (if its.toArray.isEmpty=true then 0 else k.toNat) its.toArray)=(List.replicate k.toNat its).flatten.toArray:=by
  have f0:∀ m:Nat,List.foldl (fun x1 x2=>x1++x2) #[] (List.replicate m its.toArray)=(List.replicate m its).flatten.toArray:=fun m=>by
   have:=foldl_rep its m []
   rw [List.nil_append] at this
   exact this
  rw [f0]
  cases its with
  | nil=>simp
  | cons a r'=>rw [if_neg (by simp)]
 refine wpAny_binaryOp_repeat_ref (T := "list") (U := "int") (by decide) ⟨_, e, rfl⟩ (fun s' => typeIs_int s' k t) noFill_list_mul F.fills_int_mul F.slot_int_rmul repeat_list F.slot_int_index.lookup
  (call_meets F.slot_int_rmul (typeIs_int s k t) F.entry_int_rmul (F.args_int_rmul_2 _ _) (int___rmul___int_list k t l its.toArray n)
   ⟨e,rfl,⟨_,e,rfl⟩,call_meets F.slot_list_mul ⟨_,e,rfl⟩ F.entry_list_mul (F.args_list_mul_2 _ _) (AutoListH.list___mul___list_int_3 l its.toArray n k t hfit hcap g9x) ⟨e,?_⟩⟩)
 rw [hnew]
 exact⟨.ref _,_,I.h2u (t':=s.toks) (r.rep k.toNat) (by rw [len_rep,Nat.mul_comm]; exact hz),rfl,q _ I.fresh⟩
end
section
variable {prog:Program}{w:World}{A:Around}{E:Value->Shared->Prop}{s:Shared}
end
section
variable {X:Cx}
end
end L2
namespace Att
open PySem PySem.W PySem.Calls PyProof.Rows
theorem c5o{P:Params}{h:Heap}:∀ (ns:List Int) (vs:List Value),WellAll P h vs (ns.map WData.int)->IntsAre vs ns:=by
 intro ns
 induction ns with
 | nil =>
  intro vs w
  rw [List.map_nil] at w
  cases w
  exact .nil
 | cons n ns ih =>
  intro vs w
  rw [List.map_cons] at w
  cases w with
  | cons a b =>
   cases a
   exact .cons _ _ (ih _ b)
theorem f2j{l:OpenLaw}{n:Nat}(hn:l.most=some n){P:Params}{h:Heap}{args:List WData}{vals:List Value}
  (hpre:l.row.toRowW.claim.pre args=true) (hwl:WellAll P h vals args) :
  ∃ a vs ns, vals = [Value.ref a] ∧ args = [WData.list (ns.map WData.int)] ∧ h.get? a = some { cls := .type "list", data := .seq vs.toArray } ∧ IntsAre vs ns ∧ ns.length ≤ n := by
 have hsh:WShape.hasAll [] args [.list .int]=true:=(pre_splitW hpre).1
 have hc:l.pre.holds [] { args:=args }=true:=(pre_splitW hpre).2
 obtain⟨d,r,rfl,h1,h2⟩:=hasAllW_cons hsh
 obtain rfl:=hasAllW_nil h2
 obtain⟨xs,rfl,h3⟩:=hasW_list h1
 obtain⟨ns,rfl⟩:=items_int h3
 have hlen:ns.length<=n:=by
  unfold OpenLaw.pre at hc
  have h4:(WTm.not (.lt (.lit (.int (n:Int))) (.len (.arg 0)))).holds [] { args:=[.list (ns.map .int)] }=true:=by
   have h4:=(holds_andW hc).1
   rw [hn] at h4
   exact h4
  have h5:=condW_of h4 (w_not (w_lt w_lit (w_len_list (w_arg rfl))))
  rw [List.length_map] at h5
  refine Nat.le_of_not_lt fun q=>?_
  have q':(n:Int) < ((ns.length:Nat):Int):=by omega
  first
   | (rw [decide_eq_true q'] at h5; exact absurd h5 (by decide))
   | (simp at h5; omega)
 cases hwl with
 | cons w1 w2 =>
  cases w2
  cases w1 with
  | list ho hall=>exact⟨_,_,ns,rfl,rfl,ho,c5o ns _ hall,hlen⟩
theorem f2k(l:OpenLaw)(args:List WData):l.row.toRowW.claim.post args (.bool true) args=true :=
 postW_of (r:=l.row.toRowW) (X:=(true == true))
  (show WShape.has [] (.bool true) .bool=true by first | rfl | decide | simp [WShape.has,WShape.arms,WShape.armsAll])
  (show (WTm.eq .res (.lit (.bool true))).value [] { args:=args,res:=some (.bool true),after:=args }=some (.bool (true == true)) from w_eq_bool (w_res rfl) w_lit) rfl
section
variable {prog:Program}{w:World}{A:Around}{E:Value->Shared->Prop}{s:Shared}{K:Frag}
end
end Att
namespace L2
open PySem PySem.Spec PyProof.Rows
theorem d2o:∀ {vs:List Value} {ns:List Int},IntsAre vs ns->Vals (ns.map V.int) vs
 | _,_,.nil=>.nil
 | _,_,.cons n t h=>.cons ⟨t,rfl⟩ (d2o h)
def Only(H:Hp):Prop:=∀ b,H b=none\/∃ o xs,H b=some (.frz o (.lst xs))
theorem f6w{P:Program}{w:World}{K:PySem.W.Frag}{mg mb:Str->Option Value}{CX:CXT}{k:Nat}{fa a:Addr}{fd:FuncData}{x:Str}{sp:Sp}{s₁:Shared}{vs:List Value}{ns:List Int}
  (KX : K.In s₁.heap) (hns : s₁.heap.Ns mainGlobals mg) (hb : s₁.heap.Ns builtinsNs mb) (hbb : ∀ x : Str, x ≠ "__name__" → mb x = bootBuiltins x) (hlim : s₁.heap.NoLimit) (hg : s₁.gens = #[])
  (ha : s₁.heap.get? a = some { cls := .type "list", data := .seq vs.toArray }) (hi : IntsAre vs ns) (hl : ns.length ≤ sizeLine) (hr : a4w k callerA)
  (F:∀ base:Heap,K.In base->base.Ns mainGlobals mg->a2t P w K mg base CX k fa fd [x] sp) (hbind:∀ (s:Shared) (u:Value),BindsTo s fd ⟨[u],[]⟩ [(x,u)])
  (hsp:∀ H:Hp,Only H->SqL K H a (ns.map V.int)->sp [.ref a] H (fun v _=>v = .bl true) fun _ _ _=>False)
  (hCX:∀ H e s',CX [] H s₁ (fun _ _ _=>False) e s'->False) :
  codeAny (model P w) callerA (.call (.ref fa) ⟨[.ref a],[]⟩) (fun r s'=>r = .ok (.ret (.bool true))/\OldK s₁.heap s'.heap/\s'.os=s₁.os/\AllBare s'.gens) s₁:=by
 have rv:=d2o hi
 have lenV:=hi.length
 -- from an abstract heap in which nothing but the script may be tracked
 have core:∀ H:Hp,Only H->SqL K H a (ns.map V.int)->HOk P w H s₁.heap->(∀ b,H b≠none->b=a)->(H a≠none->K.lookup a=none) ->
   codeAny (model P w) callerA (.call (.ref fa) ⟨[.ref a],[]⟩) (fun r s'=>r = .ok (.ret (.bool true))/\OldK s₁.heap s'.heap/\s'.os=s₁.os/\AllBare s'.gens) s₁:=by
  intro H hO hS hok hA hK
  have f2l:∀ {b:Addr} {o:Obj},s₁.heap.get? b=some o->H b=none->(f6j s₁.heap H).get? b=some o:=fun e n=>f6k e n
  have noA:∀ {b:Addr} {o:Obj} {es:Array DictEntry} {ep:Nat},s₁.heap.get? b=some o->o.data = .dict es ep->H b=none:=fun {b o es ep} e d=>by
   cases q:H b with
   | none=>rfl
   | some u =>
    have e':b=a:=hA b (by rw [q]; simp)
    subst e'
    rw [ha] at e; cases e
    have d':Data.seq vs.toArray _=Data.dict es ep:=d
    cases d'
  have nsK:∀ {b:Addr} {m:Str->Option Value},s₁.heap.Ns b m->(f6j s₁.heap H).Ns b m:=fun {b m} ⟨o,es,ep,e,d,r⟩=>⟨o,es,ep,f2l e (noA e d),d,r⟩
  have hKb:K.In (f6j s₁.heap H):=fun b o e=>f2l (KX b o e) (by
   cases q:H b with
   | none=>rfl
   | some u =>
    have e':b=a:=hA b (by rw [q]; simp)
    subst e'
    rw [hK (by rw [q]; simp)] at e; cases e)
  have hM:Mod K mg (f6j s₁.heap H):=⟨hKb,nsK hns,⟨mb,nsK hb,hbb⟩,let ⟨mc,h1,h2⟩:=hlim; ⟨mc,nsK h1,h2⟩⟩
  have e0:g0a P w K mg (f6j s₁.heap H) callerA [] s₁ H:=⟨rfl,hM,fun b o e=>g1k e,Nat.le_of_eq (f1i _ _),trivial,fun b hb=>absurd (show b∈([] : List Addr) from hb) (by simp),hok,.of_eq hg⟩
  refine codeAny_mono ((F _ hKb (nsK hns)).run callerA [] s₁ H ⟨[.ref a],[]⟩ [.ref a] [.ref a] _ _ hr e0 (hbind s₁ (.ref a)) (.cons rfl .nil) (hsp H hO hS)) fun r s' h=>?_
  cases r with
  | error e=>exact (hCX H e s' h).elim
  | ok fl =>
   cases fl with
   | next=>exact False.elim h
   | brk=>exact False.elim h
   | cont=>exact False.elim h
   | ret u =>
    obtain⟨v,H',os,bare,un,hok',r',q⟩:=h
    have q':v = .bl true:=q
    subst q'
    obtain rfl:u=Value.bool true:=r'
    refine⟨rfl,OldK.of_keep fun b o e=>?_,os,bare⟩
    cases q:H b with
    | none=>exact un.keep b o e q (by intro z; exact absurd (show b∈([] : List Addr) from z) (by simp)) (by simp)
    | some u =>
     rcases hO b with z | ⟨ob,xs,z⟩
     ·rw [q] at z; cases z
     ·have z2:=un.d1s b ob _ z
      obtain⟨e1,_⟩:=hok b _ z
      obtain⟨e2,_⟩:=hok' b _ z2
      rw [e] at e1; cases e1
      exact e2
 cases hk:K.lookup a with
 | some o =>
  -- the script is one of the module's own objects
  have e:=KX a o hk
  rw [ha] at e
  cases e
  refine core (fun _=>none) (fun _=>.inl rfl) (.inr ⟨_,vs.toArray,_,hk,rfl,rfl,rfl,by rw [List.size_toArray,lenV]; exact hl,by simpa using rv⟩) (fun b u z=>by have z':(none:Option HO)=some u:=z; cases z') (fun b z=>absurd rfl z) fun z=>absurd rfl z
 | none =>
  refine core (fun b => if b = a then some (.frz { cls := .type "list", data := .seq vs.toArray } (.lst (ns.map V.int))) else none) (fun b => ?_) (.inl (.inr ⟨{ cls := .type "list", data := .seq vs.toArray }, if_pos rfl⟩)) (fun b u z => ?_) (fun b z => ?_) fun _ => hk
  ·by_cases hb:b=a
   ·exact .inr ⟨_,_,if_pos hb⟩
   ·exact .inl (if_neg hb)
  ·by_cases hb:b=a
   ·have z':=(if_pos hb).symm.trans z
    cases z'
    subst hb
    exact⟨ha,by rw [List.length_map]; exact hl,vs,_,rv,ha⟩
   ·have z':=(if_neg hb).symm.trans z
    cases z'
  ·by_cases hb:b=a
   ·exact hb
   ·exact absurd (if_neg hb) z
end L2
namespace L2
open PySem PySem.Spec PyProof.Rows
end L2
/- THE LAST THEOREM (shape; LID,My.* are yours):
  My.Adr: a structure of the addresses that your layer names (classes,functions); My.Txt K t: a structure (Prop) of the equations over K;
  My.txt_mk : {K} {implicit addresses ..} (e1 : nsIn K mainGlobals "law" = some (some (.ref f))) (e2 : K.lookup f = some ⟨oc, od, .func (fnOf "law" "law" params body scope dV kV doc pm an cdv ct), sl⟩) (e3 : codeIn K cdv "law" = true) .. : ∃ t, My.Txt K t
(the tactic k_is has no namespace: write k_is) -/
namespace L2
open PySem PySem.Spec PyProof.Rows
noncomputable def inClass(s:Stmt)(j:Nat):Stmt:=match s with
 | .ClassDef _ _ _ body _ _ _ _ _ _ _=>body.getD j (.Pass ⟨0,0,0,0⟩)
 | _=>.Pass ⟨0,0,0,0⟩
noncomputable def c8s(s:Stmt):Arguments:=match s with
 | .FunctionDef _ a _ _ _ _ _ _ _ _=>a
 | _=>{ posonlyargs:=[],args:=[],vararg:=none,kwonlyargs:=[],kw_defaults:=[],kwarg:=none,defaults:=[] }
noncomputable def c2y(s:Stmt):List Stmt:=match s with
 | .FunctionDef _ _ b _ _ _ _ _ _ _=>b
 | _=>[]
noncomputable def a0o(s:Stmt):Scope:=match s with
 | .FunctionDef _ _ _ _ _ _ sc _ _ _=>sc
 | _=>{ kind:=.function,names:=[],isGenerator:=false,isCoroutine:=false }
noncomputable abbrev CX0:CXT:=fun _ _ _ _ _ _=>False
abbrev E0:XK:=fun _ _ _=>False
theorem a4y{X:Cx}:Passes CX0 X E0:=fun _ _ _ _ _ _ _ h=>h.elim
structure Fun(K:PySem.W.Frag)(x qual:Str)(st:Stmt)(f:Addr)(fd:FuncData):Prop where
 ex:∃ (oc:Value) (od:Option Addr) (kV doc pm:Value) (an:Option Addr) (cdv ct:Value) (osl:Array (Option Value)),
  fd=PySem.W.fnOf x qual (c8s st) (c2y st) (a0o st) .none kV doc pm an cdv ct/\K.lookup f=some ⟨oc,od,.func fd,osl⟩/\PySem.W.codeIn K cdv qual=true
 kp:PySem.W.keepIn K (.ref f)=true
section
variable {P:Program}{w:World}{K:PySem.W.Frag}{mg:Str->Option Value}{base:Heap}
theorem Fun.ok{x qual:Str}{st:Stmt}{f:Addr}{fd:FuncData}{N ps:List Str}{k:Nat}{sp:Sp}(F:Fun K x qual st f fd)(S:a0u N ps (a0o st))(len:∀ vs H Q E,sp vs H Q E->vs.length=ps.length)
  (hbody:∀ (cdv:Value) (A:Around) (outer:List Env) (s:Shared) (H:Hp) (vs:List V) (Q:VK) (E:XK),a4w k (A.deeper (envOfC qual (a0o st) s.heap.objs.size f cdv))->sp vs H Q E ->
   ∃ t,PSs (f6t CX0 P w K mg base N qual (a0o st) f cdv A outer s H E).nox (c2y st) t/\t { nx:=fun _ H'=>Q .non H',rt:=Q } (start N vs) H):a2t P w K mg base CX0 (k+1) f fd ps sp:=by
 obtain⟨oc,od,kV,doc,pm,an,cdv,ct,osl,rfl,lk,hcd⟩:=F.ex
 refine g5m lk hcd S len fun A outer s H vs Q E hr hsp=>?_
 obtain⟨t,h,q⟩:=hbody cdv A outer s H vs Q E hr hsp
 exact⟨t,h.nox,q⟩
theorem Fun.binds{x qual:Str}{st:Stmt}{f:Addr}{fd:FuncData}{ps:List Str}(F:Fun K x qual st f fd)
  (h:∀ (kV doc pm:Value) (an:Option Addr) (cdv ct:Value) (us:List Value),us.length=ps.length->bindArgs (PySem.W.fnOf x qual (c8s st) (c2y st) (a0o st) .none kV doc pm an cdv ct) ⟨us,[]⟩=pure (ps.zip us)):Binds K fd ps []:=by
 obtain⟨oc,od,kV,doc,pm,an,cdv,ct,osl,rfl,lk,hcd⟩:=F.ex
 exact .all (h kV doc pm an cdv ct)
theorem a2n{x qual:Str}{st:Stmt}{f:Addr}{oc:Value}{od an:Option Addr}{osl:Array (Option Value)}{kV doc pm cdv ct:Value}(l:K.lookup f=some ⟨oc,od,.func (PySem.W.fnOf x qual (c8s st) (c2y st) (a0o st) .none kV doc pm an cdv ct),osl⟩)
  (c:PySem.W.codeIn K cdv qual=true) (k:PySem.W.keepIn K (.ref f)=true):Fun K x qual st f (PySem.W.fnOf x qual (c8s st) (c2y st) (a0o st) .none kV doc pm an cdv ct):=⟨⟨oc,od,kV,doc,pm,an,cdv,ct,osl,rfl,l,c⟩,k⟩
end
section
variable {X:Cx}
end
def Same(H H':Hp):Prop:=∀ b o,H b=some o->H' b=some o
theorem Same.refl(H:Hp):Same H H:=fun _ _ h=>h
theorem Same.trans{H H1 H2:Hp}(a:Same H H1)(b:Same H1 H2):Same H H2:=fun c o h=>b c o (a c o h)
theorem Same.free{H H':Hp}(e:Same H H'){l:Addr}(h:H' l=Option.none):H l=Option.none:=by
 cases q:H l with
 | none=>rfl
 | some o =>
  rw [e l o q] at h
  cases h
theorem Same.seq{K:PySem.W.Frag}{H H':Hp}{a:Addr}{xs:List V}(e:Same H H')(h:SqL K H a xs):SqL K H' a xs:=by
 rcases h with (h | ⟨o,h⟩) | h
 ·exact .inl (.inl (e _ _ h))
 ·exact .inl (.inr ⟨o,e _ _ h⟩)
 ·exact .inr h
end L2
namespace L2
open PySem PySem.Spec PyProof.Rows
section
variable {κ:Type}[DecidableEq κ]
noncomputable def c4s(kvs:List (κ×V))(k:κ):Option V:=(kvs.find? fun kv=>decide (kv.1=k)).map (·.2)
noncomputable def putK(kvs:List (κ×V))(k:κ)(v:V):List (κ×V) :=
 if (kvs.any fun kv=>decide (kv.1=k))=true then kvs.map (fun kv=>if kv.1=k then (kv.1,v) else kv) else kvs++[(k,v)]
noncomputable def dropK(kvs:List (κ×V))(k:κ):List (κ×V):=kvs.filter fun kv=>decide (kv.1≠k)
theorem c4t{p:κ×V}{r:List (κ×V)}{k:κ}(e:p.1=k):c4s (p :: r) k=some p.2:=by simp [c4s,List.find?_cons,e]
theorem c1q{p:κ×V}{r:List (κ×V)}{k:κ}(e:¬ p.1=k):c4s (p :: r) k=c4s r k:=by simp [c4s,List.find?_cons,e]
theorem c8t(k:κ):∀ kvs:List (κ×V),(kvs.any fun kv=>decide (kv.1=k))=(c4s kvs k).isSome
 | []=>rfl
 | p :: r=>by
  rw [List.any_cons]
  by_cases e:p.1=k
  ·simp only [c4t e,decide_eq_true e,Bool.true_or,Option.isSome_some]
  ·rw [c1q e,decide_eq_false e,Bool.false_or]; exact c8t k r
theorem c0s(kvs:List (κ×V))(k:κ)(v:V):(putK kvs k v).length<=kvs.length+1:=by
 unfold putK
 split
 ·rw [List.length_map]; omega
 ·rw [List.length_append,List.length_cons,List.length_nil]; omega
theorem f6y{kvs:List (κ×V)}{k:κ}(v:V)(h:c4s kvs k=none):putK kvs k v=kvs++[(k,v)]:=by
 unfold putK
 rw [c8t,h]
 exact if_neg (by decide)
theorem d1p.c5p{o:Option V}{u:Option Value}(r:d1p o u):o.isSome=u.isSome:=by
 cases o with
 | none=>cases u with
  | none=>rfl
  | some _=>exact (show False from r).elim
 | some _=>cases u with
  | none=>exact (show False from r).elim
  | some _=>rfl
theorem KV.val{kvs:List (κ×V)}{vs:List (κ×Value)}(r:KV kvs vs)(k:κ):d1p (c4s kvs k) (valueAt vs k):=by
 unfold KV at r
 induction r with
 | nil=>exact True.intro
 | @cons p q ps qs h t ih =>
  obtain⟨h1,h2⟩:=h
  by_cases e:p.1=k
  ·have e':q.1=k:=h1.symm.trans e
   have b:valueAt (q :: qs) k=some q.2:=by simp [valueAt,List.find?_cons,e']
   rw [c4t e,b]; exact h2
  ·have e':¬ q.1=k:=fun z=>e (h1.trans z)
   have b:valueAt (q :: qs) k=valueAt qs k:=by simp [valueAt,List.find?_cons,e']
   rw [c1q e,b]; exact ih
theorem KV.any{kvs:List (κ×V)}{vs:List (κ×Value)}(r:KV kvs vs)(k:κ):(kvs.any fun kv=>decide (kv.1=k))=vs.any fun kv=>decide (kv.1=k):=by
 unfold KV at r
 induction r with
 | nil=>rfl
 | cons h t ih=>rw [List.any_cons,List.any_cons,ih,h.1]
theorem KV.repl{kvs:List (κ×V)}{vs:List (κ×Value)}(r:KV kvs vs)(k:κ){y:V}{u:Value}(ry:RelV y u) :
  KV (kvs.map fun kv=>if kv.1=k then (kv.1,y) else kv) (vs.map fun kv=>if kv.1=k then (kv.1,u) else kv):=by
 unfold KV at r ⊢
 induction r with
 | nil=>exact .nil
 | @cons p q ps qs h t ih =>
  rw [List.map_cons,List.map_cons]
  refine .cons ?_ ih
  obtain⟨h1,h2⟩:=h
  by_cases e:p.1=k
  ·rw [if_pos e,if_pos (h1.symm.trans e)]; exact⟨h1,ry⟩
  ·rw [if_neg e,if_neg (fun z=>e (h1.trans z))]; exact⟨h1,h2⟩
theorem KV.put{kvs:List (κ×V)}{vs:List (κ×Value)}(r:KV kvs vs)(k:κ){y:V}{u:Value}(ry:RelV y u):KV (putK kvs k y) (stored vs k u):=by
 unfold putK stored
 rw [r.any k]
 by_cases e:(vs.any fun kv=>decide (kv.1=k))=true
 ·rw [if_pos e,if_pos e]; exact r.repl k ry
 ·rw [if_neg e,if_neg e]; exact Paired.snoc r ⟨rfl,ry⟩
theorem KV.length{kvs:List (κ×V)}{vs:List (κ×Value)}(r:KV kvs vs):kvs.length=vs.length:=Paired.length r
end
theorem f2m{P:Program}{w:World}{k:Key}{u:Value}(r:RelV (kV k) u):(a5w P w).is k u=true:=by
 cases k with
 | inl i=>obtain⟨t,e⟩:=(show ∃ t,u=Value.int i t from r); subst e; exact d4z P w i t
 | inr x=>obtain⟨t,e⟩:=(show ∃ t,u=Value.str x t from r); subst e; exact d5g P w x t
theorem d2p{P:Program}{w:World}:∀ {ks:List Key} {us:List Value},Vals (ks.map kV) us->ItemsAre (a5w P w) ks us
 | [],_,r=>by rw [List.map_nil] at r; cases r; exact .nil
 | k :: ks,_,r=>by
  rw [List.map_cons] at r
  cases r with
  | cons h t=>exact .cons (f2m h) (d2p t)
noncomputable abbrev KT(H:Hp):List (List Key×V)->List (List Key×Addr×Value)->Prop:=Paired fun p q=>p.1=q.1/\H q.2.1=some (.tup (p.1.map kV))/\RelV p.2 q.2.2
theorem KT.val{H:Hp}{kvs:List (List Key×V)}{xs:List (List Key×Addr×Value)}(r:KT H kvs xs)(k:List Key):d1p (c4s kvs k) ((atKey xs k).map (·.2)):=by
 induction r with
 | nil=>exact True.intro
 | @cons p q ps qs h t ih =>
  obtain⟨h1,_,h2⟩:=h
  by_cases e:p.1=k
  ·have e':q.1=k:=h1.symm.trans e
   have b:atKey (q :: qs) k=some q.2:=by simp [atKey,List.find?_cons,e']
   rw [c4t e,b]; exact h2
  ·have e':¬ q.1=k:=fun z=>e (h1.trans z)
   have b:atKey (q :: qs) k=atKey qs k:=by simp [atKey,List.find?_cons,e']
   rw [c1q e,b]; exact ih
theorem KT.repl{H:Hp}{kvs:List (List Key×V)}{xs:List (List Key×Addr×Value)}(r:KT H kvs xs)(k:List Key){y:V}{u:Value}(ry:RelV y u) :
  KT H (kvs.map fun kv=>if kv.1=k then (kv.1,y) else kv) (xs.map (putAt k u)):=by
 induction r with
 | nil=>exact .nil
 | @cons p q ps qs h t ih =>
  rw [List.map_cons,List.map_cons]
  refine .cons ?_ ih
  obtain⟨h1,h2,h3⟩:=h
  unfold putAt
  by_cases e:p.1=k
  ·rw [if_pos e,if_pos (h1.symm.trans e)]; exact⟨h1,h2,ry⟩
  ·rw [if_neg e,if_neg (fun z=>e (h1.trans z))]; exact⟨h1,h2,h3⟩
theorem KT.put{H:Hp}{kvs:List (List Key×V)}{xs:List (List Key×Addr×Value)}(r:KT H kvs xs)(k:List Key){b:Addr}{y:V}{u:Value}(hb:H b=some (.tup (k.map kV)))(ry:RelV y u) :
  KT H (putK kvs k y) (storedH xs k b u):=by
 have e:(kvs.any fun kv=>decide (kv.1=k))=(atKey xs k).isSome:=by
  rw [c8t,(r.val k).c5p,Option.isSome_map]
 unfold putK storedH
 rw [e]
 by_cases q:(atKey xs k).isSome=true
 ·rw [if_pos q,if_pos q]; exact r.repl k ry
 ·rw [if_neg q,if_neg q]; exact Paired.snoc r ⟨rfl,hb,ry⟩
theorem KT.keeps{H H':Hp}{kvs:List (List Key×V)}{xs:List (List Key×Addr×Value)}(r:KT H kvs xs)(ht:∀ b ys,H b=some (.tup ys)->H' b=some (.tup ys)):KT H' kvs xs :=
 Paired.g9j r fun _ _ z=>⟨z.1,ht _ _ z.2.1,z.2.2⟩
section
variable {P:Program}{w:World}{H:Hp}{h:Heap}{a:Addr}
theorem g5v{u:HO}(ok:HOk P w H h)(e:Rd H a u):a3g P w H h a u:=e.ok ok
theorem f6z{kvs:List (Key×V)}(ok:HOk P w H h)(e:Rd H a (.dK kvs)):kvs.length<=sizeLine/\(a == sysModules)=false/\∃ vs,KV kvs vs/\h.DictOf (a5w P w) a vs :=
 show a3g P w H h a (.dK kvs) from g5v ok e
theorem g5w{kvs:List (Key×V)}(ok:HOk P w H h)(e:H a=some (.dK kvs)):kvs.length<=sizeLine/\(a == sysModules)=false/\∃ vs,KV kvs vs/\h.DictOf (a5w P w) a vs:=f6z ok (.inl e)
theorem d7y{ks:List Key}(ok:HOk P w H h)(e:H a=some (.tup (ks.map kV))):(tupleKind (a5w P w)).is h ks a:=by
 obtain⟨_,its,r,o,h1,h2,n,h3⟩:=(show a3g P w H h a (.tup (ks.map kV)) from ok a _ e)
 exact⟨o,its.toArray,n,h1,h2,h3,by simpa using d2p r⟩
theorem f7g{kvs:List (List Key×V)}(ok:HOk P w H h)(e:Rd H a (.dT kvs)):kvs.length<=sizeLine/\(a == sysModules)=false /\
  ∃ xs,KT H kvs xs/\h.DictOfH (tupleKind (a5w P w)) a xs:=by
 obtain⟨z,y,xs,r,o,es,ep,h1,h2,h3,h4,h5⟩:=(show a3g P w H h a (.dT kvs) from g5v ok e)
 refine⟨z,y,xs,r,o,es,ep,h1,h2,h3,h4,fun x hx=>?_,h5⟩
 have all:∀ {l:List (List Key×V)} {m:List (List Key×Addr×Value)},KT H l m->∀ x∈m,(tupleKind (a5w P w)).is h x.1 x.2.1:=by
  intro l m q
  induction q with
  | nil=>intro x hx; exact nomatch hx
  | @cons p q ps qs hq t ih =>
   intro x hx
   rcases List.mem_cons.mp hx with e | hx
   ·subst e
    exact d7y ok (by rw [<- hq.1]; exact hq.2.1)
   ·exact ih x hx
 exact all r x hx
theorem g9y{kvs:List (List Key×V)}(ok:HOk P w H h)(e:H a=some (.dT kvs)):kvs.length<=sizeLine/\(a == sysModules)=false /\
  ∃ xs,KT H kvs xs/\h.DictOfH (tupleKind (a5w P w)) a xs:=f7g ok (.inl e)
end
def f2n(H:Hp)(a:Addr)(y:V)(r:Option V):Prop :=
 (∃ kvs k,Rd H a (.dK kvs)/\y=kV k/\r=c4s kvs k)\/∃ kvs k b,Rd H a (.dT kvs)/\y = .ref b/\H b=some (.tup (k.map kV))/\r=c4s kvs k
def g4h(H:Hp)(a:Addr)(y v:V)(H':Hp):Prop :=
 (∃ kvs k,H a=some (.dK kvs)/\y=kV k/\kvs.length < sizeLine/\H'=upd H a (.dK (putK kvs k v))) \/
 ∃ kvs k b,H a=some (.dT kvs)/\y = .ref b/\H b=some (.tup (k.map kV))/\kvs.length < sizeLine/\H'=upd H a (.dT (putK kvs k v))
theorem f2n.k{H:Hp}{a:Addr}{kvs:List (Key×V)}{k:Key}(e:H a=some (.dK kvs)):f2n H a (kV k) (c4s kvs k):=.inl ⟨kvs,k,.inl e,rfl,rfl⟩
theorem f2n.t{H:Hp}{a b:Addr}{kvs:List (List Key×V)}{k:List Key}(e:H a=some (.dT kvs))(eb:H b=some (.tup (k.map kV))):f2n H a (.ref b) (c4s kvs k):=.inr ⟨kvs,k,b,.inl e,rfl,eb,rfl⟩
theorem g4h.k{H:Hp}{a:Addr}{kvs:List (Key×V)}{k:Key}{v:V}(e:H a=some (.dK kvs))(hl:kvs.length < sizeLine):g4h H a (kV k) v (upd H a (.dK (putK kvs k v))):=.inl ⟨kvs,k,e,rfl,hl,rfl⟩
theorem g4h.t{H:Hp}{a b:Addr}{kvs:List (List Key×V)}{k:List Key}{v:V}(e:H a=some (.dT kvs))(eb:H b=some (.tup (k.map kV)))(hl:kvs.length < sizeLine) :
  g4h H a (.ref b) v (upd H a (.dT (putK kvs k v))):=.inr ⟨kvs,k,b,e,rfl,eb,hl,rfl⟩
section
variable {X:Cx}{pins:List (Addr×Obj)}{σ:St}{H:Hp}{s:Shared}{a:Addr}{y v:V}{u r:Value}{o:Option V}{A:Around}{E:Value->Shared->Prop}
theorem Inv.big(I:Inv X pins σ H s):sysModules < s.heap.objs.size:=by
 have h:mainGlobals < s.heap.objs.size:=(I.mod.glob.keeps I.bk).lt
 exact Nat.lt_trans (by decide) h
theorem f2o{Q:Value->Shared->Prop}(hu:A.units+1 < cLine)(I:Inv X pins σ H s)(g:f2n H a y (some v))(ry:RelV y u)(h:∀ w' s',Inv X pins σ H s'->RelV v w'->Q w' s') :
  wpAny (model X.prog X.w) A (getItem (.ref a) u) Q E s:=by
 rcases g with ⟨kvs,k,e,ey,l⟩ | ⟨kvs,k,b,e,ey,eb,l⟩
 ·subst ey
  obtain⟨z,hd,vs,rel,dd⟩:=f6z I.hok e
  obtain⟨w',hw,rw'⟩:=d1p.some_of (v:=v) (o:=valueAt vs k) (by rw [l]; exact rel.val k)
  exact wpAny_getItem_of (f2m ry) dd.mapOf hw (h w' _ (I.tok _) rw')
 ·subst ey
  cases (show u=Value.ref b from ry)
  obtain⟨z,hd,xs,rel,dd⟩:=f7g I.hok e
  obtain⟨w',hw,rw'⟩:=d1p.some_of (v:=v) (o:=(atKey xs k).map (·.2)) (by rw [l]; exact rel.val k)
  obtain⟨p,hp,hp2⟩:=Option.map_eq_some_iff.mp hw
  refine wpAny_getItem_heap (tupleKind_room_in1 hu) (d7y I.hok eb) dd hp ?_
  rw [hp2]
  exact h w' _ (I.tok _) rw'
theorem g1z{Q:Value->Shared->Prop}(hu:A.units+1 < cLine)(I:Inv X pins σ H s)(g:f2n H a y o)(ry:RelV y u)(h:∀ s',Inv X pins σ H s'->Q (.bool (!o.isSome)) s') :
  wpAny (model X.prog X.w) A (compareOp .NotIn u (.ref a)) Q E s:=by
 rcases g with ⟨kvs,k,e,ey,l⟩ | ⟨kvs,k,b,e,ey,eb,l⟩
 ·subst ey
  obtain⟨z,hd,vs,rel,dd⟩:=f6z I.hok e
  refine wpAny_notIn_of (f2m ry) hd dd.mapOf ?_
  rw [<- (rel.val k).c5p,<- l]
  exact h _ (I.tok _)
 ·subst ey
  cases (show u=Value.ref b from ry)
  obtain⟨z,hd,xs,rel,dd⟩:=f7g I.hok e
  refine wpAny_notIn_heap (tupleKind_room_in1 hu) (d7y I.hok eb) hd dd ?_
  have q:=(rel.val k).c5p
  rw [Option.isSome_map] at q
  rw [<- q,<- l]
  exact h _ (I.tok _)
theorem d5j{h':Heap}{t':Nat}{ob:HO}(I:Inv X pins σ H s)(mu:Mut (H a))(hs:Heap.SameBut a s.heap h')(he:∃ q,h'.get? a=some q)(new:a3g X.prog X.w (upd H a ob) h' a ob) :
  Inv X pins σ (upd H a ob) { s with heap:=h',toks:=t' } :=
 I.write (x:=a) (e:=a) mu (.inl rfl) (fun b q hb z=>(hs.2 b hb).trans z) he new
theorem g0d{P:Program}{w:World}{H':Hp}{h':Heap}{kvs:List (Key×V)}{vs:List (Key×Value)}(z:kvs.length<=sizeLine)(hd:(a == sysModules)=false)(rel:KV kvs vs)(dd:h'.DictOf (a5w P w) a vs) :
  a3g P w H' h' a (.dK kvs):=⟨z,hd,vs,rel,dd⟩
theorem f2p{H':Hp}{Q:Unit->Shared->Prop}(hu:A.units+1 < cLine)(I:Inv X pins σ H s)(g:g4h H a y v H')(ry:RelV y u)(rv:RelV v r)(h:∀ s',Inv X pins σ H' s'->Q () s') :
  wpAny (model X.prog X.w) A (setItem (.ref a) u r) Q E s:=by
 rcases g with ⟨kvs,k,e,ey,l,eH⟩ | ⟨kvs,k,b,e,ey,eb,l,eH⟩
 ·subst ey eH
  obtain⟨z,hd,vs,rel,dd⟩:=g5w I.hok e
  have hz:vs.length<=sizeLine:=by rw [<- rel.length]; exact z
  have hl:(putK kvs k v).length<=sizeLine:=by have:=c0s kvs k v; omega
  refine wpAny_setItem_pairs (hsz:=hz) (f2m ry) dd fun h' dd' hs=>h _ ?_
  have he:∃ q,h'.get? a=some q:=let ⟨q,_,_,hq,_⟩:=dd'; ⟨q,hq⟩
  exact d5j I (by rw [e]; exact True.intro) hs he (g0d hl hd (rel.put k rv) dd')
 ·subst ey eH
  cases (show u=Value.ref b from ry)
  obtain⟨z,hd,xs,rel,dd⟩:=g9y I.hok e
  have hz:xs.length<=sizeLine:=by rw [<- Paired.length rel]; exact z
  have hl:(putK kvs k v).length<=sizeLine:=by have:=c0s kvs k v; omega
  refine wpAny_setItem_heap (hsz:=hz) (tupleKind_room_in1 hu) (d7y I.hok eb) dd fun h' dd' hs=>h _ ?_
  obtain⟨q,es,ep,hq,h2,h3,h4,_,h5⟩:=dd'
  refine d5j I (by rw [e]; exact True.intro) hs ⟨q,hq⟩ ⟨hl,hd,_,(rel.put k eb rv).keeps fun c ys ec=>?_,q,es,ep,hq,h2,h3,h4,h5⟩
  rw [a1l (g9i ec e (fun z=>nomatch z))]
  exact ec
end
section
variable {X:Cx}{pins:List (Addr×Obj)}{σ:St}{H:Hp}{s:Shared}{a:Addr}{kvs:List (Key×V)}{k:Key}{u:Value}{A:Around}{E:Value->Shared->Prop}
end
def h2v(i:Expr):Prop:=∀ ov iv,subscripted i false ov iv=operate [ov,iv] (getItem ov iv)
theorem g2a{prog:Program}{w:World}{A:Around}{E:Value->Shared->Prop}{s:Shared}{env:Env}{value slice:Expr}{pos:Pos}{T id:String}{Q:Value->Shared->Prop}
  (hl : typeLookup (.type T) "__getitem__" = pure (some (.builtin id))) (hs : h2v slice)
  (h:wpAny (model prog w) A (eval value env) (fun o s₁=>wpAny (model prog w) A (eval slice env) (fun i s₂=>s₂.TypeIs o T/\wpAny (model prog w) A (getItem o i) Q E s₂) E s₁) E s) :
  wpAny (model prog w) A (eval (.Subscript value slice pos) env) Q E s:=by
 refine Subscript_ (wpAny_mono h (fun o s₁ h₁=>wpAny_mono h₁ (fun i s₂ h₂=>?_) fun _ _ x=>x) fun _ _ x=>x)
 obtain⟨hT,h₂⟩:=h₂
 unfold subscriptTail
 refine wpAny_bind ?_
 rw [getitemInPython_of_ne hT.not_modules]
 refine wpAny_bind (wpAny_specialOf hT hl ?_)
 have fin:wpAny (model prog w) A (subscripted slice false o i) (fun r s₃=>wpAny (model prog w) A (letTemporaryGo value o r >>= fun _=>pure r) Q E s₃) E s₂:=by
  rw [hs o i]
  exact wpAny_operating (wpAny_mono h₂ (fun r s₃ h₃=>wpAny_bind (wpAny_letTemporaryGo (wpAny_pure h₃))) fun _ _ x=>x)
 first
  | exact wpAny_pure (wpAny_bind fin)
  | exact wpAny_bind (wpAny_pure (wpAny_bind fin))
  | exact wpAny_bind fin
theorem d5k {X : Cx} {pins : List (Addr × Obj)} {σ : St} {H : Hp} {s : Shared} {a : Addr} {y : V} {o : Option V} (I : Inv X pins σ H s) (g : f2n H a y o) : s.TypeIs (.ref a) "dict" := by
 rcases g with ⟨kvs,k,e,_,_⟩ | ⟨kvs,k,b,e,_,_,_⟩
 ·obtain⟨_,_,vs,_,dd⟩:=f6z I.hok e
  exact dd.typeIs
 ·obtain⟨_,_,xs,_,dd⟩:=f7g I.hok e
  exact dd.typeIs
section
variable {X:Cx}{o i e value:Expr}{pos pos' tpos:Pos}{td ty tv:TE}
end
theorem f7h {P : Program} {w : World} {H : Hp} (h : Heap) (hb : sysModules < h.objs.size) : a3g P w H (h.push { cls := .type "dict", data := .dict #[] }) h.objs.size (.dK []) :=
 ⟨Nat.zero_le _,beq_eq_false_iff_ne.mpr (Ne.symm (Nat.ne_of_lt hb)),[],.nil,Heap.DictOf.new h⟩
section
variable {X:Cx}{pos:Pos}
end
noncomputable def g0e:List (TE×TE)->St->Hp->(List (V×V)->Hp->Prop)->Prop
 | [],_,H,Q=>Q [] H
 | (tk,tv) :: r,σ,H,Q=>tk σ H fun x H1=>tv σ H1 fun y H2=>g0e r σ H2 fun ps H3=>Q ((x,y) :: ps) H3
noncomputable abbrev VV:List (V×V)->List (Value×Value)->Prop:=Paired fun p q=>RelV p.1 q.1/\RelV p.2 q.2
def PPs(X:Cx)(pos:Pos)(keys:List (Option Expr))(values:List Expr)(trs:List (TE×TE)):Prop :=
 ∀ (pins:List (Addr×Obj)) (s:Shared) (σ:St) (H:Hp) (Q:List (V×V)->Hp->Prop),Inv X pins σ H s->g0e trs σ H Q ->
  wpAny (model X.prog X.w) X.A (evalPairs (pairTrees keys values X.env pos)) (fun vs s'=>∃ ps H',Inv X pins σ H' s'/\VV ps vs/\Q ps H') X.xe s
theorem g2b{X:Cx}{pos:Pos}:PPs X pos [] [] []:=fun pins s σ H Q I h=>pairTrees_nil_walk ⟨[],H,I,.nil,h⟩
theorem f7i{X:Cx}{pos:Pos}{k v:Expr}{ks:List (Option Expr)}{vs:List Expr}{tk tv:TE}{trs:List (TE×TE)}(hk:PE X k tk)(hv:PE X v tv)(hr:PPs X pos ks vs trs) :
  PPs X pos (some k :: ks) (v :: vs) ((tk,tv) :: trs):=fun pins s σ H Q I h =>
 pairTrees_cons_walk (thn (hk pins s σ H _ I h) fun u s1 ⟨x,H1,I1,rx,q1⟩=>thn (hv pins s1 σ H1 _ I1 q1) fun w2 s2 ⟨y,H2,I2,ry,q2⟩ =>
  thn (hr pins s2 σ H2 _ I2 q2) fun ws s3 ⟨ps,H3,I3,rel,q3⟩=>⟨(x,y) :: ps,H3,I3,.cons ⟨rx,ry⟩ rel,q3⟩)
noncomputable def d7z(kvs more:List (Key×V)):List (Key×V):=more.foldl (fun acc kv=>putK acc kv.1 kv.2) kvs
theorem KV.merge:∀ {more:List (Key×V)} {rs:List (Key×Value)} {kvs:List (Key×V)} {vs:List (Key×Value)},KV more rs->KV kvs vs->KV (d7z kvs more) (merged vs rs):=by
 intro more rs kvs vs r
 unfold KV at r
 induction r generalizing kvs vs with
 | nil=>intro q; exact q
 | @cons p q ps qs h t ih =>
  intro r0
  have e:KV (putK kvs p.1 p.2) (stored vs q.1 q.2):=by
   have:=r0.put p.1 h.2
   rw [<- h.1]; exact this
  exact ih e
theorem c1r:∀ (more kvs:List (Key×V)),(d7z kvs more).length<=kvs.length+more.length
 | [],kvs=>by show kvs.length<=kvs.length+0; omega
 | p :: r,kvs=>by
  have h1:=c1r r (putK kvs p.1 p.2)
  have h2:=c0s kvs p.1 p.2
  show (d7z (putK kvs p.1 p.2) r).length<=_
  rw [List.length_cons]; omega
theorem c7w{P:Program}{w:World}:∀ {kvs:List (Key×V)} {ws:List (Value×Value)},VV (kvs.map fun kv=>(kV kv.1,kv.2)) ws->∃ rs,Carries (a5w P w) ws rs/\KV kvs rs
 | [],_,r=>by rw [List.map_nil] at r; cases r; exact⟨[],True.intro,.nil⟩
 | p :: kvs,_,r=>by
  rw [List.map_cons] at r
  cases r with
  | @cons a b as bs h t =>
   obtain⟨rs,c,q⟩:=c7w (P:=P) (w:=w) t
   obtain⟨b1,b2⟩:=b
   exact⟨(p.1,b2) :: rs,⟨f2m h.1,rfl,c⟩,.cons ⟨rfl,h.2⟩ q⟩
structure M1(X:Cx)(o:Expr)(m:Str)(apos:Pos)(e:Expr)(cpos:Pos):Prop where
 base:attributeBase o m X.env (eval o X.env)=eval o X.env
 few:((backTo cpos (starEach [e] X.env)).all (fun x=>!x.1) && (backToKw cpos (keywordEach [] X.env)).all (fun x=>x.1.isSome)
  && decide (([e] : List Expr).length+([] : List Keyword).length+(if ([] : List Keyword).isEmpty then 0 else 1) < 30))=true
 line:(apos.endLine == cpos.line)=true
 trees:backTo cpos (starEach [e] X.env) = [(false,eval e X.env)]
structure M2(X:Cx)(o:Expr)(m:Str)(apos:Pos)(e f:Expr)(cpos:Pos):Prop where
 base:attributeBase o m X.env (eval o X.env)=eval o X.env
 few:((backTo cpos (starEach [e,f] X.env)).all (fun x=>!x.1) && (backToKw cpos (keywordEach [] X.env)).all (fun x=>x.1.isSome)
  && decide (([e,f] : List Expr).length+([] : List Keyword).length+(if ([] : List Keyword).isEmpty then 0 else 1) < 30))=true
 line:(apos.endLine == cpos.line)=true
 trees:backTo cpos (starEach [e,f] X.env) = [(false,eval e X.env),(false,eval f X.env)]
def IsD(H:Hp)(a:Addr):Prop:=(∃ kvs,Rd H a (.dK kvs))\/∃ kvs,Rd H a (.dT kvs)
section
variable {X:Cx}{pins:List (Addr×Obj)}{σ:St}{H:Hp}{s:Shared}{a:Addr}{y d:V}{u r:Value}{o:Option V}{A:Around}{E:Value->Shared->Prop}
end
section
variable {X:Cx}{o e f:Expr}{apos cpos:Pos}{td ty tx:TE}
end
section
variable {X:Cx}{pins:List (Addr×Obj)}{σ:St}{H:Hp}{s:Shared}{a:Addr}{kvs:List (Key×V)}{A:Around}{E:Value->Shared->Prop}
end
section
variable {X:Cx}{pins:List (Addr×Obj)}{σ:St}{H:Hp}{s:Shared}{a:Addr}{y:V}{u:Value}{A:Around}{E:Value->Shared->Prop}
end
section
variable {X:Cx}
end
section
variable {κ:Type}[DecidableEq κ]
end
end L2
namespace L2
open PySem PySem.Spec PyProof.Rows
open PySem.Builtin.Int (intBits)
section
variable {X:Cx}{a b c:Expr}{ta tb tc:TE}{pos:Pos}
theorem g2c:OpR X (binaryOp .Mult) (rI IntMulOk fun i j=>.int (i*j)):=opI fun _ _ _ _ _ _ _ hc q=>mul_int q hc
def CFd(i j:Int):Prop:=j≠0/\intBits j<=9000
theorem d5l{j:Int}(h:j≠0)(hb:intBits j<=9000):j.natAbs.log2 < 9000:=by
 have h1:=intBits_le_iff.mp hb
 exact (Nat.log2_lt (by omega)).mpr h1
theorem f7j:OpR X (binaryOp .FloorDiv) (rI CFd fun i j=>.int (i.fdiv j)):=opI fun i j _ _ _ _ _ hc q =>
 floordiv_int hc.1 q (.inl (PyProof.noPylong_of_log2 (d5l hc.1 hc.2)))
inductive Ty where
 | non | bl | int | str | lst | tup | dct
 deriving DecidableEq
noncomputable def Ty.nm:Ty->String
 | .non => "NoneType" | .bl => "bool" | .int => "int" | .str => "str" | .lst => "list" | .tup => "tuple" | .dct => "dict"
noncomputable def g0f(H:Hp):V->Option Ty
 | .non=>some .non
 | .bl _=>some .bl
 | .int _=>some .int
 | .str _=>some .str
 | .ref a=>match H a with
  | some (.lst _)=>some .lst
  | some (.frz _ (.lst _))=>some .lst
  | some (.tup _)=>some .tup
  | some (.dK _)=>some .dct
  | some (.dT _)=>some .dct
  | _=>none
 | _=>none
noncomputable def g0g(t T:Ty):Bool:=decide (t=T) || (decide (t = .bl) && decide (T = .int))
theorem g2d{K:PySem.W.Frag}{H:Hp}{x:V}{t:Ty}(h:g0f H x=some t):d9g K H x (.type t.nm):=by
 cases x with
 | non=>cases h; exact .non
 | bl b=>cases h; exact .bl b
 | int i=>cases h; exact .int i
 | str s=>cases h; exact .str s
 | byt b=>cases h
 | flt b=>cases h
 | ty n=>cases h
 | ref a =>
  unfold g0f at h
  cases e:H a with
  | none=>simp [e] at h
  | some o =>
   cases o with
   | lst xs=>simp [e] at h; subst h; exact .lst e
   | tup xs=>simp [e] at h; subst h; exact .tup e
   | dK kvs=>simp [e] at h; subst h; exact .dK e
   | dT kvs=>simp [e] at h; subst h; exact .dT e
   | frz ob u =>
    cases u with
    | lst xs=>simp [e] at h; subst h; exact .frz e
    | _=>simp [e] at h
   | _=>simp [e] at h
theorem g5x{K:PySem.W.Frag}(t T:Ty):PySem.W.kitOne K (.type t.nm) (.type T.nm)=some (g0g t T):=by
 cases t <;> cases T <;> rfl
noncomputable def rIsT(T:Ty):List V->Hp->VK->Prop:=fun xs H Q=>match xs with
 | [x,.ty n]=>n=T.nm/\∃ t,g0f H x=some t/\Q (.bl (g0g t T)) H
 | _=>False
theorem c4u (T : Ty) : b8n X (.builtin "isinstance") (rIsT T) := by
 intro pins s σ H xs us Q I r h
 match xs,r,h with
 | [x,.ty n],r,h =>
  obtain⟨rfl,t,ht,q⟩:=h
  obtain⟨u,v,rfl,r1,r2⟩:=vals2 r
  cases (show v=Value.type T.nm from r2)
  exact f1w I r1 (g2d ht) (g5x t T) fun tk=>⟨.bl _,H,I.tok tk,rfl,q⟩
mutual
inductive c7y(K:PySem.W.Frag)(H:Hp):V->PyData->Prop
 | non:c7y K H .non .none
 | bl (b:Bool):c7y K H (.bl b) (.bool b)
 | int (i:Int):c7y K H (.int i) (.int i)
 | str (x:Str):c7y K H (.str x) (.str x)
 | lst {a:Addr} {xs:List V} {ds:List PyData}:SqL K H a xs->b6v K H xs ds->c7y K H (.ref a) (.list ds)
 | tup {a:Addr} {xs:List V} {ds:List PyData}:SqT K H a xs->b6v K H xs ds->c7y K H (.ref a) (.tuple ds)
inductive b6v(K:PySem.W.Frag)(H:Hp):List V->List PyData->Prop
 | nil:b6v K H [] []
 | cons {x:V} {xs:List V} {d:PyData} {ds:List PyData}:c7y K H x d->b6v K H xs ds->b6v K H (x :: xs) (d :: ds)
end
section
variable {pins:List (Addr×Obj)}{σ:St}{H:Hp}{s:Shared}
mutual
theorem Inv.reads(I:Inv X pins σ H s):∀ {v:V} {d:PyData} {u:Value},c7y X.K H v d->RelV v u->∃ as,Reads s.heap u d as
 | _,_,_,.non,r=>by cases (show _=Value.none from r); exact⟨_,.none⟩
 | _,_,_,.bl b,r=>by cases (show _=Value.bool b from r); exact⟨_,.bool b⟩
 | _,_,_,.int i,r=>by obtain⟨t,rfl⟩:=r; exact⟨_,.int i t⟩
 | _,_,_,.str x,r=>by obtain⟨t,rfl⟩:=r; exact⟨_,.str x t⟩
 | _,_,_,.lst (a:=a) hs ha,r=>by
  cases (show _=Value.ref a from r)
  obtain⟨its,rv,⟨o,n,e,c,_,dd⟩,_⟩:=I.list hs
  obtain⟨as,q⟩:=Inv.readsAll I ha rv
  exact⟨_,.list e c dd (by simpa using q)⟩
 | _,_,_,.tup (a:=a) hs ha,r=>by
  cases (show _=Value.ref a from r)
  obtain⟨its,rv,⟨o,e,c,n,dd⟩,_⟩:=I.tuple hs
  obtain⟨as,q⟩:=Inv.readsAll I ha rv
  exact⟨_,.tuple e c dd (by simpa using q)⟩
theorem Inv.readsAll(I:Inv X pins σ H s):∀ {vs:List V} {ds:List PyData} {us:List Value},b6v X.K H vs ds->Vals vs us->∃ as,ReadsAll s.heap us ds as
 | _,_,_,.nil,.nil=>⟨_,.nil⟩
 | _,_,_,.cons h t,.cons r q=>by
  obtain⟨as,x⟩:=Inv.reads I h r
  obtain⟨bs,y⟩:=Inv.readsAll I t q
  exact⟨_,.cons x y⟩
end
end
def g5y(K:PySem.W.Frag):R2:=fun x y H Q=>∃ d e,c7y K H x d/\c7y K H y e/\SeqAt.shaped d=true/\SeqAt.shaped e=true/\Q (.bl (PyData.eqv d e)) H
def g5z(K:PySem.W.Frag):R2:=fun x y H Q=>∃ d e,c7y K H x d/\c7y K H y e/\SeqAt.shaped d=true/\SeqAt.shaped e=true/\Q (.bl (!PyData.eqv d e)) H
theorem g6a(hu:X.A.units+64 < cLine):OpR X (compareOp .Eq) (g5y X.K):=by
 intro pins s σ H x y v u Q I rx ry h
 obtain⟨d,e,hd,he,sd,se,q⟩:=h
 obtain⟨as,ra⟩:=I.reads hd rx
 obtain⟨bs,rb⟩:=I.reads he ry
 exact eq_dataH ra rb sd se hu ⟨.bl _,H,I,rfl,q⟩
theorem g6b(hu:X.A.units+64 < cLine):OpR X (compareOp .NotEq) (g5z X.K):=by
 intro pins s σ H x y v u Q I rx ry h
 obtain⟨d,e,hd,he,sd,se,q⟩:=h
 obtain⟨as,ra⟩:=I.reads hd rx
 obtain⟨bs,rb⟩:=I.reads he ry
 exact ne_dataH ra rb sd se hu ⟨.bl _,H,I,rfl,q⟩
end
noncomputable def Itr3(lo c:Int)(n:Nat):It:=⟨fun i _=>i < n,fun i H x H'=>H'=H/\x = .int (lo+i*c),fun i _=>n<=i⟩
noncomputable def rngN(lo hi c:Int):Nat:=(Builtin.Range.rangeSize lo hi c).toNat
section
variable {X:Cx}{tg:Expr}
end
def g8x(J:It)(g:TG)(tb:TS)(D:Ends)(σ:St)(H:Hp):Prop:=∃ W:Nat->Nat->St->Hp->Prop,(∃ m,W 0 m σ H)/\∀ i m σ H,W i m σ H ->
 (J.stop i H/\D.nx σ H)\/(J.go i H/\∃ N:St->Hp->Prop,(∀ σ' H',N σ' H'->∃ m',m' < m/\W (i+1) m' σ' H')/\∀ x H',J.yld i H x H'->g x σ H' fun σ2 H2=>tb { D with nx:=N,ct:=N,bk:=D.nx } σ2 H2)
def g9z(wi:TI)(g:TG)(tb:TS):TS:=fun D σ H=>wi σ H fun J H1=>g8x J g tb D σ H1
theorem b1h{X:Cx}{tg iter:Expr}{body:List Stmt}{wi:TI}{g:TG}{tb:TS}{pos:Pos}(hp:PassesOwn (model X.prog X.w) X.A X.env X.xe)(hc:X.calm=true)(hi:PI X tg iter wi)(hg:PG X tg g)(hb:PSs X body tb)
  (hs:∀ x,foldedSetIterable iter X.env x=pure x:=by intro _; rfl):PS X (.For tg iter body [] pos) (g9z wi g tb):=g5e hp hc hi hg hb hs
theorem c5q{K:PySem.W.Frag}{a:Addr}{xs:List V}{g:TG}{tb:TS}{D:Ends}{σ:St}{H:Hp}(Pv:Nat->St->Hp->Prop)(h0:Pv 0 σ H)(hl:∀ i σ H,i<=xs.length->Pv i σ H->SqL K H a xs)
  (hs:∀ i x σ H,xs[i]? = some x->Pv i σ H->g x σ H fun σ2 H2=>tb { D with nx:=Pv (i+1),ct:=Pv (i+1),bk:=D.nx } σ2 H2) (hd:∀ σ H,Pv xs.length σ H->D.nx σ H):g8x (Itl K a) g tb D σ H:=f6p Pv h0 hl hs hd
theorem a8p{lo:Int}{n:Nat}{g:TG}{tb:TS}{D:Ends}{σ:St}{H:Hp}(Pv:Nat->St->Hp->Prop)(h0:Pv 0 σ H)
  (hs:∀ i σ H,i < n->Pv i σ H->g (.int (lo+i)) σ H fun σ2 H2=>tb { D with nx:=Pv (i+1),ct:=Pv (i+1),bk:=D.nx } σ2 H2) (hd:∀ σ H,Pv n σ H->D.nx σ H):g8x (Itr lo n) g tb D σ H:=f1o Pv h0 hs hd
def g0h(c:TT)(tb:TS)(D:Ends)(σ:St)(H:Hp):Prop:=∃ W:Nat->St->Hp->Prop,(∃ m,W m σ H)/\∀ m σ H,W m σ H ->
 c σ H fun b H1=>if b=true then tb { D with nx:=fun σ' H'=>∃ m',m' < m/\W m' σ' H',ct:=fun σ' H'=>∃ m',m' < m/\W m' σ' H',bk:=D.nx } σ H1 else D.nx σ H1
def g2e(c:TT)(tb:TS):TS:=fun D σ H=>g0h c tb D σ H
theorem d2q{X:Cx}{c:Expr}{body:List Stmt}{tc:TT}{tb:TS}{pos:Pos}(hp:PassesOwn (model X.prog X.w) X.A X.env X.xe)(hc:PT X c tc)(hb:PSs X body tb):PS X (.While c body [] pos) (g2e tc tb):=by
 intro pins s σ H D I h
 obtain⟨W,⟨m0,w0⟩,turn⟩:=h
 refine wpAny_While (codeAny_whileLoop (fun n s'=>∃ σ' H',Inv X pins σ' H' s'/\W n σ' H') ?_ m0 ⟨σ,H,I,w0⟩)
 rintro n s1 ⟨σ1,H1,I1,w1⟩
 refine wpAny_passesOwn hp (thn (hc pins s1 σ1 H1 _ I1 (turn n σ1 H1 w1)) fun b s2 ⟨H2,I2,q2⟩=>?_)
 cases b with
 | true =>
  rw [if_pos rfl]
  refine wpAny_passesOwn hp (thn (hb pins s2 σ1 H2 _ I2 q2) fun f s3 q3=>?_)
  cases f with
  | next =>
   obtain⟨σ3,H3,I3,m',hm,w3⟩:=q3
   exact⟨m',hm,σ3,H3,I3,w3⟩
  | cont =>
   obtain⟨σ3,H3,I3,m',hm,w3⟩:=q3
   exact⟨m',hm,σ3,H3,I3,w3⟩
  | brk=>exact q3
  | ret v=>exact q3
 | false =>
  rw [if_neg Bool.false_ne_true]
  exact wpAny_execs_nil ⟨σ1,H2,I2,q2⟩
theorem d2r{c:TT}{tb:TS}{D:Ends}{σ:St}{H:Hp}(Pv:Nat->St->Hp->Prop)(m0:Nat)(h0:Pv m0 σ H)
  (hs:∀ m σ H,Pv m σ H->c σ H fun b H1=>if b=true then tb { D with nx:=fun σ' H'=>∃ m',m' < m/\Pv m' σ' H',ct:=fun σ' H'=>∃ m',m' < m/\Pv m' σ' H',bk:=D.nx } σ H1 else D.nx σ H1):g0h c tb D σ H :=
 ⟨Pv,⟨m0,h0⟩,hs⟩
end L2
namespace Att
open PySem PySem.W PySem.Calls PyProof.Rows
open PySem.Builtin.Int (intBits)
theorem d5m{ns:List Int}(h:WData.layableAll [WData.list (ns.map WData.int)]=true):∀ n∈ns,intBits n<=1048576:=by
 intro n hn
 have h1:=layableW_arg h _ (List.mem_singleton.mpr rfl)
 have h2:=layableW_item h1 (WData.int n) (List.mem_map.mpr ⟨n,hn,rfl⟩)
 have h3:=(layableW_iff.mp h2).2.2
 exact h3
theorem d2s{l:OpenLaw}{n:Nat}{q:Program}{loose:List Str}{XP:(Str->Option Value)->Heap->Prop}{YP:World->Heap->Prop}{d:DefRec}
  (hn:l.most=some n) (hdf:d.params.defaults = [])
  (call:∀ (w:World) (s₀ s₁:Shared) (mg mb:Str->Option Value) (fa:Addr) (o:Obj) (pm cd doc:Value) (a:Addr) (vs:List Value) (ns:List Int),
   Ground q loose [] XP w s₀ mg mb s₁.heap->YP w s₁.heap ->
   s₁.heap.get? fa=some o->o.data = .func (docDef d.name d.params d.body d.scope pm cd doc)->s₁.heap.CodeRec cd d.name->mg d.name=some (.ref fa) ->
   s₁.heap.get? a = some { cls := .type "list", data := .seq vs.toArray } → IntsAre vs ns → ns.length ≤ n → (∀ x ∈ ns, intBits x ≤ 1048576) → s₁.gens = #[] →
   codeAny (model l.prog w) callerA (.call (.ref fa) ⟨[.ref a],[]⟩) (fun r s'=>r = .ok (.ret (.bool true))/\OldK s₁.heap s'.heap/\s'.os=s₁.os/\AllBare s'.gens) s₁) :
  WalkO q loose XP YP l.row.toRowW d [] (fun f vs=>PySem.call f vs):=by
 intro w s₀ s₁ mg mb G Y fa o pm cd doc dV kV ho hd hcd hD hmg hg args vals as hpre hlay hrd hwl hlo
 obtain rfl:dV = .none:=Dflts.none hD hdf
 obtain rfl:kV = .none:=Dflts.noKw hD
 obtain⟨a,vs,ns,rfl,rfl,hobj,hints,hlen⟩:=f2j hn hpre hwl
 refine enter_call (codeAny_mono (call w s₀ s₁ mg mb fa o pm cd doc a vs ns G Y ho (fd_plain hd) hcd hmg hobj hints hlen (d5m hlay) hg) fun r s' hq=>?_)
 obtain⟨rfl,h2,h3,h4⟩:=hq
 exact⟨.inl ⟨.bool true,.bool true,[],rfl,fun _=>rfl,.bool true,f2k l _,fun _=>⟨List.Pairwise.nil,fun _ hm=>(nomatch hm)⟩⟩,h2,h3,h4⟩
end Att
namespace L2
open PySem PySem.Spec PyProof.Rows
open PySem.Builtin.Int (intBits)
def d5n(n:Nat)(K:PySem.W.Frag):Sp:=fun vs H Q _=>∃ (a:Addr) (ns:List Int),vs = [.ref a]/\SqL K H a (ns.map V.int)/\ns.length<=n/\(∀ x∈ns,intBits x<=1048576)/\Only H/\∀ H',Q (.bl true) H'
theorem f7k{l:PySem.W.OpenLaw}{k:Nat}{q:Program}{loose:List Str}{XP:(Str->Option Value)->Heap->Prop}{YP:World->Heap->Prop}{d:DefRec}{K:Params->PySem.W.Frag}{CX:World->CXT}{x:Str}
  (hn:l.most=some 63) (hdf:d.params.defaults = []) (hr:a4w k callerA)
  (hY:∀ (w:World) (h:Heap),YP w h->(K w.params).In h)
  (F:∀ (w:World) (mg:Str->Option Value) (fa:Addr) (h:Heap),(K w.params).In h->h.Ns mainGlobals mg->mg d.name=some (.ref fa) ->
   ∃ fd:FuncData,(∀ (s:Shared) (u:Value),BindsTo s fd ⟨[u],[]⟩ [(x,u)]) /\
    ∀ base:Heap,(K w.params).In base->base.Ns mainGlobals mg->a2t l.prog w (K w.params) mg base (CX w) k fa fd [x] (d5n 63 (K w.params)))
  (hCX:∀ (w:World) (H:Hp) (s:Shared) (e:Value) (s':Shared),CX w [] H s (fun _ _ _=>False) e s'->False) :
  PySem.W.WalkO q loose XP YP l.row.toRowW d [] (fun f vs=>PySem.call f vs):=by
 refine Att.d2s hn hdf fun w s₀ s₁ mg mb fa o pm cd doc a vs ns G Y ho hd hcd hmg hobj hints hlen hbits hg=>?_
 have KX:=hY w _ Y
 obtain⟨fd,hb,hF⟩:=F w mg fa _ KX G.T.g hmg
 exact f6w KX G.T.g G.T.b G.T.builtins G.T.nolimit hg hobj hints (Nat.le_trans hlen (by decide)) hr hF hb (fun H hO hS=>⟨a,ns,rfl,hS,hlen,hbits,hO,fun _=>rfl⟩) fun H e s'=>hCX w H s₁ e s'
end L2
namespace L2
open PySem PySem.Spec PyProof.Rows
theorem Same.upd{H:Hp}{p:Addr}{o:HO}(h:H p=none):Same H (upd H p o):=fun b u e=>by
 rw [a1l (a2r e h)]; exact e
structure Tag{α:Type}(a:α):Type where
def New(H:Hp)(o:HO)(Q:VK)(_:Tag Q):Prop:=∀ p H1,H p=none->Same H H1->H1 p=some o->Q (.ref p) H1
def All(C:V->Hp->Prop)(Q:VK)(_:Tag C)(_:Tag Q):Prop:=∀ v H1,C v H1->Q v H1
theorem New.raw{H:Hp}{o:HO}{Q:VK}{t:Tag Q}(h:New H o Q t):∀ p,H p=none->Q (.ref p) (L2.upd H p o):=fun p e=>h p _ e (Same.upd e) a1k
theorem h2w{CX:CXT}{P:Program}{w:World}{K:PySem.W.Frag}{mg:Str->Option Value}{base:Heap}{N:List Str}{qual:Str}{scope:Scope}{f:Addr}{cd:Value}{A:Around}{outer:List Env}{s:Shared}{H:Hp}{E:XK}:(f6t CX P w K mg base N qual scope f cd A outer s H E).K=K:=rfl
section
variable {X:Cx}{es:List Expr}{t:TA}{pos:Pos}
def h0a(t:TA):TE:=fun σ H Q=>t σ H fun xs H1=>xs.length<=sizeLine/\New H1 (.tup xs) Q ⟨⟩
def h0b(t:TA):TE:=fun σ H Q=>t σ H fun xs H1=>xs.length<=sizeLine/\New H1 (.lst xs) Q ⟨⟩
end
section
variable {X:Cx}{a b c:Expr}{ta tb tc:TE}{pos:Pos}
def h0c:R2:=fun x y H Q=>match x,y with
 | .int i,.int j=>Q (.int (i+j)) H
 | .str u,.str v=>u.length+v.length<=sizeLine/\Q (.str (u++v)) H
 | .ref l,.ref b=>∃ xs zs,H l=some (.lst xs)/\H b=some (.lst zs)/\xs.length+zs.length<=sizeLine/\New H (.lst (xs++zs)) Q ⟨⟩
 | _,_=>False
theorem b1i:OpR X (binaryOp .Add) h0c:=by
 intro pins s σ H x y v u Q I rx ry h
 cases x <;> cases y <;> first
  | exact False.elim h
  | exact g5f pins s σ H _ _ v u Q I rx ry ⟨_,_,rfl,rfl,h⟩
  | exact d8w pins s σ H _ _ v u Q I rx ry ⟨_,_,rfl,rfl,h.1,h.2⟩
  | (obtain ⟨xs, zs, h1, h2, h3, h4⟩ := h
     exact g5t pins s σ H _ _ v u Q I rx ry ⟨_,_,_,_,rfl,rfl,h1,h2,h3,h4.raw⟩)
def h0d:R2:=fun x y H Q=>match x,y with
 | .int i,.int j=>IntMulOk i j/\Q (.int (i*j)) H
 | .ref l,.int k=>∃ xs,H l=some (.lst xs) /\ -(2 ^ 63)<=k/\k < 2 ^ 63/\xs.length*k.toNat<=sizeLine/\New H (.lst (List.replicate k.toNat xs).flatten) Q ⟨⟩
 | _,_=>False
theorem c5r:OpR X (binaryOp .Mult) h0d:=by
 intro pins s σ H x y v u Q I rx ry h
 cases x <;> cases y <;> first
  | exact False.elim h
  | exact g2c pins s σ H _ _ v u Q I rx ry ⟨_,_,rfl,rfl,h.1,h.2⟩
  | (obtain ⟨xs, h1, h2, h3, h4, h5⟩ := h
     exact g5u pins s σ H _ _ v u Q I rx ry ⟨_,_,_,rfl,rfl,h1,h2,h3,h4,h5.raw⟩)
def h2x(K:PySem.W.Frag):R2:=fun x y H Q=>if f1p x y=true then Q (.bl (decide (x=y))) H else g5y K x y H Q
def h2y(K:PySem.W.Frag):R2:=fun x y H Q=>if f1p x y=true then Q (.bl (!decide (x=y))) H else g5z K x y H Q
theorem c1s(hu:X.A.units+64 < cLine):OpR X (compareOp .Eq) (h2x X.K):=by
 intro pins s σ H x y v u Q I rx ry h
 unfold h2x at h
 by_cases hs:f1p x y=true
 ·rw [if_pos hs] at h
  exact g9q pins s σ H x y v u Q I rx ry ⟨hs,h⟩
 ·rw [if_neg hs] at h
  exact g6a hu pins s σ H x y v u Q I rx ry h
theorem c1t(hu:X.A.units+64 < cLine):OpR X (compareOp .NotEq) (h2y X.K):=by
 intro pins s σ H x y v u Q I rx ry h
 unfold h2y at h
 by_cases hs:f1p x y=true
 ·rw [if_pos hs] at h
  exact g9r pins s σ H x y v u Q I rx ry ⟨hs,h⟩
 ·rw [if_neg hs] at h
  exact g6b hu pins s σ H x y v u Q I rx ry h
def rIxM:R2:=fun x y H Q=>match x,y with
 | .ref p,.int i=>(match H p with
  | some (.tup xs)=>∃ v,atI xs i=some v/\Q v H
  | some (.lst xs)=>∃ v,atI xs i=some v/\Q v H
  | _=>False)
 | .str z,.int i=>∃ c,z.length<=sizeLine/\atI z.cps.toList i=some c/\Q (.str ⟨#[c]⟩) H
 | _,_=>False
theorem c1l:IxR X rIxM:=by
 intro value slice pins s σ H x y v u Q I rx ry h hs
 cases x with
 | ref p =>
  cases y with
  | int i =>
   have h':(match H p with
    | some (.tup xs)=>∃ v,atI xs i=some v/\Q v H
    | some (.lst xs)=>∃ v,atI xs i=some v/\Q v H
    | _=>False):=h
   split at h'
   ·rename_i xs e
    obtain⟨z,h2,h3⟩:=h'
    exact g5o value slice pins s σ H _ _ v u Q I rx ry ⟨_,xs,_,z,rfl,rfl,SqT.of e,h2,h3⟩ hs
   ·rename_i xs e
    obtain⟨z,h2,h3⟩:=h'
    exact f2g value slice pins s σ H _ _ v u Q I rx ry ⟨_,xs,_,z,rfl,rfl,SqL.of e,h2,h3⟩ hs
   ·exact h'.elim
  | _=>exact False.elim h
 | str z =>
  cases y with
  | int i =>
   obtain⟨c,h1,h2,h3⟩:=h
   exact g5p value slice pins s σ H _ _ v u Q I rx ry ⟨_,_,c,rfl,rfl,h1,h2,h3⟩ hs
  | _=>exact False.elim h
 | _=>exact False.elim h
noncomputable def rSlM:V->Option Int->Option Int->Hp->VK->Prop:=fun x lo hi H Q=>match x with
 | .ref a=>(match H a with
  | some (.lst xs)=>New H (.lst (f0w xs lo hi)) Q ⟨⟩
  | _=>False)
 | _=>False
theorem sl_M:SlR X rSlM:=by
 intro pins s σ H x v vl vu lo hi sl Q I rx hs pl pu h
 cases x with
 | ref a =>
  have h':(match H a with
   | some (.lst xs)=>New H (.lst (f0w xs lo hi)) Q ⟨⟩
   | _=>False):=h
  split at h'
  ·rename_i xs e
   exact f2h pins s σ H _ v vl vu lo hi sl Q I rx hs pl pu ⟨_,xs,rfl,SqL.of e,h'.raw⟩
  ·exact h'.elim
 | _=>exact False.elim h
noncomputable def rSlK(K:PySem.W.Frag):V->Option Int->Option Int->Hp->VK->Prop:=fun x lo hi H Q=>∃ a xs,x = .ref a/\SqL K H a xs/\New H (.lst (f0w xs lo hi)) Q ⟨⟩
theorem sl_K:SlR X (rSlK X.K):=by
 intro pins s σ H x v vl vu lo hi sl Q I rx hs pl pu h
 obtain⟨a,xs,e,h1,h2⟩:=h
 exact f2h pins s σ H _ v vl vu lo hi sl Q I rx hs pl pu ⟨a,xs,e,h1,h2.raw⟩
noncomputable def h0e:List V->Hp->VK->Prop:=fun xs H Q=>match xs with
 | [.ref p]=>(match H p with
  | some (.lst ys)=>Q (.int ys.length) H
  | some (.tup ys)=>Q (.int ys.length) H
  | _=>False)
 | [.str z]=>z.length<=sizeLine/\Q (.int z.length) H
 | _=>False
theorem a7i : b8n X (.builtin "len") h0e := by
 intro pins s σ H xs us Q I r h
 match xs,r,h with
 | [.ref p],r,h =>
  have h':(match H p with
   | some (.lst ys)=>Q (.int ys.length) H
   | some (.tup ys)=>Q (.int ys.length) H
   | _=>False):=h
  split at h'
  ·rename_i ys e
   exact b8t pins s σ H _ us Q I r ⟨p,ys,rfl,.inl (SqL.of e),h'⟩
  ·rename_i ys e
   exact b8t pins s σ H _ us Q I r ⟨p,ys,rfl,.inr (SqT.of e),h'⟩
  ·exact h'.elim
 | [.str z],r,h=>exact d2l pins s σ H _ us Q I r ⟨z,rfl,h.1,h.2⟩
theorem f2q : b8n X (.builtin "len") (fun xs H Q => ∃ p ys, xs = [.ref p] ∧ SqL X.K H p ys ∧ Q (.int ys.length) H) := by
 intro pins s σ H xs us Q I r h
 obtain⟨p,ys,e,h1,h2⟩:=h
 exact b8t pins s σ H _ us Q I r ⟨p,ys,e,.inl h1,h2⟩
theorem h0f{i j:Int}:f1p (.int i) (.int j)=true:=rfl
theorem h0g{i j:Str}:f1p (.str i) (.str j)=true:=rfl
theorem h0h{i j:Bool}:f1p (.bl i) (.bl j)=true:=rfl
theorem h0i:f1p .non .non=true:=rfl
theorem h0j{i j:Addr}:f1p (.ref i) (.ref j)=false:=rfl
theorem h2z{H:Hp}{i:Int}:g0f H (.int i)=some .int:=rfl
theorem h3a{H:Hp}{i:Str}:g0f H (.str i)=some .str:=rfl
theorem h3b{H:Hp}{i:Bool}:g0f H (.bl i)=some .bl:=rfl
theorem h3c{H:Hp}:g0f H .non=some .non:=rfl
theorem h3d{H:Hp}{a:Addr}:g0f H (.ref a)=(match H a with
  | some (.lst _)=>some .lst
  | some (.frz _ (.lst _))=>some .lst
  | some (.tup _)=>some .tup
  | some (.dK _)=>some .dct
  | some (.dT _)=>some .dct
  | _=>none):=rfl
theorem two_line:2<=sizeLine:=by decide
theorem g6c{α:Type}{x:α}{xs:List α}:atI (x :: xs) 0=some x:=a4j (j:=0) rfl
theorem g6d{α:Type}{x y:α}{xs:List α}:atI (x :: y :: xs) 1=some y:=a4j (j:=1) rfl
theorem g6e{α:Type}{x y z:α}{xs:List α}:atI (x :: y :: z :: xs) 2=some z:=a4j (j:=2) rfl
theorem g6f{α:Type}{x y z u:α}{xs:List α}:atI (x :: y :: z :: u :: xs) 3=some u:=a4j (j:=3) rfl
theorem g0i{p q A B:Prop}[Decidable p][Decidable q] : (if p then (if q then A else B) else B)=(if p/\q then A else B):=by
 by_cases hp:p <;> by_cases hq:q <;> simp [hp,hq]
theorem g2f{p q A B:Prop}[Decidable p][Decidable q] : (if p then A else (if q then A else B))=(if p\/q then A else B):=by
 by_cases hp:p <;> by_cases hq:q <;> simp [hp,hq]
end
section
variable {X:Cx}{es:List Expr}{t:TA}{pos:Pos}
theorem PA.weak{t:TA}(h:PA X es t){u:TA}(q:∀ σ H (Q:List V->Hp->Prop),u σ H Q->t σ H Q):PA X es u:=fun pos pins s σ H Q I hu=>h pos pins s σ H Q I (q σ H Q hu)
theorem c0t{x1}(h:PA X es t):PE X (.Tuple es x1 pos) (h0a t):=by
 intro pins s σ H Q I hq
 refine wpAny_Tuple_spliced (thn (h pos pins s σ H _ I hq) fun us s1 ⟨xs,H1,I1,r,z,q⟩=>⟨by rw [<- r.length]; exact z,?_⟩)
 have hf:H1 s1.heap.objs.size=none:=I1.hok.fresh (Nat.le_refl _)
 refine⟨.ref s1.heap.objs.size,upd H1 s1.heap.objs.size (.tup xs),I1.laid (t':=s1.toks) (fun b u e=>Heap.get?_push_of_some _ e) (Nat.le_refl _) ?_,rfl,q.raw _ hf⟩
 exact⟨z,us,r,⟨_,Heap.get?_push_size _ rfl,rfl,_,rfl⟩⟩
theorem a2o(h:PA X es t):PE X (.List es pos) (h0b t):=by
 intro pins s σ H Q I hq
 refine wpAny_List_spliced (thn (h pos pins s σ H _ I hq) fun us s1 ⟨xs,H1,I1,r,z,q⟩=>⟨by rw [<- r.length]; exact z,?_⟩)
 have hf:H1 s1.heap.objs.size=none:=I1.hok.fresh (Nat.le_refl _)
 refine⟨.ref s1.heap.objs.size,upd H1 s1.heap.objs.size (.lst xs),I1.laid (t':=s1.toks) (fun b u e=>Heap.get?_push_of_some _ e) (Nat.le_refl _) ?_,rfl,q.raw _ hf⟩
 exact⟨z,us,0,r,Heap.get?_push_size _ rfl⟩
theorem d9k : b8n X (.type "list") (fun xs H Q => ∃ p ys, xs = [.ref p] ∧ (SqL X.K H p ys ∨ SqT X.K H p ys) ∧ New H (.lst ys) Q ⟨⟩) := by
 intro pins s σ H xs us Q I r h
 obtain⟨p,ys,e,h1,h2⟩:=h
 exact d2m pins s σ H xs us Q I r ⟨p,ys,e,h1,h2.raw⟩
end
theorem Same.tup{K:PySem.W.Frag}{H H':Hp}{a:Addr}{xs:List V}(e:Same H H')(h:SqT K H a xs):SqT K H' a xs:=by
 rcases h with (h | ⟨o,h⟩) | h
 ·exact .inl (.inl (e _ _ h))
 ·exact .inl (.inr ⟨o,e _ _ h⟩)
 ·exact .inr h
end L2
namespace L2
open PySem PySem.Spec PyProof.Rows
open PySem.Builtin.Int (intBits)
section
variable {X:Cx}{e a b c:Expr}{es rest:List Expr}{pos:Pos}{tg iter:Expr}
theorem PE.weak{t u:TE}(h:PE X e t)(q:∀ σ H Q,u σ H Q->t σ H Q):PE X e u:=fun pins s σ H Q I hu=>h pins s σ H Q I (q σ H Q hu)
theorem PT.weak{t u:TT}(h:PT X e t)(q:∀ σ H Q,u σ H Q->t σ H Q):PT X e u:=fun pins s σ H Q I hu=>h pins s σ H Q I (q σ H Q hu)
theorem PI.weak{t u:TI}(h:PI X tg iter t)(q:∀ σ H Q,u σ H Q->t σ H Q):PI X tg iter u:=fun pins s σ H Q I hu=>h pins s σ H Q I (q σ H Q hu)
theorem OpR.weak{f:Value->Value->Sem Value}{r r':R2}(h:OpR X f r)(q:∀ x y H Q,r' x y H Q->r x y H Q):OpR X f r':=fun pins s σ H x y v u Q I rx ry hr=>h pins s σ H x y v u Q I rx ry (q x y H Q hr)
theorem UnR.weak{f:Value->Sem Value}{r r':V->Hp->VK->Prop}(h:UnR X f r)(q:∀ x H Q,r' x H Q->r x H Q):UnR X f r':=fun pins s σ H x v Q I rx hr=>h pins s σ H x v Q I rx (q x H Q hr)
theorem b8n.weak{f:Value}{r r':List V->Hp->VK->Prop}(h:b8n X f r)(q:∀ xs H Q,r' xs H Q->r xs H Q):b8n X f r':=fun pins s σ H xs us Q I rx hr=>h pins s σ H xs us Q I rx (q xs H Q hr)
theorem IxR.weak{r r':R2}(h:IxR X r)(q:∀ x y H Q,r' x y H Q->r x y H Q):IxR X r':=fun value slice pins s σ H x y v u Q I rx ry hr hs=>h value slice pins s σ H x y v u Q I rx ry (q x y H Q hr) hs
def g6g(i:Nat):TE:=fun σ H Q=>match σ[i]? with
 | some (some v)=>Q v H
 | _=>False
theorem pvF (i : Nat) {x : Str} {pos : Pos} (hN : X.N[i]? = some x := by rfl) (hv : Vis X.env.scope x := by first | exact Or.inl rfl | exact Or.inr (Or.inl rfl) | exact Or.inr (Or.inr rfl)) (hd : (x == ("__debug__" : Str)) = false := by decide)
  (hcd : (x == ("__classdict__" : Str)) = false := by decide) : PE X (.Name x pos) (g6g i) := (g4u hN hv hd hcd).weak fun σ H Q h => by
 unfold g6g at h
 split at h
 ·rename_i v e
  exact⟨v,e,h⟩
 ·exact h.elim
def rIF(C:Int->Int->Prop)(g:Int->Int->V):R2:=fun x y H Q=>match x,y with
 | .int i,.int j=>C i j/\Q (g i j) H
 | _,_=>False
def g6h(g:Int->Int->V):R2:=fun x y H Q=>match x,y with
 | .int i,.int j=>Q (g i j) H
 | _,_=>False
theorem f2r{C:Int->Int->Prop}{g:Int->Int->V}:∀ x y H Q,rIF C g x y H Q->rI C g x y H Q:=fun x y H Q h=>by
 cases x <;> cases y <;> first | exact False.elim h | exact⟨_,_,rfl,rfl,h⟩
theorem c8u{g:Int->Int->V}:∀ x y H Q,g6h g x y H Q->rI0 g x y H Q:=fun x y H Q h=>by
 cases x <;> cases y <;> first | exact False.elim h | exact⟨_,_,rfl,rfl,h⟩
theorem f2s:OpR X (binaryOp .Sub) (g6h fun i j=>.int (i - j)):=g5g.weak c8u
theorem c8v:OpR X (binaryOp .FloorDiv) (rIF CFd fun i j=>.int (i.fdiv j)):=f7j.weak f2r
theorem c0m:OpR X (binaryOp .Mod) (rIF (fun _ j=>j≠0) fun i j=>.int (i.fmod j)):=g1p.weak f2r
theorem g0j:OpR X (binaryOp .Pow) (rIF h2p fun i j=>.int (i ^ j.toNat)):=g5h.weak f2r
theorem of_lt:OpR X (compareOp .Lt) (g6h fun i j=>.bl (decide (i < j))):=g9s.weak c8u
theorem of_le:OpR X (compareOp .LtE) (g6h fun i j=>.bl (decide (i<=j))):=g9t.weak c8u
theorem d9l:OpR X (compareOp .Gt) (g6h fun i j=>.bl (decide (j < i))):=g9u.weak c8u
noncomputable def rUF(g:Int->V):V->Hp->VK->Prop:=fun x H Q=>match x with
 | .int i=>Q (g i) H
 | _=>False
def tBF(t:TE):TT:=fun σ H Q=>t σ H fun x H1=>match x with
 | .bl k=>Q k H1
 | _=>False
theorem h0k{x:V}{H1:Hp}{Q:Bool->Hp->Prop}(h:match x with | .bl k=>Q k H1 | _=>False):∃ k,x = .bl k/\Q k H1:=by
 cases x <;> first | exact False.elim h | exact⟨_,rfl,h⟩
theorem a0y{op:CmpOp}{r:R2}{ta tb:TE}(ho:OpR X (compareOp op) r)(ha:PE X a ta)(hb:PE X b tb)(hm:behindInMarks op b=false):PT X (.Compare a [op] [b] pos) (tBF (tOp r ta tb)):=by
 intro pins s σ H Q I h
 refine (g1q (ho.weak (r':=fun x y H Q=>r x y H Q) fun _ _ _ _ z=>z) ha hb hm) pins s σ H _ I ?_
 unfold g5j
 exact h |> fun h=>by
  unfold tBF at h
  have e:(fun (x:V) (H1:Hp)=>match x with | .bl k=>Q k H1 | _=>False)=fun x H1=>∃ k,x=V.bl k/\Q k H1:=by
   funext x H1
   cases x <;> simp
  rw [e] at h
  exact h
theorem a2p{t:TE}(h:PE X e t)(he:∀ whole,isTrue e X.env whole=(do let v <- whole; standAt e.pos; holding [v] (truthy v)):=by intro _; rfl):PT X e (tBF t):=by
 intro pins s σ H Q I hw
 refine (g4w h he) pins s σ H _ I ?_
 unfold tB
 unfold tBF at hw
 have e:(fun (x:V) (H1:Hp)=>match x with | .bl k=>Q k H1 | _=>False)=fun x H1=>∃ k,x=V.bl k/\Q k H1:=by
  funext x H1
  cases x <;> simp
 rw [e] at hw
 exact hw
def g6i(ta tb:TE):TE:=fun σ H Q=>ta σ H fun x H1=>match x with
 | .bl c=>if c=true then tb σ H1 Q else Q (.bl false) H1
 | _=>False
def tOrF(ta tb:TE):TE:=fun σ H Q=>ta σ H fun x H1=>match x with
 | .bl c=>if c=true then Q (.bl true) H1 else tb σ H1 Q
 | _=>False
def tNotF(ta:TE):TE:=fun σ H Q=>ta σ H fun x H1=>match x with
 | .bl c=>Q (.bl (!c)) H1
 | _=>False
theorem f2t{ta tb:TE}(ha:PE X a ta)(hb:PE X (.BoolOp .And (b :: rest) pos) tb):PE X (.BoolOp .And (a :: b :: rest) pos) (g6i ta tb):=by
 intro pins s σ H Q I h
 refine (g4y ha hb) pins s σ H Q I ?_
 unfold g4x
 unfold g6i at h
 have e:(fun (x:V) (H1:Hp)=>match x with | .bl c=>(if c=true then tb σ H1 Q else Q (.bl false) H1) | _=>False)=fun x H1=>∃ c,x=V.bl c/\if c=true then tb σ H1 Q else Q (.bl false) H1:=by
  funext x H1
  cases x <;> simp
 rw [e] at h
 exact h
def g0k(ta:TA):TI:=fun σ H R=>ta σ H fun vs H1=>match vs with
 | [.int j] => -(2 ^ 62)<=j/\j < 2 ^ 62/\R (Itr 0 j.toNat) H1
 | _=>False
def h3e(ta:TA):TI:=fun σ H R=>ta σ H fun vs H1=>match vs with
 | [.int i,.int j]=>(-(2 ^ 62)<=i/\i < 2 ^ 62 /\ -(2 ^ 62)<=j/\j < 2 ^ 62)/\R (Itr i (j - i).toNat) H1
 | _=>False
def h3f(ta:TA):TI:=fun σ H R=>ta σ H fun vs H1=>match vs with
 | [.int i,.int j,.int c]=>(0<=i/\i < 2 ^ 32/\0<=j/\j < 2 ^ 32/\0 < c/\c < 2 ^ 30)/\R (Itr3 i c (rngN i j c)) H1
 | _=>False
theorem a6n {ta : TA} {p pos : Pos} (hg : Gl X "range") (hm : X.mg "range" = none) (ha : PA X [a] ta) (hs : starEach [a] X.env = [(false, eval a X.env)] := by rfl) : PI X tg (.Call (.Name "range" p) [a] [] pos) (g0k ta) := by
 refine (f1m hg hm ha hs).weak fun σ H R h=>?_
 unfold g5d
 unfold g0k at h
 have e:(fun (vs:List V) (H1:Hp)=>(match vs with | [.int j] => -(2 ^ 62)<=j/\j < 2 ^ 62/\R (Itr 0 j.toNat) H1 | _=>False:Prop))=fun vs H1=>∃ j:Int,vs = [.int j] /\ -(2 ^ 62)<=j/\j < 2 ^ 62/\R (Itr 0 j.toNat) H1:=by
  funext vs H1
  refine propext ⟨fun z=>?_,fun⟨j,e,z⟩=>by subst e; exact z⟩
  match vs,z with
  | [.int j],z=>exact⟨j,rfl,z⟩
 rw [e] at h
 exact h
def g0l(K:PySem.W.Frag)(tl:TE):TI:=fun σ H R=>tl σ H fun x H1=>match x with
 | .ref a=>(∃ xs,SqL K H1 a xs)/\R (Itl K a) H1
 | _=>False
theorem b3s{l:Expr}{tl:TE}(hl:PE X l tl):PI X tg l (g0l X.K tl):=(g1o hl).weak fun σ H R h=>by
 unfold g5c
 unfold g0l at h
 have e:(fun (x:V) (H1:Hp)=>match x with | .ref a=>(∃ xs,SqL X.K H1 a xs)/\R (Itl X.K a) H1 | _=>False)=fun x H1=>∃ a,x = .ref a/\(∃ xs,SqL X.K H1 a xs)/\R (Itl X.K a) H1:=by
  funext x H1
  cases x <;> simp
 rw [e] at h
 exact h
def h0l(K:PySem.W.Frag):R2:=fun x y H Q=>match x,y with
 | .ref p,.int i=>∃ ns:List Int,SqL K H p (ns.map V.int)/\0<=i/\i < ns.length/\Q (.int (ns.getD i.toNat 0)) H
 | _,_=>False
theorem f7l{ns:List Int}{i:Int}(h0:0<=i)(h1:i < ns.length):atI (ns.map V.int) i=some (.int (ns.getD i.toNat 0)):=by
 obtain⟨j,rfl⟩:=Int.eq_ofNat_of_zero_le h0
 refine a4j ?_
 have hj:j < ns.length:=by omega
 rw [List.getElem?_map,List.getElem?_eq_getElem hj,List.getD_eq_getElem?_getD,Int.toNat_natCast,List.getElem?_eq_getElem hj]
 rfl
theorem ix_S:IxR X (h0l X.K):=f2g.weak fun x y H Q h=>by
 cases x with
 | ref p =>
  cases y with
  | int i =>
   obtain⟨ns,h1,h2,h3,h4⟩:=h
   exact⟨p,_,i,_,rfl,rfl,h1,f7l h2 h3,h4⟩
  | _=>exact False.elim h
 | _=>exact False.elim h
noncomputable def h0m(K:PySem.W.Frag):List V->Hp->VK->Prop:=fun xs H Q=>match xs with
 | [.ref p]=>∃ ys,SqL K H p ys/\Q (.int ys.length) H
 | _=>False
theorem d9m : b8n X (.builtin "len") (h0m X.K) := f2q.weak fun xs H Q h => by
 match xs,h with
 | [.ref p],⟨ys,h1,h2⟩=>exact⟨p,ys,rfl,h1,h2⟩
noncomputable def h0n(K:PySem.W.Frag):V->Option Int->Option Int->Hp->VK->Prop:=fun x lo hi H Q=>match x with
 | .ref a=>∃ xs,SqL K H a xs/\New H (.lst (f0w xs lo hi)) Q ⟨⟩
 | _=>False
theorem h0o:SlR X (h0n X.K):=by
 intro pins s σ H x v vl vu lo hi sl Q I rx hs pl pu h
 cases x <;> first
  | exact False.elim h
  | (obtain ⟨xs, h1, h2⟩ := h
     exact sl_K pins s σ H _ v vl vu lo hi sl Q I rx hs pl pu ⟨_,xs,rfl,h1,h2⟩)
def g0m(t:TE):TO:=fun σ H Q=>t σ H fun x H1=>match x with
 | .int i=>Q (some i) H1
 | _=>False
theorem b6w{te:TE}(h:PE X e te):PO X (some e) (g0m te):=by
 intro pins s σ H Q I hw
 refine (g1v h) pins s σ H Q I ?_
 unfold g5n
 unfold g0m at hw
 have e:(fun (x:V) (H1:Hp)=>match x with | .int i=>Q (some i) H1 | _=>False)=fun x H1=>∃ i,x=V.int i/\Q (some i) H1:=by
  funext x H1
  cases x <;> simp
 rw [e] at hw
 exact hw
noncomputable def rAbs:List V->Hp->VK->Prop:=fun xs H Q=>match xs with
 | [.int i]=>Q (.int i.natAbs) H
 | _=>False
noncomputable def rMin:List V->Hp->VK->Prop:=fun xs H Q=>match xs with
 | [.int i,.int j]=>Q (.int (min i j)) H
 | _=>False
noncomputable def rMax:List V->Hp->VK->Prop:=fun xs H Q=>match xs with
 | [.int i,.int j]=>Q (.int (max i j)) H
 | _=>False
noncomputable def g6j(K:PySem.W.Frag):List V->Hp->VK->Prop:=fun xs H Q=>match xs with
 | [.ref p]=>(match H p with
  | some (.lst ys)=>New H (.lst ys) Q ⟨⟩
  | some (.tup ys)=>New H (.lst ys) Q ⟨⟩
  | _=>False)
 | _=>False
theorem b0w : b8n X (.type "list") (g6j X.K) := d9k.weak fun xs H Q h => by
 match xs,h with
 | [.ref p],h =>
  have h':(match H p with
   | some (.lst ys)=>New H (.lst ys) Q ⟨⟩
   | some (.tup ys)=>New H (.lst ys) Q ⟨⟩
   | _=>False):=h
  split at h'
  ·rename_i ys e
   exact⟨p,ys,rfl,.inl (SqL.of e),h'⟩
  ·rename_i ys e
   exact⟨p,ys,rfl,.inr (SqT.of e),h'⟩
  ·exact h'.elim
theorem h3g{α:Type}{x:α}{xs:List α}{p:α->Prop}:(∃ v,atI (x :: xs) 0=some v/\p v)=p x:=by
 rw [g6c]; simp
theorem h3h{α:Type}{x y:α}{xs:List α}{p:α->Prop}:(∃ v,atI (x :: y :: xs) 1=some v/\p v)=p y:=by
 rw [g6d]; simp
theorem h3i{α:Type}{x y z:α}{xs:List α}{p:α->Prop}:(∃ v,atI (x :: y :: z :: xs) 2=some v/\p v)=p z:=by
 rw [g6e]; simp
theorem h3j{α:Type}{x y z u:α}{xs:List α}{p:α->Prop}:(∃ v,atI (x :: y :: z :: u :: xs) 3=some v/\p v)=p u:=by
 rw [g6f]; simp
end
end L2
namespace L2
open PySem PySem.Spec PyProof.Rows PySem.W
theorem c1u{n:Nat}{d:Dat}(h:kqdOk n d=true)(hn:n<=64):SeqAt.shaped (kqdP d)=true:=by
 have l:=kqd_lay n d h
 unfold SeqAt.shaped
 rw [l.1,Bool.true_and]
 exact decide_eq_true (Nat.le_trans l.2 hn)
theorem g0n{n k:Nat}{d e:Dat}(hd:kqdOk n d=true)(he:kqdOk k e=true){c:Bool}(hc:c=true ↔ d=e):PyData.eqv (kqdP d) (kqdP e)=c:=by
 have q:=kqd_eqv n d e k hd he
 cases c with
 | true=>exact q.mpr (hc.mp rfl)
 | false=>exact Bool.eq_false_iff.mpr fun z=>absurd (hc.mpr (q.mp z)) Bool.false_ne_true
theorem g0o{K:PySem.W.Frag}{H:Hp}{x y:V}{d e:Dat}{n k:Nat}{c:Bool}{Q:VK}(hd:c7y K H x (kqdP d))(he:c7y K H y (kqdP e))(kd:kqdOk n d=true)(ke:kqdOk k e=true)(hn:n<=64)(hk:k<=64)(hc:c=true ↔ d=e)(q:Q (.bl c) H):g5y K x y H Q :=
 ⟨_,_,hd,he,c1u kd hn,c1u ke hk,by rw [g0n kd ke hc]; exact q⟩
theorem g0p{K:PySem.W.Frag}{H:Hp}{x y:V}{d e:Dat}{n k:Nat}{c:Bool}{Q:VK}(hd:c7y K H x (kqdP d))(he:c7y K H y (kqdP e))(kd:kqdOk n d=true)(ke:kqdOk k e=true)(hn:n<=64)(hk:k<=64)(hc:c=true ↔ d=e)(q:Q (.bl (!c)) H):g5z K x y H Q :=
 ⟨_,_,hd,he,c1u kd hn,c1u ke hk,by rw [g0n kd ke hc]; exact q⟩
end L2
namespace L2
open PySem PySem.Spec PyProof.Rows
open PySem.Builtin.Int (intBits)
def tCut(t u:TS):TS:=fun D σ H=>∃ Mid:St->Hp->Prop,t { D with nx:=Mid } σ H/\∀ σ' H',Mid σ' H'->u D σ' H'
theorem b8u{X:Cx}{st:Stmt}{rest:List Stmt}{t u:TS}(h1:PS X st t)(h2:PSs X rest u):PSs X (st :: rest) (tCut t u):=by
 intro pins s σ H D I h
 obtain⟨Mid,h,hm⟩:=h
 refine wpAny_execs_cons (thn (h1 pins s σ H { D with nx:=Mid } I h) fun f s1 q=>?_)
 cases f with
 | next =>
  obtain⟨σ',H',I',q⟩:=q
  exact h2 pins s1 σ' H' D I' (hm σ' H' q)
 | ret v=>exact q
 | brk=>exact q
 | cont=>exact q
theorem f2u{ns:List Int}{n:Nat}(h:∀ x∈ns,intBits x<=n)(k:Nat):intBits (ns.getD k 0)<=n:=by
 rw [List.getD_eq_getElem?_getD]
 cases e:ns[k]? with
 | none=>exact Nat.zero_le _
 | some x=>exact h x (List.mem_of_getElem? e)
end L2
namespace L2
open PySem PySem.Spec PyProof.Rows
theorem c2z{env:Env}:∀ (names:List (Str×NameKind)) (acc:List (Str×Addr)),(∀ y,(y,NameKind.free)∈names->∃ c,env.cells.lookup y=some c) ->
  ∃ cl,(forIn names acc (fun (x:Str×NameKind) (cs:List (Str×Addr))=>(if x.2 == NameKind.free then (do let c <- cellOf env x.1; pure (ForInStep.yield ((x.1,c) :: cs))) else pure (ForInStep.yield cs):Sem (ForInStep (List (Str×Addr))))))=pure cl /\
   (∀ y c,cl.lookup y=some c->acc.lookup y=some c\/((y,NameKind.free)∈names/\env.cells.lookup y=some c)) /\
   (∀ y,(y,NameKind.free)∈names->cl.lookup y=env.cells.lookup y)/\(∀ y,(∀ k,(y,k)∈names->k≠NameKind.free)->cl.lookup y=acc.lookup y)
 | [],acc,_=>⟨acc,rfl,fun y c h=>.inl h,fun y h=>(nomatch h),fun y _=>rfl⟩
 | (n,k) :: r,acc,h=>by
  by_cases hk:k=NameKind.free
  ·subst hk
   obtain⟨c,hc⟩:=h n List.mem_cons_self
   obtain⟨cl,h1,h2,h3,h4⟩:=c2z r ((n,c) :: acc) fun y hy=>h y (List.mem_cons_of_mem _ hy)
   have e:cellOf env n=pure c:=by unfold cellOf; rw [hc]
   refine⟨cl,?_,fun y d hd=>?_,fun y hy=>?_,fun y hy=>?_⟩
   ·rw [List.forIn_cons]
    simp only [beq_self_eq_true,if_true,e,pure_bind]
    exact h1
   ·rcases h2 y d hd with z | ⟨z1,z2⟩
    ·rw [List.lookup_cons] at z
     by_cases hy:y=n
     ·subst hy
      simp only [beq_self_eq_true] at z
      cases z
      exact .inr ⟨List.mem_cons_self,hc⟩
     ·have:(y == n)=false:=by simpa using hy
      rw [this] at z
      exact .inl z
    ·exact .inr ⟨List.mem_cons_of_mem _ z1,z2⟩
   ·by_cases hr:(y,NameKind.free)∈r
    ·exact h3 y hr
    ·rcases List.mem_cons.mp hy with z | z
     ·cases z
      by_cases hq:∃ k,(n,k)∈r/\k=NameKind.free
      ·obtain⟨k,z,rfl⟩:=hq
       exact absurd z hr
      ·rw [h4 n fun k hk e=>hq ⟨k,hk,e⟩,List.lookup_cons]
       simp only [beq_self_eq_true]
       exact hc.symm
     ·exact absurd z hr
   ·have hn:y≠n:=fun e=>by
     subst e
     exact hy _ List.mem_cons_self rfl
    rw [h4 y fun k hk=>hy k (List.mem_cons_of_mem _ hk),List.lookup_cons]
    have:(y == n)=false:=by simpa using hn
    rw [this]
  ·obtain⟨cl,h1,h2,h3,h4⟩:=c2z r acc fun y hy=>h y (List.mem_cons_of_mem _ hy)
   have hb:(k == NameKind.free)=false:=by simpa using hk
   refine⟨cl,?_,fun y d hd=>?_,fun y hy=>?_,fun y hy=>h4 y fun k hk=>hy k (List.mem_cons_of_mem _ hk)⟩
   ·rw [List.forIn_cons]
    simp only [hb,Bool.false_eq_true,if_false,pure_bind]
    exact h1
   ·rcases h2 y d hd with z | ⟨z1,z2⟩
    ·exact .inl z
    ·exact .inr ⟨List.mem_cons_of_mem _ z1,z2⟩
   ·rcases List.mem_cons.mp hy with z | z
    ·cases z
     exact absurd rfl hk
    ·exact h3 y z
theorem c3g{env:Env}{sc:Scope}(h:∀ y,(y,NameKind.free)∈sc.names->∃ c,env.cells.lookup y=some c) :
  ∃ cl,closureFor sc env=pure cl/\(∀ y c,cl.lookup y=some c->(y,NameKind.free)∈sc.names/\env.cells.lookup y=some c)/\(∀ y,(y,NameKind.free)∈sc.names->cl.lookup y=env.cells.lookup y):=by
 obtain⟨cl,h1,h2,h3,_⟩:=c2z (env:=env) sc.names [] h
 refine⟨cl,?_,fun y c hy=>(h2 y c hy).elim (fun z=>nomatch z) id,h3⟩
 unfold closureFor
 show (forIn sc.names [] _ >>= fun cs=>pure cs)=pure cl
 rw [bind_pure]
 exact h1
end L2
namespace L2
open PySem PySem.Spec PyProof.Rows
noncomputable def mask (x : Str) (N : List Str) : List Str := N.map fun y => if y = x then "" else y
noncomputable def b5g(X:Cx)(scope:Scope)(cl:List (Str×Addr))(C:Addr)(s₃:Shared)(H₃:Hp)(fp:List Addr)(x:Str):Cx where
 prog:=X.prog
 w:=X.w
 K:=X.K
 mg:=X.mg
 base:=X.base
 A:=X.A
 N:=x :: mask x X.N
 s₀:=s₃
 H₀:=H₃
 env:=compEnvC scope cl C X.env
 outer:=X.stack
 stack:=X.stack
 ex:=fp
 fn:=fun _=>false
 calm:=X.calm
 pn:=[]
 xe:=fun _ _=>False
def a2h(D:Addr)(H H':Hp):Prop:=∀ b o,b≠D->H b=some o->H' b=some o
theorem a2h.upd{D:Addr}{H:Hp}{o:HO}:a2h D H (upd H D o):=fun b u hb e=>by rw [a1l hb]; exact e
def d9n(J:It)(te:TE)(D:Addr)(σ:St)(H:Hp)(Q:VK)(_:Tag Q):Prop:=∃ (n:Nat) (W:Nat->List V->Hp->Prop),W 0 [] H/\∀ i ys H,i<=n->W i ys H->H D=some (.lst ys) /\
 ((J.stop i H/\Q (.ref D) H)\/(i < n/\J.go i H/\ys.length < sizeLine/\∀ x H',J.yld i H x H'->te (some x :: σ) H' fun y H2=>H2 D=some (.lst ys) /\
  ∀ H3,a2h D H2 H3->H3 D=some (.lst (ys++[y]))->W (i+1) (ys++[y]) H3))
def g6k(wi:TI)(te:TE):TE:=fun σ H Q=>wi σ H fun J H1=>∀ D H2,H1 D=none->Same H1 H2->H2 D=some (.lst [])->d9n J te D σ H2 Q ⟨⟩
theorem b5h{env:Env}{x:Str}:∀ (names:List (Str×NameKind)) (k:NameKind),(names.map fun (n,k)=>if (k == NameKind.free && env.scope.kind == .function && env.kindOf n == some .cell) then (n,NameKind.cell) else (n,k)).lookup x=some k ->
  (names.lookup x=some k)\/(k = .cell/\names.lookup x=some .free)
 | [],k,e=>by cases e
 | (n,q) :: r,k,e=>by
  rw [List.map_cons] at e
  dsimp only at e
  rw [List.lookup_cons]
  cases hx:(x == n) with
  | true =>
   by_cases hc:(q == NameKind.free && env.scope.kind == .function && env.kindOf n == some .cell)=true
   ·rw [if_pos hc,List.lookup_cons,hx] at e
    have:q = .free:=by
     simp only [Bool.and_eq_true,beq_iff_eq] at hc
     exact hc.1.1
    subst this
    cases e
    exact .inr ⟨rfl,rfl⟩
   ·rw [if_neg hc,List.lookup_cons,hx] at e
    exact .inl e
  | false =>
   have e':(r.map fun (n,k)=>if (k == NameKind.free && env.scope.kind == .function && env.kindOf n == some .cell) then (n,NameKind.cell) else (n,k)).lookup x=some k:=by
    by_cases hc:(q == NameKind.free && env.scope.kind == .function && env.kindOf n == some .cell)=true
    ·rw [if_pos hc,List.lookup_cons,hx] at e
     exact e
    ·rw [if_neg hc,List.lookup_cons,hx] at e
     exact e
   exact b5h r k e'
theorem a9h{env:Env}{sc:Scope}{x:Str}(h:(relabel sc env).names.lookup x=some .cell\/(relabel sc env).names.lookup x=some .free):(x,NameKind.free)∈sc.names\/(x,NameKind.cell)∈sc.names:=by
 rcases h with h | h
 ·rcases b5h sc.names _ h with z | ⟨_,z⟩
  ·exact .inr (PySem.mem_of_lookup z)
  ·exact .inl (PySem.mem_of_lookup z)
 ·rcases b5h sc.names _ h with z | ⟨z,_⟩
  ·exact .inl (PySem.mem_of_lookup z)
  ·cases z
structure b8v(X:Cx)(scope:Scope)(x:Str):Prop where
 kind:scope.kind = .function
 c3v:∀ y∈scope.names,y.2≠.cell
 loc:∀ y∈scope.names,y.2 = .local->scope.names.lookup y.1=some .local
 own:scope.names.lookup x=some .local
 free:∀ y∈scope.names,y.2 = .free->X.env.kindOf y.1=some .cell\/X.env.kindOf y.1=some .free
 nd:(x :: mask x X.N).Nodup
 noe : ∀ y ∈ scope.names, y.1 ≠ ""
 vis:∀ y∈mask x X.N,scope.names.lookup y≠some .local
section
variable {X:Cx}{scope:Scope}{x:Str}{cl:List (Str×Addr)}{pins:List (Addr×Obj)}{σ:St}{H:Hp}{s s₄:Shared}{fp:List Addr}
theorem Inv.comp(S:b8v X scope x)(I:Inv X pins σ H s)(hcl:∀ y c,cl.lookup y=some c->(y,NameKind.free)∈scope.names/\X.env.cells.lookup y=some c)(hcl2:∀ y,(y,NameKind.free)∈scope.names->cl.lookup y=X.env.cells.lookup y)
  (hfp:∀ b∈fp,d1q X pins H b) (hlt:∀ b∈fp,b < s.heap.objs.size) {m:Str->Option Value} (hns:s₄.heap.Ns s.heap.objs.size m) (hk:∀ b o,s.heap.get? b=some o->s₄.heap.get? b=some o) (hos:s₄.os=s.os) (hg:s₄.gens=s.gens) :
  Inv (b5g X scope cl s.heap.objs.size s H fp x) [] (none :: σ) H s₄:=by
 have below:∀ {b:Addr} {o:Obj},s.heap.get? b=some o->b≠s.heap.objs.size:=fun e=>Nat.ne_of_lt (Heap.lt_size e)
 refine⟨⟨I.ok.mod,?_,I.ok.glob,I.ok.blt,Nat.le_refl _,fun y z c h1 h2=>I.ok.inj y z c (hcl y c h1).2 (hcl z c h2).2,fun y hy=>?_,(fun y c h=>nomatch h),I.ok.hd,I.ok.frames,.inl rfl,fun b hb=>⟨Nat.ne_of_lt (hlt b hb),fun y c e=>(hfp b hb).2.2.2.2.1 y c (hcl y c e).2⟩,
  fun b o e=>I.bs b o e,Nat.le_trans I.ok.bsz I.sz,fun b o e hb=>?_,fun b hb hf=>?_,I.stack,I.c8n⟩,
  hos,by rw [hg]; exact I.bare,Un.kept hk,⟨m,hns,fun i y v h1 h2 h3=>?_⟩,fun y c e=>?_,I.hok.fresh (Nat.le_refl _),fun y c e=>I.c0k y c (hcl y c e).2,fun p hp=>absurd (show p∈([] : List (Addr×Obj)) from hp) (by simp),I.hok.kept hk,by show (none :: σ).length=(x :: mask x X.N).length; rw [List.length_cons,List.length_cons,mask,List.length_map,I.len]⟩
 ·exact S.kind
 ·rcases a9h (env:=X.env) (sc:=scope) (x:=y) hy with z | z
  ·obtain⟨c,hc⟩:=I.ok.has y (S.free _ z rfl)
   exact⟨c,(hcl2 y z).trans hc⟩
  ·exact absurd rfl (S.c3v _ z)
 ·rcases (hfp b hb).2.2.2.1 with z | z
  ·exact I.ok.g1m b o e z
  ·exact absurd (Nat.lt_of_lt_of_le (Heap.lt_size (I.ok.bs b o e).1) z) (Nat.lt_irrefl _)
 ·rcases List.mem_cons.mp (I.c4y b hf) with z | z
  ·exact (hfp b hb).2.1 z
  ·exact (hfp b hb).2.2.1 z
 ·cases i with
  | zero=>cases h2
  | succ i =>
   have h1m:(mask x X.N)[i]? = some y:=by simpa [b5g] using h1
   have h2':σ[i]? = some (some v):=by simpa using h2
   have hyN:y∈mask x X.N:=List.mem_of_getElem? h1m
   have hc:(relabel scope X.env).names.lookup y=some .cell\/(relabel scope X.env).names.lookup y=some .free:=by
    rcases h3 with z | z | z
    ·exfalso
     rcases b5h (env:=X.env) scope.names _ z with q | ⟨q,_⟩
     ·exact S.vis y hyN q
     ·cases q
    ·exact .inl z
    ·exact .inr z
   have hfr:(y,NameKind.free)∈scope.names:=by
    rcases a9h hc with z | z
    ·exact z
    ·exact absurd rfl (S.c3v _ z)
   have h1':X.N[i]? = some y:=by
    rw [mask,List.getElem?_map] at h1m
    obtain⟨z,hz,e⟩:=Option.map_eq_some_iff.mp h1m
    by_cases hzx:z=x
    ·rw [if_pos hzx] at e
     exact absurd e.symm (S.noe _ hfr)
    ·rw [if_neg hzx] at e
     rw [hz,e]
   obtain⟨mX,hnX,hl⟩:=I.loc
   have hk2:=S.free _ hfr rfl
   have h0p:Vis X.env.scope y:=by
    rcases hk2 with z | z
    ·exact .inr (.inl z)
    ·exact .inr (.inr z)
   obtain⟨u,ru,lk⟩:=hl i y v h1' h2' h0p
   refine⟨u,ru,.inr ⟨hc,?_⟩⟩
   rcases lk with ⟨z,_⟩ | ⟨_,c,ec,o,ho,hd⟩
   ·rcases hk2 with q | q
    ·rw [q] at z; cases z
    ·rw [q] at z; cases z
   ·exact⟨c,(hcl2 y hfr).trans ec,o,hk c o ho,hd⟩
 ·obtain⟨v,o,ho,hd⟩:=I.cell y c (hcl y c e).2
  exact⟨v,o,hk c o ho,hd⟩
theorem Inv.g6l{σ':St}{H':Hp}{s':Shared}{h':Heap}(I:Inv X pins σ H s)(hfp:∀ b∈fp,d1q X pins H b)(J:Inv (b5g X scope cl s.heap.objs.size s H fp x) [] σ' H' s')(hs:Heap.SameBut s.heap.objs.size s'.heap h') :
  Inv X pins σ H' { s' with heap:=h' }:=by
 have ne:∀ {b:Addr} {o:Obj},s.heap.get? b=some o->b≠s.heap.objs.size:=fun e=>Nat.ne_of_lt (Heap.lt_size e)
 have u:=J.base
 have u':Un (frs X.stack) fp H H' s.heap h':=⟨fun b o e n hb hx=>hs.extBut b o (ne e) (u.keep b o e n hb hx),fun b o e n hb hx=>(u.slot b o e n hb hx).elim fun sl q=>⟨sl,hs.extBut b _ (ne e) q⟩,u.free,
  fun b o e hx=>(u.there b o e hx).elim fun o' q=>⟨o',hs.extBut b o' (ne e) q⟩,u.tups,u.d1s,u.d4y⟩
 have nC:∀ {b:Addr} {o:HO},H' b=some o->b≠s.heap.objs.size:=fun {b o} e z=>by
  have f:H' s.heap.objs.size=none:=J.free
  rw [z,f] at e; cases e
 have ok:HOk X.prog X.w H' h':=fun b o e=>(J.hok b o e).stay (fun c v hc q=>hs.extBut c v (by
  rcases hc with z | z
  ·rw [z]; exact nC e
  ·exact nC z) q) (fun _ q=>q) fun _ _ q=>q
 exact I.call' (s':={ s' with heap:=h' }) (ch:=fp) J.os u' ok J.bare fun b hb=>⟨(hfp b hb).2.2.2.1,(hfp b hb).2.1,(hfp b hb).2.2.2.2.1,(hfp b hb).2.2.2.2.2⟩
end
end L2
namespace L2
open PySem PySem.Spec PyProof.Rows
section
variable {X:Cx}{scope:Scope}{x:Str}{pins:List (Addr×Obj)}{σ:St}{elt iter:Expr}{px pos:Pos}{wi:TI}{te:TE}
theorem c7z{s₂:Shared}{H1:Hp}{it:Addr}{fp:List Addr}{tn:Nat->Heap->Prop}{J:It}{Q:VK}{RR:Value->Addr->Result->Shared->Prop}{E:Value->Shared->Prop}{cl:List (Str×Addr)}
  (S:b8v X scope x) (hc:X.calm=true) (he:∀ cl C s₃ H₃ fp,PE (b5g X scope cl C s₃ H₃ fp x) elt te)
  (hcl:∀ y c,cl.lookup y=some c->(y,NameKind.free)∈scope.names/\X.env.cells.lookup y=some c) (hcl2:∀ y,(y,NameKind.free)∈scope.names->cl.lookup y=X.env.cells.lookup y)
  (I2:Inv X pins σ H1 s₂) (T:Turn X.prog X.w X.K (.Name x px) J fp it tn) (st2:tn 0 s₂.heap) (f2:∀ b∈fp,d1q X pins H1 b) (h:∀ D H2,H1 D=none->Same H1 H2->H2 D=some (.lst [])->d9n J te D σ H2 Q ⟨⟩)
  (hRR:∀ (D C:Addr) (s':Shared) (H':Hp),(∃ m,s'.heap.Ns C m)->(∀ h' ,Heap.SameBut C s'.heap h'->Inv X pins σ H' { s' with heap:=h' })->d1q X pins H' C->Q (.ref D) H'->RR (.ref D) C (.ok .next) s') :
  wpAny (model X.prog X.w) X.A (newList []) (fun acc s₃=>wpAny (model X.prog X.w) X.A (newFunctionEnv scope X.env.globals cl [] X.env.qual none .none (some X.env)) (fun cenv s₄ =>
   codeAny (model X.prog X.w) X.A (.compStart (.ListComp elt [⟨.Name x px,iter,[],0⟩] scope pos) 0 (.ref it) acc { cenv with scope:=relabel scope X.env }) (RR acc cenv.locals) s₄) E s₃) E s₂:=by
 have hfr:H1 s₂.heap.objs.size=none:=I2.hok.fresh (Nat.le_refl _)
 have hCW:=h s₂.heap.objs.size _ hfr (Same.upd hfr) a1k
 refine wpAny_newObj_type ?_
 have I3 : Inv X pins σ (upd H1 s₂.heap.objs.size (.lst [])) { s₂ with heap := s₂.heap.push { cls := .type "list", data := .seq ([] : List Value).toArray }, toks := s₂.toks } :=
  I2.laid (t':=s₂.toks) (fun b u e=>Heap.get?_push_of_some _ e) (Nat.le_refl _) ⟨Nat.zero_le _,[],0,.nil,Heap.get?_push_size _ rfl⟩
 have nD:∀ b∈fp,b≠s₂.heap.objs.size:=fun b hb=>by
  obtain⟨o,e,_⟩:=T.obj 0 _ st2 b hb
  exact Nat.ne_of_lt (Heap.lt_size e)
 have f3:∀ b∈fp,d1q X pins (upd H1 s₂.heap.objs.size (.lst [])) b:=fun b hb=>⟨by rw [a1l (nD b hb)]; exact (f2 b hb).1,(f2 b hb).2⟩
 generalize hH3:upd H1 s₂.heap.objs.size (.lst [])=H3 at *
 have st3 : tn 0 (s₂.heap.push { cls := .type "list", data := .seq ([] : List Value).toArray }) := T.keep _ _ _ st2 fun b _ o e => Heap.get?_push_of_some _ e
 have g2g : ∀ b ∈ fp, b < (s₂.heap.push { cls := .type "list", data := .seq ([] : List Value).toArray }).objs.size := fun b hb => by
  obtain⟨o,e,_⟩:=T.obj 0 _ st3 b hb
  exact Heap.lt_size e
 show wpAny (model X.prog X.w) X.A (newFunctionEnv scope X.env.globals cl [] X.env.qual none .none (some X.env)) _ E { s₂ with heap := s₂.heap.push { cls := .type "list", data := .seq ([] : List Value).toArray }, toks := s₂.toks }
 generalize hs3 : ({ s₂ with heap := s₂.heap.push { cls := .type "list", data := .seq ([] : List Value).toArray }, toks := s₂.toks } : Shared) = s₃ at *
 have eh : s₃.heap = s₂.heap.push { cls := .type "list", data := .seq ([] : List Value).toArray } := by rw [← hs3]
 rw [<- eh] at st3 g2g
 generalize s₂.heap.objs.size=D at *
 refine wpAny_newFunctionEnv S.c3v (by intro y hy; simp at hy) (fun h₁ hns₁ hsb₁=>?_) S.kind
 have hk1:∀ b o,s₃.heap.get? b=some o->h₁.get? b=some o:=fun b o e=>hsb₁.extBut b o (Nat.ne_of_lt (Heap.lt_size e)) (Heap.get?_push_of_some _ e)
 have J0:Inv (b5g X scope cl s₃.heap.objs.size s₃ H3 fp x) [] (none :: σ) H3 { s₃ with heap:=h₁,toks:=s₃.toks+([] : List (Str×Value)).length }:=I3.comp S hcl hcl2 f3 g2g hns₁ hk1 rfl rfl
 obtain⟨n0,W,w0,turn⟩:=hCW
 have loop:codeAny (model X.prog X.w) X.A (.compLoop (.ListComp elt [⟨.Name x px,iter,[],0⟩] scope pos) 0 (.ref it) (.ref D) (compEnvC scope cl s₃.heap.objs.size X.env)) (RR (.ref D) s₃.heap.objs.size) { s₃ with heap:=h₁,toks:=s₃.toks+([] : List (Str×Value)).length }:=by
  refine codeAny_loop rfl (fun n s'=>∃ i ys o H',Inv (b5g X scope cl s₃.heap.objs.size s₃ H3 fp x) [] (o :: σ) H' s'/\tn i s'.heap/\(∀ b∈fp,H' b=none)/\W i ys H'/\i<=n0/\n=n0 - i) (fun n s5 hI=>?_) n0
   ⟨0,[],none,H3,J0,T.keep _ _ _ st3 (fun b _ o e=>hk1 b o e),fun b hb=>(f3 b hb).1,w0,Nat.zero_le _,rfl⟩
  obtain⟨i,ys,o5,H5,I5,st5,fr5,w5,hin,hnn⟩:=hI
  have stat:∀ {H':Hp},(∀ b∈fp,H' b=none)->∀ b∈fp,d1q (b5g X scope cl s₃.heap.objs.size s₃ H3 fp x) [] H' b:=fun hn b hb =>
   ⟨hn b hb,Nat.ne_of_lt (g2g b hb),fun z=>(List.mem_cons.mp (I3.c4y b z)).elim (fun q=>(f3 b hb).2.1 q) fun q=>(f3 b hb).2.2.1 q,.inl hb,fun y c e=>(f3 b hb).2.2.2.2.1 y c (hcl y c e).2,fun p hp=>absurd (show p∈([] : List (Addr×Obj)) from hp) (by simp)⟩
  show wpAny _ X.A ((compTurn (.ListComp elt [⟨.Name x px,iter,[],0⟩] scope pos) 0 (.ref it) (.ref D) (compEnvC scope cl s₃.heap.objs.size X.env)).onRaise (fun x=>do noteFrame x (compEnvC scope cl s₃.heap.objs.size X.env); theTreesLotGoes x)) _ _ s5
  refine wpAny_noted ?_
  rw [compTurn_list1]
  refine wpAny_bind (wpAny_standAt (wpAny_bind ?_))
  obtain⟨hD5,alt⟩:=turn i ys H5 hin w5
  rcases alt with ⟨stop,q⟩ | ⟨hlt,go,hsz,step⟩
  ·refine wpAny_mono (T.done (b5g X scope cl s₃.heap.objs.size s₃ H3 fp x) rfl rfl rfl hc i [] s5 _ H5 _ I5 (stat fr5) st5 stop) (fun r s6 ⟨hr,I6⟩=>?_) fun _ _ z=>z
   subst hr
   refine wpAny_pure ?_
   obtain⟨m6,hn6,_⟩:=I6.loc
   exact hRR D s₃.heap.objs.size s6 H5 ⟨m6,hn6⟩ (fun h' hs'=>I3.g6l f3 I6 hs') (I3.g5b (Nat.le_refl _) I6.free) q
  ·refine wpAny_mono (T.item (b5g X scope cl s₃.heap.objs.size s₃ H3 fp x) rfl rfl rfl hc i [] s5 _ H5 _ I5 (stat fr5) st5 go) (fun r s6 ⟨u,hr,h6⟩=>?_) fun _ _ z=>z
   subst hr
   refine wpAny_bind (wpAny_mono h6 (fun _ s7 ⟨v,H7,I7,r7,y7,st7,fr7⟩=>?_) fun _ _ z=>z)
   have I7':=I7.pinned (stat fr7) (T.obj _ _ st7)
   have G:=a4p (X:=b5g X scope cl s₃.heap.objs.size s₃ H3 fp x) (pos:=px) (i:=0) (x:=x) S.nd rfl (.inl (lookup_relabel_local S.own)) (.inr (lookup_relabel_local S.own))
   refine wpAny_bind (wpAny_mono (G _ s7 _ H7 v u (fun σ' H'=>σ'=some v :: σ/\H'=H7) I7' r7 ⟨rfl,rfl⟩) (fun _ s8 hs8=>?_) fun _ _ z=>False.elim z)
   obtain⟨σ8,H8,I8,rfl,rfl⟩:=hs8
   refine wpAny_bind (wpAny_bind (wpAny_mono (he cl s₃.heap.objs.size s₃ H3 fp _ s8 _ _ _ I8 (step v H8 y7)) (fun yv s9 hs9=>?_) fun _ _ z=>False.elim z))
   obtain⟨y,H9,I9,r9,hD9,k9⟩:=hs9
   refine wpAny_bind (wpAny_mono (c5n (X:=b5g X scope cl s₃.heap.objs.size s₃ H3 fp x) _ s9 _ H9 (.ref D) [y] (.ref D) [yv] (fun _ H'=>H'=upd H9 D (.lst (ys++[y]))) I9 rfl (.cons r9 .nil) ⟨D,ys,y,rfl,rfl,hD9,hsz,rfl⟩) (fun _ sA hsA=>?_) fun _ _ z=>False.elim z)
   obtain⟨_,HA,IA,_,rfl⟩:=hsA
   refine wpAny_pure ?_
   have wA:=k9 _ a2h.upd a1k
   refine wpAny_pure ⟨rfl,n0 - (i+1),by omega,i+1,ys++[y],some v,_,IA.c1o (pins:=[]) (pl:=c7v fp s7.heap),T.keep _ _ _ st7 (fun b hb o e=>(IA.pin (b,o) (List.mem_append_right _ (List.mem_append_right _ (b0v hb e)))).1),fun b hb=>?_,wA,hlt,rfl⟩
   obtain⟨o,e,d⟩:=T.obj _ _ st7 b hb
   exact (IA.pin (b,o) (List.mem_append_right _ (List.mem_append_right _ (b0v hb e)))).2.1
 exact codeAny_compStart_list loop (T.self _ 0 _ _ _ (T.keep _ _ _ st3 fun b _ o e=>hk1 b o e) loop)
theorem c5s(hi:PI X (.Name x px) iter wi)(he:∀ cl C s₃ H₃ fp,PE (b5g X scope cl C s₃ H₃ fp x) elt te)(S:b8v X scope x)(hc:X.calm=true)
  (hs:∀ x,foldedSetIterable iter X.env x=pure x:=by intro _; rfl):PE X (.ListComp elt [⟨.Name x px,iter,[],0⟩] scope pos) (g6k wi te):=by
 intro pins s σ H Q I h
 obtain⟨cl,hclos,hcl,hcl2⟩:=c3g (env:=X.env) (sc:=scope) fun y hy=>I.ok.has y (S.free _ hy rfl)
 rw [eval_ListComp]
 refine wpAny_comprehension_free (use:=none) rfl hs hclos S.kind S.loc ?_
 refine thn (hi pins s σ H _ I h) fun v s1 h1=>thn h1 fun itv s2 h2=>?_
 obtain⟨it,fp,tn,J,H2,e,I2,T,st2,f2,hW⟩:=h2
 subst e
 exact c7z (RR:=fun acc C=>compPost (model X.prog X.w) X.A X.xe none (EP X pins σ Q) acc C) S hc he hcl hcl2 I2 T st2 f2 hW fun D C s' H' hm hI _ hq =>
  hm.elim fun m hn=>⟨m,hn,fun h' hs'=>⟨.ref D,H',hI h' hs',rfl,hq⟩⟩
theorem g2h{i:Nat}{y:Str}{py spos:Pos}(hN:X.N.Nodup)(hyi:X.N[i]? = some y)(hy:X.env.scope.names.lookup y=some .local)(hi:PI X (.Name x px) iter wi)(he:∀ cl C s₃ H₃ fp,PE (b5g X scope cl C s₃ H₃ fp x) elt te)(S:b8v X scope x)(hc:X.calm=true)
  (hsw:swapsWith (.ListComp elt [⟨.Name x px,iter,[],0⟩] scope pos) (some (.Name y py)) spos.line X.env=pure true:=by rfl)
  (hs:∀ x,foldedSetIterable iter X.env x=pure x:=by intro _; rfl):PS X (.Assign [.Name y py] (.ListComp elt [⟨.Name x px,iter,[],0⟩] scope pos) spos) (g9n (g6k wi te) (f6n i)):=by
 intro pins s σ H D I h
 obtain⟨cl,hclos,hcl,hcl2⟩:=c3g (env:=X.env) (sc:=scope) fun y hy=>I.ok.has y (S.free _ hy rfl)
 rw [exec_Assign_Name_used _ _ _ _ hsw]
 refine wpAny_bind (wpAny_standAt (wpAny_bind ?_))
 show wpAny _ X.A (do let _ <- comprehension (.ListComp elt [⟨.Name x px,iter,[],0⟩] scope pos) scope X.env _ (newList []) false (eval iter X.env) (some (assign (.Name y py) X.env))) _ _ s
 refine wpAny_bind (wpAny_mono (wpAny_comprehension_free (use:=some (assign (.Name y py) X.env)) (Q:=fun _ s'=>SP X pins D .next s') rfl hs hclos S.kind S.loc ?_) (fun _ s' hq=>wpAny_pure (wpAny_pure hq)) fun _ _ e=>e)
 refine thn (hi pins s σ H _ I h) fun v s1 h1=>thn h1 fun itv s2 h2=>?_
 obtain⟨it,fp,tn,J,H2,e,I2,T,st2,f2,hW⟩:=h2
 subst e
 refine c7z (Q:=fun v H'=>D.nx (σ.set i (some v)) H') (RR:=fun acc C=>compPost (model X.prog X.w) X.A X.xe (some (assign (.Name y py) X.env)) (fun _ s'=>SP X pins D .next s') acc C) S hc he hcl hcl2 I2 T st2 f2 hW fun L C s' H' hm hI hfp hq=>?_
 obtain⟨m,hn⟩:=hm
 have I':Inv X pins σ H' s':=hI s'.heap (Heap.SameBut.refl ..)
 show wpAny _ X.A (assign (.Name y py) X.env (.ref L)) _ _ s'
 refine wpAny_assign_Name (c4z (v:=.ref L) I' hN hyi (.inl hy) rfl (fun s'' I'' hsb=>?_) (.inr hy))
 obtain⟨a,hsame,ha⟩:=hsb
 have nea:C≠a:=by
  rcases ha with z | z
  ·rw [z]; exact hfp.2.1
  ·exact fun q=>hfp.2.2.2.2.1 y a z q.symm
 refine⟨m,hn.sameBut hsame nea,fun h' hs'=>⟨_,H',I''.turned (t':=s''.toks) (it:=C) (fun b o hb e=>hs'.extBut b o hb e) hfp.1 hfp.2.1 hfp.2.2.2.1 hfp.2.2.2.2.1 hfp.2.2.2.2.2,hq⟩⟩
end
theorem c0h{K:PySem.W.Frag}{a D:Addr}{xs:List V}{te:TE}{σ:St}{H:Hp}{Q:VK}(Pv:Nat->List V->Hp->Prop)(h0:Pv 0 [] H)(hsz:xs.length<=sizeLine)
  (hD:∀ i ys H,i<=xs.length->Pv i ys H->H D=some (.lst ys)/\SqL K H a xs/\ys.length=i)
  (hs:∀ i x ys H,xs[i]? = some x->Pv i ys H->te (some x :: σ) H fun y H2=>H2 D=some (.lst ys)/\∀ H3,a2h D H2 H3->H3 D=some (.lst (ys++[y]))->Pv (i+1) (ys++[y]) H3)
  (hd:∀ ys H,Pv xs.length ys H->Q (.ref D) H):d9n (Itl K a) te D σ H Q ⟨⟩:=by
 refine⟨xs.length,Pv,h0,fun i ys H hi p=>?_⟩
 obtain⟨e1,e2,e3⟩:=hD i ys H hi p
 refine⟨e1,?_⟩
 by_cases hlt:i < xs.length
 ·refine .inr ⟨hlt,⟨xs,xs[i],e2,by simp [hlt]⟩,by omega,fun x H' y=>?_⟩
  obtain⟨e,y⟩:=y
  subst e
  exact hs i x ys _ (y xs e2) p
 ·have e:i=xs.length:=by omega
  subst e
  exact .inl ⟨⟨xs,e2,Nat.le_refl _⟩,hd ys H p⟩
theorem d5o{D:Addr}{lo:Int}{n:Nat}{te:TE}{σ:St}{H:Hp}{Q:VK}(Pv:Nat->List V->Hp->Prop)(h0:Pv 0 [] H)(hsz:n<=sizeLine)
  (hD:∀ i ys H,i<=n->Pv i ys H->H D=some (.lst ys)/\ys.length=i)
  (hs:∀ i ys H,i < n->Pv i ys H->te (some (.int (lo+i)) :: σ) H fun y H2=>H2 D=some (.lst ys)/\∀ H3,a2h D H2 H3->H3 D=some (.lst (ys++[y]))->Pv (i+1) (ys++[y]) H3)
  (hd:∀ ys H,Pv n ys H->Q (.ref D) H):d9n (Itr lo n) te D σ H Q ⟨⟩:=by
 refine⟨n,Pv,h0,fun i ys H hi p=>?_⟩
 obtain⟨e1,e3⟩:=hD i ys H hi p
 refine⟨e1,?_⟩
 by_cases hlt:i < n
 ·refine .inr ⟨hlt,hlt,by omega,fun x H' y=>?_⟩
  obtain⟨e,y⟩:=y
  subst e y
  exact hs i ys _ hlt p
 ·have e:i=n:=by omega
  subst e
  exact .inl ⟨Nat.le_refl _,hd ys H p⟩
theorem Same.step{D:Addr}{H0 H H':Hp}(S:Same H0 H)(n:H0 D=none)(s:a2h D H H'):Same H0 H':=fun b o e=>s b o (a2r e n) (S b o e)
noncomputable def g0q(sc scope:Scope)(x:Str)(N:List Str):Bool :=
 (scope.kind == .function) && scope.names.all (fun y=>y.2 != .cell) && scope.names.all (fun y=>y.2 != .local || scope.names.lookup y.1 == some .local) && (scope.names.lookup x == some .local) &&
 scope.names.all (fun y => y.2 != .free || (sc.names.lookup y.1 == some .cell || sc.names.lookup y.1 == some .free)) && decide ((x :: mask x N).Nodup) && scope.names.all (fun y => y.1 != "") && (mask x N).all (fun y => scope.names.lookup y != some .local)
theorem d9o{X:Cx}{sc scope:Scope}{x:Str}{N:List Str}(hsc:X.env.scope=sc)(hN:X.N=N)(h:g0q sc scope x N=true):b8v X scope x:=by
 subst hN hsc
 unfold g0q at h
 simp only [Bool.and_eq_true,List.all_eq_true,beq_iff_eq,Bool.or_eq_true,bne_iff_ne,ne_eq,decide_eq_true_eq] at h
 obtain⟨⟨⟨⟨⟨⟨⟨h1,h2⟩,h3⟩,h4⟩,h5⟩,h6⟩,h7⟩,h8⟩:=h
 exact⟨h1,h2,fun y hy e=>(h3 y hy).resolve_left fun z=>z e,h4,fun y hy e=>(h5 y hy).resolve_left fun z=>z e,h6,h7,h8⟩
end L2
namespace L2
open PySem PySem.Spec PyProof.Rows
noncomputable def h0q:V->Hp->Bool:=fun x H=>match x with
 | .ref l=>(match H l with
  | some (.lst _)=>true
  | _=>false)
 | _=>false
noncomputable def g6m:V->Hp->Bool:=fun x _=>match x with
 | .str _=>true
 | _=>false
theorem a9i {K : PySem.W.Frag} : ∀ x H, h0q x H = true → tyV K "list" x H := fun x H h => by
 cases x with
 | ref l =>
  have h':(match H l with
   | some (.lst _)=>true
   | _=>false)=true:=h
  split at h'
  ·rename_i xs e
   exact .inl ⟨rfl,xs,SqL.of e⟩
  ·cases h'
 | _=>cases h
theorem d2t {K : PySem.W.Frag} : ∀ x H, g6m x H = true → tyV K "str" x H := fun x H h => by
 cases x with
 | str z=>exact rfl
 | _=>cases h
def tBMF(chk:V->Hp->Bool)(r:V->List V->Hp->VK->Prop)(to:TE)(t:TA):TE:=fun σ H Q=>to σ H fun x H1=>chk x H1=true/\t σ H1 fun xs H2=>r x xs H2 Q
section
variable {X:Cx}{o e:Expr}{es:List Expr}{to:TE}{t:TA}{name:Str}{apos cpos:Pos}{T id:String}{r r':V->List V->Hp->VK->Prop}{chk:V->Hp->Bool}
theorem MtR.weak(h:MtR X id r)(q:∀ x xs H Q,r' x xs H Q->r x xs H Q):MtR X id r':=fun pins s σ H x xs v us Q I rx rs hr=>h pins s σ H x xs v us Q I rx rs (q x xs H Q hr)
theorem b8w (hchk : ∀ x H, chk x H = true → tyV X.K T x H) (pa : PlainAttrs T) (slot : Slot T name id) (hty : typeOf (.builtin id) = pure (.type "method_descriptor")) (hm : MtR X id r) (ho : PE X o to) (ha : PA X (e :: es) t)
  (hbase:attributeBase o name X.env (eval o X.env)=eval o X.env:=by rfl)
  (hfew:((backTo cpos (starEach (e :: es) X.env)).all (fun x=>!x.1) && (backToKw cpos (keywordEach [] X.env)).all (fun x=>x.1.isSome)
   && decide ((e :: es).length+([] : List Keyword).length+(if ([] : List Keyword).isEmpty then 0 else 1) < 30))=true:=by rfl)
  (hline:(apos.endLine == cpos.line)=true:=by rfl) (hs:starEach (e :: es) X.env=(false,eval e X.env) :: starEach es X.env:=by rfl) (hplain:(backTo cpos (starEach es X.env)).any (·.1)=false:=by rfl) :
  PE X (.Call (.Attribute o name apos) (e :: es) [] cpos) (tBMF chk r to t):=by
 intro pins s σ H Q I h
 refine wpAny_Call_method_late hbase hfew hline rfl (thn (ho pins s σ H _ I h) fun v s1 ⟨x,H1,I1,r1,ty,q1⟩=>?_)
 obtain⟨h1,h2⟩:=g0c I1 r1 (hchk x H1 ty)
 refine⟨T,id,pa,slot,hty,h1,h2,?_⟩
 have hA:=ha cpos pins s1 σ H1 _ I1 q1
 rw [hs] at hA ⊢
 refine Calls.callWith_builtin (by show (false || (backTo cpos (starEach es X.env)).any (·.1))=false; rw [hplain] <;> rfl) (Calls.evalArgs_plain ?_)
 exact thn hA fun us s2 ⟨vs,H2,I2,r2,q2⟩=>hm pins s2 σ H2 x vs v us Q I2 r1 r2 q2
noncomputable def h0r:V->List V->Hp->VK->Prop:=fun x vs H Q=>match x,vs with
 | .ref l,[y]=>(match H l with
  | some (.lst xs)=>xs.length < sizeLine/\All (fun v H1=>v = .non/\a2h l H H1/\H1 l=some (.lst (xs++[y]))) Q ⟨⟩ ⟨⟩
  | _=>False)
 | _,_=>False
theorem a4z : MtR X "list.append" h0r := MtR.weak (r := f2i) c5n fun x vs H Q h => by
 match x,vs,h with
 | .ref l,[y],h =>
  have h':(match H l with
   | some (.lst xs)=>xs.length < sizeLine/\All (fun v H1=>v = .non/\a2h l H H1/\H1 l=some (.lst (xs++[y]))) Q ⟨⟩ ⟨⟩
   | _=>False):=h
  split at h'
  ·rename_i xs e
   exact⟨l,xs,y,rfl,rfl,e,h'.1,h'.2 _ _ ⟨rfl,a2h.upd,a1k⟩⟩
  ·exact h'.elim
end
noncomputable def d5p{α:Type}(xs:List α)(lo hi:Option Int):List α:=(xs.drop (HT.sIx xs.length 0 lo)).take (HT.sIx xs.length xs.length hi - HT.sIx xs.length 0 lo)
theorem c8w(xs:List V)(lo hi:Option Int):f0w xs lo hi=d5p xs lo hi:=rfl
theorem c1v{α β:Type}(f:α->β)(xs:List α)(lo hi:Option Int):d5p (xs.map f) lo hi=(d5p xs lo hi).map f:=by
 unfold d5p
 rw [List.length_map,List.map_take,List.map_drop]
theorem f2v(ns:List Int)(lo hi:Option Int):f0w (ns.map V.int) lo hi=(d5p ns lo hi).map V.int:=c1v V.int ns lo hi
theorem f7m{α:Type}(xs:List α)(lo hi:Option Int):(d5p xs lo hi).length<=xs.length:=by
 unfold d5p
 rw [List.length_take,List.length_drop]
 omega
theorem f2w{α:Type}(xs:List α)(a:Nat):d5p xs (some (a:Int)) none=xs.drop a:=by
 unfold d5p
 rw [HT.f1z,HT.d7w]
 by_cases h:a<=xs.length
 ·rw [Nat.min_eq_left h,List.take_of_length_le (by rw [List.length_drop] <;> exact Nat.le_refl _)]
 ·rw [Nat.min_eq_right (by omega),List.drop_length,List.drop_of_length_le (by omega)]
  simp
theorem c1w{α:Type}(xs:List α)(a:Nat):d5p xs none (some (a:Int))=xs.take a:=by
 unfold d5p
 rw [HT.f1z,HT.d7w,List.drop_zero,Nat.sub_zero]
 by_cases h:a<=xs.length
 ·rw [Nat.min_eq_left h]
 ·rw [Nat.min_eq_right (by omega),List.take_length,List.take_of_length_le (by omega)]
end L2
namespace L2
theorem c4p(F:Nat->St->Hp->Prop):∃ Pv:Nat->St->Hp->Prop,(∀ i σ H,F i σ H->Pv i σ H)/\∀ i σ H,Pv i σ H->F i σ H:=⟨F,fun _ _ _ h=>h,fun _ _ _ h=>h⟩
theorem g0r(F:St->Hp->Prop):∃ Pv:St->Hp->Prop,(∀ σ H,F σ H->Pv σ H)/\∀ σ H,Pv σ H->F σ H:=⟨F,fun _ _ h=>h,fun _ _ h=>h⟩
end L2
namespace L2
open PySem PySem.Spec PyProof.Rows
open PySem.Builtin.Int (intBits)
section
variable {X:Cx}
noncomputable def rSumF:List V->Hp->VK->Prop:=fun xs H Q=>match xs with
 | [.ref p]=>(match H p with
  | some (.lst ys)=>∃ ns:List Int,ys=ns.map V.int/\Q (.int ns.sum) H
  | _=>False)
 | _=>False
end
def Stop(p:Prop)(_:Tag p):Prop:=p
theorem Stop.go{p:Prop}{t:Tag p}(h:p):Stop p t:=h
def h3k(t u:TS):TS:=fun D σ H=>t { D with nx:=fun σ' H'=>Stop (u D σ' H') ⟨⟩ } σ H
def Hs(H:Hp)(fs:List (Addr×HO)):Prop:=(fs.map (·.1)).Nodup/\∀ p∈fs,H p.1=some p.2
theorem Hs.nil{H:Hp}:Hs H []:=⟨List.nodup_nil,fun _ h=>nomatch h⟩
theorem h0s{ns:List Int}{i:Nat}(h:i < ns.length):atI (ns.map V.int) (i:Int)=some (.int (ns.getD i 0)):=by
 refine a4j ?_
 rw [List.getElem?_map,List.getElem?_eq_getElem h,List.getD_eq_getElem?_getD,List.getElem?_eq_getElem h]
 rfl
def h3l(H:Hp)(cs:List Addr)(bs:List (List Int)):Prop:=cs.length=bs.length/\∀ (i:Nat) c b,cs[i]? = some c->bs[i]? = some b->H c=some (.lst (b.map V.int))
theorem h3l.two{H:Hp}{a b:Addr}{x y:List Int}(ha:H a=some (.lst (x.map V.int)))(hb:H b=some (.lst (y.map V.int))):h3l H [a,b] [x,y]:=by
 refine⟨rfl,fun i c d e1 e2=>?_⟩
 match i,e1,e2 with
 | 0,e1,e2=>cases e1; cases e2; exact ha
 | 1,e1,e2=>cases e1; cases e2; exact hb
 | i+2,e1,e2=>simp at e1
def d2u(H:Hp)(xs:List V)(v:V)(H':Hp):Prop:=∃ b,v = .ref b/\H b=none/\Same H H'/\H' b=some (.lst xs)
def g6n(H:Hp)(xs:List V)(v:V)(H':Hp):Prop:=∃ b,v = .ref b/\H b=none/\Same H H'/\H' b=some (.tup xs)
end L2
namespace L2
open PySem PySem.Spec PyProof.Rows
def Kd(e:Addr)(d:Option Addr)(h:Heap):Prop:=∃ o,h.get? e=some o/\o.dict=d
noncomputable def b3t{α:Type}:Sem α->Prop
 | .pure _=>True
 | .raise _=>True
 | .unsupported _=>True
 | .finish _=>True
 | .rule _ k=>b3t (k ())
 | .at _ k=>b3t (k ())
 | .load _ _ k=>∀ o,b3t (k o)
 | .update _ _ f k=>(∀ o:Obj,o.isFreed=false->(f o).isFreed=false/\(f o).dict=o.dict)/\b3t (k ())
 | .alloc _ k=>∀ a,b3t (k a)
 | .stack k=>∀ x,b3t (k x)
 | _=>False
theorem b3t.bind{α β:Type}{f:α->Sem β}(hf:∀ a,b3t (f a)):∀ {m:Sem α},b3t m->b3t (m >>= f):=by
 intro m
 induction m with
 | pure a=>intro _; exact hf a
 | raise e=>intro _; exact True.intro
 | unsupported w=>intro _; exact True.intro
 | finish e=>intro _; exact True.intro
 | rule t k ih=>intro h; exact ih () h
 | «at» p k ih => intro h; exact ih () h
 | load a p k ih=>intro h o; exact ih o (h o)
 | update a p g k ih=>intro h; exact⟨h.1,ih () h.2⟩
 | alloc o k ih=>intro h a; exact ih a (h a)
 | stack k ih=>intro h x; exact ih x (h x)
 | _=>intro h; exact False.elim h
theorem Kd.push{e:Addr}{d:Option Addr}{h:Heap}(x:Kd e d h)(o:Obj):Kd e d (h.push o) :=
 let ⟨u,a,b⟩:=x; ⟨u,Heap.get?_push_of_some _ a,b⟩
theorem Kd.upd{e a:Addr}{d:Option Addr}{h:Heap}{f:Obj->Obj}(x:Kd e d h)(hf:∀ o:Obj,o.isFreed=false->(f o).isFreed=false/\(f o).dict=o.dict):Kd e d (h.update a f):=by
 obtain⟨u,q,b⟩:=x
 have y:=hf u (Heap.get?_some_iff.mp q).2
 by_cases hb:a=e
 ·subst hb
  exact⟨_,Heap.get?_update_self f q y.1,y.2.trans b⟩
 ·exact⟨u,(Heap.get?_update_other h f hb).trans q,b⟩
theorem b3t.wp{α:Type}{M:Model}{Γ:PySem.Ctx}{e:Addr}{d:Option Addr}{Q:α->Pos->Shared->Prop}{E:Value->Pos->Shared->Prop}:∀ {t:Sem α} {p:Pos} {s:Shared},b3t t->Sem.wp M Γ t Q E p s->Kd e d s.heap ->
  Sem.wp M Γ t (fun a p s'=>Q a p s'/\Kd e d s'.heap) (fun v p s'=>E v p s'/\Kd e d s'.heap) p s:=by
 intro t
 induction t with
 | pure a=>intro p s _ h k; rw [Sem.wp] at h ⊢; exact⟨h,k⟩
 | raise e=>intro p s _ h k; rw [Sem.wp] at h ⊢; exact⟨h,k⟩
 | unsupported w=>intro p s _ h k; rw [Sem.wp] at h; exact False.elim h
 | finish e=>intro p s _ h k; rw [Sem.wp] at h; exact False.elim h
 | rule t k ih=>intro p s m h q; rw [Sem.wp] at h ⊢; exact ih () m h q
 | «at» p k ih => intro p s m h q; rw [Sem.wp] at h ⊢; exact ih () m h q
 | load a p k ih=>intro p s m h q; rw [Sem.wp] at h ⊢; exact let ⟨o,x,y⟩:=h; ⟨o,x,ih o (m o) y q⟩
 | update a p g k ih=>intro p s m h q; rw [Sem.wp] at h ⊢; exact⟨h.1,ih () m.2 h.2 (q.upd m.1)⟩
 | alloc o k ih=>intro p s m h q; rw [Sem.wp] at h ⊢; exact ih _ (m _) h (q.push o)
 | stack k ih=>intro p s m h q; rw [Sem.wp] at h ⊢; exact ih _ (m _) h q
 | _=>intro p s m; exact False.elim m
theorem b3t.any{α:Type}{M:Model}{A:Around}{e:Addr}{d:Option Addr}{Q:α->Shared->Prop}{E:Value->Shared->Prop}{t:Sem α}{s:Shared}(m:b3t t)(h:wpAny M A t Q E s)(k:Kd e d s.heap) :
  wpAny M A t (fun a s'=>Q a s'/\Kd e d s'.heap) (fun v s'=>E v s'/\Kd e d s'.heap) s:=fun Γ p hΓ=>m.wp (h Γ p hΓ) k
theorem c0i{v:Value}{i:Nat}:b3t (field v i):=by
 unfold field fieldsOf
 refine b3t.bind (fun vs=>?_) ?_
 ·split <;> exact True.intro
 ·split
  ·refine b3t.bind (fun o=>?_) (fun o=>True.intro)
   split <;> exact True.intro
  ·exact True.intro
theorem b6y{v x:Value}{i:Nat}:b3t (setField v i x):=by
 unfold setField updateField
 split
 ·refine b3t.bind (fun o=>?_) (fun o=>True.intro)
  split
  ·split
   ·refine⟨fun o ho=>?_,True.intro⟩
    obtain⟨c,dd,dt,sl⟩:=o
    cases dt <;> first | exact⟨rfl,rfl⟩ | exact⟨ho,rfl⟩
   ·exact True.intro
  ·exact True.intro
 ·exact True.intro
theorem b4k{e:Value}:b3t (setFlight e none):=by
 unfold setFlight
 refine b3t.bind (fun v=>?_) c0i
 split
 ·exact b6y
 ·exact True.intro
theorem c8g:∀ l:List Env,b3t (readyFrames l)
 | []=>True.intro
 | env :: outer=>by
  unfold readyFrames
  split
  ·refine b3t.bind (fun o=>?_) (fun o=>True.intro)
   split
   ·exact True.intro
   ·refine b3t.bind (fun b=>?_) ?_
    ·refine b3t.bind (fun v=>?_) ?_
     ·refine b3t.bind (fun _=>c8g outer) ⟨fun o ho=>?_,True.intro⟩
      obtain⟨c,dd,dt,sl⟩:=o
      cases dt <;> first | exact⟨rfl,rfl⟩ | exact⟨ho,rfl⟩
     ·unfold keptBack
      split
      ·split
       ·exact True.intro
       ·unfold underTheClaimsCaller
        exact b3t.bind (m := (do return (← stack).any fun (c, _) => match c with | .builtin "claim.caller" _ => true | _ => false : Sem Bool)) (fun v => by exact True.intro) (b3t.bind (m := stack) (fun v => by exact True.intro) fun _ => True.intro)
      ·exact True.intro
    ·unfold behindIsImport
     split
     ·exact True.intro
     ·split
      ·exact True.intro
      ·exact b3t.bind (fun v=>by exact True.intro) c0i
  ·exact True.intro
theorem d2v{e:Value}{env:Env}:b3t (noteFrame e env):=by
 have rest:∀ (f:Addr) (head:Value),b3t (do setField e 1 (<- EntryCells.newEntry head (<- PySem.frameOf env) .none (rawInt f) .none (<- entryPlaceOf f (head != .none)))):=fun f head=>by
  refine b3t.bind (fun a=>b3t.bind (fun pl=>b3t.bind (fun b=>b6y) ?_) ?_) ?_
  ·unfold EntryCells.newEntry newFields newObj
   dsimp only
   generalize (([head,a,.none,rawInt f,.none] : List Value)++(if pl.isEmpty then List.replicate 6 .none else pl)).toArray=vs
   by_cases hz:vs.size > sizeLine+2
   ·rw [if_pos hz]
    exact True.intro
   ·rw [if_neg hz]
    exact fun _=>True.intro
  ·unfold entryPlaceOf
   refine b3t.bind (fun acts=>?_) (fun _=>True.intro)
   split <;> exact True.intro
  ·unfold PySem.frameOf frameEnvs
   refine b3t.bind (fun l=>b3t.bind (fun o=>?_) ?_) (b3t.bind (fun _=>by exact True.intro) fun _=>True.intro)
   ·split <;> exact True.intro
   ·unfold frameObject
    split
    ·exact True.intro
    ·exact b3t.bind (fun _=>by exact True.intro) (c8g _)
 unfold noteFrame
 split
 ·refine b3t.bind (fun head=>?_) c0i
  split
  ·refine b3t.bind (fun v=>?_) c0i
   split
   ·exact True.intro
   ·exact b3t.bind (fun _=>rest _ _) b6y
  ·exact rest _ _
 ·exact True.intro
theorem d2w{env:Env}{e:Value}:b3t (leaving env e):=by
 unfold leaving
 exact b3t.bind (fun _=>b4k) d2v
section
variable {M:Model}{A:Around}{E:Value->Shared->Prop}{s:Shared}{base:Heap}{env:Env}{outer l:List Env}{L e:Addr}{cls a0:Value}{dx:Option Addr}{Q:Unit->Shared->Prop}
theorem f2y(hfr:A.frames=some (env :: outer))(hf:env.frame=some L)(hfl:Heap.FlyingW base (env :: outer) e cls a0 s.heap)(kd:Kd e dx s.heap)
  (hQ:∀ h',Heap.HeldW base (env :: outer) e cls a0 L h'->s.heap.UpToSlots h'->Kd e dx h'->Q () { s with heap:=h' }):wpAny M A (noteFrame (.ref e) env) Q E s:=by
 refine wpAny_mono (d2v.any (E:=fun _ _=>False) (wpAny_looks_onW (Q:=fun _ s'=>∃ h',s' = { s with heap:=h' }/\Heap.HeldW base (env :: outer) e cls a0 L h'/\s.heap.UpToSlots h') hfr hf hfl fun h' a b=>⟨h',rfl,a,b⟩) kd) (fun _ s' z=>?_) fun _ _ z=>z.1.elim
 obtain⟨⟨h',rfl,a,b⟩,c⟩:=z
 exact hQ h' a b c
theorem g6o(hh:Heap.HeldW base l e cls a0 L s.heap)(kd:Kd e dx s.heap)(hQ:∀ h',Heap.FlyingW base l e cls a0 h'->s.heap.UpToSlots h'->Kd e dx h'->Q () { s with heap:=h' }):wpAny M A (setFlight (.ref e) none) Q E s:=by
 refine wpAny_mono (b4k.any (E:=fun _ _=>False) (wpAny_landsW (Q:=fun _ s'=>∃ h',s' = { s with heap:=h' }/\Heap.FlyingW base l e cls a0 h'/\s.heap.UpToSlots h') hh fun h' a b=>⟨h',rfl,a,b⟩) kd) (fun _ s' z=>?_) fun _ _ z=>z.1.elim
 obtain⟨⟨h',rfl,a,b⟩,c⟩:=z
 exact hQ h' a b c
theorem g6p(hh:Heap.FlyingW base l e cls a0 s.heap)(kd:Kd e dx s.heap)(hQ:∀ h',Heap.FlyingW base l e cls a0 h'->s.heap.UpToSlots h'->Kd e dx h'->Q () { s with heap:=h' }):wpAny M A (setFlight (.ref e) none) Q E s:=by
 refine wpAny_mono (b4k.any (E:=fun _ _=>False) (lands_againW (Q:=fun _ s'=>∃ h',s' = { s with heap:=h' }/\Heap.FlyingW base l e cls a0 h'/\s.heap.UpToSlots h') hh fun h' a b=>⟨h',rfl,a,b⟩) kd) (fun _ s' z=>?_) fun _ _ z=>z.1.elim
 obtain⟨⟨h',rfl,a,b⟩,c⟩:=z
 exact hQ h' a b c
theorem c8y{oe:Obj}{vs:Array Value}(hfr:A.frames=some (env :: outer))(hf:env.frame=some L)(hl:s.heap.FunFrames base (env :: outer))(he:s.heap.get? e=some oe)(hc:oe.cls=cls)(hkb:base.StaysIn s.heap)(hen:base.get? e=none)
  (hd:oe.data = .fields vs) (h1:vs[1]? = some .none) (h0:vs[0]? = some a0) (hdx:oe.dict=dx)
  (hQ:∀ h',Heap.FlyingW base outer e cls a0 h'->s.heap.UpToSlots h'->Kd e dx h'->Q () { s with heap:=h' }):wpAny M A (leaving env (.ref e)) Q E s:=by
 subst hc
 refine wpAny_mono (d2w.any (e:=e) (d:=dx) (E:=fun _ _=>False) (wpAny_leaving_firstW (Q:=fun _ s'=>∃ h',s' = { s with heap:=h' }/\Heap.LeftW base (env :: outer) e oe.cls a0 s.heap h') hfr hl hf he hkb hen hd h1 h0 fun h' a=>⟨h',rfl,a⟩) ⟨_,he,hdx⟩) (fun _ s' z=>?_) fun _ _ z=>z.1.elim
 obtain⟨⟨h',rfl,⟨k1,⟨_,_,k2⟩,k3,k4⟩⟩,c⟩:=z
 exact hQ h' ⟨k1,hen,k2,k3⟩ k4 c
end
end L2
namespace L2
open PySem PySem.Spec PyProof.Rows
noncomputable def CXE(P:Program)(w:World):CXT:=fun outer H s E e s'=>∃ (a:Addr) (C a0:Value) (B:Heap) (H':Hp),e = .ref a/\Heap.FlyingW B outer a C a0 s'.heap/\s'.os=s.os/\AllBare s'.gens /\
 (∀ h',B.StaysIn h'->s'.heap.UpToSlots h'->Un (frs outer) [] H H' s.heap h'/\HOk P w H' h')/\H' a=none/\s.heap.get? a=none/\∃ dx,Kd a dx s'.heap/\E C dx H'
theorem a3g.obj{P:Program}{w:World}{H:Hp}{h:Heap}{a:Addr}{o:HO}(x:a3g P w H h a o):∃ u,h.get? a=some u:=by
 cases o with
 | lst xs=>obtain⟨_,_,_,_,e⟩:=x; exact⟨_,e⟩
 | tup xs=>obtain⟨_,_,_,ob,e,_⟩:=x; exact⟨_,e⟩
 | dK kvs=>obtain⟨_,_,_,_,o,_,_,e,_⟩:=x; exact⟨_,e⟩
 | dT kvs=>obtain⟨_,_,_,_,o,_,_,e,_⟩:=x; exact⟨_,e⟩
 | set S n=>obtain⟨o,_,_,_,e,_⟩:=x; exact⟨_,e⟩
 | ins C dx fs=>obtain⟨_,_,_,e,_⟩:=x; exact⟨_,e⟩
 | own y=>obtain⟨_,e⟩:=x; exact⟨_,e⟩
 | xd fs=>obtain⟨_,⟨_,_,_,e,_⟩,_⟩:=x; exact⟨_,e⟩
 | rng lo hi=>obtain⟨_,_,_,e⟩:=x; exact⟨_,e⟩
 | frz ob u=>obtain⟨e,_⟩:=x; exact⟨_,e⟩
 | tbl ps=>exact⟨_,(show h.get? a=some _ from x)⟩
 | met f y=>exact⟨_,(show h.get? a=some _ from x)⟩
 | ext φ=>obtain⟨_,⟨_,e⟩,_⟩:=x; exact⟨_,e⟩
section
variable {X:Cx}{pins:List (Addr×Obj)}{σ:St}{H:Hp}{s:Shared}
theorem Inv.caught{H':Hp}{s':Shared}{h':Heap}{t':Nat}(I:Inv X pins σ H s)(os:s'.os=s.os)(bare:AllBare s'.gens)(u:Un (frs X.stack) [] H H' s.heap h')(hok:HOk X.prog X.w H' h'):Inv X pins σ H' { s' with heap:=h',toks:=t' }:=by
 obtain⟨hh,g,d,t,os'⟩:=s'
 obtain rfl:os'=s.os:=os
 exact Inv.call (s:=s) (h':=h') (g':=g) (d':=d) (t':=t') (ch:=[]) I u hok bare (fun b z=>absurd z (by simp))
theorem Inv.older{a:Addr}(I:Inv X pins σ H s)(hex:X.ex = [])(h:s.heap.get? a=none):X.s₀.heap.get? a=none:=by
 cases q:X.s₀.heap.get? a with
 | none=>rfl
 | some o =>
  obtain⟨o',z⟩:=I.base.there a o q (by rw [hex]; simp)
  rw [h] at z
  cases z
theorem Inv.track{a:Addr}{o:HO}(I:Inv X pins σ H s)(h1:X.s₀.heap.get? a=none)(h2:a≠X.env.locals)(h3:∀ x c,X.env.cells.lookup x=some c->c≠a)(h4:∀ p∈X.pn++pins,p.1≠a)(hH:H a=none)
  (new:a3g X.prog X.w (upd H a o) s.heap a o):Inv X pins σ (upd H a o) s:=by
 refine⟨I.ok,I.os,I.bare,⟨I.base.keep,I.base.slot,fun b u q n hx=>?_,I.base.there,fun b xs q=>?_,fun b u xs q=>?_,fun b ps q=>?_⟩,I.loc,I.cell,?_,fun x c e=>?_,fun p hp=>?_,fun b u e=>?_,I.len⟩
 ·rw [a1l (fun z=>by rw [z,h1] at q; cases q)]
  exact I.base.free b u q n hx
 ·have z:=I.base.tups b xs q
  rw [a1l (a2r z hH)]
  exact z
 ·have z:=I.base.d1s b u xs q
  rw [a1l (a2r z hH)]
  exact z
 ·obtain⟨m,z⟩:=I.base.d4y b ps q
  exact⟨m,by rw [a1l (a2r z hH)]; exact z⟩
 ·rw [a1l h2.symm]
  exact I.free
 ·rw [a1l (h3 x c e)]
  exact I.c0k x c e
 ·obtain⟨e,n,ne,nf,d⟩:=I.pin p hp
  exact⟨e,by rw [a1l (h4 p hp)]; exact n,ne,nf,d⟩
 ·by_cases hb:b=a
  ·subst hb
   rw [a1k] at e
   cases e
   exact new
  ·rw [a1l hb] at e
   exact (I.hok b u e).stay (fun _ _ _ q=>q) (fun c q=>by rw [a1l (a2r q hH)]; exact q) fun c xs q=>by rw [a1l (a2r q hH)]; exact q
end
section
variable {P:Program}{w:World}{K:PySem.W.Frag}{mg:Str->Option Value}{base:Heap}{N:List Str}{qual:Str}{scope:Scope}{f:Addr}{cd:Value}{A:Around}{outer:List Env}{s:Shared}{H:Hp}{E:XK}
theorem f2z{X:Cx}{P:Program}{w:World}:Passes (CXE P w) X E0:=fun _ _ _ _ _ _ _ h=>by
 obtain⟨_,_,_,_,_,_,_,_,_,_,_,_,_,_,z⟩:=h
 exact False.elim z
theorem Fun.okX{x:Str}{st:Stmt}{fd:FuncData}{ps:List Str}{k:Nat}{sp:Sp}(F:Fun K x qual st f fd)(S:a0u N ps (a0o st))(len:∀ vs H Q E,sp vs H Q E->vs.length=ps.length)
  (hbody:∀ (cdv:Value) (A:Around) (outer:List Env) (s:Shared) (H:Hp) (vs:List V) (Q:VK) (E:XK),a4w k (A.deeper (envOfC qual (a0o st) s.heap.objs.size f cdv))->sp vs H Q E ->
   ∃ t,PSs (f6t (CXE P w) P w K mg base N qual (a0o st) f cdv A outer s H E) (c2y st) t/\t { nx:=fun _ H'=>Q .non H',rt:=Q } (start N vs) H):a2t P w K mg base (CXE P w) (k+1) f fd ps sp:=by
 obtain⟨oc,od,kV,doc,pm,an,cdv,ct,osl,rfl,lk,hcd⟩:=F.ex
 exact g5m lk hcd S len fun A outer s H vs Q E hr hsp=>hbody cdv A outer s H vs Q E hr hsp
end
noncomputable abbrev vE : List Value := [.type "ValueError", .type "Exception", .type "BaseException", .type "object"]
structure Exc(K:PySem.W.Frag)(C:Addr):Prop where
 ok : PySem.W.excIn K C vE "ValueError.__new__" = true
section
variable {X:Cx}{e₀:Expr}{rest:List Expr}{t:TA}{x:Str}{C:Addr}{E:XK}{np cpos pos:Pos}
def h3m(C:Addr)(E:XK)(t:TA):TS:=fun _ σ H=>t σ H fun vs H1=>vs.length<=sizeLine/\E (.ref C) none H1
end
structure c1m(K:PySem.W.Frag)(C:Addr):Prop where
 ga : PySem.W.findIn K (.ref C) "__getattribute__" = some (some (.builtin "BaseException.__getattribute__"))
 cl : PySem.W.findIn K (.ref C) "__class__" = some (some (.builtin "object.__class__"))
 ng : PySem.W.findIn K (.ref C) "__getattr__" = some none
 so : PySem.W.subIn K (.ref C) (.type "object") = some true
 sb : PySem.W.subIn K (.ref C) (.type "BaseException") = some true
 ty : PySem.W.typeIn K (.ref C) = some (.type "type")
 ic:PySem.W.isClsIn K C=true
 ss:PySem.W.subIn K (.ref C) (.ref C)=some true
theorem b1j{K:PySem.W.Frag}{C D:Addr}{b:Bool}(h:PySem.W.subIn K (.ref C) (.ref D)=some b)(c:c1m K C)(d:c1m K D):PySem.W.kitOne K (.ref C) (.ref D)=some b:=by
 unfold PySem.W.kitOne
 by_cases e:(Value.ref C == Value.ref D)=true
 ·rw [if_pos e]
  have z:C=D:=Value.ref.inj (beq_iff_eq.mp e)
  subst z
  rw [<- h,c.ss]
 ·rw [if_neg e]
  unfold PySem.W.kitCls
  have z : ((PySem.W.clsIn K D).isSome && PySem.W.typeIn K (.ref D) == some (.type "type")) = true := by
   rw [d.ty,show (PySem.W.clsIn K D).isSome=true from d.ic]
   rfl
  dsimp only
  rw [if_pos z]
  exact h
theorem a7j{K:PySem.W.Frag}{D:Addr}{n:String}{b:Bool}(h:PySem.W.subIn K (.type n) (.ref D)=some b)(d:c1m K D):PySem.W.kitOne K (.type n) (.ref D)=some b:=by
 unfold PySem.W.kitOne
 rw [if_neg (by simp)]
 unfold PySem.W.kitCls
 have z : ((PySem.W.clsIn K D).isSome && PySem.W.typeIn K (.ref D) == some (.type "type")) = true := by
  rw [d.ty,show (PySem.W.clsIn K D).isSome=true from d.ic]
  rfl
 dsimp only
 rw [if_pos z]
 exact h
theorem f7n{K:PySem.W.Frag}{C:Addr}{n:String}{b:Bool}(h:PySem.W.subIn K (.ref C) (.type n)=some b)(hm:PySem.W.kitMeta n=true):PySem.W.kitOne K (.ref C) (.type n)=some b:=by
 unfold PySem.W.kitOne
 rw [if_neg (by simp)]
 unfold PySem.W.kitCls
 dsimp only
 rw [if_pos hm]
 exact h
theorem f3g : PySem.W.kitMeta "ValueError" = true := by kernel_rfl
section
variable {prog:Program}{w:World}{A:Around}{E:Value->Shared->Prop}{h:Heap}{g:Array GenState}{d:Drawn}{t:Nat}{os:OsState}{a C:Addr}{o:Obj}{K:PySem.W.Frag}
theorem g6q{R:Result->Shared->Prop}(X:K.In h)(Z:c1m K C)(hx:h.get? a=some o)(hc:o.cls = .ref C)(hq:R (.ok (.ret (.ref C))) ⟨h,g,d,t,os⟩) :
  codeAny (model prog w) A (.call (.builtin "getset_descriptor.__get__") ⟨[.builtin "object.__class__", .ref a, .ref C], []⟩) R ⟨h, g, d, t, os⟩ := by
 have hT5 : (⟨h, g, d, t, os⟩ : Shared).TypeIs (.builtin "object.__class__") "getset_descriptor" := F.typeOf_object_class
 have hs : PySem.W.subIn K (.ref C) (.type (".".intercalate ("object.__class__".cutAt '.').dropLast)) = some true := by rw [F.owner_object_class]; exact Z.so
 refine codeAny_call_builtin F.slot_gs_get.plain F.entry_gs_get (F.slot_gs_get.check _ _ _ _ _ _ _ _ hT5 (F.args_gs_get _ _ _) ?_)
 repeat (any_goals (first | assumption | (with_reducible refine wpAny_loadPart_at hx ?_; rw [hc]) | with_reducible refine PySem.W.Looks.here (PySem.W.looks_subIn X hs) ?_ | wp_step))
 refine⟨Code.quiet_builtin _ (by decide +kernel),codeAny_builtin F.entry_object_class ?_⟩
 repeat (any_goals (first | assumption | (with_reducible refine wpAny_loadPart_at hx ?_; rw [hc]) | wp_step))
theorem d8g{M:Model}{nameV:Value}{Q:Unit->Shared->Prop}(X:K.In h)(Z:c1m K C)(hx:h.get? a=some o)(hc:o.cls = .ref C)(hq:Q () ⟨h,g,d,t,os⟩) :
  wpAny M A (checkBuiltinCall "BaseException.__getattribute__" ⟨[.ref a, nameV], []⟩) Q E ⟨h, g, d, t, os⟩ := by
 have hk : builtinKind "BaseException.__getattribute__" = some .slot := by decide +kernel
 have hsplit : splitId "BaseException.__getattribute__" = some ("BaseException", "__getattribute__") := by decide +kernel
 have ha:=F.args_bexc_ga (.ref a) nameV
 simp only [checkBuiltinCall,hk,hsplit]
 refine wpAny_bind ?_
 ·unfold isInstance
  repeat (first | (with_reducible refine wpAny_loadPart_at hx ?_; rw [hc]) | with_reducible refine PySem.W.Looks.here (PySem.W.looks_subIn X Z.sb) ?_ | wp_step)
  exact hq
theorem f7o{tk:Tok}{Q:Fin->Shared->Prop}(X:K.In h)(Z:c1m K C)(hx:h.get? a=some o)(hc:o.cls = .ref C)(hq:Q (.done (.ret (.ref C))) ⟨h,g,d,t,os⟩) :
  wpAny (model prog w) A (Builtin.«object.__getattribute__» ⟨[.ref a, .str "__class__" tk], []⟩) Q E ⟨h, g, d, t, os⟩ := by
 have hT5 : (⟨h, g, d, t, os⟩ : Shared).TypeIs (.builtin "object.__class__") "getset_descriptor" := F.typeOf_object_class
 have f5:=F.typeOf_object_class
 have f6:=F.slot_gs_get.lookup
 have f7:=F.slot_gs_set.lookup
 repeat (any_goals (first | assumption | (with_reducible refine wpAny_loadPart_at hx ?_; rw [hc]) | with_reducible refine PySem.W.Looks.here (PySem.W.looks_findIn X Z.cl) ?_ | wp_step))
 refine g6q X Z hx hc ?_
 repeat (any_goals (first | assumption | wp_step))
theorem h0t{tk:Tok}{Q:Value->Shared->Prop}(X:K.In h)(Z:c1m K C)(hx:h.get? a=some o)(hc:o.cls = .ref C)(hq:Q (.ref C) ⟨h,g,d,t,os⟩) :
  wpAny (model prog w) A (getAttrBy (.ref a) (.str "__class__" tk) false) Q E ⟨h, g, d, t, os⟩ := by
 have f3:=F.attrBase_ValueError.ga.bind (.ref a)
 have hx2 : (Value.builtin "BaseException.__getattribute__" == Value.builtin "object.__getattribute__") = false := by decide +kernel
 have hx1 : (onTheHeap (Value.ref C) && Value.builtin "BaseException.__getattribute__" == Value.builtin "object.__getattribute__") = false := by rw [hx2]; rfl
 repeat (any_goals (first | assumption | (with_reducible refine wpAny_loadPart_at hx ?_; rw [hc]) | with_reducible refine PySem.W.Looks.here (PySem.W.looks_findIn X Z.ga) ?_ | with_reducible refine PySem.W.Looks.here (PySem.W.looks_findIn X Z.ng) ?_ | wp_step))
 refine codeAny_call_builtin F.attrBase_ValueError.ga.plain F.entry_bexc_ga (d8g X Z hx hc (f7o X Z hx hc ?_))
 repeat (any_goals (first | assumption | wp_step))
theorem g2i{Q:Option Value->Shared->Prop}(X:K.In h)(Z:c1m K C)(hx:h.get? a=some o)(hc:o.cls = .ref C)(hq:Q (some (.ref C)) ⟨h,g,d,t+1,os⟩) :
  wpAny (model prog w) A (getAttr? (.ref a) "__class__") Q E ⟨h, g, d, t, os⟩ := by
 unfold getAttr? getAttrBy?
 repeat (any_goals (first | assumption | with_reducible apply h0t X Z hx hc | wp_step))
theorem f7p(Z:c1m K C):PySem.W.KitX K (.ref a) (.ref C) (fun h=>∃ o,h.get? a=some o/\o.cls = .ref C) where
 ty:=fun M h X p=>by
  obtain⟨o,e,c⟩:=p
  intro A Q E s k q
  obtain⟨hp,g,d,t,os⟩:=s
  have hx:hp.get? a=some o:=k _ _ e
  repeat (any_goals (first | assumption | (with_reducible refine wpAny_loadPart_at hx ?_; rw [c]) | wp_step))
 it:=fun M h X _=>by
  have z:=Z.ic
  unfold PySem.W.isClsIn PySem.W.clsIn at z
  split at z
  ·rename_i c' d' cd' sl' ho
   intro A' Q' E' s' k q
   unfold isType loadHead
   exact wpAny_bind (wpAny_loadPart (k _ _ (X _ _ ho)) (wpAny_pure q))
  ·cases z
 ne:=fun h tp dd its n sl X htp=>by
  refine Bool.eq_false_iff.mpr fun q=>?_
  have e:C=tp:=Value.ref.inj (beq_iff_eq.mp q)
  subst e
  have z:=Z.ic
  unfold PySem.W.isClsIn PySem.W.clsIn at z
  split at z
  ·rename_i c' d' cd' sl' ho
   have y:=(X _ _ ho).symm.trans htp
   cases y
  ·cases z
 ca:=fun {prog w A E Q s} X p k=>by
  obtain⟨o,e,c⟩:=p
  obtain⟨hp,g,d,t,os⟩:=s
  exact g2i X Z e c k
end
noncomputable def excO(a:Addr)(C:Value):HO:=.ext fun h=>∃ o,h.get? a=some o/\o.cls=C
noncomputable def f6h(a:Addr)(C:Value)(d:Addr):HO:=.ext fun h=>∃ o,h.get? a=some o/\o.cls=C/\o.dict=some d/\∃ vs,o.data = .fields vs
noncomputable def h0u(a:Addr)(C:Value):Option Addr->HO
 | none=>excO a C
 | some d=>f6h a C d
section
variable {X:Cx}
end
def XPo(X:Cx)(pins:List (Addr×Obj))(σ:St)(E:XK)(e:Value)(s':Shared):Prop:=∃ H1 s1,Inv X pins σ H1 s1/\CXE X.prog X.w X.stack H1 s1 E e s'
def PEX(X:Cx)(e:Expr)(t:TE)(E:XK):Prop :=
 ∀ (pins:List (Addr×Obj)) (s:Shared) (σ:St) (H:Hp) (Q:VK),Inv X pins σ H s->t σ H Q->wpAny (model X.prog X.w) X.A (eval e X.env) (EP X pins σ Q) (XPo X pins σ E) s
def PSX(X:Cx)(st:Stmt)(t:TS)(E:XK):Prop :=
 ∀ (pins:List (Addr×Obj)) (s:Shared) (σ:St) (H:Hp) (D:Ends),Inv X pins σ H s->t D σ H->wpAny (model X.prog X.w) X.A (exec st X.env) (SP X pins D) (XPo X pins σ E) s
section
variable {X:Cx}{k:Nat}{f C:Addr}{fd:FuncData}{ps:List Str}{sp:Sp}{dvs:List V}{ds:List Value}{E:XK}{x m:Str}{p pos apos:Pos}{e o:Expr}{es:List Expr}{ta:TE}{t:TA}
theorem g2j{pins:List (Addr×Obj)}{σ:St}{H:Hp}{s:Shared}{Q:VK}{us:List Value}{vs:List V}(F:a2t X.prog X.w X.K X.mg X.base (CXE X.prog X.w) k f fd ps sp)(hr:a4w k X.A)(hb:Binds X.K fd ps ds)(hd:Vals dvs ds)
  (I:Inv X pins σ H s) (r:Vals vs us) (h:sp (vs++dvs) H Q E):wpAny (model X.prog X.w) X.A (call (.ref f) us) (EP X pins σ Q) (XPo X pins σ E) s:=by
 have r2:Vals (vs++dvs) (us++ds):=r.append hd
 have hl:(us++ds).length=ps.length:=by rw [<- r2.length]; exact F.len _ _ _ _ h
 refine wpAny_call (codeAny_mono (F.run X.A X.stack s H ⟨us,[]⟩ (us++ds) (vs++dvs) Q E hr I.env0 (hb s us I.kIn hl) r2 h) fun r s' hq=>?_)
 cases r with
 | error e=>exact⟨H,s,I,hq⟩
 | ok fl =>
  cases fl with
  | ret u=>exact I.after hq
  | next=>exact False.elim hq
  | brk=>exact False.elim hq
  | cont=>exact False.elim hq
theorem f7q{te:TE}(he:PEX X e te E)(hs:swapsWith e none pos.line X.env=pure false:=by rfl):PSX X (.Expr e pos) (g4z te) E:=by
 intro pins s σ H D I h
 exact wpAny_Expr_any (thn (he pins s σ H _ I h) fun v s1 ⟨x,H1,I1,r1,q1⟩=>⟨σ,H1,I1,q1⟩) I.quiet hs
end
section
variable {X:Cx}{pins:List (Addr×Obj)}{σ:St}{H:Hp}{s:Shared}
noncomputable abbrev Cx.held(X:Cx)(e:Addr):Cx:={ X with A:=X.A.mark (some (.ref e)),calm:=false,xe:=fun _ _=>False }
theorem Inv.held(I:Inv X pins σ H s)(e:Addr):Inv (X.held e) pins σ H s :=
 ⟨⟨I.ok.mod,I.ok.kind,I.ok.glob,I.ok.blt,I.ok.above,I.ok.inj,I.ok.has,I.ok.cab,fun h=>Bool.noConfusion h,I.ok.frames,I.ok.stk,I.ok.exf,I.ok.bs,I.ok.bsz,I.ok.g1m,I.ok.g4t,I.ok.d8u,I.ok.frf⟩,I.os,I.bare,I.base,I.loc,I.cell,I.free,I.c0k,I.pin,I.hok,I.len⟩
theorem Inv.g6r{e:Addr}(ok:X.Ok)(I:Inv (X.held e) pins σ H s):Inv X pins σ H s:=⟨ok,I.os,I.bare,I.base,I.loc,I.cell,I.free,I.c0k,I.pin,I.hok,I.len⟩
theorem d5q{K:PySem.W.Frag}{M:Model}{A:Around}{E:Value->Shared->Prop}{a C D:Addr}{o:Obj}{Q:Bool->Shared->Prop}(KX:K.In s.heap)(Z:c1m K D)(hx:s.heap.get? a=some o)(hc:o.cls = .ref C)(hs:PySem.W.subIn K (.ref C) (.ref D)=some true)
  (hq:Q true s):wpAny M A (excMatches (.ref a) (.ref D)) Q E s:=by
 obtain⟨hp,g,d,t,os⟩:=s
 have f:=tc_notTuple
 have hi:PySem.W.Looks M hp (isType (.ref D)) true:=by
  have z:=Z.ic
  unfold PySem.W.isClsIn PySem.W.clsIn at z
  split at z
  ·rename_i c' d' cd' sl' ho
   intro A' Q' E' s' k q
   unfold isType loadHead
   exact wpAny_bind (wpAny_loadPart (k _ _ (KX _ _ ho)) (wpAny_pure q))
  ·cases z
 unfold excMatches isExcClass isInstance
 repeat (first | with_reducible refine PySem.W.Looks.here (PySem.W.looks_typeIn KX Z.ty) ?_ | with_reducible refine PySem.W.Looks.here hi ?_ | with_reducible refine PySem.W.Looks.here (PySem.W.looks_subIn KX Z.sb) ?_ | with_reducible refine PySem.W.Looks.here (PySem.W.looks_subIn KX hs) ?_ | (with_reducible refine wpAny_loadPart_at hx ?_; rw [hc]) | wp_step)
 exact hq
theorem Inv.unset{i:Nat}{x:Str}{h':Heap}{v:Option Value}{m:Str->Option Value}{t':Nat}(I:Inv X pins σ H s)(hN:X.N.Nodup)(hi:X.N[i]? = some x)(hk:X.env.scope.names.lookup x=some .local)(hn:s.heap.Ns X.env.locals m)
  (hl:∀ (j:Nat) (y:Str) (v:V),X.N[j]? = some y->σ[j]? = some (some v)->Vis X.env.scope y->∃ u,RelV v u/\Look X.env s.heap m y u)
  (hn':h'.Ns X.env.locals (fun y=>if y=x then v else m y)) (hs:Heap.SameBut X.env.locals s.heap h'):Inv X pins (σ.set i none) H { s with heap:=h',toks:=t' }:=by
 have hiσ:i < σ.length:=by rw [I.len]; exact (List.getElem?_eq_some_iff.mp hi).1
 refine⟨I.ok,I.os,I.bare,⟨fun b o e n hb hx=>?_,fun b o e n hb hx=>?_,I.base.free,fun b o e hx=>?_,I.base.tups,I.base.d1s,I.base.d4y⟩,⟨_,hn',fun j y v' e1 e2 e3=>?_⟩,fun y c e=>?_,I.free,I.c0k,fun p hp=>?_,fun b ob e=>?_,by simpa using I.len⟩
 ·exact (hs.2 b (Nat.ne_of_lt (Nat.lt_of_lt_of_le (Heap.lt_size e) I.ok.above))).trans (I.base.keep b o e n hb hx)
 ·obtain⟨sl,e1⟩:=I.base.slot b o e n hb hx
  exact⟨sl,(hs.2 b (Nat.ne_of_lt (Nat.lt_of_lt_of_le (Heap.lt_size e) I.ok.above))).trans e1⟩
 ·obtain⟨o',e1⟩:=I.base.there b o e hx
  exact⟨o',(hs.2 b (Nat.ne_of_lt (Nat.lt_of_lt_of_le (Heap.lt_size e) I.ok.above))).trans e1⟩
 ·by_cases hj:j=i
  ·subst hj
   rw [List.getElem?_set_self hiσ] at e2
   cases e2
  ·rw [List.getElem?_set_ne (Ne.symm hj)] at e2
   obtain⟨u',r',q⟩:=hl j y v' e1 e2 e3
   refine⟨u',r',?_⟩
   rcases q with ⟨k,e⟩ | ⟨k,c,e,z⟩
   ·refine .inl ⟨k,?_⟩
    have hyx:y≠x:=fun e=>hj (c8o hN e1 (e▸hi))
    simp [hyx,e]
   ·exact .inr ⟨k,c,e,z.sameBut hs (I.cne y c e)⟩
 ·obtain⟨w',z⟩:=I.cell y c e
  exact⟨w',z.sameBut hs (I.cne y c e)⟩
 ·obtain⟨e,n,ne,nf,d⟩:=I.pin p hp
  exact⟨(hs.2 p.1 ne).trans e,n,ne,nf,d⟩
 ·refine (I.hok b ob e).stay (fun c w' hc q=>(hs.2 c ?_).trans q) (fun _ q=>q) fun _ _ q=>q
  intro z
  have hf:=I.free
  rw [<- z] at hf
  rcases hc with r | r
  ·rw [r,e] at hf
   cases hf
  ·rw [hf] at r
   cases r
end
theorem g2k{P:Program}{w:World}{H:Hp}{h:Heap}{a:Addr}{C:Value}{dx:Option Addr}{ob:Obj}{vs:Array Value}(e:h.get? a=some ob)(c:ob.cls=C)(f:ob.data = .fields vs)(k:Kd a dx h):a3g P w H h a (h0u a C dx):=by
 cases dx with
 | none=>exact⟨⟨ob,e,c⟩,⟨ob,e⟩,fun h1 h2 ⟨o,e1,e2⟩ k=>⟨o,k o e1,e2⟩⟩
 | some d =>
  obtain⟨o,e',q⟩:=k
  rw [e] at e'
  cases e'
  exact⟨⟨ob,e,c,q,vs,f⟩,⟨ob,e⟩,fun h1 h2 ⟨o,e1,e2⟩ k=>⟨o,k o e1,e2⟩⟩
def hAs(K:PySem.W.Frag)(D:Addr)(i:Nat)(th:TS)(Dn:Ends)(σ:St):XK:=fun C dx H'=>∃ c,C = .ref c/\PySem.W.subIn K (.ref c) (.ref D)=some true /\
 ∀ e H2,H' e=none->Same H' H2->H2 e=some (h0u e (.ref c) dx)->th { nx:=fun σ2 H3=>Dn.nx (σ2.set i none) H3,rt:=Dn.rt,bk:=fun σ2 H3=>Dn.bk (σ2.set i none) H3,ct:=fun σ2 H3=>Dn.ct (σ2.set i none) H3 } (σ.set i (some (.ref e))) H2
def g6s(K:PySem.W.Frag)(D:Addr)(i:Nat)(tb:XK->TS)(th:TS):TS:=fun Dn σ H=>tb (hAs K D i th Dn σ) Dn σ H
section
variable {X:Cx}{D:Addr}{dn n:Str}{i:Nat}{st b₀:Stmt}{suite:List Stmt}{tb:XK->TS}{th:TS}{np hpos pos:Pos}
theorem f7r(hb:∀ E,PSX X st (tb E) E)(hh:∀ e,PSs (X.held e) (b₀ :: suite) th)(hg:Gl X dn)(hm:X.mg dn=some (.ref D))(ZD:c1m X.K D)(hN:X.N.Nodup)(hi:X.N[i]? = some n)(hk:X.env.scope.names.lookup n=some .local)
  (hst : X.stack = X.env :: X.outer := by rfl) (hfr : X.env.frame = some X.env.locals := by rfl) (hex : X.ex = [] := by rfl) (hdb : (dn == ("__debug__" : Str)) = false := by decide) :
  PS X (.Try [st] [.ExceptHandler (some (.Name dn np)) (some n) (b₀ :: suite) hpos] [] [] pos) (g6s X.K D i tb th):=by
 intro pins s σ H Dn I h
 refine wpAny_Try_except (wpAny_execs_cons (wpAny_mono (hb _ pins s σ H Dn I h) (fun f s1 q=>?_) fun e s1 q=>?_))
 ·cases f with
  | next=>exact wpAny_execs_nil (wpAny_execs_nil q)
  | ret v=>exact q
  | brk=>exact q
  | cont=>exact q
 ·obtain⟨H1,s0,I1,a,C,a0,B,H',rfl,fl,os,bare,un,hn0,nw,dx,kd,c,rfl,hsub,k⟩:=q
  have hA:X.A.frames=some (X.env :: X.outer):=by rw [<- hst]; exact I1.ok.frames
  rw [hst] at fl
  refine f2y hA hfr fl kd fun h4 hd4 sm4 kd4=>g6o hd4 kd4 fun h5 fl5 sm5 kd5=>?_
  have u5:=un h5 fl5.1 (sm4.trans sm5)
  have I5:Inv X pins σ H' { s1 with heap:=h5,toks:=s1.toks }:=I1.caught os bare u5.1 u5.2
  have cls:=I.ok.kind
  obtain⟨ob,hob,hcl⟩:=fl5.there
  refine wpAny_handleBy_cons (codeAny_handlers_test ?_) (by intro q; cases q)
  refine b8p (X:=X.held a) (s:={ s1 with heap:=h5 }) (I5.held a) hg hm ?_ hdb
  refine d5q (s:={ s1 with heap:=h5 }) I5.kIn ZD hob hcl hsub ?_
  refine codeAny_handlers_suite_as (g6p fl5 kd5 fun h6 fl6 sm6 kd6=>?_)
  have u6:=un h6 fl6.1 ((sm4.trans sm5).trans sm6)
  have I6:Inv X pins σ H' { s1 with heap:=h6,toks:=s1.toks }:=I1.caught os bare u6.1 u6.2
  obtain⟨ob6,vs6,hob6,hcl6,hda6,_⟩:=fl6.first
  have nl:a≠X.env.locals:=fun z=>by
   obtain⟨m,⟨o,_,_,ho,_⟩,_⟩:=I1.loc
   rw [<- z,nw] at ho
   cases ho
  have I7:Inv X pins σ (upd H' a (h0u a (.ref c) dx)) { s1 with heap:=h6,toks:=s1.toks }:=by
   refine I6.track (I1.older hex nw) nl (fun x cc e z=>?_) (fun p hp z=>?_) hn0 (g2k hob6 hcl6 hda6 kd6)
   ·obtain⟨v,o,ho,_⟩:=I1.cell x cc e
    rw [z,nw] at ho
    cases ho
   ·have ho:=(I1.pin p hp).1
    rw [z,nw] at ho
    cases ho
  refine c8p (X:=X.held a) (v:=.ref a) (I7.held a) hN hi (.inl hk) rfl (fun s8 I8=>?_) (.inr hk)
  refine wpAny_mono (hh a pins s8 _ _ _ I8 (k a _ hn0 (Same.upd hn0) a1k)) (fun f s9 q9=>?_) fun _ _ z=>False.elim z
  have goes:∀ {σ9:St} {H9:Hp} {Q9:Shared->Prop},Inv (X.held a) pins σ9 H9 s9->(∀ s',Inv X pins (σ9.set i none) H9 s'->Q9 s')->wpAny (model X.prog X.w) X.A (do bindName X.env n .none; unbindBehindTheSuite X.env n hpos) (fun _ s'=>Q9 s') X.xe s9:=by
   intro σ9 H9 Q9 J kk
   have J':=J.g6r I.ok
   obtain⟨m,hn,hl⟩:=id J'.loc
   refine wpAny_nameGoes_keeps hk hn (by rw [I.ok.kind]; rfl) fun h' v hn' hs'=>kk _ ?_
   exact J'.unset hN hi hk hn hl hn' hs'
  cases f with
  | next =>
   obtain⟨σ',H9,J,q⟩:=q9
   exact goes (Q9:=fun s'=>SP X pins Dn .next s') J fun s' J'=>⟨_,_,J',q⟩
  | brk =>
   obtain⟨σ',H9,J,q⟩:=q9
   exact goes (Q9:=fun s'=>SP X pins Dn .brk s') J fun s' J'=>⟨_,_,J',q⟩
  | cont =>
   obtain⟨σ',H9,J,q⟩:=q9
   exact goes (Q9:=fun s'=>SP X pins Dn .cont s') J fun s' J'=>⟨_,_,J',q⟩
  | ret u =>
   obtain⟨v,σ',H9,J,r,q⟩:=q9
   exact goes (Q9:=fun s'=>SP X pins Dn (.ret u) s') J fun s' J'=>⟨v,_,_,J',r,q⟩
end
def h3n:TE:=fun _ H Q=>New H (.dK []) Q ⟨⟩
end L2
namespace L2
open PySem PySem.Spec PyProof.Rows
section
variable {X:Cx}{tg:Expr}
noncomputable def h0v(g:Str->Str->V):V->List V->Hp->VK->Prop:=fun x vs H Q=>match x,vs with
 | .str z,[.str y]=>Q (g z y) H
 | _,_=>False
theorem c8z : MtR X "str.startswith" (h0v fun z y => .bl (Txt.startswith z y)) := by
 intro pins s σ H x xs v us Q I rx rs h
 match x,xs,h with
 | .str z,[.str y],q =>
  obtain⟨t,rfl⟩:=rx
  obtain⟨u,rfl,t',rfl⟩:=vals1 rs
  exact call_gives F.slot_str_startswith (typeIs_str _ _ _) F.entry_str_startswith (F.args_str_startswith_2 _ _) (gives_str_startswith z y t t') ⟨.bl (Txt.startswith z y),H,I,rfl,q⟩
noncomputable def Its(x:Str):It:=⟨fun i _=>i < x.cps.size,fun i H v H'=>H'=H/\∃ c,x.cps[i]? = some c/\v = .str ⟨#[c]⟩,fun i _=>i=x.cps.size⟩
theorem f7s {P : Program} {w : World} {K : PySem.W.Frag} (it : Addr) (x : Str) (t : Tok) {n : String} (hn : ["enumerate", "zip", "dict_itemiterator", "dict_reverseitemiterator", "odict_iterator", "itertools.zip_longest", "itertools.pairwise"].contains n = false)
  (W:∀ A':Around,A'.handled=none->Walks P w A' it [it] [it] x.cps.size (SignAt x) (fun i h=>h.IsStrIter it n x t i))
  (S:∀ (A:Around) (i:Nat) (s:Shared) (Q:Value->Shared->Prop) (E:Value->Shared->Prop),s.heap.IsStrIter it n x t i->Q (.ref it) s->wpAny (model P w) A (pyIter (.ref it)) Q E s):Turn P w K tg (Its x) [it] it (fun i h=>h.IsStrIter it n x t i) where
 mem:=by simp
 obj:=fun i h st b hb=>by
  have e:b=it:=by simpa using hb
  subst e
  obtain⟨o,e,c,d⟩:=st
  exact⟨o,e,fun v z=>by rw [d] at z; cases z⟩
 keep:=fun i h h' st k=>let ⟨o,ho,r⟩:=st; ⟨o,k it (by simp) o ho,r⟩
 item:=by
  intro X hP hw hK hc i pins s σ H E I hf st hg
  subst hP hw hK
  obtain⟨f0,f1,f2,f3,f4,f5⟩:=hf it (by simp)
  refine (W _ (I.ok.hd hc)).item i s _ _ hg st fun v h' tk hv st' kk=>?_
  obtain⟨c,u,hc',rfl⟩:=hv
  have I1:Inv X pins σ H { s with heap:=h',toks:=tk }:=I.turned (fun b o hb e=>kk b o (by simpa using hb) e) f0 f1 f3 f4 f5
  obtain⟨o,e1,c1,d1⟩:=id st'
  exact⟨_,rfl,g1n (s:={ s with heap:=h',toks:=tk }) e1 c1 d1 hn ⟨.str ⟨#[c]⟩,H,I1,⟨u,rfl⟩,⟨rfl,c,hc',rfl⟩,st',fun b hb=>(hf b hb).1⟩⟩
 done:=by
  intro X hP hw hK hc i pins s σ H E I hf st hg
  subst hP hw hK
  obtain⟨f0,f1,f2,f3,f4,f5⟩:=hf it (by simp)
  have hi:i=x.cps.size:=hg
  subst hi
  exact (W _ (I.ok.hd hc)).done s _ _ st fun h' tk kk=>⟨rfl,I.turned (t':=tk) (fun b o hb e=>kk b o (by simpa using hb) e) f0 f1 f3 f4 f5⟩
 self:=S
def iStr(tl:TE):TI:=fun σ H R=>tl σ H fun x H1=>match x with
 | .str z=>R (Its z) H1
 | _=>False
theorem g0s{l:Expr}{tl:TE}(hl:PE X l tl):PI X tg l (iStr tl):=by
 intro pins s σ H R I h
 refine thn (hl pins s σ H _ I h) fun v s1 ⟨x,H1,I1,r1,q1⟩=>?_
 cases x with
 | str z =>
  obtain⟨t,rfl⟩:=r1
  have fin : ∀ (o : Obj) (n : String), ["enumerate", "zip", "dict_itemiterator", "dict_reverseitemiterator", "odict_iterator", "itertools.zip_longest", "itertools.pairwise"].contains n = false → (s1.heap.push o).IsStrIter s1.heap.objs.size n z t 0 →
    (∀ A':Around,A'.handled=none->Walks X.prog X.w A' s1.heap.objs.size [s1.heap.objs.size] [s1.heap.objs.size] z.cps.size (SignAt z) (fun i h=>h.IsStrIter s1.heap.objs.size n z t i)) ->
    (∀ (A:Around) (i:Nat) (s:Shared) (Q:Value->Shared->Prop) (E:Value->Shared->Prop),s.heap.IsStrIter s1.heap.objs.size n z t i->Q (.ref s1.heap.objs.size) s->wpAny (model X.prog X.w) A (pyIter (.ref s1.heap.objs.size)) Q E s) ->
    PIE X pins σ tg R (.ref s1.heap.objs.size) { s1 with heap:=s1.heap.push o }:=fun o n hn st W S=>by
   refine⟨s1.heap.objs.size,[s1.heap.objs.size],_,_,H1,rfl,I1.kept (t':=s1.toks) fun b o e=>Heap.get?_push_of_some _ e,f7s _ z t hn W S,st,fun b hb=>?_,q1⟩
   have e:b=s1.heap.objs.size:=by simpa using hb
   subst e
   exact I1.g5b (Nat.le_refl _) (I1.hok.fresh (Nat.le_refl _))
  cases ha:z.cps.all (· < 128)
  ·exact wpAny_pyIter_wide ha (fin _ "str_iterator" (by decide) ⟨_, Heap.get?_push_size _ rfl, rfl, rfl⟩ (fun A' hA => Walks.strWide hA _ z t) fun _ _ _ _ _ st hQ => wpAny_pyIter_striter_wide st hQ)
  ·exact wpAny_pyIter_ascii ha (fin _ "str_ascii_iterator" (by decide) ⟨_, Heap.get?_push_size _ rfl, rfl, rfl⟩ (fun A' hA => Walks.strAscii hA _ z t) fun _ _ _ _ _ st hQ => wpAny_pyIter_striter_ascii st hQ)
 | _=>exact False.elim q1
theorem f7t{x:Str}{g:TG}{tb:TS}{D:Ends}{σ:St}{H:Hp}(Pv:Nat->St->Hp->Prop)(h0:Pv 0 σ H)
  (hs:∀ i c σ H,x.cps[i]? = some c->Pv i σ H->g (.str ⟨#[c]⟩) σ H fun σ2 H2=>tb { D with nx:=Pv (i+1),ct:=Pv (i+1),bk:=D.nx } σ2 H2) (hd:∀ σ H,Pv x.cps.size σ H->D.nx σ H):g8x (Its x) g tb D σ H:=by
 refine⟨fun i m σ H=>m=x.cps.size - i/\i<=x.cps.size/\Pv i σ H,⟨x.cps.size,by simp,Nat.zero_le _,h0⟩,?_⟩
 rintro i m σ H ⟨rfl,hi,p⟩
 by_cases hlt:i < x.cps.size
 ·refine .inr ⟨hlt,Pv (i+1),fun σ' H' p'=>⟨x.cps.size - (i+1),by omega,rfl,hlt,p'⟩,fun v H' y=>?_⟩
  obtain⟨e,c,hc,e2⟩:=y
  subst e e2
  exact hs i c σ _ hc p
 ·have e:i=x.cps.size:=by omega
  subst e
  exact .inl ⟨rfl,hd σ H p⟩
noncomputable def rSlA:V->Option Int->Option Int->Hp->VK->Prop:=fun x lo hi H Q=>match x with
 | .ref a=>(match H a with
  | some (.lst xs)=>New H (.lst (f0w xs lo hi)) Q ⟨⟩
  | _=>False)
 | .str z=>z.length<=sizeLine/\Q (.str (Txt.slice z lo hi)) H
 | _=>False
theorem g6t:SlR X rSlA:=by
 intro pins s σ H x v vl vu lo hi sl Q I rx hs pl pu h
 cases x with
 | ref a=>exact sl_M pins s σ H _ v vl vu lo hi sl Q I rx hs pl pu h
 | str z =>
  obtain⟨t,rfl⟩:=rx
  obtain⟨hz,q⟩:=h
  have fin:∀ t' k,EP X pins σ Q (.str (Txt.slice z lo hi) t') { s with toks:=k }:=fun t' k=>⟨.str _,H,I.tok k,⟨_,rfl⟩,q⟩
  refine ⟨"str", _, F.slot_str_getitem.lookup, typeIs_str _ _ _, ?_⟩
  cases pl with
  | none =>
   cases pu with
   | none=>exact wpAny_getItem_str_slice (l:=none) (u:=none) (st:=none) hs rfl (post_val_or_str ⟨Nat.le_trans (Txt.slice_le z _ _) hz,fin⟩)
   | int j uj=>exact wpAny_getItem_str_slice (l:=none) (u:=some (j,uj)) (st:=none) hs rfl (post_val_or_str ⟨Nat.le_trans (Txt.slice_le z _ _) hz,fin⟩)
  | int i ui =>
   cases pu with
   | none=>exact wpAny_getItem_str_slice (l:=some (i,ui)) (u:=none) (st:=none) hs rfl (post_val_or_str ⟨Nat.le_trans (Txt.slice_le z _ _) hz,fin⟩)
   | int j uj=>exact wpAny_getItem_str_slice (l:=some (i,ui)) (u:=some (j,uj)) (st:=none) hs rfl (post_val_or_str ⟨Nat.le_trans (Txt.slice_le z _ _) hz,fin⟩)
 | _=>exact False.elim h
noncomputable def h0w:List V->Hp->VK->Prop:=fun xs H Q=>match xs with
 | [.int i]=>Q (.int i) H
 | [.bl k]=>Q (.int (if k then 1 else 0)) H
 | [.str z]=>∃ n,PySem.intText? z=some n/\z.length<=640/\Q (.int n) H
 | _=>False
theorem c5t : b8n X (.type "int") h0w := by
 intro pins s σ H xs us Q I r h
 match xs,r,h with
 | [.int i],r,q=>exact d1u pins s σ H _ us Q I r (.inl ⟨i,rfl,q⟩)
 | [.bl k],r,q=>exact d1u pins s σ H _ us Q I r (.inr ⟨k,rfl,q⟩)
 | [.str z],r,⟨n,hn,hl,q⟩ =>
  obtain⟨u,rfl,t,rfl⟩:=vals1 r
  exact PySem.W.KIN.call_text hn hl ⟨.int n,H,I.tok _,⟨_,rfl⟩,q⟩
noncomputable def rStrI:List V->Hp->VK->Prop:=fun xs H Q=>match xs with
 | [.int i]=>i.natAbs.log2 < 1920/\Q (.str (toString i)) H
 | _=>False
def tFmt(te:TE):TE:=fun σ H Q=>te σ H fun x H1=>match x with
 | .int i=>i.natAbs.log2 < 1920/\Q (.str (toString i)) H1
 | .str y=>y.length<=sizeLine/\Q (.str y) H1
 | _=>False
theorem g6u{e:Expr}{te:TE}{pos:Pos}(he:PE X e te):PE X (.FormattedValue e (-1) none pos) (tFmt te):=by
 intro pins s σ H Q I h
 refine wpAny_FormattedValue_plain (thn (he pins s σ H _ I h) fun v s1 ⟨x,H1,I1,r1,q1⟩=>?_)
 cases x with
 | int i =>
  obtain⟨t,rfl⟩:=r1
  exact wpAny_formatField_int q1.1 ⟨.str (toString i),H1,I1.tok _,⟨_,rfl⟩,q1.2⟩
 | str y =>
  obtain⟨t,rfl⟩:=r1
  exact wpAny_formatField_str (hx:=q1.1) ⟨.str y,H1,I1,⟨_,rfl⟩,q1.2⟩ ⟨.str y,H1,I1.tok _,⟨_,rfl⟩,q1.2⟩
 | _=>exact False.elim q1
noncomputable abbrev TJ:=Str->St->Hp->(Str->Hp->Prop)->Prop
def PJ(X:Cx)(es:List Expr)(t:TJ):Prop:=∀ (pins:List (Addr×Obj)) (acc:Str) (s:Shared) (σ:St) (H:Hp) (Q:Str->Hp->Prop) (Q':Str->Shared->Prop),Inv X pins σ H s->t acc σ H Q->(∀ out H1 s1,Inv X pins σ H1 s1->Q out H1->Q' out s1) ->
 Joins (model X.prog X.w) X.A X.xe (evalEach es X.env) acc Q' s
noncomputable def h0x:TJ:=fun acc _ H Q=>Q acc H
def g6v(te:TE)(tr:TJ):TJ:=fun acc σ H Q=>te σ H fun x H1=>match x with
 | .str y=>acc.length+y.length<=sizeLine/\tr (acc++y) σ H1 Q
 | _=>False
theorem g6w:PJ X [] h0x:=fun pins acc s σ H Q Q' I h k=>k acc H s I h
theorem f3h{e:Expr}{es:List Expr}{te:TE}{tr:TJ}(he:PE X e te)(hr:PJ X es tr)(hs:evalEach (e :: es) X.env=eval e X.env :: evalEach es X.env:=by rfl):PJ X (e :: es) (g6v te tr):=by
 intro pins acc s σ H Q Q' I h k
 rw [hs]
 refine thn (he pins s σ H _ I h) fun v s1 ⟨x,H1,I1,r1,q1⟩=>?_
 cases x with
 | str y =>
  obtain⟨t,rfl⟩:=r1
  exact⟨y,t,rfl,by rw [strLen_append]; exact q1.1,hr pins (acc++y) s1 σ H1 Q Q' I1 q1.2 k⟩
 | _=>exact False.elim q1
def h0y(tj:TJ):TE:=fun σ H Q=>tj Str.empty σ H fun out H1=>out.length<=sizeLine/\Q (.str out) H1
theorem f3i{e₁ e₂:Expr}{es:List Expr}{tj:TJ}{pos:Pos}(h:PJ X (e₁ :: e₂ :: es) tj):PE X (.JoinedStr (e₁ :: e₂ :: es) pos) (h0y tj):=by
 intro pins s σ H Q I hq
 exact wpAny_JoinedStr (h pins Str.empty s σ H _ _ I hq fun out H1 s1 I1 q=>⟨q.1,.str out,H1,I1.tok _,⟨_,rfl⟩,q.2⟩)
noncomputable def b5i(x y:Str):List Str:=if (decide (x.length < y.length) || decide (Builtin.Str.strKind x < Builtin.Str.strKind y))=true then [x] else if (Builtin.Str.occurrences x y 0 x.length (x.length+1)).isEmpty=true then [x] else Builtin.Str.partsBetween x (Builtin.Str.occurrences x y 0 x.length (x.length+1)) y.length
noncomputable def g6x:V->List V->Hp->VK->Prop:=fun x vs H Q=>match x,vs with
 | .str z,[.str y]=>(y.length == 0)=false/\z.length<=sizeLine/\(b5i z y).length<=sizeLine/\New H (.lst ((b5i z y).map V.str)) Q ⟨⟩
 | _,_=>False
theorem d2y:∀ (l:List Str) (k:Nat),Vals (l.map V.str) (strsFrom k l)
 | [],_=>.nil
 | x :: l,k=>.cons ⟨_,rfl⟩ (d2y l (k+1))
theorem f7u : MtR X "str.split" g6x := by
 intro pins s σ H x xs v us Q I rx rs h
 match x,xs,h with
 | .str z,[.str y],⟨hy,hz,hn,q⟩ =>
  obtain⟨t,rfl⟩:=rx
  obtain⟨u,rfl,t',rfl⟩:=vals1 rs
  have fr:H s.heap.objs.size=none:=I.hok.fresh (Nat.le_refl _)
  have itself : b5i z y = [z] → EP X pins σ Q (.ref s.heap.objs.size) { s with heap := s.heap.push { cls := .type "list", data := .seq [Value.str z t].toArray } } := fun e => by
   rw [e] at q
   exact⟨.ref _,_,I.laid (o:=.lst ([z].map V.str)) (t':=s.toks) (fun b u e=>Heap.get?_push_of_some _ e) (Nat.le_refl _) ⟨show 1<=sizeLine by decide,[Value.str z t],0,.cons ⟨t,rfl⟩ .nil,Heap.get?_push_size _ rfl⟩,rfl,q.raw _ fr⟩
  by_cases h1:(decide (z.length < y.length) || decide (Builtin.Str.strKind z < Builtin.Str.strKind y))=true
  ·exact call_meets F.slot_str_split (typeIs_str _ _ _) F.entry_str_split (F.args_str_split_2 _ _) (meets_str_split_cannot_occur z y t t' h1) (itself (by unfold b5i; rw [if_pos h1]))
  ·have h1':=Bool.eq_false_iff.mpr h1
   by_cases h2:(Builtin.Str.occurrences z y 0 z.length (z.length+1)).isEmpty=true
   ·exact call_meets F.slot_str_split (typeIs_str _ _ _) F.entry_str_split (F.args_str_split_2 _ _) (meets_str_split_not_found z y t t' h1' hy h2) (itself (by unfold b5i; rw [if_neg h1,if_pos h2]))
   ·have h2':=Bool.eq_false_iff.mpr h2
    have e:b5i z y=Builtin.Str.partsBetween z (Builtin.Str.occurrences z y 0 z.length (z.length+1)) y.length:=by unfold b5i; rw [if_neg h1,if_neg h2]
    refine call_meets F.slot_str_split (typeIs_str _ _ _) F.entry_str_split (F.args_str_split_2 _ _) (meets_str_split_sep z y t t' h1' hy h2' hz (by rw [<- e]; exact hn)) ?_
    rw [<- e]
    refine⟨.ref _,_,I.laid (o:=.lst ((b5i z y).map V.str)) (t':=s.toks+(b5i z y).length) (fun b u e=>Heap.get?_push_of_some _ e) (Nat.le_refl _) ⟨by rw [List.length_map]; exact hn,strsFrom s.toks (b5i z y),0,d2y _ _,Heap.get?_push_size _ rfl⟩,rfl,q.raw _ fr⟩
noncomputable def g2l(z y:Str):Bool:=!(Builtin.Str.occurrences z y 0 z.length 1).isEmpty
def h3o(neg:Bool):R2:=fun x y H Q=>match y with
 | .str z=>(match x with
  | .str y=>Q (.bl (g2l z y != neg)) H
  | _=>False)
 | .ref p=>(match H p with
  | some (.lst xs)=>b3r x=true/\xs.all b3r=true/\Q (.bl (inV x xs != neg)) H
  | some (.tup xs)=>b3r x=true/\xs.all b3r=true/\Q (.bl (inV x xs != neg)) H
  | _=>False)
 | _=>False
theorem d2z:OpR X (compareOp .In) (h3o false):=by
 intro pins s σ H x y v u Q I rx ry h
 cases y with
 | str z =>
  cases x with
  | str y =>
   have h:Q (.bl (g2l z y != false)) H:=h
   rw [Bool.bne_false] at h
   exact f1t pins s σ H _ _ v u Q I rx ry ⟨y,z,rfl,rfl,h⟩
  | _=>exact False.elim h
 | ref p =>
  have h:(match H p with
   | some (.lst xs)=>b3r x=true/\xs.all b3r=true/\Q (.bl (inV x xs != false)) H
   | some (.tup xs)=>b3r x=true/\xs.all b3r=true/\Q (.bl (inV x xs != false)) H
   | _=>False):=h
  split at h
  ·rename_i xs e
   rw [Bool.bne_false] at h
   exact d2j pins s σ H _ _ v u Q I rx ry ⟨p,xs,rfl,.inl (SqL.of e),h.1,h.2.1,by simpa using h.2.2⟩
  ·rename_i xs e
   rw [Bool.bne_false] at h
   exact d2j pins s σ H _ _ v u Q I rx ry ⟨p,xs,rfl,.inr (SqT.of e),h.1,h.2.1,by simpa using h.2.2⟩
  ·exact h.elim
 | _=>exact False.elim h
theorem b8y:OpR X (compareOp .NotIn) (h3o true):=by
 intro pins s σ H x y v u Q I rx ry h
 cases y with
 | str z =>
  cases x with
  | str y =>
   have h:Q (.bl (g2l z y != true)) H:=h
   rw [Bool.bne_true] at h
   exact d2k pins s σ H _ _ v u Q I rx ry ⟨y,z,rfl,rfl,h⟩
  | _=>exact False.elim h
 | ref p =>
  have h:(match H p with
   | some (.lst xs)=>b3r x=true/\xs.all b3r=true/\Q (.bl (inV x xs != true)) H
   | some (.tup xs)=>b3r x=true/\xs.all b3r=true/\Q (.bl (inV x xs != true)) H
   | _=>False):=h
  split at h
  ·rename_i xs e
   rw [Bool.bne_true] at h
   exact c3u pins s σ H _ _ v u Q I rx ry ⟨p,xs,rfl,.inl (SqL.of e),h.1,h.2.1,by simpa using h.2.2⟩
  ·rename_i xs e
   rw [Bool.bne_true] at h
   exact c3u pins s σ H _ _ v u Q I rx ry ⟨p,xs,rfl,.inr (SqT.of e),h.1,h.2.1,by simpa using h.2.2⟩
  ·exact h.elim
 | _=>exact False.elim h
end
end L2
namespace L2
open PySem PySem.Spec PyProof.Rows
def Wr(H:Hp)(a:Addr)(o:HO)(k:Hp->Prop)(_:Tag k):Prop:=∀ H1,a2h a H H1->H1 a=some o->k H1
section
variable {X:Cx}{e o value:Expr}{f m x:Str}{pos pos' apos:Pos}{ta tv:TE}{t:TA}{C:Addr}{es:List Expr}
def g6y(K:PySem.W.Frag)(ta:TE)(f:Str):TE:=fun σ H Q=>ta σ H fun x H1=>match x with
 | .ref a=>(match H1 a with
  | some (.ins C dx fs)=>Cls K C/\a4m K C f/\(match fs.lookup f with
   | some v=>Q v H1
   | none=>False)
  | _=>False)
 | _=>False
theorem a6g(he:PE X e ta)(hb:attributeBase e f X.env (eval e X.env)=eval e X.env):PE X (.Attribute e f pos) (g6y X.K ta f):=by
 intro pins s σ H Q I h
 refine (g5k he hb) pins s σ H Q I ?_
 unfold h2r
 unfold g6y at h
 have q:(fun (x:V) (H1:Hp)=>(match x with
   | .ref a=>(match H1 a with
    | some (.ins C dx fs)=>Cls X.K C/\a4m X.K C f/\(match fs.lookup f with
     | some v=>Q v H1
     | none=>False)
    | _=>False)
   | _=>False:Prop))=fun x H1=>∃ a C dx fs v,x = .ref a/\H1 a=some (.ins C dx fs)/\Cls X.K C/\a4m X.K C f/\fs.lookup f=some v/\Q v H1:=by
  funext x H1
  refine propext ⟨fun z=>?_,fun⟨a,C,dx,fs,v,e1,e2,c,n,l,q⟩=>?_⟩
  ·cases x with
   | ref a =>
    dsimp only at z
    split at z
    ·rename_i C dx fs e1
     obtain⟨c,n,z⟩:=z
     split at z
     ·rename_i v e2
      exact⟨a,C,dx,fs,v,rfl,e1,c,n,e2,z⟩
     ·exact z.elim
    ·exact z.elim
   | _=>exact False.elim z
  ·subst e1
   dsimp only
   rw [e2]
   dsimp only
   rw [l]
   exact⟨c,n,q⟩
 rw [q] at h
 exact h
def h0z(K:PySem.W.Frag)(ta tv:TE)(f:Str):TS:=fun D σ H=>tv σ H fun y H1=>ta σ H1 fun x H2=>match x with
 | .ref a=>(match H2 a with
  | some (.ins C dx fs)=>Cls K C/\a4m K C f/\fs.length < 1000/\Wr H2 a (.ins C dx (c5h f y fs)) (D.nx σ) ⟨⟩
  | _=>False)
 | _=>False
theorem c0u(ha:PE X o ta)(hv:PE X value tv)(hs:swapsWith value (some (.Attribute o f pos')) pos.line X.env=pure false):PS X (.Assign [.Attribute o f pos'] value pos) (h0z X.K ta tv f):=by
 intro pins s σ H D I h
 refine plainObj_wpAny_Assign_Attribute (thn (hv pins s σ H _ I h) fun u s1 ⟨y,H1,I1,ry,q⟩=>thn (ha pins s1 σ H1 _ I1 q) fun ov s2 ⟨x,H2,I2,rx,z⟩=>?_) hs
 cases x with
 | ref a =>
  obtain rfl:ov=Value.ref a:=rx
  dsimp only at z
  split at z
  ·rename_i C dx fs e1
   obtain⟨c,n,l,k⟩:=z
   exact d8z I2 e1 c n l ry fun s3 I3=>⟨σ,_,I3,k _ a2h.upd a1k⟩
  ·exact z.elim
 | _=>exact False.elim z
end
def f3j(C:Addr)(m:Str)(sp:Sp)(dvs:List V)(E:XK)(ta:TE)(t:TA):TE:=fun σ H Q=>ta σ H fun x H1=>match x with
 | .ref a=>(match H1 a with
  | some (.ins C' dx fs)=>C'=C/\fs.lookup m=none/\t σ H1 fun vs H2=>sp (x :: (vs++dvs)) H2 Q E
  | _=>False)
 | _=>False
section
variable {X:Cx}{CX:CXT}{k:Nat}{f C:Addr}{fd:FuncData}{ps:List Str}{sp:Sp}{dvs:List V}{ds:List Value}{E:XK}{x m:Str}{p pos apos:Pos}{e o:Expr}{es:List Expr}{ta:TE}{t:TA}
theorem b3u{pl:Sem Bool}(he:PE X o ta)(c:Cls X.K C)(hm:Meth X.K C m f)(F:a2t X.prog X.w X.K X.mg X.base CX k f fd ps sp)(hr:a4w k X.A)(hb:Binds X.K fd ps ds)(hd:Vals dvs ds)(hx:Passes CX X E)(ha:PA X (e :: es) t)
  (hst:starEach (e :: es) X.env=(false,eval e X.env) :: starEach es X.env:=by rfl) (hpl:(backTo pos (starEach es X.env)).any (·.1)=false:=by rfl)
  (ht:eval (.Call (.Attribute o m apos) (e :: es) [] pos) X.env=(do
   let ov <- eval o X.env
   standAt apos.atName
   let (f,first) <- holding [ov] (getMethod ov m pl)
   callWith pos f first (backTo pos (starEach (e :: es) X.env)) (backToKw pos (keywordEach [] X.env))):=by rfl) :
  PE X (.Call (.Attribute o m apos) (e :: es) [] pos) (f3j C m sp dvs E ta t):=by
 intro pins s σ H Q I h
 refine PySem.W.methodCall_KW (pl:=pl) (thn (he pins s σ H _ I h) fun u s1 ⟨x,H1,I1,rx,z⟩=>?_) ht
 cases x with
 | ref a =>
  obtain rfl:u=Value.ref a:=rx
  dsimp only at z
  split at z
  ·rename_i C' dx fs ea
   obtain⟨rfl,l,q⟩:=z
   refine c2w I1 ea c hm l ?_
   refine PySem.W.callWith_K (first:=[.ref a]) (h₀:=X.base) I.ok.mod.kin hm.kp (thn (ha pos pins s1 σ H1 _ I1 q) fun us s2 ⟨vs,H2,I2,r,q2⟩=>⟨I2.kIn,?_⟩) hst hpl
   exact d1w (us:=.ref a :: us) (vs:=.ref a :: vs) F hr hb hd hx I2 (.cons rfl r) q2
  ·exact z.elim
 | _=>exact False.elim z
theorem b1k{pl:Sem Bool}(he:PE X o ta)(c:Cls X.K C)(hm:Meth X.K C m f)(F:a2t X.prog X.w X.K X.mg X.base CX k f fd ps sp)(hr:a4w k X.A)(hb:Binds X.K fd ps ds)(hd:Vals dvs ds)(hx:Passes CX X E)
  (ht:eval (.Call (.Attribute o m apos) [] [] pos) X.env=(do
   let ov <- eval o X.env
   standAt apos.atName
   let (f,first) <- holding [ov] (getMethod ov m pl)
   callWith pos f first (backTo pos (starEach [] X.env)) (backToKw pos (keywordEach [] X.env))):=by rfl) :
  PE X (.Call (.Attribute o m apos) [] [] pos) (f3j C m sp dvs E ta g8w):=by
 intro pins s σ H Q I h
 refine PySem.W.methodCall_KW (pl:=pl) (thn (he pins s σ H _ I h) fun u s1 ⟨x,H1,I1,rx,z⟩=>?_) ht
 cases x with
 | ref a =>
  obtain rfl:u=Value.ref a:=rx
  dsimp only at z
  split at z
  ·rename_i C' dx fs ea
   obtain⟨rfl,l,q⟩:=z
   refine c2w I1 ea c hm l ?_
   exact PySem.W.callWith_K0 (first:=[.ref a]) I1.kIn hm.kp (d1w (us:=[.ref a]) (vs:=[.ref a]) F hr hb hd hx I1 (.cons rfl .nil) q)
  ·exact z.elim
 | _=>exact False.elim z
def g8y(H:Hp)(C:Addr)(k:Addr->Hp->Prop)(_:Tag k):Prop:=∀ x dx H1,H x=none->H dx=none->dx≠x->Same H H1->H1 dx=some (.own x)->H1 x=some (.ins C dx [])->k x H1
def g6z(x:Addr)(Q:VK):VK:=fun v H2=>v = .non/\Q (.ref x) H2
theorem asNew{x:Addr}{Q:VK}{H2:Hp}{v:V}:g6z x Q v H2=(v = .non/\Q (.ref x) H2):=rfl
def g0t(C:Addr)(sp:Sp)(dvs:List V)(E:XK)(t:TA):TE:=fun σ H Q=>t σ H fun vs H1=>g8y H1 C (fun x H2=>sp (.ref x :: (vs++dvs)) H2 (g6z x Q) E) ⟨⟩
theorem g8y.raw{H:Hp}{C:Addr}{k:Addr->Hp->Prop}{t:Tag k}(h:g8y H C k t):∀ x dx,H x=none->H dx=none->dx≠x->k x (upd (upd H dx (.own x)) x (.ins C dx [])):=fun x dx ex ed ne =>
 h x dx _ ex ed ne ((Same.upd ed).trans (Same.upd (by rw [a1l ne.symm]; exact ex))) (by rw [a1l ne]; exact a1k) a1k
theorem d8h(M:Mk X.K C f)(F:a2t X.prog X.w X.K X.mg X.base CX k f fd ps sp)(hr:a4w (k+1) X.A)(hg:Gl X x)(hm:X.mg x=some (.ref C))(hb:Binds X.K fd ps ds)(hd:Vals dvs ds)(hx:Passes CX X E)
  (ha : PA X (e :: es) t) (hdb : (x == ("__debug__" : Str)) = false := by decide) (he : starEach (e :: es) X.env = (false, eval e X.env) :: starEach es X.env := by rfl) (hpl : (backTo pos (starEach es X.env)).any (·.1) = false := by rfl) :
  PE X (.Call (.Name x p) (e :: es) [] pos) (g0t C sp dvs E t):=by
 intro pins s σ H Q I h
 refine wpAny_Call_Name_kw (b8p I hg hm ?_ hdb)
 refine PySem.W.callWith_K (h₀:=X.base) I.ok.mod.kin M.kp (thn (ha pos pins s σ H _ I h) fun us s1 ⟨vs,H1,I1,r,q⟩=>⟨I1.kIn,?_⟩) he hpl
 exact d7u M F hr hb hd hx I1 r q.raw
theorem d3g(M:Mk X.K C f)(F:a2t X.prog X.w X.K X.mg X.base CX k f fd ps sp)(hr:a4w (k+1) X.A)(hg:Gl X x)(hm:X.mg x=some (.ref C))(hb:Binds X.K fd ps ds)(hd:Vals dvs ds)(hx:Passes CX X E)
  (hdb : (x == ("__debug__" : Str)) = false := by decide) : PE X (.Call (.Name x p) [] [] pos) (g0t C sp dvs E g8w) := by
 intro pins s σ H Q I h
 refine wpAny_Call_Name_kw (b8p I hg hm ?_ hdb)
 exact PySem.W.callWith_K0 I.kIn M.kp (d7u (us:=[]) M F hr hb hd hx I .nil (g8y.raw (t:=⟨⟩) h))
end
def g8z(K:PySem.W.Frag)(ta tv:TE)(rd:V->V->Hp->VK->Prop)(f:Str):TS:=fun D σ H=>ta σ H fun x H1=>match x with
 | .ref a=>(match H1 a with
  | some (.ins C dx fs)=>Cls K C/\a4m K C f/\(match fs.lookup f with
   | some v=>tv σ H1 fun y H2=>rd v y H2 fun z H3=>(match H3 a with
    | some (.ins C' dx' fs')=>C'=C/\fs'.length < 1000/\Wr H3 a (.ins C dx' (c5h f z fs')) (D.nx σ) ⟨⟩
    | _=>False)
   | none=>False)
  | _=>False)
 | _=>False
section
variable {X:Cx}{o e value:Expr}{f:Str}{pos pos' tpos:Pos}{ta tv:TE}
end
noncomputable def rInF(g:Int->Int->Int):V->V->Hp->VK->Prop:=fun x y H Q=>match x,y with
 | .int i,.int j=>Q (.int (g i j)) H
 | _,_=>False
def tAugF(i:Nat)(te:TE)(ti:TIp):TS:=fun D σ H=>match σ[i]? with
 | some (some x)=>te σ H fun y H1=>ti x y H1 fun z H2=>D.nx (σ.set i (some z)) H2
 | _=>False
section
variable {X:Cx}{pos:Pos}
end
theorem lookup_same{f:Str}{v:V}{r:List (Str×V)}:List.lookup f ((f,v) :: r)=some v:=by rw [List.lookup_cons,beq_self_eq_true]
theorem g7a{f:Str}{v x:V}{r:List (Str×V)}:c5h f v ((f,x) :: r)=(f,v) :: r:=by rw [c5h,if_pos rfl]
theorem g9a{f:Str}{v:V}:c5h f v [] = [(f,v)]:=rfl
theorem g0u{f g:Str}{v:V}{r:List (Str×V)}(h:(f == g)=false):List.lookup f ((g,v) :: r)=r.lookup f:=by rw [List.lookup_cons,h]
theorem g4i{f g:Str}{v x:V}{r:List (Str×V)}(h:(f == g)=false):c5h f v ((g,x) :: r)=(g,x) :: c5h f v r:=by rw [c5h,if_neg fun e=>by rw [e,beq_self_eq_true] at h; exact Bool.noConfusion h]
theorem noxK{X:Cx}:X.nox.K=X.K:=rfl
end L2
namespace L2
open PySem PySem.Spec PyProof.Rows
structure g7b(k:Nat)(A:Around):Prop where
 dp:A.depth+3*k+5 < recursionLimit
 un:A.units+16*k+200 < cLine
theorem a4w.h{k:Nat}{A:Around}(r:a4w k A):g7b k A:=⟨r.dp,r.un⟩
structure g7c(P:Program)(w:World)(K:PySem.W.Frag)(mg:Str->Option Value)(base:Heap)(k:Nat)(f:Addr)(fd:FuncData)(ps:List Str)(sp:Sp):Prop where
 len:∀ vs H Q E,sp vs H Q E->vs.length=ps.length
 run:∀ (A:Around) (outer:List Env) (s:Shared) (H:Hp) (args:Args) (us:List Value) (vs:List V) (Q:VK) (E:XK),g7b k A->g0a P w K mg base A outer s H->BindsTo s fd args (ps.zip us)->Vals vs us->sp vs H Q E ->
  codeAny (model P w) A (.call (.ref f) args) (CR CX0 outer P w H s Q E) s
theorem g7c.ok{P:Program}{w:World}{K:PySem.W.Frag}{mg:Str->Option Value}{base:Heap}{k:Nat}{f:Addr}{fd:FuncData}{ps:List Str}{sp:Sp}(F:g7c P w K mg base k f fd ps sp):a2t P w K mg base CX0 k f fd ps sp :=
 ⟨F.len,fun A outer s H args us vs Q E hr=>F.run A outer s H args us vs Q E hr.h⟩
section
variable {X:Cx}{k:Nat}{f:Addr}{fd:FuncData}{ps:List Str}{sp:Sp}{dvs:List V}{ds:List Value}{x:Str}{p pos:Pos}{e:Expr}{es:List Expr}{t:TA}
end
end L2
namespace L2
open PySem PySem.Spec PyProof.Rows
open PySem.Builtin.Str (occurrences subAt partsBetween strSub)
noncomputable abbrev sg(x:Str):List Nat:=x.cps.toList
theorem c3w{x y:Str}(h:sg x=sg y):x=y:=Str.ext' (by
 have:=congrArg List.toArray h
 simpa using this)
theorem a3n(x y:Str):sg (x++y)=sg x++sg y:=by unfold sg; rw [Str.cps_append]; simp
theorem g0v(x:Str):(sg x).length=x.length:=by simp [Str.length]
theorem f3k{c:Nat}:(⟨#[c]⟩:Str).length=1:=rfl
open PySem.NumText (AllDigits digitsVal digitsVal_snoc)
noncomputable def dg(n:Nat):List Nat:=(Nat.toDigits 10 n).map Char.toNat
theorem g0w(n:Nat):digitsVal (dg n)=n:=PySem.W.KIN.val_back n
theorem d5r{n:Nat}(h:n < 10):dg n = [n+48]:=by
 have:∀ d,d < 10->dg d = [d+48]:=by decide
 exact this n h
theorem c5u{m c:Nat}(hm:0 < m)(hc:c < 10):dg (10*m+c)=dg m++[c+48]:=by
 have t:Nat.toDigits 10 m++Nat.toDigits 10 c=Nat.toDigits 10 (10*m+c):=Nat.toDigits_append_toDigits (by decide) hm hc
 unfold dg
 rw [<- t,List.map_append]
 have:=d5r hc
 unfold dg at this
 rw [this]
theorem g2m(n:Nat):dg n≠[]:=by
 by_cases h:n < 10
 ·rw [d5r h]; simp
 ·have e:n=10*(n / 10)+n % 10:=by omega
  rw [e,c5u (by omega) (by omega)]
  simp
theorem d3h(n:Nat):AllDigits (dg n):=by
 induction n using Nat.strongRecOn with
 | _ n ih =>
  by_cases h:n < 10
  ·rw [d5r h]
   intro c hc
   simp at hc
   omega
  ·have e:n=10*(n / 10)+n % 10:=by omega
   rw [e,c5u (by omega) (by omega)]
   intro c hc
   rcases List.mem_append.mp hc with q | q
   ·exact ih (n / 10) (by omega) c q
   ·simp at q
    omega
theorem g2n{n:Nat}(h:0 < n):∃ c r,dg n=c :: r/\c≠48:=by
 induction n using Nat.strongRecOn with
 | _ n ih =>
  by_cases q:n < 10
  ·exact⟨n+48,[],d5r q,by omega⟩
  ·obtain⟨c,r,e,hc⟩:=ih (n / 10) (by omega) (by omega)
   have e2:n=10*(n / 10)+n % 10:=by omega
   refine⟨c,r++[n % 10+48],?_,hc⟩
   conv=>lhs; rw [e2]
   rw [c5u (by omega) (by omega),e]
   rfl
noncomputable def txt(t:Int):List Nat:=if t < 0 then 45 :: dg t.natAbs else dg t.natAbs
theorem d3i(t:Int):sg (Str.ofString (toString t))=txt t:=by
 unfold txt
 match t with
 | .ofNat m=>exact PySem.W.KIN.signs_num m
 | .negSucc m =>
  rw [if_pos (Int.negSucc_lt_zero m)]
  unfold sg
  rw [signs_ofString]
  show (("-" ++ Nat.repr (m + 1)).toList.map Char.toNat) = _
  rw [String.toList_append,List.map_append,Nat.toList_repr]
  rfl
theorem d9p{x:Str}{t:Int}(h:sg x=txt t)(hl:x.length<=4300):PySem.intText? x=some t:=by
 unfold txt at h
 split at h
 ·rename_i ht
  have:=intText_neg h (d3h _) (g2m _) hl
  rw [g0w] at this
  rw [this]
  congr 1
  omega
 ·rename_i ht
  have:=intText_digits (x:=x) (by rw [show x.cps.toList=sg x from rfl,h]; exact d3h _) (by rw [show x.cps.toList=sg x from rfl,h]; exact g2m _) hl
  rw [show x.cps.toList=sg x from rfl,h,g0w] at this
  rw [this]
  congr 1
  omega
theorem g7d(n:Nat):(dg n).length<=n.log2+1:=by
 induction n using Nat.strongRecOn with
 | _ n ih =>
  by_cases h:n < 10
  ·rw [d5r h]; simp
  ·have e:n=10*(n / 10)+n % 10:=by omega
   have i:=ih (n / 10) (by omega)
   have k:(n / 10).log2+1<=n.log2:=by
    rw [Nat.le_log2 (by omega),Nat.pow_succ]
    have:=Nat.log2_self_le (n:=n / 10) (by omega)
    omega
   have z:=c5u (m:=n / 10) (c:=n % 10) (by omega) (by omega)
   rw [<- e] at z
   rw [z]
   rw [List.length_append]
   simp only [List.length_cons,List.length_nil]
   omega
theorem g2o(t:Int):(txt t).length<=t.natAbs.log2+2:=by
 have:=g7d t.natAbs
 unfold txt
 split
 ·rw [List.length_cons]; omega
 ·omega
noncomputable def g9b(t b:Int):List Nat:=txt t++47 :: txt b
structure Good(x:List Nat)(t b:Int):Prop where
 eq:x=g9b t b
 pos:0 < b
 low:Int.gcd t b=1
 l1:(dg t.natAbs).length<=9
 l2:(dg b.natAbs).length<=9
noncomputable def f7v(l:List Nat):Bool:=l.all (fun c=>decide (48<=c) && decide (c<=57)) && !l.isEmpty
theorem f7w{l:List Nat}:f7v l=true ↔ AllDigits l/\l≠[]:=by
 unfold f7v AllDigits
 simp
theorem g2p (c : Nat) : g2l "0123456789" ⟨#[c]⟩ = (decide (48 ≤ c) && decide (c ≤ 57)) := by
 unfold g2l
 rw [StrLaws.found_one]
 have e : (Str.ofString "0123456789").cps.toList = [48, 49, 50, 51, 52, 53, 54, 55, 56, 57] := by decide +kernel
 rw [e]
 by_cases h:48<=c/\c<=57
 ·rw [show (decide (48<=c) && decide (c<=57))=true by simp [h]]
  rw [decide_eq_true_eq]
  simp
  omega
 ·rw [show (decide (48<=c) && decide (c<=57))=false by simp; omega]
  rw [decide_eq_false_iff_not]
  simp
  omega
theorem d8i{t:Int}{c:Nat}(h1:c≠45)(h2:c < 48\/57 < c):c∉txt t:=by
 unfold txt
 intro h
 split at h
 ·rcases List.mem_cons.mp h with q | q
  ·exact h1 q
  ·have:=d3h _ c q; omega
 ·have:=d3h _ c h; omega
theorem g7e(x:Str)(c:Nat):Txt.startswith x ⟨#[c]⟩=decide ((sg x)[0]? = some c):=by
 unfold Txt.startswith
 rw [Bool.eq_iff_iff,Bool.and_eq_true,decide_eq_true_eq,decide_eq_true_eq]
 exact StrLaws.subAt_one x c 0
end L2
namespace L2
open PySem PySem.Spec PyProof.Rows
section
variable {X:Cx}
noncomputable def rTupS(K:PySem.W.Frag):List V->Hp->VK->Prop:=fun xs H Q=>match xs with
 | [.ref p]=>(match H p with
  | some (.lst ys)=>New H (.tup ys) Q ⟨⟩
  | some (.tup ys)=>Q (.ref p) H
  | _=>False)
 | _=>False
end
section
variable {X:Cx}
structure InsQ(K:PySem.W.Frag)(C:Addr):Prop where
 ha : PySem.W.findIn K (.ref C) "__class__" = some (some (.builtin "object.__class__"))
 hn : PySem.W.specialIn K (.builtin "object.__class__") "__get__" = some (some (.builtin "getset_descriptor.__get__"))
 htk : PySem.W.takesIn K (.builtin "object.__class__") = some true
 hm : PySem.W.mroIn K C (.type "object") = some true
noncomputable def rIsI(K:PySem.W.Frag):List V->Hp->VK->Prop:=fun xs H Q=>match xs with
 | [.ref a,.ref D]=>(match H a with
  | some (.ins C dx fs)=>Cls K C/\InsQ K C/\(match PySem.W.kitOne K (.ref C) (.ref D) with
   | some b=>Q (.bl b) H
   | none=>False)
  | _=>False)
 | _=>False
end
section
variable {X:Cx}{pos:Pos}
noncomputable def h1a:List V->Hp->VK->Prop:=fun xs H Q=>match xs with
 | [.int i,.int j]=>(0 < j/\j < 1073741824)/\New H (.tup [.int (i / j),.int (i % j)]) Q ⟨⟩
 | _=>False
noncomputable def g7f:TGs:=fun vs σ H Q=>match vs with
 | []=>Q σ H
 | _=>False
def g0x(t:TG)(u:TGs):TGs:=fun vs σ H Q=>match vs with
 | v :: r=>t v σ H fun σ' H'=>u r σ' H' Q
 | _=>False
def g7g(n:Nat)(t:TGs):TG:=fun v σ H Q=>match v with
 | .ref a=>(match H a with
  | some (.tup xs)=>xs.length=n/\t xs σ H Q
  | _=>False)
 | _=>False
theorem f7y:PGs X [] g7f:=by
 intro pins s σ H vs us Q I r h
 refine f1k pins s σ H vs us Q I r ?_
 unfold g7f at h
 split at h
 ·exact⟨rfl,h⟩
 ·exact h.elim
theorem c5v{e:Expr}{es:List Expr}{t:TG}{u:TGs}(h1:PG X e t)(h2:PGs X es u)
  (hs:(assignEach (e :: es) X.env).map (·.2)=assign e X.env :: (assignEach es X.env).map (·.2):=by rfl):PGs X (e :: es) (g0x t u):=by
 intro pins s σ H vs us Q I r h
 refine c4r h1 h2 hs pins s σ H vs us Q I r ?_
 unfold g0x at h
 split at h
 ·exact⟨_,_,rfl,h⟩
 ·exact h.elim
theorem g2q{es:List Expr}{k:Nat}{t:TGs}{n:Nat}(hc:X.calm=true)(h:PGs X es t)
  (hn:(assignEach es X.env).length=n:=by rfl) (hst:(assignEach es X.env).findIdx? (·.1)=none:=by rfl):PG X (.Tuple es k pos) (g7g n t):=by
 intro pins s σ H v u Q I r hw
 refine f9y hc h hn hst pins s σ H v u Q I r ?_
 unfold g7g at hw
 cases v with
 | ref a =>
  dsimp only at hw
  split at hw
  ·rename_i xs e
   exact⟨a,xs,rfl,SqT.of e,hw.1,hw.2⟩
  ·exact hw.elim
 | _=>exact False.elim hw
end
end L2
namespace L2
open PySem PySem.Spec PyProof.Rows
def g7h(J:It)(tc:TT)(te:TE)(D:Addr)(σ:St)(H:Hp)(Q:VK)(_:Tag Q):Prop:=∃ (n:Nat) (W:Nat->List V->Hp->Prop),W 0 [] H/\∀ i ys H,i<=n->W i ys H->H D=some (.lst ys) /\
 ((J.stop i H/\Q (.ref D) H)\/(i < n/\J.go i H/\ys.length < sizeLine/\∀ x H',J.yld i H x H'->tc (some x :: σ) H' fun b H1 =>
  if b=true then te (some x :: σ) H1 fun y H2=>H2 D=some (.lst ys)/\∀ H3,a2h D H2 H3->H3 D=some (.lst (ys++[y]))->W (i+1) (ys++[y]) H3
  else W (i+1) ys H1))
def h3p(wi:TI)(tc:TT)(te:TE):TE:=fun σ H Q=>wi σ H fun J H1=>∀ D H2,H1 D=none->Same H1 H2->H2 D=some (.lst [])->g7h J tc te D σ H2 Q ⟨⟩
section
variable {X:Cx}{scope:Scope}{x:Str}{pins:List (Addr×Obj)}{σ:St}{elt iter cnd:Expr}{px pos:Pos}{wi:TI}{te:TE}{tc:TT}
end
section
variable {X:Cx}{k:Nat}{f C:Addr}{fd:FuncData}{ps:List Str}{sp:Sp}{dvs:List V}{ds:List Value}{E:XK}{x m:Str}{p pos apos:Pos}{e o:Expr}{es:List Expr}{ta:TE}{t:TA}
end
end L2
namespace L2
open PySem PySem.Spec PyProof.Rows
noncomputable def rSl3:V->Option Int->Hp->VK->Prop:=fun x st H Q=>match x with
 | .ref a=>(match H a with
  | some (.lst xs)=>st≠some 0/\∀ ys:List V,ys.length<=xs.length->(∀ y∈ys,y∈xs)->New H (.lst ys) Q ⟨⟩
  | _=>False)
 | _=>False
def tSl3(te:TE)(tl th ts:TO):TE:=fun σ H Q=>te σ H fun x H1=>tl σ H1 fun _ H2=>th σ H2 fun _ H3=>ts σ H3 fun st H4=>rSl3 x st H4 Q
section
variable {X:Cx}
end
section
variable {prog:Program}{w:World}{A:Around}{E:Value->Shared->Prop}{s:Shared}
end
noncomputable def rSetM:V->V->V->Hp->(Hp->Prop)->Prop:=fun o i v H Q=>match o,i with
 | .ref p,.int k=>(match H p with
  | some (.lst xs)=>(0<=k/\k < xs.length)/\∀ H1,a2h p H H1->H1 p=some (.lst (xs.set k.toNat v))->Q H1
  | _=>False)
 | _,_=>False
end L2
namespace L2
open PySem PySem.Spec PyProof.Rows
section
variable {X:Cx}{pins:List (Addr×Obj)}{σ:St}{H:Hp}{s:Shared}
end
def ItB (b : Bool) (h : Heap) (it l : Addr) (i : Nat) : Prop := ∃ o, h.get? it = some o ∧ o.cls = .type (cond b "list_iterator" "tuple_iterator") ∧ o.data = .fields #[.ref l, .int i 0]
def SqB (b : Bool) (h : Heap) (l : Addr) (items : Array Value) : Prop := ∃ o, h.get? l = some o ∧ o.cls = .type (cond b "list" "tuple") ∧ ∃ n, o.data = .seq items n
theorem ItB.at{b:Bool}{h h':Heap}{it l:Addr}{i:Nat}(x:ItB b h it l i)(k:∀ o,h.get? it=some o->h'.get? it=some o):ItB b h' it l i:=let ⟨o,e,r⟩:=x; ⟨o,k o e,r⟩
theorem SqB.at{b:Bool}{h h':Heap}{l:Addr}{items:Array Value}(x:SqB b h l items)(k:∀ o,h.get? l=some o->h'.get? l=some o):SqB b h' l items:=let ⟨o,e,r⟩:=x; ⟨o,k o e,r⟩
section
variable {prog:Program}{w:World}{A:Around}{E:Value->Shared->Prop}{s:Shared}
end
end L2
namespace L2
open PySem PySem.Spec PyProof.Rows
structure g4j(X:Cx)(scope:Scope)(x y:Str):Prop where
 kind:scope.kind = .function
 c3v:∀ y∈scope.names,y.2≠.cell
 loc:∀ y∈scope.names,y.2 = .local->scope.names.lookup y.1=some .local
 own:scope.names.lookup x=some .local
 h1b:scope.names.lookup y=some .local
 free:∀ y∈scope.names,y.2 = .free->X.env.kindOf y.1=some .cell\/X.env.kindOf y.1=some .free
 nd:(x :: y :: mask x X.N).Nodup
 noe : ∀ y ∈ scope.names, y.1 ≠ ""
 vis:∀ y∈mask x X.N,scope.names.lookup y≠some .local
section
variable {X:Cx}{scope:Scope}{x y:Str}{cl:List (Str×Addr)}{pins:List (Addr×Obj)}{σ:St}{H:Hp}{s s₄:Shared}{fp:List Addr}
end
section
variable {X:Cx}{scope:Scope}{x y:Str}{pins:List (Addr×Obj)}{σ:St}{elt iter:Expr}{px py tpos pos:Pos}{kk:Nat}{wi:TI}{te:TE}
end
end L2
namespace L2
open PySem PySem.Spec PyProof.Rows
end L2
namespace L2
open PySem PySem.Spec PyProof.Rows
section
variable {prog:Program}{w:World}{A:Around}{E:Value->Shared->Prop}{s:Shared}
end
section
variable {prog:Program}{w:World}{A:Around}{E:Value->Shared->Prop}{s:Shared}
end
end L2
namespace L2
open PySem PySem.Spec PyProof.Rows
section
variable {M:Model}{A:Around}{E:Value->Shared->Prop}{s:Shared}{env:Env}
end
end L2
namespace L2
open PySem PySem.Spec PyProof.Rows
def h1c(chk:V->Hp->Bool)(r:V->List V->Hp->VK->Prop)(to:TE):TE:=fun σ H Q=>to σ H fun x H1=>chk x H1=true/\r x [] H1 Q
section
variable {X:Cx}{o:Expr}{to:TE}{name:Str}{apos cpos:Pos}{T id:String}{r:V->List V->Hp->VK->Prop}{chk:V->Hp->Bool}
theorem g2r (hchk : ∀ x H, chk x H = true → tyV X.K T x H) (pa : PlainAttrs T) (slot : Slot T name id) (hty : typeOf (.builtin id) = pure (.type "method_descriptor")) (hm : MtR X id r) (ho : PE X o to)
  (hbase:attributeBase o name X.env (eval o X.env)=eval o X.env:=by rfl) (hline:(apos.endLine == cpos.line)=true:=by rfl):PE X (.Call (.Attribute o name apos) [] [] cpos) (h1c chk r to):=by
 intro pins s σ H Q I h
 refine wpAny_Call_method0_late hbase hline (thn (ho pins s σ H _ I h) fun v s1 ⟨x,H1,I1,r1,ty,q1⟩=>?_)
 obtain⟨h1,h2⟩:=g0c I1 r1 (hchk x H1 ty)
 exact⟨T,id,pa,slot,hty,h1,h2,Calls.callWith_builtin rfl (PySem.evalArgs_none (hm pins s1 σ H1 x [] v [] Q I1 r1 .nil q1))⟩
end
end L2
namespace L2
open PySem PySem.Spec PyProof.Rows
structure h1e(K:PySem.W.Frag)(w:World)(d:Addr):Prop where
 lk : ∃ es n, K.lookup d = some ⟨.type "dict", none, .dict es n, #[]⟩ ∧ PySem.W.KeysLit w.params es.toList
 ns:(d == sysModules)=false
def rNiD(K:PySem.W.Frag)(w:World)(neg:Bool):R2:=fun x y H Q=>match x,y with
 | .str z,.ref d=>h1e K w d/\∃ r,PySem.W.nsIn K d z=some r/\Q (.bl (r.isSome != neg)) H
 | _,_=>False
section
variable {X:Cx}
theorem f3l{K:PySem.W.Frag}{w:World}(eK:X.K=K)(eW:X.w=w):OpR X (compareOp .NotIn) (rNiD K w true):=by
 subst eK eW
 intro pins s σ H x y v u Q I rx ry h
 cases x <;> cases y <;> first | exact False.elim h | skip
 ·rename_i z d
  obtain⟨⟨⟨es,n,hl,hk⟩,hn⟩,r,e,q⟩:=h
  obtain⟨t,rfl⟩:=rx
  cases ry
  refine wpAny_notIn_of (PySem.strKind_is X.prog X.w z t) hn (PySem.W.mapOf_K (prog:=X.prog) I.kIn hl (hk)) ?_
  rw [PySem.W.find_K hl e]
  rw [Bool.bne_true] at q
  exact⟨.bl (!r.isSome),H,I.tok _,rfl,q⟩
def rIxD(K:PySem.W.Frag)(w:World):R2:=fun x y H Q=>match x,y with
 | .ref d,.str z=>h1e K w d/\∃ f,PySem.W.nsIn K d z=some (some (.ref f))/\Q (.ref f) H
 | _,_=>False
theorem ix_D{K:PySem.W.Frag}{w:World}(eK:X.K=K)(eW:X.w=w):IxR X (rIxD K w):=by
 subst eK eW
 intro value slice pins s σ H x y v u Q I rx ry h hs
 cases x <;> cases y <;> first | exact False.elim h | skip
 ·rename_i d z
  obtain⟨⟨⟨es,n,hl,hk⟩,hn⟩,f,e,q⟩:=h
  obtain⟨t,rfl⟩:=ry
  cases rx
  have hm:=PySem.W.mapOf_K (prog:=X.prog) (w:=X.w) I.kIn hl (hk)
  exact tail_any hm.typeIs slot_dict_getitem.lookup (wpAny_getItem_of (PySem.strKind_is X.prog X.w z t) hm (PySem.W.find_K hl e) ⟨.ref f,H,I.tok _,rfl,q⟩) hs
def g7i(f:Addr)(sp:Sp)(dvs:List V)(E:XK)(tg:TE)(t:TA):TE:=fun σ H Q=>tg σ H fun x H1=>x = .ref f/\g1t sp dvs E t σ H1 Q
theorem f7z{CX:CXT}{k:Nat}{f:Addr}{fd:FuncData}{ps:List Str}{sp:Sp}{ds:List Value}{dvs:List V}{E:XK}{g e:Expr}{es:List Expr}{tg:TE}{t:TA}{pos:Pos}(F:a2t X.prog X.w X.K X.mg X.base CX k f fd ps sp)(hr:a4w k X.A)(hk:PySem.W.keepIn X.K (.ref f)=true)(hb:Binds X.K fd ps ds)(hd:Vals dvs ds)(hx:Passes CX X E)
  (hg:PE X g tg) (ha:PA X (e :: es) t) (he:starEach (e :: es) X.env=(false,eval e X.env) :: starEach es X.env:=by rfl) (hpl:(backTo pos (starEach es X.env)).any (·.1)=false:=by rfl)
  (hc:eval (.Call g (e :: es) [] pos) X.env=(do callWith pos (<- eval g X.env) [] (backTo pos (starEach (e :: es) X.env)) (backToKw pos (keywordEach [] X.env))):=by rfl) :
  PE X (.Call g (e :: es) [] pos) (g7i f sp dvs E tg t):=by
 intro pins s σ H Q I h
 refine Call_ (thn (hg pins s σ H _ I h) fun v s1 ⟨x,H1,I1,r1,ex,q1⟩=>?_) hc
 subst ex
 cases r1
 refine PySem.W.callWith_K (h₀:=X.base) I1.ok.mod.kin hk (thn (ha pos pins s1 σ H1 _ I1 q1) fun us s2 ⟨vs,H2,I2,r,q⟩=>⟨I2.kIn,?_⟩) he hpl
 exact d1w F hr hb hd hx I2 r q
end
end L2
namespace L2
open PySem PySem.Spec PyProof.Rows
theorem d8j{c:Nat}:∀ {a a' b b':List Nat},a++c :: b=a'++c :: b'->c∉a->c∉a'->a=a'/\b=b'
 | [],[],_,_,h,_,_=>by simpa using h
 | [],d :: a',_,_,h,_,h2=>by
  rw [List.nil_append,List.cons_append,List.cons.injEq] at h
  exact absurd (by rw [h.1]; exact List.mem_cons_self) h2
 | d :: a,[],_,_,h,h1,_=>by
  rw [List.nil_append,List.cons_append,List.cons.injEq] at h
  exact absurd (by rw [h.1]; exact List.mem_cons_self) h1
 | d :: a,d' :: a',_,_,h,h1,h2=>by
  rw [List.cons_append,List.cons_append,List.cons.injEq] at h
  obtain⟨e1,e2⟩:=d8j h.2 (fun q=>h1 (List.mem_cons_of_mem _ q)) (fun q=>h2 (List.mem_cons_of_mem _ q))
  exact⟨by rw [h.1,e1],e2⟩
theorem b0m(c:Nat)(p q:Str)(r:List Str):sg (Str.join ⟨#[c]⟩ (p :: q :: r))=sg p++c :: sg (Str.join ⟨#[c]⟩ (q :: r)):=by
 show sg (p++⟨#[c]⟩++Str.join ⟨#[c]⟩ (q :: r))=_
 rw [a3n,a3n,List.append_assoc]
 rfl
theorem d3j{c:Nat}:∀ {ps qs:List Str},ps≠[]->qs≠[]->(∀ p∈ps,c∉sg p)->(∀ q∈qs,c∉sg q)->sg (Str.join ⟨#[c]⟩ ps)=sg (Str.join ⟨#[c]⟩ qs)->ps=qs
 | [],_,h,_,_,_,_=>absurd rfl h
 | _ :: _,[],_,h,_,_,_=>absurd rfl h
 | [p],[q],_,_,_,_,e=>by
  rw [c3w (show sg p=sg q from e)]
 | [p],q :: q' :: qs,_,_,fp,_,e=>by
  rw [b0m] at e
  exact absurd (by rw [show sg p=_ from e]; simp) (fp p (List.mem_cons_self ..))
 | p :: p' :: ps,[q],_,_,_,fq,e=>by
  rw [b0m] at e
  exact absurd (by rw [show sg q=_ from e.symm]; simp) (fq q (List.mem_cons_self ..))
 | p :: p' :: ps,q :: q' :: qs,_,_,fp,fq,e=>by
  rw [b0m,b0m] at e
  obtain⟨e1,e2⟩:=d8j e (fp p (List.mem_cons_self ..)) (fq q (List.mem_cons_self ..))
  rw [c3w e1,d3j (by simp) (by simp) (fun x hx=>fp x (List.mem_cons_of_mem _ hx)) (fun x hx=>fq x (List.mem_cons_of_mem _ hx)) e2]
theorem f3m(x y:Str):b5i x y=Txt.split x y:=rfl
theorem f8g(x y:Str):Txt.split x y≠[]:=by
 unfold Txt.split
 split
 ·simp
 ·split
  ·simp
  ·rw [StrLaws.partsBetween_eq]
   obtain⟨p,r,e⟩:=StrLaws.partsFrom_ne x y.length 0 (Builtin.Str.occurrences x y 0 x.length (x.length+1))
   rw [e]
   simp
theorem d9q{x:Str}{c:Nat}{ps:List Str}(hn:ps≠[])(hf:∀ p∈ps,c∉sg p)(h:sg x=sg (Str.join ⟨#[c]⟩ ps)):b5i x ⟨#[c]⟩=ps:=by
 rw [f3m]
 refine d3j (c:=c) (f8g _ _) hn (fun p hp=>StrLaws.split_free x c p hp) hf ?_
 rw [StrLaws.join_split,h]
end L2
namespace L2
open PySem PySem.Spec PyProof.Rows
theorem g7j:∀ (k n:Nat),n < 10 ^ (k+1)->(dg n).length<=k+1
 | 0,n,h=>by
  rw [d5r (by omega)]
  exact Nat.le_refl _
 | k+1,n,h=>by
  rcases Nat.lt_or_ge n 10 with z | z
  ·rw [d5r z,List.length_singleton]
   omega
  ·have e:n=10*(n / 10)+n % 10:=by omega
   rw [e,c5u (by omega) (by omega),List.length_append,List.length_singleton]
   have:=g7j k (n / 10) (by rw [Nat.pow_succ] at h; omega)
   omega
open PySem.Builtin.Int (intBits)
noncomputable def fW (x : Rat) : Str := Str.empty ++ Str.ofString (toString x.num) ++ Str.ofString "/" ++ Str.ofString (toString (x.den : Int))
noncomputable def cW (c : Int × Rat) : Str := Str.empty ++ Str.ofString (toString c.1) ++ Str.ofString "=" ++ fW c.2
noncomputable def nW(n:Nat):Str:=Str.ofString (toString (n:Int))
def YOk(y:Rat):Prop:=y.num.natAbs<=1000/\y.den<=1000
inductive Dt where
 | gain (y:Rat)
 | delay (n:Nat)
 | echo (y:Rat) (n t:Nat)
 | back (y:Rat) (n:Nat)
 | hall (y:Rat) (n:Nat)
 | swell (cs:List (Int×Rat))
noncomputable def Dt.kd:Dt->Nat
 | .gain _=>0
 | .delay _=>1
 | .echo .. => 2
 | .back .. => 3
 | .hall .. => 4
 | .swell _=>5
noncomputable def Dt.kind:Dt->Str
 | .gain _ => Str.ofString "gain"
 | .delay _ => Str.ofString "delay"
 | .echo .. => Str.ofString "echo"
 | .back .. => Str.ofString "back"
 | .hall .. => Str.ofString "hall"
 | .swell _ => Str.ofString "swell"
noncomputable def Dt.vals:Dt->List Str
 | .gain y=>[fW y]
 | .delay n=>[nW n]
 | .echo y n t=>[fW y,nW n,nW t]
 | .back y n=>[fW y,nW n]
 | .hall y n=>[fW y,nW n]
 | .swell cs=>[Str.join ⟨#[44]⟩ (cs.map cW)]
noncomputable def Dt.word(d:Dt):Str:=Str.join ⟨#[58]⟩ (d.kind :: d.vals)
def g7k(cs:List (Int×Rat)):Prop:=(∀ c∈cs,0<=c.1/\c.1<=100000/\YOk c.2)/\(∀ (i:Nat) c d,cs[i]? = some c->cs[i+1]? = some d->c.1 < d.1)/\1<=cs.length/\cs.length<=12
noncomputable def Dt.ok:Dt->Prop
 | .gain y=>YOk y
 | .delay n=>n<=1000
 | .echo y n t=>YOk y/\1<=n/\n<=1000/\t<=16
 | .back y n=>YOk y/\1<=n/\n<=1000
 | .hall y n=>YOk y/\(y.num.natAbs:Int) < y.den/\1<=n/\n<=1000
 | .swell cs=>g7k cs
theorem g0y{t:Int}{n:Nat}(h:t.natAbs < 2 ^ n)(hn:1<=n):t.natAbs.log2 < n:=by
 rcases Nat.eq_zero_or_pos t.natAbs with z | z
 ·rw [z]
  show Nat.log2 0 < n
  have:Nat.log2 0=0:=by decide
  omega
 ·rw [Nat.log2_lt (by omega)]
  exact h
theorem c9g{t:Int}{n:Nat}(h:t.natAbs < 2 ^ n)(hn:1<=n):(Str.ofString (toString t)).length<=n+1:=by
 have e:(Str.ofString (toString t)).length=(txt t).length:=by rw [<- g0v,d3i]
 have:=g2o t
 have:=g0y h hn
 omega
theorem g0z{n:Nat}(h:n < 2 ^ 20):(nW n).length<=21:=c9g (t:=(n:Int)) (n:=20) (by omega) (by decide)
theorem YOk.b{y:Rat}(h:YOk y):intBits y.num<=10/\intBits (y.den:Int)<=10:=⟨intBits_le_iff.mpr (Nat.lt_of_le_of_lt h.1 (by decide)),intBits_le_iff.mpr (Nat.lt_of_le_of_lt (show (y.den:Int).natAbs<=1000 from h.2) (by decide))⟩
theorem g1a{x:Rat}(h1:intBits x.num<=10)(h2:intBits (x.den:Int)<=10):(fW x).length<=23:=by
 have a:=c9g (intBits_le_iff.mp h1) (by decide)
 have b:=c9g (intBits_le_iff.mp h2) (by decide)
 have e0:Str.empty.length=0:=rfl
 have e1 : (Str.ofString "/").length = 1 := by decide +kernel
 unfold fW
 simp only [strLen_append,e0,e1]
 omega
theorem g7l{c:Int×Rat}(h0:c.1.natAbs < 2 ^ 20)(h1:intBits c.2.num<=10)(h2:intBits (c.2.den:Int)<=10):(cW c).length<=45:=by
 have a:=c9g h0 (by decide)
 have b:=g1a h1 h2
 have e0:Str.empty.length=0:=rfl
 have e1 : (Str.ofString "=").length = 1 := by decide +kernel
 unfold cW
 simp only [strLen_append,e0,e1]
 omega
theorem g7m(n:Nat):sg (nW n)=txt (n:Int):=d3i _
theorem h1f(y:Rat):sg (fW y)=g9b y.num (y.den:Int):=by
 unfold fW g9b
 rw [a3n,a3n,a3n,d3i,d3i]
 have e4:sg Str.empty = []:=rfl
 have e5 : sg (Str.ofString "/") = [47] := by decide +kernel
 rw [e4,e5]
 simp
theorem h1g(c:Int×Rat):sg (cW c)=txt c.1++61 :: sg (fW c.2):=by
 unfold cW
 rw [a3n,a3n,a3n,d3i]
 have e4:sg Str.empty = []:=rfl
 have e5 : sg (Str.ofString "=") = [61] := by decide +kernel
 rw [e4,e5]
 simp
theorem f3n{c:Nat}(h1:c≠45)(h2:57 < c)(y:Rat):c∉sg (fW y):=by
 rw [h1f]
 unfold g9b
 intro h
 rcases List.mem_append.mp h with z | z
 ·exact d8i h1 (.inr h2) z
 ·rcases List.mem_cons.mp z with z | z
  ·omega
  ·exact d8i h1 (.inr h2) z
theorem f3o{c:Nat}(h1:c≠45)(h2:c < 48\/57 < c)(n:Nat):c∉sg (nW n):=by
 rw [g7m]
 exact d8i h1 h2
theorem g2s(c:Int×Rat):58∉sg (cW c):=by
 rw [h1g]
 intro h
 rcases List.mem_append.mp h with z | z
 ·exact d8i (by decide) (.inr (by decide)) z
 ·rcases List.mem_cons.mp z with z | z
  ·omega
  ·exact f3n (by decide) (by decide) _ z
theorem f3p{c k:Nat}(hk:c≠k):∀ {ps:List Str},(∀ p∈ps,c∉sg p)->c∉sg (Str.join ⟨#[k]⟩ ps)
 | [],_=>by
  show c∉([] : List Nat)
  simp
 | [p],h=>h p (List.mem_cons_self ..)
 | p :: q :: r,h=>by
  rw [b0m]
  intro z
  rcases List.mem_append.mp z with z | z
  ·exact h p (List.mem_cons_self ..) z
  ·rcases List.mem_cons.mp z with z | z
   ·exact hk z
   ·exact f3p hk (fun x hx=>h x (List.mem_cons_of_mem _ hx)) z
theorem d3k{b:Nat}:∀ {l:List Nat},(∀ x∈l,x<=b)->l.sum<=l.length*b
 | [],_=>Nat.zero_le _
 | x :: l,h=>by
  have i:=d3k (l:=l) fun y hy=>h y (List.mem_cons_of_mem _ hy)
  have:=h x (List.mem_cons_self ..)
  rw [List.sum_cons,List.length_cons,Nat.succ_mul]
  omega
theorem d8k{z:Str}{ps:List Str}{n:Nat}(h:∀ p∈ps,p.length<=n):(Str.join z ps).length<=ps.length*n+ps.length*z.length:=by
 have a:=StrLaws.join_length_le z ps
 have b:=d3k (b:=n) (l:=ps.map (·.length)) fun x hx=>by
  obtain⟨y,hy,rfl⟩:=List.mem_map.mp hx
  exact h y hy
 rw [List.length_map] at b
 have c:(ps.length - 1)*z.length<=ps.length*z.length:=Nat.mul_le_mul_right _ (Nat.sub_le _ _)
 omega
theorem g7k.len{cs:List (Int×Rat)}(h:g7k cs):∀ c∈cs,(cW c).length<=45:=fun c hc=>by
 obtain⟨a,b,y⟩:=h.1 c hc
 exact g7l (by omega) y.b.1 y.b.2
theorem g7k.jlen{cs:List (Int×Rat)}(h:g7k cs):(Str.join ⟨#[44]⟩ (cs.map cW)).length<=600:=by
 have a:=d8k (z:=⟨#[44]⟩) (ps:=cs.map cW) (n:=45) fun p hp=>by
  obtain⟨c,hc,rfl⟩:=List.mem_map.mp hp
  exact h.len c hc
 rw [List.length_map,f3k] at a
 have:=h.2.2.2
 omega
theorem Dt.free{d:Dt}:∀ p∈d.kind :: d.vals,58∉sg p:=by
 cases d <;> intro p hp <;> simp only [Dt.kind,Dt.vals,List.mem_cons,List.not_mem_nil,or_false] at hp
 case gain => rcases hp with rfl | rfl; decide +kernel; exact f3n (by decide) (by decide) _
 case delay => rcases hp with rfl | rfl; decide +kernel; exact f3o (by decide) (.inr (by decide)) _
 case echo => rcases hp with rfl | rfl | rfl | rfl; decide +kernel; exact f3n (by decide) (by decide) _; exact f3o (by decide) (.inr (by decide)) _; exact f3o (by decide) (.inr (by decide)) _
 case back => rcases hp with rfl | rfl | rfl; decide +kernel; exact f3n (by decide) (by decide) _; exact f3o (by decide) (.inr (by decide)) _
 case hall => rcases hp with rfl | rfl | rfl; decide +kernel; exact f3n (by decide) (by decide) _; exact f3o (by decide) (.inr (by decide)) _
 case swell cs =>
  rcases hp with rfl | rfl
  ·decide +kernel
  ·refine f3p (by decide) fun p hp=>?_
   obtain⟨c,_,rfl⟩:=List.mem_map.mp hp
   exact g2s c
theorem Dt.vlen{d:Dt}(h:d.ok):∀ p∈d.kind :: d.vals,p.length<=600:=by
 have k1 : (Str.ofString "gain").length = 4 := by decide +kernel
 have k2 : (Str.ofString "delay").length = 5 := by decide +kernel
 have k3 : (Str.ofString "echo").length = 4 := by decide +kernel
 have k4 : (Str.ofString "back").length = 4 := by decide +kernel
 have k5 : (Str.ofString "hall").length = 4 := by decide +kernel
 have k6 : (Str.ofString "swell").length = 5 := by decide +kernel
 have f:∀ {y:Rat},YOk y->(fW y).length<=600:=fun h=>Nat.le_trans (g1a h.b.1 h.b.2) (by decide)
 have g:∀ {n:Nat},n<=1000->(nW n).length<=600:=fun h=>Nat.le_trans (g0z (Nat.lt_of_le_of_lt h (by decide))) (by decide)
 cases d <;> intro p hp <;> simp only [Dt.kind,Dt.vals,List.mem_cons,List.not_mem_nil,or_false] at hp
 case gain => rcases hp with rfl | rfl; omega; exact f h
 case delay => rcases hp with rfl | rfl; omega; exact g h
 case echo => rcases hp with rfl | rfl | rfl | rfl; omega; exact f h.1; exact g h.2.2.1; exact g (Nat.le_trans h.2.2.2 (by decide))
 case back => rcases hp with rfl | rfl | rfl; omega; exact f h.1; exact g h.2.2
 case hall => rcases hp with rfl | rfl | rfl; omega; exact f h.1; exact g h.2.2.2
 case swell cs => rcases hp with rfl | rfl; omega; exact h.jlen
theorem Dt.vn{d:Dt}:d.vals.length<=3:=by
 cases d <;> simp [Dt.vals]
theorem Dt.wlen{d:Dt}(h:d.ok):d.word.length<=4000:=by
 have a:=d8k (z:=⟨#[58]⟩) (d.vlen h)
 have b:=d.vn
 rw [List.length_cons,f3k] at a
 unfold Dt.word
 omega
theorem Dt.split(d:Dt):b5i d.word ⟨#[58]⟩=d.kind :: d.vals:=d9q (by simp) d.free rfl
theorem f8h(z p:Str):Str.join z [p]=p:=rfl
theorem f8i:sg Str.empty = []:=rfl
theorem g7n : sg (Str.ofString "gain:") = sg (Str.ofString "gain") ++ [58] := by decide +kernel
theorem g2t : sg (Str.ofString "delay:") = sg (Str.ofString "delay") ++ [58] := by decide +kernel
theorem g7o : sg (Str.ofString "echo:") = sg (Str.ofString "echo") ++ [58] := by decide +kernel
theorem g7p : sg (Str.ofString "back:") = sg (Str.ofString "back") ++ [58] := by decide +kernel
theorem f8j : sg (Str.ofString ":") = [58] := by decide +kernel
theorem h1h : Str.ofString ":" = ⟨#[58]⟩ := by decide +kernel
theorem g7q (y : Rat) : Str.empty ++ Str.ofString "gain:" ++ fW y = (Dt.gain y).word := c3w (by
 simp only [Dt.word,Dt.kind,Dt.vals,a3n,b0m,f8h,f8i,g7n,f8j,List.nil_append,List.append_assoc,List.singleton_append,List.cons_append])
theorem f3q (n : Nat) : Str.empty ++ Str.ofString "delay:" ++ nW n = (Dt.delay n).word := c3w (by
 simp only [Dt.word,Dt.kind,Dt.vals,a3n,b0m,f8h,f8i,g2t,f8j,List.nil_append,List.append_assoc,List.singleton_append,List.cons_append])
theorem g7r (y : Rat) (n t : Nat) : Str.empty ++ Str.ofString "echo:" ++ fW y ++ Str.ofString ":" ++ nW n ++ Str.ofString ":" ++ nW t = (Dt.echo y n t).word := c3w (by
 simp only [Dt.word,Dt.kind,Dt.vals,a3n,b0m,f8h,f8i,g7o,f8j,List.nil_append,List.append_assoc,List.singleton_append,List.cons_append])
theorem g7s (y : Rat) (n : Nat) : Str.empty ++ Str.ofString "back:" ++ fW y ++ Str.ofString ":" ++ nW n = (Dt.back y n).word := c3w (by
 simp only [Dt.word,Dt.kind,Dt.vals,a3n,b0m,f8h,f8i,g7p,f8j,List.nil_append,List.append_assoc,List.singleton_append,List.cons_append])
end L2
namespace L2
open PySem PySem.Spec PyProof.Rows
section
variable {X:Cx}
noncomputable def h1i:V->List V->Hp->VK->Prop:=fun x vs H Q=>match x,vs with
 | .ref l,[.int i]=>(match H l with
  | some (.lst xs)=>0<=i/\i < (xs.length:Int)/\All (fun v H1=>xs[i.toNat]? = some v/\a2h l H H1/\H1 l=some (.lst (xs.eraseIdx i.toNat))) Q ⟨⟩ ⟨⟩
  | _=>False)
 | .ref l,[]=>(match H l with
  | some (.lst xs)=>0 < xs.length/\All (fun v H1=>xs[xs.length - 1]? = some v/\a2h l H H1/\H1 l=some (.lst xs.dropLast)) Q ⟨⟩ ⟨⟩
  | _=>False)
 | _,_=>False
theorem g2u : MtR X "list.pop" h1i := by
 intro pins s σ H x vs v us Q I rx rv h
 match x,vs,h with
 | .ref l,[.int i],h =>
  have h':(match H l with
   | some (.lst xs)=>0<=i/\i < (xs.length:Int)/\All (fun v H1=>xs[i.toNat]? = some v/\a2h l H H1/\H1 l=some (.lst (xs.eraseIdx i.toNat))) Q ⟨⟩ ⟨⟩
   | _=>False):=h
  split at h'
  ·rename_i xs hH
   obtain⟨i0,i1,q⟩:=h'
   obtain⟨z,its,n,r,hl,e⟩:=I.g1y hH
   have hs:sizeLine=16777216:=sizeLine_eq
   have hx : xs[i.toNat]? = some (xs[i.toNat]'(by omega)) := List.getElem?_eq_getElem _
   refine f6v pins s σ H _ _ v us Q I rx rv ⟨l, xs, i, i.toNat, xs[i.toNat]'(by omega), rfl, rfl, hH, by omega, by omega, ?_, hx, q _ _ ⟨hx, a2h.upd, a1k⟩⟩
   unfold seqIndex?
   simp only
   rw [if_neg (show ¬ i < 0 by omega)]
   rw [if_pos (by rw [Bool.and_eq_true,decide_eq_true_eq,decide_eq_true_eq]; omega)]
  ·exact h'.elim
 | .ref l,[],h =>
  have h':(match H l with
   | some (.lst xs)=>0 < xs.length/\All (fun v H1=>xs[xs.length - 1]? = some v/\a2h l H H1/\H1 l=some (.lst xs.dropLast)) Q ⟨⟩ ⟨⟩
   | _=>False):=h
  split at h'
  ·rename_i xs hH
   obtain⟨i0,q⟩:=h'
   have hx : xs[xs.length - 1]? = some (xs[xs.length - 1]'(by omega)) := List.getElem?_eq_getElem _
   exact g5r pins s σ H _ _ v us Q I rx rv ⟨l,xs,_,rfl,rfl,hH,hx,q _ _ ⟨hx,a2h.upd,a1k⟩⟩
  ·exact h'.elim
end
end L2
namespace L2
open PySem PySem.Spec PyProof.Rows PySem.W
theorem c1y(s:String):PyData.strOk (Str.ofString s)=true:=by
 rw [Str.ofString_eq_toList]
 unfold PyData.strOk
 show (List.toArray (s.toList.map Char.toNat)).all _=true
 rw [List.all_toArray,List.all_eq_true]
 intro c hc
 obtain⟨x,_,rfl⟩:=List.mem_map.mp hc
 rw [decide_eq_true_eq]
 have:=x.valid
 unfold UInt32.isValidChar Nat.isValidChar at this
 show x.val.toNat < 1114112
 omega
theorem a9m{x y:Str}(h1:PyData.strOk x=true)(h2:PyData.strOk y=true):PyData.strOk (x++y)=true:=by
 unfold PyData.strOk at *
 show (x.cps++y.cps).all _=true
 rw [Array.all_append,h1,h2]
 rfl
theorem d3l{K:PySem.W.Frag}{H:Hp}:∀ ss:List Str,b6v K H (ss.map V.str) (kqdPs (ss.map Dat.str))
 | []=>.nil
 | n :: ns=>.cons (.str n) (d3l ns)
theorem c5w{ns ms:List Str}:ns.map Dat.str=ms.map Dat.str ↔ ns=ms:=by
 induction ns generalizing ms with
 | nil=>cases ms <;> simp
 | cons n ns ih=>cases ms <;> simp [ih]
theorem c4v{ss:List Str}(h:∀ s∈ss,PyData.strOk s=true):kqdOk 1 (.list (ss.map .str))=true:=by
 show (ss.map Dat.str).all (kqdOk 0)=true
 rw [List.all_eq_true]
 intro d hd
 obtain⟨s,hs,rfl⟩:=List.mem_map.mp hd
 exact h s hs
theorem c1z{K:PySem.W.Frag}{H:Hp}{p:Addr}{ss:List Str}(h:SqL K H p (ss.map V.str)):c7y K H (.ref p) (kqdP (.list (ss.map .str))):=by
 rw [kqdP]
 exact .lst h (d3l ss)
theorem c9h{K:PySem.W.Frag}{H:Hp}{p q:Addr}{ns ms:List Str}{Q:VK}(hp:SqL K H p (ns.map V.str))(hq:SqL K H q (ms.map V.str))(h1:∀ s∈ns,PyData.strOk s=true)(h2:∀ s∈ms,PyData.strOk s=true)(h:Q (.bl (!decide (ns=ms))) H):g5z K (.ref p) (.ref q) H Q :=
 g0p (c1z hp) (c1z hq) (c4v h1) (c4v h2) (by decide) (by decide) (by rw [decide_eq_true_eq,Dat.list.injEq,c5w]) h
theorem c9i{K:PySem.W.Frag}{H:Hp}{p q:Addr}{ns ms:List Str}{Q:VK}(hp:SqL K H p (ns.map V.str))(hq:SqL K H q (ms.map V.str))(h1:∀ s∈ns,PyData.strOk s=true)(h2:∀ s∈ms,PyData.strOk s=true)(h:Q (.bl (decide (ns=ms))) H):g5y K (.ref p) (.ref q) H Q :=
 g0o (c1z hp) (c1z hq) (c4v h1) (c4v h2) (by decide) (by decide) (by rw [decide_eq_true_eq,Dat.list.injEq,c5w]) h
theorem d3m:PyData.strOk Str.empty=true:=by decide +kernel
theorem g2v(x:Rat):PyData.strOk (fW x)=true:=by
 unfold fW
 exact a9m (a9m (a9m d3m (c1y _)) (c1y _)) (c1y _)
theorem f3r{d:Dt}(h:d.kd < 4):PyData.strOk d.word=true:=by
 cases d with
 | gain y=>rw [<- g7q]; exact a9m (a9m d3m (c1y _)) (g2v _)
 | delay n=>rw [<- f3q]; exact a9m (a9m d3m (c1y _)) (c1y _)
 | echo y n t=>rw [<- g7r]; exact a9m (a9m (a9m (a9m (a9m (a9m d3m (c1y _)) (g2v _)) (c1y _)) (c1y _)) (c1y _)) (c1y _)
 | back y n=>rw [<- g7s]; exact a9m (a9m (a9m (a9m d3m (c1y _)) (g2v _)) (c1y _)) (c1y _)
 | hall y n=>exact absurd h (by simp [Dt.kd])
 | swell cs=>exact absurd h (by simp [Dt.kd])
end L2
namespace L2
open PySem PySem.Spec PyProof.Rows
section
variable {X:Cx}
noncomputable def h1j:List V->Hp->VK->Prop:=fun xs H Q=>match xs with
 | [.ref p]=>(match H p with
  | some (.lst ys)=>∃ bs:List Bool,ys=bs.map V.bl/\Q (.bl (bs.all id)) H
  | _=>False)
 | _=>False
theorem d3n:∀ {bs:List Bool} {us:List Value},Vals (bs.map V.bl) us->us.length=bs.length/\∀ (i:Nat) v,us[i]? = some v->∃ b,bs[i]? = some b/\v = .bool b
 | [],_,h=>by cases h; exact⟨rfl,fun i v e=>by simp at e⟩
 | b :: bs,_,h=>by
  cases h with
  | cons r t =>
   have ih:=d3n t
   refine⟨by simp [ih.1],fun i v e=>?_⟩
   cases i with
   | zero=>simp at e; exact⟨b,rfl,e.symm.trans r⟩
   | succ i=>simp at e; exact ih.2 i v e
theorem f3s (hc : X.calm = true) : b8n X (.builtin "all") h1j := by
 intro pins s σ H xs us Q I r h
 match xs,r,h with
 | [.ref p],r,h =>
  have h':(match H p with
   | some (.lst ys)=>∃ bs:List Bool,ys=bs.map V.bl/\Q (.bl (bs.all id)) H
   | _=>False):=h
  split at h'
  ·rename_i ys e
   obtain⟨bs,rfl,q⟩:=h'
   obtain⟨u,rfl,ru⟩:=vals1 r
   cases (show u=Value.ref p from ru)
   obtain⟨its,rv,⟨o,n,e1,c1,d1,dd⟩,_⟩:=I.list (SqL.of e)
   obtain⟨hbl,hb⟩:=d3n rv
   have hl:s.heap.IsList p its.toArray:=⟨o,e1,c1,n,dd⟩
   have hlt:p < s.heap.objs.size:=Heap.lt_size e1
   refine call_all_walk (wpAny_pyIter_list hl ?_)
   refine⟨s.heap.objs.size,[s.heap.objs.size,p],[s.heap.objs.size],its.toArray.size,_,_,fun i=>(bs[i]?).getD true,rfl,Walks.list (A:=X.A.in1) (I.ok.hd hc) _ p (Nat.ne_of_lt hlt) its.toArray,
    ⟨⟨_,Heap.get?_push_size _ rfl,rfl,rfl⟩,hl.push _⟩,fun i v s' Q' E' hP hQ=>?_,fun h' tk hk=>?_⟩
   ·obtain⟨b,e,rfl⟩:=hb i v (by simpa using hP)
    simp only [e,Option.getD_some] at hQ
    exact wpAny_truthy_bool hQ
   ·have e:((List.range its.toArray.size).all fun i=>(bs[i]?).getD true)=bs.all id:=by
     rw [List.size_toArray,hbl]; exact LSm.range_all bs
    rw [e]
    exact⟨.bl _,H,I.kept (LSm.kept_iter hk),rfl,q⟩
  ·exact h'.elim
end
def g2w(J:It)(tc:TT)(te:TE)(D:Addr)(σ:St)(H:Hp)(Q:VK)(_:Tag Q):Prop:=∃ (n:Nat) (W:Nat->List V->Hp->Prop),W 0 [] H/\∀ i ys H,i<=n->W i ys H->H D=some (.lst ys) /\
 ((J.stop i H/\Q (.ref D) H)\/(i < n/\J.go i H/\ys.length < sizeLine/\∀ x H',J.yld i H x H'->∃ p u v,x = .ref p/\H' p=some (.tup [u,v])/\tc (some u :: some v :: σ) H' fun b H1 =>
  if b=true then te (some u :: some v :: σ) H1 fun y H2=>H2 D=some (.lst ys)/\∀ H3,a2h D H2 H3->H3 D=some (.lst (ys++[y]))->W (i+1) (ys++[y]) H3
  else W (i+1) ys H1))
def h1l(wi:TI)(tc:TT)(te:TE):TE:=fun σ H Q=>wi σ H fun J H1=>∀ D H2,H1 D=none->Same H1 H2->H2 D=some (.lst [])->g2w J tc te D σ H2 Q ⟨⟩
section
variable {X:Cx}{scope:Scope}{x y:Str}{pins:List (Addr×Obj)}{σ:St}{elt iter cnd:Expr}{px py tpos pos:Pos}{kk:Nat}{wi:TI}{te:TE}{tc:TT}
end
end L2
namespace L2
open PySem PySem.Spec PyProof.Rows
theorem hu1{n:Nat}(h:n+64 < cLine):n+1 < cLine:=by omega
noncomputable def kT(k:Str):Key:=.inr k
def g7t(x y:V)(H:Hp)(Q:VK):Prop:=match x,y with
 | .ref a,.str k=>(match H a with
  | some (.dK kvs)=>∃ v,c4s kvs (kT k)=some v/\Q v H
  | _=>False)
 | _,_=>False
def g7u(neg:Bool)(x y:V)(H:Hp)(Q:VK):Prop:=match x,y with
 | .ref a,.str k=>(match H a with
  | some (.dK kvs)=>Q (.bl ((c4s kvs (kT k)).isSome != neg)) H
  | _=>False)
 | _,_=>False
theorem f8k{x y:V}{H:Hp}{Q:VK}(h:g7t x y H Q):∃ a k kvs v,x = .ref a/\y = .str k/\H a=some (.dK kvs)/\c4s kvs (kT k)=some v/\Q v H:=by
 cases x <;> cases y <;> first | exact False.elim h | skip
 ·rename_i a k
  have h':(match H a with
   | some (.dK kvs)=>∃ v,c4s kvs (kT k)=some v/\Q v H
   | _=>False):=h
  split at h'
  ·rename_i kvs e
   obtain⟨v,e1,q⟩:=h'
   exact⟨a,k,kvs,v,rfl,rfl,e,e1,q⟩
  ·exact h'.elim
theorem f8l{x y:V}{H:Hp}{Q:VK}{neg:Bool}(h:g7u neg x y H Q):∃ a k kvs,x = .ref a/\y = .str k/\H a=some (.dK kvs)/\Q (.bl ((c4s kvs (kT k)).isSome != neg)) H:=by
 cases x <;> cases y <;> first | exact False.elim h | skip
 ·rename_i a k
  have h':(match H a with
   | some (.dK kvs)=>Q (.bl ((c4s kvs (kT k)).isSome != neg)) H
   | _=>False):=h
  split at h'
  ·rename_i kvs e
   exact⟨a,k,kvs,rfl,rfl,e,h'⟩
  ·exact h'.elim
def g7v(td ty:TE):TE:=fun σ H Q=>td σ H fun x H1=>ty σ H1 fun y H2=>g7t x y H2 Q
def f8m(ty td:TE):TE:=fun σ H Q=>ty σ H fun y H1=>td σ H1 fun x H2=>g7u true x y H2 Q
def g7w(x y v:V)(H:Hp)(Q:Hp->Prop):Prop:=match x,y with
 | .ref a,.str k=>(match H a with
  | some (.dK kvs)=>kvs.length < sizeLine/\∀ H1,a2h a H H1->H1 a=some (.dK (putK kvs (kT k) v))->Q H1
  | _=>False)
 | _,_=>False
theorem f8n{x y v:V}{H:Hp}{Q:Hp->Prop}(h:g7w x y v H Q):∃ a k kvs,x = .ref a/\y = .str k/\H a=some (.dK kvs)/\kvs.length < sizeLine/\∀ H1,a2h a H H1->H1 a=some (.dK (putK kvs (kT k) v))->Q H1:=by
 cases x <;> cases y <;> first | exact False.elim h | skip
 ·rename_i a k
  have h':(match H a with
   | some (.dK kvs)=>kvs.length < sizeLine/\∀ H1,a2h a H H1->H1 a=some (.dK (putK kvs (kT k) v))->Q H1
   | _=>False):=h
  split at h'
  ·rename_i kvs e
   exact⟨a,k,kvs,rfl,rfl,e,h'⟩
  ·exact h'.elim
def g7x(td ty tv:TE):TS:=fun D σ H=>tv σ H fun v H1=>td σ H1 fun x H2=>ty σ H2 fun y H3=>g7w x y v H3 (D.nx σ)
def g7y(tk tv:TE):TE:=fun σ H Q=>∀ p H1,H p=none->Same H H1->H1 p=some (.dK [])->tk σ H1 fun x H2=>tv σ H2 fun y H3=>∃ k,x = .str k/\H3 p=some (.dK [])/\∀ H4,a2h p H3 H4->H4 p=some (.dK [(kT k,y)])->Q (.ref p) H4
section
variable {X:Cx}{o i e value:Expr}{pos pos' tpos:Pos}{td ty tv tk:TE}
theorem d8l(hu:X.A.units+1 < cLine)(ho:PE X o td)(hi:PE X i ty)(hs:h2v i):PE X (.Subscript o i pos) (g7v td ty):=by
 intro pins s σ H Q I h
 refine g2a PySem.F.slot_dict_getitem.lookup hs (thn (ho pins s σ H _ I h) fun u s1 ⟨x,H1,I1,rx,q1⟩=>thn (hi pins s1 σ H1 _ I1 q1) fun iv s2 ⟨y,H2,I2,ry,q⟩=>?_)
 obtain⟨a,k,kvs,v,ex,ey,e,ev,q2⟩:=f8k q
 subst ex ey
 obtain rfl:u=Value.ref a:=rx
 have g:f2n H2 a (kV (kT k)) (some v):=ev▸f2n.k e
 exact⟨d5k I2 g,f2o hu I2 g ry fun w' s3 I3 rw'=>⟨v,H2,I3,rw',q2⟩⟩
theorem d9r(hu:X.A.units+1 < cLine)(hi:PE X i ty)(ho:PE X o td):PC X .NotIn i o (f8m ty td):=by
 intro pins s σ H Q I h
 refine thn (hi pins s σ H _ I h) fun iv s1 ⟨y,H1,I1,ry,q1⟩=>thn (ho pins s1 σ H1 _ I1 q1) fun u s2 ⟨x,H2,I2,rx,q⟩=>?_
 obtain⟨a,k,kvs,ex,ey,e,q2⟩:=f8l q
 subst ex ey
 obtain rfl:u=Value.ref a:=rx
 have g:f2n H2 a (kV (kT k)) (c4s kvs (kT k)):=f2n.k e
 rw [Bool.bne_true] at q2
 exact g1z hu I2 g ry fun s3 I3=>⟨.bl (!(c4s kvs (kT k)).isSome),H2,I3,rfl,q2⟩
theorem g2x{op:CmpOp}{a b:Expr}{t:TE}(h:PC X op a b t)(h1:behindInMarks op b=false):PT X (.Compare a [op] [b] pos) (tBF t):=by
 intro pins s σ H Q I h2
 refine (g4v h h1) pins s σ H _ I ?_
 unfold tB
 unfold tBF at h2
 exact cast (congrArg (t σ H) (funext fun x=>funext fun H1=>propext ⟨fun z=>h0k z,fun⟨k,e,q⟩=>by subst e; exact q⟩)) h2
theorem f8o(hu:X.A.units+1 < cLine)(ho:PE X o td)(hi:PE X i ty)(hv:PE X value tv)(hs:swapsWith value (some (.Subscript o i pos')) pos.line X.env=pure false) :
  PS X (.Assign [.Subscript o i pos'] value pos) (g7x td ty tv):=by
 intro pins s σ H D I h
 refine wpAny_Assign_Subscript (thn (hv pins s σ H _ I h) fun r s1 ⟨v,H1,I1,rv,q1⟩=>thn (ho pins s1 σ H1 _ I1 q1) fun u s2 ⟨x,H2,I2,rx,q2⟩=>thn (hi pins s2 σ H2 _ I2 q2) fun iv s3 ⟨y,H3,I3,ry,q⟩=>?_) hs
 obtain⟨a,k,kvs,ex,ey,e,hl,q3⟩:=f8n q
 subst ex ey
 obtain rfl:u=Value.ref a:=rx
 exact f2p hu I3 (g4h.k (k:=kT k) e hl) ry rv fun s4 I4=>⟨σ,_,I4,q3 _ a2h.upd a1k⟩
theorem f8p(hk:PE X i tk)(hv:PE X value tv):PE X (.Dict [some i] [value] pos) (g7y tk tv):=by
 intro pins s σ H Q I q
 have hn:=I.hok.fresh (Nat.le_refl s.heap.objs.size)
 have I1 := I.laid (a := s.heap.objs.size) (o := .dK []) (h' := s.heap.push { cls := .type "dict", data := .dict #[] }) (t' := s.toks) (fun _ _ q => Heap.get?_push_of_some _ q) (Nat.le_refl _) (f7h s.heap I.big)
 have h:PPs X pos [some i] [value] [(tk,tv)]:=f7i hk hv g2b
 refine wpAny_Dict_walk (knd:=a5w X.prog X.w) rfl rfl (by simp) (by simp) (thn (h pins _ σ _ (fun ps H3=>match ps with
  | [(x,y)]=>∃ k,x = .str k/\H3 s.heap.objs.size=some (.dK [])/\∀ H4,a2h s.heap.objs.size H3 H4->H4 s.heap.objs.size=some (.dK [(kT k,y)])->Q (.ref s.heap.objs.size) H4
  | _=>False) I1 (q s.heap.objs.size _ hn (Same.upd hn) a1k)) fun ws s2 ⟨ps,H2,I2,rel,qp⟩=>?_)
 cases ps with
 | nil=>exact False.elim qp
 | cons p ps =>
 obtain⟨x,y⟩:=p
 cases ps with
 | cons _ _=>exact False.elim qp
 | nil =>
  obtain⟨k,ex,e,q2⟩:=qp
  subst ex
  obtain⟨rs,c,rk⟩:=c7w (P:=X.prog) (w:=X.w) (kvs:=[(kT k,y)]) rel
  obtain⟨z,hd,vs0,r0,dd⟩:=g5w I2.hok e
  cases r0
  refine⟨rs,c,dd,fun h' dd' hs=>⟨.ref s.heap.objs.size,_,?_,rfl,q2 _ a2h.upd a1k⟩⟩
  have hz:(d7z [] [(kT k,y)]).length<=sizeLine:=by
   have h1:=c1r [(kT k,y)] []
   rw [List.length_nil,List.length_singleton] at h1
   rw [sizeLine_eq]; omega
  have he:∃ q,h'.get? s.heap.objs.size=some q:=let ⟨q,_,_,hq,_⟩:=dd'; ⟨q,hq⟩
  exact d5j I2 (by rw [e]; exact True.intro) hs he (g0d hz hd (rk.merge .nil) dd')
end
noncomputable def rSlR:V->Option Int->Option Int->Option Int->Hp->VK->Prop:=fun x l u t H Q=>match x with
 | .ref a=>(match H a with
  | some (.lst xs)=>l=none/\u=none/\t=some (-1)/\New H (.lst xs.reverse) Q ⟨⟩
  | _=>False)
 | _=>False
def tSl3R(te:TE)(tl th ts:TO):TE:=fun σ H Q=>te σ H fun x H1=>tl σ H1 fun l H2=>th σ H2 fun u H3=>ts σ H3 fun st H4=>rSlR x l u st H4 Q
end L2
namespace L2
open PySem PySem.Spec PyProof.Rows PySem.W
mutual
inductive Rp(H:Hp)(N:Addr->Prop):V->Dat->Prop
 | str (s:Str):Rp H N (.str s) (.str s)
 | int (n:Int):Rp H N (.int n) (.int n)
 | lst {p:Addr} {vs:List V} {ds:List Dat}:N p->H p=some (.lst vs)->RpL H N vs ds->Rp H N (.ref p) (.list ds)
 | tup {p:Addr} {vs:List V} {ds:List Dat}:H p=some (.tup vs)->RpL H N vs ds->Rp H N (.ref p) (.tuple ds)
inductive RpL(H:Hp)(N:Addr->Prop):List V->List Dat->Prop
 | nil:RpL H N [] []
 | cons {v:V} {vs:List V} {d:Dat} {ds:List Dat}:Rp H N v d->RpL H N vs ds->RpL H N (v :: vs) (d :: ds)
end
def b0n(N:Addr->Prop)(H H':Hp):Prop:=∀ z u,(N z->∀ ys,u≠.lst ys)->H z=some u->H' z=some u
section
variable {H H':Hp}{N M:Addr->Prop}
mutual
theorem Rp.go(h1:∀ z vs,N z->H z=some (.lst vs)->H' z=some (.lst vs)/\M z)(h2:∀ z vs,H z=some (.tup vs)->H' z=some (.tup vs)):∀ {v:V} {d:Dat},Rp H N v d->Rp H' M v d
 | _,_,.str s=>.str s
 | _,_,.int n=>.int n
 | _,_,.lst n h r=>.lst (h1 _ _ n h).2 (h1 _ _ n h).1 (RpL.go h1 h2 r)
 | _,_,.tup h r=>.tup (h2 _ _ h) (RpL.go h1 h2 r)
theorem RpL.go(h1:∀ z vs,N z->H z=some (.lst vs)->H' z=some (.lst vs)/\M z)(h2:∀ z vs,H z=some (.tup vs)->H' z=some (.tup vs)):∀ {vs:List V} {ds:List Dat},RpL H N vs ds->RpL H' M vs ds
 | _,_,.nil=>.nil
 | _,_,.cons h r=>.cons (Rp.go h1 h2 h) (RpL.go h1 h2 r)
end
mutual
theorem Rp.deep{K:PySem.W.Frag}:∀ {v:V} {d:Dat},Rp H N v d->c7y K H v (kqdP d)
 | _,_,.str s=>by rw [kqdP]; exact .str s
 | _,_,.int n=>by rw [kqdP]; exact .int n
 | _,_,.lst n h r=>by rw [kqdP]; exact .lst (SqL.of h) (RpL.deep r)
 | _,_,.tup h r=>by rw [kqdP]; exact .tup (SqT.of h) (RpL.deep r)
theorem RpL.deep{K:PySem.W.Frag}:∀ {vs:List V} {ds:List Dat},RpL H N vs ds->b6v K H vs (kqdPs ds)
 | _,_,.nil=>.nil
 | _,_,.cons h r=>.cons (Rp.deep h) (RpL.deep r)
end
theorem live{z:Addr}{u:HO}(e:H z=some u):H z≠none:=fun q=>by rw [q] at e; cases e
theorem RpL.same{vs:List V}{ds:List Dat}(h:RpL H N vs ds)(S:Same H H'):RpL H' N vs ds:=h.go (fun _ _ n e=>⟨S _ _ e,n⟩) fun _ _ e=>S _ _ e
theorem RpL.mono{vs:List V}{ds:List Dat}(h:RpL H N vs ds)(hm:∀ z,N z->H z≠none->M z):RpL H M vs ds:=h.go (fun z _ n e=>⟨e,hm z n (live e)⟩) fun _ _ e=>e
theorem RpL.put{D:Addr}{ys:List V}{vs:List V}{ds:List Dat}(h:RpL H N vs ds)(hD:H D=some (.lst ys))(nD:¬ N D)(B:a2h D H H'):RpL H' N vs ds :=
 h.go (fun z _ n e=>⟨B _ _ (fun q=>nD (by rw [<- q]; exact n)) e,n⟩) fun z _ e=>B _ _ (fun q=>by rw [q,hD] at e; cases e) e
theorem RpL.over{vs:List V}{ds:List Dat}(h:RpL H N vs ds)(S:b0n M H H')(hd:∀ z,N z->H z≠none->¬ M z):RpL H' N vs ds :=
 h.go (fun z _ n e=>⟨S _ _ (fun m=>absurd m (hd z n (live e))) e,n⟩) fun z _ e=>S _ _ (fun _ ys q=>by cases q) e
theorem RpL.len:∀ {vs:List V} {ds:List Dat},RpL H N vs ds->vs.length=ds.length
 | _,_,.nil=>rfl
 | _,_,.cons _ r=>by rw [List.length_cons,List.length_cons,RpL.len r]
theorem RpL.at:∀ {vs:List V} {ds:List Dat} {i:Nat} {d:Dat},RpL H N vs ds->ds[i]? = some d->∃ v,vs[i]? = some v/\Rp H N v d
 | _,_,_,_,.nil,h=>by simp at h
 | _,_,0,_,.cons h r,e=>by cases e; exact⟨_,rfl,h⟩
 | _,_,i+1,_,.cons h r,e=>by
  rw [List.getElem?_cons_succ] at e
  obtain⟨v,e1,e2⟩:=RpL.at r e
  exact⟨v,by rw [List.getElem?_cons_succ]; exact e1,e2⟩
theorem RpL.get:∀ {vs:List V} {ds:List Dat} {i:Nat} {v:V},RpL H N vs ds->vs[i]? = some v->∃ d,ds[i]? = some d/\Rp H N v d
 | _,_,_,_,.nil,h=>by simp at h
 | _,_,0,_,.cons h r,e=>by cases e; exact⟨_,rfl,h⟩
 | _,_,i+1,_,.cons h r,e=>by
  rw [List.getElem?_cons_succ] at e
  obtain⟨v,e1,e2⟩:=RpL.get r e
  exact⟨v,by rw [List.getElem?_cons_succ]; exact e1,e2⟩
theorem RpL.snoc:∀ {vs:List V} {ds:List Dat} {v:V} {d:Dat},RpL H N vs ds->Rp H N v d->RpL H N (vs++[v]) (ds++[d])
 | _,_,_,_,.nil,h=>.cons h .nil
 | _,_,_,_,.cons h r,e=>.cons h (RpL.snoc r e)
theorem RpL.strs:∀ ss:List Str,RpL H N (ss.map V.str) (ss.map Dat.str)
 | []=>.nil
 | s :: ss=>.cons (.str s) (RpL.strs ss)
theorem RpL.f3t:∀ {ss:List Str} {vs:List V},RpL H N vs (ss.map Dat.str)->vs=ss.map V.str
 | [],_,.nil=>rfl
 | s :: ss,_,.cons (.str _) r=>by rw [RpL.f3t r]; rfl
theorem Rp.list{v:V}{ds:List Dat}(h:Rp H N v (.list ds)):∃ p vs,v = .ref p/\N p/\H p=some (.lst vs)/\RpL H N vs ds:=by
 cases h with
 | lst n e r=>exact⟨_,_,rfl,n,e,r⟩
theorem Rp.tuple{v:V}{ds:List Dat}(h:Rp H N v (.tuple ds)):∃ p vs,v = .ref p/\H p=some (.tup vs)/\RpL H N vs ds:=by
 cases h with
 | tup e r=>exact⟨_,_,rfl,e,r⟩
theorem RpL.two{vs:List V}{a b:Dat}(h:RpL H N vs [a,b]):∃ x y,vs = [x,y]/\Rp H N x a/\Rp H N y b:=by
 cases h with
 | cons h1 r=>cases r with
  | cons h2 r=>cases r; exact⟨_,_,rfl,h1,h2⟩
theorem RpL.three{vs:List V}{a b c:Dat}(h:RpL H N vs [a,b,c]):∃ x y z,vs = [x,y,z]/\Rp H N x a/\Rp H N y b/\Rp H N z c:=by
 cases h with
 | cons h1 r =>
  obtain⟨y,z,rfl,h2,h3⟩:=r.two
  exact⟨_,y,z,rfl,h1,h2,h3⟩
theorem Rp.strOf{v:V}{s:Str}(h:Rp H N v (.str s)):v = .str s:=by cases h; rfl
theorem Rp.eq{K:PySem.W.Frag}{x y:V}{d:Dat}{n:Nat}{Q:VK}(hx:Rp H N x d)(hy:Rp H M y d)(k:kqdOk n d=true)(hn:n<=64)(q:Q (.bl true) H):g5y K x y H Q:=g0o (c:=true) hx.deep hy.deep k k hn hn ⟨fun _=>rfl,fun _=>rfl⟩ q
theorem Rp.ne{K:PySem.W.Frag}{x y:V}{d:Dat}{n:Nat}{Q:VK}(hx:Rp H N x d)(hy:Rp H M y d)(k:kqdOk n d=true)(hn:n<=64)(q:Q (.bl false) H):g5z K x y H Q:=g0p (c:=true) hx.deep hy.deep k k hn hn ⟨fun _=>rfl,fun _=>rfl⟩ q
theorem b0n.of(S:Same H H'):b0n N H H':=fun z u _ e=>S _ _ e
theorem b0n.trans{H2:Hp}(S:b0n N H H')(S2:b0n N H' H2):b0n N H H2:=fun z u n e=>S2 _ _ n (S _ _ n e)
theorem b0n.one{D:Addr}{ys:List V}(hD:H D=some (.lst ys))(n:N D)(B:a2h D H H'):b0n N H H':=fun z u h e=>B _ _ (fun q=>by
 rw [q] at h e
 rw [hD] at e
 cases e
 exact h n _ rfl) e
end
noncomputable abbrev Sd:=Str×Str×List Str
structure Pd where
 ts:List Str
 bs:List Str
 es:List Sd
 os:List (Str×Int)
noncomputable def prs(es:List Sd):List (Str×Str):=es.map fun e=>(e.1,e.2.1)
noncomputable def d5s(ss:List Str):Dat:=.list (ss.map .str)
noncomputable def dSd(e:Sd):Dat:=.tuple [.str e.1,.str e.2.1,d5s e.2.2]
noncomputable def dOu(x:Str×Int):Dat:=.tuple [.str x.1,.int x.2]
noncomputable def dPd(p:Pd):Dat:=.list [d5s p.ts,d5s p.bs,.list (p.es.map dSd),.list (p.os.map dOu)]
noncomputable def Nw(N:Addr->Prop)(t b sd ou:Addr):Addr->Prop:=fun a=>N a/\a≠t/\a≠b/\a≠sd/\a≠ou
structure Fl(H:Hp)(N:Addr->Prop)(t b sd ou:Addr)(p:Pd):Prop where
 n:N t/\N b/\N sd/\N ou
 d:t≠b/\t≠sd/\t≠ou/\b≠sd/\b≠ou/\sd≠ou
 ht:H t=some (.lst (p.ts.map V.str))
 hb:H b=some (.lst (p.bs.map V.str))
 hs:∃ us,H sd=some (.lst us)/\RpL H (Nw N t b sd ou) us (p.es.map dSd)
 ho:∃ us,H ou=some (.lst us)/\RpL H (Nw N t b sd ou) us (p.os.map dOu)
section
variable {H H':Hp}{N M:Addr->Prop}{t b sd ou:Addr}{p:Pd}
theorem Fl.over(h:Fl H N t b sd ou p)(S:b0n M H H')(hd:∀ z,N z->H z≠none->¬ M z):Fl H' N t b sd ou p:=by
 obtain⟨n,d,ht,hb,⟨us,hs,R1⟩,vs,ho,R2⟩:=h
 have k:∀ {z:Addr} {ys:List V},N z->H z=some (.lst ys)->H' z=some (.lst ys):=fun n e=>S _ _ (fun m=>absurd m (hd _ n (live e))) e
 exact⟨n,d,k n.1 ht,k n.2.1 hb,⟨us,k n.2.2.1 hs,R1.over S fun z hz=>hd z hz.1⟩,vs,k n.2.2.2 ho,R2.over S fun z hz=>hd z hz.1⟩
theorem Fl.same(h:Fl H N t b sd ou p)(S:Same H H'):Fl H' N t b sd ou p:=h.over (M:=fun _=>False) (b0n.of S) fun _ _ _ h=>h
theorem Fl.mono(h:Fl H N t b sd ou p)(hm:∀ z,N z->H z≠none->M z):Fl H M t b sd ou p:=by
 obtain⟨n,d,ht,hb,⟨us,hs,R1⟩,vs,ho,R2⟩:=h
 have k:∀ {z:Addr} {ys:List V},N z->H z=some (.lst ys)->M z:=fun n e=>hm _ n (live e)
 exact⟨⟨k n.1 ht,k n.2.1 hb,k n.2.2.1 hs,k n.2.2.2 ho⟩,d,ht,hb,⟨us,hs,R1.mono fun z hz e=>⟨hm z hz.1 e,hz.2⟩⟩,vs,ho,R2.mono fun z hz e=>⟨hm z hz.1 e,hz.2⟩⟩
theorem Fl.addT{x:Str}(h:Fl H N t b sd ou p)(h':H' t=some (.lst (p.ts.map V.str++[.str x])))(B:a2h t H H'):Fl H' N t b sd ou ⟨p.ts++[x],p.bs,p.es,p.os⟩:=by
 obtain⟨n,d,ht,hb,⟨us,hs,R1⟩,vs,ho,R2⟩:=h
 exact⟨n,d,by rw [h',List.map_append]; rfl,B _ _ d.1.symm hb,⟨us,B _ _ d.2.1.symm hs,R1.put ht (fun z=>z.2.1 rfl) B⟩,vs,B _ _ d.2.2.1.symm ho,R2.put ht (fun z=>z.2.1 rfl) B⟩
theorem Fl.addB{x:Str}(h:Fl H N t b sd ou p)(h':H' b=some (.lst (p.bs.map V.str++[.str x])))(B:a2h b H H'):Fl H' N t b sd ou ⟨p.ts,p.bs++[x],p.es,p.os⟩:=by
 obtain⟨n,d,ht,hb,⟨us,hs,R1⟩,vs,ho,R2⟩:=h
 exact⟨n,d,B _ _ d.1 ht,by rw [h',List.map_append]; rfl,⟨us,B _ _ d.2.2.2.1.symm hs,R1.put hb (fun z=>z.2.2.1 rfl) B⟩,vs,B _ _ d.2.2.2.2.1.symm ho,R2.put hb (fun z=>z.2.2.1 rfl) B⟩
theorem Fl.addS{e:Sd}{us:List V}{v:V}(h:Fl H N t b sd ou p)(hsd:H sd=some (.lst us))(r:Rp H (Nw N t b sd ou) v (dSd e))(h':H' sd=some (.lst (us++[v])))(B:a2h sd H H'):Fl H' N t b sd ou ⟨p.ts,p.bs,p.es++[e],p.os⟩:=by
 obtain⟨n,d,ht,hb,⟨us',hs,R1⟩,vs,ho,R2⟩:=h
 rw [hsd] at hs
 cases hs
 refine⟨n,d,B _ _ d.2.1 ht,B _ _ d.2.2.2.1 hb,⟨_,h',?_⟩,vs,B _ _ d.2.2.2.2.2.symm ho,R2.put hsd (fun z=>z.2.2.2.1 rfl) B⟩
 rw [List.map_append]
 exact (R1.snoc r).put hsd (fun z=>z.2.2.2.1 rfl) B
end
section
variable {H H':Hp}{N M:Addr->Prop}{L:Addr}{p:Pd}
end
theorem RpL.at3{H:Hp}{N:Addr->Prop}{us:List V}{es:List Sd}{i:Nat}{v:V}(h:RpL H N us (es.map dSd))(hv:us[i]? = some v):∃ e p lw,es[i]? = some e/\v = .ref p/\H p=some (.tup [.str e.1,.str e.2.1,.ref lw])/\N lw/\H lw=some (.lst (e.2.2.map V.str)):=by
 obtain⟨d,hd,r⟩:=h.get hv
 rw [List.getElem?_map] at hd
 obtain⟨e,he,rfl⟩:=Option.map_eq_some_iff.mp hd
 obtain⟨p,vs,rfl,hp,r2⟩:=r.tuple
 obtain⟨x,y,z,rfl,h1,h2,h3⟩:=r2.three
 cases h1.strOf
 cases h2.strOf
 obtain⟨lw,ws,rfl,n,hw,r3⟩:=h3.list
 cases r3.f3t
 exact⟨e,p,lw,he,rfl,hp,n,hw⟩
theorem RpL.h1n{H:Hp}{N:Addr->Prop}{us:List V}{α:Type}{es:List α}{f:α->Dat}(h:RpL H N us (es.map f)):us.length=es.length:=by rw [h.len,List.length_map]
structure h3q(p:Pd):Prop where
 t:∀ s∈p.ts,PyData.strOk s=true
 b:∀ s∈p.bs,PyData.strOk s=true
 s:∀ e∈p.es,PyData.strOk e.1=true/\PyData.strOk e.2.1=true/\∀ x∈e.2.2,PyData.strOk x=true
 o:∀ x∈p.os,PyData.strOk x.1=true
theorem c9j{n:Nat}{ss:List Str}(h:∀ s∈ss,PyData.strOk s=true):kqdOk (n+1) (d5s ss)=true:=by
 show (ss.map Dat.str).all (kqdOk n)=true
 rw [List.all_eq_true]
 intro d hd
 obtain⟨s,hs,rfl⟩:=List.mem_map.mp hd
 cases n <;> exact h s hs
theorem f3u{n:Nat}{es:List Sd}(h:∀ e∈es,PyData.strOk e.1=true/\PyData.strOk e.2.1=true/\∀ x∈e.2.2,PyData.strOk x=true):kqdOk (n+3) (.list (es.map dSd))=true:=by
 show (es.map dSd).all (kqdOk (n+2))=true
 rw [List.all_eq_true]
 intro d hd
 obtain⟨e,he,rfl⟩:=List.mem_map.mp hd
 show (PyData.strOk e.1 && (PyData.strOk e.2.1 && (kqdOk (n+1) (d5s e.2.2) && true)))=true
 rw [(h e he).1,(h e he).2.1,c9j (h e he).2.2]
 rfl
theorem g7z{n:Nat}{os:List (Str×Int)}(h:∀ x∈os,PyData.strOk x.1=true):kqdOk (n+3) (.list (os.map dOu))=true:=by
 show (os.map dOu).all (kqdOk (n+2))=true
 rw [List.all_eq_true]
 intro d hd
 obtain⟨e,he,rfl⟩:=List.mem_map.mp hd
 show (PyData.strOk e.1 && (true && true))=true
 rw [h e he]
 rfl
theorem h3q.k{p:Pd}(h:h3q p):kqdOk 4 (dPd p)=true:=by
 show (kqdOk 3 (d5s p.ts) && (kqdOk 3 (d5s p.bs) && (kqdOk 3 (.list (p.es.map dSd)) && (kqdOk 3 (.list (p.os.map dOu)) && true))))=true
 rw [c9j h.t,c9j h.b,f3u h.s,g7z h.o]
 rfl
end L2
namespace L2
open PySem PySem.Spec PyProof.Rows
section
variable {X:Cx}
end
end L2
namespace L2
open PySem PySem.Spec PyProof.Rows
noncomputable def c3y(K:PySem.W.Frag)(C fI:Addr):Bool:=match K.lookup C with
 | some ⟨.type "type", _, .cls cd, sl⟩ => (match cd.mro, sl.toList with
  | .ref C' :: bm, [_, _, _, _, some (.builtin n), _] => (C' == C && n == "ValueError.__new__") && (!cd.hasDel && PySem.W.tailIn K vE bm) && (PySem.W.nsOkIn K cd.ns && PySem.W.nsIn K cd.ns "__init__" == some (some (.ref fI)))
  | _,_=>false)
 | _=>false
theorem c4q{K:PySem.W.Frag}{h:Heap}{N:Addr}{n:Str}{v:Value}{m:Str->Option Value}(X:K.In h)(hn:h.Ns N m)(e:PySem.W.nsIn K N n=some (some v)):m n=some v:=by
 obtain⟨o,es,ep,ho,hd,_,hf⟩:=hn
 unfold PySem.W.nsIn at e
 split at e
 ·rename_i c d es' n' sl q
  have z:=X _ _ q
  rw [ho] at z
  cases z
  cases hd
  split at e
  ·rename_i en he
   cases e
   rw [<- hf]
   unfold nsFind findBy
   rw [<- Array.find?_toList,he]
   rfl
  ·split at e <;> cases e
 ·cases e
theorem c4w{K:PySem.W.Frag}{h:Heap}{C fI:Addr}(X:K.In h)(q:c3y K C fI=true) :
  ∃ bm N nm qn bs hdct sn sub ab col dd k0 k1 k2 k3 k5 mN, h.get? C = some (excClassObj nm qn C N bs bm hdct sn sub ab col dd k0 k1 k2 k3 k5 "ValueError.__new__") ∧ h.Ns N mN ∧ mN "__init__" = some (.ref fI) ∧ OwnTail h vE bm := by
 unfold c3y at q
 split at q
 ·rename_i dd cd sl ho
  split at q
  ·rename_i C' bm k0 k1 k2 k3 n k5 hm hs
   simp only [Bool.and_eq_true,beq_iff_eq,Bool.not_eq_true'] at q
   obtain⟨⟨⟨q1,q2⟩,hdel,ht⟩,hok,hni⟩:=q
   subst q1 q2
   obtain⟨nm,bs,mro,ns,qn,hd,sn,sub,ab,col,del⟩:=cd
   dsimp only at hm hdel hok hni
   subst hm hdel
   obtain⟨l⟩:=sl
   have hs' : l = [k0, k1, k2, k3, some (.builtin "ValueError.__new__"), k5] := hs
   subst hs'
   have hN:=Heap.Ns.of_isNs (PySem.W.isNs_of_in X hok)
   exact⟨bm,ns,nm,qn,bs,hd,sn,sub,ab,col,dd,k0,k1,k2,k3,k5,_,X _ _ ho,hN,c4q X hN hni,PySem.W.tail_of_in X ht⟩
  ·cases q
 ·cases q
section
variable {prog:Program}{w:World}{A:Around}{E:Value->Shared->Prop}{h:Heap}{g:Array GenState}{d:Drawn}{t:Nat}{os:OsState}
variable {nm q:Str}{C N:Addr}{bs bm:List Value}{hdct:Bool}{sn:List Str}{sub:List Value}{ab:Bool}{col:Option Bool}{dd:Option Addr}{k0 k1 k2 k3 k5:Option Value}
theorem d5t{mN:Str->Option Value}{rest:List Value}{fI:Addr}{oI:Obj}{Q:Fin->Shared->Prop}(T:OwnTail h vE bm)
  (zC : h.get? C = some (excClassObj nm q C N bs bm hdct sn sub ab col dd k0 k1 k2 k3 k5 "ValueError.__new__")) (hn : h.Ns N mN) (hi : mN "__init__" = some (.ref fI)) (zf : h.get? fI = some oI) (hfc : oI.cls = .type "function")
  (hq:∀ h' e,Heap.MadeExcOf h h' e (.ref C) rest->wpAny (model prog w) A (call (.ref fI) (.ref e :: rest)) (fun r s'=>r = .none/\Q (.done (.ret (.ref e))) s') E ⟨h',g,d,t,os⟩) (hrest:rest.length<=sizeLine) :
  wpAny (model prog w) A (Builtin.«type.__call__» ⟨.ref C :: rest, []⟩) Q E ⟨h, g, d, t, os⟩ := by
 have F:=PySem.F.excBase_ValueError
 repeat (first | with_reducible refine wpAny_loadPart_at zC ?_ | with_reducible refine wpAny_madeBy_exc zC ?_ | wp_step)
 refine codeAny_call_builtin_code (Code.quiet_builtin _ F.quiet) (wpAny_check_new_subT F T zC ?_)
 refine codeAny_exc_new_subT F T zC ?_ hrest
 show wpAny _ _ _ _ _ _
 let o1 : Obj := { cls := .type "tuple", data := .seq rest.toArray }
 let o2:Obj:={ cls:=.ref C,data:=.fields #[.ref h.objs.size,.none,.none,.none,.bool false,.none] }
 have kp:∀ b o,h.get? b=some o->((h.push o1).push o2).get? b=some o:=fun b o e=>Heap.get?_push_of_some _ (Heap.get?_push_of_some _ e)
 have hC1:=kp _ _ zC
 have hf1:=kp _ _ zf
 have hn1:((h.push o1).push o2).Ns N mN:=hn.keeps kp
 have T1:=T.keeps kp
 have zg:((h.push o1).push o2).get? (h.objs.size+1)=some o2:=by heap_get
 have hcC:(Value.ref C :: bm).contains (.ref C)=true:=by simp
 unfold isInstance
 repeat (first | with_reducible refine wpAny_loadPart_at zg ?_ | (with_reducible refine wpAny_isSubtype_exc hC1 ?_; rw [hcC]) | wp_step)
 show wpAny _ _ (typeLookup (.ref C) _) _ _ _
 refine wpAny_typeLookup_tail hC1 hn1 T1 F.mroIs F.init.lookup ?_
 rw [hi]
 refine wpAny_holding (wpAny_bind ?_)
 unfold bindSpecial
 refine wpAny_bind (wpAny_typeOf (T := "function") ⟨_, hf1, hfc⟩ ?_)
 rw [if_pos (by decide)]
 refine wpAny_pure (wpAny_bind (wpAny_mono (hq _ (h.objs.size+1) ⟨kp,Heap.get?_none_of_le (Nat.le_succ _),h.objs.size,zg,Heap.get?_none_of_le (Nat.le_refl _),?_⟩) (fun r s' hr=>?_) fun _ _ x=>x))
 ·exact Heap.get?_push_of_some _ (Heap.get?_push_at rfl rfl)
 ·obtain⟨rfl,hQ⟩:=hr
  wp_walk
  exact hQ
theorem g8a{mN:Str->Option Value}{rest:List Value}{fI:Addr}{oI:Obj}{Q:Value->Shared->Prop}(T:OwnTail h vE bm)
  (zC : h.get? C = some (excClassObj nm q C N bs bm hdct sn sub ab col dd k0 k1 k2 k3 k5 "ValueError.__new__")) (hn : h.Ns N mN) (hi : mN "__init__" = some (.ref fI)) (zf : h.get? fI = some oI) (hfc : oI.cls = .type "function")
  (hq : ∀ h' e, Heap.MadeExcOf h h' e (.ref C) rest → wpAny (model prog w) (A.under (.builtin "type.__call__" ⟨.ref C :: rest, []⟩)) (call (.ref fI) (.ref e :: rest)) (fun r s' => r = .none ∧ Q (.ref e) s') E ⟨h', g, d, t, os⟩) (hrest : rest.length ≤ sizeLine) :
  wpAny (model prog w) A (call (.ref C) rest) Q E ⟨h,g,d,t,os⟩:=by
 have f1:=tc_lookup
 have f2:=tc_bind (.ref C)
 have hT : (⟨h, g, d, t, os⟩ : Shared).TypeIs (.ref C) "type" := ⟨_, zC, rfl⟩
 refine wpAny_call (codeAny_of_tree ?_)
 show wpAny _ _ (callAny (.ref C) _) _ _ _
 repeat (any_goals (first | assumption | with_reducible refine wpAny_loadPart_at zC ?_ | wp_step))
 refine⟨rfl,?_⟩
 exact codeAny_call_builtin_at (Code.quiet_builtin _ (by decide +kernel)) entry_typeCall (wpAny_check_type_call_sub zC (d5t T zC hn hi zf hfc (fun h' e hm=>hq h' e hm) hrest))
theorem g2y {s : Shared} {env : Env} {x : Sem Value} {Q : Flow → Shared → Prop} (hbase : bm.contains (.type "BaseException") = true) (hh : A.handled = none)
  (hx : wpAny (model prog w) A x (fun v s1 => ∃ e oe vs, v = .ref e ∧ s1.heap.get? C = some (excClassObj nm q C N bs bm hdct sn sub ab col dd k0 k1 k2 k3 k5 "ValueError.__new__") ∧ s1.heap.get? e = some oe ∧ oe.cls = .ref C ∧ oe.data = .fields vs ∧ vs[1]? = some .none ∧ E (.ref e) s1) E s) :
  wpAny (model prog w) A (raiseStmt env (some x) none) Q E s:=by
 have hcB : (Value.ref C :: bm).contains (.type "BaseException") = true := by rw [List.contains_cons, hbase, Bool.or_true]
 unfold raiseStmt
 refine wpAny_bind (wpAny_mono hx (fun v s1 h1=>?_) fun _ _ x=>x)
 obtain⟨e,oe,vs,rfl,zC,he,hc,hd,h1,hE⟩:=h1
 obtain⟨hp,g,d,tk,os⟩:=s1
 obtain⟨oc,od,oda,osl⟩:=oe
 dsimp only at hc hd
 subst hc hd
 repeat (first | with_reducible refine wpAny_loadPart_at he ?_ | with_reducible refine wpAny_loadPart_at zC ?_ | (with_reducible refine wpAny_isSubtype_exc zC ?_; rw [hcB]) | wp_step)
 rw [h1]
 refine wpAny_pure ?_
 rw [if_neg (by decide)]
 exact wpAny_pure (wpAny_raiseNew_none hh hE)
end
end L2
namespace L2
open PySem PySem.Spec PyProof.Rows
noncomputable def d5u(a:Addr)(C:Value):HO:=.ext fun h=>∃ t:Addr,h.get? a=some { cls:=C,data:=.fields #[.ref t,.none,.none,.none,.bool false,.none] }
noncomputable def d8m(a:Addr)(C:Value)(d:Addr):HO:=.ext fun h=>∃ t:Addr,h.get? a=some { cls:=C,dict:=some d,data:=.fields #[.ref t,.none,.none,.none,.bool false,.none] }
noncomputable def rem(H:Hp)(e:Addr):Hp:=fun b=>if b=e then none else H b
theorem d8n{H:Hp}{e:Addr}:rem H e e=none:=by unfold rem; rw [if_pos rfl]
theorem c0n{H:Hp}{e b:Addr}(h:b≠e):rem H e b=H b:=by unfold rem; rw [if_neg h]
theorem f3v{P:Program}{w:World}{H:Hp}{h:Heap}{a t:Addr}{C:Value}(e:h.get? a=some { cls:=C,data:=.fields #[.ref t,.none,.none,.none,.bool false,.none] }):a3g P w H h a (d5u a C) :=
 ⟨⟨t,e⟩,⟨_,e⟩,fun h1 h2 ⟨t,e1⟩ k=>⟨t,k _ e1⟩⟩
theorem g2z{P:Program}{w:World}{H:Hp}{h:Heap}{a t d:Addr}{C:Value}(e:h.get? a=some { cls:=C,dict:=some d,data:=.fields #[.ref t,.none,.none,.none,.bool false,.none] }):a3g P w H h a (d8m a C d) :=
 ⟨⟨t,e⟩,⟨_,e⟩,fun h1 h2 ⟨t,e1⟩ k=>⟨t,k _ e1⟩⟩
section
variable {X:Cx}{pins:List (Addr×Obj)}{σ:St}{H:Hp}{s:Shared}{e:Addr}
theorem Inv.flown{h':Heap}{φ:Heap->Prop}(I:Inv X pins σ H s)(hex:X.ex = [])(he:H e=some (.ext φ))(h0:X.s₀.heap.get? e=none)(hB:(PySem.W.hideAll s.heap (e :: frs X.stack)).StaysIn h')(hU:s.heap.UpToSlots h') :
  Un X.fs [] X.H₀ (rem H e) X.s₀.heap h'/\HOk X.prog X.w (rem H e) h':=by
 have kb:∀ b o,s.heap.get? b=some o->b≠e->b∉frs X.stack->h'.get? b=some o:=fun b o q n m=>hB b o (PySem.W.hideAll_get _ q (by simp [n,m]))
 have kf:∀ b o,s.heap.get? b=some o->b∈frs X.stack->∃ sl,h'.get? b=some { o with slots:=sl }:=fun b o q hb=>by
  obtain⟨_,o',q',nf⟩:=I.stack.mem hb
  rw [q] at q'
  cases q'
  exact hU b o q nf
 have ne:∀ {b o},X.s₀.heap.get? b=some o->b≠e:=fun q z=>by rw [z,h0] at q; cases q
 have nl:∀ {b o},X.s₀.heap.get? b=some o->b≠X.env.locals:=fun q=>Nat.ne_of_lt (Nat.lt_of_lt_of_le (Heap.lt_size q) I.ok.above)
 have any:∀ b o,s.heap.get? b=some o->b≠e->∃ sl,h'.get? b=some { o with slots:=sl }:=fun b o q n=>by
  by_cases hb:b∈frs X.stack
  ·exact kf b o q hb
  ·exact⟨o.slots,kb b o q n hb⟩
 have nex:∀ b:Addr,b∉X.ex:=fun b=>by rw [hex]; simp
 refine⟨⟨fun b o q n hb _=>?_,fun b o q n hb _=>?_,fun b o q n _=>?_,fun b o q _=>?_,fun b xs q=>?_,fun b o u q=>?_,fun b ps q=>?_⟩,fun a o q=>?_⟩
 ·exact kb b o (I.base.keep b o q n hb (nex b)) (ne q) fun z=>(List.mem_cons.mp (I.c4y b z)).elim (nl q) hb
 ·obtain⟨sl,z⟩:=I.base.slot b o q n hb (nex b)
  obtain⟨sl',y⟩:=any b _ z (ne q)
  exact⟨sl',y⟩
 ·rw [c0n (ne q)]
  exact I.base.free b o q n (nex b)
 ·obtain⟨o',z⟩:=I.base.there b o q (nex b)
  obtain⟨sl',y⟩:=any b _ z (ne q)
  exact⟨_,y⟩
 ·have z:=I.base.tups b xs q
  rw [c0n (fun y=>by rw [y,he] at z; cases z)]
  exact z
 ·have z:=I.base.d1s b o u q
  rw [c0n (fun y=>by rw [y,he] at z; cases z)]
  exact z
 ·obtain⟨m,z⟩:=I.base.d4y b ps q
  exact⟨m,by rw [c0n (fun y=>by rw [y,he] at z; cases z)]; exact z⟩
 ·have na:a≠e:=fun z=>by rw [z,d8n] at q; cases q
  rw [c0n na] at q
  refine (I.hok a o q).stay (fun b u hb r=>kb b u r ?_ fun z=>?_) (fun b r=>?_) fun b xs r=>?_
  ·rcases hb with z | z
   ·rw [z]; exact na
   ·intro y
    rw [y,he] at z
    cases z
  ·have hn:=I.c8n b z
   rcases hb with y | y
   ·rw [y,q] at hn
    cases hn
   ·rw [hn] at y
    cases y
  ·rw [c0n (fun y=>by rw [y,he] at r; cases r)]
   exact r
  ·rw [c0n (fun y=>by rw [y,he] at r; cases r)]
   exact r
end
def g1b(X:Cx)(E:XK):Prop:=∀ (pins:List (Addr×Obj)) (σ:St) (H:Hp) (s:Shared) (e C d:Addr),Inv X pins σ H s->H e=some (d8m e (.ref C) d)->X.s₀.heap.get? e=none->E (.ref C) (some d) (rem H e)->X.xe (.ref e) s
section
variable {P:Program}{w:World}{K:PySem.W.Frag}{mg:Str->Option Value}{base:Heap}{N:List Str}{qual:Str}{scope:Scope}{f:Addr}{cd:Value}{A:Around}{outer:List Env}{s:Shared}{H:Hp}{E:XK}
theorem f3w:g1b (f6t (CXE P w) P w K mg base N qual scope f cd A outer s H E) E:=by
 intro pins σ H1 s1 e C d I he h0 hE
 show wpAny (model P w) (A.deeper (envOfC qual scope s.heap.objs.size f cd)) (leaving (envOfC qual scope s.heap.objs.size f cd) (.ref e)) (fun _ s''=>CXE P w outer H s E (.ref e) s'') (fun e' s''=>CXE P w outer H s E e' s'') s1
 obtain⟨⟨t,ho⟩,_,_⟩:=(show a3g P w H1 s1.heap e (d8m e (.ref C) d) from I.hok e _ he)
 have hin:∀ env∈(envOfC qual scope s.heap.objs.size f cd :: outer),∀ b,env.frame=some b->b∈e :: frs (envOfC qual scope s.heap.objs.size f cd :: outer):=fun env he b hb=>List.mem_cons_of_mem _ (List.mem_filterMap.mpr ⟨env,he,hb⟩)
 refine c8y (base:=PySem.W.hideAll s1.heap (e :: frs (envOfC qual scope s.heap.objs.size f cd :: outer))) (a0:=.ref t) (dx:=some d) I.ok.frames rfl (PySem.W.funFrames_hide I.stack hin) ho rfl (fun b o q=>PySem.W.of_hideAll _ q) (PySem.W.hideAll_none _ (by simp)) rfl rfl rfl rfl fun h2 fl u kd=>?_
 refine⟨e,.ref C,.ref t,_,rem H1 e,rfl,fl,I.os,I.bare,fun h3 b3 u3=>?_,d8n,h0,some d,kd,hE⟩
 exact I.flown rfl he h0 b3 (u.trans u3)
end
section
variable {X:Cx}{k:Nat}{f C:Addr}{fd:FuncData}{ps:List Str}{sp:Sp}{E:XK}{x:Str}
theorem Inv.g3a{pins:List (Addr×Obj)}{σ:St}{H:Hp}{h h':Heap}{g:Array GenState}{d:Drawn}{tk tk':Nat}{os:OsState}{e:Addr}{args:List Value}(I:Inv X pins σ H ⟨h,g,d,tk,os⟩)(hex:X.ex = [])(hx:Heap.MadeExcOf h h' e (.ref C) args):Inv X pins σ (upd H e (d5u e (.ref C))) ⟨h',g,d,tk',os⟩:=by
 have I1:Inv X pins σ H ⟨h',g,d,tk',os⟩:=Inv.kept (t':=tk') I hx.keeps
 obtain⟨t,he,_,_⟩:=hx.there
 refine I1.track (I.older hex hx.new) (fun z=>?_) (fun y c q z=>?_) (fun p hp z=>?_) ?_ (f3v he)
 ·obtain⟨m,⟨o,_,_,ho,_⟩,_⟩:=I.loc
  rw [<- z] at ho
  exact nomatch (hx.new.symm.trans ho)
 ·obtain⟨v,o,ho,_⟩:=I.cell y c q
  rw [z] at ho
  exact nomatch (hx.new.symm.trans ho)
 ·have ho:=(I.pin p hp).1
  rw [z] at ho
  exact nomatch (hx.new.symm.trans ho)
 ·cases q:H e with
  | none=>rfl
  | some o =>
   obtain⟨u,z⟩:=(I.hok e o q).obj
   exact nomatch (hx.new.symm.trans z)
theorem f3y{pins:List (Addr×Obj)}{σ:St}{H:Hp}{s:Shared}{Q:VK}{us:List Value}{vs:List V}(O:c3y X.K C f=true)(Ff:PySem.W.isFn X.K (.ref f)=true)(F:a2t X.prog X.w X.K X.mg X.base CX0 k f fd ps sp)(hr:a4w (k+1) X.A)(hb:Binds X.K fd ps [])
  (hex:X.ex = []) (I:Inv X pins σ H s) (r:Vals vs us) (hl:us.length<=sizeLine)
  (h:∀ e,H e=none->sp (.ref e :: vs) (upd H e (d5u e (.ref C))) (fun v H2=>v = .non/\Q (.ref e) H2) E0) :
  wpAny (model X.prog X.w) X.A (call (.ref C) us) (fun u s'=>∃ e H2,u = .ref e/\Inv X pins σ H2 s'/\X.s₀.heap.get? e=none/\Q (.ref e) H2) X.xe s:=by
 obtain⟨bm,N,nm,qn,bs,hdct,sn,sub,ab,col,dd,k0,k1,k2,k3,k5,mN,zC,zN,zi,T⟩:=c4w (h:=s.heap) I.kIn O
 obtain ⟨oI, zf, zc⟩ : ∃ oI, s.heap.get? f = some oI ∧ oI.cls = .type "function" := by
  obtain ⟨o, ho, hc⟩ := Option.map_eq_some_iff.mp (show (X.K.lookup f).map (·.cls) = some (.type "function") from beq_iff_eq.mp Ff)
  exact⟨o,I.kIn _ _ ho,hc⟩
 obtain⟨hh,g,d,tk,os⟩:=s
 refine g8a T zC zN zi zf zc (fun h' e hx=>?_) hl
 have I2:=I.g3a (C:=C) (tk':=tk) hex hx
 have hn:H e=none:=by
  cases q:H e with
  | none=>rfl
  | some o =>
   obtain⟨u,z⟩:=(I.hok e o q).obj
   exact nomatch (hx.new.symm.trans z)
 have hq:=h e hn
 have r2:Vals (V.ref e :: vs) (Value.ref e :: us):=.cons rfl r
 have hl2:((Value.ref e :: us)++[]).length=ps.length:=by
  have z:=r2.length
  rw [F.len _ _ _ _ hq] at z
  rw [List.append_nil]
  exact z.symm
 have hb2:=hb ⟨h',g,d,tk,os⟩ (Value.ref e :: us) I2.kIn hl2
 rw [List.append_nil] at hb2
 refine wpAny_call (codeAny_mono (F.run _ X.stack _ _ ⟨Value.ref e :: us,[]⟩ (Value.ref e :: us) _ _ E0 (hr.make C us []) (I2.env0.make C us []) hb2 r2 hq) fun r s' hq'=>?_)
 cases r with
 | error e=>exact False.elim hq'
 | ok fl =>
  cases fl with
  | ret u =>
   obtain⟨v,H',I3,rv,ev,q3⟩:=I2.after hq'
   subst ev
   exact⟨rv,e,H',rfl,I3,I.older hex hx.new,q3⟩
  | next=>exact False.elim hq'
  | brk=>exact False.elim hq'
  | cont=>exact False.elim hq'
def g3b(C:Addr)(sp:Sp)(E:XK)(t:TA):TS:=fun _ σ H=>t σ H fun vs H1=>vs.length<=sizeLine/\∀ e,H1 e=none ->
 sp (.ref e :: vs) (upd H1 e (d5u e (.ref C))) (fun v H2=>v = .non/\∃ d,H2 e=some (d8m e (.ref C) d)/\E (.ref C) (some d) (rem H2 e)) E0
theorem f3z{e₀:Expr}{rest:List Expr}{t:TA}{np cpos pos:Pos}(O:c3y X.K C f=true)(Ff:PySem.W.isFn X.K (.ref f)=true)(hk:PySem.W.keepIn X.K (.ref C)=true)(F:a2t X.prog X.w X.K X.mg X.base CX0 k f fd ps sp)(hr:a4w (k+1) X.A)(hb:Binds X.K fd ps [])
  (hm:X.mg x=some (.ref C)) (hT:g1b X E) (hc:X.calm=true) (hg:Gl X x) (ha:PA X (e₀ :: rest) t) (hex:X.ex = []:=by rfl)
  (he : starEach (e₀ :: rest) X.env = (false, eval e₀ X.env) :: starEach rest X.env := by rfl) (hplain : (backTo cpos (starEach rest X.env)).any (·.1) = false := by rfl) (hd : (x == ("__debug__" : Str)) = false := by decide) :
  PS X (.Raise (some (.Call (.Name x np) (e₀ :: rest) [] cpos)) none pos) (g3b C sp E t):=by
 intro pins s σ H D I h
 obtain⟨bm,N,nm,qn,bs,hdct,sn,sub,ab,col,dd,k0,k1,k2,k3,k5,mN,zC,zN,zi,T⟩:=c4w (h:=X.base) I.ok.mod.kin O
 rw [arm_exec_Raise]
 refine wpAny_bind (wpAny_standAt (g2y (C:=C) (nm:=nm) (q:=qn) (N:=N) (bs:=bs) (hdct:=hdct) (sn:=sn) (sub:=sub) (ab:=ab) (col:=col) (dd:=dd) (k0:=k0) (k1:=k1) (k2:=k2) (k3:=k3) (k5:=k5) (T.hasType PySem.F.excBase_ValueError.hasBase) (I.ok.hd hc) (wpAny_bind ?_)))
 refine wpAny_mono (Q:=fun v s1=>∃ e H2 d,v = .ref e/\Inv X pins σ H2 s1/\X.s₀.heap.get? e=none/\H2 e=some (d8m e (.ref C) d)/\E (.ref C) (some d) (rem H2 e)) (E:=X.xe) ?_ (fun v s1 q=>wpAny_bind (wpAny_standAt (wpAny_pure ?_))) fun _ _ z=>z
 ·refine wpAny_Call_Name_kw (b8p I hg hm ?_ hd)
  refine PySem.W.callWith_K (h₀:=X.base) I.ok.mod.kin hk (thn (ha cpos pins s σ H _ I h) fun us s1 ⟨vs,H1,I1,r,hl,q⟩=>⟨I1.kIn,?_⟩) he hplain
  refine wpAny_mono (f3y (Q:=fun v H2=>match v with | .ref e=>∃ d,H2 e=some (d8m e (.ref C) d)/\E (.ref C) (some d) (rem H2 e) | _=>False) O Ff F hr hb hex I1 r (by show us.length<=sizeLine; rw [<- r.length]; exact hl) fun e he=>?_) (fun v s2 z=>?_) fun _ _ z=>z
  ·exact q e he
  ·obtain⟨e,H2,rfl,I2,h0,d,q2,q3⟩:=z
   exact⟨e,H2,d,rfl,I2,h0,q2,q3⟩
 ·obtain⟨e,H2,d,rfl,I2,h0,q2,q3⟩:=q
  obtain⟨⟨t,ho⟩,_,_⟩:=(show a3g X.prog X.w H2 s1.heap e (d8m e (.ref C) d) from I2.hok e _ q2)
  exact⟨e,_,_,rfl,I2.bk _ _ zC,ho,rfl,rfl,rfl,hT pins σ H2 s1 e C d I2 q2 h0 q3⟩
end
end L2
namespace L2
open PySem PySem.Spec PyProof.Rows
section
variable {prog:Program}{w:World}{A:Around}{E:Value->Shared->Prop}{h:Heap}{g:Array GenState}{d:Drawn}{t:Nat}{os:OsState}
variable {nm q:Str}{C N:Addr}{bs bm:List Value}{hdct:Bool}{sn:List Str}{sub:List Value}{ab:Bool}{col:Option Bool}{dd:Option Addr}{k0 k1 k2 k3 k5:Option Value}
theorem g8b {e t0 : Addr} {rest : List Value} {Q : Value → Shared → Prop} (T : OwnTail h vE bm) (zC : h.get? C = some (excClassObj nm q C N bs bm hdct sn sub ab col dd k0 k1 k2 k3 k5 "ValueError.__new__"))
  (ze:h.get? e=some { cls:=.ref C,data:=.fields #[.ref t0,.none,.none,.none,.bool false,.none] }) (hl:rest.length<=sizeLine)
  (hq:∀ h' t1,(∀ b o,b≠e->h.get? b=some o->h'.get? b=some o)->h'.get? e=some { cls:=.ref C,data:=.fields #[.ref t1,.none,.none,.none,.bool false,.none] }->Q .none ⟨h',g,d,t,os⟩) :
  wpAny (model prog w) A (call (.builtin "ValueError.__init__") (.ref e :: rest)) Q E ⟨h, g, d, t, os⟩ := by
 have F:=PySem.F.excBase_ValueError
 refine wpAny_call (codeAny_call_builtin F.init.plain F.initEntry (wpAny_check_init_subT F T zC ze rfl ?_))
 wp_walk
 have z1 : (h.push { cls := .type "tuple", data := .seq rest.toArray }).get? e = some { cls := .ref C, data := .fields #[.ref t0, .none, .none, .none, .bool false, .none] } := Heap.get?_push_of_some _ ze
 refine hq _ h.objs.size (fun b o n hb=>?_) ?_
 ·rw [Heap.get?_update_other _ _ (Ne.symm n)]
  exact Heap.get?_push_of_some _ hb
 ·rw [Heap.get?_update_self _ z1 rfl]
  rfl
theorem d5v {self : Value} {l : List Value} (T : OwnTail h vE l) : refuseLoop self "__setattr__" l = pure () := by
 induction T with
 | base=>exact PySem.F.store_ValueError.passes self
 | own _ _ _ _ ih=>rw [refuseLoop_ref]; exact ih
end
structure XAt(K:PySem.W.Frag)(C:Addr)(f:Str):Prop where
 sa : PySem.W.findIn K (.ref C) "__setattr__" = some (some (.builtin "object.__setattr__"))
 na:PySem.W.findIn K (.ref C) f=some none
 hd:PySem.W.hasDictIn K C=true
section
variable {prog:Program}{w:World}{A:Around}{E:Value->Shared->Prop}{s:Shared}{K:PySem.W.Frag}{C fI:Addr}{name:Str}{v:Value}
theorem h1o {x t0 : Addr} {Q : Unit → Shared → Prop} (X : K.In s.heap) (O : c3y K C fI = true) (Z : XAt K C name) (so : PySem.W.subIn K (.ref C) (.type "object") = some true)
  (zx:s.heap.get? x=some { cls:=.ref C,data:=.fields #[.ref t0,.none,.none,.none,.bool false,.none] })
  (hq:∀ h' t',(∀ b o,b≠x->s.heap.get? b=some o->h'.get? b=some o)->h'.get? x=some { cls:=.ref C,dict:=some s.heap.objs.size,data:=.fields #[.ref t0,.none,.none,.none,.bool false,.none] }->h'.Ns1 s.heap.objs.size (fun y=>if y=name then some v else none)->Q () { s with heap:=h',toks:=t' }) :
  wpAny (model prog w) A (setAttr (.ref x) name v) Q E s:=by
 obtain⟨bm,N,nm,qn,bs,hdct,sn,sub,ab,col,dd,k0,k1,k2,k3,k5,mN,zC,zN,zi,T⟩:=c4w (h:=s.heap) X O
 have I:PySem.W.InstAt s.heap x { cls:=.ref C,data:=.fields #[.ref t0,.none,.none,.none,.bool false,.none] } C none:=⟨zx,rfl,rfl,True.intro⟩
 have SF:=PySem.F.store_object
 obtain⟨cd,hc,hd'⟩:=PySem.W.any_some Z.hd
 refine PySem.W.set_plain X I Z.sa ?_
 have sub : PySem.W.Looks (model prog w) s.heap (isInstance (.ref x) (.type "object")) true := I.type.andThen (PySem.W.looks_subIn X so)
 refine codeAny_call_builtin SF.slot.plain SF.entry (@PySem.W.check_slot (model prog w) _ _ { s with toks := s.toks + 1 } "object.__setattr__" "object" "__setattr__" (.ref x) [.str name s.toks, v] [] _ SF.kind SF.split sub (SF.args (.ref x) (.str name s.toks) v) ?_)
 rw [PySem.W.osa_eq,refuse_eq]
 refine wpAny_bind (wpAny_bind (I.type.here (s:={ s with toks:=s.toks+1 }) (wpAny_bind (wpAny_mroOf_exc zC ?_))))
 rw [refuseLoop_ref,d5v T]
 refine wpAny_pure (wpAny_bind (I.type.here (s:={ s with toks:=s.toks+1 }) (wpAny_bind ((PySem.W.looks_findIn X Z.na).here (s:={ s with toks:=s.toks+1 }) (wpAny_bind (wpAny_pure ?_))))))
 refine wpAny_bind (wpAny_pure (wpAny_bind (wpAny_bind (wpAny_loadPart zx ?_))))
 refine wpAny_bind ((PySem.W.looks_clsIn X hc).here (s:={ s with toks:=s.toks+1 }) ?_)
 rw [hd']
 have z1 : (s.heap.push { cls := .type "dict", data := .dict #[] }).get? x = some { cls := .ref C, data := .fields #[.ref t0, .none, .none, .none, .bool false, .none] } := Heap.get?_push_of_some _ zx
 have nx:x≠s.heap.objs.size:=Nat.ne_of_lt (Heap.lt_size zx)
 refine wpAny_bind (wpAny_alloc' (wpAny_bind (wpAny_update' z1 (wpAny_pure ?_))))
 have z2 : ((s.heap.push { cls := .type "dict", data := .dict #[] }).update x fun o => { o with dict := some s.heap.objs.size }).Ns s.heap.objs.size (fun _ => none) :=
  ⟨_,#[],_,(Heap.get?_update_other _ _ nx).trans (Heap.get?_push_at rfl rfl),rfl,(fun e he=>absurd he (by simp)),fun _=>rfl⟩
 show wpAny _ _ (Builtin.ObjectAttr.storeInDict s.heap.objs.size (.str name s.toks) name v) _ _ _
 refine wpAny_bind (wpAny_pure (wpAny_bind (wpAny_nsSet1 (Heap.Ns1.of_empty z2) fun h' hn' hs=>?_)))
 obtain⟨oD,esD,epD,hoD,hdD,hcD⟩:=hn'.count (PySem.Within.cons name v PySem.Within.nil)
 refine wpAny_bind (wpAny_lookBehind hoD (by rw [hdD]; exact pastItsLine_dict (Nat.le_trans hcD (by rw [List.length_cons,List.length_nil,sizeLine_eq]; omega))) (wpAny_pure ?_))
 refine hq h' _ (fun b o n hb=>?_) ?_ hn'
 ·exact (hs.2 b (Nat.ne_of_lt (Heap.lt_size hb))).trans ((Heap.get?_update_other _ _ (Ne.symm n)).trans (Heap.get?_push_of_some _ hb))
 ·exact (hs.2 x nx).trans (Heap.get?_update_self _ z1 rfl)
end
section
variable {prog:Program}{w:World}{A:Around}{E:Value->Shared->Prop}{h:Heap}{g:Array GenState}{d:Drawn}{t:Nat}{os:OsState}{K:PySem.W.Frag}{a C dx:Addr}{o:Obj}{mA:Str->Option Value}{name:Str}{v:Value}
theorem f8q{tk:Tok}{Q:Fin->Shared->Prop}(X:K.In h)(Z:c1m K C)(na:PySem.W.findIn K (.ref C) name=some none)(hh:PySem.W.hasDictIn K C=true)(zx:h.get? a=some o)(hc:o.cls = .ref C)(hd:o.dict=some dx){ws:Array Value}(hf:o.data = .fields ws)(hn:h.Ns1 dx mA)(hv:mA name=some v)(hv':PySem.W.handedIn v=true)(hq:Q (.done (.ret v)) ⟨h,g,d,t,os⟩) :
  wpAny (model prog w) A (Builtin.«object.__getattribute__» ⟨[.ref a, .str name tk], []⟩) Q E ⟨h, g, d, t, os⟩ := by
 obtain⟨cd,hcd,hd'⟩:=PySem.W.any_some hh
 have hN:h.Ns dx mA:=let ⟨o',es,ep,e1,e2,e3,_,e4⟩:=hn; ⟨o',es,ep,e1,e2,e3,e4⟩
 repeat (any_goals (first | assumption | (with_reducible refine wpAny_loadPart_at zx ?_; rw [hc]) | with_reducible refine PySem.W.Looks.here (PySem.W.looks_findIn X na) ?_ | wp_step))
 rw [hf]
 refine wpAny_bind (wpAny_loadPart zx ?_)
 rw [hc]
 refine wpAny_bind ((PySem.W.looks_clsIn X hcd).here (s:=⟨h,g,d,t,os⟩) ?_)
 rw [hd',hd]
 refine wpAny_pure (wpAny_nsGet hN ?_)
 rw [hv]
 repeat (any_goals (first | assumption | wp_step))
theorem g8c{expr:Bool}{Q:Value->Shared->Prop}(X:K.In h)(Z:c1m K C)(na:PySem.W.findIn K (.ref C) name=some none)(hh:PySem.W.hasDictIn K C=true)(zx:h.get? a=some o)(hc:o.cls = .ref C)(hd:o.dict=some dx){ws:Array Value}(hf:o.data = .fields ws)(hn:h.Ns1 dx mA)(hv:mA name=some v)(hv':PySem.W.handedIn v=true)(hq:Q v ⟨h,g,d,t+1,os⟩) :
  wpAny (model prog w) A (getAttr (.ref a) name expr) Q E ⟨h,g,d,t,os⟩:=by
 have f3:=F.attrBase_ValueError.ga.bind (.ref a)
 have hx2 : (Value.builtin "BaseException.__getattribute__" == Value.builtin "object.__getattribute__") = false := by decide +kernel
 have hx1 : (onTheHeap (Value.ref C) && Value.builtin "BaseException.__getattribute__" == Value.builtin "object.__getattribute__") = false := by rw [hx2]; rfl
 have hx4 : (expr && onTheHeap (Value.builtin "BaseException.__getattribute__")) = false := by
  rw [show onTheHeap (Value.builtin "BaseException.__getattribute__") = false from rfl, Bool.and_false]
 unfold getAttr
 refine wpAny_bind (wpAny_mkText ?_)
 repeat (any_goals (first | assumption | (with_reducible refine wpAny_loadPart_at zx ?_; rw [hc]) | with_reducible refine PySem.W.Looks.here (PySem.W.looks_findIn X Z.ga) ?_ | with_reducible refine PySem.W.Looks.here (PySem.W.looks_findIn X Z.ng) ?_ | wp_step))
 refine codeAny_call_builtin F.attrBase_ValueError.ga.plain F.entry_bexc_ga (d8g X Z zx hc (f8q X Z na hh zx hc hd hf hn hv hv' ?_))
 repeat (any_goals (first | assumption | exact PySem.W.handed_on (s:=⟨h,g,d,t+1,os⟩) hv' hq | wp_step))
end
section
variable {X:Cx}{f C:Addr}{name:Str}{pos pos' apos p np:Pos}{ta tv:TE}{e₀ o value:Expr}{es:List Expr}{t:TA}{m:Str}{M:Addr}
def f8r(K:PySem.W.Frag)(t:TA):TE:=fun σ H Q=>t σ H fun vs H1=>∃ e C f ws,vs = .ref e :: ws/\H1 e=some (d5u e (.ref C))/\c3y K C f=true/\ws.length<=sizeLine/\Q .non H1
structure XIn(K:PySem.W.Frag)(M:Addr):Prop where
 sp : PySem.W.specialIn K (.ref M) "__getattribute__" = some (some (.builtin "type.__getattribute__"))
 rd : PySem.W.readsIn K M (.type "type") = true
 fi : PySem.W.findCls K (.ref M) (.type "type") "__init__" = some (.val (.builtin "ValueError.__init__"))
theorem d9s{Mo:Model}{A:Around}{Q:Value->Shared->Prop}{E:Value->Shared->Prop}{s:Shared}{env:Env}{e:Expr}{rest:List Expr}{i:String}(h:wpAny Mo A (spliced (backTo pos (starEach (e :: rest) env))) (fun vs s₁=>wpAny Mo A (call (.builtin i) vs) Q E s₁) E s)
  (he:starEach (e :: rest) env=(false,eval e env) :: starEach rest env) (hplain:(backTo pos (starEach rest env)).any (·.1)=false):wpAny Mo A (callWith pos (.builtin i) [] (backTo pos (starEach (e :: rest) env)) []) Q E s:=by
 rw [he] at h ⊢
 exact PySem.W.callWith_of (P:=fun _=>True) (by show ((false || (backTo pos (starEach rest env)).any (·.1)) || false)=false; rw [hplain]; rfl) (fun h _=>⟨.machine,.inr (.inl rfl),.now⟩) (Calls.evalArgs_plain (wpAny_mono h (fun _ _ z=>⟨trivial,z⟩) fun _ _ z=>z))
theorem d9t{pl:Sem Bool}(Z:XIn X.K M)(hg:Gl X m)(hm:X.mg m=some (.ref M))(ha:PA X (e₀ :: es) t)
  (hst : starEach (e₀ :: es) X.env = (false, eval e₀ X.env) :: starEach es X.env := by rfl) (hpl : (backTo pos (starEach es X.env)).any (·.1) = false := by rfl) (hdb : (m == ("__debug__" : Str)) = false := by decide)
  (ht : eval (.Call (.Attribute (.Name m np) "__init__" apos) (e₀ :: es) [] pos) X.env = (do
   let ov <- eval (.Name m np) X.env
   standAt apos.atName
   let (f, first) ← holding [ov] (getMethod ov "__init__" pl)
   callWith pos f first (backTo pos (starEach (e₀ :: es) X.env)) (backToKw pos (keywordEach [] X.env))):=by rfl) :
  PE X (.Call (.Attribute (.Name m np) "__init__" apos) (e₀ :: es) [] pos) (f8r X.K t) := by
 intro pins s σ H Q I h
 refine PySem.W.methodCall_KW (pl:=pl) (b8p I hg hm ?_ hdb) ht
 refine PySem.W.method_cls I.kIn Z.sp (PySem.W.cls_value I.kIn Z.rd Z.fi (by decide) ?_)
 refine d9s (thn (ha pos pins _ σ H _ (I.tok _) h) fun us s2 ⟨vs,H2,I2,r,q⟩=>?_) hst hpl
 obtain⟨e,C,f,ws,rfl,he,O,hl,q⟩:=q
 obtain⟨bm,N,nm,qn,bs,hdct,sn,sub,ab,col,dd,k0,k1,k2,k3,k5,mN,zC,zN,zi,T⟩:=c4w (h:=s2.heap) I2.kIn O
 obtain⟨⟨t0,ho⟩,_,_⟩:=(show a3g X.prog X.w H2 s2.heap e (d5u e (.ref C)) from I2.hok e _ he)
 obtain⟨u,us',rfl,r1,r2⟩:∃ u us',us=u :: us'/\RelV (V.ref e) u/\Vals ws us':=by
  cases r with
  | cons a b=>exact⟨_,_,rfl,a,b⟩
 cases (show u=Value.ref e from r1)
 obtain⟨hh,g,d,tk,os⟩:=s2
 refine g8b (rest:=us') T zC ho (by rw [<- Vals.length r2]; exact hl) fun h' t1 k ho'=>⟨.non,H2,?_,rfl,q⟩
 have z:=Inv.write (x:=e) (e:=e) (o:=d5u e (.ref C)) (h':=h') (t':=tk) I2 (by rw [he]; exact True.intro) (.inl rfl) k ⟨_,ho'⟩ (f3v ho')
 have y:upd H2 e (d5u e (.ref C))=H2:=by
  funext b
  unfold upd
  split
  ·rename_i hb
   rw [hb,he]
  ·rfl
 rw [y] at z
 exact z
def h1p (K : PySem.W.Frag) (ta tv : TE) (f : Str) : TS := fun D σ H => tv σ H fun y H1 => ta σ H1 fun x H2 => ∃ e C g, x = .ref e ∧ H2 e = some (d5u e (.ref C)) ∧ c3y K C g = true ∧ XAt K C f ∧ PySem.W.subIn K (.ref C) (.type "object") = some true ∧
 ∀ d,H2 d=none->d≠e->D.nx σ (upd (upd H2 d (.xd [(f,y)])) e (d8m e (.ref C) d))
theorem g3c(ha:PE X o ta)(hv:PE X value tv)(hs:swapsWith value (some (.Attribute o name pos')) pos.line X.env=pure false):PS X (.Assign [.Attribute o name pos'] value pos) (h1p X.K ta tv name):=by
 intro pins s σ H D I h
 refine plainObj_wpAny_Assign_Attribute (thn (hv pins s σ H _ I h) fun u s1 ⟨y,H1,I1,ry,q⟩=>thn (ha pins s1 σ H1 _ I1 q) fun ov s2 ⟨x,H2,I2,rx,e,C,g,ex,he,O,Z,so,q2⟩=>?_) hs
 subst ex
 cases (show ov=Value.ref e from rx)
 obtain⟨⟨t0,ho⟩,_,_⟩:=(show a3g X.prog X.w H2 s2.heap e (d5u e (.ref C)) from I2.hok e _ he)
 refine h1o I2.kIn O Z so ho fun h' t' k ho' hn=>⟨σ,_,?_,q2 s2.heap.objs.size (I2.hok.fresh (Nat.le_refl _)) (Nat.ne_of_gt (Heap.lt_size ho))⟩
 have nd:e≠s2.heap.objs.size:=Nat.ne_of_lt (Heap.lt_size ho)
 have hd:H2 s2.heap.objs.size=none:=I2.hok.fresh (Nat.le_refl _)
 have z:=Inv.write (x:=e) (e:=e) (o:=d8m e (.ref C) s2.heap.objs.size) (h':=h') (t':=t') I2 (by rw [he]; exact True.intro) (.inl rfl) k ⟨_,ho'⟩ (g2z ho')
 have nl:s2.heap.objs.size≠X.env.locals:=Nat.ne_of_gt I2.lt
 have z2:=z.track (a:=s2.heap.objs.size) (o:=.xd [(name,y)]) ?_ nl (fun x c hc w=>?_) (fun p hp w=>?_) ?_ ?_
 ·have e2:upd (upd H2 e (d8m e (.ref C) s2.heap.objs.size)) s2.heap.objs.size (.xd [(name,y)])=upd (upd H2 s2.heap.objs.size (.xd [(name,y)])) e (d8m e (.ref C) s2.heap.objs.size):=by
   funext b
   unfold upd
   by_cases hb:b=s2.heap.objs.size
   ·rw [if_pos hb,if_neg (by rw [hb]; exact Ne.symm nd),if_pos hb]
   ·rw [if_neg hb,if_neg hb]
  rw [e2] at z2
  exact z2
 ·exact Heap.get?_none_of_le I2.sz
 ·obtain⟨_,oc,hoc,_⟩:=I2.cell x c hc
  exact absurd (Heap.lt_size hoc) (by rw [w]; exact Nat.lt_irrefl _)
 ·exact absurd (Heap.lt_size (I2.pin p hp).1) (by rw [w]; exact Nat.lt_irrefl _)
 ·rw [a1l (Ne.symm nd)]
  exact hd
 ·refine⟨_,hn,fun g=>?_⟩
  show d1p ([(name,y)].lookup g) (if g=name then some u else none)
  by_cases hg:g=name
  ·rw [if_pos hg,hg]
   simp only [List.lookup,beq_self_eq_true]
   exact ry
  ·rw [if_neg hg]
   simp only [List.lookup,beq_eq_false_iff_ne.mpr hg]
   exact True.intro
def g8d(K:PySem.W.Frag)(ta:TE)(f:Str):TE:=fun σ H Q=>ta σ H fun x H1=>∃ e C d fs v,x = .ref e/\H1 e=some (f6h e (.ref C) d)/\c1m K C/\XAt K C f/\H1 d=some (.xd fs)/\fs.lookup f=some v/\Q v H1
theorem g3d(he:PE X o ta)(hb:attributeBase o name X.env (eval o X.env)=eval o X.env):PE X (.Attribute o name pos) (g8d X.K ta name):=by
 intro pins s σ H Q I h
 refine f1v hb (thn (he pins s σ H _ I h) fun u s1 ⟨x,H1,I1,rx,e,C,d,fs,v,ex,ee,Zq,Z,ed,l,q⟩=>?_)
 subst ex
 cases (show u=Value.ref e from rx)
 obtain⟨⟨oe,h1,h2,h3,ws,h4⟩,_,_⟩:=(show a3g X.prog X.w H1 s1.heap e (f6h e (.ref C) d) from I1.hok e _ ee)
 obtain⟨mA,hn,hr⟩:=(show a3g X.prog X.w H1 s1.heap d (.xd fs) from I1.hok d _ ed)
 obtain⟨w,hw,rw'⟩:=d1p.some_of (v:=v) (o:=mA name) (by rw [<- l]; exact hr name)
 obtain⟨hh,g,dr,tk,os⟩:=s1
 exact g8c I1.kIn Zq Z.na Z.hd h1 h2 h3 h4 hn hw (d1v rw') ⟨v,H1,I1.tok _,rw',q⟩
noncomputable def h1q(K:PySem.W.Frag):List V->Hp->VK->Prop:=fun xs H Q=>match xs with
 | [.ref a,.ref D]=>∃ C d b,H a=some (f6h a (.ref C) d)/\c1m K C/\PySem.W.kitOne K (.ref C) (.ref D)=some b/\Q (.bl b) H
 | [.ref a,.ty n]=>∃ C d b,H a=some (f6h a (.ref C) d)/\c1m K C/\PySem.W.kitOne K (.ref C) (.type n)=some b/\Q (.bl b) H
 | _=>False
theorem f4g{pins:List (Addr×Obj)}{σ:St}{H:Hp}{s:Shared}{a C d:Addr}{c:Value}{b:Bool}{A:Around}{E:Value->Shared->Prop}{Q:Value->Shared->Prop}(I:Inv X pins σ H s)(ha:H a=some (f6h a (.ref C) d))(Z:c1m X.K C)(e:PySem.W.kitOne X.K (.ref C) c=some b)
  (h : ∀ tk, Q (.bool b) { s with toks := tk }) : wpAny (model X.prog X.w) A (call (.builtin "isinstance") [.ref a, c]) Q E s := by
 obtain⟨⟨o,h1,h2,_⟩,_,_⟩:=(show a3g X.prog X.w H s.heap a (f6h a (.ref C) d) from I.hok a _ ha)
 exact PySem.W.kia_one (f7p Z) I.kIn ⟨o,h1,h2⟩ e (fun z=>nomatch z) h
theorem a7k : b8n X (.builtin "isinstance") (h1q X.K) := by
 intro pins s σ H xs us Q I r h
 match xs,r,h with
 | [.ref a,.ref D],r,⟨C,d,b,ha,Z,e,q⟩ =>
  obtain⟨u,v,rfl,r1,r2⟩:=vals2 r
  cases (show v=Value.ref D from r2)
  cases (show u=Value.ref a from r1)
  exact f4g I ha Z e fun tk=>⟨.bl b,H,I.tok tk,rfl,q⟩
 | [.ref a,.ty n],r,⟨C,d,b,ha,Z,e,q⟩ =>
  obtain⟨u,v,rfl,r1,r2⟩:=vals2 r
  cases (show v=Value.type n from r2)
  cases (show u=Value.ref a from r1)
  exact f4g I ha Z e fun tk=>⟨.bl b,H,I.tok tk,rfl,q⟩
end
end L2
namespace L2
open PySem PySem.Spec PyProof.Rows
section
variable {X:Cx}{k:Nat}{f C:Addr}{fd:FuncData}{ps:List Str}{sp:Sp}{dvs:List V}{ds:List Value}{E:XK}{m:Str}{pos apos:Pos}{e o:Expr}{es:List Expr}{ta:TE}{t:TA}
theorem f4h{pl:Sem Bool}(he:PE X.nox o ta)(c:Cls X.K C)(hm:Meth X.K C m f)(F:a2t X.prog X.w X.K X.mg X.base (CXE X.prog X.w) k f fd ps sp)(hr:a4w k X.A)(hb:Binds X.K fd ps ds)(hd:Vals dvs ds)(ha:PA X.nox (e :: es) t)
  (hst:starEach (e :: es) X.env=(false,eval e X.env) :: starEach es X.env:=by rfl) (hpl:(backTo pos (starEach es X.env)).any (·.1)=false:=by rfl)
  (ht:eval (.Call (.Attribute o m apos) (e :: es) [] pos) X.env=(do
   let ov <- eval o X.env
   standAt apos.atName
   let (f,first) <- holding [ov] (getMethod ov m pl)
   callWith pos f first (backTo pos (starEach (e :: es) X.env)) (backToKw pos (keywordEach [] X.env))):=by rfl) :
  PEX X (.Call (.Attribute o m apos) (e :: es) [] pos) (f3j C m sp dvs E ta t) E:=by
 intro pins s σ H Q I h
 refine PySem.W.methodCall_KW (pl:=pl) (wpAny_mono (he pins s σ H _ (I.wish _) h) (fun u s1 ⟨x,H1,I1,rx,z⟩=>?_) fun _ _ z=>False.elim z) ht
 cases x with
 | ref a =>
  obtain rfl:u=Value.ref a:=rx
  dsimp only at z
  split at z
  ·rename_i C' dx fs ea
   obtain⟨rfl,l,q⟩:=z
   have I1':=I1.b8r
   refine c2w I1' ea c hm l ?_
   refine PySem.W.callWith_K (first:=[.ref a]) (h₀:=X.base) I.ok.mod.kin hm.kp (wpAny_mono (ha pos pins s1 σ H1 _ I1 q) (fun us s2 ⟨vs,H2,I2,r,q2⟩=>⟨I2.b8r.kIn,?_⟩) fun _ _ z=>False.elim z) hst hpl
   exact g2j (us:=.ref a :: us) (vs:=.ref a :: vs) F hr hb hd I2.b8r (.cons rfl r) q2
  ·exact z.elim
 | _=>exact False.elim z
theorem f8s{K:PySem.W.Frag}{name:Str}(hK:X.K=K)(he:PE X o ta)(hb:attributeBase o name X.env (eval o X.env)=eval o X.env):PE X (.Attribute o name pos) (g8d K ta name):=hK▸g3d he hb
end
structure h1r(K:PySem.W.Frag)(C f:Addr)(name:Str):Prop where
 ok:c3y K C f=true
 fn:PySem.W.isFn K (.ref f)=true
 kp:PySem.W.keepIn K (.ref C)=true
 sa : PySem.W.findIn K (.ref C) "__setattr__" = some (some (.builtin "object.__setattr__"))
 na:PySem.W.findIn K (.ref C) name=some none
 hd:PySem.W.hasDictIn K C=true
theorem h1r.at{K:PySem.W.Frag}{C f:Addr}{name:Str}(h:h1r K C f name):XAt K C name:=⟨h.sa,h.na,h.hd⟩
end L2
namespace L2
open PySem PySem.Spec PyProof.Rows
noncomputable def a6h(X:Cx)(scope:Scope)(cl:List (Str×Addr))(C:Addr)(s₃:Shared)(H₃:Hp)(fp:List Addr)(x y zz:Str):Cx where
 prog:=X.prog
 w:=X.w
 K:=X.K
 mg:=X.mg
 base:=X.base
 A:=X.A
 N:=x :: y :: zz :: mask x X.N
 s₀:=s₃
 H₀:=H₃
 env:=compEnvC scope cl C X.env
 outer:=X.stack
 stack:=X.stack
 ex:=fp
 fn:=fun _=>false
 calm:=X.calm
 pn:=[]
 xe:=fun _ _=>False
structure c0j(X:Cx)(scope:Scope)(x y zz:Str):Prop where
 kind:scope.kind = .function
 c3v:∀ y∈scope.names,y.2≠.cell
 loc:∀ y∈scope.names,y.2 = .local->scope.names.lookup y.1=some .local
 own:scope.names.lookup x=some .local
 h1b:scope.names.lookup y=some .local
 h3r:scope.names.lookup zz=some .local
 free:∀ y∈scope.names,y.2 = .free->X.env.kindOf y.1=some .cell\/X.env.kindOf y.1=some .free
 nd:(x :: y :: zz :: mask x X.N).Nodup
 noe : ∀ y ∈ scope.names, y.1 ≠ ""
 vis:∀ y∈mask x X.N,scope.names.lookup y≠some .local
def f4i(J:It)(te:TE)(D:Addr)(σ:St)(H:Hp)(Q:VK)(_:Tag Q):Prop:=∃ (n:Nat) (W:Nat->List V->Hp->Prop),W 0 [] H/\∀ i ys H,i<=n->W i ys H->H D=some (.lst ys) /\
 ((J.stop i H/\Q (.ref D) H)\/(i < n/\J.go i H/\ys.length < sizeLine/\∀ x H',J.yld i H x H'->∃ p u v r,x = .ref p/\H' p=some (.tup [u,v,r])/\te (some u :: some v :: some r :: σ) H' fun y H2=>H2 D=some (.lst ys) /\
  ∀ H3,a2h D H2 H3->H3 D=some (.lst (ys++[y]))->W (i+1) (ys++[y]) H3))
def g8e(wi:TI)(te:TE):TE:=fun σ H Q=>wi σ H fun J H1=>∀ D H2,H1 D=none->Same H1 H2->H2 D=some (.lst [])->f4i J te D σ H2 Q ⟨⟩
section
variable {X:Cx}{scope:Scope}{x y zz:Str}{cl:List (Str×Addr)}{pins:List (Addr×Obj)}{σ:St}{H:Hp}{s s₄:Shared}{fp:List Addr}
theorem Inv.h1s(S:c0j X scope x y zz)(I:Inv X pins σ H s)(hcl:∀ y c,cl.lookup y=some c->(y,NameKind.free)∈scope.names/\X.env.cells.lookup y=some c)(hcl2:∀ y,(y,NameKind.free)∈scope.names->cl.lookup y=X.env.cells.lookup y)
  (hfp:∀ b∈fp,d1q X pins H b) (hlt:∀ b∈fp,b < s.heap.objs.size) {m:Str->Option Value} (hns:s₄.heap.Ns s.heap.objs.size m) (hk:∀ b o,s.heap.get? b=some o->s₄.heap.get? b=some o) (hos:s₄.os=s.os) (hg:s₄.gens=s.gens) :
  Inv (a6h X scope cl s.heap.objs.size s H fp x y zz) [] (none :: none :: none :: σ) H s₄:=by
 refine⟨⟨I.ok.mod,?_,I.ok.glob,I.ok.blt,Nat.le_refl _,fun y z c h1 h2=>I.ok.inj y z c (hcl y c h1).2 (hcl z c h2).2,fun y hy=>?_,(fun y c h=>nomatch h),I.ok.hd,I.ok.frames,.inl rfl,fun b hb=>⟨Nat.ne_of_lt (hlt b hb),fun y c e=>(hfp b hb).2.2.2.2.1 y c (hcl y c e).2⟩,
  fun b o e=>I.bs b o e,Nat.le_trans I.ok.bsz I.sz,fun b o e hb=>?_,fun b hb hf=>?_,I.stack,I.c8n⟩,
  hos,by rw [hg]; exact I.bare,Un.kept hk,⟨m,hns,fun i y v h1 h2 h3=>?_⟩,fun y c e=>?_,I.hok.fresh (Nat.le_refl _),fun y c e=>I.c0k y c (hcl y c e).2,fun p hp=>absurd (show p∈([] : List (Addr×Obj)) from hp) (by simp),I.hok.kept hk,by show (none :: none :: none :: σ).length=(x :: y :: zz :: mask x X.N).length; rw [List.length_cons,List.length_cons,List.length_cons,List.length_cons,List.length_cons,List.length_cons,mask,List.length_map,I.len]⟩
 ·exact S.kind
 ·rcases a9h (env:=X.env) (sc:=scope) (x:=y) hy with z | z
  ·obtain⟨c,hc⟩:=I.ok.has y (S.free _ z rfl)
   exact⟨c,(hcl2 y z).trans hc⟩
  ·exact absurd rfl (S.c3v _ z)
 ·rcases (hfp b hb).2.2.2.1 with z | z
  ·exact I.ok.g1m b o e z
  ·exact absurd (Nat.lt_of_lt_of_le (Heap.lt_size (I.ok.bs b o e).1) z) (Nat.lt_irrefl _)
 ·rcases List.mem_cons.mp (I.c4y b hf) with z | z
  ·exact (hfp b hb).2.1 z
  ·exact (hfp b hb).2.2.1 z
 ·match i,h1,h2 with
  | 0,h1,h2=>cases h2
  | 1,h1,h2=>cases h2
  | 2,h1,h2=>cases h2
  | i+3,h1,h2 =>
   have h1m:(mask x X.N)[i]? = some y:=by simpa [a6h] using h1
   have h2':σ[i]? = some (some v):=by simpa using h2
   have hyN:y∈mask x X.N:=List.mem_of_getElem? h1m
   have hc:(relabel scope X.env).names.lookup y=some .cell\/(relabel scope X.env).names.lookup y=some .free:=by
    rcases h3 with z | z | z
    ·exfalso
     rcases b5h (env:=X.env) scope.names _ z with q | ⟨q,_⟩
     ·exact S.vis y hyN q
     ·cases q
    ·exact .inl z
    ·exact .inr z
   have hfr:(y,NameKind.free)∈scope.names:=by
    rcases a9h hc with z | z
    ·exact z
    ·exact absurd rfl (S.c3v _ z)
   have h1':X.N[i]? = some y:=by
    rw [mask,List.getElem?_map] at h1m
    obtain⟨z,hz,e⟩:=Option.map_eq_some_iff.mp h1m
    by_cases hzx:z=x
    ·rw [if_pos hzx] at e
     exact absurd e.symm (S.noe _ hfr)
    ·rw [if_neg hzx] at e
     rw [hz,e]
   obtain⟨mX,hnX,hl⟩:=I.loc
   have hk2:=S.free _ hfr rfl
   have h0p:Vis X.env.scope y:=by
    rcases hk2 with z | z
    ·exact .inr (.inl z)
    ·exact .inr (.inr z)
   obtain⟨u,ru,lk⟩:=hl i y v h1' h2' h0p
   refine⟨u,ru,.inr ⟨hc,?_⟩⟩
   rcases lk with ⟨z,_⟩ | ⟨_,c,ec,o,ho,hd⟩
   ·rcases hk2 with q | q
    ·rw [q] at z; cases z
    ·rw [q] at z; cases z
   ·exact⟨c,(hcl2 y hfr).trans ec,o,hk c o ho,hd⟩
 ·obtain⟨v,o,ho,hd⟩:=I.cell y c (hcl y c e).2
  exact⟨v,o,hk c o ho,hd⟩
theorem Inv.g3e{σ':St}{H':Hp}{s':Shared}{h':Heap}(I:Inv X pins σ H s)(hfp:∀ b∈fp,d1q X pins H b)(J:Inv (a6h X scope cl s.heap.objs.size s H fp x y zz) [] σ' H' s')(hs:Heap.SameBut s.heap.objs.size s'.heap h') :
  Inv X pins σ H' { s' with heap:=h' }:=by
 have ne:∀ {b:Addr} {o:Obj},s.heap.get? b=some o->b≠s.heap.objs.size:=fun e=>Nat.ne_of_lt (Heap.lt_size e)
 have u:=J.base
 have u':Un (frs X.stack) fp H H' s.heap h':=⟨fun b o e n hb hx=>hs.extBut b o (ne e) (u.keep b o e n hb hx),fun b o e n hb hx=>(u.slot b o e n hb hx).elim fun sl q=>⟨sl,hs.extBut b _ (ne e) q⟩,u.free,
  fun b o e hx=>(u.there b o e hx).elim fun o' q=>⟨o',hs.extBut b o' (ne e) q⟩,u.tups,u.d1s,u.d4y⟩
 have nC:∀ {b:Addr} {o:HO},H' b=some o->b≠s.heap.objs.size:=fun {b o} e z=>by
  have f:H' s.heap.objs.size=none:=J.free
  rw [z,f] at e; cases e
 have ok:HOk X.prog X.w H' h':=fun b o e=>(J.hok b o e).stay (fun c v hc q=>hs.extBut c v (by
  rcases hc with z | z
  ·rw [z]; exact nC e
  ·exact nC z) q) (fun _ q=>q) fun _ _ q=>q
 exact I.call' (s':={ s' with heap:=h' }) (ch:=fp) J.os u' ok J.bare fun b hb=>⟨(hfp b hb).2.2.2.1,(hfp b hb).2.1,(hfp b hb).2.2.2.2.1,(hfp b hb).2.2.2.2.2⟩
end
section
variable {X:Cx}{scope:Scope}{x y zz:Str}{pins:List (Addr×Obj)}{σ:St}{elt iter:Expr}{px py pz tpos pos:Pos}{kk:Nat}{wi:TI}{te:TE}
theorem d5w{s₂:Shared}{H1:Hp}{it:Addr}{fp:List Addr}{tn:Nat->Heap->Prop}{J:It}{Q:VK}{RR:Value->Addr->Result->Shared->Prop}{E:Value->Shared->Prop}{cl:List (Str×Addr)}
  (S:c0j X scope x y zz) (hc:X.calm=true) (he:∀ cl C s₃ H₃ fp,PE (a6h X scope cl C s₃ H₃ fp x y zz) elt te)
  (hcl:∀ y c,cl.lookup y=some c->(y,NameKind.free)∈scope.names/\X.env.cells.lookup y=some c) (hcl2:∀ y,(y,NameKind.free)∈scope.names->cl.lookup y=X.env.cells.lookup y)
  (I2:Inv X pins σ H1 s₂) (T:Turn X.prog X.w X.K (.Tuple [.Name x px,.Name y py,.Name zz pz] kk tpos) J fp it tn) (st2:tn 0 s₂.heap) (f2:∀ b∈fp,d1q X pins H1 b) (h:∀ D H2,H1 D=none->Same H1 H2->H2 D=some (.lst [])->f4i J te D σ H2 Q ⟨⟩)
  (hRR:∀ (D C:Addr) (s':Shared) (H':Hp),(∃ m,s'.heap.Ns C m)->(∀ h' ,Heap.SameBut C s'.heap h'->Inv X pins σ H' { s' with heap:=h' })->d1q X pins H' C->Q (.ref D) H'->RR (.ref D) C (.ok .next) s') :
  wpAny (model X.prog X.w) X.A (newList []) (fun acc s₃=>wpAny (model X.prog X.w) X.A (newFunctionEnv scope X.env.globals cl [] X.env.qual none .none (some X.env)) (fun cenv s₄ =>
   codeAny (model X.prog X.w) X.A (.compStart (.ListComp elt [⟨.Tuple [.Name x px,.Name y py,.Name zz pz] kk tpos,iter,[],0⟩] scope pos) 0 (.ref it) acc { cenv with scope:=relabel scope X.env }) (RR acc cenv.locals) s₄) E s₃) E s₂:=by
 have hfr:H1 s₂.heap.objs.size=none:=I2.hok.fresh (Nat.le_refl _)
 have hCW:=h s₂.heap.objs.size _ hfr (Same.upd hfr) a1k
 refine wpAny_newObj_type ?_
 have I3 : Inv X pins σ (upd H1 s₂.heap.objs.size (.lst [])) { s₂ with heap := s₂.heap.push { cls := .type "list", data := .seq ([] : List Value).toArray }, toks := s₂.toks } :=
  I2.laid (t':=s₂.toks) (fun b u e=>Heap.get?_push_of_some _ e) (Nat.le_refl _) ⟨Nat.zero_le _,[],0,.nil,Heap.get?_push_size _ rfl⟩
 have nD:∀ b∈fp,b≠s₂.heap.objs.size:=fun b hb=>by
  obtain⟨o,e,_⟩:=T.obj 0 _ st2 b hb
  exact Nat.ne_of_lt (Heap.lt_size e)
 have f3:∀ b∈fp,d1q X pins (upd H1 s₂.heap.objs.size (.lst [])) b:=fun b hb=>⟨by rw [a1l (nD b hb)]; exact (f2 b hb).1,(f2 b hb).2⟩
 generalize hH3:upd H1 s₂.heap.objs.size (.lst [])=H3 at *
 have st3 : tn 0 (s₂.heap.push { cls := .type "list", data := .seq ([] : List Value).toArray }) := T.keep _ _ _ st2 fun b _ o e => Heap.get?_push_of_some _ e
 have g2g : ∀ b ∈ fp, b < (s₂.heap.push { cls := .type "list", data := .seq ([] : List Value).toArray }).objs.size := fun b hb => by
  obtain⟨o,e,_⟩:=T.obj 0 _ st3 b hb
  exact Heap.lt_size e
 show wpAny (model X.prog X.w) X.A (newFunctionEnv scope X.env.globals cl [] X.env.qual none .none (some X.env)) _ E { s₂ with heap := s₂.heap.push { cls := .type "list", data := .seq ([] : List Value).toArray }, toks := s₂.toks }
 generalize hs3 : ({ s₂ with heap := s₂.heap.push { cls := .type "list", data := .seq ([] : List Value).toArray }, toks := s₂.toks } : Shared) = s₃ at *
 have eh : s₃.heap = s₂.heap.push { cls := .type "list", data := .seq ([] : List Value).toArray } := by rw [← hs3]
 rw [<- eh] at st3 g2g
 generalize s₂.heap.objs.size=D at *
 refine wpAny_newFunctionEnv S.c3v (by intro y hy; simp at hy) (fun h₁ hns₁ hsb₁=>?_) S.kind
 have hk1:∀ b o,s₃.heap.get? b=some o->h₁.get? b=some o:=fun b o e=>hsb₁.extBut b o (Nat.ne_of_lt (Heap.lt_size e)) (Heap.get?_push_of_some _ e)
 have J0:Inv (a6h X scope cl s₃.heap.objs.size s₃ H3 fp x y zz) [] (none :: none :: none :: σ) H3 { s₃ with heap:=h₁,toks:=s₃.toks+([] : List (Str×Value)).length }:=I3.h1s S hcl hcl2 f3 g2g hns₁ hk1 rfl rfl
 obtain⟨n0,W,w0,turn⟩:=hCW
 have loop:codeAny (model X.prog X.w) X.A (.compLoop (.ListComp elt [⟨.Tuple [.Name x px,.Name y py,.Name zz pz] kk tpos,iter,[],0⟩] scope pos) 0 (.ref it) (.ref D) (compEnvC scope cl s₃.heap.objs.size X.env)) (RR (.ref D) s₃.heap.objs.size) { s₃ with heap:=h₁,toks:=s₃.toks+([] : List (Str×Value)).length }:=by
  refine codeAny_loop rfl (fun n s'=>∃ i ys o o' o'' H',Inv (a6h X scope cl s₃.heap.objs.size s₃ H3 fp x y zz) [] (o :: o' :: o'' :: σ) H' s'/\tn i s'.heap/\(∀ b∈fp,H' b=none)/\W i ys H'/\i<=n0/\n=n0 - i) (fun n s5 hI=>?_) n0
   ⟨0,[],none,none,none,H3,J0,T.keep _ _ _ st3 (fun b _ o e=>hk1 b o e),fun b hb=>(f3 b hb).1,w0,Nat.zero_le _,rfl⟩
  obtain⟨i,ys,o5,o5',o5'',H5,I5,st5,fr5,w5,hin,hnn⟩:=hI
  have stat:∀ {H':Hp},(∀ b∈fp,H' b=none)->∀ b∈fp,d1q (a6h X scope cl s₃.heap.objs.size s₃ H3 fp x y zz) [] H' b:=fun hn b hb =>
   ⟨hn b hb,Nat.ne_of_lt (g2g b hb),fun z=>(List.mem_cons.mp (I3.c4y b z)).elim (fun q=>(f3 b hb).2.1 q) fun q=>(f3 b hb).2.2.1 q,.inl hb,fun y c e=>(f3 b hb).2.2.2.2.1 y c (hcl y c e).2,fun p hp=>absurd (show p∈([] : List (Addr×Obj)) from hp) (by simp)⟩
  show wpAny _ X.A ((compTurn (.ListComp elt [⟨.Tuple [.Name x px,.Name y py,.Name zz pz] kk tpos,iter,[],0⟩] scope pos) 0 (.ref it) (.ref D) (compEnvC scope cl s₃.heap.objs.size X.env)).onRaise (fun x=>do noteFrame x (compEnvC scope cl s₃.heap.objs.size X.env); theTreesLotGoes x)) _ _ s5
  refine wpAny_noted ?_
  rw [compTurn_list1]
  refine wpAny_bind (wpAny_standAt (wpAny_bind ?_))
  obtain⟨hD5,alt⟩:=turn i ys H5 hin w5
  rcases alt with ⟨stop,q⟩ | ⟨hlt,go,hsz,step⟩
  ·refine wpAny_mono (T.done (a6h X scope cl s₃.heap.objs.size s₃ H3 fp x y zz) rfl rfl rfl hc i [] s5 _ H5 _ I5 (stat fr5) st5 stop) (fun r s6 ⟨hr,I6⟩=>?_) fun _ _ z=>z
   subst hr
   refine wpAny_pure ?_
   obtain⟨m6,hn6,_⟩:=I6.loc
   exact hRR D s₃.heap.objs.size s6 H5 ⟨m6,hn6⟩ (fun h' hs'=>I3.g3e f3 I6 hs') (I3.g5b (Nat.le_refl _) I6.free) q
  ·refine wpAny_mono (T.item (a6h X scope cl s₃.heap.objs.size s₃ H3 fp x y zz) rfl rfl rfl hc i [] s5 _ H5 _ I5 (stat fr5) st5 go) (fun r s6 ⟨u,hr,h6⟩=>?_) fun _ _ z=>z
   subst hr
   refine wpAny_bind (wpAny_mono h6 (fun _ s7 ⟨v,H7,I7,r7,y7,st7,fr7⟩=>?_) fun _ _ z=>z)
   have I7':=I7.pinned (stat fr7) (T.obj _ _ st7)
   obtain⟨p7,u1,u2,u3,e7,t7,step7⟩:=step v H7 y7
   subst e7
   have G1:=a4p (X:=a6h X scope cl s₃.heap.objs.size s₃ H3 fp x y zz) (pos:=px) (i:=0) (x:=x) S.nd rfl (.inl (lookup_relabel_local S.own)) (.inr (lookup_relabel_local S.own))
   have G2:=a4p (X:=a6h X scope cl s₃.heap.objs.size s₃ H3 fp x y zz) (pos:=py) (i:=1) (x:=y) S.nd rfl (.inl (lookup_relabel_local S.h1b)) (.inr (lookup_relabel_local S.h1b))
   have G3:=a4p (X:=a6h X scope cl s₃.heap.objs.size s₃ H3 fp x y zz) (pos:=pz) (i:=2) (x:=zz) S.nd rfl (.inl (lookup_relabel_local S.h3r)) (.inr (lookup_relabel_local S.h3r))
   have G:=f9y (X:=a6h X scope cl s₃.heap.objs.size s₃ H3 fp x y zz) (pos:=tpos) (k:=kk) (n:=3) hc (c4r G1 (c4r G2 (c4r G3 f1k))) rfl rfl
   refine wpAny_bind (wpAny_mono (G _ s7 _ H7 (.ref p7) u (fun σ' H'=>σ'=some u1 :: some u2 :: some u3 :: σ/\H'=H7) I7' r7 ⟨p7,[u1,u2,u3],rfl,SqT.of t7,rfl,_,_,rfl,_,_,rfl,_,_,rfl,rfl,rfl,rfl⟩) (fun _ s8 hs8=>?_) fun _ _ z=>False.elim z)
   obtain⟨σ8,H8,I8,rfl,rfl⟩:=hs8
   refine wpAny_bind (wpAny_bind (wpAny_mono (he cl s₃.heap.objs.size s₃ H3 fp _ s8 _ _ _ I8 step7) (fun yv s9 hs9=>?_) fun _ _ z=>False.elim z))
   obtain⟨y',H9,I9,r9,hD9,k9⟩:=hs9
   refine wpAny_bind (wpAny_mono (c5n (X:=a6h X scope cl s₃.heap.objs.size s₃ H3 fp x y zz) _ s9 _ H9 (.ref D) [y'] (.ref D) [yv] (fun _ H'=>H'=upd H9 D (.lst (ys++[y']))) I9 rfl (.cons r9 .nil) ⟨D,ys,y',rfl,rfl,hD9,hsz,rfl⟩) (fun _ sA hsA=>?_) fun _ _ z=>False.elim z)
   obtain⟨_,HA,IA,_,rfl⟩:=hsA
   refine wpAny_pure ?_
   have wA:=k9 _ a2h.upd a1k
   refine wpAny_pure ⟨rfl,n0 - (i+1),by omega,i+1,ys++[y'],some u1,some u2,some u3,_,IA.c1o (pins:=[]) (pl:=c7v fp s7.heap),T.keep _ _ _ st7 (fun b hb o e=>(IA.pin (b,o) (List.mem_append_right _ (List.mem_append_right _ (b0v hb e)))).1),fun b hb=>?_,wA,hlt,rfl⟩
   obtain⟨o,e,d⟩:=T.obj _ _ st7 b hb
   exact (IA.pin (b,o) (List.mem_append_right _ (List.mem_append_right _ (b0v hb e)))).2.1
 exact codeAny_compStart_list loop (T.self _ 0 _ _ _ (T.keep _ _ _ st3 fun b _ o e=>hk1 b o e) loop)
theorem f8t{i:Nat}{y':Str}{py' spos:Pos}(hN:X.N.Nodup)(hyi:X.N[i]? = some y')(hy:X.env.scope.names.lookup y'=some .local)(hi:PI X (.Tuple [.Name x px,.Name y py,.Name zz pz] kk tpos) iter wi)(he:∀ cl C s₃ H₃ fp,PE (a6h X scope cl C s₃ H₃ fp x y zz) elt te)(S:c0j X scope x y zz)(hc:X.calm=true)
  (hsw:swapsWith (.ListComp elt [⟨.Tuple [.Name x px,.Name y py,.Name zz pz] kk tpos,iter,[],0⟩] scope pos) (some (.Name y' py')) spos.line X.env=pure true:=by rfl)
  (hs:∀ x,foldedSetIterable iter X.env x=pure x:=by intro _; rfl):PS X (.Assign [.Name y' py'] (.ListComp elt [⟨.Tuple [.Name x px,.Name y py,.Name zz pz] kk tpos,iter,[],0⟩] scope pos) spos) (g9n (g8e wi te) (f6n i)):=by
 intro pins s σ H D I h
 obtain⟨cl,hclos,hcl,hcl2⟩:=c3g (env:=X.env) (sc:=scope) fun y hy=>I.ok.has y (S.free _ hy rfl)
 rw [exec_Assign_Name_used _ _ _ _ hsw]
 refine wpAny_bind (wpAny_standAt (wpAny_bind ?_))
 show wpAny _ X.A (do let _ <- comprehension (.ListComp elt [⟨.Tuple [.Name x px,.Name y py,.Name zz pz] kk tpos,iter,[],0⟩] scope pos) scope X.env _ (newList []) false (eval iter X.env) (some (assign (.Name y' py') X.env))) _ _ s
 refine wpAny_bind (wpAny_mono (wpAny_comprehension_free (use:=some (assign (.Name y' py') X.env)) (Q:=fun _ s'=>SP X pins D .next s') rfl hs hclos S.kind S.loc ?_) (fun _ s' hq=>wpAny_pure (wpAny_pure hq)) fun _ _ e=>e)
 refine thn (hi pins s σ H _ I h) fun v s1 h1=>thn h1 fun itv s2 h2=>?_
 obtain⟨it,fp,tn,J,H2,e,I2,T,st2,f2,hW⟩:=h2
 subst e
 refine d5w (Q:=fun v H'=>D.nx (σ.set i (some v)) H') (RR:=fun acc C=>compPost (model X.prog X.w) X.A X.xe (some (assign (.Name y' py') X.env)) (fun _ s'=>SP X pins D .next s') acc C) S hc he hcl hcl2 I2 T st2 f2 hW fun L C s' H' hm hI hfp hq=>?_
 obtain⟨m,hn⟩:=hm
 have I':Inv X pins σ H' s':=hI s'.heap (Heap.SameBut.refl ..)
 show wpAny _ X.A (assign (.Name y' py') X.env (.ref L)) _ _ s'
 refine wpAny_assign_Name (c4z (v:=.ref L) I' hN hyi (.inl hy) rfl (fun s'' I'' hsb=>?_) (.inr hy))
 obtain⟨a,hsame,ha⟩:=hsb
 have nea:C≠a:=by
  rcases ha with z | z
  ·rw [z]; exact hfp.2.1
  ·exact fun q=>hfp.2.2.2.2.1 y' a z q.symm
 refine⟨m,hn.sameBut hsame nea,fun h' hs'=>⟨_,H',I''.turned (t':=s''.toks) (it:=C) (fun b o hb e=>hs'.extBut b o hb e) hfp.1 hfp.2.1 hfp.2.2.2.1 hfp.2.2.2.2.1 hfp.2.2.2.2.2,hq⟩⟩
end
noncomputable def f4j(sc scope:Scope)(x y zz:Str)(N:List Str):Bool :=
 (scope.kind == .function) && scope.names.all (fun y=>y.2 != .cell) && scope.names.all (fun y=>y.2 != .local || scope.names.lookup y.1 == some .local) && (scope.names.lookup x == some .local) && (scope.names.lookup y == some .local) && (scope.names.lookup zz == some .local) &&
 scope.names.all (fun y => y.2 != .free || (sc.names.lookup y.1 == some .cell || sc.names.lookup y.1 == some .free)) && decide ((x :: y :: zz :: mask x N).Nodup) && scope.names.all (fun y => y.1 != "") && (mask x N).all (fun y => scope.names.lookup y != some .local)
theorem g8f{X:Cx}{sc scope:Scope}{x y zz:Str}{N:List Str}(hsc:X.env.scope=sc)(hN:X.N=N)(h:f4j sc scope x y zz N=true):c0j X scope x y zz:=by
 subst hN hsc
 unfold f4j at h
 simp only [Bool.and_eq_true,List.all_eq_true,beq_iff_eq,Bool.or_eq_true,bne_iff_ne,ne_eq,decide_eq_true_eq] at h
 obtain⟨⟨⟨⟨⟨⟨⟨⟨⟨h1,h2⟩,h3⟩,h4⟩,h5⟩,h5'⟩,h6⟩,h7⟩,h8⟩,h9⟩:=h
 exact⟨h1,h2,fun y hy e=>(h3 y hy).resolve_left fun z=>z e,h4,h5,h5',fun y hy e=>(h6 y hy).resolve_left fun z=>z e,h7,h8,h9⟩
theorem d5y{K:PySem.W.Frag}{a D:Addr}{xs:List V}{te:TE}{σ:St}{H:Hp}{Q:VK}(Pv:Nat->List V->Hp->Prop)(h0:Pv 0 [] H)(hsz:xs.length<=sizeLine)
  (hD:∀ i ys H,i<=xs.length->Pv i ys H->H D=some (.lst ys)/\SqL K H a xs/\ys.length=i)
  (hs:∀ i x ys H,xs[i]? = some x->Pv i ys H->∃ p u v r,x = .ref p/\H p=some (.tup [u,v,r])/\te (some u :: some v :: some r :: σ) H fun y H2=>H2 D=some (.lst ys)/\∀ H3,a2h D H2 H3->H3 D=some (.lst (ys++[y]))->Pv (i+1) (ys++[y]) H3)
  (hd:∀ ys H,Pv xs.length ys H->Q (.ref D) H):f4i (Itl K a) te D σ H Q ⟨⟩:=by
 refine⟨xs.length,Pv,h0,fun i ys H hi p=>?_⟩
 obtain⟨e1,e2,e3⟩:=hD i ys H hi p
 refine⟨e1,?_⟩
 by_cases hlt:i < xs.length
 ·refine .inr ⟨hlt,⟨xs,xs[i],e2,by simp [hlt]⟩,by omega,fun x H' y=>?_⟩
  obtain⟨e,y⟩:=y
  subst e
  exact hs i x ys _ (y xs e2) p
 ·have e:i=xs.length:=by omega
  subst e
  exact .inl ⟨⟨xs,e2,Nat.le_refl _⟩,hd ys H p⟩
def h1t(K:PySem.W.Frag):R2:=fun x y H Q=>∃ p us d ds,y = .ref p/\H p=some (.lst us)/\c7y K H x (PySem.W.kqdP d)/\b6v K H us (PySem.W.kqdPs ds)/\(∀ e∈ds,PySem.W.kqdOk 8 e=true)/\PySem.W.kqdOk 8 d=true/\∀ c:Bool,(c=true ↔ d∈ds)->Q (.bl (!c)) H
theorem d9u{X:Cx}(hu:X.A.units+64 < cLine):OpR X (compareOp .NotIn) (h1t X.K):=by
 intro pins s σ H x y v u Q I rx ry h
 obtain⟨p,us,d,ds,rfl,hp,hd,hds,ok1,ok2,q⟩:=h
 obtain⟨as,ra⟩:=I.reads hd rx
 obtain⟨bs,rb⟩:=I.reads (c7y.lst (SqL.of hp) hds) ry
 have l1:=PySem.W.kqd_layL ok1
 have l2:=PySem.W.kqd_lay 8 d ok2
 refine SeqAt.notIn_list_reads rb ra l1.1 l2.1 ?_ ⟨.bl _,H,I,rfl,q _ (PySem.W.kqd_any ds d ok1 ok2)⟩
 have:=Nat.min_le_left (PyData.depthAll (PySem.W.kqdPs ds)) (PySem.W.kqdP d).depth
 omega
end L2
set_option maxHeartbeats 4000000
namespace My
open PySem PySem.Spec PyProof.Rows L2
open PySem.Builtin.Int (intBits)
theorem h3s{P:Int->Prop}{vs:List V}(h:match vs with | [.int x0]=>P x0 | _=>False):∃ x0,vs = [.int x0]/\P x0:=by
 obtain _ | ⟨y0,vs⟩:=vs
 ·exact False.elim h
 cases y0 <;> first | exact False.elim h | skip
 obtain _ | ⟨y,vs⟩:=vs
 ·exact⟨_,rfl,h⟩
 ·exact False.elim h
theorem d1r{P:Addr->Prop}{vs:List V}(h:match vs with | [.ref x0]=>P x0 | _=>False):∃ x0,vs = [.ref x0]/\P x0:=by
 obtain _ | ⟨y0,vs⟩:=vs
 ·exact False.elim h
 cases y0 <;> first | exact False.elim h | skip
 obtain _ | ⟨y,vs⟩:=vs
 ·exact⟨_,rfl,h⟩
 ·exact False.elim h
theorem d9v{P:Addr->Int->Prop}{vs:List V}(h:match vs with | [.ref x0,.int x1]=>P x0 x1 | _=>False):∃ x0 x1,vs = [.ref x0,.int x1]/\P x0 x1:=by
 obtain _ | ⟨y0,vs⟩:=vs
 ·exact False.elim h
 cases y0 <;> first | exact False.elim h | skip
 obtain _ | ⟨y1,vs⟩:=vs
 ·exact False.elim h
 cases y1 <;> first | exact False.elim h | skip
 obtain _ | ⟨y,vs⟩:=vs
 ·exact⟨_,_,rfl,h⟩
 ·exact False.elim h
theorem f8u{P:Addr->Addr->Prop}{vs:List V}(h:match vs with | [.ref x0,.ref x1]=>P x0 x1 | _=>False):∃ x0 x1,vs = [.ref x0,.ref x1]/\P x0 x1:=by
 obtain _ | ⟨y0,vs⟩:=vs
 ·exact False.elim h
 cases y0 <;> first | exact False.elim h | skip
 obtain _ | ⟨y1,vs⟩:=vs
 ·exact False.elim h
 cases y1 <;> first | exact False.elim h | skip
 obtain _ | ⟨y,vs⟩:=vs
 ·exact⟨_,_,rfl,h⟩
 ·exact False.elim h
theorem d8o{P:Addr->Addr->Str->Str->Addr->Prop}{vs:List V}(h:match vs with | [.ref x0,.ref x1,.str x2,.str x3,.ref x4]=>P x0 x1 x2 x3 x4 | _=>False):∃ x0 x1 x2 x3 x4,vs = [.ref x0,.ref x1,.str x2,.str x3,.ref x4]/\P x0 x1 x2 x3 x4:=by
 obtain _ | ⟨y0,vs⟩:=vs
 ·exact False.elim h
 cases y0 <;> first | exact False.elim h | skip
 obtain _ | ⟨y1,vs⟩:=vs
 ·exact False.elim h
 cases y1 <;> first | exact False.elim h | skip
 obtain _ | ⟨y2,vs⟩:=vs
 ·exact False.elim h
 cases y2 <;> first | exact False.elim h | skip
 obtain _ | ⟨y3,vs⟩:=vs
 ·exact False.elim h
 cases y3 <;> first | exact False.elim h | skip
 obtain _ | ⟨y4,vs⟩:=vs
 ·exact False.elim h
 cases y4 <;> first | exact False.elim h | skip
 obtain _ | ⟨y,vs⟩:=vs
 ·exact⟨_,_,_,_,_,rfl,h⟩
 ·exact False.elim h
theorem d9w{P:Addr->Str->Prop}{vs:List V}(h:match vs with | [.ref x0,.str x1]=>P x0 x1 | _=>False):∃ x0 x1,vs = [.ref x0,.str x1]/\P x0 x1:=by
 obtain _ | ⟨y0,vs⟩:=vs
 ·exact False.elim h
 cases y0 <;> first | exact False.elim h | skip
 obtain _ | ⟨y1,vs⟩:=vs
 ·exact False.elim h
 cases y1 <;> first | exact False.elim h | skip
 obtain _ | ⟨y,vs⟩:=vs
 ·exact⟨_,_,rfl,h⟩
 ·exact False.elim h
theorem d8p{P:Addr->Str->Str->Prop}{vs:List V}(h:match vs with | [.ref x0,.str x1,.str x2]=>P x0 x1 x2 | _=>False):∃ x0 x1 x2,vs = [.ref x0,.str x1,.str x2]/\P x0 x1 x2:=by
 obtain _ | ⟨y0,vs⟩:=vs
 ·exact False.elim h
 cases y0 <;> first | exact False.elim h | skip
 obtain _ | ⟨y1,vs⟩:=vs
 ·exact False.elim h
 cases y1 <;> first | exact False.elim h | skip
 obtain _ | ⟨y2,vs⟩:=vs
 ·exact False.elim h
 cases y2 <;> first | exact False.elim h | skip
 obtain _ | ⟨y,vs⟩:=vs
 ·exact⟨_,_,_,rfl,h⟩
 ·exact False.elim h
theorem c9k{P:Addr->Str->Str->Addr->Prop}{vs:List V}(h:match vs with | [.ref x0,.str x1,.str x2,.ref x3]=>P x0 x1 x2 x3 | _=>False):∃ x0 x1 x2 x3,vs = [.ref x0,.str x1,.str x2,.ref x3]/\P x0 x1 x2 x3:=by
 obtain _ | ⟨y0,vs⟩:=vs
 ·exact False.elim h
 cases y0 <;> first | exact False.elim h | skip
 obtain _ | ⟨y1,vs⟩:=vs
 ·exact False.elim h
 cases y1 <;> first | exact False.elim h | skip
 obtain _ | ⟨y2,vs⟩:=vs
 ·exact False.elim h
 cases y2 <;> first | exact False.elim h | skip
 obtain _ | ⟨y3,vs⟩:=vs
 ·exact False.elim h
 cases y3 <;> first | exact False.elim h | skip
 obtain _ | ⟨y,vs⟩:=vs
 ·exact⟨_,_,_,_,rfl,h⟩
 ·exact False.elim h
theorem g1c{P:Str->Prop}{vs:List V}(h:match vs with | [.str x0]=>P x0 | _=>False):∃ x0,vs = [.str x0]/\P x0:=by
 obtain _ | ⟨y0,vs⟩:=vs
 ·exact False.elim h
 cases y0 <;> first | exact False.elim h | skip
 obtain _ | ⟨y,vs⟩:=vs
 ·exact⟨_,rfl,h⟩
 ·exact False.elim h
theorem g1d{P:Str->Int->Int->Prop}{vs:List V}(h:match vs with | [.str x0,.int x1,.int x2]=>P x0 x1 x2 | _=>False):∃ x0 x1 x2,vs = [.str x0,.int x1,.int x2]/\P x0 x1 x2:=by
 obtain _ | ⟨y0,vs⟩:=vs
 ·exact False.elim h
 cases y0 <;> first | exact False.elim h | skip
 obtain _ | ⟨y1,vs⟩:=vs
 ·exact False.elim h
 cases y1 <;> first | exact False.elim h | skip
 obtain _ | ⟨y2,vs⟩:=vs
 ·exact False.elim h
 cases y2 <;> first | exact False.elim h | skip
 obtain _ | ⟨y,vs⟩:=vs
 ·exact⟨_,_,_,rfl,h⟩
 ·exact False.elim h
noncomputable def top(i:Nat):Stmt:=PySem.Challenge.pw_mixbench_k53_rings.main.body.getD i (.Pass ⟨0,0,0,0⟩)
noncomputable abbrev c5y:Stmt:=(inClass (top 9) 0)
noncomputable abbrev c8h:Stmt:=(top 16)
noncomputable abbrev c3z:Stmt:=(top 17)
noncomputable abbrev c8i:Stmt:=(top 18)
noncomputable abbrev c4g:Stmt:=(inClass (top 31) 1)
noncomputable abbrev c4h:Stmt:=(inClass (top 33) 0)
noncomputable abbrev c4i:Stmt:=(inClass (top 33) 3)
noncomputable abbrev c2g:Stmt:=(top 53)
noncomputable abbrev c2h:Stmt:=(top 55)
noncomputable abbrev c8j:Stmt:=(top 57)
noncomputable abbrev d3o:Stmt:=(top 64)
noncomputable abbrev c3h:Stmt:=(top 67)
noncomputable abbrev b8z:Stmt:=(inClass (top 68) 0)
noncomputable abbrev b6z:Stmt:=(inClass (top 68) 5)
noncomputable abbrev c5z:Stmt:=(top 75)
noncomputable abbrev c4j:Stmt:=(inClass (top 76) 0)
noncomputable abbrev b5j:Stmt:=(inClass (top 76) 1)
noncomputable abbrev c2i:Stmt:=(inClass (top 76) 2)
noncomputable abbrev c6g:Stmt:=(inClass (top 76) 3)
noncomputable abbrev c4k:Stmt:=(inClass (top 76) 4)
noncomputable abbrev c6h:Stmt:=(inClass (top 76) 5)
noncomputable abbrev c0o:Stmt:=(inClass (top 76) 7)
noncomputable abbrev c2j:Stmt:=(inClass (top 76) 8)
noncomputable abbrev b7g:Stmt:=(inClass (top 76) 9)
noncomputable abbrev c2k:Stmt:=(top 78)
noncomputable abbrev c0v:Stmt:=(top 79)
noncomputable abbrev c6i:Stmt:=(top 80)
noncomputable abbrev b7h:Stmt:=(top 81)
noncomputable abbrev c2l:Stmt:=(top 82)
noncomputable abbrev c4l:Stmt:=(top 83)
noncomputable abbrev g8g:Stmt:=(top 84)
theorem d3p : a0u ["self", "ring"] ["self", "ring"] (a0o c5y) := ⟨rfl, rfl, rfl, by decide +kernel, rfl, by decide +kernel, by decide +kernel⟩
theorem g3f : a0u ["value"] ["value"] (a0o c8h) := ⟨rfl, rfl, rfl, by decide +kernel, rfl, by decide +kernel, by decide +kernel⟩
theorem c2m : a0u ["text", "sign"] ["text"] (a0o c3z) := ⟨rfl, rfl, rfl, by decide +kernel, rfl, by decide +kernel, by decide +kernel⟩
theorem d5z : a0u ["text"] ["text"] (a0o c8i) := ⟨rfl, rfl, rfl, by decide +kernel, rfl, by decide +kernel, by decide +kernel⟩
theorem c9l : a0u ["self"] ["self"] (a0o c4g) := ⟨rfl, rfl, rfl, by decide +kernel, rfl, by decide +kernel, by decide +kernel⟩
theorem c9m : a0u ["self", "many"] ["self", "many"] (a0o c4h) := ⟨rfl, rfl, rfl, by decide +kernel, rfl, by decide +kernel, by decide +kernel⟩
theorem c2n : a0u ["self", "many"] ["self"] (a0o c4i) := ⟨rfl, rfl, rfl, by decide +kernel, rfl, by decide +kernel, by decide +kernel⟩
theorem c0p : a0u ["text", "least", "most", "number"] ["text", "least", "most"] (a0o c2g) := ⟨rfl, rfl, rfl, by decide +kernel, rfl, by decide +kernel, by decide +kernel⟩
theorem c6z : a0u ["values", "count"] ["values", "count"] (a0o c2h) := ⟨rfl, rfl, rfl, by decide +kernel, rfl, by decide +kernel, by decide +kernel⟩
theorem d6g : a0u ["values"] ["values"] (a0o c8j) := ⟨rfl, rfl, rfl, by decide +kernel, rfl, by decide +kernel, by decide +kernel⟩
theorem c8k : a0u ["word", "values"] ["word"] (a0o d3o) := ⟨rfl, rfl, rfl, by decide +kernel, rfl, by decide +kernel, by decide +kernel⟩
theorem d6h : a0u ["words"] ["words"] (a0o c3h) := ⟨rfl, rfl, rfl, by decide +kernel, rfl, by decide +kernel, by decide +kernel⟩
theorem c9n : a0u ["self", "words"] ["self", "words"] (a0o b8z) := ⟨rfl, rfl, rfl, by decide +kernel, rfl, by decide +kernel, by decide +kernel⟩
theorem c7g : a0u ["self"] ["self"] (a0o b6z) := ⟨rfl, rfl, rfl, by decide +kernel, rfl, by decide +kernel, by decide +kernel⟩
theorem d9y : a0u ["value"] ["value"] (a0o c5z) := ⟨rfl, rfl, rfl, by decide +kernel, rfl, by decide +kernel, by decide +kernel⟩
theorem c9o : a0u ["self"] ["self"] (a0o c4j) := ⟨rfl, rfl, rfl, by decide +kernel, rfl, by decide +kernel, by decide +kernel⟩
theorem c2o : a0u ["self", "name"] ["self", "name"] (a0o b5j) := ⟨rfl, rfl, rfl, by decide +kernel, rfl, by decide +kernel, by decide +kernel⟩
theorem c7h : a0u ["self", "name"] ["self", "name"] (a0o c2i) := ⟨rfl, rfl, rfl, by decide +kernel, rfl, by decide +kernel, by decide +kernel⟩
theorem d3q : a0u ["self", "name"] ["self", "name"] (a0o c6g) := ⟨rfl, rfl, rfl, by decide +kernel, rfl, by decide +kernel, by decide +kernel⟩
theorem b7i : a0u ["self", "source", "bus", "words", "chain", "ring"] ["self", "source", "bus", "words"] (a0o c4k) := ⟨rfl, rfl, rfl, by decide +kernel, rfl, by decide +kernel, by decide +kernel⟩
theorem a9n : a0u ["self", "start", "end", "ways", "waiting", "source", "send"] ["self", "start", "end"] (a0o c6h) := ⟨rfl, rfl, rfl, by decide +kernel, rfl, by decide +kernel, by decide +kernel⟩
theorem c6j : a0u ["self"] ["self"] (a0o c0o) := ⟨rfl, rfl, rfl, by decide +kernel, rfl, by decide +kernel, by decide +kernel⟩
theorem c7i : a0u ["self"] ["self"] (a0o c2j) := ⟨rfl, rfl, rfl, by decide +kernel, rfl, by decide +kernel, by decide +kernel⟩
theorem c7j : a0u ["self"] ["self"] (a0o b7g) := ⟨rfl, rfl, rfl, by decide +kernel, rfl, by decide +kernel, by decide +kernel⟩
theorem c7k : a0u ["_law_script", "_law_k"] ["_law_script", "_law_k"] (a0o c2k) := ⟨rfl, rfl, rfl, by decide +kernel, rfl, by decide +kernel, by decide +kernel⟩
theorem a2k : a0u ["_law_cell", "_law_letters", "_law_mixed", "_law_base", "_law_at", "_law_names_here", "_law_k", "_law_name", "_law_j"] ["_law_cell"] (a0o c0v) := ⟨rfl, rfl, rfl, by decide +kernel, rfl, by decide +kernel, by decide +kernel⟩
theorem a4r : a0u ["_law_sends", "_law_first", "_law_last", "_law_reached", "_law_at", "_law_source", "_law_bus", "_law_words"] ["_law_sends", "_law_first", "_law_last"] (a0o c6i) := ⟨rfl, rfl, rfl, by decide +kernel, rfl, by decide +kernel, by decide +kernel⟩
theorem b4l : a0u ["_law_sends", "_law_source", "_law_bus", "_law_ring", "_law_pairs", "_law_k"] ["_law_sends", "_law_source", "_law_bus", "_law_ring"] (a0o b7h) := ⟨rfl, rfl, rfl, by decide +kernel, rfl, by decide +kernel, by decide +kernel⟩
theorem a3o : a0u ["_law_patch", "_law_sends", "_law_source", "_law_bus", "_law_words", "_law_found", "_law_ring", "error"] ["_law_patch", "_law_sends", "_law_source", "_law_bus", "_law_words"] (a0o c2l) := ⟨rfl, rfl, rfl, by decide +kernel, rfl, by decide +kernel, by decide +kernel⟩
theorem a5g : a0u ["_law_patch", "_law_sends", "_law_k", "_law_j", "_law_source"] [] (a0o c4l) := ⟨rfl, rfl, rfl, by decide +kernel, rfl, by decide +kernel, by decide +kernel⟩
theorem b8m : a0u ["_law_script", "_law_names_here", "_law_many", "_law_patch", "_law_k", "_law_sends", "_law_cell", "_law_mixed", "_law_source", "_law_bus", "_law_words"] ["_law_script"] (a0o g8g) := ⟨rfl, rfl, rfl, by decide +kernel, rfl, by decide +kernel, by decide +kernel⟩
set_option genInjectivity false in
structure Ad where
 a6i:Addr
 a6o:FuncData
 b0y:Addr
 b1l:FuncData
 a4s:Addr
 a5h:FuncData
 a8q:Addr
 a8r:FuncData
 a4t:Addr
 a5i:FuncData
 a6p:Addr
 a5j:FuncData
 a6q:Addr
 a5k:FuncData
 a3h:Addr
 a3p:FuncData
 a3i:Addr
 a3q:FuncData
 a6r:Addr
 a8s:FuncData
 b1m:Addr
 b0z:FuncData
 a8t:Addr
 a8u:FuncData
 a6s:Addr
 a5l:FuncData
 a5m:Addr
 a3r:FuncData
 b1n:Addr
 b1g:FuncData
 a6t:Addr
 a5n:FuncData
 a2m:Addr
 a1n:FuncData
 a5o:Addr
 a3s:FuncData
 a8v:Addr
 a6u:FuncData
 a6v:Addr
 a5p:FuncData
 a8w:Addr
 a6w:FuncData
 a3t:Addr
 a2u:FuncData
 a5q:Addr
 a3u:FuncData
 a5r:Addr
 a3v:FuncData
 a3j:Addr
 a3w:FuncData
 a6j:Addr
 a6y:FuncData
 a6k:Addr
 a6z:FuncData
 a3k:Addr
 a3y:FuncData
 a3l:Addr
 a3z:FuncData
 a4u:Addr
 a5s:FuncData
 d3r:Addr
 c4m:FuncData
 a0s:Addr
 a0t:Addr
 a1o:Addr
 a1p:Addr
 a1q:Addr
 a2v:Addr
 a2w:Addr
 a0q:Addr
 a1g:Addr
 a2y:Addr
 a1r:Addr
 c6k:Addr
 a9z:Addr
 b0g:Addr
 a2q:Addr
 b5k:Value
 a1h:Value
 a8y:Value
 a7g:Value
 b5l:Value
 a4g:Value
 a4v:Addr
 wd:World
structure Ty(K:W.Frag)(A:Ad):Prop where
 c0w : W.nsIn K mainGlobals "MixError" = some (some (.ref A.a0s))
 c0y : W.nsIn K mainGlobals "NoNumber" = some (some (.ref A.a0t))
 c6l : W.nsIn K mainGlobals "NoText" = some (some (.ref A.a1o))
 c6m : W.nsIn K mainGlobals "NoPart" = some (some (.ref A.a1p))
 c6n : W.nsIn K mainGlobals "NoName" = some (some (.ref A.a1q))
 c9p : W.nsIn K mainGlobals "Twice" = some (some (.ref A.a2v))
 c9q : W.nsIn K mainGlobals "NoBus" = some (some (.ref A.a2w))
 d6i : W.nsIn K mainGlobals "Ring" = some (some (.ref A.a0q))
 c3i : W.nsIn K mainGlobals "NoBlock" = some (some (.ref A.a1g))
 c9r : W.nsIn K mainGlobals "NoRow" = some (some (.ref A.a2y))
 c6o : W.nsIn K mainGlobals "NoDeed" = some (some (.ref A.a1r))
 d6j : W.nsIn K mainGlobals "Part" = some (some (.ref A.c6k))
 c9s : W.nsIn K mainGlobals "Delay" = some (some (.ref A.a9z))
 c9t : W.nsIn K mainGlobals "Chain" = some (some (.ref A.b0g))
 c9u : W.nsIn K mainGlobals "Patch" = some (some (.ref A.a2q))
 c3j : W.nsIn K mainGlobals "is_whole" = some (some (.ref A.b0y))
 b9g : W.nsIn K mainGlobals "is_figures" = some (some (.ref A.a4s))
 c3k : W.nsIn K mainGlobals "whole_of" = some (some (.ref A.a8q))
 b7j : W.nsIn K mainGlobals "read_number" = some (some (.ref A.a3h))
 b7k : W.nsIn K mainGlobals "check_count" = some (some (.ref A.a3i))
 c3l : W.nsIn K mainGlobals "delay_of" = some (some (.ref A.a6r))
 c6p : W.nsIn K mainGlobals "part_of" = some (some (.ref A.b1m))
 c3m : W.nsIn K mainGlobals "parts_of" = some (some (.ref A.a8t))
 c6q : W.nsIn K mainGlobals "is_name" = some (some (.ref A.b1n))
 b7l : W.nsIn K mainGlobals "_law_cell_at" = some (some (.ref A.a3j))
 c0z : W.nsIn K mainGlobals "_law_names" = some (some (.ref A.a6j))
 c1g : W.nsIn K mainGlobals "_law_leads" = some (some (.ref A.a6k))
 b7m : W.nsIn K mainGlobals "_law_is_ring" = some (some (.ref A.a3k))
 b7n : W.nsIn K mainGlobals "_law_refused" = some (some (.ref A.a3l))
 b9h : W.nsIn K mainGlobals "_law_ladder" = some (some (.ref A.a4u))
 f8v : W.nsIn K mainGlobals "law" = some (some (.ref A.d3r))
 f4k : W.findIn K (.ref A.a0q) "__init__" = some (some (.ref A.a6i))
 b7o : h1r K A.a0q A.a6i "ring"
 c1h:XIn K A.a0s
 f4l:Cls K A.c6k
 c2p : Meth K A.c6k "fresh" A.a4t
 a4n:Cls K A.a9z
 a0z : a4m K A.a9z "many"
 d6k:Mk K A.a9z A.a6p
 b7p : Meth K A.a9z "word" A.a6q
 b4m : Meth K A.a9z "fresh" A.a4t
 b0o:Cls K A.b0g
 a2l : a4m K A.b0g "parts"
 a1m : a4m K A.b0g "states"
 d6l:Mk K A.b0g A.a6s
 b4n : Meth K A.b0g "words" A.a5m
 a0p:Cls K A.a2q
 a0h : a4m K A.a2q "track_names"
 a0j : a4m K A.a2q "bus_names"
 a0i : a4m K A.a2q "told_sends"
 a0k : a4m K A.a2q "told_outs"
 c9v:Mk K A.a2q A.a6t
 a4o : Meth K A.a2q "check_new" A.a2m
 b4o : Meth K A.a2q "track" A.a5o
 b3v : Meth K A.a2q "bus" A.a8v
 a7l : Meth K A.a2q "send" A.a6v
 b9i : Meth K A.a2q "way" A.a8w
 b1o : Meth K A.a2q "tracks" A.a3t
 b4p : Meth K A.a2q "buses" A.a5q
 a9j : Meth K A.a2q "sends" A.a5r
 b7q : Fun K "__init__" "Ring.__init__" c5y A.a6i A.a6o
 c3n : Fun K "is_whole" "is_whole" c8h A.b0y A.b1l
 a9o : Fun K "is_figures" "is_figures" c3z A.a4s A.a5h
 b5m : Fun K "whole_of" "whole_of" c8i A.a8q A.a8r
 b3w : Fun K "fresh" "Part.fresh" c4g A.a4t A.a5i
 b3y : Fun K "__init__" "Delay.__init__" c4h A.a6p A.a5j
 b3z : Fun K "word" "Delay.word" c4i A.a6q A.a5k
 a7m : Fun K "read_number" "read_number" c2g A.a3h A.a3p
 a7n : Fun K "check_count" "check_count" c2h A.a3i A.a3q
 b5n : Fun K "delay_of" "delay_of" c8j A.a6r A.a8s
 b9j : Fun K "part_of" "part_of" d3o A.b1m A.b0z
 b5o : Fun K "parts_of" "parts_of" c3h A.a8t A.a8u
 b4g : Fun K "__init__" "Chain.__init__" b8z A.a6s A.a5l
 b0p : Fun K "words" "Chain.words" b6z A.a5m A.a3r
 b9k : Fun K "is_name" "is_name" c5z A.b1n A.b1g
 b4h : Fun K "__init__" "Patch.__init__" c4j A.a6t A.a5n
 a5t : Fun K "check_new" "Patch.check_new" b5j A.a2m A.a1n
 b0q : Fun K "track" "Patch.track" c2i A.a5o A.a3s
 b7r : Fun K "bus" "Patch.bus" c6g A.a8v A.a6u
 b4i : Fun K "send" "Patch.send" c4k A.a6v A.a5p
 b7s : Fun K "way" "Patch.way" c6h A.a8w A.a6w
 a9k : Fun K "tracks" "Patch.tracks" c0o A.a3t A.a2u
 b0r : Fun K "buses" "Patch.buses" c2j A.a5q A.a3u
 b0s : Fun K "sends" "Patch.sends" b7g A.a5r A.a3v
 a5u : Fun K "_law_cell_at" "_law_cell_at" c2k A.a3j A.a3w
 b1p : Fun K "_law_names" "_law_names" c0v A.a6j A.a6y
 b1q : Fun K "_law_leads" "_law_leads" c6i A.a6k A.a6z
 a7o : Fun K "_law_is_ring" "_law_is_ring" b7h A.a3k A.a3y
 a3m : Fun K "_law_refused" "_law_refused" c2l A.a3l A.a3z
 a9p : Fun K "_law_ladder" "_law_ladder" c4l A.a4u A.a5s
 f4m : Fun K "law" "law" g8g A.d3r A.c4m
 b9l : W.nsIn K mainGlobals "ValueError" = some none
 g3g : W.nsIn K mainGlobals "all" = some none
 y_bool : W.nsIn K mainGlobals "bool" = some none
 g3h : W.nsIn K mainGlobals "int" = some none
 b9m : W.nsIn K mainGlobals "isinstance" = some none
 g3i : W.nsIn K mainGlobals "len" = some none
 f4n : W.nsIn K mainGlobals "list" = some none
 d6m : W.nsIn K mainGlobals "range" = some none
 g3j : W.nsIn K mainGlobals "str" = some none
 a7p : W.findIn K (.ref A.a0s) "__getattribute__" = some (some (.builtin "BaseException.__getattribute__"))
 a7q : W.findIn K (.ref A.a0s) "__class__" = some (some (.builtin "object.__class__"))
 a7r : W.findIn K (.ref A.a0s) "__getattr__" = some none
 a7s : W.subIn K (.ref A.a0s) (.type "object") = some true
 a7t : W.subIn K (.ref A.a0s) (.type "BaseException") = some true
 a7u : W.typeIn K (.ref A.a0s) = some (.type "type")
 a7v:W.isClsIn K A.a0s=true
 a7w:W.subIn K (.ref A.a0s) (.ref A.a0s)=some true
 a9q : W.findIn K (.ref A.a1g) "__getattribute__" = some (some (.builtin "BaseException.__getattribute__"))
 a9r : W.findIn K (.ref A.a1g) "__class__" = some (some (.builtin "object.__class__"))
 a9s : W.findIn K (.ref A.a1g) "__getattr__" = some none
 a9t : W.subIn K (.ref A.a1g) (.type "object") = some true
 a9u : W.subIn K (.ref A.a1g) (.type "BaseException") = some true
 a9v : W.typeIn K (.ref A.a1g) = some (.type "type")
 a9w:W.isClsIn K A.a1g=true
 a9y:W.subIn K (.ref A.a1g) (.ref A.a1g)=some true
 b5p : W.findIn K (.ref A.a2w) "__getattribute__" = some (some (.builtin "BaseException.__getattribute__"))
 b5q : W.findIn K (.ref A.a2w) "__class__" = some (some (.builtin "object.__class__"))
 b5r : W.findIn K (.ref A.a2w) "__getattr__" = some none
 b5s : W.subIn K (.ref A.a2w) (.type "object") = some true
 b5t : W.subIn K (.ref A.a2w) (.type "BaseException") = some true
 b5u : W.typeIn K (.ref A.a2w) = some (.type "type")
 b5v:W.isClsIn K A.a2w=true
 b5w:W.subIn K (.ref A.a2w) (.ref A.a2w)=some true
 b1r : W.findIn K (.ref A.a1r) "__getattribute__" = some (some (.builtin "BaseException.__getattribute__"))
 b1s : W.findIn K (.ref A.a1r) "__class__" = some (some (.builtin "object.__class__"))
 b1t : W.findIn K (.ref A.a1r) "__getattr__" = some none
 b1u : W.subIn K (.ref A.a1r) (.type "object") = some true
 b1v : W.subIn K (.ref A.a1r) (.type "BaseException") = some true
 b1w : W.typeIn K (.ref A.a1r) = some (.type "type")
 b1y:W.isClsIn K A.a1r=true
 b1z:W.subIn K (.ref A.a1r) (.ref A.a1r)=some true
 b2g : W.findIn K (.ref A.a1q) "__getattribute__" = some (some (.builtin "BaseException.__getattribute__"))
 b2h : W.findIn K (.ref A.a1q) "__class__" = some (some (.builtin "object.__class__"))
 b2j : W.findIn K (.ref A.a1q) "__getattr__" = some none
 b2k : W.subIn K (.ref A.a1q) (.type "object") = some true
 b2l : W.subIn K (.ref A.a1q) (.type "BaseException") = some true
 b2m : W.typeIn K (.ref A.a1q) = some (.type "type")
 b2n:W.isClsIn K A.a1q=true
 b2o:W.subIn K (.ref A.a1q) (.ref A.a1q)=some true
 a7y : W.findIn K (.ref A.a0t) "__getattribute__" = some (some (.builtin "BaseException.__getattribute__"))
 a7z : W.findIn K (.ref A.a0t) "__class__" = some (some (.builtin "object.__class__"))
 a8g : W.findIn K (.ref A.a0t) "__getattr__" = some none
 a8h : W.subIn K (.ref A.a0t) (.type "object") = some true
 a8i : W.subIn K (.ref A.a0t) (.type "BaseException") = some true
 a8j : W.typeIn K (.ref A.a0t) = some (.type "type")
 a8k:W.isClsIn K A.a0t=true
 a8l:W.subIn K (.ref A.a0t) (.ref A.a0t)=some true
 b2p : W.findIn K (.ref A.a1p) "__getattribute__" = some (some (.builtin "BaseException.__getattribute__"))
 b2q : W.findIn K (.ref A.a1p) "__class__" = some (some (.builtin "object.__class__"))
 b2r : W.findIn K (.ref A.a1p) "__getattr__" = some none
 b2s : W.subIn K (.ref A.a1p) (.type "object") = some true
 b2t : W.subIn K (.ref A.a1p) (.type "BaseException") = some true
 b2u : W.typeIn K (.ref A.a1p) = some (.type "type")
 b2v:W.isClsIn K A.a1p=true
 b2w:W.subIn K (.ref A.a1p) (.ref A.a1p)=some true
 b5y : W.findIn K (.ref A.a2y) "__getattribute__" = some (some (.builtin "BaseException.__getattribute__"))
 b5z : W.findIn K (.ref A.a2y) "__class__" = some (some (.builtin "object.__class__"))
 b6g : W.findIn K (.ref A.a2y) "__getattr__" = some none
 b6h : W.subIn K (.ref A.a2y) (.type "object") = some true
 b6i : W.subIn K (.ref A.a2y) (.type "BaseException") = some true
 b6j : W.typeIn K (.ref A.a2y) = some (.type "type")
 b6k:W.isClsIn K A.a2y=true
 b6l:W.subIn K (.ref A.a2y) (.ref A.a2y)=some true
 b2y : W.findIn K (.ref A.a1o) "__getattribute__" = some (some (.builtin "BaseException.__getattribute__"))
 b2z : W.findIn K (.ref A.a1o) "__class__" = some (some (.builtin "object.__class__"))
 b3g : W.findIn K (.ref A.a1o) "__getattr__" = some none
 b3h : W.subIn K (.ref A.a1o) (.type "object") = some true
 b3i : W.subIn K (.ref A.a1o) (.type "BaseException") = some true
 b3j : W.typeIn K (.ref A.a1o) = some (.type "type")
 b3k:W.isClsIn K A.a1o=true
 b3l:W.subIn K (.ref A.a1o) (.ref A.a1o)=some true
 a1s : W.findIn K (.ref A.a0q) "__getattribute__" = some (some (.builtin "BaseException.__getattribute__"))
 a1t : W.findIn K (.ref A.a0q) "__class__" = some (some (.builtin "object.__class__"))
 a1u : W.findIn K (.ref A.a0q) "__getattr__" = some none
 a1v : W.subIn K (.ref A.a0q) (.type "object") = some true
 a1w : W.subIn K (.ref A.a0q) (.type "BaseException") = some true
 a1y : W.typeIn K (.ref A.a0q) = some (.type "type")
 a1z:W.isClsIn K A.a0q=true
 a2g:W.subIn K (.ref A.a0q) (.ref A.a0q)=some true
 b6m : W.findIn K (.ref A.a2v) "__getattribute__" = some (some (.builtin "BaseException.__getattribute__"))
 b6n : W.findIn K (.ref A.a2v) "__class__" = some (some (.builtin "object.__class__"))
 b6o : W.findIn K (.ref A.a2v) "__getattr__" = some none
 b6p : W.subIn K (.ref A.a2v) (.type "object") = some true
 b6q : W.subIn K (.ref A.a2v) (.type "BaseException") = some true
 b6r : W.typeIn K (.ref A.a2v) = some (.type "type")
 b6s:W.isClsIn K A.a2v=true
 b6t:W.subIn K (.ref A.a2v) (.ref A.a2v)=some true
 b0h:W.subIn K (.ref A.a0q) (.ref A.a0s)=some true
 b9n:W.subIn K (.ref A.a0q) (.ref A.a0s)=some true
 b3m:W.subIn K (.ref A.a0q) (.ref A.a1g)=some false
 b7t:W.subIn K (.ref A.a0q) (.ref A.a2w)=some false
 b4q:W.subIn K (.ref A.a0q) (.ref A.a1r)=some false
 b4r:W.subIn K (.ref A.a0q) (.ref A.a1q)=some false
 b0i:W.subIn K (.ref A.a0q) (.ref A.a0t)=some false
 b4s:W.subIn K (.ref A.a0q) (.ref A.a1p)=some false
 b7u:W.subIn K (.ref A.a0q) (.ref A.a2y)=some false
 b4t:W.subIn K (.ref A.a0q) (.ref A.a1o)=some false
 b9o:W.subIn K (.ref A.a0q) (.ref A.a0q)=some true
 c1i:W.subIn K (.ref A.a0q) (.ref A.a0q)=some true
 b7v:W.subIn K (.ref A.a0q) (.ref A.a2v)=some false
 a8m : W.subIn K (.ref A.a0q) (.type "ValueError") = some true
 b0j : W.subIn K (.type "NoneType") (.ref A.a0s) = some false
 b3n : W.subIn K (.type "NoneType") (.ref A.a1g) = some false
 b7w : W.subIn K (.type "NoneType") (.ref A.a2w) = some false
 b4u : W.subIn K (.type "NoneType") (.ref A.a1r) = some false
 b4v : W.subIn K (.type "NoneType") (.ref A.a1q) = some false
 b0k : W.subIn K (.type "NoneType") (.ref A.a0t) = some false
 b4w : W.subIn K (.type "NoneType") (.ref A.a1p) = some false
 b7y : W.subIn K (.type "NoneType") (.ref A.a2y) = some false
 b4y : W.subIn K (.type "NoneType") (.ref A.a1o) = some false
 b9p : W.subIn K (.type "NoneType") (.ref A.a0q) = some false
 b7z : W.subIn K (.type "NoneType") (.ref A.a2v) = some false
 c3o : W.nsIn K mainGlobals "FIGURES" = some (some A.b5k)
 c3p : RelV (.str "0123456789") A.b5k
 a4k : W.nsIn K mainGlobals "MOST_FIGURES_wholes" = some (some A.a1h)
 a4l:RelV (.int 13) A.a1h
 b9q : W.nsIn K mainGlobals "MOST_MANY" = some (some A.a8y)
 b9r:RelV (.int 1000) A.a8y
 b8g : W.nsIn K mainGlobals "MOST_PARTS" = some (some A.a7g)
 b8h:RelV (.int 8) A.a7g
 c3q : W.nsIn K mainGlobals "LETTERS" = some (some A.b5l)
 c3r : RelV (.str "abcdefghijklmnopqrstuvwxyz") A.b5l
 b3o : W.nsIn K mainGlobals "MOST_LETTERS" = some (some A.a4g)
 b3p:RelV (.int 8) A.a4g
 c3s : W.nsIn K mainGlobals "READERS" = some (some (.ref A.a4v))
 b0l : W.nsIn K A.a4v "delay" = some (some (.ref A.a6r))
structure Tx(K:W.Frag)(mg:Str->Option Value)(A:Ad):Prop extends Ty K A where
 d6n : Binds K A.a6o ["self", "ring"] []
 g4k : Binds K A.b1l ["value"] []
 g4l : mg "is_whole" = some (.ref A.b0y)
 d3s : Binds K A.a5h ["text"] []
 d3t : mg "is_figures" = some (.ref A.a4s)
 d9z : Binds K A.a8r ["text"] []
 f0g : mg "whole_of" = some (.ref A.a8q)
 d3u : Binds K A.a5i ["self"] []
 d3v : Binds K A.a5j ["self", "many"] []
 d3w : Binds K A.a5k ["self"] []
 c9w : Binds K A.a3p ["text", "least", "most"] []
 c9y : mg "read_number" = some (.ref A.a3h)
 c9z : Binds K A.a3q ["values", "count"] []
 d0g : mg "check_count" = some (.ref A.a3i)
 f0h : Binds K A.a8s ["values"] []
 g4m : mg "delay_of" = some (.ref A.a6r)
 f4o : Binds K A.b0z ["word"] []
 f4p : mg "part_of" = some (.ref A.b1m)
 f0i : Binds K A.a8u ["words"] []
 f0j : mg "parts_of" = some (.ref A.a8t)
 d3y : Binds K A.a5l ["self", "words"] []
 d0h : Binds K A.a3r ["self"] []
 f4q : Binds K A.b1g ["value"] []
 f4r : mg "is_name" = some (.ref A.b1n)
 c4n : Binds K A.a5n ["self"] []
 b6u : Binds K A.a1n ["self", "name"] []
 d0i : Binds K A.a3s ["self", "name"] []
 c6r : Binds K A.a6u ["self", "name"] []
 b9s : Binds K A.a5p ["self", "source", "bus", "words"] []
 d6o : Binds K A.a6w ["self", "start", "end"] []
 c7l : Binds K A.a2u ["self"] []
 d0j : Binds K A.a3u ["self"] []
 c2q : Binds K A.a3v ["self"] []
 c2r : Binds K A.a3w ["_law_script", "_law_k"] []
 c2s : mg "_law_cell_at" = some (.ref A.a3j)
 d6p : Binds K A.a6y ["_law_cell"] []
 d6q : mg "_law_names" = some (.ref A.a6j)
 d6r : Binds K A.a6z ["_law_sends", "_law_first", "_law_last"] []
 d6s : mg "_law_leads" = some (.ref A.a6k)
 d0k : Binds K A.a3y ["_law_sends", "_law_source", "_law_bus", "_law_ring"] []
 d0l : mg "_law_is_ring" = some (.ref A.a3k)
 b8i : Binds K A.a3z ["_law_patch", "_law_sends", "_law_source", "_law_bus", "_law_words"] []
 b8j : mg "_law_refused" = some (.ref A.a3l)
 d3z:Binds K A.a5s [] []
 d4g : mg "_law_ladder" = some (.ref A.a4u)
 b_law : Binds K A.c4m ["_law_script"] []
 m_law : mg "law" = some (.ref A.d3r)
 d4h : mg "ValueError" = none
 h1u : mg "all" = none
 h3t : mg "bool" = none
 g3k : mg "int" = none
 a0v : mg "isinstance" = none
 c7m : mg "len" = none
 c4o : mg "list" = none
 b9t : mg "range" = none
 g8h : mg "str" = none
 c6s : mg "MixError" = some (.ref A.a0s)
 d6t : mg "NoNumber" = some (.ref A.a0t)
 f4s : mg "NoText" = some (.ref A.a1o)
 f4t : mg "NoPart" = some (.ref A.a1p)
 f4u : mg "NoName" = some (.ref A.a1q)
 f8w : mg "Twice" = some (.ref A.a2v)
 f8y : mg "NoBus" = some (.ref A.a2w)
 f4v : mg "Ring" = some (.ref A.a0q)
 f0k : mg "NoBlock" = some (.ref A.a1g)
 f8z : mg "NoRow" = some (.ref A.a2y)
 f4w : mg "NoDeed" = some (.ref A.a1r)
 h1v : mg "Part" = some (.ref A.c6k)
 f9g : mg "Delay" = some (.ref A.a9z)
 f9h : mg "Chain" = some (.ref A.b0g)
 d8q : mg "Patch" = some (.ref A.a2q)
 g4n:c1m K A.a0s
 g8i:c1m K A.a1g
 h1w:c1m K A.a2w
 g9c:c1m K A.a1r
 g9d:c1m K A.a1q
 g4o:c1m K A.a0t
 g9e:c1m K A.a1p
 h1x:c1m K A.a2y
 g9f:c1m K A.a1o
 b4j:c1m K A.a0q
 h1y:c1m K A.a2v
 c6t:W.kitOne K (.ref A.a0q) (.ref A.a0s)=some true
 c7n:W.kitOne K (.ref A.a0q) (.ref A.a1g)=some false
 d4i:W.kitOne K (.ref A.a0q) (.ref A.a2w)=some false
 d0m:W.kitOne K (.ref A.a0q) (.ref A.a1r)=some false
 d0n:W.kitOne K (.ref A.a0q) (.ref A.a1q)=some false
 c6u:W.kitOne K (.ref A.a0q) (.ref A.a0t)=some false
 d0o:W.kitOne K (.ref A.a0q) (.ref A.a1p)=some false
 d4j:W.kitOne K (.ref A.a0q) (.ref A.a2y)=some false
 d0p:W.kitOne K (.ref A.a0q) (.ref A.a1o)=some false
 g3l:W.kitOne K (.ref A.a0q) (.ref A.a0q)=some true
 d4k:W.kitOne K (.ref A.a0q) (.ref A.a2v)=some false
 c3t : W.kitOne K (.ref A.a0q) (.type "ValueError") = some true
 f4y : W.kitOne K (.type "NoneType") (.ref A.a0s) = some false
 f6i : W.kitOne K (.type "NoneType") (.ref A.a1g) = some false
 g1e : W.kitOne K (.type "NoneType") (.ref A.a2w) = some false
 f9i : W.kitOne K (.type "NoneType") (.ref A.a1r) = some false
 f9j : W.kitOne K (.type "NoneType") (.ref A.a1q) = some false
 f4z : W.kitOne K (.type "NoneType") (.ref A.a0t) = some false
 f9k : W.kitOne K (.type "NoneType") (.ref A.a1p) = some false
 g1f : W.kitOne K (.type "NoneType") (.ref A.a2y) = some false
 f9l : W.kitOne K (.type "NoneType") (.ref A.a1o) = some false
 g3m : W.kitOne K (.type "NoneType") (.ref A.a0q) = some false
 g1g : W.kitOne K (.type "NoneType") (.ref A.a2v) = some false
 f0l : W.kitOne K (.type "NoneType") (.type "ValueError") = some false
 f0m : mg "FIGURES" = some A.b5k
 b8o : mg "MOST_FIGURES_wholes" = some A.a1h
 d4l : mg "MOST_MANY" = some A.a8y
 d0q : mg "MOST_PARTS" = some A.a7g
 f0n : mg "LETTERS" = some A.b5l
 c6v : mg "MOST_LETTERS" = some A.a4g
 c8l : mg "READERS" = some (.ref A.a4v)
 f0o:h1e K A.wd A.a4v
theorem nq0 : (("__init__" : Str) == ("many" : Str)) = false := by decide +kernel
theorem nq1 : (("word" : Str) == ("many" : Str)) = false := by decide +kernel
theorem nq2 : (("fresh" : Str) == ("many" : Str)) = false := by decide +kernel
theorem nq3 : (("parts" : Str) == ("states" : Str)) = false := by decide +kernel
theorem nq4 : (("states" : Str) == ("parts" : Str)) = false := by decide +kernel
theorem nq5 : (("__init__" : Str) == ("parts" : Str)) = false := by decide +kernel
theorem nq6 : (("__init__" : Str) == ("states" : Str)) = false := by decide +kernel
theorem nq7 : (("words" : Str) == ("parts" : Str)) = false := by decide +kernel
theorem nq8 : (("words" : Str) == ("states" : Str)) = false := by decide +kernel
theorem nq9 : (("track_names" : Str) == ("bus_names" : Str)) = false := by decide +kernel
theorem nq10 : (("track_names" : Str) == ("told_sends" : Str)) = false := by decide +kernel
theorem nq11 : (("track_names" : Str) == ("told_outs" : Str)) = false := by decide +kernel
theorem nq12 : (("bus_names" : Str) == ("track_names" : Str)) = false := by decide +kernel
theorem nq13 : (("bus_names" : Str) == ("told_sends" : Str)) = false := by decide +kernel
theorem nq14 : (("bus_names" : Str) == ("told_outs" : Str)) = false := by decide +kernel
theorem nq15 : (("told_sends" : Str) == ("track_names" : Str)) = false := by decide +kernel
theorem nq16 : (("told_sends" : Str) == ("bus_names" : Str)) = false := by decide +kernel
theorem nq17 : (("told_sends" : Str) == ("told_outs" : Str)) = false := by decide +kernel
theorem nq18 : (("told_outs" : Str) == ("track_names" : Str)) = false := by decide +kernel
theorem nq19 : (("told_outs" : Str) == ("bus_names" : Str)) = false := by decide +kernel
theorem nq20 : (("told_outs" : Str) == ("told_sends" : Str)) = false := by decide +kernel
theorem nq21 : (("__init__" : Str) == ("track_names" : Str)) = false := by decide +kernel
theorem nq22 : (("__init__" : Str) == ("bus_names" : Str)) = false := by decide +kernel
theorem nq23 : (("__init__" : Str) == ("told_sends" : Str)) = false := by decide +kernel
theorem nq24 : (("__init__" : Str) == ("told_outs" : Str)) = false := by decide +kernel
theorem nq25 : (("check_new" : Str) == ("track_names" : Str)) = false := by decide +kernel
theorem nq26 : (("check_new" : Str) == ("bus_names" : Str)) = false := by decide +kernel
theorem nq27 : (("check_new" : Str) == ("told_sends" : Str)) = false := by decide +kernel
theorem nq28 : (("check_new" : Str) == ("told_outs" : Str)) = false := by decide +kernel
theorem nq29 : (("track" : Str) == ("track_names" : Str)) = false := by decide +kernel
theorem nq30 : (("track" : Str) == ("bus_names" : Str)) = false := by decide +kernel
theorem nq31 : (("track" : Str) == ("told_sends" : Str)) = false := by decide +kernel
theorem nq32 : (("track" : Str) == ("told_outs" : Str)) = false := by decide +kernel
theorem nq33 : (("bus" : Str) == ("track_names" : Str)) = false := by decide +kernel
theorem nq34 : (("bus" : Str) == ("bus_names" : Str)) = false := by decide +kernel
theorem nq35 : (("bus" : Str) == ("told_sends" : Str)) = false := by decide +kernel
theorem nq36 : (("bus" : Str) == ("told_outs" : Str)) = false := by decide +kernel
theorem nq37 : (("send" : Str) == ("track_names" : Str)) = false := by decide +kernel
theorem nq38 : (("send" : Str) == ("bus_names" : Str)) = false := by decide +kernel
theorem nq39 : (("send" : Str) == ("told_sends" : Str)) = false := by decide +kernel
theorem nq40 : (("send" : Str) == ("told_outs" : Str)) = false := by decide +kernel
theorem nq41 : (("way" : Str) == ("track_names" : Str)) = false := by decide +kernel
theorem nq42 : (("way" : Str) == ("bus_names" : Str)) = false := by decide +kernel
theorem nq43 : (("way" : Str) == ("told_sends" : Str)) = false := by decide +kernel
theorem nq44 : (("way" : Str) == ("told_outs" : Str)) = false := by decide +kernel
theorem nq45 : (("tracks" : Str) == ("track_names" : Str)) = false := by decide +kernel
theorem nq46 : (("tracks" : Str) == ("bus_names" : Str)) = false := by decide +kernel
theorem nq47 : (("tracks" : Str) == ("told_sends" : Str)) = false := by decide +kernel
theorem nq48 : (("tracks" : Str) == ("told_outs" : Str)) = false := by decide +kernel
theorem nq49 : (("buses" : Str) == ("track_names" : Str)) = false := by decide +kernel
theorem nq50 : (("buses" : Str) == ("bus_names" : Str)) = false := by decide +kernel
theorem nq51 : (("buses" : Str) == ("told_sends" : Str)) = false := by decide +kernel
theorem nq52 : (("buses" : Str) == ("told_outs" : Str)) = false := by decide +kernel
theorem nq53 : (("sends" : Str) == ("track_names" : Str)) = false := by decide +kernel
theorem nq54 : (("sends" : Str) == ("bus_names" : Str)) = false := by decide +kernel
theorem nq55 : (("sends" : Str) == ("told_sends" : Str)) = false := by decide +kernel
theorem nq56 : (("sends" : Str) == ("told_outs" : Str)) = false := by decide +kernel
seal PE PT PA PS PSs PI PO PW PG PGs PEX PSX
local macro_rules | `(tactic| walk_at "bits") => `(tactic| first | with_reducible assumption | exact intBits_le_64 (by omega) (by omega) | exact (intBits_le_iff (m := 250)).mpr (by decide) | ((with_reducible apply intBits_mul_le) <;> walk_at "bits") | ((with_reducible apply intBits_add_le) <;> walk_at "bits") | ((with_reducible apply intBits_sub_le) <;> walk_at "bits") | ((with_reducible apply intBits_neg_le) <;> walk_at "bits") | ((with_reducible apply intBits_natAbs_le) <;> walk_at "bits") | ((with_reducible apply intBits_fdiv_le) <;> walk_at "bits") | ((with_reducible apply intBits_fmod_le) <;> walk_at "bits"))
local macro_rules | `(tactic| walk_at "mul") => `(tactic| first | exact IntMulOk.of_right (intBits_le_64 (by omega) (by omega)) | exact IntMulOk.of_left (intBits_le_64 (by omega) (by omega)) | ((with_reducible apply IntMulOk.of_le) <;> first | walk_at "bits" | decide))
local macro_rules | `(tactic| walk_at "le") => `(tactic| ((with_reducible apply Nat.le_trans) <;> first | walk_at "bits" | decide))
variable {P:Program}{w:World}{K:PySem.W.Frag}{mg:Str->Option Value}{base:Heap}{A:Ad}
def g3n:Sp:=fun vs H Q _=>match vs with | [.str x]=>Q (.bl (f7v (sg x))) H | _=>False
def g3o:Sp:=fun vs H Q _=>match vs with
 | [.str x]=>∃ n:Nat,sg x=txt (n:Int)/\n < 10 ^ 13/\Q (.int n) H
 | _=>False
def h1z:Sp:=fun vs H Q _=>match vs with
 | [.str x,.int a,.int b]=>∃ n:Nat,sg x=txt (n:Int)/\n < 10 ^ 9/\a<=n/\(n:Int)<=b/\Q (.int n) H
 | _=>False
def h2a:Sp:=fun vs H Q _=>match vs with
 | [.ref l,.int c]=>∃ xs,H l=some (.lst xs)/\(xs.length:Int)=c/\Q .non H
 | _=>False
def d0r(C:Addr):Sp:=fun vs H Q _=>match vs with
 | [.ref o, .int n] => ∃ dx, H o = some (.ins C dx []) ∧ (∀ H1, a2h o H H1 → H1 o = some (.ins C dx [("many", .int n)]) → Q .non H1)
 | _=>False
def d6u:Sp:=fun vs H Q _=>match vs with
 | [.ref o]=>All (g6n H []) Q ⟨⟩ ⟨⟩
 | _=>False
def IsD (A : Ad) (H : Hp) (o : Addr) (n : Nat) : Prop := ∃ dx, H o = some (.ins A.a9z dx [("many", .int n)])
def f5g(A:Ad):Sp:=fun vs H Q _=>match vs with
 | [.ref l]=>∃ n:Nat,n<=1000/\H l=some (.lst [.str (nW n)])/\(∀ o H1,H o=none->Same H H1->IsD A H1 o n->Q (.ref o) H1)
 | _=>False
def f5h(A:Ad):Sp:=fun vs H Q _=>match vs with
 | [.str x]=>∃ n:Nat,n<=1000/\x=(Dt.delay n).word/\(∀ o H1,H o=none->Same H H1->IsD A H1 o n->Q (.ref o) H1)
 | _=>False
def g3p(A:Ad):Sp:=fun vs H Q _=>match vs with
 | [.ref o]=>∃ n:Nat,n<=1000/\IsD A H o n/\Q (.str (Dt.delay n).word) H
 | _=>False
def f0y(A:Ad)(H:Hp)(os:List Addr)(ns:List Nat):Prop:=os.length=ns.length/\∀ (i:Nat) o d,os[i]? = some o->ns[i]? = some d->IsD A H o d
noncomputable def dWs(ns:List Nat):List Str:=ns.map fun n=>(Dt.delay n).word
def g3q(A:Ad):Sp:=fun vs H Q _=>match vs with
 | [.ref l]=>∃ ns:List Nat,H l=some (.lst ((dWs ns).map V.str))/\ns.length<=8/\(∀ d∈ns,d<=1000)/\(∀ p os H1,H p=none->(∀ o∈os,H o=none)->Same H H1->H1 p=some (.lst (os.map V.ref))->f0y A H1 os ns->Q (.ref p) H1)
 | _=>False
noncomputable def chF (pl sl : Addr) : List (Str × V) := [("parts", .ref pl), ("states", .ref sl)]
def ChW(A:Ad)(H:Hp)(o:Addr)(ns:List Nat):Prop:=∃ dx pl sl os,H o=some (.ins A.b0g dx (chF pl sl))/\H pl=some (.lst (os.map V.ref))/\f0y A H os ns
def d6v(A:Ad):Sp:=fun vs H Q _=>match vs with
 | [.ref o,.ref l]=>∃ (dx:Addr) (ns:List Nat),H o=some (.ins A.b0g dx [])/\H l=some (.lst ((dWs ns).map V.str))/\ns.length<=8/\(∀ d∈ns,d<=1000)/\(∀ H1,a2h o H H1->ChW A H1 o ns->Q .non H1)
 | _=>False
def g3r(A:Ad):Sp:=fun vs H Q _=>match vs with
 | [.ref o]=>∃ ns:List Nat,ChW A H o ns/\ns.length<=8/\(∀ d∈ns,d<=1000)/\All (d2u H ((dWs ns).map V.str)) Q ⟨⟩ ⟨⟩
 | _=>False
def c0q (x : Str) : Prop := x.length ≤ 8 ∧ x ≠ Str.ofString "" ∧ ∀ c ∈ x.cps.toList, 97 ≤ c ∧ c ≤ 122
def d0s:Sp:=fun vs H Q _=>match vs with
 | [.str x]=>c0q x/\(∀ H1,Same H H1->Q (.bl true) H1)
 | _=>False
noncomputable def ptF (t b sd ou : Addr) : List (Str × V) := [("track_names", .ref t), ("bus_names", .ref b), ("told_sends", .ref sd), ("told_outs", .ref ou)]
def Eds(H:Hp)(ps:List Addr)(es:List (Str×Str)):Prop:=ps.length=es.length/\∀ (i:Nat) p e,ps[i]? = some p->es[i]? = some e->∃ lw:Addr,H p=some (.tup [.str e.1,.str e.2,.ref lw])
def h2b(A:Ad)(H:Hp)(o t b sd:Addr)(ts bs:List Str)(es:List (Str×Str)):Prop:=∃ dx ou ps,H o=some (.ins A.a2q dx (ptF t b sd ou))/\H t=some (.lst (ts.map V.str))/\H b=some (.lst (bs.map V.str))/\H sd=some (.lst (ps.map V.ref))/\Eds H ps es/\t≠b/\t≠sd/\b≠sd
def g3s(A:Ad):Sp:=fun vs H Q _=>match vs with
 | [.ref o,.str x]=>∃ t b sd ts bs es,h2b A H o t b sd ts bs es/\c0q x/\x∉ts/\x∉bs/\(∀ H1,Same H H1->Q .non H1)
 | _=>False
def c2t(A:Ad)(H:Hp)(N:Addr->Prop)(o:Addr)(p:Pd):Prop:=∃ dx t b sd ou,H o=some (.ins A.a2q dx (ptF t b sd ou))/\Fl H N t b sd ou p
def h2c(A:Ad):Sp:=fun vs H Q _=>match vs with
 | [.ref o]=>∃ dx,H o=some (.ins A.a2q dx [])/\(∀ H1,a2h o H H1->c2t A H1 (fun a=>H a=none) o ⟨[],[],[],[]⟩->Q .non H1)
 | _=>False
def g3t(A:Ad):Sp:=fun vs H Q _=>match vs with
 | [.ref o,.str x]=>∃ N p,c2t A H N o p/\c0q x/\x∉p.ts/\x∉p.bs/\p.ts.length<=100/\(∀ H1,b0n N H H1->c2t A H1 N o ⟨p.ts++[x],p.bs,p.es,p.os⟩->Q .non H1)
 | _=>False
def g3u(A:Ad):Sp:=fun vs H Q _=>match vs with
 | [.ref o,.str x]=>∃ N p,c2t A H N o p/\c0q x/\x∉p.ts/\x∉p.bs/\p.bs.length<=100/\(∀ H1,b0n N H H1->c2t A H1 N o ⟨p.ts,p.bs++[x],p.es,p.os⟩->Q .non H1)
 | _=>False
def Rch(es:List (Str×Str))(x y:Str):Prop:=∀ S:Str->Prop,S x->(∀ u v,S u->(u,v)∈es->S v)->S y
noncomputable def cnt(es:List (Str×Str))(ks:List Str):Nat:=(es.filter fun e=>decide (e.2∉ks)).length
noncomputable def Path(es:List (Str×Str)):List Str->Prop
 | []=>True
 | [_]=>True
 | x :: y :: r=>(x,y)∈es/\Path es (y :: r)
structure c0l(es:List (Str×Str))(x y:Str)(r:List Str):Prop where
 head:r[0]? = some x
 last:∃ r',r=r'++[y]
 nd:r.Nodup
 path:Path es r
def f0z(es:List (Str×Str))(x:Str)(H0 H:Hp)(L:Addr)(kvs:List (Key×V))(ks:List Str):Prop:=kvs.map (·.1)=ks.map kT/\∀ kv∈kvs,∃ (l:Addr) (ss:List Str) (z:Str),kv.1=kT z/\kv.2 = .ref l/\l≠L/\H0 l=none/\H l=some (.lst (ss.map V.str))/\ss.length<=kvs.length/\c0l es x z ss/\∀ u∈ss,u∈ks
def Done(es:List (Str×Str))(y:Str)(ks ws:List Str)(P:Str->Prop):Prop:=∀ z∈ks,z∈ws\/P z\/(z≠y/\∀ v,(z,v)∈es->v∈ks)
def g3v(A:Ad):Sp:=fun vs H Q _=>match vs with
 | [.ref o,.str x,.str y]=>∃ t b sd ts bs es,h2b A H o t b sd ts bs es/\es.length<=100/\PyData.strOk x=true/\(∀ e∈es,PyData.strOk e.2=true)/\(¬ Rch es x y->All (d2u H []) Q ⟨⟩ ⟨⟩)/\(∀ r,c0l es x y r->r.length<=101->All (d2u H (r.map V.str)) Q ⟨⟩ ⟨⟩)
 | _=>False
def f5i(A:Ad):Sp:=fun vs H Q _=>match vs with
 | [.ref e, .ref l] => ∃ xs, H e = some (d5u e (.ref A.a0q)) ∧ H l = some (.lst xs) ∧ xs.length ≤ 200 ∧ (∀ d l2 H1, H d = none → H l2 = none → a2h e H H1 → H1 e = some (d8m e (.ref A.a0q) d) → H1 d = some (.xd [("ring", .ref l2)]) → H1 l2 = some (.lst xs) → Q .non H1)
 | _=>False
def f5j(A:Ad):Sp:=fun vs H Q E=>match vs with
 | [.ref o, .str x, .str y, .ref l] => ∃ (N : Addr → Prop) (p : Pd) (ds : List Nat), c2t A H N o p ∧ H l = some (.lst ((dWs ds).map V.str)) ∧ ds.length ≤ 8 ∧ (∀ d ∈ ds, d ≤ 1000) ∧ (x ∈ p.ts ∨ x ∈ p.bs) ∧ y ∈ p.bs ∧ p.es.length ≤ 99 ∧ PyData.strOk y = true ∧ (∀ e ∈ p.es, PyData.strOk e.2.1 = true) ∧ (¬ Rch (prs p.es) y x → ∀ H1, b0n N H H1 → c2t A H1 (fun a => N a ∨ H a = none) o ⟨p.ts, p.bs, p.es ++ [(x, y, dWs ds)], p.os⟩ → Q .non H1) ∧ (∀ r d l2 H1, c0l (prs p.es) y x r → r.length ≤ 101 → H d = none → H l2 = none → Same H H1 → H1 d = some (.xd [(Str.ofString "ring", .ref l2)]) → H1 l2 = some (.lst (r.map V.str)) → E (.ref A.a0q) (some d) H1)
 | _=>False
def d0t(A:Ad):Sp:=fun vs H Q _=>match vs with
 | [.ref o]=>∃ (N:Addr->Prop) (p:Pd),c2t A H N o p/\p.ts.length<=100/\All (d2u H (p.ts.map V.str)) Q ⟨⟩ ⟨⟩
 | _=>False
def d6w(A:Ad):Sp:=fun vs H Q _=>match vs with
 | [.ref o]=>∃ (N:Addr->Prop) (p:Pd),c2t A H N o p/\p.bs.length<=100/\All (d2u H (p.bs.map V.str)) Q ⟨⟩ ⟨⟩
 | _=>False
def d6y(A:Ad):Sp:=fun vs H Q _=>match vs with
 | [.ref o]=>∃ (N:Addr->Prop) (p:Pd),c2t A H N o p/\p.es.length<=100/\(∀ e∈p.es,e.2.2.length<=100)/\(∀ l us H1,H l=none->Same H H1->H1 l=some (.lst us)->RpL H1 (fun a=>H a=none/\a≠l) us (p.es.map dSd)->Q (.ref l) H1)
 | _=>False
def d6z:Sp:=fun vs H Q _=>match vs with
 | [.ref l,.str x,.str y]=>∃ (ps:List Addr) (es:List (Str×Str)),H l=some (.lst (ps.map V.ref))/\Eds H ps es/\es.length<=100/\(∀ (r:Bool) H1,(r=true->Rch es x y)->(r=false->¬ Rch es x y)->Same H H1->Q (.bl r) H1)
 | _=>False
noncomputable def dPr(e:Str×Str):PySem.W.Dat:=.tuple [.str e.1,.str e.2]
def d0u:Sp:=fun vs H Q _=>match vs with
 | [.ref ls,.str x,.str y,.ref lr]=>∃ (ps:List Addr) (es:List (Str×Str)) (r:List Str),H ls=some (.lst (ps.map V.ref))/\Eds H ps es/\es.length<=100/\H lr=some (.lst (r.map V.str))/\c0l es y x r/\r.length<=101/\(∀ e∈es,PyData.strOk e.1=true/\PyData.strOk e.2=true)/\PyData.strOk y=true/\∀ H1,Same H H1->Q (.bl true) H1
 | _=>False
def g3w(A:Ad):Sp:=fun vs H Q _=>match vs with
 | [.ref o,.ref ls,.str x,.str y,.ref lw]=>∃ (N M:Addr->Prop) (p:Pd) (ns:List Nat) (us:List V),c2t A H N o p/\H ls=some (.lst us)/\RpL H M us (p.es.map dSd)/\H lw=some (.lst ((dWs ns).map V.str))/\ns.length<=8/\(∀ d∈ns,d<=1000)/\(x∈p.ts\/x∈p.bs)/\y∈p.bs/\p.es.length<=99/\PyData.strOk y=true /\
  (∀ e∈p.es,PyData.strOk e.1=true/\PyData.strOk e.2.1=true/\e.2.2.length<=8/\∀ z∈e.2.2,PyData.strOk z=true)/\Rch (prs p.es) y x/\∀ H1,Same H H1->Q (.bl true) H1
 | _=>False
structure Lad(A:Ad)(H0 H:Hp)(o D:Addr)(us:List V)(L:List Addr)(p:Pd)(es:List Sd):Prop where
 s0:Same H0 H
 nD:H0 D=none
 pw:c2t A H (fun a=>H0 a=none/\a∉L) o p
 hD:H D=some (.lst us)
 dL:D∈L
 rp:RpL H (fun a=>a∈L/\a≠D) us (es.map dSd)
 lv:∀ a∈L,H a≠none
noncomputable def lt(k:Nat):Str:=⟨#[97+k]⟩
noncomputable def lad:Nat->List Sd
 | 0=>[]
 | k+1=>lad k++List.replicate (if k=0 then 0 else 3) (lt (k - 1),lt k,[])
noncomputable def bsL(k:Nat):List Str:=(List.range k).map lt
def f9m:Sp:=fun vs H Q _=>match vs with
 | []=>∀ H1,Same H H1->Q (.bl true) H1
 | _=>False
noncomputable def nmC(bl:List Int)(m k j:Nat):Nat:=97+((bl.getD j 0+(k:Int)*(if j=m then 1 else 0)).fmod 26).toNat
noncomputable def nmS(bl:List Int)(m k n:Nat):Str:=⟨((List.range n).map (nmC bl m k)).toArray⟩
def d7g:Sp:=fun vs H Q _=>match vs with
 | [.int c]=>intBits c<=1100000/\(∀ (nm:List Str) l H1,nm.length=9->nm.Nodup->(∀ z∈nm,c0q z)->H l=none->Same H H1->H1 l=some (.lst (nm.map V.str))->Q (.ref l) H1)
 | _=>False
def f5k(K:PySem.W.Frag):Sp:=fun vs H Q _=>match vs with | [.ref a,.int k]=>∃ ns:List Int,SqL K H a (ns.map V.int)/\0<=k/\Q (.int (ns.getD k.toNat 0)) H | _=>False
local macro_rules | `(tactic| walk_at $s:str)=>do
 unless s.getString == "rd" || s.getString == "rd*" do Lean.Macro.throwUnsupported
 let mut ls:Array (Lean.TSyntax [`Lean.Parser.Tactic.simpStar,`Lean.Parser.Tactic.simpErase,`Lean.Parser.Tactic.simpLemma]) := #[]
 if s.getString == "rd*" then
  let y <- `(Lean.Parser.Tactic.simpStar| *)
  ls:=ls.push ⟨y.raw⟩
 for n in "g3n g3o h1z h2a d0r d6u f5g f5h g3p g3q d6v g3r d0s g3s h2c g3t g3u g3v f5i f5j d0t d6w d6y d6z d0u g3w f9m d7g f5k h0v iStr rSlA h0w rStrI tFmt h0x g6v h0y g6x h3o tSl3R rSlR g7v f8m g7x g7y g7t g7u g7w h1l h1j gSub rSetM g7i rIxD rNiD h1i h1c h3o h3p tSl3 rSl3 g8e f8r h1p g8d g3b g6y h0z g8z f3j g0t rInF tAugF rTupS rIsI h1a g7f g0x g7g tSeq g9n g6g tC f6n tOp tUn g9l tRet tRetN g9k tCB g9v g8w h0a h0b g1t tAnd tOr tNot tBF g6i tOrF tNotF g4z tIf g9z g2e g0k h3e h3f g0l tSl g1u g0m rIF g6h rUF h0c h0d h2x h2y rIxM rSlM h0e h0m h0n h0l rIsT rAbs rMin rMax g6j rSumF g6k tBMF h0r h0q g6m h3g h3h h3i h3j g5a h3n h3k h3m g6s hAs _root_.L2.start".splitOn " " do
  let i:=Lean.mkIdent n.toName
  let y <- `(Lean.Parser.Tactic.simpLemma| ↓$i:ident)
  ls:=ls.push ⟨y.raw⟩
 for n in "noxK Bool.bne_false Bool.bne_true noxK noxK asNew lookup_same g0u g7a g4i g9a List.lookup_nil nq0 nq1 nq2 nq3 nq4 nq5 nq6 nq7 nq8 nq9 nq10 nq11 nq12 nq13 nq14 nq15 nq16 nq17 nq18 nq19 nq20 nq21 nq22 nq23 nq24 nq25 nq26 nq27 nq28 nq29 nq30 nq31 nq32 nq33 nq34 nq35 nq36 nq37 nq38 nq39 nq40 nq41 nq42 nq43 nq44 nq45 nq46 nq47 nq48 nq49 nq50 nq51 nq52 nq53 nq54 nq55 nq56 h2z h3a h3b h3c h3d g0g Ty.nm h2p h2w g6c g6d g6e g6f g0i g2f List.map_cons List.map_nil List.length_cons List.length_nil List.length_map List.replicate List.cons_append List.nil_append List.append_nil List.getElem?_cons_zero List.getElem?_cons_succ List.set_cons_zero List.set_cons_succ Option.some.injEq exists_eq_left' exists_eq_left exists_and_left V.int.injEq V.bl.injEq V.str.injEq V.ref.injEq V.ty.injEq Value.ref.injEq List.cons.injEq HO.lst.injEq HO.tup.injEq Int.zero_add List.length_append and_true true_and h0f h0g h0h h0i h0j two_line if_true reduceCtorEq if_false Bool.false_eq_true decide_eq_true_eq decide_eq_false_iff_not decide_true decide_false Bool.or_true Bool.true_or Bool.or_false Bool.false_or Bool.and_true Bool.true_and Bool.and_false Bool.false_and or_false false_or Nat.zero_add Nat.reduceAdd Nat.reduceSub exists_const false_and and_false Bool.not_true Bool.not_false Bool.not_eq_true' ne_eq not_true_eq_false not_false_eq_true Int.reduceEq Int.reduceNe Int.reduceLT Int.reduceLE Int.reducePow Int.reduceMul Int.reduceAdd Int.reduceSub Int.reduceNeg Int.reduceToNat Nat.reducePow Nat.reduceLT Nat.reduceLeDiff".splitOn " " do
  let i:=Lean.mkIdent n.toName
  let y <- `(Lean.Parser.Tactic.simpLemma| $i:ident)
  ls:=ls.push ⟨y.raw⟩
 `(tactic| simp (config:={ maxSteps:=1000000,dsimp:=false }) only [$ls,*])
theorem f0p (T : Tx K mg A) : a2t P A.wd K mg base CX0 1 A.a4s A.a5h ["text"] g3n := by
 refine T.a9o.ok c2m (fun vs H Q E h=>?_) (fun cdv A' outer s H vs Q E hr h=>?_)
 ·obtain⟨_,rfl,_⟩:=g1c (by unfold g3n at h; exact h)
  rfl
 ·obtain⟨x,rfl,q⟩:=g1c (by unfold g3n at h; exact h)
  have q:Q (.bl (f7v (sg x))) H:=q
  have hu:=hr.units
  refine⟨_,(a0l (b1h PassesOwn.never rfl (g0s (pvF 0)) (a4p (i:=1) c2m.nd rfl (Or.inl rfl))
   (a0n (a5y (a0y b8y (pvF 1) (a4h (v := .str "0123456789") (by rfl) T.f0m T.c3p) (by rfl))
   (a0n (a1j c1n))
   a1i)))
   (a0n (a1j (b8s (c1t hu) (pvF 0) a6m (a2s _))))),?_⟩
  walk_at "rd"
  refine f7t (fun i σ H1=>H1=H/\(∃ z,σ = [some (.str x),z])/\((sg x).take i).all (fun c=>decide (48<=c) && decide (c<=57))=true) ⟨rfl,⟨_,rfl⟩,rfl⟩ ?_ ?_
  ·rintro i c σ H1 hc ⟨rfl,⟨z,rfl⟩,ha⟩
   walk_at "rd"
   have hc':(sg x)[i]? = some c:=by
    unfold sg
    rw [Array.getElem?_toList]
    exact hc
   rw [g2p]
   split
   ·rename_i hb
    have:f7v (sg x)=false:=by
     unfold f7v
     rw [show (sg x).all (fun c=>decide (48<=c) && decide (c<=57))=false from ?_,Bool.false_and]
     rw [List.all_eq_false]
     exact⟨c,List.mem_of_getElem? hc',by rw [hb]; decide⟩
    rw [this] at q
    exact q
   ·rename_i hb
    refine⟨⟨_,rfl⟩,?_⟩
    rw [List.take_add_one,hc',List.all_append,ha]
    simpa using hb
  ·rintro σ H1 ⟨rfl,⟨z,rfl⟩,ha⟩
   walk_at "rd"
   have hl:x.cps.size=(sg x).length:=by simp
   rw [hl,List.take_length] at ha
   have e : f7v (sg x) = !decide (x = Str.ofString "") := by
    unfold f7v
    rw [ha,Bool.true_and]
    congr 1
    rw [Bool.eq_iff_iff,decide_eq_true_eq,List.isEmpty_iff]
    exact⟨fun h=>c3w (h.trans (by decide +kernel)),fun h=>by rw [h]; decide +kernel⟩
   rw [e] at q
   exact q
theorem f5l{x:Str}{n:Nat}(h:sg x=txt (n:Int)):(Txt.startswith x ⟨#[48]⟩ && !decide (x=(⟨#[48]⟩:Str)))=false:=by
 have e:txt (n:Int)=dg n:=if_neg (by omega)
 rw [e] at h
 rcases Nat.eq_zero_or_pos n with z | z
 ·subst z
  have:x = ⟨#[48]⟩:=c3w (by rw [h]; rfl)
  rw [this]
  simp
 ·obtain⟨c,r,e1,e2⟩:=g2n z
  rw [g7e,h,e1]
  simp [e2]
theorem g8j (T : Tx K mg A) : a2t P A.wd K mg base CX0 2 A.a8q A.a8r ["text"] g3o := by
 have d4m:a2t P A.wd K mg base CX0 1 _ _ _ _:=f0p T
 refine T.b5m.ok d5z (fun vs H Q E h=>?_) (fun cdv A' outer s H vs Q E hr h=>?_)
 ·obtain⟨_,rfl,_⟩:=g1c (by unfold g3o at h; exact h)
  rfl
 ·obtain⟨x,rfl,⟨n,hx,hn,q⟩⟩:=g1c (by unfold g3o at h; exact h)
  have hu:=hr.units
  have d0v:a4w 1 _:=hr.mono (by decide)
  have sl : Str.ofString "0" = ⟨#[48]⟩ := by decide +kernel
  refine⟨_,(a0l (a5y (pw_or (b8q (a2p (a5z d4m d0v (by rfl) T.d3t T.a9o.kp T.d3s .nil a4y (a0g (pvF 0) a0m)))) (pw_or1 (a0y d9l (a0w a7i (by rfl) T.c7m boot_len (a0g (pvF 0) a0m)) (a4h (v:=.int 13) (by rfl) T.b8o T.a4l) (a2s _)))).pt
   (a0n (a1j d7s))
   a1i)
   (a0l (a5y (pw_and (a2p (b8w d2t PySem.F.plainAttrs_str PySem.F.slot_str_startswith PySem.F.type_str_startswith c8z (pvF 0) (a0g a6m a0m))) (pw_and1 (a0y (c1t hu) (pvF 0) a6m (a2s _)))).pt
   (a0n (a1j d7s))
   a1i)
   (a0n (a1j (a7h c5t (by rfl) T.g3k boot_int (a0g (pvF 0) a0m)))))),?_⟩
  rw [sl]
  walk_at "rd*"
  have e:txt (n:Int)=dg n:=if_neg (by omega)
  have f:f7v (txt (n:Int))=true:=by rw [e]; exact f7w.mpr ⟨d3h _,g2m _⟩
  have lx:x.length<=13:=by
   rw [<- g0v,hx,e]
   have a:=g7j 12 n (by omega)
   omega
  have sw:=f5l hx
  have hs:sizeLine=16777216:=sizeLine_eq
  rw [f,if_neg (by decide)]
  refine⟨by omega,?_⟩
  rw [if_neg ?_]
  ·exact⟨_,d9p hx (by omega),by omega,q⟩
  ·rintro (z | ⟨z1,z2⟩)
   ·omega
   ·rw [z1,Bool.true_and] at sw
    simp [z2] at sw
theorem h2d (T : Tx K mg A) : a2t P A.wd K mg base CX0 3 A.a3h A.a3p ["text", "least", "most"] h1z := by
 have f0q:a2t P A.wd K mg base CX0 2 _ _ _ _:=g8j T
 refine T.a7m.ok c0p (fun vs H Q E h=>?_) (fun cdv A' outer s H vs Q E hr h=>?_)
 ·obtain⟨_,_,_,rfl,_⟩:=g1d (by unfold h1z at h; exact h)
  rfl
 ·obtain⟨x,a,b,rfl,⟨n,hx,hn,h1,h2,q⟩⟩:=g1d (by unfold h1z at h; exact h)
  have hu:=hr.units
  have d7h:a4w 2 _:=hr.mono (by decide)
  refine⟨_,(a0l (a2i (i:=3) c0p.nd rfl (Or.inl rfl) (a5z f0q d7h (by rfl) T.f0g T.b5m.kp T.d9z .nil a4y (a0g (pvF 0) a0m)))
   (a0l (a5y (pw_or (a0y g5i (pvF 3) d7s (a2s _)) (pw_or (a0y of_lt (pvF 3) (pvF 1) (a2s _)) (pw_or1 (a0y d9l (pvF 3) (pvF 2) (a2s _))))).pt
   (a0n a9g)
   a1i)
   (a0n (a1j (pvF 3))))),?_⟩
  walk_at "rd"
  refine⟨n,hx,by omega,?_⟩
  have z1:¬ (n:Int) < a:=by omega
  have z2:¬ b < (n:Int):=by omega
  walk_at "rd*"
theorem h2e (T : Tx K mg A) : a2t P A.wd K mg base CX0 1 A.a3i A.a3q ["values", "count"] h2a := by
 refine T.a7n.ok c6z (fun vs H Q E h=>?_) (fun cdv A' outer s H vs Q E hr h=>?_)
 ·obtain⟨_,_,rfl,_⟩:=d9v (by unfold h2a at h; exact h)
  rfl
 ·obtain⟨l,c,rfl,⟨xs,hl,e,q⟩⟩:=d9v (by unfold h2a at h; exact h)
  have hu:=hr.units
  refine⟨_,(a0n (a5y (a0y (c1t hu) (a0w a7i (by rfl) T.c7m boot_len (a0g (pvF 0) a0m)) (pvF 1) (a2s _))
   (a0n a9g)
   a1i)),?_⟩
  walk_at "rd*"
theorem f5m (T : Tx K mg A) : a2t P A.wd K mg base CX0 1 A.a6p A.a5j ["self", "many"] (d0r A.a9z) := by
 have a4n:=T.a4n
 have a0z:=T.a0z
 refine T.b3y.ok c9m (fun vs H Q E h=>?_) (fun cdv A' outer s H vs Q E hr h=>?_)
 ·obtain⟨_,_,rfl,_⟩:=d9v (by unfold d0r at h; exact h)
  rfl
 ·obtain⟨o,n,rfl,⟨dx,ho,k⟩⟩:=d9v (by unfold d0r at h; exact h)
  have hu:=hr.units
  refine⟨_,(a0n (c0u (pvF 0) (pvF 1) rfl)),?_⟩
  walk_at "rd*"
  intro H1 B1 h1
  exact k H1 B1 h1
theorem f9n (T : Tx K mg A) : a2t P A.wd K mg base CX0 1 A.a4t A.a5i ["self"] d6u := by
 refine T.b3w.ok c9l (fun vs H Q E h=>?_) (fun cdv A' outer s H vs Q E hr h=>?_)
 ·obtain⟨_,rfl,_⟩:=d1r (by unfold d6u at h; exact h)
  rfl
 ·obtain⟨o,rfl,k⟩:=d1r (by unfold d6u at h; exact h)
  have hu:=hr.units
  refine⟨_,(a0n (a1j (c0t a0m))),?_⟩
  walk_at "rd"
  refine⟨Nat.zero_le _,fun t H1 n1 S1 h1=>k _ _ ⟨t,rfl,n1,S1,h1⟩⟩
theorem d7i (T : Tx K mg A) : a2t P A.wd K mg base CX0 6 A.a6r A.a8s ["values"] (f5g A) := by
 have d0w:a2t P A.wd K mg base CX0 1 _ _ _ _:=h2e T
 have d0y:a2t P A.wd K mg base CX0 3 _ _ _ _:=h2d T
 have d4n:a2t P A.wd K mg base CX0 1 _ _ _ _:=f5m T
 have a4n:=T.a4n
 have a0z:=T.a0z
 refine T.b5n.ok d6g (fun vs H Q E h=>?_) (fun cdv A' outer s H vs Q E hr h=>?_)
 ·obtain⟨_,rfl,_⟩:=d1r (by unfold f5g at h; exact h)
  rfl
 ·obtain⟨l,rfl,⟨n,ok,hl,q⟩⟩:=d1r (by unfold f5g at h; exact h)
  have hu:=hr.units
  have c7o:a4w 1 _:=hr.mono (by decide)
  have c7p:a4w 3 _:=hr.mono (by decide)
  have d0z:a4w 2 _:=hr.mono (by decide)
  refine⟨_,(a0l (a4i (a5z d0w c7o (by rfl) T.d0g T.a7n.kp T.c9z .nil a4y (a0g (pvF 0) (a0g a0r a0m))))
   (a0n (a1j (d8h T.d6k d4n d0z (by rfl) T.f9g T.d3v .nil a4y (a0g (a5z d0y c7p (by rfl) T.c9y T.a7m.kp T.c9w .nil a4y (a0g (a5v c1l (pvF 0) a0r (fun _ _=>rfl)) (a0g a0r (a0g (a4h (v:=.int 1000) (by rfl) T.d4l T.b9r) a0m)))) a0m))))),?_⟩
  walk_at "rd"
  refine⟨_,hl,rfl,?_⟩
  walk_at "rd*"
  refine⟨n,g7m n,by omega,by omega,by omega,?_⟩
  intro x dx H2 n2 n3 nx S2 hdx hx
  refine⟨dx,hx,fun H3 B3 h3=>?_⟩
  rw [asNew]
  refine⟨rfl,?_⟩
  exact q x H3 n2 (fun b u e=>B3 _ _ (fun z=>by rw [z] at e; rw [e] at n2; cases n2) (S2 _ _ e)) ⟨dx,h3⟩
theorem g3x (T : Tx K mg A) : a2t P A.wd K mg base CX0 8 A.b1m A.b0z ["word"] (f5h A) := by
 have f0r:a2t P A.wd K mg base CX0 6 _ _ _ _:=d7i T
 refine T.b9j.ok c8k (fun vs H Q E h=>?_) (fun cdv A' outer s H vs Q E hr h=>?_)
 ·obtain⟨_,rfl,_⟩:=g1c (by unfold f5h at h; exact h)
  rfl
 ·obtain⟨x,rfl,⟨n,ok,hx,q⟩⟩:=g1c (by unfold f5h at h; exact h)
  subst hx
  have hu:=hr.units
  have d7j:a4w 6 _:=hr.mono (by decide)
  have dk:=T.f0o
  have sp:=(Dt.delay n).split
  have wl:=(Dt.delay n).wlen ok
  have hs:sizeLine=16777216:=sizeLine_eq
  have d1:((⟨#[58]⟩:Str).length == 0)=false:=rfl
  have hf:=T.b0l
  have vn:(Dt.delay n).vals.length=1:=rfl
  obtain⟨wd,ew⟩:∃ x,(Dt.delay n).word=x:=⟨_,rfl⟩
  rw [ew] at sp wl ⊢
  refine ⟨_, (a0l (a5y (b8q (a2p (a0w (c4u .str) (by rfl) T.a0v boot_isinstance (a0g (pvF 0) (a0g (c5g (v := .ty "str") (u := .type "str") (by rfl) T.g8h rfl rfl) a0m)))))
   (a0n a9g)
   a1i)
   (a0l (a2i (i:=1) c8k.nd rfl (Or.inl rfl) (b8w d2t PySem.F.plainAttrs_str PySem.F.slot_str_split PySem.F.type_str_split f7u (pvF 0) (a0g a6m a0m)))
   (a0l (a5y (a0y (f3l (K:=K) (w:=A.wd) (by rfl) (by rfl)) (a5v c1l (pvF 1) a0r (fun _ _=>rfl)) (a4h (v:=.ref A.a4v) (by rfl) T.c8l rfl) (by rfl))
   (a0n a9g)
   a1i)
   (a0n (a1j (f7z f0r d7j T.b5n.kp T.f0h .nil a4y (a5v (ix_D (K:=K) (w:=A.wd) (by rfl) (by rfl)) (a4h (v:=.ref A.a4v) (by rfl) T.c8l rfl) (a5v c1l (pvF 1) a0r (fun _ _=>rfl)) (fun _ _=>rfl)) (a0g (c0g g6t (pvF 1) (b6w a0r) c5l) a0m))))))),?_⟩
  rw [h1h]
  walk_at "rd*"
  refine⟨by omega,fun l H1 n1 S1 h1=>?_⟩
  clear sp wl
  replace h1 : H1 l = some (.lst [.str (Str.ofString "delay"), .str (nW n)]) := h1
  walk_at "rd*"
  refine fun m H2 n2 S2 h2=>?_
  have e2 : f0w [V.str (Str.ofString "delay"), V.str (nW n)] (some 1) none = [.str (nW n)] := by
   show d5p _ (some ((1:Nat):Int)) none=_
   rw [f2w]
   rfl
  rw [e2] at h2
  walk_at "rd"
  exact⟨n,ok,h2,fun o H3 n3 S3 hp=>q o H3 ((S1.trans S2).free n3) (S1.trans (S2.trans S3)) hp⟩
theorem h2f (T : Tx K mg A) : a2t P A.wd K mg base CX0 1 A.a6q A.a5k ["self"] (g3p A) := by
 have a4n:=T.a4n
 have a0z:=T.a0z
 refine T.b3z.ok c2n (fun vs H Q E h=>?_) (fun cdv A' outer s H vs Q E hr h=>?_)
 ·obtain⟨_,rfl,_⟩:=d1r (by unfold g3p at h; exact h)
  rfl
 ·obtain⟨o,rfl,⟨n,ok,⟨dx,ho⟩,q⟩⟩:=d1r (by unfold g3p at h; exact h)
  have hu:=hr.units
  have a:=g0z (n:=n) (Nat.lt_of_le_of_lt ok (by decide))
  have e0:Str.empty.length=0:=rfl
  have e1 : (Str.ofString "delay:").length = 6 := by decide +kernel
  have hs:sizeLine=16777216:=sizeLine_eq
  have g0:=g0y (t:=(n:Int)) (n:=20) (by omega) (by decide)
  unfold nW at a
  refine⟨_,(a0l (a2i (i:=1) c2n.nd rfl (Or.inl rfl) (a6g (pvF 0) rfl))
   (a0n (a1j (f3i (f3h a6m (f3h (g6u (pvF 1)) g6w)))))),?_⟩
  walk_at "rd*"
  have w:=f3q n
  unfold nW at w
  simp only [strLen_append,e0,e1]
  refine⟨by omega,by omega,by omega,?_⟩
  rw [w]
  exact q
theorem f0y.same{A:Ad}{H H':Hp}{os:List Addr}{ns:List Nat}(h:f0y A H os ns)(S:Same H H'):f0y A H' os ns:=⟨h.1,fun i o d e1 e2=>(h.2 i o d e1 e2).elim fun dx z=>⟨dx,S _ _ z⟩⟩
theorem f0y.keep{A:Ad}{D:Addr}{H H':Hp}{os:List Addr}{ns:List Nat}(h:f0y A H os ns)(no:∀ o∈os,o≠D)(B:a2h D H H'):f0y A H' os ns:=⟨h.1,fun i o d e1 e2=>(h.2 i o d e1 e2).elim fun dx z=>⟨dx,B _ _ (no o (List.mem_of_getElem? e1)) z⟩⟩
theorem f0y.snoc{A:Ad}{H:Hp}{os:List Addr}{ns:List Nat}{o:Addr}{d:Nat}(h:f0y A H os ns)(hp:IsD A H o d):f0y A H (os++[o]) (ns++[d]):=by
 obtain⟨hl,h⟩:=h
 refine⟨by rw [List.length_append,List.length_append,hl]; rfl,fun i s e h1 h2=>?_⟩
 rcases Nat.lt_or_ge i ns.length with z | z
 ·rw [List.getElem?_append_left (by omega)] at h1
  rw [List.getElem?_append_left z] at h2
  exact h i s e h1 h2
 ·have hi:=(List.getElem?_eq_some_iff.mp h2).1
  rw [List.length_append,List.length_singleton] at hi
  obtain rfl:i=ns.length:=by omega
  rw [<- hl,List.getElem?_concat_length] at h1
  rw [List.getElem?_concat_length] at h2
  cases h1
  cases h2
  exact hp
theorem g8k (T : Tx K mg A) : a2t P A.wd K mg base CX0 9 A.a8t A.a8u ["words"] (g3q A) := by
 have f5n:a2t P A.wd K mg base CX0 8 _ _ _ _:=g3x T
 refine T.b5o.ok d6h (fun vs H Q E h=>?_) (fun cdv A' outer s H vs Q E hr h=>?_)
 ·obtain⟨_,rfl,_⟩:=d1r (by unfold g3q at h; exact h)
  rfl
 ·obtain⟨l,rfl,⟨ns,hl,l8,ok,q⟩⟩:=d1r (by unfold g3q at h; exact h)
  have hu:=hr.units
  have f0s:a4w 8 _:=hr.mono (by decide)
  have hs:sizeLine=16777216:=sizeLine_eq
  obtain⟨xs,ex⟩:∃ xs,(dWs ns).map V.str=xs:=⟨_,rfl⟩
  have xl:xs.length=ns.length:=by rw [<- ex,dWs,List.length_map,List.length_map]
  rw [ex] at hl
  have z1:¬ (8:Int) < (ns.length:Int):=by omega
  refine ⟨_, (a0l (a5y (b8q (a2p (a0w (c4u .lst) (by rfl) T.a0v boot_isinstance (a0g (pvF 0) (a0g (c5g (v := .ty "list") (u := .type "list") (by rfl) T.c4o rfl rfl) a0m)))))
   (a0n a9g)
   a1i)
   (a0l (a5y (a0y d9l (a0w a7i (by rfl) T.c7m boot_len (a0g (pvF 0) a0m)) (a4h (v:=.int 8) (by rfl) T.d0q T.b8h) (a2s _))
   (a0n a9g)
   a1i)
   (a0n (a1j (c5s (b3s (pvF 0)) (fun _ _ _ _ _ => (a5z f5n f0s (by rfl) T.f4p T.b9j.kp T.f4o .nil a4y (a0g (pvF 0) a0m))) (d9o (sc := a0o c3h) (N := ["words"]) rfl rfl (by decide +kernel)) rfl))))), ?_⟩
  walk_at "rd*"
  refine⟨⟨_,SqL.of hl⟩,fun D H2 n2 S2 h2=>?_⟩
  refine c0h (xs:=xs) (fun i ys H'=>Same H H'/\H' D=some (.lst ys)/\∃ os:List Addr,ys=os.map V.ref/\(∀ o∈os,H o=none/\o≠D)/\f0y A H' os (ns.take i)) ⟨S2,h2,[],rfl,(fun o ho=>by cases ho),rfl,fun i o d e=>by simp at e⟩ (by omega) ?_ ?_ ?_
  ·intro i ys H' hi ⟨S',h',os,e,no,R⟩
   exact⟨h',SqL.of (S' _ _ hl),by rw [e,List.length_map,R.1,List.length_take]; omega⟩
  ·intro i x ys H' hx ⟨S',h',os,e,no,R⟩
   rw [<- ex,dWs,List.map_map,List.getElem?_map] at hx
   obtain⟨d,hd,rfl⟩:=Option.map_eq_some_iff.mp hx
   have o1:=ok d (List.mem_of_getElem? hd)
   walk_at "rd"
   refine⟨d,o1,rfl,fun o H3 n3 S3 hp=>?_⟩
   have no3:∀ p∈os++[o],H p=none/\p≠D:=fun p hp=>by
    rcases List.mem_append.mp hp with h | h
    ·exact no p h
    ·obtain rfl:=List.mem_singleton.mp h
     exact⟨S'.free n3,fun z=>by rw [z,h'] at n3; cases n3⟩
   refine⟨S3 _ _ h',fun H4 B4 h4=>⟨(S'.trans S3).step n2 B4,h4,os++[o],(by rw [e,List.map_append]; rfl),no3,?_⟩⟩
   rw [List.take_add_one,hd]
   exact ((R.same S3).snoc hp).keep (fun p hp=>(no3 p hp).2) B4
  ·intro ys H3 ⟨S3,h3,os,e,no,R⟩
   rw [xl,List.take_length] at R
   subst e
   exact q D os H3 n2 (fun o ho=>(no o ho).1) S3 h3 R
theorem ChW.same{A:Ad}{H H':Hp}{o:Addr}{ns:List Nat}(h:ChW A H o ns)(S:Same H H'):ChW A H' o ns:=by
 obtain⟨dx,pl,sl,os,h1,h2,h3⟩:=h
 exact⟨dx,pl,sl,os,S _ _ h1,S _ _ h2,h3.same S⟩
theorem f9o (T : Tx K mg A) : a2t P A.wd K mg base CX0 10 A.a6s A.a5l ["self", "words"] (d6v A) := by
 have f0t:a2t P A.wd K mg base CX0 9 _ _ _ _:=g8k T
 have d4o:a2t P A.wd K mg base CX0 1 _ _ _ _:=f9n T
 have b0o:=T.b0o
 have a2l:=T.a2l
 have a1m:=T.a1m
 have a4n:=T.a4n
 have a0z:=T.a0z
 refine T.b4g.ok c9n (fun vs H Q E h=>?_) (fun cdv A' outer s H vs Q E hr h=>?_)
 ·obtain⟨_,_,rfl,_⟩:=f8u (by unfold d6v at h; exact h)
  rfl
 ·obtain⟨o,l,rfl,⟨dx,ns,ho,hl,l8,ok,q⟩⟩:=f8u (by unfold d6v at h; exact h)
  have hu:=hr.units
  have d7k:a4w 9 _:=hr.mono (by decide)
  have d1g:a4w 1 _:=hr.mono (by decide)
  have hs:sizeLine=16777216:=sizeLine_eq
  refine⟨_,(a0l (c0u (pvF 0) (a5z f0t d7k (by rfl) T.f0j T.b5o.kp T.f0i .nil a4y (a0g (pvF 1) a0m)) rfl)
   (a0n (c0u (pvF 0) (c5s (b3s (a6g (pvF 0) rfl)) (fun _ _ _ _ _ => (b1k (pvF 0) T.a4n T.b4m d4o d1g T.d3u .nil a4y)) (d9o (sc := a0o b8z) (N := ["self", "words"]) rfl rfl (by decide +kernel)) rfl) rfl))), ?_⟩
  walk_at "rd"
  refine⟨ns,hl,l8,ok,fun pl os H1 np no S1 hpl R=>?_⟩
  have ho1:=S1 _ _ ho
  have noc:∀ p∈os,p≠o:=fun p hp e=>by rw [<- e,no p hp] at ho; cases ho
  walk_at "rd*"
  intro H2 B2 h2
  have nop:o≠pl:=fun e=>by rw [<- e,ho] at np; cases np
  have g8l:=B2 _ _ nop.symm hpl
  have R2:=R.keep noc B2
  clear hpl R ho ho1
  walk_at "rd*"
  refine⟨⟨_,SqL.of g8l⟩,fun D H3 n3 S3 h3=>?_⟩
  have ol:=R2.1
  refine c0h (xs:=os.map V.ref) (fun i ys H'=>Same H2 H'/\H' D=some (.lst ys)/\ys.length=i) ⟨S3,h3,rfl⟩ (by rw [List.length_map,hs]; omega) ?_ ?_ ?_
  ·intro i ys H' hi ⟨S',h',yl⟩
   exact⟨h',SqL.of (S' _ _ g8l),yl⟩
  ·intro i x ys H' hx ⟨S',h',yl⟩
   rw [List.getElem?_map] at hx
   obtain⟨oi,hoi,rfl⟩:=Option.map_eq_some_iff.mp hx
   have hi:=(List.getElem?_eq_some_iff.mp hoi).1
   have hd : ns[i]? = some (ns[i]'(by omega)) := List.getElem?_eq_getElem _
   obtain⟨dxi,hp⟩:=(R2.same S').2 i _ _ hoi hd
   clear g8l h3
   walk_at "rd*"
   refine fun v H5 ⟨p,e,n5,S5,h5⟩=>?_
   exact⟨S5 _ _ h',fun H6 B6 h6=>⟨(S'.trans S5).step n3 B6,h6,by rw [List.length_append,yl]; rfl⟩⟩
  ·intro ys H4 ⟨S4,h4,yl⟩
   have ho4:=S4 _ _ h2
   have hpl4:=S4 _ _ g8l
   have R4:=R2.same S4
   clear h2 h3 g8l
   walk_at "rd*"
   intro H5 B5 h5
   exact q H5 (fun z u hz e=>B5 _ _ hz (S4 _ _ (B2 _ _ hz (S1 _ _ e)))) ⟨dx,pl,D,os,h5,B5 _ _ nop.symm hpl4,R4.keep noc B5⟩
theorem f5o{K:PySem.W.Frag}{a D:Addr}{xs:List V}{te:TE}{σ:L2.St}{H0 H:Hp}{Q:VK}(zs:List V)(hz:zs.length=xs.length)(n0:H0 D=none)(S:Same H0 H)(hD:H D=some (.lst []))(hS:SqL K H0 a xs)(hsz:xs.length<=sizeLine)
  (hs:∀ (i:Nat) x z H' (Q':VK),xs[i]? = some x->zs[i]? = some z->Same H0 H'->(∀ H2,Same H' H2->Q' z H2)->te (some x :: σ) H' Q') (q:∀ H',Same H0 H'->H' D=some (.lst zs)->Q (.ref D) H'):d9n (Itl K a) te D σ H Q ⟨⟩:=by
 refine c0h (fun i ys H'=>Same H0 H'/\H' D=some (.lst ys)/\ys=zs.take i) ⟨S,hD,by simp⟩ hsz (fun i ys H' hi p=>?_) (fun i x ys H' hx p=>?_) (fun ys H' p=>?_)
 ·refine⟨p.2.1,p.1.seq hS,?_⟩
  rw [p.2.2,List.length_take]
  omega
 ·have hi:i < zs.length:=by rw [hz]; exact (List.getElem?_eq_some_iff.mp hx).1
  have hzi:zs[i]? = some zs[i]:=List.getElem?_eq_getElem hi
  refine hs i x _ H' _ hx hzi p.1 fun H2 S2=>⟨S2 _ _ p.2.1,fun H3 s3 h3=>⟨(p.1.trans S2).step n0 s3,h3,?_⟩⟩
  rw [p.2.2,List.take_add_one,hzi]
  rfl
 ·refine q H' p.1 ?_
  rw [p.2.1,p.2.2,<- hz,List.take_length]
theorem g8m (T : Tx K mg A) : a2t P A.wd K mg base CX0 4 A.a5m A.a3r ["self"] (g3r A) := by
 have d4p:a2t P A.wd K mg base CX0 1 _ _ _ _:=h2f T
 have b0o:=T.b0o
 have a2l:=T.a2l
 have a1m:=T.a1m
 have a4n:=T.a4n
 have a0z:=T.a0z
 refine T.b0p.ok c7g (fun vs H Q E h=>?_) (fun cdv A' outer s H vs Q E hr h=>?_)
 ·obtain⟨_,rfl,_⟩:=d1r (by unfold g3r at h; exact h)
  rfl
 ·obtain⟨o,rfl,⟨ns,⟨dx,pl,sl,os,ho,hpl,R⟩,l8,ok,q⟩⟩:=d1r (by unfold g3r at h; exact h)
  have hu:=hr.units
  have d1h:a4w 1 _:=hr.mono (by decide)
  have hs:sizeLine=16777216:=sizeLine_eq
  have ol:=R.1
  unfold chF at ho
  refine ⟨_, (a0n (a1j (c5s (b3s (a6g (pvF 0) rfl)) (fun _ _ _ _ _ => (b1k (pvF 0) T.a4n T.b7p d4p d1h T.d3w .nil a4y)) (d9o (sc := a0o b6z) (N := ["self"]) rfl rfl (by decide +kernel)) rfl))), ?_⟩
  walk_at "rd*"
  refine⟨⟨_,SqL.of hpl⟩,fun D H2 n2 S2 h2=>?_⟩
  refine f5o ((dWs ns).map V.str) (by rw [List.length_map,List.length_map,dWs,List.length_map,ol]) n2 S2 h2 (SqL.of hpl) (by rw [List.length_map,hs]; omega) ?_ ?_
  ·intro i x z H' Q' hx hz S' q'
   rw [List.getElem?_map] at hx
   rw [dWs,List.map_map,List.getElem?_map] at hz
   obtain⟨oi,hoi,rfl⟩:=Option.map_eq_some_iff.mp hx
   obtain⟨d,hd,rfl⟩:=Option.map_eq_some_iff.mp hz
   have hp:=(R.same S').2 i _ _ hoi hd
   have okd:=ok d (List.mem_of_getElem? hd)
   have hi:=(List.getElem?_eq_some_iff.mp hoi).1
   obtain⟨dxi,hpi⟩:=id hp
   clear hpl ho h2
   walk_at "rd*"
   exact⟨d,okd,hp,q' _ (Same.refl _)⟩
  ·intro H3 S3 h3
   exact q _ _ ⟨D,rfl,n2,S3,h3⟩
theorem g3y {c : Nat} (h1 : 97 ≤ c) (h2 : c ≤ 122) : g2l "abcdefghijklmnopqrstuvwxyz" ⟨#[c]⟩ = true := by
 unfold g2l
 rw [StrLaws.found_one]
 have e : (Str.ofString "abcdefghijklmnopqrstuvwxyz").cps.toList = List.range' 97 26 := by decide +kernel
 rw [e,decide_eq_true_eq]
 exact List.mem_range'_1.mpr ⟨h1,by omega⟩
theorem f5p{x:Str}{D:Addr}{te:TE}{σ:L2.St}{H0 H:Hp}{Q:VK}(f:Nat->V)(n0:H0 D=none)(S:Same H0 H)(hD:H D=some (.lst []))(hsz:x.cps.size<=sizeLine)
  (hs:∀ (i:Nat) c H' (Q':VK),x.cps[i]? = some c->Same H0 H'->Q' (f c) H'->te (some (.str ⟨#[c]⟩) :: σ) H' Q') (q:∀ H',Same H0 H'->H' D=some (.lst (x.cps.toList.map f))->Q (.ref D) H'):d9n (Its x) te D σ H Q ⟨⟩:=by
 refine⟨x.cps.size,fun i ys H'=>Same H0 H'/\H' D=some (.lst ys)/\ys=(x.cps.toList.take i).map f,⟨S,hD,by simp⟩,fun i ys H' hi w=>?_⟩
 obtain⟨S',h',e⟩:=w
 refine⟨h',?_⟩
 by_cases hlt:i < x.cps.size
 ·refine .inr ⟨hlt,hlt,by rw [e,List.length_map,List.length_take]; omega,fun v H2 y=>?_⟩
  obtain⟨e2,c,hc,ev⟩:=y
  subst e2 ev
  refine hs i c _ _ hc S' ⟨h',fun H3 s3 h3=>⟨S'.step n0 s3,h3,?_⟩⟩
  have hc':x.cps.toList[i]? = some c:=by rw [Array.getElem?_toList]; exact hc
  rw [List.take_add_one,hc',List.map_append,e]
  rfl
 ·have e3:i=x.cps.size:=by omega
  subst e3
  refine .inl ⟨rfl,q H' S' ?_⟩
  rw [h',e,List.take_of_length_le (by rw [Array.length_toList]; exact Nat.le_refl _)]
theorem f5q (T : Tx K mg A) : a2t P A.wd K mg base CX0 1 A.b1n A.b1g ["value"] d0s := by
 refine T.b9k.ok d9y (fun vs H Q E h=>?_) (fun cdv A' outer s H vs Q E hr h=>?_)
 ·obtain⟨_,rfl,_⟩:=g1c (by unfold d0s at h; exact h)
  rfl
 ·obtain⟨x,rfl,⟨⟨l8,ne,ab⟩,q⟩⟩:=g1c (by unfold d0s at h; exact h)
  have hu:=hr.units
  have hs:sizeLine=16777216:=sizeLine_eq
  have nl:¬ (8:Int) < (x.length:Int):=by omega
  have ne' : (x = Str.ofString "") = False := eq_false ne
  have xl:x.length<=16777216:=by omega
  refine ⟨_, (a0l (a5y (pw_or (b8q (a2p (a0w (c4u .str) (by rfl) T.a0v boot_isinstance (a0g (pvF 0) (a0g (c5g (v := .ty "str") (u := .type "str") (by rfl) T.g8h rfl rfl) a0m))))) (pw_or (a0y (c1s hu) (pvF 0) a6m (a2s _)) (pw_or1 (a0y d9l (a0w a7i (by rfl) T.c7m boot_len (a0g (pvF 0) a0m)) (a4h (v := .int 8) (by rfl) T.c6v T.b3p) (a2s _))))).pt
   (a0n (a1j c1n))
   a1i)
   (a0n (a1j (a0w (f3s rfl) (by rfl) T.h1u boot_all (a0g (c5s (g0s (pvF 0)) (fun _ _ _ _ _ => (b8s d2z (pvF 0) (a4h (v := .str "abcdefghijklmnopqrstuvwxyz") (by rfl) T.f0n T.c3r) (by rfl))) (d9o (sc := a0o c5z) (N := ["value"]) rfl rfl (by decide +kernel)) rfl) a0m))))), ?_⟩
  walk_at "rd*"
  refine fun D H2 n2 S2 h2=>?_
  refine f5p (fun _=>V.bl true) n2 S2 h2 (show x.length<=sizeLine by omega) ?_ ?_
  ·intro i c H' Q' hc SS q'
   have hm:=ab c (by rw [Array.mem_toList_iff]; exact Array.mem_of_getElem? hc)
   have hh:=g3y hm.1 hm.2
   walk_at "rd*"
  ·intro H3 S3 h3
   walk_at "rd*"
   refine⟨x.cps.toList.map fun _=>true,by rw [List.map_map]; rfl,?_⟩
   rw [show (x.cps.toList.map fun _=>true).all id=true by simp]
   exact q H3 S3
theorem Eds.same{H H':Hp}{ps:List Addr}{es:List (Str×Str)}(h:Eds H ps es)(S:Same H H'):Eds H' ps es:=⟨h.1,fun i p e h1 h2=>(h.2 i p e h1 h2).elim fun lw z=>⟨lw,S _ _ z⟩⟩
theorem b0t(x:Str):∀ ts:List Str,inV (.str x) (ts.map V.str)=decide (x∈ts)
 | []=>rfl
 | t :: ts=>by
  have ih:=b0t x ts
  unfold inV at ih ⊢
  rw [List.map_cons,List.any_cons,ih]
  by_cases h:t=x
  ·subst h
   simp [eqV]
  ·have:eqV (.str t) (.str x)=false:=by simp [eqV,h]
   rw [this]
   simp
   exact fun e=>absurd e.symm h
theorem b3q(ts:List Str):(ts.map V.str).all b3r=true:=by
 rw [List.all_eq_true]
 intro v hv
 obtain⟨n,_,rfl⟩:=List.mem_map.mp hv
 rfl
theorem g1h (T : Tx K mg A) : a2t P A.wd K mg base CX0 2 A.a2m A.a1n ["self", "name"] (g3s A) := by
 have f5r:a2t P A.wd K mg base CX0 1 _ _ _ _:=f5q T
 have a0p:=T.a0p
 have a0h:=T.a0h
 have a0j:=T.a0j
 have a0i:=T.a0i
 have a0k:=T.a0k
 refine T.a5t.ok c2o (fun vs H Q E h=>?_) (fun cdv A' outer s H vs Q E hr h=>?_)
 ·obtain⟨_,_,rfl,_⟩:=d9w (by unfold g3s at h; exact h)
  rfl
 ·obtain⟨o,x,rfl,⟨t,b,sd,ts,bs,es,⟨dx,ou,ps,ho,ht,hb,hsd,hE,d1,d2,d3⟩,nm,nt,nb,q⟩⟩:=d9w (by unfold g3s at h; exact h)
  have hu:=hr.units
  have f0u:a4w 1 _:=hr.mono (by decide)
  unfold ptF at ho
  refine⟨_,(a0l (a5y (b8q (a2p (a5z f5r f0u (by rfl) T.f4r T.b9k.kp T.f4q .nil a4y (a0g (pvF 1) a0m))))
   (a0n a9g)
   a1i)
   (a0n (a5y (pw_or (a0y d2z (pvF 1) (a6g (pvF 0) rfl) (by rfl)) (pw_or1 (a0y d2z (pvF 1) (a6g (pvF 0) rfl) (by rfl)))).pt
   (a0n a9g)
   a1i))),?_⟩
  walk_at "rd"
  refine⟨nm,fun H1 S1=>?_⟩
  have ho1:=S1 _ _ ho
  have ht1:=S1 _ _ ht
  have hb1:=S1 _ _ hb
  have i1:inV (.str x) (ts.map V.str)=false:=by rw [b0t]; exact decide_eq_false nt
  have i2:inV (.str x) (bs.map V.str)=false:=by rw [b0t]; exact decide_eq_false nb
  have f1:=b3q ts
  have f2:=b3q bs
  clear ho ht hb
  walk_at "rd*"
  exact⟨rfl,rfl⟩
theorem d8r{H:Hp}{N:Addr->Prop}:∀ {es:List Sd} {us:List V},RpL H N us (es.map dSd)->∃ ps:List Addr,us=ps.map V.ref/\Eds H ps (prs es)
 | [],_,.nil=>⟨[],rfl,rfl,fun i p e h=>by simp at h⟩
 | e :: es,_,.cons h r=>by
  obtain⟨ps,rfl,hl,hE⟩:=d8r r
  obtain⟨p,vs,rfl,hp,r2⟩:=h.tuple
  obtain⟨x,y,z,rfl,h1,h2,h3⟩:=r2.three
  cases h1.strOf
  cases h2.strOf
  obtain⟨lw,ws,rfl,_⟩:=h3.list
  refine⟨p :: ps,rfl,by rw [List.length_cons,hl]; rfl,fun i q f e1 e2=>?_⟩
  cases i with
  | zero=>cases e1; cases e2; exact⟨lw,hp⟩
  | succ i=>exact hE i q f e1 e2
theorem c2t.pt{A:Ad}{H:Hp}{N:Addr->Prop}{o:Addr}{p:Pd}(h:c2t A H N o p):∃ t b sd,h2b A H o t b sd p.ts p.bs (prs p.es):=by
 obtain⟨dx,t,b,sd,ou,ho,n,d,ht,hb,⟨us,hsd,R⟩,_⟩:=h
 obtain⟨ps,rfl,hE⟩:=d8r R
 exact⟨t,b,sd,dx,ou,ps,ho,ht,hb,hsd,hE,d.1,d.2.1,d.2.2.2.1⟩
theorem c2t.over{A:Ad}{H H':Hp}{N M:Addr->Prop}{o:Addr}{p:Pd}(h:c2t A H N o p)(S:b0n M H H')(hd:∀ z,N z->H z≠none->¬ M z):c2t A H' N o p:=by
 obtain⟨dx,t,b,sd,ou,ho,F⟩:=h
 exact⟨dx,t,b,sd,ou,S _ _ (fun _ ys q=>by cases q) ho,F.over S hd⟩
theorem c2t.same{A:Ad}{H H':Hp}{N:Addr->Prop}{o:Addr}{p:Pd}(h:c2t A H N o p)(S:Same H H'):c2t A H' N o p:=h.over (M:=fun _=>False) (b0n.of S) fun _ _ _ h=>h
theorem c2t.mono{A:Ad}{H:Hp}{N M:Addr->Prop}{o:Addr}{p:Pd}(h:c2t A H N o p)(hm:∀ z,N z->H z≠none->M z):c2t A H M o p:=by
 obtain⟨dx,t,b,sd,ou,ho,F⟩:=h
 exact⟨dx,t,b,sd,ou,ho,F.mono hm⟩
theorem g8n (T : Tx K mg A) : a2t P A.wd K mg base CX0 1 A.a6t A.a5n ["self"] (h2c A) := by
 have a0p:=T.a0p
 have a0h:=T.a0h
 have a0j:=T.a0j
 have a0i:=T.a0i
 have a0k:=T.a0k
 refine T.b4h.ok c9o (fun vs H Q E h=>?_) (fun cdv A' outer s H vs Q E hr h=>?_)
 ·obtain⟨_,rfl,_⟩:=d1r (by unfold h2c at h; exact h)
  rfl
 ·obtain⟨o,rfl,⟨dx,ho,q⟩⟩:=d1r (by unfold h2c at h; exact h)
  have hu:=hr.units
  have hs:sizeLine=16777216:=sizeLine_eq
  have fr:∀ {H1:Hp} {z:Addr},a2h o H H1->H1 z=none->z≠o->H z=none:=fun B n nz=>by
   cases e:H _ with
   | none=>rfl
   | some u=>rw [B _ _ nz e] at n; cases n
  have ap:∀ {H1:Hp} {z y:Addr} {u:HO},H1 z=none->H1 y=some u->z≠y:=fun n e q=>by rw [q,e] at n; cases n
  refine⟨_,(a0l (c0u (pvF 0) (a2o a0m) rfl)
   (a0l (c0u (pvF 0) (a2o a0m) rfl)
   (a0l (c0u (pvF 0) (a2o a0m) rfl)
   (a0n (c0u (pvF 0) (a2o a0m) rfl))))),?_⟩
  walk_at "rd"
  refine⟨by omega,fun t H1 n1 S1 h1=>?_⟩
  have ho1:=S1 _ _ ho
  have ot:=ap n1 ho
  walk_at "rd*"
  intro H2 B2 h2
  have h12:=B2 _ _ ot h1
  have B02:a2h o H H2:=fun z u hz e=>B2 _ _ hz (S1 _ _ e)
  clear h1 ho1
  walk_at "rd*"
  refine fun b H3 n3 S3 h3=>?_
  have ho3:=S3 _ _ h2
  have ob:=ap n3 h2
  have tb:=ap n3 h12
  have nb:=fr B02 n3 ob
  clear h2
  walk_at "rd*"
  intro H4 B4 h4
  have h14:=B4 _ _ ot (S3 _ _ h12)
  have h34:=B4 _ _ ob h3
  have B04:a2h o H H4:=fun z u hz e=>B4 _ _ hz (S3 _ _ (B02 _ _ hz e))
  clear h12 h3 ho3
  walk_at "rd*"
  refine fun sd H5 n5 S5 h5=>?_
  have ho5:=S5 _ _ h4
  have os:=ap n5 h4
  have ts:=ap n5 h14
  have bs:=ap n5 h34
  have ns:=fr B04 n5 os
  clear h4
  walk_at "rd*"
  intro H6 B6 h6
  have h16:=B6 _ _ ot (S5 _ _ h14)
  have h36:=B6 _ _ ob (S5 _ _ h34)
  have h56:=B6 _ _ os h5
  have B06:a2h o H H6:=fun z u hz e=>B6 _ _ hz (S5 _ _ (B04 _ _ hz e))
  clear h14 h34 h5 ho5
  walk_at "rd*"
  refine fun ou H7 n7 S7 h7=>?_
  have ho7:=S7 _ _ h6
  have oo:=ap n7 h6
  have to:=ap n7 h16
  have bo:=ap n7 h36
  have so:=ap n7 h56
  have nu:=fr B06 n7 oo
  clear h6
  walk_at "rd*"
  intro H8 B8 h8
  exact q H8 (fun z u hz e=>B8 _ _ hz (S7 _ _ (B06 _ _ hz e))) ⟨dx,t,b,sd,ou,h8,⟨n1,nb,ns,nu⟩,⟨tb.symm,ts.symm,to.symm,bs.symm,bo.symm,so.symm⟩,B8 _ _ ot (S7 _ _ h16),B8 _ _ ob (S7 _ _ h36),⟨[],B8 _ _ os (S7 _ _ h56),.nil⟩,[],B8 _ _ oo h7,.nil⟩
theorem g8o (T : Tx K mg A) : a2t P A.wd K mg base CX0 3 A.a5o A.a3s ["self", "name"] (g3t A) := by
 have a8z:a2t P A.wd K mg base CX0 2 _ _ _ _:=g1h T
 have a0p:=T.a0p
 have a0h:=T.a0h
 have a0j:=T.a0j
 have a0i:=T.a0i
 have a0k:=T.a0k
 refine T.b0q.ok c7h (fun vs H Q E h=>?_) (fun cdv A' outer s H vs Q E hr h=>?_)
 ·obtain⟨_,_,rfl,_⟩:=d9w (by unfold g3t at h; exact h)
  rfl
 ·obtain⟨o,x,rfl,⟨N,p,hP,nm,nt,nb,l1,q⟩⟩:=d9w (by unfold g3t at h; exact h)
  obtain⟨t',b',sd',hT⟩:=hP.pt
  obtain⟨dx,t,b,sd,ou,ho,F⟩:=id hP
  have ht:=F.ht
  have hb:=F.hb
  have hu:=hr.units
  have hs:sizeLine=16777216:=sizeLine_eq
  have a8n:a4w 2 _:=hr.mono (by decide)
  unfold ptF at ho
  refine⟨_,(a0l (a4i (b3u (pvF 0) T.a0p T.a4o a8z a8n T.b6u .nil a4y (a0g (pvF 1) a0m)))
   (a0n (a4i (b8w a9i PySem.F.plainAttrs_list PySem.F.slot_list_append PySem.F.type_list_append a4z (a6g (pvF 0) rfl) (a0g (pvF 1) a0m))))),?_⟩
  walk_at "rd*"
  refine⟨t',b',sd',_,_,_,hT,nt,nb,fun H1 S1=>?_⟩
  have ho1:=S1 _ _ ho
  have ht1:=S1 _ _ ht
  clear ho ht
  walk_at "rd*"
  refine⟨by omega,?_⟩
  rintro _ H2 ⟨rfl,B2,h2⟩
  try walk_at "rd"
  exact q H2 ((b0n.of S1).trans (b0n.one ht1 F.n.1 B2)) ⟨dx,t,b,sd,ou,B2 _ _ (fun e=>by rw [e,ht1] at ho1; cases ho1) ho1,(F.same S1).addT h2 B2⟩
theorem g1i (T : Tx K mg A) : a2t P A.wd K mg base CX0 3 A.a8v A.a6u ["self", "name"] (g3u A) := by
 have a8z:a2t P A.wd K mg base CX0 2 _ _ _ _:=g1h T
 have a0p:=T.a0p
 have a0h:=T.a0h
 have a0j:=T.a0j
 have a0i:=T.a0i
 have a0k:=T.a0k
 refine T.b7r.ok d3q (fun vs H Q E h=>?_) (fun cdv A' outer s H vs Q E hr h=>?_)
 ·obtain⟨_,_,rfl,_⟩:=d9w (by unfold g3u at h; exact h)
  rfl
 ·obtain⟨o,x,rfl,⟨N,p,hP,nm,nt,nb,l1,q⟩⟩:=d9w (by unfold g3u at h; exact h)
  obtain⟨t',b',sd',hT⟩:=hP.pt
  obtain⟨dx,t,b,sd,ou,ho,F⟩:=id hP
  have ht:=F.ht
  have hb:=F.hb
  have hu:=hr.units
  have hs:sizeLine=16777216:=sizeLine_eq
  have a8n:a4w 2 _:=hr.mono (by decide)
  unfold ptF at ho
  refine⟨_,(a0l (a4i (b3u (pvF 0) T.a0p T.a4o a8z a8n T.b6u .nil a4y (a0g (pvF 1) a0m)))
   (a0n (a4i (b8w a9i PySem.F.plainAttrs_list PySem.F.slot_list_append PySem.F.type_list_append a4z (a6g (pvF 0) rfl) (a0g (pvF 1) a0m))))),?_⟩
  walk_at "rd*"
  refine⟨t',b',sd',_,_,_,hT,nt,nb,fun H1 S1=>?_⟩
  have ho1:=S1 _ _ ho
  have hb1:=S1 _ _ hb
  clear ho hb
  walk_at "rd*"
  refine⟨by omega,?_⟩
  rintro _ H2 ⟨rfl,B2,h2⟩
  try walk_at "rd"
  exact q H2 ((b0n.of S1).trans (b0n.one hb1 F.n.2.1 B2)) ⟨dx,t,b,sd,ou,B2 _ _ (fun e=>by rw [e,hb1] at ho1; cases ho1) ho1,(F.same S1).addB h2 B2⟩
theorem Rch.refl(es:List (Str×Str))(x:Str):Rch es x x:=fun _ h _=>h
theorem Rch.step{es:List (Str×Str)}{x u v:Str}(h:Rch es x u)(he:(u,v)∈es):Rch es x v:=fun S hx hc=>hc u v (h S hx hc) he
theorem filter_lt{α:Type}{p q:α->Bool}:∀ {l:List α} {a:α},(∀ x,q x=true->p x=true)->a∈l->p a=true->q a=false->(l.filter q).length < (l.filter p).length
 | [],_,_,h,_,_=>by cases h
 | x :: l,a,hpq,h,ha,hqa=>by
  have le:∀ l:List α,(l.filter q).length<=(l.filter p).length:=fun l=>by
   induction l with
   | nil=>exact Nat.le_refl _
   | cons y l ih =>
    rw [List.filter_cons,List.filter_cons]
    cases hq:q y with
    | true=>rw [if_pos rfl,if_pos (hpq y hq),List.length_cons,List.length_cons]; omega
    | false =>
     rw [if_neg Bool.false_ne_true]
     split
     ·rw [List.length_cons]; omega
     ·exact ih
  rw [List.filter_cons,List.filter_cons]
  rcases List.mem_cons.mp h with e | h
  ·subst e
   rw [if_neg (by rw [hqa]; exact Bool.false_ne_true),if_pos ha,List.length_cons]
   have:=le l
   omega
  ·have ih:=filter_lt hpq h ha hqa
   cases hq:q x with
   | true=>rw [if_pos rfl,if_pos (hpq x hq),List.length_cons,List.length_cons]; omega
   | false =>
    rw [if_neg Bool.false_ne_true]
    split
    ·rw [List.length_cons]; omega
    ·exact ih
theorem g1j{es:List (Str×Str)}{ks:List Str}{e:Str×Str}(he:e∈es)(hn:e.2∉ks):cnt es (ks++[e.2]) < cnt es ks:=by
 refine filter_lt (fun x hx=>?_) he (by simpa using hn) (by simp)
 simp at hx ⊢
 exact hx.1
theorem Path.snoc{es:List (Str×Str)}{u v:Str}:∀ {r:List Str},Path es (r++[u])->(u,v)∈es->Path es (r++[u]++[v])
 | [],_,h=>⟨h,True.intro⟩
 | [x],h,e=>⟨h.1,e,True.intro⟩
 | x :: y :: r,h,e=>⟨h.1,Path.snoc (r:=y :: r) h.2 e⟩
theorem c0l.one(es:List (Str×Str))(x:Str):c0l es x x [x]:=⟨rfl,⟨[],rfl⟩,List.nodup_cons.mpr ⟨by simp,List.nodup_nil⟩,True.intro⟩
theorem c0l.snoc{es:List (Str×Str)}{x u v:Str}{r:List Str}(h:c0l es x u r)(he:(u,v)∈es)(hn:v∉r):c0l es x v (r++[v]):=by
 obtain⟨r',e⟩:=h.last
 refine⟨?_,⟨r,rfl⟩,?_,?_⟩
 ·have hl:0 < r.length:=by rw [e,List.length_append]; exact Nat.succ_pos _
  rw [List.getElem?_append_left hl]
  exact h.head
 ·rw [List.nodup_append]
  refine⟨h.nd,List.nodup_cons.mpr ⟨by simp,List.nodup_nil⟩,fun a ha b hb q=>hn ?_⟩
  rw [List.mem_singleton] at hb
  rw [<- hb,<- q]
  exact ha
 ·have p:=h.path
  rw [e] at p ⊢
  exact p.snoc he
theorem Path.mem{es:List (Str×Str)}{z:Str}:∀ {r:List Str} {a:Str},Path es (a :: r)->z∈r->∃ u,(u,z)∈es
 | b :: r,a,h,hz=>by
  rcases List.mem_cons.mp hz with e | e
  ·exact⟨a,by rw [e]; exact h.1⟩
  ·exact Path.mem h.2 e
theorem c0l.mem{es:List (Str×Str)}{x y z:Str}{r:List Str}(h:c0l es x y r)(hz:z∈r):z=x\/∃ u,(u,z)∈es:=by
 obtain⟨hh,_,_,p⟩:=h
 cases r with
 | nil=>cases hh
 | cons a r =>
  cases hh
  rcases List.mem_cons.mp hz with e | e
  ·exact .inl e
  ·exact .inr (p.mem e)
theorem c0l.rch{es:List (Str×Str)}{x y:Str}{r:List Str}(h:c0l es x y r):Rch es x y:=by
 have aux:∀ (r:List Str) (z:Str),Path es (z :: r)->∀ u,(z :: r).getLast? = some u->Rch es z u:=by
  intro r
  induction r with
  | nil =>
   intro z _ u hu
   cases hu
   exact Rch.refl _ _
  | cons a r ih =>
   intro z p u hu S hz hc
   rw [List.getLast?_cons_cons] at hu
   exact ih a p.2 u hu S (hc z a hz p.1) hc
 obtain⟨hh,⟨r',e⟩,_,p⟩:=h
 cases r with
 | nil=>cases hh
 | cons z r =>
  cases hh
  exact aux r _ p y (by rw [e,List.getLast?_append]; rfl)
theorem c6w:∀ {kvs:List (Key×V)} {k:Key},k∉kvs.map (·.1)->c4s kvs k=none
 | [],_,_=>rfl
 | p :: r,k,h=>by
  rw [List.map_cons,List.mem_cons,not_or] at h
  rw [c1q (fun e=>h.1 e.symm)]
  exact c6w h.2
theorem c2u:∀ {kvs:List (Key×V)} {k:Key},k∈kvs.map (·.1)->∃ v,c4s kvs k=some v/\(k,v)∈kvs
 | [],_,h=>by cases h
 | p :: r,k,h=>by
  by_cases e:p.1=k
  ·exact⟨p.2,c4t e,by rw [<- e]; exact List.mem_cons_self⟩
  ·rw [List.map_cons,List.mem_cons] at h
   obtain⟨v,h1,h2⟩:=c2u (h.resolve_left fun z=>e z.symm)
   exact⟨v,by rw [c1q e]; exact h1,List.mem_cons_of_mem _ h2⟩
theorem d4q{x:Str}{ks:List Str}:kT x∈ks.map kT ↔ x∈ks:=by
 constructor
 ·intro h
  obtain⟨y,hy,e⟩:=List.mem_map.mp h
  injection e with e
  rw [<- e]
  exact hy
 ·exact fun h=>List.mem_map_of_mem h
theorem f0z.same{es:List (Str×Str)}{x:Str}{H0 H H':Hp}{L:Addr}{kvs:List (Key×V)}{ks:List Str}(h:f0z es x H0 H L kvs ks)(S:Same H H'):f0z es x H0 H' L kvs ks :=
 ⟨h.1,fun kv hkv=>by obtain⟨l,ss,z,e0,e1,e2,e3,e4,e5⟩:=h.2 kv hkv; exact⟨l,ss,z,e0,e1,e2,e3,S _ _ e4,e5⟩⟩
theorem f0z.g8p{es:List (Str×Str)}{x:Str}{H0 H H':Hp}{L:Addr}{kvs:List (Key×V)}{ks:List Str}(h:f0z es x H0 H L kvs ks)(B:a2h L H H'):f0z es x H0 H' L kvs ks :=
 ⟨h.1,fun kv hkv=>by obtain⟨l,ss,z,e0,e1,e2,e3,e4,e5⟩:=h.2 kv hkv; exact⟨l,ss,z,e0,e1,e2,e3,B _ _ e2 e4,e5⟩⟩
theorem f0z.put{es:List (Str×Str)}{x:Str}{H0 H H':Hp}{L W l:Addr}{kvs kvs':List (Key×V)}{ks:List Str}{z:Str}{ss:List Str}(h:f0z es x H0 H L kvs ks)(hW:H W=some (.dK kvs'))(hz:z∉ks)(hl:H l=some (.lst (ss.map V.str)))(nl:l≠L)(fl:H0 l=none)(sl:ss.length<=kvs.length+1)(hw:c0l es x z ss)(hk:∀ u∈ss,u∈ks\/u=z)(B:a2h W H H'):f0z es x H0 H' L (putK kvs (kT z) (.ref l)) (ks++[z])/\(putK kvs (kT z) (.ref l)).length=kvs.length+1:=by
 have hn:c4s kvs (kT z)=none:=c6w (by rw [h.1,d4q]; exact hz)
 have ne:∀ {p:Addr} {ys:List V},H p=some (.lst ys)->p≠W:=fun e q=>by rw [q,hW] at e; cases e
 rw [f6y _ hn]
 refine⟨⟨by rw [List.map_append,List.map_append,h.1]; rfl,fun kv hkv=>?_⟩,by rw [List.length_append]; rfl⟩
 rw [List.length_append,List.length_singleton]
 rcases List.mem_append.mp hkv with h1 | h1
 ·obtain⟨l',ss',z',e0,e1,e2,e3,e4,e5,e6,e7⟩:=h.2 kv h1
  exact⟨l',ss',z',e0,e1,e2,e3,B _ _ (ne e4) e4,by omega,e6,fun u hu=>List.mem_append_left _ (e7 u hu)⟩
 ·obtain rfl:=List.mem_singleton.mp h1
  exact⟨l,ss,z,rfl,rfl,nl,fl,B _ _ (ne hl) hl,sl,hw,fun u hu=>(hk u hu).elim (List.mem_append_left _) fun q=>List.mem_append_right _ (by rw [q]; exact List.mem_cons_self)⟩
theorem Done.none{es:List (Str×Str)}{x y:Str}{ks:List Str}(h:Done es y ks [] fun _=>False)(hx:x∈ks):¬ Rch es x y:=fun hr=>by
 have hy:y∈ks:=hr (· ∈ ks) hx fun u v hu hv=>by
  rcases h u hu with z | z | z
  ·cases z
  ·exact z.elim
  ·exact z.2 v hv
 rcases h y hy with z | z | z
 ·cases z
 ·exact z.elim
 ·exact z.1 rfl
theorem g8q (T : Tx K mg A) : a2t P A.wd K mg base CX0 1 A.a8w A.a6w ["self", "start", "end"] (g3v A) := by
 have a0p:=T.a0p
 have a0h:=T.a0h
 have a0j:=T.a0j
 have a0i:=T.a0i
 have a0k:=T.a0k
 refine T.b7s.ok a9n (fun vs H Q E h=>?_) (fun cdv A' outer s H vs Q E hr h=>?_)
 ·obtain⟨_,_,_,rfl,_⟩:=d8p (by unfold g3v at h; exact h)
  rfl
 ·obtain⟨o,x,y,rfl,⟨t,b,sd,ts,bs,es,hP,e100,okx,oke,q0,q⟩⟩:=d8p (by unfold g3v at h; exact h)
  have hu:=hr.units
  have hs:sizeLine=16777216:=sizeLine_eq
  obtain⟨dx,ou,ps,ho,ht,hb,hsd,hE,d1,d2,d3⟩:=id hP
  unfold ptF at ho
  have el:=hE.1
  refine⟨_,(a0l (a2i (i:=3) a9n.nd rfl (Or.inl rfl) (f8p (pvF 1) (a2o (a0g (pvF 1) a0m))))
   (a0l (a2i (i:=4) a9n.nd rfl (Or.inl rfl) (a2o (a0g (pvF 1) a0m)))
   (a0l (d2q PassesOwn.never (a0y (c1t hu) (pvF 4) (a2o a0m) (a2s _))
   (a0l (a2i (i:=5) a9n.nd rfl (Or.inl rfl) (g2r a9i PySem.F.plainAttrs_list PySem.F.slot_list_pop PySem.F.type_list_pop g2u (pvF 4)))
   (a0l (a5y (a0y (c1s hu) (pvF 5) (pvF 2) (a2s _))
   (a0n (a1j (d8l (hu1 hu) (pvF 3) (pvF 5) (fun _ _=>rfl))))
   a1i)
   (a0n (b1h PassesOwn.never rfl (b3s (a6g (pvF 0) rfl)) (a4p (i:=6) a9n.nd rfl (Or.inl rfl))
   (a0n (a5y (pw_and (a0y (c1s hu) (a5v c1l (pvF 6) a0r (fun _ _=>rfl)) (pvF 5) (a2s _)) (pw_and1 (g2x (d9r (hu1 hu) (a5v c1l (pvF 6) a0r (fun _ _=>rfl)) (pvF 3)) (by rfl)))).pt
   (a0l (f8o (hu1 hu) (pvF 3) (a5v c1l (pvF 6) a0r (fun _ _=>rfl)) (a4q b1i (d8l (hu1 hu) (pvF 3) (pvF 5) (fun _ _=>rfl)) (a2o (a0g (a5v c1l (pvF 6) a0r (fun _ _=>rfl)) a0m))) rfl)
   (a0n (a4i (b8w a9i PySem.F.plainAttrs_list PySem.F.slot_list_append PySem.F.type_list_append a4z (pvF 4) (a0g (a5v c1l (pvF 6) a0r (fun _ _=>rfl)) a0m)))))
   a1i)))))))
   (a0n (a1j (a2o a0m)))))),?_⟩
  walk_at "rd"
  refine fun W H1 n1 S1 h1=>⟨by omega,fun l1 H2 n2 S2 h2=>⟨x,rfl,S2 _ _ h1,fun H3 B3 h3=>?_⟩⟩
  have nlW:l1≠W:=fun e=>by rw [e,h1] at n2; cases n2
  have h23:=B3 _ _ nlW h2
  have S03:Same H H3:=fun z u e=>B3 _ _ (fun q=>by rw [q,n1] at e; cases e) (S2 _ _ (S1 _ _ e))
  clear h1 h2
  walk_at "rd"
  refine⟨by omega,fun L H4 n4 S4 h4=>?_⟩
  have nWL:W≠L:=fun e=>by rw [<- e,h3] at n4; cases n4
  have nL:H L=none:=S03.free n4
  have h34:=S4 _ _ h3
  have h24:=S4 _ _ h23
  have h23':=h23
  clear h3 h23
  obtain⟨Pv,pin,pout⟩:=c4p (fun m σ H'=>∃ (kvs:List (Key×V)) (ks ws:List Str) (v5 v6:Option V),σ = [some (.ref o),some (.str x),some (.str y),some (.ref W),some (.ref L),v5,v6]/\Same H H'/\H' W=some (.dK kvs)/\H' L=some (.lst (ws.map V.str))/\f0z es x H H' L kvs ks/\x∈ks/\Done es y ks ws (fun _=>False)/\(∀ z∈ws,z∈ks)/\(∀ z∈ks,Rch es x z/\PyData.strOk z=true)/\kvs.length+cnt es ks<=es.length+1/\2*cnt es ks+ws.length<=2*es.length+1/\m=2*cnt es ks+ws.length)
  have nlL:l1≠L:=fun e=>by rw [<- e,h23'] at n4; cases n4
  have w0:f0z es x H H4 L [(kT x,.ref l1)] [x]:=⟨rfl,fun kv hkv=>by
   obtain rfl:=List.mem_singleton.mp hkv
   exact⟨l1,[x],x,rfl,rfl,nlL,S1.free n2,h24,Nat.le_refl _,c0l.one es x,fun u hu=>hu⟩⟩
  have c0:cnt es [x] <= es.length:=List.length_filter_le _ _
  refine d2r Pv _ (pin _ _ _ ⟨_,[x],[x],_,_,rfl,S03.trans S4,h34,h4,w0,List.mem_cons_self,(fun z hz=>.inl hz),fun z hz=>hz,fun z hz=>by obtain rfl:=List.mem_singleton.mp hz; exact⟨Rch.refl _ _,okx⟩,by rw [List.length_singleton]; omega,by rw [List.length_singleton]; omega,rfl⟩) ?_
  intro m σ H5 hp
  obtain⟨kvs,ks,ws,v5,v6,rfl,S5,hW,hL,wy,xk,dn,wk,kr,kc,mb,em⟩:=pout _ _ _ hp
  clear hp h4 h34 h24 w0
  walk_at "rd"
  refine⟨by omega,fun l6 H6 n6 S6 h6=>?_⟩
  have hW6:=S6 _ _ hW
  have hL6:=S6 _ _ hL
  walk_at "rd"
  refine c9h (ns:=ws) (ms:=[]) (SqL.of hL6) (SqL.of h6) (fun z hz=>(kr z (wk z hz)).2) (fun z hz=>by cases hz) ?_
  cases ws with
  | nil =>
   rw [show (!decide (([] : List Str) = []))=false from rfl]
   walk_at "rd"
   refine⟨by omega,fun l7 H7 n7 S7 h7=>q0 (dn.none xk) _ _ ⟨l7,rfl,(S5.trans S6).free n7,S5.trans (S6.trans S7),h7⟩⟩
  | cons w0 wr =>
   obtain⟨ws,ews⟩:∃ ws,w0 :: wr=ws:=⟨_,rfl⟩
   have wne:ws≠[]:=by rw [<- ews]; exact fun e=>by cases e
   have wl:0 < ws.length:=by rw [<- ews]; exact Nat.succ_pos _
   rw [ews] at hL6 wk em mb dn ⊢
   rw [decide_eq_false wne]
   clear hW hL h6
   walk_at "rd*"
   rintro v H7 ⟨hv,B7,h7⟩
   rw [List.length_map,List.getElem?_map,List.getElem?_eq_getElem (by omega)] at hv
   cases hv
   obtain ⟨sc, esc⟩ : ∃ z, ws[ws.length - 1]'(by omega) = z := ⟨_, rfl⟩
   have scw:sc∈ws:=by rw [<- esc]; exact List.getElem_mem _
   have sck:=wk sc scw
   rw [esc]
   rw [<- List.map_dropLast] at h7
   have hW7:=B7 _ _ nWL hW6
   have S7':Same H H7:=(S5.trans S6).step nL B7
   have ho7:=S7' _ _ ho
   have g3z:=S7' _ _ hsd
   have wy7:=(wy.same S6).g8p B7
   have dl:ws.dropLast.length=ws.length - 1:=List.length_dropLast
   clear hW6 hL6
   have wsub:∀ z∈ws,z=sc\/z∈ws.dropLast:=fun z hz=>by
    have e:=List.dropLast_concat_getLast wne
    rw [<- e] at hz
    rcases List.mem_append.mp hz with h | h
    ·exact .inr h
    ·rw [List.mem_singleton,List.getLast_eq_getElem] at h
     exact .inl (by rw [h,<- esc])
   have dn7:Done es y ks ws.dropLast (· = sc):=fun z hz=>(dn z hz).elim (fun h=>(wsub z h).elim (fun e=>.inr (.inl e)) .inl) fun h=>.inr (.inr (h.elim False.elim id))
   by_cases ny:sc=y
   ·subst ny
    obtain⟨v,hv1,hv2⟩:=c2u (kvs:=kvs) (k:=kT sc) (by rw [wy7.1,d4q]; exact sck)
    obtain⟨lv,ss,z,e0,ev,nlv,flv,hlv,sl,iw,_⟩:=wy7.2 _ hv2
    replace ev:v = .ref lv:=ev
    replace e0:kT sc=kT z:=e0
    injection e0 with e0
    subst e0 ev
    walk_at "rd*"
    exact q ss iw (by omega) _ _ ⟨lv,rfl,flv,S7',hlv⟩
   have ny':(sc=y)=False:=eq_false ny
   walk_at "rd*"
   refine⟨⟨_,SqL.of g3z⟩,?_⟩
   obtain⟨Pw,win,wout⟩:=c4p (fun i σ H'=>∃ (kv2:List (Key×V)) (k2 w2:List Str) (v6:Option V),σ = [some (.ref o),some (.str x),some (.str y),some (.ref W),some (.ref L),some (.str sc),v6]/\Same H H'/\H' W=some (.dK kv2)/\H' L=some (.lst (w2.map V.str))/\f0z es x H H' L kv2 k2/\x∈k2/\Done es y k2 w2 (· = sc)/\(∀ (j:Nat) v,j < i->es[j]? = some (sc,v)->v∈k2)/\sc∈k2/\(∀ z∈w2,z∈k2)/\(∀ z∈k2,Rch es x z/\PyData.strOk z=true)/\kv2.length+cnt es k2<=es.length+1/\2*cnt es k2+w2.length+1<=2*cnt es ks+ws.length)
   refine c5q (xs:=ps.map V.ref) Pw (win _ _ _ ⟨kvs,ks,ws.dropLast,_,rfl,S7',hW7,h7,wy7,xk,dn7,(fun j v hj=>absurd hj (Nat.not_lt_zero _)),sck,fun z hz=>wk z (List.dropLast_subset _ hz),kr,kc,by omega⟩) ?_ ?_ ?_
   ·intro i σ H8 hi hp
    obtain⟨kv2,k2,w2,v6',rfl,S8,_⟩:=wout _ _ _ hp
    exact SqL.of (S8 _ _ hsd)
   ·intro i v σ H8 hv hp
    rw [List.getElem?_map] at hv
    obtain⟨p,hpi,rfl⟩:=Option.map_eq_some_iff.mp hv
    obtain⟨kv2,k2,w2,v6',rfl,S8,hW8,hL8,wy8,xk8,dn8,cl8,sk8,wk8,kr8,kc8,em8⟩:=wout _ _ _ hp
    have hi:=(List.getElem?_eq_some_iff.mp hpi).1
    have hei : es[i]? = some (es[i]'(by omega)) := List.getElem?_eq_getElem _
    obtain⟨lw,hpe⟩:=hE.2 i p _ hpi hei
    have me:=List.mem_of_getElem? hei
    generalize es[i]'(by omega) = e at hei hpe me
    have hp8:=S8 _ _ hpe
    have iv:=c6w (kvs:=kv2) (k:=kT e.2)
    clear hv hp ho7 g3z hW7 h7
    walk_at "rd*"
    split
    ·rename_i hc
     obtain⟨v,hv1,hv2⟩:=c2u (kvs:=kv2) (k:=kT sc) (by rw [wy8.1,d4q]; exact sk8)
     obtain⟨lv,ss,z,e0,ev,nlv,flv,hlv,sl,iw,ik⟩:=wy8.2 _ hv2
     replace ev:v = .ref lv:=ev
     replace e0:kT sc=kT z:=e0
     injection e0 with e0
     subst e0 ev
     have hn:e.2∉k2:=fun hm=>by
      obtain⟨u,hu1,_⟩:=c2u (kvs:=kv2) (k:=kT e.2) (by rw [wy8.1,d4q]; exact hm)
      rw [hu1] at hc
      exact absurd hc.2 (by simp)
     refine⟨_,hv1,fun l9 H9 n9 S9 h9=>?_⟩
     have hlv9:=S9 _ _ hlv
     walk_at "rd*"
     refine⟨by omega,fun l10 H10 n10 S10 h10=>?_⟩
     have g8r:=S9.trans S10
     have h3u:=g8r _ _ hW8
     have g9g:=g8r _ _ hp8
     have hL10:=g8r _ _ hL8
     have n10L:l10≠L:=fun q=>by rw [q,S9 _ _ hL8] at n10; cases n10
     clear hW8 hp8 h9 hlv9
     walk_at "rd*"
     refine⟨by omega,fun H11 B11 h11=>?_⟩
     have hL11:=B11 _ _ nWL.symm hL10
     have hp11:=B11 _ _ (fun q=>by rw [q,h3u] at g9g; cases g9g) g9g
     have h3v:=(wy8.same g8r).put (z:=e.2) h3u hn (ss:=ss++[e.2]) (by rw [h10,List.map_append]; rfl) n10L ((S8.trans S9).free n10) (by rw [List.length_append,List.length_singleton]; omega) (iw.snoc (by rw [<- hc.1]; exact me) fun h=>hn (ik _ h)) (fun u hu=>(List.mem_append.mp hu).elim (fun h=>.inl (ik u h)) fun h=>.inr (List.mem_singleton.mp h)) B11
     have nHW:H W=none:=n1
     clear g9g
     walk_at "rd*"
     refine⟨by omega,?_⟩
     rintro _ H12 ⟨rfl,B12,h12⟩
     have cl:=g1j me hn
     refine win _ _ _ ⟨_,k2++[e.2],w2++[e.2],_,rfl,((S8.trans g8r).step nHW B11).step nL B12,B12 _ _ nWL h11,by rw [h12,List.map_append]; rfl,h3v.1.g8p B12,List.mem_append_left _ xk8,fun z hz=>?_,fun j v hj hv=>?_,List.mem_append_left _ sk8,fun z hz=>?_,fun z hz=>?_,by rw [h3v.2]; omega,by rw [List.length_append,List.length_singleton]; omega⟩
     ·rcases List.mem_append.mp hz with h | h
      ·exact (dn8 z h).elim (fun h=>.inl (List.mem_append_left _ h)) fun h=>.inr (h.elim .inl fun h=>.inr ⟨h.1,fun v hv=>List.mem_append_left _ (h.2 v hv)⟩)
      ·exact .inl (List.mem_append_right _ h)
     ·rcases Nat.lt_or_ge j i with z | z
      ·exact List.mem_append_left _ (cl8 j v z hv)
      ·obtain rfl:j=i:=by omega
       rw [hei] at hv
       injection hv with hv
       exact List.mem_append_right _ (by rw [hv]; exact List.mem_cons_self)
     ·rcases List.mem_append.mp hz with h | h
      ·exact List.mem_append_left _ (wk8 z h)
      ·exact List.mem_append_right _ h
     ·rcases List.mem_append.mp hz with h | h
      ·exact kr8 z h
      ·obtain rfl:=List.mem_singleton.mp h
       exact⟨(kr8 sc sk8).1.step (by rw [<- hc.1]; exact me),oke _ me⟩
    ·rename_i hc
     refine win _ _ _ ⟨kv2,k2,w2,_,rfl,S8,hW8,hL8,wy8,xk8,dn8,fun j v hj hv=>?_,sk8,wk8,kr8,kc8,em8⟩
     rcases Nat.lt_or_ge j i with z | z
     ·exact cl8 j v z hv
     ·obtain rfl:j=i:=by omega
      rw [hei] at hv
      injection hv with hv
      subst hv
      exact Classical.not_not.mp fun hn=>hc ⟨rfl,by rw [iv (by rw [wy8.1,d4q]; exact hn)]; rfl⟩
   ·intro σ H8 hp
    obtain⟨kv2,k2,w2,v6',rfl,S8,hW8,hL8,wy8,xk8,dn8,cl8,sk8,wk8,kr8,kc8,em8⟩:=wout _ _ _ hp
    rw [List.length_map,el] at cl8
    refine⟨2*cnt es k2+w2.length,by omega,pin _ _ _ ⟨kv2,k2,w2,_,_,rfl,S8,hW8,hL8,wy8,xk8,fun z hz=>?_,wk8,kr8,kc8,by omega,rfl⟩⟩
    rcases dn8 z hz with h | h | h
    ·exact .inl h
    ·subst h
     refine .inr (.inr ⟨ny,fun v hv=>?_⟩)
     obtain⟨j,hj,e⟩:=List.getElem_of_mem hv
     exact cl8 j v (by omega) (by rw [List.getElem?_eq_getElem hj,e])
    ·exact .inr (.inr h)
theorem f0v{H:Hp}{d e:Addr}{u v:HO}(hd:H d=none)(nd:d≠e):a2h e H (upd (upd H d u) e v)/\upd (upd H d u) e v e=some v/\upd (upd H d u) e v d=some u :=
 ⟨fun b o hb hq=>by rw [a1l hb,a1l (fun z=>by rw [z,hd] at hq; cases hq)]; exact hq,a1k,by rw [a1l nd,a1k]⟩
theorem g4a (T : Tx K mg A) : a2t P A.wd K mg base CX0 1 A.a6i A.a6o ["self", "ring"] (f5i A) := by
 refine T.b7q.ok d3p (fun vs H Q E h=>?_) (fun cdv A' outer s H vs Q E hr h=>?_)
 ·obtain⟨_,_,rfl,_⟩:=f8u (by unfold f5i at h; exact h)
  rfl
 ·obtain⟨e,l,rfl,⟨xs,he,hl,l2,q⟩⟩:=f8u (by unfold f5i at h; exact h)
  have hu:=hr.units
  have hs:sizeLine=16777216:=sizeLine_eq
  refine⟨_,(a0l (a4i (d9t T.c1h (by rfl) T.c6s (a0g (pvF 0) (a0g a6m a0m))))
   (a0n (g3c (pvF 0) (a7h b0w (by rfl) T.c4o boot_list (a0g (pvF 1) a0m)) rfl))),?_⟩
  walk_at "rd"
  refine⟨e,_,_,_,⟨rfl,rfl⟩,he,T.b7o.ok,by show 1<=sizeLine; omega,?_⟩
  walk_at "rd*"
  refine fun l2 H1 n1 S1 h1=>?_
  have he1:=S1 _ _ he
  clear he hl
  walk_at "rd"
  refine⟨_,he1,_,T.b7o.ok,T.b7o.at,T.b4j.so,fun d nd de=>?_⟩
  obtain ⟨B, h2, h3⟩ := f0v (H := H1) (u := .xd [(Str.ofString "ring", .ref l2)]) (v := d8m e (.ref A.a0q) d) nd de
  generalize upd (upd H1 d (.xd [(Str.ofString "ring", .ref l2)])) e (d8m e (.ref A.a0q) d) = H2 at B h2 h3 ⊢
  exact q d l2 H2 (S1.free nd) n1 (fun b o hb hq=>B _ _ hb (S1 _ _ hq)) h2 h3 (B _ _ (fun z=>by rw [z,he1] at h1; cases h1) h1)
theorem d7l (T : Tx K mg A) : a2t P A.wd K mg base (CXE P A.wd) 12 A.a6v A.a5p ["self", "source", "bus", "words"] (f5j A) := by
 have d4r:a2t P A.wd K mg base CX0 10 _ _ _ _:=f9o T
 have d1i:a2t P A.wd K mg base CX0 4 _ _ _ _:=g8m T
 have d7m:a2t P A.wd K mg base CX0 1 _ _ _ _:=g8q T
 have d7n:a2t P A.wd K mg base CX0 1 _ _ _ _:=g4a T
 have a0p:=T.a0p
 have a0h:=T.a0h
 have a0j:=T.a0j
 have a0i:=T.a0i
 have a0k:=T.a0k
 have b0o:=T.b0o
 have a2l:=T.a2l
 have a1m:=T.a1m
 refine T.b4i.okX b7i (fun vs H Q E h=>?_) (fun cdv A' outer s H vs Q E hr h=>?_)
 ·obtain⟨_,_,_,_,rfl,_⟩:=c9k (by unfold f5j at h; exact h)
  rfl
 ·obtain⟨o,x,y,l,rfl,⟨N,p,ds,hP,hl,l8,okd,hx,hy,e99,oky,oke,q,qx⟩⟩:=c9k (by unfold f5j at h; exact h)
  have hu:=hr.units
  have hs:sizeLine=16777216:=sizeLine_eq
  have d1j:a4w 11 _:=hr.mono (by decide)
  have c7q:a4w 4 _:=hr.mono (by decide)
  have d4s:a4w 1 _:=hr.mono (by decide)
  have d4t:a4w 2 _:=hr.mono (by decide)
  obtain⟨dx,t,b,sd,ou,ho,F⟩:=id hP
  have ht:=F.ht
  have hb:=F.hb
  obtain⟨us,hsd,R1⟩:=F.hs
  have el:=R1.h1n
  unfold ptF at ho
  have ft:=b3q p.ts
  have fb:=b3q p.bs
  have i1:=b0t x p.ts
  have i2:=b0t x p.bs
  have i3:=b0t y p.bs
  refine⟨_,(a0l (a5y (pw_and (a0y b8y (pvF 1) (a6g (pvF 0) rfl) (by rfl)) (pw_and1 (a0y b8y (pvF 1) (a6g (pvF 0) rfl) (by rfl)))).pt
   (a0n a9g)
   a1i)
   (a0l (a5y (a0y b8y (pvF 2) (a6g (pvF 0) rfl) (by rfl))
   (a0n a9g)
   a1i)
   (a0l (a2i (i:=4) b7i.nd rfl (Or.inl rfl) (d8h T.d6l d4r d1j (by rfl) T.f9h T.d3y .nil a4y (a0g (pvF 3) a0m)))
   (a0l (a2i (i:=5) b7i.nd rfl (Or.inl rfl) (b3u (pvF 0) T.a0p T.b9i d7m d4s T.d6o .nil a4y (a0g (pvF 2) (a0g (pvF 1) a0m))))
   (a0l (a5y (a0y (c1t hu) (pvF 5) (a2o a0m) (a2s _))
   (a0n (f3z T.b7o.ok T.b7o.fn T.b7o.kp d7n d4t T.d6n T.f4v f3w rfl (by rfl) (a0g (pvF 5) a0m)))
   a1i)
   (a0n (a4i (b8w a9i PySem.F.plainAttrs_list PySem.F.slot_list_append PySem.F.type_list_append a4z (a6g (pvF 0) rfl) (a0g (c0t (a0g (pvF 1) (a0g (pvF 2) (a0g (b1k (pvF 4) T.b0o T.b4n d1i c7q T.d0h .nil a4y) a0m)))) a0m))))))))),?_⟩
  walk_at "rd*"
  have key:∀ R:Prop,R->(if ¬ x∈p.ts then b3r (V.str x)=true/\if ¬ x∈p.bs then False else R else R):=fun R hR=>by
   split
   ·rename_i h1
    rw [if_neg (not_not_intro (hx.resolve_left h1))]
    exact⟨rfl,hR⟩
   ·exact hR
  refine⟨rfl,key _ ⟨rfl,?_⟩⟩
  intro c cx H2 n2 n2' nx S2 hdx hc
  refine⟨cx,ds,hc,S2 _ _ hl,l8,okd,fun H3 B3 hC=>?_⟩
  rw [asNew]
  refine⟨rfl,?_⟩
  have S03:Same H H3:=fun z u e=>B3 _ _ (fun ze=>by rw [ze] at e; rw [e] at n2; cases n2) (S2 _ _ e)
  have ho3:=S03 _ _ ho
  obtain⟨t',b',sd',hT⟩:=(hP.same S03).pt
  clear hc
  walk_at "rd*"
  have h3w:∀ e∈prs p.es,PyData.strOk e.2=true:=fun e he=>by
   obtain⟨z,hz,rfl⟩:=List.mem_map.mp he
   exact oke z hz
  refine⟨t',b',sd',_,_,_,hT,by rw [prs,List.length_map]; omega,h3w,fun nr=>?_,fun r iw rl=>?_⟩
  rotate_left
  ·rintro _ H4 ⟨rg,rfl,n4,S4,h4⟩
   clear ho3
   walk_at "rd"
   refine⟨by omega,fun l5 H5 n5 S5 h5=>?_⟩
   walk_at "rd"
   have rok:∀ z∈r,PyData.strOk z=true:=fun z hz=>by
    rcases iw.mem hz with e | ⟨u,e⟩
    ·rw [e]; exact oky
    ·exact h3w _ e
   have rne:r≠[]:=fun e=>by have h:=iw.head; rw [e] at h; cases h
   refine c9h (ns:=r) (ms:=[]) (SqL.of (S5 _ _ h4)) (SqL.of h5) rok (fun z hz=>by cases hz) ?_
   rw [decide_eq_false rne]
   have hR5:=S5 _ _ h4
   have S05:=(S03.trans S4).trans S5
   clear h4 h5
   walk_at "rd"
   refine⟨by show 1<=sizeLine; omega,fun e n6=>?_⟩
   have he6:upd H5 e (d5u e (.ref A.a0q)) e=some (d5u e (.ref A.a0q)):=a1k
   have S6:Same H5 (upd H5 e (d5u e (.ref A.a0q))):=Same.upd n6
   generalize upd H5 e (d5u e (.ref A.a0q))=H6 at he6 S6 ⊢
   have ne:H e=none:=S05.free n6
   refine⟨he6,r.map V.str,S6 _ _ hR5,by rw [List.length_map]; omega,fun d l2 H7 nd nl B7 h7 hd hl2=>⟨d,h7,?_⟩⟩
   have ed:d≠e:=fun z=>by rw [z,he6] at nd; cases nd
   have el:l2≠e:=fun z=>by rw [z,he6] at nl; cases nl
   refine qx r d l2 _ iw rl ((S05.trans S6).free nd) ((S05.trans S6).free nl) (fun b u hb=>?_) (by rw [c0n ed]; exact hd) (by rw [c0n el]; exact hl2)
   have hbe:b≠e:=fun z=>by rw [z,ne] at hb; cases hb
   rw [c0n hbe]
   exact B7 _ _ hbe (S6 _ _ (S05 _ _ hb))
  rintro _ H4 ⟨rg,rfl,n4,S4,h4⟩
  clear ho3
  walk_at "rd"
  refine⟨by omega,fun l5 H5 n5 S5 h5=>?_⟩
  walk_at "rd"
  refine c9h (ns:=[]) (ms:=[]) (SqL.of (S5 _ _ h4)) (SqL.of h5) (fun z hz=>by cases hz) (fun z hz=>by cases hz) ?_
  rw [show (!decide (([] : List Str) = []))=false from rfl]
  have S35:=S4.trans S5
  have S05:=S03.trans S35
  have ho5:=S05 _ _ ho
  have h3x:=S05 _ _ hsd
  have hC5:=hC.same S35
  obtain⟨cx',pl',sl',os',hc5,hpl5,R5⟩:=id hC5
  unfold chF at hc5
  clear h4 h5 hC hpl5 R5
  walk_at "rd*"
  refine⟨ds,hC5,l8,okd,?_⟩
  rintro _ H6 ⟨lw,rfl,n6,S6,h6⟩
  clear ho5 hc5
  walk_at "rd"
  refine⟨by omega,fun p7 H7 n7 S7 h7=>?_⟩
  have S57:=S6.trans S7
  have S07:=S05.trans S57
  have g3z:=S57 _ _ h3x
  clear h3x
  walk_at "rd*"
  refine⟨by omega,?_⟩
  rintro _ H8 ⟨rfl,B8,h8⟩
  try walk_at "rd"
  have F7:Fl H7 (fun a=>N a\/H a=none) t b sd ou p:=(F.same S07).mono fun z hz _=>.inl hz
  have nlw:H lw=none:=S05.free n6
  have ne:∀ {z:Addr} {u:HO},H z=some u->lw≠z:=fun e q=>by rw [<- q,nlw] at e; cases e
  obtain⟨_,hou,_⟩:=F.ho
  have rr:Rp H7 (Nw (fun a=>N a\/H a=none) t b sd ou) (.ref p7) (dSd (x,y,dWs ds)):=.tup h7 (.cons (.str _) (.cons (.str _) (.cons (.lst ⟨.inr nlw,ne ht,ne hb,ne hsd,ne hou⟩ (S7 _ _ h6) (RpL.strs _)) .nil)))
  exact q nr H8 ((b0n.of S07).trans (b0n.one g3z F.n.2.2.1 B8)) ⟨dx,t,b,sd,ou,B8 _ _ (fun e=>by rw [<- e,S07 _ _ ho] at g3z; cases g3z) (S07 _ _ ho),F7.addS g3z rr h8 B8⟩
theorem f5s (T : Tx K mg A) : a2t P A.wd K mg base CX0 1 A.a3t A.a2u ["self"] (d0t A) := by
 have a0p:=T.a0p
 have a0h:=T.a0h
 have a0j:=T.a0j
 have a0i:=T.a0i
 have a0k:=T.a0k
 refine T.a9k.ok c6j (fun vs H Q E h=>?_) (fun cdv A' outer s H vs Q E hr h=>?_)
 ·obtain⟨_,rfl,_⟩:=d1r (by unfold d0t at h; exact h)
  rfl
 ·obtain⟨o,rfl,⟨N,p,⟨dx,t,b,sd,ou,ho,F⟩,l1,q⟩⟩:=d1r (by unfold d0t at h; exact h)
  have hu:=hr.units
  have hs:sizeLine=16777216:=sizeLine_eq
  have ht:=F.ht
  unfold ptF at ho
  refine⟨_,(a0n (a1j (a7h b0w (by rfl) T.c4o boot_list (a0g (a6g (pvF 0) rfl) a0m)))),?_⟩
  walk_at "rd*"
  exact fun l H1 n1 S1 h1=>q _ _ ⟨l,rfl,n1,S1,h1⟩
theorem f9p (T : Tx K mg A) : a2t P A.wd K mg base CX0 1 A.a5q A.a3u ["self"] (d6w A) := by
 have a0p:=T.a0p
 have a0h:=T.a0h
 have a0j:=T.a0j
 have a0i:=T.a0i
 have a0k:=T.a0k
 refine T.b0r.ok c7i (fun vs H Q E h=>?_) (fun cdv A' outer s H vs Q E hr h=>?_)
 ·obtain⟨_,rfl,_⟩:=d1r (by unfold d6w at h; exact h)
  rfl
 ·obtain⟨o,rfl,⟨N,p,⟨dx,t,b,sd,ou,ho,F⟩,l1,q⟩⟩:=d1r (by unfold d6w at h; exact h)
  have hu:=hr.units
  have hs:sizeLine=16777216:=sizeLine_eq
  have hb:=F.hb
  unfold ptF at ho
  refine⟨_,(a0n (a1j (a7h b0w (by rfl) T.c4o boot_list (a0g (a6g (pvF 0) rfl) a0m)))),?_⟩
  walk_at "rd*"
  exact fun l H1 n1 S1 h1=>q _ _ ⟨l,rfl,n1,S1,h1⟩
theorem d8s (T : Tx K mg A) : a2t P A.wd K mg base CX0 1 A.a5r A.a3v ["self"] (d6y A) := by
 have a0p:=T.a0p
 have a0h:=T.a0h
 have a0j:=T.a0j
 have a0i:=T.a0i
 have a0k:=T.a0k
 refine T.b0s.ok c7j (fun vs H Q E h=>?_) (fun cdv A' outer s H vs Q E hr h=>?_)
 ·obtain⟨_,rfl,_⟩:=d1r (by unfold d6y at h; exact h)
  rfl
 ·obtain⟨o,rfl,⟨N,p,⟨dx,t,b,sd,ou,ho,F⟩,l1,l2,q⟩⟩:=d1r (by unfold d6y at h; exact h)
  have hu:=hr.units
  have hs:sizeLine=16777216:=sizeLine_eq
  obtain⟨us,hsd,R1⟩:=F.hs
  have ul:=R1.h1n
  unfold ptF at ho
  refine ⟨_, (a0n (a1j (c5s (b3s (a6g (pvF 0) rfl)) (fun _ _ _ _ _ => (c0t (a0g (a5v c1l (pvF 0) a0r (fun _ _ => rfl)) (a0g (a5v c1l (pvF 0) a0r (fun _ _ => rfl)) (a0g (a7h b0w (by rfl) T.c4o boot_list (a0g (a5v c1l (pvF 0) a0r (fun _ _ => rfl)) a0m)) a0m))))) (d9o (sc := a0o b7g) (N := ["self"]) rfl rfl (by decide +kernel)) rfl))), ?_⟩
  walk_at "rd*"
  refine⟨⟨_,SqL.of hsd⟩,fun D H2 n2 S2 h2=>?_⟩
  refine c0h (xs:=us) (fun i ys H'=>Same H H'/\H' D=some (.lst ys)/\RpL H' (fun a=>H a=none/\a≠D) ys ((p.es.take i).map dSd)) ⟨S2,h2,.nil⟩ (by omega) ?_ ?_ ?_
  ·intro i ys H' hi ⟨S',h',R'⟩
   refine⟨h',SqL.of (S' _ _ hsd),?_⟩
   rw [R'.h1n,List.length_take]
   omega
  ·intro i x ys H' hx ⟨S',h',R'⟩
   obtain⟨e,pe,lw,he,rfl,hpe,_,hlw⟩:=R1.at3 hx
   have hp':=S' _ _ hpe
   have hw':=S' _ _ hlw
   have wl:=l2 e (List.mem_of_getElem? he)
   clear hpe hlw h2 hx
   walk_at "rd*"
   refine fun l4 H4 n4 S4 h4=>?_
   walk_at "rd*"
   refine fun p5 H5 n5 S5 h5=>?_
   have S45:=S4.trans S5
   refine⟨S45 _ _ h',fun H6 B6 h6=>⟨(S'.trans S45).step n2 B6,h6,?_⟩⟩
   rw [List.take_add_one,he,List.map_append]
   refine RpL.put (.snoc (R'.same S45) (.tup h5 (.cons (.str _) (.cons (.str _) (.cons (.lst ⟨S'.free n4,fun z=>?_⟩ (S5 _ _ h4) (RpL.strs _)) .nil))))) (S45 _ _ h') (fun z=>z.2 rfl) B6
   rw [z,h'] at n4
   cases n4
  ·intro ys H3 ⟨S3,h3,R3⟩
   rw [ul,List.take_length] at R3
   exact q D ys H3 n2 S3 h3 R3
theorem f9q (T : Tx K mg A) : a2t P A.wd K mg base CX0 1 A.a6k A.a6z ["_law_sends", "_law_first", "_law_last"] d6z := by
 refine T.b1q.ok a4r (fun vs H Q E h=>?_) (fun cdv A' outer s H vs Q E hr h=>?_)
 ·obtain⟨_,_,_,rfl,_⟩:=d8p (by unfold d6z at h; exact h)
  rfl
 ·obtain⟨l,x,y,rfl,⟨ps,es,hl,hE,e100,q⟩⟩:=d8p (by unfold d6z at h; exact h)
  have hu:=hr.units
  have hs:sizeLine=16777216:=sizeLine_eq
  have el:=hE.1
  refine⟨_,(a0l (a2i (i:=3) a4r.nd rfl (Or.inl rfl) (a2o (a0g (pvF 1) a0m)))
   (a0l (a2i (i:=4) a4r.nd rfl (Or.inl rfl) a0r)
   (a0l (d2q PassesOwn.never (a0y of_lt (pvF 4) (a0w a7i (by rfl) T.c7m boot_len (a0g (pvF 3) a0m)) (a2s _))
   (a0l (b1h PassesOwn.never rfl (b3s (pvF 0)) (g2q (n:=3) rfl (c5v (a4p (i:=5) a4r.nd rfl (Or.inl rfl)) (c5v (a4p (i:=6) a4r.nd rfl (Or.inl rfl)) (c5v (a4p (i:=7) a4r.nd rfl (Or.inl rfl)) f7y))))
   (a0n (a5y (pw_and (a0y (c1s hu) (pvF 5) (a5v c1l (pvF 3) (pvF 4) (fun _ _=>rfl)) (a2s _)) (pw_and1 (a0y b8y (pvF 6) (pvF 3) (by rfl)))).pt
   (a0n (a4i (b8w a9i PySem.F.plainAttrs_list PySem.F.slot_list_append PySem.F.type_list_append a4z (pvF 3) (a0g (pvF 6) a0m))))
   a1i)))
   (a0n (a2i (i:=4) a4r.nd rfl (Or.inl rfl) (a4q b1i (pvF 4) a0r)))))
   (a0n (a1j (b8s d2z (pvF 2) (pvF 3) (by rfl))))))),?_⟩
  walk_at "rd"
  refine⟨by omega,fun D H1 n1 S1 h1=>?_⟩
  obtain⟨Pv,pin,pout⟩:=c4p (fun m σ H'=>∃ (rs:List Str) (k:Nat) (v5 v6 v7:Option V),σ = [some (.ref l),some (.str x),some (.str y),some (.ref D),some (.int k),v5,v6,v7]/\Same H H'/\H' D=some (.lst (rs.map V.str))/\x∈rs/\(∀ u∈rs,Rch es x u)/\k<=rs.length/\(∀ (i:Nat) u v,i < k->rs[i]? = some u->(u,v)∈es->v∈rs)/\rs.length+cnt es rs<=es.length+1/\m=2*cnt es rs+(rs.length - k))
  have c0:cnt es [x] <= es.length:=List.length_filter_le _ _
  refine d2r Pv _ (pin _ _ _ ⟨[x],0,_,_,_,rfl,S1,h1,List.mem_cons_self,(fun u hu=>by obtain rfl:=List.mem_singleton.mp hu; exact Rch.refl _ _),Nat.zero_le _,fun i u v hi=>absurd hi (Nat.not_lt_zero _),by rw [List.length_singleton]; omega,rfl⟩) ?_
  intro m σ H2 hp
  obtain⟨rs,k,v5,v6,v7,rfl,S2,hD,xr,rr,kl,cl,rc,em⟩:=pout _ _ _ hp
  clear hp h1
  walk_at "rd*"
  split
  ·rename_i hk
   have hl2:=S2 _ _ hl
   refine⟨⟨_,SqL.of hl2⟩,?_⟩
   have hk':k < rs.length:=by omega
   obtain⟨cur,ecur⟩:∃ c,rs[k]? = some c:=⟨_,List.getElem?_eq_getElem hk'⟩
   obtain⟨Pw,win,wout⟩:=c4p (fun j σ H'=>∃ (mo:List Str) (v5 v6 v7:Option V),σ = [some (.ref l),some (.str x),some (.str y),some (.ref D),some (.int k),v5,v6,v7]/\Same H H'/\H' D=some (.lst ((rs++mo).map V.str))/\(∀ u∈mo,Rch es x u)/\(∀ (i:Nat) v,i < j->es[i]? = some (cur,v)->v∈rs++mo)/\(rs++mo).length+cnt es (rs++mo)<=es.length+1/\2*cnt es (rs++mo)+(rs++mo).length<=2*cnt es rs+rs.length)
   refine c5q (xs:=ps.map V.ref) Pw (win _ _ _ ⟨[],_,_,_,rfl,S2,by rw [List.append_nil]; exact hD,(fun u hu=>by cases hu),fun i v hi=>absurd hi (Nat.not_lt_zero _),by rw [List.append_nil]; exact rc,by rw [List.append_nil]; exact Nat.le_refl _⟩) ?_ ?_ ?_
   ·intro i σ H3 hi hp
    obtain⟨mo,v5',v6',v7',rfl,S3,_⟩:=wout _ _ _ hp
    exact SqL.of (S3 _ _ hl)
   ·intro i v σ H3 hv hp
    rw [List.getElem?_map] at hv
    obtain⟨p,hpi,rfl⟩:=Option.map_eq_some_iff.mp hv
    obtain⟨mo,v5',v6',v7',rfl,S3,hD3,mr3,cl3,rc3,em3⟩:=wout _ _ _ hp
    have hi:=(List.getElem?_eq_some_iff.mp hpi).1
    have hei : es[i]? = some (es[i]'(by omega)) := List.getElem?_eq_getElem _
    obtain⟨lw,hpe⟩:=hE.2 i p _ hpi hei
    have me:=List.mem_of_getElem? hei
    generalize es[i]'(by omega) = e at hei hpe me
    have hp3:=S3 _ _ hpe
    have at3:atI ((rs++mo).map V.str) (k:Int)=some (.str cur):=a4j (by rw [List.getElem?_map,List.getElem?_append_left hk',ecur]; rfl)
    have fl:=b3q (rs++mo)
    have iv:=b0t e.2 (rs++mo)
    obtain⟨r3,er3⟩:∃ r3,rs++mo=r3:=⟨_,rfl⟩
    rw [er3] at hD3 at3 fl iv
    clear hv hp hD hl2
    walk_at "rd*"
    subst er3
    have stay:(e.1=cur->e.2∈rs++mo)->Pw (i+1) [some (V.ref l),some (V.str x),some (V.str y),some (V.ref D),some (V.int k),some (V.str e.1),some (V.str e.2),some (V.ref lw)] H3:=fun hin=>win _ _ _ ⟨mo,_,_,_,rfl,S3,hD3,mr3,fun j v hj hjv=>by
     rcases Nat.lt_or_ge j i with z | z
     ·exact cl3 j v z hjv
     ·obtain rfl:j=i:=by omega
      rw [hei] at hjv
      cases hjv
      exact hin rfl,rc3,em3⟩
    split
    ·rename_i h1
     refine⟨rfl,?_⟩
     split
     ·rename_i h2
      refine⟨by omega,?_⟩
      rintro _ H4 ⟨rfl,B4,h4⟩
      have clt:=g1j me h2
      have ll:(rs++(mo++[e.2])).length=(rs++mo).length+1:=by rw [<- List.append_assoc,List.length_append]; rfl
      rw [List.append_assoc] at clt
      refine win _ _ _ ⟨mo++[e.2],_,_,_,rfl,S3.step n1 B4,by rw [h4,<- List.append_assoc,List.map_append (l₁:=rs++mo)]; rfl,(fun u hu=>(List.mem_append.mp hu).elim (mr3 u) fun h=>by obtain rfl:=List.mem_singleton.mp h; exact (rr cur (List.mem_of_getElem? ecur)).step (by rw [<- h1]; exact me)),fun j v hj hjv=>?_,by omega,by omega⟩
      rw [<- List.append_assoc]
      rcases Nat.lt_or_ge j i with z | z
      ·exact List.mem_append_left _ (cl3 j v z hjv)
      ·obtain rfl:j=i:=by omega
       rw [hei] at hjv
       cases hjv
       exact List.mem_append_right _ List.mem_cons_self
     ·rename_i h2
      exact stay fun _=>Classical.not_not.mp h2
    ·rename_i h1
     exact stay fun z=>absurd z h1
   ·intro σ H3 hp
    obtain⟨mo,v5',v6',v7',rfl,S3,hD3,mr3,cl3,rc3,em3⟩:=wout _ _ _ hp
    rw [List.length_map,el] at cl3
    walk_at "rd"
    have ml:(rs++mo).length=rs.length+mo.length:=List.length_append
    refine⟨2*cnt es (rs++mo)+((rs++mo).length - (k+1)),by omega,pin _ _ _ ⟨rs++mo,k+1,_,_,_,rfl,S3,hD3,List.mem_append_left _ xr,(fun u hu=>(List.mem_append.mp hu).elim (rr u) (mr3 u)),by omega,fun i u v hi hu hv=>?_,rc3,rfl⟩⟩
    rcases Nat.lt_or_ge i k with z | z
    ·rw [List.getElem?_append_left (by omega)] at hu
     exact List.mem_append_left _ (cl i u v z hu hv)
    ·obtain rfl:i=k:=by omega
     rw [List.getElem?_append_left hk',ecur] at hu
     cases hu
     obtain⟨j,hj,e⟩:=List.getElem_of_mem hv
     exact cl3 j v (by omega) (by rw [List.getElem?_eq_getElem hj,e])
  ·rename_i hk
   rw [b0t]
   refine⟨rfl,b3q rs,q _ H2 (fun hf=>rr y (of_decide_eq_true hf)) (fun hf hr=>?_) S2⟩
   have hy:y∈rs:=hr (· ∈ rs) xr fun u v hu hv=>by
    obtain⟨i,hi,e⟩:=List.getElem_of_mem hu
    exact cl i u v (by omega) (by rw [List.getElem?_eq_getElem hi,e]) hv
   exact absurd hy (of_decide_eq_false hf)
theorem Path.at{es:List (Str×Str)}{u v:Str}:∀ {r:List Str} {i:Nat},Path es r->r[i]? = some u->r[i+1]? = some v->(u,v)∈es
 | [],_,_,h,_=>by simp at h
 | [_],_,_,_,h=>by simp at h
 | x :: y :: r,0,p,h1,h2=>by
  cases h1
  cases h2
  exact p.1
 | x :: y :: r,i+1,p,h1,h2=>Path.at (r:=y :: r) (i:=i) p.2 (by simpa using h1) (by simpa using h2)
theorem h3y{e:Str×Str}(h1:PyData.strOk e.1=true)(h2:PyData.strOk e.2=true):PySem.W.kqdOk 8 (dPr e)=true:=by
 show (PyData.strOk e.1 && (PyData.strOk e.2 && true))=true
 rw [h1,h2]
 rfl
theorem g4b{e:Str×Str}{es:List (Str×Str)}:dPr e∈es.map dPr ↔ e∈es:=by
 constructor
 ·intro h
  obtain⟨f,hf,q⟩:=List.mem_map.mp h
  unfold dPr at q
  injection q with q
  injection q with q1 q2
  injection q2 with q2 _
  injection q1 with q1
  injection q2 with q2
  rw [show e=f from Prod.ext q1.symm q2.symm]
  exact hf
 ·exact fun h=>List.mem_map_of_mem h
theorem f5t (T : Tx K mg A) : a2t P A.wd K mg base CX0 1 A.a3k A.a3y ["_law_sends", "_law_source", "_law_bus", "_law_ring"] d0u := by
 refine T.a7o.ok b4l (fun vs H Q E h=>?_) (fun cdv A' outer s H vs Q E hr h=>?_)
 ·obtain⟨_,_,_,_,rfl,_⟩:=c9k (by unfold d0u at h; exact h)
  rfl
 ·obtain⟨ls,x,y,lr,rfl,⟨ps,es,r,hl,hE,e100,hr',iw,r100,oke,oky,q⟩⟩:=c9k (by unfold d0u at h; exact h)
  have hu:=hr.units
  have hs:sizeLine=16777216:=sizeLine_eq
  have el:=hE.1
  have rok:∀ z∈r,PyData.strOk z=true:=fun z hz=>by
   rcases iw.mem hz with e | ⟨u,e⟩
   ·rw [e]; exact oky
   ·exact (oke _ e).2
  have rne:r≠[]:=fun e=>by have h:=iw.head; rw [e] at h; cases h
  have rl:0 < r.length:=by cases r with | nil=>exact absurd rfl rne | cons _ _=>exact Nat.succ_pos _
  have a0:atI (r.map V.str) 0=some (.str y):=a4j (j:=0) (by rw [List.getElem?_map,iw.head]; rfl)
  have a1:atI (r.map V.str) ((r.length:Int) - 1)=some (.str x):=by
   obtain⟨r',e⟩:=iw.last
   have hl:r.length=r'.length+1:=by rw [e,List.length_append]; rfl
   rw [show ((r.length:Int) - 1)=((r'.length:Nat):Int) by omega]
   refine a4j ?_
   rw [List.getElem?_map,e,List.getElem?_append_right (Nat.le_refl _),Nat.sub_self]
   rfl
  refine ⟨_, (a0l (a5y (pw_or (b8q (a2p (a0w (c4u .lst) (by rfl) T.a0v boot_isinstance (a0g (pvF 3) (a0g (c5g (v := .ty "list") (u := .type "list") (by rfl) T.c4o rfl rfl) a0m))))) (pw_or (a0y (c1s hu) (pvF 3) (a2o a0m) (a2s _)) (pw_or (a0y (c1t hu) (a5v c1l (pvF 3) a0r (fun _ _ => rfl)) (pvF 2) (a2s _)) (pw_or1 (a0y (c1t hu) (a5v c1l (pvF 3) (a4q f2s (a0w a7i (by rfl) T.c7m boot_len (a0g (pvF 3) a0m)) a0r) (fun _ _ => rfl)) (pvF 1) (a2s _)))))).pt
   (a0n (a1j c1n))
   a1i)
   (a0l (f8t (i := 4) b4l.nd rfl rfl (b3s (pvF 0)) (fun _ _ _ _ _ => (c0t (a0g (pvF 0) (a0g (pvF 1) a0m)))) (g8f (sc := a0o b7h) (N := ["_law_sends", "_law_source", "_law_bus", "_law_ring", "_law_pairs", "_law_k"]) rfl rfl (by decide +kernel)) rfl)
   (a0l (b1h PassesOwn.never rfl (a6n (by rfl) T.b9t (a0g (a0w a7i (by rfl) T.c7m boot_len (a0g (pvF 3) a0m)) a0m)) (a4p (i:=5) b4l.nd rfl (Or.inl rfl))
   (a0l (a5y (a0y d2z (a5v c1l (pvF 3) (pvF 5) (fun _ _=>rfl)) (c0g g6t (pvF 3) c5l (b6w (pvF 5))) (by rfl))
   (a0n (a1j c1n))
   a1i)
   (a0n (a5y (pw_and (a0y d9l (pvF 5) a0r (a2s _)) (pw_and1 (a0y (d9u hu) (c0t (a0g (a5v c1l (pvF 3) (a4q f2s (pvF 5) a0r) (fun _ _=>rfl)) (a0g (a5v c1l (pvF 3) (pvF 5) (fun _ _=>rfl)) a0m))) (pvF 4) (by rfl)))).pt
   (a0n (a1j c1n))
   a1i))))
   (a0n (a1j c1n))))),?_⟩
  walk_at "rd*"
  refine fun l2 H2 n2 S2 h2=>?_
  walk_at "rd"
  refine c9i (ns:=r) (ms:=[]) (SqL.of (S2 _ _ hr')) (SqL.of h2) rok (fun z hz=>by cases hz) ?_
  rw [decide_eq_false rne]
  have hr2:=S2 _ _ hr'
  have hl2:=S2 _ _ hl
  clear hr' h2 hl
  walk_at "rd*"
  refine⟨⟨_,SqL.of hl2⟩,fun D H3 n3 S3 h3=>?_⟩
  refine d5y (xs:=ps.map V.ref) (fun i ys H'=>Same H2 H'/\H' D=some (.lst ys)/\RpL H' (fun _=>False) ys ((es.take i).map dPr)) ⟨S3,h3,.nil⟩ (by rw [List.length_map,hs]; omega) ?_ ?_ ?_
  ·intro i ys H' hi ⟨S',h',R⟩
   refine⟨h',SqL.of (S' _ _ hl2),?_⟩
   rw [List.length_map] at hi
   rw [R.len,List.length_map,List.length_take]
   omega
  ·intro i v ys H' hv ⟨S',h',R⟩
   rw [List.getElem?_map] at hv
   obtain⟨p,hpi,rfl⟩:=Option.map_eq_some_iff.mp hv
   have hi:=(List.getElem?_eq_some_iff.mp hpi).1
   have hei : es[i]? = some (es[i]'(by omega)) := List.getElem?_eq_getElem _
   obtain⟨lw,hpe⟩:=hE.2 i p _ hpi hei
   generalize es[i]'(by omega) = e at hei hpe
   refine⟨p,_,_,_,rfl,S' _ _ (S2 _ _ hpe),?_⟩
   walk_at "rd"
   refine fun p4 H4 n4 S4 h4=>⟨S4 _ _ h',fun H5 B5 h5=>⟨(S'.trans S4).step n3 B5,h5,?_⟩⟩
   rw [List.take_add_one,hei,List.map_append]
   exact RpL.put (.snoc (R.same S4) (.tup h4 (.cons (.str _) (.cons (.str _) .nil)))) (S4 _ _ h') (fun z=>z) B5
  ·intro ys H4 ⟨S4,h4,R4⟩
   rw [List.length_map,el,List.take_length] at R4
   have hr4:=S4 _ _ hr2
   clear hr2 h3 hl2
   walk_at "rd*"
   refine⟨by omega,by omega,?_⟩
   rw [Int.toNat_natCast]
   obtain⟨Pv,pin,pout⟩:=c4p (fun k σ H'=>∃ v5:Option V,σ = [some (.ref ls),some (.str x),some (.str y),some (.ref lr),some (.ref D),v5]/\Same H4 H')
   refine a8p (n:=r.length) Pv (pin _ _ _ ⟨_,rfl,Same.refl _⟩) ?_ ?_
   ·intro k σ H5 hk hp
    obtain⟨v5,rfl,S5⟩:=pout _ _ _ hp
    have hr5:=S5 _ _ hr4
    have hD5:=S5 _ _ h4
    rw [Int.zero_add]
    obtain⟨c,hc⟩:∃ c,r[k]? = some c:=⟨_,List.getElem?_eq_getElem hk⟩
    have ak:atI (r.map V.str) (k:Int)=some (.str c):=a4j (by rw [List.getElem?_map,hc]; rfl)
    have nd:c∉r.take k:=fun h=>by
     obtain⟨j,hj,e⟩:=List.getElem_of_mem h
     have hj':j < k:=by rw [List.length_take] at hj; omega
     rw [List.getElem_take] at e
     have e2:r[j]? = r[k]?:=by rw [hc,List.getElem?_eq_getElem (by omega),e]
     exact absurd ((List.getElem?_inj (by omega) iw.nd).mp e2) (by omega)
    clear hp hr4 h4
    walk_at "rd*"
    refine fun l6 H6 n6 S6 h6=>?_
    rw [c8w,c1v,c1w] at h6
    have ft:=b3q (r.take k)
    have iv:=b0t c (r.take k)
    rw [decide_eq_false nd] at iv
    have hr6:=S6 _ _ hr5
    have hD6:=S6 _ _ hD5
    have S46:=S5.trans S6
    clear hr5 hD5
    walk_at "rd*"
    have fin:∀ H',Same H4 H'->Pv (k+1) [some (.ref ls),some (.str x),some (.str y),some (.ref lr),some (.ref D),some (.int k)] H':=fun H' S'=>pin _ _ _ ⟨_,rfl,S'⟩
    refine⟨rfl,?_⟩
    split
    ·rename_i hk0
     obtain⟨j,rfl⟩:∃ j,k=j+1:=⟨k - 1,by omega⟩
     obtain⟨b,hb⟩:∃ b,r[j]? = some b:=⟨_,List.getElem?_eq_getElem (by omega)⟩
     have aj:atI (r.map V.str) (((j+1:Nat):Int) - 1)=some (.str b):=by
      rw [show (((j+1:Nat):Int) - 1)=(j:Int) by omega]
      exact a4j (by rw [List.getElem?_map,hb]; rfl)
     have me:=Path.at iw.path hb hc
     clear h6
     refine⟨_,aj,fun p7 H7 n7 S7 h7=>?_⟩
     walk_at "rd"
     refine⟨D,ys,dPr (b,c),es.map dPr,rfl,S7 _ _ hD6,?_,RpL.deep (R4.same (S46.trans S7)),(fun e he=>?_),h3y (oke _ me).1 (oke _ me).2,fun cc hcc=>?_⟩
     ·exact Rp.deep (N:=fun _=>False) (.tup h7 (.cons (.str _) (.cons (.str _) .nil)))
     ·obtain⟨f,hf,rfl⟩:=List.mem_map.mp he
      exact h3y (oke _ hf).1 (oke _ hf).2
     ·rw [hcc.mpr (g4b.mpr me)]
      walk_at "rd"
      exact fin H7 (S46.trans S7)
    ·exact fin H6 S46
   ·intro σ H5 hp
    obtain⟨v5,rfl,S5⟩:=pout _ _ _ hp
    walk_at "rd"
    exact q H5 (S2.trans (S4.trans S5))
theorem isd{K:PySem.W.Frag}{H:Hp}{e C d D:Addr}{b:Bool}{Q:VK}(h:H e=some (f6h e (.ref C) d))(q:c1m K C)(k:PySem.W.kitOne K (.ref C) (.ref D)=some b)(hq:Q (.bl b) H):h1q K [.ref e,.ref D] H Q:=⟨C,d,b,h,q,k,hq⟩
theorem isdT{K:PySem.W.Frag}{H:Hp}{e C d:Addr}{n:String}{b:Bool}{Q:VK}(h:H e=some (f6h e (.ref C) d))(q:c1m K C)(k:PySem.W.kitOne K (.ref C) (.type n)=some b)(hq:Q (.bl b) H):h1q K [.ref e,.ty n] H Q:=⟨C,d,b,h,q,k,hq⟩
theorem c8m (T : Tx K mg A) : a2t P A.wd K mg base CX0 13 A.a3l A.a3z ["_law_patch", "_law_sends", "_law_source", "_law_bus", "_law_words"] (g3w A) := by
 have d1k:a2t P A.wd K mg base (CXE P A.wd) 12 _ _ _ _:=d7l T
 have d1l:a2t P A.wd K mg base CX0 1 _ _ _ _:=f5t T
 have b8k:a2t P A.wd K mg base CX0 1 _ _ _ _:=d8s T
 have a0p:=T.a0p
 have a0h:=T.a0h
 have a0j:=T.a0j
 have a0i:=T.a0i
 have a0k:=T.a0k
 refine T.a3m.ok a3o (fun vs H Q E h=>?_) (fun cdv A' outer s H vs Q E hr h=>?_)
 ·obtain⟨_,_,_,_,_,rfl,_⟩:=d8o (by unfold g3w at h; exact h)
  rfl
 ·obtain⟨o,ls,x,y,lw,rfl,⟨N,M,p,ns,us,hP,hl,R,hw,n8,nk,hx,hy,e99,oky,oke,rc,q⟩⟩:=d8o (by unfold g3w at h; exact h)
  have hu:=hr.units
  have hs:sizeLine=16777216:=sizeLine_eq
  have a8o:a4w 12 _:=hr.mono (by decide)
  have c7r:a4w 1 _:=hr.mono (by decide)
  have b4z:a4w 1 _:=hr.mono (by decide)
  refine⟨_,(a0l (a2i (i:=5) a3o.nd rfl (Or.inl rfl) d7s)
   (a0l (a2i (i:=6) a3o.nd rfl (Or.inl rfl) (a2o a0m))
   (b8u (f7r (i:=7) (fun E=>(f7q (f4h (E:=E) (pvF 0) T.a0p T.a7l d1k a8o T.b9s .nil (a0g (pvF 2) (a0g (pvF 3) (a0g (pvF 4) a0m)))))) (fun e=>(a0l (a2i (i:=5) a3o.nd rfl (Or.inl rfl) (pvF 7))
   (a0n (a2i (i:=6) a3o.nd rfl (Or.inl rfl) (f8s (K:=K) (by rfl) (pvF 7) rfl))))) (by rfl) T.f4v T.b4j a3o.nd rfl rfl)
   (a0l (a5y (pw_or (b8q (a2p (a0w a7k (by rfl) T.a0v boot_isinstance (a0g (pvF 5) (a0g (a4h (v := .ref A.a0s) (by rfl) T.c6s rfl) a0m))))) (pw_or (b8q (a2p (a0w a7k (by rfl) T.a0v boot_isinstance (a0g (pvF 5) (a0g (c5g (v := .ty "ValueError") (u := .type "ValueError") (by rfl) T.d4h rfl rfl) a0m))))) (pw_or1 (a2p (a0w a7k (by rfl) T.a0v boot_isinstance (a0g (pvF 5) (a0g (a4h (v := .ref A.a2w) (by rfl) T.f8y rfl) a0m))))))).pt
   (a0n (a1j c1n))
   a1i)
   (a0l (a5y (pw_or (a2p (a0w a7k (by rfl) T.a0v boot_isinstance (a0g (pvF 5) (a0g (a4h (v:=.ref A.a1q) (by rfl) T.f4u rfl) a0m)))) (pw_or (a2p (a0w a7k (by rfl) T.a0v boot_isinstance (a0g (pvF 5) (a0g (a4h (v:=.ref A.a0t) (by rfl) T.d6t rfl) a0m)))) (pw_or1 (a2p (a0w a7k (by rfl) T.a0v boot_isinstance (a0g (pvF 5) (a0g (a4h (v:=.ref A.a1p) (by rfl) T.f4t rfl) a0m))))))).pt
   (a0n (a1j c1n))
   a1i)
   (a0l (a5y (pw_or (a2p (a0w a7k (by rfl) T.a0v boot_isinstance (a0g (pvF 5) (a0g (a4h (v:=.ref A.a1o) (by rfl) T.f4s rfl) a0m)))) (pw_or (a2p (a0w a7k (by rfl) T.a0v boot_isinstance (a0g (pvF 5) (a0g (a4h (v:=.ref A.a1g) (by rfl) T.f0k rfl) a0m)))) (pw_or1 (a2p (a0w a7k (by rfl) T.a0v boot_isinstance (a0g (pvF 5) (a0g (a4h (v:=.ref A.a1r) (by rfl) T.f4w rfl) a0m))))))).pt
   (a0n (a1j c1n))
   a1i)
   (a0l (a5y (pw_or (a2p (a0w a7k (by rfl) T.a0v boot_isinstance (a0g (pvF 5) (a0g (a4h (v:=.ref A.a2v) (by rfl) T.f8w rfl) a0m)))) (pw_or1 (a2p (a0w a7k (by rfl) T.a0v boot_isinstance (a0g (pvF 5) (a0g (a4h (v:=.ref A.a2y) (by rfl) T.f8z rfl) a0m)))))).pt
   (a0n (a1j c1n))
   a1i)
   (a0l (a5y (b8q (a2p (a5z d1l c7r (by rfl) T.d0l T.a7o.kp T.d0k .nil a4y (a0g (pvF 1) (a0g (pvF 2) (a0g (pvF 3) (a0g (pvF 6) a0m)))))))
   (a0n (a1j c1n))
   a1i)
   (a0l (a4i (b8w a9i PySem.F.plainAttrs_list PySem.F.slot_list_append PySem.F.type_list_append a4z (pvF 6) (a0g a6m a0m)))
   (a0n (a1j (b8s (c1s hu) (b1k (pvF 0) T.a0p T.a9j b8k b4z T.c2q .nil a4y) (pvF 1) (a2s _))))))))))))),?_⟩
  walk_at "rd"
  refine⟨by omega,fun l1 H1 n1 S1 h1=>?_⟩
  obtain⟨Mid,pin,pout⟩:=g0r (fun σ' H'=>∃ (e d l2:Addr) (r:List Str),σ' = [some (.ref o),some (.ref ls),some (.str x),some (.str y),some (.ref lw),some (.ref e),some (.ref l2),none]/\Same H H'/\H' e=some (f6h e (.ref A.a0q) d)/\H' l2=some (.lst (r.map V.str))/\H l2=none/\c0l (prs p.es) y x r/\r.length<=101)
  walk_at "rd"
  refine⟨Mid,?_,?_⟩
  ·have hP1:=hP.same S1
   obtain⟨dx,t,b,sd,ou,ho,F⟩:=id hP1
   unfold ptF at ho
   walk_at "rd*"
   refine⟨N,p,hP1,ns,S1 _ _ hw,n8,nk,hx,hy,e99,(fun e he=>(oke e he).2.1),fun nr=>absurd rc nr,fun r d l2 H2 iw rl nd nl S2 hd hl2=>⟨T.c1i,fun e H3 n3 S3 h3=>?_⟩⟩
   exact⟨_,d,h3,T.b4j,T.b7o.at,_,S3 _ _ hd,_,rfl,pin _ _ ⟨e,d,l2,r,rfl,S1.trans (S2.trans S3),h3,S3 _ _ hl2,S1.free nl,iw,rl⟩⟩
  ·intro σ' H' hm
   obtain⟨e,d,l2,r,rfl,S2,he,hl2,nl2,iw,rl⟩:=pout _ _ hm
   walk_at "rd"
   refine isd he T.b4j T.c6t ?_
   walk_at "rd"
   refine isdT he T.b4j T.c3t ?_
   walk_at "rd"
   refine isd he T.b4j T.d4i ?_
   walk_at "rd"
   refine isd he T.b4j T.d0n ?_
   walk_at "rd"
   refine isd he T.b4j T.c6u ?_
   walk_at "rd"
   refine isd he T.b4j T.d0o ?_
   walk_at "rd"
   refine isd he T.b4j T.d0p ?_
   walk_at "rd"
   refine isd he T.b4j T.c7n ?_
   walk_at "rd"
   refine isd he T.b4j T.d0m ?_
   walk_at "rd"
   refine isd he T.b4j T.d4k ?_
   walk_at "rd"
   refine isd he T.b4j T.d4j ?_
   walk_at "rd"
   obtain⟨ps,rfl,hE⟩:=d8r R
   refine⟨ps,S2 _ _ hl,prs p.es,hE.same S2,by rw [prs,List.length_map]; omega,r,hl2,iw,rl,(fun f hf=>?_),oky,fun H3 S3=>?_⟩
   ·obtain⟨g,hg,rfl⟩:=List.mem_map.mp hf
    exact⟨(oke g hg).1,(oke g hg).2.1⟩
   have hl23:=S3 _ _ hl2
   clear hl2
   walk_at "rd*"
   refine⟨by omega,?_⟩
   rintro _ H4 ⟨rfl,B4,h4⟩
   have S04:Same H H4:=(S2.trans S3).step nl2 B4
   have hP4:=hP.same S04
   obtain⟨dx,t,b,sd,ou,ho,F⟩:=id hP4
   unfold ptF at ho
   clear hl23
   walk_at "rd*"
   refine⟨N,p,hP4,by omega,(fun f hf=>by have:=(oke f hf).2.2.1; omega),fun l5 vs5 H5 n5 S5 h5 R5=>?_⟩
   exact Rp.eq (d:=.list (p.es.map dSd)) (n:=3) (N:=fun _=>True) (M:=fun _=>True) (.lst trivial h5 (R5.mono fun _ _ _=>trivial)) (.lst trivial (S5 _ _ (S04 _ _ hl)) ((R.same (S04.trans S5)).mono fun _ _ _=>trivial)) (f3u fun f hf=>⟨(oke f hf).1,(oke f hf).2.1,(oke f hf).2.2.2⟩) (by decide) (q H5 (S04.trans S5))
theorem a6l{x:Str}(h:c0q x):PyData.strOk x=true:=by
 unfold PyData.strOk
 rw [<- Array.all_toList,List.all_eq_true]
 intro c hc
 have:=h.2.2 c hc
 rw [decide_eq_true_eq]
 omega
theorem alive{H H':Hp}{a:Addr}(S:Same H H')(h:H a≠none):H' a≠none:=by
 cases e:H a with
 | none=>exact absurd e h
 | some u=>rw [S _ _ e]; exact fun q=>by cases q
theorem Lad.same{A:Ad}{H0 H H':Hp}{o D:Addr}{us:List V}{L:List Addr}{p:Pd}{es:List Sd}(h:Lad A H0 H o D us L p es)(S:Same H H'):Lad A H0 H' o D us L p es :=
 ⟨h.s0.trans S,h.nD,h.pw.same S,S _ _ h.hD,h.dL,h.rp.same S,fun a ha=>alive S (h.lv a ha)⟩
theorem Lad.deed{A:Ad}{H0 H H':Hp}{o D:Addr}{us:List V}{L:List Addr}{p p':Pd}{es:List Sd}(h:Lad A H0 H o D us L p es)(S:b0n (fun a=>H0 a=none/\a∉L) H H')(hp:c2t A H' (fun a=>(H0 a=none/\a∉L)\/H a=none) o p'):Lad A H0 H' o D us L p' es:=by
 have st:∀ {a:Addr} {u:HO},a∈L->H a=some u->H' a=some u:=fun ha e=>S _ _ (fun n=>absurd ha n.2) e
 refine⟨fun z u e=>S _ _ (fun n=>by rw [n.1] at e; cases e) (h.s0 _ _ e),h.nD,hp.mono fun z hz _=>?_,st h.dL h.hD,h.dL,h.rp.over S fun z hz _ n=>n.2 hz.1,fun a ha=>?_⟩
 ·exact hz.elim id fun n=>⟨h.s0.free n,fun m=>h.lv z m n⟩
 ·cases e:H a with
  | none=>exact absurd e (h.lv a ha)
  | some u=>rw [st ha e]; exact fun q=>by cases q
theorem Lad.more{A:Ad}{H0 H H':Hp}{o D lw:Addr}{us:List V}{L:List Addr}{p:Pd}{es:List Sd}{u:HO}(h:Lad A H0 H o D us L p es)(n:H lw=none)(S:Same H H')(hl:H' lw=some u):Lad A H0 H' o D us (lw :: L) p es:=by
 have hp:c2t A H (fun a=>H0 a=none/\a∉lw :: L) o p:=h.pw.mono fun z hz e=>⟨hz.1,fun hm=>by
  rcases List.mem_cons.mp hm with q | q
  ·rw [q] at e
   exact e n
  ·exact hz.2 q⟩
 refine⟨h.s0.trans S,h.nD,hp.same S,S _ _ h.hD,List.mem_cons_of_mem _ h.dL,(h.rp.mono fun z hz _=>⟨List.mem_cons_of_mem _ hz.1,hz.2⟩).same S,fun a ha=>?_⟩
 rcases List.mem_cons.mp ha with q | q
 ·rw [q,hl]
  exact fun q=>by cases q
 ·exact alive S (h.lv a q)
theorem Lad.put{A:Ad}{H0 H H':Hp}{o D lw q:Addr}{us:List V}{L:List Addr}{p:Pd}{es:List Sd}{x y:Str}{ws:List Str}(h:Lad A H0 H o D us L p es)(hq:H q=some (.tup [.str x,.str y,.ref lw]))(hw:H lw=some (.lst (ws.map V.str)))(lL:lw∈L)(ne:lw≠D)(B:a2h D H H')(hD':H' D=some (.lst (us++[.ref q]))) :
  Lad A H0 H' o D (us++[.ref q]) L p (es++[(x,y,ws)]):=by
 refine⟨h.s0.step h.nD B,h.nD,h.pw.over (M:=fun a=>a=D) (b0n.one h.hD rfl B) fun z hz _ e=>hz.2 (by rw [e]; exact h.dL),hD',h.dL,?_,fun a ha=>?_⟩
 ·rw [List.map_append]
  exact RpL.put (.snoc h.rp (.tup hq (.cons (.str _) (.cons (.str _) (.cons (.lst ⟨lL,ne⟩ hw (RpL.strs _)) .nil))))) h.hD (fun z=>z.2 rfl) B
 ·by_cases e:a=D
  ·rw [e,hD']
   exact fun q=>by cases q
  ·cases r:H a with
   | none=>exact absurd r (h.lv a ha)
   | some u=>rw [B _ _ e r]; exact fun q=>by cases q
theorem f5u{a b:Nat}(h:lt a=lt b):a=b:=by
 unfold lt at h
 injection h with h
 have:=congrArg (fun (z:Array Nat)=>z[0]?) h
 simp at this
 exact this
theorem b9u{k:Nat}(h:k < 26):c0q (lt k):=by
 refine⟨by show 1<=8; decide,fun e=>?_,fun c hc=>?_⟩
 ·have:=congrArg Str.length e
  have z : (Str.ofString "").length = 0 := by decide +kernel
  rw [z] at this
  exact absurd this (by show ¬ 1=0; decide)
 ·have:c=97+k:=by simpa [lt] using hc
  omega
theorem h2g {k : Nat} (h : k < 20) : atI (Str.ofString "abcdefghijklmnopqrst").cps.toList (k : Int) = some (97 + k) := by
 have e : (Str.ofString "abcdefghijklmnopqrst").cps.toList = List.range' 97 20 := by decide +kernel
 rw [e]
 refine a4j ?_
 rw [List.getElem?_range' h]
 simp
theorem d7o{k:Nat}{e:Sd}(h:e∈lad k):∃ i,1<=i/\i < k/\e=(lt (i - 1),lt i,[]):=by
 induction k with
 | zero=>cases h
 | succ k ih =>
  rcases List.mem_append.mp h with m | m
  ·obtain⟨i,h1,h2,h3⟩:=ih m
   exact⟨i,h1,by omega,h3⟩
  ·by_cases hk:k=0
   ·rw [if_pos hk] at m
    cases m
   ·exact⟨k,by omega,by omega,List.eq_of_mem_replicate m⟩
theorem g4c{k i:Nat}(h1:1<=i)(h2:i < k):(lt (i - 1),lt i,[])∈lad k:=by
 induction k with
 | zero=>omega
 | succ k ih =>
  by_cases e:i=k
  ·refine List.mem_append_right _ ?_
   rw [e,if_neg (by omega)]
   exact List.mem_cons_self
  ·exact List.mem_append_left _ (ih (by omega))
theorem f5v(k:Nat):(lad k).length<=3*k:=by
 induction k with
 | zero=>exact Nat.le_refl _
 | succ k ih =>
  rw [lad,List.length_append,List.length_replicate]
  split <;> omega
theorem f5w{n i j:Nat}(h:i+j < n):Rch (prs (lad n)) (lt i) (lt (i+j)):=by
 induction j with
 | zero=>exact Rch.refl _ _
 | succ j ih =>
  refine (ih (by omega)).step ?_
  exact List.mem_map.mpr ⟨_,g4c (i:=i+(j+1)) (k:=n) (by omega) h,by rw [show i+(j+1) - 1=i+j by omega]⟩
theorem g4d{k j:Nat}(hk:1<=k):¬ Rch (prs (lad k++List.replicate j (lt (k - 1),lt k,[]))) (lt k) (lt (k - 1)):=fun h=>by
 have z:=h (fun x=>x=lt k) rfl fun u v hu he=>by
  obtain⟨f,hf,e⟩:=List.mem_map.mp he
  injection e with e1 e2
  rcases List.mem_append.mp hf with m | m
  ·obtain⟨i,h1,h2,h3⟩:=d7o m
   rw [h3] at e1
   have:=f5u (e1.trans hu)
   omega
  ·rw [List.eq_of_mem_replicate m] at e2
   exact e2.symm
 have:=f5u z
 omega
theorem c1j{k i:Nat}:lt i∈bsL k ↔ i < k:=by
 unfold bsL
 constructor
 ·intro h
  obtain⟨j,hj,e⟩:=List.mem_map.mp h
  rw [<- f5u e]
  exact List.mem_range.mp hj
 ·exact fun h=>List.mem_map_of_mem (List.mem_range.mpr h)
theorem f5y(T:Tx K mg A):a2t P A.wd K mg base CX0 14 A.a4u A.a5s [] f9m:=by
 have b9v:a2t P A.wd K mg base CX0 1 _ _ _ _:=g8n T
 have c1k:a2t P A.wd K mg base CX0 3 _ _ _ _:=g1i T
 have b9w:a2t P A.wd K mg base (CXE P A.wd) 12 _ _ _ _:=d7l T
 have b0u:a2t P A.wd K mg base CX0 13 _ _ _ _:=c8m T
 have a0p:=T.a0p
 have a0h:=T.a0h
 have a0j:=T.a0j
 have a0i:=T.a0i
 have a0k:=T.a0k
 refine T.a9p.ok a5g (fun vs H Q E h=>?_) (fun cdv A' outer s H vs Q E hr h=>?_)
 ·match vs,h with
  | [],_=>rfl
 ·match vs,h with
  | [],q =>
  have hu:=hr.units
  have hs:sizeLine=16777216:=sizeLine_eq
  have b8l:a4w 2 _:=hr.mono (by decide)
  have b9y:a4w 3 _:=hr.mono (by decide)
  have a8o:a4w 12 _:=hr.mono (by decide)
  have a9l:a4w 13 _:=hr.mono (by decide)
  refine⟨_,(a0l (a2i (i:=0) a5g.nd rfl (Or.inl rfl) (d3g T.c9v b9v b8l (by rfl) T.d8q T.c4n .nil a4y))
   (a0l (a2i (i:=1) a5g.nd rfl (Or.inl rfl) (a2o a0m))
   (a0l (b1h PassesOwn.never rfl (a6n (by rfl) T.b9t (a0g a0r a0m)) (a4p (i:=2) a5g.nd rfl (Or.inl rfl))
   (a0l (a4i (b3u (pvF 0) T.a0p T.b3v c1k b9y T.c6r .nil a4y (a0g (a5v c1l a6m (pvF 2) (fun _ _=>rfl)) a0m)))
   (a0n (b1h PassesOwn.never rfl (a6n (by rfl) T.b9t (a0g (a4q c5r a0r (a7h c5t (by rfl) T.g3k boot_int (a0g (b8s d9l (pvF 2) a0r (a2s _)) a0m))) a0m)) (a4p (i:=3) a5g.nd rfl (Or.inl rfl))
   (a0l (a2i (i:=4) a5g.nd rfl (Or.inl rfl) (a5v c1l a6m (a4q f2s (pvF 2) a0r) (fun _ _=>rfl)))
   (a0l (a4i (b3u (pvF 0) T.a0p T.a7l b9w a8o T.b9s .nil f2z (a0g (pvF 4) (a0g (a5v c1l a6m (pvF 2) (fun _ _=>rfl)) (a0g (a2o a0m) a0m)))))
   (a0n (a4i (b8w a9i PySem.F.plainAttrs_list PySem.F.slot_list_append PySem.F.type_list_append a4z (pvF 1) (a0g (c0t (a0g (pvF 4) (a0g (a5v c1l a6m (pvF 2) (fun _ _=>rfl)) (a0g (a2o a0m) a0m)))) a0m))))))))))
   (a0n (a1j (f2t (a5z b0u a9l (by rfl) T.b8j T.a3m.kp T.b8i .nil a4y (a0g (pvF 0) (a0g (pvF 1) (a0g a6m (a0g a6m (a0g (a2o a0m) a0m)))))) (f9w (a5z b0u a9l (by rfl) T.b8j T.a3m.kp T.b8i .nil a4y (a0g (pvF 0) (a0g (pvF 1) (a0g a6m (a0g a6m (a0g (a2o (a0g a6m a0m)) a0m))))))))))))),?_⟩
  walk_at "rd"
  intro o dx H1 n1 n1' nx S1 hdx hc
  refine⟨dx,hc,fun H2 B2 hP=>?_⟩
  rw [asNew]
  refine⟨rfl,?_⟩
  have S02:Same H H2:=fun z u e=>B2 _ _ (fun ze=>by rw [ze] at e; rw [e] at n1; cases n1) (S1 _ _ e)
  clear hc hdx
  walk_at "rd"
  refine⟨by omega,fun D H3 n3 S3 h3=>?_⟩
  have l0:Lad A H H3 o D [] [D] ⟨[],[],[],[]⟩ []:=⟨S02.trans S3,S02.free n3,(hP.mono fun z hz e=>⟨S1.free hz,fun m=>by rw [List.mem_singleton] at m; rw [m] at e; exact e n3⟩).same S3,h3,List.mem_cons_self,.nil,fun a ha=>by rw [List.mem_singleton] at ha; rw [ha,h3]; exact fun q=>by cases q⟩
  clear h3 hP S3 n3 B2 S1 n1
  walk_at "rd"
  obtain⟨Pv,pin,pout⟩:=c4p (fun k σ H'=>∃ (us:List V) (L:List Addr) (v2 v3 v4:Option V),σ = [some (.ref o),some (.ref D),v2,v3,v4]/\Lad A H H' o D us L ⟨[],bsL k,lad k,[]⟩ (lad k))
  refine a8p (n:=20) Pv (pin _ _ _ ⟨_,_,_,_,_,rfl,l0⟩) ?_ ?_
  ·intro k σ H4 hk hp
   obtain⟨us,L,v2,v3,v4,rfl,ld⟩:=pout _ _ _ hp
   rw [Int.zero_add]
   obtain⟨dx,t,b,sd,ou,ho,F⟩:=id ld.pw
   unfold ptF at ho
   have l20 : (Str.ofString "abcdefghijklmnopqrst").length = 20 := by decide +kernel
   have ak:=h2g hk
   clear hp
   walk_at "rd*"
   refine⟨_,_,ld.pw,b9u (by omega),(fun m=>by cases m),(fun m=>Nat.lt_irrefl _ ((c1j (k:=k) (i:=k)).mp m)),by show (bsL k).length<=100; rw [bsL,List.length_map,List.length_range]; omega,fun H5 S5 hP5=>?_⟩
   have l5:=ld.deed S5 (hP5.mono fun z hz _=>.inl hz)
   have eb:bsL k++[(⟨#[97+k]⟩:Str)]=bsL (k+1):=by rw [bsL,bsL,List.range_succ,List.map_append]; rfl
   replace l5:Lad A H H5 o D us L ⟨[],bsL (k+1),lad k,[]⟩ (lad k):=by rw [<- eb]; exact l5
   clear hP5 S5 ld F ho ak eb
   obtain⟨m,em,em2⟩:∃ m:Nat,(3*if (0:Int) < (k:Int) then (1:Int) else 0)=(m:Int)/\m=if k=0 then 0 else 3:=by
    by_cases hk0:k=0
    ·exact⟨0,by rw [if_neg (by omega)]; rfl,by rw [if_pos hk0]⟩
    ·exact⟨3,by rw [if_pos (by omega)]; rfl,by rw [if_neg hk0]⟩
   have m3:m<=3:=by rw [em2]; split <;> omega
   rw [em]
   refine⟨IntMulOk.of_left (intBits_le_64 (by decide) (by decide)),by omega,by omega,?_⟩
   rw [Int.toNat_natCast]
   obtain⟨Pw,win,wout⟩:=c4p (fun j σ H'=>∃ (us:List V) (L:List Addr) (v3 v4:Option V),σ = [some (.ref o),some (.ref D),some (.int k),v3,v4]/\Lad A H H' o D us L ⟨[],bsL (k+1),lad k++List.replicate j (lt (k - 1),lt k,[]),[]⟩ (lad k++List.replicate j (lt (k - 1),lt k,[])))
   refine a8p (n:=m) Pw (win _ _ _ ⟨us,L,_,_,rfl,by rw [List.replicate_zero,List.append_nil]; exact l5⟩) ?_ ?_
   ·intro j σ H6 hj hp
    obtain⟨us,L,v3,v4,rfl,ld⟩:=wout _ _ _ hp
    have hk1:1<=k:=by
     rcases Nat.eq_zero_or_pos k with z | z
     ·rw [em2,if_pos z] at hj
      omega
     ·exact z
    have ak:=h2g hk
    have ak1 : atI (Str.ofString "abcdefghijklmnopqrst").cps.toList ((k : Int) - 1) = some (97 + (k - 1)) := by
     rw [show ((k:Int) - 1)=((k - 1:Nat):Int) by omega]
     exact h2g (by omega)
    have e1:(⟨#[97+(k - 1)]⟩:Str)=lt (k - 1):=rfl
    have e2:(⟨#[97+k]⟩:Str)=lt k:=rfl
    obtain⟨dx,t,b,sd,ou,ho,F⟩:=id ld.pw
    unfold ptF at ho
    clear hp l5
    walk_at "rd*"
    refine fun lw H7 n7 S7 h7=>?_
    have l7:=ld.same S7
    have oke:∀ e∈lad k++List.replicate j (lt (k - 1),lt k,[]),PyData.strOk e.2.1=true:=fun e he=>by
     rcases List.mem_append.mp he with z | z
     ·obtain⟨i,h1,h2,rfl⟩:=d7o z
      exact a6l (b9u (by omega))
     ·rw [List.eq_of_mem_replicate z]
      exact a6l (b9u (by omega))
    have nr:=g4d (j:=j) hk1
    have el:=f5v k
    walk_at "rd"
    refine⟨_,_,l7.pw,[],h7,Nat.zero_le _,(fun d hd=>by cases hd),.inr (c1j.mpr (by omega)),c1j.mpr (by omega),by rw [List.length_append,List.length_replicate]; omega,a6l (b9u (by omega)),oke,fun _ H8 S8 hP8=>?_,fun r d l2 H1 iw=>absurd iw.rch nr⟩
    have l8:=l7.deed S8 hP8
    have hD8:=l8.hD
    clear hP8 S8 ho F
    walk_at "rd*"
    refine fun lv H9 n9 S9 h9=>?_
    have l9:=l8.more n9 S9 h9
    clear hD8
    walk_at "rd"
    refine⟨by omega,fun tq H10 n10 S10 h10=>?_⟩
    have l10:=l9.same S10
    have hD10:=l10.hD
    have ul:=l10.rp.len
    rw [List.length_map,List.length_append,List.length_replicate] at ul
    walk_at "rd*"
    refine⟨by omega,?_⟩
    rintro _ H11 ⟨rfl,B11,h11⟩
    have nD:lv≠D:=fun z=>by rw [z,l8.hD] at n9; cases n9
    have l11:=l10.put (x:=lt (k - 1)) (y:=lt k) (ws:=[]) h10 (S10 _ _ h9) List.mem_cons_self nD B11 h11
    replace l11:Lad A H H11 o D (us++[.ref tq]) (lv :: L) ⟨[],bsL (k+1),lad k++List.replicate j (lt (k - 1),lt k,[])++[(lt (k - 1),lt k,[])],[]⟩ (lad k++List.replicate j (lt (k - 1),lt k,[])++[(lt (k - 1),lt k,[])]):=l11
    rw [List.append_assoc,<- List.replicate_succ'] at l11
    exact win _ _ _ ⟨_,_,_,_,rfl,l11⟩
   ·intro σ H6 hp
    obtain⟨us,L,v3,v4,rfl,ld⟩:=wout _ _ _ hp
    refine pin _ _ _ ⟨us,L,_,_,_,rfl,?_⟩
    rw [em2] at ld
    exact ld
  ·intro σ H4 hp
   obtain⟨us,L,v2,v3,v4,rfl,ld⟩:=pout _ _ _ hp
   walk_at "rd"
   refine⟨by omega,fun lw H5 n5 S5 h5=>?_⟩
   have l5:=ld.same S5
   have oke:∀ e∈lad 20,PyData.strOk e.1=true/\PyData.strOk e.2.1=true/\e.2.2.length<=8/\∀ z∈e.2.2,PyData.strOk z=true:=fun e he=>by
    obtain⟨i,h1,h2,rfl⟩:=d7o he
    exact⟨a6l (b9u (by omega)),a6l (b9u (by omega)),Nat.zero_le _,fun z hz=>by cases hz⟩
   have el:=f5v 20
   have et : Str.ofString "t" = lt 19 := by decide +kernel
   have ea : Str.ofString "a" = lt 0 := by decide +kernel
   have ek : Str.ofString "k" = lt 10 := by decide +kernel
   have ej : Str.ofString "j" = lt 9 := by decide +kernel
   rw [et,ea,ek,ej]
   walk_at "rd"
   refine⟨_,_,_,l5.pw,[],_,l5.hD,l5.rp,h5,Nat.zero_le _,(fun d hd=>by cases hd),.inr (c1j.mpr (by decide)),c1j.mpr (by decide),Nat.le_trans el (by decide),a6l (b9u (by decide)),oke,f5w (n:=20) (i:=0) (j:=19) (by decide),fun H6 S6=>?_⟩
   refine⟨by omega,fun lv H7 n7 S7 h7=>?_⟩
   have l7:=(l5.same S6).same S7
   walk_at "rd"
   refine⟨_,_,_,l7.pw,[1],_,l7.hD,l7.rp,?_,by decide,(fun d hd=>by rw [List.mem_singleton] at hd; rw [hd]; decide),.inr (c1j.mpr (by decide)),c1j.mpr (by decide),Nat.le_trans el (by decide),a6l (b9u (by decide)),oke,f5w (n:=20) (i:=9) (j:=1) (by decide),fun H8 S8=>q H8 (l7.s0.trans S8)⟩
   rw [h7, show dWs [1] = [Str.ofString "delay:1"] from by decide +kernel]
   rfl
theorem b9z(a:Int){b:Int}(hb:0 < b):0<=a.fmod b/\a.fmod b < b:=by
 rw [Int.fmod_eq_emod_of_nonneg _ (by omega)]
 exact⟨Int.emod_nonneg _ (by omega),Int.emod_lt_of_pos _ hb⟩
theorem g8s {i : Nat} (h : i < 26) : atI (Str.ofString "abcdefghijklmnopqrstuvwxyz").cps.toList (i : Int) = some (97 + i) := by
 have e : (Str.ofString "abcdefghijklmnopqrstuvwxyz").cps.toList = List.range' 97 26 := by decide +kernel
 rw [e]
 refine a4j ?_
 rw [List.getElem?_range' h]
 simp
theorem f9r(bl:List Int)(m k n:Nat):nmS bl m k n++(⟨#[nmC bl m k n]⟩:Str)=nmS bl m k (n+1):=by
 unfold nmS
 rw [List.range_succ,List.map_append]
 show (⟨_++_⟩:Str)=_
 rw [List.map_cons,List.map_nil]
 congr 1
 simp
theorem d7p(bl:List Int)(m k n:Nat):(nmS bl m k n).length=n:=by
 show ((List.range n).map (nmC bl m k)).toArray.size=n
 simp
theorem g4e(bl:List Int)(m k j:Nat):97<=nmC bl m k j/\nmC bl m k j<=122:=by
 unfold nmC
 have:=b9z (bl.getD j 0+(k:Int)*(if j=m then 1 else 0)) (b:=26) (by decide)
 omega
theorem f9s{bl:List Int}{m k n:Nat}(h1:1<=n)(h8:n<=8):c0q (nmS bl m k n):=by
 refine⟨by rw [d7p]; exact h8,fun e=>?_,fun c hc=>?_⟩
 ·have:=d7p bl m k n
  rw [e] at this
  have z : (Str.ofString "").length = 0 := by decide +kernel
  omega
 ·have hc':c∈(List.range n).map (nmC bl m k):=by simpa [nmS] using hc
  obtain⟨j,_,rfl⟩:=List.mem_map.mp hc'
  exact g4e bl m k j
theorem g8t{bl:List Int}{m n k k':Nat}(hm:m < n)(hk:k < k')(h9:k' < 9):nmS bl m k n≠nmS bl m k' n:=fun e=>by
 unfold nmS at e
 injection e with e
 have e2:(List.range n).map (nmC bl m k)=(List.range n).map (nmC bl m k'):=by
  have:=congrArg Array.toList e
  simpa using this
 have e3:((List.range n).map (nmC bl m k))[m]? = ((List.range n).map (nmC bl m k'))[m]?:=by rw [e2]
 rw [List.getElem?_map,List.getElem?_map,List.getElem?_range hm] at e3
 injection e3 with e3
 unfold nmC at e3
 rw [if_pos rfl] at e3
 have b1:=b9z (bl.getD m 0+(k:Int)*1) (b:=26) (by decide)
 have b2:=b9z (bl.getD m 0+(k':Int)*1) (b:=26) (by decide)
 rw [Int.fmod_eq_emod_of_nonneg _ (by decide)] at e3 b1 b2
 rw [Int.fmod_eq_emod_of_nonneg _ (by decide)] at e3
 omega
theorem f9t (T : Tx K mg A) : a2t P A.wd K mg base CX0 1 A.a6j A.a6y ["_law_cell"] d7g := by
 refine T.b1p.ok a2k (fun vs H Q E h=>?_) (fun cdv A' outer s H vs Q E hr h=>?_)
 ·obtain⟨_,rfl,_⟩:=h3s (by unfold d7g at h; exact h)
  rfl
 ·obtain⟨c,rfl,⟨hc,q⟩⟩:=h3s (by unfold d7g at h; exact h)
  have hu:=hr.units
  have hs:sizeLine=16777216:=sizeLine_eq
  refine⟨_,(a0l (a2i (i:=1) a2k.nd rfl (Or.inl rfl) a6m)
   (b8u (a2i (i:=2) a2k.nd rfl (Or.inr rfl) (a4q c0m (a4q c5r (pvF 0) a0r) (a4q b1i (a4q g0j a0r a0r) a0r)))
   (b8u (g2h (i := 3) a2k.nd rfl rfl (a6n (by rfl) T.b9t (a0g (a4q b1i a0r (a4q c0m (pvF 2) a0r)) a0m)) (fun _ _ _ _ _ => (a4q c0m (a4q c8v (pvF 3) (a4q b1i (a4q c5r (pvF 0) (pvF 0)) a0r)) a0r)) (d9o (sc := a0o c0v) (N := ["_law_cell", "_law_letters", "_law_mixed", "_law_base", "_law_at", "_law_names_here", "_law_k", "_law_name", "_law_j"]) rfl rfl (by decide +kernel)) rfl)
   (b8u (a2i (i:=4) a2k.nd rfl (Or.inl rfl) (a4q c0m (a4q c8v (pvF 2) a0r) (a0w a7i (by rfl) T.c7m boot_len (a0g (pvF 3) a0m))))
   (a0l (a2i (i:=5) a2k.nd rfl (Or.inl rfl) (a2o a0m))
   (a0l (b1h PassesOwn.never rfl (a6n (by rfl) T.b9t (a0g a0r a0m)) (a4p (i:=6) a2k.nd rfl (Or.inl rfl))
   (a0l (a2i (i:=7) a2k.nd rfl (Or.inl rfl) a6m)
   (a0l (b1h PassesOwn.never rfl (a6n (by rfl) T.b9t (a0g (a0w a7i (by rfl) T.c7m boot_len (a0g (pvF 3) a0m)) a0m)) (a4p (i:=8) a2k.nd rfl (Or.inl rfl))
   (a0n (a2i (i:=7) a2k.nd rfl (Or.inl rfl) (a4q b1i (pvF 7) (a5v c1l (pvF 1) (a4q c0m (a4q b1i (a5v c1l (pvF 3) (pvF 8) (fun _ _=>rfl)) (a4q c5r (pvF 6) (a7h c5t (by rfl) T.g3k boot_int (a0g (b8s (c1s hu) (pvF 8) (pvF 4) (a2s _)) a0m)))) a0r) (fun _ _=>rfl))))))
   (a0n (a4i (b8w a9i PySem.F.plainAttrs_list PySem.F.slot_list_append PySem.F.type_list_append a4z (pvF 5) (a0g (pvF 7) a0m)))))))
   (a0n (a1j (pvF 5))))))))),?_⟩
  walk_at "rd"
  have fM:=b9z (c*618033988749894848204587) (b:=1000000000000000000000007) (by decide)
  obtain ⟨Mid1, in1, out1⟩ := g0r (fun σ' H' => ∃ M : Int, σ' = [some (.int c), some (.str (Str.ofString "abcdefghijklmnopqrstuvwxyz")), some (.int M), none, none, none, none, none, none] ∧ H' = H)
  refine⟨Mid1,?_,?_⟩
  ·walk_at "rd"
   exact ⟨by walk_at "mul", by decide, in1 _ _ ⟨_, rfl, rfl⟩⟩
  intro σ1 H1 hm1
  obtain⟨M,rfl,rfl⟩:=out1 _ _ hm1
  clear hm1 in1 out1 fM
  have f8:=b9z M (b:=8) (by decide)
  obtain ⟨Mid2, in2, out2⟩ := g0r (fun σ' H' => ∃ (D : Addr) (bl : List Int), σ' = [some (.int c), some (.str (Str.ofString "abcdefghijklmnopqrstuvwxyz")), some (.int M), some (.ref D), none, none, none, none, none] ∧ Same H1 H' ∧ H' D = some (.lst (bl.map V.int)) ∧ 1 ≤ bl.length ∧ bl.length ≤ 8)
  refine⟨Mid2,?_,?_⟩
  ·walk_at "rd"
   refine⟨by omega,by omega,fun D H2 n2 S2 h2=>?_⟩
   obtain⟨nn,en⟩:∃ nn:Nat,(1+M.fmod 8).toNat=nn:=⟨_,rfl⟩
   rw [en]
   refine d5o (fun i ys H'=>Same H1 H'/\H' D=some (.lst ys)/\∃ bl:List Int,ys=bl.map V.int/\bl.length=i) ⟨S2,h2,[],rfl,rfl⟩ (by omega) ?_ ?_ ?_
   ·intro i ys H' hi ⟨S',h',bl,e,el⟩
    exact⟨h',by rw [e,List.length_map,el]⟩
   ·intro i ys H' hi ⟨S',h',bl,e,el⟩
    have ii:i*i<=7*7:=Nat.mul_le_mul (by omega) (by omega)
    have ii':(i:Int)*(i:Int)=((i*i:Nat):Int):=by rw [Int.natCast_mul]
    rw [Int.zero_add]
    walk_at "rd"
    rw [ii']
    refine⟨IntMulOk.of_left (intBits_le_64 (by omega) (by omega)),⟨by omega,Nat.le_trans (intBits_le_64 (by omega) (by omega)) (by decide)⟩,h',fun H4 B4 h4=>⟨S'.step n2 B4,h4,bl++[_],by rw [e,List.map_append]; rfl,by rw [List.length_append,el]; rfl⟩⟩
   ·intro ys H3 ⟨S3,h3,bl,e,el⟩
    subst e
    try walk_at "rd"
    exact in2 _ _ ⟨D,bl,rfl,S3,h3,by omega,by omega⟩
  intro σ2 H2 hm2
  obtain⟨D,bl,rfl,S2,hD,l1,l8⟩:=out2 _ _ hm2
  clear hm2 in2 out2 f8
  obtain ⟨Mid3, in3, out3⟩ := g0r (fun σ' H' => ∃ m : Nat, σ' = [some (.int c), some (.str (Str.ofString "abcdefghijklmnopqrstuvwxyz")), some (.int M), some (.ref D), some (.int m), none, none, none, none] ∧ H' = H2 ∧ m < bl.length)
  have fb:=b9z (M.fdiv 1000) (b:=(bl.length:Int)) (by omega)
  refine⟨Mid3,?_,?_⟩
  ·walk_at "rd*"
   exact⟨⟨by decide,by decide⟩,by omega,in3 _ _ ⟨((M.fdiv 1000).fmod (bl.length:Int)).toNat,by rw [Int.toNat_of_nonneg fb.1],rfl,by omega⟩⟩
  intro σ3 H3 hm3
  obtain⟨m,rfl,rfl,ml⟩:=out3 _ _ hm3
  clear hm3 in3 out3 fb
  walk_at "rd"
  refine⟨by omega,fun l H4 n4 S4 h4=>?_⟩
  walk_at "rd"
  obtain ⟨Pv, pin, pout⟩ := c4p (fun k σ H' => ∃ v6 v7 v8 : Option V, σ = [some (.int c), some (.str (Str.ofString "abcdefghijklmnopqrstuvwxyz")), some (.int M), some (.ref D), some (.int m), some (.ref l), v6, v7, v8] ∧ Same H3 H' ∧ H' l = some (.lst (((List.range k).map fun k => nmS bl m k bl.length).map V.str)))
  refine a8p (n:=9) Pv (pin _ _ _ ⟨_,_,_,rfl,S4,h4⟩) ?_ ?_
  ·intro k σ H5 hk hp
   obtain⟨v6,v7,v8,rfl,S5,h5⟩:=pout _ _ _ hp
   have hD5:=S5 _ _ hD
   rw [Int.zero_add]
   walk_at "rd*"
   refine⟨by omega,by omega,?_⟩
   rw [Int.toNat_natCast]
   obtain ⟨Pw, win, wout⟩ := c4p (fun j σ H' => ∃ v8 : Option V, σ = [some (.int c), some (.str (Str.ofString "abcdefghijklmnopqrstuvwxyz")), some (.int M), some (.ref D), some (.int m), some (.ref l), some (.int k), some (.str (nmS bl m k j)), v8] ∧ H' = H5)
   have e0 : Str.ofString "" = nmS bl m k 0 := by
    show Str.ofString "" = ⟨#[]⟩
    decide +kernel
   refine a8p (n:=bl.length) Pw (win _ _ _ ⟨_,by rw [<- e0],rfl⟩) ?_ ?_
   ·intro j σ H6 hj hp
    obtain⟨v8',rfl,rfl⟩:=wout _ _ _ hp
    have at':=h0s (ns:=bl) (i:=j) hj
    have nl:=d7p bl m k j
    rw [Int.zero_add]
    clear hp
    walk_at "rd*"
    have ei:(if (j:Int)=(m:Int) then (1:Int) else 0)=if j=m then 1 else 0:=by
     by_cases h:j=m
     ·rw [if_pos h,if_pos (by omega)]
     ·rw [if_neg h,if_neg (by omega)]
    rw [ei]
    have fb:=b9z (bl.getD j 0+(k:Int)*(if j=m then 1 else 0)) (b:=26) (by decide)
    obtain⟨x,ex⟩:∃ x:Nat,(bl.getD j 0+(k:Int)*(if j=m then 1 else 0)).fmod 26=x:=⟨((bl.getD j 0+(k:Int)*(if j=m then 1 else 0)).fmod 26).toNat,by omega⟩
    have ec:nmC bl m k j=97+x:=by
     unfold nmC
     rw [ex,Int.toNat_natCast]
    rw [ex] at fb ⊢
    have ll : (Str.ofString "abcdefghijklmnopqrstuvwxyz").length = 26 := by decide +kernel
    exact⟨IntMulOk.of_left (intBits_le_64 (by omega) (by omega)),by omega,_,g8s (by omega),by show j+1<=_; omega,win _ _ _ ⟨_,by rw [<- ec,f9r],rfl⟩⟩
   ·intro σ H6 hp
    obtain⟨v8',rfl,rfl⟩:=wout _ _ _ hp
    walk_at "rd*"
    refine⟨by rw [List.length_range]; omega,?_⟩
    rintro _ H7 ⟨rfl,B7,h7⟩
    refine pin _ _ _ ⟨_,_,_,rfl,S5.step n4 B7,?_⟩
    rw [h7,List.range_succ,List.map_append (l₁:=List.range k),List.map_append]
    rfl
  ·intro σ H5 hp
   obtain⟨v6,v7,v8,rfl,S5,h5⟩:=pout _ _ _ hp
   walk_at "rd"
   refine q _ l H5 (by simp) ?_ (fun z hz=>?_) (S2.free n4) (S2.trans S5) h5
   ·rw [List.Nodup,List.pairwise_map]
    exact List.Pairwise.imp_of_mem (fun {a b} ha hb hab=>g8t ml hab (List.mem_range.mp hb)) List.pairwise_lt_range
   ·obtain⟨k,_,rfl⟩:=List.mem_map.mp hz
    exact f9s l1 l8
theorem g4f (T : Tx K mg A) : a2t P A.wd K mg base CX0 1 A.a3j A.a3w ["_law_script", "_law_k"] (f5k K) := by
 refine T.a5u.ok c7k (fun vs H Q E h=>?_) (fun cdv A' outer s H vs Q E hr h=>?_)
 ·obtain⟨_,_,rfl,_⟩:=d9v (by unfold f5k at h; exact h)
  rfl
 ·obtain⟨a,k,rfl,⟨ns,hS,hk,q⟩⟩:=d9v (by unfold f5k at h; exact h)
  have hu:=hr.units
  refine⟨_,(a0l (a5y (a0y of_lt (pvF 1) (a0w d9m (by rfl) T.c7m boot_len (a0g (pvF 0) a0m)) (a2s _))
   (a0n (a1j (a5v ix_S (pvF 0) (pvF 1) (fun _ _=>rfl))))
   a1i)
   (a0n (a1j a0r))),?_⟩
  walk_at "rd"
  refine⟨_,hS,?_⟩
  rw [List.length_map]
  split
  ·rename_i h
   exact⟨_,hS,hk,h,q⟩
  ·rename_i h
   obtain⟨j,rfl⟩:=Int.eq_ofNat_of_zero_le hk
   rw [List.getD_eq_getElem?_getD,List.getElem?_eq_none (by omega)] at q
   exact q
theorem f9u{l:List Str}{i:Nat}{z:Str}(nd:l.Nodup)(h:l[i]? = some z):z∉l.take i:=fun hm=>by
 have hd:(l.take i++l.drop i).Nodup:=by rw [List.take_append_drop]; exact nd
 exact (List.nodup_append.mp hd).2.2 z hm z (List.mem_of_getElem? (i:=0) (by rw [List.getElem?_drop]; exact h)) rfl
theorem f9v{α:Type}{xs:List α}{lo hi:Option Int}{x:α}(h:x∈d5p xs lo hi):x∈xs:=by
 unfold d5p at h
 first | exact List.mem_of_mem_drop (List.mem_of_mem_take h) | exact List.mem_of_mem_take (List.mem_of_mem_drop h)
theorem g4g{c:TT}{t e:TS}{D:Ends}{σ:L2.St}{H:Hp}(B:Hp->Prop)(he:∀ H',B H'->e D σ H')(h:∀ te:TS,(∀ H',B H'->te D σ H')->g9l c t te D σ H):g9l c t e D σ H:=h e he
theorem g8u (T : Tx K mg A) : a2t P A.wd K mg base CX0 15 A.d3r A.c4m ["_law_script"] (d5n 63 K) := by
 have c2v:a2t P A.wd K mg base CX0 1 _ _ _ _:=g4f T
 have d7q:a2t P A.wd K mg base CX0 1 _ _ _ _:=f9t T
 have d7r:a2t P A.wd K mg base CX0 1 _ _ _ _:=f9q T
 have b0u:a2t P A.wd K mg base CX0 13 _ _ _ _:=c8m T
 have d4u:a2t P A.wd K mg base CX0 14 _ _ _ _:=f5y T
 have b9v:a2t P A.wd K mg base CX0 1 _ _ _ _:=g8n T
 have d1m:a2t P A.wd K mg base CX0 3 _ _ _ _:=g8o T
 have c1k:a2t P A.wd K mg base CX0 3 _ _ _ _:=g1i T
 have b9w:a2t P A.wd K mg base (CXE P A.wd) 12 _ _ _ _:=d7l T
 have b8k:a2t P A.wd K mg base CX0 1 _ _ _ _:=d8s T
 have d1n:a2t P A.wd K mg base CX0 1 _ _ _ _:=f9p T
 have c7s:a2t P A.wd K mg base CX0 1 _ _ _ _:=f5s T
 have a0p:=T.a0p
 have a0h:=T.a0h
 have a0j:=T.a0j
 have a0i:=T.a0i
 have a0k:=T.a0k
 refine T.f4m.ok b8m (fun vs H Q E h=>?_) (fun cdv A' outer s H vs Q E hr h=>?_)
 ·obtain⟨a,ns,rfl,_⟩:=h
  rfl
 ·obtain⟨a,ns,rfl,hS,hl,hbit,hO,q⟩:=h
  have hu:=hr.units
  have c0r:a4w 1 _:=hr.mono (by decide)
  have d4v:a4w 1 _:=hr.mono (by decide)
  have d4w:a4w 1 _:=hr.mono (by decide)
  have a9l:a4w 13 _:=hr.mono (by decide)
  have d1o:a4w 14 _:=hr.mono (by decide)
  have b8l:a4w 2 _:=hr.mono (by decide)
  have c7t:a4w 3 _:=hr.mono (by decide)
  have b9y:a4w 3 _:=hr.mono (by decide)
  have a8o:a4w 12 _:=hr.mono (by decide)
  have b4z:a4w 1 _:=hr.mono (by decide)
  have c7u:a4w 1 _:=hr.mono (by decide)
  have c6y:a4w 1 _:=hr.mono (by decide)
  have hs:sizeLine=16777216:=sizeLine_eq
  have bc:∀ k:Nat,intBits (ns.getD k 0)<=1100000:=fun k=>Nat.le_trans (f2u hbit k) (by decide)
  refine⟨_,(a0l (a2i (i:=1) b8m.nd rfl (Or.inl rfl) (a5z d7q d4v (by rfl) T.d6q T.b1p.kp T.d6p .nil a4y (a0g (a5z c2v c0r (by rfl) T.c2s T.a5u.kp T.c2r .nil a4y (a0g (pvF 0) (a0g a0r a0m))) a0m)))
   (b8u (a2i (i:=2) b8m.nd rfl (Or.inl rfl) (a4q b1i a0r (a4q c0m (a5z c2v c0r (by rfl) T.c2s T.a5u.kp T.c2r .nil a4y (a0g (pvF 0) (a0g a0r a0m))) a0r)))
   (a0l (a2i (i:=3) b8m.nd rfl (Or.inl rfl) (d3g T.c9v b9v b8l (by rfl) T.d8q T.c4n .nil a4y))
   (a0l (a4i (b3u (pvF 3) T.a0p T.b4o d1m c7t T.d0i .nil a4y (a0g (a5v c1l (pvF 1) a0r (fun _ _=>rfl)) a0m)))
   (b8u (b1h PassesOwn.never rfl (a6n (by rfl) T.b9t (a0g (pvF 2) a0m)) (a4p (i:=4) b8m.nd rfl (Or.inl rfl))
   (a0n (a4i (b3u (pvF 3) T.a0p T.b3v c1k b9y T.c6r .nil a4y (a0g (a5v c1l (pvF 1) (pvF 4) (fun _ _=>rfl)) a0m)))))
   (a0l (a2i (i:=5) b8m.nd rfl (Or.inl rfl) (a2o a0m))
   (a0l (b1h PassesOwn.never rfl (b3s (c0g h0o (pvF 0) (b6w a0r) (b6w a0r))) (a4p (i:=6) b8m.nd rfl (Or.inl rfl))
   (b8u (a2i (i:=7) b8m.nd rfl (Or.inl rfl) (a4q c0m (a4q c5r (pvF 6) a0r) (a4q b1i (a4q g0j a0r a0r) a0r)))
   (a0l (a2i (i:=8) b8m.nd rfl (Or.inl rfl) (a5v c1l (a4q b1i (c0g g6t (pvF 1) c5l (b6w (pvF 2))) (a2o (a0g (a5v c1l (pvF 1) a0r (fun _ _=>rfl)) a0m))) (a4q c0m (pvF 7) (a4q b1i (pvF 2) a0r)) (fun _ _=>rfl)))
   (a0l (a2i (i:=9) b8m.nd rfl (Or.inl rfl) (a5v c1l (pvF 1) (a4q c0m (a4q c8v (pvF 7) a0r) (pvF 2)) (fun _ _=>rfl)))
   (b8u (a2i (i:=10) b8m.nd rfl (Or.inl rfl) (c0g g6t (a2o (a0g a6m a0m)) c5l (b6w (a4q c0m (a4q c8v (pvF 7) a0r) a0r))))
   (a0n (a5y (pw_and (a0y (c1t hu) (pvF 8) (a5v c1l (pvF 1) a0r (fun _ _=>rfl)) (a2s _)) (pw_and1 (a2p (a5z d7r d4w (by rfl) T.d6s T.b1q.kp T.d6r .nil a4y (a0g (pvF 5) (a0g (pvF 9) (a0g (pvF 8) a0m))))))).pt
   (a0n (b1h PassesOwn.never rfl (a6n (by rfl) T.b9t (a0g a0r a0m)) (a4p (i:=4) b8m.nd rfl (Or.inl rfl))
   (a0n (a5y (b8q (a2p (a5z b0u a9l (by rfl) T.b8j T.a3m.kp T.b8i .nil a4y (a0g (pvF 3) (a0g (pvF 5) (a0g (pvF 8) (a0g (pvF 9) (a0g (a7h b0w (by rfl) T.c4o boot_list (a0g (pvF 10) a0m)) a0m))))))))
   (a0n (a1j c1n))
   a1i))))
   (a0l (a4i (b3u (pvF 3) T.a0p T.a7l b9w a8o T.b9s .nil f2z (a0g (pvF 8) (a0g (pvF 9) (a0g (a7h b0w (by rfl) T.c4o boot_list (a0g (pvF 10) a0m)) a0m)))))
   (a0l (a4i (b8w a9i PySem.F.plainAttrs_list PySem.F.slot_list_append PySem.F.type_list_append a4z (pvF 5) (a0g (c0t (a0g (pvF 8) (a0g (pvF 9) (a0g (pvF 10) a0m)))) a0m)))
   (a0n (a5y (a0y (c1t hu) (b1k (pvF 3) T.a0p T.a9j b8k b4z T.c2q .nil a4y) (pvF 5) (a2s _))
   (a0n (a1j c1n))
   a1i)))))))))))
   (a0l (a5y (b8q (a2p (f6s d4u d1o (by rfl) T.d4g T.a9p.kp T.d3z .nil a4y)))
   (a0n (a1j c1n))
   a1i)
   (a0n (a1j (f2t (b8s (c1s hu) (b1k (pvF 3) T.a0p T.b4p d1n c7u T.d0j .nil a4y) (c0g g6t (pvF 1) c5l (b6w (pvF 2))) (a2s _)) (f9w (b8s (c1s hu) (b1k (pvF 3) T.a0p T.b1o c7s c6y T.c7l .nil a4y) (a2o (a0g (a5v c1l (pvF 1) a0r (fun _ _=>rfl)) a0m)) (a2s _)))))))))))))),?_⟩
  walk_at "rd"
  refine⟨ns,hS,bc 0,fun nm ln H1 n9 nd nms nl S1 hln=>?_⟩
  have hS1:=S1.seq hS
  obtain⟨Mid1,in1,out1⟩:=g0r (fun σ' H'=>∃ mn:Nat,σ' = [some (.ref a),some (.ref ln),some (.int mn),none,none,none,none,none,none,none,none]/\H'=H1/\2<=mn/\mn<=8)
  refine⟨Mid1,?_,?_⟩
  ·walk_at "rd"
   refine⟨ns,hS1,?_⟩
   have f7:=b9z (ns.getD 0 0) (b:=7) (by decide)
   obtain⟨mn,emn⟩:∃ mn:Nat,2+(ns.getD 0 0).fmod 7=(mn:Int):=⟨(2+(ns.getD 0 0).fmod 7).toNat,by omega⟩
   exact in1 _ _ ⟨mn,by rw [<- emn],rfl,by omega,by omega⟩
  intro σ1 H1' hm1
  obtain⟨mn,rfl,rfl,mn2,mn8⟩:=out1 _ _ hm1
  clear hm1 in1 out1
  obtain⟨tk,etk⟩:∃ tk,nm[8]? = some tk:=⟨_,List.getElem?_eq_getElem (by omega)⟩
  have a8:atI (nm.map V.str) 8=some (.str tk):=a4j (j:=8) (by rw [List.getElem?_map,etk]; rfl)
  have tkn:c0q tk:=nms tk (List.mem_of_getElem? etk)
  obtain⟨bs,ebs⟩:∃ bs,nm.take mn=bs:=⟨_,rfl⟩
  have bl:bs.length=mn:=by rw [<- ebs,List.length_take]; omega
  have tkb:tk∉bs:=fun h=>by
   rw [<- ebs] at h
   have hd:(nm.take mn++nm.drop mn).Nodup:=by rw [List.take_append_drop]; exact nd
   refine (List.nodup_append.mp hd).2.2 tk h tk ?_ rfl
   refine List.mem_of_getElem? (i:=8 - mn) ?_
   rw [List.getElem?_drop,show mn+(8 - mn)=8 by omega]
   exact etk
  have bnm:∀ z∈bs,c0q z:=fun z hz=>nms z (List.mem_of_mem_take (by rw [ebs]; exact hz))
  have bat:∀ {i:Nat},i < mn->∃ z,nm[i]? = some z/\bs[i]? = some z:=fun {i} hi=>by
   obtain⟨z,hz⟩:∃ z,nm[i]? = some z:=⟨_,List.getElem?_eq_getElem (by omega)⟩
   exact⟨z,hz,by rw [<- ebs,List.getElem?_take_of_lt hi]; exact hz⟩
  walk_at "rd"
  intro o dx H2 n2 n2' nx S2 hdx hx
  refine⟨dx,hx,fun H3 B3 hP=>?_⟩
  rw [asNew]
  refine⟨rfl,?_⟩
  have S13:Same H1' H3:=fun z u e=>B3 _ _ (fun ze=>by rw [ze] at e; rw [e] at n2; cases n2) (S2 _ _ e)
  have hP3:c2t A H3 (fun a=>H1' a=none) o ⟨[],[],[],[]⟩:=hP.mono fun z hz _=>S2.free hz
  obtain⟨dx',t,b,sd,ou,ho,F⟩:=id hP3
  unfold ptF at ho
  have hln3:=S13 _ _ hln
  clear hx hdx hP
  walk_at "rd*"
  refine⟨_,_,hP3,(fun m=>by cases m),(fun m=>by cases m),Nat.zero_le _,fun H4 S4 hP4=>?_⟩
  replace hP4:c2t A H4 (fun a=>H1' a=none) o ⟨[tk],[],[],[]⟩:=hP4
  have S14:Same H1' H4:=fun z u e=>S4 _ _ (fun n=>by rw [n] at e; cases e) (S13 _ _ e)
  clear hP3 F ho hln3 S13 S4 S2 B3
  obtain⟨Mid4,in4,out4⟩:=g0r (fun σ' H'=>∃ v4:Option V,σ' = [some (.ref a),some (.ref ln),some (.int mn),some (.ref o),v4,none,none,none,none,none,none]/\Same H1' H'/\c2t A H' (fun a=>H1' a=none) o ⟨[tk],bs,[],[]⟩)
  refine⟨Mid4,?_,?_⟩
  ·walk_at "rd"
   refine⟨by omega,by omega,?_⟩
   rw [Int.toNat_natCast]
   obtain⟨Pv,pin,pout⟩:=c4p (fun k σ H'=>∃ v4:Option V,σ = [some (.ref a),some (.ref ln),some (.int mn),some (.ref o),v4,none,none,none,none,none,none]/\Same H1' H'/\c2t A H' (fun a=>H1' a=none) o ⟨[tk],bs.take k,[],[]⟩)
   refine a8p (n:=mn) Pv (pin _ _ _ ⟨_,rfl,S14,hP4⟩) ?_ ?_
   ·intro k σ H5 hk hp
    obtain⟨v4,rfl,S5,hP5⟩:=pout _ _ _ hp
    obtain⟨dx',t,b,sd,ou,ho,F⟩:=id hP5
    unfold ptF at ho
    have hln5:=S5 _ _ hln
    obtain⟨z,hz,hzb⟩:=bat hk
    have az:atI (nm.map V.str) (k:Int)=some (.str z):=a4j (by rw [List.getElem?_map,hz]; rfl)
    have zb:=List.mem_of_getElem? hzb
    have znt:z∉[tk]:=fun m=>by rw [List.mem_singleton] at m; rw [m] at zb; exact tkb zb
    have znb:z∉bs.take k:=f9u (by rw [<- ebs]; exact nd.sublist (List.take_sublist _ _)) hzb
    rw [Int.zero_add]
    clear hp
    walk_at "rd*"
    refine⟨_,_,hP5,znt,znb,by rw [List.length_take]; omega,fun H6 S6 hP6=>?_⟩
    refine pin _ _ _ ⟨_,rfl,fun x u e=>S6 _ _ (fun n=>by rw [n] at e; cases e) (S5 _ _ e),?_⟩
    rw [List.take_add_one,hzb]
    exact hP6
   ·intro σ H5 hp
    obtain⟨v4,rfl,S5,hP5⟩:=pout _ _ _ hp
    rw [List.take_of_length_le (by omega)] at hP5
    exact in4 _ _ ⟨_,rfl,S5,hP5⟩
  intro σ5 H5 hm5
  obtain⟨v4,rfl,S5,hP5⟩:=out4 _ _ hm5
  clear hm5 in4 out4 hP4 S14
  walk_at "rd"
  refine⟨by omega,fun D H6 n6 S6 h6=>?_⟩
  have l6:Lad A H1' H6 o D [] [D] ⟨[tk],bs,[],[]⟩ []:=⟨S5.trans S6,S5.free n6,(hP5.mono fun z hz e=>⟨hz,fun m=>by rw [List.mem_singleton] at m; rw [m] at e; exact e n6⟩).same S6,h6,List.mem_cons_self,.nil,fun a ha=>by rw [List.mem_singleton] at ha; rw [ha,h6]; exact fun q=>by cases q⟩
  have hS6:=l6.s0.seq hS1
  clear h6 hP5 S5 S6 n6
  walk_at "rd"
  refine⟨_,hS6,fun lc H7 n7 S7 h7=>?_⟩
  obtain⟨ms,ems⟩:∃ ms,d5p ns (some 1) (some 31)=ms:=⟨_,rfl⟩
  have msl:ms.length<=63:=by rw [<- ems]; exact Nat.le_trans (f7m _ _ _) hl
  have msb:∀ x∈ms,intBits x<=1048576:=fun x hx=>hbit x (by rw [<- ems] at hx; exact f9v hx)
  rw [f2v,ems] at h7
  have l7:=l6.more n7 S7 h7
  have ncD:lc≠D:=fun z=>by rw [z,l6.hD] at n7; cases n7
  refine⟨⟨_,SqL.of h7⟩,?_⟩
  obtain⟨Pv,pin,pout⟩:=c4p (fun i σ H'=>∃ (us:List V) (L:List Addr) (es:List Sd) (v4 v6 v7 v8 v9 v10:Option V),σ = [some (.ref a),some (.ref ln),some (.int mn),some (.ref o),v4,some (.ref D),v6,v7,v8,v9,v10]/\Lad A H1' H' o D us L ⟨[tk],bs,es,[]⟩ es/\(H' lc=some (.lst (ms.map V.int))/\lc∈L)/\es.length<=i/\(∀ e∈es,(e.1∈bs\/e.1=tk)/\e.2.1∈bs/\∃ ks:List Nat,ks.length<=1/\(∀ d∈ks,d<=1000)/\e.2.2=dWs ks))
  refine c5q (xs:=ms.map V.int) Pv (pin _ _ _ ⟨_,_,[],_,_,_,_,_,_,rfl,l7,⟨h7,List.mem_cons_self⟩,Nat.zero_le _,fun e he=>by cases he⟩) ?_ ?_ ?_
  ·intro i σ H8 hi hp
   obtain⟨us,L,es,v4,v6,v7,v8,v9,v10,rfl,l8,⟨h8,_⟩,_⟩:=pout _ _ _ hp
   exact SqL.of h8
  ·intro i v σ H8 hv hp
   rw [List.getElem?_map] at hv
   obtain⟨c,hc,rfl⟩:=Option.map_eq_some_iff.mp hv
   obtain⟨us,L,es,v4,v6,v7,v8,v9,v10,rfl,l8,⟨h8,lcL⟩,el,eok⟩:=pout _ _ _ hp
   have cb:=msb c (List.mem_of_getElem? hc)
   have i63:i < 63:=Nat.lt_of_lt_of_le (List.getElem?_eq_some_iff.mp hc).1 msl
   clear hv hp
   walk_at "rd"
   obtain⟨Mid0,in0,out0⟩:=g0r (fun σ' H'=>∃ M:Int,σ' = [some (.ref a),some (.ref ln),some (.int mn),some (.ref o),v4,some (.ref D),some (.int c),some (.int M),v8,v9,v10]/\H'=H8)
   refine⟨Mid0,?_,?_⟩
   ·walk_at "rd"
    exact ⟨by walk_at "mul", by decide, in0 _ _ ⟨_, rfl, rfl⟩⟩
   intro σ9 H9 hm9
   obtain⟨M,rfl,rfl⟩:=out0 _ _ hm9
   clear hm9 in0 out0
   have h3z:=l8.s0 _ _ hln
   have f1:=b9z M (b:=(mn:Int)+1) (by omega)
   have f2:=b9z (M.fdiv 9) (b:=(mn:Int)) (by omega)
   have f3:=b9z (M.fdiv 72) (b:=2) (by decide)
   obtain⟨sr,esr,sok⟩:∃ sr,atI (bs.map V.str++[.str tk]) (M.fmod ((mn:Int)+1))=some (.str sr)/\(sr∈bs\/sr=tk):=by
    obtain⟨j,ej⟩:∃ j:Nat,M.fmod ((mn:Int)+1)=(j:Int):=⟨(M.fmod ((mn:Int)+1)).toNat,by omega⟩
    rw [ej] at f1 ⊢
    rcases Nat.lt_or_ge j mn with z | z
    ·obtain⟨x,_,hx⟩:=bat z
     exact⟨x,a4j (by rw [List.getElem?_append_left (by rw [List.length_map]; omega),List.getElem?_map,hx]; rfl),.inl (List.mem_of_getElem? hx)⟩
    ·refine⟨tk,a4j ?_,.inr rfl⟩
     rw [List.getElem?_append_right (by rw [List.length_map]; omega),List.length_map,show j - bs.length=0 by omega]
     rfl
   obtain⟨bu,ebu,bok⟩:∃ bu,atI (nm.map V.str) ((M.fdiv 9).fmod (mn:Int))=some (.str bu)/\bu∈bs:=by
    obtain⟨j,ej⟩:∃ j:Nat,(M.fdiv 9).fmod (mn:Int)=(j:Int):=⟨((M.fdiv 9).fmod (mn:Int)).toNat,by omega⟩
    rw [ej] at f2 ⊢
    obtain⟨x,hx,hxb⟩:=bat (i:=j) (by omega)
    exact⟨x,a4j (by rw [List.getElem?_map,hx]; rfl),List.mem_of_getElem? hxb⟩
   walk_at "rd*"
   refine fun l9 H10 n10 S10 h10=>?_
   rw [c8w,c1v,c1w,ebs] at h10
   have f5z:=S10 _ _ h3z
   clear h3z
   walk_at "rd*"
   refine fun l11 H11 n11 S11 h11=>?_
   have h10':=S11 _ _ h10
   have f6g:=S11 _ _ f5z
   clear f5z h10
   walk_at "rd*"
   refine⟨by omega,fun l12 H12 n12 S12 h12=>?_⟩
   have g8v:=S12 _ _ f6g
   have h2i:=S10.trans (S11.trans S12)
   clear f6g h10' h11
   walk_at "rd*"
   refine⟨by omega,⟨by decide,by decide⟩,by omega,?_⟩
   obtain⟨Mid3,in3,out3⟩:=g0r (fun σ' H'=>∃ (lw:Addr) (ks:List Nat),σ' = [some (.ref a),some (.ref ln),some (.int mn),some (.ref o),v4,some (.ref D),some (.int c),some (.int M),some (.str sr),some (.str bu),some (.ref lw)]/\Lad A H1' H' o D us (lw :: L) ⟨[tk],bs,es,[]⟩ es/\H' lc=some (.lst (ms.map V.int))/\H' lw=some (.lst ((dWs ks).map V.str))/\lw≠D/\ks.length<=1/\(∀ d∈ks,d<=1000))
   refine⟨Mid3,?_,?_⟩
   ·walk_at "rd"
    refine⟨by omega,fun l13 H13 n13 S13 h13=>?_⟩
    walk_at "rd*"
    refine⟨⟨by decide,by decide⟩,fun lw H14 n14 S14 h14=>?_⟩
    have S914:=h2i.trans (S13.trans S14)
    have h4a:=l8.same (h2i.trans S13)
    have nD:lw≠D:=fun z=>by rw [z,h4a.hD] at n14; cases n14
    have e1 : [V.str (Str.ofString "delay:1")] = (dWs [1]).map V.str := by
     rw [show dWs [1] = [Str.ofString "delay:1"] from by decide +kernel]
     rfl
    obtain⟨j,ej⟩:∃ j:Nat,(M.fdiv 72).fmod 2=(j:Int):=⟨((M.fdiv 72).fmod 2).toNat,by omega⟩
    rw [ej,e1,c8w,c1v,c1w,dWs,<- List.map_take] at h14
    refine in3 _ _ ⟨lw,[1].take j,rfl,h4a.more n14 S14 h14,S914 _ _ h8,h14,nD,?_,fun d hd=>?_⟩
    ·rw [List.length_take]
     exact Nat.min_le_right _ _
    ·have:=List.mem_of_mem_take hd
     rw [List.mem_singleton] at this
     omega
   intro σ15 H15 hm15
   obtain⟨lw,ks,rfl,l15,h15,hw,nwD,k1,kok⟩:=out3 _ _ hm15
   clear hm15 in3 out3 l8 h8 h12 g8v h2i S10 S11 S12 esr ebu f1 f2 f3 cb n10 n11 n12
   have hln15:=l15.s0 _ _ hln
   obtain⟨ps,rfl,hE⟩:=d8r l15.rp
   have oke:∀ e∈es,PyData.strOk e.1=true/\PyData.strOk e.2.1=true/\e.2.2.length<=8/\∀ z∈e.2.2,PyData.strOk z=true:=fun e he=>by
    obtain⟨h1,h2,js,h3,h4,h5⟩:=eok e he
    refine⟨a6l (h1.elim (bnm _) fun z=>by rw [z]; exact tkn),a6l (bnm _ h2),by rw [h5,dWs,List.length_map]; omega,fun z hz=>?_⟩
    rw [h5] at hz
    obtain⟨d,hd,rfl⟩:=List.mem_map.mp hz
    exact f3r (d:=Dt.delay d) (by decide:1 < 4)
   have okb:=a6l (bnm bu bok)
   have e99:es.length<=99:=by omega
   refine g4g (fun H'=>Same H15 H'/\¬ Rch (prs es) bu sr) ?_ ?_
   ·intro H16 ⟨S16,nr⟩
    have l16:=l15.same S16
    have h4b:=S16 _ _ hw
    obtain⟨dx',t,b,sd,ou,ho,F⟩:=id l16.pw
    unfold ptF at ho
    have wl:(dWs ks).length<=8:=by rw [dWs,List.length_map]; omega
    walk_at "rd*"
    refine fun l17 H17 n17 S17 h17=>?_
    have h4d:=l16.same S17
    have h2j:=S17 _ _ h4b
    have h4e:=S17 _ _ (S16 _ _ h15)
    clear ho F h4b
    walk_at "rd"
    refine⟨_,_,h4d.pw,ks,h17,by omega,kok,sok.elim .inr (fun z=>.inl (by rw [z]; exact List.mem_cons_self)),bok,e99,okb,(fun e he=>(oke e he).2.1),fun _ H18 S18 hP18=>?_,fun r d l2 H1 iw=>absurd iw.rch nr⟩
    have l18:=h4d.deed S18 hP18
    have hw18:=S18 _ _ (fun n=>absurd List.mem_cons_self n.2) h2j
    have h18c:=S18 _ _ (fun n=>absurd (List.mem_cons_of_mem _ lcL) n.2) h4e
    replace l18:Lad A H1' H18 o D (ps.map V.ref) (lw :: L) ⟨[tk],bs,es++[(sr,bu,dWs ks)],[]⟩ es:=l18
    have hD18:=l18.hD
    clear hP18 S18 h2j h4e h17
    walk_at "rd*"
    refine fun tq H19 n19 S19 h19=>?_
    have l19:=l18.same S19
    have hD19:=l19.hD
    have ul:=l19.rp.len
    rw [List.length_map] at ul
    clear hD18
    walk_at "rd*"
    refine⟨by omega,?_⟩
    rintro _ H20 ⟨rfl,B20,h20⟩
    have l20:=l19.put h19 (S19 _ _ hw18) List.mem_cons_self nwD B20 h20
    have h20c:=B20 _ _ ncD (S19 _ _ h18c)
    have h4f:∀ e∈es++[(sr,bu,dWs ks)],(e.1∈bs\/e.1=tk)/\e.2.1∈bs/\∃ ks:List Nat,ks.length<=1/\(∀ d∈ks,d<=1000)/\e.2.2=dWs ks:=fun e he=>by
     rcases List.mem_append.mp he with z | z
     ·exact eok e z
     ·rw [List.mem_singleton] at z
      rw [z]
      exact⟨sok,bok,ks,k1,kok,rfl⟩
    have g9h:∀ e∈es++[(sr,bu,dWs ks)],PyData.strOk e.1=true/\PyData.strOk e.2.1=true/\e.2.2.length<=8/\∀ z∈e.2.2,PyData.strOk z=true:=fun e he=>by
     obtain⟨h1,h2,js,h3,h4,h5⟩:=h4f e he
     refine⟨a6l (h1.elim (bnm _) fun z=>by rw [z]; exact tkn),a6l (bnm _ h2),by rw [h5,dWs,List.length_map]; omega,fun z hz=>?_⟩
     rw [h5] at hz
     obtain⟨d,hd,rfl⟩:=List.mem_map.mp hz
     exact f3r (d:=Dt.delay d) (by decide:1 < 4)
    have el2:(es++[(sr,bu,dWs ks)]).length<=i+1:=by rw [List.length_append,List.length_singleton]; omega
    obtain⟨dx',t,b,sd,ou,ho,F⟩:=id l20.pw
    unfold ptF at ho
    clear hD19 h20
    walk_at "rd*"
    refine⟨_,_,l20.pw,by show (es++[(sr,bu,dWs ks)]).length<=100; omega,(fun e he=>by have:=(g9h e he).2.2.1; omega),fun l21 us21 H21 n21 S21 h21 R21=>?_⟩
    try walk_at "rd"
    have h2l:=l20.same S21
    refine Rp.ne (d:=.list ((es++[(sr,bu,dWs ks)]).map dSd)) (n:=3) (N:=fun _=>True) (M:=fun _=>True) (.lst trivial h21 (R21.mono fun _ _ _=>trivial)) (.lst trivial h2l.hD (h2l.rp.mono fun _ _ _=>trivial)) (f3u fun f hf=>⟨(g9h f hf).1,(g9h f hf).2.1,(g9h f hf).2.2.2⟩) (by decide) ?_
    walk_at "rd"
    exact pin _ _ _ ⟨_,_,_,_,_,_,_,_,_,rfl,h2l,⟨S21 _ _ h20c,List.mem_cons_of_mem _ lcL⟩,el2,h4f⟩
   ·intro te hte
    walk_at "rd*"
    split
    ·rename_i hx
     refine⟨ps,l15.hD,prs es,hE,by rw [prs,List.length_map]; omega,fun r H16 r1 r2 S16=>?_⟩
     split
     ·rename_i hr1
      have rc:=r1 hr1
      obtain⟨Pw,win,wout⟩:=c4p (fun k σ H'=>∃ v4:Option V,σ = [some (.ref a),some (.ref ln),some (.int mn),some (.ref o),v4,some (.ref D),some (.int c),some (.int M),some (.str sr),some (.str bu),some (.ref lw)]/\Same H15 H')
      refine a8p (n:=2) Pw (win _ _ _ ⟨_,rfl,S16⟩) ?_ ?_
      ·intro k σ H17 hk hp
       obtain⟨v4,rfl,S17⟩:=wout _ _ _ hp
       have l17:=l15.same S17
       have h2j:=S17 _ _ hw
       have wl:(dWs ks).length<=8:=by rw [dWs,List.length_map]; omega
       clear hp
       walk_at "rd*"
       refine fun l18 H18 n18 S18 h18=>?_
       have h2m:=l17.same S18
       walk_at "rd"
       refine⟨_,_,_,h2m.pw,ks,_,h2m.hD,h2m.rp,h18,by omega,kok,sok.elim .inr (fun z=>.inl (by rw [z]; exact List.mem_cons_self)),bok,e99,okb,oke,rc,fun H19 S19=>?_⟩
       try walk_at "rd"
       exact win _ _ _ ⟨_,rfl,S17.trans (S18.trans S19)⟩
      ·intro σ H17 hp
       obtain⟨v4,rfl,S17⟩:=wout _ _ _ hp
       exact pin _ _ _ ⟨_,_,es,_,_,_,_,_,_,rfl,l15.same S17,⟨S17 _ _ h15,List.mem_cons_of_mem _ lcL⟩,by omega,eok⟩
     ·rename_i hr1
      exact hte H16 ⟨S16,r2 (Bool.eq_false_iff.mpr hr1)⟩
    ·rename_i hx
     refine hte H15 ⟨Same.refl _,fun h=>tkb ?_⟩
     have e:sr=tk:=Classical.not_not.mp hx
     rw [<- e]
     exact h (· ∈ bs) bok fun u v _ he=>by
      obtain⟨f,hf,q⟩:=List.mem_map.mp he
      injection q with _ q
      rw [<- q]
      exact (eok f hf).2.1
  ·intro σ H8 hp
   obtain⟨us,L,es,v4,v6,v7,v8,v9,v10,rfl,l8,⟨h8,_⟩,_,eok⟩:=pout _ _ _ hp
   walk_at "rd"
   intro H9 S9
   have l9:=l8.same S9
   obtain⟨dx',t,b,sd,ou,ho,F⟩:=id l9.pw
   unfold ptF at ho
   walk_at "rd*"
   refine⟨_,_,l9.pw,by show bs.length<=100; omega,?_⟩
   rintro _ H10 ⟨lb,rfl,n10,S10,h10⟩
   have l10:=l9.same S10
   have f5z:=l10.s0 _ _ hln
   clear ho F
   walk_at "rd*"
   refine fun ls H11 n11 S11 h11=>?_
   rw [c8w,c1v,c1w,ebs] at h11
   have l11:=l10.same S11
   have f6g:=S11 _ _ f5z
   have bso:∀ z∈bs,PyData.strOk z=true:=fun z hz=>a6l (bnm z hz)
   obtain⟨dx',t,b,sd,ou,ho,F⟩:=id l11.pw
   unfold ptF at ho
   clear f5z
   walk_at "rd"
   refine c9i (ns:=bs) (ms:=bs) (SqL.of (S11 _ _ h10)) (SqL.of h11) bso bso ?_
   rw [decide_eq_true rfl]
   walk_at "rd*"
   refine⟨_,_,l11.pw,by show 1<=100; decide,?_⟩
   rintro _ H12 ⟨lt,rfl,n12,S12,h12⟩
   have g8v:=S12 _ _ f6g
   clear f6g ho F
   walk_at "rd*"
   refine fun l13 H13 n13 S13 h13=>?_
   try walk_at "rd"
   refine c9i (ns:=[tk]) (ms:=[tk]) (SqL.of (S13 _ _ h12)) (SqL.of h13) (fun z hz=>?_) (fun z hz=>?_) ?_
   ·rw [List.mem_singleton] at hz
    rw [hz]
    exact a6l tkn
   ·rw [List.mem_singleton] at hz
    rw [hz]
    exact a6l tkn
   rw [decide_eq_true rfl]
   exact q _
local macro_rules | `(tactic| walk_at "b0") => `(tactic| (intro _ _ _ _ _ _ us hl; cases us with | nil => rfl | cons _ _ => cases hl))
theorem len1{α:Type _}{us:List α}(h:us.length=1):∃ a,us = [a]:=match us,h with | [a],_=>⟨a,rfl⟩
local macro_rules | `(tactic| walk_at "b1") => `(tactic| (intro _ _ _ _ _ _ us hl; obtain ⟨_, e⟩ := len1 hl; subst e; rfl))
theorem len2{α:Type _}{us:List α}(h:us.length=2):∃ a b,us = [a,b]:=match us,h with | [a,b],_=>⟨a,b,rfl⟩
local macro_rules | `(tactic| walk_at "b2") => `(tactic| (intro _ _ _ _ _ _ us hl; obtain ⟨_, _, e⟩ := len2 hl; subst e; rfl))
theorem len3{α:Type _}{us:List α}(h:us.length=3):∃ a b c,us = [a,b,c]:=match us,h with | [a,b,c],_=>⟨a,b,c,rfl⟩
local macro_rules | `(tactic| walk_at "b3") => `(tactic| (intro _ _ _ _ _ _ us hl; obtain ⟨_, _, _, e⟩ := len3 hl; subst e; rfl))
theorem len4{α:Type _}{us:List α}(h:us.length=4):∃ a b c d,us = [a,b,c,d]:=match us,h with | [a,b,c,d],_=>⟨a,b,c,d,rfl⟩
local macro_rules | `(tactic| walk_at "b4") => `(tactic| (intro _ _ _ _ _ _ us hl; obtain ⟨_, _, _, _, e⟩ := len4 hl; subst e; rfl))
theorem len5{α:Type _}{us:List α}(h:us.length=5):∃ a b c d e,us = [a,b,c,d,e]:=match us,h with | [a,b,c,d,e],_=>⟨a,b,c,d,e,rfl⟩
local macro_rules | `(tactic| walk_at "b5") => `(tactic| (intro _ _ _ _ _ _ us hl; obtain ⟨_, _, _, _, _, e⟩ := len5 hl; subst e; rfl))
theorem all_mk {l : W.OpenLaw} {K : W.Frag} {h : Heap} {mg : Str → Option Value} {fa : Addr} {a6i b0y a4s a8q a4t a6p a6q a3h a3i a6r b1m a8t a6s a5m b1n a6t a2m a5o a8v a6v a8w a3t a5q a5r a3j a6j a6k a3k a3l a4u d3r a0s a0t a1o a1p a1q a2v a2w a0q a1g a2y a1r c6k a9z b0g a2q a4v : Addr} {a6o b1l a5h a8r a5i a5j a5k a3p a3q a8s b0z a8u a5l a3r b1g a5n a1n a3s a6u a5p a6w a2u a3u a3v a3w a6y a6z a3y a3z a5s c4m : FuncData} {b5k a1h a8y a7g b5l a4g : Value} {wd : World} {es_READERS : Array DictEntry} {n_READERS : Nat} (X : K.In h) (G : h.Ns mainGlobals mg) (hfa : mg "law" = some (.ref fa)) (Y : Ty K ⟨a6i, a6o, b0y, b1l, a4s, a5h, a8q, a8r, a4t, a5i, a6p, a5j, a6q, a5k, a3h, a3p, a3i, a3q, a6r, a8s, b1m, b0z, a8t, a8u, a6s, a5l, a5m, a3r, b1n, b1g, a6t, a5n, a2m, a1n, a5o, a3s, a8v, a6u, a6v, a5p, a8w, a6w, a3t, a2u, a5q, a3u, a5r, a3v, a3j, a3w, a6j, a6y, a6k, a6z, a3k, a3y, a3l, a3z, a4u, a5s, d3r, c4m, a0s, a0t, a1o, a1p, a1q, a2v, a2w, a0q, a1g, a2y, a1r, c6k, a9z, b0g, a2q, b5k, a1h, a8y, a7g, b5l, a4g, a4v, wd⟩) (ld_READERS : K.lookup a4v = some ⟨.type "dict", none, .dict es_READERS n_READERS, #[]⟩) (kd_READERS : W.KeysLit wd.params es_READERS.toList) (ne_READERS : (a4v == sysModules) = false) : ∃ fd : FuncData, (∀ (s : Shared) (v : Value), BindsTo s fd ⟨[v], []⟩ [("_law_script", v)]) ∧ ∀ base : Heap, K.In base → base.Ns mainGlobals mg → a2t l.prog wd K mg base CX0 15 fa fd ["_law_script"] (d5n 63 K) := by
 have ea:fa=d3r:=by injection (hfa.symm.trans (W.mg_of X G Y.f8v)) with e; injection e
 rw [ea]
 have T : Tx K mg ⟨a6i, a6o, b0y, b1l, a4s, a5h, a8q, a8r, a4t, a5i, a6p, a5j, a6q, a5k, a3h, a3p, a3i, a3q, a6r, a8s, b1m, b0z, a8t, a8u, a6s, a5l, a5m, a3r, b1n, b1g, a6t, a5n, a2m, a1n, a5o, a3s, a8v, a6u, a6v, a5p, a8w, a6w, a3t, a2u, a5q, a3u, a5r, a3v, a3j, a3w, a6j, a6y, a6k, a6z, a3k, a3y, a3l, a3z, a4u, a5s, d3r, c4m, a0s, a0t, a1o, a1p, a1q, a2v, a2w, a0q, a1g, a2y, a1r, c6k, a9z, b0g, a2q, b5k, a1h, a8y, a7g, b5l, a4g, a4v, wd⟩ := ⟨Y, Y.b7q.binds (by walk_at "b2"), Y.c3n.binds (by walk_at "b1"), W.mg_of X G Y.c3j, Y.a9o.binds (by walk_at "b1"), W.mg_of X G Y.b9g, Y.b5m.binds (by walk_at "b1"), W.mg_of X G Y.c3k, Y.b3w.binds (by walk_at "b1"), Y.b3y.binds (by walk_at "b2"), Y.b3z.binds (by walk_at "b1"), Y.a7m.binds (by walk_at "b3"), W.mg_of X G Y.b7j, Y.a7n.binds (by walk_at "b2"), W.mg_of X G Y.b7k, Y.b5n.binds (by walk_at "b1"), W.mg_of X G Y.c3l, Y.b9j.binds (by walk_at "b1"), W.mg_of X G Y.c6p, Y.b5o.binds (by walk_at "b1"), W.mg_of X G Y.c3m, Y.b4g.binds (by walk_at "b2"), Y.b0p.binds (by walk_at "b1"), Y.b9k.binds (by walk_at "b1"), W.mg_of X G Y.c6q, Y.b4h.binds (by walk_at "b1"), Y.a5t.binds (by walk_at "b2"), Y.b0q.binds (by walk_at "b2"), Y.b7r.binds (by walk_at "b2"), Y.b4i.binds (by walk_at "b4"), Y.b7s.binds (by walk_at "b3"), Y.a9k.binds (by walk_at "b1"), Y.b0r.binds (by walk_at "b1"), Y.b0s.binds (by walk_at "b1"), Y.a5u.binds (by walk_at "b2"), W.mg_of X G Y.b7l, Y.b1p.binds (by walk_at "b1"), W.mg_of X G Y.c0z, Y.b1q.binds (by walk_at "b3"), W.mg_of X G Y.c1g, Y.a7o.binds (by walk_at "b4"), W.mg_of X G Y.b7m, Y.a3m.binds (by walk_at "b5"), W.mg_of X G Y.b7n, Y.a9p.binds (by walk_at "b0"), W.mg_of X G Y.b9h, Y.f4m.binds (by walk_at "b1"), W.mg_of X G Y.f8v, W.mg_none_of X G Y.b9l, W.mg_none_of X G Y.g3g, W.mg_none_of X G Y.y_bool, W.mg_none_of X G Y.g3h, W.mg_none_of X G Y.b9m, W.mg_none_of X G Y.g3i, W.mg_none_of X G Y.f4n, W.mg_none_of X G Y.d6m, W.mg_none_of X G Y.g3j, W.mg_of X G Y.c0w, W.mg_of X G Y.c0y, W.mg_of X G Y.c6l, W.mg_of X G Y.c6m, W.mg_of X G Y.c6n, W.mg_of X G Y.c9p, W.mg_of X G Y.c9q, W.mg_of X G Y.d6i, W.mg_of X G Y.c3i, W.mg_of X G Y.c9r, W.mg_of X G Y.c6o, W.mg_of X G Y.d6j, W.mg_of X G Y.c9s, W.mg_of X G Y.c9t, W.mg_of X G Y.c9u, ⟨Y.a7p, Y.a7q, Y.a7r, Y.a7s, Y.a7t, Y.a7u, Y.a7v, Y.a7w⟩, ⟨Y.a9q, Y.a9r, Y.a9s, Y.a9t, Y.a9u, Y.a9v, Y.a9w, Y.a9y⟩, ⟨Y.b5p, Y.b5q, Y.b5r, Y.b5s, Y.b5t, Y.b5u, Y.b5v, Y.b5w⟩, ⟨Y.b1r, Y.b1s, Y.b1t, Y.b1u, Y.b1v, Y.b1w, Y.b1y, Y.b1z⟩, ⟨Y.b2g, Y.b2h, Y.b2j, Y.b2k, Y.b2l, Y.b2m, Y.b2n, Y.b2o⟩, ⟨Y.a7y, Y.a7z, Y.a8g, Y.a8h, Y.a8i, Y.a8j, Y.a8k, Y.a8l⟩, ⟨Y.b2p, Y.b2q, Y.b2r, Y.b2s, Y.b2t, Y.b2u, Y.b2v, Y.b2w⟩, ⟨Y.b5y, Y.b5z, Y.b6g, Y.b6h, Y.b6i, Y.b6j, Y.b6k, Y.b6l⟩, ⟨Y.b2y, Y.b2z, Y.b3g, Y.b3h, Y.b3i, Y.b3j, Y.b3k, Y.b3l⟩, ⟨Y.a1s, Y.a1t, Y.a1u, Y.a1v, Y.a1w, Y.a1y, Y.a1z, Y.a2g⟩, ⟨Y.b6m, Y.b6n, Y.b6o, Y.b6p, Y.b6q, Y.b6r, Y.b6s, Y.b6t⟩, b1j Y.b0h ⟨Y.a1s, Y.a1t, Y.a1u, Y.a1v, Y.a1w, Y.a1y, Y.a1z, Y.a2g⟩ ⟨Y.a7p, Y.a7q, Y.a7r, Y.a7s, Y.a7t, Y.a7u, Y.a7v, Y.a7w⟩, b1j Y.b3m ⟨Y.a1s, Y.a1t, Y.a1u, Y.a1v, Y.a1w, Y.a1y, Y.a1z, Y.a2g⟩ ⟨Y.a9q, Y.a9r, Y.a9s, Y.a9t, Y.a9u, Y.a9v, Y.a9w, Y.a9y⟩, b1j Y.b7t ⟨Y.a1s, Y.a1t, Y.a1u, Y.a1v, Y.a1w, Y.a1y, Y.a1z, Y.a2g⟩ ⟨Y.b5p, Y.b5q, Y.b5r, Y.b5s, Y.b5t, Y.b5u, Y.b5v, Y.b5w⟩, b1j Y.b4q ⟨Y.a1s, Y.a1t, Y.a1u, Y.a1v, Y.a1w, Y.a1y, Y.a1z, Y.a2g⟩ ⟨Y.b1r, Y.b1s, Y.b1t, Y.b1u, Y.b1v, Y.b1w, Y.b1y, Y.b1z⟩, b1j Y.b4r ⟨Y.a1s, Y.a1t, Y.a1u, Y.a1v, Y.a1w, Y.a1y, Y.a1z, Y.a2g⟩ ⟨Y.b2g, Y.b2h, Y.b2j, Y.b2k, Y.b2l, Y.b2m, Y.b2n, Y.b2o⟩, b1j Y.b0i ⟨Y.a1s, Y.a1t, Y.a1u, Y.a1v, Y.a1w, Y.a1y, Y.a1z, Y.a2g⟩ ⟨Y.a7y, Y.a7z, Y.a8g, Y.a8h, Y.a8i, Y.a8j, Y.a8k, Y.a8l⟩, b1j Y.b4s ⟨Y.a1s, Y.a1t, Y.a1u, Y.a1v, Y.a1w, Y.a1y, Y.a1z, Y.a2g⟩ ⟨Y.b2p, Y.b2q, Y.b2r, Y.b2s, Y.b2t, Y.b2u, Y.b2v, Y.b2w⟩, b1j Y.b7u ⟨Y.a1s, Y.a1t, Y.a1u, Y.a1v, Y.a1w, Y.a1y, Y.a1z, Y.a2g⟩ ⟨Y.b5y, Y.b5z, Y.b6g, Y.b6h, Y.b6i, Y.b6j, Y.b6k, Y.b6l⟩, b1j Y.b4t ⟨Y.a1s, Y.a1t, Y.a1u, Y.a1v, Y.a1w, Y.a1y, Y.a1z, Y.a2g⟩ ⟨Y.b2y, Y.b2z, Y.b3g, Y.b3h, Y.b3i, Y.b3j, Y.b3k, Y.b3l⟩, b1j Y.b9o ⟨Y.a1s, Y.a1t, Y.a1u, Y.a1v, Y.a1w, Y.a1y, Y.a1z, Y.a2g⟩ ⟨Y.a1s, Y.a1t, Y.a1u, Y.a1v, Y.a1w, Y.a1y, Y.a1z, Y.a2g⟩, b1j Y.b7v ⟨Y.a1s, Y.a1t, Y.a1u, Y.a1v, Y.a1w, Y.a1y, Y.a1z, Y.a2g⟩ ⟨Y.b6m, Y.b6n, Y.b6o, Y.b6p, Y.b6q, Y.b6r, Y.b6s, Y.b6t⟩, f7n Y.a8m f3g, a7j Y.b0j ⟨Y.a7p, Y.a7q, Y.a7r, Y.a7s, Y.a7t, Y.a7u, Y.a7v, Y.a7w⟩, a7j Y.b3n ⟨Y.a9q, Y.a9r, Y.a9s, Y.a9t, Y.a9u, Y.a9v, Y.a9w, Y.a9y⟩, a7j Y.b7w ⟨Y.b5p, Y.b5q, Y.b5r, Y.b5s, Y.b5t, Y.b5u, Y.b5v, Y.b5w⟩, a7j Y.b4u ⟨Y.b1r, Y.b1s, Y.b1t, Y.b1u, Y.b1v, Y.b1w, Y.b1y, Y.b1z⟩, a7j Y.b4v ⟨Y.b2g, Y.b2h, Y.b2j, Y.b2k, Y.b2l, Y.b2m, Y.b2n, Y.b2o⟩, a7j Y.b0k ⟨Y.a7y, Y.a7z, Y.a8g, Y.a8h, Y.a8i, Y.a8j, Y.a8k, Y.a8l⟩, a7j Y.b4w ⟨Y.b2p, Y.b2q, Y.b2r, Y.b2s, Y.b2t, Y.b2u, Y.b2v, Y.b2w⟩, a7j Y.b7y ⟨Y.b5y, Y.b5z, Y.b6g, Y.b6h, Y.b6i, Y.b6j, Y.b6k, Y.b6l⟩, a7j Y.b4y ⟨Y.b2y, Y.b2z, Y.b3g, Y.b3h, Y.b3i, Y.b3j, Y.b3k, Y.b3l⟩, a7j Y.b9p ⟨Y.a1s, Y.a1t, Y.a1u, Y.a1v, Y.a1w, Y.a1y, Y.a1z, Y.a2g⟩, a7j Y.b7z ⟨Y.b6m, Y.b6n, Y.b6o, Y.b6p, Y.b6q, Y.b6r, Y.b6s, Y.b6t⟩, (by kernel_rfl), W.mg_of X G Y.c3o, W.mg_of X G Y.a4k, W.mg_of X G Y.b9q, W.mg_of X G Y.b8g, W.mg_of X G Y.c3q, W.mg_of X G Y.b3o, W.mg_of X G Y.c3s, ⟨⟨_, _, ld_READERS, kd_READERS⟩, ne_READERS⟩⟩
 obtain⟨_,_,_,_,_,_,_,_,_,e,_,_⟩:=Y.f4m.ex
 exact⟨c4m,fun s v=>by have e':c4m=_:=e; rw [e']; exact .of_eq rfl,fun base _ _=>g8u T⟩
end My
namespace PySem.W.Fast
theorem tw8893394080129960238:1=1:=rfl
theorem tw2908645582588977885:1=1:=rfl
theorem tw3879420800180185490:1=1:=rfl
theorem tw8542644777903086919:1=1:=rfl
theorem tw8542648304832399785:1=1:=rfl
theorem tw7298605218345473245:1=1:=rfl
theorem tw5804968657436025894:1=1:=rfl
theorem tw1870485506011109189:1=1:=rfl
theorem tw8922043191001448065:1=1:=rfl
theorem tw16485032306414972645:1=1:=rfl
theorem tw2476764131524089792:1=1:=rfl
theorem tw14046621347570812368:1=1:=rfl
theorem tw5743849977227498974:1=1:=rfl
theorem tw3500860587502816004:1=1:=rfl
theorem tw4599088657462046125:1=1:=rfl
theorem tw16091560130650989733:1=1:=rfl
theorem tw16354178804327801984:1=1:=rfl
theorem tw15738569502815757493:1=1:=rfl
theorem tw7612459888963716198:1=1:=rfl
theorem tw11136771155200972095:1=1:=rfl
theorem tw13912474860136493045:1=1:=rfl
theorem tw8789999662688691874:1=1:=rfl
theorem tw8510550879968828383:1=1:=rfl
theorem tw10581017298375126509:1=1:=rfl
theorem tw5744612379720179925:1=1:=rfl
theorem tw10727808667489374963:1=1:=rfl
theorem tw12053481565152600629:1=1:=rfl
theorem tw14277368762943534188:1=1:=rfl
theorem tw14122458891495889686:1=1:=rfl
theorem tw8958807690513852743:1=1:=rfl
theorem tw17528686124696958484:1=1:=rfl
theorem tw11100015839985449903:1=1:=rfl
theorem tw6458288384529243268:1=1:=rfl
theorem tw5482702032143604496:1=1:=rfl
theorem tw12297265469836280592:1=1:=rfl
theorem tw1303584354246387924:1=1:=rfl
theorem tw14919559370648755856:1=1:=rfl
theorem tw938027844049000905:1=1:=rfl
theorem tw1654158993580917186:1=1:=rfl
theorem tw13833755916785754896:1=1:=rfl
theorem tw5878144180995440894:1=1:=rfl
theorem tw10581639333701373481:1=1:=rfl
theorem tw13653521429652782588:1=1:=rfl
theorem tw15574094195484551114:1=1:=rfl
theorem tw10022225849740773561:1=1:=rfl
theorem tw464933486089626178:1=1:=rfl
theorem tw9122285026710382712:1=1:=rfl
theorem tw15331719304012224697:1=1:=rfl
theorem tw16151645005799188835:1=1:=rfl
theorem tw14166530378335198807:1=1:=rfl
theorem tw2783443436886043508:1=1:=rfl
theorem tw11192087124559587352:1=1:=rfl
theorem tw3363064787848231706:1=1:=rfl
theorem tw4686975481948751458:1=1:=rfl
theorem tw16542934608843882212:1=1:=rfl
theorem tw15117376782021467726:1=1:=rfl
theorem tw12292312712629869620:1=1:=rfl
theorem tw1039213437862827512:1=1:=rfl
theorem tw12539999361077712541:1=1:=rfl
theorem tw14219176233238741063:1=1:=rfl
theorem tw1380091352441088390:1=1:=rfl
theorem tw9676140642144187945:1=1:=rfl
theorem tw10764658666068588780:1=1:=rfl
theorem tw2993004933004785672:1=1:=rfl
theorem tw9941957480597201761:1=1:=rfl
theorem tw14132486509654256866:1=1:=rfl
theorem tw13301847301886395547:1=1:=rfl
theorem tw6828060939615633962:1=1:=rfl
theorem tw2404739816398522288:1=1:=rfl
theorem tw13453468228919758059:1=1:=rfl
theorem tw12745770602765513010:1=1:=rfl
theorem tw12760847895896457350:1=1:=rfl
theorem tw18389174679815450595:1=1:=rfl
theorem tw11330418105497153877:1=1:=rfl
theorem tw11572685405230242531:1=1:=rfl
theorem tw17967263463143914819:1=1:=rfl
theorem tw1224534522854312773:1=1:=rfl
theorem tw17568565247091855599:1=1:=rfl
theorem tw11803974851250361659:1=1:=rfl
theorem tw15099754284757146743:1=1:=rfl
theorem tw7966275474780752020:1=1:=rfl
theorem tw11075937136708663733:1=1:=rfl
theorem tw14378549440344694432:1=1:=rfl
theorem tw4641305988729975625:1=1:=rfl
theorem tw16916820271063807100:1=1:=rfl
theorem tw14016437785308296553:1=1:=rfl
theorem tw5467315956921248858:1=1:=rfl
theorem tw247969979794122493:1=1:=rfl
theorem tw311982553050455778:1=1:=rfl
theorem tw14019935786840944498:1=1:=rfl
theorem tw17069422276215751487:1=1:=rfl
theorem tw6635959320593640054:1=1:=rfl
theorem tw5831336011624150960:1=1:=rfl
theorem tw1502668603705585154:1=1:=rfl
theorem tw12895206394168453686:1=1:=rfl
theorem tw12068051449463796029:1=1:=rfl
theorem tw2171003485285725362:1=1:=rfl
theorem tw17661144381143468928:1=1:=rfl
theorem tw7561745518682985106:1=1:=rfl
theorem tw1411730397731911273:1=1:=rfl
theorem tw684945325954983657:1=1:=rfl
theorem tw18033953117806606793:1=1:=rfl
theorem tw6666174100361501453:1=1:=rfl
theorem tw285180025433792062:1=1:=rfl
theorem tw4186213938811861134:1=1:=rfl
theorem tw4885478794254460145:1=1:=rfl
theorem tw3857194139742885140:1=1:=rfl
theorem tw15606077967440761690:1=1:=rfl
theorem tw14966135203762898804:1=1:=rfl
theorem tw12677615152571535709:1=1:=rfl
theorem tw13319367991076819014:1=1:=rfl
theorem tw13435286833395115871:1=1:=rfl
theorem tw756415938836385198:1=1:=rfl
theorem tw14487691013608498927:1=1:=rfl
theorem tw5193452983208477417:1=1:=rfl
theorem tw3427869188325722913:1=1:=rfl
theorem tw12924316511189619190:1=1:=rfl
theorem tw11359248120527253133:1=1:=rfl
theorem tw3437596016275031131:1=1:=rfl
theorem tw1775671842419709278:1=1:=rfl
theorem tw10318084618257687318:1=1:=rfl
theorem tw1372949081420700646:1=1:=rfl
theorem tw15983383179768490526:1=1:=rfl
theorem tw3926739930216978201:1=1:=rfl
theorem tw17010527610904423306:1=1:=rfl
theorem tw3182503747387343847:1=1:=rfl
theorem tw7877289957243553911:1=1:=rfl
theorem tw9634740334374217460:1=1:=rfl
theorem tw9961441082149076343:1=1:=rfl
theorem tw8458419861881437237:1=1:=rfl
theorem tw4861769458137302547:1=1:=rfl
theorem tw11900139380556570900:1=1:=rfl
theorem tw8579887989033207189:1=1:=rfl
theorem tw11709739599255888396:1=1:=rfl
theorem tw11244418099717808147:1=1:=rfl
theorem tw3134492424811097915:1=1:=rfl
theorem tw10560255321642289776:1=1:=rfl
theorem tw4139558253189302548:1=1:=rfl
theorem tw3376954263581934907:1=1:=rfl
theorem tw14912936987523921810:1=1:=rfl
theorem tw16224942197004239954:1=1:=rfl
theorem tw14521842405566138548:1=1:=rfl
theorem tw2649875721590354232:1=1:=rfl
theorem tw15602663559675696093:1=1:=rfl
theorem tw2700766288907654495:1=1:=rfl
theorem tw5136442952895233165:1=1:=rfl
theorem tw6384664473828512582:1=1:=rfl
theorem tw4370486657809633137:1=1:=rfl
theorem tw6042525685534124837:1=1:=rfl
theorem tw1294218423150641926:1=1:=rfl
theorem tw3876901317672593777:1=1:=rfl
theorem tw7879682162130859765:1=1:=rfl
theorem tw16022719744641373144:1=1:=rfl
theorem tw7015093502532426629:1=1:=rfl
theorem tw6766147093638771255:1=1:=rfl
theorem tw3527892027517683993:1=1:=rfl
theorem tw10484185545361154239:1=1:=rfl
theorem tw7351079155367664355:1=1:=rfl
theorem tw3186260297875008741:1=1:=rfl
theorem tw1160567268134639422:1=1:=rfl
theorem tw1635656465077332616:1=1:=rfl
theorem tw15562872638453224697:1=1:=rfl
theorem tw17575831083928390425:1=1:=rfl
theorem tw14848318408959526357:1=1:=rfl
theorem tw4924682462102109304:1=1:=rfl
theorem tw10525687786246132134:1=1:=rfl
theorem tw10946811587694078551:1=1:=rfl
theorem tw16802878625175977761:1=1:=rfl
theorem tw4653915311931775414:1=1:=rfl
theorem tw7425986865344463787:1=1:=rfl
theorem tw9138675273306079626:1=1:=rfl
theorem tw1596779401183021253:1=1:=rfl
theorem tw16481358520768409275:1=1:=rfl
theorem tw3621690132506745194:1=1:=rfl
theorem tw8284513797070090661:1=1:=rfl
theorem tw2982276167010224539:1=1:=rfl
theorem tw6110812316683592948:1=1:=rfl
theorem tw6188365132369703339:1=1:=rfl
theorem tw7204080571459514114:1=1:=rfl
theorem tw710550125752271903:1=1:=rfl
theorem tw1192698314954640424:1=1:=rfl
theorem tw200650470079208367:1=1:=rfl
theorem tw1924906315963943044:1=1:=rfl
theorem tw11172755486381752585:1=1:=rfl
theorem tw7288427746117636308:1=1:=rfl
theorem tw14969646510352053504:1=1:=rfl
theorem tw17935675276727580062:1=1:=rfl
theorem tw14336862069970635092:1=1:=rfl
theorem tw4817511799470897797:1=1:=rfl
theorem tw7216732652474522650:1=1:=rfl
theorem tw10475213094819063349:1=1:=rfl
theorem tw16194245668830442774:1=1:=rfl
theorem tw12976525480920788739:1=1:=rfl
theorem tw13607864404974228769:1=1:=rfl
theorem tw3869978947055129297:1=1:=rfl
theorem tw18124032962650250300:1=1:=rfl
theorem tw2607486114945966295:1=1:=rfl
theorem tw418166344839792639:1=1:=rfl
theorem tw2873367079202827420:1=1:=rfl
theorem tw2703563770752479111:1=1:=rfl
theorem tw17413145075510145652:1=1:=rfl
theorem tw4576087811218914831:1=1:=rfl
theorem tw3803247593118358673:1=1:=rfl
theorem tw6172371995558031608:1=1:=rfl
theorem tw4235355116233750893:1=1:=rfl
theorem tw2296722134704840989:1=1:=rfl
theorem tw6740676104353487258:1=1:=rfl
theorem tw15439979365431568499:1=1:=rfl
theorem tw10552757713399182327:1=1:=rfl
theorem tw10258053442381978803:1=1:=rfl
theorem tw12964835500700138739:1=1:=rfl
theorem tw16211040512791830750:1=1:=rfl
theorem tw9172404910699858610:1=1:=rfl
theorem tw11705974198859191627:1=1:=rfl
theorem tw9383838836249379552:1=1:=rfl
theorem tw6902979269170024835:1=1:=rfl
theorem tw3187799409549173228:1=1:=rfl
theorem tw10611017636599645027:1=1:=rfl
theorem tw10789301103577828703:1=1:=rfl
theorem tw6089305847946053713:1=1:=rfl
theorem tw17460113294083223811:1=1:=rfl
theorem tw4311627624583624988:1=1:=rfl
theorem tw12131195052171545108:1=1:=rfl
theorem tw13940759168050099782:1=1:=rfl
theorem tw14073398832702313865:1=1:=rfl
theorem tw9571949769081441967:1=1:=rfl
theorem tw6914184282071029971:1=1:=rfl
theorem tw12470404275979057583:1=1:=rfl
theorem tw8279169627973155593:1=1:=rfl
theorem tw7214127814296061767:1=1:=rfl
theorem tw8047574278660264591:1=1:=rfl
theorem tw16642988865127357125:1=1:=rfl
theorem tw8871134066652737982:1=1:=rfl
theorem tw6803533679295111458:1=1:=rfl
theorem tw11545909741400876325:1=1:=rfl
theorem tw4358155471589474590:1=1:=rfl
theorem tw3056839475648013687:1=1:=rfl
theorem tw1632008658082173038:1=1:=rfl
theorem tw17213806826597303668:1=1:=rfl
theorem tw6397260051013374966:1=1:=rfl
theorem tw9507019177775441172:1=1:=rfl
theorem tw13371972457154180072:1=1:=rfl
theorem tw7448238893766615689:1=1:=rfl
theorem tw7514446462006714397:1=1:=rfl
theorem tw5821945897254971563:1=1:=rfl
theorem tw10409696313561631677:1=1:=rfl
theorem tw1019141253546115386:1=1:=rfl
theorem tw9788176684816854752:1=1:=rfl
theorem tw15428123447674636923:1=1:=rfl
theorem tw5253037312497643849:1=1:=rfl
theorem tw114458723104200614:1=1:=rfl
theorem tw13032177023830036747:1=1:=rfl
theorem tw8008975194968479842:1=1:=rfl
theorem tw18045423386180817889:1=1:=rfl
theorem tw4724110587382073854:1=1:=rfl
theorem tw9975234972296336452:1=1:=rfl
theorem tw11374749101485089601:1=1:=rfl
theorem tw10036799562096532683:1=1:=rfl
theorem tw9539385076474227145:1=1:=rfl
theorem tw7866975561600367082:1=1:=rfl
theorem tw3018990011348751524:1=1:=rfl
theorem tw4703124863599847840:1=1:=rfl
theorem tw12583348568122082127:1=1:=rfl
theorem tw14133202572264631180:1=1:=rfl
theorem tw2269725442250901093:1=1:=rfl
theorem tw15766902655800388753:1=1:=rfl
theorem tw14313706335717261684:1=1:=rfl
theorem tw6981559350646090651:1=1:=rfl
theorem tw3644656512907006603:1=1:=rfl
theorem tw17320094288841321408:1=1:=rfl
theorem tw7483161628958051365:1=1:=rfl
theorem tw8502224801471790700:1=1:=rfl
theorem tw15491488621075965166:1=1:=rfl
theorem tw7382361343148439402:1=1:=rfl
theorem tw17567002132648253042:1=1:=rfl
theorem tw3785402205785102826:1=1:=rfl
theorem tw875534255132028663:1=1:=rfl
theorem tw1482566138935762000:1=1:=rfl
theorem tw12400845940336518089:1=1:=rfl
theorem tw13130067318525574543:1=1:=rfl
theorem tw5351060197427061660:1=1:=rfl
theorem tw3266121695893222520:1=1:=rfl
theorem tw11930001020997230037:1=1:=rfl
theorem tw10259242383918533312:1=1:=rfl
theorem tw5469706124315871588:1=1:=rfl
theorem tw4548603562372764829:1=1:=rfl
theorem tw1686969435496287693:1=1:=rfl
theorem tw5560007771107142686:1=1:=rfl
theorem tw5885088829568912011:1=1:=rfl
theorem tw7099500674939613817:1=1:=rfl
theorem tw4849911812467123882:1=1:=rfl
theorem tw8111694936198979998:1=1:=rfl
theorem tw356731058480573792:1=1:=rfl
theorem tw3802078117396397380:1=1:=rfl
theorem tw13603437211220459069:1=1:=rfl
theorem tw15137739222536118649:1=1:=rfl
theorem tw2596554405068063248:1=1:=rfl
theorem tw17964311135840124361:1=1:=rfl
theorem tw3198592791214493812:1=1:=rfl
theorem tw2991253238947268356:1=1:=rfl
theorem tw15635905410603165876:1=1:=rfl
theorem tw17405597441921385026:1=1:=rfl
theorem tw840617022988984144:1=1:=rfl
theorem tw2723826727251557143:1=1:=rfl
theorem tw17337576901849457089:1=1:=rfl
theorem tw10851050342537765803:1=1:=rfl
theorem tw5164018473407746508:1=1:=rfl
theorem tw8842685504592251324:1=1:=rfl
theorem tw13520302448693736357:1=1:=rfl
theorem tw8502884898958195515:1=1:=rfl
theorem tw6936069200468920981:1=1:=rfl
theorem tw7792822963110349643:1=1:=rfl
theorem tw9534977041596055889:1=1:=rfl
theorem tw15495998778112848949:1=1:=rfl
theorem tw1503932653237704741:1=1:=rfl
theorem tw9176576393467627644:1=1:=rfl
theorem tw10316901022878175049:1=1:=rfl
theorem tw3835040315176983762:1=1:=rfl
theorem tw2195522811032257162:1=1:=rfl
theorem tw11406767404371781324:1=1:=rfl
theorem tw7891517261913019240:1=1:=rfl
theorem tw9051608094077102496:1=1:=rfl
theorem tw1465912280582609389:1=1:=rfl
theorem tw1055897148180072793:1=1:=rfl
theorem tw17455440154040512710:1=1:=rfl
theorem tw12803847615545406223:1=1:=rfl
theorem tw14185032544283426543:1=1:=rfl
theorem tw7908656778304126797:1=1:=rfl
theorem tw10270959690424826407:1=1:=rfl
theorem tw17591540406799571992:1=1:=rfl
theorem tw12998242695367948454:1=1:=rfl
theorem tw15505519112256670737:1=1:=rfl
theorem tw11009617942872729805:1=1:=rfl
theorem tw3856462928666220770:1=1:=rfl
theorem tw16542225457176808879:1=1:=rfl
theorem tw13408163793216206292:1=1:=rfl
theorem tw2902113965411445166:1=1:=rfl
theorem tw16269309242710148868:1=1:=rfl
theorem tw14775382863082812757:1=1:=rfl
theorem tw18182144874645875734:1=1:=rfl
theorem tw7178155737081724853:1=1:=rfl
theorem tw1109946359561904443:1=1:=rfl
theorem tw1455659751943956099:1=1:=rfl
theorem tw7648919089442197354:1=1:=rfl
theorem tw6429970134210943786:1=1:=rfl
theorem tw216609841405886707:1=1:=rfl
theorem tw6394849504491093979:1=1:=rfl
theorem tw16252365760969417259:1=1:=rfl
theorem tw14992952467795377770:1=1:=rfl
theorem tw17196442408333662062:1=1:=rfl
theorem tw6029635641000325199:1=1:=rfl
theorem tw8747593127445320182:1=1:=rfl
theorem tw4867759270965493884:1=1:=rfl
theorem tw6238419148127349557:1=1:=rfl
theorem tw17192652774113938025:1=1:=rfl
theorem tw3051542444274296777:1=1:=rfl
theorem tw590809986565694357:1=1:=rfl
theorem tw4810350194735126044:1=1:=rfl
theorem tw5969163495264671851:1=1:=rfl
theorem tw8038549606381196493:1=1:=rfl
theorem tw10500676836204888343:1=1:=rfl
theorem tw11069827162035677099:1=1:=rfl
theorem tw6589186789991218202:1=1:=rfl
theorem tw16875961789502705911:1=1:=rfl
theorem tw7752606487259691757:1=1:=rfl
theorem tw9878290275717125995:1=1:=rfl
theorem tw5637135040477577391:1=1:=rfl
theorem tw1674553565420370416:1=1:=rfl
theorem tw1013147378855186513:1=1:=rfl
theorem tw787415264374172984:1=1:=rfl
theorem tw6248572791113334351:1=1:=rfl
theorem tw5789817319022518823:1=1:=rfl
theorem tw5225235856654913100:1=1:=rfl
theorem tw1345292783790025298:1=1:=rfl
theorem tw6069240846493826674:1=1:=rfl
theorem tw17491798709632676325:1=1:=rfl
theorem tw11732687642998005524:1=1:=rfl
theorem tw9235428379038295366:1=1:=rfl
theorem tw1014973451879942709:1=1:=rfl
theorem tw9106001445025021952:1=1:=rfl
theorem tw10168899561288358162:1=1:=rfl
theorem tw13811988115186631514:1=1:=rfl
theorem tw5378751880048812816:1=1:=rfl
theorem tw18435986642310322488:1=1:=rfl
theorem tw18266543524417203474:1=1:=rfl
theorem tw11147974033562129884:1=1:=rfl
theorem tw7715314985325028917:1=1:=rfl
theorem tw3161245357888427996:1=1:=rfl
theorem tw11181008904544718992:1=1:=rfl
theorem tw8539518085988078228:1=1:=rfl
theorem tw5808020483356420009:1=1:=rfl
theorem tw998440053936756675:1=1:=rfl
theorem tw11038188303103523218:1=1:=rfl
theorem tw664316144096675851:1=1:=rfl
theorem tw17835545125044806885:1=1:=rfl
theorem tw13648349218965828354:1=1:=rfl
theorem tw3568163040711780191:1=1:=rfl
theorem tw242419360857948891:1=1:=rfl
theorem tw12911732498638898233:1=1:=rfl
theorem tw11609454167090331735:1=1:=rfl
theorem tw11695215907885772808:1=1:=rfl
theorem tw16857113752343451525:1=1:=rfl
theorem tw17819874729850334644:1=1:=rfl
theorem tw4865638604223106114:1=1:=rfl
theorem tw17168617904806795817:1=1:=rfl
theorem tw362633496964389248:1=1:=rfl
theorem tw738689941700763435:1=1:=rfl
theorem tw1972112357793375407:1=1:=rfl
theorem tw15449283549765591454:1=1:=rfl
theorem tw1212148199074147818:1=1:=rfl
theorem tw8152636382788560819:1=1:=rfl
theorem tw6280595468055508777:1=1:=rfl
theorem tw13201468651869830057:1=1:=rfl
theorem tw10085485246283396068:1=1:=rfl
theorem tw9145634141967797964:1=1:=rfl
theorem tw2499519416454138234:1=1:=rfl
theorem tw14327210907042176596:1=1:=rfl
theorem tw3412939639464459206:1=1:=rfl
theorem tw12655469850937434427:1=1:=rfl
theorem tw8014849649812119760:1=1:=rfl
theorem tw4837505388374133689:1=1:=rfl
theorem tw15649244006594454771:1=1:=rfl
theorem tw15373892157697925470:1=1:=rfl
theorem tw8851305071745637783:1=1:=rfl
theorem tw15197575204093946250:1=1:=rfl
theorem tw11786584593378238092:1=1:=rfl
theorem tw2083270707073179060:1=1:=rfl
theorem tw10950675435528394537:1=1:=rfl
theorem tw3220792455278013124:1=1:=rfl
theorem tw10243575257512008920:1=1:=rfl
theorem tw16589933130489614767:1=1:=rfl
theorem tw8626215281421562540:1=1:=rfl
theorem tw4467108653669884632:1=1:=rfl
theorem tw2082583459330733167:1=1:=rfl
theorem tw17686290446025278742:1=1:=rfl
theorem tw16170764519073901294:1=1:=rfl
theorem tw11714494104495631489:1=1:=rfl
theorem tw595584467967491437:1=1:=rfl
theorem tw2551514860380853683:1=1:=rfl
theorem tw4841483713027878727:1=1:=rfl
theorem tw2495423853698923683:1=1:=rfl
theorem tw8225403667952137180:1=1:=rfl
theorem tw962591008600396347:1=1:=rfl
theorem tw1039331859628083398:1=1:=rfl
theorem tw18350951851696265885:1=1:=rfl
theorem tw465623861923150101:1=1:=rfl
theorem tw11202700940524276996:1=1:=rfl
theorem tw13507953220708259648:1=1:=rfl
theorem tw9494235935486505038:1=1:=rfl
theorem tw8768651081717381121:1=1:=rfl
theorem tw1693400065645922139:1=1:=rfl
theorem tw2381436311021804815:1=1:=rfl
theorem tw3261533959322416034:1=1:=rfl
theorem tw16665865149397078548:1=1:=rfl
theorem tw11469014946166563489:1=1:=rfl
theorem tw8570409511927544699:1=1:=rfl
theorem tw730251102356676263:1=1:=rfl
theorem tw11746336336664826905:1=1:=rfl
theorem tw12148398301702875607:1=1:=rfl
theorem tw17575507260068027812:1=1:=rfl
theorem tw549028115180747016:1=1:=rfl
theorem tw2770044770429256299:1=1:=rfl
theorem tw6481524344250564716:1=1:=rfl
theorem tw16397770821504695723:1=1:=rfl
theorem tw15399269915876391315:1=1:=rfl
theorem tw3294052529305632206:1=1:=rfl
theorem tw9421222039309072793:1=1:=rfl
theorem tw13473435907912406008:1=1:=rfl
theorem tw855189565968333681:1=1:=rfl
theorem tw1930284291378842272:1=1:=rfl
theorem tw5191826283406592403:1=1:=rfl
theorem tw11016674409758060097:1=1:=rfl
theorem tw5409218148144478086:1=1:=rfl
theorem tw14257171422528775260:1=1:=rfl
theorem tw4614219747697633793:1=1:=rfl
theorem tw3836042309370482417:1=1:=rfl
theorem tw9160578779842906210:1=1:=rfl
theorem tw13022241659924289386:1=1:=rfl
theorem tw1759724714442226823:1=1:=rfl
theorem tw320378542107223450:1=1:=rfl
theorem tw17728505268383279477:1=1:=rfl
theorem tw4162780687963523711:1=1:=rfl
theorem tw6447229653391346212:1=1:=rfl
theorem tw10766427736518315540:1=1:=rfl
theorem tw4796781329027818260:1=1:=rfl
theorem tw7202889311382057337:1=1:=rfl
theorem tw2171908658007649865:1=1:=rfl
theorem tw13120254247834296458:1=1:=rfl
theorem tw11904521910402826739:1=1:=rfl
theorem tw5575783099214334890:1=1:=rfl
theorem tw3489135838307809381:1=1:=rfl
theorem tw9883662123204888631:1=1:=rfl
theorem tw1022941879923818120:1=1:=rfl
theorem tw10437192425748932020:1=1:=rfl
theorem tw17505301924833837398:1=1:=rfl
theorem tw248454238372693083:1=1:=rfl
theorem tw1285957805449674648:1=1:=rfl
theorem tw6859401939483249959:1=1:=rfl
theorem tw1721175827045251644:1=1:=rfl
theorem tw2562478424774581334:1=1:=rfl
theorem tw13409323949198777810:1=1:=rfl
theorem tw15261004298246535739:1=1:=rfl
theorem tw844515851252535961:1=1:=rfl
theorem tw14242476921156482241:1=1:=rfl
theorem tw4010528931993681658:1=1:=rfl
theorem tw17087718096767958358:1=1:=rfl
theorem tw17720221907811090531:1=1:=rfl
theorem tw9119219672554430870:1=1:=rfl
theorem tw4386028742571586364:1=1:=rfl
theorem tw13715931680230628675:1=1:=rfl
theorem tw13468505250773996095:1=1:=rfl
theorem tw14334731238051936310:1=1:=rfl
theorem tw10506207767243397875:1=1:=rfl
theorem tw7073987697571541607:1=1:=rfl
theorem tw1374428172429391993:1=1:=rfl
theorem tw7670999121873744699:1=1:=rfl
theorem tw12645696574618959116:1=1:=rfl
theorem tw12310337296109655848:1=1:=rfl
theorem tw4772883528104565134:1=1:=rfl
theorem tw9671633407294617307:1=1:=rfl
theorem tw12361787130034355713:1=1:=rfl
theorem tw1601365083824650624:1=1:=rfl
theorem tw12657270586390732722:1=1:=rfl
theorem tw665774870773274806:1=1:=rfl
theorem tw1483605731929578843:1=1:=rfl
theorem tw11860301345588796988:1=1:=rfl
theorem tw9011018974462577436:1=1:=rfl
theorem tw14644115857557524693:1=1:=rfl
theorem tw3701079302185606930:1=1:=rfl
theorem tw7756743716328104958:1=1:=rfl
theorem tw13108503045587184476:1=1:=rfl
theorem tw180207233962578208:1=1:=rfl
theorem tw13640621129303764270:1=1:=rfl
theorem tw12664109440495031104:1=1:=rfl
theorem tw2617093150271954572:1=1:=rfl
theorem tw5705605547767747336:1=1:=rfl
theorem tw5105469540687434288:1=1:=rfl
theorem tw5671837686783138740:1=1:=rfl
theorem tw2170187834857844644:1=1:=rfl
theorem tw14837589306010331636:1=1:=rfl
theorem tw4453695459936790872:1=1:=rfl
theorem tw15218534670753368997:1=1:=rfl
theorem tw13520157598907846161:1=1:=rfl
theorem tw4682281818990253433:1=1:=rfl
theorem tw481609069758382307:1=1:=rfl
theorem tw11847754674116435526:1=1:=rfl
theorem tw16595886771869719983:1=1:=rfl
theorem tw17762154783335738084:1=1:=rfl
theorem tw12896545819822205407:1=1:=rfl
theorem tw15770874249533111518:1=1:=rfl
theorem tw5176373449731292954:1=1:=rfl
theorem tw15236420740794694710:1=1:=rfl
theorem tw13352455999140930232:1=1:=rfl
theorem tw11096760995310669566:1=1:=rfl
theorem tw2183971070682160857:1=1:=rfl
theorem tw1309155341643122326:1=1:=rfl
theorem tw6774194184999132257:1=1:=rfl
theorem tw961780160518484694:1=1:=rfl
theorem tw8136585990064136120:1=1:=rfl
theorem tw17816740866279549356:1=1:=rfl
theorem tw5304656714967506053:1=1:=rfl
theorem tw10239173795680051565:1=1:=rfl
theorem tw1994094085726312953:1=1:=rfl
theorem tw3919524937863692930:1=1:=rfl
theorem tw1917327495349808652:1=1:=rfl
theorem tw12663624507863111630:1=1:=rfl
theorem tw6179335971837868919:1=1:=rfl
theorem tw13285868732835985193:1=1:=rfl
theorem tw4209515529744964135:1=1:=rfl
theorem tw3052751653879772304:1=1:=rfl
theorem tw17079348660678755753:1=1:=rfl
theorem tw11604425963452622323:1=1:=rfl
theorem tw873129139379564282:1=1:=rfl
theorem tw3147089271800417700:1=1:=rfl
theorem tw10072408162979159253:1=1:=rfl
theorem tw10857337350202552672:1=1:=rfl
theorem tw3606114905550133342:1=1:=rfl
theorem tw12259929017453182923:1=1:=rfl
theorem tw17456005943595590979:1=1:=rfl
theorem tw1578557248658615489:1=1:=rfl
theorem tw10908500940517141309:1=1:=rfl
theorem tw6172235777179988895:1=1:=rfl
theorem tw12872008799331992442:1=1:=rfl
theorem tw5902613755084912186:1=1:=rfl
theorem tw11112992669405457820:1=1:=rfl
theorem tw5525352525884889756:1=1:=rfl
theorem tw10236584208627013887:1=1:=rfl
theorem tw3199486899044886719:1=1:=rfl
theorem tw39063618841359372:1=1:=rfl
theorem tw4400226382665011981:1=1:=rfl
theorem tw9657254260834527083:1=1:=rfl
theorem tw17756758338635527776:1=1:=rfl
theorem tw17099105445554550454:1=1:=rfl
theorem tw11690190173853777412:1=1:=rfl
theorem tw567682988941190086:1=1:=rfl
theorem tw17732092825624204907:1=1:=rfl
theorem tw2736788943501529675:1=1:=rfl
theorem tw18097448418247437239:1=1:=rfl
theorem tw12437434765054000091:1=1:=rfl
theorem tw10528834043304144610:1=1:=rfl
theorem tw1228891080442751254:1=1:=rfl
theorem tw6552868508660115626:1=1:=rfl
theorem tw4607765487318267220:1=1:=rfl
theorem tw6448322773568724365:1=1:=rfl
theorem tw18372733467747469122:1=1:=rfl
theorem tw15328623810281121186:1=1:=rfl
theorem tw8228475802853087819:1=1:=rfl
theorem tw1195186188710429863:1=1:=rfl
theorem tw5376312442248069153:1=1:=rfl
theorem tw4795836038033710065:1=1:=rfl
theorem tw6678314818519559066:1=1:=rfl
theorem tw18117048231410427875:1=1:=rfl
theorem tw12419482306858472849:1=1:=rfl
theorem tw12980345408761468371:1=1:=rfl
theorem tw3676749444484914520:1=1:=rfl
theorem tw10762916682022899880:1=1:=rfl
theorem tw17812700974888791312:1=1:=rfl
theorem tw1968506400760945596:1=1:=rfl
theorem tw6831177707529908322:1=1:=rfl
theorem tw4676417737153660567:1=1:=rfl
theorem tw7492249147487980889:1=1:=rfl
theorem tw149843985418013817:1=1:=rfl
theorem tw817502550746939510:1=1:=rfl
theorem tw15626037328170653118:1=1:=rfl
theorem tw8916565604969912127:1=1:=rfl
theorem tw87578309387581346:1=1:=rfl
theorem tw12820531286940675065:1=1:=rfl
theorem tw16777454992317030982:1=1:=rfl
theorem tw18412791719250820270:1=1:=rfl
theorem tw2579906446139702037:1=1:=rfl
theorem tw6192576737114553257:1=1:=rfl
theorem tw16797098667956528051:1=1:=rfl
theorem tw810957762372982362:1=1:=rfl
theorem tw991445092832083994:1=1:=rfl
theorem tw3879829668383361234:1=1:=rfl
theorem tw11946948976565508426:1=1:=rfl
theorem tw8077660819876602649:1=1:=rfl
theorem tw4857977018601553199:1=1:=rfl
theorem tw5152527955857019689:1=1:=rfl
theorem tw6920239753305041622:1=1:=rfl
theorem tw9511051873601561879:1=1:=rfl
theorem tw3519942053769956610:1=1:=rfl
theorem tw13178837326020108894:1=1:=rfl
theorem tw8588959597316791331:1=1:=rfl
theorem tw8781910575948271720:1=1:=rfl
theorem tw3746146662800777893:1=1:=rfl
theorem tw2353332054054093194:1=1:=rfl
theorem tw15841218990006481015:1=1:=rfl
theorem tw285129246160014885:1=1:=rfl
theorem tw2785755052362565642:1=1:=rfl
theorem tw16343880708886326855:1=1:=rfl
theorem tw2865446282896001370:1=1:=rfl
theorem tw15420923195901407390:1=1:=rfl
theorem tw4404859889711032577:1=1:=rfl
theorem tw10574636450757198000:1=1:=rfl
theorem tw8519651943464529059:1=1:=rfl
theorem tw916124905529531743:1=1:=rfl
theorem tw7936287693572046054:1=1:=rfl
theorem tw17897379107317870534:1=1:=rfl
theorem tw8472289397084091237:1=1:=rfl
theorem tw3477625783966535855:1=1:=rfl
theorem tw4502806879583068641:1=1:=rfl
theorem tw16281493929968282691:1=1:=rfl
theorem tw16243341309308411138:1=1:=rfl
theorem tw11929219518854383976:1=1:=rfl
theorem tw16490308076351759818:1=1:=rfl
theorem tw13528022772605339734:1=1:=rfl
theorem tw5598923218360142376:1=1:=rfl
theorem tw665894953863189294:1=1:=rfl
theorem tw11333861870119840942:1=1:=rfl
theorem tw2238252208050377589:1=1:=rfl
theorem tw7677344320211634598:1=1:=rfl
theorem tw5836574876899641173:1=1:=rfl
theorem tw17260874529379364821:1=1:=rfl
theorem tw13336833558572957895:1=1:=rfl
theorem tw1117099160193992594:1=1:=rfl
theorem tw5853112358549932739:1=1:=rfl
theorem tw1709763379507310461:1=1:=rfl
theorem tw11389797268346665466:1=1:=rfl
theorem tw10266006410034446316:1=1:=rfl
theorem tw17526175431387560733:1=1:=rfl
theorem tw2385306649303697540:1=1:=rfl
theorem tw3944266077492600615:1=1:=rfl
theorem tw10708124372258673447:1=1:=rfl
theorem tw1115778258544522301:1=1:=rfl
theorem tw11669703890028650557:1=1:=rfl
theorem tw14501698757035968450:1=1:=rfl
theorem tw17875382067786907001:1=1:=rfl
theorem tw6981802333825931753:1=1:=rfl
theorem tw9096153371724192405:1=1:=rfl
theorem tw8544908566027617276:1=1:=rfl
theorem tw2282015960140883840:1=1:=rfl
theorem tw16663428607122395834:1=1:=rfl
theorem tw6603979764192516734:1=1:=rfl
theorem tw10148915448564487840:1=1:=rfl
theorem tw2486440937424127860:1=1:=rfl
theorem tw16946814112629250713:1=1:=rfl
theorem tw1162238657598142485:1=1:=rfl
theorem tw233562746318760481:1=1:=rfl
theorem tw5579196331764422956:1=1:=rfl
end PySem.W.Fast
open PySem PySem.W PyProof.Rows L2
set_option maxRecDepth 100000 in
set_option maxHeartbeats 0 in
theorem PySem.Challenge.cw_mixbench_k53_rings_holds : PySem.Challenge.rw_mixbench_k53_rings.Holds := by
 w_on; o_law; k_head; (case hw=>w_witness2)
 k_fill
 refine L2.f7k (l := PySem.Challenge.rw_mixbench_k53_rings) (k := 15) (x := "_law_script") (CX := fun _ => L2.CX0) rfl rfl ⟨rfl, by decide, by decide⟩ (fun w h Y => PySem.W.kIn_of Y) ?F (fun _ _ _ _ _ z => z)
 case F =>
  intro w mg fa h KX G hmg
  refine' My.all_mk (wd:=w) KX G hmg ⟨?c0w,?c0y,?c6l,?c6m,?c6n,?c9p,?c9q,?d6i,?c3i,?c9r,?c6o,?d6j,?c9s,?c9t,?c9u,?c3j,?b9g,?c3k,?b7j,?b7k,?c3l,?c6p,?c3m,?c6q,?b7l,?c0z,?c1g,?b7m,?b7n,?b9h,?f8v,?f4k,?b7o,?c1h,?f4l,?c2p,?a4n,?a0z,?d6k,?b7p,?b4m,?b0o,?a2l,?a1m,?d6l,?b4n,?a0p,?a0h,?a0j,?a0i,?a0k,?c9v,?a4o,?b4o,?b3v,?a7l,?b9i,?b1o,?b4p,?a9j,?b7q,?c3n,?a9o,?b5m,?b3w,?b3y,?b3z,?a7m,?a7n,?b5n,?b9j,?b5o,?b4g,?b0p,?b9k,?b4h,?a5t,?b0q,?b7r,?b4i,?b7s,?a9k,?b0r,?b0s,?a5u,?b1p,?b1q,?a7o,?a3m,?a9p,?f4m,?b9l,?g3g,?y_bool,?g3h,?b9m,?g3i,?f4n,?d6m,?g3j,?a7p,?a7q,?a7r,?a7s,?a7t,?a7u,?a7v,?a7w,?a9q,?a9r,?a9s,?a9t,?a9u,?a9v,?a9w,?a9y,?b5p,?b5q,?b5r,?b5s,?b5t,?b5u,?b5v,?b5w,?b1r,?b1s,?b1t,?b1u,?b1v,?b1w,?b1y,?b1z,?b2g,?b2h,?b2j,?b2k,?b2l,?b2m,?b2n,?b2o,?a7y,?a7z,?a8g,?a8h,?a8i,?a8j,?a8k,?a8l,?b2p,?b2q,?b2r,?b2s,?b2t,?b2u,?b2v,?b2w,?b5y,?b5z,?b6g,?b6h,?b6i,?b6j,?b6k,?b6l,?b2y,?b2z,?b3g,?b3h,?b3i,?b3j,?b3k,?b3l,?a1s,?a1t,?a1u,?a1v,?a1w,?a1y,?a1z,?a2g,?b6m,?b6n,?b6o,?b6p,?b6q,?b6r,?b6s,?b6t,?b0h,?b9n,?b3m,?b7t,?b4q,?b4r,?b0i,?b4s,?b7u,?b4t,?b9o,?c1i,?b7v,?a8m,?b0j,?b3n,?b7w,?b4u,?b4v,?b0k,?b4w,?b7y,?b4y,?b9p,?b7z,?c3o,?c3p,?a4k,?a4l,?b9q,?b9r,?b8g,?b8h,?c3q,?c3r,?b3o,?b3p,?c3s,?b0l⟩ ?ld_READERS ?kd_READERS ?ne_READERS
  case c0w | c0y | c6l | c6m | c6n | c9p | c9q | d6i | c3i | c9r | c6o | d6j | c9s | c9t | c9u | c3j | b9g | c3k | b7j | b7k | c3l | c6p | c3m | c6q | b7l | c0z | c1g | b7m | b7n | b9h | f8v | f4k | a7p | a7q | a7r | a7s | a7t | a7u | a7v | a7w | a9q | a9r | a9s | a9t | a9u | a9v | a9w | a9y | b5p | b5q | b5r | b5s | b5t | b5u | b5v | b5w | b1r | b1s | b1t | b1u => dsimp only; k_is
  case b1v | b1w | b1y | b1z | b2g | b2h | b2j | b2k | b2l | b2m | b2n | b2o | a7y | a7z | a8g | a8h | a8i | a8j | a8k | a8l | b2p | b2q | b2r | b2s | b2t | b2u | b2v | b2w | b5y | b5z | b6g | b6h | b6i | b6j | b6k | b6l | b2y | b2z | b3g | b3h | b3i | b3j | b3k | b3l | a1s | a1t | a1u | a1v | a1w | a1y | a1z | a2g | b6m | b6n | b6o | b6p | b6q | b6r | b6s | b6t => dsimp only; k_is
  case b0h | b9n | b3m | b7t | b4q | b4r | b0i | b4s | b7u | b4t | b9o | c1i | b7v | a8m | b0j | b3n | b7w | b4u | b4v | b0k | b4w | b7y | b4y | b9p | b7z | c3o | a4k | b9q | b8g | c3q | b3o | c3s | b0l => dsimp only; k_is
  case b7o => (dsimp only; refine' ⟨?o, ?a, ?b, ?c, ?d, ?e⟩; (case a => k_is); (case b => k_is); (case c => k_is); (case d => k_is); (case e => k_is); (case o => kernel_rfl))
  case c1h => (dsimp only; refine' ⟨?a, ?b, ?c⟩; (case a => k_is); (case b => k_is); (case c => k_is))
  case f4l | a4n | b0o | a0p => refine' ⟨?_, ?_, ?_, ?_⟩ <;> ((try dsimp only); k_is)
  case c2p | b7p | b4m | b4n | a4o | b4o | b3v | a7l | b9i | b1o | b4p | a9j => (dsimp only; refine' ⟨?a, ?l, ?c⟩; (case a => k_is); (case l => k_is); (case c => k_is))
  case a0z | a2l | a1m | a0h | a0j | a0i | a0k => dsimp only; unfold a4m; k_is
  case d6k | d6l | c9v => (dsimp only; refine' ⟨?a, ?l, ?c, ?k⟩; (case a => k_is); (case l => k_is); (case c => k_is); (case k => k_is))
  case b7q | c3n | a9o | b5m | b3w | b3y | b3z | a7m | a7n | b5n | b9j | b5o | b4g | b0p | b9k | b4h | a5t | b0q | b7r | b4i | b7s | a9k | b0r | b0s | a5u | b1p | b1q | a7o | a3m | a9p | f4m => (dsimp only; refine' a2n ?l ?c ?k; (try dsimp only); (case l => k_is); (case c => k_is); (case k => k_is))
  case b9l | g3g | y_bool | g3h | b9m | g3i | f4n | d6m | g3j | ld_READERS => k_is
  case c3p | a4l | b9r | b8h | c3r | b3p => exact ⟨_, rfl⟩
  (case kd_READERS=>k_keys)
  (case ne_READERS=>decide)
