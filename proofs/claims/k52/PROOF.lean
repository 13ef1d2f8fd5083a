import PyProof.Rows.All
import Wide.All
import OpenK.AllK
import Wide.FinOn
import Lean
import PyProof.EqAt
import PyProof.EqKinds
import PyProof.TupleCall
import PySem.Challenge.RW_mixbench_k52_refused_of_patches
set_option Elab.async false
set_option linter.all false
set_option maxRecDepth 100000
namespace L2
open PySem PySem.Spec PyProof.Rows
noncomputable abbrev Key:=Sum Int Str
noncomputable def g5u:Key->Value->Bool
 | .inl k,v=>Value.isInt k v
 | .inr x,v=>Value.isStrOf x v
noncomputable def keyH(w:World):Key->Int
 | .inl k=>hashInt k
 | .inr x=>hashStr w x
theorem a9t:∀ {k:Key} {v:Value},g5u k v=true->(∃ i t,k=Sum.inl i/\v=Value.int i t)\/(∃ x t,k=Sum.inr x/\v=Value.str x t)
 | .inl i,v,h=>by
  obtain⟨t,e⟩:=Value.isInt_shape (k:=i) (v:=v) h
  exact .inl ⟨i,t,rfl,e⟩
 | .inr x,v,h=>by
  obtain⟨t,e⟩:=Value.isStrOf_shape (x:=x) (v:=v) h
  exact .inr ⟨x,t,rfl,e⟩
theorem g7w(i:Int)(t:Tok):g5u (.inl i) (.int i t)=true:=by simp [g5u,Value.isInt]
theorem g7x(x:Str)(t:Tok):g5u (.inr x) (.str x t)=true:=by simp [g5u,Value.isStrOf]
theorem i1o(a b:Int):decide ((Sum.inl a:Key)=Sum.inl b)=(a == b):=by
 by_cases e:a=b
 ·subst e; simp
 ·have h:¬ (Sum.inl a:Key)=Sum.inl b:=fun q=>e (Sum.inl.inj q)
  rw [decide_eq_false h]
  exact (beq_eq_false_iff_ne.mpr e).symm
theorem i1p(a b:Str):decide ((Sum.inr a:Key)=Sum.inr b)=decide (a=b):=by
 by_cases e:a=b
 ·subst e; simp
 ·have h:¬ (Sum.inr a:Key)=Sum.inr b:=fun q=>e (Sum.inr.inj q)
  rw [decide_eq_false h,decide_eq_false e]
theorem i1q(a:Int)(b:Str):decide ((Sum.inl a:Key)=Sum.inr b)=false:=decide_eq_false (fun q=>nomatch q)
theorem i1r(a:Str)(b:Int):decide ((Sum.inr a:Key)=Sum.inl b)=false:=decide_eq_false (fun q=>nomatch q)
noncomputable def b4k(prog:Program)(w:World):PySem.KeyKind prog w Key where
 is:=g5u
 hash:=keyH w
 inj:=fun v a b ha hb=>by
  rcases a9t ha with ⟨i,t,rfl,rfl⟩ | ⟨x,t,rfl,rfl⟩
  ·rcases a9t hb with ⟨j,u,rfl,e⟩ | ⟨y,u,rfl,e⟩
   ·injection e with e1 _; rw [e1]
   ·exact nomatch e
  ·rcases a9t hb with ⟨j,u,rfl,e⟩ | ⟨y,u,rfl,e⟩
   ·exact nomatch e
   ·injection e with e1 _; rw [e1]
 byValue:=fun k v h=>by
  rcases a9t h with ⟨i,t,rfl,rfl⟩ | ⟨x,t,rfl,rfl⟩ <;> rfl
 pyHash:=fun hv h=>by
  rcases a9t hv with ⟨i,t,rfl,rfl⟩ | ⟨x,t,rfl,rfl⟩
  ·exact wpAny_pyHash_int h
  ·exact wpAny_pyHash_str h
 eqBool:=fun hu hv h=>by
  rcases a9t hu with ⟨i,t,rfl,rfl⟩ | ⟨x,t,rfl,rfl⟩
  ·rcases a9t hv with ⟨j,u,rfl,rfl⟩ | ⟨y,u,rfl,rfl⟩
   ·rw [i1o] at h; exact wpAny_eqBool_int h
   ·rw [i1q] at h; exact SeqAt.EqAt.int_str i t y u _ _ _ _ h
  ·rcases a9t hv with ⟨j,u,rfl,rfl⟩ | ⟨y,u,rfl,rfl⟩
   ·rw [i1r] at h; exact SeqAt.EqAt.str_int x t j u _ _ _ _ h
   ·rw [i1p] at h; exact wpAny_eqBool_str h
 «strs» := fun k x t v h => by
  rcases a9t h with ⟨i,u,rfl,e⟩ | ⟨y,u,rfl,e⟩
  ·exact nomatch e
  ·injection e with e1 _
   subst e1
   cases v <;> rfl
theorem g1w(prog:Program)(w:World)(i:Int)(t:Tok):(b4k prog w).is (.inl i) (.int i t)=true:=g7w i t
theorem g1x(prog:Program)(w:World)(x:Str)(t:Tok):(b4k prog w).is (.inr x) (.str x t)=true:=g7x x t
end L2
namespace L2
open PySem PySem.Spec PyProof.Rows
inductive V where
 | non | bl (b:Bool) | int (i:Int) | str (x:Str) | byt (b:Array UInt8) | flt (b:UInt64) | ref (a:Addr) | ty (n:String)
 deriving DecidableEq
noncomputable def RelV:V->Value->Prop
 | .non,u=>u=Value.none
 | .bl b,u=>u=Value.bool b
 | .int i,u=>∃ t,u=Value.int i t
 | .str x,u=>∃ t,u=Value.str x t
 | .byt b,u=>∃ t,u=Value.bytes b t
 | .flt b,u=>∃ t,u=Value.float b t
 | .ref a,u=>u=Value.ref a
 | .ty n,u=>u=Value.type n
noncomputable abbrev Vals:List V->List Value->Prop:=Paired RelV
theorem Vals.length{xs:List V}{us:List Value}(r:Vals xs us):xs.length=us.length:=Paired.length r
theorem Vals.get:∀ {xs:List V} {us:List Value} {i:Nat} {x:V},Vals xs us->xs[i]? = some x->∃ u,us[i]? = some u/\RelV x u
 | _,_,_,_,.nil,e=>by simp at e
 | _,_,0,_,.cons r _,e=>by simp at e; subst e; exact⟨_,rfl,r⟩
 | _,_,i+1,x,.cons _ t,e=>by
  obtain⟨u,h1,h2⟩:=Vals.get (i:=i) (x:=x) t (by simpa using e)
  exact⟨u,by simpa using h1,h2⟩
theorem Vals.set{x:V}{u:Value}(r:RelV x u):∀ {xs:List V} {us:List Value} (i:Nat),Vals xs us->Vals (xs.set i x) (us.set i u)
 | _,_,_,.nil=>.nil
 | _,_,0,.cons _ t=>.cons r t
 | _,_,i+1,.cons q t=>.cons q (Vals.set r i t)
theorem Vals.append:∀ {xs ys:List V} {us ws:List Value},Vals xs us->Vals ys ws->Vals (xs++ys) (us++ws)
 | _,_,_,_,.nil,s=>s
 | _,_,_,_,.cons r t,s=>.cons r (Vals.append t s)
theorem Vals.take:∀ {xs:List V} {us:List Value} (n:Nat),Vals xs us->Vals (xs.take n) (us.take n)
 | _,_,0,_=>.nil
 | _,_,_+1,.nil=>.nil
 | _,_,n+1,.cons r t=>.cons r (Vals.take n t)
theorem Vals.drop:∀ {xs:List V} {us:List Value} (n:Nat),Vals xs us->Vals (xs.drop n) (us.drop n)
 | _,_,0,r=>r
 | _,_,_+1,.nil=>.nil
 | _,_,n+1,.cons _ t=>Vals.drop n t
noncomputable def g1t:Option V->Option Value->Prop
 | some v,some u=>RelV v u
 | none,none=>True
 | _,_=>False
noncomputable def KV{κ:Type}:List (κ×V)->List (κ×Value)->Prop:=Paired fun (p:κ×V) (q:κ×Value)=>p.1=q.1/\RelV p.2 q.2
noncomputable def kV:Key->V
 | .inl i=>.int i
 | .inr x=>.str x
inductive HO where
  | lst (xs:List V)
  | tup (xs:List V)
  | dK (kvs:List (Key×V)) | dT (kvs:List (List Key×V))
  | set (S:Int->Bool) (n:Nat)
  | ins (C dx:Addr) (fs:List (Str×V))
  | own (x:Addr)
  | xd (fs:List (Str×V))
  | met (f x:Addr)
  | rng (lo hi:Int)
  | frz (o:Obj) (u:HO)
  | tbl (ps:Array Value)
  | ext (φ:Heap->Prop)
noncomputable abbrev Hp:=Addr->Option HO
noncomputable def upd(H:Hp)(a:Addr)(o:HO):Hp:=fun b=>if b=a then some o else H b
theorem a5y{H:Hp}{a:Addr}{o:HO}:upd H a o a=some o:=by unfold upd; rw [if_pos rfl]
theorem a6u{H:Hp}{a b:Addr}{o:HO}(h:b≠a):upd H a o b=H b:=by unfold upd; rw [if_neg h]
theorem i7b{H:Hp}{a b:Addr}{o u:HO}(h:H a=some o)(h':H b=some u)(d:o≠u):a≠b:=by
 intro e; subst e; rw [h] at h'; exact d (Option.some.inj h')
theorem a8j{H:Hp}{a b:Addr}{o:HO}(h:H a=some o)(h':H b=none):a≠b:=by
 intro e; subst e; rw [h] at h'; cases h'
section
variable (P:Program)(w:World)
noncomputable def b2m(H:Hp)(h:Heap)(a:Addr):HO->Prop
 | .lst xs => xs.length ≤ sizeLine ∧ ∃ (its : List Value) (n : Nat), Vals xs its ∧ h.get? a = some { cls := .type "list", data := .seq its.toArray n }
 | .tup xs=>xs.length<=sizeLine/\∃ its:List Value,Vals xs its/\IsTup h a its.toArray
 | .dK kvs=>kvs.length<=sizeLine/\(a == sysModules)=false/\∃ vs,KV kvs vs/\h.DictOf (b4k P w) a vs
 | .dT kvs=>kvs.length<=sizeLine/\(a == sysModules)=false/\∃ xs:List (List Key×Addr×Value),
   Paired (fun (p:List Key×V) (q:List Key×Addr×Value)=>p.1=q.1/\H q.2.1=some (.tup (p.1.map kV))/\RelV p.2 q.2.2) kvs xs /\
   ∃ o es ep,h.get? a=some o/\o.ExactDict/\o.data = .dict es ep/\es.toList=xs.map (entryOfKey (tupleKind (b4k P w)))/\(xs.map (·.1)).Nodup
 | .set S n=>h.SetOf (intKind P w) a S n
 | .ins C dx fs=>H dx=some (.own a)/\fs.length<=1000/\dx≠a/\h.get? a=some (PySem.W.instObj C dx) /\
   ∃ mA,h.Ns1 dx mA/\(∀ f,g1t (fs.lookup f) (mA f))/\PySem.Within mA (fs.map (·.1))
 | .own _=>∃ o,h.get? a=some o
 | .xd fs=>∃ mA,h.Ns1 a mA/\∀ f,g1t (fs.lookup f) (mA f)
 | .rng lo hi => ∃ t u v, h.get? a = some { cls := .type "range", data := .fields #[.int lo t, .int hi u, .int 1 v] }
 | .frz o u=>h.get? a=some o/\b2m H h a u
 | .tbl ps=>h.get? a=some { cls:=.none,data:=.fields ps }
 | .met f x=>h.get? a=some (PySem.W.methodObj (.ref f) (.ref x))
 | .ext φ=>φ h/\(∃ o,h.get? a=some o)/\∀ h1 h2:Heap,φ h1->(∀ o,h1.get? a=some o->h2.get? a=some o)->φ h2
def HOk(H:Hp)(h:Heap):Prop:=∀ a o,H a=some o->b2m P w H h a o
end
section
variable {P:Program}{w:World}{H H':Hp}{h h':Heap}{a:Addr}{o:HO}
theorem b2m.lt(x:b2m P w H h a o):a < h.objs.size:=by
 cases o with
 | lst xs=>obtain⟨_,_,_,_,e⟩:=x; exact Heap.lt_size e
 | tup xs=>obtain⟨_,_,_,p⟩:=x; exact p.lt
 | dK kvs=>obtain⟨_,_,_,_,o,_,_,e,_⟩:=x; exact Heap.lt_size e
 | dT kvs=>obtain⟨_,_,_,_,o,_,_,e,_⟩:=x; exact Heap.lt_size e
 | set S n=>obtain⟨o,_,_,_,e,_⟩:=x; exact Heap.lt_size e
 | ins C dx fs=>obtain⟨_,_,_,e,_⟩:=x; exact Heap.lt_size e
 | own y=>obtain⟨_,e⟩:=x; exact Heap.lt_size e
 | xd fs=>obtain⟨_,⟨_,_,_,e,_⟩,_⟩:=x; exact Heap.lt_size e
 | rng lo hi=>obtain⟨_,_,_,e⟩:=x; exact Heap.lt_size e
 | frz ob u=>obtain⟨e,_⟩:=x; exact Heap.lt_size e
 | tbl ps=>exact Heap.lt_size (show h.get? a=some _ from x)
 | met f y=>exact Heap.lt_size (show h.get? a=some _ from x)
 | ext φ=>obtain⟨_,⟨_,e⟩,_⟩:=x; exact Heap.lt_size e
theorem Paired.i7c{α β:Type}{F G:α->β->Prop}:∀ {l₁:List α} {l₂:List β},Paired F l₁ l₂->(∀ a b,F a b->G a b)->Paired G l₁ l₂
 | _,_,.nil,_=>.nil
 | _,_,.cons r t,f=>.cons (f _ _ r) (Paired.i7c t f)
theorem b2m.stay(x:b2m P w H h a o)(k:∀ b u,(b=a\/H b=some (.own a))->h.get? b=some u->h'.get? b=some u)
  (ho:∀ b,H b=some (.own a)->H' b=some (.own a)) (ht:∀ b xs,H b=some (.tup xs)->H' b=some (.tup xs)):b2m P w H' h' a o:=by
 induction o with
 | lst xs=>obtain⟨z,its,n,r,e⟩:=x; exact⟨z,its,n,r,k _ _ (.inl rfl) e⟩
 | tup xs=>obtain⟨z,its,r,ob,e,c⟩:=x; exact⟨z,its,r,ob,k _ _ (.inl rfl) e,c⟩
 | dK kvs=>obtain⟨z,y,vs,r,ob,es,ep,e,c⟩:=x; exact⟨z,y,vs,r,ob,es,ep,k _ _ (.inl rfl) e,c⟩
 | dT kvs =>
  obtain⟨z,y,xs,r,ob,es,ep,e,c⟩:=x
  exact⟨z,y,xs,Paired.i7c r fun p q z=>⟨z.1,ht _ _ z.2.1,z.2.2⟩,ob,es,ep,k _ _ (.inl rfl) e,c⟩
 | set S n=>obtain⟨ob,es,ep,t,e,c⟩:=x; exact⟨ob,es,ep,t,k _ _ (.inl rfl) e,c⟩
 | ins C dx fs =>
  obtain⟨d,z,ne,e,mA,⟨od,es,ep,e2,c⟩,r⟩:=x
  exact⟨ho _ d,z,ne,k _ _ (.inl rfl) e,mA,⟨od,es,ep,k _ _ (.inr d) e2,c⟩,r⟩
 | own y=>obtain⟨ob,e⟩:=x; exact⟨ob,k _ _ (.inl rfl) e⟩
 | xd fs=>obtain⟨mA,⟨od,es,ep,e,c⟩,r⟩:=x; exact⟨mA,⟨od,es,ep,k _ _ (.inl rfl) e,c⟩,r⟩
 | rng lo hi=>obtain⟨t,u,v,e⟩:=x; exact⟨t,u,v,k _ _ (.inl rfl) e⟩
 | frz ob u ih=>obtain⟨e,q⟩:=x; exact⟨k _ _ (.inl rfl) e,ih q⟩
 | tbl ps =>
  have e:h.get? a=some { cls:=.none,data:=.fields ps }:=x
  show h'.get? a=some { cls:=.none,data:=.fields ps }
  exact k a _ (.inl rfl) e
 | met f y =>
  have e:h.get? a=some (PySem.W.methodObj (.ref f) (.ref y)):=x
  show h'.get? a=some (PySem.W.methodObj (.ref f) (.ref y))
  exact k a _ (.inl rfl) e
 | ext φ=>obtain⟨p,⟨o,e⟩,st⟩:=x; exact⟨st _ _ p fun o q=>k _ _ (.inl rfl) q,⟨o,k _ _ (.inl rfl) e⟩,st⟩
theorem HOk.lt(x:HOk P w H h)(e:H a=some o):a < h.objs.size:=(x a o e).lt
theorem HOk.fresh(x:HOk P w H h)(e:h.objs.size<=a):H a=none:=by
 cases q:H a with
 | none=>rfl
 | some u=>exact absurd (Nat.lt_of_lt_of_le (x.lt q) e) (Nat.lt_irrefl _)
theorem HOk.kept(x:HOk P w H h)(k:∀ b u,h.get? b=some u->h'.get? b=some u):HOk P w H h':=fun a o e =>
 (x a o e).stay (fun b u _ q=>k b u q) (fun _ q=>q) fun _ _ q=>q
theorem HOk.laid(x:HOk P w H h)(k:∀ b u,h.get? b=some u->h'.get? b=some u)(hp:h.objs.size<=a)(new:b2m P w (upd H a o) h' a o):HOk P w (upd H a o) h':=fun b u e=>by
 have hn:=x.fresh hp
 by_cases hb:b=a
 ·subst hb; rw [a5y] at e; cases e; exact new
 ·rw [a6u hb] at e
  exact (x b u e).stay (fun c v _ q=>k c v q) (fun c q=>by rw [a6u (a8j q hn)]; exact q) fun c xs q=>by rw [a6u (a8j q hn)]; exact q
end
def Rd(H:Hp)(a:Addr)(u:HO):Prop:=H a=some u\/∃ o,H a=some (.frz o u)
theorem Rd.ok{P:Program}{w:World}{H:Hp}{h:Heap}{a:Addr}{u:HO}(r:Rd H a u)(x:HOk P w H h):b2m P w H h a u:=by
 rcases r with r | ⟨o,r⟩
 ·exact x a u r
 ·obtain⟨_,q⟩:=x a _ r
  exact q
noncomputable def Mut:Option HO->Prop
 | some (.lst _)=>True
 | some (.dK _)=>True
 | some (.dT _)=>True
 | some (.set _ _)=>True
 | some (.ins _ _ _)=>True
 | some (.ext _)=>True
 | _=>False
section
variable {P:Program}{w:World}{H:Hp}{h h':Heap}{x e:Addr}{o':HO}
theorem HOk.write(ok:HOk P w H h)(mu:Mut (H x))(he:e=x\/H e=some (.own x))(k:∀ b u,b≠e->h.get? b=some u->h'.get? b=some u)(heo:∃ u,h'.get? e=some u)
  (new:b2m P w (upd H x o') h' x o'):HOk P w (upd H x o') h':=fun b u q=>by
 have j0c:∀ c y,H c=some (.own y)->c≠x:=fun c y r z=>by subst z; rw [r] at mu; exact mu
 have ntup:∀ c xs,H c=some (.tup xs)->c≠x:=fun c xs r z=>by subst z; rw [r] at mu; exact mu
 by_cases hb:b=x
 ·subst hb; rw [a5y] at q; cases q; exact new
 ·rw [a6u hb] at q
  by_cases hbe:b=e
  ·have q':H b=some (.own x):=by
    rcases he with z | z
    ·exact absurd (hbe.trans z) hb
    ·rw [hbe]; exact z
   rw [q] at q'; cases q'
   obtain⟨v,hv⟩:=heo
   exact⟨v,by rw [hbe]; exact hv⟩
  ·refine (ok b u q).stay (fun c v hc r=>k c v ?_ r) (fun c r=>by rw [a6u (j0c c b r)]; exact r) fun c xs r=>by rw [a6u (ntup c xs r)]; exact r
   rcases hc with rfl | hc
   ·exact hbe
   ·rintro rfl
    rcases he with z | z
    ·exact j0c c b hc z
    ·rw [hc] at z; cases z; exact hb rfl
end
structure Un(fs ex:List Addr)(H H':Hp)(h h':Heap):Prop where
 keep:∀ b o,h.get? b=some o->H b=none->b∉fs->b∉ex->h'.get? b=some o
 slot:∀ b o,h.get? b=some o->H b=none->b∈fs->b∉ex->∃ sl,h'.get? b=some { o with slots:=sl }
 free:∀ b o,h.get? b=some o->H b=none->b∉ex->H' b=none
 there:∀ b o,h.get? b=some o->b∉ex->∃ o',h'.get? b=some o'
 tups:∀ b xs,H b=some (.tup xs)->H' b=some (.tup xs)
 f8w:∀ b o u,H b=some (.frz o u)->H' b=some (.frz o u)
 g1u:∀ b ps,H b=some (.tbl ps)->∃ more,H' b=some (.tbl (ps++more))
section
variable {fs fs' ex ex':List Addr}{H H1 H2:Hp}{h h1 h2 h':Heap}{a x e:Addr}{o:HO}
theorem Un.any(u:Un fs ex H H1 h h1){b:Addr}{ob:Obj}(q:h.get? b=some ob)(n:H b=none)(hx:b∉ex):∃ sl,h1.get? b=some { ob with slots:=sl }:=by
 by_cases hb:b∈fs
 ·exact u.slot b ob q n hb hx
 ·exact⟨ob.slots,u.keep b ob q n hb hx⟩
theorem Un.trans(a:Un fs ex H H1 h h1)(b:Un fs ex H1 H2 h1 h2):Un fs ex H H2 h h2 where
 keep:=fun c ob q n hc hx=>b.keep c ob (a.keep c ob q n hc hx) (a.free c ob q n hx) hc hx
 slot:=fun c ob q n hc hx=>by
  obtain⟨sl,e1⟩:=a.slot c ob q n hc hx
  obtain⟨sl',e2⟩:=b.slot c _ e1 (a.free c ob q n hx) hc hx
  exact⟨sl',e2⟩
 free:=fun c ob q n hx=>by
  obtain⟨o',e1⟩:=a.there c ob q hx
  exact b.free c o' e1 (a.free c ob q n hx) hx
 there:=fun c ob q hx=>by
  obtain⟨o',e1⟩:=a.there c ob q hx
  exact b.there c o' e1 hx
 tups:=fun c xs q=>b.tups c xs (a.tups c xs q)
 f8w:=fun c ob xs q=>b.f8w c ob xs (a.f8w c ob xs q)
 g1u:=fun c ps q=>by
  obtain⟨m1,e1⟩:=a.g1u c ps q
  obtain⟨m2,e2⟩:=b.g1u c _ e1
  exact⟨m1++m2,by rw [e2,Array.append_assoc]⟩
theorem Un.kept(k:∀ b u,h.get? b=some u->h'.get? b=some u):Un fs ex H H h h' :=
 ⟨fun b ob q _ _ _=>k b ob q,fun b ob q _ _ _=>⟨ob.slots,k b ob q⟩,fun _ _ _ n _=>n,fun b ob q _=>⟨ob,k b ob q⟩,fun _ _ q=>q,fun _ _ _ q=>q,fun _ ps q=>⟨#[],by rw [q]; simp⟩⟩
theorem Un.refl:Un fs ex H H h h:=Un.kept fun _ _ q=>q
theorem Un.laid(k:∀ b u,h.get? b=some u->h'.get? b=some u)(hp:h.objs.size<=a)(hn:H a=none):Un fs ex H (upd H a o) h h' where
 keep:=fun b u q _ _ _=>k b u q
 slot:=fun b u q _ _ _=>⟨u.slots,k b u q⟩
 free:=fun b u q n _=>by rw [a6u (Nat.ne_of_lt (Nat.lt_of_lt_of_le (Heap.lt_size q) hp))]; exact n
 there:=fun b u q _=>⟨u,k b u q⟩
 tups:=fun b xs q=>by rw [a6u (a8j q hn)]; exact q
 f8w:=fun b u xs q=>by rw [a6u (a8j q hn)]; exact q
 g1u:=fun b ps q=>⟨#[],by rw [a6u (a8j q hn),q]; simp⟩
theorem Un.write(mu:Mut (H x))(he:e=x\/H e=some (.own x))(k:∀ b u,b≠e->h.get? b=some u->h'.get? b=some u)(heo:∃ u,h'.get? e=some u):Un fs ex H (upd H x o) h h':=by
 have hx:∀ b,H b=none->b≠x:=fun b n z=>by subst z; rw [n] at mu; exact mu
 have hb:∀ b,H b=none->b≠e:=fun b n z=>by
  subst z
  rcases he with r | r
  ·exact hx b n r
  ·rw [n] at r; cases r
 have hm:∀ b u,H b=some u->¬ Mut (some u)->b≠x:=fun b u q nm z=>by subst z; rw [q] at mu; exact nm mu
 refine⟨fun b u q n _ _=>k b u (hb b n) q,fun b u q n _ _=>⟨u.slots,k b u (hb b n) q⟩,fun b u q n _=>by rw [a6u (hx b n)]; exact n,fun b u q _=>?_,
  fun b xs q=>by rw [a6u (hm b _ q fun z=>z)]; exact q,fun b u xs q=>by rw [a6u (hm b _ q fun z=>z)]; exact q,fun b ps q=>⟨#[],by rw [a6u (hm b _ q fun z=>z),q]; simp⟩⟩
 by_cases hbe:b=e
 ·subst hbe; exact heo
 ·exact⟨u,k b u hbe q⟩
end
noncomputable def trk(h:Heap)(H:Hp):List Addr:=(List.range h.objs.size).filter fun a=>(H a).isSome
noncomputable def h2m(h:Heap)(H:Hp):Heap:=PySem.W.hideAll h (trk h H)
theorem g7y(h:Heap)(H:Hp):(h2m h H).objs.size=h.objs.size:=PySem.W.hideAll_size _ _
theorem h2n{h:Heap}{H:Hp}{b:Addr}{o:Obj}(e:h.get? b=some o)(n:H b=none):(h2m h H).get? b=some o :=
 PySem.W.hideAll_get _ e fun hm=>by
  have q:(H b).isSome=true:=(List.mem_filter.mp hm).2
  rw [n] at q; simp at q
theorem h7n{h:Heap}{H:Hp}{b:Addr}{o:Obj}(e:(h2m h H).get? b=some o):h.get? b=some o/\H b=none:=by
 have e':h.get? b=some o:=PySem.W.of_hideAll (trk h H) e
 refine⟨e',?_⟩
 cases q:H b with
 | none=>rfl
 | some x =>
  have hm:b∈trk h H:=List.mem_filter.mpr ⟨List.mem_range.mpr (Heap.lt_size e'),by simp [q]⟩
  have z:(h2m h H).get? b=none:=PySem.W.hideAll_none (trk h H) hm
  rw [z] at e; cases e
noncomputable def h7o(g h:Heap)(L:Addr):List (Addr×Obj):=(List.range h.objs.size).filterMap fun a=>if a=L\/(g.get? a).isSome=true then none else (h.get? a).map fun o=>(a,o)
noncomputable def rest(g h:Heap)(L d:Addr):List (Addr×Obj):=(h7o g h L).filter fun p=>decide (p.1≠d)
end L2
namespace L2
open PySem PySem.Spec PyProof.Rows
structure Mod(K:PySem.W.Frag)(mg:Str->Option Value)(base:Heap):Prop where
 kin:K.In base
 glob:base.Ns mainGlobals mg
 blt : ∃ mb, base.Ns builtinsNs mb ∧ ∀ x : Str, x ≠ "__name__" → mb x = bootBuiltins x
 nolimit:base.NoLimit
structure Cx where
 prog:Program
 w:World
 K:PySem.W.Frag
 mg:Str->Option Value
 base:Heap
 A:Around
 N:List Str
 s₀:Shared
 H₀:Hp
 env:Env
 outer:List Env
 stack:List Env
 ex:List Addr
 fn:Str->Bool
 calm:Bool
 pn:List (Addr×Obj)
 xe:Value->Shared->Prop
noncomputable def frs(l:List Env):List Addr:=l.filterMap (·.frame)
noncomputable abbrev Cx.fs(X:Cx):List Addr:=frs X.outer
def Vis(sc:Scope)(x:Str):Prop:=sc.names.lookup x=some .local\/sc.names.lookup x=some .cell\/sc.names.lookup x=some .free
def Loc(sc:Scope)(x:Str):Prop:=sc.names.lookup x=some .local\/sc.names.lookup x=some .cell
def Look(env:Env)(h:Heap)(m:Str->Option Value)(x:Str)(u:Value):Prop :=
 (env.kindOf x=some .local/\m x=some u)\/((env.kindOf x=some .cell\/env.kindOf x=some .free)/\∃ c,env.cells.lookup x=some c/\h.IsCell c (some u))
structure Cx.Ok(X:Cx):Prop where
 mod:Mod X.K X.mg X.base
 kind:X.env.scope.kind = .function
 glob:X.env.globals=mainGlobals
 blt:X.env.builtins=builtinsNs
 above:X.s₀.heap.objs.size<=X.env.locals
 inj:∀ x y c,X.env.cells.lookup x=some c->X.env.cells.lookup y=some c->x=y
 has:∀ x,(X.env.kindOf x=some .cell\/X.env.kindOf x=some .free)->∃ c,X.env.cells.lookup x=some c
 cab:∀ x c,X.fn x=true->X.env.cells.lookup x=some c->X.s₀.heap.objs.size<=c
 hd:X.calm=true->X.A.handled=none
 frames:X.A.frames=some X.stack
 stk:X.stack=X.outer\/(X.stack=X.env :: X.outer/\X.env.frame=some X.env.locals)
 exf:∀ b∈X.ex,b≠X.env.locals/\∀ x c,X.env.cells.lookup x=some c->c≠b
 bs:∀ b o,X.base.get? b=some o->X.s₀.heap.get? b=some o/\X.H₀ b=none
 bsz:X.base.objs.size<=X.s₀.heap.objs.size
 i1d:∀ b o,X.base.get? b=some o->b∉X.ex
 i1s:∀ b∈X.ex,b∉X.fs
 g5v:X.s₀.heap.FunFrames X.base X.outer
 frf:∀ b∈X.fs,X.H₀ b=none
structure Inv(X:Cx)(pins:List (Addr×Obj))(σ:List (Option V))(H:Hp)(s:Shared):Prop where
 ok:X.Ok
 os:s.os=X.s₀.os
 bare:AllBare s.gens
 base:Un X.fs X.ex X.H₀ H X.s₀.heap s.heap
 loc:∃ m,s.heap.Ns X.env.locals m/\∀ (i:Nat) (x:Str) (v:V),X.N[i]? = some x->σ[i]? = some (some v)->Vis X.env.scope x->∃ u,RelV v u/\Look X.env s.heap m x u
 cell:∀ x c,X.env.cells.lookup x=some c->∃ v,s.heap.IsCell c v
 free:H X.env.locals=none
 d2i:∀ x c,X.env.cells.lookup x=some c->H c=none
 pin:∀ p∈X.pn++pins,s.heap.get? p.1=some p.2/\H p.1=none/\p.1≠X.env.locals/\p.1∉X.fs/\∀ v,p.2.data≠.cell v
 hok:HOk X.prog X.w H s.heap
 len:σ.length=X.N.length
section
variable {X:Cx}{pins:List (Addr×Obj)}{σ:List (Option V)}{H H':Hp}{s:Shared}{h':Heap}
theorem Cx.Ok.nofr(ok:X.Ok){b:Addr}{o:Obj}(e:X.base.get? b=some o):b∉X.fs:=fun hb=>by
 have:=(ok.g5v.mem hb).1
 rw [e] at this; cases this
theorem Inv.bs(I:Inv X pins σ H s):∀ b o,X.base.get? b=some o->s.heap.get? b=some o/\H b=none:=fun b o e =>
 ⟨I.base.keep b o (I.ok.bs b o e).1 (I.ok.bs b o e).2 (I.ok.nofr e) (I.ok.i1d b o e),I.base.free b o (I.ok.bs b o e).1 (I.ok.bs b o e).2 (I.ok.i1d b o e)⟩
theorem Inv.bk(I:Inv X pins σ H s):∀ b o,X.base.get? b=some o->s.heap.get? b=some o:=fun b o e=>(I.bs b o e).1
theorem Inv.mod(I:Inv X pins σ H s):Mod X.K X.mg X.base:=I.ok.mod
theorem Inv.kIn(I:Inv X pins σ H s):X.K.In s.heap:=I.ok.mod.kin.keeps I.bk
theorem Inv.lt(I:Inv X pins σ H s):X.env.locals < s.heap.objs.size:=let ⟨_,hn,_⟩:=I.loc; hn.lt
theorem Inv.sz(I:Inv X pins σ H s):X.s₀.heap.objs.size<=s.heap.objs.size:=Nat.le_trans I.ok.above (Nat.le_of_lt I.lt)
theorem Inv.nofs(I:Inv X pins σ H s){a:Addr}(h:s.heap.objs.size<=a):a∉X.fs:=fun hb=>by
 obtain⟨_,o,ho,_⟩:=I.ok.g5v.mem hb
 exact absurd (Nat.lt_of_lt_of_le (Heap.lt_size ho) (Nat.le_trans I.sz h)) (Nat.lt_irrefl _)
theorem Inv.cne(I:Inv X pins σ H s):∀ x c,X.env.cells.lookup x=some c->c≠X.env.locals:=fun x c e z=>by
 obtain⟨v,o,ho,hd⟩:=I.cell x c e
 obtain⟨m,⟨o',es,ep,ho',hd',_⟩,_⟩:=I.loc
 rw [z,ho'] at ho; cases ho; rw [hd'] at hd; cases hd
theorem Inv.g5v(I:Inv X pins σ H s):s.heap.FunFrames X.base X.outer:=by
 have all:∀ (l:List Env),(∀ b∈frs l,b∈X.fs)->X.s₀.heap.FunFrames X.base l->s.heap.FunFrames X.base l:=by
  intro l
  induction l with
  | nil=>intro _ _; trivial
  | cons env r ih =>
   intro hs hl
   obtain⟨hk,⟨L,o,hf,hn,ho,hd⟩,hr⟩:=hl
   have hL:L∈X.fs:=hs L (by unfold frs; rw [List.filterMap_cons,hf]; exact List.mem_cons_self)
   obtain⟨sl,e⟩:=I.base.slot L o ho (I.ok.frf L hL) hL fun z=>I.ok.i1s L z hL
   exact⟨hk,⟨L,_,hf,hn,e,hd⟩,ih (fun b hb=>hs b (by unfold frs; rw [List.filterMap_cons,hf]; exact List.mem_cons_of_mem _ hb)) hr⟩
 exact all X.outer (fun _ hb=>hb) I.ok.g5v
theorem Inv.stack(I:Inv X pins σ H s):s.heap.FunFrames X.base X.stack:=by
 rcases I.ok.stk with e | ⟨e,hf⟩
 ·rw [e]; exact I.g5v
 ·rw [e]
  obtain⟨m,hn,_⟩:=I.loc
  refine .cons (by rw [I.ok.kind]; decide) hf hn ?_ I.g5v
  exact Heap.get?_none_of_le (Nat.le_trans I.ok.bsz I.ok.above)
theorem Inv.f4j(I:Inv X pins σ H s):∀ b∈frs X.stack,b∈X.env.locals :: X.fs:=fun b hb=>by
 rcases I.ok.stk with e | ⟨e,hf⟩
 ·rw [e] at hb; exact List.mem_cons_of_mem _ hb
 ·rw [e] at hb
  unfold frs at hb
  rw [List.filterMap_cons,hf] at hb
  exact hb
theorem Inv.g1y(I:Inv X pins σ H s):∀ b∈frs X.stack,H b=none:=fun b hb=>by
 rcases List.mem_cons.mp (I.f4j b hb) with e | hb
 ·rw [e]; exact I.free
 ·obtain⟨_,o,ho,_⟩:=I.ok.g5v.mem hb
  exact I.base.free b o ho (I.ok.frf b hb) fun z=>I.ok.i1s b z hb
theorem Inv.step{g':Array GenState}{t':Nat}{d':Drawn}{ch:List Addr}(I:Inv X pins σ H s)
  (hch:∀ b∈ch,(b∈X.ex\/X.s₀.heap.objs.size<=b)/\b≠X.env.locals/\(∀ x c,X.env.cells.lookup x=some c->c≠b)/\∀ p∈X.pn++pins,p.1≠b)
  (keep:∀ b o,b≠X.env.locals->b∉X.fs->b∉ch->s.heap.get? b=some o->H b=none->h'.get? b=some o)
  (slot:∀ b o,b≠X.env.locals->b∈X.fs->b∉ch->s.heap.get? b=some o->H b=none->∃ sl,h'.get? b=some { o with slots:=sl }) (free:∀ b o,b∉ch->s.heap.get? b=some o->H b=none->H' b=none)
  (there:∀ b o,b∉ch->s.heap.get? b=some o->∃ o',h'.get? b=some o')
  (tups:∀ b xs,H b=some (.tup xs)->H' b=some (.tup xs)) (f8w:∀ b o u,H b=some (.frz o u)->H' b=some (.frz o u)) (g1u:∀ b ps,H b=some (.tbl ps)->∃ more,H' b=some (.tbl (ps++more)))
  (ns:∀ m,s.heap.Ns X.env.locals m->h'.Ns X.env.locals m) (hok:HOk X.prog X.w H' h') (hg:AllBare g') :
  Inv X pins σ H' { s with heap:=h',gens:=g',drawn:=d',toks:=t' }:=by
 have neL:∀ b o,X.s₀.heap.get? b=some o->b≠X.env.locals:=fun b o e=>Nat.ne_of_lt (Nat.lt_of_lt_of_le (Heap.lt_size e) I.ok.above)
 have neC:∀ b o,X.s₀.heap.get? b=some o->b∉X.ex->b∉ch:=fun b o e hx hb=>by
  rcases (hch b hb).1 with z | z
  ·exact hx z
  ·exact absurd (Nat.lt_of_lt_of_le (Heap.lt_size e) z) (Nat.lt_irrefl _)
 have cellK:∀ x c,X.env.cells.lookup x=some c->∀ v,s.heap.IsCell c v->h'.IsCell c v:=fun x c e v ⟨o,ho,hd⟩=>by
  have nch:c∉ch:=fun z=>(hch c z).2.2.1 x c e rfl
  by_cases hc:c∈X.fs
  ·obtain⟨sl,q⟩:=slot c o (I.cne x c e) hc nch ho (I.d2i x c e)
   exact⟨_,q,hd⟩
  ·exact⟨o,keep c o (I.cne x c e) hc nch ho (I.d2i x c e),hd⟩
 refine⟨I.ok,I.os,hg,⟨fun b o e n hb hx=>?_,fun b o e n hb hx=>?_,fun b o e n hx=>?_,fun b o e hx=>?_,fun b xs e=>tups b xs (I.base.tups b xs e),fun b o xs e=>f8w b o xs (I.base.f8w b o xs e),fun b ps e=>?_⟩,?_,fun x c e=>?_,?_,fun x c e=>?_,fun p hp=>?_,hok,I.len⟩
 ·exact keep b o (neL b o e) hb (neC b o e hx) (I.base.keep b o e n hb hx) (I.base.free b o e n hx)
 ·obtain⟨sl,e1⟩:=I.base.slot b o e n hb hx
  obtain⟨sl',e2⟩:=slot b _ (neL b o e) hb (neC b o e hx) e1 (I.base.free b o e n hx)
  exact⟨sl',e2⟩
 ·obtain⟨o',e1⟩:=I.base.there b o e hx
  exact free b o' (neC b o e hx) e1 (I.base.free b o e n hx)
 ·obtain⟨o',e1⟩:=I.base.there b o e hx
  exact there b o' (neC b o e hx) e1
 ·obtain⟨m1,e1⟩:=I.base.g1u b ps e
  obtain⟨m2,e2⟩:=g1u b _ e1
  exact⟨m1++m2,by rw [e2,Array.append_assoc]⟩
 ·obtain⟨m,hn,hl⟩:=I.loc
  refine⟨m,ns m hn,fun i x v e1 e2 e3=>?_⟩
  obtain⟨u,r,l⟩:=hl i x v e1 e2 e3
  refine⟨u,r,?_⟩
  rcases l with l | ⟨k,c,e,z⟩
  ·exact .inl l
  ·exact .inr ⟨k,c,e,cellK x c e _ z⟩
 ·obtain⟨v,z⟩:=I.cell x c e
  exact⟨v,cellK x c e v z⟩
 ·obtain⟨m,⟨o,_,_,ho,_⟩,_⟩:=I.loc
  exact free _ o (fun z=>(hch _ z).2.1 rfl) ho I.free
 ·obtain⟨v,o,ho,hd⟩:=I.cell x c e
  exact free c o (fun z=>(hch c z).2.2.1 x c e rfl) ho (I.d2i x c e)
 ·obtain⟨e,n,ne,nf,d⟩:=I.pin p hp
  have nch:p.1∉ch:=fun z=>(hch p.1 z).2.2.2 p hp rfl
  exact⟨keep p.1 p.2 ne nf nch e n,free p.1 p.2 nch e n,ne,nf,d⟩
theorem Inv.un{t':Nat}(I:Inv X pins σ H s)(u:Un X.fs [] H H' s.heap h')(hok:HOk X.prog X.w H' h'):Inv X pins σ H' { s with heap:=h',toks:=t' }:=by
 obtain⟨m,⟨o,es,ep,ho,r⟩,_⟩:=id I.loc
 obtain⟨sl,hL⟩:=u.any ho I.free (by simp)
 exact I.step (g':=s.gens) (d':=s.drawn) (ch:=[]) (fun _ z=>nomatch z) (fun b o _ hb _ e n=>u.keep b o e n hb (by simp)) (fun b o _ hb _ e n=>u.slot b o e n hb (by simp)) (fun b o _ e n=>u.free b o e n (by simp)) (fun b o _ e=>u.there b o e (by simp)) u.tups u.f8w u.g1u (fun m' hm=>by
  obtain⟨o',es',ep',ho',r'⟩:=hm
  rw [ho] at ho'; cases ho'
  exact⟨_,es',ep',hL,r'⟩) hok I.bare
theorem Inv.call{g':Array GenState}{t':Nat}{d':Drawn}{ch:List Addr}(I:Inv X pins σ H s)(u:Un (frs X.stack) ch H H' s.heap h')(hok:HOk X.prog X.w H' h')(hg:AllBare g')
  (hch:∀ b∈ch,(b∈X.ex\/X.s₀.heap.objs.size<=b)/\b≠X.env.locals/\(∀ x c,X.env.cells.lookup x=some c->c≠b)/\∀ p∈X.pn++pins,p.1≠b) :
  Inv X pins σ H' { s with heap:=h',gens:=g',drawn:=d',toks:=t' }:=by
 obtain⟨m,⟨o,es,ep,ho,r⟩,_⟩:=id I.loc
 obtain⟨sl,hL⟩:=u.any ho I.free fun z=>(hch _ z).2.1 rfl
 exact I.step (ch:=ch) hch (fun b o hL hb hc e n=>u.keep b o e n (fun z=>(List.mem_cons.mp (I.f4j b z)).elim hL hb) hc) (fun b o _ _ hc e n=>u.any e n hc) (fun b o hc e n=>u.free b o e n hc) (fun b o hc e=>u.there b o e hc) u.tups u.f8w u.g1u (fun m' hm=>by
  obtain⟨o',es',ep',ho',r'⟩:=hm
  rw [ho] at ho'; cases ho'
  exact⟨_,es',ep',hL,r'⟩) hok hg
theorem Inv.turned{t':Nat}{it:Addr}(I:Inv X pins σ H s)(k:∀ b o,b≠it->s.heap.get? b=some o->h'.get? b=some o)(hn:H it=none)(hL:it≠X.env.locals)
  (h1:it∈X.ex\/X.s₀.heap.objs.size<=it) (h2:∀ x c,X.env.cells.lookup x=some c->c≠it) (h3:∀ p∈X.pn++pins,p.1≠it):Inv X pins σ H { s with heap:=h',toks:=t' }:=by
 have nit:∀ b u,H b=some u->b≠it:=fun b u e z=>by rw [z,hn] at e; cases e
 refine I.step (g':=s.gens) (d':=s.drawn) (ch:=[it]) (fun b hb=>?_) (fun b o _ _ hc e _=>k b o (fun z=>hc (by simp [z])) e) (fun b o _ _ hc e _=>⟨o.slots,k b o (fun z=>hc (by simp [z])) e⟩) (fun _ _ _ _ n=>n)
  (fun b o hc e=>⟨o,k b o (fun z=>hc (by simp [z])) e⟩) (fun _ _ e=>e) (fun _ _ _ e=>e) (fun b ps e=>⟨#[],by rw [e]; simp⟩) (fun m hm=>?_) (fun b u e=>?_) I.bare
 ·have e:b=it:=by simpa using hb
  subst e
  exact⟨h1,hL,h2,h3⟩
 ·obtain⟨o,es,ep,ho,r⟩:=hm
  exact⟨o,es,ep,k _ o (Ne.symm hL) ho,r⟩
 ·refine (I.hok b u e).stay (fun c v hc q=>k c v ?_ q) (fun _ q=>q) fun _ _ q=>q
  rcases hc with z | z
  ·rw [z]; exact nit b u e
  ·exact nit c _ z
theorem Inv.tok(I:Inv X pins σ H s)(t:Nat):Inv X pins σ H { s with toks:=t }:=I.un (h':=s.heap) (t':=t) Un.refl I.hok
theorem Inv.kept{t':Nat}(I:Inv X pins σ H s)(k:∀ b u,s.heap.get? b=some u->h'.get? b=some u):Inv X pins σ H { s with heap:=h',toks:=t' }:=I.un (Un.kept k) (I.hok.kept k)
theorem Inv.laid{a:Addr}{o:HO}{t':Nat}(I:Inv X pins σ H s)(k:∀ b u,s.heap.get? b=some u->h'.get? b=some u)(hp:s.heap.objs.size<=a)(new:b2m X.prog X.w (upd H a o) h' a o) :
  Inv X pins σ (upd H a o) { s with heap:=h',toks:=t' }:=I.un (Un.laid k hp (I.hok.fresh hp)) (I.hok.laid k hp new)
theorem Inv.write{x e:Addr}{o:HO}{t':Nat}(I:Inv X pins σ H s)(mu:Mut (H x))(he:e=x\/H e=some (.own x))(k:∀ b u,b≠e->s.heap.get? b=some u->h'.get? b=some u)(heo:∃ u,h'.get? e=some u)
  (new:b2m X.prog X.w (upd H x o) h' x o):Inv X pins σ (upd H x o) { s with heap:=h',toks:=t' }:=I.un (Un.write mu he k heo) (I.hok.write mu he k heo new)
theorem Inv.weak{σ':List (Option V)}(I:Inv X pins σ H s)(hl:σ'.length=σ.length)(w:∀ (i:Nat) v,σ'[i]? = some (some v)->σ[i]? = some (some v)):Inv X pins σ' H s :=
 ⟨I.ok,I.os,I.bare,I.base,let ⟨m,hn,hl'⟩:=I.loc; ⟨m,hn,fun i x v e1 e2 e3=>hl' i x v e1 (w i v e2) e3⟩,I.cell,I.free,I.d2i,I.pin,I.hok,hl.trans I.len⟩
theorem Inv.g7z{pins':List (Addr×Obj)}(I:Inv X pins σ H s)(h:∀ p∈pins',s.heap.get? p.1=some p.2/\H p.1=none/\p.1≠X.env.locals/\p.1∉X.fs/\∀ v,p.2.data≠.cell v):Inv X pins' σ H s :=
 ⟨I.ok,I.os,I.bare,I.base,I.loc,I.cell,I.free,I.d2i,fun p hp=>(List.mem_append.mp hp).elim (fun z=>I.pin p (List.mem_append_left _ z)) (h p),I.hok,I.len⟩
theorem f5r{N:List Str}(hN:N.Nodup){i j:Nat}{x:Str}(a:N[i]? = some x)(b:N[j]? = some x):i=j:=by
 obtain⟨h1,e1⟩:=List.getElem?_eq_some_iff.mp a
 obtain⟨h2,e2⟩:=List.getElem?_eq_some_iff.mp b
 exact (List.getElem_inj hN).mp (e1.trans e2.symm)
theorem f8y{M:Model}{A:Around}{E:Value->Shared->Prop}{i:Nat}{x:Str}{v:V}{u:Value}{Q:Unit->Shared->Prop}(I:Inv X pins σ H s)(hN:X.N.Nodup)(hi:X.N[i]? = some x)(hx:Loc X.env.scope x)(r:RelV v u)
  (h:∀ s',Inv X pins (σ.set i (some v)) H s'->(∃ a,Heap.SameBut a s.heap s'.heap/\(a=X.env.locals\/X.env.cells.lookup x=some a))->Q () s') (hf:X.fn x=true\/X.env.scope.names.lookup x=some .local:=by first | exact .inl rfl | exact .inr rfl | assumption):wpAny M A (storeName X.env x u) Q E s:=by
 obtain⟨m,hn,hl⟩:=id I.loc
 have hcls:(X.env.scope.kind == .class || (X.env.scope.kind == .module && X.env.locals != X.env.globals))=false:=by rw [I.ok.kind]; rfl
 have hiσ:i < σ.length:=by rw [I.len]; exact (List.getElem?_eq_some_iff.mp hi).1
 have cne:=I.cne
 have tracked:∀ {a:Addr} {h':Heap},(∃ o,s.heap.get? a=some o/\H a=none)->Heap.SameBut a s.heap h'->HOk X.prog X.w H h':=fun {a h'} ha hs b ob e=>by
  obtain⟨_,_,hfree⟩:=ha
  refine (I.hok b ob e).stay (fun c w' hc q=>(hs.2 c ?_).trans q) (fun _ q=>q) fun _ _ q=>q
  rintro rfl
  rcases hc with rfl | hc
  ·rw [hfree] at e; cases e
  ·rw [hfree] at hc; cases hc
 rcases hx with hk | hk
 ·refine wpAny_storeName_local hk hn (fun h' hn' hs=>?_) hcls
  obtain⟨oL,_,_,hoL,_⟩:=id hn
  refine h _ ⟨I.ok,I.os,I.bare,⟨fun b o e n hb hx=>?_,fun b o e n hb hx=>?_,I.base.free,fun b o e hx=>?_,I.base.tups,I.base.f8w,I.base.g1u⟩,⟨_,hn',fun j y v' e1 e2 e3=>?_⟩,fun y c e=>?_,I.free,I.d2i,fun p hp=>?_,tracked ⟨oL,hoL,I.free⟩ hs,by simpa using I.len⟩ ⟨_,hs,.inl rfl⟩
  ·exact (hs.2 b (Nat.ne_of_lt (Nat.lt_of_lt_of_le (Heap.lt_size e) I.ok.above))).trans (I.base.keep b o e n hb hx)
  ·obtain⟨sl,e1⟩:=I.base.slot b o e n hb hx
   exact⟨sl,(hs.2 b (Nat.ne_of_lt (Nat.lt_of_lt_of_le (Heap.lt_size e) I.ok.above))).trans e1⟩
  ·obtain⟨o',e1⟩:=I.base.there b o e hx
   exact⟨o',(hs.2 b (Nat.ne_of_lt (Nat.lt_of_lt_of_le (Heap.lt_size e) I.ok.above))).trans e1⟩
  ·by_cases hj:j=i
   ·subst hj
    rw [hi] at e1; cases e1
    rw [List.getElem?_set_self hiσ] at e2
    cases e2
    exact⟨u,r,.inl ⟨hk,by simp⟩⟩
   ·rw [List.getElem?_set_ne (Ne.symm hj)] at e2
    obtain⟨u',r',q⟩:=hl j y v' e1 e2 e3
    refine⟨u',r',?_⟩
    rcases q with ⟨k,e⟩ | ⟨k,c,e,z⟩
    ·refine .inl ⟨k,?_⟩
     have:y≠x:=fun e=>hj (f5r hN e1 (e▸hi))
     simp [this,e]
    ·exact .inr ⟨k,c,e,z.sameBut hs (cne y c e)⟩
  ·obtain⟨w',z⟩:=I.cell y c e
   exact⟨w',z.sameBut hs (cne y c e)⟩
  ·obtain⟨e,n,ne,nf,d⟩:=I.pin p hp
   exact⟨(hs.2 p.1 ne).trans e,n,ne,nf,d⟩
 ·have hfn:X.fn x=true:=by
   rcases hf with z | z
   ·exact z
   ·rw [z] at hk; cases hk
  obtain⟨c,hc⟩:=I.ok.has x (.inl hk)
  obtain⟨w',z⟩:=I.cell x c hc
  refine wpAny_storeName_cell I.ok.kind hk hc z (fun h' hc' hs=>?_)
  obtain⟨oc,hoc,hocd⟩:=id z
  refine h { s with heap:=h' } ⟨I.ok,I.os,I.bare,⟨fun b o e n hb hx=>?_,fun b o e n hb hx=>?_,I.base.free,fun b o e hx=>?_,I.base.tups,I.base.f8w,I.base.g1u⟩,⟨m,hn.sameBut hs (Ne.symm (cne x c hc)),fun j y v' e1 e2 e3=>?_⟩,fun y c' e=>?_,I.free,I.d2i,fun p hp=>?_,tracked ⟨oc,hoc,I.d2i x c hc⟩ hs,by simpa using I.len⟩ ⟨c,hs,.inr hc⟩
  ·exact (hs.2 b (Nat.ne_of_lt (Nat.lt_of_lt_of_le (Heap.lt_size e) (I.ok.cab x c hfn hc)))).trans (I.base.keep b o e n hb hx)
  ·obtain⟨sl,e1⟩:=I.base.slot b o e n hb hx
   exact⟨sl,(hs.2 b (Nat.ne_of_lt (Nat.lt_of_lt_of_le (Heap.lt_size e) (I.ok.cab x c hfn hc)))).trans e1⟩
  ·obtain⟨o',e1⟩:=I.base.there b o e hx
   exact⟨o',(hs.2 b (Nat.ne_of_lt (Nat.lt_of_lt_of_le (Heap.lt_size e) (I.ok.cab x c hfn hc)))).trans e1⟩
  ·by_cases hj:j=i
   ·subst hj
    rw [hi] at e1; cases e1
    rw [List.getElem?_set_self hiσ] at e2
    cases e2
    exact⟨u,r,.inr ⟨.inl hk,c,hc,hc'⟩⟩
   ·rw [List.getElem?_set_ne (Ne.symm hj)] at e2
    obtain⟨u',r',q⟩:=hl j y v' e1 e2 e3
    refine⟨u',r',?_⟩
    rcases q with q | ⟨k,c',e,z'⟩
    ·exact .inl q
    ·refine .inr ⟨k,c',e,z'.sameBut hs ?_⟩
     rintro rfl
     exact hj (f5r hN e1 (I.ok.inj _ _ _ e hc▸hi))
  ·by_cases hcc:c'=c
   ·subst hcc; exact⟨_,hc'⟩
   ·obtain⟨w2,z2⟩:=I.cell y c' e
    exact⟨w2,z2.sameBut hs hcc⟩
  ·obtain⟨e,n,ne,nf,d⟩:=I.pin p hp
   refine⟨(hs.2 p.1 ?_).trans e,n,ne,nf,d⟩
   intro q
   rw [q,hoc] at e
   have q':oc=p.2:=Option.some.inj e
   exact d w' (by rw [<- q']; exact hocd)
theorem d8n{M:Model}{A:Around}{E:Value->Shared->Prop}{i:Nat}{x:Str}{v:V}{u:Value}{Q:Unit->Shared->Prop}(I:Inv X pins σ H s)(hN:X.N.Nodup)(hi:X.N[i]? = some x)(hx:Loc X.env.scope x)(r:RelV v u)
  (h:∀ s',Inv X pins (σ.set i (some v)) H s'->Q () s') (hf:X.fn x=true\/X.env.scope.names.lookup x=some .local:=by first | exact .inl rfl | exact .inr rfl | assumption):wpAny M A (storeName X.env x u) Q E s :=
 f8y I hN hi hx r (fun s' I' _=>h s' I') hf
theorem Inv.call'{s':Shared}{ch:List Addr}(I:Inv X pins σ H s)(ho:s'.os=s.os)(u:Un (frs X.stack) ch H H' s.heap s'.heap)(hok:HOk X.prog X.w H' s'.heap)(hg:AllBare s'.gens)
  (hch:∀ b∈ch,(b∈X.ex\/X.s₀.heap.objs.size<=b)/\b≠X.env.locals/\(∀ x c,X.env.cells.lookup x=some c->c≠b)/\∀ p∈X.pn++pins,p.1≠b):Inv X pins σ H' s':=by
 obtain⟨h',g',d',t',o'⟩:=s'
 have e:o'=s.os:=ho
 subst e
 exact I.call (g':=g') (t':=t') (d':=d') u hok hg hch
end
noncomputable abbrev XK:=Value->Option Addr->Hp->Prop
noncomputable abbrev St:=List (Option V)
noncomputable abbrev VK:=V->Hp->Prop
noncomputable abbrev TE:=St->Hp->VK->Prop
noncomputable abbrev TT:=St->Hp->(Bool->Hp->Prop)->Prop
noncomputable abbrev TA:=St->Hp->(List V->Hp->Prop)->Prop
structure Ends where
 nx:St->Hp->Prop
 rt:VK
 bk:St->Hp->Prop:=fun _ _=>False
 ct:St->Hp->Prop:=fun _ _=>False
noncomputable abbrev TS:=Ends->St->Hp->Prop
def EP(X:Cx)(pins:List (Addr×Obj))(σ:St)(Q:VK)(u:Value)(s':Shared):Prop:=∃ v H',Inv X pins σ H' s'/\RelV v u/\Q v H'
def TP(X:Cx)(pins:List (Addr×Obj))(σ:St)(Q:Bool->Hp->Prop)(b:Bool)(s':Shared):Prop:=∃ H',Inv X pins σ H' s'/\Q b H'
def AP(X:Cx)(pins:List (Addr×Obj))(σ:St)(Q:List V->Hp->Prop)(us:List Value)(s':Shared):Prop:=∃ vs H',Inv X pins σ H' s'/\Vals vs us/\Q vs H'
def SP(X:Cx)(pins:List (Addr×Obj))(D:Ends)(f:Flow)(s':Shared):Prop :=
 match f with
 | .next=>∃ σ' H',Inv X pins σ' H' s'/\D.nx σ' H'
 | .brk=>∃ σ' H',Inv X pins σ' H' s'/\D.bk σ' H'
 | .cont=>∃ σ' H',Inv X pins σ' H' s'/\D.ct σ' H'
 | .ret u=>∃ v σ' H',Inv X pins σ' H' s'/\RelV v u/\D.rt v H'
def PE(X:Cx)(e:Expr)(t:TE):Prop :=
 ∀ (pins:List (Addr×Obj)) (s:Shared) (σ:St) (H:Hp) (Q:VK),Inv X pins σ H s->t σ H Q->wpAny (model X.prog X.w) X.A (eval e X.env) (EP X pins σ Q) X.xe s
def PT(X:Cx)(e:Expr)(t:TT):Prop :=
 ∀ (pins:List (Addr×Obj)) (s:Shared) (σ:St) (H:Hp) (Q:Bool->Hp->Prop),Inv X pins σ H s->t σ H Q->wpAny (model X.prog X.w) X.A (isTrue e X.env (eval e X.env)) (TP X pins σ Q) X.xe s
def PW(X:Cx)(e:Expr)(t:TT):Prop :=
 ∀ (whole:Sem Value) (pins:List (Addr×Obj)) (s:Shared) (σ:St) (H:Hp) (Q:Bool->Hp->Prop),Inv X pins σ H s->t σ H Q->wpAny (model X.prog X.w) X.A (isTrue e X.env whole) (TP X pins σ Q) X.xe s
theorem PW.pt{X:Cx}{e:Expr}{t:TT}(h:PW X e t):PT X e t:=h _
def PA(X:Cx)(es:List Expr)(t:TA):Prop :=
 ∀ (pos:Pos) (pins:List (Addr×Obj)) (s:Shared) (σ:St) (H:Hp) (Q:List V->Hp->Prop),Inv X pins σ H s->t σ H Q->wpAny (model X.prog X.w) X.A (spliced (backTo pos (starEach es X.env))) (AP X pins σ Q) X.xe s
def PS(X:Cx)(st:Stmt)(t:TS):Prop :=
 ∀ (pins:List (Addr×Obj)) (s:Shared) (σ:St) (H:Hp) (D:Ends),Inv X pins σ H s->t D σ H->wpAny (model X.prog X.w) X.A (exec st X.env) (SP X pins D) X.xe s
def PSs(X:Cx)(st:List Stmt)(t:TS):Prop :=
 ∀ (pins:List (Addr×Obj)) (s:Shared) (σ:St) (H:Hp) (D:Ends),Inv X pins σ H s->t D σ H->wpAny (model X.prog X.w) X.A (execs st X.env) (SP X pins D) X.xe s
theorem thn{α:Type}{t:Sem α}{Q Q':α->Shared->Prop}{M:Model}{A:Around}{E:Value->Shared->Prop}{s:Shared}(h:wpAny M A t Q E s)(hQ:∀ a s,Q a s->Q' a s):wpAny M A t Q' E s:=wpAny_mono h hQ fun _ _ x=>x
end L2
namespace L2
open PySem PySem.Spec PyProof.Rows
section
variable {X:Cx}
def tVar(i:Nat):TE:=fun σ H Q=>∃ v,σ[i]? = some (some v)/\Q v H
def tC(v:V):TE:=fun _ H Q=>Q v H
theorem i1t {i : Nat} {x : Str} {pos : Pos} (hN : X.N[i]? = some x) (hv : Vis X.env.scope x) (hd : (x == ("__debug__" : Str)) = false := by decide) (hcd : (x == ("__classdict__" : Str)) = false := by decide) : PE X (.Name x pos) (tVar i) := by
 intro pins s σ H Q I h
 obtain⟨v,e,h⟩:=h
 obtain⟨m,hn,hl⟩:=I.loc
 obtain⟨u,r,l⟩:=hl i x v hN e hv
 have fin:EP X pins σ Q u s:=⟨v,H,I,r,h⟩
 rcases l with ⟨hk,hm⟩ | ⟨hk,c,hc,hcell⟩
 ·exact wpAny_Name (wpAny_loadName_local I.ok.kind hk hn hm fin) hd
 ·rcases hk with hk | hk
  ·exact wpAny_Name (wpAny_loadName_cell I.ok.kind hk hc hcell fin) hd
  ·exact wpAny_Name (wpAny_loadName_free I.ok.kind hk hc hcell fin hcd) hd
theorem a0n{i j pos}:PE X (.Constant (.int i) j pos) (tC (.int i)):=fun _ _ _ H _ I h=>wpAny_Constant_int ⟨.int i,H,I.tok _,⟨_,rfl⟩,h⟩
theorem d7w{b j pos}:PE X (.Constant (.bool b) j pos) (tC (.bl b)):=fun _ _ _ H _ I h=>Constant_bool ⟨.bl b,H,I,rfl,h⟩
theorem d6v{j pos}:PE X (.Constant .none j pos) (tC .non):=fun _ _ _ H _ I h=>Constant_none ⟨.non,H,I,rfl,h⟩
theorem a0v{x j pos}:PE X (.Constant (.str x) j pos) (tC (.str x)):=fun _ _ _ H _ I h=>Calls.Constant_str ⟨.str x,H,I.tok _,⟨_,rfl⟩,h⟩
def Gl(X:Cx)(x:Str):Prop:=X.env.kindOf x=some .globalImplicit
theorem c5i{E:Value->Shared->Prop}{pins:List (Addr×Obj)}{s:Shared}{σ:St}{H:Hp}{x:Str}{u:Value}{pos:Pos}{Q:Value->Shared->Prop}(I:Inv X pins σ H s)(hg:Gl X x)(hm:X.mg x=some u)(h:Q u s)
  (hd : (x == ("__debug__" : Str)) = false := by decide) : wpAny (model X.prog X.w) X.A (eval (.Name x pos) X.env) Q E s :=
 Calls.Name_function_global I.ok.kind hg (Calls.loadGlobal_global (by rw [I.ok.glob]; exact I.mod.glob.keeps I.bk) hm h) hd
theorem g4p{E:Value->Shared->Prop}{pins:List (Addr×Obj)}{s:Shared}{σ:St}{H:Hp}{x:Str}{u:Value}{pos:Pos}{Q:Value->Shared->Prop}(I:Inv X pins σ H s)(hg:Gl X x)(hm:X.mg x=none)(hv:bootBuiltins x=some u)(h:Q u s)
  (hn : x ≠ "__name__" := by decide) (hd : (x == ("__debug__" : Str)) = false := by decide) : wpAny (model X.prog X.w) X.A (eval (.Name x pos) X.env) Q E s := by
 obtain⟨mb,h1,h2⟩:=I.mod.blt
 exact Calls.Name_function_global I.ok.kind hg (Calls.loadGlobal_builtin (by rw [I.ok.glob]; exact I.mod.glob.keeps I.bk) hm (by rw [I.ok.blt]; exact h1.keeps I.bk) ((h2 x hn).trans hv) h) hd
theorem a5i {x : Str} {v : V} {u : Value} {pos : Pos} (hg : Gl X x) (hm : X.mg x = some u) (r : RelV v u) (hd : (x == ("__debug__" : Str)) = false := by decide) : PE X (.Name x pos) (tC v) :=
 fun _ _ _ H _ I h=>c5i I hg hm ⟨v,H,I,r,h⟩ hd
theorem b7l {x : Str} {v : V} {u : Value} {pos : Pos} (hg : Gl X x) (hm : X.mg x = none) (hv : bootBuiltins x = some u) (r : RelV v u) (hn : x ≠ "__name__" := by decide) (hd : (x == ("__debug__" : Str)) = false := by decide) : PE X (.Name x pos) (tC v) :=
 fun _ _ _ H _ I h=>g4p I hg hm hv ⟨v,H,I,r,h⟩ hn hd
variable {a b:Expr}{ta tb:TE}{pos:Pos}
def PC(X:Cx)(op:CmpOp)(a b:Expr)(t:TE):Prop :=
 ∀ (pins:List (Addr×Obj)) (s:Shared) (σ:St) (H:Hp) (Q:VK),Inv X pins σ H s->t σ H Q ->
  wpAny (model X.prog X.w) X.A (eval a X.env) (fun v s₁=>wpAny (model X.prog X.w) X.A (eval b X.env) (fun u s₂=>wpAny (model X.prog X.w) X.A (compareOp op v u) (EP X pins σ Q) X.xe s₂) X.xe s₁) X.xe s
theorem h2o(b:Expr){op:CmpOp}(h:op≠.In)(h2:op≠.NotIn):behindInMarks op b=false:=by
 have e1:(op == CmpOp.In)=false:=by cases op <;> first | rfl | exact absurd rfl h
 have e2:(op == CmpOp.NotIn)=false:=by cases op <;> first | rfl | exact absurd rfl h2
 cases b <;> simp [behindInMarks,e1,e2]
def tB(t:TE):TT:=fun σ H Q=>t σ H fun x H1=>∃ c,x = .bl c/\Q c H1
theorem i1u{op:CmpOp}{t:TE}(h:PC X op a b t)(h1:behindInMarks op b=false:=by first | exact h2o _ (by decide) (by decide) | rfl):PT X (.Compare a [op] [b] pos) (tB t):=by
 intro pins s σ H Q I hw
 refine wpAny_isTrue_Compare1 (thn (h pins s σ H _ I hw) fun v s1 h1=>thn h1 fun u s2 h2=>thn h2 fun c s3 ⟨x,H1,I1,r1,q1⟩=>?_) h1
 obtain⟨d,rfl,q⟩:=q1
 cases r1
 exact wpAny_truthy_bool ⟨H1,I1,q⟩
theorem i1v{e:Expr}{t:TE}(h:PE X e t)(he:∀ whole,isTrue e X.env whole=(do let v <- whole; standAt e.pos; holding [v] (truthy v)):=by intro _; rfl):PT X e (tB t):=by
 intro pins s σ H Q I hw
 refine isTrue_plain (thn (h pins s σ H _ I hw) fun v s1 ⟨x,H1,I1,r1,q1⟩=>?_) (he _)
 obtain⟨d,rfl,q⟩:=q1
 cases r1
 exact wpAny_truthy_bool ⟨H1,I1,q⟩
variable {tA tB':TT}{rest:List Expr}
def tAnd(t u:TT):TT:=fun σ H Q=>t σ H fun c H1=>if c=true then u σ H1 Q else Q false H1
def tOr(t u:TT):TT:=fun σ H Q=>t σ H fun c H1=>if c=true then Q true H1 else u σ H1 Q
def tNot(t:TT):TT:=fun σ H Q=>t σ H fun c H1=>Q (!c) H1
theorem pw_and1(ha:PT X a tA):PW X (.BoolOp .And [a] pos) tA:=by
 intro wh pins s σ H Q I h
 refine isTrue_and (thn (ha pins s σ H Q I h) fun c s1 e=>?_)
 cases c with
 | true=>exact isTrue_and_nil e
 | false=>exact e
theorem pw_or1(ha:PT X a tA):PW X (.BoolOp .Or [a] pos) tA:=by
 intro wh pins s σ H Q I h
 refine isTrue_or (thn (ha pins s σ H Q I h) fun c s1 e=>?_)
 cases c with
 | false=>exact isTrue_or_nil e
 | true=>exact e
theorem pw_and(ha:PT X a tA)(hb:PW X (.BoolOp .And (b :: rest) pos) tB'):PW X (.BoolOp .And (a :: b :: rest) pos) (tAnd tA tB'):=by
 intro wh pins s σ H Q I h
 refine isTrue_and (thn (ha pins s σ H _ I h) fun c s1 ⟨H1,I1,q1⟩=>?_)
 cases c with
 | true=>exact hb wh pins s1 σ H1 Q I1 q1
 | false=>exact⟨H1,I1,q1⟩
theorem pw_or(ha:PT X a tA)(hb:PW X (.BoolOp .Or (b :: rest) pos) tB'):PW X (.BoolOp .Or (a :: b :: rest) pos) (tOr tA tB'):=by
 intro wh pins s σ H Q I h
 refine isTrue_or (thn (ha pins s σ H _ I h) fun c s1 ⟨H1,I1,q1⟩=>?_)
 cases c with
 | true=>exact⟨H1,I1,q1⟩
 | false=>exact hb wh pins s1 σ H1 Q I1 q1
theorem b5v(ha:PT X a tA):PT X (.UnaryOp .Not a pos) (tNot tA):=by
 intro pins s σ H Q I h
 exact isTrue_not (ha pins s σ H (fun c H1=>Q (!c) H1) I h)
def i1w(ta tb:TE):TE:=fun σ H Q=>ta σ H fun x H1=>∃ c,x = .bl c/\if c=true then tb σ H1 Q else Q (.bl false) H1
def i1x(ta:TE):TE:=fun σ H Q=>ta σ H fun x H1=>∃ c,x = .bl c/\Q (.bl (!c)) H1
theorem g8a{op}{t:TE}(h:PE X a t):PE X (.BoolOp op [a] pos) t:=fun pins s σ H Q I hw=>BoolOp_one (h pins s σ H Q I hw)
theorem i1y(ha:PE X a ta)(hb:PE X (.BoolOp .And (b :: rest) pos) tb):PE X (.BoolOp .And (a :: b :: rest) pos) (i1w ta tb):=by
 intro pins s σ H Q I h
 refine BoolOp_and (thn (ha pins s σ H _ I h) fun v s1 ⟨x,H1,I1,r1,q1⟩=>?_)
 obtain⟨c,rfl,q1⟩:=q1
 cases r1
 refine wpAny_truthy_bool ?_
 cases c with
 | true=>exact hb pins s1 σ H1 Q I1 q1
 | false=>exact⟨.bl false,H1,I1,rfl,q1⟩
theorem i2a(ha:PE X a ta):PE X (.UnaryOp .Not a pos) (i1x ta):=by
 intro pins s σ H Q I h
 refine UnaryOp_ (thn (ha pins s σ H _ I h) fun v s1 ⟨x,H1,I1,r1,q1⟩=>?_)
 obtain⟨c,rfl,q1⟩:=q1
 cases r1
 exact not_of (wpAny_truthy_bool ⟨.bl (!c),H1,I1,rfl,q1⟩)
def tIf(t:TT)(ta tb:TE):TE:=fun σ H Q=>t σ H fun c H1=>if c=true then ta σ H1 Q else tb σ H1 Q
theorem g4q{c:Expr}(hc:PT X c tA)(ha:PE X a ta)(hb:PE X b tb):PE X (.IfExp c a b pos) (tIf tA ta tb):=by
 intro pins s σ H Q I h
 refine wpAny_IfExp (thn (hc pins s σ H _ I h) fun d s1 ⟨H1,I1,q1⟩=>?_)
 cases d with
 | true=>exact ha pins s1 σ H1 Q I1 q1
 | false=>exact hb pins s1 σ H1 Q I1 q1
end
end L2
namespace L2
open PySem PySem.Spec PyProof.Rows
def SqL(K:PySem.W.Frag)(H:Hp)(a:Addr)(xs:List V):Prop :=
 Rd H a (.lst xs) \/
  ∃ (o : Obj) (its : Array Value) (n : Nat), K.lookup a = some o ∧ o.cls = .type "list" ∧ o.dict = none ∧ o.data = .seq its n ∧ its.size ≤ sizeLine ∧ Vals xs its.toList
def SqT(K:PySem.W.Frag)(H:Hp)(a:Addr)(xs:List V):Prop :=
 Rd H a (.tup xs) \/
  ∃ (o : Obj) (its : Array Value) (n : Nat), K.lookup a = some o ∧ o.cls = .type "tuple" ∧ o.data = .seq its n ∧ its.size ≤ sizeLine ∧ Vals xs its.toList
noncomputable def absV:Value->Option V
 | .none=>some .non
 | .bool b=>some (.bl b)
 | .int i _=>some (.int i)
 | .str x _=>some (.str x)
 | .bytes b _=>some (.byt b)
 | .float b _=>some (.flt b)
 | .ref a=>some (.ref a)
 | .type n=>some (.ty n)
 | _=>none
theorem RelV.abs{x:V}{u:Value}(r:RelV x u):absV u=some x:=by
 cases x with
 | non=>cases r; rfl
 | bl _=>cases r; rfl
 | int _=>obtain⟨t,rfl⟩:=r; rfl
 | str _=>obtain⟨t,rfl⟩:=r; rfl
 | byt _=>obtain⟨t,rfl⟩:=r; rfl
 | flt _=>obtain⟨t,rfl⟩:=r; rfl
 | ref _=>cases r; rfl
 | ty _=>cases r; rfl
theorem RelV.inj{x y:V}{u:Value}(r:RelV x u)(q:RelV y u):x=y:=Option.some.inj (r.abs.symm.trans q.abs)
theorem Vals.inj:∀ {xs ys:List V} {us:List Value},Vals xs us->Vals ys us->xs=ys
 | _,_,_,.nil,.nil=>rfl
 | _,_,_,.cons r t,.cons r' t'=>by rw [r.inj r',Vals.inj t t']
section
variable {X:Cx}{pins:List (Addr×Obj)}{σ:St}{H:Hp}{s:Shared}{a:Addr}{xs ys:List V}
theorem SqL.of{K:PySem.W.Frag}(h:H a=some (.lst xs)):SqL K H a xs:=.inl (.inl h)
theorem SqT.of{K:PySem.W.Frag}(h:H a=some (.tup xs)):SqT K H a xs:=.inl (.inl h)
theorem Inv.list(I:Inv X pins σ H s)(h:SqL X.K H a xs):∃ its:List Value,Vals xs its/\PlainL s.heap a its.toArray/\xs.length<=sizeLine:=by
 rcases h with h | ⟨o,its,n,hk,hc,hd,hs,hz,r⟩
 ·obtain⟨z,its,n,r,e⟩:=h.ok I.hok
  exact⟨its,r,⟨_,n,e,rfl,rfl,rfl⟩,z⟩
 ·refine⟨its.toList,r,⟨o,n,I.kIn a o hk,hc,hd,by simpa using hs⟩,?_⟩
  have e:=r.length
  simp only [Array.length_toList] at e
  omega
theorem Inv.tuple(I:Inv X pins σ H s)(h:SqT X.K H a xs):∃ its:List Value,Vals xs its/\IsTup s.heap a its.toArray/\xs.length<=sizeLine:=by
 rcases h with h | ⟨o,its,n,hk,hc,hs,hz,r⟩
 ·obtain⟨z,its,r,p⟩:=h.ok I.hok
  exact⟨its,r,p,z⟩
 ·refine⟨its.toList,r,⟨o,I.kIn a o hk,hc,n,by simpa using hs⟩,?_⟩
  have e:=r.length
  simp only [Array.length_toList] at e
  omega
theorem Inv.h2p(I:Inv X pins σ H s)(h:SqL X.K H a xs)(h':SqL X.K H a ys):xs=ys:=by
 obtain⟨its,r,⟨o,n,e,_,_,d⟩,_⟩:=I.list h
 obtain⟨its',r',⟨o',n',e',_,_,d'⟩,_⟩:=I.list h'
 rw [e] at e'; cases e'
 rw [d] at d'
 injection d' with d1 _
 have:its=its':=by simpa using congrArg Array.toList d1
 subst this
 exact r.inj r'
end
noncomputable abbrev Cx.wish(X:Cx)(E:Value->Shared->Prop):Cx:={ X with xe:=E }
noncomputable abbrev Cx.nox(X:Cx):Cx:=X.wish fun _ _=>False
theorem Cx.Ok.wish{X:Cx}(ok:X.Ok)(E:Value->Shared->Prop):(X.wish E).Ok :=
 ⟨ok.mod,ok.kind,ok.glob,ok.blt,ok.above,ok.inj,ok.has,ok.cab,ok.hd,ok.frames,ok.stk,ok.exf,ok.bs,ok.bsz,ok.i1d,ok.i1s,ok.g5v,ok.frf⟩
theorem Cx.Ok.b3o{X:Cx}{E:Value->Shared->Prop}(ok:(X.wish E).Ok):X.Ok :=
 ⟨ok.mod,ok.kind,ok.glob,ok.blt,ok.above,ok.inj,ok.has,ok.cab,ok.hd,ok.frames,ok.stk,ok.exf,ok.bs,ok.bsz,ok.i1d,ok.i1s,ok.g5v,ok.frf⟩
section
variable {X:Cx}{pins:List (Addr×Obj)}{σ:St}{H:Hp}{s:Shared}{E:Value->Shared->Prop}
theorem Inv.wish(I:Inv X pins σ H s)(E:Value->Shared->Prop):Inv (X.wish E) pins σ H s:=⟨I.ok.wish E,I.os,I.bare,I.base,I.loc,I.cell,I.free,I.d2i,I.pin,I.hok,I.len⟩
theorem Inv.b3o(I:Inv (X.wish E) pins σ H s):Inv X pins σ H s:=⟨I.ok.b3o,I.os,I.bare,I.base,I.loc,I.cell,I.free,I.d2i,I.pin,I.hok,I.len⟩
theorem SP.b3o{D:Ends}{f:Flow}{s':Shared}(h:SP (X.wish E) pins D f s'):SP X pins D f s':=by
 cases f with
 | next=>obtain⟨σ',H',I,q⟩:=h; exact⟨σ',H',I.b3o,q⟩
 | brk=>obtain⟨σ',H',I,q⟩:=h; exact⟨σ',H',I.b3o,q⟩
 | cont=>obtain⟨σ',H',I,q⟩:=h; exact⟨σ',H',I.b3o,q⟩
 | ret u=>obtain⟨v,σ',H',I,r,q⟩:=h; exact⟨v,σ',H',I.b3o,r,q⟩
theorem PSs.nox{st:List Stmt}{t:TS}(h:PSs X.nox st t):PSs X st t:=fun pins s σ H D I hw =>
 wpAny_mono (h pins s σ H D (I.wish _) hw) (fun _ _ q=>q.b3o) fun _ _ z=>False.elim z
end
section
variable {X:Cx}{st:Stmt}{rest:List Stmt}{t u:TS}{e:Expr}{te:TE}{pos:Pos}
def h7p:TS:=fun D σ H=>D.nx σ H
def i7d(t u:TS):TS:=fun D σ H=>t { D with nx:=u D } σ H
theorem a1g:PSs X [] h7p:=fun _ _ σ H _ I h=>wpAny_execs_nil ⟨σ,H,I,h⟩
theorem a0j(h1:PS X st t)(h2:PSs X rest u):PSs X (st :: rest) (i7d t u):=by
 intro pins s σ H D I h
 refine wpAny_execs_cons (thn (h1 pins s σ H { D with nx:=u D } I h) fun f s1 q=>?_)
 cases f with
 | next =>
  obtain⟨σ',H',I',q⟩:=q
  exact h2 pins s1 σ' H' D I' q
 | ret v=>exact q
 | brk=>exact q
 | cont=>exact q
theorem a0o(h1:PS X st t):PSs X [st] t:=by
 intro pins s σ H D I h
 refine wpAny_execs_cons (thn (h1 pins s σ H D I h) fun f s1 q=>?_)
 cases f with
 | next=>exact wpAny_execs_nil q
 | ret v=>exact q
 | brk=>exact q
 | cont=>exact q
theorem Inv.quiet{pins:List (Addr×Obj)}{σ:St}{H:Hp}{s:Shared}(I:Inv X pins σ H s):interactive X.env=false:=by simp [interactive,I.ok.kind]
def i2b(te:TE):TS:=fun D σ H=>te σ H fun _ H1=>D.nx σ H1
theorem a6o(he:PE X e te)(hs:swapsWith e none pos.line X.env=pure false:=by rfl):PS X (.Expr e pos) (i2b te):=by
 intro pins s σ H D I h
 exact wpAny_Expr_any (thn (he pins s σ H _ I h) fun v s1 ⟨x,H1,I1,r1,q1⟩=>⟨σ,H1,I1,q1⟩) I.quiet hs
def tRet(te:TE):TS:=fun D σ H=>te σ H D.rt
theorem a1z(he:PE X e te):PS X (.Return (some e) pos) (tRet te):=by
 intro pins s σ H D I h
 exact wpAny_Return_some (thn (he pins s σ H _ I h) fun v s1 ⟨x,H1,I1,r1,q1⟩=>⟨x,σ,H1,I1,r1,q1⟩)
def tRetN:TS:=fun D _ H=>D.rt .non H
def i6i(c:TT)(t u:TS):TS:=fun D σ H=>c σ H fun b H1=>if b=true then t D σ H1 else u D σ H1
theorem a4z{c:Expr}{a b:List Stmt}{tc:TT}(hc:PT X c tc)(ha:PSs X a t)(hb:PSs X b u):PS X (.If c a b pos) (i6i tc t u):=by
 intro pins s σ H D I h
 refine wpAny_If (thn (hc pins s σ H _ I h) fun d s1 ⟨H1,I1,q1⟩=>?_)
 cases d with
 | true=>exact ha pins s1 σ H1 D I1 q1
 | false=>exact hb pins s1 σ H1 D I1 q1
def i2c:TS:=fun _ _ _=>False
theorem a2h:PS X st i2c:=fun _ _ _ _ _ _ h=>h.elim
end
noncomputable abbrev TG:=V->St->Hp->(St->Hp->Prop)->Prop
noncomputable abbrev TGs:=List V->St->Hp->(St->Hp->Prop)->Prop
def PG(X:Cx)(target:Expr)(t:TG):Prop :=
 ∀ (pins:List (Addr×Obj)) (s:Shared) (σ:St) (H:Hp) (v:V) (u:Value) (Q:St->Hp->Prop),Inv X pins σ H s->RelV v u->t v σ H Q ->
  wpAny (model X.prog X.w) X.A (assign target X.env u) (fun _ s'=>∃ σ' H',Inv X pins σ' H' s'/\Q σ' H') X.xe s
def PGs(X:Cx)(ts:List Expr)(t:TGs):Prop :=
 ∀ (pins:List (Addr×Obj)) (s:Shared) (σ:St) (H:Hp) (vs:List V) (us:List Value) (Q:St->Hp->Prop),Inv X pins σ H s->Vals vs us->t vs σ H Q ->
  wpAny (model X.prog X.w) X.A (assignInOrder ((assignEach ts X.env).map (·.2)) us) (fun _ s'=>∃ σ' H',Inv X pins σ' H' s'/\Q σ' H') X.xe s
noncomputable abbrev TSet:=V->V->V->Hp->(Hp->Prop)->Prop
noncomputable abbrev TIp:=V->V->Hp->VK->Prop
section
variable {X:Cx}{pos:Pos}
def h2q(i:Nat):TG:=fun v σ H Q=>Q (σ.set i (some v)) H
theorem c5j{i:Nat}{x:Str}(hN:X.N.Nodup)(hi:X.N[i]? = some x)(hx:Loc X.env.scope x)(hf:X.fn x=true\/X.env.scope.names.lookup x=some .local:=by first | exact .inl rfl | exact .inr rfl | assumption):PG X (.Name x pos) (h2q i):=by
 intro pins s σ H v u Q I r h
 exact wpAny_assign_Name (d8n I hN hi hx r (fun s' I'=>⟨_,H,I',h⟩) hf)
def gSub(to ti:TE)(t:TSet):TG:=fun v σ H Q=>to σ H fun o H1=>ti σ H1 fun i H2=>t o i v H2 fun H3=>Q σ H3
def i7e(te:TE)(g:TG):TS:=fun D σ H=>te σ H fun x H1=>g x σ H1 D.nx
theorem a3s{i:Nat}{x:Str}{e:Expr}{te:TE}{pos':Pos}(hN:X.N.Nodup)(hi:X.N[i]? = some x)(hx:Loc X.env.scope x)(he:PE X e te)(hs:swapsWith e (some (.Name x pos')) pos.line X.env=pure false:=by rfl)(hf:X.fn x=true\/X.env.scope.names.lookup x=some .local:=by first | exact .inl rfl | exact .inr rfl | assumption) :
  PS X (.Assign [.Name x pos'] e pos) (i7e te (h2q i)):=by
 intro pins s σ H D I h
 refine wpAny_Assign_Name (thn (he pins s σ H _ I h) fun v s1 ⟨y,H1,I1,r1,q1⟩=>?_) hs
 exact d8n I1 hN hi hx r1 (fun s2 I2=>⟨_,H1,I2,q1⟩) hf
end
section
variable {X:Cx}{pos:Pos}
end
structure It where
 go:Nat->Hp->Prop
 yld:Nat->Hp->V->Hp->Prop
 stop:Nat->Hp->Prop
def f2p(X:Cx)(pins:List (Addr×Obj))(H:Hp)(b:Addr):Prop :=
 H b=none/\b≠X.env.locals/\b∉X.fs/\(b∈X.ex\/X.s₀.heap.objs.size<=b)/\(∀ x c,X.env.cells.lookup x=some c->c≠b)/\∀ p∈X.pn++pins,p.1≠b
theorem Inv.i1e{X:Cx}{pins:List (Addr×Obj)}{σ:St}{H H':Hp}{s:Shared}{b:Addr}(I:Inv X pins σ H s)(hb:s.heap.objs.size<=b)(hn:H' b=none):f2p X pins H' b:=by
 refine⟨hn,Nat.ne_of_gt (Nat.lt_of_lt_of_le I.lt hb),I.nofs hb,.inr (Nat.le_trans I.sz hb),fun x c e z=>?_,fun p hp z=>?_⟩
 ·obtain⟨v,q⟩:=I.cell x c e
  exact absurd (Nat.lt_of_lt_of_le q.lt (by rw [z]; exact hb)) (Nat.lt_irrefl _)
 ·exact absurd (Nat.lt_of_lt_of_le (Heap.lt_size (I.pin p hp).1) (by rw [z]; exact hb)) (Nat.lt_irrefl _)
structure Turn(P:Program)(w:World)(K:PySem.W.Frag)(tg:Expr)(J:It)(fp:List Addr)(it:Addr)(tn:Nat->Heap->Prop):Prop where
 mem:it∈fp
 obj:∀ i h,tn i h->∀ b∈fp,∃ o,h.get? b=some o/\∀ v,o.data≠.cell v
 keep:∀ i h h',tn i h->(∀ b∈fp,∀ o,h.get? b=some o->h'.get? b=some o)->tn i h'
 item:∀ (X:Cx),X.prog=P->X.w=w->X.K=K->X.calm=true->∀ (i:Nat) (pins:List (Addr×Obj)) (s:Shared) (σ:St) (H:Hp) (E:Value->Shared->Prop),Inv X pins σ H s->(∀ b∈fp,f2p X pins H b)->tn i s.heap->J.go i H ->
  wpAny (model P w) X.A (pyNext (.ref it)) (fun r s1=>∃ u,r=some u /\
   wpAny (model P w) X.A (letOwnedTupleGo tg (.ref it) u) (fun _ s2=>∃ x H',Inv X pins σ H' s2/\RelV x u/\J.yld i H x H'/\tn (i+1) s2.heap/\∀ b∈fp,H' b=none) E s1) E s
 done:∀ (X:Cx),X.prog=P->X.w=w->X.K=K->X.calm=true->∀ (i:Nat) (pins:List (Addr×Obj)) (s:Shared) (σ:St) (H:Hp) (E:Value->Shared->Prop),Inv X pins σ H s->(∀ b∈fp,f2p X pins H b)->tn i s.heap->J.stop i H ->
  wpAny (model P w) X.A (pyNext (.ref it)) (fun r s1=>r=none/\Inv X pins σ H s1) E s
 self:∀ (A:Around) (i:Nat) (s:Shared) (Q:Value->Shared->Prop) (E:Value->Shared->Prop),tn i s.heap->Q (.ref it) s->wpAny (model P w) A (pyIter (.ref it)) Q E s
noncomputable abbrev TI:=St->Hp->(It->Hp->Prop)->Prop
def PIE(X:Cx)(pins:List (Addr×Obj))(σ:St)(tg:Expr)(R:It->Hp->Prop)(itv:Value)(s2:Shared):Prop :=
 ∃ (it:Addr) (fp:List Addr) (tn:Nat->Heap->Prop) (J:It) (H':Hp),itv = .ref it/\Inv X pins σ H' s2/\Turn X.prog X.w X.K tg J fp it tn/\tn 0 s2.heap/\(∀ b∈fp,f2p X pins H' b)/\R J H'
def PI(X:Cx)(tg iter:Expr)(wi:TI):Prop :=
 ∀ (pins:List (Addr×Obj)) (s:Shared) (σ:St) (H:Hp) (R:It->Hp->Prop),Inv X pins σ H s->wi σ H R ->
  wpAny (model X.prog X.w) X.A (eval iter X.env) (fun v s1=>wpAny (model X.prog X.w) X.A (pyIter v) (PIE X pins σ tg R) X.xe s1) X.xe s
theorem h7q{M:Model}{A:Around}{E:Value->Shared->Prop}{s:Shared}{tg:Expr}{it:Addr}{u:Value}{o:Obj}{n:String}{vs:Array Value}{Q:Unit->Shared->Prop}(ho:s.heap.get? it=some o)(hc:o.cls = .type n)(hd:o.data = .fields vs)
  (hn : ["enumerate", "zip", "dict_itemiterator", "dict_reverseitemiterator", "odict_iterator", "itertools.zip_longest", "itertools.pairwise"].contains n = false) (hQ : Q () s) : wpAny M A (letOwnedTupleGo tg (.ref it) u) Q E s := by
 unfold letOwnedTupleGo
 cases tg <;> first
  | exact wpAny_pure hQ
  | (cases u <;> first
    | exact wpAny_pure hQ
    | (refine wpAny_bind (wpAny_load ho ?_)
       rw [hc,hd]
       show wpAny M A (if (["enumerate", "zip", "dict_itemiterator", "dict_reverseitemiterator", "odict_iterator", "itertools.zip_longest", "itertools.pairwise"].contains n && vs[0]? == some (rawInt _)) = true then _ else _) Q E s
       rw [if_neg (by intro h; rw [hn,Bool.false_and] at h; cases h)]
       exact wpAny_pure hQ))
noncomputable def Itl(K:PySem.W.Frag)(a:Addr):It :=
 ⟨fun i H=>∃ xs x,SqL K H a xs/\xs[i]? = some x,fun i H x H'=>H'=H/\∀ xs,SqL K H a xs->xs[i]? = some x,fun i H=>∃ xs,SqL K H a xs/\xs.length<=i⟩
noncomputable def Itr(lo:Int)(n:Nat):It:=⟨fun i _=>i < n,fun i H x H'=>H'=H/\x = .int (lo+i),fun i _=>n<=i⟩
theorem g8b{P:Program}{w:World}{K:PySem.W.Frag}{tg:Expr}(a it:Addr):Turn P w K tg (Itl K a) [it] it (fun i h=>h.IsListIter it a i) where
 mem:=by simp
 obj:=fun i h st b hb=>by
  have e:b=it:=by simpa using hb
  subst e
  obtain⟨o,e,c,d⟩:=st
  exact⟨o,e,fun v z=>by rw [d] at z; cases z⟩
 keep:=fun i h h' st k=>st.at fun o e=>k it (by simp) o e
 item:=by
  intro X hP hw hK hc i pins s σ H E I hf st hg
  subst hP hw hK
  obtain⟨xs,x,hq,hx⟩:=hg
  obtain⟨its,rv,p,hz⟩:=I.list hq
  obtain⟨u,hu,ru⟩:=rv.get hx
  obtain⟨f0,f1,f2,f3,f4,f5⟩:=hf it (by simp)
  refine wpAny_pyNext_list_item st p.isList (x:=u) (by simpa using hu) fun h' st' sb=>?_
  have I1:Inv X pins σ H { s with heap:=h' }:=I.turned (t':=s.toks) (fun b o hb e=>(sb.2 b hb).trans e) f0 f1 f3 f4 f5
  obtain⟨o,e,c,d⟩:=id st'
  exact⟨u,rfl,h7q (s:={ s with heap:=h' }) e c d (by decide) ⟨x,H,I1,ru,⟨rfl,fun ys hy=>by rw [I.h2p hy hq]; exact hx⟩,st',fun b hb=>(hf b hb).1⟩⟩
 done:=by
  intro X hP hw hK hc i pins s σ H E I hf st hg
  subst hP hw hK
  obtain⟨xs,hq,hx⟩:=hg
  obtain⟨its,rv,p,hz⟩:=I.list hq
  obtain⟨f0,f1,f2,f3,f4,f5⟩:=hf it (by simp)
  have hl:=rv.length
  exact wpAny_pyNext_list_end (I.ok.hd hc) st p.isList (by simp; omega) fun h' eb=>⟨rfl,I.turned (t':=s.toks) (fun b o hb e=>eb b o hb e) f0 f1 f3 f4 f5⟩
 self:=fun _ _ _ _ _ st h=>wpAny_pyIter_listiter st h
theorem g5w{P:Program}{w:World}{K:PySem.W.Frag}{tg:Expr}(it:Addr)(lo:Int)(n:Nat):Turn P w K tg (Itr lo n) [it] it (fun i h=>IsRangeIter h it (lo+(i:Nat)*1) ((n:Int) - (i:Nat)) 1) where
 mem:=by simp
 obj:=fun i h st b hb=>by
  have e:b=it:=by simpa using hb
  subst e
  exact⟨_,st,fun v z=>by
   have z':Data.fields _=Data.cell v:=z
   cases z'⟩
 keep:=fun i h h' st k=>k it (by simp) _ st
 item:=by
  intro X hP hw hK hc i pins s σ H E I hf st hg
  subst hP hw hK
  obtain⟨f0,f1,f2,f3,f4,f5⟩:=hf it (by simp)
  have W:=Walks.range (prog:=X.prog) (w:=X.w) (I.ok.hd hc) it lo 1 n
  refine W.item i s _ _ hg st fun v h' tk hv st' kk=>?_
  obtain⟨t,rfl⟩:=hv
  have I1:Inv X pins σ H { s with heap:=h',toks:=tk }:=I.turned (fun b o hb e=>kk b o (by simpa using hb) e) f0 f1 f3 f4 f5
  refine ⟨_, rfl, h7q (s := { s with heap := h', toks := tk }) (n := "range_iterator") st' rfl rfl (by decide) ⟨.int (lo + i), H, I1, ⟨t, ?_⟩, ⟨rfl, rfl⟩, st', fun b hb => (hf b hb).1⟩⟩
  rw [Int.mul_one]
 done:=by
  intro X hP hw hK hc i pins s σ H E I hf st hg
  subst hP hw hK
  obtain⟨f0,f1,f2,f3,f4,f5⟩:=hf it (by simp)
  exact wpAny_pyNext_range_end (I.ok.hd hc) st (by have:n<=i:=hg; omega) fun h' eb=>⟨rfl,I.turned (t':=s.toks) (fun b o hb e=>eb b o hb e) f0 f1 f3 f4 f5⟩
 self:=fun _ _ _ _ _ st h=>wpAny_pyIter_rangeiter st h
end L2
namespace L2
open PySem PySem.Spec PyProof.Rows
section
variable {X:Cx}{tg:Expr}
def i2d(K:PySem.W.Frag)(tl:TE):TI:=fun σ H R=>tl σ H fun x H1=>∃ a,x = .ref a/\(∃ xs,SqL K H1 a xs)/\R (Itl K a) H1
theorem h7r{l:Expr}{tl:TE}(hl:PE X l tl):PI X tg l (i2d X.K tl):=by
 intro pins s σ H R I h
 refine thn (hl pins s σ H _ I h) fun v s1 ⟨x,H1,I1,r1,q1⟩=>?_
 obtain⟨a,e,⟨xs,hq⟩,q⟩:=q1
 subst e
 cases r1
 obtain⟨its,rv,p,hz⟩:=I1.list hq
 refine wpAny_pyIter_list p.isList ?_
 refine⟨s1.heap.objs.size,[s1.heap.objs.size],_,_,H1,rfl,I1.kept (t':=s1.toks) fun b o e=>Heap.get?_push_of_some _ e,g8b a _,⟨_,Heap.get?_push_size _ rfl,rfl,rfl⟩,fun b hb=>?_,q⟩
 have e:b=s1.heap.objs.size:=by simpa using hb
 subst e
 exact I1.i1e (Nat.le_refl _) (I1.hok.fresh (Nat.le_refl _))
theorem h2r{pins:List (Addr×Obj)}{σ:St}{H:Hp}{s:Shared}{R:It->Hp->Prop}{E:Value->Shared->Prop}{lo hi:Int}{t u v:Tok}{tk:Nat}(I:Inv X pins σ H s)(h1 : -(2 ^ 62)<=lo)(h2:lo < 2 ^ 62)(h3 : -(2 ^ 62)<=hi)(h4:hi < 2 ^ 62)
  (q : R (Itr lo (hi - lo).toNat) H) : wpAny (model X.prog X.w) X.A (pyIter (.ref s.heap.objs.size)) (PIE X pins σ tg R) E { s with heap := s.heap.push { cls := .type "range", data := .fields #[.int lo t, .int hi u, .int 1 v] }, toks := tk } := by
 refine wpAny_pyIter_range (IsRange.new ..) (small_one h1 h2 h3 h4) ?_
 have I1 : Inv X pins σ H { s with heap := s.heap.push { cls := .type "range", data := .fields #[.int lo t, .int hi u, .int 1 v] }, toks := tk } := I.kept fun b o e => Heap.get?_push_of_some _ e
 refine ⟨(s.heap.push { cls := .type "range", data := .fields #[.int lo t, .int hi u, .int 1 v] }).objs.size, [(s.heap.push { cls := .type "range", data := .fields #[.int lo t, .int hi u, .int 1 v] }).objs.size], _, _, H, rfl,
  I1.kept (t':=tk) fun b o e=>Heap.get?_push_of_some _ e,g5w _ lo (hi - lo).toNat,?_,fun b hb=>?_,q⟩
 ·have e1:lo+((0:Nat):Int)*1=lo:=by simp
  have e2:(((hi - lo).toNat:Nat):Int) - ((0:Nat):Int)=Builtin.Range.rangeSize lo hi 1:=by rw [rangeSize_one]; split <;> omega
  show IsRangeIter _ _ (lo+((0:Nat):Int)*1) ((((hi - lo).toNat:Nat):Int) - ((0:Nat):Int)) 1
  rw [e1,e2]
  exact Heap.get?_push_size _ rfl
 ·have e : b = (s.heap.push { cls := .type "range", data := .fields #[.int lo t, .int hi u, .int 1 v] }).objs.size := by simpa using hb
  subst e
  exact I1.i1e (Nat.le_refl _) (I1.hok.fresh (Nat.le_refl _))
def i2e(ta:TA):TI:=fun σ H R=>ta σ H fun vs H1=>∃ j:Int,vs = [.int j] /\ -(2 ^ 62)<=j/\j < 2 ^ 62/\R (Itr 0 j.toNat) H1
theorem g8c {a : Expr} {ta : TA} {p pos : Pos} (hg : Gl X "range") (hm : X.mg "range" = none) (ha : PA X [a] ta) (hs : starEach [a] X.env = [(false, eval a X.env)] := by rfl) : PI X tg (.Call (.Name "range" p) [a] [] pos) (i2e ta) := by
 intro pins s σ H R I h
 refine Call_ (g4p I hg hm boot_range (PyProof.Rows.callWith_type1 (thn (ha pos pins s σ H _ I h) fun us s1 ⟨vs,H1,I1,r1,q1⟩=>?_) hs rfl))
 obtain⟨j,e,q1,q2,q⟩:=q1
 subst e
 cases r1 with
 | cons r rr =>
  cases rr
  obtain⟨t,rfl⟩:=r
  exact call_range_1 (h2r I1 (by omega) (by omega) q1 q2 (by simpa using q))
def tFor(wi:TI)(g:TG)(tb:TS):TS:=fun D σ H=>wi σ H fun J H1=>∃ W:Nat->Nat->St->Hp->Prop,(∃ m,W 0 m σ H1)/\∀ i m σ H,W i m σ H ->
 (J.stop i H/\D.nx σ H)\/(J.go i H/\∃ N:St->Hp->Prop,(∀ σ' H',N σ' H'->∃ m',m' < m/\W (i+1) m' σ' H')/\∀ x H',J.yld i H x H'->g x σ H' fun σ2 H2=>tb { D with nx:=N,ct:=N,bk:=D.nx } σ2 H2)
noncomputable def d6w(fp:List Addr)(h:Heap):List (Addr×Obj):=fp.filterMap fun b=>(h.get? b).map fun o=>(b,o)
theorem a9n{fp:List Addr}{h:Heap}{b:Addr}{o:Obj}(hb:b∈fp)(e:h.get? b=some o):(b,o)∈d6w fp h:=List.mem_filterMap.mpr ⟨b,hb,by rw [e]; rfl⟩
theorem g8d{fp:List Addr}{h:Heap}{p:Addr×Obj}(hp:p∈d6w fp h):p.1∈fp/\h.get? p.1=some p.2:=by
 obtain⟨b,hb,e⟩:=List.mem_filterMap.mp hp
 cases q:h.get? b with
 | none=>rw [q] at e; cases e
 | some o =>
  rw [q] at e
  have e':(b,o)=p:=Option.some.inj e
  subst e'
  exact⟨hb,q⟩
theorem Inv.pinned{pins:List (Addr×Obj)}{σ:St}{H:Hp}{s:Shared}{fp:List Addr}(I:Inv X pins σ H s)(hf:∀ b∈fp,f2p X pins H b)(ho:∀ b∈fp,∃ o,s.heap.get? b=some o/\∀ v,o.data≠.cell v):Inv X (pins++d6w fp s.heap) σ H s :=
 I.g7z fun p hp=>(List.mem_append.mp hp).elim (fun z=>I.pin p (List.mem_append_right _ z)) fun z=>by
  obtain⟨hb,e⟩:=g8d z
  obtain⟨f0,f1,f2,_⟩:=hf p.1 hb
  obtain⟨o,e',d⟩:=ho p.1 hb
  rw [e] at e'; cases e'
  exact⟨e,f0,f1,f2,d⟩
theorem Inv.c7j{pins pl:List (Addr×Obj)}{σ:St}{H:Hp}{s:Shared}(I:Inv X (pins++pl) σ H s):Inv X pins σ H s:=I.g7z fun p hp=>I.pin p (List.mem_append_right _ (List.mem_append_left _ hp))
theorem i2f{iter:Expr}{body:List Stmt}{wi:TI}{g:TG}{tb:TS}{pos:Pos}(hp:PassesOwn (model X.prog X.w) X.A X.env X.xe)(hc:X.calm=true)(hi:PI X tg iter wi)(hg:PG X tg g)(hb:PSs X body tb)
  (hs:∀ x,foldedSetIterable iter X.env x=pure x:=by intro _; rfl):PS X (.For tg iter body [] pos) (tFor wi g tb):=by
 intro pins s σ H D I h
 refine wpAny_For (thn (hi pins s σ H _ I h) fun v s1 h1=>thn h1 fun itv s2 h2=>?_) hs
 obtain⟨it,fp,tn,J,H2,e,I2,T,st2,f2,W,⟨m0,w0⟩,turn⟩:=h2
 subst e
 -- what stays true of the iterator's objects through the loop
 have stat:∀ {H':Hp},(∀ b∈fp,H' b=none)->∀ b∈fp,f2p X pins H' b:=fun hn b hb=>⟨hn b hb,(f2 b hb).2⟩
 refine codeAny_forLoop_any (fun n s'=>∃ i σ' H',Inv X pins σ' H' s'/\tn i s'.heap/\(∀ b∈fp,H' b=none)/\W i n σ' H') ?_ m0 ⟨0,σ,H2,I2,st2,fun b hb=>(f2 b hb).1,w0⟩
 rintro n s3 ⟨i,σ3,H3,I3,st3,fr3,w3⟩
 rcases turn i n σ3 H3 w3 with ⟨stop,qn⟩ | ⟨go,N,hN,step⟩
 ·refine wpAny_passesOwn hp (thn (T.done X rfl rfl rfl hc i pins s3 σ3 H3 X.xe I3 (stat fr3) st3 stop) fun r s4 ⟨hr,I4⟩=>?_)
  subst hr
  exact wpAny_execs_nil ⟨σ3,H3,I4,qn⟩
 ·refine wpAny_passesOwn hp (thn (T.item X rfl rfl rfl hc i pins s3 σ3 H3 X.xe I3 (stat fr3) st3 go) fun r s4 ⟨u,hr,h4⟩=>?_)
  subst hr
  refine wpAny_passesOwn hp (thn h4 fun _ s5 ⟨x,H5,I5,r5,y5,st5,fr5⟩=>?_)
  have I5':=I5.pinned (stat fr5) (T.obj _ _ st5)
  refine wpAny_passesOwn hp (thn (hg _ s5 σ3 H5 x u _ I5' r5 (step x H5 y5)) fun _ s6 ⟨σ6,H6,I6,q6⟩=>?_)
  refine wpAny_passesOwn hp (thn (hb _ s6 σ6 H6 _ I6 q6) fun f s7 q7=>?_)
  have again:∀ {σ7:St} {H7:Hp},Inv X (pins++d6w fp s5.heap) σ7 H7 s7->N σ7 H7->∃ m,m < n/\∃ i σ' H',Inv X pins σ' H' s7/\tn i s7.heap/\(∀ b∈fp,H' b=none)/\W i m σ' H':=fun {σ7 H7} I7 n7=>by
   obtain⟨m',hm,w7⟩:=hN σ7 H7 n7
   refine⟨m',hm,i+1,σ7,H7,I7.c7j,T.keep _ _ _ st5 fun b hb o e=>(I7.pin (b,o) (List.mem_append_right _ (List.mem_append_right _ (a9n hb e)))).1,fun b hb=>?_,w7⟩
   obtain⟨o,e,d⟩:=T.obj _ _ st5 b hb
   exact (I7.pin (b,o) (List.mem_append_right _ (List.mem_append_right _ (a9n hb e)))).2.1
  cases f with
  | next=>obtain⟨σ7,H7,I7,n7⟩:=q7; exact again I7 n7
  | cont=>obtain⟨σ7,H7,I7,n7⟩:=q7; exact again I7 n7
  | brk=>obtain⟨σ7,H7,I7,q7⟩:=q7; exact⟨σ7,H7,I7.c7j,q7⟩
  | ret v=>obtain⟨x7,σ7,H7,I7,r7,q7⟩:=q7; exact⟨x7,σ7,H7,I7.c7j,r7,q7⟩
end
theorem h2t{K:PySem.W.Frag}{a:Addr}{xs:List V}{g:TG}{tb:TS}{D:Ends}{σ:St}{H:Hp}(Pv:Nat->St->Hp->Prop)(h0:Pv 0 σ H)(hl:∀ i σ H,i<=xs.length->Pv i σ H->SqL K H a xs)
  (hs:∀ i x σ H,xs[i]? = some x->Pv i σ H->g x σ H fun σ2 H2=>tb { D with nx:=Pv (i+1),ct:=Pv (i+1),bk:=D.nx } σ2 H2) (hd:∀ σ H,Pv xs.length σ H->D.nx σ H) :
  ∃ W:Nat->Nat->St->Hp->Prop,(∃ m,W 0 m σ H)/\∀ i m σ H,W i m σ H ->
   ((Itl K a).stop i H/\D.nx σ H)\/((Itl K a).go i H/\∃ N:St->Hp->Prop,(∀ σ' H',N σ' H'->∃ m',m' < m/\W (i+1) m' σ' H')/\∀ x H',(Itl K a).yld i H x H'->g x σ H' fun σ2 H2=>tb { D with nx:=N,ct:=N,bk:=D.nx } σ2 H2):=by
 refine⟨fun i m σ H=>m=xs.length - i/\i<=xs.length/\Pv i σ H,⟨xs.length,by simp,Nat.zero_le _,h0⟩,?_⟩
 rintro i m σ H ⟨rfl,hi,p⟩
 have q:=hl i σ H hi p
 by_cases hlt:i < xs.length
 ·refine .inr ⟨⟨xs,xs[i],q,by simp [hlt]⟩,Pv (i+1),fun σ' H' p'=>⟨xs.length - (i+1),by omega,rfl,hlt,p'⟩,fun x H' y=>?_⟩
  obtain⟨e,y⟩:=y
  subst e
  exact hs i x σ _ (y xs q) p
 ·have e:i=xs.length:=by omega
  subst e
  exact .inl ⟨⟨xs,q,Nat.le_refl _⟩,hd σ H p⟩
theorem g8e{lo:Int}{n:Nat}{g:TG}{tb:TS}{D:Ends}{σ:St}{H:Hp}(Pv:Nat->St->Hp->Prop)(h0:Pv 0 σ H)
  (hs:∀ i σ H,i < n->Pv i σ H->g (.int (lo+i)) σ H fun σ2 H2=>tb { D with nx:=Pv (i+1),ct:=Pv (i+1),bk:=D.nx } σ2 H2) (hd:∀ σ H,Pv n σ H->D.nx σ H) :
  ∃ W:Nat->Nat->St->Hp->Prop,(∃ m,W 0 m σ H)/\∀ i m σ H,W i m σ H ->
   ((Itr lo n).stop i H/\D.nx σ H)\/((Itr lo n).go i H/\∃ N:St->Hp->Prop,(∀ σ' H',N σ' H'->∃ m',m' < m/\W (i+1) m' σ' H')/\∀ x H',(Itr lo n).yld i H x H'->g x σ H' fun σ2 H2=>tb { D with nx:=N,ct:=N,bk:=D.nx } σ2 H2):=by
 refine⟨fun i m σ H=>m=n - i/\i<=n/\Pv i σ H,⟨n,by simp,Nat.zero_le _,h0⟩,?_⟩
 rintro i m σ H ⟨rfl,hi,p⟩
 by_cases hlt:i < n
 ·refine .inr ⟨hlt,Pv (i+1),fun σ' H' p'=>⟨n - (i+1),by omega,rfl,hlt,p'⟩,fun x H' y=>?_⟩
  obtain⟨e,y⟩:=y
  subst e y
  exact hs i σ _ hlt p
 ·have e:i=n:=by omega
  subst e
  exact .inl ⟨Nat.le_refl _,hd σ H p⟩
end L2
namespace L2
open PySem PySem.Spec PyProof.Rows
noncomputable abbrev R2:=V->V->Hp->VK->Prop
def OpR(X:Cx)(f:Value->Value->Sem Value)(r:R2):Prop :=
 ∀ (pins:List (Addr×Obj)) (s:Shared) (σ:St) (H:Hp) (x y:V) (v u:Value) (Q:VK),Inv X pins σ H s->RelV x v->RelV y u->r x y H Q ->
  wpAny (model X.prog X.w) X.A (f v u) (EP X pins σ Q) X.xe s
def UnR(X:Cx)(f:Value->Sem Value)(r:V->Hp->VK->Prop):Prop :=
 ∀ (pins:List (Addr×Obj)) (s:Shared) (σ:St) (H:Hp) (x:V) (v:Value) (Q:VK),Inv X pins σ H s->RelV x v->r x H Q ->
  wpAny (model X.prog X.w) X.A (f v) (EP X pins σ Q) X.xe s
def c6r(X:Cx)(f:Value)(r:List V->Hp->VK->Prop):Prop :=
 ∀ (pins:List (Addr×Obj)) (s:Shared) (σ:St) (H:Hp) (xs:List V) (us:List Value) (Q:VK),Inv X pins σ H s->Vals xs us->r xs H Q ->
  wpAny (model X.prog X.w) X.A (call f us) (EP X pins σ Q) X.xe s
def tOp(r:R2)(ta tb:TE):TE:=fun σ H Q=>ta σ H fun x H1=>tb σ H1 fun y H2=>r x y H2 Q
def tUn(r:V->Hp->VK->Prop)(ta:TE):TE:=fun σ H Q=>ta σ H fun x H1=>r x H1 Q
def rI(C:Int->Int->Prop)(g:Int->Int->V):R2:=fun x y H Q=>∃ i j,x = .int i/\y = .int j/\C i j/\Q (g i j) H
def rI0(g:Int->Int->V):R2:=fun x y H Q=>∃ i j,x = .int i/\y = .int j/\Q (g i j) H
noncomputable def rU(g:Int->V):V->Hp->VK->Prop:=fun x H Q=>∃ i,x = .int i/\Q (g i) H
section
variable {X:Cx}{a b c:Expr}{ta tb tc:TE}{pos:Pos}
theorem i7f(ha:PE X a ta)(hb:PE X b tb){pins:List (Addr×Obj)}{s:Shared}{σ:St}{H:Hp}{R:V->V->Hp->Prop}(I:Inv X pins σ H s)
  (h:ta σ H fun x H1=>tb σ H1 fun y H2=>R x y H2) {Q:Value->Shared->Prop} {f:Value->Value->Sem Value}
  (hf:∀ v u s2 x y H2,Inv X pins σ H2 s2->RelV x v->RelV y u->R x y H2->wpAny (model X.prog X.w) X.A (f v u) Q X.xe s2) :
  wpAny (model X.prog X.w) X.A (eval a X.env) (fun v s₁=>wpAny (model X.prog X.w) X.A (eval b X.env) (fun u s₂=>wpAny (model X.prog X.w) X.A (f v u) Q X.xe s₂) X.xe s₁) X.xe s:=by
 refine thn (ha pins s σ H _ I h) fun v s1 ⟨x,H1,I1,r1,q1⟩=>?_
 refine thn (hb pins s1 σ H1 _ I1 q1) fun u s2 ⟨y,H2,I2,r2,q2⟩=>?_
 exact hf v u s2 x y H2 I2 r1 r2 q2
theorem a2i{op:Operator}{r:R2}(ho:OpR X (binaryOp op) r)(ha:PE X a ta)(hb:PE X b tb):PE X (.BinOp a op b pos) (tOp r ta tb):=by
 intro pins s σ H Q I h
 exact wpAny_BinOp (i7f ha hb I h fun v u s2 x y H2 I2 rx ry q=>ho pins s2 σ H2 x y v u Q I2 rx ry q)
theorem i2g{op:UnaryOp}{r:V->Hp->VK->Prop}(ho:UnR X (unaryOp op) r)(ha:PE X a ta):PE X (.UnaryOp op a pos) (tUn r ta):=by
 intro pins s σ H Q I h
 exact UnaryOp_ (thn (ha pins s σ H _ I h) fun v s1 ⟨x,H1,I1,r1,q1⟩=>ho pins s1 σ H1 x v Q I1 r1 q1)
theorem opI{f:Value->Value->Sem Value}{C:Int->Int->Prop}{g:Int->Int->Int}
  (rule:∀ (i j:Int) (t u:Tok) (s:Shared) (Q:Value->Shared->Prop) (E:Value->Shared->Prop),C i j->Q (.int (g i j) s.toks) { s with toks:=s.toks+1 }->wpAny (model X.prog X.w) X.A (f (.int i t) (.int j u)) Q E s) :
  OpR X f (rI C fun i j=>.int (g i j)):=by
 intro pins s σ H x y v u Q I rx ry h
 obtain⟨i,j,rfl,rfl,hc,q⟩:=h
 obtain⟨t,rfl⟩:=rx
 obtain⟨t',rfl⟩:=ry
 exact rule i j t t' s _ _ hc ⟨.int (g i j),H,I.tok _,⟨_,rfl⟩,q⟩
theorem j0d{f:Value->Value->Sem Value}{g:Int->Int->Int}
  (rule:∀ (i j:Int) (t u:Tok) (s:Shared) (Q:Value->Shared->Prop) (E:Value->Shared->Prop),Q (.int (g i j) s.toks) { s with toks:=s.toks+1 }->wpAny (model X.prog X.w) X.A (f (.int i t) (.int j u)) Q E s) :
  OpR X f (rI0 fun i j=>.int (g i j)):=by
 intro pins s σ H x y v u Q I rx ry h
 obtain⟨i,j,rfl,rfl,q⟩:=h
 obtain⟨t,rfl⟩:=rx
 obtain⟨t',rfl⟩:=ry
 exact rule i j t t' s _ _ ⟨.int (g i j),H,I.tok _,⟨_,rfl⟩,q⟩
theorem i7g{f:Value->Value->Sem Value}{g:Int->Int->Bool}
  (rule:∀ (i j:Int) (t u:Tok) (s:Shared) (Q:Value->Shared->Prop) (E:Value->Shared->Prop),Q (.bool (g i j)) s->wpAny (model X.prog X.w) X.A (f (.int i t) (.int j u)) Q E s) :
  OpR X f (rI0 fun i j=>.bl (g i j)):=by
 intro pins s σ H x y v u Q I rx ry h
 obtain⟨i,j,rfl,rfl,q⟩:=h
 obtain⟨t,rfl⟩:=rx
 obtain⟨t',rfl⟩:=ry
 exact rule i j t t' s _ _ ⟨.bl (g i j),H,I,rfl,q⟩
def j0e(i j:Int):Prop:=0<=j/\j<=1000000/\i.natAbs < 2 ^ 64
def j0f(i j:Int):Prop:=(-(2 ^ 64) < i/\i < 2 ^ 64)\/(-(2 ^ 64) < j/\j < 2 ^ 64)
theorem j0f.ok{i j:Int}(h:j0f i j):IntMulOk i j:=by
 rcases h with ⟨h1,h2⟩ | ⟨h1,h2⟩
 ·exact .of_left (intBits_le_64 h1 h2)
 ·exact .of_right (intBits_le_64 h1 h2)
theorem i2h:OpR X (binaryOp .Add) (rI0 fun i j=>.int (i+j)):=j0d fun _ _ _ _ _ _ _ q=>add_int q
theorem i2i:OpR X (binaryOp .Sub) (rI0 fun i j=>.int (i - j)):=j0d fun _ _ _ _ _ _ _ q=>sub_int q
theorem h7s:OpR X (binaryOp .Mod) (rI (fun _ j=>j≠0) fun i j=>.int (i.fmod j)):=opI fun _ _ _ _ _ _ _ hc q=>mod_int' hc q
theorem i2j:OpR X (binaryOp .Pow) (rI j0e fun i j=>.int (i ^ j.toNat)):=opI fun _ _ _ _ _ _ _ hc q=>pow_int_small hc.1 hc.2.1 hc.2.2 q
theorem unI{f:Value->Sem Value}{g:Int->Int}
  (rule:∀ (i:Int) (t:Tok) (s:Shared) (Q:Value->Shared->Prop) (E:Value->Shared->Prop),Q (.int (g i) s.toks) { s with toks:=s.toks+1 }->wpAny (model X.prog X.w) X.A (f (.int i t)) Q E s) :
  UnR X f (rU fun i=>.int (g i)):=by
 intro pins s σ H x v Q I rx h
 obtain⟨i,rfl,q⟩:=h
 obtain⟨t,rfl⟩:=rx
 exact rule i t s _ _ ⟨.int (g i),H,I.tok _,⟨_,rfl⟩,q⟩
theorem i2k:UnR X (unaryOp .USub) (rU fun i=>.int (-i)):=unI fun _ _ _ _ _ q=>neg_int q
end
noncomputable def g8f:V->V->Bool
 | .non,.non=>true | .non,.int _=>true | .int _,.non=>true | .non,.bl _=>true | .bl _,.non=>true | .non,.str _=>true | .str _,.non=>true
 | .int _,.int _=>true | .bl _,.bl _=>true | .str _,.str _=>true | .byt _,.byt _=>true
 | .int _,.str _=>true | .str _,.int _=>true | .bl _,.str _=>true | .str _,.bl _=>true
 | _,_=>false
def rEq:R2:=fun x y H Q=>g8f x y=true/\Q (.bl (decide (x=y))) H
def rNe:R2:=fun x y H Q=>g8f x y=true/\Q (.bl (!decide (x=y))) H
theorem g8g{i j:Int}:decide (V.int i=V.int j)=(i == j):=by
 rw [Bool.eq_iff_iff]
 simp
theorem h5n{i j:Bool}:decide (V.bl i=V.bl j)=(i == j):=by
 rw [Bool.eq_iff_iff]
 simp
theorem g8h{i j:Str}:decide (V.str i=V.str j)=(i == j):=by
 rw [Bool.eq_iff_iff]
 simp
theorem g8i{i j:Array UInt8}:decide (V.byt i=V.byt j)=(i.toList == j.toList):=by
 rw [Bool.eq_iff_iff]
 cases i
 cases j
 simp
section
variable {X:Cx}{a b c:Expr}{ta tb tc:TE}{pos:Pos}
theorem a7l{pins:List (Addr×Obj)}{σ:St}{H:Hp}{s:Shared}{Q:VK}{k k':Bool}(I:Inv X pins σ H s)(q:Q (.bl k) H)(e:k=k'):EP X pins σ Q (.bool k') s:=by
 subst e
 exact⟨.bl k,H,I,rfl,q⟩
theorem i7h:OpR X (compareOp .Eq) rEq:=by
 intro pins s σ H x y v u Q I rx ry h
 obtain⟨hs,q⟩:=h
 cases x with
 | non =>
  cases rx
  cases y with
  | non=>cases ry; exact PySem.EqNone.eq_none_none (a7l I q (by simp))
  | bl j=>cases ry; exact PySem.EqNone.eq_none_bool (a7l I q (by simp))
  | int j=>obtain⟨t',rfl⟩:=ry; exact PySem.EqNone.eq_none_int (a7l I q (by simp))
  | str j=>obtain⟨t',rfl⟩:=ry; exact PySem.EqNone.eq_none_str (a7l I q (by simp))
  | _=>exact absurd (show false=true from hs) Bool.false_ne_true
 | bl i =>
  cases rx
  cases y with
  | non=>cases ry; exact PySem.EqNone.eq_bool_none (a7l I q (by simp))
  | bl j=>cases ry; exact eq_bool (a7l I q h5n)
  | str j=>obtain⟨t',rfl⟩:=ry; exact PySem.EqMixed.eq_bool_str (a7l I q (by simp))
  | _=>exact absurd (show false=true from hs) Bool.false_ne_true
 | int i =>
  obtain⟨t,rfl⟩:=rx
  cases y with
  | non=>cases ry; exact PySem.EqNone.eq_int_none (a7l I q (by simp))
  | int j=>obtain⟨t',rfl⟩:=ry; exact eq_int (a7l I q g8g)
  | str j=>obtain⟨t',rfl⟩:=ry; exact PySem.EqMixed.eq_int_str (a7l I q (by simp))
  | _=>exact absurd (show false=true from hs) Bool.false_ne_true
 | str i =>
  obtain⟨t,rfl⟩:=rx
  cases y with
  | non=>cases ry; exact PySem.EqNone.eq_str_none (a7l I q (by simp))
  | bl j=>cases ry; exact PySem.EqMixed.eq_str_bool (a7l I q (by simp))
  | int j=>obtain⟨t',rfl⟩:=ry; exact PySem.EqMixed.eq_str_int (a7l I q (by simp))
  | str j=>obtain⟨t',rfl⟩:=ry; exact eq_str (a7l I q g8h)
  | _=>exact absurd (show false=true from hs) Bool.false_ne_true
 | byt i =>
  obtain⟨t,rfl⟩:=rx
  cases y with
  | byt j=>obtain⟨t',rfl⟩:=ry; exact PySem.W.eq_bytes (a7l I q g8i)
  | _=>exact absurd (show false=true from hs) Bool.false_ne_true
 | _=>cases y <;> exact absurd (show false=true from hs) Bool.false_ne_true
theorem i7i:OpR X (compareOp .NotEq) rNe:=by
 intro pins s σ H x y v u Q I rx ry h
 obtain⟨hs,q⟩:=h
 cases x with
 | non =>
  cases rx
  cases y with
  | non=>cases ry; exact PySem.EqNone.ne_none_none (a7l I q (by simp))
  | bl j=>cases ry; exact PySem.EqNone.ne_none_bool (a7l I q (by simp))
  | int j=>obtain⟨t',rfl⟩:=ry; exact PySem.EqNone.ne_none_int (a7l I q (by simp))
  | str j=>obtain⟨t',rfl⟩:=ry; exact PySem.EqNone.ne_none_str (a7l I q (by simp))
  | _=>exact absurd (show false=true from hs) Bool.false_ne_true
 | bl i =>
  cases rx
  cases y with
  | non=>cases ry; exact PySem.EqNone.ne_bool_none (a7l I q (by simp))
  | bl j=>cases ry; exact ne_bool (a7l I q (congrArg not h5n))
  | str j=>obtain⟨t',rfl⟩:=ry; exact PySem.EqMixed.ne_bool_str (a7l I q (by simp))
  | _=>exact absurd (show false=true from hs) Bool.false_ne_true
 | int i =>
  obtain⟨t,rfl⟩:=rx
  cases y with
  | non=>cases ry; exact PySem.EqNone.ne_int_none (a7l I q (by simp))
  | int j=>obtain⟨t',rfl⟩:=ry; exact ne_int (a7l I q (congrArg not g8g))
  | str j=>obtain⟨t',rfl⟩:=ry; exact PySem.EqMixed.ne_int_str (a7l I q (by simp))
  | _=>exact absurd (show false=true from hs) Bool.false_ne_true
 | str i =>
  obtain⟨t,rfl⟩:=rx
  cases y with
  | non=>cases ry; exact PySem.EqNone.ne_str_none (a7l I q (by simp))
  | bl j=>cases ry; exact PySem.EqMixed.ne_str_bool (a7l I q (by simp))
  | int j=>obtain⟨t',rfl⟩:=ry; exact PySem.EqMixed.ne_str_int (a7l I q (by simp))
  | str j=>obtain⟨t',rfl⟩:=ry; exact ne_str (a7l I q (congrArg not g8h))
  | _=>exact absurd (show false=true from hs) Bool.false_ne_true
 | byt i =>
  obtain⟨t,rfl⟩:=rx
  cases y with
  | byt j=>obtain⟨t',rfl⟩:=ry; exact PySem.W.ne_bytes (a7l I q (congrArg not g8i))
  | _=>exact absurd (show false=true from hs) Bool.false_ne_true
 | _=>cases y <;> exact absurd (show false=true from hs) Bool.false_ne_true
theorem i7j:OpR X (compareOp .Lt) (rI0 fun i j=>.bl (decide (i < j))):=i7g fun _ _ _ _ _ _ _ q=>lt_int q
theorem i7k:OpR X (compareOp .LtE) (rI0 fun i j=>.bl (decide (i<=j))):=i7g fun _ _ _ _ _ _ _ q=>le_int q
theorem i7l:OpR X (compareOp .Gt) (rI0 fun i j=>.bl (decide (j < i))):=i7g fun _ _ _ _ _ _ _ q=>gt_int q
theorem g8j:OpR X (compareOp .In) (fun x y H Q=>∃ i j,x = .str i/\y = .str j/\Q (.bl (!(Builtin.Str.occurrences j i 0 j.length 1).isEmpty)) H):=by
 intro pins s σ H x y v u Q I rx ry h
 obtain⟨i,j,rfl,rfl,q⟩:=h
 obtain⟨t,rfl⟩:=rx
 obtain⟨t',rfl⟩:=ry
 exact in_str (a7l I q rfl)
theorem i2l:OpR X (compareOp .Is) (fun x y H Q=>y = .non/\Q (.bl (decide (x = .non))) H):=by
 intro pins s σ H x y v u Q I rx ry h
 obtain⟨rfl,q⟩:=h
 cases ry
 refine is_none_gen (a7l I q ?_)
 cases x <;> first
  | (cases rx; rfl)
  | (obtain⟨t,rfl⟩:=rx; rfl)
theorem a1k(b:Expr){op:CmpOp}(h:op≠.In:=by decide)(h2:op≠.NotIn:=by decide):behindInMarks op b=false:=by
 have e1:(op == CmpOp.In)=false:=by cases op <;> first | rfl | exact absurd rfl h
 have e2:(op == CmpOp.NotIn)=false:=by cases op <;> first | rfl | exact absurd rfl h2
 cases b <;> simp [behindInMarks,e1,e2]
theorem b1l{op:CmpOp}{r:R2}(ho:OpR X (compareOp op) r)(ha:PE X a ta)(hb:PE X b tb)(hm:behindInMarks op b=false):PE X (.Compare a [op] [b] pos) (tOp r ta tb):=by
 intro pins s σ H Q I h
 exact wpAny_Compare1 (i7f ha hb I h fun v u s2 x y H2 I2 rx ry q=>ho pins s2 σ H2 x y v u Q I2 rx ry q) hm
def i2m(t:TE):TT:=fun σ H Q=>t σ H fun x H'=>∃ k,x = .bl k/\Q k H'
theorem h7t{op:CmpOp}{r:R2}(ho:OpR X (compareOp op) r)(ha:PE X a ta)(hb:PE X b tb)(hm:behindInMarks op b=false):PT X (.Compare a [op] [b] pos) (i2m (tOp r ta tb)):=by
 intro pins s σ H Q I h
 refine wpAny_isTrue_Compare1 (thn (ha pins s σ H _ I h) fun v s1 ⟨x,H1,I1,r1,q1⟩=>thn (hb pins s1 σ H1 _ I1 q1) fun u s2 ⟨y,H2,I2,r2,q2⟩ =>
  thn (ho pins s2 σ H2 x y v u _ I2 r1 r2 q2) fun c s3 ⟨z,H3,I3,r3,k,e,q3⟩=>?_) hm
 subst e
 cases r3
 exact wpAny_truthy_bool ⟨H3,I3,q3⟩
theorem f8z:(sizeLine:Nat) < 2 ^ 63:=by rw [sizeLine_eq]; decide
theorem g5x:OpR X (binaryOp .Add) (fun x y H Q=>∃ i j,x = .str i/\y = .str j/\i.length+j.length<=sizeLine/\Q (.str (i++j)) H):=by
 intro pins s σ H x y v u Q I rx ry h
 obtain⟨i,j,rfl,rfl,hz,q⟩:=h
 obtain⟨t,rfl⟩:=rx
 obtain⟨t',rfl⟩:=ry
 exact add_str (fun t' tk=>⟨.str (i++j),H,I.tok _,⟨_,rfl⟩,q⟩) hz
theorem vals1{x:V}{us:List Value}(r:Vals [x] us):∃ u,us = [u]/\RelV x u:=by
 cases r with
 | cons r1 r2=>cases r2; exact⟨_,rfl,r1⟩
theorem vals2{x y:V}{us:List Value}(r:Vals [x,y] us):∃ u w',us = [u,w']/\RelV x u/\RelV y w':=by
 cases r with
 | cons r1 r2 =>
  cases r2 with
  | cons r3 r4=>cases r4; exact⟨_,_,rfl,r1,r3⟩
theorem h2u : c6r X (.builtin "abs") (fun xs H Q => ∃ i, xs = [.int i] ∧ Q (.int (if i < 0 then -i else i)) H) := by
 intro pins s σ H xs us Q I r h
 obtain⟨i,rfl,q⟩:=h
 obtain⟨u,rfl,t,rfl⟩:=vals1 r
 exact call_abs_int fun u tk=>⟨.int (if i < 0 then -i else i),H,I.tok _,⟨_,rfl⟩,q⟩
theorem f9g : c6r X (.type "int") (fun xs H Q => (∃ i, xs = [.int i] ∧ Q (.int i) H) ∨ ∃ k, xs = [.bl k] ∧ Q (.int (if k then 1 else 0)) H) := by
 intro pins s σ H xs us Q I r h
 rcases h with ⟨i,rfl,q⟩ | ⟨k,rfl,q⟩
 ·obtain⟨u,rfl,t,rfl⟩:=vals1 r
  exact call_int_int ⟨.int i,H,I,⟨_,rfl⟩,q⟩
 ·obtain⟨u,rfl,r1⟩:=vals1 r
  cases r1
  exact call_int_bool ⟨.int (if k then 1 else 0),H,I.tok _,⟨_,rfl⟩,q⟩
end
end L2
namespace L2
open PySem PySem.Spec PyProof.Rows
structure h7u(h:Heap)(x dx C:Addr)(mA:Str->Option Value):Prop where
 obj:h.get? x=some (PySem.W.instObj C dx)
 ns:h.Ns1 dx mA
 ne:dx≠x
theorem g8k{h:Heap}{dx:Addr}{mA:Str->Option Value}(n:h.Ns1 dx mA):∃ od,h.get? dx=some od/\∀ name,PySem.W.lookIn name od=some (mA name):=by
 obtain⟨o,es,ep,ho,hd,hk,_,hm⟩:=n
 refine⟨o,ho,fun name=>?_⟩
 have e:=hm name
 unfold nsFind findBy at e
 rw [<- Array.find?_toList] at e
 unfold PySem.W.lookIn
 rw [hd]
 dsimp only
 split
 ·rename_i y q
  rw [q] at e
  exact congrArg some e
 ·rename_i q
  rw [q] at e
  have a:es.toList.any (·.refKey)=false:=by
   rw [List.any_eq_false]
   intro y hy
   obtain⟨z,t,hkey⟩:=hk y (Array.mem_toList_iff.mp hy)
   simp [DictEntry.refKey,hkey]
  have a':¬ es.toList.any (·.refKey)=true:=by rw [a]; exact Bool.false_ne_true
  rw [if_neg a']
  exact congrArg some e
theorem h7u.look{h:Heap}{x dx C:Addr}{mA:Str->Option Value}(I:h7u h x dx C mA):∃ od,PySem.W.InstAt h x (PySem.W.instObj C dx) C (some od)/\∀ name,PySem.W.lookIn name od=some (mA name) :=
 let ⟨od,ho,hl⟩:=g8k I.ns
 ⟨od,⟨I.obj,rfl,rfl,ho⟩,hl⟩
section
variable {prog:Program}{w:World}{A:Around}{E:Value->Shared->Prop}{s:Shared}{K:PySem.W.Frag}{x dx C f:Addr}{mA:Str->Option Value}{name:Str}{v:Value}
theorem get_map{expr:Bool}{Q:Value->Shared->Prop}(X:K.In s.heap)(I:h7u s.heap x dx C mA)(hg:PySem.W.plainGet K C name=true)(hh:PySem.W.hasDictIn K C=true)
  (ha:PySem.W.findIn K (.ref C) name=some none) (hv:mA name=some v) (hv':PySem.W.handedIn v=true) (h:Q v { s with toks:=s.toks+1 }) :
  wpAny (model prog w) A (getAttr (.ref x) name expr) Q E s:=by
 obtain⟨od,J,hl⟩:=I.look
 exact PySem.W.get_value X J (PySem.W.plainGet_of hg).1 (PySem.W.findObj_own hh ha rfl (by rw [hl,hv])) hv' h
theorem h2v{pl:Sem Bool}{Q:Value×List Value->Shared->Prop}(X:K.In s.heap)(I:h7u s.heap x dx C mA)(hg:PySem.W.plainGet K C name=true)
  (hf:PySem.W.findIn K (.ref C) name=some (some (.ref f))) (ht:PySem.W.isFn K (.ref f)=true) (hv:mA name=none) (h:Q (.ref f,[.ref x]) s) :
  wpAny (model prog w) A (getMethod (.ref x) name pl) Q E s:=by
 obtain⟨od,J,hl⟩:=I.look
 exact PySem.W.method_fn X J (PySem.W.plainGet_of hg).1 (PySem.W.plainGet_of hg).2 hf (beq_iff_eq.mp ht) (by show (PySem.W.lookIn name od).map (·.isSome)=some false; rw [hl,hv]; rfl) h
theorem h7v{ns:List Str}{Q:Unit->Shared->Prop}(X:K.In s.heap)(I:h7u s.heap x dx C mA)
  (hs : PySem.W.findIn K (.ref C) "__setattr__" = some (some (.builtin "object.__setattr__"))) (hp : PySem.W.plainOver K C = true) (ht : PySem.W.takerIn K C name = some none) (hh : PySem.W.hasDictIn K C = true)
  (hw:PySem.Within mA ns) (hsz:ns.length<=sizeLine)
  (h:∀ h',h7u h' x dx C (fun y=>if y=name then some v else mA y)->Heap.SameBut dx s.heap h'->Q () { s with heap:=h',toks:=s.toks+2 }) :
  wpAny (model prog w) A (setAttr (.ref x) name v) Q E s:=by
 obtain⟨od,J,hl⟩:=I.look
 refine PySem.W.set_plain X J hs (PySem.W.osa_open (s:={ s with toks:=s.toks+1 }) (r:=none) X J hp ht fun b=>?_)
 obtain⟨cd,hc,hd'⟩:=PySem.W.any_some hh
 have hx:s.heap.get? x=some ⟨.ref C,some dx,.plain,#[]⟩:=I.obj
 refine wpAny_bind (wpAny_pure (wpAny_bind (wpAny_bind (wpAny_loadPart hx (wpAny_bind (PySem.W.Looks.here (s:={ s with toks:=s.toks+1 }) (PySem.W.looks_clsIn X hc) ?_))))))
 rw [hd']
 refine wpAny_pure (a:=some dx) (wpAny_bind (wpAny_pure (wpAny_bind ?_)))
 refine wpAny_nsSet1 (s:={ s with toks:=s.toks+1 }) I.ns fun h' hn2 hs2=>?_
 obtain⟨oD,esD,epD,hoD,hdD,hcD⟩:=hn2.count (PySem.Within.cons name v hw)
 refine wpAny_bind (wpAny_lookBehind hoD (by rw [hdD]; exact pastItsLine_dict (Nat.le_trans hcD (by rw [List.length_cons]; omega))) ?_)
 exact wpAny_pure (h _ ⟨(hs2.2 _ (Ne.symm I.ne)).trans I.obj,hn2,I.ne⟩ hs2)
theorem h2w{R:Result->Shared->Prop}{vs:List Value}{kw:List (Str×Value)}(X:K.In s.heap)(hm:PySem.W.makesIn K C=true)
  (hi : PySem.W.findIn K (.ref C) "__init__" = some (some (.ref f))) (hf : PySem.W.typeIn K (.ref f) = some (.type "function"))
  (h : codeAny (model prog w) (A.under (.builtin "type.__call__" ⟨.ref C :: vs, kw⟩)) (.call (.ref f) ⟨.ref (s.heap.objs.size + 1) :: vs, kw⟩) (PySem.W.InitBack (s.heap.objs.size + 1) R)
   { s with heap:=(s.heap.push PySem.W.emptyDict).push (PySem.W.instObj C s.heap.objs.size) }) :
  codeAny (model prog w) A (.call (.ref C) ⟨vs,kw⟩) R s:=by
 obtain⟨hh,g,d,t,os⟩:=s
 exact PySem.W.make_core (PySem.W.makes_of X hm) (PySem.W.looks_findIn X hi) (fun self=>PySem.W.bind_fn X self hf) (.inl rfl) h
end
noncomputable def d8v(f:Str)(v:V):List (Str×V)->List (Str×V)
 | []=>[(f,v)]
 | (g,x) :: r=>if g=f then (g,v) :: r else (g,x) :: d8v f v r
theorem d8w(f g:Str)(v:V):∀ fs:List (Str×V),(d8v f v fs).lookup g=if g=f then some v else fs.lookup g
 | []=>by
  show List.lookup g [(f,v)]=_
  by_cases h:g=f
  ·have hb:(g == f)=true:=beq_iff_eq.mpr h
   simp only [List.lookup,hb,if_pos h]
  ·have hb:(g == f)=false:=beq_eq_false_iff_ne.mpr h
   simp only [List.lookup,hb,if_neg h]
 | (k,x) :: r=>by
  have ih:=d8w f g v r
  rw [show d8v f v ((k,x) :: r)=(if k=f then (k,v) :: r else (k,x) :: d8v f v r) from rfl]
  by_cases hk:k=f
  ·rw [if_pos hk]
   by_cases h:g=k
   ·have hb:(g == k)=true:=beq_iff_eq.mpr h
    simp only [List.lookup,hb,if_pos (h.trans hk)]
   ·have hb:(g == k)=false:=beq_eq_false_iff_ne.mpr h
    simp only [List.lookup,hb,if_neg (fun e:g=f=>h (e.trans hk.symm))]
  ·rw [if_neg hk]
   by_cases h:g=k
   ·have hb:(g == k)=true:=beq_iff_eq.mpr h
    simp only [List.lookup,hb,if_neg (fun e:g=f=>hk (h.symm.trans e))]
   ·have hb:(g == k)=false:=beq_eq_false_iff_ne.mpr h
    simp only [List.lookup,hb]
    exact ih
theorem d8y(f:Str)(v:V):∀ fs:List (Str×V),f∈(d8v f v fs).map (·.1)/\∀ g,g∈fs.map (·.1)->g∈(d8v f v fs).map (·.1)
 | []=>⟨by simp [d8v],fun g h=>by simp at h⟩
 | (k,x) :: r=>by
  obtain⟨i1,i2⟩:=d8y f v r
  rw [show d8v f v ((k,x) :: r)=(if k=f then (k,v) :: r else (k,x) :: d8v f v r) from rfl]
  by_cases hk:k=f
  ·rw [if_pos hk]
   subst hk
   exact⟨by simp,fun g h=>by simpa using h⟩
  ·rw [if_neg hk]
   refine⟨?_,fun g h=>?_⟩
   ·rw [List.map_cons]
    exact List.mem_cons_of_mem _ i1
   ·rw [List.map_cons] at h ⊢
    rcases List.mem_cons.mp h with e | e
    ·exact List.mem_cons.mpr (.inl e)
    ·exact List.mem_cons_of_mem _ (i2 g e)
theorem d8z(f:Str)(v:V):∀ fs:List (Str×V),(d8v f v fs).length<=fs.length+1
 | []=>by simp [d8v]
 | (k,x) :: r=>by
  have ih:=d8z f v r
  rw [show d8v f v ((k,x) :: r)=(if k=f then (k,v) :: r else (k,x) :: d8v f v r) from rfl]
  by_cases hk:k=f
  ·rw [if_pos hk,List.length_cons,List.length_cons]; omega
  ·rw [if_neg hk,List.length_cons,List.length_cons]; omega
theorem g1t.some_of{v:V}{o:Option Value}(r:g1t (some v) o):∃ u,o=some u/\RelV v u:=by
 cases o with
 | none=>exact (show False from r).elim
 | some u=>exact⟨u,rfl,r⟩
theorem g1t.none_of{o:Option Value}(r:g1t none o):o=none:=by
 cases o with
 | none=>rfl
 | some u=>exact (show False from r).elim
theorem g8l{v:V}{u:Value}(r:RelV v u):PySem.W.handedIn u=true:=by
 cases v with
 | non=>cases (show u=Value.none from r); rfl
 | bl b=>cases (show u=Value.bool b from r); rfl
 | int i=>obtain⟨t,e⟩:=(show ∃ t,u=Value.int i t from r); cases e; rfl
 | str x=>obtain⟨t,e⟩:=(show ∃ t,u=Value.str x t from r); cases e; rfl
 | byt b=>obtain⟨t,e⟩:=(show ∃ t,u=Value.bytes b t from r); cases e; rfl
 | flt b=>obtain⟨t,e⟩:=(show ∃ t,u=Value.float b t from r); cases e; rfl
 | ref a=>cases (show u=Value.ref a from r); rfl
 | ty n=>cases (show u=Value.type n from r); rfl
section
variable {P:Program}{w:World}{H H':Hp}{h h':Heap}{a C dx:Addr}{fs fs':List (Str×V)}
theorem f5s(hok:HOk P w H h)(e:H a=some (.ins C dx fs)):∃ mA,h7u h a dx C mA/\(∀ f,g1t (fs.lookup f) (mA f))/\PySem.Within mA (fs.map (·.1))/\fs.length<=1000/\H dx=some (.own a):=by
 obtain⟨d,z,ne,ob,mA,n,r,q⟩:=(show b2m P w H h a (.ins C dx fs) from hok a _ e)
 exact⟨mA,⟨ob,n,ne⟩,r,q,z,d⟩
end
structure Cls(K:PySem.W.Frag)(C:Addr):Prop where
 pg:PySem.W.plainGet K C Str.empty=true
 hd:PySem.W.hasDictIn K C=true
 po:PySem.W.plainOver K C=true
 sa : PySem.W.findIn K (.ref C) "__setattr__" = some (some (.builtin "object.__setattr__"))
theorem Cls.get{K:PySem.W.Frag}{C:Addr}(c:Cls K C)(f:Str):PySem.W.plainGet K C f=true:=c.pg
def a7m(K:PySem.W.Frag)(C:Addr)(f:Str):Prop:=PySem.W.findIn K (.ref C) f=some none
theorem a7m.taker{K:PySem.W.Frag}{C:Addr}{f:Str}(n:a7m K C f):PySem.W.takerIn K C f=some none:=by
 unfold PySem.W.takerIn
 rw [show PySem.W.findIn K (.ref C) f=some none from n]
 rfl
structure Con(K:PySem.W.Frag)(C:Addr)(f:Str)(v:V)(u:Value):Prop where
 at_:PySem.W.findIn K (.ref C) f=some (some u)
 rel:RelV v u
 get : PySem.W.specialIn K u "__get__" = some none
 cp:PySem.W.copiedNames.contains f=false
structure Meth(K:PySem.W.Frag)(C:Addr)(m:Str)(f:Addr):Prop where
 at_:PySem.W.findIn K (.ref C) m=some (some (.ref f))
 fn:PySem.W.isFn K (.ref f)=true
 kp:PySem.W.keepIn K (.ref f)=true
section
variable {X:Cx}{pins:List (Addr×Obj)}{σ:St}{H:Hp}{s:Shared}{a C dx:Addr}{fs:List (Str×V)}{f:Str}{v:V}{A:Around}{E:Value->Shared->Prop}
theorem g5y{b:Bool}{Q:Value->Shared->Prop}(I:Inv X pins σ H s)(e:H a=some (.ins C dx fs))(c:Cls X.K C)(n:a7m X.K C f)(l:fs.lookup f=some v)
  (h:∀ u s',Inv X pins σ H s'->RelV v u->Q u s'):wpAny (model X.prog X.w) A (getAttr (.ref a) f b) Q E s:=by
 obtain⟨mA,O,r,_,_,_⟩:=f5s I.hok e
 obtain⟨u,hu,ru⟩:=g1t.some_of (v:=v) (o:=mA f) (by rw [<- l]; exact r f)
 exact get_map I.kIn O (c.get f) c.hd n hu (g8l ru) (h u _ (I.tok _) ru)
theorem d5j{m:Str}{g:Addr}{pl:Sem Bool}{Q:Value×List Value->Shared->Prop}(I:Inv X pins σ H s)(e:H a=some (.ins C dx fs))(c:Cls X.K C)(k:Meth X.K C m g)(l:fs.lookup m=none)
  (h:Q (.ref g,[.ref a]) s):wpAny (model X.prog X.w) A (getMethod (.ref a) m pl) Q E s:=by
 obtain⟨mA,O,r,_,_,_⟩:=f5s I.hok e
 have hn:mA m=none:=g1t.none_of (by rw [<- l]; exact r m)
 exact h2v I.kIn O (c.get m) k.at_ k.fn hn h
theorem g5z{y:V}{u:Value}{Q:Unit->Shared->Prop}(I:Inv X pins σ H s)(e:H a=some (.ins C dx fs))(c:Cls X.K C)(n:a7m X.K C f)(hl:fs.length < 1000)(ry:RelV y u)
  (h:∀ s',Inv X pins σ (upd H a (.ins C dx (d8v f y fs))) s'->Q () s'):wpAny (model X.prog X.w) A (setAttr (.ref a) f u) Q E s:=by
 obtain⟨mA,O,r,wi,_,ho⟩:=f5s I.hok e
 have hz:(fs.map (·.1)).length<=sizeLine:=by rw [List.length_map,sizeLine_eq]; omega
 refine h7v I.kIn O c.sa c.po n.taker c.hd wi hz fun h' O' sb=>h _ ?_
 have hd:∃ o,h'.get? dx=some o:=let ⟨o,_,_,e',_⟩:=O'.ns; ⟨o,e'⟩
 refine I.write (x:=a) (e:=dx) (by rw [e]; exact True.intro) (.inr ho) (fun b q hb z=>(sb.2 b hb).trans z) hd ?_
 refine⟨by rw [a6u O.ne]; exact ho,?_,O.ne,O'.obj,_,O'.ns,fun g=>?_,fun g hg=>?_⟩
 ·have:=d8z f y fs; omega
 ·show g1t ((d8v f y fs).lookup g) (if g=f then some u else mA g)
  rw [d8w]
  by_cases q:g=f
  ·rw [if_pos q,if_pos q]; exact ry
  ·rw [if_neg q,if_neg q]; exact r g
 ·by_cases q:g=f
  ·rw [q]; exact (d8y f y fs).1
  ·refine (d8y f y fs).2 g (wi g fun z=>hg ?_)
   show (if g=f then some u else mA g)=none
   rw [if_neg q]; exact z
theorem Inv.made(I:Inv X pins σ H s):Inv X pins σ (upd (upd H s.heap.objs.size (.own (s.heap.objs.size+1))) (s.heap.objs.size+1) (.ins C s.heap.objs.size []))
  { s with heap:=(s.heap.push PySem.W.emptyDict).push (PySem.W.instObj C s.heap.objs.size) }:=by
 have e1:(s.heap.push PySem.W.emptyDict).get? s.heap.objs.size=some PySem.W.emptyDict:=Heap.get?_push_size s.heap rfl
 have e2:((s.heap.push PySem.W.emptyDict).push (PySem.W.instObj C s.heap.objs.size)).get? (s.heap.objs.size+1)=some (PySem.W.instObj C s.heap.objs.size):=by
  have:=Heap.get?_push_size (s.heap.push PySem.W.emptyDict) (o:=PySem.W.instObj C s.heap.objs.size) rfl
  rwa [Heap.size_push] at this
 have e3:(s.heap.push PySem.W.emptyDict).Ns s.heap.objs.size (fun _=>none):=⟨PySem.W.emptyDict,#[],_,e1,rfl,(fun e he=>absurd he (by simp)),fun _=>rfl⟩
 have I1:=I.laid (a:=s.heap.objs.size) (o:=.own (s.heap.objs.size+1)) (h':=s.heap.push PySem.W.emptyDict) (t':=s.toks) (fun b u q=>Heap.get?_push_of_some _ q) (Nat.le_refl _) ⟨_,e1⟩
 refine I1.laid (a:=s.heap.objs.size+1) (o:=.ins C s.heap.objs.size []) (t':=s.toks) (fun b u q=>Heap.get?_push_of_some _ q) (Nat.le_of_eq (Heap.size_push _ _)) ?_
 have ne:s.heap.objs.size≠s.heap.objs.size+1:=Nat.ne_of_lt (Nat.lt_succ_self _)
 refine⟨by rw [a6u ne,a5y],Nat.zero_le _,ne,e2,fun _=>none,(Heap.Ns1.of_empty e3).at fun o q=>Heap.get?_push_of_some _ q,fun _=>True.intro,fun y hy=>absurd rfl hy⟩
theorem h7w{prog:Program}{w:World}{env:Env}{e:Expr}{f:Str}{pos:Pos}{s:Shared}{Q:Value->Shared->Prop}(hb:attributeBase e f env (eval e env)=eval e env)
  (h:wpAny (model prog w) A (eval e env) (fun o s₁=>wpAny (model prog w) A (getAttr o f true) Q E s₁) E s):wpAny (model prog w) A (eval (.Attribute e f pos) env) Q E s :=
 Attribute_any_ h (by rw [arm_eval_Attribute,hb])
end
def j0g(K:PySem.W.Frag)(ta:TE)(f:Str):TE:=fun σ H Q=>ta σ H fun x H1=>∃ a C dx fs v,x = .ref a/\H1 a=some (.ins C dx fs)/\Cls K C/\a7m K C f/\fs.lookup f=some v/\Q v H1
section
variable {X:Cx}{o e value:Expr}{f:Str}{pos pos' tpos:Pos}{ta tv:TE}
theorem i2n(he:PE X e ta)(hb:attributeBase e f X.env (eval e X.env)=eval e X.env):PE X (.Attribute e f pos) (j0g X.K ta f):=by
 intro pins s σ H Q I h
 refine h7w hb (thn (he pins s σ H _ I h) fun u s1 ⟨x,H1,I1,rx,a,C,dx,fs,v,ex,ea,c,n,l,q⟩=>?_)
 subst ex
 obtain rfl:u=Value.ref a:=rx
 exact g5y I1 ea c n l fun u' s2 I2 ru=>⟨v,H1,I2,ru,q⟩
end
section
variable {X:Cx}{pins:List (Addr×Obj)}{σ:St}{H:Hp}{s:Shared}{A:Around}{E:Value->Shared->Prop}{Q:Value->Shared->Prop}{c:Value}{b:Bool}
inductive g6a(K:PySem.W.Frag)(H:Hp):V->Value->Prop where
 | non : g6a K H .non (.type "NoneType")
 | bl (x : Bool) : g6a K H (.bl x) (.type "bool")
 | int (i : Int) : g6a K H (.int i) (.type "int")
 | str (x : Str) : g6a K H (.str x) (.type "str")
 | flt (x : UInt64) : g6a K H (.flt x) (.type "float")
 | lst {a : Addr} {xs : List V} (e : H a = some (.lst xs)) : g6a K H (.ref a) (.type "list")
 | frz {a : Addr} {o : Obj} {xs : List V} (e : H a = some (.frz o (.lst xs))) : g6a K H (.ref a) (.type "list")
 | tup {a : Addr} {xs : List V} (e : H a = some (.tup xs)) : g6a K H (.ref a) (.type "tuple")
 | dK {a : Addr} {kvs : List (Key × V)} (e : H a = some (.dK kvs)) : g6a K H (.ref a) (.type "dict")
 | dT {a : Addr} {kvs : List (List Key × V)} (e : H a = some (.dT kvs)) : g6a K H (.ref a) (.type "dict")
 | ins {a C dx : Addr} {fs : List (Str × V)} (e : H a = some (.ins C dx fs)) (cl : Cls K C) (ha : PySem.W.findIn K (.ref C) "__class__" = some (some (.builtin "object.__class__")))
   (hn : PySem.W.specialIn K (.builtin "object.__class__") "__get__" = some (some (.builtin "getset_descriptor.__get__"))) (htk : PySem.W.takesIn K (.builtin "object.__class__") = some true)
   (hm : PySem.W.mroIn K C (.type "object") = some true) : g6a K H (.ref a) (.ref C)
theorem d9g{x:V}{u t:Value}(I:Inv X pins σ H s)(rx:RelV x u)(ty:g6a X.K H x t)(e:PySem.W.kitOne X.K t c=some b)(h:∀ tk,Q (.bool b) { s with toks:=tk }) :
  wpAny (model X.prog X.w) A (call (.builtin "isinstance") [u, c]) Q E s := by
 cases ty with
 | non=>cases (show u=Value.none from rx); exact PySem.W.kia_one PySem.W.kitx_none I.kIn True.intro e (fun z=>nomatch z) h
 | bl y=>cases (show u=Value.bool y from rx); exact PySem.W.kia_one PySem.W.kitx_bool I.kIn True.intro e (fun z=>nomatch z) h
 | int i=>obtain⟨t,q⟩:=(show ∃ t,u=Value.int i t from rx); cases q; exact PySem.W.kia_one PySem.W.kitx_int I.kIn True.intro e (fun z=>nomatch z) h
 | str y=>obtain⟨t,q⟩:=(show ∃ t,u=Value.str y t from rx); cases q; exact PySem.W.kia_one PySem.W.kitx_str I.kIn True.intro e (fun z=>nomatch z) h
 | flt y=>obtain⟨t,q⟩:=(show ∃ t,u=Value.float y t from rx); cases q; exact PySem.W.kia_one PySem.W.kitx_float I.kIn True.intro e (fun z=>nomatch z) h
 | @lst a xs ea =>
  cases (show u=Value.ref a from rx)
  obtain⟨_,_,n,_,h1⟩:=(show b2m X.prog X.w H s.heap a (.lst xs) from I.hok a _ ea)
  exact PySem.W.kia_one PySem.W.kitx_list I.kIn ⟨_,h1,rfl⟩ e (fun z=>nomatch z) h
 | @frz a ob xs ea =>
  cases (show u=Value.ref a from rx)
  obtain⟨_,_,_,n,_,h1⟩:=(show b2m X.prog X.w H s.heap a (.frz ob (.lst xs)) from I.hok a _ ea)
  exact PySem.W.kia_one PySem.W.kitx_list I.kIn ⟨_,h1,rfl⟩ e (fun z=>nomatch z) h
 | @tup a xs ea =>
  cases (show u=Value.ref a from rx)
  obtain⟨_,_,_,p⟩:=(show b2m X.prog X.w H s.heap a (.tup xs) from I.hok a _ ea)
  obtain⟨o,h1,h2,_⟩:=p
  exact PySem.W.kia_one PySem.W.kitx_tuple I.kIn ⟨o,h1,h2⟩ e (fun z=>nomatch z) h
 | @dK a kvs ea =>
  cases (show u=Value.ref a from rx)
  obtain⟨_,_,vs,_,p⟩:=(show b2m X.prog X.w H s.heap a (.dK kvs) from I.hok a _ ea)
  obtain⟨o,es,ep,h1,h2,_⟩:=p
  exact PySem.W.kia_one PySem.W.kitx_dict I.kIn ⟨o,h1,h2.1⟩ e (fun z=>nomatch z) h
 | @dT a kvs ea =>
  cases (show u=Value.ref a from rx)
  obtain⟨_,_,xs,_,o,es,ep,h1,h2,_⟩:=(show b2m X.prog X.w H s.heap a (.dT kvs) from I.hok a _ ea)
  exact PySem.W.kia_one PySem.W.kitx_dict I.kIn ⟨o,h1,h2.1⟩ e (fun z=>nomatch z) h
 | @ins a C dx fs ea cl ha hn htk hm =>
  cases (show u=Value.ref a from rx)
  obtain⟨mA,O,_⟩:=f5s I.hok ea
  obtain⟨od,J,_⟩:=O.look
  exact PySem.W.kia_one (PySem.W.kitx_own (cl.get _) cl.hd ha hn htk hm) I.kIn J e (fun z=>nomatch z) h
end
end L2
namespace L2
open PySem PySem.Spec PyProof.Rows
structure a5z(k:Nat)(A:Around):Prop where
 hd:A.handled=none
 dp:A.depth+3*k+5 < recursionLimit
 un:A.units+16*k+200 < cLine
theorem a5z.mono{j k:Nat}{A:Around}(r:a5z k A)(h:j<=k):a5z j A:=⟨r.hd,by have:=r.dp; omega,by have:=r.un; omega⟩
theorem a5z.deeper{k:Nat}{A:Around}(r:a5z (k+1) A)(env:Env):a5z k (A.deeper env) :=
 ⟨r.hd,by have:=r.dp; show A.depth+1+3*k+5 < _; omega,by have:=r.un; show A.units+3+16*k+200 < _; omega⟩
theorem g6b {A : Around} {C : Addr} {us : List Value} {kw : List (Str × Value)} : (A.under (.builtin "type.__call__" ⟨.ref C :: us, kw⟩)).depth = A.depth + 1 := by
 first | rfl | simp [Around.under,Code.weight,Code.isCreation,Code.isGuard,Code.isCaller,Code.frames,Code.isFrame,guardIds]
theorem g6c {A : Around} {C : Addr} {us : List Value} {kw : List (Str × Value)} : (A.under (.builtin "type.__call__" ⟨.ref C :: us, kw⟩)).units = A.units + 1 := by
 first | rfl | simp [Around.under,Code.cUnits,Code.frames,Code.isFrame]
theorem a5z.make {k : Nat} {A : Around} (r : a5z (k + 1) A) (C : Addr) (us : List Value) (kw : List (Str × Value)) : a5z k (A.under (.builtin "type.__call__" ⟨.ref C :: us, kw⟩)) :=
 ⟨r.hd,by have:=r.dp; rw [g6b]; omega,by have:=r.un; rw [g6c]; omega⟩
theorem a5z.depth{k:Nat}{A:Around}(r:a5z k A):A.depth < recursionLimit:=by have:=r.dp; omega
theorem a5z.units{k:Nat}{A:Around}(r:a5z k A):A.units+64 < cLine:=by have:=r.un; omega
def i2o:TA:=fun _ H Q=>Q [] H
def i7m(ta:TE)(tr:TA):TA:=fun σ H Q=>ta σ H fun x H1=>tr σ H1 fun xs H2=>Q (x :: xs) H2
section
variable {X:Cx}{e:Expr}{es:List Expr}{te:TE}{t:TA}{pos:Pos}
theorem a0i:PA X [] i2o:=fun _ _ _ _ H Q I h=>Calls.spliced_nil ⟨[],H,I,.nil,h⟩
theorem a0g(ha:PE X e te)(hr:PA X es t)(hs:starEach (e :: es) X.env=(false,eval e X.env) :: starEach es X.env:=by rfl):PA X (e :: es) (i7m te t):=by
 intro pos pins s σ H Q I h
 rw [hs]
 show wpAny _ _ (spliced ((false,eval e X.env) :: backTo pos (starEach es X.env))) _ _ s
 refine Calls.spliced_cons (thn (ha pins s σ H _ I h) fun u s1 ⟨x,H1,I1,r1,q1⟩=>?_)
 exact thn (hr pos pins s1 σ H1 _ I1 q1) fun us s2 ⟨xs,H2,I2,r2,q2⟩=>⟨x :: xs,H2,I2,.cons r1 r2,q2⟩
end
noncomputable abbrev Sp:=List V->Hp->VK->XK->Prop
noncomputable abbrev CXT:=List Env->Hp->Shared->XK->Value->Shared->Prop
structure h5o(P:Program)(w:World)(K:PySem.W.Frag)(mg:Str->Option Value)(base:Heap)(A:Around)(outer:List Env)(s:Shared)(H:Hp):Prop where
 frames:A.frames=some outer
 mod:Mod K mg base
 bs:∀ b o,base.get? b=some o->s.heap.get? b=some o/\H b=none
 bsz:base.objs.size<=s.heap.objs.size
 g5v:s.heap.FunFrames base outer
 frf:∀ b∈frs outer,H b=none
 hok:HOk P w H s.heap
 bare:AllBare s.gens
def CE(outer:List Env)(P:Program)(w:World)(H:Hp)(s:Shared)(Q:VK)(u:Value)(s':Shared):Prop :=
 ∃ v H',s'.os=s.os/\AllBare s'.gens/\Un (frs outer) [] H H' s.heap s'.heap/\HOk P w H' s'.heap/\RelV v u/\Q v H'
def CR(CX:CXT)(outer:List Env)(P:Program)(w:World)(H:Hp)(s:Shared)(Q:VK)(E:XK)(r:Result)(s':Shared):Prop :=
 match r with
 | .ok (.ret u)=>CE outer P w H s Q u s'
 | .ok _=>False
 | .error e=>CX outer H s E e s'
structure a3q(P:Program)(w:World)(K:PySem.W.Frag)(mg:Str->Option Value)(base:Heap)(CX:CXT)(k:Nat)(f:Addr)(fd:FuncData)(ps:List Str)(sp:Sp):Prop where
 len:∀ vs H Q E,sp vs H Q E->vs.length=ps.length
 run:∀ (A:Around) (outer:List Env) (s:Shared) (H:Hp) (args:Args) (us:List Value) (vs:List V) (Q:VK) (E:XK),a5z k A->h5o P w K mg base A outer s H->BindsTo s fd args (ps.zip us)->Vals vs us->sp vs H Q E ->
  codeAny (model P w) A (.call (.ref f) args) (CR CX outer P w H s Q E) s
theorem h5o.make{P:Program}{w:World}{K:PySem.W.Frag}{mg:Str->Option Value}{base:Heap}{A:Around}{outer:List Env}{s:Shared}{H:Hp}(e:h5o P w K mg base A outer s H)(C:Addr)(us:List Value)(kw:List (Str×Value)) :
  h5o P w K mg base (A.under (.builtin "type.__call__" ⟨.ref C :: us, kw⟩)) outer s H := ⟨by first | exact e.frames | (simpa [Around.under, Code.envs, Code.isFrame, pushEnvs] using e.frames), e.mod, e.bs, e.bsz, e.g5v, e.frf, e.hok, e.bare⟩
section
variable {X:Cx}{pins:List (Addr×Obj)}{σ:St}{H:Hp}{s s':Shared}
theorem Inv.env0(I:Inv X pins σ H s):h5o X.prog X.w X.K X.mg X.base X.A X.stack s H :=
 ⟨I.ok.frames,I.ok.mod,I.bs,Nat.le_trans I.ok.bsz I.sz,I.stack,I.g1y,I.hok,I.bare⟩
theorem Inv.after{Q:VK}{u:Value}(I:Inv X pins σ H s)(h:CE X.stack X.prog X.w H s Q u s'):EP X pins σ Q u s':=by
 obtain⟨v,H',os,bare,un,hok,r,q⟩:=h
 obtain⟨hh,g,d,t,os'⟩:=s'
 obtain rfl:os'=s.os:=os
 exact⟨v,H',I.call (h':=hh) (g':=g) (d':=d) (t':=t) (ch:=[]) un hok bare (fun b z=>absurd z (by simp)),r,q⟩
end
def h2x(sp:Sp)(dvs:List V)(E:XK)(t:TA):TE:=fun σ H Q=>t σ H fun vs H1=>sp (vs++dvs) H1 Q E
def Binds(K:PySem.W.Frag)(fd:FuncData)(ps:List Str)(ds:List Value):Prop :=
 ∀ (s:Shared) (us:List Value),K.In s.heap->(us++ds).length=ps.length->BindsTo s fd ⟨us,[]⟩ (ps.zip (us++ds))
theorem Binds.all{K:PySem.W.Frag}{fd:FuncData}{ps:List Str}(h:∀ us:List Value,us.length=ps.length->bindArgs fd ⟨us,[]⟩=pure (ps.zip us)):Binds K fd ps []:=fun s us _ hl=>by
 rw [List.append_nil] at hl ⊢
 exact .of_eq (h us hl)
def Passes(CX:CXT)(X:Cx)(E:XK):Prop:=∀ (pins:List (Addr×Obj)) (σ:St) (H:Hp) (s:Shared) (e:Value) (s':Shared),Inv X pins σ H s->CX X.stack H s E e s'->X.xe e s'
section
variable {X:Cx}{CX:CXT}{k:Nat}{f C:Addr}{fd:FuncData}{ps:List Str}{sp:Sp}{dvs:List V}{ds:List Value}{E:XK}{x m:Str}{p pos apos:Pos}{e o:Expr}{es:List Expr}{ta:TE}{t:TA}
theorem g4r{pins:List (Addr×Obj)}{σ:St}{H:Hp}{s:Shared}{Q:VK}{us:List Value}{vs:List V}(F:a3q X.prog X.w X.K X.mg X.base CX k f fd ps sp)(hr:a5z k X.A)(hb:Binds X.K fd ps ds)(hd:Vals dvs ds)(hx:Passes CX X E)
  (I:Inv X pins σ H s) (r:Vals vs us) (h:sp (vs++dvs) H Q E):wpAny (model X.prog X.w) X.A (call (.ref f) us) (EP X pins σ Q) X.xe s:=by
 have r2:Vals (vs++dvs) (us++ds):=r.append hd
 have hl:(us++ds).length=ps.length:=by rw [<- r2.length]; exact F.len _ _ _ _ h
 refine wpAny_call (codeAny_mono (F.run X.A X.stack s H ⟨us,[]⟩ (us++ds) (vs++dvs) Q E hr I.env0 (hb s us I.kIn hl) r2 h) fun r s' hq=>?_)
 cases r with
 | error e=>exact hx pins σ H s e s' I hq
 | ok fl =>
  cases fl with
  | ret u=>exact I.after hq
  | next=>exact False.elim hq
  | brk=>exact False.elim hq
  | cont=>exact False.elim hq
theorem a1j(F:a3q X.prog X.w X.K X.mg X.base CX k f fd ps sp)(hr:a5z k X.A)(hg:Gl X x)(hm:X.mg x=some (.ref f))(hk:PySem.W.keepIn X.K (.ref f)=true)(hb:Binds X.K fd ps ds)(hd:Vals dvs ds)(hx:Passes CX X E)
  (ha : PA X (e :: es) t) (hdb : (x == ("__debug__" : Str)) = false := by decide) (he : starEach (e :: es) X.env = (false, eval e X.env) :: starEach es X.env := by rfl) (hpl : (backTo pos (starEach es X.env)).any (·.1) = false := by rfl) :
  PE X (.Call (.Name x p) (e :: es) [] pos) (h2x sp dvs E t):=by
 intro pins s σ H Q I h
 refine wpAny_Call_Name_kw (c5i I hg hm ?_ hdb)
 refine PySem.W.callWith_K (h₀:=X.base) I.ok.mod.kin hk (thn (ha pos pins s σ H _ I h) fun us s1 ⟨vs,H1,I1,r,q⟩=>⟨I1.kIn,?_⟩) he hpl
 exact g4r F hr hb hd hx I1 r q
structure Mk(K:PySem.W.Frag)(C f:Addr):Prop where
 makes:PySem.W.makesIn K C=true
 init : PySem.W.findIn K (.ref C) "__init__" = some (some (.ref f))
 fn:PySem.W.isFn K (.ref f)=true
 kp:PySem.W.keepIn K (.ref C)=true
theorem g4s{pins:List (Addr×Obj)}{σ:St}{H:Hp}{s:Shared}{Q:VK}{us:List Value}{vs:List V}(M:Mk X.K C f)(F:a3q X.prog X.w X.K X.mg X.base CX k f fd ps sp)(hr:a5z (k+1) X.A)(hb:Binds X.K fd ps ds)(hd:Vals dvs ds)
  (hx:Passes CX X E) (I:Inv X pins σ H s) (r:Vals vs us)
  (h:∀ x dx,H x=none->H dx=none->dx≠x->sp (.ref x :: (vs++dvs)) (upd (upd H dx (.own x)) x (.ins C dx [])) (fun v H2=>v = .non/\Q (.ref x) H2) E) :
  wpAny (model X.prog X.w) X.A (call (.ref C) us) (EP X pins σ Q) X.xe s:=by
 have hq:=h (s.heap.objs.size+1) s.heap.objs.size (I.hok.fresh (Nat.le_succ _)) (I.hok.fresh (Nat.le_refl _)) (Nat.ne_of_lt (Nat.lt_succ_self _))
 have I2:=Inv.made (C:=C) I
 have r2:Vals (V.ref (s.heap.objs.size+1) :: (vs++dvs)) (Value.ref (s.heap.objs.size+1) :: (us++ds)):=.cons rfl (r.append hd)
 have hl:(Value.ref (s.heap.objs.size+1) :: us++ds).length=ps.length:=by
  have e:=r2.length
  rw [F.len _ _ _ _ hq] at e
  exact e.symm
 refine wpAny_call (h2w (f:=f) I.kIn M.makes M.init (beq_iff_eq.mp M.fn) (codeAny_mono (F.run _ X.stack _ _ ⟨Value.ref (s.heap.objs.size+1) :: us,[]⟩ (Value.ref (s.heap.objs.size+1) :: (us++ds)) _ _ E (hr.make C us [])
  (I2.env0.make C us []) (hb _ (Value.ref (s.heap.objs.size+1) :: us) I2.kIn hl) r2 hq) fun r s' hq'=>?_))
 cases r with
 | error e=>exact hx pins σ _ _ e s' I2 hq'
 | ok fl =>
  cases fl with
  | ret u =>
   obtain⟨v,H',I3,rv,ev,q3⟩:=I2.after hq'
   subst ev
   exact⟨rv,⟨V.ref (s.heap.objs.size+1),H',I3,rfl,q3⟩⟩
  | next=>exact False.elim hq'
  | brk=>exact False.elim hq'
  | cont=>exact False.elim hq'
end
section
variable {X:Cx}{CX:CXT}{k:Nat}{f C:Addr}{fd:FuncData}{ps ks:List Str}{sp:Sp}{E:XK}{x m:Str}{p pos apos kpos:Pos}{e o:Expr}{es:List Expr}{kws:List Keyword}{te ta:TE}{t tk:TA}{nm:Option Str}
structure j0h(K:PySem.W.Frag)(fd:FuncData)(ps ks:List Str)(g:List Value->List Value->List Value)(gV:List V->List V->List V):Prop where
 to:∀ (s:Shared) (us ws:List Value),K.In s.heap->(g us ws).length=ps.length->BindsTo s fd ⟨us,ks.zip ws⟩ (ps.zip (g us ws))
 rel:∀ {vs:List V} {us:List Value} {zs:List V} {ws:List Value},Vals vs us->Vals zs ws->Vals (gV vs zs) (g us ws)
variable {g:List Value->List Value->List Value}{gV:List V->List V->List V}
end
structure a1w(N P:List Str)(sc:Scope):Prop where
 kind:sc.kind = .function
 co:sc.isCoroutine=false
 gen:sc.isGenerator=false
 nd:N.Nodup
 pre:N.take P.length=P
 par:∀ x∈P,sc.names.lookup x=some .local\/sc.names.lookup x=some .cell
 i2p:∀ y∈sc.names,y.2≠.free
theorem f9h{kindOf:Str->Option NameKind}{x:Str}:∀ {binds:List (Str×Value)} {m:Str->Option Value},(∀ v,(x,v)∉binds)->bindL kindOf binds m x=m x
 | [],_,_=>rfl
 | (n,v) :: r,m,h=>by
  unfold bindL
  rw [f9h fun w hw=>h w (List.mem_cons_of_mem _ hw)]
  split
  ·have:x≠n:=by rintro rfl; exact h v List.mem_cons_self
   simp [this]
  ·rfl
theorem f9i{kindOf:Str->Option NameKind}{x:Str}:∀ {binds:List (Str×Value)} {m:Str->Option Value},(∀ v,(x,v)∉binds)->bindC kindOf binds m x=m x
 | [],_,_=>rfl
 | (n,v) :: r,m,h=>by
  unfold bindC
  rw [f9i fun w hw=>h w (List.mem_cons_of_mem _ hw)]
  split
  ·rfl
  ·have:x≠n:=by rintro rfl; exact h v List.mem_cons_self
   simp [this]
theorem f9j{kindOf:Str->Option NameKind}{x:Str}{v:Value}:∀ {P:List Str} {vs:List Value} {i:Nat} {m:Str->Option Value},P.Nodup->P[i]? = some x->vs[i]? = some v->kindOf x=some .local ->
  bindL kindOf (P.zip vs) m x=some v
 | [],_,_,_,_,h,_,_=>by simp at h
 | _ :: _,[],_,_,_,_,h,_=>by simp at h
 | p :: P,w :: vs,0,m,nd,h1,h2,hk=>by
  simp at h1 h2; subst h1; subst h2
  show bindL kindOf ((p,w) :: P.zip vs) m p=_
  unfold bindL
  rw [f9h fun v hv=>(List.nodup_cons.mp nd).1 (List.of_mem_zip hv).1,if_pos hk]
  simp
 | p :: P,w :: vs,i+1,m,nd,h1,h2,hk=>by
  show bindL kindOf ((p,w) :: P.zip vs) m x=_
  unfold bindL
  exact f9j (i:=i) (List.nodup_cons.mp nd).2 (by simpa using h1) (by simpa using h2) hk
theorem f9k{kindOf:Str->Option NameKind}{x:Str}{v:Value}:∀ {P:List Str} {vs:List Value} {i:Nat} {m:Str->Option Value},P.Nodup->P[i]? = some x->vs[i]? = some v->kindOf x≠some .local ->
  bindC kindOf (P.zip vs) m x=some v
 | [],_,_,_,_,h,_,_=>by simp at h
 | _ :: _,[],_,_,_,_,h,_=>by simp at h
 | p :: P,w :: vs,0,m,nd,h1,h2,hk=>by
  simp at h1 h2; subst h1; subst h2
  show bindC kindOf ((p,w) :: P.zip vs) m p=_
  unfold bindC
  rw [f9i fun v hv=>(List.nodup_cons.mp nd).1 (List.of_mem_zip hv).1,if_neg hk]
  simp
 | p :: P,w :: vs,i+1,m,nd,h1,h2,hk=>by
  show bindC kindOf ((p,w) :: P.zip vs) m x=_
  unfold bindC
  exact f9k (i:=i) (List.nodup_cons.mp nd).2 (by simpa using h1) (by simpa using h2) hk
noncomputable def start(N:List Str)(vs:List V):St:=vs.map some++List.replicate (N.length - vs.length) none
def g7o(CX:CXT)(P:Program)(w:World)(K:PySem.W.Frag)(mg:Str->Option Value)(base:Heap)(N:List Str)(qual:Str)(scope:Scope)(f:Addr)(cd:Value)(A:Around)(outer:List Env)(s:Shared)(H:Hp)(E:XK):Cx where
 prog:=P
 w:=w
 K:=K
 mg:=mg
 base:=base
 A:=A.deeper (envOfC qual scope s.heap.objs.size f cd)
 N:=N
 s₀:=s
 H₀:=H
 env:=envOfC qual scope s.heap.objs.size f cd
 outer:=outer
 stack:=envOfC qual scope s.heap.objs.size f cd :: outer
 ex:=[]
 calm:=true
 fn:=fun _=>true
 pn:=[]
 xe:=fun e s'=>wpAny (model P w) (A.deeper (envOfC qual scope s.heap.objs.size f cd)) (leaving (envOfC qual scope s.heap.objs.size f cd) e) (fun _ s''=>CX outer H s E e s'') (fun e' s''=>CX outer H s E e' s'') s'
theorem g4t{sc:Scope}{n:Nat}{x:Str}(h:sc.names.lookup x=some .cell):∃ c,(cellsFrom n sc.names []).lookup x=some c:=by
 have q:=PySem.W.cellsFrom_some sc.names n [] (.inl h)
 exact Option.isSome_iff_exists.mp q
theorem g8m{CX:CXT}{P:Program}{w:World}{K:PySem.W.Frag}{mg:Str->Option Value}{base:Heap}{N ps:List Str}{qual:Str}{scope:Scope}{f:Addr}{cd:Value}{A:Around}{outer:List Env}{s s1:Shared}{H:Hp}{E:XK}{us:List Value}{vs:List V}
  (S:a1w N ps scope) (hd:A.handled=none) (e0:h5o P w K mg base A outer s H) (hl:vs.length=ps.length) (r:Vals vs us)
  (x:InCallC s s.heap.objs.size (bindL (envOfC qual scope s.heap.objs.size f cd).kindOf (ps.zip us) fun _=>none) (cellsFrom (s.heap.objs.size+1) scope.names []) (bindC (envOfC qual scope s.heap.objs.size f cd).kindOf (ps.zip us) fun _=>none) s1) :
  Inv (g7o CX P w K mg base N qual scope f cd A outer s H E) [] (start N vs) H s1:=by
 have hpl:ps.length<=N.length:=by have:=congrArg List.length S.pre; rw [List.length_take] at this; omega
 obtain⟨h1,tk,rfl,hk⟩:=x.done
 have noA:∀ b:Addr,b∉(g7o CX P w K mg base N qual scope f cd A outer s H E).ex:=fun b z=>absurd (show b∈([] : List Addr) from z) (by simp)
 refine⟨⟨e0.mod,S.kind,rfl,rfl,Nat.le_refl _,fun y z c h1 h2=>?_,fun y hy=>?_,fun y c _ h=>?_,fun _=>hd,Around.frames_deeper e0.frames,.inr ⟨rfl,rfl⟩,fun b z=>absurd z (noA b),e0.bs,e0.bsz,fun b _ _=>noA b,fun b z=>absurd z (noA b),e0.g5v,e0.frf⟩,
  rfl,e0.bare,Un.kept hk,⟨_,x.toInCall.ns,fun i y v h1 h2 h3=>?_⟩,fun y c h=>⟨_,x.cell y c h⟩,e0.hok.fresh (Nat.le_refl _),fun y c h=>?_,fun p hp=>absurd (show p∈([] : List (Addr×Obj)) from hp) (by simp),e0.hok.kept hk,?_⟩
 ·exact name_of_addr x.apart (PySem.mem_of_lookup h1) (PySem.mem_of_lookup h2)
 ·have hy:scope.names.lookup y=some .cell\/scope.names.lookup y=some .free:=hy
  rcases hy with hy | hy
  ·exact g4t hy
  ·exact absurd rfl (S.i2p _ (PySem.mem_of_lookup hy))
 ·exact Nat.le_of_lt (x.above y c (PySem.mem_of_lookup h))
 ·have hi:i < vs.length:=by
   unfold start at h2
   by_cases hi:i < vs.length
   ·exact hi
   ·rw [List.getElem?_append_right (by simpa using hi)] at h2
    rw [List.getElem?_replicate] at h2
    split at h2 <;> cases h2
  have ha:vs[i]? = some v:=by
   unfold start at h2
   rw [List.getElem?_append_left (by simpa using hi),List.getElem?_map] at h2
   cases e:vs[i]? with
   | none=>rw [e] at h2; cases h2
   | some a=>rw [e] at h2; cases h2; rfl
  obtain⟨u,hu,rv⟩:=r.get ha
  have hp:ps[i]? = some y:=by
   rw [<- S.pre,List.getElem?_take_of_lt (by omega)]; exact h1
  have ndP:ps.Nodup:=by rw [<- S.pre]; exact S.nd.sublist (List.take_sublist _ _)
  refine⟨u,rv,?_⟩
  rcases S.par y (List.mem_of_getElem? hp) with k | k
  ·exact .inl ⟨k,f9j ndP hp hu k⟩
  ·obtain⟨c,e⟩:=g4t (n:=s.heap.objs.size+1) k
   refine .inr ⟨.inl k,c,e,?_⟩
   have q:=x.cell y c e
   rw [f9k ndP hp hu (by show scope.names.lookup y≠_; rw [k]; decide)] at q
   exact q
 ·exact e0.hok.fresh (Nat.le_of_lt (x.above y c (PySem.mem_of_lookup h)))
 ·unfold start
  show _=N.length
  rw [List.length_append,List.length_map,List.length_replicate]
  omega
theorem h7x{CX:CXT}{P:Program}{w:World}{K:PySem.W.Frag}{mg:Str->Option Value}{base:Heap}{k:Nat}{f:Addr}{name qual:Str}{params:Arguments}{body:List Stmt}{scope:Scope}{dV kV doc pm cdv ct oc:Value}{an od:Option Addr}
  {osl:Array (Option Value)} {N ps:List Str} {sp:Sp} (lk:K.lookup f=some ⟨oc,od,.func (PySem.W.fnOf name qual params body scope dV kV doc pm an cdv ct),osl⟩) (hcd:PySem.W.codeIn K cdv qual=true) (S:a1w N ps scope)
  (len:∀ vs H Q E,sp vs H Q E->vs.length=ps.length)
  (hbody:∀ (A:Around) (outer:List Env) (s:Shared) (H:Hp) (vs:List V) (Q:VK) (E:XK),a5z k (A.deeper (envOfC qual scope s.heap.objs.size f cdv))->sp vs H Q E ->
   ∃ t,PSs (g7o CX P w K mg base N qual scope f cdv A outer s H E) body t/\t { nx:=fun _ H'=>Q .non H',rt:=Q } (start N vs) H) :
  a3q P w K mg base CX (k+1) f (PySem.W.fnOf name qual params body scope dV kV doc pm an cdv ct) ps sp:=by
 refine⟨len,fun A outer s H args us vs Q E hr e0 hb r hsp=>?_⟩
 have hl:=len _ _ _ _ hsp
 have KX:K.In s.heap:=e0.mod.kin.keeps fun b o e=>(e0.bs b o e).1
 have lim:s.heap.NoLimit:=e0.mod.nolimit.keeps fun b o e=>(e0.bs b o e).1
 have hkind:∀ y∈ps.zip us,scope.names.lookup y.1=some .local\/(scope.names.lookup y.1=some .cell/\((cellsFrom (s.heap.objs.size+1) scope.names []).lookup y.1).isSome=true):=fun⟨n,v⟩ hy=>by
  rcases S.par n (List.of_mem_zip hy).1 with q | q
  ·exact .inl q
  ·exact .inr ⟨q,PySem.W.cellsFrom_some _ _ _ (.inl q)⟩
 refine codeAny_call_function hr.depth (KX _ _ lk) rfl S.co S.gen rfl (PySem.W.codeRec_of KX hcd) (hb _ _ _ _ ?_)
 refine wpAny_newFunctionEnv_cells S.kind hkind fun env he s1 x=>?_
 subst he
 refine⟨lim.keeps x.toInCall.keep,codeAny_func ?_⟩
 obtain⟨t,ht,hq⟩:=hbody A outer s H vs Q E (hr.deeper _) hsp
 have I:Inv (g7o CX P w K mg base N qual scope f cdv A outer s H E) [] (start N vs) H s1:=g8m S hr.hd e0 hl r x
 refine wpAny_mono (ht [] s1 (start N vs) H _ I hq) (fun fl s' hs=>?_) fun e s' hs=>hs
 have fin:∀ {σ':St} {H':Hp} {v:V} {u:Value},Inv (g7o CX P w K mg base N qual scope f cdv A outer s H E) [] σ' H' s'->RelV v u->Q v H'->CE outer P w H s Q u s' :=
  fun {σ' H' v u} J rv q=>⟨v,H',J.os,J.bare,J.base,J.hok,rv,q⟩
 cases fl with
 | ret u =>
  obtain⟨v,σ',H',J,rv,q⟩:=hs
  exact fin J rv q
 | next =>
  obtain⟨σ',H',J,q⟩:=hs
  exact fin (v:=V.non) (u:=Value.none) J rfl q
 | brk =>
  obtain⟨_,_,_,q⟩:=hs
  exact False.elim q
 | cont =>
  obtain⟨_,_,_,q⟩:=hs
  exact False.elim q
end L2
namespace L2
open PySem PySem.Spec PyProof.Rows
section
variable {X:Cx}{x:Str}{p pos:Pos}{e:Expr}{es:List Expr}{t:TA}{id T:String}{r:List V->Hp->VK->Prop}
def tCB(r:List V->Hp->VK->Prop)(t:TA):TE:=fun σ H Q=>t σ H fun vs H1=>r vs H1 Q
theorem a1l (hc : c6r X (.builtin id) r) (hg : Gl X x) (hm : X.mg x = none) (hv : bootBuiltins x = some (.builtin id)) (ha : PA X (e :: es) t) (hn : x ≠ "__name__" := by decide) (hdb : (x == ("__debug__" : Str)) = false := by decide)
  (he:starEach (e :: es) X.env=(false,eval e X.env) :: starEach es X.env:=by rfl) (hpl:(backTo pos (starEach es X.env)).any (·.1)=false:=by rfl):PE X (.Call (.Name x p) (e :: es) [] pos) (tCB r t):=by
 intro pins s σ H Q I h
 refine wpAny_Call_Name_kw (g4p I hg hm hv ?_ hn hdb)
 exact PyProof.Rows.callWith_builtin1 (thn (ha pos pins s σ H _ I h) fun us s1 ⟨vs,H1,I1,r1,q1⟩=>hc pins s1 σ H1 vs us Q I1 r1 q1) he hpl
theorem b0j (hc : c6r X (.type T) r) (hg : Gl X x) (hm : X.mg x = none) (hv : bootBuiltins x = some (.type T)) (ha : PA X (e :: es) t) (hn : x ≠ "__name__" := by decide) (hdb : (x == ("__debug__" : Str)) = false := by decide)
  (he:starEach (e :: es) X.env=(false,eval e X.env) :: starEach es X.env:=by rfl) (hpl:(backTo pos (starEach es X.env)).any (·.1)=false:=by rfl):PE X (.Call (.Name x p) (e :: es) [] pos) (tCB r t):=by
 intro pins s σ H Q I h
 refine wpAny_Call_Name_kw (g4p I hg hm hv ?_ hn hdb)
 exact PyProof.Rows.callWith_type1 (thn (ha pos pins s σ H _ I h) fun us s1 ⟨vs,H1,I1,r1,q1⟩=>hc pins s1 σ H1 vs us Q I1 r1 q1) he hpl
end
end L2
namespace HT
open PySem PyProof.Rows
section
open PySem.SeqAt
open PySem.AutoSeq1 (wpAny_loadPart')
open PySem.MeetsSeq PySem.MeetsSeq2 PySem.MeetsSeq3
end
section
variable {prog:Program}{w:World}{A:Around}{E:Value->Shared->Prop}{s:Shared}
noncomputable def sIx(n d:Nat):Option Int->Nat
 | none=>d
 | some v=>if v < 0 then (v+(n:Int)).toNat else min v.toNat n
theorem h2y(n d:Nat):sIx n d none=d:=rfl
theorem h7y(n d k:Nat):sIx n d (some (k:Int))=min k n:=by
 show (if (k:Int) < 0 then ((k:Int)+(n:Int)).toNat else min (k:Int).toNat n)=min k n
 rw [if_neg (by omega),Int.toNat_natCast]
end
end HT
namespace L2
open PySem PySem.Spec PyProof.Rows
noncomputable abbrev TO:=St->Hp->(Option Int->Hp->Prop)->Prop
def PO(X:Cx)(e:Option Expr)(t:TO):Prop :=
 ∀ (pins:List (Addr×Obj)) (s:Shared) (σ:St) (H:Hp) (Q:Option Int->Hp->Prop),Inv X pins σ H s->t σ H Q ->
  wpAny (model X.prog X.w) X.A (evalPart e X.env) (fun u s'=>∃ o H',Inv X pins σ H' s'/\IsPart u o/\Q o H') X.xe s
noncomputable def h7z:TO:=fun _ H Q=>Q none H
def i2q(t:TE):TO:=fun σ H Q=>t σ H fun x H1=>∃ i,x = .int i/\Q (some i) H1
section
variable {X:Cx}{e:Expr}{te:TE}{lo hi:Option Expr}{tl th:TO}{pos p2:Pos}
theorem d5k:PO X none h7z:=by
 intro pins s σ H Q I h
 rw [evalPart_none]
 exact wpAny_pure ⟨none,H,I,.none,h⟩
theorem h8a(h:PE X e te):PO X (some e) (i2q te):=by
 intro pins s σ H Q I hw
 rw [evalPart_some]
 refine thn (h pins s σ H _ I hw) fun u s1 ⟨x,H1,I1,r1,q1⟩=>?_
 obtain⟨i,rfl,q⟩:=q1
 obtain⟨t,rfl⟩:=r1
 exact⟨some i,H1,I1,.int i t,q⟩
def SlR(X:Cx)(r:V->Option Int->Option Int->Hp->VK->Prop):Prop :=
 ∀ (pins:List (Addr×Obj)) (s:Shared) (σ:St) (H:Hp) (x:V) (v vl vu:Value) (lo hi:Option Int) (sl:Addr) (Q:VK),Inv X pins σ H s->RelV x v->s.heap.IsSliceOf sl vl vu .none->IsPart vl lo->IsPart vu hi->r x lo hi H Q ->
  ∃ T id, typeLookup (.type T) "__getitem__" = pure (some (.builtin id)) ∧ s.TypeIs v T ∧ wpAny (model X.prog X.w) X.A (getItem v (.ref sl)) (EP X pins σ Q) X.xe s
def tSl(r:V->Option Int->Option Int->Hp->VK->Prop)(te:TE)(tl th:TO):TE:=fun σ H Q=>te σ H fun x H1=>tl σ H1 fun l H2=>th σ H2 fun u H3=>r x l u H3 Q
theorem c7k{r:V->Option Int->Option Int->Hp->VK->Prop}(hr:SlR X r)(he:PE X e te)(hl:PO X lo tl)(hu:PO X hi th):PE X (.Subscript e (.Slice lo hi none p2) pos) (tSl r te tl th):=by
 intro pins s σ H Q I h
 refine Subscript_ (thn (he pins s σ H _ I h) fun v s1 ⟨x,H1,I1,r1,q1⟩=>?_)
 refine wpAny_Slice (thn (hl pins s1 σ H1 _ I1 q1) fun vl s2 ⟨l,H2,I2,pl,q2⟩=>thn (hu pins s2 σ H2 _ I2 q2) fun vu s3 ⟨u,H3,I3,pu,q3⟩=>?_)
 rw [evalPart_none]
 refine wpAny_pure ?_
 have I4 : Inv X pins σ H3 { s3 with heap := s3.heap.push { cls := .type "slice", data := .fields #[vl, vu, .none] } } := I3.kept (t' := s3.toks) fun b ob q => Heap.get?_push_of_some _ q
 obtain ⟨T, id, hT, ht, hg⟩ := hr pins { s3 with heap := s3.heap.push { cls := .type "slice", data := .fields #[vl, vu, .none] } } σ H3 x v vl vu l u s3.heap.objs.size Q I4 r1 (Heap.IsSliceOf.new ..) pl pu q3
 show wpAny (model X.prog X.w) X.A (subscriptTail e (.Slice lo hi none p2) v (.ref s3.heap.objs.size)) (EP X pins σ Q) X.xe { s3 with heap := s3.heap.push { cls := .type "slice", data := .fields #[vl, vu, .none] } }
 exact tail_any (ops:=[.ref s3.heap.objs.size,v]) ht hT hg (by with_unfolding_all rfl)
noncomputable def g1z(xs:List V)(lo hi:Option Int):List V:=(xs.drop (HT.sIx xs.length 0 lo)).take (HT.sIx xs.length xs.length hi - HT.sIx xs.length 0 lo)
theorem g2a(xs:List V)(lo hi:Option Int):(g1z xs lo hi).length<=xs.length:=by
 unfold g1z
 rw [List.length_take,List.length_drop]
 omega
end
end L2
namespace L2
open PySem PySem.Spec PyProof.Rows
noncomputable def ixN(n:Nat)(i:Int):Option Nat:=if 0<=i then (if i < n then some i.toNat else none) else if -(n:Int)<=i then some (i+n).toNat else none
noncomputable def atI{α:Type}(xs:List α)(i:Int):Option α:=(ixN xs.length i).bind fun j=>xs[j]?
theorem h8b{n:Nat}{i:Int}{j:Nat}(h:ixN n i=some j):seqIndex? i n=some j/\j < n /\ -(n:Int)<=i/\i < n:=by
 unfold ixN at h
 by_cases h0:0<=i
 ·rw [if_pos h0] at h
  by_cases h1:i < n
  ·rw [if_pos h1] at h
   have e:i.toNat=j:=Option.some.inj h
   exact⟨by rw [seqIndex_of h0 h1,e],by omega,by omega,h1⟩
  ·rw [if_neg h1] at h; cases h
 ·rw [if_neg h0] at h
  by_cases h1 : -(n:Int)<=i
  ·rw [if_pos h1] at h
   have e:(i+n).toNat=j:=Option.some.inj h
   exact⟨by rw [seqIndex_neg (by omega) h1,e],by omega,h1,by omega⟩
  ·rw [if_neg h1] at h; cases h
theorem g2b{α:Type}{xs:List α}{i:Int}{v:α}(h:atI xs i=some v):∃ j,seqIndex? i xs.length=some j/\xs[j]? = some v/\j < xs.length /\ -(xs.length:Int)<=i/\i < xs.length:=by
 unfold atI at h
 cases e:ixN xs.length i with
 | none=>rw [e] at h; cases h
 | some j =>
  rw [e] at h
  obtain⟨h1,h2,h3,h4⟩:=h8b e
  exact⟨j,h1,h,h2,h3,h4⟩
theorem c5k{α:Type}{xs:List α}{j:Nat}{v:α}(h:xs[j]? = some v):atI xs (j:Int)=some v:=by
 have hj:j < xs.length:=(List.getElem?_eq_some_iff.mp h).1
 have e:ixN xs.length (j:Int)=some j:=by
  unfold ixN
  rw [if_pos (by omega),if_pos (by omega)]; simp
 unfold atI; rw [e]; exact h
def h8c(b:Expr):Prop:=∀ o i,subscripted b false o i=operate [o,i] (getItem o i)
def IxR(X:Cx)(r:R2):Prop :=
 ∀ (value slice:Expr) (pins:List (Addr×Obj)) (s:Shared) (σ:St) (H:Hp) (x y:V) (v u:Value) (Q:VK),Inv X pins σ H s->RelV x v->RelV y u->r x y H Q ->
  subscripted slice false v u=operate [v,u] (getItem v u)->wpAny (model X.prog X.w) X.A (subscriptTail value slice v u) (EP X pins σ Q) X.xe s
def MtR(X:Cx)(id:String)(r:V->List V->Hp->VK->Prop):Prop :=
 ∀ (pins:List (Addr×Obj)) (s:Shared) (σ:St) (H:Hp) (x:V) (xs:List V) (v:Value) (us:List Value) (Q:VK),Inv X pins σ H s->RelV x v->Vals xs us->r x xs H Q ->
  wpAny (model X.prog X.w) X.A (call (.builtin id) (v :: us)) (EP X pins σ Q) X.xe s
section
variable {X:Cx}{a b:Expr}{ta tb:TE}{pos:Pos}
theorem a1v{r:R2}(hr:IxR X r)(ha:PE X a ta)(hb:PE X b tb)(hs:h8c b):PE X (.Subscript a b pos) (tOp r ta tb):=by
 intro pins s σ H Q I h
 exact Subscript_ (i7f ha hb I h fun v u s2 x y H2 I2 rx ry q=>hr a b pins s2 σ H2 x y v u Q I2 rx ry q (hs _ _))
def rIxL(K:PySem.W.Frag):R2:=fun x y H Q=>∃ p xs i v,x = .ref p/\y = .int i/\SqL K H p xs/\atI xs i=some v/\Q v H
def rIxT(K:PySem.W.Frag):R2:=fun x y H Q=>∃ p xs i v,x = .ref p/\y = .int i/\SqT K H p xs/\atI xs i=some v/\Q v H
def rIxS:R2:=fun x y H Q=>∃ z i c,x = .str z/\y = .int i/\z.length<=sizeLine/\atI z.cps.toList i=some c/\Q (.str ⟨#[c]⟩) H
theorem g8n:IxR X (rIxL X.K):=by
 intro value slice pins s σ H x y v u Q I rx ry h hs
 obtain⟨p,xs,i,z,rfl,rfl,hq,he,q⟩:=h
 cases rx
 obtain⟨t,rfl⟩:=ry
 obtain⟨its,r,pl,hz⟩:=I.list hq
 obtain⟨j,h1,h2,h3,h4,h5⟩:=g2b he
 obtain⟨w,ew,rw'⟩:=r.get h2
 have hl:=r.length
 have hn:=f8z
 have fin:EP X pins σ Q w s:=⟨z,H,I,rw',q⟩
 by_cases h0:0<=i
 ·have hj:i.toNat=j:=by
   rw [seqIndex_of h0 h5] at h1
   exact Option.some.inj h1
  exact item_listR pl.isList h0 (by omega) (by rw [hj]; simpa using ew) fin hs
 ·have hj:(i+(its.toArray.size:Int)).toNat=j:=by
   rw [seqIndex_neg (by omega) h4] at h1
   rw [List.size_toArray,<- hl]
   exact Option.some.inj h1
  exact subscriptTail_builtinR (x:=w) pl.isList.typeIs slot_list_getitem.lookup
   (wpAny_getItem_list_neg (Q:=fun r s'=>r=w/\EP X pins σ Q r s') pl.isList (by omega) (by rw [List.size_toArray] <;> omega) (by omega) (by rw [hj]; simpa using ew) ⟨rfl,fin⟩) hs
theorem i2r:IxR X (rIxT X.K):=by
 intro value slice pins s σ H x y v u Q I rx ry h hs
 obtain⟨p,xs,i,z,rfl,rfl,hq,he,q⟩:=h
 cases rx
 obtain⟨t,rfl⟩:=ry
 obtain⟨its,r,pl,hz⟩:=I.tuple hq
 obtain⟨j,h1,h2,h3,h4,h5⟩:=g2b he
 obtain⟨w,ew,rw'⟩:=r.get h2
 have hl:=r.length
 have hn:=f8z
 have fin:EP X pins σ Q w s:=⟨z,H,I,rw',q⟩
 exact subscriptTail_builtinR (x:=w) pl.typeIs slot_tuple_getitem.lookup
  (getItem_tuple (j:=j) (Q:=fun r s'=>r=w/\EP X pins σ Q r s') pl (by omega) (by omega) (by rw [List.size_toArray,<- hl]; exact h1) (by simpa using ew) ⟨rfl,fin⟩) hs
theorem i2s:IxR X rIxS:=by
 intro value slice pins s σ H x y v u Q I rx ry h hs
 obtain⟨z,i,c,rfl,rfl,hz,he,q⟩:=h
 obtain⟨t,rfl⟩:=rx
 obtain⟨t',rfl⟩:=ry
 obtain⟨j,h1,h2,h3,h4,h5⟩:=g2b he
 have hl:z.cps.toList.length=z.length:=by simp [Str.length]
 rw [hl] at h1 h4 h5
 have hn:=f8z
 exact tail_any (typeIs_str s z t) slot_str_getitem.lookup (getItem_str (c:=c) (by
  have e1:decide (i < -(2 ^ 63:Int))=false:=decide_eq_false (by omega)
  have e2:decide (i ≥ 2 ^ 63)=false:=decide_eq_false (by omega)
  rw [e1,e2,Bool.or_false]) (by rw [h1]; simpa using h2) ⟨.str ⟨#[c]⟩,H,I.tok _,⟨_,rfl⟩,q⟩) hs
theorem Inv.lst{pins:List (Addr×Obj)}{σ:St}{H:Hp}{s:Shared}{p:Addr}{xs:List V}(I:Inv X pins σ H s)(h:H p=some (.lst xs)) :
  ∃ (its : List Value) (n : Nat), Vals xs its ∧ s.heap.get? p = some { cls := .type "list", data := .seq its.toArray n } ∧ xs.length ≤ sizeLine := by
 obtain⟨z,its,n,r,e⟩:=I.hok p _ h
 exact⟨its,n,r,e,z⟩
theorem f9l(lo hi:Option Int)(n:Nat):(sliceBounds lo hi none n).1=((HT.sIx n 0 lo:Nat):Int)/\(sliceBounds lo hi none n).2.1=((HT.sIx n n hi:Nat):Int)/\(sliceBounds lo hi none n).2.2=1:=by
 refine⟨?_,?_,rfl⟩
 ·cases lo with
  | none=>simp [sliceBounds,HT.sIx]
  | some i =>
   simp only [sliceBounds,HT.sIx,Option.getD_none,show (1:Int) > 0 by decide,if_true]
   by_cases h:i < 0
   ·simp only [h,if_true] <;> omega
   ·simp only [h,if_false] <;> omega
 ·cases hi with
  | none=>simp [sliceBounds,HT.sIx]
  | some i =>
   simp only [sliceBounds,HT.sIx,Option.getD_none,show (1:Int) > 0 by decide,if_true]
   by_cases h:i < 0
   ·simp only [h,if_true] <;> omega
   ·simp only [h,if_false] <;> omega
theorem f5t(its:List Value)(lo hi:Option Int):slicePick its.toArray lo hi none=((its.drop (HT.sIx its.length 0 lo)).take (HT.sIx its.length its.length hi - HT.sIx its.length 0 lo)).toArray:=by
 obtain⟨h1,h2,h3⟩:=f9l lo hi its.toArray.size
 unfold slicePick
 rw [h1,h2,h3]
 simp only [sliceRange_one,pick_run,List.size_toArray] <;> rfl
noncomputable def rSlL(K:PySem.W.Frag):V->Option Int->Option Int->Hp->VK->Prop:=fun x lo hi H Q=>∃ a xs,x = .ref a/\SqL K H a xs/\∀ p,H p=none->Q (.ref p) (upd H p (.lst (g1z xs lo hi)))
theorem g8o:SlR X (rSlL X.K):=by
 intro pins s σ H x v vl vu lo hi sl Q I rx hs pl pu h
 obtain⟨a,xs,rfl,hx,q⟩:=h
 cases rx
 obtain⟨its,r,ht,hz⟩:=I.list hx
 have hlen:=r.length
 refine ⟨"list", _, slot_list_getitem.lookup, ht.isList.typeIs, ?_⟩
 refine wpAny_getItem_list_slice ht.isList hs pl pu .none (by simp) ?_ (by rw [List.size_toArray] <;> omega)
 rw [f5t,<- hlen]
 refine⟨.ref s.heap.objs.size,_,I.laid (t':=s.toks) (o:=.lst (g1z xs lo hi)) (fun b ob q=>Heap.get?_push_of_some _ q) (Nat.le_refl _) ?_,rfl,q _ (I.hok.fresh (Nat.le_refl _))⟩
 exact⟨Nat.le_trans (g2a xs lo hi) hz,_,0,(r.drop (HT.sIx xs.length 0 lo)).take (HT.sIx xs.length xs.length hi - HT.sIx xs.length 0 lo),Heap.get?_push_size _ rfl⟩
noncomputable def b1q:V->Bool
 | .non=>true
 | .bl _=>true
 | .int _=>true
 | .str _=>true
 | _=>false
noncomputable def eqV:V->V->Bool
 | .non,.non=>true
 | .bl a,.bl b=>a == b
 | .bl a,.int b=>(if a then 1 else 0) == b
 | .int a,.bl b=>a == (if b then 1 else 0)
 | .int a,.int b=>a == b
 | .str a,.str b=>a == b
 | _,_=>false
theorem i2t{A:Around}{s:Shared}{y x:V}{u v:Value}(ry:RelV y u)(rx:RelV x v)(fy:b1q y=true)(fx:b1q x=true):SeqAt.EqAt A s u v (eqV y x):=by
 cases y with
 | non =>
  cases ry
  cases x with
  | non=>cases rx; exact SeqAt.EqAt.same _
  | bl b=>cases rx; exact SeqAt.EqAt.none_bool b
  | int b=>obtain⟨t,rfl⟩:=rx; exact SeqAt.EqAt.none_int b t
  | str b=>obtain⟨t,rfl⟩:=rx; exact SeqAt.EqAt.none_str b t
  | _=>exact absurd (show false=true from fx) Bool.false_ne_true
 | bl a =>
  cases ry
  cases x with
  | non=>cases rx; exact SeqAt.EqAt.bool_none a
  | bl b=>cases rx; exact SeqAt.EqAt.bool_bool a b
  | int b=>obtain⟨t,rfl⟩:=rx; exact SeqAt.EqAt.bool_int a b t
  | str b=>obtain⟨t,rfl⟩:=rx; exact SeqAt.EqAt.bool_str a b t
  | _=>exact absurd (show false=true from fx) Bool.false_ne_true
 | int a =>
  obtain⟨t',rfl⟩:=ry
  cases x with
  | non=>cases rx; exact SeqAt.EqAt.int_none a t'
  | bl b=>cases rx; exact SeqAt.EqAt.int_bool a t' b
  | int b=>obtain⟨t,rfl⟩:=rx; exact SeqAt.EqAt.int_int a t' b t
  | str b=>obtain⟨t,rfl⟩:=rx; exact SeqAt.EqAt.int_str a t' b t
  | _=>exact absurd (show false=true from fx) Bool.false_ne_true
 | str a =>
  obtain⟨t',rfl⟩:=ry
  cases x with
  | non=>cases rx; exact SeqAt.EqAt.str_none a t'
  | bl b=>cases rx; exact SeqAt.EqAt.str_bool a t' b
  | int b=>obtain⟨t,rfl⟩:=rx; exact SeqAt.EqAt.str_int a t' b t
  | str b=>obtain⟨t,rfl⟩:=rx; exact SeqAt.EqAt.str_str a t' b t
  | _=>exact absurd (show false=true from fx) Bool.false_ne_true
 | _=>exact absurd (show false=true from fy) Bool.false_ne_true
noncomputable def eqU(x:V)(u:Value):Bool:=match u with
 | .none=>eqV .non x
 | .bool b=>eqV (.bl b) x
 | .int i _=>eqV (.int i) x
 | .str z _=>eqV (.str z) x
 | _=>false
theorem g8p{x y:V}{u:Value}(r:RelV y u)(f:b1q y=true):eqU x u=eqV y x:=by
 cases y with
 | non=>cases r; rfl
 | bl b=>cases r; rfl
 | int i=>obtain⟨t,rfl⟩:=r; rfl
 | str z=>obtain⟨t,rfl⟩:=r; rfl
 | _=>exact absurd (show false=true from f) Bool.false_ne_true
theorem d9h{x:V}:∀ {xs:List V} {us:List Value},Vals xs us->xs.all b1q=true->us.any (eqU x)=xs.any fun y=>eqV y x
 | _,_,.nil,_=>rfl
 | y :: xs,u :: us,.cons r t,f=>by
  rw [List.all_cons,Bool.and_eq_true] at f
  rw [List.any_cons,List.any_cons,g8p r f.1,d9h t f.2]
theorem d0u{A:Around}{s:Shared}{x:V}{v:Value}(rx:RelV x v)(fx:b1q x=true):∀ {xs:List V} {us:List Value},Vals xs us->xs.all b1q=true->∀ u∈us,SeqAt.EqAt A s u v (eqU x u)
 | _,_,.nil,_=>fun u hu=>by cases hu
 | y :: xs,u :: us,.cons r t,f=>fun u' hu=>by
  rw [List.all_cons,Bool.and_eq_true] at f
  rcases List.mem_cons.mp hu with rfl | hu
  ·rw [g8p r f.1]; exact i2t r rx f.1 fx
  ·exact d0u rx fx t f.2 u' hu
noncomputable def inV(x:V)(xs:List V):Bool:=xs.any fun y=>eqV y x
def rIn(K:PySem.W.Frag)(neg:Bool):R2:=fun x y H Q=>∃ p xs,y = .ref p/\(SqL K H p xs\/SqT K H p xs)/\b1q x=true/\xs.all b1q=true/\Q (.bl (if neg then !inV x xs else inV x xs)) H
theorem f9m:OpR X (compareOp .In) (rIn X.K false):=by
 intro pins s σ H x y v u Q I rx ry h
 obtain⟨p,xs,rfl,hq,fx,fs,q⟩:=h
 cases ry
 rcases hq with hq | hq
 ·obtain⟨its,r,pl,hz⟩:=I.list hq
  refine SeqAt.in_listAt (eqU x) pl.isList (fun w hw=>d0u rx fx r fs w (by simpa using hw)) ⟨.bl _,H,I,rfl,?_⟩
  rw [show its.toArray.any (eqU x)=its.any (eqU x) by simp,d9h r fs]
  exact q
 ·obtain⟨its,r,pl,hz⟩:=I.tuple hq
  refine SeqAt.in_tupleAt (eqU x) pl (fun w hw=>d0u rx fx r fs w (by simpa using hw)) ⟨.bl _,H,I,rfl,?_⟩
  rw [show its.toArray.any (eqU x)=its.any (eqU x) by simp,d9h r fs]
  exact q
theorem c8v:OpR X (compareOp .NotIn) (rIn X.K true):=by
 intro pins s σ H x y v u Q I rx ry h
 obtain⟨p,xs,rfl,hq,fx,fs,q⟩:=h
 cases ry
 rcases hq with hq | hq
 ·obtain⟨its,r,pl,hz⟩:=I.list hq
  refine SeqAt.notIn_listAt (eqU x) pl.isList (fun w hw=>d0u rx fx r fs w (by simpa using hw)) ⟨.bl _,H,I,rfl,?_⟩
  rw [show its.toArray.any (eqU x)=its.any (eqU x) by simp,d9h r fs]
  exact q
 ·obtain⟨its,r,pl,hz⟩:=I.tuple hq
  refine SeqAt.notIn_tupleAt (eqU x) pl (fun w hw=>d0u rx fx r fs w (by simpa using hw)) ⟨.bl _,H,I,rfl,?_⟩
  rw [show its.toArray.any (eqU x)=its.any (eqU x) by simp,d9h r fs]
  exact q
theorem f9n:OpR X (compareOp .NotIn) (fun x y H Q=>∃ i j,x = .str i/\y = .str j/\Q (.bl (!(!(Builtin.Str.occurrences j i 0 j.length 1).isEmpty))) H):=by
 intro pins s σ H x y v u Q I rx ry h
 obtain⟨i,j,rfl,rfl,q⟩:=h
 obtain⟨t,rfl⟩:=rx
 obtain⟨t',rfl⟩:=ry
 exact notIn_str ⟨.bl _,H,I,rfl,q⟩
theorem c8w : c6r X (.builtin "len") (fun xs H Q => ∃ p ys, xs = [.ref p] ∧ (SqL X.K H p ys ∨ SqT X.K H p ys) ∧ Q (.int ys.length) H) := by
 intro pins s σ H xs us Q I r h
 obtain⟨p,ys,rfl,hq,q⟩:=h
 obtain⟨u,rfl,rx⟩:=vals1 r
 cases rx
 have hn:=f8z
 rcases hq with hq | hq
 ·obtain⟨its,r',pl,hz⟩:=I.list hq
  have hlen:=r'.length
  exact Calls.call_len_list pl.isList (by simp only [List.size_toArray] <;> omega) ⟨.int ys.length,H,I.tok _,⟨s.toks+1,by rw [List.size_toArray,hlen]⟩,q⟩
 ·obtain⟨its,r',pl,hz⟩:=I.tuple hq
  have hlen:=r'.length
  exact len_tuple pl (by simp only [List.size_toArray] <;> omega) ⟨.int ys.length,H,I.tok _,⟨s.toks+1,by rw [List.size_toArray,hlen]⟩,q⟩
theorem f9o : c6r X (.builtin "len") (fun xs H Q => ∃ z, xs = [.str z] ∧ z.length ≤ sizeLine ∧ Q (.int z.length) H) := by
 intro pins s σ H xs us Q I r h
 obtain⟨z,rfl,hz,q⟩:=h
 obtain⟨u,rfl,t,rfl⟩:=vals1 r
 have hn:=f8z
 exact len_str (by omega) ⟨.int z.length,H,I.tok _,⟨_,rfl⟩,q⟩
theorem f9p : c6r X (.type "list") (fun xs H Q => ∃ p ys, xs = [.ref p] ∧ (SqL X.K H p ys ∨ SqT X.K H p ys) ∧ ∀ l, H l = none → Q (.ref l) (upd H l (.lst ys))) := by
 intro pins s σ H xs us Q I r h
 obtain⟨p,ys,rfl,hq,q⟩:=h
 obtain⟨u,rfl,rx⟩:=vals1 r
 cases rx
 have fin:∀ (its:List Value),Vals ys its->ys.length<=sizeLine->∀ (h':Heap) (c':Nat),(∀ b o',s.heap.get? b=some o'->h'.get? b=some o') ->
   h'.get? s.heap.objs.size = some { cls := .type "list", dict := none, data := .seq its.toArray c', slots := #[] } → EP X pins σ Q (.ref s.heap.objs.size) { s with heap := h' } := fun its r' hz h' c' kp e =>
  ⟨.ref s.heap.objs.size,_,I.laid (t':=s.toks) kp (Nat.le_refl _) (show b2m X.prog X.w _ h' _ (.lst ys) from ⟨hz,its,c',r',e⟩),rfl,q _ (I.hok.fresh (Nat.le_refl _))⟩
 rcases hq with hq | hq
 ·obtain⟨its,r',pl,hz⟩:=I.list hq
  have hlen:=r'.length
  obtain⟨o,ho,hc,n,hd⟩:=pl.isList
  exact call_list_seq p (.inl rfl) ho hc hd (fun h' c' kp e=>fin its r' hz h' c' kp e) (by simp only [List.size_toArray] <;> omega)
 ·obtain⟨its,r',pl,hz⟩:=I.tuple hq
  have hlen:=r'.length
  obtain⟨o,ho,hc,n,hd⟩:=pl
  exact call_list_seq p (.inr rfl) ho hc hd (fun h' c' kp e=>fin its r' hz h' c' kp e) (by simp only [List.size_toArray] <;> omega)
def tyV(K:PySem.W.Frag)(T:String)(x:V)(H:Hp):Prop:=match x with
 | .str _ => T = "str"
 | .int _ => T = "int"
 | .ref p => (T = "list" ∧ ∃ xs, SqL K H p xs) ∨ (T = "tuple" ∧ ∃ o, K.lookup p = some o ∧ o.cls = .type "tuple" ∧ o.dict = none) ∨
   (T = "dict" ∧ ((∃ kvs, H p = some (.dK kvs)) ∨ ∃ kvs, H p = some (.dT kvs))) ∨ (T = "set" ∧ ∃ S n, H p = some (.set S n))
 | _=>False
theorem h5p{pins:List (Addr×Obj)}{σ:St}{H:Hp}{s:Shared}{T:String}{x:V}{v:Value}(I:Inv X pins σ H s)(r:RelV x v)(ty:tyV X.K T x H) :
  s.TypeIs v T/\∀ a,v = .ref a->∃ ob,s.heap.get? a=some ob/\ob.dict=none:=by
 cases x with
 | str z =>
  obtain⟨t,rfl⟩:=r
  cases (show T = "str" from ty)
  exact⟨typeIs_str s z t,fun _ e=>nomatch e⟩
 | int i =>
  obtain⟨t,rfl⟩:=r
  cases (show T = "int" from ty)
  exact⟨typeIs_int s i t,fun _ e=>nomatch e⟩
 | ref p =>
  cases r
  rcases ty with ⟨rfl,xs,hq⟩ | ⟨rfl,o,hk,hc,hd⟩ | ⟨rfl,hk⟩ | ⟨rfl,S,n,hk⟩
  ·obtain⟨its,_,pl,_⟩:=I.list hq
   refine⟨pl.isList.typeIs,fun a e=>?_⟩
   cases e
   obtain⟨o,n,e,c,hd,_⟩:=pl
   exact⟨o,e,hd⟩
  ·refine⟨⟨o,I.kIn p o hk,hc⟩,fun a e=>?_⟩
   cases e
   exact⟨o,I.kIn _ o hk,hd⟩
  ·have z:∃ o,s.heap.get? p=some o/\o.ExactDict:=by
    rcases hk with ⟨kvs,hk⟩ | ⟨kvs,hk⟩
    ·obtain⟨_,_,_,_,o,_,_,e,ex,_⟩:=I.hok p _ hk
     exact⟨o,e,ex⟩
    ·obtain⟨_,_,_,_,o,_,_,e,ex,_⟩:=I.hok p _ hk
     exact⟨o,e,ex⟩
   obtain⟨o,e,ex⟩:=z
   refine⟨⟨o,e,ex.1⟩,fun a e2=>?_⟩
   cases e2
   exact⟨o,e,ex.2.1⟩
  ·obtain⟨o,_,_,_,e,ex,_⟩:=I.hok p _ hk
   refine⟨⟨o,e,ex.1⟩,fun a e2=>?_⟩
   cases e2
   exact⟨o,e,ex.2.1⟩
 | _=>exact False.elim ty
variable {o e:Expr}{es:List Expr}{to:TE}{t:TA}{name:Str}{apos cpos:Pos}{T id:String}{r:V->List V->Hp->VK->Prop}
/- xs.append(e),list.index on a module's tuple .. are MtR facts of 06m -/
end
end L2
namespace L2
open PySem PySem.Spec PyProof.Rows
def MtM(X:Cx)(id:String)(r:V->List V->Hp->VK->Prop):Prop :=
 ∀ (pins:List (Addr×Obj)) (s:Shared) (σ:St) (H:Hp) (x:V) (xs:List V) (v:Value) (us:List Value) (Q:VK),Inv X pins σ H s->RelV x v->Vals xs us->r x xs H Q ->
  wpAny (model X.prog X.w) X.A (call (.builtin id) (v :: us)) (EP X pins σ Q) X.xe s
theorem Vals.one:∀ {x:V} {us:List Value},Vals [x] us->∃ u,us = [u]/\RelV x u
 | _,_,.cons r .nil=>⟨_,rfl,r⟩
theorem Vals.two{x y:V}{us:List Value}(h:Vals [x,y] us):∃ u v,us = [u,v]/\RelV x u/\RelV y v:=by
 cases h with
 | cons r t =>
  cases t with
  | cons q z =>
   cases z
   exact⟨_,_,rfl,r,q⟩
theorem Vals.zero:∀ {us:List Value},Vals [] us->us = []
 | _,.nil=>rfl
theorem Vals.dropLast{xs:List V}{us:List Value}(h:Vals xs us):Vals xs.dropLast us.dropLast:=by
 induction h with
 | nil=>exact .nil
 | cons r t ih =>
  cases t with
  | nil=>exact .nil
  | cons q t'=>exact .cons r ih
theorem Vals.eraseIdx:∀ {xs:List V} {us:List Value} (i:Nat),Vals xs us->Vals (xs.eraseIdx i) (us.eraseIdx i)
 | _,_,_,.nil=>.nil
 | _,_,0,.cons _ t=>t
 | _,_,i+1,.cons r t=>.cons r (Vals.eraseIdx i t)
theorem Vals.reverse{xs:List V}{us:List Value}(h:Vals xs us):Vals xs.reverse us.reverse:=by
 induction h with
 | nil=>exact .nil
 | cons r t ih=>rw [List.reverse_cons,List.reverse_cons]; exact Vals.append ih (.cons r .nil)
theorem Vals.rep{xs:List V}{us:List Value}(h:Vals xs us):∀ k:Nat,Vals (List.replicate k xs).flatten (List.replicate k us).flatten
 | 0=>.nil
 | k+1=>by
  rw [List.replicate_succ,List.replicate_succ,List.flatten_cons,List.flatten_cons]
  exact Vals.append h (Vals.rep h k)
theorem g6d{α:Type}(l:List α):l.eraseIdx (l.length - 1)=l.dropLast:=by
 induction l with
 | nil=>rfl
 | cons a r ih =>
  cases r with
  | nil=>rfl
  | cons b r =>
   have e:(a :: b :: r).length - 1=((b :: r).length - 1)+1:=by
    have h1:(a :: b :: r).length=r.length+2:=rfl
    have h2:(b :: r).length=r.length+1:=rfl
    omega
   rw [e,List.eraseIdx_cons_succ,ih]
   all_goals rfl
theorem f9q{α:Type}:∀ (l:List α) (i:Nat),(l.eraseIdx i).length<=l.length
 | [],_=>Nat.le_refl _
 | _ :: _,0=>Nat.le_succ _
 | _ :: r,i+1=>Nat.succ_le_succ (f9q r i)
theorem foldl_rep(its:List Value):∀ (k:Nat) (acc:List Value),
  List.foldl (fun x1 x2=>x1++x2) acc.toArray (List.replicate k its.toArray)=(acc++(List.replicate k its).flatten).toArray
 | 0,acc=>by simp
 | k+1,acc=>by
  have e:acc.toArray++its.toArray=(acc++its).toArray:=by simp
  have e2:(acc++its)++(List.replicate k its).flatten=acc++(List.replicate (k+1) its).flatten:=by
   rw [List.replicate_succ,List.flatten_cons,List.append_assoc]
  rw [<- e2,<- foldl_rep its k (acc++its),<- e,List.replicate_succ,List.foldl_cons]
section
variable {X:Cx}{pins:List (Addr×Obj)}{σ:St}{H:Hp}{s:Shared}{l b:Addr}{xs ys zs:List V}
theorem Inv.i7n{its its':List Value}{n:Nat}{f:Array Value->Array Value}{t':Nat}(I:Inv X pins σ H s)(hH:H l=some (.lst xs))
  (e : s.heap.get? l = some { cls := .type "list", data := .seq its.toArray n }) (hf : f its.toArray = its'.toArray) (hv : Vals ys its') (hz : ys.length ≤ sizeLine) :
  Inv X pins σ (upd H l (.lst ys)) { s with heap:=s.heap.update l (Obj.mapSeq f),toks:=t' }:=by
 have q:=PySem.IsL.update e f
 rw [hf] at q
 refine I.write (x:=l) (e:=l) (by rw [hH]; exact trivial) (.inl rfl) (fun b' u hb hu=>(Heap.get?_update_other s.heap (Obj.mapSeq f) (Ne.symm hb)).trans hu) ⟨_,q⟩ ?_
 exact⟨hz,its',_,hv,q⟩
theorem Inv.j0i{its:List Value}{t':Nat}(I:Inv X pins σ H s)(hv:Vals ys its)(hz:ys.length<=sizeLine) :
  Inv X pins σ (upd H s.heap.objs.size (.lst ys)) { s with heap := s.heap.push { cls := .type "list", data := .seq its.toArray }, toks := t' } :=
 I.laid (fun _ _ q=>Heap.get?_push_of_some _ q) (Nat.le_refl _) ⟨hz,its,0,hv,Heap.get?_push_size _ rfl⟩
theorem Inv.fresh(I:Inv X pins σ H s):H s.heap.objs.size=none:=I.hok.fresh (Nat.le_refl _)
theorem Inv.h5q (I : Inv X pins σ H s) (hH : H l = some (.lst xs)) : xs.length ≤ sizeLine ∧ ∃ (its : List Value) (n : Nat), Vals xs its ∧ xs.length = its.length ∧ s.heap.get? l = some { cls := .type "list", data := .seq its.toArray n } := by
 obtain⟨z,its,n,r,e⟩:=I.hok l _ hH
 exact⟨z,its,n,r,r.length,e⟩
theorem h2z{n:Nat}(h:n<=sizeLine):Builtin.List.listTooLong n=false:=by
 unfold Builtin.List.listTooLong
 exact decide_eq_false (by omega)
end
section
variable {X:Cx}
noncomputable def g8q:V->List V->Hp->VK->Prop:=fun x vs H Q=>∃ l xs y,x = .ref l/\vs = [y]/\H l=some (.lst xs)/\xs.length < sizeLine/\Q .non (upd H l (.lst (xs++[y])))
theorem d3o : MtM X "list.append" g8q := by
 intro pins s σ H x vs v us Q I rx rv h
 obtain⟨l,xs,y,rfl,rfl,hH,hz,q⟩:=h
 cases rx
 obtain⟨u,rfl,ru⟩:=rv.one
 obtain⟨z,its,n,r,hl,e⟩:=I.h5q hH
 refine call_meets F.slot_list_append ⟨_,e,rfl⟩ F.entry_list_append (F.args_list_append_2 _ _) (PySem.list_append l its.toArray n u (by rw [List.size_toArray]; omega)) ⟨e,?_⟩
 refine⟨.non,_,I.i7n (its':=its++[u]) hH e (by simp) (r.append (.cons ru .nil)) ?_,rfl,q⟩
 rw [List.length_append,List.length_singleton]
 omega
noncomputable def rPop:V->List V->Hp->VK->Prop:=fun x vs H Q=>∃ l xs y,x = .ref l/\vs = []/\H l=some (.lst xs)/\xs[xs.length - 1]? = some y/\Q y (upd H l (.lst xs.dropLast))
theorem i2u : MtM X "list.pop" rPop := by
 intro pins s σ H x vs v us Q I rx rv h
 obtain⟨l,xs,y,rfl,rfl,hH,hy,q⟩:=h
 cases rx
 have hus:=rv.zero
 subst hus
 obtain⟨z,its,n,r,hl,e⟩:=I.h5q hH
 obtain⟨u,hu,ru⟩:=r.get hy
 have hy':its.toArray[its.toArray.size - 1]? = some u:=by
  show its.toArray[its.length - 1]? = some u
  rw [<- Array.getElem?_toList,<- hl]
  exact hu
 refine call_meets F.slot_list_pop ⟨_,e,rfl⟩ F.entry_list_pop (F.args_list_pop_1 _) (MeetsSeq.list_pop_last l its.toArray n u hy' (by rw [List.size_toArray]; omega)) ⟨e,?_⟩
 refine⟨y,_,I.i7n (its':=its.dropLast) hH e ?_ r.dropLast ?_,ru,q⟩
 ·show its.toArray.eraseIdxIfInBounds (its.toArray.size - 1)=its.dropLast.toArray
  rw [List.size_toArray,List.eraseIdxIfInBounds_toArray,g6d]
 ·rw [List.length_dropLast]
  omega
noncomputable def i2v:V->List V->Hp->VK->Prop:=fun x vs H Q=>∃ l xs i k y,x = .ref l/\vs = [.int i]/\H l=some (.lst xs) /\ -(2 ^ 63)<=i/\i < 2 ^ 63/\seqIndex? i xs.length=some k/\xs[k]? = some y/\Q y (upd H l (.lst (xs.eraseIdx k)))
theorem h3a : MtM X "list.pop" i2v := by
 intro pins s σ H x vs v us Q I rx rv h
 obtain⟨l,xs,i,k,y,rfl,rfl,hH,h1,h2,hk,hy,q⟩:=h
 cases rx
 obtain⟨u,rfl,ru⟩:=rv.one
 obtain⟨t,rfl⟩:=ru
 obtain⟨z,its,n,r,hl,e⟩:=I.h5q hH
 obtain⟨w,hw,rw'⟩:=r.get hy
 refine call_meets F.slot_list_pop ⟨_,e,rfl⟩ F.entry_list_pop (F.args_list_pop_2 _ _)
  (MeetsSeq.list_pop_at l its.toArray n i t k w (fitsIndex_both h1 h2) (by rw [List.size_toArray,<- hl]; exact hk) (by rw [<- Array.getElem?_toList]; exact hw) (by rw [List.size_toArray]; omega)) ⟨e,?_⟩
 refine⟨y,_,I.i7n (its':=its.eraseIdx k) hH e ?_ (r.eraseIdx k) ?_,rw',q⟩
 ·show its.toArray.eraseIdxIfInBounds k=(its.eraseIdx k).toArray
  rw [List.eraseIdxIfInBounds_toArray]
 ·have:=f9q xs k
  omega
def rCat:R2:=fun x y H Q=>∃ l b xs zs,x = .ref l/\y = .ref b/\H l=some (.lst xs)/\H b=some (.lst zs)/\xs.length+zs.length<=sizeLine/\∀ p,H p=none->Q (.ref p) (upd H p (.lst (xs++zs)))
theorem i2w:OpR X (binaryOp .Add) rCat:=by
 intro pins s σ H x y v u Q I rx ry h
 obtain⟨l,b,xs,zs,rfl,rfl,hH,hB,hz,q⟩:=h
 cases rx
 cases ry
 obtain⟨z,its,n,r,hl,e⟩:=I.h5q hH
 obtain⟨z2,its2,n2,r2,hl2,e2⟩:=I.h5q hB
 refine PySem.P.add_list e e2 ?_ (by rw [List.size_toArray,List.size_toArray]; omega)
 have ea:its.toArray++its2.toArray=(its++its2).toArray:=by simp
 rw [ea]
 exact⟨.ref _,_,I.j0i (t':=s.toks) (r.append r2) (by rw [List.length_append]; omega),rfl,q _ I.fresh⟩
def rRep:R2:=fun x y H Q=>∃ l k xs,x = .ref l/\y = .int k/\H l=some (.lst xs) /\ -(2 ^ 63)<=k/\k < 2 ^ 63/\xs.length*k.toNat<=sizeLine /\
 ∀ p,H p=none->Q (.ref p) (upd H p (.lst (List.replicate k.toNat xs).flatten))
theorem len_rep{α:Type}(xs:List α)(k:Nat):(List.replicate k xs).flatten.length=k*xs.length:=by
 induction k with
 | zero=>simp
 | succ k ih=>rw [List.replicate_succ,List.flatten_cons,List.length_append,ih,Nat.succ_mul,Nat.add_comm]
theorem i2x:OpR X (binaryOp .Mult) rRep:=by
 intro pins s σ H x y v u Q I rx ry h
 obtain⟨l,k,xs,rfl,rfl,hH,h1,h2,hz,q⟩:=h
 cases rx
 obtain⟨t,rfl⟩:=ry
 obtain⟨z,its,n,r,hl,e⟩:=I.h5q hH
 have hlen:its.toArray.size*k.toNat<=sizeLine:=by rw [List.size_toArray,<- hl]; exact hz
 have hcap:¬ its.toArray.size*k.toNat > (2 ^ 63 - 1) / 8:=by
  have:(sizeLine:Nat)<=(2 ^ 63 - 1) / 8:=by decide
  omega
 have hfit:¬ (!Builtin.List.listFitsIndex k)=true:=by
  rw [fitsIndex_both h1 h2]
  exact Bool.false_ne_true
 have i7o:¬ Builtin.List.listTooLong (its.toArray.size*k.toNat)=true:=by
  rw [h2z hlen]
  exact Bool.false_ne_true
 have hnew:List.foldl (fun x1 x2=>x1++x2) #[] (List.replicate (if its.toArray.isEmpty=true then 0 else k.toNat) its.toArray)=(List.replicate k.toNat its).flatten.toArray:=by
  have f0:∀ m:Nat,List.foldl (fun x1 x2=>x1++x2) #[] (List.replicate m its.toArray)=(List.replicate m its).flatten.toArray:=fun m=>by
   have:=foldl_rep its m []
   rw [List.nil_append] at this
   exact this
  rw [f0]
  cases its with
  | nil=>simp
  | cons a r'=>rw [if_neg (by simp)]
 refine wpAny_binaryOp_repeat_ref (T := "list") (U := "int") (by decide) ⟨_, e, rfl⟩ (fun s' => typeIs_int s' k t) noFill_list_mul F.fills_int_mul F.slot_int_rmul repeat_list F.slot_int_index.lookup
  (call_meets F.slot_int_rmul (typeIs_int s k t) F.entry_int_rmul (F.args_int_rmul_2 _ _) (int___rmul___int_list k t l its.toArray n)
   ⟨e,rfl,⟨_,e,rfl⟩,call_meets F.slot_list_mul ⟨_,e,rfl⟩ F.entry_list_mul (F.args_list_mul_2 _ _) (AutoListH.list___mul___list_int_3 l its.toArray n k t hfit hcap i7o) ⟨e,?_⟩⟩)
 rw [hnew]
 exact⟨.ref _,_,I.j0i (t':=s.toks) (r.rep k.toNat) (by rw [len_rep,Nat.mul_comm]; exact hz),rfl,q _ I.fresh⟩
end
section
variable {prog:Program}{w:World}{A:Around}{E:Value->Shared->Prop}{s:Shared}
end
section
variable {X:Cx}
end
end L2
namespace Att
open PySem PySem.W PySem.Calls PyProof.Rows
theorem d9i{P:Params}{h:Heap}:∀ (ns:List Int) (vs:List Value),WellAll P h vs (ns.map WData.int)->IntsAre vs ns:=by
 intro ns
 induction ns with
 | nil =>
  intro vs w
  rw [List.map_nil] at w
  cases w
  exact .nil
 | cons n ns ih =>
  intro vs w
  rw [List.map_cons] at w
  cases w with
  | cons a b =>
   cases a
   exact .cons _ _ (ih _ b)
theorem g8r{l:OpenLaw}{n:Nat}(hn:l.most=some n){P:Params}{h:Heap}{args:List WData}{vals:List Value}
  (hpre:l.row.toRowW.claim.pre args=true) (hwl:WellAll P h vals args) :
  ∃ a vs ns, vals = [Value.ref a] ∧ args = [WData.list (ns.map WData.int)] ∧ h.get? a = some { cls := .type "list", data := .seq vs.toArray } ∧ IntsAre vs ns ∧ ns.length ≤ n := by
 have hsh:WShape.hasAll [] args [.list .int]=true:=(pre_splitW hpre).1
 have hc:l.pre.holds [] { args:=args }=true:=(pre_splitW hpre).2
 obtain⟨d,r,rfl,h1,h2⟩:=hasAllW_cons hsh
 obtain rfl:=hasAllW_nil h2
 obtain⟨xs,rfl,h3⟩:=hasW_list h1
 obtain⟨ns,rfl⟩:=items_int h3
 have hlen:ns.length<=n:=by
  unfold OpenLaw.pre at hc
  have h4:(WTm.not (.lt (.lit (.int (n:Int))) (.len (.arg 0)))).holds [] { args:=[.list (ns.map .int)] }=true:=by
   have h4:=(holds_andW hc).1
   rw [hn] at h4
   exact h4
  have h5:=condW_of h4 (w_not (w_lt w_lit (w_len_list (w_arg rfl))))
  rw [List.length_map] at h5
  refine Nat.le_of_not_lt fun q=>?_
  have q':(n:Int) < ((ns.length:Nat):Int):=by omega
  first
   | (rw [decide_eq_true q'] at h5; exact absurd h5 (by decide))
   | (simp at h5; omega)
 cases hwl with
 | cons w1 w2 =>
  cases w2
  cases w1 with
  | list ho hall=>exact⟨_,_,ns,rfl,rfl,ho,d9i ns _ hall,hlen⟩
theorem g8s(l:OpenLaw)(args:List WData):l.row.toRowW.claim.post args (.bool true) args=true :=
 postW_of (r:=l.row.toRowW) (X:=(true == true))
  (show WShape.has [] (.bool true) .bool=true by first | rfl | decide | simp [WShape.has,WShape.arms,WShape.armsAll])
  (show (WTm.eq .res (.lit (.bool true))).value [] { args:=args,res:=some (.bool true),after:=args }=some (.bool (true == true)) from w_eq_bool (w_res rfl) w_lit) rfl
section
variable {prog:Program}{w:World}{A:Around}{E:Value->Shared->Prop}{s:Shared}{K:Frag}
end
end Att
namespace L2
open PySem PySem.Spec PyProof.Rows
theorem f9r:∀ {vs:List Value} {ns:List Int},IntsAre vs ns->Vals (ns.map V.int) vs
 | _,_,.nil=>.nil
 | _,_,.cons n t h=>.cons ⟨t,rfl⟩ (f9r h)
def Only(H:Hp):Prop:=∀ b,H b=none\/∃ o xs,H b=some (.frz o (.lst xs))
theorem h3b{P:Program}{w:World}{K:PySem.W.Frag}{mg mb:Str->Option Value}{CX:CXT}{k:Nat}{fa a:Addr}{fd:FuncData}{x:Str}{sp:Sp}{s₁:Shared}{vs:List Value}{ns:List Int}
  (KX : K.In s₁.heap) (hns : s₁.heap.Ns mainGlobals mg) (hb : s₁.heap.Ns builtinsNs mb) (hbb : ∀ x : Str, x ≠ "__name__" → mb x = bootBuiltins x) (hlim : s₁.heap.NoLimit) (hg : s₁.gens = #[])
  (ha : s₁.heap.get? a = some { cls := .type "list", data := .seq vs.toArray }) (hi : IntsAre vs ns) (hl : ns.length ≤ sizeLine) (hr : a5z k callerA)
  (F:∀ base:Heap,K.In base->base.Ns mainGlobals mg->a3q P w K mg base CX k fa fd [x] sp) (hbind:∀ (s:Shared) (u:Value),BindsTo s fd ⟨[u],[]⟩ [(x,u)])
  (hsp:∀ H:Hp,Only H->SqL K H a (ns.map V.int)->sp [.ref a] H (fun v _=>v = .bl true) fun _ _ _=>False)
  (hCX:∀ H e s',CX [] H s₁ (fun _ _ _=>False) e s'->False) :
  codeAny (model P w) callerA (.call (.ref fa) ⟨[.ref a],[]⟩) (fun r s'=>r = .ok (.ret (.bool true))/\OldK s₁.heap s'.heap/\s'.os=s₁.os/\AllBare s'.gens) s₁:=by
 have rv:=f9r hi
 have lenV:=hi.length
 -- from an abstract heap in which nothing but the script may be tracked
 have core:∀ H:Hp,Only H->SqL K H a (ns.map V.int)->HOk P w H s₁.heap->(∀ b,H b≠none->b=a)->(H a≠none->K.lookup a=none) ->
   codeAny (model P w) callerA (.call (.ref fa) ⟨[.ref a],[]⟩) (fun r s'=>r = .ok (.ret (.bool true))/\OldK s₁.heap s'.heap/\s'.os=s₁.os/\AllBare s'.gens) s₁:=by
  intro H hO hS hok hA hK
  have g8t:∀ {b:Addr} {o:Obj},s₁.heap.get? b=some o->H b=none->(h2m s₁.heap H).get? b=some o:=fun e n=>h2n e n
  have noA:∀ {b:Addr} {o:Obj} {es:Array DictEntry} {ep:Nat},s₁.heap.get? b=some o->o.data = .dict es ep->H b=none:=fun {b o es ep} e d=>by
   cases q:H b with
   | none=>rfl
   | some u =>
    have e':b=a:=hA b (by rw [q]; simp)
    subst e'
    rw [ha] at e; cases e
    have d':Data.seq vs.toArray _=Data.dict es ep:=d
    cases d'
  have nsK:∀ {b:Addr} {m:Str->Option Value},s₁.heap.Ns b m->(h2m s₁.heap H).Ns b m:=fun {b m} ⟨o,es,ep,e,d,r⟩=>⟨o,es,ep,g8t e (noA e d),d,r⟩
  have hKb:K.In (h2m s₁.heap H):=fun b o e=>g8t (KX b o e) (by
   cases q:H b with
   | none=>rfl
   | some u =>
    have e':b=a:=hA b (by rw [q]; simp)
    subst e'
    rw [hK (by rw [q]; simp)] at e; cases e)
  have hM:Mod K mg (h2m s₁.heap H):=⟨hKb,nsK hns,⟨mb,nsK hb,hbb⟩,let ⟨mc,h1,h2⟩:=hlim; ⟨mc,nsK h1,h2⟩⟩
  have e0:h5o P w K mg (h2m s₁.heap H) callerA [] s₁ H:=⟨rfl,hM,fun b o e=>h7n e,Nat.le_of_eq (g7y _ _),trivial,fun b hb=>absurd (show b∈([] : List Addr) from hb) (by simp),hok,.of_eq hg⟩
  refine codeAny_mono ((F _ hKb (nsK hns)).run callerA [] s₁ H ⟨[.ref a],[]⟩ [.ref a] [.ref a] _ _ hr e0 (hbind s₁ (.ref a)) (.cons rfl .nil) (hsp H hO hS)) fun r s' h=>?_
  cases r with
  | error e=>exact (hCX H e s' h).elim
  | ok fl =>
   cases fl with
   | next=>exact False.elim h
   | brk=>exact False.elim h
   | cont=>exact False.elim h
   | ret u =>
    obtain⟨v,H',os,bare,un,hok',r',q⟩:=h
    have q':v = .bl true:=q
    subst q'
    obtain rfl:u=Value.bool true:=r'
    refine⟨rfl,OldK.of_keep fun b o e=>?_,os,bare⟩
    cases q:H b with
    | none=>exact un.keep b o e q (by intro z; exact absurd (show b∈([] : List Addr) from z) (by simp)) (by simp)
    | some u =>
     rcases hO b with z | ⟨ob,xs,z⟩
     ·rw [q] at z; cases z
     ·have z2:=un.f8w b ob _ z
      obtain⟨e1,_⟩:=hok b _ z
      obtain⟨e2,_⟩:=hok' b _ z2
      rw [e] at e1; cases e1
      exact e2
 cases hk:K.lookup a with
 | some o =>
  -- the script is one of the module's own objects
  have e:=KX a o hk
  rw [ha] at e
  cases e
  refine core (fun _=>none) (fun _=>.inl rfl) (.inr ⟨_,vs.toArray,_,hk,rfl,rfl,rfl,by rw [List.size_toArray,lenV]; exact hl,by simpa using rv⟩) (fun b u z=>by have z':(none:Option HO)=some u:=z; cases z') (fun b z=>absurd rfl z) fun z=>absurd rfl z
 | none =>
  refine core (fun b => if b = a then some (.frz { cls := .type "list", data := .seq vs.toArray } (.lst (ns.map V.int))) else none) (fun b => ?_) (.inl (.inr ⟨{ cls := .type "list", data := .seq vs.toArray }, if_pos rfl⟩)) (fun b u z => ?_) (fun b z => ?_) fun _ => hk
  ·by_cases hb:b=a
   ·exact .inr ⟨_,_,if_pos hb⟩
   ·exact .inl (if_neg hb)
  ·by_cases hb:b=a
   ·have z':=(if_pos hb).symm.trans z
    cases z'
    subst hb
    exact⟨ha,by rw [List.length_map]; exact hl,vs,_,rv,ha⟩
   ·have z':=(if_neg hb).symm.trans z
    cases z'
  ·by_cases hb:b=a
   ·exact hb
   ·exact absurd (if_neg hb) z
end L2
namespace L2
open PySem PySem.Spec PyProof.Rows
end L2
/- THE LAST THEOREM (shape; LID,My.* are yours):
  My.Adr: a structure of the addresses that your layer names (classes,functions); My.Txt K t: a structure (Prop) of the equations over K;
  My.txt_mk : {K} {implicit addresses ..} (e1 : nsIn K mainGlobals "law" = some (some (.ref f))) (e2 : K.lookup f = some ⟨oc, od, .func (fnOf "law" "law" params body scope dV kV doc pm an cdv ct), sl⟩) (e3 : codeIn K cdv "law" = true) .. : ∃ t, My.Txt K t
(the tactic k_is has no namespace: write k_is) -/
namespace L2
open PySem PySem.Spec PyProof.Rows
noncomputable def inClass(s:Stmt)(j:Nat):Stmt:=match s with
 | .ClassDef _ _ _ body _ _ _ _ _ _ _=>body.getD j (.Pass ⟨0,0,0,0⟩)
 | _=>.Pass ⟨0,0,0,0⟩
noncomputable def f5u(s:Stmt):Arguments:=match s with
 | .FunctionDef _ a _ _ _ _ _ _ _ _=>a
 | _=>{ posonlyargs:=[],args:=[],vararg:=none,kwonlyargs:=[],kw_defaults:=[],kwarg:=none,defaults:=[] }
noncomputable def d2j(s:Stmt):List Stmt:=match s with
 | .FunctionDef _ _ b _ _ _ _ _ _ _=>b
 | _=>[]
noncomputable def a0q(s:Stmt):Scope:=match s with
 | .FunctionDef _ _ _ _ _ _ sc _ _ _=>sc
 | _=>{ kind:=.function,names:=[],isGenerator:=false,isCoroutine:=false }
noncomputable abbrev CX0:CXT:=fun _ _ _ _ _ _=>False
abbrev E0:XK:=fun _ _ _=>False
theorem a3p{X:Cx}:Passes CX0 X E0:=fun _ _ _ _ _ _ _ h=>h.elim
structure Fun(K:PySem.W.Frag)(x qual:Str)(st:Stmt)(f:Addr)(fd:FuncData):Prop where
 ex:∃ (oc:Value) (od:Option Addr) (kV doc pm:Value) (an:Option Addr) (cdv ct:Value) (osl:Array (Option Value)),
  fd=PySem.W.fnOf x qual (f5u st) (d2j st) (a0q st) .none kV doc pm an cdv ct/\K.lookup f=some ⟨oc,od,.func fd,osl⟩/\PySem.W.codeIn K cdv qual=true
 kp:PySem.W.keepIn K (.ref f)=true
section
variable {P:Program}{w:World}{K:PySem.W.Frag}{mg:Str->Option Value}{base:Heap}
theorem Fun.ok{x qual:Str}{st:Stmt}{f:Addr}{fd:FuncData}{N ps:List Str}{k:Nat}{sp:Sp}(F:Fun K x qual st f fd)(S:a1w N ps (a0q st))(len:∀ vs H Q E,sp vs H Q E->vs.length=ps.length)
  (hbody:∀ (cdv:Value) (A:Around) (outer:List Env) (s:Shared) (H:Hp) (vs:List V) (Q:VK) (E:XK),a5z k (A.deeper (envOfC qual (a0q st) s.heap.objs.size f cdv))->sp vs H Q E ->
   ∃ t,PSs (g7o CX0 P w K mg base N qual (a0q st) f cdv A outer s H E).nox (d2j st) t/\t { nx:=fun _ H'=>Q .non H',rt:=Q } (start N vs) H):a3q P w K mg base CX0 (k+1) f fd ps sp:=by
 obtain⟨oc,od,kV,doc,pm,an,cdv,ct,osl,rfl,lk,hcd⟩:=F.ex
 refine h7x lk hcd S len fun A outer s H vs Q E hr hsp=>?_
 obtain⟨t,h,q⟩:=hbody cdv A outer s H vs Q E hr hsp
 exact⟨t,h.nox,q⟩
theorem Fun.binds{x qual:Str}{st:Stmt}{f:Addr}{fd:FuncData}{ps:List Str}(F:Fun K x qual st f fd)
  (h:∀ (kV doc pm:Value) (an:Option Addr) (cdv ct:Value) (us:List Value),us.length=ps.length->bindArgs (PySem.W.fnOf x qual (f5u st) (d2j st) (a0q st) .none kV doc pm an cdv ct) ⟨us,[]⟩=pure (ps.zip us)):Binds K fd ps []:=by
 obtain⟨oc,od,kV,doc,pm,an,cdv,ct,osl,rfl,lk,hcd⟩:=F.ex
 exact .all (h kV doc pm an cdv ct)
theorem a4v{x qual:Str}{st:Stmt}{f:Addr}{oc:Value}{od an:Option Addr}{osl:Array (Option Value)}{kV doc pm cdv ct:Value}(l:K.lookup f=some ⟨oc,od,.func (PySem.W.fnOf x qual (f5u st) (d2j st) (a0q st) .none kV doc pm an cdv ct),osl⟩)
  (c:PySem.W.codeIn K cdv qual=true) (k:PySem.W.keepIn K (.ref f)=true):Fun K x qual st f (PySem.W.fnOf x qual (f5u st) (d2j st) (a0q st) .none kV doc pm an cdv ct):=⟨⟨oc,od,kV,doc,pm,an,cdv,ct,osl,rfl,l,c⟩,k⟩
end
section
variable {X:Cx}
end
def Same(H H':Hp):Prop:=∀ b o,H b=some o->H' b=some o
theorem Same.refl(H:Hp):Same H H:=fun _ _ h=>h
theorem Same.trans{H H1 H2:Hp}(a:Same H H1)(b:Same H1 H2):Same H H2:=fun c o h=>b c o (a c o h)
theorem Same.free{H H':Hp}(e:Same H H'){l:Addr}(h:H' l=Option.none):H l=Option.none:=by
 cases q:H l with
 | none=>rfl
 | some o =>
  rw [e l o q] at h
  cases h
theorem Same.seq{K:PySem.W.Frag}{H H':Hp}{a:Addr}{xs:List V}(e:Same H H')(h:SqL K H a xs):SqL K H' a xs:=by
 rcases h with (h | ⟨o,h⟩) | h
 ·exact .inl (.inl (e _ _ h))
 ·exact .inl (.inr ⟨o,e _ _ h⟩)
 ·exact .inr h
end L2
namespace L2
open PySem PySem.Spec PyProof.Rows
section
variable {κ:Type}[DecidableEq κ]
noncomputable def d8o(kvs:List (κ×V))(k:κ):Option V:=(kvs.find? fun kv=>decide (kv.1=k)).map (·.2)
noncomputable def putK(kvs:List (κ×V))(k:κ)(v:V):List (κ×V) :=
 if (kvs.any fun kv=>decide (kv.1=k))=true then kvs.map (fun kv=>if kv.1=k then (kv.1,v) else kv) else kvs++[(k,v)]
noncomputable def dropK(kvs:List (κ×V))(k:κ):List (κ×V):=kvs.filter fun kv=>decide (kv.1≠k)
theorem d8p{p:κ×V}{r:List (κ×V)}{k:κ}(e:p.1=k):d8o (p :: r) k=some p.2:=by simp [d8o,List.find?_cons,e]
theorem d3p{p:κ×V}{r:List (κ×V)}{k:κ}(e:¬ p.1=k):d8o (p :: r) k=d8o r k:=by simp [d8o,List.find?_cons,e]
theorem f5v(k:κ):∀ kvs:List (κ×V),(kvs.any fun kv=>decide (kv.1=k))=(d8o kvs k).isSome
 | []=>rfl
 | p :: r=>by
  rw [List.any_cons]
  by_cases e:p.1=k
  ·simp only [d8p e,decide_eq_true e,Bool.true_or,Option.isSome_some]
  ·rw [d3p e,decide_eq_false e,Bool.false_or]; exact f5v k r
theorem d2k(kvs:List (κ×V))(k:κ)(v:V):(putK kvs k v).length<=kvs.length+1:=by
 unfold putK
 split
 ·rw [List.length_map]; omega
 ·rw [List.length_append,List.length_cons,List.length_nil]; omega
theorem h3c{kvs:List (κ×V)}{k:κ}(v:V)(h:d8o kvs k=none):putK kvs k v=kvs++[(k,v)]:=by
 unfold putK
 rw [f5v,h]
 exact if_neg (by decide)
theorem g1t.d9j{o:Option V}{u:Option Value}(r:g1t o u):o.isSome=u.isSome:=by
 cases o with
 | none=>cases u with
  | none=>rfl
  | some _=>exact (show False from r).elim
 | some _=>cases u with
  | none=>exact (show False from r).elim
  | some _=>rfl
theorem KV.val{kvs:List (κ×V)}{vs:List (κ×Value)}(r:KV kvs vs)(k:κ):g1t (d8o kvs k) (valueAt vs k):=by
 unfold KV at r
 induction r with
 | nil=>exact True.intro
 | @cons p q ps qs h t ih =>
  obtain⟨h1,h2⟩:=h
  by_cases e:p.1=k
  ·have e':q.1=k:=h1.symm.trans e
   have b:valueAt (q :: qs) k=some q.2:=by simp [valueAt,List.find?_cons,e']
   rw [d8p e,b]; exact h2
  ·have e':¬ q.1=k:=fun z=>e (h1.trans z)
   have b:valueAt (q :: qs) k=valueAt qs k:=by simp [valueAt,List.find?_cons,e']
   rw [d3p e,b]; exact ih
theorem KV.any{kvs:List (κ×V)}{vs:List (κ×Value)}(r:KV kvs vs)(k:κ):(kvs.any fun kv=>decide (kv.1=k))=vs.any fun kv=>decide (kv.1=k):=by
 unfold KV at r
 induction r with
 | nil=>rfl
 | cons h t ih=>rw [List.any_cons,List.any_cons,ih,h.1]
theorem KV.repl{kvs:List (κ×V)}{vs:List (κ×Value)}(r:KV kvs vs)(k:κ){y:V}{u:Value}(ry:RelV y u) :
  KV (kvs.map fun kv=>if kv.1=k then (kv.1,y) else kv) (vs.map fun kv=>if kv.1=k then (kv.1,u) else kv):=by
 unfold KV at r ⊢
 induction r with
 | nil=>exact .nil
 | @cons p q ps qs h t ih =>
  rw [List.map_cons,List.map_cons]
  refine .cons ?_ ih
  obtain⟨h1,h2⟩:=h
  by_cases e:p.1=k
  ·rw [if_pos e,if_pos (h1.symm.trans e)]; exact⟨h1,ry⟩
  ·rw [if_neg e,if_neg (fun z=>e (h1.trans z))]; exact⟨h1,h2⟩
theorem KV.put{kvs:List (κ×V)}{vs:List (κ×Value)}(r:KV kvs vs)(k:κ){y:V}{u:Value}(ry:RelV y u):KV (putK kvs k y) (stored vs k u):=by
 unfold putK stored
 rw [r.any k]
 by_cases e:(vs.any fun kv=>decide (kv.1=k))=true
 ·rw [if_pos e,if_pos e]; exact r.repl k ry
 ·rw [if_neg e,if_neg e]; exact Paired.snoc r ⟨rfl,ry⟩
theorem KV.length{kvs:List (κ×V)}{vs:List (κ×Value)}(r:KV kvs vs):kvs.length=vs.length:=Paired.length r
end
theorem g8u{P:Program}{w:World}{k:Key}{u:Value}(r:RelV (kV k) u):(b4k P w).is k u=true:=by
 cases k with
 | inl i=>obtain⟨t,e⟩:=(show ∃ t,u=Value.int i t from r); subst e; exact g1w P w i t
 | inr x=>obtain⟨t,e⟩:=(show ∃ t,u=Value.str x t from r); subst e; exact g1x P w x t
theorem f9s{P:Program}{w:World}:∀ {ks:List Key} {us:List Value},Vals (ks.map kV) us->ItemsAre (b4k P w) ks us
 | [],_,r=>by rw [List.map_nil] at r; cases r; exact .nil
 | k :: ks,_,r=>by
  rw [List.map_cons] at r
  cases r with
  | cons h t=>exact .cons (g8u h) (f9s t)
noncomputable abbrev KT(H:Hp):List (List Key×V)->List (List Key×Addr×Value)->Prop:=Paired fun p q=>p.1=q.1/\H q.2.1=some (.tup (p.1.map kV))/\RelV p.2 q.2.2
theorem KT.val{H:Hp}{kvs:List (List Key×V)}{xs:List (List Key×Addr×Value)}(r:KT H kvs xs)(k:List Key):g1t (d8o kvs k) ((atKey xs k).map (·.2)):=by
 induction r with
 | nil=>exact True.intro
 | @cons p q ps qs h t ih =>
  obtain⟨h1,_,h2⟩:=h
  by_cases e:p.1=k
  ·have e':q.1=k:=h1.symm.trans e
   have b:atKey (q :: qs) k=some q.2:=by simp [atKey,List.find?_cons,e']
   rw [d8p e,b]; exact h2
  ·have e':¬ q.1=k:=fun z=>e (h1.trans z)
   have b:atKey (q :: qs) k=atKey qs k:=by simp [atKey,List.find?_cons,e']
   rw [d3p e,b]; exact ih
theorem KT.repl{H:Hp}{kvs:List (List Key×V)}{xs:List (List Key×Addr×Value)}(r:KT H kvs xs)(k:List Key){y:V}{u:Value}(ry:RelV y u) :
  KT H (kvs.map fun kv=>if kv.1=k then (kv.1,y) else kv) (xs.map (putAt k u)):=by
 induction r with
 | nil=>exact .nil
 | @cons p q ps qs h t ih =>
  rw [List.map_cons,List.map_cons]
  refine .cons ?_ ih
  obtain⟨h1,h2,h3⟩:=h
  unfold putAt
  by_cases e:p.1=k
  ·rw [if_pos e,if_pos (h1.symm.trans e)]; exact⟨h1,h2,ry⟩
  ·rw [if_neg e,if_neg (fun z=>e (h1.trans z))]; exact⟨h1,h2,h3⟩
theorem KT.put{H:Hp}{kvs:List (List Key×V)}{xs:List (List Key×Addr×Value)}(r:KT H kvs xs)(k:List Key){b:Addr}{y:V}{u:Value}(hb:H b=some (.tup (k.map kV)))(ry:RelV y u) :
  KT H (putK kvs k y) (storedH xs k b u):=by
 have e:(kvs.any fun kv=>decide (kv.1=k))=(atKey xs k).isSome:=by
  rw [f5v,(r.val k).d9j,Option.isSome_map]
 unfold putK storedH
 rw [e]
 by_cases q:(atKey xs k).isSome=true
 ·rw [if_pos q,if_pos q]; exact r.repl k ry
 ·rw [if_neg q,if_neg q]; exact Paired.snoc r ⟨rfl,hb,ry⟩
theorem KT.keeps{H H':Hp}{kvs:List (List Key×V)}{xs:List (List Key×Addr×Value)}(r:KT H kvs xs)(ht:∀ b ys,H b=some (.tup ys)->H' b=some (.tup ys)):KT H' kvs xs :=
 Paired.i7c r fun _ _ z=>⟨z.1,ht _ _ z.2.1,z.2.2⟩
section
variable {P:Program}{w:World}{H:Hp}{h:Heap}{a:Addr}
theorem i2y{u:HO}(ok:HOk P w H h)(e:Rd H a u):b2m P w H h a u:=e.ok ok
theorem h3d{kvs:List (Key×V)}(ok:HOk P w H h)(e:Rd H a (.dK kvs)):kvs.length<=sizeLine/\(a == sysModules)=false/\∃ vs,KV kvs vs/\h.DictOf (b4k P w) a vs :=
 show b2m P w H h a (.dK kvs) from i2y ok e
theorem i3a{kvs:List (Key×V)}(ok:HOk P w H h)(e:H a=some (.dK kvs)):kvs.length<=sizeLine/\(a == sysModules)=false/\∃ vs,KV kvs vs/\h.DictOf (b4k P w) a vs:=h3d ok (.inl e)
theorem g4u{ks:List Key}(ok:HOk P w H h)(e:H a=some (.tup (ks.map kV))):(tupleKind (b4k P w)).is h ks a:=by
 obtain⟨_,its,r,o,h1,h2,n,h3⟩:=(show b2m P w H h a (.tup (ks.map kV)) from ok a _ e)
 exact⟨o,its.toArray,n,h1,h2,h3,by simpa using f9s r⟩
theorem h3e{kvs:List (List Key×V)}(ok:HOk P w H h)(e:Rd H a (.dT kvs)):kvs.length<=sizeLine/\(a == sysModules)=false /\
  ∃ xs,KT H kvs xs/\h.DictOfH (tupleKind (b4k P w)) a xs:=by
 obtain⟨z,y,xs,r,o,es,ep,h1,h2,h3,h4,h5⟩:=(show b2m P w H h a (.dT kvs) from i2y ok e)
 refine⟨z,y,xs,r,o,es,ep,h1,h2,h3,h4,fun x hx=>?_,h5⟩
 have all:∀ {l:List (List Key×V)} {m:List (List Key×Addr×Value)},KT H l m->∀ x∈m,(tupleKind (b4k P w)).is h x.1 x.2.1:=by
  intro l m q
  induction q with
  | nil=>intro x hx; exact nomatch hx
  | @cons p q ps qs hq t ih =>
   intro x hx
   rcases List.mem_cons.mp hx with e | hx
   ·subst e
    exact g4u ok (by rw [<- hq.1]; exact hq.2.1)
   ·exact ih x hx
 exact all r x hx
theorem i7p{kvs:List (List Key×V)}(ok:HOk P w H h)(e:H a=some (.dT kvs)):kvs.length<=sizeLine/\(a == sysModules)=false /\
  ∃ xs,KT H kvs xs/\h.DictOfH (tupleKind (b4k P w)) a xs:=h3e ok (.inl e)
end
def g8v(H:Hp)(a:Addr)(y:V)(r:Option V):Prop :=
 (∃ kvs k,Rd H a (.dK kvs)/\y=kV k/\r=d8o kvs k)\/∃ kvs k b,Rd H a (.dT kvs)/\y = .ref b/\H b=some (.tup (k.map kV))/\r=d8o kvs k
def i1f(H:Hp)(a:Addr)(y v:V)(H':Hp):Prop :=
 (∃ kvs k,H a=some (.dK kvs)/\y=kV k/\kvs.length < sizeLine/\H'=upd H a (.dK (putK kvs k v))) \/
 ∃ kvs k b,H a=some (.dT kvs)/\y = .ref b/\H b=some (.tup (k.map kV))/\kvs.length < sizeLine/\H'=upd H a (.dT (putK kvs k v))
theorem g8v.k{H:Hp}{a:Addr}{kvs:List (Key×V)}{k:Key}(e:H a=some (.dK kvs)):g8v H a (kV k) (d8o kvs k):=.inl ⟨kvs,k,.inl e,rfl,rfl⟩
theorem g8v.t{H:Hp}{a b:Addr}{kvs:List (List Key×V)}{k:List Key}(e:H a=some (.dT kvs))(eb:H b=some (.tup (k.map kV))):g8v H a (.ref b) (d8o kvs k):=.inr ⟨kvs,k,b,.inl e,rfl,eb,rfl⟩
theorem i1f.k{H:Hp}{a:Addr}{kvs:List (Key×V)}{k:Key}{v:V}(e:H a=some (.dK kvs))(hl:kvs.length < sizeLine):i1f H a (kV k) v (upd H a (.dK (putK kvs k v))):=.inl ⟨kvs,k,e,rfl,hl,rfl⟩
theorem i1f.t{H:Hp}{a b:Addr}{kvs:List (List Key×V)}{k:List Key}{v:V}(e:H a=some (.dT kvs))(eb:H b=some (.tup (k.map kV)))(hl:kvs.length < sizeLine) :
  i1f H a (.ref b) v (upd H a (.dT (putK kvs k v))):=.inr ⟨kvs,k,b,e,rfl,eb,hl,rfl⟩
section
variable {X:Cx}{pins:List (Addr×Obj)}{σ:St}{H:Hp}{s:Shared}{a:Addr}{y v:V}{u r:Value}{o:Option V}{A:Around}{E:Value->Shared->Prop}
theorem Inv.big(I:Inv X pins σ H s):sysModules < s.heap.objs.size:=by
 have h:mainGlobals < s.heap.objs.size:=(I.mod.glob.keeps I.bk).lt
 exact Nat.lt_trans (by decide) h
theorem g8w{Q:Value->Shared->Prop}(hu:A.units+1 < cLine)(I:Inv X pins σ H s)(g:g8v H a y (some v))(ry:RelV y u)(h:∀ w' s',Inv X pins σ H s'->RelV v w'->Q w' s') :
  wpAny (model X.prog X.w) A (getItem (.ref a) u) Q E s:=by
 rcases g with ⟨kvs,k,e,ey,l⟩ | ⟨kvs,k,b,e,ey,eb,l⟩
 ·subst ey
  obtain⟨z,hd,vs,rel,dd⟩:=h3d I.hok e
  obtain⟨w',hw,rw'⟩:=g1t.some_of (v:=v) (o:=valueAt vs k) (by rw [l]; exact rel.val k)
  exact wpAny_getItem_of (g8u ry) dd.mapOf hw (h w' _ (I.tok _) rw')
 ·subst ey
  cases (show u=Value.ref b from ry)
  obtain⟨z,hd,xs,rel,dd⟩:=h3e I.hok e
  obtain⟨w',hw,rw'⟩:=g1t.some_of (v:=v) (o:=(atKey xs k).map (·.2)) (by rw [l]; exact rel.val k)
  obtain⟨p,hp,hp2⟩:=Option.map_eq_some_iff.mp hw
  refine wpAny_getItem_heap (tupleKind_room_in1 hu) (g4u I.hok eb) dd hp ?_
  rw [hp2]
  exact h w' _ (I.tok _) rw'
theorem h8d{Q:Value->Shared->Prop}(hu:A.units+1 < cLine)(I:Inv X pins σ H s)(g:g8v H a y o)(ry:RelV y u)(h:∀ s',Inv X pins σ H s'->Q (.bool (!o.isSome)) s') :
  wpAny (model X.prog X.w) A (compareOp .NotIn u (.ref a)) Q E s:=by
 rcases g with ⟨kvs,k,e,ey,l⟩ | ⟨kvs,k,b,e,ey,eb,l⟩
 ·subst ey
  obtain⟨z,hd,vs,rel,dd⟩:=h3d I.hok e
  refine wpAny_notIn_of (g8u ry) hd dd.mapOf ?_
  rw [<- (rel.val k).d9j,<- l]
  exact h _ (I.tok _)
 ·subst ey
  cases (show u=Value.ref b from ry)
  obtain⟨z,hd,xs,rel,dd⟩:=h3e I.hok e
  refine wpAny_notIn_heap (tupleKind_room_in1 hu) (g4u I.hok eb) hd dd ?_
  have q:=(rel.val k).d9j
  rw [Option.isSome_map] at q
  rw [<- q,<- l]
  exact h _ (I.tok _)
theorem g2c{h':Heap}{t':Nat}{ob:HO}(I:Inv X pins σ H s)(mu:Mut (H a))(hs:Heap.SameBut a s.heap h')(he:∃ q,h'.get? a=some q)(new:b2m X.prog X.w (upd H a ob) h' a ob) :
  Inv X pins σ (upd H a ob) { s with heap:=h',toks:=t' } :=
 I.write (x:=a) (e:=a) mu (.inl rfl) (fun b q hb z=>(hs.2 b hb).trans z) he new
theorem h5r{P:Program}{w:World}{H':Hp}{h':Heap}{kvs:List (Key×V)}{vs:List (Key×Value)}(z:kvs.length<=sizeLine)(hd:(a == sysModules)=false)(rel:KV kvs vs)(dd:h'.DictOf (b4k P w) a vs) :
  b2m P w H' h' a (.dK kvs):=⟨z,hd,vs,rel,dd⟩
theorem g8x{H':Hp}{Q:Unit->Shared->Prop}(hu:A.units+1 < cLine)(I:Inv X pins σ H s)(g:i1f H a y v H')(ry:RelV y u)(rv:RelV v r)(h:∀ s',Inv X pins σ H' s'->Q () s') :
  wpAny (model X.prog X.w) A (setItem (.ref a) u r) Q E s:=by
 rcases g with ⟨kvs,k,e,ey,l,eH⟩ | ⟨kvs,k,b,e,ey,eb,l,eH⟩
 ·subst ey eH
  obtain⟨z,hd,vs,rel,dd⟩:=i3a I.hok e
  have hz:vs.length<=sizeLine:=by rw [<- rel.length]; exact z
  have hl:(putK kvs k v).length<=sizeLine:=by have:=d2k kvs k v; omega
  refine wpAny_setItem_pairs (hsz:=hz) (g8u ry) dd fun h' dd' hs=>h _ ?_
  have he:∃ q,h'.get? a=some q:=let ⟨q,_,_,hq,_⟩:=dd'; ⟨q,hq⟩
  exact g2c I (by rw [e]; exact True.intro) hs he (h5r hl hd (rel.put k rv) dd')
 ·subst ey eH
  cases (show u=Value.ref b from ry)
  obtain⟨z,hd,xs,rel,dd⟩:=i7p I.hok e
  have hz:xs.length<=sizeLine:=by rw [<- Paired.length rel]; exact z
  have hl:(putK kvs k v).length<=sizeLine:=by have:=d2k kvs k v; omega
  refine wpAny_setItem_heap (hsz:=hz) (tupleKind_room_in1 hu) (g4u I.hok eb) dd fun h' dd' hs=>h _ ?_
  obtain⟨q,es,ep,hq,h2,h3,h4,_,h5⟩:=dd'
  refine g2c I (by rw [e]; exact True.intro) hs ⟨q,hq⟩ ⟨hl,hd,_,(rel.put k eb rv).keeps fun c ys ec=>?_,q,es,ep,hq,h2,h3,h4,h5⟩
  rw [a6u (i7b ec e (fun z=>nomatch z))]
  exact ec
end
section
variable {X:Cx}{pins:List (Addr×Obj)}{σ:St}{H:Hp}{s:Shared}{a:Addr}{kvs:List (Key×V)}{k:Key}{u:Value}{A:Around}{E:Value->Shared->Prop}
end
def j0j(i:Expr):Prop:=∀ ov iv,subscripted i false ov iv=operate [ov,iv] (getItem ov iv)
theorem h8e{prog:Program}{w:World}{A:Around}{E:Value->Shared->Prop}{s:Shared}{env:Env}{value slice:Expr}{pos:Pos}{T id:String}{Q:Value->Shared->Prop}
  (hl : typeLookup (.type T) "__getitem__" = pure (some (.builtin id))) (hs : j0j slice)
  (h:wpAny (model prog w) A (eval value env) (fun o s₁=>wpAny (model prog w) A (eval slice env) (fun i s₂=>s₂.TypeIs o T/\wpAny (model prog w) A (getItem o i) Q E s₂) E s₁) E s) :
  wpAny (model prog w) A (eval (.Subscript value slice pos) env) Q E s:=by
 refine Subscript_ (wpAny_mono h (fun o s₁ h₁=>wpAny_mono h₁ (fun i s₂ h₂=>?_) fun _ _ x=>x) fun _ _ x=>x)
 obtain⟨hT,h₂⟩:=h₂
 unfold subscriptTail
 refine wpAny_bind ?_
 rw [getitemInPython_of_ne hT.not_modules]
 refine wpAny_bind (wpAny_specialOf hT hl ?_)
 have fin:wpAny (model prog w) A (subscripted slice false o i) (fun r s₃=>wpAny (model prog w) A (letTemporaryGo value o r >>= fun _=>pure r) Q E s₃) E s₂:=by
  rw [hs o i]
  exact wpAny_operating (wpAny_mono h₂ (fun r s₃ h₃=>wpAny_bind (wpAny_letTemporaryGo (wpAny_pure h₃))) fun _ _ x=>x)
 first
  | exact wpAny_pure (wpAny_bind fin)
  | exact wpAny_bind (wpAny_pure (wpAny_bind fin))
  | exact wpAny_bind fin
theorem g2d {X : Cx} {pins : List (Addr × Obj)} {σ : St} {H : Hp} {s : Shared} {a : Addr} {y : V} {o : Option V} (I : Inv X pins σ H s) (g : g8v H a y o) : s.TypeIs (.ref a) "dict" := by
 rcases g with ⟨kvs,k,e,_,_⟩ | ⟨kvs,k,b,e,_,_,_⟩
 ·obtain⟨_,_,vs,_,dd⟩:=h3d I.hok e
  exact dd.typeIs
 ·obtain⟨_,_,xs,_,dd⟩:=h3e I.hok e
  exact dd.typeIs
section
variable {X:Cx}{o i e value:Expr}{pos pos' tpos:Pos}{td ty tv:TE}
end
theorem g4v {P : Program} {w : World} {H : Hp} (h : Heap) (hb : sysModules < h.objs.size) : b2m P w H (h.push { cls := .type "dict", data := .dict #[] }) h.objs.size (.dK []) :=
 ⟨Nat.zero_le _,beq_eq_false_iff_ne.mpr (Ne.symm (Nat.ne_of_lt hb)),[],.nil,Heap.DictOf.new h⟩
def i3b:TE:=fun _ H Q=>∀ p,H p=none->Q (.ref p) (upd H p (.dK []))
section
variable {X:Cx}{pos:Pos}
theorem h3f:PE X (.Dict [] [] pos) i3b:=fun pins s σ H Q I h =>
 wpAny_Dict_empty ⟨.ref s.heap.objs.size,_,I.laid (a:=s.heap.objs.size) (o:=.dK []) (t':=s.toks) (fun _ _ q=>Heap.get?_push_of_some _ q) (Nat.le_refl _) (g4v s.heap I.big),rfl,h _ (I.hok.fresh (Nat.le_refl _))⟩
end
noncomputable def h5s:List (TE×TE)->St->Hp->(List (V×V)->Hp->Prop)->Prop
 | [],_,H,Q=>Q [] H
 | (tk,tv) :: r,σ,H,Q=>tk σ H fun x H1=>tv σ H1 fun y H2=>h5s r σ H2 fun ps H3=>Q ((x,y) :: ps) H3
noncomputable abbrev VV:List (V×V)->List (Value×Value)->Prop:=Paired fun p q=>RelV p.1 q.1/\RelV p.2 q.2
def PPs(X:Cx)(pos:Pos)(keys:List (Option Expr))(values:List Expr)(trs:List (TE×TE)):Prop :=
 ∀ (pins:List (Addr×Obj)) (s:Shared) (σ:St) (H:Hp) (Q:List (V×V)->Hp->Prop),Inv X pins σ H s->h5s trs σ H Q ->
  wpAny (model X.prog X.w) X.A (evalPairs (pairTrees keys values X.env pos)) (fun vs s'=>∃ ps H',Inv X pins σ H' s'/\VV ps vs/\Q ps H') X.xe s
theorem h8f{X:Cx}{pos:Pos}:PPs X pos [] [] []:=fun pins s σ H Q I h=>pairTrees_nil_walk ⟨[],H,I,.nil,h⟩
theorem h3g{X:Cx}{pos:Pos}{k v:Expr}{ks:List (Option Expr)}{vs:List Expr}{tk tv:TE}{trs:List (TE×TE)}(hk:PE X k tk)(hv:PE X v tv)(hr:PPs X pos ks vs trs) :
  PPs X pos (some k :: ks) (v :: vs) ((tk,tv) :: trs):=fun pins s σ H Q I h =>
 pairTrees_cons_walk (thn (hk pins s σ H _ I h) fun u s1 ⟨x,H1,I1,rx,q1⟩=>thn (hv pins s1 σ H1 _ I1 q1) fun w2 s2 ⟨y,H2,I2,ry,q2⟩ =>
  thn (hr pins s2 σ H2 _ I2 q2) fun ws s3 ⟨ps,H3,I3,rel,q3⟩=>⟨(x,y) :: ps,H3,I3,.cons ⟨rx,ry⟩ rel,q3⟩)
noncomputable def g4w(kvs more:List (Key×V)):List (Key×V):=more.foldl (fun acc kv=>putK acc kv.1 kv.2) kvs
theorem KV.merge:∀ {more:List (Key×V)} {rs:List (Key×Value)} {kvs:List (Key×V)} {vs:List (Key×Value)},KV more rs->KV kvs vs->KV (g4w kvs more) (merged vs rs):=by
 intro more rs kvs vs r
 unfold KV at r
 induction r generalizing kvs vs with
 | nil=>intro q; exact q
 | @cons p q ps qs h t ih =>
  intro r0
  have e:KV (putK kvs p.1 p.2) (stored vs q.1 q.2):=by
   have:=r0.put p.1 h.2
   rw [<- h.1]; exact this
  exact ih e
theorem d3q:∀ (more kvs:List (Key×V)),(g4w kvs more).length<=kvs.length+more.length
 | [],kvs=>by show kvs.length<=kvs.length+0; omega
 | p :: r,kvs=>by
  have h1:=d3q r (putK kvs p.1 p.2)
  have h2:=d2k kvs p.1 p.2
  show (g4w (putK kvs p.1 p.2) r).length<=_
  rw [List.length_cons]; omega
theorem f4k{P:Program}{w:World}:∀ {kvs:List (Key×V)} {ws:List (Value×Value)},VV (kvs.map fun kv=>(kV kv.1,kv.2)) ws->∃ rs,Carries (b4k P w) ws rs/\KV kvs rs
 | [],_,r=>by rw [List.map_nil] at r; cases r; exact⟨[],True.intro,.nil⟩
 | p :: kvs,_,r=>by
  rw [List.map_cons] at r
  cases r with
  | @cons a b as bs h t =>
   obtain⟨rs,c,q⟩:=f4k (P:=P) (w:=w) t
   obtain⟨b1,b2⟩:=b
   exact⟨(p.1,b2) :: rs,⟨g8u h.1,rfl,c⟩,.cons ⟨rfl,h.2⟩ q⟩
structure M1(X:Cx)(o:Expr)(m:Str)(apos:Pos)(e:Expr)(cpos:Pos):Prop where
 base:attributeBase o m X.env (eval o X.env)=eval o X.env
 few:((backTo cpos (starEach [e] X.env)).all (fun x=>!x.1) && (backToKw cpos (keywordEach [] X.env)).all (fun x=>x.1.isSome)
  && decide (([e] : List Expr).length+([] : List Keyword).length+(if ([] : List Keyword).isEmpty then 0 else 1) < 30))=true
 line:(apos.endLine == cpos.line)=true
 trees:backTo cpos (starEach [e] X.env) = [(false,eval e X.env)]
structure M2(X:Cx)(o:Expr)(m:Str)(apos:Pos)(e f:Expr)(cpos:Pos):Prop where
 base:attributeBase o m X.env (eval o X.env)=eval o X.env
 few:((backTo cpos (starEach [e,f] X.env)).all (fun x=>!x.1) && (backToKw cpos (keywordEach [] X.env)).all (fun x=>x.1.isSome)
  && decide (([e,f] : List Expr).length+([] : List Keyword).length+(if ([] : List Keyword).isEmpty then 0 else 1) < 30))=true
 line:(apos.endLine == cpos.line)=true
 trees:backTo cpos (starEach [e,f] X.env) = [(false,eval e X.env),(false,eval f X.env)]
section
variable {X:Cx}{pins:List (Addr×Obj)}{σ:St}{H:Hp}{s:Shared}{a:Addr}{y d:V}{u r:Value}{o:Option V}{A:Around}{E:Value->Shared->Prop}
end
section
variable {X:Cx}{o e f:Expr}{apos cpos:Pos}{td ty tx:TE}
end
section
variable {X:Cx}{pins:List (Addr×Obj)}{σ:St}{H:Hp}{s:Shared}{a:Addr}{kvs:List (Key×V)}{A:Around}{E:Value->Shared->Prop}
end
section
variable {X:Cx}{pins:List (Addr×Obj)}{σ:St}{H:Hp}{s:Shared}{a:Addr}{y:V}{u:Value}{A:Around}{E:Value->Shared->Prop}
end
section
variable {X:Cx}
end
section
variable {κ:Type}[DecidableEq κ]
end
end L2
namespace L2
open PySem PySem.Spec PyProof.Rows
open PySem.Builtin.Int (intBits)
section
variable {X:Cx}{a b c:Expr}{ta tb tc:TE}{pos:Pos}
theorem h8g:OpR X (binaryOp .Mult) (rI IntMulOk fun i j=>.int (i*j)):=opI fun _ _ _ _ _ _ _ hc q=>mul_int q hc
def CFd(i j:Int):Prop:=j≠0/\intBits j<=9000
theorem g2e{j:Int}(h:j≠0)(hb:intBits j<=9000):j.natAbs.log2 < 9000:=by
 have h1:=intBits_le_iff.mp hb
 exact (Nat.log2_lt (by omega)).mpr h1
theorem h3h:OpR X (binaryOp .FloorDiv) (rI CFd fun i j=>.int (i.fdiv j)):=opI fun i j _ _ _ _ _ hc q =>
 floordiv_int hc.1 q (.inl (PyProof.noPylong_of_log2 (g2e hc.1 hc.2)))
inductive Ty where
 | non | bl | int | str | lst | tup | dct
 deriving DecidableEq
noncomputable def Ty.nm:Ty->String
 | .non => "NoneType" | .bl => "bool" | .int => "int" | .str => "str" | .lst => "list" | .tup => "tuple" | .dct => "dict"
noncomputable def g4x(H:Hp):V->Option Ty
 | .non=>some .non
 | .bl _=>some .bl
 | .int _=>some .int
 | .str _=>some .str
 | .ref a=>match H a with
  | some (.lst _)=>some .lst
  | some (.frz _ (.lst _))=>some .lst
  | some (.tup _)=>some .tup
  | some (.dK _)=>some .dct
  | some (.dT _)=>some .dct
  | _=>none
 | _=>none
noncomputable def h5t(t T:Ty):Bool:=decide (t=T) || (decide (t = .bl) && decide (T = .int))
theorem h8h{K:PySem.W.Frag}{H:Hp}{x:V}{t:Ty}(h:g4x H x=some t):g6a K H x (.type t.nm):=by
 cases x with
 | non=>cases h; exact .non
 | bl b=>cases h; exact .bl b
 | int i=>cases h; exact .int i
 | str s=>cases h; exact .str s
 | byt b=>cases h
 | flt b=>cases h
 | ty n=>cases h
 | ref a =>
  unfold g4x at h
  cases e:H a with
  | none=>simp [e] at h
  | some o =>
   cases o with
   | lst xs=>simp [e] at h; subst h; exact .lst e
   | tup xs=>simp [e] at h; subst h; exact .tup e
   | dK kvs=>simp [e] at h; subst h; exact .dK e
   | dT kvs=>simp [e] at h; subst h; exact .dT e
   | frz ob u =>
    cases u with
    | lst xs=>simp [e] at h; subst h; exact .frz e
    | _=>simp [e] at h
   | _=>simp [e] at h
theorem i3c{K:PySem.W.Frag}(t T:Ty):PySem.W.kitOne K (.type t.nm) (.type T.nm)=some (h5t t T):=by
 cases t <;> cases T <;> rfl
noncomputable def rIsT(T:Ty):List V->Hp->VK->Prop:=fun xs H Q=>match xs with
 | [x,.ty n]=>n=T.nm/\∃ t,g4x H x=some t/\Q (.bl (h5t t T)) H
 | _=>False
theorem b4h (T : Ty) : c6r X (.builtin "isinstance") (rIsT T) := by
 intro pins s σ H xs us Q I r h
 match xs,r,h with
 | [x,.ty n],r,h =>
  obtain⟨rfl,t,ht,q⟩:=h
  obtain⟨u,v,rfl,r1,r2⟩:=vals2 r
  cases (show v=Value.type T.nm from r2)
  exact d9g I r1 (h8h ht) (i3c t T) fun tk=>⟨.bl _,H,I.tok tk,rfl,q⟩
mutual
inductive f8v(K:PySem.W.Frag)(H:Hp):V->PyData->Prop
 | non:f8v K H .non .none
 | bl (b:Bool):f8v K H (.bl b) (.bool b)
 | int (i:Int):f8v K H (.int i) (.int i)
 | str (x:Str):f8v K H (.str x) (.str x)
 | lst {a:Addr} {xs:List V} {ds:List PyData}:SqL K H a xs->c8y K H xs ds->f8v K H (.ref a) (.list ds)
 | tup {a:Addr} {xs:List V} {ds:List PyData}:SqT K H a xs->c8y K H xs ds->f8v K H (.ref a) (.tuple ds)
inductive c8y(K:PySem.W.Frag)(H:Hp):List V->List PyData->Prop
 | nil:c8y K H [] []
 | cons {x:V} {xs:List V} {d:PyData} {ds:List PyData}:f8v K H x d->c8y K H xs ds->c8y K H (x :: xs) (d :: ds)
end
section
variable {pins:List (Addr×Obj)}{σ:St}{H:Hp}{s:Shared}
mutual
theorem Inv.reads(I:Inv X pins σ H s):∀ {v:V} {d:PyData} {u:Value},f8v X.K H v d->RelV v u->∃ as,Reads s.heap u d as
 | _,_,_,.non,r=>by cases (show _=Value.none from r); exact⟨_,.none⟩
 | _,_,_,.bl b,r=>by cases (show _=Value.bool b from r); exact⟨_,.bool b⟩
 | _,_,_,.int i,r=>by obtain⟨t,rfl⟩:=r; exact⟨_,.int i t⟩
 | _,_,_,.str x,r=>by obtain⟨t,rfl⟩:=r; exact⟨_,.str x t⟩
 | _,_,_,.lst (a:=a) hs ha,r=>by
  cases (show _=Value.ref a from r)
  obtain⟨its,rv,⟨o,n,e,c,_,dd⟩,_⟩:=I.list hs
  obtain⟨as,q⟩:=Inv.readsAll I ha rv
  exact⟨_,.list e c dd (by simpa using q)⟩
 | _,_,_,.tup (a:=a) hs ha,r=>by
  cases (show _=Value.ref a from r)
  obtain⟨its,rv,⟨o,e,c,n,dd⟩,_⟩:=I.tuple hs
  obtain⟨as,q⟩:=Inv.readsAll I ha rv
  exact⟨_,.tuple e c dd (by simpa using q)⟩
theorem Inv.readsAll(I:Inv X pins σ H s):∀ {vs:List V} {ds:List PyData} {us:List Value},c8y X.K H vs ds->Vals vs us->∃ as,ReadsAll s.heap us ds as
 | _,_,_,.nil,.nil=>⟨_,.nil⟩
 | _,_,_,.cons h t,.cons r q=>by
  obtain⟨as,x⟩:=Inv.reads I h r
  obtain⟨bs,y⟩:=Inv.readsAll I t q
  exact⟨_,.cons x y⟩
end
end
def i6j(K:PySem.W.Frag):R2:=fun x y H Q=>∃ d e,f8v K H x d/\f8v K H y e/\SeqAt.shaped d=true/\SeqAt.shaped e=true/\Q (.bl (PyData.eqv d e)) H
def i3d(K:PySem.W.Frag):R2:=fun x y H Q=>∃ d e,f8v K H x d/\f8v K H y e/\SeqAt.shaped d=true/\SeqAt.shaped e=true/\Q (.bl (!PyData.eqv d e)) H
theorem i3e(hu:X.A.units+64 < cLine):OpR X (compareOp .Eq) (i6j X.K):=by
 intro pins s σ H x y v u Q I rx ry h
 obtain⟨d,e,hd,he,sd,se,q⟩:=h
 obtain⟨as,ra⟩:=I.reads hd rx
 obtain⟨bs,rb⟩:=I.reads he ry
 exact eq_dataH ra rb sd se hu ⟨.bl _,H,I,rfl,q⟩
theorem i3f(hu:X.A.units+64 < cLine):OpR X (compareOp .NotEq) (i3d X.K):=by
 intro pins s σ H x y v u Q I rx ry h
 obtain⟨d,e,hd,he,sd,se,q⟩:=h
 obtain⟨as,ra⟩:=I.reads hd rx
 obtain⟨bs,rb⟩:=I.reads he ry
 exact ne_dataH ra rb sd se hu ⟨.bl _,H,I,rfl,q⟩
end
noncomputable def Itr3(lo c:Int)(n:Nat):It:=⟨fun i _=>i < n,fun i H x H'=>H'=H/\x = .int (lo+i*c),fun i _=>n<=i⟩
noncomputable def rngN(lo hi c:Int):Nat:=(Builtin.Range.rangeSize lo hi c).toNat
section
variable {X:Cx}{tg:Expr}
end
def i6k(J:It)(g:TG)(tb:TS)(D:Ends)(σ:St)(H:Hp):Prop:=∃ W:Nat->Nat->St->Hp->Prop,(∃ m,W 0 m σ H)/\∀ i m σ H,W i m σ H ->
 (J.stop i H/\D.nx σ H)\/(J.go i H/\∃ N:St->Hp->Prop,(∀ σ' H',N σ' H'->∃ m',m' < m/\W (i+1) m' σ' H')/\∀ x H',J.yld i H x H'->g x σ H' fun σ2 H2=>tb { D with nx:=N,ct:=N,bk:=D.nx } σ2 H2)
def i7q(wi:TI)(g:TG)(tb:TS):TS:=fun D σ H=>wi σ H fun J H1=>i6k J g tb D σ H1
theorem d2l{X:Cx}{tg iter:Expr}{body:List Stmt}{wi:TI}{g:TG}{tb:TS}{pos:Pos}(hp:PassesOwn (model X.prog X.w) X.A X.env X.xe)(hc:X.calm=true)(hi:PI X tg iter wi)(hg:PG X tg g)(hb:PSs X body tb)
  (hs:∀ x,foldedSetIterable iter X.env x=pure x:=by intro _; rfl):PS X (.For tg iter body [] pos) (i7q wi g tb):=i2f hp hc hi hg hb hs
theorem d3r{K:PySem.W.Frag}{a:Addr}{xs:List V}{g:TG}{tb:TS}{D:Ends}{σ:St}{H:Hp}(Pv:Nat->St->Hp->Prop)(h0:Pv 0 σ H)(hl:∀ i σ H,i<=xs.length->Pv i σ H->SqL K H a xs)
  (hs:∀ i x σ H,xs[i]? = some x->Pv i σ H->g x σ H fun σ2 H2=>tb { D with nx:=Pv (i+1),ct:=Pv (i+1),bk:=D.nx } σ2 H2) (hd:∀ σ H,Pv xs.length σ H->D.nx σ H):i6k (Itl K a) g tb D σ H:=h2t Pv h0 hl hs hd
theorem f4l{lo:Int}{n:Nat}{g:TG}{tb:TS}{D:Ends}{σ:St}{H:Hp}(Pv:Nat->St->Hp->Prop)(h0:Pv 0 σ H)
  (hs:∀ i σ H,i < n->Pv i σ H->g (.int (lo+i)) σ H fun σ2 H2=>tb { D with nx:=Pv (i+1),ct:=Pv (i+1),bk:=D.nx } σ2 H2) (hd:∀ σ H,Pv n σ H->D.nx σ H):i6k (Itr lo n) g tb D σ H:=g8e Pv h0 hs hd
def h5u(c:TT)(tb:TS)(D:Ends)(σ:St)(H:Hp):Prop:=∃ W:Nat->St->Hp->Prop,(∃ m,W m σ H)/\∀ m σ H,W m σ H ->
 c σ H fun b H1=>if b=true then tb { D with nx:=fun σ' H'=>∃ m',m' < m/\W m' σ' H',ct:=fun σ' H'=>∃ m',m' < m/\W m' σ' H',bk:=D.nx } σ H1 else D.nx σ H1
def h8i(c:TT)(tb:TS):TS:=fun D σ H=>h5u c tb D σ H
theorem f9t{X:Cx}{c:Expr}{body:List Stmt}{tc:TT}{tb:TS}{pos:Pos}(hp:PassesOwn (model X.prog X.w) X.A X.env X.xe)(hc:PT X c tc)(hb:PSs X body tb):PS X (.While c body [] pos) (h8i tc tb):=by
 intro pins s σ H D I h
 obtain⟨W,⟨m0,w0⟩,turn⟩:=h
 refine wpAny_While (codeAny_whileLoop (fun n s'=>∃ σ' H',Inv X pins σ' H' s'/\W n σ' H') ?_ m0 ⟨σ,H,I,w0⟩)
 rintro n s1 ⟨σ1,H1,I1,w1⟩
 refine wpAny_passesOwn hp (thn (hc pins s1 σ1 H1 _ I1 (turn n σ1 H1 w1)) fun b s2 ⟨H2,I2,q2⟩=>?_)
 cases b with
 | true =>
  rw [if_pos rfl]
  refine wpAny_passesOwn hp (thn (hb pins s2 σ1 H2 _ I2 q2) fun f s3 q3=>?_)
  cases f with
  | next =>
   obtain⟨σ3,H3,I3,m',hm,w3⟩:=q3
   exact⟨m',hm,σ3,H3,I3,w3⟩
  | cont =>
   obtain⟨σ3,H3,I3,m',hm,w3⟩:=q3
   exact⟨m',hm,σ3,H3,I3,w3⟩
  | brk=>exact q3
  | ret v=>exact q3
 | false =>
  rw [if_neg Bool.false_ne_true]
  exact wpAny_execs_nil ⟨σ1,H2,I2,q2⟩
theorem f9u{c:TT}{tb:TS}{D:Ends}{σ:St}{H:Hp}(Pv:Nat->St->Hp->Prop)(m0:Nat)(h0:Pv m0 σ H)
  (hs:∀ m σ H,Pv m σ H->c σ H fun b H1=>if b=true then tb { D with nx:=fun σ' H'=>∃ m',m' < m/\Pv m' σ' H',ct:=fun σ' H'=>∃ m',m' < m/\Pv m' σ' H',bk:=D.nx } σ H1 else D.nx σ H1):h5u c tb D σ H :=
 ⟨Pv,⟨m0,h0⟩,hs⟩
end L2
namespace Att
open PySem PySem.W PySem.Calls PyProof.Rows
open PySem.Builtin.Int (intBits)
theorem g2f{ns:List Int}(h:WData.layableAll [WData.list (ns.map WData.int)]=true):∀ n∈ns,intBits n<=1048576:=by
 intro n hn
 have h1:=layableW_arg h _ (List.mem_singleton.mpr rfl)
 have h2:=layableW_item h1 (WData.int n) (List.mem_map.mpr ⟨n,hn,rfl⟩)
 have h3:=(layableW_iff.mp h2).2.2
 exact h3
theorem f9v{l:OpenLaw}{n:Nat}{q:Program}{loose:List Str}{XP:(Str->Option Value)->Heap->Prop}{YP:World->Heap->Prop}{d:DefRec}
  (hn:l.most=some n) (hdf:d.params.defaults = [])
  (call:∀ (w:World) (s₀ s₁:Shared) (mg mb:Str->Option Value) (fa:Addr) (o:Obj) (pm cd doc:Value) (a:Addr) (vs:List Value) (ns:List Int),
   Ground q loose [] XP w s₀ mg mb s₁.heap->YP w s₁.heap ->
   s₁.heap.get? fa=some o->o.data = .func (docDef d.name d.params d.body d.scope pm cd doc)->s₁.heap.CodeRec cd d.name->mg d.name=some (.ref fa) ->
   s₁.heap.get? a = some { cls := .type "list", data := .seq vs.toArray } → IntsAre vs ns → ns.length ≤ n → (∀ x ∈ ns, intBits x ≤ 1048576) → s₁.gens = #[] →
   codeAny (model l.prog w) callerA (.call (.ref fa) ⟨[.ref a],[]⟩) (fun r s'=>r = .ok (.ret (.bool true))/\OldK s₁.heap s'.heap/\s'.os=s₁.os/\AllBare s'.gens) s₁) :
  WalkO q loose XP YP l.row.toRowW d [] (fun f vs=>PySem.call f vs):=by
 intro w s₀ s₁ mg mb G Y fa o pm cd doc dV kV ho hd hcd hD hmg hg args vals as hpre hlay hrd hwl hlo
 obtain rfl:dV = .none:=Dflts.none hD hdf
 obtain rfl:kV = .none:=Dflts.noKw hD
 obtain⟨a,vs,ns,rfl,rfl,hobj,hints,hlen⟩:=g8r hn hpre hwl
 refine enter_call (codeAny_mono (call w s₀ s₁ mg mb fa o pm cd doc a vs ns G Y ho (fd_plain hd) hcd hmg hobj hints hlen (g2f hlay) hg) fun r s' hq=>?_)
 obtain⟨rfl,h2,h3,h4⟩:=hq
 exact⟨.inl ⟨.bool true,.bool true,[],rfl,fun _=>rfl,.bool true,g8s l _,fun _=>⟨List.Pairwise.nil,fun _ hm=>(nomatch hm)⟩⟩,h2,h3,h4⟩
end Att
namespace L2
open PySem PySem.Spec PyProof.Rows
open PySem.Builtin.Int (intBits)
def g2g(n:Nat)(K:PySem.W.Frag):Sp:=fun vs H Q _=>∃ (a:Addr) (ns:List Int),vs = [.ref a]/\SqL K H a (ns.map V.int)/\ns.length<=n/\(∀ x∈ns,intBits x<=1048576)/\Only H/\∀ H',Q (.bl true) H'
theorem h3i{l:PySem.W.OpenLaw}{k:Nat}{q:Program}{loose:List Str}{XP:(Str->Option Value)->Heap->Prop}{YP:World->Heap->Prop}{d:DefRec}{K:Params->PySem.W.Frag}{CX:World->CXT}{x:Str}
  (hn:l.most=some 63) (hdf:d.params.defaults = []) (hr:a5z k callerA)
  (hY:∀ (w:World) (h:Heap),YP w h->(K w.params).In h)
  (F:∀ (w:World) (mg:Str->Option Value) (fa:Addr) (h:Heap),(K w.params).In h->h.Ns mainGlobals mg->mg d.name=some (.ref fa) ->
   ∃ fd:FuncData,(∀ (s:Shared) (u:Value),BindsTo s fd ⟨[u],[]⟩ [(x,u)]) /\
    ∀ base:Heap,(K w.params).In base->base.Ns mainGlobals mg->a3q l.prog w (K w.params) mg base (CX w) k fa fd [x] (g2g 63 (K w.params)))
  (hCX:∀ (w:World) (H:Hp) (s:Shared) (e:Value) (s':Shared),CX w [] H s (fun _ _ _=>False) e s'->False) :
  PySem.W.WalkO q loose XP YP l.row.toRowW d [] (fun f vs=>PySem.call f vs):=by
 refine Att.f9v hn hdf fun w s₀ s₁ mg mb fa o pm cd doc a vs ns G Y ho hd hcd hmg hobj hints hlen hbits hg=>?_
 have KX:=hY w _ Y
 obtain⟨fd,hb,hF⟩:=F w mg fa _ KX G.T.g hmg
 exact h3b KX G.T.g G.T.b G.T.builtins G.T.nolimit hg hobj hints (Nat.le_trans hlen (by decide)) hr hF hb (fun H hO hS=>⟨a,ns,rfl,hS,hlen,hbits,hO,fun _=>rfl⟩) fun H e s'=>hCX w H s₁ e s'
end L2
namespace L2
open PySem PySem.Spec PyProof.Rows
theorem Same.upd{H:Hp}{p:Addr}{o:HO}(h:H p=none):Same H (upd H p o):=fun b u e=>by
 rw [a6u (a8j e h)]; exact e
structure Tag{α:Type}(a:α):Type where
def New(H:Hp)(o:HO)(Q:VK)(_:Tag Q):Prop:=∀ p H1,H p=none->Same H H1->H1 p=some o->Q (.ref p) H1
def All(C:V->Hp->Prop)(Q:VK)(_:Tag C)(_:Tag Q):Prop:=∀ v H1,C v H1->Q v H1
theorem New.raw{H:Hp}{o:HO}{Q:VK}{t:Tag Q}(h:New H o Q t):∀ p,H p=none->Q (.ref p) (L2.upd H p o):=fun p e=>h p _ e (Same.upd e) a5y
theorem j0k{CX:CXT}{P:Program}{w:World}{K:PySem.W.Frag}{mg:Str->Option Value}{base:Heap}{N:List Str}{qual:Str}{scope:Scope}{f:Addr}{cd:Value}{A:Around}{outer:List Env}{s:Shared}{H:Hp}{E:XK}:(g7o CX P w K mg base N qual scope f cd A outer s H E).K=K:=rfl
section
variable {X:Cx}{es:List Expr}{t:TA}{pos:Pos}
def i7r(t:TA):TE:=fun σ H Q=>t σ H fun xs H1=>xs.length<=sizeLine/\New H1 (.tup xs) Q ⟨⟩
def i7s(t:TA):TE:=fun σ H Q=>t σ H fun xs H1=>xs.length<=sizeLine/\New H1 (.lst xs) Q ⟨⟩
end
section
variable {X:Cx}{a b c:Expr}{ta tb tc:TE}{pos:Pos}
def i7t:R2:=fun x y H Q=>match x,y with
 | .int i,.int j=>Q (.int (i+j)) H
 | .str u,.str v=>u.length+v.length<=sizeLine/\Q (.str (u++v)) H
 | .ref l,.ref b=>∃ xs zs,H l=some (.lst xs)/\H b=some (.lst zs)/\xs.length+zs.length<=sizeLine/\New H (.lst (xs++zs)) Q ⟨⟩
 | _,_=>False
theorem a7i:OpR X (binaryOp .Add) i7t:=by
 intro pins s σ H x y v u Q I rx ry h
 cases x <;> cases y <;> first
  | exact False.elim h
  | exact i2h pins s σ H _ _ v u Q I rx ry ⟨_,_,rfl,rfl,h⟩
  | exact g5x pins s σ H _ _ v u Q I rx ry ⟨_,_,rfl,rfl,h.1,h.2⟩
  | (obtain ⟨xs, zs, h1, h2, h3, h4⟩ := h
     exact i2w pins s σ H _ _ v u Q I rx ry ⟨_,_,_,_,rfl,rfl,h1,h2,h3,h4.raw⟩)
def i7u:R2:=fun x y H Q=>match x,y with
 | .int i,.int j=>IntMulOk i j/\Q (.int (i*j)) H
 | .ref l,.int k=>∃ xs,H l=some (.lst xs) /\ -(2 ^ 63)<=k/\k < 2 ^ 63/\xs.length*k.toNat<=sizeLine/\New H (.lst (List.replicate k.toNat xs).flatten) Q ⟨⟩
 | _,_=>False
theorem c7l:OpR X (binaryOp .Mult) i7u:=by
 intro pins s σ H x y v u Q I rx ry h
 cases x <;> cases y <;> first
  | exact False.elim h
  | exact h8g pins s σ H _ _ v u Q I rx ry ⟨_,_,rfl,rfl,h.1,h.2⟩
  | (obtain ⟨xs, h1, h2, h3, h4, h5⟩ := h
     exact i2x pins s σ H _ _ v u Q I rx ry ⟨_,_,_,rfl,rfl,h1,h2,h3,h4,h5.raw⟩)
def j0l(K:PySem.W.Frag):R2:=fun x y H Q=>if g8f x y=true then Q (.bl (decide (x=y))) H else i6j K x y H Q
def j0m(K:PySem.W.Frag):R2:=fun x y H Q=>if g8f x y=true then Q (.bl (!decide (x=y))) H else i3d K x y H Q
theorem a6v(hu:X.A.units+64 < cLine):OpR X (compareOp .Eq) (j0l X.K):=by
 intro pins s σ H x y v u Q I rx ry h
 unfold j0l at h
 by_cases hs:g8f x y=true
 ·rw [if_pos hs] at h
  exact i7h pins s σ H x y v u Q I rx ry ⟨hs,h⟩
 ·rw [if_neg hs] at h
  exact i3e hu pins s σ H x y v u Q I rx ry h
theorem b5w(hu:X.A.units+64 < cLine):OpR X (compareOp .NotEq) (j0m X.K):=by
 intro pins s σ H x y v u Q I rx ry h
 unfold j0m at h
 by_cases hs:g8f x y=true
 ·rw [if_pos hs] at h
  exact i7i pins s σ H x y v u Q I rx ry ⟨hs,h⟩
 ·rw [if_neg hs] at h
  exact i3f hu pins s σ H x y v u Q I rx ry h
def rIxM:R2:=fun x y H Q=>match x,y with
 | .ref p,.int i=>(match H p with
  | some (.tup xs)=>∃ v,atI xs i=some v/\Q v H
  | some (.lst xs)=>∃ v,atI xs i=some v/\Q v H
  | _=>False)
 | .str z,.int i=>∃ c,z.length<=sizeLine/\atI z.cps.toList i=some c/\Q (.str ⟨#[c]⟩) H
 | _,_=>False
theorem a7n:IxR X rIxM:=by
 intro value slice pins s σ H x y v u Q I rx ry h hs
 cases x with
 | ref p =>
  cases y with
  | int i =>
   have h':(match H p with
    | some (.tup xs)=>∃ v,atI xs i=some v/\Q v H
    | some (.lst xs)=>∃ v,atI xs i=some v/\Q v H
    | _=>False):=h
   split at h'
   ·rename_i xs e
    obtain⟨z,h2,h3⟩:=h'
    exact i2r value slice pins s σ H _ _ v u Q I rx ry ⟨_,xs,_,z,rfl,rfl,SqT.of e,h2,h3⟩ hs
   ·rename_i xs e
    obtain⟨z,h2,h3⟩:=h'
    exact g8n value slice pins s σ H _ _ v u Q I rx ry ⟨_,xs,_,z,rfl,rfl,SqL.of e,h2,h3⟩ hs
   ·exact h'.elim
  | _=>exact False.elim h
 | str z =>
  cases y with
  | int i =>
   obtain⟨c,h1,h2,h3⟩:=h
   exact i2s value slice pins s σ H _ _ v u Q I rx ry ⟨_,_,c,rfl,rfl,h1,h2,h3⟩ hs
  | _=>exact False.elim h
 | _=>exact False.elim h
noncomputable def rSlM:V->Option Int->Option Int->Hp->VK->Prop:=fun x lo hi H Q=>match x with
 | .ref a=>(match H a with
  | some (.lst xs)=>New H (.lst (g1z xs lo hi)) Q ⟨⟩
  | _=>False)
 | _=>False
theorem sl_M:SlR X rSlM:=by
 intro pins s σ H x v vl vu lo hi sl Q I rx hs pl pu h
 cases x with
 | ref a =>
  have h':(match H a with
   | some (.lst xs)=>New H (.lst (g1z xs lo hi)) Q ⟨⟩
   | _=>False):=h
  split at h'
  ·rename_i xs e
   exact g8o pins s σ H _ v vl vu lo hi sl Q I rx hs pl pu ⟨_,xs,rfl,SqL.of e,h'.raw⟩
  ·exact h'.elim
 | _=>exact False.elim h
noncomputable def rSlK(K:PySem.W.Frag):V->Option Int->Option Int->Hp->VK->Prop:=fun x lo hi H Q=>∃ a xs,x = .ref a/\SqL K H a xs/\New H (.lst (g1z xs lo hi)) Q ⟨⟩
theorem sl_K:SlR X (rSlK X.K):=by
 intro pins s σ H x v vl vu lo hi sl Q I rx hs pl pu h
 obtain⟨a,xs,e,h1,h2⟩:=h
 exact g8o pins s σ H _ v vl vu lo hi sl Q I rx hs pl pu ⟨a,xs,e,h1,h2.raw⟩
noncomputable def i7v:List V->Hp->VK->Prop:=fun xs H Q=>match xs with
 | [.ref p]=>(match H p with
  | some (.lst ys)=>Q (.int ys.length) H
  | some (.tup ys)=>Q (.int ys.length) H
  | _=>False)
 | [.str z]=>z.length<=sizeLine/\Q (.int z.length) H
 | _=>False
theorem a8l : c6r X (.builtin "len") i7v := by
 intro pins s σ H xs us Q I r h
 match xs,r,h with
 | [.ref p],r,h =>
  have h':(match H p with
   | some (.lst ys)=>Q (.int ys.length) H
   | some (.tup ys)=>Q (.int ys.length) H
   | _=>False):=h
  split at h'
  ·rename_i ys e
   exact c8w pins s σ H _ us Q I r ⟨p,ys,rfl,.inl (SqL.of e),h'⟩
  ·rename_i ys e
   exact c8w pins s σ H _ us Q I r ⟨p,ys,rfl,.inr (SqT.of e),h'⟩
  ·exact h'.elim
 | [.str z],r,h=>exact f9o pins s σ H _ us Q I r ⟨z,rfl,h.1,h.2⟩
theorem g8y : c6r X (.builtin "len") (fun xs H Q => ∃ p ys, xs = [.ref p] ∧ SqL X.K H p ys ∧ Q (.int ys.length) H) := by
 intro pins s σ H xs us Q I r h
 obtain⟨p,ys,e,h1,h2⟩:=h
 exact c8w pins s σ H _ us Q I r ⟨p,ys,e,.inl h1,h2⟩
theorem i7w{i j:Int}:g8f (.int i) (.int j)=true:=rfl
theorem i7x{i j:Str}:g8f (.str i) (.str j)=true:=rfl
theorem i7y{i j:Bool}:g8f (.bl i) (.bl j)=true:=rfl
theorem i7z:g8f .non .non=true:=rfl
theorem i8a{i j:Addr}:g8f (.ref i) (.ref j)=false:=rfl
theorem j0n{H:Hp}{i:Int}:g4x H (.int i)=some .int:=rfl
theorem j0o{H:Hp}{i:Str}:g4x H (.str i)=some .str:=rfl
theorem j0p{H:Hp}{i:Bool}:g4x H (.bl i)=some .bl:=rfl
theorem j0q{H:Hp}:g4x H .non=some .non:=rfl
theorem d9k{H:Hp}{a:Addr}:g4x H (.ref a)=(match H a with
  | some (.lst _)=>some .lst
  | some (.frz _ (.lst _))=>some .lst
  | some (.tup _)=>some .tup
  | some (.dK _)=>some .dct
  | some (.dT _)=>some .dct
  | _=>none):=rfl
theorem two_line:2<=sizeLine:=by decide
theorem i3g{α:Type}{x:α}{xs:List α}:atI (x :: xs) 0=some x:=c5k (j:=0) rfl
theorem i3h{α:Type}{x y:α}{xs:List α}:atI (x :: y :: xs) 1=some y:=c5k (j:=1) rfl
theorem i3i{α:Type}{x y z:α}{xs:List α}:atI (x :: y :: z :: xs) 2=some z:=c5k (j:=2) rfl
theorem i3j{α:Type}{x y z u:α}{xs:List α}:atI (x :: y :: z :: u :: xs) 3=some u:=c5k (j:=3) rfl
theorem h5v{p q A B:Prop}[Decidable p][Decidable q] : (if p then (if q then A else B) else B)=(if p/\q then A else B):=by
 by_cases hp:p <;> by_cases hq:q <;> simp [hp,hq]
theorem h8j{p q A B:Prop}[Decidable p][Decidable q] : (if p then A else (if q then A else B))=(if p\/q then A else B):=by
 by_cases hp:p <;> by_cases hq:q <;> simp [hp,hq]
end
section
variable {X:Cx}{es:List Expr}{t:TA}{pos:Pos}
theorem PA.weak{t:TA}(h:PA X es t){u:TA}(q:∀ σ H (Q:List V->Hp->Prop),u σ H Q->t σ H Q):PA X es u:=fun pos pins s σ H Q I hu=>h pos pins s σ H Q I (q σ H Q hu)
theorem c1z{x1}(h:PA X es t):PE X (.Tuple es x1 pos) (i7r t):=by
 intro pins s σ H Q I hq
 refine wpAny_Tuple_spliced (thn (h pos pins s σ H _ I hq) fun us s1 ⟨xs,H1,I1,r,z,q⟩=>⟨by rw [<- r.length]; exact z,?_⟩)
 have hf:H1 s1.heap.objs.size=none:=I1.hok.fresh (Nat.le_refl _)
 refine⟨.ref s1.heap.objs.size,upd H1 s1.heap.objs.size (.tup xs),I1.laid (t':=s1.toks) (fun b u e=>Heap.get?_push_of_some _ e) (Nat.le_refl _) ?_,rfl,q.raw _ hf⟩
 exact⟨z,us,r,⟨_,Heap.get?_push_size _ rfl,rfl,_,rfl⟩⟩
theorem a1y(h:PA X es t):PE X (.List es pos) (i7s t):=by
 intro pins s σ H Q I hq
 refine wpAny_List_spliced (thn (h pos pins s σ H _ I hq) fun us s1 ⟨xs,H1,I1,r,z,q⟩=>⟨by rw [<- r.length]; exact z,?_⟩)
 have hf:H1 s1.heap.objs.size=none:=I1.hok.fresh (Nat.le_refl _)
 refine⟨.ref s1.heap.objs.size,upd H1 s1.heap.objs.size (.lst xs),I1.laid (t':=s1.toks) (fun b u e=>Heap.get?_push_of_some _ e) (Nat.le_refl _) ?_,rfl,q.raw _ hf⟩
 exact⟨z,us,0,r,Heap.get?_push_size _ rfl⟩
theorem g6e : c6r X (.type "list") (fun xs H Q => ∃ p ys, xs = [.ref p] ∧ (SqL X.K H p ys ∨ SqT X.K H p ys) ∧ New H (.lst ys) Q ⟨⟩) := by
 intro pins s σ H xs us Q I r h
 obtain⟨p,ys,e,h1,h2⟩:=h
 exact f9p pins s σ H xs us Q I r ⟨p,ys,e,h1,h2.raw⟩
end
theorem Same.tup{K:PySem.W.Frag}{H H':Hp}{a:Addr}{xs:List V}(e:Same H H')(h:SqT K H a xs):SqT K H' a xs:=by
 rcases h with (h | ⟨o,h⟩) | h
 ·exact .inl (.inl (e _ _ h))
 ·exact .inl (.inr ⟨o,e _ _ h⟩)
 ·exact .inr h
end L2
namespace L2
open PySem PySem.Spec PyProof.Rows
open PySem.Builtin.Int (intBits)
section
variable {X:Cx}{e a b c:Expr}{es rest:List Expr}{pos:Pos}{tg iter:Expr}
theorem PE.weak{t u:TE}(h:PE X e t)(q:∀ σ H Q,u σ H Q->t σ H Q):PE X e u:=fun pins s σ H Q I hu=>h pins s σ H Q I (q σ H Q hu)
theorem PT.weak{t u:TT}(h:PT X e t)(q:∀ σ H Q,u σ H Q->t σ H Q):PT X e u:=fun pins s σ H Q I hu=>h pins s σ H Q I (q σ H Q hu)
theorem PI.weak{t u:TI}(h:PI X tg iter t)(q:∀ σ H Q,u σ H Q->t σ H Q):PI X tg iter u:=fun pins s σ H Q I hu=>h pins s σ H Q I (q σ H Q hu)
theorem OpR.weak{f:Value->Value->Sem Value}{r r':R2}(h:OpR X f r)(q:∀ x y H Q,r' x y H Q->r x y H Q):OpR X f r':=fun pins s σ H x y v u Q I rx ry hr=>h pins s σ H x y v u Q I rx ry (q x y H Q hr)
theorem UnR.weak{f:Value->Sem Value}{r r':V->Hp->VK->Prop}(h:UnR X f r)(q:∀ x H Q,r' x H Q->r x H Q):UnR X f r':=fun pins s σ H x v Q I rx hr=>h pins s σ H x v Q I rx (q x H Q hr)
theorem c6r.weak{f:Value}{r r':List V->Hp->VK->Prop}(h:c6r X f r)(q:∀ xs H Q,r' xs H Q->r xs H Q):c6r X f r':=fun pins s σ H xs us Q I rx hr=>h pins s σ H xs us Q I rx (q xs H Q hr)
theorem IxR.weak{r r':R2}(h:IxR X r)(q:∀ x y H Q,r' x y H Q->r x y H Q):IxR X r':=fun value slice pins s σ H x y v u Q I rx ry hr hs=>h value slice pins s σ H x y v u Q I rx ry (q x y H Q hr) hs
def g6f(i:Nat):TE:=fun σ H Q=>match σ[i]? with
 | some (some v)=>Q v H
 | _=>False
theorem pvF (i : Nat) {x : Str} {pos : Pos} (hN : X.N[i]? = some x := by rfl) (hv : Vis X.env.scope x := by first | exact Or.inl rfl | exact Or.inr (Or.inl rfl) | exact Or.inr (Or.inr rfl)) (hd : (x == ("__debug__" : Str)) = false := by decide)
  (hcd : (x == ("__classdict__" : Str)) = false := by decide) : PE X (.Name x pos) (g6f i) := (i1t hN hv hd hcd).weak fun σ H Q h => by
 unfold g6f at h
 split at h
 ·rename_i v e
  exact⟨v,e,h⟩
 ·exact h.elim
def rIF(C:Int->Int->Prop)(g:Int->Int->V):R2:=fun x y H Q=>match x,y with
 | .int i,.int j=>C i j/\Q (g i j) H
 | _,_=>False
def i3k(g:Int->Int->V):R2:=fun x y H Q=>match x,y with
 | .int i,.int j=>Q (g i j) H
 | _,_=>False
theorem g8z{C:Int->Int->Prop}{g:Int->Int->V}:∀ x y H Q,rIF C g x y H Q->rI C g x y H Q:=fun x y H Q h=>by
 cases x <;> cases y <;> first | exact False.elim h | exact⟨_,_,rfl,rfl,h⟩
theorem f5w{g:Int->Int->V}:∀ x y H Q,i3k g x y H Q->rI0 g x y H Q:=fun x y H Q h=>by
 cases x <;> cases y <;> first | exact False.elim h | exact⟨_,_,rfl,rfl,h⟩
theorem h5w:OpR X (binaryOp .Sub) (i3k fun i j=>.int (i - j)):=i2i.weak f5w
theorem b1r:OpR X (binaryOp .FloorDiv) (rIF CFd fun i j=>.int (i.fdiv j)):=h3h.weak g8z
theorem a8m:OpR X (binaryOp .Mod) (rIF (fun _ j=>j≠0) fun i j=>.int (i.fmod j)):=h7s.weak g8z
theorem f4m:OpR X (binaryOp .Pow) (rIF j0e fun i j=>.int (i ^ j.toNat)):=i2j.weak g8z
theorem of_lt:OpR X (compareOp .Lt) (i3k fun i j=>.bl (decide (i < j))):=i7j.weak f5w
theorem of_le:OpR X (compareOp .LtE) (i3k fun i j=>.bl (decide (i<=j))):=i7k.weak f5w
theorem d7y:OpR X (compareOp .Gt) (i3k fun i j=>.bl (decide (j < i))):=i7l.weak f5w
noncomputable def rUF(g:Int->V):V->Hp->VK->Prop:=fun x H Q=>match x with
 | .int i=>Q (g i) H
 | _=>False
theorem h5x:UnR X (unaryOp .USub) (rUF fun i=>.int (-i)):=i2k.weak fun x H Q h=>by
 cases x <;> first | exact False.elim h | exact⟨_,rfl,h⟩
def tBF(t:TE):TT:=fun σ H Q=>t σ H fun x H1=>match x with
 | .bl k=>Q k H1
 | _=>False
theorem i8b{x:V}{H1:Hp}{Q:Bool->Hp->Prop}(h:match x with | .bl k=>Q k H1 | _=>False):∃ k,x = .bl k/\Q k H1:=by
 cases x <;> first | exact False.elim h | exact⟨_,rfl,h⟩
theorem a0w{op:CmpOp}{r:R2}{ta tb:TE}(ho:OpR X (compareOp op) r)(ha:PE X a ta)(hb:PE X b tb)(hm:behindInMarks op b=false):PT X (.Compare a [op] [b] pos) (tBF (tOp r ta tb)):=by
 intro pins s σ H Q I h
 refine (h7t (ho.weak (r':=fun x y H Q=>r x y H Q) fun _ _ _ _ z=>z) ha hb hm) pins s σ H _ I ?_
 unfold i2m
 exact h |> fun h=>by
  unfold tBF at h
  have e:(fun (x:V) (H1:Hp)=>match x with | .bl k=>Q k H1 | _=>False)=fun x H1=>∃ k,x=V.bl k/\Q k H1:=by
   funext x H1
   cases x <;> simp
  rw [e] at h
  exact h
theorem a7y{t:TE}(h:PE X e t)(he:∀ whole,isTrue e X.env whole=(do let v <- whole; standAt e.pos; holding [v] (truthy v)):=by intro _; rfl):PT X e (tBF t):=by
 intro pins s σ H Q I hw
 refine (i1v h he) pins s σ H _ I ?_
 unfold tB
 unfold tBF at hw
 have e:(fun (x:V) (H1:Hp)=>match x with | .bl k=>Q k H1 | _=>False)=fun x H1=>∃ k,x=V.bl k/\Q k H1:=by
  funext x H1
  cases x <;> simp
 rw [e] at hw
 exact hw
def i3l(ta tb:TE):TE:=fun σ H Q=>ta σ H fun x H1=>match x with
 | .bl c=>if c=true then tb σ H1 Q else Q (.bl false) H1
 | _=>False
def tOrF(ta tb:TE):TE:=fun σ H Q=>ta σ H fun x H1=>match x with
 | .bl c=>if c=true then Q (.bl true) H1 else tb σ H1 Q
 | _=>False
def i3m(ta:TE):TE:=fun σ H Q=>ta σ H fun x H1=>match x with
 | .bl c=>Q (.bl (!c)) H1
 | _=>False
theorem g2h{ta tb:TE}(ha:PE X a ta)(hb:PE X (.BoolOp .And (b :: rest) pos) tb):PE X (.BoolOp .And (a :: b :: rest) pos) (i3l ta tb):=by
 intro pins s σ H Q I h
 refine (i1y ha hb) pins s σ H Q I ?_
 unfold i1w
 unfold i3l at h
 have e:(fun (x:V) (H1:Hp)=>match x with | .bl c=>(if c=true then tb σ H1 Q else Q (.bl false) H1) | _=>False)=fun x H1=>∃ c,x=V.bl c/\if c=true then tb σ H1 Q else Q (.bl false) H1:=by
  funext x H1
  cases x <;> simp
 rw [e] at h
 exact h
theorem g9a{ta:TE}(ha:PE X a ta):PE X (.UnaryOp .Not a pos) (i3m ta):=by
 intro pins s σ H Q I h
 refine (i2a ha) pins s σ H Q I ?_
 unfold i1x
 unfold i3m at h
 have e:(fun (x:V) (H1:Hp)=>match x with | .bl c=>Q (.bl (!c)) H1 | _=>False)=fun x H1=>∃ c,x=V.bl c/\Q (.bl (!c)) H1:=by
  funext x H1
  cases x <;> simp
 rw [e] at h
 exact h
def h5y(ta:TA):TI:=fun σ H R=>ta σ H fun vs H1=>match vs with
 | [.int j] => -(2 ^ 62)<=j/\j < 2 ^ 62/\R (Itr 0 j.toNat) H1
 | _=>False
def j0r(ta:TA):TI:=fun σ H R=>ta σ H fun vs H1=>match vs with
 | [.int i,.int j]=>(-(2 ^ 62)<=i/\i < 2 ^ 62 /\ -(2 ^ 62)<=j/\j < 2 ^ 62)/\R (Itr i (j - i).toNat) H1
 | _=>False
def j0s(ta:TA):TI:=fun σ H R=>ta σ H fun vs H1=>match vs with
 | [.int i,.int j,.int c]=>(0<=i/\i < 2 ^ 32/\0<=j/\j < 2 ^ 32/\0 < c/\c < 2 ^ 30)/\R (Itr3 i c (rngN i j c)) H1
 | _=>False
theorem d5l {ta : TA} {p pos : Pos} (hg : Gl X "range") (hm : X.mg "range" = none) (ha : PA X [a] ta) (hs : starEach [a] X.env = [(false, eval a X.env)] := by rfl) : PI X tg (.Call (.Name "range" p) [a] [] pos) (h5y ta) := by
 refine (g8c hg hm ha hs).weak fun σ H R h=>?_
 unfold i2e
 unfold h5y at h
 have e:(fun (vs:List V) (H1:Hp)=>(match vs with | [.int j] => -(2 ^ 62)<=j/\j < 2 ^ 62/\R (Itr 0 j.toNat) H1 | _=>False:Prop))=fun vs H1=>∃ j:Int,vs = [.int j] /\ -(2 ^ 62)<=j/\j < 2 ^ 62/\R (Itr 0 j.toNat) H1:=by
  funext vs H1
  refine propext ⟨fun z=>?_,fun⟨j,e,z⟩=>by subst e; exact z⟩
  match vs,z with
  | [.int j],z=>exact⟨j,rfl,z⟩
 rw [e] at h
 exact h
def h5z(K:PySem.W.Frag)(tl:TE):TI:=fun σ H R=>tl σ H fun x H1=>match x with
 | .ref a=>(∃ xs,SqL K H1 a xs)/\R (Itl K a) H1
 | _=>False
theorem b4i{l:Expr}{tl:TE}(hl:PE X l tl):PI X tg l (h5z X.K tl):=(h7r hl).weak fun σ H R h=>by
 unfold i2d
 unfold h5z at h
 have e:(fun (x:V) (H1:Hp)=>match x with | .ref a=>(∃ xs,SqL X.K H1 a xs)/\R (Itl X.K a) H1 | _=>False)=fun x H1=>∃ a,x = .ref a/\(∃ xs,SqL X.K H1 a xs)/\R (Itl X.K a) H1:=by
  funext x H1
  cases x <;> simp
 rw [e] at h
 exact h
def i8c(K:PySem.W.Frag):R2:=fun x y H Q=>match x,y with
 | .ref p,.int i=>∃ ns:List Int,SqL K H p (ns.map V.int)/\0<=i/\i < ns.length/\Q (.int (ns.getD i.toNat 0)) H
 | _,_=>False
theorem h3j{ns:List Int}{i:Int}(h0:0<=i)(h1:i < ns.length):atI (ns.map V.int) i=some (.int (ns.getD i.toNat 0)):=by
 obtain⟨j,rfl⟩:=Int.eq_ofNat_of_zero_le h0
 refine c5k ?_
 have hj:j < ns.length:=by omega
 rw [List.getElem?_map,List.getElem?_eq_getElem hj,List.getD_eq_getElem?_getD,Int.toNat_natCast,List.getElem?_eq_getElem hj]
 rfl
theorem ix_S:IxR X (i8c X.K):=g8n.weak fun x y H Q h=>by
 cases x with
 | ref p =>
  cases y with
  | int i =>
   obtain⟨ns,h1,h2,h3,h4⟩:=h
   exact⟨p,_,i,_,rfl,rfl,h1,h3j h2 h3,h4⟩
  | _=>exact False.elim h
 | _=>exact False.elim h
noncomputable def i8d(K:PySem.W.Frag):List V->Hp->VK->Prop:=fun xs H Q=>match xs with
 | [.ref p]=>∃ ys,SqL K H p ys/\Q (.int ys.length) H
 | _=>False
theorem g6g : c6r X (.builtin "len") (i8d X.K) := g8y.weak fun xs H Q h => by
 match xs,h with
 | [.ref p],⟨ys,h1,h2⟩=>exact⟨p,ys,rfl,h1,h2⟩
noncomputable def i8e(K:PySem.W.Frag):V->Option Int->Option Int->Hp->VK->Prop:=fun x lo hi H Q=>match x with
 | .ref a=>∃ xs,SqL K H a xs/\New H (.lst (g1z xs lo hi)) Q ⟨⟩
 | _=>False
theorem i8f:SlR X (i8e X.K):=by
 intro pins s σ H x v vl vu lo hi sl Q I rx hs pl pu h
 cases x <;> first
  | exact False.elim h
  | (obtain ⟨xs, h1, h2⟩ := h
     exact sl_K pins s σ H _ v vl vu lo hi sl Q I rx hs pl pu ⟨_,xs,rfl,h1,h2⟩)
def h6a(t:TE):TO:=fun σ H Q=>t σ H fun x H1=>match x with
 | .int i=>Q (some i) H1
 | _=>False
theorem c4l{te:TE}(h:PE X e te):PO X (some e) (h6a te):=by
 intro pins s σ H Q I hw
 refine (h8a h) pins s σ H Q I ?_
 unfold i2q
 unfold h6a at hw
 have e:(fun (x:V) (H1:Hp)=>match x with | .int i=>Q (some i) H1 | _=>False)=fun x H1=>∃ i,x=V.int i/\Q (some i) H1:=by
  funext x H1
  cases x <;> simp
 rw [e] at hw
 exact hw
noncomputable def rAbs:List V->Hp->VK->Prop:=fun xs H Q=>match xs with
 | [.int i]=>Q (.int i.natAbs) H
 | _=>False
theorem d9l : c6r X (.builtin "abs") rAbs := h2u.weak fun xs H Q h => by
 match xs,h with
 | [.int i],h =>
  refine⟨i,rfl,?_⟩
  have e:(if i < 0 then -i else i)=(i.natAbs:Int):=by split <;> omega
  rw [e]
  exact h
noncomputable def rMin:List V->Hp->VK->Prop:=fun xs H Q=>match xs with
 | [.int i,.int j]=>Q (.int (min i j)) H
 | _=>False
noncomputable def rMax:List V->Hp->VK->Prop:=fun xs H Q=>match xs with
 | [.int i,.int j]=>Q (.int (max i j)) H
 | _=>False
noncomputable def i3n(K:PySem.W.Frag):List V->Hp->VK->Prop:=fun xs H Q=>match xs with
 | [.ref p]=>(match H p with
  | some (.lst ys)=>New H (.lst ys) Q ⟨⟩
  | some (.tup ys)=>New H (.lst ys) Q ⟨⟩
  | _=>False)
 | _=>False
theorem d0v : c6r X (.type "list") (i3n X.K) := g6e.weak fun xs H Q h => by
 match xs,h with
 | [.ref p],h =>
  have h':(match H p with
   | some (.lst ys)=>New H (.lst ys) Q ⟨⟩
   | some (.tup ys)=>New H (.lst ys) Q ⟨⟩
   | _=>False):=h
  split at h'
  ·rename_i ys e
   exact⟨p,ys,rfl,.inl (SqL.of e),h'⟩
  ·rename_i ys e
   exact⟨p,ys,rfl,.inr (SqT.of e),h'⟩
  ·exact h'.elim
theorem j0t{α:Type}{x:α}{xs:List α}{p:α->Prop}:(∃ v,atI (x :: xs) 0=some v/\p v)=p x:=by
 rw [i3g]; simp
theorem j0u{α:Type}{x y:α}{xs:List α}{p:α->Prop}:(∃ v,atI (x :: y :: xs) 1=some v/\p v)=p y:=by
 rw [i3h]; simp
theorem j0v{α:Type}{x y z:α}{xs:List α}{p:α->Prop}:(∃ v,atI (x :: y :: z :: xs) 2=some v/\p v)=p z:=by
 rw [i3i]; simp
theorem j0w{α:Type}{x y z u:α}{xs:List α}{p:α->Prop}:(∃ v,atI (x :: y :: z :: u :: xs) 3=some v/\p v)=p u:=by
 rw [i3j]; simp
end
end L2
namespace L2
open PySem PySem.Spec PyProof.Rows PySem.W
theorem d3s{n:Nat}{d:Dat}(h:kqdOk n d=true)(hn:n<=64):SeqAt.shaped (kqdP d)=true:=by
 have l:=kqd_lay n d h
 unfold SeqAt.shaped
 rw [l.1,Bool.true_and]
 exact decide_eq_true (Nat.le_trans l.2 hn)
theorem h6b{n k:Nat}{d e:Dat}(hd:kqdOk n d=true)(he:kqdOk k e=true){c:Bool}(hc:c=true ↔ d=e):PyData.eqv (kqdP d) (kqdP e)=c:=by
 have q:=kqd_eqv n d e k hd he
 cases c with
 | true=>exact q.mpr (hc.mp rfl)
 | false=>exact Bool.eq_false_iff.mpr fun z=>absurd (hc.mpr (q.mp z)) Bool.false_ne_true
theorem i3o{K:PySem.W.Frag}{H:Hp}{x y:V}{d e:Dat}{n k:Nat}{c:Bool}{Q:VK}(hd:f8v K H x (kqdP d))(he:f8v K H y (kqdP e))(kd:kqdOk n d=true)(ke:kqdOk k e=true)(hn:n<=64)(hk:k<=64)(hc:c=true ↔ d=e)(q:Q (.bl c) H):i6j K x y H Q :=
 ⟨_,_,hd,he,d3s kd hn,d3s ke hk,by rw [h6b kd ke hc]; exact q⟩
theorem h6c{K:PySem.W.Frag}{H:Hp}{x y:V}{d e:Dat}{n k:Nat}{c:Bool}{Q:VK}(hd:f8v K H x (kqdP d))(he:f8v K H y (kqdP e))(kd:kqdOk n d=true)(ke:kqdOk k e=true)(hn:n<=64)(hk:k<=64)(hc:c=true ↔ d=e)(q:Q (.bl (!c)) H):i3d K x y H Q :=
 ⟨_,_,hd,he,d3s kd hn,d3s ke hk,by rw [h6b kd ke hc]; exact q⟩
end L2
namespace L2
open PySem PySem.Spec PyProof.Rows
open PySem.Builtin.Int (intBits)
def tCut(t u:TS):TS:=fun D σ H=>∃ Mid:St->Hp->Prop,t { D with nx:=Mid } σ H/\∀ σ' H',Mid σ' H'->u D σ' H'
theorem d2m{X:Cx}{st:Stmt}{rest:List Stmt}{t u:TS}(h1:PS X st t)(h2:PSs X rest u):PSs X (st :: rest) (tCut t u):=by
 intro pins s σ H D I h
 obtain⟨Mid,h,hm⟩:=h
 refine wpAny_execs_cons (thn (h1 pins s σ H { D with nx:=Mid } I h) fun f s1 q=>?_)
 cases f with
 | next =>
  obtain⟨σ',H',I',q⟩:=q
  exact h2 pins s1 σ' H' D I' (hm σ' H' q)
 | ret v=>exact q
 | brk=>exact q
 | cont=>exact q
theorem g9b{ns:List Int}{n:Nat}(h:∀ x∈ns,intBits x<=n)(k:Nat):intBits (ns.getD k 0)<=n:=by
 rw [List.getD_eq_getElem?_getD]
 cases e:ns[k]? with
 | none=>exact Nat.zero_le _
 | some x=>exact h x (List.mem_of_getElem? e)
end L2
namespace L2
open PySem PySem.Spec PyProof.Rows
theorem d5m{env:Env}:∀ (names:List (Str×NameKind)) (acc:List (Str×Addr)),(∀ y,(y,NameKind.free)∈names->∃ c,env.cells.lookup y=some c) ->
  ∃ cl,(forIn names acc (fun (x:Str×NameKind) (cs:List (Str×Addr))=>(if x.2 == NameKind.free then (do let c <- cellOf env x.1; pure (ForInStep.yield ((x.1,c) :: cs))) else pure (ForInStep.yield cs):Sem (ForInStep (List (Str×Addr))))))=pure cl /\
   (∀ y c,cl.lookup y=some c->acc.lookup y=some c\/((y,NameKind.free)∈names/\env.cells.lookup y=some c)) /\
   (∀ y,(y,NameKind.free)∈names->cl.lookup y=env.cells.lookup y)/\(∀ y,(∀ k,(y,k)∈names->k≠NameKind.free)->cl.lookup y=acc.lookup y)
 | [],acc,_=>⟨acc,rfl,fun y c h=>.inl h,fun y h=>(nomatch h),fun y _=>rfl⟩
 | (n,k) :: r,acc,h=>by
  by_cases hk:k=NameKind.free
  ·subst hk
   obtain⟨c,hc⟩:=h n List.mem_cons_self
   obtain⟨cl,h1,h2,h3,h4⟩:=d5m r ((n,c) :: acc) fun y hy=>h y (List.mem_cons_of_mem _ hy)
   have e:cellOf env n=pure c:=by unfold cellOf; rw [hc]
   refine⟨cl,?_,fun y d hd=>?_,fun y hy=>?_,fun y hy=>?_⟩
   ·rw [List.forIn_cons]
    simp only [beq_self_eq_true,if_true,e,pure_bind]
    exact h1
   ·rcases h2 y d hd with z | ⟨z1,z2⟩
    ·rw [List.lookup_cons] at z
     by_cases hy:y=n
     ·subst hy
      simp only [beq_self_eq_true] at z
      cases z
      exact .inr ⟨List.mem_cons_self,hc⟩
     ·have:(y == n)=false:=by simpa using hy
      rw [this] at z
      exact .inl z
    ·exact .inr ⟨List.mem_cons_of_mem _ z1,z2⟩
   ·by_cases hr:(y,NameKind.free)∈r
    ·exact h3 y hr
    ·rcases List.mem_cons.mp hy with z | z
     ·cases z
      by_cases hq:∃ k,(n,k)∈r/\k=NameKind.free
      ·obtain⟨k,z,rfl⟩:=hq
       exact absurd z hr
      ·rw [h4 n fun k hk e=>hq ⟨k,hk,e⟩,List.lookup_cons]
       simp only [beq_self_eq_true]
       exact hc.symm
     ·exact absurd z hr
   ·have hn:y≠n:=fun e=>by
     subst e
     exact hy _ List.mem_cons_self rfl
    rw [h4 y fun k hk=>hy k (List.mem_cons_of_mem _ hk),List.lookup_cons]
    have:(y == n)=false:=by simpa using hn
    rw [this]
  ·obtain⟨cl,h1,h2,h3,h4⟩:=d5m r acc fun y hy=>h y (List.mem_cons_of_mem _ hy)
   have hb:(k == NameKind.free)=false:=by simpa using hk
   refine⟨cl,?_,fun y d hd=>?_,fun y hy=>?_,fun y hy=>h4 y fun k hk=>hy k (List.mem_cons_of_mem _ hk)⟩
   ·rw [List.forIn_cons]
    simp only [hb,Bool.false_eq_true,if_false,pure_bind]
    exact h1
   ·rcases h2 y d hd with z | ⟨z1,z2⟩
    ·exact .inl z
    ·exact .inr ⟨List.mem_cons_of_mem _ z1,z2⟩
   ·rcases List.mem_cons.mp hy with z | z
    ·cases z
     exact absurd rfl hk
    ·exact h3 y z
theorem d0w{env:Env}{sc:Scope}(h:∀ y,(y,NameKind.free)∈sc.names->∃ c,env.cells.lookup y=some c) :
  ∃ cl,closureFor sc env=pure cl/\(∀ y c,cl.lookup y=some c->(y,NameKind.free)∈sc.names/\env.cells.lookup y=some c)/\(∀ y,(y,NameKind.free)∈sc.names->cl.lookup y=env.cells.lookup y):=by
 obtain⟨cl,h1,h2,h3,_⟩:=d5m (env:=env) sc.names [] h
 refine⟨cl,?_,fun y c hy=>(h2 y c hy).elim (fun z=>nomatch z) id,h3⟩
 unfold closureFor
 show (forIn sc.names [] _ >>= fun cs=>pure cs)=pure cl
 rw [bind_pure]
 exact h1
end L2
namespace L2
open PySem PySem.Spec PyProof.Rows
noncomputable def mask (x : Str) (N : List Str) : List Str := N.map fun y => if y = x then "" else y
noncomputable def a6p(X:Cx)(scope:Scope)(cl:List (Str×Addr))(C:Addr)(s₃:Shared)(H₃:Hp)(fp:List Addr)(x:Str):Cx where
 prog:=X.prog
 w:=X.w
 K:=X.K
 mg:=X.mg
 base:=X.base
 A:=X.A
 N:=x :: mask x X.N
 s₀:=s₃
 H₀:=H₃
 env:=compEnvC scope cl C X.env
 outer:=X.stack
 stack:=X.stack
 ex:=fp
 fn:=fun _=>false
 calm:=X.calm
 pn:=[]
 xe:=fun _ _=>False
def a7h(D:Addr)(H H':Hp):Prop:=∀ b o,b≠D->H b=some o->H' b=some o
theorem a7h.upd{D:Addr}{H:Hp}{o:HO}:a7h D H (upd H D o):=fun b u hb e=>by rw [a6u hb]; exact e
def f5y(J:It)(te:TE)(D:Addr)(σ:St)(H:Hp)(Q:VK)(_:Tag Q):Prop:=∃ (n:Nat) (W:Nat->List V->Hp->Prop),W 0 [] H/\∀ i ys H,i<=n->W i ys H->H D=some (.lst ys) /\
 ((J.stop i H/\Q (.ref D) H)\/(i < n/\J.go i H/\ys.length < sizeLine/\∀ x H',J.yld i H x H'->te (some x :: σ) H' fun y H2=>H2 D=some (.lst ys) /\
  ∀ H3,a7h D H2 H3->H3 D=some (.lst (ys++[y]))->W (i+1) (ys++[y]) H3))
def h8k(wi:TI)(te:TE):TE:=fun σ H Q=>wi σ H fun J H1=>∀ D H2,H1 D=none->Same H1 H2->H2 D=some (.lst [])->f5y J te D σ H2 Q ⟨⟩
theorem d0y{env:Env}{x:Str}:∀ (names:List (Str×NameKind)) (k:NameKind),(names.map fun (n,k)=>if (k == NameKind.free && env.scope.kind == .function && env.kindOf n == some .cell) then (n,NameKind.cell) else (n,k)).lookup x=some k ->
  (names.lookup x=some k)\/(k = .cell/\names.lookup x=some .free)
 | [],k,e=>by cases e
 | (n,q) :: r,k,e=>by
  rw [List.map_cons] at e
  dsimp only at e
  rw [List.lookup_cons]
  cases hx:(x == n) with
  | true =>
   by_cases hc:(q == NameKind.free && env.scope.kind == .function && env.kindOf n == some .cell)=true
   ·rw [if_pos hc,List.lookup_cons,hx] at e
    have:q = .free:=by
     simp only [Bool.and_eq_true,beq_iff_eq] at hc
     exact hc.1.1
    subst this
    cases e
    exact .inr ⟨rfl,rfl⟩
   ·rw [if_neg hc,List.lookup_cons,hx] at e
    exact .inl e
  | false =>
   have e':(r.map fun (n,k)=>if (k == NameKind.free && env.scope.kind == .function && env.kindOf n == some .cell) then (n,NameKind.cell) else (n,k)).lookup x=some k:=by
    by_cases hc:(q == NameKind.free && env.scope.kind == .function && env.kindOf n == some .cell)=true
    ·rw [if_pos hc,List.lookup_cons,hx] at e
     exact e
    ·rw [if_neg hc,List.lookup_cons,hx] at e
     exact e
   exact d0y r k e'
theorem d1q{env:Env}{sc:Scope}{x:Str}(h:(relabel sc env).names.lookup x=some .cell\/(relabel sc env).names.lookup x=some .free):(x,NameKind.free)∈sc.names\/(x,NameKind.cell)∈sc.names:=by
 rcases h with h | h
 ·rcases d0y sc.names _ h with z | ⟨_,z⟩
  ·exact .inr (PySem.mem_of_lookup z)
  ·exact .inl (PySem.mem_of_lookup z)
 ·rcases d0y sc.names _ h with z | ⟨z,_⟩
  ·exact .inl (PySem.mem_of_lookup z)
  ·cases z
structure b5y(X:Cx)(scope:Scope)(x:Str):Prop where
 kind:scope.kind = .function
 d9m:∀ y∈scope.names,y.2≠.cell
 loc:∀ y∈scope.names,y.2 = .local->scope.names.lookup y.1=some .local
 own:scope.names.lookup x=some .local
 free:∀ y∈scope.names,y.2 = .free->X.env.kindOf y.1=some .cell\/X.env.kindOf y.1=some .free
 nd:(x :: mask x X.N).Nodup
 noe : ∀ y ∈ scope.names, y.1 ≠ ""
 vis:∀ y∈mask x X.N,scope.names.lookup y≠some .local
section
variable {X:Cx}{scope:Scope}{x:Str}{cl:List (Str×Addr)}{pins:List (Addr×Obj)}{σ:St}{H:Hp}{s s₄:Shared}{fp:List Addr}
theorem Inv.comp(S:b5y X scope x)(I:Inv X pins σ H s)(hcl:∀ y c,cl.lookup y=some c->(y,NameKind.free)∈scope.names/\X.env.cells.lookup y=some c)(hcl2:∀ y,(y,NameKind.free)∈scope.names->cl.lookup y=X.env.cells.lookup y)
  (hfp:∀ b∈fp,f2p X pins H b) (hlt:∀ b∈fp,b < s.heap.objs.size) {m:Str->Option Value} (hns:s₄.heap.Ns s.heap.objs.size m) (hk:∀ b o,s.heap.get? b=some o->s₄.heap.get? b=some o) (hos:s₄.os=s.os) (hg:s₄.gens=s.gens) :
  Inv (a6p X scope cl s.heap.objs.size s H fp x) [] (none :: σ) H s₄:=by
 have below:∀ {b:Addr} {o:Obj},s.heap.get? b=some o->b≠s.heap.objs.size:=fun e=>Nat.ne_of_lt (Heap.lt_size e)
 refine⟨⟨I.ok.mod,?_,I.ok.glob,I.ok.blt,Nat.le_refl _,fun y z c h1 h2=>I.ok.inj y z c (hcl y c h1).2 (hcl z c h2).2,fun y hy=>?_,(fun y c h=>nomatch h),I.ok.hd,I.ok.frames,.inl rfl,fun b hb=>⟨Nat.ne_of_lt (hlt b hb),fun y c e=>(hfp b hb).2.2.2.2.1 y c (hcl y c e).2⟩,
  fun b o e=>I.bs b o e,Nat.le_trans I.ok.bsz I.sz,fun b o e hb=>?_,fun b hb hf=>?_,I.stack,I.g1y⟩,
  hos,by rw [hg]; exact I.bare,Un.kept hk,⟨m,hns,fun i y v h1 h2 h3=>?_⟩,fun y c e=>?_,I.hok.fresh (Nat.le_refl _),fun y c e=>I.d2i y c (hcl y c e).2,fun p hp=>absurd (show p∈([] : List (Addr×Obj)) from hp) (by simp),I.hok.kept hk,by show (none :: σ).length=(x :: mask x X.N).length; rw [List.length_cons,List.length_cons,mask,List.length_map,I.len]⟩
 ·exact S.kind
 ·rcases d1q (env:=X.env) (sc:=scope) (x:=y) hy with z | z
  ·obtain⟨c,hc⟩:=I.ok.has y (S.free _ z rfl)
   exact⟨c,(hcl2 y z).trans hc⟩
  ·exact absurd rfl (S.d9m _ z)
 ·rcases (hfp b hb).2.2.2.1 with z | z
  ·exact I.ok.i1d b o e z
  ·exact absurd (Nat.lt_of_lt_of_le (Heap.lt_size (I.ok.bs b o e).1) z) (Nat.lt_irrefl _)
 ·rcases List.mem_cons.mp (I.f4j b hf) with z | z
  ·exact (hfp b hb).2.1 z
  ·exact (hfp b hb).2.2.1 z
 ·cases i with
  | zero=>cases h2
  | succ i =>
   have h1m:(mask x X.N)[i]? = some y:=by simpa [a6p] using h1
   have h2':σ[i]? = some (some v):=by simpa using h2
   have hyN:y∈mask x X.N:=List.mem_of_getElem? h1m
   have hc:(relabel scope X.env).names.lookup y=some .cell\/(relabel scope X.env).names.lookup y=some .free:=by
    rcases h3 with z | z | z
    ·exfalso
     rcases d0y (env:=X.env) scope.names _ z with q | ⟨q,_⟩
     ·exact S.vis y hyN q
     ·cases q
    ·exact .inl z
    ·exact .inr z
   have hfr:(y,NameKind.free)∈scope.names:=by
    rcases d1q hc with z | z
    ·exact z
    ·exact absurd rfl (S.d9m _ z)
   have h1':X.N[i]? = some y:=by
    rw [mask,List.getElem?_map] at h1m
    obtain⟨z,hz,e⟩:=Option.map_eq_some_iff.mp h1m
    by_cases hzx:z=x
    ·rw [if_pos hzx] at e
     exact absurd e.symm (S.noe _ hfr)
    ·rw [if_neg hzx] at e
     rw [hz,e]
   obtain⟨mX,hnX,hl⟩:=I.loc
   have hk2:=S.free _ hfr rfl
   have hvis:Vis X.env.scope y:=by
    rcases hk2 with z | z
    ·exact .inr (.inl z)
    ·exact .inr (.inr z)
   obtain⟨u,ru,lk⟩:=hl i y v h1' h2' hvis
   refine⟨u,ru,.inr ⟨hc,?_⟩⟩
   rcases lk with ⟨z,_⟩ | ⟨_,c,ec,o,ho,hd⟩
   ·rcases hk2 with q | q
    ·rw [q] at z; cases z
    ·rw [q] at z; cases z
   ·exact⟨c,(hcl2 y hfr).trans ec,o,hk c o ho,hd⟩
 ·obtain⟨v,o,ho,hd⟩:=I.cell y c (hcl y c e).2
  exact⟨v,o,hk c o ho,hd⟩
theorem Inv.g9c{σ':St}{H':Hp}{s':Shared}{h':Heap}(I:Inv X pins σ H s)(hfp:∀ b∈fp,f2p X pins H b)(J:Inv (a6p X scope cl s.heap.objs.size s H fp x) [] σ' H' s')(hs:Heap.SameBut s.heap.objs.size s'.heap h') :
  Inv X pins σ H' { s' with heap:=h' }:=by
 have ne:∀ {b:Addr} {o:Obj},s.heap.get? b=some o->b≠s.heap.objs.size:=fun e=>Nat.ne_of_lt (Heap.lt_size e)
 have u:=J.base
 have u':Un (frs X.stack) fp H H' s.heap h':=⟨fun b o e n hb hx=>hs.extBut b o (ne e) (u.keep b o e n hb hx),fun b o e n hb hx=>(u.slot b o e n hb hx).elim fun sl q=>⟨sl,hs.extBut b _ (ne e) q⟩,u.free,
  fun b o e hx=>(u.there b o e hx).elim fun o' q=>⟨o',hs.extBut b o' (ne e) q⟩,u.tups,u.f8w,u.g1u⟩
 have nC:∀ {b:Addr} {o:HO},H' b=some o->b≠s.heap.objs.size:=fun {b o} e z=>by
  have f:H' s.heap.objs.size=none:=J.free
  rw [z,f] at e; cases e
 have ok:HOk X.prog X.w H' h':=fun b o e=>(J.hok b o e).stay (fun c v hc q=>hs.extBut c v (by
  rcases hc with z | z
  ·rw [z]; exact nC e
  ·exact nC z) q) (fun _ q=>q) fun _ _ q=>q
 exact I.call' (s':={ s' with heap:=h' }) (ch:=fp) J.os u' ok J.bare fun b hb=>⟨(hfp b hb).2.2.2.1,(hfp b hb).2.1,(hfp b hb).2.2.2.2.1,(hfp b hb).2.2.2.2.2⟩
end
end L2
namespace L2
open PySem PySem.Spec PyProof.Rows
section
variable {X:Cx}{scope:Scope}{x:Str}{pins:List (Addr×Obj)}{σ:St}{elt iter:Expr}{px pos:Pos}{wi:TI}{te:TE}
theorem f4n{s₂:Shared}{H1:Hp}{it:Addr}{fp:List Addr}{tn:Nat->Heap->Prop}{J:It}{Q:VK}{RR:Value->Addr->Result->Shared->Prop}{E:Value->Shared->Prop}{cl:List (Str×Addr)}
  (S:b5y X scope x) (hc:X.calm=true) (he:∀ cl C s₃ H₃ fp,PE (a6p X scope cl C s₃ H₃ fp x) elt te)
  (hcl:∀ y c,cl.lookup y=some c->(y,NameKind.free)∈scope.names/\X.env.cells.lookup y=some c) (hcl2:∀ y,(y,NameKind.free)∈scope.names->cl.lookup y=X.env.cells.lookup y)
  (I2:Inv X pins σ H1 s₂) (T:Turn X.prog X.w X.K (.Name x px) J fp it tn) (st2:tn 0 s₂.heap) (f2:∀ b∈fp,f2p X pins H1 b) (h:∀ D H2,H1 D=none->Same H1 H2->H2 D=some (.lst [])->f5y J te D σ H2 Q ⟨⟩)
  (hRR:∀ (D C:Addr) (s':Shared) (H':Hp),(∃ m,s'.heap.Ns C m)->(∀ h' ,Heap.SameBut C s'.heap h'->Inv X pins σ H' { s' with heap:=h' })->f2p X pins H' C->Q (.ref D) H'->RR (.ref D) C (.ok .next) s') :
  wpAny (model X.prog X.w) X.A (newList []) (fun acc s₃=>wpAny (model X.prog X.w) X.A (newFunctionEnv scope X.env.globals cl [] X.env.qual none .none (some X.env)) (fun cenv s₄ =>
   codeAny (model X.prog X.w) X.A (.compStart (.ListComp elt [⟨.Name x px,iter,[],0⟩] scope pos) 0 (.ref it) acc { cenv with scope:=relabel scope X.env }) (RR acc cenv.locals) s₄) E s₃) E s₂:=by
 have hfr:H1 s₂.heap.objs.size=none:=I2.hok.fresh (Nat.le_refl _)
 have hCW:=h s₂.heap.objs.size _ hfr (Same.upd hfr) a5y
 refine wpAny_newObj_type ?_
 have I3 : Inv X pins σ (upd H1 s₂.heap.objs.size (.lst [])) { s₂ with heap := s₂.heap.push { cls := .type "list", data := .seq ([] : List Value).toArray }, toks := s₂.toks } :=
  I2.laid (t':=s₂.toks) (fun b u e=>Heap.get?_push_of_some _ e) (Nat.le_refl _) ⟨Nat.zero_le _,[],0,.nil,Heap.get?_push_size _ rfl⟩
 have nD:∀ b∈fp,b≠s₂.heap.objs.size:=fun b hb=>by
  obtain⟨o,e,_⟩:=T.obj 0 _ st2 b hb
  exact Nat.ne_of_lt (Heap.lt_size e)
 have f3:∀ b∈fp,f2p X pins (upd H1 s₂.heap.objs.size (.lst [])) b:=fun b hb=>⟨by rw [a6u (nD b hb)]; exact (f2 b hb).1,(f2 b hb).2⟩
 generalize hH3:upd H1 s₂.heap.objs.size (.lst [])=H3 at *
 have st3 : tn 0 (s₂.heap.push { cls := .type "list", data := .seq ([] : List Value).toArray }) := T.keep _ _ _ st2 fun b _ o e => Heap.get?_push_of_some _ e
 have g9d : ∀ b ∈ fp, b < (s₂.heap.push { cls := .type "list", data := .seq ([] : List Value).toArray }).objs.size := fun b hb => by
  obtain⟨o,e,_⟩:=T.obj 0 _ st3 b hb
  exact Heap.lt_size e
 show wpAny (model X.prog X.w) X.A (newFunctionEnv scope X.env.globals cl [] X.env.qual none .none (some X.env)) _ E { s₂ with heap := s₂.heap.push { cls := .type "list", data := .seq ([] : List Value).toArray }, toks := s₂.toks }
 generalize hs3 : ({ s₂ with heap := s₂.heap.push { cls := .type "list", data := .seq ([] : List Value).toArray }, toks := s₂.toks } : Shared) = s₃ at *
 have eh : s₃.heap = s₂.heap.push { cls := .type "list", data := .seq ([] : List Value).toArray } := by rw [← hs3]
 rw [<- eh] at st3 g9d
 generalize s₂.heap.objs.size=D at *
 refine wpAny_newFunctionEnv S.d9m (by intro y hy; simp at hy) (fun h₁ hns₁ hsb₁=>?_) S.kind
 have hk1:∀ b o,s₃.heap.get? b=some o->h₁.get? b=some o:=fun b o e=>hsb₁.extBut b o (Nat.ne_of_lt (Heap.lt_size e)) (Heap.get?_push_of_some _ e)
 have J0:Inv (a6p X scope cl s₃.heap.objs.size s₃ H3 fp x) [] (none :: σ) H3 { s₃ with heap:=h₁,toks:=s₃.toks+([] : List (Str×Value)).length }:=I3.comp S hcl hcl2 f3 g9d hns₁ hk1 rfl rfl
 obtain⟨n0,W,w0,turn⟩:=hCW
 have loop:codeAny (model X.prog X.w) X.A (.compLoop (.ListComp elt [⟨.Name x px,iter,[],0⟩] scope pos) 0 (.ref it) (.ref D) (compEnvC scope cl s₃.heap.objs.size X.env)) (RR (.ref D) s₃.heap.objs.size) { s₃ with heap:=h₁,toks:=s₃.toks+([] : List (Str×Value)).length }:=by
  refine codeAny_loop rfl (fun n s'=>∃ i ys o H',Inv (a6p X scope cl s₃.heap.objs.size s₃ H3 fp x) [] (o :: σ) H' s'/\tn i s'.heap/\(∀ b∈fp,H' b=none)/\W i ys H'/\i<=n0/\n=n0 - i) (fun n s5 hI=>?_) n0
   ⟨0,[],none,H3,J0,T.keep _ _ _ st3 (fun b _ o e=>hk1 b o e),fun b hb=>(f3 b hb).1,w0,Nat.zero_le _,rfl⟩
  obtain⟨i,ys,o5,H5,I5,st5,fr5,w5,hin,hnn⟩:=hI
  have stat:∀ {H':Hp},(∀ b∈fp,H' b=none)->∀ b∈fp,f2p (a6p X scope cl s₃.heap.objs.size s₃ H3 fp x) [] H' b:=fun hn b hb =>
   ⟨hn b hb,Nat.ne_of_lt (g9d b hb),fun z=>(List.mem_cons.mp (I3.f4j b z)).elim (fun q=>(f3 b hb).2.1 q) fun q=>(f3 b hb).2.2.1 q,.inl hb,fun y c e=>(f3 b hb).2.2.2.2.1 y c (hcl y c e).2,fun p hp=>absurd (show p∈([] : List (Addr×Obj)) from hp) (by simp)⟩
  show wpAny _ X.A ((compTurn (.ListComp elt [⟨.Name x px,iter,[],0⟩] scope pos) 0 (.ref it) (.ref D) (compEnvC scope cl s₃.heap.objs.size X.env)).onRaise (fun x=>do noteFrame x (compEnvC scope cl s₃.heap.objs.size X.env); theTreesLotGoes x)) _ _ s5
  refine wpAny_noted ?_
  rw [compTurn_list1]
  refine wpAny_bind (wpAny_standAt (wpAny_bind ?_))
  obtain⟨hD5,alt⟩:=turn i ys H5 hin w5
  rcases alt with ⟨stop,q⟩ | ⟨hlt,go,hsz,step⟩
  ·refine wpAny_mono (T.done (a6p X scope cl s₃.heap.objs.size s₃ H3 fp x) rfl rfl rfl hc i [] s5 _ H5 _ I5 (stat fr5) st5 stop) (fun r s6 ⟨hr,I6⟩=>?_) fun _ _ z=>z
   subst hr
   refine wpAny_pure ?_
   obtain⟨m6,hn6,_⟩:=I6.loc
   exact hRR D s₃.heap.objs.size s6 H5 ⟨m6,hn6⟩ (fun h' hs'=>I3.g9c f3 I6 hs') (I3.i1e (Nat.le_refl _) I6.free) q
  ·refine wpAny_mono (T.item (a6p X scope cl s₃.heap.objs.size s₃ H3 fp x) rfl rfl rfl hc i [] s5 _ H5 _ I5 (stat fr5) st5 go) (fun r s6 ⟨u,hr,h6⟩=>?_) fun _ _ z=>z
   subst hr
   refine wpAny_bind (wpAny_mono h6 (fun _ s7 ⟨v,H7,I7,r7,y7,st7,fr7⟩=>?_) fun _ _ z=>z)
   have I7':=I7.pinned (stat fr7) (T.obj _ _ st7)
   have G:=c5j (X:=a6p X scope cl s₃.heap.objs.size s₃ H3 fp x) (pos:=px) (i:=0) (x:=x) S.nd rfl (.inl (lookup_relabel_local S.own)) (.inr (lookup_relabel_local S.own))
   refine wpAny_bind (wpAny_mono (G _ s7 _ H7 v u (fun σ' H'=>σ'=some v :: σ/\H'=H7) I7' r7 ⟨rfl,rfl⟩) (fun _ s8 hs8=>?_) fun _ _ z=>False.elim z)
   obtain⟨σ8,H8,I8,rfl,rfl⟩:=hs8
   refine wpAny_bind (wpAny_bind (wpAny_mono (he cl s₃.heap.objs.size s₃ H3 fp _ s8 _ _ _ I8 (step v H8 y7)) (fun yv s9 hs9=>?_) fun _ _ z=>False.elim z))
   obtain⟨y,H9,I9,r9,hD9,k9⟩:=hs9
   refine wpAny_bind (wpAny_mono (d3o (X:=a6p X scope cl s₃.heap.objs.size s₃ H3 fp x) _ s9 _ H9 (.ref D) [y] (.ref D) [yv] (fun _ H'=>H'=upd H9 D (.lst (ys++[y]))) I9 rfl (.cons r9 .nil) ⟨D,ys,y,rfl,rfl,hD9,hsz,rfl⟩) (fun _ sA hsA=>?_) fun _ _ z=>False.elim z)
   obtain⟨_,HA,IA,_,rfl⟩:=hsA
   refine wpAny_pure ?_
   have wA:=k9 _ a7h.upd a5y
   refine wpAny_pure ⟨rfl,n0 - (i+1),by omega,i+1,ys++[y],some v,_,IA.c7j (pins:=[]) (pl:=d6w fp s7.heap),T.keep _ _ _ st7 (fun b hb o e=>(IA.pin (b,o) (List.mem_append_right _ (List.mem_append_right _ (a9n hb e)))).1),fun b hb=>?_,wA,hlt,rfl⟩
   obtain⟨o,e,d⟩:=T.obj _ _ st7 b hb
   exact (IA.pin (b,o) (List.mem_append_right _ (List.mem_append_right _ (a9n hb e)))).2.1
 exact codeAny_compStart_list loop (T.self _ 0 _ _ _ (T.keep _ _ _ st3 fun b _ o e=>hk1 b o e) loop)
theorem c8z(hi:PI X (.Name x px) iter wi)(he:∀ cl C s₃ H₃ fp,PE (a6p X scope cl C s₃ H₃ fp x) elt te)(S:b5y X scope x)(hc:X.calm=true)
  (hs:∀ x,foldedSetIterable iter X.env x=pure x:=by intro _; rfl):PE X (.ListComp elt [⟨.Name x px,iter,[],0⟩] scope pos) (h8k wi te):=by
 intro pins s σ H Q I h
 obtain⟨cl,hclos,hcl,hcl2⟩:=d0w (env:=X.env) (sc:=scope) fun y hy=>I.ok.has y (S.free _ hy rfl)
 rw [eval_ListComp]
 refine wpAny_comprehension_free (use:=none) rfl hs hclos S.kind S.loc ?_
 refine thn (hi pins s σ H _ I h) fun v s1 h1=>thn h1 fun itv s2 h2=>?_
 obtain⟨it,fp,tn,J,H2,e,I2,T,st2,f2,hW⟩:=h2
 subst e
 exact f4n (RR:=fun acc C=>compPost (model X.prog X.w) X.A X.xe none (EP X pins σ Q) acc C) S hc he hcl hcl2 I2 T st2 f2 hW fun D C s' H' hm hI _ hq =>
  hm.elim fun m hn=>⟨m,hn,fun h' hs'=>⟨.ref D,H',hI h' hs',rfl,hq⟩⟩
theorem h8l{i:Nat}{y:Str}{py spos:Pos}(hN:X.N.Nodup)(hyi:X.N[i]? = some y)(hy:X.env.scope.names.lookup y=some .local)(hi:PI X (.Name x px) iter wi)(he:∀ cl C s₃ H₃ fp,PE (a6p X scope cl C s₃ H₃ fp x) elt te)(S:b5y X scope x)(hc:X.calm=true)
  (hsw:swapsWith (.ListComp elt [⟨.Name x px,iter,[],0⟩] scope pos) (some (.Name y py)) spos.line X.env=pure true:=by rfl)
  (hs:∀ x,foldedSetIterable iter X.env x=pure x:=by intro _; rfl):PS X (.Assign [.Name y py] (.ListComp elt [⟨.Name x px,iter,[],0⟩] scope pos) spos) (i7e (h8k wi te) (h2q i)):=by
 intro pins s σ H D I h
 obtain⟨cl,hclos,hcl,hcl2⟩:=d0w (env:=X.env) (sc:=scope) fun y hy=>I.ok.has y (S.free _ hy rfl)
 rw [exec_Assign_Name_used _ _ _ _ hsw]
 refine wpAny_bind (wpAny_standAt (wpAny_bind ?_))
 show wpAny _ X.A (do let _ <- comprehension (.ListComp elt [⟨.Name x px,iter,[],0⟩] scope pos) scope X.env _ (newList []) false (eval iter X.env) (some (assign (.Name y py) X.env))) _ _ s
 refine wpAny_bind (wpAny_mono (wpAny_comprehension_free (use:=some (assign (.Name y py) X.env)) (Q:=fun _ s'=>SP X pins D .next s') rfl hs hclos S.kind S.loc ?_) (fun _ s' hq=>wpAny_pure (wpAny_pure hq)) fun _ _ e=>e)
 refine thn (hi pins s σ H _ I h) fun v s1 h1=>thn h1 fun itv s2 h2=>?_
 obtain⟨it,fp,tn,J,H2,e,I2,T,st2,f2,hW⟩:=h2
 subst e
 refine f4n (Q:=fun v H'=>D.nx (σ.set i (some v)) H') (RR:=fun acc C=>compPost (model X.prog X.w) X.A X.xe (some (assign (.Name y py) X.env)) (fun _ s'=>SP X pins D .next s') acc C) S hc he hcl hcl2 I2 T st2 f2 hW fun L C s' H' hm hI hfp hq=>?_
 obtain⟨m,hn⟩:=hm
 have I':Inv X pins σ H' s':=hI s'.heap (Heap.SameBut.refl ..)
 show wpAny _ X.A (assign (.Name y py) X.env (.ref L)) _ _ s'
 refine wpAny_assign_Name (f8y (v:=.ref L) I' hN hyi (.inl hy) rfl (fun s'' I'' hsb=>?_) (.inr hy))
 obtain⟨a,hsame,ha⟩:=hsb
 have nea:C≠a:=by
  rcases ha with z | z
  ·rw [z]; exact hfp.2.1
  ·exact fun q=>hfp.2.2.2.2.1 y a z q.symm
 refine⟨m,hn.sameBut hsame nea,fun h' hs'=>⟨_,H',I''.turned (t':=s''.toks) (it:=C) (fun b o hb e=>hs'.extBut b o hb e) hfp.1 hfp.2.1 hfp.2.2.2.1 hfp.2.2.2.2.1 hfp.2.2.2.2.2,hq⟩⟩
end
theorem c1q{K:PySem.W.Frag}{a D:Addr}{xs:List V}{te:TE}{σ:St}{H:Hp}{Q:VK}(Pv:Nat->List V->Hp->Prop)(h0:Pv 0 [] H)(hsz:xs.length<=sizeLine)
  (hD:∀ i ys H,i<=xs.length->Pv i ys H->H D=some (.lst ys)/\SqL K H a xs/\ys.length=i)
  (hs:∀ i x ys H,xs[i]? = some x->Pv i ys H->te (some x :: σ) H fun y H2=>H2 D=some (.lst ys)/\∀ H3,a7h D H2 H3->H3 D=some (.lst (ys++[y]))->Pv (i+1) (ys++[y]) H3)
  (hd:∀ ys H,Pv xs.length ys H->Q (.ref D) H):f5y (Itl K a) te D σ H Q ⟨⟩:=by
 refine⟨xs.length,Pv,h0,fun i ys H hi p=>?_⟩
 obtain⟨e1,e2,e3⟩:=hD i ys H hi p
 refine⟨e1,?_⟩
 by_cases hlt:i < xs.length
 ·refine .inr ⟨hlt,⟨xs,xs[i],e2,by simp [hlt]⟩,by omega,fun x H' y=>?_⟩
  obtain⟨e,y⟩:=y
  subst e
  exact hs i x ys _ (y xs e2) p
 ·have e:i=xs.length:=by omega
  subst e
  exact .inl ⟨⟨xs,e2,Nat.le_refl _⟩,hd ys H p⟩
theorem g2i{D:Addr}{lo:Int}{n:Nat}{te:TE}{σ:St}{H:Hp}{Q:VK}(Pv:Nat->List V->Hp->Prop)(h0:Pv 0 [] H)(hsz:n<=sizeLine)
  (hD:∀ i ys H,i<=n->Pv i ys H->H D=some (.lst ys)/\ys.length=i)
  (hs:∀ i ys H,i < n->Pv i ys H->te (some (.int (lo+i)) :: σ) H fun y H2=>H2 D=some (.lst ys)/\∀ H3,a7h D H2 H3->H3 D=some (.lst (ys++[y]))->Pv (i+1) (ys++[y]) H3)
  (hd:∀ ys H,Pv n ys H->Q (.ref D) H):f5y (Itr lo n) te D σ H Q ⟨⟩:=by
 refine⟨n,Pv,h0,fun i ys H hi p=>?_⟩
 obtain⟨e1,e3⟩:=hD i ys H hi p
 refine⟨e1,?_⟩
 by_cases hlt:i < n
 ·refine .inr ⟨hlt,hlt,by omega,fun x H' y=>?_⟩
  obtain⟨e,y⟩:=y
  subst e y
  exact hs i ys _ hlt p
 ·have e:i=n:=by omega
  subst e
  exact .inl ⟨Nat.le_refl _,hd ys H p⟩
theorem Same.step{D:Addr}{H0 H H':Hp}(S:Same H0 H)(n:H0 D=none)(s:a7h D H H'):Same H0 H':=fun b o e=>s b o (a8j e n) (S b o e)
noncomputable def h6d(sc scope:Scope)(x:Str)(N:List Str):Bool :=
 (scope.kind == .function) && scope.names.all (fun y=>y.2 != .cell) && scope.names.all (fun y=>y.2 != .local || scope.names.lookup y.1 == some .local) && (scope.names.lookup x == some .local) &&
 scope.names.all (fun y => y.2 != .free || (sc.names.lookup y.1 == some .cell || sc.names.lookup y.1 == some .free)) && decide ((x :: mask x N).Nodup) && scope.names.all (fun y => y.1 != "") && (mask x N).all (fun y => scope.names.lookup y != some .local)
theorem d9n{X:Cx}{sc scope:Scope}{x:Str}{N:List Str}(hsc:X.env.scope=sc)(hN:X.N=N)(h:h6d sc scope x N=true):b5y X scope x:=by
 subst hN hsc
 unfold h6d at h
 simp only [Bool.and_eq_true,List.all_eq_true,beq_iff_eq,Bool.or_eq_true,bne_iff_ne,ne_eq,decide_eq_true_eq] at h
 obtain⟨⟨⟨⟨⟨⟨⟨h1,h2⟩,h3⟩,h4⟩,h5⟩,h6⟩,h7⟩,h8⟩:=h
 exact⟨h1,h2,fun y hy e=>(h3 y hy).resolve_left fun z=>z e,h4,fun y hy e=>(h5 y hy).resolve_left fun z=>z e,h6,h7,h8⟩
end L2
namespace L2
open PySem PySem.Spec PyProof.Rows
noncomputable def i8g:V->Hp->Bool:=fun x H=>match x with
 | .ref l=>(match H l with
  | some (.lst _)=>true
  | _=>false)
 | _=>false
noncomputable def i3p:V->Hp->Bool:=fun x _=>match x with
 | .str _=>true
 | _=>false
theorem c4m {K : PySem.W.Frag} : ∀ x H, i8g x H = true → tyV K "list" x H := fun x H h => by
 cases x with
 | ref l =>
  have h':(match H l with
   | some (.lst _)=>true
   | _=>false)=true:=h
  split at h'
  ·rename_i xs e
   exact .inl ⟨rfl,xs,SqL.of e⟩
  ·cases h'
 | _=>cases h
theorem b9l {K : PySem.W.Frag} : ∀ x H, i3p x H = true → tyV K "str" x H := fun x H h => by
 cases x with
 | str z=>exact rfl
 | _=>cases h
def tBMF(chk:V->Hp->Bool)(r:V->List V->Hp->VK->Prop)(to:TE)(t:TA):TE:=fun σ H Q=>to σ H fun x H1=>chk x H1=true/\t σ H1 fun xs H2=>r x xs H2 Q
section
variable {X:Cx}{o e:Expr}{es:List Expr}{to:TE}{t:TA}{name:Str}{apos cpos:Pos}{T id:String}{r r':V->List V->Hp->VK->Prop}{chk:V->Hp->Bool}
theorem MtR.weak(h:MtR X id r)(q:∀ x xs H Q,r' x xs H Q->r x xs H Q):MtR X id r':=fun pins s σ H x xs v us Q I rx rs hr=>h pins s σ H x xs v us Q I rx rs (q x xs H Q hr)
theorem c4n (hchk : ∀ x H, chk x H = true → tyV X.K T x H) (pa : PlainAttrs T) (slot : Slot T name id) (hty : typeOf (.builtin id) = pure (.type "method_descriptor")) (hm : MtR X id r) (ho : PE X o to) (ha : PA X (e :: es) t)
  (hbase:attributeBase o name X.env (eval o X.env)=eval o X.env:=by rfl)
  (hfew:((backTo cpos (starEach (e :: es) X.env)).all (fun x=>!x.1) && (backToKw cpos (keywordEach [] X.env)).all (fun x=>x.1.isSome)
   && decide ((e :: es).length+([] : List Keyword).length+(if ([] : List Keyword).isEmpty then 0 else 1) < 30))=true:=by rfl)
  (hline:(apos.endLine == cpos.line)=true:=by rfl) (hs:starEach (e :: es) X.env=(false,eval e X.env) :: starEach es X.env:=by rfl) (hplain:(backTo cpos (starEach es X.env)).any (·.1)=false:=by rfl) :
  PE X (.Call (.Attribute o name apos) (e :: es) [] cpos) (tBMF chk r to t):=by
 intro pins s σ H Q I h
 refine wpAny_Call_method_late hbase hfew hline rfl (thn (ho pins s σ H _ I h) fun v s1 ⟨x,H1,I1,r1,ty,q1⟩=>?_)
 obtain⟨h1,h2⟩:=h5p I1 r1 (hchk x H1 ty)
 refine⟨T,id,pa,slot,hty,h1,h2,?_⟩
 have hA:=ha cpos pins s1 σ H1 _ I1 q1
 rw [hs] at hA ⊢
 refine Calls.callWith_builtin (by show (false || (backTo cpos (starEach es X.env)).any (·.1))=false; rw [hplain] <;> rfl) (Calls.evalArgs_plain ?_)
 exact thn hA fun us s2 ⟨vs,H2,I2,r2,q2⟩=>hm pins s2 σ H2 x vs v us Q I2 r1 r2 q2
noncomputable def i8h:V->List V->Hp->VK->Prop:=fun x vs H Q=>match x,vs with
 | .ref l,[y]=>(match H l with
  | some (.lst xs)=>xs.length < sizeLine/\All (fun v H1=>v = .non/\a7h l H H1/\H1 l=some (.lst (xs++[y]))) Q ⟨⟩ ⟨⟩
  | _=>False)
 | _,_=>False
theorem c1r : MtR X "list.append" i8h := MtR.weak (r := g8q) d3o fun x vs H Q h => by
 match x,vs,h with
 | .ref l,[y],h =>
  have h':(match H l with
   | some (.lst xs)=>xs.length < sizeLine/\All (fun v H1=>v = .non/\a7h l H H1/\H1 l=some (.lst (xs++[y]))) Q ⟨⟩ ⟨⟩
   | _=>False):=h
  split at h'
  ·rename_i xs e
   exact⟨l,xs,y,rfl,rfl,e,h'.1,h'.2 _ _ ⟨rfl,a7h.upd,a5y⟩⟩
  ·exact h'.elim
end
noncomputable def g4y{α:Type}(xs:List α)(lo hi:Option Int):List α:=(xs.drop (HT.sIx xs.length 0 lo)).take (HT.sIx xs.length xs.length hi - HT.sIx xs.length 0 lo)
theorem h3k{α β:Type}(f:α->β)(xs:List α)(lo hi:Option Int):g4y (xs.map f) lo hi=(g4y xs lo hi).map f:=by
 unfold g4y
 rw [List.length_map,List.map_take,List.map_drop]
theorem g9e(ns:List Int)(lo hi:Option Int):g1z (ns.map V.int) lo hi=(g4y ns lo hi).map V.int:=h3k V.int ns lo hi
theorem c9g{α:Type}(xs:List α)(a:Nat):g4y xs (some (a:Int)) none=xs.drop a:=by
 unfold g4y
 rw [HT.h7y,HT.h2y]
 by_cases h:a<=xs.length
 ·rw [Nat.min_eq_left h,List.take_of_length_le (by rw [List.length_drop] <;> exact Nat.le_refl _)]
 ·rw [Nat.min_eq_right (by omega),List.drop_length,List.drop_of_length_le (by omega)]
  simp
end L2
namespace L2
theorem g9f(F:Nat->St->Hp->Prop):∃ Pv:Nat->St->Hp->Prop,(∀ i σ H,F i σ H->Pv i σ H)/\∀ i σ H,Pv i σ H->F i σ H:=⟨F,fun _ _ _ h=>h,fun _ _ _ h=>h⟩
theorem i6l(F:St->Hp->Prop):∃ Pv:St->Hp->Prop,(∀ σ H,F σ H->Pv σ H)/\∀ σ H,Pv σ H->F σ H:=⟨F,fun _ _ h=>h,fun _ _ h=>h⟩
end L2
namespace L2
open PySem PySem.Spec PyProof.Rows
open PySem.Builtin.Int (intBits)
section
variable {X:Cx}
noncomputable def rSumF:List V->Hp->VK->Prop:=fun xs H Q=>match xs with
 | [.ref p]=>(match H p with
  | some (.lst ys)=>∃ ns:List Int,ys=ns.map V.int/\Q (.int ns.sum) H
  | _=>False)
 | _=>False
end
def Stop(p:Prop)(_:Tag p):Prop:=p
theorem Stop.go{p:Prop}{t:Tag p}(h:p):Stop p t:=h
def i3q(t u:TS):TS:=fun D σ H=>t { D with nx:=fun σ' H'=>Stop (u D σ' H') ⟨⟩ } σ H
theorem d9o{X:Cx}{st:Stmt}{rest:List Stmt}{t u:TS}(h1:PS X st t)(h2:PSs X rest u):PSs X (st :: rest) (i3q t u):=a0j h1 h2
def Hs(H:Hp)(fs:List (Addr×HO)):Prop:=(fs.map (·.1)).Nodup/\∀ p∈fs,H p.1=some p.2
theorem Hs.nil{H:Hp}:Hs H []:=⟨List.nodup_nil,fun _ h=>nomatch h⟩
theorem Hs.fresh{H:Hp}{fs:List (Addr×HO)}{a:Addr}(F:Hs H fs)(n:H a=none):a∉fs.map (·.1):=fun h=>by
 obtain⟨p,hp,e⟩:=List.mem_map.mp h
 have:=F.2 p hp
 rw [e,n] at this
 cases this
theorem i8i{ns:List Int}{i:Nat}(h:i < ns.length):atI (ns.map V.int) (i:Int)=some (.int (ns.getD i 0)):=by
 refine c5k ?_
 rw [List.getElem?_map,List.getElem?_eq_getElem h,List.getD_eq_getElem?_getD,List.getElem?_eq_getElem h]
 rfl
def j0x(H:Hp)(cs:List Addr)(bs:List (List Int)):Prop:=cs.length=bs.length/\∀ (i:Nat) c b,cs[i]? = some c->bs[i]? = some b->H c=some (.lst (b.map V.int))
theorem j0x.two{H:Hp}{a b:Addr}{x y:List Int}(ha:H a=some (.lst (x.map V.int)))(hb:H b=some (.lst (y.map V.int))):j0x H [a,b] [x,y]:=by
 refine⟨rfl,fun i c d e1 e2=>?_⟩
 match i,e1,e2 with
 | 0,e1,e2=>cases e1; cases e2; exact ha
 | 1,e1,e2=>cases e1; cases e2; exact hb
 | i+2,e1,e2=>simp at e1
def g4z(H:Hp)(xs:List V)(v:V)(H':Hp):Prop:=∃ b,v = .ref b/\H b=none/\Same H H'/\H' b=some (.lst xs)
def g5a(H:Hp)(xs:List V)(v:V)(H':Hp):Prop:=∃ b,v = .ref b/\H b=none/\Same H H'/\H' b=some (.tup xs)
noncomputable def h3l(q:Rat):List V:=[.int q.num,.int (q.den:Nat)]
end L2
namespace L2
open PySem PySem.Spec PyProof.Rows
noncomputable def h8m(o:Obj):Option Value:=match o.data with
 | .fields vs=>vs[2]?
 | _=>none
def Kd(e:Addr)(d:Option Addr×Option Value)(h:Heap):Prop:=∃ o,h.get? e=some o/\o.dict=d.1/\h8m o=d.2
noncomputable def c4k{α:Type}:Sem α->Prop
 | .pure _=>True
 | .raise _=>True
 | .unsupported _=>True
 | .finish _=>True
 | .rule _ k=>c4k (k ())
 | .at _ k=>c4k (k ())
 | .load _ _ k=>∀ o,c4k (k o)
 | .update _ _ f k=>(∀ o:Obj,o.isFreed=false->(f o).isFreed=false/\(f o).dict=o.dict/\h8m (f o)=h8m o)/\c4k (k ())
 | .alloc _ k=>∀ a,c4k (k a)
 | .stack k=>∀ x,c4k (k x)
 | _=>False
theorem c4k.bind{α β:Type}{f:α->Sem β}(hf:∀ a,c4k (f a)):∀ {m:Sem α},c4k m->c4k (m >>= f):=by
 intro m
 induction m with
 | pure a=>intro _; exact hf a
 | raise e=>intro _; exact True.intro
 | unsupported w=>intro _; exact True.intro
 | finish e=>intro _; exact True.intro
 | rule t k ih=>intro h; exact ih () h
 | «at» p k ih => intro h; exact ih () h
 | load a p k ih=>intro h o; exact ih o (h o)
 | update a p g k ih=>intro h; exact⟨h.1,ih () h.2⟩
 | alloc o k ih=>intro h a; exact ih a (h a)
 | stack k ih=>intro h x; exact ih x (h x)
 | _=>intro h; exact False.elim h
theorem Kd.push{e:Addr}{d:Option Addr×Option Value}{h:Heap}(x:Kd e d h)(o:Obj):Kd e d (h.push o) :=
 let ⟨u,a,b⟩:=x; ⟨u,Heap.get?_push_of_some _ a,b⟩
theorem Kd.upd{e a:Addr}{d:Option Addr×Option Value}{h:Heap}{f:Obj->Obj}(x:Kd e d h)(hf:∀ o:Obj,o.isFreed=false->(f o).isFreed=false/\(f o).dict=o.dict/\h8m (f o)=h8m o):Kd e d (h.update a f):=by
 obtain⟨u,q,b⟩:=x
 have y:=hf u (Heap.get?_some_iff.mp q).2
 by_cases hb:a=e
 ·subst hb
  exact⟨_,Heap.get?_update_self f q y.1,y.2.1.trans b.1,y.2.2.trans b.2⟩
 ·exact⟨u,(Heap.get?_update_other h f hb).trans q,b⟩
theorem c4k.wp{α:Type}{M:Model}{Γ:PySem.Ctx}{e:Addr}{d:Option Addr×Option Value}{Q:α->Pos->Shared->Prop}{E:Value->Pos->Shared->Prop}:∀ {t:Sem α} {p:Pos} {s:Shared},c4k t->Sem.wp M Γ t Q E p s->Kd e d s.heap ->
  Sem.wp M Γ t (fun a p s'=>Q a p s'/\Kd e d s'.heap) (fun v p s'=>E v p s'/\Kd e d s'.heap) p s:=by
 intro t
 induction t with
 | pure a=>intro p s _ h k; rw [Sem.wp] at h ⊢; exact⟨h,k⟩
 | raise e=>intro p s _ h k; rw [Sem.wp] at h ⊢; exact⟨h,k⟩
 | unsupported w=>intro p s _ h k; rw [Sem.wp] at h; exact False.elim h
 | finish e=>intro p s _ h k; rw [Sem.wp] at h; exact False.elim h
 | rule t k ih=>intro p s m h q; rw [Sem.wp] at h ⊢; exact ih () m h q
 | «at» p k ih => intro p s m h q; rw [Sem.wp] at h ⊢; exact ih () m h q
 | load a p k ih=>intro p s m h q; rw [Sem.wp] at h ⊢; exact let ⟨o,x,y⟩:=h; ⟨o,x,ih o (m o) y q⟩
 | update a p g k ih=>intro p s m h q; rw [Sem.wp] at h ⊢; exact⟨h.1,ih () m.2 h.2 (q.upd m.1)⟩
 | alloc o k ih=>intro p s m h q; rw [Sem.wp] at h ⊢; exact ih _ (m _) h (q.push o)
 | stack k ih=>intro p s m h q; rw [Sem.wp] at h ⊢; exact ih _ (m _) h q
 | _=>intro p s m; exact False.elim m
theorem c4k.any{α:Type}{M:Model}{A:Around}{e:Addr}{d:Option Addr×Option Value}{Q:α->Shared->Prop}{E:Value->Shared->Prop}{t:Sem α}{s:Shared}(m:c4k t)(h:wpAny M A t Q E s)(k:Kd e d s.heap) :
  wpAny M A t (fun a s'=>Q a s'/\Kd e d s'.heap) (fun v s'=>E v s'/\Kd e d s'.heap) s:=fun Γ p hΓ=>m.wp (h Γ p hΓ) k
theorem c6s{v:Value}{i:Nat}:c4k (field v i):=by
 unfold field fieldsOf
 refine c4k.bind (fun vs=>?_) ?_
 ·split <;> exact True.intro
 ·split
  ·refine c4k.bind (fun o=>?_) (fun o=>True.intro)
   split <;> exact True.intro
  ·exact True.intro
theorem c1h{v x:Value}{i:Nat}(hi:i≠2):c4k (setField v i x):=by
 unfold setField updateField
 split
 ·refine c4k.bind (fun o=>?_) (fun o=>True.intro)
  split
  ·split
   ·refine⟨fun o ho=>?_,True.intro⟩
    obtain⟨c,dd,dt,sl⟩:=o
    cases dt with
    | fields vs=>exact⟨rfl,rfl,Array.getElem?_setIfInBounds_ne hi⟩
    | _=>first | exact⟨rfl,rfl,rfl⟩ | exact⟨ho,rfl,rfl⟩
   ·exact True.intro
  ·exact True.intro
 ·exact True.intro
theorem c5l{e:Value}:c4k (setFlight e none):=by
 unfold setFlight
 refine c4k.bind (fun v=>?_) c6s
 split
 ·exact c1h (by decide)
 ·exact True.intro
theorem f4o:∀ l:List Env,c4k (readyFrames l)
 | []=>True.intro
 | env :: outer=>by
  unfold readyFrames
  split
  ·refine c4k.bind (fun o=>?_) (fun o=>True.intro)
   split
   ·exact True.intro
   ·refine c4k.bind (fun b=>?_) ?_
    ·refine c4k.bind (fun v=>?_) ?_
     ·refine c4k.bind (fun _=>f4o outer) ⟨fun o ho=>?_,True.intro⟩
      obtain⟨c,dd,dt,sl⟩:=o
      cases dt <;> first | exact⟨rfl,rfl,rfl⟩ | exact⟨ho,rfl,rfl⟩
     ·unfold keptBack
      split
      ·split
       ·exact True.intro
       ·unfold underTheClaimsCaller
        exact c4k.bind (m := (do return (← stack).any fun (c, _) => match c with | .builtin "claim.caller" _ => true | _ => false : Sem Bool)) (fun v => by exact True.intro) (c4k.bind (m := stack) (fun v => by exact True.intro) fun _ => True.intro)
      ·exact True.intro
    ·unfold behindIsImport
     split
     ·exact True.intro
     ·split
      ·exact True.intro
      ·exact c4k.bind (fun v=>by exact True.intro) c6s
  ·exact True.intro
theorem d9p{e:Value}{env:Env}:c4k (noteFrame e env):=by
 have rest:∀ (f:Addr) (head:Value),c4k (do setField e 1 (<- EntryCells.newEntry head (<- PySem.frameOf env) .none (rawInt f) .none (<- entryPlaceOf f (head != .none)))):=fun f head=>by
  refine c4k.bind (fun a=>c4k.bind (fun pl=>c4k.bind (fun b=>c1h (by decide)) ?_) ?_) ?_
  ·unfold EntryCells.newEntry newFields newObj
   dsimp only
   generalize (([head,a,.none,rawInt f,.none] : List Value)++(if pl.isEmpty then List.replicate 6 .none else pl)).toArray=vs
   by_cases hz:vs.size > sizeLine+2
   ·rw [if_pos hz]
    exact True.intro
   ·rw [if_neg hz]
    exact fun _=>True.intro
  ·unfold entryPlaceOf
   refine c4k.bind (fun acts=>?_) (fun _=>True.intro)
   split <;> exact True.intro
  ·unfold PySem.frameOf frameEnvs
   refine c4k.bind (fun l=>c4k.bind (fun o=>?_) ?_) (c4k.bind (fun _=>by exact True.intro) fun _=>True.intro)
   ·split <;> exact True.intro
   ·unfold frameObject
    split
    ·exact True.intro
    ·exact c4k.bind (fun _=>by exact True.intro) (f4o _)
 unfold noteFrame
 split
 ·refine c4k.bind (fun head=>?_) c6s
  split
  ·refine c4k.bind (fun v=>?_) c6s
   split
   ·exact True.intro
   ·exact c4k.bind (fun _=>rest _ _) (c1h (by decide))
  ·exact rest _ _
 ·exact True.intro
theorem c9h{env:Env}{e:Value}:c4k (leaving env e):=by
 unfold leaving
 exact c4k.bind (fun _=>c5l) d9p
section
variable {M:Model}{A:Around}{E:Value->Shared->Prop}{s:Shared}{base:Heap}{env:Env}{outer l:List Env}{L e:Addr}{cls a0:Value}{dx:Option Addr×Option Value}{Q:Unit->Shared->Prop}
theorem d9q(hfr:A.frames=some (env :: outer))(hf:env.frame=some L)(hfl:Heap.FlyingW base (env :: outer) e cls a0 s.heap)(kd:Kd e dx s.heap)
  (hQ:∀ h',Heap.HeldW base (env :: outer) e cls a0 L h'->s.heap.UpToSlots h'->Kd e dx h'->Q () { s with heap:=h' }):wpAny M A (noteFrame (.ref e) env) Q E s:=by
 refine wpAny_mono (d9p.any (E:=fun _ _=>False) (wpAny_looks_onW (Q:=fun _ s'=>∃ h',s' = { s with heap:=h' }/\Heap.HeldW base (env :: outer) e cls a0 L h'/\s.heap.UpToSlots h') hfr hf hfl fun h' a b=>⟨h',rfl,a,b⟩) kd) (fun _ s' z=>?_) fun _ _ z=>z.1.elim
 obtain⟨⟨h',rfl,a,b⟩,c⟩:=z
 exact hQ h' a b c
theorem h6e(hh:Heap.HeldW base l e cls a0 L s.heap)(kd:Kd e dx s.heap)(hQ:∀ h',Heap.FlyingW base l e cls a0 h'->s.heap.UpToSlots h'->Kd e dx h'->Q () { s with heap:=h' }):wpAny M A (setFlight (.ref e) none) Q E s:=by
 refine wpAny_mono (c5l.any (E:=fun _ _=>False) (wpAny_landsW (Q:=fun _ s'=>∃ h',s' = { s with heap:=h' }/\Heap.FlyingW base l e cls a0 h'/\s.heap.UpToSlots h') hh fun h' a b=>⟨h',rfl,a,b⟩) kd) (fun _ s' z=>?_) fun _ _ z=>z.1.elim
 obtain⟨⟨h',rfl,a,b⟩,c⟩:=z
 exact hQ h' a b c
theorem h6f(hh:Heap.FlyingW base l e cls a0 s.heap)(kd:Kd e dx s.heap)(hQ:∀ h',Heap.FlyingW base l e cls a0 h'->s.heap.UpToSlots h'->Kd e dx h'->Q () { s with heap:=h' }):wpAny M A (setFlight (.ref e) none) Q E s:=by
 refine wpAny_mono (c5l.any (E:=fun _ _=>False) (lands_againW (Q:=fun _ s'=>∃ h',s' = { s with heap:=h' }/\Heap.FlyingW base l e cls a0 h'/\s.heap.UpToSlots h') hh fun h' a b=>⟨h',rfl,a,b⟩) kd) (fun _ s' z=>?_) fun _ _ z=>z.1.elim
 obtain⟨⟨h',rfl,a,b⟩,c⟩:=z
 exact hQ h' a b c
theorem g6h(hfr:A.frames=some (env :: outer))(hf:env.frame=some L)(hfl:Heap.FlyingW base (env :: outer) e cls a0 s.heap)(kd:Kd e dx s.heap)
  (hQ:∀ h',Heap.FlyingW base outer e cls a0 h'->s.heap.UpToSlots h'->Kd e dx h'->Q () { s with heap:=h' }):wpAny M A (leaving env (.ref e)) Q E s:=by
 refine wpAny_mono (c9h.any (E:=fun _ _=>False) (wpAny_leaves_onW (Q:=fun _ s'=>∃ h',s' = { s with heap:=h' }/\Heap.FlyingW base outer e cls a0 h'/\s.heap.UpToSlots h') hfr hf hfl fun h' a b=>⟨h',rfl,a,b⟩) kd) (fun _ s' z=>?_) fun _ _ z=>z.1.elim
 obtain⟨⟨h',rfl,a,b⟩,c⟩:=z
 exact hQ h' a b c
theorem f5z{oe:Obj}{vs:Array Value}(hfr:A.frames=some (env :: outer))(hf:env.frame=some L)(hl:s.heap.FunFrames base (env :: outer))(he:s.heap.get? e=some oe)(hc:oe.cls=cls)(hkb:base.StaysIn s.heap)(hen:base.get? e=none)
  (hd:oe.data = .fields vs) (h1:vs[1]? = some .none) (h0:vs[0]? = some a0) (hdx:oe.dict=dx.1) (hcx:h8m oe=dx.2)
  (hQ:∀ h',Heap.FlyingW base outer e cls a0 h'->s.heap.UpToSlots h'->Kd e dx h'->Q () { s with heap:=h' }):wpAny M A (leaving env (.ref e)) Q E s:=by
 subst hc
 refine wpAny_mono (c9h.any (e:=e) (d:=dx) (E:=fun _ _=>False) (wpAny_leaving_firstW (Q:=fun _ s'=>∃ h',s' = { s with heap:=h' }/\Heap.LeftW base (env :: outer) e oe.cls a0 s.heap h') hfr hl hf he hkb hen hd h1 h0 fun h' a=>⟨h',rfl,a⟩) ⟨_,he,hdx,hcx⟩) (fun _ s' z=>?_) fun _ _ z=>z.1.elim
 obtain⟨⟨h',rfl,⟨k1,⟨_,_,k2⟩,k3,k4⟩⟩,c⟩:=z
 exact hQ h' ⟨k1,hen,k2,k3⟩ k4 c
end
end L2
namespace L2
open PySem PySem.Spec PyProof.Rows
noncomputable def CXF(st:Bool)(P:Program)(w:World):CXT:=fun outer H s E e s'=>∃ (a:Addr) (C a0:Value) (B:Heap) (H':Hp),e = .ref a/\Heap.FlyingW B outer a C a0 s'.heap/\s'.os=s.os/\AllBare s'.gens /\
 (∀ h',B.StaysIn h'->s'.heap.UpToSlots h'->Un (frs outer) [] H H' s.heap h'/\HOk P w H' h')/\H' a=none/\s.heap.get? a=none/\∃ dx cx,Kd a (dx,cx) s'.heap/\(st=true->cx=some .none)/\E C dx H'
noncomputable abbrev CXE(P:Program)(w:World):CXT:=CXF false P w
theorem b2m.obj{P:Program}{w:World}{H:Hp}{h:Heap}{a:Addr}{o:HO}(x:b2m P w H h a o):∃ u,h.get? a=some u:=by
 cases o with
 | lst xs=>obtain⟨_,_,_,_,e⟩:=x; exact⟨_,e⟩
 | tup xs=>obtain⟨_,_,_,ob,e,_⟩:=x; exact⟨_,e⟩
 | dK kvs=>obtain⟨_,_,_,_,o,_,_,e,_⟩:=x; exact⟨_,e⟩
 | dT kvs=>obtain⟨_,_,_,_,o,_,_,e,_⟩:=x; exact⟨_,e⟩
 | set S n=>obtain⟨o,_,_,_,e,_⟩:=x; exact⟨_,e⟩
 | ins C dx fs=>obtain⟨_,_,_,e,_⟩:=x; exact⟨_,e⟩
 | own y=>obtain⟨_,e⟩:=x; exact⟨_,e⟩
 | xd fs=>obtain⟨_,⟨_,_,_,e,_⟩,_⟩:=x; exact⟨_,e⟩
 | rng lo hi=>obtain⟨_,_,_,e⟩:=x; exact⟨_,e⟩
 | frz ob u=>obtain⟨e,_⟩:=x; exact⟨_,e⟩
 | tbl ps=>exact⟨_,(show h.get? a=some _ from x)⟩
 | met f y=>exact⟨_,(show h.get? a=some _ from x)⟩
 | ext φ=>obtain⟨_,⟨_,e⟩,_⟩:=x; exact⟨_,e⟩
section
variable {X:Cx}{pins:List (Addr×Obj)}{σ:St}{H:Hp}{s:Shared}
theorem g9g{e:Addr}{cls:Value}{args:List Value}{h1 h':Heap}(I:Inv X pins σ H s)(hx:Heap.MadeExcOf s.heap h1 e cls args)(hB:(PySem.W.hideAll s.heap (frs X.stack)).StaysIn h')(hU:h1.UpToSlots h') :
  Un (frs X.stack) [] H H s.heap h'/\HOk X.prog X.w H h':=by
 have kb:∀ b o,s.heap.get? b=some o->b∉frs X.stack->h'.get? b=some o:=fun b o q n=>hB b o (PySem.W.hideAll_get _ q n)
 have kf:∀ b o,s.heap.get? b=some o->b∈frs X.stack->∃ sl,h'.get? b=some { o with slots:=sl }:=fun b o q hb=>by
  obtain⟨_,o',q',nf⟩:=I.stack.mem hb
  rw [q] at q'
  cases q'
  exact hU b o (hx.keeps b o q) nf
 refine⟨⟨fun b o q _ hb _=>kb b o q hb,fun b o q _ hb _=>kf b o q hb,fun _ _ _ n _=>n,fun b o q _=>?_,fun _ _ q=>q,fun _ _ _ q=>q,fun _ ps q=>⟨#[],by rw [q]; simp⟩⟩,fun a o e=>?_⟩
 ·by_cases hb:b∈frs X.stack
  ·obtain⟨sl,z⟩:=kf b o q hb
   exact⟨_,z⟩
  ·exact⟨o,kb b o q hb⟩
 ·refine (I.hok a o e).stay (fun b u hb q=>kb b u q fun z=>?_) (fun _ q=>q) fun _ _ q=>q
  have hn:=I.g1y b z
  rcases hb with r | r
  ·rw [r,e] at hn
   cases hn
  ·rw [hn] at r
   cases r
theorem f9w{e:Addr}{cls:Value}{args:List Value}{h1:Heap}(I:Inv X pins σ H s)(hx:Heap.MadeExcOf s.heap h1 e cls args):H e=none:=by
 cases q:H e with
 | none=>rfl
 | some o =>
  obtain⟨u,z⟩:=(I.hok e o q).obj
  rw [hx.new] at z
  cases z
theorem Inv.caught{H':Hp}{s':Shared}{h':Heap}{t':Nat}(I:Inv X pins σ H s)(os:s'.os=s.os)(bare:AllBare s'.gens)(u:Un (frs X.stack) [] H H' s.heap h')(hok:HOk X.prog X.w H' h'):Inv X pins σ H' { s' with heap:=h',toks:=t' }:=by
 obtain⟨hh,g,d,t,os'⟩:=s'
 obtain rfl:os'=s.os:=os
 exact Inv.call (s:=s) (h':=h') (g':=g) (d':=d) (t':=t') (ch:=[]) I u hok bare (fun b z=>absurd z (by simp))
theorem Inv.older{a:Addr}(I:Inv X pins σ H s)(hex:X.ex = [])(h:s.heap.get? a=none):X.s₀.heap.get? a=none:=by
 cases q:X.s₀.heap.get? a with
 | none=>rfl
 | some o =>
  obtain⟨o',z⟩:=I.base.there a o q (by rw [hex]; simp)
  rw [h] at z
  cases z
theorem Inv.track{a:Addr}{o:HO}(I:Inv X pins σ H s)(h1:X.s₀.heap.get? a=none)(h2:a≠X.env.locals)(h3:∀ x c,X.env.cells.lookup x=some c->c≠a)(h4:∀ p∈X.pn++pins,p.1≠a)(hH:H a=none)
  (new:b2m X.prog X.w (upd H a o) s.heap a o):Inv X pins σ (upd H a o) s:=by
 refine⟨I.ok,I.os,I.bare,⟨I.base.keep,I.base.slot,fun b u q n hx=>?_,I.base.there,fun b xs q=>?_,fun b u xs q=>?_,fun b ps q=>?_⟩,I.loc,I.cell,?_,fun x c e=>?_,fun p hp=>?_,fun b u e=>?_,I.len⟩
 ·rw [a6u (fun z=>by rw [z,h1] at q; cases q)]
  exact I.base.free b u q n hx
 ·have z:=I.base.tups b xs q
  rw [a6u (a8j z hH)]
  exact z
 ·have z:=I.base.f8w b u xs q
  rw [a6u (a8j z hH)]
  exact z
 ·obtain⟨m,z⟩:=I.base.g1u b ps q
  exact⟨m,by rw [a6u (a8j z hH)]; exact z⟩
 ·rw [a6u h2.symm]
  exact I.free
 ·rw [a6u (h3 x c e)]
  exact I.d2i x c e
 ·obtain⟨e,n,ne,nf,d⟩:=I.pin p hp
  exact⟨e,by rw [a6u (h4 p hp)]; exact n,ne,nf,d⟩
 ·by_cases hb:b=a
  ·subst hb
   rw [a5y] at e
   cases e
   exact new
  ·rw [a6u hb] at e
   exact (I.hok b u e).stay (fun _ _ _ q=>q) (fun c q=>by rw [a6u (a8j q hH)]; exact q) fun c xs q=>by rw [a6u (a8j q hH)]; exact q
def h6g(X:Cx)(E:XK):Prop:=∀ (pins:List (Addr×Obj)) (σ:St) (H:Hp) (s:Shared) (e C:Addr) (args:List Value) (h':Heap),Inv X pins σ H s->Heap.MadeExcOf s.heap h' e (.ref C) args->E (.ref C) none H->X.xe (.ref e) { s with heap:=h' }
end
section
variable {P:Program}{w:World}{K:PySem.W.Frag}{mg:Str->Option Value}{base:Heap}{N:List Str}{qual:Str}{scope:Scope}{f:Addr}{cd:Value}{A:Around}{outer:List Env}{s:Shared}{H:Hp}{E:XK}
theorem a8n{st:Bool}:h6g (g7o (CXF st P w) P w K mg base N qual scope f cd A outer s H E) E:=by
 intro pins σ H1 s1 e C args h1 I hx he
 show wpAny (model P w) (A.deeper (envOfC qual scope s.heap.objs.size f cd)) (leaving (envOfC qual scope s.heap.objs.size f cd) (.ref e)) (fun _ s''=>CXF st P w outer H s E (.ref e) s'') (fun e' s''=>CXF st P w outer H s E e' s'') { s1 with heap:=h1 }
 have hin:∀ env∈(envOfC qual scope s.heap.objs.size f cd :: outer),∀ b,env.frame=some b->b∈frs (envOfC qual scope s.heap.objs.size f cd :: outer):=fun env he b hb=>List.mem_filterMap.mpr ⟨env,he,hb⟩
 obtain⟨t,he0,htn,ht⟩:=hx.there
 have hkb:(PySem.W.hideAll s1.heap (frs (envOfC qual scope s.heap.objs.size f cd :: outer))).StaysIn s1.heap:=fun b o q=>PySem.W.of_hideAll _ q
 have hno:(PySem.W.hideAll s1.heap (frs (envOfC qual scope s.heap.objs.size f cd :: outer))).get? e=none:=by
  cases q:(PySem.W.hideAll s1.heap (frs (envOfC qual scope s.heap.objs.size f cd :: outer))).get? e with
  | none=>rfl
  | some o=>have z:=hkb e o q; rw [hx.new] at z; cases z
 refine f5z (base:=PySem.W.hideAll s1.heap (frs (envOfC qual scope s.heap.objs.size f cd :: outer))) I.ok.frames rfl ((PySem.W.funFrames_hide I.stack hin).of_keeps fun b o hb _=>⟨o,hx.keeps b o hb,rfl⟩) he0 rfl (fun b o hb=>hx.keeps b o (hkb b o hb)) hno rfl rfl rfl (dx:=(none,some .none)) rfl rfl fun h2 fl u kd=>?_
 refine⟨e,.ref C,.ref t,_,H1,rfl,fl,I.os,I.bare,fun h3 b3 u3=>?_,f9w I hx,I.older rfl hx.new,none,some .none,kd,fun _=>rfl,he⟩
 have z:=g9g I hx b3 (u.trans u3)
 exact⟨(I.caught (s':=s1) (t':=0) rfl I.bare z.1 z.2).base,z.2⟩
theorem c5m:Passes (CXE P w) (g7o (CXE P w) P w K mg base N qual scope f cd A outer s H E) E:=by
 intro pins σ H1 s1 e s' I h
 obtain⟨a,C,a0,B,H',rfl,fl,os,bare,un,hn,nw,dx,cx,kd,hcx,he⟩:=h
 show wpAny (model P w) (A.deeper (envOfC qual scope s.heap.objs.size f cd)) (leaving (envOfC qual scope s.heap.objs.size f cd) (.ref a)) (fun _ s''=>CXE P w outer H s E (.ref a) s'') (fun e' s''=>CXE P w outer H s E e' s'') s'
 refine g6h I.ok.frames rfl fl kd fun h2 fl2 u2 kd2=>?_
 refine⟨a,C,a0,B,H',rfl,fl2,os.trans I.os,bare,fun h3 b3 u3=>?_,hn,I.older rfl nw,dx,cx,kd2,hcx,he⟩
 have z:=un h3 b3 (u2.trans u3)
 exact⟨(I.caught (s':=s') (t':=0) os bare z.1 z.2).base,z.2⟩
theorem Fun.okX{x:Str}{st:Stmt}{fd:FuncData}{ps:List Str}{k:Nat}{sp:Sp}(F:Fun K x qual st f fd)(S:a1w N ps (a0q st))(len:∀ vs H Q E,sp vs H Q E->vs.length=ps.length)
  (hbody:∀ (cdv:Value) (A:Around) (outer:List Env) (s:Shared) (H:Hp) (vs:List V) (Q:VK) (E:XK),a5z k (A.deeper (envOfC qual (a0q st) s.heap.objs.size f cdv))->sp vs H Q E ->
   ∃ t,PSs (g7o (CXE P w) P w K mg base N qual (a0q st) f cdv A outer s H E) (d2j st) t/\t { nx:=fun _ H'=>Q .non H',rt:=Q } (start N vs) H):a3q P w K mg base (CXE P w) (k+1) f fd ps sp:=by
 obtain⟨oc,od,kV,doc,pm,an,cdv,ct,osl,rfl,lk,hcd⟩:=F.ex
 exact h7x lk hcd S len fun A outer s H vs Q E hr hsp=>hbody cdv A outer s H vs Q E hr hsp
end
theorem a3q.or{P:Program}{w:World}{K:PySem.W.Frag}{mg:Str->Option Value}{base:Heap}{k:Nat}{f:Addr}{fd:FuncData}{ps:List Str}{sp sp':Sp}(F:a3q P w K mg base CX0 k f fd ps sp)(G:a3q P w K mg base (CXE P w) k f fd ps sp') :
  a3q P w K mg base (CXE P w) k f fd ps (fun vs H Q E=>sp vs H Q E\/sp' vs H Q E):=by
 refine⟨fun vs H Q E h=>h.elim (F.len vs H Q E) (G.len vs H Q E),fun A outer s H args us vs Q E hr e0 hb hv h=>?_⟩
 rcases h with h | h
 ·refine codeAny_mono (F.run A outer s H args us vs Q E hr e0 hb hv h) fun r s' q=>?_
  cases r with
  | error e=>exact False.elim q
  | ok fl=>cases fl <;> exact q
 ·exact G.run A outer s H args us vs Q E hr e0 hb hv h
abbrev vE : List Value := [.type "ValueError", .type "Exception", .type "BaseException", .type "object"]
structure Exc(K:PySem.W.Frag)(C:Addr):Prop where
 ok : PySem.W.excIn K C vE "ValueError.__new__" = true
theorem g9h{K:PySem.W.Frag}{h:Heap}{C:Addr}{bmB:List Value}{newId:String}(X:K.In h)(q:PySem.W.excIn K C bmB newId=true) :
  ∃ bm N nm qn bs hdct sn sub ab col dd k0 k1 k2 k3 k5 mN, h.get? C = some (excClassObj nm qn C N bs bm hdct sn sub ab col dd k0 k1 k2 k3 k5 newId) ∧ h.Ns N mN ∧ mN "__init__" = none ∧ OwnTail h bmB bm := by
 unfold PySem.W.excIn at q
 split at q
 ·rename_i dd cd sl ho
  split at q
  ·rename_i C' bm k0 k1 k2 k3 n k5 hm hs
   simp only [Bool.and_eq_true,beq_iff_eq,Bool.not_eq_true'] at q
   obtain⟨⟨⟨⟨⟨q1,q2⟩,hdel⟩,ht⟩,hok⟩,hni⟩:=q
   subst q1 q2
   obtain⟨nm,bs,mro,ns,qn,hd,sn,sub,ab,col,del⟩:=cd
   dsimp only at hm hdel hok hni
   subst hm hdel
   obtain⟨l⟩:=sl
   have hs':l = [k0,k1,k2,k3,some (.builtin n),k5]:=hs
   subst hs'
   exact⟨bm,ns,nm,qn,bs,hd,sn,sub,ab,col,dd,k0,k1,k2,k3,k5,_,X _ _ ho,.of_isNs (PySem.W.isNs_of_in X hok),PySem.W.nsMap_none_of_in X hok hni,PySem.W.tail_of_in X ht⟩
  ·cases q
 ·cases q
section
variable {X:Cx}{e₀:Expr}{rest:List Expr}{t:TA}{x:Str}{C:Addr}{E:XK}{np cpos pos:Pos}
def i3r(C:Addr)(E:XK)(t:TA):TS:=fun _ σ H=>t σ H fun vs H1=>vs.length<=sizeLine/\E (.ref C) none H1
theorem a8o(O:Exc X.K C)(hm:X.mg x=some (.ref C))(hT:h6g X E)(hc:X.calm=true)(hg:Gl X x)(ha:PA X (e₀ :: rest) t)
  (he : starEach (e₀ :: rest) X.env = (false, eval e₀ X.env) :: starEach rest X.env := by rfl) (hplain : (backTo cpos (starEach rest X.env)).any (·.1) = false := by rfl) (hd : (x == ("__debug__" : Str)) = false := by decide) :
  PS X (.Raise (some (.Call (.Name x np) (e₀ :: rest) [] cpos)) none pos) (i3r C E t):=by
 intro pins s σ H D I h
 obtain⟨bm,N,nm,qn,bs,hdct,sn,sub,ab,col,dd,k0,k1,k2,k3,k5,mN,hC,hN,hni,T⟩:=g9h (h:=X.base) I.ok.mod.kin O.ok
 refine wpAny_Raise_call_subT (C:=C) (nm:=nm) (q:=qn) (N:=N) (bs:=bs) (bm:=bm) (hdct:=hdct) (sn:=sn) (sub:=sub) (ab:=ab) (col:=col) (dd:=dd) (k0:=k0) (k1:=k1) (k2:=k2) (k3:=k3) (k5:=k5)
  PySem.F.excBase_ValueError (mN:=mN) (T.hasType PySem.F.excBase_ValueError.hasBase) (I.ok.hd hc) (by rw [he]; show (false || (backTo cpos (starEach rest X.env)).any (·.1))=false; rw [hplain]; rfl) hni (c5i I hg hm ⟨rfl,?_⟩ hd)
 have hA:=ha cpos pins s σ H _ I h
 rw [he] at hA ⊢
 refine Calls.evalArgs_plain (wpAny_mono hA (fun us s2 h2=>?_) fun _ _ y=>y)
 obtain⟨vs,H1,I1,r,hl,hE⟩:=h2
 refine⟨rfl,?_,I1.bk _ _ hC,hN.keeps I1.bk,T.keeps I1.bk,fun h' e hx=>hT pins σ H1 s2 e C _ h' I1 hx hE⟩
 show us.length<=sizeLine
 rw [<- r.length]
 exact hl
end
structure d3t(K:PySem.W.Frag)(C:Addr):Prop where
 ga : PySem.W.findIn K (.ref C) "__getattribute__" = some (some (.builtin "BaseException.__getattribute__"))
 cl : PySem.W.findIn K (.ref C) "__class__" = some (some (.builtin "object.__class__"))
 ng : PySem.W.findIn K (.ref C) "__getattr__" = some none
 so : PySem.W.subIn K (.ref C) (.type "object") = some true
 sb : PySem.W.subIn K (.ref C) (.type "BaseException") = some true
 ty : PySem.W.typeIn K (.ref C) = some (.type "type")
 ic:PySem.W.isClsIn K C=true
 ss:PySem.W.subIn K (.ref C) (.ref C)=some true
theorem a0y{K:PySem.W.Frag}{C D:Addr}{b:Bool}(h:PySem.W.subIn K (.ref C) (.ref D)=some b)(c:d3t K C)(d:d3t K D):PySem.W.kitOne K (.ref C) (.ref D)=some b:=by
 unfold PySem.W.kitOne
 by_cases e:(Value.ref C == Value.ref D)=true
 ·rw [if_pos e]
  have z:C=D:=Value.ref.inj (beq_iff_eq.mp e)
  subst z
  rw [<- h,c.ss]
 ·rw [if_neg e]
  unfold PySem.W.kitCls
  have z : ((PySem.W.clsIn K D).isSome && PySem.W.typeIn K (.ref D) == some (.type "type")) = true := by
   rw [d.ty,show (PySem.W.clsIn K D).isSome=true from d.ic]
   rfl
  dsimp only
  rw [if_pos z]
  exact h
theorem b5z{K:PySem.W.Frag}{D:Addr}{n:String}{b:Bool}(h:PySem.W.subIn K (.type n) (.ref D)=some b)(d:d3t K D):PySem.W.kitOne K (.type n) (.ref D)=some b:=by
 unfold PySem.W.kitOne
 rw [if_neg (by simp)]
 unfold PySem.W.kitCls
 have z : ((PySem.W.clsIn K D).isSome && PySem.W.typeIn K (.ref D) == some (.type "type")) = true := by
  rw [d.ty,show (PySem.W.clsIn K D).isSome=true from d.ic]
  rfl
 dsimp only
 rw [if_pos z]
 exact h
theorem d0z{K:PySem.W.Frag}{C:Addr}{n:String}{b:Bool}(h:PySem.W.subIn K (.ref C) (.type n)=some b)(hm:PySem.W.kitMeta n=true):PySem.W.kitOne K (.ref C) (.type n)=some b:=by
 unfold PySem.W.kitOne
 rw [if_neg (by simp)]
 unfold PySem.W.kitCls
 dsimp only
 rw [if_pos hm]
 exact h
theorem c6t : PySem.W.kitMeta "ValueError" = true := by kernel_rfl
section
variable {prog:Program}{w:World}{A:Around}{E:Value->Shared->Prop}{h:Heap}{g:Array GenState}{d:Drawn}{t:Nat}{os:OsState}{a C:Addr}{o:Obj}{K:PySem.W.Frag}
theorem i3s{R:Result->Shared->Prop}(X:K.In h)(Z:d3t K C)(hx:h.get? a=some o)(hc:o.cls = .ref C)(hq:R (.ok (.ret (.ref C))) ⟨h,g,d,t,os⟩) :
  codeAny (model prog w) A (.call (.builtin "getset_descriptor.__get__") ⟨[.builtin "object.__class__", .ref a, .ref C], []⟩) R ⟨h, g, d, t, os⟩ := by
 have hT5 : (⟨h, g, d, t, os⟩ : Shared).TypeIs (.builtin "object.__class__") "getset_descriptor" := F.typeOf_object_class
 have hs : PySem.W.subIn K (.ref C) (.type (".".intercalate ("object.__class__".cutAt '.').dropLast)) = some true := by rw [F.owner_object_class]; exact Z.so
 refine codeAny_call_builtin F.slot_gs_get.plain F.entry_gs_get (F.slot_gs_get.check _ _ _ _ _ _ _ _ hT5 (F.args_gs_get _ _ _) ?_)
 repeat (any_goals (first | assumption | (with_reducible refine wpAny_loadPart_at hx ?_; rw [hc]) | with_reducible refine PySem.W.Looks.here (PySem.W.looks_subIn X hs) ?_ | wp_step))
 refine⟨Code.quiet_builtin _ (by decide +kernel),codeAny_builtin F.entry_object_class ?_⟩
 repeat (any_goals (first | assumption | (with_reducible refine wpAny_loadPart_at hx ?_; rw [hc]) | wp_step))
theorem h3m{M:Model}{nameV:Value}{Q:Unit->Shared->Prop}(X:K.In h)(Z:d3t K C)(hx:h.get? a=some o)(hc:o.cls = .ref C)(hq:Q () ⟨h,g,d,t,os⟩) :
  wpAny M A (checkBuiltinCall "BaseException.__getattribute__" ⟨[.ref a, nameV], []⟩) Q E ⟨h, g, d, t, os⟩ := by
 have hk : builtinKind "BaseException.__getattribute__" = some .slot := by decide +kernel
 have hsplit : splitId "BaseException.__getattribute__" = some ("BaseException", "__getattribute__") := by decide +kernel
 have ha:=F.args_bexc_ga (.ref a) nameV
 simp only [checkBuiltinCall,hk,hsplit]
 refine wpAny_bind ?_
 ·unfold isInstance
  repeat (first | (with_reducible refine wpAny_loadPart_at hx ?_; rw [hc]) | with_reducible refine PySem.W.Looks.here (PySem.W.looks_subIn X Z.sb) ?_ | wp_step)
  exact hq
theorem h3n{tk:Tok}{Q:Fin->Shared->Prop}(X:K.In h)(Z:d3t K C)(hx:h.get? a=some o)(hc:o.cls = .ref C)(hq:Q (.done (.ret (.ref C))) ⟨h,g,d,t,os⟩) :
  wpAny (model prog w) A (Builtin.«object.__getattribute__» ⟨[.ref a, .str "__class__" tk], []⟩) Q E ⟨h, g, d, t, os⟩ := by
 have hT5 : (⟨h, g, d, t, os⟩ : Shared).TypeIs (.builtin "object.__class__") "getset_descriptor" := F.typeOf_object_class
 have f5:=F.typeOf_object_class
 have f6:=F.slot_gs_get.lookup
 have f7:=F.slot_gs_set.lookup
 repeat (any_goals (first | assumption | (with_reducible refine wpAny_loadPart_at hx ?_; rw [hc]) | with_reducible refine PySem.W.Looks.here (PySem.W.looks_findIn X Z.cl) ?_ | wp_step))
 refine i3s X Z hx hc ?_
 repeat (any_goals (first | assumption | wp_step))
theorem i8j{tk:Tok}{Q:Value->Shared->Prop}(X:K.In h)(Z:d3t K C)(hx:h.get? a=some o)(hc:o.cls = .ref C)(hq:Q (.ref C) ⟨h,g,d,t,os⟩) :
  wpAny (model prog w) A (getAttrBy (.ref a) (.str "__class__" tk) false) Q E ⟨h, g, d, t, os⟩ := by
 have f3:=F.attrBase_ValueError.ga.bind (.ref a)
 have hx2 : (Value.builtin "BaseException.__getattribute__" == Value.builtin "object.__getattribute__") = false := by decide +kernel
 have hx1 : (onTheHeap (Value.ref C) && Value.builtin "BaseException.__getattribute__" == Value.builtin "object.__getattribute__") = false := by rw [hx2]; rfl
 repeat (any_goals (first | assumption | (with_reducible refine wpAny_loadPart_at hx ?_; rw [hc]) | with_reducible refine PySem.W.Looks.here (PySem.W.looks_findIn X Z.ga) ?_ | with_reducible refine PySem.W.Looks.here (PySem.W.looks_findIn X Z.ng) ?_ | wp_step))
 refine codeAny_call_builtin F.attrBase_ValueError.ga.plain F.entry_bexc_ga (h3m X Z hx hc (h3n X Z hx hc ?_))
 repeat (any_goals (first | assumption | wp_step))
theorem h8n{Q:Option Value->Shared->Prop}(X:K.In h)(Z:d3t K C)(hx:h.get? a=some o)(hc:o.cls = .ref C)(hq:Q (some (.ref C)) ⟨h,g,d,t+1,os⟩) :
  wpAny (model prog w) A (getAttr? (.ref a) "__class__") Q E ⟨h, g, d, t, os⟩ := by
 unfold getAttr? getAttrBy?
 repeat (any_goals (first | assumption | with_reducible apply i8j X Z hx hc | wp_step))
theorem h3o(Z:d3t K C):PySem.W.KitX K (.ref a) (.ref C) (fun h=>∃ o,h.get? a=some o/\o.cls = .ref C) where
 ty:=fun M h X p=>by
  obtain⟨o,e,c⟩:=p
  intro A Q E s k q
  obtain⟨hp,g,d,t,os⟩:=s
  have hx:hp.get? a=some o:=k _ _ e
  repeat (any_goals (first | assumption | (with_reducible refine wpAny_loadPart_at hx ?_; rw [c]) | wp_step))
 it:=fun M h X _=>by
  have z:=Z.ic
  unfold PySem.W.isClsIn PySem.W.clsIn at z
  split at z
  ·rename_i c' d' cd' sl' ho
   intro A' Q' E' s' k q
   unfold isType loadHead
   exact wpAny_bind (wpAny_loadPart (k _ _ (X _ _ ho)) (wpAny_pure q))
  ·cases z
 ne:=fun h tp dd its n sl X htp=>by
  refine Bool.eq_false_iff.mpr fun q=>?_
  have e:C=tp:=Value.ref.inj (beq_iff_eq.mp q)
  subst e
  have z:=Z.ic
  unfold PySem.W.isClsIn PySem.W.clsIn at z
  split at z
  ·rename_i c' d' cd' sl' ho
   have y:=(X _ _ ho).symm.trans htp
   cases y
  ·cases z
 ca:=fun {prog w A E Q s} X p k=>by
  obtain⟨o,e,c⟩:=p
  obtain⟨hp,g,d,t,os⟩:=s
  exact h8n X Z e c k
end
noncomputable def h6h(a:Addr)(C:Value):HO:=.ext fun h=>∃ o,h.get? a=some o/\o.cls=C
noncomputable def excD(a:Addr)(C:Value)(d:Addr):HO:=.ext fun h=>∃ o,h.get? a=some o/\o.cls=C/\o.dict=some d/\∃ vs,o.data = .fields vs
noncomputable def i6m(a:Addr)(C:Value):Option Addr->HO
 | none=>h6h a C
 | some d=>excD a C d
section
variable {X:Cx}
noncomputable def i8k(K:PySem.W.Frag):List V->Hp->VK->Prop:=fun xs H Q=>match xs with
 | [.non, .ref D] => (∃ b, PySem.W.kitOne K (.type "NoneType") (.ref D) = some b ∧ Q (.bl b) H)
 | [.ref a,.ref D]=>∃ C b,H a=some (h6h a (.ref C))/\d3t K C/\PySem.W.kitOne K (.ref C) (.ref D)=some b/\Q (.bl b) H
 | [.ref a,.ty n]=>∃ C b,H a=some (h6h a (.ref C))/\d3t K C/\PySem.W.kitOne K (.ref C) (.type n)=some b/\Q (.bl b) H
 | [.non, .ty n] => (∃ b, PySem.W.kitOne K (.type "NoneType") (.type n) = some b ∧ Q (.bl b) H)
 | _=>False
theorem isx{K:PySem.W.Frag}{H:Hp}{e C D:Addr}{b:Bool}{Q:VK}(h:H e=some (h6h e (.ref C)))(q:d3t K C)(k:PySem.W.kitOne K (.ref C) (.ref D)=some b)(hq:Q (.bl b) H):i8k K [.ref e,.ref D] H Q:=⟨C,b,h,q,k,hq⟩
theorem isxT{K:PySem.W.Frag}{H:Hp}{e C:Addr}{n:String}{b:Bool}{Q:VK}(h:H e=some (h6h e (.ref C)))(q:d3t K C)(k:PySem.W.kitOne K (.ref C) (.type n)=some b)(hq:Q (.bl b) H):i8k K [.ref e,.ty n] H Q:=⟨C,b,h,q,k,hq⟩
theorem g9i{pins:List (Addr×Obj)}{σ:St}{H:Hp}{s:Shared}{a C:Addr}{c:Value}{b:Bool}{A:Around}{E:Value->Shared->Prop}{Q:Value->Shared->Prop}(I:Inv X pins σ H s)(ha:H a=some (h6h a (.ref C)))(Z:d3t X.K C)(e:PySem.W.kitOne X.K (.ref C) c=some b)
  (h : ∀ tk, Q (.bool b) { s with toks := tk }) : wpAny (model X.prog X.w) A (call (.builtin "isinstance") [.ref a, c]) Q E s := by
 obtain⟨p,_,_⟩:=(show b2m X.prog X.w H s.heap a (h6h a (.ref C)) from I.hok a _ ha)
 exact PySem.W.kia_one (h3o Z) I.kIn p e (fun z=>nomatch z) h
theorem b6g : c6r X (.builtin "isinstance") (i8k X.K) := by
 intro pins s σ H xs us Q I r h
 match xs,r,h with
 | [.non,.ref D],r,⟨b,e,q⟩ =>
  obtain⟨u,v,rfl,r1,r2⟩:=vals2 r
  cases (show v=Value.ref D from r2)
  exact d9g I r1 .non e fun tk=>⟨.bl b,H,I.tok tk,rfl,q⟩
 | [.non,.ty n],r,⟨b,e,q⟩ =>
  obtain⟨u,v,rfl,r1,r2⟩:=vals2 r
  cases (show v=Value.type n from r2)
  exact d9g I r1 .non e fun tk=>⟨.bl b,H,I.tok tk,rfl,q⟩
 | [.ref a,.ref D],r,⟨C,b,ha,Z,e,q⟩ =>
  obtain⟨u,v,rfl,r1,r2⟩:=vals2 r
  cases (show v=Value.ref D from r2)
  cases (show u=Value.ref a from r1)
  exact g9i I ha Z e fun tk=>⟨.bl b,H,I.tok tk,rfl,q⟩
 | [.ref a,.ty n],r,⟨C,b,ha,Z,e,q⟩ =>
  obtain⟨u,v,rfl,r1,r2⟩:=vals2 r
  cases (show v=Value.type n from r2)
  cases (show u=Value.ref a from r1)
  exact g9i I ha Z e fun tk=>⟨.bl b,H,I.tok tk,rfl,q⟩
end
def XPo(X:Cx)(pins:List (Addr×Obj))(σ:St)(E:XK)(e:Value)(s':Shared):Prop:=∃ H1 s1,Inv X pins σ H1 s1/\CXE X.prog X.w X.stack H1 s1 E e s'
def PEX(X:Cx)(e:Expr)(t:TE)(E:XK):Prop :=
 ∀ (pins:List (Addr×Obj)) (s:Shared) (σ:St) (H:Hp) (Q:VK),Inv X pins σ H s->t σ H Q->wpAny (model X.prog X.w) X.A (eval e X.env) (EP X pins σ Q) (XPo X pins σ E) s
def PSX(X:Cx)(st:Stmt)(t:TS)(E:XK):Prop :=
 ∀ (pins:List (Addr×Obj)) (s:Shared) (σ:St) (H:Hp) (D:Ends),Inv X pins σ H s->t D σ H->wpAny (model X.prog X.w) X.A (exec st X.env) (SP X pins D) (XPo X pins σ E) s
section
variable {X:Cx}{k:Nat}{f C:Addr}{fd:FuncData}{ps:List Str}{sp:Sp}{dvs:List V}{ds:List Value}{E:XK}{x m:Str}{p pos apos:Pos}{e o:Expr}{es:List Expr}{ta:TE}{t:TA}
theorem g9j{pins:List (Addr×Obj)}{σ:St}{H:Hp}{s:Shared}{Q:VK}{us:List Value}{vs:List V}(F:a3q X.prog X.w X.K X.mg X.base (CXE X.prog X.w) k f fd ps sp)(hr:a5z k X.A)(hb:Binds X.K fd ps ds)(hd:Vals dvs ds)
  (I:Inv X pins σ H s) (r:Vals vs us) (h:sp (vs++dvs) H Q E):wpAny (model X.prog X.w) X.A (call (.ref f) us) (EP X pins σ Q) (XPo X pins σ E) s:=by
 have r2:Vals (vs++dvs) (us++ds):=r.append hd
 have hl:(us++ds).length=ps.length:=by rw [<- r2.length]; exact F.len _ _ _ _ h
 refine wpAny_call (codeAny_mono (F.run X.A X.stack s H ⟨us,[]⟩ (us++ds) (vs++dvs) Q E hr I.env0 (hb s us I.kIn hl) r2 h) fun r s' hq=>?_)
 cases r with
 | error e=>exact⟨H,s,I,hq⟩
 | ok fl =>
  cases fl with
  | ret u=>exact I.after hq
  | next=>exact False.elim hq
  | brk=>exact False.elim hq
  | cont=>exact False.elim hq
theorem h3p(F:a3q X.prog X.w X.K X.mg X.base (CXE X.prog X.w) k f fd ps sp)(hr:a5z k X.A)(hg:Gl X x)(hm:X.mg x=some (.ref f))(hk:PySem.W.keepIn X.K (.ref f)=true)(hb:Binds X.K fd ps ds)(hd:Vals dvs ds)
  (ha : PA X.nox (e :: es) t) (hdb : (x == ("__debug__" : Str)) = false := by decide) (he : starEach (e :: es) X.env = (false, eval e X.env) :: starEach es X.env := by rfl) (hpl : (backTo pos (starEach es X.env)).any (·.1) = false := by rfl) :
  PEX X (.Call (.Name x p) (e :: es) [] pos) (h2x sp dvs E t) E:=by
 intro pins s σ H Q I h
 refine wpAny_Call_Name_kw (c5i I hg hm ?_ hdb)
 refine PySem.W.callWith_K (h₀:=X.base) I.ok.mod.kin hk (wpAny_mono (ha pos pins s σ H _ (I.wish _) h) (fun us s1 ⟨vs,H1,I1,r,q⟩=>⟨I1.b3o.kIn,?_⟩) fun _ _ z=>False.elim z) he hpl
 exact g9j F hr hb hd I1.b3o r q
theorem d8q{te:TE}(he:PEX X e te E)(hs:swapsWith e none pos.line X.env=pure false:=by rfl):PSX X (.Expr e pos) (i2b te) E:=by
 intro pins s σ H D I h
 exact wpAny_Expr_any (thn (he pins s σ H _ I h) fun v s1 ⟨x,H1,I1,r1,q1⟩=>⟨σ,H1,I1,q1⟩) I.quiet hs
end
section
variable {X:Cx}{pins:List (Addr×Obj)}{σ:St}{H:Hp}{s:Shared}
noncomputable abbrev Cx.held(X:Cx)(e:Addr):Cx:={ X with A:=X.A.mark (some (.ref e)),calm:=false,xe:=fun _ _=>False }
theorem Inv.held(I:Inv X pins σ H s)(e:Addr):Inv (X.held e) pins σ H s :=
 ⟨⟨I.ok.mod,I.ok.kind,I.ok.glob,I.ok.blt,I.ok.above,I.ok.inj,I.ok.has,I.ok.cab,fun h=>Bool.noConfusion h,I.ok.frames,I.ok.stk,I.ok.exf,I.ok.bs,I.ok.bsz,I.ok.i1d,I.ok.i1s,I.ok.g5v,I.ok.frf⟩,I.os,I.bare,I.base,I.loc,I.cell,I.free,I.d2i,I.pin,I.hok,I.len⟩
theorem Inv.i3t{e:Addr}(ok:X.Ok)(I:Inv (X.held e) pins σ H s):Inv X pins σ H s:=⟨ok,I.os,I.bare,I.base,I.loc,I.cell,I.free,I.d2i,I.pin,I.hok,I.len⟩
theorem d9r{K:PySem.W.Frag}{M:Model}{A:Around}{E:Value->Shared->Prop}{a C D:Addr}{o:Obj}{Q:Bool->Shared->Prop}(KX:K.In s.heap)(Z:d3t K D)(hx:s.heap.get? a=some o)(hc:o.cls = .ref C)(hs:PySem.W.subIn K (.ref C) (.ref D)=some true)
  (hq:Q true s):wpAny M A (excMatches (.ref a) (.ref D)) Q E s:=by
 obtain⟨hp,g,d,t,os⟩:=s
 have f:=tc_notTuple
 have hi:PySem.W.Looks M hp (isType (.ref D)) true:=by
  have z:=Z.ic
  unfold PySem.W.isClsIn PySem.W.clsIn at z
  split at z
  ·rename_i c' d' cd' sl' ho
   intro A' Q' E' s' k q
   unfold isType loadHead
   exact wpAny_bind (wpAny_loadPart (k _ _ (KX _ _ ho)) (wpAny_pure q))
  ·cases z
 unfold excMatches isExcClass isInstance
 repeat (first | with_reducible refine PySem.W.Looks.here (PySem.W.looks_typeIn KX Z.ty) ?_ | with_reducible refine PySem.W.Looks.here hi ?_ | with_reducible refine PySem.W.Looks.here (PySem.W.looks_subIn KX Z.sb) ?_ | with_reducible refine PySem.W.Looks.here (PySem.W.looks_subIn KX hs) ?_ | (with_reducible refine wpAny_loadPart_at hx ?_; rw [hc]) | wp_step)
 exact hq
theorem Inv.unset{i:Nat}{x:Str}{h':Heap}{v:Option Value}{m:Str->Option Value}{t':Nat}(I:Inv X pins σ H s)(hN:X.N.Nodup)(hi:X.N[i]? = some x)(hk:X.env.scope.names.lookup x=some .local)(hn:s.heap.Ns X.env.locals m)
  (hl:∀ (j:Nat) (y:Str) (v:V),X.N[j]? = some y->σ[j]? = some (some v)->Vis X.env.scope y->∃ u,RelV v u/\Look X.env s.heap m y u)
  (hn':h'.Ns X.env.locals (fun y=>if y=x then v else m y)) (hs:Heap.SameBut X.env.locals s.heap h'):Inv X pins (σ.set i none) H { s with heap:=h',toks:=t' }:=by
 have hiσ:i < σ.length:=by rw [I.len]; exact (List.getElem?_eq_some_iff.mp hi).1
 refine⟨I.ok,I.os,I.bare,⟨fun b o e n hb hx=>?_,fun b o e n hb hx=>?_,I.base.free,fun b o e hx=>?_,I.base.tups,I.base.f8w,I.base.g1u⟩,⟨_,hn',fun j y v' e1 e2 e3=>?_⟩,fun y c e=>?_,I.free,I.d2i,fun p hp=>?_,fun b ob e=>?_,by simpa using I.len⟩
 ·exact (hs.2 b (Nat.ne_of_lt (Nat.lt_of_lt_of_le (Heap.lt_size e) I.ok.above))).trans (I.base.keep b o e n hb hx)
 ·obtain⟨sl,e1⟩:=I.base.slot b o e n hb hx
  exact⟨sl,(hs.2 b (Nat.ne_of_lt (Nat.lt_of_lt_of_le (Heap.lt_size e) I.ok.above))).trans e1⟩
 ·obtain⟨o',e1⟩:=I.base.there b o e hx
  exact⟨o',(hs.2 b (Nat.ne_of_lt (Nat.lt_of_lt_of_le (Heap.lt_size e) I.ok.above))).trans e1⟩
 ·by_cases hj:j=i
  ·subst hj
   rw [List.getElem?_set_self hiσ] at e2
   cases e2
  ·rw [List.getElem?_set_ne (Ne.symm hj)] at e2
   obtain⟨u',r',q⟩:=hl j y v' e1 e2 e3
   refine⟨u',r',?_⟩
   rcases q with ⟨k,e⟩ | ⟨k,c,e,z⟩
   ·refine .inl ⟨k,?_⟩
    have hyx:y≠x:=fun e=>hj (f5r hN e1 (e▸hi))
    simp [hyx,e]
   ·exact .inr ⟨k,c,e,z.sameBut hs (I.cne y c e)⟩
 ·obtain⟨w',z⟩:=I.cell y c e
  exact⟨w',z.sameBut hs (I.cne y c e)⟩
 ·obtain⟨e,n,ne,nf,d⟩:=I.pin p hp
  exact⟨(hs.2 p.1 ne).trans e,n,ne,nf,d⟩
 ·refine (I.hok b ob e).stay (fun c w' hc q=>(hs.2 c ?_).trans q) (fun _ q=>q) fun _ _ q=>q
  intro z
  have hf:=I.free
  rw [<- z] at hf
  rcases hc with r | r
  ·rw [r,e] at hf
   cases hf
  ·rw [hf] at r
   cases r
end
theorem h8o{P:Program}{w:World}{H:Hp}{h:Heap}{a:Addr}{C:Value}{dx:Option Addr}{ob:Obj}{vs:Array Value}(e:h.get? a=some ob)(c:ob.cls=C){cx:Option Value}(f:ob.data = .fields vs)(k:Kd a (dx,cx) h):b2m P w H h a (i6m a C dx):=by
 cases dx with
 | none=>exact⟨⟨ob,e,c⟩,⟨ob,e⟩,fun h1 h2 ⟨o,e1,e2⟩ k=>⟨o,k o e1,e2⟩⟩
 | some d =>
  obtain⟨o,e',q,_⟩:=k
  rw [e] at e'
  cases e'
  exact⟨⟨ob,e,c,q,vs,f⟩,⟨ob,e⟩,fun h1 h2 ⟨o,e1,e2⟩ k=>⟨o,k o e1,e2⟩⟩
def hAs(K:PySem.W.Frag)(D:Addr)(i:Nat)(th:TS)(Dn:Ends)(σ:St):XK:=fun C dx H'=>∃ c,C = .ref c/\PySem.W.subIn K (.ref c) (.ref D)=some true /\
 ∀ e H2,H' e=none->Same H' H2->H2 e=some (i6m e (.ref c) dx)->th { nx:=fun σ2 H3=>Dn.nx (σ2.set i none) H3,rt:=Dn.rt,bk:=fun σ2 H3=>Dn.bk (σ2.set i none) H3,ct:=fun σ2 H3=>Dn.ct (σ2.set i none) H3 } (σ.set i (some (.ref e))) H2
def i3u(K:PySem.W.Frag)(D:Addr)(i:Nat)(tb:XK->TS)(th:TS):TS:=fun Dn σ H=>tb (hAs K D i th Dn σ) Dn σ H
section
variable {X:Cx}{D:Addr}{dn n:Str}{i:Nat}{st b₀:Stmt}{suite:List Stmt}{tb:XK->TS}{th:TS}{np hpos pos:Pos}
theorem h3q(hb:∀ E,PSX X st (tb E) E)(hh:∀ e,PSs (X.held e) (b₀ :: suite) th)(hg:Gl X dn)(hm:X.mg dn=some (.ref D))(ZD:d3t X.K D)(hN:X.N.Nodup)(hi:X.N[i]? = some n)(hk:X.env.scope.names.lookup n=some .local)
  (hst : X.stack = X.env :: X.outer := by rfl) (hfr : X.env.frame = some X.env.locals := by rfl) (hex : X.ex = [] := by rfl) (hdb : (dn == ("__debug__" : Str)) = false := by decide) :
  PS X (.Try [st] [.ExceptHandler (some (.Name dn np)) (some n) (b₀ :: suite) hpos] [] [] pos) (i3u X.K D i tb th):=by
 intro pins s σ H Dn I h
 refine wpAny_Try_except (wpAny_execs_cons (wpAny_mono (hb _ pins s σ H Dn I h) (fun f s1 q=>?_) fun e s1 q=>?_))
 ·cases f with
  | next=>exact wpAny_execs_nil (wpAny_execs_nil q)
  | ret v=>exact q
  | brk=>exact q
  | cont=>exact q
 ·obtain⟨H1,s0,I1,a,C,a0,B,H',rfl,fl,os,bare,un,hn0,nw,dx,cx,kd,_,c,rfl,hsub,k⟩:=q
  have hA:X.A.frames=some (X.env :: X.outer):=by rw [<- hst]; exact I1.ok.frames
  rw [hst] at fl
  refine d9q hA hfr fl kd fun h4 hd4 sm4 kd4=>h6e hd4 kd4 fun h5 fl5 sm5 kd5=>?_
  have u5:=un h5 fl5.1 (sm4.trans sm5)
  have I5:Inv X pins σ H' { s1 with heap:=h5,toks:=s1.toks }:=I1.caught os bare u5.1 u5.2
  have cls:=I.ok.kind
  obtain⟨ob,hob,hcl⟩:=fl5.there
  refine wpAny_handleBy_cons (codeAny_handlers_test ?_) (by intro q; cases q)
  refine c5i (X:=X.held a) (s:={ s1 with heap:=h5 }) (I5.held a) hg hm ?_ hdb
  refine d9r (s:={ s1 with heap:=h5 }) I5.kIn ZD hob hcl hsub ?_
  refine codeAny_handlers_suite_as (h6f fl5 kd5 fun h6 fl6 sm6 kd6=>?_)
  have u6:=un h6 fl6.1 ((sm4.trans sm5).trans sm6)
  have I6:Inv X pins σ H' { s1 with heap:=h6,toks:=s1.toks }:=I1.caught os bare u6.1 u6.2
  obtain⟨ob6,vs6,hob6,hcl6,hda6,_⟩:=fl6.first
  have nl:a≠X.env.locals:=fun z=>by
   obtain⟨m,⟨o,_,_,ho,_⟩,_⟩:=I1.loc
   rw [<- z,nw] at ho
   cases ho
  have I7:Inv X pins σ (upd H' a (i6m a (.ref c) dx)) { s1 with heap:=h6,toks:=s1.toks }:=by
   refine I6.track (I1.older hex nw) nl (fun x cc e z=>?_) (fun p hp z=>?_) hn0 (h8o hob6 hcl6 hda6 kd6)
   ·obtain⟨v,o,ho,_⟩:=I1.cell x cc e
    rw [z,nw] at ho
    cases ho
   ·have ho:=(I1.pin p hp).1
    rw [z,nw] at ho
    cases ho
  refine d8n (X:=X.held a) (v:=.ref a) (I7.held a) hN hi (.inl hk) rfl (fun s8 I8=>?_) (.inr hk)
  refine wpAny_mono (hh a pins s8 _ _ _ I8 (k a _ hn0 (Same.upd hn0) a5y)) (fun f s9 q9=>?_) fun _ _ z=>False.elim z
  have goes:∀ {σ9:St} {H9:Hp} {Q9:Shared->Prop},Inv (X.held a) pins σ9 H9 s9->(∀ s',Inv X pins (σ9.set i none) H9 s'->Q9 s')->wpAny (model X.prog X.w) X.A (do bindName X.env n .none; unbindBehindTheSuite X.env n hpos) (fun _ s'=>Q9 s') X.xe s9:=by
   intro σ9 H9 Q9 J kk
   have J':=J.i3t I.ok
   obtain⟨m,hn,hl⟩:=id J'.loc
   refine wpAny_nameGoes_keeps hk hn (by rw [I.ok.kind]; rfl) fun h' v hn' hs'=>kk _ ?_
   exact J'.unset hN hi hk hn hl hn' hs'
  cases f with
  | next =>
   obtain⟨σ',H9,J,q⟩:=q9
   exact goes (Q9:=fun s'=>SP X pins Dn .next s') J fun s' J'=>⟨_,_,J',q⟩
  | brk =>
   obtain⟨σ',H9,J,q⟩:=q9
   exact goes (Q9:=fun s'=>SP X pins Dn .brk s') J fun s' J'=>⟨_,_,J',q⟩
  | cont =>
   obtain⟨σ',H9,J,q⟩:=q9
   exact goes (Q9:=fun s'=>SP X pins Dn .cont s') J fun s' J'=>⟨_,_,J',q⟩
  | ret u =>
   obtain⟨v,σ',H9,J,r,q⟩:=q9
   exact goes (Q9:=fun s'=>SP X pins Dn (.ret u) s') J fun s' J'=>⟨v,_,_,J',r,q⟩
end
def i3v:TE:=fun _ H Q=>New H (.dK []) Q ⟨⟩
theorem g5b{X:Cx}{pos:Pos}:PE X (.Dict [] [] pos) i3v:=PE.weak h3f fun _ _ _ h=>h.raw
theorem f9y{H H':Hp}{v:V}{t:Ty}(S:Same H H')(h:g4x H v=some t):g4x H' v=some t:=by
 cases v with
 | ref a =>
  rw [d9k] at h ⊢
  cases e:H a with
  | none=>rw [e] at h; cases h
  | some o=>rw [e] at h; rw [S _ _ e]; exact h
 | _=>exact h
end L2
namespace L2
open PySem PySem.Spec PyProof.Rows
section
variable {X:Cx}{tg:Expr}
noncomputable def i8l(g:Str->Str->V):V->List V->Hp->VK->Prop:=fun x vs H Q=>match x,vs with
 | .str z,[.str y]=>Q (g z y) H
 | _,_=>False
theorem c7m : MtR X "str.startswith" (i8l fun z y => .bl (Txt.startswith z y)) := by
 intro pins s σ H x xs v us Q I rx rs h
 match x,xs,h with
 | .str z,[.str y],q =>
  obtain⟨t,rfl⟩:=rx
  obtain⟨u,rfl,t',rfl⟩:=vals1 rs
  exact call_gives F.slot_str_startswith (typeIs_str _ _ _) F.entry_str_startswith (F.args_str_startswith_2 _ _) (gives_str_startswith z y t t') ⟨.bl (Txt.startswith z y),H,I,rfl,q⟩
noncomputable def Its(x:Str):It:=⟨fun i _=>i < x.cps.size,fun i H v H'=>H'=H/\∃ c,x.cps[i]? = some c/\v = .str ⟨#[c]⟩,fun i _=>i=x.cps.size⟩
theorem h3r {P : Program} {w : World} {K : PySem.W.Frag} (it : Addr) (x : Str) (t : Tok) {n : String} (hn : ["enumerate", "zip", "dict_itemiterator", "dict_reverseitemiterator", "odict_iterator", "itertools.zip_longest", "itertools.pairwise"].contains n = false)
  (W:∀ A':Around,A'.handled=none->Walks P w A' it [it] [it] x.cps.size (SignAt x) (fun i h=>h.IsStrIter it n x t i))
  (S:∀ (A:Around) (i:Nat) (s:Shared) (Q:Value->Shared->Prop) (E:Value->Shared->Prop),s.heap.IsStrIter it n x t i->Q (.ref it) s->wpAny (model P w) A (pyIter (.ref it)) Q E s):Turn P w K tg (Its x) [it] it (fun i h=>h.IsStrIter it n x t i) where
 mem:=by simp
 obj:=fun i h st b hb=>by
  have e:b=it:=by simpa using hb
  subst e
  obtain⟨o,e,c,d⟩:=st
  exact⟨o,e,fun v z=>by rw [d] at z; cases z⟩
 keep:=fun i h h' st k=>let ⟨o,ho,r⟩:=st; ⟨o,k it (by simp) o ho,r⟩
 item:=by
  intro X hP hw hK hc i pins s σ H E I hf st hg
  subst hP hw hK
  obtain⟨f0,f1,f2,f3,f4,f5⟩:=hf it (by simp)
  refine (W _ (I.ok.hd hc)).item i s _ _ hg st fun v h' tk hv st' kk=>?_
  obtain⟨c,u,hc',rfl⟩:=hv
  have I1:Inv X pins σ H { s with heap:=h',toks:=tk }:=I.turned (fun b o hb e=>kk b o (by simpa using hb) e) f0 f1 f3 f4 f5
  obtain⟨o,e1,c1,d1⟩:=id st'
  exact⟨_,rfl,h7q (s:={ s with heap:=h',toks:=tk }) e1 c1 d1 hn ⟨.str ⟨#[c]⟩,H,I1,⟨u,rfl⟩,⟨rfl,c,hc',rfl⟩,st',fun b hb=>(hf b hb).1⟩⟩
 done:=by
  intro X hP hw hK hc i pins s σ H E I hf st hg
  subst hP hw hK
  obtain⟨f0,f1,f2,f3,f4,f5⟩:=hf it (by simp)
  have hi:i=x.cps.size:=hg
  subst hi
  exact (W _ (I.ok.hd hc)).done s _ _ st fun h' tk kk=>⟨rfl,I.turned (t':=tk) (fun b o hb e=>kk b o (by simpa using hb) e) f0 f1 f3 f4 f5⟩
 self:=S
def iStr(tl:TE):TI:=fun σ H R=>tl σ H fun x H1=>match x with
 | .str z=>R (Its z) H1
 | _=>False
theorem g9k{l:Expr}{tl:TE}(hl:PE X l tl):PI X tg l (iStr tl):=by
 intro pins s σ H R I h
 refine thn (hl pins s σ H _ I h) fun v s1 ⟨x,H1,I1,r1,q1⟩=>?_
 cases x with
 | str z =>
  obtain⟨t,rfl⟩:=r1
  have fin : ∀ (o : Obj) (n : String), ["enumerate", "zip", "dict_itemiterator", "dict_reverseitemiterator", "odict_iterator", "itertools.zip_longest", "itertools.pairwise"].contains n = false → (s1.heap.push o).IsStrIter s1.heap.objs.size n z t 0 →
    (∀ A':Around,A'.handled=none->Walks X.prog X.w A' s1.heap.objs.size [s1.heap.objs.size] [s1.heap.objs.size] z.cps.size (SignAt z) (fun i h=>h.IsStrIter s1.heap.objs.size n z t i)) ->
    (∀ (A:Around) (i:Nat) (s:Shared) (Q:Value->Shared->Prop) (E:Value->Shared->Prop),s.heap.IsStrIter s1.heap.objs.size n z t i->Q (.ref s1.heap.objs.size) s->wpAny (model X.prog X.w) A (pyIter (.ref s1.heap.objs.size)) Q E s) ->
    PIE X pins σ tg R (.ref s1.heap.objs.size) { s1 with heap:=s1.heap.push o }:=fun o n hn st W S=>by
   refine⟨s1.heap.objs.size,[s1.heap.objs.size],_,_,H1,rfl,I1.kept (t':=s1.toks) fun b o e=>Heap.get?_push_of_some _ e,h3r _ z t hn W S,st,fun b hb=>?_,q1⟩
   have e:b=s1.heap.objs.size:=by simpa using hb
   subst e
   exact I1.i1e (Nat.le_refl _) (I1.hok.fresh (Nat.le_refl _))
  cases ha:z.cps.all (· < 128)
  ·exact wpAny_pyIter_wide ha (fin _ "str_iterator" (by decide) ⟨_, Heap.get?_push_size _ rfl, rfl, rfl⟩ (fun A' hA => Walks.strWide hA _ z t) fun _ _ _ _ _ st hQ => wpAny_pyIter_striter_wide st hQ)
  ·exact wpAny_pyIter_ascii ha (fin _ "str_ascii_iterator" (by decide) ⟨_, Heap.get?_push_size _ rfl, rfl, rfl⟩ (fun A' hA => Walks.strAscii hA _ z t) fun _ _ _ _ _ st hQ => wpAny_pyIter_striter_ascii st hQ)
 | _=>exact False.elim q1
theorem h3s{x:Str}{g:TG}{tb:TS}{D:Ends}{σ:St}{H:Hp}(Pv:Nat->St->Hp->Prop)(h0:Pv 0 σ H)
  (hs:∀ i c σ H,x.cps[i]? = some c->Pv i σ H->g (.str ⟨#[c]⟩) σ H fun σ2 H2=>tb { D with nx:=Pv (i+1),ct:=Pv (i+1),bk:=D.nx } σ2 H2) (hd:∀ σ H,Pv x.cps.size σ H->D.nx σ H):i6k (Its x) g tb D σ H:=by
 refine⟨fun i m σ H=>m=x.cps.size - i/\i<=x.cps.size/\Pv i σ H,⟨x.cps.size,by simp,Nat.zero_le _,h0⟩,?_⟩
 rintro i m σ H ⟨rfl,hi,p⟩
 by_cases hlt:i < x.cps.size
 ·refine .inr ⟨hlt,Pv (i+1),fun σ' H' p'=>⟨x.cps.size - (i+1),by omega,rfl,hlt,p'⟩,fun v H' y=>?_⟩
  obtain⟨e,c,hc,e2⟩:=y
  subst e e2
  exact hs i c σ _ hc p
 ·have e:i=x.cps.size:=by omega
  subst e
  exact .inl ⟨rfl,hd σ H p⟩
noncomputable def rSlA:V->Option Int->Option Int->Hp->VK->Prop:=fun x lo hi H Q=>match x with
 | .ref a=>(match H a with
  | some (.lst xs)=>New H (.lst (g1z xs lo hi)) Q ⟨⟩
  | _=>False)
 | .str z=>z.length<=sizeLine/\Q (.str (Txt.slice z lo hi)) H
 | _=>False
theorem i1g:SlR X rSlA:=by
 intro pins s σ H x v vl vu lo hi sl Q I rx hs pl pu h
 cases x with
 | ref a=>exact sl_M pins s σ H _ v vl vu lo hi sl Q I rx hs pl pu h
 | str z =>
  obtain⟨t,rfl⟩:=rx
  obtain⟨hz,q⟩:=h
  have fin:∀ t' k,EP X pins σ Q (.str (Txt.slice z lo hi) t') { s with toks:=k }:=fun t' k=>⟨.str _,H,I.tok k,⟨_,rfl⟩,q⟩
  refine ⟨"str", _, F.slot_str_getitem.lookup, typeIs_str _ _ _, ?_⟩
  cases pl with
  | none =>
   cases pu with
   | none=>exact wpAny_getItem_str_slice (l:=none) (u:=none) (st:=none) hs rfl (post_val_or_str ⟨Nat.le_trans (Txt.slice_le z _ _) hz,fin⟩)
   | int j uj=>exact wpAny_getItem_str_slice (l:=none) (u:=some (j,uj)) (st:=none) hs rfl (post_val_or_str ⟨Nat.le_trans (Txt.slice_le z _ _) hz,fin⟩)
  | int i ui =>
   cases pu with
   | none=>exact wpAny_getItem_str_slice (l:=some (i,ui)) (u:=none) (st:=none) hs rfl (post_val_or_str ⟨Nat.le_trans (Txt.slice_le z _ _) hz,fin⟩)
   | int j uj=>exact wpAny_getItem_str_slice (l:=some (i,ui)) (u:=some (j,uj)) (st:=none) hs rfl (post_val_or_str ⟨Nat.le_trans (Txt.slice_le z _ _) hz,fin⟩)
 | _=>exact False.elim h
noncomputable def i8m:List V->Hp->VK->Prop:=fun xs H Q=>match xs with
 | [.int i]=>Q (.int i) H
 | [.bl k]=>Q (.int (if k then 1 else 0)) H
 | [.str z]=>∃ n,PySem.intText? z=some n/\z.length<=640/\Q (.int n) H
 | _=>False
theorem b9m : c6r X (.type "int") i8m := by
 intro pins s σ H xs us Q I r h
 match xs,r,h with
 | [.int i],r,q=>exact f9g pins s σ H _ us Q I r (.inl ⟨i,rfl,q⟩)
 | [.bl k],r,q=>exact f9g pins s σ H _ us Q I r (.inr ⟨k,rfl,q⟩)
 | [.str z],r,⟨n,hn,hl,q⟩ =>
  obtain⟨u,rfl,t,rfl⟩:=vals1 r
  exact PySem.W.KIN.call_text hn hl ⟨.int n,H,I.tok _,⟨_,rfl⟩,q⟩
noncomputable def rStrI:List V->Hp->VK->Prop:=fun xs H Q=>match xs with
 | [.int i]=>i.natAbs.log2 < 1920/\Q (.str (toString i)) H
 | _=>False
def tFmt(te:TE):TE:=fun σ H Q=>te σ H fun x H1=>match x with
 | .int i=>i.natAbs.log2 < 1920/\Q (.str (toString i)) H1
 | .str y=>y.length<=sizeLine/\Q (.str y) H1
 | _=>False
theorem f4p{e:Expr}{te:TE}{pos:Pos}(he:PE X e te):PE X (.FormattedValue e (-1) none pos) (tFmt te):=by
 intro pins s σ H Q I h
 refine wpAny_FormattedValue_plain (thn (he pins s σ H _ I h) fun v s1 ⟨x,H1,I1,r1,q1⟩=>?_)
 cases x with
 | int i =>
  obtain⟨t,rfl⟩:=r1
  exact wpAny_formatField_int q1.1 ⟨.str (toString i),H1,I1.tok _,⟨_,rfl⟩,q1.2⟩
 | str y =>
  obtain⟨t,rfl⟩:=r1
  exact wpAny_formatField_str (hx:=q1.1) ⟨.str y,H1,I1,⟨_,rfl⟩,q1.2⟩ ⟨.str y,H1,I1.tok _,⟨_,rfl⟩,q1.2⟩
 | _=>exact False.elim q1
noncomputable abbrev TJ:=Str->St->Hp->(Str->Hp->Prop)->Prop
def PJ(X:Cx)(es:List Expr)(t:TJ):Prop:=∀ (pins:List (Addr×Obj)) (acc:Str) (s:Shared) (σ:St) (H:Hp) (Q:Str->Hp->Prop) (Q':Str->Shared->Prop),Inv X pins σ H s->t acc σ H Q->(∀ out H1 s1,Inv X pins σ H1 s1->Q out H1->Q' out s1) ->
 Joins (model X.prog X.w) X.A X.xe (evalEach es X.env) acc Q' s
noncomputable def i8n:TJ:=fun acc _ H Q=>Q acc H
def i3w(te:TE)(tr:TJ):TJ:=fun acc σ H Q=>te σ H fun x H1=>match x with
 | .str y=>acc.length+y.length<=sizeLine/\tr (acc++y) σ H1 Q
 | _=>False
theorem g5c:PJ X [] i8n:=fun pins acc s σ H Q Q' I h k=>k acc H s I h
theorem c5n{e:Expr}{es:List Expr}{te:TE}{tr:TJ}(he:PE X e te)(hr:PJ X es tr)(hs:evalEach (e :: es) X.env=eval e X.env :: evalEach es X.env:=by rfl):PJ X (e :: es) (i3w te tr):=by
 intro pins acc s σ H Q Q' I h k
 rw [hs]
 refine thn (he pins s σ H _ I h) fun v s1 ⟨x,H1,I1,r1,q1⟩=>?_
 cases x with
 | str y =>
  obtain⟨t,rfl⟩:=r1
  exact⟨y,t,rfl,by rw [strLen_append]; exact q1.1,hr pins (acc++y) s1 σ H1 Q Q' I1 q1.2 k⟩
 | _=>exact False.elim q1
def i8o(tj:TJ):TE:=fun σ H Q=>tj Str.empty σ H fun out H1=>out.length<=sizeLine/\Q (.str out) H1
theorem d3u{e₁ e₂:Expr}{es:List Expr}{tj:TJ}{pos:Pos}(h:PJ X (e₁ :: e₂ :: es) tj):PE X (.JoinedStr (e₁ :: e₂ :: es) pos) (i8o tj):=by
 intro pins s σ H Q I hq
 exact wpAny_JoinedStr (h pins Str.empty s σ H _ _ I hq fun out H1 s1 I1 q=>⟨q.1,.str out,H1,I1.tok _,⟨_,rfl⟩,q.2⟩)
noncomputable def b3p(x y:Str):List Str:=if (decide (x.length < y.length) || decide (Builtin.Str.strKind x < Builtin.Str.strKind y))=true then [x] else if (Builtin.Str.occurrences x y 0 x.length (x.length+1)).isEmpty=true then [x] else Builtin.Str.partsBetween x (Builtin.Str.occurrences x y 0 x.length (x.length+1)) y.length
noncomputable def i3x:V->List V->Hp->VK->Prop:=fun x vs H Q=>match x,vs with
 | .str z,[.str y]=>(y.length == 0)=false/\z.length<=sizeLine/\(b3p z y).length<=sizeLine/\New H (.lst ((b3p z y).map V.str)) Q ⟨⟩
 | _,_=>False
theorem f9z:∀ (l:List Str) (k:Nat),Vals (l.map V.str) (strsFrom k l)
 | [],_=>.nil
 | x :: l,k=>.cons ⟨_,rfl⟩ (f9z l (k+1))
theorem d8r : MtR X "str.split" i3x := by
 intro pins s σ H x xs v us Q I rx rs h
 match x,xs,h with
 | .str z,[.str y],⟨hy,hz,hn,q⟩ =>
  obtain⟨t,rfl⟩:=rx
  obtain⟨u,rfl,t',rfl⟩:=vals1 rs
  have fr:H s.heap.objs.size=none:=I.hok.fresh (Nat.le_refl _)
  have itself : b3p z y = [z] → EP X pins σ Q (.ref s.heap.objs.size) { s with heap := s.heap.push { cls := .type "list", data := .seq [Value.str z t].toArray } } := fun e => by
   rw [e] at q
   exact⟨.ref _,_,I.laid (o:=.lst ([z].map V.str)) (t':=s.toks) (fun b u e=>Heap.get?_push_of_some _ e) (Nat.le_refl _) ⟨show 1<=sizeLine by decide,[Value.str z t],0,.cons ⟨t,rfl⟩ .nil,Heap.get?_push_size _ rfl⟩,rfl,q.raw _ fr⟩
  by_cases h1:(decide (z.length < y.length) || decide (Builtin.Str.strKind z < Builtin.Str.strKind y))=true
  ·exact call_meets F.slot_str_split (typeIs_str _ _ _) F.entry_str_split (F.args_str_split_2 _ _) (meets_str_split_cannot_occur z y t t' h1) (itself (by unfold b3p; rw [if_pos h1]))
  ·have h1':=Bool.eq_false_iff.mpr h1
   by_cases h2:(Builtin.Str.occurrences z y 0 z.length (z.length+1)).isEmpty=true
   ·exact call_meets F.slot_str_split (typeIs_str _ _ _) F.entry_str_split (F.args_str_split_2 _ _) (meets_str_split_not_found z y t t' h1' hy h2) (itself (by unfold b3p; rw [if_neg h1,if_pos h2]))
   ·have h2':=Bool.eq_false_iff.mpr h2
    have e:b3p z y=Builtin.Str.partsBetween z (Builtin.Str.occurrences z y 0 z.length (z.length+1)) y.length:=by unfold b3p; rw [if_neg h1,if_neg h2]
    refine call_meets F.slot_str_split (typeIs_str _ _ _) F.entry_str_split (F.args_str_split_2 _ _) (meets_str_split_sep z y t t' h1' hy h2' hz (by rw [<- e]; exact hn)) ?_
    rw [<- e]
    refine⟨.ref _,_,I.laid (o:=.lst ((b3p z y).map V.str)) (t':=s.toks+(b3p z y).length) (fun b u e=>Heap.get?_push_of_some _ e) (Nat.le_refl _) ⟨by rw [List.length_map]; exact hn,strsFrom s.toks (b3p z y),0,f9z _ _,Heap.get?_push_size _ rfl⟩,rfl,q.raw _ fr⟩
noncomputable def g5d(z y:Str):Bool:=!(Builtin.Str.occurrences z y 0 z.length 1).isEmpty
def j0y(neg:Bool):R2:=fun x y H Q=>match y with
 | .str z=>(match x with
  | .str y=>Q (.bl (g5d z y != neg)) H
  | _=>False)
 | .ref p=>(match H p with
  | some (.lst xs)=>b1q x=true/\xs.all b1q=true/\Q (.bl (inV x xs != neg)) H
  | some (.tup xs)=>b1q x=true/\xs.all b1q=true/\Q (.bl (inV x xs != neg)) H
  | _=>False)
 | _=>False
theorem d6y:OpR X (compareOp .In) (j0y false):=by
 intro pins s σ H x y v u Q I rx ry h
 cases y with
 | str z =>
  cases x with
  | str y =>
   have h:Q (.bl (g5d z y != false)) H:=h
   rw [Bool.bne_false] at h
   exact g8j pins s σ H _ _ v u Q I rx ry ⟨y,z,rfl,rfl,h⟩
  | _=>exact False.elim h
 | ref p =>
  have h:(match H p with
   | some (.lst xs)=>b1q x=true/\xs.all b1q=true/\Q (.bl (inV x xs != false)) H
   | some (.tup xs)=>b1q x=true/\xs.all b1q=true/\Q (.bl (inV x xs != false)) H
   | _=>False):=h
  split at h
  ·rename_i xs e
   rw [Bool.bne_false] at h
   exact f9m pins s σ H _ _ v u Q I rx ry ⟨p,xs,rfl,.inl (SqL.of e),h.1,h.2.1,by simpa using h.2.2⟩
  ·rename_i xs e
   rw [Bool.bne_false] at h
   exact f9m pins s σ H _ _ v u Q I rx ry ⟨p,xs,rfl,.inr (SqT.of e),h.1,h.2.1,by simpa using h.2.2⟩
  ·exact h.elim
 | _=>exact False.elim h
theorem c9i:OpR X (compareOp .NotIn) (j0y true):=by
 intro pins s σ H x y v u Q I rx ry h
 cases y with
 | str z =>
  cases x with
  | str y =>
   have h:Q (.bl (g5d z y != true)) H:=h
   rw [Bool.bne_true] at h
   exact f9n pins s σ H _ _ v u Q I rx ry ⟨y,z,rfl,rfl,h⟩
  | _=>exact False.elim h
 | ref p =>
  have h:(match H p with
   | some (.lst xs)=>b1q x=true/\xs.all b1q=true/\Q (.bl (inV x xs != true)) H
   | some (.tup xs)=>b1q x=true/\xs.all b1q=true/\Q (.bl (inV x xs != true)) H
   | _=>False):=h
  split at h
  ·rename_i xs e
   rw [Bool.bne_true] at h
   exact c8v pins s σ H _ _ v u Q I rx ry ⟨p,xs,rfl,.inl (SqL.of e),h.1,h.2.1,by simpa using h.2.2⟩
  ·rename_i xs e
   rw [Bool.bne_true] at h
   exact c8v pins s σ H _ _ v u Q I rx ry ⟨p,xs,rfl,.inr (SqT.of e),h.1,h.2.1,by simpa using h.2.2⟩
  ·exact h.elim
 | _=>exact False.elim h
end
end L2
namespace L2
open PySem PySem.Spec PyProof.Rows
def Wr(H:Hp)(a:Addr)(o:HO)(k:Hp->Prop)(_:Tag k):Prop:=∀ H1,a7h a H H1->H1 a=some o->k H1
section
variable {X:Cx}{e o value:Expr}{f m x:Str}{pos pos' apos:Pos}{ta tv:TE}{t:TA}{C:Addr}{es:List Expr}
def i3y(K:PySem.W.Frag)(ta:TE)(f:Str):TE:=fun σ H Q=>ta σ H fun x H1=>match x with
 | .ref a=>(match H1 a with
  | some (.ins C dx fs)=>Cls K C/\a7m K C f/\(match fs.lookup f with
   | some v=>Q v H1
   | none=>False)
  | _=>False)
 | _=>False
theorem a5q(he:PE X e ta)(hb:attributeBase e f X.env (eval e X.env)=eval e X.env):PE X (.Attribute e f pos) (i3y X.K ta f):=by
 intro pins s σ H Q I h
 refine (i2n he hb) pins s σ H Q I ?_
 unfold j0g
 unfold i3y at h
 have q:(fun (x:V) (H1:Hp)=>(match x with
   | .ref a=>(match H1 a with
    | some (.ins C dx fs)=>Cls X.K C/\a7m X.K C f/\(match fs.lookup f with
     | some v=>Q v H1
     | none=>False)
    | _=>False)
   | _=>False:Prop))=fun x H1=>∃ a C dx fs v,x = .ref a/\H1 a=some (.ins C dx fs)/\Cls X.K C/\a7m X.K C f/\fs.lookup f=some v/\Q v H1:=by
  funext x H1
  refine propext ⟨fun z=>?_,fun⟨a,C,dx,fs,v,e1,e2,c,n,l,q⟩=>?_⟩
  ·cases x with
   | ref a =>
    dsimp only at z
    split at z
    ·rename_i C dx fs e1
     obtain⟨c,n,z⟩:=z
     split at z
     ·rename_i v e2
      exact⟨a,C,dx,fs,v,rfl,e1,c,n,e2,z⟩
     ·exact z.elim
    ·exact z.elim
   | _=>exact False.elim z
  ·subst e1
   dsimp only
   rw [e2]
   dsimp only
   rw [l]
   exact⟨c,n,q⟩
 rw [q] at h
 exact h
def i8p(K:PySem.W.Frag)(ta tv:TE)(f:Str):TS:=fun D σ H=>tv σ H fun y H1=>ta σ H1 fun x H2=>match x with
 | .ref a=>(match H2 a with
  | some (.ins C dx fs)=>Cls K C/\a7m K C f/\fs.length < 1000/\Wr H2 a (.ins C dx (d8v f y fs)) (D.nx σ) ⟨⟩
  | _=>False)
 | _=>False
theorem b9z(ha:PE X o ta)(hv:PE X value tv)(hs:swapsWith value (some (.Attribute o f pos')) pos.line X.env=pure false):PS X (.Assign [.Attribute o f pos'] value pos) (i8p X.K ta tv f):=by
 intro pins s σ H D I h
 refine plainObj_wpAny_Assign_Attribute (thn (hv pins s σ H _ I h) fun u s1 ⟨y,H1,I1,ry,q⟩=>thn (ha pins s1 σ H1 _ I1 q) fun ov s2 ⟨x,H2,I2,rx,z⟩=>?_) hs
 cases x with
 | ref a =>
  obtain rfl:ov=Value.ref a:=rx
  dsimp only at z
  split at z
  ·rename_i C dx fs e1
   obtain⟨c,n,l,k⟩:=z
   exact g5z I2 e1 c n l ry fun s3 I3=>⟨σ,_,I3,k _ a7h.upd a5y⟩
  ·exact z.elim
 | _=>exact False.elim z
end
def d9s(C:Addr)(m:Str)(sp:Sp)(dvs:List V)(E:XK)(ta:TE)(t:TA):TE:=fun σ H Q=>ta σ H fun x H1=>match x with
 | .ref a=>(match H1 a with
  | some (.ins C' dx fs)=>C'=C/\fs.lookup m=none/\t σ H1 fun vs H2=>sp (x :: (vs++dvs)) H2 Q E
  | _=>False)
 | _=>False
section
variable {X:Cx}{CX:CXT}{k:Nat}{f C:Addr}{fd:FuncData}{ps:List Str}{sp:Sp}{dvs:List V}{ds:List Value}{E:XK}{x m:Str}{p pos apos:Pos}{e o:Expr}{es:List Expr}{ta:TE}{t:TA}
theorem a8p{pl:Sem Bool}(he:PE X o ta)(c:Cls X.K C)(hm:Meth X.K C m f)(F:a3q X.prog X.w X.K X.mg X.base CX k f fd ps sp)(hr:a5z k X.A)(hb:Binds X.K fd ps ds)(hd:Vals dvs ds)(hx:Passes CX X E)(ha:PA X (e :: es) t)
  (hst:starEach (e :: es) X.env=(false,eval e X.env) :: starEach es X.env:=by rfl) (hpl:(backTo pos (starEach es X.env)).any (·.1)=false:=by rfl)
  (ht:eval (.Call (.Attribute o m apos) (e :: es) [] pos) X.env=(do
   let ov <- eval o X.env
   standAt apos.atName
   let (f,first) <- holding [ov] (getMethod ov m pl)
   callWith pos f first (backTo pos (starEach (e :: es) X.env)) (backToKw pos (keywordEach [] X.env))):=by rfl) :
  PE X (.Call (.Attribute o m apos) (e :: es) [] pos) (d9s C m sp dvs E ta t):=by
 intro pins s σ H Q I h
 refine PySem.W.methodCall_KW (pl:=pl) (thn (he pins s σ H _ I h) fun u s1 ⟨x,H1,I1,rx,z⟩=>?_) ht
 cases x with
 | ref a =>
  obtain rfl:u=Value.ref a:=rx
  dsimp only at z
  split at z
  ·rename_i C' dx fs ea
   obtain⟨rfl,l,q⟩:=z
   refine d5j I1 ea c hm l ?_
   refine PySem.W.callWith_K (first:=[.ref a]) (h₀:=X.base) I.ok.mod.kin hm.kp (thn (ha pos pins s1 σ H1 _ I1 q) fun us s2 ⟨vs,H2,I2,r,q2⟩=>⟨I2.kIn,?_⟩) hst hpl
   exact g4r (us:=.ref a :: us) (vs:=.ref a :: vs) F hr hb hd hx I2 (.cons rfl r) q2
  ·exact z.elim
 | _=>exact False.elim z
theorem b6h{pl:Sem Bool}(he:PE X o ta)(c:Cls X.K C)(hm:Meth X.K C m f)(F:a3q X.prog X.w X.K X.mg X.base CX k f fd ps sp)(hr:a5z k X.A)(hb:Binds X.K fd ps ds)(hd:Vals dvs ds)(hx:Passes CX X E)
  (ht:eval (.Call (.Attribute o m apos) [] [] pos) X.env=(do
   let ov <- eval o X.env
   standAt apos.atName
   let (f,first) <- holding [ov] (getMethod ov m pl)
   callWith pos f first (backTo pos (starEach [] X.env)) (backToKw pos (keywordEach [] X.env))):=by rfl) :
  PE X (.Call (.Attribute o m apos) [] [] pos) (d9s C m sp dvs E ta i2o):=by
 intro pins s σ H Q I h
 refine PySem.W.methodCall_KW (pl:=pl) (thn (he pins s σ H _ I h) fun u s1 ⟨x,H1,I1,rx,z⟩=>?_) ht
 cases x with
 | ref a =>
  obtain rfl:u=Value.ref a:=rx
  dsimp only at z
  split at z
  ·rename_i C' dx fs ea
   obtain⟨rfl,l,q⟩:=z
   refine d5j I1 ea c hm l ?_
   exact PySem.W.callWith_K0 (first:=[.ref a]) I1.kIn hm.kp (g4r (us:=[.ref a]) (vs:=[.ref a]) F hr hb hd hx I1 (.cons rfl .nil) q)
  ·exact z.elim
 | _=>exact False.elim z
def i6n(H:Hp)(C:Addr)(k:Addr->Hp->Prop)(_:Tag k):Prop:=∀ x dx H1,H x=none->H dx=none->dx≠x->Same H H1->H1 dx=some (.own x)->H1 x=some (.ins C dx [])->k x H1
def i3z(x:Addr)(Q:VK):VK:=fun v H2=>v = .non/\Q (.ref x) H2
theorem asNew{x:Addr}{Q:VK}{H2:Hp}{v:V}:i3z x Q v H2=(v = .non/\Q (.ref x) H2):=rfl
def h6i(C:Addr)(sp:Sp)(dvs:List V)(E:XK)(t:TA):TE:=fun σ H Q=>t σ H fun vs H1=>i6n H1 C (fun x H2=>sp (.ref x :: (vs++dvs)) H2 (i3z x Q) E) ⟨⟩
theorem i6n.raw{H:Hp}{C:Addr}{k:Addr->Hp->Prop}{t:Tag k}(h:i6n H C k t):∀ x dx,H x=none->H dx=none->dx≠x->k x (upd (upd H dx (.own x)) x (.ins C dx [])):=fun x dx ex ed ne =>
 h x dx _ ex ed ne ((Same.upd ed).trans (Same.upd (by rw [a6u ne.symm]; exact ex))) (by rw [a6u ne]; exact a5y) a5y
theorem c7n(M:Mk X.K C f)(F:a3q X.prog X.w X.K X.mg X.base CX k f fd ps sp)(hr:a5z (k+1) X.A)(hg:Gl X x)(hm:X.mg x=some (.ref C))(hb:Binds X.K fd ps ds)(hd:Vals dvs ds)(hx:Passes CX X E)
  (ha : PA X (e :: es) t) (hdb : (x == ("__debug__" : Str)) = false := by decide) (he : starEach (e :: es) X.env = (false, eval e X.env) :: starEach es X.env := by rfl) (hpl : (backTo pos (starEach es X.env)).any (·.1) = false := by rfl) :
  PE X (.Call (.Name x p) (e :: es) [] pos) (h6i C sp dvs E t):=by
 intro pins s σ H Q I h
 refine wpAny_Call_Name_kw (c5i I hg hm ?_ hdb)
 refine PySem.W.callWith_K (h₀:=X.base) I.ok.mod.kin M.kp (thn (ha pos pins s σ H _ I h) fun us s1 ⟨vs,H1,I1,r,q⟩=>⟨I1.kIn,?_⟩) he hpl
 exact g4s M F hr hb hd hx I1 r q.raw
theorem g9l(M:Mk X.K C f)(F:a3q X.prog X.w X.K X.mg X.base CX k f fd ps sp)(hr:a5z (k+1) X.A)(hg:Gl X x)(hm:X.mg x=some (.ref C))(hb:Binds X.K fd ps ds)(hd:Vals dvs ds)(hx:Passes CX X E)
  (hdb : (x == ("__debug__" : Str)) = false := by decide) : PE X (.Call (.Name x p) [] [] pos) (h6i C sp dvs E i2o) := by
 intro pins s σ H Q I h
 refine wpAny_Call_Name_kw (c5i I hg hm ?_ hdb)
 exact PySem.W.callWith_K0 I.kIn M.kp (g4s (us:=[]) M F hr hb hd hx I .nil (i6n.raw (t:=⟨⟩) h))
end
def i6o(K:PySem.W.Frag)(ta tv:TE)(rd:V->V->Hp->VK->Prop)(f:Str):TS:=fun D σ H=>ta σ H fun x H1=>match x with
 | .ref a=>(match H1 a with
  | some (.ins C dx fs)=>Cls K C/\a7m K C f/\(match fs.lookup f with
   | some v=>tv σ H1 fun y H2=>rd v y H2 fun z H3=>(match H3 a with
    | some (.ins C' dx' fs')=>C'=C/\fs'.length < 1000/\Wr H3 a (.ins C dx' (d8v f z fs')) (D.nx σ) ⟨⟩
    | _=>False)
   | none=>False)
  | _=>False)
 | _=>False
section
variable {X:Cx}{o e value:Expr}{f:Str}{pos pos' tpos:Pos}{ta tv:TE}
end
noncomputable def rInF(g:Int->Int->Int):V->V->Hp->VK->Prop:=fun x y H Q=>match x,y with
 | .int i,.int j=>Q (.int (g i j)) H
 | _,_=>False
def tAugF(i:Nat)(te:TE)(ti:TIp):TS:=fun D σ H=>match σ[i]? with
 | some (some x)=>te σ H fun y H1=>ti x y H1 fun z H2=>D.nx (σ.set i (some z)) H2
 | _=>False
section
variable {X:Cx}{pos:Pos}
end
theorem lookup_same{f:Str}{v:V}{r:List (Str×V)}:List.lookup f ((f,v) :: r)=some v:=by rw [List.lookup_cons,beq_self_eq_true]
theorem i4a{f:Str}{v x:V}{r:List (Str×V)}:d8v f v ((f,x) :: r)=(f,v) :: r:=by rw [d8v,if_pos rfl]
theorem i6p{f:Str}{v:V}:d8v f v [] = [(f,v)]:=rfl
theorem h6j{f g:Str}{v:V}{r:List (Str×V)}(h:(f == g)=false):List.lookup f ((g,v) :: r)=r.lookup f:=by rw [List.lookup_cons,h]
theorem i1h{f g:Str}{v x:V}{r:List (Str×V)}(h:(f == g)=false):d8v f v ((g,x) :: r)=(g,x) :: d8v f v r:=by rw [d8v,if_neg fun e=>by rw [e,beq_self_eq_true] at h; exact Bool.noConfusion h]
theorem noxK{X:Cx}:X.nox.K=X.K:=rfl
end L2
namespace L2
open PySem PySem.Spec PyProof.Rows
structure i4b(k:Nat)(A:Around):Prop where
 dp:A.depth+3*k+5 < recursionLimit
 un:A.units+16*k+200 < cLine
theorem a5z.h{k:Nat}{A:Around}(r:a5z k A):i4b k A:=⟨r.dp,r.un⟩
structure i4c(P:Program)(w:World)(K:PySem.W.Frag)(mg:Str->Option Value)(base:Heap)(k:Nat)(f:Addr)(fd:FuncData)(ps:List Str)(sp:Sp):Prop where
 len:∀ vs H Q E,sp vs H Q E->vs.length=ps.length
 run:∀ (A:Around) (outer:List Env) (s:Shared) (H:Hp) (args:Args) (us:List Value) (vs:List V) (Q:VK) (E:XK),i4b k A->h5o P w K mg base A outer s H->BindsTo s fd args (ps.zip us)->Vals vs us->sp vs H Q E ->
  codeAny (model P w) A (.call (.ref f) args) (CR CX0 outer P w H s Q E) s
theorem i4c.ok{P:Program}{w:World}{K:PySem.W.Frag}{mg:Str->Option Value}{base:Heap}{k:Nat}{f:Addr}{fd:FuncData}{ps:List Str}{sp:Sp}(F:i4c P w K mg base k f fd ps sp):a3q P w K mg base CX0 k f fd ps sp :=
 ⟨F.len,fun A outer s H args us vs Q E hr=>F.run A outer s H args us vs Q E hr.h⟩
section
variable {X:Cx}{k:Nat}{f:Addr}{fd:FuncData}{ps:List Str}{sp:Sp}{dvs:List V}{ds:List Value}{x:Str}{p pos:Pos}{e:Expr}{es:List Expr}{t:TA}
end
end L2
namespace L2
open PySem PySem.Spec PyProof.Rows
open PySem.Builtin.Str (occurrences subAt partsBetween strSub)
noncomputable abbrev sg(x:Str):List Nat:=x.cps.toList
theorem d1r{x y:Str}(h:sg x=sg y):x=y:=Str.ext' (by
 have:=congrArg List.toArray h
 simpa using this)
theorem a6q(x y:Str):sg (x++y)=sg x++sg y:=by unfold sg; rw [Str.cps_append]; simp
theorem c9j(x:Str):(sg x).length=x.length:=by simp [Str.length]
theorem h6k{x:Str}{c i:Nat}:StrLaws.At x ⟨#[c]⟩ x.length i ↔ (sg x)[i]? = some c:=StrLaws.subAt_one x c i
theorem d9t{c:Nat}:(⟨#[c]⟩:Str).length=1:=rfl
theorem h6l(x:Str)(i j:Nat):sg (strSub x i j)=((sg x).drop i).take (j - i):=StrLaws.strSub_toList x i j
theorem h3t{x:Str}{c:Nat}{a b:List Nat}(hk:c < 128)(h:sg x=a++c :: b)(ha:c∉a)(hb:c∉b):b3p x ⟨#[c]⟩ = [⟨a.toArray⟩,⟨b.toArray⟩]:=by
 have hl:x.length=a.length+(b.length+1):=by rw [<- c9j,h]; simp
 have k1:¬ ((decide (x.length < (⟨#[c]⟩:Str).length) || decide (Builtin.Str.strKind x < Builtin.Str.strKind ⟨#[c]⟩))=true):=by
  have e:Builtin.Str.strKind ⟨#[c]⟩=1:=by
   unfold Builtin.Str.strKind
   rw [if_pos (by simp; omega)]
  have g:1<=Builtin.Str.strKind x:=by
   unfold Builtin.Str.strKind
   split
   ·decide
   ·split <;> decide
  rw [e,d9t]
  simp only [Bool.or_eq_true,decide_eq_true_eq]
  omega
 have only:∀ i,StrLaws.At x ⟨#[c]⟩ x.length i->i=a.length:=by
  intro i hi
  have hi:=h6k.mp hi
  rw [h] at hi
  rcases Nat.lt_trichotomy i a.length with q | q | q
  ·rw [List.getElem?_append_left q] at hi
   exact absurd (List.mem_of_getElem? hi) ha
  ·exact q
  ·rw [List.getElem?_append_right (Nat.le_of_lt q)] at hi
   obtain⟨j,hj⟩:∃ j,i - a.length=j+1:=⟨i - a.length - 1,by omega⟩
   rw [hj,List.getElem?_cons_succ] at hi
   exact absurd (List.mem_of_getElem? hi) hb
 have there:StrLaws.At x ⟨#[c]⟩ x.length a.length:=h6k.mpr (by rw [h,List.getElem?_append_right (Nat.le_refl _),Nat.sub_self]; rfl)
 obtain⟨f,ch⟩:=StrLaws.occ_chain x ⟨#[c]⟩ (x.length+1)
 have ho:occurrences x ⟨#[c]⟩ 0 x.length (x.length+1) = [a.length]:=by
  rcases StrLaws.occ_head x ⟨#[c]⟩ (x.length+1) (by omega) with ⟨h0,hn⟩ | ⟨i,r,h0,hi,hn⟩
  ·exact absurd there (hn _)
  ·rw [h0] at ch ⊢
   have e:=only i hi
   subst e
   cases r with
   | nil=>rfl
   | cons j r =>
    obtain⟨_,_,q1,q2,_⟩:=ch
    have:=only j q2
    rw [d9t] at q1
    omega
 unfold b3p
 rw [if_neg k1,ho,if_neg (by simp)]
 simp only [partsBetween,List.map_cons,List.map_nil,List.cons_append,List.nil_append,List.zip_cons_cons,List.zip_nil_right,List.cons.injEq,and_true]
 constructor
 ·refine d1r ?_
  rw [h6l,h]
  simp
 ·refine d1r ?_
  rw [h6l,d9t,h,hl]
  have e:(a++c :: b).drop (a.length+1)=b:=by rw [List.drop_append]; simp
  rw [e,List.take_of_length_le (by omega)]
open PySem.NumText (AllDigits digitsVal digitsVal_snoc)
noncomputable def dg(n:Nat):List Nat:=(Nat.toDigits 10 n).map Char.toNat
theorem g5e(n:Nat):digitsVal (dg n)=n:=PySem.W.KIN.val_back n
theorem g2j{n:Nat}(h:n < 10):dg n = [n+48]:=by
 have:∀ d,d < 10->dg d = [d+48]:=by decide
 exact this n h
theorem d9u{m c:Nat}(hm:0 < m)(hc:c < 10):dg (10*m+c)=dg m++[c+48]:=by
 have t:Nat.toDigits 10 m++Nat.toDigits 10 c=Nat.toDigits 10 (10*m+c):=Nat.toDigits_append_toDigits (by decide) hm hc
 unfold dg
 rw [<- t,List.map_append]
 have:=g2j hc
 unfold dg at this
 rw [this]
theorem g9m(n:Nat):dg n≠[]:=by
 by_cases h:n < 10
 ·rw [g2j h]; simp
 ·have e:n=10*(n / 10)+n % 10:=by omega
  rw [e,d9u (by omega) (by omega)]
  simp
theorem d1s(n:Nat):AllDigits (dg n):=by
 induction n using Nat.strongRecOn with
 | _ n ih =>
  by_cases h:n < 10
  ·rw [g2j h]
   intro c hc
   simp at hc
   omega
  ·have e:n=10*(n / 10)+n % 10:=by omega
   rw [e,d9u (by omega) (by omega)]
   intro c hc
   rcases List.mem_append.mp hc with q | q
   ·exact ih (n / 10) (by omega) c q
   ·simp at q
    omega
theorem h8p{n:Nat}(h:0 < n):∃ c r,dg n=c :: r/\c≠48:=by
 induction n using Nat.strongRecOn with
 | _ n ih =>
  by_cases q:n < 10
  ·exact⟨n+48,[],g2j q,by omega⟩
  ·obtain⟨c,r,e,hc⟩:=ih (n / 10) (by omega) (by omega)
   have e2:n=10*(n / 10)+n % 10:=by omega
   refine⟨c,r++[n % 10+48],?_,hc⟩
   conv=>lhs; rw [e2]
   rw [d9u (by omega) (by omega),e]
   rfl
theorem h6m:∀ {ds:List Nat},AllDigits ds->digitsVal ds < 10 ^ ds.length:=by
 intro ds
 generalize hn:ds.length=n
 induction n generalizing ds with
 | zero=>intro _; rw [List.length_eq_zero_iff.mp hn]; decide
 | succ n ih =>
  intro hd
  have hne:ds≠[]:=fun e=>by rw [e] at hn; cases hn
  have e:ds=ds.dropLast++[ds.getLast hne]:=(List.dropLast_concat_getLast hne).symm
  generalize ds.dropLast=cs at e
  generalize ds.getLast hne=c at e
  subst e
  have hc:=hd c (by simp)
  have:=ih (ds:=cs) (by simp at hn; exact hn) fun d hd'=>hd d (by simp [hd'])
  rw [digitsVal_snoc,Nat.pow_succ]
  omega
noncomputable def txt(t:Int):List Nat:=if t < 0 then 45 :: dg t.natAbs else dg t.natAbs
theorem d3v(t:Int):sg (Str.ofString (toString t))=txt t:=by
 unfold txt
 match t with
 | .ofNat m=>exact PySem.W.KIN.signs_num m
 | .negSucc m =>
  rw [if_pos (Int.negSucc_lt_zero m)]
  unfold sg
  rw [signs_ofString]
  show (("-" ++ Nat.repr (m + 1)).toList.map Char.toNat) = _
  rw [String.toList_append,List.map_append,Nat.toList_repr]
  rfl
theorem c6u{x:Str}{t:Int}(h:sg x=txt t)(hl:x.length<=4300):PySem.intText? x=some t:=by
 unfold txt at h
 split at h
 ·rename_i ht
  have:=intText_neg h (d1s _) (g9m _) hl
  rw [g5e] at this
  rw [this]
  congr 1
  omega
 ·rename_i ht
  have:=intText_digits (x:=x) (by rw [show x.cps.toList=sg x from rfl,h]; exact d1s _) (by rw [show x.cps.toList=sg x from rfl,h]; exact g9m _) hl
  rw [show x.cps.toList=sg x from rfl,h,g5e] at this
  rw [this]
  congr 1
  omega
theorem i4d(n:Nat):(dg n).length<=n.log2+1:=by
 induction n using Nat.strongRecOn with
 | _ n ih =>
  by_cases h:n < 10
  ·rw [g2j h]; simp
  ·have e:n=10*(n / 10)+n % 10:=by omega
   have i:=ih (n / 10) (by omega)
   have k:(n / 10).log2+1<=n.log2:=by
    rw [Nat.le_log2 (by omega),Nat.pow_succ]
    have:=Nat.log2_self_le (n:=n / 10) (by omega)
    omega
   have z:=d9u (m:=n / 10) (c:=n % 10) (by omega) (by omega)
   rw [<- e] at z
   rw [z]
   rw [List.length_append]
   simp only [List.length_cons,List.length_nil]
   omega
theorem g2k(t:Int):(txt t).length<=t.natAbs.log2+2:=by
 have:=i4d t.natAbs
 unfold txt
 split
 ·rw [List.length_cons]; omega
 ·omega
noncomputable def h3u(t b:Int):List Nat:=txt t++47 :: txt b
structure Good(x:List Nat)(t b:Int):Prop where
 eq:x=h3u t b
 pos:0 < b
 low:Int.gcd t b=1
 l1:(dg t.natAbs).length<=9
 l2:(dg b.natAbs).length<=9
noncomputable def g6i(l:List Nat):Bool:=l.all (fun c=>decide (48<=c) && decide (c<=57)) && !l.isEmpty
theorem f6g{l:List Nat}:g6i l=true ↔ AllDigits l/\l≠[]:=by
 unfold g6i AllDigits
 simp
theorem h8q (c : Nat) : g5d "0123456789" ⟨#[c]⟩ = (decide (48 ≤ c) && decide (c ≤ 57)) := by
 unfold g5d
 rw [StrLaws.found_one]
 have e : (Str.ofString "0123456789").cps.toList = [48, 49, 50, 51, 52, 53, 54, 55, 56, 57] := by decide +kernel
 rw [e]
 by_cases h:48<=c/\c<=57
 ·rw [show (decide (48<=c) && decide (c<=57))=true by simp [h]]
  rw [decide_eq_true_eq]
  simp
  omega
 ·rw [show (decide (48<=c) && decide (c<=57))=false by simp; omega]
  rw [decide_eq_false_iff_not]
  simp
  omega
theorem f4q{t:Int}{c:Nat}(h1:c≠45)(h2:c < 48\/57 < c):c∉txt t:=by
 unfold txt
 intro h
 split at h
 ·rcases List.mem_cons.mp h with q | q
  ·exact h1 q
  ·have:=d1s _ c q; omega
 ·have:=d1s _ c h; omega
theorem i4e(t:Int):(txt t).length<=(dg t.natAbs).length+1:=by
 unfold txt
 split
 ·rw [List.length_cons]; exact Nat.le_refl _
 ·exact Nat.le_succ _
theorem h6n(x:Str)(c:Nat):Txt.startswith x ⟨#[c]⟩=decide ((sg x)[0]? = some c):=by
 unfold Txt.startswith
 rw [Bool.eq_iff_iff,Bool.and_eq_true,decide_eq_true_eq,decide_eq_true_eq]
 exact StrLaws.subAt_one x c 0
theorem i4f{x:Str}{t:Int}(h:sg x=txt t):Txt.startswith x ⟨#[45]⟩=decide (t < 0):=by
 rw [h6n,h]
 unfold txt
 split
 ·rename_i q
  simp [q]
 ·rename_i q
  rw [decide_eq_false q,decide_eq_false_iff_not]
  intro e
  have:=d1s _ 45 (List.mem_of_getElem? e)
  omega
theorem h8r{x:Str}{i:Nat}(h:i<=x.length):sg (Txt.slice x (some (i:Int)) none)=(sg x).drop i:=by
 rw [slice_from_eq (b:=(x.length:Int)) (by omega) (by omega) rfl]
 simp only [sg,Int.toNat_natCast]
 rw [List.take_of_length_le]
 rw [List.length_drop]
 have:=c9j x
 unfold sg at this
 omega
end L2
namespace L2
open PySem PySem.Spec PyProof.Rows
section
variable {X:Cx}
noncomputable def rTupS(K:PySem.W.Frag):List V->Hp->VK->Prop:=fun xs H Q=>match xs with
 | [.ref p]=>(match H p with
  | some (.lst ys)=>New H (.tup ys) Q ⟨⟩
  | some (.tup ys)=>Q (.ref p) H
  | _=>False)
 | _=>False
end
section
variable {X:Cx}
structure InsQ(K:PySem.W.Frag)(C:Addr):Prop where
 ha : PySem.W.findIn K (.ref C) "__class__" = some (some (.builtin "object.__class__"))
 hn : PySem.W.specialIn K (.builtin "object.__class__") "__get__" = some (some (.builtin "getset_descriptor.__get__"))
 htk : PySem.W.takesIn K (.builtin "object.__class__") = some true
 hm : PySem.W.mroIn K C (.type "object") = some true
noncomputable def rIsI(K:PySem.W.Frag):List V->Hp->VK->Prop:=fun xs H Q=>match xs with
 | [.ref a,.ref D]=>(match H a with
  | some (.ins C dx fs)=>Cls K C/\InsQ K C/\(match PySem.W.kitOne K (.ref C) (.ref D) with
   | some b=>Q (.bl b) H
   | none=>False)
  | _=>False)
 | _=>False
end
section
variable {X:Cx}{pos:Pos}
noncomputable def i8q:List V->Hp->VK->Prop:=fun xs H Q=>match xs with
 | [.int i,.int j]=>(0 < j/\j < 1073741824)/\New H (.tup [.int (i / j),.int (i % j)]) Q ⟨⟩
 | _=>False
noncomputable def gNilF:TGs:=fun vs σ H Q=>match vs with
 | []=>Q σ H
 | _=>False
def j0z(t:TG)(u:TGs):TGs:=fun vs σ H Q=>match vs with
 | v :: r=>t v σ H fun σ' H'=>u r σ' H' Q
 | _=>False
def gTupF(n:Nat)(t:TGs):TG:=fun v σ H Q=>match v with
 | .ref a=>(match H a with
  | some (.tup xs)=>xs.length=n/\t xs σ H Q
  | _=>False)
 | _=>False
end
end L2
namespace L2
open PySem PySem.Spec PyProof.Rows
def g9n(J:It)(tc:TT)(te:TE)(D:Addr)(σ:St)(H:Hp)(Q:VK)(_:Tag Q):Prop:=∃ (n:Nat) (W:Nat->List V->Hp->Prop),W 0 [] H/\∀ i ys H,i<=n->W i ys H->H D=some (.lst ys) /\
 ((J.stop i H/\Q (.ref D) H)\/(i < n/\J.go i H/\ys.length < sizeLine/\∀ x H',J.yld i H x H'->tc (some x :: σ) H' fun b H1 =>
  if b=true then te (some x :: σ) H1 fun y H2=>H2 D=some (.lst ys)/\∀ H3,a7h D H2 H3->H3 D=some (.lst (ys++[y]))->W (i+1) (ys++[y]) H3
  else W (i+1) ys H1))
def i4g(wi:TI)(tc:TT)(te:TE):TE:=fun σ H Q=>wi σ H fun J H1=>∀ D H2,H1 D=none->Same H1 H2->H2 D=some (.lst [])->g9n J tc te D σ H2 Q ⟨⟩
section
variable {X:Cx}{scope:Scope}{x:Str}{pins:List (Addr×Obj)}{σ:St}{elt iter cnd:Expr}{px pos:Pos}{wi:TI}{te:TE}{tc:TT}
theorem g2l{s₂:Shared}{H1:Hp}{it:Addr}{fp:List Addr}{tn:Nat->Heap->Prop}{J:It}{Q:VK}{RR:Value->Addr->Result->Shared->Prop}{E:Value->Shared->Prop}{cl:List (Str×Addr)}
  (S:b5y X scope x) (hc:X.calm=true) (hcnd:∀ cl C s₃ H₃ fp,PT (a6p X scope cl C s₃ H₃ fp x) cnd tc) (he:∀ cl C s₃ H₃ fp,PE (a6p X scope cl C s₃ H₃ fp x) elt te)
  (hcl:∀ y c,cl.lookup y=some c->(y,NameKind.free)∈scope.names/\X.env.cells.lookup y=some c) (hcl2:∀ y,(y,NameKind.free)∈scope.names->cl.lookup y=X.env.cells.lookup y)
  (I2:Inv X pins σ H1 s₂) (T:Turn X.prog X.w X.K (.Name x px) J fp it tn) (st2:tn 0 s₂.heap) (f2:∀ b∈fp,f2p X pins H1 b) (h:∀ D H2,H1 D=none->Same H1 H2->H2 D=some (.lst [])->g9n J tc te D σ H2 Q ⟨⟩)
  (hRR:∀ (D C:Addr) (s':Shared) (H':Hp),(∃ m,s'.heap.Ns C m)->(∀ h' ,Heap.SameBut C s'.heap h'->Inv X pins σ H' { s' with heap:=h' })->f2p X pins H' C->Q (.ref D) H'->RR (.ref D) C (.ok .next) s') :
  wpAny (model X.prog X.w) X.A (newList []) (fun acc s₃=>wpAny (model X.prog X.w) X.A (newFunctionEnv scope X.env.globals cl [] X.env.qual none .none (some X.env)) (fun cenv s₄ =>
   codeAny (model X.prog X.w) X.A (.compStart (.ListComp elt [⟨.Name x px,iter,[cnd],0⟩] scope pos) 0 (.ref it) acc { cenv with scope:=relabel scope X.env }) (RR acc cenv.locals) s₄) E s₃) E s₂:=by
 have hfr:H1 s₂.heap.objs.size=none:=I2.hok.fresh (Nat.le_refl _)
 have hCW:=h s₂.heap.objs.size _ hfr (Same.upd hfr) a5y
 refine wpAny_newObj_type ?_
 have I3 : Inv X pins σ (upd H1 s₂.heap.objs.size (.lst [])) { s₂ with heap := s₂.heap.push { cls := .type "list", data := .seq ([] : List Value).toArray }, toks := s₂.toks } :=
  I2.laid (t':=s₂.toks) (fun b u e=>Heap.get?_push_of_some _ e) (Nat.le_refl _) ⟨Nat.zero_le _,[],0,.nil,Heap.get?_push_size _ rfl⟩
 have nD:∀ b∈fp,b≠s₂.heap.objs.size:=fun b hb=>by
  obtain⟨o,e,_⟩:=T.obj 0 _ st2 b hb
  exact Nat.ne_of_lt (Heap.lt_size e)
 have f3:∀ b∈fp,f2p X pins (upd H1 s₂.heap.objs.size (.lst [])) b:=fun b hb=>⟨by rw [a6u (nD b hb)]; exact (f2 b hb).1,(f2 b hb).2⟩
 generalize hH3:upd H1 s₂.heap.objs.size (.lst [])=H3 at *
 have st3 : tn 0 (s₂.heap.push { cls := .type "list", data := .seq ([] : List Value).toArray }) := T.keep _ _ _ st2 fun b _ o e => Heap.get?_push_of_some _ e
 have g9d : ∀ b ∈ fp, b < (s₂.heap.push { cls := .type "list", data := .seq ([] : List Value).toArray }).objs.size := fun b hb => by
  obtain⟨o,e,_⟩:=T.obj 0 _ st3 b hb
  exact Heap.lt_size e
 show wpAny (model X.prog X.w) X.A (newFunctionEnv scope X.env.globals cl [] X.env.qual none .none (some X.env)) _ E { s₂ with heap := s₂.heap.push { cls := .type "list", data := .seq ([] : List Value).toArray }, toks := s₂.toks }
 generalize hs3 : ({ s₂ with heap := s₂.heap.push { cls := .type "list", data := .seq ([] : List Value).toArray }, toks := s₂.toks } : Shared) = s₃ at *
 have eh : s₃.heap = s₂.heap.push { cls := .type "list", data := .seq ([] : List Value).toArray } := by rw [← hs3]
 rw [<- eh] at st3 g9d
 generalize s₂.heap.objs.size=D at *
 refine wpAny_newFunctionEnv S.d9m (by intro y hy; simp at hy) (fun h₁ hns₁ hsb₁=>?_) S.kind
 have hk1:∀ b o,s₃.heap.get? b=some o->h₁.get? b=some o:=fun b o e=>hsb₁.extBut b o (Nat.ne_of_lt (Heap.lt_size e)) (Heap.get?_push_of_some _ e)
 have J0:Inv (a6p X scope cl s₃.heap.objs.size s₃ H3 fp x) [] (none :: σ) H3 { s₃ with heap:=h₁,toks:=s₃.toks+([] : List (Str×Value)).length }:=I3.comp S hcl hcl2 f3 g9d hns₁ hk1 rfl rfl
 obtain⟨n0,W,w0,turn⟩:=hCW
 have loop:codeAny (model X.prog X.w) X.A (.compLoop (.ListComp elt [⟨.Name x px,iter,[cnd],0⟩] scope pos) 0 (.ref it) (.ref D) (compEnvC scope cl s₃.heap.objs.size X.env)) (RR (.ref D) s₃.heap.objs.size) { s₃ with heap:=h₁,toks:=s₃.toks+([] : List (Str×Value)).length }:=by
  refine codeAny_loop rfl (fun n s'=>∃ i ys o H',Inv (a6p X scope cl s₃.heap.objs.size s₃ H3 fp x) [] (o :: σ) H' s'/\tn i s'.heap/\(∀ b∈fp,H' b=none)/\W i ys H'/\i<=n0/\n=n0 - i) (fun n s5 hI=>?_) n0
   ⟨0,[],none,H3,J0,T.keep _ _ _ st3 (fun b _ o e=>hk1 b o e),fun b hb=>(f3 b hb).1,w0,Nat.zero_le _,rfl⟩
  obtain⟨i,ys,o5,H5,I5,st5,fr5,w5,hin,hnn⟩:=hI
  have stat:∀ {H':Hp},(∀ b∈fp,H' b=none)->∀ b∈fp,f2p (a6p X scope cl s₃.heap.objs.size s₃ H3 fp x) [] H' b:=fun hn b hb =>
   ⟨hn b hb,Nat.ne_of_lt (g9d b hb),fun z=>(List.mem_cons.mp (I3.f4j b z)).elim (fun q=>(f3 b hb).2.1 q) fun q=>(f3 b hb).2.2.1 q,.inl hb,fun y c e=>(f3 b hb).2.2.2.2.1 y c (hcl y c e).2,fun p hp=>absurd (show p∈([] : List (Addr×Obj)) from hp) (by simp)⟩
  show wpAny _ X.A ((compTurn (.ListComp elt [⟨.Name x px,iter,[cnd],0⟩] scope pos) 0 (.ref it) (.ref D) (compEnvC scope cl s₃.heap.objs.size X.env)).onRaise (fun x=>do noteFrame x (compEnvC scope cl s₃.heap.objs.size X.env); theTreesLotGoes x)) _ _ s5
  refine wpAny_noted ?_
  rw [compTurn_list]
  refine wpAny_bind (wpAny_standAt (wpAny_bind ?_))
  obtain⟨hD5,alt⟩:=turn i ys H5 hin w5
  rcases alt with ⟨stop,q⟩ | ⟨hlt,go,hsz,step⟩
  ·refine wpAny_mono (T.done (a6p X scope cl s₃.heap.objs.size s₃ H3 fp x) rfl rfl rfl hc i [] s5 _ H5 _ I5 (stat fr5) st5 stop) (fun r s6 ⟨hr,I6⟩=>?_) fun _ _ z=>z
   subst hr
   refine wpAny_pure ?_
   obtain⟨m6,hn6,_⟩:=I6.loc
   exact hRR D s₃.heap.objs.size s6 H5 ⟨m6,hn6⟩ (fun h' hs'=>I3.g9c f3 I6 hs') (I3.i1e (Nat.le_refl _) I6.free) q
  ·refine wpAny_mono (T.item (a6p X scope cl s₃.heap.objs.size s₃ H3 fp x) rfl rfl rfl hc i [] s5 _ H5 _ I5 (stat fr5) st5 go) (fun r s6 ⟨u,hr,h6⟩=>?_) fun _ _ z=>z
   subst hr
   refine wpAny_bind (wpAny_mono h6 (fun _ s7 ⟨v,H7,I7,r7,y7,st7,fr7⟩=>?_) fun _ _ z=>z)
   have I7':=I7.pinned (stat fr7) (T.obj _ _ st7)
   have G:=c5j (X:=a6p X scope cl s₃.heap.objs.size s₃ H3 fp x) (pos:=px) (i:=0) (x:=x) S.nd rfl (.inl (lookup_relabel_local S.own)) (.inr (lookup_relabel_local S.own))
   refine wpAny_bind (wpAny_mono (G _ s7 _ H7 v u (fun σ' H'=>σ'=some v :: σ/\H'=H7) I7' r7 ⟨rfl,rfl⟩) (fun _ s8 hs8=>?_) fun _ _ z=>False.elim z)
   obtain⟨σ8,H8,I8,rfl,rfl⟩:=hs8
   refine wpAny_bind (wpAny_mono (wpAny_tests_one (hcnd cl s₃.heap.objs.size s₃ H3 fp _ s8 _ _ _ I8 (step v H8 y7))) (fun ok sB hok=>?_) fun _ _ z=>False.elim z)
   obtain⟨HB,IB,qB⟩:=hok
   cases ok with
   | false =>
    have wB:W (i+1) ys HB:=by simpa using qB
    refine wpAny_pure ⟨rfl,n0 - (i+1),by omega,i+1,ys,some v,_,IB.c7j (pins:=[]) (pl:=d6w fp s7.heap),T.keep _ _ _ st7 (fun b hb o e=>(IB.pin (b,o) (List.mem_append_right _ (a9n hb e))).1),fun b hb=>?_,wB,hlt,rfl⟩
    obtain⟨o,e,d⟩:=T.obj _ _ st7 b hb
    exact (IB.pin (b,o) (List.mem_append_right _ (a9n hb e))).2.1
   | true =>
   rw [if_pos rfl] at qB
   refine wpAny_bind (wpAny_bind (wpAny_mono (he cl s₃.heap.objs.size s₃ H3 fp _ sB _ _ _ IB qB) (fun yv s9 hs9=>?_) fun _ _ z=>False.elim z))
   obtain⟨y,H9,I9,r9,hD9,k9⟩:=hs9
   refine wpAny_bind (wpAny_mono (d3o (X:=a6p X scope cl s₃.heap.objs.size s₃ H3 fp x) _ s9 _ H9 (.ref D) [y] (.ref D) [yv] (fun _ H'=>H'=upd H9 D (.lst (ys++[y]))) I9 rfl (.cons r9 .nil) ⟨D,ys,y,rfl,rfl,hD9,hsz,rfl⟩) (fun _ sA hsA=>?_) fun _ _ z=>False.elim z)
   obtain⟨_,HA,IA,_,rfl⟩:=hsA
   refine wpAny_pure ?_
   have wA:=k9 _ a7h.upd a5y
   refine wpAny_pure ⟨rfl,n0 - (i+1),by omega,i+1,ys++[y],some v,_,IA.c7j (pins:=[]) (pl:=d6w fp s7.heap),T.keep _ _ _ st7 (fun b hb o e=>(IA.pin (b,o) (List.mem_append_right _ (List.mem_append_right _ (a9n hb e)))).1),fun b hb=>?_,wA,hlt,rfl⟩
   obtain⟨o,e,d⟩:=T.obj _ _ st7 b hb
   exact (IA.pin (b,o) (List.mem_append_right _ (List.mem_append_right _ (a9n hb e)))).2.1
 exact codeAny_compStart_list loop (T.self _ 0 _ _ _ (T.keep _ _ _ st3 fun b _ o e=>hk1 b o e) loop)
theorem h3v(hi:PI X (.Name x px) iter wi)(hcnd:∀ cl C s₃ H₃ fp,PT (a6p X scope cl C s₃ H₃ fp x) cnd tc)(he:∀ cl C s₃ H₃ fp,PE (a6p X scope cl C s₃ H₃ fp x) elt te)(S:b5y X scope x)(hc:X.calm=true)
  (hs:∀ x,foldedSetIterable iter X.env x=pure x:=by intro _; rfl):PE X (.ListComp elt [⟨.Name x px,iter,[cnd],0⟩] scope pos) (i4g wi tc te):=by
 intro pins s σ H Q I h
 obtain⟨cl,hclos,hcl,hcl2⟩:=d0w (env:=X.env) (sc:=scope) fun y hy=>I.ok.has y (S.free _ hy rfl)
 rw [eval_ListComp]
 refine wpAny_comprehension_free (use:=none) rfl hs hclos S.kind S.loc ?_
 refine thn (hi pins s σ H _ I h) fun v s1 h1=>thn h1 fun itv s2 h2=>?_
 obtain⟨it,fp,tn,J,H2,e,I2,T,st2,f2,hW⟩:=h2
 subst e
 exact g2l (RR:=fun acc C=>compPost (model X.prog X.w) X.A X.xe none (EP X pins σ Q) acc C) S hc hcnd he hcl hcl2 I2 T st2 f2 hW fun D C s' H' hm hI _ hq =>
  hm.elim fun m hn=>⟨m,hn,fun h' hs'=>⟨.ref D,H',hI h' hs',rfl,hq⟩⟩
end
section
variable {X:Cx}{k:Nat}{f C:Addr}{fd:FuncData}{ps:List Str}{sp:Sp}{dvs:List V}{ds:List Value}{E:XK}{x m:Str}{p pos apos:Pos}{e o:Expr}{es:List Expr}{ta:TE}{t:TA}
end
end L2
namespace L2
open PySem PySem.Spec PyProof.Rows
noncomputable def rSl3:V->Option Int->Hp->VK->Prop:=fun x st H Q=>match x with
 | .ref a=>(match H a with
  | some (.lst xs)=>st≠some 0/\∀ ys:List V,ys.length<=xs.length->(∀ y∈ys,y∈xs)->New H (.lst ys) Q ⟨⟩
  | _=>False)
 | _=>False
def tSl3(te:TE)(tl th ts:TO):TE:=fun σ H Q=>te σ H fun x H1=>tl σ H1 fun _ H2=>th σ H2 fun _ H3=>ts σ H3 fun st H4=>rSl3 x st H4 Q
section
variable {X:Cx}
end
section
variable {prog:Program}{w:World}{A:Around}{E:Value->Shared->Prop}{s:Shared}
end
noncomputable def rSetM:V->V->V->Hp->(Hp->Prop)->Prop:=fun o i v H Q=>match o,i with
 | .ref p,.int k=>(match H p with
  | some (.lst xs)=>(0<=k/\k < xs.length)/\∀ H1,a7h p H H1->H1 p=some (.lst (xs.set k.toNat v))->Q H1
  | _=>False)
 | _,_=>False
theorem g5f{K:PySem.W.Frag}{a D:Addr}{xs:List V}{te:TE}{σ:St}{H0 H:Hp}{Q:VK}(zs:List V)(hz:zs.length=xs.length)(n0:H0 D=none)(S:Same H0 H)(hD:H D=some (.lst []))(hS:SqL K H0 a xs)(hsz:xs.length<=sizeLine)
  (hs:∀ (i:Nat) x z H' (Q':VK),xs[i]? = some x->zs[i]? = some z->Same H0 H'->Q' z H'->te (some x :: σ) H' Q') (q:∀ H',Same H0 H'->H' D=some (.lst zs)->Q (.ref D) H'):f5y (Itl K a) te D σ H Q ⟨⟩:=by
 refine c1q (fun i ys H'=>Same H0 H'/\H' D=some (.lst ys)/\ys=zs.take i) ⟨S,hD,by simp⟩ hsz (fun i ys H' hi p=>?_) (fun i x ys H' hx p=>?_) (fun ys H' p=>?_)
 ·refine⟨p.2.1,p.1.seq hS,?_⟩
  rw [p.2.2,List.length_take]
  omega
 ·have hi:i < zs.length:=by rw [hz]; exact (List.getElem?_eq_some_iff.mp hx).1
  have hzi:zs[i]? = some zs[i]:=List.getElem?_eq_getElem hi
  refine hs i x _ H' _ hx hzi p.1 ⟨p.2.1,fun H3 s3 h3=>⟨p.1.step n0 s3,h3,?_⟩⟩
  rw [p.2.2,List.take_add_one,hzi]
  rfl
 ·refine q H' p.1 ?_
  rw [p.2.1,p.2.2,<- hz,List.take_length]
end L2
namespace L2
open PySem PySem.Spec PyProof.Rows
section
variable {X:Cx}{pins:List (Addr×Obj)}{σ:St}{H:Hp}{s:Shared}
end
def ItB (b : Bool) (h : Heap) (it l : Addr) (i : Nat) : Prop := ∃ o, h.get? it = some o ∧ o.cls = .type (cond b "list_iterator" "tuple_iterator") ∧ o.data = .fields #[.ref l, .int i 0]
def SqB (b : Bool) (h : Heap) (l : Addr) (items : Array Value) : Prop := ∃ o, h.get? l = some o ∧ o.cls = .type (cond b "list" "tuple") ∧ ∃ n, o.data = .seq items n
theorem ItB.at{b:Bool}{h h':Heap}{it l:Addr}{i:Nat}(x:ItB b h it l i)(k:∀ o,h.get? it=some o->h'.get? it=some o):ItB b h' it l i:=let ⟨o,e,r⟩:=x; ⟨o,k o e,r⟩
theorem SqB.at{b:Bool}{h h':Heap}{l:Addr}{items:Array Value}(x:SqB b h l items)(k:∀ o,h.get? l=some o->h'.get? l=some o):SqB b h' l items:=let ⟨o,e,r⟩:=x; ⟨o,k o e,r⟩
section
variable {prog:Program}{w:World}{A:Around}{E:Value->Shared->Prop}{s:Shared}
end
end L2
namespace L2
open PySem PySem.Spec PyProof.Rows
structure i1i(X:Cx)(scope:Scope)(x y:Str):Prop where
 kind:scope.kind = .function
 d9m:∀ y∈scope.names,y.2≠.cell
 loc:∀ y∈scope.names,y.2 = .local->scope.names.lookup y.1=some .local
 own:scope.names.lookup x=some .local
 own2:scope.names.lookup y=some .local
 free:∀ y∈scope.names,y.2 = .free->X.env.kindOf y.1=some .cell\/X.env.kindOf y.1=some .free
 nd:(x :: y :: mask x X.N).Nodup
 noe : ∀ y ∈ scope.names, y.1 ≠ ""
 vis:∀ y∈mask x X.N,scope.names.lookup y≠some .local
section
variable {X:Cx}{scope:Scope}{x y:Str}{cl:List (Str×Addr)}{pins:List (Addr×Obj)}{σ:St}{H:Hp}{s s₄:Shared}{fp:List Addr}
end
section
variable {X:Cx}{scope:Scope}{x y:Str}{pins:List (Addr×Obj)}{σ:St}{elt iter:Expr}{px py tpos pos:Pos}{kk:Nat}{wi:TI}{te:TE}
end
end L2
namespace L2
open PySem PySem.Spec PyProof.Rows
end L2
namespace L2
open PySem PySem.Spec PyProof.Rows
section
variable {prog:Program}{w:World}{A:Around}{E:Value->Shared->Prop}{s:Shared}
end
section
variable {prog:Program}{w:World}{A:Around}{E:Value->Shared->Prop}{s:Shared}
end
end L2
namespace L2
open PySem PySem.Spec PyProof.Rows
section
variable {M:Model}{A:Around}{E:Value->Shared->Prop}{s:Shared}{env:Env}
end
end L2
namespace L2
open PySem PySem.Spec PyProof.Rows
def i8r(chk:V->Hp->Bool)(r:V->List V->Hp->VK->Prop)(to:TE):TE:=fun σ H Q=>to σ H fun x H1=>chk x H1=true/\r x [] H1 Q
section
variable {X:Cx}{o:Expr}{to:TE}{name:Str}{apos cpos:Pos}{T id:String}{r:V->List V->Hp->VK->Prop}{chk:V->Hp->Bool}
theorem g9o (hchk : ∀ x H, chk x H = true → tyV X.K T x H) (pa : PlainAttrs T) (slot : Slot T name id) (hty : typeOf (.builtin id) = pure (.type "method_descriptor")) (hm : MtR X id r) (ho : PE X o to)
  (hbase:attributeBase o name X.env (eval o X.env)=eval o X.env:=by rfl) (hline:(apos.endLine == cpos.line)=true:=by rfl):PE X (.Call (.Attribute o name apos) [] [] cpos) (i8r chk r to):=by
 intro pins s σ H Q I h
 refine wpAny_Call_method0_late hbase hline (thn (ho pins s σ H _ I h) fun v s1 ⟨x,H1,I1,r1,ty,q1⟩=>?_)
 obtain⟨h1,h2⟩:=h5p I1 r1 (hchk x H1 ty)
 exact⟨T,id,pa,slot,hty,h1,h2,Calls.callWith_builtin rfl (PySem.evalArgs_none (hm pins s1 σ H1 x [] v [] Q I1 r1 .nil q1))⟩
end
end L2
namespace L2
open PySem PySem.Spec PyProof.Rows
structure i8s(K:PySem.W.Frag)(w:World)(d:Addr):Prop where
 lk : ∃ es n, K.lookup d = some ⟨.type "dict", none, .dict es n, #[]⟩ ∧ PySem.W.KeysLit w.params es.toList
 ns:(d == sysModules)=false
def rNiD(K:PySem.W.Frag)(w:World)(neg:Bool):R2:=fun x y H Q=>match x,y with
 | .str z,.ref d=>i8s K w d/\∃ r,PySem.W.nsIn K d z=some r/\Q (.bl (r.isSome != neg)) H
 | _,_=>False
section
variable {X:Cx}
theorem g0a{K:PySem.W.Frag}{w:World}(eK:X.K=K)(eW:X.w=w):OpR X (compareOp .NotIn) (rNiD K w true):=by
 subst eK eW
 intro pins s σ H x y v u Q I rx ry h
 cases x <;> cases y <;> first | exact False.elim h | skip
 ·rename_i z d
  obtain⟨⟨⟨es,n,hl,hk⟩,hn⟩,r,e,q⟩:=h
  obtain⟨t,rfl⟩:=rx
  cases ry
  refine wpAny_notIn_of (PySem.strKind_is X.prog X.w z t) hn (PySem.W.mapOf_K (prog:=X.prog) I.kIn hl (hk)) ?_
  rw [PySem.W.find_K hl e]
  rw [Bool.bne_true] at q
  exact⟨.bl (!r.isSome),H,I.tok _,rfl,q⟩
def rIxD(K:PySem.W.Frag)(w:World):R2:=fun x y H Q=>match x,y with
 | .ref d,.str z=>i8s K w d/\∃ f,PySem.W.nsIn K d z=some (some (.ref f))/\Q (.ref f) H
 | _,_=>False
theorem i6q{K:PySem.W.Frag}{w:World}(eK:X.K=K)(eW:X.w=w):IxR X (rIxD K w):=by
 subst eK eW
 intro value slice pins s σ H x y v u Q I rx ry h hs
 cases x <;> cases y <;> first | exact False.elim h | skip
 ·rename_i d z
  obtain⟨⟨⟨es,n,hl,hk⟩,hn⟩,f,e,q⟩:=h
  obtain⟨t,rfl⟩:=ry
  cases rx
  have hm:=PySem.W.mapOf_K (prog:=X.prog) (w:=X.w) I.kIn hl (hk)
  exact tail_any hm.typeIs slot_dict_getitem.lookup (wpAny_getItem_of (PySem.strKind_is X.prog X.w z t) hm (PySem.W.find_K hl e) ⟨.ref f,H,I.tok _,rfl,q⟩) hs
def i4h(f:Addr)(sp:Sp)(dvs:List V)(E:XK)(tg:TE)(t:TA):TE:=fun σ H Q=>tg σ H fun x H1=>x = .ref f/\h2x sp dvs E t σ H1 Q
theorem d8s{CX:CXT}{k:Nat}{f:Addr}{fd:FuncData}{ps:List Str}{sp:Sp}{ds:List Value}{dvs:List V}{E:XK}{g e:Expr}{es:List Expr}{tg:TE}{t:TA}{pos:Pos}(F:a3q X.prog X.w X.K X.mg X.base CX k f fd ps sp)(hr:a5z k X.A)(hk:PySem.W.keepIn X.K (.ref f)=true)(hb:Binds X.K fd ps ds)(hd:Vals dvs ds)(hx:Passes CX X E)
  (hg:PE X g tg) (ha:PA X (e :: es) t) (he:starEach (e :: es) X.env=(false,eval e X.env) :: starEach es X.env:=by rfl) (hpl:(backTo pos (starEach es X.env)).any (·.1)=false:=by rfl)
  (hc:eval (.Call g (e :: es) [] pos) X.env=(do callWith pos (<- eval g X.env) [] (backTo pos (starEach (e :: es) X.env)) (backToKw pos (keywordEach [] X.env))):=by rfl) :
  PE X (.Call g (e :: es) [] pos) (i4h f sp dvs E tg t):=by
 intro pins s σ H Q I h
 refine Call_ (thn (hg pins s σ H _ I h) fun v s1 ⟨x,H1,I1,r1,ex,q1⟩=>?_) hc
 subst ex
 cases r1
 refine PySem.W.callWith_K (h₀:=X.base) I1.ok.mod.kin hk (thn (ha pos pins s1 σ H1 _ I1 q1) fun us s2 ⟨vs,H2,I2,r,q⟩=>⟨I2.kIn,?_⟩) he hpl
 exact g4r F hr hb hd hx I2 r q
theorem SP.i8t{pins:List (Addr×Obj)}{D:Ends}{f:Flow}{s:Shared}(h:SP X.nox pins D f s):SP X pins D f s:=by
 cases f with
 | next=>obtain⟨a,b,c,d⟩:=h; exact⟨a,b,c.b3o,d⟩
 | brk=>obtain⟨a,b,c,d⟩:=h; exact⟨a,b,c.b3o,d⟩
 | cont=>obtain⟨a,b,c,d⟩:=h; exact⟨a,b,c.b3o,d⟩
 | ret u=>obtain⟨v,a,b,c,d⟩:=h; exact⟨v,a,b,c.b3o,d⟩
theorem h8s{st:Stmt}{h₀:ExceptHandler}{hs:List ExceptHandler}{tb:TS}{pos:Pos}(hb:PS X.nox st tb):PS X (.Try [st] (h₀ :: hs) [] [] pos) tb:=by
 intro pins s σ H Dn I h
 refine wpAny_Try_except (wpAny_execs_cons (wpAny_mono (hb pins s σ H Dn (I.wish _) h) (fun f s1 q=>?_) fun e s1 z=>False.elim z))
 have q':=SP.i8t q
 cases f with
 | next=>exact wpAny_execs_nil (wpAny_execs_nil q')
 | ret v=>exact q'
 | brk=>exact q'
 | cont=>exact q'
end
end L2
namespace L2
open PySem PySem.Spec PyProof.Rows
theorem g5g{c:Nat}:∀ {a a' b b':List Nat},a++c :: b=a'++c :: b'->c∉a->c∉a'->a=a'/\b=b'
 | [],[],_,_,h,_,_=>by simpa using h
 | [],d :: a',_,_,h,_,h2=>by
  rw [List.nil_append,List.cons_append,List.cons.injEq] at h
  exact absurd (by rw [h.1]; exact List.mem_cons_self) h2
 | d :: a,[],_,_,h,h1,_=>by
  rw [List.nil_append,List.cons_append,List.cons.injEq] at h
  exact absurd (by rw [h.1]; exact List.mem_cons_self) h1
 | d :: a,d' :: a',_,_,h,h1,h2=>by
  rw [List.cons_append,List.cons_append,List.cons.injEq] at h
  obtain⟨e1,e2⟩:=g5g h.2 (fun q=>h1 (List.mem_cons_of_mem _ q)) (fun q=>h2 (List.mem_cons_of_mem _ q))
  exact⟨by rw [h.1,e1],e2⟩
theorem c7o(c:Nat)(p q:Str)(r:List Str):sg (Str.join ⟨#[c]⟩ (p :: q :: r))=sg p++c :: sg (Str.join ⟨#[c]⟩ (q :: r)):=by
 show sg (p++⟨#[c]⟩++Str.join ⟨#[c]⟩ (q :: r))=_
 rw [a6q,a6q,List.append_assoc]
 rfl
theorem g0b{c:Nat}:∀ {ps qs:List Str},ps≠[]->qs≠[]->(∀ p∈ps,c∉sg p)->(∀ q∈qs,c∉sg q)->sg (Str.join ⟨#[c]⟩ ps)=sg (Str.join ⟨#[c]⟩ qs)->ps=qs
 | [],_,h,_,_,_,_=>absurd rfl h
 | _ :: _,[],_,h,_,_,_=>absurd rfl h
 | [p],[q],_,_,_,_,e=>by
  rw [d1r (show sg p=sg q from e)]
 | [p],q :: q' :: qs,_,_,fp,_,e=>by
  rw [c7o] at e
  exact absurd (by rw [show sg p=_ from e]; simp) (fp p (List.mem_cons_self ..))
 | p :: p' :: ps,[q],_,_,_,fq,e=>by
  rw [c7o] at e
  exact absurd (by rw [show sg q=_ from e.symm]; simp) (fq q (List.mem_cons_self ..))
 | p :: p' :: ps,q :: q' :: qs,_,_,fp,fq,e=>by
  rw [c7o,c7o] at e
  obtain⟨e1,e2⟩:=g5g e (fp p (List.mem_cons_self ..)) (fq q (List.mem_cons_self ..))
  rw [d1r e1,g0b (by simp) (by simp) (fun x hx=>fp x (List.mem_cons_of_mem _ hx)) (fun x hx=>fq x (List.mem_cons_of_mem _ hx)) e2]
theorem g9p(x y:Str):b3p x y=Txt.split x y:=rfl
theorem h3w(x y:Str):Txt.split x y≠[]:=by
 unfold Txt.split
 split
 ·simp
 ·split
  ·simp
  ·rw [StrLaws.partsBetween_eq]
   obtain⟨p,r,e⟩:=StrLaws.partsFrom_ne x y.length 0 (Builtin.Str.occurrences x y 0 x.length (x.length+1))
   rw [e]
   simp
theorem g6j{x:Str}{c:Nat}{ps:List Str}(hn:ps≠[])(hf:∀ p∈ps,c∉sg p)(h:sg x=sg (Str.join ⟨#[c]⟩ ps)):b3p x ⟨#[c]⟩=ps:=by
 rw [g9p]
 refine g0b (c:=c) (h3w _ _) hn (fun p hp=>StrLaws.split_free x c p hp) hf ?_
 rw [StrLaws.join_split,h]
end L2
namespace L2
open PySem PySem.Spec PyProof.Rows
def g9q(t t':TE):TE:=fun σ H Q=>t σ H Q\/t' σ H Q
theorem d3w{X:Cx}{e:Expr}{t t':TE}(h:PE X e t)(h':PE X e t'):PE X e (g9q t t'):=fun pins s σ H Q I z=>z.elim (h pins s σ H Q I) (h' pins s σ H Q I)
theorem h3x:∀ (k n:Nat),n < 10 ^ (k+1)->(dg n).length<=k+1
 | 0,n,h=>by
  rw [g2j (by omega)]
  exact Nat.le_refl _
 | k+1,n,h=>by
  rcases Nat.lt_or_ge n 10 with z | z
  ·rw [g2j z,List.length_singleton]
   omega
  ·have e:n=10*(n / 10)+n % 10:=by omega
   rw [e,d9u (by omega) (by omega),List.length_append,List.length_singleton]
   have:=h3x k (n / 10) (by rw [Nat.pow_succ] at h; omega)
   omega
open PySem.Builtin.Int (intBits)
noncomputable def fW (x : Rat) : Str := Str.empty ++ Str.ofString (toString x.num) ++ Str.ofString "/" ++ Str.ofString (toString (x.den : Int))
noncomputable def cW (c : Int × Rat) : Str := Str.empty ++ Str.ofString (toString c.1) ++ Str.ofString "=" ++ fW c.2
noncomputable def nW(n:Nat):Str:=Str.ofString (toString (n:Int))
def YOk(y:Rat):Prop:=y.num.natAbs<=1000/\y.den<=1000
inductive Dt where
 | gain (y:Rat)
 | delay (n:Nat)
 | echo (y:Rat) (n t:Nat)
 | back (y:Rat) (n:Nat)
 | hall (y:Rat) (n:Nat)
 | swell (cs:List (Int×Rat))
noncomputable def Dt.kd:Dt->Nat
 | .gain _=>0
 | .delay _=>1
 | .echo .. => 2
 | .back .. => 3
 | .hall .. => 4
 | .swell _=>5
noncomputable def Dt.kind:Dt->Str
 | .gain _ => Str.ofString "gain"
 | .delay _ => Str.ofString "delay"
 | .echo .. => Str.ofString "echo"
 | .back .. => Str.ofString "back"
 | .hall .. => Str.ofString "hall"
 | .swell _ => Str.ofString "swell"
noncomputable def Dt.vals:Dt->List Str
 | .gain y=>[fW y]
 | .delay n=>[nW n]
 | .echo y n t=>[fW y,nW n,nW t]
 | .back y n=>[fW y,nW n]
 | .hall y n=>[fW y,nW n]
 | .swell cs=>[Str.join ⟨#[44]⟩ (cs.map cW)]
noncomputable def Dt.word(d:Dt):Str:=Str.join ⟨#[58]⟩ (d.kind :: d.vals)
def i4i(cs:List (Int×Rat)):Prop:=(∀ c∈cs,0<=c.1/\c.1<=100000/\YOk c.2)/\(∀ (i:Nat) c d,cs[i]? = some c->cs[i+1]? = some d->c.1 < d.1)/\1<=cs.length/\cs.length<=12
noncomputable def Dt.ok:Dt->Prop
 | .gain y=>YOk y
 | .delay n=>n<=1000
 | .echo y n t=>YOk y/\1<=n/\n<=1000/\t<=16
 | .back y n=>YOk y/\1<=n/\n<=1000
 | .hall y n=>YOk y/\(y.num.natAbs:Int) < y.den/\1<=n/\n<=1000
 | .swell cs=>i4i cs
theorem g5h{t:Int}{n:Nat}(h:t.natAbs < 2 ^ n)(hn:1<=n):t.natAbs.log2 < n:=by
 rcases Nat.eq_zero_or_pos t.natAbs with z | z
 ·rw [z]
  show Nat.log2 0 < n
  have:Nat.log2 0=0:=by decide
  omega
 ·rw [Nat.log2_lt (by omega)]
  exact h
theorem d5n{t:Int}{n:Nat}(h:t.natAbs < 2 ^ n)(hn:1<=n):(Str.ofString (toString t)).length<=n+1:=by
 have e:(Str.ofString (toString t)).length=(txt t).length:=by rw [<- c9j,d3v]
 have:=g2k t
 have:=g5h h hn
 omega
theorem h6o{n:Nat}(h:n < 2 ^ 20):(nW n).length<=21:=d5n (t:=(n:Int)) (n:=20) (by omega) (by decide)
theorem YOk.b{y:Rat}(h:YOk y):intBits y.num<=10/\intBits (y.den:Int)<=10:=⟨intBits_le_iff.mpr (Nat.lt_of_le_of_lt h.1 (by decide)),intBits_le_iff.mpr (Nat.lt_of_le_of_lt (show (y.den:Int).natAbs<=1000 from h.2) (by decide))⟩
theorem g5i{x:Rat}(h1:intBits x.num<=10)(h2:intBits (x.den:Int)<=10):(fW x).length<=23:=by
 have a:=d5n (intBits_le_iff.mp h1) (by decide)
 have b:=d5n (intBits_le_iff.mp h2) (by decide)
 have e0:Str.empty.length=0:=rfl
 have e1 : (Str.ofString "/").length = 1 := by decide +kernel
 unfold fW
 simp only [strLen_append,e0,e1]
 omega
theorem i4j{c:Int×Rat}(h0:c.1.natAbs < 2 ^ 20)(h1:intBits c.2.num<=10)(h2:intBits (c.2.den:Int)<=10):(cW c).length<=45:=by
 have a:=d5n h0 (by decide)
 have b:=g5i h1 h2
 have e0:Str.empty.length=0:=rfl
 have e1 : (Str.ofString "=").length = 1 := by decide +kernel
 unfold cW
 simp only [strLen_append,e0,e1]
 omega
theorem i4k(n:Nat):sg (nW n)=txt (n:Int):=d3v _
theorem i4l(y:Rat):sg (fW y)=h3u y.num (y.den:Int):=by
 unfold fW h3u
 rw [a6q,a6q,a6q,d3v,d3v]
 have e4:sg Str.empty = []:=rfl
 have e5 : sg (Str.ofString "/") = [47] := by decide +kernel
 rw [e4,e5]
 simp
theorem i8u(c:Int×Rat):sg (cW c)=txt c.1++61 :: sg (fW c.2):=by
 unfold cW
 rw [a6q,a6q,a6q,d3v]
 have e4:sg Str.empty = []:=rfl
 have e5 : sg (Str.ofString "=") = [61] := by decide +kernel
 rw [e4,e5]
 simp
theorem h8t{y:Rat}(h:YOk y):Good (sg (fW y)) y.num (y.den:Int):=by
 have dp:=y.den_pos
 refine⟨i4l y,by omega,y.reduced,?_,?_⟩
 ·exact h3x 8 _ (Nat.lt_of_le_of_lt h.1 (by decide))
 ·exact h3x 8 _ (Nat.lt_of_le_of_lt (show (y.den:Int).natAbs<=1000 from h.2) (by decide))
theorem g9r{c:Nat}(h1:c≠45)(h2:57 < c)(y:Rat):c∉sg (fW y):=by
 rw [i4l]
 unfold h3u
 intro h
 rcases List.mem_append.mp h with z | z
 ·exact f4q h1 (.inr h2) z
 ·rcases List.mem_cons.mp z with z | z
  ·omega
  ·exact f4q h1 (.inr h2) z
theorem g9s{c:Nat}(h1:c≠45)(h2:c < 48\/57 < c)(n:Nat):c∉sg (nW n):=by
 rw [i4k]
 exact f4q h1 h2
theorem h8u(c:Int×Rat):58∉sg (cW c):=by
 rw [i8u]
 intro h
 rcases List.mem_append.mp h with z | z
 ·exact f4q (by decide) (.inr (by decide)) z
 ·rcases List.mem_cons.mp z with z | z
  ·omega
  ·exact g9r (by decide) (by decide) _ z
theorem g9t{c k:Nat}(hk:c≠k):∀ {ps:List Str},(∀ p∈ps,c∉sg p)->c∉sg (Str.join ⟨#[k]⟩ ps)
 | [],_=>by
  show c∉([] : List Nat)
  simp
 | [p],h=>h p (List.mem_cons_self ..)
 | p :: q :: r,h=>by
  rw [c7o]
  intro z
  rcases List.mem_append.mp z with z | z
  ·exact h p (List.mem_cons_self ..) z
  ·rcases List.mem_cons.mp z with z | z
   ·exact hk z
   ·exact g9t hk (fun x hx=>h x (List.mem_cons_of_mem _ hx)) z
theorem g0c{b:Nat}:∀ {l:List Nat},(∀ x∈l,x<=b)->l.sum<=l.length*b
 | [],_=>Nat.zero_le _
 | x :: l,h=>by
  have i:=g0c (l:=l) fun y hy=>h y (List.mem_cons_of_mem _ hy)
  have:=h x (List.mem_cons_self ..)
  rw [List.sum_cons,List.length_cons,Nat.succ_mul]
  omega
theorem g5j{z:Str}{ps:List Str}{n:Nat}(h:∀ p∈ps,p.length<=n):(Str.join z ps).length<=ps.length*n+ps.length*z.length:=by
 have a:=StrLaws.join_length_le z ps
 have b:=g0c (b:=n) (l:=ps.map (·.length)) fun x hx=>by
  obtain⟨y,hy,rfl⟩:=List.mem_map.mp hx
  exact h y hy
 rw [List.length_map] at b
 have c:(ps.length - 1)*z.length<=ps.length*z.length:=Nat.mul_le_mul_right _ (Nat.sub_le _ _)
 omega
theorem i4i.len{cs:List (Int×Rat)}(h:i4i cs):∀ c∈cs,(cW c).length<=45:=fun c hc=>by
 obtain⟨a,b,y⟩:=h.1 c hc
 exact i4j (by omega) y.b.1 y.b.2
theorem i4i.jlen{cs:List (Int×Rat)}(h:i4i cs):(Str.join ⟨#[44]⟩ (cs.map cW)).length<=600:=by
 have a:=g5j (z:=⟨#[44]⟩) (ps:=cs.map cW) (n:=45) fun p hp=>by
  obtain⟨c,hc,rfl⟩:=List.mem_map.mp hp
  exact h.len c hc
 rw [List.length_map,d9t] at a
 have:=h.2.2.2
 omega
theorem Dt.free{d:Dt}:∀ p∈d.kind :: d.vals,58∉sg p:=by
 cases d <;> intro p hp <;> simp only [Dt.kind,Dt.vals,List.mem_cons,List.not_mem_nil,or_false] at hp
 case gain => rcases hp with rfl | rfl; decide +kernel; exact g9r (by decide) (by decide) _
 case delay => rcases hp with rfl | rfl; decide +kernel; exact g9s (by decide) (.inr (by decide)) _
 case echo => rcases hp with rfl | rfl | rfl | rfl; decide +kernel; exact g9r (by decide) (by decide) _; exact g9s (by decide) (.inr (by decide)) _; exact g9s (by decide) (.inr (by decide)) _
 case back => rcases hp with rfl | rfl | rfl; decide +kernel; exact g9r (by decide) (by decide) _; exact g9s (by decide) (.inr (by decide)) _
 case hall => rcases hp with rfl | rfl | rfl; decide +kernel; exact g9r (by decide) (by decide) _; exact g9s (by decide) (.inr (by decide)) _
 case swell cs =>
  rcases hp with rfl | rfl
  ·decide +kernel
  ·refine g9t (by decide) fun p hp=>?_
   obtain⟨c,_,rfl⟩:=List.mem_map.mp hp
   exact h8u c
theorem Dt.vlen{d:Dt}(h:d.ok):∀ p∈d.kind :: d.vals,p.length<=600:=by
 have k1 : (Str.ofString "gain").length = 4 := by decide +kernel
 have k2 : (Str.ofString "delay").length = 5 := by decide +kernel
 have k3 : (Str.ofString "echo").length = 4 := by decide +kernel
 have k4 : (Str.ofString "back").length = 4 := by decide +kernel
 have k5 : (Str.ofString "hall").length = 4 := by decide +kernel
 have k6 : (Str.ofString "swell").length = 5 := by decide +kernel
 have f:∀ {y:Rat},YOk y->(fW y).length<=600:=fun h=>Nat.le_trans (g5i h.b.1 h.b.2) (by decide)
 have g:∀ {n:Nat},n<=1000->(nW n).length<=600:=fun h=>Nat.le_trans (h6o (Nat.lt_of_le_of_lt h (by decide))) (by decide)
 cases d <;> intro p hp <;> simp only [Dt.kind,Dt.vals,List.mem_cons,List.not_mem_nil,or_false] at hp
 case gain => rcases hp with rfl | rfl; omega; exact f h
 case delay => rcases hp with rfl | rfl; omega; exact g h
 case echo => rcases hp with rfl | rfl | rfl | rfl; omega; exact f h.1; exact g h.2.2.1; exact g (Nat.le_trans h.2.2.2 (by decide))
 case back => rcases hp with rfl | rfl | rfl; omega; exact f h.1; exact g h.2.2
 case hall => rcases hp with rfl | rfl | rfl; omega; exact f h.1; exact g h.2.2.2
 case swell cs => rcases hp with rfl | rfl; omega; exact h.jlen
theorem Dt.vn{d:Dt}:d.vals.length<=3:=by
 cases d <;> simp [Dt.vals]
theorem Dt.wlen{d:Dt}(h:d.ok):d.word.length<=4000:=by
 have a:=g5j (z:=⟨#[58]⟩) (d.vlen h)
 have b:=d.vn
 rw [List.length_cons,d9t] at a
 unfold Dt.word
 omega
theorem Dt.split(d:Dt):b3p d.word ⟨#[58]⟩=d.kind :: d.vals:=g6j (by simp) d.free rfl
theorem i4m(z p:Str):Str.join z [p]=p:=rfl
theorem i4n:sg Str.empty = []:=rfl
theorem i4o : sg (Str.ofString "gain:") = sg (Str.ofString "gain") ++ [58] := by decide +kernel
theorem h8v : sg (Str.ofString "delay:") = sg (Str.ofString "delay") ++ [58] := by decide +kernel
theorem i4p : sg (Str.ofString ":") = [58] := by decide +kernel
theorem i8v : Str.ofString ":" = ⟨#[58]⟩ := by decide +kernel
theorem i4q (y : Rat) : Str.empty ++ Str.ofString "gain:" ++ fW y = (Dt.gain y).word := d1r (by
 simp only [Dt.word,Dt.kind,Dt.vals,a6q,c7o,i4m,i4n,i4o,i4p,List.nil_append,List.append_assoc,List.singleton_append,List.cons_append])
theorem h8w (n : Nat) : Str.empty ++ Str.ofString "delay:" ++ nW n = (Dt.delay n).word := d1r (by
 simp only [Dt.word,Dt.kind,Dt.vals,a6q,c7o,i4m,i4n,h8v,i4p,List.nil_append,List.append_assoc,List.singleton_append,List.cons_append])
end L2
namespace L2
open PySem PySem.Spec PyProof.Rows
section
variable {X:Cx}
noncomputable def i8w:V->List V->Hp->VK->Prop:=fun x vs H Q=>match x,vs with
 | .ref l,[.int i]=>(match H l with
  | some (.lst xs)=>0<=i/\i < (xs.length:Int)/\All (fun v H1=>xs[i.toNat]? = some v/\a7h l H H1/\H1 l=some (.lst (xs.eraseIdx i.toNat))) Q ⟨⟩ ⟨⟩
  | _=>False)
 | .ref l,[]=>(match H l with
  | some (.lst xs)=>0 < xs.length/\All (fun v H1=>xs[xs.length - 1]? = some v/\a7h l H H1/\H1 l=some (.lst xs.dropLast)) Q ⟨⟩ ⟨⟩
  | _=>False)
 | _,_=>False
theorem h8x : MtR X "list.pop" i8w := by
 intro pins s σ H x vs v us Q I rx rv h
 match x,vs,h with
 | .ref l,[.int i],h =>
  have h':(match H l with
   | some (.lst xs)=>0<=i/\i < (xs.length:Int)/\All (fun v H1=>xs[i.toNat]? = some v/\a7h l H H1/\H1 l=some (.lst (xs.eraseIdx i.toNat))) Q ⟨⟩ ⟨⟩
   | _=>False):=h
  split at h'
  ·rename_i xs hH
   obtain⟨i0,i1,q⟩:=h'
   obtain⟨z,its,n,r,hl,e⟩:=I.h5q hH
   have hs:sizeLine=16777216:=sizeLine_eq
   have hx : xs[i.toNat]? = some (xs[i.toNat]'(by omega)) := List.getElem?_eq_getElem _
   refine h3a pins s σ H _ _ v us Q I rx rv ⟨l, xs, i, i.toNat, xs[i.toNat]'(by omega), rfl, rfl, hH, by omega, by omega, ?_, hx, q _ _ ⟨hx, a7h.upd, a5y⟩⟩
   unfold seqIndex?
   simp only
   rw [if_neg (show ¬ i < 0 by omega)]
   rw [if_pos (by rw [Bool.and_eq_true,decide_eq_true_eq,decide_eq_true_eq]; omega)]
  ·exact h'.elim
 | .ref l,[],h =>
  have h':(match H l with
   | some (.lst xs)=>0 < xs.length/\All (fun v H1=>xs[xs.length - 1]? = some v/\a7h l H H1/\H1 l=some (.lst xs.dropLast)) Q ⟨⟩ ⟨⟩
   | _=>False):=h
  split at h'
  ·rename_i xs hH
   obtain⟨i0,q⟩:=h'
   have hx : xs[xs.length - 1]? = some (xs[xs.length - 1]'(by omega)) := List.getElem?_eq_getElem _
   exact i2u pins s σ H _ _ v us Q I rx rv ⟨l,xs,_,rfl,rfl,hH,hx,q _ _ ⟨hx,a7h.upd,a5y⟩⟩
  ·exact h'.elim
end
end L2
namespace L2
open PySem PySem.Spec PyProof.Rows PySem.W
theorem g0d{K:PySem.W.Frag}{H:Hp}:∀ ss:List Str,c8y K H (ss.map V.str) (kqdPs (ss.map Dat.str))
 | []=>.nil
 | n :: ns=>.cons (.str n) (g0d ns)
theorem g2m{ns ms:List Str}:ns.map Dat.str=ms.map Dat.str ↔ ns=ms:=by
 induction ns generalizing ms with
 | nil=>cases ms <;> simp
 | cons n ns ih=>cases ms <;> simp [ih]
theorem g5k{ss:List Str}(h:∀ s∈ss,PyData.strOk s=true):kqdOk 1 (.list (ss.map .str))=true:=by
 show (ss.map Dat.str).all (kqdOk 0)=true
 rw [List.all_eq_true]
 intro d hd
 obtain⟨s,hs,rfl⟩:=List.mem_map.mp hd
 exact h s hs
theorem g0e{K:PySem.W.Frag}{H:Hp}{p:Addr}{ss:List Str}(h:SqL K H p (ss.map V.str)):f8v K H (.ref p) (kqdP (.list (ss.map .str))):=by
 rw [kqdP]
 exact .lst h (g0d ss)
theorem d8t{K:PySem.W.Frag}{H:Hp}{p q:Addr}{ns ms:List Str}{Q:VK}(hp:SqL K H p (ns.map V.str))(hq:SqL K H q (ms.map V.str))(h1:∀ s∈ns,PyData.strOk s=true)(h2:∀ s∈ms,PyData.strOk s=true)(h:Q (.bl (!decide (ns=ms))) H):i3d K (.ref p) (.ref q) H Q :=
 h6c (g0e hp) (g0e hq) (g5k h1) (g5k h2) (by decide) (by decide) (by rw [decide_eq_true_eq,Dat.list.injEq,g2m]) h
end L2
namespace L2
open PySem PySem.Spec PyProof.Rows
section
variable {X:Cx}
noncomputable def i8x:List V->Hp->VK->Prop:=fun xs H Q=>match xs with
 | [.ref p]=>(match H p with
  | some (.lst ys)=>∃ bs:List Bool,ys=bs.map V.bl/\Q (.bl (bs.all id)) H
  | _=>False)
 | _=>False
theorem g0f:∀ {bs:List Bool} {us:List Value},Vals (bs.map V.bl) us->us.length=bs.length/\∀ (i:Nat) v,us[i]? = some v->∃ b,bs[i]? = some b/\v = .bool b
 | [],_,h=>by cases h; exact⟨rfl,fun i v e=>by simp at e⟩
 | b :: bs,_,h=>by
  cases h with
  | cons r t =>
   have ih:=g0f t
   refine⟨by simp [ih.1],fun i v e=>?_⟩
   cases i with
   | zero=>simp at e; exact⟨b,rfl,e.symm.trans r⟩
   | succ i=>simp at e; exact ih.2 i v e
theorem g0g (hc : X.calm = true) : c6r X (.builtin "all") i8x := by
 intro pins s σ H xs us Q I r h
 match xs,r,h with
 | [.ref p],r,h =>
  have h':(match H p with
   | some (.lst ys)=>∃ bs:List Bool,ys=bs.map V.bl/\Q (.bl (bs.all id)) H
   | _=>False):=h
  split at h'
  ·rename_i ys e
   obtain⟨bs,rfl,q⟩:=h'
   obtain⟨u,rfl,ru⟩:=vals1 r
   cases (show u=Value.ref p from ru)
   obtain⟨its,rv,⟨o,n,e1,c1,d1,dd⟩,_⟩:=I.list (SqL.of e)
   obtain⟨hbl,hb⟩:=g0f rv
   have hl:s.heap.IsList p its.toArray:=⟨o,e1,c1,n,dd⟩
   have hlt:p < s.heap.objs.size:=Heap.lt_size e1
   refine call_all_walk (wpAny_pyIter_list hl ?_)
   refine⟨s.heap.objs.size,[s.heap.objs.size,p],[s.heap.objs.size],its.toArray.size,_,_,fun i=>(bs[i]?).getD true,rfl,Walks.list (A:=X.A.in1) (I.ok.hd hc) _ p (Nat.ne_of_lt hlt) its.toArray,
    ⟨⟨_,Heap.get?_push_size _ rfl,rfl,rfl⟩,hl.push _⟩,fun i v s' Q' E' hP hQ=>?_,fun h' tk hk=>?_⟩
   ·obtain⟨b,e,rfl⟩:=hb i v (by simpa using hP)
    simp only [e,Option.getD_some] at hQ
    exact wpAny_truthy_bool hQ
   ·have e:((List.range its.toArray.size).all fun i=>(bs[i]?).getD true)=bs.all id:=by
     rw [List.size_toArray,hbl]; exact LSm.range_all bs
    rw [e]
    exact⟨.bl _,H,I.kept (LSm.kept_iter hk),rfl,q⟩
  ·exact h'.elim
end
def h8y(J:It)(tc:TT)(te:TE)(D:Addr)(σ:St)(H:Hp)(Q:VK)(_:Tag Q):Prop:=∃ (n:Nat) (W:Nat->List V->Hp->Prop),W 0 [] H/\∀ i ys H,i<=n->W i ys H->H D=some (.lst ys) /\
 ((J.stop i H/\Q (.ref D) H)\/(i < n/\J.go i H/\ys.length < sizeLine/\∀ x H',J.yld i H x H'->∃ p u v,x = .ref p/\H' p=some (.tup [u,v])/\tc (some u :: some v :: σ) H' fun b H1 =>
  if b=true then te (some u :: some v :: σ) H1 fun y H2=>H2 D=some (.lst ys)/\∀ H3,a7h D H2 H3->H3 D=some (.lst (ys++[y]))->W (i+1) (ys++[y]) H3
  else W (i+1) ys H1))
def i8y(wi:TI)(tc:TT)(te:TE):TE:=fun σ H Q=>wi σ H fun J H1=>∀ D H2,H1 D=none->Same H1 H2->H2 D=some (.lst [])->h8y J tc te D σ H2 Q ⟨⟩
section
variable {X:Cx}{scope:Scope}{x y:Str}{pins:List (Addr×Obj)}{σ:St}{elt iter cnd:Expr}{px py tpos pos:Pos}{kk:Nat}{wi:TI}{te:TE}{tc:TT}
end
end L2
namespace L2
open PySem PySem.Spec PyProof.Rows
theorem hu1{n:Nat}(h:n+64 < cLine):n+1 < cLine:=by omega
noncomputable def kT(k:Str):Key:=.inr k
def i4r(x y:V)(H:Hp)(Q:VK):Prop:=match x,y with
 | .ref a,.str k=>(match H a with
  | some (.dK kvs)=>∃ v,d8o kvs (kT k)=some v/\Q v H
  | _=>False)
 | _,_=>False
def i4s(neg:Bool)(x y:V)(H:Hp)(Q:VK):Prop:=match x,y with
 | .ref a,.str k=>(match H a with
  | some (.dK kvs)=>Q (.bl ((d8o kvs (kT k)).isSome != neg)) H
  | _=>False)
 | _,_=>False
theorem h3y{x y:V}{H:Hp}{Q:VK}(h:i4r x y H Q):∃ a k kvs v,x = .ref a/\y = .str k/\H a=some (.dK kvs)/\d8o kvs (kT k)=some v/\Q v H:=by
 cases x <;> cases y <;> first | exact False.elim h | skip
 ·rename_i a k
  have h':(match H a with
   | some (.dK kvs)=>∃ v,d8o kvs (kT k)=some v/\Q v H
   | _=>False):=h
  split at h'
  ·rename_i kvs e
   obtain⟨v,e1,q⟩:=h'
   exact⟨a,k,kvs,v,rfl,rfl,e,e1,q⟩
  ·exact h'.elim
theorem h3z{x y:V}{H:Hp}{Q:VK}{neg:Bool}(h:i4s neg x y H Q):∃ a k kvs,x = .ref a/\y = .str k/\H a=some (.dK kvs)/\Q (.bl ((d8o kvs (kT k)).isSome != neg)) H:=by
 cases x <;> cases y <;> first | exact False.elim h | skip
 ·rename_i a k
  have h':(match H a with
   | some (.dK kvs)=>Q (.bl ((d8o kvs (kT k)).isSome != neg)) H
   | _=>False):=h
  split at h'
  ·rename_i kvs e
   exact⟨a,k,kvs,rfl,rfl,e,h'⟩
  ·exact h'.elim
def i4t(td ty:TE):TE:=fun σ H Q=>td σ H fun x H1=>ty σ H1 fun y H2=>i4r x y H2 Q
def h4a(ty td:TE):TE:=fun σ H Q=>ty σ H fun y H1=>td σ H1 fun x H2=>i4s true x y H2 Q
def i4u(x y v:V)(H:Hp)(Q:Hp->Prop):Prop:=match x,y with
 | .ref a,.str k=>(match H a with
  | some (.dK kvs)=>kvs.length < sizeLine/\∀ H1,a7h a H H1->H1 a=some (.dK (putK kvs (kT k) v))->Q H1
  | _=>False)
 | _,_=>False
theorem h4b{x y v:V}{H:Hp}{Q:Hp->Prop}(h:i4u x y v H Q):∃ a k kvs,x = .ref a/\y = .str k/\H a=some (.dK kvs)/\kvs.length < sizeLine/\∀ H1,a7h a H H1->H1 a=some (.dK (putK kvs (kT k) v))->Q H1:=by
 cases x <;> cases y <;> first | exact False.elim h | skip
 ·rename_i a k
  have h':(match H a with
   | some (.dK kvs)=>kvs.length < sizeLine/\∀ H1,a7h a H H1->H1 a=some (.dK (putK kvs (kT k) v))->Q H1
   | _=>False):=h
  split at h'
  ·rename_i kvs e
   exact⟨a,k,kvs,rfl,rfl,e,h'⟩
  ·exact h'.elim
def i4v(td ty tv:TE):TS:=fun D σ H=>tv σ H fun v H1=>td σ H1 fun x H2=>ty σ H2 fun y H3=>i4u x y v H3 (D.nx σ)
def i4w(tk tv:TE):TE:=fun σ H Q=>∀ p H1,H p=none->Same H H1->H1 p=some (.dK [])->tk σ H1 fun x H2=>tv σ H2 fun y H3=>∃ k,x = .str k/\H3 p=some (.dK [])/\∀ H4,a7h p H3 H4->H4 p=some (.dK [(kT k,y)])->Q (.ref p) H4
section
variable {X:Cx}{o i e value:Expr}{pos pos' tpos:Pos}{td ty tv tk:TE}
theorem g5l(hu:X.A.units+1 < cLine)(ho:PE X o td)(hi:PE X i ty)(hs:j0j i):PE X (.Subscript o i pos) (i4t td ty):=by
 intro pins s σ H Q I h
 refine h8e PySem.F.slot_dict_getitem.lookup hs (thn (ho pins s σ H _ I h) fun u s1 ⟨x,H1,I1,rx,q1⟩=>thn (hi pins s1 σ H1 _ I1 q1) fun iv s2 ⟨y,H2,I2,ry,q⟩=>?_)
 obtain⟨a,k,kvs,v,ex,ey,e,ev,q2⟩:=h3y q
 subst ex ey
 obtain rfl:u=Value.ref a:=rx
 have g:g8v H2 a (kV (kT k)) (some v):=ev▸g8v.k e
 exact⟨g2d I2 g,g8w hu I2 g ry fun w' s3 I3 rw'=>⟨v,H2,I3,rw',q2⟩⟩
theorem g6k(hu:X.A.units+1 < cLine)(hi:PE X i ty)(ho:PE X o td):PC X .NotIn i o (h4a ty td):=by
 intro pins s σ H Q I h
 refine thn (hi pins s σ H _ I h) fun iv s1 ⟨y,H1,I1,ry,q1⟩=>thn (ho pins s1 σ H1 _ I1 q1) fun u s2 ⟨x,H2,I2,rx,q⟩=>?_
 obtain⟨a,k,kvs,ex,ey,e,q2⟩:=h3z q
 subst ex ey
 obtain rfl:u=Value.ref a:=rx
 have g:g8v H2 a (kV (kT k)) (d8o kvs (kT k)):=g8v.k e
 rw [Bool.bne_true] at q2
 exact h8d hu I2 g ry fun s3 I3=>⟨.bl (!(d8o kvs (kT k)).isSome),H2,I3,rfl,q2⟩
theorem h8z{op:CmpOp}{a b:Expr}{t:TE}(h:PC X op a b t)(h1:behindInMarks op b=false):PT X (.Compare a [op] [b] pos) (tBF t):=by
 intro pins s σ H Q I h2
 refine (i1u h h1) pins s σ H _ I ?_
 unfold tB
 unfold tBF at h2
 exact cast (congrArg (t σ H) (funext fun x=>funext fun H1=>propext ⟨fun z=>i8b z,fun⟨k,e,q⟩=>by subst e; exact q⟩)) h2
theorem h4d(hu:X.A.units+1 < cLine)(ho:PE X o td)(hi:PE X i ty)(hv:PE X value tv)(hs:swapsWith value (some (.Subscript o i pos')) pos.line X.env=pure false) :
  PS X (.Assign [.Subscript o i pos'] value pos) (i4v td ty tv):=by
 intro pins s σ H D I h
 refine wpAny_Assign_Subscript (thn (hv pins s σ H _ I h) fun r s1 ⟨v,H1,I1,rv,q1⟩=>thn (ho pins s1 σ H1 _ I1 q1) fun u s2 ⟨x,H2,I2,rx,q2⟩=>thn (hi pins s2 σ H2 _ I2 q2) fun iv s3 ⟨y,H3,I3,ry,q⟩=>?_) hs
 obtain⟨a,k,kvs,ex,ey,e,hl,q3⟩:=h4b q
 subst ex ey
 obtain rfl:u=Value.ref a:=rx
 exact g8x hu I3 (i1f.k (k:=kT k) e hl) ry rv fun s4 I4=>⟨σ,_,I4,q3 _ a7h.upd a5y⟩
theorem h4e(hk:PE X i tk)(hv:PE X value tv):PE X (.Dict [some i] [value] pos) (i4w tk tv):=by
 intro pins s σ H Q I q
 have hn:=I.hok.fresh (Nat.le_refl s.heap.objs.size)
 have I1 := I.laid (a := s.heap.objs.size) (o := .dK []) (h' := s.heap.push { cls := .type "dict", data := .dict #[] }) (t' := s.toks) (fun _ _ q => Heap.get?_push_of_some _ q) (Nat.le_refl _) (g4v s.heap I.big)
 have h:PPs X pos [some i] [value] [(tk,tv)]:=h3g hk hv h8f
 refine wpAny_Dict_walk (knd:=b4k X.prog X.w) rfl rfl (by simp) (by simp) (thn (h pins _ σ _ (fun ps H3=>match ps with
  | [(x,y)]=>∃ k,x = .str k/\H3 s.heap.objs.size=some (.dK [])/\∀ H4,a7h s.heap.objs.size H3 H4->H4 s.heap.objs.size=some (.dK [(kT k,y)])->Q (.ref s.heap.objs.size) H4
  | _=>False) I1 (q s.heap.objs.size _ hn (Same.upd hn) a5y)) fun ws s2 ⟨ps,H2,I2,rel,qp⟩=>?_)
 cases ps with
 | nil=>exact False.elim qp
 | cons p ps =>
 obtain⟨x,y⟩:=p
 cases ps with
 | cons _ _=>exact False.elim qp
 | nil =>
  obtain⟨k,ex,e,q2⟩:=qp
  subst ex
  obtain⟨rs,c,rk⟩:=f4k (P:=X.prog) (w:=X.w) (kvs:=[(kT k,y)]) rel
  obtain⟨z,hd,vs0,r0,dd⟩:=i3a I2.hok e
  cases r0
  refine⟨rs,c,dd,fun h' dd' hs=>⟨.ref s.heap.objs.size,_,?_,rfl,q2 _ a7h.upd a5y⟩⟩
  have hz:(g4w [] [(kT k,y)]).length<=sizeLine:=by
   have h1:=d3q [(kT k,y)] []
   rw [List.length_nil,List.length_singleton] at h1
   rw [sizeLine_eq]; omega
  have he:∃ q,h'.get? s.heap.objs.size=some q:=let ⟨q,_,_,hq,_⟩:=dd'; ⟨q,hq⟩
  exact g2c I2 (by rw [e]; exact True.intro) hs he (h5r hz hd (rk.merge .nil) dd')
end
noncomputable def rSlR:V->Option Int->Option Int->Option Int->Hp->VK->Prop:=fun x l u t H Q=>match x with
 | .ref a=>(match H a with
  | some (.lst xs)=>l=none/\u=none/\t=some (-1)/\New H (.lst xs.reverse) Q ⟨⟩
  | _=>False)
 | _=>False
def tSl3R(te:TE)(tl th ts:TO):TE:=fun σ H Q=>te σ H fun x H1=>tl σ H1 fun l H2=>th σ H2 fun u H3=>ts σ H3 fun st H4=>rSlR x l u st H4 Q
end L2
namespace L2
open PySem PySem.Spec PyProof.Rows PySem.W
mutual
inductive Rp(H:Hp)(N:Addr->Prop):V->Dat->Prop
 | str (s:Str):Rp H N (.str s) (.str s)
 | int (n:Int):Rp H N (.int n) (.int n)
 | lst {p:Addr} {vs:List V} {ds:List Dat}:N p->H p=some (.lst vs)->RpL H N vs ds->Rp H N (.ref p) (.list ds)
 | tup {p:Addr} {vs:List V} {ds:List Dat}:H p=some (.tup vs)->RpL H N vs ds->Rp H N (.ref p) (.tuple ds)
inductive RpL(H:Hp)(N:Addr->Prop):List V->List Dat->Prop
 | nil:RpL H N [] []
 | cons {v:V} {vs:List V} {d:Dat} {ds:List Dat}:Rp H N v d->RpL H N vs ds->RpL H N (v :: vs) (d :: ds)
end
def b6i(N:Addr->Prop)(H H':Hp):Prop:=∀ z u,(N z->∀ ys,u≠.lst ys)->H z=some u->H' z=some u
section
variable {H H':Hp}{N M:Addr->Prop}
mutual
theorem Rp.go(h1:∀ z vs,N z->H z=some (.lst vs)->H' z=some (.lst vs)/\M z)(h2:∀ z vs,H z=some (.tup vs)->H' z=some (.tup vs)):∀ {v:V} {d:Dat},Rp H N v d->Rp H' M v d
 | _,_,.str s=>.str s
 | _,_,.int n=>.int n
 | _,_,.lst n h r=>.lst (h1 _ _ n h).2 (h1 _ _ n h).1 (RpL.go h1 h2 r)
 | _,_,.tup h r=>.tup (h2 _ _ h) (RpL.go h1 h2 r)
theorem RpL.go(h1:∀ z vs,N z->H z=some (.lst vs)->H' z=some (.lst vs)/\M z)(h2:∀ z vs,H z=some (.tup vs)->H' z=some (.tup vs)):∀ {vs:List V} {ds:List Dat},RpL H N vs ds->RpL H' M vs ds
 | _,_,.nil=>.nil
 | _,_,.cons h r=>.cons (Rp.go h1 h2 h) (RpL.go h1 h2 r)
end
mutual
theorem Rp.deep{K:PySem.W.Frag}:∀ {v:V} {d:Dat},Rp H N v d->f8v K H v (kqdP d)
 | _,_,.str s=>by rw [kqdP]; exact .str s
 | _,_,.int n=>by rw [kqdP]; exact .int n
 | _,_,.lst n h r=>by rw [kqdP]; exact .lst (SqL.of h) (RpL.deep r)
 | _,_,.tup h r=>by rw [kqdP]; exact .tup (SqT.of h) (RpL.deep r)
theorem RpL.deep{K:PySem.W.Frag}:∀ {vs:List V} {ds:List Dat},RpL H N vs ds->c8y K H vs (kqdPs ds)
 | _,_,.nil=>.nil
 | _,_,.cons h r=>.cons (Rp.deep h) (RpL.deep r)
end
theorem live{z:Addr}{u:HO}(e:H z=some u):H z≠none:=fun q=>by rw [q] at e; cases e
theorem RpL.same{vs:List V}{ds:List Dat}(h:RpL H N vs ds)(S:Same H H'):RpL H' N vs ds:=h.go (fun _ _ n e=>⟨S _ _ e,n⟩) fun _ _ e=>S _ _ e
theorem RpL.mono{vs:List V}{ds:List Dat}(h:RpL H N vs ds)(hm:∀ z,N z->H z≠none->M z):RpL H M vs ds:=h.go (fun z _ n e=>⟨e,hm z n (live e)⟩) fun _ _ e=>e
theorem RpL.put{D:Addr}{ys:List V}{vs:List V}{ds:List Dat}(h:RpL H N vs ds)(hD:H D=some (.lst ys))(nD:¬ N D)(B:a7h D H H'):RpL H' N vs ds :=
 h.go (fun z _ n e=>⟨B _ _ (fun q=>nD (by rw [<- q]; exact n)) e,n⟩) fun z _ e=>B _ _ (fun q=>by rw [q,hD] at e; cases e) e
theorem RpL.over{vs:List V}{ds:List Dat}(h:RpL H N vs ds)(S:b6i M H H')(hd:∀ z,N z->H z≠none->¬ M z):RpL H' N vs ds :=
 h.go (fun z _ n e=>⟨S _ _ (fun m=>absurd m (hd z n (live e))) e,n⟩) fun z _ e=>S _ _ (fun _ ys q=>by cases q) e
theorem RpL.len:∀ {vs:List V} {ds:List Dat},RpL H N vs ds->vs.length=ds.length
 | _,_,.nil=>rfl
 | _,_,.cons _ r=>by rw [List.length_cons,List.length_cons,RpL.len r]
theorem RpL.at:∀ {vs:List V} {ds:List Dat} {i:Nat} {d:Dat},RpL H N vs ds->ds[i]? = some d->∃ v,vs[i]? = some v/\Rp H N v d
 | _,_,_,_,.nil,h=>by simp at h
 | _,_,0,_,.cons h r,e=>by cases e; exact⟨_,rfl,h⟩
 | _,_,i+1,_,.cons h r,e=>by
  rw [List.getElem?_cons_succ] at e
  obtain⟨v,e1,e2⟩:=RpL.at r e
  exact⟨v,by rw [List.getElem?_cons_succ]; exact e1,e2⟩
theorem RpL.get:∀ {vs:List V} {ds:List Dat} {i:Nat} {v:V},RpL H N vs ds->vs[i]? = some v->∃ d,ds[i]? = some d/\Rp H N v d
 | _,_,_,_,.nil,h=>by simp at h
 | _,_,0,_,.cons h r,e=>by cases e; exact⟨_,rfl,h⟩
 | _,_,i+1,_,.cons h r,e=>by
  rw [List.getElem?_cons_succ] at e
  obtain⟨v,e1,e2⟩:=RpL.get r e
  exact⟨v,by rw [List.getElem?_cons_succ]; exact e1,e2⟩
theorem RpL.snoc:∀ {vs:List V} {ds:List Dat} {v:V} {d:Dat},RpL H N vs ds->Rp H N v d->RpL H N (vs++[v]) (ds++[d])
 | _,_,_,_,.nil,h=>.cons h .nil
 | _,_,_,_,.cons h r,e=>.cons h (RpL.snoc r e)
theorem RpL.strs:∀ ss:List Str,RpL H N (ss.map V.str) (ss.map Dat.str)
 | []=>.nil
 | s :: ss=>.cons (.str s) (RpL.strs ss)
theorem RpL.g9u:∀ {ss:List Str} {vs:List V},RpL H N vs (ss.map Dat.str)->vs=ss.map V.str
 | [],_,.nil=>rfl
 | s :: ss,_,.cons (.str _) r=>by rw [RpL.g9u r]; rfl
theorem Rp.list{v:V}{ds:List Dat}(h:Rp H N v (.list ds)):∃ p vs,v = .ref p/\N p/\H p=some (.lst vs)/\RpL H N vs ds:=by
 cases h with
 | lst n e r=>exact⟨_,_,rfl,n,e,r⟩
theorem Rp.tuple{v:V}{ds:List Dat}(h:Rp H N v (.tuple ds)):∃ p vs,v = .ref p/\H p=some (.tup vs)/\RpL H N vs ds:=by
 cases h with
 | tup e r=>exact⟨_,_,rfl,e,r⟩
theorem RpL.two{vs:List V}{a b:Dat}(h:RpL H N vs [a,b]):∃ x y,vs = [x,y]/\Rp H N x a/\Rp H N y b:=by
 cases h with
 | cons h1 r=>cases r with
  | cons h2 r=>cases r; exact⟨_,_,rfl,h1,h2⟩
theorem RpL.three{vs:List V}{a b c:Dat}(h:RpL H N vs [a,b,c]):∃ x y z,vs = [x,y,z]/\Rp H N x a/\Rp H N y b/\Rp H N z c:=by
 cases h with
 | cons h1 r =>
  obtain⟨y,z,rfl,h2,h3⟩:=r.two
  exact⟨_,y,z,rfl,h1,h2,h3⟩
theorem Rp.strOf{v:V}{s:Str}(h:Rp H N v (.str s)):v = .str s:=by cases h; rfl
theorem Rp.intOf{v:V}{n:Int}(h:Rp H N v (.int n)):v = .int n:=by cases h; rfl
theorem Rp.eq{K:PySem.W.Frag}{x y:V}{d:Dat}{n:Nat}{Q:VK}(hx:Rp H N x d)(hy:Rp H M y d)(k:kqdOk n d=true)(hn:n<=64)(q:Q (.bl true) H):i6j K x y H Q:=i3o (c:=true) hx.deep hy.deep k k hn hn ⟨fun _=>rfl,fun _=>rfl⟩ q
theorem Rp.ne{K:PySem.W.Frag}{x y:V}{d:Dat}{n:Nat}{Q:VK}(hx:Rp H N x d)(hy:Rp H M y d)(k:kqdOk n d=true)(hn:n<=64)(q:Q (.bl false) H):i3d K x y H Q:=h6c (c:=true) hx.deep hy.deep k k hn hn ⟨fun _=>rfl,fun _=>rfl⟩ q
theorem b6i.of(S:Same H H'):b6i N H H':=fun z u _ e=>S _ _ e
theorem b6i.trans{H2:Hp}(S:b6i N H H')(S2:b6i N H' H2):b6i N H H2:=fun z u n e=>S2 _ _ n (S _ _ n e)
theorem b6i.one{D:Addr}{ys:List V}(hD:H D=some (.lst ys))(n:N D)(B:a7h D H H'):b6i N H H':=fun z u h e=>B _ _ (fun q=>by
 rw [q] at h e
 rw [hD] at e
 cases e
 exact h n _ rfl) e
end
noncomputable abbrev Sd:=Str×Str×List Str
structure Pd where
 ts:List Str
 bs:List Str
 es:List Sd
 os:List (Str×Int)
noncomputable def prs(es:List Sd):List (Str×Str):=es.map fun e=>(e.1,e.2.1)
noncomputable def g2n(ss:List Str):Dat:=.list (ss.map .str)
noncomputable def dSd(e:Sd):Dat:=.tuple [.str e.1,.str e.2.1,g2n e.2.2]
noncomputable def dOu(x:Str×Int):Dat:=.tuple [.str x.1,.int x.2]
noncomputable def dPd(p:Pd):Dat:=.list [g2n p.ts,g2n p.bs,.list (p.es.map dSd),.list (p.os.map dOu)]
noncomputable def Nw(N:Addr->Prop)(t b sd ou:Addr):Addr->Prop:=fun a=>N a/\a≠t/\a≠b/\a≠sd/\a≠ou
structure Fl(H:Hp)(N:Addr->Prop)(t b sd ou:Addr)(p:Pd):Prop where
 n:N t/\N b/\N sd/\N ou
 d:t≠b/\t≠sd/\t≠ou/\b≠sd/\b≠ou/\sd≠ou
 ht:H t=some (.lst (p.ts.map V.str))
 hb:H b=some (.lst (p.bs.map V.str))
 hs:∃ us,H sd=some (.lst us)/\RpL H (Nw N t b sd ou) us (p.es.map dSd)
 ho:∃ us,H ou=some (.lst us)/\RpL H (Nw N t b sd ou) us (p.os.map dOu)
section
variable {H H':Hp}{N M:Addr->Prop}{t b sd ou:Addr}{p:Pd}
theorem Fl.over(h:Fl H N t b sd ou p)(S:b6i M H H')(hd:∀ z,N z->H z≠none->¬ M z):Fl H' N t b sd ou p:=by
 obtain⟨n,d,ht,hb,⟨us,hs,R1⟩,vs,ho,R2⟩:=h
 have k:∀ {z:Addr} {ys:List V},N z->H z=some (.lst ys)->H' z=some (.lst ys):=fun n e=>S _ _ (fun m=>absurd m (hd _ n (live e))) e
 exact⟨n,d,k n.1 ht,k n.2.1 hb,⟨us,k n.2.2.1 hs,R1.over S fun z hz=>hd z hz.1⟩,vs,k n.2.2.2 ho,R2.over S fun z hz=>hd z hz.1⟩
theorem Fl.same(h:Fl H N t b sd ou p)(S:Same H H'):Fl H' N t b sd ou p:=h.over (M:=fun _=>False) (b6i.of S) fun _ _ _ h=>h
theorem Fl.mono(h:Fl H N t b sd ou p)(hm:∀ z,N z->H z≠none->M z):Fl H M t b sd ou p:=by
 obtain⟨n,d,ht,hb,⟨us,hs,R1⟩,vs,ho,R2⟩:=h
 have k:∀ {z:Addr} {ys:List V},N z->H z=some (.lst ys)->M z:=fun n e=>hm _ n (live e)
 exact⟨⟨k n.1 ht,k n.2.1 hb,k n.2.2.1 hs,k n.2.2.2 ho⟩,d,ht,hb,⟨us,hs,R1.mono fun z hz e=>⟨hm z hz.1 e,hz.2⟩⟩,vs,ho,R2.mono fun z hz e=>⟨hm z hz.1 e,hz.2⟩⟩
theorem Fl.addT{x:Str}(h:Fl H N t b sd ou p)(h':H' t=some (.lst (p.ts.map V.str++[.str x])))(B:a7h t H H'):Fl H' N t b sd ou ⟨p.ts++[x],p.bs,p.es,p.os⟩:=by
 obtain⟨n,d,ht,hb,⟨us,hs,R1⟩,vs,ho,R2⟩:=h
 exact⟨n,d,by rw [h',List.map_append]; rfl,B _ _ d.1.symm hb,⟨us,B _ _ d.2.1.symm hs,R1.put ht (fun z=>z.2.1 rfl) B⟩,vs,B _ _ d.2.2.1.symm ho,R2.put ht (fun z=>z.2.1 rfl) B⟩
theorem Fl.addB{x:Str}(h:Fl H N t b sd ou p)(h':H' b=some (.lst (p.bs.map V.str++[.str x])))(B:a7h b H H'):Fl H' N t b sd ou ⟨p.ts,p.bs++[x],p.es,p.os⟩:=by
 obtain⟨n,d,ht,hb,⟨us,hs,R1⟩,vs,ho,R2⟩:=h
 exact⟨n,d,B _ _ d.1 ht,by rw [h',List.map_append]; rfl,⟨us,B _ _ d.2.2.2.1.symm hs,R1.put hb (fun z=>z.2.2.1 rfl) B⟩,vs,B _ _ d.2.2.2.2.1.symm ho,R2.put hb (fun z=>z.2.2.1 rfl) B⟩
theorem Fl.addS{e:Sd}{us:List V}{v:V}(h:Fl H N t b sd ou p)(hsd:H sd=some (.lst us))(r:Rp H (Nw N t b sd ou) v (dSd e))(h':H' sd=some (.lst (us++[v])))(B:a7h sd H H'):Fl H' N t b sd ou ⟨p.ts,p.bs,p.es++[e],p.os⟩:=by
 obtain⟨n,d,ht,hb,⟨us',hs,R1⟩,vs,ho,R2⟩:=h
 rw [hsd] at hs
 cases hs
 refine⟨n,d,B _ _ d.2.1 ht,B _ _ d.2.2.2.1 hb,⟨_,h',?_⟩,vs,B _ _ d.2.2.2.2.2.symm ho,R2.put hsd (fun z=>z.2.2.2.1 rfl) B⟩
 rw [List.map_append]
 exact (R1.snoc r).put hsd (fun z=>z.2.2.2.1 rfl) B
theorem Fl.addO{x:Str×Int}{us:List V}{v:V}(h:Fl H N t b sd ou p)(hou:H ou=some (.lst us))(r:Rp H (Nw N t b sd ou) v (dOu x))(h':H' ou=some (.lst (us++[v])))(B:a7h ou H H'):Fl H' N t b sd ou ⟨p.ts,p.bs,p.es,p.os++[x]⟩:=by
 obtain⟨n,d,ht,hb,⟨vs,hs,R1⟩,us',ho,R2⟩:=h
 rw [hou] at ho
 cases ho
 refine⟨n,d,B _ _ d.2.2.1 ht,B _ _ d.2.2.2.2.1 hb,⟨vs,B _ _ d.2.2.2.2.2 hs,R1.put hou (fun z=>z.2.2.2.2 rfl) B⟩,_,h',?_⟩
 rw [List.map_append]
 exact (R2.snoc r).put hou (fun z=>z.2.2.2.2 rfl) B
end
def Qd(H:Hp)(N:Addr->Prop)(L:Addr)(p:Pd):Prop:=∃ t b sd ou,H L=some (.lst [.ref t,.ref b,.ref sd,.ref ou])/\N L/\Fl H (fun a=>N a/\a≠L) t b sd ou p
section
variable {H H':Hp}{N M:Addr->Prop}{L:Addr}{p:Pd}
theorem Qd.over(h:Qd H N L p)(S:b6i M H H')(hd:∀ z,N z->H z≠none->¬ M z):Qd H' N L p:=by
 obtain⟨t,b,sd,ou,hL,n,F⟩:=h
 exact⟨t,b,sd,ou,S _ _ (fun m=>absurd m (hd _ n (live hL))) hL,n,F.over S fun z hz=>hd z hz.1⟩
theorem Qd.same(h:Qd H N L p)(S:Same H H'):Qd H' N L p:=h.over (M:=fun _=>False) (b6i.of S) fun _ _ _ h=>h
theorem Qd.rp(h:Qd H N L p):Rp H N (.ref L) (dPd p):=by
 obtain⟨t,b,sd,ou,hL,n,F⟩:=h
 obtain⟨⟨n1,n2,n3,n4⟩,d,ht,hb,⟨us,hs,R1⟩,vs,ho,R2⟩:=F
 exact .lst n hL (.cons (.lst n1.1 ht (RpL.strs _)) (.cons (.lst n2.1 hb (RpL.strs _)) (.cons (.lst n3.1 hs (R1.mono fun z hz _=>hz.1.1)) (.cons (.lst n4.1 ho (R2.mono fun z hz _=>hz.1.1)) .nil))))
end
theorem RpL.at3{H:Hp}{N:Addr->Prop}{us:List V}{es:List Sd}{i:Nat}{v:V}(h:RpL H N us (es.map dSd))(hv:us[i]? = some v):∃ e p lw,es[i]? = some e/\v = .ref p/\H p=some (.tup [.str e.1,.str e.2.1,.ref lw])/\N lw/\H lw=some (.lst (e.2.2.map V.str)):=by
 obtain⟨d,hd,r⟩:=h.get hv
 rw [List.getElem?_map] at hd
 obtain⟨e,he,rfl⟩:=Option.map_eq_some_iff.mp hd
 obtain⟨p,vs,rfl,hp,r2⟩:=r.tuple
 obtain⟨x,y,z,rfl,h1,h2,h3⟩:=r2.three
 cases h1.strOf
 cases h2.strOf
 obtain⟨lw,ws,rfl,n,hw,r3⟩:=h3.list
 cases r3.g9u
 exact⟨e,p,lw,he,rfl,hp,n,hw⟩
theorem RpL.at2{H:Hp}{N:Addr->Prop}{us:List V}{os:List (Str×Int)}{i:Nat}{v:V}(h:RpL H N us (os.map dOu))(hv:us[i]? = some v):∃ x p,os[i]? = some x/\v = .ref p/\H p=some (.tup [.str x.1,.int x.2]):=by
 obtain⟨d,hd,r⟩:=h.get hv
 rw [List.getElem?_map] at hd
 obtain⟨e,he,rfl⟩:=Option.map_eq_some_iff.mp hd
 obtain⟨p,vs,rfl,hp,r2⟩:=r.tuple
 obtain⟨x,y,rfl,h1,h2⟩:=r2.two
 cases h1.strOf
 cases h2.intOf
 exact⟨e,p,he,rfl,hp⟩
theorem RpL.h6p{H:Hp}{N:Addr->Prop}{us:List V}{α:Type}{es:List α}{f:α->Dat}(h:RpL H N us (es.map f)):us.length=es.length:=by rw [h.len,List.length_map]
theorem g2o{H:Hp}{N M:Addr->Prop}:∀ {os:List (Str×Int)} {us:List V},RpL H N us (os.map dOu)->RpL H M us (os.map dOu)
 | [],_,.nil=>.nil
 | x :: os,_,.cons h r=>by
  refine .cons ?_ (g2o r)
  obtain⟨p,vs,rfl,hp,r2⟩:=h.tuple
  obtain⟨a,b,rfl,h1,h2⟩:=r2.two
  cases h1.strOf
  cases h2.intOf
  exact .tup hp (.cons (.str _) (.cons (.int _) .nil))
structure i6r(p:Pd):Prop where
 t:∀ s∈p.ts,PyData.strOk s=true
 b:∀ s∈p.bs,PyData.strOk s=true
 s:∀ e∈p.es,PyData.strOk e.1=true/\PyData.strOk e.2.1=true/\∀ x∈e.2.2,PyData.strOk x=true
 o:∀ x∈p.os,PyData.strOk x.1=true
theorem f6h{n:Nat}{ss:List Str}(h:∀ s∈ss,PyData.strOk s=true):kqdOk (n+1) (g2n ss)=true:=by
 show (ss.map Dat.str).all (kqdOk n)=true
 rw [List.all_eq_true]
 intro d hd
 obtain⟨s,hs,rfl⟩:=List.mem_map.mp hd
 cases n <;> exact h s hs
theorem h6q{n:Nat}{es:List Sd}(h:∀ e∈es,PyData.strOk e.1=true/\PyData.strOk e.2.1=true/\∀ x∈e.2.2,PyData.strOk x=true):kqdOk (n+3) (.list (es.map dSd))=true:=by
 show (es.map dSd).all (kqdOk (n+2))=true
 rw [List.all_eq_true]
 intro d hd
 obtain⟨e,he,rfl⟩:=List.mem_map.mp hd
 show (PyData.strOk e.1 && (PyData.strOk e.2.1 && (kqdOk (n+1) (g2n e.2.2) && true)))=true
 rw [(h e he).1,(h e he).2.1,f6h (h e he).2.2]
 rfl
theorem h6r{n:Nat}{os:List (Str×Int)}(h:∀ x∈os,PyData.strOk x.1=true):kqdOk (n+3) (.list (os.map dOu))=true:=by
 show (os.map dOu).all (kqdOk (n+2))=true
 rw [List.all_eq_true]
 intro d hd
 obtain⟨e,he,rfl⟩:=List.mem_map.mp hd
 show (PyData.strOk e.1 && (true && true))=true
 rw [h e he]
 rfl
theorem i6r.k{p:Pd}(h:i6r p):kqdOk 4 (dPd p)=true:=by
 show (kqdOk 3 (g2n p.ts) && (kqdOk 3 (g2n p.bs) && (kqdOk 3 (.list (p.es.map dSd)) && (kqdOk 3 (.list (p.os.map dOu)) && true))))=true
 rw [f6h h.t,f6h h.b,h6q h.s,h6r h.o]
 rfl
end L2
namespace L2
open PySem PySem.Spec PyProof.Rows
section
variable {X:Cx}
end
end L2
namespace L2
open PySem PySem.Spec PyProof.Rows
noncomputable def i4x(K:PySem.W.Frag)(C fI:Addr):Bool:=match K.lookup C with
 | some ⟨.type "type", _, .cls cd, sl⟩ => (match cd.mro, sl.toList with
  | .ref C' :: bm, [_, _, _, _, some (.builtin n), _] => (C' == C && n == "ValueError.__new__") && (!cd.hasDel && PySem.W.tailIn K vE bm) && (PySem.W.nsOkIn K cd.ns && PySem.W.nsIn K cd.ns "__init__" == some (some (.ref fI)))
  | _,_=>false)
 | _=>false
section
variable {prog:Program}{w:World}{A:Around}{E:Value->Shared->Prop}{h:Heap}{g:Array GenState}{d:Drawn}{t:Nat}{os:OsState}
variable {nm q:Str}{C N:Addr}{bs bm:List Value}{hdct:Bool}{sn:List Str}{sub:List Value}{ab:Bool}{col:Option Bool}{dd:Option Addr}{k0 k1 k2 k3 k5:Option Value}
end
end L2
namespace L2
open PySem PySem.Spec PyProof.Rows
section
variable {X:Cx}{pins:List (Addr×Obj)}{σ:St}{H:Hp}{s:Shared}{e:Addr}
end
section
variable {P:Program}{w:World}{K:PySem.W.Frag}{mg:Str->Option Value}{base:Heap}{N:List Str}{qual:Str}{scope:Scope}{f:Addr}{cd:Value}{A:Around}{outer:List Env}{s:Shared}{H:Hp}{E:XK}
end
section
variable {X:Cx}{k:Nat}{f C:Addr}{fd:FuncData}{ps:List Str}{sp:Sp}{E:XK}{x:Str}
end
end L2
namespace L2
open PySem PySem.Spec PyProof.Rows
section
variable {prog:Program}{w:World}{A:Around}{E:Value->Shared->Prop}{h:Heap}{g:Array GenState}{d:Drawn}{t:Nat}{os:OsState}
variable {nm q:Str}{C N:Addr}{bs bm:List Value}{hdct:Bool}{sn:List Str}{sub:List Value}{ab:Bool}{col:Option Bool}{dd:Option Addr}{k0 k1 k2 k3 k5:Option Value}
end
structure XAt(K:PySem.W.Frag)(C:Addr)(f:Str):Prop where
 sa : PySem.W.findIn K (.ref C) "__setattr__" = some (some (.builtin "object.__setattr__"))
 na:PySem.W.findIn K (.ref C) f=some none
 hd:PySem.W.hasDictIn K C=true
section
variable {prog:Program}{w:World}{A:Around}{E:Value->Shared->Prop}{s:Shared}{K:PySem.W.Frag}{C fI:Addr}{name:Str}{v:Value}
end
section
variable {prog:Program}{w:World}{A:Around}{E:Value->Shared->Prop}{h:Heap}{g:Array GenState}{d:Drawn}{t:Nat}{os:OsState}{K:PySem.W.Frag}{a C dx:Addr}{o:Obj}{mA:Str->Option Value}{name:Str}{v:Value}
end
section
variable {X:Cx}{f C:Addr}{name:Str}{pos pos' apos p np:Pos}{ta tv:TE}{e₀ o value:Expr}{es:List Expr}{t:TA}{m:Str}{M:Addr}
structure XIn(K:PySem.W.Frag)(M:Addr):Prop where
 sp : PySem.W.specialIn K (.ref M) "__getattribute__" = some (some (.builtin "type.__getattribute__"))
 rd : PySem.W.readsIn K M (.type "type") = true
 fi : PySem.W.findCls K (.ref M) (.type "type") "__init__" = some (.val (.builtin "ValueError.__init__"))
end
end L2
namespace L2
open PySem PySem.Spec PyProof.Rows
section
variable {X:Cx}{k:Nat}{f C:Addr}{fd:FuncData}{ps:List Str}{sp:Sp}{dvs:List V}{ds:List Value}{E:XK}{m:Str}{pos apos:Pos}{e o:Expr}{es:List Expr}{ta:TE}{t:TA}
theorem d3y{pl:Sem Bool}(he:PE X.nox o ta)(c:Cls X.K C)(hm:Meth X.K C m f)(F:a3q X.prog X.w X.K X.mg X.base (CXE X.prog X.w) k f fd ps sp)(hr:a5z k X.A)(hb:Binds X.K fd ps ds)(hd:Vals dvs ds)(ha:PA X.nox (e :: es) t)
  (hst:starEach (e :: es) X.env=(false,eval e X.env) :: starEach es X.env:=by rfl) (hpl:(backTo pos (starEach es X.env)).any (·.1)=false:=by rfl)
  (ht:eval (.Call (.Attribute o m apos) (e :: es) [] pos) X.env=(do
   let ov <- eval o X.env
   standAt apos.atName
   let (f,first) <- holding [ov] (getMethod ov m pl)
   callWith pos f first (backTo pos (starEach (e :: es) X.env)) (backToKw pos (keywordEach [] X.env))):=by rfl) :
  PEX X (.Call (.Attribute o m apos) (e :: es) [] pos) (d9s C m sp dvs E ta t) E:=by
 intro pins s σ H Q I h
 refine PySem.W.methodCall_KW (pl:=pl) (wpAny_mono (he pins s σ H _ (I.wish _) h) (fun u s1 ⟨x,H1,I1,rx,z⟩=>?_) fun _ _ z=>False.elim z) ht
 cases x with
 | ref a =>
  obtain rfl:u=Value.ref a:=rx
  dsimp only at z
  split at z
  ·rename_i C' dx fs ea
   obtain⟨rfl,l,q⟩:=z
   have I1':=I1.b3o
   refine d5j I1' ea c hm l ?_
   refine PySem.W.callWith_K (first:=[.ref a]) (h₀:=X.base) I.ok.mod.kin hm.kp (wpAny_mono (ha pos pins s1 σ H1 _ I1 q) (fun us s2 ⟨vs,H2,I2,r,q2⟩=>⟨I2.b3o.kIn,?_⟩) fun _ _ z=>False.elim z) hst hpl
   exact g9j (us:=.ref a :: us) (vs:=.ref a :: vs) F hr hb hd I2.b3o (.cons rfl r) q2
  ·exact z.elim
 | _=>exact False.elim z
end
structure j1a(K:PySem.W.Frag)(C f:Addr)(name:Str):Prop where
 ok:i4x K C f=true
 fn:PySem.W.isFn K (.ref f)=true
 kp:PySem.W.keepIn K (.ref C)=true
 sa : PySem.W.findIn K (.ref C) "__setattr__" = some (some (.builtin "object.__setattr__"))
 na:PySem.W.findIn K (.ref C) name=some none
 hd:PySem.W.hasDictIn K C=true
theorem j1a.at{K:PySem.W.Frag}{C f:Addr}{name:Str}(h:j1a K C f name):XAt K C name:=⟨h.sa,h.na,h.hd⟩
end L2
namespace L2
open PySem PySem.Spec PyProof.Rows
structure i1j(X:Cx)(scope:Scope)(x y zz:Str):Prop where
 kind:scope.kind = .function
 d9m:∀ y∈scope.names,y.2≠.cell
 loc:∀ y∈scope.names,y.2 = .local->scope.names.lookup y.1=some .local
 own:scope.names.lookup x=some .local
 own2:scope.names.lookup y=some .local
 own3:scope.names.lookup zz=some .local
 free:∀ y∈scope.names,y.2 = .free->X.env.kindOf y.1=some .cell\/X.env.kindOf y.1=some .free
 nd:(x :: y :: zz :: mask x X.N).Nodup
 noe : ∀ y ∈ scope.names, y.1 ≠ ""
 vis:∀ y∈mask x X.N,scope.names.lookup y≠some .local
section
variable {X:Cx}{scope:Scope}{x y zz:Str}{cl:List (Str×Addr)}{pins:List (Addr×Obj)}{σ:St}{H:Hp}{s s₄:Shared}{fp:List Addr}
end
section
variable {X:Cx}{scope:Scope}{x y zz:Str}{pins:List (Addr×Obj)}{σ:St}{elt iter:Expr}{px py pz tpos pos:Pos}{kk:Nat}{wi:TI}{te:TE}
end
end L2
namespace L2
open PySem PySem.Spec PyProof.Rows
theorem d9v{e:Value}{f:Option Addr}:c4k (setFlight e f):=by
 unfold setFlight
 refine c4k.bind (fun v=>?_) c6s
 split
 ·exact c1h (by decide)
 ·exact True.intro
theorem g6l{e:Value}{env env':Env}(h:env.frame=env'.frame):noteFrame e env=noteFrame e env':=by
 unfold noteFrame PySem.frameOf
 rw [h]
def g2p(B:Heap)(l:List Env)(a:Addr)(C a0:Value)(h:Heap):Prop:=B.StaysIn h/\B.get? a=none/\h.FunFrames B l/\∃ fl,h.TracedAtW B a C a0 fl
section
variable {M:Model}{A:Around}{E:Value->Shared->Prop}{s:Shared}{base:Heap}{env:Env}{outer l:List Env}{L e:Addr}{cls a0:Value}{dx:Option Addr×Option Value}{Q:Unit->Shared->Prop}
theorem g6m(hfr:A.frames=some (env :: outer))(hf:env.frame=some L)(hh:g2p base (env :: outer) e cls a0 s.heap)(kd:Kd e dx s.heap)
  (hQ:∀ h',Heap.FlyingW base outer e cls a0 h'->s.heap.UpToSlots h'->Kd e dx h'->Q () { s with heap:=h' }):wpAny M A (leaving env (.ref e)) Q E s:=by
 refine wpAny_mono (c9h.any (E:=fun _ _=>False) (Q:=fun _ s'=>∃ h',s' = { s with heap:=h' }/\Heap.FlyingW base outer e cls a0 h'/\s.heap.UpToSlots h') ?_ kd) (fun _ s' z=>?_) fun _ _ z=>z.1.elim
 ·obtain⟨f1,f2,f3,fl,tr⟩:=hh
  by_cases hfl:fl=rawInt L
  ·subst hfl
   unfold leaving
   refine wpAny_bind (wpAny_noteFrame_againW hf tr (wpAny_landsW (L:=L) ⟨f1,f2,f3,tr⟩ fun h' a b=>?_))
   obtain⟨k1,k2,⟨_,_,k3⟩,k4⟩:=a
   exact⟨h',rfl,⟨k1,k2,k3,k4⟩,b⟩
  ·obtain⟨oe,vs,T,oT,ts,he,⟨hc,h0⟩,hd,h1,hnT,hTe,hT,hdT,h3⟩:=tr
   subst hc
   unfold leaving noteFrame
   simp only [hf]
   refine wpAny_bind (wpAny_bind (wpAny_field he hd h1 ?_))
   rw [if_pos (show (Value.ref T != Value.none)=true from by simp)]
   refine wpAny_bind (wpAny_field hT hdT h3 ?_)
   rw [if_neg (by simpa using hfl)]
   refine wpAny_bind (wpAny_setField hT hdT (Array.getElem?_eq_some_iff.mp h3).1 ?_)
   have oth:∀ b,b≠T->(s.heap.update T (Obj.mapFields (·.setIfInBounds 3 Value.none))).get? b=s.heap.get? b:=fun b hb=>Heap.get?_update_other _ _ (Ne.symm hb)
   have h6s:∀ b o,s.heap.get? b=some o->(∀ vs,o.data≠.fields vs)->b≠T:=fun b o hb hnf q=>by
    rw [q,hT] at hb
    cases hb
    exact hnf ts hdT
   refine wpAny_newEntryW hfr (f3.of_keeps fun b o hb hnf=>⟨o,(oth b (h6s b o hb hnf)).trans hb,rfl⟩) hf ((oth e (Ne.symm hTe)).trans he) (fun b o hbo=>(oth b fun q=>by rw [q,hnT] at hbo; cases hbo).trans (f1 b o hbo)) f2 hd (Array.getElem?_eq_some_iff.mp h1).1 h0 fun h' ⟨x1,⟨_,_,x2⟩,x3,x4⟩=>⟨h',rfl,⟨x1,f2,x2,x3⟩,fun b o hb hnf=>x4 b o ((oth b (h6s b o hb hnf)).trans hb) hnf⟩
 ·obtain⟨⟨h',rfl,a,b⟩,c⟩:=z
  exact hQ h' a b c
theorem g6n{α:Type}{what:String}{Q':α->Shared->Prop}{cenv:Env}(hh:g2p base l e cls a0 s.heap)(kd:Kd e dx s.heap)(hE:∀ h',g2p base l e cls a0 h'->s.heap.UpToSlots h'->Kd e dx h'->E (.ref e) { s with heap:=h' }):wpAny M A (PySem.passOn what (.ref e) cenv:Sem α) Q' E s:=by
 obtain⟨f1,f2,f3,fl,oe,vs,T,oT,ts,he,hc,hd,h1,hnT,hTe,hT,hdT,h3⟩:=hh
 have z3:3 < ts.size:=(Array.getElem?_eq_some_iff.mp h3).1
 have oth:∀ (x:Value) (b:Addr),b≠T->(s.heap.update T (Obj.mapFields (·.setIfInBounds 3 x))).get? b=s.heap.get? b:=fun x b hb=>Heap.get?_update_other _ _ (Ne.symm hb)
 have h6s:∀ b o,s.heap.get? b=some o->(∀ vs,o.data≠.fields vs)->b≠T:=fun b o hb hnf q=>by
  rw [q,hT] at hb
  cases hb
  exact hnf ts hdT
 unfold PySem.passOn
 refine wpAny_bind (wpAny_field he hd h1 ?_)
 rw [if_neg (show ¬ ((Value.ref T == Value.none)=true) from by simp)]
 refine wpAny_bind (wpAny_mono (d9v.any (E:=fun _ _=>False) (Q:=fun _ s'=>∃ h',s' = { s with heap:=h' }/\g2p base l e cls a0 h'/\s.heap.UpToSlots h') ?_ kd) (fun _ s' z=>?_) fun _ _ z=>z.1.elim)
 ·unfold setFlight
  refine wpAny_bind (wpAny_field he hd h1 ?_)
  rw [if_pos (show (Value.ref T != Value.none)=true from by simp)]
  refine wpAny_setField hT hdT z3 ⟨_,rfl,⟨fun b o hbo=>(oth _ b fun q=>by rw [q,hnT] at hbo; cases hbo).trans (f1 b o hbo),f2,f3.of_keeps fun b o hb hnf=>⟨o,(oth _ b (h6s b o hb hnf)).trans hb,rfl⟩,(cenv.frame.elim Value.none fun f=>rawInt f),oe,vs,T,_,_,(oth _ e (Ne.symm hTe)).trans he,hc,hd,h1,hnT,hTe,Heap.get?_update_self _ hT (Obj.isFreed_of_fields (Obj.data_mapFields hdT _)),Obj.data_mapFields hdT _,by simp [z3]⟩,fun b o hb hnf=>⟨o.slots,(oth _ b (h6s b o hb hnf)).trans hb⟩⟩
 ·obtain⟨⟨h',rfl,a,b⟩,c⟩:=z
  exact wpAny_throw (hE h' a b c)
end
def f6i(X:Cx)(E:XK):Prop:=∀ (pins:List (Addr×Obj)) (σ:St) (a:Addr) (C a0:Value) (B:Heap) (H':Hp) (s':Shared),g2p B X.stack a C a0 s'.heap->(∀ h',B.StaysIn h'->s'.heap.UpToSlots h'->Inv X pins σ H' { s' with heap:=h' })->H' a=none->X.s₀.heap.get? a=none->(∃ dx cx,Kd a (dx,cx) s'.heap/\E C dx H')->X.xe (.ref a) s'
section
variable {P:Program}{w:World}{K:PySem.W.Frag}{mg:Str->Option Value}{base:Heap}{N:List Str}{qual:Str}{scope:Scope}{f:Addr}{cd:Value}{A:Around}{outer:List Env}{s:Shared}{H:Hp}{E:XK}
theorem g5m:f6i (g7o (CXE P w) P w K mg base N qual scope f cd A outer s H E) E:=by
 intro pins σ a C a0 B H' s' hh un hn nw hE
 obtain⟨dx,cx,kd,hE⟩:=hE
 have J:=un s'.heap hh.1 (Heap.UpToSlots.refl _)
 show wpAny (model P w) (A.deeper (envOfC qual scope s.heap.objs.size f cd)) (leaving (envOfC qual scope s.heap.objs.size f cd) (.ref a)) (fun _ s''=>CXE P w outer H s E (.ref a) s'') (fun e' s''=>CXE P w outer H s E e' s'') s'
 refine g6m J.ok.frames rfl hh kd fun h2 fl u kd2=>?_
 exact⟨a,C,a0,B,H',rfl,fl,J.os,J.bare,fun h3 b3 u3=>let J3:=un h3 b3 (u.trans u3); ⟨J3.base,J3.hok⟩,hn,nw,dx,cx,kd2,(fun h=>by cases h),hE⟩
end
noncomputable def putBack(h:Heap)(a:Addr)(o:Obj):Heap:=if a < h.objs.size then h.update a (fun _=>o) else { h with objs:=h.objs++(Array.replicate (a - h.objs.size) { cls:=.none,data:=.freed }) ++ #[o] }
theorem g0h{h:Heap}{a:Addr}{o:Obj}(ho:o.isFreed=false):(putBack h a o).get? a=some o:=by
 unfold putBack
 split
 ·rename_i hl
  refine Heap.get?_some_iff.mpr ⟨?_,ho⟩
  cases h
  simp only [Heap.update,Array.getElem?_modify,if_true]
  rw [Array.getElem?_eq_getElem hl]
  rfl
 ·rename_i hl
  have hl':h.objs.size<=a:=Nat.le_of_not_lt hl
  have hz:(h.objs++Array.replicate (a - h.objs.size) ({ cls:=.none,data:=.freed }:Obj)).size=a:=by
   rw [Array.size_append,Array.size_replicate]
   exact Nat.add_sub_cancel' hl'
  refine Heap.get?_some_iff.mpr ⟨?_,ho⟩
  show (h.objs++Array.replicate (a - h.objs.size) ({ cls:=.none,data:=.freed }:Obj) ++ #[o])[a]? = some o
  rw [Array.getElem?_append_right (Nat.le_of_eq hz),hz,Nat.sub_self]
  rfl
theorem g6o{h:Heap}{a b:Addr}{o:Obj}(hb:b≠a):(putBack h a o).get? b=h.get? b:=by
 unfold putBack
 split
 ·exact Heap.get?_update_other _ _ (Ne.symm hb)
 ·rename_i hl
  have hl':h.objs.size<=a:=Nat.le_of_not_lt hl
  have hz:(h.objs++Array.replicate (a - h.objs.size) ({ cls:=.none,data:=.freed }:Obj)).size=a:=by
   rw [Array.size_append,Array.size_replicate]
   exact Nat.add_sub_cancel' hl'
  apply Option.ext
  intro u
  rw [Heap.get?_some_iff,Heap.get?_some_iff]
  show ((h.objs++Array.replicate (a - h.objs.size) ({ cls:=.none,data:=.freed }:Obj) ++ #[o])[b]? = some u/\_) ↔ _
  rcases Nat.lt_or_ge b h.objs.size with z | z
  ·rw [Array.getElem?_append_left (by rw [hz]; exact Nat.lt_of_lt_of_le z hl'),Array.getElem?_append_left z]
  ·rw [Array.getElem?_eq_none z]
   constructor
   ·rintro ⟨e,f⟩
    exfalso
    rcases Nat.lt_or_ge b a with y | y
    ·rw [Array.getElem?_append_left (by rw [hz]; exact y),Array.getElem?_append_right z,Array.getElem?_replicate,if_pos (Nat.sub_lt_sub_right z y)] at e
     cases e
     cases f
    ·have y':a < b:=Nat.lt_of_le_of_ne y (Ne.symm hb)
     rw [Array.getElem?_append_right (by rw [hz]; exact y),hz,Array.getElem?_eq_none (Nat.sub_pos_of_lt y')] at e
     cases e
   ·rintro ⟨e,_⟩
    cases e
section
variable {X:Cx}{scope:Scope}{x:Str}{pins pl:List (Addr×Obj)}{σ σ':St}{cl:List (Str×Addr)}{s₃ s9 s':Shared}{H3 H9:Hp}{fp:List Addr}{E:XK}{e:Value}{Q:Value->Shared->Prop}{acc:Value}
theorem g6p(hP:f6i X E)(I3:Inv X pins σ H3 s₃)(f3:∀ b∈fp,f2p X pins H3 b)(I9:Inv (a6p X scope cl s₃.heap.objs.size s₃ H3 fp x) pl σ' H9 s9)(hfp:∀ b∈fp,∃ o,s9.heap.get? b=some o)(cx:CXE X.prog X.w X.stack H9 s9 E e s')
  (hst:X.stack=X.env :: X.outer) (hfr:X.env.frame=some X.env.locals) (hex:X.ex = []) :
  notedBy (model X.prog X.w) X.A (compEnvC scope cl s₃.heap.objs.size X.env) (fun e s''=>compPost (model X.prog X.w) X.A X.xe none Q acc s₃.heap.objs.size (.error e) s'') e s':=by
 obtain⟨a,C,a0,B,H',rfl,fl,os,bare,un,hn,nw,dx,cx',kd,_,hE⟩:=cx
 show wpAny _ _ (noteFrame (.ref a) (compEnvC scope cl s₃.heap.objs.size X.env)) _ _ s'
 rw [g6l (env:=compEnvC scope cl s₃.heap.objs.size X.env) (env':=X.env) rfl]
 have hA:X.A.frames=some (X.env :: X.outer):=by rw [<- hst]; exact I3.ok.frames
 rw [hst] at fl
 refine d9q hA hfr fl kd fun h4 hd4 sm4 kd4=>?_
 obtain⟨Cc,eC⟩:∃ Cc,s₃.heap.objs.size=Cc:=⟨_,rfl⟩
 -- the block's own names
 obtain⟨m,⟨oc,es,ep,hoc,hdc,hrest⟩,_⟩:=I9.loc
 have hfree:H9 s₃.heap.objs.size=none:=I9.free
 have hoc:s9.heap.get? s₃.heap.objs.size=some oc:=hoc
 have nfs:s₃.heap.objs.size∉frs X.stack:=fun hb=>by
  obtain⟨_,o,ho,_⟩:=I3.stack.mem hb
  exact absurd (Heap.lt_size ho) (Nat.lt_irrefl _)
 have ua:∀ h',B.StaysIn h'->s'.heap.UpToSlots h'->h'.get? s₃.heap.objs.size=some oc:=fun h' b u=>(un h' b u).1.keep _ _ hoc hfree nfs (by simp)
 have hs':s'.heap.get? s₃.heap.objs.size=some oc:=ua _ fl.1 (Heap.UpToSlots.refl _)
 have h4c:h4.get? s₃.heap.objs.size=some oc:=ua _ hd4.1 sm4
 have nfl:∀ vs,oc.data≠.fields vs:=fun vs q=>by rw [hdc] at q; cases q
 have i4y:H' s₃.heap.objs.size=none:=(un _ hd4.1 sm4).1.free _ _ hoc hfree (by simp)
 refine⟨m,⟨oc,es,ep,h4c,hdc,hrest⟩,fun h5 sb cenv hce=>?_⟩
 have k5:∀ b,b≠s₃.heap.objs.size->h5.get? b=h4.get? b:=sb.2
 obtain⟨f1,f2,f3',oe,vs,T,oT,ts,he,hc,hd,h1,hnT,hTe,hT,hdT,h3⟩:=hd4
 have nr:∀ {b:Addr} {o:Obj} {ws:Array Value},h4.get? b=some o->o.data = .fields ws->b≠s₃.heap.objs.size:=fun {b o ws} hb hd q=>by
  rw [q,h4c] at hb
  cases hb
  exact nfl ws hd
 -- the ground without the block's names
 have hB:∀ b o,(PySem.W.hideAll B [s₃.heap.objs.size]).get? b=some o->B.get? b=some o/\b≠s₃.heap.objs.size:=fun b o q=>⟨PySem.W.of_hideAll _ q,fun z=>by
  rw [z,PySem.W.hideAll_none _ (by simp)] at q
  cases q⟩
 have no:∀ {b:Addr},B.get? b=none->(PySem.W.hideAll B [s₃.heap.objs.size]).get? b=none:=fun {b} q=>by
  cases z:(PySem.W.hideAll B [s₃.heap.objs.size]).get? b with
  | none=>rfl
  | some o=>rw [(hB b o z).1] at q; cases q
 have ff:∀ {l:List Env},(∀ b∈frs l,b∈frs X.stack)->h4.FunFrames B l->h5.FunFrames (PySem.W.hideAll B [s₃.heap.objs.size]) l:=by
  intro l
  induction l with
  | nil=>intro _ _; trivial
  | cons en r ih =>
   intro hs hl
   obtain⟨hk,⟨L,o,hf,hnn,ho,hdd⟩,hr⟩:=hl
   have hL:L∈frs X.stack:=hs L (List.mem_filterMap.mpr ⟨en,List.mem_cons_self,hf⟩)
   refine⟨hk,⟨L,o,hf,no hnn,(k5 L fun z=>nfs (by rw [<- z]; exact hL)).trans ho,hdd⟩,ih (fun b hb=>hs b ?_) hr⟩
   obtain⟨en',h1,h2⟩:=List.mem_filterMap.mp hb
   exact List.mem_filterMap.mpr ⟨en',List.mem_cons_of_mem _ h1,h2⟩
 rw [<- hst] at f3'
 have HA:g2p (PySem.W.hideAll B [s₃.heap.objs.size]) X.stack a C a0 h5 :=
  ⟨fun b o q=>(k5 b (hB b o q).2).trans (f1 b o (hB b o q).1),no f2,ff (fun _ z=>z) f3',_,oe,vs,T,oT,ts,(k5 _ (nr he hd)).trans he,hc,hd,h1,no hnT,hTe,(k5 _ (nr hT hdT)).trans hT,hdT,h3⟩
 have kd5:Kd a (dx,cx') h5:=by
  obtain⟨o,q1,q2⟩:=kd4
  rw [he] at q1
  cases q1
  exact⟨oe,(k5 _ (nr he hd)).trans he,q2⟩
 refine g6n (s:={ s' with heap:=h5 }) HA kd5 fun h6 HA6 sm6 kd6=>?_
 have nw0:X.s₀.heap.get? a=none:=by
  refine I3.older hex ?_
  cases q:s₃.heap.get? a with
  | none=>rfl
  | some o =>
   have nfp:a∉fp:=fun hb=>by
    obtain⟨o',z⟩:=hfp a hb
    rw [nw] at z
    cases z
   obtain⟨o',z⟩:=I9.base.there a o q nfp
   rw [nw] at z
   cases z
 refine hP pins σ a C a0 _ H' { s' with heap:=h6 } HA6 (fun h7 b7 u7=>?_) hn nw0 ⟨dx,cx',kd6,hE⟩
 -- the block's names put back
 have k8:∀ b,b≠s₃.heap.objs.size->(putBack h7 s₃.heap.objs.size oc).get? b=h7.get? b:=fun b hb=>g6o hb
 have c8:(putBack h7 s₃.heap.objs.size oc).get? s₃.heap.objs.size=some oc:=g0h (Heap.get?_some_iff.mp hs').2
 have st8:B.StaysIn (putBack h7 s₃.heap.objs.size oc):=fun b o q=>by
  by_cases hb:b=s₃.heap.objs.size
  ·subst hb
   rw [c8,<- hs']
   exact fl.1 _ _ q
  ·rw [k8 b hb]
   exact b7 b o (PySem.W.hideAll_get _ q (by simp [hb]))
 have up8:s'.heap.UpToSlots (putBack h7 s₃.heap.objs.size oc):=fun b o q nf=>by
  by_cases hb:b=s₃.heap.objs.size
  ·subst hb
   rw [hs'] at q
   cases q
   exact⟨oc.slots,c8⟩
  ·obtain⟨s4,e4⟩:=sm4 b o q nf
   have e5:h5.get? b=some { o with slots:=s4 }:=(k5 b hb).trans e4
   obtain⟨s6,e6⟩:=sm6 b _ e5 nf
   obtain⟨s7,e7⟩:=u7 b _ e6 nf
   exact⟨s7,(k8 b hb).trans e7⟩
 obtain⟨U,ok8⟩:=un _ st8 up8
 have u9:=I9.base
 have nb:∀ {b:Addr} {o:Obj},s₃.heap.get? b=some o->b≠s₃.heap.objs.size:=fun q=>Nat.ne_of_lt (Heap.lt_size q)
 have U':Un (frs X.stack) fp H3 H' s₃.heap (putBack h7 s₃.heap.objs.size oc) :=
  Un.trans u9 ⟨fun b o e n hb _=>U.keep b o e n hb (by simp),fun b o e n hb _=>U.slot b o e n hb (by simp),fun b o e n _=>U.free b o e n (by simp),fun b o e _=>U.there b o e (by simp),U.tups,U.f8w,U.g1u⟩
 have U7:Un (frs X.stack) fp H3 H' s₃.heap h7 :=
  ⟨fun b o e n hb hx=>(k8 b (nb e)).symm.trans (U'.keep b o e n hb hx),fun b o e n hb hx=>(U'.slot b o e n hb hx).elim fun sl q=>⟨sl,(k8 b (nb e)).symm.trans q⟩,U'.free,fun b o e hx=>(U'.there b o e hx).elim fun o' q=>⟨o',(k8 b (nb e)).symm.trans q⟩,U'.tups,U'.f8w,U'.g1u⟩
 have nC:∀ {b:Addr} {o:HO},H' b=some o->b≠s₃.heap.objs.size:=fun {b o} q z=>by rw [z,i4y] at q; cases q
 have ok7:HOk X.prog X.w H' h7:=fun b o q=>(ok8 b o q).stay (fun c v hc r=>(k8 c (hc.elim (fun z=>by rw [z]; exact nC q) nC)).symm.trans r) (fun _ z=>z) fun _ _ z=>z
 exact I3.call' (s':={ s' with heap:=h7 }) (ch:=fp) (os.trans I9.os) U7 ok7 bare fun b hb=>⟨(f3 b hb).2.2.2.1,(f3 b hb).2.1,(f3 b hb).2.2.2.2.1,(f3 b hb).2.2.2.2.2⟩
end
section
variable {X:Cx}{scope:Scope}{x:Str}{pins:List (Addr×Obj)}{σ:St}{elt iter:Expr}{px pos:Pos}{wi:TI}{te:TE}
theorem g2q{s₂:Shared}{H1:Hp}{it:Addr}{fp:List Addr}{tn:Nat->Heap->Prop}{J:It}{Q:VK}{RR:Value->Addr->Result->Shared->Prop}{E:Value->Shared->Prop}{Ee:XK}{cl:List (Str×Addr)}
  (S:b5y X scope x) (hc:X.calm=true) (he:∀ cl C s₃ H₃ fp,PEX (a6p X scope cl C s₃ H₃ fp x) elt te Ee)
  (hcl:∀ y c,cl.lookup y=some c->(y,NameKind.free)∈scope.names/\X.env.cells.lookup y=some c) (hcl2:∀ y,(y,NameKind.free)∈scope.names->cl.lookup y=X.env.cells.lookup y)
  (I2:Inv X pins σ H1 s₂) (T:Turn X.prog X.w X.K (.Name x px) J fp it tn) (st2:tn 0 s₂.heap) (f2:∀ b∈fp,f2p X pins H1 b) (h:∀ D H2,H1 D=none->Same H1 H2->H2 D=some (.lst [])->f5y J te D σ H2 Q ⟨⟩)
  (hRR:∀ (D C:Addr) (s':Shared) (H':Hp),(∃ m,s'.heap.Ns C m)->(∀ h' ,Heap.SameBut C s'.heap h'->Inv X pins σ H' { s' with heap:=h' })->f2p X pins H' C->Q (.ref D) H'->RR (.ref D) C (.ok .next) s')
  (hXX:∀ (D:Addr) (s₃ s9 s':Shared) (H3 H9:Hp) (pl:List (Addr×Obj)) (σ':St) (e:Value),Inv X pins σ H3 s₃->(∀ b∈fp,f2p X pins H3 b)->Inv (a6p X scope cl s₃.heap.objs.size s₃ H3 fp x) pl σ' H9 s9->(∀ b∈fp,∃ o,s9.heap.get? b=some o)->CXE X.prog X.w X.stack H9 s9 Ee e s'->notedBy (model X.prog X.w) X.A (compEnvC scope cl s₃.heap.objs.size X.env) (fun e s''=>RR (.ref D) s₃.heap.objs.size (.error e) s'') e s') :
  wpAny (model X.prog X.w) X.A (newList []) (fun acc s₃=>wpAny (model X.prog X.w) X.A (newFunctionEnv scope X.env.globals cl [] X.env.qual none .none (some X.env)) (fun cenv s₄ =>
   codeAny (model X.prog X.w) X.A (.compStart (.ListComp elt [⟨.Name x px,iter,[],0⟩] scope pos) 0 (.ref it) acc { cenv with scope:=relabel scope X.env }) (RR acc cenv.locals) s₄) E s₃) E s₂:=by
 have hfr:H1 s₂.heap.objs.size=none:=I2.hok.fresh (Nat.le_refl _)
 have hCW:=h s₂.heap.objs.size _ hfr (Same.upd hfr) a5y
 refine wpAny_newObj_type ?_
 have I3 : Inv X pins σ (upd H1 s₂.heap.objs.size (.lst [])) { s₂ with heap := s₂.heap.push { cls := .type "list", data := .seq ([] : List Value).toArray }, toks := s₂.toks } :=
  I2.laid (t':=s₂.toks) (fun b u e=>Heap.get?_push_of_some _ e) (Nat.le_refl _) ⟨Nat.zero_le _,[],0,.nil,Heap.get?_push_size _ rfl⟩
 have nD:∀ b∈fp,b≠s₂.heap.objs.size:=fun b hb=>by
  obtain⟨o,e,_⟩:=T.obj 0 _ st2 b hb
  exact Nat.ne_of_lt (Heap.lt_size e)
 have f3:∀ b∈fp,f2p X pins (upd H1 s₂.heap.objs.size (.lst [])) b:=fun b hb=>⟨by rw [a6u (nD b hb)]; exact (f2 b hb).1,(f2 b hb).2⟩
 generalize hH3:upd H1 s₂.heap.objs.size (.lst [])=H3 at *
 have st3 : tn 0 (s₂.heap.push { cls := .type "list", data := .seq ([] : List Value).toArray }) := T.keep _ _ _ st2 fun b _ o e => Heap.get?_push_of_some _ e
 have g9d : ∀ b ∈ fp, b < (s₂.heap.push { cls := .type "list", data := .seq ([] : List Value).toArray }).objs.size := fun b hb => by
  obtain⟨o,e,_⟩:=T.obj 0 _ st3 b hb
  exact Heap.lt_size e
 show wpAny (model X.prog X.w) X.A (newFunctionEnv scope X.env.globals cl [] X.env.qual none .none (some X.env)) _ E { s₂ with heap := s₂.heap.push { cls := .type "list", data := .seq ([] : List Value).toArray }, toks := s₂.toks }
 generalize hs3 : ({ s₂ with heap := s₂.heap.push { cls := .type "list", data := .seq ([] : List Value).toArray }, toks := s₂.toks } : Shared) = s₃ at *
 have eh : s₃.heap = s₂.heap.push { cls := .type "list", data := .seq ([] : List Value).toArray } := by rw [← hs3]
 rw [<- eh] at st3 g9d
 generalize s₂.heap.objs.size=D at *
 refine wpAny_newFunctionEnv S.d9m (by intro y hy; simp at hy) (fun h₁ hns₁ hsb₁=>?_) S.kind
 have hk1:∀ b o,s₃.heap.get? b=some o->h₁.get? b=some o:=fun b o e=>hsb₁.extBut b o (Nat.ne_of_lt (Heap.lt_size e)) (Heap.get?_push_of_some _ e)
 have J0:Inv (a6p X scope cl s₃.heap.objs.size s₃ H3 fp x) [] (none :: σ) H3 { s₃ with heap:=h₁,toks:=s₃.toks+([] : List (Str×Value)).length }:=I3.comp S hcl hcl2 f3 g9d hns₁ hk1 rfl rfl
 obtain⟨n0,W,w0,turn⟩:=hCW
 have loop:codeAny (model X.prog X.w) X.A (.compLoop (.ListComp elt [⟨.Name x px,iter,[],0⟩] scope pos) 0 (.ref it) (.ref D) (compEnvC scope cl s₃.heap.objs.size X.env)) (RR (.ref D) s₃.heap.objs.size) { s₃ with heap:=h₁,toks:=s₃.toks+([] : List (Str×Value)).length }:=by
  refine codeAny_loop rfl (fun n s'=>∃ i ys o H',Inv (a6p X scope cl s₃.heap.objs.size s₃ H3 fp x) [] (o :: σ) H' s'/\tn i s'.heap/\(∀ b∈fp,H' b=none)/\W i ys H'/\i<=n0/\n=n0 - i) (fun n s5 hI=>?_) n0
   ⟨0,[],none,H3,J0,T.keep _ _ _ st3 (fun b _ o e=>hk1 b o e),fun b hb=>(f3 b hb).1,w0,Nat.zero_le _,rfl⟩
  obtain⟨i,ys,o5,H5,I5,st5,fr5,w5,hin,hnn⟩:=hI
  have stat:∀ {H':Hp},(∀ b∈fp,H' b=none)->∀ b∈fp,f2p (a6p X scope cl s₃.heap.objs.size s₃ H3 fp x) [] H' b:=fun hn b hb =>
   ⟨hn b hb,Nat.ne_of_lt (g9d b hb),fun z=>(List.mem_cons.mp (I3.f4j b z)).elim (fun q=>(f3 b hb).2.1 q) fun q=>(f3 b hb).2.2.1 q,.inl hb,fun y c e=>(f3 b hb).2.2.2.2.1 y c (hcl y c e).2,fun p hp=>absurd (show p∈([] : List (Addr×Obj)) from hp) (by simp)⟩
  show wpAny _ X.A ((compTurn (.ListComp elt [⟨.Name x px,iter,[],0⟩] scope pos) 0 (.ref it) (.ref D) (compEnvC scope cl s₃.heap.objs.size X.env)).onRaise (fun x=>do noteFrame x (compEnvC scope cl s₃.heap.objs.size X.env); theTreesLotGoes x)) _ _ s5
  refine wpAny_noted ?_
  rw [compTurn_list1]
  refine wpAny_bind (wpAny_standAt (wpAny_bind ?_))
  obtain⟨hD5,alt⟩:=turn i ys H5 hin w5
  rcases alt with ⟨stop,q⟩ | ⟨hlt,go,hsz,step⟩
  ·refine wpAny_mono (T.done (a6p X scope cl s₃.heap.objs.size s₃ H3 fp x) rfl rfl rfl hc i [] s5 _ H5 _ I5 (stat fr5) st5 stop) (fun r s6 ⟨hr,I6⟩=>?_) fun _ _ z=>z
   subst hr
   refine wpAny_pure ?_
   obtain⟨m6,hn6,_⟩:=I6.loc
   exact hRR D s₃.heap.objs.size s6 H5 ⟨m6,hn6⟩ (fun h' hs'=>I3.g9c f3 I6 hs') (I3.i1e (Nat.le_refl _) I6.free) q
  ·refine wpAny_mono (T.item (a6p X scope cl s₃.heap.objs.size s₃ H3 fp x) rfl rfl rfl hc i [] s5 _ H5 _ I5 (stat fr5) st5 go) (fun r s6 ⟨u,hr,h6⟩=>?_) fun _ _ z=>z
   subst hr
   refine wpAny_bind (wpAny_mono h6 (fun _ s7 ⟨v,H7,I7,r7,y7,st7,fr7⟩=>?_) fun _ _ z=>z)
   have I7':=I7.pinned (stat fr7) (T.obj _ _ st7)
   have G:=c5j (X:=a6p X scope cl s₃.heap.objs.size s₃ H3 fp x) (pos:=px) (i:=0) (x:=x) S.nd rfl (.inl (lookup_relabel_local S.own)) (.inr (lookup_relabel_local S.own))
   refine wpAny_bind (wpAny_mono (G _ s7 _ H7 v u (fun σ' H'=>σ'=some v :: σ/\H'=H7) I7' r7 ⟨rfl,rfl⟩) (fun _ s8 hs8=>?_) fun _ _ z=>False.elim z)
   obtain⟨σ8,H8,I8,rfl,rfl⟩:=hs8
   refine wpAny_bind (wpAny_bind (wpAny_mono (he cl s₃.heap.objs.size s₃ H3 fp _ s8 _ _ _ I8 (step v H8 y7)) (fun yv s9 hs9=>?_) fun e s' z=>?_))
   rotate_left
   ·obtain⟨Hx,sx,Ix,cx⟩:=z
    refine hXX D s₃ sx s' H3 Hx _ _ e I3 f3 Ix (fun b hb=>?_) cx
    obtain⟨o,e,d⟩:=T.obj _ _ st7 b hb
    exact⟨o,(Ix.pin (b,o) (List.mem_append_right _ (List.mem_append_right _ (a9n hb e)))).1⟩
   obtain⟨y,H9,I9,r9,hD9,k9⟩:=hs9
   refine wpAny_bind (wpAny_mono (d3o (X:=a6p X scope cl s₃.heap.objs.size s₃ H3 fp x) _ s9 _ H9 (.ref D) [y] (.ref D) [yv] (fun _ H'=>H'=upd H9 D (.lst (ys++[y]))) I9 rfl (.cons r9 .nil) ⟨D,ys,y,rfl,rfl,hD9,hsz,rfl⟩) (fun _ sA hsA=>?_) fun _ _ z=>False.elim z)
   obtain⟨_,HA,IA,_,rfl⟩:=hsA
   refine wpAny_pure ?_
   have wA:=k9 _ a7h.upd a5y
   refine wpAny_pure ⟨rfl,n0 - (i+1),by omega,i+1,ys++[y],some v,_,IA.c7j (pins:=[]) (pl:=d6w fp s7.heap),T.keep _ _ _ st7 (fun b hb o e=>(IA.pin (b,o) (List.mem_append_right _ (List.mem_append_right _ (a9n hb e)))).1),fun b hb=>?_,wA,hlt,rfl⟩
   obtain⟨o,e,d⟩:=T.obj _ _ st7 b hb
   exact (IA.pin (b,o) (List.mem_append_right _ (List.mem_append_right _ (a9n hb e)))).2.1
 exact codeAny_compStart_list loop (T.self _ 0 _ _ _ (T.keep _ _ _ st3 fun b _ o e=>hk1 b o e) loop)
theorem h4f{Ee:XK}(hP:f6i X Ee)(hi:PI X (.Name x px) iter wi)(he:∀ cl C s₃ H₃ fp,PEX (a6p X scope cl C s₃ H₃ fp x) elt te Ee)(S:b5y X scope x)(hc:X.calm=true)(hst:X.stack=X.env :: X.outer:=by rfl)(hfr:X.env.frame=some X.env.locals:=by rfl)(hex:X.ex = []:=by rfl)
  (hs:∀ x,foldedSetIterable iter X.env x=pure x:=by intro _; rfl):PE X (.ListComp elt [⟨.Name x px,iter,[],0⟩] scope pos) (h8k wi te):=by
 intro pins s σ H Q I h
 obtain⟨cl,hclos,hcl,hcl2⟩:=d0w (env:=X.env) (sc:=scope) fun y hy=>I.ok.has y (S.free _ hy rfl)
 rw [eval_ListComp]
 refine wpAny_comprehension_free (use:=none) rfl hs hclos S.kind S.loc ?_
 refine thn (hi pins s σ H _ I h) fun v s1 h1=>thn h1 fun itv s2 h2=>?_
 obtain⟨it,fp,tn,J,H2,e,I2,T,st2,f2,hW⟩:=h2
 subst e
 refine g2q (RR:=fun acc C=>compPost (model X.prog X.w) X.A X.xe none (EP X pins σ Q) acc C) S hc he hcl hcl2 I2 T st2 f2 hW (fun D C s' H' hm hI _ hq =>
  hm.elim fun m hn=>⟨m,hn,fun h' hs'=>⟨.ref D,H',hI h' hs',rfl,hq⟩⟩) ?_
 exact fun D s₃ s9 s' H3 H9 pl σ' e I3 f3 I9 hfp cx=>g6p hP I3 f3 I9 hfp cx hst hfr hex
end
end L2
namespace L2
open PySem PySem.Spec PyProof.Rows
def i8z(X:Cx)(sts:List Stmt)(t:TS)(E:XK):Prop :=
 ∀ (pins:List (Addr×Obj)) (s:Shared) (σ:St) (H:Hp) (D:Ends),Inv X pins σ H s->t D σ H->wpAny (model X.prog X.w) X.A (execs sts X.env) (SP X pins D) (XPo X pins σ E) s
section
variable {X:Cx}{E:XK}{st:Stmt}{t u:TS}{pos:Pos}
theorem d1g(h1:PSX X st t E):i8z X [st] t E:=by
 intro pins s σ H D I h
 refine wpAny_execs_cons (thn (h1 pins s σ H D I h) fun f s1 q=>?_)
 cases f with
 | next=>exact wpAny_execs_nil q
 | ret v=>exact q
 | brk=>exact q
 | cont=>exact q
theorem g9v{c:Expr}{a b:List Stmt}{tc:TT}(hc:PT X.nox c tc)(ha:i8z X a t E)(hb:i8z X b u E):PSX X (.If c a b pos) (i6i tc t u) E:=by
 intro pins s σ H D I h
 refine wpAny_If (wpAny_mono (hc pins s σ H _ (I.wish _) h) (fun d s1 ⟨H1,I1,q1⟩=>?_) fun _ _ z=>False.elim z)
 cases d with
 | true=>exact ha pins s1 σ H1 D I1.b3o q1
 | false=>exact hb pins s1 σ H1 D I1.b3o q1
end
section
variable {X:Cx}
noncomputable def upS(z:Str):Str:=⟨placed z fun _ c=>Unicode.upperOf c⟩
noncomputable def rUpF:V->List V->Hp->VK->Prop:=fun x vs H Q=>match x,vs with
 | .str z,[]=>PySem.Builtin.Str.tooLong (upS z).cps.size=false/\(upS z).length<=sizeLine/\Q (.str (upS z)) H
 | _,_=>False
theorem g9w : MtR X "str.upper" rUpF := by
 intro pins s σ H x xs v us Q I rx rs h
 match x,xs,h with
 | .str z,[],⟨hl,hz,q⟩ =>
  obtain⟨t,rfl⟩:=rx
  cases rs
  exact call_gives F.slot_str_upper (typeIs_str _ _ _) F.entry_str_upper (F.args_str_upper_1 _) (gives_str_upper z t hl) ⟨hz,.str (upS z),H,I.tok _,⟨_,rfl⟩,q⟩
noncomputable def i9a:V->List V->Hp->VK->Prop:=fun x vs H Q=>match x,vs with
 | .ref l,[y]=>(match H l with
  | some (.lst xs)=>b1q y=true/\xs.all b1q=true/\∃ j:Nat,j < xs.length/\(∃ z,xs[j]? = some z/\eqV z y=true)/\(∀ (m:Nat) z,m < j->xs[m]? = some z->eqV z y=false)/\Q (.int j) H
  | _=>False)
 | _,_=>False
theorem g9x{y:V}:∀ {xs:List V} {us:List Value} {j:Nat} {z:V} (hj:j < us.length),Vals xs us->xs.all b1q=true->xs[j]? = some z->eqU y us[j]=eqV z y
 | _,_,_,_,hj,.nil,_,h=>by simp at h
 | x :: xs,u :: us,0,z,hj,.cons r t,f,h=>by
  cases h
  rw [List.all_cons,Bool.and_eq_true] at f
  exact g8p r f.1
 | x :: xs,u :: us,j+1,z,hj,.cons r t,f,h=>by
  rw [List.all_cons,Bool.and_eq_true] at f
  exact g9x (j:=j) (by simpa using hj) t f.2 (by simpa using h)
theorem g9y : MtR X "list.index" i9a := by
 intro pins s σ H x vs v us Q I rx rv h
 match x,vs,h with
 | .ref l,[y],h =>
  have h':(match H l with
   | some (.lst xs)=>b1q y=true/\xs.all b1q=true/\∃ j:Nat,j < xs.length/\(∃ z,xs[j]? = some z/\eqV z y=true)/\(∀ (m:Nat) z,m < j->xs[m]? = some z->eqV z y=false)/\Q (.int j) H
   | _=>False):=h
  split at h'
  ·rename_i xs hH
   obtain⟨fy,fx,j,hj,⟨z,hz,ez⟩,hno,q⟩:=h'
   cases rx
   obtain⟨u,rfl,ru⟩:=vals1 rv
   obtain⟨z0,its,n,r,hl,e⟩:=I.h5q hH
   have il:its.length=xs.length:=r.length.symm
   have hs:sizeLine=16777216:=sizeLine_eq
   refine call_meets F.slot_list_index ⟨_,e,rfl⟩ F.entry_list_index (F.args_list_index_2 _ _) (SeqAt.list_indexAt l its.toArray n none #[] u (eqU y) j (by rw [List.size_toArray]; omega) (by omega) ?_ ?_) ⟨e,fun w hw=>d0u ru fy r fx w (by simpa using hw),⟨.int j,H,I.tok _,⟨_,rfl⟩,q⟩⟩
   ·rw [List.getElem_toArray,g9x (by omega) r fx hz,ez]
   ·intro m hm hmj
    rw [List.size_toArray] at hm
    rw [List.getElem_toArray]
    have hx : xs[m]? = some (xs[m]'(by omega)) := List.getElem?_eq_getElem _
    rw [g9x (by omega) r fx hx]
    exact hno m _ hmj hx
  ·exact h'.elim
end
end L2
namespace L2
open PySem PySem.Spec PyProof.Rows PySem.SeqAt PySem.AutoSeq1
open PySem.MeetsSeq
theorem g2r(b:Str)(u:Tok)(l:Addr)(es:Array DictEntry)(ep:Nat)(dd:Option Addr)(sl:Array (Option Value)) :
  Meets (Builtin.«str.__eq__» ⟨[.str b u, .ref l], []⟩) (fun _ R s => s.heap.get? l = some { cls := .type "dict", dict := dd, data := .dict es ep, slots := sl } ∧ R (.ok (.ret .notImplemented)) s) :=
 .of_wp fun prog w A R s h=>by obtain⟨hp,g,d,tk,os⟩:=s; obtain⟨hl,h⟩:=h; have f1:=F.sub_dict_str; wp_walk using wpAny_loadPart' hl; exact⟨_,rfl,h⟩
theorem g2s(b:Str)(u:Tok)(l:Addr)(es:Array DictEntry)(ep:Nat)(dd:Option Addr)(sl:Array (Option Value)) :
  Meets (Builtin.«dict.__eq__» ⟨[.ref l, .str b u], []⟩) (fun _ R s => s.heap.get? l = some { cls := .type "dict", dict := dd, data := .dict es ep, slots := sl } ∧ R (.ok (.ret .notImplemented)) s) :=
 .of_wp fun prog w A R s h=>by obtain⟨hp,g,d,tk,os⟩:=s; obtain⟨hl,h⟩:=h; have f1:=F.sub_str_dict; wp_walk using wpAny_loadPart' hl; exact⟨_,rfl,h⟩
theorem g2t {A : Around} {s : Shared} {b : Str} {u : Tok} {l : Addr} {es : Array DictEntry} {ep : Nat} {dd : Option Addr} {sl : Array (Option Value)} (ho : s.heap.get? l = some { cls := .type "dict", dict := dd, data := .dict es ep, slots := sl }) (hu : A.units < cLine) : EqAt A s (.str b u) (.ref l) false := fun prog w E Q h => by
 have rc:∀ (E:Value->Shared->Prop) (Q:Value->Shared->Prop),Q (.bool false) s->wpAny (model prog w) A (richCompare .Eq (.str b u) (.ref l)) Q E s:=fun E Q h =>
  rc_eq_decline_or (k:=false) (typeIs_str s b u) ⟨_,ho,rfl⟩ (by decide) F.sub_dict_str F.slot_str_eq F.slot_dict_eq_refl
   (fun _ hq=>call_meets F.slot_str_eq (typeIs_str s b u) F.entry_str_eq (F.args_str_eq_2 _ _) (g2r b u l es ep dd sl) ⟨ho,hq⟩)
   (fun _ hq=>call_meets F.slot_dict_eq_refl ⟨_,ho,rfl⟩ F.entry_dict_eq (F.args_dict_eq_2 _ _) (g2s b u l es ep dd sl) ⟨ho,hq⟩)
   (fun _ hq=>wpAny_of_eq (rfl:isSame (.str b u) (.ref l)=pure false) hq) (.inr hu) h
 unfold eqBool
 refine wpAny_holding ?_
 refine wpAny_ite_split (fun hab=>absurd (eq_of_beq hab) nofun) (fun _=>?_)
 exact wpAny_bind (rc E _ (wpAny_truthy_bool h))
noncomputable def i4z:V->Bool
 | .str _=>true
 | _=>false
noncomputable def h2f(H:Hp):V->Bool
 | .ref r=>(match H r with
  | some (.lst _)=>true
  | some (.tup _)=>true
  | some (.dK _)=>true
  | _=>false)
 | _=>false
def rInO(neg:Bool):R2:=fun x y H Q=>match y with
 | .ref p=>(match H p with
  | some (.lst xs)=>xs.all i4z=true/\((b1q x=true/\Q (.bl (inV x xs != neg)) H)\/(h2f H x=true/\Q (.bl neg) H))
  | _=>False)
 | _=>False
theorem g0i:∀ {xs:List V},xs.all i4z=true->xs.all b1q=true
 | [],_=>rfl
 | x :: xs,h=>by
  rw [List.all_cons,Bool.and_eq_true] at h ⊢
  refine⟨?_,g0i h.2⟩
  cases x <;> first | rfl | exact absurd h.1 Bool.false_ne_true
section
variable {X:Cx}
theorem g5n{pins:List (Addr×Obj)}{σ:St}{H:Hp}{s:Shared}{A:Around}{r:Addr}(I:Inv X pins σ H s)(ho:h2f H (.ref r)=true)(hu:A.units < cLine):∀ {xs:List V} {us:List Value},Vals xs us->xs.all i4z=true->∀ u∈us,EqAt A s u (.ref r) false
 | _,_,.nil,_=>fun u hu=>by cases hu
 | x :: xs,u :: us,.cons rv t,f=>fun u' hm=>by
  rw [List.all_cons,Bool.and_eq_true] at f
  rcases List.mem_cons.mp hm with rfl | hm
  ·cases x with
   | str z =>
    obtain⟨tk,rfl⟩:=rv
    have ho':(match H r with | some (.lst _)=>true | some (.tup _)=>true | some (.dK _)=>true | _=>false)=true:=ho
    split at ho'
    ·rename_i ys e
     obtain⟨_,its,n,_,h1⟩:=(show b2m X.prog X.w H s.heap r (.lst ys) from I.hok r _ e)
     exact EqAt.str_list z tk ⟨_,h1,rfl,n,rfl⟩ hu
    ·rename_i ys e
     obtain⟨_,its,_,p⟩:=(show b2m X.prog X.w H s.heap r (.tup ys) from I.hok r _ e)
     exact EqAt.str_tuple z tk p hu
    ·rename_i kvs e
     obtain⟨_,_,vs,_,o,es,ep,h1,h2,h3⟩:=(show b2m X.prog X.w H s.heap r (.dK kvs) from I.hok r _ e)
     obtain⟨oc,od,oda,osl⟩:=o
     obtain⟨c1,c2,c3⟩:=h2
     dsimp only at c1 c2 c3 h3
     obtain⟨c4,_⟩:=h3
     subst c1 c2 c3 c4
     exact g2t h1 hu
    ·cases ho'
   | _=>exact absurd f.1 Bool.false_ne_true
  ·exact g5n I ho hu t f.2 u' hm
theorem d3z(hu:X.A.units+64 < cLine):OpR X (compareOp .NotIn) (rInO true):=by
 intro pins s σ H x y v u Q I rx ry h
 cases y with
 | ref p =>
  have h':(match H p with
   | some (.lst xs)=>xs.all i4z=true/\((b1q x=true/\Q (.bl (inV x xs != true)) H)\/(h2f H x=true/\Q (.bl true) H))
   | _=>False):=h
  split at h'
  ·rename_i xs e
   obtain⟨hs,h'⟩:=h'
   rcases h' with ⟨fx,q⟩ | ⟨ho,q⟩
   ·rw [Bool.bne_true] at q
    exact c8v pins s σ H _ _ v u Q I rx ry ⟨p,xs,rfl,.inl (SqL.of e),fx,g0i hs,by simpa using q⟩
   ·cases x with
    | ref r =>
     cases (show v=Value.ref r from rx)
     cases ry
     obtain⟨its,rv,pl,hz⟩:=I.list (SqL.of e)
     refine SeqAt.notIn_listAt (fun _=>false) pl.isList (fun w hw=>g5n (A:=X.A.in1) I ho (by show X.A.units+1 < cLine; omega) rv hs w (by simpa using hw)) ⟨.bl true,H,I,?_,q⟩
     show _=Value.bool true
     simp
    | _=>exact absurd (show false=true from ho) Bool.false_ne_true
  ·exact h'.elim
 | _=>exact False.elim h
end
end L2
namespace L2
open PySem PySem.Spec PyProof.Rows
def j1b(X:Cx)(pins:List (Addr×Obj))(σ:St)(E:XK)(e:Value)(s':Shared):Prop:=∃ H1 s1,Inv X pins σ H1 s1/\CXF true X.prog X.w X.stack H1 s1 E e s'
def j1c(X:Cx)(e:Expr)(t:TE)(E:XK):Prop :=
 ∀ (pins:List (Addr×Obj)) (s:Shared) (σ:St) (H:Hp) (Q:VK),Inv X pins σ H s->t σ H Q->wpAny (model X.prog X.w) X.A (eval e X.env) (EP X pins σ Q) (j1b X pins σ E) s
def j1d(X:Cx)(st:Stmt)(t:TS)(E:XK):Prop :=
 ∀ (pins:List (Addr×Obj)) (s:Shared) (σ:St) (H:Hp) (D:Ends),Inv X pins σ H s->t D σ H->wpAny (model X.prog X.w) X.A (exec st X.env) (SP X pins D) (j1b X pins σ E) s
theorem Fun.okN{P:Program}{w:World}{K:PySem.W.Frag}{mg:Str->Option Value}{base:Heap}{N:List Str}{qual:Str}{f:Addr}{x:Str}{st:Stmt}{fd:FuncData}{ps:List Str}{k:Nat}{sp:Sp}(F:Fun K x qual st f fd)(S:a1w N ps (a0q st))(len:∀ vs H Q E,sp vs H Q E->vs.length=ps.length)
  (hbody:∀ (cdv:Value) (A:Around) (outer:List Env) (s:Shared) (H:Hp) (vs:List V) (Q:VK) (E:XK),a5z k (A.deeper (envOfC qual (a0q st) s.heap.objs.size f cdv))->sp vs H Q E ->
   ∃ t,PSs (g7o (CXF true P w) P w K mg base N qual (a0q st) f cdv A outer s H E) (d2j st) t/\t { nx:=fun _ H'=>Q .non H',rt:=Q } (start N vs) H):a3q P w K mg base (CXF true P w) (k+1) f fd ps sp:=by
 obtain⟨oc,od,kV,doc,pm,an,cdv,ct,osl,rfl,lk,hcd⟩:=F.ex
 exact h7x lk hcd S len fun A outer s H vs Q E hr hsp=>hbody cdv A outer s H vs Q E hr hsp
section
variable {X:Cx}{k:Nat}{f C:Addr}{fd:FuncData}{ps:List Str}{sp:Sp}{dvs:List V}{ds:List Value}{E:XK}{x m:Str}{p pos apos:Pos}{e o:Expr}{es:List Expr}{ta:TE}{t:TA}
theorem g9z(F:a3q X.prog X.w X.K X.mg X.base (CXF true X.prog X.w) k f fd ps sp)(hr:a5z k X.A)(hg:Gl X x)(hm:X.mg x=some (.ref f))(hk:PySem.W.keepIn X.K (.ref f)=true)(hb:Binds X.K fd ps ds)(hd:Vals dvs ds)
  (ha : PA X.nox (e :: es) t) (hdb : (x == ("__debug__" : Str)) = false := by decide) (he : starEach (e :: es) X.env = (false, eval e X.env) :: starEach es X.env := by rfl) (hpl : (backTo pos (starEach es X.env)).any (·.1) = false := by rfl) :
  j1c X (.Call (.Name x p) (e :: es) [] pos) (h2x sp dvs E t) E:=by
 intro pins s σ H Q I h
 refine wpAny_Call_Name_kw (c5i I hg hm ?_ hdb)
 refine PySem.W.callWith_K (h₀:=X.base) I.ok.mod.kin hk (wpAny_mono (ha pos pins s σ H _ (I.wish _) h) (fun us s1 ⟨vs,H1,I1,r,q⟩=>⟨I1.b3o.kIn,?_⟩) fun _ _ z=>False.elim z) he hpl
 have I2:=I1.b3o
 have r2:Vals (vs++dvs) (us++ds):=r.append hd
 have hl:(us++ds).length=ps.length:=by rw [<- r2.length]; exact F.len _ _ _ _ q
 refine wpAny_call (codeAny_mono (F.run X.A X.stack s1 H1 ⟨us,[]⟩ (us++ds) (vs++dvs) Q E hr I2.env0 (hb s1 us I2.kIn hl) r2 q) fun r s' hq=>?_)
 cases r with
 | error e=>exact⟨H1,s1,I2,hq⟩
 | ok fl =>
  cases fl with
  | ret u=>exact I2.after hq
  | next=>exact False.elim hq
  | brk=>exact False.elim hq
  | cont=>exact False.elim hq
theorem h4g{i:Nat}{y:Str}{te:TE}{pos':Pos}(hN:X.N.Nodup)(hi:X.N[i]? = some y)(hx:Loc X.env.scope y)(he:j1c X e te E)(hs:swapsWith e (some (.Name y pos')) pos.line X.env=pure false:=by rfl)(hf:X.fn y=true\/X.env.scope.names.lookup y=some .local:=by first | exact .inl rfl | exact .inr rfl | assumption) :
  j1d X (.Assign [.Name y pos'] e pos) (i7e te (h2q i)) E:=by
 intro pins s σ H D I h
 refine wpAny_Assign_Name (thn (he pins s σ H _ I h) fun v s1 ⟨z,H1,I1,r1,q1⟩=>?_) hs
 exact d8n I1 hN hi hx r1 (fun s2 I2=>⟨_,H1,I2,q1⟩) hf
end
theorem f6j : entryFor table "proto.unchain" = some Builtin.«proto.unchain» := entryFor_of_tree (by kernel_rfl)
section
variable {prog:Program}{w:World}{A:Around}{E:Value->Shared->Prop}{s:Shared}{env:Env}{a:Addr}
theorem g2u{id:String}{args:Args}{b:Builtin}(hb:entryFor table id=some b):(model prog w).den (.builtin id args)=b args:=by
 show (match entryFor table id with | some b => b args | none => unsupported ((withoutEnding? id "#data").getD id)) = _
 rw [hb]
theorem g6q{e:Value}{o:Obj}{vs:Array Value}{Q:Value->Shared->Prop}(ho:s.heap.get? a=some o)(hd:o.data = .fields vs)(h2:vs[2]? = some .none)(h:Q .none s) :
  wpAny (model prog w) A (runValue (.builtin "proto.unchain" ⟨[e, .ref a, .ref a, .bool false], []⟩)) Q E s := by
 refine wpAny_runValue (codeAny_of_tree ?_)
 rw [g2u f6j]
 generalize A.under _=A'
 unfold Builtin.«proto.unchain»
 refine wpAny_bind (wpAny_field ho hd h2 ?_)
 exact wpAny_pure h
variable {nm q:Str}{C N:Addr}{bs bm:List Value}{hdct:Bool}{sn:List Str}{sub:List Value}{ab:Bool}{col:Option Bool}{dd:Option Addr}{k0 k1 k2 k3 k5:Option Value}{newId:String}
theorem g2v {x c : Sem Value} {Q : Flow → Shared → Prop} (hbase : bm.contains (.type "BaseException") = true) (hh : A.handled = some (.ref a)) (hc : ∀ (Q' : Value → Shared → Prop) s', Q' .none s' → wpAny (model prog w) A c Q' E s')
  (h:wpAny (model prog w) A x (fun v s₁=>∃ e t,v = .ref e/\a≠e/\s₁.heap.get? C=some (excClassObj nm q C N bs bm hdct sn sub ab col dd k0 k1 k2 k3 k5 newId) /\
   s₁.heap.get? e=some { cls:=.ref C,data:=.fields #[.ref t,.none,.none,.none,.bool false,.none] }/\(∃ oa va,s₁.heap.get? a=some oa/\oa.data = .fields va/\va[2]? = some .none) /\
   ∀ h',(∀ b,b≠e->h'.get? b=s₁.heap.get? b)->h'.get? e=some { cls:=.ref C,data:=.fields #[.ref t,.none,.ref a,.none,.bool true,.none] }->E (.ref e) { s₁ with heap:=h' }) E s) :
  wpAny (model prog w) A (raiseStmt env (some x) (some c)) Q E s:=by
 have hcB : (Value.ref C :: bm).contains (.type "BaseException") = true := by rw [List.contains_cons, hbase, Bool.or_true]
 unfold raiseStmt
 refine wpAny_bind (wpAny_mono h (fun v s₁ h₁=>?_) fun _ _ x=>x)
 obtain⟨e,t,rfl,hne,hC,he,⟨oa,va,hoa,hda,h2a⟩,hE⟩:=h₁
 obtain⟨hp,g,d,tk,os⟩:=s₁
 refine wpAny_bind (wpAny_holding (hc _ _ ?_))
 repeat (first | with_reducible refine wpAny_loadPart_at he ?_ | with_reducible refine wpAny_loadPart_at hC ?_ | (with_reducible refine wpAny_isSubtype_exc hC ?_; rw [hcB]) | wp_step)
 have hCe:C≠e:=fun z=>by
  subst z
  rw [hC] at he
  cases he
 have e1:=Heap.get?_update_self (Obj.mapFields (·.setIfInBounds 3 Value.none)) he (Obj.isFreed_of_fields (Obj.data_mapFields rfl _))
 have e2:=Heap.get?_update_self (Obj.mapFields (·.setIfInBounds 4 (Value.bool true))) e1 (Obj.isFreed_of_fields (Obj.data_mapFields rfl _))
 have oth:∀ b,b≠e->((hp.update e (Obj.mapFields (·.setIfInBounds 3 Value.none))).update e (Obj.mapFields (·.setIfInBounds 4 (Value.bool true)))).get? b=hp.get? b:=fun b hb=>(Heap.get?_update_other _ _ (Ne.symm hb)).trans (Heap.get?_update_other _ _ (Ne.symm hb))
 generalize (hp.update e (Obj.mapFields (·.setIfInBounds 3 Value.none))).update e (Obj.mapFields (·.setIfInBounds 4 (Value.bool true)))=h2 at *
 have hC2:=(oth C hCe).trans hC
 have e2':h2.get? e=some { cls:=.ref C,data:=.fields #[.ref t,.none,.none,.none,.bool true,.none] }:=e2
 refine wpAny_loadPart_at hC2 (wpAny_pure ?_)
 refine wpAny_pure ?_
 refine wpAny_bind ?_
 unfold setFlight
 refine wpAny_bind (wpAny_field (x:=Value.none) e2' rfl rfl ?_)
 rw [if_neg (show ¬ ((Value.none != Value.none)=true) from by simp)]
 refine wpAny_pure ?_
 unfold raiseNew
 refine wpAny_bind (wpAny_handled ?_)
 rw [hh]
 have hab:(Value.ref a != Value.ref e)=true:=by
  simp only [bne_iff_ne,ne_eq,Value.ref.injEq]
  exact hne
 dsimp only
 rw [if_pos hab]
 have h2a':=(oth a hne).trans hoa
 refine wpAny_bind (wpAny_holding (g6q (s:=⟨h2,g,d,tk,os⟩) h2a' hda h2a ?_))
 refine wpAny_bind (wpAny_setField (s:=⟨h2,g,d,tk,os⟩) (i:=2) e2' rfl (by simp) ?_)
 have e3:=Heap.get?_update_self (Obj.mapFields (·.setIfInBounds 2 (Value.ref a))) e2' (Obj.isFreed_of_fields (Obj.data_mapFields rfl _))
 exact wpAny_throw (hE _ (fun b hb=>(Heap.get?_update_other _ _ (Ne.symm hb)).trans (oth b hb)) e3)
end
def h0a(K:PySem.W.Frag)(D C:Addr)(tb:XK->TS)(E:XK):TS:=fun Dn σ H=>tb (fun Cv _ H'=>∃ c,Cv = .ref c/\PySem.W.subIn K (.ref c) (.ref D)=some true/\E (.ref C) none H') Dn σ H
section
variable {X:Cx}{D C:Addr}{dn cn:Str}{st:Stmt}{tb:XK->TS}{E:XK}{z:Str}{j j':Nat}{np hpos pos rpos cpos npos zpos kpos:Pos}
theorem g2w(hP:f6i X E)(hb:∀ E,j1d X st (tb E) E)(O:Exc X.K C)(hkC:PySem.W.keepIn X.K (.ref C)=true)(hgC:Gl X cn)(hmC:X.mg cn=some (.ref C))(hg:Gl X dn)(hm:X.mg dn=some (.ref D))(ZD:d3t X.K D)
  (hst : X.stack = X.env :: X.outer := by rfl) (hfr : X.env.frame = some X.env.locals := by rfl) (hex : X.ex = [] := by rfl) (hdb : (dn == ("__debug__" : Str)) = false := by decide) (hdc : (cn == ("__debug__" : Str)) = false := by decide) :
  PS X (.Try [st] [.ExceptHandler (some (.Name dn np)) none [.Raise (some (.Call (.Name cn npos) [.Constant (.str z) j zpos] [] cpos)) (some (.Constant .none j' kpos)) rpos] hpos] [] [] pos) (h0a X.K D C tb E):=by
 intro pins s σ H Dn I h
 refine wpAny_Try_except (wpAny_execs_cons (wpAny_mono (hb _ pins s σ H Dn I h) (fun f s1 q=>?_) fun e s1 q=>?_))
 ·cases f with
  | next=>exact wpAny_execs_nil (wpAny_execs_nil q)
  | ret v=>exact q
  | brk=>exact q
  | cont=>exact q
 ·obtain⟨H1,s0,I1,a,Cv,a0,B,H',rfl,fl,os,bare,un,hn0,nw,dx,cx,kd,hcx,c,rfl,hsub,hE⟩:=q
  obtain rfl:=hcx rfl
  have hA:X.A.frames=some (X.env :: X.outer):=by rw [<- hst]; exact I1.ok.frames
  rw [hst] at fl
  refine d9q hA hfr fl kd fun h4 hd4 sm4 kd4=>h6e hd4 kd4 fun h5 fl5 sm5 kd5=>?_
  have u5:=un h5 fl5.1 (sm4.trans sm5)
  have I5:Inv X pins σ H' { s1 with heap:=h5,toks:=s1.toks }:=I1.caught os bare u5.1 u5.2
  obtain⟨ob,hob,hcl⟩:=fl5.there
  refine wpAny_handleBy_cons (codeAny_handlers_test ?_) (by intro q; cases q)
  refine c5i (X:=X.held a) (s:={ s1 with heap:=h5 }) (I5.held a) hg hm ?_ hdb
  refine d9r (s:={ s1 with heap:=h5 }) I5.kIn ZD hob hcl hsub ?_
  refine codeAny_handlers_suite (h6f fl5 kd5 fun h6 fl6 sm6 kd6=>?_)
  have u6:=un h6 fl6.1 ((sm4.trans sm5).trans sm6)
  have I6:Inv X pins σ H' { s1 with heap:=h6,toks:=s1.toks }:=I1.caught os bare u6.1 u6.2
  obtain⟨oa,va,hoa,hcla,hda,_⟩:=fl6.first
  have h2a:va[2]? = some .none:=by
   obtain⟨o,q1,_,q2⟩:=kd6
   rw [hoa] at q1
   cases q1
   unfold h8m at q2
   rw [hda] at q2
   exact q2
  obtain⟨bm,N,nm,qn,bs,hdct,sn,sub,ab,col,dd,k0,k1,k2,k3,k5,mN,hC,hN,hni,T⟩:=g9h (h:=h6) I6.kIn O.ok
  refine wpAny_execs_cons ?_
  rw [arm_exec_Raise]
  refine wpAny_bind (wpAny_standAt (g2v (a := a) (C := C) (nm := nm) (q := qn) (N := N) (bs := bs) (bm := bm) (hdct := hdct) (sn := sn) (sub := sub) (ab := ab) (col := col) (dd := dd) (k0 := k0) (k1 := k1) (k2 := k2) (k3 := k3) (k5 := k5) (newId := "ValueError.__new__") (T.hasType PySem.F.excBase_ValueError.hasBase) rfl (fun Q' s' q => wpAny_bind (Constant_none (wpAny_bind (wpAny_standAt (wpAny_pure q))))) (wpAny_bind ?_)))
  refine wpAny_mono (Q:=fun v s2=>∃ e h7 tk,v = .ref e/\s2 = { s1 with heap:=h7,toks:=tk }/\∃ args,Heap.MadeExcOf h6 h7 e (.ref C) args) (E:=fun _ _=>False) ?_ (fun v s2 q=>wpAny_bind (wpAny_standAt (wpAny_pure ?_))) fun _ _ z=>False.elim z
  ·refine wpAny_Call_Name_kw (c5i (X:=X.held a) (I6.held a) hgC hmC ?_ hdc)
   refine PySem.W.callWith_K (h₀:=X.base) I.ok.mod.kin hkC (Calls.spliced_cons (Calls.Constant_str (k:=j) (pos:=zpos) (Calls.spliced_nil ⟨I6.kIn,?_⟩))) rfl rfl
   exact wpAny_call_exc_subT (hrest:=by show 1<=sizeLine; rw [sizeLine_eq]; decide) PySem.F.excBase_ValueError T hC hN hni fun h' e hm=>⟨e,h',_,rfl,rfl,_,hm⟩
  ·obtain⟨e,h7,tk,rfl,rfl,args,hx⟩:=q
   obtain⟨t,he,_,_⟩:=hx.there
   have hne:a≠e:=fun z=>by rw [z,hx.new] at hoa; cases hoa
   refine⟨e,t,rfl,hne,hx.keeps _ _ hC,he,⟨oa,va,hx.keeps _ _ hoa,hda,h2a⟩,fun h8 oth e8=>?_⟩
   have up8:h7.UpToSlots h8:=fun b o q nf=>⟨o.slots,(oth b fun z=>by
    rw [z,he] at q
    cases q
    exact nf _ rfl).trans q⟩
   have k8:∀ b o,h6.get? b=some o->h8.get? b=some o:=fun b o q=>(oth b fun z=>by rw [z,hx.new] at q; cases q).trans (hx.keeps b o q)
   have hin:∀ env∈X.stack,∀ b,env.frame=some b->b∈frs X.stack:=fun env he b hb=>List.mem_filterMap.mpr ⟨env,he,hb⟩
   have hkb:(PySem.W.hideAll h6 (frs X.stack)).StaysIn h8:=fun b o q=>k8 b o (PySem.W.of_hideAll _ q)
   have hno:(PySem.W.hideAll h6 (frs X.stack)).get? e=none:=by
    cases q:(PySem.W.hideAll h6 (frs X.stack)).get? e with
    | none=>rfl
    | some o=>have z:=PySem.W.of_hideAll _ q; rw [hx.new] at z; cases z
   have ff:h8.FunFrames (PySem.W.hideAll h6 (frs X.stack)) X.stack:=(PySem.W.funFrames_hide I6.stack hin).of_keeps fun b o hb _=>⟨o,k8 b o hb,rfl⟩
   have kd8:Kd e (none,some (.ref a)) h8:=⟨_,e8,rfl,rfl⟩
   have hAm:(X.A.mark (some (.ref a))).frames=some (X.env :: X.outer):=hA
   show wpAny _ _ (noteFrame (.ref e) X.env) _ _ _
   refine wpAny_mono (d9p.any (e:=e) (d:=(none,some (.ref a))) (E:=fun _ _=>False) (Q:=fun _ s'=>∃ h9,s' = { s1 with heap:=h9,toks:=tk }/\Heap.NotedW (PySem.W.hideAll h6 (frs X.stack)) (X.env :: X.outer) e (.ref C) (.ref t) (rawInt X.env.locals) h8 h9) ?_ kd8) (fun _ s' z=>?_) fun _ _ z=>z.1.elim
   ·unfold noteFrame
    simp only [hfr]
    refine wpAny_bind (wpAny_field (x:=.none) e8 rfl rfl ?_)
    rw [if_neg (show ¬ ((Value.none != Value.none)=true) from by simp)]
    exact wpAny_entryW hAm (by rw [<- hst]; exact ff) hfr e8 hkb hno rfl (by simp) rfl fun h' n=>⟨h',rfl,n⟩
   ·obtain⟨⟨h9,rfl,n1,n2,⟨oe,vs,T9,oT,ts,he9,⟨hc9,h09⟩,hd9,h19,hnT,hTe,hT,hdT,h3⟩,n4⟩,kd9⟩:=z
    have z3:3 < ts.size:=(Array.getElem?_eq_some_iff.mp h3).1
    show wpAny _ _ _ _ _ _
    refine wpAny_bind (wpAny_field he9 hd9 h19 ?_)
    rw [if_neg (show ¬ ((Value.ref T9 == Value.none)=true) from by simp)]
    have i6s:∀ (x:Value) (b:Addr),b≠T9->(h9.update T9 (Obj.mapFields (·.setIfInBounds 3 x))).get? b=h9.get? b:=fun x b hb=>Heap.get?_update_other _ _ (Ne.symm hb)
    have h6s:∀ b o,h9.get? b=some o->(∀ vs,o.data≠.fields vs)->b≠T9:=fun b o hb hnf q=>by
     rw [q,hT] at hb
     cases hb
     exact hnf ts hdT
    refine wpAny_mono (d9v.any (E:=fun _ _=>False) (Q:=fun _ s'=>∃ h10,s' = { s1 with heap:=h10,toks:=tk }/\g2p (PySem.W.hideAll h6 (frs X.stack)) X.stack e (.ref C) (.ref t) h10/\h9.UpToSlots h10) ?_ kd9) (fun _ s' z=>?_) fun _ _ z=>z.1.elim
    ·unfold setFlight
     refine wpAny_bind (wpAny_field he9 hd9 h19 ?_)
     rw [if_pos (show (Value.ref T9 != Value.none)=true from by simp)]
     rw [<- hst] at n2
     exact wpAny_setField hT hdT z3 ⟨_,rfl,⟨fun b o hbo=>(i6s _ b fun q=>by rw [q,hnT] at hbo; cases hbo).trans (n1 b o hbo),hno,n2.of_keeps fun b o hb hnf=>⟨o,(i6s _ b (h6s b o hb hnf)).trans hb,rfl⟩,(X.env.frame.elim Value.none fun f=>rawInt f),oe,vs,T9,_,_,(i6s _ e (Ne.symm hTe)).trans he9,⟨hc9,h09⟩,hd9,h19,hnT,hTe,Heap.get?_update_self _ hT (Obj.isFreed_of_fields (Obj.data_mapFields hdT _)),Obj.data_mapFields hdT _,by simp [z3]⟩,fun b o hb hnf=>⟨o.slots,(i6s _ b (h6s b o hb hnf)).trans hb⟩⟩
    ·obtain⟨⟨h10,rfl,HA,u10⟩,kd10⟩:=z
     refine hP pins σ e (.ref C) (.ref t) _ H' _ HA (fun h' b' u'=>?_) (f9w I6 hx) ?_ ⟨none,_,kd10,hE⟩
     ·have y:=g9g I6 hx b' (((up8.trans n4).trans u10).trans u')
      exact I6.caught (s':={ s1 with heap:=h',toks:=tk }) rfl bare y.1 y.2
     ·exact I6.older hex hx.new
end
end L2
set_option maxHeartbeats 4000000
namespace My
open PySem PySem.Spec PyProof.Rows L2
open PySem.Builtin.Int (intBits)
theorem h6t{P:Int->Prop}{vs:List V}(h:match vs with | [.int x0]=>P x0 | _=>False):∃ x0,vs = [.int x0]/\P x0:=by
 obtain _ | ⟨y0,vs⟩:=vs
 ·exact False.elim h
 cases y0 <;> first | exact False.elim h | skip
 obtain _ | ⟨y,vs⟩:=vs
 ·exact⟨_,rfl,h⟩
 ·exact False.elim h
theorem h4h{P:Int->Int->Prop}{vs:List V}(h:match vs with | [.int x0,.int x1]=>P x0 x1 | _=>False):∃ x0 x1,vs = [.int x0,.int x1]/\P x0 x1:=by
 obtain _ | ⟨y0,vs⟩:=vs
 ·exact False.elim h
 cases y0 <;> first | exact False.elim h | skip
 obtain _ | ⟨y1,vs⟩:=vs
 ·exact False.elim h
 cases y1 <;> first | exact False.elim h | skip
 obtain _ | ⟨y,vs⟩:=vs
 ·exact⟨_,_,rfl,h⟩
 ·exact False.elim h
theorem c8u{P:Addr->Prop}{vs:List V}(h:match vs with | [.ref x0]=>P x0 | _=>False):∃ x0,vs = [.ref x0]/\P x0:=by
 obtain _ | ⟨y0,vs⟩:=vs
 ·exact False.elim h
 cases y0 <;> first | exact False.elim h | skip
 obtain _ | ⟨y,vs⟩:=vs
 ·exact⟨_,rfl,h⟩
 ·exact False.elim h
theorem f2q{P:Addr->Int->Prop}{vs:List V}(h:match vs with | [.ref x0,.int x1]=>P x0 x1 | _=>False):∃ x0 x1,vs = [.ref x0,.int x1]/\P x0 x1:=by
 obtain _ | ⟨y0,vs⟩:=vs
 ·exact False.elim h
 cases y0 <;> first | exact False.elim h | skip
 obtain _ | ⟨y1,vs⟩:=vs
 ·exact False.elim h
 cases y1 <;> first | exact False.elim h | skip
 obtain _ | ⟨y,vs⟩:=vs
 ·exact⟨_,_,rfl,h⟩
 ·exact False.elim h
theorem h4i{P:Addr->Addr->Prop}{vs:List V}(h:match vs with | [.ref x0,.ref x1]=>P x0 x1 | _=>False):∃ x0 x1,vs = [.ref x0,.ref x1]/\P x0 x1:=by
 obtain _ | ⟨y0,vs⟩:=vs
 ·exact False.elim h
 cases y0 <;> first | exact False.elim h | skip
 obtain _ | ⟨y1,vs⟩:=vs
 ·exact False.elim h
 cases y1 <;> first | exact False.elim h | skip
 obtain _ | ⟨y,vs⟩:=vs
 ·exact⟨_,_,rfl,h⟩
 ·exact False.elim h
theorem h6u{P:Addr->Addr->Int->Prop}{vs:List V}(h:match vs with | [.ref x0,.ref x1,.int x2]=>P x0 x1 x2 | _=>False):∃ x0 x1 x2,vs = [.ref x0,.ref x1,.int x2]/\P x0 x1 x2:=by
 obtain _ | ⟨y0,vs⟩:=vs
 ·exact False.elim h
 cases y0 <;> first | exact False.elim h | skip
 obtain _ | ⟨y1,vs⟩:=vs
 ·exact False.elim h
 cases y1 <;> first | exact False.elim h | skip
 obtain _ | ⟨y2,vs⟩:=vs
 ·exact False.elim h
 cases y2 <;> first | exact False.elim h | skip
 obtain _ | ⟨y,vs⟩:=vs
 ·exact⟨_,_,_,rfl,h⟩
 ·exact False.elim h
theorem g6r{P:Addr->Str->Prop}{vs:List V}(h:match vs with | [.ref x0,.str x1]=>P x0 x1 | _=>False):∃ x0 x1,vs = [.ref x0,.str x1]/\P x0 x1:=by
 obtain _ | ⟨y0,vs⟩:=vs
 ·exact False.elim h
 cases y0 <;> first | exact False.elim h | skip
 obtain _ | ⟨y1,vs⟩:=vs
 ·exact False.elim h
 cases y1 <;> first | exact False.elim h | skip
 obtain _ | ⟨y,vs⟩:=vs
 ·exact⟨_,_,rfl,h⟩
 ·exact False.elim h
theorem h6v{P:Addr->Str->Int->Prop}{vs:List V}(h:match vs with | [.ref x0,.str x1,.int x2]=>P x0 x1 x2 | _=>False):∃ x0 x1 x2,vs = [.ref x0,.str x1,.int x2]/\P x0 x1 x2:=by
 obtain _ | ⟨y0,vs⟩:=vs
 ·exact False.elim h
 cases y0 <;> first | exact False.elim h | skip
 obtain _ | ⟨y1,vs⟩:=vs
 ·exact False.elim h
 cases y1 <;> first | exact False.elim h | skip
 obtain _ | ⟨y2,vs⟩:=vs
 ·exact False.elim h
 cases y2 <;> first | exact False.elim h | skip
 obtain _ | ⟨y,vs⟩:=vs
 ·exact⟨_,_,_,rfl,h⟩
 ·exact False.elim h
theorem h6w{P:Addr->Str->Str->Prop}{vs:List V}(h:match vs with | [.ref x0,.str x1,.str x2]=>P x0 x1 x2 | _=>False):∃ x0 x1 x2,vs = [.ref x0,.str x1,.str x2]/\P x0 x1 x2:=by
 obtain _ | ⟨y0,vs⟩:=vs
 ·exact False.elim h
 cases y0 <;> first | exact False.elim h | skip
 obtain _ | ⟨y1,vs⟩:=vs
 ·exact False.elim h
 cases y1 <;> first | exact False.elim h | skip
 obtain _ | ⟨y2,vs⟩:=vs
 ·exact False.elim h
 cases y2 <;> first | exact False.elim h | skip
 obtain _ | ⟨y,vs⟩:=vs
 ·exact⟨_,_,_,rfl,h⟩
 ·exact False.elim h
theorem h0b{P:Addr->Str->Str->Addr->Prop}{vs:List V}(h:match vs with | [.ref x0,.str x1,.str x2,.ref x3]=>P x0 x1 x2 x3 | _=>False):∃ x0 x1 x2 x3,vs = [.ref x0,.str x1,.str x2,.ref x3]/\P x0 x1 x2 x3:=by
 obtain _ | ⟨y0,vs⟩:=vs
 ·exact False.elim h
 cases y0 <;> first | exact False.elim h | skip
 obtain _ | ⟨y1,vs⟩:=vs
 ·exact False.elim h
 cases y1 <;> first | exact False.elim h | skip
 obtain _ | ⟨y2,vs⟩:=vs
 ·exact False.elim h
 cases y2 <;> first | exact False.elim h | skip
 obtain _ | ⟨y3,vs⟩:=vs
 ·exact False.elim h
 cases y3 <;> first | exact False.elim h | skip
 obtain _ | ⟨y,vs⟩:=vs
 ·exact⟨_,_,_,_,rfl,h⟩
 ·exact False.elim h
theorem g5o{P:Addr->Str->V->V->V->Prop}{vs:List V}(h:match vs with | [.ref x0,.str x1,x2,x3,x4]=>P x0 x1 x2 x3 x4 | _=>False):∃ x0 x1 x2 x3 x4,vs = [.ref x0,.str x1,x2,x3,x4]/\P x0 x1 x2 x3 x4:=by
 obtain _ | ⟨y0,vs⟩:=vs
 ·exact False.elim h
 cases y0 <;> first | exact False.elim h | skip
 obtain _ | ⟨y1,vs⟩:=vs
 ·exact False.elim h
 cases y1 <;> first | exact False.elim h | skip
 obtain _ | ⟨y2,vs⟩:=vs
 ·exact False.elim h
 obtain _ | ⟨y3,vs⟩:=vs
 ·exact False.elim h
 obtain _ | ⟨y4,vs⟩:=vs
 ·exact False.elim h
 obtain _ | ⟨y,vs⟩:=vs
 ·exact⟨_,_,_,_,_,rfl,h⟩
 ·exact False.elim h
theorem f2r{P:Addr->V->Prop}{vs:List V}(h:match vs with | [.ref x0,x1]=>P x0 x1 | _=>False):∃ x0 x1,vs = [.ref x0,x1]/\P x0 x1:=by
 obtain _ | ⟨y0,vs⟩:=vs
 ·exact False.elim h
 cases y0 <;> first | exact False.elim h | skip
 obtain _ | ⟨y1,vs⟩:=vs
 ·exact False.elim h
 obtain _ | ⟨y,vs⟩:=vs
 ·exact⟨_,_,rfl,h⟩
 ·exact False.elim h
theorem h6x{P:Addr->V->V->Prop}{vs:List V}(h:match vs with | [.ref x0,x1,x2]=>P x0 x1 x2 | _=>False):∃ x0 x1 x2,vs = [.ref x0,x1,x2]/\P x0 x1 x2:=by
 obtain _ | ⟨y0,vs⟩:=vs
 ·exact False.elim h
 cases y0 <;> first | exact False.elim h | skip
 obtain _ | ⟨y1,vs⟩:=vs
 ·exact False.elim h
 obtain _ | ⟨y2,vs⟩:=vs
 ·exact False.elim h
 obtain _ | ⟨y,vs⟩:=vs
 ·exact⟨_,_,_,rfl,h⟩
 ·exact False.elim h
theorem h0c{P:Addr->V->V->V->Prop}{vs:List V}(h:match vs with | [.ref x0,x1,x2,x3]=>P x0 x1 x2 x3 | _=>False):∃ x0 x1 x2 x3,vs = [.ref x0,x1,x2,x3]/\P x0 x1 x2 x3:=by
 obtain _ | ⟨y0,vs⟩:=vs
 ·exact False.elim h
 cases y0 <;> first | exact False.elim h | skip
 obtain _ | ⟨y1,vs⟩:=vs
 ·exact False.elim h
 obtain _ | ⟨y2,vs⟩:=vs
 ·exact False.elim h
 obtain _ | ⟨y3,vs⟩:=vs
 ·exact False.elim h
 obtain _ | ⟨y,vs⟩:=vs
 ·exact⟨_,_,_,_,rfl,h⟩
 ·exact False.elim h
theorem g7p{P:Str->Prop}{vs:List V}(h:match vs with | [.str x0]=>P x0 | _=>False):∃ x0,vs = [.str x0]/\P x0:=by
 obtain _ | ⟨y0,vs⟩:=vs
 ·exact False.elim h
 cases y0 <;> first | exact False.elim h | skip
 obtain _ | ⟨y,vs⟩:=vs
 ·exact⟨_,rfl,h⟩
 ·exact False.elim h
theorem i5a{P:Str->Int->Prop}{vs:List V}(h:match vs with | [.str x0,.int x1]=>P x0 x1 | _=>False):∃ x0 x1,vs = [.str x0,.int x1]/\P x0 x1:=by
 obtain _ | ⟨y0,vs⟩:=vs
 ·exact False.elim h
 cases y0 <;> first | exact False.elim h | skip
 obtain _ | ⟨y1,vs⟩:=vs
 ·exact False.elim h
 cases y1 <;> first | exact False.elim h | skip
 obtain _ | ⟨y,vs⟩:=vs
 ·exact⟨_,_,rfl,h⟩
 ·exact False.elim h
theorem h6y{P:Str->Int->Int->Prop}{vs:List V}(h:match vs with | [.str x0,.int x1,.int x2]=>P x0 x1 x2 | _=>False):∃ x0 x1 x2,vs = [.str x0,.int x1,.int x2]/\P x0 x1 x2:=by
 obtain _ | ⟨y0,vs⟩:=vs
 ·exact False.elim h
 cases y0 <;> first | exact False.elim h | skip
 obtain _ | ⟨y1,vs⟩:=vs
 ·exact False.elim h
 cases y1 <;> first | exact False.elim h | skip
 obtain _ | ⟨y2,vs⟩:=vs
 ·exact False.elim h
 cases y2 <;> first | exact False.elim h | skip
 obtain _ | ⟨y,vs⟩:=vs
 ·exact⟨_,_,_,rfl,h⟩
 ·exact False.elim h
theorem g7q{P:V->Prop}{vs:List V}(h:match vs with | [x0]=>P x0 | _=>False):∃ x0,vs = [x0]/\P x0:=by
 obtain _ | ⟨y0,vs⟩:=vs
 ·exact False.elim h
 obtain _ | ⟨y,vs⟩:=vs
 ·exact⟨_,rfl,h⟩
 ·exact False.elim h
noncomputable def top(i:Nat):Stmt:=PySem.Challenge.pw_mixbench_k52_refused_of_patches.main.body.getD i (.Pass ⟨0,0,0,0⟩)
noncomputable abbrev f4r:Stmt:=(top 16)
noncomputable abbrev d6z:Stmt:=(top 17)
noncomputable abbrev f4s:Stmt:=(top 18)
noncomputable abbrev g0j:Stmt:=(top 21)
noncomputable abbrev f4t:Stmt:=(top 23)
noncomputable abbrev c9k:Stmt:=(top 28)
noncomputable abbrev c9l:Stmt:=(top 29)
noncomputable abbrev d7g:Stmt:=(inClass (top 31) 1)
noncomputable abbrev d9w:Stmt:=(inClass (top 32) 0)
noncomputable abbrev d9y:Stmt:=(inClass (top 32) 4)
noncomputable abbrev d7h:Stmt:=(inClass (top 33) 0)
noncomputable abbrev d7i:Stmt:=(inClass (top 33) 3)
noncomputable abbrev d9z:Stmt:=(top 52)
noncomputable abbrev d4g:Stmt:=(top 53)
noncomputable abbrev d4h:Stmt:=(top 55)
noncomputable abbrev g0k:Stmt:=(top 56)
noncomputable abbrev f4u:Stmt:=(top 57)
noncomputable abbrev g0l:Stmt:=(top 58)
noncomputable abbrev g0m:Stmt:=(top 64)
noncomputable abbrev d1h:Stmt:=(top 67)
noncomputable abbrev c9m:Stmt:=(inClass (top 68) 0)
noncomputable abbrev c7p:Stmt:=(inClass (top 68) 5)
noncomputable abbrev d1t:Stmt:=(inClass (top 71) 0)
noncomputable abbrev d4i:Stmt:=(top 75)
noncomputable abbrev d7j:Stmt:=(inClass (top 76) 0)
noncomputable abbrev c6v:Stmt:=(inClass (top 76) 1)
noncomputable abbrev d4j:Stmt:=(inClass (top 76) 2)
noncomputable abbrev f0g:Stmt:=(inClass (top 76) 3)
noncomputable abbrev d7k:Stmt:=(inClass (top 76) 4)
noncomputable abbrev f0h:Stmt:=(inClass (top 76) 5)
noncomputable abbrev c7q:Stmt:=(inClass (top 76) 6)
noncomputable abbrev d1u:Stmt:=(inClass (top 76) 7)
noncomputable abbrev d4k:Stmt:=(inClass (top 76) 8)
noncomputable abbrev c7r:Stmt:=(inClass (top 76) 9)
noncomputable abbrev d7l:Stmt:=(inClass (top 76) 10)
noncomputable abbrev d4l:Stmt:=(top 78)
noncomputable abbrev d2n:Stmt:=(top 79)
noncomputable abbrev f0i:Stmt:=(top 80)
noncomputable abbrev f4v:Stmt:=(top 81)
noncomputable abbrev d5o:Stmt:=(top 82)
noncomputable abbrev d4m:Stmt:=(top 83)
noncomputable abbrev d1v:Stmt:=(top 84)
noncomputable abbrev c6w:Stmt:=(top 85)
noncomputable abbrev f0j:Stmt:=(top 86)
noncomputable abbrev i5b:Stmt:=(top 87)
theorem f0k : a1w ["value"] ["value"] (a0q f4r) := ⟨rfl, rfl, rfl, by decide +kernel, rfl, by decide +kernel, by decide +kernel⟩
theorem d4n : a1w ["text", "sign"] ["text"] (a0q d6z) := ⟨rfl, rfl, rfl, by decide +kernel, rfl, by decide +kernel, by decide +kernel⟩
theorem g2x : a1w ["text"] ["text"] (a0q f4s) := ⟨rfl, rfl, rfl, by decide +kernel, rfl, by decide +kernel, by decide +kernel⟩
theorem c1s : a1w ["one", "other", "left", "right", "rest"] ["one", "other"] (a0q g0j) := ⟨rfl, rfl, rfl, by decide +kernel, rfl, by decide +kernel, by decide +kernel⟩
theorem d2o : a1w ["top", "bottom", "by"] ["top", "bottom"] (a0q f4t) := ⟨rfl, rfl, rfl, by decide +kernel, rfl, by decide +kernel, by decide +kernel⟩
theorem a8k : a1w ["one", "top", "bottom"] ["one"] (a0q c9k) := ⟨rfl, rfl, rfl, by decide +kernel, rfl, by decide +kernel, by decide +kernel⟩
theorem a4s : a1w ["text", "halves", "top", "number", "one"] ["text"] (a0q c9l) := ⟨rfl, rfl, rfl, by decide +kernel, rfl, by decide +kernel, by decide +kernel⟩
theorem f6k : a1w ["self"] ["self"] (a0q d7g) := ⟨rfl, rfl, rfl, by decide +kernel, rfl, by decide +kernel, by decide +kernel⟩
theorem g0n : a1w ["self", "gain"] ["self", "gain"] (a0q d9w) := ⟨rfl, rfl, rfl, by decide +kernel, rfl, by decide +kernel, by decide +kernel⟩
theorem d7m : a1w ["self", "gain"] ["self"] (a0q d9y) := ⟨rfl, rfl, rfl, by decide +kernel, rfl, by decide +kernel, by decide +kernel⟩
theorem f6l : a1w ["self", "many"] ["self", "many"] (a0q d7h) := ⟨rfl, rfl, rfl, by decide +kernel, rfl, by decide +kernel, by decide +kernel⟩
theorem d4o : a1w ["self", "many"] ["self"] (a0q d7i) := ⟨rfl, rfl, rfl, by decide +kernel, rfl, by decide +kernel, by decide +kernel⟩
theorem c4o : a1w ["text", "gain"] ["text"] (a0q d9z) := ⟨rfl, rfl, rfl, by decide +kernel, rfl, by decide +kernel, by decide +kernel⟩
theorem d1w : a1w ["text", "least", "most", "number"] ["text", "least", "most"] (a0q d4g) := ⟨rfl, rfl, rfl, by decide +kernel, rfl, by decide +kernel, by decide +kernel⟩
theorem d1y : a1w ["values", "count"] ["values", "count"] (a0q d4h) := ⟨rfl, rfl, rfl, by decide +kernel, rfl, by decide +kernel, by decide +kernel⟩
theorem f4w : a1w ["values"] ["values"] (a0q g0k) := ⟨rfl, rfl, rfl, by decide +kernel, rfl, by decide +kernel, by decide +kernel⟩
theorem g2y : a1w ["values"] ["values"] (a0q f4u) := ⟨rfl, rfl, rfl, by decide +kernel, rfl, by decide +kernel, by decide +kernel⟩
theorem g6s : a1w ["values"] ["values"] (a0q g0l) := ⟨rfl, rfl, rfl, by decide +kernel, rfl, by decide +kernel, by decide +kernel⟩
theorem d1i : a1w ["word", "values"] ["word"] (a0q g0m) := ⟨rfl, rfl, rfl, by decide +kernel, rfl, by decide +kernel, by decide +kernel⟩
theorem f0l : a1w ["words"] ["words"] (a0q d1h) := ⟨rfl, rfl, rfl, by decide +kernel, rfl, by decide +kernel, by decide +kernel⟩
theorem d4p : a1w ["self", "words"] ["self", "words"] (a0q c9m) := ⟨rfl, rfl, rfl, by decide +kernel, rfl, by decide +kernel, by decide +kernel⟩
theorem f2s : a1w ["self"] ["self"] (a0q c7p) := ⟨rfl, rfl, rfl, by decide +kernel, rfl, by decide +kernel, by decide +kernel⟩
theorem c9n : a1w ["self", "greatest"] ["self", "greatest"] (a0q d1t) := ⟨rfl, rfl, rfl, by decide +kernel, rfl, by decide +kernel, by decide +kernel⟩
theorem f4y : a1w ["value"] ["value"] (a0q d4i) := ⟨rfl, rfl, rfl, by decide +kernel, rfl, by decide +kernel, by decide +kernel⟩
theorem f6m : a1w ["self"] ["self"] (a0q d7j) := ⟨rfl, rfl, rfl, by decide +kernel, rfl, by decide +kernel, by decide +kernel⟩
theorem c4p : a1w ["self", "name"] ["self", "name"] (a0q c6v) := ⟨rfl, rfl, rfl, by decide +kernel, rfl, by decide +kernel, by decide +kernel⟩
theorem d1z : a1w ["self", "name"] ["self", "name"] (a0q d4j) := ⟨rfl, rfl, rfl, by decide +kernel, rfl, by decide +kernel, by decide +kernel⟩
theorem d7n : a1w ["self", "name"] ["self", "name"] (a0q f0g) := ⟨rfl, rfl, rfl, by decide +kernel, rfl, by decide +kernel, by decide +kernel⟩
theorem b6j : a1w ["self", "source", "bus", "words", "chain", "ring"] ["self", "source", "bus", "words"] (a0q d7k) := ⟨rfl, rfl, rfl, by decide +kernel, rfl, by decide +kernel, by decide +kernel⟩
theorem b9n : a1w ["self", "start", "end", "ways", "waiting", "source", "send"] ["self", "start", "end"] (a0q f0h) := ⟨rfl, rfl, rfl, by decide +kernel, rfl, by decide +kernel, by decide +kernel⟩
theorem c4q : a1w ["self", "bus", "greatest", "settler"] ["self", "bus", "greatest"] (a0q c7q) := ⟨rfl, rfl, rfl, by decide +kernel, rfl, by decide +kernel, by decide +kernel⟩
theorem f0m : a1w ["self"] ["self"] (a0q d1u) := ⟨rfl, rfl, rfl, by decide +kernel, rfl, by decide +kernel, by decide +kernel⟩
theorem f2t : a1w ["self"] ["self"] (a0q d4k) := ⟨rfl, rfl, rfl, by decide +kernel, rfl, by decide +kernel, by decide +kernel⟩
theorem f2u : a1w ["self"] ["self"] (a0q c7r) := ⟨rfl, rfl, rfl, by decide +kernel, rfl, by decide +kernel, by decide +kernel⟩
theorem f6n : a1w ["self"] ["self"] (a0q d7l) := ⟨rfl, rfl, rfl, by decide +kernel, rfl, by decide +kernel, by decide +kernel⟩
theorem f2v : a1w ["_law_script", "_law_k"] ["_law_script", "_law_k"] (a0q d4l) := ⟨rfl, rfl, rfl, by decide +kernel, rfl, by decide +kernel, by decide +kernel⟩
theorem a7o : a1w ["_law_cell", "_law_letters", "_law_mixed", "_law_base", "_law_at", "_law_names_here", "_law_k", "_law_name", "_law_j"] ["_law_cell"] (a0q d2n) := ⟨rfl, rfl, rfl, by decide +kernel, rfl, by decide +kernel, by decide +kernel⟩
theorem d7o : a1w ["_law_names_here", "_law_patch_here"] ["_law_names_here"] (a0q f0i) := ⟨rfl, rfl, rfl, by decide +kernel, rfl, by decide +kernel, by decide +kernel⟩
theorem g2z : a1w ["_law_patch_here"] ["_law_patch_here"] (a0q f4v) := ⟨rfl, rfl, rfl, by decide +kernel, rfl, by decide +kernel, by decide +kernel⟩
theorem b4l : a1w ["_law_patch_here", "_law_way", "_law_one", "_law_two", "_law_three", "_law_found", "error", "_law_some"] ["_law_patch_here", "_law_way", "_law_one", "_law_two", "_law_three"] (a0q d5o) := ⟨rfl, rfl, rfl, by decide +kernel, rfl, by decide +kernel, by decide +kernel⟩
theorem d2g : a1w ["_law_name", "_law_pick", "_law_some"] ["_law_name", "_law_pick"] (a0q d4m) := ⟨rfl, rfl, rfl, by decide +kernel, rfl, by decide +kernel, by decide +kernel⟩
theorem c9o : a1w ["_law_pick", "_law_some"] ["_law_pick"] (a0q d1v) := ⟨rfl, rfl, rfl, by decide +kernel, rfl, by decide +kernel, by decide +kernel⟩
theorem d4q : a1w ["_law_pick"] ["_law_pick"] (a0q c6w) := ⟨rfl, rfl, rfl, by decide +kernel, rfl, by decide +kernel, by decide +kernel⟩
theorem c9p : a1w ["_law_patch_here", "_law_names_here", "_law_pick", "_law_odd", "_law_some"] ["_law_patch_here", "_law_names_here", "_law_pick"] (a0q f0j) := ⟨rfl, rfl, rfl, by decide +kernel, rfl, by decide +kernel, by decide +kernel⟩
theorem f4z : a1w ["_law_script", "_law_names_here", "_law_patch_here", "_law_before", "_law_cell", "_law_after"] ["_law_script"] (a0q i5b) := ⟨rfl, rfl, rfl, by decide +kernel, rfl, by decide +kernel, by decide +kernel⟩
set_option genInjectivity false in
structure Ad where
 b4z:Addr
 b4m:FuncData
 b1s:Addr
 b2n:FuncData
 b7m:Addr
 b7n:FuncData
 c2g:Addr
 c1t:FuncData
 b7o:Addr
 b7p:FuncData
 a6r:Addr
 a6z:FuncData
 a6s:Addr
 a7g:FuncData
 a9s:Addr
 b2o:FuncData
 b7q:Addr
 b5g:FuncData
 b7r:Addr
 b5h:FuncData
 b5i:Addr
 b2p:FuncData
 b5j:Addr
 b2q:FuncData
 b1t:Addr
 b1u:FuncData
 a9u:Addr
 b0l:FuncData
 a8q:Addr
 a8r:FuncData
 b6k:Addr
 b7s:FuncData
 b5k:Addr
 b7t:FuncData
 b9o:Addr
 c1u:FuncData
 b9p:Addr
 b7u:FuncData
 b5l:Addr
 b4n:FuncData
 b1v:Addr
 a9v:FuncData
 b2r:Addr
 b0m:FuncData
 a8s:Addr
 a7z:FuncData
 b9q:Addr
 b7v:FuncData
 b5m:Addr
 b2s:FuncData
 a5r:Addr
 a5n:FuncData
 a9w:Addr
 a8t:FuncData
 b4o:Addr
 b1w:FuncData
 b1y:Addr
 a9y:FuncData
 b7w:Addr
 b5n:FuncData
 b4p:Addr
 b1z:FuncData
 b0n:Addr
 a9o:FuncData
 b2t:Addr
 b0o:FuncData
 b2u:Addr
 b0p:FuncData
 b5o:Addr
 b2v:FuncData
 a9z:Addr
 b0q:FuncData
 b4q:Addr
 b5p:FuncData
 b4r:Addr
 b5q:FuncData
 b7y:Addr
 b7z:FuncData
 b8g:Addr
 b8h:FuncData
 b0g:Addr
 b0r:FuncData
 a8u:Addr
 a9p:FuncData
 a5s:Addr
 a6w:FuncData
 b4s:Addr
 b5r:FuncData
 g0o:Addr
 d7p:FuncData
 a0z:Addr
 a0p:Addr
 a0u:Addr
 a0r:Addr
 a0t:Addr
 a1h:Addr
 a1i:Addr
 a8g:Addr
 a2g:Addr
 a5j:Addr
 a3r:Addr
 f0n:Addr
 c4r:Addr
 b6l:Addr
 g0p:Addr
 b8i:Addr
 b2g:Addr
 a7j:Addr
 c6y:Value
 a5k:Value
 a5l:Value
 b8j:Value
 b8k:Value
 b5s:Value
 b5t:Value
 f5g:Value
 c6z:Value
 b0s:Value
 a5m:Addr
 wd:World
structure Ty(K:W.Frag)(A:Ad):Prop where
 d2p : W.nsIn K mainGlobals "MixError" = some (some (.ref A.a0z))
 d2q : W.nsIn K mainGlobals "NoNumber" = some (some (.ref A.a0p))
 f0o : W.nsIn K mainGlobals "NoText" = some (some (.ref A.a0u))
 f0p : W.nsIn K mainGlobals "NoPart" = some (some (.ref A.a0r))
 f0q : W.nsIn K mainGlobals "NoName" = some (some (.ref A.a0t))
 f6o : W.nsIn K mainGlobals "Twice" = some (some (.ref A.a1h))
 f6p : W.nsIn K mainGlobals "NoBus" = some (some (.ref A.a1i))
 g3a : W.nsIn K mainGlobals "Ring" = some (some (.ref A.a8g))
 d5p : W.nsIn K mainGlobals "NoBlock" = some (some (.ref A.a2g))
 f6q : W.nsIn K mainGlobals "NoRow" = some (some (.ref A.a5j))
 f0r : W.nsIn K mainGlobals "NoDeed" = some (some (.ref A.a3r))
 g3b : W.nsIn K mainGlobals "Part" = some (some (.ref A.f0n))
 g3c : W.nsIn K mainGlobals "Gain" = some (some (.ref A.c4r))
 f6r : W.nsIn K mainGlobals "Delay" = some (some (.ref A.b6l))
 g3d : W.nsIn K mainGlobals "Echo" = some (some (.ref A.g0p))
 f6s : W.nsIn K mainGlobals "Chain" = some (some (.ref A.b8i))
 d5q : W.nsIn K mainGlobals "Settler" = some (some (.ref A.b2g))
 f6t : W.nsIn K mainGlobals "Patch" = some (some (.ref A.a7j))
 d5r : W.nsIn K mainGlobals "is_whole" = some (some (.ref A.b4z))
 c9q : W.nsIn K mainGlobals "is_figures" = some (some (.ref A.b1s))
 d5s : W.nsIn K mainGlobals "whole_of" = some (some (.ref A.b7m))
 f0s : W.nsIn K mainGlobals "divisor" = some (some (.ref A.c2g))
 d5t : W.nsIn K mainGlobals "fraction" = some (some (.ref A.b7o))
 c2h : W.nsIn K mainGlobals "fraction_text" = some (some (.ref A.a6r))
 c2i : W.nsIn K mainGlobals "read_fraction" = some (some (.ref A.a6s))
 d2r : W.nsIn K mainGlobals "read_gain" = some (some (.ref A.b1t))
 c7s : W.nsIn K mainGlobals "read_number" = some (some (.ref A.a9u))
 c7t : W.nsIn K mainGlobals "check_count" = some (some (.ref A.a8q))
 f0t : W.nsIn K mainGlobals "gain_of" = some (some (.ref A.b6k))
 d5u : W.nsIn K mainGlobals "delay_of" = some (some (.ref A.b5k))
 f0u : W.nsIn K mainGlobals "echo_of" = some (some (.ref A.b9o))
 f0v : W.nsIn K mainGlobals "part_of" = some (some (.ref A.b9p))
 d5v : W.nsIn K mainGlobals "parts_of" = some (some (.ref A.b5l))
 f0w : W.nsIn K mainGlobals "is_name" = some (some (.ref A.b9q))
 c7u : W.nsIn K mainGlobals "_law_cell_at" = some (some (.ref A.a9z))
 d2s : W.nsIn K mainGlobals "_law_names" = some (some (.ref A.b4q))
 d2t : W.nsIn K mainGlobals "_law_patch" = some (some (.ref A.b4r))
 d5w : W.nsIn K mainGlobals "_law_told" = some (some (.ref A.b7y))
 d5y : W.nsIn K mainGlobals "_law_kind" = some (some (.ref A.b8g))
 c7v : W.nsIn K mainGlobals "_law_no_name" = some (some (.ref A.b0g))
 c5o : W.nsIn K mainGlobals "_law_no_chain" = some (some (.ref A.a8u))
 b8l : W.nsIn K mainGlobals "_law_no_greatest" = some (some (.ref A.a5s))
 d2u : W.nsIn K mainGlobals "_law_wrong" = some (some (.ref A.b4s))
 h4j : W.nsIn K mainGlobals "law" = some (some (.ref A.g0o))
 h0d:Cls K A.f0n
 d4r : Meth K A.f0n "fresh" A.a9s
 b3i:Cls K A.c4r
 a4y : a7m K A.c4r "gain"
 g5p:Mk K A.c4r A.b7q
 c9r : Meth K A.c4r "word" A.b7r
 c7w : Meth K A.c4r "fresh" A.a9s
 a9m:Cls K A.b6l
 a4r : a7m K A.b6l "many"
 g3e:Mk K A.b6l A.b5i
 c7y : Meth K A.b6l "word" A.b5j
 c5p : Meth K A.b6l "fresh" A.a9s
 b2w:Cls K A.b8i
 a4t : a7m K A.b8i "parts"
 a3t : a7m K A.b8i "states"
 f6u:Mk K A.b8i A.b1v
 c5q : Meth K A.b8i "words" A.b2r
 b0t:Cls K A.b2g
 a2j : a7m K A.b2g "greatest"
 a5g : a7m K A.b2g "cuts"
 a5h : a7m K A.b2g "rest"
 d4s:Mk K A.b2g A.a8s
 a0s:Cls K A.a7j
 a0h : a7m K A.a7j "track_names"
 a0l : a7m K A.a7j "bus_names"
 a0k : a7m K A.a7j "told_sends"
 a0m : a7m K A.a7j "told_outs"
 g3f:Mk K A.a7j A.b5m
 a6y : Meth K A.a7j "check_new" A.a5r
 b0u : Meth K A.a7j "track" A.a9w
 b2h : Meth K A.a7j "bus" A.b4o
 b2y : Meth K A.a7j "send" A.b1y
 c9s : Meth K A.a7j "way" A.b7w
 b9r : Meth K A.a7j "out" A.b4p
 c2j : Meth K A.a7j "tracks" A.b0n
 c5r : Meth K A.a7j "buses" A.b2t
 c5s : Meth K A.a7j "sends" A.b2u
 c7z : Meth K A.a7j "outs" A.b5o
 b2z : Fun K "is_whole" "is_whole" f4r A.b4z A.b4m
 b2j : Fun K "is_figures" "is_figures" d6z A.b1s A.b2n
 c7g : Fun K "whole_of" "whole_of" f4s A.b7m A.b7n
 c9t : Fun K "divisor" "divisor" g0j A.c2g A.c1t
 c1v : Fun K "fraction" "fraction" f4t A.b7o A.b7p
 a6t : Fun K "fraction_text" "fraction_text" c9k A.a6r A.a6z
 a8h : Fun K "read_fraction" "read_fraction" c9l A.a6s A.a7g
 c4s : Fun K "fresh" "Part.fresh" d7g A.a9s A.b2o
 c8g : Fun K "__init__" "Gain.__init__" d9w A.b7q A.b5g
 c8h : Fun K "word" "Gain.word" d9y A.b7r A.b5h
 c4t : Fun K "__init__" "Delay.__init__" d7h A.b5i A.b2p
 c4u : Fun K "word" "Delay.word" d7i A.b5j A.b2q
 b4t : Fun K "read_gain" "read_gain" d9z A.b1t A.b1u
 b6m : Fun K "read_number" "read_number" d4g A.a9u A.b0l
 a7k : Fun K "check_count" "check_count" d4h A.a8q A.a8r
 c2k : Fun K "gain_of" "gain_of" g0k A.b6k A.b7s
 c7h : Fun K "delay_of" "delay_of" f4u A.b5k A.b7t
 c9u : Fun K "echo_of" "echo_of" g0l A.b9o A.c1u
 c2l : Fun K "part_of" "part_of" g0m A.b9p A.b7u
 b8m : Fun K "parts_of" "parts_of" d1h A.b5l A.b4n
 b9s : Fun K "__init__" "Chain.__init__" c9m A.b1v A.a9v
 c1i : Fun K "words" "Chain.words" c7p A.b2r A.b0m
 b3q : Fun K "__init__" "Settler.__init__" d1t A.a8s A.a7z
 c2m : Fun K "is_name" "is_name" d4i A.b9q A.b7v
 c4v : Fun K "__init__" "Patch.__init__" d7j A.b5m A.b2s
 a9q : Fun K "check_new" "Patch.check_new" c6v A.a5r A.a5n
 b6n : Fun K "track" "Patch.track" d4j A.a9w A.a8t
 c2n : Fun K "bus" "Patch.bus" f0g A.b4o A.b1w
 b9t : Fun K "send" "Patch.send" d7k A.b1y A.a9y
 c8i : Fun K "way" "Patch.way" f0h A.b7w A.b5n
 c2o : Fun K "out" "Patch.out" c7q A.b4p A.b1z
 b9k : Fun K "tracks" "Patch.tracks" d1u A.b0n A.a9o
 c1j : Fun K "buses" "Patch.buses" d4k A.b2t A.b0o
 c1k : Fun K "sends" "Patch.sends" c7r A.b2u A.b0p
 c4w : Fun K "outs" "Patch.outs" d7l A.b5o A.b2v
 b6o : Fun K "_law_cell_at" "_law_cell_at" d4l A.a9z A.b0q
 c2p : Fun K "_law_names" "_law_names" d2n A.b4q A.b5p
 c2q : Fun K "_law_patch" "_law_patch" f0i A.b4r A.b5q
 b5u : Fun K "_law_told" "_law_told" f4v A.b7y A.b7z
 a4u : Fun K "_law_kind" "_law_kind" d5o A.b8g A.b8h
 b6p : Fun K "_law_no_name" "_law_no_name" d4m A.b0g A.b0r
 a8v : Fun K "_law_no_chain" "_law_no_chain" d1v A.a8u A.a9p
 a5t : Fun K "_law_no_greatest" "_law_no_greatest" c6w A.a5s A.a6w
 c2r : Fun K "_law_wrong" "_law_wrong" f0j A.b4s A.b5r
 h0e : Fun K "law" "law" i5b A.g0o A.d7p
 c9v : W.nsIn K mainGlobals "ValueError" = some none
 h9a : W.nsIn K mainGlobals "abs" = some none
 h9b : W.nsIn K mainGlobals "all" = some none
 y_bool : W.nsIn K mainGlobals "bool" = some none
 h9c : W.nsIn K mainGlobals "int" = some none
 c9w : W.nsIn K mainGlobals "isinstance" = some none
 h9d : W.nsIn K mainGlobals "len" = some none
 h0f : W.nsIn K mainGlobals "list" = some none
 g3g : W.nsIn K mainGlobals "range" = some none
 h9e : W.nsIn K mainGlobals "str" = some none
 d2v : W.excIn K A.a0p vE "ValueError.__new__" = true
 f0y : W.excIn K A.a0u vE "ValueError.__new__" = true
 f0z : W.excIn K A.a0r vE "ValueError.__new__" = true
 f1g : W.excIn K A.a0t vE "ValueError.__new__" = true
 f6v : W.excIn K A.a1h vE "ValueError.__new__" = true
 f6w : W.excIn K A.a1i vE "ValueError.__new__" = true
 f6y:W.keepIn K (.ref A.a0r)=true
 a6g : W.findIn K (.ref A.a0z) "__getattribute__" = some (some (.builtin "BaseException.__getattribute__"))
 a6h : W.findIn K (.ref A.a0z) "__class__" = some (some (.builtin "object.__class__"))
 a6i : W.findIn K (.ref A.a0z) "__getattr__" = some none
 a6j : W.subIn K (.ref A.a0z) (.type "object") = some true
 a6k : W.subIn K (.ref A.a0z) (.type "BaseException") = some true
 a6l : W.typeIn K (.ref A.a0z) = some (.type "type")
 a6m:W.isClsIn K A.a0z=true
 a6n:W.subIn K (.ref A.a0z) (.ref A.a0z)=some true
 a7p : W.findIn K (.ref A.a2g) "__getattribute__" = some (some (.builtin "BaseException.__getattribute__"))
 a7q : W.findIn K (.ref A.a2g) "__class__" = some (some (.builtin "object.__class__"))
 a7r : W.findIn K (.ref A.a2g) "__getattr__" = some none
 a7s : W.subIn K (.ref A.a2g) (.type "object") = some true
 a7t : W.subIn K (.ref A.a2g) (.type "BaseException") = some true
 a7u : W.typeIn K (.ref A.a2g) = some (.type "type")
 a7v:W.isClsIn K A.a2g=true
 a7w:W.subIn K (.ref A.a2g) (.ref A.a2g)=some true
 a3u : W.findIn K (.ref A.a1i) "__getattribute__" = some (some (.builtin "BaseException.__getattribute__"))
 a3v : W.findIn K (.ref A.a1i) "__class__" = some (some (.builtin "object.__class__"))
 a3w : W.findIn K (.ref A.a1i) "__getattr__" = some none
 a3y : W.subIn K (.ref A.a1i) (.type "object") = some true
 a3z : W.subIn K (.ref A.a1i) (.type "BaseException") = some true
 a4g : W.typeIn K (.ref A.a1i) = some (.type "type")
 a4h:W.isClsIn K A.a1i=true
 a4i:W.subIn K (.ref A.a1i) (.ref A.a1i)=some true
 a8w : W.findIn K (.ref A.a3r) "__getattribute__" = some (some (.builtin "BaseException.__getattribute__"))
 a8y : W.findIn K (.ref A.a3r) "__class__" = some (some (.builtin "object.__class__"))
 a8z : W.findIn K (.ref A.a3r) "__getattr__" = some none
 a9g : W.subIn K (.ref A.a3r) (.type "object") = some true
 a9h : W.subIn K (.ref A.a3r) (.type "BaseException") = some true
 a9i : W.typeIn K (.ref A.a3r) = some (.type "type")
 a9j:W.isClsIn K A.a3r=true
 a9k:W.subIn K (.ref A.a3r) (.ref A.a3r)=some true
 a2k : W.findIn K (.ref A.a0t) "__getattribute__" = some (some (.builtin "BaseException.__getattribute__"))
 a2l : W.findIn K (.ref A.a0t) "__class__" = some (some (.builtin "object.__class__"))
 a2m : W.findIn K (.ref A.a0t) "__getattr__" = some none
 a2n : W.subIn K (.ref A.a0t) (.type "object") = some true
 a2o : W.subIn K (.ref A.a0t) (.type "BaseException") = some true
 a2p : W.typeIn K (.ref A.a0t) = some (.type "type")
 a2q:W.isClsIn K A.a0t=true
 a2r:W.subIn K (.ref A.a0t) (.ref A.a0t)=some true
 a1m : W.findIn K (.ref A.a0p) "__getattribute__" = some (some (.builtin "BaseException.__getattribute__"))
 a1n : W.findIn K (.ref A.a0p) "__class__" = some (some (.builtin "object.__class__"))
 a1o : W.findIn K (.ref A.a0p) "__getattr__" = some none
 a1p : W.subIn K (.ref A.a0p) (.type "object") = some true
 a1q : W.subIn K (.ref A.a0p) (.type "BaseException") = some true
 a1r : W.typeIn K (.ref A.a0p) = some (.type "type")
 a1s:W.isClsIn K A.a0p=true
 a1t:W.subIn K (.ref A.a0p) (.ref A.a0p)=some true
 a2s : W.findIn K (.ref A.a0r) "__getattribute__" = some (some (.builtin "BaseException.__getattribute__"))
 a2t : W.findIn K (.ref A.a0r) "__class__" = some (some (.builtin "object.__class__"))
 a2u : W.findIn K (.ref A.a0r) "__getattr__" = some none
 a2v : W.subIn K (.ref A.a0r) (.type "object") = some true
 a2w : W.subIn K (.ref A.a0r) (.type "BaseException") = some true
 a2y : W.typeIn K (.ref A.a0r) = some (.type "type")
 a2z:W.isClsIn K A.a0r=true
 a3g:W.subIn K (.ref A.a0r) (.ref A.a0r)=some true
 b0v : W.findIn K (.ref A.a5j) "__getattribute__" = some (some (.builtin "BaseException.__getattribute__"))
 b0w : W.findIn K (.ref A.a5j) "__class__" = some (some (.builtin "object.__class__"))
 b0y : W.findIn K (.ref A.a5j) "__getattr__" = some none
 b0z : W.subIn K (.ref A.a5j) (.type "object") = some true
 b1g : W.subIn K (.ref A.a5j) (.type "BaseException") = some true
 b1h : W.typeIn K (.ref A.a5j) = some (.type "type")
 b1i:W.isClsIn K A.a5j=true
 b1j:W.subIn K (.ref A.a5j) (.ref A.a5j)=some true
 a3h : W.findIn K (.ref A.a0u) "__getattribute__" = some (some (.builtin "BaseException.__getattribute__"))
 a3i : W.findIn K (.ref A.a0u) "__class__" = some (some (.builtin "object.__class__"))
 a3j : W.findIn K (.ref A.a0u) "__getattr__" = some none
 a3k : W.subIn K (.ref A.a0u) (.type "object") = some true
 a3l : W.subIn K (.ref A.a0u) (.type "BaseException") = some true
 a3m : W.typeIn K (.ref A.a0u) = some (.type "type")
 a3n:W.isClsIn K A.a0u=true
 a3o:W.subIn K (.ref A.a0u) (.ref A.a0u)=some true
 b3r : W.findIn K (.ref A.a8g) "__getattribute__" = some (some (.builtin "BaseException.__getattribute__"))
 b3s : W.findIn K (.ref A.a8g) "__class__" = some (some (.builtin "object.__class__"))
 b3t : W.findIn K (.ref A.a8g) "__getattr__" = some none
 b3u : W.subIn K (.ref A.a8g) (.type "object") = some true
 b3v : W.subIn K (.ref A.a8g) (.type "BaseException") = some true
 b3w : W.typeIn K (.ref A.a8g) = some (.type "type")
 b3y:W.isClsIn K A.a8g=true
 b3z:W.subIn K (.ref A.a8g) (.ref A.a8g)=some true
 a4j : W.findIn K (.ref A.a1h) "__getattribute__" = some (some (.builtin "BaseException.__getattribute__"))
 a4k : W.findIn K (.ref A.a1h) "__class__" = some (some (.builtin "object.__class__"))
 a4l : W.findIn K (.ref A.a1h) "__getattr__" = some none
 a4m : W.subIn K (.ref A.a1h) (.type "object") = some true
 a4n : W.subIn K (.ref A.a1h) (.type "BaseException") = some true
 a4o : W.typeIn K (.ref A.a1h) = some (.type "type")
 a4p:W.isClsIn K A.a1h=true
 a4q:W.subIn K (.ref A.a1h) (.ref A.a1h)=some true
 b3j:W.subIn K (.ref A.a0p) (.ref A.a0z)=some true
 b4u:W.subIn K (.ref A.a0p) (.ref A.a0z)=some true
 b4v:W.subIn K (.ref A.a0p) (.ref A.a2g)=some false
 b8n:W.subIn K (.ref A.a0p) (.ref A.a1i)=some false
 b6q:W.subIn K (.ref A.a0p) (.ref A.a3r)=some false
 b6r:W.subIn K (.ref A.a0p) (.ref A.a0t)=some false
 b3k:W.subIn K (.ref A.a0p) (.ref A.a0p)=some true
 c2s:W.subIn K (.ref A.a0p) (.ref A.a0p)=some true
 b6s:W.subIn K (.ref A.a0p) (.ref A.a0r)=some false
 b8o:W.subIn K (.ref A.a0p) (.ref A.a5j)=some false
 b6t:W.subIn K (.ref A.a0p) (.ref A.a0u)=some false
 c0g:W.subIn K (.ref A.a0p) (.ref A.a8g)=some false
 b8p:W.subIn K (.ref A.a0p) (.ref A.a1h)=some false
 b1m : W.subIn K (.ref A.a0p) (.type "ValueError") = some true
 b6u:W.subIn K (.ref A.a0u) (.ref A.a0z)=some true
 c7i:W.subIn K (.ref A.a0u) (.ref A.a0z)=some true
 b8q:W.subIn K (.ref A.a0u) (.ref A.a2g)=some false
 c2t:W.subIn K (.ref A.a0u) (.ref A.a1i)=some false
 c0h:W.subIn K (.ref A.a0u) (.ref A.a3r)=some false
 c0i:W.subIn K (.ref A.a0u) (.ref A.a0t)=some false
 b6v:W.subIn K (.ref A.a0u) (.ref A.a0p)=some false
 c0j:W.subIn K (.ref A.a0u) (.ref A.a0r)=some false
 c2u:W.subIn K (.ref A.a0u) (.ref A.a5j)=some false
 c0k:W.subIn K (.ref A.a0u) (.ref A.a0u)=some true
 c2v:W.subIn K (.ref A.a0u) (.ref A.a0u)=some true
 c5t:W.subIn K (.ref A.a0u) (.ref A.a8g)=some false
 c2w:W.subIn K (.ref A.a0u) (.ref A.a1h)=some false
 b3l : W.subIn K (.ref A.a0u) (.type "ValueError") = some true
 b6w:W.subIn K (.ref A.a0r) (.ref A.a0z)=some true
 b8r:W.subIn K (.ref A.a0r) (.ref A.a0z)=some true
 b8s:W.subIn K (.ref A.a0r) (.ref A.a2g)=some false
 c2y:W.subIn K (.ref A.a0r) (.ref A.a1i)=some false
 c0l:W.subIn K (.ref A.a0r) (.ref A.a3r)=some false
 c0m:W.subIn K (.ref A.a0r) (.ref A.a0t)=some false
 b6y:W.subIn K (.ref A.a0r) (.ref A.a0p)=some false
 c0n:W.subIn K (.ref A.a0r) (.ref A.a0r)=some true
 c9y:W.subIn K (.ref A.a0r) (.ref A.a0r)=some true
 c2z:W.subIn K (.ref A.a0r) (.ref A.a5j)=some false
 c0o:W.subIn K (.ref A.a0r) (.ref A.a0u)=some false
 c5u:W.subIn K (.ref A.a0r) (.ref A.a8g)=some false
 c3g:W.subIn K (.ref A.a0r) (.ref A.a1h)=some false
 b3m : W.subIn K (.ref A.a0r) (.type "ValueError") = some true
 b6z:W.subIn K (.ref A.a0t) (.ref A.a0z)=some true
 b8t:W.subIn K (.ref A.a0t) (.ref A.a0z)=some true
 b8u:W.subIn K (.ref A.a0t) (.ref A.a2g)=some false
 c3h:W.subIn K (.ref A.a0t) (.ref A.a1i)=some false
 c0p:W.subIn K (.ref A.a0t) (.ref A.a3r)=some false
 c0q:W.subIn K (.ref A.a0t) (.ref A.a0t)=some true
 c9z:W.subIn K (.ref A.a0t) (.ref A.a0t)=some true
 b7g:W.subIn K (.ref A.a0t) (.ref A.a0p)=some false
 c0r:W.subIn K (.ref A.a0t) (.ref A.a0r)=some false
 c3i:W.subIn K (.ref A.a0t) (.ref A.a5j)=some false
 c0s:W.subIn K (.ref A.a0t) (.ref A.a0u)=some false
 c5v:W.subIn K (.ref A.a0t) (.ref A.a8g)=some false
 c3j:W.subIn K (.ref A.a0t) (.ref A.a1h)=some false
 b3n : W.subIn K (.ref A.a0t) (.type "ValueError") = some true
 b8v:W.subIn K (.ref A.a1h) (.ref A.a0z)=some true
 c0t:W.subIn K (.ref A.a1h) (.ref A.a0z)=some true
 c0u:W.subIn K (.ref A.a1h) (.ref A.a2g)=some false
 c5w:W.subIn K (.ref A.a1h) (.ref A.a1i)=some false
 c3k:W.subIn K (.ref A.a1h) (.ref A.a3r)=some false
 c3l:W.subIn K (.ref A.a1h) (.ref A.a0t)=some false
 b8w:W.subIn K (.ref A.a1h) (.ref A.a0p)=some false
 c3m:W.subIn K (.ref A.a1h) (.ref A.a0r)=some false
 c5y:W.subIn K (.ref A.a1h) (.ref A.a5j)=some false
 c3n:W.subIn K (.ref A.a1h) (.ref A.a0u)=some false
 c8j:W.subIn K (.ref A.a1h) (.ref A.a8g)=some false
 c5z:W.subIn K (.ref A.a1h) (.ref A.a1h)=some true
 d4t:W.subIn K (.ref A.a1h) (.ref A.a1h)=some true
 b4w : W.subIn K (.ref A.a1h) (.type "ValueError") = some true
 b8y:W.subIn K (.ref A.a1i) (.ref A.a0z)=some true
 c0v:W.subIn K (.ref A.a1i) (.ref A.a0z)=some true
 c0w:W.subIn K (.ref A.a1i) (.ref A.a2g)=some false
 c6g:W.subIn K (.ref A.a1i) (.ref A.a1i)=some true
 d4u:W.subIn K (.ref A.a1i) (.ref A.a1i)=some true
 c3o:W.subIn K (.ref A.a1i) (.ref A.a3r)=some false
 c3p:W.subIn K (.ref A.a1i) (.ref A.a0t)=some false
 b8z:W.subIn K (.ref A.a1i) (.ref A.a0p)=some false
 c3q:W.subIn K (.ref A.a1i) (.ref A.a0r)=some false
 c6h:W.subIn K (.ref A.a1i) (.ref A.a5j)=some false
 c3r:W.subIn K (.ref A.a1i) (.ref A.a0u)=some false
 c8k:W.subIn K (.ref A.a1i) (.ref A.a8g)=some false
 c6i:W.subIn K (.ref A.a1i) (.ref A.a1h)=some false
 b4y : W.subIn K (.ref A.a1i) (.type "ValueError") = some true
 c0y : W.subIn K (.type "NoneType") (.ref A.a0z) = some false
 c3s : W.subIn K (.type "NoneType") (.ref A.a2g) = some false
 c8l : W.subIn K (.type "NoneType") (.ref A.a1i) = some false
 c6j : W.subIn K (.type "NoneType") (.ref A.a3r) = some false
 c6k : W.subIn K (.type "NoneType") (.ref A.a0t) = some false
 c0z : W.subIn K (.type "NoneType") (.ref A.a0p) = some false
 c6l : W.subIn K (.type "NoneType") (.ref A.a0r) = some false
 c8m : W.subIn K (.type "NoneType") (.ref A.a5j) = some false
 c6m : W.subIn K (.type "NoneType") (.ref A.a0u) = some false
 d0g : W.subIn K (.type "NoneType") (.ref A.a8g) = some false
 c8n : W.subIn K (.type "NoneType") (.ref A.a1h) = some false
 d5z : W.nsIn K mainGlobals "FIGURES" = some (some A.c6y)
 d6g : RelV (.str "0123456789") A.c6y
 b1n : W.nsIn K mainGlobals "MOST_FIGURES_wholes" = some (some A.a5k)
 b1o:RelV (.int 13) A.a5k
 b1p : W.nsIn K mainGlobals "MOST_FIGURES_ratios" = some (some A.a5l)
 a8i:RelV (.int 9) A.a5l
 d0h : W.nsIn K mainGlobals "MOST_GAIN" = some (some A.b8j)
 c4y:RelV (.int 1000) A.b8j
 d0i : W.nsIn K mainGlobals "MOST_MANY" = some (some A.b8k)
 d0j:RelV (.int 1000) A.b8k
 c8o : W.nsIn K mainGlobals "MOST_TURNS" = some (some A.b5s)
 d4v:RelV (.int 16) A.b5s
 c8p : W.nsIn K mainGlobals "MOST_PARTS" = some (some A.b5t)
 c1l:RelV (.int 8) A.b5t
 g3h : W.nsIn K mainGlobals "MOST" = some (some A.f5g)
 f6z:RelV (.int 1000000000000) A.f5g
 d6h : W.nsIn K mainGlobals "LETTERS" = some (some A.c6z)
 d1j : RelV (.str "abcdefghijklmnopqrstuvwxyz") A.c6z
 c3t : W.nsIn K mainGlobals "MOST_LETTERS" = some (some A.b0s)
 b7h:RelV (.int 8) A.b0s
 d6i : W.nsIn K mainGlobals "READERS" = some (some (.ref A.a5m))
 a9r : W.nsIn K A.a5m "gain" = some (some (.ref A.b6k))
 b4j : W.nsIn K A.a5m "delay" = some (some (.ref A.b5k))
 c3u : W.nsIn K A.a5m "echo" = some (some (.ref A.b9o))
 d2w : W.nsIn K A.a5m "" = some none
 d0k : W.nsIn K A.a5m "x" = some none
structure Tx(K:W.Frag)(mg:Str->Option Value)(A:Ad):Prop extends Ty K A where
 d1k : Binds K A.b4m ["value"] []
 d1l : mg "is_whole" = some (.ref A.b4z)
 d0l : Binds K A.b2n ["text"] []
 d0m : mg "is_figures" = some (.ref A.b1s)
 g6t : Binds K A.b7n ["text"] []
 g6u : mg "whole_of" = some (.ref A.b7m)
 h0g : Binds K A.c1t ["one", "other"] []
 h0h : mg "divisor" = some (.ref A.c2g)
 f5h : Binds K A.b7p ["top", "bottom"] []
 f5i : mg "fraction" = some (.ref A.b7o)
 c3v : Binds K A.a6z ["one"] []
 c3w : mg "fraction_text" = some (.ref A.a6r)
 d0n : Binds K A.a7g ["text"] []
 d0o : mg "read_fraction" = some (.ref A.a6s)
 d7q : Binds K A.b2o ["self"] []
 f1h : Binds K A.b5g ["self", "gain"] []
 g3i : Binds K A.b5h ["self"] []
 g0q : Binds K A.b2p ["self", "many"] []
 g0r : Binds K A.b2q ["self"] []
 f1i : Binds K A.b1u ["text"] []
 f1j : mg "read_gain" = some (.ref A.b1t)
 f7g : Binds K A.b0l ["text", "least", "most"] []
 f7h : mg "read_number" = some (.ref A.a9u)
 c1m : Binds K A.a8r ["values", "count"] []
 c1n : mg "check_count" = some (.ref A.a8q)
 g0s : Binds K A.b7s ["values"] []
 i5c : mg "gain_of" = some (.ref A.b6k)
 g6v : Binds K A.b7t ["values"] []
 i1k : mg "delay_of" = some (.ref A.b5k)
 h0i : Binds K A.c1u ["values"] []
 i5d : mg "echo_of" = some (.ref A.b9o)
 g0t : Binds K A.b7u ["word"] []
 g0u : mg "part_of" = some (.ref A.b9p)
 f5j : Binds K A.b4n ["words"] []
 f5k : mg "parts_of" = some (.ref A.b5l)
 d7r : Binds K A.a9v ["self", "words"] []
 f7i : Binds K A.b0m ["self"] []
 d2h : Binds K A.a7z ["self", "greatest"] []
 g0v : Binds K A.b7v ["value"] []
 g0w : mg "is_name" = some (.ref A.b9q)
 g0x : Binds K A.b2s ["self"] []
 b3g : Binds K A.a5n ["self", "name"] []
 c1o : Binds K A.a8t ["self", "name"] []
 c3y : Binds K A.b1w ["self", "name"] []
 c4z : Binds K A.a9y ["self", "source", "bus", "words"] []
 g3j : Binds K A.b5n ["self", "start", "end"] []
 d2y : Binds K A.b1z ["self", "bus", "greatest"] []
 f2w : Binds K A.a9o ["self"] []
 f7j : Binds K A.b0o ["self"] []
 f7k : Binds K A.b0p ["self"] []
 g0y : Binds K A.b2v ["self"] []
 f7l : Binds K A.b0q ["_law_script", "_law_k"] []
 f7m : mg "_law_cell_at" = some (.ref A.a9z)
 g3k : Binds K A.b5p ["_law_cell"] []
 g3l : mg "_law_names" = some (.ref A.b4q)
 g3m : Binds K A.b5q ["_law_names_here"] []
 g3n : mg "_law_patch" = some (.ref A.b4r)
 d1m : Binds K A.b7z ["_law_patch_here"] []
 d1n : mg "_law_told" = some (.ref A.b7y)
 a5u : Binds K A.b8h ["_law_patch_here", "_law_way", "_law_one", "_law_two", "_law_three"] []
 a5v : mg "_law_kind" = some (.ref A.b8g)
 f7n : Binds K A.b0r ["_law_name", "_law_pick"] []
 f7o : mg "_law_no_name" = some (.ref A.b0g)
 c6n : Binds K A.a9p ["_law_pick"] []
 c6o : mg "_law_no_chain" = some (.ref A.a8u)
 b9g : Binds K A.a6w ["_law_pick"] []
 b9h : mg "_law_no_greatest" = some (.ref A.a5s)
 g3o : Binds K A.b5r ["_law_patch_here", "_law_names_here", "_law_pick"] []
 g3p : mg "_law_wrong" = some (.ref A.b4s)
 b_law : Binds K A.d7p ["_law_script"] []
 m_law : mg "law" = some (.ref A.g0o)
 g0z : mg "ValueError" = none
 h9f : mg "abs" = none
 i5e : mg "all" = none
 h6z : mg "bool" = none
 f2y : mg "int" = none
 a1u : mg "isinstance" = none
 d2z : mg "len" = none
 f5l : mg "list" = none
 g3q : mg "range" = none
 g6w : mg "str" = none
 g3r : mg "MixError" = some (.ref A.a0z)
 f1k : mg "NoNumber" = some (.ref A.a0p)
 c3z : mg "NoText" = some (.ref A.a0u)
 c4g : mg "NoPart" = some (.ref A.a0r)
 g1a : mg "NoName" = some (.ref A.a0t)
 f7p : mg "Twice" = some (.ref A.a1h)
 d8u : mg "NoBus" = some (.ref A.a1i)
 h9g : mg "Ring" = some (.ref A.a8g)
 g6x : mg "NoBlock" = some (.ref A.a2g)
 h4k : mg "NoRow" = some (.ref A.a5j)
 h0j : mg "NoDeed" = some (.ref A.a3r)
 i9b : mg "Part" = some (.ref A.f0n)
 h0k : mg "Gain" = some (.ref A.c4r)
 h4l : mg "Delay" = some (.ref A.b6l)
 i9c : mg "Echo" = some (.ref A.g0p)
 g5q : mg "Chain" = some (.ref A.b8i)
 f5m : mg "Settler" = some (.ref A.b2g)
 h4m : mg "Patch" = some (.ref A.a7j)
 g6y:Exc K A.a0p
 d4w:Exc K A.a0u
 d1o:Exc K A.a0r
 h4n:Exc K A.a0t
 h0l:Exc K A.a1h
 g3s:Exc K A.a1i
 g6z:d3t K A.a0z
 i5f:d3t K A.a2g
 h9h:d3t K A.a1i
 i6t:d3t K A.a3r
 h4o:d3t K A.a0t
 g7a:d3t K A.a0p
 h4p:d3t K A.a0r
 i9d:d3t K A.a5j
 h4q:d3t K A.a0u
 j1e:d3t K A.a8g
 h9i:d3t K A.a1h
 g3t:W.kitOne K (.ref A.a0p) (.ref A.a0z)=some true
 d4y:W.kitOne K (.ref A.a0p) (.ref A.a2g)=some false
 d7z:W.kitOne K (.ref A.a0p) (.ref A.a1i)=some false
 d6j:W.kitOne K (.ref A.a0p) (.ref A.a3r)=some false
 d6k:W.kitOne K (.ref A.a0p) (.ref A.a0t)=some false
 d3g:W.kitOne K (.ref A.a0p) (.ref A.a0p)=some true
 d6l:W.kitOne K (.ref A.a0p) (.ref A.a0r)=some false
 d8g:W.kitOne K (.ref A.a0p) (.ref A.a5j)=some false
 d6m:W.kitOne K (.ref A.a0p) (.ref A.a0u)=some false
 f1l:W.kitOne K (.ref A.a0p) (.ref A.a8g)=some false
 d8h:W.kitOne K (.ref A.a0p) (.ref A.a1h)=some false
 d0p : W.kitOne K (.ref A.a0p) (.type "ValueError") = some true
 g7b:W.kitOne K (.ref A.a0u) (.ref A.a0z)=some true
 g7r:W.kitOne K (.ref A.a0u) (.ref A.a2g)=some false
 h2g:W.kitOne K (.ref A.a0u) (.ref A.a1i)=some false
 h0m:W.kitOne K (.ref A.a0u) (.ref A.a3r)=some false
 h0n:W.kitOne K (.ref A.a0u) (.ref A.a0t)=some false
 g7c:W.kitOne K (.ref A.a0u) (.ref A.a0p)=some false
 h0o:W.kitOne K (.ref A.a0u) (.ref A.a0r)=some false
 h2i:W.kitOne K (.ref A.a0u) (.ref A.a5j)=some false
 h0p:W.kitOne K (.ref A.a0u) (.ref A.a0u)=some true
 h4r:W.kitOne K (.ref A.a0u) (.ref A.a8g)=some false
 h2j:W.kitOne K (.ref A.a0u) (.ref A.a1h)=some false
 g3u : W.kitOne K (.ref A.a0u) (.type "ValueError") = some true
 g7d:W.kitOne K (.ref A.a0r) (.ref A.a0z)=some true
 d8i:W.kitOne K (.ref A.a0r) (.ref A.a2g)=some false
 f2z:W.kitOne K (.ref A.a0r) (.ref A.a1i)=some false
 f1m:W.kitOne K (.ref A.a0r) (.ref A.a3r)=some false
 f1n:W.kitOne K (.ref A.a0r) (.ref A.a0t)=some false
 d6n:W.kitOne K (.ref A.a0r) (.ref A.a0p)=some false
 f1o:W.kitOne K (.ref A.a0r) (.ref A.a0r)=some true
 f3g:W.kitOne K (.ref A.a0r) (.ref A.a5j)=some false
 f1p:W.kitOne K (.ref A.a0r) (.ref A.a0u)=some false
 f7q:W.kitOne K (.ref A.a0r) (.ref A.a8g)=some false
 f3h:W.kitOne K (.ref A.a0r) (.ref A.a1h)=some false
 d3h : W.kitOne K (.ref A.a0r) (.type "ValueError") = some true
 g7e:W.kitOne K (.ref A.a0t) (.ref A.a0z)=some true
 d8j:W.kitOne K (.ref A.a0t) (.ref A.a2g)=some false
 f3i:W.kitOne K (.ref A.a0t) (.ref A.a1i)=some false
 f1q:W.kitOne K (.ref A.a0t) (.ref A.a3r)=some false
 f1r:W.kitOne K (.ref A.a0t) (.ref A.a0t)=some true
 d6o:W.kitOne K (.ref A.a0t) (.ref A.a0p)=some false
 f1s:W.kitOne K (.ref A.a0t) (.ref A.a0r)=some false
 f3j:W.kitOne K (.ref A.a0t) (.ref A.a5j)=some false
 f1t:W.kitOne K (.ref A.a0t) (.ref A.a0u)=some false
 f7r:W.kitOne K (.ref A.a0t) (.ref A.a8g)=some false
 f3k:W.kitOne K (.ref A.a0t) (.ref A.a1h)=some false
 d3i : W.kitOne K (.ref A.a0t) (.type "ValueError") = some true
 g7s:W.kitOne K (.ref A.a1h) (.ref A.a0z)=some true
 f1u:W.kitOne K (.ref A.a1h) (.ref A.a2g)=some false
 f7s:W.kitOne K (.ref A.a1h) (.ref A.a1i)=some false
 f3l:W.kitOne K (.ref A.a1h) (.ref A.a3r)=some false
 f3m:W.kitOne K (.ref A.a1h) (.ref A.a0t)=some false
 d8k:W.kitOne K (.ref A.a1h) (.ref A.a0p)=some false
 f3n:W.kitOne K (.ref A.a1h) (.ref A.a0r)=some false
 f7t:W.kitOne K (.ref A.a1h) (.ref A.a5j)=some false
 f3o:W.kitOne K (.ref A.a1h) (.ref A.a0u)=some false
 g1b:W.kitOne K (.ref A.a1h) (.ref A.a8g)=some false
 f7u:W.kitOne K (.ref A.a1h) (.ref A.a1h)=some true
 d4z : W.kitOne K (.ref A.a1h) (.type "ValueError") = some true
 g7t:W.kitOne K (.ref A.a1i) (.ref A.a0z)=some true
 f1v:W.kitOne K (.ref A.a1i) (.ref A.a2g)=some false
 f7v:W.kitOne K (.ref A.a1i) (.ref A.a1i)=some true
 f3p:W.kitOne K (.ref A.a1i) (.ref A.a3r)=some false
 f3q:W.kitOne K (.ref A.a1i) (.ref A.a0t)=some false
 d8l:W.kitOne K (.ref A.a1i) (.ref A.a0p)=some false
 f3r:W.kitOne K (.ref A.a1i) (.ref A.a0r)=some false
 f7w:W.kitOne K (.ref A.a1i) (.ref A.a5j)=some false
 f3s:W.kitOne K (.ref A.a1i) (.ref A.a0u)=some false
 g1c:W.kitOne K (.ref A.a1i) (.ref A.a8g)=some false
 f7y:W.kitOne K (.ref A.a1i) (.ref A.a1h)=some false
 d5g : W.kitOne K (.ref A.a1i) (.type "ValueError") = some true
 h0q : W.kitOne K (.type "NoneType") (.ref A.a0z) = some false
 h2l : W.kitOne K (.type "NoneType") (.ref A.a2g) = some false
 h7a : W.kitOne K (.type "NoneType") (.ref A.a1i) = some false
 h4s : W.kitOne K (.type "NoneType") (.ref A.a3r) = some false
 h4t : W.kitOne K (.type "NoneType") (.ref A.a0t) = some false
 h0r : W.kitOne K (.type "NoneType") (.ref A.a0p) = some false
 h4u : W.kitOne K (.type "NoneType") (.ref A.a0r) = some false
 h7b : W.kitOne K (.type "NoneType") (.ref A.a5j) = some false
 h4v : W.kitOne K (.type "NoneType") (.ref A.a0u) = some false
 h9j : W.kitOne K (.type "NoneType") (.ref A.a8g) = some false
 h7c : W.kitOne K (.type "NoneType") (.ref A.a1h) = some false
 g7f : W.kitOne K (.type "NoneType") (.type "ValueError") = some false
 g7g : mg "FIGURES" = some A.c6y
 c8t : mg "MOST_FIGURES_wholes" = some A.a5k
 b7k : mg "MOST_FIGURES_ratios" = some A.a5l
 d7s : mg "MOST_GAIN" = some A.b8j
 g1d : mg "MOST_MANY" = some A.b8k
 h4w : mg "MOST_TURNS" = some A.b5s
 d5h : mg "MOST_PARTS" = some A.b5t
 h0s : mg "MOST" = some A.f5g
 f5n : mg "LETTERS" = some A.c6z
 d0q : mg "MOST_LETTERS" = some A.b0s
 c1w : mg "READERS" = some (.ref A.a5m)
 f5o:i8s K A.wd A.a5m
theorem nq0 : (("__init__" : Str) == ("gain" : Str)) = false := by decide +kernel
theorem nq1 : (("word" : Str) == ("gain" : Str)) = false := by decide +kernel
theorem nq2 : (("fresh" : Str) == ("gain" : Str)) = false := by decide +kernel
theorem nq3 : (("__init__" : Str) == ("many" : Str)) = false := by decide +kernel
theorem nq4 : (("word" : Str) == ("many" : Str)) = false := by decide +kernel
theorem nq5 : (("fresh" : Str) == ("many" : Str)) = false := by decide +kernel
theorem nq6 : (("parts" : Str) == ("states" : Str)) = false := by decide +kernel
theorem nq7 : (("states" : Str) == ("parts" : Str)) = false := by decide +kernel
theorem nq8 : (("__init__" : Str) == ("parts" : Str)) = false := by decide +kernel
theorem nq9 : (("__init__" : Str) == ("states" : Str)) = false := by decide +kernel
theorem nq10 : (("words" : Str) == ("parts" : Str)) = false := by decide +kernel
theorem nq11 : (("words" : Str) == ("states" : Str)) = false := by decide +kernel
theorem nq12 : (("greatest" : Str) == ("cuts" : Str)) = false := by decide +kernel
theorem nq13 : (("greatest" : Str) == ("rest" : Str)) = false := by decide +kernel
theorem nq14 : (("cuts" : Str) == ("greatest" : Str)) = false := by decide +kernel
theorem nq15 : (("cuts" : Str) == ("rest" : Str)) = false := by decide +kernel
theorem nq16 : (("rest" : Str) == ("greatest" : Str)) = false := by decide +kernel
theorem nq17 : (("rest" : Str) == ("cuts" : Str)) = false := by decide +kernel
theorem nq18 : (("__init__" : Str) == ("greatest" : Str)) = false := by decide +kernel
theorem nq19 : (("__init__" : Str) == ("cuts" : Str)) = false := by decide +kernel
theorem nq20 : (("__init__" : Str) == ("rest" : Str)) = false := by decide +kernel
theorem nq21 : (("track_names" : Str) == ("bus_names" : Str)) = false := by decide +kernel
theorem nq22 : (("track_names" : Str) == ("told_sends" : Str)) = false := by decide +kernel
theorem nq23 : (("track_names" : Str) == ("told_outs" : Str)) = false := by decide +kernel
theorem nq24 : (("bus_names" : Str) == ("track_names" : Str)) = false := by decide +kernel
theorem nq25 : (("bus_names" : Str) == ("told_sends" : Str)) = false := by decide +kernel
theorem nq26 : (("bus_names" : Str) == ("told_outs" : Str)) = false := by decide +kernel
theorem nq27 : (("told_sends" : Str) == ("track_names" : Str)) = false := by decide +kernel
theorem nq28 : (("told_sends" : Str) == ("bus_names" : Str)) = false := by decide +kernel
theorem nq29 : (("told_sends" : Str) == ("told_outs" : Str)) = false := by decide +kernel
theorem nq30 : (("told_outs" : Str) == ("track_names" : Str)) = false := by decide +kernel
theorem nq31 : (("told_outs" : Str) == ("bus_names" : Str)) = false := by decide +kernel
theorem nq32 : (("told_outs" : Str) == ("told_sends" : Str)) = false := by decide +kernel
theorem nq33 : (("__init__" : Str) == ("track_names" : Str)) = false := by decide +kernel
theorem nq34 : (("__init__" : Str) == ("bus_names" : Str)) = false := by decide +kernel
theorem nq35 : (("__init__" : Str) == ("told_sends" : Str)) = false := by decide +kernel
theorem nq36 : (("__init__" : Str) == ("told_outs" : Str)) = false := by decide +kernel
theorem nq37 : (("check_new" : Str) == ("track_names" : Str)) = false := by decide +kernel
theorem nq38 : (("check_new" : Str) == ("bus_names" : Str)) = false := by decide +kernel
theorem nq39 : (("check_new" : Str) == ("told_sends" : Str)) = false := by decide +kernel
theorem nq40 : (("check_new" : Str) == ("told_outs" : Str)) = false := by decide +kernel
theorem nq41 : (("track" : Str) == ("track_names" : Str)) = false := by decide +kernel
theorem nq42 : (("track" : Str) == ("bus_names" : Str)) = false := by decide +kernel
theorem nq43 : (("track" : Str) == ("told_sends" : Str)) = false := by decide +kernel
theorem nq44 : (("track" : Str) == ("told_outs" : Str)) = false := by decide +kernel
theorem nq45 : (("bus" : Str) == ("track_names" : Str)) = false := by decide +kernel
theorem nq46 : (("bus" : Str) == ("bus_names" : Str)) = false := by decide +kernel
theorem nq47 : (("bus" : Str) == ("told_sends" : Str)) = false := by decide +kernel
theorem nq48 : (("bus" : Str) == ("told_outs" : Str)) = false := by decide +kernel
theorem nq49 : (("send" : Str) == ("track_names" : Str)) = false := by decide +kernel
theorem nq50 : (("send" : Str) == ("bus_names" : Str)) = false := by decide +kernel
theorem nq51 : (("send" : Str) == ("told_sends" : Str)) = false := by decide +kernel
theorem nq52 : (("send" : Str) == ("told_outs" : Str)) = false := by decide +kernel
theorem nq53 : (("way" : Str) == ("track_names" : Str)) = false := by decide +kernel
theorem nq54 : (("way" : Str) == ("bus_names" : Str)) = false := by decide +kernel
theorem nq55 : (("way" : Str) == ("told_sends" : Str)) = false := by decide +kernel
theorem nq56 : (("way" : Str) == ("told_outs" : Str)) = false := by decide +kernel
theorem nq57 : (("out" : Str) == ("track_names" : Str)) = false := by decide +kernel
theorem nq58 : (("out" : Str) == ("bus_names" : Str)) = false := by decide +kernel
theorem nq59 : (("out" : Str) == ("told_sends" : Str)) = false := by decide +kernel
theorem nq60 : (("out" : Str) == ("told_outs" : Str)) = false := by decide +kernel
theorem nq61 : (("tracks" : Str) == ("track_names" : Str)) = false := by decide +kernel
theorem nq62 : (("tracks" : Str) == ("bus_names" : Str)) = false := by decide +kernel
theorem nq63 : (("tracks" : Str) == ("told_sends" : Str)) = false := by decide +kernel
theorem nq64 : (("tracks" : Str) == ("told_outs" : Str)) = false := by decide +kernel
theorem nq65 : (("buses" : Str) == ("track_names" : Str)) = false := by decide +kernel
theorem nq66 : (("buses" : Str) == ("bus_names" : Str)) = false := by decide +kernel
theorem nq67 : (("buses" : Str) == ("told_sends" : Str)) = false := by decide +kernel
theorem nq68 : (("buses" : Str) == ("told_outs" : Str)) = false := by decide +kernel
theorem nq69 : (("sends" : Str) == ("track_names" : Str)) = false := by decide +kernel
theorem nq70 : (("sends" : Str) == ("bus_names" : Str)) = false := by decide +kernel
theorem nq71 : (("sends" : Str) == ("told_sends" : Str)) = false := by decide +kernel
theorem nq72 : (("sends" : Str) == ("told_outs" : Str)) = false := by decide +kernel
theorem nq73 : (("outs" : Str) == ("track_names" : Str)) = false := by decide +kernel
theorem nq74 : (("outs" : Str) == ("bus_names" : Str)) = false := by decide +kernel
theorem nq75 : (("outs" : Str) == ("told_sends" : Str)) = false := by decide +kernel
theorem nq76 : (("outs" : Str) == ("told_outs" : Str)) = false := by decide +kernel
seal PE PT PA PS PSs PI PO PW PG PGs PEX PSX
local macro_rules | `(tactic| walk_at "bits") => `(tactic| first | with_reducible assumption | exact intBits_le_64 (by omega) (by omega) | exact (intBits_le_iff (m := 250)).mpr (by decide) | ((with_reducible apply intBits_mul_le) <;> walk_at "bits") | ((with_reducible apply intBits_add_le) <;> walk_at "bits") | ((with_reducible apply intBits_sub_le) <;> walk_at "bits") | ((with_reducible apply intBits_neg_le) <;> walk_at "bits") | ((with_reducible apply intBits_natAbs_le) <;> walk_at "bits") | ((with_reducible apply intBits_fdiv_le) <;> walk_at "bits") | ((with_reducible apply intBits_fmod_le) <;> walk_at "bits"))
local macro_rules | `(tactic| walk_at "mul") => `(tactic| first | exact IntMulOk.of_right (intBits_le_64 (by omega) (by omega)) | exact IntMulOk.of_left (intBits_le_64 (by omega) (by omega)) | ((with_reducible apply IntMulOk.of_le) <;> first | walk_at "bits" | decide))
local macro_rules | `(tactic| walk_at "le") => `(tactic| ((with_reducible apply Nat.le_trans) <;> first | walk_at "bits" | decide))
variable {P:Program}{w:World}{K:PySem.W.Frag}{mg:Str->Option Value}{base:Heap}{A:Ad}
noncomputable def stF (g c : Int) (r : Addr) : List (Str × V) := [("greatest", .int g), ("cuts", .int c), ("rest", .ref r)]
def h9k:Sp:=fun vs H Q _=>match vs with | [.int a,.int b]=>Q (.int (Int.gcd a b)) H | _=>False
def h9l:Sp:=fun vs H Q _=>match vs with | [.int _]=>Q (.bl true) H | _=>False
def h0t:Sp:=fun vs H Q _=>match vs with
 | [.int t,.int b]=>b≠0/\intBits t<=4000/\intBits b<=4000/\All (g5a H (h3l (Rat.divInt t b))) Q ⟨⟩ ⟨⟩
 | _=>False
def h9m:Sp:=fun vs H Q _=>match vs with | [.str x]=>Q (.bl (g6i (sg x))) H | _=>False
def g3v:Sp:=fun vs H Q _=>match vs with | [.ref p]=>∃ t b:Int,H p=some (.tup [.int t,.int b])/\t.natAbs.log2 < 1920/\b.natAbs.log2 < 1920/\(∀ y:Str,sg y=h3u t b->Q (.str y) H) | _=>False
def h0u:Sp:=fun vs H Q _=>match vs with | [.str x]=>∃ t b,Good (sg x) t b/\All (g5a H [.int t,.int b]) Q ⟨⟩ ⟨⟩ | _=>False
def h9n:Sp:=fun vs H Q _=>match vs with
 | [.str x]=>∃ n:Nat,sg x=txt (n:Int)/\n < 10 ^ 13/\Q (.int n) H
 | _=>False
noncomputable def clsOf(A:Ad):Dt->Addr
 | .gain _=>A.c4r
 | _=>A.b6l
noncomputable def gnF (g : Addr) : List (Str × V) := [("gain", .ref g)]
noncomputable def dlF (n : Nat) : List (Str × V) := [("many", .int n)]
noncomputable def i6u(H:Hp)(fs:List (Str×V)):Dt->Prop
 | .gain y=>∃ g,fs=gnF g/\H g=some (.tup (h3l y))
 | .delay n=>fs=dlF n
 | _=>False
def IsP(A:Ad)(H:Hp)(o:Addr)(d:Dt):Prop:=∃ dx fs,H o=some (.ins (clsOf A d) dx fs)/\i6u H fs d
def g3w(C:Addr):Sp:=fun vs H Q _=>match vs with
 | [.ref o, .ref gt] => ∃ dx, H o = some (.ins C dx []) ∧ (∀ H1, a7h o H H1 → H1 o = some (.ins C dx [("gain", .ref gt)]) → Q .non H1)
 | _=>False
def f7z(C:Addr):Sp:=fun vs H Q _=>match vs with
 | [.ref o, .int n] => ∃ dx, H o = some (.ins C dx []) ∧ (∀ H1, a7h o H H1 → H1 o = some (.ins C dx [("many", .int n)]) → Q .non H1)
 | _=>False
def i9e:Sp:=fun vs H Q _=>match vs with
 | [.ref p]=>∃ x:Rat,H p=some (.tup (h3l x))/\intBits x.num<=10/\intBits (x.den:Int)<=10/\Q (.str (fW x)) H
 | _=>False
def i1l(A:Ad)(k:Nat):Sp:=fun vs H Q _=>match vs with
 | [.ref o]=>∃ d:Dt,d.kd=k/\IsP A H o d/\d.ok/\(∀ H1,Same H H1->Q (.str d.word) H1)
 | _=>False
def i9f:Sp:=fun vs H Q _=>match vs with
 | [.str x]=>∃ y:Rat,x=fW y/\YOk y/\All (g5a H (h3l y)) Q ⟨⟩ ⟨⟩
 | _=>False
def i9g:Sp:=fun vs H Q _=>match vs with
 | [.str x,.int a,.int b]=>∃ n:Nat,sg x=txt (n:Int)/\n < 10 ^ 9/\a<=n/\(n:Int)<=b/\Q (.int n) H
 | _=>False
def i9h:Sp:=fun vs H Q _=>match vs with
 | [.ref l,.int c]=>∃ xs,H l=some (.lst xs)/\(xs.length:Int)=c/\Q .non H
 | _=>False
def i1m(A:Ad)(k:Nat):Sp:=fun vs H Q _=>match vs with
 | [.ref l]=>∃ d:Dt,d.kd=k/\d.ok/\H l=some (.lst (d.vals.map V.str))/\(∀ o H1,H o=none->Same H H1->IsP A H1 o d->Q (.ref o) H1)
 | _=>False
def h0v(A:Ad):Sp:=fun vs H Q _=>match vs with
 | [.str x]=>∃ d:Dt,d.ok/\d.kd < 2/\x=d.word/\(∀ o H1,H o=none->Same H H1->IsP A H1 o d->Q (.ref o) H1)
 | _=>False
def b9u (x : Str) : Prop := x.length ≤ 8 ∧ x ≠ Str.ofString "" ∧ ∀ c ∈ x.cps.toList, 97 ≤ c ∧ c ≤ 122
def f8g:Sp:=fun vs H Q _=>match vs with
 | [.str x]=>b9u x/\(∀ H1,Same H H1->Q (.bl true) H1)
 | _=>False
def g3x:Sp:=fun vs H Q _=>match vs with
 | [.ref o]=>All (g5a H []) Q ⟨⟩ ⟨⟩
 | _=>False
def g7u(A:Ad)(H:Hp)(os:List Addr)(ds:List Dt):Prop:=os.length=ds.length/\∀ (i:Nat) o d,os[i]? = some o->ds[i]? = some d->IsP A H o d
def h9o(A:Ad):Sp:=fun vs H Q _=>match vs with
 | [.ref l]=>∃ ds:List Dt,H l=some (.lst (ds.map fun d=>V.str d.word))/\ds.length<=8/\(∀ d∈ds,d.ok/\d.kd < 2)/\(∀ p os H1,H p=none->(∀ o∈os,H o=none)->Same H H1->H1 p=some (.lst (os.map V.ref))->g7u A H1 os ds->Q (.ref p) H1)
 | _=>False
noncomputable def chF (pl sl : Addr) : List (Str × V) := [("parts", .ref pl), ("states", .ref sl)]
def ChW(A:Ad)(H:Hp)(o:Addr)(ds:List Dt):Prop:=∃ dx pl sl os,H o=some (.ins A.b8i dx (chF pl sl))/\H pl=some (.lst (os.map V.ref))/\g7u A H os ds
def g3y(A:Ad):Sp:=fun vs H Q _=>match vs with
 | [.ref o,.ref l]=>∃ (dx:Addr) (ds:List Dt),H o=some (.ins A.b8i dx [])/\H l=some (.lst (ds.map fun d=>V.str d.word))/\ds.length<=8/\(∀ d∈ds,d.ok/\d.kd < 2)/\(∀ H1,a7h o H H1->ChW A H1 o ds->Q .non H1)
 | _=>False
def h9p(A:Ad):Sp:=fun vs H Q _=>match vs with
 | [.ref o]=>∃ ds:List Dt,ChW A H o ds/\ds.length<=8/\(∀ d∈ds,d.ok/\d.kd < 2)/\All (g4z H (ds.map fun d=>V.str d.word)) Q ⟨⟩ ⟨⟩
 | _=>False
noncomputable def ptF (t b sd ou : Addr) : List (Str × V) := [("track_names", .ref t), ("bus_names", .ref b), ("told_sends", .ref sd), ("told_outs", .ref ou)]
def Eds(H:Hp)(ps:List Addr)(es:List (Str×Str)):Prop:=ps.length=es.length/\∀ (i:Nat) p e,ps[i]? = some p->es[i]? = some e->∃ lw:Addr,H p=some (.tup [.str e.1,.str e.2,.ref lw])
def i6v(A:Ad)(H:Hp)(o t b sd:Addr)(ts bs:List Str)(es:List (Str×Str)):Prop:=∃ dx ou ps,H o=some (.ins A.a7j dx (ptF t b sd ou))/\H t=some (.lst (ts.map V.str))/\H b=some (.lst (bs.map V.str))/\H sd=some (.lst (ps.map V.ref))/\Eds H ps es/\t≠b/\t≠sd/\b≠sd
def h9q(A:Ad):Sp:=fun vs H Q _=>match vs with
 | [.ref o,.str x]=>∃ t b sd ts bs es,i6v A H o t b sd ts bs es/\b9u x/\x∉ts/\x∉bs/\(∀ H1,Same H H1->Q .non H1)
 | _=>False
def c5g(A:Ad)(H:Hp)(N:Addr->Prop)(o:Addr)(p:Pd):Prop:=∃ dx t b sd ou,H o=some (.ins A.a7j dx (ptF t b sd ou))/\Fl H N t b sd ou p
def i9i(A:Ad):Sp:=fun vs H Q _=>match vs with
 | [.ref o]=>∃ dx,H o=some (.ins A.a7j dx [])/\(∀ H1,a7h o H H1->c5g A H1 (fun a=>H a=none) o ⟨[],[],[],[]⟩->Q .non H1)
 | _=>False
def h9r(A:Ad):Sp:=fun vs H Q _=>match vs with
 | [.ref o,.str x]=>∃ N p,c5g A H N o p/\b9u x/\x∉p.ts/\x∉p.bs/\p.ts.length<=100/\(∀ H1,b6i N H H1->c5g A H1 N o ⟨p.ts++[x],p.bs,p.es,p.os⟩->Q .non H1)
 | _=>False
def h9s(A:Ad):Sp:=fun vs H Q _=>match vs with
 | [.ref o,.str x]=>∃ N p,c5g A H N o p/\b9u x/\x∉p.ts/\x∉p.bs/\p.bs.length<=100/\(∀ H1,b6i N H H1->c5g A H1 N o ⟨p.ts,p.bs++[x],p.es,p.os⟩->Q .non H1)
 | _=>False
def Rch(es:List (Str×Str))(x y:Str):Prop:=∀ S:Str->Prop,S x->(∀ u v,S u->(u,v)∈es->S v)->S y
noncomputable def cnt(es:List (Str×Str))(ks:List Str):Nat:=(es.filter fun e=>decide (e.2∉ks)).length
def g7v(H:Hp)(L:Addr)(kvs:List (Key×V))(ks:List Str):Prop:=kvs.map (·.1)=ks.map kT/\∀ kv∈kvs,∃ (l:Addr) (ss:List Str),kv.2 = .ref l/\l≠L/\H l=some (.lst (ss.map V.str))/\ss.length<=kvs.length
def h9t(A:Ad):Sp:=fun vs H Q _=>match vs with
 | [.ref o,.str x,.str y]=>∃ t b sd ts bs es,i6v A H o t b sd ts bs es/\¬ Rch es x y/\es.length<=100/\PyData.strOk x=true/\(∀ e∈es,PyData.strOk e.2=true)/\All (g4z H []) Q ⟨⟩ ⟨⟩
 | _=>False
def h0w(C:Addr):Sp:=fun vs H Q _=>match vs with
 | [.ref o,.int g]=>∃ dx,H o=some (.ins C dx [])/\1<=g/\g<=1000000000000/\(∀ r H1,H r=none->a7h o H H1->H1 r=some (.tup (h3l 0))->H1 o=some (.ins C dx (stF g 0 r))->Q .non H1)
 | _=>False
def h0x(A:Ad):Sp:=fun vs H Q _=>match vs with
 | [.ref o,.str x,.str y,.ref l]=>∃ (N:Addr->Prop) (p:Pd) (ds:List Dt),c5g A H N o p/\H l=some (.lst (ds.map fun d=>V.str d.word))/\ds.length<=8/\(∀ d∈ds,d.ok/\d.kd < 2)/\(x∈p.ts\/x∈p.bs)/\y∈p.bs/\¬ Rch (prs p.es) y x/\p.es.length<=99/\PyData.strOk y=true/\(∀ e∈p.es,PyData.strOk e.2.1=true)/\(∀ H1,b6i N H H1->c5g A H1 (fun a=>N a\/H a=none) o ⟨p.ts,p.bs,p.es++[(x,y,ds.map Dt.word)],p.os⟩->Q .non H1)
 | _=>False
def h9u(A:Ad):Sp:=fun vs H Q _=>match vs with
 | [.ref o,.str y,.int g]=>∃ (N:Addr->Prop) (p:Pd),c5g A H N o p/\y∈p.bs/\(∀ x∈p.os,x.1≠y)/\1<=g/\g<=1000000000000/\p.os.length<=99/\(∀ H1,b6i N H H1->c5g A H1 N o ⟨p.ts,p.bs,p.es,p.os++[(y,g)]⟩->Q .non H1)
 | _=>False
def f8h(A:Ad):Sp:=fun vs H Q _=>match vs with
 | [.ref o]=>∃ (N:Addr->Prop) (p:Pd),c5g A H N o p/\p.ts.length<=100/\All (g4z H (p.ts.map V.str)) Q ⟨⟩ ⟨⟩
 | _=>False
def g3z(A:Ad):Sp:=fun vs H Q _=>match vs with
 | [.ref o]=>∃ (N:Addr->Prop) (p:Pd),c5g A H N o p/\p.bs.length<=100/\All (g4z H (p.bs.map V.str)) Q ⟨⟩ ⟨⟩
 | _=>False
def h0y(A:Ad):Sp:=fun vs H Q _=>match vs with
 | [.ref o]=>∃ (N:Addr->Prop) (p:Pd),c5g A H N o p/\p.os.length<=100/\(∀ l us H1,H l=none->Same H H1->H1 l=some (.lst us)->RpL H1 (fun a=>H a=none/\a≠l) us (p.os.map dOu)->Q (.ref l) H1)
 | _=>False
def g4a(A:Ad):Sp:=fun vs H Q _=>match vs with
 | [.ref o]=>∃ (N:Addr->Prop) (p:Pd),c5g A H N o p/\p.es.length<=100/\(∀ e∈p.es,e.2.2.length<=100)/\(∀ l us H1,H l=none->Same H H1->H1 l=some (.lst us)->RpL H1 (fun a=>H a=none/\a≠l) us (p.es.map dSd)->Q (.ref l) H1)
 | _=>False
def NoS(H:Hp)(v:V):Prop:=∃ t,g4x H v=some t/\t≠.str
noncomputable def nmB (x : Str) : Bool := decide (x.length ≤ 8) && (!decide (x = Str.ofString "") && x.cps.toList.all fun c => g5d "abcdefghijklmnopqrstuvwxyz" ⟨#[c]⟩)
def i9j(H:Hp)(v:V):Prop:=NoS H v\/∃ x,v = .str x/\x.length<=1000/\nmB x=false
def h0z:Sp:=fun vs H Q _=>match vs with
 | [v]=>(NoS H v/\Q (.bl false) H)\/∃ x,v = .str x/\x.length<=1000/\∀ H1,Same H H1->Q (.bl (nmB x)) H1
 | _=>False
def h1a(A:Ad):Sp:=fun vs H _ E=>match vs with
 | [.ref o,v]=>∃ t b sd ts bs es,i6v A H o t b sd ts bs es/\((i9j H v/\∀ H1,Same H H1->E (.ref A.a0t) none H1)\/∃ x,v = .str x/\b9u x/\(x∈ts\/x∈bs)/\∀ H1,Same H H1->E (.ref A.a1h) none H1)
 | _=>False
noncomputable def exC(A:Ad):Nat->Addr
 | 0=>A.a0t
 | 1=>A.a1h
 | 2=>A.a1i
 | 3=>A.a0r
 | _=>A.a0p
noncomputable def kdS:Nat->Str
 | 0 => Str.ofString "name"
 | 1 => Str.ofString "twice"
 | 2 => Str.ofString "bus"
 | 3 => Str.ofString "part"
 | _ => Str.ofString "number"
def i6w (v : V) : Prop := v = .non ∨ v = .str (Str.ofString "") ∨ v = .str (Str.ofString "x") ∨ v = .str (Str.ofString "gain") ∨ v = .str (Str.ofString "gain:2/4") ∨ v = .str (Str.ofString "echo")
def b9v(H:Hp)(v:V):Prop:=(∃ t,g4x H v=some t/\t≠.lst)\/∃ r xs,v = .ref r/\H r=some (.lst xs)/\xs.length<=100/\(8 < xs.length\/xs.length<=8/\∃ (ds:List Dt) (u:V) (rest:List V),(∀ d∈ds,d.ok/\d.kd < 2)/\i6w u/\xs=(ds.map fun d=>V.str d.word)++u :: rest)
def i1n(H:Hp)(x:V):Prop:=∃ t,g4x H x=some t/\(t≠.int\/∃ n:Int,x = .int n/\(n < 1\/1000000000000 < n))
def h7d(H:Hp)(v:V):Prop:=(∃ z,v = .str z/\z.length<=1000/\nmB z=false)\/v = .non\/v = .bl true\/v = .int 5\/h2f H v=true
def g1v(H:Hp)(v:V)(ts:List Str):Prop:=(b1q v=true/\inV v (ts.map V.str)=false)\/h2f H v=true
def TwW(H:Hp)(p:Pd)(v:V)(c:Nat):Prop:=(c=0/\i9j H v)\/(c=1/\∃ x,v = .str x/\b9u x/\(x∈p.ts\/x∈p.bs))
def SdW(H:Hp)(p:Pd)(v u z:V)(c:Nat):Prop:=(c=2/\g1v H v p.ts/\g1v H v p.bs)\/(c=2/\∃ x,v = .str x/\(x∈p.ts\/x∈p.bs)/\g1v H u p.bs)\/(c=3/\∃ x y,v = .str x/\(x∈p.ts\/x∈p.bs)/\u = .str y/\y∈p.bs/\b9v H z)
def OuW(H:Hp)(p:Pd)(u g:V)(c:Nat):Prop:=(c=2/\g1v H u p.bs)\/(c=1/\∃ y,u = .str y/\y∈p.bs/\y∈p.os.map (·.1))\/(c=4/\∃ y,u = .str y/\y∈p.bs/\y∉p.os.map (·.1)/\i1n H g)
def g7h(A:Ad):Sp:=fun vs H _ E=>match vs with
 | [.ref o,v]=>∃ (N:Addr->Prop) (p:Pd) (c:Nat),c5g A H N o p/\TwW H p v c/\∀ H1,Same H H1->E (.ref (exC A c)) none H1
 | _=>False
def h9v(A:Ad):Sp:=fun vs H _ E=>match vs with
 | [.ref o,v,u,z]=>∃ (N:Addr->Prop) (p:Pd) (c:Nat),c5g A H N o p/\SdW H p v u z c/\∀ H1,Same H H1->E (.ref (exC A c)) none H1
 | _=>False
def h9w(A:Ad):Sp:=fun vs H _ E=>match vs with
 | [.ref o,u,g]=>∃ (N:Addr->Prop) (p:Pd) (c:Nat),c5g A H N o p/\p.os.length<=99/\OuW H p u g c/\∀ H1,Same H H1->E (.ref (exC A c)) none H1
 | _=>False
def h1b(A:Ad):Sp:=fun vs H Q _=>match vs with
 | [.ref o, .str wy, v1, v2, v3] => ∃ (N : Addr → Prop) (p : Pd) (c : Nat), c5g A H N o p ∧ p.os.length ≤ 99 ∧ c < 5 ∧ ((wy = Str.ofString "track" ∧ TwW H p v1 c) ∨ (wy = Str.ofString "bus" ∧ TwW H p v1 c) ∨ (wy = Str.ofString "send" ∧ SdW H p v1 v2 v3 c) ∨ (wy = Str.ofString "out" ∧ OuW H p v1 v2 c)) ∧ ∀ H1, Same H H1 → Q (.str (kdS c)) H1
 | _=>False
def h1c:Sp:=fun vs H Q _=>match vs with
 | [.str x,.int k]=>b9u x/\∀ v H1,Same H H1->h7d H1 v->Q v H1
 | _=>False
def h1e:Sp:=fun vs H Q _=>match vs with
 | [.int k]=>∀ v H1,Same H H1->b9v H1 v->Q v H1
 | _=>False
def h1f:Sp:=fun vs H Q _=>match vs with
 | [.int k]=>0<=k/\k < 10 ^ 25/\∀ v H1,Same H H1->i1n H1 v->Q v H1
 | _=>False
noncomputable def pat (nm : List Str) : Pd := ⟨[nm.getD 0 Str.empty, nm.getD 1 Str.empty], [nm.getD 2 Str.empty, nm.getD 3 Str.empty, nm.getD 4 Str.empty], [(nm.getD 0 Str.empty, nm.getD 2 Str.empty, [Str.ofString "gain:1/2"]), (nm.getD 2 Str.empty, nm.getD 3 Str.empty, [])], [(nm.getD 3 Str.empty, 9)]⟩
def j1f(nm:List Str):Prop:=nm.length=8/\(∀ z∈nm,b9u z)/\nm.Nodup
def g4b(A:Ad):Sp:=fun vs H Q _=>match vs with
 | [.ref o,.ref ln,.int k]=>∃ (N:Addr->Prop) (nm:List Str),c5g A H N o (pat nm)/\H ln=some (.lst (nm.map V.str))/\j1f nm/\0<=k/\k < 10 ^ 25/\∀ H1,Same H H1->Q (.bl true) H1
 | _=>False
def h1g(A:Ad):Sp:=fun vs H Q _=>match vs with
 | [.ref ln]=>∃ nm:List Str,H ln=some (.lst (nm.map V.str))/\j1f nm/\∀ o H1,Same H H1->c5g A H1 (fun a=>H a=none) o (pat nm)->Q (.ref o) H1
 | _=>False
def i9k(p:Pd)(n:Nat):Prop:=p.ts.length<=n/\p.bs.length<=n/\p.es.length<=n/\p.os.length<=n/\∀ e∈p.es,e.2.2.length<=100
def h1h(A:Ad):Sp:=fun vs H Q _=>match vs with
 | [.ref o]=>∃ (N:Addr->Prop) (p:Pd),c5g A H N o p/\i9k p 100/\(∀ L H1,Same H H1->Qd H1 (fun a=>H a=none) L p->Q (.ref L) H1)
 | _=>False
def h9x:Sp:=fun vs H Q _=>match vs with | [x]=>∃ t,g4x H x=some t/\Q (.bl (decide (t = .int))) H | _=>False
def g4c(c:Addr):Sp:=fun vs H _ E=>match vs with
 | [.ref o,x]=>i1n H x/\E (.ref c) none H
 | _=>False
def h9y(A:Ad):Sp:=fun vs H _ E=>match vs with
 | [.ref l,.int c]=>∃ xs,H l=some (.lst xs)/\xs.length<=100/\(xs.length:Int)≠c/\E (.ref A.a0r) none H
 | _=>False
def g4d (A : Ad) : Sp := fun vs H _ E => match vs with | [v] => v = .str (Str.ofString "2/4") ∧ (∀ H', Same H H' → E (.ref A.a0u) none H') | _ => False
def h9z (A : Ad) : Sp := fun vs H _ E => match vs with | [v] => v = .str (Str.ofString "2/4") ∧ (∀ H', Same H H' → E (.ref A.a0r) none H') | _ => False
def i0a (A : Ad) : Sp := fun vs H _ E => match vs with | [.ref l] => ((H l = some (.lst [])) ∨ H l = some (.lst [.str (Str.ofString "2/4")])) ∧ (∀ H', Same H H' → E (.ref A.a0r) none H') | _ => False
def i0b(A:Ad):Sp:=fun vs H _ E=>match vs with | [.ref l]=>H l=some (.lst [])/\E (.ref A.a0r) none H | _=>False
def i0c(A:Ad):Sp:=fun vs H _ E=>match vs with | [v]=>i6w v/\(∀ H',Same H H'->E (.ref A.a0r) none H') | _=>False
def i0d(A:Ad):Sp:=fun vs H _ E=>match vs with | [v]=>b9v H v/\(∀ H',Same H H'->E (.ref A.a0r) none H') | _=>False
def i0e(A:Ad):Sp:=fun vs H _ E=>match vs with
 | [.ref o,v]=>∃ dx,H o=some (.ins A.b8i dx [])/\b9v H v/\(∀ H',Same H H'->E (.ref A.a0r) none H')
 | _=>False
noncomputable def trB:V->Bool
 | .bl b=>b
 | _=>false
noncomputable def blL(c:Nat):List V:=[.bl (decide (c=0)),.bl (decide (c=1)),.bl (decide (c=2)),.bl (decide (c=3)),.bl (decide (c=4)),.bl false,.bl false,.bl false,.bl false,.bl false]
noncomputable def kdL : List V := [.str (Str.ofString "name"), .str (Str.ofString "twice"), .str (Str.ofString "bus"), .str (Str.ofString "part"), .str (Str.ofString "number")]
noncomputable def nmC(bl:List Int)(m k j:Nat):Nat:=97+((bl.getD j 0+(k:Int)*(if j=m then 1 else 0)).fmod 26).toNat
noncomputable def nmS(bl:List Int)(m k n:Nat):Str:=⟨((List.range n).map (nmC bl m k)).toArray⟩
def g4e:Sp:=fun vs H Q _=>match vs with
 | [.int c]=>intBits c<=1100000/\(∀ (nm:List Str) l H1,nm.length=8->nm.Nodup->(∀ z∈nm,b9u z)->H l=none->Same H H1->H1 l=some (.lst (nm.map V.str))->Q (.ref l) H1)
 | _=>False
def h1i(K:PySem.W.Frag):Sp:=fun vs H Q _=>match vs with | [.ref a,.int k]=>∃ ns:List Int,SqL K H a (ns.map V.int)/\0<=k/\Q (.int (ns.getD k.toNat 0)) H | _=>False
local macro_rules | `(tactic| walk_at $s:str)=>do
 unless s.getString == "rd" || s.getString == "rd*" do Lean.Macro.throwUnsupported
 let mut ls:Array (Lean.TSyntax [`Lean.Parser.Tactic.simpStar,`Lean.Parser.Tactic.simpErase,`Lean.Parser.Tactic.simpLemma]) := #[]
 if s.getString == "rd*" then
  let y <- `(Lean.Parser.Tactic.simpStar| *)
  ls:=ls.push ⟨y.raw⟩
 for n in "h9k h9l h0t h9m g3v h0u h9n g3w f7z i9e i1l i9f i9g i9h i1m h0v f8g g3x h9o g3y h9p h9q i9i h9r h9s h9t h0w h0x h9u f8h g3z h0y g4a h0z h1a g7h h9v h9w h1b h1c h1e h1f g4b h1g h1h h9x g4c h9y g4d h9z i0a i0b i0c i0d i0e g4e h1i i8l iStr rSlA i8m rStrI tFmt i8n i3w i8o i3x j0y tSl3R rSlR i4t h4a i4v i4w i4r i4s i4u i8y i8x gSub rSetM i4h rIxD rNiD i8w i8r j0y i4g tSl3 rSl3 rUpF i9a rInO h0a i3y i8p i6o d9s h6i rInF tAugF rTupS rIsI i8q gNilF j0z gTupF i7d i7e g6f tC h2q tOp tUn i6i tRet tRetN h7p tCB i7m i2o i7r i7s h2x tAnd tOr tNot tBF i3l tOrF i3m i2b tIf i7q h8i h5y j0r j0s h5z tSl h7z h6a rIF i3k rUF i7t i7u j0l j0m rIxM rSlM i7v i8d i8e i8c rIsT rAbs rMin rMax i3n rSumF h8k tBMF i8h i8g i3p j0t j0u j0v j0w i2c i3v i3q i3r i3u hAs _root_.L2.start".splitOn " " do
  let i:=Lean.mkIdent n.toName
  let y <- `(Lean.Parser.Tactic.simpLemma| ↓$i:ident)
  ls:=ls.push ⟨y.raw⟩
 for n in "noxK Bool.bne_false Bool.bne_true noxK noxK asNew lookup_same h6j i4a i1h i6p List.lookup_nil nq0 nq1 nq2 nq3 nq4 nq5 nq6 nq7 nq8 nq9 nq10 nq11 nq12 nq13 nq14 nq15 nq16 nq17 nq18 nq19 nq20 nq21 nq22 nq23 nq24 nq25 nq26 nq27 nq28 nq29 nq30 nq31 nq32 nq33 nq34 nq35 nq36 nq37 nq38 nq39 nq40 nq41 nq42 nq43 nq44 nq45 nq46 nq47 nq48 nq49 nq50 nq51 nq52 nq53 nq54 nq55 nq56 nq57 nq58 nq59 nq60 nq61 nq62 nq63 nq64 nq65 nq66 nq67 nq68 nq69 nq70 nq71 nq72 nq73 nq74 nq75 nq76 j0n j0o j0p j0q d9k h5t Ty.nm j0e j0k i3g i3h i3i i3j h5v h8j List.map_cons List.map_nil List.length_cons List.length_nil List.length_map List.replicate List.cons_append List.nil_append List.append_nil List.getElem?_cons_zero List.getElem?_cons_succ List.set_cons_zero List.set_cons_succ Option.some.injEq exists_eq_left' exists_eq_left exists_and_left V.int.injEq V.bl.injEq V.str.injEq V.ref.injEq V.ty.injEq Value.ref.injEq List.cons.injEq HO.lst.injEq HO.tup.injEq Int.zero_add List.length_append and_true true_and i7w i7x i7y i7z i8a two_line if_true reduceCtorEq if_false Bool.false_eq_true decide_eq_true_eq decide_eq_false_iff_not decide_true decide_false Bool.or_true Bool.true_or Bool.or_false Bool.false_or Bool.and_true Bool.true_and Bool.and_false Bool.false_and or_false false_or Nat.zero_add Nat.reduceAdd Nat.reduceSub exists_const false_and and_false Bool.not_true Bool.not_false Bool.not_eq_true' ne_eq not_true_eq_false not_false_eq_true Int.reduceEq Int.reduceNe Int.reduceLT Int.reduceLE Int.reducePow Int.reduceMul Int.reduceAdd Int.reduceSub Int.reduceNeg Int.reduceToNat Nat.reducePow Nat.reduceLT Nat.reduceLeDiff".splitOn " " do
  let i:=Lean.mkIdent n.toName
  let y <- `(Lean.Parser.Tactic.simpLemma| $i:ident)
  ls:=ls.push ⟨y.raw⟩
 `(tactic| simp (config:={ maxSteps:=1000000,dsimp:=false }) only [$ls,*])
theorem h4x{l r:Int}(hl:0<=l)(hr:0 < r):Int.gcd r (l.fmod r)=Int.gcd l r:=by
 rw [Int.fmod_eq_emod_of_nonneg _ (by omega)]
 obtain⟨x,rfl⟩:=Int.eq_ofNat_of_zero_le hl
 obtain⟨y,rfl⟩:=Int.eq_ofNat_of_zero_le (by omega:0<=r)
 rw [<- Int.natCast_emod,Int.gcd_natCast_natCast,Int.gcd_natCast_natCast,Nat.gcd_comm x y,Nat.gcd_rec y x,Nat.gcd_comm]
theorem i0f{l r:Int}(hl:0<=l)(hr:0 < r):0<=l.fmod r/\l.fmod r < r:=by
 rw [Int.fmod_eq_emod_of_nonneg _ (by omega)]
 exact⟨Int.emod_nonneg _ (by omega),Int.emod_lt_of_pos _ hr⟩
theorem d7t(a:Int){b:Int}(hb:0 < b):0<=a.fmod b/\a.fmod b < b:=by
 rw [Int.fmod_eq_emod_of_nonneg _ (by omega)]
 exact⟨Int.emod_nonneg _ (by omega),Int.emod_lt_of_pos _ hb⟩
theorem i0g(a b:Int):Int.gcd (a.natAbs:Int) (b.natAbs:Int)=Int.gcd a b:=by
 rw [Int.gcd_natCast_natCast]; rfl
theorem gcd_zero{l:Int}(hl:0<=l):((Int.gcd l 0:Nat):Int)=l:=by
 rw [Int.gcd_zero_right]; omega
theorem h4y{a b:Int}{n:Nat}(h:a≠0)(ha:intBits a<=n):intBits (Int.gcd a b:Int)<=n:=by
 refine intBits_le_of_natAbs ?_ ha
 rw [Int.natAbs_natCast]
 exact Nat.le_of_dvd (by omega) (Nat.gcd_dvd_left _ _)
theorem i5g{t b:Int}(hb:b≠0):t.fdiv (if b < 0 then -(Int.gcd t b:Int) else (Int.gcd t b:Int))=(Rat.divInt t b).num:=by
 rw [Rat.num_divInt,Int.gcd_comm b t]
 have hp:0 < Int.gcd t b:=Int.gcd_pos_of_ne_zero_right t hb
 obtain⟨k,hk⟩:(Int.gcd t b:Int)∣t:=Int.gcd_dvd_left t b
 generalize hg:(Int.gcd t b:Int)=g at *
 have hg0:0 < g:=by omega
 by_cases h:b < 0
 ·rw [if_pos h,Int.sign_eq_neg_one_of_neg h,hk]
  rw [show g*k=(-g)*(-k) by grind,Int.mul_fdiv_cancel_left _ (by omega),show -1*(-g * -k)=g*(-k) by grind,Int.mul_ediv_cancel_left _ (by omega)]
 ·rw [if_neg h,Int.sign_eq_one_of_pos (by omega),hk,Int.mul_fdiv_cancel_left _ (by omega),Int.one_mul,Int.mul_ediv_cancel_left _ (by omega)]
theorem i5h{t b:Int}(hb:b≠0):b.fdiv (if b < 0 then -(Int.gcd t b:Int) else (Int.gcd t b:Int))=((Rat.divInt t b).den:Int):=by
 rw [Rat.den_divInt,if_neg hb,Int.gcd_comm b t]
 have hp:0 < Int.gcd t b:=Int.gcd_pos_of_ne_zero_right t hb
 obtain⟨k,hk⟩:(Int.gcd t b:Int)∣b:=Int.gcd_dvd_right t b
 rw [Int.natCast_ediv]
 generalize hg:(Int.gcd t b:Int)=g at *
 have hg0:0 < g:=by omega
 by_cases h:b < 0
 ·have e:((b.natAbs:Nat):Int) = -b:=by omega
  rw [if_pos h,e,hk,show g*k=(-g)*(-k) by grind,Int.mul_fdiv_cancel_left _ (by omega),show -(-g * -k)=g*(-k) by grind,Int.mul_ediv_cancel_left _ (by omega)]
 ·have e:((b.natAbs:Nat):Int)=b:=by omega
  rw [if_neg h,e,hk,Int.mul_fdiv_cancel_left _ (by omega),Int.mul_ediv_cancel_left _ (by omega)]
theorem g7i (T : Tx K mg A) : a3q P A.wd K mg base CX0 1 A.c2g A.c1t ["one", "other"] h9k := by
 refine T.c9t.ok c1s (fun vs H Q E h=>?_) (fun cdv A' outer s H vs Q E hr h=>?_)
 ·obtain⟨_,_,rfl,_⟩:=h4h (by unfold h9k at h; exact h)
  rfl
 ·obtain⟨a,b,rfl,q⟩:=h4h (by unfold h9k at h; exact h)
  have q:Q (.int (Int.gcd a b)) H:=q
  have hu:=hr.units
  refine⟨_,(a0j (a3s (i:=2) c1s.nd rfl (Or.inl rfl) (a1l d9l (by rfl) T.h9f boot_abs (a0g (pvF 0) a0i)))
   (a0j (a3s (i:=3) c1s.nd rfl (Or.inl rfl) (a1l d9l (by rfl) T.h9f boot_abs (a0g (pvF 1) a0i)))
   (a0j (f9t PassesOwn.never (a0w (b5w hu) (pvF 3) a0n (a1k _))
   (a0j (a3s (i:=4) c1s.nd rfl (Or.inl rfl) (a2i a8m (pvF 2) (pvF 3)))
   (a0j (a3s (i:=2) c1s.nd rfl (Or.inl rfl) (pvF 3))
   (a0o (a3s (i:=3) c1s.nd rfl (Or.inl rfl) (pvF 4))))))
   (a0o (a1z (pvF 2)))))),?_⟩
  walk_at "rd"
  refine f9u (fun m σ H1=>∃ l r z,σ = [some (.int a),some (.int b),some (.int l),some (.int r),z]/\H1=H/\0<=l/\0<=r/\m=r.toNat/\Int.gcd l r=Int.gcd a b) _
   ⟨_,_,_,rfl,rfl,by omega,by omega,rfl,i0g a b⟩ ?_
  rintro m σ H1 ⟨l,r,z,rfl,rfl,hl,hr',rfl,hg⟩
  walk_at "rd"
  split
  ·rename_i h
   have hp:0 < r:=by omega
   have f:=i0f hl hp
   exact⟨h,_,(by omega:(l.fmod r).toNat < r.toNat),_,_,_,⟨rfl,rfl,rfl⟩,hr',f.1,rfl,(h4x hl hp).trans hg⟩
  ·rename_i h
   obtain rfl:r=0:=by omega
   rw [<- hg,gcd_zero hl] at q
   exact q
theorem f1w (T : Tx K mg A) : a3q P A.wd K mg base CX0 1 A.b4z A.b4m ["value"] h9l := by
 refine T.b2z.ok f0k (fun vs H Q E h=>?_) (fun cdv A' outer s H vs Q E hr h=>?_)
 ·obtain⟨_,rfl,_⟩:=h6t (by unfold h9l at h; exact h)
  rfl
 ·obtain⟨i,rfl,q⟩:=h6t (by unfold h9l at h; exact h)
  have hu:=hr.units
  refine ⟨_, (a0o (a1z (g2h (a1l (b4h .int) (by rfl) T.a1u boot_isinstance (a0g (pvF 0) (a0g (b7l (v := .ty "int") (u := .type "int") (by rfl) T.f2y rfl rfl) a0i))) (g8a (g9a (a1l (b4h .bl) (by rfl) T.a1u boot_isinstance (a0g (pvF 0) (a0g (b7l (v := .ty "bool") (u := .type "bool") (by rfl) T.h6z rfl rfl) a0i)))))))), ?_⟩
  walk_at "rd"
  exact q
theorem f1y (T : Tx K mg A) : a3q P A.wd K mg base CX0 2 A.b7o A.b7p ["top", "bottom"] h0t := by
 have c1y:a3q P A.wd K mg base CX0 1 _ _ _ _:=f1w T
 have h1j:a3q P A.wd K mg base CX0 1 _ _ _ _:=g7i T
 refine T.c1v.ok d2o (fun vs H Q E h=>?_) (fun cdv A' outer s H vs Q E hr h=>?_)
 ·obtain⟨_,_,rfl,_⟩:=h4h (by unfold h0t at h; exact h)
  rfl
 ·obtain⟨t,b,rfl,⟨hb,h1,h2,k⟩⟩:=h4h (by unfold h0t at h; exact h)
  have hu:=hr.units
  have b9i:a5z 1 _:=hr.mono (by decide)
  have g7j:a5z 1 _:=hr.mono (by decide)
  refine⟨_,(a0j (a4z (pw_or (b5v (a7y (a1j c1y b9i (by rfl) T.d1l T.b2z.kp T.d1k .nil a3p (a0g (pvF 0) a0i)))) (pw_or1 (b5v (a7y (a1j c1y b9i (by rfl) T.d1l T.b2z.kp T.d1k .nil a3p (a0g (pvF 1) a0i)))))).pt
   (a0o a2h)
   a1g)
   (a0j (a4z (a0w (a6v hu) (pvF 1) a0n (a1k _))
   (a0o a2h)
   a1g)
   (a0j (a3s (i:=2) d2o.nd rfl (Or.inl rfl) (a1j h1j g7j (by rfl) T.h0h T.c9t.kp T.h0g .nil a3p (a0g (pvF 0) (a0g (pvF 1) a0i))))
   (d2m (a4z (a0w of_lt (pvF 1) a0n (a1k _))
   (a0o (a3s (i:=2) d2o.nd rfl (Or.inl rfl) (i2g h5x (pvF 2))))
   a1g)
   (a0o (a1z (c1z (a0g (a2i b1r (pvF 0) (pvF 2)) (a0g (a2i b1r (pvF 1) (pvF 2)) a0i))))))))),?_⟩
  walk_at "rd"
  rw [if_neg hb]
  refine⟨fun σ' H'=>σ' = [some (.int t),some (.int b),some (.int (if b < 0 then -(Int.gcd t b:Int) else (Int.gcd t b:Int)))]/\H'=H,?_,?_⟩
  ·walk_at "rd"
   split
   ·rfl
   ·rfl
  ·rintro σ' H' ⟨rfl,rfl⟩
   have hg:intBits (Int.gcd t b:Int)<=4000:=by
    rw [Int.gcd_comm]
    exact h4y hb h2
   have hp:0 < Int.gcd t b:=Int.gcd_pos_of_ne_zero_right t hb
   have hc:CFd t (if b < 0 then -(Int.gcd t b:Int) else (Int.gcd t b:Int)):=by
    split
    ·exact⟨by omega,Nat.le_trans (intBits_neg_le hg) (by decide)⟩
    ·exact⟨by omega,Nat.le_trans hg (by decide)⟩
   walk_at "rd"
   refine⟨hc,hc,fun p H1 n1 S1 h1=>k _ _ ⟨p,rfl,n1,S1,?_⟩⟩
   rw [h1,i5g hb,i5h hb]
   rfl
theorem g1e{n:Nat}(h:n < 10 ^ 9):n.log2 < 1920:=by
 rcases Nat.eq_zero_or_pos n with z | z
 ·rw [z]; decide
 ·rw [Nat.log2_lt (by omega)]
  exact Nat.lt_of_lt_of_le h (Nat.le_trans (by decide:10 ^ 9<=2 ^ 30) (Nat.pow_le_pow_right (by decide) (by decide)))
theorem f5p{t:Int}(h:t.natAbs < 10 ^ 9):intBits t<=4000:=by
 refine Nat.le_trans (intBits_le_iff.mpr (Nat.lt_of_lt_of_le h (by decide:10 ^ 9<=2 ^ 30))) (by decide)
theorem d6p (T : Tx K mg A) : a3q P A.wd K mg base CX0 1 A.b1s A.b2n ["text"] h9m := by
 refine T.b2j.ok d4n (fun vs H Q E h=>?_) (fun cdv A' outer s H vs Q E hr h=>?_)
 ·obtain⟨_,rfl,_⟩:=g7p (by unfold h9m at h; exact h)
  rfl
 ·obtain⟨x,rfl,q⟩:=g7p (by unfold h9m at h; exact h)
  have q:Q (.bl (g6i (sg x))) H:=q
  have hu:=hr.units
  refine⟨_,(a0j (d2l PassesOwn.never rfl (g9k (pvF 0)) (c5j (i:=1) d4n.nd rfl (Or.inl rfl))
   (a0o (a4z (a0w c9i (pvF 1) (a5i (v := .str "0123456789") (by rfl) T.g7g T.d6g) (by rfl))
   (a0o (a1z d7w))
   a1g)))
   (a0o (a1z (b1l (b5w hu) (pvF 0) a0v (a1k _))))),?_⟩
  walk_at "rd"
  refine h3s (fun i σ H1=>H1=H/\(∃ z,σ = [some (.str x),z])/\((sg x).take i).all (fun c=>decide (48<=c) && decide (c<=57))=true) ⟨rfl,⟨_,rfl⟩,rfl⟩ ?_ ?_
  ·rintro i c σ H1 hc ⟨rfl,⟨z,rfl⟩,ha⟩
   walk_at "rd"
   have hc':(sg x)[i]? = some c:=by
    unfold sg
    rw [Array.getElem?_toList]
    exact hc
   rw [h8q]
   split
   ·rename_i hb
    have:g6i (sg x)=false:=by
     unfold g6i
     rw [show (sg x).all (fun c=>decide (48<=c) && decide (c<=57))=false from ?_,Bool.false_and]
     rw [List.all_eq_false]
     exact⟨c,List.mem_of_getElem? hc',by rw [hb]; decide⟩
    rw [this] at q
    exact q
   ·rename_i hb
    refine⟨⟨_,rfl⟩,?_⟩
    rw [List.take_add_one,hc',List.all_append,ha]
    simpa using hb
  ·rintro σ H1 ⟨rfl,⟨z,rfl⟩,ha⟩
   walk_at "rd"
   have hl:x.cps.size=(sg x).length:=by simp
   rw [hl,List.take_length] at ha
   have e : g6i (sg x) = !decide (x = Str.ofString "") := by
    unfold g6i
    rw [ha,Bool.true_and]
    congr 1
    rw [Bool.eq_iff_iff,decide_eq_true_eq,List.isEmpty_iff]
    exact⟨fun h=>d1r (h.trans (by decide +kernel)),fun h=>by rw [h]; decide +kernel⟩
   rw [e] at q
   exact q
theorem g5r (T : Tx K mg A) : a3q P A.wd K mg base CX0 1 A.a6r A.a6z ["one"] g3v := by
 refine T.a6t.ok a8k (fun vs H Q E h=>?_) (fun cdv A' outer s H vs Q E hr h=>?_)
 ·obtain⟨_,rfl,_⟩:=c8u (by unfold g3v at h; exact h)
  rfl
 ·obtain⟨p,rfl,⟨t,b,hp,l1,l2,q⟩⟩:=c8u (by unfold g3v at h; exact h)
  have hu:=hr.units
  refine⟨_,(a0j (a3s (i:=1) a8k.nd rfl (Or.inl rfl) (a1v a7n (pvF 0) a0n (fun _ _=>rfl)))
   (a0j (a3s (i:=2) a8k.nd rfl (Or.inl rfl) (a1v a7n (pvF 0) a0n (fun _ _=>rfl)))
   (a0o (a1z (d3u (c5n (f4p (pvF 1)) (c5n a0v (c5n (f4p (pvF 2)) g5c)))))))),?_⟩
  walk_at "rd*"
  have e0:Str.empty.length=0:=rfl
  have e1 : (Str.ofString "/").length = 1 := by decide +kernel
  have e2:(Str.ofString (toString t)).length=(txt t).length:=by rw [<- c9j,d3v]
  have e3:(Str.ofString (toString b)).length=(txt b).length:=by rw [<- c9j,d3v]
  have f2:=g2k t
  have f3:=g2k b
  have hs:sizeLine=16777216:=sizeLine_eq
  simp only [strLen_append,e0,e1,e2,e3]
  refine⟨by omega,by omega,by omega,by omega,q _ ?_⟩
  rw [a6q,a6q,a6q,d3v,d3v]
  unfold h3u
  have e4:sg Str.empty = []:=rfl
  have e5 : sg (Str.ofString "/") = [47] := by decide +kernel
  rw [e4,e5]
  simp
theorem i0h (T : Tx K mg A) : a3q P A.wd K mg base CX0 3 A.a6s A.a7g ["text"] h0u := by
 have b9w:a3q P A.wd K mg base CX0 1 _ _ _ _:=d6p T
 have b2k:a3q P A.wd K mg base CX0 1 _ _ _ _:=g5r T
 have d6q:a3q P A.wd K mg base CX0 2 _ _ _ _:=f1y T
 refine T.a8h.ok a4s (fun vs H Q E h=>?_) (fun cdv A' outer s H vs Q E hr h=>?_)
 ·obtain⟨_,rfl,_⟩:=g7p (by unfold h0u at h; exact h)
  rfl
 ·obtain⟨x,rfl,⟨t,b,g,k⟩⟩:=g7p (by unfold h0u at h; exact h)
  have hu:=hr.units
  have b7i:a5z 1 _:=hr.mono (by decide)
  have b0k:a5z 1 _:=hr.mono (by decide)
  have d3j:a5z 2 _:=hr.mono (by decide)
  obtain⟨hx,hb,hg,l1,l2⟩:=g
  have hb0:b≠0:=by omega
  have tb:txt b=dg b.natAbs:=if_neg (by omega)
  have sl : Str.ofString "/" = ⟨#[47]⟩ := by decide +kernel
  have mi : Str.ofString "-" = ⟨#[45]⟩ := by decide +kernel
  have sp:=h3t (x:=x) (c:=47) (by decide) hx (f4q (by decide) (by decide)) (f4q (by decide) (by decide))
  have hs:sizeLine=16777216:=sizeLine_eq
  have q1:=i4e t
  have xl:x.length=(txt t).length+((txt b).length+1):=by rw [<- c9j,hx]; simp [h3u]
  rw [tb] at xl
  obtain⟨h0,e0⟩:∃ h0:Str,h0 = ⟨(txt t).toArray⟩:=⟨_,rfl⟩
  obtain⟨h1,e1⟩:∃ h1:Str,h1 = ⟨(txt b).toArray⟩:=⟨_,rfl⟩
  have s0:sg h0=txt t:=by rw [e0]
  have s1:sg h1=txt b:=by rw [e1]
  have n0:h0.length=(txt t).length:=by rw [<- c9j,s0]
  have n1:h1.length=(txt b).length:=by rw [<- c9j,s1]
  rw [<- e0,<- e1] at sp
  have sw:=i4f s0
  have i0:=c6u s0 (by omega)
  have i1:=c6u s1 (by rw [tb] at n1; omega)
  have r0:Rat.divInt t b = ⟨t,b.toNat,by omega,by
   show Nat.gcd t.natAbs b.toNat=1
   rw [<- hg]
   unfold Int.gcd
   congr 1
   omega⟩:=by
   rw [Rat.mk_eq_divInt]
   congr 1
   omega
  refine ⟨_, (a0j (a4z (b5v (a7y (a1l (b4h .str) (by rfl) T.a1u boot_isinstance (a0g (pvF 0) (a0g (b7l (v := .ty "str") (u := .type "str") (by rfl) T.g6w rfl rfl) a0i)))))
   (a0o a2h)
   a1g)
   (a0j (a3s (i:=1) a4s.nd rfl (Or.inl rfl) (c4n b9l PySem.F.plainAttrs_str PySem.F.slot_str_split PySem.F.type_str_split d8r (pvF 0) (a0g a0v a0i)))
   (a0j (a4z (a0w (b5w hu) (a1l a8l (by rfl) T.d2z boot_len (a0g (pvF 1) a0i)) a0n (a1k _))
   (a0o a2h)
   a1g)
   (d2m (a3s (i:=2) a4s.nd rfl (Or.inl rfl) (g4q (a7y (c4n b9l PySem.F.plainAttrs_str PySem.F.slot_str_startswith PySem.F.type_str_startswith c7m (a1v a7n (pvF 1) a0n (fun _ _=>rfl)) (a0g a0v a0i))) (c7k i1g (a1v a7n (pvF 1) a0n (fun _ _=>rfl)) (c4l a0n) d5k) (a1v a7n (pvF 1) a0n (fun _ _=>rfl))))
   (a0j (d2l PassesOwn.never rfl (b4i (a1y (a0g (pvF 2) (a0g (a1v a7n (pvF 1) a0n (fun _ _=>rfl)) a0i)))) (c5j (i:=3) a4s.nd rfl (Or.inl rfl))
   (a0o (a4z (pw_or (b5v (a7y (a1j b9w b7i (by rfl) T.d0m T.b2j.kp T.d0l .nil a3p (a0g (pvF 3) a0i)))) (pw_or1 (a0w d7y (a1l a8l (by rfl) T.d2z boot_len (a0g (pvF 3) a0i)) (a5i (v:=.int 9) (by rfl) T.b7k T.a8i) (a1k _)))).pt
   (a0o a2h)
   a1g)))
   (a0j (a4z (a0w (a6v hu) (b0j b9m (by rfl) T.f2y boot_int (a0g (a1v a7n (pvF 1) a0n (fun _ _=>rfl)) a0i)) a0n (a1k _))
   (a0o a2h)
   a1g)
   (a0j (a3s (i:=4) a4s.nd rfl (Or.inl rfl) (a1j d6q d3j (by rfl) T.f5i T.c1v.kp T.f5h .nil a3p (a0g (b0j b9m (by rfl) T.f2y boot_int (a0g (a1v a7n (pvF 1) a0n (fun _ _=>rfl)) a0i)) (a0g (b0j b9m (by rfl) T.f2y boot_int (a0g (a1v a7n (pvF 1) a0n (fun _ _=>rfl)) a0i)) a0i))))
   (a0j (a4z (a0w (b5w hu) (a1j b2k b0k (by rfl) T.c3w T.a6t.kp T.c3v .nil a3p (a0g (pvF 4) a0i)) (pvF 0) (a1k _))
   (a0o a2h)
   a1g)
   (a0o (a1z (pvF 4))))))))))),?_⟩
  rw [sl,mi]
  have hx':id (sg x=h3u t b):=hx
  clear e0 e1 hx sl mi
  have d1:((⟨#[47]⟩:Str).length == 0)=false:=rfl
  have d2:x.length<=sizeLine:=by omega
  have d3:2<=sizeLine:=by omega
  have d4:h0.length<=sizeLine:=by omega
  have d5:h1.length<=sizeLine:=by rw [tb] at n1; omega
  have N0:h0.length<=10:=by omega
  have N1:h1.length<=9:=by rw [tb] at n1; omega
  clear xl n0 n1 q1 hs
  walk_at "rd*"
  intro p H1 n1' S1 h1'
  walk_at "rd*"
  rw [if_neg (by decide)]
  refine⟨fun σ' H'=>∃ top:Str,sg top=dg t.natAbs/\σ' = [some (.str x),some (.ref p),some (.str top),none,none]/\H'=H1,?_,?_⟩
  ·walk_at "rd*"
   split
   ·rename_i ht
    have z:=h8r (x:=h0) (i:=1) (by
     rw [<- c9j,s0]
     unfold txt
     rw [if_pos ht]
     simp)
    rw [show ((1:Nat):Int)=1 from rfl] at z
    refine⟨_,?_,rfl⟩
    rw [z,s0]
    unfold txt
    rw [if_pos ht]
    rfl
   ·rename_i ht
    refine⟨_,?_,rfl⟩
    rw [s0]
    unfold txt
    rw [if_neg ht]
  ·rintro σ' H' ⟨top,st,rfl,rfl⟩
   walk_at "rd*"
   intro q H2 n2 S2 h2
   walk_at "rd*"
   have hp2:=S2 _ _ h1'
   refine⟨⟨_,SqL.of h2⟩,?_⟩
   have f0:g6i (sg top)=true:=by rw [st]; exact f6g.mpr ⟨d1s _,g9m _⟩
   have f1:g6i (sg h1)=true:=by rw [s1,tb]; exact f6g.mpr ⟨d1s _,g9m _⟩
   have m0:top.length<=9:=by rw [<- c9j,st]; exact l1
   have m1:top.length<=sizeLine:=Nat.le_trans m0 (by decide)
   refine d3r (xs:=[.str top,.str h1]) (fun i σ H'=>H'=H2/\∃ z,σ = [some (.str x),some (.ref p),some (.str top),z,none]) ⟨rfl,_,rfl⟩ (fun i σ H' _ h=>by rw [h.1]; exact SqL.of h2) ?_ ?_
   ·rintro i v σ H' hv ⟨rfl,z,rfl⟩
    match i,hv with
    | 0,hv =>
     cases hv
     walk_at "rd*"
     rw [st] at f0
     rw [f0,if_neg (by simp; omega)]
     exact⟨_,rfl⟩
    | 1,hv =>
     cases hv
     walk_at "rd*"
     rw [s1,tb] at f1
     rw [f1,if_neg (by simp; omega)]
     exact⟨_,rfl⟩
    | i+2,hv=>cases hv
   ·rintro σ H' ⟨rfl,z,rfl⟩
    walk_at "rd*"
    have v1:t.natAbs < 10 ^ 9:=by
     have:=h6m (d1s t.natAbs)
     rw [g5e] at this
     exact Nat.lt_of_lt_of_le this (Nat.pow_le_pow_right (by decide) l1)
    have v2:b.natAbs < 10 ^ 9:=by
     have:=h6m (d1s b.natAbs)
     rw [g5e] at this
     exact Nat.lt_of_lt_of_le this (Nat.pow_le_pow_right (by decide) l2)
    have g1:t.natAbs.log2 < 1920:=g1e v1
    have g2:b.natAbs.log2 < 1920:=g1e v2
    refine⟨by omega,by omega,by omega,f5p v1,f5p v2,?_⟩
    rw [r0]
    rintro _ H3 ⟨o,rfl,n3,S3,h3⟩
    replace h3:H3 o=some (.tup [.int t,.int b]):=by
     rw [h3]
     unfold h3l
     show some (HO.tup [V.int t,V.int ((b.toNat:Nat):Int)])=_
     rw [Int.toNat_of_nonneg (by omega)]
    walk_at "rd*"
    refine⟨t,b,⟨rfl,rfl⟩,g1,g2,fun y hy=>?_⟩
    rw [if_neg (not_not_intro (d1r (hy.trans hx'.symm)))]
    refine k _ _ ⟨o,rfl,?_,fun c u e=>S3 _ _ (S2 _ _ (S1 _ _ e)),h3⟩
    cases e:H o with
    | none=>rfl
    | some u =>
     have:=S2 _ _ (S1 _ _ e)
     rw [n3] at this
     cases this
theorem h1l{x:Str}{n:Nat}(h:sg x=txt (n:Int)):(Txt.startswith x ⟨#[48]⟩ && !decide (x=(⟨#[48]⟩:Str)))=false:=by
 have e:txt (n:Int)=dg n:=if_neg (by omega)
 rw [e] at h
 rcases Nat.eq_zero_or_pos n with z | z
 ·subst z
  have:x = ⟨#[48]⟩:=d1r (by rw [h]; rfl)
  rw [this]
  simp
 ·obtain⟨c,r,e1,e2⟩:=h8p z
  rw [h6n,h,e1]
  simp [e2]
theorem i5i (T : Tx K mg A) : a3q P A.wd K mg base CX0 2 A.b7m A.b7n ["text"] h9n := by
 have b9w:a3q P A.wd K mg base CX0 1 _ _ _ _:=d6p T
 refine T.c7g.ok g2x (fun vs H Q E h=>?_) (fun cdv A' outer s H vs Q E hr h=>?_)
 ·obtain⟨_,rfl,_⟩:=g7p (by unfold h9n at h; exact h)
  rfl
 ·obtain⟨x,rfl,⟨n,hx,hn,q⟩⟩:=g7p (by unfold h9n at h; exact h)
  have hu:=hr.units
  have b7i:a5z 1 _:=hr.mono (by decide)
  have sl : Str.ofString "0" = ⟨#[48]⟩ := by decide +kernel
  refine⟨_,(a0j (a4z (pw_or (b5v (a7y (a1j b9w b7i (by rfl) T.d0m T.b2j.kp T.d0l .nil a3p (a0g (pvF 0) a0i)))) (pw_or1 (a0w d7y (a1l a8l (by rfl) T.d2z boot_len (a0g (pvF 0) a0i)) (a5i (v:=.int 13) (by rfl) T.c8t T.b1o) (a1k _)))).pt
   (a0o (a1z d6v))
   a1g)
   (a0j (a4z (pw_and (a7y (c4n b9l PySem.F.plainAttrs_str PySem.F.slot_str_startswith PySem.F.type_str_startswith c7m (pvF 0) (a0g a0v a0i))) (pw_and1 (a0w (b5w hu) (pvF 0) a0v (a1k _)))).pt
   (a0o (a1z d6v))
   a1g)
   (a0o (a1z (b0j b9m (by rfl) T.f2y boot_int (a0g (pvF 0) a0i)))))),?_⟩
  rw [sl]
  walk_at "rd*"
  have e:txt (n:Int)=dg n:=if_neg (by omega)
  have f:g6i (txt (n:Int))=true:=by rw [e]; exact f6g.mpr ⟨d1s _,g9m _⟩
  have lx:x.length<=13:=by
   rw [<- c9j,hx,e]
   have a:=h3x 12 n (by omega)
   omega
  have sw:=h1l hx
  have hs:sizeLine=16777216:=sizeLine_eq
  rw [f,if_neg (by decide)]
  refine⟨by omega,?_⟩
  rw [if_neg ?_]
  ·exact⟨_,c6u hx (by omega),by omega,q⟩
  ·rintro (z | ⟨z1,z2⟩)
   ·omega
   ·rw [z1,Bool.true_and] at sw
    simp [z2] at sw
theorem i6u.same{H H':Hp}{fs:List (Str×V)}{d:Dt}(h:i6u H fs d)(S:Same H H'):i6u H' fs d:=by
 cases d with
 | gain y=>obtain⟨g,e,h1⟩:=h; exact⟨g,e,S _ _ h1⟩
 | delay n=>exact h
 | _=>exact h.elim
theorem IsP.same{A:Ad}{H H':Hp}{o:Addr}{d:Dt}(h:IsP A H o d)(S:Same H H'):IsP A H' o d:=by
 obtain⟨dx,fs,h1,h2⟩:=h
 exact⟨dx,fs,S _ _ h1,h2.same S⟩
theorem g5s (T : Tx K mg A) : a3q P A.wd K mg base CX0 1 A.b7q A.b5g ["self", "gain"] (g3w A.c4r) := by
 have b3i:=T.b3i
 have a4y:=T.a4y
 refine T.c8g.ok g0n (fun vs H Q E h=>?_) (fun cdv A' outer s H vs Q E hr h=>?_)
 ·obtain⟨_,_,rfl,_⟩:=h4i (by unfold g3w at h; exact h)
  rfl
 ·obtain⟨o,gt,rfl,⟨dx,ho,k⟩⟩:=h4i (by unfold g3w at h; exact h)
  have hu:=hr.units
  refine⟨_,(a0o (b9z (pvF 0) (pvF 1) rfl)),?_⟩
  walk_at "rd*"
  intro H1 B1 h1
  exact k H1 B1 h1
theorem h1n (T : Tx K mg A) : a3q P A.wd K mg base CX0 1 A.b5i A.b2p ["self", "many"] (f7z A.b6l) := by
 have a9m:=T.a9m
 have a4r:=T.a4r
 refine T.c4t.ok f6l (fun vs H Q E h=>?_) (fun cdv A' outer s H vs Q E hr h=>?_)
 ·obtain⟨_,_,rfl,_⟩:=f2q (by unfold f7z at h; exact h)
  rfl
 ·obtain⟨o,n,rfl,⟨dx,ho,k⟩⟩:=f2q (by unfold f7z at h; exact h)
  have hu:=hr.units
  refine⟨_,(a0o (b9z (pvF 0) (pvF 1) rfl)),?_⟩
  walk_at "rd*"
  intro H1 B1 h1
  exact k H1 B1 h1
theorem i9l (T : Tx K mg A) : a3q P A.wd K mg base CX0 1 A.a6r A.a6z ["one"] i9e := by
 refine T.a6t.ok a8k (fun vs H Q E h=>?_) (fun cdv A' outer s H vs Q E hr h=>?_)
 ·obtain⟨_,rfl,_⟩:=c8u (by unfold i9e at h; exact h)
  rfl
 ·obtain⟨p,rfl,⟨x,hp,l1,l2,q⟩⟩:=c8u (by unfold i9e at h; exact h)
  have hu:=hr.units
  unfold h3l at hp
  have fl:=g5i l1 l2
  have g1:=g5h (intBits_le_iff.mp l1) (by decide)
  have g2:=g5h (intBits_le_iff.mp l2) (by decide)
  have a:=d5n (intBits_le_iff.mp l1) (by decide)
  have b:=d5n (intBits_le_iff.mp l2) (by decide)
  have e0:Str.empty.length=0:=rfl
  have e1 : (Str.ofString "/").length = 1 := by decide +kernel
  have hs:sizeLine=16777216:=sizeLine_eq
  unfold fW at q
  refine⟨_,(a0j (a3s (i:=1) a8k.nd rfl (Or.inl rfl) (a1v a7n (pvF 0) a0n (fun _ _=>rfl)))
   (a0j (a3s (i:=2) a8k.nd rfl (Or.inl rfl) (a1v a7n (pvF 0) a0n (fun _ _=>rfl)))
   (a0o (a1z (d3u (c5n (f4p (pvF 1)) (c5n a0v (c5n (f4p (pvF 2)) g5c)))))))),?_⟩
  walk_at "rd*"
  simp only [strLen_append,e0,e1]
  refine⟨by omega,by omega,by omega,by omega,by omega,by omega⟩
theorem i9m (T : Tx K mg A) : a3q P A.wd K mg base CX0 2 A.b7r A.b5h ["self"] (i1l A 0) := by
 have b2k:a3q P A.wd K mg base CX0 1 _ _ _ _:=i9l T
 have b3i:=T.b3i
 have a4y:=T.a4y
 refine T.c8h.ok d7m (fun vs H Q E h=>?_) (fun cdv A' outer s H vs Q E hr h=>?_)
 ·obtain⟨_,rfl,_⟩:=c8u (by unfold i1l at h; exact h)
  rfl
 ·obtain⟨o,rfl,⟨d,hk,hd,ok,q⟩⟩:=c8u (by unfold i1l at h; exact h)
  cases d with
  | gain y =>
   obtain⟨dx,_,ho,g,rfl,hg⟩:=hd
   have ok:YOk y:=ok
   replace ho : H o = some (.ins A.c4r dx [("gain", .ref g)]) := ho
   have hu:=hr.units
   have b0k:a5z 1 _:=hr.mono (by decide)
   have a:=g5i ok.b.1 ok.b.2
   have e0:Str.empty.length=0:=rfl
   have e1 : (Str.ofString "gain:").length = 5 := by decide +kernel
   have hs:sizeLine=16777216:=sizeLine_eq
   refine⟨_,(a0j (a3s (i:=1) d7m.nd rfl (Or.inl rfl) (a1j b2k b0k (by rfl) T.c3w T.a6t.kp T.c3v .nil a3p (a0g (a5q (pvF 0) rfl) a0i)))
   (a0o (a1z (d3u (c5n a0v (c5n (f4p (pvF 1)) g5c)))))),?_⟩
   walk_at "rd*"
   refine⟨y,rfl,ok.b.1,ok.b.2,?_⟩
   simp only [strLen_append,e0,e1]
   exact⟨by omega,by omega,by omega,by rw [i4q]; exact q _ (Same.refl _)⟩
  | _=>simp [Dt.kd] at hk
theorem i9n (T : Tx K mg A) : a3q P A.wd K mg base CX0 1 A.b5j A.b2q ["self"] (i1l A 1) := by
 have a9m:=T.a9m
 have a4r:=T.a4r
 refine T.c4u.ok d4o (fun vs H Q E h=>?_) (fun cdv A' outer s H vs Q E hr h=>?_)
 ·obtain⟨_,rfl,_⟩:=c8u (by unfold i1l at h; exact h)
  rfl
 ·obtain⟨o,rfl,⟨d,hk,hd,ok,q⟩⟩:=c8u (by unfold i1l at h; exact h)
  cases d with
  | delay n =>
   obtain⟨dx,_,ho,rfl⟩:=hd
   have ok:n<=1000:=ok
   replace ho : H o = some (.ins A.b6l dx [("many", .int n)]) := ho
   have hu:=hr.units
   have a:=h6o (n:=n) (Nat.lt_of_le_of_lt ok (by decide))
   have e0:Str.empty.length=0:=rfl
   have e1 : (Str.ofString "delay:").length = 6 := by decide +kernel
   have hs:sizeLine=16777216:=sizeLine_eq
   have g0:=g5h (t:=(n:Int)) (n:=20) (by omega) (by decide)
   unfold nW at a
   refine⟨_,(a0j (a3s (i:=1) d4o.nd rfl (Or.inl rfl) (a5q (pvF 0) rfl))
   (a0o (a1z (d3u (c5n a0v (c5n (f4p (pvF 1)) g5c)))))),?_⟩
   walk_at "rd*"
   have w:=h8w n
   unfold nW at w
   simp only [strLen_append,e0,e1]
   refine⟨by omega,by omega,by omega,?_⟩
   rw [w]
   exact q _ (Same.refl _)
  | _=>simp [Dt.kd] at hk
theorem i9o (T : Tx K mg A) : a3q P A.wd K mg base CX0 4 A.b1t A.b1u ["text"] i9f := by
 have f1z:a3q P A.wd K mg base CX0 3 _ _ _ _:=i0h T
 refine T.b4t.ok c4o (fun vs H Q E h=>?_) (fun cdv A' outer s H vs Q E hr h=>?_)
 ·obtain⟨_,rfl,_⟩:=g7p (by unfold i9f at h; exact h)
  rfl
 ·obtain⟨x,rfl,⟨y,hx,oy,k⟩⟩:=g7p (by unfold i9f at h; exact h)
  subst hx
  have hu:=hr.units
  have c1g:a5z 3 _:=hr.mono (by decide)
  refine⟨_,(a0j (h8s (a3s (i:=1) c4o.nd rfl (Or.inl rfl) (a1j f1z c1g (by rfl) T.d0o T.a8h.kp T.d0n .nil a3p (a0g (pvF 0) a0i))))
   (a0j (a4z (pw_or (a0w d7y (a1l d9l (by rfl) T.h9f boot_abs (a0g (a1v a7n (pvF 1) a0n (fun _ _=>rfl)) a0i)) (a5i (v:=.int 1000) (by rfl) T.d7s T.c4y) (a1k _)) (pw_or1 (a0w d7y (a1v a7n (pvF 1) a0n (fun _ _=>rfl)) (a5i (v:=.int 1000) (by rfl) T.d7s T.c4y) (a1k _)))).pt
   (a0o a2h)
   a1g)
   (a0o (a1z (pvF 1))))),?_⟩
  walk_at "rd"
  refine⟨y.num,(y.den:Int),h8t oy,?_⟩
  rintro _ H1 ⟨o,rfl,n1,S1,h1⟩
  have y1:¬ 1000 < (y.num.natAbs:Int):=by have:=oy.1; omega
  have y2:¬ 1000 < (y.den:Int):=by have:=oy.2; omega
  walk_at "rd*"
  exact k _ _ ⟨o,rfl,n1,S1,h1⟩
theorem i9p (T : Tx K mg A) : a3q P A.wd K mg base CX0 3 A.a9u A.b0l ["text", "least", "most"] i9g := by
 have g7k:a3q P A.wd K mg base CX0 2 _ _ _ _:=i5i T
 refine T.b6m.ok d1w (fun vs H Q E h=>?_) (fun cdv A' outer s H vs Q E hr h=>?_)
 ·obtain⟨_,_,_,rfl,_⟩:=h6y (by unfold i9g at h; exact h)
  rfl
 ·obtain⟨x,a,b,rfl,⟨n,hx,hn,h1,h2,q⟩⟩:=h6y (by unfold i9g at h; exact h)
  have hu:=hr.units
  have g4f:a5z 2 _:=hr.mono (by decide)
  refine⟨_,(a0j (a3s (i:=3) d1w.nd rfl (Or.inl rfl) (a1j g7k g4f (by rfl) T.g6u T.c7g.kp T.g6t .nil a3p (a0g (pvF 0) a0i)))
   (a0j (a4z (pw_or (a0w i2l (pvF 3) d6v (a1k _)) (pw_or (a0w of_lt (pvF 3) (pvF 1) (a1k _)) (pw_or1 (a0w d7y (pvF 3) (pvF 2) (a1k _))))).pt
   (a0o a2h)
   a1g)
   (a0o (a1z (pvF 3))))),?_⟩
  walk_at "rd"
  refine⟨n,hx,by omega,?_⟩
  have z1:¬ (n:Int) < a:=by omega
  have z2:¬ b < (n:Int):=by omega
  walk_at "rd*"
theorem i0i (T : Tx K mg A) : a3q P A.wd K mg base CX0 1 A.a8q A.a8r ["values", "count"] i9h := by
 refine T.a7k.ok d1y (fun vs H Q E h=>?_) (fun cdv A' outer s H vs Q E hr h=>?_)
 ·obtain⟨_,_,rfl,_⟩:=f2q (by unfold i9h at h; exact h)
  rfl
 ·obtain⟨l,c,rfl,⟨xs,hl,e,q⟩⟩:=f2q (by unfold i9h at h; exact h)
  have hu:=hr.units
  refine⟨_,(a0o (a4z (a0w (b5w hu) (a1l a8l (by rfl) T.d2z boot_len (a0g (pvF 0) a0i)) (pvF 1) (a1k _))
   (a0o a2h)
   a1g)),?_⟩
  walk_at "rd*"
theorem g7l (T : Tx K mg A) : a3q P A.wd K mg base CX0 6 A.b6k A.b7s ["values"] (i1m A 0) := by
 have b0h:a3q P A.wd K mg base CX0 1 _ _ _ _:=i0i T
 have d3k:a3q P A.wd K mg base CX0 4 _ _ _ _:=i9o T
 have d3l:a3q P A.wd K mg base CX0 1 _ _ _ _:=g5s T
 have b3i:=T.b3i
 have a4y:=T.a4y
 refine T.c2k.ok f4w (fun vs H Q E h=>?_) (fun cdv A' outer s H vs Q E hr h=>?_)
 ·obtain⟨_,rfl,_⟩:=c8u (by unfold i1m at h; exact h)
  rfl
 ·obtain⟨l,rfl,⟨d,hk,ok,hl,q⟩⟩:=c8u (by unfold i1m at h; exact h)
  cases d with
  | gain y =>
   have hu:=hr.units
   have a9l:a5z 1 _:=hr.mono (by decide)
   have d0r:a5z 4 _:=hr.mono (by decide)
   have d0s:a5z 2 _:=hr.mono (by decide)
   replace hl:H l=some (.lst [.str (fW y)]):=hl
   refine⟨_,(a0j (a6o (a1j b0h a9l (by rfl) T.c1n T.a7k.kp T.c1m .nil a3p (a0g (pvF 0) (a0g a0n a0i))))
   (a0o (a1z (c7n T.g5p d3l d0s (by rfl) T.h0k T.f1h .nil a3p (a0g (a1j d3k d0r (by rfl) T.f1j T.b4t.kp T.f1i .nil a3p (a0g (a1v a7n (pvF 0) a0n (fun _ _=>rfl)) a0i)) a0i))))),?_⟩
   walk_at "rd"
   refine⟨_,hl,rfl,?_⟩
   walk_at "rd*"
   refine⟨y,rfl,ok,?_⟩
   rintro _ H1 ⟨g,rfl,n1,S1,h1⟩
   walk_at "rd"
   intro x dx H2 n2 n3 nx S2 hdx hx
   refine⟨dx,hx,fun H3 B3 h3=>?_⟩
   rw [asNew]
   refine⟨rfl,?_⟩
   have gx:g≠x:=fun e=>by rw [e] at h1; rw [h1] at n2; cases n2
   refine q x H3 (S1.free n2) (fun b u e=>B3 _ _ (fun z=>by rw [z] at e; rw [S1 _ _ e] at n2; cases n2) (S2 _ _ (S1 _ _ e))) ⟨dx,_,h3,g,rfl,B3 _ _ gx (S2 _ _ h1)⟩
  | _=>simp [Dt.kd] at hk
theorem g4g (T : Tx K mg A) : a3q P A.wd K mg base CX0 6 A.b5k A.b7t ["values"] (i1m A 1) := by
 have b0h:a3q P A.wd K mg base CX0 1 _ _ _ _:=i0i T
 have f8i:a3q P A.wd K mg base CX0 3 _ _ _ _:=i9p T
 have g1f:a3q P A.wd K mg base CX0 1 _ _ _ _:=h1n T
 have a9m:=T.a9m
 have a4r:=T.a4r
 refine T.c7h.ok g2y (fun vs H Q E h=>?_) (fun cdv A' outer s H vs Q E hr h=>?_)
 ·obtain⟨_,rfl,_⟩:=c8u (by unfold i1m at h; exact h)
  rfl
 ·obtain⟨l,rfl,⟨d,hk,ok,hl,q⟩⟩:=c8u (by unfold i1m at h; exact h)
  cases d with
  | delay n =>
   have hu:=hr.units
   have a9l:a5z 1 _:=hr.mono (by decide)
   have f3t:a5z 3 _:=hr.mono (by decide)
   have f8j:a5z 2 _:=hr.mono (by decide)
   have ok:n<=1000:=ok
   replace hl:H l=some (.lst [.str (nW n)]):=hl
   refine⟨_,(a0j (a6o (a1j b0h a9l (by rfl) T.c1n T.a7k.kp T.c1m .nil a3p (a0g (pvF 0) (a0g a0n a0i))))
   (a0o (a1z (c7n T.g3e g1f f8j (by rfl) T.h4l T.g0q .nil a3p (a0g (a1j f8i f3t (by rfl) T.f7h T.b6m.kp T.f7g .nil a3p (a0g (a1v a7n (pvF 0) a0n (fun _ _=>rfl)) (a0g a0n (a0g (a5i (v:=.int 1000) (by rfl) T.g1d T.d0j) a0i)))) a0i))))),?_⟩
   walk_at "rd"
   refine⟨_,hl,rfl,?_⟩
   walk_at "rd*"
   refine⟨n,i4k n,by omega,by omega,by omega,?_⟩
   intro x dx H2 n2 n3 nx S2 hdx hx
   refine⟨dx,hx,fun H3 B3 h3=>?_⟩
   rw [asNew]
   refine⟨rfl,?_⟩
   exact q x H3 n2 (fun b u e=>B3 _ _ (fun z=>by rw [z] at e; rw [e] at n2; cases n2) (S2 _ _ e)) ⟨dx,_,h3,rfl⟩
  | _=>simp [Dt.kd] at hk
theorem h1o (T : Tx K mg A) : a3q P A.wd K mg base CX0 8 A.b9p A.b7u ["word"] (h0v A) := by
 have f2g:a3q P A.wd K mg base CX0 6 _ _ _ _:=g7l T
 have g7m:a3q P A.wd K mg base CX0 6 _ _ _ _:=g4g T
 refine T.c2l.ok d1i (fun vs H Q E h=>?_) (fun cdv A' outer s H vs Q E hr h=>?_)
 ·obtain⟨_,rfl,_⟩:=g7p (by unfold h0v at h; exact h)
  rfl
 ·obtain⟨x,rfl,⟨d,ok,k4,hx,q⟩⟩:=g7p (by unfold h0v at h; exact h)
  subst hx
  have hu:=hr.units
  have d6r:a5z 6 _:=hr.mono (by decide)
  have g4h:a5z 6 _:=hr.mono (by decide)
  have dk:=T.f5o
  have sp:=d.split
  have wl:=d.wlen ok
  have vn:=d.vn
  have hs:sizeLine=16777216:=sizeLine_eq
  have d1:((⟨#[58]⟩:Str).length == 0)=false:=rfl
  obtain⟨f,hf⟩:∃ f,PySem.W.nsIn K A.a5m d.kind=some (some (.ref f)):=by
   cases d with
   | gain=>exact⟨_,T.a9r⟩
   | delay=>exact⟨_,T.b4j⟩
   | _=>exact absurd k4 (by simp [Dt.kd])
  refine ⟨_, (a0j (a4z (b5v (a7y (a1l (b4h .str) (by rfl) T.a1u boot_isinstance (a0g (pvF 0) (a0g (b7l (v := .ty "str") (u := .type "str") (by rfl) T.g6w rfl rfl) a0i)))))
   (a0o a2h)
   a1g)
   (a0j (a3s (i:=1) d1i.nd rfl (Or.inl rfl) (c4n b9l PySem.F.plainAttrs_str PySem.F.slot_str_split PySem.F.type_str_split d8r (pvF 0) (a0g a0v a0i)))
   (a0j (a4z (a0w (g0a (K:=K) (w:=A.wd) (by rfl) (by rfl)) (a1v a7n (pvF 1) a0n (fun _ _=>rfl)) (a5i (v:=.ref A.a5m) (by rfl) T.c1w rfl) (by rfl))
   (a0o a2h)
   a1g)
   (a0o (a1z (d3w (d8s f2g d6r T.c2k.kp T.g0s .nil a3p (a1v (i6q (K:=K) (w:=A.wd) (by rfl) (by rfl)) (a5i (v:=.ref A.a5m) (by rfl) T.c1w rfl) (a1v a7n (pvF 1) a0n (fun _ _=>rfl)) (fun _ _=>rfl)) (a0g (c7k i1g (pvF 1) (c4l a0n) d5k) a0i)) (d8s g7m g4h T.c7h.kp T.g6v .nil a3p (a1v (i6q (K:=K) (w:=A.wd) (by rfl) (by rfl)) (a5i (v:=.ref A.a5m) (by rfl) T.c1w rfl) (a1v a7n (pvF 1) a0n (fun _ _=>rfl)) (fun _ _=>rfl)) (a0g (c7k i1g (pvF 1) (c4l a0n) d5k) a0i)))))))),?_⟩
  rw [i8v]
  walk_at "rd*"
  refine⟨by omega,by omega,fun l H1 n1 S1 h1=>?_⟩
  clear sp wl
  walk_at "rd*"
  clear hf
  cases d with
  | gain y =>
   refine Or.inl ?_
   have rd:=T.a9r
   have q1:=ok
   clear ok
   replace h1 : H1 l = some (.lst [.str (Str.ofString "gain"), .str (fW y)]) := h1
   walk_at "rd*"
   refine fun m H2 n2 S2 h2=>?_
   have e2 : g1z [V.str (Str.ofString "gain"), V.str (fW y)] (some 1) none = (Dt.gain y).vals.map V.str := by
    show g4y _ (some ((1:Nat):Int)) none=_
    rw [c9g]
    rfl
   rw [e2] at h2
   walk_at "rd"
   exact⟨_,rfl,q1,h2,fun o H3 n3 S3 hp=>q o H3 ((S1.trans S2).free n3) (S1.trans (S2.trans S3)) hp⟩
  | delay n =>
   refine Or.inr ?_
   have rd:=T.b4j
   have q1:=ok
   clear ok
   replace h1 : H1 l = some (.lst [.str (Str.ofString "delay"), .str (nW n)]) := h1
   walk_at "rd*"
   refine fun m H2 n2 S2 h2=>?_
   have e2 : g1z [V.str (Str.ofString "delay"), V.str (nW n)] (some 1) none = (Dt.delay n).vals.map V.str := by
    show g4y _ (some ((1:Nat):Int)) none=_
    rw [c9g]
    rfl
   rw [e2] at h2
   walk_at "rd"
   exact⟨_,rfl,q1,h2,fun o H3 n3 S3 hp=>q o H3 ((S1.trans S2).free n3) (S1.trans (S2.trans S3)) hp⟩
  | _=>exact absurd k4 (by simp [Dt.kd])
theorem h1p {c : Nat} (h1 : 97 ≤ c) (h2 : c ≤ 122) : g5d "abcdefghijklmnopqrstuvwxyz" ⟨#[c]⟩ = true := by
 unfold g5d
 rw [StrLaws.found_one]
 have e : (Str.ofString "abcdefghijklmnopqrstuvwxyz").cps.toList = List.range' 97 26 := by decide +kernel
 rw [e,decide_eq_true_eq]
 exact List.mem_range'_1.mpr ⟨h1,by omega⟩
theorem g1g{x:Str}{D:Addr}{te:TE}{σ:L2.St}{H0 H:Hp}{Q:VK}(f:Nat->V)(n0:H0 D=none)(S:Same H0 H)(hD:H D=some (.lst []))(hsz:x.cps.size<=sizeLine)
  (hs:∀ (i:Nat) c H' (Q':VK),x.cps[i]? = some c->Same H0 H'->Q' (f c) H'->te (some (.str ⟨#[c]⟩) :: σ) H' Q') (q:∀ H',Same H0 H'->H' D=some (.lst (x.cps.toList.map f))->Q (.ref D) H'):f5y (Its x) te D σ H Q ⟨⟩:=by
 refine⟨x.cps.size,fun i ys H'=>Same H0 H'/\H' D=some (.lst ys)/\ys=(x.cps.toList.take i).map f,⟨S,hD,by simp⟩,fun i ys H' hi w=>?_⟩
 obtain⟨S',h',e⟩:=w
 refine⟨h',?_⟩
 by_cases hlt:i < x.cps.size
 ·refine .inr ⟨hlt,hlt,by rw [e,List.length_map,List.length_take]; omega,fun v H2 y=>?_⟩
  obtain⟨e2,c,hc,ev⟩:=y
  subst e2 ev
  refine hs i c _ _ hc S' ⟨h',fun H3 s3 h3=>⟨S'.step n0 s3,h3,?_⟩⟩
  have hc':x.cps.toList[i]? = some c:=by rw [Array.getElem?_toList]; exact hc
  rw [List.take_add_one,hc',List.map_append,e]
  rfl
 ·have e3:i=x.cps.size:=by omega
  subst e3
  refine .inl ⟨rfl,q H' S' ?_⟩
  rw [h',e,List.take_of_length_le (by rw [Array.length_toList]; exact Nat.le_refl _)]
theorem h1q (T : Tx K mg A) : a3q P A.wd K mg base CX0 1 A.b9q A.b7v ["value"] f8g := by
 refine T.c2m.ok f4y (fun vs H Q E h=>?_) (fun cdv A' outer s H vs Q E hr h=>?_)
 ·obtain⟨_,rfl,_⟩:=g7p (by unfold f8g at h; exact h)
  rfl
 ·obtain⟨x,rfl,⟨⟨l8,ne,ab⟩,q⟩⟩:=g7p (by unfold f8g at h; exact h)
  have hu:=hr.units
  have hs:sizeLine=16777216:=sizeLine_eq
  have nl:¬ (8:Int) < (x.length:Int):=by omega
  have ne' : (x = Str.ofString "") = False := eq_false ne
  have xl:x.length<=16777216:=by omega
  refine ⟨_, (a0j (a4z (pw_or (b5v (a7y (a1l (b4h .str) (by rfl) T.a1u boot_isinstance (a0g (pvF 0) (a0g (b7l (v := .ty "str") (u := .type "str") (by rfl) T.g6w rfl rfl) a0i))))) (pw_or (a0w (a6v hu) (pvF 0) a0v (a1k _)) (pw_or1 (a0w d7y (a1l a8l (by rfl) T.d2z boot_len (a0g (pvF 0) a0i)) (a5i (v := .int 8) (by rfl) T.d0q T.b7h) (a1k _))))).pt
   (a0o (a1z d7w))
   a1g)
   (a0o (a1z (a1l (g0g rfl) (by rfl) T.i5e boot_all (a0g (c8z (g9k (pvF 0)) (fun _ _ _ _ _ => (b1l d6y (pvF 0) (a5i (v := .str "abcdefghijklmnopqrstuvwxyz") (by rfl) T.f5n T.d1j) (by rfl))) (d9n (sc := a0q d4i) (N := ["value"]) rfl rfl (by decide +kernel)) rfl) a0i))))), ?_⟩
  walk_at "rd*"
  refine fun D H2 n2 S2 h2=>?_
  refine g1g (fun _=>V.bl true) n2 S2 h2 (show x.length<=sizeLine by omega) ?_ ?_
  ·intro i c H' Q' hc SS q'
   have hm:=ab c (by rw [Array.mem_toList_iff]; exact Array.mem_of_getElem? hc)
   have hh:=h1p hm.1 hm.2
   walk_at "rd*"
  ·intro H3 S3 h3
   walk_at "rd*"
   refine⟨x.cps.toList.map fun _=>true,by rw [List.map_map]; rfl,?_⟩
   rw [show (x.cps.toList.map fun _=>true).all id=true by simp]
   exact q H3 S3
theorem h4z (T : Tx K mg A) : a3q P A.wd K mg base CX0 1 A.a9s A.b2o ["self"] g3x := by
 refine T.c4s.ok f6k (fun vs H Q E h=>?_) (fun cdv A' outer s H vs Q E hr h=>?_)
 ·obtain⟨_,rfl,_⟩:=c8u (by unfold g3x at h; exact h)
  rfl
 ·obtain⟨o,rfl,k⟩:=c8u (by unfold g3x at h; exact h)
  have hu:=hr.units
  refine⟨_,(a0o (a1z (c1z a0i))),?_⟩
  walk_at "rd"
  refine⟨Nat.zero_le _,fun t H1 n1 S1 h1=>k _ _ ⟨t,rfl,n1,S1,h1⟩⟩
theorem g7u.same{A:Ad}{H H':Hp}{os:List Addr}{ds:List Dt}(h:g7u A H os ds)(S:Same H H'):g7u A H' os ds:=⟨h.1,fun i o d e1 e2=>(h.2 i o d e1 e2).same S⟩
theorem IsP.keep{A:Ad}{D:Addr}{H H':Hp}{o:Addr}{d:Dt}(h:IsP A H o d)(no:o≠D)(nt:∀ ts,H D≠some (.tup ts))(B:a7h D H H'):IsP A H' o d:=by
 have ne:∀ {p:Addr} {ts:List V},H p=some (.tup ts)->H' p=some (.tup ts):=fun hp=>B _ _ (fun e=>by rw [e] at hp; exact nt _ hp) hp
 obtain⟨dx,fs,h1,h2⟩:=h
 refine⟨dx,fs,B _ _ no h1,?_⟩
 cases d with
 | gain y=>obtain⟨g,e,h1⟩:=h2; exact⟨g,e,ne h1⟩
 | delay n=>exact h2
 | _=>exact h2.elim
theorem g7u.keep{A:Ad}{D:Addr}{H H':Hp}{os:List Addr}{ds:List Dt}(h:g7u A H os ds)(no:∀ o∈os,o≠D)(nt:∀ ts,H D≠some (.tup ts))(B:a7h D H H'):g7u A H' os ds:=⟨h.1,fun i o d e1 e2=>(h.2 i o d e1 e2).keep (no o (List.mem_of_getElem? e1)) nt B⟩
theorem g7u.snoc{A:Ad}{H:Hp}{os:List Addr}{ds:List Dt}{o:Addr}{d:Dt}(h:g7u A H os ds)(hp:IsP A H o d):g7u A H (os++[o]) (ds++[d]):=by
 obtain⟨hl,h⟩:=h
 refine⟨by rw [List.length_append,List.length_append,hl]; rfl,fun i s e h1 h2=>?_⟩
 rcases Nat.lt_or_ge i ds.length with z | z
 ·rw [List.getElem?_append_left (by omega)] at h1
  rw [List.getElem?_append_left z] at h2
  exact h i s e h1 h2
 ·have hi:=(List.getElem?_eq_some_iff.mp h2).1
  rw [List.length_append,List.length_singleton] at hi
  obtain rfl:i=ds.length:=by omega
  rw [<- hl,List.getElem?_concat_length] at h1
  rw [List.getElem?_concat_length] at h2
  cases h1
  cases h2
  exact hp
theorem i5j (T : Tx K mg A) : a3q P A.wd K mg base CX0 9 A.b5l A.b4n ["words"] (h9o A) := by
 have f2h:a3q P A.wd K mg base CX0 8 _ _ _ _:=h1o T
 refine T.b8m.ok f0l (fun vs H Q E h=>?_) (fun cdv A' outer s H vs Q E hr h=>?_)
 ·obtain⟨_,rfl,_⟩:=c8u (by unfold h9o at h; exact h)
  rfl
 ·obtain⟨l,rfl,⟨ds,hl,l8,ok,q⟩⟩:=c8u (by unfold h9o at h; exact h)
  have hu:=hr.units
  have d6s:a5z 8 _:=hr.mono (by decide)
  have hs:sizeLine=16777216:=sizeLine_eq
  have z1:¬ (8:Int) < (ds.length:Int):=by omega
  refine ⟨_, (a0j (a4z (b5v (a7y (a1l (b4h .lst) (by rfl) T.a1u boot_isinstance (a0g (pvF 0) (a0g (b7l (v := .ty "list") (u := .type "list") (by rfl) T.f5l rfl rfl) a0i)))))
   (a0o a2h)
   a1g)
   (a0j (a4z (a0w d7y (a1l a8l (by rfl) T.d2z boot_len (a0g (pvF 0) a0i)) (a5i (v:=.int 8) (by rfl) T.d5h T.c1l) (a1k _))
   (a0o a2h)
   a1g)
   (a0o (a1z (c8z (b4i (pvF 0)) (fun _ _ _ _ _ => (a1j f2h d6s (by rfl) T.g0u T.c2l.kp T.g0t .nil a3p (a0g (pvF 0) a0i))) (d9n (sc := a0q d1h) (N := ["words"]) rfl rfl (by decide +kernel)) rfl))))), ?_⟩
  walk_at "rd*"
  refine⟨⟨_,SqL.of hl⟩,fun D H2 n2 S2 h2=>?_⟩
  refine c1q (xs:=ds.map fun d=>V.str d.word) (fun i ys H'=>Same H H'/\H' D=some (.lst ys)/\∃ os:List Addr,ys=os.map V.ref/\(∀ o∈os,H o=none/\o≠D)/\g7u A H' os (ds.take i)) ⟨S2,h2,[],rfl,(fun o ho=>by cases ho),rfl,fun i o d e=>by simp at e⟩ (by rw [List.length_map,hs]; omega) ?_ ?_ ?_
  ·intro i ys H' hi ⟨S',h',os,e,no,R⟩
   rw [List.length_map] at hi
   exact⟨h',SqL.of (S' _ _ hl),by rw [e,List.length_map,R.1,List.length_take]; omega⟩
  ·intro i x ys H' hx ⟨S',h',os,e,no,R⟩
   rw [List.getElem?_map] at hx
   obtain⟨d,hd,rfl⟩:=Option.map_eq_some_iff.mp hx
   have o1:=ok d (List.mem_of_getElem? hd)
   walk_at "rd"
   refine⟨d,o1.1,o1.2,rfl,fun o H3 n3 S3 hp=>?_⟩
   have no3:∀ p∈os++[o],H p=none/\p≠D:=fun p hp=>by
    rcases List.mem_append.mp hp with h | h
    ·exact no p h
    ·obtain rfl:=List.mem_singleton.mp h
     exact⟨S'.free n3,fun z=>by rw [z,h'] at n3; cases n3⟩
   refine⟨S3 _ _ h',fun H4 B4 h4=>⟨(S'.trans S3).step n2 B4,h4,os++[o],(by rw [e,List.map_append]; rfl),no3,?_⟩⟩
   rw [List.take_add_one,hd]
   exact ((R.same S3).snoc hp).keep (fun p hp=>(no3 p hp).2) (fun ts z=>by rw [S3 _ _ h'] at z; cases z) B4
  ·intro ys H3 ⟨S3,h3,os,e,no,R⟩
   rw [List.length_map,List.take_length] at R
   subst e
   exact q D os H3 n2 (fun o ho=>(no o ho).1) S3 h3 R
theorem ChW.same{A:Ad}{H H':Hp}{o:Addr}{ds:List Dt}(h:ChW A H o ds)(S:Same H H'):ChW A H' o ds:=by
 obtain⟨dx,pl,sl,os,h1,h2,h3⟩:=h
 exact⟨dx,pl,sl,os,S _ _ h1,S _ _ h2,h3.same S⟩
theorem h1r{C o:Addr}{i:Nat}{m:Str}{sp:Sp}{E:XK}{t:TA}{σ:L2.St}{H:Hp}{Q:VK}{dx:Addr}{fs:List (Str×V)}(hσ:σ[i]? = some (some (.ref o)))(ho:H o=some (.ins C dx fs))(hl:fs.lookup m=none)(ht:t σ H fun vs H2=>sp (.ref o :: (vs++[])) H2 Q E):d9s C m sp [] E (g6f i) t σ H Q:=by
 simp only [d9s,g6f,hσ,ho]
 exact⟨trivial,hl,ht⟩
theorem j1g {σ : L2.St} {i : Nat} {o : Addr} {H : Hp} {d : Dt} {Q : VK} {E : XK} {m : Str} {s0 s1 : Sp} (hσ : σ[i]? = some (some (.ref o))) (hd : IsP A H o d) (nm : m ≠ ("gain" : Str) ∧ m ≠ ("many" : Str))
  (q:(match d with | .gain _=>s0 | _=>s1) [.ref o] H Q E):g9q (d9s A.c4r m s0 [] E (g6f i) i2o) (d9s A.b6l m s1 [] E (g6f i) i2o) σ H Q:=by
 obtain⟨m1,m2⟩:=nm
 have b:∀ {a c:Str},a≠c->(a == c)=false:=fun h=>beq_false_of_ne h
 obtain⟨dx,fs,ho,hf⟩:=hd
 cases d with
 | gain y =>
  obtain⟨g,rfl,_⟩:=hf
  exact .inl (h1r hσ ho (by simp only [gnF,List.lookup,b m1]) q)
 | delay n =>
  obtain rfl:=hf
  exact .inr (h1r hσ ho (by simp only [dlF,List.lookup,b m2]) q)
 | _=>exact hf.elim
theorem h5a (T : Tx K mg A) : a3q P A.wd K mg base CX0 10 A.b1v A.a9v ["self", "words"] (g3y A) := by
 have d6t:a3q P A.wd K mg base CX0 9 _ _ _ _:=i5j T
 have d7u:a3q P A.wd K mg base CX0 1 _ _ _ _:=h4z T
 have b2w:=T.b2w
 have a4t:=T.a4t
 have a3t:=T.a3t
 have b3i:=T.b3i
 have a4y:=T.a4y
 have a9m:=T.a9m
 have a4r:=T.a4r
 refine T.b9s.ok d4p (fun vs H Q E h=>?_) (fun cdv A' outer s H vs Q E hr h=>?_)
 ·obtain⟨_,_,rfl,_⟩:=h4i (by unfold g3y at h; exact h)
  rfl
 ·obtain⟨o,l,rfl,⟨dx,ds,ho,hl,l8,ok,q⟩⟩:=h4i (by unfold g3y at h; exact h)
  have hu:=hr.units
  have d3m:a5z 9 _:=hr.mono (by decide)
  have d5i:a5z 1 _:=hr.mono (by decide)
  have hs:sizeLine=16777216:=sizeLine_eq
  refine⟨_,(a0j (b9z (pvF 0) (a1j d6t d3m (by rfl) T.f5k T.b8m.kp T.f5j .nil a3p (a0g (pvF 1) a0i)) rfl)
   (a0o (b9z (pvF 0) (c8z (b4i (a5q (pvF 0) rfl)) (fun _ _ _ _ _ => (d3w (b6h (pvF 0) T.b3i T.c7w d7u d5i T.d7q .nil a3p) (b6h (pvF 0) T.a9m T.c5p d7u d5i T.d7q .nil a3p))) (d9n (sc := a0q c9m) (N := ["self", "words"]) rfl rfl (by decide +kernel)) rfl) rfl))), ?_⟩
  walk_at "rd"
  refine⟨ds,hl,l8,ok,fun pl os H1 np no S1 hpl R=>?_⟩
  have ho1:=S1 _ _ ho
  have noc:∀ p∈os,p≠o:=fun p hp e=>by rw [<- e,no p hp] at ho; cases ho
  walk_at "rd*"
  intro H2 B2 h2
  have nop:o≠pl:=fun e=>by rw [<- e,ho] at np; cases np
  have i6x:=B2 _ _ nop.symm hpl
  have R2:=R.keep noc (fun ts z=>by rw [ho1] at z; cases z) B2
  clear hpl R ho ho1
  walk_at "rd*"
  refine⟨⟨_,SqL.of i6x⟩,fun D H3 n3 S3 h3=>?_⟩
  have ol:=R2.1
  refine c1q (xs:=os.map V.ref) (fun i ys H'=>Same H2 H'/\H' D=some (.lst ys)/\ys.length=i) ⟨S3,h3,rfl⟩ (by rw [List.length_map,hs]; omega) ?_ ?_ ?_
  ·intro i ys H' hi ⟨S',h',yl⟩
   exact⟨h',SqL.of (S' _ _ i6x),yl⟩
  ·intro i x ys H' hx ⟨S',h',yl⟩
   rw [List.getElem?_map] at hx
   obtain⟨oi,hoi,rfl⟩:=Option.map_eq_some_iff.mp hx
   have hi:=(List.getElem?_eq_some_iff.mp hoi).1
   have hd : ds[i]? = some (ds[i]'(by omega)) := List.getElem?_eq_getElem _
   have hp:=(R2.2 i _ _ hoi hd).same S'
   generalize ds[i]'(by omega) = d at hd hp
   try walk_at "rd"
   have fin:∀ (v:V) H5,Same H' H5->(H5 D=some (.lst ys)/\∀ H6,a7h D H5 H6->H6 D=some (.lst (ys++[v]))->Same H2 H6/\H6 D=some (.lst (ys++[v]))/\ys.length+1=i+1):=fun v H5 S5=>⟨S5 _ _ h',fun H6 B6 h6=>⟨(S'.trans S5).step n3 B6,h6,by rw [yl]⟩⟩
   refine j1g rfl hp (by decide +kernel) ?_
   cases d <;> exact fun v H5 ⟨p,e,n5,S5,h5⟩=>fin v H5 S5
  ·intro ys H4 ⟨S4,h4,yl⟩
   have ho4:=S4 _ _ h2
   have hpl4:=S4 _ _ i6x
   have R4:=R2.same S4
   clear h2 h3 i6x
   walk_at "rd*"
   intro H5 B5 h5
   exact q H5 (fun z u hz e=>B5 _ _ hz (S4 _ _ (B2 _ _ hz (S1 _ _ e)))) ⟨dx,pl,D,os,h5,B5 _ _ nop.symm hpl4,R4.keep noc (fun ts z=>by rw [ho4] at z; cases z) B5⟩
theorem h1s{K:PySem.W.Frag}{a D:Addr}{xs:List V}{te:TE}{σ:L2.St}{H0 H:Hp}{Q:VK}(zs:List V)(hz:zs.length=xs.length)(n0:H0 D=none)(S:Same H0 H)(hD:H D=some (.lst []))(hS:SqL K H0 a xs)(hsz:xs.length<=sizeLine)
  (hs:∀ (i:Nat) x z H' (Q':VK),xs[i]? = some x->zs[i]? = some z->Same H0 H'->(∀ H2,Same H' H2->Q' z H2)->te (some x :: σ) H' Q') (q:∀ H',Same H0 H'->H' D=some (.lst zs)->Q (.ref D) H'):f5y (Itl K a) te D σ H Q ⟨⟩:=by
 refine c1q (fun i ys H'=>Same H0 H'/\H' D=some (.lst ys)/\ys=zs.take i) ⟨S,hD,by simp⟩ hsz (fun i ys H' hi p=>?_) (fun i x ys H' hx p=>?_) (fun ys H' p=>?_)
 ·refine⟨p.2.1,p.1.seq hS,?_⟩
  rw [p.2.2,List.length_take]
  omega
 ·have hi:i < zs.length:=by rw [hz]; exact (List.getElem?_eq_some_iff.mp hx).1
  have hzi:zs[i]? = some zs[i]:=List.getElem?_eq_getElem hi
  refine hs i x _ H' _ hx hzi p.1 fun H2 S2=>⟨S2 _ _ p.2.1,fun H3 s3 h3=>⟨(p.1.trans S2).step n0 s3,h3,?_⟩⟩
  rw [p.2.2,List.take_add_one,hzi]
  rfl
 ·refine q H' p.1 ?_
  rw [p.2.1,p.2.2,<- hz,List.take_length]
theorem i5k (T : Tx K mg A) : a3q P A.wd K mg base CX0 4 A.b2r A.b0m ["self"] (h9p A) := by
 have g4i:a3q P A.wd K mg base CX0 2 _ _ _ _:=i9m T
 have g1h:a3q P A.wd K mg base CX0 1 _ _ _ _:=i9n T
 have b2w:=T.b2w
 have a4t:=T.a4t
 have a3t:=T.a3t
 have b3i:=T.b3i
 have a4y:=T.a4y
 have a9m:=T.a9m
 have a4r:=T.a4r
 refine T.c1i.ok f2s (fun vs H Q E h=>?_) (fun cdv A' outer s H vs Q E hr h=>?_)
 ·obtain⟨_,rfl,_⟩:=c8u (by unfold h9p at h; exact h)
  rfl
 ·obtain⟨o,rfl,⟨ds,⟨dx,pl,sl,os,ho,hpl,R⟩,l8,ok,q⟩⟩:=c8u (by unfold h9p at h; exact h)
  have hu:=hr.units
  have g1i:a5z 2 _:=hr.mono (by decide)
  have f8k:a5z 1 _:=hr.mono (by decide)
  have hs:sizeLine=16777216:=sizeLine_eq
  have ol:=R.1
  unfold chF at ho
  refine ⟨_, (a0o (a1z (c8z (b4i (a5q (pvF 0) rfl)) (fun _ _ _ _ _ => (d3w (b6h (pvF 0) T.b3i T.c9r g4i g1i T.g3i .nil a3p) (b6h (pvF 0) T.a9m T.c7y g1h f8k T.g0r .nil a3p))) (d9n (sc := a0q c7p) (N := ["self"]) rfl rfl (by decide +kernel)) rfl))), ?_⟩
  walk_at "rd*"
  refine⟨⟨_,SqL.of hpl⟩,fun D H2 n2 S2 h2=>?_⟩
  refine h1s (ds.map fun d=>V.str d.word) (by rw [List.length_map,List.length_map,ol]) n2 S2 h2 (SqL.of hpl) (by rw [List.length_map,hs]; omega) ?_ ?_
  ·intro i x z H' Q' hx hz S' q'
   rw [List.getElem?_map] at hx hz
   obtain⟨oi,hoi,rfl⟩:=Option.map_eq_some_iff.mp hx
   obtain⟨d,hd,rfl⟩:=Option.map_eq_some_iff.mp hz
   have hp:=(R.2 i _ _ hoi hd).same S'
   have okd:=ok d (List.mem_of_getElem? hd)
   have hi:=(List.getElem?_eq_some_iff.mp hoi).1
   try walk_at "rd"
   refine j1g rfl hp (by decide +kernel) ?_
   obtain⟨okd,kd2⟩:=okd
   cases d with
   | gain y=>exact⟨_,rfl,hp,okd,fun H1 S1=>q' H1 S1⟩
   | delay n=>exact⟨_,rfl,hp,okd,fun H1 S1=>q' H1 S1⟩
   | _=>exact absurd kd2 (by simp [Dt.kd])
  ·intro H3 S3 h3
   exact q _ _ ⟨D,rfl,n2,S3,h3⟩
theorem b0i(x:Str):∀ ts:List Str,inV (.str x) (ts.map V.str)=decide (x∈ts)
 | []=>rfl
 | t :: ts=>by
  have ih:=b0i x ts
  unfold inV at ih ⊢
  rw [List.map_cons,List.any_cons,ih]
  by_cases h:t=x
  ·subst h
   simp [eqV]
  ·have:eqV (.str t) (.str x)=false:=by simp [eqV,h]
   rw [this]
   simp
   exact fun e=>absurd e.symm h
theorem b4g(ts:List Str):(ts.map V.str).all b1q=true:=by
 rw [List.all_eq_true]
 intro v hv
 obtain⟨n,_,rfl⟩:=List.mem_map.mp hv
 rfl
theorem h7e (T : Tx K mg A) : a3q P A.wd K mg base CX0 2 A.a5r A.a5n ["self", "name"] (h9q A) := by
 have f2i:a3q P A.wd K mg base CX0 1 _ _ _ _:=h1q T
 have a0s:=T.a0s
 have a0h:=T.a0h
 have a0l:=T.a0l
 have a0k:=T.a0k
 have a0m:=T.a0m
 refine T.a9q.ok c4p (fun vs H Q E h=>?_) (fun cdv A' outer s H vs Q E hr h=>?_)
 ·obtain⟨_,_,rfl,_⟩:=g6r (by unfold h9q at h; exact h)
  rfl
 ·obtain⟨o,x,rfl,⟨t,b,sd,ts,bs,es,⟨dx,ou,ps,ho,ht,hb,hsd,hE,d1,d2,d3⟩,nm,nt,nb,q⟩⟩:=g6r (by unfold h9q at h; exact h)
  have hu:=hr.units
  have d6u:a5z 1 _:=hr.mono (by decide)
  unfold ptF at ho
  refine⟨_,(a0j (a4z (b5v (a7y (a1j f2i d6u (by rfl) T.g0w T.c2m.kp T.g0v .nil a3p (a0g (pvF 1) a0i))))
   (a0o a2h)
   a1g)
   (a0o (a4z (pw_or (a0w d6y (pvF 1) (a5q (pvF 0) rfl) (by rfl)) (pw_or1 (a0w d6y (pvF 1) (a5q (pvF 0) rfl) (by rfl)))).pt
   (a0o a2h)
   a1g))),?_⟩
  walk_at "rd"
  refine⟨nm,fun H1 S1=>?_⟩
  have ho1:=S1 _ _ ho
  have ht1:=S1 _ _ ht
  have hb1:=S1 _ _ hb
  have i1:inV (.str x) (ts.map V.str)=false:=by rw [b0i]; exact decide_eq_false nt
  have i2:inV (.str x) (bs.map V.str)=false:=by rw [b0i]; exact decide_eq_false nb
  have f1:=b4g ts
  have f2:=b4g bs
  clear ho ht hb
  walk_at "rd*"
  exact⟨rfl,rfl⟩
theorem h7f{H:Hp}{N:Addr->Prop}:∀ {es:List Sd} {us:List V},RpL H N us (es.map dSd)->∃ ps:List Addr,us=ps.map V.ref/\Eds H ps (prs es)
 | [],_,.nil=>⟨[],rfl,rfl,fun i p e h=>by simp at h⟩
 | e :: es,_,.cons h r=>by
  obtain⟨ps,rfl,hl,hE⟩:=h7f r
  obtain⟨p,vs,rfl,hp,r2⟩:=h.tuple
  obtain⟨x,y,z,rfl,h1,h2,h3⟩:=r2.three
  cases h1.strOf
  cases h2.strOf
  obtain⟨lw,ws,rfl,_⟩:=h3.list
  refine⟨p :: ps,rfl,by rw [List.length_cons,hl]; rfl,fun i q f e1 e2=>?_⟩
  cases i with
  | zero=>cases e1; cases e2; exact⟨lw,hp⟩
  | succ i=>exact hE i q f e1 e2
theorem c5g.pt{A:Ad}{H:Hp}{N:Addr->Prop}{o:Addr}{p:Pd}(h:c5g A H N o p):∃ t b sd,i6v A H o t b sd p.ts p.bs (prs p.es):=by
 obtain⟨dx,t,b,sd,ou,ho,n,d,ht,hb,⟨us,hsd,R⟩,_⟩:=h
 obtain⟨ps,rfl,hE⟩:=h7f R
 exact⟨t,b,sd,dx,ou,ps,ho,ht,hb,hsd,hE,d.1,d.2.1,d.2.2.2.1⟩
theorem c5g.over{A:Ad}{H H':Hp}{N M:Addr->Prop}{o:Addr}{p:Pd}(h:c5g A H N o p)(S:b6i M H H')(hd:∀ z,N z->H z≠none->¬ M z):c5g A H' N o p:=by
 obtain⟨dx,t,b,sd,ou,ho,F⟩:=h
 exact⟨dx,t,b,sd,ou,S _ _ (fun _ ys q=>by cases q) ho,F.over S hd⟩
theorem c5g.same{A:Ad}{H H':Hp}{N:Addr->Prop}{o:Addr}{p:Pd}(h:c5g A H N o p)(S:Same H H'):c5g A H' N o p:=h.over (M:=fun _=>False) (b6i.of S) fun _ _ _ h=>h
theorem c5g.mono{A:Ad}{H:Hp}{N M:Addr->Prop}{o:Addr}{p:Pd}(h:c5g A H N o p)(hm:∀ z,N z->H z≠none->M z):c5g A H M o p:=by
 obtain⟨dx,t,b,sd,ou,ho,F⟩:=h
 exact⟨dx,t,b,sd,ou,ho,F.mono hm⟩
theorem i9q (T : Tx K mg A) : a3q P A.wd K mg base CX0 1 A.b5m A.b2s ["self"] (i9i A) := by
 have a0s:=T.a0s
 have a0h:=T.a0h
 have a0l:=T.a0l
 have a0k:=T.a0k
 have a0m:=T.a0m
 refine T.c4v.ok f6m (fun vs H Q E h=>?_) (fun cdv A' outer s H vs Q E hr h=>?_)
 ·obtain⟨_,rfl,_⟩:=c8u (by unfold i9i at h; exact h)
  rfl
 ·obtain⟨o,rfl,⟨dx,ho,q⟩⟩:=c8u (by unfold i9i at h; exact h)
  have hu:=hr.units
  have hs:sizeLine=16777216:=sizeLine_eq
  have fr:∀ {H1:Hp} {z:Addr},a7h o H H1->H1 z=none->z≠o->H z=none:=fun B n nz=>by
   cases e:H _ with
   | none=>rfl
   | some u=>rw [B _ _ nz e] at n; cases n
  have ap:∀ {H1:Hp} {z y:Addr} {u:HO},H1 z=none->H1 y=some u->z≠y:=fun n e q=>by rw [q,e] at n; cases n
  refine⟨_,(a0j (b9z (pvF 0) (a1y a0i) rfl)
   (a0j (b9z (pvF 0) (a1y a0i) rfl)
   (a0j (b9z (pvF 0) (a1y a0i) rfl)
   (a0o (b9z (pvF 0) (a1y a0i) rfl))))),?_⟩
  walk_at "rd"
  refine⟨by omega,fun t H1 n1 S1 h1=>?_⟩
  have ho1:=S1 _ _ ho
  have ot:=ap n1 ho
  walk_at "rd*"
  intro H2 B2 h2
  have h12:=B2 _ _ ot h1
  have B02:a7h o H H2:=fun z u hz e=>B2 _ _ hz (S1 _ _ e)
  clear h1 ho1
  walk_at "rd*"
  refine fun b H3 n3 S3 h3=>?_
  have ho3:=S3 _ _ h2
  have ob:=ap n3 h2
  have tb:=ap n3 h12
  have nb:=fr B02 n3 ob
  clear h2
  walk_at "rd*"
  intro H4 B4 h4
  have h14:=B4 _ _ ot (S3 _ _ h12)
  have h34:=B4 _ _ ob h3
  have B04:a7h o H H4:=fun z u hz e=>B4 _ _ hz (S3 _ _ (B02 _ _ hz e))
  clear h12 h3 ho3
  walk_at "rd*"
  refine fun sd H5 n5 S5 h5=>?_
  have ho5:=S5 _ _ h4
  have os:=ap n5 h4
  have ts:=ap n5 h14
  have bs:=ap n5 h34
  have ns:=fr B04 n5 os
  clear h4
  walk_at "rd*"
  intro H6 B6 h6
  have h16:=B6 _ _ ot (S5 _ _ h14)
  have h36:=B6 _ _ ob (S5 _ _ h34)
  have h56:=B6 _ _ os h5
  have B06:a7h o H H6:=fun z u hz e=>B6 _ _ hz (S5 _ _ (B04 _ _ hz e))
  clear h14 h34 h5 ho5
  walk_at "rd*"
  refine fun ou H7 n7 S7 h7=>?_
  have ho7:=S7 _ _ h6
  have oo:=ap n7 h6
  have to:=ap n7 h16
  have bo:=ap n7 h36
  have so:=ap n7 h56
  have nu:=fr B06 n7 oo
  clear h6
  walk_at "rd*"
  intro H8 B8 h8
  exact q H8 (fun z u hz e=>B8 _ _ hz (S7 _ _ (B06 _ _ hz e))) ⟨dx,t,b,sd,ou,h8,⟨n1,nb,ns,nu⟩,⟨tb.symm,ts.symm,to.symm,bs.symm,bo.symm,so.symm⟩,B8 _ _ ot (S7 _ _ h16),B8 _ _ ob (S7 _ _ h36),⟨[],B8 _ _ os (S7 _ _ h56),.nil⟩,[],B8 _ _ oo h7,.nil⟩
theorem h7g (T : Tx K mg A) : a3q P A.wd K mg base CX0 3 A.a9w A.a8t ["self", "name"] (h9r A) := by
 have a5w:a3q P A.wd K mg base CX0 2 _ _ _ _:=h7e T
 have a0s:=T.a0s
 have a0h:=T.a0h
 have a0l:=T.a0l
 have a0k:=T.a0k
 have a0m:=T.a0m
 refine T.b6n.ok d1z (fun vs H Q E h=>?_) (fun cdv A' outer s H vs Q E hr h=>?_)
 ·obtain⟨_,_,rfl,_⟩:=g6r (by unfold h9r at h; exact h)
  rfl
 ·obtain⟨o,x,rfl,⟨N,p,hP,nm,nt,nb,l1,q⟩⟩:=g6r (by unfold h9r at h; exact h)
  obtain⟨t',b',sd',hT⟩:=hP.pt
  obtain⟨dx,t,b,sd,ou,ho,F⟩:=id hP
  have ht:=F.ht
  have hb:=F.hb
  have hu:=hr.units
  have hs:sizeLine=16777216:=sizeLine_eq
  have a5o:a5z 2 _:=hr.mono (by decide)
  unfold ptF at ho
  refine⟨_,(a0j (a6o (a8p (pvF 0) T.a0s T.a6y a5w a5o T.b3g .nil a3p (a0g (pvF 1) a0i)))
   (a0o (a6o (c4n c4m PySem.F.plainAttrs_list PySem.F.slot_list_append PySem.F.type_list_append c1r (a5q (pvF 0) rfl) (a0g (pvF 1) a0i))))),?_⟩
  walk_at "rd*"
  refine⟨t',b',sd',_,_,_,hT,nt,nb,fun H1 S1=>?_⟩
  have ho1:=S1 _ _ ho
  have ht1:=S1 _ _ ht
  clear ho ht
  walk_at "rd*"
  refine⟨by omega,?_⟩
  rintro _ H2 ⟨rfl,B2,h2⟩
  try walk_at "rd"
  exact q H2 ((b6i.of S1).trans (b6i.one ht1 F.n.1 B2)) ⟨dx,t,b,sd,ou,B2 _ _ (fun e=>by rw [e,ht1] at ho1; cases ho1) ho1,(F.same S1).addT h2 B2⟩
theorem h7h (T : Tx K mg A) : a3q P A.wd K mg base CX0 3 A.b4o A.b1w ["self", "name"] (h9s A) := by
 have a5w:a3q P A.wd K mg base CX0 2 _ _ _ _:=h7e T
 have a0s:=T.a0s
 have a0h:=T.a0h
 have a0l:=T.a0l
 have a0k:=T.a0k
 have a0m:=T.a0m
 refine T.c2n.ok d7n (fun vs H Q E h=>?_) (fun cdv A' outer s H vs Q E hr h=>?_)
 ·obtain⟨_,_,rfl,_⟩:=g6r (by unfold h9s at h; exact h)
  rfl
 ·obtain⟨o,x,rfl,⟨N,p,hP,nm,nt,nb,l1,q⟩⟩:=g6r (by unfold h9s at h; exact h)
  obtain⟨t',b',sd',hT⟩:=hP.pt
  obtain⟨dx,t,b,sd,ou,ho,F⟩:=id hP
  have ht:=F.ht
  have hb:=F.hb
  have hu:=hr.units
  have hs:sizeLine=16777216:=sizeLine_eq
  have a5o:a5z 2 _:=hr.mono (by decide)
  unfold ptF at ho
  refine⟨_,(a0j (a6o (a8p (pvF 0) T.a0s T.a6y a5w a5o T.b3g .nil a3p (a0g (pvF 1) a0i)))
   (a0o (a6o (c4n c4m PySem.F.plainAttrs_list PySem.F.slot_list_append PySem.F.type_list_append c1r (a5q (pvF 0) rfl) (a0g (pvF 1) a0i))))),?_⟩
  walk_at "rd*"
  refine⟨t',b',sd',_,_,_,hT,nt,nb,fun H1 S1=>?_⟩
  have ho1:=S1 _ _ ho
  have hb1:=S1 _ _ hb
  clear ho hb
  walk_at "rd*"
  refine⟨by omega,?_⟩
  rintro _ H2 ⟨rfl,B2,h2⟩
  try walk_at "rd"
  exact q H2 ((b6i.of S1).trans (b6i.one hb1 F.n.2.1 B2)) ⟨dx,t,b,sd,ou,B2 _ _ (fun e=>by rw [e,hb1] at ho1; cases ho1) ho1,(F.same S1).addB h2 B2⟩
theorem Rch.refl(es:List (Str×Str))(x:Str):Rch es x x:=fun _ h _=>h
theorem Rch.step{es:List (Str×Str)}{x u v:Str}(h:Rch es x u)(he:(u,v)∈es):Rch es x v:=fun S hx hc=>hc u v (h S hx hc) he
theorem filter_lt{α:Type}{p q:α->Bool}:∀ {l:List α} {a:α},(∀ x,q x=true->p x=true)->a∈l->p a=true->q a=false->(l.filter q).length < (l.filter p).length
 | [],_,_,h,_,_=>by cases h
 | x :: l,a,hpq,h,ha,hqa=>by
  have le:∀ l:List α,(l.filter q).length<=(l.filter p).length:=fun l=>by
   induction l with
   | nil=>exact Nat.le_refl _
   | cons y l ih =>
    rw [List.filter_cons,List.filter_cons]
    cases hq:q y with
    | true=>rw [if_pos rfl,if_pos (hpq y hq),List.length_cons,List.length_cons]; omega
    | false =>
     rw [if_neg Bool.false_ne_true]
     split
     ·rw [List.length_cons]; omega
     ·exact ih
  rw [List.filter_cons,List.filter_cons]
  rcases List.mem_cons.mp h with e | h
  ·subst e
   rw [if_neg (by rw [hqa]; exact Bool.false_ne_true),if_pos ha,List.length_cons]
   have:=le l
   omega
  ·have ih:=filter_lt hpq h ha hqa
   cases hq:q x with
   | true=>rw [if_pos rfl,if_pos (hpq x hq),List.length_cons,List.length_cons]; omega
   | false =>
    rw [if_neg Bool.false_ne_true]
    split
    ·rw [List.length_cons]; omega
    ·exact ih
theorem i5l{es:List (Str×Str)}{ks:List Str}{e:Str×Str}(he:e∈es)(hn:e.2∉ks):cnt es (ks++[e.2]) < cnt es ks:=by
 refine filter_lt (fun x hx=>?_) he (by simpa using hn) (by simp)
 simp at hx ⊢
 exact hx.1
theorem f2j:∀ {kvs:List (Key×V)} {k:Key},k∉kvs.map (·.1)->d8o kvs k=none
 | [],_,_=>rfl
 | p :: r,k,h=>by
  rw [List.map_cons,List.mem_cons,not_or] at h
  rw [d3p (fun e=>h.1 e.symm)]
  exact f2j h.2
theorem f2k:∀ {kvs:List (Key×V)} {k:Key},k∈kvs.map (·.1)->∃ v,d8o kvs k=some v/\(k,v)∈kvs
 | [],_,h=>by cases h
 | p :: r,k,h=>by
  by_cases e:p.1=k
  ·exact⟨p.2,d8p e,by rw [<- e]; exact List.mem_cons_self⟩
  ·rw [List.map_cons,List.mem_cons] at h
   obtain⟨v,h1,h2⟩:=f2k (h.resolve_left fun z=>e z.symm)
   exact⟨v,by rw [d3p e]; exact h1,List.mem_cons_of_mem _ h2⟩
theorem h1t{x:Str}{ks:List Str}:kT x∈ks.map kT ↔ x∈ks:=by
 constructor
 ·intro h
  obtain⟨y,hy,e⟩:=List.mem_map.mp h
  injection e with e
  rw [<- e]
  exact hy
 ·exact fun h=>List.mem_map_of_mem h
theorem g7v.same{H H':Hp}{L:Addr}{kvs:List (Key×V)}{ks:List Str}(h:g7v H L kvs ks)(S:Same H H'):g7v H' L kvs ks :=
 ⟨h.1,fun kv hkv=>(h.2 kv hkv).elim fun l z=>z.elim fun ss q=>⟨l,ss,q.1,q.2.1,S _ _ q.2.2.1,q.2.2.2⟩⟩
theorem g7v.i5m{H H':Hp}{L:Addr}{kvs:List (Key×V)}{ks:List Str}(h:g7v H L kvs ks)(B:a7h L H H'):g7v H' L kvs ks :=
 ⟨h.1,fun kv hkv=>(h.2 kv hkv).elim fun l z=>z.elim fun ss q=>⟨l,ss,q.1,q.2.1,B _ _ q.2.1 q.2.2.1,q.2.2.2⟩⟩
theorem g7v.put{H H':Hp}{L W l:Addr}{kvs kvs':List (Key×V)}{ks:List Str}{z:Str}{ss:List Str}(h:g7v H L kvs ks)(hW:H W=some (.dK kvs'))(hz:z∉ks)(hl:H l=some (.lst (ss.map V.str)))(nl:l≠L)(sl:ss.length<=kvs.length+1)(B:a7h W H H'):g7v H' L (putK kvs (kT z) (.ref l)) (ks++[z])/\(putK kvs (kT z) (.ref l)).length=kvs.length+1:=by
 have hn:d8o kvs (kT z)=none:=f2j (by rw [h.1,h1t]; exact hz)
 have ne:∀ {p:Addr} {ys:List V},H p=some (.lst ys)->p≠W:=fun e q=>by rw [q,hW] at e; cases e
 rw [h3c _ hn]
 refine⟨⟨by rw [List.map_append,List.map_append,h.1]; rfl,fun kv hkv=>?_⟩,by rw [List.length_append]; rfl⟩
 rw [List.length_append,List.length_singleton]
 rcases List.mem_append.mp hkv with h1 | h1
 ·obtain⟨l',ss',e1,e2,e3,e4⟩:=h.2 kv h1
  exact⟨l',ss',e1,e2,B _ _ (ne e3) e3,by omega⟩
 ·obtain rfl:=List.mem_singleton.mp h1
  exact⟨l,ss,rfl,nl,B _ _ (ne hl) hl,sl⟩
theorem i5n (T : Tx K mg A) : a3q P A.wd K mg base CX0 1 A.b7w A.b5n ["self", "start", "end"] (h9t A) := by
 have a0s:=T.a0s
 have a0h:=T.a0h
 have a0l:=T.a0l
 have a0k:=T.a0k
 have a0m:=T.a0m
 refine T.c8i.ok b9n (fun vs H Q E h=>?_) (fun cdv A' outer s H vs Q E hr h=>?_)
 ·obtain⟨_,_,_,rfl,_⟩:=h6w (by unfold h9t at h; exact h)
  rfl
 ·obtain⟨o,x,y,rfl,⟨t,b,sd,ts,bs,es,hP,nr,e100,okx,oke,q⟩⟩:=h6w (by unfold h9t at h; exact h)
  have hu:=hr.units
  have hs:sizeLine=16777216:=sizeLine_eq
  obtain⟨dx,ou,ps,ho,ht,hb,hsd,hE,d1,d2,d3⟩:=id hP
  unfold ptF at ho
  have el:=hE.1
  refine⟨_,(a0j (a3s (i:=3) b9n.nd rfl (Or.inl rfl) (h4e (pvF 1) (a1y (a0g (pvF 1) a0i))))
   (a0j (a3s (i:=4) b9n.nd rfl (Or.inl rfl) (a1y (a0g (pvF 1) a0i)))
   (a0j (f9t PassesOwn.never (a0w (b5w hu) (pvF 4) (a1y a0i) (a1k _))
   (a0j (a3s (i:=5) b9n.nd rfl (Or.inl rfl) (g9o c4m PySem.F.plainAttrs_list PySem.F.slot_list_pop PySem.F.type_list_pop h8x (pvF 4)))
   (a0j (a4z (a0w (a6v hu) (pvF 5) (pvF 2) (a1k _))
   (a0o (a1z (g5l (hu1 hu) (pvF 3) (pvF 5) (fun _ _=>rfl))))
   a1g)
   (a0o (d2l PassesOwn.never rfl (b4i (a5q (pvF 0) rfl)) (c5j (i:=6) b9n.nd rfl (Or.inl rfl))
   (a0o (a4z (pw_and (a0w (a6v hu) (a1v a7n (pvF 6) a0n (fun _ _=>rfl)) (pvF 5) (a1k _)) (pw_and1 (h8z (g6k (hu1 hu) (a1v a7n (pvF 6) a0n (fun _ _=>rfl)) (pvF 3)) (by rfl)))).pt
   (a0j (h4d (hu1 hu) (pvF 3) (a1v a7n (pvF 6) a0n (fun _ _=>rfl)) (a2i a7i (g5l (hu1 hu) (pvF 3) (pvF 5) (fun _ _=>rfl)) (a1y (a0g (a1v a7n (pvF 6) a0n (fun _ _=>rfl)) a0i))) rfl)
   (a0o (a6o (c4n c4m PySem.F.plainAttrs_list PySem.F.slot_list_append PySem.F.type_list_append c1r (pvF 4) (a0g (a1v a7n (pvF 6) a0n (fun _ _=>rfl)) a0i)))))
   a1g)))))))
   (a0o (a1z (a1y a0i)))))),?_⟩
  walk_at "rd"
  refine fun W H1 n1 S1 h1=>⟨by omega,fun l1 H2 n2 S2 h2=>⟨x,rfl,S2 _ _ h1,fun H3 B3 h3=>?_⟩⟩
  have nlW:l1≠W:=fun e=>by rw [e,h1] at n2; cases n2
  have h23:=B3 _ _ nlW h2
  have S03:Same H H3:=fun z u e=>B3 _ _ (fun q=>by rw [q,n1] at e; cases e) (S2 _ _ (S1 _ _ e))
  clear h1 h2
  walk_at "rd"
  refine⟨by omega,fun L H4 n4 S4 h4=>?_⟩
  have nWL:W≠L:=fun e=>by rw [<- e,h3] at n4; cases n4
  have nL:H L=none:=S03.free n4
  have h34:=S4 _ _ h3
  have h24:=S4 _ _ h23
  have h23':=h23
  clear h3 h23
  obtain⟨Pv,pin,pout⟩:=g9f (fun m σ H'=>∃ (kvs:List (Key×V)) (ks ws:List Str) (v5 v6:Option V),σ = [some (.ref o),some (.str x),some (.str y),some (.ref W),some (.ref L),v5,v6]/\Same H H'/\H' W=some (.dK kvs)/\H' L=some (.lst (ws.map V.str))/\g7v H' L kvs ks/\(∀ z∈ws,z∈ks)/\(∀ z∈ks,Rch es x z/\PyData.strOk z=true)/\kvs.length+cnt es ks<=es.length+1/\2*cnt es ks+ws.length<=2*es.length+1/\m=2*cnt es ks+ws.length)
  have nlL:l1≠L:=fun e=>by rw [<- e,h23'] at n4; cases n4
  have w0:g7v H4 L [(kT x,.ref l1)] [x]:=⟨rfl,fun kv hkv=>by
   obtain rfl:=List.mem_singleton.mp hkv
   exact⟨l1,[x],rfl,nlL,h24,Nat.le_refl _⟩⟩
  have c0:cnt es [x] <= es.length:=List.length_filter_le _ _
  refine f9u Pv _ (pin _ _ _ ⟨_,[x],[x],_,_,rfl,S03.trans S4,h34,h4,w0,fun z hz=>hz,fun z hz=>by obtain rfl:=List.mem_singleton.mp hz; exact⟨Rch.refl _ _,okx⟩,by rw [List.length_singleton]; omega,by rw [List.length_singleton]; omega,rfl⟩) ?_
  intro m σ H5 hp
  obtain⟨kvs,ks,ws,v5,v6,rfl,S5,hW,hL,wy,wk,kr,kc,mb,em⟩:=pout _ _ _ hp
  clear hp h4 h34 h24 w0
  walk_at "rd"
  refine⟨by omega,fun l6 H6 n6 S6 h6=>?_⟩
  have hW6:=S6 _ _ hW
  have hL6:=S6 _ _ hL
  walk_at "rd"
  refine d8t (ns:=ws) (ms:=[]) (SqL.of hL6) (SqL.of h6) (fun z hz=>(kr z (wk z hz)).2) (fun z hz=>by cases hz) ?_
  cases ws with
  | nil =>
   rw [show (!decide (([] : List Str) = []))=false from rfl]
   walk_at "rd"
   refine⟨by omega,fun l7 H7 n7 S7 h7=>q _ _ ⟨l7,rfl,(S5.trans S6).free n7,S5.trans (S6.trans S7),h7⟩⟩
  | cons w0 wr =>
   obtain⟨ws,ews⟩:∃ ws,w0 :: wr=ws:=⟨_,rfl⟩
   have wne:ws≠[]:=by rw [<- ews]; exact fun e=>by cases e
   have wl:0 < ws.length:=by rw [<- ews]; exact Nat.succ_pos _
   rw [ews] at hL6 wk em mb ⊢
   rw [decide_eq_false wne]
   clear hW hL h6
   walk_at "rd*"
   rintro v H7 ⟨hv,B7,h7⟩
   rw [List.length_map,List.getElem?_map,List.getElem?_eq_getElem (by omega)] at hv
   cases hv
   obtain ⟨sc, esc⟩ : ∃ z, ws[ws.length - 1]'(by omega) = z := ⟨_, rfl⟩
   have scw:sc∈ws:=by rw [<- esc]; exact List.getElem_mem _
   have sck:=wk sc scw
   have ny:sc≠y:=fun e=>nr (by rw [<- e]; exact (kr sc sck).1)
   have ny':(sc=y)=False:=eq_false ny
   rw [esc]
   rw [<- List.map_dropLast] at h7
   have hW7:=B7 _ _ nWL hW6
   have S7':Same H H7:=(S5.trans S6).step nL B7
   have ho7:=S7' _ _ ho
   have i0j:=S7' _ _ hsd
   have wy7:=(wy.same S6).i5m B7
   have dl:ws.dropLast.length=ws.length - 1:=List.length_dropLast
   clear hW6 hL6
   walk_at "rd*"
   refine⟨⟨_,SqL.of i0j⟩,?_⟩
   obtain⟨Pw,win,wout⟩:=g9f (fun i σ H'=>∃ (kv2:List (Key×V)) (k2 w2:List Str) (v6:Option V),σ = [some (.ref o),some (.str x),some (.str y),some (.ref W),some (.ref L),some (.str sc),v6]/\Same H H'/\H' W=some (.dK kv2)/\H' L=some (.lst (w2.map V.str))/\g7v H' L kv2 k2/\sc∈k2/\(∀ z∈w2,z∈k2)/\(∀ z∈k2,Rch es x z/\PyData.strOk z=true)/\kv2.length+cnt es k2<=es.length+1/\2*cnt es k2+w2.length+1<=2*cnt es ks+ws.length)
   refine d3r (xs:=ps.map V.ref) Pw (win _ _ _ ⟨kvs,ks,ws.dropLast,_,rfl,S7',hW7,h7,wy7,sck,fun z hz=>wk z (List.dropLast_subset _ hz),kr,kc,by omega⟩) ?_ ?_ ?_
   ·intro i σ H8 hi hp
    obtain⟨kv2,k2,w2,v6',rfl,S8,_⟩:=wout _ _ _ hp
    exact SqL.of (S8 _ _ hsd)
   ·intro i v σ H8 hv hp
    rw [List.getElem?_map] at hv
    obtain⟨p,hpi,rfl⟩:=Option.map_eq_some_iff.mp hv
    obtain⟨kv2,k2,w2,v6',rfl,S8,hW8,hL8,wy8,sk8,wk8,kr8,kc8,em8⟩:=wout _ _ _ hp
    have hi:=(List.getElem?_eq_some_iff.mp hpi).1
    have hei : es[i]? = some (es[i]'(by omega)) := List.getElem?_eq_getElem _
    obtain⟨lw,hpe⟩:=hE.2 i p _ hpi hei
    have me:=List.mem_of_getElem? hei
    generalize es[i]'(by omega) = e at hei hpe me
    have hp8:=S8 _ _ hpe
    have iv:=f2j (kvs:=kv2) (k:=kT e.2)
    clear hv hp ho7 i0j hW7 h7
    walk_at "rd*"
    split
    ·rename_i hc
     obtain⟨v,hv1,hv2⟩:=f2k (kvs:=kv2) (k:=kT sc) (by rw [wy8.1,h1t]; exact sk8)
     obtain⟨lv,ss,ev,nlv,hlv,sl⟩:=wy8.2 _ hv2
     replace ev:v = .ref lv:=ev
     subst ev
     have hn:e.2∉k2:=fun hm=>by
      obtain⟨u,hu1,_⟩:=f2k (kvs:=kv2) (k:=kT e.2) (by rw [wy8.1,h1t]; exact hm)
      rw [hu1] at hc
      exact absurd hc.2 (by simp)
     refine⟨_,hv1,fun l9 H9 n9 S9 h9=>?_⟩
     have hlv9:=S9 _ _ hlv
     walk_at "rd*"
     refine⟨by omega,fun l10 H10 n10 S10 h10=>?_⟩
     have h7i:=S9.trans S10
     have j1h:=h7i _ _ hW8
     have i6y:=h7i _ _ hp8
     have hL10:=h7i _ _ hL8
     have n10L:l10≠L:=fun q=>by rw [q,S9 _ _ hL8] at n10; cases n10
     clear hW8 hp8 h9 hlv9
     walk_at "rd*"
     refine⟨by omega,fun H11 B11 h11=>?_⟩
     have hL11:=B11 _ _ nWL.symm hL10
     have hp11:=B11 _ _ (fun q=>by rw [q,j1h] at i6y; cases i6y) i6y
     have j1i:=(wy8.same h7i).put (z:=e.2) j1h hn (ss:=ss++[e.2]) (by rw [h10,List.map_append]; rfl) n10L (by rw [List.length_append,List.length_singleton]; omega) B11
     have nHW:H W=none:=n1
     clear i6y
     walk_at "rd*"
     refine⟨by omega,?_⟩
     rintro _ H12 ⟨rfl,B12,h12⟩
     have cl:=i5l me hn
     refine win _ _ _ ⟨_,k2++[e.2],w2++[e.2],_,rfl,((S8.trans h7i).step nHW B11).step nL B12,B12 _ _ nWL h11,by rw [h12,List.map_append]; rfl,j1i.1.i5m B12,List.mem_append_left _ sk8,fun z hz=>?_,fun z hz=>?_,by rw [j1i.2]; omega,by rw [List.length_append,List.length_singleton]; omega⟩
     ·rcases List.mem_append.mp hz with h | h
      ·exact List.mem_append_left _ (wk8 z h)
      ·exact List.mem_append_right _ h
     ·rcases List.mem_append.mp hz with h | h
      ·exact kr8 z h
      ·obtain rfl:=List.mem_singleton.mp h
       exact⟨(kr8 sc sk8).1.step (by rw [<- hc.1]; exact me),oke _ me⟩
    ·exact win _ _ _ ⟨kv2,k2,w2,_,rfl,S8,hW8,hL8,wy8,sk8,wk8,kr8,kc8,em8⟩
   ·intro σ H8 hp
    obtain⟨kv2,k2,w2,v6',rfl,S8,hW8,hL8,wy8,sk8,wk8,kr8,kc8,em8⟩:=wout _ _ _ hp
    exact⟨2*cnt es k2+w2.length,by omega,pin _ _ _ ⟨kv2,k2,w2,_,_,rfl,S8,hW8,hL8,wy8,wk8,kr8,kc8,by omega,rfl⟩⟩
theorem i0k (T : Tx K mg A) : a3q P A.wd K mg base CX0 2 A.a8s A.a7z ["self", "greatest"] (h0w A.b2g) := by
 have c1y:a3q P A.wd K mg base CX0 1 _ _ _ _:=f1w T
 have b0t:=T.b0t
 have a2j:=T.a2j
 have a5g:=T.a5g
 have a5h:=T.a5h
 refine T.b3q.ok c9n (fun vs H Q E h=>?_) (fun cdv A' outer s H vs Q E hr h=>?_)
 ·obtain⟨_,_,rfl,_⟩:=f2q (by unfold h0w at h; exact h)
  rfl
 ·obtain⟨o,g,rfl,⟨dx,ho,g1,g2,k⟩⟩:=f2q (by unfold h0w at h; exact h)
  have hu:=hr.units
  have b9i:a5z 1 _:=hr.mono (by decide)
  refine⟨_,(a0j (a4z (pw_or (b5v (a7y (a1j c1y b9i (by rfl) T.d1l T.b2z.kp T.d1k .nil a3p (a0g (pvF 1) a0i)))) (pw_or (a0w of_lt (pvF 1) a0n (a1k _)) (pw_or1 (a0w d7y (pvF 1) (a5i (v:=.int 1000000000000) (by rfl) T.h0s T.f6z) (a1k _))))).pt
   (a0o a2h)
   a1g)
   (a0j (b9z (pvF 0) (pvF 1) rfl)
   (a0j (b9z (pvF 0) a0n rfl)
   (a0o (b9z (pvF 0) (c1z (a0g a0n (a0g a0n a0i))) rfl))))),?_⟩
  walk_at "rd*"
  rw [if_neg (by omega)]
  intro H1 B1 h1
  walk_at "rd*"
  intro H2 B2 h2
  walk_at "rd*"
  intro r H3 n3 S3 h3
  have h23:=S3 _ _ h2
  walk_at "rd*"
  intro H4 B4 h4
  have nr:H r=none:=by
   cases hn:H r with
   | none=>rfl
   | some u =>
    exfalso
    by_cases e:r=o
    ·rw [e,h2] at n3
     cases n3
    ·rw [B2 _ _ e (B1 _ _ e hn)] at n3
     cases n3
  have ro:r≠o:=fun e=>by
   rw [e,h2] at n3
   cases n3
  exact k r H4 nr (fun b u hb e=>B4 _ _ hb (S3 _ _ (B2 _ _ hb (B1 _ _ hb e)))) (B4 _ _ ro h3) h4
theorem h1u (T : Tx K mg A) : a3q P A.wd K mg base CX0 12 A.b1y A.a9y ["self", "source", "bus", "words"] (h0x A) := by
 have d0t:a3q P A.wd K mg base CX0 10 _ _ _ _:=h5a T
 have f8l:a3q P A.wd K mg base CX0 4 _ _ _ _:=i5k T
 have g4j:a3q P A.wd K mg base CX0 1 _ _ _ _:=i5n T
 have a0s:=T.a0s
 have a0h:=T.a0h
 have a0l:=T.a0l
 have a0k:=T.a0k
 have a0m:=T.a0m
 have b2w:=T.b2w
 have a4t:=T.a4t
 have a3t:=T.a3t
 refine T.b9t.ok b6j (fun vs H Q E h=>?_) (fun cdv A' outer s H vs Q E hr h=>?_)
 ·obtain⟨_,_,_,_,rfl,_⟩:=h0b (by unfold h0x at h; exact h)
  rfl
 ·obtain⟨o,x,y,l,rfl,⟨N,p,ds,hP,hl,l8,okd,hx,hy,nr,e99,oky,oke,q⟩⟩:=h0b (by unfold h0x at h; exact h)
  have hu:=hr.units
  have hs:sizeLine=16777216:=sizeLine_eq
  have c8q:a5z 11 _:=hr.mono (by decide)
  have f3u:a5z 4 _:=hr.mono (by decide)
  have g1j:a5z 1 _:=hr.mono (by decide)
  obtain⟨dx,t,b,sd,ou,ho,F⟩:=id hP
  have ht:=F.ht
  have hb:=F.hb
  obtain⟨us,hsd,R1⟩:=F.hs
  have el:=R1.h6p
  unfold ptF at ho
  have ft:=b4g p.ts
  have fb:=b4g p.bs
  have i1:=b0i x p.ts
  have i2:=b0i x p.bs
  have i3:=b0i y p.bs
  refine⟨_,(a0j (a4z (pw_and (a0w c9i (pvF 1) (a5q (pvF 0) rfl) (by rfl)) (pw_and1 (a0w c9i (pvF 1) (a5q (pvF 0) rfl) (by rfl)))).pt
   (a0o a2h)
   a1g)
   (a0j (a4z (a0w c9i (pvF 2) (a5q (pvF 0) rfl) (by rfl))
   (a0o a2h)
   a1g)
   (a0j (a3s (i:=4) b6j.nd rfl (Or.inl rfl) (c7n T.f6u d0t c8q (by rfl) T.g5q T.d7r .nil a3p (a0g (pvF 3) a0i)))
   (a0j (a3s (i:=5) b6j.nd rfl (Or.inl rfl) (a8p (pvF 0) T.a0s T.c9s g4j g1j T.g3j .nil a3p (a0g (pvF 2) (a0g (pvF 1) a0i))))
   (a0j (a4z (a0w (b5w hu) (pvF 5) (a1y a0i) (a1k _))
   (a0o a2h)
   a1g)
   (a0o (a6o (c4n c4m PySem.F.plainAttrs_list PySem.F.slot_list_append PySem.F.type_list_append c1r (a5q (pvF 0) rfl) (a0g (c1z (a0g (pvF 1) (a0g (pvF 2) (a0g (b6h (pvF 4) T.b2w T.c5q f8l f3u T.f7i .nil a3p) a0i)))) a0i))))))))),?_⟩
  walk_at "rd*"
  have key:∀ R:Prop,R->(if ¬ x∈p.ts then b1q (V.str x)=true/\if ¬ x∈p.bs then False else R else R):=fun R hR=>by
   split
   ·rename_i h1
    rw [if_neg (not_not_intro (hx.resolve_left h1))]
    exact⟨rfl,hR⟩
   ·exact hR
  refine⟨rfl,key _ ⟨rfl,?_⟩⟩
  intro c cx H2 n2 n2' nx S2 hdx hc
  refine⟨cx,ds,hc,S2 _ _ hl,l8,okd,fun H3 B3 hC=>?_⟩
  rw [asNew]
  refine⟨rfl,?_⟩
  have S03:Same H H3:=fun z u e=>B3 _ _ (fun ze=>by rw [ze] at e; rw [e] at n2; cases n2) (S2 _ _ e)
  have ho3:=S03 _ _ ho
  obtain⟨t',b',sd',hT⟩:=(hP.same S03).pt
  clear hc
  walk_at "rd*"
  refine⟨t',b',sd',_,_,_,hT,nr,by rw [prs,List.length_map]; omega,(fun e he=>?_),?_⟩
  ·obtain⟨z,hz,rfl⟩:=List.mem_map.mp he
   exact oke z hz
  rintro _ H4 ⟨rg,rfl,n4,S4,h4⟩
  clear ho3
  walk_at "rd"
  refine⟨by omega,fun l5 H5 n5 S5 h5=>?_⟩
  walk_at "rd"
  refine d8t (ns:=[]) (ms:=[]) (SqL.of (S5 _ _ h4)) (SqL.of h5) (fun z hz=>by cases hz) (fun z hz=>by cases hz) ?_
  rw [show (!decide (([] : List Str) = []))=false from rfl]
  have S35:=S4.trans S5
  have S05:=S03.trans S35
  have ho5:=S05 _ _ ho
  have j1j:=S05 _ _ hsd
  have hC5:=hC.same S35
  obtain⟨cx',pl',sl',os',hc5,hpl5,R5⟩:=id hC5
  unfold chF at hc5
  clear h4 h5 hC hpl5 R5
  walk_at "rd*"
  refine⟨ds,hC5,l8,okd,?_⟩
  rintro _ H6 ⟨lw,rfl,n6,S6,h6⟩
  clear ho5 hc5
  walk_at "rd"
  refine⟨by omega,fun p7 H7 n7 S7 h7=>?_⟩
  have S57:=S6.trans S7
  have S07:=S05.trans S57
  have i0j:=S57 _ _ j1j
  clear j1j
  walk_at "rd*"
  refine⟨by omega,?_⟩
  rintro _ H8 ⟨rfl,B8,h8⟩
  try walk_at "rd"
  have F7:Fl H7 (fun a=>N a\/H a=none) t b sd ou p:=(F.same S07).mono fun z hz _=>.inl hz
  have nlw:H lw=none:=S05.free n6
  have ne:∀ {z:Addr} {u:HO},H z=some u->lw≠z:=fun e q=>by rw [<- q,nlw] at e; cases e
  obtain⟨_,hou,_⟩:=F.ho
  have rr:Rp H7 (Nw (fun a=>N a\/H a=none) t b sd ou) (.ref p7) (dSd (x,y,ds.map Dt.word)):=.tup h7 (.cons (.str _) (.cons (.str _) (.cons (.lst ⟨.inr nlw,ne ht,ne hb,ne hsd,ne hou⟩ (by rw [S7 _ _ h6,List.map_map]; rfl) (RpL.strs _)) .nil)))
  exact q H8 ((b6i.of S07).trans (b6i.one i0j F.n.2.2.1 B8)) ⟨dx,t,b,sd,ou,B8 _ _ (fun e=>by rw [<- e,S07 _ _ ho] at i0j; cases i0j) (S07 _ _ ho),F7.addS i0j rr h8 B8⟩
theorem h7j (T : Tx K mg A) : a3q P A.wd K mg base CX0 4 A.b4p A.b1z ["self", "bus", "greatest"] (h9u A) := by
 have c6p:a3q P A.wd K mg base CX0 2 _ _ _ _:=i0k T
 have a0s:=T.a0s
 have a0h:=T.a0h
 have a0l:=T.a0l
 have a0k:=T.a0k
 have a0m:=T.a0m
 have b0t:=T.b0t
 have a2j:=T.a2j
 have a5g:=T.a5g
 have a5h:=T.a5h
 refine T.c2o.ok c4q (fun vs H Q E h=>?_) (fun cdv A' outer s H vs Q E hr h=>?_)
 ·obtain⟨_,_,_,rfl,_⟩:=h6v (by unfold h9u at h; exact h)
  rfl
 ·obtain⟨o,y,g,rfl,⟨N,p,hP,hy,hn,g1,g2,o99,q⟩⟩:=h6v (by unfold h9u at h; exact h)
  have hu:=hr.units
  have hs:sizeLine=16777216:=sizeLine_eq
  have c4h:a5z 3 _:=hr.mono (by decide)
  obtain⟨dx,t,b,sd,ou,ho,F⟩:=id hP
  have hb:=F.hb
  obtain⟨us,hou,R2⟩:=F.ho
  have ul:=R2.h6p
  unfold ptF at ho
  have fb:=b4g p.bs
  have i3:=b0i y p.bs
  refine⟨_,(a0j (a4z (a0w c9i (pvF 1) (a5q (pvF 0) rfl) (by rfl))
   (a0o a2h)
   a1g)
   (a0j (a4z (a0w d6y (pvF 1) (c8z (b4i (a5q (pvF 0) rfl)) (fun _ _ _ _ _ => (a1v a7n (pvF 0) a0n (fun _ _ => rfl))) (d9n (sc := a0q c7q) (N := ["self", "bus", "greatest", "settler"]) rfl rfl (by decide +kernel)) rfl) (by rfl))
   (a0o a2h)
   a1g)
   (a0j (a3s (i:=3) c4q.nd rfl (Or.inl rfl) (c7n T.d4s c6p c4h (by rfl) T.f5m T.d2h .nil a3p (a0g (pvF 2) a0i)))
   (a0o (a6o (c4n c4m PySem.F.plainAttrs_list PySem.F.slot_list_append PySem.F.type_list_append c1r (a5q (pvF 0) rfl) (a0g (c1z (a0g (pvF 1) (a0g (a5q (pvF 3) rfl) a0i))) a0i))))))),?_⟩
  walk_at "rd*"
  refine⟨rfl,⟨_,SqL.of hou⟩,fun D H2 n2 S2 h2=>?_⟩
  refine g5f (p.os.map fun x=>V.str x.1) (by rw [List.length_map,ul]) n2 S2 h2 (SqL.of hou) (by omega) ?_ ?_
  ·intro i v z H' Q' hx hz S' q'
   obtain⟨e,pe,he,rfl,hpe⟩:=R2.at2 hx
   rw [List.getElem?_map,he] at hz
   cases hz
   have hp':=S' _ _ hpe
   clear hpe
   walk_at "rd*"
  intro H3 S3 h3
  have ff:=b4g (p.os.map (·.1))
  have ii:=b0i y (p.os.map (·.1))
  rw [List.map_map] at ff ii
  have ni:y∉p.os.map (·.1):=fun hm=>by
   obtain⟨x,hx,e⟩:=List.mem_map.mp hm
   exact hn x hx e
  replace h3:H3 D=some (.lst (p.os.map (V.str∘fun x=>x.1))):=h3
  rw [decide_eq_false ni] at ii
  clear h2
  walk_at "rd*"
  refine⟨rfl,?_⟩
  intro c cx H4 n4 n4' nx S4 hdx hc
  refine⟨cx,hc,g1,g2,fun r H5 nr B5 hr5 hc5=>?_⟩
  rw [asNew]
  refine⟨rfl,?_⟩
  have S05:Same H H5:=fun z u e=>B5 _ _ (fun ze=>by rw [ze] at e; rw [S3 _ _ e] at n4; cases n4) (S4 _ _ (S3 _ _ e))
  have ho5:=S05 _ _ ho
  have j1k:=S05 _ _ hou
  unfold stF at hc5
  clear hc hr5 h3
  walk_at "rd*"
  refine fun p7 H7 n7 S7 h7=>?_
  have i6z:=S7 _ _ j1k
  clear j1k hc5
  walk_at "rd*"
  refine⟨by omega,?_⟩
  rintro _ H8 ⟨rfl,B8,h8⟩
  try walk_at "rd"
  have S07:=S05.trans S7
  exact q H8 ((b6i.of S07).trans (b6i.one i6z F.n.2.2.2 B8)) ⟨dx,t,b,sd,ou,B8 _ _ (fun e=>by rw [<- e,S07 _ _ ho] at i6z; cases i6z) (S07 _ _ ho),(F.same S07).addO i6z (.tup h7 (.cons (.str _) (.cons (.int _) .nil))) h8 B8⟩
theorem h1v (T : Tx K mg A) : a3q P A.wd K mg base CX0 1 A.b0n A.a9o ["self"] (f8h A) := by
 have a0s:=T.a0s
 have a0h:=T.a0h
 have a0l:=T.a0l
 have a0k:=T.a0k
 have a0m:=T.a0m
 refine T.b9k.ok f0m (fun vs H Q E h=>?_) (fun cdv A' outer s H vs Q E hr h=>?_)
 ·obtain⟨_,rfl,_⟩:=c8u (by unfold f8h at h; exact h)
  rfl
 ·obtain⟨o,rfl,⟨N,p,⟨dx,t,b,sd,ou,ho,F⟩,l1,q⟩⟩:=c8u (by unfold f8h at h; exact h)
  have hu:=hr.units
  have hs:sizeLine=16777216:=sizeLine_eq
  have ht:=F.ht
  unfold ptF at ho
  refine⟨_,(a0o (a1z (b0j d0v (by rfl) T.f5l boot_list (a0g (a5q (pvF 0) rfl) a0i)))),?_⟩
  walk_at "rd*"
  exact fun l H1 n1 S1 h1=>q _ _ ⟨l,rfl,n1,S1,h1⟩
theorem h5b (T : Tx K mg A) : a3q P A.wd K mg base CX0 1 A.b2t A.b0o ["self"] (g3z A) := by
 have a0s:=T.a0s
 have a0h:=T.a0h
 have a0l:=T.a0l
 have a0k:=T.a0k
 have a0m:=T.a0m
 refine T.c1j.ok f2t (fun vs H Q E h=>?_) (fun cdv A' outer s H vs Q E hr h=>?_)
 ·obtain⟨_,rfl,_⟩:=c8u (by unfold g3z at h; exact h)
  rfl
 ·obtain⟨o,rfl,⟨N,p,⟨dx,t,b,sd,ou,ho,F⟩,l1,q⟩⟩:=c8u (by unfold g3z at h; exact h)
  have hu:=hr.units
  have hs:sizeLine=16777216:=sizeLine_eq
  have hb:=F.hb
  unfold ptF at ho
  refine⟨_,(a0o (a1z (b0j d0v (by rfl) T.f5l boot_list (a0g (a5q (pvF 0) rfl) a0i)))),?_⟩
  walk_at "rd*"
  exact fun l H1 n1 S1 h1=>q _ _ ⟨l,rfl,n1,S1,h1⟩
theorem i0l (T : Tx K mg A) : a3q P A.wd K mg base CX0 1 A.b5o A.b2v ["self"] (h0y A) := by
 have a0s:=T.a0s
 have a0h:=T.a0h
 have a0l:=T.a0l
 have a0k:=T.a0k
 have a0m:=T.a0m
 refine T.c4w.ok f6n (fun vs H Q E h=>?_) (fun cdv A' outer s H vs Q E hr h=>?_)
 ·obtain⟨_,rfl,_⟩:=c8u (by unfold h0y at h; exact h)
  rfl
 ·obtain⟨o,rfl,⟨N,p,⟨dx,t,b,sd,ou,ho,F⟩,l1,q⟩⟩:=c8u (by unfold h0y at h; exact h)
  have hu:=hr.units
  have hs:sizeLine=16777216:=sizeLine_eq
  obtain⟨us,hou,R2⟩:=F.ho
  have ul:=R2.h6p
  unfold ptF at ho
  refine⟨_,(a0o (a1z (b0j d0v (by rfl) T.f5l boot_list (a0g (a5q (pvF 0) rfl) a0i)))),?_⟩
  walk_at "rd*"
  exact fun l H1 n1 S1 h1=>q l us H1 n1 S1 h1 (g2o (R2.same S1))
theorem h5c (T : Tx K mg A) : a3q P A.wd K mg base CX0 1 A.b2u A.b0p ["self"] (g4a A) := by
 have a0s:=T.a0s
 have a0h:=T.a0h
 have a0l:=T.a0l
 have a0k:=T.a0k
 have a0m:=T.a0m
 refine T.c1k.ok f2u (fun vs H Q E h=>?_) (fun cdv A' outer s H vs Q E hr h=>?_)
 ·obtain⟨_,rfl,_⟩:=c8u (by unfold g4a at h; exact h)
  rfl
 ·obtain⟨o,rfl,⟨N,p,⟨dx,t,b,sd,ou,ho,F⟩,l1,l2,q⟩⟩:=c8u (by unfold g4a at h; exact h)
  have hu:=hr.units
  have hs:sizeLine=16777216:=sizeLine_eq
  obtain⟨us,hsd,R1⟩:=F.hs
  have ul:=R1.h6p
  unfold ptF at ho
  refine ⟨_, (a0o (a1z (c8z (b4i (a5q (pvF 0) rfl)) (fun _ _ _ _ _ => (c1z (a0g (a1v a7n (pvF 0) a0n (fun _ _ => rfl)) (a0g (a1v a7n (pvF 0) a0n (fun _ _ => rfl)) (a0g (b0j d0v (by rfl) T.f5l boot_list (a0g (a1v a7n (pvF 0) a0n (fun _ _ => rfl)) a0i)) a0i))))) (d9n (sc := a0q c7r) (N := ["self"]) rfl rfl (by decide +kernel)) rfl))), ?_⟩
  walk_at "rd*"
  refine⟨⟨_,SqL.of hsd⟩,fun D H2 n2 S2 h2=>?_⟩
  refine c1q (xs:=us) (fun i ys H'=>Same H H'/\H' D=some (.lst ys)/\RpL H' (fun a=>H a=none/\a≠D) ys ((p.es.take i).map dSd)) ⟨S2,h2,.nil⟩ (by omega) ?_ ?_ ?_
  ·intro i ys H' hi ⟨S',h',R'⟩
   refine⟨h',SqL.of (S' _ _ hsd),?_⟩
   rw [R'.h6p,List.length_take]
   omega
  ·intro i x ys H' hx ⟨S',h',R'⟩
   obtain⟨e,pe,lw,he,rfl,hpe,_,hlw⟩:=R1.at3 hx
   have hp':=S' _ _ hpe
   have hw':=S' _ _ hlw
   have wl:=l2 e (List.mem_of_getElem? he)
   clear hpe hlw h2 hx
   walk_at "rd*"
   refine fun l4 H4 n4 S4 h4=>?_
   walk_at "rd*"
   refine fun p5 H5 n5 S5 h5=>?_
   have S45:=S4.trans S5
   refine⟨S45 _ _ h',fun H6 B6 h6=>⟨(S'.trans S45).step n2 B6,h6,?_⟩⟩
   rw [List.take_add_one,he,List.map_append]
   refine RpL.put (.snoc (R'.same S45) (.tup h5 (.cons (.str _) (.cons (.str _) (.cons (.lst ⟨S'.free n4,fun z=>?_⟩ (S5 _ _ h4) (RpL.strs _)) .nil))))) (S45 _ _ h') (fun z=>z.2 rfl) B6
   rw [z,h'] at n4
   cases n4
  ·intro ys H3 ⟨S3,h3,R3⟩
   rw [ul,List.take_length] at R3
   exact q D ys H3 n2 S3 h3 R3
theorem g5t{x:Str}(h:b9u x):nmB x=true:=by
 unfold nmB
 rw [decide_eq_true h.1,decide_eq_false h.2.1,Bool.true_and,Bool.not_false,Bool.true_and,List.all_eq_true]
 exact fun c hc=>h1p (h.2.2 c hc).1 (h.2.2 c hc).2
theorem i0m (T : Tx K mg A) : a3q P A.wd K mg base CX0 1 A.b9q A.b7v ["value"] h0z := by
 refine T.c2m.ok f4y (fun vs H Q E h=>?_) (fun cdv A' outer s H vs Q E hr h=>?_)
 ·obtain⟨_,rfl,_⟩:=g7q (by unfold h0z at h; exact h)
  rfl
 ·obtain⟨v,rfl,h⟩:=g7q (by unfold h0z at h; exact h)
  have hu:=hr.units
  have hs:sizeLine=16777216:=sizeLine_eq
  refine ⟨_, (a0j (a4z (pw_or (b5v (a7y (a1l (b4h .str) (by rfl) T.a1u boot_isinstance (a0g (pvF 0) (a0g (b7l (v := .ty "str") (u := .type "str") (by rfl) T.g6w rfl rfl) a0i))))) (pw_or (a0w (a6v hu) (pvF 0) a0v (a1k _)) (pw_or1 (a0w d7y (a1l a8l (by rfl) T.d2z boot_len (a0g (pvF 0) a0i)) (a5i (v := .int 8) (by rfl) T.d0q T.b7h) (a1k _))))).pt
   (a0o (a1z d7w))
   a1g)
   (a0o (a1z (a1l (g0g rfl) (by rfl) T.i5e boot_all (a0g (c8z (g9k (pvF 0)) (fun _ _ _ _ _ => (b1l d6y (pvF 0) (a5i (v := .str "abcdefghijklmnopqrstuvwxyz") (by rfl) T.f5n T.d1j) (by rfl))) (d9n (sc := a0q d4i) (N := ["value"]) rfl rfl (by decide +kernel)) rfl) a0i))))), ?_⟩
  rcases h with ⟨⟨t,ht,ne⟩,q⟩ | ⟨x,rfl,xl,q⟩
  ·walk_at "rd*"
  ·have xl':x.length<=sizeLine:=by omega
   walk_at "rd*"
   by_cases ne : x = Str.ofString ""
   ·rw [if_pos ne]
    have z:=q H (Same.refl _)
    rw [show nmB x=false from by unfold nmB; rw [decide_eq_true ne]; simp] at z
    exact z
   rw [if_neg ne]
   refine⟨by omega,?_⟩
   by_cases nl:(8:Int) < (x.length:Int)
   ·rw [if_pos nl]
    have z:=q H (Same.refl _)
    rw [show nmB x=false from by unfold nmB; rw [decide_eq_false (show ¬ x.length<=8 by omega)]; simp] at z
    exact z
   rw [if_neg nl]
   refine fun D H2 n2 S2 h2=>?_
   refine g1g (fun c => V.bl (g5d "abcdefghijklmnopqrstuvwxyz" ⟨#[c]⟩)) n2 S2 h2 (show x.length ≤ sizeLine by omega) ?_ ?_
   ·intro i c H' Q' hc SS q'
    walk_at "rd*"
   ·intro H3 S3 h3
    walk_at "rd*"
    refine ⟨x.cps.toList.map fun c => g5d "abcdefghijklmnopqrstuvwxyz" ⟨#[c]⟩, by rw [List.map_map]; rfl, ?_⟩
    have e : nmB x = (x.cps.toList.map fun c => g5d "abcdefghijklmnopqrstuvwxyz" ⟨#[c]⟩).all id := by
     unfold nmB
     rw [decide_eq_true (show x.length<=8 by omega),decide_eq_false ne,List.all_map]
     simp
    rw [<- e]
    exact q H3 S3
theorem h1w (T : Tx K mg A) : a3q P A.wd K mg base (CXE P A.wd) 2 A.a5r A.a5n ["self", "name"] (h1a A) := by
 have f2i:a3q P A.wd K mg base CX0 1 _ _ _ _:=i0m T
 have a0s:=T.a0s
 have a0h:=T.a0h
 have a0l:=T.a0l
 have a0k:=T.a0k
 have a0m:=T.a0m
 refine T.a9q.okX c4p (fun vs H Q E h=>?_) (fun cdv A' outer s H vs Q E hr h=>?_)
 ·obtain⟨_,_,rfl,_⟩:=f2r (by unfold h1a at h; exact h)
  rfl
 ·obtain⟨o,v,rfl,⟨t,b,sd,ts,bs,es,⟨dx,ou,ps,ho,ht,hb,hsd,hE,d1,d2,d3⟩,h⟩⟩:=f2r (by unfold h1a at h; exact h)
  have hu:=hr.units
  have d6u:a5z 1 _:=hr.mono (by decide)
  have c8r:1<=sizeLine:=by decide
  unfold ptF at ho
  refine⟨_,(a0j (a4z (b5v (a7y (a1j f2i d6u (by rfl) T.g0w T.c2m.kp T.g0v .nil a3p (a0g (pvF 1) a0i))))
   (a0o (a8o T.h4n T.g1a a8n rfl (by rfl) (a0g a0v a0i)))
   a1g)
   (a0o (a4z (pw_or (a0w d6y (pvF 1) (a5q (pvF 0) rfl) (by rfl)) (pw_or1 (a0w d6y (pvF 1) (a5q (pvF 0) rfl) (by rfl)))).pt
   (a0o (a8o T.h0l T.f7p a8n rfl (by rfl) (a0g a0v a0i)))
   a1g))),?_⟩
  rcases h with ⟨hn,q⟩ | ⟨x,rfl,nm,hx,q⟩
  ·walk_at "rd"
   rcases hn with hn | ⟨x,rfl,xl,hn⟩
   ·refine .inl ⟨hn,?_⟩
    have q0:=q H (Same.refl _)
    walk_at "rd*"
   ·refine .inr ⟨x,rfl,xl,fun H1 S1=>?_⟩
    rw [hn]
    have q0:=q H1 S1
    clear ho ht hb
    walk_at "rd*"
  ·walk_at "rd"
   refine .inr ⟨Nat.le_trans nm.1 (by decide),fun H1 S1=>?_⟩
   rw [g5t nm]
   have ho1:=S1 _ _ ho
   have ht1:=S1 _ _ ht
   have hb1:=S1 _ _ hb
   have i1:=b0i x ts
   have i2:=b0i x bs
   have f1:=b4g ts
   have f2:=b4g bs
   have q0:=q H1 S1
   clear ho ht hb
   walk_at "rd*"
   refine⟨rfl,?_⟩
   by_cases h1:x∈ts
   ·rw [if_pos h1]
    trivial
   ·rw [if_neg h1,if_pos (hx.resolve_left h1)]
    exact⟨rfl,trivial⟩
theorem i0n (T : Tx K mg A) : a3q P A.wd K mg base (CXE P A.wd) 3 A.a9w A.a8t ["self", "name"] (g7h A) := by
 have a5w:a3q P A.wd K mg base (CXE P A.wd) 2 _ _ _ _:=h1w T
 have a0s:=T.a0s
 have a0h:=T.a0h
 have a0l:=T.a0l
 have a0k:=T.a0k
 have a0m:=T.a0m
 refine T.b6n.okX d1z (fun vs H Q E h=>?_) (fun cdv A' outer s H vs Q E hr h=>?_)
 ·obtain⟨_,_,rfl,_⟩:=f2r (by unfold g7h at h; exact h)
  rfl
 ·obtain⟨o,v,rfl,⟨N,p,c,hP,h,q⟩⟩:=f2r (by unfold g7h at h; exact h)
  obtain⟨t',b',sd',hT⟩:=hP.pt
  obtain⟨dx,t,b,sd,ou,ho,F⟩:=id hP
  have hu:=hr.units
  have a5o:a5z 2 _:=hr.mono (by decide)
  unfold ptF at ho
  refine⟨_,(a0j (a6o (a8p (pvF 0) T.a0s T.a6y a5w a5o T.b3g .nil c5m (a0g (pvF 1) a0i)))
   (a0o a2h)),?_⟩
  walk_at "rd*"
  rcases h with ⟨rfl,h⟩ | ⟨rfl,x,rfl,h1,h2⟩
  ·exact⟨t',b',sd',_,_,_,hT,.inl ⟨h,q⟩⟩
  ·exact⟨t',b',sd',_,_,_,hT,.inr ⟨_,rfl,h1,h2,q⟩⟩
theorem i0o (T : Tx K mg A) : a3q P A.wd K mg base (CXE P A.wd) 3 A.b4o A.b1w ["self", "name"] (g7h A) := by
 have a5w:a3q P A.wd K mg base (CXE P A.wd) 2 _ _ _ _:=h1w T
 have a0s:=T.a0s
 have a0h:=T.a0h
 have a0l:=T.a0l
 have a0k:=T.a0k
 have a0m:=T.a0m
 refine T.c2n.okX d7n (fun vs H Q E h=>?_) (fun cdv A' outer s H vs Q E hr h=>?_)
 ·obtain⟨_,_,rfl,_⟩:=f2r (by unfold g7h at h; exact h)
  rfl
 ·obtain⟨o,v,rfl,⟨N,p,c,hP,h,q⟩⟩:=f2r (by unfold g7h at h; exact h)
  obtain⟨t',b',sd',hT⟩:=hP.pt
  obtain⟨dx,t,b,sd,ou,ho,F⟩:=id hP
  have hu:=hr.units
  have a5o:a5z 2 _:=hr.mono (by decide)
  unfold ptF at ho
  refine⟨_,(a0j (a6o (a8p (pvF 0) T.a0s T.a6y a5w a5o T.b3g .nil c5m (a0g (pvF 1) a0i)))
   (a0o a2h)),?_⟩
  walk_at "rd*"
  rcases h with ⟨rfl,h⟩ | ⟨rfl,x,rfl,h1,h2⟩
  ·exact⟨t',b',sd',_,_,_,hT,.inl ⟨h,q⟩⟩
  ·exact⟨t',b',sd',_,_,_,hT,.inr ⟨_,rfl,h1,h2,q⟩⟩
theorem g1k (T : Tx K mg A) : a3q P A.wd K mg base CX0 1 A.b4z A.b4m ["value"] h9x := by
 refine T.b2z.ok f0k (fun vs H Q E h=>?_) (fun cdv A' outer s H vs Q E hr h=>?_)
 ·obtain⟨_,rfl,_⟩:=g7q (by unfold h9x at h; exact h)
  rfl
 ·obtain⟨x,rfl,⟨t,ht,q⟩⟩:=g7q (by unfold h9x at h; exact h)
  have hu:=hr.units
  refine ⟨_, (a0o (a1z (g2h (a1l (b4h .int) (by rfl) T.a1u boot_isinstance (a0g (pvF 0) (a0g (b7l (v := .ty "int") (u := .type "int") (by rfl) T.f2y rfl rfl) a0i))) (g8a (g9a (a1l (b4h .bl) (by rfl) T.a1u boot_isinstance (a0g (pvF 0) (a0g (b7l (v := .ty "bool") (u := .type "bool") (by rfl) T.h6z rfl rfl) a0i)))))))), ?_⟩
  walk_at "rd*"
  cases t <;> simpa using q
theorem h5d (T : Tx K mg A) : a3q P A.wd K mg base (CXE P A.wd) 2 A.a8s A.a7z ["self", "greatest"] (g4c A.a0p) := by
 have c1y:a3q P A.wd K mg base CX0 1 _ _ _ _:=g1k T
 have b0t:=T.b0t
 have a2j:=T.a2j
 have a5g:=T.a5g
 have a5h:=T.a5h
 refine T.b3q.okX c9n (fun vs H Q E h=>?_) (fun cdv A' outer s H vs Q E hr h=>?_)
 ·obtain⟨_,_,rfl,_⟩:=f2r (by unfold g4c at h; exact h)
  rfl
 ·obtain⟨o,x,rfl,⟨⟨t,ht,hb⟩,k⟩⟩:=f2r (by unfold g4c at h; exact h)
  have hu:=hr.units
  have b9i:a5z 1 _:=hr.mono (by decide)
  have c8r:1<=sizeLine:=by decide
  refine⟨_,(a0j (a4z (pw_or (b5v (a7y (a1j c1y b9i (by rfl) T.d1l T.b2z.kp T.d1k .nil a3p (a0g (pvF 1) a0i)))) (pw_or (a0w of_lt (pvF 1) a0n (a1k _)) (pw_or1 (a0w d7y (pvF 1) (a5i (v:=.int 1000000000000) (by rfl) T.h0s T.f6z) (a1k _))))).pt
   (a0o (a8o T.g6y T.f1k a8n rfl (by rfl) (a0g a0v a0i)))
   a1g)
   (a0j a2h
   (a0j a2h
   (a0o a2h)))),?_⟩
  walk_at "rd*"
  by_cases hti:t=Ty.int
  ·rw [if_neg (by simpa using hti)]
   rcases hb with z | ⟨n,rfl,z⟩
   ·exact absurd hti z
   ·show if n < 1 then True else if 1000000000000 < n then True else _
    by_cases z1:n < 1
    ·rw [if_pos z1]
     trivial
    ·rw [if_neg z1,if_pos (by omega)]
     trivial
  ·rw [if_pos hti]
   trivial
theorem h7k (T : Tx K mg A) : a3q P A.wd K mg base (CXE P A.wd) 1 A.a8q A.a8r ["values", "count"] (h9y A) := by
 refine T.a7k.okX d1y (fun vs H Q E h=>?_) (fun cdv A' outer s H vs Q E hr h=>?_)
 ·obtain⟨_,_,rfl,_⟩:=f2q (by unfold h9y at h; exact h)
  rfl
 ·obtain⟨l,c,rfl,⟨xs,hl,xl,e,q⟩⟩:=f2q (by unfold h9y at h; exact h)
  have hu:=hr.units
  have hs:sizeLine=16777216:=sizeLine_eq
  have c8r:1<=sizeLine:=by decide
  refine⟨_,(a0o (a4z (a0w (b5w hu) (a1l a8l (by rfl) T.d2z boot_len (a0g (pvF 0) a0i)) (pvF 1) (a1k _))
   (a0o (a8o T.d1o T.c4g a8n rfl (by rfl) (a0g a0v a0i)))
   a1g)),?_⟩
  walk_at "rd*"
  try omega
theorem h5e (T : Tx K mg A) : a3q P A.wd K mg base (CXF true P A.wd) 3 A.a6s A.a7g ["text"] (g4d A) := by
 have b9w:a3q P A.wd K mg base CX0 1 _ _ _ _:=d6p T
 have b2k:a3q P A.wd K mg base CX0 1 _ _ _ _:=g5r T
 have d6q:a3q P A.wd K mg base CX0 2 _ _ _ _:=f1y T
 refine T.a8h.okN a4s (fun vs H Q E h=>?_) (fun cdv A' outer s H vs Q E hr h=>?_)
 ·obtain⟨_,rfl,_⟩:=g7q (by unfold g4d at h; exact h)
  rfl
 ·obtain⟨v,rfl,⟨hv,k⟩⟩:=g7q (by unfold g4d at h; exact h)
  subst hv
  have hu:=hr.units
  have b7i:a5z 1 _:=hr.mono (by decide)
  have b0k:a5z 1 _:=hr.mono (by decide)
  have d3j:a5z 2 _:=hr.mono (by decide)
  have c8r:1<=sizeLine:=by decide
  have hs:sizeLine=16777216:=sizeLine_eq
  have sp : b3p (Str.ofString "2/4") (Str.ofString "/") = [Str.ofString "2", Str.ofString "4"] := by decide +kernel
  have d1 : ((Str.ofString "/").length == 0) = false := by decide +kernel
  have d2 : (Str.ofString "2/4").length = 3 := by decide +kernel
  have d3 : (Str.ofString "2").length = 1 := by decide +kernel
  have d4 : (Str.ofString "4").length = 1 := by decide +kernel
  have sw : Txt.startswith (Str.ofString "2") (Str.ofString "-") = false := by decide +kernel
  have f0 : g6i (sg (Str.ofString "2")) = true := by decide +kernel
  have f1 : g6i (sg (Str.ofString "4")) = true := by decide +kernel
  have ft : sg (Str.ofString "1/2") = h3u 1 2 := by decide +kernel
  refine ⟨_, (a0j (a4z (b5v (a7y (a1l (b4h .str) (by rfl) T.a1u boot_isinstance (a0g (pvF 0) (a0g (b7l (v := .ty "str") (u := .type "str") (by rfl) T.g6w rfl rfl) a0i)))))
   (a0o (a8o T.d4w T.c3z a8n rfl (by rfl) (a0g a0v a0i)))
   a1g)
   (a0j (a3s (i:=1) a4s.nd rfl (Or.inl rfl) (c4n b9l PySem.F.plainAttrs_str PySem.F.slot_str_split PySem.F.type_str_split d8r (pvF 0) (a0g a0v a0i)))
   (a0j (a4z (a0w (b5w hu) (a1l a8l (by rfl) T.d2z boot_len (a0g (pvF 1) a0i)) a0n (a1k _))
   (a0o (a8o T.d4w T.c3z a8n rfl (by rfl) (a0g a0v a0i)))
   a1g)
   (a0j (a3s (i:=2) a4s.nd rfl (Or.inl rfl) (g4q (a7y (c4n b9l PySem.F.plainAttrs_str PySem.F.slot_str_startswith PySem.F.type_str_startswith c7m (a1v a7n (pvF 1) a0n (fun _ _=>rfl)) (a0g a0v a0i))) (c7k i1g (a1v a7n (pvF 1) a0n (fun _ _=>rfl)) (c4l a0n) d5k) (a1v a7n (pvF 1) a0n (fun _ _=>rfl))))
   (a0j (d2l PassesOwn.leaving rfl (b4i (a1y (a0g (pvF 2) (a0g (a1v a7n (pvF 1) a0n (fun _ _=>rfl)) a0i)))) (c5j (i:=3) a4s.nd rfl (Or.inl rfl))
   (a0o (a4z (pw_or (b5v (a7y (a1j b9w b7i (by rfl) T.d0m T.b2j.kp T.d0l .nil a3p (a0g (pvF 3) a0i)))) (pw_or1 (a0w d7y (a1l a8l (by rfl) T.d2z boot_len (a0g (pvF 3) a0i)) (a5i (v:=.int 9) (by rfl) T.b7k T.a8i) (a1k _)))).pt
   (a0o (a8o T.d4w T.c3z a8n rfl (by rfl) (a0g a0v a0i)))
   a1g)))
   (a0j (a4z (a0w (a6v hu) (b0j b9m (by rfl) T.f2y boot_int (a0g (a1v a7n (pvF 1) a0n (fun _ _=>rfl)) a0i)) a0n (a1k _))
   (a0o (a8o T.d4w T.c3z a8n rfl (by rfl) (a0g a0v a0i)))
   a1g)
   (a0j (a3s (i:=4) a4s.nd rfl (Or.inl rfl) (a1j d6q d3j (by rfl) T.f5i T.c1v.kp T.f5h .nil a3p (a0g (b0j b9m (by rfl) T.f2y boot_int (a0g (a1v a7n (pvF 1) a0n (fun _ _=>rfl)) a0i)) (a0g (b0j b9m (by rfl) T.f2y boot_int (a0g (a1v a7n (pvF 1) a0n (fun _ _=>rfl)) a0i)) a0i))))
   (a0j (a4z (a0w (b5w hu) (a1j b2k b0k (by rfl) T.c3w T.a6t.kp T.c3v .nil a3p (a0g (pvF 4) a0i)) (pvF 0) (a1k _))
   (a0o (a8o T.d4w T.c3z a8n rfl (by rfl) (a0g a0v a0i)))
   a1g)
   (a0o (a1z (pvF 4))))))))))),?_⟩
  walk_at "rd*"
  intro p H1 n1 S1 h1
  walk_at "rd*"
  rw [if_neg (by decide)]
  intro q H2 n2 S2 h2
  have hp2:=S2 _ _ h1
  clear h1
  walk_at "rd*"
  refine⟨⟨_,SqL.of h2⟩,?_⟩
  refine d3r (xs := [.str (Str.ofString "2"), .str (Str.ofString "4")]) (fun i σ H' => H' = H2 ∧ ∃ z, σ = [some (.str (Str.ofString "2/4")), some (.ref p), some (.str (Str.ofString "2")), z, none]) ⟨rfl, _, rfl⟩ (fun i σ H' _ h => by rw [h.1]; exact SqL.of h2) ?_ ?_
  ·rintro i v σ H' hv ⟨rfl,z,rfl⟩
   match i,hv with
   | 0,hv =>
    cases hv
    walk_at "rd*"
    exact⟨_,rfl⟩
   | 1,hv =>
    cases hv
    walk_at "rd*"
    exact⟨_,rfl⟩
   | i+2,hv=>cases hv
  ·rintro σ H' ⟨rfl,z,rfl⟩
   have s0 : sg (Str.ofString "2") = txt 2 := by decide +kernel
   have s1 : sg (Str.ofString "4") = txt 4 := by decide +kernel
   have i0:=c6u s0 (by omega)
   have i1:=c6u s1 (by omega)
   walk_at "rd*"
   have rv:h3l (Rat.divInt 2 4) = [.int 1,.int 2]:=by
    unfold h3l
    rw [show (Rat.divInt 2 4).num=1 from by decide +kernel,show (Rat.divInt 2 4).den=2 from by decide +kernel]
    rfl
   refine⟨by decide +kernel,by decide +kernel,?_⟩
   rintro _ H3 ⟨o,rfl,n3,S3,h3⟩
   rw [rv] at h3
   have q3:=k H3 ((S1.trans S2).trans S3)
   clear hp2 h2
   walk_at "rd*"
   refine⟨1,2,⟨rfl,rfl⟩,by decide +kernel,by decide +kernel,fun y hy=>?_⟩
   rw [if_pos (fun e=>by rw [e] at hy; exact absurd hy (by decide +kernel))]
   trivial
theorem i5o (T : Tx K mg A) : a3q P A.wd K mg base (CXE P A.wd) 4 A.b1t A.b1u ["text"] (h9z A) := by
 have d8m:a3q P A.wd K mg base (CXF true P A.wd) 3 _ _ _ _:=h5e T
 refine T.b4t.okX c4o (fun vs H Q E h=>?_) (fun cdv A' outer s H vs Q E hr h=>?_)
 ·obtain⟨_,rfl,_⟩:=g7q (by unfold h9z at h; exact h)
  rfl
 ·obtain⟨v,rfl,⟨hv,k⟩⟩:=g7q (by unfold h9z at h; exact h)
  subst hv
  have hu:=hr.units
  have c1g:a5z 3 _:=hr.mono (by decide)
  refine⟨_,(d2m (g2w g5m (fun E=>(h4g (i:=1) c4o.nd rfl (Or.inl rfl) (g9z (E:=E) d8m c1g (by rfl) T.d0o T.a8h.kp T.d0n .nil (a0g (pvF 0) a0i)))) T.d1o T.f6y (by rfl) T.c4g (by rfl) T.c3z T.h4q)
   (a0j a2h
   (a0o a2h))),?_⟩
  walk_at "rd"
  refine⟨fun _ _=>False,?_,fun _ _ z=>z.elim⟩
  walk_at "rd"
  exact fun H1 S1=>⟨T.c2v,k H1 S1⟩
theorem i5p (T : Tx K mg A) : a3q P A.wd K mg base (CXE P A.wd) 6 A.b6k A.b7s ["values"] (i0a A) := by
 have b0h:a3q P A.wd K mg base (CXE P A.wd) 1 _ _ _ _:=(i0i T).or (h7k T)
 have d3k:a3q P A.wd K mg base (CXE P A.wd) 4 _ _ _ _:=i5o T
 have d3l:a3q P A.wd K mg base CX0 1 _ _ _ _:=g5s T
 have b3i:=T.b3i
 have a4y:=T.a4y
 refine T.c2k.okX f4w (fun vs H Q E h=>?_) (fun cdv A' outer s H vs Q E hr h=>?_)
 ·obtain⟨_,rfl,_⟩:=c8u (by unfold i0a at h; exact h)
  rfl
 ·obtain⟨l,rfl,⟨hl,k⟩⟩:=c8u (by unfold i0a at h; exact h)
  have hu:=hr.units
  have a9l:a5z 1 _:=hr.mono (by decide)
  have d0r:a5z 4 _:=hr.mono (by decide)
  have d0s:a5z 2 _:=hr.mono (by decide)
  refine⟨_,(a0j (a6o (a1j b0h a9l (by rfl) T.c1n T.a7k.kp T.c1m .nil c5m (a0g (pvF 0) (a0g a0n a0i))))
   (a0o (a1z (c7n T.g5p d3l d0s (by rfl) T.h0k T.f1h .nil a3p (a0g (a1j d3k d0r (by rfl) T.f1j T.b4t.kp T.f1i .nil c5m (a0g (a1v a7n (pvF 0) a0n (fun _ _=>rfl)) a0i)) a0i))))),?_⟩
  rcases hl with hl | hl
  ·walk_at "rd"
   exact .inr ⟨_,hl,by decide,by decide,k H (Same.refl _)⟩
  ·walk_at "rd"
   refine .inl ⟨_,hl,rfl,?_⟩
   walk_at "rd*"
   exact k
theorem i5q (T : Tx K mg A) : a3q P A.wd K mg base (CXE P A.wd) 6 A.b9o A.c1u ["values"] (i0b A) := by
 have b0h:a3q P A.wd K mg base (CXE P A.wd) 1 _ _ _ _:=h7k T
 refine T.c9u.okX g6s (fun vs H Q E h=>?_) (fun cdv A' outer s H vs Q E hr h=>?_)
 ·obtain⟨_,rfl,_⟩:=c8u (by unfold i0b at h; exact h)
  rfl
 ·obtain⟨l,rfl,⟨hl,k⟩⟩:=c8u (by unfold i0b at h; exact h)
  have hu:=hr.units
  have a9l:a5z 1 _:=hr.mono (by decide)
  refine⟨_,(a0j (a6o (a1j b0h a9l (by rfl) T.c1n T.a7k.kp T.c1m .nil c5m (a0g (pvF 0) (a0g a0n a0i))))
   (a0o a2h)),?_⟩
  walk_at "rd"
  exact⟨_,hl,by decide,by decide,k⟩
theorem h5f (T : Tx K mg A) : a3q P A.wd K mg base (CXE P A.wd) 8 A.b9p A.b7u ["word"] (i0c A) := by
 have f2g:a3q P A.wd K mg base (CXE P A.wd) 6 _ _ _ _:=i5p T
 have h1x:a3q P A.wd K mg base (CXE P A.wd) 6 _ _ _ _:=i5q T
 refine T.c2l.okX d1i (fun vs H Q E h=>?_) (fun cdv A' outer s H vs Q E hr h=>?_)
 ·obtain⟨_,rfl,_⟩:=g7q (by unfold i0c at h; exact h)
  rfl
 ·obtain⟨v,rfl,⟨hv,k⟩⟩:=g7q (by unfold i0c at h; exact h)
  have hu:=hr.units
  have d6r:a5z 6 _:=hr.mono (by decide)
  have g7n:a5z 6 _:=hr.mono (by decide)
  have dk:=T.f5o
  have c8r:1<=sizeLine:=by decide
  have hs:sizeLine=16777216:=sizeLine_eq
  have d1 : ((Str.ofString ":").length == 0) = false := by decide +kernel
  refine ⟨_, (a0j (a4z (b5v (a7y (a1l (b4h .str) (by rfl) T.a1u boot_isinstance (a0g (pvF 0) (a0g (b7l (v := .ty "str") (u := .type "str") (by rfl) T.g6w rfl rfl) a0i)))))
   (a0o (a8o T.d1o T.c4g a8n rfl (by rfl) (a0g a0v a0i)))
   a1g)
   (a0j (a3s (i:=1) d1i.nd rfl (Or.inl rfl) (c4n b9l PySem.F.plainAttrs_str PySem.F.slot_str_split PySem.F.type_str_split d8r (pvF 0) (a0g a0v a0i)))
   (a0j (a4z (a0w (g0a (K:=K) (w:=A.wd) (by rfl) (by rfl)) (a1v a7n (pvF 1) a0n (fun _ _=>rfl)) (a5i (v:=.ref A.a5m) (by rfl) T.c1w rfl) (by rfl))
   (a0o (a8o T.d1o T.c4g a8n rfl (by rfl) (a0g a0v a0i)))
   a1g)
   (a0o (a1z (d3w (d8s f2g d6r T.c2k.kp T.g0s .nil c5m (a1v (i6q (K:=K) (w:=A.wd) (by rfl) (by rfl)) (a5i (v:=.ref A.a5m) (by rfl) T.c1w rfl) (a1v a7n (pvF 1) a0n (fun _ _=>rfl)) (fun _ _=>rfl)) (a0g (c7k i1g (pvF 1) (c4l a0n) d5k) a0i)) (d8s h1x g7n T.c9u.kp T.h0i .nil c5m (a1v (i6q (K:=K) (w:=A.wd) (by rfl) (by rfl)) (a5i (v:=.ref A.a5m) (by rfl) T.c1w rfl) (a1v a7n (pvF 1) a0n (fun _ _=>rfl)) (fun _ _=>rfl)) (a0g (c7k i1g (pvF 1) (c4l a0n) d5k) a0i)))))))),?_⟩
  rcases hv with rfl | rfl | rfl | rfl | rfl | rfl
  ·have q0:=k H (Same.refl _)
   walk_at "rd*"
  ·have sp : b3p (Str.ofString "") (Str.ofString ":") = [Str.ofString ""] := by decide +kernel
   have xl : (Str.ofString "").length = 0 := by decide +kernel
   have rn:=T.d2w
   walk_at "rd*"
   refine fun l H1 n1 S1 h1=>?_
   have q1:=k H1 S1
   walk_at "rd*"
   rw [if_pos (show (none:Option Value).isSome=false from rfl)]
   trivial
  ·have sp : b3p (Str.ofString "x") (Str.ofString ":") = [Str.ofString "x"] := by decide +kernel
   have xl : (Str.ofString "x").length = 1 := by decide +kernel
   have rn:=T.d0k
   walk_at "rd*"
   refine fun l H1 n1 S1 h1=>?_
   have q1:=k H1 S1
   walk_at "rd*"
   rw [if_pos (show (none:Option Value).isSome=false from rfl)]
   trivial
  ·have sp : b3p (Str.ofString "gain") (Str.ofString ":") = [Str.ofString "gain"] := by decide +kernel
   have xl : (Str.ofString "gain").length = 4 := by decide +kernel
   have rn:=T.a9r
   walk_at "rd*"
   refine fun l H1 n1 S1 h1=>?_
   walk_at "rd*"
   refine .inl ?_
   walk_at "rd*"
   refine fun m H2 n2 S2 h2=>?_
   have e2 : g1z [V.str (Str.ofString "gain")] (some 1) none = [] := by
    show g4y _ (some ((1:Nat):Int)) none=_
    rw [c9g]
    rfl
   rw [e2] at h2
   walk_at "rd"
   exact⟨.inl h2,fun H3 S3=>k H3 ((S1.trans S2).trans S3)⟩
  ·have sp : b3p (Str.ofString "gain:2/4") (Str.ofString ":") = [Str.ofString "gain", Str.ofString "2/4"] := by decide +kernel
   have xl : (Str.ofString "gain:2/4").length = 8 := by decide +kernel
   have rn:=T.a9r
   walk_at "rd*"
   refine fun l H1 n1 S1 h1=>?_
   walk_at "rd*"
   refine .inl ?_
   walk_at "rd*"
   refine fun m H2 n2 S2 h2=>?_
   have e2 : g1z [V.str (Str.ofString "gain"), V.str (Str.ofString "2/4")] (some 1) none = [V.str (Str.ofString "2/4")] := by
    show g4y _ (some ((1:Nat):Int)) none=_
    rw [c9g]
    rfl
   rw [e2] at h2
   walk_at "rd"
   exact⟨.inr h2,fun H3 S3=>k H3 ((S1.trans S2).trans S3)⟩
  ·have sp : b3p (Str.ofString "echo") (Str.ofString ":") = [Str.ofString "echo"] := by decide +kernel
   have xl : (Str.ofString "echo").length = 4 := by decide +kernel
   have rn:=T.c3u
   walk_at "rd*"
   refine fun l H1 n1 S1 h1=>?_
   walk_at "rd*"
   refine .inr ?_
   walk_at "rd*"
   refine fun m H2 n2 S2 h2=>?_
   have e2 : g1z [V.str (Str.ofString "echo")] (some 1) none = [] := by
    show g4y _ (some ((1:Nat):Int)) none=_
    rw [c9g]
    rfl
   rw [e2] at h2
   walk_at "rd"
   exact⟨h2,k H2 (S1.trans S2)⟩
theorem b9v.same{H H':Hp}{v:V}(h:b9v H v)(S:Same H H'):b9v H' v:=by
 rcases h with ⟨t,ht,ne⟩ | ⟨r,xs,e,hr,z⟩
 ·exact .inl ⟨t,f9y S ht,ne⟩
 ·exact .inr ⟨r,xs,e,S _ _ hr,z⟩
theorem i0p (T : Tx K mg A) : a3q P A.wd K mg base (CXE P A.wd) 9 A.b5l A.b4n ["words"] (i0d A) := by
 have f2h:a3q P A.wd K mg base (CXE P A.wd) 8 _ _ _ _:=(h1o T).or (h5f T)
 refine T.b8m.okX f0l (fun vs H Q E h=>?_) (fun cdv A' outer s H vs Q E hr h=>?_)
 ·obtain⟨_,rfl,_⟩:=g7q (by unfold i0d at h; exact h)
  rfl
 ·obtain⟨v,rfl,⟨hv,k⟩⟩:=g7q (by unfold i0d at h; exact h)
  have hu:=hr.units
  have d6s:a5z 8 _:=hr.mono (by decide)
  have hs:sizeLine=16777216:=sizeLine_eq
  have c8r:1<=sizeLine:=by decide
  have q0:=k H (Same.refl _)
  refine ⟨_, (a0j (a4z (b5v (a7y (a1l (b4h .lst) (by rfl) T.a1u boot_isinstance (a0g (pvF 0) (a0g (b7l (v := .ty "list") (u := .type "list") (by rfl) T.f5l rfl rfl) a0i)))))
   (a0o (a8o T.d1o T.c4g a8n rfl (by rfl) (a0g a0v a0i)))
   a1g)
   (a0j (a4z (a0w d7y (a1l a8l (by rfl) T.d2z boot_len (a0g (pvF 0) a0i)) (a5i (v:=.int 8) (by rfl) T.d5h T.c1l) (a1k _))
   (a0o (a8o T.d1o T.c4g a8n rfl (by rfl) (a0g a0v a0i)))
   a1g)
   (a0o (a1z (h4f g5m (b4i (pvF 0)) (fun _ _ _ _ _ => (h3p f2h d6s (by rfl) T.g0u T.c2l.kp T.g0t .nil (a0g (pvF 0) a0i))) (d9n (sc := a0q d1h) (N := ["words"]) rfl rfl (by decide +kernel)) rfl))))), ?_⟩
  rcases hv with ⟨t,ht,ne⟩ | ⟨r,xs,rfl,hl,l100,h8⟩
  ·walk_at "rd*"
  ·walk_at "rd*"
   rcases h8 with h8 | ⟨h8,ds,u,rest,okd,bu,ex⟩
   ·rw [if_pos (by omega)]
    trivial
   rw [if_neg (by omega)]
   refine⟨⟨_,SqL.of hl⟩,fun D H2 n2 S2 h2=>?_⟩
   have xl:xs.length=ds.length+(rest.length+1):=by rw [ex,List.length_append,List.length_map]; rfl
   refine c1q (xs:=xs) (fun i ys H'=>Same H H'/\H' D=some (.lst ys)/\ys.length=i/\i<=ds.length) ⟨S2,h2,rfl,Nat.zero_le _⟩ (by omega) ?_ ?_ ?_
   ·intro i ys H' hi ⟨S',h',yl,_⟩
    exact⟨h',SqL.of (S' _ _ hl),yl⟩
   ·intro i x ys H' hx ⟨S',h',yl,il⟩
    walk_at "rd"
    rcases Nat.lt_or_eq_of_le il with z | z
    ·rw [ex,List.getElem?_append_left (by rw [List.length_map]; exact z),List.getElem?_map] at hx
     obtain⟨d,hd,rfl⟩:=Option.map_eq_some_iff.mp hx
     have o1:=okd d (List.mem_of_getElem? hd)
     refine .inl ⟨d,o1.1,o1.2,rfl,fun o H3 n3 S3 hp=>?_⟩
     exact⟨S3 _ _ h',fun H4 B4 h4=>⟨(S'.trans S3).step n2 B4,h4,by rw [yl],z⟩⟩
    ·subst z
     rw [ex,List.getElem?_append_right (by rw [List.length_map]; exact Nat.le_refl _),List.length_map,Nat.sub_self] at hx
     cases hx
     exact .inr ⟨bu,fun H3 S3=>k H3 (S'.trans S3)⟩
   ·intro ys H3 ⟨S3,h3,yl,il⟩
    omega
theorem h1y (T : Tx K mg A) : a3q P A.wd K mg base (CXE P A.wd) 10 A.b1v A.a9v ["self", "words"] (i0e A) := by
 have d6t:a3q P A.wd K mg base (CXE P A.wd) 9 _ _ _ _:=i0p T
 have b2w:=T.b2w
 have a4t:=T.a4t
 have a3t:=T.a3t
 have a9m:=T.a9m
 have a4r:=T.a4r
 refine T.b9s.okX d4p (fun vs H Q E h=>?_) (fun cdv A' outer s H vs Q E hr h=>?_)
 ·obtain⟨_,_,rfl,_⟩:=f2r (by unfold i0e at h; exact h)
  rfl
 ·obtain⟨o,v,rfl,⟨dx,ho,hv,k⟩⟩:=f2r (by unfold i0e at h; exact h)
  have hu:=hr.units
  have d3m:a5z 9 _:=hr.mono (by decide)
  refine⟨_,(a0j (b9z (pvF 0) (a1j d6t d3m (by rfl) T.f5k T.b8m.kp T.f5j .nil c5m (a0g (pvF 1) a0i)) rfl)
   (a0o a2h)),?_⟩
  walk_at "rd"
  exact⟨hv,k⟩
theorem g4k(ts:List Str):(ts.map V.str).all i4z=true:=by
 rw [List.all_eq_true]
 intro v hv
 obtain⟨n,_,rfl⟩:=List.mem_map.mp hv
 rfl
theorem g1l{H:Hp}{v:V}{ts:List Str}{P R S:Prop}(h:g1v H v ts)(a:P)(b:S):(b1q v=true/\if inV v (ts.map V.str)=false then P else R)\/(h2f H v=true/\S):=by
 rcases h with ⟨f,i⟩ | h
 ·exact .inl ⟨f,by rw [if_pos i]; exact a⟩
 ·exact .inr ⟨h,b⟩
theorem h1z{H:Hp}{x:Str}{ts:List Str}{P R S:Prop}(h:x∈ts)(a:R):(b1q (V.str x)=true/\if inV (V.str x) (ts.map V.str)=false then P else R)\/(h2f H (V.str x)=true/\S) :=
 .inl ⟨rfl,by rw [if_neg (by rw [b0i,decide_eq_true h]; decide)]; exact a⟩
theorem g1v.str{H:Hp}{x:Str}{ts:List Str}(h:x∉ts):g1v H (.str x) ts:=.inl ⟨rfl,by rw [b0i]; exact decide_eq_false h⟩
theorem src{H:Hp}{x:Str}{ts bs:List Str}{P R S S':Prop}(h:x∈ts\/x∈bs)(a:R):(b1q (V.str x)=true/\if inV (V.str x) (ts.map V.str)=false then ((b1q (V.str x)=true/\if inV (V.str x) (bs.map V.str)=false then P else R)\/(h2f H (V.str x)=true/\S)) else R)\/(h2f H (V.str x)=true/\S'):=by
 by_cases h1:x∈ts
 ·exact h1z h1 a
 ·refine .inl ⟨rfl,?_⟩
  rw [if_pos (by rw [b0i]; exact decide_eq_false h1)]
  exact h1z (h.resolve_left h1) a
theorem i5r (T : Tx K mg A) : a3q P A.wd K mg base (CXE P A.wd) 12 A.b1y A.a9y ["self", "source", "bus", "words"] (h9v A) := by
 have d0t:a3q P A.wd K mg base (CXE P A.wd) 10 _ _ _ _:=h1y T
 have a0s:=T.a0s
 have a0h:=T.a0h
 have a0l:=T.a0l
 have a0k:=T.a0k
 have a0m:=T.a0m
 have b2w:=T.b2w
 have a4t:=T.a4t
 have a3t:=T.a3t
 refine T.b9t.okX b6j (fun vs H Q E h=>?_) (fun cdv A' outer s H vs Q E hr h=>?_)
 ·obtain⟨_,_,_,_,rfl,_⟩:=h0c (by unfold h9v at h; exact h)
  rfl
 ·obtain⟨o,v,u,z,rfl,⟨N,p,c,hP,h,q⟩⟩:=h0c (by unfold h9v at h; exact h)
  have hu:=hr.units
  have hs:sizeLine=16777216:=sizeLine_eq
  have c8r:1<=sizeLine:=by decide
  have c8q:a5z 11 _:=hr.mono (by decide)
  obtain⟨dx,t,b,sd,ou,ho,F⟩:=id hP
  have ht:=F.ht
  have hb:=F.hb
  unfold ptF at ho
  have ft:=g4k p.ts
  have fb:=g4k p.bs
  have q0:=q H (Same.refl _)
  refine⟨_,(a0j (a4z (pw_and (a0w (d3z hu) (pvF 1) (a5q (pvF 0) rfl) (by rfl)) (pw_and1 (a0w (d3z hu) (pvF 1) (a5q (pvF 0) rfl) (by rfl)))).pt
   (a0o (a8o T.g3s T.d8u a8n rfl (by rfl) (a0g a0v a0i)))
   a1g)
   (a0j (a4z (a0w (d3z hu) (pvF 2) (a5q (pvF 0) rfl) (by rfl))
   (a0o (a8o T.g3s T.d8u a8n rfl (by rfl) (a0g a0v a0i)))
   a1g)
   (a0j (a3s (i:=4) b6j.nd rfl (Or.inl rfl) (c7n T.f6u d0t c8q (by rfl) T.g5q T.d7r .nil c5m (a0g (pvF 3) a0i)))
   (a0j a2h
   (a0j a2h
   (a0o a2h)))))),?_⟩
  rcases h with ⟨rfl,h1,h2⟩ | ⟨rfl,x,rfl,hx,h2⟩ | ⟨rfl,x,y,rfl,hx,rfl,hy,hz⟩
  ·walk_at "rd*"
   exact g1l h1 (g1l h2 q0 q0) (g1l h2 q0 q0)
  ·walk_at "rd*"
   exact src hx (g1l h2 q0 q0)
  ·walk_at "rd*"
   refine src hx (h1z hy ?_)
   intro c cx H2 n2 n2' nx S2 hdx hc
   exact⟨cx,hc,hz.same S2,fun H' S'=>q H' (S2.trans S')⟩
theorem i1n.same{H H':Hp}{v:V}(h:i1n H v)(S:Same H H'):i1n H' v:=h.elim fun t z=>⟨t,f9y S z.1,z.2⟩
theorem i5s (T : Tx K mg A) : a3q P A.wd K mg base (CXE P A.wd) 4 A.b4p A.b1z ["self", "bus", "greatest"] (h9w A) := by
 have c6p:a3q P A.wd K mg base (CXE P A.wd) 2 _ _ _ _:=h5d T
 have a0s:=T.a0s
 have a0h:=T.a0h
 have a0l:=T.a0l
 have a0k:=T.a0k
 have a0m:=T.a0m
 have b0t:=T.b0t
 have a2j:=T.a2j
 have a5g:=T.a5g
 have a5h:=T.a5h
 refine T.c2o.okX c4q (fun vs H Q E h=>?_) (fun cdv A' outer s H vs Q E hr h=>?_)
 ·obtain⟨_,_,_,rfl,_⟩:=h6x (by unfold h9w at h; exact h)
  rfl
 ·obtain⟨o,u,g,rfl,⟨N,p,c,hP,o99,h,q⟩⟩:=h6x (by unfold h9w at h; exact h)
  have hu:=hr.units
  have hs:sizeLine=16777216:=sizeLine_eq
  have c8r:1<=sizeLine:=by decide
  have c4h:a5z 3 _:=hr.mono (by decide)
  obtain⟨dx,t,b,sd,ou,ho,F⟩:=id hP
  have hb:=F.hb
  obtain⟨us,hou,R2⟩:=F.ho
  have ul:=R2.h6p
  unfold ptF at ho
  have fb:=g4k p.bs
  have q0:=q H (Same.refl _)
  refine⟨_,(a0j (a4z (a0w (d3z hu) (pvF 1) (a5q (pvF 0) rfl) (by rfl))
   (a0o (a8o T.g3s T.d8u a8n rfl (by rfl) (a0g a0v a0i)))
   a1g)
   (a0j (a4z (a0w d6y (pvF 1) (c8z (b4i (a5q (pvF 0) rfl)) (fun _ _ _ _ _ => (a1v a7n (pvF 0) a0n (fun _ _ => rfl))) (d9n (sc := a0q c7q) (N := ["self", "bus", "greatest", "settler"]) rfl rfl (by decide +kernel)) rfl) (by rfl))
   (a0o (a8o T.h0l T.f7p a8n rfl (by rfl) (a0g a0v a0i)))
   a1g)
   (a0j (a3s (i:=3) c4q.nd rfl (Or.inl rfl) (c7n T.d4s c6p c4h (by rfl) T.f5m T.d2h .nil c5m (a0g (pvF 2) a0i)))
   (a0o a2h)))),?_⟩
  have comp:∀ (y:Str) {te:TE} {Q2:VK},(∀ H3 D,Same H H3->H3 D=some (.lst ((p.os.map (·.1)).map V.str))->Q2 (.ref D) H3)->(∀ (i:Nat) v z H' (Q':VK),us[i]? = some v->(p.os.map fun x=>V.str x.1)[i]? = some z->Same H H'->Q' z H'->te (some v :: [some (.ref o),some (.str y),some g,none]) H' Q')->∀ D H2,H D=none->Same H H2->H2 D=some (.lst [])->f5y (Itl K ou) te D [some (.ref o),some (.str y),some g,none] H2 Q2 ⟨⟩:=fun y te Q2 a b D H2 n2 S2 h2=>by
   refine g5f (p.os.map fun x=>V.str x.1) (by rw [List.length_map,ul]) n2 S2 h2 (SqL.of hou) (by omega) b ?_
   intro H3 S3 h3
   exact a H3 D S3 (by rw [h3,List.map_map]; rfl)
  rcases h with ⟨rfl,h1⟩ | ⟨rfl,y,rfl,hy,hi⟩ | ⟨rfl,y,rfl,hy,hi,hg⟩
  ·walk_at "rd*"
   exact g1l h1 q0 q0
  ·walk_at "rd*"
   refine h1z hy ⟨⟨_,SqL.of hou⟩,comp y ?_ ?_⟩
   ·intro H3 D S3 h3
    have q3:=q H3 S3
    have ff:=b4g (p.os.map (·.1))
    have ii:=b0i y (p.os.map (·.1))
    rw [decide_eq_true hi] at ii
    walk_at "rd*"
    exact⟨rfl,q3⟩
   ·intro i v z H' Q' hx hz S' q'
    obtain⟨e,pe,he,rfl,hpe⟩:=R2.at2 hx
    rw [List.getElem?_map,he] at hz
    cases hz
    have hp':=S' _ _ hpe
    clear hpe
    walk_at "rd*"
  ·walk_at "rd*"
   refine h1z hy ⟨⟨_,SqL.of hou⟩,comp y ?_ ?_⟩
   ·intro H3 D S3 h3
    have q3:=q H3 S3
    have ff:=b4g (p.os.map (·.1))
    have ii:=b0i y (p.os.map (·.1))
    rw [decide_eq_false hi] at ii
    walk_at "rd*"
    refine⟨rfl,?_⟩
    intro c cx H4 n4 n4' nx S4 hdx hc
    exact⟨hg.same (S3.trans S4),q H4 (S3.trans S4)⟩
   ·intro i v z H' Q' hx hz S' q'
    obtain⟨e,pe,he,rfl,hpe⟩:=R2.at2 hx
    rw [List.getElem?_map,he] at hz
    cases hz
    have hp':=S' _ _ hpe
    clear hpe
    walk_at "rd*"
theorem kx(T:Tx K mg A)(c:Nat)(h:c < 5):d3t K (exC A c)/\PySem.W.subIn K (.ref (exC A c)) (.ref A.a0z)=some true/\PySem.W.kitOne K (.ref (exC A c)) (.ref A.a0t)=some (decide (c=0))/\PySem.W.kitOne K (.ref (exC A c)) (.ref A.a1h)=some (decide (c=1))/\PySem.W.kitOne K (.ref (exC A c)) (.ref A.a1i)=some (decide (c=2))/\PySem.W.kitOne K (.ref (exC A c)) (.ref A.a0r)=some (decide (c=3))/\PySem.W.kitOne K (.ref (exC A c)) (.ref A.a0p)=some (decide (c=4)) /\
  (PySem.W.kitOne K (.ref (exC A c)) (.ref A.a8g) = some false ∧ PySem.W.kitOne K (.ref (exC A c)) (.ref A.a2g) = some false ∧ PySem.W.kitOne K (.ref (exC A c)) (.ref A.a0u) = some false ∧ PySem.W.kitOne K (.ref (exC A c)) (.ref A.a5j) = some false ∧ PySem.W.kitOne K (.ref (exC A c)) (.ref A.a3r) = some false) ∧ PySem.W.kitOne K (.ref (exC A c)) (.type "ValueError") = some true := by
 match c,h with
 | 0,_=>exact⟨T.h4o,T.b8t,T.f1r,T.f3k,T.f3i,T.f1s,T.d6o,⟨T.f7r,T.d8j,T.f1t,T.f3j,T.f1q⟩,T.d3i⟩
 | 1,_=>exact⟨T.h9i,T.c0t,T.f3m,T.f7u,T.f7s,T.f3n,T.d8k,⟨T.g1b,T.f1u,T.f3o,T.f7t,T.f3l⟩,T.d4z⟩
 | 2,_=>exact⟨T.h9h,T.c0v,T.f3q,T.f7y,T.f7v,T.f3r,T.d8l,⟨T.g1c,T.f1v,T.f3s,T.f7w,T.f3p⟩,T.d5g⟩
 | 3,_=>exact⟨T.h4p,T.b8r,T.f1n,T.f3h,T.f2z,T.f1o,T.d6n,⟨T.f7q,T.d8i,T.f1p,T.f3g,T.f1m⟩,T.d3h⟩
 | 4,_=>exact⟨T.g7a,T.b4u,T.d6k,T.d8h,T.d7z,T.d6l,T.d3g,⟨T.f1l,T.d4y,T.d6m,T.d8g,T.d6j⟩,T.d0p⟩
theorem f3v{K:PySem.W.Frag}{a D:Addr}{xs:List V}{tc:TT}{te:TE}{σ:L2.St}{H0 H:Hp}{Q:VK}(p:V->Bool)(n0:H0 D=none)(S:Same H0 H)(hD:H D=some (.lst []))(hS:SqL K H0 a xs)(hsz:xs.length<=sizeLine)
  (hc:∀ (i:Nat) x H' (Q':Bool->Hp->Prop),xs[i]? = some x->Same H0 H'->(∀ H2,Same H' H2->Q' (p x) H2)->tc (some x :: σ) H' Q')
  (he:∀ (i:Nat) x H' (Q':VK),xs[i]? = some x->p x=true->Same H0 H'->Q' x H'->te (some x :: σ) H' Q')
  (q:∀ H',Same H0 H'->H' D=some (.lst (xs.filter p))->Q (.ref D) H'):g9n (Itl K a) tc te D σ H Q ⟨⟩:=by
 refine⟨xs.length,fun i ys H'=>Same H0 H'/\H' D=some (.lst ys)/\ys=(xs.take i).filter p,⟨S,hD,by simp⟩,fun i ys H' hi w=>?_⟩
 obtain⟨S',h',e⟩:=w
 refine⟨h',?_⟩
 have e2:SqL K H' a xs:=S'.seq hS
 by_cases hlt:i < xs.length
 ·have hyl:ys.length<=i:=by
   rw [e]
   exact Nat.le_trans (List.length_filter_le _ _) (by rw [List.length_take]; omega)
  refine .inr ⟨hlt,⟨xs,xs[i],e2,by simp [hlt]⟩,by omega,fun x H2 y=>?_⟩
  obtain⟨e',y⟩:=y
  subst e'
  have hx:=y xs e2
  have et:xs.take (i+1)=xs.take i++[x]:=by rw [List.take_add_one,hx]; rfl
  refine hc i x _ _ hx S' fun H3 S3=>?_
  have h3:=S3 _ _ h'
  cases hp:p x with
  | true =>
   rw [if_pos rfl]
   refine he i x _ _ hx hp (S'.trans S3) ⟨h3,fun H4 s4 h4=>⟨(S'.trans S3).step n0 s4,h4,?_⟩⟩
   rw [et,List.filter_append,<- e,List.filter_cons,if_pos hp]
   rfl
  | false =>
   rw [if_neg Bool.false_ne_true]
   refine⟨S'.trans S3,h3,?_⟩
   rw [et,List.filter_append,List.filter_cons,if_neg (by rw [hp]; exact Bool.false_ne_true),e]
   simp
 ·have e3:i=xs.length:=by omega
  subst e3
  refine .inl ⟨⟨_,e2,by simp⟩,q H' S' ?_⟩
  rw [h',e,List.take_length]
theorem i5t{c:Nat}(h:c < 5):((blL c).filter trB).length=1:=by
 match c,h with
 | 0,_=>rfl
 | 1,_=>rfl
 | 2,_=>rfl
 | 3,_=>rfl
 | 4,_=>rfl
theorem i9r{c:Nat}(h:c < 5):(∃ z,(blL c)[c]? = some z/\eqV z (.bl true)=true)/\∀ (m:Nat) z,m < c->(blL c)[m]? = some z->eqV z (.bl true)=false:=by
 have e:∀ {c:Nat},(∀ m < c,((blL c)[m]?.all fun z=>!eqV z (.bl true))=true)->∀ (m:Nat) z,m < c->(blL c)[m]? = some z->eqV z (.bl true)=false:=fun hh m z hm hz=>by
  have y:=hh m hm
  rw [hz] at y
  simpa using y
 match c,h with
 | 0,_=>exact⟨⟨_,rfl,rfl⟩,e (by decide)⟩
 | 1,_=>exact⟨⟨_,rfl,rfl⟩,e (by decide)⟩
 | 2,_=>exact⟨⟨_,rfl,rfl⟩,e (by decide)⟩
 | 3,_=>exact⟨⟨_,rfl,rfl⟩,e (by decide)⟩
 | 4,_=>exact⟨⟨_,rfl,rfl⟩,e (by decide)⟩
theorem i9s{c:Nat}(h:c < 5)(ys:List V):(kdL++ys)[c]? = some (.str (kdS c)):=by
 match c,h with
 | 0,_=>rfl
 | 1,_=>rfl
 | 2,_=>rfl
 | 3,_=>rfl
 | 4,_=>rfl
theorem h2b (T : Tx K mg A) : a3q P A.wd K mg base CX0 13 A.b8g A.b8h ["_law_patch_here", "_law_way", "_law_one", "_law_two", "_law_three"] (h1b A) := by
 have f3w:a3q P A.wd K mg base (CXE P A.wd) 3 _ _ _ _:=i0n T
 have g1m:a3q P A.wd K mg base (CXE P A.wd) 3 _ _ _ _:=i0o T
 have f8m:a3q P A.wd K mg base (CXE P A.wd) 12 _ _ _ _:=i5r T
 have g1n:a3q P A.wd K mg base (CXE P A.wd) 4 _ _ _ _:=i5s T
 have a0s:=T.a0s
 have a0h:=T.a0h
 have a0l:=T.a0l
 have a0k:=T.a0k
 have a0m:=T.a0m
 refine T.a4u.ok b4l (fun vs H Q E h=>?_) (fun cdv A' outer s H vs Q E hr h=>?_)
 ·obtain⟨_,_,_,_,_,rfl,_⟩:=g5o (by unfold h1b at h; exact h)
  rfl
 ·obtain⟨o,wy,v1,v2,v3,rfl,⟨N,p,c,hP,o99,c5,hW,q⟩⟩:=g5o (by unfold h1b at h; exact h)
  have hu:=hr.units
  have hs:sizeLine=16777216:=sizeLine_eq
  have b1k:a5z 3 _:=hr.mono (by decide)
  have b2l:a5z 3 _:=hr.mono (by decide)
  have b3h:a5z 12 _:=hr.mono (by decide)
  have b9y:a5z 4 _:=hr.mono (by decide)
  obtain⟨dx,t,b,sd,ou,ho,F⟩:=id hP
  unfold ptF at ho
  obtain⟨xq,xs,x0,x1,x2,x3,x4,⟨y0,y1,y2,y3,y4⟩,xv⟩:=kx T c c5
  refine⟨_,(a0j (a3s (i:=5) b4l.nd rfl (Or.inl rfl) d6v)
   (d2m (h3q (i:=6) (fun E=>(g9v (a0w (a6v hu) (pvF 1) a0v (a1k _)) (d1g (d8q (d3y (E:=E) (pvF 0) T.a0s T.b0u f3w b1k T.c1o .nil (a0g (pvF 2) a0i)))) (d1g (g9v (a0w (a6v hu) (pvF 1) a0v (a1k _)) (d1g (d8q (d3y (E:=E) (pvF 0) T.a0s T.b2h g1m b2l T.c3y .nil (a0g (pvF 2) a0i)))) (d1g (g9v (a0w (a6v hu) (pvF 1) a0v (a1k _)) (d1g (d8q (d3y (E:=E) (pvF 0) T.a0s T.b2y f8m b3h T.c4z .nil (a0g (pvF 2) (a0g (pvF 3) (a0g (pvF 4) a0i)))))) (d1g (d8q (d3y (E:=E) (pvF 0) T.a0s T.b9r g1n b9y T.d2y .nil (a0g (pvF 2) (a0g (pvF 3) a0i))))))))))) (fun e=>(a0o (a3s (i:=5) b4l.nd rfl (Or.inl rfl) (pvF 6)))) (by rfl) T.g3r T.g6z b4l.nd rfl rfl)
   (a0j (a3s (i:=7) b4l.nd rfl (Or.inl rfl) (a1y (a0g (a1l (b6g) (by rfl) T.a1u boot_isinstance (a0g (pvF 5) (a0g (a5i (v:=.ref A.a0t) (by rfl) T.g1a rfl) a0i))) (a0g (a1l (b6g) (by rfl) T.a1u boot_isinstance (a0g (pvF 5) (a0g (a5i (v:=.ref A.a1h) (by rfl) T.f7p rfl) a0i))) (a0g (a1l (b6g) (by rfl) T.a1u boot_isinstance (a0g (pvF 5) (a0g (a5i (v:=.ref A.a1i) (by rfl) T.d8u rfl) a0i))) (a0g (a1l (b6g) (by rfl) T.a1u boot_isinstance (a0g (pvF 5) (a0g (a5i (v:=.ref A.a0r) (by rfl) T.c4g rfl) a0i))) a0i))))))
   (a0j (a3s (i:=7) b4l.nd rfl (Or.inl rfl) (a2i a7i (pvF 7) (a1y (a0g (a1l (b6g) (by rfl) T.a1u boot_isinstance (a0g (pvF 5) (a0g (a5i (v:=.ref A.a0p) (by rfl) T.f1k rfl) a0i))) (a0g (a1l (b6g) (by rfl) T.a1u boot_isinstance (a0g (pvF 5) (a0g (a5i (v:=.ref A.a8g) (by rfl) T.h9g rfl) a0i))) (a0g (a1l (b6g) (by rfl) T.a1u boot_isinstance (a0g (pvF 5) (a0g (a5i (v:=.ref A.a2g) (by rfl) T.g6x rfl) a0i))) a0i))))))
   (a0j (a3s (i:=7) b4l.nd rfl (Or.inl rfl) (a2i a7i (pvF 7) (a1y (a0g (a1l (b6g) (by rfl) T.a1u boot_isinstance (a0g (pvF 5) (a0g (a5i (v:=.ref A.a0u) (by rfl) T.c3z rfl) a0i))) (a0g (a1l (b6g) (by rfl) T.a1u boot_isinstance (a0g (pvF 5) (a0g (a5i (v:=.ref A.a5j) (by rfl) T.h4k rfl) a0i))) (a0g (a1l (b6g) (by rfl) T.a1u boot_isinstance (a0g (pvF 5) (a0g (a5i (v:=.ref A.a3r) (by rfl) T.h0j rfl) a0i))) a0i))))))
   (a0j (a4z (pw_or (b5v (a7y (a1l (b6g) (by rfl) T.a1u boot_isinstance (a0g (pvF 5) (a0g (b7l (v := .ty "ValueError") (u := .type "ValueError") (by rfl) T.g0z rfl rfl) a0i))))) (pw_or1 (a0w (b5w hu) (a1l a8l (by rfl) T.d2z boot_len (a0g (h3v (b4i (pvF 7)) (fun _ _ _ _ _ => (a7y (pvF 0))) (fun _ _ _ _ _ => (pvF 0)) (d9n (sc := a0q d5o) (N := ["_law_patch_here", "_law_way", "_law_one", "_law_two", "_law_three", "_law_found", "error", "_law_some"]) rfl rfl (by decide +kernel)) rfl) a0i)) a0n (a1k _)))).pt
   (a0o (a1z (c1z (a0g a0v a0i))))
   a1g)
   (a0o (a1z (a1v a7n (a2i a7i (a1y (a0g a0v (a0g a0v (a0g a0v (a0g a0v (a0g a0v a0i)))))) (a2i c7l (a1y (a0g a0v a0i)) a0n)) (c4n c4m PySem.F.plainAttrs_list PySem.F.slot_list_index PySem.F.type_list_index g9y (pvF 7) (a0g d7w a0i)) (fun _ _=>rfl)))))))))),?_⟩
  walk_at "rd"
  obtain⟨Mid,pin,pout⟩:=i6l (fun σ' H'=>∃ e:Addr,σ' = [some (.ref o),some (.str wy),some v1,some v2,some v3,some (.ref e),none,none]/\Same H H'/\H' e=some (h6h e (.ref (exC A c))))
  refine⟨Mid,?_,?_⟩
  ·walk_at "rd*"
   have fin:∀ H1,Same H H1->(PySem.W.subIn K (.ref (exC A c)) (.ref A.a0z)=some true/\∀ e H2,H1 e=none->Same H1 H2->H2 e=some (i6m e (.ref (exC A c)) none)->Mid [some (.ref o),some (.str wy),some v1,some v2,some v3,some (.ref e),none,none] H2):=fun H1 S1=>⟨xs,fun e H2 _ S h=>pin _ _ ⟨e,rfl,S1.trans S,h⟩⟩
   rcases hW with ⟨rfl,hw⟩ | ⟨rfl,hw⟩ | ⟨rfl,hw⟩ | ⟨rfl,hw⟩
   ·rw [if_pos (.inl rfl)]
    exact⟨N,p,hP,c,hw,fin⟩
   ·rw [if_pos (.inr rfl)]
    exact⟨N,p,hP,c,hw,fin⟩
   ·rw [if_neg (by decide +kernel),if_pos rfl]
    exact⟨N,p,hP,c,hw,fin⟩
   ·rw [if_neg (by decide +kernel),if_neg (by decide +kernel)]
    exact⟨N,p,hP,o99,c,hw,fin⟩
  ·intro σ' H' hm
   obtain⟨e,rfl,S1,he⟩:=pout _ _ hm
   walk_at "rd"
   refine isx he xq x0 (isx he xq x1 (isx he xq x2 (isx he xq x3 ⟨by omega,fun l1 H1 n1 S2 h1=>?_⟩)))
   have he1:=S2 _ _ he
   clear he
   walk_at "rd"
   refine isx he1 xq x4 (isx he1 xq y0 (isx he1 xq y1 ⟨by omega,fun l2 H2 n2 S3 h2=>?_⟩))
   have he2:=S3 _ _ he1
   have h12:=S3 _ _ h1
   clear he1 h1
   walk_at "rd*"
   refine fun l3 H3 n3 S4 h3=>?_
   have he3:=S4 _ _ he2
   clear he2 h2 h12
   walk_at "rd"
   refine isx he3 xq y2 (isx he3 xq y3 (isx he3 xq y4 ⟨by omega,fun l4 H4 n4 S5 h4=>?_⟩))
   have he4:=S5 _ _ he3
   have h34:=S5 _ _ h3
   clear he3 h3
   walk_at "rd*"
   refine fun l5 H5 n5 S6 h5=>?_
   have he5:=S6 _ _ he4
   clear he4 h4 h34
   walk_at "rd"
   refine isxT he5 xq xv ?_
   replace h5:H5 l5=some (.lst (blL c)):=h5
   have bl:(blL c).length=10:=rfl
   walk_at "rd*"
   refine⟨⟨_,SqL.of h5⟩,fun D H6 n6 S7 h6=>?_⟩
   refine f3v trB n6 S7 h6 (SqL.of h5) (by rw [bl]; omega) ?_ ?_ ?_
   ·intro i v H' Q' hv S' q'
    have hb:∃ b,v = .bl b:=by
     have hm:=List.mem_of_getElem? hv
     simp only [blL,List.mem_cons,List.not_mem_nil,or_false] at hm
     rcases hm with h | h | h | h | h | h | h | h | h | h <;> exact⟨_,h⟩
    obtain⟨b,rfl⟩:=hb
    walk_at "rd"
    exact q' _ (Same.refl _)
   ·intro i v H' Q' hv hp S' q'
    walk_at "rd"
    exact q'
   ·intro H7 S8 h7
    have h57:=S8 _ _ h5
    have l1:=i5t c5
    have i1:=i9r c5
    have S07:=S1.trans (S2.trans (S3.trans (S4.trans (S5.trans (S6.trans S8)))))
    clear h5 he5 h6
    walk_at "rd*"
    rw [if_neg (by decide)]
    refine fun l8 H8 n8 S9 h8=>?_
    have hb8:=S9 _ _ h57
    clear h7 h57
    walk_at "rd*"
    refine fun l9 H9 n9 S10 h9=>?_
    have hb9:=S10 _ _ hb8
    have h89:=S10 _ _ h8
    clear hb8 h8
    walk_at "rd*"
    refine⟨by decide,fun lA HA nA S11 hA=>?_⟩
    replace hA : HA lA = some (.lst (List.replicate 5 (V.str (Str.ofString "other")))) := hA
    have hbA:=S11 _ _ hb9
    have h8A:=S11 _ _ h89
    clear hb9 h89 h9
    walk_at "rd*"
    refine fun lB HB nB S12 hB=>?_
    have hbB:=S12 _ _ hbA
    clear hbA h8A hA
    walk_at "rd*"
    exact⟨rfl,rfl,c,by omega,i1.1,i1.2,_,c5k (i9s c5 _),q HB (S07.trans (S9.trans (S10.trans (S11.trans S12))))⟩
theorem allB{H H':Hp}{vs:List V}{v:V}(G:∀ u∈vs,b9v H u)(S:Same H H')(b:b9v H' v):∀ u∈v :: vs,b9v H' u:=fun u hu=>by
 rcases List.mem_cons.mp hu with rfl | h
 ·exact b
 ·exact (G u h).same S
theorem i0q{H H':Hp}{vs:List V}(G:∀ u∈vs,b9v H u)(S:Same H H'):∀ u∈vs,b9v H' u:=fun u hu=>(G u hu).same S
theorem i0r : (Dt.gain (mkRat 1 2)).word = Str.ofString "gain:1/2" := by decide +kernel
theorem i9t : (Dt.gain (mkRat 1 1)).word = Str.ofString "gain:1/1" := by decide +kernel
theorem i7a : (Dt.delay 1).word = Str.ofString "delay:1" := by decide +kernel
theorem i5u:(Dt.gain (mkRat 1 2)).ok/\(Dt.gain (mkRat 1 2)).kd < 2:=⟨⟨by decide +kernel,by decide +kernel⟩,by decide⟩
theorem i9u:(Dt.gain (mkRat 1 1)).ok/\(Dt.gain (mkRat 1 1)).kd < 2:=⟨⟨by decide +kernel,by decide +kernel⟩,by decide⟩
theorem j1l:(Dt.delay 1).ok/\(Dt.delay 1).kd < 2:=⟨(by decide:1<=1000),by decide⟩
theorem h2c{H:Hp}{r:Addr}{d:Dt}{u:V}{x:Str}(ok:d.ok/\d.kd < 2)(e:d.word=x)(b:i6w u)(h:H r=some (.lst [.str x,u])):b9v H (.ref r) :=
 .inr ⟨r,_,rfl,h,by show 2<=100; decide,.inr ⟨by show 2<=8; decide,[d],u,[],(fun z hz=>by obtain rfl:=List.mem_singleton.mp hz; exact ok),b,by rw [<- e]; rfl⟩⟩
theorem h7l{H:Hp}{r:Addr}{u:V}(b:i6w u)(h:H r=some (.lst [u])):b9v H (.ref r) :=
 .inr ⟨r,_,rfl,h,by show 1<=100; decide,.inr ⟨by show 1<=8; decide,[],u,[],(fun z hz=>by cases hz),b,rfl⟩⟩
theorem h2d{H:Hp}{r:Addr}{xs:List V}(h:H r=some (.lst xs))(l:xs.length=9):b9v H (.ref r):=.inr ⟨r,_,rfl,h,by omega,.inl (by omega)⟩
theorem f5q(k:Int){n:Int}(h:0 < n):∃ j:Nat,k.fmod n=j/\(j:Int) < n:=by
 have h1:=Int.fmod_nonneg_of_pos k h
 have h2:=Int.fmod_lt_of_pos k h
 exact⟨(k.fmod n).toNat,by omega,by omega⟩
theorem f2l{xs:List V}{j:Nat}{R:V->Prop}(hj:j < xs.length)(h:∀ v∈xs,R v):∃ v,atI xs (j:Int)=some v/\R v:=⟨xs[j],c5k (List.getElem?_eq_getElem hj),h _ (List.getElem_mem hj)⟩
theorem i0s (T : Tx K mg A) : a3q P A.wd K mg base CX0 1 A.a8u A.a9p ["_law_pick"] h1e := by
 refine T.a8v.ok c9o (fun vs H Q E h=>?_) (fun cdv A' outer s H vs Q E hr h=>?_)
 ·obtain⟨_,rfl,_⟩:=h6t (by unfold h1e at h; exact h)
  rfl
 ·obtain⟨k,rfl,q⟩:=h6t (by unfold h1e at h; exact h)
  have q:∀ v H1,Same H H1->b9v H1 v->Q v H1:=q
  have hu:=hr.units
  have hs:sizeLine=16777216:=sizeLine_eq
  obtain⟨j,ej,jl⟩:=f5q k (n:=12) (by decide)
  refine⟨_,(a0j (a3s (i:=1) c9o.nd rfl (Or.inl rfl) (a1y (a0g d6v (a0g a0v (a0g (c1z (a0g a0v a0i)) (a0g (a1y (a0g a0v (a0g a0v a0i))) (a0g (a1y (a0g a0v (a0g d6v a0i))) (a0g (a1y (a0g a0v a0i)) (a0g (a1y (a0g a0v a0i)) (a0g a0n a0i))))))))))
   (a0o (a1z (a1v a7n (a2i a7i (pvF 1) (a1y (a0g (a2i c7l (a1y (a0g a0v a0i)) a0n) (a0g (a2i a7i (a2i c7l (a1y (a0g a0v a0i)) a0n) (a1y (a0g a0v a0i))) (a0g g5b (a0g d7w a0i)))))) (a2i a8m (pvF 0) a0n) (fun _ _=>rfl))))),?_⟩
  walk_at "rd*"
  refine fun t1 H1 n1 S1 h1=>?_
  have G1:∀ u∈[V.ref t1],b9v H1 u:=fun u hu=>by
   obtain rfl:=List.mem_singleton.mp hu
   exact .inl ⟨.tup,by rw [d9k,h1],by decide⟩
  clear h1
  walk_at "rd*"
  refine fun l2 H2 n2 S2 h2=>?_
  have G2:=allB G1 S2 (h2c i5u i0r (.inr (.inr (.inr (.inl rfl)))) h2)
  clear h2 G1
  walk_at "rd*"
  refine fun l3 H3 n3 S3 h3=>?_
  have G3:=allB G2 S3 (h2c j1l i7a (.inl rfl) h3)
  clear h3 G2
  walk_at "rd*"
  refine fun l4 H4 n4 S4 h4=>?_
  have G4:=allB G3 S4 (h7l (.inr (.inr (.inr (.inr (.inl rfl))))) h4)
  clear h4 G3
  walk_at "rd*"
  refine fun l5 H5 n5 S5 h5=>?_
  have G5:=allB G4 S5 (h7l (.inr (.inl rfl)) h5)
  clear h5 G4
  walk_at "rd*"
  refine fun l6 H6 n6 S6 h6=>?_
  have G6:=i0q G5 S6
  clear G5
  walk_at "rd*"
  refine fun l7 H7 n7 S7 h7=>?_
  have G7:=i0q G6 S7
  have h67:=S7 _ _ h6
  clear G6 h6
  walk_at "rd*"
  refine⟨by decide,fun l8 H8 n8 S8 h8=>?_⟩
  have G8:=allB G7 S8 (h2d h8 rfl)
  have h68:=S8 _ _ h67
  clear G7 h67 h7 h8
  walk_at "rd*"
  refine fun l9 H9 n9 S9 h9=>?_
  have G9:=i0q G8 S9
  have h69:=S9 _ _ h68
  clear G8 h68
  walk_at "rd*"
  refine⟨by decide,fun lA HA nA SA hA=>?_⟩
  replace hA : HA lA = some (.lst (List.replicate 8 (V.str (Str.ofString "delay:1")))) := hA
  have GA:=i0q G9 SA
  have h6A:=SA _ _ h69
  clear G9 h69 h9
  walk_at "rd*"
  refine fun lB HB nB SB hB=>?_
  have GB:=i0q GA SB
  have h6B:=SB _ _ h6A
  have hAB:=SB _ _ hA
  clear GA h6A hA
  walk_at "rd*"
  refine fun lC HC nC SC hC=>?_
  have GC:=allB GB SC (h2d hC rfl)
  have h6C:=SC _ _ h6B
  clear GB h6B hAB hB hC
  walk_at "rd*"
  refine fun lD HD nD SD hD=>?_
  have GD:=allB GC SD (v:=.ref lD) (.inl ⟨.dct,by rw [d9k,hD],by decide⟩)
  have h6D:=SD _ _ h6C
  clear GC h6C hD
  walk_at "rd*"
  refine fun lE HE nE SE hE=>?_
  have GE:=i0q GD SE
  have h6E:=SE _ _ h6D
  clear GD h6D
  walk_at "rd*"
  refine fun lF HF nF SF hF=>?_
  have GF:=i0q GE SF
  clear GE h6E hE
  walk_at "rd*"
  refine f2l (R:=fun v=>Q v HF) (by show j < 12; omega) fun v hv=>q v HF (S1.trans (S2.trans (S3.trans (S4.trans (S5.trans (S6.trans (S7.trans (S8.trans (S9.trans (SA.trans (SB.trans (SC.trans (SD.trans (SE.trans SF)))))))))))))) ?_
  simp only [List.mem_cons,List.not_mem_nil,or_false] at hv
  rcases hv with rfl | rfl | rfl | rfl | rfl | rfl | rfl | rfl | rfl | rfl | rfl | rfl
  ·exact .inl ⟨.non,rfl,by decide⟩
  ·exact .inl ⟨.str,rfl,by decide⟩
  ·exact GF _ (by simp)
  ·exact GF _ (by simp)
  ·exact GF _ (by simp)
  ·exact GF _ (by simp)
  ·exact GF _ (by simp)
  ·exact .inl ⟨.int,rfl,by decide⟩
  ·exact GF _ (by simp)
  ·exact GF _ (by simp)
  ·exact GF _ (by simp)
  ·exact .inl ⟨.bl,rfl,by decide⟩
theorem i0t (T : Tx K mg A) : a3q P A.wd K mg base CX0 1 A.a5s A.a6w ["_law_pick"] h1f := by
 refine T.a5t.ok d4q (fun vs H Q E h=>?_) (fun cdv A' outer s H vs Q E hr h=>?_)
 ·obtain⟨_,rfl,_⟩:=h6t (by unfold h1f at h; exact h)
  rfl
 ·obtain⟨k,rfl,⟨k0,k1,q⟩⟩:=h6t (by unfold h1f at h; exact h)
  have hu:=hr.units
  have hs:sizeLine=16777216:=sizeLine_eq
  obtain⟨j,ej,jl⟩:=f5q k (n:=8) (by decide)
  refine⟨_,(a0o (a1z (a1v a7n (a1y (a0g a0n (a0g (a2i h5w (i2g h5x a0n) (pvF 0)) (a0g (a2i a7i (a2i f4m a0n a0n) a0n) (a0g d6v (a0g d7w (a0g a0v (a0g (a1y (a0g a0n a0i)) (a0g (a2i a7i (a2i a7i (a2i f4m a0n a0n) a0n) (pvF 0)) a0i))))))))) (a2i a8m (pvF 0) a0n) (fun _ _=>rfl)))),?_⟩
  walk_at "rd"
  refine⟨by decide,by omega,fun l1 H1 n1 S1 h1=>?_⟩
  walk_at "rd"
  refine⟨by decide,by omega,fun l2 H2 n2 S2 h2=>?_⟩
  have h12:=S2 _ _ h1
  clear h1
  walk_at "rd*"
  refine f2l (R:=fun v=>Q v H2) (by show j < 8; omega) fun v hv=>q v H2 (S1.trans S2) ?_
  simp only [List.mem_cons,List.not_mem_nil,or_false] at hv
  rcases hv with rfl | rfl | rfl | rfl | rfl | rfl | rfl | rfl
  ·exact⟨.int,rfl,.inr ⟨_,rfl,by omega⟩⟩
  ·exact⟨.int,rfl,.inr ⟨_,rfl,by omega⟩⟩
  ·exact⟨.int,rfl,.inr ⟨_,rfl,by omega⟩⟩
  ·exact⟨.non,rfl,.inl (by decide)⟩
  ·exact⟨.bl,rfl,.inl (by decide)⟩
  ·exact⟨.str,rfl,.inl (by decide)⟩
  ·exact⟨.lst,by rw [d9k,h12],.inl (by decide)⟩
  ·exact⟨.int,rfl,.inr ⟨_,rfl,by omega⟩⟩
theorem i0u (c : Nat) : g5d "abcdefghijklmnopqrstuvwxyz" ⟨#[c]⟩ = decide (97 ≤ c ∧ c ≤ 122) := by
 unfold g5d
 rw [StrLaws.found_one]
 have e : (Str.ofString "abcdefghijklmnopqrstuvwxyz").cps.toList = List.range' 97 26 := by decide +kernel
 rw [e]
 refine decide_eq_decide.mpr (List.mem_range'_1.trans ?_)
 constructor <;> intro h <;> omega
theorem f2m{x:Str}{c:Nat}(h:c∈x.cps.toList)(hc:c < 97):nmB x=false:=by
 unfold nmB
 rw [show (x.cps.toList.all fun c => g5d "abcdefghijklmnopqrstuvwxyz" ⟨#[c]⟩) = false from ?_, Bool.and_false, Bool.and_false]
 rw [List.all_eq_false]
 exact⟨c,h,by rw [i0u,decide_eq_false (by omega)]; exact Bool.false_ne_true⟩
theorem up_c:∀ c,97<=c->c<=122->Unicode.upperOf c = [c - 32]:=by
 have h:(List.range' 97 26).all (fun c=>Unicode.upperOf c == [c - 32])=true:=by decide +kernel
 intro c h1 h2
 exact beq_iff_eq.mp (List.all_eq_true.mp h c (List.mem_range'_1.mpr ⟨h1,by omega⟩))
theorem i5v{x:Str}(h:∀ c∈x.cps.toList,97<=c/\c<=122):(upS x).cps.toList=x.cps.toList.map (· - 32):=by
 unfold upS placed
 show (Array.flatten _).toList=_
 rw [Array.toList_flatten,Array.toList_mapIdx]
 generalize x.cps.toList=l at h
 clear x
 have e:(List.mapIdx (fun i c=>(Unicode.upperOf c).toArray) l).map Array.toList=l.map fun c=>[c - 32]:=by
  apply List.ext_getElem?
  intro i
  rw [List.getElem?_map,List.getElem?_mapIdx,List.getElem?_map]
  cases q:l[i]? with
  | none=>rfl
  | some c =>
   have:=h c (List.mem_of_getElem? q)
   simp [up_c c this.1 this.2]
 rw [e]
 clear e h
 induction l with
 | nil=>rfl
 | cons c l ih=>rw [List.map_cons,List.flatten_cons,ih]; rfl
theorem i9v{x:Str}(h:b9u x):nmB (upS x)=false:=by
 have e:=i5v h.2.2
 have ne:x.cps.toList≠[]:=fun z=>h.2.1 (d1r (by show x.cps.toList=_; rw [z]; decide +kernel))
 obtain⟨c,l,ec⟩:=List.exists_cons_of_ne_nil ne
 have hc:=h.2.2 c (by rw [ec]; exact List.mem_cons_self)
 exact f2m (c:=c - 32) (by rw [e,ec]; exact List.mem_cons_self) (by omega)
theorem i0v (T : Tx K mg A) : a3q P A.wd K mg base CX0 1 A.b0g A.b0r ["_law_name", "_law_pick"] h1c := by
 refine T.b6p.ok d2g (fun vs H Q E h=>?_) (fun cdv A' outer s H vs Q E hr h=>?_)
 ·obtain⟨_,_,rfl,_⟩:=i5a (by unfold h1c at h; exact h)
  rfl
 ·obtain⟨x,k,rfl,⟨nm,q⟩⟩:=i5a (by unfold h1c at h; exact h)
  have hu:=hr.units
  have hs:sizeLine=16777216:=sizeLine_eq
  obtain⟨j,ej,jl⟩:=f5q k (n:=16) (by decide)
  have ul:(upS x).length<=8:=by
   show (upS x).cps.size<=8
   rw [<- Array.length_toList,i5v nm.2.2,List.length_map,Array.length_toList]
   exact nm.1
  have xl:=nm.1
  have e1 : (Str.ofString "1").length = 1 := by decide +kernel
  have e2 : (Str.ofString " ").length = 1 := by decide +kernel
  have e3 : (Str.ofString "\n").length = 1 := by decide +kernel
  refine⟨_,(a0j (a3s (i:=2) d2g.nd rfl (Or.inl rfl) (a1y (a0g a0v (a0g (g9o b9l PySem.F.plainAttrs_str PySem.F.slot_str_upper PySem.F.type_str_upper g9w (pvF 0)) (a0g (a2i a7i (pvF 0) a0v) (a0g a0v (a0g (a2i a7i (pvF 0) a0v) (a0g (a2i a7i a0v (pvF 0)) (a0g (a2i a7i (pvF 0) a0v) (a0g a0v (a0g a0v (a0g a0v a0i))))))))))))
   (a0o (a1z (a1v a7n (a2i a7i (pvF 2) (a1y (a0g d6v (a0g d7w (a0g a0n (a0g (a1y (a0g (pvF 0) a0i)) (a0g (c1z (a0g (pvF 0) a0i)) (a0g g5b a0i)))))))) (a2i a8m (pvF 1) a0n) (fun _ _=>rfl))))),?_⟩
  walk_at "rd*"
  refine⟨?_,by omega,by omega,by omega,by omega,by omega,?_⟩
  ·unfold Builtin.Str.tooLong
   exact decide_eq_false (show ¬ (upS x).length > sizeLine by omega)
  refine fun l1 H1 n1 S1 h1=>?_
  walk_at "rd*"
  refine fun l2 H2 n2 S2 h2=>?_
  have h12:=S2 _ _ h1
  clear h1
  walk_at "rd*"
  refine fun l3 H3 n3 S3 h3=>?_
  have h13:=S3 _ _ h12
  have h23:=S3 _ _ h2
  clear h12 h2
  walk_at "rd*"
  refine fun l4 H4 n4 S4 h4=>?_
  have h14:=S4 _ _ h13
  have h24:=S4 _ _ h23
  have h34:=S4 _ _ h3
  clear h13 h23 h3
  walk_at "rd*"
  refine fun l5 H5 n5 S5 h5=>?_
  have h15:=S5 _ _ h14
  have h25:=S5 _ _ h24
  have h35:=S5 _ _ h34
  have h45:=S5 _ _ h4
  clear h14 h24 h34 h4
  walk_at "rd*"
  refine fun l6 H6 n6 S6 h6=>?_
  have h26:=S6 _ _ h25
  have h36:=S6 _ _ h35
  have h46:=S6 _ _ h45
  clear h15 h25 h35 h45 h5
  walk_at "rd*"
  have od:∀ {r:Addr} (u:HO),H6 r=some u->(match u with | .lst _=>true | .tup _=>true | .dK _=>true | _=>false)=true->h2f H6 (.ref r)=true:=fun u h1 h2=>by
   show (match H6 _ with | some (.lst _)=>true | some (.tup _)=>true | some (.dK _)=>true | _=>false)=true
   rw [h1]
   cases u <;> exact h2
  refine f2l (R:=fun v=>Q v H6) (by show j < 16; omega) fun v hv=>q v H6 (S1.trans (S2.trans (S3.trans (S4.trans (S5.trans S6))))) ?_
  simp only [List.mem_cons,List.not_mem_nil,or_false] at hv
  have la:∀ z:Str,(x++z).length=x.length+z.length:=fun z=>strLen_append _ _
  rcases hv with rfl | rfl | rfl | rfl | rfl | rfl | rfl | rfl | rfl | rfl | rfl | rfl | rfl | rfl | rfl | rfl
  ·exact .inl ⟨_,rfl,by decide +kernel,by decide +kernel⟩
  ·exact .inl ⟨_,rfl,by omega,i9v nm⟩
  ·exact .inl ⟨_,rfl,by rw [la]; omega,f2m (c:=49) (by show 49∈sg _; rw [a6q]; exact List.mem_append_right _ (by decide +kernel)) (by decide)⟩
  ·exact .inl ⟨_,rfl,by decide +kernel,by decide +kernel⟩
  ·exact .inl ⟨_,rfl,by rw [la]; omega,f2m (c:=32) (by show 32∈sg _; rw [a6q]; exact List.mem_append_right _ (by decide +kernel)) (by decide)⟩
  ·exact .inl ⟨_,rfl,by rw [strLen_append]; omega,f2m (c:=32) (by show 32∈sg _; rw [a6q]; exact List.mem_append_left _ (by decide +kernel)) (by decide)⟩
  ·exact .inl ⟨_,rfl,by rw [la]; omega,f2m (c:=10) (by show 10∈sg _; rw [a6q]; exact List.mem_append_right _ (by decide +kernel)) (by decide)⟩
  ·exact .inl ⟨_,rfl,by decide +kernel,by decide +kernel⟩
  ·exact .inl ⟨_,rfl,by decide +kernel,by decide +kernel⟩
  ·exact .inl ⟨_,rfl,by decide +kernel,by decide +kernel⟩
  ·exact .inr (.inl rfl)
  ·exact .inr (.inr (.inl rfl))
  ·exact .inr (.inr (.inr (.inl rfl)))
  ·exact .inr (.inr (.inr (.inr (od _ h26 rfl))))
  ·exact .inr (.inr (.inr (.inr (od _ h36 rfl))))
  ·exact .inr (.inr (.inr (.inr (od _ h46 rfl))))
theorem i0w (T : Tx K mg A) : a3q P A.wd K mg base CX0 2 A.b7y A.b7z ["_law_patch_here"] (h1h A) := by
 have f3y:a3q P A.wd K mg base CX0 1 _ _ _ _:=h1v T
 have f8n:a3q P A.wd K mg base CX0 1 _ _ _ _:=h5b T
 have f8o:a3q P A.wd K mg base CX0 1 _ _ _ _:=h5c T
 have g1o:a3q P A.wd K mg base CX0 1 _ _ _ _:=i0l T
 have a0s:=T.a0s
 have a0h:=T.a0h
 have a0l:=T.a0l
 have a0k:=T.a0k
 have a0m:=T.a0m
 refine T.b5u.ok g2z (fun vs H Q E h=>?_) (fun cdv A' outer s H vs Q E hr h=>?_)
 ·obtain⟨_,rfl,_⟩:=c8u (by unfold h1h at h; exact h)
  rfl
 ·obtain⟨o,rfl,⟨N,p,hP,hp,q⟩⟩:=c8u (by unfold h1h at h; exact h)
  have hu:=hr.units
  have hs:sizeLine=16777216:=sizeLine_eq
  have f2n:a5z 1 _:=hr.mono (by decide)
  have f3z:a5z 1 _:=hr.mono (by decide)
  have f4g:a5z 1 _:=hr.mono (by decide)
  have f8p:a5z 1 _:=hr.mono (by decide)
  obtain⟨p1,p2,p3,p4,p5⟩:=hp
  obtain⟨dx,t0,b0,sd0,ou0,ho,F⟩:=id hP
  unfold ptF at ho
  refine⟨_,(a0o (a1z (a1y (a0g (b6h (pvF 0) T.a0s T.c2j f3y f2n T.f2w .nil a3p) (a0g (b6h (pvF 0) T.a0s T.c5r f8n f3z T.f7j .nil a3p) (a0g (b6h (pvF 0) T.a0s T.c5s f8o f4g T.f7k .nil a3p) (a0g (b6h (pvF 0) T.a0s T.c7z g1o f8p T.g0y .nil a3p) a0i))))))),?_⟩
  have ap:∀ {H1:Hp} {z y:Addr} {u:HO},H1 z=none->H1 y=some u->y≠z:=fun n e q=>by rw [<- q,e] at n; cases n
  have lv:∀ {H1:Hp} {z y:Addr},H1 z≠none->H1 y=none->z≠y:=fun n e q=>n (by rw [q]; exact e)
  walk_at "rd*"
  refine⟨N,p,hP,p1,?_⟩
  rintro _ H1 ⟨l1,rfl,n1,S1,h1⟩
  have ho1:=S1 _ _ ho
  clear ho
  walk_at "rd*"
  refine⟨N,p,hP.same S1,p2,?_⟩
  rintro _ H2 ⟨l2,rfl,n2,S2,h2⟩
  have ho2:=S2 _ _ ho1
  have S02:=S1.trans S2
  clear ho1
  walk_at "rd*"
  refine⟨N,p,hP.same S02,p3,p5,fun l3 us3 H3 n3 S3 h3 R3=>?_⟩
  have ho3:=S3 _ _ ho2
  have S03:=S02.trans S3
  clear ho2
  walk_at "rd*"
  refine⟨N,p,hP.same S03,p4,fun l4 us4 H4 n4 S4 h4 R4=>?_⟩
  have S04:=S03.trans S4
  try walk_at "rd*"
  intro L H5 n5 S5 h5
  have S05:=S04.trans S5
  have S35:=S4.trans S5
  refine q L H5 S05 ⟨l1,l2,l3,l4,h5,S04.free n5,⟨⟨n1,ap n5 (S4 _ _ (S3 _ _ (S2 _ _ h1)))⟩,⟨S1.free n2,ap n5 (S4 _ _ (S3 _ _ h2))⟩,⟨S02.free n3,ap n5 (S4 _ _ h3)⟩,S03.free n4,ap n5 h4⟩,⟨ap n2 h1,ap n3 (S2 _ _ h1),ap n4 (S3 _ _ (S2 _ _ h1)),ap n3 h2,ap n4 (S3 _ _ h2),ap n4 h3⟩,S35 _ _ (S3 _ _ (S2 _ _ h1)),S35 _ _ (S3 _ _ h2),⟨us3,S35 _ _ h3,?_⟩,us4,S5 _ _ h4,g2o (R4.same S5)⟩
  refine (R3.mono (M:=Nw (fun a=>H a=none/\a≠L) l1 l2 l3 l4) fun z hz e=>?_).same S35
  exact⟨⟨S02.free hz.1,lv e (S4.free n5)⟩,(fun q=>by rw [q,S2 _ _ h1] at hz; cases hz.1),(fun q=>by rw [q,h2] at hz; cases hz.1),hz.2,lv e n4⟩
theorem nm8{nm:List Str}(h:nm.length=8):∃ n0 n1 n2 n3 n4 n5 n6 n7,nm = [n0,n1,n2,n3,n4,n5,n6,n7]:=by
 match nm,h with
 | [n0,n1,n2,n3,n4,n5,n6,n7],_=>exact⟨_,_,_,_,_,_,_,_,rfl⟩
theorem h5g{N:Addr->Prop}{H H1:Hp}{l:Addr}{xs:List V}(S:b6i N H H1)(hn:¬ N l)(h:H l=some (.lst xs)):H1 l=some (.lst xs):=S _ _ (fun n=>absurd n hn) h
theorem f8q{x:Str}(h:b9u x):PyData.strOk x=true:=by
 unfold PyData.strOk
 rw [<- Array.all_toList,List.all_eq_true]
 intro c hc
 have:=h.2.2 c hc
 rw [decide_eq_true_eq]
 omega
theorem h2e{es:List (Str×Str)}{x y:Str}(h1:∀ v,(x,v)∉es)(h2:x≠y):¬ Rch es x y:=fun r=>h2 (r (· = x) rfl (fun u v hu hm=>absurd (hu▸hm) (h1 v))).symm
theorem d7v{N:Addr->Prop}{H Ha Hb:Hp}(S:Same H Ha)(SN:b6i N Ha Hb)(hN:∀ z,N z->H z=none):Same H Hb:=fun z u e=>SN _ _ (fun n=>by rw [hN z n] at e; cases e) (S _ _ e)
theorem i0x (T : Tx K mg A) : a3q P A.wd K mg base CX0 14 A.b4r A.b5q ["_law_names_here"] (h1g A) := by
 have g1p:a3q P A.wd K mg base CX0 1 _ _ _ _:=i9q T
 have c1p:a3q P A.wd K mg base CX0 3 _ _ _ _:=h7g T
 have c4i:a3q P A.wd K mg base CX0 3 _ _ _ _:=h7h T
 have c5h:a3q P A.wd K mg base CX0 12 _ _ _ _:=h1u T
 have d3n:a3q P A.wd K mg base CX0 4 _ _ _ _:=h7j T
 have a0s:=T.a0s
 have a0h:=T.a0h
 have a0l:=T.a0l
 have a0k:=T.a0k
 have a0m:=T.a0m
 refine T.c2q.ok d7o (fun vs H Q E h=>?_) (fun cdv A' outer s H vs Q E hr h=>?_)
 ·obtain⟨_,rfl,_⟩:=c8u (by unfold h1g at h; exact h)
  rfl
 ·obtain⟨ln,rfl,⟨nm,hl,⟨n8,nmo,nd⟩,q⟩⟩:=c8u (by unfold h1g at h; exact h)
  have hu:=hr.units
  have hs:sizeLine=16777216:=sizeLine_eq
  have f8r:a5z 2 _:=hr.mono (by decide)
  have b1k:a5z 3 _:=hr.mono (by decide)
  have b2l:a5z 3 _:=hr.mono (by decide)
  have b3h:a5z 12 _:=hr.mono (by decide)
  have b9y:a5z 4 _:=hr.mono (by decide)
  obtain⟨n0,n1,n2,n3,n4,n5,n6,n7,rfl⟩:=nm8 n8
  have fl:H ln≠none:=fun z=>by rw [hl] at z; cases z
  refine⟨_,(a0j (a3s (i:=1) d7o.nd rfl (Or.inl rfl) (g9l T.g3f g1p f8r (by rfl) T.h4m T.g0x .nil a3p))
   (a0j (a6o (a8p (pvF 1) T.a0s T.b0u c1p b1k T.c1o .nil a3p (a0g (a1v a7n (pvF 0) a0n (fun _ _=>rfl)) a0i)))
   (a0j (a6o (a8p (pvF 1) T.a0s T.b2h c4i b2l T.c3y .nil a3p (a0g (a1v a7n (pvF 0) a0n (fun _ _=>rfl)) a0i)))
   (a0j (a6o (a8p (pvF 1) T.a0s T.b0u c1p b1k T.c1o .nil a3p (a0g (a1v a7n (pvF 0) a0n (fun _ _=>rfl)) a0i)))
   (a0j (a6o (a8p (pvF 1) T.a0s T.b2h c4i b2l T.c3y .nil a3p (a0g (a1v a7n (pvF 0) a0n (fun _ _=>rfl)) a0i)))
   (a0j (a6o (a8p (pvF 1) T.a0s T.b2h c4i b2l T.c3y .nil a3p (a0g (a1v a7n (pvF 0) a0n (fun _ _=>rfl)) a0i)))
   (a0j (a6o (a8p (pvF 1) T.a0s T.b2y c5h b3h T.c4z .nil a3p (a0g (a1v a7n (pvF 0) a0n (fun _ _=>rfl)) (a0g (a1v a7n (pvF 0) a0n (fun _ _=>rfl)) (a0g (a1y (a0g a0v a0i)) a0i)))))
   (a0j (a6o (a8p (pvF 1) T.a0s T.b2y c5h b3h T.c4z .nil a3p (a0g (a1v a7n (pvF 0) a0n (fun _ _=>rfl)) (a0g (a1v a7n (pvF 0) a0n (fun _ _=>rfl)) (a0g (a1y a0i) a0i)))))
   (a0j (a6o (a8p (pvF 1) T.a0s T.b9r d3n b9y T.d2y .nil a3p (a0g (a1v a7n (pvF 0) a0n (fun _ _=>rfl)) (a0g a0n a0i))))
   (a0o (a1z (pvF 1)))))))))))),?_⟩
  walk_at "rd"
  intro o dx H1 m1 m1' nx S1 hdx hc
  refine⟨dx,hc,fun H2 B2 P2=>?_⟩
  rw [asNew]
  refine⟨rfl,?_⟩
  have S02:Same H H2:=fun z u e=>B2 _ _ (fun ze=>by rw [ze] at e; rw [e] at m1; cases m1) (S1 _ _ e)
  replace P2:c5g A H2 (fun a=>H a=none) o ⟨[],[],[],[]⟩:=P2.mono fun z hz _=>S1.free hz
  have hl2:=S02 _ _ hl
  have nd':=nd
  simp only [List.nodup_cons,List.mem_cons,List.not_mem_nil,or_false,not_or,not_false_eq_true,List.nodup_nil,and_true] at nd'
  obtain⟨⟨a01,a02,a03,a04,a05,a06,a07⟩,⟨a12,a13,a14,a15,a16,a17⟩,⟨a23,a24,a25,a26,a27⟩,⟨a34,a35,a36,a37⟩,⟨a45,a46,a47⟩,⟨a56,a57⟩,a67⟩:=nd'
  have at4:atI [V.str n0,V.str n1,V.str n2,V.str n3,V.str n4,V.str n5,V.str n6,V.str n7] 4=some (.str n4):=rfl
  clear hc hdx
  obtain⟨dx2,t2,b2,sd2,ou2,ho2,F2⟩:=id P2
  unfold ptF at ho2
  walk_at "rd*"
  refine⟨_,_,P2,nmo _ (by simp),(fun h=>by cases h),(fun h=>by cases h),by show 0<=100; decide,fun H3 N3 P3=>?_⟩
  have S03:=d7v S02 N3 fun z hz=>hz
  replace P3:c5g A H3 (fun a=>H a=none) o ⟨[n0],[],[],[]⟩:=P3
  have hl3:=S03 _ _ hl
  clear ho2 hl2 F2 P2
  obtain⟨dx3,t3,b3,sd3,ou3,ho3,F3⟩:=id P3
  unfold ptF at ho3
  walk_at "rd*"
  refine⟨_,_,P3,nmo _ (by simp),(by simp only [List.mem_cons,List.not_mem_nil,or_false,not_or]; exact Ne.symm a02),(fun h=>by cases h),by show 0<=100; decide,fun H4 N4 P4=>?_⟩
  have S04:=d7v S03 N4 fun z hz=>hz
  replace P4:c5g A H4 (fun a=>H a=none) o ⟨[n0],[n2],[],[]⟩:=P4
  have hl4:=S04 _ _ hl
  clear ho3 hl3 F3 P3
  obtain⟨dx4,t4,b4,sd4,ou4,ho4,F4⟩:=id P4
  unfold ptF at ho4
  walk_at "rd*"
  refine⟨_,_,P4,nmo _ (by simp),(by simp only [List.mem_cons,List.not_mem_nil,or_false,not_or]; exact Ne.symm a01),(by simp only [List.mem_cons,List.not_mem_nil,or_false,not_or]; exact a12),by show 1<=100; decide,fun H5 N5 P5=>?_⟩
  have S05:=d7v S04 N5 fun z hz=>hz
  replace P5:c5g A H5 (fun a=>H a=none) o ⟨[n0,n1],[n2],[],[]⟩:=P5
  have hl5:=S05 _ _ hl
  clear ho4 hl4 F4 P4
  obtain⟨dx5,t5,b5,sd5,ou5,ho5,F5⟩:=id P5
  unfold ptF at ho5
  walk_at "rd*"
  refine⟨_,_,P5,nmo _ (by simp),(by simp only [List.mem_cons,List.not_mem_nil,or_false,not_or]; exact⟨Ne.symm a03,Ne.symm a13⟩),(by simp only [List.mem_cons,List.not_mem_nil,or_false,not_or]; exact Ne.symm a23),by show 1<=100; decide,fun H6 N6 P6=>?_⟩
  have S06:=d7v S05 N6 fun z hz=>hz
  replace P6:c5g A H6 (fun a=>H a=none) o ⟨[n0,n1],[n2,n3],[],[]⟩:=P6
  have hl6:=S06 _ _ hl
  clear ho5 hl5 F5 P5
  obtain⟨dx6,t6,b6,sd6,ou6,ho6,F6⟩:=id P6
  unfold ptF at ho6
  walk_at "rd*"
  refine⟨_,_,P6,nmo _ (by simp),(by simp only [List.mem_cons,List.not_mem_nil,or_false,not_or]; exact⟨Ne.symm a04,Ne.symm a14⟩),(by simp only [List.mem_cons,List.not_mem_nil,or_false,not_or]; exact⟨Ne.symm a24,Ne.symm a34⟩),by show 2<=100; decide,fun H7 N7 P7=>?_⟩
  have S07:=d7v S06 N7 fun z hz=>hz
  replace P7:c5g A H7 (fun a=>H a=none) o ⟨[n0,n1],[n2,n3,n4],[],[]⟩:=P7
  have hl7:=S07 _ _ hl
  clear ho6 hl6 F6 P6
  obtain⟨dx7,t7,b7,sd7,ou7,ho7,F7⟩:=id P7
  unfold ptF at ho7
  walk_at "rd*"
  refine fun lw H8 m8 S8 h8=>?_
  have ho8:=S8 _ _ ho7
  have hl8:=S8 _ _ hl7
  have P8:=P7.same S8
  clear ho7 hl7 P7 F7
  walk_at "rd*"
  refine⟨_,_,P8,[Dt.gain (mkRat 1 2)],(by rw [<- i0r]; rfl),by decide,(fun d hd=>by obtain rfl:=List.mem_singleton.mp hd; exact i5u),.inl List.mem_cons_self,List.mem_cons_self,h2e (fun v h=>by cases h) (Ne.symm a02),Nat.zero_le _,f8q (nmo _ (by simp)),(fun e he=>by cases he),fun H9 N9 P9=>?_⟩
  have S09:=d7v (S07.trans S8) N9 fun z hz=>hz
  replace P9 : c5g A H9 (fun a => H a = none) o ⟨[n0, n1], [n2, n3, n4], [(n0, n2, [Str.ofString "gain:1/2"])], []⟩ := by
   have z:=P9.mono (M:=fun a=>H a=none) fun z hz _=>hz.elim id fun q=>(S07.trans S8).free q
   rw [<- i0r]
   exact z
  have hl9:=S09 _ _ hl
  clear ho8 hl8 P8 h8
  obtain⟨dx9,t9,b9,sd9,ou9,ho9,F9⟩:=id P9
  unfold ptF at ho9
  walk_at "rd*"
  refine fun lv HA mA SA hA=>?_
  have hoA:=SA _ _ ho9
  have hlA:=SA _ _ hl9
  have PA:=P9.same SA
  clear ho9 hl9 P9 F9
  walk_at "rd*"
  refine⟨_,_,PA,[],rfl,by decide,(fun d hd=>by cases hd),.inr List.mem_cons_self,List.mem_cons_of_mem _ List.mem_cons_self,h2e (fun v h=>?_) (Ne.symm a23),by show 1<=99; decide,f8q (nmo _ (by simp)),(fun e he=>?_),fun HB NB PB=>?_⟩
  ·obtain⟨z1,z2⟩:=Prod.mk.inj (List.mem_singleton.mp h)
   exact a03 z1.symm
  ·obtain rfl:=List.mem_singleton.mp he
   exact f8q (nmo _ (by simp))
  have S0B:=d7v (S09.trans SA) NB fun z hz=>hz
  replace PB : c5g A HB (fun a => H a = none) o ⟨[n0, n1], [n2, n3, n4], [(n0, n2, [Str.ofString "gain:1/2"]), (n2, n3, [])], []⟩ := PB.mono (M := fun a => H a = none) fun z hz _ => hz.elim id fun q => (S09.trans SA).free q
  have hlB:=S0B _ _ hl
  clear hoA hlA PA hA
  obtain⟨dxB,tB,bB,sdB,ouB,hoB,FB⟩:=id PB
  unfold ptF at hoB
  walk_at "rd*"
  refine⟨_,_,PB,List.mem_cons_of_mem _ List.mem_cons_self,(fun x hx=>by cases hx),Nat.zero_le _,fun HC NC PC=>?_⟩
  exact q o HC (d7v S0B NC fun z hz=>hz) PC
theorem h7d.nm{H:Hp}{v:V}(h:h7d H v):i9j H v:=by
 rcases h with h | rfl | rfl | rfl | h
 ·exact .inr h
 ·exact .inl ⟨.non,rfl,by decide⟩
 ·exact .inl ⟨.bl,rfl,by decide⟩
 ·exact .inl ⟨.int,rfl,by decide⟩
 ·refine .inl ?_
  cases v with
  | ref r =>
   have h':(match H r with | some (.lst _)=>true | some (.tup _)=>true | some (.dK _)=>true | _=>false)=true:=h
   split at h'
   ·rename_i e; exact⟨.lst,by rw [d9k,e],by decide⟩
   ·rename_i e; exact⟨.tup,by rw [d9k,e],by decide⟩
   ·rename_i e; exact⟨.dct,by rw [d9k,e],by decide⟩
   ·cases h'
  | _=>exact absurd (show false=true from h) Bool.false_ne_true
theorem h7d.ni{H:Hp}{v:V}{ts:List Str}(h:h7d H v)(ok:∀ z∈ts,b9u z):g1v H v ts:=by
 have no:∀ {u:V},(∀ z:Str,eqV (.str z) u=false)->inV u (ts.map V.str)=false:=fun {u} hu=>by
  unfold inV
  rw [List.any_eq_false]
  intro y hy
  obtain⟨z,_,rfl⟩:=List.mem_map.mp hy
  rw [hu z]
  exact Bool.false_ne_true
 rcases h with ⟨z,rfl,_,hz⟩ | rfl | rfl | rfl | h
 ·exact g1v.str fun hm=>by rw [g5t (ok z hm)] at hz; cases hz
 ·exact .inl ⟨rfl,no fun _=>rfl⟩
 ·exact .inl ⟨rfl,no fun _=>rfl⟩
 ·exact .inl ⟨rfl,no fun _=>rfl⟩
 ·exact .inr h
theorem h7d.same{H H':Hp}{v:V}(h:h7d H v)(S:Same H H'):h7d H' v:=by
 rcases h with h | h | h | h | h
 ·exact .inl h
 ·exact .inr (.inl h)
 ·exact .inr (.inr (.inl h))
 ·exact .inr (.inr (.inr (.inl h)))
 ·refine .inr (.inr (.inr (.inr ?_)))
  cases v with
  | ref r =>
   have h':(match H r with | some (.lst _)=>true | some (.tup _)=>true | some (.dK _)=>true | _=>false)=true:=h
   show (match H' r with | some (.lst _)=>true | some (.tup _)=>true | some (.dK _)=>true | _=>false)=true
   split at h'
   ·rename_i e; rw [S _ _ e]
   ·rename_i e; rw [S _ _ e]
   ·rename_i e; rw [S _ _ e]
   ·cases h'
  | _=>exact absurd (show false=true from h) Bool.false_ne_true
theorem f2o{c:TT}{a r:TS}{D:Ends}{σ:L2.St}{H:Hp}(b:Bool)(hc:∀ Q:Bool->Hp->Prop,Q b H->c σ H Q)(hy:b=true->∀ D':Ends,D'.rt=D.rt->a D' σ H)(hn:b=false->r D σ H):i7d (i6i c a h7p) r D σ H:=by
 refine hc _ ?_
 cases b with
 | true=>exact hy rfl _ rfl
 | false=>exact hn rfl
theorem h5h (T : Tx K mg A) : a3q P A.wd K mg base CX0 14 A.b4s A.b5r ["_law_patch_here", "_law_names_here", "_law_pick"] (g4b A) := by
 have f8s:a3q P A.wd K mg base CX0 1 _ _ _ _:=i0v T
 have a5p:a3q P A.wd K mg base CX0 13 _ _ _ _:=h2b T
 have c6q:a3q P A.wd K mg base CX0 1 _ _ _ _:=i0s T
 have b9j:a3q P A.wd K mg base CX0 1 _ _ _ _:=i0t T
 refine T.c2r.ok c9p (fun vs H Q E h=>?_) (fun cdv A' outer s H vs Q E hr h=>?_)
 ·obtain⟨_,_,_,rfl,_⟩:=h6u (by unfold g4b at h; exact h)
  rfl
 ·obtain⟨o,ln,k,rfl,⟨N,nm,hP,hl,⟨n8,nmo,nd⟩,k0,k1,q⟩⟩:=h6u (by unfold g4b at h; exact h)
  have hu:=hr.units
  have hs:sizeLine=16777216:=sizeLine_eq
  have f4h:a5z 1 _:=hr.mono (by decide)
  have a4w:a5z 13 _:=hr.mono (by decide)
  have c4j:a5z 1 _:=hr.mono (by decide)
  have b7j:a5z 1 _:=hr.mono (by decide)
  obtain⟨n0,n1,n2,n3,n4,n5,n6,n7,rfl⟩:=nm8 n8
  have at5:atI [V.str n0,V.str n1,V.str n2,V.str n3,V.str n4,V.str n5,V.str n6,V.str n7] 5=some (.str n5):=rfl
  have at4:atI [V.str n0,V.str n1,V.str n2,V.str n3,V.str n4,V.str n5,V.str n6,V.str n7] 4=some (.str n4):=rfl
  have at6:atI [V.str n0,V.str n1,V.str n2,V.str n3,V.str n4,V.str n5,V.str n6,V.str n7] 6=some (.str n6):=rfl
  have nd':=nd
  simp only [List.nodup_cons,List.mem_cons,List.not_mem_nil,or_false,not_or,not_false_eq_true,List.nodup_nil,and_true] at nd'
  obtain⟨⟨a01,a02,a03,a04,a05,a06,a07⟩,⟨a12,a13,a14,a15,a16,a17⟩,⟨a23,a24,a25,a26,a27⟩,⟨a34,a35,a36,a37⟩,⟨a45,a46,a47⟩,⟨a56,a57⟩,a67⟩:=nd'
  have b1:=Int.fmod_nonneg_of_pos k (show (0:Int) < 14 by decide)
  have b2:=Int.fmod_lt_of_pos k (show (0:Int) < 14 by decide)
  have hj:k.fmod 14=0\/k.fmod 14=1\/k.fmod 14=2\/k.fmod 14=3\/k.fmod 14=4\/k.fmod 14=5\/k.fmod 14=6\/k.fmod 14=7\/k.fmod 14=8\/k.fmod 14=9\/k.fmod 14=10\/k.fmod 14=11\/k.fmod 14=12\/k.fmod 14=13:=by omega
  obtain⟨i,ei,il⟩:=f5q (k.fdiv 14) (n:=5) (by decide)
  refine⟨_,(d9o (a3s (i:=3) c9p.nd rfl (Or.inl rfl) (a1j f8s f4h (by rfl) T.f7o T.b6p.kp T.f7n .nil a3p (a0g (a1v a7n (pvF 1) a0n (fun _ _=>rfl)) (a0g (a2i b1r (pvF 2) a0n) a0i))))
   (a0j (a4z (a0w of_lt (a2i a8m (pvF 2) a0n) a0n (a1k _))
   (a0o (a1z (b1l (a6v hu) (a1j a5p a4w (by rfl) T.a5v T.a4u.kp T.a5u .nil a3p (a0g (pvF 0) (a0g (a1v a7n (a1y (a0g a0v (a0g a0v a0i))) (a2i a8m (pvF 2) a0n) (fun _ _=>rfl)) (a0g (pvF 3) (a0g a0n (a0g a0n a0i)))))) a0v (a1k _))))
   a1g)
   (a0j (a4z (a0w of_lt (a2i a8m (pvF 2) a0n) a0n (a1k _))
   (a0o (a1z (b1l (a6v hu) (a1j a5p a4w (by rfl) T.a5v T.a4u.kp T.a5u .nil a3p (a0g (pvF 0) (a0g (a1v a7n (a1y (a0g a0v (a0g a0v a0i))) (a2i h5w (a2i a8m (pvF 2) a0n) a0n) (fun _ _=>rfl)) (a0g (a1v a7n (pvF 1) (a2i a8m (a2i b1r (pvF 2) a0n) a0n) (fun _ _=>rfl)) (a0g a0n (a0g a0n a0i)))))) a0v (a1k _))))
   a1g)
   (a0j (a4z (a0w (a6v hu) (a2i a8m (pvF 2) a0n) a0n (a1k _))
   (a0o (a1z (b1l (a6v hu) (a1j a5p a4w (by rfl) T.a5v T.a4u.kp T.a5u .nil a3p (a0g (pvF 0) (a0g a0v (a0g (a1v a7n (pvF 1) a0n (fun _ _=>rfl)) (a0g (a1v a7n (pvF 1) (a2i a8m (a2i b1r (pvF 2) a0n) a0n) (fun _ _=>rfl)) (a0g (a1j c6q c4j (by rfl) T.c6o T.a8v.kp T.c6n .nil a3p (a0g (a2i b1r (pvF 2) a0n) a0i)) a0i)))))) a0v (a1k _))))
   a1g)
   (a0j (a4z (a0w (a6v hu) (a2i a8m (pvF 2) a0n) a0n (a1k _))
   (a0o (a1z (b1l (a6v hu) (a1j a5p a4w (by rfl) T.a5v T.a4u.kp T.a5u .nil a3p (a0g (pvF 0) (a0g a0v (a0g (a1v a7n (pvF 1) (a2i a8m (a2i b1r (pvF 2) a0n) a0n) (fun _ _=>rfl)) (a0g (a1v a7n (pvF 1) a0n (fun _ _=>rfl)) (a0g (a1j c6q c4j (by rfl) T.c6o T.a8v.kp T.c6n .nil a3p (a0g (a2i b1r (pvF 2) a0n) a0i)) a0i)))))) a0v (a1k _))))
   a1g)
   (a0j (a4z (a0w (a6v hu) (a2i a8m (pvF 2) a0n) a0n (a1k _))
   (a0o (a1z (b1l (a6v hu) (a1j a5p a4w (by rfl) T.a5v T.a4u.kp T.a5u .nil a3p (a0g (pvF 0) (a0g a0v (a0g (a1v a7n (pvF 1) a0n (fun _ _=>rfl)) (a0g (a1v a7n (pvF 1) a0n (fun _ _=>rfl)) (a0g (a1y a0i) a0i)))))) a0v (a1k _))))
   a1g)
   (a0j (a4z (a0w (a6v hu) (a2i a8m (pvF 2) a0n) a0n (a1k _))
   (a0o (a1z (b1l (a6v hu) (a1j a5p a4w (by rfl) T.a5v T.a4u.kp T.a5u .nil a3p (a0g (pvF 0) (a0g a0v (a0g (pvF 3) (a0g (a1v a7n (pvF 1) a0n (fun _ _=>rfl)) (a0g (a1y a0i) a0i)))))) a0v (a1k _))))
   a1g)
   (a0j (a4z (a0w (a6v hu) (a2i a8m (pvF 2) a0n) a0n (a1k _))
   (a0o (a1z (b1l (a6v hu) (a1j a5p a4w (by rfl) T.a5v T.a4u.kp T.a5u .nil a3p (a0g (pvF 0) (a0g a0v (a0g (a1v a7n (pvF 1) a0n (fun _ _=>rfl)) (a0g (pvF 3) (a0g (a1y (a0g a0v a0i)) a0i)))))) a0v (a1k _))))
   a1g)
   (a0j (a4z (a0w (a6v hu) (a2i a8m (pvF 2) a0n) a0n (a1k _))
   (a0o (a1z (b1l (a6v hu) (a1j a5p a4w (by rfl) T.a5v T.a4u.kp T.a5u .nil a3p (a0g (pvF 0) (a0g a0v (a0g (a1v a7n (pvF 1) (a2i a8m (a2i b1r (pvF 2) a0n) a0n) (fun _ _=>rfl)) (a0g (a1v a7n (pvF 1) a0n (fun _ _=>rfl)) (a0g (a1j c6q c4j (by rfl) T.c6o T.a8v.kp T.c6n .nil a3p (a0g (a2i b1r (pvF 2) a0n) a0i)) a0i)))))) a0v (a1k _))))
   a1g)
   (a0j (a4z (a0w (a6v hu) (a2i a8m (pvF 2) a0n) a0n (a1k _))
   (a0j (a3s (i:=4) c9p.nd rfl (Or.inl rfl) (a1y (a0g (a1v a7n (pvF 1) a0n (fun _ _=>rfl)) (a0g (a1v a7n (pvF 1) a0n (fun _ _=>rfl)) (a0g (pvF 3) a0i)))))
   (a0o (a1z (b1l (a6v hu) (a1j a5p a4w (by rfl) T.a5v T.a4u.kp T.a5u .nil a3p (a0g (pvF 0) (a0g a0v (a0g (a1v a7n (pvF 4) (a2i a8m (a2i b1r (pvF 2) a0n) a0n) (fun _ _=>rfl)) (a0g (a1j b9j b7j (by rfl) T.b9h T.a5t.kp T.b9g .nil a3p (a0g (a2i b1r (pvF 2) a0n) a0i)) (a0g a0n a0i)))))) a0v (a1k _)))))
   a1g)
   (a0j (a4z (a0w (a6v hu) (a2i a8m (pvF 2) a0n) a0n (a1k _))
   (a0o (a1z (b1l (a6v hu) (a1j a5p a4w (by rfl) T.a5v T.a4u.kp T.a5u .nil a3p (a0g (pvF 0) (a0g a0v (a0g (a1v a7n (pvF 1) a0n (fun _ _=>rfl)) (a0g (a1v a7n (a1y (a0g a0n (a0g (a1j b9j b7j (by rfl) T.b9h T.a5t.kp T.b9g .nil a3p (a0g (a2i b1r (pvF 2) a0n) a0i)) a0i))) (a2i a8m (a2i b1r (pvF 2) a0n) a0n) (fun _ _=>rfl)) (a0g a0n a0i)))))) a0v (a1k _))))
   a1g)
   (a0j (a4z (a0w (a6v hu) (a2i a8m (pvF 2) a0n) a0n (a1k _))
   (a0o (a1z (b1l (a6v hu) (a1j a5p a4w (by rfl) T.a5v T.a4u.kp T.a5u .nil a3p (a0g (pvF 0) (a0g a0v (a0g (a1v a7n (pvF 1) a0n (fun _ _=>rfl)) (a0g (a1j b9j b7j (by rfl) T.b9h T.a5t.kp T.b9g .nil a3p (a0g (a2i b1r (pvF 2) a0n) a0i)) (a0g a0n a0i)))))) a0v (a1k _))))
   a1g)
   (a0o (a1z (b1l (a6v hu) (a1j a5p a4w (by rfl) T.a5v T.a4u.kp T.a5u .nil a3p (a0g (pvF 0) (a0g a0v (a0g (a1v a7n (pvF 1) a0n (fun _ _=>rfl)) (a0g (a1v a7n (pvF 1) a0n (fun _ _=>rfl)) (a0g (a1y (a0g a0v (a0g a0v a0i))) a0i)))))) a0v (a1k _)))))))))))))))),?_⟩
  have c14:CFd k 14:=⟨by decide,by decide +kernel⟩
  have c70:CFd k 70:=⟨by decide,by decide +kernel⟩
  have c42:CFd k 42:=⟨by decide,by decide +kernel⟩
  walk_at "rd*"
  refine⟨nmo _ (by simp),fun v H1 S1 ov=>Stop.go ?_⟩
  have P1:=hP.same S1
  have hl1:=S1 _ _ hl
  have T2:∀ (x:Nat),x < 5->∃ z,[V.str n0,V.str n1,V.str n2,V.str n3,V.str n4,V.str n5,V.str n6,V.str n7][x]? = some (.str z)/\b9u z/\(z∈[n0,n1]\/z∈[n2,n3,n4]):=fun x hx=>by
   match x,hx with
   | 0,_=>exact⟨_,rfl,nmo _ (by simp),.inl (by simp)⟩
   | 1,_=>exact⟨_,rfl,nmo _ (by simp),.inl (by simp)⟩
   | 2,_=>exact⟨_,rfl,nmo _ (by simp),.inr (by simp)⟩
   | 3,_=>exact⟨_,rfl,nmo _ (by simp),.inr (by simp)⟩
   | 4,_=>exact⟨_,rfl,nmo _ (by simp),.inr (by simp)⟩
  obtain⟨z,hz,oz,mz⟩:=T2 i (by omega)
  have az:=c5k hz
  have nts:∀ y∈(pat [n0,n1,n2,n3,n4,n5,n6,n7]).ts,b9u y:=fun y hy=>nmo y (by
   have:y∈[n0,n1]:=hy
   simp only [List.mem_cons,List.not_mem_nil,or_false] at this ⊢
   rcases this with h | h <;> simp [h])
  have nbs:∀ y∈(pat [n0,n1,n2,n3,n4,n5,n6,n7]).bs,b9u y:=fun y hy=>nmo y (by
   have:y∈[n2,n3,n4]:=hy
   simp only [List.mem_cons,List.not_mem_nil,or_false] at this ⊢
   rcases this with h | h | h <;> simp [h])
  have n6t:∀ {H':Hp},g1v H' (.str n6) (pat [n0,n1,n2,n3,n4,n5,n6,n7]).ts:=g1v.str (by show n6∉[n0,n1]; simp only [List.mem_cons,List.not_mem_nil,or_false,not_or]; exact⟨Ne.symm a06,Ne.symm a16⟩)
  have n6b:∀ {H':Hp},g1v H' (.str n6) (pat [n0,n1,n2,n3,n4,n5,n6,n7]).bs:=g1v.str (by show n6∉[n2,n3,n4]; simp only [List.mem_cons,List.not_mem_nil,or_false,not_or]; exact⟨Ne.symm a26,Ne.symm a36,Ne.symm a46⟩)
  clear hl T2 hz
  have fin:∀ (c:Nat) (w:Str) {H':Hp},kdS c=w->Same H1 H'->∀ H3,Same H' H3->Q (.bl (decide (kdS c=w))) H3:=fun c w H' e S H3 S3=>by
   rw [decide_eq_true e]
   exact q H3 (S1.trans (S.trans S3))
  have o1:(pat [n0,n1,n2,n3,n4,n5,n6,n7]).os.length<=99:=by show 1<=99; decide
  obtain⟨d1,d2⟩:0<=k.fdiv 14/\k.fdiv 14 < 10 ^ 25:=⟨Int.fdiv_nonneg k0 (by decide),by rw [Int.fdiv_eq_ediv_of_nonneg _ (by decide)]; omega⟩
  obtain⟨d3,d4⟩:0<=k.fdiv 42/\k.fdiv 42 < 10 ^ 25:=⟨Int.fdiv_nonneg k0 (by decide),by rw [Int.fdiv_eq_ediv_of_nonneg _ (by decide)]; omega⟩
  refine f2o (decide (k.fmod 14 < 2)) (fun Q hq=>?_) (fun hb D' eD=>?_) (fun hb=>?_)
  ·walk_at "rd*"
  ·replace hb:=of_decide_eq_true hb
   rcases (show k.fmod 14=0\/k.fmod 14=1 by omega) with ej | ej
   ·clear hb hj b1 b2
    walk_at "rd*"
    refine fun l2 H2 m2 S2 h2=>?_
    walk_at "rd*"
    exact⟨N,_,P1.same S2,o1,0,by decide,.inl (.inl ⟨rfl,(ov.same S2).nm⟩),fin 0 _ rfl S2⟩
   ·clear hb hj b1 b2
    walk_at "rd*"
    refine fun l2 H2 m2 S2 h2=>?_
    walk_at "rd*"
    exact⟨N,_,P1.same S2,o1,0,by decide,.inr (.inl (.inl ⟨rfl,(ov.same S2).nm⟩)),fin 0 _ rfl S2⟩
  replace hb:=of_decide_eq_false hb
  have zlt2:=hb
  clear hb
  refine f2o (decide (k.fmod 14 < 4)) (fun Q hq=>?_) (fun hb D' eD=>?_) (fun hb=>?_)
  ·walk_at "rd*"
  ·replace hb:=of_decide_eq_true hb
   rcases (show k.fmod 14=2\/k.fmod 14=3 by omega) with ej | ej
   ·clear hb hj b1 b2
    walk_at "rd*"
    refine fun l2 H2 m2 S2 h2=>?_
    have hl2:=S2 _ _ hl1
    clear hl1
    walk_at "rd*"
    exact⟨N,_,P1.same S2,o1,1,by decide,.inl (.inr ⟨rfl,z,rfl,oz,mz⟩),fin 1 _ rfl S2⟩
   ·clear hb hj b1 b2
    walk_at "rd*"
    refine fun l2 H2 m2 S2 h2=>?_
    have hl2:=S2 _ _ hl1
    clear hl1
    walk_at "rd*"
    exact⟨N,_,P1.same S2,o1,1,by decide,.inr (.inl (.inr ⟨rfl,z,rfl,oz,mz⟩)),fin 1 _ rfl S2⟩
  replace hb:=of_decide_eq_false hb
  have zlt4:=hb
  clear hb
  refine f2o (decide (k.fmod 14=4)) (fun Q hq=>?_) (fun hb D' eD=>?_) (fun hb=>?_)
  ·walk_at "rd*"
  ·have ej:k.fmod 14=4:=of_decide_eq_true hb
   clear hb hj b1 b2
   walk_at "rd*"
   refine fun v2 H2 S2 bc=>?_
   try walk_at "rd*"
   exact⟨N,_,P1.same S2,o1,2,by decide,.inr (.inr (.inl (.inl ⟨rfl,n6t,n6b⟩))),fin 2 _ rfl S2⟩
  replace hb:=of_decide_eq_false hb
  have zeq4:=hb
  clear hb
  refine f2o (decide (k.fmod 14=5)) (fun Q hq=>?_) (fun hb D' eD=>?_) (fun hb=>?_)
  ·walk_at "rd*"
  ·have ej:k.fmod 14=5:=of_decide_eq_true hb
   clear hb hj b1 b2
   walk_at "rd*"
   refine fun v2 H2 S2 bc=>?_
   try walk_at "rd*"
   exact⟨N,_,P1.same S2,o1,2,by decide,.inr (.inr (.inl (.inr (.inl ⟨rfl,z,rfl,mz,n6b⟩)))),fin 2 _ rfl S2⟩
  replace hb:=of_decide_eq_false hb
  have zeq5:=hb
  clear hb
  refine f2o (decide (k.fmod 14=6)) (fun Q hq=>?_) (fun hb D' eD=>?_) (fun hb=>?_)
  ·walk_at "rd*"
  ·have ej:k.fmod 14=6:=of_decide_eq_true hb
   clear hb hj b1 b2
   walk_at "rd*"
   refine fun l2 H2 m2 S2 h2=>?_
   walk_at "rd*"
   refine⟨N,_,P1.same S2,o1,2,by decide,.inr (.inr (.inl (.inr (.inl ⟨rfl,n0,rfl,.inl List.mem_cons_self,g1v.str ?_⟩)))),fin 2 _ rfl S2⟩
   show n1∉[n2,n3,n4]
   simp only [List.mem_cons,List.not_mem_nil,or_false,not_or]
   exact⟨a12,a13,a14⟩
  replace hb:=of_decide_eq_false hb
  have zeq6:=hb
  clear hb
  refine f2o (decide (k.fmod 14=7)) (fun Q hq=>?_) (fun hb D' eD=>?_) (fun hb=>?_)
  ·walk_at "rd*"
  ·have ej:k.fmod 14=7:=of_decide_eq_true hb
   clear hb hj b1 b2
   walk_at "rd*"
   refine fun l2 H2 m2 S2 h2=>?_
   walk_at "rd*"
   exact⟨N,_,P1.same S2,o1,2,by decide,.inr (.inr (.inl (.inl ⟨rfl,(ov.same S2).ni nts,(ov.same S2).ni nbs⟩))),fin 2 _ rfl S2⟩
  replace hb:=of_decide_eq_false hb
  have zeq7:=hb
  clear hb
  refine f2o (decide (k.fmod 14=8)) (fun Q hq=>?_) (fun hb D' eD=>?_) (fun hb=>?_)
  ·walk_at "rd*"
  ·have ej:k.fmod 14=8:=of_decide_eq_true hb
   clear hb hj b1 b2
   walk_at "rd*"
   refine fun l2 H2 m2 S2 h2=>?_
   walk_at "rd*"
   exact⟨N,_,P1.same S2,o1,2,by decide,.inr (.inr (.inl (.inr (.inl ⟨rfl,n3,rfl,.inr (List.mem_cons_of_mem _ List.mem_cons_self),(ov.same S2).ni nbs⟩)))),fin 2 _ rfl S2⟩
  replace hb:=of_decide_eq_false hb
  have zeq8:=hb
  clear hb
  refine f2o (decide (k.fmod 14=9)) (fun Q hq=>?_) (fun hb D' eD=>?_) (fun hb=>?_)
  ·walk_at "rd*"
  ·have ej:k.fmod 14=9:=of_decide_eq_true hb
   clear hb hj b1 b2
   walk_at "rd*"
   refine fun v2 H2 S2 bc=>?_
   try walk_at "rd*"
   exact⟨N,_,P1.same S2,o1,3,by decide,.inr (.inr (.inl (.inr (.inr ⟨rfl,z,n2,rfl,mz,rfl,List.mem_cons_self,bc⟩)))),fin 3 _ rfl S2⟩
  replace hb:=of_decide_eq_false hb
  have zeq9:=hb
  clear hb
  refine f2o (decide (k.fmod 14=10)) (fun Q hq=>?_) (fun hb D' eD=>?_) (fun hb=>?_)
  ·walk_at "rd*"
  ·have ej:k.fmod 14=10:=of_decide_eq_true hb
   clear hb hj b1 b2
   obtain⟨i3,e3,l3⟩:=f5q (k.fdiv 14) (n:=3) (by decide)
   clear ei
   obtain⟨u,hu,hn⟩:=f2l (xs:=[V.str n6,V.str n0,v]) (j:=i3) (R:=fun u=>∀ {H':Hp},Same H1 H'->g1v H' u (pat [n0,n1,n2,n3,n4,n5,n6,n7]).bs) (by show i3 < 3; omega) (fun u hu=>by
    simp only [List.mem_cons,List.not_mem_nil,or_false] at hu
    rcases hu with rfl | rfl | rfl
    ·exact fun _=>n6b
    ·exact fun _=>g1v.str (by show n0∉[n2,n3,n4]; simp only [List.mem_cons,List.not_mem_nil,or_false,not_or]; exact⟨a02,a03,a04⟩)
    ·exact fun S=>(ov.same S).ni nbs)
   walk_at "rd*"
   refine fun l2 H2 m2 S2 h2=>?_
   walk_at "rd*"
   refine⟨by omega,fun g H3 S3 og=>?_⟩
   try walk_at "rd*"
   exact⟨N,_,P1.same (S2.trans S3),o1,2,by decide,.inr (.inr (.inr (.inl ⟨rfl,hn (S2.trans S3)⟩))),fin 2 _ rfl (S2.trans S3)⟩
  replace hb:=of_decide_eq_false hb
  have i9w:=hb
  clear hb
  refine f2o (decide (k.fmod 14=11)) (fun Q hq=>?_) (fun hb D' eD=>?_) (fun hb=>?_)
  ·walk_at "rd*"
  ·have ej:k.fmod 14=11:=of_decide_eq_true hb
   clear hb hj b1 b2
   obtain⟨i2,e2,l2'⟩:=f5q (k.fdiv 14) (n:=2) (by decide)
   clear ei
   walk_at "rd*"
   refine⟨by omega,fun g H2 S2 og=>?_⟩
   try walk_at "rd*"
   refine fun l3 H3 m3 S3 h3=>?_
   walk_at "rd*"
   refine (f2l (xs:=[V.int 9,g]) (j:=i2) (R:=fun _=>True) (by show i2 < 2; omega) fun _ _=>trivial).imp fun u hu=>⟨hu.1,?_⟩
   try walk_at "rd*"
   exact⟨N,_,P1.same (S2.trans S3),o1,1,by decide,.inr (.inr (.inr (.inr (.inl ⟨rfl,n3,rfl,List.mem_cons_of_mem _ List.mem_cons_self,List.mem_cons_self⟩)))),fin 1 _ rfl (S2.trans S3)⟩
  replace hb:=of_decide_eq_false hb
  have i9x:=hb
  clear hb
  refine f2o (decide (k.fmod 14=12)) (fun Q hq=>?_) (fun hb D' eD=>?_) (fun hb=>?_)
  ·walk_at "rd*"
  ·have ej:k.fmod 14=12:=of_decide_eq_true hb
   clear hb hj b1 b2
   walk_at "rd*"
   refine⟨by omega,fun g H2 S2 og=>?_⟩
   try walk_at "rd*"
   refine⟨N,_,P1.same S2,o1,4,by decide,.inr (.inr (.inr (.inr (.inr ⟨rfl,n4,rfl,List.mem_cons_of_mem _ (List.mem_cons_of_mem _ List.mem_cons_self),?_,og⟩)))),fin 4 _ rfl S2⟩
   show n4∉[n3]
   exact fun h=>a34 (List.mem_singleton.mp h).symm
  replace hb:=of_decide_eq_false hb
  have i9y:=hb
  clear hb
  have ej:k.fmod 14=13:=by omega
  clear hj b1 b2 zlt2 zlt4 zeq4 zeq5 zeq6 zeq7 zeq8 zeq9 i9w i9x i9y
  walk_at "rd*"
  refine fun l2 H2 m2 S2 h2=>?_
  walk_at "rd*"
  exact⟨N,_,P1.same S2,o1,3,by decide,.inr (.inr (.inl (.inr (.inr ⟨rfl,n3,n3,rfl,.inr (List.mem_cons_of_mem _ List.mem_cons_self),rfl,List.mem_cons_of_mem _ List.mem_cons_self,h2c i9u i9t (.inr (.inr (.inr (.inr (.inr rfl))))) h2⟩)))),fin 3 _ rfl S2⟩
theorem i5w {i : Nat} (h : i < 26) : atI (Str.ofString "abcdefghijklmnopqrstuvwxyz").cps.toList (i : Int) = some (97 + i) := by
 have e : (Str.ofString "abcdefghijklmnopqrstuvwxyz").cps.toList = List.range' 97 26 := by decide +kernel
 rw [e]
 refine c5k ?_
 rw [List.getElem?_range' h]
 simp
theorem h5i(bl:List Int)(m k n:Nat):nmS bl m k n++(⟨#[nmC bl m k n]⟩:Str)=nmS bl m k (n+1):=by
 unfold nmS
 rw [List.range_succ,List.map_append]
 show (⟨_++_⟩:Str)=_
 rw [List.map_cons,List.map_nil]
 congr 1
 simp
theorem g4l(bl:List Int)(m k n:Nat):(nmS bl m k n).length=n:=by
 show ((List.range n).map (nmC bl m k)).toArray.size=n
 simp
theorem i0y(bl:List Int)(m k j:Nat):97<=nmC bl m k j/\nmC bl m k j<=122:=by
 unfold nmC
 have:=d7t (bl.getD j 0+(k:Int)*(if j=m then 1 else 0)) (b:=26) (by decide)
 omega
theorem h5j{bl:List Int}{m k n:Nat}(h1:1<=n)(h8:n<=8):b9u (nmS bl m k n):=by
 refine⟨by rw [g4l]; exact h8,fun e=>?_,fun c hc=>?_⟩
 ·have:=g4l bl m k n
  rw [e] at this
  have z : (Str.ofString "").length = 0 := by decide +kernel
  omega
 ·have hc':c∈(List.range n).map (nmC bl m k):=by simpa [nmS] using hc
  obtain⟨j,_,rfl⟩:=List.mem_map.mp hc'
  exact i0y bl m k j
theorem i5x{bl:List Int}{m n k k':Nat}(hm:m < n)(hk:k < k')(h9:k' < 8):nmS bl m k n≠nmS bl m k' n:=fun e=>by
 unfold nmS at e
 injection e with e
 have e2:(List.range n).map (nmC bl m k)=(List.range n).map (nmC bl m k'):=by
  have:=congrArg Array.toList e
  simpa using this
 have e3:((List.range n).map (nmC bl m k))[m]? = ((List.range n).map (nmC bl m k'))[m]?:=by rw [e2]
 rw [List.getElem?_map,List.getElem?_map,List.getElem?_range hm] at e3
 injection e3 with e3
 unfold nmC at e3
 rw [if_pos rfl] at e3
 have b1:=d7t (bl.getD m 0+(k:Int)*1) (b:=26) (by decide)
 have b2:=d7t (bl.getD m 0+(k':Int)*1) (b:=26) (by decide)
 rw [Int.fmod_eq_emod_of_nonneg _ (by decide)] at e3 b1 b2
 rw [Int.fmod_eq_emod_of_nonneg _ (by decide)] at e3
 omega
theorem h5k (T : Tx K mg A) : a3q P A.wd K mg base CX0 1 A.b4q A.b5p ["_law_cell"] g4e := by
 refine T.c2p.ok a7o (fun vs H Q E h=>?_) (fun cdv A' outer s H vs Q E hr h=>?_)
 ·obtain⟨_,rfl,_⟩:=h6t (by unfold g4e at h; exact h)
  rfl
 ·obtain⟨c,rfl,⟨hc,q⟩⟩:=h6t (by unfold g4e at h; exact h)
  have hu:=hr.units
  have hs:sizeLine=16777216:=sizeLine_eq
  refine⟨_,(a0j (a3s (i:=1) a7o.nd rfl (Or.inl rfl) a0v)
   (d2m (a3s (i:=2) a7o.nd rfl (Or.inr rfl) (a2i a8m (a2i c7l (pvF 0) a0n) (a2i a7i (a2i f4m a0n a0n) a0n)))
   (d2m (h8l (i := 3) a7o.nd rfl rfl (d5l (by rfl) T.g3q (a0g (a2i a7i a0n (a2i a8m (pvF 2) a0n)) a0i)) (fun _ _ _ _ _ => (a2i a8m (a2i b1r (pvF 3) (a2i a7i (a2i c7l (pvF 0) (pvF 0)) a0n)) a0n)) (d9n (sc := a0q d2n) (N := ["_law_cell", "_law_letters", "_law_mixed", "_law_base", "_law_at", "_law_names_here", "_law_k", "_law_name", "_law_j"]) rfl rfl (by decide +kernel)) rfl)
   (d2m (a3s (i:=4) a7o.nd rfl (Or.inl rfl) (a2i a8m (a2i b1r (pvF 2) a0n) (a1l a8l (by rfl) T.d2z boot_len (a0g (pvF 3) a0i))))
   (a0j (a3s (i:=5) a7o.nd rfl (Or.inl rfl) (a1y a0i))
   (a0j (d2l PassesOwn.never rfl (d5l (by rfl) T.g3q (a0g a0n a0i)) (c5j (i:=6) a7o.nd rfl (Or.inl rfl))
   (a0j (a3s (i:=7) a7o.nd rfl (Or.inl rfl) a0v)
   (a0j (d2l PassesOwn.never rfl (d5l (by rfl) T.g3q (a0g (a1l a8l (by rfl) T.d2z boot_len (a0g (pvF 3) a0i)) a0i)) (c5j (i:=8) a7o.nd rfl (Or.inl rfl))
   (a0o (a3s (i:=7) a7o.nd rfl (Or.inl rfl) (a2i a7i (pvF 7) (a1v a7n (pvF 1) (a2i a8m (a2i a7i (a1v a7n (pvF 3) (pvF 8) (fun _ _=>rfl)) (a2i c7l (pvF 6) (b0j b9m (by rfl) T.f2y boot_int (a0g (b1l (a6v hu) (pvF 8) (pvF 4) (a1k _)) a0i)))) a0n) (fun _ _=>rfl))))))
   (a0o (a6o (c4n c4m PySem.F.plainAttrs_list PySem.F.slot_list_append PySem.F.type_list_append c1r (pvF 5) (a0g (pvF 7) a0i)))))))
   (a0o (a1z (pvF 5))))))))),?_⟩
  walk_at "rd"
  have fM:=d7t (c*618033988749894848204587) (b:=1000000000000000000000007) (by decide)
  obtain ⟨Mid1, in1, out1⟩ := i6l (fun σ' H' => ∃ M : Int, σ' = [some (.int c), some (.str (Str.ofString "abcdefghijklmnopqrstuvwxyz")), some (.int M), none, none, none, none, none, none] ∧ H' = H)
  refine⟨Mid1,?_,?_⟩
  ·walk_at "rd"
   exact ⟨by walk_at "mul", by decide, in1 _ _ ⟨_, rfl, rfl⟩⟩
  intro σ1 H1 hm1
  obtain⟨M,rfl,rfl⟩:=out1 _ _ hm1
  clear hm1 in1 out1 fM
  have f8:=d7t M (b:=8) (by decide)
  obtain ⟨Mid2, in2, out2⟩ := i6l (fun σ' H' => ∃ (D : Addr) (bl : List Int), σ' = [some (.int c), some (.str (Str.ofString "abcdefghijklmnopqrstuvwxyz")), some (.int M), some (.ref D), none, none, none, none, none] ∧ Same H1 H' ∧ H' D = some (.lst (bl.map V.int)) ∧ 1 ≤ bl.length ∧ bl.length ≤ 8)
  refine⟨Mid2,?_,?_⟩
  ·walk_at "rd"
   refine⟨by omega,by omega,fun D H2 n2 S2 h2=>?_⟩
   obtain⟨nn,en⟩:∃ nn:Nat,(1+M.fmod 8).toNat=nn:=⟨_,rfl⟩
   rw [en]
   refine g2i (fun i ys H'=>Same H1 H'/\H' D=some (.lst ys)/\∃ bl:List Int,ys=bl.map V.int/\bl.length=i) ⟨S2,h2,[],rfl,rfl⟩ (by omega) ?_ ?_ ?_
   ·intro i ys H' hi ⟨S',h',bl,e,el⟩
    exact⟨h',by rw [e,List.length_map,el]⟩
   ·intro i ys H' hi ⟨S',h',bl,e,el⟩
    have ii:i*i<=7*7:=Nat.mul_le_mul (by omega) (by omega)
    have ii':(i:Int)*(i:Int)=((i*i:Nat):Int):=by rw [Int.natCast_mul]
    rw [Int.zero_add]
    walk_at "rd"
    rw [ii']
    refine⟨IntMulOk.of_left (intBits_le_64 (by omega) (by omega)),⟨by omega,Nat.le_trans (intBits_le_64 (by omega) (by omega)) (by decide)⟩,h',fun H4 B4 h4=>⟨S'.step n2 B4,h4,bl++[_],by rw [e,List.map_append]; rfl,by rw [List.length_append,el]; rfl⟩⟩
   ·intro ys H3 ⟨S3,h3,bl,e,el⟩
    subst e
    try walk_at "rd"
    exact in2 _ _ ⟨D,bl,rfl,S3,h3,by omega,by omega⟩
  intro σ2 H2 hm2
  obtain⟨D,bl,rfl,S2,hD,l1,l8⟩:=out2 _ _ hm2
  clear hm2 in2 out2 f8
  obtain ⟨Mid3, in3, out3⟩ := i6l (fun σ' H' => ∃ m : Nat, σ' = [some (.int c), some (.str (Str.ofString "abcdefghijklmnopqrstuvwxyz")), some (.int M), some (.ref D), some (.int m), none, none, none, none] ∧ H' = H2 ∧ m < bl.length)
  have fb:=d7t (M.fdiv 1000) (b:=(bl.length:Int)) (by omega)
  refine⟨Mid3,?_,?_⟩
  ·walk_at "rd*"
   exact⟨⟨by decide,by decide⟩,by omega,in3 _ _ ⟨((M.fdiv 1000).fmod (bl.length:Int)).toNat,by rw [Int.toNat_of_nonneg fb.1],rfl,by omega⟩⟩
  intro σ3 H3 hm3
  obtain⟨m,rfl,rfl,ml⟩:=out3 _ _ hm3
  clear hm3 in3 out3 fb
  walk_at "rd"
  refine⟨by omega,fun l H4 n4 S4 h4=>?_⟩
  walk_at "rd"
  obtain ⟨Pv, pin, pout⟩ := g9f (fun k σ H' => ∃ v6 v7 v8 : Option V, σ = [some (.int c), some (.str (Str.ofString "abcdefghijklmnopqrstuvwxyz")), some (.int M), some (.ref D), some (.int m), some (.ref l), v6, v7, v8] ∧ Same H3 H' ∧ H' l = some (.lst (((List.range k).map fun k => nmS bl m k bl.length).map V.str)))
  refine f4l (n:=8) Pv (pin _ _ _ ⟨_,_,_,rfl,S4,h4⟩) ?_ ?_
  ·intro k σ H5 hk hp
   obtain⟨v6,v7,v8,rfl,S5,h5⟩:=pout _ _ _ hp
   have hD5:=S5 _ _ hD
   rw [Int.zero_add]
   walk_at "rd*"
   refine⟨by omega,by omega,?_⟩
   rw [Int.toNat_natCast]
   obtain ⟨Pw, win, wout⟩ := g9f (fun j σ H' => ∃ v8 : Option V, σ = [some (.int c), some (.str (Str.ofString "abcdefghijklmnopqrstuvwxyz")), some (.int M), some (.ref D), some (.int m), some (.ref l), some (.int k), some (.str (nmS bl m k j)), v8] ∧ H' = H5)
   have e0 : Str.ofString "" = nmS bl m k 0 := by
    show Str.ofString "" = ⟨#[]⟩
    decide +kernel
   refine f4l (n:=bl.length) Pw (win _ _ _ ⟨_,by rw [<- e0],rfl⟩) ?_ ?_
   ·intro j σ H6 hj hp
    obtain⟨v8',rfl,rfl⟩:=wout _ _ _ hp
    have at':=i8i (ns:=bl) (i:=j) hj
    have nl:=g4l bl m k j
    rw [Int.zero_add]
    clear hp
    walk_at "rd*"
    have ei:(if (j:Int)=(m:Int) then (1:Int) else 0)=if j=m then 1 else 0:=by
     by_cases h:j=m
     ·rw [if_pos h,if_pos (by omega)]
     ·rw [if_neg h,if_neg (by omega)]
    rw [ei]
    have fb:=d7t (bl.getD j 0+(k:Int)*(if j=m then 1 else 0)) (b:=26) (by decide)
    obtain⟨x,ex⟩:∃ x:Nat,(bl.getD j 0+(k:Int)*(if j=m then 1 else 0)).fmod 26=x:=⟨((bl.getD j 0+(k:Int)*(if j=m then 1 else 0)).fmod 26).toNat,by omega⟩
    have ec:nmC bl m k j=97+x:=by
     unfold nmC
     rw [ex,Int.toNat_natCast]
    rw [ex] at fb ⊢
    have ll : (Str.ofString "abcdefghijklmnopqrstuvwxyz").length = 26 := by decide +kernel
    exact⟨IntMulOk.of_left (intBits_le_64 (by omega) (by omega)),by omega,_,i5w (by omega),by show j+1<=_; omega,win _ _ _ ⟨_,by rw [<- ec,h5i],rfl⟩⟩
   ·intro σ H6 hp
    obtain⟨v8',rfl,rfl⟩:=wout _ _ _ hp
    walk_at "rd*"
    refine⟨by rw [List.length_range]; omega,?_⟩
    rintro _ H7 ⟨rfl,B7,h7⟩
    refine pin _ _ _ ⟨_,_,_,rfl,S5.step n4 B7,?_⟩
    rw [h7,List.range_succ,List.map_append (l₁:=List.range k),List.map_append]
    rfl
  ·intro σ H5 hp
   obtain⟨v6,v7,v8,rfl,S5,h5⟩:=pout _ _ _ hp
   walk_at "rd"
   refine q _ l H5 (by simp) ?_ (fun z hz=>?_) (S2.free n4) (S2.trans S5) h5
   ·rw [List.Nodup,List.pairwise_map]
    exact List.Pairwise.imp_of_mem (fun {a b} ha hb hab=>i5x ml hab (List.mem_range.mp hb)) List.pairwise_lt_range
   ·obtain⟨k,_,rfl⟩:=List.mem_map.mp hz
    exact h5j l1 l8
theorem i0z (T : Tx K mg A) : a3q P A.wd K mg base CX0 1 A.a9z A.b0q ["_law_script", "_law_k"] (h1i K) := by
 refine T.b6o.ok f2v (fun vs H Q E h=>?_) (fun cdv A' outer s H vs Q E hr h=>?_)
 ·obtain⟨_,_,rfl,_⟩:=f2q (by unfold h1i at h; exact h)
  rfl
 ·obtain⟨a,k,rfl,⟨ns,hS,hk,q⟩⟩:=f2q (by unfold h1i at h; exact h)
  have hu:=hr.units
  refine⟨_,(a0j (a4z (a0w of_lt (pvF 1) (a1l g6g (by rfl) T.d2z boot_len (a0g (pvF 0) a0i)) (a1k _))
   (a0o (a1z (a1v ix_S (pvF 0) (pvF 1) (fun _ _=>rfl))))
   a1g)
   (a0o (a1z a0n))),?_⟩
  walk_at "rd"
  refine⟨_,hS,?_⟩
  rw [List.length_map]
  split
  ·rename_i h
   exact⟨_,hS,hk,h,q⟩
  ·rename_i h
   obtain⟨j,rfl⟩:=Int.eq_ofNat_of_zero_le hk
   rw [List.getD_eq_getElem?_getD,List.getElem?_eq_none (by omega)] at q
   exact q
theorem h5l{α:Type}{xs:List α}{lo hi:Option Int}{x:α}(h:x∈g4y xs lo hi):x∈xs:=by
 unfold g4y at h
 first | exact List.mem_of_mem_drop (List.mem_of_mem_take h) | exact List.mem_of_mem_take (List.mem_of_mem_drop h)
theorem h5m{c:TT}{a r:TS}{D:Ends}{σ:L2.St}{H:Hp}(B:Hp->Prop)(hc:∀ Qb:Bool->Hp->Prop,(∀ H1,B H1->Qb false H1)->c σ H Qb)(hn:∀ H1,B H1->r D σ H1):i7d (i6i c a h7p) r D σ H:=hc _ fun H1 h=>hn H1 h
theorem i5y (T : Tx K mg A) : a3q P A.wd K mg base CX0 15 A.g0o A.d7p ["_law_script"] (g2g 63 K) := by
 have f8t:a3q P A.wd K mg base CX0 1 _ _ _ _:=i0z T
 have g4m:a3q P A.wd K mg base CX0 1 _ _ _ _:=h5k T
 have g4n:a3q P A.wd K mg base CX0 14 _ _ _ _:=i0x T
 have d1p:a3q P A.wd K mg base CX0 2 _ _ _ _:=i0w T
 have g4o:a3q P A.wd K mg base CX0 14 _ _ _ _:=h5h T
 have a5p:a3q P A.wd K mg base CX0 13 _ _ _ _:=h2b T
 have c1p:a3q P A.wd K mg base CX0 3 _ _ _ _:=h7g T
 have c4i:a3q P A.wd K mg base CX0 3 _ _ _ _:=h7h T
 have c5h:a3q P A.wd K mg base CX0 12 _ _ _ _:=h1u T
 have d3n:a3q P A.wd K mg base CX0 4 _ _ _ _:=h7j T
 have a0s:=T.a0s
 have a0h:=T.a0h
 have a0l:=T.a0l
 have a0k:=T.a0k
 have a0m:=T.a0m
 refine T.h0e.ok f4z (fun vs H Q E h=>?_) (fun cdv A' outer s H vs Q E hr h=>?_)
 ·obtain⟨a,ns,rfl,_⟩:=h
  rfl
 ·obtain⟨a,ns,rfl,hS,hl,hbit,hO,q⟩:=h
  have hu:=hr.units
  have f4i:a5z 1 _:=hr.mono (by decide)
  have g1q:a5z 1 _:=hr.mono (by decide)
  have g1r:a5z 14 _:=hr.mono (by decide)
  have c8s:a5z 2 _:=hr.mono (by decide)
  have g1s:a5z 14 _:=hr.mono (by decide)
  have a4w:a5z 13 _:=hr.mono (by decide)
  have b1k:a5z 3 _:=hr.mono (by decide)
  have b2l:a5z 3 _:=hr.mono (by decide)
  have b3h:a5z 12 _:=hr.mono (by decide)
  have b9y:a5z 4 _:=hr.mono (by decide)
  have hs:sizeLine=16777216:=sizeLine_eq
  have bc:∀ k:Nat,intBits (ns.getD k 0)<=1100000:=fun k=>Nat.le_trans (g9b hbit k) (by decide)
  refine⟨_,(a0j (a3s (i:=1) f4z.nd rfl (Or.inl rfl) (a1j g4m g1q (by rfl) T.g3l T.c2p.kp T.g3k .nil a3p (a0g (a1j f8t f4i (by rfl) T.f7m T.b6o.kp T.f7l .nil a3p (a0g (pvF 0) (a0g a0n a0i))) a0i)))
   (a0j (a3s (i:=2) f4z.nd rfl (Or.inl rfl) (a1j g4n g1r (by rfl) T.g3n T.c2q.kp T.g3m .nil a3p (a0g (pvF 1) a0i)))
   (d9o (a3s (i:=3) f4z.nd rfl (Or.inl rfl) (a1j d1p c8s (by rfl) T.d1n T.b5u.kp T.d1m .nil a3p (a0g (pvF 2) a0i)))
   (a0j (d2l PassesOwn.never rfl (b4i (c7k i8f (pvF 0) (c4l a0n) (c4l a0n))) (c5j (i:=4) f4z.nd rfl (Or.inl rfl))
   (a0o (a4z (pw_or (b5v (a7y (a1j g4o g1s (by rfl) T.g3p T.c2r.kp T.g3o .nil a3p (a0g (pvF 2) (a0g (pvF 1) (a0g (a2i a8m (a2i c7l (pvF 4) a0n) (a2i a7i (a2i f4m a0n a0n) a0n)) a0i)))))) (pw_or1 (a0w (b5w hu) (a1j d1p c8s (by rfl) T.d1n T.b5u.kp T.d1m .nil a3p (a0g (pvF 2) a0i)) (pvF 3) (a1k _)))).pt
   (a0o (a1z d7w))
   a1g)))
   (a0j (a6o (a8p (pvF 2) T.a0s T.b0u c1p b1k T.c1o .nil a3p (a0g (a1v a7n (pvF 1) a0n (fun _ _=>rfl)) a0i)))
   (a0j (a6o (a8p (pvF 2) T.a0s T.b2h c4i b2l T.c3y .nil a3p (a0g (a1v a7n (pvF 1) a0n (fun _ _=>rfl)) a0i)))
   (a0j (a6o (a8p (pvF 2) T.a0s T.b9r d3n b9y T.d2y .nil a3p (a0g (a1v a7n (pvF 1) a0n (fun _ _=>rfl)) (a0g (a2i f4m a0n a0n) a0i))))
   (a0j (a6o (a8p (pvF 2) T.a0s T.b2y c5h b3h T.c4z .nil a3p (a0g (a1v a7n (pvF 1) a0n (fun _ _=>rfl)) (a0g (a1v a7n (pvF 1) a0n (fun _ _=>rfl)) (a0g (a2i c7l (a1y (a0g a0v a0i)) a0n) a0i)))))
   (d9o (a3s (i:=5) f4z.nd rfl (Or.inl rfl) (a1j d1p c8s (by rfl) T.d1n T.b5u.kp T.d1m .nil a3p (a0g (pvF 2) a0i)))
   (a0j (a4z (pw_or (a0w (b5w hu) (a1v a7n (pvF 5) a0n (fun _ _=>rfl)) (a2i a7i (a1v a7n (pvF 3) a0n (fun _ _=>rfl)) (a1y (a0g (a1v a7n (pvF 1) a0n (fun _ _=>rfl)) a0i))) (a1k _)) (pw_or1 (a0w (b5w hu) (a1v a7n (pvF 5) a0n (fun _ _=>rfl)) (a2i a7i (a1v a7n (pvF 3) a0n (fun _ _=>rfl)) (a1y (a0g (a1v a7n (pvF 1) a0n (fun _ _=>rfl)) a0i))) (a1k _)))).pt
   (a0o (a1z d7w))
   a1g)
   (a0j (a4z (a0w (b5w hu) (a1v a7n (pvF 5) a0n (fun _ _=>rfl)) (a2i a7i (a1v a7n (pvF 3) a0n (fun _ _=>rfl)) (a1y (a0g (c1z (a0g (a1v a7n (pvF 1) a0n (fun _ _=>rfl)) (a0g (a1v a7n (pvF 1) a0n (fun _ _=>rfl)) (a0g (a2i c7l (a1y (a0g a0v a0i)) a0n) a0i)))) a0i))) (a1k _))
   (a0o (a1z d7w))
   a1g)
   (a0j (a4z (a0w (b5w hu) (a1v a7n (pvF 5) a0n (fun _ _=>rfl)) (a2i a7i (a1v a7n (pvF 3) a0n (fun _ _=>rfl)) (a1y (a0g (c1z (a0g (a1v a7n (pvF 1) a0n (fun _ _=>rfl)) (a0g (a2i f4m a0n a0n) a0i))) a0i))) (a1k _))
   (a0o (a1z d7w))
   a1g)
   (a0j (a4z (pw_or (a0w (b5w hu) (a1j a5p a4w (by rfl) T.a5v T.a4u.kp T.a5u .nil a3p (a0g (pvF 2) (a0g a0v (a0g (a1v a7n (pvF 1) a0n (fun _ _=>rfl)) (a0g a0n (a0g a0n a0i)))))) a0v (a1k _)) (pw_or1 (a0w (b5w hu) (a1j a5p a4w (by rfl) T.a5v T.a4u.kp T.a5u .nil a3p (a0g (pvF 2) (a0g a0v (a0g (a1v a7n (pvF 1) a0n (fun _ _=>rfl)) (a0g a0n (a0g a0n a0i)))))) a0v (a1k _)))).pt
   (a0o (a1z d7w))
   a1g)
   (a0o (a1z (g2h (b1l (a6v hu) (a1j a5p a4w (by rfl) T.a5v T.a4u.kp T.a5u .nil a3p (a0g (pvF 2) (a0g a0v (a0g (a1v a7n (pvF 1) a0n (fun _ _=>rfl)) (a0g a0n (a0g a0n a0i)))))) a0v (a1k _)) (g8a (b1l (a6v hu) (a1j d1p c8s (by rfl) T.d1n T.b5u.kp T.d1m .nil a3p (a0g (pvF 2) a0i)) (pvF 5) (a1k _))))))))))))))))))),?_⟩
  walk_at "rd"
  refine⟨ns,hS,bc 0,fun nm ln H1 n8 nd nms nl S1 hln=>?_⟩
  try walk_at "rd"
  refine⟨nm,hln,⟨n8,nms,nd⟩,fun o H2 S2 P2=>?_⟩
  replace P2:c5g A H2 (fun z=>H2 z≠none/\H1 z=none) o (pat nm):=P2.mono fun z hz e=>⟨e,hz⟩
  obtain⟨n0,n1,n2,n3,n4,n5,n6,n7,rfl⟩:=nm8 n8
  have nd':=nd
  simp only [List.nodup_cons,List.mem_cons,List.not_mem_nil,or_false,not_or,not_false_eq_true,List.nodup_nil,and_true] at nd'
  obtain⟨⟨a01,a02,a03,a04,a05,a06,a07⟩,⟨a12,a13,a14,a15,a16,a17⟩,⟨a23,a24,a25,a26,a27⟩,⟨a34,a35,a36,a37⟩,⟨a45,a46,a47⟩,⟨a56,a57⟩,a67⟩:=nd'
  have so:∀ z∈[n0,n1,n2,n3,n4,n5,n6,n7],PyData.strOk z=true:=fun z hz=>f8q (nms z hz)
  try walk_at "rd"
  refine⟨_,_,P2,⟨by show 2<=100; decide,by show 3<=100; decide,by show 2<=100; decide,by show 1<=100; decide,fun e he=>?_⟩,fun Lb H3 S3 Q3=>Stop.go ?_⟩
  ·have he : e ∈ [(n0, n2, [Str.ofString "gain:1/2"]), (n2, n3, [])] := he
   simp only [List.mem_cons,List.not_mem_nil,or_false] at he
   rcases he with rfl | rfl <;> simp
  have P3:=P2.same S3
  have hS3:=(S1.trans (S2.trans S3)).seq hS
  try walk_at "rd"
  refine⟨_,hS3,fun lc H4 n4' S4 h4=>?_⟩
  obtain⟨ms,ems⟩:∃ ms,g4y ns (some 1) (some 41)=ms:=⟨_,rfl⟩
  have msb:∀ x∈ms,intBits x<=1048576:=fun x hx=>hbit x (by rw [<- ems] at hx; exact h5l hx)
  rw [g9e,ems] at h4
  have P4:=P3.same S4
  have Q4:=Q3.same S4
  have hl4:=(S2.trans (S3.trans S4)) _ _ hln
  have pk:i6r (pat [n0,n1,n2,n3,n4,n5,n6,n7]):=by
   refine⟨fun z hz=>so z ?_,fun z hz=>so z ?_,fun e he=>?_,fun x hx=>?_⟩
   ·have hz:z∈[n0,n1]:=hz
    simp only [List.mem_cons,List.not_mem_nil,or_false] at hz ⊢
    rcases hz with h | h <;> simp [h]
   ·have hz:z∈[n2,n3,n4]:=hz
    simp only [List.mem_cons,List.not_mem_nil,or_false] at hz ⊢
    rcases hz with h | h | h <;> simp [h]
   ·have he : e ∈ [(n0, n2, [Str.ofString "gain:1/2"]), (n2, n3, [])] := he
    simp only [List.mem_cons,List.not_mem_nil,or_false] at he
    rcases he with rfl | rfl
    ·exact⟨so _ (by simp),so _ (by simp),fun x hx=>by obtain rfl:=List.mem_singleton.mp hx; decide +kernel⟩
    ·exact⟨so _ (by simp),so _ (by simp),fun x hx=>by cases hx⟩
   ·have hx:x∈[(n3,(9:Int))]:=hx
    obtain rfl:=List.mem_singleton.mp hx
    exact so _ (by simp)
  have le0:i9k (pat [n0,n1,n2,n3,n4,n5,n6,n7]) 100:=⟨by show 2<=100; decide,by show 3<=100; decide,by show 2<=100; decide,by show 1<=100; decide,fun e he=>by
   have he : e ∈ [(n0, n2, [Str.ofString "gain:1/2"]), (n2, n3, [])] := he
   simp only [List.mem_cons,List.not_mem_nil,or_false] at he
   rcases he with rfl | rfl <;> simp⟩
  refine⟨⟨_,SqL.of h4⟩,?_⟩
  obtain⟨Pv,pin,pout⟩:=g9f (fun i σ H'=>∃ v4:Option V,σ = [some (.ref a),some (.ref ln),some (.ref o),some (.ref Lb),v4,none]/\Same H4 H')
  refine d3r (xs:=ms.map V.int) Pv (pin _ _ _ ⟨_,rfl,Same.refl _⟩) ?_ ?_ ?_
  ·intro i σ H5 hi hp
   obtain⟨v4,rfl,S5⟩:=pout _ _ _ hp
   exact SqL.of (S5 _ _ h4)
  ·intro i v σ H5 hv hp
   rw [List.getElem?_map] at hv
   obtain⟨c,hc,rfl⟩:=Option.map_eq_some_iff.mp hv
   obtain⟨v4,rfl,S5⟩:=pout _ _ _ hp
   have cb:=msb c (List.mem_of_getElem? hc)
   clear hv hp
   have fb:=d7t (c*414213562373095048801689) (b:=1000000000000000000000007) (by decide)
   walk_at "rd"
   refine ⟨by walk_at "mul", by decide, _, _, P4.same S5, S5 _ _ hl4, ⟨n8, nms, nd⟩, fb.1, by omega, fun H6 S6 => ⟨_, _, P4.same (S5.trans S6), le0, fun L H7 S7 Q7 => ?_⟩⟩
   refine Rp.ne Q7.rp (Q4.same (S5.trans (S6.trans S7))).rp pk.k (by decide) ?_
   walk_at "rd"
   exact pin _ _ _ ⟨_,rfl,S5.trans (S6.trans S7)⟩
  ·intro σ H5 hp
   obtain⟨v4,rfl,S5⟩:=pout _ _ _ hp
   have P5:=P4.same S5
   have Q5:=Q4.same S5
   have hl5:=S5 _ _ hl4
   clear hp pin pout h4
   obtain⟨dx5,t5,b5,sd5,ou5,ho5,F5⟩:=id P5
   unfold ptF at ho5
   have at5:atI [V.str n0,V.str n1,V.str n2,V.str n3,V.str n4,V.str n5,V.str n6,V.str n7] 5=some (.str n5):=rfl
   have at6:atI [V.str n0,V.str n1,V.str n2,V.str n3,V.str n4,V.str n5,V.str n6,V.str n7] 6=some (.str n6):=rfl
   walk_at "rd*"
   refine⟨_,_,P5,nms _ (by simp),(by show n5∉[n0,n1]; simp only [List.mem_cons,List.not_mem_nil,or_false,not_or]; exact⟨Ne.symm a05,Ne.symm a15⟩),(by show n5∉[n2,n3,n4]; simp only [List.mem_cons,List.not_mem_nil,or_false,not_or]; exact⟨Ne.symm a25,Ne.symm a35,Ne.symm a45⟩),by show 2<=100; decide,fun H6 N6 P6=>?_⟩
   replace P6 : c5g A H6 (fun z => H2 z ≠ none ∧ H1 z = none) o ⟨[n0, n1, n5], [n2, n3, n4], [(n0, n2, [Str.ofString "gain:1/2"]), (n2, n3, [])], [(n3, 9)]⟩ := P6
   have Q6:=Q5.over N6 fun z hz _ hm=>hm.1 hz
   have hl6:=h5g N6 (fun h=>by rw [h.2] at hln; cases hln) hl5
   clear ho5 hl5 F5 P5 Q5
   obtain⟨dx6,t6,b6,sd6,ou6,ho6,F6⟩:=id P6
   unfold ptF at ho6
   walk_at "rd*"
   refine⟨_,_,P6,nms _ (by simp),(by show n6∉[n0,n1,n5]; simp only [List.mem_cons,List.not_mem_nil,or_false,not_or]; exact⟨Ne.symm a06,Ne.symm a16,Ne.symm a56⟩),(by show n6∉[n2,n3,n4]; simp only [List.mem_cons,List.not_mem_nil,or_false,not_or]; exact⟨Ne.symm a26,Ne.symm a36,Ne.symm a46⟩),by show 3<=100; decide,fun H7 N7 P7=>?_⟩
   replace P7 : c5g A H7 (fun z => H2 z ≠ none ∧ H1 z = none) o ⟨[n0, n1, n5], [n2, n3, n4, n6], [(n0, n2, [Str.ofString "gain:1/2"]), (n2, n3, [])], [(n3, 9)]⟩ := P7
   have Q7:=Q6.over N7 fun z hz _ hm=>hm.1 hz
   have hl7:=h5g N7 (fun h=>by rw [h.2] at hln; cases hln) hl6
   clear ho6 hl6 F6 P6 Q6
   obtain⟨dx7,t7,b7,sd7,ou7,ho7,F7⟩:=id P7
   unfold ptF at ho7
   walk_at "rd*"
   refine⟨by decide,_,_,P7,List.mem_cons_of_mem _ (List.mem_cons_of_mem _ (List.mem_cons_of_mem _ List.mem_cons_self)),(fun x hx=>?_),by show 1<=99; decide,fun H8 N8 P8=>?_⟩
   ·have hx:x∈[(n3,(9:Int))]:=hx
    obtain rfl:=List.mem_singleton.mp hx
    exact a36
   replace P8 : c5g A H8 (fun z => H2 z ≠ none ∧ H1 z = none) o ⟨[n0, n1, n5], [n2, n3, n4, n6], [(n0, n2, [Str.ofString "gain:1/2"]), (n2, n3, [])], [(n3, 9), (n6, 1000000000000)]⟩ := P8
   have Q8:=Q7.over N8 fun z hz _ hm=>hm.1 hz
   have hl8:=h5g N8 (fun h=>by rw [h.2] at hln; cases hln) hl7
   clear ho7 hl7 F7 P7 Q7
   obtain⟨dx8,t8,b8,sd8,ou8,ho8,F8⟩:=id P8
   unfold ptF at ho8
   walk_at "rd*"
   refine fun l9 H9 m9 S9 h9=>?_
   have hl9:=S9 _ _ hl8
   clear ho8 hl8 F8
   walk_at "rd*"
   refine⟨by decide,fun l10 H10 m10 S10 h10=>?_⟩
   replace h10:H10 l10=some (.lst ((List.replicate 8 (Dt.delay 1)).map fun d=>V.str d.word)):=by
    rw [h10,<- i7a]
    rfl
   have h7i:=S9.trans S10
   have P10:=P8.same h7i
   have Q10:=Q8.same h7i
   have j1m:=S10 _ _ hl9
   clear hl9 h9 P8 Q8
   try walk_at "rd"
   refine⟨_,_,P10,_,h10,by decide,(fun d hd=>by rw [List.eq_of_mem_replicate hd]; exact j1l),.inl (List.mem_cons_of_mem _ (List.mem_cons_of_mem _ List.mem_cons_self)),List.mem_cons_of_mem _ (List.mem_cons_of_mem _ (List.mem_cons_of_mem _ List.mem_cons_self)),h2e (fun v h=>?_) (Ne.symm a56),by show 2<=99; decide,so _ (by simp),(fun e he=>?_),fun H11 N11 P11=>?_⟩
   ·have h:(n6,v)∈[(n0,n2),(n2,n3)]:=h
    simp only [List.mem_cons,List.not_mem_nil,or_false,Prod.mk.injEq] at h
    rcases h with h | h
    ·exact a06 h.1.symm
    ·exact a26 h.1.symm
   ·have he : e ∈ [(n0, n2, [Str.ofString "gain:1/2"]), (n2, n3, [])] := he
    simp only [List.mem_cons,List.not_mem_nil,or_false] at he
    rcases he with rfl | rfl
    ·exact so _ (by simp)
    ·exact so _ (by simp)
   obtain⟨dw,edw⟩:∃ dw,(List.replicate 8 (Dt.delay 1)).map Dt.word=dw:=⟨_,rfl⟩
   rw [edw] at P11
   have dl:dw.length=8:=by rw [<- edw]; rfl
   have dok:∀ x∈dw,PyData.strOk x=true:=fun x hx=>by
    rw [<- edw,List.map_replicate,i7a] at hx
    rw [List.eq_of_mem_replicate hx]
    decide +kernel
   replace P11 : c5g A H11 (fun z => (H2 z ≠ none ∧ H1 z = none) ∨ H10 z = none) o ⟨[n0, n1, n5], [n2, n3, n4, n6], [(n0, n2, [Str.ofString "gain:1/2"]), (n2, n3, []), (n5, n6, dw)], [(n3, 9), (n6, 1000000000000)]⟩ := P11
   have Q11:=Q10.over N11 fun z hz _ hm=>hm.1 hz
   have j1n:=h5g N11 (fun h=>by rw [h.2] at hln; cases hln) j1m
   clear j1m P10 Q10 h10
   obtain ⟨pd, epd⟩ : ∃ pd, (⟨[n0, n1, n5], [n2, n3, n4, n6], [(n0, n2, [Str.ofString "gain:1/2"]), (n2, n3, []), (n5, n6, dw)], [(n3, 9), (n6, 1000000000000)]⟩ : Pd) = pd := ⟨_, rfl⟩
   have le1:i9k pd 100:=by
    rw [<- epd]
    refine⟨by show 3<=100; decide,by show 4<=100; decide,by show 3<=100; decide,by show 2<=100; decide,fun e he=>?_⟩
    have he : e ∈ [(n0, n2, [Str.ofString "gain:1/2"]), (n2, n3, []), (n5, n6, dw)] := he
    simp only [List.mem_cons,List.not_mem_nil,or_false] at he
    rcases he with rfl | rfl | rfl
    ·show 1<=100; decide
    ·show 0<=100; decide
    ·show dw.length<=100; omega
   try walk_at "rd"
   refine⟨_,_,P11,(by rw [epd]; exact le1),fun La H12 S12 Q12=>Stop.go ?_⟩
   have P12:=P11.same S12
   have B12:=Q11.same S12
   have h7m:=S12 _ _ j1n
   clear P11 Q11 j1n
   obtain⟨ta,ba,sa,ua,hLa,nLa,Fa⟩:=id Q12
   obtain⟨tb,bb,sb,ub,hLb,nLb,Fb⟩:=id B12
   have so':∀ z∈[n0,n1,n5],PyData.strOk z=true:=fun z hz=>so z (by simp only [List.mem_cons,List.not_mem_nil,or_false] at hz ⊢; rcases hz with h | h | h <;> simp [h])
   have so2:∀ z∈[n2,n3,n4,n6],PyData.strOk z=true:=fun z hz=>so z (by simp only [List.mem_cons,List.not_mem_nil,or_false] at hz ⊢; rcases hz with h | h | h | h <;> simp [h])
   refine h5m (fun H'=>Same H12 H') (fun Qb hq=>?_) (fun H13 S13=>?_)
   ·have hta:H12 ta=some (.lst [.str n0,.str n1,.str n5]):=Fa.ht
    have htb:H12 tb=some (.lst [.str n0,.str n1]):=Fb.ht
    walk_at "rd*"
    refine fun l13 H13 m13 S13 h13=>?_
    have i9z:=S13 _ _ htb
    clear htb
    walk_at "rd*"
    refine fun l14 H14 m14 S14 h14=>?_
    have i1a:=S13.trans S14
    try walk_at "rd"
    refine d8t (ns:=[n0,n1,n5]) (ms:=[n0,n1,n5]) (SqL.of (i1a _ _ hta)) (SqL.of h14) so' so' ?_
    rw [show (!decide ([n0,n1,n5] = [n0,n1,n5]))=false by simp]
    have i1b:=i1a _ _ hLa
    have i1c:=i1a _ _ hLb
    have j0a:=i1a _ _ h7m
    have hba:H14 ba=some (.lst [.str n2,.str n3,.str n4,.str n6]):=i1a _ _ Fa.hb
    have hbb:H14 bb=some (.lst [.str n2,.str n3,.str n4]):=i1a _ _ Fb.hb
    clear hLa hLb h7m hta i9z h13 h14
    walk_at "rd*"
    refine fun l15 H15 m15 S15 h15=>?_
    have hbb15:=S15 _ _ hbb
    clear hbb i1b i1c j0a
    walk_at "rd*"
    refine fun l16 H16 m16 S16 h16=>?_
    try walk_at "rd"
    refine d8t (ns:=[n2,n3,n4,n6]) (ms:=[n2,n3,n4,n6]) (SqL.of ((S15.trans S16) _ _ hba)) (SqL.of h16) so2 so2 ?_
    rw [show (!decide ([n2,n3,n4,n6] = [n2,n3,n4,n6]))=false by simp]
    exact hq _ (i1a.trans (S15.trans S16))
   have i5z:=S13 _ _ hLa
   have i6a:=S13 _ _ hLb
   have j1o:=S13 _ _ h7m
   have D1:(fun a:Nat=>a)=fun a=>a:=rfl
   obtain⟨usa,hsa,Rsa⟩:=Fa.hs
   obtain⟨usb,hsb,Rsb⟩:=Fb.hs
   obtain⟨ova,hoa,Roa⟩:=Fa.ho
   obtain⟨ovb,hob,Rob⟩:=Fb.ho
   have el1:usb.length=2:=Rsb.h6p
   have el2:ovb.length=1:=Rob.h6p
   refine h5m (fun H'=>Same H12 H') (fun Qb hq=>?_) (fun H14 S14=>?_)
   ·have i6b:=S13 _ _ hsb
    walk_at "rd*"
    refine fun l14 H14 m14 S14 h14=>?_
    have i6c:=S14 _ _ i6b
    clear i6b i5z i6a j1o
    walk_at "rd*"
    refine⟨by decide,fun l15 H15 m15 S15 h15=>?_⟩
    replace h15:H15 l15=some (.lst (dw.map V.str)):=by
     rw [h15,<- edw,List.map_replicate,i7a]
     rfl
    have i6d:=S15 _ _ i6c
    clear i6c h14
    walk_at "rd*"
    refine fun t16 H16 m16 S16 h16=>?_
    have i6e:=S16 _ _ i6d
    have h15':=S16 _ _ h15
    clear i6d h15
    walk_at "rd*"
    refine fun l17 H17 m17 S17 h17=>?_
    have hsb17:=S17 _ _ i6e
    clear i6e
    walk_at "rd*"
    refine fun l18 H18 m18 S18 h18=>?_
    try walk_at "rd"
    have f8u:=S13.trans (S14.trans (S15.trans (S16.trans (S17.trans S18))))
    have i6f:=S17.trans S18
    refine Rp.ne (d := .list ([(n0, n2, [Str.ofString "gain:1/2"]), (n2, n3, []), (n5, n6, dw)].map dSd)) (n := 3) (N := fun _ => True) (M := fun _ => True) (.lst trivial (f8u _ _ hsa) ((Rsa.same f8u).mono fun _ _ _ => trivial)) (.lst trivial h18 ?_) (h6q fun e he => ?_) (by decide) ?_
    ·exact RpL.snoc (ds := [(n0, n2, [Str.ofString "gain:1/2"]), (n2, n3, [])].map dSd) ((Rsb.same f8u).mono fun _ _ _ => trivial) (.tup (i6f _ _ h16) (.cons (.str _) (.cons (.str _) (.cons (.lst trivial (i6f _ _ h15') (RpL.strs _)) .nil))))
    ·simp only [List.mem_cons,List.not_mem_nil,or_false] at he
     rcases he with rfl | rfl | rfl
     ·exact⟨so _ (by simp),so _ (by simp),fun x hx=>by obtain rfl:=List.mem_singleton.mp hx; decide +kernel⟩
     ·exact⟨so _ (by simp),so _ (by simp),fun x hx=>by cases hx⟩
     ·exact⟨so _ (by simp),so _ (by simp),dok⟩
    exact hq _ f8u
   have i1b:=S14 _ _ hLa
   have i1c:=S14 _ _ hLb
   have j0a:=S14 _ _ h7m
   clear i5z i6a j1o
   refine h5m (fun H'=>Same H12 H') (fun Qb hq=>?_) (fun H15 S15=>?_)
   ·have i6g:=S14 _ _ hob
    walk_at "rd*"
    refine⟨by decide,fun t16 H16 m16 S16 h16=>?_⟩
    have i6h:=S16 _ _ i6g
    clear i6g
    walk_at "rd*"
    refine fun l17 H17 m17 S17 h17=>?_
    have hob17:=S17 _ _ i6h
    clear i6h
    walk_at "rd*"
    refine fun l18 H18 m18 S18 h18=>?_
    try walk_at "rd"
    have f8u:=S14.trans (S16.trans (S17.trans S18))
    refine Rp.ne (d:=.list ([(n3,(9:Int)),(n6,1000000000000)].map dOu)) (n:=3) (N:=fun _=>True) (M:=fun _=>True) (.lst trivial (f8u _ _ hoa) ((Roa.same f8u).mono fun _ _ _=>trivial)) (.lst trivial h18 ?_) (h6r fun e he=>?_) (by decide) ?_
    ·exact RpL.snoc (ds:=[(n3,(9:Int))].map dOu) ((Rob.same f8u).mono fun _ _ _=>trivial) (.tup ((S17.trans S18) _ _ h16) (.cons (.str _) (.cons (.int _) .nil)))
    ·simp only [List.mem_cons,List.not_mem_nil,or_false] at he
     rcases he with rfl | rfl <;> exact so _ (by simp)
    exact hq _ f8u
   have P15:=P12.same S15
   have j0b:=S15 _ _ h7m
   clear i1b i1c j0a hLa hLb hsa hsb hoa hob Rsa Rsb Roa Rob
   have o2:([(n3,(9:Int)),(n6,1000000000000)] : List (Str×Int)).length<=99:=by show 2<=99; decide
   refine h5m (fun H'=>Same H12 H') (fun Qb hq=>?_) (fun H16 S16=>?_)
   ·clear h7m
    walk_at "rd*"
    refine⟨_,_,P15,o2,1,by decide,.inl (.inr ⟨rfl,n6,rfl,nms _ (by simp),.inr (List.mem_cons_of_mem _ (List.mem_cons_of_mem _ (List.mem_cons_of_mem _ List.mem_cons_self)))⟩),fun H17 S17=>?_⟩
    rw [if_neg (not_not_intro (show kdS 1 = Str.ofString "twice" from rfl))]
    have hl17:=S17 _ _ j0b
    clear j0b
    walk_at "rd*"
    refine⟨_,_,P15.same S17,o2,1,by decide,.inr (.inl (.inr ⟨rfl,n5,rfl,nms _ (by simp),.inl (List.mem_cons_of_mem _ (List.mem_cons_of_mem _ List.mem_cons_self))⟩)),fun H18 S18=>?_⟩
    rw [decide_eq_true (show kdS 1 = Str.ofString "twice" from rfl)]
    exact hq _ (S15.trans (S17.trans S18))
   have hl16:=S16 _ _ h7m
   have P16:=P12.same S16
   clear h7m j0b P15
   walk_at "rd*"
   refine⟨_,_,P16,o2,1,by decide,.inr (.inr (.inr (.inr (.inl ⟨rfl,n6,rfl,List.mem_cons_of_mem _ (List.mem_cons_of_mem _ (List.mem_cons_of_mem _ List.mem_cons_self)),List.mem_cons_of_mem _ List.mem_cons_self⟩)))),fun H17 S17=>?_⟩
   rw [if_pos (show kdS 1 = Str.ofString "twice" from rfl)]
   refine⟨_,_,P16.same S17,(by rw [epd]; exact le1),fun L H18 S18 Q18=>?_⟩
   refine Rp.eq Q18.rp (Q12.same (S16.trans (S17.trans S18))).rp (i6r.k ⟨so',so2,fun e he=>?_,fun x hx=>?_⟩) (by decide) (q _)
   ·have he : e ∈ [(n0, n2, [Str.ofString "gain:1/2"]), (n2, n3, []), (n5, n6, dw)] := he
    simp only [List.mem_cons,List.not_mem_nil,or_false] at he
    rcases he with rfl | rfl | rfl
    ·exact⟨so _ (by simp),so _ (by simp),fun x hx=>by obtain rfl:=List.mem_singleton.mp hx; decide +kernel⟩
    ·exact⟨so _ (by simp),so _ (by simp),fun x hx=>by cases hx⟩
    ·exact⟨so _ (by simp),so _ (by simp),dok⟩
   ·have hx:x∈[(n3,(9:Int)),(n6,1000000000000)]:=hx
    simp only [List.mem_cons,List.not_mem_nil,or_false] at hx
    rcases hx with rfl | rfl <;> exact so _ (by simp)
theorem len1{α:Type _}{us:List α}(h:us.length=1):∃ a,us = [a]:=match us,h with | [a],_=>⟨a,rfl⟩
local macro_rules | `(tactic| walk_at "b1") => `(tactic| (intro _ _ _ _ _ _ us hl; obtain ⟨_, e⟩ := len1 hl; subst e; rfl))
theorem len2{α:Type _}{us:List α}(h:us.length=2):∃ a b,us = [a,b]:=match us,h with | [a,b],_=>⟨a,b,rfl⟩
local macro_rules | `(tactic| walk_at "b2") => `(tactic| (intro _ _ _ _ _ _ us hl; obtain ⟨_, _, e⟩ := len2 hl; subst e; rfl))
theorem len3{α:Type _}{us:List α}(h:us.length=3):∃ a b c,us = [a,b,c]:=match us,h with | [a,b,c],_=>⟨a,b,c,rfl⟩
local macro_rules | `(tactic| walk_at "b3") => `(tactic| (intro _ _ _ _ _ _ us hl; obtain ⟨_, _, _, e⟩ := len3 hl; subst e; rfl))
theorem len4{α:Type _}{us:List α}(h:us.length=4):∃ a b c d,us = [a,b,c,d]:=match us,h with | [a,b,c,d],_=>⟨a,b,c,d,rfl⟩
local macro_rules | `(tactic| walk_at "b4") => `(tactic| (intro _ _ _ _ _ _ us hl; obtain ⟨_, _, _, _, e⟩ := len4 hl; subst e; rfl))
theorem len5{α:Type _}{us:List α}(h:us.length=5):∃ a b c d e,us = [a,b,c,d,e]:=match us,h with | [a,b,c,d,e],_=>⟨a,b,c,d,e,rfl⟩
local macro_rules | `(tactic| walk_at "b5") => `(tactic| (intro _ _ _ _ _ _ us hl; obtain ⟨_, _, _, _, _, e⟩ := len5 hl; subst e; rfl))
theorem all_mk {l : W.OpenLaw} {K : W.Frag} {h : Heap} {mg : Str → Option Value} {fa : Addr} {b4z b1s b7m c2g b7o a6r a6s a9s b7q b7r b5i b5j b1t a9u a8q b6k b5k b9o b9p b5l b1v b2r a8s b9q b5m a5r a9w b4o b1y b7w b4p b0n b2t b2u b5o a9z b4q b4r b7y b8g b0g a8u a5s b4s g0o a0z a0p a0u a0r a0t a1h a1i a8g a2g a5j a3r f0n c4r b6l g0p b8i b2g a7j a5m : Addr} {b4m b2n b7n c1t b7p a6z a7g b2o b5g b5h b2p b2q b1u b0l a8r b7s b7t c1u b7u b4n a9v b0m a7z b7v b2s a5n a8t b1w a9y b5n b1z a9o b0o b0p b2v b0q b5p b5q b7z b8h b0r a9p a6w b5r d7p : FuncData} {c6y a5k a5l b8j b8k b5s b5t f5g c6z b0s : Value} {wd : World} {es_READERS : Array DictEntry} {n_READERS : Nat} (X : K.In h) (G : h.Ns mainGlobals mg) (hfa : mg "law" = some (.ref fa)) (Y : Ty K ⟨b4z, b4m, b1s, b2n, b7m, b7n, c2g, c1t, b7o, b7p, a6r, a6z, a6s, a7g, a9s, b2o, b7q, b5g, b7r, b5h, b5i, b2p, b5j, b2q, b1t, b1u, a9u, b0l, a8q, a8r, b6k, b7s, b5k, b7t, b9o, c1u, b9p, b7u, b5l, b4n, b1v, a9v, b2r, b0m, a8s, a7z, b9q, b7v, b5m, b2s, a5r, a5n, a9w, a8t, b4o, b1w, b1y, a9y, b7w, b5n, b4p, b1z, b0n, a9o, b2t, b0o, b2u, b0p, b5o, b2v, a9z, b0q, b4q, b5p, b4r, b5q, b7y, b7z, b8g, b8h, b0g, b0r, a8u, a9p, a5s, a6w, b4s, b5r, g0o, d7p, a0z, a0p, a0u, a0r, a0t, a1h, a1i, a8g, a2g, a5j, a3r, f0n, c4r, b6l, g0p, b8i, b2g, a7j, c6y, a5k, a5l, b8j, b8k, b5s, b5t, f5g, c6z, b0s, a5m, wd⟩) (ld_READERS : K.lookup a5m = some ⟨.type "dict", none, .dict es_READERS n_READERS, #[]⟩) (kd_READERS : W.KeysLit wd.params es_READERS.toList) (ne_READERS : (a5m == sysModules) = false) : ∃ fd : FuncData, (∀ (s : Shared) (v : Value), BindsTo s fd ⟨[v], []⟩ [("_law_script", v)]) ∧ ∀ base : Heap, K.In base → base.Ns mainGlobals mg → a3q l.prog wd K mg base CX0 15 fa fd ["_law_script"] (g2g 63 K) := by
 have ea:fa=g0o:=by injection (hfa.symm.trans (W.mg_of X G Y.h4j)) with e; injection e
 rw [ea]
 have T : Tx K mg ⟨b4z, b4m, b1s, b2n, b7m, b7n, c2g, c1t, b7o, b7p, a6r, a6z, a6s, a7g, a9s, b2o, b7q, b5g, b7r, b5h, b5i, b2p, b5j, b2q, b1t, b1u, a9u, b0l, a8q, a8r, b6k, b7s, b5k, b7t, b9o, c1u, b9p, b7u, b5l, b4n, b1v, a9v, b2r, b0m, a8s, a7z, b9q, b7v, b5m, b2s, a5r, a5n, a9w, a8t, b4o, b1w, b1y, a9y, b7w, b5n, b4p, b1z, b0n, a9o, b2t, b0o, b2u, b0p, b5o, b2v, a9z, b0q, b4q, b5p, b4r, b5q, b7y, b7z, b8g, b8h, b0g, b0r, a8u, a9p, a5s, a6w, b4s, b5r, g0o, d7p, a0z, a0p, a0u, a0r, a0t, a1h, a1i, a8g, a2g, a5j, a3r, f0n, c4r, b6l, g0p, b8i, b2g, a7j, c6y, a5k, a5l, b8j, b8k, b5s, b5t, f5g, c6z, b0s, a5m, wd⟩ := ⟨Y, Y.b2z.binds (by walk_at "b1"), W.mg_of X G Y.d5r, Y.b2j.binds (by walk_at "b1"), W.mg_of X G Y.c9q, Y.c7g.binds (by walk_at "b1"), W.mg_of X G Y.d5s, Y.c9t.binds (by walk_at "b2"), W.mg_of X G Y.f0s, Y.c1v.binds (by walk_at "b2"), W.mg_of X G Y.d5t, Y.a6t.binds (by walk_at "b1"), W.mg_of X G Y.c2h, Y.a8h.binds (by walk_at "b1"), W.mg_of X G Y.c2i, Y.c4s.binds (by walk_at "b1"), Y.c8g.binds (by walk_at "b2"), Y.c8h.binds (by walk_at "b1"), Y.c4t.binds (by walk_at "b2"), Y.c4u.binds (by walk_at "b1"), Y.b4t.binds (by walk_at "b1"), W.mg_of X G Y.d2r, Y.b6m.binds (by walk_at "b3"), W.mg_of X G Y.c7s, Y.a7k.binds (by walk_at "b2"), W.mg_of X G Y.c7t, Y.c2k.binds (by walk_at "b1"), W.mg_of X G Y.f0t, Y.c7h.binds (by walk_at "b1"), W.mg_of X G Y.d5u, Y.c9u.binds (by walk_at "b1"), W.mg_of X G Y.f0u, Y.c2l.binds (by walk_at "b1"), W.mg_of X G Y.f0v, Y.b8m.binds (by walk_at "b1"), W.mg_of X G Y.d5v, Y.b9s.binds (by walk_at "b2"), Y.c1i.binds (by walk_at "b1"), Y.b3q.binds (by walk_at "b2"), Y.c2m.binds (by walk_at "b1"), W.mg_of X G Y.f0w, Y.c4v.binds (by walk_at "b1"), Y.a9q.binds (by walk_at "b2"), Y.b6n.binds (by walk_at "b2"), Y.c2n.binds (by walk_at "b2"), Y.b9t.binds (by walk_at "b4"), Y.c8i.binds (by walk_at "b3"), Y.c2o.binds (by walk_at "b3"), Y.b9k.binds (by walk_at "b1"), Y.c1j.binds (by walk_at "b1"), Y.c1k.binds (by walk_at "b1"), Y.c4w.binds (by walk_at "b1"), Y.b6o.binds (by walk_at "b2"), W.mg_of X G Y.c7u, Y.c2p.binds (by walk_at "b1"), W.mg_of X G Y.d2s, Y.c2q.binds (by walk_at "b1"), W.mg_of X G Y.d2t, Y.b5u.binds (by walk_at "b1"), W.mg_of X G Y.d5w, Y.a4u.binds (by walk_at "b5"), W.mg_of X G Y.d5y, Y.b6p.binds (by walk_at "b2"), W.mg_of X G Y.c7v, Y.a8v.binds (by walk_at "b1"), W.mg_of X G Y.c5o, Y.a5t.binds (by walk_at "b1"), W.mg_of X G Y.b8l, Y.c2r.binds (by walk_at "b3"), W.mg_of X G Y.d2u, Y.h0e.binds (by walk_at "b1"), W.mg_of X G Y.h4j, W.mg_none_of X G Y.c9v, W.mg_none_of X G Y.h9a, W.mg_none_of X G Y.h9b, W.mg_none_of X G Y.y_bool, W.mg_none_of X G Y.h9c, W.mg_none_of X G Y.c9w, W.mg_none_of X G Y.h9d, W.mg_none_of X G Y.h0f, W.mg_none_of X G Y.g3g, W.mg_none_of X G Y.h9e, W.mg_of X G Y.d2p, W.mg_of X G Y.d2q, W.mg_of X G Y.f0o, W.mg_of X G Y.f0p, W.mg_of X G Y.f0q, W.mg_of X G Y.f6o, W.mg_of X G Y.f6p, W.mg_of X G Y.g3a, W.mg_of X G Y.d5p, W.mg_of X G Y.f6q, W.mg_of X G Y.f0r, W.mg_of X G Y.g3b, W.mg_of X G Y.g3c, W.mg_of X G Y.f6r, W.mg_of X G Y.g3d, W.mg_of X G Y.f6s, W.mg_of X G Y.d5q, W.mg_of X G Y.f6t, ⟨Y.d2v⟩, ⟨Y.f0y⟩, ⟨Y.f0z⟩, ⟨Y.f1g⟩, ⟨Y.f6v⟩, ⟨Y.f6w⟩, ⟨Y.a6g, Y.a6h, Y.a6i, Y.a6j, Y.a6k, Y.a6l, Y.a6m, Y.a6n⟩, ⟨Y.a7p, Y.a7q, Y.a7r, Y.a7s, Y.a7t, Y.a7u, Y.a7v, Y.a7w⟩, ⟨Y.a3u, Y.a3v, Y.a3w, Y.a3y, Y.a3z, Y.a4g, Y.a4h, Y.a4i⟩, ⟨Y.a8w, Y.a8y, Y.a8z, Y.a9g, Y.a9h, Y.a9i, Y.a9j, Y.a9k⟩, ⟨Y.a2k, Y.a2l, Y.a2m, Y.a2n, Y.a2o, Y.a2p, Y.a2q, Y.a2r⟩, ⟨Y.a1m, Y.a1n, Y.a1o, Y.a1p, Y.a1q, Y.a1r, Y.a1s, Y.a1t⟩, ⟨Y.a2s, Y.a2t, Y.a2u, Y.a2v, Y.a2w, Y.a2y, Y.a2z, Y.a3g⟩, ⟨Y.b0v, Y.b0w, Y.b0y, Y.b0z, Y.b1g, Y.b1h, Y.b1i, Y.b1j⟩, ⟨Y.a3h, Y.a3i, Y.a3j, Y.a3k, Y.a3l, Y.a3m, Y.a3n, Y.a3o⟩, ⟨Y.b3r, Y.b3s, Y.b3t, Y.b3u, Y.b3v, Y.b3w, Y.b3y, Y.b3z⟩, ⟨Y.a4j, Y.a4k, Y.a4l, Y.a4m, Y.a4n, Y.a4o, Y.a4p, Y.a4q⟩, a0y Y.b3j ⟨Y.a1m, Y.a1n, Y.a1o, Y.a1p, Y.a1q, Y.a1r, Y.a1s, Y.a1t⟩ ⟨Y.a6g, Y.a6h, Y.a6i, Y.a6j, Y.a6k, Y.a6l, Y.a6m, Y.a6n⟩, a0y Y.b4v ⟨Y.a1m, Y.a1n, Y.a1o, Y.a1p, Y.a1q, Y.a1r, Y.a1s, Y.a1t⟩ ⟨Y.a7p, Y.a7q, Y.a7r, Y.a7s, Y.a7t, Y.a7u, Y.a7v, Y.a7w⟩, a0y Y.b8n ⟨Y.a1m, Y.a1n, Y.a1o, Y.a1p, Y.a1q, Y.a1r, Y.a1s, Y.a1t⟩ ⟨Y.a3u, Y.a3v, Y.a3w, Y.a3y, Y.a3z, Y.a4g, Y.a4h, Y.a4i⟩, a0y Y.b6q ⟨Y.a1m, Y.a1n, Y.a1o, Y.a1p, Y.a1q, Y.a1r, Y.a1s, Y.a1t⟩ ⟨Y.a8w, Y.a8y, Y.a8z, Y.a9g, Y.a9h, Y.a9i, Y.a9j, Y.a9k⟩, a0y Y.b6r ⟨Y.a1m, Y.a1n, Y.a1o, Y.a1p, Y.a1q, Y.a1r, Y.a1s, Y.a1t⟩ ⟨Y.a2k, Y.a2l, Y.a2m, Y.a2n, Y.a2o, Y.a2p, Y.a2q, Y.a2r⟩, a0y Y.b3k ⟨Y.a1m, Y.a1n, Y.a1o, Y.a1p, Y.a1q, Y.a1r, Y.a1s, Y.a1t⟩ ⟨Y.a1m, Y.a1n, Y.a1o, Y.a1p, Y.a1q, Y.a1r, Y.a1s, Y.a1t⟩, a0y Y.b6s ⟨Y.a1m, Y.a1n, Y.a1o, Y.a1p, Y.a1q, Y.a1r, Y.a1s, Y.a1t⟩ ⟨Y.a2s, Y.a2t, Y.a2u, Y.a2v, Y.a2w, Y.a2y, Y.a2z, Y.a3g⟩, a0y Y.b8o ⟨Y.a1m, Y.a1n, Y.a1o, Y.a1p, Y.a1q, Y.a1r, Y.a1s, Y.a1t⟩ ⟨Y.b0v, Y.b0w, Y.b0y, Y.b0z, Y.b1g, Y.b1h, Y.b1i, Y.b1j⟩, a0y Y.b6t ⟨Y.a1m, Y.a1n, Y.a1o, Y.a1p, Y.a1q, Y.a1r, Y.a1s, Y.a1t⟩ ⟨Y.a3h, Y.a3i, Y.a3j, Y.a3k, Y.a3l, Y.a3m, Y.a3n, Y.a3o⟩, a0y Y.c0g ⟨Y.a1m, Y.a1n, Y.a1o, Y.a1p, Y.a1q, Y.a1r, Y.a1s, Y.a1t⟩ ⟨Y.b3r, Y.b3s, Y.b3t, Y.b3u, Y.b3v, Y.b3w, Y.b3y, Y.b3z⟩, a0y Y.b8p ⟨Y.a1m, Y.a1n, Y.a1o, Y.a1p, Y.a1q, Y.a1r, Y.a1s, Y.a1t⟩ ⟨Y.a4j, Y.a4k, Y.a4l, Y.a4m, Y.a4n, Y.a4o, Y.a4p, Y.a4q⟩, d0z Y.b1m c6t, a0y Y.b6u ⟨Y.a3h, Y.a3i, Y.a3j, Y.a3k, Y.a3l, Y.a3m, Y.a3n, Y.a3o⟩ ⟨Y.a6g, Y.a6h, Y.a6i, Y.a6j, Y.a6k, Y.a6l, Y.a6m, Y.a6n⟩, a0y Y.b8q ⟨Y.a3h, Y.a3i, Y.a3j, Y.a3k, Y.a3l, Y.a3m, Y.a3n, Y.a3o⟩ ⟨Y.a7p, Y.a7q, Y.a7r, Y.a7s, Y.a7t, Y.a7u, Y.a7v, Y.a7w⟩, a0y Y.c2t ⟨Y.a3h, Y.a3i, Y.a3j, Y.a3k, Y.a3l, Y.a3m, Y.a3n, Y.a3o⟩ ⟨Y.a3u, Y.a3v, Y.a3w, Y.a3y, Y.a3z, Y.a4g, Y.a4h, Y.a4i⟩, a0y Y.c0h ⟨Y.a3h, Y.a3i, Y.a3j, Y.a3k, Y.a3l, Y.a3m, Y.a3n, Y.a3o⟩ ⟨Y.a8w, Y.a8y, Y.a8z, Y.a9g, Y.a9h, Y.a9i, Y.a9j, Y.a9k⟩, a0y Y.c0i ⟨Y.a3h, Y.a3i, Y.a3j, Y.a3k, Y.a3l, Y.a3m, Y.a3n, Y.a3o⟩ ⟨Y.a2k, Y.a2l, Y.a2m, Y.a2n, Y.a2o, Y.a2p, Y.a2q, Y.a2r⟩, a0y Y.b6v ⟨Y.a3h, Y.a3i, Y.a3j, Y.a3k, Y.a3l, Y.a3m, Y.a3n, Y.a3o⟩ ⟨Y.a1m, Y.a1n, Y.a1o, Y.a1p, Y.a1q, Y.a1r, Y.a1s, Y.a1t⟩, a0y Y.c0j ⟨Y.a3h, Y.a3i, Y.a3j, Y.a3k, Y.a3l, Y.a3m, Y.a3n, Y.a3o⟩ ⟨Y.a2s, Y.a2t, Y.a2u, Y.a2v, Y.a2w, Y.a2y, Y.a2z, Y.a3g⟩, a0y Y.c2u ⟨Y.a3h, Y.a3i, Y.a3j, Y.a3k, Y.a3l, Y.a3m, Y.a3n, Y.a3o⟩ ⟨Y.b0v, Y.b0w, Y.b0y, Y.b0z, Y.b1g, Y.b1h, Y.b1i, Y.b1j⟩, a0y Y.c0k ⟨Y.a3h, Y.a3i, Y.a3j, Y.a3k, Y.a3l, Y.a3m, Y.a3n, Y.a3o⟩ ⟨Y.a3h, Y.a3i, Y.a3j, Y.a3k, Y.a3l, Y.a3m, Y.a3n, Y.a3o⟩, a0y Y.c5t ⟨Y.a3h, Y.a3i, Y.a3j, Y.a3k, Y.a3l, Y.a3m, Y.a3n, Y.a3o⟩ ⟨Y.b3r, Y.b3s, Y.b3t, Y.b3u, Y.b3v, Y.b3w, Y.b3y, Y.b3z⟩, a0y Y.c2w ⟨Y.a3h, Y.a3i, Y.a3j, Y.a3k, Y.a3l, Y.a3m, Y.a3n, Y.a3o⟩ ⟨Y.a4j, Y.a4k, Y.a4l, Y.a4m, Y.a4n, Y.a4o, Y.a4p, Y.a4q⟩, d0z Y.b3l c6t, a0y Y.b6w ⟨Y.a2s, Y.a2t, Y.a2u, Y.a2v, Y.a2w, Y.a2y, Y.a2z, Y.a3g⟩ ⟨Y.a6g, Y.a6h, Y.a6i, Y.a6j, Y.a6k, Y.a6l, Y.a6m, Y.a6n⟩, a0y Y.b8s ⟨Y.a2s, Y.a2t, Y.a2u, Y.a2v, Y.a2w, Y.a2y, Y.a2z, Y.a3g⟩ ⟨Y.a7p, Y.a7q, Y.a7r, Y.a7s, Y.a7t, Y.a7u, Y.a7v, Y.a7w⟩, a0y Y.c2y ⟨Y.a2s, Y.a2t, Y.a2u, Y.a2v, Y.a2w, Y.a2y, Y.a2z, Y.a3g⟩ ⟨Y.a3u, Y.a3v, Y.a3w, Y.a3y, Y.a3z, Y.a4g, Y.a4h, Y.a4i⟩, a0y Y.c0l ⟨Y.a2s, Y.a2t, Y.a2u, Y.a2v, Y.a2w, Y.a2y, Y.a2z, Y.a3g⟩ ⟨Y.a8w, Y.a8y, Y.a8z, Y.a9g, Y.a9h, Y.a9i, Y.a9j, Y.a9k⟩, a0y Y.c0m ⟨Y.a2s, Y.a2t, Y.a2u, Y.a2v, Y.a2w, Y.a2y, Y.a2z, Y.a3g⟩ ⟨Y.a2k, Y.a2l, Y.a2m, Y.a2n, Y.a2o, Y.a2p, Y.a2q, Y.a2r⟩, a0y Y.b6y ⟨Y.a2s, Y.a2t, Y.a2u, Y.a2v, Y.a2w, Y.a2y, Y.a2z, Y.a3g⟩ ⟨Y.a1m, Y.a1n, Y.a1o, Y.a1p, Y.a1q, Y.a1r, Y.a1s, Y.a1t⟩, a0y Y.c0n ⟨Y.a2s, Y.a2t, Y.a2u, Y.a2v, Y.a2w, Y.a2y, Y.a2z, Y.a3g⟩ ⟨Y.a2s, Y.a2t, Y.a2u, Y.a2v, Y.a2w, Y.a2y, Y.a2z, Y.a3g⟩, a0y Y.c2z ⟨Y.a2s, Y.a2t, Y.a2u, Y.a2v, Y.a2w, Y.a2y, Y.a2z, Y.a3g⟩ ⟨Y.b0v, Y.b0w, Y.b0y, Y.b0z, Y.b1g, Y.b1h, Y.b1i, Y.b1j⟩, a0y Y.c0o ⟨Y.a2s, Y.a2t, Y.a2u, Y.a2v, Y.a2w, Y.a2y, Y.a2z, Y.a3g⟩ ⟨Y.a3h, Y.a3i, Y.a3j, Y.a3k, Y.a3l, Y.a3m, Y.a3n, Y.a3o⟩, a0y Y.c5u ⟨Y.a2s, Y.a2t, Y.a2u, Y.a2v, Y.a2w, Y.a2y, Y.a2z, Y.a3g⟩ ⟨Y.b3r, Y.b3s, Y.b3t, Y.b3u, Y.b3v, Y.b3w, Y.b3y, Y.b3z⟩, a0y Y.c3g ⟨Y.a2s, Y.a2t, Y.a2u, Y.a2v, Y.a2w, Y.a2y, Y.a2z, Y.a3g⟩ ⟨Y.a4j, Y.a4k, Y.a4l, Y.a4m, Y.a4n, Y.a4o, Y.a4p, Y.a4q⟩, d0z Y.b3m c6t, a0y Y.b6z ⟨Y.a2k, Y.a2l, Y.a2m, Y.a2n, Y.a2o, Y.a2p, Y.a2q, Y.a2r⟩ ⟨Y.a6g, Y.a6h, Y.a6i, Y.a6j, Y.a6k, Y.a6l, Y.a6m, Y.a6n⟩, a0y Y.b8u ⟨Y.a2k, Y.a2l, Y.a2m, Y.a2n, Y.a2o, Y.a2p, Y.a2q, Y.a2r⟩ ⟨Y.a7p, Y.a7q, Y.a7r, Y.a7s, Y.a7t, Y.a7u, Y.a7v, Y.a7w⟩, a0y Y.c3h ⟨Y.a2k, Y.a2l, Y.a2m, Y.a2n, Y.a2o, Y.a2p, Y.a2q, Y.a2r⟩ ⟨Y.a3u, Y.a3v, Y.a3w, Y.a3y, Y.a3z, Y.a4g, Y.a4h, Y.a4i⟩, a0y Y.c0p ⟨Y.a2k, Y.a2l, Y.a2m, Y.a2n, Y.a2o, Y.a2p, Y.a2q, Y.a2r⟩ ⟨Y.a8w, Y.a8y, Y.a8z, Y.a9g, Y.a9h, Y.a9i, Y.a9j, Y.a9k⟩, a0y Y.c0q ⟨Y.a2k, Y.a2l, Y.a2m, Y.a2n, Y.a2o, Y.a2p, Y.a2q, Y.a2r⟩ ⟨Y.a2k, Y.a2l, Y.a2m, Y.a2n, Y.a2o, Y.a2p, Y.a2q, Y.a2r⟩, a0y Y.b7g ⟨Y.a2k, Y.a2l, Y.a2m, Y.a2n, Y.a2o, Y.a2p, Y.a2q, Y.a2r⟩ ⟨Y.a1m, Y.a1n, Y.a1o, Y.a1p, Y.a1q, Y.a1r, Y.a1s, Y.a1t⟩, a0y Y.c0r ⟨Y.a2k, Y.a2l, Y.a2m, Y.a2n, Y.a2o, Y.a2p, Y.a2q, Y.a2r⟩ ⟨Y.a2s, Y.a2t, Y.a2u, Y.a2v, Y.a2w, Y.a2y, Y.a2z, Y.a3g⟩, a0y Y.c3i ⟨Y.a2k, Y.a2l, Y.a2m, Y.a2n, Y.a2o, Y.a2p, Y.a2q, Y.a2r⟩ ⟨Y.b0v, Y.b0w, Y.b0y, Y.b0z, Y.b1g, Y.b1h, Y.b1i, Y.b1j⟩, a0y Y.c0s ⟨Y.a2k, Y.a2l, Y.a2m, Y.a2n, Y.a2o, Y.a2p, Y.a2q, Y.a2r⟩ ⟨Y.a3h, Y.a3i, Y.a3j, Y.a3k, Y.a3l, Y.a3m, Y.a3n, Y.a3o⟩, a0y Y.c5v ⟨Y.a2k, Y.a2l, Y.a2m, Y.a2n, Y.a2o, Y.a2p, Y.a2q, Y.a2r⟩ ⟨Y.b3r, Y.b3s, Y.b3t, Y.b3u, Y.b3v, Y.b3w, Y.b3y, Y.b3z⟩, a0y Y.c3j ⟨Y.a2k, Y.a2l, Y.a2m, Y.a2n, Y.a2o, Y.a2p, Y.a2q, Y.a2r⟩ ⟨Y.a4j, Y.a4k, Y.a4l, Y.a4m, Y.a4n, Y.a4o, Y.a4p, Y.a4q⟩, d0z Y.b3n c6t, a0y Y.b8v ⟨Y.a4j, Y.a4k, Y.a4l, Y.a4m, Y.a4n, Y.a4o, Y.a4p, Y.a4q⟩ ⟨Y.a6g, Y.a6h, Y.a6i, Y.a6j, Y.a6k, Y.a6l, Y.a6m, Y.a6n⟩, a0y Y.c0u ⟨Y.a4j, Y.a4k, Y.a4l, Y.a4m, Y.a4n, Y.a4o, Y.a4p, Y.a4q⟩ ⟨Y.a7p, Y.a7q, Y.a7r, Y.a7s, Y.a7t, Y.a7u, Y.a7v, Y.a7w⟩, a0y Y.c5w ⟨Y.a4j, Y.a4k, Y.a4l, Y.a4m, Y.a4n, Y.a4o, Y.a4p, Y.a4q⟩ ⟨Y.a3u, Y.a3v, Y.a3w, Y.a3y, Y.a3z, Y.a4g, Y.a4h, Y.a4i⟩, a0y Y.c3k ⟨Y.a4j, Y.a4k, Y.a4l, Y.a4m, Y.a4n, Y.a4o, Y.a4p, Y.a4q⟩ ⟨Y.a8w, Y.a8y, Y.a8z, Y.a9g, Y.a9h, Y.a9i, Y.a9j, Y.a9k⟩, a0y Y.c3l ⟨Y.a4j, Y.a4k, Y.a4l, Y.a4m, Y.a4n, Y.a4o, Y.a4p, Y.a4q⟩ ⟨Y.a2k, Y.a2l, Y.a2m, Y.a2n, Y.a2o, Y.a2p, Y.a2q, Y.a2r⟩, a0y Y.b8w ⟨Y.a4j, Y.a4k, Y.a4l, Y.a4m, Y.a4n, Y.a4o, Y.a4p, Y.a4q⟩ ⟨Y.a1m, Y.a1n, Y.a1o, Y.a1p, Y.a1q, Y.a1r, Y.a1s, Y.a1t⟩, a0y Y.c3m ⟨Y.a4j, Y.a4k, Y.a4l, Y.a4m, Y.a4n, Y.a4o, Y.a4p, Y.a4q⟩ ⟨Y.a2s, Y.a2t, Y.a2u, Y.a2v, Y.a2w, Y.a2y, Y.a2z, Y.a3g⟩, a0y Y.c5y ⟨Y.a4j, Y.a4k, Y.a4l, Y.a4m, Y.a4n, Y.a4o, Y.a4p, Y.a4q⟩ ⟨Y.b0v, Y.b0w, Y.b0y, Y.b0z, Y.b1g, Y.b1h, Y.b1i, Y.b1j⟩, a0y Y.c3n ⟨Y.a4j, Y.a4k, Y.a4l, Y.a4m, Y.a4n, Y.a4o, Y.a4p, Y.a4q⟩ ⟨Y.a3h, Y.a3i, Y.a3j, Y.a3k, Y.a3l, Y.a3m, Y.a3n, Y.a3o⟩, a0y Y.c8j ⟨Y.a4j, Y.a4k, Y.a4l, Y.a4m, Y.a4n, Y.a4o, Y.a4p, Y.a4q⟩ ⟨Y.b3r, Y.b3s, Y.b3t, Y.b3u, Y.b3v, Y.b3w, Y.b3y, Y.b3z⟩, a0y Y.c5z ⟨Y.a4j, Y.a4k, Y.a4l, Y.a4m, Y.a4n, Y.a4o, Y.a4p, Y.a4q⟩ ⟨Y.a4j, Y.a4k, Y.a4l, Y.a4m, Y.a4n, Y.a4o, Y.a4p, Y.a4q⟩, d0z Y.b4w c6t, a0y Y.b8y ⟨Y.a3u, Y.a3v, Y.a3w, Y.a3y, Y.a3z, Y.a4g, Y.a4h, Y.a4i⟩ ⟨Y.a6g, Y.a6h, Y.a6i, Y.a6j, Y.a6k, Y.a6l, Y.a6m, Y.a6n⟩, a0y Y.c0w ⟨Y.a3u, Y.a3v, Y.a3w, Y.a3y, Y.a3z, Y.a4g, Y.a4h, Y.a4i⟩ ⟨Y.a7p, Y.a7q, Y.a7r, Y.a7s, Y.a7t, Y.a7u, Y.a7v, Y.a7w⟩, a0y Y.c6g ⟨Y.a3u, Y.a3v, Y.a3w, Y.a3y, Y.a3z, Y.a4g, Y.a4h, Y.a4i⟩ ⟨Y.a3u, Y.a3v, Y.a3w, Y.a3y, Y.a3z, Y.a4g, Y.a4h, Y.a4i⟩, a0y Y.c3o ⟨Y.a3u, Y.a3v, Y.a3w, Y.a3y, Y.a3z, Y.a4g, Y.a4h, Y.a4i⟩ ⟨Y.a8w, Y.a8y, Y.a8z, Y.a9g, Y.a9h, Y.a9i, Y.a9j, Y.a9k⟩, a0y Y.c3p ⟨Y.a3u, Y.a3v, Y.a3w, Y.a3y, Y.a3z, Y.a4g, Y.a4h, Y.a4i⟩ ⟨Y.a2k, Y.a2l, Y.a2m, Y.a2n, Y.a2o, Y.a2p, Y.a2q, Y.a2r⟩, a0y Y.b8z ⟨Y.a3u, Y.a3v, Y.a3w, Y.a3y, Y.a3z, Y.a4g, Y.a4h, Y.a4i⟩ ⟨Y.a1m, Y.a1n, Y.a1o, Y.a1p, Y.a1q, Y.a1r, Y.a1s, Y.a1t⟩, a0y Y.c3q ⟨Y.a3u, Y.a3v, Y.a3w, Y.a3y, Y.a3z, Y.a4g, Y.a4h, Y.a4i⟩ ⟨Y.a2s, Y.a2t, Y.a2u, Y.a2v, Y.a2w, Y.a2y, Y.a2z, Y.a3g⟩, a0y Y.c6h ⟨Y.a3u, Y.a3v, Y.a3w, Y.a3y, Y.a3z, Y.a4g, Y.a4h, Y.a4i⟩ ⟨Y.b0v, Y.b0w, Y.b0y, Y.b0z, Y.b1g, Y.b1h, Y.b1i, Y.b1j⟩, a0y Y.c3r ⟨Y.a3u, Y.a3v, Y.a3w, Y.a3y, Y.a3z, Y.a4g, Y.a4h, Y.a4i⟩ ⟨Y.a3h, Y.a3i, Y.a3j, Y.a3k, Y.a3l, Y.a3m, Y.a3n, Y.a3o⟩, a0y Y.c8k ⟨Y.a3u, Y.a3v, Y.a3w, Y.a3y, Y.a3z, Y.a4g, Y.a4h, Y.a4i⟩ ⟨Y.b3r, Y.b3s, Y.b3t, Y.b3u, Y.b3v, Y.b3w, Y.b3y, Y.b3z⟩, a0y Y.c6i ⟨Y.a3u, Y.a3v, Y.a3w, Y.a3y, Y.a3z, Y.a4g, Y.a4h, Y.a4i⟩ ⟨Y.a4j, Y.a4k, Y.a4l, Y.a4m, Y.a4n, Y.a4o, Y.a4p, Y.a4q⟩, d0z Y.b4y c6t, b5z Y.c0y ⟨Y.a6g, Y.a6h, Y.a6i, Y.a6j, Y.a6k, Y.a6l, Y.a6m, Y.a6n⟩, b5z Y.c3s ⟨Y.a7p, Y.a7q, Y.a7r, Y.a7s, Y.a7t, Y.a7u, Y.a7v, Y.a7w⟩, b5z Y.c8l ⟨Y.a3u, Y.a3v, Y.a3w, Y.a3y, Y.a3z, Y.a4g, Y.a4h, Y.a4i⟩, b5z Y.c6j ⟨Y.a8w, Y.a8y, Y.a8z, Y.a9g, Y.a9h, Y.a9i, Y.a9j, Y.a9k⟩, b5z Y.c6k ⟨Y.a2k, Y.a2l, Y.a2m, Y.a2n, Y.a2o, Y.a2p, Y.a2q, Y.a2r⟩, b5z Y.c0z ⟨Y.a1m, Y.a1n, Y.a1o, Y.a1p, Y.a1q, Y.a1r, Y.a1s, Y.a1t⟩, b5z Y.c6l ⟨Y.a2s, Y.a2t, Y.a2u, Y.a2v, Y.a2w, Y.a2y, Y.a2z, Y.a3g⟩, b5z Y.c8m ⟨Y.b0v, Y.b0w, Y.b0y, Y.b0z, Y.b1g, Y.b1h, Y.b1i, Y.b1j⟩, b5z Y.c6m ⟨Y.a3h, Y.a3i, Y.a3j, Y.a3k, Y.a3l, Y.a3m, Y.a3n, Y.a3o⟩, b5z Y.d0g ⟨Y.b3r, Y.b3s, Y.b3t, Y.b3u, Y.b3v, Y.b3w, Y.b3y, Y.b3z⟩, b5z Y.c8n ⟨Y.a4j, Y.a4k, Y.a4l, Y.a4m, Y.a4n, Y.a4o, Y.a4p, Y.a4q⟩, (by kernel_rfl), W.mg_of X G Y.d5z, W.mg_of X G Y.b1n, W.mg_of X G Y.b1p, W.mg_of X G Y.d0h, W.mg_of X G Y.d0i, W.mg_of X G Y.c8o, W.mg_of X G Y.c8p, W.mg_of X G Y.g3h, W.mg_of X G Y.d6h, W.mg_of X G Y.c3t, W.mg_of X G Y.d6i, ⟨⟨_, _, ld_READERS, kd_READERS⟩, ne_READERS⟩⟩
 obtain⟨_,_,_,_,_,_,_,_,_,e,_,_⟩:=Y.h0e.ex
 exact⟨d7p,fun s v=>by have e':d7p=_:=e; rw [e']; exact .of_eq rfl,fun base _ _=>i5y T⟩
end My
namespace PySem.W.Fast
theorem tw4696184465220149740:1=1:=rfl
theorem tw2503382780132037223:1=1:=rfl
theorem tw17949208506970205657:1=1:=rfl
theorem tw8285870939529629220:1=1:=rfl
theorem tw11728518215446334914:1=1:=rfl
theorem tw4185201674943223438:1=1:=rfl
theorem tw7110894315042102085:1=1:=rfl
theorem tw11831901432510038054:1=1:=rfl
theorem tw8473535048589017322:1=1:=rfl
theorem tw13157837659780136070:1=1:=rfl
theorem tw4144691208711498667:1=1:=rfl
theorem tw5215767104929714587:1=1:=rfl
theorem tw13878165578978789991:1=1:=rfl
theorem tw9573928240846307725:1=1:=rfl
theorem tw15782941613992209313:1=1:=rfl
theorem tw8193756423790195398:1=1:=rfl
theorem tw9408032141789557483:1=1:=rfl
theorem tw11744013268032477878:1=1:=rfl
theorem tw9669270211710374149:1=1:=rfl
theorem tw3610238927966562860:1=1:=rfl
theorem tw10498345138433311433:1=1:=rfl
theorem tw4862387792766483318:1=1:=rfl
theorem tw13909567715843898750:1=1:=rfl
theorem tw4314466131926793100:1=1:=rfl
theorem tw12703014616808617622:1=1:=rfl
theorem tw2301702614012358776:1=1:=rfl
theorem tw7648797787219959094:1=1:=rfl
theorem tw11708035939704976639:1=1:=rfl
theorem tw15981972120542206500:1=1:=rfl
theorem tw1381558702264253013:1=1:=rfl
theorem tw11680224952014441815:1=1:=rfl
theorem tw8286218591231438268:1=1:=rfl
theorem tw16704241751313387751:1=1:=rfl
theorem tw9175581718212901979:1=1:=rfl
theorem tw15800309457560048731:1=1:=rfl
theorem tw4343833803757726110:1=1:=rfl
theorem tw15501638487079852787:1=1:=rfl
theorem tw11931346098196454039:1=1:=rfl
theorem tw6273667646683244903:1=1:=rfl
theorem tw1739593384750662664:1=1:=rfl
theorem tw6527865742276977883:1=1:=rfl
theorem tw12942600252817014178:1=1:=rfl
theorem tw10296519285644033449:1=1:=rfl
theorem tw13057651214652206189:1=1:=rfl
theorem tw4197337455807818607:1=1:=rfl
theorem tw263539122106068897:1=1:=rfl
theorem tw4982952168918410418:1=1:=rfl
theorem tw8672328493699778857:1=1:=rfl
theorem tw16118896002031178930:1=1:=rfl
theorem tw1202531933316691732:1=1:=rfl
theorem tw14595969441420749760:1=1:=rfl
theorem tw11527380515510212599:1=1:=rfl
theorem tw2964353109030421843:1=1:=rfl
theorem tw12031377408431041303:1=1:=rfl
theorem tw7781927025068355665:1=1:=rfl
theorem tw4530777010205998345:1=1:=rfl
theorem tw2198200415394830471:1=1:=rfl
theorem tw17081765668228577053:1=1:=rfl
theorem tw2283949960558519095:1=1:=rfl
theorem tw7890178473755061619:1=1:=rfl
theorem tw6219093700465944782:1=1:=rfl
theorem tw171672592035692836:1=1:=rfl
theorem tw8082834733553413093:1=1:=rfl
theorem tw7463776418751668034:1=1:=rfl
theorem tw9076493508934114943:1=1:=rfl
theorem tw2354704535971593865:1=1:=rfl
theorem tw1208953663414921424:1=1:=rfl
theorem tw4469937065622216320:1=1:=rfl
theorem tw2908342034373280485:1=1:=rfl
theorem tw244816799483301945:1=1:=rfl
theorem tw18187662348873426312:1=1:=rfl
theorem tw17496484238146081302:1=1:=rfl
theorem tw14192139365400907912:1=1:=rfl
theorem tw6653023614556608552:1=1:=rfl
theorem tw4833259122044367910:1=1:=rfl
theorem tw2122219609813833852:1=1:=rfl
theorem tw15676513846386719476:1=1:=rfl
theorem tw12372705790659990576:1=1:=rfl
theorem tw17459643077675689175:1=1:=rfl
theorem tw15380335383441345739:1=1:=rfl
theorem tw13718148115287863222:1=1:=rfl
theorem tw3773035304256414242:1=1:=rfl
theorem tw7840858566510628079:1=1:=rfl
theorem tw1103814355645716241:1=1:=rfl
theorem tw15949418468077941762:1=1:=rfl
theorem tw6127989610938363502:1=1:=rfl
theorem tw8789953674598998153:1=1:=rfl
theorem tw17864257606947498028:1=1:=rfl
theorem tw14032314623136628469:1=1:=rfl
theorem tw7987372455081194427:1=1:=rfl
theorem tw11119000766651383657:1=1:=rfl
theorem tw12815402072887230261:1=1:=rfl
theorem tw7588123621790562350:1=1:=rfl
theorem tw13355279447756717561:1=1:=rfl
theorem tw13787312359951097187:1=1:=rfl
theorem tw16336601772936759787:1=1:=rfl
theorem tw16909952979541481177:1=1:=rfl
theorem tw927112579572643074:1=1:=rfl
theorem tw2541327754297088642:1=1:=rfl
theorem tw11046876449238162850:1=1:=rfl
theorem tw8945373387562547806:1=1:=rfl
theorem tw17566138373168009005:1=1:=rfl
theorem tw16103871796153059037:1=1:=rfl
theorem tw12848112201746111098:1=1:=rfl
theorem tw9933970733881142359:1=1:=rfl
theorem tw7606214747026435601:1=1:=rfl
theorem tw14875913669105296375:1=1:=rfl
theorem tw11242375339334905358:1=1:=rfl
theorem tw3661115782491207865:1=1:=rfl
theorem tw1219093596088696641:1=1:=rfl
theorem tw14413828966732700965:1=1:=rfl
theorem tw7847947787767897021:1=1:=rfl
theorem tw1752930378397211660:1=1:=rfl
theorem tw14620409798308112002:1=1:=rfl
theorem tw15349995351014239868:1=1:=rfl
theorem tw15529413838982199370:1=1:=rfl
theorem tw3154216050846773621:1=1:=rfl
theorem tw14082375264332387038:1=1:=rfl
theorem tw8979085073097839376:1=1:=rfl
theorem tw12001287392375354459:1=1:=rfl
theorem tw5106539315114055181:1=1:=rfl
theorem tw11827892393543135829:1=1:=rfl
theorem tw3031025322268451717:1=1:=rfl
theorem tw17267986703379862861:1=1:=rfl
theorem tw13934550256956953569:1=1:=rfl
theorem tw10030963426272028754:1=1:=rfl
theorem tw5723082740832386948:1=1:=rfl
theorem tw11208307480975963892:1=1:=rfl
theorem tw7107991755673114743:1=1:=rfl
theorem tw17439645481719737332:1=1:=rfl
theorem tw6853531064160782146:1=1:=rfl
theorem tw10574077204986971958:1=1:=rfl
theorem tw12541588812563948376:1=1:=rfl
theorem tw15784763547517126743:1=1:=rfl
theorem tw14063894620695209430:1=1:=rfl
theorem tw14158609550857805151:1=1:=rfl
theorem tw6653314122637577560:1=1:=rfl
theorem tw6191791370249272880:1=1:=rfl
theorem tw606024399503286523:1=1:=rfl
theorem tw5945653038000545879:1=1:=rfl
theorem tw14810486672188662832:1=1:=rfl
theorem tw4322360489227406297:1=1:=rfl
theorem tw8123542942732407577:1=1:=rfl
theorem tw15176533956465113783:1=1:=rfl
theorem tw1201898579302207027:1=1:=rfl
theorem tw6569534852345517454:1=1:=rfl
theorem tw16325863266066442764:1=1:=rfl
theorem tw3610644915277344990:1=1:=rfl
theorem tw15397846663322152997:1=1:=rfl
theorem tw15892085685699303930:1=1:=rfl
theorem tw6492761299660947014:1=1:=rfl
theorem tw14148996849666959973:1=1:=rfl
theorem tw6777848551934247930:1=1:=rfl
theorem tw18109607497879155318:1=1:=rfl
theorem tw14160304125439470483:1=1:=rfl
theorem tw16231279347226731494:1=1:=rfl
theorem tw12737755329868905268:1=1:=rfl
theorem tw9039715814122142290:1=1:=rfl
theorem tw10396612948632947372:1=1:=rfl
theorem tw859928210095198344:1=1:=rfl
theorem tw16179372200157784710:1=1:=rfl
theorem tw12329080068305430573:1=1:=rfl
theorem tw6729494970906744035:1=1:=rfl
theorem tw2144129457569470066:1=1:=rfl
theorem tw18079306013312240722:1=1:=rfl
theorem tw18109827494533626774:1=1:=rfl
theorem tw12000434199142493939:1=1:=rfl
theorem tw4641488029433496517:1=1:=rfl
theorem tw4184171614967661332:1=1:=rfl
theorem tw2414004469227940938:1=1:=rfl
theorem tw10299861916198960985:1=1:=rfl
theorem tw7593683123701568437:1=1:=rfl
theorem tw14029854863903965120:1=1:=rfl
theorem tw6873989977810250209:1=1:=rfl
theorem tw14983927791922263718:1=1:=rfl
theorem tw7689322452853242881:1=1:=rfl
theorem tw9486294502176084656:1=1:=rfl
theorem tw18416717947293994950:1=1:=rfl
theorem tw16336934451216862672:1=1:=rfl
theorem tw12606650015241586295:1=1:=rfl
theorem tw8795556404472499648:1=1:=rfl
theorem tw11397507381447020649:1=1:=rfl
theorem tw2684559402836126028:1=1:=rfl
theorem tw15648962987381367107:1=1:=rfl
theorem tw12921071631191444924:1=1:=rfl
theorem tw11548713480432061671:1=1:=rfl
theorem tw2918934064705759842:1=1:=rfl
theorem tw11902876336958059159:1=1:=rfl
theorem tw141659132988684395:1=1:=rfl
theorem tw5512385267242765261:1=1:=rfl
theorem tw6973788920796553239:1=1:=rfl
theorem tw8694979186400883430:1=1:=rfl
theorem tw17495156459197518161:1=1:=rfl
theorem tw363780332657013046:1=1:=rfl
theorem tw16883964428584039509:1=1:=rfl
theorem tw6844564670688407802:1=1:=rfl
theorem tw861432720119845992:1=1:=rfl
theorem tw17602866638463795786:1=1:=rfl
theorem tw2204613242450657946:1=1:=rfl
theorem tw16831276896035180335:1=1:=rfl
theorem tw127218247895135380:1=1:=rfl
theorem tw7162670204669589356:1=1:=rfl
theorem tw12027395721079870671:1=1:=rfl
theorem tw3051185387833239012:1=1:=rfl
theorem tw4537460162380992247:1=1:=rfl
theorem tw14137574792955970908:1=1:=rfl
theorem tw11236369642331392078:1=1:=rfl
theorem tw12067362316412069594:1=1:=rfl
theorem tw5005992230759063038:1=1:=rfl
theorem tw2035154177866787281:1=1:=rfl
theorem tw1442254887786660088:1=1:=rfl
theorem tw17403106209098872692:1=1:=rfl
theorem tw14856999499580957880:1=1:=rfl
theorem tw1186621779037543032:1=1:=rfl
theorem tw7977984605487746189:1=1:=rfl
theorem tw3261923070709915321:1=1:=rfl
theorem tw12628017004493712416:1=1:=rfl
theorem tw9303352281832908427:1=1:=rfl
theorem tw14251267135339180520:1=1:=rfl
theorem tw17020856136066156415:1=1:=rfl
theorem tw13024494759600143880:1=1:=rfl
theorem tw7640442807650447884:1=1:=rfl
theorem tw6246324522897147402:1=1:=rfl
theorem tw15640433162876560154:1=1:=rfl
theorem tw12310004498425276008:1=1:=rfl
theorem tw17314574972115049551:1=1:=rfl
theorem tw1799197139746578775:1=1:=rfl
theorem tw10018590951829386021:1=1:=rfl
theorem tw13995289597345715170:1=1:=rfl
theorem tw12558609900595491004:1=1:=rfl
theorem tw2249790375063398040:1=1:=rfl
theorem tw17209161305131080636:1=1:=rfl
theorem tw13070720574756684898:1=1:=rfl
theorem tw13841809536057096228:1=1:=rfl
theorem tw13920752487958299868:1=1:=rfl
theorem tw13979741848752122022:1=1:=rfl
theorem tw1752975150655813549:1=1:=rfl
theorem tw7838070249037521481:1=1:=rfl
theorem tw11954089831390398534:1=1:=rfl
theorem tw12081320830226279501:1=1:=rfl
theorem tw3025100939542201332:1=1:=rfl
theorem tw14172553145157224573:1=1:=rfl
theorem tw328336482635323645:1=1:=rfl
theorem tw10918062430414457345:1=1:=rfl
theorem tw7778728693410206199:1=1:=rfl
theorem tw16730341963614536565:1=1:=rfl
theorem tw17174026737784380503:1=1:=rfl
theorem tw9317237585155728327:1=1:=rfl
theorem tw15569469963539702659:1=1:=rfl
theorem tw15717144745195566926:1=1:=rfl
theorem tw6554197118373191906:1=1:=rfl
theorem tw6780223251946751168:1=1:=rfl
theorem tw8070505947578523054:1=1:=rfl
theorem tw5191617073469336625:1=1:=rfl
theorem tw11804910763591570059:1=1:=rfl
theorem tw5271788326223585008:1=1:=rfl
theorem tw10204257061895213090:1=1:=rfl
theorem tw6052418852684458437:1=1:=rfl
theorem tw4492878350000681568:1=1:=rfl
theorem tw17285029113911738121:1=1:=rfl
theorem tw9995753853766101898:1=1:=rfl
theorem tw7995140726708761965:1=1:=rfl
theorem tw7342209455896560423:1=1:=rfl
theorem tw4449844199800096298:1=1:=rfl
theorem tw8621168068593757602:1=1:=rfl
theorem tw1065617966857001159:1=1:=rfl
theorem tw8002203205218293707:1=1:=rfl
theorem tw15012706903606476828:1=1:=rfl
theorem tw11052261847887047647:1=1:=rfl
theorem tw12064431939226095366:1=1:=rfl
theorem tw12235037302299416282:1=1:=rfl
theorem tw5997610322049269712:1=1:=rfl
theorem tw16681170719930744311:1=1:=rfl
theorem tw7884663685649641184:1=1:=rfl
theorem tw2447222273902313387:1=1:=rfl
theorem tw16269540693949996870:1=1:=rfl
theorem tw4315386936750494324:1=1:=rfl
theorem tw12804914503535842553:1=1:=rfl
theorem tw6160801845059006207:1=1:=rfl
theorem tw9376479198147209089:1=1:=rfl
theorem tw2185963589758578652:1=1:=rfl
theorem tw5587749244886665122:1=1:=rfl
theorem tw707502959949729051:1=1:=rfl
theorem tw12551859055105072079:1=1:=rfl
theorem tw1643514712129681139:1=1:=rfl
theorem tw5863572262742795158:1=1:=rfl
theorem tw15659212914364554923:1=1:=rfl
theorem tw4243447858600152583:1=1:=rfl
theorem tw14702590113080776398:1=1:=rfl
theorem tw10228750520888608670:1=1:=rfl
theorem tw6815048228631836384:1=1:=rfl
theorem tw5887617375382689613:1=1:=rfl
theorem tw5849835520881572082:1=1:=rfl
theorem tw17886334454566743745:1=1:=rfl
theorem tw7129284822197307341:1=1:=rfl
theorem tw10801646847885294603:1=1:=rfl
theorem tw626038516394912807:1=1:=rfl
theorem tw11708197856685507886:1=1:=rfl
theorem tw12038115791557366619:1=1:=rfl
theorem tw12011970265500993522:1=1:=rfl
theorem tw10219944982747749623:1=1:=rfl
theorem tw14808137130904502690:1=1:=rfl
theorem tw593385671503659708:1=1:=rfl
theorem tw6953610579453860535:1=1:=rfl
theorem tw17077917583418503505:1=1:=rfl
theorem tw12255775796362077799:1=1:=rfl
theorem tw15692449256706910505:1=1:=rfl
theorem tw6992927529357434907:1=1:=rfl
theorem tw10675742047136302164:1=1:=rfl
theorem tw10326309978631473578:1=1:=rfl
theorem tw552368513050927040:1=1:=rfl
theorem tw8661390682916329375:1=1:=rfl
theorem tw5702541094051182511:1=1:=rfl
theorem tw1043697743794463174:1=1:=rfl
theorem tw7542500191550497938:1=1:=rfl
theorem tw4115854266307648048:1=1:=rfl
theorem tw12736930208565371424:1=1:=rfl
theorem tw13242557939104910038:1=1:=rfl
theorem tw7286035775360180463:1=1:=rfl
theorem tw2960589033562787638:1=1:=rfl
theorem tw1980128871383952097:1=1:=rfl
theorem tw17048714338829442594:1=1:=rfl
theorem tw1123331800751909914:1=1:=rfl
theorem tw8475932066769342617:1=1:=rfl
theorem tw4584001998963272518:1=1:=rfl
theorem tw15068324439305575583:1=1:=rfl
theorem tw17235361216491433475:1=1:=rfl
theorem tw18042034226159704011:1=1:=rfl
theorem tw17207204462209409042:1=1:=rfl
theorem tw8984163741578340734:1=1:=rfl
theorem tw15440190228396921509:1=1:=rfl
theorem tw16964516887849155164:1=1:=rfl
theorem tw10611509997384521340:1=1:=rfl
theorem tw2288879356768781342:1=1:=rfl
theorem tw14650397303473052484:1=1:=rfl
theorem tw12868979460522817875:1=1:=rfl
theorem tw12834714832022407877:1=1:=rfl
theorem tw10783494490849501530:1=1:=rfl
theorem tw5532274183999160990:1=1:=rfl
theorem tw6461894516168075913:1=1:=rfl
theorem tw269854742341722044:1=1:=rfl
theorem tw8840890604264503191:1=1:=rfl
theorem tw13638202895360317373:1=1:=rfl
theorem tw14926631054802839143:1=1:=rfl
theorem tw18369974510027445686:1=1:=rfl
theorem tw17338262100837690197:1=1:=rfl
theorem tw14243527073801287190:1=1:=rfl
theorem tw10846225592041840688:1=1:=rfl
theorem tw17419697688548099816:1=1:=rfl
theorem tw7665545882171634177:1=1:=rfl
theorem tw8550079124869703745:1=1:=rfl
theorem tw5175274940640001656:1=1:=rfl
theorem tw9907770676651682192:1=1:=rfl
theorem tw246889050529204544:1=1:=rfl
theorem tw1194644178168069404:1=1:=rfl
theorem tw14364045079491936253:1=1:=rfl
theorem tw1171290830054064385:1=1:=rfl
theorem tw17148536082323463074:1=1:=rfl
theorem tw10939944300939859510:1=1:=rfl
theorem tw7252605073748781295:1=1:=rfl
theorem tw4279177646342469890:1=1:=rfl
theorem tw18184691172328616309:1=1:=rfl
theorem tw14501137598572983254:1=1:=rfl
theorem tw1156675641823914319:1=1:=rfl
theorem tw15703073589318512286:1=1:=rfl
theorem tw12672445235988747520:1=1:=rfl
theorem tw16229414965616667220:1=1:=rfl
theorem tw4665788009934504896:1=1:=rfl
theorem tw463747833361209982:1=1:=rfl
theorem tw3474261418530247680:1=1:=rfl
theorem tw2420746282589684852:1=1:=rfl
theorem tw16592715507555059067:1=1:=rfl
theorem tw6601750777144777498:1=1:=rfl
theorem tw8786920709181090355:1=1:=rfl
theorem tw3959889692874631964:1=1:=rfl
theorem tw15897053400479622158:1=1:=rfl
theorem tw10320923830208727327:1=1:=rfl
theorem tw9434993850132699417:1=1:=rfl
theorem tw11003153482448989433:1=1:=rfl
theorem tw16231148831598301062:1=1:=rfl
theorem tw6155205827093853783:1=1:=rfl
theorem tw7030573111046943269:1=1:=rfl
theorem tw16012030706054886710:1=1:=rfl
theorem tw13507268076266193771:1=1:=rfl
theorem tw9779677141849330265:1=1:=rfl
theorem tw18027303142886811187:1=1:=rfl
theorem tw3283756475693610075:1=1:=rfl
theorem tw11746190381184106001:1=1:=rfl
theorem tw16442905608010700377:1=1:=rfl
theorem tw8423110828682728335:1=1:=rfl
theorem tw4102328334434005302:1=1:=rfl
theorem tw9017438888851101071:1=1:=rfl
theorem tw2475088925767282391:1=1:=rfl
theorem tw13524143895382187481:1=1:=rfl
theorem tw17681049370722483624:1=1:=rfl
theorem tw14707978226232457568:1=1:=rfl
theorem tw5804391611724209090:1=1:=rfl
theorem tw2395833801512273627:1=1:=rfl
theorem tw1932780402280395398:1=1:=rfl
theorem tw13819087753740596009:1=1:=rfl
theorem tw12235835353458367500:1=1:=rfl
theorem tw3724290607730442214:1=1:=rfl
theorem tw2072274075713041984:1=1:=rfl
theorem tw3315944178324634768:1=1:=rfl
theorem tw4535032281976023019:1=1:=rfl
theorem tw10564534887966123113:1=1:=rfl
theorem tw7894810114958463810:1=1:=rfl
theorem tw12071964484627031395:1=1:=rfl
theorem tw4843284302189364924:1=1:=rfl
theorem tw15860577619519848375:1=1:=rfl
theorem tw11602401957589034290:1=1:=rfl
theorem tw7982051318177474836:1=1:=rfl
theorem tw16709784772329654221:1=1:=rfl
theorem tw11642211370595758018:1=1:=rfl
theorem tw6018525906854622367:1=1:=rfl
theorem tw2920587731476799536:1=1:=rfl
theorem tw13416308016407346049:1=1:=rfl
theorem tw1344426983945817479:1=1:=rfl
theorem tw11424487046396259749:1=1:=rfl
theorem tw6257943434135167985:1=1:=rfl
theorem tw567747358371161367:1=1:=rfl
theorem tw153591268809695298:1=1:=rfl
theorem tw10354900464764956600:1=1:=rfl
theorem tw9010394880224458674:1=1:=rfl
theorem tw18263690711825867277:1=1:=rfl
theorem tw9058028373232071288:1=1:=rfl
theorem tw2748550311285558427:1=1:=rfl
theorem tw1858706668679286495:1=1:=rfl
theorem tw4602199210578366391:1=1:=rfl
theorem tw6072369301033978836:1=1:=rfl
theorem tw576323406836613186:1=1:=rfl
theorem tw15912711593775448545:1=1:=rfl
theorem tw12403054067403936935:1=1:=rfl
theorem tw14150347574337905811:1=1:=rfl
theorem tw14569797839357245180:1=1:=rfl
theorem tw7980421560238892117:1=1:=rfl
theorem tw2956233216448334483:1=1:=rfl
theorem tw2370978739663766460:1=1:=rfl
theorem tw17837304177426775677:1=1:=rfl
theorem tw683749893298781930:1=1:=rfl
theorem tw968705738748328127:1=1:=rfl
theorem tw4586027776516866558:1=1:=rfl
theorem tw13024388287937014984:1=1:=rfl
theorem tw17986543449563685263:1=1:=rfl
theorem tw16682306518388732208:1=1:=rfl
theorem tw11558366130130145316:1=1:=rfl
theorem tw10093996074153373112:1=1:=rfl
theorem tw9838350304020150949:1=1:=rfl
theorem tw4350394285426359502:1=1:=rfl
theorem tw202683343959940199:1=1:=rfl
theorem tw5966414251981419606:1=1:=rfl
theorem tw3637919920428711979:1=1:=rfl
theorem tw3881526331731510078:1=1:=rfl
theorem tw2566188634542847338:1=1:=rfl
theorem tw5859528723368589597:1=1:=rfl
theorem tw17525432000676849168:1=1:=rfl
theorem tw7619389750946942921:1=1:=rfl
theorem tw17368024163662996572:1=1:=rfl
theorem tw3767134703795489482:1=1:=rfl
theorem tw3003666350274798788:1=1:=rfl
theorem tw8341182601523212272:1=1:=rfl
theorem tw9521147882725807442:1=1:=rfl
theorem tw4325799700487466388:1=1:=rfl
theorem tw6533616746454343267:1=1:=rfl
theorem tw13585517321448620499:1=1:=rfl
theorem tw15417838869319950791:1=1:=rfl
theorem tw11744208603338790762:1=1:=rfl
theorem tw15992387327522979584:1=1:=rfl
theorem tw16400192681337848063:1=1:=rfl
theorem tw13861825665924585920:1=1:=rfl
theorem tw2715156369102320088:1=1:=rfl
theorem tw9761112138832931741:1=1:=rfl
theorem tw3268286508378146258:1=1:=rfl
theorem tw14637785534700809075:1=1:=rfl
theorem tw4571057247211931130:1=1:=rfl
theorem tw1428536940133873867:1=1:=rfl
theorem tw13333677813014743497:1=1:=rfl
theorem tw5570061857135993304:1=1:=rfl
theorem tw16359645940580420069:1=1:=rfl
theorem tw15975872225780096271:1=1:=rfl
theorem tw15257499257383414273:1=1:=rfl
theorem tw12063951739475006170:1=1:=rfl
theorem tw17869454643199528713:1=1:=rfl
theorem tw12071782092333479034:1=1:=rfl
theorem tw6018756499428344548:1=1:=rfl
theorem tw18036757220732606966:1=1:=rfl
theorem tw9143505522311448017:1=1:=rfl
theorem tw7849743206290389319:1=1:=rfl
theorem tw5524223363742037228:1=1:=rfl
theorem tw2404510813852579159:1=1:=rfl
theorem tw9894100911188244466:1=1:=rfl
theorem tw13687321237202684503:1=1:=rfl
theorem tw14503215478872709463:1=1:=rfl
theorem tw13306195892821523746:1=1:=rfl
theorem tw11064392917610662113:1=1:=rfl
theorem tw4256287358909562744:1=1:=rfl
theorem tw626812207165993921:1=1:=rfl
theorem tw18133627910772568326:1=1:=rfl
theorem tw6683638234515562804:1=1:=rfl
theorem tw1343155242975795427:1=1:=rfl
theorem tw7755558709306361783:1=1:=rfl
theorem tw1517983150973818389:1=1:=rfl
theorem tw7160128143831618320:1=1:=rfl
theorem tw11099423377316789546:1=1:=rfl
theorem tw5077724186101767748:1=1:=rfl
theorem tw5309492682496437970:1=1:=rfl
theorem tw10241576789059277077:1=1:=rfl
theorem tw6925617624737466672:1=1:=rfl
theorem tw9519422212550713753:1=1:=rfl
theorem tw14073596584924892330:1=1:=rfl
theorem tw11479360745093455151:1=1:=rfl
theorem tw10144874627848978965:1=1:=rfl
theorem tw3083744933234535176:1=1:=rfl
theorem tw7327743988546536561:1=1:=rfl
theorem tw5818790049284738005:1=1:=rfl
theorem tw8012487135667893807:1=1:=rfl
theorem tw10819802089852401704:1=1:=rfl
theorem tw3744673489762850604:1=1:=rfl
theorem tw3676711663873219893:1=1:=rfl
theorem tw5038261510566897784:1=1:=rfl
theorem tw16796025501812514546:1=1:=rfl
theorem tw2838679339703116548:1=1:=rfl
theorem tw3290156006066922032:1=1:=rfl
theorem tw620522351971358815:1=1:=rfl
theorem tw1749039395403999197:1=1:=rfl
theorem tw6577510308781793424:1=1:=rfl
theorem tw12163053199256661059:1=1:=rfl
theorem tw1330955270306210745:1=1:=rfl
theorem tw574291820029118443:1=1:=rfl
theorem tw17285121190795389802:1=1:=rfl
theorem tw6855724592113455797:1=1:=rfl
theorem tw17154927294580247568:1=1:=rfl
theorem tw16796791730042413359:1=1:=rfl
theorem tw5428058730143840345:1=1:=rfl
theorem tw8372603129133552655:1=1:=rfl
theorem tw17392061033488565910:1=1:=rfl
theorem tw9053419582722678637:1=1:=rfl
theorem tw17100408567348567631:1=1:=rfl
theorem tw3463618278061266493:1=1:=rfl
theorem tw11539425332315384875:1=1:=rfl
theorem tw12393922718886271563:1=1:=rfl
theorem tw3638781434633440991:1=1:=rfl
theorem tw15717942701141121123:1=1:=rfl
theorem tw11386723923157222203:1=1:=rfl
theorem tw13480206973464956343:1=1:=rfl
theorem tw8340807089843049415:1=1:=rfl
theorem tw14738115449715256183:1=1:=rfl
theorem tw3601967708249060164:1=1:=rfl
theorem tw18040912966805449747:1=1:=rfl
theorem tw4654881113941100998:1=1:=rfl
theorem tw947421522404914010:1=1:=rfl
theorem tw14763037872599815816:1=1:=rfl
theorem tw2634354639296097266:1=1:=rfl
theorem tw14617480749244353317:1=1:=rfl
theorem tw1734363990682485841:1=1:=rfl
theorem tw4246280021671580807:1=1:=rfl
theorem tw6061496947121328060:1=1:=rfl
theorem tw10757494023040276621:1=1:=rfl
theorem tw5198408347920363829:1=1:=rfl
theorem tw12413118959384910220:1=1:=rfl
theorem tw16341057597400025779:1=1:=rfl
theorem tw8001924580341586541:1=1:=rfl
theorem tw17063458300733147794:1=1:=rfl
theorem tw16858739984930572161:1=1:=rfl
theorem tw7910427567150059733:1=1:=rfl
theorem tw1636075791328726794:1=1:=rfl
theorem tw13729719262887666325:1=1:=rfl
theorem tw12055041339185690547:1=1:=rfl
theorem tw18195388529873069286:1=1:=rfl
theorem tw3517701487165308863:1=1:=rfl
theorem tw9294450821998459762:1=1:=rfl
theorem tw8996695435299124734:1=1:=rfl
theorem tw3376830502346292969:1=1:=rfl
theorem tw11968089557753604447:1=1:=rfl
theorem tw1571379337258793075:1=1:=rfl
theorem tw2160095961761592801:1=1:=rfl
theorem tw2676857125470886388:1=1:=rfl
theorem tw3890422199224007492:1=1:=rfl
theorem tw12142506293890943707:1=1:=rfl
theorem tw17473086275710941634:1=1:=rfl
theorem tw3625895376522371138:1=1:=rfl
theorem tw11747524945659773816:1=1:=rfl
theorem tw4745487389421462166:1=1:=rfl
theorem tw2717954756192309259:1=1:=rfl
theorem tw1868960642838475207:1=1:=rfl
theorem tw11184654349882485005:1=1:=rfl
theorem tw15024049495289107569:1=1:=rfl
theorem tw9599144229448679840:1=1:=rfl
theorem tw1619399199466156072:1=1:=rfl
theorem tw11921399344024833887:1=1:=rfl
theorem tw11149728716004900337:1=1:=rfl
theorem tw13500280270554939950:1=1:=rfl
theorem tw2086049087014113999:1=1:=rfl
theorem tw4728373685645582641:1=1:=rfl
theorem tw16728880644509947343:1=1:=rfl
theorem tw7260833983423939244:1=1:=rfl
theorem tw17351171811355551852:1=1:=rfl
theorem tw9170650516427527338:1=1:=rfl
theorem tw16091151799598056030:1=1:=rfl
theorem tw4293928816477162956:1=1:=rfl
theorem tw6000736448571786240:1=1:=rfl
theorem tw17823541315565478069:1=1:=rfl
theorem tw2711141833856267531:1=1:=rfl
theorem tw15053808952237534567:1=1:=rfl
theorem tw7836307727848297216:1=1:=rfl
theorem tw7190285943121773989:1=1:=rfl
theorem tw18396987787087157536:1=1:=rfl
theorem tw15923357451888552372:1=1:=rfl
theorem tw6175573162075979969:1=1:=rfl
theorem tw5652495863582377360:1=1:=rfl
theorem tw1917657074041673813:1=1:=rfl
theorem tw10309699006435658775:1=1:=rfl
theorem tw1829424566802256009:1=1:=rfl
theorem tw1831384774928961824:1=1:=rfl
theorem tw17628936781631762889:1=1:=rfl
theorem tw17185813602702211780:1=1:=rfl
theorem tw11757720207142805982:1=1:=rfl
theorem tw15922264948683968041:1=1:=rfl
theorem tw6828508618422971345:1=1:=rfl
theorem tw17790829735023242632:1=1:=rfl
theorem tw13154259435480645211:1=1:=rfl
theorem tw8192234435748958586:1=1:=rfl
theorem tw8742611219823581891:1=1:=rfl
theorem tw6047560906576656815:1=1:=rfl
theorem tw10984912882481206168:1=1:=rfl
theorem tw1954543227409977363:1=1:=rfl
theorem tw15491050305932394458:1=1:=rfl
theorem tw16180487329674734922:1=1:=rfl
theorem tw808344674858051337:1=1:=rfl
theorem tw5949275194223465717:1=1:=rfl
theorem tw10819037690663037996:1=1:=rfl
theorem tw13254944245644276466:1=1:=rfl
theorem tw4762396501183165458:1=1:=rfl
theorem tw2326028170137529261:1=1:=rfl
theorem tw12976597767612163284:1=1:=rfl
theorem tw14550608533335817586:1=1:=rfl
theorem tw3507415432887022537:1=1:=rfl
theorem tw4768058120824838845:1=1:=rfl
theorem tw15688681660707725093:1=1:=rfl
theorem tw6809498999975757398:1=1:=rfl
theorem tw12712979649269572539:1=1:=rfl
theorem tw15427885708695056322:1=1:=rfl
theorem tw6819918158113119160:1=1:=rfl
theorem tw17073660804355986223:1=1:=rfl
theorem tw199582256712057105:1=1:=rfl
theorem tw13973685064913374361:1=1:=rfl
theorem tw3304643818450277713:1=1:=rfl
theorem tw4877107086142700577:1=1:=rfl
theorem tw7312680692262597714:1=1:=rfl
theorem tw6666525337850369642:1=1:=rfl
theorem tw17766764928284012870:1=1:=rfl
theorem tw18204599036016421954:1=1:=rfl
theorem tw3776290134986196101:1=1:=rfl
theorem tw892649632534062097:1=1:=rfl
theorem tw7036764119695266213:1=1:=rfl
theorem tw5507205667956858691:1=1:=rfl
theorem tw11055017403693227604:1=1:=rfl
theorem tw1157050725234957929:1=1:=rfl
theorem tw16428093602956192405:1=1:=rfl
theorem tw4374669725784021763:1=1:=rfl
theorem tw9319752798539508923:1=1:=rfl
theorem tw12072578588065081160:1=1:=rfl
theorem tw1530519786449493409:1=1:=rfl
theorem tw11870615881546190580:1=1:=rfl
theorem tw12476249148373886669:1=1:=rfl
theorem tw9377048767790235428:1=1:=rfl
theorem tw2166035335546956257:1=1:=rfl
theorem tw18298825482779154216:1=1:=rfl
theorem tw7208988718104562058:1=1:=rfl
theorem tw17576402832361612291:1=1:=rfl
theorem tw17403686597470293269:1=1:=rfl
theorem tw16052211691535213068:1=1:=rfl
theorem tw6517382960351571005:1=1:=rfl
theorem tw10911875268133371080:1=1:=rfl
theorem tw9155995666190470150:1=1:=rfl
theorem tw8573495224241098345:1=1:=rfl
theorem tw5815233126107719009:1=1:=rfl
theorem tw2280055570957003453:1=1:=rfl
theorem tw883763697850544909:1=1:=rfl
theorem tw16013629274820550854:1=1:=rfl
theorem tw14696567226795455164:1=1:=rfl
theorem tw15717043100180257340:1=1:=rfl
theorem tw1350086839155231685:1=1:=rfl
theorem tw12023503968575276022:1=1:=rfl
theorem tw393212169681598486:1=1:=rfl
theorem tw8963003846953280918:1=1:=rfl
theorem tw6255955443046034596:1=1:=rfl
theorem tw8414287617572682454:1=1:=rfl
theorem tw5458687585857577975:1=1:=rfl
theorem tw9058909679389639345:1=1:=rfl
theorem tw13394322329488226094:1=1:=rfl
theorem tw8127351235912045771:1=1:=rfl
theorem tw18037061939288836910:1=1:=rfl
theorem tw14243634237901308996:1=1:=rfl
theorem tw12201962581878679250:1=1:=rfl
theorem tw14695091899489674153:1=1:=rfl
theorem tw11876486897773467007:1=1:=rfl
theorem tw12151536132797370735:1=1:=rfl
theorem tw18202239546608221166:1=1:=rfl
theorem tw1942886459711517262:1=1:=rfl
end PySem.W.Fast
open PySem PySem.W PyProof.Rows L2
set_option maxRecDepth 100000 in
set_option maxHeartbeats 0 in
theorem PySem.Challenge.cw_mixbench_k52_refused_of_patches_holds : PySem.Challenge.rw_mixbench_k52_refused_of_patches.Holds := by
 w_on; o_law; k_head; (case hw=>w_witness2)
 k_fill
 refine L2.h3i (l := PySem.Challenge.rw_mixbench_k52_refused_of_patches) (k := 15) (x := "_law_script") (CX := fun _ => L2.CX0) rfl rfl ⟨rfl, by decide, by decide⟩ (fun w h Y => PySem.W.kIn_of Y) ?F (fun _ _ _ _ _ z => z)
 case F =>
  intro w mg fa h KX G hmg
  refine' My.all_mk (wd:=w) KX G hmg ⟨?d2p,?d2q,?f0o,?f0p,?f0q,?f6o,?f6p,?g3a,?d5p,?f6q,?f0r,?g3b,?g3c,?f6r,?g3d,?f6s,?d5q,?f6t,?d5r,?c9q,?d5s,?f0s,?d5t,?c2h,?c2i,?d2r,?c7s,?c7t,?f0t,?d5u,?f0u,?f0v,?d5v,?f0w,?c7u,?d2s,?d2t,?d5w,?d5y,?c7v,?c5o,?b8l,?d2u,?h4j,?h0d,?d4r,?b3i,?a4y,?g5p,?c9r,?c7w,?a9m,?a4r,?g3e,?c7y,?c5p,?b2w,?a4t,?a3t,?f6u,?c5q,?b0t,?a2j,?a5g,?a5h,?d4s,?a0s,?a0h,?a0l,?a0k,?a0m,?g3f,?a6y,?b0u,?b2h,?b2y,?c9s,?b9r,?c2j,?c5r,?c5s,?c7z,?b2z,?b2j,?c7g,?c9t,?c1v,?a6t,?a8h,?c4s,?c8g,?c8h,?c4t,?c4u,?b4t,?b6m,?a7k,?c2k,?c7h,?c9u,?c2l,?b8m,?b9s,?c1i,?b3q,?c2m,?c4v,?a9q,?b6n,?c2n,?b9t,?c8i,?c2o,?b9k,?c1j,?c1k,?c4w,?b6o,?c2p,?c2q,?b5u,?a4u,?b6p,?a8v,?a5t,?c2r,?h0e,?c9v,?h9a,?h9b,?y_bool,?h9c,?c9w,?h9d,?h0f,?g3g,?h9e,?d2v,?f0y,?f0z,?f1g,?f6v,?f6w,?f6y,?a6g,?a6h,?a6i,?a6j,?a6k,?a6l,?a6m,?a6n,?a7p,?a7q,?a7r,?a7s,?a7t,?a7u,?a7v,?a7w,?a3u,?a3v,?a3w,?a3y,?a3z,?a4g,?a4h,?a4i,?a8w,?a8y,?a8z,?a9g,?a9h,?a9i,?a9j,?a9k,?a2k,?a2l,?a2m,?a2n,?a2o,?a2p,?a2q,?a2r,?a1m,?a1n,?a1o,?a1p,?a1q,?a1r,?a1s,?a1t,?a2s,?a2t,?a2u,?a2v,?a2w,?a2y,?a2z,?a3g,?b0v,?b0w,?b0y,?b0z,?b1g,?b1h,?b1i,?b1j,?a3h,?a3i,?a3j,?a3k,?a3l,?a3m,?a3n,?a3o,?b3r,?b3s,?b3t,?b3u,?b3v,?b3w,?b3y,?b3z,?a4j,?a4k,?a4l,?a4m,?a4n,?a4o,?a4p,?a4q,?b3j,?b4u,?b4v,?b8n,?b6q,?b6r,?b3k,?c2s,?b6s,?b8o,?b6t,?c0g,?b8p,?b1m,?b6u,?c7i,?b8q,?c2t,?c0h,?c0i,?b6v,?c0j,?c2u,?c0k,?c2v,?c5t,?c2w,?b3l,?b6w,?b8r,?b8s,?c2y,?c0l,?c0m,?b6y,?c0n,?c9y,?c2z,?c0o,?c5u,?c3g,?b3m,?b6z,?b8t,?b8u,?c3h,?c0p,?c0q,?c9z,?b7g,?c0r,?c3i,?c0s,?c5v,?c3j,?b3n,?b8v,?c0t,?c0u,?c5w,?c3k,?c3l,?b8w,?c3m,?c5y,?c3n,?c8j,?c5z,?d4t,?b4w,?b8y,?c0v,?c0w,?c6g,?d4u,?c3o,?c3p,?b8z,?c3q,?c6h,?c3r,?c8k,?c6i,?b4y,?c0y,?c3s,?c8l,?c6j,?c6k,?c0z,?c6l,?c8m,?c6m,?d0g,?c8n,?d5z,?d6g,?b1n,?b1o,?b1p,?a8i,?d0h,?c4y,?d0i,?d0j,?c8o,?d4v,?c8p,?c1l,?g3h,?f6z,?d6h,?d1j,?c3t,?b7h,?d6i,?a9r,?b4j,?c3u,?d2w,?d0k⟩ ?ld_READERS ?kd_READERS ?ne_READERS
  case d2p | d2q | f0o | f0p | f0q | f6o | f6p | g3a | d5p | f6q | f0r | g3b | g3c | f6r | g3d | f6s | d5q | f6t | d5r | c9q | d5s | f0s | d5t | c2h | c2i | d2r | c7s | c7t | f0t | d5u | f0u | f0v | d5v | f0w | c7u | d2s | d2t | d5w | d5y | c7v | c5o | b8l | d2u | h4j | f6y | a6g | a6h | a6i | a6j | a6k | a6l | a6m | a6n | a7p | a7q | a7r | a7s | a7t | a7u | a7v => dsimp only; k_is
  case a7w | a3u | a3v | a3w | a3y | a3z | a4g | a4h | a4i | a8w | a8y | a8z | a9g | a9h | a9i | a9j | a9k | a2k | a2l | a2m | a2n | a2o | a2p | a2q | a2r | a1m | a1n | a1o | a1p | a1q | a1r | a1s | a1t | a2s | a2t | a2u | a2v | a2w | a2y | a2z | a3g | b0v | b0w | b0y | b0z | b1g | b1h | b1i | b1j | a3h | a3i | a3j | a3k | a3l | a3m | a3n | a3o | b3r | b3s | b3t => dsimp only; k_is
  case b3u | b3v | b3w | b3y | b3z | a4j | a4k | a4l | a4m | a4n | a4o | a4p | a4q | b3j | b4u | b4v | b8n | b6q | b6r | b3k | c2s | b6s | b8o | b6t | c0g | b8p | b1m | b6u | c7i | b8q | c2t | c0h | c0i | b6v | c0j | c2u | c0k | c2v | c5t | c2w | b3l | b6w | b8r | b8s | c2y | c0l | c0m | b6y | c0n | c9y | c2z | c0o | c5u | c3g | b3m | b6z | b8t | b8u | c3h | c0p => dsimp only; k_is
  case c0q | c9z | b7g | c0r | c3i | c0s | c5v | c3j | b3n | b8v | c0t | c0u | c5w | c3k | c3l | b8w | c3m | c5y | c3n | c8j | c5z | d4t | b4w | b8y | c0v | c0w | c6g | d4u | c3o | c3p | b8z | c3q | c6h | c3r | c8k | c6i | b4y | c0y | c3s | c8l | c6j | c6k | c0z | c6l | c8m | c6m | d0g | c8n | d5z | b1n | b1p | d0h | d0i | c8o | c8p | g3h | d6h | c3t | d6i | a9r => dsimp only; k_is
  case b4j | c3u | d2w | d0k => dsimp only; k_is
  case h0d | b3i | a9m | b2w | b0t | a0s => refine' ⟨?_, ?_, ?_, ?_⟩ <;> ((try dsimp only); k_is)
  case d4r | c9r | c7w | c7y | c5p | c5q | a6y | b0u | b2h | b2y | c9s | b9r | c2j | c5r | c5s | c7z => (dsimp only; refine' ⟨?a, ?l, ?c⟩; (case a => k_is); (case l => k_is); (case c => k_is))
  case a4y | a4r | a4t | a3t | a2j | a5g | a5h | a0h | a0l | a0k | a0m => dsimp only; unfold a7m; k_is
  case g5p | g3e | f6u | d4s | g3f => (dsimp only; refine' ⟨?a, ?l, ?c, ?k⟩; (case a => k_is); (case l => k_is); (case c => k_is); (case k => k_is))
  case b2z | b2j | c7g | c9t | c1v | a6t | a8h | c4s | c8g | c8h | c4t | c4u | b4t | b6m | a7k | c2k | c7h | c9u | c2l | b8m | b9s | c1i | b3q | c2m | c4v | a9q | b6n | c2n | b9t | c8i | c2o | b9k | c1j | c1k | c4w | b6o | c2p | c2q | b5u | a4u | b6p | a8v | a5t | c2r | h0e => (dsimp only; refine' a4v ?l ?c ?k; (try dsimp only); (case l => k_is); (case c => k_is); (case k => k_is))
  case c9v | h9a | h9b | y_bool | h9c | c9w | h9d | h0f | g3g | h9e | ld_READERS => k_is
  case d2v | f0y | f0z | f1g | f6v | f6w => dsimp only; k_exc
  case d6g | b1o | a8i | c4y | d0j | d4v | c1l | f6z | d1j | b7h => exact ⟨_, rfl⟩
  (case kd_READERS=>k_keys)
  (case ne_READERS=>decide)
