import PyProof.Rows.All
import KE.IntBitsLaws
import KE.KEqDat
import KE.KIntText
import KE.KIsAll
import PySem.Challenge.RW_mixbench_k66_whole_superposed
set_option Elab.async false
set_option linter.all false
set_option maxRecDepth 100000
namespace L2
open PySem PySem.Spec PyProof.Rows
noncomputable abbrev Key:=Sum Int Str
noncomputable def g7x:Key->Value->Bool
 | .inl k,v=>Value.isInt k v
 | .inr x,v=>Value.isStrOf x v
noncomputable def keyH(w:World):Key->Int
 | .inl k=>hashInt k
 | .inr x=>hashStr w x
theorem a6z:∀ {k:Key} {v:Value},g7x k v=true->(∃ i t,k=Sum.inl i/\v=Value.int i t)\/(∃ x t,k=Sum.inr x/\v=Value.str x t)
 | .inl i,v,h=>by
  obtain⟨t,e⟩:=Value.isInt_shape (k:=i) (v:=v) h
  exact .inl ⟨i,t,rfl,e⟩
 | .inr x,v,h=>by
  obtain⟨t,e⟩:=Value.isStrOf_shape (x:=x) (v:=v) h
  exact .inr ⟨x,t,rfl,e⟩
theorem h0m(i:Int)(t:Tok):g7x (.inl i) (.int i t)=true:=by simp [g7x,Value.isInt]
theorem h0n(x:Str)(t:Tok):g7x (.inr x) (.str x t)=true:=by simp [g7x,Value.isStrOf]
theorem i5a(a b:Int):decide ((Sum.inl a:Key)=Sum.inl b)=(a == b):=by
 by_cases e:a=b
 ·subst e; simp
 ·have h:¬ (Sum.inl a:Key)=Sum.inl b:=fun q=>e (Sum.inl.inj q)
  rw [decide_eq_false h]
  exact (beq_eq_false_iff_ne.mpr e).symm
theorem i5b(a b:Str):decide ((Sum.inr a:Key)=Sum.inr b)=decide (a=b):=by
 by_cases e:a=b
 ·subst e; simp
 ·have h:¬ (Sum.inr a:Key)=Sum.inr b:=fun q=>e (Sum.inr.inj q)
  rw [decide_eq_false h,decide_eq_false e]
theorem i5c(a:Int)(b:Str):decide ((Sum.inl a:Key)=Sum.inr b)=false:=decide_eq_false (fun q=>nomatch q)
theorem i5d(a:Str)(b:Int):decide ((Sum.inr a:Key)=Sum.inl b)=false:=decide_eq_false (fun q=>nomatch q)
noncomputable def a8s(prog:Program)(w:World):PySem.KeyKind prog w Key where
 is:=g7x
 hash:=keyH w
 inj:=fun v a b ha hb=>by
  rcases a6z ha with ⟨i,t,rfl,rfl⟩ | ⟨x,t,rfl,rfl⟩
  ·rcases a6z hb with ⟨j,u,rfl,e⟩ | ⟨y,u,rfl,e⟩
   ·injection e with e1 _; rw [e1]
   ·exact nomatch e
  ·rcases a6z hb with ⟨j,u,rfl,e⟩ | ⟨y,u,rfl,e⟩
   ·exact nomatch e
   ·injection e with e1 _; rw [e1]
 byValue:=fun k v h=>by
  rcases a6z h with ⟨i,t,rfl,rfl⟩ | ⟨x,t,rfl,rfl⟩ <;> rfl
 pyHash:=fun hv h=>by
  rcases a6z hv with ⟨i,t,rfl,rfl⟩ | ⟨x,t,rfl,rfl⟩
  ·exact wpAny_pyHash_int h
  ·exact wpAny_pyHash_str h
 eqBool:=fun hu hv h=>by
  rcases a6z hu with ⟨i,t,rfl,rfl⟩ | ⟨x,t,rfl,rfl⟩
  ·rcases a6z hv with ⟨j,u,rfl,rfl⟩ | ⟨y,u,rfl,rfl⟩
   ·rw [i5a] at h; exact wpAny_eqBool_int h
   ·rw [i5c] at h; exact SeqAt.EqAt.int_str i t y u _ _ _ _ h
  ·rcases a6z hv with ⟨j,u,rfl,rfl⟩ | ⟨y,u,rfl,rfl⟩
   ·rw [i5d] at h; exact SeqAt.EqAt.str_int x t j u _ _ _ _ h
   ·rw [i5b] at h; exact wpAny_eqBool_str h
 «strs» := fun k x t v h => by
  rcases a6z h with ⟨i,u,rfl,e⟩ | ⟨y,u,rfl,e⟩
  ·exact nomatch e
  ·injection e with e1 _
   subst e1
   cases v <;> rfl
theorem g2v(prog:Program)(w:World)(i:Int)(t:Tok):(a8s prog w).is (.inl i) (.int i t)=true:=h0m i t
theorem g2w(prog:Program)(w:World)(x:Str)(t:Tok):(a8s prog w).is (.inr x) (.str x t)=true:=h0n x t
end L2
namespace L2
open PySem PySem.Spec PyProof.Rows
inductive V where
 | non | bl (b:Bool) | int (i:Int) | str (x:Str) | byt (b:Array UInt8) | flt (b:UInt64) | ref (a:Addr) | ty (n:String)
 deriving DecidableEq
noncomputable def RelV:V->Value->Prop
 | .non,u=>u=Value.none
 | .bl b,u=>u=Value.bool b
 | .int i,u=>∃ t,u=Value.int i t
 | .str x,u=>∃ t,u=Value.str x t
 | .byt b,u=>∃ t,u=Value.bytes b t
 | .flt b,u=>∃ t,u=Value.float b t
 | .ref a,u=>u=Value.ref a
 | .ty n,u=>u=Value.type n
noncomputable abbrev Vals:List V->List Value->Prop:=Paired RelV
theorem Vals.length{xs:List V}{us:List Value}(r:Vals xs us):xs.length=us.length:=Paired.length r
theorem Vals.get:∀ {xs:List V} {us:List Value} {i:Nat} {x:V},Vals xs us->xs[i]? = some x->∃ u,us[i]? = some u/\RelV x u
 | _,_,_,_,.nil,e=>by simp at e
 | _,_,0,_,.cons r _,e=>by simp at e; subst e; exact⟨_,rfl,r⟩
 | _,_,i+1,x,.cons _ t,e=>by
  obtain⟨u,h1,h2⟩:=Vals.get (i:=i) (x:=x) t (by simpa using e)
  exact⟨u,by simpa using h1,h2⟩
theorem Vals.set{x:V}{u:Value}(r:RelV x u):∀ {xs:List V} {us:List Value} (i:Nat),Vals xs us->Vals (xs.set i x) (us.set i u)
 | _,_,_,.nil=>.nil
 | _,_,0,.cons _ t=>.cons r t
 | _,_,i+1,.cons q t=>.cons q (Vals.set r i t)
theorem Vals.append:∀ {xs ys:List V} {us ws:List Value},Vals xs us->Vals ys ws->Vals (xs++ys) (us++ws)
 | _,_,_,_,.nil,s=>s
 | _,_,_,_,.cons r t,s=>.cons r (Vals.append t s)
theorem Vals.take:∀ {xs:List V} {us:List Value} (n:Nat),Vals xs us->Vals (xs.take n) (us.take n)
 | _,_,0,_=>.nil
 | _,_,_+1,.nil=>.nil
 | _,_,n+1,.cons r t=>.cons r (Vals.take n t)
theorem Vals.drop:∀ {xs:List V} {us:List Value} (n:Nat),Vals xs us->Vals (xs.drop n) (us.drop n)
 | _,_,0,r=>r
 | _,_,_+1,.nil=>.nil
 | _,_,n+1,.cons _ t=>Vals.drop n t
noncomputable def g2r:Option V->Option Value->Prop
 | some v,some u=>RelV v u
 | none,none=>True
 | _,_=>False
noncomputable def KV{κ:Type}:List (κ×V)->List (κ×Value)->Prop:=Paired fun (p:κ×V) (q:κ×Value)=>p.1=q.1/\RelV p.2 q.2
noncomputable def kV:Key->V
 | .inl i=>.int i
 | .inr x=>.str x
inductive HO where
  | lst (xs:List V)
  | tup (xs:List V)
  | dK (kvs:List (Key×V)) | dT (kvs:List (List Key×V))
  | set (S:Int->Bool) (n:Nat)
  | ins (C dx:Addr) (fs:List (Str×V))
  | own (x:Addr)
  | xd (fs:List (Str×V))
  | met (f x:Addr)
  | rng (lo hi:Int)
  | frz (o:Obj) (u:HO)
  | tbl (ps:Array Value)
  | ext (φ:Heap->Prop)
noncomputable abbrev Hp:=Addr->Option HO
noncomputable def upd(H:Hp)(a:Addr)(o:HO):Hp:=fun b=>if b=a then some o else H b
theorem a3j{H:Hp}{a:Addr}{o:HO}:upd H a o a=some o:=by unfold upd; rw [if_pos rfl]
theorem a3p{H:Hp}{a b:Addr}{o:HO}(h:b≠a):upd H a o b=H b:=by unfold upd; rw [if_neg h]
theorem j0f{H:Hp}{a b:Addr}{o u:HO}(h:H a=some o)(h':H b=some u)(d:o≠u):a≠b:=by
 intro e; subst e; rw [h] at h'; exact d (Option.some.inj h')
theorem a5l{H:Hp}{a b:Addr}{o:HO}(h:H a=some o)(h':H b=none):a≠b:=by
 intro e; subst e; rw [h] at h'; cases h'
section
variable (P:Program)(w:World)
noncomputable def b4w(H:Hp)(h:Heap)(a:Addr):HO->Prop
 | .lst xs => xs.length ≤ sizeLine ∧ ∃ (its : List Value) (n : Nat), Vals xs its ∧ h.get? a = some { cls := .type "list", data := .seq its.toArray n }
 | .tup xs=>xs.length<=sizeLine/\∃ its:List Value,Vals xs its/\IsTup h a its.toArray
 | .dK kvs=>kvs.length<=sizeLine/\(a == sysModules)=false/\∃ vs,KV kvs vs/\h.DictOf (a8s P w) a vs
 | .dT kvs=>kvs.length<=sizeLine/\(a == sysModules)=false/\∃ xs:List (List Key×Addr×Value),
   Paired (fun (p:List Key×V) (q:List Key×Addr×Value)=>p.1=q.1/\H q.2.1=some (.tup (p.1.map kV))/\RelV p.2 q.2.2) kvs xs /\
   ∃ o es ep,h.get? a=some o/\o.ExactDict/\o.data = .dict es ep/\es.toList=xs.map (entryOfKey (tupleKind (a8s P w)))/\(xs.map (·.1)).Nodup
 | .set S n=>h.SetOf (intKind P w) a S n
 | .ins C dx fs=>H dx=some (.own a)/\fs.length<=1000/\dx≠a/\h.get? a=some (PySem.W.instObj C dx) /\
   ∃ mA,h.Ns1 dx mA/\(∀ f,g2r (fs.lookup f) (mA f))/\PySem.Within mA (fs.map (·.1))
 | .own _=>∃ o,h.get? a=some o
 | .xd fs=>∃ mA,h.Ns1 a mA/\∀ f,g2r (fs.lookup f) (mA f)
 | .rng lo hi => ∃ t u v, h.get? a = some { cls := .type "range", data := .fields #[.int lo t, .int hi u, .int 1 v] }
 | .frz o u=>h.get? a=some o/\b4w H h a u
 | .tbl ps=>h.get? a=some { cls:=.none,data:=.fields ps }
 | .met f x=>h.get? a=some (PySem.W.methodObj (.ref f) (.ref x))
 | .ext φ=>φ h/\(∃ o,h.get? a=some o)/\∀ h1 h2:Heap,φ h1->(∀ o,h1.get? a=some o->h2.get? a=some o)->φ h2
def HOk(H:Hp)(h:Heap):Prop:=∀ a o,H a=some o->b4w P w H h a o
end
section
variable {P:Program}{w:World}{H H':Hp}{h h':Heap}{a:Addr}{o:HO}
theorem b4w.lt(x:b4w P w H h a o):a < h.objs.size:=by
 cases o with
 | lst xs=>obtain⟨_,_,_,_,e⟩:=x; exact Heap.lt_size e
 | tup xs=>obtain⟨_,_,_,p⟩:=x; exact p.lt
 | dK kvs=>obtain⟨_,_,_,_,o,_,_,e,_⟩:=x; exact Heap.lt_size e
 | dT kvs=>obtain⟨_,_,_,_,o,_,_,e,_⟩:=x; exact Heap.lt_size e
 | set S n=>obtain⟨o,_,_,_,e,_⟩:=x; exact Heap.lt_size e
 | ins C dx fs=>obtain⟨_,_,_,e,_⟩:=x; exact Heap.lt_size e
 | own y=>obtain⟨_,e⟩:=x; exact Heap.lt_size e
 | xd fs=>obtain⟨_,⟨_,_,_,e,_⟩,_⟩:=x; exact Heap.lt_size e
 | rng lo hi=>obtain⟨_,_,_,e⟩:=x; exact Heap.lt_size e
 | frz ob u=>obtain⟨e,_⟩:=x; exact Heap.lt_size e
 | tbl ps=>exact Heap.lt_size (show h.get? a=some _ from x)
 | met f y=>exact Heap.lt_size (show h.get? a=some _ from x)
 | ext φ=>obtain⟨_,⟨_,e⟩,_⟩:=x; exact Heap.lt_size e
theorem Paired.j0g{α β:Type}{F G:α->β->Prop}:∀ {l₁:List α} {l₂:List β},Paired F l₁ l₂->(∀ a b,F a b->G a b)->Paired G l₁ l₂
 | _,_,.nil,_=>.nil
 | _,_,.cons r t,f=>.cons (f _ _ r) (Paired.j0g t f)
theorem b4w.stay(x:b4w P w H h a o)(k:∀ b u,(b=a\/H b=some (.own a))->h.get? b=some u->h'.get? b=some u)
  (ho:∀ b,H b=some (.own a)->H' b=some (.own a)) (ht:∀ b xs,H b=some (.tup xs)->H' b=some (.tup xs)):b4w P w H' h' a o:=by
 induction o with
 | lst xs=>obtain⟨z,its,n,r,e⟩:=x; exact⟨z,its,n,r,k _ _ (.inl rfl) e⟩
 | tup xs=>obtain⟨z,its,r,ob,e,c⟩:=x; exact⟨z,its,r,ob,k _ _ (.inl rfl) e,c⟩
 | dK kvs=>obtain⟨z,y,vs,r,ob,es,ep,e,c⟩:=x; exact⟨z,y,vs,r,ob,es,ep,k _ _ (.inl rfl) e,c⟩
 | dT kvs =>
  obtain⟨z,y,xs,r,ob,es,ep,e,c⟩:=x
  exact⟨z,y,xs,Paired.j0g r fun p q z=>⟨z.1,ht _ _ z.2.1,z.2.2⟩,ob,es,ep,k _ _ (.inl rfl) e,c⟩
 | set S n=>obtain⟨ob,es,ep,t,e,c⟩:=x; exact⟨ob,es,ep,t,k _ _ (.inl rfl) e,c⟩
 | ins C dx fs =>
  obtain⟨d,z,ne,e,mA,⟨od,es,ep,e2,c⟩,r⟩:=x
  exact⟨ho _ d,z,ne,k _ _ (.inl rfl) e,mA,⟨od,es,ep,k _ _ (.inr d) e2,c⟩,r⟩
 | own y=>obtain⟨ob,e⟩:=x; exact⟨ob,k _ _ (.inl rfl) e⟩
 | xd fs=>obtain⟨mA,⟨od,es,ep,e,c⟩,r⟩:=x; exact⟨mA,⟨od,es,ep,k _ _ (.inl rfl) e,c⟩,r⟩
 | rng lo hi=>obtain⟨t,u,v,e⟩:=x; exact⟨t,u,v,k _ _ (.inl rfl) e⟩
 | frz ob u ih=>obtain⟨e,q⟩:=x; exact⟨k _ _ (.inl rfl) e,ih q⟩
 | tbl ps =>
  have e:h.get? a=some { cls:=.none,data:=.fields ps }:=x
  show h'.get? a=some { cls:=.none,data:=.fields ps }
  exact k a _ (.inl rfl) e
 | met f y =>
  have e:h.get? a=some (PySem.W.methodObj (.ref f) (.ref y)):=x
  show h'.get? a=some (PySem.W.methodObj (.ref f) (.ref y))
  exact k a _ (.inl rfl) e
 | ext φ=>obtain⟨p,⟨o,e⟩,st⟩:=x; exact⟨st _ _ p fun o q=>k _ _ (.inl rfl) q,⟨o,k _ _ (.inl rfl) e⟩,st⟩
theorem HOk.lt(x:HOk P w H h)(e:H a=some o):a < h.objs.size:=(x a o e).lt
theorem HOk.fresh(x:HOk P w H h)(e:h.objs.size<=a):H a=none:=by
 cases q:H a with
 | none=>rfl
 | some u=>exact absurd (Nat.lt_of_lt_of_le (x.lt q) e) (Nat.lt_irrefl _)
theorem HOk.kept(x:HOk P w H h)(k:∀ b u,h.get? b=some u->h'.get? b=some u):HOk P w H h':=fun a o e =>
 (x a o e).stay (fun b u _ q=>k b u q) (fun _ q=>q) fun _ _ q=>q
theorem HOk.laid(x:HOk P w H h)(k:∀ b u,h.get? b=some u->h'.get? b=some u)(hp:h.objs.size<=a)(new:b4w P w (upd H a o) h' a o):HOk P w (upd H a o) h':=fun b u e=>by
 have hn:=x.fresh hp
 by_cases hb:b=a
 ·subst hb; rw [a3j] at e; cases e; exact new
 ·rw [a3p hb] at e
  exact (x b u e).stay (fun c v _ q=>k c v q) (fun c q=>by rw [a3p (a5l q hn)]; exact q) fun c xs q=>by rw [a3p (a5l q hn)]; exact q
end
def Rd(H:Hp)(a:Addr)(u:HO):Prop:=H a=some u\/∃ o,H a=some (.frz o u)
theorem Rd.ok{P:Program}{w:World}{H:Hp}{h:Heap}{a:Addr}{u:HO}(r:Rd H a u)(x:HOk P w H h):b4w P w H h a u:=by
 rcases r with r | ⟨o,r⟩
 ·exact x a u r
 ·obtain⟨_,q⟩:=x a _ r
  exact q
noncomputable def Mut:Option HO->Prop
 | some (.lst _)=>True
 | some (.dK _)=>True
 | some (.dT _)=>True
 | some (.set _ _)=>True
 | some (.ins _ _ _)=>True
 | some (.ext _)=>True
 | _=>False
section
variable {P:Program}{w:World}{H:Hp}{h h':Heap}{x e:Addr}{o':HO}
theorem HOk.write(ok:HOk P w H h)(mu:Mut (H x))(he:e=x\/H e=some (.own x))(k:∀ b u,b≠e->h.get? b=some u->h'.get? b=some u)(heo:∃ u,h'.get? e=some u)
  (new:b4w P w (upd H x o') h' x o'):HOk P w (upd H x o') h':=fun b u q=>by
 have j3s:∀ c y,H c=some (.own y)->c≠x:=fun c y r z=>by subst z; rw [r] at mu; exact mu
 have ntup:∀ c xs,H c=some (.tup xs)->c≠x:=fun c xs r z=>by subst z; rw [r] at mu; exact mu
 by_cases hb:b=x
 ·subst hb; rw [a3j] at q; cases q; exact new
 ·rw [a3p hb] at q
  by_cases hbe:b=e
  ·have q':H b=some (.own x):=by
    rcases he with z | z
    ·exact absurd (hbe.trans z) hb
    ·rw [hbe]; exact z
   rw [q] at q'; cases q'
   obtain⟨v,hv⟩:=heo
   exact⟨v,by rw [hbe]; exact hv⟩
  ·refine (ok b u q).stay (fun c v hc r=>k c v ?_ r) (fun c r=>by rw [a3p (j3s c b r)]; exact r) fun c xs r=>by rw [a3p (ntup c xs r)]; exact r
   rcases hc with rfl | hc
   ·exact hbe
   ·rintro rfl
    rcases he with z | z
    ·exact j3s c b hc z
    ·rw [hc] at z; cases z; exact hb rfl
end
structure Un(fs ex:List Addr)(H H':Hp)(h h':Heap):Prop where
 keep:∀ b o,h.get? b=some o->H b=none->b∉fs->b∉ex->h'.get? b=some o
 slot:∀ b o,h.get? b=some o->H b=none->b∈fs->b∉ex->∃ sl,h'.get? b=some { o with slots:=sl }
 free:∀ b o,h.get? b=some o->H b=none->b∉ex->H' b=none
 there:∀ b o,h.get? b=some o->b∉ex->∃ o',h'.get? b=some o'
 tups:∀ b xs,H b=some (.tup xs)->H' b=some (.tup xs)
 h0h:∀ b o u,H b=some (.frz o u)->H' b=some (.frz o u)
 h0o:∀ b ps,H b=some (.tbl ps)->∃ more,H' b=some (.tbl (ps++more))
section
variable {fs fs' ex ex':List Addr}{H H1 H2:Hp}{h h1 h2 h':Heap}{a x e:Addr}{o:HO}
theorem Un.any(u:Un fs ex H H1 h h1){b:Addr}{ob:Obj}(q:h.get? b=some ob)(n:H b=none)(hx:b∉ex):∃ sl,h1.get? b=some { ob with slots:=sl }:=by
 by_cases hb:b∈fs
 ·exact u.slot b ob q n hb hx
 ·exact⟨ob.slots,u.keep b ob q n hb hx⟩
theorem Un.kept(k:∀ b u,h.get? b=some u->h'.get? b=some u):Un fs ex H H h h' :=
 ⟨fun b ob q _ _ _=>k b ob q,fun b ob q _ _ _=>⟨ob.slots,k b ob q⟩,fun _ _ _ n _=>n,fun b ob q _=>⟨ob,k b ob q⟩,fun _ _ q=>q,fun _ _ _ q=>q,fun _ ps q=>⟨#[],by rw [q]; simp⟩⟩
theorem Un.refl:Un fs ex H H h h:=Un.kept fun _ _ q=>q
theorem Un.laid(k:∀ b u,h.get? b=some u->h'.get? b=some u)(hp:h.objs.size<=a)(hn:H a=none):Un fs ex H (upd H a o) h h' where
 keep:=fun b u q _ _ _=>k b u q
 slot:=fun b u q _ _ _=>⟨u.slots,k b u q⟩
 free:=fun b u q n _=>by rw [a3p (Nat.ne_of_lt (Nat.lt_of_lt_of_le (Heap.lt_size q) hp))]; exact n
 there:=fun b u q _=>⟨u,k b u q⟩
 tups:=fun b xs q=>by rw [a3p (a5l q hn)]; exact q
 h0h:=fun b u xs q=>by rw [a3p (a5l q hn)]; exact q
 h0o:=fun b ps q=>⟨#[],by rw [a3p (a5l q hn),q]; simp⟩
theorem Un.write(mu:Mut (H x))(he:e=x\/H e=some (.own x))(k:∀ b u,b≠e->h.get? b=some u->h'.get? b=some u)(heo:∃ u,h'.get? e=some u):Un fs ex H (upd H x o) h h':=by
 have hx:∀ b,H b=none->b≠x:=fun b n z=>by subst z; rw [n] at mu; exact mu
 have hb:∀ b,H b=none->b≠e:=fun b n z=>by
  subst z
  rcases he with r | r
  ·exact hx b n r
  ·rw [n] at r; cases r
 have hm:∀ b u,H b=some u->¬ Mut (some u)->b≠x:=fun b u q nm z=>by subst z; rw [q] at mu; exact nm mu
 refine⟨fun b u q n _ _=>k b u (hb b n) q,fun b u q n _ _=>⟨u.slots,k b u (hb b n) q⟩,fun b u q n _=>by rw [a3p (hx b n)]; exact n,fun b u q _=>?_,
  fun b xs q=>by rw [a3p (hm b _ q fun z=>z)]; exact q,fun b u xs q=>by rw [a3p (hm b _ q fun z=>z)]; exact q,fun b ps q=>⟨#[],by rw [a3p (hm b _ q fun z=>z),q]; simp⟩⟩
 by_cases hbe:b=e
 ·subst hbe; exact heo
 ·exact⟨u,k b u hbe q⟩
end
noncomputable def trk(h:Heap)(H:Hp):List Addr:=(List.range h.objs.size).filter fun a=>(H a).isSome
noncomputable def h6u(h:Heap)(H:Hp):Heap:=PySem.W.hideAll h (trk h H)
theorem h0p(h:Heap)(H:Hp):(h6u h H).objs.size=h.objs.size:=PySem.W.hideAll_size _ _
theorem h6v{h:Heap}{H:Hp}{b:Addr}{o:Obj}(e:h.get? b=some o)(n:H b=none):(h6u h H).get? b=some o :=
 PySem.W.hideAll_get _ e fun hm=>by
  have q:(H b).isSome=true:=(List.mem_filter.mp hm).2
  rw [n] at q; simp at q
theorem i0y{h:Heap}{H:Hp}{b:Addr}{o:Obj}(e:(h6u h H).get? b=some o):h.get? b=some o/\H b=none:=by
 have e':h.get? b=some o:=PySem.W.of_hideAll (trk h H) e
 refine⟨e',?_⟩
 cases q:H b with
 | none=>rfl
 | some x =>
  have hm:b∈trk h H:=List.mem_filter.mpr ⟨List.mem_range.mpr (Heap.lt_size e'),by simp [q]⟩
  have z:(h6u h H).get? b=none:=PySem.W.hideAll_none (trk h H) hm
  rw [z] at e; cases e
noncomputable def i0z(g h:Heap)(L:Addr):List (Addr×Obj):=(List.range h.objs.size).filterMap fun a=>if a=L\/(g.get? a).isSome=true then none else (h.get? a).map fun o=>(a,o)
noncomputable def rest(g h:Heap)(L d:Addr):List (Addr×Obj):=(i0z g h L).filter fun p=>decide (p.1≠d)
end L2
namespace L2
open PySem PySem.Spec PyProof.Rows
structure Mod(K:PySem.W.Frag)(mg:Str->Option Value)(base:Heap):Prop where
 kin:K.In base
 glob:base.Ns mainGlobals mg
 blt : ∃ mb, base.Ns builtinsNs mb ∧ ∀ x : Str, x ≠ "__name__" → mb x = bootBuiltins x
 nolimit:base.NoLimit
structure Cx where
 prog:Program
 w:World
 K:PySem.W.Frag
 mg:Str->Option Value
 base:Heap
 A:Around
 N:List Str
 s₀:Shared
 H₀:Hp
 env:Env
 outer:List Env
 stack:List Env
 ex:List Addr
 fn:Str->Bool
 calm:Bool
 pn:List (Addr×Obj)
 xe:Value->Shared->Prop
noncomputable def frs(l:List Env):List Addr:=l.filterMap (·.frame)
noncomputable abbrev Cx.fs(X:Cx):List Addr:=frs X.outer
def Vis(sc:Scope)(x:Str):Prop:=sc.names.lookup x=some .local\/sc.names.lookup x=some .cell\/sc.names.lookup x=some .free
def Loc(sc:Scope)(x:Str):Prop:=sc.names.lookup x=some .local\/sc.names.lookup x=some .cell
def Look(env:Env)(h:Heap)(m:Str->Option Value)(x:Str)(u:Value):Prop :=
 (env.kindOf x=some .local/\m x=some u)\/((env.kindOf x=some .cell\/env.kindOf x=some .free)/\∃ c,env.cells.lookup x=some c/\h.IsCell c (some u))
structure Cx.Ok(X:Cx):Prop where
 mod:Mod X.K X.mg X.base
 kind:X.env.scope.kind = .function
 glob:X.env.globals=mainGlobals
 blt:X.env.builtins=builtinsNs
 above:X.s₀.heap.objs.size<=X.env.locals
 inj:∀ x y c,X.env.cells.lookup x=some c->X.env.cells.lookup y=some c->x=y
 has:∀ x,(X.env.kindOf x=some .cell\/X.env.kindOf x=some .free)->∃ c,X.env.cells.lookup x=some c
 cab:∀ x c,X.fn x=true->X.env.cells.lookup x=some c->X.s₀.heap.objs.size<=c
 hd:X.calm=true->X.A.handled=none
 frames:X.A.frames=some X.stack
 stk:X.stack=X.outer\/(X.stack=X.env :: X.outer/\X.env.frame=some X.env.locals)
 exf:∀ b∈X.ex,b≠X.env.locals/\∀ x c,X.env.cells.lookup x=some c->c≠b
 bs:∀ b o,X.base.get? b=some o->X.s₀.heap.get? b=some o/\X.H₀ b=none
 bsz:X.base.objs.size<=X.s₀.heap.objs.size
 i4p:∀ b o,X.base.get? b=some o->b∉X.ex
 i9t:∀ b∈X.ex,b∉X.fs
 h0i:X.s₀.heap.FunFrames X.base X.outer
 frf:∀ b∈X.fs,X.H₀ b=none
structure Inv(X:Cx)(pins:List (Addr×Obj))(σ:List (Option V))(H:Hp)(s:Shared):Prop where
 ok:X.Ok
 os:s.os=X.s₀.os
 bare:AllBare s.gens
 base:Un X.fs X.ex X.H₀ H X.s₀.heap s.heap
 loc:∃ m,s.heap.Ns X.env.locals m/\∀ (i:Nat) (x:Str) (v:V),X.N[i]? = some x->σ[i]? = some (some v)->Vis X.env.scope x->∃ u,RelV v u/\Look X.env s.heap m x u
 cell:∀ x c,X.env.cells.lookup x=some c->∃ v,s.heap.IsCell c v
 free:H X.env.locals=none
 d6u:∀ x c,X.env.cells.lookup x=some c->H c=none
 pin:∀ p∈X.pn++pins,s.heap.get? p.1=some p.2/\H p.1=none/\p.1≠X.env.locals/\p.1∉X.fs/\∀ v,p.2.data≠.cell v
 hok:HOk X.prog X.w H s.heap
 len:σ.length=X.N.length
section
variable {X:Cx}{pins:List (Addr×Obj)}{σ:List (Option V)}{H H':Hp}{s:Shared}{h':Heap}
theorem Cx.Ok.nofr(ok:X.Ok){b:Addr}{o:Obj}(e:X.base.get? b=some o):b∉X.fs:=fun hb=>by
 have:=(ok.h0i.mem hb).1
 rw [e] at this; cases this
theorem Inv.bs(I:Inv X pins σ H s):∀ b o,X.base.get? b=some o->s.heap.get? b=some o/\H b=none:=fun b o e =>
 ⟨I.base.keep b o (I.ok.bs b o e).1 (I.ok.bs b o e).2 (I.ok.nofr e) (I.ok.i4p b o e),I.base.free b o (I.ok.bs b o e).1 (I.ok.bs b o e).2 (I.ok.i4p b o e)⟩
theorem Inv.bk(I:Inv X pins σ H s):∀ b o,X.base.get? b=some o->s.heap.get? b=some o:=fun b o e=>(I.bs b o e).1
theorem Inv.mod(I:Inv X pins σ H s):Mod X.K X.mg X.base:=I.ok.mod
theorem Inv.kIn(I:Inv X pins σ H s):X.K.In s.heap:=I.ok.mod.kin.keeps I.bk
theorem Inv.lt(I:Inv X pins σ H s):X.env.locals < s.heap.objs.size:=let ⟨_,hn,_⟩:=I.loc; hn.lt
theorem Inv.sz(I:Inv X pins σ H s):X.s₀.heap.objs.size<=s.heap.objs.size:=Nat.le_trans I.ok.above (Nat.le_of_lt I.lt)
theorem Inv.nofs(I:Inv X pins σ H s){a:Addr}(h:s.heap.objs.size<=a):a∉X.fs:=fun hb=>by
 obtain⟨_,o,ho,_⟩:=I.ok.h0i.mem hb
 exact absurd (Nat.lt_of_lt_of_le (Heap.lt_size ho) (Nat.le_trans I.sz h)) (Nat.lt_irrefl _)
theorem Inv.cne(I:Inv X pins σ H s):∀ x c,X.env.cells.lookup x=some c->c≠X.env.locals:=fun x c e z=>by
 obtain⟨v,o,ho,hd⟩:=I.cell x c e
 obtain⟨m,⟨o',es,ep,ho',hd',_⟩,_⟩:=I.loc
 rw [z,ho'] at ho; cases ho; rw [hd'] at hd; cases hd
theorem Inv.h0i(I:Inv X pins σ H s):s.heap.FunFrames X.base X.outer:=by
 have all:∀ (l:List Env),(∀ b∈frs l,b∈X.fs)->X.s₀.heap.FunFrames X.base l->s.heap.FunFrames X.base l:=by
  intro l
  induction l with
  | nil=>intro _ _; trivial
  | cons env r ih =>
   intro hs hl
   obtain⟨hk,⟨L,o,hf,hn,ho,hd⟩,hr⟩:=hl
   have hL:L∈X.fs:=hs L (by unfold frs; rw [List.filterMap_cons,hf]; exact List.mem_cons_self)
   obtain⟨sl,e⟩:=I.base.slot L o ho (I.ok.frf L hL) hL fun z=>I.ok.i9t L z hL
   exact⟨hk,⟨L,_,hf,hn,e,hd⟩,ih (fun b hb=>hs b (by unfold frs; rw [List.filterMap_cons,hf]; exact List.mem_cons_of_mem _ hb)) hr⟩
 exact all X.outer (fun _ hb=>hb) I.ok.h0i
theorem Inv.stack(I:Inv X pins σ H s):s.heap.FunFrames X.base X.stack:=by
 rcases I.ok.stk with e | ⟨e,hf⟩
 ·rw [e]; exact I.h0i
 ·rw [e]
  obtain⟨m,hn,_⟩:=I.loc
  refine .cons (by rw [I.ok.kind]; decide) hf hn ?_ I.h0i
  exact Heap.get?_none_of_le (Nat.le_trans I.ok.bsz I.ok.above)
theorem Inv.d7t(I:Inv X pins σ H s):∀ b∈frs X.stack,b∈X.env.locals :: X.fs:=fun b hb=>by
 rcases I.ok.stk with e | ⟨e,hf⟩
 ·rw [e] at hb; exact List.mem_cons_of_mem _ hb
 ·rw [e] at hb
  unfold frs at hb
  rw [List.filterMap_cons,hf] at hb
  exact hb
theorem Inv.g2x(I:Inv X pins σ H s):∀ b∈frs X.stack,H b=none:=fun b hb=>by
 rcases List.mem_cons.mp (I.d7t b hb) with e | hb
 ·rw [e]; exact I.free
 ·obtain⟨_,o,ho,_⟩:=I.ok.h0i.mem hb
  exact I.base.free b o ho (I.ok.frf b hb) fun z=>I.ok.i9t b z hb
theorem Inv.step{g':Array GenState}{t':Nat}{d':Drawn}{ch:List Addr}(I:Inv X pins σ H s)
  (hch:∀ b∈ch,(b∈X.ex\/X.s₀.heap.objs.size<=b)/\b≠X.env.locals/\(∀ x c,X.env.cells.lookup x=some c->c≠b)/\∀ p∈X.pn++pins,p.1≠b)
  (keep:∀ b o,b≠X.env.locals->b∉X.fs->b∉ch->s.heap.get? b=some o->H b=none->h'.get? b=some o)
  (slot:∀ b o,b≠X.env.locals->b∈X.fs->b∉ch->s.heap.get? b=some o->H b=none->∃ sl,h'.get? b=some { o with slots:=sl }) (free:∀ b o,b∉ch->s.heap.get? b=some o->H b=none->H' b=none)
  (there:∀ b o,b∉ch->s.heap.get? b=some o->∃ o',h'.get? b=some o')
  (tups:∀ b xs,H b=some (.tup xs)->H' b=some (.tup xs)) (h0h:∀ b o u,H b=some (.frz o u)->H' b=some (.frz o u)) (h0o:∀ b ps,H b=some (.tbl ps)->∃ more,H' b=some (.tbl (ps++more)))
  (ns:∀ m,s.heap.Ns X.env.locals m->h'.Ns X.env.locals m) (hok:HOk X.prog X.w H' h') (hg:AllBare g') :
  Inv X pins σ H' { s with heap:=h',gens:=g',drawn:=d',toks:=t' }:=by
 have neL:∀ b o,X.s₀.heap.get? b=some o->b≠X.env.locals:=fun b o e=>Nat.ne_of_lt (Nat.lt_of_lt_of_le (Heap.lt_size e) I.ok.above)
 have neC:∀ b o,X.s₀.heap.get? b=some o->b∉X.ex->b∉ch:=fun b o e hx hb=>by
  rcases (hch b hb).1 with z | z
  ·exact hx z
  ·exact absurd (Nat.lt_of_lt_of_le (Heap.lt_size e) z) (Nat.lt_irrefl _)
 have cellK:∀ x c,X.env.cells.lookup x=some c->∀ v,s.heap.IsCell c v->h'.IsCell c v:=fun x c e v ⟨o,ho,hd⟩=>by
  have nch:c∉ch:=fun z=>(hch c z).2.2.1 x c e rfl
  by_cases hc:c∈X.fs
  ·obtain⟨sl,q⟩:=slot c o (I.cne x c e) hc nch ho (I.d6u x c e)
   exact⟨_,q,hd⟩
  ·exact⟨o,keep c o (I.cne x c e) hc nch ho (I.d6u x c e),hd⟩
 refine⟨I.ok,I.os,hg,⟨fun b o e n hb hx=>?_,fun b o e n hb hx=>?_,fun b o e n hx=>?_,fun b o e hx=>?_,fun b xs e=>tups b xs (I.base.tups b xs e),fun b o xs e=>h0h b o xs (I.base.h0h b o xs e),fun b ps e=>?_⟩,?_,fun x c e=>?_,?_,fun x c e=>?_,fun p hp=>?_,hok,I.len⟩
 ·exact keep b o (neL b o e) hb (neC b o e hx) (I.base.keep b o e n hb hx) (I.base.free b o e n hx)
 ·obtain⟨sl,e1⟩:=I.base.slot b o e n hb hx
  obtain⟨sl',e2⟩:=slot b _ (neL b o e) hb (neC b o e hx) e1 (I.base.free b o e n hx)
  exact⟨sl',e2⟩
 ·obtain⟨o',e1⟩:=I.base.there b o e hx
  exact free b o' (neC b o e hx) e1 (I.base.free b o e n hx)
 ·obtain⟨o',e1⟩:=I.base.there b o e hx
  exact there b o' (neC b o e hx) e1
 ·obtain⟨m1,e1⟩:=I.base.h0o b ps e
  obtain⟨m2,e2⟩:=h0o b _ e1
  exact⟨m1++m2,by rw [e2,Array.append_assoc]⟩
 ·obtain⟨m,hn,hl⟩:=I.loc
  refine⟨m,ns m hn,fun i x v e1 e2 e3=>?_⟩
  obtain⟨u,r,l⟩:=hl i x v e1 e2 e3
  refine⟨u,r,?_⟩
  rcases l with l | ⟨k,c,e,z⟩
  ·exact .inl l
  ·exact .inr ⟨k,c,e,cellK x c e _ z⟩
 ·obtain⟨v,z⟩:=I.cell x c e
  exact⟨v,cellK x c e v z⟩
 ·obtain⟨m,⟨o,_,_,ho,_⟩,_⟩:=I.loc
  exact free _ o (fun z=>(hch _ z).2.1 rfl) ho I.free
 ·obtain⟨v,o,ho,hd⟩:=I.cell x c e
  exact free c o (fun z=>(hch c z).2.2.1 x c e rfl) ho (I.d6u x c e)
 ·obtain⟨e,n,ne,nf,d⟩:=I.pin p hp
  have nch:p.1∉ch:=fun z=>(hch p.1 z).2.2.2 p hp rfl
  exact⟨keep p.1 p.2 ne nf nch e n,free p.1 p.2 nch e n,ne,nf,d⟩
theorem Inv.un{t':Nat}(I:Inv X pins σ H s)(u:Un X.fs [] H H' s.heap h')(hok:HOk X.prog X.w H' h'):Inv X pins σ H' { s with heap:=h',toks:=t' }:=by
 obtain⟨m,⟨o,es,ep,ho,r⟩,_⟩:=id I.loc
 obtain⟨sl,hL⟩:=u.any ho I.free (by simp)
 exact I.step (g':=s.gens) (d':=s.drawn) (ch:=[]) (fun _ z=>nomatch z) (fun b o _ hb _ e n=>u.keep b o e n hb (by simp)) (fun b o _ hb _ e n=>u.slot b o e n hb (by simp)) (fun b o _ e n=>u.free b o e n (by simp)) (fun b o _ e=>u.there b o e (by simp)) u.tups u.h0h u.h0o (fun m' hm=>by
  obtain⟨o',es',ep',ho',r'⟩:=hm
  rw [ho] at ho'; cases ho'
  exact⟨_,es',ep',hL,r'⟩) hok I.bare
theorem Inv.call{g':Array GenState}{t':Nat}{d':Drawn}{ch:List Addr}(I:Inv X pins σ H s)(u:Un (frs X.stack) ch H H' s.heap h')(hok:HOk X.prog X.w H' h')(hg:AllBare g')
  (hch:∀ b∈ch,(b∈X.ex\/X.s₀.heap.objs.size<=b)/\b≠X.env.locals/\(∀ x c,X.env.cells.lookup x=some c->c≠b)/\∀ p∈X.pn++pins,p.1≠b) :
  Inv X pins σ H' { s with heap:=h',gens:=g',drawn:=d',toks:=t' }:=by
 obtain⟨m,⟨o,es,ep,ho,r⟩,_⟩:=id I.loc
 obtain⟨sl,hL⟩:=u.any ho I.free fun z=>(hch _ z).2.1 rfl
 exact I.step (ch:=ch) hch (fun b o hL hb hc e n=>u.keep b o e n (fun z=>(List.mem_cons.mp (I.d7t b z)).elim hL hb) hc) (fun b o _ _ hc e n=>u.any e n hc) (fun b o hc e n=>u.free b o e n hc) (fun b o hc e=>u.there b o e hc) u.tups u.h0h u.h0o (fun m' hm=>by
  obtain⟨o',es',ep',ho',r'⟩:=hm
  rw [ho] at ho'; cases ho'
  exact⟨_,es',ep',hL,r'⟩) hok hg
theorem Inv.turned{t':Nat}{it:Addr}(I:Inv X pins σ H s)(k:∀ b o,b≠it->s.heap.get? b=some o->h'.get? b=some o)(hn:H it=none)(hL:it≠X.env.locals)
  (h1:it∈X.ex\/X.s₀.heap.objs.size<=it) (h2:∀ x c,X.env.cells.lookup x=some c->c≠it) (h3:∀ p∈X.pn++pins,p.1≠it):Inv X pins σ H { s with heap:=h',toks:=t' }:=by
 have nit:∀ b u,H b=some u->b≠it:=fun b u e z=>by rw [z,hn] at e; cases e
 refine I.step (g':=s.gens) (d':=s.drawn) (ch:=[it]) (fun b hb=>?_) (fun b o _ _ hc e _=>k b o (fun z=>hc (by simp [z])) e) (fun b o _ _ hc e _=>⟨o.slots,k b o (fun z=>hc (by simp [z])) e⟩) (fun _ _ _ _ n=>n)
  (fun b o hc e=>⟨o,k b o (fun z=>hc (by simp [z])) e⟩) (fun _ _ e=>e) (fun _ _ _ e=>e) (fun b ps e=>⟨#[],by rw [e]; simp⟩) (fun m hm=>?_) (fun b u e=>?_) I.bare
 ·have e:b=it:=by simpa using hb
  subst e
  exact⟨h1,hL,h2,h3⟩
 ·obtain⟨o,es,ep,ho,r⟩:=hm
  exact⟨o,es,ep,k _ o (Ne.symm hL) ho,r⟩
 ·refine (I.hok b u e).stay (fun c v hc q=>k c v ?_ q) (fun _ q=>q) fun _ _ q=>q
  rcases hc with z | z
  ·rw [z]; exact nit b u e
  ·exact nit c _ z
theorem Inv.tok(I:Inv X pins σ H s)(t:Nat):Inv X pins σ H { s with toks:=t }:=I.un (h':=s.heap) (t':=t) Un.refl I.hok
theorem Inv.kept{t':Nat}(I:Inv X pins σ H s)(k:∀ b u,s.heap.get? b=some u->h'.get? b=some u):Inv X pins σ H { s with heap:=h',toks:=t' }:=I.un (Un.kept k) (I.hok.kept k)
theorem Inv.laid{a:Addr}{o:HO}{t':Nat}(I:Inv X pins σ H s)(k:∀ b u,s.heap.get? b=some u->h'.get? b=some u)(hp:s.heap.objs.size<=a)(new:b4w X.prog X.w (upd H a o) h' a o) :
  Inv X pins σ (upd H a o) { s with heap:=h',toks:=t' }:=I.un (Un.laid k hp (I.hok.fresh hp)) (I.hok.laid k hp new)
theorem Inv.write{x e:Addr}{o:HO}{t':Nat}(I:Inv X pins σ H s)(mu:Mut (H x))(he:e=x\/H e=some (.own x))(k:∀ b u,b≠e->s.heap.get? b=some u->h'.get? b=some u)(heo:∃ u,h'.get? e=some u)
  (new:b4w X.prog X.w (upd H x o) h' x o):Inv X pins σ (upd H x o) { s with heap:=h',toks:=t' }:=I.un (Un.write mu he k heo) (I.hok.write mu he k heo new)
theorem Inv.h0q{pins':List (Addr×Obj)}(I:Inv X pins σ H s)(h:∀ p∈pins',s.heap.get? p.1=some p.2/\H p.1=none/\p.1≠X.env.locals/\p.1∉X.fs/\∀ v,p.2.data≠.cell v):Inv X pins' σ H s :=
 ⟨I.ok,I.os,I.bare,I.base,I.loc,I.cell,I.free,I.d6u,fun p hp=>(List.mem_append.mp hp).elim (fun z=>I.pin p (List.mem_append_left _ z)) (h p),I.hok,I.len⟩
theorem g6i{N:List Str}(hN:N.Nodup){i j:Nat}{x:Str}(a:N[i]? = some x)(b:N[j]? = some x):i=j:=by
 obtain⟨h1,e1⟩:=List.getElem?_eq_some_iff.mp a
 obtain⟨h2,e2⟩:=List.getElem?_eq_some_iff.mp b
 exact (List.getElem_inj hN).mp (e1.trans e2.symm)
theorem f9l{M:Model}{A:Around}{E:Value->Shared->Prop}{i:Nat}{x:Str}{v:V}{u:Value}{Q:Unit->Shared->Prop}(I:Inv X pins σ H s)(hN:X.N.Nodup)(hi:X.N[i]? = some x)(hx:Loc X.env.scope x)(r:RelV v u)
  (h:∀ s',Inv X pins (σ.set i (some v)) H s'->(∃ a,Heap.SameBut a s.heap s'.heap/\(a=X.env.locals\/X.env.cells.lookup x=some a))->Q () s') (hf:X.fn x=true\/X.env.scope.names.lookup x=some .local:=by first | exact .inl rfl | exact .inr rfl | assumption):wpAny M A (storeName X.env x u) Q E s:=by
 obtain⟨m,hn,hl⟩:=id I.loc
 have hcls:(X.env.scope.kind == .class || (X.env.scope.kind == .module && X.env.locals != X.env.globals))=false:=by rw [I.ok.kind]; rfl
 have hiσ:i < σ.length:=by rw [I.len]; exact (List.getElem?_eq_some_iff.mp hi).1
 have cne:=I.cne
 have tracked:∀ {a:Addr} {h':Heap},(∃ o,s.heap.get? a=some o/\H a=none)->Heap.SameBut a s.heap h'->HOk X.prog X.w H h':=fun {a h'} ha hs b ob e=>by
  obtain⟨_,_,hfree⟩:=ha
  refine (I.hok b ob e).stay (fun c w' hc q=>(hs.2 c ?_).trans q) (fun _ q=>q) fun _ _ q=>q
  rintro rfl
  rcases hc with rfl | hc
  ·rw [hfree] at e; cases e
  ·rw [hfree] at hc; cases hc
 rcases hx with hk | hk
 ·refine wpAny_storeName_local hk hn (fun h' hn' hs=>?_) hcls
  obtain⟨oL,_,_,hoL,_⟩:=id hn
  refine h _ ⟨I.ok,I.os,I.bare,⟨fun b o e n hb hx=>?_,fun b o e n hb hx=>?_,I.base.free,fun b o e hx=>?_,I.base.tups,I.base.h0h,I.base.h0o⟩,⟨_,hn',fun j y v' e1 e2 e3=>?_⟩,fun y c e=>?_,I.free,I.d6u,fun p hp=>?_,tracked ⟨oL,hoL,I.free⟩ hs,by simpa using I.len⟩ ⟨_,hs,.inl rfl⟩
  ·exact (hs.2 b (Nat.ne_of_lt (Nat.lt_of_lt_of_le (Heap.lt_size e) I.ok.above))).trans (I.base.keep b o e n hb hx)
  ·obtain⟨sl,e1⟩:=I.base.slot b o e n hb hx
   exact⟨sl,(hs.2 b (Nat.ne_of_lt (Nat.lt_of_lt_of_le (Heap.lt_size e) I.ok.above))).trans e1⟩
  ·obtain⟨o',e1⟩:=I.base.there b o e hx
   exact⟨o',(hs.2 b (Nat.ne_of_lt (Nat.lt_of_lt_of_le (Heap.lt_size e) I.ok.above))).trans e1⟩
  ·by_cases hj:j=i
   ·subst hj
    rw [hi] at e1; cases e1
    rw [List.getElem?_set_self hiσ] at e2
    cases e2
    exact⟨u,r,.inl ⟨hk,by simp⟩⟩
   ·rw [List.getElem?_set_ne (Ne.symm hj)] at e2
    obtain⟨u',r',q⟩:=hl j y v' e1 e2 e3
    refine⟨u',r',?_⟩
    rcases q with ⟨k,e⟩ | ⟨k,c,e,z⟩
    ·refine .inl ⟨k,?_⟩
     have:y≠x:=fun e=>hj (g6i hN e1 (e▸hi))
     simp [this,e]
    ·exact .inr ⟨k,c,e,z.sameBut hs (cne y c e)⟩
  ·obtain⟨w',z⟩:=I.cell y c e
   exact⟨w',z.sameBut hs (cne y c e)⟩
  ·obtain⟨e,n,ne,nf,d⟩:=I.pin p hp
   exact⟨(hs.2 p.1 ne).trans e,n,ne,nf,d⟩
 ·have hfn:X.fn x=true:=by
   rcases hf with z | z
   ·exact z
   ·rw [z] at hk; cases hk
  obtain⟨c,hc⟩:=I.ok.has x (.inl hk)
  obtain⟨w',z⟩:=I.cell x c hc
  refine wpAny_storeName_cell I.ok.kind hk hc z (fun h' hc' hs=>?_)
  obtain⟨oc,hoc,hocd⟩:=id z
  refine h { s with heap:=h' } ⟨I.ok,I.os,I.bare,⟨fun b o e n hb hx=>?_,fun b o e n hb hx=>?_,I.base.free,fun b o e hx=>?_,I.base.tups,I.base.h0h,I.base.h0o⟩,⟨m,hn.sameBut hs (Ne.symm (cne x c hc)),fun j y v' e1 e2 e3=>?_⟩,fun y c' e=>?_,I.free,I.d6u,fun p hp=>?_,tracked ⟨oc,hoc,I.d6u x c hc⟩ hs,by simpa using I.len⟩ ⟨c,hs,.inr hc⟩
  ·exact (hs.2 b (Nat.ne_of_lt (Nat.lt_of_lt_of_le (Heap.lt_size e) (I.ok.cab x c hfn hc)))).trans (I.base.keep b o e n hb hx)
  ·obtain⟨sl,e1⟩:=I.base.slot b o e n hb hx
   exact⟨sl,(hs.2 b (Nat.ne_of_lt (Nat.lt_of_lt_of_le (Heap.lt_size e) (I.ok.cab x c hfn hc)))).trans e1⟩
  ·obtain⟨o',e1⟩:=I.base.there b o e hx
   exact⟨o',(hs.2 b (Nat.ne_of_lt (Nat.lt_of_lt_of_le (Heap.lt_size e) (I.ok.cab x c hfn hc)))).trans e1⟩
  ·by_cases hj:j=i
   ·subst hj
    rw [hi] at e1; cases e1
    rw [List.getElem?_set_self hiσ] at e2
    cases e2
    exact⟨u,r,.inr ⟨.inl hk,c,hc,hc'⟩⟩
   ·rw [List.getElem?_set_ne (Ne.symm hj)] at e2
    obtain⟨u',r',q⟩:=hl j y v' e1 e2 e3
    refine⟨u',r',?_⟩
    rcases q with q | ⟨k,c',e,z'⟩
    ·exact .inl q
    ·refine .inr ⟨k,c',e,z'.sameBut hs ?_⟩
     rintro rfl
     exact hj (g6i hN e1 (I.ok.inj _ _ _ e hc▸hi))
  ·by_cases hcc:c'=c
   ·subst hcc; exact⟨_,hc'⟩
   ·obtain⟨w2,z2⟩:=I.cell y c' e
    exact⟨w2,z2.sameBut hs hcc⟩
  ·obtain⟨e,n,ne,nf,d⟩:=I.pin p hp
   refine⟨(hs.2 p.1 ?_).trans e,n,ne,nf,d⟩
   intro q
   rw [q,hoc] at e
   have q':oc=p.2:=Option.some.inj e
   exact d w' (by rw [<- q']; exact hocd)
theorem g6j{M:Model}{A:Around}{E:Value->Shared->Prop}{i:Nat}{x:Str}{v:V}{u:Value}{Q:Unit->Shared->Prop}(I:Inv X pins σ H s)(hN:X.N.Nodup)(hi:X.N[i]? = some x)(hx:Loc X.env.scope x)(r:RelV v u)
  (h:∀ s',Inv X pins (σ.set i (some v)) H s'->Q () s') (hf:X.fn x=true\/X.env.scope.names.lookup x=some .local:=by first | exact .inl rfl | exact .inr rfl | assumption):wpAny M A (storeName X.env x u) Q E s :=
 f9l I hN hi hx r (fun s' I' _=>h s' I') hf
theorem Inv.call'{s':Shared}{ch:List Addr}(I:Inv X pins σ H s)(ho:s'.os=s.os)(u:Un (frs X.stack) ch H H' s.heap s'.heap)(hok:HOk X.prog X.w H' s'.heap)(hg:AllBare s'.gens)
  (hch:∀ b∈ch,(b∈X.ex\/X.s₀.heap.objs.size<=b)/\b≠X.env.locals/\(∀ x c,X.env.cells.lookup x=some c->c≠b)/\∀ p∈X.pn++pins,p.1≠b):Inv X pins σ H' s':=by
 obtain⟨h',g',d',t',o'⟩:=s'
 have e:o'=s.os:=ho
 subst e
 exact I.call (g':=g') (t':=t') (d':=d') u hok hg hch
end
noncomputable abbrev XK:=Value->Option Addr->Hp->Prop
noncomputable abbrev St:=List (Option V)
noncomputable abbrev VK:=V->Hp->Prop
noncomputable abbrev TE:=St->Hp->VK->Prop
noncomputable abbrev TT:=St->Hp->(Bool->Hp->Prop)->Prop
noncomputable abbrev TA:=St->Hp->(List V->Hp->Prop)->Prop
structure Ends where
 nx:St->Hp->Prop
 rt:VK
 bk:St->Hp->Prop:=fun _ _=>False
 ct:St->Hp->Prop:=fun _ _=>False
noncomputable abbrev TS:=Ends->St->Hp->Prop
def EP(X:Cx)(pins:List (Addr×Obj))(σ:St)(Q:VK)(u:Value)(s':Shared):Prop:=∃ v H',Inv X pins σ H' s'/\RelV v u/\Q v H'
def TP(X:Cx)(pins:List (Addr×Obj))(σ:St)(Q:Bool->Hp->Prop)(b:Bool)(s':Shared):Prop:=∃ H',Inv X pins σ H' s'/\Q b H'
def AP(X:Cx)(pins:List (Addr×Obj))(σ:St)(Q:List V->Hp->Prop)(us:List Value)(s':Shared):Prop:=∃ vs H',Inv X pins σ H' s'/\Vals vs us/\Q vs H'
def SP(X:Cx)(pins:List (Addr×Obj))(D:Ends)(f:Flow)(s':Shared):Prop :=
 match f with
 | .next=>∃ σ' H',Inv X pins σ' H' s'/\D.nx σ' H'
 | .brk=>∃ σ' H',Inv X pins σ' H' s'/\D.bk σ' H'
 | .cont=>∃ σ' H',Inv X pins σ' H' s'/\D.ct σ' H'
 | .ret u=>∃ v σ' H',Inv X pins σ' H' s'/\RelV v u/\D.rt v H'
def PE(X:Cx)(e:Expr)(t:TE):Prop :=
 ∀ (pins:List (Addr×Obj)) (s:Shared) (σ:St) (H:Hp) (Q:VK),Inv X pins σ H s->t σ H Q->wpAny (model X.prog X.w) X.A (eval e X.env) (EP X pins σ Q) X.xe s
def PT(X:Cx)(e:Expr)(t:TT):Prop :=
 ∀ (pins:List (Addr×Obj)) (s:Shared) (σ:St) (H:Hp) (Q:Bool->Hp->Prop),Inv X pins σ H s->t σ H Q->wpAny (model X.prog X.w) X.A (isTrue e X.env (eval e X.env)) (TP X pins σ Q) X.xe s
def PW(X:Cx)(e:Expr)(t:TT):Prop :=
 ∀ (whole:Sem Value) (pins:List (Addr×Obj)) (s:Shared) (σ:St) (H:Hp) (Q:Bool->Hp->Prop),Inv X pins σ H s->t σ H Q->wpAny (model X.prog X.w) X.A (isTrue e X.env whole) (TP X pins σ Q) X.xe s
theorem PW.pt{X:Cx}{e:Expr}{t:TT}(h:PW X e t):PT X e t:=h _
def PA(X:Cx)(es:List Expr)(t:TA):Prop :=
 ∀ (pos:Pos) (pins:List (Addr×Obj)) (s:Shared) (σ:St) (H:Hp) (Q:List V->Hp->Prop),Inv X pins σ H s->t σ H Q->wpAny (model X.prog X.w) X.A (spliced (backTo pos (starEach es X.env))) (AP X pins σ Q) X.xe s
def PS(X:Cx)(st:Stmt)(t:TS):Prop :=
 ∀ (pins:List (Addr×Obj)) (s:Shared) (σ:St) (H:Hp) (D:Ends),Inv X pins σ H s->t D σ H->wpAny (model X.prog X.w) X.A (exec st X.env) (SP X pins D) X.xe s
def PSs(X:Cx)(st:List Stmt)(t:TS):Prop :=
 ∀ (pins:List (Addr×Obj)) (s:Shared) (σ:St) (H:Hp) (D:Ends),Inv X pins σ H s->t D σ H->wpAny (model X.prog X.w) X.A (execs st X.env) (SP X pins D) X.xe s
theorem thn{α:Type}{t:Sem α}{Q Q':α->Shared->Prop}{M:Model}{A:Around}{E:Value->Shared->Prop}{s:Shared}(h:wpAny M A t Q E s)(hQ:∀ a s,Q a s->Q' a s):wpAny M A t Q' E s:=wpAny_mono h hQ fun _ _ x=>x
end L2
namespace L2
open PySem PySem.Spec PyProof.Rows
section
variable {X:Cx}
def tVar(i:Nat):TE:=fun σ H Q=>∃ v,σ[i]? = some (some v)/\Q v H
def tC(v:V):TE:=fun _ H Q=>Q v H
theorem i5e {i : Nat} {x : Str} {pos : Pos} (hN : X.N[i]? = some x) (hv : Vis X.env.scope x) (hd : (x == ("__debug__" : Str)) = false := by decide) (hcd : (x == ("__classdict__" : Str)) = false := by decide) : PE X (.Name x pos) (tVar i) := by
 intro pins s σ H Q I h
 obtain⟨v,e,h⟩:=h
 obtain⟨m,hn,hl⟩:=I.loc
 obtain⟨u,r,l⟩:=hl i x v hN e hv
 have fin:EP X pins σ Q u s:=⟨v,H,I,r,h⟩
 rcases l with ⟨hk,hm⟩ | ⟨hk,c,hc,hcell⟩
 ·exact wpAny_Name (wpAny_loadName_local I.ok.kind hk hn hm fin) hd
 ·rcases hk with hk | hk
  ·exact wpAny_Name (wpAny_loadName_cell I.ok.kind hk hc hcell fin) hd
  ·exact wpAny_Name (wpAny_loadName_free I.ok.kind hk hc hcell fin hcd) hd
theorem a0k{i j pos}:PE X (.Constant (.int i) j pos) (tC (.int i)):=fun _ _ _ H _ I h=>wpAny_Constant_int ⟨.int i,H,I.tok _,⟨_,rfl⟩,h⟩
theorem f2l{b j pos}:PE X (.Constant (.bool b) j pos) (tC (.bl b)):=fun _ _ _ H _ I h=>Constant_bool ⟨.bl b,H,I,rfl,h⟩
theorem h0r{j pos}:PE X (.Constant .none j pos) (tC .non):=fun _ _ _ H _ I h=>Constant_none ⟨.non,H,I,rfl,h⟩
theorem a3g{x j pos}:PE X (.Constant (.str x) j pos) (tC (.str x)):=fun _ _ _ H _ I h=>Calls.Constant_str ⟨.str x,H,I.tok _,⟨_,rfl⟩,h⟩
def Gl(X:Cx)(x:Str):Prop:=X.env.kindOf x=some .globalImplicit
theorem f4z{E:Value->Shared->Prop}{pins:List (Addr×Obj)}{s:Shared}{σ:St}{H:Hp}{x:Str}{u:Value}{pos:Pos}{Q:Value->Shared->Prop}(I:Inv X pins σ H s)(hg:Gl X x)(hm:X.mg x=some u)(h:Q u s)
  (hd : (x == ("__debug__" : Str)) = false := by decide) : wpAny (model X.prog X.w) X.A (eval (.Name x pos) X.env) Q E s :=
 Calls.Name_function_global I.ok.kind hg (Calls.loadGlobal_global (by rw [I.ok.glob]; exact I.mod.glob.keeps I.bk) hm h) hd
theorem f3r{E:Value->Shared->Prop}{pins:List (Addr×Obj)}{s:Shared}{σ:St}{H:Hp}{x:Str}{u:Value}{pos:Pos}{Q:Value->Shared->Prop}(I:Inv X pins σ H s)(hg:Gl X x)(hm:X.mg x=none)(hv:bootBuiltins x=some u)(h:Q u s)
  (hn : x ≠ "__name__" := by decide) (hd : (x == ("__debug__" : Str)) = false := by decide) : wpAny (model X.prog X.w) X.A (eval (.Name x pos) X.env) Q E s := by
 obtain⟨mb,h1,h2⟩:=I.mod.blt
 exact Calls.Name_function_global I.ok.kind hg (Calls.loadGlobal_builtin (by rw [I.ok.glob]; exact I.mod.glob.keeps I.bk) hm (by rw [I.ok.blt]; exact h1.keeps I.bk) ((h2 x hn).trans hv) h) hd
theorem a9i {x : Str} {v : V} {u : Value} {pos : Pos} (hg : Gl X x) (hm : X.mg x = some u) (r : RelV v u) (hd : (x == ("__debug__" : Str)) = false := by decide) : PE X (.Name x pos) (tC v) :=
 fun _ _ _ H _ I h=>f4z I hg hm ⟨v,H,I,r,h⟩ hd
theorem c7r {x : Str} {v : V} {u : Value} {pos : Pos} (hg : Gl X x) (hm : X.mg x = none) (hv : bootBuiltins x = some u) (r : RelV v u) (hn : x ≠ "__name__" := by decide) (hd : (x == ("__debug__" : Str)) = false := by decide) : PE X (.Name x pos) (tC v) :=
 fun _ _ _ H _ I h=>f3r I hg hm hv ⟨v,H,I,r,h⟩ hn hd
variable {a b:Expr}{ta tb:TE}{pos:Pos}
def PC(X:Cx)(op:CmpOp)(a b:Expr)(t:TE):Prop :=
 ∀ (pins:List (Addr×Obj)) (s:Shared) (σ:St) (H:Hp) (Q:VK),Inv X pins σ H s->t σ H Q ->
  wpAny (model X.prog X.w) X.A (eval a X.env) (fun v s₁=>wpAny (model X.prog X.w) X.A (eval b X.env) (fun u s₂=>wpAny (model X.prog X.w) X.A (compareOp op v u) (EP X pins σ Q) X.xe s₂) X.xe s₁) X.xe s
theorem h6w(b:Expr){op:CmpOp}(h:op≠.In)(h2:op≠.NotIn):behindInMarks op b=false:=by
 have e1:(op == CmpOp.In)=false:=by cases op <;> first | rfl | exact absurd rfl h
 have e2:(op == CmpOp.NotIn)=false:=by cases op <;> first | rfl | exact absurd rfl h2
 cases b <;> simp [behindInMarks,e1,e2]
def tB(t:TE):TT:=fun σ H Q=>t σ H fun x H1=>∃ c,x = .bl c/\Q c H1
theorem i5f{op:CmpOp}{t:TE}(h:PC X op a b t)(h1:behindInMarks op b=false:=by first | exact h6w _ (by decide) (by decide) | rfl):PT X (.Compare a [op] [b] pos) (tB t):=by
 intro pins s σ H Q I hw
 refine wpAny_isTrue_Compare1 (thn (h pins s σ H _ I hw) fun v s1 h1=>thn h1 fun u s2 h2=>thn h2 fun c s3 ⟨x,H1,I1,r1,q1⟩=>?_) h1
 obtain⟨d,rfl,q⟩:=q1
 cases r1
 exact wpAny_truthy_bool ⟨H1,I1,q⟩
theorem i5g{e:Expr}{t:TE}(h:PE X e t)(he:∀ whole,isTrue e X.env whole=(do let v <- whole; standAt e.pos; holding [v] (truthy v)):=by intro _; rfl):PT X e (tB t):=by
 intro pins s σ H Q I hw
 refine isTrue_plain (thn (h pins s σ H _ I hw) fun v s1 ⟨x,H1,I1,r1,q1⟩=>?_) (he _)
 obtain⟨d,rfl,q⟩:=q1
 cases r1
 exact wpAny_truthy_bool ⟨H1,I1,q⟩
variable {tA tB':TT}{rest:List Expr}
def tAnd(t u:TT):TT:=fun σ H Q=>t σ H fun c H1=>if c=true then u σ H1 Q else Q false H1
def tOr(t u:TT):TT:=fun σ H Q=>t σ H fun c H1=>if c=true then Q true H1 else u σ H1 Q
def tNot(t:TT):TT:=fun σ H Q=>t σ H fun c H1=>Q (!c) H1
theorem pw_and1(ha:PT X a tA):PW X (.BoolOp .And [a] pos) tA:=by
 intro wh pins s σ H Q I h
 refine isTrue_and (thn (ha pins s σ H Q I h) fun c s1 e=>?_)
 cases c with
 | true=>exact isTrue_and_nil e
 | false=>exact e
theorem pw_or1(ha:PT X a tA):PW X (.BoolOp .Or [a] pos) tA:=by
 intro wh pins s σ H Q I h
 refine isTrue_or (thn (ha pins s σ H Q I h) fun c s1 e=>?_)
 cases c with
 | false=>exact isTrue_or_nil e
 | true=>exact e
theorem pw_and(ha:PT X a tA)(hb:PW X (.BoolOp .And (b :: rest) pos) tB'):PW X (.BoolOp .And (a :: b :: rest) pos) (tAnd tA tB'):=by
 intro wh pins s σ H Q I h
 refine isTrue_and (thn (ha pins s σ H _ I h) fun c s1 ⟨H1,I1,q1⟩=>?_)
 cases c with
 | true=>exact hb wh pins s1 σ H1 Q I1 q1
 | false=>exact⟨H1,I1,q1⟩
theorem pw_or(ha:PT X a tA)(hb:PW X (.BoolOp .Or (b :: rest) pos) tB'):PW X (.BoolOp .Or (a :: b :: rest) pos) (tOr tA tB'):=by
 intro wh pins s σ H Q I h
 refine isTrue_or (thn (ha pins s σ H _ I h) fun c s1 ⟨H1,I1,q1⟩=>?_)
 cases c with
 | true=>exact⟨H1,I1,q1⟩
 | false=>exact hb wh pins s1 σ H1 Q I1 q1
theorem c6z(ha:PT X a tA):PT X (.UnaryOp .Not a pos) (tNot tA):=by
 intro pins s σ H Q I h
 exact isTrue_not (ha pins s σ H (fun c H1=>Q (!c) H1) I h)
def i5h(ta tb:TE):TE:=fun σ H Q=>ta σ H fun x H1=>∃ c,x = .bl c/\if c=true then tb σ H1 Q else Q (.bl false) H1
def i5i(ta:TE):TE:=fun σ H Q=>ta σ H fun x H1=>∃ c,x = .bl c/\Q (.bl (!c)) H1
theorem h0s{op}{t:TE}(h:PE X a t):PE X (.BoolOp op [a] pos) t:=fun pins s σ H Q I hw=>BoolOp_one (h pins s σ H Q I hw)
theorem i5j(ha:PE X a ta)(hb:PE X (.BoolOp .And (b :: rest) pos) tb):PE X (.BoolOp .And (a :: b :: rest) pos) (i5h ta tb):=by
 intro pins s σ H Q I h
 refine BoolOp_and (thn (ha pins s σ H _ I h) fun v s1 ⟨x,H1,I1,r1,q1⟩=>?_)
 obtain⟨c,rfl,q1⟩:=q1
 cases r1
 refine wpAny_truthy_bool ?_
 cases c with
 | true=>exact hb pins s1 σ H1 Q I1 q1
 | false=>exact⟨.bl false,H1,I1,rfl,q1⟩
theorem i5k(ha:PE X a ta):PE X (.UnaryOp .Not a pos) (i5i ta):=by
 intro pins s σ H Q I h
 refine UnaryOp_ (thn (ha pins s σ H _ I h) fun v s1 ⟨x,H1,I1,r1,q1⟩=>?_)
 obtain⟨c,rfl,q1⟩:=q1
 cases r1
 exact not_of (wpAny_truthy_bool ⟨.bl (!c),H1,I1,rfl,q1⟩)
def tIf(t:TT)(ta tb:TE):TE:=fun σ H Q=>t σ H fun c H1=>if c=true then ta σ H1 Q else tb σ H1 Q
theorem f5g{c:Expr}(hc:PT X c tA)(ha:PE X a ta)(hb:PE X b tb):PE X (.IfExp c a b pos) (tIf tA ta tb):=by
 intro pins s σ H Q I h
 refine wpAny_IfExp (thn (hc pins s σ H _ I h) fun d s1 ⟨H1,I1,q1⟩=>?_)
 cases d with
 | true=>exact ha pins s1 σ H1 Q I1 q1
 | false=>exact hb pins s1 σ H1 Q I1 q1
end
end L2
namespace L2
open PySem PySem.Spec PyProof.Rows
def SqL(K:PySem.W.Frag)(H:Hp)(a:Addr)(xs:List V):Prop :=
 Rd H a (.lst xs) \/
  ∃ (o : Obj) (its : Array Value) (n : Nat), K.lookup a = some o ∧ o.cls = .type "list" ∧ o.dict = none ∧ o.data = .seq its n ∧ its.size ≤ sizeLine ∧ Vals xs its.toList
def SqT(K:PySem.W.Frag)(H:Hp)(a:Addr)(xs:List V):Prop :=
 Rd H a (.tup xs) \/
  ∃ (o : Obj) (its : Array Value) (n : Nat), K.lookup a = some o ∧ o.cls = .type "tuple" ∧ o.data = .seq its n ∧ its.size ≤ sizeLine ∧ Vals xs its.toList
noncomputable def absV:Value->Option V
 | .none=>some .non
 | .bool b=>some (.bl b)
 | .int i _=>some (.int i)
 | .str x _=>some (.str x)
 | .bytes b _=>some (.byt b)
 | .float b _=>some (.flt b)
 | .ref a=>some (.ref a)
 | .type n=>some (.ty n)
 | _=>none
theorem RelV.abs{x:V}{u:Value}(r:RelV x u):absV u=some x:=by
 cases x with
 | non=>cases r; rfl
 | bl _=>cases r; rfl
 | int _=>obtain⟨t,rfl⟩:=r; rfl
 | str _=>obtain⟨t,rfl⟩:=r; rfl
 | byt _=>obtain⟨t,rfl⟩:=r; rfl
 | flt _=>obtain⟨t,rfl⟩:=r; rfl
 | ref _=>cases r; rfl
 | ty _=>cases r; rfl
theorem RelV.inj{x y:V}{u:Value}(r:RelV x u)(q:RelV y u):x=y:=Option.some.inj (r.abs.symm.trans q.abs)
theorem Vals.inj:∀ {xs ys:List V} {us:List Value},Vals xs us->Vals ys us->xs=ys
 | _,_,_,.nil,.nil=>rfl
 | _,_,_,.cons r t,.cons r' t'=>by rw [r.inj r',Vals.inj t t']
section
variable {X:Cx}{pins:List (Addr×Obj)}{σ:St}{H:Hp}{s:Shared}{a:Addr}{xs ys:List V}
theorem SqL.of{K:PySem.W.Frag}(h:H a=some (.lst xs)):SqL K H a xs:=.inl (.inl h)
theorem SqT.of{K:PySem.W.Frag}(h:H a=some (.tup xs)):SqT K H a xs:=.inl (.inl h)
theorem Inv.list(I:Inv X pins σ H s)(h:SqL X.K H a xs):∃ its:List Value,Vals xs its/\PlainL s.heap a its.toArray/\xs.length<=sizeLine:=by
 rcases h with h | ⟨o,its,n,hk,hc,hd,hs,hz,r⟩
 ·obtain⟨z,its,n,r,e⟩:=h.ok I.hok
  exact⟨its,r,⟨_,n,e,rfl,rfl,rfl⟩,z⟩
 ·refine⟨its.toList,r,⟨o,n,I.kIn a o hk,hc,hd,by simpa using hs⟩,?_⟩
  have e:=r.length
  simp only [Array.length_toList] at e
  omega
theorem Inv.tuple(I:Inv X pins σ H s)(h:SqT X.K H a xs):∃ its:List Value,Vals xs its/\IsTup s.heap a its.toArray/\xs.length<=sizeLine:=by
 rcases h with h | ⟨o,its,n,hk,hc,hs,hz,r⟩
 ·obtain⟨z,its,r,p⟩:=h.ok I.hok
  exact⟨its,r,p,z⟩
 ·refine⟨its.toList,r,⟨o,I.kIn a o hk,hc,n,by simpa using hs⟩,?_⟩
  have e:=r.length
  simp only [Array.length_toList] at e
  omega
theorem Inv.g6k(I:Inv X pins σ H s)(h:SqL X.K H a xs)(h':SqL X.K H a ys):xs=ys:=by
 obtain⟨its,r,⟨o,n,e,_,_,d⟩,_⟩:=I.list h
 obtain⟨its',r',⟨o',n',e',_,_,d'⟩,_⟩:=I.list h'
 rw [e] at e'; cases e'
 rw [d] at d'
 injection d' with d1 _
 have:its=its':=by simpa using congrArg Array.toList d1
 subst this
 exact r.inj r'
theorem Inv.h0t(I:Inv X pins σ H s)(h:SqT X.K H a xs)(h':SqT X.K H a ys):xs=ys:=by
 obtain⟨its,r,⟨o,e,_,n,d⟩,_⟩:=I.tuple h
 obtain⟨its',r',⟨o',e',_,n',d'⟩,_⟩:=I.tuple h'
 rw [e] at e'; cases e'
 rw [d] at d'
 injection d' with d1 _
 have:its=its':=by simpa using congrArg Array.toList d1
 subst this
 exact r.inj r'
end
noncomputable abbrev Cx.wish(X:Cx)(E:Value->Shared->Prop):Cx:={ X with xe:=E }
noncomputable abbrev Cx.nox(X:Cx):Cx:=X.wish fun _ _=>False
theorem Cx.Ok.wish{X:Cx}(ok:X.Ok)(E:Value->Shared->Prop):(X.wish E).Ok :=
 ⟨ok.mod,ok.kind,ok.glob,ok.blt,ok.above,ok.inj,ok.has,ok.cab,ok.hd,ok.frames,ok.stk,ok.exf,ok.bs,ok.bsz,ok.i4p,ok.i9t,ok.h0i,ok.frf⟩
theorem Cx.Ok.c7g{X:Cx}{E:Value->Shared->Prop}(ok:(X.wish E).Ok):X.Ok :=
 ⟨ok.mod,ok.kind,ok.glob,ok.blt,ok.above,ok.inj,ok.has,ok.cab,ok.hd,ok.frames,ok.stk,ok.exf,ok.bs,ok.bsz,ok.i4p,ok.i9t,ok.h0i,ok.frf⟩
section
variable {X:Cx}{pins:List (Addr×Obj)}{σ:St}{H:Hp}{s:Shared}{E:Value->Shared->Prop}
theorem Inv.wish(I:Inv X pins σ H s)(E:Value->Shared->Prop):Inv (X.wish E) pins σ H s:=⟨I.ok.wish E,I.os,I.bare,I.base,I.loc,I.cell,I.free,I.d6u,I.pin,I.hok,I.len⟩
theorem Inv.c7g(I:Inv (X.wish E) pins σ H s):Inv X pins σ H s:=⟨I.ok.c7g,I.os,I.bare,I.base,I.loc,I.cell,I.free,I.d6u,I.pin,I.hok,I.len⟩
theorem SP.c7g{D:Ends}{f:Flow}{s':Shared}(h:SP (X.wish E) pins D f s'):SP X pins D f s':=by
 cases f with
 | next=>obtain⟨σ',H',I,q⟩:=h; exact⟨σ',H',I.c7g,q⟩
 | brk=>obtain⟨σ',H',I,q⟩:=h; exact⟨σ',H',I.c7g,q⟩
 | cont=>obtain⟨σ',H',I,q⟩:=h; exact⟨σ',H',I.c7g,q⟩
 | ret u=>obtain⟨v,σ',H',I,r,q⟩:=h; exact⟨v,σ',H',I.c7g,r,q⟩
theorem PSs.nox{st:List Stmt}{t:TS}(h:PSs X.nox st t):PSs X st t:=fun pins s σ H D I hw =>
 wpAny_mono (h pins s σ H D (I.wish _) hw) (fun _ _ q=>q.c7g) fun _ _ z=>False.elim z
end
section
variable {X:Cx}{st:Stmt}{rest:List Stmt}{t u:TS}{e:Expr}{te:TE}{pos:Pos}
def j0h:TS:=fun D σ H=>D.nx σ H
def tSeq(t u:TS):TS:=fun D σ H=>t { D with nx:=u D } σ H
theorem a2h:PSs X [] j0h:=fun _ _ σ H _ I h=>wpAny_execs_nil ⟨σ,H,I,h⟩
theorem a0h(h1:PS X st t)(h2:PSs X rest u):PSs X (st :: rest) (tSeq t u):=by
 intro pins s σ H D I h
 refine wpAny_execs_cons (thn (h1 pins s σ H { D with nx:=u D } I h) fun f s1 q=>?_)
 cases f with
 | next =>
  obtain⟨σ',H',I',q⟩:=q
  exact h2 pins s1 σ' H' D I' q
 | ret v=>exact q
 | brk=>exact q
 | cont=>exact q
theorem a0j(h1:PS X st t):PSs X [st] t:=by
 intro pins s σ H D I h
 refine wpAny_execs_cons (thn (h1 pins s σ H D I h) fun f s1 q=>?_)
 cases f with
 | next=>exact wpAny_execs_nil q
 | ret v=>exact q
 | brk=>exact q
 | cont=>exact q
theorem Inv.quiet{pins:List (Addr×Obj)}{σ:St}{H:Hp}{s:Shared}(I:Inv X pins σ H s):interactive X.env=false:=by simp [interactive,I.ok.kind]
def j0i(te:TE):TS:=fun D σ H=>te σ H fun _ H1=>D.nx σ H1
theorem a6m(he:PE X e te)(hs:swapsWith e none pos.line X.env=pure false:=by rfl):PS X (.Expr e pos) (j0i te):=by
 intro pins s σ H D I h
 exact wpAny_Expr_any (thn (he pins s σ H _ I h) fun v s1 ⟨x,H1,I1,r1,q1⟩=>⟨σ,H1,I1,q1⟩) I.quiet hs
def tRet(te:TE):TS:=fun D σ H=>te σ H D.rt
theorem a1h(he:PE X e te):PS X (.Return (some e) pos) (tRet te):=by
 intro pins s σ H D I h
 exact wpAny_Return_some (thn (he pins s σ H _ I h) fun v s1 ⟨x,H1,I1,r1,q1⟩=>⟨x,σ,H1,I1,r1,q1⟩)
def tRetN:TS:=fun D _ H=>D.rt .non H
def tIfS(c:TT)(t u:TS):TS:=fun D σ H=>c σ H fun b H1=>if b=true then t D σ H1 else u D σ H1
theorem a6n{c:Expr}{a b:List Stmt}{tc:TT}(hc:PT X c tc)(ha:PSs X a t)(hb:PSs X b u):PS X (.If c a b pos) (tIfS tc t u):=by
 intro pins s σ H D I h
 refine wpAny_If (thn (hc pins s σ H _ I h) fun d s1 ⟨H1,I1,q1⟩=>?_)
 cases d with
 | true=>exact ha pins s1 σ H1 D I1 q1
 | false=>exact hb pins s1 σ H1 D I1 q1
def i5l:TS:=fun _ _ _=>False
theorem a2w:PS X st i5l:=fun _ _ _ _ _ _ h=>h.elim
end
noncomputable abbrev TG:=V->St->Hp->(St->Hp->Prop)->Prop
noncomputable abbrev TGs:=List V->St->Hp->(St->Hp->Prop)->Prop
def PG(X:Cx)(target:Expr)(t:TG):Prop :=
 ∀ (pins:List (Addr×Obj)) (s:Shared) (σ:St) (H:Hp) (v:V) (u:Value) (Q:St->Hp->Prop),Inv X pins σ H s->RelV v u->t v σ H Q ->
  wpAny (model X.prog X.w) X.A (assign target X.env u) (fun _ s'=>∃ σ' H',Inv X pins σ' H' s'/\Q σ' H') X.xe s
def PGs(X:Cx)(ts:List Expr)(t:TGs):Prop :=
 ∀ (pins:List (Addr×Obj)) (s:Shared) (σ:St) (H:Hp) (vs:List V) (us:List Value) (Q:St->Hp->Prop),Inv X pins σ H s->Vals vs us->t vs σ H Q ->
  wpAny (model X.prog X.w) X.A (assignInOrder ((assignEach ts X.env).map (·.2)) us) (fun _ s'=>∃ σ' H',Inv X pins σ' H' s'/\Q σ' H') X.xe s
noncomputable abbrev j0j:=V->V->V->Hp->(Hp->Prop)->Prop
def j0k(X:Cx)(t:j0j):Prop :=
 ∀ (pins:List (Addr×Obj)) (s:Shared) (σ:St) (H:Hp) (o i v:V) (ov iv u:Value) (Q:Hp->Prop),Inv X pins σ H s->RelV o ov->RelV i iv->RelV v u->t o i v H Q ->
  wpAny (model X.prog X.w) X.A (setItem ov iv u) (fun _ s'=>∃ H',Inv X pins σ H' s'/\Q H') X.xe s
noncomputable abbrev TIp:=V->V->Hp->VK->Prop
section
variable {X:Cx}{pos:Pos}
def i1a(i:Nat):TG:=fun v σ H Q=>Q (σ.set i (some v)) H
theorem a2o{i:Nat}{x:Str}(hN:X.N.Nodup)(hi:X.N[i]? = some x)(hx:Loc X.env.scope x)(hf:X.fn x=true\/X.env.scope.names.lookup x=some .local:=by first | exact .inl rfl | exact .inr rfl | assumption):PG X (.Name x pos) (i1a i):=by
 intro pins s σ H v u Q I r h
 exact wpAny_assign_Name (g6j I hN hi hx r (fun s' I'=>⟨_,H,I',h⟩) hf)
noncomputable def gNil:TGs:=fun vs σ H Q=>vs = []/\Q σ H
def j0l(t:TG)(u:TGs):TGs:=fun vs σ H Q=>∃ v r,vs=v :: r/\t v σ H fun σ' H'=>u r σ' H' Q
theorem h0u:PGs X [] gNil:=by
 intro pins s σ H vs us Q I r h
 obtain⟨e,h⟩:=h
 subst e
 cases r
 exact assignInOrder_nil ⟨σ,H,I,h⟩
theorem f5h{e:Expr}{es:List Expr}{t:TG}{u:TGs}(h1:PG X e t)(h2:PGs X es u)
  (hs:(assignEach (e :: es) X.env).map (·.2)=assign e X.env :: (assignEach es X.env).map (·.2):=by rfl):PGs X (e :: es) (j0l t u):=by
 intro pins s σ H vs us Q I r h
 obtain⟨v,vr,e1,h⟩:=h
 subst e1
 cases r with
 | cons r rr =>
  rw [hs]
  refine assignInOrder_cons (thn (h1 pins s σ H _ _ _ I r h) fun _ s1 ⟨σ1,H1,I1,q1⟩=>?_)
  exact h2 pins s1 σ1 H1 _ _ Q I1 rr q1
def gTup(K:PySem.W.Frag)(n:Nat)(t:TGs):TG:=fun v σ H Q=>∃ a xs,v = .ref a/\SqT K H a xs/\xs.length=n/\t xs σ H Q
theorem h9i{es:List Expr}{k:Nat}{t:TGs}{n:Nat}(hc:X.calm=true)(h:PGs X es t)
  (hn:(assignEach es X.env).length=n:=by rfl) (hst:(assignEach es X.env).findIdx? (·.1)=none:=by rfl):PG X (.Tuple es k pos) (gTup X.K n t):=by
 intro pins s σ H v u Q I r hw
 obtain⟨a,xs,e1,hq,hl,hw⟩:=hw
 subst e1
 cases r
 obtain⟨its,rv,ht,hz⟩:=I.tuple hq
 refine assign_Tuple_tuple (I.ok.hd hc) ht (by simp [hn,<- hl,rv.length]) hst fun h' hx=>?_
 have I1:Inv X pins σ H { s with heap:=h' }:=I.kept (t':=s.toks) fun b o e=>hx b o (Nat.ne_of_lt (Heap.lt_size e)) e
 exact h pins _ σ H xs _ Q I1 (by simpa using rv) hw
def gSub(to ti:TE)(t:j0j):TG:=fun v σ H Q=>to σ H fun o H1=>ti σ H1 fun i H2=>t o i v H2 fun H3=>Q σ H3
theorem i5m{o i:Expr}{to ti:TE}{t:j0j}(ho:PE X o to)(hi:PE X i ti)(hs:j0k X t)
  (ha:∀ v,assign (.Subscript o i pos) X.env v=(do
   let ov <- holding [v] (eval o X.env)
   let iv <- holding [v,ov] (eval i X.env)
   standAt pos
   holding [v,ov,iv] (setItem ov iv v)
   release [v,ov,iv] []):=by intro _; rfl):PG X (.Subscript o i pos) (gSub to ti t):=by
 intro pins s σ H v u Q I r h
 rw [ha]
 refine wpAny_bind (wpAny_holding (thn (ho pins s σ H _ I h) fun ov s1 ⟨x,H1,I1,r1,q1⟩=>?_))
 refine wpAny_bind (wpAny_holding (thn (hi pins s1 σ H1 _ I1 q1) fun iv s2 ⟨y,H2,I2,r2,q2⟩=>?_))
 refine wpAny_bind (wpAny_standAt (wpAny_bind (wpAny_holding (thn (hs pins s2 σ H2 x y v ov iv u _ I2 r1 r2 r q2) fun _ s3 ⟨H3,I3,q3⟩=>?_))))
 exact wpAny_release ⟨σ,H3,I3,q3⟩
def j0m(te:TE)(g:TG):TS:=fun D σ H=>te σ H fun x H1=>g x σ H1 D.nx
theorem i5n{tg e:Expr}{te:TE}{g:TG}(he:PE X e te)(hg:PG X tg g)(hs:swapsWithSole [tg] e pos.line X.env=pure false:=by rfl)(hw:swappedStores [tg] e X.env=pure none:=by rfl)
  (h1:(assignEach [tg] X.env).map (·.2) = [assign tg X.env]:=by rfl):PS X (.Assign [tg] e pos) (j0m te g):=by
 intro pins s σ H D I h
 refine wpAny_Assign_stores (thn (he pins s σ H _ I h) fun v s1 ⟨x,H1,I1,r1,q1⟩=>?_) hs hw
 rw [h1]
 exact thn (hg pins s1 σ H1 x v _ I1 r1 q1) fun _ s2 q=>q
theorem a0s{i:Nat}{x:Str}{e:Expr}{te:TE}{pos':Pos}(hN:X.N.Nodup)(hi:X.N[i]? = some x)(hx:Loc X.env.scope x)(he:PE X e te)(hs:swapsWith e (some (.Name x pos')) pos.line X.env=pure false:=by rfl)(hf:X.fn x=true\/X.env.scope.names.lookup x=some .local:=by first | exact .inl rfl | exact .inr rfl | assumption) :
  PS X (.Assign [.Name x pos'] e pos) (j0m te (i1a i)):=by
 intro pins s σ H D I h
 refine wpAny_Assign_Name (thn (he pins s σ H _ I h) fun v s1 ⟨y,H1,I1,r1,q1⟩=>?_) hs
 exact g6j I1 hN hi hx r1 (fun s2 I2=>⟨_,H1,I2,q1⟩) hf
end
section
variable {X:Cx}{pos:Pos}
end
structure It where
 go:Nat->Hp->Prop
 yld:Nat->Hp->V->Hp->Prop
 stop:Nat->Hp->Prop
def d7u(X:Cx)(pins:List (Addr×Obj))(H:Hp)(b:Addr):Prop :=
 H b=none/\b≠X.env.locals/\b∉X.fs/\(b∈X.ex\/X.s₀.heap.objs.size<=b)/\(∀ x c,X.env.cells.lookup x=some c->c≠b)/\∀ p∈X.pn++pins,p.1≠b
theorem Inv.h9j{X:Cx}{pins:List (Addr×Obj)}{σ:St}{H H':Hp}{s:Shared}{b:Addr}(I:Inv X pins σ H s)(hb:s.heap.objs.size<=b)(hn:H' b=none):d7u X pins H' b:=by
 refine⟨hn,Nat.ne_of_gt (Nat.lt_of_lt_of_le I.lt hb),I.nofs hb,.inr (Nat.le_trans I.sz hb),fun x c e z=>?_,fun p hp z=>?_⟩
 ·obtain⟨v,q⟩:=I.cell x c e
  exact absurd (Nat.lt_of_lt_of_le q.lt (by rw [z]; exact hb)) (Nat.lt_irrefl _)
 ·exact absurd (Nat.lt_of_lt_of_le (Heap.lt_size (I.pin p hp).1) (by rw [z]; exact hb)) (Nat.lt_irrefl _)
structure Turn(P:Program)(w:World)(K:PySem.W.Frag)(tg:Expr)(J:It)(fp:List Addr)(it:Addr)(tn:Nat->Heap->Prop):Prop where
 mem:it∈fp
 obj:∀ i h,tn i h->∀ b∈fp,∃ o,h.get? b=some o/\∀ v,o.data≠.cell v
 keep:∀ i h h',tn i h->(∀ b∈fp,∀ o,h.get? b=some o->h'.get? b=some o)->tn i h'
 item:∀ (X:Cx),X.prog=P->X.w=w->X.K=K->X.calm=true->∀ (i:Nat) (pins:List (Addr×Obj)) (s:Shared) (σ:St) (H:Hp) (E:Value->Shared->Prop),Inv X pins σ H s->(∀ b∈fp,d7u X pins H b)->tn i s.heap->J.go i H ->
  wpAny (model P w) X.A (pyNext (.ref it)) (fun r s1=>∃ u,r=some u /\
   wpAny (model P w) X.A (letOwnedTupleGo tg (.ref it) u) (fun _ s2=>∃ x H',Inv X pins σ H' s2/\RelV x u/\J.yld i H x H'/\tn (i+1) s2.heap/\∀ b∈fp,H' b=none) E s1) E s
 done:∀ (X:Cx),X.prog=P->X.w=w->X.K=K->X.calm=true->∀ (i:Nat) (pins:List (Addr×Obj)) (s:Shared) (σ:St) (H:Hp) (E:Value->Shared->Prop),Inv X pins σ H s->(∀ b∈fp,d7u X pins H b)->tn i s.heap->J.stop i H ->
  wpAny (model P w) X.A (pyNext (.ref it)) (fun r s1=>r=none/\Inv X pins σ H s1) E s
 self:∀ (A:Around) (i:Nat) (s:Shared) (Q:Value->Shared->Prop) (E:Value->Shared->Prop),tn i s.heap->Q (.ref it) s->wpAny (model P w) A (pyIter (.ref it)) Q E s
noncomputable abbrev TI:=St->Hp->(It->Hp->Prop)->Prop
def PIE(X:Cx)(pins:List (Addr×Obj))(σ:St)(tg:Expr)(R:It->Hp->Prop)(itv:Value)(s2:Shared):Prop :=
 ∃ (it:Addr) (fp:List Addr) (tn:Nat->Heap->Prop) (J:It) (H':Hp),itv = .ref it/\Inv X pins σ H' s2/\Turn X.prog X.w X.K tg J fp it tn/\tn 0 s2.heap/\(∀ b∈fp,d7u X pins H' b)/\R J H'
def PI(X:Cx)(tg iter:Expr)(wi:TI):Prop :=
 ∀ (pins:List (Addr×Obj)) (s:Shared) (σ:St) (H:Hp) (R:It->Hp->Prop),Inv X pins σ H s->wi σ H R ->
  wpAny (model X.prog X.w) X.A (eval iter X.env) (fun v s1=>wpAny (model X.prog X.w) X.A (pyIter v) (PIE X pins σ tg R) X.xe s1) X.xe s
theorem i1b{M:Model}{A:Around}{E:Value->Shared->Prop}{s:Shared}{tg:Expr}{it:Addr}{u:Value}{o:Obj}{n:String}{vs:Array Value}{Q:Unit->Shared->Prop}(ho:s.heap.get? it=some o)(hc:o.cls = .type n)(hd:o.data = .fields vs)
  (hn : ["enumerate", "zip", "dict_itemiterator", "dict_reverseitemiterator", "odict_iterator", "itertools.zip_longest", "itertools.pairwise"].contains n = false) (hQ : Q () s) : wpAny M A (letOwnedTupleGo tg (.ref it) u) Q E s := by
 unfold letOwnedTupleGo
 cases tg <;> first
  | exact wpAny_pure hQ
  | (cases u <;> first
    | exact wpAny_pure hQ
    | (refine wpAny_bind (wpAny_load ho ?_)
       rw [hc,hd]
       show wpAny M A (if (["enumerate", "zip", "dict_itemiterator", "dict_reverseitemiterator", "odict_iterator", "itertools.zip_longest", "itertools.pairwise"].contains n && vs[0]? == some (rawInt _)) = true then _ else _) Q E s
       rw [if_neg (by intro h; rw [hn,Bool.false_and] at h; cases h)]
       exact wpAny_pure hQ))
noncomputable def Itl(K:PySem.W.Frag)(a:Addr):It :=
 ⟨fun i H=>∃ xs x,SqL K H a xs/\xs[i]? = some x,fun i H x H'=>H'=H/\∀ xs,SqL K H a xs->xs[i]? = some x,fun i H=>∃ xs,SqL K H a xs/\xs.length<=i⟩
noncomputable def Itt(K:PySem.W.Frag)(a:Addr):It :=
 ⟨fun i H=>∃ xs x,SqT K H a xs/\xs[i]? = some x,fun i H x H'=>H'=H/\∀ xs,SqT K H a xs->xs[i]? = some x,fun i H=>∃ xs,SqT K H a xs/\xs.length<=i⟩
noncomputable def Itr(lo:Int)(n:Nat):It:=⟨fun i _=>i < n,fun i H x H'=>H'=H/\x = .int (lo+i),fun i _=>n<=i⟩
theorem h0v{P:Program}{w:World}{K:PySem.W.Frag}{tg:Expr}(a it:Addr):Turn P w K tg (Itl K a) [it] it (fun i h=>h.IsListIter it a i) where
 mem:=by simp
 obj:=fun i h st b hb=>by
  have e:b=it:=by simpa using hb
  subst e
  obtain⟨o,e,c,d⟩:=st
  exact⟨o,e,fun v z=>by rw [d] at z; cases z⟩
 keep:=fun i h h' st k=>st.at fun o e=>k it (by simp) o e
 item:=by
  intro X hP hw hK hc i pins s σ H E I hf st hg
  subst hP hw hK
  obtain⟨xs,x,hq,hx⟩:=hg
  obtain⟨its,rv,p,hz⟩:=I.list hq
  obtain⟨u,hu,ru⟩:=rv.get hx
  obtain⟨f0,f1,f2,f3,f4,f5⟩:=hf it (by simp)
  refine wpAny_pyNext_list_item st p.isList (x:=u) (by simpa using hu) fun h' st' sb=>?_
  have I1:Inv X pins σ H { s with heap:=h' }:=I.turned (t':=s.toks) (fun b o hb e=>(sb.2 b hb).trans e) f0 f1 f3 f4 f5
  obtain⟨o,e,c,d⟩:=id st'
  exact⟨u,rfl,i1b (s:={ s with heap:=h' }) e c d (by decide) ⟨x,H,I1,ru,⟨rfl,fun ys hy=>by rw [I.g6k hy hq]; exact hx⟩,st',fun b hb=>(hf b hb).1⟩⟩
 done:=by
  intro X hP hw hK hc i pins s σ H E I hf st hg
  subst hP hw hK
  obtain⟨xs,hq,hx⟩:=hg
  obtain⟨its,rv,p,hz⟩:=I.list hq
  obtain⟨f0,f1,f2,f3,f4,f5⟩:=hf it (by simp)
  have hl:=rv.length
  exact wpAny_pyNext_list_end (I.ok.hd hc) st p.isList (by simp; omega) fun h' eb=>⟨rfl,I.turned (t':=s.toks) (fun b o hb e=>eb b o hb e) f0 f1 f3 f4 f5⟩
 self:=fun _ _ _ _ _ st h=>wpAny_pyIter_listiter st h
theorem g7y{P:Program}{w:World}{K:PySem.W.Frag}{tg:Expr}(it:Addr)(lo:Int)(n:Nat):Turn P w K tg (Itr lo n) [it] it (fun i h=>IsRangeIter h it (lo+(i:Nat)*1) ((n:Int) - (i:Nat)) 1) where
 mem:=by simp
 obj:=fun i h st b hb=>by
  have e:b=it:=by simpa using hb
  subst e
  exact⟨_,st,fun v z=>by
   have z':Data.fields _=Data.cell v:=z
   cases z'⟩
 keep:=fun i h h' st k=>k it (by simp) _ st
 item:=by
  intro X hP hw hK hc i pins s σ H E I hf st hg
  subst hP hw hK
  obtain⟨f0,f1,f2,f3,f4,f5⟩:=hf it (by simp)
  have W:=Walks.range (prog:=X.prog) (w:=X.w) (I.ok.hd hc) it lo 1 n
  refine W.item i s _ _ hg st fun v h' tk hv st' kk=>?_
  obtain⟨t,rfl⟩:=hv
  have I1:Inv X pins σ H { s with heap:=h',toks:=tk }:=I.turned (fun b o hb e=>kk b o (by simpa using hb) e) f0 f1 f3 f4 f5
  refine ⟨_, rfl, i1b (s := { s with heap := h', toks := tk }) (n := "range_iterator") st' rfl rfl (by decide) ⟨.int (lo + i), H, I1, ⟨t, ?_⟩, ⟨rfl, rfl⟩, st', fun b hb => (hf b hb).1⟩⟩
  rw [Int.mul_one]
 done:=by
  intro X hP hw hK hc i pins s σ H E I hf st hg
  subst hP hw hK
  obtain⟨f0,f1,f2,f3,f4,f5⟩:=hf it (by simp)
  exact wpAny_pyNext_range_end (I.ok.hd hc) st (by have:n<=i:=hg; omega) fun h' eb=>⟨rfl,I.turned (t':=s.toks) (fun b o hb e=>eb b o hb e) f0 f1 f3 f4 f5⟩
 self:=fun _ _ _ _ _ st h=>wpAny_pyIter_rangeiter st h
end L2
namespace L2
open PySem PySem.Spec PyProof.Rows
section
variable {X:Cx}{tg:Expr}
def i5o(K:PySem.W.Frag)(tl:TE):TI:=fun σ H R=>tl σ H fun x H1=>∃ a,x = .ref a/\(∃ xs,SqL K H1 a xs)/\R (Itl K a) H1
theorem i1c{l:Expr}{tl:TE}(hl:PE X l tl):PI X tg l (i5o X.K tl):=by
 intro pins s σ H R I h
 refine thn (hl pins s σ H _ I h) fun v s1 ⟨x,H1,I1,r1,q1⟩=>?_
 obtain⟨a,e,⟨xs,hq⟩,q⟩:=q1
 subst e
 cases r1
 obtain⟨its,rv,p,hz⟩:=I1.list hq
 refine wpAny_pyIter_list p.isList ?_
 refine⟨s1.heap.objs.size,[s1.heap.objs.size],_,_,H1,rfl,I1.kept (t':=s1.toks) fun b o e=>Heap.get?_push_of_some _ e,h0v a _,⟨_,Heap.get?_push_size _ rfl,rfl,rfl⟩,fun b hb=>?_,q⟩
 have e:b=s1.heap.objs.size:=by simpa using hb
 subst e
 exact I1.h9j (Nat.le_refl _) (I1.hok.fresh (Nat.le_refl _))
theorem g6l{pins:List (Addr×Obj)}{σ:St}{H:Hp}{s:Shared}{R:It->Hp->Prop}{E:Value->Shared->Prop}{lo hi:Int}{t u v:Tok}{tk:Nat}(I:Inv X pins σ H s)(h1 : -(2 ^ 62)<=lo)(h2:lo < 2 ^ 62)(h3 : -(2 ^ 62)<=hi)(h4:hi < 2 ^ 62)
  (q : R (Itr lo (hi - lo).toNat) H) : wpAny (model X.prog X.w) X.A (pyIter (.ref s.heap.objs.size)) (PIE X pins σ tg R) E { s with heap := s.heap.push { cls := .type "range", data := .fields #[.int lo t, .int hi u, .int 1 v] }, toks := tk } := by
 refine wpAny_pyIter_range (IsRange.new ..) (small_one h1 h2 h3 h4) ?_
 have I1 : Inv X pins σ H { s with heap := s.heap.push { cls := .type "range", data := .fields #[.int lo t, .int hi u, .int 1 v] }, toks := tk } := I.kept fun b o e => Heap.get?_push_of_some _ e
 refine ⟨(s.heap.push { cls := .type "range", data := .fields #[.int lo t, .int hi u, .int 1 v] }).objs.size, [(s.heap.push { cls := .type "range", data := .fields #[.int lo t, .int hi u, .int 1 v] }).objs.size], _, _, H, rfl,
  I1.kept (t':=tk) fun b o e=>Heap.get?_push_of_some _ e,g7y _ lo (hi - lo).toNat,?_,fun b hb=>?_,q⟩
 ·have e1:lo+((0:Nat):Int)*1=lo:=by simp
  have e2:(((hi - lo).toNat:Nat):Int) - ((0:Nat):Int)=Builtin.Range.rangeSize lo hi 1:=by rw [rangeSize_one]; split <;> omega
  show IsRangeIter _ _ (lo+((0:Nat):Int)*1) ((((hi - lo).toNat:Nat):Int) - ((0:Nat):Int)) 1
  rw [e1,e2]
  exact Heap.get?_push_size _ rfl
 ·have e : b = (s.heap.push { cls := .type "range", data := .fields #[.int lo t, .int hi u, .int 1 v] }).objs.size := by simpa using hb
  subst e
  exact I1.h9j (Nat.le_refl _) (I1.hok.fresh (Nat.le_refl _))
def i5p(ta:TA):TI:=fun σ H R=>ta σ H fun vs H1=>∃ j:Int,vs = [.int j] /\ -(2 ^ 62)<=j/\j < 2 ^ 62/\R (Itr 0 j.toNat) H1
def i5q(ta:TA):TI:=fun σ H R=>ta σ H fun vs H1=>∃ i j:Int,vs = [.int i,.int j]/\(-(2 ^ 62)<=i/\i < 2 ^ 62 /\ -(2 ^ 62)<=j/\j < 2 ^ 62)/\R (Itr i (j - i).toNat) H1
theorem h0w {a : Expr} {ta : TA} {p pos : Pos} (hg : Gl X "range") (hm : X.mg "range" = none) (ha : PA X [a] ta) (hs : starEach [a] X.env = [(false, eval a X.env)] := by rfl) : PI X tg (.Call (.Name "range" p) [a] [] pos) (i5p ta) := by
 intro pins s σ H R I h
 refine Call_ (f3r I hg hm boot_range (PyProof.Rows.callWith_type1 (thn (ha pos pins s σ H _ I h) fun us s1 ⟨vs,H1,I1,r1,q1⟩=>?_) hs rfl))
 obtain⟨j,e,q1,q2,q⟩:=q1
 subst e
 cases r1 with
 | cons r rr =>
  cases rr
  obtain⟨t,rfl⟩:=r
  exact call_range_1 (g6l I1 (by omega) (by omega) q1 q2 (by simpa using q))
theorem h0x {a b : Expr} {ta : TA} {p pos : Pos} (hg : Gl X "range") (hm : X.mg "range" = none) (ha : PA X [a, b] ta) (hs : starEach [a, b] X.env = [(false, eval a X.env), (false, eval b X.env)] := by rfl) (hs2 : starEach [b] X.env = [(false, eval b X.env)] := by rfl) :
  PI X tg (.Call (.Name "range" p) [a, b] [] pos) (i5q ta) := by
 intro pins s σ H R I h
 refine Call_ (f3r I hg hm boot_range (PyProof.Rows.callWith_type1 (thn (ha pos pins s σ H _ I h) fun us s1 ⟨vs,H1,I1,r1,q1⟩=>?_) (by rw [hs,hs2]) (by rw [hs2]; rfl)))
 obtain⟨i,j,e,⟨q1,q2,q3,q4⟩,q⟩:=q1
 subst e
 cases r1 with
 | cons r rr =>
  cases rr with
  | cons r' rr =>
   cases rr
   obtain⟨t,rfl⟩:=r
   obtain⟨t',rfl⟩:=r'
   exact call_range_2 (g6l I1 q1 q2 q3 q4 q)
def tFor(wi:TI)(g:TG)(tb:TS):TS:=fun D σ H=>wi σ H fun J H1=>∃ W:Nat->Nat->St->Hp->Prop,(∃ m,W 0 m σ H1)/\∀ i m σ H,W i m σ H ->
 (J.stop i H/\D.nx σ H)\/(J.go i H/\∃ N:St->Hp->Prop,(∀ σ' H',N σ' H'->∃ m',m' < m/\W (i+1) m' σ' H')/\∀ x H',J.yld i H x H'->g x σ H' fun σ2 H2=>tb { D with nx:=N,ct:=N,bk:=D.nx } σ2 H2)
noncomputable def d5j(fp:List Addr)(h:Heap):List (Addr×Obj):=fp.filterMap fun b=>(h.get? b).map fun o=>(b,o)
theorem a7v{fp:List Addr}{h:Heap}{b:Addr}{o:Obj}(hb:b∈fp)(e:h.get? b=some o):(b,o)∈d5j fp h:=List.mem_filterMap.mpr ⟨b,hb,by rw [e]; rfl⟩
theorem h0y{fp:List Addr}{h:Heap}{p:Addr×Obj}(hp:p∈d5j fp h):p.1∈fp/\h.get? p.1=some p.2:=by
 obtain⟨b,hb,e⟩:=List.mem_filterMap.mp hp
 cases q:h.get? b with
 | none=>rw [q] at e; cases e
 | some o =>
  rw [q] at e
  have e':(b,o)=p:=Option.some.inj e
  subst e'
  exact⟨hb,q⟩
theorem Inv.pinned{pins:List (Addr×Obj)}{σ:St}{H:Hp}{s:Shared}{fp:List Addr}(I:Inv X pins σ H s)(hf:∀ b∈fp,d7u X pins H b)(ho:∀ b∈fp,∃ o,s.heap.get? b=some o/\∀ v,o.data≠.cell v):Inv X (pins++d5j fp s.heap) σ H s :=
 I.h0q fun p hp=>(List.mem_append.mp hp).elim (fun z=>I.pin p (List.mem_append_right _ z)) fun z=>by
  obtain⟨hb,e⟩:=h0y z
  obtain⟨f0,f1,f2,_⟩:=hf p.1 hb
  obtain⟨o,e',d⟩:=ho p.1 hb
  rw [e] at e'; cases e'
  exact⟨e,f0,f1,f2,d⟩
theorem Inv.c4o{pins pl:List (Addr×Obj)}{σ:St}{H:Hp}{s:Shared}(I:Inv X (pins++pl) σ H s):Inv X pins σ H s:=I.h0q fun p hp=>I.pin p (List.mem_append_right _ (List.mem_append_left _ hp))
theorem i5r{iter:Expr}{body:List Stmt}{wi:TI}{g:TG}{tb:TS}{pos:Pos}(hp:PassesOwn (model X.prog X.w) X.A X.env X.xe)(hc:X.calm=true)(hi:PI X tg iter wi)(hg:PG X tg g)(hb:PSs X body tb)
  (hs:∀ x,foldedSetIterable iter X.env x=pure x:=by intro _; rfl):PS X (.For tg iter body [] pos) (tFor wi g tb):=by
 intro pins s σ H D I h
 refine wpAny_For (thn (hi pins s σ H _ I h) fun v s1 h1=>thn h1 fun itv s2 h2=>?_) hs
 obtain⟨it,fp,tn,J,H2,e,I2,T,st2,f2,W,⟨m0,w0⟩,turn⟩:=h2
 subst e
 -- what stays true of the iterator's objects through the loop
 have stat:∀ {H':Hp},(∀ b∈fp,H' b=none)->∀ b∈fp,d7u X pins H' b:=fun hn b hb=>⟨hn b hb,(f2 b hb).2⟩
 refine codeAny_forLoop_any (fun n s'=>∃ i σ' H',Inv X pins σ' H' s'/\tn i s'.heap/\(∀ b∈fp,H' b=none)/\W i n σ' H') ?_ m0 ⟨0,σ,H2,I2,st2,fun b hb=>(f2 b hb).1,w0⟩
 rintro n s3 ⟨i,σ3,H3,I3,st3,fr3,w3⟩
 rcases turn i n σ3 H3 w3 with ⟨stop,qn⟩ | ⟨go,N,hN,step⟩
 ·refine wpAny_passesOwn hp (thn (T.done X rfl rfl rfl hc i pins s3 σ3 H3 X.xe I3 (stat fr3) st3 stop) fun r s4 ⟨hr,I4⟩=>?_)
  subst hr
  exact wpAny_execs_nil ⟨σ3,H3,I4,qn⟩
 ·refine wpAny_passesOwn hp (thn (T.item X rfl rfl rfl hc i pins s3 σ3 H3 X.xe I3 (stat fr3) st3 go) fun r s4 ⟨u,hr,h4⟩=>?_)
  subst hr
  refine wpAny_passesOwn hp (thn h4 fun _ s5 ⟨x,H5,I5,r5,y5,st5,fr5⟩=>?_)
  have I5':=I5.pinned (stat fr5) (T.obj _ _ st5)
  refine wpAny_passesOwn hp (thn (hg _ s5 σ3 H5 x u _ I5' r5 (step x H5 y5)) fun _ s6 ⟨σ6,H6,I6,q6⟩=>?_)
  refine wpAny_passesOwn hp (thn (hb _ s6 σ6 H6 _ I6 q6) fun f s7 q7=>?_)
  have again:∀ {σ7:St} {H7:Hp},Inv X (pins++d5j fp s5.heap) σ7 H7 s7->N σ7 H7->∃ m,m < n/\∃ i σ' H',Inv X pins σ' H' s7/\tn i s7.heap/\(∀ b∈fp,H' b=none)/\W i m σ' H':=fun {σ7 H7} I7 n7=>by
   obtain⟨m',hm,w7⟩:=hN σ7 H7 n7
   refine⟨m',hm,i+1,σ7,H7,I7.c4o,T.keep _ _ _ st5 fun b hb o e=>(I7.pin (b,o) (List.mem_append_right _ (List.mem_append_right _ (a7v hb e)))).1,fun b hb=>?_,w7⟩
   obtain⟨o,e,d⟩:=T.obj _ _ st5 b hb
   exact (I7.pin (b,o) (List.mem_append_right _ (List.mem_append_right _ (a7v hb e)))).2.1
  cases f with
  | next=>obtain⟨σ7,H7,I7,n7⟩:=q7; exact again I7 n7
  | cont=>obtain⟨σ7,H7,I7,n7⟩:=q7; exact again I7 n7
  | brk=>obtain⟨σ7,H7,I7,q7⟩:=q7; exact⟨σ7,H7,I7.c4o,q7⟩
  | ret v=>obtain⟨x7,σ7,H7,I7,r7,q7⟩:=q7; exact⟨x7,σ7,H7,I7.c4o,r7,q7⟩
end
theorem h6x{K:PySem.W.Frag}{a:Addr}{xs:List V}{g:TG}{tb:TS}{D:Ends}{σ:St}{H:Hp}(Pv:Nat->St->Hp->Prop)(h0:Pv 0 σ H)(hl:∀ i σ H,i<=xs.length->Pv i σ H->SqL K H a xs)
  (hs:∀ i x σ H,xs[i]? = some x->Pv i σ H->g x σ H fun σ2 H2=>tb { D with nx:=Pv (i+1),ct:=Pv (i+1),bk:=D.nx } σ2 H2) (hd:∀ σ H,Pv xs.length σ H->D.nx σ H) :
  ∃ W:Nat->Nat->St->Hp->Prop,(∃ m,W 0 m σ H)/\∀ i m σ H,W i m σ H ->
   ((Itl K a).stop i H/\D.nx σ H)\/((Itl K a).go i H/\∃ N:St->Hp->Prop,(∀ σ' H',N σ' H'->∃ m',m' < m/\W (i+1) m' σ' H')/\∀ x H',(Itl K a).yld i H x H'->g x σ H' fun σ2 H2=>tb { D with nx:=N,ct:=N,bk:=D.nx } σ2 H2):=by
 refine⟨fun i m σ H=>m=xs.length - i/\i<=xs.length/\Pv i σ H,⟨xs.length,by simp,Nat.zero_le _,h0⟩,?_⟩
 rintro i m σ H ⟨rfl,hi,p⟩
 have q:=hl i σ H hi p
 by_cases hlt:i < xs.length
 ·refine .inr ⟨⟨xs,xs[i],q,by simp [hlt]⟩,Pv (i+1),fun σ' H' p'=>⟨xs.length - (i+1),by omega,rfl,hlt,p'⟩,fun x H' y=>?_⟩
  obtain⟨e,y⟩:=y
  subst e
  exact hs i x σ _ (y xs q) p
 ·have e:i=xs.length:=by omega
  subst e
  exact .inl ⟨⟨xs,q,Nat.le_refl _⟩,hd σ H p⟩
theorem h0z{lo:Int}{n:Nat}{g:TG}{tb:TS}{D:Ends}{σ:St}{H:Hp}(Pv:Nat->St->Hp->Prop)(h0:Pv 0 σ H)
  (hs:∀ i σ H,i < n->Pv i σ H->g (.int (lo+i)) σ H fun σ2 H2=>tb { D with nx:=Pv (i+1),ct:=Pv (i+1),bk:=D.nx } σ2 H2) (hd:∀ σ H,Pv n σ H->D.nx σ H) :
  ∃ W:Nat->Nat->St->Hp->Prop,(∃ m,W 0 m σ H)/\∀ i m σ H,W i m σ H ->
   ((Itr lo n).stop i H/\D.nx σ H)\/((Itr lo n).go i H/\∃ N:St->Hp->Prop,(∀ σ' H',N σ' H'->∃ m',m' < m/\W (i+1) m' σ' H')/\∀ x H',(Itr lo n).yld i H x H'->g x σ H' fun σ2 H2=>tb { D with nx:=N,ct:=N,bk:=D.nx } σ2 H2):=by
 refine⟨fun i m σ H=>m=n - i/\i<=n/\Pv i σ H,⟨n,by simp,Nat.zero_le _,h0⟩,?_⟩
 rintro i m σ H ⟨rfl,hi,p⟩
 by_cases hlt:i < n
 ·refine .inr ⟨hlt,Pv (i+1),fun σ' H' p'=>⟨n - (i+1),by omega,rfl,hlt,p'⟩,fun x H' y=>?_⟩
  obtain⟨e,y⟩:=y
  subst e y
  exact hs i σ _ hlt p
 ·have e:i=n:=by omega
  subst e
  exact .inl ⟨Nat.le_refl _,hd σ H p⟩
end L2
namespace L2
open PySem PySem.Spec PyProof.Rows
noncomputable abbrev R2:=V->V->Hp->VK->Prop
def OpR(X:Cx)(f:Value->Value->Sem Value)(r:R2):Prop :=
 ∀ (pins:List (Addr×Obj)) (s:Shared) (σ:St) (H:Hp) (x y:V) (v u:Value) (Q:VK),Inv X pins σ H s->RelV x v->RelV y u->r x y H Q ->
  wpAny (model X.prog X.w) X.A (f v u) (EP X pins σ Q) X.xe s
def UnR(X:Cx)(f:Value->Sem Value)(r:V->Hp->VK->Prop):Prop :=
 ∀ (pins:List (Addr×Obj)) (s:Shared) (σ:St) (H:Hp) (x:V) (v:Value) (Q:VK),Inv X pins σ H s->RelV x v->r x H Q ->
  wpAny (model X.prog X.w) X.A (f v) (EP X pins σ Q) X.xe s
def b3v(X:Cx)(f:Value)(r:List V->Hp->VK->Prop):Prop :=
 ∀ (pins:List (Addr×Obj)) (s:Shared) (σ:St) (H:Hp) (xs:List V) (us:List Value) (Q:VK),Inv X pins σ H s->Vals xs us->r xs H Q ->
  wpAny (model X.prog X.w) X.A (call f us) (EP X pins σ Q) X.xe s
def tOp(r:R2)(ta tb:TE):TE:=fun σ H Q=>ta σ H fun x H1=>tb σ H1 fun y H2=>r x y H2 Q
def tUn(r:V->Hp->VK->Prop)(ta:TE):TE:=fun σ H Q=>ta σ H fun x H1=>r x H1 Q
def rI(C:Int->Int->Prop)(g:Int->Int->V):R2:=fun x y H Q=>∃ i j,x = .int i/\y = .int j/\C i j/\Q (g i j) H
def rI0(g:Int->Int->V):R2:=fun x y H Q=>∃ i j,x = .int i/\y = .int j/\Q (g i j) H
noncomputable def rU(g:Int->V):V->Hp->VK->Prop:=fun x H Q=>∃ i,x = .int i/\Q (g i) H
section
variable {X:Cx}{a b c:Expr}{ta tb tc:TE}{pos:Pos}
theorem j0n(ha:PE X a ta)(hb:PE X b tb){pins:List (Addr×Obj)}{s:Shared}{σ:St}{H:Hp}{R:V->V->Hp->Prop}(I:Inv X pins σ H s)
  (h:ta σ H fun x H1=>tb σ H1 fun y H2=>R x y H2) {Q:Value->Shared->Prop} {f:Value->Value->Sem Value}
  (hf:∀ v u s2 x y H2,Inv X pins σ H2 s2->RelV x v->RelV y u->R x y H2->wpAny (model X.prog X.w) X.A (f v u) Q X.xe s2) :
  wpAny (model X.prog X.w) X.A (eval a X.env) (fun v s₁=>wpAny (model X.prog X.w) X.A (eval b X.env) (fun u s₂=>wpAny (model X.prog X.w) X.A (f v u) Q X.xe s₂) X.xe s₁) X.xe s:=by
 refine thn (ha pins s σ H _ I h) fun v s1 ⟨x,H1,I1,r1,q1⟩=>?_
 refine thn (hb pins s1 σ H1 _ I1 q1) fun u s2 ⟨y,H2,I2,r2,q2⟩=>?_
 exact hf v u s2 x y H2 I2 r1 r2 q2
theorem a0w{op:Operator}{r:R2}(ho:OpR X (binaryOp op) r)(ha:PE X a ta)(hb:PE X b tb):PE X (.BinOp a op b pos) (tOp r ta tb):=by
 intro pins s σ H Q I h
 exact wpAny_BinOp (j0n ha hb I h fun v u s2 x y H2 I2 rx ry q=>ho pins s2 σ H2 x y v u Q I2 rx ry q)
theorem i5s{op:UnaryOp}{r:V->Hp->VK->Prop}(ho:UnR X (unaryOp op) r)(ha:PE X a ta):PE X (.UnaryOp op a pos) (tUn r ta):=by
 intro pins s σ H Q I h
 exact UnaryOp_ (thn (ha pins s σ H _ I h) fun v s1 ⟨x,H1,I1,r1,q1⟩=>ho pins s1 σ H1 x v Q I1 r1 q1)
theorem opI{f:Value->Value->Sem Value}{C:Int->Int->Prop}{g:Int->Int->Int}
  (rule:∀ (i j:Int) (t u:Tok) (s:Shared) (Q:Value->Shared->Prop) (E:Value->Shared->Prop),C i j->Q (.int (g i j) s.toks) { s with toks:=s.toks+1 }->wpAny (model X.prog X.w) X.A (f (.int i t) (.int j u)) Q E s) :
  OpR X f (rI C fun i j=>.int (g i j)):=by
 intro pins s σ H x y v u Q I rx ry h
 obtain⟨i,j,rfl,rfl,hc,q⟩:=h
 obtain⟨t,rfl⟩:=rx
 obtain⟨t',rfl⟩:=ry
 exact rule i j t t' s _ _ hc ⟨.int (g i j),H,I.tok _,⟨_,rfl⟩,q⟩
theorem j3t{f:Value->Value->Sem Value}{g:Int->Int->Int}
  (rule:∀ (i j:Int) (t u:Tok) (s:Shared) (Q:Value->Shared->Prop) (E:Value->Shared->Prop),Q (.int (g i j) s.toks) { s with toks:=s.toks+1 }->wpAny (model X.prog X.w) X.A (f (.int i t) (.int j u)) Q E s) :
  OpR X f (rI0 fun i j=>.int (g i j)):=by
 intro pins s σ H x y v u Q I rx ry h
 obtain⟨i,j,rfl,rfl,q⟩:=h
 obtain⟨t,rfl⟩:=rx
 obtain⟨t',rfl⟩:=ry
 exact rule i j t t' s _ _ ⟨.int (g i j),H,I.tok _,⟨_,rfl⟩,q⟩
theorem i9u{f:Value->Value->Sem Value}{g:Int->Int->Bool}
  (rule:∀ (i j:Int) (t u:Tok) (s:Shared) (Q:Value->Shared->Prop) (E:Value->Shared->Prop),Q (.bool (g i j)) s->wpAny (model X.prog X.w) X.A (f (.int i t) (.int j u)) Q E s) :
  OpR X f (rI0 fun i j=>.bl (g i j)):=by
 intro pins s σ H x y v u Q I rx ry h
 obtain⟨i,j,rfl,rfl,q⟩:=h
 obtain⟨t,rfl⟩:=rx
 obtain⟨t',rfl⟩:=ry
 exact rule i j t t' s _ _ ⟨.bl (g i j),H,I,rfl,q⟩
def j3u(i j:Int):Prop:=0<=j/\j<=1000000/\i.natAbs < 2 ^ 64
theorem i5t:OpR X (binaryOp .Add) (rI0 fun i j=>.int (i+j)):=j3t fun _ _ _ _ _ _ _ q=>add_int q
theorem i5u:OpR X (binaryOp .Sub) (rI0 fun i j=>.int (i - j)):=j3t fun _ _ _ _ _ _ _ q=>sub_int q
theorem i1d:OpR X (binaryOp .Mod) (rI (fun _ j=>j≠0) fun i j=>.int (i.fmod j)):=opI fun _ _ _ _ _ _ _ hc q=>mod_int' hc q
theorem i5v:OpR X (binaryOp .Pow) (rI j3u fun i j=>.int (i ^ j.toNat)):=opI fun _ _ _ _ _ _ _ hc q=>pow_int_small hc.1 hc.2.1 hc.2.2 q
theorem unI{f:Value->Sem Value}{g:Int->Int}
  (rule:∀ (i:Int) (t:Tok) (s:Shared) (Q:Value->Shared->Prop) (E:Value->Shared->Prop),Q (.int (g i) s.toks) { s with toks:=s.toks+1 }->wpAny (model X.prog X.w) X.A (f (.int i t)) Q E s) :
  UnR X f (rU fun i=>.int (g i)):=by
 intro pins s σ H x v Q I rx h
 obtain⟨i,rfl,q⟩:=h
 obtain⟨t,rfl⟩:=rx
 exact rule i t s _ _ ⟨.int (g i),H,I.tok _,⟨_,rfl⟩,q⟩
theorem i5w:UnR X (unaryOp .USub) (rU fun i=>.int (-i)):=unI fun _ _ _ _ _ q=>neg_int q
end
noncomputable def h1a:V->V->Bool
 | .non,.non=>true | .non,.int _=>true | .int _,.non=>true | .non,.bl _=>true | .bl _,.non=>true | .non,.str _=>true | .str _,.non=>true
 | .int _,.int _=>true | .bl _,.bl _=>true | .str _,.str _=>true | .byt _,.byt _=>true
 | .int _,.str _=>true | .str _,.int _=>true | .bl _,.str _=>true | .str _,.bl _=>true
 | _,_=>false
def rEq:R2:=fun x y H Q=>h1a x y=true/\Q (.bl (decide (x=y))) H
def rNe:R2:=fun x y H Q=>h1a x y=true/\Q (.bl (!decide (x=y))) H
theorem h1c{i j:Int}:decide (V.int i=V.int j)=(i == j):=by
 rw [Bool.eq_iff_iff]
 simp
theorem h9k{i j:Bool}:decide (V.bl i=V.bl j)=(i == j):=by
 rw [Bool.eq_iff_iff]
 simp
theorem h1e{i j:Str}:decide (V.str i=V.str j)=(i == j):=by
 rw [Bool.eq_iff_iff]
 simp
theorem h1f{i j:Array UInt8}:decide (V.byt i=V.byt j)=(i.toList == j.toList):=by
 rw [Bool.eq_iff_iff]
 cases i
 cases j
 simp
section
variable {X:Cx}{a b c:Expr}{ta tb tc:TE}{pos:Pos}
theorem a4p{pins:List (Addr×Obj)}{σ:St}{H:Hp}{s:Shared}{Q:VK}{k k':Bool}(I:Inv X pins σ H s)(q:Q (.bl k) H)(e:k=k'):EP X pins σ Q (.bool k') s:=by
 subst e
 exact⟨.bl k,H,I,rfl,q⟩
theorem j0o:OpR X (compareOp .Eq) rEq:=by
 intro pins s σ H x y v u Q I rx ry h
 obtain⟨hs,q⟩:=h
 cases x with
 | non =>
  cases rx
  cases y with
  | non=>cases ry; exact PySem.EqNone.eq_none_none (a4p I q (by simp))
  | bl j=>cases ry; exact PySem.EqNone.eq_none_bool (a4p I q (by simp))
  | int j=>obtain⟨t',rfl⟩:=ry; exact PySem.EqNone.eq_none_int (a4p I q (by simp))
  | str j=>obtain⟨t',rfl⟩:=ry; exact PySem.EqNone.eq_none_str (a4p I q (by simp))
  | _=>exact absurd (show false=true from hs) Bool.false_ne_true
 | bl i =>
  cases rx
  cases y with
  | non=>cases ry; exact PySem.EqNone.eq_bool_none (a4p I q (by simp))
  | bl j=>cases ry; exact eq_bool (a4p I q h9k)
  | str j=>obtain⟨t',rfl⟩:=ry; exact PySem.EqMixed.eq_bool_str (a4p I q (by simp))
  | _=>exact absurd (show false=true from hs) Bool.false_ne_true
 | int i =>
  obtain⟨t,rfl⟩:=rx
  cases y with
  | non=>cases ry; exact PySem.EqNone.eq_int_none (a4p I q (by simp))
  | int j=>obtain⟨t',rfl⟩:=ry; exact eq_int (a4p I q h1c)
  | str j=>obtain⟨t',rfl⟩:=ry; exact PySem.EqMixed.eq_int_str (a4p I q (by simp))
  | _=>exact absurd (show false=true from hs) Bool.false_ne_true
 | str i =>
  obtain⟨t,rfl⟩:=rx
  cases y with
  | non=>cases ry; exact PySem.EqNone.eq_str_none (a4p I q (by simp))
  | bl j=>cases ry; exact PySem.EqMixed.eq_str_bool (a4p I q (by simp))
  | int j=>obtain⟨t',rfl⟩:=ry; exact PySem.EqMixed.eq_str_int (a4p I q (by simp))
  | str j=>obtain⟨t',rfl⟩:=ry; exact eq_str (a4p I q h1e)
  | _=>exact absurd (show false=true from hs) Bool.false_ne_true
 | byt i =>
  obtain⟨t,rfl⟩:=rx
  cases y with
  | byt j=>obtain⟨t',rfl⟩:=ry; exact PySem.W.eq_bytes (a4p I q h1f)
  | _=>exact absurd (show false=true from hs) Bool.false_ne_true
 | _=>cases y <;> exact absurd (show false=true from hs) Bool.false_ne_true
theorem j0p:OpR X (compareOp .NotEq) rNe:=by
 intro pins s σ H x y v u Q I rx ry h
 obtain⟨hs,q⟩:=h
 cases x with
 | non =>
  cases rx
  cases y with
  | non=>cases ry; exact PySem.EqNone.ne_none_none (a4p I q (by simp))
  | bl j=>cases ry; exact PySem.EqNone.ne_none_bool (a4p I q (by simp))
  | int j=>obtain⟨t',rfl⟩:=ry; exact PySem.EqNone.ne_none_int (a4p I q (by simp))
  | str j=>obtain⟨t',rfl⟩:=ry; exact PySem.EqNone.ne_none_str (a4p I q (by simp))
  | _=>exact absurd (show false=true from hs) Bool.false_ne_true
 | bl i =>
  cases rx
  cases y with
  | non=>cases ry; exact PySem.EqNone.ne_bool_none (a4p I q (by simp))
  | bl j=>cases ry; exact ne_bool (a4p I q (congrArg not h9k))
  | str j=>obtain⟨t',rfl⟩:=ry; exact PySem.EqMixed.ne_bool_str (a4p I q (by simp))
  | _=>exact absurd (show false=true from hs) Bool.false_ne_true
 | int i =>
  obtain⟨t,rfl⟩:=rx
  cases y with
  | non=>cases ry; exact PySem.EqNone.ne_int_none (a4p I q (by simp))
  | int j=>obtain⟨t',rfl⟩:=ry; exact ne_int (a4p I q (congrArg not h1c))
  | str j=>obtain⟨t',rfl⟩:=ry; exact PySem.EqMixed.ne_int_str (a4p I q (by simp))
  | _=>exact absurd (show false=true from hs) Bool.false_ne_true
 | str i =>
  obtain⟨t,rfl⟩:=rx
  cases y with
  | non=>cases ry; exact PySem.EqNone.ne_str_none (a4p I q (by simp))
  | bl j=>cases ry; exact PySem.EqMixed.ne_str_bool (a4p I q (by simp))
  | int j=>obtain⟨t',rfl⟩:=ry; exact PySem.EqMixed.ne_str_int (a4p I q (by simp))
  | str j=>obtain⟨t',rfl⟩:=ry; exact ne_str (a4p I q (congrArg not h1e))
  | _=>exact absurd (show false=true from hs) Bool.false_ne_true
 | byt i =>
  obtain⟨t,rfl⟩:=rx
  cases y with
  | byt j=>obtain⟨t',rfl⟩:=ry; exact PySem.W.ne_bytes (a4p I q (congrArg not h1f))
  | _=>exact absurd (show false=true from hs) Bool.false_ne_true
 | _=>cases y <;> exact absurd (show false=true from hs) Bool.false_ne_true
theorem j0q:OpR X (compareOp .Lt) (rI0 fun i j=>.bl (decide (i < j))):=i9u fun _ _ _ _ _ _ _ q=>lt_int q
theorem j0r:OpR X (compareOp .LtE) (rI0 fun i j=>.bl (decide (i<=j))):=i9u fun _ _ _ _ _ _ _ q=>le_int q
theorem j0s:OpR X (compareOp .Gt) (rI0 fun i j=>.bl (decide (j < i))):=i9u fun _ _ _ _ _ _ _ q=>gt_int q
theorem j0t:OpR X (compareOp .GtE) (rI0 fun i j=>.bl (decide (j<=i))):=i9u fun _ _ _ _ _ _ _ q=>ge_int q
theorem h1g:OpR X (compareOp .In) (fun x y H Q=>∃ i j,x = .str i/\y = .str j/\Q (.bl (!(Builtin.Str.occurrences j i 0 j.length 1).isEmpty)) H):=by
 intro pins s σ H x y v u Q I rx ry h
 obtain⟨i,j,rfl,rfl,q⟩:=h
 obtain⟨t,rfl⟩:=rx
 obtain⟨t',rfl⟩:=ry
 exact in_str (a4p I q rfl)
theorem i5x:OpR X (compareOp .Is) (fun x y H Q=>y = .non/\Q (.bl (decide (x = .non))) H):=by
 intro pins s σ H x y v u Q I rx ry h
 obtain⟨rfl,q⟩:=h
 cases ry
 refine is_none_gen (a4p I q ?_)
 cases x <;> first
  | (cases rx; rfl)
  | (obtain⟨t,rfl⟩:=rx; rfl)
theorem a2s(b:Expr){op:CmpOp}(h:op≠.In:=by decide)(h2:op≠.NotIn:=by decide):behindInMarks op b=false:=by
 have e1:(op == CmpOp.In)=false:=by cases op <;> first | rfl | exact absurd rfl h
 have e2:(op == CmpOp.NotIn)=false:=by cases op <;> first | rfl | exact absurd rfl h2
 cases b <;> simp [behindInMarks,e1,e2]
theorem g2y{op:CmpOp}{r:R2}(ho:OpR X (compareOp op) r)(ha:PE X a ta)(hb:PE X b tb)(hm:behindInMarks op b=false):PE X (.Compare a [op] [b] pos) (tOp r ta tb):=by
 intro pins s σ H Q I h
 exact wpAny_Compare1 (j0n ha hb I h fun v u s2 x y H2 I2 rx ry q=>ho pins s2 σ H2 x y v u Q I2 rx ry q) hm
def i5y(t:TE):TT:=fun σ H Q=>t σ H fun x H'=>∃ k,x = .bl k/\Q k H'
theorem i1e{op:CmpOp}{r:R2}(ho:OpR X (compareOp op) r)(ha:PE X a ta)(hb:PE X b tb)(hm:behindInMarks op b=false):PT X (.Compare a [op] [b] pos) (i5y (tOp r ta tb)):=by
 intro pins s σ H Q I h
 refine wpAny_isTrue_Compare1 (thn (ha pins s σ H _ I h) fun v s1 ⟨x,H1,I1,r1,q1⟩=>thn (hb pins s1 σ H1 _ I1 q1) fun u s2 ⟨y,H2,I2,r2,q2⟩ =>
  thn (ho pins s2 σ H2 x y v u _ I2 r1 r2 q2) fun c s3 ⟨z,H3,I3,r3,k,e,q3⟩=>?_) hm
 subst e
 cases r3
 exact wpAny_truthy_bool ⟨H3,I3,q3⟩
theorem f3s:(sizeLine:Nat) < 2 ^ 63:=by rw [sizeLine_eq]; decide
theorem g7z:OpR X (binaryOp .Add) (fun x y H Q=>∃ i j,x = .str i/\y = .str j/\i.length+j.length<=sizeLine/\Q (.str (i++j)) H):=by
 intro pins s σ H x y v u Q I rx ry h
 obtain⟨i,j,rfl,rfl,hz,q⟩:=h
 obtain⟨t,rfl⟩:=rx
 obtain⟨t',rfl⟩:=ry
 exact add_str (fun t' tk=>⟨.str (i++j),H,I.tok _,⟨_,rfl⟩,q⟩) hz
theorem vals1{x:V}{us:List Value}(r:Vals [x] us):∃ u,us = [u]/\RelV x u:=by
 cases r with
 | cons r1 r2=>cases r2; exact⟨_,rfl,r1⟩
theorem vals2{x y:V}{us:List Value}(r:Vals [x,y] us):∃ u w',us = [u,w']/\RelV x u/\RelV y w':=by
 cases r with
 | cons r1 r2 =>
  cases r2 with
  | cons r3 r4=>cases r4; exact⟨_,_,rfl,r1,r3⟩
theorem h6y : b3v X (.builtin "abs") (fun xs H Q => ∃ i, xs = [.int i] ∧ Q (.int (if i < 0 then -i else i)) H) := by
 intro pins s σ H xs us Q I r h
 obtain⟨i,rfl,q⟩:=h
 obtain⟨u,rfl,t,rfl⟩:=vals1 r
 exact call_abs_int fun u tk=>⟨.int (if i < 0 then -i else i),H,I.tok _,⟨_,rfl⟩,q⟩
theorem h1h (hc : X.calm = true) : b3v X (.builtin "max") (fun xs H Q => ∃ i j, xs = [.int i, .int j] ∧ Q (.int (if j > i then j else i)) H) := by
 intro pins s σ H xs us Q I r h
 obtain⟨i,j,rfl,q⟩:=h
 obtain⟨u,w',rfl,⟨t,rfl⟩,⟨t',rfl⟩⟩:=vals2 r
 refine max_two_ints (I.ok.hd hc) fun h' tk k=>⟨_,H,I.kept k,?_,q⟩
 by_cases hj:j > i
 ·rw [if_pos hj,if_pos hj]; exact⟨_,rfl⟩
 ·rw [if_neg hj,if_neg hj]; exact⟨_,rfl⟩
theorem h1i (hc : X.calm = true) : b3v X (.builtin "min") (fun xs H Q => ∃ i j, xs = [.int i, .int j] ∧ Q (.int (if j < i then j else i)) H) := by
 intro pins s σ H xs us Q I r h
 obtain⟨i,j,rfl,q⟩:=h
 obtain⟨u,w',rfl,⟨t,rfl⟩,⟨t',rfl⟩⟩:=vals2 r
 refine min_two_ints (I.ok.hd hc) fun h' tk k=>⟨_,H,I.kept k,?_,q⟩
 by_cases hj:j < i
 ·rw [if_pos hj,if_pos hj]; exact⟨_,rfl⟩
 ·rw [if_neg hj,if_neg hj]; exact⟨_,rfl⟩
theorem f9m : b3v X (.type "int") (fun xs H Q => (∃ i, xs = [.int i] ∧ Q (.int i) H) ∨ ∃ k, xs = [.bl k] ∧ Q (.int (if k then 1 else 0)) H) := by
 intro pins s σ H xs us Q I r h
 rcases h with ⟨i,rfl,q⟩ | ⟨k,rfl,q⟩
 ·obtain⟨u,rfl,t,rfl⟩:=vals1 r
  exact call_int_int ⟨.int i,H,I,⟨_,rfl⟩,q⟩
 ·obtain⟨u,rfl,r1⟩:=vals1 r
  cases r1
  exact call_int_bool ⟨.int (if k then 1 else 0),H,I.tok _,⟨_,rfl⟩,q⟩
theorem f9n : b3v X (.type "str") (fun xs H Q => ∃ i, xs = [.int i] ∧ i.natAbs.log2 < 1920 ∧ Q (.str (toString i)) H) := by
 intro pins s σ H xs us Q I r h
 obtain⟨i,rfl,hz,q⟩:=h
 obtain⟨u,rfl,t,rfl⟩:=vals1 r
 exact PySem.P.str_of_int hz ⟨.str _,H,I.tok _,⟨_,rfl⟩,q⟩
end
end L2
namespace L2
open PySem PySem.Spec PyProof.Rows
structure i1f(h:Heap)(x dx C:Addr)(mA:Str->Option Value):Prop where
 obj:h.get? x=some (PySem.W.instObj C dx)
 ns:h.Ns1 dx mA
 ne:dx≠x
theorem h1j{h:Heap}{dx:Addr}{mA:Str->Option Value}(n:h.Ns1 dx mA):∃ od,h.get? dx=some od/\∀ name,PySem.W.lookIn name od=some (mA name):=by
 obtain⟨o,es,ep,ho,hd,hk,_,hm⟩:=n
 refine⟨o,ho,fun name=>?_⟩
 have e:=hm name
 unfold nsFind findBy at e
 rw [<- Array.find?_toList] at e
 unfold PySem.W.lookIn
 rw [hd]
 dsimp only
 split
 ·rename_i y q
  rw [q] at e
  exact congrArg some e
 ·rename_i q
  rw [q] at e
  have a:es.toList.any (·.refKey)=false:=by
   rw [List.any_eq_false]
   intro y hy
   obtain⟨z,t,hkey⟩:=hk y (Array.mem_toList_iff.mp hy)
   simp [DictEntry.refKey,hkey]
  have a':¬ es.toList.any (·.refKey)=true:=by rw [a]; exact Bool.false_ne_true
  rw [if_neg a']
  exact congrArg some e
theorem i1f.look{h:Heap}{x dx C:Addr}{mA:Str->Option Value}(I:i1f h x dx C mA):∃ od,PySem.W.InstAt h x (PySem.W.instObj C dx) C (some od)/\∀ name,PySem.W.lookIn name od=some (mA name) :=
 let ⟨od,ho,hl⟩:=h1j I.ns
 ⟨od,⟨I.obj,rfl,rfl,ho⟩,hl⟩
section
variable {prog:Program}{w:World}{A:Around}{E:Value->Shared->Prop}{s:Shared}{K:PySem.W.Frag}{x dx C f:Addr}{mA:Str->Option Value}{name:Str}{v:Value}
theorem get_map{expr:Bool}{Q:Value->Shared->Prop}(X:K.In s.heap)(I:i1f s.heap x dx C mA)(hg:PySem.W.plainGet K C name=true)(hh:PySem.W.hasDictIn K C=true)
  (ha:PySem.W.findIn K (.ref C) name=some none) (hv:mA name=some v) (hv':PySem.W.handedIn v=true) (h:Q v { s with toks:=s.toks+1 }) :
  wpAny (model prog w) A (getAttr (.ref x) name expr) Q E s:=by
 obtain⟨od,J,hl⟩:=I.look
 exact PySem.W.get_value X J (PySem.W.plainGet_of hg).1 (PySem.W.findObj_own hh ha rfl (by rw [hl,hv])) hv' h
theorem h6z{pl:Sem Bool}{Q:Value×List Value->Shared->Prop}(X:K.In s.heap)(I:i1f s.heap x dx C mA)(hg:PySem.W.plainGet K C name=true)
  (hf:PySem.W.findIn K (.ref C) name=some (some (.ref f))) (ht:PySem.W.isFn K (.ref f)=true) (hv:mA name=none) (h:Q (.ref f,[.ref x]) s) :
  wpAny (model prog w) A (getMethod (.ref x) name pl) Q E s:=by
 obtain⟨od,J,hl⟩:=I.look
 exact PySem.W.method_fn X J (PySem.W.plainGet_of hg).1 (PySem.W.plainGet_of hg).2 hf (beq_iff_eq.mp ht) (by show (PySem.W.lookIn name od).map (·.isSome)=some false; rw [hl,hv]; rfl) h
theorem i1g{ns:List Str}{Q:Unit->Shared->Prop}(X:K.In s.heap)(I:i1f s.heap x dx C mA)
  (hs : PySem.W.findIn K (.ref C) "__setattr__" = some (some (.builtin "object.__setattr__"))) (hp : PySem.W.plainOver K C = true) (ht : PySem.W.takerIn K C name = some none) (hh : PySem.W.hasDictIn K C = true)
  (hw:PySem.Within mA ns) (hsz:ns.length<=sizeLine)
  (h:∀ h',i1f h' x dx C (fun y=>if y=name then some v else mA y)->Heap.SameBut dx s.heap h'->Q () { s with heap:=h',toks:=s.toks+2 }) :
  wpAny (model prog w) A (setAttr (.ref x) name v) Q E s:=by
 obtain⟨od,J,hl⟩:=I.look
 refine PySem.W.set_plain X J hs (PySem.W.osa_open (s:={ s with toks:=s.toks+1 }) (r:=none) X J hp ht fun b=>?_)
 obtain⟨cd,hc,hd'⟩:=PySem.W.any_some hh
 have hx:s.heap.get? x=some ⟨.ref C,some dx,.plain,#[]⟩:=I.obj
 refine wpAny_bind (wpAny_pure (wpAny_bind (wpAny_bind (wpAny_loadPart hx (wpAny_bind (PySem.W.Looks.here (s:={ s with toks:=s.toks+1 }) (PySem.W.looks_clsIn X hc) ?_))))))
 rw [hd']
 refine wpAny_pure (a:=some dx) (wpAny_bind (wpAny_pure (wpAny_bind ?_)))
 refine wpAny_nsSet1 (s:={ s with toks:=s.toks+1 }) I.ns fun h' hn2 hs2=>?_
 obtain⟨oD,esD,epD,hoD,hdD,hcD⟩:=hn2.count (PySem.Within.cons name v hw)
 refine wpAny_bind (wpAny_lookBehind hoD (by rw [hdD]; exact pastItsLine_dict (Nat.le_trans hcD (by rw [List.length_cons]; omega))) ?_)
 exact wpAny_pure (h _ ⟨(hs2.2 _ (Ne.symm I.ne)).trans I.obj,hn2,I.ne⟩ hs2)
theorem h7a{R:Result->Shared->Prop}{vs:List Value}{kw:List (Str×Value)}(X:K.In s.heap)(hm:PySem.W.makesIn K C=true)
  (hi : PySem.W.findIn K (.ref C) "__init__" = some (some (.ref f))) (hf : PySem.W.typeIn K (.ref f) = some (.type "function"))
  (h : codeAny (model prog w) (A.under (.builtin "type.__call__" ⟨.ref C :: vs, kw⟩)) (.call (.ref f) ⟨.ref (s.heap.objs.size + 1) :: vs, kw⟩) (PySem.W.InitBack (s.heap.objs.size + 1) R)
   { s with heap:=(s.heap.push PySem.W.emptyDict).push (PySem.W.instObj C s.heap.objs.size) }) :
  codeAny (model prog w) A (.call (.ref C) ⟨vs,kw⟩) R s:=by
 obtain⟨hh,g,d,t,os⟩:=s
 exact PySem.W.make_core (PySem.W.makes_of X hm) (PySem.W.looks_findIn X hi) (fun self=>PySem.W.bind_fn X self hf) (.inl rfl) h
end
noncomputable def d7v(f:Str)(v:V):List (Str×V)->List (Str×V)
 | []=>[(f,v)]
 | (g,x) :: r=>if g=f then (g,v) :: r else (g,x) :: d7v f v r
theorem d7w(f g:Str)(v:V):∀ fs:List (Str×V),(d7v f v fs).lookup g=if g=f then some v else fs.lookup g
 | []=>by
  show List.lookup g [(f,v)]=_
  by_cases h:g=f
  ·have hb:(g == f)=true:=beq_iff_eq.mpr h
   simp only [List.lookup,hb,if_pos h]
  ·have hb:(g == f)=false:=beq_eq_false_iff_ne.mpr h
   simp only [List.lookup,hb,if_neg h]
 | (k,x) :: r=>by
  have ih:=d7w f g v r
  rw [show d7v f v ((k,x) :: r)=(if k=f then (k,v) :: r else (k,x) :: d7v f v r) from rfl]
  by_cases hk:k=f
  ·rw [if_pos hk]
   by_cases h:g=k
   ·have hb:(g == k)=true:=beq_iff_eq.mpr h
    simp only [List.lookup,hb,if_pos (h.trans hk)]
   ·have hb:(g == k)=false:=beq_eq_false_iff_ne.mpr h
    simp only [List.lookup,hb,if_neg (fun e:g=f=>h (e.trans hk.symm))]
  ·rw [if_neg hk]
   by_cases h:g=k
   ·have hb:(g == k)=true:=beq_iff_eq.mpr h
    simp only [List.lookup,hb,if_neg (fun e:g=f=>hk (h.symm.trans e))]
   ·have hb:(g == k)=false:=beq_eq_false_iff_ne.mpr h
    simp only [List.lookup,hb]
    exact ih
theorem d7y(f:Str)(v:V):∀ fs:List (Str×V),f∈(d7v f v fs).map (·.1)/\∀ g,g∈fs.map (·.1)->g∈(d7v f v fs).map (·.1)
 | []=>⟨by simp [d7v],fun g h=>by simp at h⟩
 | (k,x) :: r=>by
  obtain⟨i1,i2⟩:=d7y f v r
  rw [show d7v f v ((k,x) :: r)=(if k=f then (k,v) :: r else (k,x) :: d7v f v r) from rfl]
  by_cases hk:k=f
  ·rw [if_pos hk]
   subst hk
   exact⟨by simp,fun g h=>by simpa using h⟩
  ·rw [if_neg hk]
   refine⟨?_,fun g h=>?_⟩
   ·rw [List.map_cons]
    exact List.mem_cons_of_mem _ i1
   ·rw [List.map_cons] at h ⊢
    rcases List.mem_cons.mp h with e | e
    ·exact List.mem_cons.mpr (.inl e)
    ·exact List.mem_cons_of_mem _ (i2 g e)
theorem d7z(f:Str)(v:V):∀ fs:List (Str×V),(d7v f v fs).length<=fs.length+1
 | []=>by simp [d7v]
 | (k,x) :: r=>by
  have ih:=d7z f v r
  rw [show d7v f v ((k,x) :: r)=(if k=f then (k,v) :: r else (k,x) :: d7v f v r) from rfl]
  by_cases hk:k=f
  ·rw [if_pos hk,List.length_cons,List.length_cons]; omega
  ·rw [if_neg hk,List.length_cons,List.length_cons]; omega
theorem g2r.some_of{v:V}{o:Option Value}(r:g2r (some v) o):∃ u,o=some u/\RelV v u:=by
 cases o with
 | none=>exact (show False from r).elim
 | some u=>exact⟨u,rfl,r⟩
theorem g2r.none_of{o:Option Value}(r:g2r none o):o=none:=by
 cases o with
 | none=>rfl
 | some u=>exact (show False from r).elim
theorem h1l{v:V}{u:Value}(r:RelV v u):PySem.W.handedIn u=true:=by
 cases v with
 | non=>cases (show u=Value.none from r); rfl
 | bl b=>cases (show u=Value.bool b from r); rfl
 | int i=>obtain⟨t,e⟩:=(show ∃ t,u=Value.int i t from r); cases e; rfl
 | str x=>obtain⟨t,e⟩:=(show ∃ t,u=Value.str x t from r); cases e; rfl
 | byt b=>obtain⟨t,e⟩:=(show ∃ t,u=Value.bytes b t from r); cases e; rfl
 | flt b=>obtain⟨t,e⟩:=(show ∃ t,u=Value.float b t from r); cases e; rfl
 | ref a=>cases (show u=Value.ref a from r); rfl
 | ty n=>cases (show u=Value.type n from r); rfl
section
variable {P:Program}{w:World}{H H':Hp}{h h':Heap}{a C dx:Addr}{fs fs':List (Str×V)}
theorem f5i(hok:HOk P w H h)(e:H a=some (.ins C dx fs)):∃ mA,i1f h a dx C mA/\(∀ f,g2r (fs.lookup f) (mA f))/\PySem.Within mA (fs.map (·.1))/\fs.length<=1000/\H dx=some (.own a):=by
 obtain⟨d,z,ne,ob,mA,n,r,q⟩:=(show b4w P w H h a (.ins C dx fs) from hok a _ e)
 exact⟨mA,⟨ob,n,ne⟩,r,q,z,d⟩
end
structure Cls(K:PySem.W.Frag)(C:Addr):Prop where
 pg:PySem.W.plainGet K C Str.empty=true
 hd:PySem.W.hasDictIn K C=true
 po:PySem.W.plainOver K C=true
 sa : PySem.W.findIn K (.ref C) "__setattr__" = some (some (.builtin "object.__setattr__"))
theorem Cls.get{K:PySem.W.Frag}{C:Addr}(c:Cls K C)(f:Str):PySem.W.plainGet K C f=true:=c.pg
def a2l(K:PySem.W.Frag)(C:Addr)(f:Str):Prop:=PySem.W.findIn K (.ref C) f=some none
theorem a2l.taker{K:PySem.W.Frag}{C:Addr}{f:Str}(n:a2l K C f):PySem.W.takerIn K C f=some none:=by
 unfold PySem.W.takerIn
 rw [show PySem.W.findIn K (.ref C) f=some none from n]
 rfl
structure Con(K:PySem.W.Frag)(C:Addr)(f:Str)(v:V)(u:Value):Prop where
 at_:PySem.W.findIn K (.ref C) f=some (some u)
 rel:RelV v u
 get : PySem.W.specialIn K u "__get__" = some none
 cp:PySem.W.copiedNames.contains f=false
structure Meth(K:PySem.W.Frag)(C:Addr)(m:Str)(f:Addr):Prop where
 at_:PySem.W.findIn K (.ref C) m=some (some (.ref f))
 fn:PySem.W.isFn K (.ref f)=true
 kp:PySem.W.keepIn K (.ref f)=true
section
variable {X:Cx}{pins:List (Addr×Obj)}{σ:St}{H:Hp}{s:Shared}{a C dx:Addr}{fs:List (Str×V)}{f:Str}{v:V}{A:Around}{E:Value->Shared->Prop}
theorem g8a{b:Bool}{Q:Value->Shared->Prop}(I:Inv X pins σ H s)(e:H a=some (.ins C dx fs))(c:Cls X.K C)(n:a2l X.K C f)(l:fs.lookup f=some v)
  (h:∀ u s',Inv X pins σ H s'->RelV v u->Q u s'):wpAny (model X.prog X.w) A (getAttr (.ref a) f b) Q E s:=by
 obtain⟨mA,O,r,_,_,_⟩:=f5i I.hok e
 obtain⟨u,hu,ru⟩:=g2r.some_of (v:=v) (o:=mA f) (by rw [<- l]; exact r f)
 exact get_map I.kIn O (c.get f) c.hd n hu (h1l ru) (h u _ (I.tok _) ru)
theorem f3t{m:Str}{g:Addr}{pl:Sem Bool}{Q:Value×List Value->Shared->Prop}(I:Inv X pins σ H s)(e:H a=some (.ins C dx fs))(c:Cls X.K C)(k:Meth X.K C m g)(l:fs.lookup m=none)
  (h:Q (.ref g,[.ref a]) s):wpAny (model X.prog X.w) A (getMethod (.ref a) m pl) Q E s:=by
 obtain⟨mA,O,r,_,_,_⟩:=f5i I.hok e
 have hn:mA m=none:=g2r.none_of (by rw [<- l]; exact r m)
 exact h6z I.kIn O (c.get m) k.at_ k.fn hn h
theorem g8b{y:V}{u:Value}{Q:Unit->Shared->Prop}(I:Inv X pins σ H s)(e:H a=some (.ins C dx fs))(c:Cls X.K C)(n:a2l X.K C f)(hl:fs.length < 1000)(ry:RelV y u)
  (h:∀ s',Inv X pins σ (upd H a (.ins C dx (d7v f y fs))) s'->Q () s'):wpAny (model X.prog X.w) A (setAttr (.ref a) f u) Q E s:=by
 obtain⟨mA,O,r,wi,_,ho⟩:=f5i I.hok e
 have hz:(fs.map (·.1)).length<=sizeLine:=by rw [List.length_map,sizeLine_eq]; omega
 refine i1g I.kIn O c.sa c.po n.taker c.hd wi hz fun h' O' sb=>h _ ?_
 have hd:∃ o,h'.get? dx=some o:=let ⟨o,_,_,e',_⟩:=O'.ns; ⟨o,e'⟩
 refine I.write (x:=a) (e:=dx) (by rw [e]; exact True.intro) (.inr ho) (fun b q hb z=>(sb.2 b hb).trans z) hd ?_
 refine⟨by rw [a3p O.ne]; exact ho,?_,O.ne,O'.obj,_,O'.ns,fun g=>?_,fun g hg=>?_⟩
 ·have:=d7z f y fs; omega
 ·show g2r ((d7v f y fs).lookup g) (if g=f then some u else mA g)
  rw [d7w]
  by_cases q:g=f
  ·rw [if_pos q,if_pos q]; exact ry
  ·rw [if_neg q,if_neg q]; exact r g
 ·by_cases q:g=f
  ·rw [q]; exact (d7y f y fs).1
  ·refine (d7y f y fs).2 g (wi g fun z=>hg ?_)
   show (if g=f then some u else mA g)=none
   rw [if_neg q]; exact z
theorem Inv.made(I:Inv X pins σ H s):Inv X pins σ (upd (upd H s.heap.objs.size (.own (s.heap.objs.size+1))) (s.heap.objs.size+1) (.ins C s.heap.objs.size []))
  { s with heap:=(s.heap.push PySem.W.emptyDict).push (PySem.W.instObj C s.heap.objs.size) }:=by
 have e1:(s.heap.push PySem.W.emptyDict).get? s.heap.objs.size=some PySem.W.emptyDict:=Heap.get?_push_size s.heap rfl
 have e2:((s.heap.push PySem.W.emptyDict).push (PySem.W.instObj C s.heap.objs.size)).get? (s.heap.objs.size+1)=some (PySem.W.instObj C s.heap.objs.size):=by
  have:=Heap.get?_push_size (s.heap.push PySem.W.emptyDict) (o:=PySem.W.instObj C s.heap.objs.size) rfl
  rwa [Heap.size_push] at this
 have e3:(s.heap.push PySem.W.emptyDict).Ns s.heap.objs.size (fun _=>none):=⟨PySem.W.emptyDict,#[],_,e1,rfl,(fun e he=>absurd he (by simp)),fun _=>rfl⟩
 have I1:=I.laid (a:=s.heap.objs.size) (o:=.own (s.heap.objs.size+1)) (h':=s.heap.push PySem.W.emptyDict) (t':=s.toks) (fun b u q=>Heap.get?_push_of_some _ q) (Nat.le_refl _) ⟨_,e1⟩
 refine I1.laid (a:=s.heap.objs.size+1) (o:=.ins C s.heap.objs.size []) (t':=s.toks) (fun b u q=>Heap.get?_push_of_some _ q) (Nat.le_of_eq (Heap.size_push _ _)) ?_
 have ne:s.heap.objs.size≠s.heap.objs.size+1:=Nat.ne_of_lt (Nat.lt_succ_self _)
 refine⟨by rw [a3p ne,a3j],Nat.zero_le _,ne,e2,fun _=>none,(Heap.Ns1.of_empty e3).at fun o q=>Heap.get?_push_of_some _ q,fun _=>True.intro,fun y hy=>absurd rfl hy⟩
theorem i1h{prog:Program}{w:World}{env:Env}{e:Expr}{f:Str}{pos:Pos}{s:Shared}{Q:Value->Shared->Prop}(hb:attributeBase e f env (eval e env)=eval e env)
  (h:wpAny (model prog w) A (eval e env) (fun o s₁=>wpAny (model prog w) A (getAttr o f true) Q E s₁) E s):wpAny (model prog w) A (eval (.Attribute e f pos) env) Q E s :=
 Attribute_any_ h (by rw [arm_eval_Attribute,hb])
end
def j3v(K:PySem.W.Frag)(ta:TE)(f:Str):TE:=fun σ H Q=>ta σ H fun x H1=>∃ a C dx fs v,x = .ref a/\H1 a=some (.ins C dx fs)/\Cls K C/\a2l K C f/\fs.lookup f=some v/\Q v H1
section
variable {X:Cx}{o e value:Expr}{f:Str}{pos pos' tpos:Pos}{ta tv:TE}
theorem i5z(he:PE X e ta)(hb:attributeBase e f X.env (eval e X.env)=eval e X.env):PE X (.Attribute e f pos) (j3v X.K ta f):=by
 intro pins s σ H Q I h
 refine i1h hb (thn (he pins s σ H _ I h) fun u s1 ⟨x,H1,I1,rx,a,C,dx,fs,v,ex,ea,c,n,l,q⟩=>?_)
 subst ex
 obtain rfl:u=Value.ref a:=rx
 exact g8a I1 ea c n l fun u' s2 I2 ru=>⟨v,H1,I2,ru,q⟩
end
section
variable {X:Cx}{pins:List (Addr×Obj)}{σ:St}{H:Hp}{s:Shared}{A:Around}{E:Value->Shared->Prop}{Q:Value->Shared->Prop}{c:Value}{b:Bool}
inductive g8c(K:PySem.W.Frag)(H:Hp):V->Value->Prop where
 | non : g8c K H .non (.type "NoneType")
 | bl (x : Bool) : g8c K H (.bl x) (.type "bool")
 | int (i : Int) : g8c K H (.int i) (.type "int")
 | str (x : Str) : g8c K H (.str x) (.type "str")
 | flt (x : UInt64) : g8c K H (.flt x) (.type "float")
 | lst {a : Addr} {xs : List V} (e : H a = some (.lst xs)) : g8c K H (.ref a) (.type "list")
 | frz {a : Addr} {o : Obj} {xs : List V} (e : H a = some (.frz o (.lst xs))) : g8c K H (.ref a) (.type "list")
 | tup {a : Addr} {xs : List V} (e : H a = some (.tup xs)) : g8c K H (.ref a) (.type "tuple")
 | dK {a : Addr} {kvs : List (Key × V)} (e : H a = some (.dK kvs)) : g8c K H (.ref a) (.type "dict")
 | dT {a : Addr} {kvs : List (List Key × V)} (e : H a = some (.dT kvs)) : g8c K H (.ref a) (.type "dict")
 | ins {a C dx : Addr} {fs : List (Str × V)} (e : H a = some (.ins C dx fs)) (cl : Cls K C) (ha : PySem.W.findIn K (.ref C) "__class__" = some (some (.builtin "object.__class__")))
   (hn : PySem.W.specialIn K (.builtin "object.__class__") "__get__" = some (some (.builtin "getset_descriptor.__get__"))) (htk : PySem.W.takesIn K (.builtin "object.__class__") = some true)
   (hm : PySem.W.mroIn K C (.type "object") = some true) : g8c K H (.ref a) (.ref C)
theorem h1n{x:V}{u t:Value}(I:Inv X pins σ H s)(rx:RelV x u)(ty:g8c X.K H x t)(e:PySem.W.kitOne X.K t c=some b)(h:∀ tk,Q (.bool b) { s with toks:=tk }) :
  wpAny (model X.prog X.w) A (call (.builtin "isinstance") [u, c]) Q E s := by
 cases ty with
 | non=>cases (show u=Value.none from rx); exact PySem.W.kia_one PySem.W.kitx_none I.kIn True.intro e (fun z=>nomatch z) h
 | bl y=>cases (show u=Value.bool y from rx); exact PySem.W.kia_one PySem.W.kitx_bool I.kIn True.intro e (fun z=>nomatch z) h
 | int i=>obtain⟨t,q⟩:=(show ∃ t,u=Value.int i t from rx); cases q; exact PySem.W.kia_one PySem.W.kitx_int I.kIn True.intro e (fun z=>nomatch z) h
 | str y=>obtain⟨t,q⟩:=(show ∃ t,u=Value.str y t from rx); cases q; exact PySem.W.kia_one PySem.W.kitx_str I.kIn True.intro e (fun z=>nomatch z) h
 | flt y=>obtain⟨t,q⟩:=(show ∃ t,u=Value.float y t from rx); cases q; exact PySem.W.kia_one PySem.W.kitx_float I.kIn True.intro e (fun z=>nomatch z) h
 | @lst a xs ea =>
  cases (show u=Value.ref a from rx)
  obtain⟨_,_,n,_,h1⟩:=(show b4w X.prog X.w H s.heap a (.lst xs) from I.hok a _ ea)
  exact PySem.W.kia_one PySem.W.kitx_list I.kIn ⟨_,h1,rfl⟩ e (fun z=>nomatch z) h
 | @frz a ob xs ea =>
  cases (show u=Value.ref a from rx)
  obtain⟨_,_,_,n,_,h1⟩:=(show b4w X.prog X.w H s.heap a (.frz ob (.lst xs)) from I.hok a _ ea)
  exact PySem.W.kia_one PySem.W.kitx_list I.kIn ⟨_,h1,rfl⟩ e (fun z=>nomatch z) h
 | @tup a xs ea =>
  cases (show u=Value.ref a from rx)
  obtain⟨_,_,_,p⟩:=(show b4w X.prog X.w H s.heap a (.tup xs) from I.hok a _ ea)
  obtain⟨o,h1,h2,_⟩:=p
  exact PySem.W.kia_one PySem.W.kitx_tuple I.kIn ⟨o,h1,h2⟩ e (fun z=>nomatch z) h
 | @dK a kvs ea =>
  cases (show u=Value.ref a from rx)
  obtain⟨_,_,vs,_,p⟩:=(show b4w X.prog X.w H s.heap a (.dK kvs) from I.hok a _ ea)
  obtain⟨o,es,ep,h1,h2,_⟩:=p
  exact PySem.W.kia_one PySem.W.kitx_dict I.kIn ⟨o,h1,h2.1⟩ e (fun z=>nomatch z) h
 | @dT a kvs ea =>
  cases (show u=Value.ref a from rx)
  obtain⟨_,_,xs,_,o,es,ep,h1,h2,_⟩:=(show b4w X.prog X.w H s.heap a (.dT kvs) from I.hok a _ ea)
  exact PySem.W.kia_one PySem.W.kitx_dict I.kIn ⟨o,h1,h2.1⟩ e (fun z=>nomatch z) h
 | @ins a C dx fs ea cl ha hn htk hm =>
  cases (show u=Value.ref a from rx)
  obtain⟨mA,O,_⟩:=f5i I.hok ea
  obtain⟨od,J,_⟩:=O.look
  exact PySem.W.kia_one (PySem.W.kitx_own (cl.get _) cl.hd ha hn htk hm) I.kIn J e (fun z=>nomatch z) h
end
end L2
namespace L2
open PySem PySem.Spec PyProof.Rows
structure a2p(k:Nat)(A:Around):Prop where
 hd:A.handled=none
 dp:A.depth+3*k+5 < recursionLimit
 un:A.units+16*k+200 < cLine
theorem a2p.mono{j k:Nat}{A:Around}(r:a2p k A)(h:j<=k):a2p j A:=⟨r.hd,by have:=r.dp; omega,by have:=r.un; omega⟩
theorem a2p.deeper{k:Nat}{A:Around}(r:a2p (k+1) A)(env:Env):a2p k (A.deeper env) :=
 ⟨r.hd,by have:=r.dp; show A.depth+1+3*k+5 < _; omega,by have:=r.un; show A.units+3+16*k+200 < _; omega⟩
theorem g8d {A : Around} {C : Addr} {us : List Value} {kw : List (Str × Value)} : (A.under (.builtin "type.__call__" ⟨.ref C :: us, kw⟩)).depth = A.depth + 1 := by
 first | rfl | simp [Around.under,Code.weight,Code.isCreation,Code.isGuard,Code.isCaller,Code.frames,Code.isFrame,guardIds]
theorem g8e {A : Around} {C : Addr} {us : List Value} {kw : List (Str × Value)} : (A.under (.builtin "type.__call__" ⟨.ref C :: us, kw⟩)).units = A.units + 1 := by
 first | rfl | simp [Around.under,Code.cUnits,Code.frames,Code.isFrame]
theorem a2p.make {k : Nat} {A : Around} (r : a2p (k + 1) A) (C : Addr) (us : List Value) (kw : List (Str × Value)) : a2p k (A.under (.builtin "type.__call__" ⟨.ref C :: us, kw⟩)) :=
 ⟨r.hd,by have:=r.dp; rw [g8d]; omega,by have:=r.un; rw [g8e]; omega⟩
theorem a2p.depth{k:Nat}{A:Around}(r:a2p k A):A.depth < recursionLimit:=by have:=r.dp; omega
theorem a2p.units{k:Nat}{A:Around}(r:a2p k A):A.units+64 < cLine:=by have:=r.un; omega
def g2z:TA:=fun _ H Q=>Q [] H
def j0u(ta:TE)(tr:TA):TA:=fun σ H Q=>ta σ H fun x H1=>tr σ H1 fun xs H2=>Q (x :: xs) H2
section
variable {X:Cx}{e:Expr}{es:List Expr}{te:TE}{t:TA}{pos:Pos}
theorem a0i:PA X [] g2z:=fun _ _ _ _ H Q I h=>Calls.spliced_nil ⟨[],H,I,.nil,h⟩
theorem a0g(ha:PE X e te)(hr:PA X es t)(hs:starEach (e :: es) X.env=(false,eval e X.env) :: starEach es X.env:=by rfl):PA X (e :: es) (j0u te t):=by
 intro pos pins s σ H Q I h
 rw [hs]
 show wpAny _ _ (spliced ((false,eval e X.env) :: backTo pos (starEach es X.env))) _ _ s
 refine Calls.spliced_cons (thn (ha pins s σ H _ I h) fun u s1 ⟨x,H1,I1,r1,q1⟩=>?_)
 exact thn (hr pos pins s1 σ H1 _ I1 q1) fun us s2 ⟨xs,H2,I2,r2,q2⟩=>⟨x :: xs,H2,I2,.cons r1 r2,q2⟩
end
noncomputable abbrev Sp:=List V->Hp->VK->XK->Prop
noncomputable abbrev CXT:=List Env->Hp->Shared->XK->Value->Shared->Prop
structure h9l(P:Program)(w:World)(K:PySem.W.Frag)(mg:Str->Option Value)(base:Heap)(A:Around)(outer:List Env)(s:Shared)(H:Hp):Prop where
 frames:A.frames=some outer
 mod:Mod K mg base
 bs:∀ b o,base.get? b=some o->s.heap.get? b=some o/\H b=none
 bsz:base.objs.size<=s.heap.objs.size
 h0i:s.heap.FunFrames base outer
 frf:∀ b∈frs outer,H b=none
 hok:HOk P w H s.heap
 bare:AllBare s.gens
def CE(outer:List Env)(P:Program)(w:World)(H:Hp)(s:Shared)(Q:VK)(u:Value)(s':Shared):Prop :=
 ∃ v H',s'.os=s.os/\AllBare s'.gens/\Un (frs outer) [] H H' s.heap s'.heap/\HOk P w H' s'.heap/\RelV v u/\Q v H'
def CR(CX:CXT)(outer:List Env)(P:Program)(w:World)(H:Hp)(s:Shared)(Q:VK)(E:XK)(r:Result)(s':Shared):Prop :=
 match r with
 | .ok (.ret u)=>CE outer P w H s Q u s'
 | .ok _=>False
 | .error e=>CX outer H s E e s'
structure a1q(P:Program)(w:World)(K:PySem.W.Frag)(mg:Str->Option Value)(base:Heap)(CX:CXT)(k:Nat)(f:Addr)(fd:FuncData)(ps:List Str)(sp:Sp):Prop where
 len:∀ vs H Q E,sp vs H Q E->vs.length=ps.length
 run:∀ (A:Around) (outer:List Env) (s:Shared) (H:Hp) (args:Args) (us:List Value) (vs:List V) (Q:VK) (E:XK),a2p k A->h9l P w K mg base A outer s H->BindsTo s fd args (ps.zip us)->Vals vs us->sp vs H Q E ->
  codeAny (model P w) A (.call (.ref f) args) (CR CX outer P w H s Q E) s
theorem h9l.make{P:Program}{w:World}{K:PySem.W.Frag}{mg:Str->Option Value}{base:Heap}{A:Around}{outer:List Env}{s:Shared}{H:Hp}(e:h9l P w K mg base A outer s H)(C:Addr)(us:List Value)(kw:List (Str×Value)) :
  h9l P w K mg base (A.under (.builtin "type.__call__" ⟨.ref C :: us, kw⟩)) outer s H := ⟨by first | exact e.frames | (simpa [Around.under, Code.envs, Code.isFrame, pushEnvs] using e.frames), e.mod, e.bs, e.bsz, e.h0i, e.frf, e.hok, e.bare⟩
section
variable {X:Cx}{pins:List (Addr×Obj)}{σ:St}{H:Hp}{s s':Shared}
theorem Inv.env0(I:Inv X pins σ H s):h9l X.prog X.w X.K X.mg X.base X.A X.stack s H :=
 ⟨I.ok.frames,I.ok.mod,I.bs,Nat.le_trans I.ok.bsz I.sz,I.stack,I.g2x,I.hok,I.bare⟩
theorem Inv.after{Q:VK}{u:Value}(I:Inv X pins σ H s)(h:CE X.stack X.prog X.w H s Q u s'):EP X pins σ Q u s':=by
 obtain⟨v,H',os,bare,un,hok,r,q⟩:=h
 obtain⟨hh,g,d,t,os'⟩:=s'
 obtain rfl:os'=s.os:=os
 exact⟨v,H',I.call (h':=hh) (g':=g) (d':=d) (t':=t) (ch:=[]) un hok bare (fun b z=>absurd z (by simp)),r,q⟩
end
def i6a(sp:Sp)(dvs:List V)(E:XK)(t:TA):TE:=fun σ H Q=>t σ H fun vs H1=>sp (vs++dvs) H1 Q E
def Binds(K:PySem.W.Frag)(fd:FuncData)(ps:List Str)(ds:List Value):Prop :=
 ∀ (s:Shared) (us:List Value),K.In s.heap->(us++ds).length=ps.length->BindsTo s fd ⟨us,[]⟩ (ps.zip (us++ds))
theorem Binds.all{K:PySem.W.Frag}{fd:FuncData}{ps:List Str}(h:∀ us:List Value,us.length=ps.length->bindArgs fd ⟨us,[]⟩=pure (ps.zip us)):Binds K fd ps []:=fun s us _ hl=>by
 rw [List.append_nil] at hl ⊢
 exact .of_eq (h us hl)
def Passes(CX:CXT)(X:Cx)(E:XK):Prop:=∀ (pins:List (Addr×Obj)) (σ:St) (H:Hp) (s:Shared) (e:Value) (s':Shared),Inv X pins σ H s->CX X.stack H s E e s'->X.xe e s'
section
variable {X:Cx}{CX:CXT}{k:Nat}{f C:Addr}{fd:FuncData}{ps:List Str}{sp:Sp}{dvs:List V}{ds:List Value}{E:XK}{x m:Str}{p pos apos:Pos}{e o:Expr}{es:List Expr}{ta:TE}{t:TA}
theorem g6m{pins:List (Addr×Obj)}{σ:St}{H:Hp}{s:Shared}{Q:VK}{us:List Value}{vs:List V}(F:a1q X.prog X.w X.K X.mg X.base CX k f fd ps sp)(hr:a2p k X.A)(hb:Binds X.K fd ps ds)(hd:Vals dvs ds)(hx:Passes CX X E)
  (I:Inv X pins σ H s) (r:Vals vs us) (h:sp (vs++dvs) H Q E):wpAny (model X.prog X.w) X.A (call (.ref f) us) (EP X pins σ Q) X.xe s:=by
 have r2:Vals (vs++dvs) (us++ds):=r.append hd
 have hl:(us++ds).length=ps.length:=by rw [<- r2.length]; exact F.len _ _ _ _ h
 refine wpAny_call (codeAny_mono (F.run X.A X.stack s H ⟨us,[]⟩ (us++ds) (vs++dvs) Q E hr I.env0 (hb s us I.kIn hl) r2 h) fun r s' hq=>?_)
 cases r with
 | error e=>exact hx pins σ H s e s' I hq
 | ok fl =>
  cases fl with
  | ret u=>exact I.after hq
  | next=>exact False.elim hq
  | brk=>exact False.elim hq
  | cont=>exact False.elim hq
theorem a0v(F:a1q X.prog X.w X.K X.mg X.base CX k f fd ps sp)(hr:a2p k X.A)(hg:Gl X x)(hm:X.mg x=some (.ref f))(hk:PySem.W.keepIn X.K (.ref f)=true)(hb:Binds X.K fd ps ds)(hd:Vals dvs ds)(hx:Passes CX X E)
  (ha : PA X (e :: es) t) (hdb : (x == ("__debug__" : Str)) = false := by decide) (he : starEach (e :: es) X.env = (false, eval e X.env) :: starEach es X.env := by rfl) (hpl : (backTo pos (starEach es X.env)).any (·.1) = false := by rfl) :
  PE X (.Call (.Name x p) (e :: es) [] pos) (i6a sp dvs E t):=by
 intro pins s σ H Q I h
 refine wpAny_Call_Name_kw (f4z I hg hm ?_ hdb)
 refine PySem.W.callWith_K (h₀:=X.base) I.ok.mod.kin hk (thn (ha pos pins s σ H _ I h) fun us s1 ⟨vs,H1,I1,r,q⟩=>⟨I1.kIn,?_⟩) he hpl
 exact g6m F hr hb hd hx I1 r q
structure Mk(K:PySem.W.Frag)(C f:Addr):Prop where
 makes:PySem.W.makesIn K C=true
 init : PySem.W.findIn K (.ref C) "__init__" = some (some (.ref f))
 fn:PySem.W.isFn K (.ref f)=true
 kp:PySem.W.keepIn K (.ref C)=true
theorem g6n{pins:List (Addr×Obj)}{σ:St}{H:Hp}{s:Shared}{Q:VK}{us:List Value}{vs:List V}(M:Mk X.K C f)(F:a1q X.prog X.w X.K X.mg X.base CX k f fd ps sp)(hr:a2p (k+1) X.A)(hb:Binds X.K fd ps ds)(hd:Vals dvs ds)
  (hx:Passes CX X E) (I:Inv X pins σ H s) (r:Vals vs us)
  (h:∀ x dx,H x=none->H dx=none->dx≠x->sp (.ref x :: (vs++dvs)) (upd (upd H dx (.own x)) x (.ins C dx [])) (fun v H2=>v = .non/\Q (.ref x) H2) E) :
  wpAny (model X.prog X.w) X.A (call (.ref C) us) (EP X pins σ Q) X.xe s:=by
 have hq:=h (s.heap.objs.size+1) s.heap.objs.size (I.hok.fresh (Nat.le_succ _)) (I.hok.fresh (Nat.le_refl _)) (Nat.ne_of_lt (Nat.lt_succ_self _))
 have I2:=Inv.made (C:=C) I
 have r2:Vals (V.ref (s.heap.objs.size+1) :: (vs++dvs)) (Value.ref (s.heap.objs.size+1) :: (us++ds)):=.cons rfl (r.append hd)
 have hl:(Value.ref (s.heap.objs.size+1) :: us++ds).length=ps.length:=by
  have e:=r2.length
  rw [F.len _ _ _ _ hq] at e
  exact e.symm
 refine wpAny_call (h7a (f:=f) I.kIn M.makes M.init (beq_iff_eq.mp M.fn) (codeAny_mono (F.run _ X.stack _ _ ⟨Value.ref (s.heap.objs.size+1) :: us,[]⟩ (Value.ref (s.heap.objs.size+1) :: (us++ds)) _ _ E (hr.make C us [])
  (I2.env0.make C us []) (hb _ (Value.ref (s.heap.objs.size+1) :: us) I2.kIn hl) r2 hq) fun r s' hq'=>?_))
 cases r with
 | error e=>exact hx pins σ _ _ e s' I2 hq'
 | ok fl =>
  cases fl with
  | ret u =>
   obtain⟨v,H',I3,rv,ev,q3⟩:=I2.after hq'
   subst ev
   exact⟨rv,⟨V.ref (s.heap.objs.size+1),H',I3,rfl,q3⟩⟩
  | next=>exact False.elim hq'
  | brk=>exact False.elim hq'
  | cont=>exact False.elim hq'
end
section
variable {X:Cx}{CX:CXT}{k:Nat}{f C:Addr}{fd:FuncData}{ps ks:List Str}{sp:Sp}{E:XK}{x m:Str}{p pos apos kpos:Pos}{e o:Expr}{es:List Expr}{kws:List Keyword}{te ta:TE}{t tk:TA}{nm:Option Str}
structure j3w(K:PySem.W.Frag)(fd:FuncData)(ps ks:List Str)(g:List Value->List Value->List Value)(gV:List V->List V->List V):Prop where
 to:∀ (s:Shared) (us ws:List Value),K.In s.heap->(g us ws).length=ps.length->BindsTo s fd ⟨us,ks.zip ws⟩ (ps.zip (g us ws))
 rel:∀ {vs:List V} {us:List Value} {zs:List V} {ws:List Value},Vals vs us->Vals zs ws->Vals (gV vs zs) (g us ws)
variable {g:List Value->List Value->List Value}{gV:List V->List V->List V}
end
structure a0r(N P:List Str)(sc:Scope):Prop where
 kind:sc.kind = .function
 co:sc.isCoroutine=false
 gen:sc.isGenerator=false
 nd:N.Nodup
 pre:N.take P.length=P
 par:∀ x∈P,sc.names.lookup x=some .local\/sc.names.lookup x=some .cell
 i6b:∀ y∈sc.names,y.2≠.free
theorem f9o{kindOf:Str->Option NameKind}{x:Str}:∀ {binds:List (Str×Value)} {m:Str->Option Value},(∀ v,(x,v)∉binds)->bindL kindOf binds m x=m x
 | [],_,_=>rfl
 | (n,v) :: r,m,h=>by
  unfold bindL
  rw [f9o fun w hw=>h w (List.mem_cons_of_mem _ hw)]
  split
  ·have:x≠n:=by rintro rfl; exact h v List.mem_cons_self
   simp [this]
  ·rfl
theorem f9p{kindOf:Str->Option NameKind}{x:Str}:∀ {binds:List (Str×Value)} {m:Str->Option Value},(∀ v,(x,v)∉binds)->bindC kindOf binds m x=m x
 | [],_,_=>rfl
 | (n,v) :: r,m,h=>by
  unfold bindC
  rw [f9p fun w hw=>h w (List.mem_cons_of_mem _ hw)]
  split
  ·rfl
  ·have:x≠n:=by rintro rfl; exact h v List.mem_cons_self
   simp [this]
theorem f9q{kindOf:Str->Option NameKind}{x:Str}{v:Value}:∀ {P:List Str} {vs:List Value} {i:Nat} {m:Str->Option Value},P.Nodup->P[i]? = some x->vs[i]? = some v->kindOf x=some .local ->
  bindL kindOf (P.zip vs) m x=some v
 | [],_,_,_,_,h,_,_=>by simp at h
 | _ :: _,[],_,_,_,_,h,_=>by simp at h
 | p :: P,w :: vs,0,m,nd,h1,h2,hk=>by
  simp at h1 h2; subst h1; subst h2
  show bindL kindOf ((p,w) :: P.zip vs) m p=_
  unfold bindL
  rw [f9o fun v hv=>(List.nodup_cons.mp nd).1 (List.of_mem_zip hv).1,if_pos hk]
  simp
 | p :: P,w :: vs,i+1,m,nd,h1,h2,hk=>by
  show bindL kindOf ((p,w) :: P.zip vs) m x=_
  unfold bindL
  exact f9q (i:=i) (List.nodup_cons.mp nd).2 (by simpa using h1) (by simpa using h2) hk
theorem f9r{kindOf:Str->Option NameKind}{x:Str}{v:Value}:∀ {P:List Str} {vs:List Value} {i:Nat} {m:Str->Option Value},P.Nodup->P[i]? = some x->vs[i]? = some v->kindOf x≠some .local ->
  bindC kindOf (P.zip vs) m x=some v
 | [],_,_,_,_,h,_,_=>by simp at h
 | _ :: _,[],_,_,_,_,h,_=>by simp at h
 | p :: P,w :: vs,0,m,nd,h1,h2,hk=>by
  simp at h1 h2; subst h1; subst h2
  show bindC kindOf ((p,w) :: P.zip vs) m p=_
  unfold bindC
  rw [f9p fun v hv=>(List.nodup_cons.mp nd).1 (List.of_mem_zip hv).1,if_neg hk]
  simp
 | p :: P,w :: vs,i+1,m,nd,h1,h2,hk=>by
  show bindC kindOf ((p,w) :: P.zip vs) m x=_
  unfold bindC
  exact f9r (i:=i) (List.nodup_cons.mp nd).2 (by simpa using h1) (by simpa using h2) hk
noncomputable def start(N:List Str)(vs:List V):St:=vs.map some++List.replicate (N.length - vs.length) none
def i1i(CX:CXT)(P:Program)(w:World)(K:PySem.W.Frag)(mg:Str->Option Value)(base:Heap)(N:List Str)(qual:Str)(scope:Scope)(f:Addr)(cd:Value)(A:Around)(outer:List Env)(s:Shared)(H:Hp)(E:XK):Cx where
 prog:=P
 w:=w
 K:=K
 mg:=mg
 base:=base
 A:=A.deeper (envOfC qual scope s.heap.objs.size f cd)
 N:=N
 s₀:=s
 H₀:=H
 env:=envOfC qual scope s.heap.objs.size f cd
 outer:=outer
 stack:=envOfC qual scope s.heap.objs.size f cd :: outer
 ex:=[]
 calm:=true
 fn:=fun _=>true
 pn:=[]
 xe:=fun e s'=>wpAny (model P w) (A.deeper (envOfC qual scope s.heap.objs.size f cd)) (leaving (envOfC qual scope s.heap.objs.size f cd) e) (fun _ s''=>CX outer H s E e s'') (fun e' s''=>CX outer H s E e' s'') s'
theorem g6o{sc:Scope}{n:Nat}{x:Str}(h:sc.names.lookup x=some .cell):∃ c,(cellsFrom n sc.names []).lookup x=some c:=by
 have q:=PySem.W.cellsFrom_some sc.names n [] (.inl h)
 exact Option.isSome_iff_exists.mp q
theorem h1o{CX:CXT}{P:Program}{w:World}{K:PySem.W.Frag}{mg:Str->Option Value}{base:Heap}{N ps:List Str}{qual:Str}{scope:Scope}{f:Addr}{cd:Value}{A:Around}{outer:List Env}{s s1:Shared}{H:Hp}{E:XK}{us:List Value}{vs:List V}
  (S:a0r N ps scope) (hd:A.handled=none) (e0:h9l P w K mg base A outer s H) (hl:vs.length=ps.length) (r:Vals vs us)
  (x:InCallC s s.heap.objs.size (bindL (envOfC qual scope s.heap.objs.size f cd).kindOf (ps.zip us) fun _=>none) (cellsFrom (s.heap.objs.size+1) scope.names []) (bindC (envOfC qual scope s.heap.objs.size f cd).kindOf (ps.zip us) fun _=>none) s1) :
  Inv (i1i CX P w K mg base N qual scope f cd A outer s H E) [] (start N vs) H s1:=by
 have hpl:ps.length<=N.length:=by have:=congrArg List.length S.pre; rw [List.length_take] at this; omega
 obtain⟨h1,tk,rfl,hk⟩:=x.done
 have noA:∀ b:Addr,b∉(i1i CX P w K mg base N qual scope f cd A outer s H E).ex:=fun b z=>absurd (show b∈([] : List Addr) from z) (by simp)
 refine⟨⟨e0.mod,S.kind,rfl,rfl,Nat.le_refl _,fun y z c h1 h2=>?_,fun y hy=>?_,fun y c _ h=>?_,fun _=>hd,Around.frames_deeper e0.frames,.inr ⟨rfl,rfl⟩,fun b z=>absurd z (noA b),e0.bs,e0.bsz,fun b _ _=>noA b,fun b z=>absurd z (noA b),e0.h0i,e0.frf⟩,
  rfl,e0.bare,Un.kept hk,⟨_,x.toInCall.ns,fun i y v h1 h2 h3=>?_⟩,fun y c h=>⟨_,x.cell y c h⟩,e0.hok.fresh (Nat.le_refl _),fun y c h=>?_,fun p hp=>absurd (show p∈([] : List (Addr×Obj)) from hp) (by simp),e0.hok.kept hk,?_⟩
 ·exact name_of_addr x.apart (PySem.mem_of_lookup h1) (PySem.mem_of_lookup h2)
 ·have hy:scope.names.lookup y=some .cell\/scope.names.lookup y=some .free:=hy
  rcases hy with hy | hy
  ·exact g6o hy
  ·exact absurd rfl (S.i6b _ (PySem.mem_of_lookup hy))
 ·exact Nat.le_of_lt (x.above y c (PySem.mem_of_lookup h))
 ·have hi:i < vs.length:=by
   unfold start at h2
   by_cases hi:i < vs.length
   ·exact hi
   ·rw [List.getElem?_append_right (by simpa using hi)] at h2
    rw [List.getElem?_replicate] at h2
    split at h2 <;> cases h2
  have ha:vs[i]? = some v:=by
   unfold start at h2
   rw [List.getElem?_append_left (by simpa using hi),List.getElem?_map] at h2
   cases e:vs[i]? with
   | none=>rw [e] at h2; cases h2
   | some a=>rw [e] at h2; cases h2; rfl
  obtain⟨u,hu,rv⟩:=r.get ha
  have hp:ps[i]? = some y:=by
   rw [<- S.pre,List.getElem?_take_of_lt (by omega)]; exact h1
  have ndP:ps.Nodup:=by rw [<- S.pre]; exact S.nd.sublist (List.take_sublist _ _)
  refine⟨u,rv,?_⟩
  rcases S.par y (List.mem_of_getElem? hp) with k | k
  ·exact .inl ⟨k,f9q ndP hp hu k⟩
  ·obtain⟨c,e⟩:=g6o (n:=s.heap.objs.size+1) k
   refine .inr ⟨.inl k,c,e,?_⟩
   have q:=x.cell y c e
   rw [f9r ndP hp hu (by show scope.names.lookup y≠_; rw [k]; decide)] at q
   exact q
 ·exact e0.hok.fresh (Nat.le_of_lt (x.above y c (PySem.mem_of_lookup h)))
 ·unfold start
  show _=N.length
  rw [List.length_append,List.length_map,List.length_replicate]
  omega
theorem j0v{CX:CXT}{P:Program}{w:World}{K:PySem.W.Frag}{mg:Str->Option Value}{base:Heap}{k:Nat}{f:Addr}{name qual:Str}{params:Arguments}{body:List Stmt}{scope:Scope}{dV kV doc pm cdv ct oc:Value}{an od:Option Addr}
  {osl:Array (Option Value)} {N ps:List Str} {sp:Sp} (lk:K.lookup f=some ⟨oc,od,.func (PySem.W.fnOf name qual params body scope dV kV doc pm an cdv ct),osl⟩) (hcd:PySem.W.codeIn K cdv qual=true) (S:a0r N ps scope)
  (len:∀ vs H Q E,sp vs H Q E->vs.length=ps.length)
  (hbody:∀ (A:Around) (outer:List Env) (s:Shared) (H:Hp) (vs:List V) (Q:VK) (E:XK),a2p k (A.deeper (envOfC qual scope s.heap.objs.size f cdv))->sp vs H Q E ->
   ∃ t,PSs (i1i CX P w K mg base N qual scope f cdv A outer s H E) body t/\t { nx:=fun _ H'=>Q .non H',rt:=Q } (start N vs) H) :
  a1q P w K mg base CX (k+1) f (PySem.W.fnOf name qual params body scope dV kV doc pm an cdv ct) ps sp:=by
 refine⟨len,fun A outer s H args us vs Q E hr e0 hb r hsp=>?_⟩
 have hl:=len _ _ _ _ hsp
 have KX:K.In s.heap:=e0.mod.kin.keeps fun b o e=>(e0.bs b o e).1
 have lim:s.heap.NoLimit:=e0.mod.nolimit.keeps fun b o e=>(e0.bs b o e).1
 have hkind:∀ y∈ps.zip us,scope.names.lookup y.1=some .local\/(scope.names.lookup y.1=some .cell/\((cellsFrom (s.heap.objs.size+1) scope.names []).lookup y.1).isSome=true):=fun⟨n,v⟩ hy=>by
  rcases S.par n (List.of_mem_zip hy).1 with q | q
  ·exact .inl q
  ·exact .inr ⟨q,PySem.W.cellsFrom_some _ _ _ (.inl q)⟩
 refine codeAny_call_function hr.depth (KX _ _ lk) rfl S.co S.gen rfl (PySem.W.codeRec_of KX hcd) (hb _ _ _ _ ?_)
 refine wpAny_newFunctionEnv_cells S.kind hkind fun env he s1 x=>?_
 subst he
 refine⟨lim.keeps x.toInCall.keep,codeAny_func ?_⟩
 obtain⟨t,ht,hq⟩:=hbody A outer s H vs Q E (hr.deeper _) hsp
 have I:Inv (i1i CX P w K mg base N qual scope f cdv A outer s H E) [] (start N vs) H s1:=h1o S hr.hd e0 hl r x
 refine wpAny_mono (ht [] s1 (start N vs) H _ I hq) (fun fl s' hs=>?_) fun e s' hs=>hs
 have fin:∀ {σ':St} {H':Hp} {v:V} {u:Value},Inv (i1i CX P w K mg base N qual scope f cdv A outer s H E) [] σ' H' s'->RelV v u->Q v H'->CE outer P w H s Q u s' :=
  fun {σ' H' v u} J rv q=>⟨v,H',J.os,J.bare,J.base,J.hok,rv,q⟩
 cases fl with
 | ret u =>
  obtain⟨v,σ',H',J,rv,q⟩:=hs
  exact fin J rv q
 | next =>
  obtain⟨σ',H',J,q⟩:=hs
  exact fin (v:=V.non) (u:=Value.none) J rfl q
 | brk =>
  obtain⟨_,_,_,q⟩:=hs
  exact False.elim q
 | cont =>
  obtain⟨_,_,_,q⟩:=hs
  exact False.elim q
end L2
namespace L2
open PySem PySem.Spec PyProof.Rows
section
variable {X:Cx}{x:Str}{p pos:Pos}{e:Expr}{es:List Expr}{t:TA}{id T:String}{r:List V->Hp->VK->Prop}
def tCB(r:List V->Hp->VK->Prop)(t:TA):TE:=fun σ H Q=>t σ H fun vs H1=>r vs H1 Q
theorem a1g (hc : b3v X (.builtin id) r) (hg : Gl X x) (hm : X.mg x = none) (hv : bootBuiltins x = some (.builtin id)) (ha : PA X (e :: es) t) (hn : x ≠ "__name__" := by decide) (hdb : (x == ("__debug__" : Str)) = false := by decide)
  (he:starEach (e :: es) X.env=(false,eval e X.env) :: starEach es X.env:=by rfl) (hpl:(backTo pos (starEach es X.env)).any (·.1)=false:=by rfl):PE X (.Call (.Name x p) (e :: es) [] pos) (tCB r t):=by
 intro pins s σ H Q I h
 refine wpAny_Call_Name_kw (f3r I hg hm hv ?_ hn hdb)
 exact PyProof.Rows.callWith_builtin1 (thn (ha pos pins s σ H _ I h) fun us s1 ⟨vs,H1,I1,r1,q1⟩=>hc pins s1 σ H1 vs us Q I1 r1 q1) he hpl
theorem a2r (hc : b3v X (.type T) r) (hg : Gl X x) (hm : X.mg x = none) (hv : bootBuiltins x = some (.type T)) (ha : PA X (e :: es) t) (hn : x ≠ "__name__" := by decide) (hdb : (x == ("__debug__" : Str)) = false := by decide)
  (he:starEach (e :: es) X.env=(false,eval e X.env) :: starEach es X.env:=by rfl) (hpl:(backTo pos (starEach es X.env)).any (·.1)=false:=by rfl):PE X (.Call (.Name x p) (e :: es) [] pos) (tCB r t):=by
 intro pins s σ H Q I h
 refine wpAny_Call_Name_kw (f3r I hg hm hv ?_ hn hdb)
 exact PyProof.Rows.callWith_type1 (thn (ha pos pins s σ H _ I h) fun us s1 ⟨vs,H1,I1,r1,q1⟩=>hc pins s1 σ H1 vs us Q I1 r1 q1) he hpl
end
end L2
namespace HT
open PySem PyProof.Rows
section
open PySem.SeqAt
open PySem.AutoSeq1 (wpAny_loadPart')
open PySem.MeetsSeq PySem.MeetsSeq2 PySem.MeetsSeq3
end
section
variable {prog:Program}{w:World}{A:Around}{E:Value->Shared->Prop}{s:Shared}
noncomputable def sIx(n d:Nat):Option Int->Nat
 | none=>d
 | some v=>if v < 0 then (v+(n:Int)).toNat else min v.toNat n
theorem g6p(n d:Nat):sIx n d none=d:=rfl
theorem f5j(n d k:Nat):sIx n d (some (k:Int))=min k n:=by
 show (if (k:Int) < 0 then ((k:Int)+(n:Int)).toNat else min (k:Int).toNat n)=min k n
 rw [if_neg (by omega),Int.toNat_natCast]
end
end HT
namespace L2
open PySem PySem.Spec PyProof.Rows
noncomputable abbrev TO:=St->Hp->(Option Int->Hp->Prop)->Prop
def PO(X:Cx)(e:Option Expr)(t:TO):Prop :=
 ∀ (pins:List (Addr×Obj)) (s:Shared) (σ:St) (H:Hp) (Q:Option Int->Hp->Prop),Inv X pins σ H s->t σ H Q ->
  wpAny (model X.prog X.w) X.A (evalPart e X.env) (fun u s'=>∃ o H',Inv X pins σ H' s'/\IsPart u o/\Q o H') X.xe s
noncomputable def i1j:TO:=fun _ H Q=>Q none H
def i6c(t:TE):TO:=fun σ H Q=>t σ H fun x H1=>∃ i,x = .int i/\Q (some i) H1
section
variable {X:Cx}{e:Expr}{te:TE}{lo hi:Option Expr}{tl th:TO}{pos p2:Pos}
theorem b1h:PO X none i1j:=by
 intro pins s σ H Q I h
 rw [evalPart_none]
 exact wpAny_pure ⟨none,H,I,.none,h⟩
theorem i1k(h:PE X e te):PO X (some e) (i6c te):=by
 intro pins s σ H Q I hw
 rw [evalPart_some]
 refine thn (h pins s σ H _ I hw) fun u s1 ⟨x,H1,I1,r1,q1⟩=>?_
 obtain⟨i,rfl,q⟩:=q1
 obtain⟨t,rfl⟩:=r1
 exact⟨some i,H1,I1,.int i t,q⟩
def SlR(X:Cx)(r:V->Option Int->Option Int->Hp->VK->Prop):Prop :=
 ∀ (pins:List (Addr×Obj)) (s:Shared) (σ:St) (H:Hp) (x:V) (v vl vu:Value) (lo hi:Option Int) (sl:Addr) (Q:VK),Inv X pins σ H s->RelV x v->s.heap.IsSliceOf sl vl vu .none->IsPart vl lo->IsPart vu hi->r x lo hi H Q ->
  ∃ T id, typeLookup (.type T) "__getitem__" = pure (some (.builtin id)) ∧ s.TypeIs v T ∧ wpAny (model X.prog X.w) X.A (getItem v (.ref sl)) (EP X pins σ Q) X.xe s
def tSl(r:V->Option Int->Option Int->Hp->VK->Prop)(te:TE)(tl th:TO):TE:=fun σ H Q=>te σ H fun x H1=>tl σ H1 fun l H2=>th σ H2 fun u H3=>r x l u H3 Q
theorem a5k{r:V->Option Int->Option Int->Hp->VK->Prop}(hr:SlR X r)(he:PE X e te)(hl:PO X lo tl)(hu:PO X hi th):PE X (.Subscript e (.Slice lo hi none p2) pos) (tSl r te tl th):=by
 intro pins s σ H Q I h
 refine Subscript_ (thn (he pins s σ H _ I h) fun v s1 ⟨x,H1,I1,r1,q1⟩=>?_)
 refine wpAny_Slice (thn (hl pins s1 σ H1 _ I1 q1) fun vl s2 ⟨l,H2,I2,pl,q2⟩=>thn (hu pins s2 σ H2 _ I2 q2) fun vu s3 ⟨u,H3,I3,pu,q3⟩=>?_)
 rw [evalPart_none]
 refine wpAny_pure ?_
 have I4 : Inv X pins σ H3 { s3 with heap := s3.heap.push { cls := .type "slice", data := .fields #[vl, vu, .none] } } := I3.kept (t' := s3.toks) fun b ob q => Heap.get?_push_of_some _ q
 obtain ⟨T, id, hT, ht, hg⟩ := hr pins { s3 with heap := s3.heap.push { cls := .type "slice", data := .fields #[vl, vu, .none] } } σ H3 x v vl vu l u s3.heap.objs.size Q I4 r1 (Heap.IsSliceOf.new ..) pl pu q3
 show wpAny (model X.prog X.w) X.A (subscriptTail e (.Slice lo hi none p2) v (.ref s3.heap.objs.size)) (EP X pins σ Q) X.xe { s3 with heap := s3.heap.push { cls := .type "slice", data := .fields #[vl, vu, .none] } }
 exact tail_any (ops:=[.ref s3.heap.objs.size,v]) ht hT hg (by with_unfolding_all rfl)
noncomputable def f5k(xs:List V)(lo hi:Option Int):List V:=(xs.drop (HT.sIx xs.length 0 lo)).take (HT.sIx xs.length xs.length hi - HT.sIx xs.length 0 lo)
theorem g3a(xs:List V)(lo hi:Option Int):(f5k xs lo hi).length<=xs.length:=by
 unfold f5k
 rw [List.length_take,List.length_drop]
 omega
end
end L2
namespace L2
open PySem PySem.Spec PyProof.Rows
noncomputable def ixN(n:Nat)(i:Int):Option Nat:=if 0<=i then (if i < n then some i.toNat else none) else if -(n:Int)<=i then some (i+n).toNat else none
noncomputable def atI{α:Type}(xs:List α)(i:Int):Option α:=(ixN xs.length i).bind fun j=>xs[j]?
theorem h1p{n:Nat}{i:Int}{j:Nat}(h:ixN n i=some j):seqIndex? i n=some j/\j < n /\ -(n:Int)<=i/\i < n:=by
 unfold ixN at h
 by_cases h0:0<=i
 ·rw [if_pos h0] at h
  by_cases h1:i < n
  ·rw [if_pos h1] at h
   have e:i.toNat=j:=Option.some.inj h
   exact⟨by rw [seqIndex_of h0 h1,e],by omega,by omega,h1⟩
  ·rw [if_neg h1] at h; cases h
 ·rw [if_neg h0] at h
  by_cases h1 : -(n:Int)<=i
  ·rw [if_pos h1] at h
   have e:(i+n).toNat=j:=Option.some.inj h
   exact⟨by rw [seqIndex_neg (by omega) h1,e],by omega,h1,by omega⟩
  ·rw [if_neg h1] at h; cases h
theorem g3b{α:Type}{xs:List α}{i:Int}{v:α}(h:atI xs i=some v):∃ j,seqIndex? i xs.length=some j/\xs[j]? = some v/\j < xs.length /\ -(xs.length:Int)<=i/\i < xs.length:=by
 unfold atI at h
 cases e:ixN xs.length i with
 | none=>rw [e] at h; cases h
 | some j =>
  rw [e] at h
  obtain⟨h1,h2,h3,h4⟩:=h1p e
  exact⟨j,h1,h,h2,h3,h4⟩
theorem b1t{α:Type}{xs:List α}{j:Nat}{v:α}(h:xs[j]? = some v):atI xs (j:Int)=some v:=by
 have hj:j < xs.length:=(List.getElem?_eq_some_iff.mp h).1
 have e:ixN xs.length (j:Int)=some j:=by
  unfold ixN
  rw [if_pos (by omega),if_pos (by omega)]; simp
 unfold atI; rw [e]; exact h
def i1l(b:Expr):Prop:=∀ o i,subscripted b false o i=operate [o,i] (getItem o i)
def IxR(X:Cx)(r:R2):Prop :=
 ∀ (value slice:Expr) (pins:List (Addr×Obj)) (s:Shared) (σ:St) (H:Hp) (x y:V) (v u:Value) (Q:VK),Inv X pins σ H s->RelV x v->RelV y u->r x y H Q ->
  subscripted slice false v u=operate [v,u] (getItem v u)->wpAny (model X.prog X.w) X.A (subscriptTail value slice v u) (EP X pins σ Q) X.xe s
def MtR(X:Cx)(id:String)(r:V->List V->Hp->VK->Prop):Prop :=
 ∀ (pins:List (Addr×Obj)) (s:Shared) (σ:St) (H:Hp) (x:V) (xs:List V) (v:Value) (us:List Value) (Q:VK),Inv X pins σ H s->RelV x v->Vals xs us->r x xs H Q ->
  wpAny (model X.prog X.w) X.A (call (.builtin id) (v :: us)) (EP X pins σ Q) X.xe s
section
variable {X:Cx}{a b:Expr}{ta tb:TE}{pos:Pos}
theorem a1t{r:R2}(hr:IxR X r)(ha:PE X a ta)(hb:PE X b tb)(hs:i1l b):PE X (.Subscript a b pos) (tOp r ta tb):=by
 intro pins s σ H Q I h
 exact Subscript_ (j0n ha hb I h fun v u s2 x y H2 I2 rx ry q=>hr a b pins s2 σ H2 x y v u Q I2 rx ry q (hs _ _))
def rIxL(K:PySem.W.Frag):R2:=fun x y H Q=>∃ p xs i v,x = .ref p/\y = .int i/\SqL K H p xs/\atI xs i=some v/\Q v H
def rIxT(K:PySem.W.Frag):R2:=fun x y H Q=>∃ p xs i v,x = .ref p/\y = .int i/\SqT K H p xs/\atI xs i=some v/\Q v H
def rIxS:R2:=fun x y H Q=>∃ z i c,x = .str z/\y = .int i/\z.length<=sizeLine/\atI z.cps.toList i=some c/\Q (.str ⟨#[c]⟩) H
theorem h1q:IxR X (rIxL X.K):=by
 intro value slice pins s σ H x y v u Q I rx ry h hs
 obtain⟨p,xs,i,z,rfl,rfl,hq,he,q⟩:=h
 cases rx
 obtain⟨t,rfl⟩:=ry
 obtain⟨its,r,pl,hz⟩:=I.list hq
 obtain⟨j,h1,h2,h3,h4,h5⟩:=g3b he
 obtain⟨w,ew,rw'⟩:=r.get h2
 have hl:=r.length
 have hn:=f3s
 have fin:EP X pins σ Q w s:=⟨z,H,I,rw',q⟩
 by_cases h0:0<=i
 ·have hj:i.toNat=j:=by
   rw [seqIndex_of h0 h5] at h1
   exact Option.some.inj h1
  exact item_listR pl.isList h0 (by omega) (by rw [hj]; simpa using ew) fin hs
 ·have hj:(i+(its.toArray.size:Int)).toNat=j:=by
   rw [seqIndex_neg (by omega) h4] at h1
   rw [List.size_toArray,<- hl]
   exact Option.some.inj h1
  exact subscriptTail_builtinR (x:=w) pl.isList.typeIs slot_list_getitem.lookup
   (wpAny_getItem_list_neg (Q:=fun r s'=>r=w/\EP X pins σ Q r s') pl.isList (by omega) (by rw [List.size_toArray] <;> omega) (by omega) (by rw [hj]; simpa using ew) ⟨rfl,fin⟩) hs
theorem i6d:IxR X (rIxT X.K):=by
 intro value slice pins s σ H x y v u Q I rx ry h hs
 obtain⟨p,xs,i,z,rfl,rfl,hq,he,q⟩:=h
 cases rx
 obtain⟨t,rfl⟩:=ry
 obtain⟨its,r,pl,hz⟩:=I.tuple hq
 obtain⟨j,h1,h2,h3,h4,h5⟩:=g3b he
 obtain⟨w,ew,rw'⟩:=r.get h2
 have hl:=r.length
 have hn:=f3s
 have fin:EP X pins σ Q w s:=⟨z,H,I,rw',q⟩
 exact subscriptTail_builtinR (x:=w) pl.typeIs slot_tuple_getitem.lookup
  (getItem_tuple (j:=j) (Q:=fun r s'=>r=w/\EP X pins σ Q r s') pl (by omega) (by omega) (by rw [List.size_toArray,<- hl]; exact h1) (by simpa using ew) ⟨rfl,fin⟩) hs
theorem i6e:IxR X rIxS:=by
 intro value slice pins s σ H x y v u Q I rx ry h hs
 obtain⟨z,i,c,rfl,rfl,hz,he,q⟩:=h
 obtain⟨t,rfl⟩:=rx
 obtain⟨t',rfl⟩:=ry
 obtain⟨j,h1,h2,h3,h4,h5⟩:=g3b he
 have hl:z.cps.toList.length=z.length:=by simp [Str.length]
 rw [hl] at h1 h4 h5
 have hn:=f3s
 exact tail_any (typeIs_str s z t) slot_str_getitem.lookup (getItem_str (c:=c) (by
  have e1:decide (i < -(2 ^ 63:Int))=false:=decide_eq_false (by omega)
  have e2:decide (i ≥ 2 ^ 63)=false:=decide_eq_false (by omega)
  rw [e1,e2,Bool.or_false]) (by rw [h1]; simpa using h2) ⟨.str ⟨#[c]⟩,H,I.tok _,⟨_,rfl⟩,q⟩) hs
theorem g8f (its : List Value) (n j : Nat) (u : Value) : Obj.mapSeq (·.setIfInBounds j u) { cls := .type "list", data := .seq its.toArray n } = { cls := .type "list", data := .seq (its.set j u).toArray n } := by
 simp [Obj.mapSeq]
theorem Inv.lst{pins:List (Addr×Obj)}{σ:St}{H:Hp}{s:Shared}{p:Addr}{xs:List V}(I:Inv X pins σ H s)(h:H p=some (.lst xs)) :
  ∃ (its : List Value) (n : Nat), Vals xs its ∧ s.heap.get? p = some { cls := .type "list", data := .seq its.toArray n } ∧ xs.length ≤ sizeLine := by
 obtain⟨z,its,n,r,e⟩:=I.hok p _ h
 exact⟨its,n,r,e,z⟩
theorem Inv.i6f{pins:List (Addr×Obj)}{σ:St}{H:Hp}{s:Shared}{p:Addr}{xs ys:List V}{its its':List Value}{n n':Nat}{f:Obj->Obj}(I:Inv X pins σ H s)(h:H p=some (.lst xs))
  (ho : s.heap.get? p = some { cls := .type "list", data := .seq its.toArray n }) (hf : f { cls := .type "list", data := .seq its.toArray n } = { cls := .type "list", data := .seq its'.toArray n' }) (r : Vals ys its') (hz : ys.length ≤ sizeLine) (t : Nat) :
  Inv X pins σ (upd H p (.lst ys)) { s with heap:=s.heap.update p f,toks:=t }:=by
 have e : (s.heap.update p f).get? p = some { cls := .type "list", data := .seq its'.toArray n' } := by
  rw [Heap.get?_update_self f ho (by rw [hf] <;> rfl),hf]
 refine I.write (x:=p) (e:=p) (by rw [h]; trivial) (.inl rfl) (fun b u hb q=>(Heap.get?_update_other _ _ (Ne.symm hb)).trans q) ⟨_,e⟩ ?_
 exact⟨hz,its',n',r,e⟩
noncomputable def j0w:V->V->V->Hp->(Hp->Prop)->Prop:=fun o i v H Q=>∃ p xs k j,o = .ref p/\i = .int k/\H p=some (.lst xs)/\ixN xs.length k=some j/\Q (upd H p (.lst (xs.set j v)))
theorem set_list:j0k X j0w:=by
 intro pins s σ H o i v ov iv u Q I ro ri rv h
 obtain⟨p,xs,k,j,rfl,rfl,hp,hj,q⟩:=h
 cases ro
 obtain⟨t,rfl⟩:=ri
 obtain⟨its,n,r,ho,hz⟩:=I.lst hp
 obtain⟨h1,h2,h3,h4⟩:=h1p hj
 have hl:=r.length
 have hn:=f3s
 have I':Inv X pins σ (upd H p (.lst (xs.set j v))) { s with heap:=s.heap.update p (Obj.mapSeq (·.setIfInBounds j u)) } :=
  I.i6f hp ho (g8f its n j u) (r.set rv j) (by rw [List.length_set]; exact hz) s.toks
 by_cases h0:0<=k
 ·have hk:k.toNat=j:=by
   rw [seqIndex_of h0 h4] at h1
   exact Option.some.inj h1
  exact PySem.W.ki_setAt ho h0 (by omega) (by rw [List.size_toArray,<- hl]; exact h4) (by rw [hk]; exact⟨_,I',q⟩)
 ·have hk:(k+(its.toArray.size:Int)).toNat=j:=by
   rw [seqIndex_neg (by omega) h3] at h1
   rw [List.size_toArray,<- hl]
   exact Option.some.inj h1
  exact PySem.W.ki_setBack ho (by omega) (by rw [List.size_toArray,<- hl]; exact h3) (by omega) (by rw [hk]; exact⟨_,I',q⟩)
theorem f9s(lo hi:Option Int)(n:Nat):(sliceBounds lo hi none n).1=((HT.sIx n 0 lo:Nat):Int)/\(sliceBounds lo hi none n).2.1=((HT.sIx n n hi:Nat):Int)/\(sliceBounds lo hi none n).2.2=1:=by
 refine⟨?_,?_,rfl⟩
 ·cases lo with
  | none=>simp [sliceBounds,HT.sIx]
  | some i =>
   simp only [sliceBounds,HT.sIx,Option.getD_none,show (1:Int) > 0 by decide,if_true]
   by_cases h:i < 0
   ·simp only [h,if_true] <;> omega
   ·simp only [h,if_false] <;> omega
 ·cases hi with
  | none=>simp [sliceBounds,HT.sIx]
  | some i =>
   simp only [sliceBounds,HT.sIx,Option.getD_none,show (1:Int) > 0 by decide,if_true]
   by_cases h:i < 0
   ·simp only [h,if_true] <;> omega
   ·simp only [h,if_false] <;> omega
theorem f5l(its:List Value)(lo hi:Option Int):slicePick its.toArray lo hi none=((its.drop (HT.sIx its.length 0 lo)).take (HT.sIx its.length its.length hi - HT.sIx its.length 0 lo)).toArray:=by
 obtain⟨h1,h2,h3⟩:=f9s lo hi its.toArray.size
 unfold slicePick
 rw [h1,h2,h3]
 simp only [sliceRange_one,pick_run,List.size_toArray] <;> rfl
noncomputable def rSlL(K:PySem.W.Frag):V->Option Int->Option Int->Hp->VK->Prop:=fun x lo hi H Q=>∃ a xs,x = .ref a/\SqL K H a xs/\∀ p,H p=none->Q (.ref p) (upd H p (.lst (f5k xs lo hi)))
theorem h1r:SlR X (rSlL X.K):=by
 intro pins s σ H x v vl vu lo hi sl Q I rx hs pl pu h
 obtain⟨a,xs,rfl,hx,q⟩:=h
 cases rx
 obtain⟨its,r,ht,hz⟩:=I.list hx
 have hlen:=r.length
 refine ⟨"list", _, slot_list_getitem.lookup, ht.isList.typeIs, ?_⟩
 refine wpAny_getItem_list_slice ht.isList hs pl pu .none (by simp) ?_ (by rw [List.size_toArray] <;> omega)
 rw [f5l,<- hlen]
 refine⟨.ref s.heap.objs.size,_,I.laid (t':=s.toks) (o:=.lst (f5k xs lo hi)) (fun b ob q=>Heap.get?_push_of_some _ q) (Nat.le_refl _) ?_,rfl,q _ (I.hok.fresh (Nat.le_refl _))⟩
 exact⟨Nat.le_trans (g3a xs lo hi) hz,_,0,(r.drop (HT.sIx xs.length 0 lo)).take (HT.sIx xs.length xs.length hi - HT.sIx xs.length 0 lo),Heap.get?_push_size _ rfl⟩
noncomputable def c1m:V->Bool
 | .non=>true
 | .bl _=>true
 | .int _=>true
 | .str _=>true
 | _=>false
noncomputable def eqV:V->V->Bool
 | .non,.non=>true
 | .bl a,.bl b=>a == b
 | .bl a,.int b=>(if a then 1 else 0) == b
 | .int a,.bl b=>a == (if b then 1 else 0)
 | .int a,.int b=>a == b
 | .str a,.str b=>a == b
 | _,_=>false
theorem i6g{A:Around}{s:Shared}{y x:V}{u v:Value}(ry:RelV y u)(rx:RelV x v)(fy:c1m y=true)(fx:c1m x=true):SeqAt.EqAt A s u v (eqV y x):=by
 cases y with
 | non =>
  cases ry
  cases x with
  | non=>cases rx; exact SeqAt.EqAt.same _
  | bl b=>cases rx; exact SeqAt.EqAt.none_bool b
  | int b=>obtain⟨t,rfl⟩:=rx; exact SeqAt.EqAt.none_int b t
  | str b=>obtain⟨t,rfl⟩:=rx; exact SeqAt.EqAt.none_str b t
  | _=>exact absurd (show false=true from fx) Bool.false_ne_true
 | bl a =>
  cases ry
  cases x with
  | non=>cases rx; exact SeqAt.EqAt.bool_none a
  | bl b=>cases rx; exact SeqAt.EqAt.bool_bool a b
  | int b=>obtain⟨t,rfl⟩:=rx; exact SeqAt.EqAt.bool_int a b t
  | str b=>obtain⟨t,rfl⟩:=rx; exact SeqAt.EqAt.bool_str a b t
  | _=>exact absurd (show false=true from fx) Bool.false_ne_true
 | int a =>
  obtain⟨t',rfl⟩:=ry
  cases x with
  | non=>cases rx; exact SeqAt.EqAt.int_none a t'
  | bl b=>cases rx; exact SeqAt.EqAt.int_bool a t' b
  | int b=>obtain⟨t,rfl⟩:=rx; exact SeqAt.EqAt.int_int a t' b t
  | str b=>obtain⟨t,rfl⟩:=rx; exact SeqAt.EqAt.int_str a t' b t
  | _=>exact absurd (show false=true from fx) Bool.false_ne_true
 | str a =>
  obtain⟨t',rfl⟩:=ry
  cases x with
  | non=>cases rx; exact SeqAt.EqAt.str_none a t'
  | bl b=>cases rx; exact SeqAt.EqAt.str_bool a t' b
  | int b=>obtain⟨t,rfl⟩:=rx; exact SeqAt.EqAt.str_int a t' b t
  | str b=>obtain⟨t,rfl⟩:=rx; exact SeqAt.EqAt.str_str a t' b t
  | _=>exact absurd (show false=true from fx) Bool.false_ne_true
 | _=>exact absurd (show false=true from fy) Bool.false_ne_true
noncomputable def eqU(x:V)(u:Value):Bool:=match u with
 | .none=>eqV .non x
 | .bool b=>eqV (.bl b) x
 | .int i _=>eqV (.int i) x
 | .str z _=>eqV (.str z) x
 | _=>false
theorem h9m{x y:V}{u:Value}(r:RelV y u)(f:c1m y=true):eqU x u=eqV y x:=by
 cases y with
 | non=>cases r; rfl
 | bl b=>cases r; rfl
 | int i=>obtain⟨t,rfl⟩:=r; rfl
 | str z=>obtain⟨t,rfl⟩:=r; rfl
 | _=>exact absurd (show false=true from f) Bool.false_ne_true
theorem d8g{x:V}:∀ {xs:List V} {us:List Value},Vals xs us->xs.all c1m=true->us.any (eqU x)=xs.any fun y=>eqV y x
 | _,_,.nil,_=>rfl
 | y :: xs,u :: us,.cons r t,f=>by
  rw [List.all_cons,Bool.and_eq_true] at f
  rw [List.any_cons,List.any_cons,h9m r f.1,d8g t f.2]
theorem d2h{A:Around}{s:Shared}{x:V}{v:Value}(rx:RelV x v)(fx:c1m x=true):∀ {xs:List V} {us:List Value},Vals xs us->xs.all c1m=true->∀ u∈us,SeqAt.EqAt A s u v (eqU x u)
 | _,_,.nil,_=>fun u hu=>by cases hu
 | y :: xs,u :: us,.cons r t,f=>fun u' hu=>by
  rw [List.all_cons,Bool.and_eq_true] at f
  rcases List.mem_cons.mp hu with rfl | hu
  ·rw [h9m r f.1]; exact i6g r rx f.1 fx
  ·exact d2h rx fx t f.2 u' hu
noncomputable def inV(x:V)(xs:List V):Bool:=xs.any fun y=>eqV y x
def rIn(K:PySem.W.Frag)(neg:Bool):R2:=fun x y H Q=>∃ p xs,y = .ref p/\(SqL K H p xs\/SqT K H p xs)/\c1m x=true/\xs.all c1m=true/\Q (.bl (if neg then !inV x xs else inV x xs)) H
theorem f9t:OpR X (compareOp .In) (rIn X.K false):=by
 intro pins s σ H x y v u Q I rx ry h
 obtain⟨p,xs,rfl,hq,fx,fs,q⟩:=h
 cases ry
 rcases hq with hq | hq
 ·obtain⟨its,r,pl,hz⟩:=I.list hq
  refine SeqAt.in_listAt (eqU x) pl.isList (fun w hw=>d2h rx fx r fs w (by simpa using hw)) ⟨.bl _,H,I,rfl,?_⟩
  rw [show its.toArray.any (eqU x)=its.any (eqU x) by simp,d8g r fs]
  exact q
 ·obtain⟨its,r,pl,hz⟩:=I.tuple hq
  refine SeqAt.in_tupleAt (eqU x) pl (fun w hw=>d2h rx fx r fs w (by simpa using hw)) ⟨.bl _,H,I,rfl,?_⟩
  rw [show its.toArray.any (eqU x)=its.any (eqU x) by simp,d8g r fs]
  exact q
theorem d5k:OpR X (compareOp .NotIn) (rIn X.K true):=by
 intro pins s σ H x y v u Q I rx ry h
 obtain⟨p,xs,rfl,hq,fx,fs,q⟩:=h
 cases ry
 rcases hq with hq | hq
 ·obtain⟨its,r,pl,hz⟩:=I.list hq
  refine SeqAt.notIn_listAt (eqU x) pl.isList (fun w hw=>d2h rx fx r fs w (by simpa using hw)) ⟨.bl _,H,I,rfl,?_⟩
  rw [show its.toArray.any (eqU x)=its.any (eqU x) by simp,d8g r fs]
  exact q
 ·obtain⟨its,r,pl,hz⟩:=I.tuple hq
  refine SeqAt.notIn_tupleAt (eqU x) pl (fun w hw=>d2h rx fx r fs w (by simpa using hw)) ⟨.bl _,H,I,rfl,?_⟩
  rw [show its.toArray.any (eqU x)=its.any (eqU x) by simp,d8g r fs]
  exact q
theorem f9u:OpR X (compareOp .NotIn) (fun x y H Q=>∃ i j,x = .str i/\y = .str j/\Q (.bl (!(!(Builtin.Str.occurrences j i 0 j.length 1).isEmpty))) H):=by
 intro pins s σ H x y v u Q I rx ry h
 obtain⟨i,j,rfl,rfl,q⟩:=h
 obtain⟨t,rfl⟩:=rx
 obtain⟨t',rfl⟩:=ry
 exact notIn_str ⟨.bl _,H,I,rfl,q⟩
theorem c7s : b3v X (.builtin "len") (fun xs H Q => ∃ p ys, xs = [.ref p] ∧ (SqL X.K H p ys ∨ SqT X.K H p ys) ∧ Q (.int ys.length) H) := by
 intro pins s σ H xs us Q I r h
 obtain⟨p,ys,rfl,hq,q⟩:=h
 obtain⟨u,rfl,rx⟩:=vals1 r
 cases rx
 have hn:=f3s
 rcases hq with hq | hq
 ·obtain⟨its,r',pl,hz⟩:=I.list hq
  have hlen:=r'.length
  exact Calls.call_len_list pl.isList (by simp only [List.size_toArray] <;> omega) ⟨.int ys.length,H,I.tok _,⟨s.toks+1,by rw [List.size_toArray,hlen]⟩,q⟩
 ·obtain⟨its,r',pl,hz⟩:=I.tuple hq
  have hlen:=r'.length
  exact len_tuple pl (by simp only [List.size_toArray] <;> omega) ⟨.int ys.length,H,I.tok _,⟨s.toks+1,by rw [List.size_toArray,hlen]⟩,q⟩
theorem f9v : b3v X (.builtin "len") (fun xs H Q => ∃ z, xs = [.str z] ∧ z.length ≤ sizeLine ∧ Q (.int z.length) H) := by
 intro pins s σ H xs us Q I r h
 obtain⟨z,rfl,hz,q⟩:=h
 obtain⟨u,rfl,t,rfl⟩:=vals1 r
 have hn:=f3s
 exact len_str (by omega) ⟨.int z.length,H,I.tok _,⟨_,rfl⟩,q⟩
theorem f9w : b3v X (.type "list") (fun xs H Q => ∃ p ys, xs = [.ref p] ∧ (SqL X.K H p ys ∨ SqT X.K H p ys) ∧ ∀ l, H l = none → Q (.ref l) (upd H l (.lst ys))) := by
 intro pins s σ H xs us Q I r h
 obtain⟨p,ys,rfl,hq,q⟩:=h
 obtain⟨u,rfl,rx⟩:=vals1 r
 cases rx
 have fin:∀ (its:List Value),Vals ys its->ys.length<=sizeLine->∀ (h':Heap) (c':Nat),(∀ b o',s.heap.get? b=some o'->h'.get? b=some o') ->
   h'.get? s.heap.objs.size = some { cls := .type "list", dict := none, data := .seq its.toArray c', slots := #[] } → EP X pins σ Q (.ref s.heap.objs.size) { s with heap := h' } := fun its r' hz h' c' kp e =>
  ⟨.ref s.heap.objs.size,_,I.laid (t':=s.toks) kp (Nat.le_refl _) (show b4w X.prog X.w _ h' _ (.lst ys) from ⟨hz,its,c',r',e⟩),rfl,q _ (I.hok.fresh (Nat.le_refl _))⟩
 rcases hq with hq | hq
 ·obtain⟨its,r',pl,hz⟩:=I.list hq
  have hlen:=r'.length
  obtain⟨o,ho,hc,n,hd⟩:=pl.isList
  exact call_list_seq p (.inl rfl) ho hc hd (fun h' c' kp e=>fin its r' hz h' c' kp e) (by simp only [List.size_toArray] <;> omega)
 ·obtain⟨its,r',pl,hz⟩:=I.tuple hq
  have hlen:=r'.length
  obtain⟨o,ho,hc,n,hd⟩:=pl
  exact call_list_seq p (.inr rfl) ho hc hd (fun h' c' kp e=>fin its r' hz h' c' kp e) (by simp only [List.size_toArray] <;> omega)
theorem f5m : b3v X (.type "tuple") (fun xs H Q => ∃ p ys, xs = [.ref p] ∧ ((SqL X.K H p ys ∧ ∀ l, H l = none → Q (.ref l) (upd H l (.tup ys))) ∨ (SqT X.K H p ys ∧ Q (.ref p) H))) := by
 intro pins s σ H xs us Q I r h
 obtain⟨p,ys,rfl,h⟩:=h
 obtain⟨u,rfl,rx⟩:=vals1 r
 cases rx
 rcases h with ⟨hq,q⟩ | ⟨hq,q⟩
 ·obtain⟨its,r',pl,hz⟩:=I.list hq
  have hlen:=r'.length
  refine call_tuple_list pl.isList (fun h' kp=>?_) (by simp only [List.size_toArray] <;> omega)
  have I1:Inv X pins σ H { s with heap:=h' }:=I.kept (t':=s.toks) kp
  have I2 : Inv X pins σ (upd H h'.objs.size (.tup ys)) { s with heap := h'.push { cls := .type "tuple", data := .seq its.toArray } } :=
   I1.laid (t':=s.toks) (fun b o e=>Heap.get?_push_of_some _ e) (Nat.le_refl _) (show b4w X.prog X.w _ _ _ (.tup ys) from ⟨hz,its,r',IsTup.new _ _⟩)
  exact⟨.ref h'.objs.size,_,I2,rfl,q _ (I1.hok.fresh (Nat.le_refl _))⟩
 ·obtain⟨its,r',pl,hz⟩:=I.tuple hq
  exact call_tuple_same pl ⟨.ref p,H,I,rfl,q⟩
def tyV(K:PySem.W.Frag)(T:String)(x:V)(H:Hp):Prop:=match x with
 | .str _ => T = "str"
 | .int _ => T = "int"
 | .ref p => (T = "list" ∧ ∃ xs, SqL K H p xs) ∨ (T = "tuple" ∧ ∃ o, K.lookup p = some o ∧ o.cls = .type "tuple" ∧ o.dict = none) ∨
   (T = "dict" ∧ ((∃ kvs, H p = some (.dK kvs)) ∨ ∃ kvs, H p = some (.dT kvs))) ∨ (T = "set" ∧ ∃ S n, H p = some (.set S n))
 | _=>False
theorem h1s{pins:List (Addr×Obj)}{σ:St}{H:Hp}{s:Shared}{T:String}{x:V}{v:Value}(I:Inv X pins σ H s)(r:RelV x v)(ty:tyV X.K T x H) :
  s.TypeIs v T/\∀ a,v = .ref a->∃ ob,s.heap.get? a=some ob/\ob.dict=none:=by
 cases x with
 | str z =>
  obtain⟨t,rfl⟩:=r
  cases (show T = "str" from ty)
  exact⟨typeIs_str s z t,fun _ e=>nomatch e⟩
 | int i =>
  obtain⟨t,rfl⟩:=r
  cases (show T = "int" from ty)
  exact⟨typeIs_int s i t,fun _ e=>nomatch e⟩
 | ref p =>
  cases r
  rcases ty with ⟨rfl,xs,hq⟩ | ⟨rfl,o,hk,hc,hd⟩ | ⟨rfl,hk⟩ | ⟨rfl,S,n,hk⟩
  ·obtain⟨its,_,pl,_⟩:=I.list hq
   refine⟨pl.isList.typeIs,fun a e=>?_⟩
   cases e
   obtain⟨o,n,e,c,hd,_⟩:=pl
   exact⟨o,e,hd⟩
  ·refine⟨⟨o,I.kIn p o hk,hc⟩,fun a e=>?_⟩
   cases e
   exact⟨o,I.kIn _ o hk,hd⟩
  ·have z:∃ o,s.heap.get? p=some o/\o.ExactDict:=by
    rcases hk with ⟨kvs,hk⟩ | ⟨kvs,hk⟩
    ·obtain⟨_,_,_,_,o,_,_,e,ex,_⟩:=I.hok p _ hk
     exact⟨o,e,ex⟩
    ·obtain⟨_,_,_,_,o,_,_,e,ex,_⟩:=I.hok p _ hk
     exact⟨o,e,ex⟩
   obtain⟨o,e,ex⟩:=z
   refine⟨⟨o,e,ex.1⟩,fun a e2=>?_⟩
   cases e2
   exact⟨o,e,ex.2.1⟩
  ·obtain⟨o,_,_,_,e,ex,_⟩:=I.hok p _ hk
   refine⟨⟨o,e,ex.1⟩,fun a e2=>?_⟩
   cases e2
   exact⟨o,e,ex.2.1⟩
 | _=>exact False.elim ty
variable {o e:Expr}{es:List Expr}{to:TE}{t:TA}{name:Str}{apos cpos:Pos}{T id:String}{r:V->List V->Hp->VK->Prop}
/- xs.append(e),list.index on a module's tuple .. are MtR facts of 06m -/
end
end L2
namespace L2
open PySem PySem.Spec PyProof.Rows
def MtM(X:Cx)(id:String)(r:V->List V->Hp->VK->Prop):Prop :=
 ∀ (pins:List (Addr×Obj)) (s:Shared) (σ:St) (H:Hp) (x:V) (xs:List V) (v:Value) (us:List Value) (Q:VK),Inv X pins σ H s->RelV x v->Vals xs us->r x xs H Q ->
  wpAny (model X.prog X.w) X.A (call (.builtin id) (v :: us)) (EP X pins σ Q) X.xe s
theorem Vals.one:∀ {x:V} {us:List Value},Vals [x] us->∃ u,us = [u]/\RelV x u
 | _,_,.cons r .nil=>⟨_,rfl,r⟩
theorem Vals.two{x y:V}{us:List Value}(h:Vals [x,y] us):∃ u v,us = [u,v]/\RelV x u/\RelV y v:=by
 cases h with
 | cons r t =>
  cases t with
  | cons q z =>
   cases z
   exact⟨_,_,rfl,r,q⟩
theorem Vals.zero:∀ {us:List Value},Vals [] us->us = []
 | _,.nil=>rfl
theorem Vals.dropLast{xs:List V}{us:List Value}(h:Vals xs us):Vals xs.dropLast us.dropLast:=by
 induction h with
 | nil=>exact .nil
 | cons r t ih =>
  cases t with
  | nil=>exact .nil
  | cons q t'=>exact .cons r ih
theorem Vals.eraseIdx:∀ {xs:List V} {us:List Value} (i:Nat),Vals xs us->Vals (xs.eraseIdx i) (us.eraseIdx i)
 | _,_,_,.nil=>.nil
 | _,_,0,.cons _ t=>t
 | _,_,i+1,.cons r t=>.cons r (Vals.eraseIdx i t)
theorem Vals.reverse{xs:List V}{us:List Value}(h:Vals xs us):Vals xs.reverse us.reverse:=by
 induction h with
 | nil=>exact .nil
 | cons r t ih=>rw [List.reverse_cons,List.reverse_cons]; exact Vals.append ih (.cons r .nil)
theorem Vals.rep{xs:List V}{us:List Value}(h:Vals xs us):∀ k:Nat,Vals (List.replicate k xs).flatten (List.replicate k us).flatten
 | 0=>.nil
 | k+1=>by
  rw [List.replicate_succ,List.replicate_succ,List.flatten_cons,List.flatten_cons]
  exact Vals.append h (Vals.rep h k)
theorem g8g{α:Type}(l:List α):l.eraseIdx (l.length - 1)=l.dropLast:=by
 induction l with
 | nil=>rfl
 | cons a r ih =>
  cases r with
  | nil=>rfl
  | cons b r =>
   have e:(a :: b :: r).length - 1=((b :: r).length - 1)+1:=by
    have h1:(a :: b :: r).length=r.length+2:=rfl
    have h2:(b :: r).length=r.length+1:=rfl
    omega
   rw [e,List.eraseIdx_cons_succ,ih]
   all_goals rfl
theorem f9y{α:Type}:∀ (l:List α) (i:Nat),(l.eraseIdx i).length<=l.length
 | [],_=>Nat.le_refl _
 | _ :: _,0=>Nat.le_succ _
 | _ :: r,i+1=>Nat.succ_le_succ (f9y r i)
theorem foldl_rep(its:List Value):∀ (k:Nat) (acc:List Value),
  List.foldl (fun x1 x2=>x1++x2) acc.toArray (List.replicate k its.toArray)=(acc++(List.replicate k its).flatten).toArray
 | 0,acc=>by simp
 | k+1,acc=>by
  have e:acc.toArray++its.toArray=(acc++its).toArray:=by simp
  have e2:(acc++its)++(List.replicate k its).flatten=acc++(List.replicate (k+1) its).flatten:=by
   rw [List.replicate_succ,List.flatten_cons,List.append_assoc]
  rw [<- e2,<- foldl_rep its k (acc++its),<- e,List.replicate_succ,List.foldl_cons]
section
variable {X:Cx}{pins:List (Addr×Obj)}{σ:St}{H:Hp}{s:Shared}{l b:Addr}{xs ys zs:List V}
theorem Inv.j0x{its its':List Value}{n:Nat}{f:Array Value->Array Value}{t':Nat}(I:Inv X pins σ H s)(hH:H l=some (.lst xs))
  (e : s.heap.get? l = some { cls := .type "list", data := .seq its.toArray n }) (hf : f its.toArray = its'.toArray) (hv : Vals ys its') (hz : ys.length ≤ sizeLine) :
  Inv X pins σ (upd H l (.lst ys)) { s with heap:=s.heap.update l (Obj.mapSeq f),toks:=t' }:=by
 have q:=PySem.IsL.update e f
 rw [hf] at q
 refine I.write (x:=l) (e:=l) (by rw [hH]; exact trivial) (.inl rfl) (fun b' u hb hu=>(Heap.get?_update_other s.heap (Obj.mapSeq f) (Ne.symm hb)).trans hu) ⟨_,q⟩ ?_
 exact⟨hz,its',_,hv,q⟩
theorem Inv.j3x{its:List Value}{t':Nat}(I:Inv X pins σ H s)(hv:Vals ys its)(hz:ys.length<=sizeLine) :
  Inv X pins σ (upd H s.heap.objs.size (.lst ys)) { s with heap := s.heap.push { cls := .type "list", data := .seq its.toArray }, toks := t' } :=
 I.laid (fun _ _ q=>Heap.get?_push_of_some _ q) (Nat.le_refl _) ⟨hz,its,0,hv,Heap.get?_push_size _ rfl⟩
theorem Inv.fresh(I:Inv X pins σ H s):H s.heap.objs.size=none:=I.hok.fresh (Nat.le_refl _)
theorem Inv.i1m (I : Inv X pins σ H s) (hH : H l = some (.lst xs)) : xs.length ≤ sizeLine ∧ ∃ (its : List Value) (n : Nat), Vals xs its ∧ xs.length = its.length ∧ s.heap.get? l = some { cls := .type "list", data := .seq its.toArray n } := by
 obtain⟨z,its,n,r,e⟩:=I.hok l _ hH
 exact⟨z,its,n,r,r.length,e⟩
theorem h7b{n:Nat}(h:n<=sizeLine):Builtin.List.listTooLong n=false:=by
 unfold Builtin.List.listTooLong
 exact decide_eq_false (by omega)
end
section
variable {X:Cx}
noncomputable def h1u:V->List V->Hp->VK->Prop:=fun x vs H Q=>∃ l xs y,x = .ref l/\vs = [y]/\H l=some (.lst xs)/\xs.length < sizeLine/\Q .non (upd H l (.lst (xs++[y])))
theorem d2i : MtM X "list.append" h1u := by
 intro pins s σ H x vs v us Q I rx rv h
 obtain⟨l,xs,y,rfl,rfl,hH,hz,q⟩:=h
 cases rx
 obtain⟨u,rfl,ru⟩:=rv.one
 obtain⟨z,its,n,r,hl,e⟩:=I.i1m hH
 refine call_meets F.slot_list_append ⟨_,e,rfl⟩ F.entry_list_append (F.args_list_append_2 _ _) (PySem.list_append l its.toArray n u (by rw [List.size_toArray]; omega)) ⟨e,?_⟩
 refine⟨.non,_,I.j0x (its':=its++[u]) hH e (by simp) (r.append (.cons ru .nil)) ?_,rfl,q⟩
 rw [List.length_append,List.length_singleton]
 omega
noncomputable def rPop:V->List V->Hp->VK->Prop:=fun x vs H Q=>∃ l xs y,x = .ref l/\vs = []/\H l=some (.lst xs)/\xs[xs.length - 1]? = some y/\Q y (upd H l (.lst xs.dropLast))
theorem i6h : MtM X "list.pop" rPop := by
 intro pins s σ H x vs v us Q I rx rv h
 obtain⟨l,xs,y,rfl,rfl,hH,hy,q⟩:=h
 cases rx
 have hus:=rv.zero
 subst hus
 obtain⟨z,its,n,r,hl,e⟩:=I.i1m hH
 obtain⟨u,hu,ru⟩:=r.get hy
 have hy':its.toArray[its.toArray.size - 1]? = some u:=by
  show its.toArray[its.length - 1]? = some u
  rw [<- Array.getElem?_toList,<- hl]
  exact hu
 refine call_meets F.slot_list_pop ⟨_,e,rfl⟩ F.entry_list_pop (F.args_list_pop_1 _) (MeetsSeq.list_pop_last l its.toArray n u hy' (by rw [List.size_toArray]; omega)) ⟨e,?_⟩
 refine⟨y,_,I.j0x (its':=its.dropLast) hH e ?_ r.dropLast ?_,ru,q⟩
 ·show its.toArray.eraseIdxIfInBounds (its.toArray.size - 1)=its.dropLast.toArray
  rw [List.size_toArray,List.eraseIdxIfInBounds_toArray,g8g]
 ·rw [List.length_dropLast]
  omega
noncomputable def i6i:V->List V->Hp->VK->Prop:=fun x vs H Q=>∃ l xs i k y,x = .ref l/\vs = [.int i]/\H l=some (.lst xs) /\ -(2 ^ 63)<=i/\i < 2 ^ 63/\seqIndex? i xs.length=some k/\xs[k]? = some y/\Q y (upd H l (.lst (xs.eraseIdx k)))
theorem h7c : MtM X "list.pop" i6i := by
 intro pins s σ H x vs v us Q I rx rv h
 obtain⟨l,xs,i,k,y,rfl,rfl,hH,h1,h2,hk,hy,q⟩:=h
 cases rx
 obtain⟨u,rfl,ru⟩:=rv.one
 obtain⟨t,rfl⟩:=ru
 obtain⟨z,its,n,r,hl,e⟩:=I.i1m hH
 obtain⟨w,hw,rw'⟩:=r.get hy
 refine call_meets F.slot_list_pop ⟨_,e,rfl⟩ F.entry_list_pop (F.args_list_pop_2 _ _)
  (MeetsSeq.list_pop_at l its.toArray n i t k w (fitsIndex_both h1 h2) (by rw [List.size_toArray,<- hl]; exact hk) (by rw [<- Array.getElem?_toList]; exact hw) (by rw [List.size_toArray]; omega)) ⟨e,?_⟩
 refine⟨y,_,I.j0x (its':=its.eraseIdx k) hH e ?_ (r.eraseIdx k) ?_,rw',q⟩
 ·show its.toArray.eraseIdxIfInBounds k=(its.eraseIdx k).toArray
  rw [List.eraseIdxIfInBounds_toArray]
 ·have:=f9y xs k
  omega
def rCat:R2:=fun x y H Q=>∃ l b xs zs,x = .ref l/\y = .ref b/\H l=some (.lst xs)/\H b=some (.lst zs)/\xs.length+zs.length<=sizeLine/\∀ p,H p=none->Q (.ref p) (upd H p (.lst (xs++zs)))
theorem i6j:OpR X (binaryOp .Add) rCat:=by
 intro pins s σ H x y v u Q I rx ry h
 obtain⟨l,b,xs,zs,rfl,rfl,hH,hB,hz,q⟩:=h
 cases rx
 cases ry
 obtain⟨z,its,n,r,hl,e⟩:=I.i1m hH
 obtain⟨z2,its2,n2,r2,hl2,e2⟩:=I.i1m hB
 refine PySem.P.add_list e e2 ?_ (by rw [List.size_toArray,List.size_toArray]; omega)
 have ea:its.toArray++its2.toArray=(its++its2).toArray:=by simp
 rw [ea]
 exact⟨.ref _,_,I.j3x (t':=s.toks) (r.append r2) (by rw [List.length_append]; omega),rfl,q _ I.fresh⟩
def rRep:R2:=fun x y H Q=>∃ l k xs,x = .ref l/\y = .int k/\H l=some (.lst xs) /\ -(2 ^ 63)<=k/\k < 2 ^ 63/\xs.length*k.toNat<=sizeLine /\
 ∀ p,H p=none->Q (.ref p) (upd H p (.lst (List.replicate k.toNat xs).flatten))
theorem len_rep{α:Type}(xs:List α)(k:Nat):(List.replicate k xs).flatten.length=k*xs.length:=by
 induction k with
 | zero=>simp
 | succ k ih=>rw [List.replicate_succ,List.flatten_cons,List.length_append,ih,Nat.succ_mul,Nat.add_comm]
theorem i6k:OpR X (binaryOp .Mult) rRep:=by
 intro pins s σ H x y v u Q I rx ry h
 obtain⟨l,k,xs,rfl,rfl,hH,h1,h2,hz,q⟩:=h
 cases rx
 obtain⟨t,rfl⟩:=ry
 obtain⟨z,its,n,r,hl,e⟩:=I.i1m hH
 have hlen:its.toArray.size*k.toNat<=sizeLine:=by rw [List.size_toArray,<- hl]; exact hz
 have hcap:¬ its.toArray.size*k.toNat > (2 ^ 63 - 1) / 8:=by
  have:(sizeLine:Nat)<=(2 ^ 63 - 1) / 8:=by decide
  omega
 have hfit:¬ (!Builtin.List.listFitsIndex k)=true:=by
  rw [fitsIndex_both h1 h2]
  exact Bool.false_ne_true
 have j0y:¬ Builtin.List.listTooLong (its.toArray.size*k.toNat)=true:=by
  rw [h7b hlen]
  exact Bool.false_ne_true
 have hnew:List.foldl (fun x1 x2=>x1++x2) #[] (List.replicate (if its.toArray.isEmpty=true then 0 else k.toNat) its.toArray)=(List.replicate k.toNat its).flatten.toArray:=by
  have f0:∀ m:Nat,List.foldl (fun x1 x2=>x1++x2) #[] (List.replicate m its.toArray)=(List.replicate m its).flatten.toArray:=fun m=>by
   have:=foldl_rep its m []
   rw [List.nil_append] at this
   exact this
  rw [f0]
  cases its with
  | nil=>simp
  | cons a r'=>rw [if_neg (by simp)]
 refine wpAny_binaryOp_repeat_ref (T := "list") (U := "int") (by decide) ⟨_, e, rfl⟩ (fun s' => typeIs_int s' k t) noFill_list_mul F.fills_int_mul F.slot_int_rmul repeat_list F.slot_int_index.lookup
  (call_meets F.slot_int_rmul (typeIs_int s k t) F.entry_int_rmul (F.args_int_rmul_2 _ _) (int___rmul___int_list k t l its.toArray n)
   ⟨e,rfl,⟨_,e,rfl⟩,call_meets F.slot_list_mul ⟨_,e,rfl⟩ F.entry_list_mul (F.args_list_mul_2 _ _) (AutoListH.list___mul___list_int_3 l its.toArray n k t hfit hcap j0y) ⟨e,?_⟩⟩)
 rw [hnew]
 exact⟨.ref _,_,I.j3x (t':=s.toks) (r.rep k.toNat) (by rw [len_rep,Nat.mul_comm]; exact hz),rfl,q _ I.fresh⟩
end
section
variable {prog:Program}{w:World}{A:Around}{E:Value->Shared->Prop}{s:Shared}
end
section
variable {X:Cx}
end
end L2
namespace Att
open PySem PySem.W PySem.Calls PyProof.Rows
theorem d8h{P:Params}{h:Heap}:∀ (ns:List Int) (vs:List Value),WellAll P h vs (ns.map WData.int)->IntsAre vs ns:=by
 intro ns
 induction ns with
 | nil =>
  intro vs w
  rw [List.map_nil] at w
  cases w
  exact .nil
 | cons n ns ih =>
  intro vs w
  rw [List.map_cons] at w
  cases w with
  | cons a b =>
   cases a
   exact .cons _ _ (ih _ b)
theorem h1v{l:OpenLaw}{n:Nat}(hn:l.most=some n){P:Params}{h:Heap}{args:List WData}{vals:List Value}
  (hpre:l.row.toRowW.claim.pre args=true) (hwl:WellAll P h vals args) :
  ∃ a vs ns, vals = [Value.ref a] ∧ args = [WData.list (ns.map WData.int)] ∧ h.get? a = some { cls := .type "list", data := .seq vs.toArray } ∧ IntsAre vs ns ∧ ns.length ≤ n := by
 have hsh:WShape.hasAll [] args [.list .int]=true:=(pre_splitW hpre).1
 have hc:l.pre.holds [] { args:=args }=true:=(pre_splitW hpre).2
 obtain⟨d,r,rfl,h1,h2⟩:=hasAllW_cons hsh
 obtain rfl:=hasAllW_nil h2
 obtain⟨xs,rfl,h3⟩:=hasW_list h1
 obtain⟨ns,rfl⟩:=items_int h3
 have hlen:ns.length<=n:=by
  unfold OpenLaw.pre at hc
  have h4:(WTm.not (.lt (.lit (.int (n:Int))) (.len (.arg 0)))).holds [] { args:=[.list (ns.map .int)] }=true:=by
   have h4:=(holds_andW hc).1
   rw [hn] at h4
   exact h4
  have h5:=condW_of h4 (w_not (w_lt w_lit (w_len_list (w_arg rfl))))
  rw [List.length_map] at h5
  refine Nat.le_of_not_lt fun q=>?_
  have q':(n:Int) < ((ns.length:Nat):Int):=by omega
  first
   | (rw [decide_eq_true q'] at h5; exact absurd h5 (by decide))
   | (simp at h5; omega)
 cases hwl with
 | cons w1 w2 =>
  cases w2
  cases w1 with
  | list ho hall=>exact⟨_,_,ns,rfl,rfl,ho,d8h ns _ hall,hlen⟩
theorem h1w(l:OpenLaw)(args:List WData):l.row.toRowW.claim.post args (.bool true) args=true :=
 postW_of (r:=l.row.toRowW) (X:=(true == true))
  (show WShape.has [] (.bool true) .bool=true by first | rfl | decide | simp [WShape.has,WShape.arms,WShape.armsAll])
  (show (WTm.eq .res (.lit (.bool true))).value [] { args:=args,res:=some (.bool true),after:=args }=some (.bool (true == true)) from w_eq_bool (w_res rfl) w_lit) rfl
section
variable {prog:Program}{w:World}{A:Around}{E:Value->Shared->Prop}{s:Shared}{K:Frag}
end
end Att
namespace L2
open PySem PySem.Spec PyProof.Rows
theorem f9z:∀ {vs:List Value} {ns:List Int},IntsAre vs ns->Vals (ns.map V.int) vs
 | _,_,.nil=>.nil
 | _,_,.cons n t h=>.cons ⟨t,rfl⟩ (f9z h)
def Only(H:Hp):Prop:=∀ b,H b=none\/∃ o xs,H b=some (.frz o (.lst xs))
theorem h7d{P:Program}{w:World}{K:PySem.W.Frag}{mg mb:Str->Option Value}{CX:CXT}{k:Nat}{fa a:Addr}{fd:FuncData}{x:Str}{sp:Sp}{s₁:Shared}{vs:List Value}{ns:List Int}
  (KX : K.In s₁.heap) (hns : s₁.heap.Ns mainGlobals mg) (hb : s₁.heap.Ns builtinsNs mb) (hbb : ∀ x : Str, x ≠ "__name__" → mb x = bootBuiltins x) (hlim : s₁.heap.NoLimit) (hg : s₁.gens = #[])
  (ha : s₁.heap.get? a = some { cls := .type "list", data := .seq vs.toArray }) (hi : IntsAre vs ns) (hl : ns.length ≤ sizeLine) (hr : a2p k callerA)
  (F:∀ base:Heap,K.In base->base.Ns mainGlobals mg->a1q P w K mg base CX k fa fd [x] sp) (hbind:∀ (s:Shared) (u:Value),BindsTo s fd ⟨[u],[]⟩ [(x,u)])
  (hsp:∀ H:Hp,Only H->SqL K H a (ns.map V.int)->sp [.ref a] H (fun v _=>v = .bl true) fun _ _ _=>False)
  (hCX:∀ H e s',CX [] H s₁ (fun _ _ _=>False) e s'->False) :
  codeAny (model P w) callerA (.call (.ref fa) ⟨[.ref a],[]⟩) (fun r s'=>r = .ok (.ret (.bool true))/\OldK s₁.heap s'.heap/\s'.os=s₁.os/\AllBare s'.gens) s₁:=by
 have rv:=f9z hi
 have lenV:=hi.length
 -- from an abstract heap in which nothing but the script may be tracked
 have core:∀ H:Hp,Only H->SqL K H a (ns.map V.int)->HOk P w H s₁.heap->(∀ b,H b≠none->b=a)->(H a≠none->K.lookup a=none) ->
   codeAny (model P w) callerA (.call (.ref fa) ⟨[.ref a],[]⟩) (fun r s'=>r = .ok (.ret (.bool true))/\OldK s₁.heap s'.heap/\s'.os=s₁.os/\AllBare s'.gens) s₁:=by
  intro H hO hS hok hA hK
  have h1x:∀ {b:Addr} {o:Obj},s₁.heap.get? b=some o->H b=none->(h6u s₁.heap H).get? b=some o:=fun e n=>h6v e n
  have noA:∀ {b:Addr} {o:Obj} {es:Array DictEntry} {ep:Nat},s₁.heap.get? b=some o->o.data = .dict es ep->H b=none:=fun {b o es ep} e d=>by
   cases q:H b with
   | none=>rfl
   | some u =>
    have e':b=a:=hA b (by rw [q]; simp)
    subst e'
    rw [ha] at e; cases e
    have d':Data.seq vs.toArray _=Data.dict es ep:=d
    cases d'
  have nsK:∀ {b:Addr} {m:Str->Option Value},s₁.heap.Ns b m->(h6u s₁.heap H).Ns b m:=fun {b m} ⟨o,es,ep,e,d,r⟩=>⟨o,es,ep,h1x e (noA e d),d,r⟩
  have hKb:K.In (h6u s₁.heap H):=fun b o e=>h1x (KX b o e) (by
   cases q:H b with
   | none=>rfl
   | some u =>
    have e':b=a:=hA b (by rw [q]; simp)
    subst e'
    rw [hK (by rw [q]; simp)] at e; cases e)
  have hM:Mod K mg (h6u s₁.heap H):=⟨hKb,nsK hns,⟨mb,nsK hb,hbb⟩,let ⟨mc,h1,h2⟩:=hlim; ⟨mc,nsK h1,h2⟩⟩
  have e0:h9l P w K mg (h6u s₁.heap H) callerA [] s₁ H:=⟨rfl,hM,fun b o e=>i0y e,Nat.le_of_eq (h0p _ _),trivial,fun b hb=>absurd (show b∈([] : List Addr) from hb) (by simp),hok,.of_eq hg⟩
  refine codeAny_mono ((F _ hKb (nsK hns)).run callerA [] s₁ H ⟨[.ref a],[]⟩ [.ref a] [.ref a] _ _ hr e0 (hbind s₁ (.ref a)) (.cons rfl .nil) (hsp H hO hS)) fun r s' h=>?_
  cases r with
  | error e=>exact (hCX H e s' h).elim
  | ok fl =>
   cases fl with
   | next=>exact False.elim h
   | brk=>exact False.elim h
   | cont=>exact False.elim h
   | ret u =>
    obtain⟨v,H',os,bare,un,hok',r',q⟩:=h
    have q':v = .bl true:=q
    subst q'
    obtain rfl:u=Value.bool true:=r'
    refine⟨rfl,OldK.of_keep fun b o e=>?_,os,bare⟩
    cases q:H b with
    | none=>exact un.keep b o e q (by intro z; exact absurd (show b∈([] : List Addr) from z) (by simp)) (by simp)
    | some u =>
     rcases hO b with z | ⟨ob,xs,z⟩
     ·rw [q] at z; cases z
     ·have z2:=un.h0h b ob _ z
      obtain⟨e1,_⟩:=hok b _ z
      obtain⟨e2,_⟩:=hok' b _ z2
      rw [e] at e1; cases e1
      exact e2
 cases hk:K.lookup a with
 | some o =>
  -- the script is one of the module's own objects
  have e:=KX a o hk
  rw [ha] at e
  cases e
  refine core (fun _=>none) (fun _=>.inl rfl) (.inr ⟨_,vs.toArray,_,hk,rfl,rfl,rfl,by rw [List.size_toArray,lenV]; exact hl,by simpa using rv⟩) (fun b u z=>by have z':(none:Option HO)=some u:=z; cases z') (fun b z=>absurd rfl z) fun z=>absurd rfl z
 | none =>
  refine core (fun b => if b = a then some (.frz { cls := .type "list", data := .seq vs.toArray } (.lst (ns.map V.int))) else none) (fun b => ?_) (.inl (.inr ⟨{ cls := .type "list", data := .seq vs.toArray }, if_pos rfl⟩)) (fun b u z => ?_) (fun b z => ?_) fun _ => hk
  ·by_cases hb:b=a
   ·exact .inr ⟨_,_,if_pos hb⟩
   ·exact .inl (if_neg hb)
  ·by_cases hb:b=a
   ·have z':=(if_pos hb).symm.trans z
    cases z'
    subst hb
    exact⟨ha,by rw [List.length_map]; exact hl,vs,_,rv,ha⟩
   ·have z':=(if_neg hb).symm.trans z
    cases z'
  ·by_cases hb:b=a
   ·exact hb
   ·exact absurd (if_neg hb) z
end L2
namespace L2
open PySem PySem.Spec PyProof.Rows
end L2
/- THE LAST THEOREM (shape; LID,My.* are yours):
  My.Adr: a structure of the addresses that your layer names (classes,functions); My.Txt K t: a structure (Prop) of the equations over K;
  My.txt_mk : {K} {implicit addresses ..} (e1 : nsIn K mainGlobals "law" = some (some (.ref f))) (e2 : K.lookup f = some ⟨oc, od, .func (fnOf "law" "law" params body scope dV kV doc pm an cdv ct), sl⟩) (e3 : codeIn K cdv "law" = true) .. : ∃ t, My.Txt K t
(the tactic k_is has no namespace: write k_is) -/
namespace L2
open PySem PySem.Spec PyProof.Rows
noncomputable def inClass(s:Stmt)(j:Nat):Stmt:=match s with
 | .ClassDef _ _ _ body _ _ _ _ _ _ _=>body.getD j (.Pass ⟨0,0,0,0⟩)
 | _=>.Pass ⟨0,0,0,0⟩
noncomputable def f5n(s:Stmt):Arguments:=match s with
 | .FunctionDef _ a _ _ _ _ _ _ _ _=>a
 | _=>{ posonlyargs:=[],args:=[],vararg:=none,kwonlyargs:=[],kw_defaults:=[],kwarg:=none,defaults:=[] }
noncomputable def d8i(s:Stmt):List Stmt:=match s with
 | .FunctionDef _ _ b _ _ _ _ _ _ _=>b
 | _=>[]
noncomputable def a0l(s:Stmt):Scope:=match s with
 | .FunctionDef _ _ _ _ _ _ sc _ _ _=>sc
 | _=>{ kind:=.function,names:=[],isGenerator:=false,isCoroutine:=false }
noncomputable abbrev CX0:CXT:=fun _ _ _ _ _ _=>False
abbrev E0:XK:=fun _ _ _=>False
theorem a1j{X:Cx}:Passes CX0 X E0:=fun _ _ _ _ _ _ _ h=>h.elim
structure Fun(K:PySem.W.Frag)(x qual:Str)(st:Stmt)(f:Addr)(fd:FuncData):Prop where
 ex:∃ (oc:Value) (od:Option Addr) (kV doc pm:Value) (an:Option Addr) (cdv ct:Value) (osl:Array (Option Value)),
  fd=PySem.W.fnOf x qual (f5n st) (d8i st) (a0l st) .none kV doc pm an cdv ct/\K.lookup f=some ⟨oc,od,.func fd,osl⟩/\PySem.W.codeIn K cdv qual=true
 kp:PySem.W.keepIn K (.ref f)=true
section
variable {P:Program}{w:World}{K:PySem.W.Frag}{mg:Str->Option Value}{base:Heap}
theorem Fun.ok{x qual:Str}{st:Stmt}{f:Addr}{fd:FuncData}{N ps:List Str}{k:Nat}{sp:Sp}(F:Fun K x qual st f fd)(S:a0r N ps (a0l st))(len:∀ vs H Q E,sp vs H Q E->vs.length=ps.length)
  (hbody:∀ (cdv:Value) (A:Around) (outer:List Env) (s:Shared) (H:Hp) (vs:List V) (Q:VK) (E:XK),a2p k (A.deeper (envOfC qual (a0l st) s.heap.objs.size f cdv))->sp vs H Q E ->
   ∃ t,PSs (i1i CX0 P w K mg base N qual (a0l st) f cdv A outer s H E).nox (d8i st) t/\t { nx:=fun _ H'=>Q .non H',rt:=Q } (start N vs) H):a1q P w K mg base CX0 (k+1) f fd ps sp:=by
 obtain⟨oc,od,kV,doc,pm,an,cdv,ct,osl,rfl,lk,hcd⟩:=F.ex
 refine j0v lk hcd S len fun A outer s H vs Q E hr hsp=>?_
 obtain⟨t,h,q⟩:=hbody cdv A outer s H vs Q E hr hsp
 exact⟨t,h.nox,q⟩
theorem Fun.binds{x qual:Str}{st:Stmt}{f:Addr}{fd:FuncData}{ps:List Str}(F:Fun K x qual st f fd)
  (h:∀ (kV doc pm:Value) (an:Option Addr) (cdv ct:Value) (us:List Value),us.length=ps.length->bindArgs (PySem.W.fnOf x qual (f5n st) (d8i st) (a0l st) .none kV doc pm an cdv ct) ⟨us,[]⟩=pure (ps.zip us)):Binds K fd ps []:=by
 obtain⟨oc,od,kV,doc,pm,an,cdv,ct,osl,rfl,lk,hcd⟩:=F.ex
 exact .all (h kV doc pm an cdv ct)
theorem a1k{x qual:Str}{st:Stmt}{f:Addr}{oc:Value}{od an:Option Addr}{osl:Array (Option Value)}{kV doc pm cdv ct:Value}(l:K.lookup f=some ⟨oc,od,.func (PySem.W.fnOf x qual (f5n st) (d8i st) (a0l st) .none kV doc pm an cdv ct),osl⟩)
  (c:PySem.W.codeIn K cdv qual=true) (k:PySem.W.keepIn K (.ref f)=true):Fun K x qual st f (PySem.W.fnOf x qual (f5n st) (d8i st) (a0l st) .none kV doc pm an cdv ct):=⟨⟨oc,od,kV,doc,pm,an,cdv,ct,osl,rfl,l,c⟩,k⟩
end
section
variable {X:Cx}
end
def Same(H H':Hp):Prop:=∀ b o,H b=some o->H' b=some o
theorem Same.refl(H:Hp):Same H H:=fun _ _ h=>h
theorem Same.trans{H H1 H2:Hp}(a:Same H H1)(b:Same H1 H2):Same H H2:=fun c o h=>b c o (a c o h)
theorem Same.free{H H':Hp}(e:Same H H'){l:Addr}(h:H' l=Option.none):H l=Option.none:=by
 cases q:H l with
 | none=>rfl
 | some o =>
  rw [e l o q] at h
  cases h
theorem Same.seq{K:PySem.W.Frag}{H H':Hp}{a:Addr}{xs:List V}(e:Same H H')(h:SqL K H a xs):SqL K H' a xs:=by
 rcases h with (h | ⟨o,h⟩) | h
 ·exact .inl (.inl (e _ _ h))
 ·exact .inl (.inr ⟨o,e _ _ h⟩)
 ·exact .inr h
end L2
namespace L2
open PySem PySem.Spec PyProof.Rows
section
variable {κ:Type}[DecidableEq κ]
noncomputable def b8k(kvs:List (κ×V))(k:κ):Option V:=(kvs.find? fun kv=>decide (kv.1=k)).map (·.2)
noncomputable def putK(kvs:List (κ×V))(k:κ)(v:V):List (κ×V) :=
 if (kvs.any fun kv=>decide (kv.1=k))=true then kvs.map (fun kv=>if kv.1=k then (kv.1,v) else kv) else kvs++[(k,v)]
noncomputable def dropK(kvs:List (κ×V))(k:κ):List (κ×V):=kvs.filter fun kv=>decide (kv.1≠k)
theorem b1n{p:κ×V}{r:List (κ×V)}{k:κ}(e:p.1=k):b8k (p :: r) k=some p.2:=by simp [b8k,List.find?_cons,e]
theorem a9v{p:κ×V}{r:List (κ×V)}{k:κ}(e:¬ p.1=k):b8k (p :: r) k=b8k r k:=by simp [b8k,List.find?_cons,e]
theorem d2j(k:κ):∀ kvs:List (κ×V),(kvs.any fun kv=>decide (kv.1=k))=(b8k kvs k).isSome
 | []=>rfl
 | p :: r=>by
  rw [List.any_cons]
  by_cases e:p.1=k
  ·simp only [b1n e,decide_eq_true e,Bool.true_or,Option.isSome_some]
  ·rw [a9v e,decide_eq_false e,Bool.false_or]; exact d2j k r
theorem g6q(k j:κ)(y:V):∀ kvs:List (κ×V),b8k (kvs.map fun kv=>if kv.1=k then (kv.1,y) else kv) j=(b8k kvs j).map fun x=>if j=k then y else x
 | []=>rfl
 | p :: r=>by
  have ih:=g6q k j y r
  rw [List.map_cons]
  by_cases h:p.1=k
  ·rw [if_pos h]
   by_cases e:p.1=j
   ·rw [b1n (p:=(p.1,y)) e,b1n e,Option.map_some,if_pos (e.symm.trans h)]
   ·rw [a9v (p:=(p.1,y)) e,a9v e,ih]
  ·rw [if_neg h]
   by_cases e:p.1=j
   ·rw [b1n (p:=p) e,b1n e,Option.map_some,if_neg (fun z=>h (e.trans z))]
   ·rw [a9v (p:=p) e,a9v e,ih]
theorem g0a(k j:κ)(y:V):∀ kvs:List (κ×V),b8k kvs k=none->b8k (kvs++[(k,y)]) j=if j=k then some y else b8k kvs j
 | [],_=>by
  by_cases e:k=j
  ·rw [if_pos e.symm]; exact b1n (p:=(k,y)) e
  ·rw [if_neg (fun z=>e z.symm)]; exact a9v (p:=(k,y)) e
 | p :: r,hn=>by
  rw [List.cons_append]
  have hk:¬ p.1=k:=fun z=>by rw [b1n z] at hn; cases hn
  rw [a9v hk] at hn
  have ih:=g0a k j y r hn
  by_cases e:p.1=j
  ·rw [b1n e,b1n e,if_neg (fun z=>hk (e.trans z))]
  ·rw [a9v e,a9v e,ih]
theorem c1o(kvs:List (κ×V))(k j:κ)(y:V):b8k (putK kvs k y) j=if j=k then some y else b8k kvs j:=by
 unfold putK
 by_cases a:(kvs.any fun kv=>decide (kv.1=k))=true
 ·rw [if_pos a,g6q]
  rw [d2j] at a
  by_cases e:j=k
  ·obtain⟨x,hx⟩:=Option.isSome_iff_exists.mp a
   rw [if_pos e,e,hx,Option.map_some,if_pos rfl]
  ·rw [if_neg e]
   cases b8k kvs j with
   | none=>rfl
   | some x=>rw [Option.map_some,if_neg e]
 ·rw [if_neg a]
  refine g0a k j y kvs ?_
  rw [d2j] at a
  cases q:b8k kvs k with
  | none=>rfl
  | some x=>rw [q] at a; exact (a rfl).elim
theorem a9j(kvs:List (κ×V))(k:κ)(v:V):(putK kvs k v).length<=kvs.length+1:=by
 unfold putK
 split
 ·rw [List.length_map]; omega
 ·rw [List.length_append,List.length_cons,List.length_nil]; omega
theorem g6r{kvs:List (κ×V)}{k:κ}(v:V)(h:b8k kvs k=none):putK kvs k v=kvs++[(k,v)]:=by
 unfold putK
 rw [d2j,h]
 exact if_neg (by decide)
theorem g2r.d8j{o:Option V}{u:Option Value}(r:g2r o u):o.isSome=u.isSome:=by
 cases o with
 | none=>cases u with
  | none=>rfl
  | some _=>exact (show False from r).elim
 | some _=>cases u with
  | none=>exact (show False from r).elim
  | some _=>rfl
theorem KV.val{kvs:List (κ×V)}{vs:List (κ×Value)}(r:KV kvs vs)(k:κ):g2r (b8k kvs k) (valueAt vs k):=by
 unfold KV at r
 induction r with
 | nil=>exact True.intro
 | @cons p q ps qs h t ih =>
  obtain⟨h1,h2⟩:=h
  by_cases e:p.1=k
  ·have e':q.1=k:=h1.symm.trans e
   have b:valueAt (q :: qs) k=some q.2:=by simp [valueAt,List.find?_cons,e']
   rw [b1n e,b]; exact h2
  ·have e':¬ q.1=k:=fun z=>e (h1.trans z)
   have b:valueAt (q :: qs) k=valueAt qs k:=by simp [valueAt,List.find?_cons,e']
   rw [a9v e,b]; exact ih
theorem KV.any{kvs:List (κ×V)}{vs:List (κ×Value)}(r:KV kvs vs)(k:κ):(kvs.any fun kv=>decide (kv.1=k))=vs.any fun kv=>decide (kv.1=k):=by
 unfold KV at r
 induction r with
 | nil=>rfl
 | cons h t ih=>rw [List.any_cons,List.any_cons,ih,h.1]
theorem KV.repl{kvs:List (κ×V)}{vs:List (κ×Value)}(r:KV kvs vs)(k:κ){y:V}{u:Value}(ry:RelV y u) :
  KV (kvs.map fun kv=>if kv.1=k then (kv.1,y) else kv) (vs.map fun kv=>if kv.1=k then (kv.1,u) else kv):=by
 unfold KV at r ⊢
 induction r with
 | nil=>exact .nil
 | @cons p q ps qs h t ih =>
  rw [List.map_cons,List.map_cons]
  refine .cons ?_ ih
  obtain⟨h1,h2⟩:=h
  by_cases e:p.1=k
  ·rw [if_pos e,if_pos (h1.symm.trans e)]; exact⟨h1,ry⟩
  ·rw [if_neg e,if_neg (fun z=>e (h1.trans z))]; exact⟨h1,h2⟩
theorem KV.put{kvs:List (κ×V)}{vs:List (κ×Value)}(r:KV kvs vs)(k:κ){y:V}{u:Value}(ry:RelV y u):KV (putK kvs k y) (stored vs k u):=by
 unfold putK stored
 rw [r.any k]
 by_cases e:(vs.any fun kv=>decide (kv.1=k))=true
 ·rw [if_pos e,if_pos e]; exact r.repl k ry
 ·rw [if_neg e,if_neg e]; exact Paired.snoc r ⟨rfl,ry⟩
theorem KV.length{kvs:List (κ×V)}{vs:List (κ×Value)}(r:KV kvs vs):kvs.length=vs.length:=Paired.length r
end
theorem h1y{P:Program}{w:World}{k:Key}{u:Value}(r:RelV (kV k) u):(a8s P w).is k u=true:=by
 cases k with
 | inl i=>obtain⟨t,e⟩:=(show ∃ t,u=Value.int i t from r); subst e; exact g2v P w i t
 | inr x=>obtain⟨t,e⟩:=(show ∃ t,u=Value.str x t from r); subst e; exact g2w P w x t
theorem g0b{P:Program}{w:World}:∀ {ks:List Key} {us:List Value},Vals (ks.map kV) us->ItemsAre (a8s P w) ks us
 | [],_,r=>by rw [List.map_nil] at r; cases r; exact .nil
 | k :: ks,_,r=>by
  rw [List.map_cons] at r
  cases r with
  | cons h t=>exact .cons (h1y h) (g0b t)
noncomputable abbrev KT(H:Hp):List (List Key×V)->List (List Key×Addr×Value)->Prop:=Paired fun p q=>p.1=q.1/\H q.2.1=some (.tup (p.1.map kV))/\RelV p.2 q.2.2
theorem KT.val{H:Hp}{kvs:List (List Key×V)}{xs:List (List Key×Addr×Value)}(r:KT H kvs xs)(k:List Key):g2r (b8k kvs k) ((atKey xs k).map (·.2)):=by
 induction r with
 | nil=>exact True.intro
 | @cons p q ps qs h t ih =>
  obtain⟨h1,_,h2⟩:=h
  by_cases e:p.1=k
  ·have e':q.1=k:=h1.symm.trans e
   have b:atKey (q :: qs) k=some q.2:=by simp [atKey,List.find?_cons,e']
   rw [b1n e,b]; exact h2
  ·have e':¬ q.1=k:=fun z=>e (h1.trans z)
   have b:atKey (q :: qs) k=atKey qs k:=by simp [atKey,List.find?_cons,e']
   rw [a9v e,b]; exact ih
theorem KT.repl{H:Hp}{kvs:List (List Key×V)}{xs:List (List Key×Addr×Value)}(r:KT H kvs xs)(k:List Key){y:V}{u:Value}(ry:RelV y u) :
  KT H (kvs.map fun kv=>if kv.1=k then (kv.1,y) else kv) (xs.map (putAt k u)):=by
 induction r with
 | nil=>exact .nil
 | @cons p q ps qs h t ih =>
  rw [List.map_cons,List.map_cons]
  refine .cons ?_ ih
  obtain⟨h1,h2,h3⟩:=h
  unfold putAt
  by_cases e:p.1=k
  ·rw [if_pos e,if_pos (h1.symm.trans e)]; exact⟨h1,h2,ry⟩
  ·rw [if_neg e,if_neg (fun z=>e (h1.trans z))]; exact⟨h1,h2,h3⟩
theorem KT.put{H:Hp}{kvs:List (List Key×V)}{xs:List (List Key×Addr×Value)}(r:KT H kvs xs)(k:List Key){b:Addr}{y:V}{u:Value}(hb:H b=some (.tup (k.map kV)))(ry:RelV y u) :
  KT H (putK kvs k y) (storedH xs k b u):=by
 have e:(kvs.any fun kv=>decide (kv.1=k))=(atKey xs k).isSome:=by
  rw [d2j,(r.val k).d8j,Option.isSome_map]
 unfold putK storedH
 rw [e]
 by_cases q:(atKey xs k).isSome=true
 ·rw [if_pos q,if_pos q]; exact r.repl k ry
 ·rw [if_neg q,if_neg q]; exact Paired.snoc r ⟨rfl,hb,ry⟩
theorem KT.keeps{H H':Hp}{kvs:List (List Key×V)}{xs:List (List Key×Addr×Value)}(r:KT H kvs xs)(ht:∀ b ys,H b=some (.tup ys)->H' b=some (.tup ys)):KT H' kvs xs :=
 Paired.j0g r fun _ _ z=>⟨z.1,ht _ _ z.2.1,z.2.2⟩
section
variable {P:Program}{w:World}{H:Hp}{h:Heap}{a:Addr}
theorem i6l{u:HO}(ok:HOk P w H h)(e:Rd H a u):b4w P w H h a u:=e.ok ok
theorem h1z{kvs:List (Key×V)}(ok:HOk P w H h)(e:Rd H a (.dK kvs)):kvs.length<=sizeLine/\(a == sysModules)=false/\∃ vs,KV kvs vs/\h.DictOf (a8s P w) a vs :=
 show b4w P w H h a (.dK kvs) from i6l ok e
theorem i6m{kvs:List (Key×V)}(ok:HOk P w H h)(e:H a=some (.dK kvs)):kvs.length<=sizeLine/\(a == sysModules)=false/\∃ vs,KV kvs vs/\h.DictOf (a8s P w) a vs:=h1z ok (.inl e)
theorem g6s{ks:List Key}(ok:HOk P w H h)(e:H a=some (.tup (ks.map kV))):(tupleKind (a8s P w)).is h ks a:=by
 obtain⟨_,its,r,o,h1,h2,n,h3⟩:=(show b4w P w H h a (.tup (ks.map kV)) from ok a _ e)
 exact⟨o,its.toArray,n,h1,h2,h3,by simpa using g0b r⟩
theorem h7e{kvs:List (List Key×V)}(ok:HOk P w H h)(e:Rd H a (.dT kvs)):kvs.length<=sizeLine/\(a == sysModules)=false /\
  ∃ xs,KT H kvs xs/\h.DictOfH (tupleKind (a8s P w)) a xs:=by
 obtain⟨z,y,xs,r,o,es,ep,h1,h2,h3,h4,h5⟩:=(show b4w P w H h a (.dT kvs) from i6l ok e)
 refine⟨z,y,xs,r,o,es,ep,h1,h2,h3,h4,fun x hx=>?_,h5⟩
 have all:∀ {l:List (List Key×V)} {m:List (List Key×Addr×Value)},KT H l m->∀ x∈m,(tupleKind (a8s P w)).is h x.1 x.2.1:=by
  intro l m q
  induction q with
  | nil=>intro x hx; exact nomatch hx
  | @cons p q ps qs hq t ih =>
   intro x hx
   rcases List.mem_cons.mp hx with e | hx
   ·subst e
    exact g6s ok (by rw [<- hq.1]; exact hq.2.1)
   ·exact ih x hx
 exact all r x hx
theorem j0z{kvs:List (List Key×V)}(ok:HOk P w H h)(e:H a=some (.dT kvs)):kvs.length<=sizeLine/\(a == sysModules)=false /\
  ∃ xs,KT H kvs xs/\h.DictOfH (tupleKind (a8s P w)) a xs:=h7e ok (.inl e)
end
def h2a(H:Hp)(a:Addr)(y:V)(r:Option V):Prop :=
 (∃ kvs k,Rd H a (.dK kvs)/\y=kV k/\r=b8k kvs k)\/∃ kvs k b,Rd H a (.dT kvs)/\y = .ref b/\H b=some (.tup (k.map kV))/\r=b8k kvs k
def i4q(H:Hp)(a:Addr)(y v:V)(H':Hp):Prop :=
 (∃ kvs k,H a=some (.dK kvs)/\y=kV k/\kvs.length < sizeLine/\H'=upd H a (.dK (putK kvs k v))) \/
 ∃ kvs k b,H a=some (.dT kvs)/\y = .ref b/\H b=some (.tup (k.map kV))/\kvs.length < sizeLine/\H'=upd H a (.dT (putK kvs k v))
theorem h2a.k{H:Hp}{a:Addr}{kvs:List (Key×V)}{k:Key}(e:H a=some (.dK kvs)):h2a H a (kV k) (b8k kvs k):=.inl ⟨kvs,k,.inl e,rfl,rfl⟩
theorem h2a.t{H:Hp}{a b:Addr}{kvs:List (List Key×V)}{k:List Key}(e:H a=some (.dT kvs))(eb:H b=some (.tup (k.map kV))):h2a H a (.ref b) (b8k kvs k):=.inr ⟨kvs,k,b,.inl e,rfl,eb,rfl⟩
theorem i4q.k{H:Hp}{a:Addr}{kvs:List (Key×V)}{k:Key}{v:V}(e:H a=some (.dK kvs))(hl:kvs.length < sizeLine):i4q H a (kV k) v (upd H a (.dK (putK kvs k v))):=.inl ⟨kvs,k,e,rfl,hl,rfl⟩
theorem i4q.t{H:Hp}{a b:Addr}{kvs:List (List Key×V)}{k:List Key}{v:V}(e:H a=some (.dT kvs))(eb:H b=some (.tup (k.map kV)))(hl:kvs.length < sizeLine) :
  i4q H a (.ref b) v (upd H a (.dT (putK kvs k v))):=.inr ⟨kvs,k,b,e,rfl,eb,hl,rfl⟩
section
variable {X:Cx}{pins:List (Addr×Obj)}{σ:St}{H:Hp}{s:Shared}{a:Addr}{y v:V}{u r:Value}{o:Option V}{A:Around}{E:Value->Shared->Prop}
theorem Inv.big(I:Inv X pins σ H s):sysModules < s.heap.objs.size:=by
 have h:mainGlobals < s.heap.objs.size:=(I.mod.glob.keeps I.bk).lt
 exact Nat.lt_trans (by decide) h
theorem h2b{Q:Value->Shared->Prop}(hu:A.units+1 < cLine)(I:Inv X pins σ H s)(g:h2a H a y (some v))(ry:RelV y u)(h:∀ w' s',Inv X pins σ H s'->RelV v w'->Q w' s') :
  wpAny (model X.prog X.w) A (getItem (.ref a) u) Q E s:=by
 rcases g with ⟨kvs,k,e,ey,l⟩ | ⟨kvs,k,b,e,ey,eb,l⟩
 ·subst ey
  obtain⟨z,hd,vs,rel,dd⟩:=h1z I.hok e
  obtain⟨w',hw,rw'⟩:=g2r.some_of (v:=v) (o:=valueAt vs k) (by rw [l]; exact rel.val k)
  exact wpAny_getItem_of (h1y ry) dd.mapOf hw (h w' _ (I.tok _) rw')
 ·subst ey
  cases (show u=Value.ref b from ry)
  obtain⟨z,hd,xs,rel,dd⟩:=h7e I.hok e
  obtain⟨w',hw,rw'⟩:=g2r.some_of (v:=v) (o:=(atKey xs k).map (·.2)) (by rw [l]; exact rel.val k)
  obtain⟨p,hp,hp2⟩:=Option.map_eq_some_iff.mp hw
  refine wpAny_getItem_heap (tupleKind_room_in1 hu) (g6s I.hok eb) dd hp ?_
  rw [hp2]
  exact h w' _ (I.tok _) rw'
theorem i1n{Q:Value->Shared->Prop}(hu:A.units+1 < cLine)(I:Inv X pins σ H s)(g:h2a H a y o)(ry:RelV y u)(h:∀ s',Inv X pins σ H s'->Q (.bool (!o.isSome)) s') :
  wpAny (model X.prog X.w) A (compareOp .NotIn u (.ref a)) Q E s:=by
 rcases g with ⟨kvs,k,e,ey,l⟩ | ⟨kvs,k,b,e,ey,eb,l⟩
 ·subst ey
  obtain⟨z,hd,vs,rel,dd⟩:=h1z I.hok e
  refine wpAny_notIn_of (h1y ry) hd dd.mapOf ?_
  rw [<- (rel.val k).d8j,<- l]
  exact h _ (I.tok _)
 ·subst ey
  cases (show u=Value.ref b from ry)
  obtain⟨z,hd,xs,rel,dd⟩:=h7e I.hok e
  refine wpAny_notIn_heap (tupleKind_room_in1 hu) (g6s I.hok eb) hd dd ?_
  have q:=(rel.val k).d8j
  rw [Option.isSome_map] at q
  rw [<- q,<- l]
  exact h _ (I.tok _)
theorem g3c{h':Heap}{t':Nat}{ob:HO}(I:Inv X pins σ H s)(mu:Mut (H a))(hs:Heap.SameBut a s.heap h')(he:∃ q,h'.get? a=some q)(new:b4w X.prog X.w (upd H a ob) h' a ob) :
  Inv X pins σ (upd H a ob) { s with heap:=h',toks:=t' } :=
 I.write (x:=a) (e:=a) mu (.inl rfl) (fun b q hb z=>(hs.2 b hb).trans z) he new
theorem h9n{P:Program}{w:World}{H':Hp}{h':Heap}{kvs:List (Key×V)}{vs:List (Key×Value)}(z:kvs.length<=sizeLine)(hd:(a == sysModules)=false)(rel:KV kvs vs)(dd:h'.DictOf (a8s P w) a vs) :
  b4w P w H' h' a (.dK kvs):=⟨z,hd,vs,rel,dd⟩
theorem h2c{H':Hp}{Q:Unit->Shared->Prop}(hu:A.units+1 < cLine)(I:Inv X pins σ H s)(g:i4q H a y v H')(ry:RelV y u)(rv:RelV v r)(h:∀ s',Inv X pins σ H' s'->Q () s') :
  wpAny (model X.prog X.w) A (setItem (.ref a) u r) Q E s:=by
 rcases g with ⟨kvs,k,e,ey,l,eH⟩ | ⟨kvs,k,b,e,ey,eb,l,eH⟩
 ·subst ey eH
  obtain⟨z,hd,vs,rel,dd⟩:=i6m I.hok e
  have hz:vs.length<=sizeLine:=by rw [<- rel.length]; exact z
  have hl:(putK kvs k v).length<=sizeLine:=by have:=a9j kvs k v; omega
  refine wpAny_setItem_pairs (hsz:=hz) (h1y ry) dd fun h' dd' hs=>h _ ?_
  have he:∃ q,h'.get? a=some q:=let ⟨q,_,_,hq,_⟩:=dd'; ⟨q,hq⟩
  exact g3c I (by rw [e]; exact True.intro) hs he (h9n hl hd (rel.put k rv) dd')
 ·subst ey eH
  cases (show u=Value.ref b from ry)
  obtain⟨z,hd,xs,rel,dd⟩:=j0z I.hok e
  have hz:xs.length<=sizeLine:=by rw [<- Paired.length rel]; exact z
  have hl:(putK kvs k v).length<=sizeLine:=by have:=a9j kvs k v; omega
  refine wpAny_setItem_heap (hsz:=hz) (tupleKind_room_in1 hu) (g6s I.hok eb) dd fun h' dd' hs=>h _ ?_
  obtain⟨q,es,ep,hq,h2,h3,h4,_,h5⟩:=dd'
  refine g3c I (by rw [e]; exact True.intro) hs ⟨q,hq⟩ ⟨hl,hd,_,(rel.put k eb rv).keeps fun c ys ec=>?_,q,es,ep,hq,h2,h3,h4,h5⟩
  rw [a3p (j0f ec e (fun z=>nomatch z))]
  exact ec
end
section
variable {X:Cx}{pins:List (Addr×Obj)}{σ:St}{H:Hp}{s:Shared}{a:Addr}{kvs:List (Key×V)}{k:Key}{u:Value}{A:Around}{E:Value->Shared->Prop}
theorem j1a {Q : Value → Shared → Prop} (I : Inv X pins σ H s) (e : Rd H a (.dK kvs)) (h : ∀ t s', Inv X pins σ H s' → Q (.int kvs.length t) s') : wpAny (model X.prog X.w) A (call (.builtin "len") [.ref a]) Q E s := by
 obtain⟨z,hd,vs,rel,dd⟩:=h1z I.hok e
 refine call_len_dict hd dd (by rw [<- rel.length]; rw [sizeLine_eq] at z; omega) ?_
 rw [<- rel.length]
 exact h _ _ (I.tok _)
end
def j3y(i:Expr):Prop:=∀ ov iv,subscripted i false ov iv=operate [ov,iv] (getItem ov iv)
theorem i1o{prog:Program}{w:World}{A:Around}{E:Value->Shared->Prop}{s:Shared}{env:Env}{value slice:Expr}{pos:Pos}{T id:String}{Q:Value->Shared->Prop}
  (hl : typeLookup (.type T) "__getitem__" = pure (some (.builtin id))) (hs : j3y slice)
  (h:wpAny (model prog w) A (eval value env) (fun o s₁=>wpAny (model prog w) A (eval slice env) (fun i s₂=>s₂.TypeIs o T/\wpAny (model prog w) A (getItem o i) Q E s₂) E s₁) E s) :
  wpAny (model prog w) A (eval (.Subscript value slice pos) env) Q E s:=by
 refine Subscript_ (wpAny_mono h (fun o s₁ h₁=>wpAny_mono h₁ (fun i s₂ h₂=>?_) fun _ _ x=>x) fun _ _ x=>x)
 obtain⟨hT,h₂⟩:=h₂
 unfold subscriptTail
 refine wpAny_bind ?_
 rw [getitemInPython_of_ne hT.not_modules]
 refine wpAny_bind (wpAny_specialOf hT hl ?_)
 have fin:wpAny (model prog w) A (subscripted slice false o i) (fun r s₃=>wpAny (model prog w) A (letTemporaryGo value o r >>= fun _=>pure r) Q E s₃) E s₂:=by
  rw [hs o i]
  exact wpAny_operating (wpAny_mono h₂ (fun r s₃ h₃=>wpAny_bind (wpAny_letTemporaryGo (wpAny_pure h₃))) fun _ _ x=>x)
 first
  | exact wpAny_pure (wpAny_bind fin)
  | exact wpAny_bind (wpAny_pure (wpAny_bind fin))
  | exact wpAny_bind fin
theorem g3d {X : Cx} {pins : List (Addr × Obj)} {σ : St} {H : Hp} {s : Shared} {a : Addr} {y : V} {o : Option V} (I : Inv X pins σ H s) (g : h2a H a y o) : s.TypeIs (.ref a) "dict" := by
 rcases g with ⟨kvs,k,e,_,_⟩ | ⟨kvs,k,b,e,_,_,_⟩
 ·obtain⟨_,_,vs,_,dd⟩:=h1z I.hok e
  exact dd.typeIs
 ·obtain⟨_,_,xs,_,dd⟩:=h7e I.hok e
  exact dd.typeIs
section
variable {X:Cx}{o i e value:Expr}{pos pos' tpos:Pos}{td ty tv:TE}
end
theorem g6t {P : Program} {w : World} {H : Hp} (h : Heap) (hb : sysModules < h.objs.size) : b4w P w H (h.push { cls := .type "dict", data := .dict #[] }) h.objs.size (.dK []) :=
 ⟨Nat.zero_le _,beq_eq_false_iff_ne.mpr (Ne.symm (Nat.ne_of_lt hb)),[],.nil,Heap.DictOf.new h⟩
def i6n:TE:=fun _ H Q=>∀ p,H p=none->Q (.ref p) (upd H p (.dK []))
section
variable {X:Cx}{pos:Pos}
theorem h7f:PE X (.Dict [] [] pos) i6n:=fun pins s σ H Q I h =>
 wpAny_Dict_empty ⟨.ref s.heap.objs.size,_,I.laid (a:=s.heap.objs.size) (o:=.dK []) (t':=s.toks) (fun _ _ q=>Heap.get?_push_of_some _ q) (Nat.le_refl _) (g6t s.heap I.big),rfl,h _ (I.hok.fresh (Nat.le_refl _))⟩
end
noncomputable def h9o:List (TE×TE)->St->Hp->(List (V×V)->Hp->Prop)->Prop
 | [],_,H,Q=>Q [] H
 | (tk,tv) :: r,σ,H,Q=>tk σ H fun x H1=>tv σ H1 fun y H2=>h9o r σ H2 fun ps H3=>Q ((x,y) :: ps) H3
noncomputable abbrev VV:List (V×V)->List (Value×Value)->Prop:=Paired fun p q=>RelV p.1 q.1/\RelV p.2 q.2
def PPs(X:Cx)(pos:Pos)(keys:List (Option Expr))(values:List Expr)(trs:List (TE×TE)):Prop :=
 ∀ (pins:List (Addr×Obj)) (s:Shared) (σ:St) (H:Hp) (Q:List (V×V)->Hp->Prop),Inv X pins σ H s->h9o trs σ H Q ->
  wpAny (model X.prog X.w) X.A (evalPairs (pairTrees keys values X.env pos)) (fun vs s'=>∃ ps H',Inv X pins σ H' s'/\VV ps vs/\Q ps H') X.xe s
theorem i1p{X:Cx}{pos:Pos}:PPs X pos [] [] []:=fun pins s σ H Q I h=>pairTrees_nil_walk ⟨[],H,I,.nil,h⟩
theorem h7g{X:Cx}{pos:Pos}{k v:Expr}{ks:List (Option Expr)}{vs:List Expr}{tk tv:TE}{trs:List (TE×TE)}(hk:PE X k tk)(hv:PE X v tv)(hr:PPs X pos ks vs trs) :
  PPs X pos (some k :: ks) (v :: vs) ((tk,tv) :: trs):=fun pins s σ H Q I h =>
 pairTrees_cons_walk (thn (hk pins s σ H _ I h) fun u s1 ⟨x,H1,I1,rx,q1⟩=>thn (hv pins s1 σ H1 _ I1 q1) fun w2 s2 ⟨y,H2,I2,ry,q2⟩ =>
  thn (hr pins s2 σ H2 _ I2 q2) fun ws s3 ⟨ps,H3,I3,rel,q3⟩=>⟨(x,y) :: ps,H3,I3,.cons ⟨rx,ry⟩ rel,q3⟩)
noncomputable def g6u(kvs more:List (Key×V)):List (Key×V):=more.foldl (fun acc kv=>putK acc kv.1 kv.2) kvs
theorem KV.merge:∀ {more:List (Key×V)} {rs:List (Key×Value)} {kvs:List (Key×V)} {vs:List (Key×Value)},KV more rs->KV kvs vs->KV (g6u kvs more) (merged vs rs):=by
 intro more rs kvs vs r
 unfold KV at r
 induction r generalizing kvs vs with
 | nil=>intro q; exact q
 | @cons p q ps qs h t ih =>
  intro r0
  have e:KV (putK kvs p.1 p.2) (stored vs q.1 q.2):=by
   have:=r0.put p.1 h.2
   rw [<- h.1]; exact this
  exact ih e
theorem d2k:∀ (more kvs:List (Key×V)),(g6u kvs more).length<=kvs.length+more.length
 | [],kvs=>by show kvs.length<=kvs.length+0; omega
 | p :: r,kvs=>by
  have h1:=d2k r (putK kvs p.1 p.2)
  have h2:=a9j kvs p.1 p.2
  show (g6u (putK kvs p.1 p.2) r).length<=_
  rw [List.length_cons]; omega
theorem f3u{P:Program}{w:World}:∀ {kvs:List (Key×V)} {ws:List (Value×Value)},VV (kvs.map fun kv=>(kV kv.1,kv.2)) ws->∃ rs,Carries (a8s P w) ws rs/\KV kvs rs
 | [],_,r=>by rw [List.map_nil] at r; cases r; exact⟨[],True.intro,.nil⟩
 | p :: kvs,_,r=>by
  rw [List.map_cons] at r
  cases r with
  | @cons a b as bs h t =>
   obtain⟨rs,c,q⟩:=f3u (P:=P) (w:=w) t
   obtain⟨b1,b2⟩:=b
   exact⟨(p.1,b2) :: rs,⟨h1y h.1,rfl,c⟩,.cons ⟨rfl,h.2⟩ q⟩
structure M1(X:Cx)(o:Expr)(m:Str)(apos:Pos)(e:Expr)(cpos:Pos):Prop where
 base:attributeBase o m X.env (eval o X.env)=eval o X.env
 few:((backTo cpos (starEach [e] X.env)).all (fun x=>!x.1) && (backToKw cpos (keywordEach [] X.env)).all (fun x=>x.1.isSome)
  && decide (([e] : List Expr).length+([] : List Keyword).length+(if ([] : List Keyword).isEmpty then 0 else 1) < 30))=true
 line:(apos.endLine == cpos.line)=true
 trees:backTo cpos (starEach [e] X.env) = [(false,eval e X.env)]
structure M2(X:Cx)(o:Expr)(m:Str)(apos:Pos)(e f:Expr)(cpos:Pos):Prop where
 base:attributeBase o m X.env (eval o X.env)=eval o X.env
 few:((backTo cpos (starEach [e,f] X.env)).all (fun x=>!x.1) && (backToKw cpos (keywordEach [] X.env)).all (fun x=>x.1.isSome)
  && decide (([e,f] : List Expr).length+([] : List Keyword).length+(if ([] : List Keyword).isEmpty then 0 else 1) < 30))=true
 line:(apos.endLine == cpos.line)=true
 trees:backTo cpos (starEach [e,f] X.env) = [(false,eval e X.env),(false,eval f X.env)]
def IsD(H:Hp)(a:Addr):Prop:=(∃ kvs,Rd H a (.dK kvs))\/∃ kvs,Rd H a (.dT kvs)
section
variable {X:Cx}{pins:List (Addr×Obj)}{σ:St}{H:Hp}{s:Shared}{a:Addr}{y d:V}{u r:Value}{o:Option V}{A:Around}{E:Value->Shared->Prop}
end
section
variable {X:Cx}{o e f:Expr}{apos cpos:Pos}{td ty tx:TE}
end
section
variable {X:Cx}{pins:List (Addr×Obj)}{σ:St}{H:Hp}{s:Shared}{a:Addr}{kvs:List (Key×V)}{A:Around}{E:Value->Shared->Prop}
end
section
variable {X:Cx}{pins:List (Addr×Obj)}{σ:St}{H:Hp}{s:Shared}{a:Addr}{y:V}{u:Value}{A:Around}{E:Value->Shared->Prop}
end
section
variable {X:Cx}
theorem h2d : b3v X (.builtin "len") (fun xs H Q => ∃ a kvs, xs = [V.ref a] ∧ H a = some (.dK kvs) ∧ Q (.int kvs.length) H) := by
 intro pins s σ H xs us Q I r h
 obtain⟨a,kvs,rfl,ha,q⟩:=h
 obtain⟨u,rfl,ru⟩:=vals1 r
 cases ru
 exact j1a I (.inl ha) fun t s' I'=>⟨.int kvs.length,H,I',⟨t,rfl⟩,q⟩
end
section
variable {κ:Type}[DecidableEq κ]
end
end L2
namespace L2
open PySem PySem.Spec PyProof.Rows
open PySem.Builtin.Int (intBits)
section
variable {X:Cx}{a b c:Expr}{ta tb tc:TE}{pos:Pos}
theorem i1q:OpR X (binaryOp .Mult) (rI IntMulOk fun i j=>.int (i*j)):=opI fun _ _ _ _ _ _ _ hc q=>mul_int q hc
def CFd(i j:Int):Prop:=j≠0/\intBits j<=9000
theorem g3e{j:Int}(h:j≠0)(hb:intBits j<=9000):j.natAbs.log2 < 9000:=by
 have h1:=intBits_le_iff.mp hb
 exact (Nat.log2_lt (by omega)).mpr h1
theorem h7h:OpR X (binaryOp .FloorDiv) (rI CFd fun i j=>.int (i.fdiv j)):=opI fun i j _ _ _ _ _ hc q =>
 floordiv_int hc.1 q (.inl (PyProof.noPylong_of_log2 (g3e hc.1 hc.2)))
inductive Ty where
 | non | bl | int | str | lst | tup | dct
 deriving DecidableEq
noncomputable def Ty.nm:Ty->String
 | .non => "NoneType" | .bl => "bool" | .int => "int" | .str => "str" | .lst => "list" | .tup => "tuple" | .dct => "dict"
noncomputable def h9p(H:Hp):V->Option Ty
 | .non=>some .non
 | .bl _=>some .bl
 | .int _=>some .int
 | .str _=>some .str
 | .ref a=>match H a with
  | some (.lst _)=>some .lst
  | some (.frz _ (.lst _))=>some .lst
  | some (.tup _)=>some .tup
  | some (.dK _)=>some .dct
  | some (.dT _)=>some .dct
  | _=>none
 | _=>none
noncomputable def h9q(t T:Ty):Bool:=decide (t=T) || (decide (t = .bl) && decide (T = .int))
theorem i1r{K:PySem.W.Frag}{H:Hp}{x:V}{t:Ty}(h:h9p H x=some t):g8c K H x (.type t.nm):=by
 cases x with
 | non=>cases h; exact .non
 | bl b=>cases h; exact .bl b
 | int i=>cases h; exact .int i
 | str s=>cases h; exact .str s
 | byt b=>cases h
 | flt b=>cases h
 | ty n=>cases h
 | ref a =>
  unfold h9p at h
  cases e:H a with
  | none=>simp [e] at h
  | some o =>
   cases o with
   | lst xs=>simp [e] at h; subst h; exact .lst e
   | tup xs=>simp [e] at h; subst h; exact .tup e
   | dK kvs=>simp [e] at h; subst h; exact .dK e
   | dT kvs=>simp [e] at h; subst h; exact .dT e
   | frz ob u =>
    cases u with
    | lst xs=>simp [e] at h; subst h; exact .frz e
    | _=>simp [e] at h
   | _=>simp [e] at h
theorem i6o{K:PySem.W.Frag}(t T:Ty):PySem.W.kitOne K (.type t.nm) (.type T.nm)=some (h9q t T):=by
 cases t <;> cases T <;> rfl
noncomputable def rIsT(T:Ty):List V->Hp->VK->Prop:=fun xs H Q=>match xs with
 | [x,.ty n]=>n=T.nm/\∃ t,h9p H x=some t/\Q (.bl (h9q t T)) H
 | _=>False
theorem c1p (T : Ty) : b3v X (.builtin "isinstance") (rIsT T) := by
 intro pins s σ H xs us Q I r h
 match xs,r,h with
 | [x,.ty n],r,h =>
  obtain⟨rfl,t,ht,q⟩:=h
  obtain⟨u,v,rfl,r1,r2⟩:=vals2 r
  cases (show v=Value.type T.nm from r2)
  exact h1n I r1 (i1r ht) (i6o t T) fun tk=>⟨.bl _,H,I.tok tk,rfl,q⟩
mutual
inductive g2s(K:PySem.W.Frag)(H:Hp):V->PyData->Prop
 | non:g2s K H .non .none
 | bl (b:Bool):g2s K H (.bl b) (.bool b)
 | int (i:Int):g2s K H (.int i) (.int i)
 | str (x:Str):g2s K H (.str x) (.str x)
 | lst {a:Addr} {xs:List V} {ds:List PyData}:SqL K H a xs->c7t K H xs ds->g2s K H (.ref a) (.list ds)
 | tup {a:Addr} {xs:List V} {ds:List PyData}:SqT K H a xs->c7t K H xs ds->g2s K H (.ref a) (.tuple ds)
inductive c7t(K:PySem.W.Frag)(H:Hp):List V->List PyData->Prop
 | nil:c7t K H [] []
 | cons {x:V} {xs:List V} {d:PyData} {ds:List PyData}:g2s K H x d->c7t K H xs ds->c7t K H (x :: xs) (d :: ds)
end
section
variable {pins:List (Addr×Obj)}{σ:St}{H:Hp}{s:Shared}
mutual
theorem Inv.reads(I:Inv X pins σ H s):∀ {v:V} {d:PyData} {u:Value},g2s X.K H v d->RelV v u->∃ as,Reads s.heap u d as
 | _,_,_,.non,r=>by cases (show _=Value.none from r); exact⟨_,.none⟩
 | _,_,_,.bl b,r=>by cases (show _=Value.bool b from r); exact⟨_,.bool b⟩
 | _,_,_,.int i,r=>by obtain⟨t,rfl⟩:=r; exact⟨_,.int i t⟩
 | _,_,_,.str x,r=>by obtain⟨t,rfl⟩:=r; exact⟨_,.str x t⟩
 | _,_,_,.lst (a:=a) hs ha,r=>by
  cases (show _=Value.ref a from r)
  obtain⟨its,rv,⟨o,n,e,c,_,dd⟩,_⟩:=I.list hs
  obtain⟨as,q⟩:=Inv.readsAll I ha rv
  exact⟨_,.list e c dd (by simpa using q)⟩
 | _,_,_,.tup (a:=a) hs ha,r=>by
  cases (show _=Value.ref a from r)
  obtain⟨its,rv,⟨o,e,c,n,dd⟩,_⟩:=I.tuple hs
  obtain⟨as,q⟩:=Inv.readsAll I ha rv
  exact⟨_,.tuple e c dd (by simpa using q)⟩
theorem Inv.readsAll(I:Inv X pins σ H s):∀ {vs:List V} {ds:List PyData} {us:List Value},c7t X.K H vs ds->Vals vs us->∃ as,ReadsAll s.heap us ds as
 | _,_,_,.nil,.nil=>⟨_,.nil⟩
 | _,_,_,.cons h t,.cons r q=>by
  obtain⟨as,x⟩:=Inv.reads I h r
  obtain⟨bs,y⟩:=Inv.readsAll I t q
  exact⟨_,.cons x y⟩
end
end
def j3z(K:PySem.W.Frag):R2:=fun x y H Q=>∃ d e,g2s K H x d/\g2s K H y e/\SeqAt.shaped d=true/\SeqAt.shaped e=true/\Q (.bl (PyData.eqv d e)) H
def i9v(K:PySem.W.Frag):R2:=fun x y H Q=>∃ d e,g2s K H x d/\g2s K H y e/\SeqAt.shaped d=true/\SeqAt.shaped e=true/\Q (.bl (!PyData.eqv d e)) H
theorem i6p(hu:X.A.units+64 < cLine):OpR X (compareOp .Eq) (j3z X.K):=by
 intro pins s σ H x y v u Q I rx ry h
 obtain⟨d,e,hd,he,sd,se,q⟩:=h
 obtain⟨as,ra⟩:=I.reads hd rx
 obtain⟨bs,rb⟩:=I.reads he ry
 exact eq_dataH ra rb sd se hu ⟨.bl _,H,I,rfl,q⟩
theorem i6q(hu:X.A.units+64 < cLine):OpR X (compareOp .NotEq) (i9v X.K):=by
 intro pins s σ H x y v u Q I rx ry h
 obtain⟨d,e,hd,he,sd,se,q⟩:=h
 obtain⟨as,ra⟩:=I.reads hd rx
 obtain⟨bs,rb⟩:=I.reads he ry
 exact ne_dataH ra rb sd se hu ⟨.bl _,H,I,rfl,q⟩
end
noncomputable def Itr3(lo c:Int)(n:Nat):It:=⟨fun i _=>i < n,fun i H x H'=>H'=H/\x = .int (lo+i*c),fun i _=>n<=i⟩
noncomputable def rngN(lo hi c:Int):Nat:=(Builtin.Range.rangeSize lo hi c).toNat
section
variable {X:Cx}{tg:Expr}
end
def i6r(J:It)(g:TG)(tb:TS)(D:Ends)(σ:St)(H:Hp):Prop:=∃ W:Nat->Nat->St->Hp->Prop,(∃ m,W 0 m σ H)/\∀ i m σ H,W i m σ H ->
 (J.stop i H/\D.nx σ H)\/(J.go i H/\∃ N:St->Hp->Prop,(∀ σ' H',N σ' H'->∃ m',m' < m/\W (i+1) m' σ' H')/\∀ x H',J.yld i H x H'->g x σ H' fun σ2 H2=>tb { D with nx:=N,ct:=N,bk:=D.nx } σ2 H2)
def j1b(wi:TI)(g:TG)(tb:TS):TS:=fun D σ H=>wi σ H fun J H1=>i6r J g tb D σ H1
theorem a3n{X:Cx}{tg iter:Expr}{body:List Stmt}{wi:TI}{g:TG}{tb:TS}{pos:Pos}(hp:PassesOwn (model X.prog X.w) X.A X.env X.xe)(hc:X.calm=true)(hi:PI X tg iter wi)(hg:PG X tg g)(hb:PSs X body tb)
  (hs:∀ x,foldedSetIterable iter X.env x=pure x:=by intro _; rfl):PS X (.For tg iter body [] pos) (j1b wi g tb):=i5r hp hc hi hg hb hs
theorem a4l{K:PySem.W.Frag}{a:Addr}{xs:List V}{g:TG}{tb:TS}{D:Ends}{σ:St}{H:Hp}(Pv:Nat->St->Hp->Prop)(h0:Pv 0 σ H)(hl:∀ i σ H,i<=xs.length->Pv i σ H->SqL K H a xs)
  (hs:∀ i x σ H,xs[i]? = some x->Pv i σ H->g x σ H fun σ2 H2=>tb { D with nx:=Pv (i+1),ct:=Pv (i+1),bk:=D.nx } σ2 H2) (hd:∀ σ H,Pv xs.length σ H->D.nx σ H):i6r (Itl K a) g tb D σ H:=h6x Pv h0 hl hs hd
theorem a9w{lo:Int}{n:Nat}{g:TG}{tb:TS}{D:Ends}{σ:St}{H:Hp}(Pv:Nat->St->Hp->Prop)(h0:Pv 0 σ H)
  (hs:∀ i σ H,i < n->Pv i σ H->g (.int (lo+i)) σ H fun σ2 H2=>tb { D with nx:=Pv (i+1),ct:=Pv (i+1),bk:=D.nx } σ2 H2) (hd:∀ σ H,Pv n σ H->D.nx σ H):i6r (Itr lo n) g tb D σ H:=h0z Pv h0 hs hd
def h9r(c:TT)(tb:TS)(D:Ends)(σ:St)(H:Hp):Prop:=∃ W:Nat->St->Hp->Prop,(∃ m,W m σ H)/\∀ m σ H,W m σ H ->
 c σ H fun b H1=>if b=true then tb { D with nx:=fun σ' H'=>∃ m',m' < m/\W m' σ' H',ct:=fun σ' H'=>∃ m',m' < m/\W m' σ' H',bk:=D.nx } σ H1 else D.nx σ H1
def i1s(c:TT)(tb:TS):TS:=fun D σ H=>h9r c tb D σ H
theorem d2l{X:Cx}{c:Expr}{body:List Stmt}{tc:TT}{tb:TS}{pos:Pos}(hp:PassesOwn (model X.prog X.w) X.A X.env X.xe)(hc:PT X c tc)(hb:PSs X body tb):PS X (.While c body [] pos) (i1s tc tb):=by
 intro pins s σ H D I h
 obtain⟨W,⟨m0,w0⟩,turn⟩:=h
 refine wpAny_While (codeAny_whileLoop (fun n s'=>∃ σ' H',Inv X pins σ' H' s'/\W n σ' H') ?_ m0 ⟨σ,H,I,w0⟩)
 rintro n s1 ⟨σ1,H1,I1,w1⟩
 refine wpAny_passesOwn hp (thn (hc pins s1 σ1 H1 _ I1 (turn n σ1 H1 w1)) fun b s2 ⟨H2,I2,q2⟩=>?_)
 cases b with
 | true =>
  rw [if_pos rfl]
  refine wpAny_passesOwn hp (thn (hb pins s2 σ1 H2 _ I2 q2) fun f s3 q3=>?_)
  cases f with
  | next =>
   obtain⟨σ3,H3,I3,m',hm,w3⟩:=q3
   exact⟨m',hm,σ3,H3,I3,w3⟩
  | cont =>
   obtain⟨σ3,H3,I3,m',hm,w3⟩:=q3
   exact⟨m',hm,σ3,H3,I3,w3⟩
  | brk=>exact q3
  | ret v=>exact q3
 | false =>
  rw [if_neg Bool.false_ne_true]
  exact wpAny_execs_nil ⟨σ1,H2,I2,q2⟩
theorem d2m{c:TT}{tb:TS}{D:Ends}{σ:St}{H:Hp}(Pv:Nat->St->Hp->Prop)(m0:Nat)(h0:Pv m0 σ H)
  (hs:∀ m σ H,Pv m σ H->c σ H fun b H1=>if b=true then tb { D with nx:=fun σ' H'=>∃ m',m' < m/\Pv m' σ' H',ct:=fun σ' H'=>∃ m',m' < m/\Pv m' σ' H',bk:=D.nx } σ H1 else D.nx σ H1):h9r c tb D σ H :=
 ⟨Pv,⟨m0,h0⟩,hs⟩
end L2
namespace Att
open PySem PySem.W PySem.Calls PyProof.Rows
open PySem.Builtin.Int (intBits)
theorem g3f{ns:List Int}(h:WData.layableAll [WData.list (ns.map WData.int)]=true):∀ n∈ns,intBits n<=1048576:=by
 intro n hn
 have h1:=layableW_arg h _ (List.mem_singleton.mpr rfl)
 have h2:=layableW_item h1 (WData.int n) (List.mem_map.mpr ⟨n,hn,rfl⟩)
 have h3:=(layableW_iff.mp h2).2.2
 exact h3
theorem g0c{l:OpenLaw}{n:Nat}{q:Program}{loose:List Str}{XP:(Str->Option Value)->Heap->Prop}{YP:World->Heap->Prop}{d:DefRec}
  (hn:l.most=some n) (hdf:d.params.defaults = [])
  (call:∀ (w:World) (s₀ s₁:Shared) (mg mb:Str->Option Value) (fa:Addr) (o:Obj) (pm cd doc:Value) (a:Addr) (vs:List Value) (ns:List Int),
   Ground q loose [] XP w s₀ mg mb s₁.heap->YP w s₁.heap ->
   s₁.heap.get? fa=some o->o.data = .func (docDef d.name d.params d.body d.scope pm cd doc)->s₁.heap.CodeRec cd d.name->mg d.name=some (.ref fa) ->
   s₁.heap.get? a = some { cls := .type "list", data := .seq vs.toArray } → IntsAre vs ns → ns.length ≤ n → (∀ x ∈ ns, intBits x ≤ 1048576) → s₁.gens = #[] →
   codeAny (model l.prog w) callerA (.call (.ref fa) ⟨[.ref a],[]⟩) (fun r s'=>r = .ok (.ret (.bool true))/\OldK s₁.heap s'.heap/\s'.os=s₁.os/\AllBare s'.gens) s₁) :
  WalkO q loose XP YP l.row.toRowW d [] (fun f vs=>PySem.call f vs):=by
 intro w s₀ s₁ mg mb G Y fa o pm cd doc dV kV ho hd hcd hD hmg hg args vals as hpre hlay hrd hwl hlo
 obtain rfl:dV = .none:=Dflts.none hD hdf
 obtain rfl:kV = .none:=Dflts.noKw hD
 obtain⟨a,vs,ns,rfl,rfl,hobj,hints,hlen⟩:=h1v hn hpre hwl
 refine enter_call (codeAny_mono (call w s₀ s₁ mg mb fa o pm cd doc a vs ns G Y ho (fd_plain hd) hcd hmg hobj hints hlen (g3f hlay) hg) fun r s' hq=>?_)
 obtain⟨rfl,h2,h3,h4⟩:=hq
 exact⟨.inl ⟨.bool true,.bool true,[],rfl,fun _=>rfl,.bool true,h1w l _,fun _=>⟨List.Pairwise.nil,fun _ hm=>(nomatch hm)⟩⟩,h2,h3,h4⟩
end Att
namespace L2
open PySem PySem.Spec PyProof.Rows
open PySem.Builtin.Int (intBits)
def g3g(n:Nat)(K:PySem.W.Frag):Sp:=fun vs H Q _=>∃ (a:Addr) (ns:List Int),vs = [.ref a]/\SqL K H a (ns.map V.int)/\ns.length<=n/\(∀ x∈ns,intBits x<=1048576)/\Only H/\∀ H',Q (.bl true) H'
theorem h7i{l:PySem.W.OpenLaw}{k:Nat}{q:Program}{loose:List Str}{XP:(Str->Option Value)->Heap->Prop}{YP:World->Heap->Prop}{d:DefRec}{K:Params->PySem.W.Frag}{CX:World->CXT}{x:Str}
  (hn:l.most=some 63) (hdf:d.params.defaults = []) (hr:a2p k callerA)
  (hY:∀ (w:World) (h:Heap),YP w h->(K w.params).In h)
  (F:∀ (w:World) (mg:Str->Option Value) (fa:Addr) (h:Heap),(K w.params).In h->h.Ns mainGlobals mg->mg d.name=some (.ref fa) ->
   ∃ fd:FuncData,(∀ (s:Shared) (u:Value),BindsTo s fd ⟨[u],[]⟩ [(x,u)]) /\
    ∀ base:Heap,(K w.params).In base->base.Ns mainGlobals mg->a1q l.prog w (K w.params) mg base (CX w) k fa fd [x] (g3g 63 (K w.params)))
  (hCX:∀ (w:World) (H:Hp) (s:Shared) (e:Value) (s':Shared),CX w [] H s (fun _ _ _=>False) e s'->False) :
  PySem.W.WalkO q loose XP YP l.row.toRowW d [] (fun f vs=>PySem.call f vs):=by
 refine Att.g0c hn hdf fun w s₀ s₁ mg mb fa o pm cd doc a vs ns G Y ho hd hcd hmg hobj hints hlen hbits hg=>?_
 have KX:=hY w _ Y
 obtain⟨fd,hb,hF⟩:=F w mg fa _ KX G.T.g hmg
 exact h7d KX G.T.g G.T.b G.T.builtins G.T.nolimit hg hobj hints (Nat.le_trans hlen (by decide)) hr hF hb (fun H hO hS=>⟨a,ns,rfl,hS,hlen,hbits,hO,fun _=>rfl⟩) fun H e s'=>hCX w H s₁ e s'
end L2
namespace L2
open PySem PySem.Spec PyProof.Rows
theorem Same.upd{H:Hp}{p:Addr}{o:HO}(h:H p=none):Same H (upd H p o):=fun b u e=>by
 rw [a3p (a5l e h)]; exact e
structure Tag{α:Type}(a:α):Type where
def New(H:Hp)(o:HO)(Q:VK)(_:Tag Q):Prop:=∀ p H1,H p=none->Same H H1->H1 p=some o->Q (.ref p) H1
def All(C:V->Hp->Prop)(Q:VK)(_:Tag C)(_:Tag Q):Prop:=∀ v H1,C v H1->Q v H1
theorem New.raw{H:Hp}{o:HO}{Q:VK}{t:Tag Q}(h:New H o Q t):∀ p,H p=none->Q (.ref p) (L2.upd H p o):=fun p e=>h p _ e (Same.upd e) a3j
theorem j4a{CX:CXT}{P:Program}{w:World}{K:PySem.W.Frag}{mg:Str->Option Value}{base:Heap}{N:List Str}{qual:Str}{scope:Scope}{f:Addr}{cd:Value}{A:Around}{outer:List Env}{s:Shared}{H:Hp}{E:XK}:(i1i CX P w K mg base N qual scope f cd A outer s H E).K=K:=rfl
section
variable {X:Cx}{es:List Expr}{t:TA}{pos:Pos}
def j1c(t:TA):TE:=fun σ H Q=>t σ H fun xs H1=>xs.length<=sizeLine/\New H1 (.tup xs) Q ⟨⟩
def j1d(t:TA):TE:=fun σ H Q=>t σ H fun xs H1=>xs.length<=sizeLine/\New H1 (.lst xs) Q ⟨⟩
end
section
variable {X:Cx}{a b c:Expr}{ta tb tc:TE}{pos:Pos}
def j1e:R2:=fun x y H Q=>match x,y with
 | .int i,.int j=>Q (.int (i+j)) H
 | .str u,.str v=>u.length+v.length<=sizeLine/\Q (.str (u++v)) H
 | .ref l,.ref b=>∃ xs zs,H l=some (.lst xs)/\H b=some (.lst zs)/\xs.length+zs.length<=sizeLine/\New H (.lst (xs++zs)) Q ⟨⟩
 | _,_=>False
theorem a2i:OpR X (binaryOp .Add) j1e:=by
 intro pins s σ H x y v u Q I rx ry h
 cases x <;> cases y <;> first
  | exact False.elim h
  | exact i5t pins s σ H _ _ v u Q I rx ry ⟨_,_,rfl,rfl,h⟩
  | exact g7z pins s σ H _ _ v u Q I rx ry ⟨_,_,rfl,rfl,h.1,h.2⟩
  | (obtain ⟨xs, zs, h1, h2, h3, h4⟩ := h
     exact i6j pins s σ H _ _ v u Q I rx ry ⟨_,_,_,_,rfl,rfl,h1,h2,h3,h4.raw⟩)
def j1f:R2:=fun x y H Q=>match x,y with
 | .int i,.int j=>IntMulOk i j/\Q (.int (i*j)) H
 | .ref l,.int k=>∃ xs,H l=some (.lst xs) /\ -(2 ^ 63)<=k/\k < 2 ^ 63/\xs.length*k.toNat<=sizeLine/\New H (.lst (List.replicate k.toNat xs).flatten) Q ⟨⟩
 | _,_=>False
theorem a3w:OpR X (binaryOp .Mult) j1f:=by
 intro pins s σ H x y v u Q I rx ry h
 cases x <;> cases y <;> first
  | exact False.elim h
  | exact i1q pins s σ H _ _ v u Q I rx ry ⟨_,_,rfl,rfl,h.1,h.2⟩
  | (obtain ⟨xs, h1, h2, h3, h4, h5⟩ := h
     exact i6k pins s σ H _ _ v u Q I rx ry ⟨_,_,_,rfl,rfl,h1,h2,h3,h4,h5.raw⟩)
def j1g(K:PySem.W.Frag):R2:=fun x y H Q=>if h1a x y=true then Q (.bl (decide (x=y))) H else j3z K x y H Q
def j4b(K:PySem.W.Frag):R2:=fun x y H Q=>if h1a x y=true then Q (.bl (!decide (x=y))) H else i9v K x y H Q
theorem c2y(hu:X.A.units+64 < cLine):OpR X (compareOp .Eq) (j1g X.K):=by
 intro pins s σ H x y v u Q I rx ry h
 unfold j1g at h
 by_cases hs:h1a x y=true
 ·rw [if_pos hs] at h
  exact j0o pins s σ H x y v u Q I rx ry ⟨hs,h⟩
 ·rw [if_neg hs] at h
  exact i6p hu pins s σ H x y v u Q I rx ry h
theorem c2z(hu:X.A.units+64 < cLine):OpR X (compareOp .NotEq) (j4b X.K):=by
 intro pins s σ H x y v u Q I rx ry h
 unfold j4b at h
 by_cases hs:h1a x y=true
 ·rw [if_pos hs] at h
  exact j0p pins s σ H x y v u Q I rx ry ⟨hs,h⟩
 ·rw [if_neg hs] at h
  exact i6q hu pins s σ H x y v u Q I rx ry h
def rIxM:R2:=fun x y H Q=>match x,y with
 | .ref p,.int i=>(match H p with
  | some (.tup xs)=>∃ v,atI xs i=some v/\Q v H
  | some (.lst xs)=>∃ v,atI xs i=some v/\Q v H
  | _=>False)
 | .str z,.int i=>∃ c,z.length<=sizeLine/\atI z.cps.toList i=some c/\Q (.str ⟨#[c]⟩) H
 | _,_=>False
theorem a5m:IxR X rIxM:=by
 intro value slice pins s σ H x y v u Q I rx ry h hs
 cases x with
 | ref p =>
  cases y with
  | int i =>
   have h':(match H p with
    | some (.tup xs)=>∃ v,atI xs i=some v/\Q v H
    | some (.lst xs)=>∃ v,atI xs i=some v/\Q v H
    | _=>False):=h
   split at h'
   ·rename_i xs e
    obtain⟨z,h2,h3⟩:=h'
    exact i6d value slice pins s σ H _ _ v u Q I rx ry ⟨_,xs,_,z,rfl,rfl,SqT.of e,h2,h3⟩ hs
   ·rename_i xs e
    obtain⟨z,h2,h3⟩:=h'
    exact h1q value slice pins s σ H _ _ v u Q I rx ry ⟨_,xs,_,z,rfl,rfl,SqL.of e,h2,h3⟩ hs
   ·exact h'.elim
  | _=>exact False.elim h
 | str z =>
  cases y with
  | int i =>
   obtain⟨c,h1,h2,h3⟩:=h
   exact i6e value slice pins s σ H _ _ v u Q I rx ry ⟨_,_,c,rfl,rfl,h1,h2,h3⟩ hs
  | _=>exact False.elim h
 | _=>exact False.elim h
noncomputable def rSlM:V->Option Int->Option Int->Hp->VK->Prop:=fun x lo hi H Q=>match x with
 | .ref a=>(match H a with
  | some (.lst xs)=>New H (.lst (f5k xs lo hi)) Q ⟨⟩
  | _=>False)
 | _=>False
theorem sl_M:SlR X rSlM:=by
 intro pins s σ H x v vl vu lo hi sl Q I rx hs pl pu h
 cases x with
 | ref a =>
  have h':(match H a with
   | some (.lst xs)=>New H (.lst (f5k xs lo hi)) Q ⟨⟩
   | _=>False):=h
  split at h'
  ·rename_i xs e
   exact h1r pins s σ H _ v vl vu lo hi sl Q I rx hs pl pu ⟨_,xs,rfl,SqL.of e,h'.raw⟩
  ·exact h'.elim
 | _=>exact False.elim h
noncomputable def rSlK(K:PySem.W.Frag):V->Option Int->Option Int->Hp->VK->Prop:=fun x lo hi H Q=>∃ a xs,x = .ref a/\SqL K H a xs/\New H (.lst (f5k xs lo hi)) Q ⟨⟩
theorem sl_K:SlR X (rSlK X.K):=by
 intro pins s σ H x v vl vu lo hi sl Q I rx hs pl pu h
 obtain⟨a,xs,e,h1,h2⟩:=h
 exact h1r pins s σ H _ v vl vu lo hi sl Q I rx hs pl pu ⟨a,xs,e,h1,h2.raw⟩
noncomputable def j1h:List V->Hp->VK->Prop:=fun xs H Q=>match xs with
 | [.ref p]=>(match H p with
  | some (.lst ys)=>Q (.int ys.length) H
  | some (.tup ys)=>Q (.int ys.length) H
  | _=>False)
 | [.str z]=>z.length<=sizeLine/\Q (.int z.length) H
 | _=>False
theorem a2k : b3v X (.builtin "len") j1h := by
 intro pins s σ H xs us Q I r h
 match xs,r,h with
 | [.ref p],r,h =>
  have h':(match H p with
   | some (.lst ys)=>Q (.int ys.length) H
   | some (.tup ys)=>Q (.int ys.length) H
   | _=>False):=h
  split at h'
  ·rename_i ys e
   exact c7s pins s σ H _ us Q I r ⟨p,ys,rfl,.inl (SqL.of e),h'⟩
  ·rename_i ys e
   exact c7s pins s σ H _ us Q I r ⟨p,ys,rfl,.inr (SqT.of e),h'⟩
  ·exact h'.elim
 | [.str z],r,h=>exact f9v pins s σ H _ us Q I r ⟨z,rfl,h.1,h.2⟩
theorem h2e : b3v X (.builtin "len") (fun xs H Q => ∃ p ys, xs = [.ref p] ∧ SqL X.K H p ys ∧ Q (.int ys.length) H) := by
 intro pins s σ H xs us Q I r h
 obtain⟨p,ys,e,h1,h2⟩:=h
 exact c7s pins s σ H _ us Q I r ⟨p,ys,e,.inl h1,h2⟩
theorem j1i{i j:Int}:h1a (.int i) (.int j)=true:=rfl
theorem j1j{i j:Str}:h1a (.str i) (.str j)=true:=rfl
theorem j1k{i j:Bool}:h1a (.bl i) (.bl j)=true:=rfl
theorem j1l:h1a .non .non=true:=rfl
theorem j1m{i j:Addr}:h1a (.ref i) (.ref j)=false:=rfl
theorem j4c{H:Hp}{i:Int}:h9p H (.int i)=some .int:=rfl
theorem j4d{H:Hp}{i:Str}:h9p H (.str i)=some .str:=rfl
theorem j4e{H:Hp}{i:Bool}:h9p H (.bl i)=some .bl:=rfl
theorem j4f{H:Hp}:h9p H .non=some .non:=rfl
theorem j4g{H:Hp}{a:Addr}:h9p H (.ref a)=(match H a with
  | some (.lst _)=>some .lst
  | some (.frz _ (.lst _))=>some .lst
  | some (.tup _)=>some .tup
  | some (.dK _)=>some .dct
  | some (.dT _)=>some .dct
  | _=>none):=rfl
theorem two_line:2<=sizeLine:=by decide
theorem i6s{α:Type}{x:α}{xs:List α}:atI (x :: xs) 0=some x:=b1t (j:=0) rfl
theorem i6t{α:Type}{x y:α}{xs:List α}:atI (x :: y :: xs) 1=some y:=b1t (j:=1) rfl
theorem i6u{α:Type}{x y z:α}{xs:List α}:atI (x :: y :: z :: xs) 2=some z:=b1t (j:=2) rfl
theorem i6v{α:Type}{x y z u:α}{xs:List α}:atI (x :: y :: z :: u :: xs) 3=some u:=b1t (j:=3) rfl
theorem h9s{p q A B:Prop}[Decidable p][Decidable q] : (if p then (if q then A else B) else B)=(if p/\q then A else B):=by
 by_cases hp:p <;> by_cases hq:q <;> simp [hp,hq]
theorem i1t{p q A B:Prop}[Decidable p][Decidable q] : (if p then A else (if q then A else B))=(if p\/q then A else B):=by
 by_cases hp:p <;> by_cases hq:q <;> simp [hp,hq]
end
section
variable {X:Cx}{es:List Expr}{t:TA}{pos:Pos}
theorem b3w{x1}(h:PA X es t):PE X (.Tuple es x1 pos) (j1c t):=by
 intro pins s σ H Q I hq
 refine wpAny_Tuple_spliced (thn (h pos pins s σ H _ I hq) fun us s1 ⟨xs,H1,I1,r,z,q⟩=>⟨by rw [<- r.length]; exact z,?_⟩)
 have hf:H1 s1.heap.objs.size=none:=I1.hok.fresh (Nat.le_refl _)
 refine⟨.ref s1.heap.objs.size,upd H1 s1.heap.objs.size (.tup xs),I1.laid (t':=s1.toks) (fun b u e=>Heap.get?_push_of_some _ e) (Nat.le_refl _) ?_,rfl,q.raw _ hf⟩
 exact⟨z,us,r,⟨_,Heap.get?_push_size _ rfl,rfl,_,rfl⟩⟩
theorem a3y(h:PA X es t):PE X (.List es pos) (j1d t):=by
 intro pins s σ H Q I hq
 refine wpAny_List_spliced (thn (h pos pins s σ H _ I hq) fun us s1 ⟨xs,H1,I1,r,z,q⟩=>⟨by rw [<- r.length]; exact z,?_⟩)
 have hf:H1 s1.heap.objs.size=none:=I1.hok.fresh (Nat.le_refl _)
 refine⟨.ref s1.heap.objs.size,upd H1 s1.heap.objs.size (.lst xs),I1.laid (t':=s1.toks) (fun b u e=>Heap.get?_push_of_some _ e) (Nat.le_refl _) ?_,rfl,q.raw _ hf⟩
 exact⟨z,us,0,r,Heap.get?_push_size _ rfl⟩
theorem g8h : b3v X (.type "list") (fun xs H Q => ∃ p ys, xs = [.ref p] ∧ (SqL X.K H p ys ∨ SqT X.K H p ys) ∧ New H (.lst ys) Q ⟨⟩) := by
 intro pins s σ H xs us Q I r h
 obtain⟨p,ys,e,h1,h2⟩:=h
 exact f9w pins s σ H xs us Q I r ⟨p,ys,e,h1,h2.raw⟩
end
theorem Same.tup{K:PySem.W.Frag}{H H':Hp}{a:Addr}{xs:List V}(e:Same H H')(h:SqT K H a xs):SqT K H' a xs:=by
 rcases h with (h | ⟨o,h⟩) | h
 ·exact .inl (.inl (e _ _ h))
 ·exact .inl (.inr ⟨o,e _ _ h⟩)
 ·exact .inr h
end L2
namespace L2
open PySem PySem.Spec PyProof.Rows
open PySem.Builtin.Int (intBits)
section
variable {X:Cx}{e a b c:Expr}{es rest:List Expr}{pos:Pos}{tg iter:Expr}
theorem PE.weak{t u:TE}(h:PE X e t)(q:∀ σ H Q,u σ H Q->t σ H Q):PE X e u:=fun pins s σ H Q I hu=>h pins s σ H Q I (q σ H Q hu)
theorem PI.weak{t u:TI}(h:PI X tg iter t)(q:∀ σ H Q,u σ H Q->t σ H Q):PI X tg iter u:=fun pins s σ H Q I hu=>h pins s σ H Q I (q σ H Q hu)
theorem OpR.weak{f:Value->Value->Sem Value}{r r':R2}(h:OpR X f r)(q:∀ x y H Q,r' x y H Q->r x y H Q):OpR X f r':=fun pins s σ H x y v u Q I rx ry hr=>h pins s σ H x y v u Q I rx ry (q x y H Q hr)
theorem UnR.weak{f:Value->Sem Value}{r r':V->Hp->VK->Prop}(h:UnR X f r)(q:∀ x H Q,r' x H Q->r x H Q):UnR X f r':=fun pins s σ H x v Q I rx hr=>h pins s σ H x v Q I rx (q x H Q hr)
theorem b3v.weak{f:Value}{r r':List V->Hp->VK->Prop}(h:b3v X f r)(q:∀ xs H Q,r' xs H Q->r xs H Q):b3v X f r':=fun pins s σ H xs us Q I rx hr=>h pins s σ H xs us Q I rx (q xs H Q hr)
theorem IxR.weak{r r':R2}(h:IxR X r)(q:∀ x y H Q,r' x y H Q->r x y H Q):IxR X r':=fun value slice pins s σ H x y v u Q I rx ry hr hs=>h value slice pins s σ H x y v u Q I rx ry (q x y H Q hr) hs
def c3g(i:Nat):TE:=fun σ H Q=>match σ[i]? with
 | some (some v)=>Q v H
 | _=>False
theorem pvF (i : Nat) {x : Str} {pos : Pos} (hN : X.N[i]? = some x := by rfl) (hv : Vis X.env.scope x := by first | exact Or.inl rfl | exact Or.inr (Or.inl rfl) | exact Or.inr (Or.inr rfl)) (hd : (x == ("__debug__" : Str)) = false := by decide)
  (hcd : (x == ("__classdict__" : Str)) = false := by decide) : PE X (.Name x pos) (c3g i) := (i5e hN hv hd hcd).weak fun σ H Q h => by
 unfold c3g at h
 split at h
 ·rename_i v e
  exact⟨v,e,h⟩
 ·exact h.elim
def rIF(C:Int->Int->Prop)(g:Int->Int->V):R2:=fun x y H Q=>match x,y with
 | .int i,.int j=>C i j/\Q (g i j) H
 | _,_=>False
def i4r(g:Int->Int->V):R2:=fun x y H Q=>match x,y with
 | .int i,.int j=>Q (g i j) H
 | _,_=>False
theorem h2f{C:Int->Int->Prop}{g:Int->Int->V}:∀ x y H Q,rIF C g x y H Q->rI C g x y H Q:=fun x y H Q h=>by
 cases x <;> cases y <;> first | exact False.elim h | exact⟨_,_,rfl,rfl,h⟩
theorem d8k{g:Int->Int->V}:∀ x y H Q,i4r g x y H Q->rI0 g x y H Q:=fun x y H Q h=>by
 cases x <;> cases y <;> first | exact False.elim h | exact⟨_,_,rfl,rfl,h⟩
theorem d8l:OpR X (binaryOp .Sub) (i4r fun i j=>.int (i - j)):=i5u.weak d8k
theorem a8t:OpR X (binaryOp .FloorDiv) (rIF CFd fun i j=>.int (i.fdiv j)):=h7h.weak h2f
theorem b1j:OpR X (binaryOp .Mod) (rIF (fun _ j=>j≠0) fun i j=>.int (i.fmod j)):=i1d.weak h2f
theorem d8m:OpR X (binaryOp .Pow) (rIF j3u fun i j=>.int (i ^ j.toNat)):=i5v.weak h2f
theorem of_lt:OpR X (compareOp .Lt) (i4r fun i j=>.bl (decide (i < j))):=j0q.weak d8k
theorem of_le:OpR X (compareOp .LtE) (i4r fun i j=>.bl (decide (i<=j))):=j0r.weak d8k
theorem g0d:OpR X (compareOp .Gt) (i4r fun i j=>.bl (decide (j < i))):=j0s.weak d8k
theorem j1n:OpR X (compareOp .GtE) (i4r fun i j=>.bl (decide (j<=i))):=j0t.weak d8k
noncomputable def rUF(g:Int->V):V->Hp->VK->Prop:=fun x H Q=>match x with
 | .int i=>Q (g i) H
 | _=>False
theorem h9t:UnR X (unaryOp .USub) (rUF fun i=>.int (-i)):=i5w.weak fun x H Q h=>by
 cases x <;> first | exact False.elim h | exact⟨_,rfl,h⟩
def tBF(t:TE):TT:=fun σ H Q=>t σ H fun x H1=>match x with
 | .bl k=>Q k H1
 | _=>False
theorem j1o{x:V}{H1:Hp}{Q:Bool->Hp->Prop}(h:match x with | .bl k=>Q k H1 | _=>False):∃ k,x = .bl k/\Q k H1:=by
 cases x <;> first | exact False.elim h | exact⟨_,rfl,h⟩
theorem a1r{op:CmpOp}{r:R2}{ta tb:TE}(ho:OpR X (compareOp op) r)(ha:PE X a ta)(hb:PE X b tb)(hm:behindInMarks op b=false):PT X (.Compare a [op] [b] pos) (tBF (tOp r ta tb)):=by
 intro pins s σ H Q I h
 refine (i1e (ho.weak (r':=fun x y H Q=>r x y H Q) fun _ _ _ _ z=>z) ha hb hm) pins s σ H _ I ?_
 unfold i5y
 exact h |> fun h=>by
  unfold tBF at h
  have e:(fun (x:V) (H1:Hp)=>match x with | .bl k=>Q k H1 | _=>False)=fun x H1=>∃ k,x=V.bl k/\Q k H1:=by
   funext x H1
   cases x <;> simp
  rw [e] at h
  exact h
theorem b1u{t:TE}(h:PE X e t)(he:∀ whole,isTrue e X.env whole=(do let v <- whole; standAt e.pos; holding [v] (truthy v)):=by intro _; rfl):PT X e (tBF t):=by
 intro pins s σ H Q I hw
 refine (i5g h he) pins s σ H _ I ?_
 unfold tB
 unfold tBF at hw
 have e:(fun (x:V) (H1:Hp)=>match x with | .bl k=>Q k H1 | _=>False)=fun x H1=>∃ k,x=V.bl k/\Q k H1:=by
  funext x H1
  cases x <;> simp
 rw [e] at hw
 exact hw
def i6w(ta tb:TE):TE:=fun σ H Q=>ta σ H fun x H1=>match x with
 | .bl c=>if c=true then tb σ H1 Q else Q (.bl false) H1
 | _=>False
def tOrF(ta tb:TE):TE:=fun σ H Q=>ta σ H fun x H1=>match x with
 | .bl c=>if c=true then Q (.bl true) H1 else tb σ H1 Q
 | _=>False
def i6x(ta:TE):TE:=fun σ H Q=>ta σ H fun x H1=>match x with
 | .bl c=>Q (.bl (!c)) H1
 | _=>False
theorem g3h{ta tb:TE}(ha:PE X a ta)(hb:PE X (.BoolOp .And (b :: rest) pos) tb):PE X (.BoolOp .And (a :: b :: rest) pos) (i6w ta tb):=by
 intro pins s σ H Q I h
 refine (i5j ha hb) pins s σ H Q I ?_
 unfold i5h
 unfold i6w at h
 have e:(fun (x:V) (H1:Hp)=>match x with | .bl c=>(if c=true then tb σ H1 Q else Q (.bl false) H1) | _=>False)=fun x H1=>∃ c,x=V.bl c/\if c=true then tb σ H1 Q else Q (.bl false) H1:=by
  funext x H1
  cases x <;> simp
 rw [e] at h
 exact h
theorem i1u{ta:TE}(ha:PE X a ta):PE X (.UnaryOp .Not a pos) (i6x ta):=by
 intro pins s σ H Q I h
 refine (i5k ha) pins s σ H Q I ?_
 unfold i5i
 unfold i6x at h
 have e:(fun (x:V) (H1:Hp)=>match x with | .bl c=>Q (.bl (!c)) H1 | _=>False)=fun x H1=>∃ c,x=V.bl c/\Q (.bl (!c)) H1:=by
  funext x H1
  cases x <;> simp
 rw [e] at h
 exact h
def h9u(ta:TA):TI:=fun σ H R=>ta σ H fun vs H1=>match vs with
 | [.int j] => -(2 ^ 62)<=j/\j < 2 ^ 62/\R (Itr 0 j.toNat) H1
 | _=>False
def h9v(ta:TA):TI:=fun σ H R=>ta σ H fun vs H1=>match vs with
 | [.int i,.int j]=>(-(2 ^ 62)<=i/\i < 2 ^ 62 /\ -(2 ^ 62)<=j/\j < 2 ^ 62)/\R (Itr i (j - i).toNat) H1
 | _=>False
def j4h(ta:TA):TI:=fun σ H R=>ta σ H fun vs H1=>match vs with
 | [.int i,.int j,.int c]=>(0<=i/\i < 2 ^ 32/\0<=j/\j < 2 ^ 32/\0 < c/\c < 2 ^ 30)/\R (Itr3 i c (rngN i j c)) H1
 | _=>False
theorem a4r {ta : TA} {p pos : Pos} (hg : Gl X "range") (hm : X.mg "range" = none) (ha : PA X [a] ta) (hs : starEach [a] X.env = [(false, eval a X.env)] := by rfl) : PI X tg (.Call (.Name "range" p) [a] [] pos) (h9u ta) := by
 refine (h0w hg hm ha hs).weak fun σ H R h=>?_
 unfold i5p
 unfold h9u at h
 have e:(fun (vs:List V) (H1:Hp)=>(match vs with | [.int j] => -(2 ^ 62)<=j/\j < 2 ^ 62/\R (Itr 0 j.toNat) H1 | _=>False:Prop))=fun vs H1=>∃ j:Int,vs = [.int j] /\ -(2 ^ 62)<=j/\j < 2 ^ 62/\R (Itr 0 j.toNat) H1:=by
  funext vs H1
  refine propext ⟨fun z=>?_,fun⟨j,e,z⟩=>by subst e; exact z⟩
  match vs,z with
  | [.int j],z=>exact⟨j,rfl,z⟩
 rw [e] at h
 exact h
theorem g8i {ta : TA} {p pos : Pos} (hg : Gl X "range") (hm : X.mg "range" = none) (ha : PA X [a, b] ta) (hs : starEach [a, b] X.env = [(false, eval a X.env), (false, eval b X.env)] := by rfl) (hs2 : starEach [b] X.env = [(false, eval b X.env)] := by rfl) :
  PI X tg (.Call (.Name "range" p) [a, b] [] pos) (h9v ta) := by
 refine (h0x hg hm ha hs hs2).weak fun σ H R h=>?_
 unfold i5q
 unfold h9v at h
 have e:(fun (vs:List V) (H1:Hp)=>match vs with | [.int i,.int j]=>(-(2 ^ 62)<=i/\i < 2 ^ 62 /\ -(2 ^ 62)<=j/\j < 2 ^ 62)/\R (Itr i (j - i).toNat) H1 | _=>False)=fun vs H1=>∃ i j:Int,vs = [.int i,.int j]/\(-(2 ^ 62)<=i/\i < 2 ^ 62 /\ -(2 ^ 62)<=j/\j < 2 ^ 62)/\R (Itr i (j - i).toNat) H1:=by
  funext vs H1
  refine propext ⟨fun z=>?_,fun⟨i,j,e,z⟩=>by subst e; exact z⟩
  match vs,z with
  | [.int i,.int j],z=>exact⟨i,j,rfl,z⟩
 rw [e] at h
 exact h
def h9w(K:PySem.W.Frag)(tl:TE):TI:=fun σ H R=>tl σ H fun x H1=>match x with
 | .ref a=>(∃ xs,SqL K H1 a xs)/\R (Itl K a) H1
 | _=>False
theorem a2m{l:Expr}{tl:TE}(hl:PE X l tl):PI X tg l (h9w X.K tl):=(i1c hl).weak fun σ H R h=>by
 unfold i5o
 unfold h9w at h
 have e:(fun (x:V) (H1:Hp)=>match x with | .ref a=>(∃ xs,SqL X.K H1 a xs)/\R (Itl X.K a) H1 | _=>False)=fun x H1=>∃ a,x = .ref a/\(∃ xs,SqL X.K H1 a xs)/\R (Itl X.K a) H1:=by
  funext x H1
  cases x <;> simp
 rw [e] at h
 exact h
def j1p(K:PySem.W.Frag):R2:=fun x y H Q=>match x,y with
 | .ref p,.int i=>∃ ns:List Int,SqL K H p (ns.map V.int)/\0<=i/\i < ns.length/\Q (.int (ns.getD i.toNat 0)) H
 | _,_=>False
theorem h7j{ns:List Int}{i:Int}(h0:0<=i)(h1:i < ns.length):atI (ns.map V.int) i=some (.int (ns.getD i.toNat 0)):=by
 obtain⟨j,rfl⟩:=Int.eq_ofNat_of_zero_le h0
 refine b1t ?_
 have hj:j < ns.length:=by omega
 rw [List.getElem?_map,List.getElem?_eq_getElem hj,List.getD_eq_getElem?_getD,Int.toNat_natCast,List.getElem?_eq_getElem hj]
 rfl
theorem ix_S:IxR X (j1p X.K):=h1q.weak fun x y H Q h=>by
 cases x with
 | ref p =>
  cases y with
  | int i =>
   obtain⟨ns,h1,h2,h3,h4⟩:=h
   exact⟨p,_,i,_,rfl,rfl,h1,h7j h2 h3,h4⟩
  | _=>exact False.elim h
 | _=>exact False.elim h
noncomputable def j1q(K:PySem.W.Frag):List V->Hp->VK->Prop:=fun xs H Q=>match xs with
 | [.ref p]=>∃ ys,SqL K H p ys/\Q (.int ys.length) H
 | _=>False
theorem g8j : b3v X (.builtin "len") (j1q X.K) := h2e.weak fun xs H Q h => by
 match xs,h with
 | [.ref p],⟨ys,h1,h2⟩=>exact⟨p,ys,rfl,h1,h2⟩
noncomputable def j1r(K:PySem.W.Frag):V->Option Int->Option Int->Hp->VK->Prop:=fun x lo hi H Q=>match x with
 | .ref a=>∃ xs,SqL K H a xs/\New H (.lst (f5k xs lo hi)) Q ⟨⟩
 | _=>False
theorem j1s:SlR X (j1r X.K):=by
 intro pins s σ H x v vl vu lo hi sl Q I rx hs pl pu h
 cases x <;> first
  | exact False.elim h
  | (obtain ⟨xs, h1, h2⟩ := h
     exact sl_K pins s σ H _ v vl vu lo hi sl Q I rx hs pl pu ⟨_,xs,rfl,h1,h2⟩)
def h9x(t:TE):TO:=fun σ H Q=>t σ H fun x H1=>match x with
 | .int i=>Q (some i) H1
 | _=>False
theorem a3t{te:TE}(h:PE X e te):PO X (some e) (h9x te):=by
 intro pins s σ H Q I hw
 refine (i1k h) pins s σ H Q I ?_
 unfold i6c
 unfold h9x at hw
 have e:(fun (x:V) (H1:Hp)=>match x with | .int i=>Q (some i) H1 | _=>False)=fun x H1=>∃ i,x=V.int i/\Q (some i) H1:=by
  funext x H1
  cases x <;> simp
 rw [e] at hw
 exact hw
noncomputable def rAbs:List V->Hp->VK->Prop:=fun xs H Q=>match xs with
 | [.int i]=>Q (.int i.natAbs) H
 | _=>False
theorem b9w : b3v X (.builtin "abs") rAbs := h6y.weak fun xs H Q h => by
 match xs,h with
 | [.int i],h =>
  refine⟨i,rfl,?_⟩
  have e:(if i < 0 then -i else i)=(i.natAbs:Int):=by split <;> omega
  rw [e]
  exact h
noncomputable def rMin:List V->Hp->VK->Prop:=fun xs H Q=>match xs with
 | [.int i,.int j]=>Q (.int (min i j)) H
 | _=>False
noncomputable def rMax:List V->Hp->VK->Prop:=fun xs H Q=>match xs with
 | [.int i,.int j]=>Q (.int (max i j)) H
 | _=>False
theorem h2g (hc : X.calm = true) : b3v X (.builtin "min") rMin := (h1i hc).weak fun xs H Q h => by
 match xs,h with
 | [.int i,.int j],h =>
  refine⟨i,j,rfl,?_⟩
  have e:(if j < i then j else i)=min i j:=by split <;> omega
  rw [e]
  exact h
theorem h2i (hc : X.calm = true) : b3v X (.builtin "max") rMax := (h1h hc).weak fun xs H Q h => by
 match xs,h with
 | [.int i,.int j],h =>
  refine⟨i,j,rfl,?_⟩
  have e:(if j > i then j else i)=max i j:=by split <;> omega
  rw [e]
  exact h
noncomputable def i6y(K:PySem.W.Frag):List V->Hp->VK->Prop:=fun xs H Q=>match xs with
 | [.ref p]=>(match H p with
  | some (.lst ys)=>New H (.lst ys) Q ⟨⟩
  | some (.tup ys)=>New H (.lst ys) Q ⟨⟩
  | _=>False)
 | _=>False
theorem a9y : b3v X (.type "list") (i6y X.K) := g8h.weak fun xs H Q h => by
 match xs,h with
 | [.ref p],h =>
  have h':(match H p with
   | some (.lst ys)=>New H (.lst ys) Q ⟨⟩
   | some (.tup ys)=>New H (.lst ys) Q ⟨⟩
   | _=>False):=h
  split at h'
  ·rename_i ys e
   exact⟨p,ys,rfl,.inl (SqL.of e),h'⟩
  ·rename_i ys e
   exact⟨p,ys,rfl,.inr (SqT.of e),h'⟩
  ·exact h'.elim
theorem j4i{α:Type}{x:α}{xs:List α}{p:α->Prop}:(∃ v,atI (x :: xs) 0=some v/\p v)=p x:=by
 rw [i6s]; simp
theorem j4j{α:Type}{x y:α}{xs:List α}{p:α->Prop}:(∃ v,atI (x :: y :: xs) 1=some v/\p v)=p y:=by
 rw [i6t]; simp
theorem j4k{α:Type}{x y z:α}{xs:List α}{p:α->Prop}:(∃ v,atI (x :: y :: z :: xs) 2=some v/\p v)=p z:=by
 rw [i6u]; simp
theorem j4l{α:Type}{x y z u:α}{xs:List α}{p:α->Prop}:(∃ v,atI (x :: y :: z :: u :: xs) 3=some v/\p v)=p u:=by
 rw [i6v]; simp
end
end L2
namespace L2
open PySem PySem.Spec PyProof.Rows PySem.W
theorem g0e{n:Nat}{d:Dat}(h:kqdOk n d=true)(hn:n<=64):SeqAt.shaped (kqdP d)=true:=by
 have l:=kqd_lay n d h
 unfold SeqAt.shaped
 rw [l.1,Bool.true_and]
 exact decide_eq_true (Nat.le_trans l.2 hn)
theorem i6z{n k:Nat}{d e:Dat}(hd:kqdOk n d=true)(he:kqdOk k e=true){c:Bool}(hc:c=true ↔ d=e):PyData.eqv (kqdP d) (kqdP e)=c:=by
 have q:=kqd_eqv n d e k hd he
 cases c with
 | true=>exact q.mpr (hc.mp rfl)
 | false=>exact Bool.eq_false_iff.mpr fun z=>absurd (hc.mpr (q.mp z)) Bool.false_ne_true
theorem i7a{K:PySem.W.Frag}{H:Hp}{x y:V}{d e:Dat}{n k:Nat}{c:Bool}{Q:VK}(hd:g2s K H x (kqdP d))(he:g2s K H y (kqdP e))(kd:kqdOk n d=true)(ke:kqdOk k e=true)(hn:n<=64)(hk:k<=64)(hc:c=true ↔ d=e)(q:Q (.bl (!c)) H):i9v K x y H Q :=
 ⟨_,_,hd,he,g0e kd hn,g0e ke hk,by rw [i6z kd ke hc]; exact q⟩
end L2
namespace L2
open PySem PySem.Spec PyProof.Rows
open PySem.Builtin.Int (intBits)
def tCut(t u:TS):TS:=fun D σ H=>∃ Mid:St->Hp->Prop,t { D with nx:=Mid } σ H/\∀ σ' H',Mid σ' H'->u D σ' H'
theorem b1i{X:Cx}{st:Stmt}{rest:List Stmt}{t u:TS}(h1:PS X st t)(h2:PSs X rest u):PSs X (st :: rest) (tCut t u):=by
 intro pins s σ H D I h
 obtain⟨Mid,h,hm⟩:=h
 refine wpAny_execs_cons (thn (h1 pins s σ H { D with nx:=Mid } I h) fun f s1 q=>?_)
 cases f with
 | next =>
  obtain⟨σ',H',I',q⟩:=q
  exact h2 pins s1 σ' H' D I' (hm σ' H' q)
 | ret v=>exact q
 | brk=>exact q
 | cont=>exact q
theorem h2j{ns:List Int}{n:Nat}(h:∀ x∈ns,intBits x<=n)(k:Nat):intBits (ns.getD k 0)<=n:=by
 rw [List.getD_eq_getElem?_getD]
 cases e:ns[k]? with
 | none=>exact Nat.zero_le _
 | some x=>exact h x (List.mem_of_getElem? e)
end L2
namespace L2
open PySem PySem.Spec PyProof.Rows
theorem d3s{env:Env}:∀ (names:List (Str×NameKind)) (acc:List (Str×Addr)),(∀ y,(y,NameKind.free)∈names->∃ c,env.cells.lookup y=some c) ->
  ∃ cl,(forIn names acc (fun (x:Str×NameKind) (cs:List (Str×Addr))=>(if x.2 == NameKind.free then (do let c <- cellOf env x.1; pure (ForInStep.yield ((x.1,c) :: cs))) else pure (ForInStep.yield cs):Sem (ForInStep (List (Str×Addr))))))=pure cl /\
   (∀ y c,cl.lookup y=some c->acc.lookup y=some c\/((y,NameKind.free)∈names/\env.cells.lookup y=some c)) /\
   (∀ y,(y,NameKind.free)∈names->cl.lookup y=env.cells.lookup y)/\(∀ y,(∀ k,(y,k)∈names->k≠NameKind.free)->cl.lookup y=acc.lookup y)
 | [],acc,_=>⟨acc,rfl,fun y c h=>.inl h,fun y h=>(nomatch h),fun y _=>rfl⟩
 | (n,k) :: r,acc,h=>by
  by_cases hk:k=NameKind.free
  ·subst hk
   obtain⟨c,hc⟩:=h n List.mem_cons_self
   obtain⟨cl,h1,h2,h3,h4⟩:=d3s r ((n,c) :: acc) fun y hy=>h y (List.mem_cons_of_mem _ hy)
   have e:cellOf env n=pure c:=by unfold cellOf; rw [hc]
   refine⟨cl,?_,fun y d hd=>?_,fun y hy=>?_,fun y hy=>?_⟩
   ·rw [List.forIn_cons]
    simp only [beq_self_eq_true,if_true,e,pure_bind]
    exact h1
   ·rcases h2 y d hd with z | ⟨z1,z2⟩
    ·rw [List.lookup_cons] at z
     by_cases hy:y=n
     ·subst hy
      simp only [beq_self_eq_true] at z
      cases z
      exact .inr ⟨List.mem_cons_self,hc⟩
     ·have:(y == n)=false:=by simpa using hy
      rw [this] at z
      exact .inl z
    ·exact .inr ⟨List.mem_cons_of_mem _ z1,z2⟩
   ·by_cases hr:(y,NameKind.free)∈r
    ·exact h3 y hr
    ·rcases List.mem_cons.mp hy with z | z
     ·cases z
      by_cases hq:∃ k,(n,k)∈r/\k=NameKind.free
      ·obtain⟨k,z,rfl⟩:=hq
       exact absurd z hr
      ·rw [h4 n fun k hk e=>hq ⟨k,hk,e⟩,List.lookup_cons]
       simp only [beq_self_eq_true]
       exact hc.symm
     ·exact absurd z hr
   ·have hn:y≠n:=fun e=>by
     subst e
     exact hy _ List.mem_cons_self rfl
    rw [h4 y fun k hk=>hy k (List.mem_cons_of_mem _ hk),List.lookup_cons]
    have:(y == n)=false:=by simpa using hn
    rw [this]
  ·obtain⟨cl,h1,h2,h3,h4⟩:=d3s r acc fun y hy=>h y (List.mem_cons_of_mem _ hy)
   have hb:(k == NameKind.free)=false:=by simpa using hk
   refine⟨cl,?_,fun y d hd=>?_,fun y hy=>?_,fun y hy=>h4 y fun k hk=>hy k (List.mem_cons_of_mem _ hk)⟩
   ·rw [List.forIn_cons]
    simp only [hb,Bool.false_eq_true,if_false,pure_bind]
    exact h1
   ·rcases h2 y d hd with z | ⟨z1,z2⟩
    ·exact .inl z
    ·exact .inr ⟨List.mem_cons_of_mem _ z1,z2⟩
   ·rcases List.mem_cons.mp hy with z | z
    ·cases z
     exact absurd rfl hk
    ·exact h3 y z
theorem d0o{env:Env}{sc:Scope}(h:∀ y,(y,NameKind.free)∈sc.names->∃ c,env.cells.lookup y=some c) :
  ∃ cl,closureFor sc env=pure cl/\(∀ y c,cl.lookup y=some c->(y,NameKind.free)∈sc.names/\env.cells.lookup y=some c)/\(∀ y,(y,NameKind.free)∈sc.names->cl.lookup y=env.cells.lookup y):=by
 obtain⟨cl,h1,h2,h3,_⟩:=d3s (env:=env) sc.names [] h
 refine⟨cl,?_,fun y c hy=>(h2 y c hy).elim (fun z=>nomatch z) id,h3⟩
 unfold closureFor
 show (forIn sc.names [] _ >>= fun cs=>pure cs)=pure cl
 rw [bind_pure]
 exact h1
end L2
namespace L2
open PySem PySem.Spec PyProof.Rows
noncomputable def mask (x : Str) (N : List Str) : List Str := N.map fun y => if y = x then "" else y
noncomputable def a9g(X:Cx)(scope:Scope)(cl:List (Str×Addr))(C:Addr)(s₃:Shared)(H₃:Hp)(fp:List Addr)(x:Str):Cx where
 prog:=X.prog
 w:=X.w
 K:=X.K
 mg:=X.mg
 base:=X.base
 A:=X.A
 N:=x :: mask x X.N
 s₀:=s₃
 H₀:=H₃
 env:=compEnvC scope cl C X.env
 outer:=X.stack
 stack:=X.stack
 ex:=fp
 fn:=fun _=>false
 calm:=X.calm
 pn:=[]
 xe:=fun _ _=>False
def a2j(D:Addr)(H H':Hp):Prop:=∀ b o,b≠D->H b=some o->H' b=some o
theorem a2j.upd{D:Addr}{H:Hp}{o:HO}:a2j D H (upd H D o):=fun b u hb e=>by rw [a3p hb]; exact e
def f5o(J:It)(te:TE)(D:Addr)(σ:St)(H:Hp)(Q:VK)(_:Tag Q):Prop:=∃ (n:Nat) (W:Nat->List V->Hp->Prop),W 0 [] H/\∀ i ys H,i<=n->W i ys H->H D=some (.lst ys) /\
 ((J.stop i H/\Q (.ref D) H)\/(i < n/\J.go i H/\ys.length < sizeLine/\∀ x H',J.yld i H x H'->te (some x :: σ) H' fun y H2=>H2 D=some (.lst ys) /\
  ∀ H3,a2j D H2 H3->H3 D=some (.lst (ys++[y]))->W (i+1) (ys++[y]) H3))
def i7b(wi:TI)(te:TE):TE:=fun σ H Q=>wi σ H fun J H1=>∀ D H2,H1 D=none->Same H1 H2->H2 D=some (.lst [])->f5o J te D σ H2 Q ⟨⟩
theorem c3h{env:Env}{x:Str}:∀ (names:List (Str×NameKind)) (k:NameKind),(names.map fun (n,k)=>if (k == NameKind.free && env.scope.kind == .function && env.kindOf n == some .cell) then (n,NameKind.cell) else (n,k)).lookup x=some k ->
  (names.lookup x=some k)\/(k = .cell/\names.lookup x=some .free)
 | [],k,e=>by cases e
 | (n,q) :: r,k,e=>by
  rw [List.map_cons] at e
  dsimp only at e
  rw [List.lookup_cons]
  cases hx:(x == n) with
  | true =>
   by_cases hc:(q == NameKind.free && env.scope.kind == .function && env.kindOf n == some .cell)=true
   ·rw [if_pos hc,List.lookup_cons,hx] at e
    have:q = .free:=by
     simp only [Bool.and_eq_true,beq_iff_eq] at hc
     exact hc.1.1
    subst this
    cases e
    exact .inr ⟨rfl,rfl⟩
   ·rw [if_neg hc,List.lookup_cons,hx] at e
    exact .inl e
  | false =>
   have e':(r.map fun (n,k)=>if (k == NameKind.free && env.scope.kind == .function && env.kindOf n == some .cell) then (n,NameKind.cell) else (n,k)).lookup x=some k:=by
    by_cases hc:(q == NameKind.free && env.scope.kind == .function && env.kindOf n == some .cell)=true
    ·rw [if_pos hc,List.lookup_cons,hx] at e
     exact e
    ·rw [if_neg hc,List.lookup_cons,hx] at e
     exact e
   exact c3h r k e'
theorem b7i{env:Env}{sc:Scope}{x:Str}(h:(relabel sc env).names.lookup x=some .cell\/(relabel sc env).names.lookup x=some .free):(x,NameKind.free)∈sc.names\/(x,NameKind.cell)∈sc.names:=by
 rcases h with h | h
 ·rcases c3h sc.names _ h with z | ⟨_,z⟩
  ·exact .inr (PySem.mem_of_lookup z)
  ·exact .inl (PySem.mem_of_lookup z)
 ·rcases c3h sc.names _ h with z | ⟨z,_⟩
  ·exact .inl (PySem.mem_of_lookup z)
  ·cases z
structure b9y(X:Cx)(scope:Scope)(x:Str):Prop where
 kind:scope.kind = .function
 d5l:∀ y∈scope.names,y.2≠.cell
 loc:∀ y∈scope.names,y.2 = .local->scope.names.lookup y.1=some .local
 own:scope.names.lookup x=some .local
 free:∀ y∈scope.names,y.2 = .free->X.env.kindOf y.1=some .cell\/X.env.kindOf y.1=some .free
 nd:(x :: mask x X.N).Nodup
 noe : ∀ y ∈ scope.names, y.1 ≠ ""
 vis:∀ y∈mask x X.N,scope.names.lookup y≠some .local
section
variable {X:Cx}{scope:Scope}{x:Str}{cl:List (Str×Addr)}{pins:List (Addr×Obj)}{σ:St}{H:Hp}{s s₄:Shared}{fp:List Addr}
theorem Inv.comp(S:b9y X scope x)(I:Inv X pins σ H s)(hcl:∀ y c,cl.lookup y=some c->(y,NameKind.free)∈scope.names/\X.env.cells.lookup y=some c)(hcl2:∀ y,(y,NameKind.free)∈scope.names->cl.lookup y=X.env.cells.lookup y)
  (hfp:∀ b∈fp,d7u X pins H b) (hlt:∀ b∈fp,b < s.heap.objs.size) {m:Str->Option Value} (hns:s₄.heap.Ns s.heap.objs.size m) (hk:∀ b o,s.heap.get? b=some o->s₄.heap.get? b=some o) (hos:s₄.os=s.os) (hg:s₄.gens=s.gens) :
  Inv (a9g X scope cl s.heap.objs.size s H fp x) [] (none :: σ) H s₄:=by
 have below:∀ {b:Addr} {o:Obj},s.heap.get? b=some o->b≠s.heap.objs.size:=fun e=>Nat.ne_of_lt (Heap.lt_size e)
 refine⟨⟨I.ok.mod,?_,I.ok.glob,I.ok.blt,Nat.le_refl _,fun y z c h1 h2=>I.ok.inj y z c (hcl y c h1).2 (hcl z c h2).2,fun y hy=>?_,(fun y c h=>nomatch h),I.ok.hd,I.ok.frames,.inl rfl,fun b hb=>⟨Nat.ne_of_lt (hlt b hb),fun y c e=>(hfp b hb).2.2.2.2.1 y c (hcl y c e).2⟩,
  fun b o e=>I.bs b o e,Nat.le_trans I.ok.bsz I.sz,fun b o e hb=>?_,fun b hb hf=>?_,I.stack,I.g2x⟩,
  hos,by rw [hg]; exact I.bare,Un.kept hk,⟨m,hns,fun i y v h1 h2 h3=>?_⟩,fun y c e=>?_,I.hok.fresh (Nat.le_refl _),fun y c e=>I.d6u y c (hcl y c e).2,fun p hp=>absurd (show p∈([] : List (Addr×Obj)) from hp) (by simp),I.hok.kept hk,by show (none :: σ).length=(x :: mask x X.N).length; rw [List.length_cons,List.length_cons,mask,List.length_map,I.len]⟩
 ·exact S.kind
 ·rcases b7i (env:=X.env) (sc:=scope) (x:=y) hy with z | z
  ·obtain⟨c,hc⟩:=I.ok.has y (S.free _ z rfl)
   exact⟨c,(hcl2 y z).trans hc⟩
  ·exact absurd rfl (S.d5l _ z)
 ·rcases (hfp b hb).2.2.2.1 with z | z
  ·exact I.ok.i4p b o e z
  ·exact absurd (Nat.lt_of_lt_of_le (Heap.lt_size (I.ok.bs b o e).1) z) (Nat.lt_irrefl _)
 ·rcases List.mem_cons.mp (I.d7t b hf) with z | z
  ·exact (hfp b hb).2.1 z
  ·exact (hfp b hb).2.2.1 z
 ·cases i with
  | zero=>cases h2
  | succ i =>
   have h1m:(mask x X.N)[i]? = some y:=by simpa [a9g] using h1
   have h2':σ[i]? = some (some v):=by simpa using h2
   have hyN:y∈mask x X.N:=List.mem_of_getElem? h1m
   have hc:(relabel scope X.env).names.lookup y=some .cell\/(relabel scope X.env).names.lookup y=some .free:=by
    rcases h3 with z | z | z
    ·exfalso
     rcases c3h (env:=X.env) scope.names _ z with q | ⟨q,_⟩
     ·exact S.vis y hyN q
     ·cases q
    ·exact .inl z
    ·exact .inr z
   have hfr:(y,NameKind.free)∈scope.names:=by
    rcases b7i hc with z | z
    ·exact z
    ·exact absurd rfl (S.d5l _ z)
   have h1':X.N[i]? = some y:=by
    rw [mask,List.getElem?_map] at h1m
    obtain⟨z,hz,e⟩:=Option.map_eq_some_iff.mp h1m
    by_cases hzx:z=x
    ·rw [if_pos hzx] at e
     exact absurd e.symm (S.noe _ hfr)
    ·rw [if_neg hzx] at e
     rw [hz,e]
   obtain⟨mX,hnX,hl⟩:=I.loc
   have hk2:=S.free _ hfr rfl
   have j1t:Vis X.env.scope y:=by
    rcases hk2 with z | z
    ·exact .inr (.inl z)
    ·exact .inr (.inr z)
   obtain⟨u,ru,lk⟩:=hl i y v h1' h2' j1t
   refine⟨u,ru,.inr ⟨hc,?_⟩⟩
   rcases lk with ⟨z,_⟩ | ⟨_,c,ec,o,ho,hd⟩
   ·rcases hk2 with q | q
    ·rw [q] at z; cases z
    ·rw [q] at z; cases z
   ·exact⟨c,(hcl2 y hfr).trans ec,o,hk c o ho,hd⟩
 ·obtain⟨v,o,ho,hd⟩:=I.cell y c (hcl y c e).2
  exact⟨v,o,hk c o ho,hd⟩
theorem Inv.h9y{σ':St}{H':Hp}{s':Shared}{h':Heap}(I:Inv X pins σ H s)(hfp:∀ b∈fp,d7u X pins H b)(J:Inv (a9g X scope cl s.heap.objs.size s H fp x) [] σ' H' s')(hs:Heap.SameBut s.heap.objs.size s'.heap h') :
  Inv X pins σ H' { s' with heap:=h' }:=by
 have ne:∀ {b:Addr} {o:Obj},s.heap.get? b=some o->b≠s.heap.objs.size:=fun e=>Nat.ne_of_lt (Heap.lt_size e)
 have u:=J.base
 have u':Un (frs X.stack) fp H H' s.heap h':=⟨fun b o e n hb hx=>hs.extBut b o (ne e) (u.keep b o e n hb hx),fun b o e n hb hx=>(u.slot b o e n hb hx).elim fun sl q=>⟨sl,hs.extBut b _ (ne e) q⟩,u.free,
  fun b o e hx=>(u.there b o e hx).elim fun o' q=>⟨o',hs.extBut b o' (ne e) q⟩,u.tups,u.h0h,u.h0o⟩
 have nC:∀ {b:Addr} {o:HO},H' b=some o->b≠s.heap.objs.size:=fun {b o} e z=>by
  have f:H' s.heap.objs.size=none:=J.free
  rw [z,f] at e; cases e
 have ok:HOk X.prog X.w H' h':=fun b o e=>(J.hok b o e).stay (fun c v hc q=>hs.extBut c v (by
  rcases hc with z | z
  ·rw [z]; exact nC e
  ·exact nC z) q) (fun _ q=>q) fun _ _ q=>q
 exact I.call' (s':={ s' with heap:=h' }) (ch:=fp) J.os u' ok J.bare fun b hb=>⟨(hfp b hb).2.2.2.1,(hfp b hb).2.1,(hfp b hb).2.2.2.2.1,(hfp b hb).2.2.2.2.2⟩
end
end L2
namespace L2
open PySem PySem.Spec PyProof.Rows
section
variable {X:Cx}{scope:Scope}{x:Str}{pins:List (Addr×Obj)}{σ:St}{elt iter:Expr}{px pos:Pos}{wi:TI}{te:TE}
theorem f3v{s₂:Shared}{H1:Hp}{it:Addr}{fp:List Addr}{tn:Nat->Heap->Prop}{J:It}{Q:VK}{RR:Value->Addr->Result->Shared->Prop}{E:Value->Shared->Prop}{cl:List (Str×Addr)}
  (S:b9y X scope x) (hc:X.calm=true) (he:∀ cl C s₃ H₃ fp,PE (a9g X scope cl C s₃ H₃ fp x) elt te)
  (hcl:∀ y c,cl.lookup y=some c->(y,NameKind.free)∈scope.names/\X.env.cells.lookup y=some c) (hcl2:∀ y,(y,NameKind.free)∈scope.names->cl.lookup y=X.env.cells.lookup y)
  (I2:Inv X pins σ H1 s₂) (T:Turn X.prog X.w X.K (.Name x px) J fp it tn) (st2:tn 0 s₂.heap) (f2:∀ b∈fp,d7u X pins H1 b) (h:∀ D H2,H1 D=none->Same H1 H2->H2 D=some (.lst [])->f5o J te D σ H2 Q ⟨⟩)
  (hRR:∀ (D C:Addr) (s':Shared) (H':Hp),(∃ m,s'.heap.Ns C m)->(∀ h' ,Heap.SameBut C s'.heap h'->Inv X pins σ H' { s' with heap:=h' })->d7u X pins H' C->Q (.ref D) H'->RR (.ref D) C (.ok .next) s') :
  wpAny (model X.prog X.w) X.A (newList []) (fun acc s₃=>wpAny (model X.prog X.w) X.A (newFunctionEnv scope X.env.globals cl [] X.env.qual none .none (some X.env)) (fun cenv s₄ =>
   codeAny (model X.prog X.w) X.A (.compStart (.ListComp elt [⟨.Name x px,iter,[],0⟩] scope pos) 0 (.ref it) acc { cenv with scope:=relabel scope X.env }) (RR acc cenv.locals) s₄) E s₃) E s₂:=by
 have hfr:H1 s₂.heap.objs.size=none:=I2.hok.fresh (Nat.le_refl _)
 have hCW:=h s₂.heap.objs.size _ hfr (Same.upd hfr) a3j
 refine wpAny_newObj_type ?_
 have I3 : Inv X pins σ (upd H1 s₂.heap.objs.size (.lst [])) { s₂ with heap := s₂.heap.push { cls := .type "list", data := .seq ([] : List Value).toArray }, toks := s₂.toks } :=
  I2.laid (t':=s₂.toks) (fun b u e=>Heap.get?_push_of_some _ e) (Nat.le_refl _) ⟨Nat.zero_le _,[],0,.nil,Heap.get?_push_size _ rfl⟩
 have nD:∀ b∈fp,b≠s₂.heap.objs.size:=fun b hb=>by
  obtain⟨o,e,_⟩:=T.obj 0 _ st2 b hb
  exact Nat.ne_of_lt (Heap.lt_size e)
 have f3:∀ b∈fp,d7u X pins (upd H1 s₂.heap.objs.size (.lst [])) b:=fun b hb=>⟨by rw [a3p (nD b hb)]; exact (f2 b hb).1,(f2 b hb).2⟩
 generalize hH3:upd H1 s₂.heap.objs.size (.lst [])=H3 at *
 have st3 : tn 0 (s₂.heap.push { cls := .type "list", data := .seq ([] : List Value).toArray }) := T.keep _ _ _ st2 fun b _ o e => Heap.get?_push_of_some _ e
 have h2l : ∀ b ∈ fp, b < (s₂.heap.push { cls := .type "list", data := .seq ([] : List Value).toArray }).objs.size := fun b hb => by
  obtain⟨o,e,_⟩:=T.obj 0 _ st3 b hb
  exact Heap.lt_size e
 show wpAny (model X.prog X.w) X.A (newFunctionEnv scope X.env.globals cl [] X.env.qual none .none (some X.env)) _ E { s₂ with heap := s₂.heap.push { cls := .type "list", data := .seq ([] : List Value).toArray }, toks := s₂.toks }
 generalize hs3 : ({ s₂ with heap := s₂.heap.push { cls := .type "list", data := .seq ([] : List Value).toArray }, toks := s₂.toks } : Shared) = s₃ at *
 have eh : s₃.heap = s₂.heap.push { cls := .type "list", data := .seq ([] : List Value).toArray } := by rw [← hs3]
 rw [<- eh] at st3 h2l
 generalize s₂.heap.objs.size=D at *
 refine wpAny_newFunctionEnv S.d5l (by intro y hy; simp at hy) (fun h₁ hns₁ hsb₁=>?_) S.kind
 have hk1:∀ b o,s₃.heap.get? b=some o->h₁.get? b=some o:=fun b o e=>hsb₁.extBut b o (Nat.ne_of_lt (Heap.lt_size e)) (Heap.get?_push_of_some _ e)
 have J0:Inv (a9g X scope cl s₃.heap.objs.size s₃ H3 fp x) [] (none :: σ) H3 { s₃ with heap:=h₁,toks:=s₃.toks+([] : List (Str×Value)).length }:=I3.comp S hcl hcl2 f3 h2l hns₁ hk1 rfl rfl
 obtain⟨n0,W,w0,turn⟩:=hCW
 have loop:codeAny (model X.prog X.w) X.A (.compLoop (.ListComp elt [⟨.Name x px,iter,[],0⟩] scope pos) 0 (.ref it) (.ref D) (compEnvC scope cl s₃.heap.objs.size X.env)) (RR (.ref D) s₃.heap.objs.size) { s₃ with heap:=h₁,toks:=s₃.toks+([] : List (Str×Value)).length }:=by
  refine codeAny_loop rfl (fun n s'=>∃ i ys o H',Inv (a9g X scope cl s₃.heap.objs.size s₃ H3 fp x) [] (o :: σ) H' s'/\tn i s'.heap/\(∀ b∈fp,H' b=none)/\W i ys H'/\i<=n0/\n=n0 - i) (fun n s5 hI=>?_) n0
   ⟨0,[],none,H3,J0,T.keep _ _ _ st3 (fun b _ o e=>hk1 b o e),fun b hb=>(f3 b hb).1,w0,Nat.zero_le _,rfl⟩
  obtain⟨i,ys,o5,H5,I5,st5,fr5,w5,hin,hnn⟩:=hI
  have stat:∀ {H':Hp},(∀ b∈fp,H' b=none)->∀ b∈fp,d7u (a9g X scope cl s₃.heap.objs.size s₃ H3 fp x) [] H' b:=fun hn b hb =>
   ⟨hn b hb,Nat.ne_of_lt (h2l b hb),fun z=>(List.mem_cons.mp (I3.d7t b z)).elim (fun q=>(f3 b hb).2.1 q) fun q=>(f3 b hb).2.2.1 q,.inl hb,fun y c e=>(f3 b hb).2.2.2.2.1 y c (hcl y c e).2,fun p hp=>absurd (show p∈([] : List (Addr×Obj)) from hp) (by simp)⟩
  show wpAny _ X.A ((compTurn (.ListComp elt [⟨.Name x px,iter,[],0⟩] scope pos) 0 (.ref it) (.ref D) (compEnvC scope cl s₃.heap.objs.size X.env)).onRaise (fun x=>do noteFrame x (compEnvC scope cl s₃.heap.objs.size X.env); theTreesLotGoes x)) _ _ s5
  refine wpAny_noted ?_
  rw [compTurn_list1]
  refine wpAny_bind (wpAny_standAt (wpAny_bind ?_))
  obtain⟨hD5,alt⟩:=turn i ys H5 hin w5
  rcases alt with ⟨stop,q⟩ | ⟨hlt,go,hsz,step⟩
  ·refine wpAny_mono (T.done (a9g X scope cl s₃.heap.objs.size s₃ H3 fp x) rfl rfl rfl hc i [] s5 _ H5 _ I5 (stat fr5) st5 stop) (fun r s6 ⟨hr,I6⟩=>?_) fun _ _ z=>z
   subst hr
   refine wpAny_pure ?_
   obtain⟨m6,hn6,_⟩:=I6.loc
   exact hRR D s₃.heap.objs.size s6 H5 ⟨m6,hn6⟩ (fun h' hs'=>I3.h9y f3 I6 hs') (I3.h9j (Nat.le_refl _) I6.free) q
  ·refine wpAny_mono (T.item (a9g X scope cl s₃.heap.objs.size s₃ H3 fp x) rfl rfl rfl hc i [] s5 _ H5 _ I5 (stat fr5) st5 go) (fun r s6 ⟨u,hr,h6⟩=>?_) fun _ _ z=>z
   subst hr
   refine wpAny_bind (wpAny_mono h6 (fun _ s7 ⟨v,H7,I7,r7,y7,st7,fr7⟩=>?_) fun _ _ z=>z)
   have I7':=I7.pinned (stat fr7) (T.obj _ _ st7)
   have G:=a2o (X:=a9g X scope cl s₃.heap.objs.size s₃ H3 fp x) (pos:=px) (i:=0) (x:=x) S.nd rfl (.inl (lookup_relabel_local S.own)) (.inr (lookup_relabel_local S.own))
   refine wpAny_bind (wpAny_mono (G _ s7 _ H7 v u (fun σ' H'=>σ'=some v :: σ/\H'=H7) I7' r7 ⟨rfl,rfl⟩) (fun _ s8 hs8=>?_) fun _ _ z=>False.elim z)
   obtain⟨σ8,H8,I8,rfl,rfl⟩:=hs8
   refine wpAny_bind (wpAny_bind (wpAny_mono (he cl s₃.heap.objs.size s₃ H3 fp _ s8 _ _ _ I8 (step v H8 y7)) (fun yv s9 hs9=>?_) fun _ _ z=>False.elim z))
   obtain⟨y,H9,I9,r9,hD9,k9⟩:=hs9
   refine wpAny_bind (wpAny_mono (d2i (X:=a9g X scope cl s₃.heap.objs.size s₃ H3 fp x) _ s9 _ H9 (.ref D) [y] (.ref D) [yv] (fun _ H'=>H'=upd H9 D (.lst (ys++[y]))) I9 rfl (.cons r9 .nil) ⟨D,ys,y,rfl,rfl,hD9,hsz,rfl⟩) (fun _ sA hsA=>?_) fun _ _ z=>False.elim z)
   obtain⟨_,HA,IA,_,rfl⟩:=hsA
   refine wpAny_pure ?_
   have wA:=k9 _ a2j.upd a3j
   refine wpAny_pure ⟨rfl,n0 - (i+1),by omega,i+1,ys++[y],some v,_,IA.c4o (pins:=[]) (pl:=d5j fp s7.heap),T.keep _ _ _ st7 (fun b hb o e=>(IA.pin (b,o) (List.mem_append_right _ (List.mem_append_right _ (a7v hb e)))).1),fun b hb=>?_,wA,hlt,rfl⟩
   obtain⟨o,e,d⟩:=T.obj _ _ st7 b hb
   exact (IA.pin (b,o) (List.mem_append_right _ (List.mem_append_right _ (a7v hb e)))).2.1
 exact codeAny_compStart_list loop (T.self _ 0 _ _ _ (T.keep _ _ _ st3 fun b _ o e=>hk1 b o e) loop)
theorem b9z(hi:PI X (.Name x px) iter wi)(he:∀ cl C s₃ H₃ fp,PE (a9g X scope cl C s₃ H₃ fp x) elt te)(S:b9y X scope x)(hc:X.calm=true)
  (hs:∀ x,foldedSetIterable iter X.env x=pure x:=by intro _; rfl):PE X (.ListComp elt [⟨.Name x px,iter,[],0⟩] scope pos) (i7b wi te):=by
 intro pins s σ H Q I h
 obtain⟨cl,hclos,hcl,hcl2⟩:=d0o (env:=X.env) (sc:=scope) fun y hy=>I.ok.has y (S.free _ hy rfl)
 rw [eval_ListComp]
 refine wpAny_comprehension_free (use:=none) rfl hs hclos S.kind S.loc ?_
 refine thn (hi pins s σ H _ I h) fun v s1 h1=>thn h1 fun itv s2 h2=>?_
 obtain⟨it,fp,tn,J,H2,e,I2,T,st2,f2,hW⟩:=h2
 subst e
 exact f3v (RR:=fun acc C=>compPost (model X.prog X.w) X.A X.xe none (EP X pins σ Q) acc C) S hc he hcl hcl2 I2 T st2 f2 hW fun D C s' H' hm hI _ hq =>
  hm.elim fun m hn=>⟨m,hn,fun h' hs'=>⟨.ref D,H',hI h' hs',rfl,hq⟩⟩
theorem f5p{i:Nat}{y:Str}{py spos:Pos}(hN:X.N.Nodup)(hyi:X.N[i]? = some y)(hy:X.env.scope.names.lookup y=some .local)(hi:PI X (.Name x px) iter wi)(he:∀ cl C s₃ H₃ fp,PE (a9g X scope cl C s₃ H₃ fp x) elt te)(S:b9y X scope x)(hc:X.calm=true)
  (hsw:swapsWith (.ListComp elt [⟨.Name x px,iter,[],0⟩] scope pos) (some (.Name y py)) spos.line X.env=pure true:=by rfl)
  (hs:∀ x,foldedSetIterable iter X.env x=pure x:=by intro _; rfl):PS X (.Assign [.Name y py] (.ListComp elt [⟨.Name x px,iter,[],0⟩] scope pos) spos) (j0m (i7b wi te) (i1a i)):=by
 intro pins s σ H D I h
 obtain⟨cl,hclos,hcl,hcl2⟩:=d0o (env:=X.env) (sc:=scope) fun y hy=>I.ok.has y (S.free _ hy rfl)
 rw [exec_Assign_Name_used _ _ _ _ hsw]
 refine wpAny_bind (wpAny_standAt (wpAny_bind ?_))
 show wpAny _ X.A (do let _ <- comprehension (.ListComp elt [⟨.Name x px,iter,[],0⟩] scope pos) scope X.env _ (newList []) false (eval iter X.env) (some (assign (.Name y py) X.env))) _ _ s
 refine wpAny_bind (wpAny_mono (wpAny_comprehension_free (use:=some (assign (.Name y py) X.env)) (Q:=fun _ s'=>SP X pins D .next s') rfl hs hclos S.kind S.loc ?_) (fun _ s' hq=>wpAny_pure (wpAny_pure hq)) fun _ _ e=>e)
 refine thn (hi pins s σ H _ I h) fun v s1 h1=>thn h1 fun itv s2 h2=>?_
 obtain⟨it,fp,tn,J,H2,e,I2,T,st2,f2,hW⟩:=h2
 subst e
 refine f3v (Q:=fun v H'=>D.nx (σ.set i (some v)) H') (RR:=fun acc C=>compPost (model X.prog X.w) X.A X.xe (some (assign (.Name y py) X.env)) (fun _ s'=>SP X pins D .next s') acc C) S hc he hcl hcl2 I2 T st2 f2 hW fun L C s' H' hm hI hfp hq=>?_
 obtain⟨m,hn⟩:=hm
 have I':Inv X pins σ H' s':=hI s'.heap (Heap.SameBut.refl ..)
 show wpAny _ X.A (assign (.Name y py) X.env (.ref L)) _ _ s'
 refine wpAny_assign_Name (f9l (v:=.ref L) I' hN hyi (.inl hy) rfl (fun s'' I'' hsb=>?_) (.inr hy))
 obtain⟨a,hsame,ha⟩:=hsb
 have nea:C≠a:=by
  rcases ha with z | z
  ·rw [z]; exact hfp.2.1
  ·exact fun q=>hfp.2.2.2.2.1 y a z q.symm
 refine⟨m,hn.sameBut hsame nea,fun h' hs'=>⟨_,H',I''.turned (t':=s''.toks) (it:=C) (fun b o hb e=>hs'.extBut b o hb e) hfp.1 hfp.2.1 hfp.2.2.2.1 hfp.2.2.2.2.1 hfp.2.2.2.2.2,hq⟩⟩
end
theorem a9z{K:PySem.W.Frag}{a D:Addr}{xs:List V}{te:TE}{σ:St}{H:Hp}{Q:VK}(Pv:Nat->List V->Hp->Prop)(h0:Pv 0 [] H)(hsz:xs.length<=sizeLine)
  (hD:∀ i ys H,i<=xs.length->Pv i ys H->H D=some (.lst ys)/\SqL K H a xs/\ys.length=i)
  (hs:∀ i x ys H,xs[i]? = some x->Pv i ys H->te (some x :: σ) H fun y H2=>H2 D=some (.lst ys)/\∀ H3,a2j D H2 H3->H3 D=some (.lst (ys++[y]))->Pv (i+1) (ys++[y]) H3)
  (hd:∀ ys H,Pv xs.length ys H->Q (.ref D) H):f5o (Itl K a) te D σ H Q ⟨⟩:=by
 refine⟨xs.length,Pv,h0,fun i ys H hi p=>?_⟩
 obtain⟨e1,e2,e3⟩:=hD i ys H hi p
 refine⟨e1,?_⟩
 by_cases hlt:i < xs.length
 ·refine .inr ⟨hlt,⟨xs,xs[i],e2,by simp [hlt]⟩,by omega,fun x H' y=>?_⟩
  obtain⟨e,y⟩:=y
  subst e
  exact hs i x ys _ (y xs e2) p
 ·have e:i=xs.length:=by omega
  subst e
  exact .inl ⟨⟨xs,e2,Nat.le_refl _⟩,hd ys H p⟩
theorem d1h{D:Addr}{lo:Int}{n:Nat}{te:TE}{σ:St}{H:Hp}{Q:VK}(Pv:Nat->List V->Hp->Prop)(h0:Pv 0 [] H)(hsz:n<=sizeLine)
  (hD:∀ i ys H,i<=n->Pv i ys H->H D=some (.lst ys)/\ys.length=i)
  (hs:∀ i ys H,i < n->Pv i ys H->te (some (.int (lo+i)) :: σ) H fun y H2=>H2 D=some (.lst ys)/\∀ H3,a2j D H2 H3->H3 D=some (.lst (ys++[y]))->Pv (i+1) (ys++[y]) H3)
  (hd:∀ ys H,Pv n ys H->Q (.ref D) H):f5o (Itr lo n) te D σ H Q ⟨⟩:=by
 refine⟨n,Pv,h0,fun i ys H hi p=>?_⟩
 obtain⟨e1,e3⟩:=hD i ys H hi p
 refine⟨e1,?_⟩
 by_cases hlt:i < n
 ·refine .inr ⟨hlt,hlt,by omega,fun x H' y=>?_⟩
  obtain⟨e,y⟩:=y
  subst e y
  exact hs i ys _ hlt p
 ·have e:i=n:=by omega
  subst e
  exact .inl ⟨Nat.le_refl _,hd ys H p⟩
theorem Same.step{D:Addr}{H0 H H':Hp}(S:Same H0 H)(n:H0 D=none)(s:a2j D H H'):Same H0 H':=fun b o e=>s b o (a5l e n) (S b o e)
theorem h2m{K:PySem.W.Frag}{a D:Addr}{xs:List V}{te:TE}{σ:St}{H0 H:Hp}{Q:VK}(g:V->V)(n0:H0 D=none)(S:Same H0 H)(hD:H D=some (.lst []))(hS:SqL K H0 a xs)(hsz:xs.length<=sizeLine)
  (hs:∀ (i:Nat) x H' (Q':VK),xs[i]? = some x->Same H0 H'->Q' (g x) H'->te (some x :: σ) H' Q') (q:∀ H',Same H0 H'->H' D=some (.lst (xs.map g))->Q (.ref D) H'):f5o (Itl K a) te D σ H Q ⟨⟩:=by
 refine a9z (fun i ys H'=>Same H0 H'/\H' D=some (.lst ys)/\ys=(xs.take i).map g) ⟨S,hD,by simp⟩ hsz (fun i ys H' hi p=>?_) (fun i x ys H' hx p=>?_) (fun ys H' p=>?_)
 ·refine⟨p.2.1,p.1.seq hS,?_⟩
  rw [p.2.2,List.length_map,List.length_take]
  omega
 ·refine hs i x H' _ hx p.1 ⟨p.2.1,fun H3 s3 h3=>⟨p.1.step n0 s3,h3,?_⟩⟩
  have hi:i < xs.length:=(List.getElem?_eq_some_iff.mp hx).1
  rw [p.2.2,List.take_add_one,hx,List.map_append]
  rfl
 ·refine q H' p.1 ?_
  rw [p.2.1,p.2.2,List.take_length]
theorem d3t{D:Addr}{lo:Int}{n:Nat}{te:TE}{σ:St}{H0 H:Hp}{Q:VK}(g:Nat->V)(n0:H0 D=none)(S:Same H0 H)(hD:H D=some (.lst []))(hsz:n<=sizeLine)
  (hs:∀ (i:Nat) H' (Q':VK),i < n->Same H0 H'->Q' (g i) H'->te (some (.int (lo+i)) :: σ) H' Q') (q:∀ H',Same H0 H'->H' D=some (.lst ((List.range n).map g))->Q (.ref D) H'):f5o (Itr lo n) te D σ H Q ⟨⟩:=by
 refine d1h (fun i ys H'=>Same H0 H'/\H' D=some (.lst ys)/\ys=(List.range i).map g) ⟨S,hD,by simp⟩ hsz (fun i ys H' hi p=>?_) (fun i ys H' hx p=>?_) (fun ys H' p=>?_)
 ·refine⟨p.2.1,?_⟩
  rw [p.2.2,List.length_map,List.length_range]
 ·refine hs i H' _ hx p.1 ⟨p.2.1,fun H3 s3 h3=>⟨p.1.step n0 s3,h3,?_⟩⟩
  rw [p.2.2,List.range_succ,List.map_append]
  rfl
 ·refine q H' p.1 ?_
  rw [p.2.1,p.2.2]
noncomputable def h9z(sc scope:Scope)(x:Str)(N:List Str):Bool :=
 (scope.kind == .function) && scope.names.all (fun y=>y.2 != .cell) && scope.names.all (fun y=>y.2 != .local || scope.names.lookup y.1 == some .local) && (scope.names.lookup x == some .local) &&
 scope.names.all (fun y => y.2 != .free || (sc.names.lookup y.1 == some .cell || sc.names.lookup y.1 == some .free)) && decide ((x :: mask x N).Nodup) && scope.names.all (fun y => y.1 != "") && (mask x N).all (fun y => scope.names.lookup y != some .local)
theorem c7u{X:Cx}{sc scope:Scope}{x:Str}{N:List Str}(hsc:X.env.scope=sc)(hN:X.N=N)(h:h9z sc scope x N=true):b9y X scope x:=by
 subst hN hsc
 unfold h9z at h
 simp only [Bool.and_eq_true,List.all_eq_true,beq_iff_eq,Bool.or_eq_true,bne_iff_ne,ne_eq,decide_eq_true_eq] at h
 obtain⟨⟨⟨⟨⟨⟨⟨h1,h2⟩,h3⟩,h4⟩,h5⟩,h6⟩,h7⟩,h8⟩:=h
 exact⟨h1,h2,fun y hy e=>(h3 y hy).resolve_left fun z=>z e,h4,fun y hy e=>(h5 y hy).resolve_left fun z=>z e,h6,h7,h8⟩
end L2
namespace L2
open PySem PySem.Spec PyProof.Rows
noncomputable def j1u:V->Hp->Bool:=fun x H=>match x with
 | .ref l=>(match H l with
  | some (.lst _)=>true
  | _=>false)
 | _=>false
noncomputable def i7c:V->Hp->Bool:=fun x _=>match x with
 | .str _=>true
 | _=>false
theorem b7j {K : PySem.W.Frag} : ∀ x H, j1u x H = true → tyV K "list" x H := fun x H h => by
 cases x with
 | ref l =>
  have h':(match H l with
   | some (.lst _)=>true
   | _=>false)=true:=h
  split at h'
  ·rename_i xs e
   exact .inl ⟨rfl,xs,SqL.of e⟩
  ·cases h'
 | _=>cases h
theorem d2n {K : PySem.W.Frag} : ∀ x H, i7c x H = true → tyV K "str" x H := fun x H h => by
 cases x with
 | str z=>exact rfl
 | _=>cases h
def tBMF(chk:V->Hp->Bool)(r:V->List V->Hp->VK->Prop)(to:TE)(t:TA):TE:=fun σ H Q=>to σ H fun x H1=>chk x H1=true/\t σ H1 fun xs H2=>r x xs H2 Q
section
variable {X:Cx}{o e:Expr}{es:List Expr}{to:TE}{t:TA}{name:Str}{apos cpos:Pos}{T id:String}{r r':V->List V->Hp->VK->Prop}{chk:V->Hp->Bool}
theorem MtR.weak(h:MtR X id r)(q:∀ x xs H Q,r' x xs H Q->r x xs H Q):MtR X id r':=fun pins s σ H x xs v us Q I rx rs hr=>h pins s σ H x xs v us Q I rx rs (q x xs H Q hr)
theorem c3i (hchk : ∀ x H, chk x H = true → tyV X.K T x H) (pa : PlainAttrs T) (slot : Slot T name id) (hty : typeOf (.builtin id) = pure (.type "method_descriptor")) (hm : MtR X id r) (ho : PE X o to) (ha : PA X (e :: es) t)
  (hbase:attributeBase o name X.env (eval o X.env)=eval o X.env:=by rfl)
  (hfew:((backTo cpos (starEach (e :: es) X.env)).all (fun x=>!x.1) && (backToKw cpos (keywordEach [] X.env)).all (fun x=>x.1.isSome)
   && decide ((e :: es).length+([] : List Keyword).length+(if ([] : List Keyword).isEmpty then 0 else 1) < 30))=true:=by rfl)
  (hline:(apos.endLine == cpos.line)=true:=by rfl) (hs:starEach (e :: es) X.env=(false,eval e X.env) :: starEach es X.env:=by rfl) (hplain:(backTo cpos (starEach es X.env)).any (·.1)=false:=by rfl) :
  PE X (.Call (.Attribute o name apos) (e :: es) [] cpos) (tBMF chk r to t):=by
 intro pins s σ H Q I h
 refine wpAny_Call_method_late hbase hfew hline rfl (thn (ho pins s σ H _ I h) fun v s1 ⟨x,H1,I1,r1,ty,q1⟩=>?_)
 obtain⟨h1,h2⟩:=h1s I1 r1 (hchk x H1 ty)
 refine⟨T,id,pa,slot,hty,h1,h2,?_⟩
 have hA:=ha cpos pins s1 σ H1 _ I1 q1
 rw [hs] at hA ⊢
 refine Calls.callWith_builtin (by show (false || (backTo cpos (starEach es X.env)).any (·.1))=false; rw [hplain] <;> rfl) (Calls.evalArgs_plain ?_)
 exact thn hA fun us s2 ⟨vs,H2,I2,r2,q2⟩=>hm pins s2 σ H2 x vs v us Q I2 r1 r2 q2
noncomputable def j1v:V->List V->Hp->VK->Prop:=fun x vs H Q=>match x,vs with
 | .ref l,[y]=>(match H l with
  | some (.lst xs)=>xs.length < sizeLine/\All (fun v H1=>v = .non/\a2j l H H1/\H1 l=some (.lst (xs++[y]))) Q ⟨⟩ ⟨⟩
  | _=>False)
 | _,_=>False
theorem b0g : MtR X "list.append" j1v := MtR.weak (r := h1u) d2i fun x vs H Q h => by
 match x,vs,h with
 | .ref l,[y],h =>
  have h':(match H l with
   | some (.lst xs)=>xs.length < sizeLine/\All (fun v H1=>v = .non/\a2j l H H1/\H1 l=some (.lst (xs++[y]))) Q ⟨⟩ ⟨⟩
   | _=>False):=h
  split at h'
  ·rename_i xs e
   exact⟨l,xs,y,rfl,rfl,e,h'.1,h'.2 _ _ ⟨rfl,a2j.upd,a3j⟩⟩
  ·exact h'.elim
end
noncomputable def f2k{α:Type}(xs:List α)(lo hi:Option Int):List α:=(xs.drop (HT.sIx xs.length 0 lo)).take (HT.sIx xs.length xs.length hi - HT.sIx xs.length 0 lo)
theorem d7n{α β:Type}(f:α->β)(xs:List α)(lo hi:Option Int):f2k (xs.map f) lo hi=(f2k xs lo hi).map f:=by
 unfold f2k
 rw [List.length_map,List.map_take,List.map_drop]
theorem c3j(ns:List Int)(lo hi:Option Int):f5k (ns.map V.int) lo hi=(f2k ns lo hi).map V.int:=d7n V.int ns lo hi
theorem h7k{α:Type}{xs:List α}{lo hi:Option Int}{x:α}(h:x∈f2k xs lo hi):x∈xs:=List.mem_of_mem_drop (List.mem_of_mem_take h)
theorem h7l{α:Type}(xs:List α)(lo hi:Option Int):(f2k xs lo hi).length<=xs.length:=by
 unfold f2k
 rw [List.length_take,List.length_drop]
 omega
theorem a9k{α:Type}(xs:List α)(a:Nat):f2k xs (some (a:Int)) none=xs.drop a:=by
 unfold f2k
 rw [HT.f5j,HT.g6p]
 by_cases h:a<=xs.length
 ·rw [Nat.min_eq_left h,List.take_of_length_le (by rw [List.length_drop] <;> exact Nat.le_refl _)]
 ·rw [Nat.min_eq_right (by omega),List.drop_length,List.drop_of_length_le (by omega)]
  simp
theorem h2n{α:Type}(xs:List α)(a l:Nat):f2k xs (some (a:Int)) (some ((a:Int)+(l:Int)))=(xs.drop a).take l:=by
 unfold f2k
 rw [show ((a:Int)+(l:Int))=((a+l:Nat):Int) by omega,HT.f5j,HT.f5j]
 by_cases h:a<=xs.length
 ·rw [Nat.min_eq_left h]
  by_cases h2:a+l<=xs.length
  ·rw [Nat.min_eq_left h2,Nat.add_sub_cancel_left]
  ·rw [Nat.min_eq_right (by omega),List.take_of_length_le (by rw [List.length_drop]; exact Nat.le_refl _),List.take_of_length_le (by rw [List.length_drop]; omega)]
 ·have e1:min a xs.length=xs.length:=Nat.min_eq_right (by omega)
  have e2:min (a+l) xs.length=xs.length:=Nat.min_eq_right (by omega)
  rw [e1,e2,List.drop_length,List.drop_of_length_le (show xs.length<=a by omega)]
  simp
theorem c3k{α:Type}(xs:List α)(a:Nat):f2k xs none (some (a:Int))=xs.take a:=by
 unfold f2k
 rw [HT.f5j,HT.g6p,List.drop_zero,Nat.sub_zero]
 by_cases h:a<=xs.length
 ·rw [Nat.min_eq_left h]
 ·rw [Nat.min_eq_right (by omega),List.take_length,List.take_of_length_le (by omega)]
end L2
namespace L2
theorem b7u(F:Nat->St->Hp->Prop):∃ Pv:Nat->St->Hp->Prop,(∀ i σ H,F i σ H->Pv i σ H)/\∀ i σ H,Pv i σ H->F i σ H:=⟨F,fun _ _ _ h=>h,fun _ _ _ h=>h⟩
theorem g6v(F:St->Hp->Prop):∃ Pv:St->Hp->Prop,(∀ σ H,F σ H->Pv σ H)/\∀ σ H,Pv σ H->F σ H:=⟨F,fun _ _ h=>h,fun _ _ h=>h⟩
end L2
namespace L2
open PySem PySem.Spec PyProof.Rows
open PySem.Builtin.Int (intBits)
section
variable {X:Cx}
noncomputable def rSumF:List V->Hp->VK->Prop:=fun xs H Q=>match xs with
 | [.ref p]=>(match H p with
  | some (.lst ys)=>∃ ns:List Int,ys=ns.map V.int/\Q (.int ns.sum) H
  | _=>False)
 | _=>False
end
def Stop(p:Prop)(_:Tag p):Prop:=p
theorem Stop.go{p:Prop}{t:Tag p}(h:p):Stop p t:=h
def j4m(t u:TS):TS:=fun D σ H=>t { D with nx:=fun σ' H'=>Stop (u D σ' H') ⟨⟩ } σ H
def Hs(H:Hp)(fs:List (Addr×HO)):Prop:=(fs.map (·.1)).Nodup/\∀ p∈fs,H p.1=some p.2
theorem Hs.nil{H:Hp}:Hs H []:=⟨List.nodup_nil,fun _ h=>nomatch h⟩
theorem g0f{ns:List Int}{i:Nat}(h:i < ns.length):atI (ns.map V.int) (i:Int)=some (.int (ns.getD i 0)):=by
 refine b1t ?_
 rw [List.getElem?_map,List.getElem?_eq_getElem h,List.getD_eq_getElem?_getD,List.getElem?_eq_getElem h]
 rfl
def j4n(H:Hp)(cs:List Addr)(bs:List (List Int)):Prop:=cs.length=bs.length/\∀ (i:Nat) c b,cs[i]? = some c->bs[i]? = some b->H c=some (.lst (b.map V.int))
theorem j4n.two{H:Hp}{a b:Addr}{x y:List Int}(ha:H a=some (.lst (x.map V.int)))(hb:H b=some (.lst (y.map V.int))):j4n H [a,b] [x,y]:=by
 refine⟨rfl,fun i c d e1 e2=>?_⟩
 match i,e1,e2 with
 | 0,e1,e2=>cases e1; cases e2; exact ha
 | 1,e1,e2=>cases e1; cases e2; exact hb
 | i+2,e1,e2=>simp at e1
def d2o(H:Hp)(xs:List V)(v:V)(H':Hp):Prop:=∃ b,v = .ref b/\H b=none/\Same H H'/\H' b=some (.lst xs)
def f3w(H:Hp)(xs:List V)(v:V)(H':Hp):Prop:=∃ b,v = .ref b/\H b=none/\Same H H'/\H' b=some (.tup xs)
noncomputable def i0a(q:Rat):List V:=[.int q.num,.int (q.den:Nat)]
theorem f5q(n:Nat)(x:Int):(List.replicate n [V.int x]).flatten=(List.replicate n x).map V.int:=by
 induction n with
 | zero=>rfl
 | succ n ih=>rw [List.replicate_succ,List.flatten_cons,ih,List.replicate_succ,List.map_cons]; rfl
end L2
namespace L2
open PySem PySem.Spec PyProof.Rows
noncomputable def CXE(P:Program)(w:World):CXT:=fun outer H s E e s'=>∃ (a:Addr) (C a0:Value) (B:Heap) (H':Hp),e = .ref a/\Heap.FlyingW B outer a C a0 s'.heap/\s'.os=s.os/\AllBare s'.gens /\
 (∀ h',B.StaysIn h'->s'.heap.UpToSlots h'->Un (frs outer) [] H H' s.heap h'/\HOk P w H' h')/\H' a=none/\s.heap.get? a=none/\E C none H'
section
variable {X:Cx}{pins:List (Addr×Obj)}{σ:St}{H:Hp}{s:Shared}
theorem Inv.track{a:Addr}{o:HO}(I:Inv X pins σ H s)(h1:X.s₀.heap.get? a=none)(h2:a≠X.env.locals)(h3:∀ x c,X.env.cells.lookup x=some c->c≠a)(h4:∀ p∈X.pn++pins,p.1≠a)(hH:H a=none)
  (new:b4w X.prog X.w (upd H a o) s.heap a o):Inv X pins σ (upd H a o) s:=by
 refine⟨I.ok,I.os,I.bare,⟨I.base.keep,I.base.slot,fun b u q n hx=>?_,I.base.there,fun b xs q=>?_,fun b u xs q=>?_,fun b ps q=>?_⟩,I.loc,I.cell,?_,fun x c e=>?_,fun p hp=>?_,fun b u e=>?_,I.len⟩
 ·rw [a3p (fun z=>by rw [z,h1] at q; cases q)]
  exact I.base.free b u q n hx
 ·have z:=I.base.tups b xs q
  rw [a3p (a5l z hH)]
  exact z
 ·have z:=I.base.h0h b u xs q
  rw [a3p (a5l z hH)]
  exact z
 ·obtain⟨m,z⟩:=I.base.h0o b ps q
  exact⟨m,by rw [a3p (a5l z hH)]; exact z⟩
 ·rw [a3p h2.symm]
  exact I.free
 ·rw [a3p (h3 x c e)]
  exact I.d6u x c e
 ·obtain⟨e,n,ne,nf,d⟩:=I.pin p hp
  exact⟨e,by rw [a3p (h4 p hp)]; exact n,ne,nf,d⟩
 ·by_cases hb:b=a
  ·subst hb
   rw [a3j] at e
   cases e
   exact new
  ·rw [a3p hb] at e
   exact (I.hok b u e).stay (fun _ _ _ q=>q) (fun c q=>by rw [a3p (a5l q hH)]; exact q) fun c xs q=>by rw [a3p (a5l q hH)]; exact q
end
section
variable {P:Program}{w:World}{K:PySem.W.Frag}{mg:Str->Option Value}{base:Heap}{N:List Str}{qual:Str}{scope:Scope}{f:Addr}{cd:Value}{A:Around}{outer:List Env}{s:Shared}{H:Hp}{E:XK}
end
noncomputable abbrev vE : List Value := [.type "ValueError", .type "Exception", .type "BaseException", .type "object"]
structure Exc(K:PySem.W.Frag)(C:Addr):Prop where
 ok : PySem.W.excIn K C vE "ValueError.__new__" = true
section
variable {X:Cx}{e₀:Expr}{rest:List Expr}{t:TA}{x:Str}{C:Addr}{E:XK}{np cpos pos:Pos}
def j4o(C:Addr)(E:XK)(t:TA):TS:=fun _ σ H=>t σ H fun vs H1=>vs.length<=sizeLine/\E (.ref C) none H1
end
structure ExcQ(K:PySem.W.Frag)(C:Addr):Prop where
 ga : PySem.W.findIn K (.ref C) "__getattribute__" = some (some (.builtin "BaseException.__getattribute__"))
 cl : PySem.W.findIn K (.ref C) "__class__" = some (some (.builtin "object.__class__"))
 ng : PySem.W.findIn K (.ref C) "__getattr__" = some none
 so : PySem.W.subIn K (.ref C) (.type "object") = some true
 sb : PySem.W.subIn K (.ref C) (.type "BaseException") = some true
 ty : PySem.W.typeIn K (.ref C) = some (.type "type")
 ic:PySem.W.isClsIn K C=true
 ss:PySem.W.subIn K (.ref C) (.ref C)=some true
section
variable {prog:Program}{w:World}{A:Around}{E:Value->Shared->Prop}{h:Heap}{g:Array GenState}{d:Drawn}{t:Nat}{os:OsState}{a C:Addr}{o:Obj}{K:PySem.W.Frag}
end
noncomputable def excO(a:Addr)(C:Value):HO:=.ext fun h=>∃ o,h.get? a=some o/\o.cls=C
section
variable {X:Cx}
end
def XPo(X:Cx)(pins:List (Addr×Obj))(σ:St)(E:XK)(e:Value)(s':Shared):Prop:=∃ H1 s1,Inv X pins σ H1 s1/\CXE X.prog X.w X.stack H1 s1 E e s'
def PEX(X:Cx)(e:Expr)(t:TE)(E:XK):Prop :=
 ∀ (pins:List (Addr×Obj)) (s:Shared) (σ:St) (H:Hp) (Q:VK),Inv X pins σ H s->t σ H Q->wpAny (model X.prog X.w) X.A (eval e X.env) (EP X pins σ Q) (XPo X pins σ E) s
def PSX(X:Cx)(st:Stmt)(t:TS)(E:XK):Prop :=
 ∀ (pins:List (Addr×Obj)) (s:Shared) (σ:St) (H:Hp) (D:Ends),Inv X pins σ H s->t D σ H->wpAny (model X.prog X.w) X.A (exec st X.env) (SP X pins D) (XPo X pins σ E) s
section
variable {X:Cx}{k:Nat}{f C:Addr}{fd:FuncData}{ps:List Str}{sp:Sp}{dvs:List V}{ds:List Value}{E:XK}{x m:Str}{p pos apos:Pos}{e o:Expr}{es:List Expr}{ta:TE}{t:TA}
end
section
variable {X:Cx}{pins:List (Addr×Obj)}{σ:St}{H:Hp}{s:Shared}
end
def hAs(K:PySem.W.Frag)(D:Addr)(i:Nat)(th:TS)(Dn:Ends)(σ:St):XK:=fun C _ H'=>∃ c,C = .ref c/\PySem.W.subIn K (.ref c) (.ref D)=some true /\
 ∀ e H2,H' e=none->Same H' H2->H2 e=some (excO e (.ref c))->th { nx:=fun σ2 H3=>Dn.nx (σ2.set i none) H3,rt:=Dn.rt,bk:=fun σ2 H3=>Dn.bk (σ2.set i none) H3,ct:=fun σ2 H3=>Dn.ct (σ2.set i none) H3 } (σ.set i (some (.ref e))) H2
def j4p(K:PySem.W.Frag)(D:Addr)(i:Nat)(tb:XK->TS)(th:TS):TS:=fun Dn σ H=>tb (hAs K D i th Dn σ) Dn σ H
section
variable {X:Cx}{D:Addr}{dn n:Str}{i:Nat}{st b₀:Stmt}{suite:List Stmt}{tb:XK->TS}{th:TS}{np hpos pos:Pos}
end
def i7d:TE:=fun _ H Q=>New H (.dK []) Q ⟨⟩
theorem d0p{X:Cx}{pos:Pos}:PE X (.Dict [] [] pos) i7d:=PE.weak h7f fun _ _ _ h=>h.raw
end L2
namespace L2
open PySem PySem.Spec PyProof.Rows
section
variable {X:Cx}{tg:Expr}
noncomputable def j1w(g:Str->Str->V):V->List V->Hp->VK->Prop:=fun x vs H Q=>match x,vs with
 | .str z,[.str y]=>Q (g z y) H
 | _,_=>False
theorem d2p : MtR X "str.startswith" (j1w fun z y => .bl (Txt.startswith z y)) := by
 intro pins s σ H x xs v us Q I rx rs h
 match x,xs,h with
 | .str z,[.str y],q =>
  obtain⟨t,rfl⟩:=rx
  obtain⟨u,rfl,t',rfl⟩:=vals1 rs
  exact call_gives F.slot_str_startswith (typeIs_str _ _ _) F.entry_str_startswith (F.args_str_startswith_2 _ _) (gives_str_startswith z y t t') ⟨.bl (Txt.startswith z y),H,I,rfl,q⟩
noncomputable def Its(x:Str):It:=⟨fun i _=>i < x.cps.size,fun i H v H'=>H'=H/\∃ c,x.cps[i]? = some c/\v = .str ⟨#[c]⟩,fun i _=>i=x.cps.size⟩
theorem h7m {P : Program} {w : World} {K : PySem.W.Frag} (it : Addr) (x : Str) (t : Tok) {n : String} (hn : ["enumerate", "zip", "dict_itemiterator", "dict_reverseitemiterator", "odict_iterator", "itertools.zip_longest", "itertools.pairwise"].contains n = false)
  (W:∀ A':Around,A'.handled=none->Walks P w A' it [it] [it] x.cps.size (SignAt x) (fun i h=>h.IsStrIter it n x t i))
  (S:∀ (A:Around) (i:Nat) (s:Shared) (Q:Value->Shared->Prop) (E:Value->Shared->Prop),s.heap.IsStrIter it n x t i->Q (.ref it) s->wpAny (model P w) A (pyIter (.ref it)) Q E s):Turn P w K tg (Its x) [it] it (fun i h=>h.IsStrIter it n x t i) where
 mem:=by simp
 obj:=fun i h st b hb=>by
  have e:b=it:=by simpa using hb
  subst e
  obtain⟨o,e,c,d⟩:=st
  exact⟨o,e,fun v z=>by rw [d] at z; cases z⟩
 keep:=fun i h h' st k=>let ⟨o,ho,r⟩:=st; ⟨o,k it (by simp) o ho,r⟩
 item:=by
  intro X hP hw hK hc i pins s σ H E I hf st hg
  subst hP hw hK
  obtain⟨f0,f1,f2,f3,f4,f5⟩:=hf it (by simp)
  refine (W _ (I.ok.hd hc)).item i s _ _ hg st fun v h' tk hv st' kk=>?_
  obtain⟨c,u,hc',rfl⟩:=hv
  have I1:Inv X pins σ H { s with heap:=h',toks:=tk }:=I.turned (fun b o hb e=>kk b o (by simpa using hb) e) f0 f1 f3 f4 f5
  obtain⟨o,e1,c1,d1⟩:=id st'
  exact⟨_,rfl,i1b (s:={ s with heap:=h',toks:=tk }) e1 c1 d1 hn ⟨.str ⟨#[c]⟩,H,I1,⟨u,rfl⟩,⟨rfl,c,hc',rfl⟩,st',fun b hb=>(hf b hb).1⟩⟩
 done:=by
  intro X hP hw hK hc i pins s σ H E I hf st hg
  subst hP hw hK
  obtain⟨f0,f1,f2,f3,f4,f5⟩:=hf it (by simp)
  have hi:i=x.cps.size:=hg
  subst hi
  exact (W _ (I.ok.hd hc)).done s _ _ st fun h' tk kk=>⟨rfl,I.turned (t':=tk) (fun b o hb e=>kk b o (by simpa using hb) e) f0 f1 f3 f4 f5⟩
 self:=S
def iStr(tl:TE):TI:=fun σ H R=>tl σ H fun x H1=>match x with
 | .str z=>R (Its z) H1
 | _=>False
theorem i0b{l:Expr}{tl:TE}(hl:PE X l tl):PI X tg l (iStr tl):=by
 intro pins s σ H R I h
 refine thn (hl pins s σ H _ I h) fun v s1 ⟨x,H1,I1,r1,q1⟩=>?_
 cases x with
 | str z =>
  obtain⟨t,rfl⟩:=r1
  have fin : ∀ (o : Obj) (n : String), ["enumerate", "zip", "dict_itemiterator", "dict_reverseitemiterator", "odict_iterator", "itertools.zip_longest", "itertools.pairwise"].contains n = false → (s1.heap.push o).IsStrIter s1.heap.objs.size n z t 0 →
    (∀ A':Around,A'.handled=none->Walks X.prog X.w A' s1.heap.objs.size [s1.heap.objs.size] [s1.heap.objs.size] z.cps.size (SignAt z) (fun i h=>h.IsStrIter s1.heap.objs.size n z t i)) ->
    (∀ (A:Around) (i:Nat) (s:Shared) (Q:Value->Shared->Prop) (E:Value->Shared->Prop),s.heap.IsStrIter s1.heap.objs.size n z t i->Q (.ref s1.heap.objs.size) s->wpAny (model X.prog X.w) A (pyIter (.ref s1.heap.objs.size)) Q E s) ->
    PIE X pins σ tg R (.ref s1.heap.objs.size) { s1 with heap:=s1.heap.push o }:=fun o n hn st W S=>by
   refine⟨s1.heap.objs.size,[s1.heap.objs.size],_,_,H1,rfl,I1.kept (t':=s1.toks) fun b o e=>Heap.get?_push_of_some _ e,h7m _ z t hn W S,st,fun b hb=>?_,q1⟩
   have e:b=s1.heap.objs.size:=by simpa using hb
   subst e
   exact I1.h9j (Nat.le_refl _) (I1.hok.fresh (Nat.le_refl _))
  cases ha:z.cps.all (· < 128)
  ·exact wpAny_pyIter_wide ha (fin _ "str_iterator" (by decide) ⟨_, Heap.get?_push_size _ rfl, rfl, rfl⟩ (fun A' hA => Walks.strWide hA _ z t) fun _ _ _ _ _ st hQ => wpAny_pyIter_striter_wide st hQ)
  ·exact wpAny_pyIter_ascii ha (fin _ "str_ascii_iterator" (by decide) ⟨_, Heap.get?_push_size _ rfl, rfl, rfl⟩ (fun A' hA => Walks.strAscii hA _ z t) fun _ _ _ _ _ st hQ => wpAny_pyIter_striter_ascii st hQ)
 | _=>exact False.elim q1
theorem h7n{x:Str}{g:TG}{tb:TS}{D:Ends}{σ:St}{H:Hp}(Pv:Nat->St->Hp->Prop)(h0:Pv 0 σ H)
  (hs:∀ i c σ H,x.cps[i]? = some c->Pv i σ H->g (.str ⟨#[c]⟩) σ H fun σ2 H2=>tb { D with nx:=Pv (i+1),ct:=Pv (i+1),bk:=D.nx } σ2 H2) (hd:∀ σ H,Pv x.cps.size σ H->D.nx σ H):i6r (Its x) g tb D σ H:=by
 refine⟨fun i m σ H=>m=x.cps.size - i/\i<=x.cps.size/\Pv i σ H,⟨x.cps.size,by simp,Nat.zero_le _,h0⟩,?_⟩
 rintro i m σ H ⟨rfl,hi,p⟩
 by_cases hlt:i < x.cps.size
 ·refine .inr ⟨hlt,Pv (i+1),fun σ' H' p'=>⟨x.cps.size - (i+1),by omega,rfl,hlt,p'⟩,fun v H' y=>?_⟩
  obtain⟨e,c,hc,e2⟩:=y
  subst e e2
  exact hs i c σ _ hc p
 ·have e:i=x.cps.size:=by omega
  subst e
  exact .inl ⟨rfl,hd σ H p⟩
noncomputable def rSlA:V->Option Int->Option Int->Hp->VK->Prop:=fun x lo hi H Q=>match x with
 | .ref a=>(match H a with
  | some (.lst xs)=>New H (.lst (f5k xs lo hi)) Q ⟨⟩
  | _=>False)
 | .str z=>z.length<=sizeLine/\Q (.str (Txt.slice z lo hi)) H
 | _=>False
theorem g0g:SlR X rSlA:=by
 intro pins s σ H x v vl vu lo hi sl Q I rx hs pl pu h
 cases x with
 | ref a=>exact sl_M pins s σ H _ v vl vu lo hi sl Q I rx hs pl pu h
 | str z =>
  obtain⟨t,rfl⟩:=rx
  obtain⟨hz,q⟩:=h
  have fin:∀ t' k,EP X pins σ Q (.str (Txt.slice z lo hi) t') { s with toks:=k }:=fun t' k=>⟨.str _,H,I.tok k,⟨_,rfl⟩,q⟩
  refine ⟨"str", _, F.slot_str_getitem.lookup, typeIs_str _ _ _, ?_⟩
  cases pl with
  | none =>
   cases pu with
   | none=>exact wpAny_getItem_str_slice (l:=none) (u:=none) (st:=none) hs rfl (post_val_or_str ⟨Nat.le_trans (Txt.slice_le z _ _) hz,fin⟩)
   | int j uj=>exact wpAny_getItem_str_slice (l:=none) (u:=some (j,uj)) (st:=none) hs rfl (post_val_or_str ⟨Nat.le_trans (Txt.slice_le z _ _) hz,fin⟩)
  | int i ui =>
   cases pu with
   | none=>exact wpAny_getItem_str_slice (l:=some (i,ui)) (u:=none) (st:=none) hs rfl (post_val_or_str ⟨Nat.le_trans (Txt.slice_le z _ _) hz,fin⟩)
   | int j uj=>exact wpAny_getItem_str_slice (l:=some (i,ui)) (u:=some (j,uj)) (st:=none) hs rfl (post_val_or_str ⟨Nat.le_trans (Txt.slice_le z _ _) hz,fin⟩)
 | _=>exact False.elim h
noncomputable def j1x:List V->Hp->VK->Prop:=fun xs H Q=>match xs with
 | [.int i]=>Q (.int i) H
 | [.bl k]=>Q (.int (if k then 1 else 0)) H
 | [.str z]=>∃ n,PySem.intText? z=some n/\z.length<=640/\Q (.int n) H
 | _=>False
theorem d2q : b3v X (.type "int") j1x := by
 intro pins s σ H xs us Q I r h
 match xs,r,h with
 | [.int i],r,q=>exact f9m pins s σ H _ us Q I r (.inl ⟨i,rfl,q⟩)
 | [.bl k],r,q=>exact f9m pins s σ H _ us Q I r (.inr ⟨k,rfl,q⟩)
 | [.str z],r,⟨n,hn,hl,q⟩ =>
  obtain⟨u,rfl,t,rfl⟩:=vals1 r
  exact PySem.W.KIN.call_text hn hl ⟨.int n,H,I.tok _,⟨_,rfl⟩,q⟩
noncomputable def j1y:List V->Hp->VK->Prop:=fun xs H Q=>match xs with
 | [.int i]=>i.natAbs.log2 < 1920/\Q (.str (toString i)) H
 | _=>False
theorem c3l : b3v X (.type "str") j1y := f9n.weak fun xs H Q h => by
 match xs,h with
 | [.int i],⟨a,b⟩=>exact⟨i,rfl,a,b⟩
def tFmt(te:TE):TE:=fun σ H Q=>te σ H fun x H1=>match x with
 | .int i=>i.natAbs.log2 < 1920/\Q (.str (toString i)) H1
 | .str y=>y.length<=sizeLine/\Q (.str y) H1
 | _=>False
theorem c7v{e:Expr}{te:TE}{pos:Pos}(he:PE X e te):PE X (.FormattedValue e (-1) none pos) (tFmt te):=by
 intro pins s σ H Q I h
 refine wpAny_FormattedValue_plain (thn (he pins s σ H _ I h) fun v s1 ⟨x,H1,I1,r1,q1⟩=>?_)
 cases x with
 | int i =>
  obtain⟨t,rfl⟩:=r1
  exact wpAny_formatField_int q1.1 ⟨.str (toString i),H1,I1.tok _,⟨_,rfl⟩,q1.2⟩
 | str y =>
  obtain⟨t,rfl⟩:=r1
  exact wpAny_formatField_str (hx:=q1.1) ⟨.str y,H1,I1,⟨_,rfl⟩,q1.2⟩ ⟨.str y,H1,I1.tok _,⟨_,rfl⟩,q1.2⟩
 | _=>exact False.elim q1
noncomputable abbrev TJ:=Str->St->Hp->(Str->Hp->Prop)->Prop
def PJ(X:Cx)(es:List Expr)(t:TJ):Prop:=∀ (pins:List (Addr×Obj)) (acc:Str) (s:Shared) (σ:St) (H:Hp) (Q:Str->Hp->Prop) (Q':Str->Shared->Prop),Inv X pins σ H s->t acc σ H Q->(∀ out H1 s1,Inv X pins σ H1 s1->Q out H1->Q' out s1) ->
 Joins (model X.prog X.w) X.A X.xe (evalEach es X.env) acc Q' s
noncomputable def j1z:TJ:=fun acc _ H Q=>Q acc H
def i7e(te:TE)(tr:TJ):TJ:=fun acc σ H Q=>te σ H fun x H1=>match x with
 | .str y=>acc.length+y.length<=sizeLine/\tr (acc++y) σ H1 Q
 | _=>False
theorem f3y:PJ X [] j1z:=fun pins acc s σ H Q Q' I h k=>k acc H s I h
theorem a6o{e:Expr}{es:List Expr}{te:TE}{tr:TJ}(he:PE X e te)(hr:PJ X es tr)(hs:evalEach (e :: es) X.env=eval e X.env :: evalEach es X.env:=by rfl):PJ X (e :: es) (i7e te tr):=by
 intro pins acc s σ H Q Q' I h k
 rw [hs]
 refine thn (he pins s σ H _ I h) fun v s1 ⟨x,H1,I1,r1,q1⟩=>?_
 cases x with
 | str y =>
  obtain⟨t,rfl⟩:=r1
  exact⟨y,t,rfl,by rw [strLen_append]; exact q1.1,hr pins (acc++y) s1 σ H1 Q Q' I1 q1.2 k⟩
 | _=>exact False.elim q1
def j2a(tj:TJ):TE:=fun σ H Q=>tj Str.empty σ H fun out H1=>out.length<=sizeLine/\Q (.str out) H1
theorem c3m{e₁ e₂:Expr}{es:List Expr}{tj:TJ}{pos:Pos}(h:PJ X (e₁ :: e₂ :: es) tj):PE X (.JoinedStr (e₁ :: e₂ :: es) pos) (j2a tj):=by
 intro pins s σ H Q I hq
 exact wpAny_JoinedStr (h pins Str.empty s σ H _ _ I hq fun out H1 s1 I1 q=>⟨q.1,.str out,H1,I1.tok _,⟨_,rfl⟩,q.2⟩)
noncomputable def c0g(x y:Str):List Str:=if (decide (x.length < y.length) || decide (Builtin.Str.strKind x < Builtin.Str.strKind y))=true then [x] else if (Builtin.Str.occurrences x y 0 x.length (x.length+1)).isEmpty=true then [x] else Builtin.Str.partsBetween x (Builtin.Str.occurrences x y 0 x.length (x.length+1)) y.length
noncomputable def i7f:V->List V->Hp->VK->Prop:=fun x vs H Q=>match x,vs with
 | .str z,[.str y]=>(y.length == 0)=false/\z.length<=sizeLine/\(c0g z y).length<=sizeLine/\New H (.lst ((c0g z y).map V.str)) Q ⟨⟩
 | _,_=>False
theorem g0h:∀ (l:List Str) (k:Nat),Vals (l.map V.str) (strsFrom k l)
 | [],_=>.nil
 | x :: l,k=>.cons ⟨_,rfl⟩ (g0h l (k+1))
theorem g6w : MtR X "str.split" i7f := by
 intro pins s σ H x xs v us Q I rx rs h
 match x,xs,h with
 | .str z,[.str y],⟨hy,hz,hn,q⟩ =>
  obtain⟨t,rfl⟩:=rx
  obtain⟨u,rfl,t',rfl⟩:=vals1 rs
  have fr:H s.heap.objs.size=none:=I.hok.fresh (Nat.le_refl _)
  have itself : c0g z y = [z] → EP X pins σ Q (.ref s.heap.objs.size) { s with heap := s.heap.push { cls := .type "list", data := .seq [Value.str z t].toArray } } := fun e => by
   rw [e] at q
   exact⟨.ref _,_,I.laid (o:=.lst ([z].map V.str)) (t':=s.toks) (fun b u e=>Heap.get?_push_of_some _ e) (Nat.le_refl _) ⟨show 1<=sizeLine by decide,[Value.str z t],0,.cons ⟨t,rfl⟩ .nil,Heap.get?_push_size _ rfl⟩,rfl,q.raw _ fr⟩
  by_cases h1:(decide (z.length < y.length) || decide (Builtin.Str.strKind z < Builtin.Str.strKind y))=true
  ·exact call_meets F.slot_str_split (typeIs_str _ _ _) F.entry_str_split (F.args_str_split_2 _ _) (meets_str_split_cannot_occur z y t t' h1) (itself (by unfold c0g; rw [if_pos h1]))
  ·have h1':=Bool.eq_false_iff.mpr h1
   by_cases h2:(Builtin.Str.occurrences z y 0 z.length (z.length+1)).isEmpty=true
   ·exact call_meets F.slot_str_split (typeIs_str _ _ _) F.entry_str_split (F.args_str_split_2 _ _) (meets_str_split_not_found z y t t' h1' hy h2) (itself (by unfold c0g; rw [if_neg h1,if_pos h2]))
   ·have h2':=Bool.eq_false_iff.mpr h2
    have e:c0g z y=Builtin.Str.partsBetween z (Builtin.Str.occurrences z y 0 z.length (z.length+1)) y.length:=by unfold c0g; rw [if_neg h1,if_neg h2]
    refine call_meets F.slot_str_split (typeIs_str _ _ _) F.entry_str_split (F.args_str_split_2 _ _) (meets_str_split_sep z y t t' h1' hy h2' hz (by rw [<- e]; exact hn)) ?_
    rw [<- e]
    refine⟨.ref _,_,I.laid (o:=.lst ((c0g z y).map V.str)) (t':=s.toks+(c0g z y).length) (fun b u e=>Heap.get?_push_of_some _ e) (Nat.le_refl _) ⟨by rw [List.length_map]; exact hn,strsFrom s.toks (c0g z y),0,g0h _ _,Heap.get?_push_size _ rfl⟩,rfl,q.raw _ fr⟩
noncomputable def i1v(z y:Str):Bool:=!(Builtin.Str.occurrences z y 0 z.length 1).isEmpty
def j4q(neg:Bool):R2:=fun x y H Q=>match y with
 | .str z=>(match x with
  | .str y=>Q (.bl (i1v z y != neg)) H
  | _=>False)
 | .ref p=>(match H p with
  | some (.lst xs)=>c1m x=true/\xs.all c1m=true/\Q (.bl (inV x xs != neg)) H
  | some (.tup xs)=>c1m x=true/\xs.all c1m=true/\Q (.bl (inV x xs != neg)) H
  | _=>False)
 | _=>False
theorem g0i:OpR X (compareOp .In) (j4q false):=by
 intro pins s σ H x y v u Q I rx ry h
 cases y with
 | str z =>
  cases x with
  | str y =>
   have h:Q (.bl (i1v z y != false)) H:=h
   rw [Bool.bne_false] at h
   exact h1g pins s σ H _ _ v u Q I rx ry ⟨y,z,rfl,rfl,h⟩
  | _=>exact False.elim h
 | ref p =>
  have h:(match H p with
   | some (.lst xs)=>c1m x=true/\xs.all c1m=true/\Q (.bl (inV x xs != false)) H
   | some (.tup xs)=>c1m x=true/\xs.all c1m=true/\Q (.bl (inV x xs != false)) H
   | _=>False):=h
  split at h
  ·rename_i xs e
   rw [Bool.bne_false] at h
   exact f9t pins s σ H _ _ v u Q I rx ry ⟨p,xs,rfl,.inl (SqL.of e),h.1,h.2.1,by simpa using h.2.2⟩
  ·rename_i xs e
   rw [Bool.bne_false] at h
   exact f9t pins s σ H _ _ v u Q I rx ry ⟨p,xs,rfl,.inr (SqT.of e),h.1,h.2.1,by simpa using h.2.2⟩
  ·exact h.elim
 | _=>exact False.elim h
theorem c7w:OpR X (compareOp .NotIn) (j4q true):=by
 intro pins s σ H x y v u Q I rx ry h
 cases y with
 | str z =>
  cases x with
  | str y =>
   have h:Q (.bl (i1v z y != true)) H:=h
   rw [Bool.bne_true] at h
   exact f9u pins s σ H _ _ v u Q I rx ry ⟨y,z,rfl,rfl,h⟩
  | _=>exact False.elim h
 | ref p =>
  have h:(match H p with
   | some (.lst xs)=>c1m x=true/\xs.all c1m=true/\Q (.bl (inV x xs != true)) H
   | some (.tup xs)=>c1m x=true/\xs.all c1m=true/\Q (.bl (inV x xs != true)) H
   | _=>False):=h
  split at h
  ·rename_i xs e
   rw [Bool.bne_true] at h
   exact d5k pins s σ H _ _ v u Q I rx ry ⟨p,xs,rfl,.inl (SqL.of e),h.1,h.2.1,by simpa using h.2.2⟩
  ·rename_i xs e
   rw [Bool.bne_true] at h
   exact d5k pins s σ H _ _ v u Q I rx ry ⟨p,xs,rfl,.inr (SqT.of e),h.1,h.2.1,by simpa using h.2.2⟩
  ·exact h.elim
 | _=>exact False.elim h
end
end L2
namespace L2
open PySem PySem.Spec PyProof.Rows
def Wr(H:Hp)(a:Addr)(o:HO)(k:Hp->Prop)(_:Tag k):Prop:=∀ H1,a2j a H H1->H1 a=some o->k H1
section
variable {X:Cx}{e o value:Expr}{f m x:Str}{pos pos' apos:Pos}{ta tv:TE}{t:TA}{C:Addr}{es:List Expr}
def i1w(K:PySem.W.Frag)(ta:TE)(f:Str):TE:=fun σ H Q=>ta σ H fun x H1=>match x with
 | .ref a=>(match H1 a with
  | some (.ins C dx fs)=>Cls K C/\a2l K C f/\(match fs.lookup f with
   | some v=>Q v H1
   | none=>False)
  | _=>False)
 | _=>False
theorem a0y(he:PE X e ta)(hb:attributeBase e f X.env (eval e X.env)=eval e X.env):PE X (.Attribute e f pos) (i1w X.K ta f):=by
 intro pins s σ H Q I h
 refine (i5z he hb) pins s σ H Q I ?_
 unfold j3v
 unfold i1w at h
 have q:(fun (x:V) (H1:Hp)=>(match x with
   | .ref a=>(match H1 a with
    | some (.ins C dx fs)=>Cls X.K C/\a2l X.K C f/\(match fs.lookup f with
     | some v=>Q v H1
     | none=>False)
    | _=>False)
   | _=>False:Prop))=fun x H1=>∃ a C dx fs v,x = .ref a/\H1 a=some (.ins C dx fs)/\Cls X.K C/\a2l X.K C f/\fs.lookup f=some v/\Q v H1:=by
  funext x H1
  refine propext ⟨fun z=>?_,fun⟨a,C,dx,fs,v,e1,e2,c,n,l,q⟩=>?_⟩
  ·cases x with
   | ref a =>
    dsimp only at z
    split at z
    ·rename_i C dx fs e1
     obtain⟨c,n,z⟩:=z
     split at z
     ·rename_i v e2
      exact⟨a,C,dx,fs,v,rfl,e1,c,n,e2,z⟩
     ·exact z.elim
    ·exact z.elim
   | _=>exact False.elim z
  ·subst e1
   dsimp only
   rw [e2]
   dsimp only
   rw [l]
   exact⟨c,n,q⟩
 rw [q] at h
 exact h
def j2b(K:PySem.W.Frag)(ta tv:TE)(f:Str):TS:=fun D σ H=>tv σ H fun y H1=>ta σ H1 fun x H2=>match x with
 | .ref a=>(match H2 a with
  | some (.ins C dx fs)=>Cls K C/\a2l K C f/\fs.length < 1000/\Wr H2 a (.ins C dx (d7v f y fs)) (D.nx σ) ⟨⟩
  | _=>False)
 | _=>False
theorem a5z(ha:PE X o ta)(hv:PE X value tv)(hs:swapsWith value (some (.Attribute o f pos')) pos.line X.env=pure false):PS X (.Assign [.Attribute o f pos'] value pos) (j2b X.K ta tv f):=by
 intro pins s σ H D I h
 refine plainObj_wpAny_Assign_Attribute (thn (hv pins s σ H _ I h) fun u s1 ⟨y,H1,I1,ry,q⟩=>thn (ha pins s1 σ H1 _ I1 q) fun ov s2 ⟨x,H2,I2,rx,z⟩=>?_) hs
 cases x with
 | ref a =>
  obtain rfl:ov=Value.ref a:=rx
  dsimp only at z
  split at z
  ·rename_i C dx fs e1
   obtain⟨c,n,l,k⟩:=z
   exact g8b I2 e1 c n l ry fun s3 I3=>⟨σ,_,I3,k _ a2j.upd a3j⟩
  ·exact z.elim
 | _=>exact False.elim z
end
def b2m(C:Addr)(m:Str)(sp:Sp)(dvs:List V)(E:XK)(ta:TE)(t:TA):TE:=fun σ H Q=>ta σ H fun x H1=>match x with
 | .ref a=>(match H1 a with
  | some (.ins C' dx fs)=>C'=C/\fs.lookup m=none/\t σ H1 fun vs H2=>sp (x :: (vs++dvs)) H2 Q E
  | _=>False)
 | _=>False
section
variable {X:Cx}{CX:CXT}{k:Nat}{f C:Addr}{fd:FuncData}{ps:List Str}{sp:Sp}{dvs:List V}{ds:List Value}{E:XK}{x m:Str}{p pos apos:Pos}{e o:Expr}{es:List Expr}{ta:TE}{t:TA}
theorem a6l{pl:Sem Bool}(he:PE X o ta)(c:Cls X.K C)(hm:Meth X.K C m f)(F:a1q X.prog X.w X.K X.mg X.base CX k f fd ps sp)(hr:a2p k X.A)(hb:Binds X.K fd ps ds)(hd:Vals dvs ds)(hx:Passes CX X E)(ha:PA X (e :: es) t)
  (hst:starEach (e :: es) X.env=(false,eval e X.env) :: starEach es X.env:=by rfl) (hpl:(backTo pos (starEach es X.env)).any (·.1)=false:=by rfl)
  (ht:eval (.Call (.Attribute o m apos) (e :: es) [] pos) X.env=(do
   let ov <- eval o X.env
   standAt apos.atName
   let (f,first) <- holding [ov] (getMethod ov m pl)
   callWith pos f first (backTo pos (starEach (e :: es) X.env)) (backToKw pos (keywordEach [] X.env))):=by rfl) :
  PE X (.Call (.Attribute o m apos) (e :: es) [] pos) (b2m C m sp dvs E ta t):=by
 intro pins s σ H Q I h
 refine PySem.W.methodCall_KW (pl:=pl) (thn (he pins s σ H _ I h) fun u s1 ⟨x,H1,I1,rx,z⟩=>?_) ht
 cases x with
 | ref a =>
  obtain rfl:u=Value.ref a:=rx
  dsimp only at z
  split at z
  ·rename_i C' dx fs ea
   obtain⟨rfl,l,q⟩:=z
   refine f3t I1 ea c hm l ?_
   refine PySem.W.callWith_K (first:=[.ref a]) (h₀:=X.base) I.ok.mod.kin hm.kp (thn (ha pos pins s1 σ H1 _ I1 q) fun us s2 ⟨vs,H2,I2,r,q2⟩=>⟨I2.kIn,?_⟩) hst hpl
   exact g6m (us:=.ref a :: us) (vs:=.ref a :: vs) F hr hb hd hx I2 (.cons rfl r) q2
  ·exact z.elim
 | _=>exact False.elim z
theorem a2n{pl:Sem Bool}(he:PE X o ta)(c:Cls X.K C)(hm:Meth X.K C m f)(F:a1q X.prog X.w X.K X.mg X.base CX k f fd ps sp)(hr:a2p k X.A)(hb:Binds X.K fd ps ds)(hd:Vals dvs ds)(hx:Passes CX X E)
  (ht:eval (.Call (.Attribute o m apos) [] [] pos) X.env=(do
   let ov <- eval o X.env
   standAt apos.atName
   let (f,first) <- holding [ov] (getMethod ov m pl)
   callWith pos f first (backTo pos (starEach [] X.env)) (backToKw pos (keywordEach [] X.env))):=by rfl) :
  PE X (.Call (.Attribute o m apos) [] [] pos) (b2m C m sp dvs E ta g2z):=by
 intro pins s σ H Q I h
 refine PySem.W.methodCall_KW (pl:=pl) (thn (he pins s σ H _ I h) fun u s1 ⟨x,H1,I1,rx,z⟩=>?_) ht
 cases x with
 | ref a =>
  obtain rfl:u=Value.ref a:=rx
  dsimp only at z
  split at z
  ·rename_i C' dx fs ea
   obtain⟨rfl,l,q⟩:=z
   refine f3t I1 ea c hm l ?_
   exact PySem.W.callWith_K0 (first:=[.ref a]) I1.kIn hm.kp (g6m (us:=[.ref a]) (vs:=[.ref a]) F hr hb hd hx I1 (.cons rfl .nil) q)
  ·exact z.elim
 | _=>exact False.elim z
def i9w(H:Hp)(C:Addr)(k:Addr->Hp->Prop)(_:Tag k):Prop:=∀ x dx H1,H x=none->H dx=none->dx≠x->Same H H1->H1 dx=some (.own x)->H1 x=some (.ins C dx [])->k x H1
def i7g(x:Addr)(Q:VK):VK:=fun v H2=>v = .non/\Q (.ref x) H2
theorem asNew{x:Addr}{Q:VK}{H2:Hp}{v:V}:i7g x Q v H2=(v = .non/\Q (.ref x) H2):=rfl
def i0c(C:Addr)(sp:Sp)(dvs:List V)(E:XK)(t:TA):TE:=fun σ H Q=>t σ H fun vs H1=>i9w H1 C (fun x H2=>sp (.ref x :: (vs++dvs)) H2 (i7g x Q) E) ⟨⟩
theorem i9w.raw{H:Hp}{C:Addr}{k:Addr->Hp->Prop}{t:Tag k}(h:i9w H C k t):∀ x dx,H x=none->H dx=none->dx≠x->k x (upd (upd H dx (.own x)) x (.ins C dx [])):=fun x dx ex ed ne =>
 h x dx _ ex ed ne ((Same.upd ed).trans (Same.upd (by rw [a3p ne.symm]; exact ex))) (by rw [a3p ne]; exact a3j) a3j
theorem c4p(M:Mk X.K C f)(F:a1q X.prog X.w X.K X.mg X.base CX k f fd ps sp)(hr:a2p (k+1) X.A)(hg:Gl X x)(hm:X.mg x=some (.ref C))(hb:Binds X.K fd ps ds)(hd:Vals dvs ds)(hx:Passes CX X E)
  (ha : PA X (e :: es) t) (hdb : (x == ("__debug__" : Str)) = false := by decide) (he : starEach (e :: es) X.env = (false, eval e X.env) :: starEach es X.env := by rfl) (hpl : (backTo pos (starEach es X.env)).any (·.1) = false := by rfl) :
  PE X (.Call (.Name x p) (e :: es) [] pos) (i0c C sp dvs E t):=by
 intro pins s σ H Q I h
 refine wpAny_Call_Name_kw (f4z I hg hm ?_ hdb)
 refine PySem.W.callWith_K (h₀:=X.base) I.ok.mod.kin M.kp (thn (ha pos pins s σ H _ I h) fun us s1 ⟨vs,H1,I1,r,q⟩=>⟨I1.kIn,?_⟩) he hpl
 exact g6n M F hr hb hd hx I1 r q.raw
theorem h2o(M:Mk X.K C f)(F:a1q X.prog X.w X.K X.mg X.base CX k f fd ps sp)(hr:a2p (k+1) X.A)(hg:Gl X x)(hm:X.mg x=some (.ref C))(hb:Binds X.K fd ps ds)(hd:Vals dvs ds)(hx:Passes CX X E)
  (hdb : (x == ("__debug__" : Str)) = false := by decide) : PE X (.Call (.Name x p) [] [] pos) (i0c C sp dvs E g2z) := by
 intro pins s σ H Q I h
 refine wpAny_Call_Name_kw (f4z I hg hm ?_ hdb)
 exact PySem.W.callWith_K0 I.kIn M.kp (g6n (us:=[]) M F hr hb hd hx I .nil (i9w.raw (t:=⟨⟩) h))
end
def i9x(K:PySem.W.Frag)(ta tv:TE)(rd:V->V->Hp->VK->Prop)(f:Str):TS:=fun D σ H=>ta σ H fun x H1=>match x with
 | .ref a=>(match H1 a with
  | some (.ins C dx fs)=>Cls K C/\a2l K C f/\(match fs.lookup f with
   | some v=>tv σ H1 fun y H2=>rd v y H2 fun z H3=>(match H3 a with
    | some (.ins C' dx' fs')=>C'=C/\fs'.length < 1000/\Wr H3 a (.ins C dx' (d7v f z fs')) (D.nx σ) ⟨⟩
    | _=>False)
   | none=>False)
  | _=>False)
 | _=>False
section
variable {X:Cx}{o e value:Expr}{f:Str}{pos pos' tpos:Pos}{ta tv:TE}
end
noncomputable def rInF(g:Int->Int->Int):V->V->Hp->VK->Prop:=fun x y H Q=>match x,y with
 | .int i,.int j=>Q (.int (g i j)) H
 | _,_=>False
def tAugF(i:Nat)(te:TE)(ti:TIp):TS:=fun D σ H=>match σ[i]? with
 | some (some x)=>te σ H fun y H1=>ti x y H1 fun z H2=>D.nx (σ.set i (some z)) H2
 | _=>False
section
variable {X:Cx}{pos:Pos}
end
theorem lookup_same{f:Str}{v:V}{r:List (Str×V)}:List.lookup f ((f,v) :: r)=some v:=by rw [List.lookup_cons,beq_self_eq_true]
theorem i7h{f:Str}{v x:V}{r:List (Str×V)}:d7v f v ((f,x) :: r)=(f,v) :: r:=by rw [d7v,if_pos rfl]
theorem i9y{f:Str}{v:V}:d7v f v [] = [(f,v)]:=rfl
theorem i0d{f g:Str}{v:V}{r:List (Str×V)}(h:(f == g)=false):List.lookup f ((g,v) :: r)=r.lookup f:=by rw [List.lookup_cons,h]
theorem i4s{f g:Str}{v x:V}{r:List (Str×V)}(h:(f == g)=false):d7v f v ((g,x) :: r)=(g,x) :: d7v f v r:=by rw [d7v,if_neg fun e=>by rw [e,beq_self_eq_true] at h; exact Bool.noConfusion h]
theorem noxK{X:Cx}:X.nox.K=X.K:=rfl
end L2
namespace L2
open PySem PySem.Spec PyProof.Rows
structure i7i(k:Nat)(A:Around):Prop where
 dp:A.depth+3*k+5 < recursionLimit
 un:A.units+16*k+200 < cLine
theorem a2p.h{k:Nat}{A:Around}(r:a2p k A):i7i k A:=⟨r.dp,r.un⟩
structure FnOkH(P:Program)(w:World)(K:PySem.W.Frag)(mg:Str->Option Value)(base:Heap)(k:Nat)(f:Addr)(fd:FuncData)(ps:List Str)(sp:Sp):Prop where
 len:∀ vs H Q E,sp vs H Q E->vs.length=ps.length
 run:∀ (A:Around) (outer:List Env) (s:Shared) (H:Hp) (args:Args) (us:List Value) (vs:List V) (Q:VK) (E:XK),i7i k A->h9l P w K mg base A outer s H->BindsTo s fd args (ps.zip us)->Vals vs us->sp vs H Q E ->
  codeAny (model P w) A (.call (.ref f) args) (CR CX0 outer P w H s Q E) s
section
variable {X:Cx}{k:Nat}{f:Addr}{fd:FuncData}{ps:List Str}{sp:Sp}{dvs:List V}{ds:List Value}{x:Str}{p pos:Pos}{e:Expr}{es:List Expr}{t:TA}
end
end L2
namespace L2
open PySem PySem.Spec PyProof.Rows
open PySem.Builtin.Str (occurrences subAt partsBetween strSub)
noncomputable abbrev sg(x:Str):List Nat:=x.cps.toList
theorem c3n{x y:Str}(h:sg x=sg y):x=y:=Str.ext' (by
 have:=congrArg List.toArray h
 simpa using this)
theorem a3q(x y:Str):sg (x++y)=sg x++sg y:=by unfold sg; rw [Str.cps_append]; simp
theorem c7y(x:Str):(sg x).length=x.length:=by simp [Str.length]
theorem i0e{x:Str}{c i:Nat}:StrLaws.At x ⟨#[c]⟩ x.length i ↔ (sg x)[i]? = some c:=StrLaws.subAt_one x c i
theorem d8n{c:Nat}:(⟨#[c]⟩:Str).length=1:=rfl
theorem i0f(x:Str)(i j:Nat):sg (strSub x i j)=((sg x).drop i).take (j - i):=StrLaws.strSub_toList x i j
theorem h7o{x:Str}{c:Nat}{a b:List Nat}(hk:c < 128)(h:sg x=a++c :: b)(ha:c∉a)(hb:c∉b):c0g x ⟨#[c]⟩ = [⟨a.toArray⟩,⟨b.toArray⟩]:=by
 have hl:x.length=a.length+(b.length+1):=by rw [<- c7y,h]; simp
 have k1:¬ ((decide (x.length < (⟨#[c]⟩:Str).length) || decide (Builtin.Str.strKind x < Builtin.Str.strKind ⟨#[c]⟩))=true):=by
  have e:Builtin.Str.strKind ⟨#[c]⟩=1:=by
   unfold Builtin.Str.strKind
   rw [if_pos (by simp; omega)]
  have g:1<=Builtin.Str.strKind x:=by
   unfold Builtin.Str.strKind
   split
   ·decide
   ·split <;> decide
  rw [e,d8n]
  simp only [Bool.or_eq_true,decide_eq_true_eq]
  omega
 have only:∀ i,StrLaws.At x ⟨#[c]⟩ x.length i->i=a.length:=by
  intro i hi
  have hi:=i0e.mp hi
  rw [h] at hi
  rcases Nat.lt_trichotomy i a.length with q | q | q
  ·rw [List.getElem?_append_left q] at hi
   exact absurd (List.mem_of_getElem? hi) ha
  ·exact q
  ·rw [List.getElem?_append_right (Nat.le_of_lt q)] at hi
   obtain⟨j,hj⟩:∃ j,i - a.length=j+1:=⟨i - a.length - 1,by omega⟩
   rw [hj,List.getElem?_cons_succ] at hi
   exact absurd (List.mem_of_getElem? hi) hb
 have there:StrLaws.At x ⟨#[c]⟩ x.length a.length:=i0e.mpr (by rw [h,List.getElem?_append_right (Nat.le_refl _),Nat.sub_self]; rfl)
 obtain⟨f,ch⟩:=StrLaws.occ_chain x ⟨#[c]⟩ (x.length+1)
 have ho:occurrences x ⟨#[c]⟩ 0 x.length (x.length+1) = [a.length]:=by
  rcases StrLaws.occ_head x ⟨#[c]⟩ (x.length+1) (by omega) with ⟨h0,hn⟩ | ⟨i,r,h0,hi,hn⟩
  ·exact absurd there (hn _)
  ·rw [h0] at ch ⊢
   have e:=only i hi
   subst e
   cases r with
   | nil=>rfl
   | cons j r =>
    obtain⟨_,_,q1,q2,_⟩:=ch
    have:=only j q2
    rw [d8n] at q1
    omega
 unfold c0g
 rw [if_neg k1,ho,if_neg (by simp)]
 simp only [partsBetween,List.map_cons,List.map_nil,List.cons_append,List.nil_append,List.zip_cons_cons,List.zip_nil_right,List.cons.injEq,and_true]
 constructor
 ·refine c3n ?_
  rw [i0f,h]
  simp
 ·refine c3n ?_
  rw [i0f,d8n,h,hl]
  have e:(a++c :: b).drop (a.length+1)=b:=by rw [List.drop_append]; simp
  rw [e,List.take_of_length_le (by omega)]
open PySem.NumText (AllDigits digitsVal digitsVal_snoc)
noncomputable def dg(n:Nat):List Nat:=(Nat.toDigits 10 n).map Char.toNat
theorem g6x(n:Nat):digitsVal (dg n)=n:=PySem.W.KIN.val_back n
theorem g3i{n:Nat}(h:n < 10):dg n = [n+48]:=by
 have:∀ d,d < 10->dg d = [d+48]:=by decide
 exact this n h
theorem d8o{m c:Nat}(hm:0 < m)(hc:c < 10):dg (10*m+c)=dg m++[c+48]:=by
 have t:Nat.toDigits 10 m++Nat.toDigits 10 c=Nat.toDigits 10 (10*m+c):=Nat.toDigits_append_toDigits (by decide) hm hc
 unfold dg
 rw [<- t,List.map_append]
 have:=g3i hc
 unfold dg at this
 rw [this]
theorem h2p(n:Nat):dg n≠[]:=by
 by_cases h:n < 10
 ·rw [g3i h]; simp
 ·have e:n=10*(n / 10)+n % 10:=by omega
  rw [e,d8o (by omega) (by omega)]
  simp
theorem d0t(n:Nat):AllDigits (dg n):=by
 induction n using Nat.strongRecOn with
 | _ n ih =>
  by_cases h:n < 10
  ·rw [g3i h]
   intro c hc
   simp at hc
   omega
  ·have e:n=10*(n / 10)+n % 10:=by omega
   rw [e,d8o (by omega) (by omega)]
   intro c hc
   rcases List.mem_append.mp hc with q | q
   ·exact ih (n / 10) (by omega) c q
   ·simp at q
    omega
theorem i1x{n:Nat}(h:0 < n):∃ c r,dg n=c :: r/\c≠48:=by
 induction n using Nat.strongRecOn with
 | _ n ih =>
  by_cases q:n < 10
  ·exact⟨n+48,[],g3i q,by omega⟩
  ·obtain⟨c,r,e,hc⟩:=ih (n / 10) (by omega) (by omega)
   have e2:n=10*(n / 10)+n % 10:=by omega
   refine⟨c,r++[n % 10+48],?_,hc⟩
   conv=>lhs; rw [e2]
   rw [d8o (by omega) (by omega),e]
   rfl
theorem i0g:∀ {ds:List Nat},AllDigits ds->digitsVal ds < 10 ^ ds.length:=by
 intro ds
 generalize hn:ds.length=n
 induction n generalizing ds with
 | zero=>intro _; rw [List.length_eq_zero_iff.mp hn]; decide
 | succ n ih =>
  intro hd
  have hne:ds≠[]:=fun e=>by rw [e] at hn; cases hn
  have e:ds=ds.dropLast++[ds.getLast hne]:=(List.dropLast_concat_getLast hne).symm
  generalize ds.dropLast=cs at e
  generalize ds.getLast hne=c at e
  subst e
  have hc:=hd c (by simp)
  have:=ih (ds:=cs) (by simp at hn; exact hn) fun d hd'=>hd d (by simp [hd'])
  rw [digitsVal_snoc,Nat.pow_succ]
  omega
noncomputable def txt(t:Int):List Nat:=if t < 0 then 45 :: dg t.natAbs else dg t.natAbs
theorem d2r(t:Int):sg (Str.ofString (toString t))=txt t:=by
 unfold txt
 match t with
 | .ofNat m=>exact PySem.W.KIN.signs_num m
 | .negSucc m =>
  rw [if_pos (Int.negSucc_lt_zero m)]
  unfold sg
  rw [signs_ofString]
  show (("-" ++ Nat.repr (m + 1)).toList.map Char.toNat) = _
  rw [String.toList_append,List.map_append,Nat.toList_repr]
  rfl
theorem d3u{x:Str}{t:Int}(h:sg x=txt t)(hl:x.length<=4300):PySem.intText? x=some t:=by
 unfold txt at h
 split at h
 ·rename_i ht
  have:=intText_neg h (d0t _) (h2p _) hl
  rw [g6x] at this
  rw [this]
  congr 1
  omega
 ·rename_i ht
  have:=intText_digits (x:=x) (by rw [show x.cps.toList=sg x from rfl,h]; exact d0t _) (by rw [show x.cps.toList=sg x from rfl,h]; exact h2p _) hl
  rw [show x.cps.toList=sg x from rfl,h,g6x] at this
  rw [this]
  congr 1
  omega
theorem i7j(n:Nat):(dg n).length<=n.log2+1:=by
 induction n using Nat.strongRecOn with
 | _ n ih =>
  by_cases h:n < 10
  ·rw [g3i h]; simp
  ·have e:n=10*(n / 10)+n % 10:=by omega
   have i:=ih (n / 10) (by omega)
   have k:(n / 10).log2+1<=n.log2:=by
    rw [Nat.le_log2 (by omega),Nat.pow_succ]
    have:=Nat.log2_self_le (n:=n / 10) (by omega)
    omega
   have z:=d8o (m:=n / 10) (c:=n % 10) (by omega) (by omega)
   rw [<- e] at z
   rw [z]
   rw [List.length_append]
   simp only [List.length_cons,List.length_nil]
   omega
theorem g3j(t:Int):(txt t).length<=t.natAbs.log2+2:=by
 have:=i7j t.natAbs
 unfold txt
 split
 ·rw [List.length_cons]; omega
 ·omega
noncomputable def i0h(t b:Int):List Nat:=txt t++47 :: txt b
structure Good(x:List Nat)(t b:Int):Prop where
 eq:x=i0h t b
 pos:0 < b
 low:Int.gcd t b=1
 l1:(dg t.natAbs).length<=9
 l2:(dg b.natAbs).length<=9
noncomputable def h2q(l:List Nat):Bool:=l.all (fun c=>decide (48<=c) && decide (c<=57)) && !l.isEmpty
theorem f5r{l:List Nat}:h2q l=true ↔ AllDigits l/\l≠[]:=by
 unfold h2q AllDigits
 simp
theorem i1y (c : Nat) : i1v "0123456789" ⟨#[c]⟩ = (decide (48 ≤ c) && decide (c ≤ 57)) := by
 unfold i1v
 rw [StrLaws.found_one]
 have e : (Str.ofString "0123456789").cps.toList = [48, 49, 50, 51, 52, 53, 54, 55, 56, 57] := by decide +kernel
 rw [e]
 by_cases h:48<=c/\c<=57
 ·rw [show (decide (48<=c) && decide (c<=57))=true by simp [h]]
  rw [decide_eq_true_eq]
  simp
  omega
 ·rw [show (decide (48<=c) && decide (c<=57))=false by simp; omega]
  rw [decide_eq_false_iff_not]
  simp
  omega
theorem f3z{t:Int}{c:Nat}(h1:c≠45)(h2:c < 48\/57 < c):c∉txt t:=by
 unfold txt
 intro h
 split at h
 ·rcases List.mem_cons.mp h with q | q
  ·exact h1 q
  ·have:=d0t _ c q; omega
 ·have:=d0t _ c h; omega
theorem i7k(t:Int):(txt t).length<=(dg t.natAbs).length+1:=by
 unfold txt
 split
 ·rw [List.length_cons]; exact Nat.le_refl _
 ·exact Nat.le_succ _
theorem i0i(x:Str)(c:Nat):Txt.startswith x ⟨#[c]⟩=decide ((sg x)[0]? = some c):=by
 unfold Txt.startswith
 rw [Bool.eq_iff_iff,Bool.and_eq_true,decide_eq_true_eq,decide_eq_true_eq]
 exact StrLaws.subAt_one x c 0
theorem i7l{x:Str}{t:Int}(h:sg x=txt t):Txt.startswith x ⟨#[45]⟩=decide (t < 0):=by
 rw [i0i,h]
 unfold txt
 split
 ·rename_i q
  simp [q]
 ·rename_i q
  rw [decide_eq_false q,decide_eq_false_iff_not]
  intro e
  have:=d0t _ 45 (List.mem_of_getElem? e)
  omega
theorem i2a{x:Str}{i:Nat}(h:i<=x.length):sg (Txt.slice x (some (i:Int)) none)=(sg x).drop i:=by
 rw [slice_from_eq (b:=(x.length:Int)) (by omega) (by omega) rfl]
 simp only [sg,Int.toNat_natCast]
 rw [List.take_of_length_le]
 rw [List.length_drop]
 have:=c7y x
 unfold sg at this
 omega
end L2
namespace L2
open PySem PySem.Spec PyProof.Rows
section
variable {X:Cx}
noncomputable def i7m(K:PySem.W.Frag):List V->Hp->VK->Prop:=fun xs H Q=>match xs with
 | [.ref p]=>(match H p with
  | some (.lst ys)=>New H (.tup ys) Q ⟨⟩
  | some (.tup ys)=>Q (.ref p) H
  | _=>False)
 | _=>False
theorem g0j : b3v X (.type "tuple") (i7m X.K) := f5m.weak fun xs H Q h => by
 match xs,h with
 | [.ref p],h =>
  unfold i7m at h
  dsimp only at h
  split at h
  ·rename_i ys e
   exact⟨p,ys,rfl,.inl ⟨SqL.of e,h.raw⟩⟩
  ·rename_i ys e
   exact⟨p,ys,rfl,.inr ⟨SqT.of e,h⟩⟩
  ·exact h.elim
end
section
variable {X:Cx}
structure InsQ(K:PySem.W.Frag)(C:Addr):Prop where
 ha : PySem.W.findIn K (.ref C) "__class__" = some (some (.builtin "object.__class__"))
 hn : PySem.W.specialIn K (.builtin "object.__class__") "__get__" = some (some (.builtin "getset_descriptor.__get__"))
 htk : PySem.W.takesIn K (.builtin "object.__class__") = some true
 hm : PySem.W.mroIn K C (.type "object") = some true
noncomputable def rIsI(K:PySem.W.Frag):List V->Hp->VK->Prop:=fun xs H Q=>match xs with
 | [.ref a,.ref D]=>(match H a with
  | some (.ins C dx fs)=>Cls K C/\InsQ K C/\(match PySem.W.kitOne K (.ref C) (.ref D) with
   | some b=>Q (.bl b) H
   | none=>False)
  | _=>False)
 | _=>False
end
section
variable {X:Cx}{pos:Pos}
noncomputable def j2c:List V->Hp->VK->Prop:=fun xs H Q=>match xs with
 | [.int i,.int j]=>(0 < j/\j < 1073741824)/\New H (.tup [.int (i / j),.int (i % j)]) Q ⟨⟩
 | _=>False
noncomputable def i7n:TGs:=fun vs σ H Q=>match vs with
 | []=>Q σ H
 | _=>False
def i0j(t:TG)(u:TGs):TGs:=fun vs σ H Q=>match vs with
 | v :: r=>t v σ H fun σ' H'=>u r σ' H' Q
 | _=>False
def i7o(n:Nat)(t:TGs):TG:=fun v σ H Q=>match v with
 | .ref a=>(match H a with
  | some (.tup xs)=>xs.length=n/\t xs σ H Q
  | _=>False)
 | _=>False
theorem g6y:PGs X [] i7n:=by
 intro pins s σ H vs us Q I r h
 refine h0u pins s σ H vs us Q I r ?_
 unfold i7n at h
 split at h
 ·exact⟨rfl,h⟩
 ·exact h.elim
theorem d2s{e:Expr}{es:List Expr}{t:TG}{u:TGs}(h1:PG X e t)(h2:PGs X es u)
  (hs:(assignEach (e :: es) X.env).map (·.2)=assign e X.env :: (assignEach es X.env).map (·.2):=by rfl):PGs X (e :: es) (i0j t u):=by
 intro pins s σ H vs us Q I r h
 refine f5h h1 h2 hs pins s σ H vs us Q I r ?_
 unfold i0j at h
 split at h
 ·exact⟨_,_,rfl,h⟩
 ·exact h.elim
theorem h2r{es:List Expr}{k:Nat}{t:TGs}{n:Nat}(hc:X.calm=true)(h:PGs X es t)
  (hn:(assignEach es X.env).length=n:=by rfl) (hst:(assignEach es X.env).findIdx? (·.1)=none:=by rfl):PG X (.Tuple es k pos) (i7o n t):=by
 intro pins s σ H v u Q I r hw
 refine h9i hc h hn hst pins s σ H v u Q I r ?_
 unfold i7o at hw
 cases v with
 | ref a =>
  dsimp only at hw
  split at hw
  ·rename_i xs e
   exact⟨a,xs,rfl,SqT.of e,hw.1,hw.2⟩
  ·exact hw.elim
 | _=>exact False.elim hw
end
end L2
namespace L2
open PySem PySem.Spec PyProof.Rows
def h2t(J:It)(tc:TT)(te:TE)(D:Addr)(σ:St)(H:Hp)(Q:VK)(_:Tag Q):Prop:=∃ (n:Nat) (W:Nat->List V->Hp->Prop),W 0 [] H/\∀ i ys H,i<=n->W i ys H->H D=some (.lst ys) /\
 ((J.stop i H/\Q (.ref D) H)\/(i < n/\J.go i H/\ys.length < sizeLine/\∀ x H',J.yld i H x H'->tc (some x :: σ) H' fun b H1 =>
  if b=true then te (some x :: σ) H1 fun y H2=>H2 D=some (.lst ys)/\∀ H3,a2j D H2 H3->H3 D=some (.lst (ys++[y]))->W (i+1) (ys++[y]) H3
  else W (i+1) ys H1))
def i7p(wi:TI)(tc:TT)(te:TE):TE:=fun σ H Q=>wi σ H fun J H1=>∀ D H2,H1 D=none->Same H1 H2->H2 D=some (.lst [])->h2t J tc te D σ H2 Q ⟨⟩
section
variable {X:Cx}{scope:Scope}{x:Str}{pins:List (Addr×Obj)}{σ:St}{elt iter cnd:Expr}{px pos:Pos}{wi:TI}{te:TE}{tc:TT}
theorem g3k{s₂:Shared}{H1:Hp}{it:Addr}{fp:List Addr}{tn:Nat->Heap->Prop}{J:It}{Q:VK}{RR:Value->Addr->Result->Shared->Prop}{E:Value->Shared->Prop}{cl:List (Str×Addr)}
  (S:b9y X scope x) (hc:X.calm=true) (hcnd:∀ cl C s₃ H₃ fp,PT (a9g X scope cl C s₃ H₃ fp x) cnd tc) (he:∀ cl C s₃ H₃ fp,PE (a9g X scope cl C s₃ H₃ fp x) elt te)
  (hcl:∀ y c,cl.lookup y=some c->(y,NameKind.free)∈scope.names/\X.env.cells.lookup y=some c) (hcl2:∀ y,(y,NameKind.free)∈scope.names->cl.lookup y=X.env.cells.lookup y)
  (I2:Inv X pins σ H1 s₂) (T:Turn X.prog X.w X.K (.Name x px) J fp it tn) (st2:tn 0 s₂.heap) (f2:∀ b∈fp,d7u X pins H1 b) (h:∀ D H2,H1 D=none->Same H1 H2->H2 D=some (.lst [])->h2t J tc te D σ H2 Q ⟨⟩)
  (hRR:∀ (D C:Addr) (s':Shared) (H':Hp),(∃ m,s'.heap.Ns C m)->(∀ h' ,Heap.SameBut C s'.heap h'->Inv X pins σ H' { s' with heap:=h' })->d7u X pins H' C->Q (.ref D) H'->RR (.ref D) C (.ok .next) s') :
  wpAny (model X.prog X.w) X.A (newList []) (fun acc s₃=>wpAny (model X.prog X.w) X.A (newFunctionEnv scope X.env.globals cl [] X.env.qual none .none (some X.env)) (fun cenv s₄ =>
   codeAny (model X.prog X.w) X.A (.compStart (.ListComp elt [⟨.Name x px,iter,[cnd],0⟩] scope pos) 0 (.ref it) acc { cenv with scope:=relabel scope X.env }) (RR acc cenv.locals) s₄) E s₃) E s₂:=by
 have hfr:H1 s₂.heap.objs.size=none:=I2.hok.fresh (Nat.le_refl _)
 have hCW:=h s₂.heap.objs.size _ hfr (Same.upd hfr) a3j
 refine wpAny_newObj_type ?_
 have I3 : Inv X pins σ (upd H1 s₂.heap.objs.size (.lst [])) { s₂ with heap := s₂.heap.push { cls := .type "list", data := .seq ([] : List Value).toArray }, toks := s₂.toks } :=
  I2.laid (t':=s₂.toks) (fun b u e=>Heap.get?_push_of_some _ e) (Nat.le_refl _) ⟨Nat.zero_le _,[],0,.nil,Heap.get?_push_size _ rfl⟩
 have nD:∀ b∈fp,b≠s₂.heap.objs.size:=fun b hb=>by
  obtain⟨o,e,_⟩:=T.obj 0 _ st2 b hb
  exact Nat.ne_of_lt (Heap.lt_size e)
 have f3:∀ b∈fp,d7u X pins (upd H1 s₂.heap.objs.size (.lst [])) b:=fun b hb=>⟨by rw [a3p (nD b hb)]; exact (f2 b hb).1,(f2 b hb).2⟩
 generalize hH3:upd H1 s₂.heap.objs.size (.lst [])=H3 at *
 have st3 : tn 0 (s₂.heap.push { cls := .type "list", data := .seq ([] : List Value).toArray }) := T.keep _ _ _ st2 fun b _ o e => Heap.get?_push_of_some _ e
 have h2l : ∀ b ∈ fp, b < (s₂.heap.push { cls := .type "list", data := .seq ([] : List Value).toArray }).objs.size := fun b hb => by
  obtain⟨o,e,_⟩:=T.obj 0 _ st3 b hb
  exact Heap.lt_size e
 show wpAny (model X.prog X.w) X.A (newFunctionEnv scope X.env.globals cl [] X.env.qual none .none (some X.env)) _ E { s₂ with heap := s₂.heap.push { cls := .type "list", data := .seq ([] : List Value).toArray }, toks := s₂.toks }
 generalize hs3 : ({ s₂ with heap := s₂.heap.push { cls := .type "list", data := .seq ([] : List Value).toArray }, toks := s₂.toks } : Shared) = s₃ at *
 have eh : s₃.heap = s₂.heap.push { cls := .type "list", data := .seq ([] : List Value).toArray } := by rw [← hs3]
 rw [<- eh] at st3 h2l
 generalize s₂.heap.objs.size=D at *
 refine wpAny_newFunctionEnv S.d5l (by intro y hy; simp at hy) (fun h₁ hns₁ hsb₁=>?_) S.kind
 have hk1:∀ b o,s₃.heap.get? b=some o->h₁.get? b=some o:=fun b o e=>hsb₁.extBut b o (Nat.ne_of_lt (Heap.lt_size e)) (Heap.get?_push_of_some _ e)
 have J0:Inv (a9g X scope cl s₃.heap.objs.size s₃ H3 fp x) [] (none :: σ) H3 { s₃ with heap:=h₁,toks:=s₃.toks+([] : List (Str×Value)).length }:=I3.comp S hcl hcl2 f3 h2l hns₁ hk1 rfl rfl
 obtain⟨n0,W,w0,turn⟩:=hCW
 have loop:codeAny (model X.prog X.w) X.A (.compLoop (.ListComp elt [⟨.Name x px,iter,[cnd],0⟩] scope pos) 0 (.ref it) (.ref D) (compEnvC scope cl s₃.heap.objs.size X.env)) (RR (.ref D) s₃.heap.objs.size) { s₃ with heap:=h₁,toks:=s₃.toks+([] : List (Str×Value)).length }:=by
  refine codeAny_loop rfl (fun n s'=>∃ i ys o H',Inv (a9g X scope cl s₃.heap.objs.size s₃ H3 fp x) [] (o :: σ) H' s'/\tn i s'.heap/\(∀ b∈fp,H' b=none)/\W i ys H'/\i<=n0/\n=n0 - i) (fun n s5 hI=>?_) n0
   ⟨0,[],none,H3,J0,T.keep _ _ _ st3 (fun b _ o e=>hk1 b o e),fun b hb=>(f3 b hb).1,w0,Nat.zero_le _,rfl⟩
  obtain⟨i,ys,o5,H5,I5,st5,fr5,w5,hin,hnn⟩:=hI
  have stat:∀ {H':Hp},(∀ b∈fp,H' b=none)->∀ b∈fp,d7u (a9g X scope cl s₃.heap.objs.size s₃ H3 fp x) [] H' b:=fun hn b hb =>
   ⟨hn b hb,Nat.ne_of_lt (h2l b hb),fun z=>(List.mem_cons.mp (I3.d7t b z)).elim (fun q=>(f3 b hb).2.1 q) fun q=>(f3 b hb).2.2.1 q,.inl hb,fun y c e=>(f3 b hb).2.2.2.2.1 y c (hcl y c e).2,fun p hp=>absurd (show p∈([] : List (Addr×Obj)) from hp) (by simp)⟩
  show wpAny _ X.A ((compTurn (.ListComp elt [⟨.Name x px,iter,[cnd],0⟩] scope pos) 0 (.ref it) (.ref D) (compEnvC scope cl s₃.heap.objs.size X.env)).onRaise (fun x=>do noteFrame x (compEnvC scope cl s₃.heap.objs.size X.env); theTreesLotGoes x)) _ _ s5
  refine wpAny_noted ?_
  rw [compTurn_list]
  refine wpAny_bind (wpAny_standAt (wpAny_bind ?_))
  obtain⟨hD5,alt⟩:=turn i ys H5 hin w5
  rcases alt with ⟨stop,q⟩ | ⟨hlt,go,hsz,step⟩
  ·refine wpAny_mono (T.done (a9g X scope cl s₃.heap.objs.size s₃ H3 fp x) rfl rfl rfl hc i [] s5 _ H5 _ I5 (stat fr5) st5 stop) (fun r s6 ⟨hr,I6⟩=>?_) fun _ _ z=>z
   subst hr
   refine wpAny_pure ?_
   obtain⟨m6,hn6,_⟩:=I6.loc
   exact hRR D s₃.heap.objs.size s6 H5 ⟨m6,hn6⟩ (fun h' hs'=>I3.h9y f3 I6 hs') (I3.h9j (Nat.le_refl _) I6.free) q
  ·refine wpAny_mono (T.item (a9g X scope cl s₃.heap.objs.size s₃ H3 fp x) rfl rfl rfl hc i [] s5 _ H5 _ I5 (stat fr5) st5 go) (fun r s6 ⟨u,hr,h6⟩=>?_) fun _ _ z=>z
   subst hr
   refine wpAny_bind (wpAny_mono h6 (fun _ s7 ⟨v,H7,I7,r7,y7,st7,fr7⟩=>?_) fun _ _ z=>z)
   have I7':=I7.pinned (stat fr7) (T.obj _ _ st7)
   have G:=a2o (X:=a9g X scope cl s₃.heap.objs.size s₃ H3 fp x) (pos:=px) (i:=0) (x:=x) S.nd rfl (.inl (lookup_relabel_local S.own)) (.inr (lookup_relabel_local S.own))
   refine wpAny_bind (wpAny_mono (G _ s7 _ H7 v u (fun σ' H'=>σ'=some v :: σ/\H'=H7) I7' r7 ⟨rfl,rfl⟩) (fun _ s8 hs8=>?_) fun _ _ z=>False.elim z)
   obtain⟨σ8,H8,I8,rfl,rfl⟩:=hs8
   refine wpAny_bind (wpAny_mono (wpAny_tests_one (hcnd cl s₃.heap.objs.size s₃ H3 fp _ s8 _ _ _ I8 (step v H8 y7))) (fun ok sB hok=>?_) fun _ _ z=>False.elim z)
   obtain⟨HB,IB,qB⟩:=hok
   cases ok with
   | false =>
    have wB:W (i+1) ys HB:=by simpa using qB
    refine wpAny_pure ⟨rfl,n0 - (i+1),by omega,i+1,ys,some v,_,IB.c4o (pins:=[]) (pl:=d5j fp s7.heap),T.keep _ _ _ st7 (fun b hb o e=>(IB.pin (b,o) (List.mem_append_right _ (a7v hb e))).1),fun b hb=>?_,wB,hlt,rfl⟩
    obtain⟨o,e,d⟩:=T.obj _ _ st7 b hb
    exact (IB.pin (b,o) (List.mem_append_right _ (a7v hb e))).2.1
   | true =>
   rw [if_pos rfl] at qB
   refine wpAny_bind (wpAny_bind (wpAny_mono (he cl s₃.heap.objs.size s₃ H3 fp _ sB _ _ _ IB qB) (fun yv s9 hs9=>?_) fun _ _ z=>False.elim z))
   obtain⟨y,H9,I9,r9,hD9,k9⟩:=hs9
   refine wpAny_bind (wpAny_mono (d2i (X:=a9g X scope cl s₃.heap.objs.size s₃ H3 fp x) _ s9 _ H9 (.ref D) [y] (.ref D) [yv] (fun _ H'=>H'=upd H9 D (.lst (ys++[y]))) I9 rfl (.cons r9 .nil) ⟨D,ys,y,rfl,rfl,hD9,hsz,rfl⟩) (fun _ sA hsA=>?_) fun _ _ z=>False.elim z)
   obtain⟨_,HA,IA,_,rfl⟩:=hsA
   refine wpAny_pure ?_
   have wA:=k9 _ a2j.upd a3j
   refine wpAny_pure ⟨rfl,n0 - (i+1),by omega,i+1,ys++[y],some v,_,IA.c4o (pins:=[]) (pl:=d5j fp s7.heap),T.keep _ _ _ st7 (fun b hb o e=>(IA.pin (b,o) (List.mem_append_right _ (List.mem_append_right _ (a7v hb e)))).1),fun b hb=>?_,wA,hlt,rfl⟩
   obtain⟨o,e,d⟩:=T.obj _ _ st7 b hb
   exact (IA.pin (b,o) (List.mem_append_right _ (List.mem_append_right _ (a7v hb e)))).2.1
 exact codeAny_compStart_list loop (T.self _ 0 _ _ _ (T.keep _ _ _ st3 fun b _ o e=>hk1 b o e) loop)
theorem g6z(hi:PI X (.Name x px) iter wi)(hcnd:∀ cl C s₃ H₃ fp,PT (a9g X scope cl C s₃ H₃ fp x) cnd tc)(he:∀ cl C s₃ H₃ fp,PE (a9g X scope cl C s₃ H₃ fp x) elt te)(S:b9y X scope x)(hc:X.calm=true)
  (hs:∀ x,foldedSetIterable iter X.env x=pure x:=by intro _; rfl):PE X (.ListComp elt [⟨.Name x px,iter,[cnd],0⟩] scope pos) (i7p wi tc te):=by
 intro pins s σ H Q I h
 obtain⟨cl,hclos,hcl,hcl2⟩:=d0o (env:=X.env) (sc:=scope) fun y hy=>I.ok.has y (S.free _ hy rfl)
 rw [eval_ListComp]
 refine wpAny_comprehension_free (use:=none) rfl hs hclos S.kind S.loc ?_
 refine thn (hi pins s σ H _ I h) fun v s1 h1=>thn h1 fun itv s2 h2=>?_
 obtain⟨it,fp,tn,J,H2,e,I2,T,st2,f2,hW⟩:=h2
 subst e
 exact g3k (RR:=fun acc C=>compPost (model X.prog X.w) X.A X.xe none (EP X pins σ Q) acc C) S hc hcnd he hcl hcl2 I2 T st2 f2 hW fun D C s' H' hm hI _ hq =>
  hm.elim fun m hn=>⟨m,hn,fun h' hs'=>⟨.ref D,H',hI h' hs',rfl,hq⟩⟩
end
theorem d2t{K:PySem.W.Frag}{a D:Addr}{xs:List V}{tc:TT}{te:TE}{σ:St}{H0 H:Hp}{Q:VK}(p:V->Bool)(g:V->V)(n0:H0 D=none)(S:Same H0 H)(hD:H D=some (.lst []))(hS:SqL K H0 a xs)(hsz:xs.length<=sizeLine)
  (hc:∀ (i:Nat) x H' (Q':Bool->Hp->Prop),xs[i]? = some x->Same H0 H'->Q' (p x) H'->tc (some x :: σ) H' Q')
  (he:∀ (i:Nat) x H' (Q':VK),xs[i]? = some x->p x=true->Same H0 H'->Q' (g x) H'->te (some x :: σ) H' Q')
  (q:∀ H',Same H0 H'->H' D=some (.lst ((xs.filter p).map g))->Q (.ref D) H'):h2t (Itl K a) tc te D σ H Q ⟨⟩:=by
 refine⟨xs.length,fun i ys H'=>Same H0 H'/\H' D=some (.lst ys)/\ys=((xs.take i).filter p).map g,⟨S,hD,by simp⟩,fun i ys H' hi w=>?_⟩
 obtain⟨S',h',e⟩:=w
 refine⟨h',?_⟩
 have e2:SqL K H' a xs:=S'.seq hS
 by_cases hlt:i < xs.length
 ·have hyl:ys.length<=i:=by
   rw [e,List.length_map]
   exact Nat.le_trans (List.length_filter_le _ _) (by rw [List.length_take]; omega)
  refine .inr ⟨hlt,⟨xs,xs[i],e2,by simp [hlt]⟩,by omega,fun x H2 y=>?_⟩
  obtain⟨e',y⟩:=y
  subst e'
  have hx:=y xs e2
  have et:xs.take (i+1)=xs.take i++[x]:=by rw [List.take_add_one,hx]; rfl
  refine hc i x _ _ hx S' ?_
  cases hp:p x with
  | true =>
   rw [if_pos rfl]
   refine he i x _ _ hx hp S' ⟨h',fun H3 s3 h3=>⟨S'.step n0 s3,h3,?_⟩⟩
   rw [et,List.filter_append,List.map_append,<- e,List.filter_cons,if_pos hp]
   rfl
  | false =>
   rw [if_neg Bool.false_ne_true]
   refine⟨S',h',?_⟩
   rw [et,List.filter_append,List.map_append,<- e,List.filter_cons,if_neg (by rw [hp]; exact Bool.false_ne_true)]
   simp
 ·have ei:i=xs.length:=by omega
  subst ei
  refine .inl ⟨⟨xs,e2,Nat.le_refl _⟩,q H' S' ?_⟩
  rw [h',e,List.take_length]
section
variable {X:Cx}{k:Nat}{f C:Addr}{fd:FuncData}{ps:List Str}{sp:Sp}{dvs:List V}{ds:List Value}{E:XK}{x m:Str}{p pos apos:Pos}{e o:Expr}{es:List Expr}{ta:TE}{t:TA}
end
end L2
namespace L2
open PySem PySem.Spec PyProof.Rows
noncomputable def rSl3:V->Option Int->Hp->VK->Prop:=fun x st H Q=>match x with
 | .ref a=>(match H a with
  | some (.lst xs)=>st≠some 0/\∀ ys:List V,ys.length<=xs.length->(∀ y∈ys,y∈xs)->New H (.lst ys) Q ⟨⟩
  | _=>False)
 | _=>False
def tSl3(te:TE)(tl th ts:TO):TE:=fun σ H Q=>te σ H fun x H1=>tl σ H1 fun _ H2=>th σ H2 fun _ H3=>ts σ H3 fun st H4=>rSl3 x st H4 Q
section
variable {X:Cx}
end
section
variable {prog:Program}{w:World}{A:Around}{E:Value->Shared->Prop}{s:Shared}
end
noncomputable def j2d:V->V->V->Hp->(Hp->Prop)->Prop:=fun o i v H Q=>match o,i with
 | .ref p,.int k=>(match H p with
  | some (.lst xs)=>(0<=k/\k < xs.length)/\∀ H1,a2j p H H1->H1 p=some (.lst (xs.set k.toNat v))->Q H1
  | _=>False)
 | _,_=>False
theorem j2e{X:Cx}:j0k X j2d:=by
 intro pins s σ H o i v ov iv u Q I ro ri rv h
 cases o <;> cases i <;> first | exact False.elim h | skip
 ·rename_i p k
  have h':(match H p with
   | some (.lst xs)=>(0<=k/\k < xs.length)/\∀ H1,a2j p H H1->H1 p=some (.lst (xs.set k.toNat v))->Q H1
   | _=>False):=h
  split at h'
  ·rename_i xs e
   obtain⟨⟨h0,h1⟩,q⟩:=h'
   exact set_list pins s σ H _ _ v ov iv u Q I ro ri rv ⟨p,xs,k,k.toNat,rfl,rfl,e,by unfold ixN; rw [if_pos h0,if_pos h1],q _ a2j.upd a3j⟩
  ·exact h'.elim
theorem h7p{K:PySem.W.Frag}{a D:Addr}{xs:List V}{te:TE}{σ:St}{H0 H:Hp}{Q:VK}(zs:List V)(hz:zs.length=xs.length)(n0:H0 D=none)(S:Same H0 H)(hD:H D=some (.lst []))(hS:SqL K H0 a xs)(hsz:xs.length<=sizeLine)
  (hs:∀ (i:Nat) x z H' (Q':VK),xs[i]? = some x->zs[i]? = some z->Same H0 H'->Q' z H'->te (some x :: σ) H' Q') (q:∀ H',Same H0 H'->H' D=some (.lst zs)->Q (.ref D) H'):f5o (Itl K a) te D σ H Q ⟨⟩:=by
 refine a9z (fun i ys H'=>Same H0 H'/\H' D=some (.lst ys)/\ys=zs.take i) ⟨S,hD,by simp⟩ hsz (fun i ys H' hi p=>?_) (fun i x ys H' hx p=>?_) (fun ys H' p=>?_)
 ·refine⟨p.2.1,p.1.seq hS,?_⟩
  rw [p.2.2,List.length_take]
  omega
 ·have hi:i < zs.length:=by rw [hz]; exact (List.getElem?_eq_some_iff.mp hx).1
  have hzi:zs[i]? = some zs[i]:=List.getElem?_eq_getElem hi
  refine hs i x _ H' _ hx hzi p.1 ⟨p.2.1,fun H3 s3 h3=>⟨p.1.step n0 s3,h3,?_⟩⟩
  rw [p.2.2,List.take_add_one,hzi]
  rfl
 ·refine q H' p.1 ?_
  rw [p.2.1,p.2.2,<- hz,List.take_length]
end L2
namespace L2
open PySem PySem.Spec PyProof.Rows
section
variable {X:Cx}{pins:List (Addr×Obj)}{σ:St}{H:Hp}{s:Shared}
theorem Inv.h2u{t':Nat}{h':Heap}{fp:List Addr}(I:Inv X pins σ H s)(k:∀ b o,b∉fp->s.heap.get? b=some o->h'.get? b=some o)(hf:∀ b∈fp,d7u X pins H b):Inv X pins σ H { s with heap:=h',toks:=t' }:=by
 have nit:∀ b u,H b=some u->b∉fp:=fun b u e z=>by rw [(hf b z).1] at e; cases e
 refine I.call' (s':={ s with heap:=h',toks:=t' }) (ch:=fp) rfl ⟨fun b o e n hb hx=>k b o hx e,fun b o e n hb hx=>⟨o.slots,k b o hx e⟩,fun _ _ _ n _=>n,fun b o e hx=>⟨o,k b o hx e⟩,fun _ _ q=>q,fun _ _ _ q=>q,fun _ ps q=>⟨#[],by rw [q]; simp⟩⟩ ?_ I.bare fun b hb=>⟨(hf b hb).2.2.2.1,(hf b hb).2.1,(hf b hb).2.2.2.2.1,(hf b hb).2.2.2.2.2⟩
 intro b u e
 refine (I.hok b u e).stay (fun c v hc q=>k c v ?_ q) (fun _ q=>q) fun _ _ q=>q
 rcases hc with z | z
 ·rw [z]; exact nit b u e
 ·exact nit c _ z
end
def ItB (b : Bool) (h : Heap) (it l : Addr) (i : Nat) : Prop := ∃ o, h.get? it = some o ∧ o.cls = .type (cond b "list_iterator" "tuple_iterator") ∧ o.data = .fields #[.ref l, .int i 0]
def SqB (b : Bool) (h : Heap) (l : Addr) (items : Array Value) : Prop := ∃ o, h.get? l = some o ∧ o.cls = .type (cond b "list" "tuple") ∧ ∃ n, o.data = .seq items n
theorem ItB.at{b:Bool}{h h':Heap}{it l:Addr}{i:Nat}(x:ItB b h it l i)(k:∀ o,h.get? it=some o->h'.get? it=some o):ItB b h' it l i:=let ⟨o,e,r⟩:=x; ⟨o,k o e,r⟩
theorem SqB.at{b:Bool}{h h':Heap}{l:Addr}{items:Array Value}(x:SqB b h l items)(k:∀ o,h.get? l=some o->h'.get? l=some o):SqB b h' l items:=let ⟨o,e,r⟩:=x; ⟨o,k o e,r⟩
section
variable {prog:Program}{w:World}{A:Around}{E:Value->Shared->Prop}{s:Shared}
theorem g3l{it t:Addr}{i:Nat}{items:Array Value}{x:Value}{Q:Value->Shared->Prop}(hit:s.heap.IsTupleIter it t i)(ht:s.heap.IsTuple t items)(hx:items[i]? = some x)
  (hQ:∀ h',h'.IsTupleIter it t (i+1)->Heap.SameBut it s.heap h'->Q x { s with heap:=h' }):wpAny (model prog w) A (Builtin.SmallTypes.nextOf (.ref it)) Q E s:=by
 obtain⟨o,ho,hc,hd⟩:=id hit
 obtain⟨ol,hol,_,nl,hdl⟩:=ht
 unfold Builtin.SmallTypes.nextOf
 refine wpAny_bind (wpAny_callSpecial?_slot (name := Str.ofString "__next__") hit.typeIs F.slot_tuple_iterator_next
  (wpAny_call_entry F.slot_tuple_iterator_next hit.typeIs F.entry_tuple_iterator_next ?_ (F.args_tuple_iterator_next_1 _)))
 show wpAny _ _ (field (.ref it) 0 >>= _) _ _ s
 refine wpAny_bind (wpAny_field ho hd (x:=.ref t) rfl ?_)
 show wpAny _ _ (if (Value.ref t == Value.none)=true then _ else _) _ _ s
 rw [if_neg (show ¬ ((Value.ref t == Value.none)=true) from Bool.false_ne_true)]
 show wpAny _ _ (field (.ref it) 1 >>= _) _ _ s
 refine wpAny_bind (wpAny_field ho hd (x:=.int i 0) rfl ?_)
 show wpAny _ _ (seqItems? (.ref t) >>= _) _ _ s
 refine wpAny_bind (wpAny_seqItems hol hdl ?_)
 simp only [Int.toNat_natCast,hx]
 refine wpAny_bind (wpAny_setField ho hd (by simp) (wpAny_pure ⟨x,rfl,wpAny_pure (hQ _ ?_ (Heap.SameBut.update ..))⟩))
 exact⟨_,Heap.get?_update_self _ ho (Obj.isFreed_of_fields (Obj.data_mapFields hd _)),(Obj.cls_mapFields ..).trans hc,by
  rw [Obj.data_mapFields hd]; simp [rawInt]⟩
theorem g8k{it t:Addr}{i:Nat}{items:Array Value}{Q:Value->Shared->Prop}(hh:A.handled=none)(hit:s.heap.IsTupleIter it t i)(ht:s.heap.IsTuple t items)(hx:items[i]? = none)
  (hE : ∀ h' e, Heap.ExtBut it s.heap h' → (∃ o, h'.get? e = some o ∧ o.cls = .type "StopIteration") → E (.ref e) { s with heap := h' }) : wpAny (model prog w) A (Builtin.SmallTypes.nextOf (.ref it)) Q E s := by
 obtain⟨o,ho,hc,hd⟩:=id hit
 obtain⟨ol,hol,_,nl,hdl⟩:=ht
 unfold Builtin.SmallTypes.nextOf
 refine wpAny_bind (wpAny_callSpecial?_slot (name := Str.ofString "__next__") hit.typeIs F.slot_tuple_iterator_next
  (wpAny_call_entry F.slot_tuple_iterator_next hit.typeIs F.entry_tuple_iterator_next ?_ (F.args_tuple_iterator_next_1 _)))
 show wpAny _ _ (field (.ref it) 0 >>= _) _ _ s
 refine wpAny_bind (wpAny_field ho hd (x:=.ref t) rfl ?_)
 show wpAny _ _ (if (Value.ref t == Value.none)=true then _ else _) _ _ s
 rw [if_neg (show ¬ ((Value.ref t == Value.none)=true) from Bool.false_ne_true)]
 show wpAny _ _ (field (.ref it) 1 >>= _) _ _ s
 refine wpAny_bind (wpAny_field ho hd (x:=.int i 0) rfl ?_)
 show wpAny _ _ (seqItems? (.ref t) >>= _) _ _ s
 refine wpAny_bind (wpAny_seqItems hol hdl ?_)
 simp only [Int.toNat_natCast,hx]
 refine wpAny_bind (wpAny_rule (wpAny_bind (wpAny_setField ho hd (by simp) ?_)))
 show wpAny _ _ (newExc (.type "StopIteration") [] >>= _) _ _ _
 refine wpAny_bind ?_
 simp only [newExc,newTuple]
 refine wpAny_bind (wpAny_newObj_type ?_ (by size_fits))
 refine wpAny_bind (m:=firstArgMember _ _) (wpAny_of_eq (a:=Value.none) (by first | rfl | (simp only [firstArgMember]; rfl)) ?_)
 refine wpAny_newObj_type ?_ (by size_fits)
 simp only [raiseNew]
 refine wpAny_bind (wpAny_handled ?_)
 first | rw [show A.in1.handled=none from hh] | rw [hh]
 refine wpAny_bind (wpAny_pure (wpAny_throw ?_))
 exact hE _ _ (((Heap.SameBut.update ..).extBut.push _).push _) ⟨_,Heap.get?_push_size _ rfl,rfl⟩
theorem g3m{b:Bool}{it l:Addr}{i:Nat}{items:Array Value}{x:Value}{Q:Value->Shared->Prop}(hit:ItB b s.heap it l i)(hl:SqB b s.heap l items)(hx:items[i]? = some x)
  (hQ:∀ h',ItB b h' it l (i+1)->Heap.SameBut it s.heap h'->Q x { s with heap:=h' }):wpAny (model prog w) A (Builtin.SmallTypes.nextOf (.ref it)) Q E s:=by
 cases b with
 | true=>exact wpAny_nextOf_list_item hit hl hx hQ
 | false=>exact g3l hit hl hx hQ
theorem i0k{b:Bool}{it l:Addr}{i:Nat}{items:Array Value}{Q:Value->Shared->Prop}(hh:A.handled=none)(hit:ItB b s.heap it l i)(hl:SqB b s.heap l items)(hx:items[i]? = none)
  (hE : ∀ h' e, Heap.ExtBut it s.heap h' → (∃ o, h'.get? e = some o ∧ o.cls = .type "StopIteration") → E (.ref e) { s with heap := h' }) : wpAny (model prog w) A (Builtin.SmallTypes.nextOf (.ref it)) Q E s := by
 cases b with
 | true=>exact wpAny_nextOf_list_end hh hit hl hx hE
 | false=>exact g8k hh hit hl hx hE
noncomputable def itO (b : Bool) (l : Addr) : Obj := { cls := .type (cond b "list_iterator" "tuple_iterator"), data := .fields #[.ref l, .int 0 0] }
theorem i7q{b:Bool}{l:Addr}{items:Array Value}{Q:Value->Shared->Prop}(hl:SqB b s.heap l items)(hQ:Q (.ref s.heap.objs.size) { s with heap:=s.heap.push (itO b l) }):wpAny (model prog w) A (pyIter (.ref l)) Q E s:=by
 cases b with
 | true=>exact wpAny_pyIter_list hl hQ
 | false=>exact wpAny_pyIter_tuple hl hQ
theorem h2v{b1 b2:Bool}{z TI TO i1 i2 l1 l2:Addr}{k:Nat}{xs ys:Array Value}{x y a b:Value}{Q:Option Value->Shared->Prop}(D:ZipApart z TI TO i1 i2 l1 l2)
  (hz:IsZip s.heap z TI TO .none) (hTI:IsPair s.heap TI (.ref i1) (.ref i2)) (hTO:IsPair s.heap TO a b)
  (h1:ItB b1 s.heap i1 l1 k) (h2:ItB b2 s.heap i2 l2 k) (hl1:SqB b1 s.heap l1 xs) (hl2:SqB b2 s.heap l2 ys) (hx:xs[k]? = some x) (hy:ys[k]? = some y)
  (hQ:∀ h',IsZip h' z TI TO (rawInt s.heap.objs.size)->IsPair h' TO x y->ItB b1 h' i1 l1 (k+1)->ItB b2 h' i2 l2 (k+1)->IsPair h' s.heap.objs.size x y ->
   (∀ c o,c≠z->c≠TO->c≠i1->c≠i2->s.heap.get? c=some o->h'.get? c=some o)->Q (some (.ref s.heap.objs.size)) { s with heap:=h' }) :
  wpAny (model prog w) A (pyNext (.ref z)) Q E s:=by
 have hT : s.TypeIs (.ref z) "zip" := ⟨_, hz, rfl⟩
 unfold pyNext
 refine wpAny_bind (wpAny_attempt (wpAny_callSpecial?_slot (name := Str.ofString "__next__") hT F.slot_zip_next (wpAny_call_entry F.slot_zip_next hT F.entry_zip_next ?_ (F.args_zip_next_1 _))))
 show wpAny _ _ (field (.ref z) 2 >>= _) _ _ _
 refine wpAny_bind (wpAny_field hz rfl (x:=.bool false) rfl ?_)
 show wpAny _ _ (field (.ref z) 3 >>= _) _ _ _
 refine wpAny_bind (wpAny_field hz rfl (x:=.ref TI) rfl ?_)
 refine wpAny_bind (wpAny_seqItems hTI rfl ?_)
 show wpAny _ _ (Builtin.SmallTypes.ownedTupleIsFree (.ref z) >>= _) _ _ _
 refine wpAny_bind ?_
 unfold Builtin.SmallTypes.ownedTupleIsFree
 refine wpAny_bind (wpAny_field hz rfl (x:=.none) rfl (wpAny_pure ?_))
 simp only [if_true]
 refine wpAny_bind (wpAny_rule ?_)
 refine wpAny_bind (wpAny_field hz rfl (x:=.ref TO) rfl ?_)
 refine wpAny_bind (wpAny_setField_rec hz (by simp) fun g1 hz1 s1=>?_)
 replace hz1:IsZip g1 z TI TO .ellipsis:=hz1
 refine wpAny_bind ?_
 simp only [List.zipIdx_cons,List.zipIdx_nil,List.forIn_cons,List.forIn_nil]
 refine wpAny_bind (wpAny_bind (wpAny_onRaise ?_))
 show wpAny _ _ (Builtin.SmallTypes.nextOf (.ref i1) >>= _) _ _ _
 refine wpAny_bind (g3m (h1.at fun o e=>s1.extBut _ _ D.i1z e) (hl1.at fun o e=>s1.extBut _ _ D.l1z e) hx fun g2 h12 s2=>wpAny_pure ?_)
 have i7r:IsPair g2 TO a b:=s2.extBut _ _ D.TOi1 (s1.extBut _ _ D.TOz hTO)
 refine wpAny_bind (wpAny_seqItems i7r rfl ?_)
 refine wpAny_bind (wpAny_updateSeq_pair i7r fun g3 hTO3 s3=>?_)
 replace hTO3:IsPair g3 TO x b:=hTO3
 refine wpAny_bind (wpAny_letGo (wpAny_pure ?_))
 refine wpAny_bind (wpAny_bind (wpAny_onRaise ?_))
 show wpAny _ _ (Builtin.SmallTypes.nextOf (.ref i2) >>= _) _ _ _
 refine wpAny_bind (g3m (h2.at fun o e=>s3.extBut _ _ D.TOi2.symm (s2.extBut _ _ D.i12.symm (s1.extBut _ _ D.i2z e))) (hl2.at fun o e=>s3.extBut _ _ D.l2TO (s2.extBut _ _ D.l2i1 (s1.extBut _ _ D.l2z e))) hy fun g4 h24 s4=>wpAny_pure ?_)
 have j4r:IsPair g4 TO x b:=s4.extBut _ _ D.TOi2 hTO3
 refine wpAny_bind (wpAny_seqItems j4r rfl ?_)
 refine wpAny_bind (wpAny_updateSeq_pair j4r fun g5 hTO5 s5=>?_)
 replace hTO5:IsPair g5 TO x y:=hTO5
 refine wpAny_bind (wpAny_letGo (wpAny_pure (wpAny_pure ?_)))
 refine wpAny_bind (wpAny_seqItems hTO5 rfl ?_)
 refine wpAny_bind (wpAny_newTuple ?_)
 have hsz:g5.objs.size=s.heap.objs.size:=by rw [s5.1,s4.1,s3.1,s2.1,s1.1]
 have hz5:IsZip g5 z TI TO .ellipsis:=s5.extBut _ _ D.TOz.symm (s4.extBut _ _ D.i2z.symm (s3.extBut _ _ D.TOz.symm (s2.extBut _ _ D.i1z.symm hz1)))
 have h15:ItB b1 g5 i1 l1 (k+1):=h12.at fun o e=>s5.extBut _ _ D.TOi1.symm (s4.extBut _ _ D.i12 (s3.extBut _ _ D.TOi1.symm e))
 have h25:ItB b2 g5 i2 l2 (k+1):=h24.at fun o e=>s5.extBut _ _ D.TOi2.symm e
 have hzlt:z < g5.objs.size:=Heap.lt_size hz5
 show wpAny _ _ (Builtin.SmallTypes.ownedTupleHandOut (.ref z) (.ref g5.objs.size) >>= _) _ _ _
 refine wpAny_bind ?_
 unfold Builtin.SmallTypes.ownedTupleHandOut
 have hz6 : IsZip (g5.push { cls := .type "tuple", data := .seq #[x, y] }) z TI TO .ellipsis := Heap.get?_push_of_some _ hz5
 refine wpAny_bind (wpAny_setField_rec hz6 (by simp) fun g7 hz7 s7=>?_)
 replace hz7:IsZip g7 z TI TO (rawInt g5.objs.size):=hz7
 refine wpAny_setField_rec hz7 (by simp) fun g8 hz8 s8=>?_
 replace hz8:IsZip g8 z TI TO (rawInt g5.objs.size):=hz8
 have up:∀ c o,c≠z->g5.get? c=some o->g8.get? c=some o:=fun c o c1 e=>s8.extBut _ _ c1 (s7.extBut _ _ c1 (Heap.get?_push_of_some _ e))
 have hT8:IsPair g8 g5.objs.size x y:=s8.extBut _ _ (Nat.ne_of_gt hzlt) (s7.extBut _ _ (Nat.ne_of_gt hzlt) (Heap.get?_push_size _ rfl))
 rw [hsz] at hz8 hT8
 refine wpAny_pure ⟨_,rfl,wpAny_pure ?_⟩
 show Q (some (.ref g5.objs.size)) _
 rw [hsz]
 exact hQ g8 hz8 (up _ _ D.TOz hTO5) (h15.at fun o e=>up _ o D.i1z e) (h25.at fun o e=>up _ o D.i2z e) hT8 fun c o c1 c2 c3 c4 e =>
  up c o c1 (s5.extBut _ _ c2 (s4.extBut _ _ c4 (s3.extBut _ _ c2 (s2.extBut _ _ c3 (s1.extBut _ _ c1 e)))))
theorem h7q{b1 b2:Bool}{z TI TO i1 i2 l1 l2:Addr}{k:Nat}{xs ys:Array Value}{a b:Value}{Q:Option Value->Shared->Prop}(hh:A.handled=none)(D:ZipApart z TI TO i1 i2 l1 l2)
  (hz:IsZip s.heap z TI TO .none) (hTI:IsPair s.heap TI (.ref i1) (.ref i2)) (hTO:IsPair s.heap TO a b)
  (h1:ItB b1 s.heap i1 l1 k) (h2:ItB b2 s.heap i2 l2 k) (hl1:SqB b1 s.heap l1 xs) (hl2:SqB b2 s.heap l2 ys) (hend:xs[k]? = none\/ys[k]? = none)
  (hQ:∀ h',(∀ c o,c≠z->c≠TO->c≠i1->c≠i2->s.heap.get? c=some o->h'.get? c=some o)->Q none { s with heap:=h' }):wpAny (model prog w) A (pyNext (.ref z)) Q E s:=by
 have hT : s.TypeIs (.ref z) "zip" := ⟨_, hz, rfl⟩
 unfold pyNext
 have fin : ∀ (h' : Heap) (e : Addr), (∀ c o, c ≠ z → c ≠ TO → c ≠ i1 → c ≠ i2 → s.heap.get? c = some o → h'.get? c = some o) → (∃ o, h'.get? e = some o ∧ o.cls = .type "StopIteration") →
   wpAny (model prog w) A (isInstance (.ref e) (.type "StopIteration") >>= fun b => if b = true then pure none else throw (.ref e)) Q E { s with heap := h' } := fun h' e hk he => by
  obtain⟨o,ho,hc⟩:=he
  refine wpAny_bind (wpAny_isInstance (T := "StopIteration") (b := true) ⟨o, ho, hc⟩ isSubtype_stop ?_)
  exact wpAny_pure (hQ _ hk)
 refine wpAny_bind (wpAny_attempt (wpAny_callSpecial?_slot (name := Str.ofString "__next__") hT F.slot_zip_next (wpAny_call_entry F.slot_zip_next hT F.entry_zip_next ?_ (F.args_zip_next_1 _))))
 show wpAny _ _ (field (.ref z) 2 >>= _) _ _ _
 refine wpAny_bind (wpAny_field hz rfl (x:=.bool false) rfl ?_)
 show wpAny _ _ (field (.ref z) 3 >>= _) _ _ _
 refine wpAny_bind (wpAny_field hz rfl (x:=.ref TI) rfl ?_)
 refine wpAny_bind (wpAny_seqItems hTI rfl ?_)
 show wpAny _ _ (Builtin.SmallTypes.ownedTupleIsFree (.ref z) >>= _) _ _ _
 refine wpAny_bind ?_
 unfold Builtin.SmallTypes.ownedTupleIsFree
 refine wpAny_bind (wpAny_field hz rfl (x:=.none) rfl (wpAny_pure ?_))
 simp only [if_true]
 refine wpAny_bind (wpAny_rule ?_)
 refine wpAny_bind (wpAny_field hz rfl (x:=.ref TO) rfl ?_)
 refine wpAny_bind (wpAny_setField_rec hz (by simp) fun g1 hz1 s1=>?_)
 replace hz1:IsZip g1 z TI TO .ellipsis:=hz1
 refine wpAny_bind ?_
 simp only [List.zipIdx_cons,List.zipIdx_nil,List.forIn_cons,List.forIn_nil]
 refine wpAny_bind (wpAny_bind (wpAny_onRaise ?_))
 show wpAny _ _ (Builtin.SmallTypes.nextOf (.ref i1) >>= _) _ _ _
 cases hx:xs[k]? with
 | none =>
  refine wpAny_bind (i0k hh (h1.at fun o e=>s1.extBut _ _ D.i1z e) (hl1.at fun o e=>s1.extBut _ _ D.l1z e) hx fun g2 e s2 he=>?_)
  obtain⟨oe,hoe,hce⟩:=he
  have hz2:IsZip g2 z TI TO .ellipsis:=s2 _ _ D.i1z.symm hz1
  have hez:e≠z:=fun x=>by subst x; rw [hz2] at hoe; cases hoe; simp at hce
  exact wpAny_setField_rec hz2 (by simp) fun g3 _ s3=>fin g3 e (fun c o c1 _ c3 _ x=>s3.extBut _ _ c1 (s2 _ _ c3 (s1.extBut _ _ c1 x))) ⟨oe,s3.extBut _ _ hez hoe,hce⟩
 | some x =>
  have hy:ys[k]? = none:=by
   rcases hend with h | h
   ·rw [hx] at h; cases h
   ·exact h
  refine wpAny_bind (g3m (h1.at fun o e=>s1.extBut _ _ D.i1z e) (hl1.at fun o e=>s1.extBut _ _ D.l1z e) hx fun g2 h12 s2=>wpAny_pure ?_)
  have i7r:IsPair g2 TO a b:=s2.extBut _ _ D.TOi1 (s1.extBut _ _ D.TOz hTO)
  refine wpAny_bind (wpAny_seqItems i7r rfl ?_)
  refine wpAny_bind (wpAny_updateSeq_pair i7r fun g3 hTO3 s3=>?_)
  refine wpAny_bind (wpAny_letGo (wpAny_pure ?_))
  refine wpAny_bind (wpAny_bind (wpAny_onRaise ?_))
  show wpAny _ _ (Builtin.SmallTypes.nextOf (.ref i2) >>= _) _ _ _
  refine wpAny_bind (i0k hh (h2.at fun o e=>s3.extBut _ _ D.TOi2.symm (s2.extBut _ _ D.i12.symm (s1.extBut _ _ D.i2z e))) (hl2.at fun o e=>s3.extBut _ _ D.l2TO (s2.extBut _ _ D.l2i1 (s1.extBut _ _ D.l2z e))) hy fun g4 e s4 he=>?_)
  obtain⟨oe,hoe,hce⟩:=he
  have hz4:IsZip g4 z TI TO .ellipsis:=s4 _ _ D.i2z.symm (s3.extBut _ _ D.TOz.symm (s2.extBut _ _ D.i1z.symm hz1))
  have hez:e≠z:=fun x=>by subst x; rw [hz4] at hoe; cases hoe; simp at hce
  exact wpAny_setField_rec hz4 (by simp) fun g5 _ s5=>fin g5 e (fun c o c1 c2 c3 c4 x=>s5.extBut _ _ c1 (s4 _ _ c4 (s3.extBut _ _ c2 (s2.extBut _ _ c3 (s1.extBut _ _ c1 x))))) ⟨oe,s5.extBut _ _ hez hoe,hce⟩
noncomputable abbrev zB1(b1:Bool)(h:Heap)(l1:Addr):Heap:=h.push (itO b1 l1)
noncomputable abbrev zB2(b1 b2:Bool)(h:Heap)(l1 l2:Addr):Heap:=(zB1 b1 h l1).push (itO b2 l2)
noncomputable abbrev zB3 (b1 b2 : Bool) (h : Heap) (l1 l2 : Addr) : Heap := (zB2 b1 b2 h l1 l2).push { cls := .type "tuple", data := .seq #[.ref h.objs.size, .ref (zB1 b1 h l1).objs.size] }
noncomputable abbrev zB4 (b1 b2 : Bool) (h : Heap) (l1 l2 : Addr) : Heap := (zB3 b1 b2 h l1 l2).push { cls := .type "tuple", data := .seq #[.none, .none] }
noncomputable abbrev zB5 (b1 b2 : Bool) (h : Heap) (l1 l2 : Addr) : Heap := (zB4 b1 b2 h l1 l2).push { cls := .type "zip", data := .fields #[.none, .bool false, .bool false, .ref (zB2 b1 b2 h l1 l2).objs.size, .ref (zB3 b1 b2 h l1 l2).objs.size] }
theorem g8l(b1 b2:Bool)(l1 l2:Addr)(xs ys:Array Value) :
  Meets (Builtin.«zip.__new__» ⟨[.type "zip", .ref l1, .ref l2], []⟩) (fun _ R s => SqB b1 s.heap l1 xs ∧ SqB b2 s.heap l2 ys ∧
   R (.ok (.ret (.ref (zB4 b1 b2 s.heap l1 l2).objs.size))) { s with heap:=zB5 b1 b2 s.heap l1 l2 }) :=
 .of_wp fun prog w A R s h=>by
  obtain⟨hp,g,d,tk,os⟩:=s; obtain⟨hl1,hl2,h⟩:=h
  have hsub:=sub_zip
  have hL1:SqB b1 (Shared.heap ⟨hp,g,d,tk,os⟩) l1 xs:=hl1
  have hL2:SqB b2 (Shared.heap ⟨hp.push (itO b1 l1),g,d,tk,os⟩) l2 ys:=hl2.at fun o e=>Heap.get?_push_of_some _ e
  wp_walk using i7q hL1,i7q hL2
  exact⟨_,rfl,h⟩
theorem h7r{b1 b2:Bool}{l1 l2:Addr}{xs ys:Array Value}{Q:Value->Shared->Prop}(hl1:SqB b1 s.heap l1 xs)(hl2:SqB b2 s.heap l2 ys)
  (h:∀ h',IsZip h' (s.heap.objs.size+4) (s.heap.objs.size+2) (s.heap.objs.size+3) .none->IsPair h' (s.heap.objs.size+2) (.ref s.heap.objs.size) (.ref (s.heap.objs.size+1)) ->
   IsPair h' (s.heap.objs.size+3) .none .none->ItB b1 h' s.heap.objs.size l1 0->ItB b2 h' (s.heap.objs.size+1) l2 0 ->
   (∀ c o,s.heap.get? c=some o->h'.get? c=some o)->Q (.ref (s.heap.objs.size+4)) { s with heap:=h' }) :
  wpAny (model prog w) A (call (.type "zip") [.ref l1, .ref l2]) Q E s := by
 refine callType_new F.called_zip (by decide) (F.typeCall_zip_2 _ _) (F.newCall_zip_2 _ _) (fun obj=>F.args_object_init_3 obj _ _) F.entry_zip_new
  (g8l b1 b2 l1 l2 xs ys) ⟨hl1,hl2,?_⟩
 have z1:(zB1 b1 s.heap l1).objs.size=s.heap.objs.size+1:=Heap.size_push ..
 have z2:(zB2 b1 b2 s.heap l1 l2).objs.size=s.heap.objs.size+2:=by rw [Heap.size_push,z1]
 have z3:(zB3 b1 b2 s.heap l1 l2).objs.size=s.heap.objs.size+3:=by rw [Heap.size_push,z2]
 have z4:(zB4 b1 b2 s.heap l1 l2).objs.size=s.heap.objs.size+4:=by rw [Heap.size_push,z3]
 have g5:(zB5 b1 b2 s.heap l1 l2).get? (zB4 b1 b2 s.heap l1 l2).objs.size=some _:=Heap.get?_push_size _ rfl
 have g4:(zB5 b1 b2 s.heap l1 l2).get? (zB3 b1 b2 s.heap l1 l2).objs.size=some _:=Heap.get?_push_of_some _ (Heap.get?_push_size _ rfl)
 have g3:(zB5 b1 b2 s.heap l1 l2).get? (zB2 b1 b2 s.heap l1 l2).objs.size=some _:=Heap.get?_push_of_some _ (Heap.get?_push_of_some _ (Heap.get?_push_size _ rfl))
 have g2:(zB5 b1 b2 s.heap l1 l2).get? (zB1 b1 s.heap l1).objs.size=some (itO b2 l2):=Heap.get?_push_of_some _ (Heap.get?_push_of_some _ (Heap.get?_push_of_some _ (Heap.get?_push_size _ rfl)))
 have g1:(zB5 b1 b2 s.heap l1 l2).get? s.heap.objs.size=some (itO b1 l1):=Heap.get?_push_of_some _ (Heap.get?_push_of_some _ (Heap.get?_push_of_some _ (Heap.get?_push_of_some _ (Heap.get?_push_size _ rfl))))
 show _/\_
 rw [z2,z3,z4] at g5
 rw [z1,z2] at g3
 rw [z3] at g4
 rw [z1] at g2
 rw [z4]
 exact⟨⟨_,g5,rfl⟩,h _ g5 g3 g4 ⟨_,g1,rfl,rfl⟩ ⟨_,g2,rfl,rfl⟩ fun c o x =>
  Heap.get?_push_of_some _ (Heap.get?_push_of_some _ (Heap.get?_push_of_some _ (Heap.get?_push_of_some _ (Heap.get?_push_of_some _ x))))⟩
end
def SqK(b:Bool)(K:PySem.W.Frag)(H:Hp)(l:Addr)(xs:List V):Prop:=match b with
 | true=>SqL K H l xs
 | false=>SqT K H l xs
theorem Inv.i4t{X:Cx}{pins:List (Addr×Obj)}{σ:St}{H:Hp}{s:Shared}{b:Bool}{l:Addr}{xs:List V}(I:Inv X pins σ H s)(h:SqK b X.K H l xs):∃ its:List Value,Vals xs its/\SqB b s.heap l its.toArray/\xs.length<=sizeLine:=by
 cases b with
 | true =>
  obtain⟨its,r,p,z⟩:=I.list h
  exact⟨its,r,p.isList,z⟩
 | false =>
  obtain⟨its,r,p,z⟩:=I.tuple h
  exact⟨its,r,p,z⟩
theorem Inv.g7a{X:Cx}{pins:List (Addr×Obj)}{σ:St}{H:Hp}{s:Shared}{b:Bool}{l:Addr}{xs ys:List V}(I:Inv X pins σ H s)(h:SqK b X.K H l xs)(h':SqK b X.K H l ys):xs=ys:=by
 cases b with
 | true=>exact I.g6k h h'
 | false=>exact I.h0t h h'
noncomputable def Itz(K:PySem.W.Frag)(b1 b2:Bool)(l1 l2:Addr):It :=
 ⟨fun i H=>∃ xs ys x y,SqK b1 K H l1 xs/\SqK b2 K H l2 ys/\xs[i]? = some x/\ys[i]? = some y,
  fun i H v H'=>∃ p x y,v = .ref p ∧ H p=none ∧ H'=upd H p (.tup [x,y]) ∧ (∀ xs,SqK b1 K H l1 xs → xs[i]? = some x) ∧ ∀ ys,SqK b2 K H l2 ys → ys[i]? = some y,
  fun i H=>∃ xs ys,SqK b1 K H l1 xs ∧ SqK b2 K H l2 ys ∧ (xs.length ≤ i ∨ ys.length ≤ i)⟩
theorem h7s{P:Program}{w:World}{K:PySem.W.Frag}{elts:List Expr}{kk:Nat}{tpos:Pos}{b1 b2:Bool}{z TI TO i1 i2 l1 l2:Addr}(D:ZipApart z TI TO i1 i2 l1 l2) :
  Turn P w K (.Tuple elts kk tpos) (Itz K b1 b2 l1 l2) [z,TI,TO,i1,i2] z (fun i h=>IsZip h z TI TO .none/\IsPair h TI (.ref i1) (.ref i2)/\(∃ a b,IsPair h TO a b)/\ItB b1 h i1 l1 i/\ItB b2 h i2 l2 i) where
 mem:=by simp
 obj:=fun i h st b hb=>by
  obtain⟨hz,hTI,⟨a,c,hTO⟩,⟨o1,e1,_,d1⟩,⟨o2,e2,_,d2⟩⟩:=st
  simp only [List.mem_cons,List.not_mem_nil,or_false] at hb
  rcases hb with rfl | rfl | rfl | rfl | rfl
  ·exact⟨_,hz,fun v z=>by cases z⟩
  ·exact⟨_,hTI,fun v z=>by cases z⟩
  ·exact⟨_,hTO,fun v z=>by cases z⟩
  ·exact⟨_,e1,fun v z=>by rw [d1] at z; cases z⟩
  ·exact⟨_,e2,fun v z=>by rw [d2] at z; cases z⟩
 keep:=fun i h h' st k=>by
  obtain⟨hz,hTI,⟨a,c,hTO⟩,h1,h2⟩:=st
  exact⟨k z (by simp) _ hz,k TI (by simp) _ hTI,⟨a,c,k TO (by simp) _ hTO⟩,h1.at fun o e=>k i1 (by simp) o e,h2.at fun o e=>k i2 (by simp) o e⟩
 item:=by
  intro X hP hw hK hc i pins s σ H E I hf st hg
  subst hP hw hK
  obtain⟨xs,ys,x,y,hq1,hq2,hx,hy⟩:=hg
  obtain⟨us,r1,p1,_⟩:=I.i4t hq1
  obtain⟨ws,r2,p2,_⟩:=I.i4t hq2
  obtain⟨u,hu,ru⟩:=r1.get hx
  obtain⟨v,hv,rv⟩:=r2.get hy
  obtain⟨hz,hTI,⟨a,b,hTO⟩,h1,h2⟩:=st
  refine h2v D hz hTI hTO h1 h2 p1 p2 (x:=u) (y:=v) (by simpa using hu) (by simpa using hv) fun h' z' TO' h1' h2' pT kk'=>?_
  refine⟨.ref s.heap.objs.size,rfl,wpAny_letOwnedTupleGo_zip (s:={ s with heap:=h' }) z' fun h'' z'' sb=>?_⟩
  replace sb:Heap.SameBut z h' h'':=sb
  have k2:∀ c o,c∉[z,TI,TO,i1,i2]->s.heap.get? c=some o->h''.get? c=some o:=fun c o hc e=>by
   simp only [List.mem_cons,List.not_mem_nil,or_false,not_or] at hc
   exact sb.extBut _ _ hc.1 (kk' c o hc.1 hc.2.2.1 hc.2.2.2.1 hc.2.2.2.2 e)
  have I1:Inv X pins σ H { s with heap:=h'' }:=I.h2u (t':=s.toks) k2 hf
  have zlt:z < s.heap.objs.size:=Heap.lt_size hz
  have pT2:IsPair h'' s.heap.objs.size u v:=sb.extBut _ _ (Nat.ne_of_gt zlt) pT
  have fo:=I.h9j (b:=s.heap.objs.size) (Nat.le_refl _) (I.hok.fresh (Nat.le_refl _))
  have nT:H s.heap.objs.size=none:=I.hok.fresh (Nat.le_refl _)
  have I2:Inv X pins σ (upd H s.heap.objs.size (.tup [x,y])) { s with heap:=h'' }:=by
   refine I1.track ?_ fo.2.1 fo.2.2.2.2.1 fo.2.2.2.2.2 nT ⟨two_line,[u,v],.cons ru (.cons rv .nil),⟨_,pT2,rfl,0,rfl⟩⟩
   cases q:X.s₀.heap.get? s.heap.objs.size with
   | none=>rfl
   | some o=>exact absurd (Nat.lt_of_lt_of_le (Heap.lt_size q) I.sz) (Nat.lt_irrefl _)
  have ne:∀ b∈[z,TI,TO,i1,i2],b≠s.heap.objs.size:=fun b hb e=>by
   have lt:b < s.heap.objs.size:=by
    simp only [List.mem_cons,List.not_mem_nil,or_false] at hb
    rcases hb with rfl | rfl | rfl | rfl | rfl
    ·exact zlt
    ·exact Heap.lt_size hTI
    ·exact Heap.lt_size hTO
    ·obtain⟨_,e,_⟩:=h1; exact Heap.lt_size e
    ·obtain⟨_,e,_⟩:=h2; exact Heap.lt_size e
   exact Nat.ne_of_lt lt e
  refine⟨.ref s.heap.objs.size,_,I2,rfl,⟨_,x,y,rfl,nT,rfl,fun xs' h=>by rw [I.g7a h hq1]; exact hx,fun ys' h=>by rw [I.g7a h hq2]; exact hy⟩,
   ⟨z'',sb.extBut _ _ D.TIz (kk' _ _ D.TIz D.TITO D.TIi1 D.TIi2 hTI),⟨_,_,sb.extBut _ _ D.TOz TO'⟩,h1'.at fun o e=>sb.extBut _ _ D.i1z e,h2'.at fun o e=>sb.extBut _ _ D.i2z e⟩,fun b hb=>by rw [a3p (ne b hb)]; exact (hf b hb).1⟩
 done:=by
  intro X hP hw hK hc i pins s σ H E I hf st hg
  subst hP hw hK
  obtain⟨xs,ys,hq1,hq2,hle⟩:=hg
  obtain⟨us,r1,p1,_⟩:=I.i4t hq1
  obtain⟨ws,r2,p2,_⟩:=I.i4t hq2
  obtain⟨hz,hTI,⟨a,b,hTO⟩,h1,h2⟩:=st
  have l1':=r1.length
  have l2':=r2.length
  refine h7q (I.ok.hd hc) D hz hTI hTO h1 h2 p1 p2 (by rcases hle with h | h <;> simp <;> omega) fun h' kk'=>⟨rfl,I.h2u (t':=s.toks) (fun c o hc e=>?_) hf⟩
  simp only [List.mem_cons,List.not_mem_nil,or_false,not_or] at hc
  exact kk' c o hc.1 hc.2.2.1 hc.2.2.2.1 hc.2.2.2.2 e
 self:=fun _ _ _ _ _ st h=>wpAny_pyIter_zip st.1 h
def j2f(K:PySem.W.Frag)(ta:TA):TI:=fun σ H R=>ta σ H fun vs H1=>match vs with
 | [.ref l1,.ref l2]=>(match H1 l1,H1 l2 with
  | some (.lst _),some (.lst _)=>R (Itz K true true l1 l2) H1
  | some (.lst _),some (.tup _)=>R (Itz K true false l1 l2) H1
  | some (.tup _),some (.lst _)=>R (Itz K false true l1 l2) H1
  | some (.tup _),some (.tup _)=>R (Itz K false false l1 l2) H1
  | _,_=>False)
 | _=>False
theorem i7s {X : Cx} {elts : List Expr} {kk : Nat} {tpos : Pos} {a b : Expr} {ta : TA} {p pos : Pos} (hg : Gl X "zip") (hm : X.mg "zip" = none) (ha : PA X [a, b] ta) (hs : starEach [a, b] X.env = [(false, eval a X.env), (false, eval b X.env)] := by rfl) (hs2 : starEach [b] X.env = [(false, eval b X.env)] := by rfl) :
  PI X (.Tuple elts kk tpos) (.Call (.Name "zip" p) [a, b] [] pos) (j2f X.K ta) := by
 intro pins s σ H R I h
 refine Call_ (f3r I hg hm boot_zip (PyProof.Rows.callWith_type1 (thn (ha pos pins s σ H _ I h) fun us s1 ⟨vs,H1,I1,r1,q1⟩=>?_) (by rw [hs,hs2]) (by rw [hs2]; rfl)))
 match vs,q1 with
 | [.ref l1,.ref l2],q1 =>
  obtain⟨u,u',e0,e,e'⟩:=r1.two
  cases e
  cases e'
  subst e0
  have q:∃ (b1 b2:Bool) (xs ys:List V),SqK b1 X.K H1 l1 xs/\SqK b2 X.K H1 l2 ys/\R (Itz X.K b1 b2 l1 l2) H1:=by
   have q1':(match H1 l1,H1 l2 with
    | some (.lst _),some (.lst _)=>R (Itz X.K true true l1 l2) H1
    | some (.lst _),some (.tup _)=>R (Itz X.K true false l1 l2) H1
    | some (.tup _),some (.lst _)=>R (Itz X.K false true l1 l2) H1
    | some (.tup _),some (.tup _)=>R (Itz X.K false false l1 l2) H1
    | _,_=>False):=q1
   split at q1'
   ·rename_i e1 e2
    exact⟨true,true,_,_,SqL.of e1,SqL.of e2,q1'⟩
   ·rename_i e1 e2
    exact⟨true,false,_,_,SqL.of e1,SqT.of e2,q1'⟩
   ·rename_i e1 e2
    exact⟨false,true,_,_,SqT.of e1,SqL.of e2,q1'⟩
   ·rename_i e1 e2
    exact⟨false,false,_,_,SqT.of e1,SqT.of e2,q1'⟩
   ·exact q1'.elim
  obtain⟨b1,b2,xs,ys,hq1,hq2,q⟩:=q
  obtain⟨us,rr1,p1,_⟩:=I1.i4t hq1
  obtain⟨ws,rr2,p2,_⟩:=I1.i4t hq2
  have L1:l1 < s1.heap.objs.size:=by obtain⟨_,e,_⟩:=p1; exact Heap.lt_size e
  have L2:l2 < s1.heap.objs.size:=by obtain⟨_,e,_⟩:=p2; exact Heap.lt_size e
  refine h7r p1 p2 fun h' hz hTI hTO h1 h2 hk=>?_
  refine wpAny_pyIter_zip (s:={ s1 with heap:=h' }) hz ?_
  have D:ZipApart (s1.heap.objs.size+4) (s1.heap.objs.size+2) (s1.heap.objs.size+3) s1.heap.objs.size (s1.heap.objs.size+1) l1 l2:=by
   generalize s1.heap.objs.size=n at L1 L2
   replace L1:Nat.lt l1 n:=L1
   replace L2:Nat.lt l2 n:=L2
   constructor <;> (intro e; have:(n:Nat)=n:=rfl; simp only [Nat.lt_eq] at L1 L2; first | (have e':(_:Nat)=_:=e; omega))
  refine⟨_,[s1.heap.objs.size+4,s1.heap.objs.size+2,s1.heap.objs.size+3,s1.heap.objs.size,s1.heap.objs.size+1],_,_,H1,rfl,I1.kept (t':=s1.toks) hk,h7s D,⟨hz,hTI,⟨_,_,hTO⟩,h1,h2⟩,fun b hb=>?_,q⟩
  have hb':s1.heap.objs.size<=b:=by
   simp only [List.mem_cons,List.not_mem_nil,or_false] at hb
   rcases hb with rfl | rfl | rfl | rfl | rfl
   ·exact Nat.le_add_right _ _
   ·exact Nat.le_add_right _ _
   ·exact Nat.le_add_right _ _
   ·exact Nat.le_refl _
   ·exact Nat.le_add_right _ _
  exact I1.h9j hb' (I1.hok.fresh hb')
theorem h7t{K:PySem.W.Frag}{b1 b2:Bool}{l1 l2:Addr}{xs ys:List V}{g:TG}{tb:TS}{D:Ends}{σ:St}{H:Hp}(Pv:Nat->St->Hp->Prop)(h0:Pv 0 σ H)(hl:∀ i σ H,Pv i σ H->SqK b1 K H l1 xs/\SqK b2 K H l2 ys)
  (hs:∀ i x y σ H p H',xs[i]? = some x->ys[i]? = some y->Pv i σ H->H p=none->Same H H'->H' p=some (.tup [x,y])->g (.ref p) σ H' fun σ2 H2=>tb { D with nx:=Pv (i+1),ct:=Pv (i+1),bk:=D.nx } σ2 H2)
  (hd:∀ σ H,Pv (min xs.length ys.length) σ H->D.nx σ H):i6r (Itz K b1 b2 l1 l2) g tb D σ H:=by
 refine⟨fun i m σ H=>m=min xs.length ys.length - i/\i<=min xs.length ys.length/\Pv i σ H,⟨min xs.length ys.length,by simp,Nat.zero_le _,h0⟩,?_⟩
 rintro i m σ H ⟨rfl,hi,p⟩
 obtain⟨e1,e2⟩:=hl i σ H p
 by_cases hlt:i < min xs.length ys.length
 ·have hx : xs[i]? = some (xs[i]'(by omega)) := List.getElem?_eq_getElem _
  have hy : ys[i]? = some (ys[i]'(by omega)) := List.getElem?_eq_getElem _
  refine .inr ⟨⟨xs,ys,_,_,e1,e2,hx,hy⟩,Pv (i+1),fun σ' H' p'=>⟨min xs.length ys.length - (i+1),by omega,rfl,hlt,p'⟩,fun v H' y=>?_⟩
  obtain⟨q,x,y,rfl,nq,rfl,k1,k2⟩:=y
  exact hs i x y σ H q _ (k1 _ e1) (k2 _ e2) p nq (Same.upd nq) a3j
 ·have e:i=min xs.length ys.length:=by omega
  subst e
  exact .inl ⟨⟨xs,ys,e1,e2,by omega⟩,hd σ H p⟩
end L2
namespace L2
open PySem PySem.Spec PyProof.Rows
noncomputable def b3y(X:Cx)(scope:Scope)(cl:List (Str×Addr))(C:Addr)(s₃:Shared)(H₃:Hp)(fp:List Addr)(x y:Str):Cx where
 prog:=X.prog
 w:=X.w
 K:=X.K
 mg:=X.mg
 base:=X.base
 A:=X.A
 N:=x :: y :: mask x X.N
 s₀:=s₃
 H₀:=H₃
 env:=compEnvC scope cl C X.env
 outer:=X.stack
 stack:=X.stack
 ex:=fp
 fn:=fun _=>false
 calm:=X.calm
 pn:=[]
 xe:=fun _ _=>False
structure d0q(X:Cx)(scope:Scope)(x y:Str):Prop where
 kind:scope.kind = .function
 d5l:∀ y∈scope.names,y.2≠.cell
 loc:∀ y∈scope.names,y.2 = .local->scope.names.lookup y.1=some .local
 own:scope.names.lookup x=some .local
 j4s:scope.names.lookup y=some .local
 free:∀ y∈scope.names,y.2 = .free->X.env.kindOf y.1=some .cell\/X.env.kindOf y.1=some .free
 nd:(x :: y :: mask x X.N).Nodup
 noe : ∀ y ∈ scope.names, y.1 ≠ ""
 vis:∀ y∈mask x X.N,scope.names.lookup y≠some .local
def h2w(J:It)(te:TE)(D:Addr)(σ:St)(H:Hp)(Q:VK)(_:Tag Q):Prop:=∃ (n:Nat) (W:Nat->List V->Hp->Prop),W 0 [] H/\∀ i ys H,i<=n->W i ys H->H D=some (.lst ys) /\
 ((J.stop i H/\Q (.ref D) H)\/(i < n/\J.go i H/\ys.length < sizeLine/\∀ x H',J.yld i H x H'->∃ p u v,x = .ref p/\H' p=some (.tup [u,v])/\te (some u :: some v :: σ) H' fun y H2=>H2 D=some (.lst ys) /\
  ∀ H3,a2j D H2 H3->H3 D=some (.lst (ys++[y]))->W (i+1) (ys++[y]) H3))
def i7t(wi:TI)(te:TE):TE:=fun σ H Q=>wi σ H fun J H1=>∀ D H2,H1 D=none->Same H1 H2->H2 D=some (.lst [])->h2w J te D σ H2 Q ⟨⟩
section
variable {X:Cx}{scope:Scope}{x y:Str}{cl:List (Str×Addr)}{pins:List (Addr×Obj)}{σ:St}{H:Hp}{s s₄:Shared}{fp:List Addr}
theorem Inv.j2g(S:d0q X scope x y)(I:Inv X pins σ H s)(hcl:∀ y c,cl.lookup y=some c->(y,NameKind.free)∈scope.names/\X.env.cells.lookup y=some c)(hcl2:∀ y,(y,NameKind.free)∈scope.names->cl.lookup y=X.env.cells.lookup y)
  (hfp:∀ b∈fp,d7u X pins H b) (hlt:∀ b∈fp,b < s.heap.objs.size) {m:Str->Option Value} (hns:s₄.heap.Ns s.heap.objs.size m) (hk:∀ b o,s.heap.get? b=some o->s₄.heap.get? b=some o) (hos:s₄.os=s.os) (hg:s₄.gens=s.gens) :
  Inv (b3y X scope cl s.heap.objs.size s H fp x y) [] (none :: none :: σ) H s₄:=by
 refine⟨⟨I.ok.mod,?_,I.ok.glob,I.ok.blt,Nat.le_refl _,fun y z c h1 h2=>I.ok.inj y z c (hcl y c h1).2 (hcl z c h2).2,fun y hy=>?_,(fun y c h=>nomatch h),I.ok.hd,I.ok.frames,.inl rfl,fun b hb=>⟨Nat.ne_of_lt (hlt b hb),fun y c e=>(hfp b hb).2.2.2.2.1 y c (hcl y c e).2⟩,
  fun b o e=>I.bs b o e,Nat.le_trans I.ok.bsz I.sz,fun b o e hb=>?_,fun b hb hf=>?_,I.stack,I.g2x⟩,
  hos,by rw [hg]; exact I.bare,Un.kept hk,⟨m,hns,fun i y v h1 h2 h3=>?_⟩,fun y c e=>?_,I.hok.fresh (Nat.le_refl _),fun y c e=>I.d6u y c (hcl y c e).2,fun p hp=>absurd (show p∈([] : List (Addr×Obj)) from hp) (by simp),I.hok.kept hk,by show (none :: none :: σ).length=(x :: y :: mask x X.N).length; rw [List.length_cons,List.length_cons,List.length_cons,List.length_cons,mask,List.length_map,I.len]⟩
 ·exact S.kind
 ·rcases b7i (env:=X.env) (sc:=scope) (x:=y) hy with z | z
  ·obtain⟨c,hc⟩:=I.ok.has y (S.free _ z rfl)
   exact⟨c,(hcl2 y z).trans hc⟩
  ·exact absurd rfl (S.d5l _ z)
 ·rcases (hfp b hb).2.2.2.1 with z | z
  ·exact I.ok.i4p b o e z
  ·exact absurd (Nat.lt_of_lt_of_le (Heap.lt_size (I.ok.bs b o e).1) z) (Nat.lt_irrefl _)
 ·rcases List.mem_cons.mp (I.d7t b hf) with z | z
  ·exact (hfp b hb).2.1 z
  ·exact (hfp b hb).2.2.1 z
 ·match i,h1,h2 with
  | 0,h1,h2=>cases h2
  | 1,h1,h2=>cases h2
  | i+2,h1,h2 =>
   have h1m:(mask x X.N)[i]? = some y:=by simpa [b3y] using h1
   have h2':σ[i]? = some (some v):=by simpa using h2
   have hyN:y∈mask x X.N:=List.mem_of_getElem? h1m
   have hc:(relabel scope X.env).names.lookup y=some .cell\/(relabel scope X.env).names.lookup y=some .free:=by
    rcases h3 with z | z | z
    ·exfalso
     rcases c3h (env:=X.env) scope.names _ z with q | ⟨q,_⟩
     ·exact S.vis y hyN q
     ·cases q
    ·exact .inl z
    ·exact .inr z
   have hfr:(y,NameKind.free)∈scope.names:=by
    rcases b7i hc with z | z
    ·exact z
    ·exact absurd rfl (S.d5l _ z)
   have h1':X.N[i]? = some y:=by
    rw [mask,List.getElem?_map] at h1m
    obtain⟨z,hz,e⟩:=Option.map_eq_some_iff.mp h1m
    by_cases hzx:z=x
    ·rw [if_pos hzx] at e
     exact absurd e.symm (S.noe _ hfr)
    ·rw [if_neg hzx] at e
     rw [hz,e]
   obtain⟨mX,hnX,hl⟩:=I.loc
   have hk2:=S.free _ hfr rfl
   have j1t:Vis X.env.scope y:=by
    rcases hk2 with z | z
    ·exact .inr (.inl z)
    ·exact .inr (.inr z)
   obtain⟨u,ru,lk⟩:=hl i y v h1' h2' j1t
   refine⟨u,ru,.inr ⟨hc,?_⟩⟩
   rcases lk with ⟨z,_⟩ | ⟨_,c,ec,o,ho,hd⟩
   ·rcases hk2 with q | q
    ·rw [q] at z; cases z
    ·rw [q] at z; cases z
   ·exact⟨c,(hcl2 y hfr).trans ec,o,hk c o ho,hd⟩
 ·obtain⟨v,o,ho,hd⟩:=I.cell y c (hcl y c e).2
  exact⟨v,o,hk c o ho,hd⟩
theorem Inv.i2b{σ':St}{H':Hp}{s':Shared}{h':Heap}(I:Inv X pins σ H s)(hfp:∀ b∈fp,d7u X pins H b)(J:Inv (b3y X scope cl s.heap.objs.size s H fp x y) [] σ' H' s')(hs:Heap.SameBut s.heap.objs.size s'.heap h') :
  Inv X pins σ H' { s' with heap:=h' }:=by
 have ne:∀ {b:Addr} {o:Obj},s.heap.get? b=some o->b≠s.heap.objs.size:=fun e=>Nat.ne_of_lt (Heap.lt_size e)
 have u:=J.base
 have u':Un (frs X.stack) fp H H' s.heap h':=⟨fun b o e n hb hx=>hs.extBut b o (ne e) (u.keep b o e n hb hx),fun b o e n hb hx=>(u.slot b o e n hb hx).elim fun sl q=>⟨sl,hs.extBut b _ (ne e) q⟩,u.free,
  fun b o e hx=>(u.there b o e hx).elim fun o' q=>⟨o',hs.extBut b o' (ne e) q⟩,u.tups,u.h0h,u.h0o⟩
 have nC:∀ {b:Addr} {o:HO},H' b=some o->b≠s.heap.objs.size:=fun {b o} e z=>by
  have f:H' s.heap.objs.size=none:=J.free
  rw [z,f] at e; cases e
 have ok:HOk X.prog X.w H' h':=fun b o e=>(J.hok b o e).stay (fun c v hc q=>hs.extBut c v (by
  rcases hc with z | z
  ·rw [z]; exact nC e
  ·exact nC z) q) (fun _ q=>q) fun _ _ q=>q
 exact I.call' (s':={ s' with heap:=h' }) (ch:=fp) J.os u' ok J.bare fun b hb=>⟨(hfp b hb).2.2.2.1,(hfp b hb).2.1,(hfp b hb).2.2.2.2.1,(hfp b hb).2.2.2.2.2⟩
end
section
variable {X:Cx}{scope:Scope}{x y:Str}{pins:List (Addr×Obj)}{σ:St}{elt iter:Expr}{px py tpos pos:Pos}{kk:Nat}{wi:TI}{te:TE}
theorem g3n{s₂:Shared}{H1:Hp}{it:Addr}{fp:List Addr}{tn:Nat->Heap->Prop}{J:It}{Q:VK}{RR:Value->Addr->Result->Shared->Prop}{E:Value->Shared->Prop}{cl:List (Str×Addr)}
  (S:d0q X scope x y) (hc:X.calm=true) (he:∀ cl C s₃ H₃ fp,PE (b3y X scope cl C s₃ H₃ fp x y) elt te)
  (hcl:∀ y c,cl.lookup y=some c->(y,NameKind.free)∈scope.names/\X.env.cells.lookup y=some c) (hcl2:∀ y,(y,NameKind.free)∈scope.names->cl.lookup y=X.env.cells.lookup y)
  (I2:Inv X pins σ H1 s₂) (T:Turn X.prog X.w X.K (.Tuple [.Name x px,.Name y py] kk tpos) J fp it tn) (st2:tn 0 s₂.heap) (f2:∀ b∈fp,d7u X pins H1 b) (h:∀ D H2,H1 D=none->Same H1 H2->H2 D=some (.lst [])->h2w J te D σ H2 Q ⟨⟩)
  (hRR:∀ (D C:Addr) (s':Shared) (H':Hp),(∃ m,s'.heap.Ns C m)->(∀ h' ,Heap.SameBut C s'.heap h'->Inv X pins σ H' { s' with heap:=h' })->d7u X pins H' C->Q (.ref D) H'->RR (.ref D) C (.ok .next) s') :
  wpAny (model X.prog X.w) X.A (newList []) (fun acc s₃=>wpAny (model X.prog X.w) X.A (newFunctionEnv scope X.env.globals cl [] X.env.qual none .none (some X.env)) (fun cenv s₄ =>
   codeAny (model X.prog X.w) X.A (.compStart (.ListComp elt [⟨.Tuple [.Name x px,.Name y py] kk tpos,iter,[],0⟩] scope pos) 0 (.ref it) acc { cenv with scope:=relabel scope X.env }) (RR acc cenv.locals) s₄) E s₃) E s₂:=by
 have hfr:H1 s₂.heap.objs.size=none:=I2.hok.fresh (Nat.le_refl _)
 have hCW:=h s₂.heap.objs.size _ hfr (Same.upd hfr) a3j
 refine wpAny_newObj_type ?_
 have I3 : Inv X pins σ (upd H1 s₂.heap.objs.size (.lst [])) { s₂ with heap := s₂.heap.push { cls := .type "list", data := .seq ([] : List Value).toArray }, toks := s₂.toks } :=
  I2.laid (t':=s₂.toks) (fun b u e=>Heap.get?_push_of_some _ e) (Nat.le_refl _) ⟨Nat.zero_le _,[],0,.nil,Heap.get?_push_size _ rfl⟩
 have nD:∀ b∈fp,b≠s₂.heap.objs.size:=fun b hb=>by
  obtain⟨o,e,_⟩:=T.obj 0 _ st2 b hb
  exact Nat.ne_of_lt (Heap.lt_size e)
 have f3:∀ b∈fp,d7u X pins (upd H1 s₂.heap.objs.size (.lst [])) b:=fun b hb=>⟨by rw [a3p (nD b hb)]; exact (f2 b hb).1,(f2 b hb).2⟩
 generalize hH3:upd H1 s₂.heap.objs.size (.lst [])=H3 at *
 have st3 : tn 0 (s₂.heap.push { cls := .type "list", data := .seq ([] : List Value).toArray }) := T.keep _ _ _ st2 fun b _ o e => Heap.get?_push_of_some _ e
 have h2l : ∀ b ∈ fp, b < (s₂.heap.push { cls := .type "list", data := .seq ([] : List Value).toArray }).objs.size := fun b hb => by
  obtain⟨o,e,_⟩:=T.obj 0 _ st3 b hb
  exact Heap.lt_size e
 show wpAny (model X.prog X.w) X.A (newFunctionEnv scope X.env.globals cl [] X.env.qual none .none (some X.env)) _ E { s₂ with heap := s₂.heap.push { cls := .type "list", data := .seq ([] : List Value).toArray }, toks := s₂.toks }
 generalize hs3 : ({ s₂ with heap := s₂.heap.push { cls := .type "list", data := .seq ([] : List Value).toArray }, toks := s₂.toks } : Shared) = s₃ at *
 have eh : s₃.heap = s₂.heap.push { cls := .type "list", data := .seq ([] : List Value).toArray } := by rw [← hs3]
 rw [<- eh] at st3 h2l
 generalize s₂.heap.objs.size=D at *
 refine wpAny_newFunctionEnv S.d5l (by intro y hy; simp at hy) (fun h₁ hns₁ hsb₁=>?_) S.kind
 have hk1:∀ b o,s₃.heap.get? b=some o->h₁.get? b=some o:=fun b o e=>hsb₁.extBut b o (Nat.ne_of_lt (Heap.lt_size e)) (Heap.get?_push_of_some _ e)
 have J0:Inv (b3y X scope cl s₃.heap.objs.size s₃ H3 fp x y) [] (none :: none :: σ) H3 { s₃ with heap:=h₁,toks:=s₃.toks+([] : List (Str×Value)).length }:=I3.j2g S hcl hcl2 f3 h2l hns₁ hk1 rfl rfl
 obtain⟨n0,W,w0,turn⟩:=hCW
 have loop:codeAny (model X.prog X.w) X.A (.compLoop (.ListComp elt [⟨.Tuple [.Name x px,.Name y py] kk tpos,iter,[],0⟩] scope pos) 0 (.ref it) (.ref D) (compEnvC scope cl s₃.heap.objs.size X.env)) (RR (.ref D) s₃.heap.objs.size) { s₃ with heap:=h₁,toks:=s₃.toks+([] : List (Str×Value)).length }:=by
  refine codeAny_loop rfl (fun n s'=>∃ i ys o o' H',Inv (b3y X scope cl s₃.heap.objs.size s₃ H3 fp x y) [] (o :: o' :: σ) H' s'/\tn i s'.heap/\(∀ b∈fp,H' b=none)/\W i ys H'/\i<=n0/\n=n0 - i) (fun n s5 hI=>?_) n0
   ⟨0,[],none,none,H3,J0,T.keep _ _ _ st3 (fun b _ o e=>hk1 b o e),fun b hb=>(f3 b hb).1,w0,Nat.zero_le _,rfl⟩
  obtain⟨i,ys,o5,o5',H5,I5,st5,fr5,w5,hin,hnn⟩:=hI
  have stat:∀ {H':Hp},(∀ b∈fp,H' b=none)->∀ b∈fp,d7u (b3y X scope cl s₃.heap.objs.size s₃ H3 fp x y) [] H' b:=fun hn b hb =>
   ⟨hn b hb,Nat.ne_of_lt (h2l b hb),fun z=>(List.mem_cons.mp (I3.d7t b z)).elim (fun q=>(f3 b hb).2.1 q) fun q=>(f3 b hb).2.2.1 q,.inl hb,fun y c e=>(f3 b hb).2.2.2.2.1 y c (hcl y c e).2,fun p hp=>absurd (show p∈([] : List (Addr×Obj)) from hp) (by simp)⟩
  show wpAny _ X.A ((compTurn (.ListComp elt [⟨.Tuple [.Name x px,.Name y py] kk tpos,iter,[],0⟩] scope pos) 0 (.ref it) (.ref D) (compEnvC scope cl s₃.heap.objs.size X.env)).onRaise (fun x=>do noteFrame x (compEnvC scope cl s₃.heap.objs.size X.env); theTreesLotGoes x)) _ _ s5
  refine wpAny_noted ?_
  rw [compTurn_list1]
  refine wpAny_bind (wpAny_standAt (wpAny_bind ?_))
  obtain⟨hD5,alt⟩:=turn i ys H5 hin w5
  rcases alt with ⟨stop,q⟩ | ⟨hlt,go,hsz,step⟩
  ·refine wpAny_mono (T.done (b3y X scope cl s₃.heap.objs.size s₃ H3 fp x y) rfl rfl rfl hc i [] s5 _ H5 _ I5 (stat fr5) st5 stop) (fun r s6 ⟨hr,I6⟩=>?_) fun _ _ z=>z
   subst hr
   refine wpAny_pure ?_
   obtain⟨m6,hn6,_⟩:=I6.loc
   exact hRR D s₃.heap.objs.size s6 H5 ⟨m6,hn6⟩ (fun h' hs'=>I3.i2b f3 I6 hs') (I3.h9j (Nat.le_refl _) I6.free) q
  ·refine wpAny_mono (T.item (b3y X scope cl s₃.heap.objs.size s₃ H3 fp x y) rfl rfl rfl hc i [] s5 _ H5 _ I5 (stat fr5) st5 go) (fun r s6 ⟨u,hr,h6⟩=>?_) fun _ _ z=>z
   subst hr
   refine wpAny_bind (wpAny_mono h6 (fun _ s7 ⟨v,H7,I7,r7,y7,st7,fr7⟩=>?_) fun _ _ z=>z)
   have I7':=I7.pinned (stat fr7) (T.obj _ _ st7)
   obtain⟨p7,u1,u2,e7,t7,step7⟩:=step v H7 y7
   subst e7
   have G1:=a2o (X:=b3y X scope cl s₃.heap.objs.size s₃ H3 fp x y) (pos:=px) (i:=0) (x:=x) S.nd rfl (.inl (lookup_relabel_local S.own)) (.inr (lookup_relabel_local S.own))
   have G2:=a2o (X:=b3y X scope cl s₃.heap.objs.size s₃ H3 fp x y) (pos:=py) (i:=1) (x:=y) S.nd rfl (.inl (lookup_relabel_local S.j4s)) (.inr (lookup_relabel_local S.j4s))
   have G:=h9i (X:=b3y X scope cl s₃.heap.objs.size s₃ H3 fp x y) (pos:=tpos) (k:=kk) (n:=2) hc (f5h G1 (f5h G2 h0u)) rfl rfl
   refine wpAny_bind (wpAny_mono (G _ s7 _ H7 (.ref p7) u (fun σ' H'=>σ'=some u1 :: some u2 :: σ/\H'=H7) I7' r7 ⟨p7,[u1,u2],rfl,SqT.of t7,rfl,_,_,rfl,_,_,rfl,rfl,rfl,rfl⟩) (fun _ s8 hs8=>?_) fun _ _ z=>False.elim z)
   obtain⟨σ8,H8,I8,rfl,rfl⟩:=hs8
   refine wpAny_bind (wpAny_bind (wpAny_mono (he cl s₃.heap.objs.size s₃ H3 fp _ s8 _ _ _ I8 step7) (fun yv s9 hs9=>?_) fun _ _ z=>False.elim z))
   obtain⟨y',H9,I9,r9,hD9,k9⟩:=hs9
   refine wpAny_bind (wpAny_mono (d2i (X:=b3y X scope cl s₃.heap.objs.size s₃ H3 fp x y) _ s9 _ H9 (.ref D) [y'] (.ref D) [yv] (fun _ H'=>H'=upd H9 D (.lst (ys++[y']))) I9 rfl (.cons r9 .nil) ⟨D,ys,y',rfl,rfl,hD9,hsz,rfl⟩) (fun _ sA hsA=>?_) fun _ _ z=>False.elim z)
   obtain⟨_,HA,IA,_,rfl⟩:=hsA
   refine wpAny_pure ?_
   have wA:=k9 _ a2j.upd a3j
   refine wpAny_pure ⟨rfl,n0 - (i+1),by omega,i+1,ys++[y'],some u1,some u2,_,IA.c4o (pins:=[]) (pl:=d5j fp s7.heap),T.keep _ _ _ st7 (fun b hb o e=>(IA.pin (b,o) (List.mem_append_right _ (List.mem_append_right _ (a7v hb e)))).1),fun b hb=>?_,wA,hlt,rfl⟩
   obtain⟨o,e,d⟩:=T.obj _ _ st7 b hb
   exact (IA.pin (b,o) (List.mem_append_right _ (List.mem_append_right _ (a7v hb e)))).2.1
 exact codeAny_compStart_list loop (T.self _ 0 _ _ _ (T.keep _ _ _ st3 fun b _ o e=>hk1 b o e) loop)
theorem h7u(hi:PI X (.Tuple [.Name x px,.Name y py] kk tpos) iter wi)(he:∀ cl C s₃ H₃ fp,PE (b3y X scope cl C s₃ H₃ fp x y) elt te)(S:d0q X scope x y)(hc:X.calm=true)
  (hs:∀ x,foldedSetIterable iter X.env x=pure x:=by intro _; rfl):PE X (.ListComp elt [⟨.Tuple [.Name x px,.Name y py] kk tpos,iter,[],0⟩] scope pos) (i7t wi te):=by
 intro pins s σ H Q I h
 obtain⟨cl,hclos,hcl,hcl2⟩:=d0o (env:=X.env) (sc:=scope) fun y hy=>I.ok.has y (S.free _ hy rfl)
 rw [eval_ListComp]
 refine wpAny_comprehension_free (use:=none) rfl hs hclos S.kind S.loc ?_
 refine thn (hi pins s σ H _ I h) fun v s1 h1=>thn h1 fun itv s2 h2=>?_
 obtain⟨it,fp,tn,J,H2,e,I2,T,st2,f2,hW⟩:=h2
 subst e
 exact g3n (RR:=fun acc C=>compPost (model X.prog X.w) X.A X.xe none (EP X pins σ Q) acc C) S hc he hcl hcl2 I2 T st2 f2 hW fun D C s' H' hm hI _ hq =>
  hm.elim fun m hn=>⟨m,hn,fun h' hs'=>⟨.ref D,H',hI h' hs',rfl,hq⟩⟩
end
noncomputable def h2x(sc scope:Scope)(x y:Str)(N:List Str):Bool :=
 (scope.kind == .function) && scope.names.all (fun y=>y.2 != .cell) && scope.names.all (fun y=>y.2 != .local || scope.names.lookup y.1 == some .local) && (scope.names.lookup x == some .local) && (scope.names.lookup y == some .local) &&
 scope.names.all (fun y => y.2 != .free || (sc.names.lookup y.1 == some .cell || sc.names.lookup y.1 == some .free)) && decide ((x :: y :: mask x N).Nodup) && scope.names.all (fun y => y.1 != "") && (mask x N).all (fun y => scope.names.lookup y != some .local)
theorem i7u{X:Cx}{sc scope:Scope}{x y:Str}{N:List Str}(hsc:X.env.scope=sc)(hN:X.N=N)(h:h2x sc scope x y N=true):d0q X scope x y:=by
 subst hN hsc
 unfold h2x at h
 simp only [Bool.and_eq_true,List.all_eq_true,beq_iff_eq,Bool.or_eq_true,bne_iff_ne,ne_eq,decide_eq_true_eq] at h
 obtain⟨⟨⟨⟨⟨⟨⟨⟨h1,h2⟩,h3⟩,h4⟩,h5⟩,h6⟩,h7⟩,h8⟩,h9⟩:=h
 exact⟨h1,h2,fun y hy e=>(h3 y hy).resolve_left fun z=>z e,h4,h5,fun y hy e=>(h6 y hy).resolve_left fun z=>z e,h7,h8,h9⟩
end L2
namespace L2
open PySem PySem.Spec PyProof.Rows
def iTupF(K:PySem.W.Frag)(tl:TE):TI:=fun σ H R=>tl σ H fun x H1=>match x with
 | .ref a=>(match H1 a with
  | some (.tup _)=>R (Itt K a) H1
  | _=>False)
 | _=>False
noncomputable def rSlG:V->Option Int->Option Int->Hp->VK->Prop:=fun x lo hi H Q=>match x with
 | .ref a=>(match H a with
  | some (.lst xs)=>New H (.lst (f5k xs lo hi)) Q ⟨⟩
  | some (.tup xs)=>¬ (HT.sIx xs.length 0 lo=0/\HT.sIx xs.length xs.length hi=xs.length)/\New H (.tup (f5k xs lo hi)) Q ⟨⟩
  | _=>False)
 | _=>False
theorem h7v{X:Cx}{K:PySem.W.Frag}{e:Expr}{f:Str}{pos:Pos}{ta:TE}(hK:X.K=K)(he:PE X e ta)(hb:attributeBase e f X.env (eval e X.env)=eval e X.env):PE X (.Attribute e f pos) (i1w K ta f):=hK▸a0y he hb
end L2
namespace L2
open PySem PySem.Spec PyProof.Rows
section
variable {prog:Program}{w:World}{A:Around}{E:Value->Shared->Prop}{s:Shared}
end
section
variable {prog:Program}{w:World}{A:Around}{E:Value->Shared->Prop}{s:Shared}
end
end L2
namespace L2
open PySem PySem.Spec PyProof.Rows
section
variable {M:Model}{A:Around}{E:Value->Shared->Prop}{s:Shared}{env:Env}
end
end L2
namespace L2
open PySem PySem.Spec PyProof.Rows
def j2h(chk:V->Hp->Bool)(r:V->List V->Hp->VK->Prop)(to:TE):TE:=fun σ H Q=>to σ H fun x H1=>chk x H1=true/\r x [] H1 Q
section
variable {X:Cx}{o:Expr}{to:TE}{name:Str}{apos cpos:Pos}{T id:String}{r:V->List V->Hp->VK->Prop}{chk:V->Hp->Bool}
theorem i2c (hchk : ∀ x H, chk x H = true → tyV X.K T x H) (pa : PlainAttrs T) (slot : Slot T name id) (hty : typeOf (.builtin id) = pure (.type "method_descriptor")) (hm : MtR X id r) (ho : PE X o to)
  (hbase:attributeBase o name X.env (eval o X.env)=eval o X.env:=by rfl) (hline:(apos.endLine == cpos.line)=true:=by rfl):PE X (.Call (.Attribute o name apos) [] [] cpos) (j2h chk r to):=by
 intro pins s σ H Q I h
 refine wpAny_Call_method0_late hbase hline (thn (ho pins s σ H _ I h) fun v s1 ⟨x,H1,I1,r1,ty,q1⟩=>?_)
 obtain⟨h1,h2⟩:=h1s I1 r1 (hchk x H1 ty)
 exact⟨T,id,pa,slot,hty,h1,h2,Calls.callWith_builtin rfl (PySem.evalArgs_none (hm pins s1 σ H1 x [] v [] Q I1 r1 .nil q1))⟩
end
end L2
namespace L2
open PySem PySem.Spec PyProof.Rows
structure j2i(K:PySem.W.Frag)(w:World)(d:Addr):Prop where
 lk : ∃ es n, K.lookup d = some ⟨.type "dict", none, .dict es n, #[]⟩ ∧ PySem.W.KeysLit w.params es.toList
 ns:(d == sysModules)=false
def rNiD(K:PySem.W.Frag)(w:World)(neg:Bool):R2:=fun x y H Q=>match x,y with
 | .str z,.ref d=>j2i K w d/\∃ r,PySem.W.nsIn K d z=some r/\Q (.bl (r.isSome != neg)) H
 | _,_=>False
section
variable {X:Cx}
theorem h2y{K:PySem.W.Frag}{w:World}(eK:X.K=K)(eW:X.w=w):OpR X (compareOp .NotIn) (rNiD K w true):=by
 subst eK eW
 intro pins s σ H x y v u Q I rx ry h
 cases x <;> cases y <;> first | exact False.elim h | skip
 ·rename_i z d
  obtain⟨⟨⟨es,n,hl,hk⟩,hn⟩,r,e,q⟩:=h
  obtain⟨t,rfl⟩:=rx
  cases ry
  refine wpAny_notIn_of (PySem.strKind_is X.prog X.w z t) hn (PySem.W.mapOf_K (prog:=X.prog) I.kIn hl (hk)) ?_
  rw [PySem.W.find_K hl e]
  rw [Bool.bne_true] at q
  exact⟨.bl (!r.isSome),H,I.tok _,rfl,q⟩
def rIxD(K:PySem.W.Frag)(w:World):R2:=fun x y H Q=>match x,y with
 | .ref d,.str z=>j2i K w d/\∃ f,PySem.W.nsIn K d z=some (some (.ref f))/\Q (.ref f) H
 | _,_=>False
theorem i9z{K:PySem.W.Frag}{w:World}(eK:X.K=K)(eW:X.w=w):IxR X (rIxD K w):=by
 subst eK eW
 intro value slice pins s σ H x y v u Q I rx ry h hs
 cases x <;> cases y <;> first | exact False.elim h | skip
 ·rename_i d z
  obtain⟨⟨⟨es,n,hl,hk⟩,hn⟩,f,e,q⟩:=h
  obtain⟨t,rfl⟩:=ry
  cases rx
  have hm:=PySem.W.mapOf_K (prog:=X.prog) (w:=X.w) I.kIn hl (hk)
  exact tail_any hm.typeIs slot_dict_getitem.lookup (wpAny_getItem_of (PySem.strKind_is X.prog X.w z t) hm (PySem.W.find_K hl e) ⟨.ref f,H,I.tok _,rfl,q⟩) hs
def i7v(f:Addr)(sp:Sp)(dvs:List V)(E:XK)(tg:TE)(t:TA):TE:=fun σ H Q=>tg σ H fun x H1=>x = .ref f/\i6a sp dvs E t σ H1 Q
theorem d7o{CX:CXT}{k:Nat}{f:Addr}{fd:FuncData}{ps:List Str}{sp:Sp}{ds:List Value}{dvs:List V}{E:XK}{g e:Expr}{es:List Expr}{tg:TE}{t:TA}{pos:Pos}(F:a1q X.prog X.w X.K X.mg X.base CX k f fd ps sp)(hr:a2p k X.A)(hk:PySem.W.keepIn X.K (.ref f)=true)(hb:Binds X.K fd ps ds)(hd:Vals dvs ds)(hx:Passes CX X E)
  (hg:PE X g tg) (ha:PA X (e :: es) t) (he:starEach (e :: es) X.env=(false,eval e X.env) :: starEach es X.env:=by rfl) (hpl:(backTo pos (starEach es X.env)).any (·.1)=false:=by rfl)
  (hc:eval (.Call g (e :: es) [] pos) X.env=(do callWith pos (<- eval g X.env) [] (backTo pos (starEach (e :: es) X.env)) (backToKw pos (keywordEach [] X.env))):=by rfl) :
  PE X (.Call g (e :: es) [] pos) (i7v f sp dvs E tg t):=by
 intro pins s σ H Q I h
 refine Call_ (thn (hg pins s σ H _ I h) fun v s1 ⟨x,H1,I1,r1,ex,q1⟩=>?_) hc
 subst ex
 cases r1
 refine PySem.W.callWith_K (h₀:=X.base) I1.ok.mod.kin hk (thn (ha pos pins s1 σ H1 _ I1 q1) fun us s2 ⟨vs,H2,I2,r,q⟩=>⟨I2.kIn,?_⟩) he hpl
 exact g6m F hr hb hd hx I2 r q
theorem SP.j2j{pins:List (Addr×Obj)}{D:Ends}{f:Flow}{s:Shared}(h:SP X.nox pins D f s):SP X pins D f s:=by
 cases f with
 | next=>obtain⟨a,b,c,d⟩:=h; exact⟨a,b,c.c7g,d⟩
 | brk=>obtain⟨a,b,c,d⟩:=h; exact⟨a,b,c.c7g,d⟩
 | cont=>obtain⟨a,b,c,d⟩:=h; exact⟨a,b,c.c7g,d⟩
 | ret u=>obtain⟨v,a,b,c,d⟩:=h; exact⟨v,a,b,c.c7g,d⟩
theorem i2d{st:Stmt}{h₀:ExceptHandler}{hs:List ExceptHandler}{tb:TS}{pos:Pos}(hb:PS X.nox st tb):PS X (.Try [st] (h₀ :: hs) [] [] pos) tb:=by
 intro pins s σ H Dn I h
 refine wpAny_Try_except (wpAny_execs_cons (wpAny_mono (hb pins s σ H Dn (I.wish _) h) (fun f s1 q=>?_) fun e s1 z=>False.elim z))
 have q':=SP.j2j q
 cases f with
 | next=>exact wpAny_execs_nil (wpAny_execs_nil q')
 | ret v=>exact q'
 | brk=>exact q'
 | cont=>exact q'
end
end L2
namespace L2
open PySem PySem.Spec PyProof.Rows
theorem g7b{c:Nat}:∀ {a a' b b':List Nat},a++c :: b=a'++c :: b'->c∉a->c∉a'->a=a'/\b=b'
 | [],[],_,_,h,_,_=>by simpa using h
 | [],d :: a',_,_,h,_,h2=>by
  rw [List.nil_append,List.cons_append,List.cons.injEq] at h
  exact absurd (by rw [h.1]; exact List.mem_cons_self) h2
 | d :: a,[],_,_,h,h1,_=>by
  rw [List.nil_append,List.cons_append,List.cons.injEq] at h
  exact absurd (by rw [h.1]; exact List.mem_cons_self) h1
 | d :: a,d' :: a',_,_,h,h1,h2=>by
  rw [List.cons_append,List.cons_append,List.cons.injEq] at h
  obtain⟨e1,e2⟩:=g7b h.2 (fun q=>h1 (List.mem_cons_of_mem _ q)) (fun q=>h2 (List.mem_cons_of_mem _ q))
  exact⟨by rw [h.1,e1],e2⟩
theorem b7k(c:Nat)(p q:Str)(r:List Str):sg (Str.join ⟨#[c]⟩ (p :: q :: r))=sg p++c :: sg (Str.join ⟨#[c]⟩ (q :: r)):=by
 show sg (p++⟨#[c]⟩++Str.join ⟨#[c]⟩ (q :: r))=_
 rw [a3q,a3q,List.append_assoc]
 rfl
theorem g0k{c:Nat}:∀ {ps qs:List Str},ps≠[]->qs≠[]->(∀ p∈ps,c∉sg p)->(∀ q∈qs,c∉sg q)->sg (Str.join ⟨#[c]⟩ ps)=sg (Str.join ⟨#[c]⟩ qs)->ps=qs
 | [],_,h,_,_,_,_=>absurd rfl h
 | _ :: _,[],_,h,_,_,_=>absurd rfl h
 | [p],[q],_,_,_,_,e=>by
  rw [c3n (show sg p=sg q from e)]
 | [p],q :: q' :: qs,_,_,fp,_,e=>by
  rw [b7k] at e
  exact absurd (by rw [show sg p=_ from e]; simp) (fp p (List.mem_cons_self ..))
 | p :: p' :: ps,[q],_,_,_,fq,e=>by
  rw [b7k] at e
  exact absurd (by rw [show sg q=_ from e.symm]; simp) (fq q (List.mem_cons_self ..))
 | p :: p' :: ps,q :: q' :: qs,_,_,fp,fq,e=>by
  rw [b7k,b7k] at e
  obtain⟨e1,e2⟩:=g7b e (fp p (List.mem_cons_self ..)) (fq q (List.mem_cons_self ..))
  rw [c3n e1,g0k (by simp) (by simp) (fun x hx=>fp x (List.mem_cons_of_mem _ hx)) (fun x hx=>fq x (List.mem_cons_of_mem _ hx)) e2]
theorem h2z(x y:Str):c0g x y=Txt.split x y:=rfl
theorem h7w(x y:Str):Txt.split x y≠[]:=by
 unfold Txt.split
 split
 ·simp
 ·split
  ·simp
  ·rw [StrLaws.partsBetween_eq]
   obtain⟨p,r,e⟩:=StrLaws.partsFrom_ne x y.length 0 (Builtin.Str.occurrences x y 0 x.length (x.length+1))
   rw [e]
   simp
theorem g8m{x:Str}{c:Nat}{ps:List Str}(hn:ps≠[])(hf:∀ p∈ps,c∉sg p)(h:sg x=sg (Str.join ⟨#[c]⟩ ps)):c0g x ⟨#[c]⟩=ps:=by
 rw [h2z]
 refine g0k (c:=c) (h7w _ _) hn (fun p hp=>StrLaws.split_free x c p hp) hf ?_
 rw [StrLaws.join_split,h]
end L2
namespace L2
open PySem PySem.Spec PyProof.Rows
def b5g(t t':TE):TE:=fun σ H Q=>t σ H Q\/t' σ H Q
theorem a3k{X:Cx}{e:Expr}{t t':TE}(h:PE X e t)(h':PE X e t'):PE X e (b5g t t'):=fun pins s σ H Q I z=>z.elim (h pins s σ H Q I) (h' pins s σ H Q I)
theorem h7x:∀ (k n:Nat),n < 10 ^ (k+1)->(dg n).length<=k+1
 | 0,n,h=>by
  rw [g3i (by omega)]
  exact Nat.le_refl _
 | k+1,n,h=>by
  rcases Nat.lt_or_ge n 10 with z | z
  ·rw [g3i z,List.length_singleton]
   omega
  ·have e:n=10*(n / 10)+n % 10:=by omega
   rw [e,d8o (by omega) (by omega),List.length_append,List.length_singleton]
   have:=h7x k (n / 10) (by rw [Nat.pow_succ] at h; omega)
   omega
theorem i2e{X:Cx}{K:PySem.W.Frag}(hK:X.K=K)(hu:X.A.units+64 < cLine):OpR X (compareOp .Eq) (j1g K):=hK▸c2y hu
theorem g3o{K:PySem.W.Frag}{a D:Addr}{xs:List V}{te:TE}{σ:St}{H:Hp}{Q:VK}(Pv:Nat->List V->Hp->Prop)(h0:Pv 0 [] H)(hsz:xs.length<=sizeLine)
  (hD:∀ i ys H,i<=xs.length->Pv i ys H->H D=some (.lst ys)/\SqL K H a xs/\ys.length=i)
  (hs:∀ i x ys H,xs[i]? = some x->Pv i ys H->∃ p u v,x = .ref p/\H p=some (.tup [u,v])/\te (some u :: some v :: σ) H fun y H2=>H2 D=some (.lst ys)/\∀ H3,a2j D H2 H3->H3 D=some (.lst (ys++[y]))->Pv (i+1) (ys++[y]) H3)
  (hd:∀ ys H,Pv xs.length ys H->Q (.ref D) H):h2w (Itl K a) te D σ H Q ⟨⟩:=by
 refine⟨xs.length,Pv,h0,fun i ys H hi p=>?_⟩
 obtain⟨e1,e2,e3⟩:=hD i ys H hi p
 refine⟨e1,?_⟩
 by_cases hlt:i < xs.length
 ·refine .inr ⟨hlt,⟨xs,xs[i],e2,by simp [hlt]⟩,by omega,fun x H' y=>?_⟩
  obtain⟨e,y⟩:=y
  subst e
  exact hs i x ys _ (y xs e2) p
 ·have e:i=xs.length:=by omega
  subst e
  exact .inl ⟨⟨xs,e2,Nat.le_refl _⟩,hd ys H p⟩
open PySem.Builtin.Int (intBits)
noncomputable def fW (x : Rat) : Str := Str.empty ++ Str.ofString (toString x.num) ++ Str.ofString "/" ++ Str.ofString (toString (x.den : Int))
noncomputable def cW (c : Int × Rat) : Str := Str.empty ++ Str.ofString (toString c.1) ++ Str.ofString "=" ++ fW c.2
noncomputable def nW(n:Nat):Str:=Str.ofString (toString (n:Int))
def YOk(y:Rat):Prop:=y.num.natAbs<=1000/\y.den<=1000
inductive Dt where
 | gain (y:Rat)
 | delay (n:Nat)
 | echo (y:Rat) (n t:Nat)
 | back (y:Rat) (n:Nat)
 | hall (y:Rat) (n:Nat)
 | swell (cs:List (Int×Rat))
noncomputable def Dt.kd:Dt->Nat
 | .gain _=>0
 | .delay _=>1
 | .echo .. => 2
 | .back .. => 3
 | .hall .. => 4
 | .swell _=>5
noncomputable def Dt.kind:Dt->Str
 | .gain _ => Str.ofString "gain"
 | .delay _ => Str.ofString "delay"
 | .echo .. => Str.ofString "echo"
 | .back .. => Str.ofString "back"
 | .hall .. => Str.ofString "hall"
 | .swell _ => Str.ofString "swell"
noncomputable def Dt.vals:Dt->List Str
 | .gain y=>[fW y]
 | .delay n=>[nW n]
 | .echo y n t=>[fW y,nW n,nW t]
 | .back y n=>[fW y,nW n]
 | .hall y n=>[fW y,nW n]
 | .swell cs=>[Str.join ⟨#[44]⟩ (cs.map cW)]
noncomputable def Dt.word(d:Dt):Str:=Str.join ⟨#[58]⟩ (d.kind :: d.vals)
def i7w(cs:List (Int×Rat)):Prop:=(∀ c∈cs,0<=c.1/\c.1<=100000/\YOk c.2)/\(∀ (i:Nat) c d,cs[i]? = some c->cs[i+1]? = some d->c.1 < d.1)/\1<=cs.length/\cs.length<=12
noncomputable def Dt.ok:Dt->Prop
 | .gain y=>YOk y
 | .delay n=>n<=1000
 | .echo y n t=>YOk y/\1<=n/\n<=1000/\t<=16
 | .back y n=>YOk y/\1<=n/\n<=1000
 | .hall y n=>YOk y/\(y.num.natAbs:Int) < y.den/\1<=n/\n<=1000
 | .swell cs=>i7w cs
theorem c7z{t:Int}{n:Nat}(h:t.natAbs < 2 ^ n)(hn:1<=n):t.natAbs.log2 < n:=by
 rcases Nat.eq_zero_or_pos t.natAbs with z | z
 ·rw [z]
  show Nat.log2 0 < n
  have:Nat.log2 0=0:=by decide
  omega
 ·rw [Nat.log2_lt (by omega)]
  exact h
theorem c8g{t:Int}{n:Nat}(h:t.natAbs < 2 ^ n)(hn:1<=n):(Str.ofString (toString t)).length<=n+1:=by
 have e:(Str.ofString (toString t)).length=(txt t).length:=by rw [<- c7y,d2r]
 have:=g3j t
 have:=c7z h hn
 omega
theorem d8p{n:Nat}(h:n < 2 ^ 20):(nW n).length<=21:=c8g (t:=(n:Int)) (n:=20) (by omega) (by decide)
theorem YOk.b{y:Rat}(h:YOk y):intBits y.num<=10/\intBits (y.den:Int)<=10:=⟨intBits_le_iff.mpr (Nat.lt_of_le_of_lt h.1 (by decide)),intBits_le_iff.mpr (Nat.lt_of_le_of_lt (show (y.den:Int).natAbs<=1000 from h.2) (by decide))⟩
theorem d8q{x:Rat}(h1:intBits x.num<=10)(h2:intBits (x.den:Int)<=10):(fW x).length<=23:=by
 have a:=c8g (intBits_le_iff.mp h1) (by decide)
 have b:=c8g (intBits_le_iff.mp h2) (by decide)
 have e0:Str.empty.length=0:=rfl
 have e1 : (Str.ofString "/").length = 1 := by decide +kernel
 unfold fW
 simp only [strLen_append,e0,e1]
 omega
theorem i7x{c:Int×Rat}(h0:c.1.natAbs < 2 ^ 20)(h1:intBits c.2.num<=10)(h2:intBits (c.2.den:Int)<=10):(cW c).length<=45:=by
 have a:=c8g h0 (by decide)
 have b:=d8q h1 h2
 have e0:Str.empty.length=0:=rfl
 have e1 : (Str.ofString "=").length = 1 := by decide +kernel
 unfold cW
 simp only [strLen_append,e0,e1]
 omega
theorem h7y(n:Nat):sg (nW n)=txt (n:Int):=d2r _
theorem i7y(y:Rat):sg (fW y)=i0h y.num (y.den:Int):=by
 unfold fW i0h
 rw [a3q,a3q,a3q,d2r,d2r]
 have e4:sg Str.empty = []:=rfl
 have e5 : sg (Str.ofString "/") = [47] := by decide +kernel
 rw [e4,e5]
 simp
theorem j2k(c:Int×Rat):sg (cW c)=txt c.1++61 :: sg (fW c.2):=by
 unfold cW
 rw [a3q,a3q,a3q,d2r]
 have e4:sg Str.empty = []:=rfl
 have e5 : sg (Str.ofString "=") = [61] := by decide +kernel
 rw [e4,e5]
 simp
theorem i2f{y:Rat}(h:YOk y):Good (sg (fW y)) y.num (y.den:Int):=by
 have dp:=y.den_pos
 refine⟨i7y y,by omega,y.reduced,?_,?_⟩
 ·exact h7x 8 _ (Nat.lt_of_le_of_lt h.1 (by decide))
 ·exact h7x 8 _ (Nat.lt_of_le_of_lt (show (y.den:Int).natAbs<=1000 from h.2) (by decide))
theorem h3a{c:Nat}(h1:c≠45)(h2:57 < c)(y:Rat):c∉sg (fW y):=by
 rw [i7y]
 unfold i0h
 intro h
 rcases List.mem_append.mp h with z | z
 ·exact f3z h1 (.inr h2) z
 ·rcases List.mem_cons.mp z with z | z
  ·omega
  ·exact f3z h1 (.inr h2) z
theorem h3b{c:Nat}(h1:c≠45)(h2:c < 48\/57 < c)(n:Nat):c∉sg (nW n):=by
 rw [h7y]
 exact f3z h1 h2
theorem i2g(c:Int×Rat):58∉sg (cW c):=by
 rw [j2k]
 intro h
 rcases List.mem_append.mp h with z | z
 ·exact f3z (by decide) (.inr (by decide)) z
 ·rcases List.mem_cons.mp z with z | z
  ·omega
  ·exact h3a (by decide) (by decide) _ z
theorem h3c{c k:Nat}(hk:c≠k):∀ {ps:List Str},(∀ p∈ps,c∉sg p)->c∉sg (Str.join ⟨#[k]⟩ ps)
 | [],_=>by
  show c∉([] : List Nat)
  simp
 | [p],h=>h p (List.mem_cons_self ..)
 | p :: q :: r,h=>by
  rw [b7k]
  intro z
  rcases List.mem_append.mp z with z | z
  ·exact h p (List.mem_cons_self ..) z
  ·rcases List.mem_cons.mp z with z | z
   ·exact hk z
   ·exact h3c hk (fun x hx=>h x (List.mem_cons_of_mem _ hx)) z
theorem g0l{b:Nat}:∀ {l:List Nat},(∀ x∈l,x<=b)->l.sum<=l.length*b
 | [],_=>Nat.zero_le _
 | x :: l,h=>by
  have i:=g0l (l:=l) fun y hy=>h y (List.mem_cons_of_mem _ hy)
  have:=h x (List.mem_cons_self ..)
  rw [List.sum_cons,List.length_cons,Nat.succ_mul]
  omega
theorem g7c{z:Str}{ps:List Str}{n:Nat}(h:∀ p∈ps,p.length<=n):(Str.join z ps).length<=ps.length*n+ps.length*z.length:=by
 have a:=StrLaws.join_length_le z ps
 have b:=g0l (b:=n) (l:=ps.map (·.length)) fun x hx=>by
  obtain⟨y,hy,rfl⟩:=List.mem_map.mp hx
  exact h y hy
 rw [List.length_map] at b
 have c:(ps.length - 1)*z.length<=ps.length*z.length:=Nat.mul_le_mul_right _ (Nat.sub_le _ _)
 omega
theorem i7w.len{cs:List (Int×Rat)}(h:i7w cs):∀ c∈cs,(cW c).length<=45:=fun c hc=>by
 obtain⟨a,b,y⟩:=h.1 c hc
 exact i7x (by omega) y.b.1 y.b.2
theorem i7w.jlen{cs:List (Int×Rat)}(h:i7w cs):(Str.join ⟨#[44]⟩ (cs.map cW)).length<=600:=by
 have a:=g7c (z:=⟨#[44]⟩) (ps:=cs.map cW) (n:=45) fun p hp=>by
  obtain⟨c,hc,rfl⟩:=List.mem_map.mp hp
  exact h.len c hc
 rw [List.length_map,d8n] at a
 have:=h.2.2.2
 omega
theorem Dt.free{d:Dt}:∀ p∈d.kind :: d.vals,58∉sg p:=by
 cases d <;> intro p hp <;> simp only [Dt.kind,Dt.vals,List.mem_cons,List.not_mem_nil,or_false] at hp
 case gain => rcases hp with rfl | rfl; decide +kernel; exact h3a (by decide) (by decide) _
 case delay => rcases hp with rfl | rfl; decide +kernel; exact h3b (by decide) (.inr (by decide)) _
 case echo => rcases hp with rfl | rfl | rfl | rfl; decide +kernel; exact h3a (by decide) (by decide) _; exact h3b (by decide) (.inr (by decide)) _; exact h3b (by decide) (.inr (by decide)) _
 case back => rcases hp with rfl | rfl | rfl; decide +kernel; exact h3a (by decide) (by decide) _; exact h3b (by decide) (.inr (by decide)) _
 case hall => rcases hp with rfl | rfl | rfl; decide +kernel; exact h3a (by decide) (by decide) _; exact h3b (by decide) (.inr (by decide)) _
 case swell cs =>
  rcases hp with rfl | rfl
  ·decide +kernel
  ·refine h3c (by decide) fun p hp=>?_
   obtain⟨c,_,rfl⟩:=List.mem_map.mp hp
   exact i2g c
theorem Dt.vlen{d:Dt}(h:d.ok):∀ p∈d.kind :: d.vals,p.length<=600:=by
 have k1 : (Str.ofString "gain").length = 4 := by decide +kernel
 have k2 : (Str.ofString "delay").length = 5 := by decide +kernel
 have k3 : (Str.ofString "echo").length = 4 := by decide +kernel
 have k4 : (Str.ofString "back").length = 4 := by decide +kernel
 have k5 : (Str.ofString "hall").length = 4 := by decide +kernel
 have k6 : (Str.ofString "swell").length = 5 := by decide +kernel
 have f:∀ {y:Rat},YOk y->(fW y).length<=600:=fun h=>Nat.le_trans (d8q h.b.1 h.b.2) (by decide)
 have g:∀ {n:Nat},n<=1000->(nW n).length<=600:=fun h=>Nat.le_trans (d8p (Nat.lt_of_le_of_lt h (by decide))) (by decide)
 cases d <;> intro p hp <;> simp only [Dt.kind,Dt.vals,List.mem_cons,List.not_mem_nil,or_false] at hp
 case gain => rcases hp with rfl | rfl; omega; exact f h
 case delay => rcases hp with rfl | rfl; omega; exact g h
 case echo => rcases hp with rfl | rfl | rfl | rfl; omega; exact f h.1; exact g h.2.2.1; exact g (Nat.le_trans h.2.2.2 (by decide))
 case back => rcases hp with rfl | rfl | rfl; omega; exact f h.1; exact g h.2.2
 case hall => rcases hp with rfl | rfl | rfl; omega; exact f h.1; exact g h.2.2.2
 case swell cs => rcases hp with rfl | rfl; omega; exact h.jlen
theorem Dt.vn{d:Dt}:d.vals.length<=3:=by
 cases d <;> simp [Dt.vals]
theorem Dt.wlen{d:Dt}(h:d.ok):d.word.length<=4000:=by
 have a:=g7c (z:=⟨#[58]⟩) (d.vlen h)
 have b:=d.vn
 rw [List.length_cons,d8n] at a
 unfold Dt.word
 omega
theorem Dt.split(d:Dt):c0g d.word ⟨#[58]⟩=d.kind :: d.vals:=g8m (by simp) d.free rfl
theorem h3d(z p:Str):Str.join z [p]=p:=rfl
theorem h3e:sg Str.empty = []:=rfl
theorem i7z : sg (Str.ofString "gain:") = sg (Str.ofString "gain") ++ [58] := by decide +kernel
theorem i2h : sg (Str.ofString "delay:") = sg (Str.ofString "delay") ++ [58] := by decide +kernel
theorem i8a : sg (Str.ofString "echo:") = sg (Str.ofString "echo") ++ [58] := by decide +kernel
theorem i8b : sg (Str.ofString "back:") = sg (Str.ofString "back") ++ [58] := by decide +kernel
theorem i2i : sg (Str.ofString "swell:") = sg (Str.ofString "swell") ++ [58] := by decide +kernel
theorem h3f : sg (Str.ofString ":") = [58] := by decide +kernel
theorem j2l : Str.ofString "," = ⟨#[44]⟩ := by decide +kernel
theorem j2m : Str.ofString ":" = ⟨#[58]⟩ := by decide +kernel
theorem i0l (y : Rat) : Str.empty ++ Str.ofString "gain:" ++ fW y = (Dt.gain y).word := c3n (by
 simp only [Dt.word,Dt.kind,Dt.vals,a3q,b7k,h3d,h3e,i7z,h3f,List.nil_append,List.append_assoc,List.singleton_append,List.cons_append])
theorem h3g (n : Nat) : Str.empty ++ Str.ofString "delay:" ++ nW n = (Dt.delay n).word := c3n (by
 simp only [Dt.word,Dt.kind,Dt.vals,a3q,b7k,h3d,h3e,i2h,h3f,List.nil_append,List.append_assoc,List.singleton_append,List.cons_append])
theorem i0m (y : Rat) (n t : Nat) : Str.empty ++ Str.ofString "echo:" ++ fW y ++ Str.ofString ":" ++ nW n ++ Str.ofString ":" ++ nW t = (Dt.echo y n t).word := c3n (by
 simp only [Dt.word,Dt.kind,Dt.vals,a3q,b7k,h3d,h3e,i8a,h3f,List.nil_append,List.append_assoc,List.singleton_append,List.cons_append])
theorem i0n (y : Rat) (n : Nat) : Str.empty ++ Str.ofString "back:" ++ fW y ++ Str.ofString ":" ++ nW n = (Dt.back y n).word := c3n (by
 simp only [Dt.word,Dt.kind,Dt.vals,a3q,b7k,h3d,h3e,i8b,h3f,List.nil_append,List.append_assoc,List.singleton_append,List.cons_append])
theorem j2n(z:Str)(ps:List Str):Txt.join z ps=Str.join z ps:=by
 show Builtin.Str.glued _ _=_
 rw [StrLaws.glued_eq_join]
theorem j2o (cs : List (Int × Rat)) : Str.empty ++ Str.ofString "swell:" ++ Txt.join (Str.ofString ",") (cs.map cW) = (Dt.swell cs).word := c3n (by
 rw [j2n,j2l]
 simp only [Dt.word,Dt.kind,Dt.vals,a3q,b7k,h3d,h3e,i2i,h3f,List.nil_append,List.append_assoc,List.singleton_append,List.cons_append])
end L2
namespace L2
open PySem PySem.Spec PyProof.Rows
section
variable {X:Cx}
noncomputable def j2p:V->List V->Hp->VK->Prop:=fun x vs H Q=>match x,vs with
 | .ref l,[.int i]=>(match H l with
  | some (.lst xs)=>0<=i/\i < (xs.length:Int)/\All (fun v H1=>xs[i.toNat]? = some v/\a2j l H H1/\H1 l=some (.lst (xs.eraseIdx i.toNat))) Q ⟨⟩ ⟨⟩
  | _=>False)
 | .ref l,[]=>(match H l with
  | some (.lst xs)=>0 < xs.length/\All (fun v H1=>xs[xs.length - 1]? = some v/\a2j l H H1/\H1 l=some (.lst xs.dropLast)) Q ⟨⟩ ⟨⟩
  | _=>False)
 | _,_=>False
theorem i2j : MtR X "list.pop" j2p := by
 intro pins s σ H x vs v us Q I rx rv h
 match x,vs,h with
 | .ref l,[.int i],h =>
  have h':(match H l with
   | some (.lst xs)=>0<=i/\i < (xs.length:Int)/\All (fun v H1=>xs[i.toNat]? = some v/\a2j l H H1/\H1 l=some (.lst (xs.eraseIdx i.toNat))) Q ⟨⟩ ⟨⟩
   | _=>False):=h
  split at h'
  ·rename_i xs hH
   obtain⟨i0,i1,q⟩:=h'
   obtain⟨z,its,n,r,hl,e⟩:=I.i1m hH
   have hs:sizeLine=16777216:=sizeLine_eq
   have hx : xs[i.toNat]? = some (xs[i.toNat]'(by omega)) := List.getElem?_eq_getElem _
   refine h7c pins s σ H _ _ v us Q I rx rv ⟨l, xs, i, i.toNat, xs[i.toNat]'(by omega), rfl, rfl, hH, by omega, by omega, ?_, hx, q _ _ ⟨hx, a2j.upd, a3j⟩⟩
   unfold seqIndex?
   simp only
   rw [if_neg (show ¬ i < 0 by omega)]
   rw [if_pos (by rw [Bool.and_eq_true,decide_eq_true_eq,decide_eq_true_eq]; omega)]
  ·exact h'.elim
 | .ref l,[],h =>
  have h':(match H l with
   | some (.lst xs)=>0 < xs.length/\All (fun v H1=>xs[xs.length - 1]? = some v/\a2j l H H1/\H1 l=some (.lst xs.dropLast)) Q ⟨⟩ ⟨⟩
   | _=>False):=h
  split at h'
  ·rename_i xs hH
   obtain⟨i0,q⟩:=h'
   have hx : xs[xs.length - 1]? = some (xs[xs.length - 1]'(by omega)) := List.getElem?_eq_getElem _
   exact i6h pins s σ H _ _ v us Q I rx rv ⟨l,xs,_,rfl,rfl,hH,hx,q _ _ ⟨hx,a2j.upd,a3j⟩⟩
  ·exact h'.elim
end
end L2
namespace L2
open PySem PySem.Spec PyProof.Rows PySem.W
theorem g0m{K:PySem.W.Frag}{H:Hp}:∀ ss:List Str,c7t K H (ss.map V.str) (kqdPs (ss.map Dat.str))
 | []=>.nil
 | n :: ns=>.cons (.str n) (g0m ns)
theorem g3p{ns ms:List Str}:ns.map Dat.str=ms.map Dat.str ↔ ns=ms:=by
 induction ns generalizing ms with
 | nil=>cases ms <;> simp
 | cons n ns ih=>cases ms <;> simp [ih]
theorem g7d{ss:List Str}(h:∀ s∈ss,PyData.strOk s=true):kqdOk 1 (.list (ss.map .str))=true:=by
 show (ss.map Dat.str).all (kqdOk 0)=true
 rw [List.all_eq_true]
 intro d hd
 obtain⟨s,hs,rfl⟩:=List.mem_map.mp hd
 exact h s hs
theorem g0n{K:PySem.W.Frag}{H:Hp}{p:Addr}{ss:List Str}(h:SqL K H p (ss.map V.str)):g2s K H (.ref p) (kqdP (.list (ss.map .str))):=by
 rw [kqdP]
 exact .lst h (g0m ss)
theorem f5s{K:PySem.W.Frag}{H:Hp}{p q:Addr}{ns ms:List Str}{Q:VK}(hp:SqL K H p (ns.map V.str))(hq:SqL K H q (ms.map V.str))(h1:∀ s∈ns,PyData.strOk s=true)(h2:∀ s∈ms,PyData.strOk s=true)(h:Q (.bl (!decide (ns=ms))) H):i9v K (.ref p) (.ref q) H Q :=
 i7a (g0n hp) (g0n hq) (g7d h1) (g7d h2) (by decide) (by decide) (by rw [decide_eq_true_eq,Dat.list.injEq,g3p]) h
end L2
namespace L2
open PySem PySem.Spec PyProof.Rows
section
variable {X:Cx}
noncomputable def j2q:List V->Hp->VK->Prop:=fun xs H Q=>match xs with
 | [.ref p]=>(match H p with
  | some (.lst ys)=>∃ bs:List Bool,ys=bs.map V.bl/\Q (.bl (bs.all id)) H
  | _=>False)
 | _=>False
theorem g0o:∀ {bs:List Bool} {us:List Value},Vals (bs.map V.bl) us->us.length=bs.length/\∀ (i:Nat) v,us[i]? = some v->∃ b,bs[i]? = some b/\v = .bool b
 | [],_,h=>by cases h; exact⟨rfl,fun i v e=>by simp at e⟩
 | b :: bs,_,h=>by
  cases h with
  | cons r t =>
   have ih:=g0o t
   refine⟨by simp [ih.1],fun i v e=>?_⟩
   cases i with
   | zero=>simp at e; exact⟨b,rfl,e.symm.trans r⟩
   | succ i=>simp at e; exact ih.2 i v e
theorem g0p (hc : X.calm = true) : b3v X (.builtin "all") j2q := by
 intro pins s σ H xs us Q I r h
 match xs,r,h with
 | [.ref p],r,h =>
  have h':(match H p with
   | some (.lst ys)=>∃ bs:List Bool,ys=bs.map V.bl/\Q (.bl (bs.all id)) H
   | _=>False):=h
  split at h'
  ·rename_i ys e
   obtain⟨bs,rfl,q⟩:=h'
   obtain⟨u,rfl,ru⟩:=vals1 r
   cases (show u=Value.ref p from ru)
   obtain⟨its,rv,⟨o,n,e1,c1,d1,dd⟩,_⟩:=I.list (SqL.of e)
   obtain⟨hbl,hb⟩:=g0o rv
   have hl:s.heap.IsList p its.toArray:=⟨o,e1,c1,n,dd⟩
   have hlt:p < s.heap.objs.size:=Heap.lt_size e1
   refine call_all_walk (wpAny_pyIter_list hl ?_)
   refine⟨s.heap.objs.size,[s.heap.objs.size,p],[s.heap.objs.size],its.toArray.size,_,_,fun i=>(bs[i]?).getD true,rfl,Walks.list (A:=X.A.in1) (I.ok.hd hc) _ p (Nat.ne_of_lt hlt) its.toArray,
    ⟨⟨_,Heap.get?_push_size _ rfl,rfl,rfl⟩,hl.push _⟩,fun i v s' Q' E' hP hQ=>?_,fun h' tk hk=>?_⟩
   ·obtain⟨b,e,rfl⟩:=hb i v (by simpa using hP)
    simp only [e,Option.getD_some] at hQ
    exact wpAny_truthy_bool hQ
   ·have e:((List.range its.toArray.size).all fun i=>(bs[i]?).getD true)=bs.all id:=by
     rw [List.size_toArray,hbl]; exact LSm.range_all bs
    rw [e]
    exact⟨.bl _,H,I.kept (LSm.kept_iter hk),rfl,q⟩
  ·exact h'.elim
end
def i2k(J:It)(tc:TT)(te:TE)(D:Addr)(σ:St)(H:Hp)(Q:VK)(_:Tag Q):Prop:=∃ (n:Nat) (W:Nat->List V->Hp->Prop),W 0 [] H/\∀ i ys H,i<=n->W i ys H->H D=some (.lst ys) /\
 ((J.stop i H/\Q (.ref D) H)\/(i < n/\J.go i H/\ys.length < sizeLine/\∀ x H',J.yld i H x H'->∃ p u v,x = .ref p/\H' p=some (.tup [u,v])/\tc (some u :: some v :: σ) H' fun b H1 =>
  if b=true then te (some u :: some v :: σ) H1 fun y H2=>H2 D=some (.lst ys)/\∀ H3,a2j D H2 H3->H3 D=some (.lst (ys++[y]))->W (i+1) (ys++[y]) H3
  else W (i+1) ys H1))
def j2r(wi:TI)(tc:TT)(te:TE):TE:=fun σ H Q=>wi σ H fun J H1=>∀ D H2,H1 D=none->Same H1 H2->H2 D=some (.lst [])->i2k J tc te D σ H2 Q ⟨⟩
section
variable {X:Cx}{scope:Scope}{x y:Str}{pins:List (Addr×Obj)}{σ:St}{elt iter cnd:Expr}{px py tpos pos:Pos}{kk:Nat}{wi:TI}{te:TE}{tc:TT}
end
end L2
namespace L2
open PySem PySem.Spec PyProof.Rows
theorem hu1{n:Nat}(h:n+64 < cLine):n+1 < cLine:=by omega
noncomputable def kT(k:Str):Key:=.inr k
def i8c(x y:V)(H:Hp)(Q:VK):Prop:=match x,y with
 | .ref a,.str k=>(match H a with
  | some (.dK kvs)=>∃ v,b8k kvs (kT k)=some v/\Q v H
  | _=>False)
 | _,_=>False
def i8d(neg:Bool)(x y:V)(H:Hp)(Q:VK):Prop:=match x,y with
 | .ref a,.str k=>(match H a with
  | some (.dK kvs)=>Q (.bl ((b8k kvs (kT k)).isSome != neg)) H
  | _=>False)
 | _,_=>False
theorem h7z{x y:V}{H:Hp}{Q:VK}(h:i8c x y H Q):∃ a k kvs v,x = .ref a/\y = .str k/\H a=some (.dK kvs)/\b8k kvs (kT k)=some v/\Q v H:=by
 cases x <;> cases y <;> first | exact False.elim h | skip
 ·rename_i a k
  have h':(match H a with
   | some (.dK kvs)=>∃ v,b8k kvs (kT k)=some v/\Q v H
   | _=>False):=h
  split at h'
  ·rename_i kvs e
   obtain⟨v,e1,q⟩:=h'
   exact⟨a,k,kvs,v,rfl,rfl,e,e1,q⟩
  ·exact h'.elim
theorem h8a{x y:V}{H:Hp}{Q:VK}{neg:Bool}(h:i8d neg x y H Q):∃ a k kvs,x = .ref a/\y = .str k/\H a=some (.dK kvs)/\Q (.bl ((b8k kvs (kT k)).isSome != neg)) H:=by
 cases x <;> cases y <;> first | exact False.elim h | skip
 ·rename_i a k
  have h':(match H a with
   | some (.dK kvs)=>Q (.bl ((b8k kvs (kT k)).isSome != neg)) H
   | _=>False):=h
  split at h'
  ·rename_i kvs e
   exact⟨a,k,kvs,rfl,rfl,e,h'⟩
  ·exact h'.elim
def i8e(td ty:TE):TE:=fun σ H Q=>td σ H fun x H1=>ty σ H1 fun y H2=>i8c x y H2 Q
def h8b(ty td:TE):TE:=fun σ H Q=>ty σ H fun y H1=>td σ H1 fun x H2=>i8d true x y H2 Q
def i8f(x y v:V)(H:Hp)(Q:Hp->Prop):Prop:=match x,y with
 | .ref a,.str k=>(match H a with
  | some (.dK kvs)=>kvs.length < sizeLine/\∀ H1,a2j a H H1->H1 a=some (.dK (putK kvs (kT k) v))->Q H1
  | _=>False)
 | _,_=>False
theorem h8c{x y v:V}{H:Hp}{Q:Hp->Prop}(h:i8f x y v H Q):∃ a k kvs,x = .ref a/\y = .str k/\H a=some (.dK kvs)/\kvs.length < sizeLine/\∀ H1,a2j a H H1->H1 a=some (.dK (putK kvs (kT k) v))->Q H1:=by
 cases x <;> cases y <;> first | exact False.elim h | skip
 ·rename_i a k
  have h':(match H a with
   | some (.dK kvs)=>kvs.length < sizeLine/\∀ H1,a2j a H H1->H1 a=some (.dK (putK kvs (kT k) v))->Q H1
   | _=>False):=h
  split at h'
  ·rename_i kvs e
   exact⟨a,k,kvs,rfl,rfl,e,h'⟩
  ·exact h'.elim
def i8g(td ty tv:TE):TS:=fun D σ H=>tv σ H fun v H1=>td σ H1 fun x H2=>ty σ H2 fun y H3=>i8f x y v H3 (D.nx σ)
def i8h(tk tv:TE):TE:=fun σ H Q=>∀ p H1,H p=none->Same H H1->H1 p=some (.dK [])->tk σ H1 fun x H2=>tv σ H2 fun y H3=>∃ k,x = .str k/\H3 p=some (.dK [])/\∀ H4,a2j p H3 H4->H4 p=some (.dK [(kT k,y)])->Q (.ref p) H4
section
variable {X:Cx}{o i e value:Expr}{pos pos' tpos:Pos}{td ty tv tk:TE}
theorem a7g(hu:X.A.units+1 < cLine)(ho:PE X o td)(hi:PE X i ty)(hs:j3y i):PE X (.Subscript o i pos) (i8e td ty):=by
 intro pins s σ H Q I h
 refine i1o PySem.F.slot_dict_getitem.lookup hs (thn (ho pins s σ H _ I h) fun u s1 ⟨x,H1,I1,rx,q1⟩=>thn (hi pins s1 σ H1 _ I1 q1) fun iv s2 ⟨y,H2,I2,ry,q⟩=>?_)
 obtain⟨a,k,kvs,v,ex,ey,e,ev,q2⟩:=h7z q
 subst ex ey
 obtain rfl:u=Value.ref a:=rx
 have g:h2a H2 a (kV (kT k)) (some v):=ev▸h2a.k e
 exact⟨g3d I2 g,h2b hu I2 g ry fun w' s3 I3 rw'=>⟨v,H2,I3,rw',q2⟩⟩
theorem f4g(hu:X.A.units+1 < cLine)(hi:PE X i ty)(ho:PE X o td):PC X .NotIn i o (h8b ty td):=by
 intro pins s σ H Q I h
 refine thn (hi pins s σ H _ I h) fun iv s1 ⟨y,H1,I1,ry,q1⟩=>thn (ho pins s1 σ H1 _ I1 q1) fun u s2 ⟨x,H2,I2,rx,q⟩=>?_
 obtain⟨a,k,kvs,ex,ey,e,q2⟩:=h8a q
 subst ex ey
 obtain rfl:u=Value.ref a:=rx
 have g:h2a H2 a (kV (kT k)) (b8k kvs (kT k)):=h2a.k e
 rw [Bool.bne_true] at q2
 exact i1n hu I2 g ry fun s3 I3=>⟨.bl (!(b8k kvs (kT k)).isSome),H2,I3,rfl,q2⟩
theorem h3h{op:CmpOp}{a b:Expr}{t:TE}(h:PC X op a b t)(h1:behindInMarks op b=false):PT X (.Compare a [op] [b] pos) (tBF t):=by
 intro pins s σ H Q I h2
 refine (i5f h h1) pins s σ H _ I ?_
 unfold tB
 unfold tBF at h2
 exact cast (congrArg (t σ H) (funext fun x=>funext fun H1=>propext ⟨fun z=>j1o z,fun⟨k,e,q⟩=>by subst e; exact q⟩)) h2
theorem c4q(hu:X.A.units+1 < cLine)(ho:PE X o td)(hi:PE X i ty)(hv:PE X value tv)(hs:swapsWith value (some (.Subscript o i pos')) pos.line X.env=pure false) :
  PS X (.Assign [.Subscript o i pos'] value pos) (i8g td ty tv):=by
 intro pins s σ H D I h
 refine wpAny_Assign_Subscript (thn (hv pins s σ H _ I h) fun r s1 ⟨v,H1,I1,rv,q1⟩=>thn (ho pins s1 σ H1 _ I1 q1) fun u s2 ⟨x,H2,I2,rx,q2⟩=>thn (hi pins s2 σ H2 _ I2 q2) fun iv s3 ⟨y,H3,I3,ry,q⟩=>?_) hs
 obtain⟨a,k,kvs,ex,ey,e,hl,q3⟩:=h8c q
 subst ex ey
 obtain rfl:u=Value.ref a:=rx
 exact h2c hu I3 (i4q.k (k:=kT k) e hl) ry rv fun s4 I4=>⟨σ,_,I4,q3 _ a2j.upd a3j⟩
theorem h8d(hk:PE X i tk)(hv:PE X value tv):PE X (.Dict [some i] [value] pos) (i8h tk tv):=by
 intro pins s σ H Q I q
 have hn:=I.hok.fresh (Nat.le_refl s.heap.objs.size)
 have I1 := I.laid (a := s.heap.objs.size) (o := .dK []) (h' := s.heap.push { cls := .type "dict", data := .dict #[] }) (t' := s.toks) (fun _ _ q => Heap.get?_push_of_some _ q) (Nat.le_refl _) (g6t s.heap I.big)
 have h:PPs X pos [some i] [value] [(tk,tv)]:=h7g hk hv i1p
 refine wpAny_Dict_walk (knd:=a8s X.prog X.w) rfl rfl (by simp) (by simp) (thn (h pins _ σ _ (fun ps H3=>match ps with
  | [(x,y)]=>∃ k,x = .str k/\H3 s.heap.objs.size=some (.dK [])/\∀ H4,a2j s.heap.objs.size H3 H4->H4 s.heap.objs.size=some (.dK [(kT k,y)])->Q (.ref s.heap.objs.size) H4
  | _=>False) I1 (q s.heap.objs.size _ hn (Same.upd hn) a3j)) fun ws s2 ⟨ps,H2,I2,rel,qp⟩=>?_)
 cases ps with
 | nil=>exact False.elim qp
 | cons p ps =>
 obtain⟨x,y⟩:=p
 cases ps with
 | cons _ _=>exact False.elim qp
 | nil =>
  obtain⟨k,ex,e,q2⟩:=qp
  subst ex
  obtain⟨rs,c,rk⟩:=f3u (P:=X.prog) (w:=X.w) (kvs:=[(kT k,y)]) rel
  obtain⟨z,hd,vs0,r0,dd⟩:=i6m I2.hok e
  cases r0
  refine⟨rs,c,dd,fun h' dd' hs=>⟨.ref s.heap.objs.size,_,?_,rfl,q2 _ a2j.upd a3j⟩⟩
  have hz:(g6u [] [(kT k,y)]).length<=sizeLine:=by
   have h1:=d2k [(kT k,y)] []
   rw [List.length_nil,List.length_singleton] at h1
   rw [sizeLine_eq]; omega
  have he:∃ q,h'.get? s.heap.objs.size=some q:=let ⟨q,_,_,hq,_⟩:=dd'; ⟨q,hq⟩
  exact g3c I2 (by rw [e]; exact True.intro) hs he (h9n hz hd (rk.merge .nil) dd')
end
noncomputable def rSlR:V->Option Int->Option Int->Option Int->Hp->VK->Prop:=fun x l u t H Q=>match x with
 | .ref a=>(match H a with
  | some (.lst xs)=>l=none/\u=none/\t=some (-1)/\New H (.lst xs.reverse) Q ⟨⟩
  | _=>False)
 | _=>False
def tSl3R(te:TE)(tl th ts:TO):TE:=fun σ H Q=>te σ H fun x H1=>tl σ H1 fun l H2=>th σ H2 fun u H3=>ts σ H3 fun st H4=>rSlR x l u st H4 Q
end L2
namespace L2
open PySem PySem.Spec PyProof.Rows PySem.W
mutual
inductive Rp(H:Hp)(N:Addr->Prop):V->Dat->Prop
 | str (s:Str):Rp H N (.str s) (.str s)
 | int (n:Int):Rp H N (.int n) (.int n)
 | lst {p:Addr} {vs:List V} {ds:List Dat}:N p->H p=some (.lst vs)->RpL H N vs ds->Rp H N (.ref p) (.list ds)
 | tup {p:Addr} {vs:List V} {ds:List Dat}:H p=some (.tup vs)->RpL H N vs ds->Rp H N (.ref p) (.tuple ds)
inductive RpL(H:Hp)(N:Addr->Prop):List V->List Dat->Prop
 | nil:RpL H N [] []
 | cons {v:V} {vs:List V} {d:Dat} {ds:List Dat}:Rp H N v d->RpL H N vs ds->RpL H N (v :: vs) (d :: ds)
end
def b8p(N:Addr->Prop)(H H':Hp):Prop:=∀ z u,(N z->∀ ys,u≠.lst ys)->H z=some u->H' z=some u
section
variable {H H':Hp}{N M:Addr->Prop}
mutual
theorem Rp.go(h1:∀ z vs,N z->H z=some (.lst vs)->H' z=some (.lst vs)/\M z)(h2:∀ z vs,H z=some (.tup vs)->H' z=some (.tup vs)):∀ {v:V} {d:Dat},Rp H N v d->Rp H' M v d
 | _,_,.str s=>.str s
 | _,_,.int n=>.int n
 | _,_,.lst n h r=>.lst (h1 _ _ n h).2 (h1 _ _ n h).1 (RpL.go h1 h2 r)
 | _,_,.tup h r=>.tup (h2 _ _ h) (RpL.go h1 h2 r)
theorem RpL.go(h1:∀ z vs,N z->H z=some (.lst vs)->H' z=some (.lst vs)/\M z)(h2:∀ z vs,H z=some (.tup vs)->H' z=some (.tup vs)):∀ {vs:List V} {ds:List Dat},RpL H N vs ds->RpL H' M vs ds
 | _,_,.nil=>.nil
 | _,_,.cons h r=>.cons (Rp.go h1 h2 h) (RpL.go h1 h2 r)
end
mutual
theorem Rp.deep{K:PySem.W.Frag}:∀ {v:V} {d:Dat},Rp H N v d->g2s K H v (kqdP d)
 | _,_,.str s=>by rw [kqdP]; exact .str s
 | _,_,.int n=>by rw [kqdP]; exact .int n
 | _,_,.lst n h r=>by rw [kqdP]; exact .lst (SqL.of h) (RpL.deep r)
 | _,_,.tup h r=>by rw [kqdP]; exact .tup (SqT.of h) (RpL.deep r)
theorem RpL.deep{K:PySem.W.Frag}:∀ {vs:List V} {ds:List Dat},RpL H N vs ds->c7t K H vs (kqdPs ds)
 | _,_,.nil=>.nil
 | _,_,.cons h r=>.cons (Rp.deep h) (RpL.deep r)
end
theorem live{z:Addr}{u:HO}(e:H z=some u):H z≠none:=fun q=>by rw [q] at e; cases e
theorem RpL.same{vs:List V}{ds:List Dat}(h:RpL H N vs ds)(S:Same H H'):RpL H' N vs ds:=h.go (fun _ _ n e=>⟨S _ _ e,n⟩) fun _ _ e=>S _ _ e
theorem RpL.mono{vs:List V}{ds:List Dat}(h:RpL H N vs ds)(hm:∀ z,N z->H z≠none->M z):RpL H M vs ds:=h.go (fun z _ n e=>⟨e,hm z n (live e)⟩) fun _ _ e=>e
theorem RpL.put{D:Addr}{ys:List V}{vs:List V}{ds:List Dat}(h:RpL H N vs ds)(hD:H D=some (.lst ys))(nD:¬ N D)(B:a2j D H H'):RpL H' N vs ds :=
 h.go (fun z _ n e=>⟨B _ _ (fun q=>nD (by rw [<- q]; exact n)) e,n⟩) fun z _ e=>B _ _ (fun q=>by rw [q,hD] at e; cases e) e
theorem RpL.over{vs:List V}{ds:List Dat}(h:RpL H N vs ds)(S:b8p M H H')(hd:∀ z,N z->H z≠none->¬ M z):RpL H' N vs ds :=
 h.go (fun z _ n e=>⟨S _ _ (fun m=>absurd m (hd z n (live e))) e,n⟩) fun z _ e=>S _ _ (fun _ ys q=>by cases q) e
theorem RpL.len:∀ {vs:List V} {ds:List Dat},RpL H N vs ds->vs.length=ds.length
 | _,_,.nil=>rfl
 | _,_,.cons _ r=>by rw [List.length_cons,List.length_cons,RpL.len r]
theorem RpL.at:∀ {vs:List V} {ds:List Dat} {i:Nat} {d:Dat},RpL H N vs ds->ds[i]? = some d->∃ v,vs[i]? = some v/\Rp H N v d
 | _,_,_,_,.nil,h=>by simp at h
 | _,_,0,_,.cons h r,e=>by cases e; exact⟨_,rfl,h⟩
 | _,_,i+1,_,.cons h r,e=>by
  rw [List.getElem?_cons_succ] at e
  obtain⟨v,e1,e2⟩:=RpL.at r e
  exact⟨v,by rw [List.getElem?_cons_succ]; exact e1,e2⟩
theorem RpL.get:∀ {vs:List V} {ds:List Dat} {i:Nat} {v:V},RpL H N vs ds->vs[i]? = some v->∃ d,ds[i]? = some d/\Rp H N v d
 | _,_,_,_,.nil,h=>by simp at h
 | _,_,0,_,.cons h r,e=>by cases e; exact⟨_,rfl,h⟩
 | _,_,i+1,_,.cons h r,e=>by
  rw [List.getElem?_cons_succ] at e
  obtain⟨v,e1,e2⟩:=RpL.get r e
  exact⟨v,by rw [List.getElem?_cons_succ]; exact e1,e2⟩
theorem RpL.snoc:∀ {vs:List V} {ds:List Dat} {v:V} {d:Dat},RpL H N vs ds->Rp H N v d->RpL H N (vs++[v]) (ds++[d])
 | _,_,_,_,.nil,h=>.cons h .nil
 | _,_,_,_,.cons h r,e=>.cons h (RpL.snoc r e)
theorem RpL.strs:∀ ss:List Str,RpL H N (ss.map V.str) (ss.map Dat.str)
 | []=>.nil
 | s :: ss=>.cons (.str s) (RpL.strs ss)
theorem RpL.h3i:∀ {ss:List Str} {vs:List V},RpL H N vs (ss.map Dat.str)->vs=ss.map V.str
 | [],_,.nil=>rfl
 | s :: ss,_,.cons (.str _) r=>by rw [RpL.h3i r]; rfl
theorem Rp.list{v:V}{ds:List Dat}(h:Rp H N v (.list ds)):∃ p vs,v = .ref p/\N p/\H p=some (.lst vs)/\RpL H N vs ds:=by
 cases h with
 | lst n e r=>exact⟨_,_,rfl,n,e,r⟩
theorem Rp.tuple{v:V}{ds:List Dat}(h:Rp H N v (.tuple ds)):∃ p vs,v = .ref p/\H p=some (.tup vs)/\RpL H N vs ds:=by
 cases h with
 | tup e r=>exact⟨_,_,rfl,e,r⟩
theorem RpL.two{vs:List V}{a b:Dat}(h:RpL H N vs [a,b]):∃ x y,vs = [x,y]/\Rp H N x a/\Rp H N y b:=by
 cases h with
 | cons h1 r=>cases r with
  | cons h2 r=>cases r; exact⟨_,_,rfl,h1,h2⟩
theorem RpL.three{vs:List V}{a b c:Dat}(h:RpL H N vs [a,b,c]):∃ x y z,vs = [x,y,z]/\Rp H N x a/\Rp H N y b/\Rp H N z c:=by
 cases h with
 | cons h1 r =>
  obtain⟨y,z,rfl,h2,h3⟩:=r.two
  exact⟨_,y,z,rfl,h1,h2,h3⟩
theorem Rp.strOf{v:V}{s:Str}(h:Rp H N v (.str s)):v = .str s:=by cases h; rfl
theorem Rp.intOf{v:V}{n:Int}(h:Rp H N v (.int n)):v = .int n:=by cases h; rfl
theorem b8p.of(S:Same H H'):b8p N H H':=fun z u _ e=>S _ _ e
theorem b8p.trans{H2:Hp}(S:b8p N H H')(S2:b8p N H' H2):b8p N H H2:=fun z u n e=>S2 _ _ n (S _ _ n e)
theorem b8p.one{D:Addr}{ys:List V}(hD:H D=some (.lst ys))(n:N D)(B:a2j D H H'):b8p N H H':=fun z u h e=>B _ _ (fun q=>by
 rw [q] at h e
 rw [hD] at e
 cases e
 exact h n _ rfl) e
end
noncomputable abbrev Sd:=Str×Str×List Str
structure Pd where
 ts:List Str
 bs:List Str
 es:List Sd
 os:List (Str×Int)
noncomputable def prs(es:List Sd):List (Str×Str):=es.map fun e=>(e.1,e.2.1)
noncomputable def g3q(ss:List Str):Dat:=.list (ss.map .str)
noncomputable def dSd(e:Sd):Dat:=.tuple [.str e.1,.str e.2.1,g3q e.2.2]
noncomputable def dOu(x:Str×Int):Dat:=.tuple [.str x.1,.int x.2]
noncomputable def dPd(p:Pd):Dat:=.list [g3q p.ts,g3q p.bs,.list (p.es.map dSd),.list (p.os.map dOu)]
noncomputable def Nw(N:Addr->Prop)(t b sd ou:Addr):Addr->Prop:=fun a=>N a/\a≠t/\a≠b/\a≠sd/\a≠ou
structure Fl(H:Hp)(N:Addr->Prop)(t b sd ou:Addr)(p:Pd):Prop where
 n:N t/\N b/\N sd/\N ou
 d:t≠b/\t≠sd/\t≠ou/\b≠sd/\b≠ou/\sd≠ou
 ht:H t=some (.lst (p.ts.map V.str))
 hb:H b=some (.lst (p.bs.map V.str))
 hs:∃ us,H sd=some (.lst us)/\RpL H (Nw N t b sd ou) us (p.es.map dSd)
 ho:∃ us,H ou=some (.lst us)/\RpL H (Nw N t b sd ou) us (p.os.map dOu)
section
variable {H H':Hp}{N M:Addr->Prop}{t b sd ou:Addr}{p:Pd}
theorem Fl.over(h:Fl H N t b sd ou p)(S:b8p M H H')(hd:∀ z,N z->H z≠none->¬ M z):Fl H' N t b sd ou p:=by
 obtain⟨n,d,ht,hb,⟨us,hs,R1⟩,vs,ho,R2⟩:=h
 have k:∀ {z:Addr} {ys:List V},N z->H z=some (.lst ys)->H' z=some (.lst ys):=fun n e=>S _ _ (fun m=>absurd m (hd _ n (live e))) e
 exact⟨n,d,k n.1 ht,k n.2.1 hb,⟨us,k n.2.2.1 hs,R1.over S fun z hz=>hd z hz.1⟩,vs,k n.2.2.2 ho,R2.over S fun z hz=>hd z hz.1⟩
theorem Fl.same(h:Fl H N t b sd ou p)(S:Same H H'):Fl H' N t b sd ou p:=h.over (M:=fun _=>False) (b8p.of S) fun _ _ _ h=>h
theorem Fl.mono(h:Fl H N t b sd ou p)(hm:∀ z,N z->H z≠none->M z):Fl H M t b sd ou p:=by
 obtain⟨n,d,ht,hb,⟨us,hs,R1⟩,vs,ho,R2⟩:=h
 have k:∀ {z:Addr} {ys:List V},N z->H z=some (.lst ys)->M z:=fun n e=>hm _ n (live e)
 exact⟨⟨k n.1 ht,k n.2.1 hb,k n.2.2.1 hs,k n.2.2.2 ho⟩,d,ht,hb,⟨us,hs,R1.mono fun z hz e=>⟨hm z hz.1 e,hz.2⟩⟩,vs,ho,R2.mono fun z hz e=>⟨hm z hz.1 e,hz.2⟩⟩
theorem Fl.addT{x:Str}(h:Fl H N t b sd ou p)(h':H' t=some (.lst (p.ts.map V.str++[.str x])))(B:a2j t H H'):Fl H' N t b sd ou ⟨p.ts++[x],p.bs,p.es,p.os⟩:=by
 obtain⟨n,d,ht,hb,⟨us,hs,R1⟩,vs,ho,R2⟩:=h
 exact⟨n,d,by rw [h',List.map_append]; rfl,B _ _ d.1.symm hb,⟨us,B _ _ d.2.1.symm hs,R1.put ht (fun z=>z.2.1 rfl) B⟩,vs,B _ _ d.2.2.1.symm ho,R2.put ht (fun z=>z.2.1 rfl) B⟩
theorem Fl.addB{x:Str}(h:Fl H N t b sd ou p)(h':H' b=some (.lst (p.bs.map V.str++[.str x])))(B:a2j b H H'):Fl H' N t b sd ou ⟨p.ts,p.bs++[x],p.es,p.os⟩:=by
 obtain⟨n,d,ht,hb,⟨us,hs,R1⟩,vs,ho,R2⟩:=h
 exact⟨n,d,B _ _ d.1 ht,by rw [h',List.map_append]; rfl,⟨us,B _ _ d.2.2.2.1.symm hs,R1.put hb (fun z=>z.2.2.1 rfl) B⟩,vs,B _ _ d.2.2.2.2.1.symm ho,R2.put hb (fun z=>z.2.2.1 rfl) B⟩
theorem Fl.addS{e:Sd}{us:List V}{v:V}(h:Fl H N t b sd ou p)(hsd:H sd=some (.lst us))(r:Rp H (Nw N t b sd ou) v (dSd e))(h':H' sd=some (.lst (us++[v])))(B:a2j sd H H'):Fl H' N t b sd ou ⟨p.ts,p.bs,p.es++[e],p.os⟩:=by
 obtain⟨n,d,ht,hb,⟨us',hs,R1⟩,vs,ho,R2⟩:=h
 rw [hsd] at hs
 cases hs
 refine⟨n,d,B _ _ d.2.1 ht,B _ _ d.2.2.2.1 hb,⟨_,h',?_⟩,vs,B _ _ d.2.2.2.2.2.symm ho,R2.put hsd (fun z=>z.2.2.2.1 rfl) B⟩
 rw [List.map_append]
 exact (R1.snoc r).put hsd (fun z=>z.2.2.2.1 rfl) B
end
section
variable {H H':Hp}{N M:Addr->Prop}{L:Addr}{p:Pd}
end
theorem RpL.at3{H:Hp}{N:Addr->Prop}{us:List V}{es:List Sd}{i:Nat}{v:V}(h:RpL H N us (es.map dSd))(hv:us[i]? = some v):∃ e p lw,es[i]? = some e/\v = .ref p/\H p=some (.tup [.str e.1,.str e.2.1,.ref lw])/\N lw/\H lw=some (.lst (e.2.2.map V.str)):=by
 obtain⟨d,hd,r⟩:=h.get hv
 rw [List.getElem?_map] at hd
 obtain⟨e,he,rfl⟩:=Option.map_eq_some_iff.mp hd
 obtain⟨p,vs,rfl,hp,r2⟩:=r.tuple
 obtain⟨x,y,z,rfl,h1,h2,h3⟩:=r2.three
 cases h1.strOf
 cases h2.strOf
 obtain⟨lw,ws,rfl,n,hw,r3⟩:=h3.list
 cases r3.h3i
 exact⟨e,p,lw,he,rfl,hp,n,hw⟩
theorem RpL.i4u{H:Hp}{N:Addr->Prop}{us:List V}{α:Type}{es:List α}{f:α->Dat}(h:RpL H N us (es.map f)):us.length=es.length:=by rw [h.len,List.length_map]
theorem h3j{H:Hp}{N M:Addr->Prop}:∀ {os:List (Str×Int)} {us:List V},RpL H N us (os.map dOu)->RpL H M us (os.map dOu)
 | [],_,.nil=>.nil
 | x :: os,_,.cons h r=>by
  refine .cons ?_ (h3j r)
  obtain⟨p,vs,rfl,hp,r2⟩:=h.tuple
  obtain⟨a,b,rfl,h1,h2⟩:=r2.two
  cases h1.strOf
  cases h2.intOf
  exact .tup hp (.cons (.str _) (.cons (.int _) .nil))
structure j4t(p:Pd):Prop where
 t:∀ s∈p.ts,PyData.strOk s=true
 b:∀ s∈p.bs,PyData.strOk s=true
 s:∀ e∈p.es,PyData.strOk e.1=true/\PyData.strOk e.2.1=true/\∀ x∈e.2.2,PyData.strOk x=true
 o:∀ x∈p.os,PyData.strOk x.1=true
theorem f5t{n:Nat}{ss:List Str}(h:∀ s∈ss,PyData.strOk s=true):kqdOk (n+1) (g3q ss)=true:=by
 show (ss.map Dat.str).all (kqdOk n)=true
 rw [List.all_eq_true]
 intro d hd
 obtain⟨s,hs,rfl⟩:=List.mem_map.mp hd
 cases n <;> exact h s hs
theorem i8i{n:Nat}{es:List Sd}(h:∀ e∈es,PyData.strOk e.1=true/\PyData.strOk e.2.1=true/\∀ x∈e.2.2,PyData.strOk x=true):kqdOk (n+3) (.list (es.map dSd))=true:=by
 show (es.map dSd).all (kqdOk (n+2))=true
 rw [List.all_eq_true]
 intro d hd
 obtain⟨e,he,rfl⟩:=List.mem_map.mp hd
 show (PyData.strOk e.1 && (PyData.strOk e.2.1 && (kqdOk (n+1) (g3q e.2.2) && true)))=true
 rw [(h e he).1,(h e he).2.1,f5t (h e he).2.2]
 rfl
theorem i8j{n:Nat}{os:List (Str×Int)}(h:∀ x∈os,PyData.strOk x.1=true):kqdOk (n+3) (.list (os.map dOu))=true:=by
 show (os.map dOu).all (kqdOk (n+2))=true
 rw [List.all_eq_true]
 intro d hd
 obtain⟨e,he,rfl⟩:=List.mem_map.mp hd
 show (PyData.strOk e.1 && (true && true))=true
 rw [h e he]
 rfl
theorem j4t.k{p:Pd}(h:j4t p):kqdOk 4 (dPd p)=true:=by
 show (kqdOk 3 (g3q p.ts) && (kqdOk 3 (g3q p.bs) && (kqdOk 3 (.list (p.es.map dSd)) && (kqdOk 3 (.list (p.os.map dOu)) && true))))=true
 rw [f5t h.t,f5t h.b,i8i h.s,i8j h.o]
 rfl
end L2
namespace L2
open PySem PySem.Spec PyProof.Rows
section
variable {X:Cx}
def i8k(to:TE):TS:=fun D σ H=>to σ H fun x H1=>match x with
 | .ref a=>(match H1 a with
  | some (.dK [])=>D.nx σ H1
  | _=>False)
 | _=>False
theorem h8e{tg o:Expr}{body:List Stmt}{to:TE}{pos apos cpos:Pos}(hp:PassesOwn (model X.prog X.w) X.A X.env X.xe)(hc:X.calm=true)(ho:PE X o to)
  (hbase : attributeBase o "items" X.env (eval o X.env) = eval o X.env := by rfl) (hline : (apos.endLine == cpos.line) = true := by rfl)
  (hs : ∀ x, foldedSetIterable (.Call (.Attribute o "items" apos) [] [] cpos) X.env x = pure x := by intro _; rfl) : PS X (.For tg (.Call (.Attribute o "items" apos) [] [] cpos) body [] pos) (i8k to) := by
 intro pins s σ H D I h
 refine wpAny_For (wpAny_Call_method0_late hbase hline (thn (ho pins s σ H _ I h) fun v s1 ⟨x,H1,I1,r1,q1⟩=>?_)) hs
 cases x with
 | ref a =>
  have q':(match H1 a with
   | some (.dK [])=>D.nx σ H1
   | _=>False):=q1
  split at q'
  ·rename_i hd
   obtain ⟨h1, h2⟩ := h1s (T := "dict") I1 r1 (.inr (.inr (.inl ⟨rfl, .inl ⟨_, hd⟩⟩)))
   obtain rfl:v = .ref a:=r1
   obtain⟨_,lo,vs,kv,dd⟩:=I1.hok a _ hd
   cases kv
   refine ⟨"dict", "dict.items", PySem.F.plainAttrs_dict, PySem.F.slot_dict_items, PySem.F.type_dict_items, h1, h2, Calls.callWith_builtin rfl (PySem.evalArgs_none ?_)⟩
   refine call_meetsIn PySem.F.slot_dict_items h1 PySem.F.entry_dict_items (PySem.F.args_dict_items_1 _) (meets_dict_items (a8s X.prog X.w) a lo) ⟨⟨_,dd⟩,?_⟩
   obtain⟨ep,da⟩:=dd.dictAt
   have hat:∀ {u:Obj},(s1.heap.push u).DictAt (a8s X.prog X.w) a [] ep:=fun {u}=>da.at' fun o e=>Heap.get?_push_of_some _ e
   refine wpAny_pyIter_items (s := { s1 with heap := s1.heap.push { cls := .type "dict_items", data := .fields #[.ref a] } }) (v := s1.heap.objs.size) ⟨_, Heap.get?_push_size _ rfl, rfl, rfl⟩ hat ?_
   have k2 : ∀ b o, s1.heap.get? b = some o → ((s1.heap.push { cls := .type "dict_items", data := .fields #[.ref a] }).push { cls := .type "dict_itemiterator", data := .fields #[.none, .bool false, .ref a, .int 0 0, .int 0 0, .int ep 0, .none, .none] }).get? b = some o := fun b o e => Heap.get?_push_of_some _ (Heap.get?_push_of_some _ e)
   refine codeAny_forLoop_any (fun n s' => s' = { s1 with heap := (s1.heap.push { cls := .type "dict_items", data := .fields #[.ref a] }).push { cls := .type "dict_itemiterator", data := .fields #[.none, .bool false, .ref a, .int 0 0, .int 0 0, .int ep 0, .none, .none] } }) ?_ 0 rfl
   rintro n s3 rfl
   have it : ∀ h', Heap.ExtBut (s1.heap.push { cls := .type "dict_items", data := .fields #[.ref a] }).objs.size ((s1.heap.push { cls := .type "dict_items", data := .fields #[.ref a] }).push { cls := .type "dict_itemiterator", data := .fields #[.none, .bool false, .ref a, .int 0 0, .int 0 0, .int ep 0, .none, .none] }) h' → ∀ b o, s1.heap.get? b = some o → h'.get? b = some o := fun h' x b o e => x b o (Nat.ne_of_lt (by
    have := Heap.lt_size (Heap.get?_push_of_some { cls := .type "dict_items", data := .fields #[.ref a] } e)
    exact this)) (k2 b o e)
   refine wpAny_passesOwn hp (wpAny_pyNext_items_end (knd:=a8s X.prog X.w) (kvs:=[]) (i:=0) (ep:=ep) (ok:=.none) (ov:=.none) (d:=a) (I1.ok.hd hc) (Heap.get?_push_size _ rfl) (hat.at' fun o e=>Heap.get?_push_of_some _ e) rfl fun h' hx=>?_)
   exact wpAny_execs_nil ⟨σ,H1,I1.kept (t':=s1.toks) (it h' hx),q'⟩
  ·exact q'.elim
 | _=>exact False.elim q1
noncomputable def j2s:List V->Hp->VK->Prop:=fun xs H Q=>match xs with
 | [.ref p]=>(match H p with
  | some (.dK kvs)=>Q (.int kvs.length) H
  | _=>False)
 | _=>False
theorem g8n : b3v X (.builtin "len") j2s := by
 intro pins s σ H xs us Q I r h
 match xs,r,h with
 | [.ref p],r,h =>
  have h':(match H p with
   | some (.dK kvs)=>Q (.int kvs.length) H
   | _=>False):=h
  split at h'
  ·rename_i kvs e
   exact h2d pins s σ H _ us Q I r ⟨p,kvs,rfl,e,h'⟩
  ·exact h'.elim
end
end L2
set_option maxHeartbeats 4000000
namespace My
open PySem PySem.Spec PyProof.Rows L2
open PySem.Builtin.Int (intBits)
theorem i4v{P:Int->Prop}{vs:List V}(h:match vs with | [.int x0]=>P x0 | _=>False):∃ x0,vs = [.int x0]/\P x0:=by
 match vs,h with
 | [.int x0],h=>exact⟨x0,rfl,h⟩
theorem f2m{P:Int->Int->Prop}{vs:List V}(h:match vs with | [.int x0,.int x1]=>P x0 x1 | _=>False):∃ x0 x1,vs = [.int x0,.int x1]/\P x0 x1:=by
 match vs,h with
 | [.int x0,.int x1],h=>exact⟨x0,x1,rfl,h⟩
theorem b8l{P:Addr->Prop}{vs:List V}(h:match vs with | [.ref x0]=>P x0 | _=>False):∃ x0,vs = [.ref x0]/\P x0:=by
 match vs,h with
 | [.ref x0],h=>exact⟨x0,rfl,h⟩
theorem d6v{P:Addr->Int->Prop}{vs:List V}(h:match vs with | [.ref x0,.int x1]=>P x0 x1 | _=>False):∃ x0 x1,vs = [.ref x0,.int x1]/\P x0 x1:=by
 match vs,h with
 | [.ref x0,.int x1],h=>exact⟨x0,x1,rfl,h⟩
theorem i0o{P:Addr->Int->Int->Prop}{vs:List V}(h:match vs with | [.ref x0,.int x1,.int x2]=>P x0 x1 x2 | _=>False):∃ x0 x1 x2,vs = [.ref x0,.int x1,.int x2]/\P x0 x1 x2:=by
 match vs,h with
 | [.ref x0,.int x1,.int x2],h=>exact⟨x0,x1,x2,rfl,h⟩
theorem d6w{P:Addr->Addr->Prop}{vs:List V}(h:match vs with | [.ref x0,.ref x1]=>P x0 x1 | _=>False):∃ x0 x1,vs = [.ref x0,.ref x1]/\P x0 x1:=by
 match vs,h with
 | [.ref x0,.ref x1],h=>exact⟨x0,x1,rfl,h⟩
theorem f4h{P:Addr->Addr->Int->Prop}{vs:List V}(h:match vs with | [.ref x0,.ref x1,.int x2]=>P x0 x1 x2 | _=>False):∃ x0 x1 x2,vs = [.ref x0,.ref x1,.int x2]/\P x0 x1 x2:=by
 match vs,h with
 | [.ref x0,.ref x1,.int x2],h=>exact⟨x0,x1,x2,rfl,h⟩
theorem f5u{P:Addr->Addr->Int->Int->Prop}{vs:List V}(h:match vs with | [.ref x0,.ref x1,.int x2,.int x3]=>P x0 x1 x2 x3 | _=>False):∃ x0 x1 x2 x3,vs = [.ref x0,.ref x1,.int x2,.int x3]/\P x0 x1 x2 x3:=by
 match vs,h with
 | [.ref x0,.ref x1,.int x2,.int x3],h=>exact⟨x0,x1,x2,x3,rfl,h⟩
theorem i0p{P:Addr->Addr->Addr->Prop}{vs:List V}(h:match vs with | [.ref x0,.ref x1,.ref x2]=>P x0 x1 x2 | _=>False):∃ x0 x1 x2,vs = [.ref x0,.ref x1,.ref x2]/\P x0 x1 x2:=by
 match vs,h with
 | [.ref x0,.ref x1,.ref x2],h=>exact⟨x0,x1,x2,rfl,h⟩
theorem c2p{P:Addr->Addr->Addr->Int->Prop}{vs:List V}(h:match vs with | [.ref x0,.ref x1,.ref x2,.int x3]=>P x0 x1 x2 x3 | _=>False):∃ x0 x1 x2 x3,vs = [.ref x0,.ref x1,.ref x2,.int x3]/\P x0 x1 x2 x3:=by
 match vs,h with
 | [.ref x0,.ref x1,.ref x2,.int x3],h=>exact⟨x0,x1,x2,x3,rfl,h⟩
theorem g8o{P:Addr->Str->Prop}{vs:List V}(h:match vs with | [.ref x0,.str x1]=>P x0 x1 | _=>False):∃ x0 x1,vs = [.ref x0,.str x1]/\P x0 x1:=by
 match vs,h with
 | [.ref x0,.str x1],h=>exact⟨x0,x1,rfl,h⟩
theorem g7e{P:Addr->Str->Addr->Prop}{vs:List V}(h:match vs with | [.ref x0,.str x1,.ref x2]=>P x0 x1 x2 | _=>False):∃ x0 x1 x2,vs = [.ref x0,.str x1,.ref x2]/\P x0 x1 x2:=by
 match vs,h with
 | [.ref x0,.str x1,.ref x2],h=>exact⟨x0,x1,x2,rfl,h⟩
theorem h3k{P:Addr->Str->Addr->Int->Prop}{vs:List V}(h:match vs with | [.ref x0,.str x1,.ref x2,.int x3]=>P x0 x1 x2 x3 | _=>False):∃ x0 x1 x2 x3,vs = [.ref x0,.str x1,.ref x2,.int x3]/\P x0 x1 x2 x3:=by
 match vs,h with
 | [.ref x0,.str x1,.ref x2,.int x3],h=>exact⟨x0,x1,x2,x3,rfl,h⟩
theorem i0q{P:Addr->Str->Str->Prop}{vs:List V}(h:match vs with | [.ref x0,.str x1,.str x2]=>P x0 x1 x2 | _=>False):∃ x0 x1 x2,vs = [.ref x0,.str x1,.str x2]/\P x0 x1 x2:=by
 match vs,h with
 | [.ref x0,.str x1,.str x2],h=>exact⟨x0,x1,x2,rfl,h⟩
theorem h3l{P:Addr->Str->Str->Addr->Prop}{vs:List V}(h:match vs with | [.ref x0,.str x1,.str x2,.ref x3]=>P x0 x1 x2 x3 | _=>False):∃ x0 x1 x2 x3,vs = [.ref x0,.str x1,.str x2,.ref x3]/\P x0 x1 x2 x3:=by
 match vs,h with
 | [.ref x0,.str x1,.str x2,.ref x3],h=>exact⟨x0,x1,x2,x3,rfl,h⟩
theorem g7f{P:Str->Prop}{vs:List V}(h:match vs with | [.str x0]=>P x0 | _=>False):∃ x0,vs = [.str x0]/\P x0:=by
 match vs,h with
 | [.str x0],h=>exact⟨x0,rfl,h⟩
theorem i0r{P:Str->Int->Int->Prop}{vs:List V}(h:match vs with | [.str x0,.int x1,.int x2]=>P x0 x1 x2 | _=>False):∃ x0 x1 x2,vs = [.str x0,.int x1,.int x2]/\P x0 x1 x2:=by
 match vs,h with
 | [.str x0,.int x1,.int x2],h=>exact⟨x0,x1,x2,rfl,h⟩
noncomputable def top(i:Nat):Stmt:=PySem.Challenge.pw_mixbench_k66_whole_superposed.main.body.getD i (.Pass ⟨0,0,0,0⟩)
noncomputable abbrev f4i:Stmt:=(top 14)
noncomputable abbrev d5m:Stmt:=(top 15)
noncomputable abbrev f4j:Stmt:=(top 16)
noncomputable abbrev g0q:Stmt:=(top 19)
noncomputable abbrev f4k:Stmt:=(top 20)
noncomputable abbrev f4l:Stmt:=(top 21)
noncomputable abbrev c8h:Stmt:=(top 26)
noncomputable abbrev c8i:Stmt:=(top 27)
noncomputable abbrev c8j:Stmt:=(top 29)
noncomputable abbrev d1i:Stmt:=(top 30)
noncomputable abbrev d8r:Stmt:=(top 32)
noncomputable abbrev g0r:Stmt:=(top 33)
noncomputable abbrev d5n:Stmt:=(inClass (top 34) 0)
noncomputable abbrev d5o:Stmt:=(inClass (top 34) 1)
noncomputable abbrev d8s:Stmt:=(inClass (top 35) 0)
noncomputable abbrev d5p:Stmt:=(inClass (top 35) 1)
noncomputable abbrev d0u:Stmt:=(inClass (top 35) 2)
noncomputable abbrev d8t:Stmt:=(inClass (top 35) 4)
noncomputable abbrev d5q:Stmt:=(inClass (top 36) 0)
noncomputable abbrev c8k:Stmt:=(inClass (top 36) 1)
noncomputable abbrev d5r:Stmt:=(inClass (top 36) 3)
noncomputable abbrev d8u:Stmt:=(top 38)
noncomputable abbrev d1j:Stmt:=(inClass (top 40) 0)
noncomputable abbrev d5s:Stmt:=(inClass (top 40) 1)
noncomputable abbrev d0v:Stmt:=(inClass (top 40) 2)
noncomputable abbrev d5t:Stmt:=(inClass (top 40) 3)
noncomputable abbrev d8v:Stmt:=(inClass (top 40) 5)
noncomputable abbrev d8w:Stmt:=(inClass (top 41) 0)
noncomputable abbrev d5u:Stmt:=(inClass (top 41) 1)
noncomputable abbrev d0w:Stmt:=(inClass (top 41) 2)
noncomputable abbrev d8y:Stmt:=(inClass (top 41) 5)
noncomputable abbrev c8l:Stmt:=(top 44)
noncomputable abbrev d8z:Stmt:=(top 45)
noncomputable abbrev d9g:Stmt:=(top 57)
noncomputable abbrev d2u:Stmt:=(top 58)
noncomputable abbrev d9h:Stmt:=(top 59)
noncomputable abbrev d2v:Stmt:=(top 60)
noncomputable abbrev g0s:Stmt:=(top 61)
noncomputable abbrev f4m:Stmt:=(top 62)
noncomputable abbrev g0t:Stmt:=(top 63)
noncomputable abbrev g0u:Stmt:=(top 64)
noncomputable abbrev g0v:Stmt:=(top 69)
noncomputable abbrev d3v:Stmt:=(top 72)
noncomputable abbrev c8m:Stmt:=(inClass (top 73) 0)
noncomputable abbrev c8n:Stmt:=(inClass (top 73) 1)
noncomputable abbrev d2w:Stmt:=(inClass (top 73) 2)
noncomputable abbrev c4r:Stmt:=(inClass (top 73) 5)
noncomputable abbrev d3w:Stmt:=(top 79)
noncomputable abbrev c4s:Stmt:=(inClass (top 80) 0)
noncomputable abbrev b1o:Stmt:=(inClass (top 80) 1)
noncomputable abbrev b7v:Stmt:=(inClass (top 80) 2)
noncomputable abbrev d2y:Stmt:=(inClass (top 80) 3)
noncomputable abbrev c7h:Stmt:=(inClass (top 80) 4)
noncomputable abbrev d9i:Stmt:=(top 84)
noncomputable abbrev d5v:Stmt:=(inClass (top 85) 0)
noncomputable abbrev c3o:Stmt:=(inClass (top 85) 1)
noncomputable abbrev d2z:Stmt:=(inClass (top 85) 2)
noncomputable abbrev d9j:Stmt:=(inClass (top 85) 3)
noncomputable abbrev d5w:Stmt:=(inClass (top 85) 4)
noncomputable abbrev d9k:Stmt:=(inClass (top 85) 5)
noncomputable abbrev d0y:Stmt:=(inClass (top 85) 7)
noncomputable abbrev c4t:Stmt:=(inClass (top 85) 9)
noncomputable abbrev d5y:Stmt:=(inClass (top 85) 10)
noncomputable abbrev c4u:Stmt:=(inClass (top 85) 11)
noncomputable abbrev c8o:Stmt:=(inClass (top 85) 12)
noncomputable abbrev d3g:Stmt:=(top 87)
noncomputable abbrev d3h:Stmt:=(top 88)
noncomputable abbrev f4n:Stmt:=(top 89)
noncomputable abbrev f4o:Stmt:=(top 90)
noncomputable abbrev d9l:Stmt:=(top 91)
noncomputable abbrev d9m:Stmt:=(top 92)
noncomputable abbrev c4v:Stmt:=(top 93)
noncomputable abbrev d9n:Stmt:=(top 94)
noncomputable abbrev h3m:Stmt:=(top 95)
theorem g3r : a0r ["value"] ["value"] (a0l f4i) := ⟨rfl, rfl, rfl, by decide +kernel, rfl, by decide +kernel, by decide +kernel⟩
theorem d3i : a0r ["text", "sign"] ["text"] (a0l d5m) := ⟨rfl, rfl, rfl, by decide +kernel, rfl, by decide +kernel, by decide +kernel⟩
theorem g3s : a0r ["text"] ["text"] (a0l f4j) := ⟨rfl, rfl, rfl, by decide +kernel, rfl, by decide +kernel, by decide +kernel⟩
theorem b9o : a0r ["one", "other", "left", "right", "rest"] ["one", "other"] (a0l g0q) := ⟨rfl, rfl, rfl, by decide +kernel, rfl, by decide +kernel, by decide +kernel⟩
theorem g3t : a0r ["one", "other"] ["one", "other"] (a0l f4k) := ⟨rfl, rfl, rfl, by decide +kernel, rfl, by decide +kernel, by decide +kernel⟩
theorem d1k : a0r ["top", "bottom", "by"] ["top", "bottom"] (a0l f4l) := ⟨rfl, rfl, rfl, by decide +kernel, rfl, by decide +kernel, by decide +kernel⟩
theorem a5n : a0r ["one", "top", "bottom"] ["one"] (a0l c8h) := ⟨rfl, rfl, rfl, by decide +kernel, rfl, by decide +kernel, by decide +kernel⟩
theorem a7t : a0r ["text", "halves", "top", "number", "one"] ["text"] (a0l c8i) := ⟨rfl, rfl, rfl, by decide +kernel, rfl, by decide +kernel, by decide +kernel⟩
theorem c4w : a0r ["one", "other", "shared", "both"] ["one", "other"] (a0l c8j) := ⟨rfl, rfl, rfl, by decide +kernel, rfl, by decide +kernel, by decide +kernel⟩
theorem g0w : a0r ["row", "by"] ["row", "by"] (a0l d1i) := ⟨rfl, rfl, rfl, by decide +kernel, rfl, by decide +kernel, by decide +kernel⟩
theorem g8p : a0r ["known", "start", "many"] ["known", "start", "many"] (a0l d8r) := ⟨rfl, rfl, rfl, by decide +kernel, rfl, by decide +kernel, by decide +kernel⟩
theorem g8q : a0r ["known", "many"] ["known", "many"] (a0l g0r) := ⟨rfl, rfl, rfl, by decide +kernel, rfl, by decide +kernel, by decide +kernel⟩
theorem f5v : a0r ["self"] ["self"] (a0l d5n) := ⟨rfl, rfl, rfl, by decide +kernel, rfl, by decide +kernel, by decide +kernel⟩
theorem f5w : a0r ["self"] ["self"] (a0l d5o) := ⟨rfl, rfl, rfl, by decide +kernel, rfl, by decide +kernel, by decide +kernel⟩
theorem g0x : a0r ["self", "gain"] ["self", "gain"] (a0l d8s) := ⟨rfl, rfl, rfl, by decide +kernel, rfl, by decide +kernel, by decide +kernel⟩
theorem f5y : a0r ["self"] ["self"] (a0l d5p) := ⟨rfl, rfl, rfl, by decide +kernel, rfl, by decide +kernel, by decide +kernel⟩
theorem d9o : a0r ["self", "state", "tops", "bottom"] ["self", "state", "tops", "bottom"] (a0l d0u) := ⟨rfl, rfl, rfl, by decide +kernel, rfl, by decide +kernel, by decide +kernel⟩
theorem d5z : a0r ["self", "gain"] ["self"] (a0l d8t) := ⟨rfl, rfl, rfl, by decide +kernel, rfl, by decide +kernel, by decide +kernel⟩
theorem f5z : a0r ["self", "many"] ["self", "many"] (a0l d5q) := ⟨rfl, rfl, rfl, by decide +kernel, rfl, by decide +kernel, by decide +kernel⟩
theorem c7i : a0r ["self", "state", "tops", "bottom", "known"] ["self", "state", "tops", "bottom"] (a0l c8k) := ⟨rfl, rfl, rfl, by decide +kernel, rfl, by decide +kernel, by decide +kernel⟩
theorem d3j : a0r ["self", "many"] ["self"] (a0l d5r) := ⟨rfl, rfl, rfl, by decide +kernel, rfl, by decide +kernel, by decide +kernel⟩
theorem c8p : a0r ["number", "most", "powers", "turn"] ["number", "most"] (a0l d8u) := ⟨rfl, rfl, rfl, by decide +kernel, rfl, by decide +kernel, by decide +kernel⟩
theorem c8q : a0r ["self", "gain", "many", "turns", "tops", "bottoms"] ["self", "gain", "many", "turns"] (a0l d1j) := ⟨rfl, rfl, rfl, by decide +kernel, rfl, by decide +kernel, by decide +kernel⟩
theorem f6g : a0r ["self"] ["self"] (a0l d5s) := ⟨rfl, rfl, rfl, by decide +kernel, rfl, by decide +kernel, by decide +kernel⟩
theorem a6p : a0r ["self", "state", "tops", "bottom", "known", "out", "turn", "heard"] ["self", "state", "tops", "bottom"] (a0l d0v) := ⟨rfl, rfl, rfl, by decide +kernel, rfl, by decide +kernel, by decide +kernel⟩
theorem f6h : a0r ["self"] ["self"] (a0l d5t) := ⟨rfl, rfl, rfl, by decide +kernel, rfl, by decide +kernel, by decide +kernel⟩
theorem c1q : a0r ["self", "gain", "many", "turns"] ["self"] (a0l d8v) := ⟨rfl, rfl, rfl, by decide +kernel, rfl, by decide +kernel, by decide +kernel⟩
theorem g0y : a0r ["self", "gain", "many"] ["self", "gain", "many"] (a0l d8w) := ⟨rfl, rfl, rfl, by decide +kernel, rfl, by decide +kernel, by decide +kernel⟩
theorem f6i : a0r ["self"] ["self"] (a0l d5u) := ⟨rfl, rfl, rfl, by decide +kernel, rfl, by decide +kernel, by decide +kernel⟩
theorem b3z : a0r ["self", "state", "tops", "bottom", "known", "heard", "out"] ["self", "state", "tops", "bottom"] (a0l d0w) := ⟨rfl, rfl, rfl, by decide +kernel, rfl, by decide +kernel, by decide +kernel⟩
theorem c8r : a0r ["self", "gain", "many"] ["self"] (a0l d8y) := ⟨rfl, rfl, rfl, by decide +kernel, rfl, by decide +kernel, by decide +kernel⟩
theorem b1p : a0r ["bottoms", "shared", "bottom"] ["bottoms"] (a0l c8l) := ⟨rfl, rfl, rfl, by decide +kernel, rfl, by decide +kernel, by decide +kernel⟩
theorem g0z : a0r ["one", "bottom"] ["one", "bottom"] (a0l d8z) := ⟨rfl, rfl, rfl, by decide +kernel, rfl, by decide +kernel, by decide +kernel⟩
theorem d6g : a0r ["text", "gain"] ["text"] (a0l d9g) := ⟨rfl, rfl, rfl, by decide +kernel, rfl, by decide +kernel, by decide +kernel⟩
theorem d0z : a0r ["text", "least", "most", "number"] ["text", "least", "most"] (a0l d2u) := ⟨rfl, rfl, rfl, by decide +kernel, rfl, by decide +kernel, by decide +kernel⟩
theorem g1a : a0r ["text"] ["text"] (a0l d9h) := ⟨rfl, rfl, rfl, by decide +kernel, rfl, by decide +kernel, by decide +kernel⟩
theorem f2n : a0r ["values", "count"] ["values", "count"] (a0l d2v) := ⟨rfl, rfl, rfl, by decide +kernel, rfl, by decide +kernel, by decide +kernel⟩
theorem g8r : a0r ["values"] ["values"] (a0l g0s) := ⟨rfl, rfl, rfl, by decide +kernel, rfl, by decide +kernel, by decide +kernel⟩
theorem g3u : a0r ["values"] ["values"] (a0l f4m) := ⟨rfl, rfl, rfl, by decide +kernel, rfl, by decide +kernel, by decide +kernel⟩
theorem g8s : a0r ["values"] ["values"] (a0l g0t) := ⟨rfl, rfl, rfl, by decide +kernel, rfl, by decide +kernel, by decide +kernel⟩
theorem g8t : a0r ["values"] ["values"] (a0l g0u) := ⟨rfl, rfl, rfl, by decide +kernel, rfl, by decide +kernel, by decide +kernel⟩
theorem f4p : a0r ["word", "values"] ["word"] (a0l g0v) := ⟨rfl, rfl, rfl, by decide +kernel, rfl, by decide +kernel, by decide +kernel⟩
theorem g3v : a0r ["words"] ["words"] (a0l d3v) := ⟨rfl, rfl, rfl, by decide +kernel, rfl, by decide +kernel, by decide +kernel⟩
theorem f6j : a0r ["self", "words"] ["self", "words"] (a0l c8m) := ⟨rfl, rfl, rfl, by decide +kernel, rfl, by decide +kernel, by decide +kernel⟩
theorem a3z : a0r ["self", "tops", "bottom", "row", "states", "part", "state", "told"] ["self", "tops", "bottom"] (a0l c8n) := ⟨rfl, rfl, rfl, by decide +kernel, rfl, by decide +kernel, by decide +kernel⟩
theorem b7l : a0r ["self", "product", "part"] ["self"] (a0l d2w) := ⟨rfl, rfl, rfl, by decide +kernel, rfl, by decide +kernel, by decide +kernel⟩
theorem f2o : a0r ["self"] ["self"] (a0l c4r) := ⟨rfl, rfl, rfl, by decide +kernel, rfl, by decide +kernel, by decide +kernel⟩
theorem g3w : a0r ["value"] ["value"] (a0l d3w) := ⟨rfl, rfl, rfl, by decide +kernel, rfl, by decide +kernel, by decide +kernel⟩
theorem b1k : a0r ["self", "patch", "track", "sends", "bus", "out"] ["self", "patch"] (a0l c4s) := ⟨rfl, rfl, rfl, by decide +kernel, rfl, by decide +kernel, by decide +kernel⟩
theorem c3p : a0r ["self", "bus", "sends", "leads"] ["self", "bus", "sends"] (a0l b1o) := ⟨rfl, rfl, rfl, by decide +kernel, rfl, by decide +kernel, by decide +kernel⟩
theorem b4z : a0r ["self", "blocks", "track"] ["self", "blocks"] (a0l b7v) := ⟨rfl, rfl, rfl, by decide +kernel, rfl, by decide +kernel, by decide +kernel⟩
theorem a7w : a0r ["self", "blocks", "length", "flows", "track", "bus", "settled", "name", "settler"] ["self", "blocks"] (a0l d2y) := ⟨rfl, rfl, rfl, by decide +kernel, rfl, by decide +kernel, by decide +kernel⟩
theorem a3o : a0r ["self", "bus", "flows", "length", "bottom", "tops", "source", "chain", "row"] ["self", "bus", "flows", "length"] (a0l c7h) := ⟨rfl, rfl, rfl, by decide +kernel, rfl, by decide +kernel, by decide +kernel⟩
theorem g8u : a0r ["value"] ["value"] (a0l d9i) := ⟨rfl, rfl, rfl, by decide +kernel, rfl, by decide +kernel, by decide +kernel⟩
theorem f6k : a0r ["self"] ["self"] (a0l d5v) := ⟨rfl, rfl, rfl, by decide +kernel, rfl, by decide +kernel, by decide +kernel⟩
theorem d3k : a0r ["self", "name"] ["self", "name"] (a0l c3o) := ⟨rfl, rfl, rfl, by decide +kernel, rfl, by decide +kernel, by decide +kernel⟩
theorem f2p : a0r ["self", "name"] ["self", "name"] (a0l d2z) := ⟨rfl, rfl, rfl, by decide +kernel, rfl, by decide +kernel, by decide +kernel⟩
theorem g1b : a0r ["self", "name"] ["self", "name"] (a0l d9j) := ⟨rfl, rfl, rfl, by decide +kernel, rfl, by decide +kernel, by decide +kernel⟩
theorem c4y : a0r ["self", "source", "bus", "words", "chain", "ring"] ["self", "source", "bus", "words"] (a0l d5w) := ⟨rfl, rfl, rfl, by decide +kernel, rfl, by decide +kernel, by decide +kernel⟩
theorem b7w : a0r ["self", "start", "end", "ways", "waiting", "source", "send"] ["self", "start", "end"] (a0l d9k) := ⟨rfl, rfl, rfl, by decide +kernel, rfl, by decide +kernel, by decide +kernel⟩
theorem d9p : a0r ["self"] ["self"] (a0l d0y) := ⟨rfl, rfl, rfl, by decide +kernel, rfl, by decide +kernel, by decide +kernel⟩
theorem f2q : a0r ["self"] ["self"] (a0l c4t) := ⟨rfl, rfl, rfl, by decide +kernel, rfl, by decide +kernel, by decide +kernel⟩
theorem f6l : a0r ["self"] ["self"] (a0l d5y) := ⟨rfl, rfl, rfl, by decide +kernel, rfl, by decide +kernel, by decide +kernel⟩
theorem d1g : a0r ["self", "placed"] ["self"] (a0l c4u) := ⟨rfl, rfl, rfl, by decide +kernel, rfl, by decide +kernel, by decide +kernel⟩
theorem c7j : a0r ["self", "bus", "placed", "send"] ["self", "bus", "placed"] (a0l c8o) := ⟨rfl, rfl, rfl, by decide +kernel, rfl, by decide +kernel, by decide +kernel⟩
theorem f2r : a0r ["_law_script", "_law_k"] ["_law_script", "_law_k"] (a0l d3g) := ⟨rfl, rfl, rfl, by decide +kernel, rfl, by decide +kernel, by decide +kernel⟩
theorem b7m : a0r ["_law_one", "_law_other", "_law_rest"] ["_law_one", "_law_other"] (a0l d3h) := ⟨rfl, rfl, rfl, by decide +kernel, rfl, by decide +kernel, by decide +kernel⟩
theorem b5h : a0r ["_law_mixed", "_law_low", "_law_top", "_law_by"] ["_law_mixed"] (a0l f4n) := ⟨rfl, rfl, rfl, by decide +kernel, rfl, by decide +kernel, by decide +kernel⟩
theorem c4z : a0r ["_law_mixed", "_law_kind", "_law_gain_here", "_law_many"] ["_law_mixed"] (a0l f4o) := ⟨rfl, rfl, rfl, by decide +kernel, rfl, by decide +kernel, by decide +kernel⟩
theorem a3h : a0r ["_law_script", "_law_names", "_law_tracks", "_law_patch_here", "_law_name", "_law_buses", "_law_turn", "_law_k", "_law_cell", "_law_mixed", "_law_to", "_law_words", "_law_j"] ["_law_script", "_law_names", "_law_tracks"] (a0l d9l) := ⟨rfl, rfl, rfl, by decide +kernel, rfl, by decide +kernel, by decide +kernel⟩
theorem c8s : a0r ["_law_patch_here", "_law_names", "_law_rows", "_law_fed", "_law_k"] ["_law_patch_here", "_law_names", "_law_rows"] (a0l d9m) := ⟨rfl, rfl, rfl, by decide +kernel, rfl, by decide +kernel, by decide +kernel⟩
theorem b7n : a0r ["_law_patch_here", "_law_names", "_law_tracks", "_law_size", "_law_answers_here", "_law_k", "_law_rows"] ["_law_patch_here", "_law_names", "_law_tracks", "_law_size"] (a0l c4v) := ⟨rfl, rfl, rfl, by decide +kernel, rfl, by decide +kernel, by decide +kernel⟩
theorem a3r : a0r ["_law_flow", "_law_answers_here", "_law_rows", "_law_size", "_law_low", "_law_answer", "_law_t", "_law_due", "_law_k", "_law_by", "_law_s", "_law_heard"] ["_law_flow", "_law_answers_here", "_law_rows", "_law_size"] (a0l d9n) := ⟨rfl, rfl, rfl, by decide +kernel, rfl, by decide +kernel, by decide +kernel⟩
theorem c7k : a0r ["_law_script", "_law_first", "_law_tracks", "_law_names", "_law_patch_here", "_law_far", "_law_tones", "_law_size", "_law_rows", "_law_answers_here", "_law_found", "_law_name"] ["_law_script"] (a0l h3m) := ⟨rfl, rfl, rfl, by decide +kernel, rfl, by decide +kernel, by decide +kernel⟩
set_option genInjectivity false in
structure Ad where
 b5i:Addr
 b5j:FuncData
 a9l:Addr
 b0h:FuncData
 b5k:Addr
 b5l:FuncData
 b7y:Addr
 b5m:FuncData
 b5n:Addr
 b5o:FuncData
 b5p:Addr
 b5q:FuncData
 a3s:Addr
 a4g:FuncData
 a4v:Addr
 a5o:FuncData
 a9m:Addr
 b0i:FuncData
 b1v:Addr
 b2n:FuncData
 c0h:Addr
 b9p:FuncData
 c0i:Addr
 b9q:FuncData
 a9n:Addr
 b0j:FuncData
 a4q:Addr
 b0k:FuncData
 b5r:Addr
 b2o:FuncData
 a9o:Addr
 a7h:FuncData
 a6g:Addr
 a4w:FuncData
 b5s:Addr
 b2p:FuncData
 b2q:Addr
 b0l:FuncData
 a4y:Addr
 a4h:FuncData
 b2r:Addr
 b0m:FuncData
 b1w:Addr
 b2s:FuncData
 b5t:Addr
 b2t:FuncData
 a9p:Addr
 a7i:FuncData
 a6h:Addr
 a4z:FuncData
 b2u:Addr
 b0n:FuncData
 b5u:Addr
 b2v:FuncData
 b5v:Addr
 b2w:FuncData
 a9q:Addr
 a7j:FuncData
 a6i:Addr
 a5g:FuncData
 b5w:Addr
 b2y:FuncData
 a5h:Addr
 a5p:FuncData
 b1y:Addr
 b2z:FuncData
 b1z:Addr
 b3g:FuncData
 a7k:Addr
 a7y:FuncData
 b2g:Addr
 b3h:FuncData
 a7l:Addr
 a7z:FuncData
 b7z:Addr
 b9r:FuncData
 b3i:Addr
 b5y:FuncData
 b8g:Addr
 b9s:FuncData
 b8h:Addr
 b9t:FuncData
 c0j:Addr
 b9u:FuncData
 b5z:Addr
 b6g:FuncData
 b3j:Addr
 b0o:FuncData
 a6q:Addr
 a5q:FuncData
 b0p:Addr
 a8g:FuncData
 b0q:Addr
 a8h:FuncData
 b6h:Addr
 b6i:FuncData
 b0r:Addr
 a8i:FuncData
 a5r:Addr
 a4s:FuncData
 a2t:Addr
 a2q:FuncData
 b0s:Addr
 a8j:FuncData
 a5s:Addr
 a4t:FuncData
 c0k:Addr
 b9v:FuncData
 b3k:Addr
 b0t:FuncData
 a4u:Addr
 a3u:FuncData
 b0u:Addr
 a8k:FuncData
 b6j:Addr
 b3l:FuncData
 b3m:Addr
 b0v:FuncData
 b6k:Addr
 b3n:FuncData
 a8l:Addr
 a6r:FuncData
 b0w:Addr
 a8m:FuncData
 b3o:Addr
 b0y:FuncData
 b0z:Addr
 a8n:FuncData
 a6s:Addr
 a5t:FuncData
 a7m:Addr
 a8o:FuncData
 a7n:Addr
 a8p:FuncData
 b6l:Addr
 b6m:FuncData
 b6n:Addr
 b6o:FuncData
 b2h:Addr
 b3p:FuncData
 b2j:Addr
 b3q:FuncData
 a7o:Addr
 a8q:FuncData
 b2k:Addr
 b3r:FuncData
 g1c:Addr
 d6h:FuncData
 d6i:Addr
 a7u:Addr
 a4m:Addr
 a5i:Addr
 a6v:Addr
 a6t:Addr
 a3v:Addr
 a4n:Addr
 c3q:Value
 a2u:Value
 a2v:Value
 b6p:Value
 b6q:Value
 b3s:Value
 b3t:Value
 c3r:Value
 a8r:Value
 b6r:Value
 a3l:Addr
 wd:World
structure Ty(K:W.Frag)(A:Ad):Prop where
 g3x : W.nsIn K mainGlobals "Part" = some (some (.ref A.d6i))
 g3y : W.nsIn K mainGlobals "Gain" = some (some (.ref A.a7u))
 f6m : W.nsIn K mainGlobals "Delay" = some (some (.ref A.a4m))
 g3z : W.nsIn K mainGlobals "Echo" = some (some (.ref A.a5i))
 g4a : W.nsIn K mainGlobals "Back" = some (some (.ref A.a6v))
 f6n : W.nsIn K mainGlobals "Chain" = some (some (.ref A.a6t))
 d9q : W.nsIn K mainGlobals "Engine" = some (some (.ref A.a3v))
 f6o : W.nsIn K mainGlobals "Patch" = some (some (.ref A.a4n))
 d3y : W.nsIn K mainGlobals "is_whole" = some (some (.ref A.b5i))
 c8t : W.nsIn K mainGlobals "is_figures" = some (some (.ref A.a9l))
 d3z : W.nsIn K mainGlobals "whole_of" = some (some (.ref A.b5k))
 d9r : W.nsIn K mainGlobals "divisor" = some (some (.ref A.b7y))
 d4g : W.nsIn K mainGlobals "multiple" = some (some (.ref A.b5n))
 d4h : W.nsIn K mainGlobals "fraction" = some (some (.ref A.b5p))
 c0l : W.nsIn K mainGlobals "fraction_text" = some (some (.ref A.a3s))
 c0m : W.nsIn K mainGlobals "read_fraction" = some (some (.ref A.a4v))
 c8u : W.nsIn K mainGlobals "added_rows" = some (some (.ref A.a9m))
 d1l : W.nsIn K mainGlobals "times_row" = some (some (.ref A.b1v))
 d9s : W.nsIn K mainGlobals "delayed" = some (some (.ref A.c0h))
 d9t : W.nsIn K mainGlobals "last_of" = some (some (.ref A.c0i))
 d1m : W.nsIn K mainGlobals "powers_of" = some (some (.ref A.b1w))
 c0n : W.nsIn K mainGlobals "shared_bottom" = some (some (.ref A.a5h))
 d1n : W.nsIn K mainGlobals "tops_over" = some (some (.ref A.b1y))
 d1o : W.nsIn K mainGlobals "read_gain" = some (some (.ref A.b1z))
 c5g : W.nsIn K mainGlobals "read_number" = some (some (.ref A.a7k))
 d1p : W.nsIn K mainGlobals "read_many" = some (some (.ref A.b2g))
 c5h : W.nsIn K mainGlobals "check_count" = some (some (.ref A.a7l))
 d9u : W.nsIn K mainGlobals "gain_of" = some (some (.ref A.b7z))
 d4i : W.nsIn K mainGlobals "delay_of" = some (some (.ref A.b3i))
 d9v : W.nsIn K mainGlobals "echo_of" = some (some (.ref A.b8g))
 d9w : W.nsIn K mainGlobals "back_of" = some (some (.ref A.b8h))
 d9y : W.nsIn K mainGlobals "part_of" = some (some (.ref A.c0j))
 d4j : W.nsIn K mainGlobals "parts_of" = some (some (.ref A.b5z))
 d4k : W.nsIn K mainGlobals "is_block" = some (some (.ref A.b6h))
 d9z : W.nsIn K mainGlobals "is_name" = some (some (.ref A.c0k))
 c5i : W.nsIn K mainGlobals "_law_cell_at" = some (some (.ref A.a7m))
 c5j : W.nsIn K mainGlobals "_law_divisor" = some (some (.ref A.a7n))
 d4l : W.nsIn K mainGlobals "_law_gain" = some (some (.ref A.b6l))
 d4m : W.nsIn K mainGlobals "_law_word" = some (some (.ref A.b6n))
 d1q : W.nsIn K mainGlobals "_law_patch" = some (some (.ref A.b2h))
 d1r : W.nsIn K mainGlobals "_law_flows" = some (some (.ref A.b2j))
 c5k : W.nsIn K mainGlobals "_law_answers" = some (some (.ref A.a7o))
 d1s : W.nsIn K mainGlobals "_law_right" = some (some (.ref A.b2k))
 h8f : W.nsIn K mainGlobals "law" = some (some (.ref A.g1c))
 h3n:Cls K A.d6i
 d3l : Meth K A.d6i "grain" A.a9n
 d3m : Meth K A.d6i "fresh" A.a4q
 a4i:Cls K A.a7u
 a1v : a2l K A.a7u "gain"
 h3o:Mk K A.a7u A.b5r
 b8q : Meth K A.a7u "grain" A.a9o
 c0o : Meth K A.a7u "through" A.a6g
 c8v : Meth K A.a7u "word" A.b5s
 c5l : Meth K A.a7u "fresh" A.a4q
 a2y:Cls K A.a4m
 a1u : a2l K A.a4m "many"
 g4b:Mk K A.a4m A.b2q
 b8m : Meth K A.a4m "through" A.a4y
 c5m : Meth K A.a4m "word" A.b2r
 b7o : Meth K A.a4m "grain" A.a9n
 c2q : Meth K A.a4m "fresh" A.a4q
 a3i:Cls K A.a5i
 a1n : a2l K A.a5i "gain"
 a1o : a2l K A.a5i "many"
 a1i : a2l K A.a5i "turns"
 a0t : a2l K A.a5i "factors"
 a0q : a2l K A.a5i "factor_bottom"
 h3p:Mk K A.a5i A.b5t
 b8r : Meth K A.a5i "grain" A.a9p
 c0p : Meth K A.a5i "through" A.a6h
 c5n : Meth K A.a5i "reach" A.b2u
 c8w : Meth K A.a5i "word" A.b5u
 c5o : Meth K A.a5i "fresh" A.a4q
 a4j:Cls K A.a6v
 a1w : a2l K A.a6v "gain"
 a1y : a2l K A.a6v "many"
 h3q:Mk K A.a6v A.b5v
 b8s : Meth K A.a6v "grain" A.a9q
 c0q : Meth K A.a6v "through" A.a6i
 c8y : Meth K A.a6v "word" A.b5w
 c5p : Meth K A.a6v "fresh" A.a4q
 a4o:Cls K A.a6t
 a1z : a2l K A.a6t "parts"
 a1p : a2l K A.a6t "states"
 f6p:Mk K A.a6t A.b3j
 b8n : Meth K A.a6t "through" A.a6q
 c2r : Meth K A.a6t "grain" A.b0p
 c2s : Meth K A.a6t "words" A.b0q
 a3m:Cls K A.a3v
 a0u : a2l K A.a3v "track_names"
 a0z : a2l K A.a3v "bus_order"
 a2g : a2l K A.a3v "leads"
 a1m : a2l K A.a3v "bottoms"
 a1l : a2l K A.a3v "settlers"
 f6q:Mk K A.a3v A.b0r
 b6s : Meth K A.a3v "lead_to" A.a5r
 a8u : Meth K A.a3v "check_blocks" A.a2t
 c2t : Meth K A.a3v "feed" A.b0s
 b6t : Meth K A.a3v "flow_to" A.a5s
 a1s:Cls K A.a4n
 a0m : a2l K A.a4n "track_names"
 a0o : a2l K A.a4n "bus_names"
 a0n : a2l K A.a4n "told_sends"
 a0p : a2l K A.a4n "told_outs"
 g4c:Mk K A.a4n A.b3k
 a9h : Meth K A.a4n "check_new" A.a4u
 c2u : Meth K A.a4n "track" A.b0u
 c8z : Meth K A.a4n "bus" A.b6j
 c5q : Meth K A.a4n "send" A.b3m
 c9g : Meth K A.a4n "way" A.b6k
 c0r : Meth K A.a4n "tracks" A.a8l
 c2v : Meth K A.a4n "sends" A.b0w
 c5r : Meth K A.a4n "outs" A.b3o
 c2w : Meth K A.a4n "order" A.b0z
 b8o : Meth K A.a4n "is_next" A.a6s
 b6u : Fun K "is_whole" "is_whole" f4i A.b5i A.b5j
 b3u : Fun K "is_figures" "is_figures" d5m A.a9l A.b0h
 c3s : Fun K "whole_of" "whole_of" f4j A.b5k A.b5l
 c3t : Fun K "divisor" "divisor" g0q A.b7y A.b5m
 c3u : Fun K "multiple" "multiple" f4k A.b5n A.b5o
 c3v : Fun K "fraction" "fraction" f4l A.b5p A.b5q
 a2z : Fun K "fraction_text" "fraction_text" c8h A.a3s A.a4g
 a9r : Fun K "read_fraction" "read_fraction" c8i A.a4v A.a5o
 a9s : Fun K "added_rows" "added_rows" c8j A.a9m A.b0i
 a7p : Fun K "times_row" "times_row" d1i A.b1v A.b2n
 c0s : Fun K "delayed" "delayed" d8r A.c0h A.b9p
 c0t : Fun K "last_of" "last_of" g0r A.c0i A.b9q
 c1r : Fun K "grain" "Part.grain" d5n A.a9n A.b0j
 c1s : Fun K "fresh" "Part.fresh" d5o A.a4q A.b0k
 c5s : Fun K "__init__" "Gain.__init__" d8s A.b5r A.b2o
 c1t : Fun K "grain" "Gain.grain" d5p A.a9o A.a7h
 b7p : Fun K "through" "Gain.through" d0u A.a6g A.a4w
 c5t : Fun K "word" "Gain.word" d8t A.b5s A.b2p
 c1u : Fun K "__init__" "Delay.__init__" d5q A.b2q A.b0l
 b4g : Fun K "through" "Delay.through" c8k A.a4y A.a4h
 c1v : Fun K "word" "Delay.word" d5r A.b2r A.b0m
 b6v : Fun K "powers_of" "powers_of" d8u A.b1w A.b2s
 c5u : Fun K "__init__" "Echo.__init__" d1j A.b5t A.b2t
 c1w : Fun K "grain" "Echo.grain" d5s A.a9p A.a7i
 b7q : Fun K "through" "Echo.through" d0v A.a6h A.a4z
 c1y : Fun K "reach" "Echo.reach" d5t A.b2u A.b0n
 c5v : Fun K "word" "Echo.word" d8v A.b5u A.b2v
 c5w : Fun K "__init__" "Back.__init__" d8w A.b5v A.b2w
 c1z : Fun K "grain" "Back.grain" d5u A.a9q A.a7j
 b7r : Fun K "through" "Back.through" d0w A.a6i A.a5g
 c5y : Fun K "word" "Back.word" d8y A.b5w A.b2y
 a9t : Fun K "shared_bottom" "shared_bottom" c8l A.a5h A.a5p
 c0u : Fun K "tops_over" "tops_over" d8z A.b1y A.b2z
 b2l : Fun K "read_gain" "read_gain" d9g A.b1z A.b3g
 a7q : Fun K "read_number" "read_number" d2u A.a7k A.a7y
 b6w : Fun K "read_many" "read_many" d9h A.b2g A.b3h
 a5u : Fun K "check_count" "check_count" d2v A.a7l A.a7z
 c9h : Fun K "gain_of" "gain_of" g0s A.b7z A.b9r
 c3w : Fun K "delay_of" "delay_of" f4m A.b3i A.b5y
 c9i : Fun K "echo_of" "echo_of" g0t A.b8g A.b9s
 c9j : Fun K "back_of" "back_of" g0u A.b8h A.b9t
 c9k : Fun K "part_of" "part_of" g0v A.c0j A.b9u
 c3y : Fun K "parts_of" "parts_of" d3v A.b5z A.b6g
 c2g : Fun K "__init__" "Chain.__init__" c8m A.b3j A.b0o
 b4h : Fun K "through" "Chain.through" c8n A.a6q A.a5q
 b8t : Fun K "grain" "Chain.grain" d2w A.b0p A.a8g
 b8u : Fun K "words" "Chain.words" c4r A.b0q A.a8h
 c3z : Fun K "is_block" "is_block" d3w A.b6h A.b6i
 b8v : Fun K "__init__" "Engine.__init__" c4s A.b0r A.a8i
 b1q : Fun K "lead_to" "Engine.lead_to" b1o A.a5r A.a4s
 a5v : Fun K "check_blocks" "Engine.check_blocks" b7v A.a2t A.a2q
 b8w : Fun K "feed" "Engine.feed" d2y A.b0s A.a8j
 b1r : Fun K "flow_to" "Engine.flow_to" c7h A.a5s A.a4t
 c9l : Fun K "is_name" "is_name" d9i A.c0k A.b9v
 c2h : Fun K "__init__" "Patch.__init__" d5v A.b3k A.b0t
 b1g : Fun K "check_new" "Patch.check_new" c3o A.a4u A.a3u
 b8y : Fun K "track" "Patch.track" d2z A.b0u A.a8k
 c5z : Fun K "bus" "Patch.bus" d9j A.b6j A.b3l
 c2i : Fun K "send" "Patch.send" d5w A.b3m A.b0v
 c6g : Fun K "way" "Patch.way" d9k A.b6k A.b3n
 b7s : Fun K "tracks" "Patch.tracks" d0y A.a8l A.a6r
 b8z : Fun K "sends" "Patch.sends" c4t A.b0w A.a8m
 c2j : Fun K "outs" "Patch.outs" d5y A.b3o A.b0y
 b9g : Fun K "order" "Patch.order" c4u A.b0z A.a8n
 b4i : Fun K "is_next" "Patch.is_next" c8o A.a6s A.a5t
 a5w : Fun K "_law_cell_at" "_law_cell_at" d3g A.a7m A.a8o
 b4j : Fun K "_law_divisor" "_law_divisor" d3h A.a7n A.a8p
 c4g : Fun K "_law_gain" "_law_gain" f4n A.b6l A.b6m
 c4h : Fun K "_law_word" "_law_word" f4o A.b6n A.b6o
 c0v : Fun K "_law_patch" "_law_patch" d9l A.b2h A.b3p
 b6y : Fun K "_law_flows" "_law_flows" d9m A.b2j A.b3q
 b4k : Fun K "_law_answers" "_law_answers" c4v A.a7o A.a8q
 c0w : Fun K "_law_right" "_law_right" d9n A.b2k A.b3r
 h3r : Fun K "law" "law" h3m A.g1c A.d6h
 i2l : W.nsIn K mainGlobals "abs" = some none
 i2m : W.nsIn K mainGlobals "all" = some none
 y_bool : W.nsIn K mainGlobals "bool" = some none
 h3s : W.nsIn K mainGlobals "dict" = some none
 i2n : W.nsIn K mainGlobals "int" = some none
 c9m : W.nsIn K mainGlobals "isinstance" = some none
 i2o : W.nsIn K mainGlobals "len" = some none
 h3t : W.nsIn K mainGlobals "list" = some none
 i2p : W.nsIn K mainGlobals "max" = some none
 i2q : W.nsIn K mainGlobals "min" = some none
 g4d : W.nsIn K mainGlobals "range" = some none
 i2r : W.nsIn K mainGlobals "str" = some none
 g4e : W.nsIn K mainGlobals "tuple" = some none
 i2s : W.nsIn K mainGlobals "zip" = some none
 d4n : W.nsIn K mainGlobals "FIGURES" = some (some A.c3q)
 d4o : RelV (.str "0123456789") A.c3q
 a8v : W.nsIn K mainGlobals "MOST_FIGURES_wholes" = some (some A.a2u)
 a8w:RelV (.int 13) A.a2u
 a8y : W.nsIn K mainGlobals "MOST_FIGURES_ratios" = some (some A.a2v)
 a8z:RelV (.int 9) A.a2v
 c9n : W.nsIn K mainGlobals "MOST_GAIN" = some (some A.b6p)
 c2k:RelV (.int 1000) A.b6p
 c9o : W.nsIn K mainGlobals "MOST_MANY" = some (some A.b6q)
 c2l:RelV (.int 1000) A.b6q
 c6h : W.nsIn K mainGlobals "MOST_TURNS" = some (some A.b3s)
 c6i:RelV (.int 16) A.b3s
 c6j : W.nsIn K mainGlobals "MOST_PARTS" = some (some A.b3t)
 c6k:RelV (.int 8) A.b3t
 d4p : W.nsIn K mainGlobals "LETTERS" = some (some A.c3r)
 d4q : RelV (.str "abcdefghijklmnopqrstuvwxyz") A.c3r
 c0y : W.nsIn K mainGlobals "MOST_LETTERS" = some (some A.a8r)
 c0z:RelV (.int 8) A.a8r
 c9p : W.nsIn K mainGlobals "MOST_TONE" = some (some A.b6r)
 c9q:RelV (.int 1000000000000) A.b6r
 d4r : W.nsIn K mainGlobals "READERS" = some (some (.ref A.a3l))
 b4l : W.nsIn K A.a3l "gain" = some (some (.ref A.b7z))
 b1s : W.nsIn K A.a3l "delay" = some (some (.ref A.b3i))
 b4m : W.nsIn K A.a3l "echo" = some (some (.ref A.b8g))
 b4n : W.nsIn K A.a3l "back" = some (some (.ref A.b8h))
structure Tx(K:W.Frag)(mg:Str->Option Value)(A:Ad):Prop extends Ty K A where
 d4s : Binds K A.b5j ["value"] []
 d4t : mg "is_whole" = some (.ref A.b5i)
 d6j : Binds K A.b0h ["text"] []
 d6k : mg "is_figures" = some (.ref A.a9l)
 g8v : Binds K A.b5l ["text"] []
 g8w : mg "whole_of" = some (.ref A.b5k)
 g1d : Binds K A.b5m ["one", "other"] []
 g1e : mg "divisor" = some (.ref A.b7y)
 g8x : Binds K A.b5o ["one", "other"] []
 g8y : mg "multiple" = some (.ref A.b5n)
 g8z : Binds K A.b5q ["top", "bottom"] []
 g9a : mg "fraction" = some (.ref A.b5p)
 b4o : Binds K A.a4g ["one"] []
 b4p : mg "fraction_text" = some (.ref A.a3s)
 f0g : Binds K A.a5o ["text"] []
 f0h : mg "read_fraction" = some (.ref A.a4v)
 c9r : Binds K A.b0i ["one", "other"] []
 c9s : mg "added_rows" = some (.ref A.a9m)
 c1g : Binds K A.b2n ["row", "by"] []
 c1h : mg "times_row" = some (.ref A.b1v)
 f0i : Binds K A.b9p ["known", "start", "many"] []
 f0j : mg "delayed" = some (.ref A.c0h)
 f0k : Binds K A.b9q ["known", "many"] []
 f0l : mg "last_of" = some (.ref A.c0i)
 d6l : Binds K A.b0j ["self"] []
 c2m : Binds K A.b0k ["self"] []
 g4f : Binds K A.b2o ["self", "gain"] []
 d6m : Binds K A.a7h ["self"] []
 f2s : Binds K A.a4w ["self", "state", "tops", "bottom"] []
 g4g : Binds K A.b2p ["self"] []
 g1f : Binds K A.b0l ["self", "many"] []
 f0m : Binds K A.a4h ["self", "state", "tops", "bottom"] []
 g1g : Binds K A.b0m ["self"] []
 f0n : Binds K A.b2s ["number", "most"] []
 f0o : mg "powers_of" = some (.ref A.b1w)
 g4h : Binds K A.b2t ["self", "gain", "many", "turns"] []
 d6n : Binds K A.a7i ["self"] []
 f2t : Binds K A.a4z ["self", "state", "tops", "bottom"] []
 g1h : Binds K A.b0n ["self"] []
 g4i : Binds K A.b2v ["self"] []
 g4j : Binds K A.b2w ["self", "gain", "many"] []
 d6o : Binds K A.a7j ["self"] []
 f2u : Binds K A.a5g ["self", "state", "tops", "bottom"] []
 g4k : Binds K A.b2y ["self"] []
 f0p : Binds K A.a5p ["bottoms"] []
 f0q : mg "shared_bottom" = some (.ref A.a5h)
 g4l : Binds K A.b2z ["one", "bottom"] []
 g4m : mg "tops_over" = some (.ref A.b1y)
 d1t : Binds K A.b3g ["text"] []
 d1u : mg "read_gain" = some (.ref A.b1z)
 c6l : Binds K A.a7y ["text", "least", "most"] []
 c6m : mg "read_number" = some (.ref A.a7k)
 f0r : Binds K A.b3h ["text"] []
 f0s : mg "read_many" = some (.ref A.b2g)
 b9h : Binds K A.a7z ["values", "count"] []
 b9i : mg "check_count" = some (.ref A.a7l)
 h3u : Binds K A.b9r ["values"] []
 i8l : mg "gain_of" = some (.ref A.b7z)
 g9b : Binds K A.b5y ["values"] []
 i4w : mg "delay_of" = some (.ref A.b3i)
 h3v : Binds K A.b9s ["values"] []
 i8m : mg "echo_of" = some (.ref A.b8g)
 h3w : Binds K A.b9t ["values"] []
 i8n : mg "back_of" = some (.ref A.b8h)
 h3x : Binds K A.b9u ["word"] []
 h3y : mg "part_of" = some (.ref A.c0j)
 g9c : Binds K A.b6g ["words"] []
 g9d : mg "parts_of" = some (.ref A.b5z)
 d6p : Binds K A.b0o ["self", "words"] []
 f0t : Binds K A.a5q ["self", "tops", "bottom"] []
 f6r : Binds K A.a8g ["self"] []
 f6s : Binds K A.a8h ["self"] []
 g9e : Binds K A.b6i ["value"] []
 g9f : mg "is_block" = some (.ref A.b6h)
 f6t : Binds K A.a8i ["self", "patch"] []
 d6y : Binds K A.a4s ["self", "bus", "sends"] []
 c9t : Binds K A.a2q ["self", "blocks"] []
 f6u : Binds K A.a8j ["self", "blocks"] []
 d6z : Binds K A.a4t ["self", "bus", "flows", "length"] []
 h3z : Binds K A.b9v ["value"] []
 h4a : mg "is_name" = some (.ref A.c0k)
 g1i : Binds K A.b0t ["self"] []
 c4i : Binds K A.a3u ["self", "name"] []
 f6v : Binds K A.a8k ["self", "name"] []
 g4n : Binds K A.b3l ["self", "name"] []
 g1j : Binds K A.b0v ["self", "source", "bus", "words"] []
 g4o : Binds K A.b3n ["self", "start", "end"] []
 f2v : Binds K A.a6r ["self"] []
 f6w : Binds K A.a8m ["self"] []
 g1k : Binds K A.b0y ["self"] []
 f6y : Binds K A.a8n ["self"] []
 f0u : Binds K A.a5t ["self", "bus", "placed"] []
 b9j : Binds K A.a8o ["_law_script", "_law_k"] []
 b9k : mg "_law_cell_at" = some (.ref A.a7m)
 f6z : Binds K A.a8p ["_law_one", "_law_other"] []
 f7g : mg "_law_divisor" = some (.ref A.a7n)
 g9g : Binds K A.b6m ["_law_mixed"] []
 g9h : mg "_law_gain" = some (.ref A.b6l)
 g9i : Binds K A.b6o ["_law_mixed"] []
 g9j : mg "_law_word" = some (.ref A.b6n)
 g4p : Binds K A.b3p ["_law_script", "_law_names", "_law_tracks"] []
 g4q : mg "_law_patch" = some (.ref A.b2h)
 f0v : Binds K A.b3q ["_law_patch_here", "_law_names", "_law_rows"] []
 f0w : mg "_law_flows" = some (.ref A.b2j)
 f7h : Binds K A.a8q ["_law_patch_here", "_law_names", "_law_tracks", "_law_size"] []
 f7i : mg "_law_answers" = some (.ref A.a7o)
 g4r : Binds K A.b3r ["_law_flow", "_law_answers_here", "_law_rows", "_law_size"] []
 g4s : mg "_law_right" = some (.ref A.b2k)
 b_law : Binds K A.d6h ["_law_script"] []
 m_law : mg "law" = some (.ref A.g1c)
 g4t : mg "abs" = none
 i8o : mg "all" = none
 i8p : mg "bool" = none
 i8q : mg "dict" = none
 h4b : mg "int" = none
 a6w : mg "isinstance" = none
 b6z : mg "len" = none
 c9u : mg "list" = none
 j2t : mg "max" = none
 j2u : mg "min" = none
 b4q : mg "range" = none
 f7j : mg "str" = none
 h4d : mg "tuple" = none
 j2v : mg "zip" = none
 j2w : mg "Part" = some (.ref A.d6i)
 i2t : mg "Gain" = some (.ref A.a7u)
 h8g : mg "Delay" = some (.ref A.a4m)
 i2u : mg "Echo" = some (.ref A.a5i)
 i2v : mg "Back" = some (.ref A.a6v)
 g7g : mg "Chain" = some (.ref A.a6t)
 h4e : mg "Engine" = some (.ref A.a3v)
 h8h : mg "Patch" = some (.ref A.a4n)
 g9k : mg "FIGURES" = some A.c3q
 c7m : mg "MOST_FIGURES_wholes" = some A.a2u
 c7n : mg "MOST_FIGURES_ratios" = some A.a2v
 d6q : mg "MOST_GAIN" = some A.b6p
 d6r : mg "MOST_MANY" = some A.b6q
 f7k : mg "MOST_TURNS" = some A.b3s
 f7l : mg "MOST_PARTS" = some A.b3t
 g9l : mg "LETTERS" = some A.c3r
 f0y : mg "MOST_LETTERS" = some A.a8r
 g1l : mg "MOST_TONE" = some A.b6r
 c4j : mg "READERS" = some (.ref A.a3l)
 g9m:j2i K A.wd A.a3l
theorem nq0 : (("__init__" : Str) == ("gain" : Str)) = false := by decide +kernel
theorem nq1 : (("grain" : Str) == ("gain" : Str)) = false := by decide +kernel
theorem nq2 : (("through" : Str) == ("gain" : Str)) = false := by decide +kernel
theorem nq3 : (("word" : Str) == ("gain" : Str)) = false := by decide +kernel
theorem nq4 : (("fresh" : Str) == ("gain" : Str)) = false := by decide +kernel
theorem nq5 : (("reach" : Str) == ("gain" : Str)) = false := by decide +kernel
theorem nq6 : (("__init__" : Str) == ("many" : Str)) = false := by decide +kernel
theorem nq7 : (("through" : Str) == ("many" : Str)) = false := by decide +kernel
theorem nq8 : (("reach" : Str) == ("many" : Str)) = false := by decide +kernel
theorem nq9 : (("word" : Str) == ("many" : Str)) = false := by decide +kernel
theorem nq10 : (("grain" : Str) == ("many" : Str)) = false := by decide +kernel
theorem nq11 : (("fresh" : Str) == ("many" : Str)) = false := by decide +kernel
theorem nq12 : (("gain" : Str) == ("many" : Str)) = false := by decide +kernel
theorem nq13 : (("gain" : Str) == ("turns" : Str)) = false := by decide +kernel
theorem nq14 : (("gain" : Str) == ("factors" : Str)) = false := by decide +kernel
theorem nq15 : (("gain" : Str) == ("factor_bottom" : Str)) = false := by decide +kernel
theorem nq16 : (("many" : Str) == ("gain" : Str)) = false := by decide +kernel
theorem nq17 : (("many" : Str) == ("turns" : Str)) = false := by decide +kernel
theorem nq18 : (("many" : Str) == ("factors" : Str)) = false := by decide +kernel
theorem nq19 : (("many" : Str) == ("factor_bottom" : Str)) = false := by decide +kernel
theorem nq20 : (("turns" : Str) == ("gain" : Str)) = false := by decide +kernel
theorem nq21 : (("turns" : Str) == ("many" : Str)) = false := by decide +kernel
theorem nq22 : (("turns" : Str) == ("factors" : Str)) = false := by decide +kernel
theorem nq23 : (("turns" : Str) == ("factor_bottom" : Str)) = false := by decide +kernel
theorem nq24 : (("factors" : Str) == ("gain" : Str)) = false := by decide +kernel
theorem nq25 : (("factors" : Str) == ("many" : Str)) = false := by decide +kernel
theorem nq26 : (("factors" : Str) == ("turns" : Str)) = false := by decide +kernel
theorem nq27 : (("factors" : Str) == ("factor_bottom" : Str)) = false := by decide +kernel
theorem nq28 : (("factor_bottom" : Str) == ("gain" : Str)) = false := by decide +kernel
theorem nq29 : (("factor_bottom" : Str) == ("many" : Str)) = false := by decide +kernel
theorem nq30 : (("factor_bottom" : Str) == ("turns" : Str)) = false := by decide +kernel
theorem nq31 : (("factor_bottom" : Str) == ("factors" : Str)) = false := by decide +kernel
theorem nq32 : (("__init__" : Str) == ("turns" : Str)) = false := by decide +kernel
theorem nq33 : (("__init__" : Str) == ("factors" : Str)) = false := by decide +kernel
theorem nq34 : (("__init__" : Str) == ("factor_bottom" : Str)) = false := by decide +kernel
theorem nq35 : (("grain" : Str) == ("turns" : Str)) = false := by decide +kernel
theorem nq36 : (("grain" : Str) == ("factors" : Str)) = false := by decide +kernel
theorem nq37 : (("grain" : Str) == ("factor_bottom" : Str)) = false := by decide +kernel
theorem nq38 : (("through" : Str) == ("turns" : Str)) = false := by decide +kernel
theorem nq39 : (("through" : Str) == ("factors" : Str)) = false := by decide +kernel
theorem nq40 : (("through" : Str) == ("factor_bottom" : Str)) = false := by decide +kernel
theorem nq41 : (("reach" : Str) == ("turns" : Str)) = false := by decide +kernel
theorem nq42 : (("reach" : Str) == ("factors" : Str)) = false := by decide +kernel
theorem nq43 : (("reach" : Str) == ("factor_bottom" : Str)) = false := by decide +kernel
theorem nq44 : (("word" : Str) == ("turns" : Str)) = false := by decide +kernel
theorem nq45 : (("word" : Str) == ("factors" : Str)) = false := by decide +kernel
theorem nq46 : (("word" : Str) == ("factor_bottom" : Str)) = false := by decide +kernel
theorem nq47 : (("fresh" : Str) == ("turns" : Str)) = false := by decide +kernel
theorem nq48 : (("fresh" : Str) == ("factors" : Str)) = false := by decide +kernel
theorem nq49 : (("fresh" : Str) == ("factor_bottom" : Str)) = false := by decide +kernel
theorem nq50 : (("parts" : Str) == ("states" : Str)) = false := by decide +kernel
theorem nq51 : (("states" : Str) == ("parts" : Str)) = false := by decide +kernel
theorem nq52 : (("__init__" : Str) == ("parts" : Str)) = false := by decide +kernel
theorem nq53 : (("__init__" : Str) == ("states" : Str)) = false := by decide +kernel
theorem nq54 : (("through" : Str) == ("parts" : Str)) = false := by decide +kernel
theorem nq55 : (("through" : Str) == ("states" : Str)) = false := by decide +kernel
theorem nq56 : (("grain" : Str) == ("parts" : Str)) = false := by decide +kernel
theorem nq57 : (("grain" : Str) == ("states" : Str)) = false := by decide +kernel
theorem nq58 : (("reach" : Str) == ("parts" : Str)) = false := by decide +kernel
theorem nq59 : (("reach" : Str) == ("states" : Str)) = false := by decide +kernel
theorem nq60 : (("words" : Str) == ("parts" : Str)) = false := by decide +kernel
theorem nq61 : (("words" : Str) == ("states" : Str)) = false := by decide +kernel
theorem nq62 : (("track_names" : Str) == ("bus_order" : Str)) = false := by decide +kernel
theorem nq63 : (("track_names" : Str) == ("leads" : Str)) = false := by decide +kernel
theorem nq64 : (("track_names" : Str) == ("bottoms" : Str)) = false := by decide +kernel
theorem nq65 : (("track_names" : Str) == ("settlers" : Str)) = false := by decide +kernel
theorem nq66 : (("bus_order" : Str) == ("track_names" : Str)) = false := by decide +kernel
theorem nq67 : (("bus_order" : Str) == ("leads" : Str)) = false := by decide +kernel
theorem nq68 : (("bus_order" : Str) == ("bottoms" : Str)) = false := by decide +kernel
theorem nq69 : (("bus_order" : Str) == ("settlers" : Str)) = false := by decide +kernel
theorem nq70 : (("leads" : Str) == ("track_names" : Str)) = false := by decide +kernel
theorem nq71 : (("leads" : Str) == ("bus_order" : Str)) = false := by decide +kernel
theorem nq72 : (("leads" : Str) == ("bottoms" : Str)) = false := by decide +kernel
theorem nq73 : (("leads" : Str) == ("settlers" : Str)) = false := by decide +kernel
theorem nq74 : (("bottoms" : Str) == ("track_names" : Str)) = false := by decide +kernel
theorem nq75 : (("bottoms" : Str) == ("bus_order" : Str)) = false := by decide +kernel
theorem nq76 : (("bottoms" : Str) == ("leads" : Str)) = false := by decide +kernel
theorem nq77 : (("bottoms" : Str) == ("settlers" : Str)) = false := by decide +kernel
theorem nq78 : (("settlers" : Str) == ("track_names" : Str)) = false := by decide +kernel
theorem nq79 : (("settlers" : Str) == ("bus_order" : Str)) = false := by decide +kernel
theorem nq80 : (("settlers" : Str) == ("leads" : Str)) = false := by decide +kernel
theorem nq81 : (("settlers" : Str) == ("bottoms" : Str)) = false := by decide +kernel
theorem nq82 : (("__init__" : Str) == ("track_names" : Str)) = false := by decide +kernel
theorem nq83 : (("__init__" : Str) == ("bus_order" : Str)) = false := by decide +kernel
theorem nq84 : (("__init__" : Str) == ("leads" : Str)) = false := by decide +kernel
theorem nq85 : (("__init__" : Str) == ("bottoms" : Str)) = false := by decide +kernel
theorem nq86 : (("__init__" : Str) == ("settlers" : Str)) = false := by decide +kernel
theorem nq87 : (("lead_to" : Str) == ("track_names" : Str)) = false := by decide +kernel
theorem nq88 : (("lead_to" : Str) == ("bus_order" : Str)) = false := by decide +kernel
theorem nq89 : (("lead_to" : Str) == ("leads" : Str)) = false := by decide +kernel
theorem nq90 : (("lead_to" : Str) == ("bottoms" : Str)) = false := by decide +kernel
theorem nq91 : (("lead_to" : Str) == ("settlers" : Str)) = false := by decide +kernel
theorem nq92 : (("check_blocks" : Str) == ("track_names" : Str)) = false := by decide +kernel
theorem nq93 : (("check_blocks" : Str) == ("bus_order" : Str)) = false := by decide +kernel
theorem nq94 : (("check_blocks" : Str) == ("leads" : Str)) = false := by decide +kernel
theorem nq95 : (("check_blocks" : Str) == ("bottoms" : Str)) = false := by decide +kernel
theorem nq96 : (("check_blocks" : Str) == ("settlers" : Str)) = false := by decide +kernel
theorem nq97 : (("feed" : Str) == ("track_names" : Str)) = false := by decide +kernel
theorem nq98 : (("feed" : Str) == ("bus_order" : Str)) = false := by decide +kernel
theorem nq99 : (("feed" : Str) == ("leads" : Str)) = false := by decide +kernel
theorem nq100 : (("feed" : Str) == ("bottoms" : Str)) = false := by decide +kernel
theorem nq101 : (("feed" : Str) == ("settlers" : Str)) = false := by decide +kernel
theorem nq102 : (("flow_to" : Str) == ("track_names" : Str)) = false := by decide +kernel
theorem nq103 : (("flow_to" : Str) == ("bus_order" : Str)) = false := by decide +kernel
theorem nq104 : (("flow_to" : Str) == ("leads" : Str)) = false := by decide +kernel
theorem nq105 : (("flow_to" : Str) == ("bottoms" : Str)) = false := by decide +kernel
theorem nq106 : (("flow_to" : Str) == ("settlers" : Str)) = false := by decide +kernel
theorem nq107 : (("track_names" : Str) == ("bus_names" : Str)) = false := by decide +kernel
theorem nq108 : (("track_names" : Str) == ("told_sends" : Str)) = false := by decide +kernel
theorem nq109 : (("track_names" : Str) == ("told_outs" : Str)) = false := by decide +kernel
theorem nq110 : (("bus_names" : Str) == ("track_names" : Str)) = false := by decide +kernel
theorem nq111 : (("bus_names" : Str) == ("told_sends" : Str)) = false := by decide +kernel
theorem nq112 : (("bus_names" : Str) == ("told_outs" : Str)) = false := by decide +kernel
theorem nq113 : (("told_sends" : Str) == ("track_names" : Str)) = false := by decide +kernel
theorem nq114 : (("told_sends" : Str) == ("bus_names" : Str)) = false := by decide +kernel
theorem nq115 : (("told_sends" : Str) == ("told_outs" : Str)) = false := by decide +kernel
theorem nq116 : (("told_outs" : Str) == ("track_names" : Str)) = false := by decide +kernel
theorem nq117 : (("told_outs" : Str) == ("bus_names" : Str)) = false := by decide +kernel
theorem nq118 : (("told_outs" : Str) == ("told_sends" : Str)) = false := by decide +kernel
theorem nq119 : (("__init__" : Str) == ("bus_names" : Str)) = false := by decide +kernel
theorem nq120 : (("__init__" : Str) == ("told_sends" : Str)) = false := by decide +kernel
theorem nq121 : (("__init__" : Str) == ("told_outs" : Str)) = false := by decide +kernel
theorem nq122 : (("check_new" : Str) == ("track_names" : Str)) = false := by decide +kernel
theorem nq123 : (("check_new" : Str) == ("bus_names" : Str)) = false := by decide +kernel
theorem nq124 : (("check_new" : Str) == ("told_sends" : Str)) = false := by decide +kernel
theorem nq125 : (("check_new" : Str) == ("told_outs" : Str)) = false := by decide +kernel
theorem nq126 : (("track" : Str) == ("track_names" : Str)) = false := by decide +kernel
theorem nq127 : (("track" : Str) == ("bus_names" : Str)) = false := by decide +kernel
theorem nq128 : (("track" : Str) == ("told_sends" : Str)) = false := by decide +kernel
theorem nq129 : (("track" : Str) == ("told_outs" : Str)) = false := by decide +kernel
theorem nq130 : (("bus" : Str) == ("track_names" : Str)) = false := by decide +kernel
theorem nq131 : (("bus" : Str) == ("bus_names" : Str)) = false := by decide +kernel
theorem nq132 : (("bus" : Str) == ("told_sends" : Str)) = false := by decide +kernel
theorem nq133 : (("bus" : Str) == ("told_outs" : Str)) = false := by decide +kernel
theorem nq134 : (("send" : Str) == ("track_names" : Str)) = false := by decide +kernel
theorem nq135 : (("send" : Str) == ("bus_names" : Str)) = false := by decide +kernel
theorem nq136 : (("send" : Str) == ("told_sends" : Str)) = false := by decide +kernel
theorem nq137 : (("send" : Str) == ("told_outs" : Str)) = false := by decide +kernel
theorem nq138 : (("way" : Str) == ("track_names" : Str)) = false := by decide +kernel
theorem nq139 : (("way" : Str) == ("bus_names" : Str)) = false := by decide +kernel
theorem nq140 : (("way" : Str) == ("told_sends" : Str)) = false := by decide +kernel
theorem nq141 : (("way" : Str) == ("told_outs" : Str)) = false := by decide +kernel
theorem nq142 : (("tracks" : Str) == ("track_names" : Str)) = false := by decide +kernel
theorem nq143 : (("tracks" : Str) == ("bus_names" : Str)) = false := by decide +kernel
theorem nq144 : (("tracks" : Str) == ("told_sends" : Str)) = false := by decide +kernel
theorem nq145 : (("tracks" : Str) == ("told_outs" : Str)) = false := by decide +kernel
theorem nq146 : (("sends" : Str) == ("track_names" : Str)) = false := by decide +kernel
theorem nq147 : (("sends" : Str) == ("bus_names" : Str)) = false := by decide +kernel
theorem nq148 : (("sends" : Str) == ("told_sends" : Str)) = false := by decide +kernel
theorem nq149 : (("sends" : Str) == ("told_outs" : Str)) = false := by decide +kernel
theorem nq150 : (("outs" : Str) == ("track_names" : Str)) = false := by decide +kernel
theorem nq151 : (("outs" : Str) == ("bus_names" : Str)) = false := by decide +kernel
theorem nq152 : (("outs" : Str) == ("told_sends" : Str)) = false := by decide +kernel
theorem nq153 : (("outs" : Str) == ("told_outs" : Str)) = false := by decide +kernel
theorem nq154 : (("order" : Str) == ("track_names" : Str)) = false := by decide +kernel
theorem nq155 : (("order" : Str) == ("bus_names" : Str)) = false := by decide +kernel
theorem nq156 : (("order" : Str) == ("told_sends" : Str)) = false := by decide +kernel
theorem nq157 : (("order" : Str) == ("told_outs" : Str)) = false := by decide +kernel
theorem nq158 : (("is_next" : Str) == ("track_names" : Str)) = false := by decide +kernel
theorem nq159 : (("is_next" : Str) == ("bus_names" : Str)) = false := by decide +kernel
theorem nq160 : (("is_next" : Str) == ("told_sends" : Str)) = false := by decide +kernel
theorem nq161 : (("is_next" : Str) == ("told_outs" : Str)) = false := by decide +kernel
seal PE PT PA PS PSs PI PO PW PG PGs PEX PSX
local macro_rules | `(tactic| walk_at "bits") => `(tactic| first | with_reducible assumption | exact intBits_le_64 (by omega) (by omega) | exact (intBits_le_iff (m := 250)).mpr (by decide) | ((with_reducible apply intBits_mul_le) <;> walk_at "bits") | ((with_reducible apply intBits_add_le) <;> walk_at "bits") | ((with_reducible apply intBits_sub_le) <;> walk_at "bits") | ((with_reducible apply intBits_neg_le) <;> walk_at "bits") | ((with_reducible apply intBits_natAbs_le) <;> walk_at "bits") | ((with_reducible apply intBits_fdiv_le) <;> walk_at "bits") | ((with_reducible apply intBits_fmod_le) <;> walk_at "bits"))
local macro_rules | `(tactic| walk_at "mul") => `(tactic| first | exact IntMulOk.of_right (intBits_le_64 (by omega) (by omega)) | exact IntMulOk.of_left (intBits_le_64 (by omega) (by omega)) | ((with_reducible apply IntMulOk.of_le) <;> first | walk_at "bits" | decide))
local macro_rules | `(tactic| walk_at "le") => `(tactic| ((with_reducible apply Nat.le_trans) <;> first | walk_at "bits" | decide))
variable {P:Program}{w:World}{K:PySem.W.Frag}{mg:Str->Option Value}{base:Heap}{A:Ad}
def h8i:Sp:=fun vs H Q _=>match vs with | [.int a,.int b]=>Q (.int (Int.gcd a b)) H | _=>False
def i2w:Sp:=fun vs H Q _=>match vs with | [.int a,.int b]=>intBits a<=8900/\intBits b<=8900/\Q (.int (Int.lcm a b)) H | _=>False
def i2x:Sp:=fun vs H Q _=>match vs with | [.int _]=>Q (.bl true) H | _=>False
def h4f:Sp:=fun vs H Q _=>match vs with
 | [.int t,.int b]=>b≠0/\intBits t<=4000/\intBits b<=4000/\All (f3w H (i0a (Rat.divInt t b))) Q ⟨⟩ ⟨⟩
 | _=>False
def i2y:Sp:=fun vs H Q _=>match vs with | [.str x]=>Q (.bl (h2q (sg x))) H | _=>False
def g4u:Sp:=fun vs H Q _=>match vs with | [.ref p]=>∃ t b:Int,H p=some (.tup [.int t,.int b])/\t.natAbs.log2 < 1920/\b.natAbs.log2 < 1920/\(∀ y:Str,sg y=i0h t b->Q (.str y) H) | _=>False
def h4g:Sp:=fun vs H Q _=>match vs with | [.str x]=>∃ t b,Good (sg x) t b/\All (f3w H [.int t,.int b]) Q ⟨⟩ ⟨⟩ | _=>False
def i3a:Sp:=fun vs H Q _=>match vs with
 | [.str x]=>∃ n:Nat,sg x=txt (n:Int)/\n < 10 ^ 13/\Q (.int n) H
 | _=>False
noncomputable def f2w(ns ms:List Int):List Int:=(List.range (max ns.length ms.length)).map fun k=>ns.getD k 0+ms.getD k 0
noncomputable def j2x(ns ms:List Int):List Int:=((List.range (min ns.length ms.length)).map fun k=>ns.getD k 0+ms.getD k 0)++ns.drop (min ns.length ms.length)++ms.drop (min ns.length ms.length)
def i3b:Sp:=fun vs H Q _=>match vs with
 | [.ref p,.ref q]=>∃ ns ms:List Int,H p=some (.lst (ns.map V.int))/\H q=some (.lst (ms.map V.int))/\ns.length<=1000000/\ms.length<=1000000/\All (d2o H ((f2w ns ms).map V.int)) Q ⟨⟩ ⟨⟩
 | _=>False
def g4v:Sp:=fun vs H Q _=>match vs with
 | [.ref p,.int b]=>∃ ns:List Int,H p=some (.lst (ns.map V.int))/\(∀ n∈ns,IntMulOk n b)/\ns.length<=1000000/\All (d2o H ((ns.map (· * b)).map V.int)) Q ⟨⟩ ⟨⟩
 | _=>False
noncomputable def g2t(ns:List Int)(st n:Nat):List Int:=(List.range (ns.length - st)).map fun i=>if n<=st+i then ns.getD (st+i - n) 0 else 0
def f0z:Sp:=fun vs H Q _=>match vs with
 | [.ref k,.int st,.int n]=>∃ (ns:List Int) (s m:Nat),H k=some (.lst (ns.map V.int))/\st=s/\n=m/\s<=ns.length/\ns.length<=1000000/\All (d2o H ((g2t ns s m).map V.int)) Q ⟨⟩ ⟨⟩
 | _=>False
def h4h:Sp:=fun vs H Q _=>match vs with
 | [.ref k,.int n]=>∃ (ns:List Int) (m:Nat),H k=some (.lst (ns.map V.int))/\n=m/\ns.length<=1000000/\All (f3w H ((ns.drop (ns.length - m)).map V.int)) Q ⟨⟩ ⟨⟩
 | _=>False
noncomputable def h4i(n:Int)(m:Nat):List Int:=(List.range (m+1)).map fun j=>n ^ j
def i3c:Sp:=fun vs H Q _=>match vs with
 | [.int n,.int t]=>∃ m:Nat,t=m/\m<=16/\intBits n<=10/\All (d2o H ((h4i n m).map V.int)) Q ⟨⟩ ⟨⟩
 | _=>False
noncomputable def h6r(p q:Int)(t j:Nat):Int:=p ^ j*q ^ (t - j)
noncomputable def h6s(p q:Int)(t:Nat):List Int:=(List.range (t+1)).map (h6r p q t)
noncomputable def ecF (gt fa : Addr) (n t : Nat) (q : Int) : List (Str × V) := [("gain", .ref gt), ("many", .int n), ("turns", .int t), ("factors", .ref fa), ("factor_bottom", .int (q ^ t))]
def IsE(C:Addr)(H:Hp)(o:Addr)(p q:Int)(n t:Nat):Prop:=∃ dx gt fa,H o=some (.ins C dx (ecF gt fa n t q))/\H gt=some (.tup [.int p,.int q])/\H fa=some (.tup ((h6s p q t).map V.int))
def g4w(C:Addr):Sp:=fun vs H Q _=>match vs with
 | [.ref o,.ref gt,.int n,.int t]=>∃ (dx:Addr) (m tt:Nat) (p q:Int),n=m/\t=tt/\tt<=16/\intBits p<=10/\intBits q<=10/\H gt=some (.tup [.int p,.int q])/\H o=some (.ins C dx []) /\
   (∀ (fa:Addr) (H1:Hp),a2j o H H1->H fa=none->H1 o=some (.ins C dx (ecF gt fa m tt q))->H1 fa=some (.tup ((h6s p q tt).map V.int))->Q .non H1)
 | _=>False
def f7m(C:Addr):Sp:=fun vs H Q _=>match vs with
 | [.ref o]=>∃ p q n t,IsE C H o p q n t/\Q (.int (q ^ t)) H
 | _=>False
def f7n(C:Addr):Sp:=fun vs H Q _=>match vs with
 | [.ref o]=>∃ p q n t,IsE C H o p q n t/\n<=1000000/\Q (.int (((n*t:Nat)):Int)) H
 | _=>False
noncomputable def h6t(kn:List Int)(st n:Nat)(p q:Int)(t:Nat):Nat->List Int
 | 0=>[]
 | j+1=>f2w (h6t kn st n p q t j) ((g2t kn st (j*n)).map (· * h6r p q t j))
def h4j(C:Addr):Sp:=fun vs H Q _=>match vs with
 | [.ref o,.ref st,.ref x,.int _]=>∃ (p q:Int) (n t:Nat) (zs xs:List Int),IsE C H o p q n t/\H st=some (.tup (zs.map V.int))/\H x=some (.lst (xs.map V.int))/\zs.length<=100000/\xs.length<=100000/\n<=1000000/\t<=16/\intBits p<=10/\intBits q<=10/\(∀ y∈zs++xs,intBits y<=1000000) /\
   (∀ (r ou s2:Addr) (H1:Hp),Same H H1->H r=none->H ou=none->H1 r=some (.tup [.ref ou,.ref s2])->H1 ou=some (.lst ((h6t (zs++xs) zs.length n p q t (t+1)).map V.int))->H1 s2=some (.tup (((zs++xs).drop ((zs++xs).length - n*t)).map V.int))->Q (.ref r) H1)
 | _=>False
noncomputable def h0j(X:Nat->Int)(p q:Int)(t:Nat):Nat->Int
 | 0=>0
 | j+1=>h0j X p q t j+X j*h6r p q t j
def g4x(C:Addr):Sp:=fun vs H Q _=>match vs with
 | [.ref o, .ref gt] => ∃ dx, H o = some (.ins C dx []) ∧ (∀ H1, a2j o H H1 → H1 o = some (.ins C dx [("gain", .ref gt)]) → Q .non H1)
 | _=>False
def f7o(C:Addr):Sp:=fun vs H Q _=>match vs with
 | [.ref o, .int n] => ∃ dx, H o = some (.ins C dx []) ∧ (∀ H1, a2j o H H1 → H1 o = some (.ins C dx [("many", .int n)]) → Q .non H1)
 | _=>False
def g4y(C:Addr):Sp:=fun vs H Q _=>match vs with
 | [.ref o, .ref gt, .int n] => ∃ dx, H o = some (.ins C dx []) ∧ (∀ H1, a2j o H H1 → H1 o = some (.ins C dx [("gain", .ref gt), ("many", .int n)]) → Q .non H1)
 | _=>False
noncomputable def clsOf(A:Ad):Dt->Addr
 | .gain _=>A.a7u
 | .delay _=>A.a4m
 | .echo .. => A.a5i
 | _=>A.a6v
noncomputable def gnF (g : Addr) : List (Str × V) := [("gain", .ref g)]
noncomputable def dlF (n : Nat) : List (Str × V) := [("many", .int n)]
noncomputable def bkF (g : Addr) (n : Nat) : List (Str × V) := [("gain", .ref g), ("many", .int n)]
noncomputable def j0a(H:Hp)(fs:List (Str×V)):Dt->Prop
 | .gain y=>∃ g,fs=gnF g/\H g=some (.tup (i0a y))
 | .delay n=>fs=dlF n
 | .echo y n t=>∃ g fa,fs=ecF g fa n t (y.den:Int)/\H g=some (.tup (i0a y))/\H fa=some (.tup ((h6s y.num (y.den:Int) t).map V.int))
 | .back y n=>∃ g,fs=bkF g n/\H g=some (.tup (i0a y))
 | _=>False
def IsP(A:Ad)(H:Hp)(o:Addr)(d:Dt):Prop:=∃ dx fs,H o=some (.ins (clsOf A d) dx fs)/\j0a H fs d
def d1v:Sp:=fun vs H Q _=>match vs with
 | [.ref o]=>All (f3w H []) Q ⟨⟩ ⟨⟩
 | _=>False
def IsG (C : Addr) (H : Hp) (o : Addr) (p q : Int) : Prop := ∃ dx gt, H o = some (.ins C dx [("gain", .ref gt)]) ∧ H gt = some (.tup [.int p, .int q])
def f7p(C:Addr):Sp:=fun vs H Q _=>match vs with
 | [.ref o]=>∃ p q,IsG C H o p q/\Q (.int q) H
 | _=>False
def h4k(C:Addr):Sp:=fun vs H Q _=>match vs with
 | [.ref o,.ref st,.ref x,.int _]=>∃ (p q:Int) (xs:List Int),IsG C H o p q/\H x=some (.lst (xs.map V.int))/\xs.length<=100000/\(∀ y∈xs,IntMulOk y p) /\
   (∀ (r ou s2:Addr) (H1:Hp),Same H H1->H r=none->H ou=none->H1 r=some (.tup [.ref ou,.ref s2])->H1 ou=some (.lst ((xs.map (· * p)).map V.int))->Q (.ref r) H1)
 | _=>False
def IsD (C : Addr) (H : Hp) (o : Addr) (n : Nat) : Prop := ∃ dx, H o = some (.ins C dx [("many", .int n)])
def d7p:Sp:=fun vs H Q _=>match vs with
 | [.ref o]=>Q (.int 1) H
 | _=>False
def h4l(C:Addr):Sp:=fun vs H Q _=>match vs with
 | [.ref o,.ref st,.ref x,.int _]=>∃ (n:Nat) (zs xs:List Int),IsD C H o n/\H st=some (.tup (zs.map V.int))/\H x=some (.lst (xs.map V.int))/\zs.length<=100000/\xs.length<=100000 /\
   (∀ (r ou s2:Addr) (H1:Hp),Same H H1->H r=none->H ou=none->H1 r=some (.tup [.ref ou,.ref s2])->H1 ou=some (.lst ((g2t (zs++xs) zs.length n).map V.int))->H1 s2=some (.tup (((zs++xs).drop ((zs++xs).length - n)).map V.int))->Q (.ref r) H1)
 | _=>False
def f7q(C:Addr):Sp:=fun vs H Q _=>match vs with
 | [.ref o]=>∃ dx gt n p q,H o=some (.ins C dx (bkF gt n))/\H gt=some (.tup [.int p,.int q])/\Q (.int q) H
 | _=>False
def h4m(C:Addr):Sp:=fun vs H Q _=>match vs with
 | [.ref o,.ref st,.ref x,.int _]=>∃ dx gt n p q zs xs,H o=some (.ins C dx (bkF gt n))/\H gt=some (.tup [.int p,.int q])/\H st=some (.tup (zs.map V.int))/\H x=some (.lst (xs.map V.int))/\zs.length<=100000/\xs.length<=100000/\(∀ y∈zs,IntMulOk y (-p))/\(∀ y∈xs,IntMulOk y (-p))/\(∀ y∈xs,IntMulOk y q)/\IntMulOk 0 (-p) /\
   (∀ (r ou s2:Addr) (H1:Hp),Same H H1->H r=none->H ou=none->H s2=none->H1 r=some (.tup [.ref ou,.ref s2])->H1 ou=some (.lst ((f2w (xs.map (· * q)) ((g2t (zs++xs) zs.length n).map (· * (-p)))).map V.int))->H1 s2=some (.tup (((zs++xs).drop ((zs++xs).length - n)).map V.int))->Q (.ref r) H1)
 | _=>False
noncomputable def c9v(xs:List Int)(i:Int):Int:=if i < 0 then 0 else xs.getD i.toNat 0
noncomputable def j0b:Dt->List (Int×Nat)
 | .gain y=>[(y.num,0)]
 | .delay n=>[(1,n)]
 | .echo y n t=>(List.range (t+1)).map fun m=>(h6r y.num (y.den:Int) t m,m*n)
 | .back y n=>[((y.den:Int),0),(-y.num,n)]
 | _=>[]
noncomputable def tap(L:List (Int×Nat))(X:Int->Int)(i:Int):Int:=(L.map fun c=>c.1*X (i - (c.2:Int))).sum
noncomputable def outs(d:Dt)(xs ys:List Int):List Int:=(List.range ys.length).map fun i=>tap (j0b d) (c9v (xs++ys)) ((xs.length+i:Nat):Int)
noncomputable def a7r:Dt->Int
 | .gain y=>y.den
 | .echo y _ t=>(y.den:Int) ^ t
 | .back y _=>y.den
 | _=>1
noncomputable def StV(H:Hp)(xs:List Int)(st:V):Dt->Prop
 | .gain _=>∃ p,st=V.ref p
 | .delay n=>∃ p,st=V.ref p/\H p=some (.tup ((xs.drop (xs.length - n)).map V.int))
 | .echo _ n t=>∃ p,st=V.ref p/\H p=some (.tup ((xs.drop (xs.length - n*t)).map V.int))
 | .back _ n=>∃ p,st=V.ref p/\H p=some (.tup ((xs.drop (xs.length - n)).map V.int))
 | _=>False
def f7r(A:Ad)(k:Nat):Sp:=fun vs H Q _=>match vs with
 | [.ref o,st,.ref l,.int _]=>∃ (d:Dt) (xs ys:List Int),d.kd=k/\IsP A H o d/\d.ok/\StV H xs st d/\H l=some (.lst (ys.map V.int))/\xs.length<=40000/\ys.length<=40000/\(∀ y∈xs++ys,intBits y<=100000) /\
   (∀ r ou st' H1,Same H H1->H r=none->H ou=none->H1 r=some (.tup [.ref ou,st'])->H1 ou=some (.lst ((outs d xs ys).map V.int))->StV H1 (xs++ys) st' d->Q (.ref r) H1)
 | _=>False
def g9n(A:Ad)(k:Nat):Sp:=fun vs H Q _=>match vs with
 | [.ref o]=>∃ (d:Dt),d.kd=k/\IsP A H o d/\Q (.int (a7r d)) H
 | _=>False
def j2y:Sp:=fun vs H Q _=>match vs with
 | [.str x]=>∃ y:Rat,x=fW y/\YOk y/\All (f3w H (i0a y)) Q ⟨⟩ ⟨⟩
 | _=>False
def j2z:Sp:=fun vs H Q _=>match vs with
 | [.str x,.int a,.int b]=>∃ n:Nat,sg x=txt (n:Int)/\n < 10 ^ 9/\a<=n/\(n:Int)<=b/\Q (.int n) H
 | _=>False
def j3a:Sp:=fun vs H Q _=>match vs with
 | [.str x]=>∃ n:Nat,x=nW n/\1<=n/\n<=1000/\Q (.int n) H
 | _=>False
def j3b:Sp:=fun vs H Q _=>match vs with
 | [.ref l,.int c]=>∃ xs,H l=some (.lst xs)/\(xs.length:Int)=c/\Q .non H
 | _=>False
def h0k(A:Ad)(k:Nat):Sp:=fun vs H Q _=>match vs with
 | [.ref l]=>∃ d:Dt,d.kd=k/\d.ok/\H l=some (.lst (d.vals.map V.str))/\(∀ o H1,H o=none->Same H H1->IsP A H1 o d->Q (.ref o) H1)
 | _=>False
def h4n(A:Ad):Sp:=fun vs H Q _=>match vs with
 | [.str x]=>∃ d:Dt,d.ok/\d.kd < 4/\x=d.word/\(∀ o H1,H o=none->Same H H1->IsP A H1 o d->Q (.ref o) H1)
 | _=>False
noncomputable def run(ds:List Dt)(xs:List Int):List Int:=ds.foldl (fun r d=>outs d [] r) xs
noncomputable def blk:List Dt->List Int->List Int->List Int
 | [],_,b=>b
 | d :: ds,a,b=>blk ds (outs d [] a) (outs d a b)
noncomputable def a6k(b:Int)(ds:List Dt):Int:=ds.foldl (fun b d=>b*a7r d) b
def g9o(A:Ad)(H:Hp)(os:List Addr)(ds:List Dt):Prop:=os.length=ds.length/\∀ (i:Nat) o d,os[i]? = some o->ds[i]? = some d->IsP A H o d
def Sts(H:Hp)(ds:List Dt)(sts:List V)(xs:List Int):Prop:=sts.length=ds.length/\∀ (i:Nat) st d,sts[i]? = some st->ds[i]? = some d->StV H (run (ds.take i) xs) st d
noncomputable def chF (pl sl : Addr) : List (Str × V) := [("parts", .ref pl), ("states", .ref sl)]
noncomputable def ch1 (pl : V) : List (Str × V) := [("parts", pl)]
def ChS(A:Ad)(H:Hp)(o:Addr)(ds:List Dt)(xs:List Int):Prop:=∃ dx pl sl os sts,H o=some (.ins A.a6t dx (chF pl sl))/\H pl=some (.lst (os.map V.ref))/\H sl=some (.lst sts)/\g9o A H os ds/\Sts H ds sts xs
def Lk(H:Hp)(D:Addr):Prop:=(∀ ts,H D≠some (.tup ts))/\∀ c dx fs,H D=some (.ins c dx fs)->(fs = []\/(∃ pl:V,fs=ch1 pl)\/∃ pl sl,fs=chF pl sl)
def ChX(A:Ad)(H:Hp)(o:Addr)(ds:List Dt)(xs:List Int)(Z:Addr):Prop:=∃ dx pl sl os sts,H o=some (.ins A.a6t dx (chF pl sl))/\H pl=some (.lst (os.map V.ref))/\H sl=some (.lst sts)/\g9o A H os ds/\Sts H ds sts xs/\pl≠Z/\sl≠Z/\o≠Z
def i3d(A:Ad):Sp:=fun vs H Q _=>match vs with
 | [.ref l]=>∃ ds:List Dt,H l=some (.lst (ds.map fun d=>V.str d.word))/\ds.length<=8/\(∀ d∈ds,d.ok/\d.kd < 4)/\(∀ p os H1,H p=none->Same H H1->H1 p=some (.lst (os.map V.ref))->g9o A H1 os ds->Q (.ref p) H1)
 | _=>False
def g4z(A:Ad):Sp:=fun vs H Q _=>match vs with
 | [.ref o,.ref l]=>∃ (dx:Addr) (ds:List Dt),H o=some (.ins A.a6t dx [])/\H l=some (.lst (ds.map fun d=>V.str d.word))/\ds.length<=8/\(∀ d∈ds,d.ok/\d.kd < 4)/\(∀ H1,a2j o H H1->ChS A H1 o ds []->(∀ Z,H Z≠none->Z≠o->ChX A H1 o ds [] Z)->Q .non H1)
 | _=>False
def h4o(A:Ad):Sp:=fun vs H Q _=>match vs with
 | [.ref o,.ref l,.int b]=>∃ (ds:List Dt) (xs ys:List Int),ChS A H o ds xs/\H l=some (.lst (ys.map V.int))/\ds.length<=8/\(∀ d∈ds,d.ok)/\xs.length<=10000/\ys.length<=10000/\intBits b<=8900/\(∀ y∈xs++ys,intBits y<=90000) /\
   (∀ rr lo H1,a2j o H H1->H rr=none->H lo=none->H1 rr=some (.tup [.ref lo,.int (a6k b ds)])->H1 lo=some (.lst ((blk ds xs ys).map V.int))->ChS A H1 o ds (xs++ys)->Q (.ref rr) H1)
 | _=>False
def i3e(A:Ad):Sp:=fun vs H Q _=>match vs with
 | [.ref o]=>∃ (ds:List Dt) (xs:List Int),ChS A H o ds xs/\ds.length<=8/\(∀ d∈ds,d.ok)/\Q (.int (a6k 1 ds)) H
 | _=>False
def j3c:Sp:=fun vs H Q _=>match vs with
 | [.ref p]=>∃ x:Rat,H p=some (.tup (i0a x))/\intBits x.num<=10/\intBits (x.den:Int)<=10/\Q (.str (fW x)) H
 | _=>False
def g2u(A:Ad)(k:Nat):Sp:=fun vs H Q _=>match vs with
 | [.ref o]=>∃ d:Dt,d.kd=k/\IsP A H o d/\d.ok/\(∀ H1,Same H H1->Q (.str d.word) H1)
 | _=>False
def i3f(A:Ad):Sp:=fun vs H Q _=>match vs with
 | [.ref o]=>∃ ds:List Dt,ChS A H o ds []/\ds.length<=8/\(∀ d∈ds,d.ok)/\All (d2o H (ds.map fun d=>V.str d.word)) Q ⟨⟩ ⟨⟩
 | _=>False
def d6s (x : Str) : Prop := x.length ≤ 8 ∧ x ≠ Str.ofString "" ∧ ∀ c ∈ x.cps.toList, 97 ≤ c ∧ c ≤ 122
def f7s:Sp:=fun vs H Q _=>match vs with
 | [.str x]=>d6s x/\(∀ H1,Same H H1->Q (.bl true) H1)
 | _=>False
noncomputable def ptF (t b sd ou : Addr) : List (Str × V) := [("track_names", .ref t), ("bus_names", .ref b), ("told_sends", .ref sd), ("told_outs", .ref ou)]
def Eds(H:Hp)(ps:List Addr)(es:List (Str×Str)):Prop:=ps.length=es.length/\∀ (i:Nat) p e,ps[i]? = some p->es[i]? = some e->∃ lw:Addr,H p=some (.tup [.str e.1,.str e.2,.ref lw])
def i0s(A:Ad)(H:Hp)(o t b sd:Addr)(ts bs:List Str)(es:List (Str×Str)):Prop:=∃ dx ou ps,H o=some (.ins A.a4n dx (ptF t b sd ou))/\H t=some (.lst (ts.map V.str))/\H b=some (.lst (bs.map V.str))/\H sd=some (.lst (ps.map V.ref))/\Eds H ps es/\t≠b/\t≠sd/\b≠sd
def i3g(A:Ad):Sp:=fun vs H Q _=>match vs with
 | [.ref o,.str x]=>∃ t b sd ts bs es,i0s A H o t b sd ts bs es/\d6s x/\x∉ts/\x∉bs/\(∀ H1,Same H H1->Q .non H1)
 | _=>False
def b9l(A:Ad)(H:Hp)(N:Addr->Prop)(o:Addr)(p:Pd):Prop:=∃ dx t b sd ou,H o=some (.ins A.a4n dx (ptF t b sd ou))/\Fl H N t b sd ou p
def j3d(A:Ad):Sp:=fun vs H Q _=>match vs with
 | [.ref o]=>∃ dx,H o=some (.ins A.a4n dx [])/\(∀ H1,a2j o H H1->b9l A H1 (fun a=>H a=none) o ⟨[],[],[],[]⟩->Q .non H1)
 | _=>False
def i3h(A:Ad):Sp:=fun vs H Q _=>match vs with
 | [.ref o,.str x]=>∃ N p,b9l A H N o p/\d6s x/\x∉p.ts/\x∉p.bs/\p.ts.length<=100/\(∀ H1,b8p N H H1->b9l A H1 N o ⟨p.ts++[x],p.bs,p.es,p.os⟩->Q .non H1)
 | _=>False
def i3i(A:Ad):Sp:=fun vs H Q _=>match vs with
 | [.ref o,.str x]=>∃ N p,b9l A H N o p/\d6s x/\x∉p.ts/\x∉p.bs/\p.bs.length<=100/\(∀ H1,b8p N H H1->b9l A H1 N o ⟨p.ts,p.bs++[x],p.es,p.os⟩->Q .non H1)
 | _=>False
def Rch(es:List (Str×Str))(x y:Str):Prop:=∀ S:Str->Prop,S x->(∀ u v,S u->(u,v)∈es->S v)->S y
noncomputable def cnt(es:List (Str×Str))(ks:List Str):Nat:=(es.filter fun e=>decide (e.2∉ks)).length
def h0l(H:Hp)(L:Addr)(kvs:List (Key×V))(ks:List Str):Prop:=kvs.map (·.1)=ks.map kT/\∀ kv∈kvs,∃ (l:Addr) (ss:List Str),kv.2 = .ref l/\l≠L/\H l=some (.lst (ss.map V.str))/\ss.length<=kvs.length
def i3j(A:Ad):Sp:=fun vs H Q _=>match vs with
 | [.ref o,.str x,.str y]=>∃ t b sd ts bs es,i0s A H o t b sd ts bs es/\¬ Rch es x y/\es.length<=100/\PyData.strOk x=true/\(∀ e∈es,PyData.strOk e.2=true)/\All (d2o H []) Q ⟨⟩ ⟨⟩
 | _=>False
def h4p(A:Ad):Sp:=fun vs H Q _=>match vs with
 | [.ref o,.str x,.str y,.ref l]=>∃ (N:Addr->Prop) (p:Pd) (ds:List Dt),b9l A H N o p/\H l=some (.lst (ds.map fun d=>V.str d.word))/\ds.length<=8/\(∀ d∈ds,d.ok/\d.kd < 4)/\(x∈p.ts\/x∈p.bs)/\y∈p.bs/\¬ Rch (prs p.es) y x/\p.es.length<=99/\PyData.strOk y=true/\(∀ e∈p.es,PyData.strOk e.2.1=true)/\(∀ H1,b8p N H H1->b9l A H1 (fun a=>N a\/H a=none) o ⟨p.ts,p.bs,p.es++[(x,y,ds.map Dt.word)],p.os⟩->Q .non H1)
 | _=>False
def f7t(A:Ad):Sp:=fun vs H Q _=>match vs with
 | [.ref o]=>∃ (N:Addr->Prop) (p:Pd),b9l A H N o p/\p.ts.length<=100/\All (d2o H (p.ts.map V.str)) Q ⟨⟩ ⟨⟩
 | _=>False
def h4q(A:Ad):Sp:=fun vs H Q _=>match vs with
 | [.ref o]=>∃ (N:Addr->Prop) (p:Pd),b9l A H N o p/\p.os.length<=100/\(∀ l us H1,H l=none->Same H H1->H1 l=some (.lst us)->RpL H1 (fun a=>H a=none/\a≠l) us (p.os.map dOu)->Q (.ref l) H1)
 | _=>False
def g5a(A:Ad):Sp:=fun vs H Q _=>match vs with
 | [.ref o]=>∃ (N:Addr->Prop) (p:Pd),b9l A H N o p/\p.es.length<=100/\(∀ e∈p.es,e.2.2.length<=100)/\(∀ l us H1,H l=none->Same H H1->H1 l=some (.lst us)->RpL H1 (fun a=>H a=none/\a≠l) us (p.es.map dSd)->Q (.ref l) H1)
 | _=>False
noncomputable def c1i(bs:List Str)(es:List (Str×Str))(pl:List Str)(x:Str):Bool:=decide (x∉pl) && es.all fun e=>!(decide (e.2=x) && (decide (e.1∈bs) && !decide (e.1∈pl)))
noncomputable def c7q(bs:List Str)(es:List (Str×Str)):Nat->List Str
 | 0=>[]
 | k+1=>c7q bs es k++(bs.filter (c1i bs es (c7q bs es k))).head?.toList
def h4r(A:Ad):Sp:=fun vs H Q _=>match vs with
 | [.ref o,.str x,.ref l]=>∃ t b sd ts bs es pl,i0s A H o t b sd ts bs es/\H l=some (.lst (pl.map V.str))/\Q (.bl (c1i bs es pl x)) H
 | _=>False
def i3k(A:Ad):Sp:=fun vs H Q _=>match vs with
 | [.ref o]=>∃ t b sd ts bs es,i0s A H o t b sd ts bs es/\bs.length<=100/\(∀ j,j < bs.length->bs.filter (c1i bs es (c7q bs es j))≠[])/\All (d2o H ((c7q bs es bs.length).map V.str)) Q ⟨⟩ ⟨⟩
 | _=>False
def i3l(es:List (Str×Str)):Prop:=∃ r:Str->Nat,∀ e∈es,r e.1 < r e.2
noncomputable abbrev Ld:=Str×List Dt
noncomputable abbrev Sq:=Str×Str×List Dt
noncomputable def f4q(e:Sq):Sd:=(e.1,e.2.1,e.2.2.map Dt.word)
noncomputable def b7g(es:List Sq)(b:Str):List Ld:=(es.filter fun e=>decide (e.2.1=b)).map fun e=>(e.1,e.2.2)
noncomputable def h4s(bs:List Int):Int:=bs.foldl (fun m b=>(Int.lcm m b:Int)) 1
noncomputable def i8r(es:List Sq)(f:Str->Int)(b:Str):Str->Int:=fun z=>if z=b then h4s ((b7g es b).map fun l=>f l.1*a6k 1 l.2) else f z
noncomputable def c7o(es:List Sq)(ob:List Str):Str->Int:=ob.foldl (i8r es) fun _=>1
noncomputable def Few:Dt->Prop
 | .echo _ _ t=>t<=4
 | _=>True
def h4t(e:Sq):Prop:=e.2.2.length<=2/\∀ d∈e.2.2,d.ok/\d.kd < 4/\Few d
def Lds(A:Ad)(H:Hp)(us:List V)(cs:List Addr)(ls:List Ld):Prop:=us.length=ls.length/\cs.length=ls.length/\∀ (i:Nat) u c l,us[i]? = some u->cs[i]? = some c->ls[i]? = some l->∃ q,u = .ref q/\H q=some (.tup [.str l.1,.ref c])/\ChS A H c l.2 []
def LdX(A:Ad)(H:Hp)(us:List V)(cs:List Addr)(ls:List Ld)(Z:Addr):Prop:=us.length=ls.length/\cs.length=ls.length/\∀ (i:Nat) u c l,us[i]? = some u->cs[i]? = some c->ls[i]? = some l->∃ q,u = .ref q/\H q=some (.tup [.str l.1,.ref c])/\ChX A H c l.2 [] Z
noncomputable def enF (t b L B S : Addr) : List (Str × V) := [("track_names", .ref t), ("bus_order", .ref b), ("leads", .ref L), ("bottoms", .ref B), ("settlers", .ref S)]
def Lea(A:Ad)(H:Hp)(kvs:List (Key×V))(ob:List Str)(es:List Sq)(cc:Str->List Addr):Prop:=(∀ b∈ob,(cc b).Nodup/\∃ q us,b8k kvs (kT b)=some (.ref q)/\H q=some (.lst us)/\Lds A H us (cc b) (b7g es b))/\∀ b∈ob,∀ b'∈ob,∀ c,c∈cc b->c∈cc b'->b=b'
def j3e(A:Ad)(H:Hp)(o:Addr)(ts ob:List Str)(es:List Sq):Prop:=∃ dx t b L B S kl kb cc,H o=some (.ins A.a3v dx (enF t b L B S))/\H t=some (.lst (ts.map V.str))/\H b=some (.lst (ob.map V.str))/\H L=some (.dK kl)/\H B=some (.dK kb)/\H S=some (.dK [])/\(∀ z∈ts++ob,b8k kb (kT z)=some (.int (c7o es ob z)))/\Lea A H kl ob es cc
def f7u:Sp:=fun vs H Q _=>match vs with
 | [.ref p]=>∃ (bs:List Int) (B:Nat),H p=some (.lst (bs.map V.int))/\(∀ b∈bs,1<=b/\intBits b<=B)/\1+bs.length*B<=8900/\Q (.int (h4s bs)) H
 | _=>False
def g5b:Sp:=fun vs H Q _=>match vs with
 | [.ref p,.int B]=>∃ (l:Addr) (ys:List Int) (b:Int),H p=some (.tup [.ref l,.int b])/\H l=some (.lst (ys.map V.int))/\b≠0/\intBits b<=8900/\intBits B<=8900/\(∀ y∈ys,intBits y<=90000)/\ys.length<=10000/\All (d2o H ((ys.map (· * B.fdiv b)).map V.int)) Q ⟨⟩ ⟨⟩
 | _=>False
def h4u(A:Ad):Sp:=fun vs H Q _=>match vs with
 | [.ref o,.str b,.ref l]=>∃ (dx t bo L B S:Addr) (kl kb:List (Key×V)) (f:Str->Int) (us:List V) (es:List Sq) (Bd:Nat),H o=some (.ins A.a3v dx (enF t bo L B S))/\H L=some (.dK kl)/\H B=some (.dK kb)/\L≠B/\H l=some (.lst us)/\RpL H (fun _=>True) us ((es.map f4q).map dSd)/\(∀ e∈es,h4t e)/\es.length<=20/\kl.length<=100/\kb.length<=100/\(∀ e∈es,b8k kb (kT e.1)=some (.int (f e.1))/\1<=f e.1/\intBits (f e.1)<=Bd)/\1+es.length*(Bd+90)<=8900 /\
   (∀ q us' cs H1,(∀ z u,z≠L->z≠B->H z=some u->H1 z=some u)->H1 L=some (.dK (putK kl (kT b) (.ref q)))->H1 B=some (.dK (putK kb (kT b) (.int (h4s (es.map fun e=>f e.1*a6k 1 e.2.2)))))->H q=none->H1 q=some (.lst us')->cs.Nodup->(∀ c∈cs,H c=none)->Lds A H1 us' cs (es.map fun e=>(e.1,e.2.2))->Q .non H1)
 | _=>False
def i3m(A:Ad):Sp:=fun vs H Q _=>match vs with
 | [.ref o,.ref po]=>∃ (dx:Addr) (N:Addr->Prop) (p:Pd) (es:List Sq),H o=some (.ins A.a3v dx [])/\b9l A H N po p/\p.es=es.map f4q/\p.os = []/\(∀ e∈es,h4t e)/\es.length<=6/\p.ts.length<=20/\p.bs.length<=20/\p.bs.Nodup/\(∀ x∈p.bs,x∉p.ts)/\i3l (prs p.es)/\(∀ e∈es,(e.1∈p.ts\/e.1∈p.bs)/\e.2.1∈p.bs)/\(∀ H1,a2j o H H1->j3e A H1 o p.ts (c7q p.bs (prs p.es) p.bs.length) es->Q .non H1)
 | _=>False
noncomputable def f4r(es:List Sq)(l:List Str):Nat:=(l.map fun b=>(b7g es b).length).sum
noncomputable def g5c(H:Hp)(b:Str):V->Bool:=fun v=>match v with
 | .ref a=>(match H a with
  | some (.tup [_,.str y,_])=>decide (y=b)
  | _=>false)
 | _=>false
def h4v(xs:List Int):Prop:=xs.length<=1000/\∀ x∈xs,-1000000000000<=x/\x<=1000000000000
def i3n:Sp:=fun vs H Q _=>match vs with
 | [.ref l]=>∃ xs:List Int,H l=some (.lst (xs.map V.int))/\h4v xs/\(∀ H1,Same H H1->Q (.bl true) H1)
 | _=>False
def Fed(H:Hp)(kvs:List (Key×V))(ts:List Str)(f:Str->List Int)(n:Nat):Prop:=∀ z∈ts,∃ l,b8k kvs (kT z)=some (.ref l)/\H l=some (.lst ((f z).map V.int))/\h4v (f z)/\(f z).length=n
def i3o(A:Ad):Sp:=fun vs H Q _=>match vs with
 | [.ref o,.ref d]=>∃ (ts ob:List Str) (es:List Sq) (kvs:List (Key×V)) (f:Str->List Int) (n:Nat),j3e A H o ts ob es/\H d=some (.dK kvs)/\kvs.length=ts.length/\ts.length<=20/\Fed H kvs ts f n/\(∀ H1,Same H H1->Q .non H1)
 | _=>False
noncomputable def c7l(ls:List Ld)(F:Str->List Int)(g:Str->Int)(B:Int)(n:Nat):List Int:=ls.foldl (fun acc l=>f2w acc ((blk l.2 [] (F l.1)).map (· * B.fdiv (a6k (g l.1) l.2)))) (List.replicate n 0)
noncomputable def flS(es:List Sq)(g:Str->Int)(n:Nat)(F:Str->List Int)(b:Str):Str->List Int:=fun z=>if z=b then c7l (b7g es b) F g (g b) n else F z
noncomputable def flw(es:List Sq)(g:Str->Int)(n:Nat)(F:Str->List Int)(ob:List Str):Str->List Int:=ob.foldl (flS es g n) F
noncomputable def shf(W:List (Int×Nat×Nat))(X:Nat->Int->Int)(i:Int):Int:=(W.map fun w=>w.1*X w.2.1 (i - (w.2.2:Int))).sum
def Sup(n:Nat)(W:List (Int×Nat×Nat))(G:Nat->List Int)(F:List Int):Prop:=F.length=n/\(∀ k,(G k).length=n)/\∀ i:Int,i < (n:Int)->c9v F i=shf W (fun k=>c9v (G k)) i
noncomputable def d2g(n:Nat)(f:Nat->Int):Int:=((List.range n).map f).sum
noncomputable def dlt(n:Nat):List Int:=(1 :: List.replicate n 0).take n
noncomputable def imR(nt n k:Nat):List (List Int):=(List.range nt).map fun j=>if j=k then dlt n else List.replicate n 0
noncomputable def fdF(ts:List Str)(rows:List (List Int))(n:Nat)(z:Str):List Int:=rows.getD (ts.idxOf z) (List.replicate n 0)
noncomputable def Wt(rows:List (List Int))(nt n:Nat):List (Int×Nat×Nat):=(List.range nt).flatMap fun k=>(List.range n).map fun s=>((rows.getD k []).getD s 0,k,s)
def ChI(A:Ad)(H:Hp)(cs:List Addr):Prop:=∀ c∈cs,∃ dx pl sl,H c=some (.ins A.a6t dx (chF pl sl))
def Out(cs:List Addr)(H H':Hp):Prop:=∀ z u,z∉cs->H z=some u->H' z=some u
def h4w(A:Ad):Sp:=fun vs H Q _=>match vs with
 | [.ref o,.str b,.ref d,.int n]=>∃ (dx t bo L B S:Addr) (kl kb kf:List (Key×V)) (q:Addr) (us:List V) (cs:List Addr) (ls:List Ld) (g:Str->Int) (F:Str->List Int) (bt:Int) (m:Nat),n=(m:Int)/\H o=some (.ins A.a3v dx (enF t bo L B S))/\H L=some (.dK kl)/\H B=some (.dK kb)/\H d=some (.dK kf)/\b8k kb (kT b)=some (.int bt)/\b8k kl (kT b)=some (.ref q)/\H q=some (.lst us)/\Lds A H us cs ls/\cs.Nodup/\m<=1000/\intBits bt<=8900/\(∀ l∈ls,l.2.length<=2/\(∀ d∈l.2,d.ok)/\(F l.1).length=m/\(∀ y∈F l.1,intBits y<=80000)/\1<=g l.1/\intBits (g l.1)<=8000/\∃ pr lo,b8k kf (kT l.1)=some (.ref pr)/\H pr=some (.tup [.ref lo,.int (g l.1)])/\H lo=some (.lst ((F l.1).map V.int))) /\
   (∀ rr lo H1,Out cs H H1->H rr=none->H lo=none->H1 rr=some (.tup [.ref lo,.int bt])->H1 lo=some (.lst ((c7l ls F g bt m).map V.int))->Q (.ref rr) H1)
 | _=>False
def Flo(R:Addr->Prop)(H:Hp)(kf:List (Key×V))(zs:List Str)(g:Str->Int)(F:Str->List Int):Prop:=∀ z∈zs,∃ pr lo,b8k kf (kT z)=some (.ref pr)/\H pr=some (.tup [.ref lo,.int (g z)])/\H lo=some (.lst ((F z).map V.int))/\R lo
def NoC(A:Ad)(u:HO):Prop:=∀ dx pl sl,u≠.ins A.a6t dx (chF pl sl)
def c1n(A:Ad)(H H':Hp):Prop:=∀ z u,NoC A u->H z=some u->H' z=some u
def FrN(A:Ad)(H:Hp)(lo:Addr):Prop:=∀ u,NoC A u->H lo≠some u
def h4x(A:Ad):Sp:=fun vs H Q _=>match vs with
 | [.ref o,.ref d]=>∃ (ts ob:List Str) (es:List Sq) (kvs:List (Key×V)) (f:Str->List Int) (n:Nat),j3e A H o ts ob es/\H d=some (.dK kvs)/\kvs.length=ts.length/\ts.length<=20/\ts≠[]/\(∀ s∈ts,PyData.strOk s=true)/\n<=1000/\Fed H kvs ts f n/\(∀ e∈es,h4t e)/\es.length<=6/\ob.length<=8/\ob.Nodup/\(∀ z∈ts,z∉ob)/\(∀ (i:Nat) b,ob[i]? = some b->∀ l∈b7g es b,l.1∈ts++ob.take i) /\
   (∀ rr d1 d2 kf H1,c1n A H H1->H1 rr=some (.tup [.ref d1,.ref d2])->H1 d1=some (.dK kf)->Flo (FrN A H) H1 kf (ts++ob) (c7o es ob) (flw es (c7o es ob) n f ob)->Q (.ref rr) H1)
 | _=>False
def h4y(K:PySem.W.Frag):Sp:=fun vs H Q _=>match vs with | [.ref a,.int k]=>∃ ns:List Int,SqL K H a (ns.map V.int)/\0<=k/\Q (.int (ns.getD k.toNat 0)) H | _=>False
def h4z:Sp:=fun vs H Q _=>match vs with | [.int a,.int b]=>0<=a/\0<=b/\Q (.int (Int.gcd a b)) H | _=>False
def g5d:Sp:=fun vs H Q _=>match vs with
 | [.int m]=>(∀ (y:Rat),YOk y->Q (.str (fW y)) H)
 | _=>False
def g5e:Sp:=fun vs H Q _=>match vs with
 | [.int c]=>(∀ (d:Dt) H1,d.ok->d.kd < 4->Few d->Same H H1->Q (.str d.word) H1)
 | _=>False
def Gd(ts bu bs:List Str)(es:List Sq):Prop:=(∀ z,z∈bs ↔ z∈bu)/\bs.Nodup/\bs.length=bu.length/\es.length<=6/\∀ e∈es,h4t e/\(e.1∈ts\/e.1∈bs)/\e.2.1∈bs/\(ts++bu).idxOf e.1 < (ts++bu).idxOf e.2.1
def Nms(ts bu:List Str):Prop:=(∀ z∈ts++bu,d6s z)/\(ts++bu).Nodup/\1<=ts.length/\ts.length<=3/\1<=bu.length/\bu.length<=4
def f7v(A:Ad)(K:PySem.W.Frag):Sp:=fun vs H Q _=>match vs with
 | [.ref sc,.ref nl,.int nt]=>∃ (ns:List Int) (ts bu:List Str),nt=(ts.length:Int)/\SqL K H sc (ns.map V.int)/\(∀ k,intBits (ns.getD k 0)<=1100000)/\H nl=some (.lst ((ts++bu).map V.str))/\Nms ts bu/\(∀ o bs es H1,Same H H1->b9l A H1 (fun a=>H a=none) o ⟨ts,bs,es.map f4q,[]⟩->Gd ts bu bs es->Q (.ref o) H1)
 | _=>False
noncomputable def obL(bs:List Str)(es:List Sq):List Str:=c7q bs (prs (es.map f4q)) bs.length
def Rws(H:Hp)(ras:List Addr)(rows:List (List Int)):Prop:=ras.length=rows.length/\∀ (i:Nat) a r,ras[i]? = some a->rows[i]? = some r->H a=some (.lst (r.map V.int))
def i3p(A:Ad):Sp:=fun vs H Q _=>match vs with
 | [.ref po,.ref nl,.ref rl]=>∃ (ts bu bs:List Str) (es:List Sq) (N:Addr->Prop) (rows:List (List Int)) (ras:List Addr) (n:Nat),b9l A H N po ⟨ts,bs,es.map f4q,[]⟩/\Gd ts bu bs es/\Nms ts bu/\H nl=some (.lst ((ts++bu).map V.str))/\H rl=some (.lst (ras.map V.ref))/\Rws H ras rows/\rows.length=ts.length/\(∀ r∈rows,h4v r/\r.length=n)/\n<=1000 /\
   (∀ d kf H1,c1n A H H1->H1 d=some (.dK kf)->Flo (FrN A H) H1 kf (ts++obL bs es) (c7o es (obL bs es)) (flw es (c7o es (obL bs es)) n (fdF ts rows n) (obL bs es))->Q (.ref d) H1)
 | _=>False
def Ans(R:Addr->Prop)(H:Hp)(das:List Addr)(ts ob:List Str)(es:List Sq)(n:Nat):Prop:=∀ (k:Nat) d,das[k]? = some d->∃ kf,H d=some (.dK kf)/\Flo R H kf (ts++ob) (c7o es ob) (flw es (c7o es ob) n (fdF ts (imR ts.length n k) n) ob)
def h5a(A:Ad):Sp:=fun vs H Q _=>match vs with
 | [.ref po,.ref nl,.int nt,.int sz]=>∃ (ts bu bs:List Str) (es:List Sq) (N:Addr->Prop) (n:Nat),nt=(ts.length:Int)/\sz=(n:Int)/\b9l A H N po ⟨ts,bs,es.map f4q,[]⟩/\Gd ts bu bs es/\Nms ts bu/\H nl=some (.lst ((ts++bu).map V.str))/\n<=100 /\
   (∀ al das H1,c1n A H H1->H1 al=some (.lst (das.map V.ref))->das.length=ts.length->Ans (fun _=>True) H1 das ts (obL bs es) es n->Q (.ref al) H1)
 | _=>False
def Prs(H:Hp)(pas:List Addr)(G:List (List Int))(B:Int):Prop:=pas.length=G.length/\∀ (k:Nat) p g,pas[k]? = some p->G[k]? = some g->∃ l,H p=some (.tup [.ref l,.int B])/\H l=some (.lst (g.map V.int))
def j3f:Sp:=fun vs H Q _=>match vs with
 | [.ref fp,.ref al,.ref rl,.int sz]=>∃ (B:Int) (F:List Int) (G rows:List (List Int)) (fl:Addr) (pas ras:List Addr) (n:Nat),sz=(n:Int)/\H fp=some (.tup [.ref fl,.int B])/\H fl=some (.lst (F.map V.int))/\H al=some (.lst (pas.map V.ref))/\Prs H pas G B/\H rl=some (.lst (ras.map V.ref))/\Rws H ras rows/\G.length=rows.length/\F.length=n/\(∀ g∈G,g.length=n/\∀ y∈g,intBits y<=60000)/\(∀ r∈rows,r.length=n/\∀ y∈r,intBits y<=50)/\(∀ y∈F,intBits y<=60000)/\1<=B/\intBits B<=6400/\1<=rows.length/\rows.length<=3/\n<=100 /\
   (∀ t,t < n->F.getD t 0=d2g rows.length fun k=>d2g (t+1) fun s=>(rows.getD k []).getD s 0*(G.getD k []).getD (t - s) 0)/\Q (.bl true) H
 | _=>False
noncomputable def nmT : List Str := [Str.ofString "dry", Str.ofString "wet", Str.ofString "x"]
noncomputable def nmB : List Str := [Str.ofString "mix", Str.ofString "left", Str.ofString "y", Str.ofString "room"]
local macro_rules | `(tactic| walk_at $s:str)=>do
 unless s.getString == "rd" || s.getString == "rd*" do Lean.Macro.throwUnsupported
 let mut ls:Array (Lean.TSyntax [`Lean.Parser.Tactic.simpStar,`Lean.Parser.Tactic.simpErase,`Lean.Parser.Tactic.simpLemma]) := #[]
 if s.getString == "rd*" then
  let y <- `(Lean.Parser.Tactic.simpStar| *)
  ls:=ls.push ⟨y.raw⟩
 for n in "h8i i2w i2x h4f i2y g4u h4g i3a i3b g4v f0z h4h i3c g4w f7m f7n h4j g4x f7o g4y d1v f7p h4k d7p h4l f7q h4m f7r g9n j2y j2z j3a j3b h0k h4n i3d g4z h4o i3e j3c g2u i3f f7s i3g j3d i3h i3i i3j h4p f7t h4q g5a h4r i3k f7u g5b h4u i3m i3n i3o h4w h4x h4y h4z g5d g5e f7v i3p h5a j3f j1w iStr rSlA j1x j1y tFmt j1z i7e j2a i7f j4q tSl3R rSlR i8e h8b i8g i8h i8c i8d i8f j2r j2q iTupF rSlG j2f i7t gSub j2d i7v rIxD rNiD j2p j2h j4q i7p tSl3 rSl3 i8k j2s i1w j2b i9x b2m i0c rInF tAugF i7m rIsI j2c i7n i0j i7o tSeq j0m c3g tC i1a tOp tUn tIfS tRet tRetN j0h tCB j0u g2z j1c j1d i6a tAnd tOr tNot tBF i6w tOrF i6x j0i tIf j1b i1s h9u h9v j4h h9w tSl i1j h9x rIF i4r rUF j1e j1f j1g j4b rIxM rSlM j1h j1q j1r j1p rIsT rAbs rMin rMax i6y rSumF i7b tBMF j1v j1u i7c j4i j4j j4k j4l i5l i7d j4m j4o j4p hAs _root_.L2.start".splitOn " " do
  let i:=Lean.mkIdent n.toName
  let y <- `(Lean.Parser.Tactic.simpLemma| ↓$i:ident)
  ls:=ls.push ⟨y.raw⟩
 for n in "noxK Bool.bne_false Bool.bne_true noxK noxK asNew lookup_same i0d i7h i4s i9y List.lookup_nil nq0 nq1 nq2 nq3 nq4 nq5 nq6 nq7 nq8 nq9 nq10 nq11 nq12 nq13 nq14 nq15 nq16 nq17 nq18 nq19 nq20 nq21 nq22 nq23 nq24 nq25 nq26 nq27 nq28 nq29 nq30 nq31 nq32 nq33 nq34 nq35 nq36 nq37 nq38 nq39 nq40 nq41 nq42 nq43 nq44 nq45 nq46 nq47 nq48 nq49 nq50 nq51 nq52 nq53 nq54 nq55 nq56 nq57 nq58 nq59 nq60 nq61 nq62 nq63 nq64 nq65 nq66 nq67 nq68 nq69 nq70 nq71 nq72 nq73 nq74 nq75 nq76 nq77 nq78 nq79 nq80 nq81 nq82 nq83 nq84 nq85 nq86 nq87 nq88 nq89 nq90 nq91 nq92 nq93 nq94 nq95 nq96 nq97 nq98 nq99 nq100 nq101 nq102 nq103 nq104 nq105 nq106 nq107 nq108 nq109 nq110 nq111 nq112 nq113 nq114 nq115 nq116 nq117 nq118 nq119 nq120 nq121 nq122 nq123 nq124 nq125 nq126 nq127 nq128 nq129 nq130 nq131 nq132 nq133 nq134 nq135 nq136 nq137 nq138 nq139 nq140 nq141 nq142 nq143 nq144 nq145 nq146 nq147 nq148 nq149 nq150 nq151 nq152 nq153 nq154 nq155 nq156 nq157 nq158 nq159 nq160 nq161 j4c j4d j4e j4f j4g h9q Ty.nm j3u j4a i6s i6t i6u i6v h9s i1t List.map_cons List.map_nil List.length_cons List.length_nil List.length_map List.replicate List.cons_append List.nil_append List.append_nil List.getElem?_cons_zero List.getElem?_cons_succ List.set_cons_zero List.set_cons_succ Option.some.injEq exists_eq_left' exists_eq_left exists_and_left V.int.injEq V.bl.injEq V.str.injEq V.ref.injEq V.ty.injEq Value.ref.injEq List.cons.injEq HO.lst.injEq HO.tup.injEq Int.zero_add List.length_append and_true true_and j1i j1j j1k j1l j1m two_line if_true reduceCtorEq if_false Bool.false_eq_true decide_eq_true_eq decide_eq_false_iff_not decide_true decide_false Bool.or_true Bool.true_or Bool.or_false Bool.false_or Bool.and_true Bool.true_and Bool.and_false Bool.false_and or_false false_or Nat.zero_add Nat.reduceAdd Nat.reduceSub exists_const false_and and_false Bool.not_true Bool.not_false Bool.not_eq_true' ne_eq not_true_eq_false not_false_eq_true Int.reduceEq Int.reduceNe Int.reduceLT Int.reduceLE Int.reducePow Int.reduceMul Int.reduceAdd Int.reduceSub Int.reduceNeg Int.reduceToNat Nat.reducePow Nat.reduceLT Nat.reduceLeDiff".splitOn " " do
  let i:=Lean.mkIdent n.toName
  let y <- `(Lean.Parser.Tactic.simpLemma| $i:ident)
  ls:=ls.push ⟨y.raw⟩
 `(tactic| simp (config:={ maxSteps:=1000000,dsimp:=false }) only [$ls,*])
theorem g7h{l r:Int}(hl:0<=l)(hr:0 < r):Int.gcd r (l.fmod r)=Int.gcd l r:=by
 rw [Int.fmod_eq_emod_of_nonneg _ (by omega)]
 obtain⟨x,rfl⟩:=Int.eq_ofNat_of_zero_le hl
 obtain⟨y,rfl⟩:=Int.eq_ofNat_of_zero_le (by omega:0<=r)
 rw [<- Int.natCast_emod,Int.gcd_natCast_natCast,Int.gcd_natCast_natCast,Nat.gcd_comm x y,Nat.gcd_rec y x,Nat.gcd_comm]
theorem h5b{l r:Int}(hl:0<=l)(hr:0 < r):0<=l.fmod r/\l.fmod r < r:=by
 rw [Int.fmod_eq_emod_of_nonneg _ (by omega)]
 exact⟨Int.emod_nonneg _ (by omega),Int.emod_lt_of_pos _ hr⟩
theorem c1j(a:Int){b:Int}(hb:0 < b):0<=a.fmod b/\a.fmod b < b:=by
 rw [Int.fmod_eq_emod_of_nonneg _ (by omega)]
 exact⟨Int.emod_nonneg _ (by omega),Int.emod_lt_of_pos _ hb⟩
theorem h5c(a b:Int):Int.gcd (a.natAbs:Int) (b.natAbs:Int)=Int.gcd a b:=by
 rw [Int.gcd_natCast_natCast]; rfl
theorem gcd_zero{l:Int}(hl:0<=l):((Int.gcd l 0:Nat):Int)=l:=by
 rw [Int.gcd_zero_right]; omega
theorem i8s(a b:Int):(a.natAbs:Int).fdiv (Int.gcd a b:Int)*(b.natAbs:Int)=(Int.lcm a b:Int):=by
 rw [Int.fdiv_eq_ediv_of_nonneg _ (Int.natCast_nonneg _),<- Int.natCast_ediv,<- Int.natCast_mul]
 congr 1
 show a.natAbs / Nat.gcd a.natAbs b.natAbs*b.natAbs=Nat.lcm a.natAbs b.natAbs
 unfold Nat.lcm
 exact Nat.div_mul_right_comm (Nat.gcd_dvd_left _ _) _
theorem lcm_zero{a b:Int}(h:a=0\/b=0):Int.lcm a b=0:=by
 rcases h with rfl | rfl
 ·exact Int.lcm_zero_left _
 ·exact Int.lcm_zero_right _
theorem g7i{a b:Int}{n:Nat}(h:a≠0)(ha:intBits a<=n):intBits (Int.gcd a b:Int)<=n:=by
 refine intBits_le_of_natAbs ?_ ha
 rw [Int.natAbs_natCast]
 exact Nat.le_of_dvd (by omega) (Nat.gcd_dvd_left _ _)
theorem c6n{a g:Int}(hg:0 < g)(h:g∣a):(a.fdiv g).natAbs=a.natAbs / g.natAbs:=by
 rw [Int.fdiv_eq_ediv_of_nonneg _ (by omega)]
 obtain⟨k,rfl⟩:=h
 rw [Int.mul_ediv_cancel_left _ (by omega),Int.natAbs_mul,Nat.mul_div_cancel_left _ (by omega)]
theorem h8j{a b:Int}(h:¬ (a=0/\b=0)):((Int.gcd (a.fdiv (Int.gcd a b:Int)) (b.fdiv (Int.gcd a b:Int)):Nat):Int)=1:=by
 have hp:0 < Int.gcd a b:=by
  rw [Int.gcd_pos_iff]
  omega
 have e:Int.gcd (a.fdiv (Int.gcd a b:Int)) (b.fdiv (Int.gcd a b:Int))=1:=by
  show Nat.gcd _ _=1
  rw [c6n (by omega) (Int.gcd_dvd_left a b),c6n (by omega) (Int.gcd_dvd_right a b),Int.natAbs_natCast]
  exact Nat.coprime_div_gcd_div_gcd hp
 rw [e]
 rfl
theorem i8t{t b:Int}(hb:b≠0):t.fdiv (if b < 0 then -(Int.gcd t b:Int) else (Int.gcd t b:Int))=(Rat.divInt t b).num:=by
 rw [Rat.num_divInt,Int.gcd_comm b t]
 have hp:0 < Int.gcd t b:=Int.gcd_pos_of_ne_zero_right t hb
 obtain⟨k,hk⟩:(Int.gcd t b:Int)∣t:=Int.gcd_dvd_left t b
 generalize hg:(Int.gcd t b:Int)=g at *
 have hg0:0 < g:=by omega
 by_cases h:b < 0
 ·rw [if_pos h,Int.sign_eq_neg_one_of_neg h,hk]
  rw [show g*k=(-g)*(-k) by grind,Int.mul_fdiv_cancel_left _ (by omega),show -1*(-g * -k)=g*(-k) by grind,Int.mul_ediv_cancel_left _ (by omega)]
 ·rw [if_neg h,Int.sign_eq_one_of_pos (by omega),hk,Int.mul_fdiv_cancel_left _ (by omega),Int.one_mul,Int.mul_ediv_cancel_left _ (by omega)]
theorem i8u{t b:Int}(hb:b≠0):b.fdiv (if b < 0 then -(Int.gcd t b:Int) else (Int.gcd t b:Int))=((Rat.divInt t b).den:Int):=by
 rw [Rat.den_divInt,if_neg hb,Int.gcd_comm b t]
 have hp:0 < Int.gcd t b:=Int.gcd_pos_of_ne_zero_right t hb
 obtain⟨k,hk⟩:(Int.gcd t b:Int)∣b:=Int.gcd_dvd_right t b
 rw [Int.natCast_ediv]
 generalize hg:(Int.gcd t b:Int)=g at *
 have hg0:0 < g:=by omega
 by_cases h:b < 0
 ·have e:((b.natAbs:Nat):Int) = -b:=by omega
  rw [if_pos h,e,hk,show g*k=(-g)*(-k) by grind,Int.mul_fdiv_cancel_left _ (by omega),show -(-g * -k)=g*(-k) by grind,Int.mul_ediv_cancel_left _ (by omega)]
 ·have e:((b.natAbs:Nat):Int)=b:=by omega
  rw [if_neg h,e,hk,Int.mul_fdiv_cancel_left _ (by omega),Int.mul_ediv_cancel_left _ (by omega)]
theorem f4s (T : Tx K mg A) : a1q P A.wd K mg base CX0 1 A.b7y A.b5m ["one", "other"] h8i := by
 refine T.c3t.ok b9o (fun vs H Q E h=>?_) (fun cdv A' outer s H vs Q E hr h=>?_)
 ·obtain⟨_,_,rfl,_⟩:=f2m (by unfold h8i at h; exact h)
  rfl
 ·obtain⟨a,b,rfl,q⟩:=f2m (by unfold h8i at h; exact h)
  have q:Q (.int (Int.gcd a b)) H:=q
  have hu:=hr.units
  refine⟨_,(a0h (a0s (i:=2) b9o.nd rfl (Or.inl rfl) (a1g b9w (by rfl) T.g4t boot_abs (a0g (pvF 0) a0i)))
   (a0h (a0s (i:=3) b9o.nd rfl (Or.inl rfl) (a1g b9w (by rfl) T.g4t boot_abs (a0g (pvF 1) a0i)))
   (a0h (d2l PassesOwn.never (a1r (c2z hu) (pvF 3) a0k (a2s _))
   (a0h (a0s (i:=4) b9o.nd rfl (Or.inl rfl) (a0w b1j (pvF 2) (pvF 3)))
   (a0h (a0s (i:=2) b9o.nd rfl (Or.inl rfl) (pvF 3))
   (a0j (a0s (i:=3) b9o.nd rfl (Or.inl rfl) (pvF 4))))))
   (a0j (a1h (pvF 2)))))),?_⟩
  walk_at "rd"
  refine d2m (fun m σ H1=>∃ l r z,σ = [some (.int a),some (.int b),some (.int l),some (.int r),z]/\H1=H/\0<=l/\0<=r/\m=r.toNat/\Int.gcd l r=Int.gcd a b) _
   ⟨_,_,_,rfl,rfl,by omega,by omega,rfl,h5c a b⟩ ?_
  rintro m σ H1 ⟨l,r,z,rfl,rfl,hl,hr',rfl,hg⟩
  walk_at "rd"
  split
  ·rename_i h
   have hp:0 < r:=by omega
   have f:=h5b hl hp
   exact⟨h,_,(by omega:(l.fmod r).toNat < r.toNat),_,_,_,⟨rfl,rfl,rfl⟩,hr',f.1,rfl,(g7h hl hp).trans hg⟩
  ·rename_i h
   obtain rfl:r=0:=by omega
   rw [<- hg,gcd_zero hl] at q
   exact q
theorem g5f (T : Tx K mg A) : a1q P A.wd K mg base CX0 2 A.b5n A.b5o ["one", "other"] i2w := by
 have f1g : a1q P A.wd K mg base CX0 1 A.b7y A.b5m ["one", "other"] h8i := f4s T
 refine T.c3u.ok g3t (fun vs H Q E h=>?_) (fun cdv A' outer s H vs Q E hr h=>?_)
 ·obtain⟨_,_,rfl,_⟩:=f2m (by unfold i2w at h; exact h)
  rfl
 ·obtain⟨a,b,rfl,⟨ha,hb,q⟩⟩:=f2m (by unfold i2w at h; exact h)
  have hu:=hr.units
  have d4u:a2p 1 _:=hr.mono (by decide)
  refine⟨_,(a0h (a6n (pw_or (a1r (c2y hu) (pvF 0) a0k (a2s _)) (pw_or1 (a1r (c2y hu) (pvF 1) a0k (a2s _)))).pt
   (a0j (a1h a0k))
   a2h)
   (a0j (a1h (a0w a3w (a0w a8t (a1g b9w (by rfl) T.g4t boot_abs (a0g (pvF 0) a0i)) (a0v f1g d4u (by rfl) T.g1e T.c3t.kp T.g1d .nil a1j (a0g (pvF 0) (a0g (pvF 1) a0i)))) (a1g b9w (by rfl) T.g4t boot_abs (a0g (pvF 1) a0i)))))),?_⟩
  walk_at "rd"
  split
  ·rename_i h
   rw [lcm_zero h] at q
   exact q
  ·rename_i h
   simp only [not_or] at h
   have hg:=g7i (b:=b) h.1 ha
   have hn:(Int.gcd a b:Int)≠0:=by
    have:=Int.gcd_pos_of_ne_zero_left b h.1
    omega
   refine⟨⟨hn,Nat.le_trans hg (by decide)⟩,?_,?_⟩
   ·exact IntMulOk.of_le (intBits_fdiv_le (intBits_natAbs_le ha)) (intBits_natAbs_le hb) (by decide)
   ·rw [i8s]
    exact q
theorem f1h (T : Tx K mg A) : a1q P A.wd K mg base CX0 1 A.b5i A.b5j ["value"] i2x := by
 refine T.b6u.ok g3r (fun vs H Q E h=>?_) (fun cdv A' outer s H vs Q E hr h=>?_)
 ·obtain⟨_,rfl,_⟩:=i4v (by unfold i2x at h; exact h)
  rfl
 ·obtain⟨i,rfl,q⟩:=i4v (by unfold i2x at h; exact h)
  have hu:=hr.units
  refine ⟨_, (a0j (a1h (g3h (a1g (c1p .int) (by rfl) T.a6w boot_isinstance (a0g (pvF 0) (a0g (c7r (v := .ty "int") (u := .type "int") (by rfl) T.h4b rfl rfl) a0i))) (h0s (i1u (a1g (c1p .bl) (by rfl) T.a6w boot_isinstance (a0g (pvF 0) (a0g (c7r (v := .ty "bool") (u := .type "bool") (by rfl) T.i8p rfl rfl) a0i)))))))), ?_⟩
  walk_at "rd"
  exact q
theorem g5g (T : Tx K mg A) : a1q P A.wd K mg base CX0 2 A.b5p A.b5q ["top", "bottom"] h4f := by
 have d0r:a1q P A.wd K mg base CX0 1 _ _ _ _:=f1h T
 have f1g:a1q P A.wd K mg base CX0 1 _ _ _ _:=f4s T
 refine T.c3v.ok d1k (fun vs H Q E h=>?_) (fun cdv A' outer s H vs Q E hr h=>?_)
 ·obtain⟨_,_,rfl,_⟩:=f2m (by unfold h4f at h; exact h)
  rfl
 ·obtain⟨t,b,rfl,⟨hb,h1,h2,k⟩⟩:=f2m (by unfold h4f at h; exact h)
  have hu:=hr.units
  have c6o:a2p 1 _:=hr.mono (by decide)
  have d4u:a2p 1 _:=hr.mono (by decide)
  refine⟨_,(a0h (a6n (pw_or (c6z (b1u (a0v d0r c6o (by rfl) T.d4t T.b6u.kp T.d4s .nil a1j (a0g (pvF 0) a0i)))) (pw_or1 (c6z (b1u (a0v d0r c6o (by rfl) T.d4t T.b6u.kp T.d4s .nil a1j (a0g (pvF 1) a0i)))))).pt
   (a0j a2w)
   a2h)
   (a0h (a6n (a1r (c2y hu) (pvF 1) a0k (a2s _))
   (a0j a2w)
   a2h)
   (a0h (a0s (i:=2) d1k.nd rfl (Or.inl rfl) (a0v f1g d4u (by rfl) T.g1e T.c3t.kp T.g1d .nil a1j (a0g (pvF 0) (a0g (pvF 1) a0i))))
   (b1i (a6n (a1r of_lt (pvF 1) a0k (a2s _))
   (a0j (a0s (i:=2) d1k.nd rfl (Or.inl rfl) (i5s h9t (pvF 2))))
   a2h)
   (a0j (a1h (b3w (a0g (a0w a8t (pvF 0) (pvF 2)) (a0g (a0w a8t (pvF 1) (pvF 2)) a0i))))))))),?_⟩
  walk_at "rd"
  rw [if_neg hb]
  refine⟨fun σ' H'=>σ' = [some (.int t),some (.int b),some (.int (if b < 0 then -(Int.gcd t b:Int) else (Int.gcd t b:Int)))]/\H'=H,?_,?_⟩
  ·walk_at "rd"
   split
   ·rfl
   ·rfl
  ·rintro σ' H' ⟨rfl,rfl⟩
   have hg:intBits (Int.gcd t b:Int)<=4000:=by
    rw [Int.gcd_comm]
    exact g7i hb h2
   have hp:0 < Int.gcd t b:=Int.gcd_pos_of_ne_zero_right t hb
   have hc:CFd t (if b < 0 then -(Int.gcd t b:Int) else (Int.gcd t b:Int)):=by
    split
    ·exact⟨by omega,Nat.le_trans (intBits_neg_le hg) (by decide)⟩
    ·exact⟨by omega,Nat.le_trans hg (by decide)⟩
   walk_at "rd"
   refine⟨hc,hc,fun p H1 n1 S1 h1=>k _ _ ⟨p,rfl,n1,S1,?_⟩⟩
   rw [h1,i8t hb,i8u hb]
   rfl
theorem g1m{n:Nat}(h:n < 10 ^ 9):n.log2 < 1920:=by
 rcases Nat.eq_zero_or_pos n with z | z
 ·rw [z]; decide
 ·rw [Nat.log2_lt (by omega)]
  exact Nat.lt_of_lt_of_le h (Nat.le_trans (by decide:10 ^ 9<=2 ^ 30) (Nat.pow_le_pow_right (by decide) (by decide)))
theorem f4t{t:Int}(h:t.natAbs < 10 ^ 9):intBits t<=4000:=by
 refine Nat.le_trans (intBits_le_iff.mpr (Nat.lt_of_lt_of_le h (by decide:10 ^ 9<=2 ^ 30))) (by decide)
theorem f4u (T : Tx K mg A) : a1q P A.wd K mg base CX0 1 A.a9l A.b0h ["text"] i2y := by
 refine T.b3u.ok d3i (fun vs H Q E h=>?_) (fun cdv A' outer s H vs Q E hr h=>?_)
 ·obtain⟨_,rfl,_⟩:=g7f (by unfold i2y at h; exact h)
  rfl
 ·obtain⟨x,rfl,q⟩:=g7f (by unfold i2y at h; exact h)
  have q:Q (.bl (h2q (sg x))) H:=q
  have hu:=hr.units
  refine⟨_,(a0h (a3n PassesOwn.never rfl (i0b (pvF 0)) (a2o (i:=1) d3i.nd rfl (Or.inl rfl))
   (a0j (a6n (a1r c7w (pvF 1) (a9i (v := .str "0123456789") (by rfl) T.g9k T.d4o) (by rfl))
   (a0j (a1h f2l))
   a2h)))
   (a0j (a1h (g2y (c2z hu) (pvF 0) a3g (a2s _))))),?_⟩
  walk_at "rd"
  refine h7n (fun i σ H1=>H1=H/\(∃ z,σ = [some (.str x),z])/\((sg x).take i).all (fun c=>decide (48<=c) && decide (c<=57))=true) ⟨rfl,⟨_,rfl⟩,rfl⟩ ?_ ?_
  ·rintro i c σ H1 hc ⟨rfl,⟨z,rfl⟩,ha⟩
   walk_at "rd"
   have hc':(sg x)[i]? = some c:=by
    unfold sg
    rw [Array.getElem?_toList]
    exact hc
   rw [i1y]
   split
   ·rename_i hb
    have:h2q (sg x)=false:=by
     unfold h2q
     rw [show (sg x).all (fun c=>decide (48<=c) && decide (c<=57))=false from ?_,Bool.false_and]
     rw [List.all_eq_false]
     exact⟨c,List.mem_of_getElem? hc',by rw [hb]; decide⟩
    rw [this] at q
    exact q
   ·rename_i hb
    refine⟨⟨_,rfl⟩,?_⟩
    rw [List.take_add_one,hc',List.all_append,ha]
    simpa using hb
  ·rintro σ H1 ⟨rfl,⟨z,rfl⟩,ha⟩
   walk_at "rd"
   have hl:x.cps.size=(sg x).length:=by simp
   rw [hl,List.take_length] at ha
   have e : h2q (sg x) = !decide (x = Str.ofString "") := by
    unfold h2q
    rw [ha,Bool.true_and]
    congr 1
    rw [Bool.eq_iff_iff,decide_eq_true_eq,List.isEmpty_iff]
    exact⟨fun h=>c3n (h.trans (by decide +kernel)),fun h=>by rw [h]; decide +kernel⟩
   rw [e] at q
   exact q
theorem h8k (T : Tx K mg A) : a1q P A.wd K mg base CX0 1 A.a3s A.a4g ["one"] g4u := by
 refine T.a2z.ok a5n (fun vs H Q E h=>?_) (fun cdv A' outer s H vs Q E hr h=>?_)
 ·obtain⟨_,rfl,_⟩:=b8l (by unfold g4u at h; exact h)
  rfl
 ·obtain⟨p,rfl,⟨t,b,hp,l1,l2,q⟩⟩:=b8l (by unfold g4u at h; exact h)
  have hu:=hr.units
  refine⟨_,(a0h (a0s (i:=1) a5n.nd rfl (Or.inl rfl) (a1t a5m (pvF 0) a0k (fun _ _=>rfl)))
   (a0h (a0s (i:=2) a5n.nd rfl (Or.inl rfl) (a1t a5m (pvF 0) a0k (fun _ _=>rfl)))
   (a0j (a1h (c3m (a6o (c7v (pvF 1)) (a6o a3g (a6o (c7v (pvF 2)) f3y)))))))),?_⟩
  walk_at "rd*"
  have e0:Str.empty.length=0:=rfl
  have e1 : (Str.ofString "/").length = 1 := by decide +kernel
  have e2:(Str.ofString (toString t)).length=(txt t).length:=by rw [<- c7y,d2r]
  have e3:(Str.ofString (toString b)).length=(txt b).length:=by rw [<- c7y,d2r]
  have f2:=g3j t
  have f3:=g3j b
  have hs:sizeLine=16777216:=sizeLine_eq
  simp only [strLen_append,e0,e1,e2,e3]
  refine⟨by omega,by omega,by omega,by omega,q _ ?_⟩
  rw [a3q,a3q,a3q,d2r,d2r]
  unfold i0h
  have e4:sg Str.empty = []:=rfl
  have e5 : sg (Str.ofString "/") = [47] := by decide +kernel
  rw [e4,e5]
  simp
theorem i3q (T : Tx K mg A) : a1q P A.wd K mg base CX0 3 A.a4v A.a5o ["text"] h4g := by
 have c9w:a1q P A.wd K mg base CX0 1 _ _ _ _:=f4u T
 have a5j:a1q P A.wd K mg base CX0 1 _ _ _ _:=h8k T
 have g9p:a1q P A.wd K mg base CX0 2 _ _ _ _:=g5g T
 refine T.a9r.ok a7t (fun vs H Q E h=>?_) (fun cdv A' outer s H vs Q E hr h=>?_)
 ·obtain⟨_,rfl,_⟩:=g7f (by unfold h4g at h; exact h)
  rfl
 ·obtain⟨x,rfl,⟨t,b,g,k⟩⟩:=g7f (by unfold h4g at h; exact h)
  have hu:=hr.units
  have c6p:a2p 1 _:=hr.mono (by decide)
  have a4k:a2p 1 _:=hr.mono (by decide)
  have g5h:a2p 2 _:=hr.mono (by decide)
  obtain⟨hx,hb,hg,l1,l2⟩:=g
  have hb0:b≠0:=by omega
  have tb:txt b=dg b.natAbs:=if_neg (by omega)
  have sl : Str.ofString "/" = ⟨#[47]⟩ := by decide +kernel
  have mi : Str.ofString "-" = ⟨#[45]⟩ := by decide +kernel
  have sp:=h7o (x:=x) (c:=47) (by decide) hx (f3z (by decide) (by decide)) (f3z (by decide) (by decide))
  have hs:sizeLine=16777216:=sizeLine_eq
  have q1:=i7k t
  have xl:x.length=(txt t).length+((txt b).length+1):=by rw [<- c7y,hx]; simp [i0h]
  rw [tb] at xl
  obtain⟨h0,e0⟩:∃ h0:Str,h0 = ⟨(txt t).toArray⟩:=⟨_,rfl⟩
  obtain⟨h1,e1⟩:∃ h1:Str,h1 = ⟨(txt b).toArray⟩:=⟨_,rfl⟩
  have s0:sg h0=txt t:=by rw [e0]
  have s1:sg h1=txt b:=by rw [e1]
  have n0:h0.length=(txt t).length:=by rw [<- c7y,s0]
  have n1:h1.length=(txt b).length:=by rw [<- c7y,s1]
  rw [<- e0,<- e1] at sp
  have sw:=i7l s0
  have i0:=d3u s0 (by omega)
  have i1:=d3u s1 (by rw [tb] at n1; omega)
  have r0:Rat.divInt t b = ⟨t,b.toNat,by omega,by
   show Nat.gcd t.natAbs b.toNat=1
   rw [<- hg]
   unfold Int.gcd
   congr 1
   omega⟩:=by
   rw [Rat.mk_eq_divInt]
   congr 1
   omega
  refine ⟨_, (a0h (a6n (c6z (b1u (a1g (c1p .str) (by rfl) T.a6w boot_isinstance (a0g (pvF 0) (a0g (c7r (v := .ty "str") (u := .type "str") (by rfl) T.f7j rfl rfl) a0i)))))
   (a0j a2w)
   a2h)
   (a0h (a0s (i:=1) a7t.nd rfl (Or.inl rfl) (c3i d2n PySem.F.plainAttrs_str PySem.F.slot_str_split PySem.F.type_str_split g6w (pvF 0) (a0g a3g a0i)))
   (a0h (a6n (a1r (c2z hu) (a1g a2k (by rfl) T.b6z boot_len (a0g (pvF 1) a0i)) a0k (a2s _))
   (a0j a2w)
   a2h)
   (b1i (a0s (i:=2) a7t.nd rfl (Or.inl rfl) (f5g (b1u (c3i d2n PySem.F.plainAttrs_str PySem.F.slot_str_startswith PySem.F.type_str_startswith d2p (a1t a5m (pvF 1) a0k (fun _ _=>rfl)) (a0g a3g a0i))) (a5k g0g (a1t a5m (pvF 1) a0k (fun _ _=>rfl)) (a3t a0k) b1h) (a1t a5m (pvF 1) a0k (fun _ _=>rfl))))
   (a0h (a3n PassesOwn.never rfl (a2m (a3y (a0g (pvF 2) (a0g (a1t a5m (pvF 1) a0k (fun _ _=>rfl)) a0i)))) (a2o (i:=3) a7t.nd rfl (Or.inl rfl))
   (a0j (a6n (pw_or (c6z (b1u (a0v c9w c6p (by rfl) T.d6k T.b3u.kp T.d6j .nil a1j (a0g (pvF 3) a0i)))) (pw_or1 (a1r g0d (a1g a2k (by rfl) T.b6z boot_len (a0g (pvF 3) a0i)) (a9i (v:=.int 9) (by rfl) T.c7n T.a8z) (a2s _)))).pt
   (a0j a2w)
   a2h)))
   (a0h (a6n (a1r (c2y hu) (a2r d2q (by rfl) T.h4b boot_int (a0g (a1t a5m (pvF 1) a0k (fun _ _=>rfl)) a0i)) a0k (a2s _))
   (a0j a2w)
   a2h)
   (a0h (a0s (i:=4) a7t.nd rfl (Or.inl rfl) (a0v g9p g5h (by rfl) T.g9a T.c3v.kp T.g8z .nil a1j (a0g (a2r d2q (by rfl) T.h4b boot_int (a0g (a1t a5m (pvF 1) a0k (fun _ _=>rfl)) a0i)) (a0g (a2r d2q (by rfl) T.h4b boot_int (a0g (a1t a5m (pvF 1) a0k (fun _ _=>rfl)) a0i)) a0i))))
   (a0h (a6n (a1r (c2z hu) (a0v a5j a4k (by rfl) T.b4p T.a2z.kp T.b4o .nil a1j (a0g (pvF 4) a0i)) (pvF 0) (a2s _))
   (a0j a2w)
   a2h)
   (a0j (a1h (pvF 4))))))))))),?_⟩
  rw [sl,mi]
  have hx':id (sg x=i0h t b):=hx
  clear e0 e1 hx sl mi
  have d1:((⟨#[47]⟩:Str).length == 0)=false:=rfl
  have d2:x.length<=sizeLine:=by omega
  have d3:2<=sizeLine:=by omega
  have d4:h0.length<=sizeLine:=by omega
  have d5:h1.length<=sizeLine:=by rw [tb] at n1; omega
  have N0:h0.length<=10:=by omega
  have N1:h1.length<=9:=by rw [tb] at n1; omega
  clear xl n0 n1 q1 hs
  walk_at "rd*"
  intro p H1 n1' S1 h1'
  walk_at "rd*"
  rw [if_neg (by decide)]
  refine⟨fun σ' H'=>∃ top:Str,sg top=dg t.natAbs/\σ' = [some (.str x),some (.ref p),some (.str top),none,none]/\H'=H1,?_,?_⟩
  ·walk_at "rd*"
   split
   ·rename_i ht
    have z:=i2a (x:=h0) (i:=1) (by
     rw [<- c7y,s0]
     unfold txt
     rw [if_pos ht]
     simp)
    rw [show ((1:Nat):Int)=1 from rfl] at z
    refine⟨_,?_,rfl⟩
    rw [z,s0]
    unfold txt
    rw [if_pos ht]
    rfl
   ·rename_i ht
    refine⟨_,?_,rfl⟩
    rw [s0]
    unfold txt
    rw [if_neg ht]
  ·rintro σ' H' ⟨top,st,rfl,rfl⟩
   walk_at "rd*"
   intro q H2 n2 S2 h2
   walk_at "rd*"
   have hp2:=S2 _ _ h1'
   refine⟨⟨_,SqL.of h2⟩,?_⟩
   have f0:h2q (sg top)=true:=by rw [st]; exact f5r.mpr ⟨d0t _,h2p _⟩
   have f1:h2q (sg h1)=true:=by rw [s1,tb]; exact f5r.mpr ⟨d0t _,h2p _⟩
   have m0:top.length<=9:=by rw [<- c7y,st]; exact l1
   have m1:top.length<=sizeLine:=Nat.le_trans m0 (by decide)
   refine a4l (xs:=[.str top,.str h1]) (fun i σ H'=>H'=H2/\∃ z,σ = [some (.str x),some (.ref p),some (.str top),z,none]) ⟨rfl,_,rfl⟩ (fun i σ H' _ h=>by rw [h.1]; exact SqL.of h2) ?_ ?_
   ·rintro i v σ H' hv ⟨rfl,z,rfl⟩
    match i,hv with
    | 0,hv =>
     cases hv
     walk_at "rd*"
     rw [st] at f0
     rw [f0,if_neg (by simp; omega)]
     exact⟨_,rfl⟩
    | 1,hv =>
     cases hv
     walk_at "rd*"
     rw [s1,tb] at f1
     rw [f1,if_neg (by simp; omega)]
     exact⟨_,rfl⟩
    | i+2,hv=>cases hv
   ·rintro σ H' ⟨rfl,z,rfl⟩
    walk_at "rd*"
    have v1:t.natAbs < 10 ^ 9:=by
     have:=i0g (d0t t.natAbs)
     rw [g6x] at this
     exact Nat.lt_of_lt_of_le this (Nat.pow_le_pow_right (by decide) l1)
    have v2:b.natAbs < 10 ^ 9:=by
     have:=i0g (d0t b.natAbs)
     rw [g6x] at this
     exact Nat.lt_of_lt_of_le this (Nat.pow_le_pow_right (by decide) l2)
    have g1:t.natAbs.log2 < 1920:=g1m v1
    have g2:b.natAbs.log2 < 1920:=g1m v2
    refine⟨by omega,by omega,by omega,f4t v1,f4t v2,?_⟩
    rw [r0]
    rintro _ H3 ⟨o,rfl,n3,S3,h3⟩
    replace h3:H3 o=some (.tup [.int t,.int b]):=by
     rw [h3]
     unfold i0a
     show some (HO.tup [V.int t,V.int ((b.toNat:Nat):Int)])=_
     rw [Int.toNat_of_nonneg (by omega)]
    walk_at "rd*"
    refine⟨t,b,⟨rfl,rfl⟩,g1,g2,fun y hy=>?_⟩
    rw [if_neg (not_not_intro (c3n (hy.trans hx'.symm)))]
    refine k _ _ ⟨o,rfl,?_,fun c u e=>S3 _ _ (S2 _ _ (S1 _ _ e)),h3⟩
    cases e:H o with
    | none=>rfl
    | some u =>
     have:=S2 _ _ (S1 _ _ e)
     rw [n3] at this
     cases this
theorem h5d{x:Str}{n:Nat}(h:sg x=txt (n:Int)):(Txt.startswith x ⟨#[48]⟩ && !decide (x=(⟨#[48]⟩:Str)))=false:=by
 have e:txt (n:Int)=dg n:=if_neg (by omega)
 rw [e] at h
 rcases Nat.eq_zero_or_pos n with z | z
 ·subst z
  have:x = ⟨#[48]⟩:=c3n (by rw [h]; rfl)
  rw [this]
  simp
 ·obtain⟨c,r,e1,e2⟩:=i1x z
  rw [i0i,h,e1]
  simp [e2]
theorem i8v (T : Tx K mg A) : a1q P A.wd K mg base CX0 2 A.b5k A.b5l ["text"] i3a := by
 have c9w:a1q P A.wd K mg base CX0 1 _ _ _ _:=f4u T
 refine T.c3s.ok g3s (fun vs H Q E h=>?_) (fun cdv A' outer s H vs Q E hr h=>?_)
 ·obtain⟨_,rfl,_⟩:=g7f (by unfold i3a at h; exact h)
  rfl
 ·obtain⟨x,rfl,⟨n,hx,hn,q⟩⟩:=g7f (by unfold i3a at h; exact h)
  have hu:=hr.units
  have c6p:a2p 1 _:=hr.mono (by decide)
  have sl : Str.ofString "0" = ⟨#[48]⟩ := by decide +kernel
  refine⟨_,(a0h (a6n (pw_or (c6z (b1u (a0v c9w c6p (by rfl) T.d6k T.b3u.kp T.d6j .nil a1j (a0g (pvF 0) a0i)))) (pw_or1 (a1r g0d (a1g a2k (by rfl) T.b6z boot_len (a0g (pvF 0) a0i)) (a9i (v:=.int 13) (by rfl) T.c7m T.a8w) (a2s _)))).pt
   (a0j (a1h h0r))
   a2h)
   (a0h (a6n (pw_and (b1u (c3i d2n PySem.F.plainAttrs_str PySem.F.slot_str_startswith PySem.F.type_str_startswith d2p (pvF 0) (a0g a3g a0i))) (pw_and1 (a1r (c2z hu) (pvF 0) a3g (a2s _)))).pt
   (a0j (a1h h0r))
   a2h)
   (a0j (a1h (a2r d2q (by rfl) T.h4b boot_int (a0g (pvF 0) a0i)))))),?_⟩
  rw [sl]
  walk_at "rd*"
  have e:txt (n:Int)=dg n:=if_neg (by omega)
  have f:h2q (txt (n:Int))=true:=by rw [e]; exact f5r.mpr ⟨d0t _,h2p _⟩
  have lx:x.length<=13:=by
   rw [<- c7y,hx,e]
   have a:=h7x 12 n (by omega)
   omega
  have sw:=h5d hx
  have hs:sizeLine=16777216:=sizeLine_eq
  rw [f,if_neg (by decide)]
  refine⟨by omega,?_⟩
  rw [if_neg ?_]
  ·exact⟨_,d3u hx (by omega),by omega,q⟩
  ·rintro (z | ⟨z1,z2⟩)
   ·omega
   ·rw [z1,Bool.true_and] at sw
    simp [z2] at sw
theorem c6q(ns ms:List Int):(f2w ns ms).length=max ns.length ms.length:=by unfold f2w; simp
theorem f7w{ns ms:List Int}{i:Nat}(h:i < max ns.length ms.length):(f2w ns ms).getD i 0=ns.getD i 0+ms.getD i 0:=by
 unfold f2w
 rw [List.getD_eq_getElem?_getD,List.getElem?_map,List.getElem?_range h]
 rfl
theorem i3r(ns ms:List Int):j2x ns ms=f2w ns ms:=by
 apply List.ext_getElem?
 intro i
 unfold j2x f2w
 rw [List.getElem?_map]
 by_cases h1:i < min ns.length ms.length
 ·rw [List.append_assoc,List.getElem?_append_left (by simp; omega),List.getElem?_map,List.getElem?_range h1,List.getElem?_range (by omega)]
 ·rw [List.append_assoc,List.getElem?_append_right (by simp; omega),List.length_map,List.length_range]
  by_cases h2:i < max ns.length ms.length
  ·rw [List.getElem?_range h2]
   show _=some (ns.getD i 0+ms.getD i 0)
   by_cases h3:ns.length<=ms.length
   ·rw [Nat.min_eq_left h3,List.drop_of_length_le (Nat.le_refl _),List.nil_append,List.getElem?_drop,List.getD_eq_getElem?_getD,List.getD_eq_getElem?_getD,List.getElem?_eq_none (l:=ns) (by omega),show ns.length+(i - ns.length)=i by omega,List.getElem?_eq_getElem (by omega)]
    simp
   ·rw [Nat.min_eq_right (by omega),List.drop_of_length_le (l:=ms) (Nat.le_refl _),List.append_nil,List.getElem?_drop,List.getD_eq_getElem?_getD,List.getD_eq_getElem?_getD,List.getElem?_eq_none (l:=ms) (by omega),show ms.length+(i - ms.length)=i by omega,List.getElem?_eq_getElem (by omega)]
    simp
  ·rw [List.getElem?_eq_none (by simp; omega),List.getElem?_eq_none (by simp; omega)]
   rfl
theorem f7y (T : Tx K mg A) : a1q P A.wd K mg base CX0 1 A.a9m A.b0i ["one", "other"] i3b := by
 refine T.a9s.ok c4w (fun vs H Q E h=>?_) (fun cdv A' outer s H vs Q E hr h=>?_)
 ·obtain⟨_,_,rfl,_⟩:=d6w (by unfold i3b at h; exact h)
  rfl
 ·obtain⟨p,q,rfl,⟨ns,ms,hp,hq,hl1,hl2,k⟩⟩:=d6w (by unfold i3b at h; exact h)
  have hu:=hr.units
  refine⟨_,(a0h (a0s (i:=2) c4w.nd rfl (Or.inl rfl) (a1g (h2g rfl) (by rfl) T.j2u boot_min (a0g (a1g a2k (by rfl) T.b6z boot_len (a0g (pvF 0) a0i)) (a0g (a1g a2k (by rfl) T.b6z boot_len (a0g (pvF 1) a0i)) a0i))))
   (a0h (f5p (i := 3) c4w.nd rfl rfl (a4r (by rfl) T.b4q (a0g (pvF 2) a0i)) (fun _ _ _ _ _ => (a0w a2i (a1t a5m (pvF 1) (pvF 0) (fun _ _ => rfl)) (a1t a5m (pvF 2) (pvF 0) (fun _ _ => rfl)))) (c7u (sc := a0l c8j) (N := ["one", "other", "shared", "both"]) rfl rfl (by decide +kernel)) rfl)
   (a0j (a1h (a0w a2i (a0w a2i (pvF 3) (a5k g0g (pvF 0) (a3t (pvF 2)) b1h)) (a5k g0g (pvF 1) (a3t (pvF 2)) b1h)))))),?_⟩
  walk_at "rd*"
  refine⟨by omega,by omega,fun D H2 n2 S2 h2=>?_⟩
  have hmn:(min (ns.length:Int) (ms.length:Int)).toNat=min ns.length ms.length:=by omega
  rw [hmn]
  refine d3t (fun i=>.int (ns.getD i 0+ms.getD i 0)) n2 S2 h2 (by rw [sizeLine_eq]; omega) ?_ ?_
  ·intro i H' Q' hi S' q'
   have hp':=S' _ _ hp
   have hq':=S' _ _ hq
   have e1:=g0f (ns:=ns) (i:=i) (by omega)
   have e2:=g0f (ns:=ms) (i:=i) (by omega)
   walk_at "rd*"
  intro H3 S3 h3
  have e3:(List.range (min ns.length ms.length)).map (fun i=>V.int (ns.getD i 0+ms.getD i 0))=((List.range (min ns.length ms.length)).map fun i=>ns.getD i 0+ms.getD i 0).map V.int:=by
   rw [List.map_map]
   rfl
  rw [e3] at h3
  have hp3:=S3 _ _ hp
  have hq3:=S3 _ _ hq
  walk_at "rd*"
  intro c H4 n4 S4 h4
  rw [show min (ns.length:Int) (ms.length:Int)=((min ns.length ms.length:Nat):Int) by omega,c3j,a9k] at h4
  have h34:=S4 _ _ h3
  walk_at "rd*"
  refine⟨by rw [sizeLine_eq]; simp; omega,fun d H5 n5 S5 h5=>?_⟩
  have hq5:=S5 _ _ (S4 _ _ hq3)
  walk_at "rd*"
  intro e H6 n6 S6 h6
  rw [show min (ns.length:Int) (ms.length:Int)=((min ns.length ms.length:Nat):Int) by omega,c3j,a9k] at h6
  have h56:=S6 _ _ h5
  walk_at "rd*"
  refine⟨by rw [sizeLine_eq]; simp; omega,fun f H7 n7 S7 h7=>?_⟩
  have S07:Same H H6:=S3.trans (S4.trans (S5.trans S6))
  refine k _ _ ⟨f,rfl,S07.free n7,S07.trans S7,?_⟩
  rw [h7,<- i3r]
  unfold j2x
  simp only [List.map_append]
theorem c4k(ns:List Int)(b:Int)(i:Nat):(ns.map (· * b)).getD i 0=ns.getD i 0*b:=by
 rw [List.getD_eq_getElem?_getD,List.getD_eq_getElem?_getD,List.getElem?_map]
 cases ns[i]? with
 | none=>exact (Int.zero_mul b).symm
 | some x=>rfl
theorem d7q (T : Tx K mg A) : a1q P A.wd K mg base CX0 1 A.b1v A.b2n ["row", "by"] g4v := by
 refine T.a7p.ok g0w (fun vs H Q E h=>?_) (fun cdv A' outer s H vs Q E hr h=>?_)
 ·obtain⟨_,_,rfl,_⟩:=d6v (by unfold g4v at h; exact h)
  rfl
 ·obtain⟨p,b,rfl,⟨ns,hp,hb,hl,k⟩⟩:=d6v (by unfold g4v at h; exact h)
  have hu:=hr.units
  refine ⟨_, (a0j (a1h (b9z (a2m (pvF 0)) (fun _ _ _ _ _ => (a0w a3w (pvF 0) (pvF 2))) (c7u (sc := a0l d1i) (N := ["row", "by"]) rfl rfl (by decide +kernel)) rfl))), ?_⟩
  walk_at "rd"
  refine⟨⟨_,SqL.of hp⟩,fun D H2 n2 S2 h2=>?_⟩
  refine h2m (fun v=>match v with | .int c=>.int (c*b) | v=>v) n2 S2 h2 (SqL.of hp) (by rw [List.length_map,sizeLine_eq]; omega) ?_ ?_
  ·intro i x H' Q' hx S' q'
   rw [List.getElem?_map] at hx
   obtain⟨c,hc,rfl⟩:=Option.map_eq_some_iff.mp hx
   walk_at "rd"
   exact⟨hb c (List.mem_of_getElem? hc),q'⟩
  intro H3 S3 h3
  refine k _ _ ⟨D,rfl,n2,S3,?_⟩
  rw [h3,List.map_map,List.map_map]
  rfl
theorem b7t(ns:List Int)(st n:Nat):(g2t ns st n).length=ns.length - st:=by unfold g2t; simp
theorem d3n{ns:List Int}{st n i:Nat}(h:i < ns.length - st):(g2t ns st n).getD i 0=if n<=st+i then ns.getD (st+i - n) 0 else 0:=by
 unfold g2t
 rw [List.getD_eq_getElem?_getD,List.getElem?_map,List.getElem?_range h]
 rfl
theorem g7j{ns:List Int}{st n:Nat}{x:Int}(h:x∈g2t ns st n):x∈ns\/x=0:=by
 unfold g2t at h
 obtain⟨i,hi,rfl⟩:=List.mem_map.mp h
 split
 ·by_cases h2:st+i - n < ns.length
  ·exact .inl (getD_mem h2)
  ·rw [List.getD_eq_getElem?_getD,List.getElem?_eq_none (by omega)]
   exact .inr rfl
 ·exact .inr rfl
theorem d4v (T : Tx K mg A) : a1q P A.wd K mg base CX0 1 A.c0h A.b9p ["known", "start", "many"] f0z := by
 refine T.c0s.ok g8p (fun vs H Q E h=>?_) (fun cdv A' outer s H vs Q E hr h=>?_)
 ·obtain⟨_,_,_,rfl,_⟩:=i0o (by unfold f0z at h; exact h)
  rfl
 ·obtain⟨k,st,n,rfl,⟨ns,s,m,hk,e1,e2,hs,hl,q⟩⟩:=i0o (by unfold f0z at h; exact h)
  subst e1 e2
  have hu:=hr.units
  refine ⟨_, (a0j (a1h (b9z (g8i (by rfl) T.b4q (a0g (pvF 1) (a0g (a1g a2k (by rfl) T.b6z boot_len (a0g (pvF 0) a0i)) a0i))) (fun _ _ _ _ _ => (f5g (a1r j1n (pvF 0) (pvF 3) (a2s _)) (a1t a5m (pvF 1) (a0w d8l (pvF 0) (pvF 3)) (fun _ _ => rfl)) a0k)) (c7u (sc := a0l d8r) (N := ["known", "start", "many"]) rfl rfl (by decide +kernel)) rfl))), ?_⟩
  walk_at "rd*"
  refine⟨by omega,fun D H2 n2 S2 h2=>?_⟩
  have hmn:((ns.length:Int) - (s:Int)).toNat=ns.length - s:=by omega
  rw [hmn]
  refine d3t (fun i=>.int (if m<=s+i then ns.getD (s+i - m) 0 else 0)) n2 S2 h2 (by rw [sizeLine_eq]; omega) ?_ ?_
  ·intro i H' Q' hi S' q'
   have hk':=S' _ _ hk
   walk_at "rd*"
   split
   ·rename_i h
    rw [if_pos (by omega)] at q'
    refine⟨_,?_,q'⟩
    rw [show (s:Int)+(i:Int) - (m:Int)=((s+i - m:Nat):Int) by omega]
    exact g0f (by omega)
   ·rename_i h
    rw [if_neg (by omega)] at q'
    exact q'
  intro H3 S3 h3
  refine q _ _ ⟨D,rfl,n2,S3,?_⟩
  rw [h3]
  unfold g2t
  rw [List.map_map]
  rfl
theorem g5i (T : Tx K mg A) : a1q P A.wd K mg base CX0 1 A.c0i A.b9q ["known", "many"] h4h := by
 refine T.c0t.ok g8q (fun vs H Q E h=>?_) (fun cdv A' outer s H vs Q E hr h=>?_)
 ·obtain⟨_,_,rfl,_⟩:=d6v (by unfold h4h at h; exact h)
  rfl
 ·obtain⟨k,n,rfl,⟨ns,m,hk,e1,hl,q⟩⟩:=d6v (by unfold h4h at h; exact h)
  subst e1
  have hu:=hr.units
  refine⟨_,(a0j (a1h (a2r g0j (by rfl) T.h4d boot_tuple (a0g (a5k g0g (pvF 0) (a3t (a1g (h2i rfl) (by rfl) T.j2t boot_max (a0g a0k (a0g (a0w d8l (a1g a2k (by rfl) T.b6z boot_len (a0g (pvF 0) a0i)) (pvF 1)) a0i)))) b1h) a0i)))),?_⟩
  walk_at "rd*"
  intro l H1 n1 S1 h1
  rw [show max 0 ((ns.length:Int) - (m:Int))=((ns.length - m:Nat):Int) by omega,c3j,a9k] at h1
  walk_at "rd*"
  intro t H2 n2 S2 h2
  exact q _ _ ⟨t,rfl,S1.free n2,S1.trans S2,h2⟩
theorem d7r(n:Int)(m:Nat):(h4i n m).length=m+1:=by unfold h4i; simp
theorem f7z{n:Int}{m i:Nat}(h:i < m+1):(h4i n m).getD i 0=n ^ i:=by
 unfold h4i
 rw [List.getD_eq_getElem?_getD,List.getElem?_map,List.getElem?_range h]
 rfl
theorem d0s{n:Int}(h:intBits n<=10):∀ j:Nat,intBits (n ^ j)<=1+10*j
 | 0=>by rw [Int.pow_zero]; decide
 | j+1=>by
  rw [Int.pow_succ]
  exact Nat.le_trans (intBits_mul_le (d0s h j) h) (by omega)
theorem i8w (T : Tx K mg A) : a1q P A.wd K mg base CX0 1 A.b1w A.b2s ["number", "most"] i3c := by
 refine T.b6v.ok c8p (fun vs H Q E h=>?_) (fun cdv A' outer s H vs Q E hr h=>?_)
 ·obtain⟨_,_,rfl,_⟩:=f2m (by unfold i3c at h; exact h)
  rfl
 ·obtain⟨n,t,rfl,⟨m,e,hm,hb,k⟩⟩:=f2m (by unfold i3c at h; exact h)
  subst e
  have hu:=hr.units
  refine⟨_,(a0h (a0s (i:=2) c8p.nd rfl (Or.inl rfl) (a3y (a0g a0k a0i)))
   (a0h (a3n PassesOwn.never rfl (a4r (by rfl) T.b4q (a0g (pvF 1) a0i)) (a2o (i:=3) c8p.nd rfl (Or.inl rfl))
   (a0j (a6m (c3i b7j PySem.F.plainAttrs_list PySem.F.slot_list_append PySem.F.type_list_append b0g (pvF 2) (a0g (a0w a3w (a1t a5m (pvF 2) (pvF 3) (fun _ _=>rfl)) (pvF 0)) a0i)))))
   (a0j (a1h (pvF 2))))),?_⟩
  walk_at "rd"
  refine⟨by decide,?_⟩
  intro l H1 n1 S1 h1
  walk_at "rd*"
  refine⟨by omega,by omega,?_⟩
  rw [Int.toNat_natCast]
  obtain⟨Pv,pin,pout⟩:=b7u (fun i σ H'=>∃ v3:Option V,σ = [some (.int n),some (.int m),some (.ref l),v3]/\Same H H'/\H' l=some (.lst ((h4i n i).map V.int)))
  refine a9w (lo:=0) Pv (pin _ _ _ ⟨_,rfl,S1,by rw [h1]; show _=some (HO.lst [V.int (n ^ 0)]); rw [Int.pow_zero]⟩) ?_ ?_
  ·intro i σ H2 hi hp
   obtain⟨v3,rfl,S2,h2⟩:=pout _ _ _ hp
   have e1:=g0f (ns:=h4i n i) (i:=i) (by rw [d7r]; omega)
   rw [f7z (by omega)] at e1
   have pl:=d7r n i
   clear h1 hp
   walk_at "rd*"
   refine⟨IntMulOk.of_right (Nat.le_trans hb (by decide)),by rw [sizeLine_eq]; omega,?_⟩
   rintro _ H3 ⟨rfl,B3,h3⟩
   refine pin _ _ _ ⟨_,rfl,S2.step n1 B3,?_⟩
   rw [h3]
   unfold h4i
   rw [List.range_succ (n:=i+1),List.map_append,List.map_append]
   show _=some (HO.lst (_++[V.int (n ^ (i+1))]))
   rw [Int.pow_succ]
  ·intro σ H2 hp
   obtain⟨v3,rfl,S2,h2⟩:=pout _ _ _ hp
   walk_at "rd"
   exact k _ _ ⟨l,rfl,n1,S2,h2⟩
theorem h8l(p q:Int)(t:Nat):(h6s p q t).length=t+1:=by unfold h6s; simp
theorem h8m{p q:Int}{t i:Nat}(h:i < t+1):(h6s p q t).getD i 0=h6r p q t i:=by
 unfold h6s
 rw [List.getD_eq_getElem?_getD,List.getElem?_map,List.getElem?_range h]
 rfl
theorem IsE.same{C:Addr}{H H':Hp}{o:Addr}{p q:Int}{n t:Nat}(h:IsE C H o p q n t)(S:Same H H'):IsE C H' o p q n t:=by
 obtain⟨dx,gt,fa,h1,h2,h3⟩:=h
 exact⟨dx,gt,fa,S _ _ h1,S _ _ h2,S _ _ h3⟩
theorem h8n (T : Tx K mg A) : a1q P A.wd K mg base CX0 2 A.b5t A.b2t ["self", "gain", "many", "turns"] (g4w A.a5i) := by
 have f1i:a1q P A.wd K mg base CX0 1 _ _ _ _:=i8w T
 have a3i:=T.a3i
 have a1n:=T.a1n
 have a1o:=T.a1o
 have a1i:=T.a1i
 have a0t:=T.a0t
 have a0q:=T.a0q
 refine T.c5u.ok c8q (fun vs H Q E h=>?_) (fun cdv A' outer s H vs Q E hr h=>?_)
 ·obtain⟨_,_,_,_,rfl,_⟩:=f5u (by unfold g4w at h; exact h)
  rfl
 ·obtain⟨o,gt,n,t,rfl,⟨dx,m,tt,p,q,e1,e2,ht,bp,bq,hg,ho,k⟩⟩:=f5u (by unfold g4w at h; exact h)
  subst e1 e2
  have hu:=hr.units
  have d6t:a2p 1 _:=hr.mono (by decide)
  have gto:gt≠o:=fun e=>by rw [e,ho] at hg; cases hg
  refine⟨_,(a0h (a5z (pvF 0) (pvF 1) rfl)
   (a0h (a5z (pvF 0) (pvF 2) rfl)
   (a0h (a5z (pvF 0) (pvF 3) rfl)
   (a0h (a0s (i:=4) c8q.nd rfl (Or.inr rfl) (a0v f1i d6t (by rfl) T.f0o T.b6v.kp T.f0n .nil a1j (a0g (a1t a5m (pvF 1) a0k (fun _ _=>rfl)) (a0g (pvF 3) a0i))))
   (a0h (a0s (i:=5) c8q.nd rfl (Or.inr rfl) (a0v f1i d6t (by rfl) T.f0o T.b6v.kp T.f0n .nil a1j (a0g (a1t a5m (pvF 1) a0k (fun _ _=>rfl)) (a0g (pvF 3) a0i))))
   (a0h (a5z (pvF 0) (a2r g0j (by rfl) T.h4d boot_tuple (a0g (b9z (a4r (by rfl) T.b4q (a0g (a0w a2i (pvF 3) a0k) a0i)) (fun _ _ _ _ _ => (a0w a3w (a1t a5m (pvF 5) (pvF 0) (fun _ _ => rfl)) (a1t a5m (pvF 6) (a0w d8l (pvF 4) (pvF 0)) (fun _ _ => rfl)))) (c7u (sc := a0l d1j) (N := ["self", "gain", "many", "turns", "tops", "bottoms"]) rfl rfl (by decide +kernel)) rfl) a0i)) rfl)
   (a0j (a5z (pvF 0) (a1t a5m (pvF 5) (pvF 3) (fun _ _=>rfl)) rfl)))))))),?_⟩
  walk_at "rd*"
  intro H1 B1 h1
  walk_at "rd*"
  intro H2 B2 h2
  walk_at "rd*"
  intro H3 B3 h3
  have hg3:=B3 _ _ gto (B2 _ _ gto (B1 _ _ gto hg))
  walk_at "rd*"
  refine⟨tt,rfl,ht,?_⟩
  rintro _ H4 ⟨l4,rfl,n4,S4,h4⟩
  have hg4:=S4 _ _ hg3
  walk_at "rd*"
  refine⟨tt,rfl,ht,?_⟩
  rintro _ H5 ⟨l5,rfl,n5,S5,h5⟩
  have h45:=S5 _ _ h4
  have h35:=S5 _ _ (S4 _ _ h3)
  have pl1:=d7r p tt
  have pl2:=d7r q tt
  clear h4 hg4 hg3
  walk_at "rd*"
  refine⟨by omega,by omega,fun D H6 n6 S6 h6=>?_⟩
  rw [show ((tt:Int)+1).toNat=tt+1 by omega]
  refine d3t (fun i=>.int (h6r p q tt i)) n6 S6 h6 (by rw [sizeLine_eq]; omega) ?_ ?_
  ·intro i H' Q' hi S' q'
   have h4':=S' _ _ h45
   have h5':=S' _ _ h5
   have e1:=g0f (ns:=h4i p tt) (i:=i) (by omega)
   have e2:=g0f (ns:=h4i q tt) (i:=tt - i) (by omega)
   rw [f7z (by omega)] at e1 e2
   rw [show ((tt - i:Nat):Int)=(tt:Int) - (i:Int) by omega] at e2
   clear h45 h35 h5 hg ho h1 h2 h3 pl1 pl2
   walk_at "rd*"
   exact⟨IntMulOk.of_le (d0s bp i) (d0s bq (tt - i)) (by omega),q'⟩
  intro H7 S7 h7
  have e7:(List.range (tt+1)).map (fun i=>V.int (h6r p q tt i))=(h6s p q tt).map V.int:=by
   unfold h6s
   rw [List.map_map]
   rfl
  rw [e7] at h7
  walk_at "rd*"
  intro fa H8 n8 S8 h8
  have h38:=S8 _ _ (S7 _ _ h35)
  have h58:=S8 _ _ (S7 _ _ h5)
  have e2:=g0f (ns:=h4i q tt) (i:=tt) (by omega)
  rw [f7z (by omega)] at e2
  clear h45 h35 h5 h7 e7
  walk_at "rd*"
  intro H9 B9 h9
  have l5o:l5≠o:=fun e=>by
   rw [e,h38] at h58
   cases h58
  have h59:=B9 _ _ l5o h58
  clear h38 h58
  walk_at "rd*"
  intro H10 B10 h10
  have S38:Same H3 H8:=S4.trans (S5.trans (S7.trans S8))
  have fao:fa≠o:=fun e=>by
   have:=S38 _ _ h3
   rw [e] at h8
   rw [h8] at this
   cases this
  refine k fa H10 (fun b u hb e=>B10 _ _ hb (B9 _ _ hb (S38 _ _ (B3 _ _ hb (B2 _ _ hb (B1 _ _ hb e)))))) ?_ h10 (B10 _ _ fao (B9 _ _ fao h8))
  cases hn:H fa with
  | none=>rfl
  | some u =>
   exfalso
   have:=(S4.trans (S5.trans S7)) _ _ (B3 _ _ fao (B2 _ _ fao (B1 _ _ fao hn)))
   rw [this] at n8
   cases n8
theorem h5e (T : Tx K mg A) : a1q P A.wd K mg base CX0 1 A.a9p A.a7i ["self"] (f7m A.a5i) := by
 have a3i:=T.a3i
 have a1n:=T.a1n
 have a1o:=T.a1o
 have a1i:=T.a1i
 have a0t:=T.a0t
 have a0q:=T.a0q
 refine T.c1w.ok f6g (fun vs H Q E h=>?_) (fun cdv A' outer s H vs Q E hr h=>?_)
 ·obtain⟨_,rfl,_⟩:=b8l (by unfold f7m at h; exact h)
  rfl
 ·obtain⟨o,rfl,⟨p,q,n,t,⟨dx,gt,fa,ho,hg,hf⟩,k⟩⟩:=b8l (by unfold f7m at h; exact h)
  have hu:=hr.units
  unfold ecF at ho
  refine⟨_,(a0j (a1h (a0y (pvF 0) rfl))),?_⟩
  walk_at "rd*"
theorem h5f (T : Tx K mg A) : a1q P A.wd K mg base CX0 1 A.b2u A.b0n ["self"] (f7n A.a5i) := by
 have a3i:=T.a3i
 have a1n:=T.a1n
 have a1o:=T.a1o
 have a1i:=T.a1i
 have a0t:=T.a0t
 have a0q:=T.a0q
 refine T.c1y.ok f6h (fun vs H Q E h=>?_) (fun cdv A' outer s H vs Q E hr h=>?_)
 ·obtain⟨_,rfl,_⟩:=b8l (by unfold f7n at h; exact h)
  rfl
 ·obtain⟨o,rfl,⟨p,q,n,t,⟨dx,gt,fa,ho,hg,hf⟩,hn,k⟩⟩:=b8l (by unfold f7n at h; exact h)
  have hu:=hr.units
  unfold ecF at ho
  refine⟨_,(a0j (a1h (a0w a3w (a0y (pvF 0) rfl) (a0y (pvF 0) rfl)))),?_⟩
  walk_at "rd*"
  exact⟨IntMulOk.of_left (intBits_le_64 (by omega) (by omega)),by rw [<- Int.natCast_mul]; exact k⟩
theorem g5j(kn:List Int)(st n:Nat)(p q:Int)(t:Nat):∀ j,(h6t kn st n p q t j).length<=kn.length - st
 | 0=>Nat.zero_le _
 | j+1=>by
  have:=g5j kn st n p q t j
  rw [h6t,c6q,List.length_map,b7t]
  omega
theorem h8o(kn:List Int)(st n:Nat)(p q:Int)(t j:Nat):(h6t kn st n p q t (j+1)).length=kn.length - st:=by
 have:=g5j kn st n p q t j
 rw [h6t,c6q,List.length_map,b7t]
 omega
theorem g1n{p q:Int}(bp:intBits p<=10)(bq:intBits q<=10){t j:Nat}(ht:t<=16)(hj:j<=t):intBits (h6r p q t j)<=170 :=
 Nat.le_trans (intBits_mul_le (d0s bp j) (d0s bq (t - j))) (by omega)
theorem i3s (T : Tx K mg A) : a1q P A.wd K mg base CX0 2 A.a6h A.a4z ["self", "state", "tops", "bottom"] (h4j A.a5i) := by
 have c9y:a1q P A.wd K mg base CX0 1 _ _ _ _:=d4v T
 have c9z:a1q P A.wd K mg base CX0 1 _ _ _ _:=g5i T
 have b8i:a1q P A.wd K mg base CX0 1 _ _ _ _:=f7y T
 have a9u:a1q P A.wd K mg base CX0 1 _ _ _ _:=d7q T
 have g1o:a1q P A.wd K mg base CX0 1 _ _ _ _:=h5f T
 have a3i:=T.a3i
 have a1n:=T.a1n
 have a1o:=T.a1o
 have a1i:=T.a1i
 have a0t:=T.a0t
 have a0q:=T.a0q
 refine T.b7q.ok a6p (fun vs H Q E h=>?_) (fun cdv A' outer s H vs Q E hr h=>?_)
 ·obtain⟨_,_,_,_,rfl,_⟩:=c2p (by unfold h4j at h; exact h)
  rfl
 ·obtain⟨o,st,x,bt,rfl,⟨p,q,n,t,zs,xs,is,hz,hx,lz,lx,hn,ht,bp,bq,by0,k⟩⟩:=c2p (by unfold h4j at h; exact h)
  have hu:=hr.units
  have c4l:a2p 1 _:=hr.mono (by decide)
  have c4m:a2p 1 _:=hr.mono (by decide)
  have b4r:a2p 1 _:=hr.mono (by decide)
  have a6y:a2p 1 _:=hr.mono (by decide)
  have f8g:a2p 1 _:=hr.mono (by decide)
  have is0:=is
  obtain⟨dx,gt,fa,ho,hg,hf⟩:=is
  unfold ecF at ho
  refine⟨_,(a0h (a0s (i:=4) a6p.nd rfl (Or.inl rfl) (a0w a2i (a2r a9y (by rfl) T.c9u boot_list (a0g (pvF 1) a0i)) (pvF 2)))
   (a0h (a0s (i:=5) a6p.nd rfl (Or.inl rfl) (a3y a0i))
   (a0h (a3n PassesOwn.never rfl (a4r (by rfl) T.b4q (a0g (a0w a2i (a0y (pvF 0) rfl) a0k) a0i)) (a2o (i:=6) a6p.nd rfl (Or.inl rfl))
   (a0h (a0s (i:=7) a6p.nd rfl (Or.inl rfl) (a0v c9y c4l (by rfl) T.f0j T.c0s.kp T.f0i .nil a1j (a0g (pvF 4) (a0g (a1g a2k (by rfl) T.b6z boot_len (a0g (pvF 1) a0i)) (a0g (a0w a3w (pvF 6) (a0y (pvF 0) rfl)) a0i)))))
   (a0j (a0s (i:=5) a6p.nd rfl (Or.inl rfl) (a0v b8i b4r (by rfl) T.c9s T.a9s.kp T.c9r .nil a1j (a0g (pvF 5) (a0g (a0v a9u a6y (by rfl) T.c1h T.a7p.kp T.c1g .nil a1j (a0g (pvF 7) (a0g (a1t a5m (a0y (pvF 0) rfl) (pvF 6) (fun _ _=>rfl)) a0i))) a0i)))))))
   (a0j (a1h (b3w (a0g (pvF 5) (a0g (a0v c9z c4m (by rfl) T.f0l T.c0t.kp T.f0k .nil a1j (a0g (pvF 4) (a0g (a2n (pvF 0) T.a3i T.c5n g1o f8g T.g1h .nil a1j) a0i))) a0i)))))))),?_⟩
  walk_at "rd*"
  intro l1 H1 n1 S1 h1
  have hx1:=S1 _ _ hx
  walk_at "rd*"
  refine⟨by rw [sizeLine_eq]; omega,?_⟩
  intro kn H2 n2 S2 h2
  rw [<- List.map_append] at h2
  have S02:Same H H2:=S1.trans S2
  clear h1 hx1
  walk_at "rd*"
  refine⟨Nat.zero_le _,?_⟩
  intro o0 H3 n3 S3 h3
  have S03:=S02.trans S3
  have h23:=S3 _ _ h2
  have ho3:=S03 _ _ ho
  clear h2
  walk_at "rd*"
  refine⟨by omega,by omega,?_⟩
  rw [show ((t:Int)+1).toNat=t+1 by omega]
  obtain⟨Pv,pin,pout⟩:=b7u (fun j σ H'=>∃ (ou:Addr) (v6 v7:Option V),σ = [some (.ref o),some (.ref st),some (.ref x),some (.int bt),some (.ref kn),some (.ref ou),v6,v7]/\Same H2 H'/\H' kn=some (.lst ((zs++xs).map V.int))/\H2 ou=none/\H' ou=some (.lst ((h6t (zs++xs) zs.length n p q t j).map V.int)))
  refine a9w (lo:=0) Pv (pin _ _ _ ⟨o0,_,_,rfl,S3,h23,n3,h3⟩) ?_ ?_
  ·intro j σ H4 hj hp
   obtain⟨ou,v6,v7,rfl,S4,hk4,nou,hou⟩:=pout _ _ _ hp
   have S04:=S02.trans S4
   have ho4:=S04 _ _ ho
   have hz4:=S04 _ _ hz
   have hf4:=S04 _ _ hf
   have e1:=g0f (ns:=h6s p q t) (i:=j) (by rw [h8l]; omega)
   rw [h8m (by omega)] at e1
   have fb:=g1n bp bq (t:=t) (j:=j) ht (by omega)
   clear h23 ho3 h3 hp ho hz hf hx hg
   walk_at "rd*"
   refine⟨IntMulOk.of_left (intBits_le_64 (by omega) (by omega)),zs++xs,rfl,zs.length,rfl,j*n,(Int.natCast_mul j n).symm,by simp,by simp; omega,?_⟩
   rintro _ H5 ⟨hd,rfl,n5,S5,h5⟩
   have ho5:=S5 _ _ ho4
   have hf5:=S5 _ _ hf4
   have dl:=b7t (zs++xs) zs.length (j*n)
   clear ho4 hf4 hz4
   walk_at "rd*"
   refine⟨_,rfl,?_,by rw [dl]; simp; omega,?_⟩
   ·intro y hy
    rcases g7j hy with h | h
    ·exact IntMulOk.of_le (by0 y h) fb (by decide)
    ·rw [h]; exact IntMulOk.of_left (by decide)
   rintro _ H6 ⟨l6,rfl,n6,S6,h6⟩
   have hou6:=S6 _ _ (S5 _ _ hou)
   have el:=g5j (zs++xs) zs.length n p q t j
   rw [List.length_append] at el
   walk_at "rd*"
   refine⟨_,rfl,_,rfl,by omega,by rw [List.length_map,dl]; simp; omega,?_⟩
   rintro _ H7 ⟨ou',rfl,n7,S7,h7⟩
   have S47:=S5.trans (S6.trans S7)
   exact pin _ _ _ ⟨ou',_,_,rfl,S4.trans S47,S47 _ _ hk4,(S4.trans (S5.trans S6)).free n7,h7⟩
  ·intro σ H4 hp
   obtain⟨ou,v6,v7,rfl,S4,hk4,nou,hou⟩:=pout _ _ _ hp
   have S04:=S02.trans S4
   have ho4:=S04 _ _ ho
   have is4:=is0.same S04
   clear h23 ho3 h3 hp ho hz hf hx hg is0
   walk_at "rd*"
   refine⟨p,q,n,t,is4,hn,zs++xs,rfl,n*t,rfl,by simp; omega,?_⟩
   rintro _ H5 ⟨s2,rfl,n5,S5,h5⟩
   walk_at "rd*"
   intro r H6 n6 S6 h6
   exact k r ou s2 H6 (S04.trans (S5.trans S6)) ((S04.trans S5).free n6) (S02.free nou) h6 (S6 _ _ (S5 _ _ hou)) (S6 _ _ h5)
theorem g7k{kn:List Int}{st n:Nat}{p q:Int}{t i:Nat}(h:i < kn.length - st):∀ j,(h6t kn st n p q t j).getD i 0=h0j (fun m=>(g2t kn st (m*n)).getD i 0) p q t j
 | 0=>rfl
 | j+1=>by
  rw [h6t,f7w (by rw [List.length_map,b7t]; omega),c4k,g7k h j,h0j]
theorem h8p (T : Tx K mg A) : a1q P A.wd K mg base CX0 1 A.b5r A.b2o ["self", "gain"] (g4x A.a7u) := by
 have a4i:=T.a4i
 have a1v:=T.a1v
 refine T.c5s.ok g0x (fun vs H Q E h=>?_) (fun cdv A' outer s H vs Q E hr h=>?_)
 ·obtain⟨_,_,rfl,_⟩:=d6w (by unfold g4x at h; exact h)
  rfl
 ·obtain⟨o,gt,rfl,⟨dx,ho,k⟩⟩:=d6w (by unfold g4x at h; exact h)
  have hu:=hr.units
  refine⟨_,(a0j (a5z (pvF 0) (pvF 1) rfl)),?_⟩
  walk_at "rd*"
  intro H1 B1 h1
  exact k H1 B1 h1
theorem h5g (T : Tx K mg A) : a1q P A.wd K mg base CX0 1 A.b2q A.b0l ["self", "many"] (f7o A.a4m) := by
 have a2y:=T.a2y
 have a1u:=T.a1u
 refine T.c1u.ok f5z (fun vs H Q E h=>?_) (fun cdv A' outer s H vs Q E hr h=>?_)
 ·obtain⟨_,_,rfl,_⟩:=d6v (by unfold f7o at h; exact h)
  rfl
 ·obtain⟨o,n,rfl,⟨dx,ho,k⟩⟩:=d6v (by unfold f7o at h; exact h)
  have hu:=hr.units
  refine⟨_,(a0j (a5z (pvF 0) (pvF 1) rfl)),?_⟩
  walk_at "rd*"
  intro H1 B1 h1
  exact k H1 B1 h1
theorem h8q (T : Tx K mg A) : a1q P A.wd K mg base CX0 1 A.b5v A.b2w ["self", "gain", "many"] (g4y A.a6v) := by
 have a4j:=T.a4j
 have a1w:=T.a1w
 have a1y:=T.a1y
 refine T.c5w.ok g0y (fun vs H Q E h=>?_) (fun cdv A' outer s H vs Q E hr h=>?_)
 ·obtain⟨_,_,_,rfl,_⟩:=f4h (by unfold g4y at h; exact h)
  rfl
 ·obtain⟨o,gt,n,rfl,⟨dx,ho,k⟩⟩:=f4h (by unfold g4y at h; exact h)
  have hu:=hr.units
  refine⟨_,(a0h (a5z (pvF 0) (pvF 1) rfl)
   (a0j (a5z (pvF 0) (pvF 2) rfl))),?_⟩
  walk_at "rd*"
  intro H1 B1 h1
  walk_at "rd*"
  intro H2 B2 h2
  exact k H2 (fun b u hb e=>B2 _ _ hb (B1 _ _ hb e)) h2
theorem j0a.same{H H':Hp}{fs:List (Str×V)}{d:Dt}(h:j0a H fs d)(S:Same H H'):j0a H' fs d:=by
 cases d with
 | gain y=>obtain⟨g,e,h1⟩:=h; exact⟨g,e,S _ _ h1⟩
 | delay n=>exact h
 | echo y n t=>obtain⟨g,fa,e,h1,h2⟩:=h; exact⟨g,fa,e,S _ _ h1,S _ _ h2⟩
 | back y n=>obtain⟨g,e,h1⟩:=h; exact⟨g,e,S _ _ h1⟩
 | _=>exact h.elim
theorem IsP.same{A:Ad}{H H':Hp}{o:Addr}{d:Dt}(h:IsP A H o d)(S:Same H H'):IsP A H' o d:=by
 obtain⟨dx,fs,h1,h2⟩:=h
 exact⟨dx,fs,S _ _ h1,h2.same S⟩
theorem h8r (T : Tx K mg A) : a1q P A.wd K mg base CX0 1 A.a4q A.b0k ["self"] d1v := by
 refine T.c1s.ok f5w (fun vs H Q E h=>?_) (fun cdv A' outer s H vs Q E hr h=>?_)
 ·obtain⟨_,rfl,_⟩:=b8l (by unfold d1v at h; exact h)
  rfl
 ·obtain⟨o,rfl,k⟩:=b8l (by unfold d1v at h; exact h)
  have hu:=hr.units
  refine⟨_,(a0j (a1h (b3w a0i))),?_⟩
  walk_at "rd"
  refine⟨Nat.zero_le _,fun t H1 n1 S1 h1=>k _ _ ⟨t,rfl,n1,S1,h1⟩⟩
theorem h5h (T : Tx K mg A) : a1q P A.wd K mg base CX0 1 A.a9o A.a7h ["self"] (f7p A.a7u) := by
 have a4i:=T.a4i
 have a1v:=T.a1v
 refine T.c1t.ok f5y (fun vs H Q E h=>?_) (fun cdv A' outer s H vs Q E hr h=>?_)
 ·obtain⟨_,rfl,_⟩:=b8l (by unfold f7p at h; exact h)
  rfl
 ·obtain⟨o,rfl,⟨p,q,⟨dx,gt,ho,hg⟩,k⟩⟩:=b8l (by unfold f7p at h; exact h)
  have hu:=hr.units
  refine⟨_,(a0j (a1h (a1t a5m (a0y (pvF 0) rfl) a0k (fun _ _=>rfl)))),?_⟩
  walk_at "rd*"
theorem i3t (T : Tx K mg A) : a1q P A.wd K mg base CX0 2 A.a6g A.a4w ["self", "state", "tops", "bottom"] (h4k A.a7u) := by
 have a9u:a1q P A.wd K mg base CX0 1 _ _ _ _:=d7q T
 have a4i:=T.a4i
 have a1v:=T.a1v
 refine T.b7p.ok d9o (fun vs H Q E h=>?_) (fun cdv A' outer s H vs Q E hr h=>?_)
 ·obtain⟨_,_,_,_,rfl,_⟩:=c2p (by unfold h4k at h; exact h)
  rfl
 ·obtain⟨o,st,x,bt,rfl,⟨p,q,xs,⟨dx,gt,ho,hg⟩,hx,lx,mx,k⟩⟩:=c2p (by unfold h4k at h; exact h)
  have hu:=hr.units
  have a6y:a2p 1 _:=hr.mono (by decide)
  refine⟨_,(a0j (a1h (b3w (a0g (a0v a9u a6y (by rfl) T.c1h T.a7p.kp T.c1g .nil a1j (a0g (pvF 2) (a0g (a1t a5m (a0y (pvF 0) rfl) a0k (fun _ _=>rfl)) a0i))) (a0g (pvF 1) a0i))))),?_⟩
  walk_at "rd*"
  refine⟨xs,rfl,mx,by omega,?_⟩
  rintro _ H1 ⟨ou,rfl,n1,S1,h1⟩
  walk_at "rd*"
  intro r H2 n2 S2 h2
  exact k r ou st H2 (S1.trans S2) (S1.free n2) n1 h2 (S2 _ _ h1)
theorem g1p (T : Tx K mg A) : a1q P A.wd K mg base CX0 1 A.a9n A.b0j ["self"] d7p := by
 refine T.c1r.ok f5v (fun vs H Q E h=>?_) (fun cdv A' outer s H vs Q E hr h=>?_)
 ·obtain⟨_,rfl,_⟩:=b8l (by unfold d7p at h; exact h)
  rfl
 ·obtain⟨o,rfl,k⟩:=b8l (by unfold d7p at h; exact h)
  have hu:=hr.units
  refine⟨_,(a0j (a1h a0k)),?_⟩
  walk_at "rd"
  exact k
theorem i3u (T : Tx K mg A) : a1q P A.wd K mg base CX0 2 A.a4y A.a4h ["self", "state", "tops", "bottom"] (h4l A.a4m) := by
 have c9y:a1q P A.wd K mg base CX0 1 _ _ _ _:=d4v T
 have c9z:a1q P A.wd K mg base CX0 1 _ _ _ _:=g5i T
 have a2y:=T.a2y
 have a1u:=T.a1u
 refine T.b4g.ok c7i (fun vs H Q E h=>?_) (fun cdv A' outer s H vs Q E hr h=>?_)
 ·obtain⟨_,_,_,_,rfl,_⟩:=c2p (by unfold h4l at h; exact h)
  rfl
 ·obtain⟨o,st,x,bt,rfl,⟨n,zs,xs,⟨dx,ho⟩,hz,hx,lz,lx,k⟩⟩:=c2p (by unfold h4l at h; exact h)
  have hu:=hr.units
  have c4l:a2p 1 _:=hr.mono (by decide)
  have c4m:a2p 1 _:=hr.mono (by decide)
  refine⟨_,(a0h (a0s (i:=4) c7i.nd rfl (Or.inl rfl) (a0w a2i (a2r a9y (by rfl) T.c9u boot_list (a0g (pvF 1) a0i)) (pvF 2)))
   (a0j (a1h (b3w (a0g (a0v c9y c4l (by rfl) T.f0j T.c0s.kp T.f0i .nil a1j (a0g (pvF 4) (a0g (a1g a2k (by rfl) T.b6z boot_len (a0g (pvF 1) a0i)) (a0g (a0y (pvF 0) rfl) a0i)))) (a0g (a0v c9z c4m (by rfl) T.f0l T.c0t.kp T.f0k .nil a1j (a0g (pvF 4) (a0g (a0y (pvF 0) rfl) a0i))) a0i)))))),?_⟩
  walk_at "rd*"
  intro l1 H1 n1 S1 h1
  have hx1:=S1 _ _ hx
  walk_at "rd*"
  refine⟨by rw [sizeLine_eq]; omega,?_⟩
  intro kn H2 n2 S2 h2
  rw [<- List.map_append] at h2
  have S02:Same H H2:=S1.trans S2
  have ho2:=S02 _ _ ho
  have hz2:=S02 _ _ hz
  clear h1 hx1
  walk_at "rd*"
  refine⟨zs++xs,rfl,zs.length,rfl,n,rfl,by simp,by simp; omega,?_⟩
  rintro _ H3 ⟨ou,rfl,n3,S3,h3⟩
  have ho3:=S3 _ _ ho2
  have h23:=S3 _ _ h2
  clear h2 ho2 hz2
  walk_at "rd*"
  refine⟨zs++xs,rfl,n,rfl,by simp; omega,?_⟩
  rintro _ H4 ⟨s2,rfl,n4,S4,h4⟩
  walk_at "rd*"
  intro r H5 n5 S5 h5
  exact k r ou s2 H5 (S02.trans (S3.trans (S4.trans S5))) ((S02.trans (S3.trans S4)).free n5) (S02.free n3) h5 (S5 _ _ (S4 _ _ h3)) (S5 _ _ h4)
theorem h5i (T : Tx K mg A) : a1q P A.wd K mg base CX0 1 A.a9q A.a7j ["self"] (f7q A.a6v) := by
 have a4j:=T.a4j
 have a1w:=T.a1w
 have a1y:=T.a1y
 refine T.c1z.ok f6i (fun vs H Q E h=>?_) (fun cdv A' outer s H vs Q E hr h=>?_)
 ·obtain⟨_,rfl,_⟩:=b8l (by unfold f7q at h; exact h)
  rfl
 ·obtain⟨o,rfl,⟨dx,gt,n,p,q,ho,hg,k⟩⟩:=b8l (by unfold f7q at h; exact h)
  have hu:=hr.units
  unfold bkF at ho
  refine⟨_,(a0j (a1h (a1t a5m (a0y (pvF 0) rfl) a0k (fun _ _=>rfl)))),?_⟩
  walk_at "rd*"
theorem i3v (T : Tx K mg A) : a1q P A.wd K mg base CX0 2 A.a6i A.a5g ["self", "state", "tops", "bottom"] (h4m A.a6v) := by
 have c9y:a1q P A.wd K mg base CX0 1 _ _ _ _:=d4v T
 have c9z:a1q P A.wd K mg base CX0 1 _ _ _ _:=g5i T
 have b8i:a1q P A.wd K mg base CX0 1 _ _ _ _:=f7y T
 have a9u:a1q P A.wd K mg base CX0 1 _ _ _ _:=d7q T
 have a4j:=T.a4j
 have a1w:=T.a1w
 have a1y:=T.a1y
 refine T.b7r.ok b3z (fun vs H Q E h=>?_) (fun cdv A' outer s H vs Q E hr h=>?_)
 ·obtain⟨_,_,_,_,rfl,_⟩:=c2p (by unfold h4m at h; exact h)
  rfl
 ·obtain⟨o,st,x,bt,rfl,⟨dx,gt,n,p,q,zs,xs,ho,hg,hz,hx,lz,lx,mz,mx,mq,m0,k⟩⟩:=c2p (by unfold h4m at h; exact h)
  have hu:=hr.units
  have c4l:a2p 1 _:=hr.mono (by decide)
  have c4m:a2p 1 _:=hr.mono (by decide)
  have b4r:a2p 1 _:=hr.mono (by decide)
  have a6y:a2p 1 _:=hr.mono (by decide)
  unfold bkF at ho
  refine⟨_,(a0h (a0s (i:=4) b3z.nd rfl (Or.inl rfl) (a0w a2i (a2r a9y (by rfl) T.c9u boot_list (a0g (pvF 1) a0i)) (pvF 2)))
   (a0h (a0s (i:=5) b3z.nd rfl (Or.inl rfl) (a0v c9y c4l (by rfl) T.f0j T.c0s.kp T.f0i .nil a1j (a0g (pvF 4) (a0g (a1g a2k (by rfl) T.b6z boot_len (a0g (pvF 1) a0i)) (a0g (a0y (pvF 0) rfl) a0i)))))
   (a0h (a0s (i:=6) b3z.nd rfl (Or.inl rfl) (a0v b8i b4r (by rfl) T.c9s T.a9s.kp T.c9r .nil a1j (a0g (a0v a9u a6y (by rfl) T.c1h T.a7p.kp T.c1g .nil a1j (a0g (pvF 2) (a0g (a1t a5m (a0y (pvF 0) rfl) a0k (fun _ _=>rfl)) a0i))) (a0g (a0v a9u a6y (by rfl) T.c1h T.a7p.kp T.c1g .nil a1j (a0g (pvF 5) (a0g (i5s h9t (a1t a5m (a0y (pvF 0) rfl) a0k (fun _ _=>rfl))) a0i))) a0i))))
   (a0j (a1h (b3w (a0g (pvF 6) (a0g (a0v c9z c4m (by rfl) T.f0l T.c0t.kp T.f0k .nil a1j (a0g (pvF 4) (a0g (a0y (pvF 0) rfl) a0i))) a0i)))))))),?_⟩
  walk_at "rd*"
  intro l1 H1 n1 S1 h1
  have hx1:=S1 _ _ hx
  walk_at "rd*"
  refine⟨by rw [sizeLine_eq]; omega,?_⟩
  intro kn H2 n2 S2 h2
  rw [<- List.map_append] at h2
  have S02:Same H H2:=S1.trans S2
  have ho2:=S02 _ _ ho
  have hz2:=S02 _ _ hz
  clear h1 hx1
  walk_at "rd*"
  refine⟨zs++xs,rfl,zs.length,rfl,n,rfl,by simp,by simp; omega,?_⟩
  rintro _ H3 ⟨hd,rfl,n3,S3,h3⟩
  have S03:=S02.trans S3
  have ho3:=S03 _ _ ho
  have hg3:=S03 _ _ hg
  have hx3:=S03 _ _ hx
  have h23:=S3 _ _ h2
  clear h2 ho2 hz2
  walk_at "rd*"
  refine⟨xs,rfl,mq,by omega,?_⟩
  rintro _ H4 ⟨t4,rfl,n4,S4,h4⟩
  have ho4:=S4 _ _ ho3
  have hg4:=S4 _ _ hg3
  have h34:=S4 _ _ h3
  clear ho3 hg3 hx3
  walk_at "rd*"
  have dl:=b7t (zs++xs) zs.length n
  refine⟨_,rfl,?_,by rw [dl]; simp; omega,?_⟩
  ·intro y hy
   rcases g7j hy with h | h
   ·rcases List.mem_append.mp h with h | h
    ·exact mz y h
    ·exact mx y h
   ·rw [h]; exact m0
  rintro _ H5 ⟨t5,rfl,n5,S5,h5⟩
  have h45:=S5 _ _ h4
  walk_at "rd*"
  refine⟨_,rfl,_,rfl,by simp; omega,by rw [List.length_map,dl]; simp; omega,?_⟩
  rintro _ H6 ⟨ou,rfl,n6,S6,h6⟩
  have S36:Same H3 H6:=(S4.trans S5).trans S6
  have ho6:=S36 _ _ (S03 _ _ ho)
  have h26:=S36 _ _ h23
  clear h4 h45 ho4 hg4 h34 h5 h3
  walk_at "rd*"
  refine⟨zs++xs,rfl,n,rfl,by simp; omega,?_⟩
  rintro _ H7 ⟨s2,rfl,n7,S7,h7⟩
  walk_at "rd*"
  intro r H8 n8 S8 h8
  have S06:=S03.trans S36
  exact k r ou s2 H8 (S06.trans (S7.trans S8)) ((S06.trans S7).free n8) ((S03.trans (S4.trans S5)).free n6) (S06.free n7) h8 (S8 _ _ (S7 _ _ h6)) (S8 _ _ h7)
theorem i4x{a b:List Int}(hl:a.length=b.length)(h:∀ i,i < a.length->a.getD i 0=b.getD i 0):a=b:=by
 apply List.ext_getElem?
 intro i
 by_cases hi:i < a.length
 ·have:=h i hi
  rw [List.getD_eq_getElem?_getD,List.getD_eq_getElem?_getD,List.getElem?_eq_getElem hi,List.getElem?_eq_getElem (by omega)] at this
  rw [List.getElem?_eq_getElem hi,List.getElem?_eq_getElem (by omega)]
  simpa using this
 ·rw [List.getElem?_eq_none (by omega),List.getElem?_eq_none (by omega)]
theorem f8h(a b:List Int)(i:Nat):(a++b).getD i 0=if i < a.length then a.getD i 0 else b.getD (i - a.length) 0:=by
 rw [List.getD_eq_getElem?_getD]
 split
 ·rename_i h
  rw [List.getElem?_append_left h,<- List.getD_eq_getElem?_getD]
 ·rename_i h
  rw [List.getElem?_append_right (by omega),<- List.getD_eq_getElem?_getD]
theorem h5j(a:List Int)(k i:Nat):(a.drop k).getD i 0=a.getD (k+i) 0:=by
 rw [List.getD_eq_getElem?_getD,List.getElem?_drop,<- List.getD_eq_getElem?_getD]
theorem g7l{xs ys:List Int}{k:Nat}(h:k<=xs.length):xs.drop k++ys=(xs++ys).drop k:=(List.drop_append_of_le_length h).symm
theorem f1j{xs ys:List Int}{N k:Nat}(hk:k<=N):g2t (xs.drop (xs.length - N)++ys) (xs.drop (xs.length - N)).length k=g2t (xs++ys) xs.length k:=by
 refine i4x (by rw [b7t,b7t]; simp) fun i hi=>?_
 rw [b7t,List.length_append] at hi
 rw [d3n (by rw [List.length_append]; omega),d3n (by rw [List.length_append]; omega),g7l (by omega),List.length_drop,h5j]
 by_cases h1:k<=xs.length+i
 ·by_cases h2:N<=xs.length
  ·rw [if_pos h1,if_pos (by omega)]
   congr 1
   omega
  ·have e:xs.length - N=0:=by omega
   rw [e,if_pos h1,if_pos (by omega)]
   congr 1
   omega
 ·rw [if_neg h1,if_neg (by omega)]
theorem f1k(xs ys:List Int)(N:Nat):(xs.drop (xs.length - N)++ys).drop ((xs.drop (xs.length - N)++ys).length - N)=(xs++ys).drop ((xs++ys).length - N):=by
 rw [g7l (by omega),List.drop_drop,List.length_drop,List.length_append]
 congr 1
 omega
theorem StV.same{H H':Hp}{xs:List Int}{st:V}{d:Dt}(h:StV H xs st d)(Z:Same H H'):StV H' xs st d:=by
 cases d with
 | gain y=>exact h
 | delay n=>obtain⟨p,e,h⟩:=h; exact⟨p,e,Z _ _ h⟩
 | echo y n t=>obtain⟨p,e,h⟩:=h; exact⟨p,e,Z _ _ h⟩
 | back y n=>obtain⟨p,e,h⟩:=h; exact⟨p,e,Z _ _ h⟩
 | _=>exact h.elim
theorem a5y(d:Dt)(xs ys:List Int):(outs d xs ys).length=ys.length:=by unfold outs; simp
theorem c2n{d:Dt}{xs ys:List Int}{i:Nat}(h:i < ys.length):(outs d xs ys).getD i 0=tap (j0b d) (c9v (xs++ys)) ((xs.length+i:Nat):Int):=by
 unfold outs
 rw [List.getD_eq_getElem?_getD,List.getElem?_map,List.getElem?_range h]
 rfl
theorem f1l(xs:List Int)(i n:Nat):c9v xs ((i:Int) - (n:Int))=if n<=i then xs.getD (i - n) 0 else 0:=by
 unfold c9v
 by_cases h:n<=i
 ·rw [if_neg (by omega),if_pos h]
  congr 1
  omega
 ·rw [if_pos (by omega),if_neg h]
theorem getD_at(xs ys:List Int)(i:Nat):(xs++ys).getD (xs.length+i) 0=ys.getD i 0:=by
 rw [f8h,if_neg (by omega)]
 congr 1
 omega
theorem f4v{X Y:Nat->Int}{p q:Int}{t:Nat}:∀ {j:Nat},(∀ m,m < j->X m=Y m)->h0j X p q t j=h0j Y p q t j
 | 0,_=>rfl
 | j+1,h=>by rw [h0j,h0j,f4v (fun m hm=>h m (by omega)),h j (by omega)]
theorem f1m(p q:Int)(t n:Nat)(X:Int->Int)(j:Int):∀ k,tap ((List.range k).map fun m=>(h6r p q t m,m*n)) X j=h0j (fun m=>X (j - ((m*n:Nat):Int))) p q t k
 | 0=>rfl
 | k+1=>by
  rw [List.range_succ,List.map_append,h0j,<- f1m p q t n X j k]
  unfold tap
  rw [List.map_append,List.sum_append]
  congr 1
  show _*_+0=_
  rw [Int.add_zero,Int.mul_comm]
theorem h5k(y:Rat)(xs ys:List Int):outs (.gain y) xs ys=ys.map (· * y.num):=by
 refine i4x (by rw [a5y,List.length_map]) fun i hi=>?_
 rw [a5y] at hi
 rw [c2n hi,c4k]
 show y.num*c9v (xs++ys) (((xs.length+i:Nat):Int) - ((0:Nat):Int))+0=_
 rw [Int.add_zero,f1l,if_pos (Nat.zero_le _),Nat.sub_zero,getD_at,Int.mul_comm]
theorem g9q(n:Nat)(xs ys:List Int):outs (.delay n) xs ys=g2t (xs++ys) xs.length n:=by
 refine i4x (by rw [a5y,b7t,List.length_append]; omega) fun i hi=>?_
 rw [a5y] at hi
 rw [c2n hi,d3n (by rw [List.length_append]; omega)]
 show 1*c9v (xs++ys) (((xs.length+i:Nat):Int) - (n:Int))+0=_
 rw [Int.add_zero,Int.one_mul,f1l]
theorem h5l(y:Rat)(n t:Nat)(xs ys:List Int):outs (.echo y n t) xs ys=h6t (xs.drop (xs.length - n*t)++ys) (xs.drop (xs.length - n*t)).length n y.num y.den t (t+1):=by
 refine i4x (by rw [a5y,h8o,List.length_append]; omega) fun i hi=>?_
 rw [a5y] at hi
 rw [c2n hi,g7k (by rw [List.length_append]; omega)]
 show tap ((List.range (t+1)).map _) _ _=_
 rw [f1m]
 refine f4v fun m hm=>?_
 have le:m*n<=n*t:=by
  rw [Nat.mul_comm n t]
  exact Nat.mul_le_mul_right n (by omega)
 rw [f1j le,d3n (by rw [List.length_append]; omega),f1l]
theorem h5m(y:Rat)(n:Nat)(xs ys:List Int):outs (.back y n) xs ys=f2w (ys.map (· * (y.den:Int))) ((g2t (xs++ys) xs.length n).map (· * (-y.num))):=by
 refine i4x (by rw [a5y,c6q,List.length_map,List.length_map,b7t,List.length_append]; omega) fun i hi=>?_
 rw [a5y] at hi
 rw [c2n hi,f7w (by rw [List.length_map]; omega),c4k,c4k,d3n (by rw [List.length_append]; omega)]
 show (y.den:Int)*c9v (xs++ys) (((xs.length+i:Nat):Int) - ((0:Nat):Int))+(-y.num*c9v (xs++ys) (((xs.length+i:Nat):Int) - (n:Int))+0)=_
 rw [f1l,f1l,if_pos (Nat.zero_le _),Nat.sub_zero,getD_at,Int.add_zero,Int.mul_comm,Int.mul_comm (-y.num)]
theorem i3w{xs ys:List Int}{i:Int}(h:i < (xs.length:Int)):c9v (xs++ys) i=c9v xs i:=by
 unfold c9v
 split
 ·rfl
 ·rw [f8h,if_pos (by omega)]
theorem g1q{L:List (Int×Nat)}{X Y:Int->Int}{i:Int}(h:∀ j,j<=i->X j=Y j):tap L X i=tap L Y i:=by
 unfold tap
 congr 1
 refine List.map_congr_left fun c _=>?_
 rw [h _ (by omega)]
theorem h8s(d:Dt)(xs ys zs:List Int):outs d xs (ys++zs)=outs d xs ys++outs d (xs++ys) zs:=by
 refine i4x (by rw [List.length_append,a5y,a5y,a5y,List.length_append]) fun i hi=>?_
 rw [a5y,List.length_append] at hi
 rw [c2n (by rw [List.length_append]; exact hi),f8h,a5y]
 split
 ·rename_i h
  rw [c2n h,<- List.append_assoc]
  exact g1q fun j hj=>i3w (by rw [List.length_append]; omega)
 ·rename_i h
  rw [c2n (by omega),<- List.append_assoc,List.length_append]
  congr 2
  omega
theorem d1w{k:Nat}{f:Addr}{fd:FuncData}{ps:List Str}{sp sp':Sp}(F:a1q P A.wd K mg base CX0 k f fd ps sp)(h:∀ vs H Q E,sp' vs H Q E->sp vs H Q E):a1q P A.wd K mg base CX0 k f fd ps sp' :=
 ⟨fun vs H Q E z=>F.len vs H Q E (h _ _ _ _ z),fun A outer s H args us vs Q E hr e0 hb hv z=>F.run A outer s H args us vs Q E hr e0 hb hv (h _ _ _ _ z)⟩
theorem h5n (T : Tx K mg A) : a1q P A.wd K mg base CX0 2 A.a6g A.a4w ["self", "state", "tops", "bottom"] (f7r A 0) := d1w (i3t T) fun vs H Q E h => by
 match vs,h with
 | [.ref o,st,.ref l,.int b],⟨d,xs,ys,hk,hp,ok,hst,hl,lx,ly,by0,q⟩ =>
  cases d with
  | gain y =>
   obtain⟨p,rfl⟩:=hst
   obtain⟨dx,_,ho,g,rfl,hg⟩:=hp
   have yb:=YOk.b ok
   exact⟨y.num,y.den,ys,⟨dx,g,ho,hg⟩,hl,by omega,fun z hz=>IntMulOk.of_right (by omega),fun r ou s2 H1 S1 nr no h1 h2=>q r ou _ H1 S1 nr no h1 (by rw [h2,h5k]) ⟨s2,rfl⟩⟩
  | _=>simp [Dt.kd] at hk
theorem g9r (T : Tx K mg A) : a1q P A.wd K mg base CX0 2 A.a4y A.a4h ["self", "state", "tops", "bottom"] (f7r A 1) := d1w (i3u T) fun vs H Q E h => by
 match vs,h with
 | [.ref o,st,.ref l,.int b],⟨d,xs,ys,hk,hp,ok,hst,hl,lx,ly,by0,q⟩ =>
  cases d with
  | delay n =>
   obtain⟨p,rfl,hs⟩:=hst
   obtain⟨dx,_,ho,rfl⟩:=hp
   exact⟨n,_,ys,⟨dx,ho⟩,hs,hl,by rw [List.length_drop]; omega,by omega,fun r ou s2 H1 S1 nr no h1 h2 h3=>q r ou _ H1 S1 nr no h1 (by rw [h2,g9q,f1j (Nat.le_refl _)]) ⟨s2,rfl,by rw [h3,f1k]⟩⟩
  | _=>simp [Dt.kd] at hk
theorem h5o (T : Tx K mg A) : a1q P A.wd K mg base CX0 2 A.a6h A.a4z ["self", "state", "tops", "bottom"] (f7r A 2) := d1w (i3s T) fun vs H Q E h => by
 match vs,h with
 | [.ref o,st,.ref l,.int b],⟨d,xs,ys,hk,hp,ok,hst,hl,lx,ly,by0,q⟩ =>
  cases d with
  | echo y n t =>
   obtain⟨p,rfl,hs⟩:=hst
   obtain⟨dx,_,ho,g,fa,rfl,hg,hf⟩:=hp
   obtain⟨oy,n1,n2,t2⟩:=ok
   have yb:=oy.b
   refine⟨y.num,y.den,n,t,_,ys,⟨dx,g,fa,ho,hg,hf⟩,hs,hl,by rw [List.length_drop]; omega,by omega,by omega,t2,yb.1,yb.2,fun z hz=>?_,fun r ou s2 H1 S1 nr no h1 h2 h3=>q r ou _ H1 S1 nr no h1 (by rw [h2,h5l]) ⟨s2,rfl,by rw [h3,f1k]⟩⟩
   refine Nat.le_trans (by0 z ?_) (by decide)
   rcases List.mem_append.mp hz with h | h
   ·exact List.mem_append_left _ (List.mem_of_mem_drop h)
   ·exact List.mem_append_right _ h
  | _=>simp [Dt.kd] at hk
theorem h5p (T : Tx K mg A) : a1q P A.wd K mg base CX0 2 A.a6i A.a5g ["self", "state", "tops", "bottom"] (f7r A 3) := d1w (i3v T) fun vs H Q E h => by
 match vs,h with
 | [.ref o,st,.ref l,.int b],⟨d,xs,ys,hk,hp,ok,hst,hl,lx,ly,by0,q⟩ =>
  cases d with
  | back y n =>
   obtain⟨p,rfl,hs⟩:=hst
   obtain⟨dx,_,ho,g,rfl,hg⟩:=hp
   obtain⟨oy,n1,n2⟩:=ok
   have yb:=oy.b
   have nb:=intBits_neg_le yb.1
   exact⟨dx,g,n,y.num,y.den,_,ys,ho,hg,hs,hl,by rw [List.length_drop]; omega,by omega,fun z hz=>IntMulOk.of_right (by omega),fun z hz=>IntMulOk.of_right (by omega),fun z hz=>IntMulOk.of_right (by omega),IntMulOk.of_left (by decide),fun r ou s2 H1 S1 nr no n2' h1 h2 h3=>q r ou _ H1 S1 nr no h1 (by rw [h2,h5m,f1j (Nat.le_refl _)]) ⟨s2,rfl,by rw [h3,f1k]⟩⟩
  | _=>simp [Dt.kd] at hk
theorem g1r (T : Tx K mg A) : a1q P A.wd K mg base CX0 1 A.a9o A.a7h ["self"] (g9n A 0) := d1w (h5h T) fun vs H Q E h => by
 match vs,h with
 | [.ref o],⟨d,hk,hp,q⟩ =>
  cases d with
  | gain y =>
   obtain⟨dx,_,ho,g,rfl,hg⟩:=hp
   exact⟨y.num,y.den,⟨dx,g,ho,hg⟩,q⟩
  | _=>simp [Dt.kd] at hk
theorem g1s (T : Tx K mg A) : a1q P A.wd K mg base CX0 1 A.a9p A.a7i ["self"] (g9n A 2) := d1w (h5e T) fun vs H Q E h => by
 match vs,h with
 | [.ref o],⟨d,hk,hp,q⟩ =>
  cases d with
  | echo y n t =>
   obtain⟨dx,_,ho,g,fa,rfl,hg,hf⟩:=hp
   exact⟨y.num,y.den,n,t,⟨dx,g,fa,ho,hg,hf⟩,q⟩
  | _=>simp [Dt.kd] at hk
theorem g1t (T : Tx K mg A) : a1q P A.wd K mg base CX0 1 A.a9q A.a7j ["self"] (g9n A 3) := d1w (h5i T) fun vs H Q E h => by
 match vs,h with
 | [.ref o],⟨d,hk,hp,q⟩ =>
  cases d with
  | back y n =>
   obtain⟨dx,_,ho,g,rfl,hg⟩:=hp
   exact⟨dx,g,n,y.num,y.den,ho,hg,q⟩
  | _=>simp [Dt.kd] at hk
theorem h8t{d:Dt}(hk:d.kd < 4){H:Hp}{p:Addr}(h:H p=some (.tup [])):StV H [] (.ref p) d:=by
 cases d with
 | gain=>exact⟨p,rfl⟩
 | delay=>exact⟨p,rfl,by rw [List.drop_nil]; exact h⟩
 | echo=>exact⟨p,rfl,by rw [List.drop_nil]; exact h⟩
 | back=>exact⟨p,rfl,by rw [List.drop_nil]; exact h⟩
 | hall=>exact absurd hk (by simp [Dt.kd])
 | swell=>exact absurd hk (by simp [Dt.kd])
theorem IsP.kd4{A:Ad}{H:Hp}{o:Addr}{d:Dt}(h:IsP A H o d):d.kd < 4:=by
 obtain⟨_,_,_,h⟩:=h
 cases d with
 | gain=>simp [Dt.kd]
 | delay=>simp [Dt.kd]
 | echo=>simp [Dt.kd]
 | back=>simp [Dt.kd]
 | _=>exact h.elim
theorem i3x (T : Tx K mg A) : a1q P A.wd K mg base CX0 4 A.b1z A.b3g ["text"] j2y := by
 have f1n:a1q P A.wd K mg base CX0 3 _ _ _ _:=i3q T
 refine T.b2l.ok d6g (fun vs H Q E h=>?_) (fun cdv A' outer s H vs Q E hr h=>?_)
 ·obtain⟨_,rfl,_⟩:=g7f (by unfold j2y at h; exact h)
  rfl
 ·obtain⟨x,rfl,⟨y,hx,oy,k⟩⟩:=g7f (by unfold j2y at h; exact h)
  subst hx
  have hu:=hr.units
  have d7g:a2p 3 _:=hr.mono (by decide)
  refine⟨_,(a0h (i2d (a0s (i:=1) d6g.nd rfl (Or.inl rfl) (a0v f1n d7g (by rfl) T.f0h T.a9r.kp T.f0g .nil a1j (a0g (pvF 0) a0i))))
   (a0h (a6n (pw_or (a1r g0d (a1g b9w (by rfl) T.g4t boot_abs (a0g (a1t a5m (pvF 1) a0k (fun _ _=>rfl)) a0i)) (a9i (v:=.int 1000) (by rfl) T.d6q T.c2k) (a2s _)) (pw_or1 (a1r g0d (a1t a5m (pvF 1) a0k (fun _ _=>rfl)) (a9i (v:=.int 1000) (by rfl) T.d6q T.c2k) (a2s _)))).pt
   (a0j a2w)
   a2h)
   (a0j (a1h (pvF 1))))),?_⟩
  walk_at "rd"
  refine⟨y.num,(y.den:Int),i2f oy,?_⟩
  rintro _ H1 ⟨o,rfl,n1,S1,h1⟩
  have y1:¬ 1000 < (y.num.natAbs:Int):=by have:=oy.1; omega
  have y2:¬ 1000 < (y.den:Int):=by have:=oy.2; omega
  walk_at "rd*"
  exact k _ _ ⟨o,rfl,n1,S1,h1⟩
theorem i3y (T : Tx K mg A) : a1q P A.wd K mg base CX0 3 A.a7k A.a7y ["text", "least", "most"] j2z := by
 have g9s:a1q P A.wd K mg base CX0 2 _ _ _ _:=i8v T
 refine T.a7q.ok d0z (fun vs H Q E h=>?_) (fun cdv A' outer s H vs Q E hr h=>?_)
 ·obtain⟨_,_,_,rfl,_⟩:=i0r (by unfold j2z at h; exact h)
  rfl
 ·obtain⟨x,a,b,rfl,⟨n,hx,hn,h1,h2,q⟩⟩:=i0r (by unfold j2z at h; exact h)
  have hu:=hr.units
  have g5k:a2p 2 _:=hr.mono (by decide)
  refine⟨_,(a0h (a0s (i:=3) d0z.nd rfl (Or.inl rfl) (a0v g9s g5k (by rfl) T.g8w T.c3s.kp T.g8v .nil a1j (a0g (pvF 0) a0i)))
   (a0h (a6n (pw_or (a1r i5x (pvF 3) h0r (a2s _)) (pw_or (a1r of_lt (pvF 3) (pvF 1) (a2s _)) (pw_or1 (a1r g0d (pvF 3) (pvF 2) (a2s _))))).pt
   (a0j a2w)
   a2h)
   (a0j (a1h (pvF 3))))),?_⟩
  walk_at "rd"
  refine⟨n,hx,by omega,?_⟩
  have z1:¬ (n:Int) < a:=by omega
  have z2:¬ b < (n:Int):=by omega
  walk_at "rd*"
theorem i8x (T : Tx K mg A) : a1q P A.wd K mg base CX0 4 A.b2g A.b3h ["text"] j3a := by
 have b4s:a1q P A.wd K mg base CX0 3 _ _ _ _:=i3y T
 refine T.b6w.ok g1a (fun vs H Q E h=>?_) (fun cdv A' outer s H vs Q E hr h=>?_)
 ·obtain⟨_,rfl,_⟩:=g7f (by unfold j3a at h; exact h)
  rfl
 ·obtain⟨x,rfl,⟨n,hx,n1,n2,q⟩⟩:=g7f (by unfold j3a at h; exact h)
  subst hx
  have hu:=hr.units
  have b1l:a2p 3 _:=hr.mono (by decide)
  refine⟨_,(a0j (a1h (a0v b4s b1l (by rfl) T.c6m T.a7q.kp T.c6l .nil a1j (a0g (pvF 0) (a0g a0k (a0g (a9i (v:=.int 1000) (by rfl) T.d6r T.c2l) a0i)))))),?_⟩
  walk_at "rd"
  exact⟨n,h7y n,by omega,by omega,by omega,q⟩
theorem h8u (T : Tx K mg A) : a1q P A.wd K mg base CX0 1 A.a7l A.a7z ["values", "count"] j3b := by
 refine T.a5u.ok f2n (fun vs H Q E h=>?_) (fun cdv A' outer s H vs Q E hr h=>?_)
 ·obtain⟨_,_,rfl,_⟩:=d6v (by unfold j3b at h; exact h)
  rfl
 ·obtain⟨l,c,rfl,⟨xs,hl,e,q⟩⟩:=d6v (by unfold j3b at h; exact h)
  have hu:=hr.units
  refine⟨_,(a0j (a6n (a1r (c2z hu) (a1g a2k (by rfl) T.b6z boot_len (a0g (pvF 0) a0i)) (pvF 1) (a2s _))
   (a0j a2w)
   a2h)),?_⟩
  walk_at "rd*"
theorem g9t (T : Tx K mg A) : a1q P A.wd K mg base CX0 6 A.b7z A.b9r ["values"] (h0k A 0) := by
 have a7s:a1q P A.wd K mg base CX0 1 _ _ _ _:=h8u T
 have c1k:a1q P A.wd K mg base CX0 4 _ _ _ _:=i3x T
 have g5l:a1q P A.wd K mg base CX0 1 _ _ _ _:=h8p T
 have a4i:=T.a4i
 have a1v:=T.a1v
 refine T.c9h.ok g8r (fun vs H Q E h=>?_) (fun cdv A' outer s H vs Q E hr h=>?_)
 ·obtain⟨_,rfl,_⟩:=b8l (by unfold h0k at h; exact h)
  rfl
 ·obtain⟨l,rfl,⟨d,hk,ok,hl,q⟩⟩:=b8l (by unfold h0k at h; exact h)
  cases d with
  | gain y =>
   have hu:=hr.units
   have a6j:a2p 1 _:=hr.mono (by decide)
   have b8j:a2p 4 _:=hr.mono (by decide)
   have g1u:a2p 2 _:=hr.mono (by decide)
   replace hl:H l=some (.lst [.str (fW y)]):=hl
   refine⟨_,(a0h (a6m (a0v a7s a6j (by rfl) T.b9i T.a5u.kp T.b9h .nil a1j (a0g (pvF 0) (a0g a0k a0i))))
   (a0j (a1h (c4p T.h3o g5l g1u (by rfl) T.i2t T.g4f .nil a1j (a0g (a0v c1k b8j (by rfl) T.d1u T.b2l.kp T.d1t .nil a1j (a0g (a1t a5m (pvF 0) a0k (fun _ _=>rfl)) a0i)) a0i))))),?_⟩
   walk_at "rd"
   refine⟨_,hl,rfl,?_⟩
   walk_at "rd*"
   refine⟨y,rfl,ok,?_⟩
   rintro _ H1 ⟨g,rfl,n1,S1,h1⟩
   walk_at "rd"
   intro x dx H2 n2 n3 nx S2 hdx hx
   refine⟨dx,hx,fun H3 B3 h3=>?_⟩
   rw [asNew]
   refine⟨rfl,?_⟩
   have gx:g≠x:=fun e=>by rw [e] at h1; rw [h1] at n2; cases n2
   refine q x H3 (S1.free n2) (fun b u e=>B3 _ _ (fun z=>by rw [z] at e; rw [S1 _ _ e] at n2; cases n2) (S2 _ _ (S1 _ _ e))) ⟨dx,_,h3,g,rfl,B3 _ _ gx (S2 _ _ h1)⟩
  | _=>simp [Dt.kd] at hk
theorem g5m (T : Tx K mg A) : a1q P A.wd K mg base CX0 6 A.b3i A.b5y ["values"] (h0k A 1) := by
 have a7s:a1q P A.wd K mg base CX0 1 _ _ _ _:=h8u T
 have b4s:a1q P A.wd K mg base CX0 3 _ _ _ _:=i3y T
 have g1v:a1q P A.wd K mg base CX0 1 _ _ _ _:=h5g T
 have a2y:=T.a2y
 have a1u:=T.a1u
 refine T.c3w.ok g3u (fun vs H Q E h=>?_) (fun cdv A' outer s H vs Q E hr h=>?_)
 ·obtain⟨_,rfl,_⟩:=b8l (by unfold h0k at h; exact h)
  rfl
 ·obtain⟨l,rfl,⟨d,hk,ok,hl,q⟩⟩:=b8l (by unfold h0k at h; exact h)
  cases d with
  | delay n =>
   have hu:=hr.units
   have a6j:a2p 1 _:=hr.mono (by decide)
   have b1l:a2p 3 _:=hr.mono (by decide)
   have f8i:a2p 2 _:=hr.mono (by decide)
   have ok:n<=1000:=ok
   replace hl:H l=some (.lst [.str (nW n)]):=hl
   refine⟨_,(a0h (a6m (a0v a7s a6j (by rfl) T.b9i T.a5u.kp T.b9h .nil a1j (a0g (pvF 0) (a0g a0k a0i))))
   (a0j (a1h (c4p T.g4b g1v f8i (by rfl) T.h8g T.g1f .nil a1j (a0g (a0v b4s b1l (by rfl) T.c6m T.a7q.kp T.c6l .nil a1j (a0g (a1t a5m (pvF 0) a0k (fun _ _=>rfl)) (a0g a0k (a0g (a9i (v:=.int 1000) (by rfl) T.d6r T.c2l) a0i)))) a0i))))),?_⟩
   walk_at "rd"
   refine⟨_,hl,rfl,?_⟩
   walk_at "rd*"
   refine⟨n,h7y n,by omega,by omega,by omega,?_⟩
   intro x dx H2 n2 n3 nx S2 hdx hx
   refine⟨dx,hx,fun H3 B3 h3=>?_⟩
   rw [asNew]
   refine⟨rfl,?_⟩
   exact q x H3 n2 (fun b u e=>B3 _ _ (fun z=>by rw [z] at e; rw [e] at n2; cases n2) (S2 _ _ e)) ⟨dx,_,h3,rfl⟩
  | _=>simp [Dt.kd] at hk
theorem g9u (T : Tx K mg A) : a1q P A.wd K mg base CX0 6 A.b8g A.b9s ["values"] (h0k A 2) := by
 have a7s:a1q P A.wd K mg base CX0 1 _ _ _ _:=h8u T
 have c1k:a1q P A.wd K mg base CX0 4 _ _ _ _:=i3x T
 have d1y:a1q P A.wd K mg base CX0 4 _ _ _ _:=i8x T
 have b4s:a1q P A.wd K mg base CX0 3 _ _ _ _:=i3y T
 have g5n:a1q P A.wd K mg base CX0 2 _ _ _ _:=h8n T
 have a3i:=T.a3i
 have a1n:=T.a1n
 have a1o:=T.a1o
 have a1i:=T.a1i
 have a0t:=T.a0t
 have a0q:=T.a0q
 refine T.c9i.ok g8s (fun vs H Q E h=>?_) (fun cdv A' outer s H vs Q E hr h=>?_)
 ·obtain⟨_,rfl,_⟩:=b8l (by unfold h0k at h; exact h)
  rfl
 ·obtain⟨l,rfl,⟨d,hk,ok,hl,q⟩⟩:=b8l (by unfold h0k at h; exact h)
  cases d with
  | echo y n t =>
   have hu:=hr.units
   have a6j:a2p 1 _:=hr.mono (by decide)
   have b8j:a2p 4 _:=hr.mono (by decide)
   have d0g:a2p 4 _:=hr.mono (by decide)
   have b1l:a2p 3 _:=hr.mono (by decide)
   have g1w:a2p 3 _:=hr.mono (by decide)
   obtain⟨oy,na,nb,tb⟩:=ok
   replace hl:H l=some (.lst [.str (fW y),.str (nW n),.str (nW t)]):=hl
   refine⟨_,(a0h (a6m (a0v a7s a6j (by rfl) T.b9i T.a5u.kp T.b9h .nil a1j (a0g (pvF 0) (a0g a0k a0i))))
   (a0j (a1h (c4p T.h3p g5n g1w (by rfl) T.i2u T.g4h .nil a1j (a0g (a0v c1k b8j (by rfl) T.d1u T.b2l.kp T.d1t .nil a1j (a0g (a1t a5m (pvF 0) a0k (fun _ _=>rfl)) a0i)) (a0g (a0v d1y d0g (by rfl) T.f0s T.b6w.kp T.f0r .nil a1j (a0g (a1t a5m (pvF 0) a0k (fun _ _=>rfl)) a0i)) (a0g (a0v b4s b1l (by rfl) T.c6m T.a7q.kp T.c6l .nil a1j (a0g (a1t a5m (pvF 0) a0k (fun _ _=>rfl)) (a0g a0k (a0g (a9i (v:=.int 16) (by rfl) T.f7k T.c6i) a0i)))) a0i))))))),?_⟩
   walk_at "rd"
   refine⟨_,hl,rfl,?_⟩
   walk_at "rd*"
   refine⟨y,rfl,oy,?_⟩
   rintro _ H1 ⟨g,rfl,n1,S1,h1⟩
   have hl1:=S1 _ _ hl
   clear hl
   walk_at "rd*"
   refine⟨n,rfl,na,nb,t,h7y t,by omega,by omega,by omega,?_⟩
   intro x dx H2 n2 n3 nx S2 hdx hx
   refine⟨dx,n,t,y.num,(y.den:Int),rfl,rfl,tb,oy.b.1,oy.b.2,S2 _ _ h1,hx,fun fa H3 B3 nf h3 hf=>?_⟩
   rw [asNew]
   refine⟨rfl,?_⟩
   have gx:g≠x:=fun e=>by rw [e] at h1; rw [h1] at n2; cases n2
   exact q x H3 (S1.free n2) (fun b u e=>B3 _ _ (fun z=>by rw [z] at e; rw [S1 _ _ e] at n2; cases n2) (S2 _ _ (S1 _ _ e))) ⟨dx,_,h3,g,fa,rfl,B3 _ _ gx (S2 _ _ h1),hf⟩
  | _=>simp [Dt.kd] at hk
theorem g9v (T : Tx K mg A) : a1q P A.wd K mg base CX0 6 A.b8h A.b9t ["values"] (h0k A 3) := by
 have a7s:a1q P A.wd K mg base CX0 1 _ _ _ _:=h8u T
 have c1k:a1q P A.wd K mg base CX0 4 _ _ _ _:=i3x T
 have d1y:a1q P A.wd K mg base CX0 4 _ _ _ _:=i8x T
 have g5o:a1q P A.wd K mg base CX0 1 _ _ _ _:=h8q T
 have a4j:=T.a4j
 have a1w:=T.a1w
 have a1y:=T.a1y
 refine T.c9j.ok g8t (fun vs H Q E h=>?_) (fun cdv A' outer s H vs Q E hr h=>?_)
 ·obtain⟨_,rfl,_⟩:=b8l (by unfold h0k at h; exact h)
  rfl
 ·obtain⟨l,rfl,⟨d,hk,ok,hl,q⟩⟩:=b8l (by unfold h0k at h; exact h)
  cases d with
  | back y n =>
   have hu:=hr.units
   have a6j:a2p 1 _:=hr.mono (by decide)
   have b8j:a2p 4 _:=hr.mono (by decide)
   have d0g:a2p 4 _:=hr.mono (by decide)
   have g1x:a2p 2 _:=hr.mono (by decide)
   obtain⟨oy,na,nb⟩:=ok
   replace hl:H l=some (.lst [.str (fW y),.str (nW n)]):=hl
   refine⟨_,(a0h (a6m (a0v a7s a6j (by rfl) T.b9i T.a5u.kp T.b9h .nil a1j (a0g (pvF 0) (a0g a0k a0i))))
   (a0j (a1h (c4p T.h3q g5o g1x (by rfl) T.i2v T.g4j .nil a1j (a0g (a0v c1k b8j (by rfl) T.d1u T.b2l.kp T.d1t .nil a1j (a0g (a1t a5m (pvF 0) a0k (fun _ _=>rfl)) a0i)) (a0g (a0v d1y d0g (by rfl) T.f0s T.b6w.kp T.f0r .nil a1j (a0g (a1t a5m (pvF 0) a0k (fun _ _=>rfl)) a0i)) a0i)))))),?_⟩
   walk_at "rd"
   refine⟨_,hl,rfl,?_⟩
   walk_at "rd*"
   refine⟨y,rfl,oy,?_⟩
   rintro _ H1 ⟨g,rfl,n1,S1,h1⟩
   have hl1:=S1 _ _ hl
   clear hl
   walk_at "rd*"
   refine⟨n,rfl,na,nb,?_⟩
   intro x dx H2 n2 n3 nx S2 hdx hx
   refine⟨dx,hx,fun H3 B3 h3=>?_⟩
   rw [asNew]
   refine⟨rfl,?_⟩
   have gx:g≠x:=fun e=>by rw [e] at h1; rw [h1] at n2; cases n2
   exact q x H3 (S1.free n2) (fun b u e=>B3 _ _ (fun z=>by rw [z] at e; rw [S1 _ _ e] at n2; cases n2) (S2 _ _ (S1 _ _ e))) ⟨dx,_,h3,g,rfl,B3 _ _ gx (S2 _ _ h1)⟩
  | _=>simp [Dt.kd] at hk
theorem i3z (T : Tx K mg A) : a1q P A.wd K mg base CX0 8 A.c0j A.b9u ["word"] (h4n A) := by
 have h5q:a1q P A.wd K mg base CX0 6 _ _ _ _:=g9t T
 have g9w:a1q P A.wd K mg base CX0 6 _ _ _ _:=g5m T
 have h5r:a1q P A.wd K mg base CX0 6 _ _ _ _:=g9u T
 have h5s:a1q P A.wd K mg base CX0 6 _ _ _ _:=g9v T
 refine T.c9k.ok f4p (fun vs H Q E h=>?_) (fun cdv A' outer s H vs Q E hr h=>?_)
 ·obtain⟨_,rfl,_⟩:=g7f (by unfold h4n at h; exact h)
  rfl
 ·obtain⟨x,rfl,⟨d,ok,k4,hx,q⟩⟩:=g7f (by unfold h4n at h; exact h)
  subst hx
  have hu:=hr.units
  have g9x:a2p 6 _:=hr.mono (by decide)
  have g5p:a2p 6 _:=hr.mono (by decide)
  have g9y:a2p 6 _:=hr.mono (by decide)
  have g9z:a2p 6 _:=hr.mono (by decide)
  have dk:=T.g9m
  have sp:=d.split
  have wl:=d.wlen ok
  have vn:=d.vn
  have hs:sizeLine=16777216:=sizeLine_eq
  have d1:((⟨#[58]⟩:Str).length == 0)=false:=rfl
  obtain⟨f,hf⟩:∃ f,PySem.W.nsIn K A.a3l d.kind=some (some (.ref f)):=by
   cases d with
   | gain=>exact⟨_,T.b4l⟩
   | delay=>exact⟨_,T.b1s⟩
   | echo=>exact⟨_,T.b4m⟩
   | back=>exact⟨_,T.b4n⟩
   | hall=>exact absurd k4 (by simp [Dt.kd])
   | swell=>exact absurd k4 (by simp [Dt.kd])
  refine ⟨_, (a0h (a6n (c6z (b1u (a1g (c1p .str) (by rfl) T.a6w boot_isinstance (a0g (pvF 0) (a0g (c7r (v := .ty "str") (u := .type "str") (by rfl) T.f7j rfl rfl) a0i)))))
   (a0j a2w)
   a2h)
   (a0h (a0s (i:=1) f4p.nd rfl (Or.inl rfl) (c3i d2n PySem.F.plainAttrs_str PySem.F.slot_str_split PySem.F.type_str_split g6w (pvF 0) (a0g a3g a0i)))
   (a0h (a6n (a1r (h2y (K:=K) (w:=A.wd) (by rfl) (by rfl)) (a1t a5m (pvF 1) a0k (fun _ _=>rfl)) (a9i (v:=.ref A.a3l) (by rfl) T.c4j rfl) (by rfl))
   (a0j a2w)
   a2h)
   (a0j (a1h (a3k (d7o h5q g9x T.c9h.kp T.h3u .nil a1j (a1t (i9z (K:=K) (w:=A.wd) (by rfl) (by rfl)) (a9i (v:=.ref A.a3l) (by rfl) T.c4j rfl) (a1t a5m (pvF 1) a0k (fun _ _=>rfl)) (fun _ _=>rfl)) (a0g (a5k g0g (pvF 1) (a3t a0k) b1h) a0i)) (a3k (d7o g9w g5p T.c3w.kp T.g9b .nil a1j (a1t (i9z (K:=K) (w:=A.wd) (by rfl) (by rfl)) (a9i (v:=.ref A.a3l) (by rfl) T.c4j rfl) (a1t a5m (pvF 1) a0k (fun _ _=>rfl)) (fun _ _=>rfl)) (a0g (a5k g0g (pvF 1) (a3t a0k) b1h) a0i)) (a3k (d7o h5r g9y T.c9i.kp T.h3v .nil a1j (a1t (i9z (K:=K) (w:=A.wd) (by rfl) (by rfl)) (a9i (v:=.ref A.a3l) (by rfl) T.c4j rfl) (a1t a5m (pvF 1) a0k (fun _ _=>rfl)) (fun _ _=>rfl)) (a0g (a5k g0g (pvF 1) (a3t a0k) b1h) a0i)) (d7o h5s g9z T.c9j.kp T.h3w .nil a1j (a1t (i9z (K:=K) (w:=A.wd) (by rfl) (by rfl)) (a9i (v:=.ref A.a3l) (by rfl) T.c4j rfl) (a1t a5m (pvF 1) a0k (fun _ _=>rfl)) (fun _ _=>rfl)) (a0g (a5k g0g (pvF 1) (a3t a0k) b1h) a0i)))))))))),?_⟩
  rw [j2m]
  walk_at "rd*"
  refine⟨by omega,by omega,fun l H1 n1 S1 h1=>?_⟩
  clear sp wl
  walk_at "rd*"
  clear hf
  cases d with
  | gain y =>
   refine Or.inl ?_
   have rd:=T.b4l
   have q1:=ok
   clear ok
   replace h1 : H1 l = some (.lst [.str (Str.ofString "gain"), .str (fW y)]) := h1
   walk_at "rd*"
   refine fun m H2 n2 S2 h2=>?_
   have e2 : f5k [V.str (Str.ofString "gain"), V.str (fW y)] (some 1) none = (Dt.gain y).vals.map V.str := by
    show f2k _ (some ((1:Nat):Int)) none=_
    rw [a9k]
    rfl
   rw [e2] at h2
   walk_at "rd"
   exact⟨_,rfl,q1,h2,fun o H3 n3 S3 hp=>q o H3 ((S1.trans S2).free n3) (S1.trans (S2.trans S3)) hp⟩
  | delay n =>
   refine Or.inr (Or.inl ?_)
   have rd:=T.b1s
   have q1:=ok
   clear ok
   replace h1 : H1 l = some (.lst [.str (Str.ofString "delay"), .str (nW n)]) := h1
   walk_at "rd*"
   refine fun m H2 n2 S2 h2=>?_
   have e2 : f5k [V.str (Str.ofString "delay"), V.str (nW n)] (some 1) none = (Dt.delay n).vals.map V.str := by
    show f2k _ (some ((1:Nat):Int)) none=_
    rw [a9k]
    rfl
   rw [e2] at h2
   walk_at "rd"
   exact⟨_,rfl,q1,h2,fun o H3 n3 S3 hp=>q o H3 ((S1.trans S2).free n3) (S1.trans (S2.trans S3)) hp⟩
  | echo y n t =>
   refine Or.inr (Or.inr (Or.inl ?_))
   have rd:=T.b4m
   have q1:=ok
   clear ok
   replace h1 : H1 l = some (.lst [.str (Str.ofString "echo"), .str (fW y), .str (nW n), .str (nW t)]) := h1
   walk_at "rd*"
   refine fun m H2 n2 S2 h2=>?_
   have e2 : f5k [V.str (Str.ofString "echo"), V.str (fW y), V.str (nW n), V.str (nW t)] (some 1) none = (Dt.echo y n t).vals.map V.str := by
    show f2k _ (some ((1:Nat):Int)) none=_
    rw [a9k]
    rfl
   rw [e2] at h2
   walk_at "rd"
   exact⟨_,rfl,q1,h2,fun o H3 n3 S3 hp=>q o H3 ((S1.trans S2).free n3) (S1.trans (S2.trans S3)) hp⟩
  | back y n =>
   refine Or.inr (Or.inr (Or.inr ?_))
   have rd:=T.b4n
   have q1:=ok
   clear ok
   replace h1 : H1 l = some (.lst [.str (Str.ofString "back"), .str (fW y), .str (nW n)]) := h1
   walk_at "rd*"
   refine fun m H2 n2 S2 h2=>?_
   have e2 : f5k [V.str (Str.ofString "back"), V.str (fW y), V.str (nW n)] (some 1) none = (Dt.back y n).vals.map V.str := by
    show f2k _ (some ((1:Nat):Int)) none=_
    rw [a9k]
    rfl
   rw [e2] at h2
   walk_at "rd"
   exact⟨_,rfl,q1,h2,fun o H3 n3 S3 hp=>q o H3 ((S1.trans S2).free n3) (S1.trans (S2.trans S3)) hp⟩
  | hall y n=>exact absurd k4 (by simp [Dt.kd])
  | swell cs=>exact absurd k4 (by simp [Dt.kd])
theorem c1l{C o:Addr}{i:Nat}{m:Str}{sp:Sp}{E:XK}{t:TA}{σ:L2.St}{H:Hp}{Q:VK}{dx:Addr}{fs:List (Str×V)}(hσ:σ[i]? = some (some (.ref o)))(ho:H o=some (.ins C dx fs))(hl:fs.lookup m=none)(ht:t σ H fun vs H2=>sp (.ref o :: (vs++[])) H2 Q E):b2m C m sp [] E (c3g i) t σ H Q:=by
 simp only [b2m,c3g,hσ,ho]
 exact⟨trivial,hl,ht⟩
theorem thr4{σ:L2.St}{i:Nat}{o:Addr}{H:Hp}{d:Dt}{Q:VK}{E:XK}{t:TA}(hσ:σ[i]? = some (some (.ref o)))(hd:IsP A H o d)(ht:t σ H fun vs H2=>f7r A d.kd (.ref o :: (vs++[])) H2 Q E) :
  b5g (b2m A.a7u "through" (f7r A 0) [] E (c3g i) t) (b5g (b2m A.a4m "through" (f7r A 1) [] E (c3g i) t) (b5g (b2m A.a5i "through" (f7r A 2) [] E (c3g i) t) (b2m A.a6v "through" (f7r A 3) [] E (c3g i) t))) σ H Q := by
 cases d with
 | gain y =>
  obtain⟨dx,_,ho,g,rfl,hg⟩:=hd
  refine .inl ?_
  replace ho : H o = some (.ins A.a7u dx [("gain", .ref g)]) := ho
  exact c1l hσ ho (by walk_at "rd") ht
 | delay n =>
  obtain⟨dx,_,ho,rfl⟩:=hd
  refine .inr (.inl ?_)
  replace ho : H o = some (.ins A.a4m dx [("many", .int n)]) := ho
  exact c1l hσ ho (by walk_at "rd") ht
 | echo y n t' =>
  obtain⟨dx,_,ho,g,fa,rfl,hg,hf⟩:=hd
  refine .inr (.inr (.inl ?_))
  replace ho:H o=some (.ins A.a5i dx (ecF g fa n t' (y.den:Int))):=ho
  unfold ecF at ho
  exact c1l hσ ho (by walk_at "rd") ht
 | back y n =>
  obtain⟨dx,_,ho,g,rfl,hg⟩:=hd
  refine .inr (.inr (.inr ?_))
  replace ho : H o = some (.ins A.a6v dx [("gain", .ref g), ("many", .int n)]) := ho
  exact c1l hσ ho (by walk_at "rd") ht
 | _=>obtain⟨_,_,_,z⟩:=hd; exact z.elim
theorem fr4{σ:L2.St}{i:Nat}{o:Addr}{H:Hp}{d:Dt}{Q:VK}{E:XK}(hσ:σ[i]? = some (some (.ref o)))(hd:IsP A H o d)(q:∀ st H1,Same H H1->StV H1 [] st d->Q st H1) :
  b5g (b2m A.a7u "fresh" d1v [] E (c3g i) g2z) (b5g (b2m A.a4m "fresh" d1v [] E (c3g i) g2z) (b5g (b2m A.a5i "fresh" d1v [] E (c3g i) g2z) (b2m A.a6v "fresh" d1v [] E (c3g i) g2z))) σ H Q := by
 have k4:=hd.kd4
 have fin:All (f3w H []) Q ⟨⟩ ⟨⟩:=by
  rintro _ H1 ⟨p,rfl,n1,S1,h1⟩
  exact q _ H1 S1 (h8t k4 h1)
 clear k4
 cases d with
 | gain y =>
  obtain⟨dx,_,ho,g,rfl,hg⟩:=hd
  refine .inl ?_
  replace ho : H o = some (.ins A.a7u dx [("gain", .ref g)]) := ho
  walk_at "rd*"
 | delay n =>
  obtain⟨dx,_,ho,rfl⟩:=hd
  refine .inr (.inl ?_)
  replace ho : H o = some (.ins A.a4m dx [("many", .int n)]) := ho
  walk_at "rd*"
 | echo y n t' =>
  obtain⟨dx,_,ho,g,fa,rfl,hg,hf⟩:=hd
  refine .inr (.inr (.inl ?_))
  replace ho:H o=some (.ins A.a5i dx (ecF g fa n t' (y.den:Int))):=ho
  unfold ecF at ho
  walk_at "rd*"
 | back y n =>
  obtain⟨dx,_,ho,g,rfl,hg⟩:=hd
  refine .inr (.inr (.inr ?_))
  replace ho : H o = some (.ins A.a6v dx [("gain", .ref g), ("many", .int n)]) := ho
  walk_at "rd*"
 | _=>obtain⟨_,_,_,z⟩:=hd; exact z.elim
theorem gr4{σ:L2.St}{i:Nat}{o:Addr}{H:Hp}{d:Dt}{Q:VK}{E:XK}(hσ:σ[i]? = some (some (.ref o)))(hd:IsP A H o d)(q:Q (.int (a7r d)) H) :
  b5g (b2m A.a7u "grain" (g9n A 0) [] E (c3g i) g2z) (b5g (b2m A.a4m "grain" d7p [] E (c3g i) g2z) (b5g (b2m A.a5i "grain" (g9n A 2) [] E (c3g i) g2z) (b2m A.a6v "grain" (g9n A 3) [] E (c3g i) g2z))) σ H Q := by
 have z:=hd
 cases d with
 | gain y =>
  obtain⟨dx,_,ho,g,rfl,hg⟩:=hd
  refine .inl ?_
  replace ho : H o = some (.ins A.a7u dx [("gain", .ref g)]) := ho
  exact c1l hσ ho (by walk_at "rd") ⟨_, rfl, z, q⟩
 | delay n =>
  obtain⟨dx,_,ho,rfl⟩:=hd
  refine .inr (.inl ?_)
  replace ho : H o = some (.ins A.a4m dx [("many", .int n)]) := ho
  walk_at "rd*"
  exact q
 | echo y n t' =>
  obtain⟨dx,_,ho,g,fa,rfl,hg,hf⟩:=hd
  refine .inr (.inr (.inl ?_))
  replace ho:H o=some (.ins A.a5i dx (ecF g fa n t' (y.den:Int))):=ho
  unfold ecF at ho
  exact c1l hσ ho (by walk_at "rd") ⟨_, rfl, z, q⟩
 | back y n =>
  obtain⟨dx,_,ho,g,rfl,hg⟩:=hd
  refine .inr (.inr (.inr ?_))
  replace ho : H o = some (.ins A.a6v dx [("gain", .ref g), ("many", .int n)]) := ho
  exact c1l hσ ho (by walk_at "rd") ⟨_, rfl, z, q⟩
 | _=>obtain⟨_,_,_,z⟩:=hd; exact z.elim
theorem h5t:∀ (ds:List Dt) (xs:List Int),(run ds xs).length=xs.length
 | [],xs=>rfl
 | d :: ds,xs=>(h5t ds (outs d [] xs)).trans (a5y d [] xs)
theorem f8j:∀ (ds:List Dt) (a b:List Int),(blk ds a b).length=b.length
 | [],a,b=>rfl
 | d :: ds,a,b=>(f8j ds _ _).trans (a5y d a b)
theorem f8k:∀ (ds:List Dt) (a b:List Int),run ds (a++b)=run ds a++blk ds a b
 | [],a,b=>rfl
 | d :: ds,a,b=>by
  show run ds (outs d [] (a++b))=run ds (outs d [] a)++blk ds (outs d [] a) (outs d a b)
  rw [h8s,List.nil_append,f8k ds]
theorem g7m:∀ (ds:List Dt) (d:Dt) (a b:List Int),blk (ds++[d]) a b=outs d (run ds a) (blk ds a b)
 | [],d,a,b=>rfl
 | e :: ds,d,a,b=>g7m ds d _ _
theorem f1o(b:Int)(ds:List Dt)(d:Dt):a6k b (ds++[d])=a6k b ds*a7r d:=by
 unfold a6k
 rw [List.foldl_append]
 rfl
theorem f4w{X:Nat->Int}{p q:Int}{t B:Nat}(bp:intBits p<=10)(bq:intBits q<=10)(ht:t<=16)(hX:∀ m,intBits (X m)<=B):∀ j,j<=t+1->intBits (h0j X p q t j)<=B+176+j
 | 0,_=>by rw [h0j]; exact Nat.le_trans (by decide:intBits 0<=1) (by omega)
 | j+1,h=>by
  rw [h0j]
  have h1:=f4w bp bq ht hX j (by omega)
  have h2:intBits (X j*h6r p q t j)<=B+176+j:=Nat.le_trans (intBits_mul_le (hX j) (g1n bp bq ht (by omega))) (by omega)
  exact Nat.le_trans (intBits_add_le h1 h2) (by omega)
theorem h8v{d:Dt}{X:Int->Int}{B:Nat}(ok:d.ok)(hX:∀ i,intBits (X i)<=B)(i:Int):intBits (tap (j0b d) X i)<=B+200:=by
 have z0:intBits 0<=B+30:=Nat.le_trans (by decide:intBits 0<=1) (by omega)
 cases d with
 | gain y =>
  have yb:=YOk.b ok
  show intBits (y.num*X (i - ((0:Nat):Int))+0)<=_
  rw [Int.add_zero]
  exact Nat.le_trans (intBits_mul_le yb.1 (hX _)) (by omega)
 | delay n =>
  show intBits (1*X (i - (n:Int))+0)<=_
  rw [Int.add_zero,Int.one_mul]
  exact Nat.le_trans (hX _) (by omega)
 | echo y n t =>
  have yb:=YOk.b ok.1
  have ht:=ok.2.2.2
  show intBits (tap ((List.range (t+1)).map _) X i)<=_
  rw [f1m]
  exact Nat.le_trans (f4w yb.1 yb.2 ht (fun m=>hX _) (t+1) (Nat.le_refl _)) (by omega)
 | back y n =>
  have yb:=YOk.b ok.1
  show intBits ((y.den:Int)*X (i - ((0:Nat):Int))+(-y.num*X (i - (n:Int))+0))<=_
  rw [Int.add_zero]
  have h1:intBits ((y.den:Int)*X (i - ((0:Nat):Int)))<=10+B:=intBits_mul_le yb.2 (hX _)
  have h2:intBits (-y.num*X (i - (n:Int)))<=10+B:=intBits_mul_le (intBits_neg_le yb.1) (hX _)
  exact Nat.le_trans (intBits_add_le h1 h2) (by omega)
 | hall y n=>exact Nat.le_trans z0 (by omega)
 | swell cs=>exact Nat.le_trans z0 (by omega)
theorem h8w{xs:List Int}{B:Nat}(h:∀ y∈xs,intBits y<=B)(B1:1<=B)(i:Int):intBits (c9v xs i)<=B:=by
 unfold c9v
 have z0:intBits 0<=B:=Nat.le_trans (by decide:intBits 0<=1) B1
 split
 ·exact z0
 ·rw [List.getD_eq_getElem?_getD]
  cases e:xs[i.toNat]? with
  | none=>exact z0
  | some y=>exact h y (List.mem_of_getElem? e)
theorem d3o:∀ {ds:List Dt} {xs:List Int} {B:Nat},1<=B->(∀ d∈ds,d.ok)->(∀ y∈xs,intBits y<=B)->∀ y∈run ds xs,intBits y<=B+200*ds.length
 | [],xs,B,_,_,h,y,hy=>by
  have:=h y hy
  omega
 | d :: ds,xs,B,B1,ok,h,y,hy=>by
  have:=d3o (ds:=ds) (xs:=outs d [] xs) (B:=B+200) (by omega) (fun d hd=>ok d (List.mem_cons_of_mem _ hd)) (fun y hy=>by
   unfold outs at hy
   obtain⟨i,_,rfl⟩:=List.mem_map.mp hy
   exact h8v (ok d List.mem_cons_self) (h8w h B1) _) y hy
  rw [List.length_cons]
  omega
theorem d4w{d:Dt}(ok:d.ok):intBits (a7r d)<=161:=by
 cases d with
 | gain y=>exact Nat.le_trans (YOk.b ok).2 (by decide)
 | echo y n t=>exact Nat.le_trans (d0s (YOk.b ok.1).2 t) (by have:=ok.2.2.2; omega)
 | back y n=>exact Nat.le_trans (YOk.b ok.1).2 (by decide)
 | _=>show intBits 1<=161; decide
theorem c6r:∀ {ds:List Dt} {b:Int} {B:Nat},(∀ d∈ds,d.ok)->intBits b<=B->intBits (a6k b ds)<=B+161*ds.length
 | [],b,B,_,h=>by
  show intBits b<=_
  omega
 | d :: ds,b,B,ok,h=>by
  have:=c6r (ds:=ds) (b:=b*a7r d) (B:=B+161) (fun d hd=>ok d (List.mem_cons_of_mem _ hd)) (intBits_mul_le h (d4w (ok d List.mem_cons_self)))
  rw [List.length_cons]
  show intBits (a6k (b*a7r d) ds)<=_
  omega
theorem g9o.same{A:Ad}{H H':Hp}{os:List Addr}{ds:List Dt}(h:g9o A H os ds)(S:Same H H'):g9o A H' os ds:=⟨h.1,fun i o d e1 e2=>(h.2 i o d e1 e2).same S⟩
theorem Sts.same{H H':Hp}{ds:List Dt}{sts:List V}{xs:List Int}(h:Sts H ds sts xs)(S:Same H H'):Sts H' ds sts xs:=⟨h.1,fun i o d e1 e2=>(h.2 i o d e1 e2).same S⟩
theorem ChS.same{A:Ad}{H H':Hp}{o:Addr}{ds:List Dt}{xs:List Int}(h:ChS A H o ds xs)(S:Same H H'):ChS A H' o ds xs:=by
 obtain⟨dx,pl,sl,os,sts,h1,h2,h3,h4,h5⟩:=h
 exact⟨dx,pl,sl,os,sts,S _ _ h1,S _ _ h2,S _ _ h3,h4.same S,h5.same S⟩
theorem Lk.lst{H:Hp}{D:Addr}{ys:List V}(h:H D=some (.lst ys)):Lk H D:=⟨fun ts e=>(by rw [h] at e; cases e),fun c dx fs e=>(by rw [h] at e; cases e)⟩
theorem Lk.ins{H:Hp}{D:Addr}{c dx:Addr}{fs:List (Str×V)}(h:H D=some (.ins c dx fs))(hf:fs = []\/(∃ pl:V,fs=ch1 pl)\/∃ pl sl,fs=chF pl sl):Lk H D:=⟨fun ts e=>(by rw [h] at e; cases e),fun c dx fs e=>(by rw [h] at e; cases e; exact hf)⟩
theorem StV.b4y{D:Addr}{H H':Hp}{xs:List Int}{st:V}{d:Dt}(h:StV H xs st d)(hD:Lk H D)(Z:a2j D H H'):StV H' xs st d:=by
 have ne:∀ {p:Addr} {ts:List V},H p=some (.tup ts)->H' p=some (.tup ts):=fun hp=>Z _ _ (fun e=>by rw [e] at hp; exact hD.1 _ hp) hp
 cases d with
 | gain y=>exact h
 | delay n=>obtain⟨p,e,h⟩:=h; exact⟨p,e,ne h⟩
 | echo y n t=>obtain⟨p,e,h⟩:=h; exact⟨p,e,ne h⟩
 | back y n=>obtain⟨p,e,h⟩:=h; exact⟨p,e,ne h⟩
 | _=>exact h.elim
theorem IsP.b4y{A:Ad}{D:Addr}{H H':Hp}{o:Addr}{d:Dt}(h:IsP A H o d)(hD:Lk H D)(Z:a2j D H H'):IsP A H' o d:=by
 have ne:∀ {p:Addr} {ts:List V},H p=some (.tup ts)->H' p=some (.tup ts):=fun hp=>Z _ _ (fun e=>by rw [e] at hp; exact hD.1 _ hp) hp
 obtain⟨dx,fs,h1,h2⟩:=h
 refine⟨dx,fs,Z _ _ (fun e=>?_) h1,?_⟩
 ·rw [e] at h1
  have np : ∀ {n : Str} {v : V} {r : List (Str × V)}, fs = (n, v) :: r → n ≠ ("parts" : Str) → False := fun e1 hn => by
   rcases hD.2 _ _ _ h1 with z | ⟨pl,z⟩ | ⟨pl,sl,z⟩ <;> rw [z] at e1
   ·cases e1
   ·injection e1 with e1 _
    injection e1 with e1 _
    exact hn e1.symm
   ·injection e1 with e1 _
    injection e1 with e1 _
    exact hn e1.symm
  cases d with
  | gain y=>obtain⟨g,e,_⟩:=h2; exact np e (by decide +kernel)
  | delay n=>exact np h2 (by decide +kernel)
  | echo y n t=>obtain⟨g,fa,e,_⟩:=h2; exact np e (by decide +kernel)
  | back y n=>obtain⟨g,e,_⟩:=h2; exact np e (by decide +kernel)
  | _=>exact h2.elim
 ·cases d with
  | gain y=>obtain⟨g,e,h1⟩:=h2; exact⟨g,e,ne h1⟩
  | delay n=>exact h2
  | echo y n t=>obtain⟨g,fa,e,h1,h2⟩:=h2; exact⟨g,fa,e,ne h1,ne h2⟩
  | back y n=>obtain⟨g,e,h1⟩:=h2; exact⟨g,e,ne h1⟩
  | _=>exact h2.elim
theorem g9o.b4y{A:Ad}{D:Addr}{H H':Hp}{os:List Addr}{ds:List Dt}(h:g9o A H os ds)(hD:Lk H D)(Z:a2j D H H'):g9o A H' os ds:=⟨h.1,fun i o d e1 e2=>(h.2 i o d e1 e2).b4y hD Z⟩
theorem Sts.snoc{H:Hp}{ds:List Dt}{d:Dt}{sts:List V}{st:V}{xs:List Int}(h:Sts H ds sts xs)(hs:StV H (run ds xs) st d):Sts H (ds++[d]) (sts++[st]) xs:=by
 obtain⟨hl,h⟩:=h
 refine⟨by rw [List.length_append,List.length_append,hl]; rfl,fun i s e h1 h2=>?_⟩
 rcases Nat.lt_or_ge i ds.length with z | z
 ·rw [List.getElem?_append_left (by omega)] at h1
  rw [List.getElem?_append_left z] at h2
  rw [List.take_append_of_le_length (by omega)]
  exact h i s e h1 h2
 ·have hi:=(List.getElem?_eq_some_iff.mp h2).1
  rw [List.length_append,List.length_singleton] at hi
  obtain rfl:i=ds.length:=by omega
  rw [<- hl,List.getElem?_concat_length] at h1
  rw [List.getElem?_concat_length] at h2
  cases h1
  cases h2
  rw [List.take_append_of_le_length (Nat.le_refl _),List.take_length]
  exact hs
theorem Sts.b4y{D:Addr}{H H':Hp}{ds:List Dt}{sts:List V}{xs:List Int}(h:Sts H ds sts xs)(hD:Lk H D)(Z:a2j D H H'):Sts H' ds sts xs:=⟨h.1,fun i o d e1 e2=>(h.2 i o d e1 e2).b4y hD Z⟩
theorem g9o.snoc{A:Ad}{H:Hp}{os:List Addr}{ds:List Dt}{o:Addr}{d:Dt}(h:g9o A H os ds)(hp:IsP A H o d):g9o A H (os++[o]) (ds++[d]):=by
 obtain⟨hl,h⟩:=h
 refine⟨by rw [List.length_append,List.length_append,hl]; rfl,fun i s e h1 h2=>?_⟩
 rcases Nat.lt_or_ge i ds.length with z | z
 ·rw [List.getElem?_append_left (by omega)] at h1
  rw [List.getElem?_append_left z] at h2
  exact h i s e h1 h2
 ·have hi:=(List.getElem?_eq_some_iff.mp h2).1
  rw [List.length_append,List.length_singleton] at hi
  obtain rfl:i=ds.length:=by omega
  rw [<- hl,List.getElem?_concat_length] at h1
  rw [List.getElem?_concat_length] at h2
  cases h1
  cases h2
  exact hp
theorem ChX.same{A:Ad}{H H':Hp}{o Z:Addr}{ds:List Dt}{xs:List Int}(h:ChX A H o ds xs Z)(S:Same H H'):ChX A H' o ds xs Z:=by
 obtain⟨dx,pl,sl,os,sts,h1,h2,h3,h4,h5,h6⟩:=h
 exact⟨dx,pl,sl,os,sts,S _ _ h1,S _ _ h2,S _ _ h3,h4.same S,h5.same S,h6⟩
theorem ChX.b4y{A:Ad}{H H':Hp}{o Z:Addr}{ds:List Dt}{xs:List Int}(h:ChX A H o ds xs Z)(hZ:Lk H Z)(B:a2j Z H H'):ChX A H' o ds xs Z:=by
 obtain⟨dx,pl,sl,os,sts,h1,h2,h3,h4,h5,h6,h7,h8⟩:=h
 exact⟨dx,pl,sl,os,sts,B _ _ h8 h1,B _ _ h6 h2,B _ _ h7 h3,h4.b4y hZ B,h5.b4y hZ B,h6,h7,h8⟩
theorem ChS.x{A:Ad}{H:Hp}{o Z:Addr}{ds:List Dt}{xs:List Int}(h:ChS A H o ds xs)(hZ:H Z=none):ChX A H o ds xs Z:=by
 obtain⟨dx,pl,sl,os,sts,h1,h2,h3,h4,h5⟩:=h
 exact⟨dx,pl,sl,os,sts,h1,h2,h3,h4,h5,fun e=>(by rw [e,hZ] at h2; cases h2),fun e=>(by rw [e,hZ] at h3; cases h3),fun e=>(by rw [e,hZ] at h1; cases h1)⟩
theorem i8y (T : Tx K mg A) : a1q P A.wd K mg base CX0 9 A.b5z A.b6g ["words"] (i3d A) := by
 have h5u:a1q P A.wd K mg base CX0 8 _ _ _ _:=i3z T
 refine T.c3y.ok g3v (fun vs H Q E h=>?_) (fun cdv A' outer s H vs Q E hr h=>?_)
 ·obtain⟨_,rfl,_⟩:=b8l (by unfold i3d at h; exact h)
  rfl
 ·obtain⟨l,rfl,⟨ds,hl,l8,ok,q⟩⟩:=b8l (by unfold i3d at h; exact h)
  have hu:=hr.units
  have h0a:a2p 8 _:=hr.mono (by decide)
  have hs:sizeLine=16777216:=sizeLine_eq
  have z1:¬ (8:Int) < (ds.length:Int):=by omega
  refine ⟨_, (a0h (a6n (c6z (b1u (a1g (c1p .lst) (by rfl) T.a6w boot_isinstance (a0g (pvF 0) (a0g (c7r (v := .ty "list") (u := .type "list") (by rfl) T.c9u rfl rfl) a0i)))))
   (a0j a2w)
   a2h)
   (a0h (a6n (a1r g0d (a1g a2k (by rfl) T.b6z boot_len (a0g (pvF 0) a0i)) (a9i (v:=.int 8) (by rfl) T.f7l T.c6k) (a2s _))
   (a0j a2w)
   a2h)
   (a0j (a1h (b9z (a2m (pvF 0)) (fun _ _ _ _ _ => (a0v h5u h0a (by rfl) T.h3y T.c9k.kp T.h3x .nil a1j (a0g (pvF 0) a0i))) (c7u (sc := a0l d3v) (N := ["words"]) rfl rfl (by decide +kernel)) rfl))))), ?_⟩
  walk_at "rd*"
  refine⟨⟨_,SqL.of hl⟩,fun D H2 n2 S2 h2=>?_⟩
  refine a9z (xs:=ds.map fun d=>V.str d.word) (fun i ys H'=>Same H H'/\H' D=some (.lst ys)/\∃ os,ys=os.map V.ref/\g9o A H' os (ds.take i)) ⟨S2,h2,[],rfl,by rw [List.take_zero]; exact⟨rfl,fun i o d e=>by simp at e⟩⟩ (by rw [List.length_map,hs]; omega) ?_ ?_ ?_
  ·intro i ys H' hi ⟨S',h',os,e,R⟩
   rw [List.length_map] at hi
   exact⟨h',SqL.of (S' _ _ hl),by rw [e,List.length_map,R.1,List.length_take]; omega⟩
  ·intro i x ys H' hx ⟨S',h',os,e,R⟩
   rw [List.getElem?_map] at hx
   obtain⟨d,hd,rfl⟩:=Option.map_eq_some_iff.mp hx
   obtain⟨o1,o2⟩:=ok d (List.mem_of_getElem? hd)
   walk_at "rd"
   refine⟨d,o1,o2,rfl,fun o H3 n3 S3 hp=>⟨S3 _ _ h',fun H4 B4 h4=>⟨(S'.trans S3).step n2 B4,h4,os++[o],by rw [e,List.map_append]; rfl,?_⟩⟩⟩
   rw [List.take_add_one,hd]
   exact ((R.same S3).snoc hp).b4y (Lk.lst (S3 _ _ h')) B4
  ·intro ys H3 ⟨S3,h3,os,e,R⟩
   rw [List.length_map,List.take_length] at R
   subst e
   exact q D os H3 n2 S3 h3 R
theorem g5q:∀ (ds:List Dt),run ds [] = []
 | []=>rfl
 | d :: ds=>g5q ds
theorem g7n (T : Tx K mg A) : a1q P A.wd K mg base CX0 10 A.b3j A.b0o ["self", "words"] (g4z A) := by
 have h0b:a1q P A.wd K mg base CX0 9 _ _ _ _:=i8y T
 have c2o:a1q P A.wd K mg base CX0 1 _ _ _ _:=h8r T
 have a4o:=T.a4o
 have a1z:=T.a1z
 have a1p:=T.a1p
 have a4i:=T.a4i
 have a1v:=T.a1v
 have a2y:=T.a2y
 have a1u:=T.a1u
 have a3i:=T.a3i
 have a1n:=T.a1n
 have a1o:=T.a1o
 have a1i:=T.a1i
 have a0t:=T.a0t
 have a0q:=T.a0q
 have a4j:=T.a4j
 have a1w:=T.a1w
 have a1y:=T.a1y
 refine T.c2g.ok f6j (fun vs H Q E h=>?_) (fun cdv A' outer s H vs Q E hr h=>?_)
 ·obtain⟨_,_,rfl,_⟩:=d6w (by unfold g4z at h; exact h)
  rfl
 ·obtain⟨o,l,rfl,⟨dx,ds,ho,hl,l8,ok,q⟩⟩:=d6w (by unfold g4z at h; exact h)
  have hu:=hr.units
  have g5r:a2p 9 _:=hr.mono (by decide)
  have b9m:a2p 1 _:=hr.mono (by decide)
  have hs:sizeLine=16777216:=sizeLine_eq
  refine⟨_,(a0h (a5z (pvF 0) (a0v h0b g5r (by rfl) T.g9d T.c3y.kp T.g9c .nil a1j (a0g (pvF 1) a0i)) rfl)
   (a0j (a5z (pvF 0) (b9z (a2m (a0y (pvF 0) rfl)) (fun _ _ _ _ _ => (a3k (a2n (pvF 0) T.a4i T.c5l c2o b9m T.c2m .nil a1j) (a3k (a2n (pvF 0) T.a2y T.c2q c2o b9m T.c2m .nil a1j) (a3k (a2n (pvF 0) T.a3i T.c5o c2o b9m T.c2m .nil a1j) (a2n (pvF 0) T.a4j T.c5p c2o b9m T.c2m .nil a1j))))) (c7u (sc := a0l c8m) (N := ["self", "words"]) rfl rfl (by decide +kernel)) rfl) rfl))), ?_⟩
  walk_at "rd"
  refine⟨ds,hl,l8,ok,fun pl os H1 np S1 hpl R=>?_⟩
  have ho1:=S1 _ _ ho
  walk_at "rd*"
  intro H2 B2 h2
  have no:o≠pl:=fun e=>by rw [<- e,ho] at np; cases np
  have Lo:Lk H1 o:=Lk.ins ho1 (.inl rfl)
  have j0c:=B2 _ _ no.symm hpl
  have R2:=R.b4y Lo B2
  clear hpl R ho ho1
  walk_at "rd*"
  refine⟨⟨_,SqL.of j0c⟩,fun D H3 n3 S3 h3=>?_⟩
  have ol:=R2.1
  refine a9z (xs:=os.map V.ref) (fun i ys H'=>Same H2 H'/\H' D=some (.lst ys)/\Sts H' (ds.take i) ys []) ⟨S3,h3,rfl,fun i o d e=>by simp at e⟩ (by rw [List.length_map,hs]; omega) ?_ ?_ ?_
  ·intro i ys H' hi ⟨S',h',R'⟩
   rw [List.length_map] at hi
   exact⟨h',SqL.of (S' _ _ j0c),by rw [R'.1,List.length_take]; omega⟩
  ·intro i x ys H' hx ⟨S',h',R'⟩
   rw [List.getElem?_map] at hx
   obtain⟨oi,hoi,rfl⟩:=Option.map_eq_some_iff.mp hx
   have hi:=(List.getElem?_eq_some_iff.mp hoi).1
   have hd : ds[i]? = some (ds[i]'(by omega)) := List.getElem?_eq_getElem _
   have hp:=(R2.2 i _ _ hoi hd).same S'
   generalize ds[i]'(by omega) = d at hd hp
   try walk_at "rd"
   refine fr4 rfl hp fun st H5 S5 hst=>⟨S5 _ _ h',fun H6 B6 h6=>⟨(S'.trans S5).step n3 B6,h6,?_⟩⟩
   rw [List.take_add_one,hd]
   exact ((R'.same S5).snoc (by rw [g5q]; exact hst)).b4y (Lk.lst (S5 _ _ h')) B6
  ·intro ys H4 ⟨S4,h4,R4⟩
   rw [List.length_map,ol,List.take_length] at R4
   have ho4:=S4 _ _ h2
   have j0d:=S4 _ _ j0c
   have L4:Lk H4 o:=Lk.ins ho4 (.inr (.inl ⟨_,rfl⟩))
   have nd:o≠D:=fun e=>by rw [<- e,h2] at n3; cases n3
   clear h2 h3 j0c
   walk_at "rd*"
   intro H5 B5 h5
   have c5:ChS A H5 o ds []:=⟨dx,pl,D,os,ys,h5,B5 _ _ no.symm j0d,B5 _ _ nd.symm h4,(R2.same S4).b4y L4 B5,R4.b4y L4 B5⟩
   refine q H5 (fun z u hz e=>B5 _ _ hz (S4 _ _ (B2 _ _ hz (S1 _ _ e)))) c5 fun Z hZ nZ=>⟨dx,pl,D,os,ys,h5,B5 _ _ no.symm j0d,B5 _ _ nd.symm h4,(R2.same S4).b4y L4 B5,R4.b4y L4 B5,fun e=>hZ (by rw [<- e]; exact np),fun e=>?_,nZ.symm⟩
   cases u:H Z with
   | none=>exact hZ u
   | some v=>rw [e,B2 _ _ nZ (S1 _ _ u)] at n3; cases n3
theorem i4a (T : Tx K mg A) : a1q P A.wd K mg base CX0 3 A.a6q A.a5q ["self", "tops", "bottom"] (h4o A) := by
 have f2y:a1q P A.wd K mg base CX0 2 _ _ _ _:=h5n T
 have f1p:a1q P A.wd K mg base CX0 2 _ _ _ _:=g9r T
 have f2z:a1q P A.wd K mg base CX0 2 _ _ _ _:=h5o T
 have f3g:a1q P A.wd K mg base CX0 2 _ _ _ _:=h5p T
 have d0h:a1q P A.wd K mg base CX0 1 _ _ _ _:=g1p T
 have d0i:a1q P A.wd K mg base CX0 1 _ _ _ _:=g1r T
 have d0j:a1q P A.wd K mg base CX0 1 _ _ _ _:=g1s T
 have d0k:a1q P A.wd K mg base CX0 1 _ _ _ _:=g1t T
 have a4o:=T.a4o
 have a1z:=T.a1z
 have a1p:=T.a1p
 have a4i:=T.a4i
 have a1v:=T.a1v
 have a2y:=T.a2y
 have a1u:=T.a1u
 have a3i:=T.a3i
 have a1n:=T.a1n
 have a1o:=T.a1o
 have a1i:=T.a1i
 have a0t:=T.a0t
 have a0q:=T.a0q
 have a4j:=T.a4j
 have a1w:=T.a1w
 have a1y:=T.a1y
 refine T.b4h.ok a3z (fun vs H Q E h=>?_) (fun cdv A' outer s H vs Q E hr h=>?_)
 ·obtain⟨_,_,_,rfl,_⟩:=f4h (by unfold h4o at h; exact h)
  rfl
 ·obtain⟨o,l,b,rfl,⟨ds,xs,ys,⟨dx,pl,sl,os,sts,ho,hpl,hsl,R,ST⟩,hl,l8,ok,lx,ly,bb,hb,q⟩⟩:=f4h (by unfold h4o at h; exact h)
  have hu:=hr.units
  have f1q:a2p 2 _:=hr.mono (by decide)
  have d7h:a2p 2 _:=hr.mono (by decide)
  have f1r:a2p 2 _:=hr.mono (by decide)
  have f1s:a2p 2 _:=hr.mono (by decide)
  have c6s:a2p 1 _:=hr.mono (by decide)
  have c6t:a2p 1 _:=hr.mono (by decide)
  have c6u:a2p 1 _:=hr.mono (by decide)
  have c6v:a2p 1 _:=hr.mono (by decide)
  unfold chF at ho
  refine⟨_,(a0h (a0s (i:=3) a3z.nd rfl (Or.inl rfl) (b3w (a0g (a2r a9y (by rfl) T.c9u boot_list (a0g (pvF 1) a0i)) (a0g (pvF 2) a0i))))
   (a0h (a0s (i:=4) a3z.nd rfl (Or.inl rfl) (a3y a0i))
   (a0h (a3n PassesOwn.never rfl (i7s (by rfl) T.j2v (a0g (a0y (pvF 0) rfl) (a0g (a0y (pvF 0) rfl) a0i))) (h2r (n:=2) rfl (d2s (a2o (i:=5) a3z.nd rfl (Or.inl rfl)) (d2s (a2o (i:=6) a3z.nd rfl (Or.inl rfl)) g6y)))
   (a0h (a0s (i:=7) a3z.nd rfl (Or.inl rfl) (a3k (a6l (pvF 5) T.a4i T.c0o f2y f1q T.f2s .nil a1j (a0g (pvF 6) (a0g (a1t a5m (pvF 3) a0k (fun _ _=>rfl)) (a0g (a1t a5m (pvF 3) a0k (fun _ _=>rfl)) a0i)))) (a3k (a6l (pvF 5) T.a2y T.b8m f1p d7h T.f0m .nil a1j (a0g (pvF 6) (a0g (a1t a5m (pvF 3) a0k (fun _ _=>rfl)) (a0g (a1t a5m (pvF 3) a0k (fun _ _=>rfl)) a0i)))) (a3k (a6l (pvF 5) T.a3i T.c0p f2z f1r T.f2t .nil a1j (a0g (pvF 6) (a0g (a1t a5m (pvF 3) a0k (fun _ _=>rfl)) (a0g (a1t a5m (pvF 3) a0k (fun _ _=>rfl)) a0i)))) (a6l (pvF 5) T.a4j T.c0q f3g f1s T.f2u .nil a1j (a0g (pvF 6) (a0g (a1t a5m (pvF 3) a0k (fun _ _=>rfl)) (a0g (a1t a5m (pvF 3) a0k (fun _ _=>rfl)) a0i))))))))
   (a0h (a0s (i:=3) a3z.nd rfl (Or.inl rfl) (b3w (a0g (a1t a5m (pvF 7) a0k (fun _ _=>rfl)) (a0g (a0w a3w (a1t a5m (pvF 3) a0k (fun _ _=>rfl)) (a3k (a2n (pvF 5) T.a4i T.b8q d0i c6t T.d6m .nil a1j) (a3k (a2n (pvF 5) T.a2y T.b7o d0h c6s T.d6l .nil a1j) (a3k (a2n (pvF 5) T.a3i T.b8r d0j c6u T.d6n .nil a1j) (a2n (pvF 5) T.a4j T.b8s d0k c6v T.d6o .nil a1j))))) a0i))))
   (a0j (a6m (c3i b7j PySem.F.plainAttrs_list PySem.F.slot_list_append PySem.F.type_list_append b0g (pvF 4) (a0g (a1t a5m (pvF 7) a0k (fun _ _=>rfl)) a0i)))))))
   (a0h (a5z (pvF 0) (pvF 4) rfl)
   (a0j (a1h (pvF 3))))))),?_⟩
  walk_at "rd*"
  refine fun l1 H1 n1 S1 h1=>?_
  walk_at "rd"
  refine fun r2 H2 n2 S2 h2=>?_
  walk_at "rd"
  refine⟨by decide,fun D H3 n3 S3 h3=>?_⟩
  have S02:=S1.trans S2
  have S03:=S02.trans S3
  have ho3:=S03 _ _ ho
  have j4u:=S03 _ _ hpl
  have j4v:=S03 _ _ hsl
  walk_at "rd*"
  have ol:=R.1
  have sl':=ST.1
  have nl:l1≠D:=fun e=>by rw [<- e,S2 _ _ h1] at n3; cases n3
  have h13:=S3 _ _ (S2 _ _ h1)
  have h23:=S3 _ _ h2
  have bl:=d3o (ds:=ds) (xs:=xs++ys) (B:=90000) (by decide)
  obtain⟨Pv,pin,pout⟩:=b7u (fun i σ H'=>∃ (rr lo:Addr) (sts':List V) (v5 v6 v7:Option V),σ = [some (.ref o),some (.ref l),some (.int b),some (.ref rr),some (.ref D),v5,v6,v7]/\Same H2 H'/\H' rr=some (.tup [.ref lo,.int (a6k b (ds.take i))])/\H' lo=some (.lst ((blk (ds.take i) xs ys).map V.int))/\lo≠D/\H rr=none/\H lo=none/\H' D=some (.lst sts')/\Sts H' (ds.take i) sts' (xs++ys))
  refine h7t (xs:=os.map V.ref) (ys:=sts) Pv (pin _ _ _ ⟨_,_,[],_,_,_,rfl,S3,h23,h13,nl,S1.free n2,n1,h3,rfl,fun i o d e=>by simp at e⟩) ?_ ?_ ?_
  ·intro i σ H4 hp
   obtain⟨rr,lo,sts',v5,v6,v7,rfl,S4,_⟩:=pout _ _ _ hp
   exact⟨SqL.of (S4 _ _ (S02 _ _ hpl)),SqL.of (S4 _ _ (S02 _ _ hsl))⟩
  ·intro i x y σ H4 p H5 hx hy hp np S5 h5
   obtain⟨rr,lo,sts',v5,v6,v7,rfl,S4,hrr,hlo,nlo,fr,fl,hD,R4⟩:=pout _ _ _ hp
   rw [List.getElem?_map] at hx
   obtain⟨oi,hoi,rfl⟩:=Option.map_eq_some_iff.mp hx
   have hi:=(List.getElem?_eq_some_iff.mp hoi).1
   have hd : ds[i]? = some (ds[i]'(by omega)) := List.getElem?_eq_getElem _
   have hp:=R.2 i _ _ hoi hd
   have hst:=ST.2 i _ _ hy hd
   have okd:=ok _ (List.mem_of_getElem? hd)
   have et : ds.take (i + 1) = ds.take i ++ [ds[i]'(by omega)] := by rw [List.take_add_one, hd]; rfl
   generalize ds[i]'(by omega) = d at hd hp hst okd et
   have S05:=S02.trans (S4.trans S5)
   have j4w:=S5 _ _ hrr
   have hlo5:=S5 _ _ hlo
   have hp5:=hp.same S05
   have j4x:=hst.same S05
   clear hp hst hrr hlo h13 h23 h2 h1 ho3 j4u j4v
   walk_at "rd*"
   refine thr4 (by rfl) hp5 ?_
   walk_at "rd*"
   have bt:∀ z∈run (ds.take i) xs++blk (ds.take i) xs ys,intBits z<=100000:=by
    rw [<- f8k]
    intro z hz
    have h1:=d3o (ds:=ds.take i) (xs:=xs++ys) (B:=90000) (by decide) (fun d hd=>ok d (List.mem_of_mem_take hd)) hb z hz
    have h2:(ds.take i).length<=8:=by rw [List.length_take]; omega
    omega
   refine⟨d,rfl,hp5,okd,_,j4x,_,rfl,by rw [h5t]; omega,by rw [f8j]; omega,bt,fun r ou st' H6 S6 nr no h6 ho6 hst6=>?_⟩
   have hrr6:=S6 _ _ j4w
   have hp6:=hp5.same S6
   have nou:ou≠D:=fun e=>by rw [e,S5 _ _ hD] at no; cases no
   clear j4w hlo5 hp5 j4x bt
   walk_at "rd*"
   refine gr4 (by rfl) hp6 ?_
   walk_at "rd*"
   have gb:=c6r (ds:=ds.take i) (b:=b) (B:=90000) (fun d hd=>ok d (List.mem_of_mem_take hd)) (Nat.le_trans bb (by decide))
   have tl:(ds.take i).length<=8:=by rw [List.length_take]; omega
   refine⟨IntMulOk.of_le (Nat.le_trans gb (by omega:_<=90000+161*8)) (d4w okd) (by decide),fun r7 H7 n7 S7 h7=>?_⟩
   have h67:=S7 _ _ h6
   have hD7:=S7 _ _ (S6 _ _ (S5 _ _ hD))
   have R7:=((R4.same S5).same S6).same S7
   clear h6 hrr6 hp6
   have sl7:=R7.1
   walk_at "rd*"
   refine⟨by rw [sizeLine_eq]; omega,?_⟩
   rintro _ H8 ⟨rfl,B8,h8⟩
   have nr7:r7≠D:=fun e=>by rw [e,S6 _ _ (S5 _ _ hD)] at n7; cases n7
   refine pin _ _ _ ⟨r7,ou,sts'++[st'],_,_,_,rfl,(S4.trans (S5.trans (S6.trans S7))).step n3 B8,?_,?_,nou,(S05.trans S6).free n7,S05.free no,h8,?_⟩
   ·rw [et,f1o]
    exact B8 _ _ nr7 h7
   ·rw [et,g7m]
    exact B8 _ _ nou (S7 _ _ ho6)
   ·rw [et]
    refine (R7.snoc ?_).b4y (Lk.lst hD7) B8
    rw [f8k]
    exact hst6.same S7
  ·intro σ H4 hp
   obtain⟨rr,lo,sts',v5,v6,v7,rfl,S4,hrr,hlo,nlo,fr,fl,hD,R4⟩:=pout _ _ _ hp
   rw [List.length_map,ol,sl',Nat.min_self,List.take_length] at R4 hrr hlo
   have S04:=S02.trans S4
   have ho4:=S04 _ _ ho
   have j0d:=S04 _ _ hpl
   have L4:Lk H4 o:=Lk.ins ho4 (.inr (.inr ⟨_,_,rfl⟩))
   have nD:D≠o:=fun e=>by rw [e,S02 _ _ ho] at n3; cases n3
   have npl:pl≠o:=fun e=>by rw [e,ho] at hpl; cases hpl
   have nrr:rr≠o:=fun e=>by rw [e,ho] at fr; cases fr
   have nlo2:lo≠o:=fun e=>by rw [e,ho] at fl; cases fl
   clear ho3 j4u j4v h13 h23 h1 h2 h3
   walk_at "rd*"
   intro H5 B5 h5
   try walk_at "rd*"
   exact q rr lo H5 (fun z u hz e=>B5 _ _ hz (S04 _ _ e)) fr fl (B5 _ _ nrr hrr) (B5 _ _ nlo2 hlo) ⟨dx,pl,D,os,sts',h5,B5 _ _ npl j0d,B5 _ _ nD hD,(R.same S04).b4y L4 B5,R4.b4y L4 B5⟩
theorem i8z (T : Tx K mg A) : a1q P A.wd K mg base CX0 2 A.b0p A.a8g ["self"] (i3e A) := by
 have d0h:a1q P A.wd K mg base CX0 1 _ _ _ _:=g1p T
 have d0i:a1q P A.wd K mg base CX0 1 _ _ _ _:=g1r T
 have d0j:a1q P A.wd K mg base CX0 1 _ _ _ _:=g1s T
 have d0k:a1q P A.wd K mg base CX0 1 _ _ _ _:=g1t T
 have a4o:=T.a4o
 have a1z:=T.a1z
 have a1p:=T.a1p
 have a4i:=T.a4i
 have a1v:=T.a1v
 have a2y:=T.a2y
 have a1u:=T.a1u
 have a3i:=T.a3i
 have a1n:=T.a1n
 have a1o:=T.a1o
 have a1i:=T.a1i
 have a0t:=T.a0t
 have a0q:=T.a0q
 have a4j:=T.a4j
 have a1w:=T.a1w
 have a1y:=T.a1y
 refine T.b8t.ok b7l (fun vs H Q E h=>?_) (fun cdv A' outer s H vs Q E hr h=>?_)
 ·obtain⟨_,rfl,_⟩:=b8l (by unfold i3e at h; exact h)
  rfl
 ·obtain⟨o,rfl,⟨ds,xs,⟨dx,pl,sl,os,sts,ho,hpl,hsl,R,ST⟩,l8,ok,q⟩⟩:=b8l (by unfold i3e at h; exact h)
  have hu:=hr.units
  have c6s:a2p 1 _:=hr.mono (by decide)
  have c6t:a2p 1 _:=hr.mono (by decide)
  have c6u:a2p 1 _:=hr.mono (by decide)
  have c6v:a2p 1 _:=hr.mono (by decide)
  unfold chF at ho
  have ol:=R.1
  refine⟨_,(a0h (a0s (i:=1) b7l.nd rfl (Or.inl rfl) a0k)
   (a0h (a3n PassesOwn.never rfl (a2m (a0y (pvF 0) rfl)) (a2o (i:=2) b7l.nd rfl (Or.inl rfl))
   (a0j (a0s (i:=1) b7l.nd rfl (Or.inl rfl) (a0w a3w (pvF 1) (a3k (a2n (pvF 2) T.a4i T.b8q d0i c6t T.d6m .nil a1j) (a3k (a2n (pvF 2) T.a2y T.b7o d0h c6s T.d6l .nil a1j) (a3k (a2n (pvF 2) T.a3i T.b8r d0j c6u T.d6n .nil a1j) (a2n (pvF 2) T.a4j T.b8s d0k c6v T.d6o .nil a1j))))))))
   (a0j (a1h (pvF 1))))),?_⟩
  walk_at "rd*"
  refine⟨⟨_,SqL.of hpl⟩,?_⟩
  obtain⟨Pv,pin,pout⟩:=b7u (fun i σ H'=>∃ v:Option V,σ = [some (.ref o),some (.int (a6k 1 (ds.take i))),v]/\H'=H)
  refine a4l (xs:=os.map V.ref) Pv (pin _ _ _ ⟨_,rfl,rfl⟩) ?_ ?_ ?_
  ·intro i σ H2 hi hp
   obtain⟨v,rfl,rfl⟩:=pout _ _ _ hp
   exact SqL.of hpl
  ·intro i v σ H2 hv hp
   rw [List.getElem?_map] at hv
   obtain⟨oi,hoi,rfl⟩:=Option.map_eq_some_iff.mp hv
   obtain⟨v,rfl,rfl⟩:=pout _ _ _ hp
   have hi:=(List.getElem?_eq_some_iff.mp hoi).1
   have hd : ds[i]? = some (ds[i]'(by omega)) := List.getElem?_eq_getElem _
   have hp:=R.2 i _ _ hoi hd
   have okd:=ok _ (List.mem_of_getElem? hd)
   have et : ds.take (i + 1) = ds.take i ++ [ds[i]'(by omega)] := by rw [List.take_add_one, hd]; rfl
   generalize ds[i]'(by omega) = d at hd hp okd et
   walk_at "rd"
   refine gr4 (by rfl) hp ?_
   walk_at "rd"
   have gb:=c6r (ds:=ds.take i) (b:=1) (B:=64) (fun d hd=>ok d (List.mem_of_mem_take hd)) (by decide)
   have tl:(ds.take i).length<=8:=by rw [List.length_take]; omega
   refine⟨IntMulOk.of_le (Nat.le_trans gb (by omega:_<=64+161*8)) (d4w okd) (by decide),pin _ _ _ ⟨some (.ref oi),by rw [et,f1o],rfl⟩⟩
  ·intro σ H2 hp
   obtain⟨v,rfl,rfl⟩:=pout _ _ _ hp
   rw [List.length_map,ol,List.take_length]
   walk_at "rd"
   exact q
theorem i4b (T : Tx K mg A) : a1q P A.wd K mg base CX0 1 A.a3s A.a4g ["one"] j3c := by
 refine T.a2z.ok a5n (fun vs H Q E h=>?_) (fun cdv A' outer s H vs Q E hr h=>?_)
 ·obtain⟨_,rfl,_⟩:=b8l (by unfold j3c at h; exact h)
  rfl
 ·obtain⟨p,rfl,⟨x,hp,l1,l2,q⟩⟩:=b8l (by unfold j3c at h; exact h)
  have hu:=hr.units
  unfold i0a at hp
  have fl:=d8q l1 l2
  have g1:=c7z (intBits_le_iff.mp l1) (by decide)
  have g2:=c7z (intBits_le_iff.mp l2) (by decide)
  have a:=c8g (intBits_le_iff.mp l1) (by decide)
  have b:=c8g (intBits_le_iff.mp l2) (by decide)
  have e0:Str.empty.length=0:=rfl
  have e1 : (Str.ofString "/").length = 1 := by decide +kernel
  have hs:sizeLine=16777216:=sizeLine_eq
  unfold fW at q
  refine⟨_,(a0h (a0s (i:=1) a5n.nd rfl (Or.inl rfl) (a1t a5m (pvF 0) a0k (fun _ _=>rfl)))
   (a0h (a0s (i:=2) a5n.nd rfl (Or.inl rfl) (a1t a5m (pvF 0) a0k (fun _ _=>rfl)))
   (a0j (a1h (c3m (a6o (c7v (pvF 1)) (a6o a3g (a6o (c7v (pvF 2)) f3y)))))))),?_⟩
  walk_at "rd*"
  simp only [strLen_append,e0,e1]
  refine⟨by omega,by omega,by omega,by omega,by omega,by omega⟩
theorem j3g (T : Tx K mg A) : a1q P A.wd K mg base CX0 2 A.b5s A.b2p ["self"] (g2u A 0) := by
 have a5j:a1q P A.wd K mg base CX0 1 _ _ _ _:=i4b T
 have a4i:=T.a4i
 have a1v:=T.a1v
 refine T.c5t.ok d5z (fun vs H Q E h=>?_) (fun cdv A' outer s H vs Q E hr h=>?_)
 ·obtain⟨_,rfl,_⟩:=b8l (by unfold g2u at h; exact h)
  rfl
 ·obtain⟨o,rfl,⟨d,hk,hd,ok,q⟩⟩:=b8l (by unfold g2u at h; exact h)
  cases d with
  | gain y =>
   obtain⟨dx,_,ho,g,rfl,hg⟩:=hd
   have ok:YOk y:=ok
   replace ho : H o = some (.ins A.a7u dx [("gain", .ref g)]) := ho
   have hu:=hr.units
   have a4k:a2p 1 _:=hr.mono (by decide)
   have a:=d8q ok.b.1 ok.b.2
   have e0:Str.empty.length=0:=rfl
   have e1 : (Str.ofString "gain:").length = 5 := by decide +kernel
   have hs:sizeLine=16777216:=sizeLine_eq
   refine⟨_,(a0h (a0s (i:=1) d5z.nd rfl (Or.inl rfl) (a0v a5j a4k (by rfl) T.b4p T.a2z.kp T.b4o .nil a1j (a0g (a0y (pvF 0) rfl) a0i)))
   (a0j (a1h (c3m (a6o a3g (a6o (c7v (pvF 1)) f3y)))))),?_⟩
   walk_at "rd*"
   refine⟨y,rfl,ok.b.1,ok.b.2,?_⟩
   simp only [strLen_append,e0,e1]
   exact⟨by omega,by omega,by omega,by rw [i0l]; exact q _ (Same.refl _)⟩
  | _=>simp [Dt.kd] at hk
theorem j3h (T : Tx K mg A) : a1q P A.wd K mg base CX0 1 A.b2r A.b0m ["self"] (g2u A 1) := by
 have a2y:=T.a2y
 have a1u:=T.a1u
 refine T.c1v.ok d3j (fun vs H Q E h=>?_) (fun cdv A' outer s H vs Q E hr h=>?_)
 ·obtain⟨_,rfl,_⟩:=b8l (by unfold g2u at h; exact h)
  rfl
 ·obtain⟨o,rfl,⟨d,hk,hd,ok,q⟩⟩:=b8l (by unfold g2u at h; exact h)
  cases d with
  | delay n =>
   obtain⟨dx,_,ho,rfl⟩:=hd
   have ok:n<=1000:=ok
   replace ho : H o = some (.ins A.a4m dx [("many", .int n)]) := ho
   have hu:=hr.units
   have a:=d8p (n:=n) (Nat.lt_of_le_of_lt ok (by decide))
   have e0:Str.empty.length=0:=rfl
   have e1 : (Str.ofString "delay:").length = 6 := by decide +kernel
   have hs:sizeLine=16777216:=sizeLine_eq
   have g0:=c7z (t:=(n:Int)) (n:=20) (by omega) (by decide)
   unfold nW at a
   refine⟨_,(a0h (a0s (i:=1) d3j.nd rfl (Or.inl rfl) (a0y (pvF 0) rfl))
   (a0j (a1h (c3m (a6o a3g (a6o (c7v (pvF 1)) f3y)))))),?_⟩
   walk_at "rd*"
   have w:=h3g n
   unfold nW at w
   simp only [strLen_append,e0,e1]
   refine⟨by omega,by omega,by omega,?_⟩
   rw [w]
   exact q _ (Same.refl _)
  | _=>simp [Dt.kd] at hk
theorem j3i (T : Tx K mg A) : a1q P A.wd K mg base CX0 2 A.b5u A.b2v ["self"] (g2u A 2) := by
 have a5j:a1q P A.wd K mg base CX0 1 _ _ _ _:=i4b T
 have a3i:=T.a3i
 have a1n:=T.a1n
 have a1o:=T.a1o
 have a1i:=T.a1i
 have a0t:=T.a0t
 have a0q:=T.a0q
 refine T.c5v.ok c1q (fun vs H Q E h=>?_) (fun cdv A' outer s H vs Q E hr h=>?_)
 ·obtain⟨_,rfl,_⟩:=b8l (by unfold g2u at h; exact h)
  rfl
 ·obtain⟨o,rfl,⟨d,hk,hd,ok,q⟩⟩:=b8l (by unfold g2u at h; exact h)
  cases d with
  | echo y n t =>
   obtain⟨dx,_,ho,g,fa,rfl,hg,hf⟩:=hd
   obtain⟨oy,n1,n2,t2⟩:=ok
   replace ho:H o=some (.ins A.a5i dx (ecF g fa n t (y.den:Int))):=ho
   unfold ecF at ho
   have hu:=hr.units
   have a4k:a2p 1 _:=hr.mono (by decide)
   have a:=d8q oy.b.1 oy.b.2
   have b:=d8p (n:=n) (Nat.lt_of_le_of_lt n2 (by decide))
   have c:=d8p (n:=t) (Nat.lt_of_le_of_lt t2 (by decide))
   have e0:Str.empty.length=0:=rfl
   have e1 : (Str.ofString "echo:").length = 5 := by decide +kernel
   have e2 : (Str.ofString ":").length = 1 := by decide +kernel
   have hs:sizeLine=16777216:=sizeLine_eq
   have g0:=c7z (t:=(n:Int)) (n:=20) (by omega) (by decide)
   have g1:=c7z (t:=(t:Int)) (n:=20) (by omega) (by decide)
   have w:=i0m y n t
   unfold nW at b c w
   refine⟨_,(a0h (a0s (i:=1) c1q.nd rfl (Or.inl rfl) (a0v a5j a4k (by rfl) T.b4p T.a2z.kp T.b4o .nil a1j (a0g (a0y (pvF 0) rfl) a0i)))
   (a0h (a0s (i:=2) c1q.nd rfl (Or.inl rfl) (a0y (pvF 0) rfl))
   (a0h (a0s (i:=3) c1q.nd rfl (Or.inl rfl) (a0y (pvF 0) rfl))
   (a0j (a1h (c3m (a6o a3g (a6o (c7v (pvF 1)) (a6o a3g (a6o (c7v (pvF 2)) (a6o a3g (a6o (c7v (pvF 3)) f3y)))))))))))),?_⟩
   walk_at "rd*"
   refine⟨y,rfl,oy.b.1,oy.b.2,?_⟩
   simp only [strLen_append,e0,e1,e2]
   refine⟨by omega,by omega,by omega,by omega,by omega,by omega,by omega,by omega,by omega,?_⟩
   rw [w]
   exact q _ (Same.refl _)
  | _=>simp [Dt.kd] at hk
theorem j3j (T : Tx K mg A) : a1q P A.wd K mg base CX0 2 A.b5w A.b2y ["self"] (g2u A 3) := by
 have a5j:a1q P A.wd K mg base CX0 1 _ _ _ _:=i4b T
 have a4j:=T.a4j
 have a1w:=T.a1w
 have a1y:=T.a1y
 refine T.c5y.ok c8r (fun vs H Q E h=>?_) (fun cdv A' outer s H vs Q E hr h=>?_)
 ·obtain⟨_,rfl,_⟩:=b8l (by unfold g2u at h; exact h)
  rfl
 ·obtain⟨o,rfl,⟨d,hk,hd,ok,q⟩⟩:=b8l (by unfold g2u at h; exact h)
  cases d with
  | back y n =>
   obtain⟨dx,_,ho,g,rfl,hg⟩:=hd
   obtain⟨oy,n1,n2⟩:=ok
   replace ho : H o = some (.ins A.a6v dx [("gain", .ref g), ("many", .int n)]) := ho
   have hu:=hr.units
   have a4k:a2p 1 _:=hr.mono (by decide)
   have a:=d8q oy.b.1 oy.b.2
   have b:=d8p (n:=n) (Nat.lt_of_le_of_lt n2 (by decide))
   have e0:Str.empty.length=0:=rfl
   have e1 : (Str.ofString "back:").length = 5 := by decide +kernel
   have e2 : (Str.ofString ":").length = 1 := by decide +kernel
   have hs:sizeLine=16777216:=sizeLine_eq
   have g0:=c7z (t:=(n:Int)) (n:=20) (by omega) (by decide)
   have w:=i0n y n
   unfold nW at b w
   refine⟨_,(a0h (a0s (i:=1) c8r.nd rfl (Or.inl rfl) (a0v a5j a4k (by rfl) T.b4p T.a2z.kp T.b4o .nil a1j (a0g (a0y (pvF 0) rfl) a0i)))
   (a0h (a0s (i:=2) c8r.nd rfl (Or.inl rfl) (a0y (pvF 0) rfl))
   (a0j (a1h (c3m (a6o a3g (a6o (c7v (pvF 1)) (a6o a3g (a6o (c7v (pvF 2)) f3y))))))))),?_⟩
   walk_at "rd*"
   refine⟨y,rfl,oy.b.1,oy.b.2,?_⟩
   simp only [strLen_append,e0,e1,e2]
   refine⟨by omega,by omega,by omega,by omega,by omega,by omega,?_⟩
   rw [w]
   exact q _ (Same.refl _)
  | _=>simp [Dt.kd] at hk
theorem wd4{σ:L2.St}{i:Nat}{o:Addr}{H:Hp}{d:Dt}{Q:VK}{E:XK}(hσ:σ[i]? = some (some (.ref o)))(hd:IsP A H o d)(ok:d.ok)(q:∀ H1,Same H H1->Q (.str d.word) H1) :
  b5g (b2m A.a7u "word" (g2u A 0) [] E (c3g i) g2z) (b5g (b2m A.a4m "word" (g2u A 1) [] E (c3g i) g2z) (b5g (b2m A.a5i "word" (g2u A 2) [] E (c3g i) g2z) (b2m A.a6v "word" (g2u A 3) [] E (c3g i) g2z))) σ H Q := by
 have z:=hd
 cases d with
 | gain y =>
  obtain⟨dx,_,ho,g,rfl,hg⟩:=hd
  refine .inl ?_
  replace ho : H o = some (.ins A.a7u dx [("gain", .ref g)]) := ho
  exact c1l hσ ho (by walk_at "rd") ⟨_, rfl, z, ok, q⟩
 | delay n =>
  obtain⟨dx,_,ho,rfl⟩:=hd
  refine .inr (.inl ?_)
  replace ho : H o = some (.ins A.a4m dx [("many", .int n)]) := ho
  exact c1l hσ ho (by walk_at "rd") ⟨_, rfl, z, ok, q⟩
 | echo y n t' =>
  obtain⟨dx,_,ho,g,fa,rfl,hg,hf⟩:=hd
  refine .inr (.inr (.inl ?_))
  replace ho:H o=some (.ins A.a5i dx (ecF g fa n t' (y.den:Int))):=ho
  unfold ecF at ho
  exact c1l hσ ho (by walk_at "rd") ⟨_, rfl, z, ok, q⟩
 | back y n =>
  obtain⟨dx,_,ho,g,rfl,hg⟩:=hd
  refine .inr (.inr (.inr ?_))
  replace ho : H o = some (.ins A.a6v dx [("gain", .ref g), ("many", .int n)]) := ho
  exact c1l hσ ho (by walk_at "rd") ⟨_, rfl, z, ok, q⟩
 | _=>obtain⟨_,_,_,z⟩:=hd; exact z.elim
theorem h5v{K:PySem.W.Frag}{a D:Addr}{xs:List V}{te:TE}{σ:L2.St}{H0 H:Hp}{Q:VK}(zs:List V)(hz:zs.length=xs.length)(n0:H0 D=none)(S:Same H0 H)(hD:H D=some (.lst []))(hS:SqL K H0 a xs)(hsz:xs.length<=sizeLine)
  (hs:∀ (i:Nat) x z H' (Q':VK),xs[i]? = some x->zs[i]? = some z->Same H0 H'->(∀ H2,Same H' H2->Q' z H2)->te (some x :: σ) H' Q') (q:∀ H',Same H0 H'->H' D=some (.lst zs)->Q (.ref D) H'):f5o (Itl K a) te D σ H Q ⟨⟩:=by
 refine a9z (fun i ys H'=>Same H0 H'/\H' D=some (.lst ys)/\ys=zs.take i) ⟨S,hD,by simp⟩ hsz (fun i ys H' hi p=>?_) (fun i x ys H' hx p=>?_) (fun ys H' p=>?_)
 ·refine⟨p.2.1,p.1.seq hS,?_⟩
  rw [p.2.2,List.length_take]
  omega
 ·have hi:i < zs.length:=by rw [hz]; exact (List.getElem?_eq_some_iff.mp hx).1
  have hzi:zs[i]? = some zs[i]:=List.getElem?_eq_getElem hi
  refine hs i x _ H' _ hx hzi p.1 fun H2 S2=>⟨S2 _ _ p.2.1,fun H3 s3 h3=>⟨(p.1.trans S2).step n0 s3,h3,?_⟩⟩
  rw [p.2.2,List.take_add_one,hzi]
  rfl
 ·refine q H' p.1 ?_
  rw [p.2.1,p.2.2,<- hz,List.take_length]
theorem i9a (T : Tx K mg A) : a1q P A.wd K mg base CX0 4 A.b0q A.a8h ["self"] (i3f A) := by
 have g5s:a1q P A.wd K mg base CX0 2 _ _ _ _:=j3g T
 have g1y:a1q P A.wd K mg base CX0 1 _ _ _ _:=j3h T
 have g5t:a1q P A.wd K mg base CX0 2 _ _ _ _:=j3i T
 have g5u:a1q P A.wd K mg base CX0 2 _ _ _ _:=j3j T
 have a4o:=T.a4o
 have a1z:=T.a1z
 have a1p:=T.a1p
 have a4i:=T.a4i
 have a1v:=T.a1v
 have a2y:=T.a2y
 have a1u:=T.a1u
 have a3i:=T.a3i
 have a1n:=T.a1n
 have a1o:=T.a1o
 have a1i:=T.a1i
 have a0t:=T.a0t
 have a0q:=T.a0q
 have a4j:=T.a4j
 have a1w:=T.a1w
 have a1y:=T.a1y
 refine T.b8u.ok f2o (fun vs H Q E h=>?_) (fun cdv A' outer s H vs Q E hr h=>?_)
 ·obtain⟨_,rfl,_⟩:=b8l (by unfold i3f at h; exact h)
  rfl
 ·obtain⟨o,rfl,⟨ds,⟨dx,pl,sl,os,sts,ho,hpl,hsl,R,_⟩,l8,ok,q⟩⟩:=b8l (by unfold i3f at h; exact h)
  have hu:=hr.units
  have g1z:a2p 2 _:=hr.mono (by decide)
  have f8l:a2p 1 _:=hr.mono (by decide)
  have g2a:a2p 2 _:=hr.mono (by decide)
  have g2b:a2p 2 _:=hr.mono (by decide)
  have hs:sizeLine=16777216:=sizeLine_eq
  have ol:=R.1
  unfold chF at ho
  refine ⟨_, (a0j (a1h (b9z (a2m (a0y (pvF 0) rfl)) (fun _ _ _ _ _ => (a3k (a2n (pvF 0) T.a4i T.c8v g5s g1z T.g4g .nil a1j) (a3k (a2n (pvF 0) T.a2y T.c5m g1y f8l T.g1g .nil a1j) (a3k (a2n (pvF 0) T.a3i T.c8w g5t g2a T.g4i .nil a1j) (a2n (pvF 0) T.a4j T.c8y g5u g2b T.g4k .nil a1j))))) (c7u (sc := a0l c4r) (N := ["self"]) rfl rfl (by decide +kernel)) rfl))), ?_⟩
  walk_at "rd*"
  refine⟨⟨_,SqL.of hpl⟩,fun D H2 n2 S2 h2=>?_⟩
  refine h5v (ds.map fun d=>V.str d.word) (by rw [List.length_map,List.length_map,ol]) n2 S2 h2 (SqL.of hpl) (by rw [List.length_map,hs]; omega) ?_ ?_
  ·intro i x z H' Q' hx hz S' q'
   rw [List.getElem?_map] at hx hz
   obtain⟨oi,hoi,rfl⟩:=Option.map_eq_some_iff.mp hx
   obtain⟨d,hd,rfl⟩:=Option.map_eq_some_iff.mp hz
   have hp:=(R.2 i _ _ hoi hd).same S'
   have okd:=ok d (List.mem_of_getElem? hd)
   try walk_at "rd"
   exact wd4 (by rfl) hp okd fun H1 S1=>q' H1 S1
  ·intro H3 S3 h3
   exact q _ _ ⟨D,rfl,n2,S3,h3⟩
theorem h8x(c:Int×Nat)(L:List (Int×Nat))(X:Int->Int)(i:Int):tap (c :: L) X i=c.1*X (i - (c.2:Int))+tap L X i:=by
 unfold tap
 rw [List.map_cons,List.sum_cons]
theorem d4y{xs:List Int}{i:Int}(h:i < 0):c9v xs i=0:=if_pos h
theorem h8y{L:List (Int×Nat)}{X:Int->Int}{i:Int}(h:∀ j,j<=i->X j=0):tap L X i=0:=by
 induction L with
 | nil=>rfl
 | cons c L ih=>rw [h8x,ih,h _ (by omega),Int.mul_zero]; rfl
theorem g7o(d:Dt)(xs:List Int){i:Int}(hi:i < (xs.length:Int)):c9v (outs d [] xs) i=tap (j0b d) (c9v xs) i:=by
 rcases (by omega:i < 0\/0<=i) with h | h
 ·rw [d4y h,h8y fun j hj=>d4y (by omega)]
 ·obtain⟨k,rfl⟩:∃ k:Nat,i=k:=⟨i.toNat,by omega⟩
  rw [c9v,if_neg (by omega),Int.toNat_natCast,c2n (by omega),List.nil_append,List.length_nil,Nat.zero_add]
theorem i4c {c : Nat} (h1 : 97 ≤ c) (h2 : c ≤ 122) : i1v "abcdefghijklmnopqrstuvwxyz" ⟨#[c]⟩ = true := by
 unfold i1v
 rw [StrLaws.found_one]
 have e : (Str.ofString "abcdefghijklmnopqrstuvwxyz").cps.toList = List.range' 97 26 := by decide +kernel
 rw [e,decide_eq_true_eq]
 exact List.mem_range'_1.mpr ⟨h1,by omega⟩
theorem h5w{x:Str}{D:Addr}{te:TE}{σ:L2.St}{H0 H:Hp}{Q:VK}(f:Nat->V)(n0:H0 D=none)(S:Same H0 H)(hD:H D=some (.lst []))(hsz:x.cps.size<=sizeLine)
  (hs:∀ (i:Nat) c H' (Q':VK),x.cps[i]? = some c->Same H0 H'->Q' (f c) H'->te (some (.str ⟨#[c]⟩) :: σ) H' Q') (q:∀ H',Same H0 H'->H' D=some (.lst (x.cps.toList.map f))->Q (.ref D) H'):f5o (Its x) te D σ H Q ⟨⟩:=by
 refine⟨x.cps.size,fun i ys H'=>Same H0 H'/\H' D=some (.lst ys)/\ys=(x.cps.toList.take i).map f,⟨S,hD,by simp⟩,fun i ys H' hi w=>?_⟩
 obtain⟨S',h',e⟩:=w
 refine⟨h',?_⟩
 by_cases hlt:i < x.cps.size
 ·refine .inr ⟨hlt,hlt,by rw [e,List.length_map,List.length_take]; omega,fun v H2 y=>?_⟩
  obtain⟨e2,c,hc,ev⟩:=y
  subst e2 ev
  refine hs i c _ _ hc S' ⟨h',fun H3 s3 h3=>⟨S'.step n0 s3,h3,?_⟩⟩
  have hc':x.cps.toList[i]? = some c:=by rw [Array.getElem?_toList]; exact hc
  rw [List.take_add_one,hc',List.map_append,e]
  rfl
 ·have e3:i=x.cps.size:=by omega
  subst e3
  refine .inl ⟨rfl,q H' S' ?_⟩
  rw [h',e,List.take_of_length_le (by rw [Array.length_toList]; exact Nat.le_refl _)]
theorem h5x (T : Tx K mg A) : a1q P A.wd K mg base CX0 1 A.c0k A.b9v ["value"] f7s := by
 refine T.c9l.ok g8u (fun vs H Q E h=>?_) (fun cdv A' outer s H vs Q E hr h=>?_)
 ·obtain⟨_,rfl,_⟩:=g7f (by unfold f7s at h; exact h)
  rfl
 ·obtain⟨x,rfl,⟨⟨l8,ne,ab⟩,q⟩⟩:=g7f (by unfold f7s at h; exact h)
  have hu:=hr.units
  have hs:sizeLine=16777216:=sizeLine_eq
  have nl:¬ (8:Int) < (x.length:Int):=by omega
  have ne' : (x = Str.ofString "") = False := eq_false ne
  have xl:x.length<=16777216:=by omega
  refine ⟨_, (a0h (a6n (pw_or (c6z (b1u (a1g (c1p .str) (by rfl) T.a6w boot_isinstance (a0g (pvF 0) (a0g (c7r (v := .ty "str") (u := .type "str") (by rfl) T.f7j rfl rfl) a0i))))) (pw_or (a1r (c2y hu) (pvF 0) a3g (a2s _)) (pw_or1 (a1r g0d (a1g a2k (by rfl) T.b6z boot_len (a0g (pvF 0) a0i)) (a9i (v := .int 8) (by rfl) T.f0y T.c0z) (a2s _))))).pt
   (a0j (a1h f2l))
   a2h)
   (a0j (a1h (a1g (g0p rfl) (by rfl) T.i8o boot_all (a0g (b9z (i0b (pvF 0)) (fun _ _ _ _ _ => (g2y g0i (pvF 0) (a9i (v := .str "abcdefghijklmnopqrstuvwxyz") (by rfl) T.g9l T.d4q) (by rfl))) (c7u (sc := a0l d9i) (N := ["value"]) rfl rfl (by decide +kernel)) rfl) a0i))))), ?_⟩
  walk_at "rd*"
  refine fun D H2 n2 S2 h2=>?_
  refine h5w (fun _=>V.bl true) n2 S2 h2 (show x.length<=sizeLine by omega) ?_ ?_
  ·intro i c H' Q' hc SS q'
   have hm:=ab c (by rw [Array.mem_toList_iff]; exact Array.mem_of_getElem? hc)
   have hh:=i4c hm.1 hm.2
   walk_at "rd*"
  ·intro H3 S3 h3
   walk_at "rd*"
   refine⟨x.cps.toList.map fun _=>true,by rw [List.map_map]; rfl,?_⟩
   rw [show (x.cps.toList.map fun _=>true).all id=true by simp]
   exact q H3 S3
theorem Eds.same{H H':Hp}{ps:List Addr}{es:List (Str×Str)}(h:Eds H ps es)(S:Same H H'):Eds H' ps es:=⟨h.1,fun i p e h1 h2=>(h.2 i p e h1 h2).elim fun lw z=>⟨lw,S _ _ z⟩⟩
theorem i0s.same{A:Ad}{H H':Hp}{o t b sd:Addr}{ts bs:List Str}{es:List (Str×Str)}(h:i0s A H o t b sd ts bs es)(S:Same H H'):i0s A H' o t b sd ts bs es:=by
 obtain⟨dx,ou,ps,h1,h2,h3,h4,h5,h6⟩:=h
 exact⟨dx,ou,ps,S _ _ h1,S _ _ h2,S _ _ h3,S _ _ h4,h5.same S,h6⟩
theorem b9n(x:Str):∀ ts:List Str,inV (.str x) (ts.map V.str)=decide (x∈ts)
 | []=>rfl
 | t :: ts=>by
  have ih:=b9n x ts
  unfold inV at ih ⊢
  rw [List.map_cons,List.any_cons,ih]
  by_cases h:t=x
  ·subst h
   simp [eqV]
  ·have:eqV (.str t) (.str x)=false:=by simp [eqV,h]
   rw [this]
   simp
   exact fun e=>absurd e.symm h
theorem c4n(ts:List Str):(ts.map V.str).all c1m=true:=by
 rw [List.all_eq_true]
 intro v hv
 obtain⟨n,_,rfl⟩:=List.mem_map.mp hv
 rfl
theorem i0t (T : Tx K mg A) : a1q P A.wd K mg base CX0 2 A.a4u A.a3u ["self", "name"] (i3g A) := by
 have h5y:a1q P A.wd K mg base CX0 1 _ _ _ _:=h5x T
 have a1s:=T.a1s
 have a0m:=T.a0m
 have a0o:=T.a0o
 have a0n:=T.a0n
 have a0p:=T.a0p
 refine T.b1g.ok d3k (fun vs H Q E h=>?_) (fun cdv A' outer s H vs Q E hr h=>?_)
 ·obtain⟨_,_,rfl,_⟩:=g8o (by unfold i3g at h; exact h)
  rfl
 ·obtain⟨o,x,rfl,⟨t,b,sd,ts,bs,es,⟨dx,ou,ps,ho,ht,hb,hsd,hE,d1,d2,d3⟩,nm,nt,nb,q⟩⟩:=g8o (by unfold i3g at h; exact h)
  have hu:=hr.units
  have h0c:a2p 1 _:=hr.mono (by decide)
  unfold ptF at ho
  refine⟨_,(a0h (a6n (c6z (b1u (a0v h5y h0c (by rfl) T.h4a T.c9l.kp T.h3z .nil a1j (a0g (pvF 1) a0i))))
   (a0j a2w)
   a2h)
   (a0j (a6n (pw_or (a1r g0i (pvF 1) (a0y (pvF 0) rfl) (by rfl)) (pw_or1 (a1r g0i (pvF 1) (a0y (pvF 0) rfl) (by rfl)))).pt
   (a0j a2w)
   a2h))),?_⟩
  walk_at "rd"
  refine⟨nm,fun H1 S1=>?_⟩
  have ho1:=S1 _ _ ho
  have ht1:=S1 _ _ ht
  have hb1:=S1 _ _ hb
  have i1:inV (.str x) (ts.map V.str)=false:=by rw [b9n]; exact decide_eq_false nt
  have i2:inV (.str x) (bs.map V.str)=false:=by rw [b9n]; exact decide_eq_false nb
  have f1:=c4n ts
  have f2:=c4n bs
  clear ho ht hb
  walk_at "rd*"
  exact⟨rfl,rfl⟩
theorem i0u{H:Hp}{N:Addr->Prop}:∀ {es:List Sd} {us:List V},RpL H N us (es.map dSd)->∃ ps:List Addr,us=ps.map V.ref/\Eds H ps (prs es)
 | [],_,.nil=>⟨[],rfl,rfl,fun i p e h=>by simp at h⟩
 | e :: es,_,.cons h r=>by
  obtain⟨ps,rfl,hl,hE⟩:=i0u r
  obtain⟨p,vs,rfl,hp,r2⟩:=h.tuple
  obtain⟨x,y,z,rfl,h1,h2,h3⟩:=r2.three
  cases h1.strOf
  cases h2.strOf
  obtain⟨lw,ws,rfl,_⟩:=h3.list
  refine⟨p :: ps,rfl,by rw [List.length_cons,hl]; rfl,fun i q f e1 e2=>?_⟩
  cases i with
  | zero=>cases e1; cases e2; exact⟨lw,hp⟩
  | succ i=>exact hE i q f e1 e2
theorem b9l.pt{A:Ad}{H:Hp}{N:Addr->Prop}{o:Addr}{p:Pd}(h:b9l A H N o p):∃ t b sd,i0s A H o t b sd p.ts p.bs (prs p.es):=by
 obtain⟨dx,t,b,sd,ou,ho,n,d,ht,hb,⟨us,hsd,R⟩,_⟩:=h
 obtain⟨ps,rfl,hE⟩:=i0u R
 exact⟨t,b,sd,dx,ou,ps,ho,ht,hb,hsd,hE,d.1,d.2.1,d.2.2.2.1⟩
theorem b9l.over{A:Ad}{H H':Hp}{N M:Addr->Prop}{o:Addr}{p:Pd}(h:b9l A H N o p)(S:b8p M H H')(hd:∀ z,N z->H z≠none->¬ M z):b9l A H' N o p:=by
 obtain⟨dx,t,b,sd,ou,ho,F⟩:=h
 exact⟨dx,t,b,sd,ou,S _ _ (fun _ ys q=>by cases q) ho,F.over S hd⟩
theorem b9l.same{A:Ad}{H H':Hp}{N:Addr->Prop}{o:Addr}{p:Pd}(h:b9l A H N o p)(S:Same H H'):b9l A H' N o p:=h.over (M:=fun _=>False) (b8p.of S) fun _ _ _ h=>h
theorem b9l.mono{A:Ad}{H:Hp}{N M:Addr->Prop}{o:Addr}{p:Pd}(h:b9l A H N o p)(hm:∀ z,N z->H z≠none->M z):b9l A H M o p:=by
 obtain⟨dx,t,b,sd,ou,ho,F⟩:=h
 exact⟨dx,t,b,sd,ou,ho,F.mono hm⟩
theorem j3k (T : Tx K mg A) : a1q P A.wd K mg base CX0 1 A.b3k A.b0t ["self"] (j3d A) := by
 have a1s:=T.a1s
 have a0m:=T.a0m
 have a0o:=T.a0o
 have a0n:=T.a0n
 have a0p:=T.a0p
 refine T.c2h.ok f6k (fun vs H Q E h=>?_) (fun cdv A' outer s H vs Q E hr h=>?_)
 ·obtain⟨_,rfl,_⟩:=b8l (by unfold j3d at h; exact h)
  rfl
 ·obtain⟨o,rfl,⟨dx,ho,q⟩⟩:=b8l (by unfold j3d at h; exact h)
  have hu:=hr.units
  have hs:sizeLine=16777216:=sizeLine_eq
  have fr:∀ {H1:Hp} {z:Addr},a2j o H H1->H1 z=none->z≠o->H z=none:=fun B n nz=>by
   cases e:H _ with
   | none=>rfl
   | some u=>rw [B _ _ nz e] at n; cases n
  have ap:∀ {H1:Hp} {z y:Addr} {u:HO},H1 z=none->H1 y=some u->z≠y:=fun n e q=>by rw [q,e] at n; cases n
  refine⟨_,(a0h (a5z (pvF 0) (a3y a0i) rfl)
   (a0h (a5z (pvF 0) (a3y a0i) rfl)
   (a0h (a5z (pvF 0) (a3y a0i) rfl)
   (a0j (a5z (pvF 0) (a3y a0i) rfl))))),?_⟩
  walk_at "rd"
  refine⟨by omega,fun t H1 n1 S1 h1=>?_⟩
  have ho1:=S1 _ _ ho
  have ot:=ap n1 ho
  walk_at "rd*"
  intro H2 B2 h2
  have h12:=B2 _ _ ot h1
  have B02:a2j o H H2:=fun z u hz e=>B2 _ _ hz (S1 _ _ e)
  clear h1 ho1
  walk_at "rd*"
  refine fun b H3 n3 S3 h3=>?_
  have ho3:=S3 _ _ h2
  have ob:=ap n3 h2
  have tb:=ap n3 h12
  have nb:=fr B02 n3 ob
  clear h2
  walk_at "rd*"
  intro H4 B4 h4
  have h14:=B4 _ _ ot (S3 _ _ h12)
  have h34:=B4 _ _ ob h3
  have B04:a2j o H H4:=fun z u hz e=>B4 _ _ hz (S3 _ _ (B02 _ _ hz e))
  clear h12 h3 ho3
  walk_at "rd*"
  refine fun sd H5 n5 S5 h5=>?_
  have ho5:=S5 _ _ h4
  have os:=ap n5 h4
  have ts:=ap n5 h14
  have bs:=ap n5 h34
  have ns:=fr B04 n5 os
  clear h4
  walk_at "rd*"
  intro H6 B6 h6
  have h16:=B6 _ _ ot (S5 _ _ h14)
  have h36:=B6 _ _ ob (S5 _ _ h34)
  have h56:=B6 _ _ os h5
  have B06:a2j o H H6:=fun z u hz e=>B6 _ _ hz (S5 _ _ (B04 _ _ hz e))
  clear h14 h34 h5 ho5
  walk_at "rd*"
  refine fun ou H7 n7 S7 h7=>?_
  have ho7:=S7 _ _ h6
  have oo:=ap n7 h6
  have to:=ap n7 h16
  have bo:=ap n7 h36
  have so:=ap n7 h56
  have nu:=fr B06 n7 oo
  clear h6
  walk_at "rd*"
  intro H8 B8 h8
  exact q H8 (fun z u hz e=>B8 _ _ hz (S7 _ _ (B06 _ _ hz e))) ⟨dx,t,b,sd,ou,h8,⟨n1,nb,ns,nu⟩,⟨tb.symm,ts.symm,to.symm,bs.symm,bo.symm,so.symm⟩,B8 _ _ ot (S7 _ _ h16),B8 _ _ ob (S7 _ _ h36),⟨[],B8 _ _ os (S7 _ _ h56),.nil⟩,[],B8 _ _ oo h7,.nil⟩
theorem i9b (T : Tx K mg A) : a1q P A.wd K mg base CX0 3 A.b0u A.a8k ["self", "name"] (i3h A) := by
 have b7h:a1q P A.wd K mg base CX0 2 _ _ _ _:=i0t T
 have a1s:=T.a1s
 have a0m:=T.a0m
 have a0o:=T.a0o
 have a0n:=T.a0n
 have a0p:=T.a0p
 refine T.b8y.ok f2p (fun vs H Q E h=>?_) (fun cdv A' outer s H vs Q E hr h=>?_)
 ·obtain⟨_,_,rfl,_⟩:=g8o (by unfold i3h at h; exact h)
  rfl
 ·obtain⟨o,x,rfl,⟨N,p,hP,nm,nt,nb,l1,q⟩⟩:=g8o (by unfold i3h at h; exact h)
  obtain⟨t',b',sd',hT⟩:=hP.pt
  obtain⟨dx,t,b,sd,ou,ho,F⟩:=id hP
  have ht:=F.ht
  have hb:=F.hb
  have hu:=hr.units
  have hs:sizeLine=16777216:=sizeLine_eq
  have b4t:a2p 2 _:=hr.mono (by decide)
  unfold ptF at ho
  refine⟨_,(a0h (a6m (a6l (pvF 0) T.a1s T.a9h b7h b4t T.c4i .nil a1j (a0g (pvF 1) a0i)))
   (a0j (a6m (c3i b7j PySem.F.plainAttrs_list PySem.F.slot_list_append PySem.F.type_list_append b0g (a0y (pvF 0) rfl) (a0g (pvF 1) a0i))))),?_⟩
  walk_at "rd*"
  refine⟨t',b',sd',_,_,_,hT,nt,nb,fun H1 S1=>?_⟩
  have ho1:=S1 _ _ ho
  have ht1:=S1 _ _ ht
  clear ho ht
  walk_at "rd*"
  refine⟨by omega,?_⟩
  rintro _ H2 ⟨rfl,B2,h2⟩
  try walk_at "rd"
  exact q H2 ((b8p.of S1).trans (b8p.one ht1 F.n.1 B2)) ⟨dx,t,b,sd,ou,B2 _ _ (fun e=>by rw [e,ht1] at ho1; cases ho1) ho1,(F.same S1).addT h2 B2⟩
theorem i9c (T : Tx K mg A) : a1q P A.wd K mg base CX0 3 A.b6j A.b3l ["self", "name"] (i3i A) := by
 have b7h:a1q P A.wd K mg base CX0 2 _ _ _ _:=i0t T
 have a1s:=T.a1s
 have a0m:=T.a0m
 have a0o:=T.a0o
 have a0n:=T.a0n
 have a0p:=T.a0p
 refine T.c5z.ok g1b (fun vs H Q E h=>?_) (fun cdv A' outer s H vs Q E hr h=>?_)
 ·obtain⟨_,_,rfl,_⟩:=g8o (by unfold i3i at h; exact h)
  rfl
 ·obtain⟨o,x,rfl,⟨N,p,hP,nm,nt,nb,l1,q⟩⟩:=g8o (by unfold i3i at h; exact h)
  obtain⟨t',b',sd',hT⟩:=hP.pt
  obtain⟨dx,t,b,sd,ou,ho,F⟩:=id hP
  have ht:=F.ht
  have hb:=F.hb
  have hu:=hr.units
  have hs:sizeLine=16777216:=sizeLine_eq
  have b4t:a2p 2 _:=hr.mono (by decide)
  unfold ptF at ho
  refine⟨_,(a0h (a6m (a6l (pvF 0) T.a1s T.a9h b7h b4t T.c4i .nil a1j (a0g (pvF 1) a0i)))
   (a0j (a6m (c3i b7j PySem.F.plainAttrs_list PySem.F.slot_list_append PySem.F.type_list_append b0g (a0y (pvF 0) rfl) (a0g (pvF 1) a0i))))),?_⟩
  walk_at "rd*"
  refine⟨t',b',sd',_,_,_,hT,nt,nb,fun H1 S1=>?_⟩
  have ho1:=S1 _ _ ho
  have hb1:=S1 _ _ hb
  clear ho hb
  walk_at "rd*"
  refine⟨by omega,?_⟩
  rintro _ H2 ⟨rfl,B2,h2⟩
  try walk_at "rd"
  exact q H2 ((b8p.of S1).trans (b8p.one hb1 F.n.2.1 B2)) ⟨dx,t,b,sd,ou,B2 _ _ (fun e=>by rw [e,hb1] at ho1; cases ho1) ho1,(F.same S1).addB h2 B2⟩
theorem Rch.refl(es:List (Str×Str))(x:Str):Rch es x x:=fun _ h _=>h
theorem Rch.step{es:List (Str×Str)}{x u v:Str}(h:Rch es x u)(he:(u,v)∈es):Rch es x v:=fun S hx hc=>hc u v (h S hx hc) he
theorem filter_lt{α:Type}{p q:α->Bool}:∀ {l:List α} {a:α},(∀ x,q x=true->p x=true)->a∈l->p a=true->q a=false->(l.filter q).length < (l.filter p).length
 | [],_,_,h,_,_=>by cases h
 | x :: l,a,hpq,h,ha,hqa=>by
  have le:∀ l:List α,(l.filter q).length<=(l.filter p).length:=fun l=>by
   induction l with
   | nil=>exact Nat.le_refl _
   | cons y l ih =>
    rw [List.filter_cons,List.filter_cons]
    cases hq:q y with
    | true=>rw [if_pos rfl,if_pos (hpq y hq),List.length_cons,List.length_cons]; omega
    | false =>
     rw [if_neg Bool.false_ne_true]
     split
     ·rw [List.length_cons]; omega
     ·exact ih
  rw [List.filter_cons,List.filter_cons]
  rcases List.mem_cons.mp h with e | h
  ·subst e
   rw [if_neg (by rw [hqa]; exact Bool.false_ne_true),if_pos ha,List.length_cons]
   have:=le l
   omega
  ·have ih:=filter_lt hpq h ha hqa
   cases hq:q x with
   | true=>rw [if_pos rfl,if_pos (hpq x hq),List.length_cons,List.length_cons]; omega
   | false =>
    rw [if_neg Bool.false_ne_true]
    split
    ·rw [List.length_cons]; omega
    ·exact ih
theorem i9d{es:List (Str×Str)}{ks:List Str}{e:Str×Str}(he:e∈es)(hn:e.2∉ks):cnt es (ks++[e.2]) < cnt es ks:=by
 refine filter_lt (fun x hx=>?_) he (by simpa using hn) (by simp)
 simp at hx ⊢
 exact hx.1
theorem f1t:∀ {kvs:List (Key×V)} {k:Key},k∉kvs.map (·.1)->b8k kvs k=none
 | [],_,_=>rfl
 | p :: r,k,h=>by
  rw [List.map_cons,List.mem_cons,not_or] at h
  rw [a9v (fun e=>h.1 e.symm)]
  exact f1t h.2
theorem f1u:∀ {kvs:List (Key×V)} {k:Key},k∈kvs.map (·.1)->∃ v,b8k kvs k=some v/\(k,v)∈kvs
 | [],_,h=>by cases h
 | p :: r,k,h=>by
  by_cases e:p.1=k
  ·exact⟨p.2,b1n e,by rw [<- e]; exact List.mem_cons_self⟩
  ·rw [List.map_cons,List.mem_cons] at h
   obtain⟨v,h1,h2⟩:=f1u (h.resolve_left fun z=>e z.symm)
   exact⟨v,by rw [a9v e]; exact h1,List.mem_cons_of_mem _ h2⟩
theorem h5z{x:Str}{ks:List Str}:kT x∈ks.map kT ↔ x∈ks:=by
 constructor
 ·intro h
  obtain⟨y,hy,e⟩:=List.mem_map.mp h
  injection e with e
  rw [<- e]
  exact hy
 ·exact fun h=>List.mem_map_of_mem h
theorem h0l.same{H H':Hp}{L:Addr}{kvs:List (Key×V)}{ks:List Str}(h:h0l H L kvs ks)(S:Same H H'):h0l H' L kvs ks :=
 ⟨h.1,fun kv hkv=>(h.2 kv hkv).elim fun l z=>z.elim fun ss q=>⟨l,ss,q.1,q.2.1,S _ _ q.2.2.1,q.2.2.2⟩⟩
theorem h0l.b4y{H H':Hp}{L:Addr}{kvs:List (Key×V)}{ks:List Str}(h:h0l H L kvs ks)(B:a2j L H H'):h0l H' L kvs ks :=
 ⟨h.1,fun kv hkv=>(h.2 kv hkv).elim fun l z=>z.elim fun ss q=>⟨l,ss,q.1,q.2.1,B _ _ q.2.1 q.2.2.1,q.2.2.2⟩⟩
theorem h0l.put{H H':Hp}{L W l:Addr}{kvs kvs':List (Key×V)}{ks:List Str}{z:Str}{ss:List Str}(h:h0l H L kvs ks)(hW:H W=some (.dK kvs'))(hz:z∉ks)(hl:H l=some (.lst (ss.map V.str)))(nl:l≠L)(sl:ss.length<=kvs.length+1)(B:a2j W H H'):h0l H' L (putK kvs (kT z) (.ref l)) (ks++[z])/\(putK kvs (kT z) (.ref l)).length=kvs.length+1:=by
 have hn:b8k kvs (kT z)=none:=f1t (by rw [h.1,h5z]; exact hz)
 have ne:∀ {p:Addr} {ys:List V},H p=some (.lst ys)->p≠W:=fun e q=>by rw [q,hW] at e; cases e
 rw [g6r _ hn]
 refine⟨⟨by rw [List.map_append,List.map_append,h.1]; rfl,fun kv hkv=>?_⟩,by rw [List.length_append]; rfl⟩
 rw [List.length_append,List.length_singleton]
 rcases List.mem_append.mp hkv with h1 | h1
 ·obtain⟨l',ss',e1,e2,e3,e4⟩:=h.2 kv h1
  exact⟨l',ss',e1,e2,B _ _ (ne e3) e3,by omega⟩
 ·obtain rfl:=List.mem_singleton.mp h1
  exact⟨l,ss,rfl,nl,B _ _ (ne hl) hl,sl⟩
theorem i9e (T : Tx K mg A) : a1q P A.wd K mg base CX0 1 A.b6k A.b3n ["self", "start", "end"] (i3j A) := by
 have a1s:=T.a1s
 have a0m:=T.a0m
 have a0o:=T.a0o
 have a0n:=T.a0n
 have a0p:=T.a0p
 refine T.c6g.ok b7w (fun vs H Q E h=>?_) (fun cdv A' outer s H vs Q E hr h=>?_)
 ·obtain⟨_,_,_,rfl,_⟩:=i0q (by unfold i3j at h; exact h)
  rfl
 ·obtain⟨o,x,y,rfl,⟨t,b,sd,ts,bs,es,hP,nr,e100,okx,oke,q⟩⟩:=i0q (by unfold i3j at h; exact h)
  have hu:=hr.units
  have hs:sizeLine=16777216:=sizeLine_eq
  obtain⟨dx,ou,ps,ho,ht,hb,hsd,hE,d1,d2,d3⟩:=id hP
  unfold ptF at ho
  have el:=hE.1
  refine⟨_,(a0h (a0s (i:=3) b7w.nd rfl (Or.inl rfl) (h8d (pvF 1) (a3y (a0g (pvF 1) a0i))))
   (a0h (a0s (i:=4) b7w.nd rfl (Or.inl rfl) (a3y (a0g (pvF 1) a0i)))
   (a0h (d2l PassesOwn.never (a1r (c2z hu) (pvF 4) (a3y a0i) (a2s _))
   (a0h (a0s (i:=5) b7w.nd rfl (Or.inl rfl) (i2c b7j PySem.F.plainAttrs_list PySem.F.slot_list_pop PySem.F.type_list_pop i2j (pvF 4)))
   (a0h (a6n (a1r (c2y hu) (pvF 5) (pvF 2) (a2s _))
   (a0j (a1h (a7g (hu1 hu) (pvF 3) (pvF 5) (fun _ _=>rfl))))
   a2h)
   (a0j (a3n PassesOwn.never rfl (a2m (a0y (pvF 0) rfl)) (a2o (i:=6) b7w.nd rfl (Or.inl rfl))
   (a0j (a6n (pw_and (a1r (c2y hu) (a1t a5m (pvF 6) a0k (fun _ _=>rfl)) (pvF 5) (a2s _)) (pw_and1 (h3h (f4g (hu1 hu) (a1t a5m (pvF 6) a0k (fun _ _=>rfl)) (pvF 3)) (by rfl)))).pt
   (a0h (c4q (hu1 hu) (pvF 3) (a1t a5m (pvF 6) a0k (fun _ _=>rfl)) (a0w a2i (a7g (hu1 hu) (pvF 3) (pvF 5) (fun _ _=>rfl)) (a3y (a0g (a1t a5m (pvF 6) a0k (fun _ _=>rfl)) a0i))) rfl)
   (a0j (a6m (c3i b7j PySem.F.plainAttrs_list PySem.F.slot_list_append PySem.F.type_list_append b0g (pvF 4) (a0g (a1t a5m (pvF 6) a0k (fun _ _=>rfl)) a0i)))))
   a2h)))))))
   (a0j (a1h (a3y a0i)))))),?_⟩
  walk_at "rd"
  refine fun W H1 n1 S1 h1=>⟨by omega,fun l1 H2 n2 S2 h2=>⟨x,rfl,S2 _ _ h1,fun H3 B3 h3=>?_⟩⟩
  have nlW:l1≠W:=fun e=>by rw [e,h1] at n2; cases n2
  have h23:=B3 _ _ nlW h2
  have S03:Same H H3:=fun z u e=>B3 _ _ (fun q=>by rw [q,n1] at e; cases e) (S2 _ _ (S1 _ _ e))
  clear h1 h2
  walk_at "rd"
  refine⟨by omega,fun L H4 n4 S4 h4=>?_⟩
  have nWL:W≠L:=fun e=>by rw [<- e,h3] at n4; cases n4
  have nL:H L=none:=S03.free n4
  have h34:=S4 _ _ h3
  have h24:=S4 _ _ h23
  have h23':=h23
  clear h3 h23
  obtain⟨Pv,pin,pout⟩:=b7u (fun m σ H'=>∃ (kvs:List (Key×V)) (ks ws:List Str) (v5 v6:Option V),σ = [some (.ref o),some (.str x),some (.str y),some (.ref W),some (.ref L),v5,v6]/\Same H H'/\H' W=some (.dK kvs)/\H' L=some (.lst (ws.map V.str))/\h0l H' L kvs ks/\(∀ z∈ws,z∈ks)/\(∀ z∈ks,Rch es x z/\PyData.strOk z=true)/\kvs.length+cnt es ks<=es.length+1/\2*cnt es ks+ws.length<=2*es.length+1/\m=2*cnt es ks+ws.length)
  have nlL:l1≠L:=fun e=>by rw [<- e,h23'] at n4; cases n4
  have w0:h0l H4 L [(kT x,.ref l1)] [x]:=⟨rfl,fun kv hkv=>by
   obtain rfl:=List.mem_singleton.mp hkv
   exact⟨l1,[x],rfl,nlL,h24,Nat.le_refl _⟩⟩
  have c0:cnt es [x] <= es.length:=List.length_filter_le _ _
  refine d2m Pv _ (pin _ _ _ ⟨_,[x],[x],_,_,rfl,S03.trans S4,h34,h4,w0,fun z hz=>hz,fun z hz=>by obtain rfl:=List.mem_singleton.mp hz; exact⟨Rch.refl _ _,okx⟩,by rw [List.length_singleton]; omega,by rw [List.length_singleton]; omega,rfl⟩) ?_
  intro m σ H5 hp
  obtain⟨kvs,ks,ws,v5,v6,rfl,S5,hW,hL,wy,wk,kr,kc,mb,em⟩:=pout _ _ _ hp
  clear hp h4 h34 h24 w0
  walk_at "rd"
  refine⟨by omega,fun l6 H6 n6 S6 h6=>?_⟩
  have hW6:=S6 _ _ hW
  have hL6:=S6 _ _ hL
  walk_at "rd"
  refine f5s (ns:=ws) (ms:=[]) (SqL.of hL6) (SqL.of h6) (fun z hz=>(kr z (wk z hz)).2) (fun z hz=>by cases hz) ?_
  cases ws with
  | nil =>
   rw [show (!decide (([] : List Str) = []))=false from rfl]
   walk_at "rd"
   refine⟨by omega,fun l7 H7 n7 S7 h7=>q _ _ ⟨l7,rfl,(S5.trans S6).free n7,S5.trans (S6.trans S7),h7⟩⟩
  | cons w0 wr =>
   obtain⟨ws,ews⟩:∃ ws,w0 :: wr=ws:=⟨_,rfl⟩
   have wne:ws≠[]:=by rw [<- ews]; exact fun e=>by cases e
   have wl:0 < ws.length:=by rw [<- ews]; exact Nat.succ_pos _
   rw [ews] at hL6 wk em mb ⊢
   rw [decide_eq_false wne]
   clear hW hL h6
   walk_at "rd*"
   rintro v H7 ⟨hv,B7,h7⟩
   rw [List.length_map,List.getElem?_map,List.getElem?_eq_getElem (by omega)] at hv
   cases hv
   obtain ⟨sc, esc⟩ : ∃ z, ws[ws.length - 1]'(by omega) = z := ⟨_, rfl⟩
   have scw:sc∈ws:=by rw [<- esc]; exact List.getElem_mem _
   have sck:=wk sc scw
   have ny:sc≠y:=fun e=>nr (by rw [<- e]; exact (kr sc sck).1)
   have ny':(sc=y)=False:=eq_false ny
   rw [esc]
   rw [<- List.map_dropLast] at h7
   have hW7:=B7 _ _ nWL hW6
   have S7':Same H H7:=(S5.trans S6).step nL B7
   have ho7:=S7' _ _ ho
   have i4d:=S7' _ _ hsd
   have wy7:=(wy.same S6).b4y B7
   have dl:ws.dropLast.length=ws.length - 1:=List.length_dropLast
   clear hW6 hL6
   walk_at "rd*"
   refine⟨⟨_,SqL.of i4d⟩,?_⟩
   obtain⟨Pw,win,wout⟩:=b7u (fun i σ H'=>∃ (kv2:List (Key×V)) (k2 w2:List Str) (v6:Option V),σ = [some (.ref o),some (.str x),some (.str y),some (.ref W),some (.ref L),some (.str sc),v6]/\Same H H'/\H' W=some (.dK kv2)/\H' L=some (.lst (w2.map V.str))/\h0l H' L kv2 k2/\sc∈k2/\(∀ z∈w2,z∈k2)/\(∀ z∈k2,Rch es x z/\PyData.strOk z=true)/\kv2.length+cnt es k2<=es.length+1/\2*cnt es k2+w2.length+1<=2*cnt es ks+ws.length)
   refine a4l (xs:=ps.map V.ref) Pw (win _ _ _ ⟨kvs,ks,ws.dropLast,_,rfl,S7',hW7,h7,wy7,sck,fun z hz=>wk z (List.dropLast_subset _ hz),kr,kc,by omega⟩) ?_ ?_ ?_
   ·intro i σ H8 hi hp
    obtain⟨kv2,k2,w2,v6',rfl,S8,_⟩:=wout _ _ _ hp
    exact SqL.of (S8 _ _ hsd)
   ·intro i v σ H8 hv hp
    rw [List.getElem?_map] at hv
    obtain⟨p,hpi,rfl⟩:=Option.map_eq_some_iff.mp hv
    obtain⟨kv2,k2,w2,v6',rfl,S8,hW8,hL8,wy8,sk8,wk8,kr8,kc8,em8⟩:=wout _ _ _ hp
    have hi:=(List.getElem?_eq_some_iff.mp hpi).1
    have hei : es[i]? = some (es[i]'(by omega)) := List.getElem?_eq_getElem _
    obtain⟨lw,hpe⟩:=hE.2 i p _ hpi hei
    have me:=List.mem_of_getElem? hei
    generalize es[i]'(by omega) = e at hei hpe me
    have hp8:=S8 _ _ hpe
    have iv:=f1t (kvs:=kv2) (k:=kT e.2)
    clear hv hp ho7 i4d hW7 h7
    walk_at "rd*"
    split
    ·rename_i hc
     obtain⟨v,hv1,hv2⟩:=f1u (kvs:=kv2) (k:=kT sc) (by rw [wy8.1,h5z]; exact sk8)
     obtain⟨lv,ss,ev,nlv,hlv,sl⟩:=wy8.2 _ hv2
     replace ev:v = .ref lv:=ev
     subst ev
     have hn:e.2∉k2:=fun hm=>by
      obtain⟨u,hu1,_⟩:=f1u (kvs:=kv2) (k:=kT e.2) (by rw [wy8.1,h5z]; exact hm)
      rw [hu1] at hc
      exact absurd hc.2 (by simp)
     refine⟨_,hv1,fun l9 H9 n9 S9 h9=>?_⟩
     have hlv9:=S9 _ _ hlv
     walk_at "rd*"
     refine⟨by omega,fun l10 H10 n10 S10 h10=>?_⟩
     have i9f:=S9.trans S10
     have j4y:=i9f _ _ hW8
     have j0e:=i9f _ _ hp8
     have hL10:=i9f _ _ hL8
     have n10L:l10≠L:=fun q=>by rw [q,S9 _ _ hL8] at n10; cases n10
     clear hW8 hp8 h9 hlv9
     walk_at "rd*"
     refine⟨by omega,fun H11 B11 h11=>?_⟩
     have j3l:=B11 _ _ nWL.symm hL10
     have j3m:=B11 _ _ (fun q=>by rw [q,j4y] at j0e; cases j0e) j0e
     have j4z:=(wy8.same i9f).put (z:=e.2) j4y hn (ss:=ss++[e.2]) (by rw [h10,List.map_append]; rfl) n10L (by rw [List.length_append,List.length_singleton]; omega) B11
     have nHW:H W=none:=n1
     clear j0e
     walk_at "rd*"
     refine⟨by omega,?_⟩
     rintro _ H12 ⟨rfl,B12,h12⟩
     have cl:=i9d me hn
     refine win _ _ _ ⟨_,k2++[e.2],w2++[e.2],_,rfl,((S8.trans i9f).step nHW B11).step nL B12,B12 _ _ nWL h11,by rw [h12,List.map_append]; rfl,j4z.1.b4y B12,List.mem_append_left _ sk8,fun z hz=>?_,fun z hz=>?_,by rw [j4z.2]; omega,by rw [List.length_append,List.length_singleton]; omega⟩
     ·rcases List.mem_append.mp hz with h | h
      ·exact List.mem_append_left _ (wk8 z h)
      ·exact List.mem_append_right _ h
     ·rcases List.mem_append.mp hz with h | h
      ·exact kr8 z h
      ·obtain rfl:=List.mem_singleton.mp h
       exact⟨(kr8 sc sk8).1.step (by rw [<- hc.1]; exact me),oke _ me⟩
    ·exact win _ _ _ ⟨kv2,k2,w2,_,rfl,S8,hW8,hL8,wy8,sk8,wk8,kr8,kc8,em8⟩
   ·intro σ H8 hp
    obtain⟨kv2,k2,w2,v6',rfl,S8,hW8,hL8,wy8,sk8,wk8,kr8,kc8,em8⟩:=wout _ _ _ hp
    exact⟨2*cnt es k2+w2.length,by omega,pin _ _ _ ⟨kv2,k2,w2,_,_,rfl,S8,hW8,hL8,wy8,wk8,kr8,kc8,by omega,rfl⟩⟩
theorem i4e (T : Tx K mg A) : a1q P A.wd K mg base CX0 12 A.b3m A.b0v ["self", "source", "bus", "words"] (h4p A) := by
 have d0l:a1q P A.wd K mg base CX0 10 _ _ _ _:=g7n T
 have f8m:a1q P A.wd K mg base CX0 4 _ _ _ _:=i9a T
 have g5v:a1q P A.wd K mg base CX0 1 _ _ _ _:=i9e T
 have a1s:=T.a1s
 have a0m:=T.a0m
 have a0o:=T.a0o
 have a0n:=T.a0n
 have a0p:=T.a0p
 have a4o:=T.a4o
 have a1z:=T.a1z
 have a1p:=T.a1p
 refine T.c2i.ok c4y (fun vs H Q E h=>?_) (fun cdv A' outer s H vs Q E hr h=>?_)
 ·obtain⟨_,_,_,_,rfl,_⟩:=h3l (by unfold h4p at h; exact h)
  rfl
 ·obtain⟨o,x,y,l,rfl,⟨N,p,ds,hP,hl,l8,okd,hx,hy,nr,e99,oky,oke,q⟩⟩:=h3l (by unfold h4p at h; exact h)
  have hu:=hr.units
  have hs:sizeLine=16777216:=sizeLine_eq
  have c6w:a2p 11 _:=hr.mono (by decide)
  have f3h:a2p 4 _:=hr.mono (by decide)
  have g2c:a2p 1 _:=hr.mono (by decide)
  obtain⟨dx,t,b,sd,ou,ho,F⟩:=id hP
  have ht:=F.ht
  have hb:=F.hb
  obtain⟨us,hsd,R1⟩:=F.hs
  have el:=R1.i4u
  unfold ptF at ho
  have ft:=c4n p.ts
  have fb:=c4n p.bs
  have i1:=b9n x p.ts
  have i2:=b9n x p.bs
  have i3:=b9n y p.bs
  refine⟨_,(a0h (a6n (pw_and (a1r c7w (pvF 1) (a0y (pvF 0) rfl) (by rfl)) (pw_and1 (a1r c7w (pvF 1) (a0y (pvF 0) rfl) (by rfl)))).pt
   (a0j a2w)
   a2h)
   (a0h (a6n (a1r c7w (pvF 2) (a0y (pvF 0) rfl) (by rfl))
   (a0j a2w)
   a2h)
   (a0h (a0s (i:=4) c4y.nd rfl (Or.inl rfl) (c4p T.f6p d0l c6w (by rfl) T.g7g T.d6p .nil a1j (a0g (pvF 3) a0i)))
   (a0h (a0s (i:=5) c4y.nd rfl (Or.inl rfl) (a6l (pvF 0) T.a1s T.c9g g5v g2c T.g4o .nil a1j (a0g (pvF 2) (a0g (pvF 1) a0i))))
   (a0h (a6n (a1r (c2z hu) (pvF 5) (a3y a0i) (a2s _))
   (a0j a2w)
   a2h)
   (a0j (a6m (c3i b7j PySem.F.plainAttrs_list PySem.F.slot_list_append PySem.F.type_list_append b0g (a0y (pvF 0) rfl) (a0g (b3w (a0g (pvF 1) (a0g (pvF 2) (a0g (a2n (pvF 4) T.a4o T.c2s f8m f3h T.f6s .nil a1j) a0i)))) a0i))))))))),?_⟩
  walk_at "rd*"
  have key:∀ R:Prop,R->(if ¬ x∈p.ts then c1m (V.str x)=true/\if ¬ x∈p.bs then False else R else R):=fun R hR=>by
   split
   ·rename_i h1
    rw [if_neg (not_not_intro (hx.resolve_left h1))]
    exact⟨rfl,hR⟩
   ·exact hR
  refine⟨rfl,key _ ⟨rfl,?_⟩⟩
  intro c cx H2 n2 n2' nx S2 hdx hc
  refine⟨cx,ds,hc,S2 _ _ hl,l8,okd,fun H3 B3 hC _=>?_⟩
  rw [asNew]
  refine⟨rfl,?_⟩
  have S03:Same H H3:=fun z u e=>B3 _ _ (fun ze=>by rw [ze] at e; rw [e] at n2; cases n2) (S2 _ _ e)
  have ho3:=S03 _ _ ho
  obtain⟨t',b',sd',hT⟩:=(hP.same S03).pt
  clear hc
  walk_at "rd*"
  refine⟨t',b',sd',_,_,_,hT,nr,by rw [prs,List.length_map]; omega,(fun e he=>?_),?_⟩
  ·obtain⟨z,hz,rfl⟩:=List.mem_map.mp he
   exact oke z hz
  rintro _ H4 ⟨rg,rfl,n4,S4,h4⟩
  clear ho3
  walk_at "rd"
  refine⟨by omega,fun l5 H5 n5 S5 h5=>?_⟩
  walk_at "rd"
  refine f5s (ns:=[]) (ms:=[]) (SqL.of (S5 _ _ h4)) (SqL.of h5) (fun z hz=>by cases hz) (fun z hz=>by cases hz) ?_
  rw [show (!decide (([] : List Str) = []))=false from rfl]
  have S35:=S4.trans S5
  have S05:=S03.trans S35
  have ho5:=S05 _ _ ho
  have j5a:=S05 _ _ hsd
  have hC5:=hC.same S35
  obtain⟨cx',pl',sl',os',sts',hc5,hpl5,hsl5,R5⟩:=id hC5
  unfold chF at hc5
  clear h4 h5 hC hpl5 hsl5 R5
  walk_at "rd*"
  refine⟨ds,hC5,l8,fun d hd=>(okd d hd).1,?_⟩
  rintro _ H6 ⟨lw,rfl,n6,S6,h6⟩
  clear ho5 hc5
  walk_at "rd"
  refine⟨by omega,fun p7 H7 n7 S7 h7=>?_⟩
  have S57:=S6.trans S7
  have S07:=S05.trans S57
  have i4d:=S57 _ _ j5a
  clear j5a
  walk_at "rd*"
  refine⟨by omega,?_⟩
  rintro _ H8 ⟨rfl,B8,h8⟩
  try walk_at "rd"
  have F7:Fl H7 (fun a=>N a\/H a=none) t b sd ou p:=(F.same S07).mono fun z hz _=>.inl hz
  have nlw:H lw=none:=S05.free n6
  have ne:∀ {z:Addr} {u:HO},H z=some u->lw≠z:=fun e q=>by rw [<- q,nlw] at e; cases e
  obtain⟨_,hou,_⟩:=F.ho
  have rr:Rp H7 (Nw (fun a=>N a\/H a=none) t b sd ou) (.ref p7) (dSd (x,y,ds.map Dt.word)):=.tup h7 (.cons (.str _) (.cons (.str _) (.cons (.lst ⟨.inr nlw,ne ht,ne hb,ne hsd,ne hou⟩ (by rw [S7 _ _ h6,List.map_map]; rfl) (RpL.strs _)) .nil)))
  exact q H8 ((b8p.of S07).trans (b8p.one i4d F.n.2.2.1 B8)) ⟨dx,t,b,sd,ou,B8 _ _ (fun e=>by rw [<- e,S07 _ _ ho] at i4d; cases i4d) (S07 _ _ ho),F7.addS i4d rr h8 B8⟩
theorem h6a (T : Tx K mg A) : a1q P A.wd K mg base CX0 1 A.a8l A.a6r ["self"] (f7t A) := by
 have a1s:=T.a1s
 have a0m:=T.a0m
 have a0o:=T.a0o
 have a0n:=T.a0n
 have a0p:=T.a0p
 refine T.b7s.ok d9p (fun vs H Q E h=>?_) (fun cdv A' outer s H vs Q E hr h=>?_)
 ·obtain⟨_,rfl,_⟩:=b8l (by unfold f7t at h; exact h)
  rfl
 ·obtain⟨o,rfl,⟨N,p,⟨dx,t,b,sd,ou,ho,F⟩,l1,q⟩⟩:=b8l (by unfold f7t at h; exact h)
  have hu:=hr.units
  have hs:sizeLine=16777216:=sizeLine_eq
  have ht:=F.ht
  unfold ptF at ho
  refine⟨_,(a0j (a1h (a2r a9y (by rfl) T.c9u boot_list (a0g (a0y (pvF 0) rfl) a0i)))),?_⟩
  walk_at "rd*"
  exact fun l H1 n1 S1 h1=>q _ _ ⟨l,rfl,n1,S1,h1⟩
theorem i4f (T : Tx K mg A) : a1q P A.wd K mg base CX0 1 A.b3o A.b0y ["self"] (h4q A) := by
 have a1s:=T.a1s
 have a0m:=T.a0m
 have a0o:=T.a0o
 have a0n:=T.a0n
 have a0p:=T.a0p
 refine T.c2j.ok f6l (fun vs H Q E h=>?_) (fun cdv A' outer s H vs Q E hr h=>?_)
 ·obtain⟨_,rfl,_⟩:=b8l (by unfold h4q at h; exact h)
  rfl
 ·obtain⟨o,rfl,⟨N,p,⟨dx,t,b,sd,ou,ho,F⟩,l1,q⟩⟩:=b8l (by unfold h4q at h; exact h)
  have hu:=hr.units
  have hs:sizeLine=16777216:=sizeLine_eq
  obtain⟨us,hou,R2⟩:=F.ho
  have ul:=R2.i4u
  unfold ptF at ho
  refine⟨_,(a0j (a1h (a2r a9y (by rfl) T.c9u boot_list (a0g (a0y (pvF 0) rfl) a0i)))),?_⟩
  walk_at "rd*"
  exact fun l H1 n1 S1 h1=>q l us H1 n1 S1 h1 (h3j (R2.same S1))
theorem h8z (T : Tx K mg A) : a1q P A.wd K mg base CX0 1 A.b0w A.a8m ["self"] (g5a A) := by
 have a1s:=T.a1s
 have a0m:=T.a0m
 have a0o:=T.a0o
 have a0n:=T.a0n
 have a0p:=T.a0p
 refine T.b8z.ok f2q (fun vs H Q E h=>?_) (fun cdv A' outer s H vs Q E hr h=>?_)
 ·obtain⟨_,rfl,_⟩:=b8l (by unfold g5a at h; exact h)
  rfl
 ·obtain⟨o,rfl,⟨N,p,⟨dx,t,b,sd,ou,ho,F⟩,l1,l2,q⟩⟩:=b8l (by unfold g5a at h; exact h)
  have hu:=hr.units
  have hs:sizeLine=16777216:=sizeLine_eq
  obtain⟨us,hsd,R1⟩:=F.hs
  have ul:=R1.i4u
  unfold ptF at ho
  refine ⟨_, (a0j (a1h (b9z (a2m (a0y (pvF 0) rfl)) (fun _ _ _ _ _ => (b3w (a0g (a1t a5m (pvF 0) a0k (fun _ _ => rfl)) (a0g (a1t a5m (pvF 0) a0k (fun _ _ => rfl)) (a0g (a2r a9y (by rfl) T.c9u boot_list (a0g (a1t a5m (pvF 0) a0k (fun _ _ => rfl)) a0i)) a0i))))) (c7u (sc := a0l c4t) (N := ["self"]) rfl rfl (by decide +kernel)) rfl))), ?_⟩
  walk_at "rd*"
  refine⟨⟨_,SqL.of hsd⟩,fun D H2 n2 S2 h2=>?_⟩
  refine a9z (xs:=us) (fun i ys H'=>Same H H'/\H' D=some (.lst ys)/\RpL H' (fun a=>H a=none/\a≠D) ys ((p.es.take i).map dSd)) ⟨S2,h2,.nil⟩ (by omega) ?_ ?_ ?_
  ·intro i ys H' hi ⟨S',h',R'⟩
   refine⟨h',SqL.of (S' _ _ hsd),?_⟩
   rw [R'.i4u,List.length_take]
   omega
  ·intro i x ys H' hx ⟨S',h',R'⟩
   obtain⟨e,pe,lw,he,rfl,hpe,_,hlw⟩:=R1.at3 hx
   have hp':=S' _ _ hpe
   have hw':=S' _ _ hlw
   have wl:=l2 e (List.mem_of_getElem? he)
   clear hpe hlw h2 hx
   walk_at "rd*"
   refine fun l4 H4 n4 S4 h4=>?_
   walk_at "rd*"
   refine fun p5 H5 n5 S5 h5=>?_
   have S45:=S4.trans S5
   refine⟨S45 _ _ h',fun H6 B6 h6=>⟨(S'.trans S45).step n2 B6,h6,?_⟩⟩
   rw [List.take_add_one,he,List.map_append]
   refine RpL.put (.snoc (R'.same S45) (.tup h5 (.cons (.str _) (.cons (.str _) (.cons (.lst ⟨S'.free n4,fun z=>?_⟩ (S5 _ _ h4) (RpL.strs _)) .nil))))) (S45 _ _ h') (fun z=>z.2 rfl) B6
   rw [z,h'] at n4
   cases n4
  ·intro ys H3 ⟨S3,h3,R3⟩
   rw [ul,List.take_length] at R3
   exact q D ys H3 n2 S3 h3 R3
theorem i4g (T : Tx K mg A) : a1q P A.wd K mg base CX0 1 A.a6s A.a5t ["self", "bus", "placed"] (h4r A) := by
 have a1s:=T.a1s
 have a0m:=T.a0m
 have a0o:=T.a0o
 have a0n:=T.a0n
 have a0p:=T.a0p
 refine T.b4i.ok c7j (fun vs H Q E h=>?_) (fun cdv A' outer s H vs Q E hr h=>?_)
 ·obtain⟨_,_,_,rfl,_⟩:=g7e (by unfold h4r at h; exact h)
  rfl
 ·obtain⟨o,x,l,rfl,⟨t,b,sd,ts,bs,es,pl,⟨dx,ou,ps,ho,ht,hb,hsd,hE,d1,d2,d3⟩,hl,q⟩⟩:=g7e (by unfold h4r at h; exact h)
  have hu:=hr.units
  unfold ptF at ho
  have fl:=c4n pl
  have fb:=c4n bs
  have iv:=b9n x pl
  have el:=hE.1
  refine⟨_,(a0h (a6n (a1r g0i (pvF 1) (pvF 2) (by rfl))
   (a0j (a1h f2l))
   a2h)
   (a0h (a3n PassesOwn.never rfl (a2m (a0y (pvF 0) rfl)) (a2o (i:=3) c7j.nd rfl (Or.inl rfl))
   (a0j (a6n (pw_and (a1r (c2y hu) (a1t a5m (pvF 3) a0k (fun _ _=>rfl)) (pvF 1) (a2s _)) (pw_and (a1r g0i (a1t a5m (pvF 3) a0k (fun _ _=>rfl)) (a0y (pvF 0) rfl) (by rfl)) (pw_and1 (a1r c7w (a1t a5m (pvF 3) a0k (fun _ _=>rfl)) (pvF 2) (by rfl))))).pt
   (a0j (a1h f2l))
   a2h)))
   (a0j (a1h f2l)))),?_⟩
  walk_at "rd*"
  refine⟨rfl,?_⟩
  split
  ·rename_i hx
   unfold c1i at q
   rw [show decide (x∉pl)=false by simp [hx],Bool.false_and] at q
   exact q
  rename_i hx
  refine⟨⟨_,SqL.of hsd⟩,?_⟩
  obtain⟨Pv,pin,pout⟩:=b7u (fun i σ H'=>∃ v:Option V,σ = [some (.ref o),some (.str x),some (.ref l),v]/\H'=H/\(es.take i).all (fun e=>!(decide (e.2=x) && (decide (e.1∈bs) && !decide (e.1∈pl))))=true)
  refine a4l (xs:=ps.map V.ref) Pv (pin _ _ _ ⟨_,rfl,rfl,rfl⟩) ?_ ?_ ?_
  ·intro i σ H1 hi hp
   obtain⟨v,rfl,rfl,_⟩:=pout _ _ _ hp
   exact SqL.of hsd
  ·intro i v σ H1 hv hp
   rw [List.getElem?_map] at hv
   obtain⟨p,hpi,rfl⟩:=Option.map_eq_some_iff.mp hv
   obtain⟨v,rfl,rfl,ha⟩:=pout _ _ _ hp
   have hi:=(List.getElem?_eq_some_iff.mp hpi).1
   have hei : es[i]? = some (es[i]'(by omega)) := List.getElem?_eq_getElem _
   obtain⟨lw,hp⟩:=hE.2 i p _ hpi hei
   have et : es.take (i + 1) = es.take i ++ [es[i]'(by omega)] := by rw [List.take_add_one, hei]; rfl
   have me:=List.mem_of_getElem? hei
   generalize es[i]'(by omega) = e at hei hp et me
   have i1:=b9n e.1 bs
   have i2:=b9n e.1 pl
   clear hv
   walk_at "rd*"
   have go:(decide (e.2=x) && (decide (e.1∈bs) && !decide (e.1∈pl)))=false->Pv (i+1) [some (V.ref o),some (V.str x),some (V.ref l),some (V.ref p)] H1:=fun hf=>pin _ _ _ ⟨_,rfl,rfl,by rw [et,List.all_append,ha,Bool.true_and,List.all_cons,hf]; rfl⟩
   split
   ·rename_i h1
    refine⟨rfl,?_⟩
    split
    ·rename_i h2
     refine⟨rfl,?_⟩
     split
     ·rename_i h3
      have z:c1i bs es pl x=false:=by
       unfold c1i
       rw [Bool.and_eq_false_iff]
       right
       rw [List.all_eq_false]
       exact⟨e,me,by simp [h1,h2,h3]⟩
      rw [z] at q
      exact q
     ·rename_i h3
      exact go (by simp at h3; simp [h3])
    ·rename_i h2
     exact go (by simp [h2])
   ·rename_i h1
    exact go (by simp [h1])
  ·intro σ H1 hp
   obtain⟨v,rfl,rfl,ha⟩:=pout _ _ _ hp
   rw [List.length_map,el,List.take_length] at ha
   walk_at "rd"
   unfold c1i at q
   rw [ha,show decide (x∉pl)=true by simp [hx]] at q
   exact q
theorem c6y{bs:List Str}{es:List (Str×Str)}:∀ k,(∀ j,j < k->bs.filter (c1i bs es (c7q bs es j))≠[])->(c7q bs es k).length=k
 | 0,_=>rfl
 | k+1,h=>by
  rw [c7q,List.length_append,c6y k fun j hj=>h j (by omega)]
  have:=h k (by omega)
  cases e:bs.filter (c1i bs es (c7q bs es k)) with
  | nil=>exact absurd e this
  | cons a r=>rfl
theorem i9g (T : Tx K mg A) : a1q P A.wd K mg base CX0 2 A.b0z A.a8n ["self"] (i3k A) := by
 have f1v:a1q P A.wd K mg base CX0 1 _ _ _ _:=i4g T
 have a1s:=T.a1s
 have a0m:=T.a0m
 have a0o:=T.a0o
 have a0n:=T.a0n
 have a0p:=T.a0p
 refine T.b9g.ok d1g (fun vs H Q E h=>?_) (fun cdv A' outer s H vs Q E hr h=>?_)
 ·obtain⟨_,rfl,_⟩:=b8l (by unfold i3k at h; exact h)
  rfl
 ·obtain⟨o,rfl,⟨t,b,sd,ts,bs,es,hP,b100,ne,q⟩⟩:=b8l (by unfold i3k at h; exact h)
  have hu:=hr.units
  have hs:sizeLine=16777216:=sizeLine_eq
  have d7i:a2p 1 _:=hr.mono (by decide)
  obtain⟨dx,ou,ps,ho,ht,hb,hsd,hE,d1,d2,d3⟩:=id hP
  unfold ptF at ho
  refine⟨_,(a0h (a0s (i:=1) d1g.nd rfl (Or.inr rfl) (a3y a0i))
   (a0h (d2l PassesOwn.never (a1r of_lt (a1g a2k (by rfl) T.b6z boot_len (a0g (pvF 1) a0i)) (a1g a2k (by rfl) T.b6z boot_len (a0g (a0y (pvF 0) rfl) a0i)) (a2s _))
   (a0j (a6m (c3i b7j PySem.F.plainAttrs_list PySem.F.slot_list_append PySem.F.type_list_append b0g (pvF 1) (a0g (a1t a5m (g6z (a2m (a0y (pvF 0) rfl)) (fun _ _ _ _ _ => (b1u (a6l (pvF 1) T.a1s T.b8o f1v d7i T.f0u .nil a1j (a0g (pvF 0) (a0g (pvF 2) a0i))))) (fun _ _ _ _ _ => (pvF 0)) (c7u (sc := a0l c4u) (N := ["self", "placed"]) rfl rfl (by decide +kernel)) rfl) a0k (fun _ _ => rfl)) a0i)))))
   (a0j (a1h (pvF 1))))),?_⟩
  walk_at "rd"
  refine⟨by omega,fun l H1 n1 S1 h1=>?_⟩
  obtain⟨Pv,pin,pout⟩:=b7u (fun m σ H'=>∃ k:Nat,σ = [some (.ref o),some (.ref l)]/\Same H H'/\H' l=some (.lst ((c7q bs es k).map V.str))/\k<=bs.length/\m=bs.length - k)
  refine d2m Pv _ (pin _ _ _ ⟨0,rfl,S1,h1,Nat.zero_le _,rfl⟩) ?_
  intro m σ H2 hp
  obtain⟨k,rfl,S2,h2,kl,em⟩:=pout _ _ _ hp
  have ol:=c6y k fun j hj=>ne j (by omega)
  have ho2:=S2 _ _ ho
  have hb2:=S2 _ _ hb
  have hP2:=hP.same S2
  clear hp h1
  walk_at "rd*"
  split
  ·rename_i hk
   refine⟨⟨_,SqL.of hb2⟩,fun D H3 n3 S3 h3=>?_⟩
   refine d2t (xs:=bs.map V.str) (fun v=>match v with | .str x=>c1i bs es (c7q bs es k) x | _=>false) (fun v=>v) n3 S3 h3 (SqL.of hb2) (by rw [List.length_map]; omega) ?_ ?_ ?_
   ·intro i x H' Q' hx SS q'
    rw [List.getElem?_map] at hx
    obtain⟨z,hz,rfl⟩:=Option.map_eq_some_iff.mp hx
    have ho':=SS _ _ ho2
    clear hx
    walk_at "rd*"
    exact⟨t,b,sd,ts,bs,es,hP2.same SS,_,SS _ _ h2,q'⟩
   ·intro i x H' Q' hx hpx SS q'
    walk_at "rd"
    exact q'
   ·intro H4 S4 h4
    have nek:=ne k (by omega)
    have ef:((bs.map V.str).filter (fun v=>match v with | .str x=>c1i bs es (c7q bs es k) x | _=>false)).map (fun v=>v)=(bs.filter (c1i bs es (c7q bs es k))).map V.str:=by
     rw [List.map_id',List.filter_map]
     rfl
    rw [ef] at h4
    obtain⟨a,r,ea⟩:∃ a r,bs.filter (c1i bs es (c7q bs es k))=a :: r:=by
     cases e:bs.filter (c1i bs es (c7q bs es k)) with
     | nil=>exact absurd e nek
     | cons a r=>exact⟨a,r,rfl⟩
    rw [ea] at h4
    have h24:=S4 _ _ h2
    have nl:l≠D:=fun e=>by rw [<- e,h2] at n3; cases n3
    clear h2 h3
    walk_at "rd*"
    refine⟨by omega,?_⟩
    rintro _ H5 ⟨rfl,B5,h5⟩
    refine⟨bs.length - (k+1),by omega,pin _ _ _ ⟨k+1,rfl,(S2.trans S4).step n1 B5,?_,by omega,rfl⟩⟩
    rw [h5,c7q,ea,List.map_append]
    rfl
  ·rename_i hk
   obtain rfl:k=bs.length:=by omega
   exact q _ _ ⟨l,rfl,n1,S2,h2⟩
theorem i3l.nil:i3l []:=⟨fun _=>0,fun e he=>by cases he⟩
theorem g7p:∀ {l m:List Str},l.Nodup->(∀ x∈l,x∈m)->l.length<=m.length
 | [],_,_,_=>Nat.zero_le _
 | a :: l,m,nd,h=>by
  have ha:=h a List.mem_cons_self
  have nd':=List.nodup_cons.mp nd
  have ih:=g7p (l:=l) (m:=m.erase a) nd'.2 fun x hx=>(List.mem_erase_of_ne (fun e=>nd'.1 (by rw [<- e]; exact hx))).mpr (h x (List.mem_cons_of_mem _ hx))
  rw [List.length_erase_of_mem ha] at ih
  have:=List.length_pos_of_mem ha
  rw [List.length_cons]
  omega
theorem least(r:Str->Nat):∀ (l:List Str),l≠[]->∃ z∈l,∀ w∈l,r z<=r w
 | [],h=>absurd rfl h
 | [a],_=>⟨a,List.mem_cons_self,fun w hw=>by obtain rfl:=List.mem_singleton.mp hw; exact Nat.le_refl _⟩
 | a :: b :: l,_=>by
  obtain⟨z,hz,hm⟩:=least r (b :: l) (by simp)
  by_cases h:r a<=r z
  ·refine⟨a,List.mem_cons_self,fun w hw=>?_⟩
   rcases List.mem_cons.mp hw with e | hw
   ·rw [e]; exact Nat.le_refl _
   ·have:=hm w hw
    omega
  ·refine⟨z,List.mem_cons_of_mem _ hz,fun w hw=>?_⟩
   rcases List.mem_cons.mp hw with e | hw
   ·rw [e]; omega
   ·exact hm w hw
theorem h6b(bs:List Str)(es:List (Str×Str)):∀ k,(c7q bs es k).length<=k
 | 0=>Nat.le_refl _
 | k+1=>by
  rw [c7q,List.length_append]
  have:=h6b bs es k
  cases bs.filter (c1i bs es (c7q bs es k)) with
  | nil=>show _+0<=_; omega
  | cons a r=>show _+1<=_; omega
theorem ready{bs:List Str}{es:List (Str×Str)}(h:i3l es)(nd:bs.Nodup)(k:Nat)(hk:k < bs.length):bs.filter (c1i bs es (c7q bs es k))≠[]:=by
 obtain⟨r,hr⟩:=h
 have hol:=h6b bs es k
 generalize c7q bs es k=pl at hol
 have hne:bs.filter (fun z=>decide (z∉pl))≠[]:=fun e=>by
  have:=g7p (m:=pl) nd fun x hx=>by
   by_cases hp:x∈pl
   ·exact hp
   ·have:x∈bs.filter (fun z=>decide (z∉pl)):=List.mem_filter.mpr ⟨hx,by simpa using hp⟩
    rw [e] at this
    cases this
  omega
 obtain⟨z,hz,hm⟩:=least r _ hne
 obtain⟨hzb,hzp⟩:=List.mem_filter.mp hz
 have hzp':z∉pl:=by simpa using hzp
 refine List.ne_nil_of_mem (a:=z) (List.mem_filter.mpr ⟨hzb,?_⟩)
 unfold c1i
 rw [Bool.and_eq_true]
 refine⟨by simpa using hzp',?_⟩
 rw [List.all_eq_true]
 intro e he
 cases hc:(decide (e.2=z) && (decide (e.1∈bs) && !decide (e.1∈pl))) with
 | false=>rfl
 | true =>
  simp at hc
  obtain⟨h1,h2,h3⟩:=hc
  have a:=hr e he
  have b:=hm e.1 (List.mem_filter.mpr ⟨h2,by simpa using h3⟩)
  rw [h1] at a
  omega
theorem LdX.same{A:Ad}{H H':Hp}{us:List V}{cs:List Addr}{ls:List Ld}{Z:Addr}(h:LdX A H us cs ls Z)(S:Same H H'):LdX A H' us cs ls Z:=⟨h.1,h.2.1,fun i u c l e1 e2 e3=>(h.2.2 i u c l e1 e2 e3).elim fun q z=>⟨q,z.1,S _ _ z.2.1,z.2.2.same S⟩⟩
theorem LdX.b4y{A:Ad}{H H':Hp}{us ys:List V}{cs:List Addr}{ls:List Ld}{Z:Addr}(h:LdX A H us cs ls Z)(hZ:H Z=some (.lst ys))(B:a2j Z H H'):LdX A H' us cs ls Z:=⟨h.1,h.2.1,fun i u c l e1 e2 e3=>(h.2.2 i u c l e1 e2 e3).elim fun q z=>⟨q,z.1,B _ _ (fun k=>by have y:=z.2.1; rw [k,hZ] at y; cases y) z.2.1,z.2.2.b4y (Lk.lst hZ) B⟩⟩
theorem LdX.snoc{A:Ad}{H:Hp}{us:List V}{cs:List Addr}{ls:List Ld}{Z q c:Addr}{l:Ld}(h:LdX A H us cs ls Z)(hq:H q=some (.tup [.str l.1,.ref c]))(hx:ChX A H c l.2 [] Z):LdX A H (us++[.ref q]) (cs++[c]) (ls++[l]) Z:=by
 obtain⟨h1,h2,h3⟩:=h
 refine⟨by rw [List.length_append,List.length_append,h1]; rfl,by rw [List.length_append,List.length_append,h2]; rfl,fun i u c' l' e1 e2 e3=>?_⟩
 rcases Nat.lt_or_ge i ls.length with z | z
 ·rw [List.getElem?_append_left (by omega)] at e1 e2
  rw [List.getElem?_append_left z] at e3
  exact h3 i u c' l' e1 e2 e3
 ·have hi:=(List.getElem?_eq_some_iff.mp e3).1
  rw [List.length_append,List.length_singleton] at hi
  obtain rfl:i=ls.length:=by omega
  rw [List.getElem?_concat_length] at e3
  rw [<- h1,List.getElem?_concat_length] at e1
  rw [<- h2,List.getElem?_concat_length] at e2
  cases e1
  cases e2
  cases e3
  exact⟨q,rfl,hq,hx⟩
theorem LdX.s{A:Ad}{H:Hp}{us:List V}{cs:List Addr}{ls:List Ld}{Z:Addr}(h:LdX A H us cs ls Z):Lds A H us cs ls:=⟨h.1,h.2.1,fun i u c l e1 e2 e3=>(h.2.2 i u c l e1 e2 e3).elim fun q z=>⟨q,z.1,z.2.1,by
 obtain⟨dx,pl,sl,os,sts,h1,h2,h3,h4,h5,_⟩:=z.2.2
 exact⟨dx,pl,sl,os,sts,h1,h2,h3,h4,h5⟩⟩⟩
theorem Lk.dk{H:Hp}{D:Addr}{kvs:List (Key×V)}(h:H D=some (.dK kvs)):Lk H D:=⟨fun ts e=>(by rw [h] at e; cases e),fun c dx fs e=>(by rw [h] at e; cases e)⟩
theorem ChS.dict{A:Ad}{H H':Hp}{o Z:Addr}{ds:List Dt}{xs:List Int}{kvs:List (Key×V)}(h:ChS A H o ds xs)(hZ:H Z=some (.dK kvs))(B:a2j Z H H'):ChS A H' o ds xs:=by
 obtain⟨dx,pl,sl,os,sts,h1,h2,h3,h4,h5⟩:=h
 exact⟨dx,pl,sl,os,sts,B _ _ (fun e=>by rw [e,hZ] at h1; cases h1) h1,B _ _ (fun e=>by rw [e,hZ] at h2; cases h2) h2,B _ _ (fun e=>by rw [e,hZ] at h3; cases h3) h3,h4.b4y (Lk.dk hZ) B,h5.b4y (Lk.dk hZ) B⟩
theorem Lds.dict{A:Ad}{H H':Hp}{us:List V}{cs:List Addr}{ls:List Ld}{Z:Addr}{kvs:List (Key×V)}(h:Lds A H us cs ls)(hZ:H Z=some (.dK kvs))(B:a2j Z H H'):Lds A H' us cs ls:=⟨h.1,h.2.1,fun i u c l e1 e2 e3=>(h.2.2 i u c l e1 e2 e3).elim fun q z=>⟨q,z.1,B _ _ (fun k=>by have y:=z.2.1; rw [k,hZ] at y; cases y) z.2.1,z.2.2.dict hZ B⟩⟩
theorem Lds.same{A:Ad}{H H':Hp}{us:List V}{cs:List Addr}{ls:List Ld}(h:Lds A H us cs ls)(S:Same H H'):Lds A H' us cs ls:=⟨h.1,h.2.1,fun i u c l e1 e2 e3=>(h.2.2 i u c l e1 e2 e3).elim fun q z=>⟨q,z.1,S _ _ z.2.1,z.2.2.same S⟩⟩
theorem h6c{d:Dt}(ok:d.ok)(fw:Few d)(k4:d.kd < 4):1<=a7r d/\intBits (a7r d)<=41:=by
 have den:∀ {y:Rat},YOk y->1<=(y.den:Int)/\intBits (y.den:Int)<=10:=fun {y} h=>⟨by have:=y.den_pos; omega,h.b.2⟩
 cases d with
 | gain y=>exact⟨(den ok).1,Nat.le_trans (den ok).2 (by decide)⟩
 | delay n=>exact⟨by show (1:Int)<=1; decide,by show intBits 1<=41; decide⟩
 | echo y n t =>
  have o:=den ok.1
  have ht:t<=4:=fw
  refine⟨Int.pow_pos o.1,?_⟩
  show intBits ((y.den:Int) ^ t)<=41
  have:=ok.1.2
  have p1:y.den ^ t<=1000 ^ t:=Nat.pow_le_pow_left this t
  have p2:1000 ^ t<=1000 ^ 4:=Nat.pow_le_pow_right (by decide) ht
  rw [intBits_le_iff,Int.natAbs_pow]
  exact Nat.lt_of_le_of_lt (Nat.le_trans p1 p2) (by decide)
 | back y n=>exact⟨(den ok.1).1,Nat.le_trans (den ok.1).2 (by decide)⟩
 | hall y n=>simp [Dt.kd] at k4
 | swell cs=>simp [Dt.kd] at k4
theorem d4z{e:Sq}(h:h4t e):1<=a6k 1 e.2.2/\intBits (a6k 1 e.2.2)<=90:=by
 obtain⟨s,g,ds⟩:=e
 obtain⟨l2,ok⟩:=h
 replace l2:ds.length<=2:=l2
 replace ok:∀ d∈ds,d.ok/\d.kd < 4/\Few d:=ok
 have gf:∀ d∈ds,1<=a7r d/\intBits (a7r d)<=41:=fun d hd=>h6c (ok d hd).1 (ok d hd).2.2 (ok d hd).2.1
 show 1<=a6k 1 ds/\intBits (a6k 1 ds)<=90
 match ds,l2,gf with
 | [],_,_=>exact⟨by decide,by decide⟩
 | [d],_,gf =>
  have g1:=gf d List.mem_cons_self
  show 1<=1*a7r d/\intBits (1*a7r d)<=90
  rw [Int.one_mul]
  exact⟨g1.1,by omega⟩
 | [d,d'],_,gf =>
  have g1:=gf d List.mem_cons_self
  have g2:=gf d' (List.mem_cons_of_mem _ List.mem_cons_self)
  show 1<=1*a7r d*a7r d'/\intBits (1*a7r d*a7r d')<=90
  rw [Int.one_mul]
  exact⟨Int.mul_pos (by omega) (by omega),Nat.le_trans (intBits_mul_le g1.2 g2.2) (by decide)⟩
 | _ :: _ :: _ :: _,l2,_=>simp at l2
theorem g2d(bs:List Int)(b:Int):h4s (bs++[b])=(Int.lcm (h4s bs) b:Int):=by
 unfold h4s
 rw [List.foldl_append]
 rfl
theorem h9a{a b:Int}{m n:Nat}(ha:intBits a<=m)(hb:intBits b<=n):intBits (Int.lcm a b:Int)<=m+n:=by
 have h:Int.lcm a b<=a.natAbs*b.natAbs:=by
  show Nat.lcm _ _<=_
  unfold Nat.lcm
  exact Nat.div_le_self _ _
 have k:=intBits_mul_le ha hb
 rw [intBits_le_iff] at k ⊢
 rw [Int.natAbs_mul] at k
 exact Nat.lt_of_le_of_lt h k
theorem g5w:∀ (k:Nat) (bs:List Int) {B:Nat},bs.length=k->(∀ b∈bs,1<=b/\intBits b<=B)->1<=h4s bs/\intBits (h4s bs)<=1+bs.length*B/\∀ b∈bs,b∣h4s bs
 | 0,bs,B,hl,h=>by
  obtain rfl:=List.length_eq_zero_iff.mp hl
  exact⟨by decide,by show intBits 1<=1+0*B; rw [Nat.zero_mul]; decide,fun b hb=>by cases hb⟩
 | k+1,bs,B,hl,h=>by
  obtain⟨cs,c,rfl⟩:∃ cs c,bs=cs++[c]:=by
   rcases List.eq_nil_or_concat bs with e | ⟨cs,c,e⟩
   ·rw [e] at hl; cases hl
   ·exact⟨cs,c,by rw [e,List.concat_eq_append]⟩
  rw [List.length_append,List.length_singleton] at hl
  obtain⟨i1,i2,i3⟩:=g5w k cs (B:=B) (by omega) fun b hb=>h b (List.mem_append_left _ hb)
  have hc:=h c (List.mem_append_right _ List.mem_cons_self)
  rw [g2d]
  refine⟨?_,?_,fun b hb=>?_⟩
  ·have:=Nat.pos_of_ne_zero (n:=Int.lcm (h4s cs) c) fun z=>by
    rcases Int.lcm_eq_zero_iff.mp z with z | z <;> omega
   omega
  ·have:=h9a i2 hc.2
   rw [List.length_append,List.length_singleton,Nat.succ_mul]
   omega
  ·rcases List.mem_append.mp hb with m | m
   ·exact Int.dvd_trans (i3 b m) (Int.dvd_lcm_left _ _)
   ·rw [List.mem_singleton.mp m]
    exact Int.dvd_lcm_right _ _
theorem h6d (T : Tx K mg A) : a1q P A.wd K mg base CX0 3 A.a5h A.a5p ["bottoms"] f7u := by
 have h0d:a1q P A.wd K mg base CX0 2 _ _ _ _:=g5f T
 refine T.a9t.ok b1p (fun vs H Q E h=>?_) (fun cdv A' outer s H vs Q E hr h=>?_)
 ·obtain⟨_,rfl,_⟩:=b8l (by unfold f7u at h; exact h)
  rfl
 ·obtain⟨p,rfl,⟨bs,B,hp,O,L,q⟩⟩:=b8l (by unfold f7u at h; exact h)
  have hu:=hr.units
  have g5x:a2p 2 _:=hr.mono (by decide)
  refine⟨_,(a0h (a0s (i:=1) b1p.nd rfl (Or.inl rfl) a0k)
   (a0h (a3n PassesOwn.never rfl (a2m (pvF 0)) (a2o (i:=2) b1p.nd rfl (Or.inl rfl))
   (a0j (a0s (i:=1) b1p.nd rfl (Or.inl rfl) (a0v h0d g5x (by rfl) T.g8y T.c3u.kp T.g8x .nil a1j (a0g (pvF 1) (a0g (pvF 2) a0i))))))
   (a0j (a1h (pvF 1))))),?_⟩
  walk_at "rd"
  refine⟨⟨_,SqL.of hp⟩,?_⟩
  obtain⟨Pv,pin,pout⟩:=b7u (fun i σ H'=>∃ (v2:Option V),σ = [some (.ref p),some (.int (h4s (bs.take i))),v2]/\H'=H)
  refine a4l (xs:=bs.map V.int) Pv (pin _ _ _ ⟨_,rfl,rfl⟩) ?_ ?_ ?_
  ·intro i σ H2 hi hp'
   obtain⟨v2,rfl,rfl⟩:=pout _ _ _ hp'
   exact SqL.of hp
  ·intro i v σ H2 hv hp'
   obtain⟨v2,rfl,rfl⟩:=pout _ _ _ hp'
   rw [List.getElem?_map] at hv
   obtain⟨b,hb,rfl⟩:=Option.map_eq_some_iff.mp hv
   have hi:=(List.getElem?_eq_some_iff.mp hb).1
   have Ob:=O b (List.mem_of_getElem? hb)
   have lk:=(g5w _ (bs.take i) rfl fun b hb=>O b (List.mem_of_mem_take hb)).2.1
   have et:bs.take (i+1)=bs.take i++[b]:=by rw [List.take_add_one,hb]; rfl
   have l1:(bs.take i).length*B<=bs.length*B:=Nat.mul_le_mul_right _ (by rw [List.length_take]; omega)
   have l2:1*B<=bs.length*B:=Nat.mul_le_mul_right _ (by omega)
   walk_at "rd"
   refine⟨by omega,by omega,pin _ _ _ ⟨some (.int b),?_,rfl⟩⟩
   rw [et,g2d]
  ·intro σ H2 hp'
   obtain⟨v2,rfl,rfl⟩:=pout _ _ _ hp'
   rw [List.length_map,List.take_of_length_le (Nat.le_refl _)]
   walk_at "rd"
   exact q
theorem h9b (T : Tx K mg A) : a1q P A.wd K mg base CX0 2 A.b1y A.b2z ["one", "bottom"] g5b := by
 have a9u:a1q P A.wd K mg base CX0 1 _ _ _ _:=d7q T
 refine T.c0u.ok g0z (fun vs H Q E h=>?_) (fun cdv A' outer s H vs Q E hr h=>?_)
 ·obtain⟨_,_,rfl,_⟩:=d6v (by unfold g5b at h; exact h)
  rfl
 ·obtain⟨p,B,rfl,⟨l,ys,b,hp,hl,b0,bb,bB,hy,ly,q⟩⟩:=d6v (by unfold g5b at h; exact h)
  have hu:=hr.units
  have a6y:a2p 1 _:=hr.mono (by decide)
  refine⟨_,(a0j (a1h (a0v a9u a6y (by rfl) T.c1h T.a7p.kp T.c1g .nil a1j (a0g (a1t a5m (pvF 0) a0k (fun _ _=>rfl)) (a0g (a0w a8t (pvF 1) (a1t a5m (pvF 0) a0k (fun _ _=>rfl))) a0i))))),?_⟩
  walk_at "rd*"
  refine⟨⟨b0,Nat.le_trans bb (by decide)⟩,ys,rfl,fun n hn=>IntMulOk.of_le (hy n hn) (intBits_fdiv_le bB) (by decide),by omega,q⟩
theorem i4h (T : Tx K mg A) : a1q P A.wd K mg base CX0 12 A.a5r A.a4s ["self", "bus", "sends"] (h4u A) := by
 have d0l:a1q P A.wd K mg base CX0 10 _ _ _ _:=g7n T
 have f8n:a1q P A.wd K mg base CX0 2 _ _ _ _:=i8z T
 have f1w:a1q P A.wd K mg base CX0 3 _ _ _ _:=h6d T
 have a3m:=T.a3m
 have a0u:=T.a0u
 have a0z:=T.a0z
 have a2g:=T.a2g
 have a1m:=T.a1m
 have a1l:=T.a1l
 have a4o:=T.a4o
 have a1z:=T.a1z
 have a1p:=T.a1p
 refine T.b1q.ok c3p (fun vs H Q E h=>?_) (fun cdv A' outer s H vs Q E hr h=>?_)
 ·obtain⟨_,_,_,rfl,_⟩:=g7e (by unfold h4u at h; exact h)
  rfl
 ·obtain⟨o,b,l,rfl,⟨dx,t,bo,L,B,S,kl,kb,f,us,es,Bd,ho,hL,hB,nLB,hl,R,ok,e20,kl1,kb1,hf,bd,q⟩⟩:=g7e (by unfold h4u at h; exact h)
  have hu:=hr.units
  have hs:sizeLine=16777216:=sizeLine_eq
  have c6w:a2p 11 _:=hr.mono (by decide)
  have f3i:a2p 2 _:=hr.mono (by decide)
  have d7j:a2p 3 _:=hr.mono (by decide)
  unfold enF at ho
  refine ⟨_, (a0h (f5p (i := 3) c3p.nd rfl rfl (a2m (pvF 2)) (fun _ _ _ _ _ => (b3w (a0g (a1t a5m (pvF 0) a0k (fun _ _ => rfl)) (a0g (c4p T.f6p d0l c6w (by rfl) T.g7g T.d6p .nil a1j (a0g (a1t a5m (pvF 0) a0k (fun _ _ => rfl)) a0i)) a0i)))) (c7u (sc := a0l b1o) (N := ["self", "bus", "sends", "leads"]) rfl rfl (by decide +kernel)) rfl)
   (a0h (c4q (hu1 hu) (a0y (pvF 0) rfl) (pvF 1) (pvF 3) rfl)
   (a0j (c4q (hu1 hu) (a0y (pvF 0) rfl) (pvF 1) (a0v f1w d7j (by rfl) T.f0q T.a9t.kp T.f0p .nil a1j (a0g (h7u (a2m (pvF 3)) (fun _ _ _ _ _ => (a0w a3w (a7g (hu1 hu) (h7v (K := K) (by rfl) (pvF 2) (by rfl)) (pvF 0) (fun _ _ => rfl)) (a2n (pvF 1) T.a4o T.c2r f8n f3i T.f6r .nil a1j))) (i7u (sc := a0l b1o) (N := ["self", "bus", "sends", "leads"]) rfl rfl (by decide +kernel)) rfl) a0i)) rfl)))), ?_⟩
  walk_at "rd*"
  refine⟨⟨_,SqL.of hl⟩,fun D H2 n2 S2 h2=>?_⟩
  have ul:us.length=es.length:=by rw [R.i4u,List.length_map]
  refine a9z (xs:=us) (fun i ys H'=>Same H H'/\H' D=some (.lst ys)/\∃ cs,LdX A H' ys cs ((es.take i).map fun e=>(e.1,e.2.2)) D/\cs.Nodup/\∀ c∈cs,H c=none/\H' c≠none/\c≠D) ⟨S2,h2,[],⟨rfl,rfl,fun i u c l e=>by simp at e⟩,List.nodup_nil,fun c hc=>by cases hc⟩ (by omega) ?_ ?_ ?_
  ·intro i ys H' hi ⟨S',h',cs,L',_⟩
   exact⟨h',SqL.of (S' _ _ hl),by rw [L'.1,List.length_map,List.length_take]; omega⟩
  ·intro i x ys H' hx ⟨S',h',cs,L',nd,fr⟩
   obtain⟨e',pe,lw,he,rfl,hpe,_,hlw⟩:=R.at3 hx
   rw [List.getElem?_map] at he
   obtain⟨e,he',rfl⟩:=Option.map_eq_some_iff.mp he
   have oke:=ok e (List.mem_of_getElem? he')
   have hp':=S' _ _ hpe
   have hw':=S' _ _ hlw
   clear hpe hlw hx h2
   walk_at "rd*"
   intro c cx H4 n4 n4' nx S4 hdx hc
   refine⟨cx,e.2.2,hc,by rw [S4 _ _ hw']; show some (HO.lst ((e.2.2.map Dt.word).map V.str))=_; rw [List.map_map]; rfl,by have:=oke.1; omega,fun d hd=>⟨(oke.2 d hd).1,(oke.2 d hd).2.1⟩,fun H5 B5 hC hX=>?_⟩
   rw [asNew]
   refine⟨rfl,?_⟩
   have S5:Same H' H5:=fun z u ez=>B5 _ _ (fun ze=>by rw [ze,n4] at ez; cases ez) (S4 _ _ ez)
   try walk_at "rd"
   intro pq H6 n6 S6 h6
   have S6':=S5.trans S6
   have nD:D≠c:=fun k=>by rw [<- k,h'] at n4; cases n4
   have x6:=(hX D (live (S4 _ _ h')) nD).same S6
   refine⟨S6' _ _ h',fun H7 B7 h7=>⟨(S'.trans S6').step n2 B7,h7,cs++[c],?_,?_,?_⟩⟩
   ·rw [List.take_add_one,he',List.map_append]
    exact ((L'.same S6').snoc (l:=(e.1,e.2.2)) h6 x6).b4y (S6' _ _ h') B7
   ·refine List.nodup_append.mpr ⟨nd,List.nodup_cons.mpr ⟨(fun h=>by cases h),List.nodup_nil⟩,fun u hu v hv k=>?_⟩
    rw [k,List.mem_singleton.mp hv] at hu
    exact (fr c hu).2.1 n4
   ·intro u hu
    rcases List.mem_append.mp hu with m | m
    ·obtain⟨f1,f2,f3⟩:=fr u m
     refine⟨f1,?_,f3⟩
     cases k:H' u with
     | none=>exact absurd k f2
     | some v=>exact live (B7 _ _ f3 (S6' _ _ k))
    ·rw [List.mem_singleton.mp m]
     refine⟨S'.free n4,?_,nD.symm⟩
     obtain⟨_,_,_,_,_,hc6,_⟩:=x6
     exact live (B7 _ _ nD.symm hc6)
  ·intro ys H3 ⟨S3,h3,cs,L3,nd,fr⟩
   rw [ul,List.take_length] at L3
   have ho3:=S3 _ _ ho
   have hL3:=S3 _ _ hL
   clear h2
   walk_at "rd*"
   refine⟨by omega,fun H4 B4 h4=>?_⟩
   have ne:∀ {H':Hp} {z y:Addr} {u v:HO},H' z=some u->H' y=some v->u≠v->z≠y:=fun e1 e2 n k=>n (by rw [k,e2] at e1; exact (Option.some.inj e1).symm)
   have L4:Lds A H4 ys cs (es.map fun e=>(e.1,e.2.2)):=L3.s.dict hL3 B4
   have hD4:H4 D=some (.lst ys):=B4 _ _ (ne h3 hL3 (by simp)) h3
   have hB4:H4 B=some (.dK kb):=B4 _ _ nLB.symm (S3 _ _ hB)
   have ho4:=B4 _ _ (ne ho3 hL3 (by simp)) ho3
   refine⟨⟨_,SqL.of hD4⟩,fun D5 H5 n5 S5 h5=>?_⟩
   have yl:=L4.1
   rw [List.length_map] at yl
   refine g3o (xs:=ys) (fun i zs H'=>Same H4 H'/\H' D5=some (.lst zs)/\zs=((es.take i).map fun e=>f e.1*a6k 1 e.2.2).map V.int) ⟨S5,h5,rfl⟩ (by omega) ?_ ?_ ?_
   ·intro i zs H' hi ⟨S',h',e⟩
    exact⟨h',SqL.of (S' _ _ hD4),by rw [e,List.length_map,List.length_map,List.length_take]; omega⟩
   ·intro i x zs H' hx ⟨S',h',e⟩
    have hi:=(List.getElem?_eq_some_iff.mp hx).1
    obtain⟨c,hc⟩:∃ c,cs[i]? = some c:=⟨_,List.getElem?_eq_getElem (by rw [L4.2.1,List.length_map]; omega)⟩
    obtain⟨e',he'⟩:∃ e',es[i]? = some e':=⟨_,List.getElem?_eq_getElem (by omega)⟩
    obtain⟨pq,rfl,hpq,hch⟩:=L4.2.2 i x c (e'.1,e'.2.2) hx hc (by rw [List.getElem?_map,he']; rfl)
    have me:=List.mem_of_getElem? he'
    obtain⟨f1,f2,f3⟩:=hf e' me
    have oke:=ok e' me
    have j5b:=hch.same S'
    obtain⟨cx,pl,sl,os,sts,hc1,_⟩:=id j5b
    unfold chF at hc1
    have ho':=S' _ _ ho4
    have hB':=S' _ _ hB4
    refine⟨pq,_,_,rfl,S' _ _ hpq,?_⟩
    clear ho3 ho4 hB4 h5 hx
    walk_at "rd*"
    have gb:=d4z oke
    have bd1:1*(Bd+90)<=es.length*(Bd+90):=Nat.mul_le_mul_right _ (by omega)
    refine⟨e'.2.2,[],j5b,by have:=oke.1; omega,fun d hd=>(oke.2 d hd).1,IntMulOk.of_le (m:=8900) (n:=90) (by omega) gb.2 (by decide),fun H7 B7 h7=>⟨S'.step n5 B7,h7,?_⟩⟩
    rw [List.take_add_one,he',List.map_append,List.map_append]
    rfl
   ·intro zs H6 ⟨S6,h6,e⟩
    subst e
    rw [yl,List.take_length] at h6
    have ho6:=S6 _ _ ho4
    have hB6:=S6 _ _ hB4
    walk_at "rd"
    refine⟨es.map fun e=>f e.1*a6k 1 e.2.2,h6,Bd+90,fun y hy=>?_,by rw [List.length_map]; exact bd,?_⟩
    ·obtain⟨e,he,rfl⟩:=List.mem_map.mp hy
     obtain⟨f1,f2,f3⟩:=hf e he
     have gb:=d4z (ok e he)
     exact⟨Int.mul_pos (by omega) (by omega),intBits_mul_le f3 gb.2⟩
    clear ho3 ho4 hB4 h5 h6
    walk_at "rd*"
    refine⟨by omega,fun H7 B7 h7=>?_⟩
    have L6:=L4.same S6
    have h46:=S6 _ _ h4
    refine q D ys cs H7 (fun z u hz hzB e=>B7 _ _ hzB (S6 _ _ (B4 _ _ hz (S3 _ _ e)))) (B7 _ _ nLB h46) h7 n2 (B7 _ _ (ne (S6 _ _ hD4) hB6 (by simp)) (S6 _ _ hD4)) nd (fun c hc=>(fr c hc).1) (L6.dict hB6 B7)
theorem g2e{bs:List Str}{es:List (Str×Str)}{n:Nat}(h:∀ j,j < n->bs.filter (c1i bs es (c7q bs es j))≠[]):∀ k,k<=n->(c7q bs es n).take k=c7q bs es k:=by
 induction n with
 | zero =>
  intro k hk
  obtain rfl:k=0:=by omega
  rfl
 | succ n ih =>
  intro k hk
  have ln:=c6y n fun j hj=>h j (by omega)
  rcases Nat.lt_or_ge n k with z | z
  ·obtain rfl:k=n+1:=by omega
   exact List.take_of_length_le (by rw [c6y (n+1) h]; exact Nat.le_refl _)
  ·rw [c7q,List.take_append_of_le_length (by omega)]
   exact ih (fun j hj=>h j (by omega)) k z
theorem i0v{bs:List Str}{es:List (Str×Str)}{n i:Nat}{b:Str}(h:∀ j,j < n->bs.filter (c1i bs es (c7q bs es j))≠[])(hi:(c7q bs es n)[i]? = some b):b∈bs/\b∉(c7q bs es n).take i/\∀ e∈es,e.2=b->e.1∈bs->e.1∈(c7q bs es n).take i:=by
 have hl:=c6y n h
 have li:=(List.getElem?_eq_some_iff.mp hi).1
 have t0:=g2e h i (by omega)
 have t1:=g2e h (i+1) (by omega)
 rw [List.take_add_one,hi,t0,c7q] at t1
 have m:b∈(bs.filter (c1i bs es (c7q bs es i))).head?.toList:=by
  rw [<- List.append_cancel_left t1]
  exact List.mem_cons_self
 obtain⟨m1,m2⟩:=List.mem_filter.mp (List.mem_of_head? (Option.mem_toList.mp m))
 unfold c1i at m2
 rw [Bool.and_eq_true,decide_eq_true_eq,List.all_eq_true] at m2
 rw [t0]
 refine⟨m1,m2.1,fun e he e2 e1=>?_⟩
 have z:=m2.2 e he
 by_cases c:e.1∈c7q bs es i
 ·exact c
 ·simp [e2,e1,c] at z
theorem g2f(es:List Sq)(l:List Str)(b:Str):f4r es (l++[b])=f4r es l+(b7g es b).length:=by
 unfold f4r
 rw [List.map_append,List.sum_append]
 simp
theorem f1y(es:List Sq)(l:List Str)(b:Str):c7o es (l++[b])=i8r es (c7o es l) b:=by
 unfold c7o
 rw [List.foldl_append]
 rfl
theorem two_pow:∀ n:Nat,1<=n->2*n<=2 ^ n
 | 1,_=>by decide
 | n+2,_=>by
  have:=two_pow (n+1) (by omega)
  rw [Nat.pow_succ]
  omega
theorem g2g(n m:Nat):1+n*(100*2 ^ m+90)<=100*2 ^ (m+n):=by
 have p:0 < 2 ^ m:=Nat.pow_pos (by decide)
 rcases Nat.eq_zero_or_pos n with z | z
 ·subst z
  rw [Nat.zero_mul]
  show 1<=100*2 ^ m
  omega
 ·have t:=two_pow n z
  rw [Nat.pow_add]
  generalize 2 ^ m=a at p
  generalize 2 ^ n=c at t
  have h1:n*(100*a+90)+1<=n*(200*a):=by
   have:n*(100*a+91)<=n*(200*a):=Nat.mul_le_mul_left _ (by omega)
   rw [Nat.mul_add] at this ⊢
   omega
  have h2:n*(200*a)<=100*(a*c):=by
   have:(2*n)*(100*a)<=c*(100*a):=Nat.mul_le_mul_right _ t
   have e1:(2*n)*(100*a)=n*(200*a):=by rw [Nat.mul_comm 2 n,Nat.mul_assoc,<- Nat.mul_assoc 2 100 a]
   have e2:c*(100*a)=100*(a*c):=by rw [Nat.mul_comm c,Nat.mul_assoc]
   omega
  omega
theorem i9h{es:List Sq}{b:Str}(ok:∀ e∈es,h4t e){l:Ld}(hl:l∈b7g es b):1<=a6k 1 l.2/\intBits (a6k 1 l.2)<=90:=by
 obtain⟨e,he,rfl⟩:=List.mem_map.mp hl
 exact d4z (ok e (List.mem_filter.mp he).1)
theorem f8o{es:List Sq}(ok:∀ e∈es,h4t e):∀ (k:Nat) (l:List Str),l.length=k->∀ z,1<=c7o es l z/\intBits (c7o es l z)<=100*2 ^ f4r es l
 | 0,l,hl,z=>by
  obtain rfl:=List.length_eq_zero_iff.mp hl
  exact⟨by show (1:Int)<=1; decide,by show intBits 1<=100*2 ^ 0; decide⟩
 | k+1,l,hl,z=>by
  obtain⟨l',b,rfl⟩:∃ l' b,l=l'++[b]:=by
   rcases List.eq_nil_or_concat l with e | ⟨cs,c,e⟩
   ·rw [e] at hl; cases hl
   ·exact⟨cs,c,by rw [e,List.concat_eq_append]⟩
  rw [List.length_append,List.length_singleton] at hl
  have ih:=f8o ok k l' (by omega)
  rw [f1y,g2f]
  unfold i8r
  by_cases hz:z=b
  ·rw [if_pos hz]
   have lk:=g5w _ ((b7g es b).map fun l=>c7o es l' l.1*a6k 1 l.2) (B:=100*2 ^ f4r es l'+90) rfl fun y hy=>by
    obtain⟨l,hl,rfl⟩:=List.mem_map.mp hy
    have a:=ih l.1
    have g:=i9h ok hl
    exact⟨Int.mul_pos (by omega) (by omega),intBits_mul_le a.2 g.2⟩
   rw [List.length_map] at lk
   exact⟨lk.1,Nat.le_trans lk.2.1 (g2g _ _)⟩
  ·rw [if_neg hz]
   refine⟨(ih z).1,Nat.le_trans (ih z).2 (Nat.mul_le_mul_left _ (Nat.pow_le_pow_right (by decide) (by omega)))⟩
theorem g5y(es:List Sq):∀ {l:List Str},l.Nodup->f4r es l<=es.length:=by
 intro l nd
 induction es with
 | nil =>
  have:∀ l:List Str,f4r [] l=0:=fun l=>by
   induction l with
   | nil=>rfl
   | cons a l ih=>show (b7g [] a).length+f4r [] l=0; rw [ih]; rfl
  rw [this]
  exact Nat.le_refl _
 | cons e es ih =>
  have one:∀ l:List Str,f4r (e :: es) l=f4r es l+l.count e.2.1:=fun l=>by
   induction l with
   | nil=>rfl
   | cons a l ih =>
    show (b7g (e :: es) a).length+f4r (e :: es) l=(b7g es a).length+f4r es l+(a :: l).count e.2.1
    rw [ih,List.count_cons]
    unfold b7g
    rw [List.length_map,List.length_map,List.filter_cons]
    by_cases h:e.2.1=a
    ·rw [if_pos (by simpa using h),List.length_cons,if_pos (by simpa using h.symm)]
     omega
    ·rw [if_neg (by simpa using h),if_neg (by simpa using fun k=>h k.symm)]
     omega
  rw [one,List.length_cons]
  have:=List.nodup_iff_count.mp nd e.2.1
  omega
theorem RpL.goal{H:Hp}{N:Addr->Prop}(b:Str):∀ {es:List Sq} {us:List V},RpL H N us ((es.map f4q).map dSd)->RpL H N (us.filter (g5c H b)) (((es.filter fun e=>decide (e.2.1=b)).map f4q).map dSd)
 | [],_,.nil=>.nil
 | e :: es,_,.cons (v:=v) (vs:=vs) h r=>by
  have ih:=RpL.goal b r
  have g:g5c H b v=decide (e.2.1=b):=by
   obtain⟨p,ws,rfl,hp,r2⟩:=h.tuple
   obtain⟨x,y,z,rfl,h1,h2,h3⟩:=r2.three
   cases h1.strOf
   cases h2.strOf
   show (match H p with | some (.tup [_,.str y,_])=>decide (y=b) | _=>false)=_
   rw [hp]
   rfl
  rw [List.filter_cons,List.filter_cons,g]
  by_cases c:e.2.1=b
  ·rw [if_pos (decide_eq_true c),if_pos (decide_eq_true c)]
   exact .cons h ih
  ·rw [if_neg (by rw [decide_eq_false c]; exact Bool.false_ne_true),if_neg (by rw [decide_eq_false c]; exact Bool.false_ne_true)]
   exact ih
theorem g7q{l:List Str}(h:∀ (i:Nat) b,l[i]? = some b->b∉l.take i):l.Nodup:=by
 rw [List.Nodup,List.pairwise_iff_getElem]
 intro i j hi hj hij e
 refine h j l[j] (List.getElem?_eq_getElem hj) ?_
 rw [<- e]
 exact List.mem_take_iff_getElem.mpr ⟨i,by omega,rfl⟩
theorem Lds.two{A:Ad}{H H':Hp}{us:List V}{cs:List Addr}{ls:List Ld}{L B:Addr}{kl kb:List (Key×V)}(h:Lds A H us cs ls)(hL:H L=some (.dK kl))(hB:H B=some (.dK kb))(ne:L≠B)(K:∀ z u,z≠L->z≠B->H z=some u->H' z=some u):Lds A H' us cs ls:=by
 let Hm:Hp:=fun z=>if z=B then H z else H' z
 have b1:a2j L H Hm:=fun z u hz e=>by
  show (if z=B then H z else H' z)=some u
  by_cases k:z=B
  ·rw [if_pos k]; exact e
  ·rw [if_neg k]; exact K z u hz k e
 have b2:a2j B Hm H':=fun z u hz e=>by
  have e':(if z=B then H z else H' z)=some u:=e
  rw [if_neg hz] at e'
  exact e'
 have hm:Hm B=some (.dK kb):=by
  show (if B=B then H B else H' B)=_
  rw [if_pos rfl]; exact hB
 exact (h.dict hL b1).dict hm b2
theorem Lds.live{A:Ad}{H:Hp}{us:List V}{cs:List Addr}{ls:List Ld}{c:Addr}(h:Lds A H us cs ls)(hc:c∈cs):H c≠none:=by
 obtain⟨i,hi⟩:=List.getElem?_of_mem hc
 have li:=(List.getElem?_eq_some_iff.mp hi).1
 obtain⟨l1,l2,f⟩:=h
 obtain⟨q,_,_,dx,pl,sl,os,sts,h1,_⟩:=f i us[i] c ls[i] (List.getElem?_eq_getElem _) hi (List.getElem?_eq_getElem _)
 rw [h1]
 exact fun k=>by cases k
theorem Lea.step{A:Ad}{H H':Hp}{L B q:Addr}{kl kb:List (Key×V)}{ob:List Str}{b':Str}{es:List Sq}{cc:Str->List Addr}{us':List V}{cs:List Addr}(h:Lea A H kl ob es cc)(nb:b'∉ob)(hL:H L=some (.dK kl))(hB:H B=some (.dK kb))(ne:L≠B)(K:∀ z u,z≠L->z≠B->H z=some u->H' z=some u)(hq:H' q=some (.lst us'))(cnd:cs.Nodup)(cfr:∀ c∈cs,H c=none)(L16:Lds A H' us' cs (b7g es b')):Lea A H' (putK kl (kT b') (.ref q)) (ob++[b']) es (fun z=>if z=b' then cs else cc z):=by
 have lv:∀ b∈ob,∀ c∈cc b,H c≠none:=fun b hb c hc=>by
  obtain⟨_,q0,us0,_,_,hl⟩:=h.1 b hb
  exact hl.live hc
 refine⟨fun b hb=>?_,fun b hb b2 hb2 c hc hc2=>?_⟩
 ·show (if b=b' then cs else cc b).Nodup/\∃ q' us,b8k _ (kT b)=some (.ref q')/\H' q'=some (.lst us)/\Lds A H' us (if b=b' then cs else cc b) (b7g es b)
  by_cases k:b=b'
  ·rw [if_pos k,k]
   exact⟨cnd,q,us',by rw [c1o,if_pos rfl],hq,L16⟩
  ·rw [if_neg k]
   have m:b∈ob:=(List.mem_append.mp hb).elim id fun m=>absurd (List.mem_singleton.mp m) k
   obtain⟨n,q0,us0,hv,hq0,hl⟩:=h.1 b m
   refine⟨n,q0,us0,?_,K _ _ (fun e=>by rw [e,hL] at hq0; cases hq0) (fun e=>by rw [e,hB] at hq0; cases hq0) hq0,hl.two hL hB ne K⟩
   rw [c1o,if_neg (fun e=>k (by cases e; rfl))]
   exact hv
 ·replace hc:c∈(if b=b' then cs else cc b):=hc
  replace hc2:c∈(if b2=b' then cs else cc b2):=hc2
  have mo:∀ {z:Str},z∈ob++[b']->z≠b'->z∈ob:=fun hz k=>(List.mem_append.mp hz).elim id fun m=>absurd (List.mem_singleton.mp m) k
  by_cases k:b=b'
  ·by_cases k2:b2=b'
   ·rw [k,k2]
   ·rw [if_pos k] at hc
    rw [if_neg k2] at hc2
    exact absurd (cfr c hc) (lv b2 (mo hb2 k2) c hc2)
  ·rw [if_neg k] at hc
   by_cases k2:b2=b'
   ·rw [if_pos k2] at hc2
    exact absurd (cfr c hc2) (lv b (mo hb k) c hc)
   ·rw [if_neg k2] at hc2
    exact h.2 b (mo hb k) b2 (mo hb2 k2) c hc hc2
theorem b9l.ins{A:Ad}{H H':Hp}{N:Addr->Prop}{po o C dx:Addr}{fs:List (Str×V)}{p:Pd}(h:b9l A H N po p)(ho:H o=some (.ins C dx fs))(ne:po≠o)(B:a2j o H H'):b9l A H' N po p:=by
 obtain⟨pdx,t,b,sd,ou,hp,n,d,ht,hb,⟨us,hs,R1⟩,vs,hu,R2⟩:=h
 have kl:∀ {z:Addr} {ys:List V},H z=some (.lst ys)->H' z=some (.lst ys):=fun e=>B _ _ (fun k=>by rw [k,ho] at e; cases e) e
 have kt:∀ {z:Addr} {ys:List V},H z=some (.tup ys)->H' z=some (.tup ys):=fun e=>B _ _ (fun k=>by rw [k,ho] at e; cases e) e
 exact⟨pdx,t,b,sd,ou,B _ _ ne hp,n,d,kl ht,kl hb,⟨us,kl hs,R1.go (fun z vs nz e=>⟨kl e,nz⟩) fun z vs e=>kt e⟩,vs,kl hu,R2.go (fun z vs nz e=>⟨kl e,nz⟩) fun z vs e=>kt e⟩
theorem b9l.dict{A:Ad}{H H':Hp}{N:Addr->Prop}{po o:Addr}{kvs:List (Key×V)}{p:Pd}(h:b9l A H N po p)(ho:H o=some (.dK kvs))(B:a2j o H H'):b9l A H' N po p:=by
 obtain⟨pdx,t,b,sd,ou,hp,n,d,ht,hb,⟨us,hs,R1⟩,vs,hu,R2⟩:=h
 have kl:∀ {z:Addr} {ys:List V},H z=some (.lst ys)->H' z=some (.lst ys):=fun e=>B _ _ (fun k=>by rw [k,ho] at e; cases e) e
 have kt:∀ {z:Addr} {ys:List V},H z=some (.tup ys)->H' z=some (.tup ys):=fun e=>B _ _ (fun k=>by rw [k,ho] at e; cases e) e
 exact⟨pdx,t,b,sd,ou,B _ _ (fun k=>by rw [k,ho] at hp; cases hp) hp,n,d,kl ht,kl hb,⟨us,kl hs,R1.go (fun z vs nz e=>⟨kl e,nz⟩) fun z vs e=>kt e⟩,vs,kl hu,R2.go (fun z vs nz e=>⟨kl e,nz⟩) fun z vs e=>kt e⟩
theorem b9l.two{A:Ad}{H H':Hp}{N:Addr->Prop}{po L B:Addr}{kl kb:List (Key×V)}{p:Pd}(h:b9l A H N po p)(hL:H L=some (.dK kl))(hB:H B=some (.dK kb))(K:∀ z u,z≠L->z≠B->H z=some u->H' z=some u):b9l A H' N po p:=by
 let Hm:Hp:=fun z=>if z=B then H z else H' z
 have b1:a2j L H Hm:=fun z u hz e=>by
  show (if z=B then H z else H' z)=some u
  by_cases k:z=B
  ·rw [if_pos k]; exact e
  ·rw [if_neg k]; exact K z u hz k e
 have b2:a2j B Hm H':=fun z u hz e=>by
  have e':(if z=B then H z else H' z)=some u:=e
  rw [if_neg hz] at e'
  exact e'
 have hm:Hm B=some (.dK kb):=by
  show (if B=B then H B else H' B)=_
  rw [if_pos rfl]; exact hB
 exact (h.dict hL b1).dict hm b2
theorem i9i (T : Tx K mg A) : a1q P A.wd K mg base CX0 13 A.b0r A.a8i ["self", "patch"] (i3m A) := by
 have f3j:a1q P A.wd K mg base CX0 1 _ _ _ _:=h6a T
 have f8p:a1q P A.wd K mg base CX0 2 _ _ _ _:=i9g T
 have f8q:a1q P A.wd K mg base CX0 1 _ _ _ _:=h8z T
 have g2h:a1q P A.wd K mg base CX0 1 _ _ _ _:=i4f T
 have d7k:a1q P A.wd K mg base CX0 12 _ _ _ _:=i4h T
 have a3m:=T.a3m
 have a0u:=T.a0u
 have a0z:=T.a0z
 have a2g:=T.a2g
 have a1m:=T.a1m
 have a1l:=T.a1l
 have a1s:=T.a1s
 have a0m:=T.a0m
 have a0o:=T.a0o
 have a0n:=T.a0n
 have a0p:=T.a0p
 refine T.b8v.ok b1k (fun vs H Q E h=>?_) (fun cdv A' outer s H vs Q E hr h=>?_)
 ·obtain⟨_,_,rfl,_⟩:=d6w (by unfold i3m at h; exact h)
  rfl
 ·obtain⟨o,po,rfl,⟨dx,N,p,es,ho,hP,ees,eos,ok,e6,t20,b20,bnd,dj,rk,hes,q⟩⟩:=d6w (by unfold i3m at h; exact h)
  have hu:=hr.units
  have hs:sizeLine=16777216:=sizeLine_eq
  have f1z:a2p 1 _:=hr.mono (by decide)
  have f3k:a2p 2 _:=hr.mono (by decide)
  have f3l:a2p 1 _:=hr.mono (by decide)
  have f8r:a2p 1 _:=hr.mono (by decide)
  have d5g:a2p 12 _:=hr.mono (by decide)
  obtain⟨pdx,t0,b0,sd0,ou0,hpo,F⟩:=id hP
  have npo:po≠o:=fun k=>by rw [k,ho] at hpo; simp [ptF] at hpo
  have ap:∀ {H1:Hp} {z y:Addr} {u:HO},H1 z=none->H1 y=some u->z≠y:=fun n e q=>by rw [q,e] at n; cases n
  unfold ptF at hpo
  refine⟨_,(a0h (a5z (pvF 0) (a2n (pvF 1) T.a1s T.c0r f3j f1z T.f2v .nil a1j) rfl)
   (a0h (a5z (pvF 0) (a2n (pvF 1) T.a1s T.c2w f8p f3k T.f6y .nil a1j) rfl)
   (a0h (a5z (pvF 0) d0p rfl)
   (a0h (a5z (pvF 0) d0p rfl)
   (a0h (a5z (pvF 0) d0p rfl)
   (b1i (a3n PassesOwn.never rfl (a2m (a0y (pvF 0) rfl)) (a2o (i:=2) b1k.nd rfl (Or.inl rfl))
   (a0j (c4q (hu1 hu) (a0y (pvF 0) rfl) (pvF 2) a0k rfl)))
   (a0h (a0s (i:=3) b1k.nd rfl (Or.inl rfl) (a2n (pvF 1) T.a1s T.c2v f8q f3l T.f6w .nil a1j))
   (b1i (a3n PassesOwn.never rfl (a2m (a0y (pvF 0) rfl)) (a2o (i:=4) b1k.nd rfl (Or.inr rfl))
   (a0j (a6m (a6l (pvF 0) T.a3m T.b6s d7k d5g T.d6y .nil a1j (a0g (pvF 4) (a0g (g6z (a2m (pvF 3)) (fun _ _ _ _ _ => (a1r (i2e (K := K) (by rfl) (by exact hu)) (a1t a5m (pvF 0) a0k (fun _ _ => rfl)) (pvF 5) (a2s _))) (fun _ _ _ _ _ => (pvF 0)) (c7u (sc := a0l c4s) (N := ["self", "patch", "track", "sends", "bus", "out"]) rfl rfl (by decide +kernel)) rfl) a0i))))))
   (a0j (a3n PassesOwn.never rfl (a2m (a2n (pvF 1) T.a1s T.c5r g2h f8r T.g1k .nil a1j)) (a2o (i:=5) b1k.nd rfl (Or.inl rfl))
   (a0j a2w))))))))))),?_⟩
  walk_at "rd*"
  refine⟨N,p,hP,by omega,?_⟩
  rintro _ H1 ⟨t,rfl,n1,S1,h1⟩
  have ho1:=S1 _ _ ho
  have j5c:=S1 _ _ hpo
  have ot:=ap n1 ho
  clear hpo
  walk_at "rd*"
  intro H2 B2 h2
  have P2:=(hP.same S1).ins ho1 npo B2
  have h12:=B2 _ _ ot h1
  have hpo2:=B2 _ _ npo j5c
  have B02:a2j o H H2:=fun z u hz e=>B2 _ _ hz (S1 _ _ e)
  clear h1 ho1 j5c
  have rdy:∀ j,j < p.bs.length->p.bs.filter (c1i p.bs (prs p.es) (c7q p.bs (prs p.es) j))≠[]:=fun j hj=>ready rk bnd j hj
  walk_at "rd*"
  obtain⟨t1,b1,s1,T1⟩:=P2.pt
  refine⟨t1,b1,s1,_,_,_,T1,by omega,rdy,?_⟩
  rintro _ H3 ⟨b,rfl,n3,S3,h3⟩
  obtain⟨ob,eob⟩:∃ ob,c7q p.bs (prs p.es) p.bs.length=ob:=⟨_,rfl⟩
  rw [eob] at h3 q
  have fr:∀ {H1:Hp} {z:Addr},a2j o H H1->H1 z=none->z≠o->H z=none:=fun B n nz=>by
   cases e:H _ with
   | none=>rfl
   | some u=>rw [B _ _ nz e] at n; cases n
  have ho3:=S3 _ _ h2
  have ob':=ap n3 h2
  have P3:=P2.same S3
  have h13:=S3 _ _ h12
  clear h2 h12 hpo2
  walk_at "rd*"
  intro H4 B4 h4
  have P4:=P3.ins ho3 npo B4
  have h14:=B4 _ _ ot h13
  have h34:=B4 _ _ ob' h3
  have B04:a2j o H H4:=fun z u hz e=>B4 _ _ hz (S3 _ _ (B02 _ _ hz e))
  clear h3 h13 ho3
  walk_at "rd*"
  refine fun L H5 n5 S5 h5=>?_
  have ho5:=S5 _ _ h4
  have oL:=ap n5 h4
  clear h4
  walk_at "rd*"
  intro H6 B6 h6
  have P6:=(P4.same S5).ins ho5 npo B6
  have h16:=B6 _ _ ot (S5 _ _ h14)
  have h36:=B6 _ _ ob' (S5 _ _ h34)
  have h56:=B6 _ _ oL h5
  have B06:a2j o H H6:=fun z u hz e=>B6 _ _ hz (S5 _ _ (B04 _ _ hz e))
  clear h5 h14 h34 ho5
  walk_at "rd*"
  refine fun B H7 n7 S7 h7=>?_
  have ho7:=S7 _ _ h6
  have oB:=ap n7 h6
  have LB:=ap n7 h56
  clear h6
  walk_at "rd*"
  intro H8 B8 h8
  have P8:=(P6.same S7).ins ho7 npo B8
  have h18:=B8 _ _ ot (S7 _ _ h16)
  have h38:=B8 _ _ ob' (S7 _ _ h36)
  have h58:=B8 _ _ oL (S7 _ _ h56)
  have h78:=B8 _ _ oB h7
  have B08:a2j o H H8:=fun z u hz e=>B8 _ _ hz (S7 _ _ (B06 _ _ hz e))
  clear h7 h16 h36 h56 ho7
  walk_at "rd*"
  refine fun S H9 n9 S9 h9=>?_
  have ho9:=S9 _ _ h8
  have oS:=ap n9 h8
  have LS:=ap n9 h58
  have BS:=ap n9 h78
  clear h8
  walk_at "rd*"
  intro H10 B10 h10
  have P10:=(P8.same S9).ins ho9 npo B10
  have h1t:=B10 _ _ ot (S9 _ _ h18)
  have h1b:=B10 _ _ ob' (S9 _ _ h38)
  have h1L:=B10 _ _ oL (S9 _ _ h58)
  have h1B:=B10 _ _ oB (S9 _ _ h78)
  have h1S:=B10 _ _ oS h9
  have B010:a2j o H H10:=fun z u hz e=>B10 _ _ hz (S9 _ _ (B08 _ _ hz e))
  clear h9 h18 h38 h58 h78 ho9
  obtain⟨Mid5,in5,out5⟩:=g6v (fun σ' H'=>∃ (v2:Option V) (kb:List (Key×V)),σ' = [some (.ref o),some (.ref po),v2,none,none,none]/\a2j B H10 H'/\H' B=some (.dK kb)/\kb.length<=20/\∀ z∈p.ts,b8k kb (kT z)=some (.int 1))
  try walk_at "rd"
  refine⟨Mid5,?_,?_⟩
  ·walk_at "rd*"
   refine⟨⟨_,SqL.of h1t⟩,?_⟩
   obtain⟨Pv,pin,pout⟩:=b7u (fun i σ' H'=>∃ (v2:Option V) (kb:List (Key×V)),σ' = [some (.ref o),some (.ref po),v2,none,none,none]/\a2j B H10 H'/\H' B=some (.dK kb)/\kb.length<=i/\∀ z∈p.ts.take i,b8k kb (kT z)=some (.int 1))
   have tB:t≠B:=fun k=>by rw [k,h1B] at h1t; cases h1t
   have oB':o≠B:=oB.symm
   refine a4l (xs:=p.ts.map V.str) Pv (pin _ _ _ ⟨_,[],rfl,(fun z u _ e=>e),h1B,Nat.le_refl _,fun z hz=>by cases hz⟩) ?_ ?_ ?_
   ·intro i σ H11 hi hp
    obtain⟨v2,kb,rfl,B11,_⟩:=pout _ _ _ hp
    exact SqL.of (B11 _ _ tB h1t)
   ·intro i v σ H11 hv hp
    obtain⟨v2,kb,rfl,B11,h11,kbl,hkb⟩:=pout _ _ _ hp
    rw [List.getElem?_map] at hv
    obtain⟨x,hx,rfl⟩:=Option.map_eq_some_iff.mp hv
    have hi:=(List.getElem?_eq_some_iff.mp hx).1
    have j3n:=B11 _ _ oB' h10
    clear hv hp h10 h1B h1t h1b h1L h1S
    walk_at "rd*"
    refine⟨by omega,fun H12 B12 h12=>pin _ _ _ ⟨_,_,rfl,(fun z u hz e=>B12 _ _ hz (B11 _ _ hz e)),h12,Nat.le_trans (a9j _ _ _) (by omega),fun z hz=>?_⟩⟩
    rw [List.take_add_one,hx] at hz
    rw [c1o]
    rcases List.mem_append.mp hz with m | m
    ·by_cases k:kT z=kT x
     ·rw [if_pos k]
     ·rw [if_neg k]
      exact hkb z m
    ·rw [if_pos (by rw [List.mem_singleton.mp m])]
   ·intro σ H11 hp
    obtain⟨v2,kb,rfl,B11,h11,kbl,hkb⟩:=pout _ _ _ hp
    rw [List.length_map] at kbl hkb
    rw [List.take_length] at hkb
    exact in5 _ _ ⟨_,kb,rfl,B11,h11,by omega,hkb⟩
  intro σ5 H11 hm5
  obtain⟨v2,kb,rfl,B11,h11,kbl,hkb⟩:=out5 _ _ hm5
  clear hm5 in5 out5
  have j3n:=B11 _ _ oB.symm h10
  have j5d:=B11 _ _ (fun k=>by rw [k,h1B] at h1b; cases h1b) h1b
  have j5e:=B11 _ _ (fun k=>by rw [k,h1B] at h1t; cases h1t) h1t
  have j3l:=B11 _ _ LB.symm h1L
  have j5f:=B11 _ _ BS h1S
  have P11:b9l A H11 N po p:=P10.dict h1B B11
  obtain⟨pd2,t2,b2,s2,u2,j3m,_⟩:=id P11
  unfold ptF at j3m
  clear h10 h1B h1t h1b h1L h1S
  walk_at "rd*"
  refine⟨N,p,P11,by rw [ees,List.length_map]; omega,fun e he=>?_,fun l us H12 n12 S12 h12 R12=>?_⟩
  ·rw [ees] at he
   obtain⟨e',he',rfl⟩:=List.mem_map.mp he
   show (e'.2.2.map Dt.word).length<=100
   rw [List.length_map]
   have:=(ok e' he').1
   omega
  have j5g:=S12 _ _ j3n
  have h9c:=S12 _ _ j5d
  have i9j:=S12 _ _ j5e
  have i4y:=S12 _ _ j3l
  have hS12:=S12 _ _ j5f
  have i4z:=S12 _ _ h11
  have P12:=P11.same S12
  clear j3n j5d j5e j3l j5f h11 j3m
  have onl:=fun i b (h:ob[i]? = some b)=>i0v (i:=i) (b:=b) rdy (by rw [eob]; exact h)
  rw [eob] at onl
  have ond:ob.Nodup:=g7q fun i b h=>(onl i b h).2.1
  have oll:ob.length=p.bs.length:=by rw [<- eob]; exact c6y _ rdy
  have R12':RpL H12 (fun _=>True) us ((es.map f4q).map dSd):=by rw [<- ees]; exact R12.mono fun _ _ _=>trivial
  have cl6:∀ k,f4r es (ob.take k)<=6:=fun k=>Nat.le_trans (g5y es (ond.sublist (List.take_sublist _ _))) e6
  obtain⟨Mid7,in7,out7⟩:=g6v (fun σ' H'=>∃ (v4:Option V) (kl kb:List (Key×V)) (cc:Str->List Addr),σ' = [some (.ref o),some (.ref po),v2,some (.ref l),v4,none]/\(∀ z u,z≠L->z≠B->H12 z=some u->H' z=some u)/\H' L=some (.dK kl)/\H' B=some (.dK kb)/\(∀ z∈p.ts++ob,b8k kb (kT z)=some (.int (c7o es ob z)))/\Lea A H' kl ob es cc)
  refine⟨Mid7,?_,?_⟩
  ·walk_at "rd*"
   refine⟨⟨_,SqL.of h9c⟩,?_⟩
   obtain⟨Pv,pin,pout⟩:=b7u (fun i σ' H'=>∃ (v4:Option V) (kl kb:List (Key×V)) (cc:Str->List Addr),σ' = [some (.ref o),some (.ref po),v2,some (.ref l),v4,none]/\(∀ z u,z≠L->z≠B->H12 z=some u->H' z=some u)/\H' L=some (.dK kl)/\H' B=some (.dK kb)/\kl.length<=i/\kb.length<=20+i/\(∀ z∈p.ts++ob.take i,b8k kb (kT z)=some (.int (c7o es (ob.take i) z)))/\Lea A H' kl (ob.take i) es cc)
   have nl:∀ {z:Addr} {ys:List V},H12 z=some (.lst ys)->z≠L/\z≠B:=fun e=>⟨(fun k=>by rw [k,i4y] at e; cases e),fun k=>by rw [k,i4z] at e; cases e⟩
   have nt:∀ {z:Addr} {ys:List V},H12 z=some (.tup ys)->z≠L/\z≠B:=fun e=>⟨(fun k=>by rw [k,i4y] at e; cases e),fun k=>by rw [k,i4z] at e; cases e⟩
   refine a4l (xs:=ob.map V.str) Pv (pin _ _ _ ⟨_,[],kb,fun _=>[],rfl,(fun z u _ _ e=>e),i4y,i4z,Nat.le_refl _,kbl,(fun z hz=>by rw [List.take_zero,List.append_nil] at hz; exact hkb z hz),(fun b hb=>by cases hb),fun b hb=>by cases hb⟩) ?_ ?_ ?_
   ·intro i σ H13 hi hp
    obtain⟨v4,kl,kb,cc,rfl,K13,_⟩:=pout _ _ _ hp
    exact SqL.of (K13 _ _ (nl h9c).1 (nl h9c).2 h9c)
   ·intro i v σ H13 hv hp
    obtain⟨v4,kl,kb,cc,rfl,K13,hL13,hB13,kll,kbl',hv13,hle⟩:=pout _ _ _ hp
    rw [List.getElem?_map] at hv
    obtain⟨b',hb',rfl⟩:=Option.map_eq_some_iff.mp hv
    have hi:=(List.getElem?_eq_some_iff.mp hb').1
    obtain⟨ob1,ob2,ob3⟩:=onl i b' hb'
    have ho13:=K13 _ _ oL.symm oB.symm j5g
    have j5h:=K13 _ _ (nl h12).1 (nl h12).2 h12
    have R13:RpL H13 (fun _=>True) us ((es.map f4q).map dSd):=R12'.go (fun z vs _ e=>⟨K13 _ _ (nl e).1 (nl e).2 e,trivial⟩) fun z vs e=>K13 _ _ (nt e).1 (nt e).2 e
    clear hv hp
    walk_at "rd*"
    refine⟨⟨_,SqL.of j5h⟩,fun D H14 n14 S14 h14=>?_⟩
    have ul:us.length=es.length:=by rw [R13.i4u,List.length_map]
    refine d2t (xs:=us) (g5c H13 b') id n14 S14 h14 (SqL.of j5h) (by omega) ?_ ?_ ?_
    ·intro j x H' Q' hx S' q'
     obtain⟨e',pe,lw,he,rfl,hpe,_,hlw⟩:=R13.at3 hx
     have hp':=S' _ _ hpe
     have eg:g5c H13 b' (.ref pe)=decide (e'.2.1=b'):=by simp only [g5c,hpe]
     rw [eg] at q'
     clear hx hpe hlw
     walk_at "rd*"
    ·intro j x H' Q' hx hp S' q'
     walk_at "rd"
     exact q'
    ·intro H15 S15 h15
     rw [List.map_id] at h15
     walk_at "rd"
     have K15:∀ z u,H13 z=some u->H15 z=some u:=S15
     have R15:RpL H15 (fun _=>True) (us.filter (g5c H13 b')) (((es.filter fun e=>decide (e.2.1=b')).map f4q).map dSd):=(RpL.goal b' R13).same S15
     have bo:=f8o ok _ (ob.take i) rfl
     have c1:f4r es (ob.take (i+1))=f4r es (ob.take i)+(b7g es b').length:=by rw [List.take_add_one,hb']; exact g2f _ _ _
     have c2:=cl6 (i+1)
     have p6:100*2 ^ f4r es (ob.take (i+1))<=100*2 ^ 6:=Nat.mul_le_mul_left _ (Nat.pow_le_pow_right (by decide) c2)
     have bst:=g2g (b7g es b').length (f4r es (ob.take i))
     rw [<- c1] at bst
     have fl:(es.filter fun e=>decide (e.2.1=b')).length=(b7g es b').length:=by unfold b7g; rw [List.length_map]
     have fle:=List.length_filter_le (fun e:Sq=>decide (e.2.1=b')) es
     refine⟨dx,t,b,L,B,S,S15 _ _ ho13,kl,S15 _ _ hL13,kb,S15 _ _ hB13,LB.symm,c7o es (ob.take i),us.filter (g5c H13 b'),h15,es.filter fun e=>decide (e.2.1=b'),R15,fun e he=>ok e (List.mem_filter.mp he).1,by omega,by omega,by omega,100*2 ^ f4r es (ob.take i),fun e he=>?_,by rw [fl]; omega,fun q' us' cs H16 K16 hL16 hB16 nq hq cnd cfr L16=>?_⟩
     ·obtain⟨he1,he2⟩:=List.mem_filter.mp he
      rw [decide_eq_true_eq] at he2
      refine⟨hv13 e.1 ?_,bo e.1⟩
      rcases (hes e he1).1 with m | m
      ·exact List.mem_append_left _ m
      ·refine List.mem_append_right _ (ob3 (e.1,e.2.1) ?_ he2 m)
       rw [ees]
       exact List.mem_map.mpr ⟨f4q e,List.mem_map_of_mem he1,rfl⟩
     ·have tk:ob.take (i+1)=ob.take i++[b']:=by rw [List.take_add_one,hb']; rfl
      have K36:∀ z u,z≠L->z≠B->H13 z=some u->H16 z=some u:=fun z u n1 n2 e=>K16 z u n1 n2 (S15 _ _ e)
      refine pin _ _ _ ⟨_,_,_,_,rfl,(fun z u n1 n2 e=>K36 z u n1 n2 (K13 z u n1 n2 e)),hL16,hB16,Nat.le_trans (a9j _ _ _) (by omega),Nat.le_trans (a9j _ _ _) (by omega),fun z hz=>?_,by rw [tk]; exact hle.step ob2 hL13 hB13 LB.symm K36 hq cnd (fun c hc=>S15.free (cfr c hc)) L16⟩
      rw [tk,f1y,c1o]
      unfold i8r
      by_cases k:z=b'
      ·rw [if_pos (by rw [k]),if_pos k,b7g,List.map_map]
       rfl
      ·rw [if_neg (fun e=>k (by cases e; rfl)),if_neg k]
       refine hv13 z ?_
       rw [tk] at hz
       rcases List.mem_append.mp hz with m | m
       ·exact List.mem_append_left _ m
       ·exact List.mem_append_right _ ((List.mem_append.mp m).elim id fun m=>absurd (List.mem_singleton.mp m) k)
   ·intro σ H13 hp
    obtain⟨v4,kl,kb,cc,rfl,K13,hL13,hB13,kll,kbl',hv13,hle⟩:=pout _ _ _ hp
    rw [List.length_map,List.take_length] at hv13 hle
    exact in7 _ _ ⟨_,kl,kb,cc,rfl,K13,hL13,hB13,hv13,hle⟩
  intro σ7 H13 hm7
  obtain⟨v4,kl,kb',cc,rfl,K13,hL13,hB13,hv13,hle⟩:=out7 _ _ hm7
  clear hm7 in7 out7
  have P13:b9l A H13 N po p:=P12.two i4y i4z K13
  obtain⟨pd3,t3,b3,s3,u3,hp13,_⟩:=id P13
  unfold ptF at hp13
  walk_at "rd*"
  refine⟨N,p,P13,by rw [eos]; decide,fun l14 us14 H14 n14 S14 h14 R14=>?_⟩
  rw [eos] at R14
  replace R14:RpL H14 _ us14 []:=R14
  cases R14
  refine⟨⟨_,SqL.of h14⟩,a4l (xs:=[]) (fun _ _ H'=>H'=H14) rfl (fun i σ H' _ e=>by rw [e]; exact SqL.of h14) (fun i x σ H' hx _=>by cases hx) fun σ H' e=>?_⟩
  rw [e]
  have fL:H L=none:=fr B04 n5 oL
  have fB:H B=none:=fr B06 n7 oB
  have K14:∀ z u,z≠L->z≠B->H12 z=some u->H14 z=some u:=fun z u n1 n2 e=>S14 _ _ (K13 z u n1 n2 e)
  have bL:b≠L/\b≠B:=⟨(fun k=>by rw [k,i4y] at h9c; cases h9c),fun k=>by rw [k,i4z] at h9c; cases h9c⟩
  have tL:t≠L/\t≠B:=⟨(fun k=>by rw [k,i4y] at i9j; cases i9j),fun k=>by rw [k,i4z] at i9j; cases i9j⟩
  refine q H14 (fun z u hz e=>K14 z u (fun k=>by rw [k,fL] at e; cases e) (fun k=>by rw [k,fB] at e; cases e) (S12 _ _ (B11 _ _ (fun k=>by rw [k,fB] at e; cases e) (B010 _ _ hz e)))) ⟨dx,t,b,L,B,S,kl,kb',cc,K14 _ _ oL.symm oB.symm j5g,K14 _ _ tL.1 tL.2 i9j,K14 _ _ bL.1 bL.2 h9c,S14 _ _ hL13,S14 _ _ hB13,K14 _ _ LS BS hS12,hv13,?_⟩
  exact⟨fun b hb=>(hle.1 b hb).imp id fun⟨q,us,h1,h2,h3⟩=>⟨q,us,h1,S14 _ _ h2,h3.same S14⟩,hle.2⟩
theorem i9k (T : Tx K mg A) : a1q P A.wd K mg base CX0 2 A.b6h A.b6i ["value"] i3n := by
 have d0r:a1q P A.wd K mg base CX0 1 _ _ _ _:=f1h T
 refine T.c3z.ok g3w (fun vs H Q E h=>?_) (fun cdv A' outer s H vs Q E hr h=>?_)
 ·obtain⟨_,rfl,_⟩:=b8l (by unfold i3n at h; exact h)
  rfl
 ·obtain⟨l,rfl,⟨xs,hl,⟨l9,hx⟩,q⟩⟩:=b8l (by unfold i3n at h; exact h)
  have hu:=hr.units
  have hs:sizeLine=16777216:=sizeLine_eq
  have c6o:a2p 1 _:=hr.mono (by decide)
  refine ⟨_, (a0j (a1h (g3h (a1g (c1p .lst) (by rfl) T.a6w boot_isinstance (a0g (pvF 0) (a0g (c7r (v := .ty "list") (u := .type "list") (by rfl) T.c9u rfl rfl) a0i))) (h0s (a1g (g0p rfl) (by rfl) T.i8o boot_all (a0g (b9z (a2m (pvF 0)) (fun _ _ _ _ _ => (g3h (a0v d0r c6o (by rfl) T.d4t T.b6u.kp T.d4s .nil a1j (a0g (pvF 0) a0i)) (h0s (g2y of_le (a1g b9w (by rfl) T.g4t boot_abs (a0g (pvF 0) a0i)) (a9i (v := .int 1000000000000) (by rfl) T.g1l T.c9q) (a2s _))))) (c7u (sc := a0l d3w) (N := ["value"]) rfl rfl (by decide +kernel)) rfl) a0i)))))), ?_⟩
  walk_at "rd*"
  refine⟨⟨_,SqL.of hl⟩,fun D H2 n2 S2 h2=>?_⟩
  refine h7p ((xs.map fun _=>true).map V.bl) (by rw [List.length_map,List.length_map,List.length_map]) n2 S2 h2 (SqL.of hl) (by rw [List.length_map]; omega) ?_ ?_
  ·intro i v z H' Q' hv hz S' q'
   rw [List.getElem?_map] at hv
   obtain⟨x,hi,rfl⟩:=Option.map_eq_some_iff.mp hv
   rw [List.getElem?_map,List.getElem?_map,hi] at hz
   cases hz
   have b:=hx x (List.mem_of_getElem? hi)
   have d:decide (((x.natAbs:Nat):Int)<=1000000000000)=true:=decide_eq_true (by omega)
   clear hv
   walk_at "rd*"
  intro H3 S3 h3
  walk_at "rd*"
  refine⟨_,rfl,?_⟩
  have e:(xs.map fun _=>true).all id=true:=List.all_eq_true.mpr fun y hy=>by obtain⟨_,_,rfl⟩:=List.mem_map.mp hy; rfl
  rw [e]
  exact q H3 S3
theorem i9l (T : Tx K mg A) : a1q P A.wd K mg base CX0 3 A.a2t A.a2q ["self", "blocks"] (i3o A) := by
 have h0e:a1q P A.wd K mg base CX0 2 _ _ _ _:=i9k T
 have a3m:=T.a3m
 have a0u:=T.a0u
 have a0z:=T.a0z
 have a2g:=T.a2g
 have a1m:=T.a1m
 have a1l:=T.a1l
 refine T.a5v.ok b4z (fun vs H Q E h=>?_) (fun cdv A' outer s H vs Q E hr h=>?_)
 ·obtain⟨_,_,rfl,_⟩:=d6w (by unfold i3o at h; exact h)
  rfl
 ·obtain⟨o,d,rfl,⟨ts,ob,es,kvs,f,n,hE,hd,kl,t20,hF,q⟩⟩:=d6w (by unfold i3o at h; exact h)
  have hu:=hr.units
  have hs:sizeLine=16777216:=sizeLine_eq
  have g5z:a2p 2 _:=hr.mono (by decide)
  obtain⟨dx,t,b,L,B,S,kb1,kb2,cc,ho,ht,hb,hL,hB,hS,hbo,hle⟩:=id hE
  unfold enF at ho
  refine ⟨_, (a0h (a6n (pw_or (c6z (b1u (a1g (c1p .dct) (by rfl) T.a6w boot_isinstance (a0g (pvF 1) (a0g (c7r (v := .ty "dict") (u := .type "dict") (by rfl) T.i8q rfl rfl) a0i))))) (pw_or1 (a1r (c2z hu) (a1g g8n (by rfl) T.b6z boot_len (a0g (pvF 1) a0i)) (a1g a2k (by rfl) T.b6z boot_len (a0g (a0y (pvF 0) rfl) a0i)) (a2s _)))).pt
   (a0j a2w)
   a2h)
   (a0j (a3n PassesOwn.never rfl (a2m (a0y (pvF 0) rfl)) (a2o (i:=2) b4z.nd rfl (Or.inl rfl))
   (a0h (a6n (h3h (f4g (hu1 hu) (pvF 2) (pvF 1)) (by rfl))
   (a0j a2w)
   a2h)
   (a0h (a6n (c6z (b1u (a0v h0e g5z (by rfl) T.g9f T.c3z.kp T.g9e .nil a1j (a0g (a7g (hu1 hu) (pvF 1) (pvF 2) (fun _ _=>rfl)) a0i))))
   (a0j a2w)
   a2h)
   (a0j (a6n (a1r (c2z hu) (a1g a2k (by rfl) T.b6z boot_len (a0g (a7g (hu1 hu) (pvF 1) (pvF 2) (fun _ _=>rfl)) a0i)) (a1g a2k (by rfl) T.b6z boot_len (a0g (a7g (hu1 hu) (pvF 1) (a1t a5m (a0y (pvF 0) rfl) a0k (fun _ _=>rfl)) (fun _ _=>rfl)) a0i)) (a2s _))
   (a0j a2w)
   a2h))))))),?_⟩
  walk_at "rd*"
  refine⟨⟨_,SqL.of ht⟩,?_⟩
  obtain⟨Pv,pin,pout⟩:=b7u (fun _ σ' H'=>∃ v:Option V,σ' = [some (.ref o),some (.ref d),v]/\Same H H')
  refine a4l (xs:=ts.map V.str) Pv (pin _ _ _ ⟨_,rfl,Same.refl _⟩) ?_ ?_ ?_
  ·intro i σ H1 hi hp
   obtain⟨v,rfl,S1⟩:=pout _ _ _ hp
   exact SqL.of (S1 _ _ ht)
  ·intro i v σ H1 hv hp
   obtain⟨v2,rfl,S1⟩:=pout _ _ _ hp
   rw [List.getElem?_map] at hv
   obtain⟨x,hi,rfl⟩:=Option.map_eq_some_iff.mp hv
   obtain⟨lx,vx,hlx,bx,nx⟩:=hF x (List.mem_of_getElem? hi)
   obtain⟨t0,ts',ets⟩:∃ t0 ts',ts=t0 :: ts':=by
    cases ts with
    | nil=>cases hi
    | cons a b=>exact⟨a,b,rfl⟩
   obtain⟨l0,v0,hl0,b0,n0⟩:=hF t0 (by rw [ets]; exact List.mem_cons_self)
   have ht1:H1 t=some (.lst (V.str t0 :: ts'.map V.str)):=by rw [S1 _ _ ht,ets]; rfl
   have ho1:=S1 _ _ ho
   have hd1:=S1 _ _ hd
   have hx1:=S1 _ _ hlx
   have h01:=S1 _ _ hl0
   clear hv hp ht ho hd hlx hl0 hb hL hB hS
   walk_at "rd*"
   rw [if_neg (fun e=>by cases e)]
   refine⟨f x,rfl,bx,fun H2 S2=>?_⟩
   have ht2:=S2 _ _ ht1
   have ho2:=S2 _ _ ho1
   have hd2:=S2 _ _ hd1
   have hx2:=S2 _ _ hx1
   have h02:=S2 _ _ h01
   have S02:=S1.trans S2
   have ne:((f x).length:Int)=((f t0).length:Int):=by rw [nx,n0]
   have fin:=pin (i+1) _ _ ⟨some (V.str x),rfl,S02⟩
   clear ht1 ho1 hd1 hx1 h01
   walk_at "rd*"
  ·intro σ H1 hp
   obtain⟨v,rfl,S1⟩:=pout _ _ _ hp
   exact q H1 S1
theorem d3p{W:List (Int×Nat×Nat)}{X Y:Nat->Int->Int}{i:Int}(h:∀ k j,j<=i->X k j=Y k j):shf W X i=shf W Y i:=by
 unfold shf
 congr 1
 exact List.map_congr_left fun w _=>by rw [h _ _ (by omega)]
theorem f8s:∀ (W:List (Int×Nat×Nat)) (i:Int),shf W (fun _ _=>0) i=0
 | [],_=>rfl
 | w :: W,i=>by
  show w.1*0+shf W (fun _ _=>0) i=0
  rw [f8s W i,Int.mul_zero]
  rfl
theorem g6a:∀ (W:List (Int×Nat×Nat)) (X Y:Nat->Int->Int) (i:Int),shf W (fun k j=>X k j+Y k j) i=shf W X i+shf W Y i
 | [],_,_,_=>rfl
 | w :: W,X,Y,i=>by
  show w.1*(X w.2.1 (i - (w.2.2:Int))+Y w.2.1 (i - (w.2.2:Int)))+shf W (fun k j=>X k j+Y k j) i=(w.1*X w.2.1 (i - (w.2.2:Int))+shf W X i)+(w.1*Y w.2.1 (i - (w.2.2:Int))+shf W Y i)
  rw [g6a W X Y i,Int.mul_add]
  omega
theorem g6b(c:Int):∀ (W:List (Int×Nat×Nat)) (X:Nat->Int->Int) (i:Int),shf W (fun k j=>X k j*c) i=shf W X i*c
 | [],_,_=>(Int.zero_mul c).symm
 | w :: W,X,i=>by
  show w.1*(X w.2.1 (i - (w.2.2:Int))*c)+shf W (fun k j=>X k j*c) i=(w.1*X w.2.1 (i - (w.2.2:Int))+shf W X i)*c
  rw [g6b c W X i,Int.add_mul,Int.mul_assoc]
theorem h6e(W:List (Int×Nat×Nat))(X:Nat->Int->Int)(i c:Int):shf W (fun k j=>X k (j - c)) i=shf W X (i - c):=by
 unfold shf
 congr 1
 refine List.map_congr_left fun w _=>?_
 show w.1*X w.2.1 (i - (w.2.2:Int) - c)=w.1*X w.2.1 (i - c - (w.2.2:Int))
 rw [show i - (w.2.2:Int) - c=i - c - (w.2.2:Int) by omega]
theorem h6f(W:List (Int×Nat×Nat))(X:Nat->Int->Int)(i:Int):∀ L:List (Int×Nat),tap L (shf W X) i=shf W (fun k=>tap L (X k)) i
 | []=>(f8s W i).symm
 | c :: L=>by
  show c.1*shf W X (i - (c.2:Int))+tap L (shf W X) i=shf W (fun k j=>c.1*X k (j - (c.2:Int))+tap L (X k) j) i
  rw [h6f W X i L,g6a W (fun k j=>c.1*X k (j - (c.2:Int))) (fun k j=>tap L (X k) j),<- h6e,Int.mul_comm c.1,<- g6b]
  congr 2
  funext k j
  exact Int.mul_comm _ _
theorem g7r{a b:List Int}(h:a.length=b.length)(i:Int):c9v (f2w a b) i=c9v a i+c9v b i:=by
 unfold c9v
 split
 ·rfl
 ·by_cases hi:i.toNat < max a.length b.length
  ·rw [f7w hi]
  ·rw [List.getD_eq_getElem?_getD,List.getD_eq_getElem?_getD,List.getD_eq_getElem?_getD,List.getElem?_eq_none (by rw [c6q]; omega),List.getElem?_eq_none (by omega),List.getElem?_eq_none (by omega)]
   rfl
theorem g7s(xs:List Int)(c i:Int):c9v (xs.map (· * c)) i=c9v xs i*c:=by
 unfold c9v
 split
 ·exact (Int.zero_mul c).symm
 ·exact c4k xs c _
theorem h6g(n i:Nat):(List.replicate n (0:Int)).getD i 0=0:=by
 rw [List.getD_eq_getElem?_getD,List.getElem?_replicate]
 split <;> rfl
theorem d3q(n:Nat)(i:Int):c9v (List.replicate n 0) i=0:=by
 unfold c9v
 split
 ·rfl
 ·exact h6g n _
theorem d7s(xs:List Int)(i:Nat):c9v xs (i:Int)=xs.getD i 0:=by
 unfold c9v
 rw [if_neg (by omega)]
 rfl
theorem Sup.zero(n:Nat)(W:List (Int×Nat×Nat)):Sup n W (fun _=>List.replicate n 0) (List.replicate n 0):=by
 refine⟨List.length_replicate,fun _=>List.length_replicate,fun i _=>?_⟩
 rw [d3q,d3p (Y:=fun _ _=>0) fun k j _=>d3q n j,f8s]
theorem Sup.add{n:Nat}{W:List (Int×Nat×Nat)}{G G':Nat->List Int}{F F':List Int}(h:Sup n W G F)(h':Sup n W G' F'):Sup n W (fun k=>f2w (G k) (G' k)) (f2w F F'):=by
 refine⟨by rw [c6q,h.1,h'.1,Nat.max_self],fun k=>by rw [c6q,h.2.1,h'.2.1,Nat.max_self],fun i hi=>?_⟩
 rw [g7r (by rw [h.1,h'.1]),h.2.2 i hi,h'.2.2 i hi,<- g6a]
 exact d3p fun k j _=>(g7r (by rw [h.2.1,h'.2.1]) j).symm
theorem Sup.mul{n:Nat}{W:List (Int×Nat×Nat)}{G:Nat->List Int}{F:List Int}(c:Int)(h:Sup n W G F):Sup n W (fun k=>(G k).map (· * c)) (F.map (· * c)):=by
 refine⟨by rw [List.length_map,h.1],fun k=>by rw [List.length_map,h.2.1],fun i hi=>?_⟩
 rw [g7s,h.2.2 i hi,<- g6b]
 exact d3p fun k j _=>(g7s _ c j).symm
theorem Sup.outs{n:Nat}{W:List (Int×Nat×Nat)}{G:Nat->List Int}{F:List Int}(d:Dt)(h:Sup n W G F):Sup n W (fun k=>outs d [] (G k)) (outs d [] F):=by
 refine⟨by rw [a5y,h.1],fun k=>by rw [a5y,h.2.1],fun i hi=>?_⟩
 rw [g7o _ _ (by rw [h.1]; exact hi),g1q (Y:=shf W fun k=>c9v (G k)) fun j hj=>h.2.2 j (by omega),h6f]
 exact d3p fun k j hj=>(g7o _ _ (by rw [h.2.1]; omega)).symm
theorem Sup.blk{n:Nat}{W:List (Int×Nat×Nat)}:∀ (ds:List Dt) {G:Nat->List Int} {F:List Int},Sup n W G F->Sup n W (fun k=>blk ds [] (G k)) (blk ds [] F)
 | [],_,_,h=>h
 | d :: ds,_,_,h=>Sup.blk ds (h.outs d)
theorem Sup.flow{n:Nat}{W:List (Int×Nat×Nat)}{G:Nat->Str->List Int}{F:Str->List Int}(h:∀ z,Sup n W (fun k=>G k z) (F z))(g:Str->Int)(B:Int)(ls:List Ld):Sup n W (fun k=>c7l ls (G k) g B n) (c7l ls F g B n):=by
 unfold c7l
 have key:∀ (ls:List Ld) {a:List Int} {b:Nat->List Int},Sup n W b a->Sup n W (fun k=>ls.foldl (fun acc l=>f2w acc ((My.blk l.2 [] (G k l.1)).map (· * B.fdiv (a6k (g l.1) l.2)))) (b k)) (ls.foldl (fun acc l=>f2w acc ((My.blk l.2 [] (F l.1)).map (· * B.fdiv (a6k (g l.1) l.2)))) a):=by
  intro ls
  induction ls with
  | nil=>exact fun h=>h
  | cons l ls ih=>exact fun h'=>ih (h'.add (((h l.1).blk l.2).mul _))
 exact key ls (Sup.zero n W)
theorem Sup.flw{n:Nat}{W:List (Int×Nat×Nat)}(es:List Sq)(g:Str->Int):∀ (ob:List Str) {G:Nat->Str->List Int} {F:Str->List Int},(∀ z,Sup n W (fun k=>G k z) (F z))->∀ z,Sup n W (fun k=>flw es g n (G k) ob z) (flw es g n F ob z)
 | [],_,_,h=>h
 | b :: ob,G,F,h=>by
  refine Sup.flw es g ob (G:=fun k=>flS es g n (G k) b) (F:=flS es g n F b) fun z=>?_
  unfold flS
  by_cases e:z=b
  ·simp only [if_pos e]
   exact Sup.flow h g (g b) _
  ·simp only [if_neg e]
   exact h z
theorem b4u(n:Nat)(f:Nat->Int):d2g (n+1) f=d2g n f+f n:=by
 unfold d2g
 rw [List.range_succ,List.map_append,List.sum_append]
 simp
theorem a6u{n:Nat}{f g:Nat->Int}(h:∀ k,k < n->f k=g k):d2g n f=d2g n g:=by
 unfold d2g
 congr 1
 exact List.map_congr_left fun k hk=>h k (List.mem_range.mp hk)
theorem d3r(n:Nat):d2g n (fun _=>0)=0:=by
 induction n with
 | zero=>rfl
 | succ n ih=>rw [b4u,ih]; rfl
theorem f8t{f:Nat->Int}{j:Nat}:∀ (n:Nat),(∀ s,s≠j->f s=0)->d2g n f=if j < n then f j else 0
 | 0,_=>by rw [if_neg (by omega)]; rfl
 | n+1,h=>by
  rw [b4u,f8t n h]
  by_cases e:n=j
  ·rw [e,if_neg (by omega),if_pos (by omega),Int.zero_add]
  ·rw [h n e,Int.add_zero]
   by_cases l:j < n
   ·rw [if_pos l,if_pos (by omega)]
   ·rw [if_neg l,if_neg (by omega)]
theorem g7t{f:Nat->Int}{m:Nat}(h:∀ s,m<=s->f s=0):∀ n,m<=n->d2g n f=d2g m f
 | 0,l=>by rw [show m=0 by omega]
 | n+1,l=>by
  by_cases e:m=n+1
  ·rw [e]
  ·rw [b4u,g7t h n (by omega),h n (by omega),Int.add_zero]
theorem g7u(c:Int)(f:Nat->Int)(n:Nat):d2g n (fun k=>f k*c)=d2g n f*c:=by
 induction n with
 | zero=>exact (Int.zero_mul c).symm
 | succ n ih=>rw [b4u,b4u,ih,Int.add_mul]
theorem h6h(rows:List (List Int))(n:Nat)(X:Nat->Int->Int)(i:Int):∀ nt,shf (Wt rows nt n) X i=d2g nt fun k=>d2g n fun s=>(rows.getD k []).getD s 0*X k (i - (s:Int))
 | 0=>rfl
 | nt+1=>by
  rw [b4u,<- h6h rows n X i nt]
  unfold shf Wt d2g
  rw [List.range_succ,List.flatMap_append,List.map_append,List.sum_append]
  congr 2
  rw [List.flatMap_cons,List.flatMap_nil,List.append_nil,List.map_map]
  rfl
theorem f8u(n:Nat):(dlt n).length=n:=by
 unfold dlt
 rw [List.length_take,List.length_cons,List.length_replicate]
 omega
theorem h9d{n:Nat}{i:Int}(h:i < (n:Int)):c9v (dlt n) i=if i=0 then 1 else 0:=by
 by_cases hi:i < 0
 ·rw [d4y hi,if_neg (by omega)]
 ·obtain⟨k,rfl⟩:∃ k:Nat,i=(k:Int):=⟨i.toNat,by omega⟩
  rw [d7s]
  unfold dlt
  rw [List.getD_eq_getElem?_getD,List.getElem?_take_of_lt (by omega)]
  cases k with
  | zero=>rfl
  | succ k=>rw [List.getElem?_cons_succ,<- List.getD_eq_getElem?_getD,h6g,if_neg (by omega)]
theorem f8v(nt n k m:Nat):(imR nt n k).getD m (List.replicate n 0)=if m < nt/\m=k then dlt n else List.replicate n 0:=by
 unfold imR
 rw [List.getD_eq_getElem?_getD,List.getElem?_map]
 by_cases h:m < nt
 ·rw [List.getElem?_range h]
  show (if m=k then dlt n else List.replicate n 0)=_
  by_cases e:m=k
  ·rw [if_pos e,if_pos ⟨h,e⟩]
  ·rw [if_neg e,if_neg fun z=>e z.2]
 ·rw [List.getElem?_eq_none (by rw [List.length_range]; omega),if_neg fun z=>h z.1]
  rfl
theorem Sup.fed{ts:List Str}{rows:List (List Int)}{nt n:Nat}(hr:rows.length=nt)(hn:∀ r∈rows,r.length=n)(z:Str):Sup n (Wt rows nt n) (fun k=>fdF ts (imR nt n k) n z) (fdF ts rows n z):=by
 unfold fdF
 generalize ts.idxOf z=m
 refine⟨?_,fun k=>?_,fun i hi=>?_⟩
 ·rw [List.getD_eq_getElem?_getD]
  cases e:rows[m]? with
  | none=>exact List.length_replicate
  | some r=>exact hn r (List.mem_of_getElem? e)
 ·show ((imR nt n k).getD m (List.replicate n 0)).length=n
  rw [f8v]
  split
  ·exact f8u n
  ·exact List.length_replicate
 ·rw [h6h]
  by_cases hm:m < nt
  ·rw [f8t (j:=m) nt fun k hk=>?_,if_pos hm]
   ·have er:rows.getD m (List.replicate n 0)=rows.getD m []:=by
     rw [List.getD_eq_getElem?_getD,List.getD_eq_getElem?_getD,List.getElem?_eq_getElem (by omega)]
     rfl
    have lr:(rows.getD m []).length=n:=by
     rw [List.getD_eq_getElem?_getD,List.getElem?_eq_getElem (by omega)]
     exact hn _ (List.getElem_mem _)
    have im:(imR nt n m).getD m (List.replicate n 0)=dlt n:=by rw [f8v,if_pos ⟨hm,rfl⟩]
    rw [er]
    simp only [im]
    by_cases neg:i < 0
    ·rw [d4y neg,a6u (g:=fun _=>0) fun s _=>by rw [d4y (by omega),Int.mul_zero],d3r]
    ·obtain⟨t,rfl⟩:∃ t:Nat,i=(t:Int):=⟨i.toNat,by omega⟩
     rw [d7s,a6u (g:=fun s=>if s=t then (rows.getD m []).getD s 0 else 0) fun s _=>?_,f8t (j:=t) n fun s hs=>if_neg hs,if_pos (by omega),if_pos rfl]
     rw [h9d (by omega)]
     by_cases e:s=t
     ·rw [if_pos (by omega),if_pos e,Int.mul_one]
     ·rw [if_neg (by omega),if_neg e,Int.mul_zero]
   ·refine (a6u (g:=fun _=>0) fun s _=>?_).trans (d3r n)
    show (rows.getD k []).getD s 0*c9v ((imR nt n k).getD m (List.replicate n 0)) (i - (s:Int))=0
    rw [f8v,if_neg fun z=>hk z.2.symm,d3q,Int.mul_zero]
  ·rw [List.getD_eq_getElem?_getD,List.getElem?_eq_none (by omega)]
   show c9v (List.replicate n 0) i=_
   rw [d3q]
   refine ((a6u (g:=fun _=>0) fun k hk=>?_).trans (d3r nt)).symm
   refine (a6u (g:=fun _=>0) fun s _=>?_).trans (d3r n)
   show (rows.getD k []).getD s 0*c9v ((imR nt n k).getD m (List.replicate n 0)) (i - (s:Int))=0
   rw [f8v,if_neg fun z=>hm z.1,d3q,Int.mul_zero]
theorem i4i{ts:List Str}{rows:List (List Int)}{nt n:Nat}(hr:rows.length=nt)(hn:∀ r∈rows,r.length=n)(es:List Sq)(g:Str->Int)(ob:List Str)(z:Str){t:Nat}(ht:t < n):(flw es g n (fdF ts rows n) ob z).getD t 0=d2g nt fun k=>d2g (t+1) fun s=>(rows.getD k []).getD s 0*(flw es g n (fdF ts (imR nt n k) n) ob z).getD (t - s) 0:=by
 have h:=(Sup.flw es g ob (Sup.fed (ts:=ts) hr hn) z).2.2 (t:Int) (by omega)
 rw [d7s,h6h] at h
 rw [h]
 refine a6u fun k _=>?_
 rw [g7t (m:=t+1) (fun s hs=>by rw [d4y (by omega),Int.mul_zero]) n (by omega)]
 refine a6u fun s hs=>?_
 rw [show (t:Int) - (s:Int)=((t - s:Nat):Int) by omega,d7s]
theorem i4j{ts:List Str}{rows:List (List Int)}{nt n:Nat}(hr:rows.length=nt)(hn:∀ r∈rows,r.length=n)(es:List Sq)(g:Str->Int)(ob:List Str)(z:Str):(flw es g n (fdF ts rows n) ob z).length=n:=(Sup.flw es g ob (Sup.fed (ts:=ts) hr hn) z).1
theorem h6i{a b:List Int}{m k:Nat}(ha:∀ y∈a,intBits y<=m)(hb:∀ y∈b,intBits y<=k)(h1:1<=m)(h2:1<=k):∀ y∈f2w a b,intBits y<=max m k+1:=by
 intro y hy
 unfold f2w at hy
 obtain⟨i,_,rfl⟩:=List.mem_map.mp hy
 have g:∀ {c:List Int} {r:Nat},1<=r->(∀ y∈c,intBits y<=r)->intBits (c.getD i 0)<=r:=fun {c r} hr h=>by
  rw [List.getD_eq_getElem?_getD]
  cases e:c[i]? with
  | none=>exact Nat.le_trans (by decide:intBits 0<=1) hr
  | some y=>exact h y (List.mem_of_getElem? e)
 exact intBits_add_le (g h1 ha) (g h2 hb)
theorem h6j(ds:List Dt)(b:List Int):blk ds [] b=run ds b:=by
 have:=f8k ds [] b
 rw [g5q,List.nil_append,List.nil_append] at this
 exact this.symm
theorem h6k{ls:List Ld}{F:Str->List Int}{g:Str->Int}{B:Int}{n Bf Bb:Nat}(ok:∀ l∈ls,l.2.length<=2/\∀ d∈l.2,d.ok)(hF:∀ l∈ls,∀ y∈F l.1,intBits y<=Bf)(h1:1<=Bf)(hB:intBits B<=Bb):∀ y∈c7l ls F g B n,intBits y<=Bf+400+Bb+ls.length:=by
 unfold c7l
 have key:∀ (ls':List Ld) (a:List Int) (m:Nat),(∀ l∈ls',l∈ls)->Bf+400+Bb<=m->(∀ y∈a,intBits y<=m)->∀ y∈ls'.foldl (fun acc l=>f2w acc ((blk l.2 [] (F l.1)).map (· * B.fdiv (a6k (g l.1) l.2)))) a,intBits y<=m+ls'.length:=by
  intro ls'
  induction ls' with
  | nil=>exact fun a m _ _ ha=>ha
  | cons l ls' ih =>
   intro a m sub hm ha
   have hl:=sub l List.mem_cons_self
   have:=ih (f2w a ((blk l.2 [] (F l.1)).map (· * B.fdiv (a6k (g l.1) l.2)))) (m+1) (fun x hx=>sub x (List.mem_cons_of_mem _ hx)) (by omega) fun y hy=>by
    refine Nat.le_trans (h6i (k:=m) ha (fun y hy=>?_) (by omega) (by omega) y hy) (by omega)
    obtain⟨x,hx,rfl⟩:=List.mem_map.mp hy
    rw [h6j] at hx
    have b1:=d3o h1 (ok l hl).2 (hF l hl) x hx
    have b2:=(ok l hl).1
    have:=intBits_mul_le b1 (intBits_fdiv_le (y:=a6k (g l.1) l.2) hB)
    omega
   intro y hy
   have:=this y hy
   rw [List.length_cons]
   omega
 refine key ls _ _ (fun l hl=>hl) (Nat.le_refl _) fun y hy=>?_
 rw [(List.mem_replicate.mp hy).2]
 exact Nat.le_trans (by decide:intBits 0<=1) (by omega)
theorem ChS.other{A:Ad}{H H':Hp}{o Z dx pl sl:Addr}{ds:List Dt}{xs:List Int}(h:ChS A H o ds xs)(hZ:H Z=some (.ins A.a6t dx (chF pl sl)))(ne:o≠Z)(B:a2j Z H H'):ChS A H' o ds xs:=by
 obtain⟨dx',pl',sl',os,sts,h1,h2,h3,h4,h5⟩:=h
 have lk:Lk H Z:=Lk.ins hZ (.inr (.inr ⟨_,_,rfl⟩))
 exact⟨dx',pl',sl',os,sts,B _ _ ne h1,B _ _ (fun e=>by rw [e,hZ] at h2; cases h2) h2,B _ _ (fun e=>by rw [e,hZ] at h3; cases h3) h3,h4.b4y lk B,h5.b4y lk B⟩
theorem ChS.but{A:Ad}{o:Addr}{ds:List Dt}{xs:List Int}:∀ (cs:List Addr) {H H':Hp},ChS A H o ds xs->o∉cs->ChI A H cs->Out cs H H'->ChS A H' o ds xs
 | [],_,_,h,_,_,K=>h.same fun z u e=>K z u (fun m=>by cases m) e
 | c :: cs,H,H',h,n,hc,K=>by
  by_cases k:c∈cs
  ·exact ChS.but cs h (fun m=>n (List.mem_cons_of_mem _ m)) (fun c hm=>hc c (List.mem_cons_of_mem _ hm)) fun z u hz e=>K z u (fun m=>(List.mem_cons.mp m).elim (fun q=>hz (q▸k)) hz) e
  ·obtain⟨dx,pl,sl,hc0⟩:=hc c List.mem_cons_self
   have ne:o≠c:=fun e=>n (e▸List.mem_cons_self)
   have b1:a2j c H (fun z=>if z=c then H' z else H z):=fun z u hz e=>by
    show (if z=c then H' z else H z)=some u
    rw [if_neg hz]; exact e
   refine ChS.but cs (h.other hc0 ne b1) (fun m=>n (List.mem_cons_of_mem _ m)) (fun c' hm=>?_) fun z u hz e=>?_
   ·show ∃ dx pl sl,(if c'=c then H' c' else H c')=_
    rw [if_neg (fun q:c'=c=>k (by rw [<- q]; exact hm))]
    exact hc c' (List.mem_cons_of_mem _ hm)
   ·have e':(if z=c then H' z else H z)=some u:=e
    by_cases q:z=c
    ·rw [if_pos q] at e'
     exact e'
    ·rw [if_neg q] at e'
     exact K z u (fun m=>(List.mem_cons.mp m).elim q hz) e'
theorem Lds.chi{A:Ad}{H:Hp}{us:List V}{cs:List Addr}{ls:List Ld}(h:Lds A H us cs ls):ChI A H cs:=fun c hc=>by
 obtain⟨i,hi⟩:=List.getElem?_of_mem hc
 have li:=(List.getElem?_eq_some_iff.mp hi).1
 obtain⟨l1,l2,f⟩:=h
 obtain⟨q,_,_,dx,pl,sl,os,sts,h1,_⟩:=f i us[i] c ls[i] (List.getElem?_eq_getElem _) hi (List.getElem?_eq_getElem _)
 exact⟨dx,pl,sl,h1⟩
theorem ChI.no{A:Ad}{H:Hp}{cs:List Addr}{z:Addr}{u:HO}(h:ChI A H cs)(hz:H z=some u)(n:∀ dx pl sl,u≠.ins A.a6t dx (chF pl sl)):z∉cs:=fun m=>by
 obtain⟨dx,pl,sl,e⟩:=h z m
 rw [hz] at e
 exact n _ _ _ (Option.some.inj e)
theorem Lds.but{A:Ad}{H H':Hp}{us:List V}{cs cs':List Addr}{ls:List Ld}(h:Lds A H us cs ls)(hc:ChI A H cs')(dj:∀ c,c∈cs->c∉cs')(K:Out cs' H H'):Lds A H' us cs ls:=⟨h.1,h.2.1,fun i u c l e1 e2 e3=>(h.2.2 i u c l e1 e2 e3).elim fun q z=>⟨q,z.1,K _ _ (hc.no z.2.1 fun _ _ _ e=>by cases e) z.2.1,z.2.2.but cs' (dj c (List.mem_of_getElem? e2)) hc K⟩⟩
theorem g2i(ls:List Ld)(l:Ld)(F:Str->List Int)(g:Str->Int)(B:Int)(n:Nat):c7l (ls++[l]) F g B n=f2w (c7l ls F g B n) ((blk l.2 [] (F l.1)).map (· * B.fdiv (a6k (g l.1) l.2))):=by
 unfold c7l
 rw [List.foldl_append]
 rfl
theorem f8w{F:Str->List Int}{g:Str->Int}{B:Int}{n:Nat}:∀ (k:Nat) (ls:List Ld),ls.length=k->(∀ l∈ls,(F l.1).length=n)->(c7l ls F g B n).length=n
 | 0,ls,hl,_=>by
  obtain rfl:=List.length_eq_zero_iff.mp hl
  exact List.length_replicate
 | k+1,ls,hl,h=>by
  obtain⟨cs,c,rfl⟩:∃ cs c,ls=cs++[c]:=by
   rcases List.eq_nil_or_concat ls with e | ⟨cs,c,e⟩
   ·rw [e] at hl; cases hl
   ·exact⟨cs,c,by rw [e,List.concat_eq_append]⟩
  rw [List.length_append,List.length_singleton] at hl
  rw [g2i,c6q,f8w k cs (by omega) fun l hl=>h l (List.mem_append_left _ hl),List.length_map,f8j,h c (List.mem_append_right _ List.mem_cons_self),Nat.max_self]
theorem f4y:∀ {ds:List Dt} {b:Int},(∀ d∈ds,d.ok)->1<=b->1<=a6k b ds
 | [],b,_,h=>h
 | d :: ds,b,ok,h=>by
  have p:1<=a7r d:=by
   have dn:∀ y:Rat,1<=(y.den:Int):=fun y=>by have:=y.den_pos; omega
   cases d with
   | gain y=>exact dn y
   | echo y n t=>exact Int.pow_pos (dn y)
   | back y n=>exact dn y
   | _=>show (1:Int)<=1; decide
  exact f4y (ds:=ds) (b:=b*a7r d) (fun d hd=>ok d (List.mem_cons_of_mem _ hd)) (Int.mul_pos (by omega) (by omega))
theorem i4k (T : Tx K mg A) : a1q P A.wd K mg base CX0 4 A.a5s A.a4t ["self", "bus", "flows", "length"] (h4w A) := by
 have f2g:a1q P A.wd K mg base CX0 3 _ _ _ _:=i4a T
 have g6c:a1q P A.wd K mg base CX0 2 _ _ _ _:=h9b T
 have b8i:a1q P A.wd K mg base CX0 1 _ _ _ _:=f7y T
 have a3m:=T.a3m
 have a0u:=T.a0u
 have a0z:=T.a0z
 have a2g:=T.a2g
 have a1m:=T.a1m
 have a1l:=T.a1l
 have a4o:=T.a4o
 have a1z:=T.a1z
 have a1p:=T.a1p
 refine T.b1r.ok a3o (fun vs H Q E h=>?_) (fun cdv A' outer s H vs Q E hr h=>?_)
 ·obtain⟨_,_,_,_,rfl,_⟩:=h3k (by unfold h4w at h; exact h)
  rfl
 ·obtain⟨o,b,d,n,rfl,⟨dx,t,bo,L,B,S,kl,kb,kf,q,us,cs,ls,g,F,bt,m,em,ho,hL,hB,hd,vb,vl,hq,LD,cnd,m1,bb,hl,fin⟩⟩:=h3k (by unfold h4w at h; exact h)
  subst em
  have hu:=hr.units
  have hs:sizeLine=16777216:=sizeLine_eq
  have d7l:a2p 3 _:=hr.mono (by decide)
  have g2j:a2p 2 _:=hr.mono (by decide)
  have b4r:a2p 1 _:=hr.mono (by decide)
  unfold enF at ho
  refine⟨_,(a0h (a0s (i:=4) a3o.nd rfl (Or.inl rfl) (a7g (hu1 hu) (a0y (pvF 0) rfl) (pvF 1) (fun _ _=>rfl)))
   (a0h (a0s (i:=5) a3o.nd rfl (Or.inl rfl) (a0w a3w (a3y (a0g a0k a0i)) (pvF 3)))
   (a0h (a3n PassesOwn.never rfl (a2m (a7g (hu1 hu) (a0y (pvF 0) rfl) (pvF 1) (fun _ _=>rfl))) (h2r (n:=2) rfl (d2s (a2o (i:=6) a3o.nd rfl (Or.inl rfl)) (d2s (a2o (i:=7) a3o.nd rfl (Or.inl rfl)) g6y)))
   (a0h (a0s (i:=8) a3o.nd rfl (Or.inl rfl) (a6l (pvF 7) T.a4o T.b8n f2g d7l T.f0t .nil a1j (a0g (a1t a5m (a7g (hu1 hu) (pvF 2) (pvF 6) (fun _ _=>rfl)) a0k (fun _ _=>rfl)) (a0g (a1t a5m (a7g (hu1 hu) (pvF 2) (pvF 6) (fun _ _=>rfl)) a0k (fun _ _=>rfl)) a0i))))
   (a0j (a0s (i:=5) a3o.nd rfl (Or.inl rfl) (a0v b8i b4r (by rfl) T.c9s T.a9s.kp T.c9r .nil a1j (a0g (pvF 5) (a0g (a0v g6c g2j (by rfl) T.g4m T.c0u.kp T.g4l .nil a1j (a0g (pvF 8) (a0g (pvF 4) a0i))) a0i)))))))
   (a0j (a1h (b3w (a0g (pvF 5) (a0g (pvF 4) a0i)))))))),?_⟩
  walk_at "rd*"
  intro a0 H1 n1 S1 h1
  walk_at "rd*"
  refine⟨by omega,by omega,by omega,fun a1 H2 n2 S2 h2=>?_⟩
  rw [Int.toNat_natCast,f5q] at h2
  have S02:=S1.trans S2
  have ho2:=S02 _ _ ho
  have hL2:=S02 _ _ hL
  have hd2:=S02 _ _ hd
  have hq2:=S02 _ _ hq
  have LD2:=LD.same S02
  clear h1 ho hL hB hd hq
  walk_at "rd*"
  refine⟨⟨_,SqL.of hq2⟩,?_⟩
  have ci:=LD2.chi
  obtain⟨Pv,pin,pout⟩:=b7u (fun i σ' H'=>∃ (a:Addr) (v6 v7 v8:Option V),σ' = [some (.ref o),some (.str b),some (.ref d),some (.int (m:Int)),some (.int bt),some (.ref a),v6,v7,v8]/\Out (cs.take i) H2 H'/\(∀ z,H' z=none->H z=none)/\H a=none/\H' a=some (.lst ((c7l (ls.take i) F g bt m).map V.int)))
  have nq:q∉cs:=ci.no hq2 fun _ _ _ e=>by cases e
  have ul:=LD2.1
  have cl:=LD2.2.1
  refine a4l (xs:=us) Pv (pin _ _ _ ⟨a1,_,_,_,rfl,(fun z u _ e=>e),(fun z e=>S02.free e),S1.free n2,h2⟩) ?_ ?_ ?_
  ·intro i σ H3 hi hp
   obtain⟨a,v6,v7,v8,rfl,K3,_⟩:=pout _ _ _ hp
   exact SqL.of (K3 _ _ (fun k=>nq (List.mem_of_mem_take k)) hq2)
  ·intro i v σ H3 hv hp
   obtain⟨a,v6,v7,v8,rfl,K3,N3,na,ha⟩:=pout _ _ _ hp
   have hi:=(List.getElem?_eq_some_iff.mp hv).1
   obtain⟨c,hc⟩:∃ c,cs[i]? = some c:=⟨_,List.getElem?_eq_getElem (by omega)⟩
   obtain⟨l,hli⟩:∃ l,ls[i]? = some l:=⟨_,List.getElem?_eq_getElem (by omega)⟩
   obtain⟨pq,rfl,hpq,hch⟩:=LD2.2.2 i v c l hv hc hli
   have ml:=List.mem_of_getElem? hli
   obtain⟨l2,okl,fl,fb,g1,gb,pr,lo,vf,hpr,hlo⟩:=hl l ml
   have nt:∀ {z:Addr} {u:HO},H2 z=some u->(∀ dx pl sl,u≠.ins A.a6t dx (chF pl sl))->H3 z=some u:=fun e n=>K3 _ _ (fun k=>ci.no e n (List.mem_of_mem_take k)) e
   have hpq3:=nt hpq fun _ _ _ e=>by cases e
   have hd3:=nt hd2 fun _ _ _ e=>by cases e
   have hpr3:=nt (S02 _ _ hpr) fun _ _ _ e=>by cases e
   have hlo3:=nt (S02 _ _ hlo) fun _ _ _ e=>by cases e
   have nc:c∉cs.take i:=fun k=>by
    obtain⟨j,hj,ej⟩:=List.mem_take_iff_getElem.mp k
    obtain⟨hc1,hc2⟩:=List.getElem?_eq_some_iff.mp hc
    exact List.pairwise_iff_getElem.mp cnd j i (by omega) hc1 (by omega) (by rw [ej,hc2])
   have j5i:=hch.but (cs.take i) nc (fun c hc=>ci c (List.mem_of_mem_take hc)) K3
   obtain⟨cx,pl,sl,os,sts,hc3,_⟩:=id j5i
   unfold chF at hc3
   clear hv hp hpq hd2 hpr hlo ho2 hL2 hq2 h2
   walk_at "rd*"
   refine⟨l.2,[],j5i,F l.1,rfl,by omega,okl,by decide,by omega,Nat.le_trans gb (by decide),fun y hy=>Nat.le_trans (fb y hy) (by decide),fun rr lo2 H4 B4 nrr nlo hrr hlo4 C4=>?_⟩
   have gp:=f4y okl g1
   have gbb:=c6r okl gb
   have bl2:(blk l.2 [] (F l.1)).length=m:=by rw [f8j,fl]
   refine⟨lo2,_,_,hrr,hlo4,by omega,by omega,fun y hy=>?_,by omega,?_⟩
   ·rw [h6j] at hy
    have:=d3o (by decide:1<=80000) okl fb y hy
    omega
   rintro _ H5 ⟨a5,rfl,n5,S5,h5⟩
   have nca:a≠c:=fun k=>by
    obtain⟨_,_,_,e⟩:=LD.chi c (List.mem_of_getElem? hc)
    rw [<- k,na] at e
    cases e
   have ha5:=S5 _ _ (B4 _ _ nca ha)
   clear hc3 hpq3 hd3 hpr3 hlo3 ha hrr hlo4
   walk_at "rd*"
   refine⟨_,rfl,_,rfl,by rw [f8w _ _ rfl fun l hl'=>(hl l (List.mem_of_mem_take hl')).2.2.1]; omega,by rw [List.length_map]; omega,?_⟩
   rintro _ H6 ⟨a6,rfl,n6,S6,h6⟩
   have et:ls.take (i+1)=ls.take i++[l]:=by rw [List.take_add_one,hli]; rfl
   have ec:cs.take (i+1)=cs.take i++[c]:=by rw [List.take_add_one,hc]; rfl
   have mc:∀ {z:Addr},z∉cs.take (i+1)->z∉cs.take i/\z≠c:=fun h=>by
    rw [ec] at h
    exact⟨fun k=>h (List.mem_append_left _ k),fun k=>h (List.mem_append_right _ (by rw [k]; exact List.mem_cons_self))⟩
   have K6:Out (cs.take (i+1)) H2 H6:=fun z u hz e=>S6 _ _ (S5 _ _ (B4 _ _ (mc hz).2 (K3 _ _ (mc hz).1 e)))
   have N5:∀ z,H5 z=none->H z=none:=fun z e=>N3 z (by
    cases k:H3 z with
    | none=>rfl
    | some u =>
     by_cases zc:z=c
     ·obtain⟨_,_,_,_,_,h,_⟩:=C4
      rw [zc,S5 _ _ h] at e
      cases e
     ·rw [S5 _ _ (B4 _ _ zc k)] at e
      cases e)
   exact pin _ _ _ ⟨a6,_,_,_,rfl,K6,(fun z e=>N5 z (S6.free e)),N5 _ n6,by rw [et,g2i]; exact h6⟩
  ·intro σ H3 hp
   obtain⟨a,v6,v7,v8,rfl,K3,N3,na,ha⟩:=pout _ _ _ hp
   rw [ul,List.take_length] at ha
   rw [ul,<- cl,List.take_length] at K3
   walk_at "rd*"
   intro rr H4 n4 S4 h4
   exact fin rr a H4 (fun z u hz e=>S4 _ _ (K3 _ _ hz (S02 _ _ e))) (N3 _ n4) na h4 (S4 _ _ ha)
theorem c1n.of{A:Ad}{H H':Hp}(S:Same H H'):c1n A H H':=fun z u _ e=>S z u e
theorem c1n.trans{A:Ad}{H H' H'':Hp}(S:c1n A H H')(S':c1n A H' H''):c1n A H H'':=fun z u n e=>S' z u n (S z u n e)
theorem Out.c{A:Ad}{H H':Hp}{cs:List Addr}(K:Out cs H H')(h:ChI A H cs):c1n A H H':=fun z u n e=>K z u (h.no e n) e
theorem noL{A:Ad}{ys:List V}:NoC A (.lst ys):=fun _ _ _ e=>by cases e
theorem noT{A:Ad}{ys:List V}:NoC A (.tup ys):=fun _ _ _ e=>by cases e
theorem noD{A:Ad}{kvs:List (Key×V)}:NoC A (.dK kvs):=fun _ _ _ e=>by cases e
theorem noE{A:Ad}{C dx:Addr}{fs:List (Str×V)}(h:fs.length≠2):NoC A (.ins C dx fs):=fun _ _ _ e=>by
 injection e with _ _ e
 rw [e] at h
 exact h rfl
theorem Flo.d5h{A:Ad}{R:Addr->Prop}{H H':Hp}{kf:List (Key×V)}{zs:List Str}{g:Str->Int}{F:Str->List Int}(h:Flo R H kf zs g F)(S:c1n A H H'):Flo R H' kf zs g F:=fun z hz=>(h z hz).imp fun _ h=>h.imp fun _ h=>⟨h.1,S _ _ noT h.2.1,S _ _ noL h.2.2.1,h.2.2.2⟩
theorem Flo.mono{R R':Addr->Prop}{H:Hp}{kf:List (Key×V)}{zs:List Str}{g:Str->Int}{F:Str->List Int}(h:Flo R H kf zs g F)(m:∀ lo,R lo->R' lo):Flo R' H kf zs g F:=fun z hz=>(h z hz).imp fun _ h=>h.imp fun _ h=>⟨h.1,h.2.1,h.2.2.1,m _ h.2.2.2⟩
theorem Flo.dict{R:Addr->Prop}{H H':Hp}{kf k2:List (Key×V)}{zs:List Str}{g:Str->Int}{F:Str->List Int}{D:Addr}(h:Flo R H kf zs g F)(hD:H D=some (.dK k2))(B:a2j D H H'):Flo R H' kf zs g F:=fun z hz=>(h z hz).imp fun _ h=>h.imp fun _ h=>⟨h.1,B _ _ (fun k=>by have y:=h.2.1; rw [k,hD] at y; cases y) h.2.1,B _ _ (fun k=>by have y:=h.2.2.1; rw [k,hD] at y; cases y) h.2.2.1,h.2.2.2⟩
theorem g7v(es:List Sq):∀ (k:Nat) (l:List Str),l.length=k->∀ z,z∉l->c7o es l z=1
 | 0,l,hl,z,_=>by
  obtain rfl:=List.length_eq_zero_iff.mp hl
  rfl
 | k+1,l,hl,z,hz=>by
  obtain⟨cs,c,rfl⟩:∃ cs c,l=cs++[c]:=by
   rcases List.eq_nil_or_concat l with e | ⟨cs,c,e⟩
   ·rw [e] at hl; cases hl
   ·exact⟨cs,c,by rw [e,List.concat_eq_append]⟩
  rw [List.length_append,List.length_singleton] at hl
  rw [f1y]
  unfold i8r
  rw [if_neg (fun e=>hz (List.mem_append_right _ (by rw [e]; exact List.mem_cons_self)))]
  exact g7v es k cs (by omega) z fun m=>hz (List.mem_append_left _ m)
theorem i0w{es:List Sq}{b:Str}(ok:∀ e∈es,h4t e){l:Ld}(hl:l∈b7g es b):l.2.length<=2/\∀ d∈l.2,d.ok:=by
 obtain⟨e,he,rfl⟩:=List.mem_map.mp hl
 have:=ok e (List.mem_filter.mp he).1
 exact⟨this.1,fun d hd=>(this.2 d hd).1⟩
theorem g7w(es:List Sq)(g:Str->Int)(n:Nat)(f:Str->List Int)(l:List Str)(b:Str):flw es g n f (l++[b])=flS es g n (flw es g n f l) b:=by
 unfold flw
 rw [List.foldl_append]
 rfl
theorem h6l{es:List Sq}{ts ob:List Str}{f:Str->List Int}{g:Str->Int}{n:Nat}(ok:∀ e∈es,h4t e)(e6:es.length<=6)(gb:∀ z,intBits (g z)<=6400)(src:∀ (i:Nat) b,ob[i]? = some b->∀ l∈b7g es b,l.1∈ts++ob.take i)(hf:∀ z∈ts,(f z).length=n/\∀ y∈f z,intBits y<=50):∀ i,i<=ob.length->∀ z∈ts++ob.take i,(flw es g n f (ob.take i) z).length=n/\∀ y∈flw es g n f (ob.take i) z,intBits y<=50+7000*i
 | 0,_,z,hz=>by
  rw [List.take_zero,List.append_nil] at hz
  exact hf z hz
 | i+1,hi,z,hz=>by
  have ih:=h6l ok e6 gb src hf i (by omega)
  obtain⟨b,hb⟩:∃ b,ob[i]? = some b:=⟨_,List.getElem?_eq_getElem (by omega)⟩
  have et:ob.take (i+1)=ob.take i++[b]:=by rw [List.take_add_one,hb]; rfl
  rw [et,g7w]
  unfold flS
  by_cases k:z=b
  ·rw [if_pos k]
   refine⟨f8w _ _ rfl fun l hl=>(ih _ (src i b hb l hl)).1,fun y hy=>?_⟩
   have:=h6k (fun l hl=>i0w ok hl) (fun l hl=>(ih _ (src i b hb l hl)).2) (by omega) (gb b) y hy
   have l6:(b7g es b).length<=es.length:=by
    unfold b7g
    rw [List.length_map]
    exact List.length_filter_le _ _
   omega
  ·rw [if_neg k]
   have m:z∈ts++ob.take i:=by
    rw [et,<- List.append_assoc] at hz
    exact (List.mem_append.mp hz).elim id fun m=>absurd (List.mem_singleton.mp m) k
   exact⟨(ih z m).1,fun y hy=>Nat.le_trans ((ih z m).2 y hy) (by omega)⟩
theorem i4l (T : Tx K mg A) : a1q P A.wd K mg base CX0 5 A.b0s A.a8j ["self", "blocks"] (h4x A) := by
 have d0m:a1q P A.wd K mg base CX0 3 _ _ _ _:=i9l T
 have d7m:a1q P A.wd K mg base CX0 4 _ _ _ _:=i4k T
 have a3m:=T.a3m
 have a0u:=T.a0u
 have a0z:=T.a0z
 have a2g:=T.a2g
 have a1m:=T.a1m
 have a1l:=T.a1l
 refine T.b8w.ok a7w (fun vs H Q E h=>?_) (fun cdv A' outer s H vs Q E hr h=>?_)
 ·obtain⟨_,_,rfl,_⟩:=d6w (by unfold h4x at h; exact h)
  rfl
 ·obtain⟨o,d,rfl,⟨ts,ob,es,kvs,f,n,hE,hd,kl,t20,tne,sk,n9,hF,ok,e6,o8,ond,dj,src,q⟩⟩:=d6w (by unfold h4x at h; exact h)
  have hu:=hr.units
  have hs:sizeLine=16777216:=sizeLine_eq
  have c7p:a2p 3 _:=hr.mono (by decide)
  have d5i:a2p 4 _:=hr.mono (by decide)
  have hf:∀ z∈ts,(f z).length=n/\∀ y∈f z,intBits y<=50:=fun z hz=>by
   obtain⟨_,_,_,bx,nx⟩:=hF z hz
   exact⟨nx,fun y hy=>Nat.le_trans (intBits_le_iff.mpr (by have:=bx.2 y hy; omega:y.natAbs < 2 ^ 50)) (Nat.le_refl _)⟩
  obtain⟨dx,t,b,L,B,S,kb1,kb2,cc,ho,ht,hb,hL,hB,hS,hbo,hle⟩:=id hE
  unfold enF at ho
  refine⟨_,(a0h (a6m (a6l (pvF 0) T.a3m T.a8u d0m c7p T.c9t .nil a1j (a0g (pvF 1) a0i)))
   (a0h (a0s (i:=2) a7w.nd rfl (Or.inl rfl) (f5g (a1r (c2z hu) (a0y (pvF 0) rfl) (a3y a0i) (a2s _)) (a1g a2k (by rfl) T.b6z boot_len (a0g (a7g (hu1 hu) (pvF 1) (a1t a5m (a0y (pvF 0) rfl) a0k (fun _ _=>rfl)) (fun _ _=>rfl)) a0i)) a0k))
   (a0h (a0s (i:=3) a7w.nd rfl (Or.inl rfl) d0p)
   (b1i (a3n PassesOwn.never rfl (a2m (a0y (pvF 0) rfl)) (a2o (i:=4) a7w.nd rfl (Or.inl rfl))
   (a0j (c4q (hu1 hu) (pvF 3) (pvF 4) (b3w (a0g (a2r a9y (by rfl) T.c9u boot_list (a0g (a7g (hu1 hu) (pvF 1) (pvF 4) (fun _ _=>rfl)) a0i)) (a0g a0k a0i))) rfl)))
   (b1i (a3n PassesOwn.never rfl (a2m (a0y (pvF 0) rfl)) (a2o (i:=5) a7w.nd rfl (Or.inl rfl))
   (a0j (c4q (hu1 hu) (pvF 3) (pvF 5) (a6l (pvF 0) T.a3m T.b6t d7m d5i T.d6z .nil a1j (a0g (pvF 5) (a0g (pvF 3) (a0g (pvF 2) a0i)))) rfl)))
   (a0h (a0s (i:=6) a7w.nd rfl (Or.inl rfl) d0p)
   (a0h (h8e PassesOwn.never rfl (a0y (pvF 0) rfl))
   (a0j (a1h (b3w (a0g (pvF 3) (a0g (pvF 6) a0i)))))))))))),?_⟩
  walk_at "rd*"
  refine⟨ts,ob,es,hE,_,rfl,kl,t20,_,_,hF,fun H1 S1=>?_⟩
  obtain⟨t0,ts',ets⟩:∃ t0 ts',ts=t0 :: ts':=by
   cases ts with
   | nil=>exact absurd rfl tne
   | cons a b=>exact⟨a,b,rfl⟩
  obtain⟨l0,v0,hl0,b0,n0⟩:=hF t0 (by rw [ets]; exact List.mem_cons_self)
  have ho1:=S1 _ _ ho
  have ht1:H1 t=some (.lst (V.str t0 :: ts'.map V.str)):=by rw [S1 _ _ ht,ets]; rfl
  have hl1:=S1 _ _ hl0
  have hd1:=S1 _ _ hd
  have nfo:∀ {H':Hp} {z:Addr} {u:HO},H' o=some u->H' z=none->o≠z:=fun e n k=>by rw [k,n] at e; cases e
  clear ho
  walk_at "rd*"
  intro e1 H2 n2 S2 h2
  have ho2:=S2 _ _ ho1
  have ht2:=S2 _ _ ht1
  have hl2:=S2 _ _ hl1
  have hd2:=S2 _ _ hd1
  clear ho1 ht1 hl1 hd1
  walk_at "rd*"
  refine f5s (ns:=ts) (ms:=[]) (SqL.of (by rw [ht2,ets]; rfl)) (SqL.of h2) sk (fun s h=>by cases h) ?_
  rw [decide_eq_false tne,Bool.not_false]
  walk_at "rd*"
  intro fl H3 n3 S3 h3
  rw [List.length_map,n0]
  have S03:=S1.trans (S2.trans S3)
  have ho3:=S3 _ _ ho2
  have ht3:=S03 _ _ ht
  have hb3:=S03 _ _ hb
  have hL3:=S03 _ _ hL
  have hB3:=S03 _ _ hB
  have hS3:=S03 _ _ hS
  have hd3:=S3 _ _ hd2
  have ap:∀ {z:Addr} {u:HO},H z=some u->z≠fl:=fun e k=>by rw [k,S1.free (S2.free n3)] at e; cases e
  have ofl:=nfo ho2 n3
  clear ho2 ht2 hl2 hd2 h2
  obtain⟨Mid3,in3,out3⟩:=g6v (fun σ' H'=>∃ (v4:Option V) (kf:List (Key×V)),σ' = [some (.ref o),some (.ref d),some (.int (n:Int)),some (.ref fl),v4,none,none,none,none]/\a2j fl H3 H'/\H' fl=some (.dK kf)/\kf.length<=20/\Flo (FrN A H) H' kf ts (c7o es ob) f)
  try walk_at "rd"
  refine⟨Mid3,?_,?_⟩
  ·walk_at "rd*"
   refine⟨⟨_,SqL.of ht3⟩,?_⟩
   obtain⟨Pv,pin,pout⟩:=b7u (fun i σ' H'=>∃ (v4:Option V) (kf:List (Key×V)),σ' = [some (.ref o),some (.ref d),some (.int (n:Int)),some (.ref fl),v4,none,none,none,none]/\a2j fl H3 H'/\H' fl=some (.dK kf)/\kf.length<=i/\Flo (FrN A H) H' kf (ts.take i) (c7o es ob) f)
   refine a4l (xs:=ts.map V.str) Pv (pin _ _ _ ⟨_,[],rfl,(fun z u _ e=>e),h3,Nat.le_refl _,fun z hz=>by cases hz⟩) ?_ ?_ ?_
   ·intro i σ H4 hi hp
    obtain⟨v4,kf,rfl,B4,_⟩:=pout _ _ _ hp
    exact SqL.of (B4 _ _ (ap ht) ht3)
   ·intro i v σ H4 hv hp
    obtain⟨v4,kf,rfl,B4,h4,kfl,R4⟩:=pout _ _ _ hp
    rw [List.getElem?_map] at hv
    obtain⟨x,hx,rfl⟩:=Option.map_eq_some_iff.mp hv
    have mx:=List.mem_of_getElem? hx
    have hi:=(List.getElem?_eq_some_iff.mp hx).1
    obtain⟨lx,vx,hlx,bx,nx⟩:=hF x mx
    have hd4:=B4 _ _ (ap hd) hd3
    have hx4:=B4 _ _ (ap hlx) (S03 _ _ hlx)
    clear hv hp hd3 ho3 hb3 hL3 hB3 hS3 hd h3
    walk_at "rd*"
    intro la H5 n5 S5 h5
    walk_at "rd*"
    intro pr H6 n6 S6 h6
    have h46:=S6 _ _ (S5 _ _ h4)
    have h56:=S6 _ _ h5
    have b1:c7o es ob x=1:=g7v es _ ob rfl x (dj x mx)
    have R6:Flo (FrN A H) H6 kf (ts.take i) (c7o es ob) f:=R4.d5h (A:=A) (c1n.of (S5.trans S6))
    clear hx4 hd4 h5
    walk_at "rd*"
    refine⟨by omega,fun H7 B7 h7=>pin _ _ _ ⟨_,_,rfl,(fun z u hz e=>B7 _ _ hz (S6 _ _ (S5 _ _ (B4 _ _ hz e)))),h7,Nat.le_trans (a9j _ _ _) (by omega),fun z hz=>?_⟩⟩
    rw [c1o]
    by_cases k:z=x
    ·rw [if_pos (by rw [k]),k,b1]
     exact⟨pr,la,rfl,B7 _ _ (fun e=>by rw [e,h46] at h6; cases h6) h6,B7 _ _ (fun e=>by rw [e,h46] at h56; cases h56) h56,fun u _ e=>by rw [B4 _ _ (ap e) (S03 _ _ e)] at n5; cases n5⟩
    ·rw [if_neg (fun e=>k (by cases e; rfl))]
     rw [List.take_add_one,hx] at hz
     exact R6.dict h46 B7 z ((List.mem_append.mp hz).elim id fun m=>absurd (List.mem_singleton.mp m) k)
   ·intro σ H4 hp
    obtain⟨v4,kf,rfl,B4,h4,kfl,R4⟩:=pout _ _ _ hp
    rw [List.length_map] at kfl R4
    rw [List.take_length] at R4
    exact in3 _ _ ⟨_,kf,rfl,B4,h4,by omega,R4⟩
  intro σ3 H4 hm3
  obtain⟨v4,kf0,rfl,B4,h4,kfl,R4⟩:=out3 _ _ hm3
  clear hm3 in3 out3
  have bk:∀ b'∈ob,∃ q us,b8k kb1 (kT b')=some (.ref q)/\H4 q=some (.lst us)/\Lds A H4 us (cc b') (b7g es b'):=fun b' hb'=>by
   obtain⟨_,q',us,v,hq,hl⟩:=hle.1 b' hb'
   exact⟨q',us,v,B4 _ _ (ap hq) (S03 _ _ hq),(hl.same S03).dict h3 B4⟩
  have ho4:=B4 _ _ ofl ho3
  have hb4:=B4 _ _ (ap hb) hb3
  have hL4:=B4 _ _ (ap hL) hL3
  have hB4:=B4 _ _ (ap hB) hB3
  have hS4:=B4 _ _ (ap hS) hS3
  have f4:∀ {z:Addr} {u:HO},H z=some u->z≠fl:=ap
  clear ho3 ht3 hb3 hL3 hB3 hS3 hd3 h3
  obtain⟨Mid4,in4,out4⟩:=g6v (fun σ' H'=>∃ (v4 v5:Option V) (kf:List (Key×V)),σ' = [some (.ref o),some (.ref d),some (.int (n:Int)),some (.ref fl),v4,v5,none,none,none]/\(∀ z u,z≠fl->NoC A u->H4 z=some u->H' z=some u)/\H' fl=some (.dK kf)/\Flo (FrN A H) H' kf (ts++ob) (c7o es ob) (flw es (c7o es ob) n f ob))
  refine⟨Mid4,?_,?_⟩
  ·walk_at "rd*"
   refine⟨⟨_,SqL.of hb4⟩,?_⟩
   obtain⟨Pv,pin,pout⟩:=b7u (fun i σ' H'=>∃ (v4 v5:Option V) (kf:List (Key×V)),σ' = [some (.ref o),some (.ref d),some (.int (n:Int)),some (.ref fl),v4,v5,none,none,none]/\(∀ z u,z≠fl->NoC A u->H4 z=some u->H' z=some u)/\H' fl=some (.dK kf)/\kf.length<=20+i/\Flo (FrN A H) H' kf (ts++ob.take i) (c7o es ob) (flw es (c7o es ob) n f (ob.take i))/\∀ b'∈ob.drop i,∃ q us,b8k kb1 (kT b')=some (.ref q)/\H' q=some (.lst us)/\Lds A H' us (cc b') (b7g es b'))
   refine a4l (xs:=ob.map V.str) Pv (pin _ _ _ ⟨_,_,kf0,rfl,(fun z u _ _ e=>e),h4,kfl,by rw [List.take_zero,List.append_nil]; exact R4,fun b' hb'=>bk b' (List.mem_of_mem_drop hb')⟩) ?_ ?_ ?_
   ·intro i σ H5 hi hp
    obtain⟨v4,v5,kf,rfl,K5,_⟩:=pout _ _ _ hp
    exact SqL.of (K5 _ _ (f4 hb) noL hb4)
   ·intro i v σ H5 hv hp
    obtain⟨v4,v5,kf,rfl,K5,h5,kf5,R5,L5⟩:=pout _ _ _ hp
    rw [List.getElem?_map] at hv
    obtain⟨x,hx,rfl⟩:=Option.map_eq_some_iff.mp hv
    have hi:=(List.getElem?_eq_some_iff.mp hx).1
    have ho5:=K5 _ _ ofl (noE (by simp)) ho4
    have hL5:=K5 _ _ (f4 hL) noD hL4
    have hB5:=K5 _ _ (f4 hB) noD hB4
    clear hv hp ho4 hb4 hL4 hB4 hS4 h4
    walk_at "rd*"
    have mx:x∈ob:=List.mem_of_getElem? hx
    have dr:ob.drop i=x :: ob.drop (i+1):=by rw [List.drop_eq_getElem_cons hi]; rw [(List.getElem?_eq_some_iff.mp hx).2]
    obtain⟨q',us,vq,hq,hl⟩:=L5 x (by rw [dr]; exact List.mem_cons_self)
    have bo:=f8o ok _ ob rfl
    have c6:100*2 ^ f4r es ob<=100*2 ^ 6:=Nat.mul_le_mul_left _ (Nat.pow_le_pow_right (by decide) (Nat.le_trans (g5y es ond) e6))
    have bb:∀ z,intBits (c7o es ob z)<=6400:=fun z=>Nat.le_trans (bo z).2 c6
    refine⟨dx,t,b,L,B,S,kb1,kb2,kf,q',us,cc x,b7g es x,c7o es ob,flw es (c7o es ob) n f (ob.take i),c7o es ob x,n,rfl,rfl,hL5,hB5,rfl,hbo x (List.mem_append_right _ mx),vq,hq,hl,(hle.1 x mx).1,n9,Nat.le_trans (bb x) (by decide),fun l ml=>?_,fun rr lo H6 K6 nr nl hr6 hl6=>?_⟩
    ·obtain⟨o1,o2⟩:=h6l ok e6 bb src hf i (by omega) l.1 (src i x hx l ml)
     obtain⟨s1,s2⟩:=i0w ok ml
     exact⟨s1,s2,o1,fun y hy=>Nat.le_trans (o2 y hy) (by omega),(bo l.1).1,Nat.le_trans (bb l.1) (by decide),(R5 l.1 (src i x hx l ml)).imp fun _ ⟨_,h1,h2,h3,_⟩=>⟨h1,_,h2,h3⟩⟩
    ·have ci:=hl.chi
     have h6:H6 fl=some (.dK kf):=K6 _ _ (ci.no h5 noD) h5
     have C6:=K6.c ci
     have R6:=R5.d5h C6
     clear ho5 hL5 hB5 h5
     walk_at "rd*"
     refine⟨by omega,fun H7 B7 h7=>pin _ _ _ ⟨_,_,_,rfl,(fun z u hz nu e=>B7 _ _ hz (C6 _ _ nu (K5 _ _ hz nu e))),h7,Nat.le_trans (a9j _ _ _) (by omega),fun z hz=>?_,fun b' hb'=>?_⟩⟩
     ·have et:ob.take (i+1)=ob.take i++[x]:=by rw [List.take_add_one,hx]; rfl
      rw [c1o,et,g7w]
      unfold flS
      by_cases k:z=x
      ·rw [if_pos (by rw [k]),if_pos k,k]
       exact⟨rr,lo,rfl,B7 _ _ (fun e=>by rw [e,h6] at hr6; cases hr6) hr6,B7 _ _ (fun e=>by rw [e,h6] at hl6; cases hl6) hl6,fun u nu e=>by rw [K5 _ _ (f4 e) nu (B4 _ _ (f4 e) (S03 _ _ e))] at nl; cases nl⟩
      ·rw [if_neg (fun e=>k (by cases e; rfl)),if_neg k]
       rw [et,<- List.append_assoc] at hz
       exact R6.dict h6 B7 z ((List.mem_append.mp hz).elim id fun m=>absurd (List.mem_singleton.mp m) k)
     ·have ne:b'≠x:=fun k=>by
       have nd:=ond.sublist (List.drop_sublist i ob)
       rw [dr] at nd
       exact (List.nodup_cons.mp nd).1 (by rw [<- k]; exact hb')
      obtain⟨q2,us2,v2,hq2,hl2⟩:=L5 b' (by rw [dr]; exact List.mem_cons_of_mem _ hb')
      have hq6:=C6 _ _ noL hq2
      exact⟨q2,us2,v2,B7 _ _ (fun e=>by rw [e,h6] at hq6; cases hq6) hq6,(hl2.but ci (fun c c1 c2=>ne (hle.2 b' (List.mem_of_mem_drop hb') x mx c c1 c2)) K6).dict h6 B7⟩
   ·intro σ H5 hp
    obtain⟨v4,v5,kf,rfl,K5,h5,kf5,R5,L5⟩:=pout _ _ _ hp
    rw [List.length_map,List.take_length] at R5
    exact in4 _ _ ⟨_,_,kf,rfl,K5,h5,R5⟩
  intro σ4 H5 hm4
  obtain⟨v4,v5,kf,rfl,K5,h5,R5⟩:=out4 _ _ hm4
  clear hm4 in4 out4
  have ho5:=K5 _ _ ofl (noE (by simp)) ho4
  have hS5:=K5 _ _ (f4 hS) noD hS4
  clear ho4 hb4 hL4 hB4 hS4 h4
  walk_at "rd*"
  intro st H6 n6 S6 h6
  have ho6:=S6 _ _ ho5
  have hS6:=S6 _ _ hS5
  have h56:=S6 _ _ h5
  clear ho5 hS5
  walk_at "rd*"
  intro rr H7 n7 S7 h7
  refine q rr fl st kf H7 ?_ h7 (S7 _ _ h56) (R5.d5h (A:=A) (c1n.of (S6.trans S7)))
  exact fun z u nu e=>S7 _ _ (S6 _ _ (K5 _ _ (f4 e) nu (B4 _ _ (f4 e) (S03 _ _ e))))
theorem h6m (T : Tx K mg A) : a1q P A.wd K mg base CX0 1 A.a7m A.a8o ["_law_script", "_law_k"] (h4y K) := by
 refine T.a5w.ok f2r (fun vs H Q E h=>?_) (fun cdv A' outer s H vs Q E hr h=>?_)
 ·obtain⟨_,_,rfl,_⟩:=d6v (by unfold h4y at h; exact h)
  rfl
 ·obtain⟨a,k,rfl,⟨ns,hS,hk,q⟩⟩:=d6v (by unfold h4y at h; exact h)
  have hu:=hr.units
  refine⟨_,(a0h (a6n (a1r of_lt (pvF 1) (a1g g8j (by rfl) T.b6z boot_len (a0g (pvF 0) a0i)) (a2s _))
   (a0j (a1h (a1t ix_S (pvF 0) (pvF 1) (fun _ _=>rfl))))
   a2h)
   (a0j (a1h a0k))),?_⟩
  walk_at "rd"
  refine⟨_,hS,?_⟩
  rw [List.length_map]
  split
  ·rename_i h
   exact⟨_,hS,hk,h,q⟩
  ·rename_i h
   obtain⟨j,rfl⟩:=Int.eq_ofNat_of_zero_le hk
   rw [List.getD_eq_getElem?_getD,List.getElem?_eq_none (by omega)] at q
   exact q
theorem h9e (T : Tx K mg A) : a1q P A.wd K mg base CX0 1 A.a7n A.a8p ["_law_one", "_law_other"] h4z := by
 refine T.b4j.ok b7m (fun vs H Q E h=>?_) (fun cdv A' outer s H vs Q E hr h=>?_)
 ·obtain⟨_,_,rfl,_⟩:=f2m (by unfold h4z at h; exact h)
  rfl
 ·obtain⟨a,b,rfl,⟨a0,b0,q⟩⟩:=f2m (by unfold h4z at h; exact h)
  have hu:=hr.units
  refine⟨_,(a0h (d2l PassesOwn.never (a1r g0d (pvF 1) a0k (a2s _))
   (a0h (a0s (i:=2) b7m.nd rfl (Or.inl rfl) (a0w b1j (pvF 0) (pvF 1)))
   (a0h (a0s (i:=0) b7m.nd rfl (Or.inl rfl) (pvF 1))
   (a0j (a0s (i:=1) b7m.nd rfl (Or.inl rfl) (pvF 2))))))
   (a0j (a1h (pvF 0)))),?_⟩
  walk_at "rd"
  refine d2m (fun m σ H1=>∃ l r z,σ = [some (.int l),some (.int r),z]/\H1=H/\0<=l/\0<=r/\m=r.toNat/\Int.gcd l r=Int.gcd a b) _
   ⟨_,_,_,rfl,rfl,a0,b0,rfl,rfl⟩ ?_
  rintro m σ H1 ⟨l,r,z,rfl,rfl,hl,hr',rfl,hg⟩
  walk_at "rd"
  split
  ·rename_i h
   have hp:0 < r:=by omega
   have f:=h5b hl hp
   exact⟨by omega,_,(by omega:(l.fmod r).toNat < r.toNat),_,_,_,⟨rfl,rfl,rfl⟩,hr',f.1,rfl,(g7h hl hp).trans hg⟩
  ·rename_i h
   obtain rfl:r=0:=by omega
   rw [<- hg,gcd_zero hl] at q
   exact q
theorem f2h(x:Str):Str.empty++x=x:=c3n (by rw [a3q]; rfl)
theorem i9m (y : Rat) : Str.ofString "gain:" ++ fW y = (Dt.gain y).word := by rw [← i0l, f2h]
theorem i4m (n : Nat) : Str.ofString "delay:" ++ nW n = (Dt.delay n).word := by rw [← h3g, f2h]
theorem i9n (y : Rat) (n t : Nat) : Str.ofString "echo:" ++ fW y ++ Str.ofString ":" ++ nW n ++ Str.ofString ":" ++ nW t = (Dt.echo y n t).word := by rw [← i0m, f2h]
theorem i9o{p q:Int}(h:1<=q)(g:Int.gcd p q=1):∃ y:Rat,y.num=p/\(y.den:Int)=q:=by
 refine⟨⟨p,q.toNat,by omega,?_⟩,rfl,?_⟩
 ·show Nat.gcd p.natAbs q.toNat=1
  rw [show q.toNat=q.natAbs by omega]
  exact g
 ·show ((q.toNat:Nat):Int)=q
  omega
theorem g2k{t b g:Int}(hg:0 < g)(h1:g∣t)(h2:g∣b)(h:(t.natAbs:Int) < b):((t.fdiv g).natAbs:Int) < b.fdiv g:=by
 obtain⟨x,rfl⟩:=h1
 obtain⟨y,rfl⟩:=h2
 rw [Int.mul_fdiv_cancel_left _ (by omega),Int.mul_fdiv_cancel_left _ (by omega)]
 rw [Int.natAbs_mul] at h
 have e:((g.natAbs*x.natAbs:Nat):Int)=g*(x.natAbs:Int):=by rw [Int.natCast_mul]; congr 1; omega
 rw [e] at h
 exact Int.lt_of_mul_lt_mul_left h (by omega)
theorem f2i{a g:Int}(ha:0 < a)(hg:0 < g)(h:g∣a):0 < a.fdiv g:=by
 obtain⟨z,rfl⟩:=h
 rw [Int.mul_fdiv_cancel_left _ (by omega)]
 rcases Int.lt_or_le 0 z with h | h
 ·exact h
 ·exfalso
  have:=Int.mul_nonpos_of_nonneg_of_nonpos (a:=g) (by omega) h
  omega
theorem h6n{t b:Int}(t1:t.natAbs<=1000)(b1:1<=b)(b2:b<=1000):0 < Int.gcd (t.natAbs:Int) b/\CFd t (Int.gcd (t.natAbs:Int) b:Int)/\CFd b (Int.gcd (t.natAbs:Int) b:Int) /\
  ∃ y:Rat,YOk y/\y.num=t.fdiv (Int.gcd (t.natAbs:Int) b:Int)/\(y.den:Int)=b.fdiv (Int.gcd (t.natAbs:Int) b:Int)/\((t.natAbs:Int) < b->(y.num.natAbs:Int) < y.den):=by
 have gp:0 < Int.gcd (t.natAbs:Int) b:=Int.gcd_pos_of_ne_zero_right _ (by omega)
 have gl:(Int.gcd (t.natAbs:Int) b:Int)<=b:=Int.le_of_dvd (by omega) (Int.gcd_dvd_right _ _)
 have gd:(Int.gcd (t.natAbs:Int) b:Int)∣t:=by
  have:=Int.gcd_dvd_left (t.natAbs:Int) b
  exact Int.dvd_natAbs.mp this
 have gd2:(Int.gcd (t.natAbs:Int) b:Int)∣b:=Int.gcd_dvd_right _ _
 have ge:Int.gcd (t.natAbs:Int) b=Int.gcd t b:=by
  have:=h5c t b
  rw [<- this,show ((b.natAbs:Nat):Int)=b by omega]
 have cf:CFd t (Int.gcd (t.natAbs:Int) b:Int):=⟨by omega,Nat.le_trans (intBits_le_64 (by omega) (by omega)) (by decide)⟩
 have q1:=c6n (a:=t) (g:=(Int.gcd (t.natAbs:Int) b:Int)) (by omega) gd
 have q2:=c6n (a:=b) (g:=(Int.gcd (t.natAbs:Int) b:Int)) (by omega) gd2
 have q3:0 < b.fdiv (Int.gcd (t.natAbs:Int) b:Int):=f2i (by omega) (by omega) gd2
 have q4:Int.gcd (t.fdiv (Int.gcd (t.natAbs:Int) b:Int)) (b.fdiv (Int.gcd (t.natAbs:Int) b:Int))=1:=by
  rw [ge]
  have:=h8j (a:=t) (b:=b) (by omega)
  omega
 have d1:t.natAbs / (Int.gcd (t.natAbs:Int) b:Int).natAbs<=t.natAbs:=Nat.div_le_self _ _
 have d2:b.natAbs / (Int.gcd (t.natAbs:Int) b:Int).natAbs<=b.natAbs:=Nat.div_le_self _ _
 obtain⟨y,y1,y2⟩:=i9o (by omega:1<=b.fdiv (Int.gcd (t.natAbs:Int) b:Int)) q4
 refine⟨gp,cf,⟨cf.1,cf.2⟩,y,⟨by rw [y1]; omega,by omega⟩,y1,y2,fun z=>?_⟩
 rw [y1,y2]
 exact g2k (by omega) gd gd2 z
theorem h9f (T : Tx K mg A) : a1q P A.wd K mg base CX0 2 A.b6l A.b6m ["_law_mixed"] g5d := by
 have f8y:a1q P A.wd K mg base CX0 1 _ _ _ _:=h9e T
 refine T.c4g.ok b5h (fun vs H Q E h=>?_) (fun cdv A' outer s H vs Q E hr h=>?_)
 ·obtain⟨_,rfl,_⟩:=i4v (by unfold g5d at h; exact h)
  rfl
 ·obtain⟨M,rfl,k⟩:=i4v (by unfold g5d at h; exact h)
  have hu:=hr.units
  have f3m:a2p 1 _:=hr.mono (by decide)
  have hs:sizeLine=16777216:=sizeLine_eq
  refine⟨_,(a0h (a0s (i:=1) b5h.nd rfl (Or.inl rfl) (a0w a2i a0k (a0w b1j (pvF 0) a0k)))
   (a0h (a0s (i:=2) b5h.nd rfl (Or.inl rfl) (a0w d8l (a0w b1j (a0w a8t (pvF 0) a0k) a0k) a0k))
   (b1i (a6n (a1r (c2y hu) (a0w b1j (a0w a8t (pvF 0) a0k) a0k) a0k (a2s _))
   (a0h (a0s (i:=1) b5h.nd rfl (Or.inl rfl) (a0w a2i a0k (a0w b1j (pvF 0) a0k)))
   (a0j (a0s (i:=2) b5h.nd rfl (Or.inl rfl) (a0w d8l (a0w b1j (a0w a8t (pvF 0) a0k) a0k) a0k))))
   a2h)
   (a0h (a0s (i:=3) b5h.nd rfl (Or.inl rfl) (a0v f8y f3m (by rfl) T.f7g T.b4j.kp T.f6z .nil a1j (a0g (a1g b9w (by rfl) T.g4t boot_abs (a0g (pvF 2) a0i)) (a0g (pvF 1) a0i))))
   (a0j (a1h (a0w a2i (a0w a2i (a2r c3l (by rfl) T.f7j boot_str (a0g (a0w a8t (pvF 2) (pvF 3)) a0i)) a3g) (a2r c3l (by rfl) T.f7j boot_str (a0g (a0w a8t (pvF 1) (pvF 3)) a0i))))))))),?_⟩
  have f1:=c1j M (b:=1000) (by decide)
  have f2:=c1j (M.fdiv 2000) (b:=2001) (by decide)
  have f3:=c1j M (b:=4) (by decide)
  have f4:=c1j (M.fdiv 2000) (b:=9) (by decide)
  walk_at "rd"
  obtain⟨Mid,pin,pout⟩:=g6v (fun σ' H1=>∃ t b:Int,σ' = [some (.int M),some (.int b),some (.int t),none]/\H1=H/\t.natAbs<=1000/\1<=b/\b<=1000)
  refine⟨⟨by decide,by decide⟩,Mid,?_,?_⟩
  ·walk_at "rd"
   refine⟨⟨by decide,by decide⟩,?_⟩
   split
   ·exact⟨⟨by decide,by decide⟩,pin _ _ ⟨_,_,rfl,rfl,by omega,by omega,by omega⟩⟩
   ·exact pin _ _ ⟨_,_,rfl,rfl,by omega,by omega,by omega⟩
  intro σ' H1 hm2
  obtain⟨t,b,rfl,rfl,t1,b1,b2⟩:=pout _ _ hm2
  obtain⟨gp,cf1,cf2,y,oy,y1,y2,yl⟩:=h6n t1 b1 b2
  have q:=k y oy
  have g1:=c7z (intBits_le_iff.mp oy.b.1) (by decide)
  have g2:=c7z (intBits_le_iff.mp oy.b.2) (by decide)
  have a:=c8g (intBits_le_iff.mp oy.b.1) (by decide)
  have c:=c8g (intBits_le_iff.mp oy.b.2) (by decide)
  have e1 : (Str.ofString "/").length = 1 := by decide +kernel
  unfold fW at q
  rw [f2h] at q
  rw [y1] at q a g1
  rw [y2] at q c g2
  walk_at "rd"
  exact⟨by omega,by omega,cf1,by omega,by omega,cf2,by omega,by rw [strLen_append]; omega,q⟩
theorem h9g (T : Tx K mg A) : a1q P A.wd K mg base CX0 3 A.b6n A.b6o ["_law_mixed"] g5e := by
 have h0f:a1q P A.wd K mg base CX0 2 _ _ _ _:=h9f T
 refine T.c4h.ok c4z (fun vs H Q E h=>?_) (fun cdv A' outer s H vs Q E hr h=>?_)
 ·obtain⟨_,rfl,_⟩:=i4v (by unfold g5e at h; exact h)
  rfl
 ·obtain⟨M,rfl,k⟩:=i4v (by unfold g5e at h; exact h)
  have hu:=hr.units
  have g6d:a2p 2 _:=hr.mono (by decide)
  have hs:sizeLine=16777216:=sizeLine_eq
  refine⟨_,(a0h (a0s (i:=1) c4z.nd rfl (Or.inl rfl) (a1t a5m (a3y (a0g a3g (a0g a3g (a0g a3g (a0g a3g a0i))))) (a0w b1j (pvF 0) a0k) (fun _ _=>rfl)))
   (a0h (a0s (i:=2) c4z.nd rfl (Or.inl rfl) (a0v h0f g6d (by rfl) T.g9h T.c4g.kp T.g9g .nil a1j (a0g (a0w a8t (pvF 0) a0k) a0i)))
   (a0h (a0s (i:=3) c4z.nd rfl (Or.inl rfl) (a0w a2i a0k (a0w b1j (a0w a8t (pvF 0) (a0w d8m a0k a0k)) a0k)))
   (a0h (a6n (a1r (c2y hu) (pvF 1) a3g (a2s _))
   (a0j (a1h (a0w a2i a3g (pvF 2))))
   a2h)
   (a0h (a6n (a1r (c2y hu) (pvF 1) a3g (a2s _))
   (a0j (a1h (a0w a2i a3g (a2r c3l (by rfl) T.f7j boot_str (a0g (pvF 3) a0i)))))
   a2h)
   (a0h (a6n (a1r (c2y hu) (pvF 1) a3g (a2s _))
   (a0j (a1h (a0w a2i (a0w a2i (a0w a2i (a0w a2i (a0w a2i a3g (pvF 2)) a3g) (a2r c3l (by rfl) T.f7j boot_str (a0g (pvF 3) a0i))) a3g) (a2r c3l (by rfl) T.f7j boot_str (a0g (a0w b1j (a0w a8t (pvF 0) (a0w d8m a0k a0k)) a0k) a0i)))))
   a2h)
   (a0j (a1h (a0w a2i (a0w a2i (a0w a2i a3g (pvF 2)) a3g) (a2r c3l (by rfl) T.f7j boot_str (a0g (pvF 3) a0i))))))))))),?_⟩
  have f6:=c1j M (b:=4) (by decide)
  have f9:=c1j (M.fdiv 100000000) (b:=6) (by decide)
  have f5:=c1j (M.fdiv 1000000000) (b:=4) (by decide)
  walk_at "rd"
  refine⟨by omega,fun kl H1 n1 S1 h1=>?_⟩
  obtain ⟨ks, ha⟩ : ∃ ks : Str, atI [V.str (Str.ofString "gain"), V.str (Str.ofString "delay"), V.str (Str.ofString "echo"), V.str (Str.ofString "back")] (M.fmod 4) = some (.str ks) := by
   rcases (by omega:M.fmod 4=0\/M.fmod 4=1\/M.fmod 4=2\/M.fmod 4=3) with z | z | z | z <;> rw [z] <;> exact⟨_,rfl⟩
  obtain⟨n,en⟩:∃ n:Nat,1+(M.fdiv 100000000).fmod 6=(n:Int):=⟨(1+(M.fdiv 100000000).fmod 6).toNat,by omega⟩
  walk_at "rd*"
  refine⟨⟨by decide,by decide⟩,fun y oy=>⟨by decide,⟨by decide,by decide⟩,?_⟩⟩
  have fl:=d8q oy.b.1 oy.b.2
  have nl:=d8p (n:=n) (by omega)
  have g0:=c7z (t:=(n:Int)) (n:=20) (by omega) (by decide)
  have c0 : (Str.ofString ":").length = 1 := by decide +kernel
  have c1 : (Str.ofString "gain:").length = 5 := by decide +kernel
  have c2 : (Str.ofString "delay:").length = 6 := by decide +kernel
  have c3 : (Str.ofString "echo:").length = 5 := by decide +kernel
  have c4 : (Str.ofString "back:").length = 5 := by decide +kernel
  unfold nW at nl
  split
  ·refine⟨by omega,?_⟩
   rw [i9m]
   exact k _ _ oy (by simp [Dt.kd]) trivial S1
  split
  ·have v:=i4m n
   unfold nW at v
   refine⟨by omega,by omega,?_⟩
   rw [v]
   exact k (.delay n) _ (show n<=1000 by omega) (by simp [Dt.kd]) trivial S1
  split
  ·obtain⟨t,et⟩:∃ t:Nat,(M.fdiv 1000000000).fmod 4=(t:Int):=⟨((M.fdiv 1000000000).fmod 4).toNat,by omega⟩
   have tl:=d8p (n:=t) (by omega)
   have g2:=c7z (t:=(t:Int)) (n:=20) (by omega) (by decide)
   have v:=i9n y n t
   unfold nW at tl v
   rw [et]
   simp only [strLen_append]
   refine⟨by omega,by omega,by omega,by omega,by omega,by decide,⟨by decide,by decide⟩,by omega,by omega,?_⟩
   rw [v]
   exact k (.echo y n t) _ ⟨oy,by omega,by omega,by omega⟩ (by simp [Dt.kd]) (show t<=4 by omega) S1
  ·have v : Str.ofString "back:" ++ fW y ++ Str.ofString ":" ++ nW n = (Dt.back y n).word := by rw [← i0n, f2h]
   unfold nW at v
   simp only [strLen_append]
   refine⟨by omega,by omega,by omega,by omega,?_⟩
   rw [v]
   exact k (.back y n) _ ⟨oy,by omega,by omega⟩ (by simp [Dt.kd]) trivial S1
theorem h6o{x:Str}(h:d6s x):PyData.strOk x=true:=by
 unfold PyData.strOk
 rw [<- Array.all_toList,List.all_eq_true]
 intro c hc
 have:=h.2.2 c hc
 rw [decide_eq_true_eq]
 omega
theorem j3o{H0 H H1:Hp}(S:Same H0 H)(N:b8p (fun a=>H0 a=none) H H1):Same H0 H1:=fun z u e=>N _ _ (fun n=>by have n:H0 z=none:=n; rw [e] at n; cases n) (S _ _ e)
theorem i3l.no{es:List (Str×Str)}{x y:Str}(r:Str->Nat)(h:∀ e∈es,r e.1 < r e.2)(hxy:r x < r y):¬ Rch es y x:=fun z=>by
 have:=z (fun u=>r y<=r u) (Nat.le_refl _) fun u v hu hv=>Nat.le_trans hu (Nat.le_of_lt (h _ hv))
 omega
theorem h6p (T : Tx K mg A) : a1q P A.wd K mg base CX0 13 A.b2h A.b3p ["_law_script", "_law_names", "_law_tracks"] (f7v A K) := by
 have b4v:a1q P A.wd K mg base CX0 1 _ _ _ _:=h6m T
 have h0g:a1q P A.wd K mg base CX0 3 _ _ _ _:=h9g T
 have g2l:a1q P A.wd K mg base CX0 1 _ _ _ _:=j3k T
 have f8z:a1q P A.wd K mg base CX0 3 _ _ _ _:=i9b T
 have g6e:a1q P A.wd K mg base CX0 3 _ _ _ _:=i9c T
 have g2m:a1q P A.wd K mg base CX0 12 _ _ _ _:=i4e T
 have a1s:=T.a1s
 have a0m:=T.a0m
 have a0o:=T.a0o
 have a0n:=T.a0n
 have a0p:=T.a0p
 refine T.c0v.ok a3h (fun vs H Q E h=>?_) (fun cdv A' outer s H vs Q E hr h=>?_)
 ·obtain⟨_,_,_,rfl,_⟩:=f4h (by unfold f7v at h; exact h)
  rfl
 ·obtain⟨sc,nl,nt,rfl,⟨ns,ts,bu,ent,hS,hbit,hn,⟨nam,nnd,t1,t3,b1,b4⟩,q⟩⟩:=f4h (by unfold f7v at h; exact h)
  subst ent
  have hu:=hr.units
  have hs:sizeLine=16777216:=sizeLine_eq
  have b1m:a2p 1 _:=hr.mono (by decide)
  have g6f:a2p 3 _:=hr.mono (by decide)
  have f9g:a2p 2 _:=hr.mono (by decide)
  have f3n:a2p 3 _:=hr.mono (by decide)
  have g2n:a2p 3 _:=hr.mono (by decide)
  have f9h:a2p 12 _:=hr.mono (by decide)
  refine⟨_,(a0h (a0s (i:=3) a3h.nd rfl (Or.inl rfl) (h2o T.g4c g2l f9g (by rfl) T.h8h T.g1i .nil a1j))
   (b1i (a3n PassesOwn.never rfl (a2m (a5k g0g (pvF 1) b1h (a3t (pvF 2)))) (a2o (i:=4) a3h.nd rfl (Or.inl rfl))
   (a0j (a6m (a6l (pvF 3) T.a1s T.c2u f8z f3n T.f6v .nil a1j (a0g (pvF 4) a0i)))))
   (a0h (a0s (i:=5) a3h.nd rfl (Or.inl rfl) (a5k g0g (pvF 1) (a3t (pvF 2)) b1h))
   (a0h (a0s (i:=6) a3h.nd rfl (Or.inl rfl) (a0w b1j (a0v b4v b1m (by rfl) T.b9k T.a5w.kp T.b9j .nil a1j (a0g (pvF 0) (a0g a0k a0i))) (a1g a2k (by rfl) T.b6z boot_len (a0g (pvF 5) a0i))))
   (b1i (a3n PassesOwn.never rfl (a2m (a0w a2i (a5k g0g (pvF 5) (a3t (pvF 6)) b1h) (a5k g0g (pvF 5) b1h (a3t (pvF 6))))) (a2o (i:=4) a3h.nd rfl (Or.inl rfl))
   (a0j (a6m (a6l (pvF 3) T.a1s T.c8z g6e g2n T.g4n .nil a1j (a0g (pvF 4) a0i)))))
   (b1i (a3n PassesOwn.never rfl (a4r (by rfl) T.b4q (a0g (a0w a2i a0k (a0w b1j (a0w a8t (a0v b4v b1m (by rfl) T.b9k T.a5w.kp T.b9j .nil a1j (a0g (pvF 0) (a0g a0k a0i))) a0k) a0k)) a0i)) (a2o (i:=7) a3h.nd rfl (Or.inl rfl))
   (a0h (a0s (i:=8) a3h.nd rfl (Or.inl rfl) (a0w a2i (a0v b4v b1m (by rfl) T.b9k T.a5w.kp T.b9j .nil a1j (a0g (pvF 0) (a0g (a0w a2i a0k (pvF 7)) a0i))) (a0w a3w a0k (pvF 7))))
   (b1i (a0s (i:=9) a3h.nd rfl (Or.inl rfl) (a0w b1j (a0w a3w (pvF 8) a0k) (a0w a2i (a0w d8m a0k a0k) a0k)))
   (a0h (a0s (i:=10) a3h.nd rfl (Or.inl rfl) (a0w b1j (pvF 9) (a1g a2k (by rfl) T.b6z boot_len (a0g (pvF 5) a0i))))
   (a0h (a0s (i:=11) a3h.nd rfl (Or.inl rfl) (a3y a0i))
   (a0h (a3n PassesOwn.never rfl (a4r (by rfl) T.b4q (a0g (a0w b1j (a0w a8t (pvF 9) a0k) a0k) a0i)) (a2o (i:=12) a3h.nd rfl (Or.inl rfl))
   (a0j (a6m (c3i b7j PySem.F.plainAttrs_list PySem.F.slot_list_append PySem.F.type_list_append b0g (pvF 11) (a0g (a0v h0g g6f (by rfl) T.g9j T.c4h.kp T.g9i .nil a1j (a0g (a0w b1j (a0w a3w (a0w a2i (a0w a3w a0k (pvF 8)) (pvF 12)) a0k) (a0w a2i (a0w d8m a0k a0k) a0k)) a0i)) a0i)))))
   (a0j (a6m (a6l (pvF 3) T.a1s T.c5q g2m f9h T.g1j .nil a1j (a0g (a1t a5m (pvF 1) (a0w b1j (a0w a8t (pvF 9) a0k) (a0w a2i (pvF 2) (pvF 10))) (fun _ _=>rfl)) (a0g (a1t a5m (pvF 5) (pvF 10) (fun _ _=>rfl)) (a0g (pvF 11) a0i))))))))))))
   (a0j (a1h (pvF 3))))))))),?_⟩
  walk_at "rd"
  intro o dx H1 n1 n1' nx S1 hdx ho
  refine⟨dx,ho,fun H2 B2 hP=>?_⟩
  rw [asNew]
  refine⟨rfl,?_⟩
  have S2:Same H H2:=fun z u e=>B2 _ _ (fun ze=>by rw [ze] at e; rw [e] at n1; cases n1) (S1 _ _ e)
  have P2:b9l A H2 (fun a=>H a=none) o ⟨[],[],[],[]⟩:=hP.mono fun z hz _=>S1.free hz
  clear hP hdx ho B2 S1 n1 n1' nx
  walk_at "rd"
  have hn2:=S2 _ _ hn
  obtain⟨Mid1,in1,out1⟩:=g6v (fun σ' H'=>∃ v4:Option V,σ' = [some (.ref sc),some (.ref nl),some (.int (ts.length:Int)),some (.ref o),v4,none,none,none,none,none,none,none,none]/\Same H H'/\b9l A H' (fun a=>H a=none) o ⟨ts,[],[],[]⟩)
  have cs:∀ (xs:List Str) lo hi,f5k (xs.map V.str) lo hi=(f2k xs lo hi).map V.str:=fun xs lo hi=>d7n V.str xs lo hi
  have one:∀ {z:Addr} {H' H'':Hp} {X:Addr->Prop},Same H H'->b8p (fun a=>H a=none/\X a) H' H''->Same H H'':=fun {z H' H'' X} S N=>j3o S fun z u h e=>N z u (fun n=>h n.1) e
  refine⟨Mid1,?_,?_⟩
  ·walk_at "rd*"
   intro l4 H4 n4 S4 h4
   rw [c3k,List.take_left] at h4
   refine⟨⟨_,SqL.of h4⟩,?_⟩
   obtain⟨Pv,pin,pout⟩:=b7u (fun i σ' H'=>∃ v4:Option V,σ' = [some (.ref sc),some (.ref nl),some (.int (ts.length:Int)),some (.ref o),v4,none,none,none,none,none,none,none,none]/\Same H H'/\H' l4=some (.lst (ts.map V.str))/\b9l A H' (fun a=>H a=none/\a≠l4) o ⟨ts.take i,[],[],[]⟩)
   have P4:b9l A H4 (fun a=>H a=none/\a≠l4) o ⟨[],[],[],[]⟩:=(P2.mono fun z hz lv=>⟨hz,fun e=>lv (by rw [e]; exact n4)⟩).same S4
   refine a4l (xs:=ts.map V.str) Pv (pin _ _ _ ⟨_,rfl,S2.trans S4,h4,P4⟩) ?_ ?_ ?_
   ·intro i σ H5 hi hp
    obtain⟨_,rfl,_,h5,_⟩:=pout _ _ _ hp
    exact SqL.of h5
   ·intro i v σ H5 hv hp
    obtain⟨v4,rfl,S5,h5,P5⟩:=pout _ _ _ hp
    rw [List.getElem?_map] at hv
    obtain⟨x,hx,rfl⟩:=Option.map_eq_some_iff.mp hv
    obtain⟨dx3,t0,b0,sd0,ou0,ho3,_⟩:=id P5
    unfold ptF at ho3
    have mx:=List.mem_of_getElem? hx
    have et:ts.take (i+1)=ts.take i++[x]:=by rw [List.take_add_one,hx]; rfl
    have nx:x∉ts.take i:=fun m=>by
     have nd:=(nnd.sublist (List.sublist_append_left ts bu)).sublist (List.take_sublist (i+1) ts)
     rw [et] at nd
     exact (List.nodup_append.mp nd).2.2 x m x List.mem_cons_self rfl
    clear hv hp hn2 h4
    walk_at "rd*"
    refine⟨_,_,P5,nam x (List.mem_append_left _ mx),nx,(fun h=>by cases h),by show (ts.take i).length<=100; rw [List.length_take]; omega,fun H6 S6 P6=>pin _ _ _ ⟨_,rfl,one (z:=o) S5 S6,S6 _ _ (fun n=>absurd rfl n.2) h5,by rw [et]; exact P6⟩⟩
   ·intro σ H5 hp
    obtain⟨v4,rfl,S5,h5,P5⟩:=pout _ _ _ hp
    rw [List.length_map,List.take_length] at P5
    exact in1 _ _ ⟨_,rfl,S5,P5.mono fun z hz _=>hz.1⟩
  intro σ1 H3 hm1
  obtain⟨v4,rfl,S3,P3⟩:=out1 _ _ hm1
  clear hm1 in1 out1 hn2 P2 S2
  have hn3:=S3 _ _ hn
  walk_at "rd*"
  intro l5 H4 n4 S4 h4
  rw [a9k,List.drop_left] at h4
  have S04:=S3.trans S4
  have h4':=h4
  have P4:b9l A H4 (fun a=>H a=none/\a≠l5) o ⟨ts,[],[],[]⟩:=(P3.mono fun z hz lv=>⟨hz,fun e=>lv (by rw [e]; exact n4)⟩).same S4
  clear hn3 P3
  walk_at "rd*"
  refine⟨ns,S04.seq hS,by omega,?_⟩
  have ft:=c1j (ns.getD 1 0) (b:=(bu.length:Int)) (by omega)
  obtain⟨tn,etn⟩:∃ tn:Nat,(ns.getD 1 0).fmod (bu.length:Int)=(tn:Int):=⟨((ns.getD 1 0).fmod (bu.length:Int)).toNat,by omega⟩
  rw [etn]
  have pm:(bu.drop tn++bu.take tn).Perm bu:=List.perm_append_comm.trans (by rw [List.take_append_drop])
  obtain⟨bs,ebs⟩:∃ bs,bu.drop tn++bu.take tn=bs:=⟨_,rfl⟩
  rw [ebs] at pm
  obtain⟨Mid4,in4,out4⟩:=g6v (fun σ' H'=>∃ v4:Option V,σ' = [some (.ref sc),some (.ref nl),some (.int (ts.length:Int)),some (.ref o),v4,some (.ref l5),some (.int (tn:Int)),none,none,none,none,none,none]/\Same H H'/\H' l5=some (.lst (bu.map V.str))/\b9l A H' (fun a=>H a=none/\a≠l5) o ⟨ts,bs,[],[]⟩)
  refine⟨Mid4,?_,?_⟩
  ·walk_at "rd*"
   intro l6 H5 n5 S5 h5
   have h45:=S5 _ _ h4
   clear h4
   walk_at "rd*"
   intro l7 H6 n6 S6 h6
   have h56:=S6 _ _ h5
   have h46:=S6 _ _ h45
   clear h5 h45
   walk_at "rd*"
   refine⟨by have:=List.length_append (as:=bu.drop tn) (bs:=bu.take tn); rw [a9k,c3k]; rw [ebs,pm.length_eq] at this; omega,fun l8 H7 n7 S7 h7=>?_⟩
   rw [<- List.map_append,a9k,c3k,ebs] at h7
   have h47:=S7 _ _ h46
   have S47:=S5.trans (S6.trans S7)
   refine⟨⟨_,SqL.of h7⟩,?_⟩
   obtain⟨Pv,pin,pout⟩:=b7u (fun i σ' H'=>∃ v4:Option V,σ' = [some (.ref sc),some (.ref nl),some (.int (ts.length:Int)),some (.ref o),v4,some (.ref l5),some (.int (tn:Int)),none,none,none,none,none,none]/\Same H H'/\H' l5=some (.lst (bu.map V.str))/\H' l8=some (.lst (bs.map V.str))/\b9l A H' (fun a=>H a=none/\(a≠l5/\a≠l8)) o ⟨ts,bs.take i,[],[]⟩)
   have P7:b9l A H7 (fun a=>H a=none/\(a≠l5/\a≠l8)) o ⟨ts,[],[],[]⟩:=((P4.same (S5.trans S6)).mono fun z hz lv=>⟨hz.1,hz.2,fun e=>lv (by rw [e]; exact n7)⟩).same S7
   clear P4 h46 h47 h56 h6
   refine a4l (xs:=bs.map V.str) Pv (pin _ _ _ ⟨_,rfl,S04.trans S47,S7 _ _ (S6 _ _ (S5 _ _ h4')),h7,P7⟩) ?_ ?_ ?_
   ·intro i σ H8 hi hp
    obtain⟨_,rfl,_,_,h8,_⟩:=pout _ _ _ hp
    exact SqL.of h8
   ·intro i v σ H8 hv hp
    obtain⟨v4,rfl,S8,hl8,h8,P8⟩:=pout _ _ _ hp
    rw [List.getElem?_map] at hv
    obtain⟨x,hx,rfl⟩:=Option.map_eq_some_iff.mp hv
    obtain⟨dx3,t0,b0,sd0,ou0,ho3,_⟩:=id P8
    unfold ptF at ho3
    have mx:x∈bu:=pm.mem_iff.mp (List.mem_of_getElem? hx)
    have et:bs.take (i+1)=bs.take i++[x]:=by rw [List.take_add_one,hx]; rfl
    have nx:x∉bs.take i:=fun m=>by
     have nd:=(pm.nodup_iff.mpr (nnd.sublist (List.sublist_append_right ts bu))).sublist (List.take_sublist (i+1) bs)
     rw [et] at nd
     exact (List.nodup_append.mp nd).2.2 x m x List.mem_cons_self rfl
    have nt:x∉ts:=fun m=>(List.nodup_append.mp nnd).2.2 x m x mx rfl
    clear hv hp h7
    walk_at "rd*"
    refine⟨_,_,P8,nam x (List.mem_append_right _ mx),nt,nx,by show (bs.take i).length<=100; rw [List.length_take,pm.length_eq]; omega,fun H9 S9 P9=>pin _ _ _ ⟨_,rfl,one (z:=o) S8 S9,S9 _ _ (fun n=>absurd rfl n.2.1) hl8,S9 _ _ (fun n=>absurd rfl n.2.2) h8,by rw [et]; exact P9⟩⟩
   ·intro σ H8 hp
    obtain⟨v4,rfl,S8,hl8,h8,P8⟩:=pout _ _ _ hp
    rw [List.length_map,List.take_length] at P8
    exact in4 _ _ ⟨_,rfl,S8,hl8,P8.mono fun z hz _=>⟨hz.1,hz.2.1⟩⟩
  intro σ4 H5 hm4
  obtain⟨v4',rfl,S5,h5,P5⟩:=out4 _ _ hm4
  clear hm4 in4 out4 h4 P4 S04 S4 S3 n4
  obtain⟨Mid5,in5,out5⟩:=g6v (fun σ' H'=>∃ (v4 v7 v8 v9 v10 v11 v12:Option V) (es:List Sq),σ' = [some (.ref sc),some (.ref nl),some (.int (ts.length:Int)),some (.ref o),v4,some (.ref l5),some (.int (tn:Int)),v7,v8,v9,v10,v11,v12]/\Same H H'/\b9l A H' (fun a=>H a=none) o ⟨ts,bs,es.map f4q,[]⟩/\Gd ts bu bs es)
  refine⟨Mid5,?_,?_⟩
  ·have f0:=c1j ((ns.getD 0 0).fdiv 24) (b:=6) (by decide)
   walk_at "rd*"
   refine⟨ns,S5.seq hS,⟨by decide,by decide⟩,by omega,by omega,?_⟩
   obtain⟨m,em⟩:∃ m:Nat,1+((ns.getD 0 0).fdiv 24).fmod 6=(m:Int):=⟨(1+((ns.getD 0 0).fdiv 24).fmod 6).toNat,by omega⟩
   rw [em,Int.toNat_natCast]
   obtain⟨Pv,pin,pout⟩:=b7u (fun i σ' H'=>∃ (v4 v7 v8 v9 v10 v11 v12:Option V) (es:List Sq),σ' = [some (.ref sc),some (.ref nl),some (.int (ts.length:Int)),some (.ref o),v4,some (.ref l5),some (.int (tn:Int)),v7,v8,v9,v10,v11,v12]/\Same H H'/\H' l5=some (.lst (bu.map V.str))/\b9l A H' (fun a=>H a=none/\a≠l5) o ⟨ts,bs,es.map f4q,[]⟩/\es.length=i/\∀ e∈es,h4t e/\(e.1∈ts\/e.1∈bs)/\e.2.1∈bs/\(ts++bu).idxOf e.1 < (ts++bu).idxOf e.2.1)
   refine a9w (lo:=0) Pv (pin _ _ _ ⟨_,_,_,_,_,_,_,[],rfl,S5,h5,P5,rfl,fun e he=>by cases he⟩) ?_ ?_
   ·intro i σ H6 hi hp
    obtain⟨w4,w7,w8,w9,w10,w11,w12,es,rfl,S6,h6,P6,el,eok⟩:=pout _ _ _ hp
    have bi:=hbit (2+(0+i))
    obtain⟨Mid6,in6,out6⟩:=g6v (fun σ' H'=>∃ (c M:Int),σ' = [some (.ref sc),some (.ref nl),some (.int (ts.length:Int)),some (.ref o),w4,some (.ref l5),some (.int (tn:Int)),some (.int (i:Int)),some (.int c),some (.int M),w10,w11,w12]/\H'=H6/\intBits c<=1100010)
    clear hp h5 P5
    walk_at "rd*"
    refine⟨ns,S6.seq hS,by omega,IntMulOk.of_left (by decide),?_⟩
    have bc:intBits (ns.getD ((2:Int)+(i:Int)).toNat 0+7*(i:Int))<=1100010:=Nat.le_trans (intBits_add_le (hbit _) (intBits_le_64 (k:=7*(i:Int)) (by omega) (by omega))) (by decide)
    generalize ns.getD ((2:Int)+(i:Int)).toNat 0+7*(i:Int)=c at bc ⊢
    refine⟨Mid6,?_,?_⟩
    ·walk_at "rd"
     exact ⟨by walk_at "mul", by decide, in6 _ _ ⟨c, _, rfl, rfl, bc⟩⟩
    clear bc bi
    intro σ6 H6' hm6
    obtain⟨c,M,rfl,rfl,bc⟩:=out6 _ _ hm6
    clear hm6 in6 out6
    have f1:=c1j M (b:=(bu.length:Int)) (by omega)
    have f2:=c1j (M.fdiv 100) (b:=3) (by decide)
    obtain⟨tb,etb⟩:∃ tb:Nat,M.fmod (bu.length:Int)=(tb:Int):=⟨(M.fmod (bu.length:Int)).toNat,by omega⟩
    have f3:=c1j (M.fdiv 4) (b:=(ts.length:Int)+(tb:Int)) (by omega)
    obtain⟨si,esi⟩:∃ si:Nat,(M.fdiv 4).fmod ((ts.length:Int)+(tb:Int))=(si:Int):=⟨((M.fdiv 4).fmod ((ts.length:Int)+(tb:Int))).toNat,by omega⟩
    obtain⟨k3,ek3⟩:∃ k3:Nat,(M.fdiv 100).fmod 3=(k3:Int):=⟨((M.fdiv 100).fmod 3).toNat,by omega⟩
    walk_at "rd*"
    refine⟨by omega,fun lw H7 n7 S7 h7=>?_⟩
    have S07:=S6.trans S7
    walk_at "rd*"
    obtain⟨Pw,qin,qout⟩:=b7u (fun j σ' H'=>∃ (v12:Option V) (ds:List Dt),σ' = [some (.ref sc),some (.ref nl),some (.int (ts.length:Int)),some (.ref o),w4,some (.ref l5),some (.int (tn:Int)),some (.int (i:Int)),some (.int c),some (.int M),some (.int (tb:Int)),some (.ref lw),v12]/\Same H6' H'/\H' lw=some (.lst (ds.map fun d=>V.str d.word))/\ds.length=j/\∀ d∈ds,d.ok/\d.kd < 4/\Few d)
    refine⟨⟨by decide,by decide⟩,by omega,by omega,?_⟩
    refine a9w (lo:=0) Pw (qin _ _ _ ⟨_,[],rfl,S7,h7,rfl,fun d hd=>by cases hd⟩) ?_ ?_
    ·intro j σ H8 hj hp
     obtain⟨u12,ds,rfl,S8,h8,dl,dok⟩:=qout _ _ _ hp
     have bj:intBits (3*c+(j:Int))<=1100020:=Nat.le_trans (intBits_add_le (intBits_mul_le (by decide:intBits 3<=2) bc) (intBits_le_64 (k:=(j:Int)) (by omega) (by omega))) (by decide)
     clear hp h7
     walk_at "rd*"
     refine ⟨IntMulOk.of_left (by decide), by walk_at "mul", by decide, fun d H9 d1 d2 d3 S9 => ?_⟩
     have h9:=S9 _ _ h8
     clear h8
     walk_at "rd*"
     refine⟨by omega,?_⟩
     rintro _ H10 ⟨rfl,B10,h10⟩
     refine qin _ _ _ ⟨_,ds++[d],rfl,(S8.trans S9).step n7 B10,by rw [h10,List.map_append]; rfl,by rw [List.length_append,dl]; rfl,fun d' hd=>?_⟩
     rcases List.mem_append.mp hd with m' | m'
     ·exact dok d' m'
     ·rw [List.mem_singleton.mp m']
      exact⟨d1,d2,d3⟩
    ·intro σ H8 hp
     obtain⟨u12,ds,rfl,S8,h8,dl,dok⟩:=qout _ _ _ hp
     have P8:=P6.same S8
     obtain⟨dx3,t0,b0,sd0,ou0,ho3,_⟩:=id P8
     unfold ptF at ho3
     have hn8:=(S6.trans S8) _ _ hn
     have h58:=S8 _ _ h6
     have ln:(ts++bu).length=ts.length+bu.length:=List.length_append
     obtain⟨x,hx⟩:∃ x,(ts++bu)[si]? = some x:=⟨_,List.getElem?_eq_getElem (by omega)⟩
     obtain⟨y,hy⟩:∃ y,bu[tb]? = some y:=⟨_,List.getElem?_eq_getElem (by omega)⟩
     have hy':(ts++bu)[ts.length+tb]? = some y:=by rw [List.getElem?_append_right (by omega),show ts.length+tb - ts.length=tb by omega]; exact hy
     have ix:∀ {i:Nat} {x:Str},(ts++bu)[i]? = some x->(ts++bu).idxOf x=i:=fun h=>by
      obtain⟨h1,h2⟩:=List.getElem?_eq_some_iff.mp h
      rw [<- h2]
      exact nnd.idxOf_getElem _ h1
     have xy:(ts++bu).idxOf x < (ts++bu).idxOf y:=by rw [ix hx,ix hy']; omega
     have a1:atI ((ts++bu).map V.str) (si:Int)=some (.str x):=b1t (by rw [List.getElem?_map,hx]; rfl)
     have a2:atI (bu.map V.str) (tb:Int)=some (.str y):=b1t (by rw [List.getElem?_map,hy]; rfl)
     have mx:x∈ts\/x∈bs:=(List.mem_append.mp (List.mem_of_getElem? hx)).imp id pm.mem_iff.mpr
     have my:y∈bs:=pm.mem_iff.mpr (List.mem_of_getElem? hy)
     clear hp h7
     walk_at "rd*"
     have rk:∀ e∈prs (es.map f4q),(ts++bu).idxOf e.1 < (ts++bu).idxOf e.2:=fun e he=>by
      obtain⟨e',he',rfl⟩:=List.mem_map.mp he
      obtain⟨e2,h2,rfl⟩:=List.mem_map.mp he'
      exact (eok e2 h2).2.2.2
     have nmb:∀ {z:Str},z∈bs->PyData.strOk z=true:=fun m=>h6o (nam _ (List.mem_append_right _ (pm.mem_iff.mp m)))
     refine⟨⟨by decide,by decide⟩,by omega,_,_,P8,ds,rfl,by omega,fun d hd=>⟨(dok d hd).1,(dok d hd).2.1⟩,mx,my,i3l.no (fun z=>(ts++bu).idxOf z) rk xy,by show (es.map f4q).length<=99; rw [List.length_map]; omega,nmb my,(fun e he=>?_),fun H9 N9 P9=>pin _ _ _ ⟨_,_,_,_,_,_,_,es++[(x,y,ds)],rfl,one (z:=o) (S6.trans S8) N9,N9 _ _ (fun n=>absurd rfl n.2) h58,?_,by rw [List.length_append,el]; rfl,fun e he=>?_⟩⟩
     ·obtain⟨e',he',rfl⟩:=List.mem_map.mp he
      exact nmb (eok e' he').2.2.1
     ·rw [List.map_append]
      exact P9.mono fun z hz _=>hz.elim id fun n=>⟨(S6.trans S8).free n,fun k=>by rw [k,h58] at n; cases n⟩
     ·rcases List.mem_append.mp he with m' | m'
      ·exact eok e m'
      ·rw [List.mem_singleton.mp m']
       exact⟨⟨by show ds.length<=2; omega,dok⟩,mx,my,xy⟩
   ·intro σ H6 hp
    obtain⟨w4,w7,w8,w9,w10,w11,w12,es,rfl,S6,h6,P6,el,eok⟩:=pout _ _ _ hp
    exact in5 _ _ ⟨_,_,_,_,_,_,_,es,rfl,S6,P6.mono (fun z hz _=>hz.1),(fun z=>pm.mem_iff),pm.nodup_iff.mpr (nnd.sublist (List.sublist_append_right ts bu)),pm.length_eq,by omega,eok⟩
  intro σ5 H6 hm5
  obtain⟨_,_,_,_,_,_,_,es,rfl,S6,P6,g6⟩:=out5 _ _ hm5
  walk_at "rd"
  exact q _ _ _ _ S6 P6 g6
theorem Gd.rk{ts bu bs:List Str}{es:List Sq}(g:Gd ts bu bs es):i3l (prs (es.map f4q)):=⟨fun z=>(ts++bu).idxOf z,fun e he=>by
 obtain⟨e',he',rfl⟩:=List.mem_map.mp he
 obtain⟨e2,h2,rfl⟩:=List.mem_map.mp he'
 exact (g.2.2.2.2 e2 h2).2.2.2⟩
theorem Gd.ord{ts bu bs:List Str}{es:List Sq}(g:Gd ts bu bs es):(obL bs es).length=bu.length/\(obL bs es).Nodup/\(∀ z,z∈obL bs es ↔ z∈bu)/\∀ (i:Nat) b,(obL bs es)[i]? = some b->∀ l∈b7g es b,l.1∈ts++(obL bs es).take i:=by
 have rdy:∀ j,j < bs.length->bs.filter (c1i bs (prs (es.map f4q)) (c7q bs (prs (es.map f4q)) j))≠[]:=fun j hj=>ready g.rk g.2.1 j hj
 have at':=fun (i:Nat) b (h:(obL bs es)[i]? = some b)=>i0v rdy h
 have nd:(obL bs es).Nodup:=g7q fun i b h=>(at' i b h).2.1
 have ln:(obL bs es).length=bs.length:=c6y _ rdy
 have sub:∀ z,z∈obL bs es->z∈bs:=fun z hz=>by
  obtain⟨i,hi⟩:=List.getElem?_of_mem hz
  exact (at' i z hi).1
 refine⟨by rw [ln,g.2.2.1],nd,fun z=>⟨fun h=>(g.1 z).mp (sub z h),fun h=>?_⟩,fun i b hb l hl=>?_⟩
 ·by_cases k:z∈obL bs es
  ·exact k
  ·have:=List.Nodup.length_le_of_subset (l₂:=bs) (List.nodup_cons.mpr ⟨k,nd⟩) fun x hx=>by
    rcases List.mem_cons.mp hx with e | m
    ·rw [e]; exact (g.1 z).mpr h
    ·exact sub x m
   rw [List.length_cons] at this
   omega
 ·obtain⟨e,he,rfl⟩:=List.mem_map.mp hl
  obtain⟨h1,h2⟩:=List.mem_filter.mp he
  rw [decide_eq_true_eq] at h2
  rcases (g.2.2.2.2 e h1).2.1 with m | m
  ·exact List.mem_append_left _ m
  ·exact List.mem_append_right _ ((at' i b hb).2.2 (e.1,e.2.1) (List.mem_map.mpr ⟨f4q e,List.mem_map_of_mem h1,rfl⟩) h2 m)
theorem i9p{ts:List Str}{rows:List (List Int)}{n i:Nat}{x:Str}{r:List Int}(nd:ts.Nodup)(hx:ts[i]? = some x)(hr:rows[i]? = some r):fdF ts rows n x=r:=by
 obtain⟨h1,h2⟩:=List.getElem?_eq_some_iff.mp hx
 unfold fdF
 rw [<- h2,nd.idxOf_getElem _ h1,List.getD_eq_getElem?_getD,hr]
 rfl
theorem i0x (T : Tx K mg A) : a1q P A.wd K mg base CX0 15 A.b2j A.b3q ["_law_patch_here", "_law_names", "_law_rows"] (i3p A) := by
 have f9i:a1q P A.wd K mg base CX0 13 _ _ _ _:=i9i T
 have f9j:a1q P A.wd K mg base CX0 5 _ _ _ _:=i4l T
 have a3m:=T.a3m
 have a0u:=T.a0u
 have a0z:=T.a0z
 have a2g:=T.a2g
 have a1m:=T.a1m
 have a1l:=T.a1l
 refine T.b6y.ok c8s (fun vs H Q E h=>?_) (fun cdv A' outer s H vs Q E hr h=>?_)
 ·obtain⟨_,_,_,rfl,_⟩:=i0p (by unfold i3p at h; exact h)
  rfl
 ·obtain⟨po,nl,rl,rfl,⟨ts,bu,bs,es,N,rows,ras,n,hP,gd,nms,hn,hrl,RW,rl3,rok,n9,q⟩⟩:=i0p (by unfold i3p at h; exact h)
  have hu:=hr.units
  have hs:sizeLine=16777216:=sizeLine_eq
  have f3o:a2p 14 _:=hr.mono (by decide)
  have f3p:a2p 5 _:=hr.mono (by decide)
  obtain⟨nam,nnd,t1,t3,b1,b4⟩:=id nms
  have tnd:ts.Nodup:=nnd.sublist (List.sublist_append_left ts bu)
  have rl':=RW.1
  refine⟨_,(a0h (a0s (i:=3) c8s.nd rfl (Or.inl rfl) d0p)
   (b1i (a3n PassesOwn.never rfl (a4r (by rfl) T.b4q (a0g (a1g a2k (by rfl) T.b6z boot_len (a0g (pvF 2) a0i)) a0i)) (a2o (i:=4) c8s.nd rfl (Or.inl rfl))
   (a0j (c4q (hu1 hu) (pvF 3) (a1t a5m (pvF 1) (pvF 4) (fun _ _=>rfl)) (a2r a9y (by rfl) T.c9u boot_list (a0g (a1t a5m (pvF 2) (pvF 4) (fun _ _=>rfl)) a0i)) rfl)))
   (a0j (a1h (a1t a5m (a6l (c4p T.f6q f9i f3o (by rfl) T.h4e T.f6t .nil a1j (a0g (pvF 0) a0i)) T.a3m T.c2t f9j f3p T.f6u .nil a1j (a0g (pvF 3) a0i)) a0k (fun _ _=>rfl)))))),?_⟩
  walk_at "rd"
  intro fd H1 n1 S1 h1
  walk_at "rd"
  obtain⟨Mid,min',mout⟩:=g6v (fun σ' H'=>∃ (v:Option V) (kvs:List (Key×V)),σ' = [some (.ref po),some (.ref nl),some (.ref rl),some (.ref fd),v]/\Same H H'/\H' fd=some (.dK kvs)/\kvs.length=ts.length/\∀ z∈ts,∃ l,b8k kvs (kT z)=some (.ref l)/\H' l=some (.lst ((fdF ts rows n z).map V.int)))
  refine⟨Mid,?_,?_⟩
  ·have hrl1:=S1 _ _ hrl
   walk_at "rd*"
   refine⟨by omega,by omega,?_⟩
   rw [Int.toNat_natCast]
   obtain⟨Pv,pin,pout⟩:=b7u (fun i σ' H'=>∃ (v:Option V) (kvs:List (Key×V)),σ' = [some (.ref po),some (.ref nl),some (.ref rl),some (.ref fd),v]/\Same H H'/\H' fd=some (.dK kvs)/\kvs.length=i/\(∀ z,z∉ts.take i->b8k kvs (kT z)=none)/\∀ z∈ts.take i,∃ l,b8k kvs (kT z)=some (.ref l)/\H' l=some (.lst ((fdF ts rows n z).map V.int)))
   refine a9w (lo:=0) Pv (pin _ _ _ ⟨_,[],rfl,S1,h1,rfl,(fun z _=>rfl),fun z hz=>by cases hz⟩) ?_ ?_
   ·intro i σ H3 hi hp
    obtain⟨v,kvs,rfl,S3,h3,kl,kn,ks⟩:=pout _ _ _ hp
    obtain⟨x,hx⟩:∃ x,ts[i]? = some x:=⟨_,List.getElem?_eq_getElem (by omega)⟩
    obtain⟨ra,hra⟩:∃ ra,ras[i]? = some ra:=⟨_,List.getElem?_eq_getElem (by omega)⟩
    obtain⟨r,hrr⟩:∃ r,rows[i]? = some r:=⟨_,List.getElem?_eq_getElem (by omega)⟩
    have hra3:=S3 _ _ (RW.2 i ra r hra hrr)
    have hn3:=S3 _ _ hn
    have hrl3:=S3 _ _ hrl
    have a1:atI ((ts++bu).map V.str) (i:Int)=some (.str x):=b1t (by rw [List.getElem?_map,List.getElem?_append_left (by omega),hx]; rfl)
    have a2:atI (ras.map V.ref) (i:Int)=some (.ref ra):=b1t (by rw [List.getElem?_map,hra]; rfl)
    have et:ts.take (i+1)=ts.take i++[x]:=by rw [List.take_add_one,hx]; rfl
    have nx:x∉ts.take i:=fun m=>by
     have nd:=tnd.sublist (List.take_sublist (i+1) ts)
     rw [et] at nd
     exact (List.nodup_append.mp nd).2.2 x m x List.mem_cons_self rfl
    clear hp hrl1 h1
    walk_at "rd*"
    intro lc H4 n4 S4 h4
    have hn4:=S4 _ _ hn3
    have h34:=S4 _ _ h3
    clear hn3 h3 hra3 hrl3
    walk_at "rd*"
    refine⟨by omega,fun H5 B5 h5=>pin _ _ _ ⟨_,_,rfl,(S3.trans S4).step n1 B5,h5,by rw [g6r _ (kn x nx),List.length_append,kl]; rfl,fun z hz=>?_,fun z hz=>?_⟩⟩
    ·rw [et] at hz
     rw [c1o,if_neg (fun e=>hz (List.mem_append_right _ (by cases e; exact List.mem_cons_self)))]
     exact kn z fun m=>hz (List.mem_append_left _ m)
    ·rw [c1o]
     by_cases k:z=x
     ·rw [if_pos (by rw [k]),k,i9p tnd hx hrr]
      exact⟨lc,rfl,B5 _ _ (fun e=>by rw [e,h34] at h4; cases h4) h4⟩
     ·rw [if_neg (fun e=>k (by cases e; rfl))]
      rw [et] at hz
      obtain⟨l,v1,v2⟩:=ks z ((List.mem_append.mp hz).elim id fun m=>absurd (List.mem_singleton.mp m) k)
      have v3:=S4 _ _ v2
      exact⟨l,v1,B5 _ _ (fun e=>by rw [e,h34] at v3; cases v3) v3⟩
   ·intro σ H3 hp
    obtain⟨v,kvs,rfl,S3,h3,kl,kn,ks⟩:=pout _ _ _ hp
    rw [List.take_length] at ks
    exact min' _ _ ⟨_,kvs,rfl,S3,h3,kl,ks⟩
  intro σ' H2 hm
  obtain⟨v,kvs,rfl,S2,h2,kl,hk⟩:=mout _ _ hm
  clear hm min' mout h1 n1 S1
  obtain⟨o1,o2,o3,o4⟩:=gd.ord
  walk_at "rd*"
  intro c cx H3 n3 n3' nx S3 hdx hc
  have P3:=(hP.same S2).same S3
  refine⟨cx,N,_,es,hc,P3,rfl,rfl,fun e he=>(gd.2.2.2.2 e he).1,gd.2.2.2.1,by show ts.length<=20; omega,by show bs.length<=20; rw [gd.2.2.1]; omega,gd.2.1,(fun x hx hx'=>(List.nodup_append.mp nnd).2.2 x hx' x ((gd.1 x).mp hx) rfl),gd.rk,fun e he=>⟨(gd.2.2.2.2 e he).2.1,(gd.2.2.2.2 e he).2.2.1⟩,fun H4 B4 hE=>?_⟩
  rw [asNew]
  refine⟨rfl,?_⟩
  have S4:Same H2 H4:=fun z u ez=>B4 _ _ (fun ze=>by rw [ze,n3] at ez; cases ez) (S3 _ _ ez)
  obtain⟨dx,t,b,L,B,S,kb1,kb2,cc,ho,_⟩:=id hE
  unfold enF at ho
  have h4:=S4 _ _ h2
  clear hc h2
  walk_at "rd*"
  refine⟨ts,obL bs es,es,hE,_,rfl,kl,by omega,(fun e=>by rw [e] at t1; cases t1),(fun s hs=>h6o (nam s (List.mem_append_left _ hs))),fdF ts rows n,n,n9,fun z hz=>?_,fun e he=>(gd.2.2.2.2 e he).1,gd.2.2.2.1,by omega,o2,(fun z hz hz'=>(List.nodup_append.mp nnd).2.2 z hz z ((o3 z).mp hz') rfl),o4,?_⟩
  ·obtain⟨l,v1,v2⟩:=hk z hz
   obtain⟨i,hi⟩:=List.getElem?_of_mem hz
   have li:=(List.getElem?_eq_some_iff.mp hi).1
   obtain⟨r,hrr⟩:∃ r,rows[i]? = some r:=⟨_,List.getElem?_eq_getElem (by omega)⟩
   have e:=i9p (n:=n) tnd hi hrr
   exact⟨l,v1,S4 _ _ v2,by rw [e]; exact (rok r (List.mem_of_getElem? hrr)).1,by rw [e]; exact (rok r (List.mem_of_getElem? hrr)).2⟩
  intro rr d1 d2 kf H5 C5 h5 hd5 F5
  rw [h5]
  exact⟨_,rfl,q d1 kf H5 (fun z u nu e=>C5 z u nu (S4 _ _ (S2 _ _ e))) hd5 (F5.mono fun lo hl u nu e=>hl u nu (S4 _ _ (S2 _ _ e)))⟩
theorem b9l.d5h{A:Ad}{H H':Hp}{N:Addr->Prop}{po:Addr}{p:Pd}(h:b9l A H N po p)(S:c1n A H H'):b9l A H' N po p:=by
 obtain⟨pdx,t,b,sd,ou,hp,n,d,ht,hb,⟨us,hs,R1⟩,vs,hu,R2⟩:=h
 exact⟨pdx,t,b,sd,ou,S _ _ (noE (by unfold ptF; simp)) hp,n,d,S _ _ noL ht,S _ _ noL hb,⟨us,S _ _ noL hs,R1.go (fun z vs nz e=>⟨S _ _ noL e,nz⟩) fun z vs e=>S _ _ noT e⟩,vs,S _ _ noL hu,R2.go (fun z vs nz e=>⟨S _ _ noL e,nz⟩) fun z vs e=>S _ _ noT e⟩
theorem Ans.d5h{A:Ad}{R:Addr->Prop}{H H':Hp}{das:List Addr}{ts ob:List Str}{es:List Sq}{n:Nat}(h:Ans R H das ts ob es n)(S:c1n A H H'):Ans R H' das ts ob es n:=fun k d hd=>(h k d hd).imp fun kf h=>⟨S _ _ noD h.1,h.2.d5h S⟩
theorem Flo.lst{H H':Hp}{kf:List (Key×V)}{zs:List Str}{g:Str->Int}{F:Str->List Int}{D:Addr}{ys:List V}(h:Flo (· ≠ D) H kf zs g F)(hD:H D=some (.lst ys))(B:a2j D H H'):Flo (· ≠ D) H' kf zs g F:=fun z hz=>(h z hz).imp fun _ h=>h.imp fun _ h=>⟨h.1,B _ _ (fun k=>by have y:=h.2.1; rw [k,hD] at y; cases y) h.2.1,B _ _ h.2.2.2 h.2.2.1,h.2.2.2⟩
theorem i4n (T : Tx K mg A) : a1q P A.wd K mg base CX0 16 A.a7o A.a8q ["_law_patch_here", "_law_names", "_law_tracks", "_law_size"] (h5a A) := by
 have d1z:a1q P A.wd K mg base CX0 15 _ _ _ _:=i0x T
 refine T.b4k.ok b7n (fun vs H Q E h=>?_) (fun cdv A' outer s H vs Q E hr h=>?_)
 ·obtain⟨_,_,_,_,rfl,_⟩:=f5u (by unfold h5a at h; exact h)
  rfl
 ·obtain⟨po,nl,nt,sz,rfl,⟨ts,bu,bs,es,N,n,e1,e2,hP,gd,nms,hn,n9,q⟩⟩:=f5u (by unfold h5a at h; exact h)
  subst e1 e2
  have hu:=hr.units
  have hs:sizeLine=16777216:=sizeLine_eq
  have d0n:a2p 15 _:=hr.mono (by decide)
  obtain⟨nam,nnd,t1,t3,b1,b4⟩:=id nms
  refine⟨_,(a0h (a0s (i:=4) b7n.nd rfl (Or.inl rfl) (a3y a0i))
   (a0h (a3n PassesOwn.never rfl (a4r (by rfl) T.b4q (a0g (pvF 2) a0i)) (a2o (i:=5) b7n.nd rfl (Or.inl rfl))
   (a0h (f5p (i := 6) b7n.nd rfl rfl (a4r (by rfl) T.b4q (a0g (pvF 2) a0i)) (fun _ _ _ _ _ => (a0w a3w (a3y (a0g a0k a0i)) (pvF 4))) (c7u (sc := a0l c4v) (N := ["_law_patch_here", "_law_names", "_law_tracks", "_law_size", "_law_answers_here", "_law_k", "_law_rows"]) rfl rfl (by decide +kernel)) rfl)
   (a0h (i5n (a5k g0g (a0w a2i (a3y (a0g a0k a0i)) (a0w a3w (a3y (a0g a0k a0i)) (pvF 3))) b1h (a3t (pvF 3))) (i5m (pvF 6) (pvF 5) j2e))
   (a0j (a6m (c3i b7j PySem.F.plainAttrs_list PySem.F.slot_list_append PySem.F.type_list_append b0g (pvF 4) (a0g (a0v d1z d0n (by rfl) T.f0w T.b6y.kp T.f0v .nil a1j (a0g (pvF 0) (a0g (pvF 1) (a0g (pvF 6) a0i)))) a0i)))))))
   (a0j (a1h (pvF 4))))),?_⟩
  walk_at "rd"
  refine⟨by omega,fun al H1 n1 S1 h1=>?_⟩
  walk_at "rd"
  refine⟨by omega,by omega,?_⟩
  rw [Int.toNat_natCast]
  obtain⟨Pv,pin,pout⟩:=b7u (fun i σ' H'=>∃ (v5 v6:Option V) (das:List Addr),σ' = [some (.ref po),some (.ref nl),some (.int (ts.length:Int)),some (.int (n:Int)),some (.ref al),v5,v6]/\c1n A H H'/\H' al=some (.lst (das.map V.ref))/\das.length=i/\Ans (· ≠ al) H' das ts (obL bs es) es n)
  refine a9w (lo:=0) Pv (pin _ _ _ ⟨_,_,[],rfl,c1n.of S1,h1,rfl,fun k d e=>by simp at e⟩) ?_ ?_
  ·intro i σ H2 hi hp
   obtain⟨v5,v6,das,rfl,C2,h2,dl,an⟩:=pout _ _ _ hp
   have P2:=hP.d5h C2
   have hn2:=C2 _ _ noL hn
   walk_at "rd"
   refine⟨by omega,by omega,fun D H3 n3 S3 h3=>?_⟩
   rw [Int.toNat_natCast]
   refine d1h (fun j ys H'=>Same H2 H'/\H' D=some (.lst ys)/\∃ ras:List Addr,ys=ras.map V.ref/\ras.length=j/\∀ a∈ras,H' a=some (.lst ((List.replicate n (0:Int)).map V.int))/\a≠D) ⟨S3,h3,[],rfl,rfl,fun a ha=>by cases ha⟩ (by omega) ?_ ?_ ?_
   ·intro j ys H' hj ⟨S',h',ras,e,rl,_⟩
    exact⟨h',by rw [e,List.length_map]; exact rl⟩
   ·intro j ys H' hj ⟨S',h',ras,e,rl,ra⟩
    walk_at "rd"
    refine⟨by omega,fun l5 H5 n5 S5 h5=>?_⟩
    walk_at "rd*"
    refine⟨by omega,by omega,by omega,fun l6 H6 n6 S6 h6=>?_⟩
    rw [Int.toNat_natCast,f5q] at h6
    have S56:=S5.trans S6
    have hD6:=S56 _ _ h'
    refine⟨hD6,fun H7 B7 h7=>⟨(S'.trans S56).step n3 B7,h7,ras++[l6],by rw [e,List.map_append]; rfl,by rw [List.length_append,rl]; rfl,fun a ha=>?_⟩⟩
    rcases List.mem_append.mp ha with m | m
    ·exact⟨B7 _ _ (ra a m).2 (S56 _ _ (ra a m).1),(ra a m).2⟩
    ·rw [List.mem_singleton.mp m]
     have nD:l6≠D:=fun k=>by rw [k,S5 _ _ h'] at n6; cases n6
     exact⟨B7 _ _ nD h6,nD⟩
   intro ys H4 ⟨S4,h4,ras,e,rl,ra⟩
   subst e
   walk_at "rd*"
   intro l5 H5 n5 S5 h5
   walk_at "rd"
   refine⟨by omega,fun l6 H6 n6 S6 h6=>?_⟩
   have h56:=S6 _ _ h5
   walk_at "rd*"
   refine⟨by omega,by omega,by omega,fun l7 H7 n7 S7 h7=>?_⟩
   rw [Int.toNat_natCast,f5q] at h7
   have h57:=S7 _ _ h56
   clear h5 h6 h56
   walk_at "rd*"
   refine⟨by rw [List.length_replicate]; omega,fun l8 H8 n8 S8 h8=>?_⟩
   clear h7 h57
   walk_at "rd*"
   intro l9 H9 n9' S9 h9
   rw [show V.int 1 :: (List.replicate n (0:Int)).map V.int=((1:Int) :: List.replicate n 0).map V.int from rfl,c3j,c3k] at h9
   have S49:=S5.trans (S6.trans (S7.trans (S8.trans S9)))
   have hD9:=S49 _ _ h4
   have nD9:l9≠D:=fun k=>by rw [k,(S5.trans (S6.trans (S7.trans S8))) _ _ h4] at n9'; cases n9'
   clear h8 h4 h3
   walk_at "rd*"
   refine⟨⟨by omega,by omega⟩,fun H10 B10 h10=>?_⟩
   have i9q:Same H2 H10:=(S4.trans S49).step n3 B10
   rw [Int.toNat_natCast,<- List.map_set] at h10
   have RW:Rws H10 (ras.set i l9) (imR ts.length n i):=by
    refine⟨by rw [List.length_set,rl]; unfold imR; simp,fun j a r ha hrj=>?_⟩
    have hj:=(List.getElem?_eq_some_iff.mp ha).1
    rw [List.length_set] at hj
    have er:r=if j=i then dlt n else List.replicate n 0:=by
     unfold imR at hrj
     rw [List.getElem?_map,List.getElem?_range (by omega)] at hrj
     exact (Option.some.inj hrj).symm
    by_cases k:j=i
    ·rw [er,if_pos k]
     rw [k,List.getElem?_set_self (by omega)] at ha
     cases ha
     exact B10 _ _ nD9 h9
    ·rw [er,if_neg k]
     rw [List.getElem?_set_ne (fun e=>k e.symm)] at ha
     have:=ra a (List.mem_of_getElem? ha)
     exact B10 _ _ this.2 (S49 _ _ this.1)
   have P10:=P2.same i9q
   have hn10:=i9q _ _ hn2
   have hal:=i9q _ _ h2
   have j3p:=an.d5h (A:=A) (c1n.of i9q)
   clear hD9 h9 hp
   walk_at "rd*"
   refine⟨ts,bu,bs,es,N,P10,gd,nms,rfl,imR ts.length n i,_,rfl,RW,by unfold imR; simp,n,fun r hr'=>?_,by omega,fun d kf H11 C11 h11 F11=>?_⟩
   ·unfold imR at hr'
    obtain⟨j,_,rfl⟩:=List.mem_map.mp hr'
    have z0:h4v (List.replicate n 0)/\(List.replicate n (0:Int)).length=n:=⟨⟨by rw [List.length_replicate]; omega,fun x hx=>by rw [(List.mem_replicate.mp hx).2]; decide⟩,List.length_replicate⟩
    split
    ·refine⟨⟨by rw [f8u]; omega,fun x hx=>?_⟩,f8u n⟩
     rcases List.mem_cons.mp (List.mem_of_mem_take hx) with e | m
     ·rw [e]; decide
     ·exact z0.1.2 x m
    ·exact z0
   have h9h:=C11 _ _ noL hal
   have F11':=F11.mono (R':=(· ≠ al)) fun lo hl k=>(hl (.lst (das.map V.ref)) noL) (by rw [show lo=al from k]; exact hal)
   have an11:=j3p.d5h C11
   clear hn10 h10 hal
   walk_at "rd*"
   refine⟨by omega,?_⟩
   rintro _ H12 ⟨rfl,B12,h12⟩
   have C2':c1n A H H11:=C2.trans ((c1n.of i9q).trans C11)
   refine pin _ _ _ ⟨_,_,das++[d],rfl,(fun z u nu e=>B12 _ _ (fun k=>by rw [k,n1] at e; cases e) (C2' _ _ nu e)),by rw [h12,List.map_append]; rfl,by rw [List.length_append,dl]; rfl,fun k d' hd=>?_⟩
   rcases Nat.lt_or_ge k das.length with hk | hk
   ·rw [List.getElem?_append_left hk] at hd
    obtain⟨kf',a1,a2⟩:=an11 k d' hd
    exact⟨kf',B12 _ _ (fun e=>by rw [e,h9h] at a1; cases a1) a1,a2.lst h9h B12⟩
   ·have hk':=(List.getElem?_eq_some_iff.mp hd).1
    rw [List.length_append,List.length_singleton] at hk'
    obtain rfl:k=das.length:=by omega
    rw [List.getElem?_concat_length] at hd
    cases hd
    rw [dl]
    exact⟨kf,B12 _ _ (fun e=>by rw [e,h9h] at h11; cases h11) h11,F11'.lst h9h B12⟩
  ·intro σ H2 hp
   obtain⟨v5,v6,das,rfl,C2,h2,dl,an⟩:=pout _ _ _ hp
   walk_at "rd"
   exact q al das H2 C2 h2 dl fun k d hd=>(an k d hd).imp fun _ h=>⟨h.1,h.2.mono fun _ _=>trivial⟩
theorem f2j{C:Nat}{f:Nat->Int}(h1:1<=C):∀ (n:Nat),(∀ k,k < n->intBits (f k)<=C)->intBits (d2g n f)<=C+n
 | 0,_=>Nat.le_trans (by decide:intBits 0<=1) (by omega)
 | n+1,h=>by
  rw [b4u]
  have:=intBits_add_le (f2j h1 n fun k hk=>h k (by omega)) (h n (by omega))
  omega
theorem g2o{l:List Int}{C:Nat}(h1:1<=C)(h:∀ y∈l,intBits y<=C)(i:Nat):intBits (l.getD i 0)<=C:=by
 rw [List.getD_eq_getElem?_getD]
 cases e:l[i]? with
 | none=>exact Nat.le_trans (by decide:intBits 0<=1) h1
 | some y=>exact h y (List.mem_of_getElem? e)
theorem i4o{B:Int}{C:Nat}(h:intBits B<=C):∀ n:Nat,intBits (B ^ n)<=1+n*C
 | 0=>by rw [Int.pow_zero,Nat.zero_mul]; decide
 | n+1=>by
  rw [Int.pow_succ,Nat.succ_mul]
  exact Nat.le_trans (intBits_mul_le (i4o h n) h) (by omega)
theorem h6q (T : Tx K mg A) : a1q P A.wd K mg base CX0 1 A.b2k A.b3r ["_law_flow", "_law_answers_here", "_law_rows", "_law_size"] j3f := by
 refine T.c0w.ok a3r (fun vs H Q E h=>?_) (fun cdv A' outer s H vs Q E hr h=>?_)
 ·obtain⟨_,_,_,_,rfl,_⟩:=c2p (by unfold j3f at h; exact h)
  rfl
 ·obtain⟨fp,al,rl,sz,rfl,⟨B,F,G,rows,fl,pas,ras,n,en,hfp,hfl,hal,PR,hrl,RW,gl,Fl,gok,rok,Fb,B1,Bb,r1,r3,n9,sup,q⟩⟩:=c2p (by unfold j3f at h; exact h)
  subst en
  have hu:=hr.units
  have hs:sizeLine=16777216:=sizeLine_eq
  have pl:=PR.1
  have rl':=RW.1
  refine⟨_,(a0h (a0s (i:=4) a3r.nd rfl (Or.inl rfl) a0k)
   (b1i (a3n PassesOwn.never rfl (a2m (pvF 1)) (a2o (i:=5) a3r.nd rfl (Or.inl rfl))
   (a0j (a0s (i:=4) a3r.nd rfl (Or.inl rfl) (a0w a3w (pvF 4) (a1t a5m (pvF 5) a0k (fun _ _=>rfl))))))
   (a0h (a3n PassesOwn.never rfl (a4r (by rfl) T.b4q (a0g (pvF 3) a0i)) (a2o (i:=6) a3r.nd rfl (Or.inl rfl))
   (a0h (a0s (i:=7) a3r.nd rfl (Or.inl rfl) a0k)
   (a0h (a3n PassesOwn.never rfl (a4r (by rfl) T.b4q (a0g (a1g a2k (by rfl) T.b6z boot_len (a0g (pvF 2) a0i)) a0i)) (a2o (i:=8) a3r.nd rfl (Or.inl rfl))
   (a0h (a0s (i:=9) a3r.nd rfl (Or.inl rfl) (a0w a8t (pvF 4) (a1t a5m (a1t a5m (pvF 1) (pvF 8) (fun _ _=>rfl)) a0k (fun _ _=>rfl))))
   (a0j (a3n PassesOwn.never rfl (a4r (by rfl) T.b4q (a0g (a0w a2i (pvF 6) a0k) a0i)) (a2o (i:=10) a3r.nd rfl (Or.inl rfl))
   (a0h (a0s (i:=11) a3r.nd rfl (Or.inl rfl) (a0w a3w (a1t a5m (a1t a5m (a1t a5m (pvF 1) (pvF 8) (fun _ _=>rfl)) a0k (fun _ _=>rfl)) (a0w d8l (pvF 6) (pvF 10)) (fun _ _=>rfl)) (pvF 9)))
   (a0j (a0s (i:=7) a3r.nd rfl (Or.inl rfl) (a0w a2i (pvF 7) (a0w a3w (a1t a5m (a1t a5m (pvF 2) (pvF 8) (fun _ _=>rfl)) (pvF 10) (fun _ _=>rfl)) (pvF 11))))))))))
   (a0j (a6n (a1r (c2z hu) (a0w a3w (a1t a5m (a1t a5m (pvF 0) a0k (fun _ _=>rfl)) (pvF 6) (fun _ _=>rfl)) (pvF 4)) (a0w a3w (pvF 7) (a1t a5m (pvF 0) a0k (fun _ _=>rfl))) (a2s _))
   (a0j (a1h f2l))
   a2h)))))
   (a0j (a1h f2l))))),?_⟩
  walk_at "rd"
  obtain⟨Mid,min',mout⟩:=g6v (fun σ' H'=>∃ v5:Option V,σ' = [some (.ref fp),some (.ref al),some (.ref rl),some (.int (n:Int)),some (.int (B ^ rows.length)),v5,none,none,none,none,none,none]/\H'=H)
  refine⟨Mid,?_,?_⟩
  ·walk_at "rd*"
   refine⟨⟨_,SqL.of hal⟩,?_⟩
   obtain⟨Pv,pin,pout⟩:=b7u (fun i σ' H'=>∃ v5:Option V,σ' = [some (.ref fp),some (.ref al),some (.ref rl),some (.int (n:Int)),some (.int (B ^ i)),v5,none,none,none,none,none,none]/\H'=H)
   refine a4l (xs:=pas.map V.ref) Pv (pin _ _ _ ⟨_,by rw [Int.pow_zero],rfl⟩) ?_ ?_ ?_
   ·intro i σ H1 hi hp
    obtain⟨v,rfl,rfl⟩:=pout _ _ _ hp
    exact SqL.of hal
   ·intro i v σ H1 hv hp
    obtain⟨v5,rfl,rfl⟩:=pout _ _ _ hp
    rw [List.getElem?_map] at hv
    obtain⟨p,hp',rfl⟩:=Option.map_eq_some_iff.mp hv
    have hi:=(List.getElem?_eq_some_iff.mp hp').1
    obtain⟨l,hp1,_⟩:=PR.2 i p _ hp' (List.getElem?_eq_getElem (by omega))
    have bi:=i4o Bb i
    have l3:i*6400<=3*6400:=Nat.mul_le_mul_right _ (by omega)
    clear hv hp
    walk_at "rd*"
    exact⟨IntMulOk.of_le bi Bb (by omega),pin _ _ _ ⟨_,by rw [Int.pow_succ],rfl⟩⟩
   ·intro σ H1 hp
    obtain⟨v5,rfl,rfl⟩:=pout _ _ _ hp
    rw [List.length_map,pl,gl]
    exact min' _ _ ⟨_,rfl,rfl⟩
  intro σ' H1 hm
  obtain⟨v5,rfl,rfl⟩:=mout _ _ hm
  clear hm min' mout
  have bl:=i4o Bb rows.length
  have l3:rows.length*6400<=3*6400:=Nat.mul_le_mul_right _ r3
  generalize eL:B ^ rows.length=Lw at bl ⊢
  walk_at "rd*"
  refine⟨by omega,by omega,?_⟩
  rw [Int.toNat_natCast]
  have RD:∀ k,k < rows.length->∃ ra r,ras[k]? = some ra/\rows[k]? = some r/\rows.getD k []=r/\H1 ra=some (.lst (r.map V.int))/\r.length=n/\∀ y∈r,intBits y<=50:=fun k hk=>by
   obtain⟨ra,hra⟩:∃ ra,ras[k]? = some ra:=⟨_,List.getElem?_eq_getElem (by omega)⟩
   obtain⟨r,hrr⟩:∃ r,rows[k]? = some r:=⟨_,List.getElem?_eq_getElem (by omega)⟩
   have:=rok r (List.mem_of_getElem? hrr)
   exact⟨ra,r,hra,hrr,by rw [List.getD_eq_getElem?_getD,hrr]; rfl,RW.2 k ra r hra hrr,this.1,this.2⟩
  have GD:∀ k,k < rows.length->∃ p l g,pas[k]? = some p/\G.getD k []=g/\H1 p=some (.tup [.ref l,.int B])/\H1 l=some (.lst (g.map V.int))/\g.length=n/\∀ y∈g,intBits y<=60000:=fun k hk=>by
   obtain⟨p,hp⟩:∃ p,pas[k]? = some p:=⟨_,List.getElem?_eq_getElem (by omega)⟩
   obtain⟨g,hg⟩:∃ g,G[k]? = some g:=⟨_,List.getElem?_eq_getElem (by omega)⟩
   obtain⟨l,h1,h2⟩:=PR.2 k p g hp hg
   have:=gok g (List.mem_of_getElem? hg)
   exact⟨p,l,g,hp,by rw [List.getD_eq_getElem?_getD,hg]; rfl,h1,h2,this.1,this.2⟩
  have cB:CFd Lw B:=⟨by omega,by omega⟩
  have bb:intBits (Lw.fdiv B)<=19201:=intBits_fdiv_le (by omega)
  obtain⟨by',eby⟩:∃ by',Lw.fdiv B=by':=⟨_,rfl⟩
  rw [eby] at bb
  have dR:∀ k,k < rows.length->∀ t s,intBits ((rows.getD k []).getD s 0*((G.getD k []).getD (t - s) 0*by'))<=80000:=fun k hk t s=>by
   obtain⟨_,r,_,_,er,_,_,rb⟩:=RD k hk
   obtain⟨_,_,g,_,eg,_,_,_,gb⟩:=GD k hk
   rw [er,eg]
   exact Nat.le_trans (intBits_mul_le (g2o (by decide) rb s) (intBits_mul_le (g2o (by decide) gb (t - s)) bb)) (by decide)
  obtain⟨Pt,tin,tout⟩:=b7u (fun _ σ' H'=>∃ v6 v7 v8 v9 v10 v11:Option V,σ' = [some (.ref fp),some (.ref al),some (.ref rl),some (.int (n:Int)),some (.int Lw),v5,v6,v7,v8,v9,v10,v11]/\H'=H1)
  refine a9w (lo:=0) Pt (tin _ _ _ ⟨_,_,_,_,_,_,rfl,rfl⟩) ?_ ?_
  ·intro t σ H2 ht hp
   obtain⟨v6,v7,v8,v9,v10,v11,rfl,rfl⟩:=tout _ _ _ hp
   clear hp
   walk_at "rd*"
   refine⟨by omega,by omega,?_⟩
   rw [Int.toNat_natCast]
   obtain⟨Pk,kin,kout⟩:=b7u (fun k σ' H'=>∃ v8 v9 v10 v11:Option V,σ' = [some (.ref fp),some (.ref al),some (.ref rl),some (.int (n:Int)),some (.int Lw),v5,some (.int (t:Int)),some (.int (d2g k fun k=>d2g (t+1) fun s=>(rows.getD k []).getD s 0*((G.getD k []).getD (t - s) 0*by'))),v8,v9,v10,v11]/\H'=H2)
   refine a9w (lo:=0) Pk (kin _ _ _ ⟨_,_,_,_,rfl,rfl⟩) ?_ ?_
   ·intro k σ H3 hk hp
    obtain⟨w8,w9,w10,w11,rfl,rfl⟩:=kout _ _ _ hp
    obtain⟨ra,r,hra,_,er,hr1,rn,rb⟩:=RD k hk
    obtain⟨p,l,g,hp1,eg,hp2,hl,gn,gb⟩:=GD k hk
    have a1:atI (pas.map V.ref) (k:Int)=some (.ref p):=b1t (by rw [List.getElem?_map,hp1]; rfl)
    have a2:atI (ras.map V.ref) (k:Int)=some (.ref ra):=b1t (by rw [List.getElem?_map,hra]; rfl)
    have cB':(CFd Lw B)=True:=eq_true cB
    clear hp
    obtain⟨D0,eD⟩:∃ D0,(d2g k fun k=>d2g (t+1) fun s=>(rows.getD k []).getD s 0*((G.getD k []).getD (t - s) 0*by'))=D0:=⟨_,rfl⟩
    rw [eD]
    walk_at "rd*"
    refine⟨by omega,by omega,?_⟩
    rw [show ((t:Int)+1).toNat=t+1 by omega]
    obtain⟨Ps,sin',sout⟩:=b7u (fun s σ' H'=>∃ v10 v11:Option V,σ' = [some (.ref fp),some (.ref al),some (.ref rl),some (.int (n:Int)),some (.int Lw),v5,some (.int (t:Int)),some (.int (D0+d2g s fun s=>r.getD s 0*(g.getD (t - s) 0*by'))),some (.int (k:Int)),some (.int by'),v10,v11]/\H'=H3)
    refine a9w (lo:=0) Ps (sin' _ _ _ ⟨_,_,by rw [show d2g 0 _=0 from rfl,Int.add_zero],rfl⟩) ?_ ?_
    ·intro s σ H4 hs' hp
     obtain⟨u10,u11,rfl,rfl⟩:=sout _ _ _ hp
     have a3:atI (r.map V.int) (s:Int)=some (.int (r.getD s 0)):=b1t (by rw [List.getElem?_map,List.getD_eq_getElem?_getD,List.getElem?_eq_getElem (by omega)]; rfl)
     have a4:atI (g.map V.int) ((t:Int) - (s:Int))=some (.int (g.getD (t - s) 0)):=by
      rw [show (t:Int) - (s:Int)=((t - s:Nat):Int) by omega]
      exact b1t (by rw [List.getElem?_map,List.getD_eq_getElem?_getD,List.getElem?_eq_getElem (by omega)]; rfl)
     have b1:=g2o (by decide) gb (t - s)
     have b2:=g2o (by decide) rb s
     have b3:=intBits_mul_le b1 bb
     have nx:=sin' (s+1)
     simp only [b4u,<- Int.add_assoc] at nx
     clear hp
     generalize d2g s (fun s=>r.getD s 0*(g.getD (t - s) 0*by'))=D1 at nx ⊢
     generalize g.getD (t - s) 0=y at a4 b1 b3 nx ⊢
     generalize r.getD s 0=x at a3 b2 nx ⊢
     walk_at "rd*"
     exact⟨IntMulOk.of_le b1 bb (by decide),IntMulOk.of_le b2 b3 (by decide),nx _ _ ⟨_,_,rfl,rfl⟩⟩
    ·intro σ H4 hp
     obtain⟨u10,u11,rfl,rfl⟩:=sout _ _ _ hp
     have e:=b4u k fun k=>d2g (t+1) fun s=>(rows.getD k []).getD s 0*((G.getD k []).getD (t - s) 0*by')
     rw [eD,er,eg] at e
     exact kin _ _ _ ⟨_,_,_,_,by rw [e],rfl⟩
   ·intro σ H3 hp
    obtain⟨w8,w9,w10,w11,rfl,rfl⟩:=kout _ _ _ hp
    clear hp
    obtain⟨D0,eD⟩:∃ D0,(d2g rows.length fun k=>d2g (t+1) fun s=>(rows.getD k []).getD s 0*((G.getD k []).getD (t - s) 0*by'))=D0:=⟨_,rfl⟩
    rw [eD]
    have a1:atI (F.map V.int) (t:Int)=some (.int (F.getD t 0)):=b1t (by rw [List.getElem?_map,List.getD_eq_getElem?_getD,List.getElem?_eq_getElem (by omega)]; rfl)
    have b1:=g2o (by decide) Fb t
    have bD:intBits D0<=80200:=by
     rw [<- eD]
     exact Nat.le_trans (f2j (C:=80101) (by decide) _ fun k hk=>Nat.le_trans (f2j (C:=80000) (by decide) (t+1) fun s _=>dR k hk t s) (by omega)) (by omega)
    have eq:F.getD t 0*Lw=D0*B:=by
     have e1:D0=F.getD t 0*by':=by
      rw [<- eD,sup t ht,<- g7u]
      refine a6u fun k _=>?_
      rw [<- g7u]
      exact a6u fun s _=>(Int.mul_assoc _ _ _).symm
     obtain⟨m,em⟩:∃ m,rows.length=m+1:=⟨rows.length - 1,by omega⟩
     have e2:by'*B=Lw:=by
      rw [<- eby,<- eL,em,Int.pow_succ,Int.mul_fdiv_cancel _ (by omega)]
     rw [e1,Int.mul_assoc,e2]
    clear sup eD dR
    generalize F.getD t 0=x at a1 b1 eq
    have eqf:(¬ x*Lw=D0*B)=False:=eq_false (not_not_intro eq)
    clear eq
    walk_at "rd*"
    exact⟨IntMulOk.of_le b1 bl (by omega),IntMulOk.of_le bD Bb (by decide),tin _ _ _ ⟨_,_,_,_,_,_,rfl,rfl⟩⟩
  ·intro σ H2 hp
   obtain⟨v6,v7,v8,v9,v10,v11,rfl,rfl⟩:=tout _ _ _ hp
   walk_at "rd"
   exact q
theorem i9r{a b:Nat}(a1:1<=a)(a3:a<=3)(b1:1<=b)(b4:b<=4):Nms (nmT.take a) (nmB.take b):=by
 have al:∀ z∈nmT++nmB,d6s z:=by unfold d6s; decide +kernel
 have nd:(nmT++nmB).Nodup:=by decide +kernel
 have sb:(nmT.take a++nmB.take b).Sublist (nmT++nmB):=(List.take_sublist _ _).append (List.take_sublist _ _)
 have l1:(nmT.take a).length=a:=by rw [List.length_take]; show min a 3=a; omega
 have l2:(nmB.take b).length=b:=by rw [List.length_take]; show min b 4=b; omega
 exact⟨fun z hz=>al z (sb.subset hz),nd.sublist sb,by omega,by omega,by omega,by omega⟩
theorem j3q{ts:List Str}{rows:List (List Int)}{n:Nat}(h:∀ r∈rows,r.length=n/\∀ y∈r,intBits y<=50)(z:Str):(fdF ts rows n z).length=n/\∀ y∈fdF ts rows n z,intBits y<=50:=by
 unfold fdF
 rw [List.getD_eq_getElem?_getD]
 cases e:rows[ts.idxOf z]? with
 | none=>exact⟨List.length_replicate,fun y hy=>by rw [(List.mem_replicate.mp hy).2]; decide⟩
 | some r=>exact h r (List.mem_of_getElem? e)
theorem j3r(nt n k:Nat):∀ r∈imR nt n k,r.length=n/\∀ y∈r,intBits y<=50:=fun r hr=>by
 unfold imR at hr
 obtain⟨j,_,rfl⟩:=List.mem_map.mp hr
 have z0:∀ y∈List.replicate n (0:Int),intBits y<=50:=fun y hy=>by rw [(List.mem_replicate.mp hy).2]; decide
 split
 ·refine⟨f8u n,fun x hx=>?_⟩
  rcases List.mem_cons.mp (List.mem_of_mem_take hx) with e | m
  ·rw [e]; decide
  ·exact z0 x m
 ·exact⟨List.length_replicate,z0⟩
theorem i9s (T : Tx K mg A) : a1q P A.wd K mg base CX0 17 A.g1c A.d6h ["_law_script"] (g3g 63 K) := by
 have b4v:a1q P A.wd K mg base CX0 1 _ _ _ _:=h6m T
 have g6g:a1q P A.wd K mg base CX0 13 _ _ _ _:=h6p T
 have f9k:a1q P A.wd K mg base CX0 16 _ _ _ _:=i4n T
 have d1z:a1q P A.wd K mg base CX0 15 _ _ _ _:=i0x T
 have g6h:a1q P A.wd K mg base CX0 1 _ _ _ _:=h6q T
 refine T.h3r.ok c7k (fun vs H Q E h=>?_) (fun cdv A' outer s H vs Q E hr h=>?_)
 ·obtain⟨a,ns,rfl,_⟩:=h
  rfl
 ·obtain⟨a,ns,rfl,hS,hl,hbit,hO,q⟩:=h
  have hu:=hr.units
  have b1m:a2p 1 _:=hr.mono (by decide)
  have g2p:a2p 13 _:=hr.mono (by decide)
  have f3q:a2p 16 _:=hr.mono (by decide)
  have d0n:a2p 15 _:=hr.mono (by decide)
  have g2q:a2p 1 _:=hr.mono (by decide)
  have hs:sizeLine=16777216:=sizeLine_eq
  have bc:∀ k:Nat,intBits (ns.getD k 0)<=1100000:=fun k=>Nat.le_trans (h2j hbit k) (by decide)
  refine⟨_,(a0h (a0s (i:=1) c7k.nd rfl (Or.inl rfl) (a0v b4v b1m (by rfl) T.b9k T.a5w.kp T.b9j .nil a1j (a0g (pvF 0) (a0g a0k a0i))))
   (a0h (a0s (i:=2) c7k.nd rfl (Or.inl rfl) (a0w a2i a0k (a0w b1j (pvF 1) a0k)))
   (b1i (a0s (i:=3) c7k.nd rfl (Or.inl rfl) (a0w a2i (a5k g0g (a3y (a0g a3g (a0g a3g (a0g a3g a0i)))) b1h (a3t (pvF 2))) (a5k g0g (a3y (a0g a3g (a0g a3g (a0g a3g (a0g a3g a0i))))) b1h (a3t (a0w a2i a0k (a0w b1j (a0w a8t (pvF 1) a0k) a0k))))))
   (a0h (a0s (i:=4) c7k.nd rfl (Or.inl rfl) (a0v g6g g2p (by rfl) T.g4q T.c0v.kp T.g4p .nil a1j (a0g (pvF 0) (a0g (pvF 3) (a0g (pvF 2) a0i)))))
   (a0h (a0s (i:=5) c7k.nd rfl (Or.inr rfl) (a0w a2i (a0w a3w a0k (a0w d8m a0k a0k)) a0k))
   (b1i (a0s (i := 6) c7k.nd rfl (Or.inr rfl) (b9z (a2m (a5k j1s (pvF 0) (a3t a0k) (a3t a0k))) (fun _ _ _ _ _ => (a0w d8l (a0w b1j (a0w b1j (a0w a3w (pvF 0) a0k) (a0w a2i (a0w d8m a0k a0k) a0k)) (pvF 6)) (a0w d8m a0k a0k))) (c7u (sc := a0l h3m) (N := ["_law_script", "_law_first", "_law_tracks", "_law_names", "_law_patch_here", "_law_far", "_law_tones", "_law_size", "_law_rows", "_law_answers_here", "_law_found", "_law_name"]) rfl rfl (by decide +kernel)) rfl))
   (a0h (a0s (i:=7) c7k.nd rfl (Or.inr rfl) (a0w a8t (a1g a2k (by rfl) T.b6z boot_len (a0g (pvF 6) a0i)) (pvF 2)))
   (b1i (f5p (i := 8) c7k.nd rfl rfl (a4r (by rfl) T.b4q (a0g (pvF 2) a0i)) (fun _ _ _ _ _ => (a5k g0g (pvF 7) (a3t (a0w a3w (pvF 0) (pvF 8))) (a3t (a0w a3w (a0w a2i (pvF 0) a0k) (pvF 8))))) (c7u (sc := a0l h3m) (N := ["_law_script", "_law_first", "_law_tracks", "_law_names", "_law_patch_here", "_law_far", "_law_tones", "_law_size", "_law_rows", "_law_answers_here", "_law_found", "_law_name"]) rfl rfl (by decide +kernel)) rfl)
   (a0h (a0s (i:=9) c7k.nd rfl (Or.inl rfl) (a0v f9k f3q (by rfl) T.f7i T.b4k.kp T.f7h .nil a1j (a0g (pvF 4) (a0g (pvF 3) (a0g (pvF 2) (a0g (pvF 7) a0i))))))
   (a0h (a0s (i:=10) c7k.nd rfl (Or.inl rfl) (a0v d1z d0n (by rfl) T.f0w T.b6y.kp T.f0v .nil a1j (a0g (pvF 4) (a0g (pvF 3) (a0g (pvF 8) a0i)))))
   (a0h (a3n PassesOwn.never rfl (a2m (a5k g0g (pvF 3) (a3t (pvF 2)) b1h)) (a2o (i:=11) c7k.nd rfl (Or.inr rfl))
   (a0h (a6n (a1r (c2z hu) (a1g a2k (by rfl) T.b6z boot_len (a0g (a1t a5m (a7g (hu1 hu) (pvF 10) (pvF 11) (fun _ _=>rfl)) a0k (fun _ _=>rfl)) a0i)) (pvF 7) (a2s _))
   (a0j (a1h f2l))
   a2h)
   (a0j (a6n (c6z (b1u (a0v g6h g2q (by rfl) T.g4s T.c0w.kp T.g4r .nil a1j (a0g (a7g (hu1 hu) (pvF 10) (pvF 11) (fun _ _ => rfl)) (a0g (b9z (a2m (pvF 9)) (fun _ _ _ _ _ => (a7g (hu1 hu) (pvF 0) (pvF 12) (fun _ _ => rfl))) (c7u (sc := a0l h3m) (N := ["_law_script", "_law_first", "_law_tracks", "_law_names", "_law_patch_here", "_law_far", "_law_tones", "_law_size", "_law_rows", "_law_answers_here", "_law_found", "_law_name"]) rfl rfl (by decide +kernel)) rfl) (a0g (pvF 8) (a0g (pvF 7) a0i)))))))
   (a0j (a1h f2l))
   a2h))))
   (a0j (a1h f2l))))))))))))),?_⟩
  walk_at "rd"
  refine⟨ns,hS,?_⟩
  have f1:=c1j (ns.getD 0 0) (b:=3) (by decide)
  have f2:=c1j ((ns.getD 0 0).fdiv 3) (b:=4) (by decide)
  obtain⟨nt,ent⟩:∃ nt:Nat,1+(ns.getD 0 0).fmod 3=(nt:Int):=⟨(1+(ns.getD 0 0).fmod 3).toNat,by omega⟩
  obtain⟨nb,enb⟩:∃ nb:Nat,1+((ns.getD 0 0).fdiv 3).fmod 4=(nb:Int):=⟨(1+((ns.getD 0 0).fdiv 3).fmod 4).toNat,by omega⟩
  have nms:=i9r (a:=nt) (b:=nb) (by omega) (by omega) (by omega) (by omega)
  have tl:(nmT.take nt).length=nt:=by rw [List.length_take]; show min nt 3=nt; omega
  obtain⟨ts,ets⟩:∃ ts,nmT.take nt=ts:=⟨_,rfl⟩
  obtain⟨bu,ebu⟩:∃ bu,nmB.take nb=bu:=⟨_,rfl⟩
  obtain⟨Mid2,in2,out2⟩:=g6v (fun σ' H'=>∃ (fi:Int) (nl:Addr),σ' = [some (.ref a),some (.int fi),some (.int (nt:Int)),some (.ref nl),none,none,none,none,none,none,none,none]/\Same H H'/\H' nl=some (.lst ((ts++bu).map V.str)))
  rw [ent]
  refine⟨Mid2,?_,?_⟩
  ·have cs:∀ (xs:List Str) lo hi,f5k (xs.map V.str) lo hi=(f2k xs lo hi).map V.str:=fun xs lo hi=>d7n V.str xs lo hi
   walk_at "rd"
   refine⟨by omega,fun l1 H1 n1 S1 h1=>?_⟩
   rw [show [V.str (Str.ofString "dry"), V.str (Str.ofString "wet"), V.str (Str.ofString "x")] = nmT.map V.str from rfl] at h1
   walk_at "rd*"
   intro l2 H2 n2 S2 h2
   rw [c3k,ets] at h2
   walk_at "rd"
   refine⟨by omega,fun l3 H3 n3 S3 h3=>?_⟩
   rw [show [V.str (Str.ofString "mix"), V.str (Str.ofString "left"), V.str (Str.ofString "y"), V.str (Str.ofString "room")] = nmB.map V.str from rfl] at h3
   have h23:=S3 _ _ h2
   clear h1 h2
   walk_at "rd*"
   refine⟨⟨by decide,by decide⟩,fun l4 H4 n4 S4 h4=>?_⟩
   rw [c3k,ebu] at h4
   have h24:=S4 _ _ h23
   have l9:=List.length_append (as:=ts) (bs:=bu)
   have tb9:ts.length<=3/\bu.length<=4:=by rw [<- ets,<- ebu,List.length_take,List.length_take]; show min nt 3<=3/\min nb 4<=4; omega
   clear h3 h23
   walk_at "rd*"
   refine⟨by omega,fun l5 H5 n5 S5 h5=>in2 _ _ ⟨_,l5,rfl,S1.trans (S2.trans (S3.trans (S4.trans S5))),by rw [h5,List.map_append]⟩⟩
  intro σ2 H2 hm2
  obtain⟨fi,nl,rfl,S2,hn2⟩:=out2 _ _ hm2
  rw [ets,ebu] at nms
  rw [ets] at tl
  clear hm2 in2 out2 f1 f2 ets ebu ent enb
  walk_at "rd"
  refine⟨ns,ts,by rw [tl],S2.seq hS,bc,bu,hn2,nms,fun po bs es H3 S3 P3 gd=>?_⟩
  have hn3:=S3 _ _ hn2
  have S03:=S2.trans S3
  have t13:=nms.2.2.1
  have t33:=nms.2.2.2.1
  clear hn2
  obtain⟨Mid5,in5,out5⟩:=g6v (fun σ' H'=>∃ (lt:Addr) (tn:List Int),σ' = [some (.ref a),some (.int fi),some (.int (nt:Int)),some (.ref nl),some (.ref po),some (.int 2000000000001),some (.ref lt),none,none,none,none,none]/\Same H3 H'/\H' lt=some (.lst (tn.map V.int))/\tn.length<=63/\∀ x∈tn,-1000000000000<=x/\x<=1000000000000)
  refine⟨by decide,IntMulOk.of_left (by decide),Mid5,?_,?_⟩
  ·walk_at "rd"
   refine⟨_,S03.seq hS,fun p4 H4 n4 S4 h4=>?_⟩
   rw [c3j] at h4
   have hmem:∀ x∈f2k ns (some 8) (some 44),intBits x<=1100000:=fun x hx=>Nat.le_trans (hbit x (h7k hx)) (by decide)
   have ml:=h7l ns (some 8) (some 44)
   generalize f2k ns (some 8) (some 44)=ms at h4 hmem ml
   walk_at "rd"
   refine⟨⟨_,SqL.of h4⟩,fun D H5 n5 S5 h5=>?_⟩
   refine a9z (xs:=ms.map V.int) (fun i ys H'=>Same H4 H'/\H' D=some (.lst ys)/\∃ tn:List Int,ys=tn.map V.int/\tn.length=i/\∀ x∈tn,-1000000000000<=x/\x<=1000000000000) ⟨S5,h5,[],rfl,rfl,fun x hx=>by cases hx⟩ (by rw [List.length_map]; omega) ?_ ?_ ?_
   ·intro i ys H' hi ⟨S',h',tn,e,tl',_⟩
    exact⟨h',SqL.of (S' _ _ h4),by rw [e,List.length_map]; exact tl'⟩
   ·intro i x ys H' hx ⟨S',h',tn,e,tl',tb⟩
    rw [List.getElem?_map] at hx
    obtain⟨c,hc,rfl⟩:=Option.map_eq_some_iff.mp hx
    have bx:=hmem c (List.mem_of_getElem? hc)
    walk_at "rd"
    have f:=c1j ((c*618033988749894848204587).fmod 1000000000000000000000007) (b:=2000000000001) (by decide)
    refine ⟨by walk_at "mul", by decide, by decide, h', ?_⟩
    generalize ((c*618033988749894848204587).fmod 1000000000000000000000007).fmod 2000000000001=X at f ⊢
    refine fun H7 B7 h7=>⟨S'.step n5 B7,h7,tn++[X - 1000000000000],by rw [e,List.map_append]; rfl,by rw [List.length_append,tl']; rfl,fun y hy=>?_⟩
    rcases List.mem_append.mp hy with m | m
    ·exact tb y m
    ·rw [List.mem_singleton.mp m]
     omega
   intro ys H6 ⟨S6,h6,tn,e,tl',tb⟩
   subst e
   rw [List.length_map] at tl'
   walk_at "rd"
   exact in5 _ _ ⟨D,tn,rfl,S4.trans S6,h6,by omega,tb⟩
  intro σ5 H5 hm5
  obtain⟨lt,tn,rfl,S5,h5,tn63,tnb⟩:=out5 _ _ hm5
  clear hm5 in5 out5
  have S05:=S03.trans S5
  have P5:=P3.same S5
  have hn5:=S5 _ _ hn3
  clear hn3 P3
  walk_at "rd*"
  obtain⟨n,en,nle⟩:∃ n:Nat,(tn.length:Int).fdiv (nt:Int)=(n:Int)/\nt*n<=tn.length:=⟨tn.length / nt,by rw [Int.fdiv_eq_ediv_of_nonneg _ (by omega)]; rfl,Nat.mul_div_le _ _⟩
  rw [en]
  obtain⟨rws,erw⟩:∃ rws,(List.range nt).map (fun k=>(tn.drop (k*n)).take n)=rws:=⟨_,rfl⟩
  have n63:n<=63:=by
   have:1*n<=nt*n:=Nat.mul_le_mul_right _ (by omega)
   omega
  have rwl:rws.length=ts.length:=by rw [<- erw,List.length_map,List.length_range,tl]
  have rwo:∀ r∈rws,r.length=n/\∀ y∈r,-1000000000000<=y/\y<=1000000000000:=fun r hr'=>by
   rw [<- erw] at hr'
   obtain⟨k,hk,rfl⟩:=List.mem_map.mp hr'
   have hk:=List.mem_range.mp hk
   have:(k+1)*n<=nt*n:=Nat.mul_le_mul_right _ (by omega)
   rw [Nat.succ_mul] at this
   exact⟨by rw [List.length_take,List.length_drop]; omega,fun y hy=>tnb y (List.mem_of_mem_drop (List.mem_of_mem_take hy))⟩
  obtain⟨Mid7,in7,out7⟩:=g6v (fun σ' H'=>∃ (lr:Addr) (ras:List Addr),σ' = [some (.ref a),some (.int fi),some (.int (nt:Int)),some (.ref nl),some (.ref po),some (.int 2000000000001),some (.ref lt),some (.int (n:Int)),some (.ref lr),none,none,none]/\Same H5 H'/\H' lr=some (.lst (ras.map V.ref))/\Rws H' ras rws)
  refine⟨⟨by omega,intBits_le_iff.mpr (by omega:(nt:Int).natAbs < 2 ^ 9000) ⟩,Mid7,?_,?_⟩
  ·walk_at "rd*"
   refine⟨by omega,by omega,fun D H6 n6 S6 h6=>?_⟩
   rw [Int.toNat_natCast]
   refine d1h (fun j ys H'=>Same H5 H'/\H' D=some (.lst ys)/\∃ ras:List Addr,ys=ras.map V.ref/\ras.length=j/\∀ (k:Nat) b,ras[k]? = some b->H' b=some (.lst (((tn.drop (k*n)).take n).map V.int))/\b≠D) ⟨S6,h6,[],rfl,rfl,fun k b hb=>by simp at hb⟩ (by omega) ?_ ?_ ?_
   ·intro j ys H' hj ⟨S',h',ras,e,rl,_⟩
    exact⟨h',by rw [e,List.length_map]; exact rl⟩
   ·intro j ys H' hj ⟨S',h',ras,e,rl,ra⟩
    have h5':=S' _ _ h5
    clear h6
    walk_at "rd*"
    refine⟨IntMulOk.of_left (intBits_le_64 (by omega) (by omega)),IntMulOk.of_left (intBits_le_64 (by omega) (by omega)),fun l8 H8 n8 S8 h8=>?_⟩
    rw [c3j,show ((j:Int)+1)*(n:Int)=((j*n:Nat):Int)+(n:Int) by rw [Int.add_mul,Int.one_mul,Int.natCast_mul],show (j:Int)*(n:Int)=((j*n:Nat):Int) by rw [Int.natCast_mul],h2n] at h8
    have nD:l8≠D:=fun k=>by rw [k,h'] at n8; cases n8
    refine⟨S8 _ _ h',fun H9 B9 h9=>⟨(S'.trans S8).step n6 B9,h9,ras++[l8],by rw [e,List.map_append]; rfl,by rw [List.length_append,rl]; rfl,fun k b hb=>?_⟩⟩
    rcases Nat.lt_or_ge k ras.length with hk | hk
    ·rw [List.getElem?_append_left hk] at hb
     exact⟨B9 _ _ (ra k b hb).2 (S8 _ _ (ra k b hb).1),(ra k b hb).2⟩
    ·have hk':=(List.getElem?_eq_some_iff.mp hb).1
     rw [List.length_append,List.length_singleton] at hk'
     obtain rfl:k=ras.length:=by omega
     rw [List.getElem?_concat_length] at hb
     cases hb
     rw [rl]
     exact⟨B9 _ _ nD h8,nD⟩
   intro ys H7 ⟨S7,h7,ras,e,rl,ra⟩
   subst e
   walk_at "rd"
   refine in7 _ _ ⟨D,ras,rfl,S7,h7,by rw [rl,rwl,tl],fun k b r hb hr'=>?_⟩
   have hk:=(List.getElem?_eq_some_iff.mp hb).1
   rw [<- erw,List.getElem?_map,List.getElem?_range (by omega)] at hr'
   rw [<- Option.some.inj hr']
   exact (ra k b hb).1
  intro σ7 H7 hm7
  obtain⟨lr,ras,rfl,S7,h7,R7⟩:=out7 _ _ hm7
  clear hm7 in7 out7 erw h5 tnb nle en
  have S07:=S05.trans S7
  have P7:=P5.same S7
  have hn7:=S7 _ _ hn5
  clear P5 hn5
  walk_at "rd"
  refine⟨ts,by rw [tl],bu,bs,es,_,n,rfl,P7,gd,nms,hn7,by omega,fun al das H8 C8 h8 dl an8=>?_⟩
  have R8:Rws H8 ras rws:=⟨R7.1,fun i b r h1 h2=>C8 _ _ noL (R7.2 i b r h1 h2)⟩
  have blk':∀ r∈rws,h4v r/\r.length=n:=fun r hr'=>⟨⟨by rw [(rwo r hr').1]; omega,(rwo r hr').2⟩,(rwo r hr').1⟩
  refine⟨ts,bu,bs,es,_,P7.d5h C8,gd,nms,C8 _ _ noL hn7,rws,ras,C8 _ _ noL h7,R8,rwl,n,blk',by omega,fun fd kf H9 C9 h9 F9=>?_⟩
  have hn9:=C9 _ _ noL (C8 _ _ noL hn7)
  have an9:=an8.d5h C9
  have h89:=C9 _ _ noL h8
  have R9:Rws H9 ras rws:=⟨R7.1,fun i b r h1 h2=>C9 _ _ noL (R8.2 i b r h1 h2)⟩
  have hr9:=C9 _ _ noL (C8 _ _ noL h7)
  obtain⟨o1,o2,o3,o4⟩:=gd.ord
  clear P7 hn7 h7 R7 R8 h8 an8
  rw [hn9,<- tl]
  have cs:∀ (xs:List Str) lo hi,f5k (xs.map V.str) lo hi=(f2k xs lo hi).map V.str:=fun xs lo hi=>d7n V.str xs lo hi
  try simp only [cs,a9k,List.drop_left]
  intro l10 H10 n10 S10 h10
  have F10:=(F9.d5h (A:=A) (c1n.of S10)).mono (R':=fun _=>True) fun _ _=>trivial
  have j3p:=an9.d5h (A:=A) (c1n.of S10)
  have h910:=S10 _ _ h9
  have j5j:=S10 _ _ h89
  have hr10:=S10 _ _ hr9
  have R10:Rws H10 ras rws:=⟨R9.1,fun i b r h1 h2=>S10 _ _ (R9.2 i b r h1 h2)⟩
  clear F9 an9 h9 h89 hr9 R9 hn9
  refine⟨⟨_,SqL.of h10⟩,?_⟩
  obtain⟨Pv,pin,pout⟩:=b7u (fun _ σ' H'=>∃ (v:Option V),σ' = [some (.ref a),some (.int fi),some (.int (ts.length:Int)),some (.ref nl),some (.ref po),some (.int 2000000000001),some (.ref lt),some (.int (n:Int)),some (.ref lr),some (.ref al),some (.ref fd),v]/\Same H10 H')
  refine a4l (xs:=bu.map V.str) Pv (pin _ _ _ ⟨_,rfl,Same.refl _⟩) ?_ ?_ ?_
  ·intro i σ H11 hi hp
   obtain⟨v,rfl,S11⟩:=pout _ _ _ hp
   exact SqL.of (S11 _ _ h10)
  ·intro i v σ H11 hv hp
   obtain⟨v11,rfl,S11⟩:=pout _ _ _ hp
   rw [List.getElem?_map] at hv
   obtain⟨x,hx,rfl⟩:=Option.map_eq_some_iff.mp hv
   have mx:x∈ts++obL bs es:=List.mem_append_right _ ((o3 x).mpr (List.mem_of_getElem? hx))
   obtain⟨pr,lo,f1,f2,f3,_⟩:=F10 x mx
   have f2':=S11 _ _ f2
   have f3':=S11 _ _ f3
   have h9':=S11 _ _ h910
   have fl:=i4j (ts:=ts) rwl (fun r hr'=>(rwo r hr').1) es (c7o es (obL bs es)) (obL bs es) x
   have fli:((flw es (c7o es (obL bs es)) n (fdF ts rws n) (obL bs es) x).length:Int)=(n:Int):=by rw [fl]
   clear hv hp f2 f3
   walk_at "rd*"
   refine⟨⟨_,SqL.of (S11 _ _ j5j)⟩,fun D H12 n12 S12 h12=>?_⟩
   obtain⟨gx,egx⟩:∃ gx,c7o es (obL bs es) x=gx:=⟨_,rfl⟩
   obtain⟨Gf,eG⟩:∃ Gf:Nat->List Int,(fun k=>flw es (c7o es (obL bs es)) n (fdF ts (imR ts.length n k) n) (obL bs es) x)=Gf:=⟨_,rfl⟩
   have anx:∀ (k:Nat) d,das[k]? = some d->∃ kf' p l,H11 d=some (.dK kf')/\b8k kf' (kT x)=some (.ref p)/\H11 p=some (.tup [.ref l,.int gx])/\H11 l=some (.lst ((Gf k).map V.int)):=fun k d hd=>by
    obtain⟨kf',a1,a2⟩:=j3p k d hd
    obtain⟨p,l,b1,b2,b3,_⟩:=a2 x mx
    exact⟨kf',p,l,S11 _ _ a1,b1,by rw [<- egx]; exact S11 _ _ b2,by rw [<- eG]; exact S11 _ _ b3⟩
   refine a9z (xs:=das.map V.ref) (fun i ys H'=>Same H11 H'/\H' D=some (.lst ys)/\∃ pas:List Addr,ys=pas.map V.ref/\pas.length=i/\∀ (k:Nat) p,pas[k]? = some p->∃ l,H11 p=some (.tup [.ref l,.int gx])/\H11 l=some (.lst ((Gf k).map V.int))) ⟨S12,h12,[],rfl,rfl,fun k p hp=>by simp at hp⟩ (by rw [List.length_map]; omega) ?_ ?_ ?_
   ·intro j ys H' hj ⟨S',h',pas,e,pl,_⟩
    exact⟨h',SqL.of (S' _ _ (S11 _ _ j5j)),by rw [e,List.length_map]; exact pl⟩
   ·intro j y ys H' hy ⟨S',h',pas,e,pl,pa⟩
    rw [List.getElem?_map] at hy
    obtain⟨d,hd,rfl⟩:=Option.map_eq_some_iff.mp hy
    obtain⟨kf',p,l,a1,a2,a3,a4⟩:=anx j d hd
    have a1':=S' _ _ a1
    clear hy h9' f2' f3'
    walk_at "rd*"
    refine fun H13 B13 h13=>⟨S'.step n12 B13,h13,pas++[p],by rw [List.map_append]; rfl,by rw [List.length_append,pl]; rfl,fun k b hb=>?_⟩
    rcases Nat.lt_or_ge k pas.length with hk | hk
    ·rw [List.getElem?_append_left hk] at hb
     exact pa k b hb
    ·have hk':=(List.getElem?_eq_some_iff.mp hb).1
     rw [List.length_append,List.length_singleton] at hk'
     obtain rfl:k=pas.length:=by omega
     rw [List.getElem?_concat_length] at hb
     cases hb
     rw [pl]
     exact⟨l,a3,a4⟩
   intro ys H13 ⟨S13,h13,pas,e,pl,pa⟩
   subst e
   rw [List.length_map,dl] at pl
   try walk_at "rd"
   have sok:∀ e∈es,h4t e:=fun e he=>(gd.2.2.2.2 e he).1
   have bo:=f8o sok _ (obL bs es) rfl
   have c6:100*2 ^ f4r es (obL bs es)<=100*2 ^ 6:=Nat.mul_le_mul_left _ (Nat.pow_le_pow_right (by decide) (Nat.le_trans (g5y es o2) gd.2.2.2.1))
   have bb:∀ z,intBits (c7o es (obL bs es) z)<=6400:=fun z=>Nat.le_trans (bo z).2 c6
   have ob4:(obL bs es).length<=4:=by rw [o1]; exact nms.2.2.2.2.2
   have rwb:∀ r∈rws,r.length=n/\∀ y∈r,intBits y<=50:=fun r hr'=>⟨(rwo r hr').1,fun y hy=>intBits_le_iff.mpr (by have:=(rwo r hr').2 y hy; omega:y.natAbs < 2 ^ 50)⟩
   have fb:∀ {rows:List (List Int)},(∀ r∈rows,r.length=n/\∀ y∈r,intBits y<=50)->(flw es (c7o es (obL bs es)) n (fdF ts rows n) (obL bs es) x).length=n/\∀ y∈flw es (c7o es (obL bs es)) n (fdF ts rows n) (obL bs es) x,intBits y<=60000:=fun h=>by
    have:=h6l sok gd.2.2.2.1 bb o4 (fun z _=>j3q (ts:=ts) h z) _ (Nat.le_refl _) x (by rw [List.take_length]; exact mx)
    rw [List.take_length] at this
    exact⟨this.1,fun y hy=>Nat.le_trans (this.2 y hy) (by omega)⟩
   have Gk:∀ k,Gf k=flw es (c7o es (obL bs es)) n (fdF ts (imR ts.length n k) n) (obL bs es) x:=fun k=>by rw [<- eG]
   refine⟨gx,_,(List.range ts.length).map Gf,rws,lo,pas,ras,n,rfl,by rw [<- egx]; exact S13 _ _ f2',S13 _ _ f3',h13,⟨by rw [pl,List.length_map,List.length_range],fun k p g hk hg=>?_⟩,S13 _ _ (S11 _ _ hr10),⟨R10.1,fun j b r h1 h2=>S13 _ _ (S11 _ _ (R10.2 j b r h1 h2))⟩,by rw [List.length_map,List.length_range,rwl],fl,fun g hg=>?_,rwb,(fb rwb).2,by rw [<- egx]; exact (bo x).1,by rw [<- egx]; exact bb x,by omega,by omega,by omega,fun t ht=>?_,?_⟩
   ·have lk:=(List.getElem?_eq_some_iff.mp hk).1
    rw [List.getElem?_map,List.getElem?_range (by omega)] at hg
    rw [<- Option.some.inj hg]
    obtain⟨l,a1,a2⟩:=pa k p hk
    exact⟨l,S13 _ _ a1,S13 _ _ a2⟩
   ·obtain⟨k,_,rfl⟩:=List.mem_map.mp hg
    rw [Gk]
    exact fb (j3r _ n k)
   ·rw [i4i (ts:=ts) rwl (fun r hr'=>(rwo r hr').1) es _ _ x ht,rwl]
    refine a6u fun k hk=>a6u fun s _=>?_
    rw [List.getD_eq_getElem?_getD (l:=(List.range ts.length).map Gf),List.getElem?_map,List.getElem?_range hk]
    show _=_*(Gf k).getD (t - s) 0
    rw [Gk]
   ·exact pin _ _ _ ⟨_,rfl,S11.trans S13⟩
  ·intro σ H11 hp
   obtain⟨v,rfl,S11⟩:=pout _ _ _ hp
   walk_at "rd"
   exact q _
theorem len1{α:Type _}{us:List α}(h:us.length=1):∃ a,us = [a]:=match us,h with | [a],_=>⟨a,rfl⟩
local macro_rules | `(tactic| walk_at "b1") => `(tactic| (intro _ _ _ _ _ _ us hl; obtain ⟨_, e⟩ := len1 hl; subst e; rfl))
theorem len2{α:Type _}{us:List α}(h:us.length=2):∃ a b,us = [a,b]:=match us,h with | [a,b],_=>⟨a,b,rfl⟩
local macro_rules | `(tactic| walk_at "b2") => `(tactic| (intro _ _ _ _ _ _ us hl; obtain ⟨_, _, e⟩ := len2 hl; subst e; rfl))
theorem len3{α:Type _}{us:List α}(h:us.length=3):∃ a b c,us = [a,b,c]:=match us,h with | [a,b,c],_=>⟨a,b,c,rfl⟩
local macro_rules | `(tactic| walk_at "b3") => `(tactic| (intro _ _ _ _ _ _ us hl; obtain ⟨_, _, _, e⟩ := len3 hl; subst e; rfl))
theorem len4{α:Type _}{us:List α}(h:us.length=4):∃ a b c d,us = [a,b,c,d]:=match us,h with | [a,b,c,d],_=>⟨a,b,c,d,rfl⟩
local macro_rules | `(tactic| walk_at "b4") => `(tactic| (intro _ _ _ _ _ _ us hl; obtain ⟨_, _, _, _, e⟩ := len4 hl; subst e; rfl))
theorem all_mk {l : W.OpenLaw} {K : W.Frag} {h : Heap} {mg : Str → Option Value} {fa : Addr} {b5i a9l b5k b7y b5n b5p a3s a4v a9m b1v c0h c0i a9n a4q b5r a9o a6g b5s b2q a4y b2r b1w b5t a9p a6h b2u b5u b5v a9q a6i b5w a5h b1y b1z a7k b2g a7l b7z b3i b8g b8h c0j b5z b3j a6q b0p b0q b6h b0r a5r a2t b0s a5s c0k b3k a4u b0u b6j b3m b6k a8l b0w b3o b0z a6s a7m a7n b6l b6n b2h b2j a7o b2k g1c d6i a7u a4m a5i a6v a6t a3v a4n a3l : Addr} {b5j b0h b5l b5m b5o b5q a4g a5o b0i b2n b9p b9q b0j b0k b2o a7h a4w b2p b0l a4h b0m b2s b2t a7i a4z b0n b2v b2w a7j a5g b2y a5p b2z b3g a7y b3h a7z b9r b5y b9s b9t b9u b6g b0o a5q a8g a8h b6i a8i a4s a2q a8j a4t b9v b0t a3u a8k b3l b0v b3n a6r a8m b0y a8n a5t a8o a8p b6m b6o b3p b3q a8q b3r d6h : FuncData} {c3q a2u a2v b6p b6q b3s b3t c3r a8r b6r : Value} {wd : World} {es_READERS : Array DictEntry} {n_READERS : Nat} (X : K.In h) (G : h.Ns mainGlobals mg) (hfa : mg "law" = some (.ref fa)) (Y : Ty K ⟨b5i, b5j, a9l, b0h, b5k, b5l, b7y, b5m, b5n, b5o, b5p, b5q, a3s, a4g, a4v, a5o, a9m, b0i, b1v, b2n, c0h, b9p, c0i, b9q, a9n, b0j, a4q, b0k, b5r, b2o, a9o, a7h, a6g, a4w, b5s, b2p, b2q, b0l, a4y, a4h, b2r, b0m, b1w, b2s, b5t, b2t, a9p, a7i, a6h, a4z, b2u, b0n, b5u, b2v, b5v, b2w, a9q, a7j, a6i, a5g, b5w, b2y, a5h, a5p, b1y, b2z, b1z, b3g, a7k, a7y, b2g, b3h, a7l, a7z, b7z, b9r, b3i, b5y, b8g, b9s, b8h, b9t, c0j, b9u, b5z, b6g, b3j, b0o, a6q, a5q, b0p, a8g, b0q, a8h, b6h, b6i, b0r, a8i, a5r, a4s, a2t, a2q, b0s, a8j, a5s, a4t, c0k, b9v, b3k, b0t, a4u, a3u, b0u, a8k, b6j, b3l, b3m, b0v, b6k, b3n, a8l, a6r, b0w, a8m, b3o, b0y, b0z, a8n, a6s, a5t, a7m, a8o, a7n, a8p, b6l, b6m, b6n, b6o, b2h, b3p, b2j, b3q, a7o, a8q, b2k, b3r, g1c, d6h, d6i, a7u, a4m, a5i, a6v, a6t, a3v, a4n, c3q, a2u, a2v, b6p, b6q, b3s, b3t, c3r, a8r, b6r, a3l, wd⟩) (ld_READERS : K.lookup a3l = some ⟨.type "dict", none, .dict es_READERS n_READERS, #[]⟩) (kd_READERS : W.KeysLit wd.params es_READERS.toList) (ne_READERS : (a3l == sysModules) = false) : ∃ fd : FuncData, (∀ (s : Shared) (v : Value), BindsTo s fd ⟨[v], []⟩ [("_law_script", v)]) ∧ ∀ base : Heap, K.In base → base.Ns mainGlobals mg → a1q l.prog wd K mg base CX0 17 fa fd ["_law_script"] (g3g 63 K) := by
 have ea:fa=g1c:=by injection (hfa.symm.trans (W.mg_of X G Y.h8f)) with e; injection e
 rw [ea]
 have T : Tx K mg ⟨b5i, b5j, a9l, b0h, b5k, b5l, b7y, b5m, b5n, b5o, b5p, b5q, a3s, a4g, a4v, a5o, a9m, b0i, b1v, b2n, c0h, b9p, c0i, b9q, a9n, b0j, a4q, b0k, b5r, b2o, a9o, a7h, a6g, a4w, b5s, b2p, b2q, b0l, a4y, a4h, b2r, b0m, b1w, b2s, b5t, b2t, a9p, a7i, a6h, a4z, b2u, b0n, b5u, b2v, b5v, b2w, a9q, a7j, a6i, a5g, b5w, b2y, a5h, a5p, b1y, b2z, b1z, b3g, a7k, a7y, b2g, b3h, a7l, a7z, b7z, b9r, b3i, b5y, b8g, b9s, b8h, b9t, c0j, b9u, b5z, b6g, b3j, b0o, a6q, a5q, b0p, a8g, b0q, a8h, b6h, b6i, b0r, a8i, a5r, a4s, a2t, a2q, b0s, a8j, a5s, a4t, c0k, b9v, b3k, b0t, a4u, a3u, b0u, a8k, b6j, b3l, b3m, b0v, b6k, b3n, a8l, a6r, b0w, a8m, b3o, b0y, b0z, a8n, a6s, a5t, a7m, a8o, a7n, a8p, b6l, b6m, b6n, b6o, b2h, b3p, b2j, b3q, a7o, a8q, b2k, b3r, g1c, d6h, d6i, a7u, a4m, a5i, a6v, a6t, a3v, a4n, c3q, a2u, a2v, b6p, b6q, b3s, b3t, c3r, a8r, b6r, a3l, wd⟩ := ⟨Y, Y.b6u.binds (by walk_at "b1"), W.mg_of X G Y.d3y, Y.b3u.binds (by walk_at "b1"), W.mg_of X G Y.c8t, Y.c3s.binds (by walk_at "b1"), W.mg_of X G Y.d3z, Y.c3t.binds (by walk_at "b2"), W.mg_of X G Y.d9r, Y.c3u.binds (by walk_at "b2"), W.mg_of X G Y.d4g, Y.c3v.binds (by walk_at "b2"), W.mg_of X G Y.d4h, Y.a2z.binds (by walk_at "b1"), W.mg_of X G Y.c0l, Y.a9r.binds (by walk_at "b1"), W.mg_of X G Y.c0m, Y.a9s.binds (by walk_at "b2"), W.mg_of X G Y.c8u, Y.a7p.binds (by walk_at "b2"), W.mg_of X G Y.d1l, Y.c0s.binds (by walk_at "b3"), W.mg_of X G Y.d9s, Y.c0t.binds (by walk_at "b2"), W.mg_of X G Y.d9t, Y.c1r.binds (by walk_at "b1"), Y.c1s.binds (by walk_at "b1"), Y.c5s.binds (by walk_at "b2"), Y.c1t.binds (by walk_at "b1"), Y.b7p.binds (by walk_at "b4"), Y.c5t.binds (by walk_at "b1"), Y.c1u.binds (by walk_at "b2"), Y.b4g.binds (by walk_at "b4"), Y.c1v.binds (by walk_at "b1"), Y.b6v.binds (by walk_at "b2"), W.mg_of X G Y.d1m, Y.c5u.binds (by walk_at "b4"), Y.c1w.binds (by walk_at "b1"), Y.b7q.binds (by walk_at "b4"), Y.c1y.binds (by walk_at "b1"), Y.c5v.binds (by walk_at "b1"), Y.c5w.binds (by walk_at "b3"), Y.c1z.binds (by walk_at "b1"), Y.b7r.binds (by walk_at "b4"), Y.c5y.binds (by walk_at "b1"), Y.a9t.binds (by walk_at "b1"), W.mg_of X G Y.c0n, Y.c0u.binds (by walk_at "b2"), W.mg_of X G Y.d1n, Y.b2l.binds (by walk_at "b1"), W.mg_of X G Y.d1o, Y.a7q.binds (by walk_at "b3"), W.mg_of X G Y.c5g, Y.b6w.binds (by walk_at "b1"), W.mg_of X G Y.d1p, Y.a5u.binds (by walk_at "b2"), W.mg_of X G Y.c5h, Y.c9h.binds (by walk_at "b1"), W.mg_of X G Y.d9u, Y.c3w.binds (by walk_at "b1"), W.mg_of X G Y.d4i, Y.c9i.binds (by walk_at "b1"), W.mg_of X G Y.d9v, Y.c9j.binds (by walk_at "b1"), W.mg_of X G Y.d9w, Y.c9k.binds (by walk_at "b1"), W.mg_of X G Y.d9y, Y.c3y.binds (by walk_at "b1"), W.mg_of X G Y.d4j, Y.c2g.binds (by walk_at "b2"), Y.b4h.binds (by walk_at "b3"), Y.b8t.binds (by walk_at "b1"), Y.b8u.binds (by walk_at "b1"), Y.c3z.binds (by walk_at "b1"), W.mg_of X G Y.d4k, Y.b8v.binds (by walk_at "b2"), Y.b1q.binds (by walk_at "b3"), Y.a5v.binds (by walk_at "b2"), Y.b8w.binds (by walk_at "b2"), Y.b1r.binds (by walk_at "b4"), Y.c9l.binds (by walk_at "b1"), W.mg_of X G Y.d9z, Y.c2h.binds (by walk_at "b1"), Y.b1g.binds (by walk_at "b2"), Y.b8y.binds (by walk_at "b2"), Y.c5z.binds (by walk_at "b2"), Y.c2i.binds (by walk_at "b4"), Y.c6g.binds (by walk_at "b3"), Y.b7s.binds (by walk_at "b1"), Y.b8z.binds (by walk_at "b1"), Y.c2j.binds (by walk_at "b1"), Y.b9g.binds (by walk_at "b1"), Y.b4i.binds (by walk_at "b3"), Y.a5w.binds (by walk_at "b2"), W.mg_of X G Y.c5i, Y.b4j.binds (by walk_at "b2"), W.mg_of X G Y.c5j, Y.c4g.binds (by walk_at "b1"), W.mg_of X G Y.d4l, Y.c4h.binds (by walk_at "b1"), W.mg_of X G Y.d4m, Y.c0v.binds (by walk_at "b3"), W.mg_of X G Y.d1q, Y.b6y.binds (by walk_at "b3"), W.mg_of X G Y.d1r, Y.b4k.binds (by walk_at "b4"), W.mg_of X G Y.c5k, Y.c0w.binds (by walk_at "b4"), W.mg_of X G Y.d1s, Y.h3r.binds (by walk_at "b1"), W.mg_of X G Y.h8f, W.mg_none_of X G Y.i2l, W.mg_none_of X G Y.i2m, W.mg_none_of X G Y.y_bool, W.mg_none_of X G Y.h3s, W.mg_none_of X G Y.i2n, W.mg_none_of X G Y.c9m, W.mg_none_of X G Y.i2o, W.mg_none_of X G Y.h3t, W.mg_none_of X G Y.i2p, W.mg_none_of X G Y.i2q, W.mg_none_of X G Y.g4d, W.mg_none_of X G Y.i2r, W.mg_none_of X G Y.g4e, W.mg_none_of X G Y.i2s, W.mg_of X G Y.g3x, W.mg_of X G Y.g3y, W.mg_of X G Y.f6m, W.mg_of X G Y.g3z, W.mg_of X G Y.g4a, W.mg_of X G Y.f6n, W.mg_of X G Y.d9q, W.mg_of X G Y.f6o, W.mg_of X G Y.d4n, W.mg_of X G Y.a8v, W.mg_of X G Y.a8y, W.mg_of X G Y.c9n, W.mg_of X G Y.c9o, W.mg_of X G Y.c6h, W.mg_of X G Y.c6j, W.mg_of X G Y.d4p, W.mg_of X G Y.c0y, W.mg_of X G Y.c9p, W.mg_of X G Y.d4r, ⟨⟨_, _, ld_READERS, kd_READERS⟩, ne_READERS⟩⟩
 obtain⟨_,_,_,_,_,_,_,_,_,e,_,_⟩:=Y.h3r.ex
 exact⟨d6h,fun s v=>by have e':d6h=_:=e; rw [e']; exact .of_eq rfl,fun base _ _=>i9s T⟩
end My
namespace PySem.W.Fast
theorem tw6900391889479100792:1=1:=rfl
theorem tw8573030173675904696:1=1:=rfl
theorem tw1364214657888306855:1=1:=rfl
theorem tw18109759139932661141:1=1:=rfl
theorem tw16637527226444031152:1=1:=rfl
theorem tw16161134109006584136:1=1:=rfl
theorem tw11881700610786842851:1=1:=rfl
theorem tw15317371719839116439:1=1:=rfl
theorem tw5370817381898332528:1=1:=rfl
theorem tw13581400447644747741:1=1:=rfl
theorem tw16881078159426153725:1=1:=rfl
theorem tw10417090065845845297:1=1:=rfl
theorem tw8952844777727152126:1=1:=rfl
theorem tw1598385326218629872:1=1:=rfl
theorem tw16777059352420680666:1=1:=rfl
theorem tw11944547311722787451:1=1:=rfl
theorem tw10732376652349936885:1=1:=rfl
theorem tw14069760153575086975:1=1:=rfl
theorem tw2380633196008929633:1=1:=rfl
theorem tw10946764411177201711:1=1:=rfl
theorem tw7035614583956397134:1=1:=rfl
theorem tw10658731590245123126:1=1:=rfl
theorem tw14333226695275742401:1=1:=rfl
theorem tw7239382064687091582:1=1:=rfl
theorem tw17354846416679945364:1=1:=rfl
theorem tw2563940267494983749:1=1:=rfl
theorem tw12364433564746102422:1=1:=rfl
theorem tw9908581900148825283:1=1:=rfl
theorem tw5850692511006579825:1=1:=rfl
theorem tw14746844126371233853:1=1:=rfl
theorem tw17496251446154972818:1=1:=rfl
theorem tw15251619255723397868:1=1:=rfl
theorem tw12349187591870227371:1=1:=rfl
theorem tw15475733049236377190:1=1:=rfl
theorem tw6265734421298265226:1=1:=rfl
theorem tw223030842349414801:1=1:=rfl
theorem tw647085051020011008:1=1:=rfl
theorem tw18403370443996068962:1=1:=rfl
theorem tw2329570622851005290:1=1:=rfl
theorem tw6429743537424151460:1=1:=rfl
theorem tw15832993992864441722:1=1:=rfl
theorem tw3786565533619912973:1=1:=rfl
theorem tw6414484768459513711:1=1:=rfl
theorem tw1718226778855543616:1=1:=rfl
theorem tw1742850892406897364:1=1:=rfl
theorem tw6996200725154009387:1=1:=rfl
theorem tw5117883050939257669:1=1:=rfl
theorem tw10600766530840542371:1=1:=rfl
theorem tw13071373493821998243:1=1:=rfl
theorem tw505402259166572891:1=1:=rfl
theorem tw3220964870408171207:1=1:=rfl
theorem tw16636766258200738901:1=1:=rfl
theorem tw6768286049374222709:1=1:=rfl
theorem tw9868497003002643237:1=1:=rfl
theorem tw3179416480718341841:1=1:=rfl
theorem tw16646452888766662157:1=1:=rfl
theorem tw15626729833770740372:1=1:=rfl
theorem tw17090071771115737323:1=1:=rfl
theorem tw5464335855898462134:1=1:=rfl
theorem tw16902976539615822969:1=1:=rfl
theorem tw12207690406216977180:1=1:=rfl
theorem tw5491781337690308046:1=1:=rfl
theorem tw16044633587046377335:1=1:=rfl
theorem tw8090655114488255845:1=1:=rfl
theorem tw5703265608359275202:1=1:=rfl
theorem tw8921992324382085146:1=1:=rfl
theorem tw4024470775220138508:1=1:=rfl
theorem tw8417504725326299713:1=1:=rfl
theorem tw11737275336552584311:1=1:=rfl
theorem tw8399903166922988089:1=1:=rfl
theorem tw731802247922350693:1=1:=rfl
theorem tw10681510606948216237:1=1:=rfl
theorem tw11140843046278143577:1=1:=rfl
theorem tw8230946953701574772:1=1:=rfl
theorem tw7053865784283331652:1=1:=rfl
theorem tw9982358372532572057:1=1:=rfl
theorem tw608959073389359663:1=1:=rfl
theorem tw12804662903225283500:1=1:=rfl
theorem tw12943125125220769782:1=1:=rfl
theorem tw4807036505201321718:1=1:=rfl
theorem tw14647991288276304663:1=1:=rfl
theorem tw345636552452715241:1=1:=rfl
theorem tw5459260000109536330:1=1:=rfl
theorem tw6674563785916202357:1=1:=rfl
theorem tw17940198828056833404:1=1:=rfl
theorem tw13726161078500720164:1=1:=rfl
theorem tw8989870572347845967:1=1:=rfl
theorem tw4490525634280122460:1=1:=rfl
theorem tw9352741579861957727:1=1:=rfl
theorem tw15899373071446771542:1=1:=rfl
theorem tw17380273648486233262:1=1:=rfl
theorem tw5933473830428612991:1=1:=rfl
theorem tw732482759911488139:1=1:=rfl
theorem tw5366513443091328101:1=1:=rfl
theorem tw3171373256264731913:1=1:=rfl
theorem tw15064009807899889864:1=1:=rfl
theorem tw5508720166729720158:1=1:=rfl
theorem tw5801795765759189106:1=1:=rfl
theorem tw1741669956314350524:1=1:=rfl
theorem tw8098774800007489000:1=1:=rfl
theorem tw12549122439262097096:1=1:=rfl
theorem tw2490365877280346576:1=1:=rfl
theorem tw11445467472241220076:1=1:=rfl
theorem tw6511643625397334933:1=1:=rfl
theorem tw2803376995594522755:1=1:=rfl
theorem tw16178382924628754273:1=1:=rfl
theorem tw15610405100305777575:1=1:=rfl
theorem tw15284700882331218064:1=1:=rfl
theorem tw16778827048343226880:1=1:=rfl
theorem tw11823111700939507311:1=1:=rfl
theorem tw139377631667425285:1=1:=rfl
theorem tw6394673989909701815:1=1:=rfl
theorem tw10481010215709597151:1=1:=rfl
theorem tw797032525157435301:1=1:=rfl
theorem tw10078727074339598333:1=1:=rfl
theorem tw9966494198021913971:1=1:=rfl
theorem tw1937347028761568855:1=1:=rfl
theorem tw2913385169136464362:1=1:=rfl
theorem tw1806389484697100384:1=1:=rfl
theorem tw4934002151837130330:1=1:=rfl
theorem tw15067379067027005990:1=1:=rfl
theorem tw17857012165036605777:1=1:=rfl
theorem tw3930310667716876948:1=1:=rfl
theorem tw5937680389237688297:1=1:=rfl
theorem tw11559025094374823234:1=1:=rfl
theorem tw1501236435718649160:1=1:=rfl
theorem tw14900620616197988764:1=1:=rfl
theorem tw10738362551010668391:1=1:=rfl
theorem tw16640234672167905025:1=1:=rfl
theorem tw13999556532862769824:1=1:=rfl
theorem tw1188589436766367109:1=1:=rfl
theorem tw3910513832863325973:1=1:=rfl
theorem tw178200053535650413:1=1:=rfl
theorem tw4238174642395007082:1=1:=rfl
theorem tw15582316331417864413:1=1:=rfl
theorem tw8056300656109210623:1=1:=rfl
theorem tw6748805508685585347:1=1:=rfl
theorem tw17289661671639017013:1=1:=rfl
theorem tw9254494828682388690:1=1:=rfl
theorem tw9347109568410872096:1=1:=rfl
theorem tw11231514608981600337:1=1:=rfl
theorem tw12905885491143785058:1=1:=rfl
theorem tw16793429122099428018:1=1:=rfl
theorem tw4406415313207122257:1=1:=rfl
theorem tw3411636780091123211:1=1:=rfl
theorem tw11609154362887344414:1=1:=rfl
theorem tw1344390026525028993:1=1:=rfl
theorem tw13112574192147406767:1=1:=rfl
theorem tw12542172756637546172:1=1:=rfl
theorem tw8010976987883730856:1=1:=rfl
theorem tw11411597523840867296:1=1:=rfl
theorem tw17618556162707616684:1=1:=rfl
theorem tw1462902758422540750:1=1:=rfl
theorem tw11133959487606313565:1=1:=rfl
theorem tw13745562465431371279:1=1:=rfl
theorem tw2321125919456033410:1=1:=rfl
theorem tw8169838196977586740:1=1:=rfl
theorem tw13938724510067573504:1=1:=rfl
theorem tw9734291597109099519:1=1:=rfl
theorem tw13887226304772088176:1=1:=rfl
theorem tw2011810495737682056:1=1:=rfl
theorem tw7215828069600862446:1=1:=rfl
theorem tw13285655522906032891:1=1:=rfl
theorem tw144196364816973743:1=1:=rfl
theorem tw3319406283711336458:1=1:=rfl
theorem tw15447955240157011317:1=1:=rfl
theorem tw17811324150372439294:1=1:=rfl
theorem tw6437231696495423846:1=1:=rfl
theorem tw15518610097780920165:1=1:=rfl
theorem tw937797065713483952:1=1:=rfl
theorem tw3864814353796606377:1=1:=rfl
theorem tw1791890441427717526:1=1:=rfl
theorem tw18315950900971481987:1=1:=rfl
theorem tw17274031167760599888:1=1:=rfl
theorem tw6652558879809755482:1=1:=rfl
theorem tw7125199114593285395:1=1:=rfl
theorem tw9808110693149241403:1=1:=rfl
theorem tw13889019184585735424:1=1:=rfl
theorem tw6995501612873554262:1=1:=rfl
theorem tw16738492907386114847:1=1:=rfl
theorem tw6631616628851720884:1=1:=rfl
theorem tw4935083636130518913:1=1:=rfl
theorem tw12377236728217081479:1=1:=rfl
theorem tw13348930861145176543:1=1:=rfl
theorem tw10192955678421800981:1=1:=rfl
theorem tw10393213944538879615:1=1:=rfl
theorem tw2442427071478543468:1=1:=rfl
theorem tw15995442790387235381:1=1:=rfl
theorem tw4223326704443775481:1=1:=rfl
theorem tw13773230698121399361:1=1:=rfl
theorem tw16322714831388991531:1=1:=rfl
theorem tw11049033647953232057:1=1:=rfl
theorem tw2871939541759615941:1=1:=rfl
theorem tw12760684424096835211:1=1:=rfl
theorem tw9293866897330788373:1=1:=rfl
theorem tw2319660471270911761:1=1:=rfl
theorem tw9370420930758799052:1=1:=rfl
theorem tw7335905781275989413:1=1:=rfl
theorem tw8391111233250922848:1=1:=rfl
theorem tw9742165172149364617:1=1:=rfl
theorem tw7939916404012864803:1=1:=rfl
theorem tw5140425326450279568:1=1:=rfl
theorem tw5221640768624772598:1=1:=rfl
theorem tw7394487808172848270:1=1:=rfl
theorem tw14198495237076647429:1=1:=rfl
theorem tw11756366043115133428:1=1:=rfl
theorem tw2263777837580867599:1=1:=rfl
theorem tw10976949857646104219:1=1:=rfl
theorem tw9399232895812032847:1=1:=rfl
theorem tw6296195684922049755:1=1:=rfl
theorem tw6058238871720433435:1=1:=rfl
theorem tw8106282007433447685:1=1:=rfl
theorem tw4195395423368761794:1=1:=rfl
theorem tw18384400713622709744:1=1:=rfl
theorem tw17589245467257796507:1=1:=rfl
theorem tw15906531379014039463:1=1:=rfl
theorem tw2664040998668424410:1=1:=rfl
theorem tw2606887309869574240:1=1:=rfl
theorem tw7874762214206683157:1=1:=rfl
theorem tw3259815128657898867:1=1:=rfl
theorem tw16344011104520669314:1=1:=rfl
theorem tw14914647042412760264:1=1:=rfl
theorem tw10018902839818190920:1=1:=rfl
theorem tw6506043617155994605:1=1:=rfl
theorem tw9430370764940348545:1=1:=rfl
theorem tw8513350145752836681:1=1:=rfl
theorem tw5700131662851977268:1=1:=rfl
theorem tw12144651493349124308:1=1:=rfl
theorem tw14328176776121265830:1=1:=rfl
theorem tw738891213762553046:1=1:=rfl
theorem tw1399023561286706347:1=1:=rfl
theorem tw17138581221328485472:1=1:=rfl
theorem tw9080717194632975327:1=1:=rfl
theorem tw1020029033304443062:1=1:=rfl
theorem tw10615125002398452224:1=1:=rfl
theorem tw11590500230687984254:1=1:=rfl
theorem tw4327281814945080977:1=1:=rfl
theorem tw9083095255964615898:1=1:=rfl
theorem tw9777319554876605696:1=1:=rfl
theorem tw8056562562636956535:1=1:=rfl
theorem tw13275719661297944597:1=1:=rfl
theorem tw7771611954414643246:1=1:=rfl
theorem tw5861393116684058869:1=1:=rfl
theorem tw12735220629649015430:1=1:=rfl
theorem tw7627690288976624130:1=1:=rfl
theorem tw9646380812782351538:1=1:=rfl
theorem tw9129997326368529977:1=1:=rfl
theorem tw17049470538521891698:1=1:=rfl
theorem tw16987173746037382082:1=1:=rfl
theorem tw10201293488894503876:1=1:=rfl
theorem tw16530676870237660857:1=1:=rfl
theorem tw16251825989015413714:1=1:=rfl
theorem tw15975671064902320170:1=1:=rfl
theorem tw15063192036819298727:1=1:=rfl
theorem tw17143534599342958484:1=1:=rfl
theorem tw1833426427349437722:1=1:=rfl
theorem tw12540049762667553425:1=1:=rfl
theorem tw14521066291706221621:1=1:=rfl
theorem tw8990631401014818976:1=1:=rfl
theorem tw13013083811453275790:1=1:=rfl
theorem tw17477216256247082991:1=1:=rfl
theorem tw2520315867685256707:1=1:=rfl
theorem tw4144240501046902036:1=1:=rfl
theorem tw15172345364713479651:1=1:=rfl
theorem tw1375018239274428821:1=1:=rfl
theorem tw17591598987982797413:1=1:=rfl
theorem tw16423532855316050658:1=1:=rfl
theorem tw7857542658953491815:1=1:=rfl
theorem tw7451684231037571481:1=1:=rfl
theorem tw6334768837915751436:1=1:=rfl
theorem tw2281460946257747679:1=1:=rfl
theorem tw5267872289117564302:1=1:=rfl
theorem tw10606962271645049841:1=1:=rfl
theorem tw13944900887283512107:1=1:=rfl
theorem tw16330643169955973529:1=1:=rfl
theorem tw2380724354926172130:1=1:=rfl
theorem tw1854928900566046407:1=1:=rfl
theorem tw5761306407444657825:1=1:=rfl
theorem tw73356981971524843:1=1:=rfl
theorem tw1200586177833291106:1=1:=rfl
theorem tw11216306945134857129:1=1:=rfl
theorem tw9667383401019023326:1=1:=rfl
theorem tw5593737234592746164:1=1:=rfl
theorem tw16020401050324952021:1=1:=rfl
theorem tw16901757655962479183:1=1:=rfl
theorem tw1546864328202141878:1=1:=rfl
theorem tw3553074957740256332:1=1:=rfl
theorem tw11935883955220854673:1=1:=rfl
theorem tw18369907086338845113:1=1:=rfl
theorem tw17077704071237230267:1=1:=rfl
theorem tw5480475432519804751:1=1:=rfl
theorem tw10047946802908994809:1=1:=rfl
theorem tw11447243304172888949:1=1:=rfl
theorem tw6638285514437924051:1=1:=rfl
theorem tw10115087485831943989:1=1:=rfl
theorem tw3874177796967854116:1=1:=rfl
theorem tw10398288385488596971:1=1:=rfl
theorem tw7489512082130653000:1=1:=rfl
theorem tw15835243987408241933:1=1:=rfl
theorem tw13970425011318913416:1=1:=rfl
theorem tw6300857042470181580:1=1:=rfl
theorem tw17135260115300138928:1=1:=rfl
theorem tw3913736617871481949:1=1:=rfl
theorem tw14840829696623399114:1=1:=rfl
theorem tw896915600453141716:1=1:=rfl
theorem tw494603595987779625:1=1:=rfl
theorem tw14997212638675964661:1=1:=rfl
theorem tw6835828547678227275:1=1:=rfl
theorem tw8810190441949452908:1=1:=rfl
theorem tw6774279704016535297:1=1:=rfl
theorem tw13650132849921437257:1=1:=rfl
theorem tw13251474742186604490:1=1:=rfl
theorem tw17659652832477190274:1=1:=rfl
theorem tw1207537002563765529:1=1:=rfl
theorem tw13036862472346047352:1=1:=rfl
theorem tw2684739637554070716:1=1:=rfl
theorem tw123110653335356423:1=1:=rfl
theorem tw18051808211336318770:1=1:=rfl
theorem tw16639687873107188643:1=1:=rfl
theorem tw11443148905999334228:1=1:=rfl
theorem tw889479755882787468:1=1:=rfl
theorem tw10174512350608057680:1=1:=rfl
theorem tw6685625693029960612:1=1:=rfl
theorem tw11122048958840021345:1=1:=rfl
theorem tw3799645371886377265:1=1:=rfl
theorem tw10022401519411298413:1=1:=rfl
theorem tw11130578136553332587:1=1:=rfl
theorem tw6152144964326376894:1=1:=rfl
theorem tw18405972081740062196:1=1:=rfl
theorem tw12401748837978081873:1=1:=rfl
theorem tw11366556643009931877:1=1:=rfl
theorem tw16637497059272693412:1=1:=rfl
theorem tw4559514565884149330:1=1:=rfl
theorem tw7811059289266423400:1=1:=rfl
theorem tw2629989389369473760:1=1:=rfl
theorem tw1355025605658984394:1=1:=rfl
theorem tw5216470026150541040:1=1:=rfl
theorem tw15412171946771248909:1=1:=rfl
theorem tw16746289838457493664:1=1:=rfl
theorem tw17312883217921488028:1=1:=rfl
theorem tw5202248428521099859:1=1:=rfl
theorem tw1377656008990556260:1=1:=rfl
theorem tw6312198079396279845:1=1:=rfl
theorem tw3780260845400880039:1=1:=rfl
theorem tw13796595448660930832:1=1:=rfl
theorem tw7260574091382828290:1=1:=rfl
theorem tw1903067988702418994:1=1:=rfl
theorem tw10416299142292357396:1=1:=rfl
theorem tw9541703363025186304:1=1:=rfl
theorem tw7623613469314465700:1=1:=rfl
theorem tw16947384782821008507:1=1:=rfl
theorem tw13918386417677789701:1=1:=rfl
theorem tw14744449633264177709:1=1:=rfl
theorem tw7884752298126391016:1=1:=rfl
theorem tw1615456412019827000:1=1:=rfl
theorem tw7892228242700904678:1=1:=rfl
theorem tw12565112916668182845:1=1:=rfl
theorem tw16272141225212161845:1=1:=rfl
theorem tw13876262123334889246:1=1:=rfl
theorem tw6220371592998939644:1=1:=rfl
theorem tw7027380516843994729:1=1:=rfl
theorem tw15242582300024458388:1=1:=rfl
theorem tw7707053607144430696:1=1:=rfl
theorem tw7722614688244008577:1=1:=rfl
theorem tw17603671530744619644:1=1:=rfl
theorem tw1402559105687812760:1=1:=rfl
theorem tw3805880328677801763:1=1:=rfl
theorem tw16295299790578867795:1=1:=rfl
theorem tw13738259203878026209:1=1:=rfl
theorem tw8907309244343910075:1=1:=rfl
theorem tw3659947933353614752:1=1:=rfl
theorem tw13377786396960283909:1=1:=rfl
theorem tw2388743038903621760:1=1:=rfl
theorem tw18439294388279985789:1=1:=rfl
theorem tw46873885737870922:1=1:=rfl
theorem tw4315178295878163265:1=1:=rfl
theorem tw17551476509683619190:1=1:=rfl
theorem tw16167446088799971887:1=1:=rfl
theorem tw18434407844901169603:1=1:=rfl
theorem tw10724276523570737216:1=1:=rfl
theorem tw6595457986612468378:1=1:=rfl
theorem tw14759562800135747495:1=1:=rfl
theorem tw17533721343280986601:1=1:=rfl
theorem tw7961325892897709769:1=1:=rfl
theorem tw8576149152790267797:1=1:=rfl
theorem tw3141551044778762790:1=1:=rfl
theorem tw8673543982439939655:1=1:=rfl
theorem tw9793648745231384814:1=1:=rfl
theorem tw1659839766426967800:1=1:=rfl
theorem tw14482914582340223459:1=1:=rfl
theorem tw11858806115268313818:1=1:=rfl
theorem tw14266447392204994476:1=1:=rfl
theorem tw3520221332324135753:1=1:=rfl
theorem tw13251399789543832092:1=1:=rfl
theorem tw990101118943004233:1=1:=rfl
theorem tw14666055092827525200:1=1:=rfl
theorem tw11959900825067197577:1=1:=rfl
theorem tw16203574462342469087:1=1:=rfl
theorem tw14909088235247834510:1=1:=rfl
theorem tw12699254301180025550:1=1:=rfl
theorem tw5913193924166795031:1=1:=rfl
theorem tw11308232597605534913:1=1:=rfl
theorem tw5184481824190410898:1=1:=rfl
theorem tw12655145116939776335:1=1:=rfl
theorem tw56037979462525624:1=1:=rfl
theorem tw4576505516906084792:1=1:=rfl
theorem tw9166431511495835166:1=1:=rfl
theorem tw14494831395491558142:1=1:=rfl
theorem tw1869841003309231802:1=1:=rfl
theorem tw17818834550082417523:1=1:=rfl
theorem tw17228923191825131326:1=1:=rfl
theorem tw6610694559979879113:1=1:=rfl
theorem tw4232271980047591854:1=1:=rfl
theorem tw11820029671904087968:1=1:=rfl
theorem tw14840075263912782174:1=1:=rfl
theorem tw11005112231054895467:1=1:=rfl
theorem tw18255412921817291810:1=1:=rfl
theorem tw6464101127801197936:1=1:=rfl
theorem tw4115511641268888338:1=1:=rfl
theorem tw9600979497030084631:1=1:=rfl
theorem tw741153877844818883:1=1:=rfl
theorem tw1529491960876456452:1=1:=rfl
theorem tw11325669266346671848:1=1:=rfl
theorem tw2781490867635061961:1=1:=rfl
theorem tw180315248611729788:1=1:=rfl
theorem tw12650432398866457887:1=1:=rfl
theorem tw17148505579235875951:1=1:=rfl
theorem tw10186081125814951032:1=1:=rfl
theorem tw6421413413429708741:1=1:=rfl
theorem tw1975102316592579811:1=1:=rfl
theorem tw16639023552362008449:1=1:=rfl
theorem tw14133475219389773911:1=1:=rfl
theorem tw6992867893030438315:1=1:=rfl
theorem tw16186891576425626502:1=1:=rfl
theorem tw1263708527115373724:1=1:=rfl
theorem tw7926432057734054904:1=1:=rfl
theorem tw1340392538824359992:1=1:=rfl
theorem tw15897517596090403648:1=1:=rfl
theorem tw11812838035131714182:1=1:=rfl
theorem tw2911401950779394094:1=1:=rfl
theorem tw4484458113998980599:1=1:=rfl
theorem tw11762512625540529366:1=1:=rfl
theorem tw12289464995016889205:1=1:=rfl
theorem tw15894084327523476732:1=1:=rfl
theorem tw13680949664376941749:1=1:=rfl
theorem tw239182452543510601:1=1:=rfl
theorem tw17962241305560169726:1=1:=rfl
theorem tw334502813579877929:1=1:=rfl
theorem tw5546439302520939897:1=1:=rfl
theorem tw11660825779090675817:1=1:=rfl
theorem tw15151101614950179991:1=1:=rfl
theorem tw12693210188382011744:1=1:=rfl
theorem tw7251773560167008349:1=1:=rfl
theorem tw3540077985308493013:1=1:=rfl
theorem tw14177241779706366884:1=1:=rfl
theorem tw10750050444870564056:1=1:=rfl
theorem tw7951679894724351972:1=1:=rfl
theorem tw3380189177324877576:1=1:=rfl
theorem tw8976110773924868180:1=1:=rfl
theorem tw7342971488419460812:1=1:=rfl
theorem tw6934208882331221386:1=1:=rfl
theorem tw5446907946217719794:1=1:=rfl
theorem tw5965510237574868583:1=1:=rfl
theorem tw9528680659497685504:1=1:=rfl
theorem tw4966136012513332533:1=1:=rfl
theorem tw8698473678990230017:1=1:=rfl
theorem tw16366279569226070521:1=1:=rfl
theorem tw2046164392806484415:1=1:=rfl
theorem tw12100581551647691785:1=1:=rfl
theorem tw4389179048291652492:1=1:=rfl
theorem tw17188499354011978515:1=1:=rfl
theorem tw7034980449960384966:1=1:=rfl
theorem tw9846955332222341729:1=1:=rfl
theorem tw11931417686512138736:1=1:=rfl
theorem tw1305414310681115748:1=1:=rfl
theorem tw16363869855080314200:1=1:=rfl
theorem tw15430279883961449007:1=1:=rfl
theorem tw1292552987549101538:1=1:=rfl
theorem tw8218570198989536673:1=1:=rfl
theorem tw8215313412100140816:1=1:=rfl
theorem tw14779168548417563271:1=1:=rfl
theorem tw11953233418475345713:1=1:=rfl
theorem tw17261549241348384387:1=1:=rfl
theorem tw7696352422806953076:1=1:=rfl
theorem tw13406705998074435841:1=1:=rfl
theorem tw8584425964818758754:1=1:=rfl
theorem tw2446842190250230976:1=1:=rfl
theorem tw12250150347638795983:1=1:=rfl
theorem tw15442179628922724285:1=1:=rfl
theorem tw2000769199264067494:1=1:=rfl
theorem tw1477205022261409008:1=1:=rfl
theorem tw2036384909926280777:1=1:=rfl
theorem tw6208251067387274611:1=1:=rfl
theorem tw6226789179168150804:1=1:=rfl
theorem tw7679778616543114929:1=1:=rfl
theorem tw7778040853292738843:1=1:=rfl
theorem tw5820532186832509278:1=1:=rfl
theorem tw13910601625484161824:1=1:=rfl
theorem tw15195648429286449036:1=1:=rfl
theorem tw8748239075186051381:1=1:=rfl
theorem tw10621434913391423047:1=1:=rfl
theorem tw2093423131790560641:1=1:=rfl
theorem tw8445835524380601492:1=1:=rfl
theorem tw16150710730496524662:1=1:=rfl
theorem tw18207865475933383990:1=1:=rfl
theorem tw2532907853398328456:1=1:=rfl
theorem tw11949877727828168226:1=1:=rfl
theorem tw17331753816693633610:1=1:=rfl
theorem tw1808627459809958217:1=1:=rfl
theorem tw8235956755218305034:1=1:=rfl
theorem tw9988947966679482586:1=1:=rfl
theorem tw1558048042580461199:1=1:=rfl
theorem tw5135484209950012454:1=1:=rfl
theorem tw14957389490721093301:1=1:=rfl
theorem tw15391048761008435488:1=1:=rfl
theorem tw11961866950311448695:1=1:=rfl
theorem tw18023731320945648505:1=1:=rfl
theorem tw9711246835344552832:1=1:=rfl
theorem tw15322396503370654758:1=1:=rfl
theorem tw2201428635663258081:1=1:=rfl
theorem tw1898998578680152916:1=1:=rfl
theorem tw5732921913934107770:1=1:=rfl
theorem tw7593387903531862563:1=1:=rfl
theorem tw2865905718549493711:1=1:=rfl
theorem tw13521580798440298137:1=1:=rfl
theorem tw12026882179250573325:1=1:=rfl
theorem tw11198931484469378671:1=1:=rfl
theorem tw18060629671535706185:1=1:=rfl
theorem tw6709363061122562526:1=1:=rfl
theorem tw5994262851365441111:1=1:=rfl
theorem tw15916264018498795779:1=1:=rfl
theorem tw6772176794944835609:1=1:=rfl
theorem tw8444428305452662738:1=1:=rfl
theorem tw9633094181900654070:1=1:=rfl
theorem tw2716479961530101654:1=1:=rfl
theorem tw11161720287153982683:1=1:=rfl
theorem tw18201710603493092578:1=1:=rfl
theorem tw6839594744102879045:1=1:=rfl
theorem tw5531083370168677088:1=1:=rfl
theorem tw12727208622781037740:1=1:=rfl
theorem tw13117961181307812869:1=1:=rfl
theorem tw2718114753782300986:1=1:=rfl
theorem tw5628389976387141341:1=1:=rfl
theorem tw15758495071452299362:1=1:=rfl
theorem tw3259988214975908515:1=1:=rfl
theorem tw13924481420004007363:1=1:=rfl
theorem tw10697010921539367490:1=1:=rfl
theorem tw13215580326203730199:1=1:=rfl
theorem tw4661580954103208112:1=1:=rfl
theorem tw8525724918486592011:1=1:=rfl
theorem tw2110404067876635389:1=1:=rfl
theorem tw9434972803773313464:1=1:=rfl
theorem tw13714048943873091535:1=1:=rfl
theorem tw8903342256475715086:1=1:=rfl
theorem tw658655315043907138:1=1:=rfl
theorem tw9372901610976001854:1=1:=rfl
theorem tw207702405790589719:1=1:=rfl
theorem tw15527494247138110504:1=1:=rfl
theorem tw12866618147528631869:1=1:=rfl
theorem tw14679423992412835155:1=1:=rfl
theorem tw3655174205592469538:1=1:=rfl
theorem tw14162381631109405422:1=1:=rfl
theorem tw15501142768511483415:1=1:=rfl
theorem tw10985058034538731426:1=1:=rfl
theorem tw12142254733965231527:1=1:=rfl
theorem tw17093224454822753528:1=1:=rfl
theorem tw11331561570674056519:1=1:=rfl
theorem tw4009934274097344124:1=1:=rfl
theorem tw13897479950973860448:1=1:=rfl
theorem tw7134207958775015225:1=1:=rfl
theorem tw15658095713573482730:1=1:=rfl
theorem tw18147107436245448176:1=1:=rfl
theorem tw5167396393638606242:1=1:=rfl
theorem tw4424999536397699882:1=1:=rfl
theorem tw2294861571639939219:1=1:=rfl
theorem tw11205659990520230230:1=1:=rfl
theorem tw1164718874435451479:1=1:=rfl
theorem tw8609982348726169396:1=1:=rfl
theorem tw12285623687594087019:1=1:=rfl
theorem tw15220544037030987766:1=1:=rfl
theorem tw12941991574605381688:1=1:=rfl
theorem tw2383119070786268294:1=1:=rfl
theorem tw7990615146689305720:1=1:=rfl
theorem tw12972961497303063744:1=1:=rfl
theorem tw13211987375503386418:1=1:=rfl
theorem tw12767988884600562935:1=1:=rfl
theorem tw994656245523241017:1=1:=rfl
theorem tw17183752641244965685:1=1:=rfl
theorem tw15843606739246610763:1=1:=rfl
theorem tw9367700524951674392:1=1:=rfl
theorem tw18090807491215724567:1=1:=rfl
theorem tw8305402527074956921:1=1:=rfl
theorem tw8581492466025167067:1=1:=rfl
theorem tw16175781335227769981:1=1:=rfl
theorem tw18016584853441148800:1=1:=rfl
theorem tw3647976449881792764:1=1:=rfl
theorem tw3475563286690297463:1=1:=rfl
theorem tw4145303425513087912:1=1:=rfl
theorem tw2914561885741976184:1=1:=rfl
theorem tw1891516747833832647:1=1:=rfl
theorem tw273636882394899848:1=1:=rfl
theorem tw8562889855425254237:1=1:=rfl
theorem tw994526916387321804:1=1:=rfl
theorem tw12881642480804526351:1=1:=rfl
theorem tw14410682444772157239:1=1:=rfl
theorem tw8204404232536259327:1=1:=rfl
theorem tw581364517059240281:1=1:=rfl
theorem tw16336445090983543204:1=1:=rfl
theorem tw2658679269300149965:1=1:=rfl
theorem tw200389743257339980:1=1:=rfl
theorem tw378845685031767448:1=1:=rfl
theorem tw9980830694058890393:1=1:=rfl
theorem tw10036720985670816229:1=1:=rfl
theorem tw15107185432629681921:1=1:=rfl
theorem tw4346954003678845718:1=1:=rfl
theorem tw16739843290578042287:1=1:=rfl
theorem tw16955756371513026327:1=1:=rfl
theorem tw15592062732405579162:1=1:=rfl
theorem tw1749530543078715977:1=1:=rfl
theorem tw10682359304611502912:1=1:=rfl
theorem tw15485979091253719911:1=1:=rfl
theorem tw16193683843604068193:1=1:=rfl
theorem tw3820934212171510784:1=1:=rfl
theorem tw4004110248213705086:1=1:=rfl
theorem tw15545145550964913551:1=1:=rfl
theorem tw10889097659746534587:1=1:=rfl
theorem tw13233573530843420128:1=1:=rfl
theorem tw1026369015164735680:1=1:=rfl
theorem tw5725697560436600069:1=1:=rfl
theorem tw8663062210176045739:1=1:=rfl
theorem tw13423568687215637025:1=1:=rfl
theorem tw6409674090654113486:1=1:=rfl
theorem tw13325863551938743706:1=1:=rfl
theorem tw16628248927618976979:1=1:=rfl
theorem tw16705897387066047374:1=1:=rfl
theorem tw5978641700355366317:1=1:=rfl
theorem tw5216659707075856209:1=1:=rfl
theorem tw4282503368314455699:1=1:=rfl
theorem tw1403720481815342344:1=1:=rfl
theorem tw1391755630703943511:1=1:=rfl
theorem tw3208363261896748999:1=1:=rfl
theorem tw17477933505676869953:1=1:=rfl
theorem tw11768544849384416807:1=1:=rfl
theorem tw494064022098803238:1=1:=rfl
theorem tw8471437289592642896:1=1:=rfl
theorem tw16107455081356126462:1=1:=rfl
theorem tw6398518004850263937:1=1:=rfl
theorem tw7626012895087853292:1=1:=rfl
theorem tw287235727563678172:1=1:=rfl
theorem tw7036914954359782577:1=1:=rfl
theorem tw285845889166890840:1=1:=rfl
theorem tw8074309329589684174:1=1:=rfl
theorem tw2230864645123039094:1=1:=rfl
theorem tw9865219313912898650:1=1:=rfl
theorem tw5465616534485210322:1=1:=rfl
theorem tw13191739980221879299:1=1:=rfl
theorem tw11040499781524072759:1=1:=rfl
theorem tw12676006006309569204:1=1:=rfl
theorem tw5305555019478452795:1=1:=rfl
theorem tw10903379216434852247:1=1:=rfl
theorem tw1652853875266950742:1=1:=rfl
theorem tw16134577676730959113:1=1:=rfl
theorem tw15961140184067157673:1=1:=rfl
theorem tw1308352061460033843:1=1:=rfl
theorem tw11530544118342635935:1=1:=rfl
theorem tw12836429685561208633:1=1:=rfl
theorem tw2334104811277459290:1=1:=rfl
theorem tw13008670693378691210:1=1:=rfl
theorem tw10851636713638236966:1=1:=rfl
theorem tw18001234872393497361:1=1:=rfl
theorem tw4573521148137574695:1=1:=rfl
theorem tw3449997373558163811:1=1:=rfl
theorem tw8617023605677635857:1=1:=rfl
theorem tw7892772427821155333:1=1:=rfl
theorem tw8959817260028942344:1=1:=rfl
theorem tw6809386777526485761:1=1:=rfl
theorem tw7682645704850374921:1=1:=rfl
theorem tw14892235245191843456:1=1:=rfl
theorem tw16510976898075388455:1=1:=rfl
theorem tw17610781416768565814:1=1:=rfl
theorem tw16474399112119906805:1=1:=rfl
theorem tw12473104195979609025:1=1:=rfl
theorem tw5936216222562187153:1=1:=rfl
theorem tw1453292740361466773:1=1:=rfl
theorem tw5036901244538386207:1=1:=rfl
theorem tw5132344518498379111:1=1:=rfl
theorem tw15303483929720830210:1=1:=rfl
theorem tw4168082271291674155:1=1:=rfl
theorem tw18376885377741178615:1=1:=rfl
theorem tw11807701179279794612:1=1:=rfl
theorem tw9795807302845959584:1=1:=rfl
theorem tw3291492221245476274:1=1:=rfl
theorem tw13050114226386805585:1=1:=rfl
theorem tw5890752886458346855:1=1:=rfl
theorem tw4737695839903614511:1=1:=rfl
theorem tw13605986880110868450:1=1:=rfl
theorem tw7819665269440054677:1=1:=rfl
theorem tw9249851818117669333:1=1:=rfl
theorem tw17797554590015874710:1=1:=rfl
theorem tw8981499437066982741:1=1:=rfl
theorem tw15032163229681619887:1=1:=rfl
theorem tw11432109025237697352:1=1:=rfl
theorem tw16284614214167184020:1=1:=rfl
theorem tw10917465513915259011:1=1:=rfl
theorem tw15533896397861808116:1=1:=rfl
theorem tw13268138956479521614:1=1:=rfl
theorem tw17802291525078098196:1=1:=rfl
theorem tw3355085957731181190:1=1:=rfl
theorem tw7053117856010392623:1=1:=rfl
theorem tw6013121123178990222:1=1:=rfl
theorem tw16440891237209588111:1=1:=rfl
theorem tw16142419799782622085:1=1:=rfl
theorem tw16234293115007937172:1=1:=rfl
theorem tw9126427115002215335:1=1:=rfl
theorem tw12423075021774833799:1=1:=rfl
theorem tw13425628112981018065:1=1:=rfl
theorem tw8428240197534268982:1=1:=rfl
theorem tw17480572394367747847:1=1:=rfl
theorem tw5570185874008741111:1=1:=rfl
theorem tw2025013393881594103:1=1:=rfl
theorem tw11077838224424990282:1=1:=rfl
theorem tw14705478827349095262:1=1:=rfl
theorem tw12114408761611337216:1=1:=rfl
theorem tw4946412050539137385:1=1:=rfl
theorem tw11199264555502304603:1=1:=rfl
theorem tw4701019188117799968:1=1:=rfl
theorem tw5675092250920565284:1=1:=rfl
theorem tw12645092231850811028:1=1:=rfl
theorem tw17419769490333060325:1=1:=rfl
theorem tw4102348763184362775:1=1:=rfl
theorem tw11919943523646445841:1=1:=rfl
theorem tw9353605585622079272:1=1:=rfl
theorem tw2157791034699760303:1=1:=rfl
theorem tw11488975721156402665:1=1:=rfl
theorem tw6657797373264226661:1=1:=rfl
theorem tw4140807431099032784:1=1:=rfl
theorem tw5655762893033024590:1=1:=rfl
theorem tw14736298512789341454:1=1:=rfl
theorem tw16135843798165497600:1=1:=rfl
theorem tw6663362171497106835:1=1:=rfl
theorem tw3277543918714608488:1=1:=rfl
theorem tw16680890678205723897:1=1:=rfl
theorem tw12842971753305588651:1=1:=rfl
theorem tw10167326048478155857:1=1:=rfl
theorem tw15974624540637410949:1=1:=rfl
theorem tw15770219986125871584:1=1:=rfl
theorem tw1859057701554361693:1=1:=rfl
theorem tw17430069302279099956:1=1:=rfl
theorem tw16650465155420265229:1=1:=rfl
theorem tw14655186099519291316:1=1:=rfl
theorem tw10900469135908374533:1=1:=rfl
theorem tw1094822557107403445:1=1:=rfl
theorem tw8226719360827392360:1=1:=rfl
theorem tw1856865491354348394:1=1:=rfl
theorem tw16855141165011556357:1=1:=rfl
theorem tw4883875833716107684:1=1:=rfl
theorem tw8711351005875794160:1=1:=rfl
theorem tw15426024132440936435:1=1:=rfl
theorem tw6163293986510280382:1=1:=rfl
theorem tw9735154650307277153:1=1:=rfl
theorem tw6392839358810039870:1=1:=rfl
theorem tw10026187688250868542:1=1:=rfl
theorem tw17887663722822343161:1=1:=rfl
theorem tw3702303194799587936:1=1:=rfl
theorem tw17802440434776906231:1=1:=rfl
theorem tw13516081368189818224:1=1:=rfl
theorem tw4675701033578570005:1=1:=rfl
theorem tw3568113996469775973:1=1:=rfl
theorem tw8891265089048220863:1=1:=rfl
theorem tw3388514030239004712:1=1:=rfl
theorem tw11274210790326116429:1=1:=rfl
theorem tw16745189450133269692:1=1:=rfl
theorem tw6733699324140893256:1=1:=rfl
theorem tw11852128537091186047:1=1:=rfl
theorem tw6898494028543654999:1=1:=rfl
theorem tw15137161445807589080:1=1:=rfl
theorem tw12902249304405385273:1=1:=rfl
theorem tw11687940097165758395:1=1:=rfl
theorem tw331297801154286926:1=1:=rfl
theorem tw7711107440570262927:1=1:=rfl
theorem tw11848696797901450198:1=1:=rfl
theorem tw15161442240915207891:1=1:=rfl
theorem tw17551235198223587226:1=1:=rfl
theorem tw15562202209009318877:1=1:=rfl
theorem tw11359927679936828889:1=1:=rfl
theorem tw15055478475706829515:1=1:=rfl
theorem tw4192146296735845883:1=1:=rfl
theorem tw11582497137044661182:1=1:=rfl
theorem tw13329163526991436619:1=1:=rfl
theorem tw9143903842867326717:1=1:=rfl
theorem tw2118711682403311837:1=1:=rfl
theorem tw1408739812741431053:1=1:=rfl
theorem tw17980904903933997939:1=1:=rfl
theorem tw10416632349029098055:1=1:=rfl
theorem tw620182171395329368:1=1:=rfl
theorem tw17833477453809124894:1=1:=rfl
theorem tw9478102831928140741:1=1:=rfl
theorem tw4588768120724429199:1=1:=rfl
theorem tw6856724509072758184:1=1:=rfl
theorem tw4550492911022134234:1=1:=rfl
end PySem.W.Fast
open PySem PySem.W PyProof.Rows L2
set_option maxRecDepth 100000 in
set_option maxHeartbeats 0 in
theorem PySem.Challenge.cw_mixbench_k66_whole_superposed_holds : PySem.Challenge.rw_mixbench_k66_whole_superposed.Holds := by
 w_on; o_law; k_head; (case hw=>w_witness2)
 k_fill
 refine L2.h7i (l := PySem.Challenge.rw_mixbench_k66_whole_superposed) (k := 17) (x := "_law_script") (CX := fun _ => L2.CX0) rfl rfl ⟨rfl, by decide, by decide⟩ (fun w h Y => PySem.W.kIn_of Y) ?F (fun _ _ _ _ _ z => z)
 case F =>
  intro w mg fa h KX G hmg
  refine' My.all_mk (wd:=w) KX G hmg ⟨?g3x,?g3y,?f6m,?g3z,?g4a,?f6n,?d9q,?f6o,?d3y,?c8t,?d3z,?d9r,?d4g,?d4h,?c0l,?c0m,?c8u,?d1l,?d9s,?d9t,?d1m,?c0n,?d1n,?d1o,?c5g,?d1p,?c5h,?d9u,?d4i,?d9v,?d9w,?d9y,?d4j,?d4k,?d9z,?c5i,?c5j,?d4l,?d4m,?d1q,?d1r,?c5k,?d1s,?h8f,?h3n,?d3l,?d3m,?a4i,?a1v,?h3o,?b8q,?c0o,?c8v,?c5l,?a2y,?a1u,?g4b,?b8m,?c5m,?b7o,?c2q,?a3i,?a1n,?a1o,?a1i,?a0t,?a0q,?h3p,?b8r,?c0p,?c5n,?c8w,?c5o,?a4j,?a1w,?a1y,?h3q,?b8s,?c0q,?c8y,?c5p,?a4o,?a1z,?a1p,?f6p,?b8n,?c2r,?c2s,?a3m,?a0u,?a0z,?a2g,?a1m,?a1l,?f6q,?b6s,?a8u,?c2t,?b6t,?a1s,?a0m,?a0o,?a0n,?a0p,?g4c,?a9h,?c2u,?c8z,?c5q,?c9g,?c0r,?c2v,?c5r,?c2w,?b8o,?b6u,?b3u,?c3s,?c3t,?c3u,?c3v,?a2z,?a9r,?a9s,?a7p,?c0s,?c0t,?c1r,?c1s,?c5s,?c1t,?b7p,?c5t,?c1u,?b4g,?c1v,?b6v,?c5u,?c1w,?b7q,?c1y,?c5v,?c5w,?c1z,?b7r,?c5y,?a9t,?c0u,?b2l,?a7q,?b6w,?a5u,?c9h,?c3w,?c9i,?c9j,?c9k,?c3y,?c2g,?b4h,?b8t,?b8u,?c3z,?b8v,?b1q,?a5v,?b8w,?b1r,?c9l,?c2h,?b1g,?b8y,?c5z,?c2i,?c6g,?b7s,?b8z,?c2j,?b9g,?b4i,?a5w,?b4j,?c4g,?c4h,?c0v,?b6y,?b4k,?c0w,?h3r,?i2l,?i2m,?y_bool,?h3s,?i2n,?c9m,?i2o,?h3t,?i2p,?i2q,?g4d,?i2r,?g4e,?i2s,?d4n,?d4o,?a8v,?a8w,?a8y,?a8z,?c9n,?c2k,?c9o,?c2l,?c6h,?c6i,?c6j,?c6k,?d4p,?d4q,?c0y,?c0z,?c9p,?c9q,?d4r,?b4l,?b1s,?b4m,?b4n⟩ ?ld_READERS ?kd_READERS ?ne_READERS
  case g3x | g3y | f6m | g3z | g4a | f6n | d9q | f6o | d3y | c8t | d3z | d9r | d4g | d4h | c0l | c0m | c8u | d1l | d9s | d9t | d1m | c0n | d1n | d1o | c5g | d1p | c5h | d9u | d4i | d9v | d9w | d9y | d4j | d4k | d9z | c5i | c5j | d4l | d4m | d1q | d1r | c5k | d1s | h8f | d4n | a8v | a8y | c9n | c9o | c6h | c6j | d4p | c0y | c9p | d4r | b4l | b1s | b4m | b4n => dsimp only; k_is
  case h3n | a4i | a2y | a3i | a4j | a4o | a3m | a1s => refine' ⟨?_, ?_, ?_, ?_⟩ <;> ((try dsimp only); k_is)
  case d3l | d3m | b8q | c0o | c8v | c5l | b8m | c5m | b7o | c2q | b8r | c0p | c5n | c8w | c5o | b8s | c0q | c8y | c5p | b8n | c2r | c2s | b6s | a8u | c2t | b6t | a9h | c2u | c8z | c5q | c9g | c0r | c2v | c5r | c2w | b8o => (dsimp only; refine' ⟨?a, ?l, ?c⟩; (case a => k_is); (case l => k_is); (case c => k_is))
  case a1v | a1u | a1n | a1o | a1i | a0t | a0q | a1w | a1y | a1z | a1p | a0u | a0z | a2g | a1m | a1l | a0m | a0o | a0n | a0p => dsimp only; unfold a2l; k_is
  case h3o | g4b | h3p | h3q | f6p | f6q | g4c => (dsimp only; refine' ⟨?a, ?l, ?c, ?k⟩; (case a => k_is); (case l => k_is); (case c => k_is); (case k => k_is))
  case b6u | b3u | c3s | c3t | c3u | c3v | a2z | a9r | a9s | a7p | c0s | c0t | c1r | c1s | c5s | c1t | b7p | c5t | c1u | b4g | c1v | b6v | c5u | c1w | b7q | c1y | c5v | c5w | c1z | b7r | c5y | a9t | c0u | b2l | a7q | b6w | a5u | c9h | c3w | c9i | c9j | c9k | c3y | c2g | b4h | b8t | b8u | c3z | b8v | b1q | a5v | b8w | b1r | c9l | c2h | b1g | b8y | c5z | c2i | c6g => (dsimp only; refine' a1k ?l ?c ?k; (try dsimp only); (case l => k_is); (case c => k_is); (case k => k_is))
  case b7s | b8z | c2j | b9g | b4i | a5w | b4j | c4g | c4h | c0v | b6y | b4k | c0w | h3r => (dsimp only; refine' a1k ?l ?c ?k; (try dsimp only); (case l => k_is); (case c => k_is); (case k => k_is))
  case i2l | i2m | y_bool | h3s | i2n | c9m | i2o | h3t | i2p | i2q | g4d | i2r | g4e | i2s | ld_READERS => k_is
  case d4o | a8w | a8z | c2k | c2l | c6i | c6k | d4q | c0z | c9q => exact ⟨_, rfl⟩
  (case kd_READERS=>k_keys)
  (case ne_READERS=>decide)
