import PyProof.Rows.All
import KE.IntBitsLaws
import KE.KEqDat
import KE.KIntText
import KE.KIsAll
import KE.KUnpack
import PySem.Challenge.RW_mixbench_k82_refused_lines
set_option Elab.async false
set_option linter.all false
set_option maxRecDepth 100000
namespace L2
open PySem PySem.Spec PyProof.Rows
noncomputable abbrev Key:=Sum Int Str
noncomputable def h2f:Key->Value->Bool
 | .inl k,v=>Value.isInt k v
 | .inr x,v=>Value.isStrOf x v
noncomputable def keyH(w:World):Key->Int
 | .inl k=>hashInt k
 | .inr x=>hashStr w x
theorem b1i:∀ {k:Key} {v:Value},h2f k v=true->(∃ i t,k=Sum.inl i/\v=Value.int i t)\/(∃ x t,k=Sum.inr x/\v=Value.str x t)
 | .inl i,v,h=>by
  obtain⟨t,e⟩:=Value.isInt_shape (k:=i) (v:=v) h
  exact .inl ⟨i,t,rfl,e⟩
 | .inr x,v,h=>by
  obtain⟨t,e⟩:=Value.isStrOf_shape (x:=x) (v:=v) h
  exact .inr ⟨x,t,rfl,e⟩
theorem h5d(i:Int)(t:Tok):h2f (.inl i) (.int i t)=true:=by simp [h2f,Value.isInt]
theorem h5e(x:Str)(t:Tok):h2f (.inr x) (.str x t)=true:=by simp [h2f,Value.isStrOf]
theorem i9u(a b:Int):decide ((Sum.inl a:Key)=Sum.inl b)=(a == b):=by
 by_cases e:a=b
 ·subst e; simp
 ·have h:¬ (Sum.inl a:Key)=Sum.inl b:=fun q=>e (Sum.inl.inj q)
  rw [decide_eq_false h]
  exact (beq_eq_false_iff_ne.mpr e).symm
theorem i9v(a b:Str):decide ((Sum.inr a:Key)=Sum.inr b)=decide (a=b):=by
 by_cases e:a=b
 ·subst e; simp
 ·have h:¬ (Sum.inr a:Key)=Sum.inr b:=fun q=>e (Sum.inr.inj q)
  rw [decide_eq_false h,decide_eq_false e]
theorem i9w(a:Int)(b:Str):decide ((Sum.inl a:Key)=Sum.inr b)=false:=decide_eq_false (fun q=>nomatch q)
theorem i9x(a:Str)(b:Int):decide ((Sum.inr a:Key)=Sum.inl b)=false:=decide_eq_false (fun q=>nomatch q)
noncomputable def b4z(prog:Program)(w:World):PySem.KeyKind prog w Key where
 is:=h2f
 hash:=keyH w
 inj:=fun v a b ha hb=>by
  rcases b1i ha with ⟨i,t,rfl,rfl⟩ | ⟨x,t,rfl,rfl⟩
  ·rcases b1i hb with ⟨j,u,rfl,e⟩ | ⟨y,u,rfl,e⟩
   ·injection e with e1 _; rw [e1]
   ·exact nomatch e
  ·rcases b1i hb with ⟨j,u,rfl,e⟩ | ⟨y,u,rfl,e⟩
   ·exact nomatch e
   ·injection e with e1 _; rw [e1]
 byValue:=fun k v h=>by
  rcases b1i h with ⟨i,t,rfl,rfl⟩ | ⟨x,t,rfl,rfl⟩ <;> rfl
 pyHash:=fun hv h=>by
  rcases b1i hv with ⟨i,t,rfl,rfl⟩ | ⟨x,t,rfl,rfl⟩
  ·exact wpAny_pyHash_int h
  ·exact wpAny_pyHash_str h
 eqBool:=fun hu hv h=>by
  rcases b1i hu with ⟨i,t,rfl,rfl⟩ | ⟨x,t,rfl,rfl⟩
  ·rcases b1i hv with ⟨j,u,rfl,rfl⟩ | ⟨y,u,rfl,rfl⟩
   ·rw [i9u] at h; exact wpAny_eqBool_int h
   ·rw [i9w] at h; exact SeqAt.EqAt.int_str i t y u _ _ _ _ h
  ·rcases b1i hv with ⟨j,u,rfl,rfl⟩ | ⟨y,u,rfl,rfl⟩
   ·rw [i9x] at h; exact SeqAt.EqAt.str_int x t j u _ _ _ _ h
   ·rw [i9v] at h; exact wpAny_eqBool_str h
 «strs» := fun k x t v h => by
  rcases b1i h with ⟨i,u,rfl,e⟩ | ⟨y,u,rfl,e⟩
  ·exact nomatch e
  ·injection e with e1 _
   subst e1
   cases v <;> rfl
theorem g7p(prog:Program)(w:World)(i:Int)(t:Tok):(b4z prog w).is (.inl i) (.int i t)=true:=h5d i t
theorem g7q(prog:Program)(w:World)(x:Str)(t:Tok):(b4z prog w).is (.inr x) (.str x t)=true:=h5e x t
end L2
namespace L2
open PySem PySem.Spec PyProof.Rows
inductive V where
 | non | bl (b:Bool) | int (i:Int) | str (x:Str) | byt (b:Array UInt8) | flt (b:UInt64) | ref (a:Addr) | ty (n:String)
 deriving DecidableEq
noncomputable def RelV:V->Value->Prop
 | .non,u=>u=Value.none
 | .bl b,u=>u=Value.bool b
 | .int i,u=>∃ t,u=Value.int i t
 | .str x,u=>∃ t,u=Value.str x t
 | .byt b,u=>∃ t,u=Value.bytes b t
 | .flt b,u=>∃ t,u=Value.float b t
 | .ref a,u=>u=Value.ref a
 | .ty n,u=>u=Value.type n
noncomputable abbrev Vals:List V->List Value->Prop:=Paired RelV
theorem Vals.length{xs:List V}{us:List Value}(r:Vals xs us):xs.length=us.length:=Paired.length r
theorem Vals.get:∀ {xs:List V} {us:List Value} {i:Nat} {x:V},Vals xs us->xs[i]? = some x->∃ u,us[i]? = some u/\RelV x u
 | _,_,_,_,.nil,e=>by simp at e
 | _,_,0,_,.cons r _,e=>by simp at e; subst e; exact⟨_,rfl,r⟩
 | _,_,i+1,x,.cons _ t,e=>by
  obtain⟨u,h1,h2⟩:=Vals.get (i:=i) (x:=x) t (by simpa using e)
  exact⟨u,by simpa using h1,h2⟩
theorem Vals.set{x:V}{u:Value}(r:RelV x u):∀ {xs:List V} {us:List Value} (i:Nat),Vals xs us->Vals (xs.set i x) (us.set i u)
 | _,_,_,.nil=>.nil
 | _,_,0,.cons _ t=>.cons r t
 | _,_,i+1,.cons q t=>.cons q (Vals.set r i t)
theorem Vals.append:∀ {xs ys:List V} {us ws:List Value},Vals xs us->Vals ys ws->Vals (xs++ys) (us++ws)
 | _,_,_,_,.nil,s=>s
 | _,_,_,_,.cons r t,s=>.cons r (Vals.append t s)
theorem Vals.take:∀ {xs:List V} {us:List Value} (n:Nat),Vals xs us->Vals (xs.take n) (us.take n)
 | _,_,0,_=>.nil
 | _,_,_+1,.nil=>.nil
 | _,_,n+1,.cons r t=>.cons r (Vals.take n t)
theorem Vals.drop:∀ {xs:List V} {us:List Value} (n:Nat),Vals xs us->Vals (xs.drop n) (us.drop n)
 | _,_,0,r=>r
 | _,_,_+1,.nil=>.nil
 | _,_,n+1,.cons _ t=>Vals.drop n t
noncomputable def f9z:Option V->Option Value->Prop
 | some v,some u=>RelV v u
 | none,none=>True
 | _,_=>False
noncomputable def KV{κ:Type}:List (κ×V)->List (κ×Value)->Prop:=Paired fun (p:κ×V) (q:κ×Value)=>p.1=q.1/\RelV p.2 q.2
noncomputable def kV:Key->V
 | .inl i=>.int i
 | .inr x=>.str x
inductive HO where
  | lst (xs:List V)
  | tup (xs:List V)
  | dK (kvs:List (Key×V)) | dT (kvs:List (List Key×V))
  | set (S:Int->Bool) (n:Nat)
  | ins (C dx:Addr) (fs:List (Str×V))
  | own (x:Addr)
  | xd (fs:List (Str×V))
  | met (f x:Addr)
  | rng (lo hi:Int)
  | frz (o:Obj) (u:HO)
  | tbl (ps:Array Value)
  | ext (φ:Heap->Prop)
noncomputable abbrev Hp:=Addr->Option HO
noncomputable def upd(H:Hp)(a:Addr)(o:HO):Hp:=fun b=>if b=a then some o else H b
theorem a6m{H:Hp}{a:Addr}{o:HO}:upd H a o a=some o:=by unfold upd; rw [if_pos rfl]
theorem a7m{H:Hp}{a b:Addr}{o:HO}(h:b≠a):upd H a o b=H b:=by unfold upd; rw [if_neg h]
theorem j6s{H:Hp}{a b:Addr}{o u:HO}(h:H a=some o)(h':H b=some u)(d:o≠u):a≠b:=by
 intro e; subst e; rw [h] at h'; exact d (Option.some.inj h')
theorem a9y{H:Hp}{a b:Addr}{o:HO}(h:H a=some o)(h':H b=none):a≠b:=by
 intro e; subst e; rw [h] at h'; cases h'
section
variable (P:Program)(w:World)
noncomputable def b0p(H:Hp)(h:Heap)(a:Addr):HO->Prop
 | .lst xs=>xs.length<=sizeLine/\∃ (its:List Value) (n:Nat),Vals xs its/\h.get? a=some { cls:=.type "list",data:=.seq its.toArray n }
 | .tup xs=>xs.length<=sizeLine/\∃ its:List Value,Vals xs its/\IsTup h a its.toArray
 | .dK kvs=>kvs.length<=sizeLine/\(a == sysModules)=false/\∃ vs,KV kvs vs/\h.DictOf (b4z P w) a vs
 | .dT kvs=>kvs.length<=sizeLine/\(a == sysModules)=false/\∃ xs:List (List Key×Addr×Value),
   Paired (fun (p:List Key×V) (q:List Key×Addr×Value)=>p.1=q.1/\H q.2.1=some (.tup (p.1.map kV))/\RelV p.2 q.2.2) kvs xs /\
   ∃ o es ep,h.get? a=some o/\o.ExactDict/\o.data = .dict es ep/\es.toList=xs.map (entryOfKey (tupleKind (b4z P w)))/\(xs.map (·.1)).Nodup
 | .set S n=>h.SetOf (intKind P w) a S n
 | .ins C dx fs=>H dx=some (.own a)/\fs.length<=1000/\dx≠a/\h.get? a=some (PySem.W.instObj C dx) /\
   ∃ mA,h.Ns1 dx mA/\(∀ f,f9z (fs.lookup f) (mA f))/\PySem.Within mA (fs.map (·.1))
 | .own _=>∃ o,h.get? a=some o
 | .xd fs=>∃ mA,h.Ns1 a mA/\∀ f,f9z (fs.lookup f) (mA f)
 | .rng lo hi=>∃ t u v,h.get? a=some { cls:=.type "range",data:=.fields #[.int lo t,.int hi u,.int 1 v] }
 | .frz o u=>h.get? a=some o/\b0p H h a u
 | .tbl ps=>h.get? a=some { cls:=.none,data:=.fields ps }
 | .met f x=>h.get? a=some (PySem.W.methodObj (.ref f) (.ref x))
 | .ext φ=>φ h/\(∃ o,h.get? a=some o)/\∀ h1 h2:Heap,φ h1->(∀ o,h1.get? a=some o->h2.get? a=some o)->φ h2
def HOk(H:Hp)(h:Heap):Prop:=∀ a o,H a=some o->b0p P w H h a o
end
section
variable {P:Program}{w:World}{H H':Hp}{h h':Heap}{a:Addr}{o:HO}
theorem b0p.lt(x:b0p P w H h a o):a < h.objs.size:=by
 cases o with
 | lst xs=>obtain⟨_,_,_,_,e⟩:=x; exact Heap.lt_size e
 | tup xs=>obtain⟨_,_,_,p⟩:=x; exact p.lt
 | dK kvs=>obtain⟨_,_,_,_,o,_,_,e,_⟩:=x; exact Heap.lt_size e
 | dT kvs=>obtain⟨_,_,_,_,o,_,_,e,_⟩:=x; exact Heap.lt_size e
 | set S n=>obtain⟨o,_,_,_,e,_⟩:=x; exact Heap.lt_size e
 | ins C dx fs=>obtain⟨_,_,_,e,_⟩:=x; exact Heap.lt_size e
 | own y=>obtain⟨_,e⟩:=x; exact Heap.lt_size e
 | xd fs=>obtain⟨_,⟨_,_,_,e,_⟩,_⟩:=x; exact Heap.lt_size e
 | rng lo hi=>obtain⟨_,_,_,e⟩:=x; exact Heap.lt_size e
 | frz ob u=>obtain⟨e,_⟩:=x; exact Heap.lt_size e
 | tbl ps=>exact Heap.lt_size (show h.get? a=some _ from x)
 | met f y=>exact Heap.lt_size (show h.get? a=some _ from x)
 | ext φ=>obtain⟨_,⟨_,e⟩,_⟩:=x; exact Heap.lt_size e
theorem Paired.j6t{α β:Type}{F G:α->β->Prop}:∀ {l₁:List α} {l₂:List β},Paired F l₁ l₂->(∀ a b,F a b->G a b)->Paired G l₁ l₂
 | _,_,.nil,_=>.nil
 | _,_,.cons r t,f=>.cons (f _ _ r) (Paired.j6t t f)
theorem b0p.stay(x:b0p P w H h a o)(k:∀ b u,(b=a\/H b=some (.own a))->h.get? b=some u->h'.get? b=some u)
  (ho:∀ b,H b=some (.own a)->H' b=some (.own a)) (ht:∀ b xs,H b=some (.tup xs)->H' b=some (.tup xs)):b0p P w H' h' a o:=by
 induction o with
 | lst xs=>obtain⟨z,its,n,r,e⟩:=x; exact⟨z,its,n,r,k _ _ (.inl rfl) e⟩
 | tup xs=>obtain⟨z,its,r,ob,e,c⟩:=x; exact⟨z,its,r,ob,k _ _ (.inl rfl) e,c⟩
 | dK kvs=>obtain⟨z,y,vs,r,ob,es,ep,e,c⟩:=x; exact⟨z,y,vs,r,ob,es,ep,k _ _ (.inl rfl) e,c⟩
 | dT kvs =>
  obtain⟨z,y,xs,r,ob,es,ep,e,c⟩:=x
  exact⟨z,y,xs,Paired.j6t r fun p q z=>⟨z.1,ht _ _ z.2.1,z.2.2⟩,ob,es,ep,k _ _ (.inl rfl) e,c⟩
 | set S n=>obtain⟨ob,es,ep,t,e,c⟩:=x; exact⟨ob,es,ep,t,k _ _ (.inl rfl) e,c⟩
 | ins C dx fs =>
  obtain⟨d,z,ne,e,mA,⟨od,es,ep,e2,c⟩,r⟩:=x
  exact⟨ho _ d,z,ne,k _ _ (.inl rfl) e,mA,⟨od,es,ep,k _ _ (.inr d) e2,c⟩,r⟩
 | own y=>obtain⟨ob,e⟩:=x; exact⟨ob,k _ _ (.inl rfl) e⟩
 | xd fs=>obtain⟨mA,⟨od,es,ep,e,c⟩,r⟩:=x; exact⟨mA,⟨od,es,ep,k _ _ (.inl rfl) e,c⟩,r⟩
 | rng lo hi=>obtain⟨t,u,v,e⟩:=x; exact⟨t,u,v,k _ _ (.inl rfl) e⟩
 | frz ob u ih=>obtain⟨e,q⟩:=x; exact⟨k _ _ (.inl rfl) e,ih q⟩
 | tbl ps =>
  have e:h.get? a=some { cls:=.none,data:=.fields ps }:=x
  show h'.get? a=some { cls:=.none,data:=.fields ps }
  exact k a _ (.inl rfl) e
 | met f y =>
  have e:h.get? a=some (PySem.W.methodObj (.ref f) (.ref y)):=x
  show h'.get? a=some (PySem.W.methodObj (.ref f) (.ref y))
  exact k a _ (.inl rfl) e
 | ext φ=>obtain⟨p,⟨o,e⟩,st⟩:=x; exact⟨st _ _ p fun o q=>k _ _ (.inl rfl) q,⟨o,k _ _ (.inl rfl) e⟩,st⟩
theorem HOk.lt(x:HOk P w H h)(e:H a=some o):a < h.objs.size:=(x a o e).lt
theorem HOk.fresh(x:HOk P w H h)(e:h.objs.size<=a):H a=none:=by
 cases q:H a with
 | none=>rfl
 | some u=>exact absurd (Nat.lt_of_lt_of_le (x.lt q) e) (Nat.lt_irrefl _)
theorem HOk.kept(x:HOk P w H h)(k:∀ b u,h.get? b=some u->h'.get? b=some u):HOk P w H h':=fun a o e =>
 (x a o e).stay (fun b u _ q=>k b u q) (fun _ q=>q) fun _ _ q=>q
theorem HOk.laid(x:HOk P w H h)(k:∀ b u,h.get? b=some u->h'.get? b=some u)(hp:h.objs.size<=a)(new:b0p P w (upd H a o) h' a o):HOk P w (upd H a o) h':=fun b u e=>by
 have hn:=x.fresh hp
 by_cases hb:b=a
 ·subst hb; rw [a6m] at e; cases e; exact new
 ·rw [a7m hb] at e
  exact (x b u e).stay (fun c v _ q=>k c v q) (fun c q=>by rw [a7m (a9y q hn)]; exact q) fun c xs q=>by rw [a7m (a9y q hn)]; exact q
end
def Rd(H:Hp)(a:Addr)(u:HO):Prop:=H a=some u\/∃ o,H a=some (.frz o u)
theorem Rd.ok{P:Program}{w:World}{H:Hp}{h:Heap}{a:Addr}{u:HO}(r:Rd H a u)(x:HOk P w H h):b0p P w H h a u:=by
 rcases r with r | ⟨o,r⟩
 ·exact x a u r
 ·obtain⟨_,q⟩:=x a _ r
  exact q
noncomputable def Mut:Option HO->Prop
 | some (.lst _)=>True
 | some (.dK _)=>True
 | some (.dT _)=>True
 | some (.set _ _)=>True
 | some (.ins _ _ _)=>True
 | some (.ext _)=>True
 | _=>False
section
variable {P:Program}{w:World}{H:Hp}{h h':Heap}{x e:Addr}{o':HO}
theorem HOk.write(ok:HOk P w H h)(mu:Mut (H x))(he:e=x\/H e=some (.own x))(k:∀ b u,b≠e->h.get? b=some u->h'.get? b=some u)(heo:∃ u,h'.get? e=some u)
  (new:b0p P w (upd H x o') h' x o'):HOk P w (upd H x o') h':=fun b u q=>by
 have k0r:∀ c y,H c=some (.own y)->c≠x:=fun c y r z=>by subst z; rw [r] at mu; exact mu
 have ntup:∀ c xs,H c=some (.tup xs)->c≠x:=fun c xs r z=>by subst z; rw [r] at mu; exact mu
 by_cases hb:b=x
 ·subst hb; rw [a6m] at q; cases q; exact new
 ·rw [a7m hb] at q
  by_cases hbe:b=e
  ·have q':H b=some (.own x):=by
    rcases he with z | z
    ·exact absurd (hbe.trans z) hb
    ·rw [hbe]; exact z
   rw [q] at q'; cases q'
   obtain⟨v,hv⟩:=heo
   exact⟨v,by rw [hbe]; exact hv⟩
  ·refine (ok b u q).stay (fun c v hc r=>k c v ?_ r) (fun c r=>by rw [a7m (k0r c b r)]; exact r) fun c xs r=>by rw [a7m (ntup c xs r)]; exact r
   rcases hc with rfl | hc
   ·exact hbe
   ·rintro rfl
    rcases he with z | z
    ·exact k0r c b hc z
    ·rw [hc] at z; cases z; exact hb rfl
end
structure Un(fs ex:List Addr)(H H':Hp)(h h':Heap):Prop where
 keep:∀ b o,h.get? b=some o->H b=none->b∉fs->b∉ex->h'.get? b=some o
 slot:∀ b o,h.get? b=some o->H b=none->b∈fs->b∉ex->∃ sl,h'.get? b=some { o with slots:=sl }
 free:∀ b o,h.get? b=some o->H b=none->b∉ex->H' b=none
 there:∀ b o,h.get? b=some o->b∉ex->∃ o',h'.get? b=some o'
 tups:∀ b xs,H b=some (.tup xs)->H' b=some (.tup xs)
 g0a:∀ b o u,H b=some (.frz o u)->H' b=some (.frz o u)
 g1p:∀ b ps,H b=some (.tbl ps)->∃ more,H' b=some (.tbl (ps++more))
section
variable {fs fs' ex ex':List Addr}{H H1 H2:Hp}{h h1 h2 h':Heap}{a x e:Addr}{o:HO}
theorem Un.any(u:Un fs ex H H1 h h1){b:Addr}{ob:Obj}(q:h.get? b=some ob)(n:H b=none)(hx:b∉ex):∃ sl,h1.get? b=some { ob with slots:=sl }:=by
 by_cases hb:b∈fs
 ·exact u.slot b ob q n hb hx
 ·exact⟨ob.slots,u.keep b ob q n hb hx⟩
theorem Un.trans(a:Un fs ex H H1 h h1)(b:Un fs ex H1 H2 h1 h2):Un fs ex H H2 h h2 where
 keep:=fun c ob q n hc hx=>b.keep c ob (a.keep c ob q n hc hx) (a.free c ob q n hx) hc hx
 slot:=fun c ob q n hc hx=>by
  obtain⟨sl,e1⟩:=a.slot c ob q n hc hx
  obtain⟨sl',e2⟩:=b.slot c _ e1 (a.free c ob q n hx) hc hx
  exact⟨sl',e2⟩
 free:=fun c ob q n hx=>by
  obtain⟨o',e1⟩:=a.there c ob q hx
  exact b.free c o' e1 (a.free c ob q n hx) hx
 there:=fun c ob q hx=>by
  obtain⟨o',e1⟩:=a.there c ob q hx
  exact b.there c o' e1 hx
 tups:=fun c xs q=>b.tups c xs (a.tups c xs q)
 g0a:=fun c ob xs q=>b.g0a c ob xs (a.g0a c ob xs q)
 g1p:=fun c ps q=>by
  obtain⟨m1,e1⟩:=a.g1p c ps q
  obtain⟨m2,e2⟩:=b.g1p c _ e1
  exact⟨m1++m2,by rw [e2,Array.append_assoc]⟩
theorem Un.kept(k:∀ b u,h.get? b=some u->h'.get? b=some u):Un fs ex H H h h' :=
 ⟨fun b ob q _ _ _=>k b ob q,fun b ob q _ _ _=>⟨ob.slots,k b ob q⟩,fun _ _ _ n _=>n,fun b ob q _=>⟨ob,k b ob q⟩,fun _ _ q=>q,fun _ _ _ q=>q,fun _ ps q=>⟨#[],by rw [q]; simp⟩⟩
theorem Un.refl:Un fs ex H H h h:=Un.kept fun _ _ q=>q
theorem Un.laid(k:∀ b u,h.get? b=some u->h'.get? b=some u)(hp:h.objs.size<=a)(hn:H a=none):Un fs ex H (upd H a o) h h' where
 keep:=fun b u q _ _ _=>k b u q
 slot:=fun b u q _ _ _=>⟨u.slots,k b u q⟩
 free:=fun b u q n _=>by rw [a7m (Nat.ne_of_lt (Nat.lt_of_lt_of_le (Heap.lt_size q) hp))]; exact n
 there:=fun b u q _=>⟨u,k b u q⟩
 tups:=fun b xs q=>by rw [a7m (a9y q hn)]; exact q
 g0a:=fun b u xs q=>by rw [a7m (a9y q hn)]; exact q
 g1p:=fun b ps q=>⟨#[],by rw [a7m (a9y q hn),q]; simp⟩
theorem Un.write(mu:Mut (H x))(he:e=x\/H e=some (.own x))(k:∀ b u,b≠e->h.get? b=some u->h'.get? b=some u)(heo:∃ u,h'.get? e=some u):Un fs ex H (upd H x o) h h':=by
 have hx:∀ b,H b=none->b≠x:=fun b n z=>by subst z; rw [n] at mu; exact mu
 have hb:∀ b,H b=none->b≠e:=fun b n z=>by
  subst z
  rcases he with r | r
  ·exact hx b n r
  ·rw [n] at r; cases r
 have hm:∀ b u,H b=some u->¬ Mut (some u)->b≠x:=fun b u q nm z=>by subst z; rw [q] at mu; exact nm mu
 refine⟨fun b u q n _ _=>k b u (hb b n) q,fun b u q n _ _=>⟨u.slots,k b u (hb b n) q⟩,fun b u q n _=>by rw [a7m (hx b n)]; exact n,fun b u q _=>?_,
  fun b xs q=>by rw [a7m (hm b _ q fun z=>z)]; exact q,fun b u xs q=>by rw [a7m (hm b _ q fun z=>z)]; exact q,fun b ps q=>⟨#[],by rw [a7m (hm b _ q fun z=>z),q]; simp⟩⟩
 by_cases hbe:b=e
 ·subst hbe; exact heo
 ·exact⟨u,k b u hbe q⟩
end
noncomputable def trk(h:Heap)(H:Hp):List Addr:=(List.range h.objs.size).filter fun a=>(H a).isSome
noncomputable def h9j(h:Heap)(H:Hp):Heap:=PySem.W.hideAll h (trk h H)
theorem h5f(h:Heap)(H:Hp):(h9j h H).objs.size=h.objs.size:=PySem.W.hideAll_size _ _
theorem h9k{h:Heap}{H:Hp}{b:Addr}{o:Obj}(e:h.get? b=some o)(n:H b=none):(h9j h H).get? b=some o :=
 PySem.W.hideAll_get _ e fun hm=>by
  have q:(H b).isSome=true:=(List.mem_filter.mp hm).2
  rw [n] at q; simp at q
theorem i5d{h:Heap}{H:Hp}{b:Addr}{o:Obj}(e:(h9j h H).get? b=some o):h.get? b=some o/\H b=none:=by
 have e':h.get? b=some o:=PySem.W.of_hideAll (trk h H) e
 refine⟨e',?_⟩
 cases q:H b with
 | none=>rfl
 | some x =>
  have hm:b∈trk h H:=List.mem_filter.mpr ⟨List.mem_range.mpr (Heap.lt_size e'),by simp [q]⟩
  have z:(h9j h H).get? b=none:=PySem.W.hideAll_none (trk h H) hm
  rw [z] at e; cases e
noncomputable def i5e(g h:Heap)(L:Addr):List (Addr×Obj):=(List.range h.objs.size).filterMap fun a=>if a=L\/(g.get? a).isSome=true then none else (h.get? a).map fun o=>(a,o)
noncomputable def rest(g h:Heap)(L d:Addr):List (Addr×Obj):=(i5e g h L).filter fun p=>decide (p.1≠d)
end L2
namespace L2
open PySem PySem.Spec PyProof.Rows
structure Mod(K:PySem.W.Frag)(mg:Str->Option Value)(base:Heap):Prop where
 kin:K.In base
 glob:base.Ns mainGlobals mg
 blt:∃ mb,base.Ns builtinsNs mb/\∀ x:Str,x≠"__name__"->mb x=bootBuiltins x
 nolimit:base.NoLimit
structure Cx where
 prog:Program
 w:World
 K:PySem.W.Frag
 mg:Str->Option Value
 base:Heap
 A:Around
 N:List Str
 s₀:Shared
 H₀:Hp
 env:Env
 outer:List Env
 stack:List Env
 ex:List Addr
 fn:Str->Bool
 calm:Bool
 pn:List (Addr×Obj)
 xe:Value->Shared->Prop
noncomputable def frs(l:List Env):List Addr:=l.filterMap (·.frame)
noncomputable abbrev Cx.fs(X:Cx):List Addr:=frs X.outer
def Vis(sc:Scope)(x:Str):Prop:=sc.names.lookup x=some .local\/sc.names.lookup x=some .cell\/sc.names.lookup x=some .free
def Loc(sc:Scope)(x:Str):Prop:=sc.names.lookup x=some .local\/sc.names.lookup x=some .cell
def Look(env:Env)(h:Heap)(m:Str->Option Value)(x:Str)(u:Value):Prop :=
 (env.kindOf x=some .local/\m x=some u)\/((env.kindOf x=some .cell\/env.kindOf x=some .free)/\∃ c,env.cells.lookup x=some c/\h.IsCell c (some u))
structure Cx.Ok(X:Cx):Prop where
 mod:Mod X.K X.mg X.base
 kind:X.env.scope.kind = .function
 glob:X.env.globals=mainGlobals
 blt:X.env.builtins=builtinsNs
 above:X.s₀.heap.objs.size<=X.env.locals
 inj:∀ x y c,X.env.cells.lookup x=some c->X.env.cells.lookup y=some c->x=y
 has:∀ x,(X.env.kindOf x=some .cell\/X.env.kindOf x=some .free)->∃ c,X.env.cells.lookup x=some c
 cab:∀ x c,X.fn x=true->X.env.cells.lookup x=some c->X.s₀.heap.objs.size<=c
 hd:X.calm=true->X.A.handled=none
 frames:X.A.frames=some X.stack
 stk:X.stack=X.outer\/(X.stack=X.env :: X.outer/\X.env.frame=some X.env.locals)
 exf:∀ b∈X.ex,b≠X.env.locals/\∀ x c,X.env.cells.lookup x=some c->c≠b
 bs:∀ b o,X.base.get? b=some o->X.s₀.heap.get? b=some o/\X.H₀ b=none
 bsz:X.base.objs.size<=X.s₀.heap.objs.size
 i2q:∀ b o,X.base.get? b=some o->b∉X.ex
 i9y:∀ b∈X.ex,b∉X.fs
 h2g:X.s₀.heap.FunFrames X.base X.outer
 frf:∀ b∈X.fs,X.H₀ b=none
structure Inv(X:Cx)(pins:List (Addr×Obj))(σ:List (Option V))(H:Hp)(s:Shared):Prop where
 ok:X.Ok
 os:s.os=X.s₀.os
 bare:AllBare s.gens
 base:Un X.fs X.ex X.H₀ H X.s₀.heap s.heap
 loc:∃ m,s.heap.Ns X.env.locals m/\∀ (i:Nat) (x:Str) (v:V),X.N[i]? = some x->σ[i]? = some (some v)->Vis X.env.scope x->∃ u,RelV v u/\Look X.env s.heap m x u
 cell:∀ x c,X.env.cells.lookup x=some c->∃ v,s.heap.IsCell c v
 free:H X.env.locals=none
 d5o:∀ x c,X.env.cells.lookup x=some c->H c=none
 pin:∀ p∈X.pn++pins,s.heap.get? p.1=some p.2/\H p.1=none/\p.1≠X.env.locals/\p.1∉X.fs/\∀ v,p.2.data≠.cell v
 hok:HOk X.prog X.w H s.heap
 len:σ.length=X.N.length
section
variable {X:Cx}{pins:List (Addr×Obj)}{σ:List (Option V)}{H H':Hp}{s:Shared}{h':Heap}
theorem Cx.Ok.nofr(ok:X.Ok){b:Addr}{o:Obj}(e:X.base.get? b=some o):b∉X.fs:=fun hb=>by
 have:=(ok.h2g.mem hb).1
 rw [e] at this; cases this
theorem Inv.bs(I:Inv X pins σ H s):∀ b o,X.base.get? b=some o->s.heap.get? b=some o/\H b=none:=fun b o e =>
 ⟨I.base.keep b o (I.ok.bs b o e).1 (I.ok.bs b o e).2 (I.ok.nofr e) (I.ok.i2q b o e),I.base.free b o (I.ok.bs b o e).1 (I.ok.bs b o e).2 (I.ok.i2q b o e)⟩
theorem Inv.bk(I:Inv X pins σ H s):∀ b o,X.base.get? b=some o->s.heap.get? b=some o:=fun b o e=>(I.bs b o e).1
theorem Inv.mod(I:Inv X pins σ H s):Mod X.K X.mg X.base:=I.ok.mod
theorem Inv.kIn(I:Inv X pins σ H s):X.K.In s.heap:=I.ok.mod.kin.keeps I.bk
theorem Inv.lt(I:Inv X pins σ H s):X.env.locals < s.heap.objs.size:=let ⟨_,hn,_⟩:=I.loc; hn.lt
theorem Inv.sz(I:Inv X pins σ H s):X.s₀.heap.objs.size<=s.heap.objs.size:=Nat.le_trans I.ok.above (Nat.le_of_lt I.lt)
theorem Inv.nofs(I:Inv X pins σ H s){a:Addr}(h:s.heap.objs.size<=a):a∉X.fs:=fun hb=>by
 obtain⟨_,o,ho,_⟩:=I.ok.h2g.mem hb
 exact absurd (Nat.lt_of_lt_of_le (Heap.lt_size ho) (Nat.le_trans I.sz h)) (Nat.lt_irrefl _)
theorem Inv.cne(I:Inv X pins σ H s):∀ x c,X.env.cells.lookup x=some c->c≠X.env.locals:=fun x c e z=>by
 obtain⟨v,o,ho,hd⟩:=I.cell x c e
 obtain⟨m,⟨o',es,ep,ho',hd',_⟩,_⟩:=I.loc
 rw [z,ho'] at ho; cases ho; rw [hd'] at hd; cases hd
theorem Inv.h2g(I:Inv X pins σ H s):s.heap.FunFrames X.base X.outer:=by
 have all:∀ (l:List Env),(∀ b∈frs l,b∈X.fs)->X.s₀.heap.FunFrames X.base l->s.heap.FunFrames X.base l:=by
  intro l
  induction l with
  | nil=>intro _ _; trivial
  | cons env r ih =>
   intro hs hl
   obtain⟨hk,⟨L,o,hf,hn,ho,hd⟩,hr⟩:=hl
   have hL:L∈X.fs:=hs L (by unfold frs; rw [List.filterMap_cons,hf]; exact List.mem_cons_self)
   obtain⟨sl,e⟩:=I.base.slot L o ho (I.ok.frf L hL) hL fun z=>I.ok.i9y L z hL
   exact⟨hk,⟨L,_,hf,hn,e,hd⟩,ih (fun b hb=>hs b (by unfold frs; rw [List.filterMap_cons,hf]; exact List.mem_cons_of_mem _ hb)) hr⟩
 exact all X.outer (fun _ hb=>hb) I.ok.h2g
theorem Inv.stack(I:Inv X pins σ H s):s.heap.FunFrames X.base X.stack:=by
 rcases I.ok.stk with e | ⟨e,hf⟩
 ·rw [e]; exact I.h2g
 ·rw [e]
  obtain⟨m,hn,_⟩:=I.loc
  refine .cons (by rw [I.ok.kind]; decide) hf hn ?_ I.h2g
  exact Heap.get?_none_of_le (Nat.le_trans I.ok.bsz I.ok.above)
theorem Inv.d5q(I:Inv X pins σ H s):∀ b∈frs X.stack,b∈X.env.locals :: X.fs:=fun b hb=>by
 rcases I.ok.stk with e | ⟨e,hf⟩
 ·rw [e] at hb; exact List.mem_cons_of_mem _ hb
 ·rw [e] at hb
  unfold frs at hb
  rw [List.filterMap_cons,hf] at hb
  exact hb
theorem Inv.d9v(I:Inv X pins σ H s):∀ b∈frs X.stack,H b=none:=fun b hb=>by
 rcases List.mem_cons.mp (I.d5q b hb) with e | hb
 ·rw [e]; exact I.free
 ·obtain⟨_,o,ho,_⟩:=I.ok.h2g.mem hb
  exact I.base.free b o ho (I.ok.frf b hb) fun z=>I.ok.i9y b z hb
theorem Inv.step{g':Array GenState}{t':Nat}{d':Drawn}{ch:List Addr}(I:Inv X pins σ H s)
  (hch:∀ b∈ch,(b∈X.ex\/X.s₀.heap.objs.size<=b)/\b≠X.env.locals/\(∀ x c,X.env.cells.lookup x=some c->c≠b)/\∀ p∈X.pn++pins,p.1≠b)
  (keep:∀ b o,b≠X.env.locals->b∉X.fs->b∉ch->s.heap.get? b=some o->H b=none->h'.get? b=some o)
  (slot:∀ b o,b≠X.env.locals->b∈X.fs->b∉ch->s.heap.get? b=some o->H b=none->∃ sl,h'.get? b=some { o with slots:=sl }) (free:∀ b o,b∉ch->s.heap.get? b=some o->H b=none->H' b=none)
  (there:∀ b o,b∉ch->s.heap.get? b=some o->∃ o',h'.get? b=some o')
  (tups:∀ b xs,H b=some (.tup xs)->H' b=some (.tup xs)) (g0a:∀ b o u,H b=some (.frz o u)->H' b=some (.frz o u)) (g1p:∀ b ps,H b=some (.tbl ps)->∃ more,H' b=some (.tbl (ps++more)))
  (ns:∀ m,s.heap.Ns X.env.locals m->h'.Ns X.env.locals m) (hok:HOk X.prog X.w H' h') (hg:AllBare g') :
  Inv X pins σ H' { s with heap:=h',gens:=g',drawn:=d',toks:=t' }:=by
 have neL:∀ b o,X.s₀.heap.get? b=some o->b≠X.env.locals:=fun b o e=>Nat.ne_of_lt (Nat.lt_of_lt_of_le (Heap.lt_size e) I.ok.above)
 have neC:∀ b o,X.s₀.heap.get? b=some o->b∉X.ex->b∉ch:=fun b o e hx hb=>by
  rcases (hch b hb).1 with z | z
  ·exact hx z
  ·exact absurd (Nat.lt_of_lt_of_le (Heap.lt_size e) z) (Nat.lt_irrefl _)
 have cellK:∀ x c,X.env.cells.lookup x=some c->∀ v,s.heap.IsCell c v->h'.IsCell c v:=fun x c e v ⟨o,ho,hd⟩=>by
  have nch:c∉ch:=fun z=>(hch c z).2.2.1 x c e rfl
  by_cases hc:c∈X.fs
  ·obtain⟨sl,q⟩:=slot c o (I.cne x c e) hc nch ho (I.d5o x c e)
   exact⟨_,q,hd⟩
  ·exact⟨o,keep c o (I.cne x c e) hc nch ho (I.d5o x c e),hd⟩
 refine⟨I.ok,I.os,hg,⟨fun b o e n hb hx=>?_,fun b o e n hb hx=>?_,fun b o e n hx=>?_,fun b o e hx=>?_,fun b xs e=>tups b xs (I.base.tups b xs e),fun b o xs e=>g0a b o xs (I.base.g0a b o xs e),fun b ps e=>?_⟩,?_,fun x c e=>?_,?_,fun x c e=>?_,fun p hp=>?_,hok,I.len⟩
 ·exact keep b o (neL b o e) hb (neC b o e hx) (I.base.keep b o e n hb hx) (I.base.free b o e n hx)
 ·obtain⟨sl,e1⟩:=I.base.slot b o e n hb hx
  obtain⟨sl',e2⟩:=slot b _ (neL b o e) hb (neC b o e hx) e1 (I.base.free b o e n hx)
  exact⟨sl',e2⟩
 ·obtain⟨o',e1⟩:=I.base.there b o e hx
  exact free b o' (neC b o e hx) e1 (I.base.free b o e n hx)
 ·obtain⟨o',e1⟩:=I.base.there b o e hx
  exact there b o' (neC b o e hx) e1
 ·obtain⟨m1,e1⟩:=I.base.g1p b ps e
  obtain⟨m2,e2⟩:=g1p b _ e1
  exact⟨m1++m2,by rw [e2,Array.append_assoc]⟩
 ·obtain⟨m,hn,hl⟩:=I.loc
  refine⟨m,ns m hn,fun i x v e1 e2 e3=>?_⟩
  obtain⟨u,r,l⟩:=hl i x v e1 e2 e3
  refine⟨u,r,?_⟩
  rcases l with l | ⟨k,c,e,z⟩
  ·exact .inl l
  ·exact .inr ⟨k,c,e,cellK x c e _ z⟩
 ·obtain⟨v,z⟩:=I.cell x c e
  exact⟨v,cellK x c e v z⟩
 ·obtain⟨m,⟨o,_,_,ho,_⟩,_⟩:=I.loc
  exact free _ o (fun z=>(hch _ z).2.1 rfl) ho I.free
 ·obtain⟨v,o,ho,hd⟩:=I.cell x c e
  exact free c o (fun z=>(hch c z).2.2.1 x c e rfl) ho (I.d5o x c e)
 ·obtain⟨e,n,ne,nf,d⟩:=I.pin p hp
  have nch:p.1∉ch:=fun z=>(hch p.1 z).2.2.2 p hp rfl
  exact⟨keep p.1 p.2 ne nf nch e n,free p.1 p.2 nch e n,ne,nf,d⟩
theorem Inv.un{t':Nat}(I:Inv X pins σ H s)(u:Un X.fs [] H H' s.heap h')(hok:HOk X.prog X.w H' h'):Inv X pins σ H' { s with heap:=h',toks:=t' }:=by
 obtain⟨m,⟨o,es,ep,ho,r⟩,_⟩:=id I.loc
 obtain⟨sl,hL⟩:=u.any ho I.free (by simp)
 exact I.step (g':=s.gens) (d':=s.drawn) (ch:=[]) (fun _ z=>nomatch z) (fun b o _ hb _ e n=>u.keep b o e n hb (by simp)) (fun b o _ hb _ e n=>u.slot b o e n hb (by simp)) (fun b o _ e n=>u.free b o e n (by simp)) (fun b o _ e=>u.there b o e (by simp)) u.tups u.g0a u.g1p (fun m' hm=>by
  obtain⟨o',es',ep',ho',r'⟩:=hm
  rw [ho] at ho'; cases ho'
  exact⟨_,es',ep',hL,r'⟩) hok I.bare
theorem Inv.call{g':Array GenState}{t':Nat}{d':Drawn}{ch:List Addr}(I:Inv X pins σ H s)(u:Un (frs X.stack) ch H H' s.heap h')(hok:HOk X.prog X.w H' h')(hg:AllBare g')
  (hch:∀ b∈ch,(b∈X.ex\/X.s₀.heap.objs.size<=b)/\b≠X.env.locals/\(∀ x c,X.env.cells.lookup x=some c->c≠b)/\∀ p∈X.pn++pins,p.1≠b) :
  Inv X pins σ H' { s with heap:=h',gens:=g',drawn:=d',toks:=t' }:=by
 obtain⟨m,⟨o,es,ep,ho,r⟩,_⟩:=id I.loc
 obtain⟨sl,hL⟩:=u.any ho I.free fun z=>(hch _ z).2.1 rfl
 exact I.step (ch:=ch) hch (fun b o hL hb hc e n=>u.keep b o e n (fun z=>(List.mem_cons.mp (I.d5q b z)).elim hL hb) hc) (fun b o _ _ hc e n=>u.any e n hc) (fun b o hc e n=>u.free b o e n hc) (fun b o hc e=>u.there b o e hc) u.tups u.g0a u.g1p (fun m' hm=>by
  obtain⟨o',es',ep',ho',r'⟩:=hm
  rw [ho] at ho'; cases ho'
  exact⟨_,es',ep',hL,r'⟩) hok hg
theorem Inv.turned{t':Nat}{it:Addr}(I:Inv X pins σ H s)(k:∀ b o,b≠it->s.heap.get? b=some o->h'.get? b=some o)(hn:H it=none)(hL:it≠X.env.locals)
  (h1:it∈X.ex\/X.s₀.heap.objs.size<=it) (h2:∀ x c,X.env.cells.lookup x=some c->c≠it) (h3:∀ p∈X.pn++pins,p.1≠it):Inv X pins σ H { s with heap:=h',toks:=t' }:=by
 have nit:∀ b u,H b=some u->b≠it:=fun b u e z=>by rw [z,hn] at e; cases e
 refine I.step (g':=s.gens) (d':=s.drawn) (ch:=[it]) (fun b hb=>?_) (fun b o _ _ hc e _=>k b o (fun z=>hc (by simp [z])) e) (fun b o _ _ hc e _=>⟨o.slots,k b o (fun z=>hc (by simp [z])) e⟩) (fun _ _ _ _ n=>n)
  (fun b o hc e=>⟨o,k b o (fun z=>hc (by simp [z])) e⟩) (fun _ _ e=>e) (fun _ _ _ e=>e) (fun b ps e=>⟨#[],by rw [e]; simp⟩) (fun m hm=>?_) (fun b u e=>?_) I.bare
 ·have e:b=it:=by simpa using hb
  subst e
  exact⟨h1,hL,h2,h3⟩
 ·obtain⟨o,es,ep,ho,r⟩:=hm
  exact⟨o,es,ep,k _ o (Ne.symm hL) ho,r⟩
 ·refine (I.hok b u e).stay (fun c v hc q=>k c v ?_ q) (fun _ q=>q) fun _ _ q=>q
  rcases hc with z | z
  ·rw [z]; exact nit b u e
  ·exact nit c _ z
theorem Inv.tok(I:Inv X pins σ H s)(t:Nat):Inv X pins σ H { s with toks:=t }:=I.un (h':=s.heap) (t':=t) Un.refl I.hok
theorem Inv.kept{t':Nat}(I:Inv X pins σ H s)(k:∀ b u,s.heap.get? b=some u->h'.get? b=some u):Inv X pins σ H { s with heap:=h',toks:=t' }:=I.un (Un.kept k) (I.hok.kept k)
theorem Inv.laid{a:Addr}{o:HO}{t':Nat}(I:Inv X pins σ H s)(k:∀ b u,s.heap.get? b=some u->h'.get? b=some u)(hp:s.heap.objs.size<=a)(new:b0p X.prog X.w (upd H a o) h' a o) :
  Inv X pins σ (upd H a o) { s with heap:=h',toks:=t' }:=I.un (Un.laid k hp (I.hok.fresh hp)) (I.hok.laid k hp new)
theorem Inv.write{x e:Addr}{o:HO}{t':Nat}(I:Inv X pins σ H s)(mu:Mut (H x))(he:e=x\/H e=some (.own x))(k:∀ b u,b≠e->s.heap.get? b=some u->h'.get? b=some u)(heo:∃ u,h'.get? e=some u)
  (new:b0p X.prog X.w (upd H x o) h' x o):Inv X pins σ (upd H x o) { s with heap:=h',toks:=t' }:=I.un (Un.write mu he k heo) (I.hok.write mu he k heo new)
theorem Inv.h5g{pins':List (Addr×Obj)}(I:Inv X pins σ H s)(h:∀ p∈pins',s.heap.get? p.1=some p.2/\H p.1=none/\p.1≠X.env.locals/\p.1∉X.fs/\∀ v,p.2.data≠.cell v):Inv X pins' σ H s :=
 ⟨I.ok,I.os,I.bare,I.base,I.loc,I.cell,I.free,I.d5o,fun p hp=>(List.mem_append.mp hp).elim (fun z=>I.pin p (List.mem_append_left _ z)) (h p),I.hok,I.len⟩
theorem g1q{N:List Str}(hN:N.Nodup){i j:Nat}{x:Str}(a:N[i]? = some x)(b:N[j]? = some x):i=j:=by
 obtain⟨h1,e1⟩:=List.getElem?_eq_some_iff.mp a
 obtain⟨h2,e2⟩:=List.getElem?_eq_some_iff.mp b
 exact (List.getElem_inj hN).mp (e1.trans e2.symm)
theorem f3u{M:Model}{A:Around}{E:Value->Shared->Prop}{i:Nat}{x:Str}{v:V}{u:Value}{Q:Unit->Shared->Prop}(I:Inv X pins σ H s)(hN:X.N.Nodup)(hi:X.N[i]? = some x)(hx:Loc X.env.scope x)(r:RelV v u)
  (h:∀ s',Inv X pins (σ.set i (some v)) H s'->(∃ a,Heap.SameBut a s.heap s'.heap/\(a=X.env.locals\/X.env.cells.lookup x=some a))->Q () s') (hf:X.fn x=true\/X.env.scope.names.lookup x=some .local:=by first | exact .inl rfl | exact .inr rfl | assumption):wpAny M A (storeName X.env x u) Q E s:=by
 obtain⟨m,hn,hl⟩:=id I.loc
 have hcls:(X.env.scope.kind == .class || (X.env.scope.kind == .module && X.env.locals != X.env.globals))=false:=by rw [I.ok.kind]; rfl
 have hiσ:i < σ.length:=by rw [I.len]; exact (List.getElem?_eq_some_iff.mp hi).1
 have cne:=I.cne
 have tracked:∀ {a:Addr} {h':Heap},(∃ o,s.heap.get? a=some o/\H a=none)->Heap.SameBut a s.heap h'->HOk X.prog X.w H h':=fun {a h'} ha hs b ob e=>by
  obtain⟨_,_,hfree⟩:=ha
  refine (I.hok b ob e).stay (fun c w' hc q=>(hs.2 c ?_).trans q) (fun _ q=>q) fun _ _ q=>q
  rintro rfl
  rcases hc with rfl | hc
  ·rw [hfree] at e; cases e
  ·rw [hfree] at hc; cases hc
 rcases hx with hk | hk
 ·refine wpAny_storeName_local hk hn (fun h' hn' hs=>?_) hcls
  obtain⟨oL,_,_,hoL,_⟩:=id hn
  refine h _ ⟨I.ok,I.os,I.bare,⟨fun b o e n hb hx=>?_,fun b o e n hb hx=>?_,I.base.free,fun b o e hx=>?_,I.base.tups,I.base.g0a,I.base.g1p⟩,⟨_,hn',fun j y v' e1 e2 e3=>?_⟩,fun y c e=>?_,I.free,I.d5o,fun p hp=>?_,tracked ⟨oL,hoL,I.free⟩ hs,by simpa using I.len⟩ ⟨_,hs,.inl rfl⟩
  ·exact (hs.2 b (Nat.ne_of_lt (Nat.lt_of_lt_of_le (Heap.lt_size e) I.ok.above))).trans (I.base.keep b o e n hb hx)
  ·obtain⟨sl,e1⟩:=I.base.slot b o e n hb hx
   exact⟨sl,(hs.2 b (Nat.ne_of_lt (Nat.lt_of_lt_of_le (Heap.lt_size e) I.ok.above))).trans e1⟩
  ·obtain⟨o',e1⟩:=I.base.there b o e hx
   exact⟨o',(hs.2 b (Nat.ne_of_lt (Nat.lt_of_lt_of_le (Heap.lt_size e) I.ok.above))).trans e1⟩
  ·by_cases hj:j=i
   ·subst hj
    rw [hi] at e1; cases e1
    rw [List.getElem?_set_self hiσ] at e2
    cases e2
    exact⟨u,r,.inl ⟨hk,by simp⟩⟩
   ·rw [List.getElem?_set_ne (Ne.symm hj)] at e2
    obtain⟨u',r',q⟩:=hl j y v' e1 e2 e3
    refine⟨u',r',?_⟩
    rcases q with ⟨k,e⟩ | ⟨k,c,e,z⟩
    ·refine .inl ⟨k,?_⟩
     have:y≠x:=fun e=>hj (g1q hN e1 (e▸hi))
     simp [this,e]
    ·exact .inr ⟨k,c,e,z.sameBut hs (cne y c e)⟩
  ·obtain⟨w',z⟩:=I.cell y c e
   exact⟨w',z.sameBut hs (cne y c e)⟩
  ·obtain⟨e,n,ne,nf,d⟩:=I.pin p hp
   exact⟨(hs.2 p.1 ne).trans e,n,ne,nf,d⟩
 ·have hfn:X.fn x=true:=by
   rcases hf with z | z
   ·exact z
   ·rw [z] at hk; cases hk
  obtain⟨c,hc⟩:=I.ok.has x (.inl hk)
  obtain⟨w',z⟩:=I.cell x c hc
  refine wpAny_storeName_cell I.ok.kind hk hc z (fun h' hc' hs=>?_)
  obtain⟨oc,hoc,hocd⟩:=id z
  refine h { s with heap:=h' } ⟨I.ok,I.os,I.bare,⟨fun b o e n hb hx=>?_,fun b o e n hb hx=>?_,I.base.free,fun b o e hx=>?_,I.base.tups,I.base.g0a,I.base.g1p⟩,⟨m,hn.sameBut hs (Ne.symm (cne x c hc)),fun j y v' e1 e2 e3=>?_⟩,fun y c' e=>?_,I.free,I.d5o,fun p hp=>?_,tracked ⟨oc,hoc,I.d5o x c hc⟩ hs,by simpa using I.len⟩ ⟨c,hs,.inr hc⟩
  ·exact (hs.2 b (Nat.ne_of_lt (Nat.lt_of_lt_of_le (Heap.lt_size e) (I.ok.cab x c hfn hc)))).trans (I.base.keep b o e n hb hx)
  ·obtain⟨sl,e1⟩:=I.base.slot b o e n hb hx
   exact⟨sl,(hs.2 b (Nat.ne_of_lt (Nat.lt_of_lt_of_le (Heap.lt_size e) (I.ok.cab x c hfn hc)))).trans e1⟩
  ·obtain⟨o',e1⟩:=I.base.there b o e hx
   exact⟨o',(hs.2 b (Nat.ne_of_lt (Nat.lt_of_lt_of_le (Heap.lt_size e) (I.ok.cab x c hfn hc)))).trans e1⟩
  ·by_cases hj:j=i
   ·subst hj
    rw [hi] at e1; cases e1
    rw [List.getElem?_set_self hiσ] at e2
    cases e2
    exact⟨u,r,.inr ⟨.inl hk,c,hc,hc'⟩⟩
   ·rw [List.getElem?_set_ne (Ne.symm hj)] at e2
    obtain⟨u',r',q⟩:=hl j y v' e1 e2 e3
    refine⟨u',r',?_⟩
    rcases q with q | ⟨k,c',e,z'⟩
    ·exact .inl q
    ·refine .inr ⟨k,c',e,z'.sameBut hs ?_⟩
     rintro rfl
     exact hj (g1q hN e1 (I.ok.inj _ _ _ e hc▸hi))
  ·by_cases hcc:c'=c
   ·subst hcc; exact⟨_,hc'⟩
   ·obtain⟨w2,z2⟩:=I.cell y c' e
    exact⟨w2,z2.sameBut hs hcc⟩
  ·obtain⟨e,n,ne,nf,d⟩:=I.pin p hp
   refine⟨(hs.2 p.1 ?_).trans e,n,ne,nf,d⟩
   intro q
   rw [q,hoc] at e
   have q':oc=p.2:=Option.some.inj e
   exact d w' (by rw [<- q']; exact hocd)
theorem f3m{M:Model}{A:Around}{E:Value->Shared->Prop}{i:Nat}{x:Str}{v:V}{u:Value}{Q:Unit->Shared->Prop}(I:Inv X pins σ H s)(hN:X.N.Nodup)(hi:X.N[i]? = some x)(hx:Loc X.env.scope x)(r:RelV v u)
  (h:∀ s',Inv X pins (σ.set i (some v)) H s'->Q () s') (hf:X.fn x=true\/X.env.scope.names.lookup x=some .local:=by first | exact .inl rfl | exact .inr rfl | assumption):wpAny M A (storeName X.env x u) Q E s :=
 f3u I hN hi hx r (fun s' I' _=>h s' I') hf
theorem Inv.call'{s':Shared}{ch:List Addr}(I:Inv X pins σ H s)(ho:s'.os=s.os)(u:Un (frs X.stack) ch H H' s.heap s'.heap)(hok:HOk X.prog X.w H' s'.heap)(hg:AllBare s'.gens)
  (hch:∀ b∈ch,(b∈X.ex\/X.s₀.heap.objs.size<=b)/\b≠X.env.locals/\(∀ x c,X.env.cells.lookup x=some c->c≠b)/\∀ p∈X.pn++pins,p.1≠b):Inv X pins σ H' s':=by
 obtain⟨h',g',d',t',o'⟩:=s'
 have e:o'=s.os:=ho
 subst e
 exact I.call (g':=g') (t':=t') (d':=d') u hok hg hch
end
noncomputable abbrev XK:=Value->Option Addr->Hp->Prop
noncomputable abbrev St:=List (Option V)
noncomputable abbrev VK:=V->Hp->Prop
noncomputable abbrev TE:=St->Hp->VK->Prop
noncomputable abbrev TT:=St->Hp->(Bool->Hp->Prop)->Prop
noncomputable abbrev TA:=St->Hp->(List V->Hp->Prop)->Prop
structure Ends where
 nx:St->Hp->Prop
 rt:VK
 bk:St->Hp->Prop:=fun _ _=>False
 ct:St->Hp->Prop:=fun _ _=>False
noncomputable abbrev TS:=Ends->St->Hp->Prop
def EP(X:Cx)(pins:List (Addr×Obj))(σ:St)(Q:VK)(u:Value)(s':Shared):Prop:=∃ v H',Inv X pins σ H' s'/\RelV v u/\Q v H'
def TP(X:Cx)(pins:List (Addr×Obj))(σ:St)(Q:Bool->Hp->Prop)(b:Bool)(s':Shared):Prop:=∃ H',Inv X pins σ H' s'/\Q b H'
def AP(X:Cx)(pins:List (Addr×Obj))(σ:St)(Q:List V->Hp->Prop)(us:List Value)(s':Shared):Prop:=∃ vs H',Inv X pins σ H' s'/\Vals vs us/\Q vs H'
def SP(X:Cx)(pins:List (Addr×Obj))(D:Ends)(f:Flow)(s':Shared):Prop :=
 match f with
 | .next=>∃ σ' H',Inv X pins σ' H' s'/\D.nx σ' H'
 | .brk=>∃ σ' H',Inv X pins σ' H' s'/\D.bk σ' H'
 | .cont=>∃ σ' H',Inv X pins σ' H' s'/\D.ct σ' H'
 | .ret u=>∃ v σ' H',Inv X pins σ' H' s'/\RelV v u/\D.rt v H'
def PE(X:Cx)(e:Expr)(t:TE):Prop :=
 ∀ (pins:List (Addr×Obj)) (s:Shared) (σ:St) (H:Hp) (Q:VK),Inv X pins σ H s->t σ H Q->wpAny (model X.prog X.w) X.A (eval e X.env) (EP X pins σ Q) X.xe s
def PT(X:Cx)(e:Expr)(t:TT):Prop :=
 ∀ (pins:List (Addr×Obj)) (s:Shared) (σ:St) (H:Hp) (Q:Bool->Hp->Prop),Inv X pins σ H s->t σ H Q->wpAny (model X.prog X.w) X.A (isTrue e X.env (eval e X.env)) (TP X pins σ Q) X.xe s
def PW(X:Cx)(e:Expr)(t:TT):Prop :=
 ∀ (whole:Sem Value) (pins:List (Addr×Obj)) (s:Shared) (σ:St) (H:Hp) (Q:Bool->Hp->Prop),Inv X pins σ H s->t σ H Q->wpAny (model X.prog X.w) X.A (isTrue e X.env whole) (TP X pins σ Q) X.xe s
theorem PW.pt{X:Cx}{e:Expr}{t:TT}(h:PW X e t):PT X e t:=h _
def PA(X:Cx)(es:List Expr)(t:TA):Prop :=
 ∀ (pos:Pos) (pins:List (Addr×Obj)) (s:Shared) (σ:St) (H:Hp) (Q:List V->Hp->Prop),Inv X pins σ H s->t σ H Q->wpAny (model X.prog X.w) X.A (spliced (backTo pos (starEach es X.env))) (AP X pins σ Q) X.xe s
def PS(X:Cx)(st:Stmt)(t:TS):Prop :=
 ∀ (pins:List (Addr×Obj)) (s:Shared) (σ:St) (H:Hp) (D:Ends),Inv X pins σ H s->t D σ H->wpAny (model X.prog X.w) X.A (exec st X.env) (SP X pins D) X.xe s
def PSs(X:Cx)(st:List Stmt)(t:TS):Prop :=
 ∀ (pins:List (Addr×Obj)) (s:Shared) (σ:St) (H:Hp) (D:Ends),Inv X pins σ H s->t D σ H->wpAny (model X.prog X.w) X.A (execs st X.env) (SP X pins D) X.xe s
theorem thn{α:Type}{t:Sem α}{Q Q':α->Shared->Prop}{M:Model}{A:Around}{E:Value->Shared->Prop}{s:Shared}(h:wpAny M A t Q E s)(hQ:∀ a s,Q a s->Q' a s):wpAny M A t Q' E s:=wpAny_mono h hQ fun _ _ x=>x
end L2
namespace L2
open PySem PySem.Spec PyProof.Rows
section
variable {X:Cx}
def tVar(i:Nat):TE:=fun σ H Q=>∃ v,σ[i]? = some (some v)/\Q v H
def tC(v:V):TE:=fun _ H Q=>Q v H
theorem i9z{i:Nat}{x:Str}{pos:Pos}(hN:X.N[i]? = some x)(hv:Vis X.env.scope x)(hd:(x == ("__debug__":Str))=false:=by decide)(hcd:(x == ("__classdict__":Str))=false:=by decide):PE X (.Name x pos) (tVar i):=by
 intro pins s σ H Q I h
 obtain⟨v,e,h⟩:=h
 obtain⟨m,hn,hl⟩:=I.loc
 obtain⟨u,r,l⟩:=hl i x v hN e hv
 have fin:EP X pins σ Q u s:=⟨v,H,I,r,h⟩
 rcases l with ⟨hk,hm⟩ | ⟨hk,c,hc,hcell⟩
 ·exact wpAny_Name (wpAny_loadName_local I.ok.kind hk hn hm fin) hd
 ·rcases hk with hk | hk
  ·exact wpAny_Name (wpAny_loadName_cell I.ok.kind hk hc hcell fin) hd
  ·exact wpAny_Name (wpAny_loadName_free I.ok.kind hk hc hcell fin hcd) hd
theorem a0p{i j pos}:PE X (.Constant (.int i) j pos) (tC (.int i)):=fun _ _ _ H _ I h=>wpAny_Constant_int ⟨.int i,H,I.tok _,⟨_,rfl⟩,h⟩
theorem d6j{b j pos}:PE X (.Constant (.bool b) j pos) (tC (.bl b)):=fun _ _ _ H _ I h=>Constant_bool ⟨.bl b,H,I,rfl,h⟩
theorem f1t{j pos}:PE X (.Constant .none j pos) (tC .non):=fun _ _ _ H _ I h=>Constant_none ⟨.non,H,I,rfl,h⟩
theorem a0o{x j pos}:PE X (.Constant (.str x) j pos) (tC (.str x)):=fun _ _ _ H _ I h=>Calls.Constant_str ⟨.str x,H,I.tok _,⟨_,rfl⟩,h⟩
def Gl(X:Cx)(x:Str):Prop:=X.env.kindOf x=some .globalImplicit
theorem c1v{E:Value->Shared->Prop}{pins:List (Addr×Obj)}{s:Shared}{σ:St}{H:Hp}{x:Str}{u:Value}{pos:Pos}{Q:Value->Shared->Prop}(I:Inv X pins σ H s)(hg:Gl X x)(hm:X.mg x=some u)(h:Q u s)
  (hd:(x == ("__debug__":Str))=false:=by decide):wpAny (model X.prog X.w) X.A (eval (.Name x pos) X.env) Q E s :=
 Calls.Name_function_global I.ok.kind hg (Calls.loadGlobal_global (by rw [I.ok.glob]; exact I.mod.glob.keeps I.bk) hm h) hd
theorem h0o{E:Value->Shared->Prop}{pins:List (Addr×Obj)}{s:Shared}{σ:St}{H:Hp}{x:Str}{u:Value}{pos:Pos}{Q:Value->Shared->Prop}(I:Inv X pins σ H s)(hg:Gl X x)(hm:X.mg x=none)(hv:bootBuiltins x=some u)(h:Q u s)
  (hn:x≠"__name__":=by decide) (hd:(x == ("__debug__":Str))=false:=by decide):wpAny (model X.prog X.w) X.A (eval (.Name x pos) X.env) Q E s:=by
 obtain⟨mb,h1,h2⟩:=I.mod.blt
 exact Calls.Name_function_global I.ok.kind hg (Calls.loadGlobal_builtin (by rw [I.ok.glob]; exact I.mod.glob.keeps I.bk) hm (by rw [I.ok.blt]; exact h1.keeps I.bk) ((h2 x hn).trans hv) h) hd
theorem a6q{x:Str}{v:V}{u:Value}{pos:Pos}(hg:Gl X x)(hm:X.mg x=some u)(r:RelV v u)(hd:(x == ("__debug__":Str))=false:=by decide):PE X (.Name x pos) (tC v) :=
 fun _ _ _ H _ I h=>c1v I hg hm ⟨v,H,I,r,h⟩ hd
theorem b5g{x:Str}{v:V}{u:Value}{pos:Pos}(hg:Gl X x)(hm:X.mg x=none)(hv:bootBuiltins x=some u)(r:RelV v u)(hn:x≠"__name__":=by decide)(hd:(x == ("__debug__":Str))=false:=by decide):PE X (.Name x pos) (tC v) :=
 fun _ _ _ H _ I h=>h0o I hg hm hv ⟨v,H,I,r,h⟩ hn hd
variable {a b:Expr}{ta tb:TE}{pos:Pos}
def PC(X:Cx)(op:CmpOp)(a b:Expr)(t:TE):Prop :=
 ∀ (pins:List (Addr×Obj)) (s:Shared) (σ:St) (H:Hp) (Q:VK),Inv X pins σ H s->t σ H Q ->
  wpAny (model X.prog X.w) X.A (eval a X.env) (fun v s₁=>wpAny (model X.prog X.w) X.A (eval b X.env) (fun u s₂=>wpAny (model X.prog X.w) X.A (compareOp op v u) (EP X pins σ Q) X.xe s₂) X.xe s₁) X.xe s
theorem h9l(b:Expr){op:CmpOp}(h:op≠.In)(h2:op≠.NotIn):behindInMarks op b=false:=by
 have e1:(op == CmpOp.In)=false:=by cases op <;> first | rfl | exact absurd rfl h
 have e2:(op == CmpOp.NotIn)=false:=by cases op <;> first | rfl | exact absurd rfl h2
 cases b <;> simp [behindInMarks,e1,e2]
def tB(t:TE):TT:=fun σ H Q=>t σ H fun x H1=>∃ c,x = .bl c/\Q c H1
theorem j0a{op:CmpOp}{t:TE}(h:PC X op a b t)(h1:behindInMarks op b=false:=by first | exact h9l _ (by decide) (by decide) | rfl):PT X (.Compare a [op] [b] pos) (tB t):=by
 intro pins s σ H Q I hw
 refine wpAny_isTrue_Compare1 (thn (h pins s σ H _ I hw) fun v s1 h1=>thn h1 fun u s2 h2=>thn h2 fun c s3 ⟨x,H1,I1,r1,q1⟩=>?_) h1
 obtain⟨d,rfl,q⟩:=q1
 cases r1
 exact wpAny_truthy_bool ⟨H1,I1,q⟩
theorem j0b{e:Expr}{t:TE}(h:PE X e t)(he:∀ whole,isTrue e X.env whole=(do let v <- whole; standAt e.pos; holding [v] (truthy v)):=by intro _; rfl):PT X e (tB t):=by
 intro pins s σ H Q I hw
 refine isTrue_plain (thn (h pins s σ H _ I hw) fun v s1 ⟨x,H1,I1,r1,q1⟩=>?_) (he _)
 obtain⟨d,rfl,q⟩:=q1
 cases r1
 exact wpAny_truthy_bool ⟨H1,I1,q⟩
variable {tA tB':TT}{rest:List Expr}
def tAnd(t u:TT):TT:=fun σ H Q=>t σ H fun c H1=>if c=true then u σ H1 Q else Q false H1
def tOr(t u:TT):TT:=fun σ H Q=>t σ H fun c H1=>if c=true then Q true H1 else u σ H1 Q
def tNot(t:TT):TT:=fun σ H Q=>t σ H fun c H1=>Q (!c) H1
theorem pw_and1(ha:PT X a tA):PW X (.BoolOp .And [a] pos) tA:=by
 intro wh pins s σ H Q I h
 refine isTrue_and (thn (ha pins s σ H Q I h) fun c s1 e=>?_)
 cases c with
 | true=>exact isTrue_and_nil e
 | false=>exact e
theorem pw_or1(ha:PT X a tA):PW X (.BoolOp .Or [a] pos) tA:=by
 intro wh pins s σ H Q I h
 refine isTrue_or (thn (ha pins s σ H Q I h) fun c s1 e=>?_)
 cases c with
 | false=>exact isTrue_or_nil e
 | true=>exact e
theorem pw_and(ha:PT X a tA)(hb:PW X (.BoolOp .And (b :: rest) pos) tB'):PW X (.BoolOp .And (a :: b :: rest) pos) (tAnd tA tB'):=by
 intro wh pins s σ H Q I h
 refine isTrue_and (thn (ha pins s σ H _ I h) fun c s1 ⟨H1,I1,q1⟩=>?_)
 cases c with
 | true=>exact hb wh pins s1 σ H1 Q I1 q1
 | false=>exact⟨H1,I1,q1⟩
theorem pw_or(ha:PT X a tA)(hb:PW X (.BoolOp .Or (b :: rest) pos) tB'):PW X (.BoolOp .Or (a :: b :: rest) pos) (tOr tA tB'):=by
 intro wh pins s σ H Q I h
 refine isTrue_or (thn (ha pins s σ H _ I h) fun c s1 ⟨H1,I1,q1⟩=>?_)
 cases c with
 | true=>exact⟨H1,I1,q1⟩
 | false=>exact hb wh pins s1 σ H1 Q I1 q1
theorem b0z(ha:PT X a tA):PT X (.UnaryOp .Not a pos) (tNot tA):=by
 intro pins s σ H Q I h
 exact isTrue_not (ha pins s σ H (fun c H1=>Q (!c) H1) I h)
def j0c(ta tb:TE):TE:=fun σ H Q=>ta σ H fun x H1=>∃ c,x = .bl c/\if c=true then tb σ H1 Q else Q (.bl false) H1
def k0s(ta tb:TE):TE:=fun σ H Q=>ta σ H fun x H1=>∃ c,x = .bl c/\if c=true then Q (.bl true) H1 else tb σ H1 Q
def j0d(ta:TE):TE:=fun σ H Q=>ta σ H fun x H1=>∃ c,x = .bl c/\Q (.bl (!c)) H1
theorem g0b{op}{t:TE}(h:PE X a t):PE X (.BoolOp op [a] pos) t:=fun pins s σ H Q I hw=>BoolOp_one (h pins s σ H Q I hw)
theorem j0e(ha:PE X a ta)(hb:PE X (.BoolOp .And (b :: rest) pos) tb):PE X (.BoolOp .And (a :: b :: rest) pos) (j0c ta tb):=by
 intro pins s σ H Q I h
 refine BoolOp_and (thn (ha pins s σ H _ I h) fun v s1 ⟨x,H1,I1,r1,q1⟩=>?_)
 obtain⟨c,rfl,q1⟩:=q1
 cases r1
 refine wpAny_truthy_bool ?_
 cases c with
 | true=>exact hb pins s1 σ H1 Q I1 q1
 | false=>exact⟨.bl false,H1,I1,rfl,q1⟩
theorem j6u(ha:PE X a ta)(hb:PE X (.BoolOp .Or (b :: rest) pos) tb):PE X (.BoolOp .Or (a :: b :: rest) pos) (k0s ta tb):=by
 intro pins s σ H Q I h
 refine BoolOp_or (thn (ha pins s σ H _ I h) fun v s1 ⟨x,H1,I1,r1,q1⟩=>?_)
 obtain⟨c,rfl,q1⟩:=q1
 cases r1
 refine wpAny_truthy_bool ?_
 cases c with
 | false=>exact hb pins s1 σ H1 Q I1 q1
 | true=>exact⟨.bl true,H1,I1,rfl,q1⟩
theorem j0f(ha:PE X a ta):PE X (.UnaryOp .Not a pos) (j0d ta):=by
 intro pins s σ H Q I h
 refine UnaryOp_ (thn (ha pins s σ H _ I h) fun v s1 ⟨x,H1,I1,r1,q1⟩=>?_)
 obtain⟨c,rfl,q1⟩:=q1
 cases r1
 exact not_of (wpAny_truthy_bool ⟨.bl (!c),H1,I1,rfl,q1⟩)
def tIf(t:TT)(ta tb:TE):TE:=fun σ H Q=>t σ H fun c H1=>if c=true then ta σ H1 Q else tb σ H1 Q
theorem h0p{c:Expr}(hc:PT X c tA)(ha:PE X a ta)(hb:PE X b tb):PE X (.IfExp c a b pos) (tIf tA ta tb):=by
 intro pins s σ H Q I h
 refine wpAny_IfExp (thn (hc pins s σ H _ I h) fun d s1 ⟨H1,I1,q1⟩=>?_)
 cases d with
 | true=>exact ha pins s1 σ H1 Q I1 q1
 | false=>exact hb pins s1 σ H1 Q I1 q1
end
end L2
namespace L2
open PySem PySem.Spec PyProof.Rows
def SqL(K:PySem.W.Frag)(H:Hp)(a:Addr)(xs:List V):Prop :=
 Rd H a (.lst xs) \/
  ∃ (o:Obj) (its:Array Value) (n:Nat),K.lookup a=some o/\o.cls = .type "list"/\o.dict=none/\o.data = .seq its n/\its.size<=sizeLine/\Vals xs its.toList
def SqT(K:PySem.W.Frag)(H:Hp)(a:Addr)(xs:List V):Prop :=
 Rd H a (.tup xs) \/
  ∃ (o:Obj) (its:Array Value) (n:Nat),K.lookup a=some o/\o.cls = .type "tuple"/\o.data = .seq its n/\its.size<=sizeLine/\Vals xs its.toList
noncomputable def absV:Value->Option V
 | .none=>some .non
 | .bool b=>some (.bl b)
 | .int i _=>some (.int i)
 | .str x _=>some (.str x)
 | .bytes b _=>some (.byt b)
 | .float b _=>some (.flt b)
 | .ref a=>some (.ref a)
 | .type n=>some (.ty n)
 | _=>none
theorem RelV.abs{x:V}{u:Value}(r:RelV x u):absV u=some x:=by
 cases x with
 | non=>cases r; rfl
 | bl _=>cases r; rfl
 | int _=>obtain⟨t,rfl⟩:=r; rfl
 | str _=>obtain⟨t,rfl⟩:=r; rfl
 | byt _=>obtain⟨t,rfl⟩:=r; rfl
 | flt _=>obtain⟨t,rfl⟩:=r; rfl
 | ref _=>cases r; rfl
 | ty _=>cases r; rfl
theorem RelV.inj{x y:V}{u:Value}(r:RelV x u)(q:RelV y u):x=y:=Option.some.inj (r.abs.symm.trans q.abs)
theorem Vals.inj:∀ {xs ys:List V} {us:List Value},Vals xs us->Vals ys us->xs=ys
 | _,_,_,.nil,.nil=>rfl
 | _,_,_,.cons r t,.cons r' t'=>by rw [r.inj r',Vals.inj t t']
section
variable {X:Cx}{pins:List (Addr×Obj)}{σ:St}{H:Hp}{s:Shared}{a:Addr}{xs ys:List V}
theorem SqL.of{K:PySem.W.Frag}(h:H a=some (.lst xs)):SqL K H a xs:=.inl (.inl h)
theorem SqT.of{K:PySem.W.Frag}(h:H a=some (.tup xs)):SqT K H a xs:=.inl (.inl h)
theorem Inv.list(I:Inv X pins σ H s)(h:SqL X.K H a xs):∃ its:List Value,Vals xs its/\PlainL s.heap a its.toArray/\xs.length<=sizeLine:=by
 rcases h with h | ⟨o,its,n,hk,hc,hd,hs,hz,r⟩
 ·obtain⟨z,its,n,r,e⟩:=h.ok I.hok
  exact⟨its,r,⟨_,n,e,rfl,rfl,rfl⟩,z⟩
 ·refine⟨its.toList,r,⟨o,n,I.kIn a o hk,hc,hd,by simpa using hs⟩,?_⟩
  have e:=r.length
  simp only [Array.length_toList] at e
  omega
theorem Inv.tuple(I:Inv X pins σ H s)(h:SqT X.K H a xs):∃ its:List Value,Vals xs its/\IsTup s.heap a its.toArray/\xs.length<=sizeLine:=by
 rcases h with h | ⟨o,its,n,hk,hc,hs,hz,r⟩
 ·obtain⟨z,its,r,p⟩:=h.ok I.hok
  exact⟨its,r,p,z⟩
 ·refine⟨its.toList,r,⟨o,I.kIn a o hk,hc,n,by simpa using hs⟩,?_⟩
  have e:=r.length
  simp only [Array.length_toList] at e
  omega
theorem Inv.h9m(I:Inv X pins σ H s)(h:SqL X.K H a xs)(h':SqL X.K H a ys):xs=ys:=by
 obtain⟨its,r,⟨o,n,e,_,_,d⟩,_⟩:=I.list h
 obtain⟨its',r',⟨o',n',e',_,_,d'⟩,_⟩:=I.list h'
 rw [e] at e'; cases e'
 rw [d] at d'
 injection d' with d1 _
 have:its=its':=by simpa using congrArg Array.toList d1
 subst this
 exact r.inj r'
end
noncomputable abbrev Cx.wish(X:Cx)(E:Value->Shared->Prop):Cx:={ X with xe:=E }
noncomputable abbrev Cx.nox(X:Cx):Cx:=X.wish fun _ _=>False
theorem Cx.Ok.wish{X:Cx}(ok:X.Ok)(E:Value->Shared->Prop):(X.wish E).Ok :=
 ⟨ok.mod,ok.kind,ok.glob,ok.blt,ok.above,ok.inj,ok.has,ok.cab,ok.hd,ok.frames,ok.stk,ok.exf,ok.bs,ok.bsz,ok.i2q,ok.i9y,ok.h2g,ok.frf⟩
theorem Cx.Ok.c3h{X:Cx}{E:Value->Shared->Prop}(ok:(X.wish E).Ok):X.Ok :=
 ⟨ok.mod,ok.kind,ok.glob,ok.blt,ok.above,ok.inj,ok.has,ok.cab,ok.hd,ok.frames,ok.stk,ok.exf,ok.bs,ok.bsz,ok.i2q,ok.i9y,ok.h2g,ok.frf⟩
section
variable {X:Cx}{pins:List (Addr×Obj)}{σ:St}{H:Hp}{s:Shared}{E:Value->Shared->Prop}
theorem Inv.wish(I:Inv X pins σ H s)(E:Value->Shared->Prop):Inv (X.wish E) pins σ H s:=⟨I.ok.wish E,I.os,I.bare,I.base,I.loc,I.cell,I.free,I.d5o,I.pin,I.hok,I.len⟩
theorem Inv.c3h(I:Inv (X.wish E) pins σ H s):Inv X pins σ H s:=⟨I.ok.c3h,I.os,I.bare,I.base,I.loc,I.cell,I.free,I.d5o,I.pin,I.hok,I.len⟩
theorem SP.c3h{D:Ends}{f:Flow}{s':Shared}(h:SP (X.wish E) pins D f s'):SP X pins D f s':=by
 cases f with
 | next=>obtain⟨σ',H',I,q⟩:=h; exact⟨σ',H',I.c3h,q⟩
 | brk=>obtain⟨σ',H',I,q⟩:=h; exact⟨σ',H',I.c3h,q⟩
 | cont=>obtain⟨σ',H',I,q⟩:=h; exact⟨σ',H',I.c3h,q⟩
 | ret u=>obtain⟨v,σ',H',I,r,q⟩:=h; exact⟨v,σ',H',I.c3h,r,q⟩
theorem PSs.nox{st:List Stmt}{t:TS}(h:PSs X.nox st t):PSs X st t:=fun pins s σ H D I hw =>
 wpAny_mono (h pins s σ H D (I.wish _) hw) (fun _ _ q=>q.c3h) fun _ _ z=>False.elim z
end
section
variable {X:Cx}{st:Stmt}{rest:List Stmt}{t u:TS}{e:Expr}{te:TE}{pos:Pos}
def h5h:TS:=fun D σ H=>D.nx σ H
def j5x(t u:TS):TS:=fun D σ H=>t { D with nx:=u D } σ H
theorem a0y:PSs X [] h5h:=fun _ _ σ H _ I h=>wpAny_execs_nil ⟨σ,H,I,h⟩
theorem a0k(h1:PS X st t)(h2:PSs X rest u):PSs X (st :: rest) (j5x t u):=by
 intro pins s σ H D I h
 refine wpAny_execs_cons (thn (h1 pins s σ H { D with nx:=u D } I h) fun f s1 q=>?_)
 cases f with
 | next =>
  obtain⟨σ',H',I',q⟩:=q
  exact h2 pins s1 σ' H' D I' q
 | ret v=>exact q
 | brk=>exact q
 | cont=>exact q
theorem a0i(h1:PS X st t):PSs X [st] t:=by
 intro pins s σ H D I h
 refine wpAny_execs_cons (thn (h1 pins s σ H D I h) fun f s1 q=>?_)
 cases f with
 | next=>exact wpAny_execs_nil q
 | ret v=>exact q
 | brk=>exact q
 | cont=>exact q
theorem Inv.quiet{pins:List (Addr×Obj)}{σ:St}{H:Hp}{s:Shared}(I:Inv X pins σ H s):interactive X.env=false:=by simp [interactive,I.ok.kind]
def h9n(te:TE):TS:=fun D σ H=>te σ H fun _ H1=>D.nx σ H1
theorem a5t(he:PE X e te)(hs:swapsWith e none pos.line X.env=pure false:=by rfl):PS X (.Expr e pos) (h9n te):=by
 intro pins s σ H D I h
 exact wpAny_Expr_any (thn (he pins s σ H _ I h) fun v s1 ⟨x,H1,I1,r1,q1⟩=>⟨σ,H1,I1,q1⟩) I.quiet hs
def k0t(te:TE):TS:=fun D σ H=>te σ H D.rt
theorem a1o(he:PE X e te):PS X (.Return (some e) pos) (k0t te):=by
 intro pins s σ H D I h
 exact wpAny_Return_some (thn (he pins s σ H _ I h) fun v s1 ⟨x,H1,I1,r1,q1⟩=>⟨x,σ,H1,I1,r1,q1⟩)
def j6v:TS:=fun D _ H=>D.rt .non H
def i5f(c:TT)(t u:TS):TS:=fun D σ H=>c σ H fun b H1=>if b=true then t D σ H1 else u D σ H1
theorem a3s{c:Expr}{a b:List Stmt}{tc:TT}(hc:PT X c tc)(ha:PSs X a t)(hb:PSs X b u):PS X (.If c a b pos) (i5f tc t u):=by
 intro pins s σ H D I h
 refine wpAny_If (thn (hc pins s σ H _ I h) fun d s1 ⟨H1,I1,q1⟩=>?_)
 cases d with
 | true=>exact ha pins s1 σ H1 D I1 q1
 | false=>exact hb pins s1 σ H1 D I1 q1
def j0g:TS:=fun _ _ _=>False
theorem a5m:PS X st j0g:=fun _ _ _ _ _ _ h=>h.elim
end
noncomputable abbrev TG:=V->St->Hp->(St->Hp->Prop)->Prop
noncomputable abbrev TGs:=List V->St->Hp->(St->Hp->Prop)->Prop
def PG(X:Cx)(target:Expr)(t:TG):Prop :=
 ∀ (pins:List (Addr×Obj)) (s:Shared) (σ:St) (H:Hp) (v:V) (u:Value) (Q:St->Hp->Prop),Inv X pins σ H s->RelV v u->t v σ H Q ->
  wpAny (model X.prog X.w) X.A (assign target X.env u) (fun _ s'=>∃ σ' H',Inv X pins σ' H' s'/\Q σ' H') X.xe s
def PGs(X:Cx)(ts:List Expr)(t:TGs):Prop :=
 ∀ (pins:List (Addr×Obj)) (s:Shared) (σ:St) (H:Hp) (vs:List V) (us:List Value) (Q:St->Hp->Prop),Inv X pins σ H s->Vals vs us->t vs σ H Q ->
  wpAny (model X.prog X.w) X.A (assignInOrder ((assignEach ts X.env).map (·.2)) us) (fun _ s'=>∃ σ' H',Inv X pins σ' H' s'/\Q σ' H') X.xe s
noncomputable abbrev TSet:=V->V->V->Hp->(Hp->Prop)->Prop
noncomputable abbrev TIp:=V->V->Hp->VK->Prop
section
variable {X:Cx}{pos:Pos}
def h5i(i:Nat):TG:=fun v σ H Q=>Q (σ.set i (some v)) H
theorem a5n{i:Nat}{x:Str}(hN:X.N.Nodup)(hi:X.N[i]? = some x)(hx:Loc X.env.scope x)(hf:X.fn x=true\/X.env.scope.names.lookup x=some .local:=by first | exact .inl rfl | exact .inr rfl | assumption):PG X (.Name x pos) (h5i i):=by
 intro pins s σ H v u Q I r h
 exact wpAny_assign_Name (f3m I hN hi hx r (fun s' I'=>⟨_,H,I',h⟩) hf)
noncomputable def gNil:TGs:=fun vs σ H Q=>vs = []/\Q σ H
def j6w(t:TG)(u:TGs):TGs:=fun vs σ H Q=>∃ v r,vs=v :: r/\t v σ H fun σ' H'=>u r σ' H' Q
theorem g7r:PGs X [] gNil:=by
 intro pins s σ H vs us Q I r h
 obtain⟨e,h⟩:=h
 subst e
 cases r
 exact assignInOrder_nil ⟨σ,H,I,h⟩
theorem d4v{e:Expr}{es:List Expr}{t:TG}{u:TGs}(h1:PG X e t)(h2:PGs X es u)
  (hs:(assignEach (e :: es) X.env).map (·.2)=assign e X.env :: (assignEach es X.env).map (·.2):=by rfl):PGs X (e :: es) (j6w t u):=by
 intro pins s σ H vs us Q I r h
 obtain⟨v,vr,e1,h⟩:=h
 subst e1
 cases r with
 | cons r rr =>
  rw [hs]
  refine assignInOrder_cons (thn (h1 pins s σ H _ _ _ I r h) fun _ s1 ⟨σ1,H1,I1,q1⟩=>?_)
  exact h2 pins s1 σ1 H1 _ _ Q I1 rr q1
def gTup(K:PySem.W.Frag)(n:Nat)(t:TGs):TG:=fun v σ H Q=>∃ a xs,v = .ref a/\SqT K H a xs/\xs.length=n/\t xs σ H Q
theorem h5j{es:List Expr}{k:Nat}{t:TGs}{n:Nat}(hc:X.calm=true)(h:PGs X es t)
  (hn:(assignEach es X.env).length=n:=by rfl) (hst:(assignEach es X.env).findIdx? (·.1)=none:=by rfl):PG X (.Tuple es k pos) (gTup X.K n t):=by
 intro pins s σ H v u Q I r hw
 obtain⟨a,xs,e1,hq,hl,hw⟩:=hw
 subst e1
 cases r
 obtain⟨its,rv,ht,hz⟩:=I.tuple hq
 refine assign_Tuple_tuple (I.ok.hd hc) ht (by simp [hn,<- hl,rv.length]) hst fun h' hx=>?_
 have I1:Inv X pins σ H { s with heap:=h' }:=I.kept (t':=s.toks) fun b o e=>hx b o (Nat.ne_of_lt (Heap.lt_size e)) e
 exact h pins _ σ H xs _ Q I1 (by simpa using rv) hw
def gSub(to ti:TE)(t:TSet):TG:=fun v σ H Q=>to σ H fun o H1=>ti σ H1 fun i H2=>t o i v H2 fun H3=>Q σ H3
def i9m(te:TE)(g:TG):TS:=fun D σ H=>te σ H fun x H1=>g x σ H1 D.nx
theorem h0q{tg e:Expr}{te:TE}{g:TG}(he:PE X e te)(hg:PG X tg g)(hs:swapsWithSole [tg] e pos.line X.env=pure false:=by rfl)(hw:swappedStores [tg] e X.env=pure none:=by rfl)
  (h1:(assignEach [tg] X.env).map (·.2) = [assign tg X.env]:=by rfl):PS X (.Assign [tg] e pos) (i9m te g):=by
 intro pins s σ H D I h
 refine wpAny_Assign_stores (thn (he pins s σ H _ I h) fun v s1 ⟨x,H1,I1,r1,q1⟩=>?_) hs hw
 rw [h1]
 exact thn (hg pins s1 σ H1 x v _ I1 r1 q1) fun _ s2 q=>q
theorem a2k{i:Nat}{x:Str}{e:Expr}{te:TE}{pos':Pos}(hN:X.N.Nodup)(hi:X.N[i]? = some x)(hx:Loc X.env.scope x)(he:PE X e te)(hs:swapsWith e (some (.Name x pos')) pos.line X.env=pure false:=by rfl)(hf:X.fn x=true\/X.env.scope.names.lookup x=some .local:=by first | exact .inl rfl | exact .inr rfl | assumption) :
  PS X (.Assign [.Name x pos'] e pos) (i9m te (h5i i)):=by
 intro pins s σ H D I h
 refine wpAny_Assign_Name (thn (he pins s σ H _ I h) fun v s1 ⟨y,H1,I1,r1,q1⟩=>?_) hs
 exact f3m I1 hN hi hx r1 (fun s2 I2=>⟨_,H1,I2,q1⟩) hf
end
section
variable {X:Cx}{pos:Pos}
end
structure It where
 go:Nat->Hp->Prop
 yld:Nat->Hp->V->Hp->Prop
 stop:Nat->Hp->Prop
def d7t(X:Cx)(pins:List (Addr×Obj))(H:Hp)(b:Addr):Prop :=
 H b=none/\b≠X.env.locals/\b∉X.fs/\(b∈X.ex\/X.s₀.heap.objs.size<=b)/\(∀ x c,X.env.cells.lookup x=some c->c≠b)/\∀ p∈X.pn++pins,p.1≠b
theorem Inv.i5g{X:Cx}{pins:List (Addr×Obj)}{σ:St}{H H':Hp}{s:Shared}{b:Addr}(I:Inv X pins σ H s)(hb:s.heap.objs.size<=b)(hn:H' b=none):d7t X pins H' b:=by
 refine⟨hn,Nat.ne_of_gt (Nat.lt_of_lt_of_le I.lt hb),I.nofs hb,.inr (Nat.le_trans I.sz hb),fun x c e z=>?_,fun p hp z=>?_⟩
 ·obtain⟨v,q⟩:=I.cell x c e
  exact absurd (Nat.lt_of_lt_of_le q.lt (by rw [z]; exact hb)) (Nat.lt_irrefl _)
 ·exact absurd (Nat.lt_of_lt_of_le (Heap.lt_size (I.pin p hp).1) (by rw [z]; exact hb)) (Nat.lt_irrefl _)
structure Turn(P:Program)(w:World)(K:PySem.W.Frag)(tg:Expr)(J:It)(fp:List Addr)(it:Addr)(tn:Nat->Heap->Prop):Prop where
 mem:it∈fp
 obj:∀ i h,tn i h->∀ b∈fp,∃ o,h.get? b=some o/\∀ v,o.data≠.cell v
 keep:∀ i h h',tn i h->(∀ b∈fp,∀ o,h.get? b=some o->h'.get? b=some o)->tn i h'
 item:∀ (X:Cx),X.prog=P->X.w=w->X.K=K->X.calm=true->∀ (i:Nat) (pins:List (Addr×Obj)) (s:Shared) (σ:St) (H:Hp) (E:Value->Shared->Prop),Inv X pins σ H s->(∀ b∈fp,d7t X pins H b)->tn i s.heap->J.go i H ->
  wpAny (model P w) X.A (pyNext (.ref it)) (fun r s1=>∃ u,r=some u /\
   wpAny (model P w) X.A (letOwnedTupleGo tg (.ref it) u) (fun _ s2=>∃ x H',Inv X pins σ H' s2/\RelV x u/\J.yld i H x H'/\tn (i+1) s2.heap/\∀ b∈fp,H' b=none) E s1) E s
 done:∀ (X:Cx),X.prog=P->X.w=w->X.K=K->X.calm=true->∀ (i:Nat) (pins:List (Addr×Obj)) (s:Shared) (σ:St) (H:Hp) (E:Value->Shared->Prop),Inv X pins σ H s->(∀ b∈fp,d7t X pins H b)->tn i s.heap->J.stop i H ->
  wpAny (model P w) X.A (pyNext (.ref it)) (fun r s1=>r=none/\Inv X pins σ H s1) E s
 self:∀ (A:Around) (i:Nat) (s:Shared) (Q:Value->Shared->Prop) (E:Value->Shared->Prop),tn i s.heap->Q (.ref it) s->wpAny (model P w) A (pyIter (.ref it)) Q E s
noncomputable abbrev TI:=St->Hp->(It->Hp->Prop)->Prop
def PIE(X:Cx)(pins:List (Addr×Obj))(σ:St)(tg:Expr)(R:It->Hp->Prop)(itv:Value)(s2:Shared):Prop :=
 ∃ (it:Addr) (fp:List Addr) (tn:Nat->Heap->Prop) (J:It) (H':Hp),itv = .ref it/\Inv X pins σ H' s2/\Turn X.prog X.w X.K tg J fp it tn/\tn 0 s2.heap/\(∀ b∈fp,d7t X pins H' b)/\R J H'
def PI(X:Cx)(tg iter:Expr)(wi:TI):Prop :=
 ∀ (pins:List (Addr×Obj)) (s:Shared) (σ:St) (H:Hp) (R:It->Hp->Prop),Inv X pins σ H s->wi σ H R ->
  wpAny (model X.prog X.w) X.A (eval iter X.env) (fun v s1=>wpAny (model X.prog X.w) X.A (pyIter v) (PIE X pins σ tg R) X.xe s1) X.xe s
theorem i5h{M:Model}{A:Around}{E:Value->Shared->Prop}{s:Shared}{tg:Expr}{it:Addr}{u:Value}{o:Obj}{n:String}{vs:Array Value}{Q:Unit->Shared->Prop}(ho:s.heap.get? it=some o)(hc:o.cls = .type n)(hd:o.data = .fields vs)
  (hn : ["enumerate","zip","dict_itemiterator","dict_reverseitemiterator","odict_iterator","itertools.zip_longest","itertools.pairwise"].contains n=false) (hQ:Q () s):wpAny M A (letOwnedTupleGo tg (.ref it) u) Q E s:=by
 unfold letOwnedTupleGo
 cases tg <;> first
  | exact wpAny_pure hQ
  | (cases u <;> first
    | exact wpAny_pure hQ
    | (refine wpAny_bind (wpAny_load ho ?_)
       rw [hc,hd]
       show wpAny M A (if (["enumerate","zip","dict_itemiterator","dict_reverseitemiterator","odict_iterator","itertools.zip_longest","itertools.pairwise"].contains n && vs[0]? == some (rawInt _))=true then _ else _) Q E s
       rw [if_neg (by intro h; rw [hn,Bool.false_and] at h; cases h)]
       exact wpAny_pure hQ))
noncomputable def Itl(K:PySem.W.Frag)(a:Addr):It :=
 ⟨fun i H=>∃ xs x,SqL K H a xs/\xs[i]? = some x,fun i H x H'=>H'=H/\∀ xs,SqL K H a xs->xs[i]? = some x,fun i H=>∃ xs,SqL K H a xs/\xs.length<=i⟩
noncomputable def Itr(lo:Int)(n:Nat):It:=⟨fun i _=>i < n,fun i H x H'=>H'=H/\x = .int (lo+i),fun i _=>n<=i⟩
theorem h5k{P:Program}{w:World}{K:PySem.W.Frag}{tg:Expr}(a it:Addr):Turn P w K tg (Itl K a) [it] it (fun i h=>h.IsListIter it a i) where
 mem:=by simp
 obj:=fun i h st b hb=>by
  have e:b=it:=by simpa using hb
  subst e
  obtain⟨o,e,c,d⟩:=st
  exact⟨o,e,fun v z=>by rw [d] at z; cases z⟩
 keep:=fun i h h' st k=>st.at fun o e=>k it (by simp) o e
 item:=by
  intro X hP hw hK hc i pins s σ H E I hf st hg
  subst hP hw hK
  obtain⟨xs,x,hq,hx⟩:=hg
  obtain⟨its,rv,p,hz⟩:=I.list hq
  obtain⟨u,hu,ru⟩:=rv.get hx
  obtain⟨f0,f1,f2,f3,f4,f5⟩:=hf it (by simp)
  refine wpAny_pyNext_list_item st p.isList (x:=u) (by simpa using hu) fun h' st' sb=>?_
  have I1:Inv X pins σ H { s with heap:=h' }:=I.turned (t':=s.toks) (fun b o hb e=>(sb.2 b hb).trans e) f0 f1 f3 f4 f5
  obtain⟨o,e,c,d⟩:=id st'
  exact⟨u,rfl,i5h (s:={ s with heap:=h' }) e c d (by decide) ⟨x,H,I1,ru,⟨rfl,fun ys hy=>by rw [I.h9m hy hq]; exact hx⟩,st',fun b hb=>(hf b hb).1⟩⟩
 done:=by
  intro X hP hw hK hc i pins s σ H E I hf st hg
  subst hP hw hK
  obtain⟨xs,hq,hx⟩:=hg
  obtain⟨its,rv,p,hz⟩:=I.list hq
  obtain⟨f0,f1,f2,f3,f4,f5⟩:=hf it (by simp)
  have hl:=rv.length
  exact wpAny_pyNext_list_end (I.ok.hd hc) st p.isList (by simp; omega) fun h' eb=>⟨rfl,I.turned (t':=s.toks) (fun b o hb e=>eb b o hb e) f0 f1 f3 f4 f5⟩
 self:=fun _ _ _ _ _ st h=>wpAny_pyIter_listiter st h
theorem h2i{P:Program}{w:World}{K:PySem.W.Frag}{tg:Expr}(it:Addr)(lo:Int)(n:Nat):Turn P w K tg (Itr lo n) [it] it (fun i h=>IsRangeIter h it (lo+(i:Nat)*1) ((n:Int) - (i:Nat)) 1) where
 mem:=by simp
 obj:=fun i h st b hb=>by
  have e:b=it:=by simpa using hb
  subst e
  exact⟨_,st,fun v z=>by
   have z':Data.fields _=Data.cell v:=z
   cases z'⟩
 keep:=fun i h h' st k=>k it (by simp) _ st
 item:=by
  intro X hP hw hK hc i pins s σ H E I hf st hg
  subst hP hw hK
  obtain⟨f0,f1,f2,f3,f4,f5⟩:=hf it (by simp)
  have W:=Walks.range (prog:=X.prog) (w:=X.w) (I.ok.hd hc) it lo 1 n
  refine W.item i s _ _ hg st fun v h' tk hv st' kk=>?_
  obtain⟨t,rfl⟩:=hv
  have I1:Inv X pins σ H { s with heap:=h',toks:=tk }:=I.turned (fun b o hb e=>kk b o (by simpa using hb) e) f0 f1 f3 f4 f5
  refine⟨_,rfl,i5h (s:={ s with heap:=h',toks:=tk }) (n:="range_iterator") st' rfl rfl (by decide) ⟨.int (lo+i),H,I1,⟨t,?_⟩,⟨rfl,rfl⟩,st',fun b hb=>(hf b hb).1⟩⟩
  rw [Int.mul_one]
 done:=by
  intro X hP hw hK hc i pins s σ H E I hf st hg
  subst hP hw hK
  obtain⟨f0,f1,f2,f3,f4,f5⟩:=hf it (by simp)
  exact wpAny_pyNext_range_end (I.ok.hd hc) st (by have:n<=i:=hg; omega) fun h' eb=>⟨rfl,I.turned (t':=s.toks) (fun b o hb e=>eb b o hb e) f0 f1 f3 f4 f5⟩
 self:=fun _ _ _ _ _ st h=>wpAny_pyIter_rangeiter st h
end L2
namespace L2
open PySem PySem.Spec PyProof.Rows
section
variable {X:Cx}{tg:Expr}
def j0h(K:PySem.W.Frag)(tl:TE):TI:=fun σ H R=>tl σ H fun x H1=>∃ a,x = .ref a/\(∃ xs,SqL K H1 a xs)/\R (Itl K a) H1
theorem i5i{l:Expr}{tl:TE}(hl:PE X l tl):PI X tg l (j0h X.K tl):=by
 intro pins s σ H R I h
 refine thn (hl pins s σ H _ I h) fun v s1 ⟨x,H1,I1,r1,q1⟩=>?_
 obtain⟨a,e,⟨xs,hq⟩,q⟩:=q1
 subst e
 cases r1
 obtain⟨its,rv,p,hz⟩:=I1.list hq
 refine wpAny_pyIter_list p.isList ?_
 refine⟨s1.heap.objs.size,[s1.heap.objs.size],_,_,H1,rfl,I1.kept (t':=s1.toks) fun b o e=>Heap.get?_push_of_some _ e,h5k a _,⟨_,Heap.get?_push_size _ rfl,rfl,rfl⟩,fun b hb=>?_,q⟩
 have e:b=s1.heap.objs.size:=by simpa using hb
 subst e
 exact I1.i5g (Nat.le_refl _) (I1.hok.fresh (Nat.le_refl _))
theorem h9o{pins:List (Addr×Obj)}{σ:St}{H:Hp}{s:Shared}{R:It->Hp->Prop}{E:Value->Shared->Prop}{lo hi:Int}{t u v:Tok}{tk:Nat}(I:Inv X pins σ H s)(h1 : -(2 ^ 62)<=lo)(h2:lo < 2 ^ 62)(h3 : -(2 ^ 62)<=hi)(h4:hi < 2 ^ 62)
  (q:R (Itr lo (hi - lo).toNat) H):wpAny (model X.prog X.w) X.A (pyIter (.ref s.heap.objs.size)) (PIE X pins σ tg R) E { s with heap:=s.heap.push { cls:=.type "range",data:=.fields #[.int lo t,.int hi u,.int 1 v] },toks:=tk }:=by
 refine wpAny_pyIter_range (IsRange.new ..) (small_one h1 h2 h3 h4) ?_
 have I1:Inv X pins σ H { s with heap:=s.heap.push { cls:=.type "range",data:=.fields #[.int lo t,.int hi u,.int 1 v] },toks:=tk }:=I.kept fun b o e=>Heap.get?_push_of_some _ e
 refine⟨(s.heap.push { cls:=.type "range",data:=.fields #[.int lo t,.int hi u,.int 1 v] }).objs.size,[(s.heap.push { cls:=.type "range",data:=.fields #[.int lo t,.int hi u,.int 1 v] }).objs.size],_,_,H,rfl,
  I1.kept (t':=tk) fun b o e=>Heap.get?_push_of_some _ e,h2i _ lo (hi - lo).toNat,?_,fun b hb=>?_,q⟩
 ·have e1:lo+((0:Nat):Int)*1=lo:=by simp
  have e2:(((hi - lo).toNat:Nat):Int) - ((0:Nat):Int)=Builtin.Range.rangeSize lo hi 1:=by rw [rangeSize_one]; split <;> omega
  show IsRangeIter _ _ (lo+((0:Nat):Int)*1) ((((hi - lo).toNat:Nat):Int) - ((0:Nat):Int)) 1
  rw [e1,e2]
  exact Heap.get?_push_size _ rfl
 ·have e:b=(s.heap.push { cls:=.type "range",data:=.fields #[.int lo t,.int hi u,.int 1 v] }).objs.size:=by simpa using hb
  subst e
  exact I1.i5g (Nat.le_refl _) (I1.hok.fresh (Nat.le_refl _))
def j0i(ta:TA):TI:=fun σ H R=>ta σ H fun vs H1=>∃ j:Int,vs = [.int j] /\ -(2 ^ 62)<=j/\j < 2 ^ 62/\R (Itr 0 j.toNat) H1
theorem h5l{a:Expr}{ta:TA}{p pos:Pos}(hg:Gl X "range")(hm:X.mg "range"=none)(ha:PA X [a] ta)(hs:starEach [a] X.env = [(false,eval a X.env)]:=by rfl):PI X tg (.Call (.Name "range" p) [a] [] pos) (j0i ta):=by
 intro pins s σ H R I h
 refine Call_ (h0o I hg hm boot_range (PyProof.Rows.callWith_type1 (thn (ha pos pins s σ H _ I h) fun us s1 ⟨vs,H1,I1,r1,q1⟩=>?_) hs rfl))
 obtain⟨j,e,q1,q2,q⟩:=q1
 subst e
 cases r1 with
 | cons r rr =>
  cases rr
  obtain⟨t,rfl⟩:=r
  exact call_range_1 (h9o I1 (by omega) (by omega) q1 q2 (by simpa using q))
def tFor(wi:TI)(g:TG)(tb:TS):TS:=fun D σ H=>wi σ H fun J H1=>∃ W:Nat->Nat->St->Hp->Prop,(∃ m,W 0 m σ H1)/\∀ i m σ H,W i m σ H ->
 (J.stop i H/\D.nx σ H)\/(J.go i H/\∃ N:St->Hp->Prop,(∀ σ' H',N σ' H'->∃ m',m' < m/\W (i+1) m' σ' H')/\∀ x H',J.yld i H x H'->g x σ H' fun σ2 H2=>tb { D with nx:=N,ct:=N,bk:=D.nx } σ2 H2)
noncomputable def f1u(fp:List Addr)(h:Heap):List (Addr×Obj):=fp.filterMap fun b=>(h.get? b).map fun o=>(b,o)
theorem b0u{fp:List Addr}{h:Heap}{b:Addr}{o:Obj}(hb:b∈fp)(e:h.get? b=some o):(b,o)∈f1u fp h:=List.mem_filterMap.mpr ⟨b,hb,by rw [e]; rfl⟩
theorem h5m{fp:List Addr}{h:Heap}{p:Addr×Obj}(hp:p∈f1u fp h):p.1∈fp/\h.get? p.1=some p.2:=by
 obtain⟨b,hb,e⟩:=List.mem_filterMap.mp hp
 cases q:h.get? b with
 | none=>rw [q] at e; cases e
 | some o =>
  rw [q] at e
  have e':(b,o)=p:=Option.some.inj e
  subst e'
  exact⟨hb,q⟩
theorem Inv.pinned{pins:List (Addr×Obj)}{σ:St}{H:Hp}{s:Shared}{fp:List Addr}(I:Inv X pins σ H s)(hf:∀ b∈fp,d7t X pins H b)(ho:∀ b∈fp,∃ o,s.heap.get? b=some o/\∀ v,o.data≠.cell v):Inv X (pins++f1u fp s.heap) σ H s :=
 I.h5g fun p hp=>(List.mem_append.mp hp).elim (fun z=>I.pin p (List.mem_append_right _ z)) fun z=>by
  obtain⟨hb,e⟩:=h5m z
  obtain⟨f0,f1,f2,_⟩:=hf p.1 hb
  obtain⟨o,e',d⟩:=ho p.1 hb
  rw [e] at e'; cases e'
  exact⟨e,f0,f1,f2,d⟩
theorem Inv.d0z{pins pl:List (Addr×Obj)}{σ:St}{H:Hp}{s:Shared}(I:Inv X (pins++pl) σ H s):Inv X pins σ H s:=I.h5g fun p hp=>I.pin p (List.mem_append_right _ (List.mem_append_left _ hp))
theorem j0j{iter:Expr}{body:List Stmt}{wi:TI}{g:TG}{tb:TS}{pos:Pos}(hp:PassesOwn (model X.prog X.w) X.A X.env X.xe)(hc:X.calm=true)(hi:PI X tg iter wi)(hg:PG X tg g)(hb:PSs X body tb)
  (hs:∀ x,foldedSetIterable iter X.env x=pure x:=by intro _; rfl):PS X (.For tg iter body [] pos) (tFor wi g tb):=by
 intro pins s σ H D I h
 refine wpAny_For (thn (hi pins s σ H _ I h) fun v s1 h1=>thn h1 fun itv s2 h2=>?_) hs
 obtain⟨it,fp,tn,J,H2,e,I2,T,st2,f2,W,⟨m0,w0⟩,turn⟩:=h2
 subst e
 -- what stays true of the iterator's objects through the loop
 have stat:∀ {H':Hp},(∀ b∈fp,H' b=none)->∀ b∈fp,d7t X pins H' b:=fun hn b hb=>⟨hn b hb,(f2 b hb).2⟩
 refine codeAny_forLoop_any (fun n s'=>∃ i σ' H',Inv X pins σ' H' s'/\tn i s'.heap/\(∀ b∈fp,H' b=none)/\W i n σ' H') ?_ m0 ⟨0,σ,H2,I2,st2,fun b hb=>(f2 b hb).1,w0⟩
 rintro n s3 ⟨i,σ3,H3,I3,st3,fr3,w3⟩
 rcases turn i n σ3 H3 w3 with ⟨stop,qn⟩ | ⟨go,N,hN,step⟩
 ·refine wpAny_passesOwn hp (thn (T.done X rfl rfl rfl hc i pins s3 σ3 H3 X.xe I3 (stat fr3) st3 stop) fun r s4 ⟨hr,I4⟩=>?_)
  subst hr
  exact wpAny_execs_nil ⟨σ3,H3,I4,qn⟩
 ·refine wpAny_passesOwn hp (thn (T.item X rfl rfl rfl hc i pins s3 σ3 H3 X.xe I3 (stat fr3) st3 go) fun r s4 ⟨u,hr,h4⟩=>?_)
  subst hr
  refine wpAny_passesOwn hp (thn h4 fun _ s5 ⟨x,H5,I5,r5,y5,st5,fr5⟩=>?_)
  have I5':=I5.pinned (stat fr5) (T.obj _ _ st5)
  refine wpAny_passesOwn hp (thn (hg _ s5 σ3 H5 x u _ I5' r5 (step x H5 y5)) fun _ s6 ⟨σ6,H6,I6,q6⟩=>?_)
  refine wpAny_passesOwn hp (thn (hb _ s6 σ6 H6 _ I6 q6) fun f s7 q7=>?_)
  have again:∀ {σ7:St} {H7:Hp},Inv X (pins++f1u fp s5.heap) σ7 H7 s7->N σ7 H7->∃ m,m < n/\∃ i σ' H',Inv X pins σ' H' s7/\tn i s7.heap/\(∀ b∈fp,H' b=none)/\W i m σ' H':=fun {σ7 H7} I7 n7=>by
   obtain⟨m',hm,w7⟩:=hN σ7 H7 n7
   refine⟨m',hm,i+1,σ7,H7,I7.d0z,T.keep _ _ _ st5 fun b hb o e=>(I7.pin (b,o) (List.mem_append_right _ (List.mem_append_right _ (b0u hb e)))).1,fun b hb=>?_,w7⟩
   obtain⟨o,e,d⟩:=T.obj _ _ st5 b hb
   exact (I7.pin (b,o) (List.mem_append_right _ (List.mem_append_right _ (b0u hb e)))).2.1
  cases f with
  | next=>obtain⟨σ7,H7,I7,n7⟩:=q7; exact again I7 n7
  | cont=>obtain⟨σ7,H7,I7,n7⟩:=q7; exact again I7 n7
  | brk=>obtain⟨σ7,H7,I7,q7⟩:=q7; exact⟨σ7,H7,I7.d0z,q7⟩
  | ret v=>obtain⟨x7,σ7,H7,I7,r7,q7⟩:=q7; exact⟨x7,σ7,H7,I7.d0z,r7,q7⟩
end
theorem h9p{K:PySem.W.Frag}{a:Addr}{xs:List V}{g:TG}{tb:TS}{D:Ends}{σ:St}{H:Hp}(Pv:Nat->St->Hp->Prop)(h0:Pv 0 σ H)(hl:∀ i σ H,i<=xs.length->Pv i σ H->SqL K H a xs)
  (hs:∀ i x σ H,xs[i]? = some x->Pv i σ H->g x σ H fun σ2 H2=>tb { D with nx:=Pv (i+1),ct:=Pv (i+1),bk:=D.nx } σ2 H2) (hd:∀ σ H,Pv xs.length σ H->D.nx σ H) :
  ∃ W:Nat->Nat->St->Hp->Prop,(∃ m,W 0 m σ H)/\∀ i m σ H,W i m σ H ->
   ((Itl K a).stop i H/\D.nx σ H)\/((Itl K a).go i H/\∃ N:St->Hp->Prop,(∀ σ' H',N σ' H'->∃ m',m' < m/\W (i+1) m' σ' H')/\∀ x H',(Itl K a).yld i H x H'->g x σ H' fun σ2 H2=>tb { D with nx:=N,ct:=N,bk:=D.nx } σ2 H2):=by
 refine⟨fun i m σ H=>m=xs.length - i/\i<=xs.length/\Pv i σ H,⟨xs.length,by simp,Nat.zero_le _,h0⟩,?_⟩
 rintro i m σ H ⟨rfl,hi,p⟩
 have q:=hl i σ H hi p
 by_cases hlt:i < xs.length
 ·refine .inr ⟨⟨xs,xs[i],q,by simp [hlt]⟩,Pv (i+1),fun σ' H' p'=>⟨xs.length - (i+1),by omega,rfl,hlt,p'⟩,fun x H' y=>?_⟩
  obtain⟨e,y⟩:=y
  subst e
  exact hs i x σ _ (y xs q) p
 ·have e:i=xs.length:=by omega
  subst e
  exact .inl ⟨⟨xs,q,Nat.le_refl _⟩,hd σ H p⟩
theorem h5n{lo:Int}{n:Nat}{g:TG}{tb:TS}{D:Ends}{σ:St}{H:Hp}(Pv:Nat->St->Hp->Prop)(h0:Pv 0 σ H)
  (hs:∀ i σ H,i < n->Pv i σ H->g (.int (lo+i)) σ H fun σ2 H2=>tb { D with nx:=Pv (i+1),ct:=Pv (i+1),bk:=D.nx } σ2 H2) (hd:∀ σ H,Pv n σ H->D.nx σ H) :
  ∃ W:Nat->Nat->St->Hp->Prop,(∃ m,W 0 m σ H)/\∀ i m σ H,W i m σ H ->
   ((Itr lo n).stop i H/\D.nx σ H)\/((Itr lo n).go i H/\∃ N:St->Hp->Prop,(∀ σ' H',N σ' H'->∃ m',m' < m/\W (i+1) m' σ' H')/\∀ x H',(Itr lo n).yld i H x H'->g x σ H' fun σ2 H2=>tb { D with nx:=N,ct:=N,bk:=D.nx } σ2 H2):=by
 refine⟨fun i m σ H=>m=n - i/\i<=n/\Pv i σ H,⟨n,by simp,Nat.zero_le _,h0⟩,?_⟩
 rintro i m σ H ⟨rfl,hi,p⟩
 by_cases hlt:i < n
 ·refine .inr ⟨hlt,Pv (i+1),fun σ' H' p'=>⟨n - (i+1),by omega,rfl,hlt,p'⟩,fun x H' y=>?_⟩
  obtain⟨e,y⟩:=y
  subst e y
  exact hs i σ _ hlt p
 ·have e:i=n:=by omega
  subst e
  exact .inl ⟨Nat.le_refl _,hd σ H p⟩
end L2
namespace L2
open PySem PySem.Spec PyProof.Rows
noncomputable abbrev R2:=V->V->Hp->VK->Prop
def OpR(X:Cx)(f:Value->Value->Sem Value)(r:R2):Prop :=
 ∀ (pins:List (Addr×Obj)) (s:Shared) (σ:St) (H:Hp) (x y:V) (v u:Value) (Q:VK),Inv X pins σ H s->RelV x v->RelV y u->r x y H Q ->
  wpAny (model X.prog X.w) X.A (f v u) (EP X pins σ Q) X.xe s
def UnR(X:Cx)(f:Value->Sem Value)(r:V->Hp->VK->Prop):Prop :=
 ∀ (pins:List (Addr×Obj)) (s:Shared) (σ:St) (H:Hp) (x:V) (v:Value) (Q:VK),Inv X pins σ H s->RelV x v->r x H Q ->
  wpAny (model X.prog X.w) X.A (f v) (EP X pins σ Q) X.xe s
def d0i(X:Cx)(f:Value)(r:List V->Hp->VK->Prop):Prop :=
 ∀ (pins:List (Addr×Obj)) (s:Shared) (σ:St) (H:Hp) (xs:List V) (us:List Value) (Q:VK),Inv X pins σ H s->Vals xs us->r xs H Q ->
  wpAny (model X.prog X.w) X.A (call f us) (EP X pins σ Q) X.xe s
def tOp(r:R2)(ta tb:TE):TE:=fun σ H Q=>ta σ H fun x H1=>tb σ H1 fun y H2=>r x y H2 Q
def tUn(r:V->Hp->VK->Prop)(ta:TE):TE:=fun σ H Q=>ta σ H fun x H1=>r x H1 Q
def rI(C:Int->Int->Prop)(g:Int->Int->V):R2:=fun x y H Q=>∃ i j,x = .int i/\y = .int j/\C i j/\Q (g i j) H
def rI0(g:Int->Int->V):R2:=fun x y H Q=>∃ i j,x = .int i/\y = .int j/\Q (g i j) H
noncomputable def rU(g:Int->V):V->Hp->VK->Prop:=fun x H Q=>∃ i,x = .int i/\Q (g i) H
section
variable {X:Cx}{a b c:Expr}{ta tb tc:TE}{pos:Pos}
theorem j6x(ha:PE X a ta)(hb:PE X b tb){pins:List (Addr×Obj)}{s:Shared}{σ:St}{H:Hp}{R:V->V->Hp->Prop}(I:Inv X pins σ H s)
  (h:ta σ H fun x H1=>tb σ H1 fun y H2=>R x y H2) {Q:Value->Shared->Prop} {f:Value->Value->Sem Value}
  (hf:∀ v u s2 x y H2,Inv X pins σ H2 s2->RelV x v->RelV y u->R x y H2->wpAny (model X.prog X.w) X.A (f v u) Q X.xe s2) :
  wpAny (model X.prog X.w) X.A (eval a X.env) (fun v s₁=>wpAny (model X.prog X.w) X.A (eval b X.env) (fun u s₂=>wpAny (model X.prog X.w) X.A (f v u) Q X.xe s₂) X.xe s₁) X.xe s:=by
 refine thn (ha pins s σ H _ I h) fun v s1 ⟨x,H1,I1,r1,q1⟩=>?_
 refine thn (hb pins s1 σ H1 _ I1 q1) fun u s2 ⟨y,H2,I2,r2,q2⟩=>?_
 exact hf v u s2 x y H2 I2 r1 r2 q2
theorem a1m{op:Operator}{r:R2}(ho:OpR X (binaryOp op) r)(ha:PE X a ta)(hb:PE X b tb):PE X (.BinOp a op b pos) (tOp r ta tb):=by
 intro pins s σ H Q I h
 exact wpAny_BinOp (j6x ha hb I h fun v u s2 x y H2 I2 rx ry q=>ho pins s2 σ H2 x y v u Q I2 rx ry q)
theorem j0k{op:UnaryOp}{r:V->Hp->VK->Prop}(ho:UnR X (unaryOp op) r)(ha:PE X a ta):PE X (.UnaryOp op a pos) (tUn r ta):=by
 intro pins s σ H Q I h
 exact UnaryOp_ (thn (ha pins s σ H _ I h) fun v s1 ⟨x,H1,I1,r1,q1⟩=>ho pins s1 σ H1 x v Q I1 r1 q1)
theorem opI{f:Value->Value->Sem Value}{C:Int->Int->Prop}{g:Int->Int->Int}
  (rule:∀ (i j:Int) (t u:Tok) (s:Shared) (Q:Value->Shared->Prop) (E:Value->Shared->Prop),C i j->Q (.int (g i j) s.toks) { s with toks:=s.toks+1 }->wpAny (model X.prog X.w) X.A (f (.int i t) (.int j u)) Q E s) :
  OpR X f (rI C fun i j=>.int (g i j)):=by
 intro pins s σ H x y v u Q I rx ry h
 obtain⟨i,j,rfl,rfl,hc,q⟩:=h
 obtain⟨t,rfl⟩:=rx
 obtain⟨t',rfl⟩:=ry
 exact rule i j t t' s _ _ hc ⟨.int (g i j),H,I.tok _,⟨_,rfl⟩,q⟩
theorem k0u{f:Value->Value->Sem Value}{g:Int->Int->Int}
  (rule:∀ (i j:Int) (t u:Tok) (s:Shared) (Q:Value->Shared->Prop) (E:Value->Shared->Prop),Q (.int (g i j) s.toks) { s with toks:=s.toks+1 }->wpAny (model X.prog X.w) X.A (f (.int i t) (.int j u)) Q E s) :
  OpR X f (rI0 fun i j=>.int (g i j)):=by
 intro pins s σ H x y v u Q I rx ry h
 obtain⟨i,j,rfl,rfl,q⟩:=h
 obtain⟨t,rfl⟩:=rx
 obtain⟨t',rfl⟩:=ry
 exact rule i j t t' s _ _ ⟨.int (g i j),H,I.tok _,⟨_,rfl⟩,q⟩
theorem j5y{f:Value->Value->Sem Value}{g:Int->Int->Bool}
  (rule:∀ (i j:Int) (t u:Tok) (s:Shared) (Q:Value->Shared->Prop) (E:Value->Shared->Prop),Q (.bool (g i j)) s->wpAny (model X.prog X.w) X.A (f (.int i t) (.int j u)) Q E s) :
  OpR X f (rI0 fun i j=>.bl (g i j)):=by
 intro pins s σ H x y v u Q I rx ry h
 obtain⟨i,j,rfl,rfl,q⟩:=h
 obtain⟨t,rfl⟩:=rx
 obtain⟨t',rfl⟩:=ry
 exact rule i j t t' s _ _ ⟨.bl (g i j),H,I,rfl,q⟩
def k0v(i j:Int):Prop:=0<=j/\j<=1000000/\i.natAbs < 2 ^ 64
theorem j0l:OpR X (binaryOp .Add) (rI0 fun i j=>.int (i+j)):=k0u fun _ _ _ _ _ _ _ q=>add_int q
theorem j0m:OpR X (binaryOp .Sub) (rI0 fun i j=>.int (i - j)):=k0u fun _ _ _ _ _ _ _ q=>sub_int q
theorem i5j:OpR X (binaryOp .Mod) (rI (fun _ j=>j≠0) fun i j=>.int (i.fmod j)):=opI fun _ _ _ _ _ _ _ hc q=>mod_int' hc q
theorem j0n:OpR X (binaryOp .Pow) (rI k0v fun i j=>.int (i ^ j.toNat)):=opI fun _ _ _ _ _ _ _ hc q=>pow_int_small hc.1 hc.2.1 hc.2.2 q
theorem unI{f:Value->Sem Value}{g:Int->Int}
  (rule:∀ (i:Int) (t:Tok) (s:Shared) (Q:Value->Shared->Prop) (E:Value->Shared->Prop),Q (.int (g i) s.toks) { s with toks:=s.toks+1 }->wpAny (model X.prog X.w) X.A (f (.int i t)) Q E s) :
  UnR X f (rU fun i=>.int (g i)):=by
 intro pins s σ H x v Q I rx h
 obtain⟨i,rfl,q⟩:=h
 obtain⟨t,rfl⟩:=rx
 exact rule i t s _ _ ⟨.int (g i),H,I.tok _,⟨_,rfl⟩,q⟩
theorem j0o:UnR X (unaryOp .USub) (rU fun i=>.int (-i)):=unI fun _ _ _ _ _ q=>neg_int q
end
noncomputable def h5o:V->V->Bool
 | .non,.non=>true | .non,.int _=>true | .int _,.non=>true | .non,.bl _=>true | .bl _,.non=>true | .non,.str _=>true | .str _,.non=>true
 | .int _,.int _=>true | .bl _,.bl _=>true | .str _,.str _=>true | .byt _,.byt _=>true
 | .int _,.str _=>true | .str _,.int _=>true | .bl _,.str _=>true | .str _,.bl _=>true
 | _,_=>false
def rEq:R2:=fun x y H Q=>h5o x y=true/\Q (.bl (decide (x=y))) H
def rNe:R2:=fun x y H Q=>h5o x y=true/\Q (.bl (!decide (x=y))) H
theorem h5p{i j:Int}:decide (V.int i=V.int j)=(i == j):=by
 rw [Bool.eq_iff_iff]
 simp
theorem i2r{i j:Bool}:decide (V.bl i=V.bl j)=(i == j):=by
 rw [Bool.eq_iff_iff]
 simp
theorem h5q{i j:Str}:decide (V.str i=V.str j)=(i == j):=by
 rw [Bool.eq_iff_iff]
 simp
theorem h5r{i j:Array UInt8}:decide (V.byt i=V.byt j)=(i.toList == j.toList):=by
 rw [Bool.eq_iff_iff]
 cases i
 cases j
 simp
section
variable {X:Cx}{a b c:Expr}{ta tb tc:TE}{pos:Pos}
theorem a9n{pins:List (Addr×Obj)}{σ:St}{H:Hp}{s:Shared}{Q:VK}{k k':Bool}(I:Inv X pins σ H s)(q:Q (.bl k) H)(e:k=k'):EP X pins σ Q (.bool k') s:=by
 subst e
 exact⟨.bl k,H,I,rfl,q⟩
theorem j6y:OpR X (compareOp .Eq) rEq:=by
 intro pins s σ H x y v u Q I rx ry h
 obtain⟨hs,q⟩:=h
 cases x with
 | non =>
  cases rx
  cases y with
  | non=>cases ry; exact PySem.EqNone.eq_none_none (a9n I q (by simp))
  | bl j=>cases ry; exact PySem.EqNone.eq_none_bool (a9n I q (by simp))
  | int j=>obtain⟨t',rfl⟩:=ry; exact PySem.EqNone.eq_none_int (a9n I q (by simp))
  | str j=>obtain⟨t',rfl⟩:=ry; exact PySem.EqNone.eq_none_str (a9n I q (by simp))
  | _=>exact absurd (show false=true from hs) Bool.false_ne_true
 | bl i =>
  cases rx
  cases y with
  | non=>cases ry; exact PySem.EqNone.eq_bool_none (a9n I q (by simp))
  | bl j=>cases ry; exact eq_bool (a9n I q i2r)
  | str j=>obtain⟨t',rfl⟩:=ry; exact PySem.EqMixed.eq_bool_str (a9n I q (by simp))
  | _=>exact absurd (show false=true from hs) Bool.false_ne_true
 | int i =>
  obtain⟨t,rfl⟩:=rx
  cases y with
  | non=>cases ry; exact PySem.EqNone.eq_int_none (a9n I q (by simp))
  | int j=>obtain⟨t',rfl⟩:=ry; exact eq_int (a9n I q h5p)
  | str j=>obtain⟨t',rfl⟩:=ry; exact PySem.EqMixed.eq_int_str (a9n I q (by simp))
  | _=>exact absurd (show false=true from hs) Bool.false_ne_true
 | str i =>
  obtain⟨t,rfl⟩:=rx
  cases y with
  | non=>cases ry; exact PySem.EqNone.eq_str_none (a9n I q (by simp))
  | bl j=>cases ry; exact PySem.EqMixed.eq_str_bool (a9n I q (by simp))
  | int j=>obtain⟨t',rfl⟩:=ry; exact PySem.EqMixed.eq_str_int (a9n I q (by simp))
  | str j=>obtain⟨t',rfl⟩:=ry; exact eq_str (a9n I q h5q)
  | _=>exact absurd (show false=true from hs) Bool.false_ne_true
 | byt i =>
  obtain⟨t,rfl⟩:=rx
  cases y with
  | byt j=>obtain⟨t',rfl⟩:=ry; exact PySem.W.eq_bytes (a9n I q h5r)
  | _=>exact absurd (show false=true from hs) Bool.false_ne_true
 | _=>cases y <;> exact absurd (show false=true from hs) Bool.false_ne_true
theorem j6z:OpR X (compareOp .NotEq) rNe:=by
 intro pins s σ H x y v u Q I rx ry h
 obtain⟨hs,q⟩:=h
 cases x with
 | non =>
  cases rx
  cases y with
  | non=>cases ry; exact PySem.EqNone.ne_none_none (a9n I q (by simp))
  | bl j=>cases ry; exact PySem.EqNone.ne_none_bool (a9n I q (by simp))
  | int j=>obtain⟨t',rfl⟩:=ry; exact PySem.EqNone.ne_none_int (a9n I q (by simp))
  | str j=>obtain⟨t',rfl⟩:=ry; exact PySem.EqNone.ne_none_str (a9n I q (by simp))
  | _=>exact absurd (show false=true from hs) Bool.false_ne_true
 | bl i =>
  cases rx
  cases y with
  | non=>cases ry; exact PySem.EqNone.ne_bool_none (a9n I q (by simp))
  | bl j=>cases ry; exact ne_bool (a9n I q (congrArg not i2r))
  | str j=>obtain⟨t',rfl⟩:=ry; exact PySem.EqMixed.ne_bool_str (a9n I q (by simp))
  | _=>exact absurd (show false=true from hs) Bool.false_ne_true
 | int i =>
  obtain⟨t,rfl⟩:=rx
  cases y with
  | non=>cases ry; exact PySem.EqNone.ne_int_none (a9n I q (by simp))
  | int j=>obtain⟨t',rfl⟩:=ry; exact ne_int (a9n I q (congrArg not h5p))
  | str j=>obtain⟨t',rfl⟩:=ry; exact PySem.EqMixed.ne_int_str (a9n I q (by simp))
  | _=>exact absurd (show false=true from hs) Bool.false_ne_true
 | str i =>
  obtain⟨t,rfl⟩:=rx
  cases y with
  | non=>cases ry; exact PySem.EqNone.ne_str_none (a9n I q (by simp))
  | bl j=>cases ry; exact PySem.EqMixed.ne_str_bool (a9n I q (by simp))
  | int j=>obtain⟨t',rfl⟩:=ry; exact PySem.EqMixed.ne_str_int (a9n I q (by simp))
  | str j=>obtain⟨t',rfl⟩:=ry; exact ne_str (a9n I q (congrArg not h5q))
  | _=>exact absurd (show false=true from hs) Bool.false_ne_true
 | byt i =>
  obtain⟨t,rfl⟩:=rx
  cases y with
  | byt j=>obtain⟨t',rfl⟩:=ry; exact PySem.W.ne_bytes (a9n I q (congrArg not h5r))
  | _=>exact absurd (show false=true from hs) Bool.false_ne_true
 | _=>cases y <;> exact absurd (show false=true from hs) Bool.false_ne_true
theorem j7a:OpR X (compareOp .Lt) (rI0 fun i j=>.bl (decide (i < j))):=j5y fun _ _ _ _ _ _ _ q=>lt_int q
theorem j7b:OpR X (compareOp .LtE) (rI0 fun i j=>.bl (decide (i<=j))):=j5y fun _ _ _ _ _ _ _ q=>le_int q
theorem j7c:OpR X (compareOp .Gt) (rI0 fun i j=>.bl (decide (j < i))):=j5y fun _ _ _ _ _ _ _ q=>gt_int q
theorem j7d:OpR X (compareOp .GtE) (rI0 fun i j=>.bl (decide (j<=i))):=j5y fun _ _ _ _ _ _ _ q=>ge_int q
theorem h5s:OpR X (compareOp .In) (fun x y H Q=>∃ i j,x = .str i/\y = .str j/\Q (.bl (!(Builtin.Str.occurrences j i 0 j.length 1).isEmpty)) H):=by
 intro pins s σ H x y v u Q I rx ry h
 obtain⟨i,j,rfl,rfl,q⟩:=h
 obtain⟨t,rfl⟩:=rx
 obtain⟨t',rfl⟩:=ry
 exact in_str (a9n I q rfl)
theorem j0p:OpR X (compareOp .Is) (fun x y H Q=>y = .non/\Q (.bl (decide (x = .non))) H):=by
 intro pins s σ H x y v u Q I rx ry h
 obtain⟨rfl,q⟩:=h
 cases ry
 refine is_none_gen (a9n I q ?_)
 cases x <;> first
  | (cases rx; rfl)
  | (obtain⟨t,rfl⟩:=rx; rfl)
theorem a2j(b:Expr){op:CmpOp}(h:op≠.In:=by decide)(h2:op≠.NotIn:=by decide):behindInMarks op b=false:=by
 have e1:(op == CmpOp.In)=false:=by cases op <;> first | rfl | exact absurd rfl h
 have e2:(op == CmpOp.NotIn)=false:=by cases op <;> first | rfl | exact absurd rfl h2
 cases b <;> simp [behindInMarks,e1,e2]
theorem c8n{op:CmpOp}{r:R2}(ho:OpR X (compareOp op) r)(ha:PE X a ta)(hb:PE X b tb)(hm:behindInMarks op b=false):PE X (.Compare a [op] [b] pos) (tOp r ta tb):=by
 intro pins s σ H Q I h
 exact wpAny_Compare1 (j6x ha hb I h fun v u s2 x y H2 I2 rx ry q=>ho pins s2 σ H2 x y v u Q I2 rx ry q) hm
def j0q(t:TE):TT:=fun σ H Q=>t σ H fun x H'=>∃ k,x = .bl k/\Q k H'
theorem i5k{op:CmpOp}{r:R2}(ho:OpR X (compareOp op) r)(ha:PE X a ta)(hb:PE X b tb)(hm:behindInMarks op b=false):PT X (.Compare a [op] [b] pos) (j0q (tOp r ta tb)):=by
 intro pins s σ H Q I h
 refine wpAny_isTrue_Compare1 (thn (ha pins s σ H _ I h) fun v s1 ⟨x,H1,I1,r1,q1⟩=>thn (hb pins s1 σ H1 _ I1 q1) fun u s2 ⟨y,H2,I2,r2,q2⟩ =>
  thn (ho pins s2 σ H2 x y v u _ I2 r1 r2 q2) fun c s3 ⟨z,H3,I3,r3,k,e,q3⟩=>?_) hm
 subst e
 cases r3
 exact wpAny_truthy_bool ⟨H3,I3,q3⟩
def i2s(r r':R2)(ta tb tc:TE):TE:=fun σ H Q=>ta σ H fun x H1=>tb σ H1 fun y H2=>r x y H2 fun z H3=>∃ k,z = .bl k /\
 (if k=true then tc σ H3 fun w' H4=>r' y w' H4 Q else Q (.bl false) H3)
theorem h9q{op op':CmpOp}{r r':R2}(ho:OpR X (compareOp op) r)(ho':OpR X (compareOp op') r')(ha:PE X a ta)(hb:PE X b tb)(hc:PE X c tc)
  (hm:lastMarks [op,op'] [b,c]=false:=by with_unfolding_all rfl):PE X (.Compare a [op,op'] [b,c] pos) (i2s r r' ta tb tc):=by
 intro pins s σ H Q I h
 refine Compare_chain (thn (ha pins s σ H _ I h) fun v s1 ⟨x,H1,I1,r1,q1⟩=>chain_link (thn (hb pins s1 σ H1 _ I1 q1) fun u s2 ⟨y,H2,I2,r2,q2⟩ =>
  thn (ho pins s2 σ H2 x y v u _ I2 r1 r2 q2) fun d s3 ⟨z,H3,I3,r3,k,e,q3⟩=>?_)) hm
 subst e
 cases r3
 refine wpAny_truthy_bool ?_
 cases k with
 | false=>exact ite_ff ⟨.bl false,H3,I3,rfl,q3⟩
 | true=>exact ite_tt (chain_last (thn (hc pins s3 σ H3 _ I3 q3) fun w' s4 ⟨z',H4,I4,r4,q4⟩=>ho' pins s4 σ H4 y z' u w' Q I4 r2 r4 q4))
theorem g4f:(sizeLine:Nat) < 2 ^ 63:=by rw [sizeLine_eq]; decide
theorem h2j:OpR X (binaryOp .Add) (fun x y H Q=>∃ i j,x = .str i/\y = .str j/\i.length+j.length<=sizeLine/\Q (.str (i++j)) H):=by
 intro pins s σ H x y v u Q I rx ry h
 obtain⟨i,j,rfl,rfl,hz,q⟩:=h
 obtain⟨t,rfl⟩:=rx
 obtain⟨t',rfl⟩:=ry
 exact add_str (fun t' tk=>⟨.str (i++j),H,I.tok _,⟨_,rfl⟩,q⟩) hz
theorem vals1{x:V}{us:List Value}(r:Vals [x] us):∃ u,us = [u]/\RelV x u:=by
 cases r with
 | cons r1 r2=>cases r2; exact⟨_,rfl,r1⟩
theorem vals2{x y:V}{us:List Value}(r:Vals [x,y] us):∃ u w',us = [u,w']/\RelV x u/\RelV y w':=by
 cases r with
 | cons r1 r2 =>
  cases r2 with
  | cons r3 r4=>cases r4; exact⟨_,_,rfl,r1,r3⟩
theorem h9r:d0i X (.builtin "abs") (fun xs H Q=>∃ i,xs = [.int i]/\Q (.int (if i < 0 then -i else i)) H):=by
 intro pins s σ H xs us Q I r h
 obtain⟨i,rfl,q⟩:=h
 obtain⟨u,rfl,t,rfl⟩:=vals1 r
 exact call_abs_int fun u tk=>⟨.int (if i < 0 then -i else i),H,I.tok _,⟨_,rfl⟩,q⟩
theorem g4g:d0i X (.type "int") (fun xs H Q=>(∃ i,xs = [.int i]/\Q (.int i) H)\/∃ k,xs = [.bl k]/\Q (.int (if k then 1 else 0)) H):=by
 intro pins s σ H xs us Q I r h
 rcases h with ⟨i,rfl,q⟩ | ⟨k,rfl,q⟩
 ·obtain⟨u,rfl,t,rfl⟩:=vals1 r
  exact call_int_int ⟨.int i,H,I,⟨_,rfl⟩,q⟩
 ·obtain⟨u,rfl,r1⟩:=vals1 r
  cases r1
  exact call_int_bool ⟨.int (if k then 1 else 0),H,I.tok _,⟨_,rfl⟩,q⟩
end
end L2
namespace L2
open PySem PySem.Spec PyProof.Rows
structure i5l(h:Heap)(x dx C:Addr)(mA:Str->Option Value):Prop where
 obj:h.get? x=some (PySem.W.instObj C dx)
 ns:h.Ns1 dx mA
 ne:dx≠x
theorem h5t{h:Heap}{dx:Addr}{mA:Str->Option Value}(n:h.Ns1 dx mA):∃ od,h.get? dx=some od/\∀ name,PySem.W.lookIn name od=some (mA name):=by
 obtain⟨o,es,ep,ho,hd,hk,_,hm⟩:=n
 refine⟨o,ho,fun name=>?_⟩
 have e:=hm name
 unfold nsFind findBy at e
 rw [<- Array.find?_toList] at e
 unfold PySem.W.lookIn
 rw [hd]
 dsimp only
 split
 ·rename_i y q
  rw [q] at e
  exact congrArg some e
 ·rename_i q
  rw [q] at e
  have a:es.toList.any (·.refKey)=false:=by
   rw [List.any_eq_false]
   intro y hy
   obtain⟨z,t,hkey⟩:=hk y (Array.mem_toList_iff.mp hy)
   simp [DictEntry.refKey,hkey]
  have a':¬ es.toList.any (·.refKey)=true:=by rw [a]; exact Bool.false_ne_true
  rw [if_neg a']
  exact congrArg some e
theorem i5l.look{h:Heap}{x dx C:Addr}{mA:Str->Option Value}(I:i5l h x dx C mA):∃ od,PySem.W.InstAt h x (PySem.W.instObj C dx) C (some od)/\∀ name,PySem.W.lookIn name od=some (mA name) :=
 let ⟨od,ho,hl⟩:=h5t I.ns
 ⟨od,⟨I.obj,rfl,rfl,ho⟩,hl⟩
section
variable {prog:Program}{w:World}{A:Around}{E:Value->Shared->Prop}{s:Shared}{K:PySem.W.Frag}{x dx C f:Addr}{mA:Str->Option Value}{name:Str}{v:Value}
theorem get_map{expr:Bool}{Q:Value->Shared->Prop}(X:K.In s.heap)(I:i5l s.heap x dx C mA)(hg:PySem.W.plainGet K C name=true)(hh:PySem.W.hasDictIn K C=true)
  (ha:PySem.W.findIn K (.ref C) name=some none) (hv:mA name=some v) (hv':PySem.W.handedIn v=true) (h:Q v { s with toks:=s.toks+1 }) :
  wpAny (model prog w) A (getAttr (.ref x) name expr) Q E s:=by
 obtain⟨od,J,hl⟩:=I.look
 exact PySem.W.get_value X J (PySem.W.plainGet_of hg).1 (PySem.W.findObj_own hh ha rfl (by rw [hl,hv])) hv' h
theorem h9s{pl:Sem Bool}{Q:Value×List Value->Shared->Prop}(X:K.In s.heap)(I:i5l s.heap x dx C mA)(hg:PySem.W.plainGet K C name=true)
  (hf:PySem.W.findIn K (.ref C) name=some (some (.ref f))) (ht:PySem.W.isFn K (.ref f)=true) (hv:mA name=none) (h:Q (.ref f,[.ref x]) s) :
  wpAny (model prog w) A (getMethod (.ref x) name pl) Q E s:=by
 obtain⟨od,J,hl⟩:=I.look
 exact PySem.W.method_fn X J (PySem.W.plainGet_of hg).1 (PySem.W.plainGet_of hg).2 hf (beq_iff_eq.mp ht) (by show (PySem.W.lookIn name od).map (·.isSome)=some false; rw [hl,hv]; rfl) h
theorem i5m{ns:List Str}{Q:Unit->Shared->Prop}(X:K.In s.heap)(I:i5l s.heap x dx C mA)
  (hs:PySem.W.findIn K (.ref C) "__setattr__"=some (some (.builtin "object.__setattr__"))) (hp:PySem.W.plainOver K C=true) (ht:PySem.W.takerIn K C name=some none) (hh:PySem.W.hasDictIn K C=true)
  (hw:PySem.Within mA ns) (hsz:ns.length<=sizeLine)
  (h:∀ h',i5l h' x dx C (fun y=>if y=name then some v else mA y)->Heap.SameBut dx s.heap h'->Q () { s with heap:=h',toks:=s.toks+2 }) :
  wpAny (model prog w) A (setAttr (.ref x) name v) Q E s:=by
 obtain⟨od,J,hl⟩:=I.look
 refine PySem.W.set_plain X J hs (PySem.W.osa_open (s:={ s with toks:=s.toks+1 }) (r:=none) X J hp ht fun b=>?_)
 obtain⟨cd,hc,hd'⟩:=PySem.W.any_some hh
 have hx:s.heap.get? x=some ⟨.ref C,some dx,.plain,#[]⟩:=I.obj
 refine wpAny_bind (wpAny_pure (wpAny_bind (wpAny_bind (wpAny_loadPart hx (wpAny_bind (PySem.W.Looks.here (s:={ s with toks:=s.toks+1 }) (PySem.W.looks_clsIn X hc) ?_))))))
 rw [hd']
 refine wpAny_pure (a:=some dx) (wpAny_bind (wpAny_pure (wpAny_bind ?_)))
 refine wpAny_nsSet1 (s:={ s with toks:=s.toks+1 }) I.ns fun h' hn2 hs2=>?_
 obtain⟨oD,esD,epD,hoD,hdD,hcD⟩:=hn2.count (PySem.Within.cons name v hw)
 refine wpAny_bind (wpAny_lookBehind hoD (by rw [hdD]; exact pastItsLine_dict (Nat.le_trans hcD (by rw [List.length_cons]; omega))) ?_)
 exact wpAny_pure (h _ ⟨(hs2.2 _ (Ne.symm I.ne)).trans I.obj,hn2,I.ne⟩ hs2)
theorem h9t{R:Result->Shared->Prop}{vs:List Value}{kw:List (Str×Value)}(X:K.In s.heap)(hm:PySem.W.makesIn K C=true)
  (hi:PySem.W.findIn K (.ref C) "__init__"=some (some (.ref f))) (hf:PySem.W.typeIn K (.ref f)=some (.type "function"))
  (h:codeAny (model prog w) (A.under (.builtin "type.__call__" ⟨.ref C :: vs,kw⟩)) (.call (.ref f) ⟨.ref (s.heap.objs.size+1) :: vs,kw⟩) (PySem.W.InitBack (s.heap.objs.size+1) R)
   { s with heap:=(s.heap.push PySem.W.emptyDict).push (PySem.W.instObj C s.heap.objs.size) }) :
  codeAny (model prog w) A (.call (.ref C) ⟨vs,kw⟩) R s:=by
 obtain⟨hh,g,d,t,os⟩:=s
 exact PySem.W.make_core (PySem.W.makes_of X hm) (PySem.W.looks_findIn X hi) (fun self=>PySem.W.bind_fn X self hf) (.inl rfl) h
end
noncomputable def f3v(f:Str)(v:V):List (Str×V)->List (Str×V)
 | []=>[(f,v)]
 | (g,x) :: r=>if g=f then (g,v) :: r else (g,x) :: f3v f v r
theorem f3w(f g:Str)(v:V):∀ fs:List (Str×V),(f3v f v fs).lookup g=if g=f then some v else fs.lookup g
 | []=>by
  show List.lookup g [(f,v)]=_
  by_cases h:g=f
  ·have hb:(g == f)=true:=beq_iff_eq.mpr h
   simp only [List.lookup,hb,if_pos h]
  ·have hb:(g == f)=false:=beq_eq_false_iff_ne.mpr h
   simp only [List.lookup,hb,if_neg h]
 | (k,x) :: r=>by
  have ih:=f3w f g v r
  rw [show f3v f v ((k,x) :: r)=(if k=f then (k,v) :: r else (k,x) :: f3v f v r) from rfl]
  by_cases hk:k=f
  ·rw [if_pos hk]
   by_cases h:g=k
   ·have hb:(g == k)=true:=beq_iff_eq.mpr h
    simp only [List.lookup,hb,if_pos (h.trans hk)]
   ·have hb:(g == k)=false:=beq_eq_false_iff_ne.mpr h
    simp only [List.lookup,hb,if_neg (fun e:g=f=>h (e.trans hk.symm))]
  ·rw [if_neg hk]
   by_cases h:g=k
   ·have hb:(g == k)=true:=beq_iff_eq.mpr h
    simp only [List.lookup,hb,if_neg (fun e:g=f=>hk (h.symm.trans e))]
   ·have hb:(g == k)=false:=beq_eq_false_iff_ne.mpr h
    simp only [List.lookup,hb]
    exact ih
theorem f3y(f:Str)(v:V):∀ fs:List (Str×V),f∈(f3v f v fs).map (·.1)/\∀ g,g∈fs.map (·.1)->g∈(f3v f v fs).map (·.1)
 | []=>⟨by simp [f3v],fun g h=>by simp at h⟩
 | (k,x) :: r=>by
  obtain⟨i1,i2⟩:=f3y f v r
  rw [show f3v f v ((k,x) :: r)=(if k=f then (k,v) :: r else (k,x) :: f3v f v r) from rfl]
  by_cases hk:k=f
  ·rw [if_pos hk]
   subst hk
   exact⟨by simp,fun g h=>by simpa using h⟩
  ·rw [if_neg hk]
   refine⟨?_,fun g h=>?_⟩
   ·rw [List.map_cons]
    exact List.mem_cons_of_mem _ i1
   ·rw [List.map_cons] at h ⊢
    rcases List.mem_cons.mp h with e | e
    ·exact List.mem_cons.mpr (.inl e)
    ·exact List.mem_cons_of_mem _ (i2 g e)
theorem f3z(f:Str)(v:V):∀ fs:List (Str×V),(f3v f v fs).length<=fs.length+1
 | []=>by simp [f3v]
 | (k,x) :: r=>by
  have ih:=f3z f v r
  rw [show f3v f v ((k,x) :: r)=(if k=f then (k,v) :: r else (k,x) :: f3v f v r) from rfl]
  by_cases hk:k=f
  ·rw [if_pos hk,List.length_cons,List.length_cons]; omega
  ·rw [if_neg hk,List.length_cons,List.length_cons]; omega
theorem f9z.some_of{v:V}{o:Option Value}(r:f9z (some v) o):∃ u,o=some u/\RelV v u:=by
 cases o with
 | none=>exact (show False from r).elim
 | some u=>exact⟨u,rfl,r⟩
theorem f9z.none_of{o:Option Value}(r:f9z none o):o=none:=by
 cases o with
 | none=>rfl
 | some u=>exact (show False from r).elim
theorem g4h{v:V}{u:Value}(r:RelV v u):PySem.W.handedIn u=true:=by
 cases v with
 | non=>cases (show u=Value.none from r); rfl
 | bl b=>cases (show u=Value.bool b from r); rfl
 | int i=>obtain⟨t,e⟩:=(show ∃ t,u=Value.int i t from r); cases e; rfl
 | str x=>obtain⟨t,e⟩:=(show ∃ t,u=Value.str x t from r); cases e; rfl
 | byt b=>obtain⟨t,e⟩:=(show ∃ t,u=Value.bytes b t from r); cases e; rfl
 | flt b=>obtain⟨t,e⟩:=(show ∃ t,u=Value.float b t from r); cases e; rfl
 | ref a=>cases (show u=Value.ref a from r); rfl
 | ty n=>cases (show u=Value.type n from r); rfl
section
variable {P:Program}{w:World}{H H':Hp}{h h':Heap}{a C dx:Addr}{fs fs':List (Str×V)}
theorem g1r(hok:HOk P w H h)(e:H a=some (.ins C dx fs)):∃ mA,i5l h a dx C mA/\(∀ f,f9z (fs.lookup f) (mA f))/\PySem.Within mA (fs.map (·.1))/\fs.length<=1000/\H dx=some (.own a):=by
 obtain⟨d,z,ne,ob,mA,n,r,q⟩:=(show b0p P w H h a (.ins C dx fs) from hok a _ e)
 exact⟨mA,⟨ob,n,ne⟩,r,q,z,d⟩
end
structure Cls(K:PySem.W.Frag)(C:Addr):Prop where
 pg:PySem.W.plainGet K C Str.empty=true
 hd:PySem.W.hasDictIn K C=true
 po:PySem.W.plainOver K C=true
 sa:PySem.W.findIn K (.ref C) "__setattr__"=some (some (.builtin "object.__setattr__"))
theorem Cls.get{K:PySem.W.Frag}{C:Addr}(c:Cls K C)(f:Str):PySem.W.plainGet K C f=true:=c.pg
def a9o(K:PySem.W.Frag)(C:Addr)(f:Str):Prop:=PySem.W.findIn K (.ref C) f=some none
theorem a9o.taker{K:PySem.W.Frag}{C:Addr}{f:Str}(n:a9o K C f):PySem.W.takerIn K C f=some none:=by
 unfold PySem.W.takerIn
 rw [show PySem.W.findIn K (.ref C) f=some none from n]
 rfl
structure Con(K:PySem.W.Frag)(C:Addr)(f:Str)(v:V)(u:Value):Prop where
 at_:PySem.W.findIn K (.ref C) f=some (some u)
 rel:RelV v u
 get:PySem.W.specialIn K u "__get__"=some none
 cp:PySem.W.copiedNames.contains f=false
structure Meth(K:PySem.W.Frag)(C:Addr)(m:Str)(f:Addr):Prop where
 at_:PySem.W.findIn K (.ref C) m=some (some (.ref f))
 fn:PySem.W.isFn K (.ref f)=true
 kp:PySem.W.keepIn K (.ref f)=true
section
variable {X:Cx}{pins:List (Addr×Obj)}{σ:St}{H:Hp}{s:Shared}{a C dx:Addr}{fs:List (Str×V)}{f:Str}{v:V}{A:Around}{E:Value->Shared->Prop}
theorem h2l{b:Bool}{Q:Value->Shared->Prop}(I:Inv X pins σ H s)(e:H a=some (.ins C dx fs))(c:Cls X.K C)(n:a9o X.K C f)(l:fs.lookup f=some v)
  (h:∀ u s',Inv X pins σ H s'->RelV v u->Q u s'):wpAny (model X.prog X.w) A (getAttr (.ref a) f b) Q E s:=by
 obtain⟨mA,O,r,_,_,_⟩:=g1r I.hok e
 obtain⟨u,hu,ru⟩:=f9z.some_of (v:=v) (o:=mA f) (by rw [<- l]; exact r f)
 exact get_map I.kIn O (c.get f) c.hd n hu (g4h ru) (h u _ (I.tok _) ru)
theorem g0c{m:Str}{g:Addr}{pl:Sem Bool}{Q:Value×List Value->Shared->Prop}(I:Inv X pins σ H s)(e:H a=some (.ins C dx fs))(c:Cls X.K C)(k:Meth X.K C m g)(l:fs.lookup m=none)
  (h:Q (.ref g,[.ref a]) s):wpAny (model X.prog X.w) A (getMethod (.ref a) m pl) Q E s:=by
 obtain⟨mA,O,r,_,_,_⟩:=g1r I.hok e
 have hn:mA m=none:=f9z.none_of (by rw [<- l]; exact r m)
 exact h9s I.kIn O (c.get m) k.at_ k.fn hn h
theorem h2m{y:V}{u:Value}{Q:Unit->Shared->Prop}(I:Inv X pins σ H s)(e:H a=some (.ins C dx fs))(c:Cls X.K C)(n:a9o X.K C f)(hl:fs.length < 1000)(ry:RelV y u)
  (h:∀ s',Inv X pins σ (upd H a (.ins C dx (f3v f y fs))) s'->Q () s'):wpAny (model X.prog X.w) A (setAttr (.ref a) f u) Q E s:=by
 obtain⟨mA,O,r,wi,_,ho⟩:=g1r I.hok e
 have hz:(fs.map (·.1)).length<=sizeLine:=by rw [List.length_map,sizeLine_eq]; omega
 refine i5m I.kIn O c.sa c.po n.taker c.hd wi hz fun h' O' sb=>h _ ?_
 have hd:∃ o,h'.get? dx=some o:=let ⟨o,_,_,e',_⟩:=O'.ns; ⟨o,e'⟩
 refine I.write (x:=a) (e:=dx) (by rw [e]; exact True.intro) (.inr ho) (fun b q hb z=>(sb.2 b hb).trans z) hd ?_
 refine⟨by rw [a7m O.ne]; exact ho,?_,O.ne,O'.obj,_,O'.ns,fun g=>?_,fun g hg=>?_⟩
 ·have:=f3z f y fs; omega
 ·show f9z ((f3v f y fs).lookup g) (if g=f then some u else mA g)
  rw [f3w]
  by_cases q:g=f
  ·rw [if_pos q,if_pos q]; exact ry
  ·rw [if_neg q,if_neg q]; exact r g
 ·by_cases q:g=f
  ·rw [q]; exact (f3y f y fs).1
  ·refine (f3y f y fs).2 g (wi g fun z=>hg ?_)
   show (if g=f then some u else mA g)=none
   rw [if_neg q]; exact z
theorem Inv.made(I:Inv X pins σ H s):Inv X pins σ (upd (upd H s.heap.objs.size (.own (s.heap.objs.size+1))) (s.heap.objs.size+1) (.ins C s.heap.objs.size []))
  { s with heap:=(s.heap.push PySem.W.emptyDict).push (PySem.W.instObj C s.heap.objs.size) }:=by
 have e1:(s.heap.push PySem.W.emptyDict).get? s.heap.objs.size=some PySem.W.emptyDict:=Heap.get?_push_size s.heap rfl
 have e2:((s.heap.push PySem.W.emptyDict).push (PySem.W.instObj C s.heap.objs.size)).get? (s.heap.objs.size+1)=some (PySem.W.instObj C s.heap.objs.size):=by
  have:=Heap.get?_push_size (s.heap.push PySem.W.emptyDict) (o:=PySem.W.instObj C s.heap.objs.size) rfl
  rwa [Heap.size_push] at this
 have e3:(s.heap.push PySem.W.emptyDict).Ns s.heap.objs.size (fun _=>none):=⟨PySem.W.emptyDict,#[],_,e1,rfl,(fun e he=>absurd he (by simp)),fun _=>rfl⟩
 have I1:=I.laid (a:=s.heap.objs.size) (o:=.own (s.heap.objs.size+1)) (h':=s.heap.push PySem.W.emptyDict) (t':=s.toks) (fun b u q=>Heap.get?_push_of_some _ q) (Nat.le_refl _) ⟨_,e1⟩
 refine I1.laid (a:=s.heap.objs.size+1) (o:=.ins C s.heap.objs.size []) (t':=s.toks) (fun b u q=>Heap.get?_push_of_some _ q) (Nat.le_of_eq (Heap.size_push _ _)) ?_
 have ne:s.heap.objs.size≠s.heap.objs.size+1:=Nat.ne_of_lt (Nat.lt_succ_self _)
 refine⟨by rw [a7m ne,a6m],Nat.zero_le _,ne,e2,fun _=>none,(Heap.Ns1.of_empty e3).at fun o q=>Heap.get?_push_of_some _ q,fun _=>True.intro,fun y hy=>absurd rfl hy⟩
theorem h5u{prog:Program}{w:World}{env:Env}{e:Expr}{f:Str}{pos:Pos}{s:Shared}{Q:Value->Shared->Prop}(hb:attributeBase e f env (eval e env)=eval e env)
  (h:wpAny (model prog w) A (eval e env) (fun o s₁=>wpAny (model prog w) A (getAttr o f true) Q E s₁) E s):wpAny (model prog w) A (eval (.Attribute e f pos) env) Q E s :=
 Attribute_any_ h (by rw [arm_eval_Attribute,hb])
end
def k0w(K:PySem.W.Frag)(ta:TE)(f:Str):TE:=fun σ H Q=>ta σ H fun x H1=>∃ a C dx fs v,x = .ref a/\H1 a=some (.ins C dx fs)/\Cls K C/\a9o K C f/\fs.lookup f=some v/\Q v H1
section
variable {X:Cx}{o e value:Expr}{f:Str}{pos pos' tpos:Pos}{ta tv:TE}
theorem j0r(he:PE X e ta)(hb:attributeBase e f X.env (eval e X.env)=eval e X.env):PE X (.Attribute e f pos) (k0w X.K ta f):=by
 intro pins s σ H Q I h
 refine h5u hb (thn (he pins s σ H _ I h) fun u s1 ⟨x,H1,I1,rx,a,C,dx,fs,v,ex,ea,c,n,l,q⟩=>?_)
 subst ex
 obtain rfl:u=Value.ref a:=rx
 exact h2l I1 ea c n l fun u' s2 I2 ru=>⟨v,H1,I2,ru,q⟩
end
section
variable {X:Cx}{pins:List (Addr×Obj)}{σ:St}{H:Hp}{s:Shared}{A:Around}{E:Value->Shared->Prop}{Q:Value->Shared->Prop}{c:Value}{b:Bool}
inductive h2n(K:PySem.W.Frag)(H:Hp):V->Value->Prop where
 | non:h2n K H .non (.type "NoneType")
 | bl (x:Bool):h2n K H (.bl x) (.type "bool")
 | int (i:Int):h2n K H (.int i) (.type "int")
 | str (x:Str):h2n K H (.str x) (.type "str")
 | flt (x:UInt64):h2n K H (.flt x) (.type "float")
 | lst {a:Addr} {xs:List V} (e:H a=some (.lst xs)):h2n K H (.ref a) (.type "list")
 | frz {a:Addr} {o:Obj} {xs:List V} (e:H a=some (.frz o (.lst xs))):h2n K H (.ref a) (.type "list")
 | tup {a:Addr} {xs:List V} (e:H a=some (.tup xs)):h2n K H (.ref a) (.type "tuple")
 | dK {a:Addr} {kvs:List (Key×V)} (e:H a=some (.dK kvs)):h2n K H (.ref a) (.type "dict")
 | dT {a:Addr} {kvs:List (List Key×V)} (e:H a=some (.dT kvs)):h2n K H (.ref a) (.type "dict")
 | ins {a C dx:Addr} {fs:List (Str×V)} (e:H a=some (.ins C dx fs)) (cl:Cls K C) (ha:PySem.W.findIn K (.ref C) "__class__"=some (some (.builtin "object.__class__")))
   (hn:PySem.W.specialIn K (.builtin "object.__class__") "__get__"=some (some (.builtin "getset_descriptor.__get__"))) (htk:PySem.W.takesIn K (.builtin "object.__class__")=some true)
   (hm:PySem.W.mroIn K C (.type "object")=some true):h2n K H (.ref a) (.ref C)
theorem f4g{x:V}{u t:Value}(I:Inv X pins σ H s)(rx:RelV x u)(ty:h2n X.K H x t)(e:PySem.W.kitOne X.K t c=some b)(h:∀ tk,Q (.bool b) { s with toks:=tk }) :
  wpAny (model X.prog X.w) A (call (.builtin "isinstance") [u,c]) Q E s:=by
 cases ty with
 | non=>cases (show u=Value.none from rx); exact PySem.W.kia_one PySem.W.kitx_none I.kIn True.intro e (fun z=>nomatch z) h
 | bl y=>cases (show u=Value.bool y from rx); exact PySem.W.kia_one PySem.W.kitx_bool I.kIn True.intro e (fun z=>nomatch z) h
 | int i=>obtain⟨t,q⟩:=(show ∃ t,u=Value.int i t from rx); cases q; exact PySem.W.kia_one PySem.W.kitx_int I.kIn True.intro e (fun z=>nomatch z) h
 | str y=>obtain⟨t,q⟩:=(show ∃ t,u=Value.str y t from rx); cases q; exact PySem.W.kia_one PySem.W.kitx_str I.kIn True.intro e (fun z=>nomatch z) h
 | flt y=>obtain⟨t,q⟩:=(show ∃ t,u=Value.float y t from rx); cases q; exact PySem.W.kia_one PySem.W.kitx_float I.kIn True.intro e (fun z=>nomatch z) h
 | @lst a xs ea =>
  cases (show u=Value.ref a from rx)
  obtain⟨_,_,n,_,h1⟩:=(show b0p X.prog X.w H s.heap a (.lst xs) from I.hok a _ ea)
  exact PySem.W.kia_one PySem.W.kitx_list I.kIn ⟨_,h1,rfl⟩ e (fun z=>nomatch z) h
 | @frz a ob xs ea =>
  cases (show u=Value.ref a from rx)
  obtain⟨_,_,_,n,_,h1⟩:=(show b0p X.prog X.w H s.heap a (.frz ob (.lst xs)) from I.hok a _ ea)
  exact PySem.W.kia_one PySem.W.kitx_list I.kIn ⟨_,h1,rfl⟩ e (fun z=>nomatch z) h
 | @tup a xs ea =>
  cases (show u=Value.ref a from rx)
  obtain⟨_,_,_,p⟩:=(show b0p X.prog X.w H s.heap a (.tup xs) from I.hok a _ ea)
  obtain⟨o,h1,h2,_⟩:=p
  exact PySem.W.kia_one PySem.W.kitx_tuple I.kIn ⟨o,h1,h2⟩ e (fun z=>nomatch z) h
 | @dK a kvs ea =>
  cases (show u=Value.ref a from rx)
  obtain⟨_,_,vs,_,p⟩:=(show b0p X.prog X.w H s.heap a (.dK kvs) from I.hok a _ ea)
  obtain⟨o,es,ep,h1,h2,_⟩:=p
  exact PySem.W.kia_one PySem.W.kitx_dict I.kIn ⟨o,h1,h2.1⟩ e (fun z=>nomatch z) h
 | @dT a kvs ea =>
  cases (show u=Value.ref a from rx)
  obtain⟨_,_,xs,_,o,es,ep,h1,h2,_⟩:=(show b0p X.prog X.w H s.heap a (.dT kvs) from I.hok a _ ea)
  exact PySem.W.kia_one PySem.W.kitx_dict I.kIn ⟨o,h1,h2.1⟩ e (fun z=>nomatch z) h
 | @ins a C dx fs ea cl ha hn htk hm =>
  cases (show u=Value.ref a from rx)
  obtain⟨mA,O,_⟩:=g1r I.hok ea
  obtain⟨od,J,_⟩:=O.look
  exact PySem.W.kia_one (PySem.W.kitx_own (cl.get _) cl.hd ha hn htk hm) I.kIn J e (fun z=>nomatch z) h
end
end L2
namespace L2
open PySem PySem.Spec PyProof.Rows
structure c7p(k:Nat)(A:Around):Prop where
 hd:A.handled=none
 dp:A.depth+3*k+5 < recursionLimit
 un:A.units+16*k+200 < cLine
theorem c7p.mono{j k:Nat}{A:Around}(r:c7p k A)(h:j<=k):c7p j A:=⟨r.hd,by have:=r.dp; omega,by have:=r.un; omega⟩
theorem c7p.deeper{k:Nat}{A:Around}(r:c7p (k+1) A)(env:Env):c7p k (A.deeper env) :=
 ⟨r.hd,by have:=r.dp; show A.depth+1+3*k+5 < _; omega,by have:=r.un; show A.units+3+16*k+200 < _; omega⟩
theorem h2o{A:Around}{C:Addr}{us:List Value}{kw:List (Str×Value)}:(A.under (.builtin "type.__call__" ⟨.ref C :: us,kw⟩)).depth=A.depth+1:=by
 first | rfl | simp [Around.under,Code.weight,Code.isCreation,Code.isGuard,Code.isCaller,Code.frames,Code.isFrame,guardIds]
theorem h2p{A:Around}{C:Addr}{us:List Value}{kw:List (Str×Value)}:(A.under (.builtin "type.__call__" ⟨.ref C :: us,kw⟩)).units=A.units+1:=by
 first | rfl | simp [Around.under,Code.cUnits,Code.frames,Code.isFrame]
theorem c7p.make{k:Nat}{A:Around}(r:c7p (k+1) A)(C:Addr)(us:List Value)(kw:List (Str×Value)):c7p k (A.under (.builtin "type.__call__" ⟨.ref C :: us,kw⟩)) :=
 ⟨r.hd,by have:=r.dp; rw [h2o]; omega,by have:=r.un; rw [h2p]; omega⟩
theorem c7p.depth{k:Nat}{A:Around}(r:c7p k A):A.depth < recursionLimit:=by have:=r.dp; omega
theorem c7p.units{k:Nat}{A:Around}(r:c7p k A):A.units+64 < cLine:=by have:=r.un; omega
def h9u:TA:=fun _ H Q=>Q [] H
def g4i(ta:TE)(tr:TA):TA:=fun σ H Q=>ta σ H fun x H1=>tr σ H1 fun xs H2=>Q (x :: xs) H2
section
variable {X:Cx}{e:Expr}{es:List Expr}{te:TE}{t:TA}{pos:Pos}
theorem a0h:PA X [] h9u:=fun _ _ _ _ H Q I h=>Calls.spliced_nil ⟨[],H,I,.nil,h⟩
theorem a0g(ha:PE X e te)(hr:PA X es t)(hs:starEach (e :: es) X.env=(false,eval e X.env) :: starEach es X.env:=by rfl):PA X (e :: es) (g4i te t):=by
 intro pos pins s σ H Q I h
 rw [hs]
 show wpAny _ _ (spliced ((false,eval e X.env) :: backTo pos (starEach es X.env))) _ _ s
 refine Calls.spliced_cons (thn (ha pins s σ H _ I h) fun u s1 ⟨x,H1,I1,r1,q1⟩=>?_)
 exact thn (hr pos pins s1 σ H1 _ I1 q1) fun us s2 ⟨xs,H2,I2,r2,q2⟩=>⟨x :: xs,H2,I2,.cons r1 r2,q2⟩
end
noncomputable abbrev Sp:=List V->Hp->VK->XK->Prop
noncomputable abbrev CXT:=List Env->Hp->Shared->XK->Value->Shared->Prop
structure i2t(P:Program)(w:World)(K:PySem.W.Frag)(mg:Str->Option Value)(base:Heap)(A:Around)(outer:List Env)(s:Shared)(H:Hp):Prop where
 frames:A.frames=some outer
 mod:Mod K mg base
 bs:∀ b o,base.get? b=some o->s.heap.get? b=some o/\H b=none
 bsz:base.objs.size<=s.heap.objs.size
 h2g:s.heap.FunFrames base outer
 frf:∀ b∈frs outer,H b=none
 hok:HOk P w H s.heap
 bare:AllBare s.gens
def CE(outer:List Env)(P:Program)(w:World)(H:Hp)(s:Shared)(Q:VK)(u:Value)(s':Shared):Prop :=
 ∃ v H',s'.os=s.os/\AllBare s'.gens/\Un (frs outer) [] H H' s.heap s'.heap/\HOk P w H' s'.heap/\RelV v u/\Q v H'
def CR(CX:CXT)(outer:List Env)(P:Program)(w:World)(H:Hp)(s:Shared)(Q:VK)(E:XK)(r:Result)(s':Shared):Prop :=
 match r with
 | .ok (.ret u)=>CE outer P w H s Q u s'
 | .ok _=>False
 | .error e=>CX outer H s E e s'
structure a2m(P:Program)(w:World)(K:PySem.W.Frag)(mg:Str->Option Value)(base:Heap)(CX:CXT)(k:Nat)(f:Addr)(fd:FuncData)(ps:List Str)(sp:Sp):Prop where
 len:∀ vs H Q E,sp vs H Q E->vs.length=ps.length
 run:∀ (A:Around) (outer:List Env) (s:Shared) (H:Hp) (args:Args) (us:List Value) (vs:List V) (Q:VK) (E:XK),c7p k A->i2t P w K mg base A outer s H->BindsTo s fd args (ps.zip us)->Vals vs us->sp vs H Q E ->
  codeAny (model P w) A (.call (.ref f) args) (CR CX outer P w H s Q E) s
theorem i2t.make{P:Program}{w:World}{K:PySem.W.Frag}{mg:Str->Option Value}{base:Heap}{A:Around}{outer:List Env}{s:Shared}{H:Hp}(e:i2t P w K mg base A outer s H)(C:Addr)(us:List Value)(kw:List (Str×Value)) :
  i2t P w K mg base (A.under (.builtin "type.__call__" ⟨.ref C :: us,kw⟩)) outer s H:=⟨by first | exact e.frames | (simpa [Around.under,Code.envs,Code.isFrame,pushEnvs] using e.frames),e.mod,e.bs,e.bsz,e.h2g,e.frf,e.hok,e.bare⟩
section
variable {X:Cx}{pins:List (Addr×Obj)}{σ:St}{H:Hp}{s s':Shared}
theorem Inv.env0(I:Inv X pins σ H s):i2t X.prog X.w X.K X.mg X.base X.A X.stack s H :=
 ⟨I.ok.frames,I.ok.mod,I.bs,Nat.le_trans I.ok.bsz I.sz,I.stack,I.d9v,I.hok,I.bare⟩
theorem Inv.after{Q:VK}{u:Value}(I:Inv X pins σ H s)(h:CE X.stack X.prog X.w H s Q u s'):EP X pins σ Q u s':=by
 obtain⟨v,H',os,bare,un,hok,r,q⟩:=h
 obtain⟨hh,g,d,t,os'⟩:=s'
 obtain rfl:os'=s.os:=os
 exact⟨v,H',I.call (h':=hh) (g':=g) (d':=d) (t':=t) (ch:=[]) un hok bare (fun b z=>absurd z (by simp)),r,q⟩
end
def h9v(sp:Sp)(dvs:List V)(E:XK)(t:TA):TE:=fun σ H Q=>t σ H fun vs H1=>sp (vs++dvs) H1 Q E
def Binds(K:PySem.W.Frag)(fd:FuncData)(ps:List Str)(ds:List Value):Prop :=
 ∀ (s:Shared) (us:List Value),K.In s.heap->(us++ds).length=ps.length->BindsTo s fd ⟨us,[]⟩ (ps.zip (us++ds))
theorem Binds.all{K:PySem.W.Frag}{fd:FuncData}{ps:List Str}(h:∀ us:List Value,us.length=ps.length->bindArgs fd ⟨us,[]⟩=pure (ps.zip us)):Binds K fd ps []:=fun s us _ hl=>by
 rw [List.append_nil] at hl ⊢
 exact .of_eq (h us hl)
def Passes(CX:CXT)(X:Cx)(E:XK):Prop:=∀ (pins:List (Addr×Obj)) (σ:St) (H:Hp) (s:Shared) (e:Value) (s':Shared),Inv X pins σ H s->CX X.stack H s E e s'->X.xe e s'
section
variable {X:Cx}{CX:CXT}{k:Nat}{f C:Addr}{fd:FuncData}{ps:List Str}{sp:Sp}{dvs:List V}{ds:List Value}{E:XK}{x m:Str}{p pos apos:Pos}{e o:Expr}{es:List Expr}{ta:TE}{t:TA}
theorem h0r{pins:List (Addr×Obj)}{σ:St}{H:Hp}{s:Shared}{Q:VK}{us:List Value}{vs:List V}(F:a2m X.prog X.w X.K X.mg X.base CX k f fd ps sp)(hr:c7p k X.A)(hb:Binds X.K fd ps ds)(hd:Vals dvs ds)(hx:Passes CX X E)
  (I:Inv X pins σ H s) (r:Vals vs us) (h:sp (vs++dvs) H Q E):wpAny (model X.prog X.w) X.A (call (.ref f) us) (EP X pins σ Q) X.xe s:=by
 have r2:Vals (vs++dvs) (us++ds):=r.append hd
 have hl:(us++ds).length=ps.length:=by rw [<- r2.length]; exact F.len _ _ _ _ h
 refine wpAny_call (codeAny_mono (F.run X.A X.stack s H ⟨us,[]⟩ (us++ds) (vs++dvs) Q E hr I.env0 (hb s us I.kIn hl) r2 h) fun r s' hq=>?_)
 cases r with
 | error e=>exact hx pins σ H s e s' I hq
 | ok fl =>
  cases fl with
  | ret u=>exact I.after hq
  | next=>exact False.elim hq
  | brk=>exact False.elim hq
  | cont=>exact False.elim hq
theorem a2g(F:a2m X.prog X.w X.K X.mg X.base CX k f fd ps sp)(hr:c7p k X.A)(hg:Gl X x)(hm:X.mg x=some (.ref f))(hk:PySem.W.keepIn X.K (.ref f)=true)(hb:Binds X.K fd ps ds)(hd:Vals dvs ds)(hx:Passes CX X E)
  (ha:PA X (e :: es) t) (hdb:(x == ("__debug__":Str))=false:=by decide) (he:starEach (e :: es) X.env=(false,eval e X.env) :: starEach es X.env:=by rfl) (hpl:(backTo pos (starEach es X.env)).any (·.1)=false:=by rfl) :
  PE X (.Call (.Name x p) (e :: es) [] pos) (h9v sp dvs E t):=by
 intro pins s σ H Q I h
 refine wpAny_Call_Name_kw (c1v I hg hm ?_ hdb)
 refine PySem.W.callWith_K (h₀:=X.base) I.ok.mod.kin hk (thn (ha pos pins s σ H _ I h) fun us s1 ⟨vs,H1,I1,r,q⟩=>⟨I1.kIn,?_⟩) he hpl
 exact h0r F hr hb hd hx I1 r q
structure Mk(K:PySem.W.Frag)(C f:Addr):Prop where
 makes:PySem.W.makesIn K C=true
 init:PySem.W.findIn K (.ref C) "__init__"=some (some (.ref f))
 fn:PySem.W.isFn K (.ref f)=true
 kp:PySem.W.keepIn K (.ref C)=true
theorem h0s{pins:List (Addr×Obj)}{σ:St}{H:Hp}{s:Shared}{Q:VK}{us:List Value}{vs:List V}(M:Mk X.K C f)(F:a2m X.prog X.w X.K X.mg X.base CX k f fd ps sp)(hr:c7p (k+1) X.A)(hb:Binds X.K fd ps ds)(hd:Vals dvs ds)
  (hx:Passes CX X E) (I:Inv X pins σ H s) (r:Vals vs us)
  (h:∀ x dx,H x=none->H dx=none->dx≠x->sp (.ref x :: (vs++dvs)) (upd (upd H dx (.own x)) x (.ins C dx [])) (fun v H2=>v = .non/\Q (.ref x) H2) E) :
  wpAny (model X.prog X.w) X.A (call (.ref C) us) (EP X pins σ Q) X.xe s:=by
 have hq:=h (s.heap.objs.size+1) s.heap.objs.size (I.hok.fresh (Nat.le_succ _)) (I.hok.fresh (Nat.le_refl _)) (Nat.ne_of_lt (Nat.lt_succ_self _))
 have I2:=Inv.made (C:=C) I
 have r2:Vals (V.ref (s.heap.objs.size+1) :: (vs++dvs)) (Value.ref (s.heap.objs.size+1) :: (us++ds)):=.cons rfl (r.append hd)
 have hl:(Value.ref (s.heap.objs.size+1) :: us++ds).length=ps.length:=by
  have e:=r2.length
  rw [F.len _ _ _ _ hq] at e
  exact e.symm
 refine wpAny_call (h9t (f:=f) I.kIn M.makes M.init (beq_iff_eq.mp M.fn) (codeAny_mono (F.run _ X.stack _ _ ⟨Value.ref (s.heap.objs.size+1) :: us,[]⟩ (Value.ref (s.heap.objs.size+1) :: (us++ds)) _ _ E (hr.make C us [])
  (I2.env0.make C us []) (hb _ (Value.ref (s.heap.objs.size+1) :: us) I2.kIn hl) r2 hq) fun r s' hq'=>?_))
 cases r with
 | error e=>exact hx pins σ _ _ e s' I2 hq'
 | ok fl =>
  cases fl with
  | ret u =>
   obtain⟨v,H',I3,rv,ev,q3⟩:=I2.after hq'
   subst ev
   exact⟨rv,⟨V.ref (s.heap.objs.size+1),H',I3,rfl,q3⟩⟩
  | next=>exact False.elim hq'
  | brk=>exact False.elim hq'
  | cont=>exact False.elim hq'
end
section
variable {X:Cx}{CX:CXT}{k:Nat}{f C:Addr}{fd:FuncData}{ps ks:List Str}{sp:Sp}{E:XK}{x m:Str}{p pos apos kpos:Pos}{e o:Expr}{es:List Expr}{kws:List Keyword}{te ta:TE}{t tk:TA}{nm:Option Str}
structure k0x(K:PySem.W.Frag)(fd:FuncData)(ps ks:List Str)(g:List Value->List Value->List Value)(gV:List V->List V->List V):Prop where
 to:∀ (s:Shared) (us ws:List Value),K.In s.heap->(g us ws).length=ps.length->BindsTo s fd ⟨us,ks.zip ws⟩ (ps.zip (g us ws))
 rel:∀ {vs:List V} {us:List Value} {zs:List V} {ws:List Value},Vals vs us->Vals zs ws->Vals (gV vs zs) (g us ws)
variable {g:List Value->List Value->List Value}{gV:List V->List V->List V}
end
structure a1n(N P:List Str)(sc:Scope):Prop where
 kind:sc.kind = .function
 co:sc.isCoroutine=false
 gen:sc.isGenerator=false
 nd:N.Nodup
 pre:N.take P.length=P
 par:∀ x∈P,sc.names.lookup x=some .local\/sc.names.lookup x=some .cell
 j0s:∀ y∈sc.names,y.2≠.free
theorem g4j{kindOf:Str->Option NameKind}{x:Str}:∀ {binds:List (Str×Value)} {m:Str->Option Value},(∀ v,(x,v)∉binds)->bindL kindOf binds m x=m x
 | [],_,_=>rfl
 | (n,v) :: r,m,h=>by
  unfold bindL
  rw [g4j fun w hw=>h w (List.mem_cons_of_mem _ hw)]
  split
  ·have:x≠n:=by rintro rfl; exact h v List.mem_cons_self
   simp [this]
  ·rfl
theorem g4k{kindOf:Str->Option NameKind}{x:Str}:∀ {binds:List (Str×Value)} {m:Str->Option Value},(∀ v,(x,v)∉binds)->bindC kindOf binds m x=m x
 | [],_,_=>rfl
 | (n,v) :: r,m,h=>by
  unfold bindC
  rw [g4k fun w hw=>h w (List.mem_cons_of_mem _ hw)]
  split
  ·rfl
  ·have:x≠n:=by rintro rfl; exact h v List.mem_cons_self
   simp [this]
theorem g4l{kindOf:Str->Option NameKind}{x:Str}{v:Value}:∀ {P:List Str} {vs:List Value} {i:Nat} {m:Str->Option Value},P.Nodup->P[i]? = some x->vs[i]? = some v->kindOf x=some .local ->
  bindL kindOf (P.zip vs) m x=some v
 | [],_,_,_,_,h,_,_=>by simp at h
 | _ :: _,[],_,_,_,_,h,_=>by simp at h
 | p :: P,w :: vs,0,m,nd,h1,h2,hk=>by
  simp at h1 h2; subst h1; subst h2
  show bindL kindOf ((p,w) :: P.zip vs) m p=_
  unfold bindL
  rw [g4j fun v hv=>(List.nodup_cons.mp nd).1 (List.of_mem_zip hv).1,if_pos hk]
  simp
 | p :: P,w :: vs,i+1,m,nd,h1,h2,hk=>by
  show bindL kindOf ((p,w) :: P.zip vs) m x=_
  unfold bindL
  exact g4l (i:=i) (List.nodup_cons.mp nd).2 (by simpa using h1) (by simpa using h2) hk
theorem g4m{kindOf:Str->Option NameKind}{x:Str}{v:Value}:∀ {P:List Str} {vs:List Value} {i:Nat} {m:Str->Option Value},P.Nodup->P[i]? = some x->vs[i]? = some v->kindOf x≠some .local ->
  bindC kindOf (P.zip vs) m x=some v
 | [],_,_,_,_,h,_,_=>by simp at h
 | _ :: _,[],_,_,_,_,h,_=>by simp at h
 | p :: P,w :: vs,0,m,nd,h1,h2,hk=>by
  simp at h1 h2; subst h1; subst h2
  show bindC kindOf ((p,w) :: P.zip vs) m p=_
  unfold bindC
  rw [g4k fun v hv=>(List.nodup_cons.mp nd).1 (List.of_mem_zip hv).1,if_neg hk]
  simp
 | p :: P,w :: vs,i+1,m,nd,h1,h2,hk=>by
  show bindC kindOf ((p,w) :: P.zip vs) m x=_
  unfold bindC
  exact g4m (i:=i) (List.nodup_cons.mp nd).2 (by simpa using h1) (by simpa using h2) hk
noncomputable def start(N:List Str)(vs:List V):St:=vs.map some++List.replicate (N.length - vs.length) none
def h2q(CX:CXT)(P:Program)(w:World)(K:PySem.W.Frag)(mg:Str->Option Value)(base:Heap)(N:List Str)(qual:Str)(scope:Scope)(f:Addr)(cd:Value)(A:Around)(outer:List Env)(s:Shared)(H:Hp)(E:XK):Cx where
 prog:=P
 w:=w
 K:=K
 mg:=mg
 base:=base
 A:=A.deeper (envOfC qual scope s.heap.objs.size f cd)
 N:=N
 s₀:=s
 H₀:=H
 env:=envOfC qual scope s.heap.objs.size f cd
 outer:=outer
 stack:=envOfC qual scope s.heap.objs.size f cd :: outer
 ex:=[]
 calm:=true
 fn:=fun _=>true
 pn:=[]
 xe:=fun e s'=>wpAny (model P w) (A.deeper (envOfC qual scope s.heap.objs.size f cd)) (leaving (envOfC qual scope s.heap.objs.size f cd) e) (fun _ s''=>CX outer H s E e s'') (fun e' s''=>CX outer H s E e' s'') s'
theorem h0t{sc:Scope}{n:Nat}{x:Str}(h:sc.names.lookup x=some .cell):∃ c,(cellsFrom n sc.names []).lookup x=some c:=by
 have q:=PySem.W.cellsFrom_some sc.names n [] (.inl h)
 exact Option.isSome_iff_exists.mp q
theorem h5v{CX:CXT}{P:Program}{w:World}{K:PySem.W.Frag}{mg:Str->Option Value}{base:Heap}{N ps:List Str}{qual:Str}{scope:Scope}{f:Addr}{cd:Value}{A:Around}{outer:List Env}{s s1:Shared}{H:Hp}{E:XK}{us:List Value}{vs:List V}
  (S:a1n N ps scope) (hd:A.handled=none) (e0:i2t P w K mg base A outer s H) (hl:vs.length=ps.length) (r:Vals vs us)
  (x:InCallC s s.heap.objs.size (bindL (envOfC qual scope s.heap.objs.size f cd).kindOf (ps.zip us) fun _=>none) (cellsFrom (s.heap.objs.size+1) scope.names []) (bindC (envOfC qual scope s.heap.objs.size f cd).kindOf (ps.zip us) fun _=>none) s1) :
  Inv (h2q CX P w K mg base N qual scope f cd A outer s H E) [] (start N vs) H s1:=by
 have hpl:ps.length<=N.length:=by have:=congrArg List.length S.pre; rw [List.length_take] at this; omega
 obtain⟨h1,tk,rfl,hk⟩:=x.done
 have noA:∀ b:Addr,b∉(h2q CX P w K mg base N qual scope f cd A outer s H E).ex:=fun b z=>absurd (show b∈([] : List Addr) from z) (by simp)
 refine⟨⟨e0.mod,S.kind,rfl,rfl,Nat.le_refl _,fun y z c h1 h2=>?_,fun y hy=>?_,fun y c _ h=>?_,fun _=>hd,Around.frames_deeper e0.frames,.inr ⟨rfl,rfl⟩,fun b z=>absurd z (noA b),e0.bs,e0.bsz,fun b _ _=>noA b,fun b z=>absurd z (noA b),e0.h2g,e0.frf⟩,
  rfl,e0.bare,Un.kept hk,⟨_,x.toInCall.ns,fun i y v h1 h2 h3=>?_⟩,fun y c h=>⟨_,x.cell y c h⟩,e0.hok.fresh (Nat.le_refl _),fun y c h=>?_,fun p hp=>absurd (show p∈([] : List (Addr×Obj)) from hp) (by simp),e0.hok.kept hk,?_⟩
 ·exact name_of_addr x.apart (PySem.mem_of_lookup h1) (PySem.mem_of_lookup h2)
 ·have hy:scope.names.lookup y=some .cell\/scope.names.lookup y=some .free:=hy
  rcases hy with hy | hy
  ·exact h0t hy
  ·exact absurd rfl (S.j0s _ (PySem.mem_of_lookup hy))
 ·exact Nat.le_of_lt (x.above y c (PySem.mem_of_lookup h))
 ·have hi:i < vs.length:=by
   unfold start at h2
   by_cases hi:i < vs.length
   ·exact hi
   ·rw [List.getElem?_append_right (by simpa using hi)] at h2
    rw [List.getElem?_replicate] at h2
    split at h2 <;> cases h2
  have ha:vs[i]? = some v:=by
   unfold start at h2
   rw [List.getElem?_append_left (by simpa using hi),List.getElem?_map] at h2
   cases e:vs[i]? with
   | none=>rw [e] at h2; cases h2
   | some a=>rw [e] at h2; cases h2; rfl
  obtain⟨u,hu,rv⟩:=r.get ha
  have hp:ps[i]? = some y:=by
   rw [<- S.pre,List.getElem?_take_of_lt (by omega)]; exact h1
  have ndP:ps.Nodup:=by rw [<- S.pre]; exact S.nd.sublist (List.take_sublist _ _)
  refine⟨u,rv,?_⟩
  rcases S.par y (List.mem_of_getElem? hp) with k | k
  ·exact .inl ⟨k,g4l ndP hp hu k⟩
  ·obtain⟨c,e⟩:=h0t (n:=s.heap.objs.size+1) k
   refine .inr ⟨.inl k,c,e,?_⟩
   have q:=x.cell y c e
   rw [g4m ndP hp hu (by show scope.names.lookup y≠_; rw [k]; decide)] at q
   exact q
 ·exact e0.hok.fresh (Nat.le_of_lt (x.above y c (PySem.mem_of_lookup h)))
 ·unfold start
  show _=N.length
  rw [List.length_append,List.length_map,List.length_replicate]
  omega
theorem i5n{CX:CXT}{P:Program}{w:World}{K:PySem.W.Frag}{mg:Str->Option Value}{base:Heap}{k:Nat}{f:Addr}{name qual:Str}{params:Arguments}{body:List Stmt}{scope:Scope}{dV kV doc pm cdv ct oc:Value}{an od:Option Addr}
  {osl:Array (Option Value)} {N ps:List Str} {sp:Sp} (lk:K.lookup f=some ⟨oc,od,.func (PySem.W.fnOf name qual params body scope dV kV doc pm an cdv ct),osl⟩) (hcd:PySem.W.codeIn K cdv qual=true) (S:a1n N ps scope)
  (len:∀ vs H Q E,sp vs H Q E->vs.length=ps.length)
  (hbody:∀ (A:Around) (outer:List Env) (s:Shared) (H:Hp) (vs:List V) (Q:VK) (E:XK),c7p k (A.deeper (envOfC qual scope s.heap.objs.size f cdv))->sp vs H Q E ->
   ∃ t,PSs (h2q CX P w K mg base N qual scope f cdv A outer s H E) body t/\t { nx:=fun _ H'=>Q .non H',rt:=Q } (start N vs) H) :
  a2m P w K mg base CX (k+1) f (PySem.W.fnOf name qual params body scope dV kV doc pm an cdv ct) ps sp:=by
 refine⟨len,fun A outer s H args us vs Q E hr e0 hb r hsp=>?_⟩
 have hl:=len _ _ _ _ hsp
 have KX:K.In s.heap:=e0.mod.kin.keeps fun b o e=>(e0.bs b o e).1
 have lim:s.heap.NoLimit:=e0.mod.nolimit.keeps fun b o e=>(e0.bs b o e).1
 have hkind:∀ y∈ps.zip us,scope.names.lookup y.1=some .local\/(scope.names.lookup y.1=some .cell/\((cellsFrom (s.heap.objs.size+1) scope.names []).lookup y.1).isSome=true):=fun⟨n,v⟩ hy=>by
  rcases S.par n (List.of_mem_zip hy).1 with q | q
  ·exact .inl q
  ·exact .inr ⟨q,PySem.W.cellsFrom_some _ _ _ (.inl q)⟩
 refine codeAny_call_function hr.depth (KX _ _ lk) rfl S.co S.gen rfl (PySem.W.codeRec_of KX hcd) (hb _ _ _ _ ?_)
 refine wpAny_newFunctionEnv_cells S.kind hkind fun env he s1 x=>?_
 subst he
 refine⟨lim.keeps x.toInCall.keep,codeAny_func ?_⟩
 obtain⟨t,ht,hq⟩:=hbody A outer s H vs Q E (hr.deeper _) hsp
 have I:Inv (h2q CX P w K mg base N qual scope f cdv A outer s H E) [] (start N vs) H s1:=h5v S hr.hd e0 hl r x
 refine wpAny_mono (ht [] s1 (start N vs) H _ I hq) (fun fl s' hs=>?_) fun e s' hs=>hs
 have fin:∀ {σ':St} {H':Hp} {v:V} {u:Value},Inv (h2q CX P w K mg base N qual scope f cdv A outer s H E) [] σ' H' s'->RelV v u->Q v H'->CE outer P w H s Q u s' :=
  fun {σ' H' v u} J rv q=>⟨v,H',J.os,J.bare,J.base,J.hok,rv,q⟩
 cases fl with
 | ret u =>
  obtain⟨v,σ',H',J,rv,q⟩:=hs
  exact fin J rv q
 | next =>
  obtain⟨σ',H',J,q⟩:=hs
  exact fin (v:=V.non) (u:=Value.none) J rfl q
 | brk =>
  obtain⟨_,_,_,q⟩:=hs
  exact False.elim q
 | cont =>
  obtain⟨_,_,_,q⟩:=hs
  exact False.elim q
end L2
namespace L2
open PySem PySem.Spec PyProof.Rows
section
variable {X:Cx}{x:Str}{p pos:Pos}{e:Expr}{es:List Expr}{t:TA}{id T:String}{r:List V->Hp->VK->Prop}
def tCB(r:List V->Hp->VK->Prop)(t:TA):TE:=fun σ H Q=>t σ H fun vs H1=>r vs H1 Q
theorem a1h(hc:d0i X (.builtin id) r)(hg:Gl X x)(hm:X.mg x=none)(hv:bootBuiltins x=some (.builtin id))(ha:PA X (e :: es) t)(hn:x≠"__name__":=by decide)(hdb:(x == ("__debug__":Str))=false:=by decide)
  (he:starEach (e :: es) X.env=(false,eval e X.env) :: starEach es X.env:=by rfl) (hpl:(backTo pos (starEach es X.env)).any (·.1)=false:=by rfl):PE X (.Call (.Name x p) (e :: es) [] pos) (tCB r t):=by
 intro pins s σ H Q I h
 refine wpAny_Call_Name_kw (h0o I hg hm hv ?_ hn hdb)
 exact PyProof.Rows.callWith_builtin1 (thn (ha pos pins s σ H _ I h) fun us s1 ⟨vs,H1,I1,r1,q1⟩=>hc pins s1 σ H1 vs us Q I1 r1 q1) he hpl
theorem a9i(hc:d0i X (.type T) r)(hg:Gl X x)(hm:X.mg x=none)(hv:bootBuiltins x=some (.type T))(ha:PA X (e :: es) t)(hn:x≠"__name__":=by decide)(hdb:(x == ("__debug__":Str))=false:=by decide)
  (he:starEach (e :: es) X.env=(false,eval e X.env) :: starEach es X.env:=by rfl) (hpl:(backTo pos (starEach es X.env)).any (·.1)=false:=by rfl):PE X (.Call (.Name x p) (e :: es) [] pos) (tCB r t):=by
 intro pins s σ H Q I h
 refine wpAny_Call_Name_kw (h0o I hg hm hv ?_ hn hdb)
 exact PyProof.Rows.callWith_type1 (thn (ha pos pins s σ H _ I h) fun us s1 ⟨vs,H1,I1,r1,q1⟩=>hc pins s1 σ H1 vs us Q I1 r1 q1) he hpl
end
end L2
namespace HT
open PySem PyProof.Rows
section
open PySem.SeqAt
open PySem.AutoSeq1 (wpAny_loadPart')
open PySem.MeetsSeq PySem.MeetsSeq2 PySem.MeetsSeq3
end
section
variable {prog:Program}{w:World}{A:Around}{E:Value->Shared->Prop}{s:Shared}
noncomputable def sIx(n d:Nat):Option Int->Nat
 | none=>d
 | some v=>if v < 0 then (v+(n:Int)).toNat else min v.toNat n
theorem h9w(n d:Nat):sIx n d none=d:=rfl
theorem i5o(n d k:Nat):sIx n d (some (k:Int))=min k n:=by
 show (if (k:Int) < 0 then ((k:Int)+(n:Int)).toNat else min (k:Int).toNat n)=min k n
 rw [if_neg (by omega),Int.toNat_natCast]
end
end HT
namespace L2
open PySem PySem.Spec PyProof.Rows
noncomputable abbrev TO:=St->Hp->(Option Int->Hp->Prop)->Prop
def PO(X:Cx)(e:Option Expr)(t:TO):Prop :=
 ∀ (pins:List (Addr×Obj)) (s:Shared) (σ:St) (H:Hp) (Q:Option Int->Hp->Prop),Inv X pins σ H s->t σ H Q ->
  wpAny (model X.prog X.w) X.A (evalPart e X.env) (fun u s'=>∃ o H',Inv X pins σ H' s'/\IsPart u o/\Q o H') X.xe s
noncomputable def i5p:TO:=fun _ H Q=>Q none H
def j0t(t:TE):TO:=fun σ H Q=>t σ H fun x H1=>∃ i,x = .int i/\Q (some i) H1
section
variable {X:Cx}{e:Expr}{te:TE}{lo hi:Option Expr}{tl th:TO}{pos p2:Pos}
theorem b7g:PO X none i5p:=by
 intro pins s σ H Q I h
 rw [evalPart_none]
 exact wpAny_pure ⟨none,H,I,.none,h⟩
theorem i5q(h:PE X e te):PO X (some e) (j0t te):=by
 intro pins s σ H Q I hw
 rw [evalPart_some]
 refine thn (h pins s σ H _ I hw) fun u s1 ⟨x,H1,I1,r1,q1⟩=>?_
 obtain⟨i,rfl,q⟩:=q1
 obtain⟨t,rfl⟩:=r1
 exact⟨some i,H1,I1,.int i t,q⟩
def SlR(X:Cx)(r:V->Option Int->Option Int->Hp->VK->Prop):Prop :=
 ∀ (pins:List (Addr×Obj)) (s:Shared) (σ:St) (H:Hp) (x:V) (v vl vu:Value) (lo hi:Option Int) (sl:Addr) (Q:VK),Inv X pins σ H s->RelV x v->s.heap.IsSliceOf sl vl vu .none->IsPart vl lo->IsPart vu hi->r x lo hi H Q ->
  ∃ T id,typeLookup (.type T) "__getitem__"=pure (some (.builtin id))/\s.TypeIs v T/\wpAny (model X.prog X.w) X.A (getItem v (.ref sl)) (EP X pins σ Q) X.xe s
def tSl(r:V->Option Int->Option Int->Hp->VK->Prop)(te:TE)(tl th:TO):TE:=fun σ H Q=>te σ H fun x H1=>tl σ H1 fun l H2=>th σ H2 fun u H3=>r x l u H3 Q
theorem b2p{r:V->Option Int->Option Int->Hp->VK->Prop}(hr:SlR X r)(he:PE X e te)(hl:PO X lo tl)(hu:PO X hi th):PE X (.Subscript e (.Slice lo hi none p2) pos) (tSl r te tl th):=by
 intro pins s σ H Q I h
 refine Subscript_ (thn (he pins s σ H _ I h) fun v s1 ⟨x,H1,I1,r1,q1⟩=>?_)
 refine wpAny_Slice (thn (hl pins s1 σ H1 _ I1 q1) fun vl s2 ⟨l,H2,I2,pl,q2⟩=>thn (hu pins s2 σ H2 _ I2 q2) fun vu s3 ⟨u,H3,I3,pu,q3⟩=>?_)
 rw [evalPart_none]
 refine wpAny_pure ?_
 have I4:Inv X pins σ H3 { s3 with heap:=s3.heap.push { cls:=.type "slice",data:=.fields #[vl,vu,.none] } }:=I3.kept (t':=s3.toks) fun b ob q=>Heap.get?_push_of_some _ q
 obtain⟨T,id,hT,ht,hg⟩:=hr pins { s3 with heap:=s3.heap.push { cls:=.type "slice",data:=.fields #[vl,vu,.none] } } σ H3 x v vl vu l u s3.heap.objs.size Q I4 r1 (Heap.IsSliceOf.new ..) pl pu q3
 show wpAny (model X.prog X.w) X.A (subscriptTail e (.Slice lo hi none p2) v (.ref s3.heap.objs.size)) (EP X pins σ Q) X.xe { s3 with heap:=s3.heap.push { cls:=.type "slice",data:=.fields #[vl,vu,.none] } }
 exact tail_any (ops:=[.ref s3.heap.objs.size,v]) ht hT hg (by with_unfolding_all rfl)
noncomputable def g4e(xs:List V)(lo hi:Option Int):List V:=(xs.drop (HT.sIx xs.length 0 lo)).take (HT.sIx xs.length xs.length hi - HT.sIx xs.length 0 lo)
theorem g7s(xs:List V)(lo hi:Option Int):(g4e xs lo hi).length<=xs.length:=by
 unfold g4e
 rw [List.length_take,List.length_drop]
 omega
end
end L2
namespace L2
open PySem PySem.Spec PyProof.Rows
noncomputable def ixN(n:Nat)(i:Int):Option Nat:=if 0<=i then (if i < n then some i.toNat else none) else if -(n:Int)<=i then some (i+n).toNat else none
noncomputable def atI{α:Type}(xs:List α)(i:Int):Option α:=(ixN xs.length i).bind fun j=>xs[j]?
theorem i5r{n:Nat}{i:Int}{j:Nat}(h:ixN n i=some j):seqIndex? i n=some j/\j < n /\ -(n:Int)<=i/\i < n:=by
 unfold ixN at h
 by_cases h0:0<=i
 ·rw [if_pos h0] at h
  by_cases h1:i < n
  ·rw [if_pos h1] at h
   have e:i.toNat=j:=Option.some.inj h
   exact⟨by rw [seqIndex_of h0 h1,e],by omega,by omega,h1⟩
  ·rw [if_neg h1] at h; cases h
 ·rw [if_neg h0] at h
  by_cases h1 : -(n:Int)<=i
  ·rw [if_pos h1] at h
   have e:(i+n).toNat=j:=Option.some.inj h
   exact⟨by rw [seqIndex_neg (by omega) h1,e],by omega,h1,by omega⟩
  ·rw [if_neg h1] at h; cases h
theorem g7t{α:Type}{xs:List α}{i:Int}{v:α}(h:atI xs i=some v):∃ j,seqIndex? i xs.length=some j/\xs[j]? = some v/\j < xs.length /\ -(xs.length:Int)<=i/\i < xs.length:=by
 unfold atI at h
 cases e:ixN xs.length i with
 | none=>rw [e] at h; cases h
 | some j =>
  rw [e] at h
  obtain⟨h1,h2,h3,h4⟩:=i5r e
  exact⟨j,h1,h,h2,h3,h4⟩
theorem c8o{α:Type}{xs:List α}{j:Nat}{v:α}(h:xs[j]? = some v):atI xs (j:Int)=some v:=by
 have hj:j < xs.length:=(List.getElem?_eq_some_iff.mp h).1
 have e:ixN xs.length (j:Int)=some j:=by
  unfold ixN
  rw [if_pos (by omega),if_pos (by omega)]; simp
 unfold atI; rw [e]; exact h
theorem h9x{α:Type}(xs:List α)(v:α):atI (xs++[v]) (-1)=some v:=by
 have hl:(xs++[v]).length=xs.length+1:=by simp
 have e:ixN (xs++[v]).length (-1)=some xs.length:=by
  unfold ixN
  rw [hl,if_neg (by decide),if_pos (by omega)]
  congr 1
  omega
 unfold atI
 rw [e]
 show (xs++[v])[xs.length]? = some v
 simp
def i5s(b:Expr):Prop:=∀ o i,subscripted b false o i=operate [o,i] (getItem o i)
def IxR(X:Cx)(r:R2):Prop :=
 ∀ (value slice:Expr) (pins:List (Addr×Obj)) (s:Shared) (σ:St) (H:Hp) (x y:V) (v u:Value) (Q:VK),Inv X pins σ H s->RelV x v->RelV y u->r x y H Q ->
  subscripted slice false v u=operate [v,u] (getItem v u)->wpAny (model X.prog X.w) X.A (subscriptTail value slice v u) (EP X pins σ Q) X.xe s
def MtR(X:Cx)(id:String)(r:V->List V->Hp->VK->Prop):Prop :=
 ∀ (pins:List (Addr×Obj)) (s:Shared) (σ:St) (H:Hp) (x:V) (xs:List V) (v:Value) (us:List Value) (Q:VK),Inv X pins σ H s->RelV x v->Vals xs us->r x xs H Q ->
  wpAny (model X.prog X.w) X.A (call (.builtin id) (v :: us)) (EP X pins σ Q) X.xe s
section
variable {X:Cx}{a b:Expr}{ta tb:TE}{pos:Pos}
theorem a2h{r:R2}(hr:IxR X r)(ha:PE X a ta)(hb:PE X b tb)(hs:i5s b):PE X (.Subscript a b pos) (tOp r ta tb):=by
 intro pins s σ H Q I h
 exact Subscript_ (j6x ha hb I h fun v u s2 x y H2 I2 rx ry q=>hr a b pins s2 σ H2 x y v u Q I2 rx ry q (hs _ _))
def rIxL(K:PySem.W.Frag):R2:=fun x y H Q=>∃ p xs i v,x = .ref p/\y = .int i/\SqL K H p xs/\atI xs i=some v/\Q v H
def rIxT(K:PySem.W.Frag):R2:=fun x y H Q=>∃ p xs i v,x = .ref p/\y = .int i/\SqT K H p xs/\atI xs i=some v/\Q v H
def rIxS:R2:=fun x y H Q=>∃ z i c,x = .str z/\y = .int i/\z.length<=sizeLine/\atI z.cps.toList i=some c/\Q (.str ⟨#[c]⟩) H
theorem i5t:IxR X (rIxL X.K):=by
 intro value slice pins s σ H x y v u Q I rx ry h hs
 obtain⟨p,xs,i,z,rfl,rfl,hq,he,q⟩:=h
 cases rx
 obtain⟨t,rfl⟩:=ry
 obtain⟨its,r,pl,hz⟩:=I.list hq
 obtain⟨j,h1,h2,h3,h4,h5⟩:=g7t he
 obtain⟨w,ew,rw'⟩:=r.get h2
 have hl:=r.length
 have hn:=g4f
 have fin:EP X pins σ Q w s:=⟨z,H,I,rw',q⟩
 by_cases h0:0<=i
 ·have hj:i.toNat=j:=by
   rw [seqIndex_of h0 h5] at h1
   exact Option.some.inj h1
  exact item_listR pl.isList h0 (by omega) (by rw [hj]; simpa using ew) fin hs
 ·have hj:(i+(its.toArray.size:Int)).toNat=j:=by
   rw [seqIndex_neg (by omega) h4] at h1
   rw [List.size_toArray,<- hl]
   exact Option.some.inj h1
  exact subscriptTail_builtinR (x:=w) pl.isList.typeIs slot_list_getitem.lookup
   (wpAny_getItem_list_neg (Q:=fun r s'=>r=w/\EP X pins σ Q r s') pl.isList (by omega) (by rw [List.size_toArray] <;> omega) (by omega) (by rw [hj]; simpa using ew) ⟨rfl,fin⟩) hs
theorem j0u:IxR X (rIxT X.K):=by
 intro value slice pins s σ H x y v u Q I rx ry h hs
 obtain⟨p,xs,i,z,rfl,rfl,hq,he,q⟩:=h
 cases rx
 obtain⟨t,rfl⟩:=ry
 obtain⟨its,r,pl,hz⟩:=I.tuple hq
 obtain⟨j,h1,h2,h3,h4,h5⟩:=g7t he
 obtain⟨w,ew,rw'⟩:=r.get h2
 have hl:=r.length
 have hn:=g4f
 have fin:EP X pins σ Q w s:=⟨z,H,I,rw',q⟩
 exact subscriptTail_builtinR (x:=w) pl.typeIs slot_tuple_getitem.lookup
  (getItem_tuple (j:=j) (Q:=fun r s'=>r=w/\EP X pins σ Q r s') pl (by omega) (by omega) (by rw [List.size_toArray,<- hl]; exact h1) (by simpa using ew) ⟨rfl,fin⟩) hs
theorem j0v:IxR X rIxS:=by
 intro value slice pins s σ H x y v u Q I rx ry h hs
 obtain⟨z,i,c,rfl,rfl,hz,he,q⟩:=h
 obtain⟨t,rfl⟩:=rx
 obtain⟨t',rfl⟩:=ry
 obtain⟨j,h1,h2,h3,h4,h5⟩:=g7t he
 have hl:z.cps.toList.length=z.length:=by simp [Str.length]
 rw [hl] at h1 h4 h5
 have hn:=g4f
 exact tail_any (typeIs_str s z t) slot_str_getitem.lookup (getItem_str (c:=c) (by
  have e1:decide (i < -(2 ^ 63:Int))=false:=decide_eq_false (by omega)
  have e2:decide (i ≥ 2 ^ 63)=false:=decide_eq_false (by omega)
  rw [e1,e2,Bool.or_false]) (by rw [h1]; simpa using h2) ⟨.str ⟨#[c]⟩,H,I.tok _,⟨_,rfl⟩,q⟩) hs
theorem Inv.lst{pins:List (Addr×Obj)}{σ:St}{H:Hp}{s:Shared}{p:Addr}{xs:List V}(I:Inv X pins σ H s)(h:H p=some (.lst xs)) :
  ∃ (its:List Value) (n:Nat),Vals xs its/\s.heap.get? p=some { cls:=.type "list",data:=.seq its.toArray n }/\xs.length<=sizeLine:=by
 obtain⟨z,its,n,r,e⟩:=I.hok p _ h
 exact⟨its,n,r,e,z⟩
theorem g4n(lo hi:Option Int)(n:Nat):(sliceBounds lo hi none n).1=((HT.sIx n 0 lo:Nat):Int)/\(sliceBounds lo hi none n).2.1=((HT.sIx n n hi:Nat):Int)/\(sliceBounds lo hi none n).2.2=1:=by
 refine⟨?_,?_,rfl⟩
 ·cases lo with
  | none=>simp [sliceBounds,HT.sIx]
  | some i =>
   simp only [sliceBounds,HT.sIx,Option.getD_none,show (1:Int) > 0 by decide,if_true]
   by_cases h:i < 0
   ·simp only [h,if_true] <;> omega
   ·simp only [h,if_false] <;> omega
 ·cases hi with
  | none=>simp [sliceBounds,HT.sIx]
  | some i =>
   simp only [sliceBounds,HT.sIx,Option.getD_none,show (1:Int) > 0 by decide,if_true]
   by_cases h:i < 0
   ·simp only [h,if_true] <;> omega
   ·simp only [h,if_false] <;> omega
theorem g1s(its:List Value)(lo hi:Option Int):slicePick its.toArray lo hi none=((its.drop (HT.sIx its.length 0 lo)).take (HT.sIx its.length its.length hi - HT.sIx its.length 0 lo)).toArray:=by
 obtain⟨h1,h2,h3⟩:=g4n lo hi its.toArray.size
 unfold slicePick
 rw [h1,h2,h3]
 simp only [sliceRange_one,pick_run,List.size_toArray] <;> rfl
noncomputable def rSlL(K:PySem.W.Frag):V->Option Int->Option Int->Hp->VK->Prop:=fun x lo hi H Q=>∃ a xs,x = .ref a/\SqL K H a xs/\∀ p,H p=none->Q (.ref p) (upd H p (.lst (g4e xs lo hi)))
theorem h5w:SlR X (rSlL X.K):=by
 intro pins s σ H x v vl vu lo hi sl Q I rx hs pl pu h
 obtain⟨a,xs,rfl,hx,q⟩:=h
 cases rx
 obtain⟨its,r,ht,hz⟩:=I.list hx
 have hlen:=r.length
 refine⟨"list",_,slot_list_getitem.lookup,ht.isList.typeIs,?_⟩
 refine wpAny_getItem_list_slice ht.isList hs pl pu .none (by simp) ?_ (by rw [List.size_toArray] <;> omega)
 rw [g1s,<- hlen]
 refine⟨.ref s.heap.objs.size,_,I.laid (t':=s.toks) (o:=.lst (g4e xs lo hi)) (fun b ob q=>Heap.get?_push_of_some _ q) (Nat.le_refl _) ?_,rfl,q _ (I.hok.fresh (Nat.le_refl _))⟩
 exact⟨Nat.le_trans (g7s xs lo hi) hz,_,0,(r.drop (HT.sIx xs.length 0 lo)).take (HT.sIx xs.length xs.length hi - HT.sIx xs.length 0 lo),Heap.get?_push_size _ rfl⟩
noncomputable def b5h:V->Bool
 | .non=>true
 | .bl _=>true
 | .int _=>true
 | .str _=>true
 | _=>false
noncomputable def eqV:V->V->Bool
 | .non,.non=>true
 | .bl a,.bl b=>a == b
 | .bl a,.int b=>(if a then 1 else 0) == b
 | .int a,.bl b=>a == (if b then 1 else 0)
 | .int a,.int b=>a == b
 | .str a,.str b=>a == b
 | _,_=>false
theorem j0w{A:Around}{s:Shared}{y x:V}{u v:Value}(ry:RelV y u)(rx:RelV x v)(fy:b5h y=true)(fx:b5h x=true):SeqAt.EqAt A s u v (eqV y x):=by
 cases y with
 | non =>
  cases ry
  cases x with
  | non=>cases rx; exact SeqAt.EqAt.same _
  | bl b=>cases rx; exact SeqAt.EqAt.none_bool b
  | int b=>obtain⟨t,rfl⟩:=rx; exact SeqAt.EqAt.none_int b t
  | str b=>obtain⟨t,rfl⟩:=rx; exact SeqAt.EqAt.none_str b t
  | _=>exact absurd (show false=true from fx) Bool.false_ne_true
 | bl a =>
  cases ry
  cases x with
  | non=>cases rx; exact SeqAt.EqAt.bool_none a
  | bl b=>cases rx; exact SeqAt.EqAt.bool_bool a b
  | int b=>obtain⟨t,rfl⟩:=rx; exact SeqAt.EqAt.bool_int a b t
  | str b=>obtain⟨t,rfl⟩:=rx; exact SeqAt.EqAt.bool_str a b t
  | _=>exact absurd (show false=true from fx) Bool.false_ne_true
 | int a =>
  obtain⟨t',rfl⟩:=ry
  cases x with
  | non=>cases rx; exact SeqAt.EqAt.int_none a t'
  | bl b=>cases rx; exact SeqAt.EqAt.int_bool a t' b
  | int b=>obtain⟨t,rfl⟩:=rx; exact SeqAt.EqAt.int_int a t' b t
  | str b=>obtain⟨t,rfl⟩:=rx; exact SeqAt.EqAt.int_str a t' b t
  | _=>exact absurd (show false=true from fx) Bool.false_ne_true
 | str a =>
  obtain⟨t',rfl⟩:=ry
  cases x with
  | non=>cases rx; exact SeqAt.EqAt.str_none a t'
  | bl b=>cases rx; exact SeqAt.EqAt.str_bool a t' b
  | int b=>obtain⟨t,rfl⟩:=rx; exact SeqAt.EqAt.str_int a t' b t
  | str b=>obtain⟨t,rfl⟩:=rx; exact SeqAt.EqAt.str_str a t' b t
  | _=>exact absurd (show false=true from fx) Bool.false_ne_true
 | _=>exact absurd (show false=true from fy) Bool.false_ne_true
noncomputable def eqU(x:V)(u:Value):Bool:=match u with
 | .none=>eqV .non x
 | .bool b=>eqV (.bl b) x
 | .int i _=>eqV (.int i) x
 | .str z _=>eqV (.str z) x
 | _=>false
theorem i2u{x y:V}{u:Value}(r:RelV y u)(f:b5h y=true):eqU x u=eqV y x:=by
 cases y with
 | non=>cases r; rfl
 | bl b=>cases r; rfl
 | int i=>obtain⟨t,rfl⟩:=r; rfl
 | str z=>obtain⟨t,rfl⟩:=r; rfl
 | _=>exact absurd (show false=true from f) Bool.false_ne_true
theorem f4h{x:V}:∀ {xs:List V} {us:List Value},Vals xs us->xs.all b5h=true->us.any (eqU x)=xs.any fun y=>eqV y x
 | _,_,.nil,_=>rfl
 | y :: xs,u :: us,.cons r t,f=>by
  rw [List.all_cons,Bool.and_eq_true] at f
  rw [List.any_cons,List.any_cons,i2u r f.1,f4h t f.2]
theorem d7u{A:Around}{s:Shared}{x:V}{v:Value}(rx:RelV x v)(fx:b5h x=true):∀ {xs:List V} {us:List Value},Vals xs us->xs.all b5h=true->∀ u∈us,SeqAt.EqAt A s u v (eqU x u)
 | _,_,.nil,_=>fun u hu=>by cases hu
 | y :: xs,u :: us,.cons r t,f=>fun u' hu=>by
  rw [List.all_cons,Bool.and_eq_true] at f
  rcases List.mem_cons.mp hu with rfl | hu
  ·rw [i2u r f.1]; exact j0w r rx f.1 fx
  ·exact d7u rx fx t f.2 u' hu
noncomputable def inV(x:V)(xs:List V):Bool:=xs.any fun y=>eqV y x
def rIn(K:PySem.W.Frag)(neg:Bool):R2:=fun x y H Q=>∃ p xs,y = .ref p/\(SqL K H p xs\/SqT K H p xs)/\b5h x=true/\xs.all b5h=true/\Q (.bl (if neg then !inV x xs else inV x xs)) H
theorem g4o:OpR X (compareOp .In) (rIn X.K false):=by
 intro pins s σ H x y v u Q I rx ry h
 obtain⟨p,xs,rfl,hq,fx,fs,q⟩:=h
 cases ry
 rcases hq with hq | hq
 ·obtain⟨its,r,pl,hz⟩:=I.list hq
  refine SeqAt.in_listAt (eqU x) pl.isList (fun w hw=>d7u rx fx r fs w (by simpa using hw)) ⟨.bl _,H,I,rfl,?_⟩
  rw [show its.toArray.any (eqU x)=its.any (eqU x) by simp,f4h r fs]
  exact q
 ·obtain⟨its,r,pl,hz⟩:=I.tuple hq
  refine SeqAt.in_tupleAt (eqU x) pl (fun w hw=>d7u rx fx r fs w (by simpa using hw)) ⟨.bl _,H,I,rfl,?_⟩
  rw [show its.toArray.any (eqU x)=its.any (eqU x) by simp,f4h r fs]
  exact q
theorem d2z:OpR X (compareOp .NotIn) (rIn X.K true):=by
 intro pins s σ H x y v u Q I rx ry h
 obtain⟨p,xs,rfl,hq,fx,fs,q⟩:=h
 cases ry
 rcases hq with hq | hq
 ·obtain⟨its,r,pl,hz⟩:=I.list hq
  refine SeqAt.notIn_listAt (eqU x) pl.isList (fun w hw=>d7u rx fx r fs w (by simpa using hw)) ⟨.bl _,H,I,rfl,?_⟩
  rw [show its.toArray.any (eqU x)=its.any (eqU x) by simp,f4h r fs]
  exact q
 ·obtain⟨its,r,pl,hz⟩:=I.tuple hq
  refine SeqAt.notIn_tupleAt (eqU x) pl (fun w hw=>d7u rx fx r fs w (by simpa using hw)) ⟨.bl _,H,I,rfl,?_⟩
  rw [show its.toArray.any (eqU x)=its.any (eqU x) by simp,f4h r fs]
  exact q
theorem g4p:OpR X (compareOp .NotIn) (fun x y H Q=>∃ i j,x = .str i/\y = .str j/\Q (.bl (!(!(Builtin.Str.occurrences j i 0 j.length 1).isEmpty))) H):=by
 intro pins s σ H x y v u Q I rx ry h
 obtain⟨i,j,rfl,rfl,q⟩:=h
 obtain⟨t,rfl⟩:=rx
 obtain⟨t',rfl⟩:=ry
 exact notIn_str ⟨.bl _,H,I,rfl,q⟩
theorem f1v:d0i X (.builtin "len") (fun xs H Q=>∃ p ys,xs = [.ref p]/\(SqL X.K H p ys\/SqT X.K H p ys)/\Q (.int ys.length) H):=by
 intro pins s σ H xs us Q I r h
 obtain⟨p,ys,rfl,hq,q⟩:=h
 obtain⟨u,rfl,rx⟩:=vals1 r
 cases rx
 have hn:=g4f
 rcases hq with hq | hq
 ·obtain⟨its,r',pl,hz⟩:=I.list hq
  have hlen:=r'.length
  exact Calls.call_len_list pl.isList (by simp only [List.size_toArray] <;> omega) ⟨.int ys.length,H,I.tok _,⟨s.toks+1,by rw [List.size_toArray,hlen]⟩,q⟩
 ·obtain⟨its,r',pl,hz⟩:=I.tuple hq
  have hlen:=r'.length
  exact len_tuple pl (by simp only [List.size_toArray] <;> omega) ⟨.int ys.length,H,I.tok _,⟨s.toks+1,by rw [List.size_toArray,hlen]⟩,q⟩
theorem g4q:d0i X (.builtin "len") (fun xs H Q=>∃ z,xs = [.str z]/\z.length<=sizeLine/\Q (.int z.length) H):=by
 intro pins s σ H xs us Q I r h
 obtain⟨z,rfl,hz,q⟩:=h
 obtain⟨u,rfl,t,rfl⟩:=vals1 r
 have hn:=g4f
 exact len_str (by omega) ⟨.int z.length,H,I.tok _,⟨_,rfl⟩,q⟩
theorem g4r:d0i X (.type "list") (fun xs H Q=>∃ p ys,xs = [.ref p]/\(SqL X.K H p ys\/SqT X.K H p ys)/\∀ l,H l=none->Q (.ref l) (upd H l (.lst ys))):=by
 intro pins s σ H xs us Q I r h
 obtain⟨p,ys,rfl,hq,q⟩:=h
 obtain⟨u,rfl,rx⟩:=vals1 r
 cases rx
 have fin:∀ (its:List Value),Vals ys its->ys.length<=sizeLine->∀ (h':Heap) (c':Nat),(∀ b o',s.heap.get? b=some o'->h'.get? b=some o') ->
   h'.get? s.heap.objs.size=some { cls:=.type "list",dict:=none,data:=.seq its.toArray c',slots := #[] }->EP X pins σ Q (.ref s.heap.objs.size) { s with heap:=h' }:=fun its r' hz h' c' kp e =>
  ⟨.ref s.heap.objs.size,_,I.laid (t':=s.toks) kp (Nat.le_refl _) (show b0p X.prog X.w _ h' _ (.lst ys) from ⟨hz,its,c',r',e⟩),rfl,q _ (I.hok.fresh (Nat.le_refl _))⟩
 rcases hq with hq | hq
 ·obtain⟨its,r',pl,hz⟩:=I.list hq
  have hlen:=r'.length
  obtain⟨o,ho,hc,n,hd⟩:=pl.isList
  exact call_list_seq p (.inl rfl) ho hc hd (fun h' c' kp e=>fin its r' hz h' c' kp e) (by simp only [List.size_toArray] <;> omega)
 ·obtain⟨its,r',pl,hz⟩:=I.tuple hq
  have hlen:=r'.length
  obtain⟨o,ho,hc,n,hd⟩:=pl
  exact call_list_seq p (.inr rfl) ho hc hd (fun h' c' kp e=>fin its r' hz h' c' kp e) (by simp only [List.size_toArray] <;> omega)
def tyV(K:PySem.W.Frag)(T:String)(x:V)(H:Hp):Prop:=match x with
 | .str _=>T="str"
 | .int _=>T="int"
 | .ref p=>(T="list"/\∃ xs,SqL K H p xs)\/(T="tuple"/\∃ o,K.lookup p=some o/\o.cls = .type "tuple"/\o.dict=none) \/
   (T="dict"/\((∃ kvs,H p=some (.dK kvs))\/∃ kvs,H p=some (.dT kvs)))\/(T="set"/\∃ S n,H p=some (.set S n))
 | _=>False
theorem i2v{pins:List (Addr×Obj)}{σ:St}{H:Hp}{s:Shared}{T:String}{x:V}{v:Value}(I:Inv X pins σ H s)(r:RelV x v)(ty:tyV X.K T x H) :
  s.TypeIs v T/\∀ a,v = .ref a->∃ ob,s.heap.get? a=some ob/\ob.dict=none:=by
 cases x with
 | str z =>
  obtain⟨t,rfl⟩:=r
  cases (show T="str" from ty)
  exact⟨typeIs_str s z t,fun _ e=>nomatch e⟩
 | int i =>
  obtain⟨t,rfl⟩:=r
  cases (show T="int" from ty)
  exact⟨typeIs_int s i t,fun _ e=>nomatch e⟩
 | ref p =>
  cases r
  rcases ty with ⟨rfl,xs,hq⟩ | ⟨rfl,o,hk,hc,hd⟩ | ⟨rfl,hk⟩ | ⟨rfl,S,n,hk⟩
  ·obtain⟨its,_,pl,_⟩:=I.list hq
   refine⟨pl.isList.typeIs,fun a e=>?_⟩
   cases e
   obtain⟨o,n,e,c,hd,_⟩:=pl
   exact⟨o,e,hd⟩
  ·refine⟨⟨o,I.kIn p o hk,hc⟩,fun a e=>?_⟩
   cases e
   exact⟨o,I.kIn _ o hk,hd⟩
  ·have z:∃ o,s.heap.get? p=some o/\o.ExactDict:=by
    rcases hk with ⟨kvs,hk⟩ | ⟨kvs,hk⟩
    ·obtain⟨_,_,_,_,o,_,_,e,ex,_⟩:=I.hok p _ hk
     exact⟨o,e,ex⟩
    ·obtain⟨_,_,_,_,o,_,_,e,ex,_⟩:=I.hok p _ hk
     exact⟨o,e,ex⟩
   obtain⟨o,e,ex⟩:=z
   refine⟨⟨o,e,ex.1⟩,fun a e2=>?_⟩
   cases e2
   exact⟨o,e,ex.2.1⟩
  ·obtain⟨o,_,_,_,e,ex,_⟩:=I.hok p _ hk
   refine⟨⟨o,e,ex.1⟩,fun a e2=>?_⟩
   cases e2
   exact⟨o,e,ex.2.1⟩
 | _=>exact False.elim ty
variable {o e:Expr}{es:List Expr}{to:TE}{t:TA}{name:Str}{apos cpos:Pos}{T id:String}{r:V->List V->Hp->VK->Prop}
/- xs.append(e),list.index on a module's tuple .. are MtR facts of 06m -/
end
end L2
namespace L2
open PySem PySem.Spec PyProof.Rows
def MtM(X:Cx)(id:String)(r:V->List V->Hp->VK->Prop):Prop :=
 ∀ (pins:List (Addr×Obj)) (s:Shared) (σ:St) (H:Hp) (x:V) (xs:List V) (v:Value) (us:List Value) (Q:VK),Inv X pins σ H s->RelV x v->Vals xs us->r x xs H Q ->
  wpAny (model X.prog X.w) X.A (call (.builtin id) (v :: us)) (EP X pins σ Q) X.xe s
theorem Vals.one:∀ {x:V} {us:List Value},Vals [x] us->∃ u,us = [u]/\RelV x u
 | _,_,.cons r .nil=>⟨_,rfl,r⟩
theorem Vals.two{x y:V}{us:List Value}(h:Vals [x,y] us):∃ u v,us = [u,v]/\RelV x u/\RelV y v:=by
 cases h with
 | cons r t =>
  cases t with
  | cons q z =>
   cases z
   exact⟨_,_,rfl,r,q⟩
theorem Vals.zero:∀ {us:List Value},Vals [] us->us = []
 | _,.nil=>rfl
theorem Vals.dropLast{xs:List V}{us:List Value}(h:Vals xs us):Vals xs.dropLast us.dropLast:=by
 induction h with
 | nil=>exact .nil
 | cons r t ih =>
  cases t with
  | nil=>exact .nil
  | cons q t'=>exact .cons r ih
theorem Vals.eraseIdx:∀ {xs:List V} {us:List Value} (i:Nat),Vals xs us->Vals (xs.eraseIdx i) (us.eraseIdx i)
 | _,_,_,.nil=>.nil
 | _,_,0,.cons _ t=>t
 | _,_,i+1,.cons r t=>.cons r (Vals.eraseIdx i t)
theorem Vals.reverse{xs:List V}{us:List Value}(h:Vals xs us):Vals xs.reverse us.reverse:=by
 induction h with
 | nil=>exact .nil
 | cons r t ih=>rw [List.reverse_cons,List.reverse_cons]; exact Vals.append ih (.cons r .nil)
theorem Vals.rep{xs:List V}{us:List Value}(h:Vals xs us):∀ k:Nat,Vals (List.replicate k xs).flatten (List.replicate k us).flatten
 | 0=>.nil
 | k+1=>by
  rw [List.replicate_succ,List.replicate_succ,List.flatten_cons,List.flatten_cons]
  exact Vals.append h (Vals.rep h k)
theorem h2r{α:Type}(l:List α):l.eraseIdx (l.length - 1)=l.dropLast:=by
 induction l with
 | nil=>rfl
 | cons a r ih =>
  cases r with
  | nil=>rfl
  | cons b r =>
   have e:(a :: b :: r).length - 1=((b :: r).length - 1)+1:=by
    have h1:(a :: b :: r).length=r.length+2:=rfl
    have h2:(b :: r).length=r.length+1:=rfl
    omega
   rw [e,List.eraseIdx_cons_succ,ih]
   all_goals rfl
theorem g4s{α:Type}:∀ (l:List α) (i:Nat),(l.eraseIdx i).length<=l.length
 | [],_=>Nat.le_refl _
 | _ :: _,0=>Nat.le_succ _
 | _ :: r,i+1=>Nat.succ_le_succ (g4s r i)
theorem foldl_rep(its:List Value):∀ (k:Nat) (acc:List Value),
  List.foldl (fun x1 x2=>x1++x2) acc.toArray (List.replicate k its.toArray)=(acc++(List.replicate k its).flatten).toArray
 | 0,acc=>by simp
 | k+1,acc=>by
  have e:acc.toArray++its.toArray=(acc++its).toArray:=by simp
  have e2:(acc++its)++(List.replicate k its).flatten=acc++(List.replicate (k+1) its).flatten:=by
   rw [List.replicate_succ,List.flatten_cons,List.append_assoc]
  rw [<- e2,<- foldl_rep its k (acc++its),<- e,List.replicate_succ,List.foldl_cons]
section
variable {X:Cx}{pins:List (Addr×Obj)}{σ:St}{H:Hp}{s:Shared}{l b:Addr}{xs ys zs:List V}
theorem Inv.j5z{its its':List Value}{n:Nat}{f:Array Value->Array Value}{t':Nat}(I:Inv X pins σ H s)(hH:H l=some (.lst xs))
  (e:s.heap.get? l=some { cls:=.type "list",data:=.seq its.toArray n }) (hf:f its.toArray=its'.toArray) (hv:Vals ys its') (hz:ys.length<=sizeLine) :
  Inv X pins σ (upd H l (.lst ys)) { s with heap:=s.heap.update l (Obj.mapSeq f),toks:=t' }:=by
 have q:=PySem.IsL.update e f
 rw [hf] at q
 refine I.write (x:=l) (e:=l) (by rw [hH]; exact trivial) (.inl rfl) (fun b' u hb hu=>(Heap.get?_update_other s.heap (Obj.mapSeq f) (Ne.symm hb)).trans hu) ⟨_,q⟩ ?_
 exact⟨hz,its',_,hv,q⟩
theorem Inv.k0y{its:List Value}{t':Nat}(I:Inv X pins σ H s)(hv:Vals ys its)(hz:ys.length<=sizeLine) :
  Inv X pins σ (upd H s.heap.objs.size (.lst ys)) { s with heap:=s.heap.push { cls:=.type "list",data:=.seq its.toArray },toks:=t' } :=
 I.laid (fun _ _ q=>Heap.get?_push_of_some _ q) (Nat.le_refl _) ⟨hz,its,0,hv,Heap.get?_push_size _ rfl⟩
theorem Inv.fresh(I:Inv X pins σ H s):H s.heap.objs.size=none:=I.hok.fresh (Nat.le_refl _)
theorem Inv.i2w(I:Inv X pins σ H s)(hH:H l=some (.lst xs)):xs.length<=sizeLine/\∃ (its:List Value) (n:Nat),Vals xs its/\xs.length=its.length/\s.heap.get? l=some { cls:=.type "list",data:=.seq its.toArray n }:=by
 obtain⟨z,its,n,r,e⟩:=I.hok l _ hH
 exact⟨z,its,n,r,r.length,e⟩
theorem h9y{n:Nat}(h:n<=sizeLine):Builtin.List.listTooLong n=false:=by
 unfold Builtin.List.listTooLong
 exact decide_eq_false (by omega)
end
section
variable {X:Cx}
noncomputable def h5x:V->List V->Hp->VK->Prop:=fun x vs H Q=>∃ l xs y,x = .ref l/\vs = [y]/\H l=some (.lst xs)/\xs.length < sizeLine/\Q .non (upd H l (.lst (xs++[y])))
theorem d3g:MtM X "list.append" h5x:=by
 intro pins s σ H x vs v us Q I rx rv h
 obtain⟨l,xs,y,rfl,rfl,hH,hz,q⟩:=h
 cases rx
 obtain⟨u,rfl,ru⟩:=rv.one
 obtain⟨z,its,n,r,hl,e⟩:=I.i2w hH
 refine call_meets F.slot_list_append ⟨_,e,rfl⟩ F.entry_list_append (F.args_list_append_2 _ _) (PySem.list_append l its.toArray n u (by rw [List.size_toArray]; omega)) ⟨e,?_⟩
 refine⟨.non,_,I.j5z (its':=its++[u]) hH e (by simp) (r.append (.cons ru .nil)) ?_,rfl,q⟩
 rw [List.length_append,List.length_singleton]
 omega
noncomputable def rPop:V->List V->Hp->VK->Prop:=fun x vs H Q=>∃ l xs y,x = .ref l/\vs = []/\H l=some (.lst xs)/\xs[xs.length - 1]? = some y/\Q y (upd H l (.lst xs.dropLast))
theorem j0x:MtM X "list.pop" rPop:=by
 intro pins s σ H x vs v us Q I rx rv h
 obtain⟨l,xs,y,rfl,rfl,hH,hy,q⟩:=h
 cases rx
 have hus:=rv.zero
 subst hus
 obtain⟨z,its,n,r,hl,e⟩:=I.i2w hH
 obtain⟨u,hu,ru⟩:=r.get hy
 have hy':its.toArray[its.toArray.size - 1]? = some u:=by
  show its.toArray[its.length - 1]? = some u
  rw [<- Array.getElem?_toList,<- hl]
  exact hu
 refine call_meets F.slot_list_pop ⟨_,e,rfl⟩ F.entry_list_pop (F.args_list_pop_1 _) (MeetsSeq.list_pop_last l its.toArray n u hy' (by rw [List.size_toArray]; omega)) ⟨e,?_⟩
 refine⟨y,_,I.j5z (its':=its.dropLast) hH e ?_ r.dropLast ?_,ru,q⟩
 ·show its.toArray.eraseIdxIfInBounds (its.toArray.size - 1)=its.dropLast.toArray
  rw [List.size_toArray,List.eraseIdxIfInBounds_toArray,h2r]
 ·rw [List.length_dropLast]
  omega
noncomputable def j0y:V->List V->Hp->VK->Prop:=fun x vs H Q=>∃ l xs i k y,x = .ref l/\vs = [.int i]/\H l=some (.lst xs) /\ -(2 ^ 63)<=i/\i < 2 ^ 63/\seqIndex? i xs.length=some k/\xs[k]? = some y/\Q y (upd H l (.lst (xs.eraseIdx k)))
theorem h9z:MtM X "list.pop" j0y:=by
 intro pins s σ H x vs v us Q I rx rv h
 obtain⟨l,xs,i,k,y,rfl,rfl,hH,h1,h2,hk,hy,q⟩:=h
 cases rx
 obtain⟨u,rfl,ru⟩:=rv.one
 obtain⟨t,rfl⟩:=ru
 obtain⟨z,its,n,r,hl,e⟩:=I.i2w hH
 obtain⟨w,hw,rw'⟩:=r.get hy
 refine call_meets F.slot_list_pop ⟨_,e,rfl⟩ F.entry_list_pop (F.args_list_pop_2 _ _)
  (MeetsSeq.list_pop_at l its.toArray n i t k w (fitsIndex_both h1 h2) (by rw [List.size_toArray,<- hl]; exact hk) (by rw [<- Array.getElem?_toList]; exact hw) (by rw [List.size_toArray]; omega)) ⟨e,?_⟩
 refine⟨y,_,I.j5z (its':=its.eraseIdx k) hH e ?_ (r.eraseIdx k) ?_,rw',q⟩
 ·show its.toArray.eraseIdxIfInBounds k=(its.eraseIdx k).toArray
  rw [List.eraseIdxIfInBounds_toArray]
 ·have:=g4s xs k
  omega
def rCat:R2:=fun x y H Q=>∃ l b xs zs,x = .ref l/\y = .ref b/\H l=some (.lst xs)/\H b=some (.lst zs)/\xs.length+zs.length<=sizeLine/\∀ p,H p=none->Q (.ref p) (upd H p (.lst (xs++zs)))
theorem j0z:OpR X (binaryOp .Add) rCat:=by
 intro pins s σ H x y v u Q I rx ry h
 obtain⟨l,b,xs,zs,rfl,rfl,hH,hB,hz,q⟩:=h
 cases rx
 cases ry
 obtain⟨z,its,n,r,hl,e⟩:=I.i2w hH
 obtain⟨z2,its2,n2,r2,hl2,e2⟩:=I.i2w hB
 refine PySem.P.add_list e e2 ?_ (by rw [List.size_toArray,List.size_toArray]; omega)
 have ea:its.toArray++its2.toArray=(its++its2).toArray:=by simp
 rw [ea]
 exact⟨.ref _,_,I.k0y (t':=s.toks) (r.append r2) (by rw [List.length_append]; omega),rfl,q _ I.fresh⟩
def rRep:R2:=fun x y H Q=>∃ l k xs,x = .ref l/\y = .int k/\H l=some (.lst xs) /\ -(2 ^ 63)<=k/\k < 2 ^ 63/\xs.length*k.toNat<=sizeLine /\
 ∀ p,H p=none->Q (.ref p) (upd H p (.lst (List.replicate k.toNat xs).flatten))
theorem len_rep{α:Type}(xs:List α)(k:Nat):(List.replicate k xs).flatten.length=k*xs.length:=by
 induction k with
 | zero=>simp
 | succ k ih=>rw [List.replicate_succ,List.flatten_cons,List.length_append,ih,Nat.succ_mul,Nat.add_comm]
theorem j1a:OpR X (binaryOp .Mult) rRep:=by
 intro pins s σ H x y v u Q I rx ry h
 obtain⟨l,k,xs,rfl,rfl,hH,h1,h2,hz,q⟩:=h
 cases rx
 obtain⟨t,rfl⟩:=ry
 obtain⟨z,its,n,r,hl,e⟩:=I.i2w hH
 have hlen:its.toArray.size*k.toNat<=sizeLine:=by rw [List.size_toArray,<- hl]; exact hz
 have hcap:¬ its.toArray.size*k.toNat > (2 ^ 63 - 1) / 8:=by
  have:(sizeLine:Nat)<=(2 ^ 63 - 1) / 8:=by decide
  omega
 have hfit:¬ (!Builtin.List.listFitsIndex k)=true:=by
  rw [fitsIndex_both h1 h2]
  exact Bool.false_ne_true
 have j7e:¬ Builtin.List.listTooLong (its.toArray.size*k.toNat)=true:=by
  rw [h9y hlen]
  exact Bool.false_ne_true
 have hnew:List.foldl (fun x1 x2=>x1++x2) #[] (List.replicate (if its.toArray.isEmpty=true then 0 else k.toNat) its.toArray)=(List.replicate k.toNat its).flatten.toArray:=by
  have f0:∀ m:Nat,List.foldl (fun x1 x2=>x1++x2) #[] (List.replicate m its.toArray)=(List.replicate m its).flatten.toArray:=fun m=>by
   have:=foldl_rep its m []
   rw [List.nil_append] at this
   exact this
  rw [f0]
  cases its with
  | nil=>simp
  | cons a r'=>rw [if_neg (by simp)]
 refine wpAny_binaryOp_repeat_ref (T:="list") (U:="int") (by decide) ⟨_,e,rfl⟩ (fun s'=>typeIs_int s' k t) noFill_list_mul F.fills_int_mul F.slot_int_rmul repeat_list F.slot_int_index.lookup
  (call_meets F.slot_int_rmul (typeIs_int s k t) F.entry_int_rmul (F.args_int_rmul_2 _ _) (int___rmul___int_list k t l its.toArray n)
   ⟨e,rfl,⟨_,e,rfl⟩,call_meets F.slot_list_mul ⟨_,e,rfl⟩ F.entry_list_mul (F.args_list_mul_2 _ _) (AutoListH.list___mul___list_int_3 l its.toArray n k t hfit hcap j7e) ⟨e,?_⟩⟩)
 rw [hnew]
 exact⟨.ref _,_,I.k0y (t':=s.toks) (r.rep k.toNat) (by rw [len_rep,Nat.mul_comm]; exact hz),rfl,q _ I.fresh⟩
end
section
variable {prog:Program}{w:World}{A:Around}{E:Value->Shared->Prop}{s:Shared}
end
section
variable {X:Cx}
end
end L2
namespace Att
open PySem PySem.W PySem.Calls PyProof.Rows
theorem f4i{P:Params}{h:Heap}:∀ (ns:List Int) (vs:List Value),WellAll P h vs (ns.map WData.int)->IntsAre vs ns:=by
 intro ns
 induction ns with
 | nil =>
  intro vs w
  rw [List.map_nil] at w
  cases w
  exact .nil
 | cons n ns ih =>
  intro vs w
  rw [List.map_cons] at w
  cases w with
  | cons a b =>
   cases a
   exact .cons _ _ (ih _ b)
theorem h5y{l:OpenLaw}{n:Nat}(hn:l.most=some n){P:Params}{h:Heap}{args:List WData}{vals:List Value}
  (hpre:l.row.toRowW.claim.pre args=true) (hwl:WellAll P h vals args) :
  ∃ a vs ns,vals = [Value.ref a]/\args = [WData.list (ns.map WData.int)]/\h.get? a=some { cls:=.type "list",data:=.seq vs.toArray }/\IntsAre vs ns/\ns.length<=n:=by
 have hsh:WShape.hasAll [] args [.list .int]=true:=(pre_splitW hpre).1
 have hc:l.pre.holds [] { args:=args }=true:=(pre_splitW hpre).2
 obtain⟨d,r,rfl,h1,h2⟩:=hasAllW_cons hsh
 obtain rfl:=hasAllW_nil h2
 obtain⟨xs,rfl,h3⟩:=hasW_list h1
 obtain⟨ns,rfl⟩:=items_int h3
 have hlen:ns.length<=n:=by
  unfold OpenLaw.pre at hc
  have h4:(WTm.not (.lt (.lit (.int (n:Int))) (.len (.arg 0)))).holds [] { args:=[.list (ns.map .int)] }=true:=by
   have h4:=(holds_andW hc).1
   rw [hn] at h4
   exact h4
  have h5:=condW_of h4 (w_not (w_lt w_lit (w_len_list (w_arg rfl))))
  rw [List.length_map] at h5
  refine Nat.le_of_not_lt fun q=>?_
  have q':(n:Int) < ((ns.length:Nat):Int):=by omega
  first
   | (rw [decide_eq_true q'] at h5; exact absurd h5 (by decide))
   | (simp at h5; omega)
 cases hwl with
 | cons w1 w2 =>
  cases w2
  cases w1 with
  | list ho hall=>exact⟨_,_,ns,rfl,rfl,ho,f4i ns _ hall,hlen⟩
theorem h5z(l:OpenLaw)(args:List WData):l.row.toRowW.claim.post args (.bool true) args=true :=
 postW_of (r:=l.row.toRowW) (X:=(true == true))
  (show WShape.has [] (.bool true) .bool=true by first | rfl | decide | simp [WShape.has,WShape.arms,WShape.armsAll])
  (show (WTm.eq .res (.lit (.bool true))).value [] { args:=args,res:=some (.bool true),after:=args }=some (.bool (true == true)) from w_eq_bool (w_res rfl) w_lit) rfl
section
variable {prog:Program}{w:World}{A:Around}{E:Value->Shared->Prop}{s:Shared}{K:Frag}
end
end Att
namespace L2
open PySem PySem.Spec PyProof.Rows
theorem g4t:∀ {vs:List Value} {ns:List Int},IntsAre vs ns->Vals (ns.map V.int) vs
 | _,_,.nil=>.nil
 | _,_,.cons n t h=>.cons ⟨t,rfl⟩ (g4t h)
def Only(H:Hp):Prop:=∀ b,H b=none\/∃ o xs,H b=some (.frz o (.lst xs))
theorem i0a{P:Program}{w:World}{K:PySem.W.Frag}{mg mb:Str->Option Value}{CX:CXT}{k:Nat}{fa a:Addr}{fd:FuncData}{x:Str}{sp:Sp}{s₁:Shared}{vs:List Value}{ns:List Int}
  (KX:K.In s₁.heap) (hns:s₁.heap.Ns mainGlobals mg) (hb:s₁.heap.Ns builtinsNs mb) (hbb:∀ x:Str,x≠"__name__"->mb x=bootBuiltins x) (hlim:s₁.heap.NoLimit) (hg:s₁.gens = #[])
  (ha:s₁.heap.get? a=some { cls:=.type "list",data:=.seq vs.toArray }) (hi:IntsAre vs ns) (hl:ns.length<=sizeLine) (hr:c7p k callerA)
  (F:∀ base:Heap,K.In base->base.Ns mainGlobals mg->a2m P w K mg base CX k fa fd [x] sp) (hbind:∀ (s:Shared) (u:Value),BindsTo s fd ⟨[u],[]⟩ [(x,u)])
  (hsp:∀ H:Hp,Only H->SqL K H a (ns.map V.int)->sp [.ref a] H (fun v _=>v = .bl true) fun _ _ _=>False)
  (hCX:∀ H e s',CX [] H s₁ (fun _ _ _=>False) e s'->False) :
  codeAny (model P w) callerA (.call (.ref fa) ⟨[.ref a],[]⟩) (fun r s'=>r = .ok (.ret (.bool true))/\OldK s₁.heap s'.heap/\s'.os=s₁.os/\AllBare s'.gens) s₁:=by
 have rv:=g4t hi
 have lenV:=hi.length
 -- from an abstract heap in which nothing but the script may be tracked
 have core:∀ H:Hp,Only H->SqL K H a (ns.map V.int)->HOk P w H s₁.heap->(∀ b,H b≠none->b=a)->(H a≠none->K.lookup a=none) ->
   codeAny (model P w) callerA (.call (.ref fa) ⟨[.ref a],[]⟩) (fun r s'=>r = .ok (.ret (.bool true))/\OldK s₁.heap s'.heap/\s'.os=s₁.os/\AllBare s'.gens) s₁:=by
  intro H hO hS hok hA hK
  have h6a:∀ {b:Addr} {o:Obj},s₁.heap.get? b=some o->H b=none->(h9j s₁.heap H).get? b=some o:=fun e n=>h9k e n
  have noA:∀ {b:Addr} {o:Obj} {es:Array DictEntry} {ep:Nat},s₁.heap.get? b=some o->o.data = .dict es ep->H b=none:=fun {b o es ep} e d=>by
   cases q:H b with
   | none=>rfl
   | some u =>
    have e':b=a:=hA b (by rw [q]; simp)
    subst e'
    rw [ha] at e; cases e
    have d':Data.seq vs.toArray _=Data.dict es ep:=d
    cases d'
  have nsK:∀ {b:Addr} {m:Str->Option Value},s₁.heap.Ns b m->(h9j s₁.heap H).Ns b m:=fun {b m} ⟨o,es,ep,e,d,r⟩=>⟨o,es,ep,h6a e (noA e d),d,r⟩
  have hKb:K.In (h9j s₁.heap H):=fun b o e=>h6a (KX b o e) (by
   cases q:H b with
   | none=>rfl
   | some u =>
    have e':b=a:=hA b (by rw [q]; simp)
    subst e'
    rw [hK (by rw [q]; simp)] at e; cases e)
  have hM:Mod K mg (h9j s₁.heap H):=⟨hKb,nsK hns,⟨mb,nsK hb,hbb⟩,let ⟨mc,h1,h2⟩:=hlim; ⟨mc,nsK h1,h2⟩⟩
  have e0:i2t P w K mg (h9j s₁.heap H) callerA [] s₁ H:=⟨rfl,hM,fun b o e=>i5d e,Nat.le_of_eq (h5f _ _),trivial,fun b hb=>absurd (show b∈([] : List Addr) from hb) (by simp),hok,.of_eq hg⟩
  refine codeAny_mono ((F _ hKb (nsK hns)).run callerA [] s₁ H ⟨[.ref a],[]⟩ [.ref a] [.ref a] _ _ hr e0 (hbind s₁ (.ref a)) (.cons rfl .nil) (hsp H hO hS)) fun r s' h=>?_
  cases r with
  | error e=>exact (hCX H e s' h).elim
  | ok fl =>
   cases fl with
   | next=>exact False.elim h
   | brk=>exact False.elim h
   | cont=>exact False.elim h
   | ret u =>
    obtain⟨v,H',os,bare,un,hok',r',q⟩:=h
    have q':v = .bl true:=q
    subst q'
    obtain rfl:u=Value.bool true:=r'
    refine⟨rfl,OldK.of_keep fun b o e=>?_,os,bare⟩
    cases q:H b with
    | none=>exact un.keep b o e q (by intro z; exact absurd (show b∈([] : List Addr) from z) (by simp)) (by simp)
    | some u =>
     rcases hO b with z | ⟨ob,xs,z⟩
     ·rw [q] at z; cases z
     ·have z2:=un.g0a b ob _ z
      obtain⟨e1,_⟩:=hok b _ z
      obtain⟨e2,_⟩:=hok' b _ z2
      rw [e] at e1; cases e1
      exact e2
 cases hk:K.lookup a with
 | some o =>
  -- the script is one of the module's own objects
  have e:=KX a o hk
  rw [ha] at e
  cases e
  refine core (fun _=>none) (fun _=>.inl rfl) (.inr ⟨_,vs.toArray,_,hk,rfl,rfl,rfl,by rw [List.size_toArray,lenV]; exact hl,by simpa using rv⟩) (fun b u z=>by have z':(none:Option HO)=some u:=z; cases z') (fun b z=>absurd rfl z) fun z=>absurd rfl z
 | none =>
  refine core (fun b=>if b=a then some (.frz { cls:=.type "list",data:=.seq vs.toArray } (.lst (ns.map V.int))) else none) (fun b=>?_) (.inl (.inr ⟨{ cls:=.type "list",data:=.seq vs.toArray },if_pos rfl⟩)) (fun b u z=>?_) (fun b z=>?_) fun _=>hk
  ·by_cases hb:b=a
   ·exact .inr ⟨_,_,if_pos hb⟩
   ·exact .inl (if_neg hb)
  ·by_cases hb:b=a
   ·have z':=(if_pos hb).symm.trans z
    cases z'
    subst hb
    exact⟨ha,by rw [List.length_map]; exact hl,vs,_,rv,ha⟩
   ·have z':=(if_neg hb).symm.trans z
    cases z'
  ·by_cases hb:b=a
   ·exact hb
   ·exact absurd (if_neg hb) z
end L2
namespace L2
open PySem PySem.Spec PyProof.Rows
end L2
/- THE LAST THEOREM (shape; LID,My.* are yours):
  My.Adr: a structure of the addresses that your layer names (classes,functions); My.Txt K t: a structure (Prop) of the equations over K;
  My.txt_mk:{K} {implicit addresses ..} (e1:nsIn K mainGlobals "law"=some (some (.ref f))) (e2:K.lookup f=some ⟨oc,od,.func (fnOf "law" "law" params body scope dV kV doc pm an cdv ct),sl⟩) (e3:codeIn K cdv "law"=true) .. : ∃ t,My.Txt K t
(the tactic k_is has no namespace: write k_is) -/
namespace L2
open PySem PySem.Spec PyProof.Rows
noncomputable def inClass(s:Stmt)(j:Nat):Stmt:=match s with
 | .ClassDef _ _ _ body _ _ _ _ _ _ _=>body.getD j (.Pass ⟨0,0,0,0⟩)
 | _=>.Pass ⟨0,0,0,0⟩
noncomputable def g1t(s:Stmt):Arguments:=match s with
 | .FunctionDef _ a _ _ _ _ _ _ _ _=>a
 | _=>{ posonlyargs:=[],args:=[],vararg:=none,kwonlyargs:=[],kw_defaults:=[],kwarg:=none,defaults:=[] }
noncomputable def d6k(s:Stmt):List Stmt:=match s with
 | .FunctionDef _ _ b _ _ _ _ _ _ _=>b
 | _=>[]
noncomputable def a0r(s:Stmt):Scope:=match s with
 | .FunctionDef _ _ _ _ _ _ sc _ _ _=>sc
 | _=>{ kind:=.function,names:=[],isGenerator:=false,isCoroutine:=false }
noncomputable abbrev CX0:CXT:=fun _ _ _ _ _ _=>False
abbrev E0:XK:=fun _ _ _=>False
theorem a6o{X:Cx}:Passes CX0 X E0:=fun _ _ _ _ _ _ _ h=>h.elim
structure Fun(K:PySem.W.Frag)(x qual:Str)(st:Stmt)(f:Addr)(fd:FuncData):Prop where
 ex:∃ (oc:Value) (od:Option Addr) (kV doc pm:Value) (an:Option Addr) (cdv ct:Value) (osl:Array (Option Value)),
  fd=PySem.W.fnOf x qual (g1t st) (d6k st) (a0r st) .none kV doc pm an cdv ct/\K.lookup f=some ⟨oc,od,.func fd,osl⟩/\PySem.W.codeIn K cdv qual=true
 kp:PySem.W.keepIn K (.ref f)=true
section
variable {P:Program}{w:World}{K:PySem.W.Frag}{mg:Str->Option Value}{base:Heap}
theorem Fun.ok{x qual:Str}{st:Stmt}{f:Addr}{fd:FuncData}{N ps:List Str}{k:Nat}{sp:Sp}(F:Fun K x qual st f fd)(S:a1n N ps (a0r st))(len:∀ vs H Q E,sp vs H Q E->vs.length=ps.length)
  (hbody:∀ (cdv:Value) (A:Around) (outer:List Env) (s:Shared) (H:Hp) (vs:List V) (Q:VK) (E:XK),c7p k (A.deeper (envOfC qual (a0r st) s.heap.objs.size f cdv))->sp vs H Q E ->
   ∃ t,PSs (h2q CX0 P w K mg base N qual (a0r st) f cdv A outer s H E).nox (d6k st) t/\t { nx:=fun _ H'=>Q .non H',rt:=Q } (start N vs) H):a2m P w K mg base CX0 (k+1) f fd ps sp:=by
 obtain⟨oc,od,kV,doc,pm,an,cdv,ct,osl,rfl,lk,hcd⟩:=F.ex
 refine i5n lk hcd S len fun A outer s H vs Q E hr hsp=>?_
 obtain⟨t,h,q⟩:=hbody cdv A outer s H vs Q E hr hsp
 exact⟨t,h.nox,q⟩
theorem Fun.binds{x qual:Str}{st:Stmt}{f:Addr}{fd:FuncData}{ps:List Str}(F:Fun K x qual st f fd)
  (h:∀ (kV doc pm:Value) (an:Option Addr) (cdv ct:Value) (us:List Value),us.length=ps.length->bindArgs (PySem.W.fnOf x qual (g1t st) (d6k st) (a0r st) .none kV doc pm an cdv ct) ⟨us,[]⟩=pure (ps.zip us)):Binds K fd ps []:=by
 obtain⟨oc,od,kV,doc,pm,an,cdv,ct,osl,rfl,lk,hcd⟩:=F.ex
 exact .all (h kV doc pm an cdv ct)
theorem a3u{x qual:Str}{st:Stmt}{f:Addr}{oc:Value}{od an:Option Addr}{osl:Array (Option Value)}{kV doc pm cdv ct:Value}(l:K.lookup f=some ⟨oc,od,.func (PySem.W.fnOf x qual (g1t st) (d6k st) (a0r st) .none kV doc pm an cdv ct),osl⟩)
  (c:PySem.W.codeIn K cdv qual=true) (k:PySem.W.keepIn K (.ref f)=true):Fun K x qual st f (PySem.W.fnOf x qual (g1t st) (d6k st) (a0r st) .none kV doc pm an cdv ct):=⟨⟨oc,od,kV,doc,pm,an,cdv,ct,osl,rfl,l,c⟩,k⟩
end
section
variable {X:Cx}
end
def Same(H H':Hp):Prop:=∀ b o,H b=some o->H' b=some o
theorem Same.refl(H:Hp):Same H H:=fun _ _ h=>h
theorem Same.trans{H H1 H2:Hp}(a:Same H H1)(b:Same H1 H2):Same H H2:=fun c o h=>b c o (a c o h)
theorem Same.free{H H':Hp}(e:Same H H'){l:Addr}(h:H' l=Option.none):H l=Option.none:=by
 cases q:H l with
 | none=>rfl
 | some o =>
  rw [e l o q] at h
  cases h
theorem Same.seq{K:PySem.W.Frag}{H H':Hp}{a:Addr}{xs:List V}(e:Same H H')(h:SqL K H a xs):SqL K H' a xs:=by
 rcases h with (h | ⟨o,h⟩) | h
 ·exact .inl (.inl (e _ _ h))
 ·exact .inl (.inr ⟨o,e _ _ h⟩)
 ·exact .inr h
end L2
namespace L2
open PySem PySem.Spec PyProof.Rows
section
variable {κ:Type}[DecidableEq κ]
noncomputable def f3n(kvs:List (κ×V))(k:κ):Option V:=(kvs.find? fun kv=>decide (kv.1=k)).map (·.2)
noncomputable def putK(kvs:List (κ×V))(k:κ)(v:V):List (κ×V) :=
 if (kvs.any fun kv=>decide (kv.1=k))=true then kvs.map (fun kv=>if kv.1=k then (kv.1,v) else kv) else kvs++[(k,v)]
noncomputable def dropK(kvs:List (κ×V))(k:κ):List (κ×V):=kvs.filter fun kv=>decide (kv.1≠k)
theorem f3o{p:κ×V}{r:List (κ×V)}{k:κ}(e:p.1=k):f3n (p :: r) k=some p.2:=by simp [f3n,List.find?_cons,e]
theorem d7v{p:κ×V}{r:List (κ×V)}{k:κ}(e:¬ p.1=k):f3n (p :: r) k=f3n r k:=by simp [f3n,List.find?_cons,e]
theorem g1u(k:κ):∀ kvs:List (κ×V),(kvs.any fun kv=>decide (kv.1=k))=(f3n kvs k).isSome
 | []=>rfl
 | p :: r=>by
  rw [List.any_cons]
  by_cases e:p.1=k
  ·simp only [f3o e,decide_eq_true e,Bool.true_or,Option.isSome_some]
  ·rw [d7v e,decide_eq_false e,Bool.false_or]; exact g1u k r
theorem d6l(kvs:List (κ×V))(k:κ)(v:V):(putK kvs k v).length<=kvs.length+1:=by
 unfold putK
 split
 ·rw [List.length_map]; omega
 ·rw [List.length_append,List.length_cons,List.length_nil]; omega
theorem i0b{kvs:List (κ×V)}{k:κ}(v:V)(h:f3n kvs k=none):putK kvs k v=kvs++[(k,v)]:=by
 unfold putK
 rw [g1u,h]
 exact if_neg (by decide)
theorem f9z.f4j{o:Option V}{u:Option Value}(r:f9z o u):o.isSome=u.isSome:=by
 cases o with
 | none=>cases u with
  | none=>rfl
  | some _=>exact (show False from r).elim
 | some _=>cases u with
  | none=>exact (show False from r).elim
  | some _=>rfl
theorem f9z.getD{o:Option V}{u:Option Value}{d:V}{d':Value}(r:f9z o u)(rd:RelV d d'):RelV (o.getD d) (u.getD d'):=by
 cases o with
 | none=>cases u with
  | none=>exact rd
  | some _=>exact (show False from r).elim
 | some _=>cases u with
  | none=>exact (show False from r).elim
  | some _=>exact r
theorem KV.val{kvs:List (κ×V)}{vs:List (κ×Value)}(r:KV kvs vs)(k:κ):f9z (f3n kvs k) (valueAt vs k):=by
 unfold KV at r
 induction r with
 | nil=>exact True.intro
 | @cons p q ps qs h t ih =>
  obtain⟨h1,h2⟩:=h
  by_cases e:p.1=k
  ·have e':q.1=k:=h1.symm.trans e
   have b:valueAt (q :: qs) k=some q.2:=by simp [valueAt,List.find?_cons,e']
   rw [f3o e,b]; exact h2
  ·have e':¬ q.1=k:=fun z=>e (h1.trans z)
   have b:valueAt (q :: qs) k=valueAt qs k:=by simp [valueAt,List.find?_cons,e']
   rw [d7v e,b]; exact ih
theorem KV.any{kvs:List (κ×V)}{vs:List (κ×Value)}(r:KV kvs vs)(k:κ):(kvs.any fun kv=>decide (kv.1=k))=vs.any fun kv=>decide (kv.1=k):=by
 unfold KV at r
 induction r with
 | nil=>rfl
 | cons h t ih=>rw [List.any_cons,List.any_cons,ih,h.1]
theorem KV.repl{kvs:List (κ×V)}{vs:List (κ×Value)}(r:KV kvs vs)(k:κ){y:V}{u:Value}(ry:RelV y u) :
  KV (kvs.map fun kv=>if kv.1=k then (kv.1,y) else kv) (vs.map fun kv=>if kv.1=k then (kv.1,u) else kv):=by
 unfold KV at r ⊢
 induction r with
 | nil=>exact .nil
 | @cons p q ps qs h t ih =>
  rw [List.map_cons,List.map_cons]
  refine .cons ?_ ih
  obtain⟨h1,h2⟩:=h
  by_cases e:p.1=k
  ·rw [if_pos e,if_pos (h1.symm.trans e)]; exact⟨h1,ry⟩
  ·rw [if_neg e,if_neg (fun z=>e (h1.trans z))]; exact⟨h1,h2⟩
theorem KV.put{kvs:List (κ×V)}{vs:List (κ×Value)}(r:KV kvs vs)(k:κ){y:V}{u:Value}(ry:RelV y u):KV (putK kvs k y) (stored vs k u):=by
 unfold putK stored
 rw [r.any k]
 by_cases e:(vs.any fun kv=>decide (kv.1=k))=true
 ·rw [if_pos e,if_pos e]; exact r.repl k ry
 ·rw [if_neg e,if_neg e]; exact Paired.snoc r ⟨rfl,ry⟩
theorem KV.length{kvs:List (κ×V)}{vs:List (κ×Value)}(r:KV kvs vs):kvs.length=vs.length:=Paired.length r
end
theorem h6b{P:Program}{w:World}{k:Key}{u:Value}(r:RelV (kV k) u):(b4z P w).is k u=true:=by
 cases k with
 | inl i=>obtain⟨t,e⟩:=(show ∃ t,u=Value.int i t from r); subst e; exact g7p P w i t
 | inr x=>obtain⟨t,e⟩:=(show ∃ t,u=Value.str x t from r); subst e; exact g7q P w x t
theorem g4u{P:Program}{w:World}:∀ {ks:List Key} {us:List Value},Vals (ks.map kV) us->ItemsAre (b4z P w) ks us
 | [],_,r=>by rw [List.map_nil] at r; cases r; exact .nil
 | k :: ks,_,r=>by
  rw [List.map_cons] at r
  cases r with
  | cons h t=>exact .cons (h6b h) (g4u t)
noncomputable abbrev KT(H:Hp):List (List Key×V)->List (List Key×Addr×Value)->Prop:=Paired fun p q=>p.1=q.1/\H q.2.1=some (.tup (p.1.map kV))/\RelV p.2 q.2.2
theorem KT.val{H:Hp}{kvs:List (List Key×V)}{xs:List (List Key×Addr×Value)}(r:KT H kvs xs)(k:List Key):f9z (f3n kvs k) ((atKey xs k).map (·.2)):=by
 induction r with
 | nil=>exact True.intro
 | @cons p q ps qs h t ih =>
  obtain⟨h1,_,h2⟩:=h
  by_cases e:p.1=k
  ·have e':q.1=k:=h1.symm.trans e
   have b:atKey (q :: qs) k=some q.2:=by simp [atKey,List.find?_cons,e']
   rw [f3o e,b]; exact h2
  ·have e':¬ q.1=k:=fun z=>e (h1.trans z)
   have b:atKey (q :: qs) k=atKey qs k:=by simp [atKey,List.find?_cons,e']
   rw [d7v e,b]; exact ih
theorem KT.repl{H:Hp}{kvs:List (List Key×V)}{xs:List (List Key×Addr×Value)}(r:KT H kvs xs)(k:List Key){y:V}{u:Value}(ry:RelV y u) :
  KT H (kvs.map fun kv=>if kv.1=k then (kv.1,y) else kv) (xs.map (putAt k u)):=by
 induction r with
 | nil=>exact .nil
 | @cons p q ps qs h t ih =>
  rw [List.map_cons,List.map_cons]
  refine .cons ?_ ih
  obtain⟨h1,h2,h3⟩:=h
  unfold putAt
  by_cases e:p.1=k
  ·rw [if_pos e,if_pos (h1.symm.trans e)]; exact⟨h1,h2,ry⟩
  ·rw [if_neg e,if_neg (fun z=>e (h1.trans z))]; exact⟨h1,h2,h3⟩
theorem KT.put{H:Hp}{kvs:List (List Key×V)}{xs:List (List Key×Addr×Value)}(r:KT H kvs xs)(k:List Key){b:Addr}{y:V}{u:Value}(hb:H b=some (.tup (k.map kV)))(ry:RelV y u) :
  KT H (putK kvs k y) (storedH xs k b u):=by
 have e:(kvs.any fun kv=>decide (kv.1=k))=(atKey xs k).isSome:=by
  rw [g1u,(r.val k).f4j,Option.isSome_map]
 unfold putK storedH
 rw [e]
 by_cases q:(atKey xs k).isSome=true
 ·rw [if_pos q,if_pos q]; exact r.repl k ry
 ·rw [if_neg q,if_neg q]; exact Paired.snoc r ⟨rfl,hb,ry⟩
theorem KT.keeps{H H':Hp}{kvs:List (List Key×V)}{xs:List (List Key×Addr×Value)}(r:KT H kvs xs)(ht:∀ b ys,H b=some (.tup ys)->H' b=some (.tup ys)):KT H' kvs xs :=
 Paired.j6t r fun _ _ z=>⟨z.1,ht _ _ z.2.1,z.2.2⟩
section
variable {P:Program}{w:World}{H:Hp}{h:Heap}{a:Addr}
theorem j1b{u:HO}(ok:HOk P w H h)(e:Rd H a u):b0p P w H h a u:=e.ok ok
theorem i0c{kvs:List (Key×V)}(ok:HOk P w H h)(e:Rd H a (.dK kvs)):kvs.length<=sizeLine/\(a == sysModules)=false/\∃ vs,KV kvs vs/\h.DictOf (b4z P w) a vs :=
 show b0p P w H h a (.dK kvs) from j1b ok e
theorem j1c{kvs:List (Key×V)}(ok:HOk P w H h)(e:H a=some (.dK kvs)):kvs.length<=sizeLine/\(a == sysModules)=false/\∃ vs,KV kvs vs/\h.DictOf (b4z P w) a vs:=i0c ok (.inl e)
theorem h0u{ks:List Key}(ok:HOk P w H h)(e:H a=some (.tup (ks.map kV))):(tupleKind (b4z P w)).is h ks a:=by
 obtain⟨_,its,r,o,h1,h2,n,h3⟩:=(show b0p P w H h a (.tup (ks.map kV)) from ok a _ e)
 exact⟨o,its.toArray,n,h1,h2,h3,by simpa using g4u r⟩
theorem i0d{kvs:List (List Key×V)}(ok:HOk P w H h)(e:Rd H a (.dT kvs)):kvs.length<=sizeLine/\(a == sysModules)=false /\
  ∃ xs,KT H kvs xs/\h.DictOfH (tupleKind (b4z P w)) a xs:=by
 obtain⟨z,y,xs,r,o,es,ep,h1,h2,h3,h4,h5⟩:=(show b0p P w H h a (.dT kvs) from j1b ok e)
 refine⟨z,y,xs,r,o,es,ep,h1,h2,h3,h4,fun x hx=>?_,h5⟩
 have all:∀ {l:List (List Key×V)} {m:List (List Key×Addr×Value)},KT H l m->∀ x∈m,(tupleKind (b4z P w)).is h x.1 x.2.1:=by
  intro l m q
  induction q with
  | nil=>intro x hx; exact nomatch hx
  | @cons p q ps qs hq t ih =>
   intro x hx
   rcases List.mem_cons.mp hx with e | hx
   ·subst e
    exact h0u ok (by rw [<- hq.1]; exact hq.2.1)
   ·exact ih x hx
 exact all r x hx
theorem j7f{kvs:List (List Key×V)}(ok:HOk P w H h)(e:H a=some (.dT kvs)):kvs.length<=sizeLine/\(a == sysModules)=false /\
  ∃ xs,KT H kvs xs/\h.DictOfH (tupleKind (b4z P w)) a xs:=i0d ok (.inl e)
end
def h6c(H:Hp)(a:Addr)(y:V)(r:Option V):Prop :=
 (∃ kvs k,Rd H a (.dK kvs)/\y=kV k/\r=f3n kvs k)\/∃ kvs k b,Rd H a (.dT kvs)/\y = .ref b/\H b=some (.tup (k.map kV))/\r=f3n kvs k
def i9n(H:Hp)(a:Addr)(y v:V)(H':Hp):Prop :=
 (∃ kvs k,H a=some (.dK kvs)/\y=kV k/\kvs.length < sizeLine/\H'=upd H a (.dK (putK kvs k v))) \/
 ∃ kvs k b,H a=some (.dT kvs)/\y = .ref b/\H b=some (.tup (k.map kV))/\kvs.length < sizeLine/\H'=upd H a (.dT (putK kvs k v))
theorem h6c.k{H:Hp}{a:Addr}{kvs:List (Key×V)}{k:Key}(e:H a=some (.dK kvs)):h6c H a (kV k) (f3n kvs k):=.inl ⟨kvs,k,.inl e,rfl,rfl⟩
theorem h6c.t{H:Hp}{a b:Addr}{kvs:List (List Key×V)}{k:List Key}(e:H a=some (.dT kvs))(eb:H b=some (.tup (k.map kV))):h6c H a (.ref b) (f3n kvs k):=.inr ⟨kvs,k,b,.inl e,rfl,eb,rfl⟩
theorem i9n.k{H:Hp}{a:Addr}{kvs:List (Key×V)}{k:Key}{v:V}(e:H a=some (.dK kvs))(hl:kvs.length < sizeLine):i9n H a (kV k) v (upd H a (.dK (putK kvs k v))):=.inl ⟨kvs,k,e,rfl,hl,rfl⟩
theorem i9n.t{H:Hp}{a b:Addr}{kvs:List (List Key×V)}{k:List Key}{v:V}(e:H a=some (.dT kvs))(eb:H b=some (.tup (k.map kV)))(hl:kvs.length < sizeLine) :
  i9n H a (.ref b) v (upd H a (.dT (putK kvs k v))):=.inr ⟨kvs,k,b,e,rfl,eb,hl,rfl⟩
section
variable {X:Cx}{pins:List (Addr×Obj)}{σ:St}{H:Hp}{s:Shared}{a:Addr}{y v:V}{u r:Value}{o:Option V}{A:Around}{E:Value->Shared->Prop}
theorem Inv.big(I:Inv X pins σ H s):sysModules < s.heap.objs.size:=by
 have h:mainGlobals < s.heap.objs.size:=(I.mod.glob.keeps I.bk).lt
 exact Nat.lt_trans (by decide) h
theorem h6d{Q:Value->Shared->Prop}(hu:A.units+1 < cLine)(I:Inv X pins σ H s)(g:h6c H a y (some v))(ry:RelV y u)(h:∀ w' s',Inv X pins σ H s'->RelV v w'->Q w' s') :
  wpAny (model X.prog X.w) A (getItem (.ref a) u) Q E s:=by
 rcases g with ⟨kvs,k,e,ey,l⟩ | ⟨kvs,k,b,e,ey,eb,l⟩
 ·subst ey
  obtain⟨z,hd,vs,rel,dd⟩:=i0c I.hok e
  obtain⟨w',hw,rw'⟩:=f9z.some_of (v:=v) (o:=valueAt vs k) (by rw [l]; exact rel.val k)
  exact wpAny_getItem_of (h6b ry) dd.mapOf hw (h w' _ (I.tok _) rw')
 ·subst ey
  cases (show u=Value.ref b from ry)
  obtain⟨z,hd,xs,rel,dd⟩:=i0d I.hok e
  obtain⟨w',hw,rw'⟩:=f9z.some_of (v:=v) (o:=(atKey xs k).map (·.2)) (by rw [l]; exact rel.val k)
  obtain⟨p,hp,hp2⟩:=Option.map_eq_some_iff.mp hw
  refine wpAny_getItem_heap (tupleKind_room_in1 hu) (h0u I.hok eb) dd hp ?_
  rw [hp2]
  exact h w' _ (I.tok _) rw'
theorem i5u{Q:Value->Shared->Prop}(hu:A.units+1 < cLine)(I:Inv X pins σ H s)(g:h6c H a y o)(ry:RelV y u)(h:∀ s',Inv X pins σ H s'->Q (.bool (!o.isSome)) s') :
  wpAny (model X.prog X.w) A (compareOp .NotIn u (.ref a)) Q E s:=by
 rcases g with ⟨kvs,k,e,ey,l⟩ | ⟨kvs,k,b,e,ey,eb,l⟩
 ·subst ey
  obtain⟨z,hd,vs,rel,dd⟩:=i0c I.hok e
  refine wpAny_notIn_of (h6b ry) hd dd.mapOf ?_
  rw [<- (rel.val k).f4j,<- l]
  exact h _ (I.tok _)
 ·subst ey
  cases (show u=Value.ref b from ry)
  obtain⟨z,hd,xs,rel,dd⟩:=i0d I.hok e
  refine wpAny_notIn_heap (tupleKind_room_in1 hu) (h0u I.hok eb) hd dd ?_
  have q:=(rel.val k).f4j
  rw [Option.isSome_map] at q
  rw [<- q,<- l]
  exact h _ (I.tok _)
theorem g7u{h':Heap}{t':Nat}{ob:HO}(I:Inv X pins σ H s)(mu:Mut (H a))(hs:Heap.SameBut a s.heap h')(he:∃ q,h'.get? a=some q)(new:b0p X.prog X.w (upd H a ob) h' a ob) :
  Inv X pins σ (upd H a ob) { s with heap:=h',toks:=t' } :=
 I.write (x:=a) (e:=a) mu (.inl rfl) (fun b q hb z=>(hs.2 b hb).trans z) he new
theorem i2x{P:Program}{w:World}{H':Hp}{h':Heap}{kvs:List (Key×V)}{vs:List (Key×Value)}(z:kvs.length<=sizeLine)(hd:(a == sysModules)=false)(rel:KV kvs vs)(dd:h'.DictOf (b4z P w) a vs) :
  b0p P w H' h' a (.dK kvs):=⟨z,hd,vs,rel,dd⟩
theorem h6e{H':Hp}{Q:Unit->Shared->Prop}(hu:A.units+1 < cLine)(I:Inv X pins σ H s)(g:i9n H a y v H')(ry:RelV y u)(rv:RelV v r)(h:∀ s',Inv X pins σ H' s'->Q () s') :
  wpAny (model X.prog X.w) A (setItem (.ref a) u r) Q E s:=by
 rcases g with ⟨kvs,k,e,ey,l,eH⟩ | ⟨kvs,k,b,e,ey,eb,l,eH⟩
 ·subst ey eH
  obtain⟨z,hd,vs,rel,dd⟩:=j1c I.hok e
  have hz:vs.length<=sizeLine:=by rw [<- rel.length]; exact z
  have hl:(putK kvs k v).length<=sizeLine:=by have:=d6l kvs k v; omega
  refine wpAny_setItem_pairs (hsz:=hz) (h6b ry) dd fun h' dd' hs=>h _ ?_
  have he:∃ q,h'.get? a=some q:=let ⟨q,_,_,hq,_⟩:=dd'; ⟨q,hq⟩
  exact g7u I (by rw [e]; exact True.intro) hs he (i2x hl hd (rel.put k rv) dd')
 ·subst ey eH
  cases (show u=Value.ref b from ry)
  obtain⟨z,hd,xs,rel,dd⟩:=j7f I.hok e
  have hz:xs.length<=sizeLine:=by rw [<- Paired.length rel]; exact z
  have hl:(putK kvs k v).length<=sizeLine:=by have:=d6l kvs k v; omega
  refine wpAny_setItem_heap (hsz:=hz) (tupleKind_room_in1 hu) (h0u I.hok eb) dd fun h' dd' hs=>h _ ?_
  obtain⟨q,es,ep,hq,h2,h3,h4,_,h5⟩:=dd'
  refine g7u I (by rw [e]; exact True.intro) hs ⟨q,hq⟩ ⟨hl,hd,_,(rel.put k eb rv).keeps fun c ys ec=>?_,q,es,ep,hq,h2,h3,h4,h5⟩
  rw [a7m (j6s ec e (fun z=>nomatch z))]
  exact ec
end
section
variable {X:Cx}{pins:List (Addr×Obj)}{σ:St}{H:Hp}{s:Shared}{a:Addr}{kvs:List (Key×V)}{k:Key}{u:Value}{A:Around}{E:Value->Shared->Prop}
end
def k0z(i:Expr):Prop:=∀ ov iv,subscripted i false ov iv=operate [ov,iv] (getItem ov iv)
theorem i5v{prog:Program}{w:World}{A:Around}{E:Value->Shared->Prop}{s:Shared}{env:Env}{value slice:Expr}{pos:Pos}{T id:String}{Q:Value->Shared->Prop}
  (hl:typeLookup (.type T) "__getitem__"=pure (some (.builtin id))) (hs:k0z slice)
  (h:wpAny (model prog w) A (eval value env) (fun o s₁=>wpAny (model prog w) A (eval slice env) (fun i s₂=>s₂.TypeIs o T/\wpAny (model prog w) A (getItem o i) Q E s₂) E s₁) E s) :
  wpAny (model prog w) A (eval (.Subscript value slice pos) env) Q E s:=by
 refine Subscript_ (wpAny_mono h (fun o s₁ h₁=>wpAny_mono h₁ (fun i s₂ h₂=>?_) fun _ _ x=>x) fun _ _ x=>x)
 obtain⟨hT,h₂⟩:=h₂
 unfold subscriptTail
 refine wpAny_bind ?_
 rw [getitemInPython_of_ne hT.not_modules]
 refine wpAny_bind (wpAny_specialOf hT hl ?_)
 have fin:wpAny (model prog w) A (subscripted slice false o i) (fun r s₃=>wpAny (model prog w) A (letTemporaryGo value o r >>= fun _=>pure r) Q E s₃) E s₂:=by
  rw [hs o i]
  exact wpAny_operating (wpAny_mono h₂ (fun r s₃ h₃=>wpAny_bind (wpAny_letTemporaryGo (wpAny_pure h₃))) fun _ _ x=>x)
 first
  | exact wpAny_pure (wpAny_bind fin)
  | exact wpAny_bind (wpAny_pure (wpAny_bind fin))
  | exact wpAny_bind fin
theorem g7v{X:Cx}{pins:List (Addr×Obj)}{σ:St}{H:Hp}{s:Shared}{a:Addr}{y:V}{o:Option V}(I:Inv X pins σ H s)(g:h6c H a y o):s.TypeIs (.ref a) "dict":=by
 rcases g with ⟨kvs,k,e,_,_⟩ | ⟨kvs,k,b,e,_,_,_⟩
 ·obtain⟨_,_,vs,_,dd⟩:=i0c I.hok e
  exact dd.typeIs
 ·obtain⟨_,_,xs,_,dd⟩:=i0d I.hok e
  exact dd.typeIs
section
variable {X:Cx}{o i e value:Expr}{pos pos' tpos:Pos}{td ty tv:TE}
end
theorem i0e{P:Program}{w:World}{H:Hp}(h:Heap)(hb:sysModules < h.objs.size):b0p P w H (h.push { cls:=.type "dict",data:=.dict #[] }) h.objs.size (.dK []) :=
 ⟨Nat.zero_le _,beq_eq_false_iff_ne.mpr (Ne.symm (Nat.ne_of_lt hb)),[],.nil,Heap.DictOf.new h⟩
section
variable {X:Cx}{pos:Pos}
end
noncomputable def i2y:List (TE×TE)->St->Hp->(List (V×V)->Hp->Prop)->Prop
 | [],_,H,Q=>Q [] H
 | (tk,tv) :: r,σ,H,Q=>tk σ H fun x H1=>tv σ H1 fun y H2=>i2y r σ H2 fun ps H3=>Q ((x,y) :: ps) H3
noncomputable abbrev VV:List (V×V)->List (Value×Value)->Prop:=Paired fun p q=>RelV p.1 q.1/\RelV p.2 q.2
def PPs(X:Cx)(pos:Pos)(keys:List (Option Expr))(values:List Expr)(trs:List (TE×TE)):Prop :=
 ∀ (pins:List (Addr×Obj)) (s:Shared) (σ:St) (H:Hp) (Q:List (V×V)->Hp->Prop),Inv X pins σ H s->i2y trs σ H Q ->
  wpAny (model X.prog X.w) X.A (evalPairs (pairTrees keys values X.env pos)) (fun vs s'=>∃ ps H',Inv X pins σ H' s'/\VV ps vs/\Q ps H') X.xe s
theorem i5w{X:Cx}{pos:Pos}:PPs X pos [] [] []:=fun pins s σ H Q I h=>pairTrees_nil_walk ⟨[],H,I,.nil,h⟩
theorem i0f{X:Cx}{pos:Pos}{k v:Expr}{ks:List (Option Expr)}{vs:List Expr}{tk tv:TE}{trs:List (TE×TE)}(hk:PE X k tk)(hv:PE X v tv)(hr:PPs X pos ks vs trs) :
  PPs X pos (some k :: ks) (v :: vs) ((tk,tv) :: trs):=fun pins s σ H Q I h =>
 pairTrees_cons_walk (thn (hk pins s σ H _ I h) fun u s1 ⟨x,H1,I1,rx,q1⟩=>thn (hv pins s1 σ H1 _ I1 q1) fun w2 s2 ⟨y,H2,I2,ry,q2⟩ =>
  thn (hr pins s2 σ H2 _ I2 q2) fun ws s3 ⟨ps,H3,I3,rel,q3⟩=>⟨(x,y) :: ps,H3,I3,.cons ⟨rx,ry⟩ rel,q3⟩)
noncomputable def h0v(kvs more:List (Key×V)):List (Key×V):=more.foldl (fun acc kv=>putK acc kv.1 kv.2) kvs
theorem KV.merge:∀ {more:List (Key×V)} {rs:List (Key×Value)} {kvs:List (Key×V)} {vs:List (Key×Value)},KV more rs->KV kvs vs->KV (h0v kvs more) (merged vs rs):=by
 intro more rs kvs vs r
 unfold KV at r
 induction r generalizing kvs vs with
 | nil=>intro q; exact q
 | @cons p q ps qs h t ih =>
  intro r0
  have e:KV (putK kvs p.1 p.2) (stored vs q.1 q.2):=by
   have:=r0.put p.1 h.2
   rw [<- h.1]; exact this
  exact ih e
theorem d7w:∀ (more kvs:List (Key×V)),(h0v kvs more).length<=kvs.length+more.length
 | [],kvs=>by show kvs.length<=kvs.length+0; omega
 | p :: r,kvs=>by
  have h1:=d7w r (putK kvs p.1 p.2)
  have h2:=d6l kvs p.1 p.2
  show (h0v (putK kvs p.1 p.2) r).length<=_
  rw [List.length_cons]; omega
theorem g0d{P:Program}{w:World}:∀ {kvs:List (Key×V)} {ws:List (Value×Value)},VV (kvs.map fun kv=>(kV kv.1,kv.2)) ws->∃ rs,Carries (b4z P w) ws rs/\KV kvs rs
 | [],_,r=>by rw [List.map_nil] at r; cases r; exact⟨[],True.intro,.nil⟩
 | p :: kvs,_,r=>by
  rw [List.map_cons] at r
  cases r with
  | @cons a b as bs h t =>
   obtain⟨rs,c,q⟩:=g0d (P:=P) (w:=w) t
   obtain⟨b1,b2⟩:=b
   exact⟨(p.1,b2) :: rs,⟨h6b h.1,rfl,c⟩,.cons ⟨rfl,h.2⟩ q⟩
structure M1(X:Cx)(o:Expr)(m:Str)(apos:Pos)(e:Expr)(cpos:Pos):Prop where
 base:attributeBase o m X.env (eval o X.env)=eval o X.env
 few:((backTo cpos (starEach [e] X.env)).all (fun x=>!x.1) && (backToKw cpos (keywordEach [] X.env)).all (fun x=>x.1.isSome)
  && decide (([e] : List Expr).length+([] : List Keyword).length+(if ([] : List Keyword).isEmpty then 0 else 1) < 30))=true
 line:(apos.endLine == cpos.line)=true
 trees:backTo cpos (starEach [e] X.env) = [(false,eval e X.env)]
structure M2(X:Cx)(o:Expr)(m:Str)(apos:Pos)(e f:Expr)(cpos:Pos):Prop where
 base:attributeBase o m X.env (eval o X.env)=eval o X.env
 few:((backTo cpos (starEach [e,f] X.env)).all (fun x=>!x.1) && (backToKw cpos (keywordEach [] X.env)).all (fun x=>x.1.isSome)
  && decide (([e,f] : List Expr).length+([] : List Keyword).length+(if ([] : List Keyword).isEmpty then 0 else 1) < 30))=true
 line:(apos.endLine == cpos.line)=true
 trees:backTo cpos (starEach [e,f] X.env) = [(false,eval e X.env),(false,eval f X.env)]
section
variable {X:Cx}{pins:List (Addr×Obj)}{σ:St}{H:Hp}{s:Shared}{a:Addr}{y d:V}{u r:Value}{o:Option V}{A:Around}{E:Value->Shared->Prop}
end
section
variable {X:Cx}{o e f:Expr}{apos cpos:Pos}{td ty tx:TE}
end
section
variable {X:Cx}{pins:List (Addr×Obj)}{σ:St}{H:Hp}{s:Shared}{a:Addr}{kvs:List (Key×V)}{A:Around}{E:Value->Shared->Prop}
end
section
variable {X:Cx}{pins:List (Addr×Obj)}{σ:St}{H:Hp}{s:Shared}{a:Addr}{y:V}{u:Value}{A:Around}{E:Value->Shared->Prop}
end
section
variable {X:Cx}
end
section
variable {κ:Type}[DecidableEq κ]
end
end L2
namespace L2
open PySem PySem.Spec PyProof.Rows
open PySem.Builtin.Int (intBits)
section
variable {X:Cx}{a b c:Expr}{ta tb tc:TE}{pos:Pos}
theorem i5x:OpR X (binaryOp .Mult) (rI IntMulOk fun i j=>.int (i*j)):=opI fun _ _ _ _ _ _ _ hc q=>mul_int q hc
def CFd(i j:Int):Prop:=j≠0/\intBits j<=9000
theorem g7w{j:Int}(h:j≠0)(hb:intBits j<=9000):j.natAbs.log2 < 9000:=by
 have h1:=intBits_le_iff.mp hb
 exact (Nat.log2_lt (by omega)).mpr h1
theorem i0g:OpR X (binaryOp .FloorDiv) (rI CFd fun i j=>.int (i.fdiv j)):=opI fun i j _ _ _ _ _ hc q =>
 floordiv_int hc.1 q (.inl (PyProof.noPylong_of_log2 (g7w hc.1 hc.2)))
inductive Ty where
 | non | bl | int | str | lst | tup | dct
 deriving DecidableEq
noncomputable def Ty.nm:Ty->String
 | .non=>"NoneType" | .bl=>"bool" | .int=>"int" | .str=>"str" | .lst=>"list" | .tup=>"tuple" | .dct=>"dict"
noncomputable def g4v(H:Hp):V->Option Ty
 | .non=>some .non
 | .bl _=>some .bl
 | .int _=>some .int
 | .str _=>some .str
 | .ref a=>match H a with
  | some (.lst _)=>some .lst
  | some (.frz _ (.lst _))=>some .lst
  | some (.tup _)=>some .tup
  | some (.dK _)=>some .dct
  | some (.dT _)=>some .dct
  | _=>none
 | _=>none
noncomputable def i3a(t T:Ty):Bool:=decide (t=T) || (decide (t = .bl) && decide (T = .int))
theorem i5y{K:PySem.W.Frag}{H:Hp}{x:V}{t:Ty}(h:g4v H x=some t):h2n K H x (.type t.nm):=by
 cases x with
 | non=>cases h; exact .non
 | bl b=>cases h; exact .bl b
 | int i=>cases h; exact .int i
 | str s=>cases h; exact .str s
 | byt b=>cases h
 | flt b=>cases h
 | ty n=>cases h
 | ref a =>
  unfold g4v at h
  cases e:H a with
  | none=>simp [e] at h
  | some o =>
   cases o with
   | lst xs=>simp [e] at h; subst h; exact .lst e
   | tup xs=>simp [e] at h; subst h; exact .tup e
   | dK kvs=>simp [e] at h; subst h; exact .dK e
   | dT kvs=>simp [e] at h; subst h; exact .dT e
   | frz ob u =>
    cases u with
    | lst xs=>simp [e] at h; subst h; exact .frz e
    | _=>simp [e] at h
   | _=>simp [e] at h
theorem j1d{K:PySem.W.Frag}(t T:Ty):PySem.W.kitOne K (.type t.nm) (.type T.nm)=some (i3a t T):=by
 cases t <;> cases T <;> rfl
noncomputable def rIsT(T:Ty):List V->Hp->VK->Prop:=fun xs H Q=>match xs with
 | [x,.ty n]=>n=T.nm/\∃ t,g4v H x=some t/\Q (.bl (i3a t T)) H
 | _=>False
theorem b2q(T:Ty):d0i X (.builtin "isinstance") (rIsT T):=by
 intro pins s σ H xs us Q I r h
 match xs,r,h with
 | [x,.ty n],r,h =>
  obtain⟨rfl,t,ht,q⟩:=h
  obtain⟨u,v,rfl,r1,r2⟩:=vals2 r
  cases (show v=Value.type T.nm from r2)
  exact f4g I r1 (i5y ht) (j1d t T) fun tk=>⟨.bl _,H,I.tok tk,rfl,q⟩
mutual
inductive g0e(K:PySem.W.Frag)(H:Hp):V->PyData->Prop
 | non:g0e K H .non .none
 | bl (b:Bool):g0e K H (.bl b) (.bool b)
 | int (i:Int):g0e K H (.int i) (.int i)
 | str (x:Str):g0e K H (.str x) (.str x)
 | lst {a:Addr} {xs:List V} {ds:List PyData}:SqL K H a xs->d1g K H xs ds->g0e K H (.ref a) (.list ds)
 | tup {a:Addr} {xs:List V} {ds:List PyData}:SqT K H a xs->d1g K H xs ds->g0e K H (.ref a) (.tuple ds)
inductive d1g(K:PySem.W.Frag)(H:Hp):List V->List PyData->Prop
 | nil:d1g K H [] []
 | cons {x:V} {xs:List V} {d:PyData} {ds:List PyData}:g0e K H x d->d1g K H xs ds->d1g K H (x :: xs) (d :: ds)
end
section
variable {pins:List (Addr×Obj)}{σ:St}{H:Hp}{s:Shared}
mutual
theorem Inv.reads(I:Inv X pins σ H s):∀ {v:V} {d:PyData} {u:Value},g0e X.K H v d->RelV v u->∃ as,Reads s.heap u d as
 | _,_,_,.non,r=>by cases (show _=Value.none from r); exact⟨_,.none⟩
 | _,_,_,.bl b,r=>by cases (show _=Value.bool b from r); exact⟨_,.bool b⟩
 | _,_,_,.int i,r=>by obtain⟨t,rfl⟩:=r; exact⟨_,.int i t⟩
 | _,_,_,.str x,r=>by obtain⟨t,rfl⟩:=r; exact⟨_,.str x t⟩
 | _,_,_,.lst (a:=a) hs ha,r=>by
  cases (show _=Value.ref a from r)
  obtain⟨its,rv,⟨o,n,e,c,_,dd⟩,_⟩:=I.list hs
  obtain⟨as,q⟩:=Inv.readsAll I ha rv
  exact⟨_,.list e c dd (by simpa using q)⟩
 | _,_,_,.tup (a:=a) hs ha,r=>by
  cases (show _=Value.ref a from r)
  obtain⟨its,rv,⟨o,e,c,n,dd⟩,_⟩:=I.tuple hs
  obtain⟨as,q⟩:=Inv.readsAll I ha rv
  exact⟨_,.tuple e c dd (by simpa using q)⟩
theorem Inv.readsAll(I:Inv X pins σ H s):∀ {vs:List V} {ds:List PyData} {us:List Value},d1g X.K H vs ds->Vals vs us->∃ as,ReadsAll s.heap us ds as
 | _,_,_,.nil,.nil=>⟨_,.nil⟩
 | _,_,_,.cons h t,.cons r q=>by
  obtain⟨as,x⟩:=Inv.reads I h r
  obtain⟨bs,y⟩:=Inv.readsAll I t q
  exact⟨_,.cons x y⟩
end
end
def j6a(K:PySem.W.Frag):R2:=fun x y H Q=>∃ d e,g0e K H x d/\g0e K H y e/\SeqAt.shaped d=true/\SeqAt.shaped e=true/\Q (.bl (PyData.eqv d e)) H
def j6b(K:PySem.W.Frag):R2:=fun x y H Q=>∃ d e,g0e K H x d/\g0e K H y e/\SeqAt.shaped d=true/\SeqAt.shaped e=true/\Q (.bl (!PyData.eqv d e)) H
theorem j1e(hu:X.A.units+64 < cLine):OpR X (compareOp .Eq) (j6a X.K):=by
 intro pins s σ H x y v u Q I rx ry h
 obtain⟨d,e,hd,he,sd,se,q⟩:=h
 obtain⟨as,ra⟩:=I.reads hd rx
 obtain⟨bs,rb⟩:=I.reads he ry
 exact eq_dataH ra rb sd se hu ⟨.bl _,H,I,rfl,q⟩
theorem j1f(hu:X.A.units+64 < cLine):OpR X (compareOp .NotEq) (j6b X.K):=by
 intro pins s σ H x y v u Q I rx ry h
 obtain⟨d,e,hd,he,sd,se,q⟩:=h
 obtain⟨as,ra⟩:=I.reads hd rx
 obtain⟨bs,rb⟩:=I.reads he ry
 exact ne_dataH ra rb sd se hu ⟨.bl _,H,I,rfl,q⟩
end
noncomputable def Itr3(lo c:Int)(n:Nat):It:=⟨fun i _=>i < n,fun i H x H'=>H'=H/\x = .int (lo+i*c),fun i _=>n<=i⟩
noncomputable def rngN(lo hi c:Int):Nat:=(Builtin.Range.rangeSize lo hi c).toNat
section
variable {X:Cx}{tg:Expr}
end
def j6c(J:It)(g:TG)(tb:TS)(D:Ends)(σ:St)(H:Hp):Prop:=∃ W:Nat->Nat->St->Hp->Prop,(∃ m,W 0 m σ H)/\∀ i m σ H,W i m σ H ->
 (J.stop i H/\D.nx σ H)\/(J.go i H/\∃ N:St->Hp->Prop,(∀ σ' H',N σ' H'->∃ m',m' < m/\W (i+1) m' σ' H')/\∀ x H',J.yld i H x H'->g x σ H' fun σ2 H2=>tb { D with nx:=N,ct:=N,bk:=D.nx } σ2 H2)
def j7g(wi:TI)(g:TG)(tb:TS):TS:=fun D σ H=>wi σ H fun J H1=>j6c J g tb D σ H1
theorem b5i{X:Cx}{tg iter:Expr}{body:List Stmt}{wi:TI}{g:TG}{tb:TS}{pos:Pos}(hp:PassesOwn (model X.prog X.w) X.A X.env X.xe)(hc:X.calm=true)(hi:PI X tg iter wi)(hg:PG X tg g)(hb:PSs X body tb)
  (hs:∀ x,foldedSetIterable iter X.env x=pure x:=by intro _; rfl):PS X (.For tg iter body [] pos) (j7g wi g tb):=j0j hp hc hi hg hb hs
theorem c1k{K:PySem.W.Frag}{a:Addr}{xs:List V}{g:TG}{tb:TS}{D:Ends}{σ:St}{H:Hp}(Pv:Nat->St->Hp->Prop)(h0:Pv 0 σ H)(hl:∀ i σ H,i<=xs.length->Pv i σ H->SqL K H a xs)
  (hs:∀ i x σ H,xs[i]? = some x->Pv i σ H->g x σ H fun σ2 H2=>tb { D with nx:=Pv (i+1),ct:=Pv (i+1),bk:=D.nx } σ2 H2) (hd:∀ σ H,Pv xs.length σ H->D.nx σ H):j6c (Itl K a) g tb D σ H:=h9p Pv h0 hl hs hd
theorem d9w{lo:Int}{n:Nat}{g:TG}{tb:TS}{D:Ends}{σ:St}{H:Hp}(Pv:Nat->St->Hp->Prop)(h0:Pv 0 σ H)
  (hs:∀ i σ H,i < n->Pv i σ H->g (.int (lo+i)) σ H fun σ2 H2=>tb { D with nx:=Pv (i+1),ct:=Pv (i+1),bk:=D.nx } σ2 H2) (hd:∀ σ H,Pv n σ H->D.nx σ H):j6c (Itr lo n) g tb D σ H:=h5n Pv h0 hs hd
def i3b(c:TT)(tb:TS)(D:Ends)(σ:St)(H:Hp):Prop:=∃ W:Nat->St->Hp->Prop,(∃ m,W m σ H)/\∀ m σ H,W m σ H ->
 c σ H fun b H1=>if b=true then tb { D with nx:=fun σ' H'=>∃ m',m' < m/\W m' σ' H',ct:=fun σ' H'=>∃ m',m' < m/\W m' σ' H',bk:=D.nx } σ H1 else D.nx σ H1
def i5z(c:TT)(tb:TS):TS:=fun D σ H=>i3b c tb D σ H
theorem g4w{X:Cx}{c:Expr}{body:List Stmt}{tc:TT}{tb:TS}{pos:Pos}(hp:PassesOwn (model X.prog X.w) X.A X.env X.xe)(hc:PT X c tc)(hb:PSs X body tb):PS X (.While c body [] pos) (i5z tc tb):=by
 intro pins s σ H D I h
 obtain⟨W,⟨m0,w0⟩,turn⟩:=h
 refine wpAny_While (codeAny_whileLoop (fun n s'=>∃ σ' H',Inv X pins σ' H' s'/\W n σ' H') ?_ m0 ⟨σ,H,I,w0⟩)
 rintro n s1 ⟨σ1,H1,I1,w1⟩
 refine wpAny_passesOwn hp (thn (hc pins s1 σ1 H1 _ I1 (turn n σ1 H1 w1)) fun b s2 ⟨H2,I2,q2⟩=>?_)
 cases b with
 | true =>
  rw [if_pos rfl]
  refine wpAny_passesOwn hp (thn (hb pins s2 σ1 H2 _ I2 q2) fun f s3 q3=>?_)
  cases f with
  | next =>
   obtain⟨σ3,H3,I3,m',hm,w3⟩:=q3
   exact⟨m',hm,σ3,H3,I3,w3⟩
  | cont =>
   obtain⟨σ3,H3,I3,m',hm,w3⟩:=q3
   exact⟨m',hm,σ3,H3,I3,w3⟩
  | brk=>exact q3
  | ret v=>exact q3
 | false =>
  rw [if_neg Bool.false_ne_true]
  exact wpAny_execs_nil ⟨σ1,H2,I2,q2⟩
theorem g4x{c:TT}{tb:TS}{D:Ends}{σ:St}{H:Hp}(Pv:Nat->St->Hp->Prop)(m0:Nat)(h0:Pv m0 σ H)
  (hs:∀ m σ H,Pv m σ H->c σ H fun b H1=>if b=true then tb { D with nx:=fun σ' H'=>∃ m',m' < m/\Pv m' σ' H',ct:=fun σ' H'=>∃ m',m' < m/\Pv m' σ' H',bk:=D.nx } σ H1 else D.nx σ H1):i3b c tb D σ H :=
 ⟨Pv,⟨m0,h0⟩,hs⟩
end L2
namespace Att
open PySem PySem.W PySem.Calls PyProof.Rows
open PySem.Builtin.Int (intBits)
theorem g7x{ns:List Int}(h:WData.layableAll [WData.list (ns.map WData.int)]=true):∀ n∈ns,intBits n<=1048576:=by
 intro n hn
 have h1:=layableW_arg h _ (List.mem_singleton.mpr rfl)
 have h2:=layableW_item h1 (WData.int n) (List.mem_map.mpr ⟨n,hn,rfl⟩)
 have h3:=(layableW_iff.mp h2).2.2
 exact h3
theorem g4y{l:OpenLaw}{n:Nat}{q:Program}{loose:List Str}{XP:(Str->Option Value)->Heap->Prop}{YP:World->Heap->Prop}{d:DefRec}
  (hn:l.most=some n) (hdf:d.params.defaults = [])
  (call:∀ (w:World) (s₀ s₁:Shared) (mg mb:Str->Option Value) (fa:Addr) (o:Obj) (pm cd doc:Value) (a:Addr) (vs:List Value) (ns:List Int),
   Ground q loose [] XP w s₀ mg mb s₁.heap->YP w s₁.heap ->
   s₁.heap.get? fa=some o->o.data = .func (docDef d.name d.params d.body d.scope pm cd doc)->s₁.heap.CodeRec cd d.name->mg d.name=some (.ref fa) ->
   s₁.heap.get? a=some { cls:=.type "list",data:=.seq vs.toArray }->IntsAre vs ns->ns.length<=n->(∀ x∈ns,intBits x<=1048576)->s₁.gens = #[] ->
   codeAny (model l.prog w) callerA (.call (.ref fa) ⟨[.ref a],[]⟩) (fun r s'=>r = .ok (.ret (.bool true))/\OldK s₁.heap s'.heap/\s'.os=s₁.os/\AllBare s'.gens) s₁) :
  WalkO q loose XP YP l.row.toRowW d [] (fun f vs=>PySem.call f vs):=by
 intro w s₀ s₁ mg mb G Y fa o pm cd doc dV kV ho hd hcd hD hmg hg args vals as hpre hlay hrd hwl hlo
 obtain rfl:dV = .none:=Dflts.none hD hdf
 obtain rfl:kV = .none:=Dflts.noKw hD
 obtain⟨a,vs,ns,rfl,rfl,hobj,hints,hlen⟩:=h5y hn hpre hwl
 refine enter_call (codeAny_mono (call w s₀ s₁ mg mb fa o pm cd doc a vs ns G Y ho (fd_plain hd) hcd hmg hobj hints hlen (g7x hlay) hg) fun r s' hq=>?_)
 obtain⟨rfl,h2,h3,h4⟩:=hq
 exact⟨.inl ⟨.bool true,.bool true,[],rfl,fun _=>rfl,.bool true,h5z l _,fun _=>⟨List.Pairwise.nil,fun _ hm=>(nomatch hm)⟩⟩,h2,h3,h4⟩
end Att
namespace L2
open PySem PySem.Spec PyProof.Rows
open PySem.Builtin.Int (intBits)
def g7y(n:Nat)(K:PySem.W.Frag):Sp:=fun vs H Q _=>∃ (a:Addr) (ns:List Int),vs = [.ref a]/\SqL K H a (ns.map V.int)/\ns.length<=n/\(∀ x∈ns,intBits x<=1048576)/\Only H/\∀ H',Q (.bl true) H'
theorem i0h{l:PySem.W.OpenLaw}{k:Nat}{q:Program}{loose:List Str}{XP:(Str->Option Value)->Heap->Prop}{YP:World->Heap->Prop}{d:DefRec}{K:Params->PySem.W.Frag}{CX:World->CXT}{x:Str}
  (hn:l.most=some 63) (hdf:d.params.defaults = []) (hr:c7p k callerA)
  (hY:∀ (w:World) (h:Heap),YP w h->(K w.params).In h)
  (F:∀ (w:World) (mg:Str->Option Value) (fa:Addr) (h:Heap),(K w.params).In h->h.Ns mainGlobals mg->mg d.name=some (.ref fa) ->
   ∃ fd:FuncData,(∀ (s:Shared) (u:Value),BindsTo s fd ⟨[u],[]⟩ [(x,u)]) /\
    ∀ base:Heap,(K w.params).In base->base.Ns mainGlobals mg->a2m l.prog w (K w.params) mg base (CX w) k fa fd [x] (g7y 63 (K w.params)))
  (hCX:∀ (w:World) (H:Hp) (s:Shared) (e:Value) (s':Shared),CX w [] H s (fun _ _ _=>False) e s'->False) :
  PySem.W.WalkO q loose XP YP l.row.toRowW d [] (fun f vs=>PySem.call f vs):=by
 refine Att.g4y hn hdf fun w s₀ s₁ mg mb fa o pm cd doc a vs ns G Y ho hd hcd hmg hobj hints hlen hbits hg=>?_
 have KX:=hY w _ Y
 obtain⟨fd,hb,hF⟩:=F w mg fa _ KX G.T.g hmg
 exact i0a KX G.T.g G.T.b G.T.builtins G.T.nolimit hg hobj hints (Nat.le_trans hlen (by decide)) hr hF hb (fun H hO hS=>⟨a,ns,rfl,hS,hlen,hbits,hO,fun _=>rfl⟩) fun H e s'=>hCX w H s₁ e s'
end L2
namespace L2
open PySem PySem.Spec PyProof.Rows
theorem Same.upd{H:Hp}{p:Addr}{o:HO}(h:H p=none):Same H (upd H p o):=fun b u e=>by
 rw [a7m (a9y e h)]; exact e
structure Tag{α:Type}(a:α):Type where
def New(H:Hp)(o:HO)(Q:VK)(_:Tag Q):Prop:=∀ p H1,H p=none->Same H H1->H1 p=some o->Q (.ref p) H1
def All(C:V->Hp->Prop)(Q:VK)(_:Tag C)(_:Tag Q):Prop:=∀ v H1,C v H1->Q v H1
theorem New.raw{H:Hp}{o:HO}{Q:VK}{t:Tag Q}(h:New H o Q t):∀ p,H p=none->Q (.ref p) (L2.upd H p o):=fun p e=>h p _ e (Same.upd e) a6m
theorem k1a{CX:CXT}{P:Program}{w:World}{K:PySem.W.Frag}{mg:Str->Option Value}{base:Heap}{N:List Str}{qual:Str}{scope:Scope}{f:Addr}{cd:Value}{A:Around}{outer:List Env}{s:Shared}{H:Hp}{E:XK}:(h2q CX P w K mg base N qual scope f cd A outer s H E).K=K:=rfl
section
variable {X:Cx}{es:List Expr}{t:TA}{pos:Pos}
def j7h(t:TA):TE:=fun σ H Q=>t σ H fun xs H1=>xs.length<=sizeLine/\New H1 (.tup xs) Q ⟨⟩
def j1g(t:TA):TE:=fun σ H Q=>t σ H fun xs H1=>xs.length<=sizeLine/\New H1 (.lst xs) Q ⟨⟩
end
section
variable {X:Cx}{a b c:Expr}{ta tb tc:TE}{pos:Pos}
def h2t:R2:=fun x y H Q=>match x,y with
 | .int i,.int j=>Q (.int (i+j)) H
 | .str u,.str v=>u.length+v.length<=sizeLine/\Q (.str (u++v)) H
 | .ref l,.ref b=>∃ xs zs,H l=some (.lst xs)/\H b=some (.lst zs)/\xs.length+zs.length<=sizeLine/\New H (.lst (xs++zs)) Q ⟨⟩
 | _,_=>False
theorem a0s:OpR X (binaryOp .Add) h2t:=by
 intro pins s σ H x y v u Q I rx ry h
 cases x <;> cases y <;> first
  | exact False.elim h
  | exact j0l pins s σ H _ _ v u Q I rx ry ⟨_,_,rfl,rfl,h⟩
  | exact h2j pins s σ H _ _ v u Q I rx ry ⟨_,_,rfl,rfl,h.1,h.2⟩
  | (obtain ⟨xs, zs, h1, h2, h3, h4⟩ := h
     exact j0z pins s σ H _ _ v u Q I rx ry ⟨_,_,_,_,rfl,rfl,h1,h2,h3,h4.raw⟩)
def j7i:R2:=fun x y H Q=>match x,y with
 | .int i,.int j=>IntMulOk i j/\Q (.int (i*j)) H
 | .ref l,.int k=>∃ xs,H l=some (.lst xs) /\ -(2 ^ 63)<=k/\k < 2 ^ 63/\xs.length*k.toNat<=sizeLine/\New H (.lst (List.replicate k.toNat xs).flatten) Q ⟨⟩
 | _,_=>False
theorem g7z:OpR X (binaryOp .Mult) j7i:=by
 intro pins s σ H x y v u Q I rx ry h
 cases x <;> cases y <;> first
  | exact False.elim h
  | exact i5x pins s σ H _ _ v u Q I rx ry ⟨_,_,rfl,rfl,h.1,h.2⟩
  | (obtain ⟨xs, h1, h2, h3, h4, h5⟩ := h
     exact j1a pins s σ H _ _ v u Q I rx ry ⟨_,_,_,rfl,rfl,h1,h2,h3,h4,h5.raw⟩)
def k1b(K:PySem.W.Frag):R2:=fun x y H Q=>if h5o x y=true then Q (.bl (decide (x=y))) H else j6a K x y H Q
def k1c(K:PySem.W.Frag):R2:=fun x y H Q=>if h5o x y=true then Q (.bl (!decide (x=y))) H else j6b K x y H Q
theorem b0m(hu:X.A.units+64 < cLine):OpR X (compareOp .Eq) (k1b X.K):=by
 intro pins s σ H x y v u Q I rx ry h
 unfold k1b at h
 by_cases hs:h5o x y=true
 ·rw [if_pos hs] at h
  exact j6y pins s σ H x y v u Q I rx ry ⟨hs,h⟩
 ·rw [if_neg hs] at h
  exact j1e hu pins s σ H x y v u Q I rx ry h
theorem c1l(hu:X.A.units+64 < cLine):OpR X (compareOp .NotEq) (k1c X.K):=by
 intro pins s σ H x y v u Q I rx ry h
 unfold k1c at h
 by_cases hs:h5o x y=true
 ·rw [if_pos hs] at h
  exact j6z pins s σ H x y v u Q I rx ry ⟨hs,h⟩
 ·rw [if_neg hs] at h
  exact j1f hu pins s σ H x y v u Q I rx ry h
def rIxM:R2:=fun x y H Q=>match x,y with
 | .ref p,.int i=>(match H p with
  | some (.tup xs)=>∃ v,atI xs i=some v/\Q v H
  | some (.lst xs)=>∃ v,atI xs i=some v/\Q v H
  | _=>False)
 | .str z,.int i=>∃ c,z.length<=sizeLine/\atI z.cps.toList i=some c/\Q (.str ⟨#[c]⟩) H
 | _,_=>False
theorem a8m:IxR X rIxM:=by
 intro value slice pins s σ H x y v u Q I rx ry h hs
 cases x with
 | ref p =>
  cases y with
  | int i =>
   have h':(match H p with
    | some (.tup xs)=>∃ v,atI xs i=some v/\Q v H
    | some (.lst xs)=>∃ v,atI xs i=some v/\Q v H
    | _=>False):=h
   split at h'
   ·rename_i xs e
    obtain⟨z,h2,h3⟩:=h'
    exact j0u value slice pins s σ H _ _ v u Q I rx ry ⟨_,xs,_,z,rfl,rfl,SqT.of e,h2,h3⟩ hs
   ·rename_i xs e
    obtain⟨z,h2,h3⟩:=h'
    exact i5t value slice pins s σ H _ _ v u Q I rx ry ⟨_,xs,_,z,rfl,rfl,SqL.of e,h2,h3⟩ hs
   ·exact h'.elim
  | _=>exact False.elim h
 | str z =>
  cases y with
  | int i =>
   obtain⟨c,h1,h2,h3⟩:=h
   exact j0v value slice pins s σ H _ _ v u Q I rx ry ⟨_,_,c,rfl,rfl,h1,h2,h3⟩ hs
  | _=>exact False.elim h
 | _=>exact False.elim h
noncomputable def rSlM:V->Option Int->Option Int->Hp->VK->Prop:=fun x lo hi H Q=>match x with
 | .ref a=>(match H a with
  | some (.lst xs)=>New H (.lst (g4e xs lo hi)) Q ⟨⟩
  | _=>False)
 | _=>False
theorem sl_M:SlR X rSlM:=by
 intro pins s σ H x v vl vu lo hi sl Q I rx hs pl pu h
 cases x with
 | ref a =>
  have h':(match H a with
   | some (.lst xs)=>New H (.lst (g4e xs lo hi)) Q ⟨⟩
   | _=>False):=h
  split at h'
  ·rename_i xs e
   exact h5w pins s σ H _ v vl vu lo hi sl Q I rx hs pl pu ⟨_,xs,rfl,SqL.of e,h'.raw⟩
  ·exact h'.elim
 | _=>exact False.elim h
noncomputable def rSlK(K:PySem.W.Frag):V->Option Int->Option Int->Hp->VK->Prop:=fun x lo hi H Q=>∃ a xs,x = .ref a/\SqL K H a xs/\New H (.lst (g4e xs lo hi)) Q ⟨⟩
theorem sl_K:SlR X (rSlK X.K):=by
 intro pins s σ H x v vl vu lo hi sl Q I rx hs pl pu h
 obtain⟨a,xs,e,h1,h2⟩:=h
 exact h5w pins s σ H _ v vl vu lo hi sl Q I rx hs pl pu ⟨a,xs,e,h1,h2.raw⟩
noncomputable def j7j:List V->Hp->VK->Prop:=fun xs H Q=>match xs with
 | [.ref p]=>(match H p with
  | some (.lst ys)=>Q (.int ys.length) H
  | some (.tup ys)=>Q (.int ys.length) H
  | _=>False)
 | [.str z]=>z.length<=sizeLine/\Q (.int z.length) H
 | _=>False
theorem a3y:d0i X (.builtin "len") j7j:=by
 intro pins s σ H xs us Q I r h
 match xs,r,h with
 | [.ref p],r,h =>
  have h':(match H p with
   | some (.lst ys)=>Q (.int ys.length) H
   | some (.tup ys)=>Q (.int ys.length) H
   | _=>False):=h
  split at h'
  ·rename_i ys e
   exact f1v pins s σ H _ us Q I r ⟨p,ys,rfl,.inl (SqL.of e),h'⟩
  ·rename_i ys e
   exact f1v pins s σ H _ us Q I r ⟨p,ys,rfl,.inr (SqT.of e),h'⟩
  ·exact h'.elim
 | [.str z],r,h=>exact g4q pins s σ H _ us Q I r ⟨z,rfl,h.1,h.2⟩
theorem j7k{i j:Int}:h5o (.int i) (.int j)=true:=rfl
theorem j7l{i j:Str}:h5o (.str i) (.str j)=true:=rfl
theorem j7m{i j:Bool}:h5o (.bl i) (.bl j)=true:=rfl
theorem j7n:h5o .non .non=true:=rfl
theorem j7o{i j:Addr}:h5o (.ref i) (.ref j)=false:=rfl
theorem k1d{H:Hp}{i:Int}:g4v H (.int i)=some .int:=rfl
theorem k1e{H:Hp}{i:Str}:g4v H (.str i)=some .str:=rfl
theorem k1f{H:Hp}{i:Bool}:g4v H (.bl i)=some .bl:=rfl
theorem k1g{H:Hp}:g4v H .non=some .non:=rfl
theorem h6f{H:Hp}{a:Addr}:g4v H (.ref a)=(match H a with
  | some (.lst _)=>some .lst
  | some (.frz _ (.lst _))=>some .lst
  | some (.tup _)=>some .tup
  | some (.dK _)=>some .dct
  | some (.dT _)=>some .dct
  | _=>none):=rfl
theorem two_line:2<=sizeLine:=by decide
theorem i3c{α:Type}{x:α}{xs:List α}:atI (x :: xs) 0=some x:=c8o (j:=0) rfl
theorem j1h{α:Type}{x y:α}{xs:List α}:atI (x :: y :: xs) 1=some y:=c8o (j:=1) rfl
theorem j1i{α:Type}{x y z:α}{xs:List α}:atI (x :: y :: z :: xs) 2=some z:=c8o (j:=2) rfl
theorem j1j{α:Type}{x y z u:α}{xs:List α}:atI (x :: y :: z :: u :: xs) 3=some u:=c8o (j:=3) rfl
theorem i3d{p q A B:Prop}[Decidable p][Decidable q] : (if p then (if q then A else B) else B)=(if p/\q then A else B):=by
 by_cases hp:p <;> by_cases hq:q <;> simp [hp,hq]
theorem i6a{p q A B:Prop}[Decidable p][Decidable q] : (if p then A else (if q then A else B))=(if p\/q then A else B):=by
 by_cases hp:p <;> by_cases hq:q <;> simp [hp,hq]
end
section
variable {X:Cx}{es:List Expr}{t:TA}{pos:Pos}
theorem b5j{x1}(h:PA X es t):PE X (.Tuple es x1 pos) (j7h t):=by
 intro pins s σ H Q I hq
 refine wpAny_Tuple_spliced (thn (h pos pins s σ H _ I hq) fun us s1 ⟨xs,H1,I1,r,z,q⟩=>⟨by rw [<- r.length]; exact z,?_⟩)
 have hf:H1 s1.heap.objs.size=none:=I1.hok.fresh (Nat.le_refl _)
 refine⟨.ref s1.heap.objs.size,upd H1 s1.heap.objs.size (.tup xs),I1.laid (t':=s1.toks) (fun b u e=>Heap.get?_push_of_some _ e) (Nat.le_refl _) ?_,rfl,q.raw _ hf⟩
 exact⟨z,us,r,⟨_,Heap.get?_push_size _ rfl,rfl,_,rfl⟩⟩
theorem a3v(h:PA X es t):PE X (.List es pos) (j1g t):=by
 intro pins s σ H Q I hq
 refine wpAny_List_spliced (thn (h pos pins s σ H _ I hq) fun us s1 ⟨xs,H1,I1,r,z,q⟩=>⟨by rw [<- r.length]; exact z,?_⟩)
 have hf:H1 s1.heap.objs.size=none:=I1.hok.fresh (Nat.le_refl _)
 refine⟨.ref s1.heap.objs.size,upd H1 s1.heap.objs.size (.lst xs),I1.laid (t':=s1.toks) (fun b u e=>Heap.get?_push_of_some _ e) (Nat.le_refl _) ?_,rfl,q.raw _ hf⟩
 exact⟨z,us,0,r,Heap.get?_push_size _ rfl⟩
theorem h2u:d0i X (.type "list") (fun xs H Q=>∃ p ys,xs = [.ref p]/\(SqL X.K H p ys\/SqT X.K H p ys)/\New H (.lst ys) Q ⟨⟩):=by
 intro pins s σ H xs us Q I r h
 obtain⟨p,ys,e,h1,h2⟩:=h
 exact g4r pins s σ H xs us Q I r ⟨p,ys,e,h1,h2.raw⟩
end
theorem Same.tup{K:PySem.W.Frag}{H H':Hp}{a:Addr}{xs:List V}(e:Same H H')(h:SqT K H a xs):SqT K H' a xs:=by
 rcases h with (h | ⟨o,h⟩) | h
 ·exact .inl (.inl (e _ _ h))
 ·exact .inl (.inr ⟨o,e _ _ h⟩)
 ·exact .inr h
end L2
namespace L2
open PySem PySem.Spec PyProof.Rows
open PySem.Builtin.Int (intBits)
section
variable {X:Cx}{e a b c:Expr}{es rest:List Expr}{pos:Pos}{tg iter:Expr}
theorem PE.weak{t u:TE}(h:PE X e t)(q:∀ σ H Q,u σ H Q->t σ H Q):PE X e u:=fun pins s σ H Q I hu=>h pins s σ H Q I (q σ H Q hu)
theorem PI.weak{t u:TI}(h:PI X tg iter t)(q:∀ σ H Q,u σ H Q->t σ H Q):PI X tg iter u:=fun pins s σ H Q I hu=>h pins s σ H Q I (q σ H Q hu)
theorem OpR.weak{f:Value->Value->Sem Value}{r r':R2}(h:OpR X f r)(q:∀ x y H Q,r' x y H Q->r x y H Q):OpR X f r':=fun pins s σ H x y v u Q I rx ry hr=>h pins s σ H x y v u Q I rx ry (q x y H Q hr)
theorem UnR.weak{f:Value->Sem Value}{r r':V->Hp->VK->Prop}(h:UnR X f r)(q:∀ x H Q,r' x H Q->r x H Q):UnR X f r':=fun pins s σ H x v Q I rx hr=>h pins s σ H x v Q I rx (q x H Q hr)
theorem d0i.weak{f:Value}{r r':List V->Hp->VK->Prop}(h:d0i X f r)(q:∀ xs H Q,r' xs H Q->r xs H Q):d0i X f r':=fun pins s σ H xs us Q I rx hr=>h pins s σ H xs us Q I rx (q xs H Q hr)
def d7y(i:Nat):TE:=fun σ H Q=>match σ[i]? with
 | some (some v)=>Q v H
 | _=>False
theorem pvF(i:Nat){x:Str}{pos:Pos}(hN:X.N[i]? = some x:=by rfl)(hv:Vis X.env.scope x:=by first | exact Or.inl rfl | exact Or.inr (Or.inl rfl) | exact Or.inr (Or.inr rfl))(hd:(x == ("__debug__":Str))=false:=by decide)
  (hcd:(x == ("__classdict__":Str))=false:=by decide):PE X (.Name x pos) (d7y i):=(i9z hN hv hd hcd).weak fun σ H Q h=>by
 unfold d7y at h
 split at h
 ·rename_i v e
  exact⟨v,e,h⟩
 ·exact h.elim
def rIF(C:Int->Int->Prop)(g:Int->Int->V):R2:=fun x y H Q=>match x,y with
 | .int i,.int j=>C i j/\Q (g i j) H
 | _,_=>False
def i9o(g:Int->Int->V):R2:=fun x y H Q=>match x,y with
 | .int i,.int j=>Q (g i j) H
 | _,_=>False
theorem h6g{C:Int->Int->Prop}{g:Int->Int->V}:∀ x y H Q,rIF C g x y H Q->rI C g x y H Q:=fun x y H Q h=>by
 cases x <;> cases y <;> first | exact False.elim h | exact⟨_,_,rfl,rfl,h⟩
theorem f4k{g:Int->Int->V}:∀ x y H Q,i9o g x y H Q->rI0 g x y H Q:=fun x y H Q h=>by
 cases x <;> cases y <;> first | exact False.elim h | exact⟨_,_,rfl,rfl,h⟩
theorem i3e:OpR X (binaryOp .Sub) (i9o fun i j=>.int (i - j)):=j0m.weak f4k
theorem c8p:OpR X (binaryOp .FloorDiv) (rIF CFd fun i j=>.int (i.fdiv j)):=i0g.weak h6g
theorem d3h:OpR X (binaryOp .Mod) (rIF (fun _ j=>j≠0) fun i j=>.int (i.fmod j)):=i5j.weak h6g
theorem h6h:OpR X (binaryOp .Pow) (rIF k0v fun i j=>.int (i ^ j.toNat)):=j0n.weak h6g
theorem of_lt:OpR X (compareOp .Lt) (i9o fun i j=>.bl (decide (i < j))):=j7a.weak f4k
theorem of_le:OpR X (compareOp .LtE) (i9o fun i j=>.bl (decide (i<=j))):=j7b.weak f4k
theorem d5p:OpR X (compareOp .Gt) (i9o fun i j=>.bl (decide (j < i))):=j7c.weak f4k
theorem j7p:OpR X (compareOp .GtE) (i9o fun i j=>.bl (decide (j<=i))):=j7d.weak f4k
noncomputable def rUF(g:Int->V):V->Hp->VK->Prop:=fun x H Q=>match x with
 | .int i=>Q (g i) H
 | _=>False
theorem i3f:UnR X (unaryOp .USub) (rUF fun i=>.int (-i)):=j0o.weak fun x H Q h=>by
 cases x <;> first | exact False.elim h | exact⟨_,rfl,h⟩
def tBF(t:TE):TT:=fun σ H Q=>t σ H fun x H1=>match x with
 | .bl k=>Q k H1
 | _=>False
theorem j7q{x:V}{H1:Hp}{Q:Bool->Hp->Prop}(h:match x with | .bl k=>Q k H1 | _=>False):∃ k,x = .bl k/\Q k H1:=by
 cases x <;> first | exact False.elim h | exact⟨_,rfl,h⟩
theorem a0t{op:CmpOp}{r:R2}{ta tb:TE}(ho:OpR X (compareOp op) r)(ha:PE X a ta)(hb:PE X b tb)(hm:behindInMarks op b=false):PT X (.Compare a [op] [b] pos) (tBF (tOp r ta tb)):=by
 intro pins s σ H Q I h
 refine (i5k (ho.weak (r':=fun x y H Q=>r x y H Q) fun _ _ _ _ z=>z) ha hb hm) pins s σ H _ I ?_
 unfold j0q
 exact h |> fun h=>by
  unfold tBF at h
  have e:(fun (x:V) (H1:Hp)=>match x with | .bl k=>Q k H1 | _=>False)=fun x H1=>∃ k,x=V.bl k/\Q k H1:=by
   funext x H1
   cases x <;> simp
  rw [e] at h
  exact h
theorem a3z{t:TE}(h:PE X e t)(he:∀ whole,isTrue e X.env whole=(do let v <- whole; standAt e.pos; holding [v] (truthy v)):=by intro _; rfl):PT X e (tBF t):=by
 intro pins s σ H Q I hw
 refine (j0b h he) pins s σ H _ I ?_
 unfold tB
 unfold tBF at hw
 have e:(fun (x:V) (H1:Hp)=>match x with | .bl k=>Q k H1 | _=>False)=fun x H1=>∃ k,x=V.bl k/\Q k H1:=by
  funext x H1
  cases x <;> simp
 rw [e] at hw
 exact hw
def j1k(ta tb:TE):TE:=fun σ H Q=>ta σ H fun x H1=>match x with
 | .bl c=>if c=true then tb σ H1 Q else Q (.bl false) H1
 | _=>False
def k1h(ta tb:TE):TE:=fun σ H Q=>ta σ H fun x H1=>match x with
 | .bl c=>if c=true then Q (.bl true) H1 else tb σ H1 Q
 | _=>False
def j1l(ta:TE):TE:=fun σ H Q=>ta σ H fun x H1=>match x with
 | .bl c=>Q (.bl (!c)) H1
 | _=>False
theorem f4l{ta tb:TE}(ha:PE X a ta)(hb:PE X (.BoolOp .And (b :: rest) pos) tb):PE X (.BoolOp .And (a :: b :: rest) pos) (j1k ta tb):=by
 intro pins s σ H Q I h
 refine (j0e ha hb) pins s σ H Q I ?_
 unfold j0c
 unfold j1k at h
 have e:(fun (x:V) (H1:Hp)=>match x with | .bl c=>(if c=true then tb σ H1 Q else Q (.bl false) H1) | _=>False)=fun x H1=>∃ c,x=V.bl c/\if c=true then tb σ H1 Q else Q (.bl false) H1:=by
  funext x H1
  cases x <;> simp
 rw [e] at h
 exact h
theorem j1m{ta tb:TE}(ha:PE X a ta)(hb:PE X (.BoolOp .Or (b :: rest) pos) tb):PE X (.BoolOp .Or (a :: b :: rest) pos) (k1h ta tb):=by
 intro pins s σ H Q I h
 refine (j6u ha hb) pins s σ H Q I ?_
 unfold k0s
 unfold k1h at h
 have e:(fun (x:V) (H1:Hp)=>match x with | .bl c=>(if c=true then Q (.bl true) H1 else tb σ H1 Q) | _=>False)=fun x H1=>∃ c,x=V.bl c/\if c=true then Q (.bl true) H1 else tb σ H1 Q:=by
  funext x H1
  cases x <;> simp
 rw [e] at h
 exact h
theorem h6i{ta:TE}(ha:PE X a ta):PE X (.UnaryOp .Not a pos) (j1l ta):=by
 intro pins s σ H Q I h
 refine (j0f ha) pins s σ H Q I ?_
 unfold j0d
 unfold j1l at h
 have e:(fun (x:V) (H1:Hp)=>match x with | .bl c=>Q (.bl (!c)) H1 | _=>False)=fun x H1=>∃ c,x=V.bl c/\Q (.bl (!c)) H1:=by
  funext x H1
  cases x <;> simp
 rw [e] at h
 exact h
def i3g(ta:TA):TI:=fun σ H R=>ta σ H fun vs H1=>match vs with
 | [.int j] => -(2 ^ 62)<=j/\j < 2 ^ 62/\R (Itr 0 j.toNat) H1
 | _=>False
def k1i(ta:TA):TI:=fun σ H R=>ta σ H fun vs H1=>match vs with
 | [.int i,.int j]=>(-(2 ^ 62)<=i/\i < 2 ^ 62 /\ -(2 ^ 62)<=j/\j < 2 ^ 62)/\R (Itr i (j - i).toNat) H1
 | _=>False
def k1j(ta:TA):TI:=fun σ H R=>ta σ H fun vs H1=>match vs with
 | [.int i,.int j,.int c]=>(0<=i/\i < 2 ^ 32/\0<=j/\j < 2 ^ 32/\0 < c/\c < 2 ^ 30)/\R (Itr3 i c (rngN i j c)) H1
 | _=>False
theorem d4w{ta:TA}{p pos:Pos}(hg:Gl X "range")(hm:X.mg "range"=none)(ha:PA X [a] ta)(hs:starEach [a] X.env = [(false,eval a X.env)]:=by rfl):PI X tg (.Call (.Name "range" p) [a] [] pos) (i3g ta):=by
 refine (h5l hg hm ha hs).weak fun σ H R h=>?_
 unfold j0i
 unfold i3g at h
 have e:(fun (vs:List V) (H1:Hp)=>(match vs with | [.int j] => -(2 ^ 62)<=j/\j < 2 ^ 62/\R (Itr 0 j.toNat) H1 | _=>False:Prop))=fun vs H1=>∃ j:Int,vs = [.int j] /\ -(2 ^ 62)<=j/\j < 2 ^ 62/\R (Itr 0 j.toNat) H1:=by
  funext vs H1
  refine propext ⟨fun z=>?_,fun⟨j,e,z⟩=>by subst e; exact z⟩
  match vs,z with
  | [.int j],z=>exact⟨j,rfl,z⟩
 rw [e] at h
 exact h
def i3h(K:PySem.W.Frag)(tl:TE):TI:=fun σ H R=>tl σ H fun x H1=>match x with
 | .ref a=>(∃ xs,SqL K H1 a xs)/\R (Itl K a) H1
 | _=>False
theorem a5s{l:Expr}{tl:TE}(hl:PE X l tl):PI X tg l (i3h X.K tl):=(i5i hl).weak fun σ H R h=>by
 unfold j0h
 unfold i3h at h
 have e:(fun (x:V) (H1:Hp)=>match x with | .ref a=>(∃ xs,SqL X.K H1 a xs)/\R (Itl X.K a) H1 | _=>False)=fun x H1=>∃ a,x = .ref a/\(∃ xs,SqL X.K H1 a xs)/\R (Itl X.K a) H1:=by
  funext x H1
  cases x <;> simp
 rw [e] at h
 exact h
def rIxS0(K:PySem.W.Frag):R2:=fun x y H Q=>match x,y with
 | .ref p,.int i=>∃ ns:List Int,SqL K H p (ns.map V.int)/\0<=i/\i < ns.length/\Q (.int (ns.getD i.toNat 0)) H
 | _,_=>False
noncomputable def rLenK(K:PySem.W.Frag):List V->Hp->VK->Prop:=fun xs H Q=>match xs with
 | [.ref p]=>∃ ys,SqL K H p ys/\Q (.int ys.length) H
 | _=>False
noncomputable def j7r(K:PySem.W.Frag):V->Option Int->Option Int->Hp->VK->Prop:=fun x lo hi H Q=>match x with
 | .ref a=>∃ xs,SqL K H a xs/\New H (.lst (g4e xs lo hi)) Q ⟨⟩
 | _=>False
theorem j7s:SlR X (j7r X.K):=by
 intro pins s σ H x v vl vu lo hi sl Q I rx hs pl pu h
 cases x <;> first
  | exact False.elim h
  | (obtain ⟨xs, h1, h2⟩ := h
     exact sl_K pins s σ H _ v vl vu lo hi sl Q I rx hs pl pu ⟨_,xs,rfl,h1,h2⟩)
def i3i(t:TE):TO:=fun σ H Q=>t σ H fun x H1=>match x with
 | .int i=>Q (some i) H1
 | _=>False
theorem b2r{te:TE}(h:PE X e te):PO X (some e) (i3i te):=by
 intro pins s σ H Q I hw
 refine (i5q h) pins s σ H Q I ?_
 unfold j0t
 unfold i3i at hw
 have e:(fun (x:V) (H1:Hp)=>match x with | .int i=>Q (some i) H1 | _=>False)=fun x H1=>∃ i,x=V.int i/\Q (some i) H1:=by
  funext x H1
  cases x <;> simp
 rw [e] at hw
 exact hw
noncomputable def rAbs:List V->Hp->VK->Prop:=fun xs H Q=>match xs with
 | [.int i]=>Q (.int i.natAbs) H
 | _=>False
theorem d7z:d0i X (.builtin "abs") rAbs:=h9r.weak fun xs H Q h=>by
 match xs,h with
 | [.int i],h =>
  refine⟨i,rfl,?_⟩
  have e:(if i < 0 then -i else i)=(i.natAbs:Int):=by split <;> omega
  rw [e]
  exact h
noncomputable def rMin:List V->Hp->VK->Prop:=fun xs H Q=>match xs with
 | [.int i,.int j]=>Q (.int (min i j)) H
 | _=>False
noncomputable def rMax:List V->Hp->VK->Prop:=fun xs H Q=>match xs with
 | [.int i,.int j]=>Q (.int (max i j)) H
 | _=>False
noncomputable def j1n(K:PySem.W.Frag):List V->Hp->VK->Prop:=fun xs H Q=>match xs with
 | [.ref p]=>(match H p with
  | some (.lst ys)=>New H (.lst ys) Q ⟨⟩
  | some (.tup ys)=>New H (.lst ys) Q ⟨⟩
  | _=>False)
 | _=>False
theorem c3u:d0i X (.type "list") (j1n X.K):=h2u.weak fun xs H Q h=>by
 match xs,h with
 | [.ref p],h =>
  have h':(match H p with
   | some (.lst ys)=>New H (.lst ys) Q ⟨⟩
   | some (.tup ys)=>New H (.lst ys) Q ⟨⟩
   | _=>False):=h
  split at h'
  ·rename_i ys e
   exact⟨p,ys,rfl,.inl (SqL.of e),h'⟩
  ·rename_i ys e
   exact⟨p,ys,rfl,.inr (SqT.of e),h'⟩
  ·exact h'.elim
theorem k1k{α:Type}{x:α}{xs:List α}{p:α->Prop}:(∃ v,atI (x :: xs) 0=some v/\p v)=p x:=by
 rw [i3c]; simp
theorem k1l{α:Type}{x y:α}{xs:List α}{p:α->Prop}:(∃ v,atI (x :: y :: xs) 1=some v/\p v)=p y:=by
 rw [j1h]; simp
theorem k1m{α:Type}{x y z:α}{xs:List α}{p:α->Prop}:(∃ v,atI (x :: y :: z :: xs) 2=some v/\p v)=p z:=by
 rw [j1i]; simp
theorem k1n{α:Type}{x y z u:α}{xs:List α}{p:α->Prop}:(∃ v,atI (x :: y :: z :: u :: xs) 3=some v/\p v)=p u:=by
 rw [j1j]; simp
end
end L2
namespace L2
open PySem PySem.Spec PyProof.Rows PySem.W
theorem d8g{n:Nat}{d:Dat}(h:kqdOk n d=true)(hn:n<=64):SeqAt.shaped (kqdP d)=true:=by
 have l:=kqd_lay n d h
 unfold SeqAt.shaped
 rw [l.1,Bool.true_and]
 exact decide_eq_true (Nat.le_trans l.2 hn)
theorem i3j{n k:Nat}{d e:Dat}(hd:kqdOk n d=true)(he:kqdOk k e=true){c:Bool}(hc:c=true ↔ d=e):PyData.eqv (kqdP d) (kqdP e)=c:=by
 have q:=kqd_eqv n d e k hd he
 cases c with
 | true=>exact q.mpr (hc.mp rfl)
 | false=>exact Bool.eq_false_iff.mpr fun z=>absurd (hc.mpr (q.mp z)) Bool.false_ne_true
theorem j1o{K:PySem.W.Frag}{H:Hp}{x y:V}{d e:Dat}{n k:Nat}{c:Bool}{Q:VK}(hd:g0e K H x (kqdP d))(he:g0e K H y (kqdP e))(kd:kqdOk n d=true)(ke:kqdOk k e=true)(hn:n<=64)(hk:k<=64)(hc:c=true ↔ d=e)(q:Q (.bl c) H):j6a K x y H Q :=
 ⟨_,_,hd,he,d8g kd hn,d8g ke hk,by rw [i3j kd ke hc]; exact q⟩
theorem j1p{K:PySem.W.Frag}{H:Hp}{x y:V}{d e:Dat}{n k:Nat}{c:Bool}{Q:VK}(hd:g0e K H x (kqdP d))(he:g0e K H y (kqdP e))(kd:kqdOk n d=true)(ke:kqdOk k e=true)(hn:n<=64)(hk:k<=64)(hc:c=true ↔ d=e)(q:Q (.bl (!c)) H):j6b K x y H Q :=
 ⟨_,_,hd,he,d8g kd hn,d8g ke hk,by rw [i3j kd ke hc]; exact q⟩
end L2
namespace L2
open PySem PySem.Spec PyProof.Rows
open PySem.Builtin.Int (intBits)
def k1o(t u:TS):TS:=fun D σ H=>∃ Mid:St->Hp->Prop,t { D with nx:=Mid } σ H/\∀ σ' H',Mid σ' H'->u D σ' H'
theorem a4g{X:Cx}{st:Stmt}{rest:List Stmt}{t u:TS}(h1:PS X st t)(h2:PSs X rest u):PSs X (st :: rest) (k1o t u):=by
 intro pins s σ H D I h
 obtain⟨Mid,h,hm⟩:=h
 refine wpAny_execs_cons (thn (h1 pins s σ H { D with nx:=Mid } I h) fun f s1 q=>?_)
 cases f with
 | next =>
  obtain⟨σ',H',I',q⟩:=q
  exact h2 pins s1 σ' H' D I' (hm σ' H' q)
 | ret v=>exact q
 | brk=>exact q
 | cont=>exact q
end L2
namespace L2
open PySem PySem.Spec PyProof.Rows
theorem d9y{env:Env}:∀ (names:List (Str×NameKind)) (acc:List (Str×Addr)),(∀ y,(y,NameKind.free)∈names->∃ c,env.cells.lookup y=some c) ->
  ∃ cl,(forIn names acc (fun (x:Str×NameKind) (cs:List (Str×Addr))=>(if x.2 == NameKind.free then (do let c <- cellOf env x.1; pure (ForInStep.yield ((x.1,c) :: cs))) else pure (ForInStep.yield cs):Sem (ForInStep (List (Str×Addr))))))=pure cl /\
   (∀ y c,cl.lookup y=some c->acc.lookup y=some c\/((y,NameKind.free)∈names/\env.cells.lookup y=some c)) /\
   (∀ y,(y,NameKind.free)∈names->cl.lookup y=env.cells.lookup y)/\(∀ y,(∀ k,(y,k)∈names->k≠NameKind.free)->cl.lookup y=acc.lookup y)
 | [],acc,_=>⟨acc,rfl,fun y c h=>.inl h,fun y h=>(nomatch h),fun y _=>rfl⟩
 | (n,k) :: r,acc,h=>by
  by_cases hk:k=NameKind.free
  ·subst hk
   obtain⟨c,hc⟩:=h n List.mem_cons_self
   obtain⟨cl,h1,h2,h3,h4⟩:=d9y r ((n,c) :: acc) fun y hy=>h y (List.mem_cons_of_mem _ hy)
   have e:cellOf env n=pure c:=by unfold cellOf; rw [hc]
   refine⟨cl,?_,fun y d hd=>?_,fun y hy=>?_,fun y hy=>?_⟩
   ·rw [List.forIn_cons]
    simp only [beq_self_eq_true,if_true,e,pure_bind]
    exact h1
   ·rcases h2 y d hd with z | ⟨z1,z2⟩
    ·rw [List.lookup_cons] at z
     by_cases hy:y=n
     ·subst hy
      simp only [beq_self_eq_true] at z
      cases z
      exact .inr ⟨List.mem_cons_self,hc⟩
     ·have:(y == n)=false:=by simpa using hy
      rw [this] at z
      exact .inl z
    ·exact .inr ⟨List.mem_cons_of_mem _ z1,z2⟩
   ·by_cases hr:(y,NameKind.free)∈r
    ·exact h3 y hr
    ·rcases List.mem_cons.mp hy with z | z
     ·cases z
      by_cases hq:∃ k,(n,k)∈r/\k=NameKind.free
      ·obtain⟨k,z,rfl⟩:=hq
       exact absurd z hr
      ·rw [h4 n fun k hk e=>hq ⟨k,hk,e⟩,List.lookup_cons]
       simp only [beq_self_eq_true]
       exact hc.symm
     ·exact absurd z hr
   ·have hn:y≠n:=fun e=>by
     subst e
     exact hy _ List.mem_cons_self rfl
    rw [h4 y fun k hk=>hy k (List.mem_cons_of_mem _ hk),List.lookup_cons]
    have:(y == n)=false:=by simpa using hn
    rw [this]
  ·obtain⟨cl,h1,h2,h3,h4⟩:=d9y r acc fun y hy=>h y (List.mem_cons_of_mem _ hy)
   have hb:(k == NameKind.free)=false:=by simpa using hk
   refine⟨cl,?_,fun y d hd=>?_,fun y hy=>?_,fun y hy=>h4 y fun k hk=>hy k (List.mem_cons_of_mem _ hk)⟩
   ·rw [List.forIn_cons]
    simp only [hb,Bool.false_eq_true,if_false,pure_bind]
    exact h1
   ·rcases h2 y d hd with z | ⟨z1,z2⟩
    ·exact .inl z
    ·exact .inr ⟨List.mem_cons_of_mem _ z1,z2⟩
   ·rcases List.mem_cons.mp hy with z | z
    ·cases z
     exact absurd rfl hk
    ·exact h3 y z
theorem c3v{env:Env}{sc:Scope}(h:∀ y,(y,NameKind.free)∈sc.names->∃ c,env.cells.lookup y=some c) :
  ∃ cl,closureFor sc env=pure cl/\(∀ y c,cl.lookup y=some c->(y,NameKind.free)∈sc.names/\env.cells.lookup y=some c)/\(∀ y,(y,NameKind.free)∈sc.names->cl.lookup y=env.cells.lookup y):=by
 obtain⟨cl,h1,h2,h3,_⟩:=d9y (env:=env) sc.names [] h
 refine⟨cl,?_,fun y c hy=>(h2 y c hy).elim (fun z=>nomatch z) id,h3⟩
 unfold closureFor
 show (forIn sc.names [] _ >>= fun cs=>pure cs)=pure cl
 rw [bind_pure]
 exact h1
end L2
namespace L2
open PySem PySem.Spec PyProof.Rows
noncomputable def mask(x:Str)(N:List Str):List Str:=N.map fun y=>if y=x then "" else y
noncomputable def b2s(X:Cx)(scope:Scope)(cl:List (Str×Addr))(C:Addr)(s₃:Shared)(H₃:Hp)(fp:List Addr)(x:Str):Cx where
 prog:=X.prog
 w:=X.w
 K:=X.K
 mg:=X.mg
 base:=X.base
 A:=X.A
 N:=x :: mask x X.N
 s₀:=s₃
 H₀:=H₃
 env:=compEnvC scope cl C X.env
 outer:=X.stack
 stack:=X.stack
 ex:=fp
 fn:=fun _=>false
 calm:=X.calm
 pn:=[]
 xe:=fun _ _=>False
def a6t(D:Addr)(H H':Hp):Prop:=∀ b o,b≠D->H b=some o->H' b=some o
theorem a6t.upd{D:Addr}{H:Hp}{o:HO}:a6t D H (upd H D o):=fun b u hb e=>by rw [a7m hb]; exact e
def f8q(J:It)(te:TE)(D:Addr)(σ:St)(H:Hp)(Q:VK)(_:Tag Q):Prop:=∃ (n:Nat) (W:Nat->List V->Hp->Prop),W 0 [] H/\∀ i ys H,i<=n->W i ys H->H D=some (.lst ys) /\
 ((J.stop i H/\Q (.ref D) H)\/(i < n/\J.go i H/\ys.length < sizeLine/\∀ x H',J.yld i H x H'->te (some x :: σ) H' fun y H2=>H2 D=some (.lst ys) /\
  ∀ H3,a6t D H2 H3->H3 D=some (.lst (ys++[y]))->W (i+1) (ys++[y]) H3))
def i6b(wi:TI)(te:TE):TE:=fun σ H Q=>wi σ H fun J H1=>∀ D H2,H1 D=none->Same H1 H2->H2 D=some (.lst [])->f8q J te D σ H2 Q ⟨⟩
theorem c3w{env:Env}{x:Str}:∀ (names:List (Str×NameKind)) (k:NameKind),(names.map fun (n,k)=>if (k == NameKind.free && env.scope.kind == .function && env.kindOf n == some .cell) then (n,NameKind.cell) else (n,k)).lookup x=some k ->
  (names.lookup x=some k)\/(k = .cell/\names.lookup x=some .free)
 | [],k,e=>by cases e
 | (n,q) :: r,k,e=>by
  rw [List.map_cons] at e
  dsimp only at e
  rw [List.lookup_cons]
  cases hx:(x == n) with
  | true =>
   by_cases hc:(q == NameKind.free && env.scope.kind == .function && env.kindOf n == some .cell)=true
   ·rw [if_pos hc,List.lookup_cons,hx] at e
    have:q = .free:=by
     simp only [Bool.and_eq_true,beq_iff_eq] at hc
     exact hc.1.1
    subst this
    cases e
    exact .inr ⟨rfl,rfl⟩
   ·rw [if_neg hc,List.lookup_cons,hx] at e
    exact .inl e
  | false =>
   have e':(r.map fun (n,k)=>if (k == NameKind.free && env.scope.kind == .function && env.kindOf n == some .cell) then (n,NameKind.cell) else (n,k)).lookup x=some k:=by
    by_cases hc:(q == NameKind.free && env.scope.kind == .function && env.kindOf n == some .cell)=true
    ·rw [if_pos hc,List.lookup_cons,hx] at e
     exact e
    ·rw [if_neg hc,List.lookup_cons,hx] at e
     exact e
   exact c3w r k e'
theorem b1s{env:Env}{sc:Scope}{x:Str}(h:(relabel sc env).names.lookup x=some .cell\/(relabel sc env).names.lookup x=some .free):(x,NameKind.free)∈sc.names\/(x,NameKind.cell)∈sc.names:=by
 rcases h with h | h
 ·rcases c3w sc.names _ h with z | ⟨_,z⟩
  ·exact .inr (PySem.mem_of_lookup z)
  ·exact .inl (PySem.mem_of_lookup z)
 ·rcases c3w sc.names _ h with z | ⟨z,_⟩
  ·exact .inl (PySem.mem_of_lookup z)
  ·cases z
structure c4p(X:Cx)(scope:Scope)(x:Str):Prop where
 kind:scope.kind = .function
 d2u:∀ y∈scope.names,y.2≠.cell
 loc:∀ y∈scope.names,y.2 = .local->scope.names.lookup y.1=some .local
 own:scope.names.lookup x=some .local
 free:∀ y∈scope.names,y.2 = .free->X.env.kindOf y.1=some .cell\/X.env.kindOf y.1=some .free
 nd:(x :: mask x X.N).Nodup
 noe:∀ y∈scope.names,y.1≠""
 vis:∀ y∈mask x X.N,scope.names.lookup y≠some .local
section
variable {X:Cx}{scope:Scope}{x:Str}{cl:List (Str×Addr)}{pins:List (Addr×Obj)}{σ:St}{H:Hp}{s s₄:Shared}{fp:List Addr}
theorem Inv.comp(S:c4p X scope x)(I:Inv X pins σ H s)(hcl:∀ y c,cl.lookup y=some c->(y,NameKind.free)∈scope.names/\X.env.cells.lookup y=some c)(hcl2:∀ y,(y,NameKind.free)∈scope.names->cl.lookup y=X.env.cells.lookup y)
  (hfp:∀ b∈fp,d7t X pins H b) (hlt:∀ b∈fp,b < s.heap.objs.size) {m:Str->Option Value} (hns:s₄.heap.Ns s.heap.objs.size m) (hk:∀ b o,s.heap.get? b=some o->s₄.heap.get? b=some o) (hos:s₄.os=s.os) (hg:s₄.gens=s.gens) :
  Inv (b2s X scope cl s.heap.objs.size s H fp x) [] (none :: σ) H s₄:=by
 have below:∀ {b:Addr} {o:Obj},s.heap.get? b=some o->b≠s.heap.objs.size:=fun e=>Nat.ne_of_lt (Heap.lt_size e)
 refine⟨⟨I.ok.mod,?_,I.ok.glob,I.ok.blt,Nat.le_refl _,fun y z c h1 h2=>I.ok.inj y z c (hcl y c h1).2 (hcl z c h2).2,fun y hy=>?_,(fun y c h=>nomatch h),I.ok.hd,I.ok.frames,.inl rfl,fun b hb=>⟨Nat.ne_of_lt (hlt b hb),fun y c e=>(hfp b hb).2.2.2.2.1 y c (hcl y c e).2⟩,
  fun b o e=>I.bs b o e,Nat.le_trans I.ok.bsz I.sz,fun b o e hb=>?_,fun b hb hf=>?_,I.stack,I.d9v⟩,
  hos,by rw [hg]; exact I.bare,Un.kept hk,⟨m,hns,fun i y v h1 h2 h3=>?_⟩,fun y c e=>?_,I.hok.fresh (Nat.le_refl _),fun y c e=>I.d5o y c (hcl y c e).2,fun p hp=>absurd (show p∈([] : List (Addr×Obj)) from hp) (by simp),I.hok.kept hk,by show (none :: σ).length=(x :: mask x X.N).length; rw [List.length_cons,List.length_cons,mask,List.length_map,I.len]⟩
 ·exact S.kind
 ·rcases b1s (env:=X.env) (sc:=scope) (x:=y) hy with z | z
  ·obtain⟨c,hc⟩:=I.ok.has y (S.free _ z rfl)
   exact⟨c,(hcl2 y z).trans hc⟩
  ·exact absurd rfl (S.d2u _ z)
 ·rcases (hfp b hb).2.2.2.1 with z | z
  ·exact I.ok.i2q b o e z
  ·exact absurd (Nat.lt_of_lt_of_le (Heap.lt_size (I.ok.bs b o e).1) z) (Nat.lt_irrefl _)
 ·rcases List.mem_cons.mp (I.d5q b hf) with z | z
  ·exact (hfp b hb).2.1 z
  ·exact (hfp b hb).2.2.1 z
 ·cases i with
  | zero=>cases h2
  | succ i =>
   have h1m:(mask x X.N)[i]? = some y:=by simpa [b2s] using h1
   have h2':σ[i]? = some (some v):=by simpa using h2
   have hyN:y∈mask x X.N:=List.mem_of_getElem? h1m
   have hc:(relabel scope X.env).names.lookup y=some .cell\/(relabel scope X.env).names.lookup y=some .free:=by
    rcases h3 with z | z | z
    ·exfalso
     rcases c3w (env:=X.env) scope.names _ z with q | ⟨q,_⟩
     ·exact S.vis y hyN q
     ·cases q
    ·exact .inl z
    ·exact .inr z
   have hfr:(y,NameKind.free)∈scope.names:=by
    rcases b1s hc with z | z
    ·exact z
    ·exact absurd rfl (S.d2u _ z)
   have h1':X.N[i]? = some y:=by
    rw [mask,List.getElem?_map] at h1m
    obtain⟨z,hz,e⟩:=Option.map_eq_some_iff.mp h1m
    by_cases hzx:z=x
    ·rw [if_pos hzx] at e
     exact absurd e.symm (S.noe _ hfr)
    ·rw [if_neg hzx] at e
     rw [hz,e]
   obtain⟨mX,hnX,hl⟩:=I.loc
   have hk2:=S.free _ hfr rfl
   have j1q:Vis X.env.scope y:=by
    rcases hk2 with z | z
    ·exact .inr (.inl z)
    ·exact .inr (.inr z)
   obtain⟨u,ru,lk⟩:=hl i y v h1' h2' j1q
   refine⟨u,ru,.inr ⟨hc,?_⟩⟩
   rcases lk with ⟨z,_⟩ | ⟨_,c,ec,o,ho,hd⟩
   ·rcases hk2 with q | q
    ·rw [q] at z; cases z
    ·rw [q] at z; cases z
   ·exact⟨c,(hcl2 y hfr).trans ec,o,hk c o ho,hd⟩
 ·obtain⟨v,o,ho,hd⟩:=I.cell y c (hcl y c e).2
  exact⟨v,o,hk c o ho,hd⟩
theorem Inv.i3k{σ':St}{H':Hp}{s':Shared}{h':Heap}(I:Inv X pins σ H s)(hfp:∀ b∈fp,d7t X pins H b)(J:Inv (b2s X scope cl s.heap.objs.size s H fp x) [] σ' H' s')(hs:Heap.SameBut s.heap.objs.size s'.heap h') :
  Inv X pins σ H' { s' with heap:=h' }:=by
 have ne:∀ {b:Addr} {o:Obj},s.heap.get? b=some o->b≠s.heap.objs.size:=fun e=>Nat.ne_of_lt (Heap.lt_size e)
 have u:=J.base
 have u':Un (frs X.stack) fp H H' s.heap h':=⟨fun b o e n hb hx=>hs.extBut b o (ne e) (u.keep b o e n hb hx),fun b o e n hb hx=>(u.slot b o e n hb hx).elim fun sl q=>⟨sl,hs.extBut b _ (ne e) q⟩,u.free,
  fun b o e hx=>(u.there b o e hx).elim fun o' q=>⟨o',hs.extBut b o' (ne e) q⟩,u.tups,u.g0a,u.g1p⟩
 have nC:∀ {b:Addr} {o:HO},H' b=some o->b≠s.heap.objs.size:=fun {b o} e z=>by
  have f:H' s.heap.objs.size=none:=J.free
  rw [z,f] at e; cases e
 have ok:HOk X.prog X.w H' h':=fun b o e=>(J.hok b o e).stay (fun c v hc q=>hs.extBut c v (by
  rcases hc with z | z
  ·rw [z]; exact nC e
  ·exact nC z) q) (fun _ q=>q) fun _ _ q=>q
 exact I.call' (s':={ s' with heap:=h' }) (ch:=fp) J.os u' ok J.bare fun b hb=>⟨(hfp b hb).2.2.2.1,(hfp b hb).2.1,(hfp b hb).2.2.2.2.1,(hfp b hb).2.2.2.2.2⟩
end
end L2
namespace L2
open PySem PySem.Spec PyProof.Rows
section
variable {X:Cx}{scope:Scope}{x:Str}{pins:List (Addr×Obj)}{σ:St}{elt iter:Expr}{px pos:Pos}{wi:TI}{te:TE}
theorem g0f{s₂:Shared}{H1:Hp}{it:Addr}{fp:List Addr}{tn:Nat->Heap->Prop}{J:It}{Q:VK}{RR:Value->Addr->Result->Shared->Prop}{E:Value->Shared->Prop}{cl:List (Str×Addr)}
  (S:c4p X scope x) (hc:X.calm=true) (he:∀ cl C s₃ H₃ fp,PE (b2s X scope cl C s₃ H₃ fp x) elt te)
  (hcl:∀ y c,cl.lookup y=some c->(y,NameKind.free)∈scope.names/\X.env.cells.lookup y=some c) (hcl2:∀ y,(y,NameKind.free)∈scope.names->cl.lookup y=X.env.cells.lookup y)
  (I2:Inv X pins σ H1 s₂) (T:Turn X.prog X.w X.K (.Name x px) J fp it tn) (st2:tn 0 s₂.heap) (f2:∀ b∈fp,d7t X pins H1 b) (h:∀ D H2,H1 D=none->Same H1 H2->H2 D=some (.lst [])->f8q J te D σ H2 Q ⟨⟩)
  (hRR:∀ (D C:Addr) (s':Shared) (H':Hp),(∃ m,s'.heap.Ns C m)->(∀ h' ,Heap.SameBut C s'.heap h'->Inv X pins σ H' { s' with heap:=h' })->d7t X pins H' C->Q (.ref D) H'->RR (.ref D) C (.ok .next) s') :
  wpAny (model X.prog X.w) X.A (newList []) (fun acc s₃=>wpAny (model X.prog X.w) X.A (newFunctionEnv scope X.env.globals cl [] X.env.qual none .none (some X.env)) (fun cenv s₄ =>
   codeAny (model X.prog X.w) X.A (.compStart (.ListComp elt [⟨.Name x px,iter,[],0⟩] scope pos) 0 (.ref it) acc { cenv with scope:=relabel scope X.env }) (RR acc cenv.locals) s₄) E s₃) E s₂:=by
 have hfr:H1 s₂.heap.objs.size=none:=I2.hok.fresh (Nat.le_refl _)
 have hCW:=h s₂.heap.objs.size _ hfr (Same.upd hfr) a6m
 refine wpAny_newObj_type ?_
 have I3:Inv X pins σ (upd H1 s₂.heap.objs.size (.lst [])) { s₂ with heap:=s₂.heap.push { cls:=.type "list",data:=.seq ([] : List Value).toArray },toks:=s₂.toks } :=
  I2.laid (t':=s₂.toks) (fun b u e=>Heap.get?_push_of_some _ e) (Nat.le_refl _) ⟨Nat.zero_le _,[],0,.nil,Heap.get?_push_size _ rfl⟩
 have nD:∀ b∈fp,b≠s₂.heap.objs.size:=fun b hb=>by
  obtain⟨o,e,_⟩:=T.obj 0 _ st2 b hb
  exact Nat.ne_of_lt (Heap.lt_size e)
 have f3:∀ b∈fp,d7t X pins (upd H1 s₂.heap.objs.size (.lst [])) b:=fun b hb=>⟨by rw [a7m (nD b hb)]; exact (f2 b hb).1,(f2 b hb).2⟩
 generalize hH3:upd H1 s₂.heap.objs.size (.lst [])=H3 at *
 have st3:tn 0 (s₂.heap.push { cls:=.type "list",data:=.seq ([] : List Value).toArray }):=T.keep _ _ _ st2 fun b _ o e=>Heap.get?_push_of_some _ e
 have g8a:∀ b∈fp,b < (s₂.heap.push { cls:=.type "list",data:=.seq ([] : List Value).toArray }).objs.size:=fun b hb=>by
  obtain⟨o,e,_⟩:=T.obj 0 _ st3 b hb
  exact Heap.lt_size e
 show wpAny (model X.prog X.w) X.A (newFunctionEnv scope X.env.globals cl [] X.env.qual none .none (some X.env)) _ E { s₂ with heap:=s₂.heap.push { cls:=.type "list",data:=.seq ([] : List Value).toArray },toks:=s₂.toks }
 generalize hs3:({ s₂ with heap:=s₂.heap.push { cls:=.type "list",data:=.seq ([] : List Value).toArray },toks:=s₂.toks }:Shared)=s₃ at *
 have eh:s₃.heap=s₂.heap.push { cls:=.type "list",data:=.seq ([] : List Value).toArray }:=by rw [<- hs3]
 rw [<- eh] at st3 g8a
 generalize s₂.heap.objs.size=D at *
 refine wpAny_newFunctionEnv S.d2u (by intro y hy; simp at hy) (fun h₁ hns₁ hsb₁=>?_) S.kind
 have hk1:∀ b o,s₃.heap.get? b=some o->h₁.get? b=some o:=fun b o e=>hsb₁.extBut b o (Nat.ne_of_lt (Heap.lt_size e)) (Heap.get?_push_of_some _ e)
 have J0:Inv (b2s X scope cl s₃.heap.objs.size s₃ H3 fp x) [] (none :: σ) H3 { s₃ with heap:=h₁,toks:=s₃.toks+([] : List (Str×Value)).length }:=I3.comp S hcl hcl2 f3 g8a hns₁ hk1 rfl rfl
 obtain⟨n0,W,w0,turn⟩:=hCW
 have loop:codeAny (model X.prog X.w) X.A (.compLoop (.ListComp elt [⟨.Name x px,iter,[],0⟩] scope pos) 0 (.ref it) (.ref D) (compEnvC scope cl s₃.heap.objs.size X.env)) (RR (.ref D) s₃.heap.objs.size) { s₃ with heap:=h₁,toks:=s₃.toks+([] : List (Str×Value)).length }:=by
  refine codeAny_loop rfl (fun n s'=>∃ i ys o H',Inv (b2s X scope cl s₃.heap.objs.size s₃ H3 fp x) [] (o :: σ) H' s'/\tn i s'.heap/\(∀ b∈fp,H' b=none)/\W i ys H'/\i<=n0/\n=n0 - i) (fun n s5 hI=>?_) n0
   ⟨0,[],none,H3,J0,T.keep _ _ _ st3 (fun b _ o e=>hk1 b o e),fun b hb=>(f3 b hb).1,w0,Nat.zero_le _,rfl⟩
  obtain⟨i,ys,o5,H5,I5,st5,fr5,w5,hin,hnn⟩:=hI
  have stat:∀ {H':Hp},(∀ b∈fp,H' b=none)->∀ b∈fp,d7t (b2s X scope cl s₃.heap.objs.size s₃ H3 fp x) [] H' b:=fun hn b hb =>
   ⟨hn b hb,Nat.ne_of_lt (g8a b hb),fun z=>(List.mem_cons.mp (I3.d5q b z)).elim (fun q=>(f3 b hb).2.1 q) fun q=>(f3 b hb).2.2.1 q,.inl hb,fun y c e=>(f3 b hb).2.2.2.2.1 y c (hcl y c e).2,fun p hp=>absurd (show p∈([] : List (Addr×Obj)) from hp) (by simp)⟩
  show wpAny _ X.A ((compTurn (.ListComp elt [⟨.Name x px,iter,[],0⟩] scope pos) 0 (.ref it) (.ref D) (compEnvC scope cl s₃.heap.objs.size X.env)).onRaise (fun x=>do noteFrame x (compEnvC scope cl s₃.heap.objs.size X.env); theTreesLotGoes x)) _ _ s5
  refine wpAny_noted ?_
  rw [compTurn_list1]
  refine wpAny_bind (wpAny_standAt (wpAny_bind ?_))
  obtain⟨hD5,alt⟩:=turn i ys H5 hin w5
  rcases alt with ⟨stop,q⟩ | ⟨hlt,go,hsz,step⟩
  ·refine wpAny_mono (T.done (b2s X scope cl s₃.heap.objs.size s₃ H3 fp x) rfl rfl rfl hc i [] s5 _ H5 _ I5 (stat fr5) st5 stop) (fun r s6 ⟨hr,I6⟩=>?_) fun _ _ z=>z
   subst hr
   refine wpAny_pure ?_
   obtain⟨m6,hn6,_⟩:=I6.loc
   exact hRR D s₃.heap.objs.size s6 H5 ⟨m6,hn6⟩ (fun h' hs'=>I3.i3k f3 I6 hs') (I3.i5g (Nat.le_refl _) I6.free) q
  ·refine wpAny_mono (T.item (b2s X scope cl s₃.heap.objs.size s₃ H3 fp x) rfl rfl rfl hc i [] s5 _ H5 _ I5 (stat fr5) st5 go) (fun r s6 ⟨u,hr,h6⟩=>?_) fun _ _ z=>z
   subst hr
   refine wpAny_bind (wpAny_mono h6 (fun _ s7 ⟨v,H7,I7,r7,y7,st7,fr7⟩=>?_) fun _ _ z=>z)
   have I7':=I7.pinned (stat fr7) (T.obj _ _ st7)
   have G:=a5n (X:=b2s X scope cl s₃.heap.objs.size s₃ H3 fp x) (pos:=px) (i:=0) (x:=x) S.nd rfl (.inl (lookup_relabel_local S.own)) (.inr (lookup_relabel_local S.own))
   refine wpAny_bind (wpAny_mono (G _ s7 _ H7 v u (fun σ' H'=>σ'=some v :: σ/\H'=H7) I7' r7 ⟨rfl,rfl⟩) (fun _ s8 hs8=>?_) fun _ _ z=>False.elim z)
   obtain⟨σ8,H8,I8,rfl,rfl⟩:=hs8
   refine wpAny_bind (wpAny_bind (wpAny_mono (he cl s₃.heap.objs.size s₃ H3 fp _ s8 _ _ _ I8 (step v H8 y7)) (fun yv s9 hs9=>?_) fun _ _ z=>False.elim z))
   obtain⟨y,H9,I9,r9,hD9,k9⟩:=hs9
   refine wpAny_bind (wpAny_mono (d3g (X:=b2s X scope cl s₃.heap.objs.size s₃ H3 fp x) _ s9 _ H9 (.ref D) [y] (.ref D) [yv] (fun _ H'=>H'=upd H9 D (.lst (ys++[y]))) I9 rfl (.cons r9 .nil) ⟨D,ys,y,rfl,rfl,hD9,hsz,rfl⟩) (fun _ sA hsA=>?_) fun _ _ z=>False.elim z)
   obtain⟨_,HA,IA,_,rfl⟩:=hsA
   refine wpAny_pure ?_
   have wA:=k9 _ a6t.upd a6m
   refine wpAny_pure ⟨rfl,n0 - (i+1),by omega,i+1,ys++[y],some v,_,IA.d0z (pins:=[]) (pl:=f1u fp s7.heap),T.keep _ _ _ st7 (fun b hb o e=>(IA.pin (b,o) (List.mem_append_right _ (List.mem_append_right _ (b0u hb e)))).1),fun b hb=>?_,wA,hlt,rfl⟩
   obtain⟨o,e,d⟩:=T.obj _ _ st7 b hb
   exact (IA.pin (b,o) (List.mem_append_right _ (List.mem_append_right _ (b0u hb e)))).2.1
 exact codeAny_compStart_list loop (T.self _ 0 _ _ _ (T.keep _ _ _ st3 fun b _ o e=>hk1 b o e) loop)
theorem b2u(hi:PI X (.Name x px) iter wi)(he:∀ cl C s₃ H₃ fp,PE (b2s X scope cl C s₃ H₃ fp x) elt te)(S:c4p X scope x)(hc:X.calm=true)
  (hs:∀ x,foldedSetIterable iter X.env x=pure x:=by intro _; rfl):PE X (.ListComp elt [⟨.Name x px,iter,[],0⟩] scope pos) (i6b wi te):=by
 intro pins s σ H Q I h
 obtain⟨cl,hclos,hcl,hcl2⟩:=c3v (env:=X.env) (sc:=scope) fun y hy=>I.ok.has y (S.free _ hy rfl)
 rw [eval_ListComp]
 refine wpAny_comprehension_free (use:=none) rfl hs hclos S.kind S.loc ?_
 refine thn (hi pins s σ H _ I h) fun v s1 h1=>thn h1 fun itv s2 h2=>?_
 obtain⟨it,fp,tn,J,H2,e,I2,T,st2,f2,hW⟩:=h2
 subst e
 exact g0f (RR:=fun acc C=>compPost (model X.prog X.w) X.A X.xe none (EP X pins σ Q) acc C) S hc he hcl hcl2 I2 T st2 f2 hW fun D C s' H' hm hI _ hq =>
  hm.elim fun m hn=>⟨m,hn,fun h' hs'=>⟨.ref D,H',hI h' hs',rfl,hq⟩⟩
theorem i6c{i:Nat}{y:Str}{py spos:Pos}(hN:X.N.Nodup)(hyi:X.N[i]? = some y)(hy:X.env.scope.names.lookup y=some .local)(hi:PI X (.Name x px) iter wi)(he:∀ cl C s₃ H₃ fp,PE (b2s X scope cl C s₃ H₃ fp x) elt te)(S:c4p X scope x)(hc:X.calm=true)
  (hsw:swapsWith (.ListComp elt [⟨.Name x px,iter,[],0⟩] scope pos) (some (.Name y py)) spos.line X.env=pure true:=by rfl)
  (hs:∀ x,foldedSetIterable iter X.env x=pure x:=by intro _; rfl):PS X (.Assign [.Name y py] (.ListComp elt [⟨.Name x px,iter,[],0⟩] scope pos) spos) (i9m (i6b wi te) (h5i i)):=by
 intro pins s σ H D I h
 obtain⟨cl,hclos,hcl,hcl2⟩:=c3v (env:=X.env) (sc:=scope) fun y hy=>I.ok.has y (S.free _ hy rfl)
 rw [exec_Assign_Name_used _ _ _ _ hsw]
 refine wpAny_bind (wpAny_standAt (wpAny_bind ?_))
 show wpAny _ X.A (do let _ <- comprehension (.ListComp elt [⟨.Name x px,iter,[],0⟩] scope pos) scope X.env _ (newList []) false (eval iter X.env) (some (assign (.Name y py) X.env))) _ _ s
 refine wpAny_bind (wpAny_mono (wpAny_comprehension_free (use:=some (assign (.Name y py) X.env)) (Q:=fun _ s'=>SP X pins D .next s') rfl hs hclos S.kind S.loc ?_) (fun _ s' hq=>wpAny_pure (wpAny_pure hq)) fun _ _ e=>e)
 refine thn (hi pins s σ H _ I h) fun v s1 h1=>thn h1 fun itv s2 h2=>?_
 obtain⟨it,fp,tn,J,H2,e,I2,T,st2,f2,hW⟩:=h2
 subst e
 refine g0f (Q:=fun v H'=>D.nx (σ.set i (some v)) H') (RR:=fun acc C=>compPost (model X.prog X.w) X.A X.xe (some (assign (.Name y py) X.env)) (fun _ s'=>SP X pins D .next s') acc C) S hc he hcl hcl2 I2 T st2 f2 hW fun L C s' H' hm hI hfp hq=>?_
 obtain⟨m,hn⟩:=hm
 have I':Inv X pins σ H' s':=hI s'.heap (Heap.SameBut.refl ..)
 show wpAny _ X.A (assign (.Name y py) X.env (.ref L)) _ _ s'
 refine wpAny_assign_Name (f3u (v:=.ref L) I' hN hyi (.inl hy) rfl (fun s'' I'' hsb=>?_) (.inr hy))
 obtain⟨a,hsame,ha⟩:=hsb
 have nea:C≠a:=by
  rcases ha with z | z
  ·rw [z]; exact hfp.2.1
  ·exact fun q=>hfp.2.2.2.2.1 y a z q.symm
 refine⟨m,hn.sameBut hsame nea,fun h' hs'=>⟨_,H',I''.turned (t':=s''.toks) (it:=C) (fun b o hb e=>hs'.extBut b o hb e) hfp.1 hfp.2.1 hfp.2.2.2.1 hfp.2.2.2.2.1 hfp.2.2.2.2.2,hq⟩⟩
end
theorem c3y{K:PySem.W.Frag}{a D:Addr}{xs:List V}{te:TE}{σ:St}{H:Hp}{Q:VK}(Pv:Nat->List V->Hp->Prop)(h0:Pv 0 [] H)(hsz:xs.length<=sizeLine)
  (hD:∀ i ys H,i<=xs.length->Pv i ys H->H D=some (.lst ys)/\SqL K H a xs/\ys.length=i)
  (hs:∀ i x ys H,xs[i]? = some x->Pv i ys H->te (some x :: σ) H fun y H2=>H2 D=some (.lst ys)/\∀ H3,a6t D H2 H3->H3 D=some (.lst (ys++[y]))->Pv (i+1) (ys++[y]) H3)
  (hd:∀ ys H,Pv xs.length ys H->Q (.ref D) H):f8q (Itl K a) te D σ H Q ⟨⟩:=by
 refine⟨xs.length,Pv,h0,fun i ys H hi p=>?_⟩
 obtain⟨e1,e2,e3⟩:=hD i ys H hi p
 refine⟨e1,?_⟩
 by_cases hlt:i < xs.length
 ·refine .inr ⟨hlt,⟨xs,xs[i],e2,by simp [hlt]⟩,by omega,fun x H' y=>?_⟩
  obtain⟨e,y⟩:=y
  subst e
  exact hs i x ys _ (y xs e2) p
 ·have e:i=xs.length:=by omega
  subst e
  exact .inl ⟨⟨xs,e2,Nat.le_refl _⟩,hd ys H p⟩
theorem g8b{D:Addr}{lo:Int}{n:Nat}{te:TE}{σ:St}{H:Hp}{Q:VK}(Pv:Nat->List V->Hp->Prop)(h0:Pv 0 [] H)(hsz:n<=sizeLine)
  (hD:∀ i ys H,i<=n->Pv i ys H->H D=some (.lst ys)/\ys.length=i)
  (hs:∀ i ys H,i < n->Pv i ys H->te (some (.int (lo+i)) :: σ) H fun y H2=>H2 D=some (.lst ys)/\∀ H3,a6t D H2 H3->H3 D=some (.lst (ys++[y]))->Pv (i+1) (ys++[y]) H3)
  (hd:∀ ys H,Pv n ys H->Q (.ref D) H):f8q (Itr lo n) te D σ H Q ⟨⟩:=by
 refine⟨n,Pv,h0,fun i ys H hi p=>?_⟩
 obtain⟨e1,e3⟩:=hD i ys H hi p
 refine⟨e1,?_⟩
 by_cases hlt:i < n
 ·refine .inr ⟨hlt,hlt,by omega,fun x H' y=>?_⟩
  obtain⟨e,y⟩:=y
  subst e y
  exact hs i ys _ hlt p
 ·have e:i=n:=by omega
  subst e
  exact .inl ⟨Nat.le_refl _,hd ys H p⟩
theorem Same.step{D:Addr}{H0 H H':Hp}(S:Same H0 H)(n:H0 D=none)(s:a6t D H H'):Same H0 H':=fun b o e=>s b o (a9y e n) (S b o e)
noncomputable def i3l(sc scope:Scope)(x:Str)(N:List Str):Bool :=
 (scope.kind == .function) && scope.names.all (fun y=>y.2 != .cell) && scope.names.all (fun y=>y.2 != .local || scope.names.lookup y.1 == some .local) && (scope.names.lookup x == some .local) &&
 scope.names.all (fun y=>y.2 != .free || (sc.names.lookup y.1 == some .cell || sc.names.lookup y.1 == some .free)) && decide ((x :: mask x N).Nodup) && scope.names.all (fun y=>y.1 != "") && (mask x N).all (fun y=>scope.names.lookup y != some .local)
theorem d1h{X:Cx}{sc scope:Scope}{x:Str}{N:List Str}(hsc:X.env.scope=sc)(hN:X.N=N)(h:i3l sc scope x N=true):c4p X scope x:=by
 subst hN hsc
 unfold i3l at h
 simp only [Bool.and_eq_true,List.all_eq_true,beq_iff_eq,Bool.or_eq_true,bne_iff_ne,ne_eq,decide_eq_true_eq] at h
 obtain⟨⟨⟨⟨⟨⟨⟨h1,h2⟩,h3⟩,h4⟩,h5⟩,h6⟩,h7⟩,h8⟩:=h
 exact⟨h1,h2,fun y hy e=>(h3 y hy).resolve_left fun z=>z e,h4,fun y hy e=>(h5 y hy).resolve_left fun z=>z e,h6,h7,h8⟩
end L2
namespace L2
open PySem PySem.Spec PyProof.Rows
noncomputable def j1r:V->Hp->Bool:=fun x H=>match x with
 | .ref l=>(match H l with
  | some (.lst _)=>true
  | _=>false)
 | _=>false
noncomputable def i3m:V->Hp->Bool:=fun x _=>match x with
 | .str _=>true
 | _=>false
theorem a7n{K:PySem.W.Frag}:∀ x H,j1r x H=true->tyV K "list" x H:=fun x H h=>by
 cases x with
 | ref l =>
  have h':(match H l with
   | some (.lst _)=>true
   | _=>false)=true:=h
  split at h'
  ·rename_i xs e
   exact .inl ⟨rfl,xs,SqL.of e⟩
  ·cases h'
 | _=>cases h
theorem a9j{K:PySem.W.Frag}:∀ x H,i3m x H=true->tyV K "str" x H:=fun x H h=>by
 cases x with
 | str z=>exact rfl
 | _=>cases h
def j7t(chk:V->Hp->Bool)(r:V->List V->Hp->VK->Prop)(to:TE)(t:TA):TE:=fun σ H Q=>to σ H fun x H1=>chk x H1=true/\t σ H1 fun xs H2=>r x xs H2 Q
section
variable {X:Cx}{o e:Expr}{es:List Expr}{to:TE}{t:TA}{name:Str}{apos cpos:Pos}{T id:String}{r r':V->List V->Hp->VK->Prop}{chk:V->Hp->Bool}
theorem MtR.weak(h:MtR X id r)(q:∀ x xs H Q,r' x xs H Q->r x xs H Q):MtR X id r':=fun pins s σ H x xs v us Q I rx rs hr=>h pins s σ H x xs v us Q I rx rs (q x xs H Q hr)
theorem a7q(hchk:∀ x H,chk x H=true->tyV X.K T x H)(pa:PlainAttrs T)(slot:Slot T name id)(hty:typeOf (.builtin id)=pure (.type "method_descriptor"))(hm:MtR X id r)(ho:PE X o to)(ha:PA X (e :: es) t)
  (hbase:attributeBase o name X.env (eval o X.env)=eval o X.env:=by rfl)
  (hfew:((backTo cpos (starEach (e :: es) X.env)).all (fun x=>!x.1) && (backToKw cpos (keywordEach [] X.env)).all (fun x=>x.1.isSome)
   && decide ((e :: es).length+([] : List Keyword).length+(if ([] : List Keyword).isEmpty then 0 else 1) < 30))=true:=by rfl)
  (hline:(apos.endLine == cpos.line)=true:=by rfl) (hs:starEach (e :: es) X.env=(false,eval e X.env) :: starEach es X.env:=by rfl) (hplain:(backTo cpos (starEach es X.env)).any (·.1)=false:=by rfl) :
  PE X (.Call (.Attribute o name apos) (e :: es) [] cpos) (j7t chk r to t):=by
 intro pins s σ H Q I h
 refine wpAny_Call_method_late hbase hfew hline rfl (thn (ho pins s σ H _ I h) fun v s1 ⟨x,H1,I1,r1,ty,q1⟩=>?_)
 obtain⟨h1,h2⟩:=i2v I1 r1 (hchk x H1 ty)
 refine⟨T,id,pa,slot,hty,h1,h2,?_⟩
 have hA:=ha cpos pins s1 σ H1 _ I1 q1
 rw [hs] at hA ⊢
 refine Calls.callWith_builtin (by show (false || (backTo cpos (starEach es X.env)).any (·.1))=false; rw [hplain] <;> rfl) (Calls.evalArgs_plain ?_)
 exact thn hA fun us s2 ⟨vs,H2,I2,r2,q2⟩=>hm pins s2 σ H2 x vs v us Q I2 r1 r2 q2
noncomputable def j1s:V->List V->Hp->VK->Prop:=fun x vs H Q=>match x,vs with
 | .ref l,[y]=>(match H l with
  | some (.lst xs)=>xs.length < sizeLine/\All (fun v H1=>v = .non/\a6t l H H1/\H1 l=some (.lst (xs++[y]))) Q ⟨⟩ ⟨⟩
  | _=>False)
 | _,_=>False
theorem a6n:MtR X "list.append" j1s:=MtR.weak (r:=h5x) d3g fun x vs H Q h=>by
 match x,vs,h with
 | .ref l,[y],h =>
  have h':(match H l with
   | some (.lst xs)=>xs.length < sizeLine/\All (fun v H1=>v = .non/\a6t l H H1/\H1 l=some (.lst (xs++[y]))) Q ⟨⟩ ⟨⟩
   | _=>False):=h
  split at h'
  ·rename_i xs e
   exact⟨l,xs,y,rfl,rfl,e,h'.1,h'.2 _ _ ⟨rfl,a6t.upd,a6m⟩⟩
  ·exact h'.elim
end
noncomputable def g7m{α:Type}(xs:List α)(lo hi:Option Int):List α:=(xs.drop (HT.sIx xs.length 0 lo)).take (HT.sIx xs.length xs.length hi - HT.sIx xs.length 0 lo)
theorem i6d(xs:List V)(lo hi:Option Int):g4e xs lo hi=g7m xs lo hi:=rfl
theorem h0w{α β:Type}(f:α->β)(xs:List α)(lo hi:Option Int):g7m (xs.map f) lo hi=(g7m xs lo hi).map f:=by
 unfold g7m
 rw [List.length_map,List.map_take,List.map_drop]
theorem h6j(ns:List Int)(lo hi:Option Int):g4e (ns.map V.int) lo hi=(g7m ns lo hi).map V.int:=h0w V.int ns lo hi
theorem h0x{α:Type}{xs:List α}{lo hi:Option Int}{x:α}(h:x∈g7m xs lo hi):x∈xs:=List.mem_of_mem_drop (List.mem_of_mem_take h)
theorem c1m{α:Type}(xs:List α)(a:Nat):g7m xs (some (a:Int)) none=xs.drop a:=by
 unfold g7m
 rw [HT.i5o,HT.h9w]
 by_cases h:a<=xs.length
 ·rw [Nat.min_eq_left h,List.take_of_length_le (by rw [List.length_drop] <;> exact Nat.le_refl _)]
 ·rw [Nat.min_eq_right (by omega),List.drop_length,List.drop_of_length_le (by omega)]
  simp
end L2
namespace L2
theorem f4m(F:Nat->St->Hp->Prop):∃ Pv:Nat->St->Hp->Prop,(∀ i σ H,F i σ H->Pv i σ H)/\∀ i σ H,Pv i σ H->F i σ H:=⟨F,fun _ _ _ h=>h,fun _ _ _ h=>h⟩
theorem g7n(F:St->Hp->Prop):∃ Pv:St->Hp->Prop,(∀ σ H,F σ H->Pv σ H)/\∀ σ H,Pv σ H->F σ H:=⟨F,fun _ _ h=>h,fun _ _ h=>h⟩
end L2
namespace L2
open PySem PySem.Spec PyProof.Rows
open PySem.Builtin.Int (intBits)
section
variable {X:Cx}
noncomputable def rSumF:List V->Hp->VK->Prop:=fun xs H Q=>match xs with
 | [.ref p]=>(match H p with
  | some (.lst ys)=>∃ ns:List Int,ys=ns.map V.int/\Q (.int ns.sum) H
  | _=>False)
 | _=>False
end
def Stop(p:Prop)(_:Tag p):Prop:=p
theorem Stop.go{p:Prop}{t:Tag p}(h:p):Stop p t:=h
def j1t(t u:TS):TS:=fun D σ H=>t { D with nx:=fun σ' H'=>Stop (u D σ' H') ⟨⟩ } σ H
theorem h6k{X:Cx}{st:Stmt}{rest:List Stmt}{t u:TS}(h1:PS X st t)(h2:PSs X rest u):PSs X (st :: rest) (j1t t u):=a0k h1 h2
def Hs(H:Hp)(fs:List (Addr×HO)):Prop:=(fs.map (·.1)).Nodup/\∀ p∈fs,H p.1=some p.2
theorem Hs.nil{H:Hp}:Hs H []:=⟨List.nodup_nil,fun _ h=>nomatch h⟩
theorem Hs.fresh{H:Hp}{fs:List (Addr×HO)}{a:Addr}(F:Hs H fs)(n:H a=none):a∉fs.map (·.1):=fun h=>by
 obtain⟨p,hp,e⟩:=List.mem_map.mp h
 have:=F.2 p hp
 rw [e,n] at this
 cases this
def k1p(H:Hp)(cs:List Addr)(bs:List (List Int)):Prop:=cs.length=bs.length/\∀ (i:Nat) c b,cs[i]? = some c->bs[i]? = some b->H c=some (.lst (b.map V.int))
theorem k1p.two{H:Hp}{a b:Addr}{x y:List Int}(ha:H a=some (.lst (x.map V.int)))(hb:H b=some (.lst (y.map V.int))):k1p H [a,b] [x,y]:=by
 refine⟨rfl,fun i c d e1 e2=>?_⟩
 match i,e1,e2 with
 | 0,e1,e2=>cases e1; cases e2; exact ha
 | 1,e1,e2=>cases e1; cases e2; exact hb
 | i+2,e1,e2=>simp at e1
def g4z(H:Hp)(xs:List V)(v:V)(H':Hp):Prop:=∃ b,v = .ref b/\H b=none/\Same H H'/\H' b=some (.lst xs)
def g5a(H:Hp)(xs:List V)(v:V)(H':Hp):Prop:=∃ b,v = .ref b/\H b=none/\Same H H'/\H' b=some (.tup xs)
noncomputable def g8c(q:Rat):List V:=[.int q.num,.int (q.den:Nat)]
end L2
namespace L2
open PySem PySem.Spec PyProof.Rows
noncomputable def i6e(o:Obj):Option Value:=match o.data with
 | .fields vs=>vs[2]?
 | _=>none
def Kd(e:Addr)(d:Option Addr×Option Value)(h:Heap):Prop:=∃ o,h.get? e=some o/\o.dict=d.1/\i6e o=d.2
noncomputable def c7q{α:Type}:Sem α->Prop
 | .pure _=>True
 | .raise _=>True
 | .unsupported _=>True
 | .finish _=>True
 | .rule _ k=>c7q (k ())
 | .at _ k=>c7q (k ())
 | .load _ _ k=>∀ o,c7q (k o)
 | .update _ _ f k=>(∀ o:Obj,o.isFreed=false->(f o).isFreed=false/\(f o).dict=o.dict/\i6e (f o)=i6e o)/\c7q (k ())
 | .alloc _ k=>∀ a,c7q (k a)
 | .stack k=>∀ x,c7q (k x)
 | _=>False
theorem c7q.bind{α β:Type}{f:α->Sem β}(hf:∀ a,c7q (f a)):∀ {m:Sem α},c7q m->c7q (m >>= f):=by
 intro m
 induction m with
 | pure a=>intro _; exact hf a
 | raise e=>intro _; exact True.intro
 | unsupported w=>intro _; exact True.intro
 | finish e=>intro _; exact True.intro
 | rule t k ih=>intro h; exact ih () h
 | «at» p k ih => intro h; exact ih () h
 | load a p k ih=>intro h o; exact ih o (h o)
 | update a p g k ih=>intro h; exact⟨h.1,ih () h.2⟩
 | alloc o k ih=>intro h a; exact ih a (h a)
 | stack k ih=>intro h x; exact ih x (h x)
 | _=>intro h; exact False.elim h
theorem Kd.push{e:Addr}{d:Option Addr×Option Value}{h:Heap}(x:Kd e d h)(o:Obj):Kd e d (h.push o) :=
 let ⟨u,a,b⟩:=x; ⟨u,Heap.get?_push_of_some _ a,b⟩
theorem Kd.upd{e a:Addr}{d:Option Addr×Option Value}{h:Heap}{f:Obj->Obj}(x:Kd e d h)(hf:∀ o:Obj,o.isFreed=false->(f o).isFreed=false/\(f o).dict=o.dict/\i6e (f o)=i6e o):Kd e d (h.update a f):=by
 obtain⟨u,q,b⟩:=x
 have y:=hf u (Heap.get?_some_iff.mp q).2
 by_cases hb:a=e
 ·subst hb
  exact⟨_,Heap.get?_update_self f q y.1,y.2.1.trans b.1,y.2.2.trans b.2⟩
 ·exact⟨u,(Heap.get?_update_other h f hb).trans q,b⟩
theorem c7q.wp{α:Type}{M:Model}{Γ:PySem.Ctx}{e:Addr}{d:Option Addr×Option Value}{Q:α->Pos->Shared->Prop}{E:Value->Pos->Shared->Prop}:∀ {t:Sem α} {p:Pos} {s:Shared},c7q t->Sem.wp M Γ t Q E p s->Kd e d s.heap ->
  Sem.wp M Γ t (fun a p s'=>Q a p s'/\Kd e d s'.heap) (fun v p s'=>E v p s'/\Kd e d s'.heap) p s:=by
 intro t
 induction t with
 | pure a=>intro p s _ h k; rw [Sem.wp] at h ⊢; exact⟨h,k⟩
 | raise e=>intro p s _ h k; rw [Sem.wp] at h ⊢; exact⟨h,k⟩
 | unsupported w=>intro p s _ h k; rw [Sem.wp] at h; exact False.elim h
 | finish e=>intro p s _ h k; rw [Sem.wp] at h; exact False.elim h
 | rule t k ih=>intro p s m h q; rw [Sem.wp] at h ⊢; exact ih () m h q
 | «at» p k ih => intro p s m h q; rw [Sem.wp] at h ⊢; exact ih () m h q
 | load a p k ih=>intro p s m h q; rw [Sem.wp] at h ⊢; exact let ⟨o,x,y⟩:=h; ⟨o,x,ih o (m o) y q⟩
 | update a p g k ih=>intro p s m h q; rw [Sem.wp] at h ⊢; exact⟨h.1,ih () m.2 h.2 (q.upd m.1)⟩
 | alloc o k ih=>intro p s m h q; rw [Sem.wp] at h ⊢; exact ih _ (m _) h (q.push o)
 | stack k ih=>intro p s m h q; rw [Sem.wp] at h ⊢; exact ih _ (m _) h q
 | _=>intro p s m; exact False.elim m
theorem c7q.any{α:Type}{M:Model}{A:Around}{e:Addr}{d:Option Addr×Option Value}{Q:α->Shared->Prop}{E:Value->Shared->Prop}{t:Sem α}{s:Shared}(m:c7q t)(h:wpAny M A t Q E s)(k:Kd e d s.heap) :
  wpAny M A t (fun a s'=>Q a s'/\Kd e d s'.heap) (fun v s'=>E v s'/\Kd e d s'.heap) s:=fun Γ p hΓ=>m.wp (h Γ p hΓ) k
theorem d0j{v:Value}{i:Nat}:c7q (field v i):=by
 unfold field fieldsOf
 refine c7q.bind (fun vs=>?_) ?_
 ·split <;> exact True.intro
 ·split
  ·refine c7q.bind (fun o=>?_) (fun o=>True.intro)
   split <;> exact True.intro
  ·exact True.intro
theorem c3i{v x:Value}{i:Nat}(hi:i≠2):c7q (setField v i x):=by
 unfold setField updateField
 split
 ·refine c7q.bind (fun o=>?_) (fun o=>True.intro)
  split
  ·split
   ·refine⟨fun o ho=>?_,True.intro⟩
    obtain⟨c,dd,dt,sl⟩:=o
    cases dt with
    | fields vs=>exact⟨rfl,rfl,Array.getElem?_setIfInBounds_ne hi⟩
    | _=>first | exact⟨rfl,rfl,rfl⟩ | exact⟨ho,rfl,rfl⟩
   ·exact True.intro
  ·exact True.intro
 ·exact True.intro
theorem c8q{e:Value}:c7q (setFlight e none):=by
 unfold setFlight
 refine c7q.bind (fun v=>?_) d0j
 split
 ·exact c3i (by decide)
 ·exact True.intro
theorem g0g:∀ l:List Env,c7q (readyFrames l)
 | []=>True.intro
 | env :: outer=>by
  unfold readyFrames
  split
  ·refine c7q.bind (fun o=>?_) (fun o=>True.intro)
   split
   ·exact True.intro
   ·refine c7q.bind (fun b=>?_) ?_
    ·refine c7q.bind (fun v=>?_) ?_
     ·refine c7q.bind (fun _=>g0g outer) ⟨fun o ho=>?_,True.intro⟩
      obtain⟨c,dd,dt,sl⟩:=o
      cases dt <;> first | exact⟨rfl,rfl,rfl⟩ | exact⟨ho,rfl,rfl⟩
     ·unfold keptBack
      split
      ·split
       ·exact True.intro
       ·unfold underTheClaimsCaller
        exact c7q.bind (m:=(do return (<- stack).any fun (c,_)=>match c with | .builtin "claim.caller" _=>true | _=>false:Sem Bool)) (fun v=>by exact True.intro) (c7q.bind (m:=stack) (fun v=>by exact True.intro) fun _=>True.intro)
      ·exact True.intro
    ·unfold behindIsImport
     split
     ·exact True.intro
     ·split
      ·exact True.intro
      ·exact c7q.bind (fun v=>by exact True.intro) d0j
  ·exact True.intro
theorem f4n{e:Value}{env:Env}:c7q (noteFrame e env):=by
 have rest:∀ (f:Addr) (head:Value),c7q (do setField e 1 (<- EntryCells.newEntry head (<- PySem.frameOf env) .none (rawInt f) .none (<- entryPlaceOf f (head != .none)))):=fun f head=>by
  refine c7q.bind (fun a=>c7q.bind (fun pl=>c7q.bind (fun b=>c3i (by decide)) ?_) ?_) ?_
  ·unfold EntryCells.newEntry newFields newObj
   dsimp only
   generalize (([head,a,.none,rawInt f,.none] : List Value)++(if pl.isEmpty then List.replicate 6 .none else pl)).toArray=vs
   by_cases hz:vs.size > sizeLine+2
   ·rw [if_pos hz]
    exact True.intro
   ·rw [if_neg hz]
    exact fun _=>True.intro
  ·unfold entryPlaceOf
   refine c7q.bind (fun acts=>?_) (fun _=>True.intro)
   split <;> exact True.intro
  ·unfold PySem.frameOf frameEnvs
   refine c7q.bind (fun l=>c7q.bind (fun o=>?_) ?_) (c7q.bind (fun _=>by exact True.intro) fun _=>True.intro)
   ·split <;> exact True.intro
   ·unfold frameObject
    split
    ·exact True.intro
    ·exact c7q.bind (fun _=>by exact True.intro) (g0g _)
 unfold noteFrame
 split
 ·refine c7q.bind (fun head=>?_) d0j
  split
  ·refine c7q.bind (fun v=>?_) d0j
   split
   ·exact True.intro
   ·exact c7q.bind (fun _=>rest _ _) (c3i (by decide))
  ·exact rest _ _
 ·exact True.intro
theorem d3i{env:Env}{e:Value}:c7q (leaving env e):=by
 unfold leaving
 exact c7q.bind (fun _=>c8q) f4n
section
variable {M:Model}{A:Around}{E:Value->Shared->Prop}{s:Shared}{base:Heap}{env:Env}{outer l:List Env}{L e:Addr}{cls a0:Value}{dx:Option Addr×Option Value}{Q:Unit->Shared->Prop}
theorem f4o(hfr:A.frames=some (env :: outer))(hf:env.frame=some L)(hfl:Heap.FlyingW base (env :: outer) e cls a0 s.heap)(kd:Kd e dx s.heap)
  (hQ:∀ h',Heap.HeldW base (env :: outer) e cls a0 L h'->s.heap.UpToSlots h'->Kd e dx h'->Q () { s with heap:=h' }):wpAny M A (noteFrame (.ref e) env) Q E s:=by
 refine wpAny_mono (f4n.any (E:=fun _ _=>False) (wpAny_looks_onW (Q:=fun _ s'=>∃ h',s' = { s with heap:=h' }/\Heap.HeldW base (env :: outer) e cls a0 L h'/\s.heap.UpToSlots h') hfr hf hfl fun h' a b=>⟨h',rfl,a,b⟩) kd) (fun _ s' z=>?_) fun _ _ z=>z.1.elim
 obtain⟨⟨h',rfl,a,b⟩,c⟩:=z
 exact hQ h' a b c
theorem i3n(hh:Heap.HeldW base l e cls a0 L s.heap)(kd:Kd e dx s.heap)(hQ:∀ h',Heap.FlyingW base l e cls a0 h'->s.heap.UpToSlots h'->Kd e dx h'->Q () { s with heap:=h' }):wpAny M A (setFlight (.ref e) none) Q E s:=by
 refine wpAny_mono (c8q.any (E:=fun _ _=>False) (wpAny_landsW (Q:=fun _ s'=>∃ h',s' = { s with heap:=h' }/\Heap.FlyingW base l e cls a0 h'/\s.heap.UpToSlots h') hh fun h' a b=>⟨h',rfl,a,b⟩) kd) (fun _ s' z=>?_) fun _ _ z=>z.1.elim
 obtain⟨⟨h',rfl,a,b⟩,c⟩:=z
 exact hQ h' a b c
theorem i3o(hh:Heap.FlyingW base l e cls a0 s.heap)(kd:Kd e dx s.heap)(hQ:∀ h',Heap.FlyingW base l e cls a0 h'->s.heap.UpToSlots h'->Kd e dx h'->Q () { s with heap:=h' }):wpAny M A (setFlight (.ref e) none) Q E s:=by
 refine wpAny_mono (c8q.any (E:=fun _ _=>False) (lands_againW (Q:=fun _ s'=>∃ h',s' = { s with heap:=h' }/\Heap.FlyingW base l e cls a0 h'/\s.heap.UpToSlots h') hh fun h' a b=>⟨h',rfl,a,b⟩) kd) (fun _ s' z=>?_) fun _ _ z=>z.1.elim
 obtain⟨⟨h',rfl,a,b⟩,c⟩:=z
 exact hQ h' a b c
theorem h2v(hfr:A.frames=some (env :: outer))(hf:env.frame=some L)(hfl:Heap.FlyingW base (env :: outer) e cls a0 s.heap)(kd:Kd e dx s.heap)
  (hQ:∀ h',Heap.FlyingW base outer e cls a0 h'->s.heap.UpToSlots h'->Kd e dx h'->Q () { s with heap:=h' }):wpAny M A (leaving env (.ref e)) Q E s:=by
 refine wpAny_mono (d3i.any (E:=fun _ _=>False) (wpAny_leaves_onW (Q:=fun _ s'=>∃ h',s' = { s with heap:=h' }/\Heap.FlyingW base outer e cls a0 h'/\s.heap.UpToSlots h') hfr hf hfl fun h' a b=>⟨h',rfl,a,b⟩) kd) (fun _ s' z=>?_) fun _ _ z=>z.1.elim
 obtain⟨⟨h',rfl,a,b⟩,c⟩:=z
 exact hQ h' a b c
theorem d8h{oe:Obj}{vs:Array Value}(hfr:A.frames=some (env :: outer))(hf:env.frame=some L)(hl:s.heap.FunFrames base (env :: outer))(he:s.heap.get? e=some oe)(hc:oe.cls=cls)(hkb:base.StaysIn s.heap)(hen:base.get? e=none)
  (hd:oe.data = .fields vs) (h1:vs[1]? = some .none) (h0:vs[0]? = some a0) (hdx:oe.dict=dx.1) (hcx:i6e oe=dx.2)
  (hQ:∀ h',Heap.FlyingW base outer e cls a0 h'->s.heap.UpToSlots h'->Kd e dx h'->Q () { s with heap:=h' }):wpAny M A (leaving env (.ref e)) Q E s:=by
 subst hc
 refine wpAny_mono (d3i.any (e:=e) (d:=dx) (E:=fun _ _=>False) (wpAny_leaving_firstW (Q:=fun _ s'=>∃ h',s' = { s with heap:=h' }/\Heap.LeftW base (env :: outer) e oe.cls a0 s.heap h') hfr hl hf he hkb hen hd h1 h0 fun h' a=>⟨h',rfl,a⟩) ⟨_,he,hdx,hcx⟩) (fun _ s' z=>?_) fun _ _ z=>z.1.elim
 obtain⟨⟨h',rfl,⟨k1,⟨_,_,k2⟩,k3,k4⟩⟩,c⟩:=z
 exact hQ h' ⟨k1,hen,k2,k3⟩ k4 c
end
end L2
namespace L2
open PySem PySem.Spec PyProof.Rows
noncomputable def CXF(st:Bool)(P:Program)(w:World):CXT:=fun outer H s E e s'=>∃ (a:Addr) (C a0:Value) (B:Heap) (H':Hp),e = .ref a/\Heap.FlyingW B outer a C a0 s'.heap/\s'.os=s.os/\AllBare s'.gens /\
 (∀ h',B.StaysIn h'->s'.heap.UpToSlots h'->Un (frs outer) [] H H' s.heap h'/\HOk P w H' h')/\H' a=none/\s.heap.get? a=none/\∃ dx cx,Kd a (dx,cx) s'.heap/\(st=true->cx=some .none)/\E C dx H'
noncomputable abbrev CXE(P:Program)(w:World):CXT:=CXF false P w
theorem b0p.obj{P:Program}{w:World}{H:Hp}{h:Heap}{a:Addr}{o:HO}(x:b0p P w H h a o):∃ u,h.get? a=some u:=by
 cases o with
 | lst xs=>obtain⟨_,_,_,_,e⟩:=x; exact⟨_,e⟩
 | tup xs=>obtain⟨_,_,_,ob,e,_⟩:=x; exact⟨_,e⟩
 | dK kvs=>obtain⟨_,_,_,_,o,_,_,e,_⟩:=x; exact⟨_,e⟩
 | dT kvs=>obtain⟨_,_,_,_,o,_,_,e,_⟩:=x; exact⟨_,e⟩
 | set S n=>obtain⟨o,_,_,_,e,_⟩:=x; exact⟨_,e⟩
 | ins C dx fs=>obtain⟨_,_,_,e,_⟩:=x; exact⟨_,e⟩
 | own y=>obtain⟨_,e⟩:=x; exact⟨_,e⟩
 | xd fs=>obtain⟨_,⟨_,_,_,e,_⟩,_⟩:=x; exact⟨_,e⟩
 | rng lo hi=>obtain⟨_,_,_,e⟩:=x; exact⟨_,e⟩
 | frz ob u=>obtain⟨e,_⟩:=x; exact⟨_,e⟩
 | tbl ps=>exact⟨_,(show h.get? a=some _ from x)⟩
 | met f y=>exact⟨_,(show h.get? a=some _ from x)⟩
 | ext φ=>obtain⟨_,⟨_,e⟩,_⟩:=x; exact⟨_,e⟩
section
variable {X:Cx}{pins:List (Addr×Obj)}{σ:St}{H:Hp}{s:Shared}
theorem h6l{e:Addr}{cls:Value}{args:List Value}{h1 h':Heap}(I:Inv X pins σ H s)(hx:Heap.MadeExcOf s.heap h1 e cls args)(hB:(PySem.W.hideAll s.heap (frs X.stack)).StaysIn h')(hU:h1.UpToSlots h') :
  Un (frs X.stack) [] H H s.heap h'/\HOk X.prog X.w H h':=by
 have kb:∀ b o,s.heap.get? b=some o->b∉frs X.stack->h'.get? b=some o:=fun b o q n=>hB b o (PySem.W.hideAll_get _ q n)
 have kf:∀ b o,s.heap.get? b=some o->b∈frs X.stack->∃ sl,h'.get? b=some { o with slots:=sl }:=fun b o q hb=>by
  obtain⟨_,o',q',nf⟩:=I.stack.mem hb
  rw [q] at q'
  cases q'
  exact hU b o (hx.keeps b o q) nf
 refine⟨⟨fun b o q _ hb _=>kb b o q hb,fun b o q _ hb _=>kf b o q hb,fun _ _ _ n _=>n,fun b o q _=>?_,fun _ _ q=>q,fun _ _ _ q=>q,fun _ ps q=>⟨#[],by rw [q]; simp⟩⟩,fun a o e=>?_⟩
 ·by_cases hb:b∈frs X.stack
  ·obtain⟨sl,z⟩:=kf b o q hb
   exact⟨_,z⟩
  ·exact⟨o,kb b o q hb⟩
 ·refine (I.hok a o e).stay (fun b u hb q=>kb b u q fun z=>?_) (fun _ q=>q) fun _ _ q=>q
  have hn:=I.d9v b z
  rcases hb with r | r
  ·rw [r,e] at hn
   cases hn
  ·rw [hn] at r
   cases r
theorem g5b{e:Addr}{cls:Value}{args:List Value}{h1:Heap}(I:Inv X pins σ H s)(hx:Heap.MadeExcOf s.heap h1 e cls args):H e=none:=by
 cases q:H e with
 | none=>rfl
 | some o =>
  obtain⟨u,z⟩:=(I.hok e o q).obj
  rw [hx.new] at z
  cases z
theorem Inv.caught{H':Hp}{s':Shared}{h':Heap}{t':Nat}(I:Inv X pins σ H s)(os:s'.os=s.os)(bare:AllBare s'.gens)(u:Un (frs X.stack) [] H H' s.heap h')(hok:HOk X.prog X.w H' h'):Inv X pins σ H' { s' with heap:=h',toks:=t' }:=by
 obtain⟨hh,g,d,t,os'⟩:=s'
 obtain rfl:os'=s.os:=os
 exact Inv.call (s:=s) (h':=h') (g':=g) (d':=d) (t':=t') (ch:=[]) I u hok bare (fun b z=>absurd z (by simp))
theorem Inv.older{a:Addr}(I:Inv X pins σ H s)(hex:X.ex = [])(h:s.heap.get? a=none):X.s₀.heap.get? a=none:=by
 cases q:X.s₀.heap.get? a with
 | none=>rfl
 | some o =>
  obtain⟨o',z⟩:=I.base.there a o q (by rw [hex]; simp)
  rw [h] at z
  cases z
theorem Inv.track{a:Addr}{o:HO}(I:Inv X pins σ H s)(h1:X.s₀.heap.get? a=none)(h2:a≠X.env.locals)(h3:∀ x c,X.env.cells.lookup x=some c->c≠a)(h4:∀ p∈X.pn++pins,p.1≠a)(hH:H a=none)
  (new:b0p X.prog X.w (upd H a o) s.heap a o):Inv X pins σ (upd H a o) s:=by
 refine⟨I.ok,I.os,I.bare,⟨I.base.keep,I.base.slot,fun b u q n hx=>?_,I.base.there,fun b xs q=>?_,fun b u xs q=>?_,fun b ps q=>?_⟩,I.loc,I.cell,?_,fun x c e=>?_,fun p hp=>?_,fun b u e=>?_,I.len⟩
 ·rw [a7m (fun z=>by rw [z,h1] at q; cases q)]
  exact I.base.free b u q n hx
 ·have z:=I.base.tups b xs q
  rw [a7m (a9y z hH)]
  exact z
 ·have z:=I.base.g0a b u xs q
  rw [a7m (a9y z hH)]
  exact z
 ·obtain⟨m,z⟩:=I.base.g1p b ps q
  exact⟨m,by rw [a7m (a9y z hH)]; exact z⟩
 ·rw [a7m h2.symm]
  exact I.free
 ·rw [a7m (h3 x c e)]
  exact I.d5o x c e
 ·obtain⟨e,n,ne,nf,d⟩:=I.pin p hp
  exact⟨e,by rw [a7m (h4 p hp)]; exact n,ne,nf,d⟩
 ·by_cases hb:b=a
  ·subst hb
   rw [a6m] at e
   cases e
   exact new
  ·rw [a7m hb] at e
   exact (I.hok b u e).stay (fun _ _ _ q=>q) (fun c q=>by rw [a7m (a9y q hH)]; exact q) fun c xs q=>by rw [a7m (a9y q hH)]; exact q
def i3p(X:Cx)(E:XK):Prop:=∀ (pins:List (Addr×Obj)) (σ:St) (H:Hp) (s:Shared) (e C:Addr) (args:List Value) (h':Heap),Inv X pins σ H s->Heap.MadeExcOf s.heap h' e (.ref C) args->E (.ref C) none H->X.xe (.ref e) { s with heap:=h' }
end
section
variable {P:Program}{w:World}{K:PySem.W.Frag}{mg:Str->Option Value}{base:Heap}{N:List Str}{qual:Str}{scope:Scope}{f:Addr}{cd:Value}{A:Around}{outer:List Env}{s:Shared}{H:Hp}{E:XK}
theorem a8h{st:Bool}:i3p (h2q (CXF st P w) P w K mg base N qual scope f cd A outer s H E) E:=by
 intro pins σ H1 s1 e C args h1 I hx he
 show wpAny (model P w) (A.deeper (envOfC qual scope s.heap.objs.size f cd)) (leaving (envOfC qual scope s.heap.objs.size f cd) (.ref e)) (fun _ s''=>CXF st P w outer H s E (.ref e) s'') (fun e' s''=>CXF st P w outer H s E e' s'') { s1 with heap:=h1 }
 have hin:∀ env∈(envOfC qual scope s.heap.objs.size f cd :: outer),∀ b,env.frame=some b->b∈frs (envOfC qual scope s.heap.objs.size f cd :: outer):=fun env he b hb=>List.mem_filterMap.mpr ⟨env,he,hb⟩
 obtain⟨t,he0,htn,ht⟩:=hx.there
 have hkb:(PySem.W.hideAll s1.heap (frs (envOfC qual scope s.heap.objs.size f cd :: outer))).StaysIn s1.heap:=fun b o q=>PySem.W.of_hideAll _ q
 have hno:(PySem.W.hideAll s1.heap (frs (envOfC qual scope s.heap.objs.size f cd :: outer))).get? e=none:=by
  cases q:(PySem.W.hideAll s1.heap (frs (envOfC qual scope s.heap.objs.size f cd :: outer))).get? e with
  | none=>rfl
  | some o=>have z:=hkb e o q; rw [hx.new] at z; cases z
 refine d8h (base:=PySem.W.hideAll s1.heap (frs (envOfC qual scope s.heap.objs.size f cd :: outer))) I.ok.frames rfl ((PySem.W.funFrames_hide I.stack hin).of_keeps fun b o hb _=>⟨o,hx.keeps b o hb,rfl⟩) he0 rfl (fun b o hb=>hx.keeps b o (hkb b o hb)) hno rfl rfl rfl (dx:=(none,some .none)) rfl rfl fun h2 fl u kd=>?_
 refine⟨e,.ref C,.ref t,_,H1,rfl,fl,I.os,I.bare,fun h3 b3 u3=>?_,g5b I hx,I.older rfl hx.new,none,some .none,kd,fun _=>rfl,he⟩
 have z:=h6l I hx b3 (u.trans u3)
 exact⟨(I.caught (s':=s1) (t':=0) rfl I.bare z.1 z.2).base,z.2⟩
theorem b2v:Passes (CXE P w) (h2q (CXE P w) P w K mg base N qual scope f cd A outer s H E) E:=by
 intro pins σ H1 s1 e s' I h
 obtain⟨a,C,a0,B,H',rfl,fl,os,bare,un,hn,nw,dx,cx,kd,hcx,he⟩:=h
 show wpAny (model P w) (A.deeper (envOfC qual scope s.heap.objs.size f cd)) (leaving (envOfC qual scope s.heap.objs.size f cd) (.ref a)) (fun _ s''=>CXE P w outer H s E (.ref a) s'') (fun e' s''=>CXE P w outer H s E e' s'') s'
 refine h2v I.ok.frames rfl fl kd fun h2 fl2 u2 kd2=>?_
 refine⟨a,C,a0,B,H',rfl,fl2,os.trans I.os,bare,fun h3 b3 u3=>?_,hn,I.older rfl nw,dx,cx,kd2,hcx,he⟩
 have z:=un h3 b3 (u2.trans u3)
 exact⟨(I.caught (s':=s') (t':=0) os bare z.1 z.2).base,z.2⟩
theorem Fun.okX{x:Str}{st:Stmt}{fd:FuncData}{ps:List Str}{k:Nat}{sp:Sp}(F:Fun K x qual st f fd)(S:a1n N ps (a0r st))(len:∀ vs H Q E,sp vs H Q E->vs.length=ps.length)
  (hbody:∀ (cdv:Value) (A:Around) (outer:List Env) (s:Shared) (H:Hp) (vs:List V) (Q:VK) (E:XK),c7p k (A.deeper (envOfC qual (a0r st) s.heap.objs.size f cdv))->sp vs H Q E ->
   ∃ t,PSs (h2q (CXE P w) P w K mg base N qual (a0r st) f cdv A outer s H E) (d6k st) t/\t { nx:=fun _ H'=>Q .non H',rt:=Q } (start N vs) H):a2m P w K mg base (CXE P w) (k+1) f fd ps sp:=by
 obtain⟨oc,od,kV,doc,pm,an,cdv,ct,osl,rfl,lk,hcd⟩:=F.ex
 exact i5n lk hcd S len fun A outer s H vs Q E hr hsp=>hbody cdv A outer s H vs Q E hr hsp
end
theorem a2m.or{P:Program}{w:World}{K:PySem.W.Frag}{mg:Str->Option Value}{base:Heap}{k:Nat}{f:Addr}{fd:FuncData}{ps:List Str}{sp sp':Sp}(F:a2m P w K mg base CX0 k f fd ps sp)(G:a2m P w K mg base (CXE P w) k f fd ps sp') :
  a2m P w K mg base (CXE P w) k f fd ps (fun vs H Q E=>sp vs H Q E\/sp' vs H Q E):=by
 refine⟨fun vs H Q E h=>h.elim (F.len vs H Q E) (G.len vs H Q E),fun A outer s H args us vs Q E hr e0 hb hv h=>?_⟩
 rcases h with h | h
 ·refine codeAny_mono (F.run A outer s H args us vs Q E hr e0 hb hv h) fun r s' q=>?_
  cases r with
  | error e=>exact False.elim q
  | ok fl=>cases fl <;> exact q
 ·exact G.run A outer s H args us vs Q E hr e0 hb hv h
abbrev vE:List Value:=[.type "ValueError",.type "Exception",.type "BaseException",.type "object"]
structure Exc(K:PySem.W.Frag)(C:Addr):Prop where
 ok:PySem.W.excIn K C vE "ValueError.__new__"=true
theorem h6m{K:PySem.W.Frag}{h:Heap}{C:Addr}{bmB:List Value}{newId:String}(X:K.In h)(q:PySem.W.excIn K C bmB newId=true) :
  ∃ bm N nm qn bs hdct sn sub ab col dd k0 k1 k2 k3 k5 mN,h.get? C=some (excClassObj nm qn C N bs bm hdct sn sub ab col dd k0 k1 k2 k3 k5 newId)/\h.Ns N mN/\mN "__init__"=none/\OwnTail h bmB bm:=by
 unfold PySem.W.excIn at q
 split at q
 ·rename_i dd cd sl ho
  split at q
  ·rename_i C' bm k0 k1 k2 k3 n k5 hm hs
   simp only [Bool.and_eq_true,beq_iff_eq,Bool.not_eq_true'] at q
   obtain⟨⟨⟨⟨⟨q1,q2⟩,hdel⟩,ht⟩,hok⟩,hni⟩:=q
   subst q1 q2
   obtain⟨nm,bs,mro,ns,qn,hd,sn,sub,ab,col,del⟩:=cd
   dsimp only at hm hdel hok hni
   subst hm hdel
   obtain⟨l⟩:=sl
   have hs':l = [k0,k1,k2,k3,some (.builtin n),k5]:=hs
   subst hs'
   exact⟨bm,ns,nm,qn,bs,hd,sn,sub,ab,col,dd,k0,k1,k2,k3,k5,_,X _ _ ho,.of_isNs (PySem.W.isNs_of_in X hok),PySem.W.nsMap_none_of_in X hok hni,PySem.W.tail_of_in X ht⟩
  ·cases q
 ·cases q
section
variable {X:Cx}{e₀:Expr}{rest:List Expr}{t:TA}{x:Str}{C:Addr}{E:XK}{np cpos pos:Pos}
def j1u(C:Addr)(E:XK)(t:TA):TS:=fun _ σ H=>t σ H fun vs H1=>vs.length<=sizeLine/\E (.ref C) none H1
theorem a8i(O:Exc X.K C)(hm:X.mg x=some (.ref C))(hT:i3p X E)(hc:X.calm=true)(hg:Gl X x)(ha:PA X (e₀ :: rest) t)
  (he:starEach (e₀ :: rest) X.env=(false,eval e₀ X.env) :: starEach rest X.env:=by rfl) (hplain:(backTo cpos (starEach rest X.env)).any (·.1)=false:=by rfl) (hd:(x == ("__debug__":Str))=false:=by decide) :
  PS X (.Raise (some (.Call (.Name x np) (e₀ :: rest) [] cpos)) none pos) (j1u C E t):=by
 intro pins s σ H D I h
 obtain⟨bm,N,nm,qn,bs,hdct,sn,sub,ab,col,dd,k0,k1,k2,k3,k5,mN,hC,hN,hni,T⟩:=h6m (h:=X.base) I.ok.mod.kin O.ok
 refine wpAny_Raise_call_subT (C:=C) (nm:=nm) (q:=qn) (N:=N) (bs:=bs) (bm:=bm) (hdct:=hdct) (sn:=sn) (sub:=sub) (ab:=ab) (col:=col) (dd:=dd) (k0:=k0) (k1:=k1) (k2:=k2) (k3:=k3) (k5:=k5)
  PySem.F.excBase_ValueError (mN:=mN) (T.hasType PySem.F.excBase_ValueError.hasBase) (I.ok.hd hc) (by rw [he]; show (false || (backTo cpos (starEach rest X.env)).any (·.1))=false; rw [hplain]; rfl) hni (c1v I hg hm ⟨rfl,?_⟩ hd)
 have hA:=ha cpos pins s σ H _ I h
 rw [he] at hA ⊢
 refine Calls.evalArgs_plain (wpAny_mono hA (fun us s2 h2=>?_) fun _ _ y=>y)
 obtain⟨vs,H1,I1,r,hl,hE⟩:=h2
 refine⟨rfl,?_,I1.bk _ _ hC,hN.keeps I1.bk,T.keeps I1.bk,fun h' e hx=>hT pins σ H1 s2 e C _ h' I1 hx hE⟩
 show us.length<=sizeLine
 rw [<- r.length]
 exact hl
end
structure d3j(K:PySem.W.Frag)(C:Addr):Prop where
 ga:PySem.W.findIn K (.ref C) "__getattribute__"=some (some (.builtin "BaseException.__getattribute__"))
 cl:PySem.W.findIn K (.ref C) "__class__"=some (some (.builtin "object.__class__"))
 ng:PySem.W.findIn K (.ref C) "__getattr__"=some none
 so:PySem.W.subIn K (.ref C) (.type "object")=some true
 sb:PySem.W.subIn K (.ref C) (.type "BaseException")=some true
 ty:PySem.W.typeIn K (.ref C)=some (.type "type")
 ic:PySem.W.isClsIn K C=true
 ss:PySem.W.subIn K (.ref C) (.ref C)=some true
theorem a0v{K:PySem.W.Frag}{C D:Addr}{b:Bool}(h:PySem.W.subIn K (.ref C) (.ref D)=some b)(c:d3j K C)(d:d3j K D):PySem.W.kitOne K (.ref C) (.ref D)=some b:=by
 unfold PySem.W.kitOne
 by_cases e:(Value.ref C == Value.ref D)=true
 ·rw [if_pos e]
  have z:C=D:=Value.ref.inj (beq_iff_eq.mp e)
  subst z
  rw [<- h,c.ss]
 ·rw [if_neg e]
  unfold PySem.W.kitCls
  have z:((PySem.W.clsIn K D).isSome && PySem.W.typeIn K (.ref D) == some (.type "type"))=true:=by
   rw [d.ty,show (PySem.W.clsIn K D).isSome=true from d.ic]
   rfl
  dsimp only
  rw [if_pos z]
  exact h
theorem b7h{K:PySem.W.Frag}{D:Addr}{n:String}{b:Bool}(h:PySem.W.subIn K (.type n) (.ref D)=some b)(d:d3j K D):PySem.W.kitOne K (.type n) (.ref D)=some b:=by
 unfold PySem.W.kitOne
 rw [if_neg (by simp)]
 unfold PySem.W.kitCls
 have z:((PySem.W.clsIn K D).isSome && PySem.W.typeIn K (.ref D) == some (.type "type"))=true:=by
  rw [d.ty,show (PySem.W.clsIn K D).isSome=true from d.ic]
  rfl
 dsimp only
 rw [if_pos z]
 exact h
theorem c7r{K:PySem.W.Frag}{C:Addr}{n:String}{b:Bool}(h:PySem.W.subIn K (.ref C) (.type n)=some b)(hm:PySem.W.kitMeta n=true):PySem.W.kitOne K (.ref C) (.type n)=some b:=by
 unfold PySem.W.kitOne
 rw [if_neg (by simp)]
 unfold PySem.W.kitCls
 dsimp only
 rw [if_pos hm]
 exact h
theorem c1n:PySem.W.kitMeta "ValueError"=true:=by kernel_rfl
section
variable {prog:Program}{w:World}{A:Around}{E:Value->Shared->Prop}{h:Heap}{g:Array GenState}{d:Drawn}{t:Nat}{os:OsState}{a C:Addr}{o:Obj}{K:PySem.W.Frag}
theorem j1v{R:Result->Shared->Prop}(X:K.In h)(Z:d3j K C)(hx:h.get? a=some o)(hc:o.cls = .ref C)(hq:R (.ok (.ret (.ref C))) ⟨h,g,d,t,os⟩) :
  codeAny (model prog w) A (.call (.builtin "getset_descriptor.__get__") ⟨[.builtin "object.__class__",.ref a,.ref C],[]⟩) R ⟨h,g,d,t,os⟩:=by
 have hT5:(⟨h,g,d,t,os⟩:Shared).TypeIs (.builtin "object.__class__") "getset_descriptor":=F.typeOf_object_class
 have hs : PySem.W.subIn K (.ref C) (.type (".".intercalate ("object.__class__".cutAt '.').dropLast)) = some true := by rw [F.owner_object_class]; exact Z.so
 refine codeAny_call_builtin F.slot_gs_get.plain F.entry_gs_get (F.slot_gs_get.check _ _ _ _ _ _ _ _ hT5 (F.args_gs_get _ _ _) ?_)
 repeat (any_goals (first | assumption | (with_reducible refine wpAny_loadPart_at hx ?_; rw [hc]) | with_reducible refine PySem.W.Looks.here (PySem.W.looks_subIn X hs) ?_ | wp_step))
 refine⟨Code.quiet_builtin _ (by decide +kernel),codeAny_builtin F.entry_object_class ?_⟩
 repeat (any_goals (first | assumption | (with_reducible refine wpAny_loadPart_at hx ?_; rw [hc]) | wp_step))
theorem h0y{M:Model}{nameV:Value}{Q:Unit->Shared->Prop}(X:K.In h)(Z:d3j K C)(hx:h.get? a=some o)(hc:o.cls = .ref C)(hq:Q () ⟨h,g,d,t,os⟩) :
  wpAny M A (checkBuiltinCall "BaseException.__getattribute__" ⟨[.ref a,nameV],[]⟩) Q E ⟨h,g,d,t,os⟩:=by
 have hk:builtinKind "BaseException.__getattribute__"=some .slot:=by decide +kernel
 have hsplit:splitId "BaseException.__getattribute__"=some ("BaseException","__getattribute__"):=by decide +kernel
 have ha:=F.args_bexc_ga (.ref a) nameV
 simp only [checkBuiltinCall,hk,hsplit]
 refine wpAny_bind ?_
 ·unfold isInstance
  repeat (first | (with_reducible refine wpAny_loadPart_at hx ?_; rw [hc]) | with_reducible refine PySem.W.Looks.here (PySem.W.looks_subIn X Z.sb) ?_ | wp_step)
  exact hq
theorem i0i{tk:Tok}{Q:Fin->Shared->Prop}(X:K.In h)(Z:d3j K C)(hx:h.get? a=some o)(hc:o.cls = .ref C)(hq:Q (.done (.ret (.ref C))) ⟨h,g,d,t,os⟩) :
  wpAny (model prog w) A (Builtin.«object.__getattribute__» ⟨[.ref a, .str "__class__" tk], []⟩) Q E ⟨h, g, d, t, os⟩ := by
 have hT5:(⟨h,g,d,t,os⟩:Shared).TypeIs (.builtin "object.__class__") "getset_descriptor":=F.typeOf_object_class
 have f5:=F.typeOf_object_class
 have f6:=F.slot_gs_get.lookup
 have f7:=F.slot_gs_set.lookup
 repeat (any_goals (first | assumption | (with_reducible refine wpAny_loadPart_at hx ?_; rw [hc]) | with_reducible refine PySem.W.Looks.here (PySem.W.looks_findIn X Z.cl) ?_ | wp_step))
 refine j1v X Z hx hc ?_
 repeat (any_goals (first | assumption | wp_step))
theorem j7u{tk:Tok}{Q:Value->Shared->Prop}(X:K.In h)(Z:d3j K C)(hx:h.get? a=some o)(hc:o.cls = .ref C)(hq:Q (.ref C) ⟨h,g,d,t,os⟩) :
  wpAny (model prog w) A (getAttrBy (.ref a) (.str "__class__" tk) false) Q E ⟨h,g,d,t,os⟩:=by
 have f3:=F.attrBase_ValueError.ga.bind (.ref a)
 have hx2:(Value.builtin "BaseException.__getattribute__" == Value.builtin "object.__getattribute__")=false:=by decide +kernel
 have hx1:(onTheHeap (Value.ref C) && Value.builtin "BaseException.__getattribute__" == Value.builtin "object.__getattribute__")=false:=by rw [hx2]; rfl
 repeat (any_goals (first | assumption | (with_reducible refine wpAny_loadPart_at hx ?_; rw [hc]) | with_reducible refine PySem.W.Looks.here (PySem.W.looks_findIn X Z.ga) ?_ | with_reducible refine PySem.W.Looks.here (PySem.W.looks_findIn X Z.ng) ?_ | wp_step))
 refine codeAny_call_builtin F.attrBase_ValueError.ga.plain F.entry_bexc_ga (h0y X Z hx hc (i0i X Z hx hc ?_))
 repeat (any_goals (first | assumption | wp_step))
theorem i6f{Q:Option Value->Shared->Prop}(X:K.In h)(Z:d3j K C)(hx:h.get? a=some o)(hc:o.cls = .ref C)(hq:Q (some (.ref C)) ⟨h,g,d,t+1,os⟩) :
  wpAny (model prog w) A (getAttr? (.ref a) "__class__") Q E ⟨h,g,d,t,os⟩:=by
 unfold getAttr? getAttrBy?
 repeat (any_goals (first | assumption | with_reducible apply j7u X Z hx hc | wp_step))
theorem h0z(Z:d3j K C):PySem.W.KitX K (.ref a) (.ref C) (fun h=>∃ o,h.get? a=some o/\o.cls = .ref C) where
 ty:=fun M h X p=>by
  obtain⟨o,e,c⟩:=p
  intro A Q E s k q
  obtain⟨hp,g,d,t,os⟩:=s
  have hx:hp.get? a=some o:=k _ _ e
  repeat (any_goals (first | assumption | (with_reducible refine wpAny_loadPart_at hx ?_; rw [c]) | wp_step))
 it:=fun M h X _=>by
  have z:=Z.ic
  unfold PySem.W.isClsIn PySem.W.clsIn at z
  split at z
  ·rename_i c' d' cd' sl' ho
   intro A' Q' E' s' k q
   unfold isType loadHead
   exact wpAny_bind (wpAny_loadPart (k _ _ (X _ _ ho)) (wpAny_pure q))
  ·cases z
 ne:=fun h tp dd its n sl X htp=>by
  refine Bool.eq_false_iff.mpr fun q=>?_
  have e:C=tp:=Value.ref.inj (beq_iff_eq.mp q)
  subst e
  have z:=Z.ic
  unfold PySem.W.isClsIn PySem.W.clsIn at z
  split at z
  ·rename_i c' d' cd' sl' ho
   have y:=(X _ _ ho).symm.trans htp
   cases y
  ·cases z
 ca:=fun {prog w A E Q s} X p k=>by
  obtain⟨o,e,c⟩:=p
  obtain⟨hp,g,d,t,os⟩:=s
  exact i6f X Z e c k
end
noncomputable def j1w(a:Addr)(C:Value):HO:=.ext fun h=>∃ o,h.get? a=some o/\o.cls=C
noncomputable def i6g(a:Addr)(C:Value)(d:Addr):HO:=.ext fun h=>∃ o,h.get? a=some o/\o.cls=C/\o.dict=some d/\∃ vs,o.data = .fields vs
noncomputable def i3q(a:Addr)(C:Value):Option Addr->HO
 | none=>j1w a C
 | some d=>i6g a C d
section
variable {X:Cx}
noncomputable def k1q(K:PySem.W.Frag):List V->Hp->VK->Prop:=fun xs H Q=>match xs with
 | [.non,.ref D]=>(∃ b,PySem.W.kitOne K (.type "NoneType") (.ref D)=some b/\Q (.bl b) H)
 | [.ref a,.ref D]=>∃ C b,H a=some (j1w a (.ref C))/\d3j K C/\PySem.W.kitOne K (.ref C) (.ref D)=some b/\Q (.bl b) H
 | [.ref a,.ty n]=>∃ C b,H a=some (j1w a (.ref C))/\d3j K C/\PySem.W.kitOne K (.ref C) (.type n)=some b/\Q (.bl b) H
 | [.non,.ty n]=>(∃ b,PySem.W.kitOne K (.type "NoneType") (.type n)=some b/\Q (.bl b) H)
 | _=>False
theorem h6n{pins:List (Addr×Obj)}{σ:St}{H:Hp}{s:Shared}{a C:Addr}{c:Value}{b:Bool}{A:Around}{E:Value->Shared->Prop}{Q:Value->Shared->Prop}(I:Inv X pins σ H s)(ha:H a=some (j1w a (.ref C)))(Z:d3j X.K C)(e:PySem.W.kitOne X.K (.ref C) c=some b)
  (h:∀ tk,Q (.bool b) { s with toks:=tk }):wpAny (model X.prog X.w) A (call (.builtin "isinstance") [.ref a,c]) Q E s:=by
 obtain⟨p,_,_⟩:=(show b0p X.prog X.w H s.heap a (j1w a (.ref C)) from I.hok a _ ha)
 exact PySem.W.kia_one (h0z Z) I.kIn p e (fun z=>nomatch z) h
theorem i0j:d0i X (.builtin "isinstance") (k1q X.K):=by
 intro pins s σ H xs us Q I r h
 match xs,r,h with
 | [.non,.ref D],r,⟨b,e,q⟩ =>
  obtain⟨u,v,rfl,r1,r2⟩:=vals2 r
  cases (show v=Value.ref D from r2)
  exact f4g I r1 .non e fun tk=>⟨.bl b,H,I.tok tk,rfl,q⟩
 | [.non,.ty n],r,⟨b,e,q⟩ =>
  obtain⟨u,v,rfl,r1,r2⟩:=vals2 r
  cases (show v=Value.type n from r2)
  exact f4g I r1 .non e fun tk=>⟨.bl b,H,I.tok tk,rfl,q⟩
 | [.ref a,.ref D],r,⟨C,b,ha,Z,e,q⟩ =>
  obtain⟨u,v,rfl,r1,r2⟩:=vals2 r
  cases (show v=Value.ref D from r2)
  cases (show u=Value.ref a from r1)
  exact h6n I ha Z e fun tk=>⟨.bl b,H,I.tok tk,rfl,q⟩
 | [.ref a,.ty n],r,⟨C,b,ha,Z,e,q⟩ =>
  obtain⟨u,v,rfl,r1,r2⟩:=vals2 r
  cases (show v=Value.type n from r2)
  cases (show u=Value.ref a from r1)
  exact h6n I ha Z e fun tk=>⟨.bl b,H,I.tok tk,rfl,q⟩
end
def XPo(X:Cx)(pins:List (Addr×Obj))(σ:St)(E:XK)(e:Value)(s':Shared):Prop:=∃ H1 s1,Inv X pins σ H1 s1/\CXE X.prog X.w X.stack H1 s1 E e s'
def PEX(X:Cx)(e:Expr)(t:TE)(E:XK):Prop :=
 ∀ (pins:List (Addr×Obj)) (s:Shared) (σ:St) (H:Hp) (Q:VK),Inv X pins σ H s->t σ H Q->wpAny (model X.prog X.w) X.A (eval e X.env) (EP X pins σ Q) (XPo X pins σ E) s
def PSX(X:Cx)(st:Stmt)(t:TS)(E:XK):Prop :=
 ∀ (pins:List (Addr×Obj)) (s:Shared) (σ:St) (H:Hp) (D:Ends),Inv X pins σ H s->t D σ H->wpAny (model X.prog X.w) X.A (exec st X.env) (SP X pins D) (XPo X pins σ E) s
section
variable {X:Cx}{k:Nat}{f C:Addr}{fd:FuncData}{ps:List Str}{sp:Sp}{dvs:List V}{ds:List Value}{E:XK}{x m:Str}{p pos apos:Pos}{e o:Expr}{es:List Expr}{ta:TE}{t:TA}
theorem i6h{pins:List (Addr×Obj)}{σ:St}{H:Hp}{s:Shared}{Q:VK}{us:List Value}{vs:List V}(F:a2m X.prog X.w X.K X.mg X.base (CXE X.prog X.w) k f fd ps sp)(hr:c7p k X.A)(hb:Binds X.K fd ps ds)(hd:Vals dvs ds)
  (I:Inv X pins σ H s) (r:Vals vs us) (h:sp (vs++dvs) H Q E):wpAny (model X.prog X.w) X.A (call (.ref f) us) (EP X pins σ Q) (XPo X pins σ E) s:=by
 have r2:Vals (vs++dvs) (us++ds):=r.append hd
 have hl:(us++ds).length=ps.length:=by rw [<- r2.length]; exact F.len _ _ _ _ h
 refine wpAny_call (codeAny_mono (F.run X.A X.stack s H ⟨us,[]⟩ (us++ds) (vs++dvs) Q E hr I.env0 (hb s us I.kIn hl) r2 h) fun r s' hq=>?_)
 cases r with
 | error e=>exact⟨H,s,I,hq⟩
 | ok fl =>
  cases fl with
  | ret u=>exact I.after hq
  | next=>exact False.elim hq
  | brk=>exact False.elim hq
  | cont=>exact False.elim hq
theorem g1v(F:a2m X.prog X.w X.K X.mg X.base (CXE X.prog X.w) k f fd ps sp)(hr:c7p k X.A)(hg:Gl X x)(hm:X.mg x=some (.ref f))(hk:PySem.W.keepIn X.K (.ref f)=true)(hb:Binds X.K fd ps ds)(hd:Vals dvs ds)
  (ha:PA X.nox (e :: es) t) (hdb:(x == ("__debug__":Str))=false:=by decide) (he:starEach (e :: es) X.env=(false,eval e X.env) :: starEach es X.env:=by rfl) (hpl:(backTo pos (starEach es X.env)).any (·.1)=false:=by rfl) :
  PEX X (.Call (.Name x p) (e :: es) [] pos) (h9v sp dvs E t) E:=by
 intro pins s σ H Q I h
 refine wpAny_Call_Name_kw (c1v I hg hm ?_ hdb)
 refine PySem.W.callWith_K (h₀:=X.base) I.ok.mod.kin hk (wpAny_mono (ha pos pins s σ H _ (I.wish _) h) (fun us s1 ⟨vs,H1,I1,r,q⟩=>⟨I1.c3h.kIn,?_⟩) fun _ _ z=>False.elim z) he hpl
 exact i6h F hr hb hd I1.c3h r q
theorem h1a{te:TE}(he:PEX X e te E)(hs:swapsWith e none pos.line X.env=pure false:=by rfl):PSX X (.Expr e pos) (h9n te) E:=by
 intro pins s σ H D I h
 exact wpAny_Expr_any (thn (he pins s σ H _ I h) fun v s1 ⟨x,H1,I1,r1,q1⟩=>⟨σ,H1,I1,q1⟩) I.quiet hs
end
section
variable {X:Cx}{pins:List (Addr×Obj)}{σ:St}{H:Hp}{s:Shared}
noncomputable abbrev Cx.held(X:Cx)(e:Addr):Cx:={ X with A:=X.A.mark (some (.ref e)),calm:=false,xe:=fun _ _=>False }
theorem Inv.held(I:Inv X pins σ H s)(e:Addr):Inv (X.held e) pins σ H s :=
 ⟨⟨I.ok.mod,I.ok.kind,I.ok.glob,I.ok.blt,I.ok.above,I.ok.inj,I.ok.has,I.ok.cab,fun h=>Bool.noConfusion h,I.ok.frames,I.ok.stk,I.ok.exf,I.ok.bs,I.ok.bsz,I.ok.i2q,I.ok.i9y,I.ok.h2g,I.ok.frf⟩,I.os,I.bare,I.base,I.loc,I.cell,I.free,I.d5o,I.pin,I.hok,I.len⟩
theorem Inv.j1x{e:Addr}(ok:X.Ok)(I:Inv (X.held e) pins σ H s):Inv X pins σ H s:=⟨ok,I.os,I.bare,I.base,I.loc,I.cell,I.free,I.d5o,I.pin,I.hok,I.len⟩
theorem f4p{K:PySem.W.Frag}{M:Model}{A:Around}{E:Value->Shared->Prop}{a C D:Addr}{o:Obj}{Q:Bool->Shared->Prop}(KX:K.In s.heap)(Z:d3j K D)(hx:s.heap.get? a=some o)(hc:o.cls = .ref C)(hs:PySem.W.subIn K (.ref C) (.ref D)=some true)
  (hq:Q true s):wpAny M A (excMatches (.ref a) (.ref D)) Q E s:=by
 obtain⟨hp,g,d,t,os⟩:=s
 have f:=tc_notTuple
 have hi:PySem.W.Looks M hp (isType (.ref D)) true:=by
  have z:=Z.ic
  unfold PySem.W.isClsIn PySem.W.clsIn at z
  split at z
  ·rename_i c' d' cd' sl' ho
   intro A' Q' E' s' k q
   unfold isType loadHead
   exact wpAny_bind (wpAny_loadPart (k _ _ (KX _ _ ho)) (wpAny_pure q))
  ·cases z
 unfold excMatches isExcClass isInstance
 repeat (first | with_reducible refine PySem.W.Looks.here (PySem.W.looks_typeIn KX Z.ty) ?_ | with_reducible refine PySem.W.Looks.here hi ?_ | with_reducible refine PySem.W.Looks.here (PySem.W.looks_subIn KX Z.sb) ?_ | with_reducible refine PySem.W.Looks.here (PySem.W.looks_subIn KX hs) ?_ | (with_reducible refine wpAny_loadPart_at hx ?_; rw [hc]) | wp_step)
 exact hq
theorem Inv.unset{i:Nat}{x:Str}{h':Heap}{v:Option Value}{m:Str->Option Value}{t':Nat}(I:Inv X pins σ H s)(hN:X.N.Nodup)(hi:X.N[i]? = some x)(hk:X.env.scope.names.lookup x=some .local)(hn:s.heap.Ns X.env.locals m)
  (hl:∀ (j:Nat) (y:Str) (v:V),X.N[j]? = some y->σ[j]? = some (some v)->Vis X.env.scope y->∃ u,RelV v u/\Look X.env s.heap m y u)
  (hn':h'.Ns X.env.locals (fun y=>if y=x then v else m y)) (hs:Heap.SameBut X.env.locals s.heap h'):Inv X pins (σ.set i none) H { s with heap:=h',toks:=t' }:=by
 have hiσ:i < σ.length:=by rw [I.len]; exact (List.getElem?_eq_some_iff.mp hi).1
 refine⟨I.ok,I.os,I.bare,⟨fun b o e n hb hx=>?_,fun b o e n hb hx=>?_,I.base.free,fun b o e hx=>?_,I.base.tups,I.base.g0a,I.base.g1p⟩,⟨_,hn',fun j y v' e1 e2 e3=>?_⟩,fun y c e=>?_,I.free,I.d5o,fun p hp=>?_,fun b ob e=>?_,by simpa using I.len⟩
 ·exact (hs.2 b (Nat.ne_of_lt (Nat.lt_of_lt_of_le (Heap.lt_size e) I.ok.above))).trans (I.base.keep b o e n hb hx)
 ·obtain⟨sl,e1⟩:=I.base.slot b o e n hb hx
  exact⟨sl,(hs.2 b (Nat.ne_of_lt (Nat.lt_of_lt_of_le (Heap.lt_size e) I.ok.above))).trans e1⟩
 ·obtain⟨o',e1⟩:=I.base.there b o e hx
  exact⟨o',(hs.2 b (Nat.ne_of_lt (Nat.lt_of_lt_of_le (Heap.lt_size e) I.ok.above))).trans e1⟩
 ·by_cases hj:j=i
  ·subst hj
   rw [List.getElem?_set_self hiσ] at e2
   cases e2
  ·rw [List.getElem?_set_ne (Ne.symm hj)] at e2
   obtain⟨u',r',q⟩:=hl j y v' e1 e2 e3
   refine⟨u',r',?_⟩
   rcases q with ⟨k,e⟩ | ⟨k,c,e,z⟩
   ·refine .inl ⟨k,?_⟩
    have hyx:y≠x:=fun e=>hj (g1q hN e1 (e▸hi))
    simp [hyx,e]
   ·exact .inr ⟨k,c,e,z.sameBut hs (I.cne y c e)⟩
 ·obtain⟨w',z⟩:=I.cell y c e
  exact⟨w',z.sameBut hs (I.cne y c e)⟩
 ·obtain⟨e,n,ne,nf,d⟩:=I.pin p hp
  exact⟨(hs.2 p.1 ne).trans e,n,ne,nf,d⟩
 ·refine (I.hok b ob e).stay (fun c w' hc q=>(hs.2 c ?_).trans q) (fun _ q=>q) fun _ _ q=>q
  intro z
  have hf:=I.free
  rw [<- z] at hf
  rcases hc with r | r
  ·rw [r,e] at hf
   cases hf
  ·rw [hf] at r
   cases r
end
theorem i6i{P:Program}{w:World}{H:Hp}{h:Heap}{a:Addr}{C:Value}{dx:Option Addr}{ob:Obj}{vs:Array Value}(e:h.get? a=some ob)(c:ob.cls=C){cx:Option Value}(f:ob.data = .fields vs)(k:Kd a (dx,cx) h):b0p P w H h a (i3q a C dx):=by
 cases dx with
 | none=>exact⟨⟨ob,e,c⟩,⟨ob,e⟩,fun h1 h2 ⟨o,e1,e2⟩ k=>⟨o,k o e1,e2⟩⟩
 | some d =>
  obtain⟨o,e',q,_⟩:=k
  rw [e] at e'
  cases e'
  exact⟨⟨ob,e,c,q,vs,f⟩,⟨ob,e⟩,fun h1 h2 ⟨o,e1,e2⟩ k=>⟨o,k o e1,e2⟩⟩
def hAs(K:PySem.W.Frag)(D:Addr)(i:Nat)(th:TS)(Dn:Ends)(σ:St):XK:=fun C dx H'=>∃ c,C = .ref c/\PySem.W.subIn K (.ref c) (.ref D)=some true /\
 ∀ e H2,H' e=none->Same H' H2->H2 e=some (i3q e (.ref c) dx)->th { nx:=fun σ2 H3=>Dn.nx (σ2.set i none) H3,rt:=Dn.rt,bk:=fun σ2 H3=>Dn.bk (σ2.set i none) H3,ct:=fun σ2 H3=>Dn.ct (σ2.set i none) H3 } (σ.set i (some (.ref e))) H2
def j1y(K:PySem.W.Frag)(D:Addr)(i:Nat)(tb:XK->TS)(th:TS):TS:=fun Dn σ H=>tb (hAs K D i th Dn σ) Dn σ H
section
variable {X:Cx}{D:Addr}{dn n:Str}{i:Nat}{st b₀:Stmt}{suite:List Stmt}{tb:XK->TS}{th:TS}{np hpos pos:Pos}
theorem h1b(hb:∀ E,PSX X st (tb E) E)(hh:∀ e,PSs (X.held e) (b₀ :: suite) th)(hg:Gl X dn)(hm:X.mg dn=some (.ref D))(ZD:d3j X.K D)(hN:X.N.Nodup)(hi:X.N[i]? = some n)(hk:X.env.scope.names.lookup n=some .local)
  (hst:X.stack=X.env :: X.outer:=by rfl) (hfr:X.env.frame=some X.env.locals:=by rfl) (hex:X.ex = []:=by rfl) (hdb:(dn == ("__debug__":Str))=false:=by decide) :
  PS X (.Try [st] [.ExceptHandler (some (.Name dn np)) (some n) (b₀ :: suite) hpos] [] [] pos) (j1y X.K D i tb th):=by
 intro pins s σ H Dn I h
 refine wpAny_Try_except (wpAny_execs_cons (wpAny_mono (hb _ pins s σ H Dn I h) (fun f s1 q=>?_) fun e s1 q=>?_))
 ·cases f with
  | next=>exact wpAny_execs_nil (wpAny_execs_nil q)
  | ret v=>exact q
  | brk=>exact q
  | cont=>exact q
 ·obtain⟨H1,s0,I1,a,C,a0,B,H',rfl,fl,os,bare,un,hn0,nw,dx,cx,kd,_,c,rfl,hsub,k⟩:=q
  have hA:X.A.frames=some (X.env :: X.outer):=by rw [<- hst]; exact I1.ok.frames
  rw [hst] at fl
  refine f4o hA hfr fl kd fun h4 hd4 sm4 kd4=>i3n hd4 kd4 fun h5 fl5 sm5 kd5=>?_
  have u5:=un h5 fl5.1 (sm4.trans sm5)
  have I5:Inv X pins σ H' { s1 with heap:=h5,toks:=s1.toks }:=I1.caught os bare u5.1 u5.2
  have cls:=I.ok.kind
  obtain⟨ob,hob,hcl⟩:=fl5.there
  refine wpAny_handleBy_cons (codeAny_handlers_test ?_) (by intro q; cases q)
  refine c1v (X:=X.held a) (s:={ s1 with heap:=h5 }) (I5.held a) hg hm ?_ hdb
  refine f4p (s:={ s1 with heap:=h5 }) I5.kIn ZD hob hcl hsub ?_
  refine codeAny_handlers_suite_as (i3o fl5 kd5 fun h6 fl6 sm6 kd6=>?_)
  have u6:=un h6 fl6.1 ((sm4.trans sm5).trans sm6)
  have I6:Inv X pins σ H' { s1 with heap:=h6,toks:=s1.toks }:=I1.caught os bare u6.1 u6.2
  obtain⟨ob6,vs6,hob6,hcl6,hda6,_⟩:=fl6.first
  have nl:a≠X.env.locals:=fun z=>by
   obtain⟨m,⟨o,_,_,ho,_⟩,_⟩:=I1.loc
   rw [<- z,nw] at ho
   cases ho
  have I7:Inv X pins σ (upd H' a (i3q a (.ref c) dx)) { s1 with heap:=h6,toks:=s1.toks }:=by
   refine I6.track (I1.older hex nw) nl (fun x cc e z=>?_) (fun p hp z=>?_) hn0 (i6i hob6 hcl6 hda6 kd6)
   ·obtain⟨v,o,ho,_⟩:=I1.cell x cc e
    rw [z,nw] at ho
    cases ho
   ·have ho:=(I1.pin p hp).1
    rw [z,nw] at ho
    cases ho
  refine f3m (X:=X.held a) (v:=.ref a) (I7.held a) hN hi (.inl hk) rfl (fun s8 I8=>?_) (.inr hk)
  refine wpAny_mono (hh a pins s8 _ _ _ I8 (k a _ hn0 (Same.upd hn0) a6m)) (fun f s9 q9=>?_) fun _ _ z=>False.elim z
  have goes:∀ {σ9:St} {H9:Hp} {Q9:Shared->Prop},Inv (X.held a) pins σ9 H9 s9->(∀ s',Inv X pins (σ9.set i none) H9 s'->Q9 s')->wpAny (model X.prog X.w) X.A (do bindName X.env n .none; unbindBehindTheSuite X.env n hpos) (fun _ s'=>Q9 s') X.xe s9:=by
   intro σ9 H9 Q9 J kk
   have J':=J.j1x I.ok
   obtain⟨m,hn,hl⟩:=id J'.loc
   refine wpAny_nameGoes_keeps hk hn (by rw [I.ok.kind]; rfl) fun h' v hn' hs'=>kk _ ?_
   exact J'.unset hN hi hk hn hl hn' hs'
  cases f with
  | next =>
   obtain⟨σ',H9,J,q⟩:=q9
   exact goes (Q9:=fun s'=>SP X pins Dn .next s') J fun s' J'=>⟨_,_,J',q⟩
  | brk =>
   obtain⟨σ',H9,J,q⟩:=q9
   exact goes (Q9:=fun s'=>SP X pins Dn .brk s') J fun s' J'=>⟨_,_,J',q⟩
  | cont =>
   obtain⟨σ',H9,J,q⟩:=q9
   exact goes (Q9:=fun s'=>SP X pins Dn .cont s') J fun s' J'=>⟨_,_,J',q⟩
  | ret u =>
   obtain⟨v,σ',H9,J,r,q⟩:=q9
   exact goes (Q9:=fun s'=>SP X pins Dn (.ret u) s') J fun s' J'=>⟨v,_,_,J',r,q⟩
end
def k1r:TE:=fun _ H Q=>New H (.dK []) Q ⟨⟩
theorem g5c{H H':Hp}{v:V}{t:Ty}(S:Same H H')(h:g4v H v=some t):g4v H' v=some t:=by
 cases v with
 | ref a =>
  rw [h6f] at h ⊢
  cases e:H a with
  | none=>rw [e] at h; cases h
  | some o=>rw [e] at h; rw [S _ _ e]; exact h
 | _=>exact h
end L2
namespace L2
open PySem PySem.Spec PyProof.Rows
section
variable {X:Cx}{tg:Expr}
noncomputable def j7v(g:Str->Str->V):V->List V->Hp->VK->Prop:=fun x vs H Q=>match x,vs with
 | .str z,[.str y]=>Q (g z y) H
 | _,_=>False
theorem c3j:MtR X "str.startswith" (j7v fun z y=>.bl (Txt.startswith z y)):=by
 intro pins s σ H x xs v us Q I rx rs h
 match x,xs,h with
 | .str z,[.str y],q =>
  obtain⟨t,rfl⟩:=rx
  obtain⟨u,rfl,t',rfl⟩:=vals1 rs
  exact call_gives F.slot_str_startswith (typeIs_str _ _ _) F.entry_str_startswith (F.args_str_startswith_2 _ _) (gives_str_startswith z y t t') ⟨.bl (Txt.startswith z y),H,I,rfl,q⟩
noncomputable def Its(x:Str):It:=⟨fun i _=>i < x.cps.size,fun i H v H'=>H'=H/\∃ c,x.cps[i]? = some c/\v = .str ⟨#[c]⟩,fun i _=>i=x.cps.size⟩
theorem i0k{P:Program}{w:World}{K:PySem.W.Frag}(it:Addr)(x:Str)(t:Tok){n:String}(hn : ["enumerate","zip","dict_itemiterator","dict_reverseitemiterator","odict_iterator","itertools.zip_longest","itertools.pairwise"].contains n=false)
  (W:∀ A':Around,A'.handled=none->Walks P w A' it [it] [it] x.cps.size (SignAt x) (fun i h=>h.IsStrIter it n x t i))
  (S:∀ (A:Around) (i:Nat) (s:Shared) (Q:Value->Shared->Prop) (E:Value->Shared->Prop),s.heap.IsStrIter it n x t i->Q (.ref it) s->wpAny (model P w) A (pyIter (.ref it)) Q E s):Turn P w K tg (Its x) [it] it (fun i h=>h.IsStrIter it n x t i) where
 mem:=by simp
 obj:=fun i h st b hb=>by
  have e:b=it:=by simpa using hb
  subst e
  obtain⟨o,e,c,d⟩:=st
  exact⟨o,e,fun v z=>by rw [d] at z; cases z⟩
 keep:=fun i h h' st k=>let ⟨o,ho,r⟩:=st; ⟨o,k it (by simp) o ho,r⟩
 item:=by
  intro X hP hw hK hc i pins s σ H E I hf st hg
  subst hP hw hK
  obtain⟨f0,f1,f2,f3,f4,f5⟩:=hf it (by simp)
  refine (W _ (I.ok.hd hc)).item i s _ _ hg st fun v h' tk hv st' kk=>?_
  obtain⟨c,u,hc',rfl⟩:=hv
  have I1:Inv X pins σ H { s with heap:=h',toks:=tk }:=I.turned (fun b o hb e=>kk b o (by simpa using hb) e) f0 f1 f3 f4 f5
  obtain⟨o,e1,c1,d1⟩:=id st'
  exact⟨_,rfl,i5h (s:={ s with heap:=h',toks:=tk }) e1 c1 d1 hn ⟨.str ⟨#[c]⟩,H,I1,⟨u,rfl⟩,⟨rfl,c,hc',rfl⟩,st',fun b hb=>(hf b hb).1⟩⟩
 done:=by
  intro X hP hw hK hc i pins s σ H E I hf st hg
  subst hP hw hK
  obtain⟨f0,f1,f2,f3,f4,f5⟩:=hf it (by simp)
  have hi:i=x.cps.size:=hg
  subst hi
  exact (W _ (I.ok.hd hc)).done s _ _ st fun h' tk kk=>⟨rfl,I.turned (t':=tk) (fun b o hb e=>kk b o (by simpa using hb) e) f0 f1 f3 f4 f5⟩
 self:=S
def iStr(tl:TE):TI:=fun σ H R=>tl σ H fun x H1=>match x with
 | .str z=>R (Its z) H1
 | _=>False
theorem g5d{l:Expr}{tl:TE}(hl:PE X l tl):PI X tg l (iStr tl):=by
 intro pins s σ H R I h
 refine thn (hl pins s σ H _ I h) fun v s1 ⟨x,H1,I1,r1,q1⟩=>?_
 cases x with
 | str z =>
  obtain⟨t,rfl⟩:=r1
  have fin:∀ (o:Obj) (n:String),["enumerate","zip","dict_itemiterator","dict_reverseitemiterator","odict_iterator","itertools.zip_longest","itertools.pairwise"].contains n=false->(s1.heap.push o).IsStrIter s1.heap.objs.size n z t 0 ->
    (∀ A':Around,A'.handled=none->Walks X.prog X.w A' s1.heap.objs.size [s1.heap.objs.size] [s1.heap.objs.size] z.cps.size (SignAt z) (fun i h=>h.IsStrIter s1.heap.objs.size n z t i)) ->
    (∀ (A:Around) (i:Nat) (s:Shared) (Q:Value->Shared->Prop) (E:Value->Shared->Prop),s.heap.IsStrIter s1.heap.objs.size n z t i->Q (.ref s1.heap.objs.size) s->wpAny (model X.prog X.w) A (pyIter (.ref s1.heap.objs.size)) Q E s) ->
    PIE X pins σ tg R (.ref s1.heap.objs.size) { s1 with heap:=s1.heap.push o }:=fun o n hn st W S=>by
   refine⟨s1.heap.objs.size,[s1.heap.objs.size],_,_,H1,rfl,I1.kept (t':=s1.toks) fun b o e=>Heap.get?_push_of_some _ e,i0k _ z t hn W S,st,fun b hb=>?_,q1⟩
   have e:b=s1.heap.objs.size:=by simpa using hb
   subst e
   exact I1.i5g (Nat.le_refl _) (I1.hok.fresh (Nat.le_refl _))
  cases ha:z.cps.all (· < 128)
  ·exact wpAny_pyIter_wide ha (fin _ "str_iterator" (by decide) ⟨_,Heap.get?_push_size _ rfl,rfl,rfl⟩ (fun A' hA=>Walks.strWide hA _ z t) fun _ _ _ _ _ st hQ=>wpAny_pyIter_striter_wide st hQ)
  ·exact wpAny_pyIter_ascii ha (fin _ "str_ascii_iterator" (by decide) ⟨_,Heap.get?_push_size _ rfl,rfl,rfl⟩ (fun A' hA=>Walks.strAscii hA _ z t) fun _ _ _ _ _ st hQ=>wpAny_pyIter_striter_ascii st hQ)
 | _=>exact False.elim q1
theorem g1w{x:Str}{g:TG}{tb:TS}{D:Ends}{σ:St}{H:Hp}(Pv:Nat->St->Hp->Prop)(h0:Pv 0 σ H)
  (hs:∀ i c σ H,x.cps[i]? = some c->Pv i σ H->g (.str ⟨#[c]⟩) σ H fun σ2 H2=>tb { D with nx:=Pv (i+1),ct:=Pv (i+1),bk:=D.nx } σ2 H2) (hd:∀ σ H,Pv x.cps.size σ H->D.nx σ H):j6c (Its x) g tb D σ H:=by
 refine⟨fun i m σ H=>m=x.cps.size - i/\i<=x.cps.size/\Pv i σ H,⟨x.cps.size,by simp,Nat.zero_le _,h0⟩,?_⟩
 rintro i m σ H ⟨rfl,hi,p⟩
 by_cases hlt:i < x.cps.size
 ·refine .inr ⟨hlt,Pv (i+1),fun σ' H' p'=>⟨x.cps.size - (i+1),by omega,rfl,hlt,p'⟩,fun v H' y=>?_⟩
  obtain⟨e,c,hc,e2⟩:=y
  subst e e2
  exact hs i c σ _ hc p
 ·have e:i=x.cps.size:=by omega
  subst e
  exact .inl ⟨rfl,hd σ H p⟩
noncomputable def rSlA:V->Option Int->Option Int->Hp->VK->Prop:=fun x lo hi H Q=>match x with
 | .ref a=>(match H a with
  | some (.lst xs)=>New H (.lst (g4e xs lo hi)) Q ⟨⟩
  | _=>False)
 | .str z=>z.length<=sizeLine/\Q (.str (Txt.slice z lo hi)) H
 | _=>False
theorem h2w:SlR X rSlA:=by
 intro pins s σ H x v vl vu lo hi sl Q I rx hs pl pu h
 cases x with
 | ref a=>exact sl_M pins s σ H _ v vl vu lo hi sl Q I rx hs pl pu h
 | str z =>
  obtain⟨t,rfl⟩:=rx
  obtain⟨hz,q⟩:=h
  have fin:∀ t' k,EP X pins σ Q (.str (Txt.slice z lo hi) t') { s with toks:=k }:=fun t' k=>⟨.str _,H,I.tok k,⟨_,rfl⟩,q⟩
  refine⟨"str",_,F.slot_str_getitem.lookup,typeIs_str _ _ _,?_⟩
  cases pl with
  | none =>
   cases pu with
   | none=>exact wpAny_getItem_str_slice (l:=none) (u:=none) (st:=none) hs rfl (post_val_or_str ⟨Nat.le_trans (Txt.slice_le z _ _) hz,fin⟩)
   | int j uj=>exact wpAny_getItem_str_slice (l:=none) (u:=some (j,uj)) (st:=none) hs rfl (post_val_or_str ⟨Nat.le_trans (Txt.slice_le z _ _) hz,fin⟩)
  | int i ui =>
   cases pu with
   | none=>exact wpAny_getItem_str_slice (l:=some (i,ui)) (u:=none) (st:=none) hs rfl (post_val_or_str ⟨Nat.le_trans (Txt.slice_le z _ _) hz,fin⟩)
   | int j uj=>exact wpAny_getItem_str_slice (l:=some (i,ui)) (u:=some (j,uj)) (st:=none) hs rfl (post_val_or_str ⟨Nat.le_trans (Txt.slice_le z _ _) hz,fin⟩)
 | _=>exact False.elim h
noncomputable def j7w:List V->Hp->VK->Prop:=fun xs H Q=>match xs with
 | [.int i]=>Q (.int i) H
 | [.bl k]=>Q (.int (if k then 1 else 0)) H
 | [.str z]=>∃ n,PySem.intText? z=some n/\z.length<=640/\Q (.int n) H
 | _=>False
theorem b4t:d0i X (.type "int") j7w:=by
 intro pins s σ H xs us Q I r h
 match xs,r,h with
 | [.int i],r,q=>exact g4g pins s σ H _ us Q I r (.inl ⟨i,rfl,q⟩)
 | [.bl k],r,q=>exact g4g pins s σ H _ us Q I r (.inr ⟨k,rfl,q⟩)
 | [.str z],r,⟨n,hn,hl,q⟩ =>
  obtain⟨u,rfl,t,rfl⟩:=vals1 r
  exact PySem.W.KIN.call_text hn hl ⟨.int n,H,I.tok _,⟨_,rfl⟩,q⟩
noncomputable def rStrI:List V->Hp->VK->Prop:=fun xs H Q=>match xs with
 | [.int i]=>i.natAbs.log2 < 1920/\Q (.str (toString i)) H
 | _=>False
def tFmt(te:TE):TE:=fun σ H Q=>te σ H fun x H1=>match x with
 | .int i=>i.natAbs.log2 < 1920/\Q (.str (toString i)) H1
 | .str y=>y.length<=sizeLine/\Q (.str y) H1
 | _=>False
theorem d5r{e:Expr}{te:TE}{pos:Pos}(he:PE X e te):PE X (.FormattedValue e (-1) none pos) (tFmt te):=by
 intro pins s σ H Q I h
 refine wpAny_FormattedValue_plain (thn (he pins s σ H _ I h) fun v s1 ⟨x,H1,I1,r1,q1⟩=>?_)
 cases x with
 | int i =>
  obtain⟨t,rfl⟩:=r1
  exact wpAny_formatField_int q1.1 ⟨.str (toString i),H1,I1.tok _,⟨_,rfl⟩,q1.2⟩
 | str y =>
  obtain⟨t,rfl⟩:=r1
  exact wpAny_formatField_str (hx:=q1.1) ⟨.str y,H1,I1,⟨_,rfl⟩,q1.2⟩ ⟨.str y,H1,I1.tok _,⟨_,rfl⟩,q1.2⟩
 | _=>exact False.elim q1
noncomputable abbrev TJ:=Str->St->Hp->(Str->Hp->Prop)->Prop
def PJ(X:Cx)(es:List Expr)(t:TJ):Prop:=∀ (pins:List (Addr×Obj)) (acc:Str) (s:Shared) (σ:St) (H:Hp) (Q:Str->Hp->Prop) (Q':Str->Shared->Prop),Inv X pins σ H s->t acc σ H Q->(∀ out H1 s1,Inv X pins σ H1 s1->Q out H1->Q' out s1) ->
 Joins (model X.prog X.w) X.A X.xe (evalEach es X.env) acc Q' s
noncomputable def j7x:TJ:=fun acc _ H Q=>Q acc H
def j1z(te:TE)(tr:TJ):TJ:=fun acc σ H Q=>te σ H fun x H1=>match x with
 | .str y=>acc.length+y.length<=sizeLine/\tr (acc++y) σ H1 Q
 | _=>False
theorem f4q:PJ X [] j7x:=fun pins acc s σ H Q Q' I h k=>k acc H s I h
theorem b2l{e:Expr}{es:List Expr}{te:TE}{tr:TJ}(he:PE X e te)(hr:PJ X es tr)(hs:evalEach (e :: es) X.env=eval e X.env :: evalEach es X.env:=by rfl):PJ X (e :: es) (j1z te tr):=by
 intro pins acc s σ H Q Q' I h k
 rw [hs]
 refine thn (he pins s σ H _ I h) fun v s1 ⟨x,H1,I1,r1,q1⟩=>?_
 cases x with
 | str y =>
  obtain⟨t,rfl⟩:=r1
  exact⟨y,t,rfl,by rw [strLen_append]; exact q1.1,hr pins (acc++y) s1 σ H1 Q Q' I1 q1.2 k⟩
 | _=>exact False.elim q1
def j7y(tj:TJ):TE:=fun σ H Q=>tj Str.empty σ H fun out H1=>out.length<=sizeLine/\Q (.str out) H1
theorem c4q{e₁ e₂:Expr}{es:List Expr}{tj:TJ}{pos:Pos}(h:PJ X (e₁ :: e₂ :: es) tj):PE X (.JoinedStr (e₁ :: e₂ :: es) pos) (j7y tj):=by
 intro pins s σ H Q I hq
 exact wpAny_JoinedStr (h pins Str.empty s σ H _ _ I hq fun out H1 s1 I1 q=>⟨q.1,.str out,H1,I1.tok _,⟨_,rfl⟩,q.2⟩)
noncomputable def a2l(x y:Str):List Str:=if (decide (x.length < y.length) || decide (Builtin.Str.strKind x < Builtin.Str.strKind y))=true then [x] else if (Builtin.Str.occurrences x y 0 x.length (x.length+1)).isEmpty=true then [x] else Builtin.Str.partsBetween x (Builtin.Str.occurrences x y 0 x.length (x.length+1)) y.length
noncomputable def j2a:V->List V->Hp->VK->Prop:=fun x vs H Q=>match x,vs with
 | .str z,[.str y]=>(y.length == 0)=false/\z.length<=sizeLine/\(a2l z y).length<=sizeLine/\New H (.lst ((a2l z y).map V.str)) Q ⟨⟩
 | _,_=>False
theorem g5e:∀ (l:List Str) (k:Nat),Vals (l.map V.str) (strsFrom k l)
 | [],_=>.nil
 | x :: l,k=>.cons ⟨_,rfl⟩ (g5e l (k+1))
theorem d1i:MtR X "str.split" j2a:=by
 intro pins s σ H x xs v us Q I rx rs h
 match x,xs,h with
 | .str z,[.str y],⟨hy,hz,hn,q⟩ =>
  obtain⟨t,rfl⟩:=rx
  obtain⟨u,rfl,t',rfl⟩:=vals1 rs
  have fr:H s.heap.objs.size=none:=I.hok.fresh (Nat.le_refl _)
  have itself:a2l z y = [z]->EP X pins σ Q (.ref s.heap.objs.size) { s with heap:=s.heap.push { cls:=.type "list",data:=.seq [Value.str z t].toArray } }:=fun e=>by
   rw [e] at q
   exact⟨.ref _,_,I.laid (o:=.lst ([z].map V.str)) (t':=s.toks) (fun b u e=>Heap.get?_push_of_some _ e) (Nat.le_refl _) ⟨show 1<=sizeLine by decide,[Value.str z t],0,.cons ⟨t,rfl⟩ .nil,Heap.get?_push_size _ rfl⟩,rfl,q.raw _ fr⟩
  by_cases h1:(decide (z.length < y.length) || decide (Builtin.Str.strKind z < Builtin.Str.strKind y))=true
  ·exact call_meets F.slot_str_split (typeIs_str _ _ _) F.entry_str_split (F.args_str_split_2 _ _) (meets_str_split_cannot_occur z y t t' h1) (itself (by unfold a2l; rw [if_pos h1]))
  ·have h1':=Bool.eq_false_iff.mpr h1
   by_cases h2:(Builtin.Str.occurrences z y 0 z.length (z.length+1)).isEmpty=true
   ·exact call_meets F.slot_str_split (typeIs_str _ _ _) F.entry_str_split (F.args_str_split_2 _ _) (meets_str_split_not_found z y t t' h1' hy h2) (itself (by unfold a2l; rw [if_neg h1,if_pos h2]))
   ·have h2':=Bool.eq_false_iff.mpr h2
    have e:a2l z y=Builtin.Str.partsBetween z (Builtin.Str.occurrences z y 0 z.length (z.length+1)) y.length:=by unfold a2l; rw [if_neg h1,if_neg h2]
    refine call_meets F.slot_str_split (typeIs_str _ _ _) F.entry_str_split (F.args_str_split_2 _ _) (meets_str_split_sep z y t t' h1' hy h2' hz (by rw [<- e]; exact hn)) ?_
    rw [<- e]
    refine⟨.ref _,_,I.laid (o:=.lst ((a2l z y).map V.str)) (t':=s.toks+(a2l z y).length) (fun b u e=>Heap.get?_push_of_some _ e) (Nat.le_refl _) ⟨by rw [List.length_map]; exact hn,strsFrom s.toks (a2l z y),0,g5e _ _,Heap.get?_push_size _ rfl⟩,rfl,q.raw _ fr⟩
noncomputable def g7o(z y:Str):Bool:=!(Builtin.Str.occurrences z y 0 z.length 1).isEmpty
def k1s(neg:Bool):R2:=fun x y H Q=>match y with
 | .str z=>(match x with
  | .str y=>Q (.bl (g7o z y != neg)) H
  | _=>False)
 | .ref p=>(match H p with
  | some (.lst xs)=>b5h x=true/\xs.all b5h=true/\Q (.bl (inV x xs != neg)) H
  | some (.tup xs)=>b5h x=true/\xs.all b5h=true/\Q (.bl (inV x xs != neg)) H
  | _=>False)
 | _=>False
theorem c7s:OpR X (compareOp .In) (k1s false):=by
 intro pins s σ H x y v u Q I rx ry h
 cases y with
 | str z =>
  cases x with
  | str y =>
   have h:Q (.bl (g7o z y != false)) H:=h
   rw [Bool.bne_false] at h
   exact h5s pins s σ H _ _ v u Q I rx ry ⟨y,z,rfl,rfl,h⟩
  | _=>exact False.elim h
 | ref p =>
  have h:(match H p with
   | some (.lst xs)=>b5h x=true/\xs.all b5h=true/\Q (.bl (inV x xs != false)) H
   | some (.tup xs)=>b5h x=true/\xs.all b5h=true/\Q (.bl (inV x xs != false)) H
   | _=>False):=h
  split at h
  ·rename_i xs e
   rw [Bool.bne_false] at h
   exact g4o pins s σ H _ _ v u Q I rx ry ⟨p,xs,rfl,.inl (SqL.of e),h.1,h.2.1,by simpa using h.2.2⟩
  ·rename_i xs e
   rw [Bool.bne_false] at h
   exact g4o pins s σ H _ _ v u Q I rx ry ⟨p,xs,rfl,.inr (SqT.of e),h.1,h.2.1,by simpa using h.2.2⟩
  ·exact h.elim
 | _=>exact False.elim h
theorem b7i:OpR X (compareOp .NotIn) (k1s true):=by
 intro pins s σ H x y v u Q I rx ry h
 cases y with
 | str z =>
  cases x with
  | str y =>
   have h:Q (.bl (g7o z y != true)) H:=h
   rw [Bool.bne_true] at h
   exact g4p pins s σ H _ _ v u Q I rx ry ⟨y,z,rfl,rfl,h⟩
  | _=>exact False.elim h
 | ref p =>
  have h:(match H p with
   | some (.lst xs)=>b5h x=true/\xs.all b5h=true/\Q (.bl (inV x xs != true)) H
   | some (.tup xs)=>b5h x=true/\xs.all b5h=true/\Q (.bl (inV x xs != true)) H
   | _=>False):=h
  split at h
  ·rename_i xs e
   rw [Bool.bne_true] at h
   exact d2z pins s σ H _ _ v u Q I rx ry ⟨p,xs,rfl,.inl (SqL.of e),h.1,h.2.1,by simpa using h.2.2⟩
  ·rename_i xs e
   rw [Bool.bne_true] at h
   exact d2z pins s σ H _ _ v u Q I rx ry ⟨p,xs,rfl,.inr (SqT.of e),h.1,h.2.1,by simpa using h.2.2⟩
  ·exact h.elim
 | _=>exact False.elim h
end
end L2
namespace L2
open PySem PySem.Spec PyProof.Rows
def Wr(H:Hp)(a:Addr)(o:HO)(k:Hp->Prop)(_:Tag k):Prop:=∀ H1,a6t a H H1->H1 a=some o->k H1
section
variable {X:Cx}{e o value:Expr}{f m x:Str}{pos pos' apos:Pos}{ta tv:TE}{t:TA}{C:Addr}{es:List Expr}
def j2b(K:PySem.W.Frag)(ta:TE)(f:Str):TE:=fun σ H Q=>ta σ H fun x H1=>match x with
 | .ref a=>(match H1 a with
  | some (.ins C dx fs)=>Cls K C/\a9o K C f/\(match fs.lookup f with
   | some v=>Q v H1
   | none=>False)
  | _=>False)
 | _=>False
theorem a8g(he:PE X e ta)(hb:attributeBase e f X.env (eval e X.env)=eval e X.env):PE X (.Attribute e f pos) (j2b X.K ta f):=by
 intro pins s σ H Q I h
 refine (j0r he hb) pins s σ H Q I ?_
 unfold k0w
 unfold j2b at h
 have q:(fun (x:V) (H1:Hp)=>(match x with
   | .ref a=>(match H1 a with
    | some (.ins C dx fs)=>Cls X.K C/\a9o X.K C f/\(match fs.lookup f with
     | some v=>Q v H1
     | none=>False)
    | _=>False)
   | _=>False:Prop))=fun x H1=>∃ a C dx fs v,x = .ref a/\H1 a=some (.ins C dx fs)/\Cls X.K C/\a9o X.K C f/\fs.lookup f=some v/\Q v H1:=by
  funext x H1
  refine propext ⟨fun z=>?_,fun⟨a,C,dx,fs,v,e1,e2,c,n,l,q⟩=>?_⟩
  ·cases x with
   | ref a =>
    dsimp only at z
    split at z
    ·rename_i C dx fs e1
     obtain⟨c,n,z⟩:=z
     split at z
     ·rename_i v e2
      exact⟨a,C,dx,fs,v,rfl,e1,c,n,e2,z⟩
     ·exact z.elim
    ·exact z.elim
   | _=>exact False.elim z
  ·subst e1
   dsimp only
   rw [e2]
   dsimp only
   rw [l]
   exact⟨c,n,q⟩
 rw [q] at h
 exact h
def j7z(K:PySem.W.Frag)(ta tv:TE)(f:Str):TS:=fun D σ H=>tv σ H fun y H1=>ta σ H1 fun x H2=>match x with
 | .ref a=>(match H2 a with
  | some (.ins C dx fs)=>Cls K C/\a9o K C f/\fs.length < 1000/\Wr H2 a (.ins C dx (f3v f y fs)) (D.nx σ) ⟨⟩
  | _=>False)
 | _=>False
theorem c1w(ha:PE X o ta)(hv:PE X value tv)(hs:swapsWith value (some (.Attribute o f pos')) pos.line X.env=pure false):PS X (.Assign [.Attribute o f pos'] value pos) (j7z X.K ta tv f):=by
 intro pins s σ H D I h
 refine plainObj_wpAny_Assign_Attribute (thn (hv pins s σ H _ I h) fun u s1 ⟨y,H1,I1,ry,q⟩=>thn (ha pins s1 σ H1 _ I1 q) fun ov s2 ⟨x,H2,I2,rx,z⟩=>?_) hs
 cases x with
 | ref a =>
  obtain rfl:ov=Value.ref a:=rx
  dsimp only at z
  split at z
  ·rename_i C dx fs e1
   obtain⟨c,n,l,k⟩:=z
   exact h2m I2 e1 c n l ry fun s3 I3=>⟨σ,_,I3,k _ a6t.upd a6m⟩
  ·exact z.elim
 | _=>exact False.elim z
end
def g0h(C:Addr)(m:Str)(sp:Sp)(dvs:List V)(E:XK)(ta:TE)(t:TA):TE:=fun σ H Q=>ta σ H fun x H1=>match x with
 | .ref a=>(match H1 a with
  | some (.ins C' dx fs)=>C'=C/\fs.lookup m=none/\t σ H1 fun vs H2=>sp (x :: (vs++dvs)) H2 Q E
  | _=>False)
 | _=>False
section
variable {X:Cx}{CX:CXT}{k:Nat}{f C:Addr}{fd:FuncData}{ps:List Str}{sp:Sp}{dvs:List V}{ds:List Value}{E:XK}{x m:Str}{p pos apos:Pos}{e o:Expr}{es:List Expr}{ta:TE}{t:TA}
theorem c3k{pl:Sem Bool}(he:PE X o ta)(c:Cls X.K C)(hm:Meth X.K C m f)(F:a2m X.prog X.w X.K X.mg X.base CX k f fd ps sp)(hr:c7p k X.A)(hb:Binds X.K fd ps ds)(hd:Vals dvs ds)(hx:Passes CX X E)(ha:PA X (e :: es) t)
  (hst:starEach (e :: es) X.env=(false,eval e X.env) :: starEach es X.env:=by rfl) (hpl:(backTo pos (starEach es X.env)).any (·.1)=false:=by rfl)
  (ht:eval (.Call (.Attribute o m apos) (e :: es) [] pos) X.env=(do
   let ov <- eval o X.env
   standAt apos.atName
   let (f,first) <- holding [ov] (getMethod ov m pl)
   callWith pos f first (backTo pos (starEach (e :: es) X.env)) (backToKw pos (keywordEach [] X.env))):=by rfl) :
  PE X (.Call (.Attribute o m apos) (e :: es) [] pos) (g0h C m sp dvs E ta t):=by
 intro pins s σ H Q I h
 refine PySem.W.methodCall_KW (pl:=pl) (thn (he pins s σ H _ I h) fun u s1 ⟨x,H1,I1,rx,z⟩=>?_) ht
 cases x with
 | ref a =>
  obtain rfl:u=Value.ref a:=rx
  dsimp only at z
  split at z
  ·rename_i C' dx fs ea
   obtain⟨rfl,l,q⟩:=z
   refine g0c I1 ea c hm l ?_
   refine PySem.W.callWith_K (first:=[.ref a]) (h₀:=X.base) I.ok.mod.kin hm.kp (thn (ha pos pins s1 σ H1 _ I1 q) fun us s2 ⟨vs,H2,I2,r,q2⟩=>⟨I2.kIn,?_⟩) hst hpl
   exact h0r (us:=.ref a :: us) (vs:=.ref a :: vs) F hr hb hd hx I2 (.cons rfl r) q2
  ·exact z.elim
 | _=>exact False.elim z
theorem b7j{pl:Sem Bool}(he:PE X o ta)(c:Cls X.K C)(hm:Meth X.K C m f)(F:a2m X.prog X.w X.K X.mg X.base CX k f fd ps sp)(hr:c7p k X.A)(hb:Binds X.K fd ps ds)(hd:Vals dvs ds)(hx:Passes CX X E)
  (ht:eval (.Call (.Attribute o m apos) [] [] pos) X.env=(do
   let ov <- eval o X.env
   standAt apos.atName
   let (f,first) <- holding [ov] (getMethod ov m pl)
   callWith pos f first (backTo pos (starEach [] X.env)) (backToKw pos (keywordEach [] X.env))):=by rfl) :
  PE X (.Call (.Attribute o m apos) [] [] pos) (g0h C m sp dvs E ta h9u):=by
 intro pins s σ H Q I h
 refine PySem.W.methodCall_KW (pl:=pl) (thn (he pins s σ H _ I h) fun u s1 ⟨x,H1,I1,rx,z⟩=>?_) ht
 cases x with
 | ref a =>
  obtain rfl:u=Value.ref a:=rx
  dsimp only at z
  split at z
  ·rename_i C' dx fs ea
   obtain⟨rfl,l,q⟩:=z
   refine g0c I1 ea c hm l ?_
   exact PySem.W.callWith_K0 (first:=[.ref a]) I1.kIn hm.kp (h0r (us:=[.ref a]) (vs:=[.ref a]) F hr hb hd hx I1 (.cons rfl .nil) q)
  ·exact z.elim
 | _=>exact False.elim z
def j6d(H:Hp)(C:Addr)(k:Addr->Hp->Prop)(_:Tag k):Prop:=∀ x dx H1,H x=none->H dx=none->dx≠x->Same H H1->H1 dx=some (.own x)->H1 x=some (.ins C dx [])->k x H1
def j2c(x:Addr)(Q:VK):VK:=fun v H2=>v = .non/\Q (.ref x) H2
theorem asNew{x:Addr}{Q:VK}{H2:Hp}{v:V}:j2c x Q v H2=(v = .non/\Q (.ref x) H2):=rfl
def i3r(C:Addr)(sp:Sp)(dvs:List V)(E:XK)(t:TA):TE:=fun σ H Q=>t σ H fun vs H1=>j6d H1 C (fun x H2=>sp (.ref x :: (vs++dvs)) H2 (j2c x Q) E) ⟨⟩
theorem j6d.raw{H:Hp}{C:Addr}{k:Addr->Hp->Prop}{t:Tag k}(h:j6d H C k t):∀ x dx,H x=none->H dx=none->dx≠x->k x (upd (upd H dx (.own x)) x (.ins C dx [])):=fun x dx ex ed ne =>
 h x dx _ ex ed ne ((Same.upd ed).trans (Same.upd (by rw [a7m ne.symm]; exact ex))) (by rw [a7m ne]; exact a6m) a6m
theorem d1j(M:Mk X.K C f)(F:a2m X.prog X.w X.K X.mg X.base CX k f fd ps sp)(hr:c7p (k+1) X.A)(hg:Gl X x)(hm:X.mg x=some (.ref C))(hb:Binds X.K fd ps ds)(hd:Vals dvs ds)(hx:Passes CX X E)
  (ha:PA X (e :: es) t) (hdb:(x == ("__debug__":Str))=false:=by decide) (he:starEach (e :: es) X.env=(false,eval e X.env) :: starEach es X.env:=by rfl) (hpl:(backTo pos (starEach es X.env)).any (·.1)=false:=by rfl) :
  PE X (.Call (.Name x p) (e :: es) [] pos) (i3r C sp dvs E t):=by
 intro pins s σ H Q I h
 refine wpAny_Call_Name_kw (c1v I hg hm ?_ hdb)
 refine PySem.W.callWith_K (h₀:=X.base) I.ok.mod.kin M.kp (thn (ha pos pins s σ H _ I h) fun us s1 ⟨vs,H1,I1,r,q⟩=>⟨I1.kIn,?_⟩) he hpl
 exact h0s M F hr hb hd hx I1 r q.raw
theorem h6o(M:Mk X.K C f)(F:a2m X.prog X.w X.K X.mg X.base CX k f fd ps sp)(hr:c7p (k+1) X.A)(hg:Gl X x)(hm:X.mg x=some (.ref C))(hb:Binds X.K fd ps ds)(hd:Vals dvs ds)(hx:Passes CX X E)
  (hdb:(x == ("__debug__":Str))=false:=by decide):PE X (.Call (.Name x p) [] [] pos) (i3r C sp dvs E h9u):=by
 intro pins s σ H Q I h
 refine wpAny_Call_Name_kw (c1v I hg hm ?_ hdb)
 exact PySem.W.callWith_K0 I.kIn M.kp (h0s (us:=[]) M F hr hb hd hx I .nil (j6d.raw (t:=⟨⟩) h))
end
def j6e(K:PySem.W.Frag)(ta tv:TE)(rd:V->V->Hp->VK->Prop)(f:Str):TS:=fun D σ H=>ta σ H fun x H1=>match x with
 | .ref a=>(match H1 a with
  | some (.ins C dx fs)=>Cls K C/\a9o K C f/\(match fs.lookup f with
   | some v=>tv σ H1 fun y H2=>rd v y H2 fun z H3=>(match H3 a with
    | some (.ins C' dx' fs')=>C'=C/\fs'.length < 1000/\Wr H3 a (.ins C dx' (f3v f z fs')) (D.nx σ) ⟨⟩
    | _=>False)
   | none=>False)
  | _=>False)
 | _=>False
section
variable {X:Cx}{o e value:Expr}{f:Str}{pos pos' tpos:Pos}{ta tv:TE}
end
noncomputable def rInF(g:Int->Int->Int):V->V->Hp->VK->Prop:=fun x y H Q=>match x,y with
 | .int i,.int j=>Q (.int (g i j)) H
 | _,_=>False
def tAugF(i:Nat)(te:TE)(ti:TIp):TS:=fun D σ H=>match σ[i]? with
 | some (some x)=>te σ H fun y H1=>ti x y H1 fun z H2=>D.nx (σ.set i (some z)) H2
 | _=>False
section
variable {X:Cx}{pos:Pos}
end
theorem lookup_same{f:Str}{v:V}{r:List (Str×V)}:List.lookup f ((f,v) :: r)=some v:=by rw [List.lookup_cons,beq_self_eq_true]
theorem j2d{f:Str}{v x:V}{r:List (Str×V)}:f3v f v ((f,x) :: r)=(f,v) :: r:=by rw [f3v,if_pos rfl]
theorem j6f{f:Str}{v:V}:f3v f v [] = [(f,v)]:=rfl
theorem i3s{f g:Str}{v:V}{r:List (Str×V)}(h:(f == g)=false):List.lookup f ((g,v) :: r)=r.lookup f:=by rw [List.lookup_cons,h]
theorem i9p{f g:Str}{v x:V}{r:List (Str×V)}(h:(f == g)=false):f3v f v ((g,x) :: r)=(g,x) :: f3v f v r:=by rw [f3v,if_neg fun e=>by rw [e,beq_self_eq_true] at h; exact Bool.noConfusion h]
theorem noxK{X:Cx}:X.nox.K=X.K:=rfl
end L2
namespace L2
open PySem PySem.Spec PyProof.Rows
structure j2e(k:Nat)(A:Around):Prop where
 dp:A.depth+3*k+5 < recursionLimit
 un:A.units+16*k+200 < cLine
theorem c7p.h{k:Nat}{A:Around}(r:c7p k A):j2e k A:=⟨r.dp,r.un⟩
structure FnOkH(P:Program)(w:World)(K:PySem.W.Frag)(mg:Str->Option Value)(base:Heap)(k:Nat)(f:Addr)(fd:FuncData)(ps:List Str)(sp:Sp):Prop where
 len:∀ vs H Q E,sp vs H Q E->vs.length=ps.length
 run:∀ (A:Around) (outer:List Env) (s:Shared) (H:Hp) (args:Args) (us:List Value) (vs:List V) (Q:VK) (E:XK),j2e k A->i2t P w K mg base A outer s H->BindsTo s fd args (ps.zip us)->Vals vs us->sp vs H Q E ->
  codeAny (model P w) A (.call (.ref f) args) (CR CX0 outer P w H s Q E) s
section
variable {X:Cx}{k:Nat}{f:Addr}{fd:FuncData}{ps:List Str}{sp:Sp}{dvs:List V}{ds:List Value}{x:Str}{p pos:Pos}{e:Expr}{es:List Expr}{t:TA}
end
end L2
namespace L2
open PySem PySem.Spec PyProof.Rows
open PySem.Builtin.Str (occurrences subAt partsBetween strSub)
noncomputable abbrev sg(x:Str):List Nat:=x.cps.toList
theorem b2t{x y:Str}(h:sg x=sg y):x=y:=Str.ext' (by
 have:=congrArg List.toArray h
 simpa using this)
theorem a5u(x y:Str):sg (x++y)=sg x++sg y:=by unfold sg; rw [Str.cps_append]; simp
theorem b0v(x:Str):(sg x).length=x.length:=by simp [Str.length]
theorem i3t{x:Str}{c i:Nat}:StrLaws.At x ⟨#[c]⟩ x.length i ↔ (sg x)[i]? = some c:=StrLaws.subAt_one x c i
theorem b8s{c:Nat}:(⟨#[c]⟩:Str).length=1:=rfl
theorem i3u(x:Str)(i j:Nat):sg (strSub x i j)=((sg x).drop i).take (j - i):=StrLaws.strSub_toList x i j
theorem i0l{x:Str}{c:Nat}{a b:List Nat}(hk:c < 128)(h:sg x=a++c :: b)(ha:c∉a)(hb:c∉b):a2l x ⟨#[c]⟩ = [⟨a.toArray⟩,⟨b.toArray⟩]:=by
 have hl:x.length=a.length+(b.length+1):=by rw [<- b0v,h]; simp
 have k1:¬ ((decide (x.length < (⟨#[c]⟩:Str).length) || decide (Builtin.Str.strKind x < Builtin.Str.strKind ⟨#[c]⟩))=true):=by
  have e:Builtin.Str.strKind ⟨#[c]⟩=1:=by
   unfold Builtin.Str.strKind
   rw [if_pos (by simp; omega)]
  have g:1<=Builtin.Str.strKind x:=by
   unfold Builtin.Str.strKind
   split
   ·decide
   ·split <;> decide
  rw [e,b8s]
  simp only [Bool.or_eq_true,decide_eq_true_eq]
  omega
 have only:∀ i,StrLaws.At x ⟨#[c]⟩ x.length i->i=a.length:=by
  intro i hi
  have hi:=i3t.mp hi
  rw [h] at hi
  rcases Nat.lt_trichotomy i a.length with q | q | q
  ·rw [List.getElem?_append_left q] at hi
   exact absurd (List.mem_of_getElem? hi) ha
  ·exact q
  ·rw [List.getElem?_append_right (Nat.le_of_lt q)] at hi
   obtain⟨j,hj⟩:∃ j,i - a.length=j+1:=⟨i - a.length - 1,by omega⟩
   rw [hj,List.getElem?_cons_succ] at hi
   exact absurd (List.mem_of_getElem? hi) hb
 have there:StrLaws.At x ⟨#[c]⟩ x.length a.length:=i3t.mpr (by rw [h,List.getElem?_append_right (Nat.le_refl _),Nat.sub_self]; rfl)
 obtain⟨f,ch⟩:=StrLaws.occ_chain x ⟨#[c]⟩ (x.length+1)
 have ho:occurrences x ⟨#[c]⟩ 0 x.length (x.length+1) = [a.length]:=by
  rcases StrLaws.occ_head x ⟨#[c]⟩ (x.length+1) (by omega) with ⟨h0,hn⟩ | ⟨i,r,h0,hi,hn⟩
  ·exact absurd there (hn _)
  ·rw [h0] at ch ⊢
   have e:=only i hi
   subst e
   cases r with
   | nil=>rfl
   | cons j r =>
    obtain⟨_,_,q1,q2,_⟩:=ch
    have:=only j q2
    rw [b8s] at q1
    omega
 unfold a2l
 rw [if_neg k1,ho,if_neg (by simp)]
 simp only [partsBetween,List.map_cons,List.map_nil,List.cons_append,List.nil_append,List.zip_cons_cons,List.zip_nil_right,List.cons.injEq,and_true]
 constructor
 ·refine b2t ?_
  rw [i3u,h]
  simp
 ·refine b2t ?_
  rw [i3u,b8s,h,hl]
  have e:(a++c :: b).drop (a.length+1)=b:=by rw [List.drop_append]; simp
  rw [e,List.take_of_length_le (by omega)]
theorem split_le(x:Str)(c:Nat):(a2l x ⟨#[c]⟩).length<=x.length+2:=by
 unfold a2l
 split
 ·simp
 ·split
  ·simp
  ·have:=StrLaws.occ_length_le x ⟨#[c]⟩ 0 x.length (x.length+1)
   rw [length_partsBetween]
   omega
open PySem.NumText (AllDigits digitsVal digitsVal_snoc)
noncomputable def dg(n:Nat):List Nat:=(Nat.toDigits 10 n).map Char.toNat
theorem g5f(n:Nat):digitsVal (dg n)=n:=PySem.W.KIN.val_back n
theorem f8r{n:Nat}(h:n < 10):dg n = [n+48]:=by
 have:∀ d,d < 10->dg d = [d+48]:=by decide
 exact this n h
theorem d6m{m c:Nat}(hm:0 < m)(hc:c < 10):dg (10*m+c)=dg m++[c+48]:=by
 have t:Nat.toDigits 10 m++Nat.toDigits 10 c=Nat.toDigits 10 (10*m+c):=Nat.toDigits_append_toDigits (by decide) hm hc
 unfold dg
 rw [<- t,List.map_append]
 have:=f8r hc
 unfold dg at this
 rw [this]
theorem g5g(n:Nat):dg n≠[]:=by
 by_cases h:n < 10
 ·rw [f8r h]; simp
 ·have e:n=10*(n / 10)+n % 10:=by omega
  rw [e,d6m (by omega) (by omega)]
  simp
theorem d2v(n:Nat):AllDigits (dg n):=by
 induction n using Nat.strongRecOn with
 | _ n ih =>
  by_cases h:n < 10
  ·rw [f8r h]
   intro c hc
   simp at hc
   omega
  ·have e:n=10*(n / 10)+n % 10:=by omega
   rw [e,d6m (by omega) (by omega)]
   intro c hc
   rcases List.mem_append.mp hc with q | q
   ·exact ih (n / 10) (by omega) c q
   ·simp at q
    omega
theorem g8d{n:Nat}(h:0 < n):∃ c r,dg n=c :: r/\c≠48:=by
 induction n using Nat.strongRecOn with
 | _ n ih =>
  by_cases q:n < 10
  ·exact⟨n+48,[],f8r q,by omega⟩
  ·obtain⟨c,r,e,hc⟩:=ih (n / 10) (by omega) (by omega)
   have e2:n=10*(n / 10)+n % 10:=by omega
   refine⟨c,r++[n % 10+48],?_,hc⟩
   conv=>lhs; rw [e2]
   rw [d6m (by omega) (by omega),e]
   rfl
def Canon(ds:List Nat):Prop:=AllDigits ds/\ds≠[]/\∀ r,ds=48 :: r->r = []
theorem i0m(n:Nat):Canon (dg n):=by
 refine⟨d2v n,g5g n,fun r e=>?_⟩
 by_cases h:0 < n
 ·obtain⟨c,r',e',hc⟩:=g8d h
  rw [e'] at e
  cases e
  exact absurd rfl hc
 ·have:n=0:=by omega
  subst this
  rw [f8r (by decide)] at e
  cases e
  rfl
theorem g0i{ds:List Nat}(h:Canon ds):dg (digitsVal ds)=ds:=by
 generalize hn:ds.length=n
 induction n generalizing ds with
 | zero=>exact absurd (List.length_eq_zero_iff.mp hn) h.2.1
 | succ n ih =>
  obtain⟨hd,hne,hl⟩:=h
  have e:ds=ds.dropLast++[ds.getLast hne]:=(List.dropLast_concat_getLast hne).symm
  generalize ds.dropLast=cs at e
  generalize ds.getLast hne=c at e
  subst e
  have hc:=hd c (by simp)
  rw [digitsVal_snoc]
  by_cases q:cs = []
  ·subst q
   show dg (0*10+(c - 48))=_
   rw [f8r (by omega)]
   simp
   omega
  ·have k:Canon cs:=by
    refine⟨fun d hd'=>hd d (by simp [hd']),q,fun r er=>?_⟩
    subst er
    have:=hl (r++[c]) (by simp)
    simp at this
   have e:=ih k (by simp at hn; exact hn)
   have pos:0 < digitsVal cs:=by
    rcases Nat.eq_zero_or_pos (digitsVal cs) with z | z
    ·rw [z,f8r (by decide)] at e
     have e':cs = [48]:=e.symm
     subst e'
     have:=hl [c] (by simp)
     simp at this
    ·exact z
   rw [Nat.mul_comm,d6m pos (by omega),e]
   congr 2
   omega
theorem i3v:∀ {ds:List Nat},AllDigits ds->digitsVal ds < 10 ^ ds.length:=by
 intro ds
 generalize hn:ds.length=n
 induction n generalizing ds with
 | zero=>intro _; rw [List.length_eq_zero_iff.mp hn]; decide
 | succ n ih =>
  intro hd
  have hne:ds≠[]:=fun e=>by rw [e] at hn; cases hn
  have e:ds=ds.dropLast++[ds.getLast hne]:=(List.dropLast_concat_getLast hne).symm
  generalize ds.dropLast=cs at e
  generalize ds.getLast hne=c at e
  subst e
  have hc:=hd c (by simp)
  have:=ih (ds:=cs) (by simp at hn; exact hn) fun d hd'=>hd d (by simp [hd'])
  rw [digitsVal_snoc,Nat.pow_succ]
  omega
noncomputable def txt(t:Int):List Nat:=if t < 0 then 45 :: dg t.natAbs else dg t.natAbs
theorem d8i(t:Int):sg (Str.ofString (toString t))=txt t:=by
 unfold txt
 match t with
 | .ofNat m=>exact PySem.W.KIN.signs_num m
 | .negSucc m =>
  rw [if_pos (Int.negSucc_lt_zero m)]
  unfold sg
  rw [signs_ofString]
  show (("-"++Nat.repr (m+1)).toList.map Char.toNat)=_
  rw [String.toList_append,List.map_append,Nat.toList_repr]
  rfl
theorem d9z{x:Str}{t:Int}(h:sg x=txt t)(hl:x.length<=4300):PySem.intText? x=some t:=by
 unfold txt at h
 split at h
 ·rename_i ht
  have:=intText_neg h (d2v _) (g5g _) hl
  rw [g5f] at this
  rw [this]
  congr 1
  omega
 ·rename_i ht
  have:=intText_digits (x:=x) (by rw [show x.cps.toList=sg x from rfl,h]; exact d2v _) (by rw [show x.cps.toList=sg x from rfl,h]; exact g5g _) hl
  rw [show x.cps.toList=sg x from rfl,h,g5f] at this
  rw [this]
  congr 1
  omega
theorem j2f(n:Nat):(dg n).length<=n.log2+1:=by
 induction n using Nat.strongRecOn with
 | _ n ih =>
  by_cases h:n < 10
  ·rw [f8r h]; simp
  ·have e:n=10*(n / 10)+n % 10:=by omega
   have i:=ih (n / 10) (by omega)
   have k:(n / 10).log2+1<=n.log2:=by
    rw [Nat.le_log2 (by omega),Nat.pow_succ]
    have:=Nat.log2_self_le (n:=n / 10) (by omega)
    omega
   have z:=d6m (m:=n / 10) (c:=n % 10) (by omega) (by omega)
   rw [<- e] at z
   rw [z]
   rw [List.length_append]
   simp only [List.length_cons,List.length_nil]
   omega
theorem g8e(t:Int):(txt t).length<=t.natAbs.log2+2:=by
 have:=j2f t.natAbs
 unfold txt
 split
 ·rw [List.length_cons]; omega
 ·omega
noncomputable def i3w(t b:Int):List Nat:=txt t++47 :: txt b
structure Good(x:List Nat)(t b:Int):Prop where
 eq:x=i3w t b
 pos:0 < b
 low:Int.gcd t b=1
 l1:(dg t.natAbs).length<=9
 l2:(dg b.natAbs).length<=9
noncomputable def h2x(l:List Nat):Bool:=l.all (fun c=>decide (48<=c) && decide (c<=57)) && !l.isEmpty
theorem d4y{l:List Nat}:h2x l=true ↔ AllDigits l/\l≠[]:=by
 unfold h2x AllDigits
 simp
theorem h6p(c:Nat):g7o "0123456789" ⟨#[c]⟩=(decide (48<=c) && decide (c<=57)):=by
 unfold g7o
 rw [StrLaws.found_one]
 have e:(Str.ofString "0123456789").cps.toList = [48,49,50,51,52,53,54,55,56,57]:=by decide +kernel
 rw [e]
 by_cases h:48<=c/\c<=57
 ·rw [show (decide (48<=c) && decide (c<=57))=true by simp [h]]
  rw [decide_eq_true_eq]
  simp
  omega
 ·rw [show (decide (48<=c) && decide (c<=57))=false by simp; omega]
  rw [decide_eq_false_iff_not]
  simp
  omega
theorem g0j{t:Int}{c:Nat}(h1:c≠45)(h2:c < 48\/57 < c):c∉txt t:=by
 unfold txt
 intro h
 split at h
 ·rcases List.mem_cons.mp h with q | q
  ·exact h1 q
  ·have:=d2v _ c q; omega
 ·have:=d2v _ c h; omega
theorem j2g(t:Int):(txt t).length<=(dg t.natAbs).length+1:=by
 unfold txt
 split
 ·rw [List.length_cons]; exact Nat.le_refl _
 ·exact Nat.le_succ _
theorem h6q(x:Str)(c:Nat):Txt.startswith x ⟨#[c]⟩=decide ((sg x)[0]? = some c):=by
 unfold Txt.startswith
 rw [Bool.eq_iff_iff,Bool.and_eq_true,decide_eq_true_eq,decide_eq_true_eq]
 exact StrLaws.subAt_one x c 0
theorem j2h{x:Str}{t:Int}(h:sg x=txt t):Txt.startswith x ⟨#[45]⟩=decide (t < 0):=by
 rw [h6q,h]
 unfold txt
 split
 ·rename_i q
  simp [q]
 ·rename_i q
  rw [decide_eq_false q,decide_eq_false_iff_not]
  intro e
  have:=d2v _ 45 (List.mem_of_getElem? e)
  omega
theorem h6r{x:Str}{i:Nat}(h:i<=x.length):sg (Txt.slice x (some (i:Int)) none)=(sg x).drop i:=by
 rw [slice_from_eq (b:=(x.length:Int)) (by omega) (by omega) rfl]
 simp only [sg,Int.toNat_natCast]
 rw [List.take_of_length_le]
 rw [List.length_drop]
 have:=b0v x
 unfold sg at this
 omega
theorem j2i{x:Str}{j:Nat}(hj:j<=x.length):sg (Txt.slice x none (some (j:Int)))=(sg x).take j:=by
 have e:=slice_closes_to (x:=x) (j:=(j:Int)) ⟨by omega,by rw [show x.cps.toList=sg x from rfl,b0v]; omega⟩
 rw [beq_iff_eq.mp e]
 simp [sg]
end L2
namespace L2
open PySem PySem.Spec PyProof.Rows
section
variable {X:Cx}
noncomputable def rTupS(K:PySem.W.Frag):List V->Hp->VK->Prop:=fun xs H Q=>match xs with
 | [.ref p]=>(match H p with
  | some (.lst ys)=>New H (.tup ys) Q ⟨⟩
  | some (.tup ys)=>Q (.ref p) H
  | _=>False)
 | _=>False
end
theorem a2m.either{P:Program}{w:World}{K:PySem.W.Frag}{mg:Str->Option Value}{base:Heap}{CX:CXT}{k:Nat}{f:Addr}{fd:FuncData}{ps:List Str}{sp sp':Sp}(F:a2m P w K mg base CX k f fd ps sp)(G:a2m P w K mg base CX k f fd ps sp') :
  a2m P w K mg base CX k f fd ps (fun vs H Q E=>sp vs H Q E\/sp' vs H Q E) :=
 ⟨fun vs H Q E h=>h.elim (F.len vs H Q E) (G.len vs H Q E),fun A outer s H args us vs Q E hr e0 hb hv h=>h.elim (F.run A outer s H args us vs Q E hr e0 hb hv) (G.run A outer s H args us vs Q E hr e0 hb hv)⟩
section
variable {X:Cx}
structure InsQ(K:PySem.W.Frag)(C:Addr):Prop where
 ha:PySem.W.findIn K (.ref C) "__class__"=some (some (.builtin "object.__class__"))
 hn:PySem.W.specialIn K (.builtin "object.__class__") "__get__"=some (some (.builtin "getset_descriptor.__get__"))
 htk:PySem.W.takesIn K (.builtin "object.__class__")=some true
 hm:PySem.W.mroIn K C (.type "object")=some true
noncomputable def rIsI(K:PySem.W.Frag):List V->Hp->VK->Prop:=fun xs H Q=>match xs with
 | [.ref a,.ref D]=>(match H a with
  | some (.ins C dx fs)=>Cls K C/\InsQ K C/\(match PySem.W.kitOne K (.ref C) (.ref D) with
   | some b=>Q (.bl b) H
   | none=>False)
  | _=>False)
 | _=>False
end
section
variable {X:Cx}{pos:Pos}
noncomputable def j8a:List V->Hp->VK->Prop:=fun xs H Q=>match xs with
 | [.int i,.int j]=>(0 < j/\j < 1073741824)/\New H (.tup [.int (i / j),.int (i % j)]) Q ⟨⟩
 | _=>False
noncomputable def j2j:TGs:=fun vs σ H Q=>match vs with
 | []=>Q σ H
 | _=>False
def i3x(t:TG)(u:TGs):TGs:=fun vs σ H Q=>match vs with
 | v :: r=>t v σ H fun σ' H'=>u r σ' H' Q
 | _=>False
def gTupF(n:Nat)(t:TGs):TG:=fun v σ H Q=>match v with
 | .ref a=>(match H a with
  | some (.tup xs)=>xs.length=n/\t xs σ H Q
  | _=>False)
 | _=>False
theorem d8j:PGs X [] j2j:=by
 intro pins s σ H vs us Q I r h
 refine g7r pins s σ H vs us Q I r ?_
 unfold j2j at h
 split at h
 ·exact⟨rfl,h⟩
 ·exact h.elim
theorem a8j{e:Expr}{es:List Expr}{t:TG}{u:TGs}(h1:PG X e t)(h2:PGs X es u)
  (hs:(assignEach (e :: es) X.env).map (·.2)=assign e X.env :: (assignEach es X.env).map (·.2):=by rfl):PGs X (e :: es) (i3x t u):=by
 intro pins s σ H vs us Q I r h
 refine d4v h1 h2 hs pins s σ H vs us Q I r ?_
 unfold i3x at h
 split at h
 ·exact⟨_,_,rfl,h⟩
 ·exact h.elim
end
end L2
namespace L2
open PySem PySem.Spec PyProof.Rows
def j2k(J:It)(tc:TT)(te:TE)(D:Addr)(σ:St)(H:Hp)(Q:VK)(_:Tag Q):Prop:=∃ (n:Nat) (W:Nat->List V->Hp->Prop),W 0 [] H/\∀ i ys H,i<=n->W i ys H->H D=some (.lst ys) /\
 ((J.stop i H/\Q (.ref D) H)\/(i < n/\J.go i H/\ys.length < sizeLine/\∀ x H',J.yld i H x H'->tc (some x :: σ) H' fun b H1 =>
  if b=true then te (some x :: σ) H1 fun y H2=>H2 D=some (.lst ys)/\∀ H3,a6t D H2 H3->H3 D=some (.lst (ys++[y]))->W (i+1) (ys++[y]) H3
  else W (i+1) ys H1))
def k1t(wi:TI)(tc:TT)(te:TE):TE:=fun σ H Q=>wi σ H fun J H1=>∀ D H2,H1 D=none->Same H1 H2->H2 D=some (.lst [])->j2k J tc te D σ H2 Q ⟨⟩
section
variable {X:Cx}{scope:Scope}{x:Str}{pins:List (Addr×Obj)}{σ:St}{elt iter cnd:Expr}{px pos:Pos}{wi:TI}{te:TE}{tc:TT}
end
section
variable {X:Cx}{k:Nat}{f C:Addr}{fd:FuncData}{ps:List Str}{sp:Sp}{dvs:List V}{ds:List Value}{E:XK}{x m:Str}{p pos apos:Pos}{e o:Expr}{es:List Expr}{ta:TE}{t:TA}
end
end L2
namespace L2
open PySem PySem.Spec PyProof.Rows
noncomputable def rSl3:V->Option Int->Hp->VK->Prop:=fun x st H Q=>match x with
 | .ref a=>(match H a with
  | some (.lst xs)=>st≠some 0/\∀ ys:List V,ys.length<=xs.length->(∀ y∈ys,y∈xs)->New H (.lst ys) Q ⟨⟩
  | _=>False)
 | _=>False
def tSl3(te:TE)(tl th ts:TO):TE:=fun σ H Q=>te σ H fun x H1=>tl σ H1 fun _ H2=>th σ H2 fun _ H3=>ts σ H3 fun st H4=>rSl3 x st H4 Q
section
variable {X:Cx}
end
section
variable {prog:Program}{w:World}{A:Around}{E:Value->Shared->Prop}{s:Shared}
end
noncomputable def rSetM:V->V->V->Hp->(Hp->Prop)->Prop:=fun o i v H Q=>match o,i with
 | .ref p,.int k=>(match H p with
  | some (.lst xs)=>(0<=k/\k < xs.length)/\∀ H1,a6t p H H1->H1 p=some (.lst (xs.set k.toNat v))->Q H1
  | _=>False)
 | _,_=>False
theorem c3l{K:PySem.W.Frag}{a D:Addr}{xs:List V}{te:TE}{σ:St}{H0 H:Hp}{Q:VK}(zs:List V)(hz:zs.length=xs.length)(n0:H0 D=none)(S:Same H0 H)(hD:H D=some (.lst []))(hS:SqL K H0 a xs)(hsz:xs.length<=sizeLine)
  (hs:∀ (i:Nat) x z H' (Q':VK),xs[i]? = some x->zs[i]? = some z->Same H0 H'->Q' z H'->te (some x :: σ) H' Q') (q:∀ H',Same H0 H'->H' D=some (.lst zs)->Q (.ref D) H'):f8q (Itl K a) te D σ H Q ⟨⟩:=by
 refine c3y (fun i ys H'=>Same H0 H'/\H' D=some (.lst ys)/\ys=zs.take i) ⟨S,hD,by simp⟩ hsz (fun i ys H' hi p=>?_) (fun i x ys H' hx p=>?_) (fun ys H' p=>?_)
 ·refine⟨p.2.1,p.1.seq hS,?_⟩
  rw [p.2.2,List.length_take]
  omega
 ·have hi:i < zs.length:=by rw [hz]; exact (List.getElem?_eq_some_iff.mp hx).1
  have hzi:zs[i]? = some zs[i]:=List.getElem?_eq_getElem hi
  refine hs i x _ H' _ hx hzi p.1 ⟨p.2.1,fun H3 s3 h3=>⟨p.1.step n0 s3,h3,?_⟩⟩
  rw [p.2.2,List.take_add_one,hzi]
  rfl
 ·refine q H' p.1 ?_
  rw [p.2.1,p.2.2,<- hz,List.take_length]
end L2
namespace L2
open PySem PySem.Spec PyProof.Rows
section
variable {X:Cx}{pins:List (Addr×Obj)}{σ:St}{H:Hp}{s:Shared}
end
def ItB(b:Bool)(h:Heap)(it l:Addr)(i:Nat):Prop:=∃ o,h.get? it=some o/\o.cls = .type (cond b "list_iterator" "tuple_iterator")/\o.data = .fields #[.ref l,.int i 0]
def SqB(b:Bool)(h:Heap)(l:Addr)(items:Array Value):Prop:=∃ o,h.get? l=some o/\o.cls = .type (cond b "list" "tuple")/\∃ n,o.data = .seq items n
theorem ItB.at{b:Bool}{h h':Heap}{it l:Addr}{i:Nat}(x:ItB b h it l i)(k:∀ o,h.get? it=some o->h'.get? it=some o):ItB b h' it l i:=let ⟨o,e,r⟩:=x; ⟨o,k o e,r⟩
theorem SqB.at{b:Bool}{h h':Heap}{l:Addr}{items:Array Value}(x:SqB b h l items)(k:∀ o,h.get? l=some o->h'.get? l=some o):SqB b h' l items:=let ⟨o,e,r⟩:=x; ⟨o,k o e,r⟩
section
variable {prog:Program}{w:World}{A:Around}{E:Value->Shared->Prop}{s:Shared}
end
end L2
namespace L2
open PySem PySem.Spec PyProof.Rows
noncomputable def b7k(X:Cx)(scope:Scope)(cl:List (Str×Addr))(C:Addr)(s₃:Shared)(H₃:Hp)(fp:List Addr)(x y:Str):Cx where
 prog:=X.prog
 w:=X.w
 K:=X.K
 mg:=X.mg
 base:=X.base
 A:=X.A
 N:=x :: y :: mask x X.N
 s₀:=s₃
 H₀:=H₃
 env:=compEnvC scope cl C X.env
 outer:=X.stack
 stack:=X.stack
 ex:=fp
 fn:=fun _=>false
 calm:=X.calm
 pn:=[]
 xe:=fun _ _=>False
structure d4z(X:Cx)(scope:Scope)(x y:Str):Prop where
 kind:scope.kind = .function
 d2u:∀ y∈scope.names,y.2≠.cell
 loc:∀ y∈scope.names,y.2 = .local->scope.names.lookup y.1=some .local
 own:scope.names.lookup x=some .local
 j2l:scope.names.lookup y=some .local
 free:∀ y∈scope.names,y.2 = .free->X.env.kindOf y.1=some .cell\/X.env.kindOf y.1=some .free
 nd:(x :: y :: mask x X.N).Nodup
 noe:∀ y∈scope.names,y.1≠""
 vis:∀ y∈mask x X.N,scope.names.lookup y≠some .local
def h1c(J:It)(te:TE)(D:Addr)(σ:St)(H:Hp)(Q:VK)(_:Tag Q):Prop:=∃ (n:Nat) (W:Nat->List V->Hp->Prop),W 0 [] H/\∀ i ys H,i<=n->W i ys H->H D=some (.lst ys) /\
 ((J.stop i H/\Q (.ref D) H)\/(i < n/\J.go i H/\ys.length < sizeLine/\∀ x H',J.yld i H x H'->∃ p u v,x = .ref p/\H' p=some (.tup [u,v])/\te (some u :: some v :: σ) H' fun y H2=>H2 D=some (.lst ys) /\
  ∀ H3,a6t D H2 H3->H3 D=some (.lst (ys++[y]))->W (i+1) (ys++[y]) H3))
def i3y(wi:TI)(te:TE):TE:=fun σ H Q=>wi σ H fun J H1=>∀ D H2,H1 D=none->Same H1 H2->H2 D=some (.lst [])->h1c J te D σ H2 Q ⟨⟩
section
variable {X:Cx}{scope:Scope}{x y:Str}{cl:List (Str×Addr)}{pins:List (Addr×Obj)}{σ:St}{H:Hp}{s s₄:Shared}{fp:List Addr}
theorem Inv.j8b(S:d4z X scope x y)(I:Inv X pins σ H s)(hcl:∀ y c,cl.lookup y=some c->(y,NameKind.free)∈scope.names/\X.env.cells.lookup y=some c)(hcl2:∀ y,(y,NameKind.free)∈scope.names->cl.lookup y=X.env.cells.lookup y)
  (hfp:∀ b∈fp,d7t X pins H b) (hlt:∀ b∈fp,b < s.heap.objs.size) {m:Str->Option Value} (hns:s₄.heap.Ns s.heap.objs.size m) (hk:∀ b o,s.heap.get? b=some o->s₄.heap.get? b=some o) (hos:s₄.os=s.os) (hg:s₄.gens=s.gens) :
  Inv (b7k X scope cl s.heap.objs.size s H fp x y) [] (none :: none :: σ) H s₄:=by
 refine⟨⟨I.ok.mod,?_,I.ok.glob,I.ok.blt,Nat.le_refl _,fun y z c h1 h2=>I.ok.inj y z c (hcl y c h1).2 (hcl z c h2).2,fun y hy=>?_,(fun y c h=>nomatch h),I.ok.hd,I.ok.frames,.inl rfl,fun b hb=>⟨Nat.ne_of_lt (hlt b hb),fun y c e=>(hfp b hb).2.2.2.2.1 y c (hcl y c e).2⟩,
  fun b o e=>I.bs b o e,Nat.le_trans I.ok.bsz I.sz,fun b o e hb=>?_,fun b hb hf=>?_,I.stack,I.d9v⟩,
  hos,by rw [hg]; exact I.bare,Un.kept hk,⟨m,hns,fun i y v h1 h2 h3=>?_⟩,fun y c e=>?_,I.hok.fresh (Nat.le_refl _),fun y c e=>I.d5o y c (hcl y c e).2,fun p hp=>absurd (show p∈([] : List (Addr×Obj)) from hp) (by simp),I.hok.kept hk,by show (none :: none :: σ).length=(x :: y :: mask x X.N).length; rw [List.length_cons,List.length_cons,List.length_cons,List.length_cons,mask,List.length_map,I.len]⟩
 ·exact S.kind
 ·rcases b1s (env:=X.env) (sc:=scope) (x:=y) hy with z | z
  ·obtain⟨c,hc⟩:=I.ok.has y (S.free _ z rfl)
   exact⟨c,(hcl2 y z).trans hc⟩
  ·exact absurd rfl (S.d2u _ z)
 ·rcases (hfp b hb).2.2.2.1 with z | z
  ·exact I.ok.i2q b o e z
  ·exact absurd (Nat.lt_of_lt_of_le (Heap.lt_size (I.ok.bs b o e).1) z) (Nat.lt_irrefl _)
 ·rcases List.mem_cons.mp (I.d5q b hf) with z | z
  ·exact (hfp b hb).2.1 z
  ·exact (hfp b hb).2.2.1 z
 ·match i,h1,h2 with
  | 0,h1,h2=>cases h2
  | 1,h1,h2=>cases h2
  | i+2,h1,h2 =>
   have h1m:(mask x X.N)[i]? = some y:=by simpa [b7k] using h1
   have h2':σ[i]? = some (some v):=by simpa using h2
   have hyN:y∈mask x X.N:=List.mem_of_getElem? h1m
   have hc:(relabel scope X.env).names.lookup y=some .cell\/(relabel scope X.env).names.lookup y=some .free:=by
    rcases h3 with z | z | z
    ·exfalso
     rcases c3w (env:=X.env) scope.names _ z with q | ⟨q,_⟩
     ·exact S.vis y hyN q
     ·cases q
    ·exact .inl z
    ·exact .inr z
   have hfr:(y,NameKind.free)∈scope.names:=by
    rcases b1s hc with z | z
    ·exact z
    ·exact absurd rfl (S.d2u _ z)
   have h1':X.N[i]? = some y:=by
    rw [mask,List.getElem?_map] at h1m
    obtain⟨z,hz,e⟩:=Option.map_eq_some_iff.mp h1m
    by_cases hzx:z=x
    ·rw [if_pos hzx] at e
     exact absurd e.symm (S.noe _ hfr)
    ·rw [if_neg hzx] at e
     rw [hz,e]
   obtain⟨mX,hnX,hl⟩:=I.loc
   have hk2:=S.free _ hfr rfl
   have j1q:Vis X.env.scope y:=by
    rcases hk2 with z | z
    ·exact .inr (.inl z)
    ·exact .inr (.inr z)
   obtain⟨u,ru,lk⟩:=hl i y v h1' h2' j1q
   refine⟨u,ru,.inr ⟨hc,?_⟩⟩
   rcases lk with ⟨z,_⟩ | ⟨_,c,ec,o,ho,hd⟩
   ·rcases hk2 with q | q
    ·rw [q] at z; cases z
    ·rw [q] at z; cases z
   ·exact⟨c,(hcl2 y hfr).trans ec,o,hk c o ho,hd⟩
 ·obtain⟨v,o,ho,hd⟩:=I.cell y c (hcl y c e).2
  exact⟨v,o,hk c o ho,hd⟩
theorem Inv.i6j{σ':St}{H':Hp}{s':Shared}{h':Heap}(I:Inv X pins σ H s)(hfp:∀ b∈fp,d7t X pins H b)(J:Inv (b7k X scope cl s.heap.objs.size s H fp x y) [] σ' H' s')(hs:Heap.SameBut s.heap.objs.size s'.heap h') :
  Inv X pins σ H' { s' with heap:=h' }:=by
 have ne:∀ {b:Addr} {o:Obj},s.heap.get? b=some o->b≠s.heap.objs.size:=fun e=>Nat.ne_of_lt (Heap.lt_size e)
 have u:=J.base
 have u':Un (frs X.stack) fp H H' s.heap h':=⟨fun b o e n hb hx=>hs.extBut b o (ne e) (u.keep b o e n hb hx),fun b o e n hb hx=>(u.slot b o e n hb hx).elim fun sl q=>⟨sl,hs.extBut b _ (ne e) q⟩,u.free,
  fun b o e hx=>(u.there b o e hx).elim fun o' q=>⟨o',hs.extBut b o' (ne e) q⟩,u.tups,u.g0a,u.g1p⟩
 have nC:∀ {b:Addr} {o:HO},H' b=some o->b≠s.heap.objs.size:=fun {b o} e z=>by
  have f:H' s.heap.objs.size=none:=J.free
  rw [z,f] at e; cases e
 have ok:HOk X.prog X.w H' h':=fun b o e=>(J.hok b o e).stay (fun c v hc q=>hs.extBut c v (by
  rcases hc with z | z
  ·rw [z]; exact nC e
  ·exact nC z) q) (fun _ q=>q) fun _ _ q=>q
 exact I.call' (s':={ s' with heap:=h' }) (ch:=fp) J.os u' ok J.bare fun b hb=>⟨(hfp b hb).2.2.2.1,(hfp b hb).2.1,(hfp b hb).2.2.2.2.1,(hfp b hb).2.2.2.2.2⟩
end
section
variable {X:Cx}{scope:Scope}{x y:Str}{pins:List (Addr×Obj)}{σ:St}{elt iter:Expr}{px py tpos pos:Pos}{kk:Nat}{wi:TI}{te:TE}
theorem g8f{s₂:Shared}{H1:Hp}{it:Addr}{fp:List Addr}{tn:Nat->Heap->Prop}{J:It}{Q:VK}{RR:Value->Addr->Result->Shared->Prop}{E:Value->Shared->Prop}{cl:List (Str×Addr)}
  (S:d4z X scope x y) (hc:X.calm=true) (he:∀ cl C s₃ H₃ fp,PE (b7k X scope cl C s₃ H₃ fp x y) elt te)
  (hcl:∀ y c,cl.lookup y=some c->(y,NameKind.free)∈scope.names/\X.env.cells.lookup y=some c) (hcl2:∀ y,(y,NameKind.free)∈scope.names->cl.lookup y=X.env.cells.lookup y)
  (I2:Inv X pins σ H1 s₂) (T:Turn X.prog X.w X.K (.Tuple [.Name x px,.Name y py] kk tpos) J fp it tn) (st2:tn 0 s₂.heap) (f2:∀ b∈fp,d7t X pins H1 b) (h:∀ D H2,H1 D=none->Same H1 H2->H2 D=some (.lst [])->h1c J te D σ H2 Q ⟨⟩)
  (hRR:∀ (D C:Addr) (s':Shared) (H':Hp),(∃ m,s'.heap.Ns C m)->(∀ h' ,Heap.SameBut C s'.heap h'->Inv X pins σ H' { s' with heap:=h' })->d7t X pins H' C->Q (.ref D) H'->RR (.ref D) C (.ok .next) s') :
  wpAny (model X.prog X.w) X.A (newList []) (fun acc s₃=>wpAny (model X.prog X.w) X.A (newFunctionEnv scope X.env.globals cl [] X.env.qual none .none (some X.env)) (fun cenv s₄ =>
   codeAny (model X.prog X.w) X.A (.compStart (.ListComp elt [⟨.Tuple [.Name x px,.Name y py] kk tpos,iter,[],0⟩] scope pos) 0 (.ref it) acc { cenv with scope:=relabel scope X.env }) (RR acc cenv.locals) s₄) E s₃) E s₂:=by
 have hfr:H1 s₂.heap.objs.size=none:=I2.hok.fresh (Nat.le_refl _)
 have hCW:=h s₂.heap.objs.size _ hfr (Same.upd hfr) a6m
 refine wpAny_newObj_type ?_
 have I3:Inv X pins σ (upd H1 s₂.heap.objs.size (.lst [])) { s₂ with heap:=s₂.heap.push { cls:=.type "list",data:=.seq ([] : List Value).toArray },toks:=s₂.toks } :=
  I2.laid (t':=s₂.toks) (fun b u e=>Heap.get?_push_of_some _ e) (Nat.le_refl _) ⟨Nat.zero_le _,[],0,.nil,Heap.get?_push_size _ rfl⟩
 have nD:∀ b∈fp,b≠s₂.heap.objs.size:=fun b hb=>by
  obtain⟨o,e,_⟩:=T.obj 0 _ st2 b hb
  exact Nat.ne_of_lt (Heap.lt_size e)
 have f3:∀ b∈fp,d7t X pins (upd H1 s₂.heap.objs.size (.lst [])) b:=fun b hb=>⟨by rw [a7m (nD b hb)]; exact (f2 b hb).1,(f2 b hb).2⟩
 generalize hH3:upd H1 s₂.heap.objs.size (.lst [])=H3 at *
 have st3:tn 0 (s₂.heap.push { cls:=.type "list",data:=.seq ([] : List Value).toArray }):=T.keep _ _ _ st2 fun b _ o e=>Heap.get?_push_of_some _ e
 have g8a:∀ b∈fp,b < (s₂.heap.push { cls:=.type "list",data:=.seq ([] : List Value).toArray }).objs.size:=fun b hb=>by
  obtain⟨o,e,_⟩:=T.obj 0 _ st3 b hb
  exact Heap.lt_size e
 show wpAny (model X.prog X.w) X.A (newFunctionEnv scope X.env.globals cl [] X.env.qual none .none (some X.env)) _ E { s₂ with heap:=s₂.heap.push { cls:=.type "list",data:=.seq ([] : List Value).toArray },toks:=s₂.toks }
 generalize hs3:({ s₂ with heap:=s₂.heap.push { cls:=.type "list",data:=.seq ([] : List Value).toArray },toks:=s₂.toks }:Shared)=s₃ at *
 have eh:s₃.heap=s₂.heap.push { cls:=.type "list",data:=.seq ([] : List Value).toArray }:=by rw [<- hs3]
 rw [<- eh] at st3 g8a
 generalize s₂.heap.objs.size=D at *
 refine wpAny_newFunctionEnv S.d2u (by intro y hy; simp at hy) (fun h₁ hns₁ hsb₁=>?_) S.kind
 have hk1:∀ b o,s₃.heap.get? b=some o->h₁.get? b=some o:=fun b o e=>hsb₁.extBut b o (Nat.ne_of_lt (Heap.lt_size e)) (Heap.get?_push_of_some _ e)
 have J0:Inv (b7k X scope cl s₃.heap.objs.size s₃ H3 fp x y) [] (none :: none :: σ) H3 { s₃ with heap:=h₁,toks:=s₃.toks+([] : List (Str×Value)).length }:=I3.j8b S hcl hcl2 f3 g8a hns₁ hk1 rfl rfl
 obtain⟨n0,W,w0,turn⟩:=hCW
 have loop:codeAny (model X.prog X.w) X.A (.compLoop (.ListComp elt [⟨.Tuple [.Name x px,.Name y py] kk tpos,iter,[],0⟩] scope pos) 0 (.ref it) (.ref D) (compEnvC scope cl s₃.heap.objs.size X.env)) (RR (.ref D) s₃.heap.objs.size) { s₃ with heap:=h₁,toks:=s₃.toks+([] : List (Str×Value)).length }:=by
  refine codeAny_loop rfl (fun n s'=>∃ i ys o o' H',Inv (b7k X scope cl s₃.heap.objs.size s₃ H3 fp x y) [] (o :: o' :: σ) H' s'/\tn i s'.heap/\(∀ b∈fp,H' b=none)/\W i ys H'/\i<=n0/\n=n0 - i) (fun n s5 hI=>?_) n0
   ⟨0,[],none,none,H3,J0,T.keep _ _ _ st3 (fun b _ o e=>hk1 b o e),fun b hb=>(f3 b hb).1,w0,Nat.zero_le _,rfl⟩
  obtain⟨i,ys,o5,o5',H5,I5,st5,fr5,w5,hin,hnn⟩:=hI
  have stat:∀ {H':Hp},(∀ b∈fp,H' b=none)->∀ b∈fp,d7t (b7k X scope cl s₃.heap.objs.size s₃ H3 fp x y) [] H' b:=fun hn b hb =>
   ⟨hn b hb,Nat.ne_of_lt (g8a b hb),fun z=>(List.mem_cons.mp (I3.d5q b z)).elim (fun q=>(f3 b hb).2.1 q) fun q=>(f3 b hb).2.2.1 q,.inl hb,fun y c e=>(f3 b hb).2.2.2.2.1 y c (hcl y c e).2,fun p hp=>absurd (show p∈([] : List (Addr×Obj)) from hp) (by simp)⟩
  show wpAny _ X.A ((compTurn (.ListComp elt [⟨.Tuple [.Name x px,.Name y py] kk tpos,iter,[],0⟩] scope pos) 0 (.ref it) (.ref D) (compEnvC scope cl s₃.heap.objs.size X.env)).onRaise (fun x=>do noteFrame x (compEnvC scope cl s₃.heap.objs.size X.env); theTreesLotGoes x)) _ _ s5
  refine wpAny_noted ?_
  rw [compTurn_list1]
  refine wpAny_bind (wpAny_standAt (wpAny_bind ?_))
  obtain⟨hD5,alt⟩:=turn i ys H5 hin w5
  rcases alt with ⟨stop,q⟩ | ⟨hlt,go,hsz,step⟩
  ·refine wpAny_mono (T.done (b7k X scope cl s₃.heap.objs.size s₃ H3 fp x y) rfl rfl rfl hc i [] s5 _ H5 _ I5 (stat fr5) st5 stop) (fun r s6 ⟨hr,I6⟩=>?_) fun _ _ z=>z
   subst hr
   refine wpAny_pure ?_
   obtain⟨m6,hn6,_⟩:=I6.loc
   exact hRR D s₃.heap.objs.size s6 H5 ⟨m6,hn6⟩ (fun h' hs'=>I3.i6j f3 I6 hs') (I3.i5g (Nat.le_refl _) I6.free) q
  ·refine wpAny_mono (T.item (b7k X scope cl s₃.heap.objs.size s₃ H3 fp x y) rfl rfl rfl hc i [] s5 _ H5 _ I5 (stat fr5) st5 go) (fun r s6 ⟨u,hr,h6⟩=>?_) fun _ _ z=>z
   subst hr
   refine wpAny_bind (wpAny_mono h6 (fun _ s7 ⟨v,H7,I7,r7,y7,st7,fr7⟩=>?_) fun _ _ z=>z)
   have I7':=I7.pinned (stat fr7) (T.obj _ _ st7)
   obtain⟨p7,u1,u2,e7,t7,step7⟩:=step v H7 y7
   subst e7
   have G1:=a5n (X:=b7k X scope cl s₃.heap.objs.size s₃ H3 fp x y) (pos:=px) (i:=0) (x:=x) S.nd rfl (.inl (lookup_relabel_local S.own)) (.inr (lookup_relabel_local S.own))
   have G2:=a5n (X:=b7k X scope cl s₃.heap.objs.size s₃ H3 fp x y) (pos:=py) (i:=1) (x:=y) S.nd rfl (.inl (lookup_relabel_local S.j2l)) (.inr (lookup_relabel_local S.j2l))
   have G:=h5j (X:=b7k X scope cl s₃.heap.objs.size s₃ H3 fp x y) (pos:=tpos) (k:=kk) (n:=2) hc (d4v G1 (d4v G2 g7r)) rfl rfl
   refine wpAny_bind (wpAny_mono (G _ s7 _ H7 (.ref p7) u (fun σ' H'=>σ'=some u1 :: some u2 :: σ/\H'=H7) I7' r7 ⟨p7,[u1,u2],rfl,SqT.of t7,rfl,_,_,rfl,_,_,rfl,rfl,rfl,rfl⟩) (fun _ s8 hs8=>?_) fun _ _ z=>False.elim z)
   obtain⟨σ8,H8,I8,rfl,rfl⟩:=hs8
   refine wpAny_bind (wpAny_bind (wpAny_mono (he cl s₃.heap.objs.size s₃ H3 fp _ s8 _ _ _ I8 step7) (fun yv s9 hs9=>?_) fun _ _ z=>False.elim z))
   obtain⟨y',H9,I9,r9,hD9,k9⟩:=hs9
   refine wpAny_bind (wpAny_mono (d3g (X:=b7k X scope cl s₃.heap.objs.size s₃ H3 fp x y) _ s9 _ H9 (.ref D) [y'] (.ref D) [yv] (fun _ H'=>H'=upd H9 D (.lst (ys++[y']))) I9 rfl (.cons r9 .nil) ⟨D,ys,y',rfl,rfl,hD9,hsz,rfl⟩) (fun _ sA hsA=>?_) fun _ _ z=>False.elim z)
   obtain⟨_,HA,IA,_,rfl⟩:=hsA
   refine wpAny_pure ?_
   have wA:=k9 _ a6t.upd a6m
   refine wpAny_pure ⟨rfl,n0 - (i+1),by omega,i+1,ys++[y'],some u1,some u2,_,IA.d0z (pins:=[]) (pl:=f1u fp s7.heap),T.keep _ _ _ st7 (fun b hb o e=>(IA.pin (b,o) (List.mem_append_right _ (List.mem_append_right _ (b0u hb e)))).1),fun b hb=>?_,wA,hlt,rfl⟩
   obtain⟨o,e,d⟩:=T.obj _ _ st7 b hb
   exact (IA.pin (b,o) (List.mem_append_right _ (List.mem_append_right _ (b0u hb e)))).2.1
 exact codeAny_compStart_list loop (T.self _ 0 _ _ _ (T.keep _ _ _ st3 fun b _ o e=>hk1 b o e) loop)
theorem i0n(hi:PI X (.Tuple [.Name x px,.Name y py] kk tpos) iter wi)(he:∀ cl C s₃ H₃ fp,PE (b7k X scope cl C s₃ H₃ fp x y) elt te)(S:d4z X scope x y)(hc:X.calm=true)
  (hs:∀ x,foldedSetIterable iter X.env x=pure x:=by intro _; rfl):PE X (.ListComp elt [⟨.Tuple [.Name x px,.Name y py] kk tpos,iter,[],0⟩] scope pos) (i3y wi te):=by
 intro pins s σ H Q I h
 obtain⟨cl,hclos,hcl,hcl2⟩:=c3v (env:=X.env) (sc:=scope) fun y hy=>I.ok.has y (S.free _ hy rfl)
 rw [eval_ListComp]
 refine wpAny_comprehension_free (use:=none) rfl hs hclos S.kind S.loc ?_
 refine thn (hi pins s σ H _ I h) fun v s1 h1=>thn h1 fun itv s2 h2=>?_
 obtain⟨it,fp,tn,J,H2,e,I2,T,st2,f2,hW⟩:=h2
 subst e
 exact g8f (RR:=fun acc C=>compPost (model X.prog X.w) X.A X.xe none (EP X pins σ Q) acc C) S hc he hcl hcl2 I2 T st2 f2 hW fun D C s' H' hm hI _ hq =>
  hm.elim fun m hn=>⟨m,hn,fun h' hs'=>⟨.ref D,H',hI h' hs',rfl,hq⟩⟩
end
noncomputable def h6s(sc scope:Scope)(x y:Str)(N:List Str):Bool :=
 (scope.kind == .function) && scope.names.all (fun y=>y.2 != .cell) && scope.names.all (fun y=>y.2 != .local || scope.names.lookup y.1 == some .local) && (scope.names.lookup x == some .local) && (scope.names.lookup y == some .local) &&
 scope.names.all (fun y=>y.2 != .free || (sc.names.lookup y.1 == some .cell || sc.names.lookup y.1 == some .free)) && decide ((x :: y :: mask x N).Nodup) && scope.names.all (fun y=>y.1 != "") && (mask x N).all (fun y=>scope.names.lookup y != some .local)
theorem j2m{X:Cx}{sc scope:Scope}{x y:Str}{N:List Str}(hsc:X.env.scope=sc)(hN:X.N=N)(h:h6s sc scope x y N=true):d4z X scope x y:=by
 subst hN hsc
 unfold h6s at h
 simp only [Bool.and_eq_true,List.all_eq_true,beq_iff_eq,Bool.or_eq_true,bne_iff_ne,ne_eq,decide_eq_true_eq] at h
 obtain⟨⟨⟨⟨⟨⟨⟨⟨h1,h2⟩,h3⟩,h4⟩,h5⟩,h6⟩,h7⟩,h8⟩,h9⟩:=h
 exact⟨h1,h2,fun y hy e=>(h3 y hy).resolve_left fun z=>z e,h4,h5,fun y hy e=>(h6 y hy).resolve_left fun z=>z e,h7,h8,h9⟩
end L2
namespace L2
open PySem PySem.Spec PyProof.Rows
end L2
namespace L2
open PySem PySem.Spec PyProof.Rows
section
variable {prog:Program}{w:World}{A:Around}{E:Value->Shared->Prop}{s:Shared}
end
section
variable {prog:Program}{w:World}{A:Around}{E:Value->Shared->Prop}{s:Shared}
end
end L2
namespace L2
open PySem PySem.Spec PyProof.Rows
section
variable {M:Model}{A:Around}{E:Value->Shared->Prop}{s:Shared}{env:Env}
end
end L2
namespace L2
open PySem PySem.Spec PyProof.Rows
def j8c(chk:V->Hp->Bool)(r:V->List V->Hp->VK->Prop)(to:TE):TE:=fun σ H Q=>to σ H fun x H1=>chk x H1=true/\r x [] H1 Q
section
variable {X:Cx}{o:Expr}{to:TE}{name:Str}{apos cpos:Pos}{T id:String}{r:V->List V->Hp->VK->Prop}{chk:V->Hp->Bool}
theorem i6k(hchk:∀ x H,chk x H=true->tyV X.K T x H)(pa:PlainAttrs T)(slot:Slot T name id)(hty:typeOf (.builtin id)=pure (.type "method_descriptor"))(hm:MtR X id r)(ho:PE X o to)
  (hbase:attributeBase o name X.env (eval o X.env)=eval o X.env:=by rfl) (hline:(apos.endLine == cpos.line)=true:=by rfl):PE X (.Call (.Attribute o name apos) [] [] cpos) (j8c chk r to):=by
 intro pins s σ H Q I h
 refine wpAny_Call_method0_late hbase hline (thn (ho pins s σ H _ I h) fun v s1 ⟨x,H1,I1,r1,ty,q1⟩=>?_)
 obtain⟨h1,h2⟩:=i2v I1 r1 (hchk x H1 ty)
 exact⟨T,id,pa,slot,hty,h1,h2,Calls.callWith_builtin rfl (PySem.evalArgs_none (hm pins s1 σ H1 x [] v [] Q I1 r1 .nil q1))⟩
noncomputable def i3z:V->List V->Hp->VK->Prop:=fun x vs H Q=>match x,vs with
 | .str z,[.ref l]=>(match H l with
  | some (.lst xs)=>∃ ys:List Str,xs=ys.map V.str/\JoinOk z ys=true/\Q (.str (Txt.join z ys)) H
  | _=>False)
 | _,_=>False
theorem g0k:∀ {ys:List Str} {us:List Value},Vals (ys.map V.str) us->∃ l:List (Str×Tok),us=strValues l/\l.map (·.1)=ys
 | [],_,h=>by
  cases h
  exact⟨[],rfl,rfl⟩
 | y :: ys,_,h=>by
  cases h with
  | cons a b =>
   obtain⟨t,rfl⟩:=a
   obtain⟨l,rfl,e⟩:=g0k b
   exact⟨(y,t) :: l,rfl,by rw [List.map_cons,e]⟩
theorem d8k:MtR X "str.join" i3z:=by
 intro pins s σ H x vs v us Q I rx rv h
 match x,vs,h with
 | .str z,[.ref l],h =>
  have h':(match H l with
   | some (.lst xs)=>∃ ys:List Str,xs=ys.map V.str/\JoinOk z ys=true/\Q (.str (Txt.join z ys)) H
   | _=>False):=h
  split at h'
  ·rename_i xs hH
   obtain⟨ys,rfl,ok,q⟩:=h'
   obtain⟨t,rfl⟩:=rx
   obtain⟨u,rfl,ru⟩:=rv.one
   cases ru
   obtain⟨its,n,r,ho,hz⟩:=I.lst hH
   obtain⟨lt,rfl,e⟩:=g0k r
   exact SC.join ⟨_,ho,rfl,_,rfl⟩ e ok fun t' k=>⟨.str _,H,I.tok k,⟨_,rfl⟩,q⟩
  ·exact h'.elim
end
theorem joinOk_of{z:Str}{ys:List Str}{n:Nat}(h:∀ y∈ys,y.length<=n)(hl:ys.length*(n+z.length)<=sizeLine):JoinOk z ys=true:=by
 unfold JoinOk
 have:∀ (ys:List Str) (a:Nat),(∀ y∈ys,y.length<=n)->ys.foldl (· + ·.length+z.length) a<=a+ys.length*(n+z.length):=by
  intro ys
  induction ys with
  | nil=>intro a _; simp
  | cons y ys ih =>
   intro a h
   have i:=ih (a+y.length+z.length) fun y hy=>h y (List.mem_cons_of_mem _ hy)
   have hy:=h y (List.mem_cons_self ..)
   rw [List.foldl_cons,List.length_cons,Nat.succ_mul]
   omega
 have t:=this ys 0 h
 rw [List.foldl_toArray]
 unfold Builtin.Str.tooLong
 simp
 omega
end L2
namespace L2
open PySem PySem.Spec PyProof.Rows
structure j8d(K:PySem.W.Frag)(w:World)(d:Addr):Prop where
 lk:∃ es n,K.lookup d=some ⟨.type "dict",none,.dict es n,#[]⟩/\PySem.W.KeysLit w.params es.toList
 ns:(d == sysModules)=false
def rNiD(K:PySem.W.Frag)(w:World)(neg:Bool):R2:=fun x y H Q=>match x,y with
 | .str z,.ref d=>j8d K w d/\∃ r,PySem.W.nsIn K d z=some r/\Q (.bl (r.isSome != neg)) H
 | _,_=>False
section
variable {X:Cx}
theorem g5h{K:PySem.W.Frag}{w:World}(eK:X.K=K)(eW:X.w=w):OpR X (compareOp .NotIn) (rNiD K w true):=by
 subst eK eW
 intro pins s σ H x y v u Q I rx ry h
 cases x <;> cases y <;> first | exact False.elim h | skip
 ·rename_i z d
  obtain⟨⟨⟨es,n,hl,hk⟩,hn⟩,r,e,q⟩:=h
  obtain⟨t,rfl⟩:=rx
  cases ry
  refine wpAny_notIn_of (PySem.strKind_is X.prog X.w z t) hn (PySem.W.mapOf_K (prog:=X.prog) I.kIn hl (hk)) ?_
  rw [PySem.W.find_K hl e]
  rw [Bool.bne_true] at q
  exact⟨.bl (!r.isSome),H,I.tok _,rfl,q⟩
def rIxD(K:PySem.W.Frag)(w:World):R2:=fun x y H Q=>match x,y with
 | .ref d,.str z=>j8d K w d/\∃ f,PySem.W.nsIn K d z=some (some (.ref f))/\Q (.ref f) H
 | _,_=>False
theorem j6g{K:PySem.W.Frag}{w:World}(eK:X.K=K)(eW:X.w=w):IxR X (rIxD K w):=by
 subst eK eW
 intro value slice pins s σ H x y v u Q I rx ry h hs
 cases x <;> cases y <;> first | exact False.elim h | skip
 ·rename_i d z
  obtain⟨⟨⟨es,n,hl,hk⟩,hn⟩,f,e,q⟩:=h
  obtain⟨t,rfl⟩:=ry
  cases rx
  have hm:=PySem.W.mapOf_K (prog:=X.prog) (w:=X.w) I.kIn hl (hk)
  exact tail_any hm.typeIs slot_dict_getitem.lookup (wpAny_getItem_of (PySem.strKind_is X.prog X.w z t) hm (PySem.W.find_K hl e) ⟨.ref f,H,I.tok _,rfl,q⟩) hs
def j2n(f:Addr)(sp:Sp)(dvs:List V)(E:XK)(tg:TE)(t:TA):TE:=fun σ H Q=>tg σ H fun x H1=>x = .ref f/\h9v sp dvs E t σ H1 Q
theorem f3p{CX:CXT}{k:Nat}{f:Addr}{fd:FuncData}{ps:List Str}{sp:Sp}{ds:List Value}{dvs:List V}{E:XK}{g e:Expr}{es:List Expr}{tg:TE}{t:TA}{pos:Pos}(F:a2m X.prog X.w X.K X.mg X.base CX k f fd ps sp)(hr:c7p k X.A)(hk:PySem.W.keepIn X.K (.ref f)=true)(hb:Binds X.K fd ps ds)(hd:Vals dvs ds)(hx:Passes CX X E)
  (hg:PE X g tg) (ha:PA X (e :: es) t) (he:starEach (e :: es) X.env=(false,eval e X.env) :: starEach es X.env:=by rfl) (hpl:(backTo pos (starEach es X.env)).any (·.1)=false:=by rfl)
  (hc:eval (.Call g (e :: es) [] pos) X.env=(do callWith pos (<- eval g X.env) [] (backTo pos (starEach (e :: es) X.env)) (backToKw pos (keywordEach [] X.env))):=by rfl) :
  PE X (.Call g (e :: es) [] pos) (j2n f sp dvs E tg t):=by
 intro pins s σ H Q I h
 refine Call_ (thn (hg pins s σ H _ I h) fun v s1 ⟨x,H1,I1,r1,ex,q1⟩=>?_) hc
 subst ex
 cases r1
 refine PySem.W.callWith_K (h₀:=X.base) I1.ok.mod.kin hk (thn (ha pos pins s1 σ H1 _ I1 q1) fun us s2 ⟨vs,H2,I2,r,q⟩=>⟨I2.kIn,?_⟩) he hpl
 exact h0r F hr hb hd hx I2 r q
theorem SP.j8e{pins:List (Addr×Obj)}{D:Ends}{f:Flow}{s:Shared}(h:SP X.nox pins D f s):SP X pins D f s:=by
 cases f with
 | next=>obtain⟨a,b,c,d⟩:=h; exact⟨a,b,c.c3h,d⟩
 | brk=>obtain⟨a,b,c,d⟩:=h; exact⟨a,b,c.c3h,d⟩
 | cont=>obtain⟨a,b,c,d⟩:=h; exact⟨a,b,c.c3h,d⟩
 | ret u=>obtain⟨v,a,b,c,d⟩:=h; exact⟨v,a,b,c.c3h,d⟩
theorem i6l{st:Stmt}{h₀:ExceptHandler}{hs:List ExceptHandler}{tb:TS}{pos:Pos}(hb:PS X.nox st tb):PS X (.Try [st] (h₀ :: hs) [] [] pos) tb:=by
 intro pins s σ H Dn I h
 refine wpAny_Try_except (wpAny_execs_cons (wpAny_mono (hb pins s σ H Dn (I.wish _) h) (fun f s1 q=>?_) fun e s1 z=>False.elim z))
 have q':=SP.j8e q
 cases f with
 | next=>exact wpAny_execs_nil (wpAny_execs_nil q')
 | ret v=>exact q'
 | brk=>exact q'
 | cont=>exact q'
end
end L2
namespace L2
open PySem PySem.Spec PyProof.Rows
theorem h1e{c:Nat}:∀ {a a' b b':List Nat},a++c :: b=a'++c :: b'->c∉a->c∉a'->a=a'/\b=b'
 | [],[],_,_,h,_,_=>by simpa using h
 | [],d :: a',_,_,h,_,h2=>by
  rw [List.nil_append,List.cons_append,List.cons.injEq] at h
  exact absurd (by rw [h.1]; exact List.mem_cons_self) h2
 | d :: a,[],_,_,h,h1,_=>by
  rw [List.nil_append,List.cons_append,List.cons.injEq] at h
  exact absurd (by rw [h.1]; exact List.mem_cons_self) h1
 | d :: a,d' :: a',_,_,h,h1,h2=>by
  rw [List.cons_append,List.cons_append,List.cons.injEq] at h
  obtain⟨e1,e2⟩:=h1e h.2 (fun q=>h1 (List.mem_cons_of_mem _ q)) (fun q=>h2 (List.mem_cons_of_mem _ q))
  exact⟨by rw [h.1,e1],e2⟩
theorem b1j(c:Nat)(p q:Str)(r:List Str):sg (Str.join ⟨#[c]⟩ (p :: q :: r))=sg p++c :: sg (Str.join ⟨#[c]⟩ (q :: r)):=by
 show sg (p++⟨#[c]⟩++Str.join ⟨#[c]⟩ (q :: r))=_
 rw [a5u,a5u,List.append_assoc]
 rfl
theorem g5i{c:Nat}:∀ {ps qs:List Str},ps≠[]->qs≠[]->(∀ p∈ps,c∉sg p)->(∀ q∈qs,c∉sg q)->sg (Str.join ⟨#[c]⟩ ps)=sg (Str.join ⟨#[c]⟩ qs)->ps=qs
 | [],_,h,_,_,_,_=>absurd rfl h
 | _ :: _,[],_,h,_,_,_=>absurd rfl h
 | [p],[q],_,_,_,_,e=>by
  rw [b2t (show sg p=sg q from e)]
 | [p],q :: q' :: qs,_,_,fp,_,e=>by
  rw [b1j] at e
  exact absurd (by rw [show sg p=_ from e]; simp) (fp p (List.mem_cons_self ..))
 | p :: p' :: ps,[q],_,_,_,fq,e=>by
  rw [b1j] at e
  exact absurd (by rw [show sg q=_ from e.symm]; simp) (fq q (List.mem_cons_self ..))
 | p :: p' :: ps,q :: q' :: qs,_,_,fp,fq,e=>by
  rw [b1j,b1j] at e
  obtain⟨e1,e2⟩:=h1e e (fp p (List.mem_cons_self ..)) (fq q (List.mem_cons_self ..))
  rw [b2t e1,g5i (by simp) (by simp) (fun x hx=>fp x (List.mem_cons_of_mem _ hx)) (fun x hx=>fq x (List.mem_cons_of_mem _ hx)) e2]
theorem g5j(x y:Str):a2l x y=Txt.split x y:=rfl
theorem g1x(x y:Str):Txt.split x y≠[]:=by
 unfold Txt.split
 split
 ·simp
 ·split
  ·simp
  ·rw [StrLaws.partsBetween_eq]
   obtain⟨p,r,e⟩:=StrLaws.partsFrom_ne x y.length 0 (Builtin.Str.occurrences x y 0 x.length (x.length+1))
   rw [e]
   simp
theorem d5g{x:Str}{c:Nat}{ps:List Str}(hn:ps≠[])(hf:∀ p∈ps,c∉sg p)(h:sg x=sg (Str.join ⟨#[c]⟩ ps)):a2l x ⟨#[c]⟩=ps:=by
 rw [g5j]
 refine g5i (c:=c) (g1x _ _) hn (fun p hp=>StrLaws.split_free x c p hp) hf ?_
 rw [StrLaws.join_split,h]
end L2
namespace L2
open PySem PySem.Spec PyProof.Rows
def h6t(t t':TE):TE:=fun σ H Q=>t σ H Q\/t' σ H Q
theorem d8l{X:Cx}{e:Expr}{t t':TE}(h:PE X e t)(h':PE X e t'):PE X e (h6t t t'):=fun pins s σ H Q I z=>z.elim (h pins s σ H Q I) (h' pins s σ H Q I)
theorem g8g:∀ (k n:Nat),n < 10 ^ (k+1)->(dg n).length<=k+1
 | 0,n,h=>by
  rw [f8r (by omega)]
  exact Nat.le_refl _
 | k+1,n,h=>by
  rcases Nat.lt_or_ge n 10 with z | z
  ·rw [f8r z,List.length_singleton]
   omega
  ·have e:n=10*(n / 10)+n % 10:=by omega
   rw [e,d6m (by omega) (by omega),List.length_append,List.length_singleton]
   have:=g8g k (n / 10) (by rw [Nat.pow_succ] at h; omega)
   omega
theorem g8h{K:PySem.W.Frag}{a D:Addr}{xs:List V}{te:TE}{σ:St}{H:Hp}{Q:VK}(Pv:Nat->List V->Hp->Prop)(h0:Pv 0 [] H)(hsz:xs.length<=sizeLine)
  (hD:∀ i ys H,i<=xs.length->Pv i ys H->H D=some (.lst ys)/\SqL K H a xs/\ys.length=i)
  (hs:∀ i x ys H,xs[i]? = some x->Pv i ys H->∃ p u v,x = .ref p/\H p=some (.tup [u,v])/\te (some u :: some v :: σ) H fun y H2=>H2 D=some (.lst ys)/\∀ H3,a6t D H2 H3->H3 D=some (.lst (ys++[y]))->Pv (i+1) (ys++[y]) H3)
  (hd:∀ ys H,Pv xs.length ys H->Q (.ref D) H):h1c (Itl K a) te D σ H Q ⟨⟩:=by
 refine⟨xs.length,Pv,h0,fun i ys H hi p=>?_⟩
 obtain⟨e1,e2,e3⟩:=hD i ys H hi p
 refine⟨e1,?_⟩
 by_cases hlt:i < xs.length
 ·refine .inr ⟨hlt,⟨xs,xs[i],e2,by simp [hlt]⟩,by omega,fun x H' y=>?_⟩
  obtain⟨e,y⟩:=y
  subst e
  exact hs i x ys _ (y xs e2) p
 ·have e:i=xs.length:=by omega
  subst e
  exact .inl ⟨⟨xs,e2,Nat.le_refl _⟩,hd ys H p⟩
open PySem.Builtin.Int (intBits)
noncomputable def fW(x:Rat):Str:=Str.empty++Str.ofString (toString x.num)++Str.ofString "/"++Str.ofString (toString (x.den:Int))
noncomputable def cW(c:Int×Rat):Str:=Str.empty++Str.ofString (toString c.1)++Str.ofString "="++fW c.2
noncomputable def nW(n:Nat):Str:=Str.ofString (toString (n:Int))
def YOk(y:Rat):Prop:=y.num.natAbs<=1000/\y.den<=1000
inductive Dt where
 | gain (y:Rat)
 | delay (n:Nat)
 | echo (y:Rat) (n t:Nat)
 | back (y:Rat) (n:Nat)
 | hall (y:Rat) (n:Nat)
 | swell (cs:List (Int×Rat))
noncomputable def Dt.kd:Dt->Nat
 | .gain _=>0
 | .delay _=>1
 | .echo .. => 2
 | .back .. => 3
 | .hall .. => 4
 | .swell _=>5
noncomputable def Dt.kind:Dt->Str
 | .gain _=>Str.ofString "gain"
 | .delay _=>Str.ofString "delay"
 | .echo .. => Str.ofString "echo"
 | .back .. => Str.ofString "back"
 | .hall .. => Str.ofString "hall"
 | .swell _=>Str.ofString "swell"
noncomputable def Dt.vals:Dt->List Str
 | .gain y=>[fW y]
 | .delay n=>[nW n]
 | .echo y n t=>[fW y,nW n,nW t]
 | .back y n=>[fW y,nW n]
 | .hall y n=>[fW y,nW n]
 | .swell cs=>[Str.join ⟨#[44]⟩ (cs.map cW)]
noncomputable def Dt.word(d:Dt):Str:=Str.join ⟨#[58]⟩ (d.kind :: d.vals)
def j2o(cs:List (Int×Rat)):Prop:=(∀ c∈cs,0<=c.1/\c.1<=100000/\YOk c.2)/\(∀ (i:Nat) c d,cs[i]? = some c->cs[i+1]? = some d->c.1 < d.1)/\1<=cs.length/\cs.length<=12
noncomputable def Dt.ok:Dt->Prop
 | .gain y=>YOk y
 | .delay n=>n<=1000
 | .echo y n t=>YOk y/\1<=n/\n<=1000/\t<=16
 | .back y n=>YOk y/\1<=n/\n<=1000
 | .hall y n=>YOk y/\(y.num.natAbs:Int) < y.den/\1<=n/\n<=1000
 | .swell cs=>j2o cs
theorem g5k{t:Int}{n:Nat}(h:t.natAbs < 2 ^ n)(hn:1<=n):t.natAbs.log2 < n:=by
 rcases Nat.eq_zero_or_pos t.natAbs with z | z
 ·rw [z]
  show Nat.log2 0 < n
  have:Nat.log2 0=0:=by decide
  omega
 ·rw [Nat.log2_lt (by omega)]
  exact h
theorem d6n{t:Int}{n:Nat}(h:t.natAbs < 2 ^ n)(hn:1<=n):(Str.ofString (toString t)).length<=n+1:=by
 have e:(Str.ofString (toString t)).length=(txt t).length:=by rw [<- b0v,d8i]
 have:=g8e t
 have:=g5k h hn
 omega
theorem i4a{n:Nat}(h:n < 2 ^ 20):(nW n).length<=21:=d6n (t:=(n:Int)) (n:=20) (by omega) (by decide)
theorem YOk.b{y:Rat}(h:YOk y):intBits y.num<=10/\intBits (y.den:Int)<=10:=⟨intBits_le_iff.mpr (Nat.lt_of_le_of_lt h.1 (by decide)),intBits_le_iff.mpr (Nat.lt_of_le_of_lt (show (y.den:Int).natAbs<=1000 from h.2) (by decide))⟩
theorem h1f{x:Rat}(h1:intBits x.num<=10)(h2:intBits (x.den:Int)<=10):(fW x).length<=23:=by
 have a:=d6n (intBits_le_iff.mp h1) (by decide)
 have b:=d6n (intBits_le_iff.mp h2) (by decide)
 have e0:Str.empty.length=0:=rfl
 have e1:(Str.ofString "/").length=1:=by decide +kernel
 unfold fW
 simp only [strLen_append,e0,e1]
 omega
theorem j2p{c:Int×Rat}(h0:c.1.natAbs < 2 ^ 20)(h1:intBits c.2.num<=10)(h2:intBits (c.2.den:Int)<=10):(cW c).length<=45:=by
 have a:=d6n h0 (by decide)
 have b:=h1f h1 h2
 have e0:Str.empty.length=0:=rfl
 have e1:(Str.ofString "=").length=1:=by decide +kernel
 unfold cW
 simp only [strLen_append,e0,e1]
 omega
theorem g8i(n:Nat):sg (nW n)=txt (n:Int):=d8i _
theorem j2q(y:Rat):sg (fW y)=i3w y.num (y.den:Int):=by
 unfold fW i3w
 rw [a5u,a5u,a5u,d8i,d8i]
 have e4:sg Str.empty = []:=rfl
 have e5:sg (Str.ofString "/") = [47]:=by decide +kernel
 rw [e4,e5]
 simp
theorem j8f(c:Int×Rat):sg (cW c)=txt c.1++61 :: sg (fW c.2):=by
 unfold cW
 rw [a5u,a5u,a5u,d8i]
 have e4:sg Str.empty = []:=rfl
 have e5:sg (Str.ofString "=") = [61]:=by decide +kernel
 rw [e4,e5]
 simp
theorem i6m{y:Rat}(h:YOk y):Good (sg (fW y)) y.num (y.den:Int):=by
 have dp:=y.den_pos
 refine⟨j2q y,by omega,y.reduced,?_,?_⟩
 ·exact g8g 8 _ (Nat.lt_of_le_of_lt h.1 (by decide))
 ·exact g8g 8 _ (Nat.lt_of_le_of_lt (show (y.den:Int).natAbs<=1000 from h.2) (by decide))
theorem h6u{c:Nat}(h1:c≠45)(h2:57 < c)(y:Rat):c∉sg (fW y):=by
 rw [j2q]
 unfold i3w
 intro h
 rcases List.mem_append.mp h with z | z
 ·exact g0j h1 (.inr h2) z
 ·rcases List.mem_cons.mp z with z | z
  ·omega
  ·exact g0j h1 (.inr h2) z
theorem h6v{c:Nat}(h1:c≠45)(h2:c < 48\/57 < c)(n:Nat):c∉sg (nW n):=by
 rw [g8i]
 exact g0j h1 h2
theorem i6n(c:Int×Rat):58∉sg (cW c):=by
 rw [j8f]
 intro h
 rcases List.mem_append.mp h with z | z
 ·exact g0j (by decide) (.inr (by decide)) z
 ·rcases List.mem_cons.mp z with z | z
  ·omega
  ·exact h6u (by decide) (by decide) _ z
theorem h6w{c k:Nat}(hk:c≠k):∀ {ps:List Str},(∀ p∈ps,c∉sg p)->c∉sg (Str.join ⟨#[k]⟩ ps)
 | [],_=>by
  show c∉([] : List Nat)
  simp
 | [p],h=>h p (List.mem_cons_self ..)
 | p :: q :: r,h=>by
  rw [b1j]
  intro z
  rcases List.mem_append.mp z with z | z
  ·exact h p (List.mem_cons_self ..) z
  ·rcases List.mem_cons.mp z with z | z
   ·exact hk z
   ·exact h6w hk (fun x hx=>h x (List.mem_cons_of_mem _ hx)) z
theorem g5l{b:Nat}:∀ {l:List Nat},(∀ x∈l,x<=b)->l.sum<=l.length*b
 | [],_=>Nat.zero_le _
 | x :: l,h=>by
  have i:=g5l (l:=l) fun y hy=>h y (List.mem_cons_of_mem _ hy)
  have:=h x (List.mem_cons_self ..)
  rw [List.sum_cons,List.length_cons,Nat.succ_mul]
  omega
theorem f3q{z:Str}{ps:List Str}{n:Nat}(h:∀ p∈ps,p.length<=n):(Str.join z ps).length<=ps.length*n+ps.length*z.length:=by
 have a:=StrLaws.join_length_le z ps
 have b:=g5l (b:=n) (l:=ps.map (·.length)) fun x hx=>by
  obtain⟨y,hy,rfl⟩:=List.mem_map.mp hx
  exact h y hy
 rw [List.length_map] at b
 have c:(ps.length - 1)*z.length<=ps.length*z.length:=Nat.mul_le_mul_right _ (Nat.sub_le _ _)
 omega
theorem j2o.len{cs:List (Int×Rat)}(h:j2o cs):∀ c∈cs,(cW c).length<=45:=fun c hc=>by
 obtain⟨a,b,y⟩:=h.1 c hc
 exact j2p (by omega) y.b.1 y.b.2
theorem j2o.jlen{cs:List (Int×Rat)}(h:j2o cs):(Str.join ⟨#[44]⟩ (cs.map cW)).length<=600:=by
 have a:=f3q (z:=⟨#[44]⟩) (ps:=cs.map cW) (n:=45) fun p hp=>by
  obtain⟨c,hc,rfl⟩:=List.mem_map.mp hp
  exact h.len c hc
 rw [List.length_map,b8s] at a
 have:=h.2.2.2
 omega
theorem Dt.free{d:Dt}:∀ p∈d.kind :: d.vals,58∉sg p:=by
 cases d <;> intro p hp <;> simp only [Dt.kind,Dt.vals,List.mem_cons,List.not_mem_nil,or_false] at hp
 case gain => rcases hp with rfl|rfl; decide +kernel; exact h6u (by decide) (by decide) _
 case delay => rcases hp with rfl|rfl; decide +kernel; exact h6v (by decide) (.inr (by decide)) _
 case echo => rcases hp with rfl|rfl|rfl|rfl; decide +kernel; exact h6u (by decide) (by decide) _; exact h6v (by decide) (.inr (by decide)) _; exact h6v (by decide) (.inr (by decide)) _
 case back => rcases hp with rfl|rfl|rfl; decide +kernel; exact h6u (by decide) (by decide) _; exact h6v (by decide) (.inr (by decide)) _
 case hall => rcases hp with rfl|rfl|rfl; decide +kernel; exact h6u (by decide) (by decide) _; exact h6v (by decide) (.inr (by decide)) _
 case swell cs =>
  rcases hp with rfl | rfl
  ·decide +kernel
  ·refine h6w (by decide) fun p hp=>?_
   obtain⟨c,_,rfl⟩:=List.mem_map.mp hp
   exact i6n c
theorem Dt.vlen{d:Dt}(h:d.ok):∀ p∈d.kind :: d.vals,p.length<=600:=by
 have k1:(Str.ofString "gain").length=4:=by decide +kernel
 have k2:(Str.ofString "delay").length=5:=by decide +kernel
 have k3:(Str.ofString "echo").length=4:=by decide +kernel
 have k4:(Str.ofString "back").length=4:=by decide +kernel
 have k5:(Str.ofString "hall").length=4:=by decide +kernel
 have k6:(Str.ofString "swell").length=5:=by decide +kernel
 have f:∀ {y:Rat},YOk y->(fW y).length<=600:=fun h=>Nat.le_trans (h1f h.b.1 h.b.2) (by decide)
 have g:∀ {n:Nat},n<=1000->(nW n).length<=600:=fun h=>Nat.le_trans (i4a (Nat.lt_of_le_of_lt h (by decide))) (by decide)
 cases d <;> intro p hp <;> simp only [Dt.kind,Dt.vals,List.mem_cons,List.not_mem_nil,or_false] at hp
 case gain => rcases hp with rfl|rfl; omega; exact f h
 case delay => rcases hp with rfl|rfl; omega; exact g h
 case echo => rcases hp with rfl|rfl|rfl|rfl; omega; exact f h.1; exact g h.2.2.1; exact g (Nat.le_trans h.2.2.2 (by decide))
 case back => rcases hp with rfl|rfl|rfl; omega; exact f h.1; exact g h.2.2
 case hall => rcases hp with rfl|rfl|rfl; omega; exact f h.1; exact g h.2.2.2
 case swell cs => rcases hp with rfl|rfl; omega; exact h.jlen
theorem Dt.vn{d:Dt}:d.vals.length<=3:=by
 cases d <;> simp [Dt.vals]
theorem Dt.wlen{d:Dt}(h:d.ok):d.word.length<=4000:=by
 have a:=f3q (z:=⟨#[58]⟩) (d.vlen h)
 have b:=d.vn
 rw [List.length_cons,b8s] at a
 unfold Dt.word
 omega
theorem Dt.split(d:Dt):a2l d.word ⟨#[58]⟩=d.kind :: d.vals:=d5g (by simp) d.free rfl
theorem g8j(z p:Str):Str.join z [p]=p:=rfl
theorem i6o:sg Str.empty = []:=rfl
theorem j2r:sg (Str.ofString "gain:")=sg (Str.ofString "gain")++[58]:=by decide +kernel
theorem i6p:sg (Str.ofString "delay:")=sg (Str.ofString "delay")++[58]:=by decide +kernel
theorem j2s:sg (Str.ofString ":") = [58]:=by decide +kernel
theorem j8g:Str.ofString ":" = ⟨#[58]⟩:=by decide +kernel
theorem j2t(y:Rat):Str.empty++Str.ofString "gain:"++fW y=(Dt.gain y).word:=b2t (by
 simp only [Dt.word,Dt.kind,Dt.vals,a5u,b1j,g8j,i6o,j2r,j2s,List.nil_append,List.append_assoc,List.singleton_append,List.cons_append])
theorem i6q(n:Nat):Str.empty++Str.ofString "delay:"++nW n=(Dt.delay n).word:=b2t (by
 simp only [Dt.word,Dt.kind,Dt.vals,a5u,b1j,g8j,i6o,i6p,j2s,List.nil_append,List.append_assoc,List.singleton_append,List.cons_append])
theorem h6x(z:Str)(ps:List Str):Txt.join z ps=Str.join z ps:=by
 show Builtin.Str.glued _ _=_
 rw [StrLaws.glued_eq_join]
end L2
namespace L2
open PySem PySem.Spec PyProof.Rows
section
variable {X:Cx}
noncomputable def i6r:V->List V->Hp->VK->Prop:=fun x vs H Q=>match x,vs with
 | .ref l,[.int i,y]=>(match H l with
  | some (.lst xs)=>0<=i/\i < 1000000/\xs.length < sizeLine/\All (fun v H1=>v = .non/\a6t l H H1/\H1 l=some (.lst (xs.take i.toNat++y :: xs.drop i.toNat))) Q ⟨⟩ ⟨⟩
  | _=>False)
 | _,_=>False
theorem g0l:MtR X "list.insert" i6r:=by
 intro pins s σ H x vs v us Q I rx rv h
 match x,vs,h with
 | .ref l,[.int i,y],h =>
  have h':(match H l with
   | some (.lst xs)=>0<=i/\i < 1000000/\xs.length < sizeLine/\All (fun v H1=>v = .non/\a6t l H H1/\H1 l=some (.lst (xs.take i.toNat++y :: xs.drop i.toNat))) Q ⟨⟩ ⟨⟩
   | _=>False):=h
  split at h'
  ·rename_i xs hH
   obtain⟨i0,i1,hz,q⟩:=h'
   cases rx
   obtain⟨u,u2,rfl,ru,ru2⟩:=rv.two
   obtain⟨t,rfl⟩:=ru
   obtain⟨z,its,n,r,hl,e⟩:=I.i2w hH
   have hf:Builtin.List.listFitsIndex i=true:=fitsIndex_both (by omega) (by omega)
   refine call_meets F.slot_list_insert ⟨_,e,rfl⟩ F.entry_list_insert (F.args_list_insert_3 _ _ _) (PySem.AutoSeq1.list_insert_list_int_val_1 l its.toArray n i t u2 (by simp [hf]) (by rw [List.size_toArray]; omega)) ⟨e,?_⟩
   refine⟨.non,_,I.j5z (its':=its.take i.toNat++u2 :: its.drop i.toNat) hH e ?_ ((r.take _).append (.cons ru2 (r.drop _))) ?_,rfl,q _ _ ⟨rfl,a6t.upd,a6m⟩⟩
   ·have hk:(if i < 0 then (i+((its.toArray.size:Nat):Int)).toNat else min i.toNat its.toArray.size)=min i.toNat its.length:=by
     rw [if_neg (by omega),List.size_toArray]
    show (its.toArray.extract 0 (if i < 0 then (i+((its.toArray.size:Nat):Int)).toNat else min i.toNat its.toArray.size)).push u2++its.toArray.extract (if i < 0 then (i+((its.toArray.size:Nat):Int)).toNat else min i.toNat its.toArray.size)=_
    rw [hk]
    apply Array.ext'
    rcases Nat.le_total i.toNat its.length with hle | hle
    ·rw [Nat.min_eq_left hle]
     simp
     exact List.take_of_length_le (by rw [List.length_drop]; omega)
    ·rw [Nat.min_eq_right hle,List.take_of_length_le hle,List.drop_of_length_le hle]
     simp
   ·rw [List.length_append,List.length_cons,List.length_take,List.length_drop]
    omega
  ·exact h'.elim
noncomputable def j8h:V->List V->Hp->VK->Prop:=fun x vs H Q=>match x,vs with
 | .ref l,[.int i]=>(match H l with
  | some (.lst xs)=>0<=i/\i < (xs.length:Int)/\All (fun v H1=>xs[i.toNat]? = some v/\a6t l H H1/\H1 l=some (.lst (xs.eraseIdx i.toNat))) Q ⟨⟩ ⟨⟩
  | _=>False)
 | .ref l,[]=>(match H l with
  | some (.lst xs)=>0 < xs.length/\All (fun v H1=>xs[xs.length - 1]? = some v/\a6t l H H1/\H1 l=some (.lst xs.dropLast)) Q ⟨⟩ ⟨⟩
  | _=>False)
 | _,_=>False
theorem h6y:MtR X "list.pop" j8h:=by
 intro pins s σ H x vs v us Q I rx rv h
 match x,vs,h with
 | .ref l,[.int i],h =>
  have h':(match H l with
   | some (.lst xs)=>0<=i/\i < (xs.length:Int)/\All (fun v H1=>xs[i.toNat]? = some v/\a6t l H H1/\H1 l=some (.lst (xs.eraseIdx i.toNat))) Q ⟨⟩ ⟨⟩
   | _=>False):=h
  split at h'
  ·rename_i xs hH
   obtain⟨i0,i1,q⟩:=h'
   obtain⟨z,its,n,r,hl,e⟩:=I.i2w hH
   have hs:sizeLine=16777216:=sizeLine_eq
   have hx : xs[i.toNat]? = some (xs[i.toNat]'(by omega)) := List.getElem?_eq_getElem _
   refine h9z pins s σ H _ _ v us Q I rx rv ⟨l, xs, i, i.toNat, xs[i.toNat]'(by omega), rfl, rfl, hH, by omega, by omega, ?_, hx, q _ _ ⟨hx, a6t.upd, a6m⟩⟩
   unfold seqIndex?
   simp only
   rw [if_neg (show ¬ i < 0 by omega)]
   rw [if_pos (by rw [Bool.and_eq_true,decide_eq_true_eq,decide_eq_true_eq]; omega)]
  ·exact h'.elim
 | .ref l,[],h =>
  have h':(match H l with
   | some (.lst xs)=>0 < xs.length/\All (fun v H1=>xs[xs.length - 1]? = some v/\a6t l H H1/\H1 l=some (.lst xs.dropLast)) Q ⟨⟩ ⟨⟩
   | _=>False):=h
  split at h'
  ·rename_i xs hH
   obtain⟨i0,q⟩:=h'
   have hx : xs[xs.length - 1]? = some (xs[xs.length - 1]'(by omega)) := List.getElem?_eq_getElem _
   exact j0x pins s σ H _ _ v us Q I rx rv ⟨l,xs,_,rfl,rfl,hH,hx,q _ _ ⟨hx,a6t.upd,a6m⟩⟩
  ·exact h'.elim
end
end L2
namespace L2
open PySem PySem.Spec PyProof.Rows PySem.W
theorem g5m{K:PySem.W.Frag}{H:Hp}:∀ ss:List Str,d1g K H (ss.map V.str) (kqdPs (ss.map Dat.str))
 | []=>.nil
 | n :: ns=>.cons (.str n) (g5m ns)
theorem f4r{ns ms:List Str}:ns.map Dat.str=ms.map Dat.str ↔ ns=ms:=by
 induction ns generalizing ms with
 | nil=>cases ms <;> simp
 | cons n ns ih=>cases ms <;> simp [ih]
theorem f3r{ss:List Str}(h:∀ s∈ss,PyData.strOk s=true):kqdOk 1 (.list (ss.map .str))=true:=by
 show (ss.map Dat.str).all (kqdOk 0)=true
 rw [List.all_eq_true]
 intro d hd
 obtain⟨s,hs,rfl⟩:=List.mem_map.mp hd
 exact h s hs
theorem d8m{K:PySem.W.Frag}{H:Hp}{p:Addr}{ss:List Str}(h:SqL K H p (ss.map V.str)):g0e K H (.ref p) (kqdP (.list (ss.map .str))):=by
 rw [kqdP]
 exact .lst h (g5m ss)
theorem g1y{K:PySem.W.Frag}{H:Hp}{p q:Addr}{ns ms:List Str}{Q:VK}(hp:SqL K H p (ns.map V.str))(hq:SqL K H q (ms.map V.str))(h1:∀ s∈ns,PyData.strOk s=true)(h2:∀ s∈ms,PyData.strOk s=true)(h:Q (.bl (!decide (ns=ms))) H):j6b K (.ref p) (.ref q) H Q :=
 j1p (d8m hp) (d8m hq) (f3r h1) (f3r h2) (by decide) (by decide) (by rw [decide_eq_true_eq,Dat.list.injEq,f4r]) h
theorem h1g{K:PySem.W.Frag}{H:Hp}{p q:Addr}{ns ms:List Str}{Q:VK}(hp:SqL K H p (ns.map V.str))(hq:SqL K H q (ms.map V.str))(h1:∀ s∈ns,PyData.strOk s=true)(h2:∀ s∈ms,PyData.strOk s=true)(h:Q (.bl (decide (ns=ms))) H):j6a K (.ref p) (.ref q) H Q :=
 j1o (d8m hp) (d8m hq) (f3r h1) (f3r h2) (by decide) (by decide) (by rw [decide_eq_true_eq,Dat.list.injEq,f4r]) h
end L2
namespace L2
open PySem PySem.Spec PyProof.Rows
section
variable {X:Cx}
noncomputable def j8i:List V->Hp->VK->Prop:=fun xs H Q=>match xs with
 | [.ref p]=>(match H p with
  | some (.lst ys)=>∃ bs:List Bool,ys=bs.map V.bl/\Q (.bl (bs.all id)) H
  | _=>False)
 | _=>False
theorem g5n:∀ {bs:List Bool} {us:List Value},Vals (bs.map V.bl) us->us.length=bs.length/\∀ (i:Nat) v,us[i]? = some v->∃ b,bs[i]? = some b/\v = .bool b
 | [],_,h=>by cases h; exact⟨rfl,fun i v e=>by simp at e⟩
 | b :: bs,_,h=>by
  cases h with
  | cons r t =>
   have ih:=g5n t
   refine⟨by simp [ih.1],fun i v e=>?_⟩
   cases i with
   | zero=>simp at e; exact⟨b,rfl,e.symm.trans r⟩
   | succ i=>simp at e; exact ih.2 i v e
theorem g5o(hc:X.calm=true):d0i X (.builtin "all") j8i:=by
 intro pins s σ H xs us Q I r h
 match xs,r,h with
 | [.ref p],r,h =>
  have h':(match H p with
   | some (.lst ys)=>∃ bs:List Bool,ys=bs.map V.bl/\Q (.bl (bs.all id)) H
   | _=>False):=h
  split at h'
  ·rename_i ys e
   obtain⟨bs,rfl,q⟩:=h'
   obtain⟨u,rfl,ru⟩:=vals1 r
   cases (show u=Value.ref p from ru)
   obtain⟨its,rv,⟨o,n,e1,c1,d1,dd⟩,_⟩:=I.list (SqL.of e)
   obtain⟨hbl,hb⟩:=g5n rv
   have hl:s.heap.IsList p its.toArray:=⟨o,e1,c1,n,dd⟩
   have hlt:p < s.heap.objs.size:=Heap.lt_size e1
   refine call_all_walk (wpAny_pyIter_list hl ?_)
   refine⟨s.heap.objs.size,[s.heap.objs.size,p],[s.heap.objs.size],its.toArray.size,_,_,fun i=>(bs[i]?).getD true,rfl,Walks.list (A:=X.A.in1) (I.ok.hd hc) _ p (Nat.ne_of_lt hlt) its.toArray,
    ⟨⟨_,Heap.get?_push_size _ rfl,rfl,rfl⟩,hl.push _⟩,fun i v s' Q' E' hP hQ=>?_,fun h' tk hk=>?_⟩
   ·obtain⟨b,e,rfl⟩:=hb i v (by simpa using hP)
    simp only [e,Option.getD_some] at hQ
    exact wpAny_truthy_bool hQ
   ·have e:((List.range its.toArray.size).all fun i=>(bs[i]?).getD true)=bs.all id:=by
     rw [List.size_toArray,hbl]; exact LSm.range_all bs
    rw [e]
    exact⟨.bl _,H,I.kept (LSm.kept_iter hk),rfl,q⟩
  ·exact h'.elim
end
def i6s(J:It)(tc:TT)(te:TE)(D:Addr)(σ:St)(H:Hp)(Q:VK)(_:Tag Q):Prop:=∃ (n:Nat) (W:Nat->List V->Hp->Prop),W 0 [] H/\∀ i ys H,i<=n->W i ys H->H D=some (.lst ys) /\
 ((J.stop i H/\Q (.ref D) H)\/(i < n/\J.go i H/\ys.length < sizeLine/\∀ x H',J.yld i H x H'->∃ p u v,x = .ref p/\H' p=some (.tup [u,v])/\tc (some u :: some v :: σ) H' fun b H1 =>
  if b=true then te (some u :: some v :: σ) H1 fun y H2=>H2 D=some (.lst ys)/\∀ H3,a6t D H2 H3->H3 D=some (.lst (ys++[y]))->W (i+1) (ys++[y]) H3
  else W (i+1) ys H1))
def j8j(wi:TI)(tc:TT)(te:TE):TE:=fun σ H Q=>wi σ H fun J H1=>∀ D H2,H1 D=none->Same H1 H2->H2 D=some (.lst [])->i6s J tc te D σ H2 Q ⟨⟩
section
variable {X:Cx}{scope:Scope}{x y:Str}{pins:List (Addr×Obj)}{σ:St}{elt iter cnd:Expr}{px py tpos pos:Pos}{kk:Nat}{wi:TI}{te:TE}{tc:TT}
end
end L2
namespace L2
open PySem PySem.Spec PyProof.Rows
theorem hu1{n:Nat}(h:n+64 < cLine):n+1 < cLine:=by omega
noncomputable def kT(k:Str):Key:=.inr k
def j2u(x y:V)(H:Hp)(Q:VK):Prop:=match x,y with
 | .ref a,.str k=>(match H a with
  | some (.dK kvs)=>∃ v,f3n kvs (kT k)=some v/\Q v H
  | _=>False)
 | _,_=>False
def j2v(neg:Bool)(x y:V)(H:Hp)(Q:VK):Prop:=match x,y with
 | .ref a,.str k=>(match H a with
  | some (.dK kvs)=>Q (.bl ((f3n kvs (kT k)).isSome != neg)) H
  | _=>False)
 | _,_=>False
theorem i0o{x y:V}{H:Hp}{Q:VK}(h:j2u x y H Q):∃ a k kvs v,x = .ref a/\y = .str k/\H a=some (.dK kvs)/\f3n kvs (kT k)=some v/\Q v H:=by
 cases x <;> cases y <;> first | exact False.elim h | skip
 ·rename_i a k
  have h':(match H a with
   | some (.dK kvs)=>∃ v,f3n kvs (kT k)=some v/\Q v H
   | _=>False):=h
  split at h'
  ·rename_i kvs e
   obtain⟨v,e1,q⟩:=h'
   exact⟨a,k,kvs,v,rfl,rfl,e,e1,q⟩
  ·exact h'.elim
theorem i0p{x y:V}{H:Hp}{Q:VK}{neg:Bool}(h:j2v neg x y H Q):∃ a k kvs,x = .ref a/\y = .str k/\H a=some (.dK kvs)/\Q (.bl ((f3n kvs (kT k)).isSome != neg)) H:=by
 cases x <;> cases y <;> first | exact False.elim h | skip
 ·rename_i a k
  have h':(match H a with
   | some (.dK kvs)=>Q (.bl ((f3n kvs (kT k)).isSome != neg)) H
   | _=>False):=h
  split at h'
  ·rename_i kvs e
   exact⟨a,k,kvs,rfl,rfl,e,h'⟩
  ·exact h'.elim
def j2w(td ty:TE):TE:=fun σ H Q=>td σ H fun x H1=>ty σ H1 fun y H2=>j2u x y H2 Q
def i0q(ty td:TE):TE:=fun σ H Q=>ty σ H fun y H1=>td σ H1 fun x H2=>j2v true x y H2 Q
def j2x(x y v:V)(H:Hp)(Q:Hp->Prop):Prop:=match x,y with
 | .ref a,.str k=>(match H a with
  | some (.dK kvs)=>kvs.length < sizeLine/\∀ H1,a6t a H H1->H1 a=some (.dK (putK kvs (kT k) v))->Q H1
  | _=>False)
 | _,_=>False
theorem i0r{x y v:V}{H:Hp}{Q:Hp->Prop}(h:j2x x y v H Q):∃ a k kvs,x = .ref a/\y = .str k/\H a=some (.dK kvs)/\kvs.length < sizeLine/\∀ H1,a6t a H H1->H1 a=some (.dK (putK kvs (kT k) v))->Q H1:=by
 cases x <;> cases y <;> first | exact False.elim h | skip
 ·rename_i a k
  have h':(match H a with
   | some (.dK kvs)=>kvs.length < sizeLine/\∀ H1,a6t a H H1->H1 a=some (.dK (putK kvs (kT k) v))->Q H1
   | _=>False):=h
  split at h'
  ·rename_i kvs e
   exact⟨a,k,kvs,rfl,rfl,e,h'⟩
  ·exact h'.elim
def j2y(td ty tv:TE):TS:=fun D σ H=>tv σ H fun v H1=>td σ H1 fun x H2=>ty σ H2 fun y H3=>j2x x y v H3 (D.nx σ)
def j2z(tk tv:TE):TE:=fun σ H Q=>∀ p H1,H p=none->Same H H1->H1 p=some (.dK [])->tk σ H1 fun x H2=>tv σ H2 fun y H3=>∃ k,x = .str k/\H3 p=some (.dK [])/\∀ H4,a6t p H3 H4->H4 p=some (.dK [(kT k,y)])->Q (.ref p) H4
section
variable {X:Cx}{o i e value:Expr}{pos pos' tpos:Pos}{td ty tv tk:TE}
theorem h1h(hu:X.A.units+1 < cLine)(ho:PE X o td)(hi:PE X i ty)(hs:k0z i):PE X (.Subscript o i pos) (j2w td ty):=by
 intro pins s σ H Q I h
 refine i5v PySem.F.slot_dict_getitem.lookup hs (thn (ho pins s σ H _ I h) fun u s1 ⟨x,H1,I1,rx,q1⟩=>thn (hi pins s1 σ H1 _ I1 q1) fun iv s2 ⟨y,H2,I2,ry,q⟩=>?_)
 obtain⟨a,k,kvs,v,ex,ey,e,ev,q2⟩:=i0o q
 subst ex ey
 obtain rfl:u=Value.ref a:=rx
 have g:h6c H2 a (kV (kT k)) (some v):=ev▸h6c.k e
 exact⟨g7v I2 g,h6d hu I2 g ry fun w' s3 I3 rw'=>⟨v,H2,I3,rw',q2⟩⟩
theorem h2y(hu:X.A.units+1 < cLine)(hi:PE X i ty)(ho:PE X o td):PC X .NotIn i o (i0q ty td):=by
 intro pins s σ H Q I h
 refine thn (hi pins s σ H _ I h) fun iv s1 ⟨y,H1,I1,ry,q1⟩=>thn (ho pins s1 σ H1 _ I1 q1) fun u s2 ⟨x,H2,I2,rx,q⟩=>?_
 obtain⟨a,k,kvs,ex,ey,e,q2⟩:=i0p q
 subst ex ey
 obtain rfl:u=Value.ref a:=rx
 have g:h6c H2 a (kV (kT k)) (f3n kvs (kT k)):=h6c.k e
 rw [Bool.bne_true] at q2
 exact i5u hu I2 g ry fun s3 I3=>⟨.bl (!(f3n kvs (kT k)).isSome),H2,I3,rfl,q2⟩
theorem i6t{op:CmpOp}{a b:Expr}{t:TE}(h:PC X op a b t)(h1:behindInMarks op b=false):PT X (.Compare a [op] [b] pos) (tBF t):=by
 intro pins s σ H Q I h2
 refine (j0a h h1) pins s σ H _ I ?_
 unfold tB
 unfold tBF at h2
 exact cast (congrArg (t σ H) (funext fun x=>funext fun H1=>propext ⟨fun z=>j7q z,fun⟨k,e,q⟩=>by subst e; exact q⟩)) h2
theorem i0s(hu:X.A.units+1 < cLine)(ho:PE X o td)(hi:PE X i ty)(hv:PE X value tv)(hs:swapsWith value (some (.Subscript o i pos')) pos.line X.env=pure false) :
  PS X (.Assign [.Subscript o i pos'] value pos) (j2y td ty tv):=by
 intro pins s σ H D I h
 refine wpAny_Assign_Subscript (thn (hv pins s σ H _ I h) fun r s1 ⟨v,H1,I1,rv,q1⟩=>thn (ho pins s1 σ H1 _ I1 q1) fun u s2 ⟨x,H2,I2,rx,q2⟩=>thn (hi pins s2 σ H2 _ I2 q2) fun iv s3 ⟨y,H3,I3,ry,q⟩=>?_) hs
 obtain⟨a,k,kvs,ex,ey,e,hl,q3⟩:=i0r q
 subst ex ey
 obtain rfl:u=Value.ref a:=rx
 exact h6e hu I3 (i9n.k (k:=kT k) e hl) ry rv fun s4 I4=>⟨σ,_,I4,q3 _ a6t.upd a6m⟩
theorem i0t(hk:PE X i tk)(hv:PE X value tv):PE X (.Dict [some i] [value] pos) (j2z tk tv):=by
 intro pins s σ H Q I q
 have hn:=I.hok.fresh (Nat.le_refl s.heap.objs.size)
 have I1:=I.laid (a:=s.heap.objs.size) (o:=.dK []) (h':=s.heap.push { cls:=.type "dict",data:=.dict #[] }) (t':=s.toks) (fun _ _ q=>Heap.get?_push_of_some _ q) (Nat.le_refl _) (i0e s.heap I.big)
 have h:PPs X pos [some i] [value] [(tk,tv)]:=i0f hk hv i5w
 refine wpAny_Dict_walk (knd:=b4z X.prog X.w) rfl rfl (by simp) (by simp) (thn (h pins _ σ _ (fun ps H3=>match ps with
  | [(x,y)]=>∃ k,x = .str k/\H3 s.heap.objs.size=some (.dK [])/\∀ H4,a6t s.heap.objs.size H3 H4->H4 s.heap.objs.size=some (.dK [(kT k,y)])->Q (.ref s.heap.objs.size) H4
  | _=>False) I1 (q s.heap.objs.size _ hn (Same.upd hn) a6m)) fun ws s2 ⟨ps,H2,I2,rel,qp⟩=>?_)
 cases ps with
 | nil=>exact False.elim qp
 | cons p ps =>
 obtain⟨x,y⟩:=p
 cases ps with
 | cons _ _=>exact False.elim qp
 | nil =>
  obtain⟨k,ex,e,q2⟩:=qp
  subst ex
  obtain⟨rs,c,rk⟩:=g0d (P:=X.prog) (w:=X.w) (kvs:=[(kT k,y)]) rel
  obtain⟨z,hd,vs0,r0,dd⟩:=j1c I2.hok e
  cases r0
  refine⟨rs,c,dd,fun h' dd' hs=>⟨.ref s.heap.objs.size,_,?_,rfl,q2 _ a6t.upd a6m⟩⟩
  have hz:(h0v [] [(kT k,y)]).length<=sizeLine:=by
   have h1:=d7w [(kT k,y)] []
   rw [List.length_nil,List.length_singleton] at h1
   rw [sizeLine_eq]; omega
  have he:∃ q,h'.get? s.heap.objs.size=some q:=let ⟨q,_,_,hq,_⟩:=dd'; ⟨q,hq⟩
  exact g7u I2 (by rw [e]; exact True.intro) hs he (i2x hz hd (rk.merge .nil) dd')
end
noncomputable def rSlR:V->Option Int->Option Int->Option Int->Hp->VK->Prop:=fun x l u t H Q=>match x with
 | .ref a=>(match H a with
  | some (.lst xs)=>l=none/\u=none/\t=some (-1)/\New H (.lst xs.reverse) Q ⟨⟩
  | _=>False)
 | _=>False
def tSl3R(te:TE)(tl th ts:TO):TE:=fun σ H Q=>te σ H fun x H1=>tl σ H1 fun l H2=>th σ H2 fun u H3=>ts σ H3 fun st H4=>rSlR x l u st H4 Q
end L2
namespace L2
open PySem PySem.Spec PyProof.Rows PySem.W
mutual
inductive Rp(H:Hp)(N:Addr->Prop):V->Dat->Prop
 | str (s:Str):Rp H N (.str s) (.str s)
 | int (n:Int):Rp H N (.int n) (.int n)
 | lst {p:Addr} {vs:List V} {ds:List Dat}:N p->H p=some (.lst vs)->RpL H N vs ds->Rp H N (.ref p) (.list ds)
 | tup {p:Addr} {vs:List V} {ds:List Dat}:H p=some (.tup vs)->RpL H N vs ds->Rp H N (.ref p) (.tuple ds)
inductive RpL(H:Hp)(N:Addr->Prop):List V->List Dat->Prop
 | nil:RpL H N [] []
 | cons {v:V} {vs:List V} {d:Dat} {ds:List Dat}:Rp H N v d->RpL H N vs ds->RpL H N (v :: vs) (d :: ds)
end
def b7l(N:Addr->Prop)(H H':Hp):Prop:=∀ z u,(N z->∀ ys,u≠.lst ys)->H z=some u->H' z=some u
section
variable {H H':Hp}{N M:Addr->Prop}
mutual
theorem Rp.go(h1:∀ z vs,N z->H z=some (.lst vs)->H' z=some (.lst vs)/\M z)(h2:∀ z vs,H z=some (.tup vs)->H' z=some (.tup vs)):∀ {v:V} {d:Dat},Rp H N v d->Rp H' M v d
 | _,_,.str s=>.str s
 | _,_,.int n=>.int n
 | _,_,.lst n h r=>.lst (h1 _ _ n h).2 (h1 _ _ n h).1 (RpL.go h1 h2 r)
 | _,_,.tup h r=>.tup (h2 _ _ h) (RpL.go h1 h2 r)
theorem RpL.go(h1:∀ z vs,N z->H z=some (.lst vs)->H' z=some (.lst vs)/\M z)(h2:∀ z vs,H z=some (.tup vs)->H' z=some (.tup vs)):∀ {vs:List V} {ds:List Dat},RpL H N vs ds->RpL H' M vs ds
 | _,_,.nil=>.nil
 | _,_,.cons h r=>.cons (Rp.go h1 h2 h) (RpL.go h1 h2 r)
end
mutual
theorem Rp.deep{K:PySem.W.Frag}:∀ {v:V} {d:Dat},Rp H N v d->g0e K H v (kqdP d)
 | _,_,.str s=>by rw [kqdP]; exact .str s
 | _,_,.int n=>by rw [kqdP]; exact .int n
 | _,_,.lst n h r=>by rw [kqdP]; exact .lst (SqL.of h) (RpL.deep r)
 | _,_,.tup h r=>by rw [kqdP]; exact .tup (SqT.of h) (RpL.deep r)
theorem RpL.deep{K:PySem.W.Frag}:∀ {vs:List V} {ds:List Dat},RpL H N vs ds->d1g K H vs (kqdPs ds)
 | _,_,.nil=>.nil
 | _,_,.cons h r=>.cons (Rp.deep h) (RpL.deep r)
end
theorem live{z:Addr}{u:HO}(e:H z=some u):H z≠none:=fun q=>by rw [q] at e; cases e
theorem RpL.same{vs:List V}{ds:List Dat}(h:RpL H N vs ds)(S:Same H H'):RpL H' N vs ds:=h.go (fun _ _ n e=>⟨S _ _ e,n⟩) fun _ _ e=>S _ _ e
theorem RpL.mono{vs:List V}{ds:List Dat}(h:RpL H N vs ds)(hm:∀ z,N z->H z≠none->M z):RpL H M vs ds:=h.go (fun z _ n e=>⟨e,hm z n (live e)⟩) fun _ _ e=>e
theorem RpL.put{D:Addr}{ys:List V}{vs:List V}{ds:List Dat}(h:RpL H N vs ds)(hD:H D=some (.lst ys))(nD:¬ N D)(B:a6t D H H'):RpL H' N vs ds :=
 h.go (fun z _ n e=>⟨B _ _ (fun q=>nD (by rw [<- q]; exact n)) e,n⟩) fun z _ e=>B _ _ (fun q=>by rw [q,hD] at e; cases e) e
theorem RpL.over{vs:List V}{ds:List Dat}(h:RpL H N vs ds)(S:b7l M H H')(hd:∀ z,N z->H z≠none->¬ M z):RpL H' N vs ds :=
 h.go (fun z _ n e=>⟨S _ _ (fun m=>absurd m (hd z n (live e))) e,n⟩) fun z _ e=>S _ _ (fun _ ys q=>by cases q) e
theorem RpL.len:∀ {vs:List V} {ds:List Dat},RpL H N vs ds->vs.length=ds.length
 | _,_,.nil=>rfl
 | _,_,.cons _ r=>by rw [List.length_cons,List.length_cons,RpL.len r]
theorem RpL.at:∀ {vs:List V} {ds:List Dat} {i:Nat} {d:Dat},RpL H N vs ds->ds[i]? = some d->∃ v,vs[i]? = some v/\Rp H N v d
 | _,_,_,_,.nil,h=>by simp at h
 | _,_,0,_,.cons h r,e=>by cases e; exact⟨_,rfl,h⟩
 | _,_,i+1,_,.cons h r,e=>by
  rw [List.getElem?_cons_succ] at e
  obtain⟨v,e1,e2⟩:=RpL.at r e
  exact⟨v,by rw [List.getElem?_cons_succ]; exact e1,e2⟩
theorem RpL.get:∀ {vs:List V} {ds:List Dat} {i:Nat} {v:V},RpL H N vs ds->vs[i]? = some v->∃ d,ds[i]? = some d/\Rp H N v d
 | _,_,_,_,.nil,h=>by simp at h
 | _,_,0,_,.cons h r,e=>by cases e; exact⟨_,rfl,h⟩
 | _,_,i+1,_,.cons h r,e=>by
  rw [List.getElem?_cons_succ] at e
  obtain⟨v,e1,e2⟩:=RpL.get r e
  exact⟨v,by rw [List.getElem?_cons_succ]; exact e1,e2⟩
theorem RpL.snoc:∀ {vs:List V} {ds:List Dat} {v:V} {d:Dat},RpL H N vs ds->Rp H N v d->RpL H N (vs++[v]) (ds++[d])
 | _,_,_,_,.nil,h=>.cons h .nil
 | _,_,_,_,.cons h r,e=>.cons h (RpL.snoc r e)
theorem RpL.strs:∀ ss:List Str,RpL H N (ss.map V.str) (ss.map Dat.str)
 | []=>.nil
 | s :: ss=>.cons (.str s) (RpL.strs ss)
theorem RpL.h6z:∀ {ss:List Str} {vs:List V},RpL H N vs (ss.map Dat.str)->vs=ss.map V.str
 | [],_,.nil=>rfl
 | s :: ss,_,.cons (.str _) r=>by rw [RpL.h6z r]; rfl
theorem Rp.list{v:V}{ds:List Dat}(h:Rp H N v (.list ds)):∃ p vs,v = .ref p/\N p/\H p=some (.lst vs)/\RpL H N vs ds:=by
 cases h with
 | lst n e r=>exact⟨_,_,rfl,n,e,r⟩
theorem Rp.tuple{v:V}{ds:List Dat}(h:Rp H N v (.tuple ds)):∃ p vs,v = .ref p/\H p=some (.tup vs)/\RpL H N vs ds:=by
 cases h with
 | tup e r=>exact⟨_,_,rfl,e,r⟩
theorem RpL.two{vs:List V}{a b:Dat}(h:RpL H N vs [a,b]):∃ x y,vs = [x,y]/\Rp H N x a/\Rp H N y b:=by
 cases h with
 | cons h1 r=>cases r with
  | cons h2 r=>cases r; exact⟨_,_,rfl,h1,h2⟩
theorem RpL.three{vs:List V}{a b c:Dat}(h:RpL H N vs [a,b,c]):∃ x y z,vs = [x,y,z]/\Rp H N x a/\Rp H N y b/\Rp H N z c:=by
 cases h with
 | cons h1 r =>
  obtain⟨y,z,rfl,h2,h3⟩:=r.two
  exact⟨_,y,z,rfl,h1,h2,h3⟩
theorem Rp.strOf{v:V}{s:Str}(h:Rp H N v (.str s)):v = .str s:=by cases h; rfl
theorem Rp.intOf{v:V}{n:Int}(h:Rp H N v (.int n)):v = .int n:=by cases h; rfl
theorem b7l.of(S:Same H H'):b7l N H H':=fun z u _ e=>S _ _ e
theorem b7l.trans{H2:Hp}(S:b7l N H H')(S2:b7l N H' H2):b7l N H H2:=fun z u n e=>S2 _ _ n (S _ _ n e)
theorem b7l.one{D:Addr}{ys:List V}(hD:H D=some (.lst ys))(n:N D)(B:a6t D H H'):b7l N H H':=fun z u h e=>B _ _ (fun q=>by
 rw [q] at h e
 rw [hD] at e
 cases e
 exact h n _ rfl) e
end
noncomputable abbrev Sd:=Str×Str×List Str
structure Pd where
 ts:List Str
 bs:List Str
 es:List Sd
 os:List (Str×Int)
noncomputable def prs(es:List Sd):List (Str×Str):=es.map fun e=>(e.1,e.2.1)
noncomputable def g8k(ss:List Str):Dat:=.list (ss.map .str)
noncomputable def dSd(e:Sd):Dat:=.tuple [.str e.1,.str e.2.1,g8k e.2.2]
noncomputable def dOu(x:Str×Int):Dat:=.tuple [.str x.1,.int x.2]
noncomputable def dPd(p:Pd):Dat:=.list [g8k p.ts,g8k p.bs,.list (p.es.map dSd),.list (p.os.map dOu)]
noncomputable def Nw(N:Addr->Prop)(t b sd ou:Addr):Addr->Prop:=fun a=>N a/\a≠t/\a≠b/\a≠sd/\a≠ou
structure Fl(H:Hp)(N:Addr->Prop)(t b sd ou:Addr)(p:Pd):Prop where
 n:N t/\N b/\N sd/\N ou
 d:t≠b/\t≠sd/\t≠ou/\b≠sd/\b≠ou/\sd≠ou
 ht:H t=some (.lst (p.ts.map V.str))
 hb:H b=some (.lst (p.bs.map V.str))
 hs:∃ us,H sd=some (.lst us)/\RpL H (Nw N t b sd ou) us (p.es.map dSd)
 ho:∃ us,H ou=some (.lst us)/\RpL H (Nw N t b sd ou) us (p.os.map dOu)
section
variable {H H':Hp}{N M:Addr->Prop}{t b sd ou:Addr}{p:Pd}
theorem Fl.over(h:Fl H N t b sd ou p)(S:b7l M H H')(hd:∀ z,N z->H z≠none->¬ M z):Fl H' N t b sd ou p:=by
 obtain⟨n,d,ht,hb,⟨us,hs,R1⟩,vs,ho,R2⟩:=h
 have k:∀ {z:Addr} {ys:List V},N z->H z=some (.lst ys)->H' z=some (.lst ys):=fun n e=>S _ _ (fun m=>absurd m (hd _ n (live e))) e
 exact⟨n,d,k n.1 ht,k n.2.1 hb,⟨us,k n.2.2.1 hs,R1.over S fun z hz=>hd z hz.1⟩,vs,k n.2.2.2 ho,R2.over S fun z hz=>hd z hz.1⟩
theorem Fl.same(h:Fl H N t b sd ou p)(S:Same H H'):Fl H' N t b sd ou p:=h.over (M:=fun _=>False) (b7l.of S) fun _ _ _ h=>h
theorem Fl.mono(h:Fl H N t b sd ou p)(hm:∀ z,N z->H z≠none->M z):Fl H M t b sd ou p:=by
 obtain⟨n,d,ht,hb,⟨us,hs,R1⟩,vs,ho,R2⟩:=h
 have k:∀ {z:Addr} {ys:List V},N z->H z=some (.lst ys)->M z:=fun n e=>hm _ n (live e)
 exact⟨⟨k n.1 ht,k n.2.1 hb,k n.2.2.1 hs,k n.2.2.2 ho⟩,d,ht,hb,⟨us,hs,R1.mono fun z hz e=>⟨hm z hz.1 e,hz.2⟩⟩,vs,ho,R2.mono fun z hz e=>⟨hm z hz.1 e,hz.2⟩⟩
theorem Fl.j8k{x:Str}(h:Fl H N t b sd ou p)(h':H' t=some (.lst (p.ts.map V.str++[.str x])))(B:a6t t H H'):Fl H' N t b sd ou ⟨p.ts++[x],p.bs,p.es,p.os⟩:=by
 obtain⟨n,d,ht,hb,⟨us,hs,R1⟩,vs,ho,R2⟩:=h
 exact⟨n,d,by rw [h',List.map_append]; rfl,B _ _ d.1.symm hb,⟨us,B _ _ d.2.1.symm hs,R1.put ht (fun z=>z.2.1 rfl) B⟩,vs,B _ _ d.2.2.1.symm ho,R2.put ht (fun z=>z.2.1 rfl) B⟩
theorem Fl.j8l{x:Str}(h:Fl H N t b sd ou p)(h':H' b=some (.lst (p.bs.map V.str++[.str x])))(B:a6t b H H'):Fl H' N t b sd ou ⟨p.ts,p.bs++[x],p.es,p.os⟩:=by
 obtain⟨n,d,ht,hb,⟨us,hs,R1⟩,vs,ho,R2⟩:=h
 exact⟨n,d,B _ _ d.1 ht,by rw [h',List.map_append]; rfl,⟨us,B _ _ d.2.2.2.1.symm hs,R1.put hb (fun z=>z.2.2.1 rfl) B⟩,vs,B _ _ d.2.2.2.2.1.symm ho,R2.put hb (fun z=>z.2.2.1 rfl) B⟩
theorem Fl.j8m{e:Sd}{us:List V}{v:V}(h:Fl H N t b sd ou p)(hsd:H sd=some (.lst us))(r:Rp H (Nw N t b sd ou) v (dSd e))(h':H' sd=some (.lst (us++[v])))(B:a6t sd H H'):Fl H' N t b sd ou ⟨p.ts,p.bs,p.es++[e],p.os⟩:=by
 obtain⟨n,d,ht,hb,⟨us',hs,R1⟩,vs,ho,R2⟩:=h
 rw [hsd] at hs
 cases hs
 refine⟨n,d,B _ _ d.2.1 ht,B _ _ d.2.2.2.1 hb,⟨_,h',?_⟩,vs,B _ _ d.2.2.2.2.2.symm ho,R2.put hsd (fun z=>z.2.2.2.1 rfl) B⟩
 rw [List.map_append]
 exact (R1.snoc r).put hsd (fun z=>z.2.2.2.1 rfl) B
theorem Fl.j8n{x:Str×Int}{us:List V}{v:V}(h:Fl H N t b sd ou p)(hou:H ou=some (.lst us))(r:Rp H (Nw N t b sd ou) v (dOu x))(h':H' ou=some (.lst (us++[v])))(B:a6t ou H H'):Fl H' N t b sd ou ⟨p.ts,p.bs,p.es,p.os++[x]⟩:=by
 obtain⟨n,d,ht,hb,⟨vs,hs,R1⟩,us',ho,R2⟩:=h
 rw [hou] at ho
 cases ho
 refine⟨n,d,B _ _ d.2.2.1 ht,B _ _ d.2.2.2.2.1 hb,⟨vs,B _ _ d.2.2.2.2.2 hs,R1.put hou (fun z=>z.2.2.2.2 rfl) B⟩,_,h',?_⟩
 rw [List.map_append]
 exact (R2.snoc r).put hou (fun z=>z.2.2.2.2 rfl) B
end
section
variable {H H':Hp}{N M:Addr->Prop}{L:Addr}{p:Pd}
end
theorem RpL.at3{H:Hp}{N:Addr->Prop}{us:List V}{es:List Sd}{i:Nat}{v:V}(h:RpL H N us (es.map dSd))(hv:us[i]? = some v):∃ e p lw,es[i]? = some e/\v = .ref p/\H p=some (.tup [.str e.1,.str e.2.1,.ref lw])/\N lw/\H lw=some (.lst (e.2.2.map V.str)):=by
 obtain⟨d,hd,r⟩:=h.get hv
 rw [List.getElem?_map] at hd
 obtain⟨e,he,rfl⟩:=Option.map_eq_some_iff.mp hd
 obtain⟨p,vs,rfl,hp,r2⟩:=r.tuple
 obtain⟨x,y,z,rfl,h1,h2,h3⟩:=r2.three
 cases h1.strOf
 cases h2.strOf
 obtain⟨lw,ws,rfl,n,hw,r3⟩:=h3.list
 cases r3.h6z
 exact⟨e,p,lw,he,rfl,hp,n,hw⟩
theorem RpL.at2{H:Hp}{N:Addr->Prop}{us:List V}{os:List (Str×Int)}{i:Nat}{v:V}(h:RpL H N us (os.map dOu))(hv:us[i]? = some v):∃ x p,os[i]? = some x/\v = .ref p/\H p=some (.tup [.str x.1,.int x.2]):=by
 obtain⟨d,hd,r⟩:=h.get hv
 rw [List.getElem?_map] at hd
 obtain⟨e,he,rfl⟩:=Option.map_eq_some_iff.mp hd
 obtain⟨p,vs,rfl,hp,r2⟩:=r.tuple
 obtain⟨x,y,rfl,h1,h2⟩:=r2.two
 cases h1.strOf
 cases h2.intOf
 exact⟨e,p,he,rfl,hp⟩
theorem RpL.h2z{H:Hp}{N:Addr->Prop}{us:List V}{α:Type}{es:List α}{f:α->Dat}(h:RpL H N us (es.map f)):us.length=es.length:=by rw [h.len,List.length_map]
theorem h7a{H:Hp}{N M:Addr->Prop}:∀ {os:List (Str×Int)} {us:List V},RpL H N us (os.map dOu)->RpL H M us (os.map dOu)
 | [],_,.nil=>.nil
 | x :: os,_,.cons h r=>by
  refine .cons ?_ (h7a r)
  obtain⟨p,vs,rfl,hp,r2⟩:=h.tuple
  obtain⟨a,b,rfl,h1,h2⟩:=r2.two
  cases h1.strOf
  cases h2.intOf
  exact .tup hp (.cons (.str _) (.cons (.int _) .nil))
structure k1u(p:Pd):Prop where
 t:∀ s∈p.ts,PyData.strOk s=true
 b:∀ s∈p.bs,PyData.strOk s=true
 s:∀ e∈p.es,PyData.strOk e.1=true/\PyData.strOk e.2.1=true/\∀ x∈e.2.2,PyData.strOk x=true
 o:∀ x∈p.os,PyData.strOk x.1=true
theorem g1z{n:Nat}{ss:List Str}(h:∀ s∈ss,PyData.strOk s=true):kqdOk (n+1) (g8k ss)=true:=by
 show (ss.map Dat.str).all (kqdOk n)=true
 rw [List.all_eq_true]
 intro d hd
 obtain⟨s,hs,rfl⟩:=List.mem_map.mp hd
 cases n <;> exact h s hs
theorem j3a{n:Nat}{es:List Sd}(h:∀ e∈es,PyData.strOk e.1=true/\PyData.strOk e.2.1=true/\∀ x∈e.2.2,PyData.strOk x=true):kqdOk (n+3) (.list (es.map dSd))=true:=by
 show (es.map dSd).all (kqdOk (n+2))=true
 rw [List.all_eq_true]
 intro d hd
 obtain⟨e,he,rfl⟩:=List.mem_map.mp hd
 show (PyData.strOk e.1 && (PyData.strOk e.2.1 && (kqdOk (n+1) (g8k e.2.2) && true)))=true
 rw [(h e he).1,(h e he).2.1,g1z (h e he).2.2]
 rfl
theorem j3b{n:Nat}{os:List (Str×Int)}(h:∀ x∈os,PyData.strOk x.1=true):kqdOk (n+3) (.list (os.map dOu))=true:=by
 show (os.map dOu).all (kqdOk (n+2))=true
 rw [List.all_eq_true]
 intro d hd
 obtain⟨e,he,rfl⟩:=List.mem_map.mp hd
 show (PyData.strOk e.1 && (true && true))=true
 rw [h e he]
 rfl
theorem k1u.k{p:Pd}(h:k1u p):kqdOk 4 (dPd p)=true:=by
 show (kqdOk 3 (g8k p.ts) && (kqdOk 3 (g8k p.bs) && (kqdOk 3 (.list (p.es.map dSd)) && (kqdOk 3 (.list (p.os.map dOu)) && true))))=true
 rw [g1z h.t,g1z h.b,j3a h.s,j3b h.o]
 rfl
end L2
namespace L2
open PySem PySem.Spec PyProof.Rows
section
variable {X:Cx}
end
end L2
namespace L2
open PySem PySem.Spec PyProof.Rows
noncomputable def f1w(K:PySem.W.Frag)(C fI:Addr):Bool:=match K.lookup C with
 | some ⟨.type "type",_,.cls cd,sl⟩=>(match cd.mro,sl.toList with
  | .ref C' :: bm,[_,_,_,_,some (.builtin n),_]=>(C' == C && n == "ValueError.__new__") && (!cd.hasDel && PySem.W.tailIn K vE bm) && (PySem.W.nsOkIn K cd.ns && PySem.W.nsIn K cd.ns "__init__" == some (some (.ref fI)))
  | _,_=>false)
 | _=>false
theorem f2s{K:PySem.W.Frag}{h:Heap}{N:Addr}{n:Str}{v:Value}{m:Str->Option Value}(X:K.In h)(hn:h.Ns N m)(e:PySem.W.nsIn K N n=some (some v)):m n=some v:=by
 obtain⟨o,es,ep,ho,hd,_,hf⟩:=hn
 unfold PySem.W.nsIn at e
 split at e
 ·rename_i c d es' n' sl q
  have z:=X _ _ q
  rw [ho] at z
  cases z
  cases hd
  split at e
  ·rename_i en he
   cases e
   rw [<- hf]
   unfold nsFind findBy
   rw [<- Array.find?_toList,he]
   rfl
  ·split at e <;> cases e
 ·cases e
theorem f3s{K:PySem.W.Frag}{h:Heap}{C fI:Addr}(X:K.In h)(q:f1w K C fI=true) :
  ∃ bm N nm qn bs hdct sn sub ab col dd k0 k1 k2 k3 k5 mN,h.get? C=some (excClassObj nm qn C N bs bm hdct sn sub ab col dd k0 k1 k2 k3 k5 "ValueError.__new__")/\h.Ns N mN/\mN "__init__"=some (.ref fI)/\OwnTail h vE bm:=by
 unfold f1w at q
 split at q
 ·rename_i dd cd sl ho
  split at q
  ·rename_i C' bm k0 k1 k2 k3 n k5 hm hs
   simp only [Bool.and_eq_true,beq_iff_eq,Bool.not_eq_true'] at q
   obtain⟨⟨⟨q1,q2⟩,hdel,ht⟩,hok,hni⟩:=q
   subst q1 q2
   obtain⟨nm,bs,mro,ns,qn,hd,sn,sub,ab,col,del⟩:=cd
   dsimp only at hm hdel hok hni
   subst hm hdel
   obtain⟨l⟩:=sl
   have hs':l = [k0,k1,k2,k3,some (.builtin "ValueError.__new__"),k5]:=hs
   subst hs'
   have hN:=Heap.Ns.of_isNs (PySem.W.isNs_of_in X hok)
   exact⟨bm,ns,nm,qn,bs,hd,sn,sub,ab,col,dd,k0,k1,k2,k3,k5,_,X _ _ ho,hN,f2s X hN hni,PySem.W.tail_of_in X ht⟩
  ·cases q
 ·cases q
section
variable {prog:Program}{w:World}{A:Around}{E:Value->Shared->Prop}{h:Heap}{g:Array GenState}{d:Drawn}{t:Nat}{os:OsState}
variable {nm q:Str}{C N:Addr}{bs bm:List Value}{hdct:Bool}{sn:List Str}{sub:List Value}{ab:Bool}{col:Option Bool}{dd:Option Addr}{k0 k1 k2 k3 k5:Option Value}
theorem g8l{mN:Str->Option Value}{rest:List Value}{fI:Addr}{oI:Obj}{Q:Fin->Shared->Prop}(T:OwnTail h vE bm)
  (zC:h.get? C=some (excClassObj nm q C N bs bm hdct sn sub ab col dd k0 k1 k2 k3 k5 "ValueError.__new__")) (hn:h.Ns N mN) (hi:mN "__init__"=some (.ref fI)) (zf:h.get? fI=some oI) (hfc:oI.cls = .type "function")
  (hq:∀ h' e,Heap.MadeExcOf h h' e (.ref C) rest->wpAny (model prog w) A (call (.ref fI) (.ref e :: rest)) (fun r s'=>r = .none/\Q (.done (.ret (.ref e))) s') E ⟨h',g,d,t,os⟩) (hrest:rest.length<=sizeLine) :
  wpAny (model prog w) A (Builtin.«type.__call__» ⟨.ref C :: rest, []⟩) Q E ⟨h, g, d, t, os⟩ := by
 have F:=PySem.F.excBase_ValueError
 repeat (first | with_reducible refine wpAny_loadPart_at zC ?_ | with_reducible refine wpAny_madeBy_exc zC ?_ | wp_step)
 refine codeAny_call_builtin_code (Code.quiet_builtin _ F.quiet) (wpAny_check_new_subT F T zC ?_)
 refine codeAny_exc_new_subT F T zC ?_ hrest
 show wpAny _ _ _ _ _ _
 let o1:Obj:={ cls:=.type "tuple",data:=.seq rest.toArray }
 let o2:Obj:={ cls:=.ref C,data:=.fields #[.ref h.objs.size,.none,.none,.none,.bool false,.none] }
 have kp:∀ b o,h.get? b=some o->((h.push o1).push o2).get? b=some o:=fun b o e=>Heap.get?_push_of_some _ (Heap.get?_push_of_some _ e)
 have hC1:=kp _ _ zC
 have hf1:=kp _ _ zf
 have hn1:((h.push o1).push o2).Ns N mN:=hn.keeps kp
 have T1:=T.keeps kp
 have zg:((h.push o1).push o2).get? (h.objs.size+1)=some o2:=by heap_get
 have hcC:(Value.ref C :: bm).contains (.ref C)=true:=by simp
 unfold isInstance
 repeat (first | with_reducible refine wpAny_loadPart_at zg ?_ | (with_reducible refine wpAny_isSubtype_exc hC1 ?_; rw [hcC]) | wp_step)
 show wpAny _ _ (typeLookup (.ref C) _) _ _ _
 refine wpAny_typeLookup_tail hC1 hn1 T1 F.mroIs F.init.lookup ?_
 rw [hi]
 refine wpAny_holding (wpAny_bind ?_)
 unfold bindSpecial
 refine wpAny_bind (wpAny_typeOf (T:="function") ⟨_,hf1,hfc⟩ ?_)
 rw [if_pos (by decide)]
 refine wpAny_pure (wpAny_bind (wpAny_mono (hq _ (h.objs.size+1) ⟨kp,Heap.get?_none_of_le (Nat.le_succ _),h.objs.size,zg,Heap.get?_none_of_le (Nat.le_refl _),?_⟩) (fun r s' hr=>?_) fun _ _ x=>x))
 ·exact Heap.get?_push_of_some _ (Heap.get?_push_at rfl rfl)
 ·obtain⟨rfl,hQ⟩:=hr
  wp_walk
  exact hQ
theorem j3c{mN:Str->Option Value}{rest:List Value}{fI:Addr}{oI:Obj}{Q:Value->Shared->Prop}(T:OwnTail h vE bm)
  (zC:h.get? C=some (excClassObj nm q C N bs bm hdct sn sub ab col dd k0 k1 k2 k3 k5 "ValueError.__new__")) (hn:h.Ns N mN) (hi:mN "__init__"=some (.ref fI)) (zf:h.get? fI=some oI) (hfc:oI.cls = .type "function")
  (hq:∀ h' e,Heap.MadeExcOf h h' e (.ref C) rest->wpAny (model prog w) (A.under (.builtin "type.__call__" ⟨.ref C :: rest,[]⟩)) (call (.ref fI) (.ref e :: rest)) (fun r s'=>r = .none/\Q (.ref e) s') E ⟨h',g,d,t,os⟩) (hrest:rest.length<=sizeLine) :
  wpAny (model prog w) A (call (.ref C) rest) Q E ⟨h,g,d,t,os⟩:=by
 have f1:=tc_lookup
 have f2:=tc_bind (.ref C)
 have hT:(⟨h,g,d,t,os⟩:Shared).TypeIs (.ref C) "type":=⟨_,zC,rfl⟩
 refine wpAny_call (codeAny_of_tree ?_)
 show wpAny _ _ (callAny (.ref C) _) _ _ _
 repeat (any_goals (first | assumption | with_reducible refine wpAny_loadPart_at zC ?_ | wp_step))
 refine⟨rfl,?_⟩
 exact codeAny_call_builtin_at (Code.quiet_builtin _ (by decide +kernel)) entry_typeCall (wpAny_check_type_call_sub zC (g8l T zC hn hi zf hfc (fun h' e hm=>hq h' e hm) hrest))
theorem i6u{s:Shared}{env:Env}{x:Sem Value}{Q:Flow->Shared->Prop}(hbase:bm.contains (.type "BaseException")=true)(hh:A.handled=none)
  (hx:wpAny (model prog w) A x (fun v s1=>∃ e oe vs,v = .ref e/\s1.heap.get? C=some (excClassObj nm q C N bs bm hdct sn sub ab col dd k0 k1 k2 k3 k5 "ValueError.__new__")/\s1.heap.get? e=some oe/\oe.cls = .ref C/\oe.data = .fields vs/\vs[1]? = some .none/\E (.ref e) s1) E s) :
  wpAny (model prog w) A (raiseStmt env (some x) none) Q E s:=by
 have hcB:(Value.ref C :: bm).contains (.type "BaseException")=true:=by rw [List.contains_cons,hbase,Bool.or_true]
 unfold raiseStmt
 refine wpAny_bind (wpAny_mono hx (fun v s1 h1=>?_) fun _ _ x=>x)
 obtain⟨e,oe,vs,rfl,zC,he,hc,hd,h1,hE⟩:=h1
 obtain⟨hp,g,d,tk,os⟩:=s1
 obtain⟨oc,od,oda,osl⟩:=oe
 dsimp only at hc hd
 subst hc hd
 repeat (first | with_reducible refine wpAny_loadPart_at he ?_ | with_reducible refine wpAny_loadPart_at zC ?_ | (with_reducible refine wpAny_isSubtype_exc zC ?_; rw [hcB]) | wp_step)
 rw [h1]
 refine wpAny_pure ?_
 rw [if_neg (by decide)]
 exact wpAny_pure (wpAny_raiseNew_none hh hE)
end
end L2
namespace L2
open PySem PySem.Spec PyProof.Rows
noncomputable def g8m(a:Addr)(C:Value):HO:=.ext fun h=>∃ t:Addr,h.get? a=some { cls:=C,data:=.fields #[.ref t,.none,.none,.none,.bool false,.none] }
noncomputable def h1i(a:Addr)(C:Value)(d:Addr):HO:=.ext fun h=>∃ t:Addr,h.get? a=some { cls:=C,dict:=some d,data:=.fields #[.ref t,.none,.none,.none,.bool false,.none] }
noncomputable def rem(H:Hp)(e:Addr):Hp:=fun b=>if b=e then none else H b
theorem h1j{H:Hp}{e:Addr}:rem H e e=none:=by unfold rem; rw [if_pos rfl]
theorem d5s{H:Hp}{e b:Addr}(h:b≠e):rem H e b=H b:=by unfold rem; rw [if_neg h]
theorem h7b{P:Program}{w:World}{H:Hp}{h:Heap}{a t:Addr}{C:Value}(e:h.get? a=some { cls:=C,data:=.fields #[.ref t,.none,.none,.none,.bool false,.none] }):b0p P w H h a (g8m a C) :=
 ⟨⟨t,e⟩,⟨_,e⟩,fun h1 h2 ⟨t,e1⟩ k=>⟨t,k _ e1⟩⟩
theorem i6v{P:Program}{w:World}{H:Hp}{h:Heap}{a t d:Addr}{C:Value}(e:h.get? a=some { cls:=C,dict:=some d,data:=.fields #[.ref t,.none,.none,.none,.bool false,.none] }):b0p P w H h a (h1i a C d) :=
 ⟨⟨t,e⟩,⟨_,e⟩,fun h1 h2 ⟨t,e1⟩ k=>⟨t,k _ e1⟩⟩
section
variable {X:Cx}{pins:List (Addr×Obj)}{σ:St}{H:Hp}{s:Shared}{e:Addr}
theorem Inv.flown{h':Heap}{φ:Heap->Prop}(I:Inv X pins σ H s)(hex:X.ex = [])(he:H e=some (.ext φ))(h0:X.s₀.heap.get? e=none)(hB:(PySem.W.hideAll s.heap (e :: frs X.stack)).StaysIn h')(hU:s.heap.UpToSlots h') :
  Un X.fs [] X.H₀ (rem H e) X.s₀.heap h'/\HOk X.prog X.w (rem H e) h':=by
 have kb:∀ b o,s.heap.get? b=some o->b≠e->b∉frs X.stack->h'.get? b=some o:=fun b o q n m=>hB b o (PySem.W.hideAll_get _ q (by simp [n,m]))
 have kf:∀ b o,s.heap.get? b=some o->b∈frs X.stack->∃ sl,h'.get? b=some { o with slots:=sl }:=fun b o q hb=>by
  obtain⟨_,o',q',nf⟩:=I.stack.mem hb
  rw [q] at q'
  cases q'
  exact hU b o q nf
 have ne:∀ {b o},X.s₀.heap.get? b=some o->b≠e:=fun q z=>by rw [z,h0] at q; cases q
 have nl:∀ {b o},X.s₀.heap.get? b=some o->b≠X.env.locals:=fun q=>Nat.ne_of_lt (Nat.lt_of_lt_of_le (Heap.lt_size q) I.ok.above)
 have any:∀ b o,s.heap.get? b=some o->b≠e->∃ sl,h'.get? b=some { o with slots:=sl }:=fun b o q n=>by
  by_cases hb:b∈frs X.stack
  ·exact kf b o q hb
  ·exact⟨o.slots,kb b o q n hb⟩
 have nex:∀ b:Addr,b∉X.ex:=fun b=>by rw [hex]; simp
 refine⟨⟨fun b o q n hb _=>?_,fun b o q n hb _=>?_,fun b o q n _=>?_,fun b o q _=>?_,fun b xs q=>?_,fun b o u q=>?_,fun b ps q=>?_⟩,fun a o q=>?_⟩
 ·exact kb b o (I.base.keep b o q n hb (nex b)) (ne q) fun z=>(List.mem_cons.mp (I.d5q b z)).elim (nl q) hb
 ·obtain⟨sl,z⟩:=I.base.slot b o q n hb (nex b)
  obtain⟨sl',y⟩:=any b _ z (ne q)
  exact⟨sl',y⟩
 ·rw [d5s (ne q)]
  exact I.base.free b o q n (nex b)
 ·obtain⟨o',z⟩:=I.base.there b o q (nex b)
  obtain⟨sl',y⟩:=any b _ z (ne q)
  exact⟨_,y⟩
 ·have z:=I.base.tups b xs q
  rw [d5s (fun y=>by rw [y,he] at z; cases z)]
  exact z
 ·have z:=I.base.g0a b o u q
  rw [d5s (fun y=>by rw [y,he] at z; cases z)]
  exact z
 ·obtain⟨m,z⟩:=I.base.g1p b ps q
  exact⟨m,by rw [d5s (fun y=>by rw [y,he] at z; cases z)]; exact z⟩
 ·have na:a≠e:=fun z=>by rw [z,h1j] at q; cases q
  rw [d5s na] at q
  refine (I.hok a o q).stay (fun b u hb r=>kb b u r ?_ fun z=>?_) (fun b r=>?_) fun b xs r=>?_
  ·rcases hb with z | z
   ·rw [z]; exact na
   ·intro y
    rw [y,he] at z
    cases z
  ·have hn:=I.d9v b z
   rcases hb with y | y
   ·rw [y,q] at hn
    cases hn
   ·rw [hn] at y
    cases y
  ·rw [d5s (fun y=>by rw [y,he] at r; cases r)]
   exact r
  ·rw [d5s (fun y=>by rw [y,he] at r; cases r)]
   exact r
end
def i4b(X:Cx)(E:XK):Prop:=∀ (pins:List (Addr×Obj)) (σ:St) (H:Hp) (s:Shared) (e C d:Addr),Inv X pins σ H s->H e=some (h1i e (.ref C) d)->X.s₀.heap.get? e=none->E (.ref C) (some d) (rem H e)->X.xe (.ref e) s
section
variable {P:Program}{w:World}{K:PySem.W.Frag}{mg:Str->Option Value}{base:Heap}{N:List Str}{qual:Str}{scope:Scope}{f:Addr}{cd:Value}{A:Around}{outer:List Env}{s:Shared}{H:Hp}{E:XK}
theorem h7c:i4b (h2q (CXE P w) P w K mg base N qual scope f cd A outer s H E) E:=by
 intro pins σ H1 s1 e C d I he h0 hE
 show wpAny (model P w) (A.deeper (envOfC qual scope s.heap.objs.size f cd)) (leaving (envOfC qual scope s.heap.objs.size f cd) (.ref e)) (fun _ s''=>CXE P w outer H s E (.ref e) s'') (fun e' s''=>CXE P w outer H s E e' s'') s1
 obtain⟨⟨t,ho⟩,_,_⟩:=(show b0p P w H1 s1.heap e (h1i e (.ref C) d) from I.hok e _ he)
 have hin:∀ env∈(envOfC qual scope s.heap.objs.size f cd :: outer),∀ b,env.frame=some b->b∈e :: frs (envOfC qual scope s.heap.objs.size f cd :: outer):=fun env he b hb=>List.mem_cons_of_mem _ (List.mem_filterMap.mpr ⟨env,he,hb⟩)
 refine d8h (base:=PySem.W.hideAll s1.heap (e :: frs (envOfC qual scope s.heap.objs.size f cd :: outer))) (a0:=.ref t) (dx:=(some d,some .none)) I.ok.frames rfl (PySem.W.funFrames_hide I.stack hin) ho rfl (fun b o q=>PySem.W.of_hideAll _ q) (PySem.W.hideAll_none _ (by simp)) rfl rfl rfl rfl rfl fun h2 fl u kd=>?_
 refine⟨e,.ref C,.ref t,_,rem H1 e,rfl,fl,I.os,I.bare,fun h3 b3 u3=>?_,h1j,h0,some d,some .none,kd,fun _=>rfl,hE⟩
 exact I.flown rfl he h0 b3 (u.trans u3)
end
section
variable {X:Cx}{k:Nat}{f C:Addr}{fd:FuncData}{ps:List Str}{sp:Sp}{E:XK}{x:Str}
theorem Inv.i6w{pins:List (Addr×Obj)}{σ:St}{H:Hp}{h h':Heap}{g:Array GenState}{d:Drawn}{tk tk':Nat}{os:OsState}{e:Addr}{args:List Value}(I:Inv X pins σ H ⟨h,g,d,tk,os⟩)(hex:X.ex = [])(hx:Heap.MadeExcOf h h' e (.ref C) args):Inv X pins σ (upd H e (g8m e (.ref C))) ⟨h',g,d,tk',os⟩:=by
 have I1:Inv X pins σ H ⟨h',g,d,tk',os⟩:=Inv.kept (t':=tk') I hx.keeps
 obtain⟨t,he,_,_⟩:=hx.there
 refine I1.track (I.older hex hx.new) (fun z=>?_) (fun y c q z=>?_) (fun p hp z=>?_) ?_ (h7b he)
 ·obtain⟨m,⟨o,_,_,ho,_⟩,_⟩:=I.loc
  rw [<- z] at ho
  exact nomatch (hx.new.symm.trans ho)
 ·obtain⟨v,o,ho,_⟩:=I.cell y c q
  rw [z] at ho
  exact nomatch (hx.new.symm.trans ho)
 ·have ho:=(I.pin p hp).1
  rw [z] at ho
  exact nomatch (hx.new.symm.trans ho)
 ·cases q:H e with
  | none=>rfl
  | some o =>
   obtain⟨u,z⟩:=(I.hok e o q).obj
   exact nomatch (hx.new.symm.trans z)
theorem h7d{pins:List (Addr×Obj)}{σ:St}{H:Hp}{s:Shared}{Q:VK}{us:List Value}{vs:List V}(O:f1w X.K C f=true)(Ff:PySem.W.isFn X.K (.ref f)=true)(F:a2m X.prog X.w X.K X.mg X.base CX0 k f fd ps sp)(hr:c7p (k+1) X.A)(hb:Binds X.K fd ps [])
  (hex:X.ex = []) (I:Inv X pins σ H s) (r:Vals vs us) (hl:us.length<=sizeLine)
  (h:∀ e,H e=none->sp (.ref e :: vs) (upd H e (g8m e (.ref C))) (fun v H2=>v = .non/\Q (.ref e) H2) E0) :
  wpAny (model X.prog X.w) X.A (call (.ref C) us) (fun u s'=>∃ e H2,u = .ref e/\Inv X pins σ H2 s'/\X.s₀.heap.get? e=none/\Q (.ref e) H2) X.xe s:=by
 obtain⟨bm,N,nm,qn,bs,hdct,sn,sub,ab,col,dd,k0,k1,k2,k3,k5,mN,zC,zN,zi,T⟩:=f3s (h:=s.heap) I.kIn O
 obtain⟨oI,zf,zc⟩:∃ oI,s.heap.get? f=some oI/\oI.cls = .type "function":=by
  obtain⟨o,ho,hc⟩:=Option.map_eq_some_iff.mp (show (X.K.lookup f).map (·.cls)=some (.type "function") from beq_iff_eq.mp Ff)
  exact⟨o,I.kIn _ _ ho,hc⟩
 obtain⟨hh,g,d,tk,os⟩:=s
 refine j3c T zC zN zi zf zc (fun h' e hx=>?_) hl
 have I2:=I.i6w (C:=C) (tk':=tk) hex hx
 have hn:H e=none:=by
  cases q:H e with
  | none=>rfl
  | some o =>
   obtain⟨u,z⟩:=(I.hok e o q).obj
   exact nomatch (hx.new.symm.trans z)
 have hq:=h e hn
 have r2:Vals (V.ref e :: vs) (Value.ref e :: us):=.cons rfl r
 have hl2:((Value.ref e :: us)++[]).length=ps.length:=by
  have z:=r2.length
  rw [F.len _ _ _ _ hq] at z
  rw [List.append_nil]
  exact z.symm
 have hb2:=hb ⟨h',g,d,tk,os⟩ (Value.ref e :: us) I2.kIn hl2
 rw [List.append_nil] at hb2
 refine wpAny_call (codeAny_mono (F.run _ X.stack _ _ ⟨Value.ref e :: us,[]⟩ (Value.ref e :: us) _ _ E0 (hr.make C us []) (I2.env0.make C us []) hb2 r2 hq) fun r s' hq'=>?_)
 cases r with
 | error e=>exact False.elim hq'
 | ok fl =>
  cases fl with
  | ret u =>
   obtain⟨v,H',I3,rv,ev,q3⟩:=I2.after hq'
   subst ev
   exact⟨rv,e,H',rfl,I3,I.older hex hx.new,q3⟩
  | next=>exact False.elim hq'
  | brk=>exact False.elim hq'
  | cont=>exact False.elim hq'
def i6x(C:Addr)(sp:Sp)(E:XK)(t:TA):TS:=fun _ σ H=>t σ H fun vs H1=>vs.length<=sizeLine/\∀ e,H1 e=none ->
 sp (.ref e :: vs) (upd H1 e (g8m e (.ref C))) (fun v H2=>v = .non/\∃ d,H2 e=some (h1i e (.ref C) d)/\E (.ref C) (some d) (rem H2 e)) E0
theorem h7e{e₀:Expr}{rest:List Expr}{t:TA}{np cpos pos:Pos}(O:f1w X.K C f=true)(Ff:PySem.W.isFn X.K (.ref f)=true)(hk:PySem.W.keepIn X.K (.ref C)=true)(F:a2m X.prog X.w X.K X.mg X.base CX0 k f fd ps sp)(hr:c7p (k+1) X.A)(hb:Binds X.K fd ps [])
  (hm:X.mg x=some (.ref C)) (hT:i4b X E) (hc:X.calm=true) (hg:Gl X x) (ha:PA X (e₀ :: rest) t) (hex:X.ex = []:=by rfl)
  (he:starEach (e₀ :: rest) X.env=(false,eval e₀ X.env) :: starEach rest X.env:=by rfl) (hplain:(backTo cpos (starEach rest X.env)).any (·.1)=false:=by rfl) (hd:(x == ("__debug__":Str))=false:=by decide) :
  PS X (.Raise (some (.Call (.Name x np) (e₀ :: rest) [] cpos)) none pos) (i6x C sp E t):=by
 intro pins s σ H D I h
 obtain⟨bm,N,nm,qn,bs,hdct,sn,sub,ab,col,dd,k0,k1,k2,k3,k5,mN,zC,zN,zi,T⟩:=f3s (h:=X.base) I.ok.mod.kin O
 rw [arm_exec_Raise]
 refine wpAny_bind (wpAny_standAt (i6u (C:=C) (nm:=nm) (q:=qn) (N:=N) (bs:=bs) (hdct:=hdct) (sn:=sn) (sub:=sub) (ab:=ab) (col:=col) (dd:=dd) (k0:=k0) (k1:=k1) (k2:=k2) (k3:=k3) (k5:=k5) (T.hasType PySem.F.excBase_ValueError.hasBase) (I.ok.hd hc) (wpAny_bind ?_)))
 refine wpAny_mono (Q:=fun v s1=>∃ e H2 d,v = .ref e/\Inv X pins σ H2 s1/\X.s₀.heap.get? e=none/\H2 e=some (h1i e (.ref C) d)/\E (.ref C) (some d) (rem H2 e)) (E:=X.xe) ?_ (fun v s1 q=>wpAny_bind (wpAny_standAt (wpAny_pure ?_))) fun _ _ z=>z
 ·refine wpAny_Call_Name_kw (c1v I hg hm ?_ hd)
  refine PySem.W.callWith_K (h₀:=X.base) I.ok.mod.kin hk (thn (ha cpos pins s σ H _ I h) fun us s1 ⟨vs,H1,I1,r,hl,q⟩=>⟨I1.kIn,?_⟩) he hplain
  refine wpAny_mono (h7d (Q:=fun v H2=>match v with | .ref e=>∃ d,H2 e=some (h1i e (.ref C) d)/\E (.ref C) (some d) (rem H2 e) | _=>False) O Ff F hr hb hex I1 r (by show us.length<=sizeLine; rw [<- r.length]; exact hl) fun e he=>?_) (fun v s2 z=>?_) fun _ _ z=>z
  ·exact q e he
  ·obtain⟨e,H2,rfl,I2,h0,d,q2,q3⟩:=z
   exact⟨e,H2,d,rfl,I2,h0,q2,q3⟩
 ·obtain⟨e,H2,d,rfl,I2,h0,q2,q3⟩:=q
  obtain⟨⟨t,ho⟩,_,_⟩:=(show b0p X.prog X.w H2 s1.heap e (h1i e (.ref C) d) from I2.hok e _ q2)
  exact⟨e,_,_,rfl,I2.bk _ _ zC,ho,rfl,rfl,rfl,hT pins σ H2 s1 e C d I2 q2 h0 q3⟩
end
end L2
namespace L2
open PySem PySem.Spec PyProof.Rows
section
variable {prog:Program}{w:World}{A:Around}{E:Value->Shared->Prop}{h:Heap}{g:Array GenState}{d:Drawn}{t:Nat}{os:OsState}
variable {nm q:Str}{C N:Addr}{bs bm:List Value}{hdct:Bool}{sn:List Str}{sub:List Value}{ab:Bool}{col:Option Bool}{dd:Option Addr}{k0 k1 k2 k3 k5:Option Value}
theorem j3d{e t0:Addr}{rest:List Value}{Q:Value->Shared->Prop}(T:OwnTail h vE bm)(zC:h.get? C=some (excClassObj nm q C N bs bm hdct sn sub ab col dd k0 k1 k2 k3 k5 "ValueError.__new__"))
  (ze:h.get? e=some { cls:=.ref C,data:=.fields #[.ref t0,.none,.none,.none,.bool false,.none] }) (hl:rest.length<=sizeLine)
  (hq:∀ h' t1,(∀ b o,b≠e->h.get? b=some o->h'.get? b=some o)->h'.get? e=some { cls:=.ref C,data:=.fields #[.ref t1,.none,.none,.none,.bool false,.none] }->Q .none ⟨h',g,d,t,os⟩) :
  wpAny (model prog w) A (call (.builtin "ValueError.__init__") (.ref e :: rest)) Q E ⟨h,g,d,t,os⟩:=by
 have F:=PySem.F.excBase_ValueError
 refine wpAny_call (codeAny_call_builtin F.init.plain F.initEntry (wpAny_check_init_subT F T zC ze rfl ?_))
 wp_walk
 have z1:(h.push { cls:=.type "tuple",data:=.seq rest.toArray }).get? e=some { cls:=.ref C,data:=.fields #[.ref t0,.none,.none,.none,.bool false,.none] }:=Heap.get?_push_of_some _ ze
 refine hq _ h.objs.size (fun b o n hb=>?_) ?_
 ·rw [Heap.get?_update_other _ _ (Ne.symm n)]
  exact Heap.get?_push_of_some _ hb
 ·rw [Heap.get?_update_self _ z1 rfl]
  rfl
theorem g8n{self:Value}{l:List Value}(T:OwnTail h vE l):refuseLoop self "__setattr__" l=pure ():=by
 induction T with
 | base=>exact PySem.F.store_ValueError.passes self
 | own _ _ _ _ ih=>rw [refuseLoop_ref]; exact ih
end
structure XAt(K:PySem.W.Frag)(C:Addr)(f:Str):Prop where
 sa:PySem.W.findIn K (.ref C) "__setattr__"=some (some (.builtin "object.__setattr__"))
 na:PySem.W.findIn K (.ref C) f=some none
 hd:PySem.W.hasDictIn K C=true
section
variable {prog:Program}{w:World}{A:Around}{E:Value->Shared->Prop}{s:Shared}{K:PySem.W.Frag}{C fI:Addr}{name:Str}{v:Value}
theorem j8o{x t0:Addr}{Q:Unit->Shared->Prop}(X:K.In s.heap)(O:f1w K C fI=true)(Z:XAt K C name)(so:PySem.W.subIn K (.ref C) (.type "object")=some true)
  (zx:s.heap.get? x=some { cls:=.ref C,data:=.fields #[.ref t0,.none,.none,.none,.bool false,.none] })
  (hq:∀ h' t',(∀ b o,b≠x->s.heap.get? b=some o->h'.get? b=some o)->h'.get? x=some { cls:=.ref C,dict:=some s.heap.objs.size,data:=.fields #[.ref t0,.none,.none,.none,.bool false,.none] }->h'.Ns1 s.heap.objs.size (fun y=>if y=name then some v else none)->Q () { s with heap:=h',toks:=t' }) :
  wpAny (model prog w) A (setAttr (.ref x) name v) Q E s:=by
 obtain⟨bm,N,nm,qn,bs,hdct,sn,sub,ab,col,dd,k0,k1,k2,k3,k5,mN,zC,zN,zi,T⟩:=f3s (h:=s.heap) X O
 have I:PySem.W.InstAt s.heap x { cls:=.ref C,data:=.fields #[.ref t0,.none,.none,.none,.bool false,.none] } C none:=⟨zx,rfl,rfl,True.intro⟩
 have SF:=PySem.F.store_object
 obtain⟨cd,hc,hd'⟩:=PySem.W.any_some Z.hd
 refine PySem.W.set_plain X I Z.sa ?_
 have sub:PySem.W.Looks (model prog w) s.heap (isInstance (.ref x) (.type "object")) true:=I.type.andThen (PySem.W.looks_subIn X so)
 refine codeAny_call_builtin SF.slot.plain SF.entry (@PySem.W.check_slot (model prog w) _ _ { s with toks:=s.toks+1 } "object.__setattr__" "object" "__setattr__" (.ref x) [.str name s.toks,v] [] _ SF.kind SF.split sub (SF.args (.ref x) (.str name s.toks) v) ?_)
 rw [PySem.W.osa_eq,refuse_eq]
 refine wpAny_bind (wpAny_bind (I.type.here (s:={ s with toks:=s.toks+1 }) (wpAny_bind (wpAny_mroOf_exc zC ?_))))
 rw [refuseLoop_ref,g8n T]
 refine wpAny_pure (wpAny_bind (I.type.here (s:={ s with toks:=s.toks+1 }) (wpAny_bind ((PySem.W.looks_findIn X Z.na).here (s:={ s with toks:=s.toks+1 }) (wpAny_bind (wpAny_pure ?_))))))
 refine wpAny_bind (wpAny_pure (wpAny_bind (wpAny_bind (wpAny_loadPart zx ?_))))
 refine wpAny_bind ((PySem.W.looks_clsIn X hc).here (s:={ s with toks:=s.toks+1 }) ?_)
 rw [hd']
 have z1:(s.heap.push { cls:=.type "dict",data:=.dict #[] }).get? x=some { cls:=.ref C,data:=.fields #[.ref t0,.none,.none,.none,.bool false,.none] }:=Heap.get?_push_of_some _ zx
 have nx:x≠s.heap.objs.size:=Nat.ne_of_lt (Heap.lt_size zx)
 refine wpAny_bind (wpAny_alloc' (wpAny_bind (wpAny_update' z1 (wpAny_pure ?_))))
 have z2:((s.heap.push { cls:=.type "dict",data:=.dict #[] }).update x fun o=>{ o with dict:=some s.heap.objs.size }).Ns s.heap.objs.size (fun _=>none) :=
  ⟨_,#[],_,(Heap.get?_update_other _ _ nx).trans (Heap.get?_push_at rfl rfl),rfl,(fun e he=>absurd he (by simp)),fun _=>rfl⟩
 show wpAny _ _ (Builtin.ObjectAttr.storeInDict s.heap.objs.size (.str name s.toks) name v) _ _ _
 refine wpAny_bind (wpAny_pure (wpAny_bind (wpAny_nsSet1 (Heap.Ns1.of_empty z2) fun h' hn' hs=>?_)))
 obtain⟨oD,esD,epD,hoD,hdD,hcD⟩:=hn'.count (PySem.Within.cons name v PySem.Within.nil)
 refine wpAny_bind (wpAny_lookBehind hoD (by rw [hdD]; exact pastItsLine_dict (Nat.le_trans hcD (by rw [List.length_cons,List.length_nil,sizeLine_eq]; omega))) (wpAny_pure ?_))
 refine hq h' _ (fun b o n hb=>?_) ?_ hn'
 ·exact (hs.2 b (Nat.ne_of_lt (Heap.lt_size hb))).trans ((Heap.get?_update_other _ _ (Ne.symm n)).trans (Heap.get?_push_of_some _ hb))
 ·exact (hs.2 x nx).trans (Heap.get?_update_self _ z1 rfl)
end
section
variable {prog:Program}{w:World}{A:Around}{E:Value->Shared->Prop}{h:Heap}{g:Array GenState}{d:Drawn}{t:Nat}{os:OsState}{K:PySem.W.Frag}{a C dx:Addr}{o:Obj}{mA:Str->Option Value}{name:Str}{v:Value}
theorem i0u{tk:Tok}{Q:Fin->Shared->Prop}(X:K.In h)(Z:d3j K C)(na:PySem.W.findIn K (.ref C) name=some none)(hh:PySem.W.hasDictIn K C=true)(zx:h.get? a=some o)(hc:o.cls = .ref C)(hd:o.dict=some dx){ws:Array Value}(hf:o.data = .fields ws)(hn:h.Ns1 dx mA)(hv:mA name=some v)(hv':PySem.W.handedIn v=true)(hq:Q (.done (.ret v)) ⟨h,g,d,t,os⟩) :
  wpAny (model prog w) A (Builtin.«object.__getattribute__» ⟨[.ref a, .str name tk], []⟩) Q E ⟨h, g, d, t, os⟩ := by
 obtain⟨cd,hcd,hd'⟩:=PySem.W.any_some hh
 have hN:h.Ns dx mA:=let ⟨o',es,ep,e1,e2,e3,_,e4⟩:=hn; ⟨o',es,ep,e1,e2,e3,e4⟩
 repeat (any_goals (first | assumption | (with_reducible refine wpAny_loadPart_at zx ?_; rw [hc]) | with_reducible refine PySem.W.Looks.here (PySem.W.looks_findIn X na) ?_ | wp_step))
 rw [hf]
 refine wpAny_bind (wpAny_loadPart zx ?_)
 rw [hc]
 refine wpAny_bind ((PySem.W.looks_clsIn X hcd).here (s:=⟨h,g,d,t,os⟩) ?_)
 rw [hd',hd]
 refine wpAny_pure (wpAny_nsGet hN ?_)
 rw [hv]
 repeat (any_goals (first | assumption | wp_step))
theorem j3e{expr:Bool}{Q:Value->Shared->Prop}(X:K.In h)(Z:d3j K C)(na:PySem.W.findIn K (.ref C) name=some none)(hh:PySem.W.hasDictIn K C=true)(zx:h.get? a=some o)(hc:o.cls = .ref C)(hd:o.dict=some dx){ws:Array Value}(hf:o.data = .fields ws)(hn:h.Ns1 dx mA)(hv:mA name=some v)(hv':PySem.W.handedIn v=true)(hq:Q v ⟨h,g,d,t+1,os⟩) :
  wpAny (model prog w) A (getAttr (.ref a) name expr) Q E ⟨h,g,d,t,os⟩:=by
 have f3:=F.attrBase_ValueError.ga.bind (.ref a)
 have hx2:(Value.builtin "BaseException.__getattribute__" == Value.builtin "object.__getattribute__")=false:=by decide +kernel
 have hx1:(onTheHeap (Value.ref C) && Value.builtin "BaseException.__getattribute__" == Value.builtin "object.__getattribute__")=false:=by rw [hx2]; rfl
 have hx4:(expr && onTheHeap (Value.builtin "BaseException.__getattribute__"))=false:=by
  rw [show onTheHeap (Value.builtin "BaseException.__getattribute__")=false from rfl,Bool.and_false]
 unfold getAttr
 refine wpAny_bind (wpAny_mkText ?_)
 repeat (any_goals (first | assumption | (with_reducible refine wpAny_loadPart_at zx ?_; rw [hc]) | with_reducible refine PySem.W.Looks.here (PySem.W.looks_findIn X Z.ga) ?_ | with_reducible refine PySem.W.Looks.here (PySem.W.looks_findIn X Z.ng) ?_ | wp_step))
 refine codeAny_call_builtin F.attrBase_ValueError.ga.plain F.entry_bexc_ga (h0y X Z zx hc (i0u X Z na hh zx hc hd hf hn hv hv' ?_))
 repeat (any_goals (first | assumption | exact PySem.W.handed_on (s:=⟨h,g,d,t+1,os⟩) hv' hq | wp_step))
end
section
variable {X:Cx}{f C:Addr}{name:Str}{pos pos' apos p np:Pos}{ta tv:TE}{e₀ o value:Expr}{es:List Expr}{t:TA}{m:Str}{M:Addr}
def i0v(K:PySem.W.Frag)(t:TA):TE:=fun σ H Q=>t σ H fun vs H1=>∃ e C f ws,vs = .ref e :: ws/\H1 e=some (g8m e (.ref C))/\f1w K C f=true/\ws.length<=sizeLine/\Q .non H1
structure XIn(K:PySem.W.Frag)(M:Addr):Prop where
 sp:PySem.W.specialIn K (.ref M) "__getattribute__"=some (some (.builtin "type.__getattribute__"))
 rd:PySem.W.readsIn K M (.type "type")=true
 fi:PySem.W.findCls K (.ref M) (.type "type") "__init__"=some (.val (.builtin "ValueError.__init__"))
theorem h3a{Mo:Model}{A:Around}{Q:Value->Shared->Prop}{E:Value->Shared->Prop}{s:Shared}{env:Env}{e:Expr}{rest:List Expr}{i:String}(h:wpAny Mo A (spliced (backTo pos (starEach (e :: rest) env))) (fun vs s₁=>wpAny Mo A (call (.builtin i) vs) Q E s₁) E s)
  (he:starEach (e :: rest) env=(false,eval e env) :: starEach rest env) (hplain:(backTo pos (starEach rest env)).any (·.1)=false):wpAny Mo A (callWith pos (.builtin i) [] (backTo pos (starEach (e :: rest) env)) []) Q E s:=by
 rw [he] at h ⊢
 exact PySem.W.callWith_of (P:=fun _=>True) (by show ((false || (backTo pos (starEach rest env)).any (·.1)) || false)=false; rw [hplain]; rfl) (fun h _=>⟨.machine,.inr (.inl rfl),.now⟩) (Calls.evalArgs_plain (wpAny_mono h (fun _ _ z=>⟨trivial,z⟩) fun _ _ z=>z))
theorem h3b{pl:Sem Bool}(Z:XIn X.K M)(hg:Gl X m)(hm:X.mg m=some (.ref M))(ha:PA X (e₀ :: es) t)
  (hst:starEach (e₀ :: es) X.env=(false,eval e₀ X.env) :: starEach es X.env:=by rfl) (hpl:(backTo pos (starEach es X.env)).any (·.1)=false:=by rfl) (hdb:(m == ("__debug__":Str))=false:=by decide)
  (ht:eval (.Call (.Attribute (.Name m np) "__init__" apos) (e₀ :: es) [] pos) X.env=(do
   let ov <- eval (.Name m np) X.env
   standAt apos.atName
   let (f,first) <- holding [ov] (getMethod ov "__init__" pl)
   callWith pos f first (backTo pos (starEach (e₀ :: es) X.env)) (backToKw pos (keywordEach [] X.env))):=by rfl) :
  PE X (.Call (.Attribute (.Name m np) "__init__" apos) (e₀ :: es) [] pos) (i0v X.K t):=by
 intro pins s σ H Q I h
 refine PySem.W.methodCall_KW (pl:=pl) (c1v I hg hm ?_ hdb) ht
 refine PySem.W.method_cls I.kIn Z.sp (PySem.W.cls_value I.kIn Z.rd Z.fi (by decide) ?_)
 refine h3a (thn (ha pos pins _ σ H _ (I.tok _) h) fun us s2 ⟨vs,H2,I2,r,q⟩=>?_) hst hpl
 obtain⟨e,C,f,ws,rfl,he,O,hl,q⟩:=q
 obtain⟨bm,N,nm,qn,bs,hdct,sn,sub,ab,col,dd,k0,k1,k2,k3,k5,mN,zC,zN,zi,T⟩:=f3s (h:=s2.heap) I2.kIn O
 obtain⟨⟨t0,ho⟩,_,_⟩:=(show b0p X.prog X.w H2 s2.heap e (g8m e (.ref C)) from I2.hok e _ he)
 obtain⟨u,us',rfl,r1,r2⟩:∃ u us',us=u :: us'/\RelV (V.ref e) u/\Vals ws us':=by
  cases r with
  | cons a b=>exact⟨_,_,rfl,a,b⟩
 cases (show u=Value.ref e from r1)
 obtain⟨hh,g,d,tk,os⟩:=s2
 refine j3d (rest:=us') T zC ho (by rw [<- Vals.length r2]; exact hl) fun h' t1 k ho'=>⟨.non,H2,?_,rfl,q⟩
 have z:=Inv.write (x:=e) (e:=e) (o:=g8m e (.ref C)) (h':=h') (t':=tk) I2 (by rw [he]; exact True.intro) (.inl rfl) k ⟨_,ho'⟩ (h7b ho')
 have y:upd H2 e (g8m e (.ref C))=H2:=by
  funext b
  unfold upd
  split
  ·rename_i hb
   rw [hb,he]
  ·rfl
 rw [y] at z
 exact z
def j8p(K:PySem.W.Frag)(ta tv:TE)(f:Str):TS:=fun D σ H=>tv σ H fun y H1=>ta σ H1 fun x H2=>∃ e C g,x = .ref e/\H2 e=some (g8m e (.ref C))/\f1w K C g=true/\XAt K C f/\PySem.W.subIn K (.ref C) (.type "object")=some true /\
 ∀ d,H2 d=none->d≠e->D.nx σ (upd (upd H2 d (.xd [(f,y)])) e (h1i e (.ref C) d))
theorem i6y(ha:PE X o ta)(hv:PE X value tv)(hs:swapsWith value (some (.Attribute o name pos')) pos.line X.env=pure false):PS X (.Assign [.Attribute o name pos'] value pos) (j8p X.K ta tv name):=by
 intro pins s σ H D I h
 refine plainObj_wpAny_Assign_Attribute (thn (hv pins s σ H _ I h) fun u s1 ⟨y,H1,I1,ry,q⟩=>thn (ha pins s1 σ H1 _ I1 q) fun ov s2 ⟨x,H2,I2,rx,e,C,g,ex,he,O,Z,so,q2⟩=>?_) hs
 subst ex
 cases (show ov=Value.ref e from rx)
 obtain⟨⟨t0,ho⟩,_,_⟩:=(show b0p X.prog X.w H2 s2.heap e (g8m e (.ref C)) from I2.hok e _ he)
 refine j8o I2.kIn O Z so ho fun h' t' k ho' hn=>⟨σ,_,?_,q2 s2.heap.objs.size (I2.hok.fresh (Nat.le_refl _)) (Nat.ne_of_gt (Heap.lt_size ho))⟩
 have nd:e≠s2.heap.objs.size:=Nat.ne_of_lt (Heap.lt_size ho)
 have hd:H2 s2.heap.objs.size=none:=I2.hok.fresh (Nat.le_refl _)
 have z:=Inv.write (x:=e) (e:=e) (o:=h1i e (.ref C) s2.heap.objs.size) (h':=h') (t':=t') I2 (by rw [he]; exact True.intro) (.inl rfl) k ⟨_,ho'⟩ (i6v ho')
 have nl:s2.heap.objs.size≠X.env.locals:=Nat.ne_of_gt I2.lt
 have z2:=z.track (a:=s2.heap.objs.size) (o:=.xd [(name,y)]) ?_ nl (fun x c hc w=>?_) (fun p hp w=>?_) ?_ ?_
 ·have e2:upd (upd H2 e (h1i e (.ref C) s2.heap.objs.size)) s2.heap.objs.size (.xd [(name,y)])=upd (upd H2 s2.heap.objs.size (.xd [(name,y)])) e (h1i e (.ref C) s2.heap.objs.size):=by
   funext b
   unfold upd
   by_cases hb:b=s2.heap.objs.size
   ·rw [if_pos hb,if_neg (by rw [hb]; exact Ne.symm nd),if_pos hb]
   ·rw [if_neg hb,if_neg hb]
  rw [e2] at z2
  exact z2
 ·exact Heap.get?_none_of_le I2.sz
 ·obtain⟨_,oc,hoc,_⟩:=I2.cell x c hc
  exact absurd (Heap.lt_size hoc) (by rw [w]; exact Nat.lt_irrefl _)
 ·exact absurd (Heap.lt_size (I2.pin p hp).1) (by rw [w]; exact Nat.lt_irrefl _)
 ·rw [a7m (Ne.symm nd)]
  exact hd
 ·refine⟨_,hn,fun g=>?_⟩
  show f9z ([(name,y)].lookup g) (if g=name then some u else none)
  by_cases hg:g=name
  ·rw [if_pos hg,hg]
   simp only [List.lookup,beq_self_eq_true]
   exact ry
  ·rw [if_neg hg]
   simp only [List.lookup,beq_eq_false_iff_ne.mpr hg]
   exact True.intro
def j3f(K:PySem.W.Frag)(ta:TE)(f:Str):TE:=fun σ H Q=>ta σ H fun x H1=>∃ e C d fs v,x = .ref e/\H1 e=some (i6g e (.ref C) d)/\d3j K C/\XAt K C f/\H1 d=some (.xd fs)/\fs.lookup f=some v/\Q v H1
theorem i6z(he:PE X o ta)(hb:attributeBase o name X.env (eval o X.env)=eval o X.env):PE X (.Attribute o name pos) (j3f X.K ta name):=by
 intro pins s σ H Q I h
 refine h5u hb (thn (he pins s σ H _ I h) fun u s1 ⟨x,H1,I1,rx,e,C,d,fs,v,ex,ee,Zq,Z,ed,l,q⟩=>?_)
 subst ex
 cases (show u=Value.ref e from rx)
 obtain⟨⟨oe,h1,h2,h3,ws,h4⟩,_,_⟩:=(show b0p X.prog X.w H1 s1.heap e (i6g e (.ref C) d) from I1.hok e _ ee)
 obtain⟨mA,hn,hr⟩:=(show b0p X.prog X.w H1 s1.heap d (.xd fs) from I1.hok d _ ed)
 obtain⟨w,hw,rw'⟩:=f9z.some_of (v:=v) (o:=mA name) (by rw [<- l]; exact hr name)
 obtain⟨hh,g,dr,tk,os⟩:=s1
 exact j3e I1.kIn Zq Z.na Z.hd h1 h2 h3 h4 hn hw (g4h rw') ⟨v,H1,I1.tok _,rw',q⟩
noncomputable def k1v(K:PySem.W.Frag):List V->Hp->VK->Prop:=fun xs H Q=>match xs with
 | [.ref a,.ref D]=>∃ C d b,H a=some (i6g a (.ref C) d)/\d3j K C/\PySem.W.kitOne K (.ref C) (.ref D)=some b/\Q (.bl b) H
 | [.ref a,.ty n]=>∃ C d b,H a=some (i6g a (.ref C) d)/\d3j K C/\PySem.W.kitOne K (.ref C) (.type n)=some b/\Q (.bl b) H
 | _=>False
theorem h7f{pins:List (Addr×Obj)}{σ:St}{H:Hp}{s:Shared}{a C d:Addr}{c:Value}{b:Bool}{A:Around}{E:Value->Shared->Prop}{Q:Value->Shared->Prop}(I:Inv X pins σ H s)(ha:H a=some (i6g a (.ref C) d))(Z:d3j X.K C)(e:PySem.W.kitOne X.K (.ref C) c=some b)
  (h:∀ tk,Q (.bool b) { s with toks:=tk }):wpAny (model X.prog X.w) A (call (.builtin "isinstance") [.ref a,c]) Q E s:=by
 obtain⟨⟨o,h1,h2,_⟩,_,_⟩:=(show b0p X.prog X.w H s.heap a (i6g a (.ref C) d) from I.hok a _ ha)
 exact PySem.W.kia_one (h0z Z) I.kIn ⟨o,h1,h2⟩ e (fun z=>nomatch z) h
theorem i0w:d0i X (.builtin "isinstance") (k1v X.K):=by
 intro pins s σ H xs us Q I r h
 match xs,r,h with
 | [.ref a,.ref D],r,⟨C,d,b,ha,Z,e,q⟩ =>
  obtain⟨u,v,rfl,r1,r2⟩:=vals2 r
  cases (show v=Value.ref D from r2)
  cases (show u=Value.ref a from r1)
  exact h7f I ha Z e fun tk=>⟨.bl b,H,I.tok tk,rfl,q⟩
 | [.ref a,.ty n],r,⟨C,d,b,ha,Z,e,q⟩ =>
  obtain⟨u,v,rfl,r1,r2⟩:=vals2 r
  cases (show v=Value.type n from r2)
  cases (show u=Value.ref a from r1)
  exact h7f I ha Z e fun tk=>⟨.bl b,H,I.tok tk,rfl,q⟩
end
end L2
namespace L2
open PySem PySem.Spec PyProof.Rows
section
variable {X:Cx}{k:Nat}{f C:Addr}{fd:FuncData}{ps:List Str}{sp:Sp}{dvs:List V}{ds:List Value}{E:XK}{m:Str}{pos apos:Pos}{e o:Expr}{es:List Expr}{ta:TE}{t:TA}
theorem i0x{K:PySem.W.Frag}{name:Str}(hK:X.K=K)(he:PE X o ta)(hb:attributeBase o name X.env (eval o X.env)=eval o X.env):PE X (.Attribute o name pos) (j3f K ta name):=hK▸i6z he hb
end
structure j8q(K:PySem.W.Frag)(C f:Addr)(name:Str):Prop where
 ok:f1w K C f=true
 fn:PySem.W.isFn K (.ref f)=true
 kp:PySem.W.keepIn K (.ref C)=true
 sa:PySem.W.findIn K (.ref C) "__setattr__"=some (some (.builtin "object.__setattr__"))
 na:PySem.W.findIn K (.ref C) name=some none
 hd:PySem.W.hasDictIn K C=true
theorem j8q.at{K:PySem.W.Frag}{C f:Addr}{name:Str}(h:j8q K C f name):XAt K C name:=⟨h.sa,h.na,h.hd⟩
end L2
namespace L2
open PySem PySem.Spec PyProof.Rows
noncomputable def b4m(X:Cx)(scope:Scope)(cl:List (Str×Addr))(C:Addr)(s₃:Shared)(H₃:Hp)(fp:List Addr)(x y zz:Str):Cx where
 prog:=X.prog
 w:=X.w
 K:=X.K
 mg:=X.mg
 base:=X.base
 A:=X.A
 N:=x :: y :: zz :: mask x X.N
 s₀:=s₃
 H₀:=H₃
 env:=compEnvC scope cl C X.env
 outer:=X.stack
 stack:=X.stack
 ex:=fp
 fn:=fun _=>false
 calm:=X.calm
 pn:=[]
 xe:=fun _ _=>False
structure d0k(X:Cx)(scope:Scope)(x y zz:Str):Prop where
 kind:scope.kind = .function
 d2u:∀ y∈scope.names,y.2≠.cell
 loc:∀ y∈scope.names,y.2 = .local->scope.names.lookup y.1=some .local
 own:scope.names.lookup x=some .local
 j2l:scope.names.lookup y=some .local
 k1w:scope.names.lookup zz=some .local
 free:∀ y∈scope.names,y.2 = .free->X.env.kindOf y.1=some .cell\/X.env.kindOf y.1=some .free
 nd:(x :: y :: zz :: mask x X.N).Nodup
 noe:∀ y∈scope.names,y.1≠""
 vis:∀ y∈mask x X.N,scope.names.lookup y≠some .local
def h1l(J:It)(te:TE)(D:Addr)(σ:St)(H:Hp)(Q:VK)(_:Tag Q):Prop:=∃ (n:Nat) (W:Nat->List V->Hp->Prop),W 0 [] H/\∀ i ys H,i<=n->W i ys H->H D=some (.lst ys) /\
 ((J.stop i H/\Q (.ref D) H)\/(i < n/\J.go i H/\ys.length < sizeLine/\∀ x H',J.yld i H x H'->∃ p u v r,x = .ref p/\H' p=some (.tup [u,v,r])/\te (some u :: some v :: some r :: σ) H' fun y H2=>H2 D=some (.lst ys) /\
  ∀ H3,a6t D H2 H3->H3 D=some (.lst (ys++[y]))->W (i+1) (ys++[y]) H3))
def i4c(wi:TI)(te:TE):TE:=fun σ H Q=>wi σ H fun J H1=>∀ D H2,H1 D=none->Same H1 H2->H2 D=some (.lst [])->h1l J te D σ H2 Q ⟨⟩
section
variable {X:Cx}{scope:Scope}{x y zz:Str}{cl:List (Str×Addr)}{pins:List (Addr×Obj)}{σ:St}{H:Hp}{s s₄:Shared}{fp:List Addr}
theorem Inv.j8r(S:d0k X scope x y zz)(I:Inv X pins σ H s)(hcl:∀ y c,cl.lookup y=some c->(y,NameKind.free)∈scope.names/\X.env.cells.lookup y=some c)(hcl2:∀ y,(y,NameKind.free)∈scope.names->cl.lookup y=X.env.cells.lookup y)
  (hfp:∀ b∈fp,d7t X pins H b) (hlt:∀ b∈fp,b < s.heap.objs.size) {m:Str->Option Value} (hns:s₄.heap.Ns s.heap.objs.size m) (hk:∀ b o,s.heap.get? b=some o->s₄.heap.get? b=some o) (hos:s₄.os=s.os) (hg:s₄.gens=s.gens) :
  Inv (b4m X scope cl s.heap.objs.size s H fp x y zz) [] (none :: none :: none :: σ) H s₄:=by
 refine⟨⟨I.ok.mod,?_,I.ok.glob,I.ok.blt,Nat.le_refl _,fun y z c h1 h2=>I.ok.inj y z c (hcl y c h1).2 (hcl z c h2).2,fun y hy=>?_,(fun y c h=>nomatch h),I.ok.hd,I.ok.frames,.inl rfl,fun b hb=>⟨Nat.ne_of_lt (hlt b hb),fun y c e=>(hfp b hb).2.2.2.2.1 y c (hcl y c e).2⟩,
  fun b o e=>I.bs b o e,Nat.le_trans I.ok.bsz I.sz,fun b o e hb=>?_,fun b hb hf=>?_,I.stack,I.d9v⟩,
  hos,by rw [hg]; exact I.bare,Un.kept hk,⟨m,hns,fun i y v h1 h2 h3=>?_⟩,fun y c e=>?_,I.hok.fresh (Nat.le_refl _),fun y c e=>I.d5o y c (hcl y c e).2,fun p hp=>absurd (show p∈([] : List (Addr×Obj)) from hp) (by simp),I.hok.kept hk,by show (none :: none :: none :: σ).length=(x :: y :: zz :: mask x X.N).length; rw [List.length_cons,List.length_cons,List.length_cons,List.length_cons,List.length_cons,List.length_cons,mask,List.length_map,I.len]⟩
 ·exact S.kind
 ·rcases b1s (env:=X.env) (sc:=scope) (x:=y) hy with z | z
  ·obtain⟨c,hc⟩:=I.ok.has y (S.free _ z rfl)
   exact⟨c,(hcl2 y z).trans hc⟩
  ·exact absurd rfl (S.d2u _ z)
 ·rcases (hfp b hb).2.2.2.1 with z | z
  ·exact I.ok.i2q b o e z
  ·exact absurd (Nat.lt_of_lt_of_le (Heap.lt_size (I.ok.bs b o e).1) z) (Nat.lt_irrefl _)
 ·rcases List.mem_cons.mp (I.d5q b hf) with z | z
  ·exact (hfp b hb).2.1 z
  ·exact (hfp b hb).2.2.1 z
 ·match i,h1,h2 with
  | 0,h1,h2=>cases h2
  | 1,h1,h2=>cases h2
  | 2,h1,h2=>cases h2
  | i+3,h1,h2 =>
   have h1m:(mask x X.N)[i]? = some y:=by simpa [b4m] using h1
   have h2':σ[i]? = some (some v):=by simpa using h2
   have hyN:y∈mask x X.N:=List.mem_of_getElem? h1m
   have hc:(relabel scope X.env).names.lookup y=some .cell\/(relabel scope X.env).names.lookup y=some .free:=by
    rcases h3 with z | z | z
    ·exfalso
     rcases c3w (env:=X.env) scope.names _ z with q | ⟨q,_⟩
     ·exact S.vis y hyN q
     ·cases q
    ·exact .inl z
    ·exact .inr z
   have hfr:(y,NameKind.free)∈scope.names:=by
    rcases b1s hc with z | z
    ·exact z
    ·exact absurd rfl (S.d2u _ z)
   have h1':X.N[i]? = some y:=by
    rw [mask,List.getElem?_map] at h1m
    obtain⟨z,hz,e⟩:=Option.map_eq_some_iff.mp h1m
    by_cases hzx:z=x
    ·rw [if_pos hzx] at e
     exact absurd e.symm (S.noe _ hfr)
    ·rw [if_neg hzx] at e
     rw [hz,e]
   obtain⟨mX,hnX,hl⟩:=I.loc
   have hk2:=S.free _ hfr rfl
   have j1q:Vis X.env.scope y:=by
    rcases hk2 with z | z
    ·exact .inr (.inl z)
    ·exact .inr (.inr z)
   obtain⟨u,ru,lk⟩:=hl i y v h1' h2' j1q
   refine⟨u,ru,.inr ⟨hc,?_⟩⟩
   rcases lk with ⟨z,_⟩ | ⟨_,c,ec,o,ho,hd⟩
   ·rcases hk2 with q | q
    ·rw [q] at z; cases z
    ·rw [q] at z; cases z
   ·exact⟨c,(hcl2 y hfr).trans ec,o,hk c o ho,hd⟩
 ·obtain⟨v,o,ho,hd⟩:=I.cell y c (hcl y c e).2
  exact⟨v,o,hk c o ho,hd⟩
theorem Inv.i7a{σ':St}{H':Hp}{s':Shared}{h':Heap}(I:Inv X pins σ H s)(hfp:∀ b∈fp,d7t X pins H b)(J:Inv (b4m X scope cl s.heap.objs.size s H fp x y zz) [] σ' H' s')(hs:Heap.SameBut s.heap.objs.size s'.heap h') :
  Inv X pins σ H' { s' with heap:=h' }:=by
 have ne:∀ {b:Addr} {o:Obj},s.heap.get? b=some o->b≠s.heap.objs.size:=fun e=>Nat.ne_of_lt (Heap.lt_size e)
 have u:=J.base
 have u':Un (frs X.stack) fp H H' s.heap h':=⟨fun b o e n hb hx=>hs.extBut b o (ne e) (u.keep b o e n hb hx),fun b o e n hb hx=>(u.slot b o e n hb hx).elim fun sl q=>⟨sl,hs.extBut b _ (ne e) q⟩,u.free,
  fun b o e hx=>(u.there b o e hx).elim fun o' q=>⟨o',hs.extBut b o' (ne e) q⟩,u.tups,u.g0a,u.g1p⟩
 have nC:∀ {b:Addr} {o:HO},H' b=some o->b≠s.heap.objs.size:=fun {b o} e z=>by
  have f:H' s.heap.objs.size=none:=J.free
  rw [z,f] at e; cases e
 have ok:HOk X.prog X.w H' h':=fun b o e=>(J.hok b o e).stay (fun c v hc q=>hs.extBut c v (by
  rcases hc with z | z
  ·rw [z]; exact nC e
  ·exact nC z) q) (fun _ q=>q) fun _ _ q=>q
 exact I.call' (s':={ s' with heap:=h' }) (ch:=fp) J.os u' ok J.bare fun b hb=>⟨(hfp b hb).2.2.2.1,(hfp b hb).2.1,(hfp b hb).2.2.2.2.1,(hfp b hb).2.2.2.2.2⟩
end
section
variable {X:Cx}{scope:Scope}{x y zz:Str}{pins:List (Addr×Obj)}{σ:St}{elt iter:Expr}{px py pz tpos pos:Pos}{kk:Nat}{wi:TI}{te:TE}
theorem f4s{s₂:Shared}{H1:Hp}{it:Addr}{fp:List Addr}{tn:Nat->Heap->Prop}{J:It}{Q:VK}{RR:Value->Addr->Result->Shared->Prop}{E:Value->Shared->Prop}{cl:List (Str×Addr)}
  (S:d0k X scope x y zz) (hc:X.calm=true) (he:∀ cl C s₃ H₃ fp,PE (b4m X scope cl C s₃ H₃ fp x y zz) elt te)
  (hcl:∀ y c,cl.lookup y=some c->(y,NameKind.free)∈scope.names/\X.env.cells.lookup y=some c) (hcl2:∀ y,(y,NameKind.free)∈scope.names->cl.lookup y=X.env.cells.lookup y)
  (I2:Inv X pins σ H1 s₂) (T:Turn X.prog X.w X.K (.Tuple [.Name x px,.Name y py,.Name zz pz] kk tpos) J fp it tn) (st2:tn 0 s₂.heap) (f2:∀ b∈fp,d7t X pins H1 b) (h:∀ D H2,H1 D=none->Same H1 H2->H2 D=some (.lst [])->h1l J te D σ H2 Q ⟨⟩)
  (hRR:∀ (D C:Addr) (s':Shared) (H':Hp),(∃ m,s'.heap.Ns C m)->(∀ h' ,Heap.SameBut C s'.heap h'->Inv X pins σ H' { s' with heap:=h' })->d7t X pins H' C->Q (.ref D) H'->RR (.ref D) C (.ok .next) s') :
  wpAny (model X.prog X.w) X.A (newList []) (fun acc s₃=>wpAny (model X.prog X.w) X.A (newFunctionEnv scope X.env.globals cl [] X.env.qual none .none (some X.env)) (fun cenv s₄ =>
   codeAny (model X.prog X.w) X.A (.compStart (.ListComp elt [⟨.Tuple [.Name x px,.Name y py,.Name zz pz] kk tpos,iter,[],0⟩] scope pos) 0 (.ref it) acc { cenv with scope:=relabel scope X.env }) (RR acc cenv.locals) s₄) E s₃) E s₂:=by
 have hfr:H1 s₂.heap.objs.size=none:=I2.hok.fresh (Nat.le_refl _)
 have hCW:=h s₂.heap.objs.size _ hfr (Same.upd hfr) a6m
 refine wpAny_newObj_type ?_
 have I3:Inv X pins σ (upd H1 s₂.heap.objs.size (.lst [])) { s₂ with heap:=s₂.heap.push { cls:=.type "list",data:=.seq ([] : List Value).toArray },toks:=s₂.toks } :=
  I2.laid (t':=s₂.toks) (fun b u e=>Heap.get?_push_of_some _ e) (Nat.le_refl _) ⟨Nat.zero_le _,[],0,.nil,Heap.get?_push_size _ rfl⟩
 have nD:∀ b∈fp,b≠s₂.heap.objs.size:=fun b hb=>by
  obtain⟨o,e,_⟩:=T.obj 0 _ st2 b hb
  exact Nat.ne_of_lt (Heap.lt_size e)
 have f3:∀ b∈fp,d7t X pins (upd H1 s₂.heap.objs.size (.lst [])) b:=fun b hb=>⟨by rw [a7m (nD b hb)]; exact (f2 b hb).1,(f2 b hb).2⟩
 generalize hH3:upd H1 s₂.heap.objs.size (.lst [])=H3 at *
 have st3:tn 0 (s₂.heap.push { cls:=.type "list",data:=.seq ([] : List Value).toArray }):=T.keep _ _ _ st2 fun b _ o e=>Heap.get?_push_of_some _ e
 have g8a:∀ b∈fp,b < (s₂.heap.push { cls:=.type "list",data:=.seq ([] : List Value).toArray }).objs.size:=fun b hb=>by
  obtain⟨o,e,_⟩:=T.obj 0 _ st3 b hb
  exact Heap.lt_size e
 show wpAny (model X.prog X.w) X.A (newFunctionEnv scope X.env.globals cl [] X.env.qual none .none (some X.env)) _ E { s₂ with heap:=s₂.heap.push { cls:=.type "list",data:=.seq ([] : List Value).toArray },toks:=s₂.toks }
 generalize hs3:({ s₂ with heap:=s₂.heap.push { cls:=.type "list",data:=.seq ([] : List Value).toArray },toks:=s₂.toks }:Shared)=s₃ at *
 have eh:s₃.heap=s₂.heap.push { cls:=.type "list",data:=.seq ([] : List Value).toArray }:=by rw [<- hs3]
 rw [<- eh] at st3 g8a
 generalize s₂.heap.objs.size=D at *
 refine wpAny_newFunctionEnv S.d2u (by intro y hy; simp at hy) (fun h₁ hns₁ hsb₁=>?_) S.kind
 have hk1:∀ b o,s₃.heap.get? b=some o->h₁.get? b=some o:=fun b o e=>hsb₁.extBut b o (Nat.ne_of_lt (Heap.lt_size e)) (Heap.get?_push_of_some _ e)
 have J0:Inv (b4m X scope cl s₃.heap.objs.size s₃ H3 fp x y zz) [] (none :: none :: none :: σ) H3 { s₃ with heap:=h₁,toks:=s₃.toks+([] : List (Str×Value)).length }:=I3.j8r S hcl hcl2 f3 g8a hns₁ hk1 rfl rfl
 obtain⟨n0,W,w0,turn⟩:=hCW
 have loop:codeAny (model X.prog X.w) X.A (.compLoop (.ListComp elt [⟨.Tuple [.Name x px,.Name y py,.Name zz pz] kk tpos,iter,[],0⟩] scope pos) 0 (.ref it) (.ref D) (compEnvC scope cl s₃.heap.objs.size X.env)) (RR (.ref D) s₃.heap.objs.size) { s₃ with heap:=h₁,toks:=s₃.toks+([] : List (Str×Value)).length }:=by
  refine codeAny_loop rfl (fun n s'=>∃ i ys o o' o'' H',Inv (b4m X scope cl s₃.heap.objs.size s₃ H3 fp x y zz) [] (o :: o' :: o'' :: σ) H' s'/\tn i s'.heap/\(∀ b∈fp,H' b=none)/\W i ys H'/\i<=n0/\n=n0 - i) (fun n s5 hI=>?_) n0
   ⟨0,[],none,none,none,H3,J0,T.keep _ _ _ st3 (fun b _ o e=>hk1 b o e),fun b hb=>(f3 b hb).1,w0,Nat.zero_le _,rfl⟩
  obtain⟨i,ys,o5,o5',o5'',H5,I5,st5,fr5,w5,hin,hnn⟩:=hI
  have stat:∀ {H':Hp},(∀ b∈fp,H' b=none)->∀ b∈fp,d7t (b4m X scope cl s₃.heap.objs.size s₃ H3 fp x y zz) [] H' b:=fun hn b hb =>
   ⟨hn b hb,Nat.ne_of_lt (g8a b hb),fun z=>(List.mem_cons.mp (I3.d5q b z)).elim (fun q=>(f3 b hb).2.1 q) fun q=>(f3 b hb).2.2.1 q,.inl hb,fun y c e=>(f3 b hb).2.2.2.2.1 y c (hcl y c e).2,fun p hp=>absurd (show p∈([] : List (Addr×Obj)) from hp) (by simp)⟩
  show wpAny _ X.A ((compTurn (.ListComp elt [⟨.Tuple [.Name x px,.Name y py,.Name zz pz] kk tpos,iter,[],0⟩] scope pos) 0 (.ref it) (.ref D) (compEnvC scope cl s₃.heap.objs.size X.env)).onRaise (fun x=>do noteFrame x (compEnvC scope cl s₃.heap.objs.size X.env); theTreesLotGoes x)) _ _ s5
  refine wpAny_noted ?_
  rw [compTurn_list1]
  refine wpAny_bind (wpAny_standAt (wpAny_bind ?_))
  obtain⟨hD5,alt⟩:=turn i ys H5 hin w5
  rcases alt with ⟨stop,q⟩ | ⟨hlt,go,hsz,step⟩
  ·refine wpAny_mono (T.done (b4m X scope cl s₃.heap.objs.size s₃ H3 fp x y zz) rfl rfl rfl hc i [] s5 _ H5 _ I5 (stat fr5) st5 stop) (fun r s6 ⟨hr,I6⟩=>?_) fun _ _ z=>z
   subst hr
   refine wpAny_pure ?_
   obtain⟨m6,hn6,_⟩:=I6.loc
   exact hRR D s₃.heap.objs.size s6 H5 ⟨m6,hn6⟩ (fun h' hs'=>I3.i7a f3 I6 hs') (I3.i5g (Nat.le_refl _) I6.free) q
  ·refine wpAny_mono (T.item (b4m X scope cl s₃.heap.objs.size s₃ H3 fp x y zz) rfl rfl rfl hc i [] s5 _ H5 _ I5 (stat fr5) st5 go) (fun r s6 ⟨u,hr,h6⟩=>?_) fun _ _ z=>z
   subst hr
   refine wpAny_bind (wpAny_mono h6 (fun _ s7 ⟨v,H7,I7,r7,y7,st7,fr7⟩=>?_) fun _ _ z=>z)
   have I7':=I7.pinned (stat fr7) (T.obj _ _ st7)
   obtain⟨p7,u1,u2,u3,e7,t7,step7⟩:=step v H7 y7
   subst e7
   have G1:=a5n (X:=b4m X scope cl s₃.heap.objs.size s₃ H3 fp x y zz) (pos:=px) (i:=0) (x:=x) S.nd rfl (.inl (lookup_relabel_local S.own)) (.inr (lookup_relabel_local S.own))
   have G2:=a5n (X:=b4m X scope cl s₃.heap.objs.size s₃ H3 fp x y zz) (pos:=py) (i:=1) (x:=y) S.nd rfl (.inl (lookup_relabel_local S.j2l)) (.inr (lookup_relabel_local S.j2l))
   have G3:=a5n (X:=b4m X scope cl s₃.heap.objs.size s₃ H3 fp x y zz) (pos:=pz) (i:=2) (x:=zz) S.nd rfl (.inl (lookup_relabel_local S.k1w)) (.inr (lookup_relabel_local S.k1w))
   have G:=h5j (X:=b4m X scope cl s₃.heap.objs.size s₃ H3 fp x y zz) (pos:=tpos) (k:=kk) (n:=3) hc (d4v G1 (d4v G2 (d4v G3 g7r))) rfl rfl
   refine wpAny_bind (wpAny_mono (G _ s7 _ H7 (.ref p7) u (fun σ' H'=>σ'=some u1 :: some u2 :: some u3 :: σ/\H'=H7) I7' r7 ⟨p7,[u1,u2,u3],rfl,SqT.of t7,rfl,_,_,rfl,_,_,rfl,_,_,rfl,rfl,rfl,rfl⟩) (fun _ s8 hs8=>?_) fun _ _ z=>False.elim z)
   obtain⟨σ8,H8,I8,rfl,rfl⟩:=hs8
   refine wpAny_bind (wpAny_bind (wpAny_mono (he cl s₃.heap.objs.size s₃ H3 fp _ s8 _ _ _ I8 step7) (fun yv s9 hs9=>?_) fun _ _ z=>False.elim z))
   obtain⟨y',H9,I9,r9,hD9,k9⟩:=hs9
   refine wpAny_bind (wpAny_mono (d3g (X:=b4m X scope cl s₃.heap.objs.size s₃ H3 fp x y zz) _ s9 _ H9 (.ref D) [y'] (.ref D) [yv] (fun _ H'=>H'=upd H9 D (.lst (ys++[y']))) I9 rfl (.cons r9 .nil) ⟨D,ys,y',rfl,rfl,hD9,hsz,rfl⟩) (fun _ sA hsA=>?_) fun _ _ z=>False.elim z)
   obtain⟨_,HA,IA,_,rfl⟩:=hsA
   refine wpAny_pure ?_
   have wA:=k9 _ a6t.upd a6m
   refine wpAny_pure ⟨rfl,n0 - (i+1),by omega,i+1,ys++[y'],some u1,some u2,some u3,_,IA.d0z (pins:=[]) (pl:=f1u fp s7.heap),T.keep _ _ _ st7 (fun b hb o e=>(IA.pin (b,o) (List.mem_append_right _ (List.mem_append_right _ (b0u hb e)))).1),fun b hb=>?_,wA,hlt,rfl⟩
   obtain⟨o,e,d⟩:=T.obj _ _ st7 b hb
   exact (IA.pin (b,o) (List.mem_append_right _ (List.mem_append_right _ (b0u hb e)))).2.1
 exact codeAny_compStart_list loop (T.self _ 0 _ _ _ (T.keep _ _ _ st3 fun b _ o e=>hk1 b o e) loop)
theorem i0y(hi:PI X (.Tuple [.Name x px,.Name y py,.Name zz pz] kk tpos) iter wi)(he:∀ cl C s₃ H₃ fp,PE (b4m X scope cl C s₃ H₃ fp x y zz) elt te)(S:d0k X scope x y zz)(hc:X.calm=true)
  (hs:∀ x,foldedSetIterable iter X.env x=pure x:=by intro _; rfl):PE X (.ListComp elt [⟨.Tuple [.Name x px,.Name y py,.Name zz pz] kk tpos,iter,[],0⟩] scope pos) (i4c wi te):=by
 intro pins s σ H Q I h
 obtain⟨cl,hclos,hcl,hcl2⟩:=c3v (env:=X.env) (sc:=scope) fun y hy=>I.ok.has y (S.free _ hy rfl)
 rw [eval_ListComp]
 refine wpAny_comprehension_free (use:=none) rfl hs hclos S.kind S.loc ?_
 refine thn (hi pins s σ H _ I h) fun v s1 h1=>thn h1 fun itv s2 h2=>?_
 obtain⟨it,fp,tn,J,H2,e,I2,T,st2,f2,hW⟩:=h2
 subst e
 exact f4s (RR:=fun acc C=>compPost (model X.prog X.w) X.A X.xe none (EP X pins σ Q) acc C) S hc he hcl hcl2 I2 T st2 f2 hW fun D C s' H' hm hI _ hq =>
  hm.elim fun m hn=>⟨m,hn,fun h' hs'=>⟨.ref D,H',hI h' hs',rfl,hq⟩⟩
theorem i0z{i:Nat}{y':Str}{py' spos:Pos}(hN:X.N.Nodup)(hyi:X.N[i]? = some y')(hy:X.env.scope.names.lookup y'=some .local)(hi:PI X (.Tuple [.Name x px,.Name y py,.Name zz pz] kk tpos) iter wi)(he:∀ cl C s₃ H₃ fp,PE (b4m X scope cl C s₃ H₃ fp x y zz) elt te)(S:d0k X scope x y zz)(hc:X.calm=true)
  (hsw:swapsWith (.ListComp elt [⟨.Tuple [.Name x px,.Name y py,.Name zz pz] kk tpos,iter,[],0⟩] scope pos) (some (.Name y' py')) spos.line X.env=pure true:=by rfl)
  (hs:∀ x,foldedSetIterable iter X.env x=pure x:=by intro _; rfl):PS X (.Assign [.Name y' py'] (.ListComp elt [⟨.Tuple [.Name x px,.Name y py,.Name zz pz] kk tpos,iter,[],0⟩] scope pos) spos) (i9m (i4c wi te) (h5i i)):=by
 intro pins s σ H D I h
 obtain⟨cl,hclos,hcl,hcl2⟩:=c3v (env:=X.env) (sc:=scope) fun y hy=>I.ok.has y (S.free _ hy rfl)
 rw [exec_Assign_Name_used _ _ _ _ hsw]
 refine wpAny_bind (wpAny_standAt (wpAny_bind ?_))
 show wpAny _ X.A (do let _ <- comprehension (.ListComp elt [⟨.Tuple [.Name x px,.Name y py,.Name zz pz] kk tpos,iter,[],0⟩] scope pos) scope X.env _ (newList []) false (eval iter X.env) (some (assign (.Name y' py') X.env))) _ _ s
 refine wpAny_bind (wpAny_mono (wpAny_comprehension_free (use:=some (assign (.Name y' py') X.env)) (Q:=fun _ s'=>SP X pins D .next s') rfl hs hclos S.kind S.loc ?_) (fun _ s' hq=>wpAny_pure (wpAny_pure hq)) fun _ _ e=>e)
 refine thn (hi pins s σ H _ I h) fun v s1 h1=>thn h1 fun itv s2 h2=>?_
 obtain⟨it,fp,tn,J,H2,e,I2,T,st2,f2,hW⟩:=h2
 subst e
 refine f4s (Q:=fun v H'=>D.nx (σ.set i (some v)) H') (RR:=fun acc C=>compPost (model X.prog X.w) X.A X.xe (some (assign (.Name y' py') X.env)) (fun _ s'=>SP X pins D .next s') acc C) S hc he hcl hcl2 I2 T st2 f2 hW fun L C s' H' hm hI hfp hq=>?_
 obtain⟨m,hn⟩:=hm
 have I':Inv X pins σ H' s':=hI s'.heap (Heap.SameBut.refl ..)
 show wpAny _ X.A (assign (.Name y' py') X.env (.ref L)) _ _ s'
 refine wpAny_assign_Name (f3u (v:=.ref L) I' hN hyi (.inl hy) rfl (fun s'' I'' hsb=>?_) (.inr hy))
 obtain⟨a,hsame,ha⟩:=hsb
 have nea:C≠a:=by
  rcases ha with z | z
  ·rw [z]; exact hfp.2.1
  ·exact fun q=>hfp.2.2.2.2.1 y' a z q.symm
 refine⟨m,hn.sameBut hsame nea,fun h' hs'=>⟨_,H',I''.turned (t':=s''.toks) (it:=C) (fun b o hb e=>hs'.extBut b o hb e) hfp.1 hfp.2.1 hfp.2.2.2.1 hfp.2.2.2.2.1 hfp.2.2.2.2.2,hq⟩⟩
end
noncomputable def h7g(sc scope:Scope)(x y zz:Str)(N:List Str):Bool :=
 (scope.kind == .function) && scope.names.all (fun y=>y.2 != .cell) && scope.names.all (fun y=>y.2 != .local || scope.names.lookup y.1 == some .local) && (scope.names.lookup x == some .local) && (scope.names.lookup y == some .local) && (scope.names.lookup zz == some .local) &&
 scope.names.all (fun y=>y.2 != .free || (sc.names.lookup y.1 == some .cell || sc.names.lookup y.1 == some .free)) && decide ((x :: y :: zz :: mask x N).Nodup) && scope.names.all (fun y=>y.1 != "") && (mask x N).all (fun y=>scope.names.lookup y != some .local)
theorem i4d{X:Cx}{sc scope:Scope}{x y zz:Str}{N:List Str}(hsc:X.env.scope=sc)(hN:X.N=N)(h:h7g sc scope x y zz N=true):d0k X scope x y zz:=by
 subst hN hsc
 unfold h7g at h
 simp only [Bool.and_eq_true,List.all_eq_true,beq_iff_eq,Bool.or_eq_true,bne_iff_ne,ne_eq,decide_eq_true_eq] at h
 obtain⟨⟨⟨⟨⟨⟨⟨⟨⟨h1,h2⟩,h3⟩,h4⟩,h5⟩,h5'⟩,h6⟩,h7⟩,h8⟩,h9⟩:=h
 exact⟨h1,h2,fun y hy e=>(h3 y hy).resolve_left fun z=>z e,h4,h5,h5',fun y hy e=>(h6 y hy).resolve_left fun z=>z e,h7,h8,h9⟩
theorem f4t{K:PySem.W.Frag}{a D:Addr}{xs:List V}{te:TE}{σ:St}{H:Hp}{Q:VK}(Pv:Nat->List V->Hp->Prop)(h0:Pv 0 [] H)(hsz:xs.length<=sizeLine)
  (hD:∀ i ys H,i<=xs.length->Pv i ys H->H D=some (.lst ys)/\SqL K H a xs/\ys.length=i)
  (hs:∀ i x ys H,xs[i]? = some x->Pv i ys H->∃ p u v r,x = .ref p/\H p=some (.tup [u,v,r])/\te (some u :: some v :: some r :: σ) H fun y H2=>H2 D=some (.lst ys)/\∀ H3,a6t D H2 H3->H3 D=some (.lst (ys++[y]))->Pv (i+1) (ys++[y]) H3)
  (hd:∀ ys H,Pv xs.length ys H->Q (.ref D) H):h1l (Itl K a) te D σ H Q ⟨⟩:=by
 refine⟨xs.length,Pv,h0,fun i ys H hi p=>?_⟩
 obtain⟨e1,e2,e3⟩:=hD i ys H hi p
 refine⟨e1,?_⟩
 by_cases hlt:i < xs.length
 ·refine .inr ⟨hlt,⟨xs,xs[i],e2,by simp [hlt]⟩,by omega,fun x H' y=>?_⟩
  obtain⟨e,y⟩:=y
  subst e
  exact hs i x ys _ (y xs e2) p
 ·have e:i=xs.length:=by omega
  subst e
  exact .inl ⟨⟨xs,e2,Nat.le_refl _⟩,hd ys H p⟩
def j8s(K:PySem.W.Frag):R2:=fun x y H Q=>∃ p us d ds,y = .ref p/\H p=some (.lst us)/\g0e K H x (PySem.W.kqdP d)/\d1g K H us (PySem.W.kqdPs ds)/\(∀ e∈ds,PySem.W.kqdOk 8 e=true)/\PySem.W.kqdOk 8 d=true/\∀ c:Bool,(c=true ↔ d∈ds)->Q (.bl (!c)) H
theorem h3c{X:Cx}(hu:X.A.units+64 < cLine):OpR X (compareOp .NotIn) (j8s X.K):=by
 intro pins s σ H x y v u Q I rx ry h
 obtain⟨p,us,d,ds,rfl,hp,hd,hds,ok1,ok2,q⟩:=h
 obtain⟨as,ra⟩:=I.reads hd rx
 obtain⟨bs,rb⟩:=I.reads (g0e.lst (SqL.of hp) hds) ry
 have l1:=PySem.W.kqd_layL ok1
 have l2:=PySem.W.kqd_lay 8 d ok2
 refine SeqAt.notIn_list_reads rb ra l1.1 l2.1 ?_ ⟨.bl _,H,I,rfl,q _ (PySem.W.kqd_any ds d ok1 ok2)⟩
 have:=Nat.min_le_left (PyData.depthAll (PySem.W.kqdPs ds)) (PySem.W.kqdP d).depth
 omega
end L2
namespace L2
open PySem PySem.Spec PyProof.Rows
theorem f4u{e:Value}{f:Option Addr}:c7q (setFlight e f):=by
 unfold setFlight
 refine c7q.bind (fun v=>?_) d0j
 split
 ·exact c3i (by decide)
 ·exact True.intro
theorem h3d{e:Value}{env env':Env}(h:env.frame=env'.frame):noteFrame e env=noteFrame e env':=by
 unfold noteFrame PySem.frameOf
 rw [h]
def g8o(B:Heap)(l:List Env)(a:Addr)(C a0:Value)(h:Heap):Prop:=B.StaysIn h/\B.get? a=none/\h.FunFrames B l/\∃ fl,h.TracedAtW B a C a0 fl
section
variable {M:Model}{A:Around}{E:Value->Shared->Prop}{s:Shared}{base:Heap}{env:Env}{outer l:List Env}{L e:Addr}{cls a0:Value}{dx:Option Addr×Option Value}{Q:Unit->Shared->Prop}
theorem h3e(hfr:A.frames=some (env :: outer))(hf:env.frame=some L)(hh:g8o base (env :: outer) e cls a0 s.heap)(kd:Kd e dx s.heap)
  (hQ:∀ h',Heap.FlyingW base outer e cls a0 h'->s.heap.UpToSlots h'->Kd e dx h'->Q () { s with heap:=h' }):wpAny M A (leaving env (.ref e)) Q E s:=by
 refine wpAny_mono (d3i.any (E:=fun _ _=>False) (Q:=fun _ s'=>∃ h',s' = { s with heap:=h' }/\Heap.FlyingW base outer e cls a0 h'/\s.heap.UpToSlots h') ?_ kd) (fun _ s' z=>?_) fun _ _ z=>z.1.elim
 ·obtain⟨f1,f2,f3,fl,tr⟩:=hh
  by_cases hfl:fl=rawInt L
  ·subst hfl
   unfold leaving
   refine wpAny_bind (wpAny_noteFrame_againW hf tr (wpAny_landsW (L:=L) ⟨f1,f2,f3,tr⟩ fun h' a b=>?_))
   obtain⟨k1,k2,⟨_,_,k3⟩,k4⟩:=a
   exact⟨h',rfl,⟨k1,k2,k3,k4⟩,b⟩
  ·obtain⟨oe,vs,T,oT,ts,he,⟨hc,h0⟩,hd,h1,hnT,hTe,hT,hdT,h3⟩:=tr
   subst hc
   unfold leaving noteFrame
   simp only [hf]
   refine wpAny_bind (wpAny_bind (wpAny_field he hd h1 ?_))
   rw [if_pos (show (Value.ref T != Value.none)=true from by simp)]
   refine wpAny_bind (wpAny_field hT hdT h3 ?_)
   rw [if_neg (by simpa using hfl)]
   refine wpAny_bind (wpAny_setField hT hdT (Array.getElem?_eq_some_iff.mp h3).1 ?_)
   have oth:∀ b,b≠T->(s.heap.update T (Obj.mapFields (·.setIfInBounds 3 Value.none))).get? b=s.heap.get? b:=fun b hb=>Heap.get?_update_other _ _ (Ne.symm hb)
   have i4e:∀ b o,s.heap.get? b=some o->(∀ vs,o.data≠.fields vs)->b≠T:=fun b o hb hnf q=>by
    rw [q,hT] at hb
    cases hb
    exact hnf ts hdT
   refine wpAny_newEntryW hfr (f3.of_keeps fun b o hb hnf=>⟨o,(oth b (i4e b o hb hnf)).trans hb,rfl⟩) hf ((oth e (Ne.symm hTe)).trans he) (fun b o hbo=>(oth b fun q=>by rw [q,hnT] at hbo; cases hbo).trans (f1 b o hbo)) f2 hd (Array.getElem?_eq_some_iff.mp h1).1 h0 fun h' ⟨x1,⟨_,_,x2⟩,x3,x4⟩=>⟨h',rfl,⟨x1,f2,x2,x3⟩,fun b o hb hnf=>x4 b o ((oth b (i4e b o hb hnf)).trans hb) hnf⟩
 ·obtain⟨⟨h',rfl,a,b⟩,c⟩:=z
  exact hQ h' a b c
theorem h3f{α:Type}{what:String}{Q':α->Shared->Prop}{cenv:Env}(hh:g8o base l e cls a0 s.heap)(kd:Kd e dx s.heap)(hE:∀ h',g8o base l e cls a0 h'->s.heap.UpToSlots h'->Kd e dx h'->E (.ref e) { s with heap:=h' }):wpAny M A (PySem.passOn what (.ref e) cenv:Sem α) Q' E s:=by
 obtain⟨f1,f2,f3,fl,oe,vs,T,oT,ts,he,hc,hd,h1,hnT,hTe,hT,hdT,h3⟩:=hh
 have z3:3 < ts.size:=(Array.getElem?_eq_some_iff.mp h3).1
 have oth:∀ (x:Value) (b:Addr),b≠T->(s.heap.update T (Obj.mapFields (·.setIfInBounds 3 x))).get? b=s.heap.get? b:=fun x b hb=>Heap.get?_update_other _ _ (Ne.symm hb)
 have i4e:∀ b o,s.heap.get? b=some o->(∀ vs,o.data≠.fields vs)->b≠T:=fun b o hb hnf q=>by
  rw [q,hT] at hb
  cases hb
  exact hnf ts hdT
 unfold PySem.passOn
 refine wpAny_bind (wpAny_field he hd h1 ?_)
 rw [if_neg (show ¬ ((Value.ref T == Value.none)=true) from by simp)]
 refine wpAny_bind (wpAny_mono (f4u.any (E:=fun _ _=>False) (Q:=fun _ s'=>∃ h',s' = { s with heap:=h' }/\g8o base l e cls a0 h'/\s.heap.UpToSlots h') ?_ kd) (fun _ s' z=>?_) fun _ _ z=>z.1.elim)
 ·unfold setFlight
  refine wpAny_bind (wpAny_field he hd h1 ?_)
  rw [if_pos (show (Value.ref T != Value.none)=true from by simp)]
  refine wpAny_setField hT hdT z3 ⟨_,rfl,⟨fun b o hbo=>(oth _ b fun q=>by rw [q,hnT] at hbo; cases hbo).trans (f1 b o hbo),f2,f3.of_keeps fun b o hb hnf=>⟨o,(oth _ b (i4e b o hb hnf)).trans hb,rfl⟩,(cenv.frame.elim Value.none fun f=>rawInt f),oe,vs,T,_,_,(oth _ e (Ne.symm hTe)).trans he,hc,hd,h1,hnT,hTe,Heap.get?_update_self _ hT (Obj.isFreed_of_fields (Obj.data_mapFields hdT _)),Obj.data_mapFields hdT _,by simp [z3]⟩,fun b o hb hnf=>⟨o.slots,(oth _ b (i4e b o hb hnf)).trans hb⟩⟩
 ·obtain⟨⟨h',rfl,a,b⟩,c⟩:=z
  exact wpAny_throw (hE h' a b c)
end
def g2a(X:Cx)(E:XK):Prop:=∀ (pins:List (Addr×Obj)) (σ:St) (a:Addr) (C a0:Value) (B:Heap) (H':Hp) (s':Shared),g8o B X.stack a C a0 s'.heap->(∀ h',B.StaysIn h'->s'.heap.UpToSlots h'->Inv X pins σ H' { s' with heap:=h' })->H' a=none->X.s₀.heap.get? a=none->(∃ dx cx,Kd a (dx,cx) s'.heap/\E C dx H')->X.xe (.ref a) s'
section
variable {P:Program}{w:World}{K:PySem.W.Frag}{mg:Str->Option Value}{base:Heap}{N:List Str}{qual:Str}{scope:Scope}{f:Addr}{cd:Value}{A:Around}{outer:List Env}{s:Shared}{H:Hp}{E:XK}
theorem h1n:g2a (h2q (CXE P w) P w K mg base N qual scope f cd A outer s H E) E:=by
 intro pins σ a C a0 B H' s' hh un hn nw hE
 obtain⟨dx,cx,kd,hE⟩:=hE
 have J:=un s'.heap hh.1 (Heap.UpToSlots.refl _)
 show wpAny (model P w) (A.deeper (envOfC qual scope s.heap.objs.size f cd)) (leaving (envOfC qual scope s.heap.objs.size f cd) (.ref a)) (fun _ s''=>CXE P w outer H s E (.ref a) s'') (fun e' s''=>CXE P w outer H s E e' s'') s'
 refine h3e J.ok.frames rfl hh kd fun h2 fl u kd2=>?_
 exact⟨a,C,a0,B,H',rfl,fl,J.os,J.bare,fun h3 b3 u3=>let J3:=un h3 b3 (u.trans u3); ⟨J3.base,J3.hok⟩,hn,nw,dx,cx,kd2,(fun h=>by cases h),hE⟩
end
noncomputable def putBack(h:Heap)(a:Addr)(o:Obj):Heap:=if a < h.objs.size then h.update a (fun _=>o) else { h with objs:=h.objs++(Array.replicate (a - h.objs.size) { cls:=.none,data:=.freed }) ++ #[o] }
theorem g5p{h:Heap}{a:Addr}{o:Obj}(ho:o.isFreed=false):(putBack h a o).get? a=some o:=by
 unfold putBack
 split
 ·rename_i hl
  refine Heap.get?_some_iff.mpr ⟨?_,ho⟩
  cases h
  simp only [Heap.update,Array.getElem?_modify,if_true]
  rw [Array.getElem?_eq_getElem hl]
  rfl
 ·rename_i hl
  have hl':h.objs.size<=a:=Nat.le_of_not_lt hl
  have hz:(h.objs++Array.replicate (a - h.objs.size) ({ cls:=.none,data:=.freed }:Obj)).size=a:=by
   rw [Array.size_append,Array.size_replicate]
   exact Nat.add_sub_cancel' hl'
  refine Heap.get?_some_iff.mpr ⟨?_,ho⟩
  show (h.objs++Array.replicate (a - h.objs.size) ({ cls:=.none,data:=.freed }:Obj) ++ #[o])[a]? = some o
  rw [Array.getElem?_append_right (Nat.le_of_eq hz),hz,Nat.sub_self]
  rfl
theorem h3g{h:Heap}{a b:Addr}{o:Obj}(hb:b≠a):(putBack h a o).get? b=h.get? b:=by
 unfold putBack
 split
 ·exact Heap.get?_update_other _ _ (Ne.symm hb)
 ·rename_i hl
  have hl':h.objs.size<=a:=Nat.le_of_not_lt hl
  have hz:(h.objs++Array.replicate (a - h.objs.size) ({ cls:=.none,data:=.freed }:Obj)).size=a:=by
   rw [Array.size_append,Array.size_replicate]
   exact Nat.add_sub_cancel' hl'
  apply Option.ext
  intro u
  rw [Heap.get?_some_iff,Heap.get?_some_iff]
  show ((h.objs++Array.replicate (a - h.objs.size) ({ cls:=.none,data:=.freed }:Obj) ++ #[o])[b]? = some u/\_) ↔ _
  rcases Nat.lt_or_ge b h.objs.size with z | z
  ·rw [Array.getElem?_append_left (by rw [hz]; exact Nat.lt_of_lt_of_le z hl'),Array.getElem?_append_left z]
  ·rw [Array.getElem?_eq_none z]
   constructor
   ·rintro ⟨e,f⟩
    exfalso
    rcases Nat.lt_or_ge b a with y | y
    ·rw [Array.getElem?_append_left (by rw [hz]; exact y),Array.getElem?_append_right z,Array.getElem?_replicate,if_pos (Nat.sub_lt_sub_right z y)] at e
     cases e
     cases f
    ·have y':a < b:=Nat.lt_of_le_of_ne y (Ne.symm hb)
     rw [Array.getElem?_append_right (by rw [hz]; exact y),hz,Array.getElem?_eq_none (Nat.sub_pos_of_lt y')] at e
     cases e
   ·rintro ⟨e,_⟩
    cases e
section
variable {X:Cx}{scope:Scope}{x:Str}{pins pl:List (Addr×Obj)}{σ σ':St}{cl:List (Str×Addr)}{s₃ s9 s':Shared}{H3 H9:Hp}{fp:List Addr}{E:XK}{e:Value}{Q:Value->Shared->Prop}{acc:Value}
theorem h3h(hP:g2a X E)(I3:Inv X pins σ H3 s₃)(f3:∀ b∈fp,d7t X pins H3 b)(I9:Inv (b2s X scope cl s₃.heap.objs.size s₃ H3 fp x) pl σ' H9 s9)(hfp:∀ b∈fp,∃ o,s9.heap.get? b=some o)(cx:CXE X.prog X.w X.stack H9 s9 E e s')
  (hst:X.stack=X.env :: X.outer) (hfr:X.env.frame=some X.env.locals) (hex:X.ex = []) :
  notedBy (model X.prog X.w) X.A (compEnvC scope cl s₃.heap.objs.size X.env) (fun e s''=>compPost (model X.prog X.w) X.A X.xe none Q acc s₃.heap.objs.size (.error e) s'') e s':=by
 obtain⟨a,C,a0,B,H',rfl,fl,os,bare,un,hn,nw,dx,cx',kd,_,hE⟩:=cx
 show wpAny _ _ (noteFrame (.ref a) (compEnvC scope cl s₃.heap.objs.size X.env)) _ _ s'
 rw [h3d (env:=compEnvC scope cl s₃.heap.objs.size X.env) (env':=X.env) rfl]
 have hA:X.A.frames=some (X.env :: X.outer):=by rw [<- hst]; exact I3.ok.frames
 rw [hst] at fl
 refine f4o hA hfr fl kd fun h4 hd4 sm4 kd4=>?_
 obtain⟨Cc,eC⟩:∃ Cc,s₃.heap.objs.size=Cc:=⟨_,rfl⟩
 -- the block's own names
 obtain⟨m,⟨oc,es,ep,hoc,hdc,hrest⟩,_⟩:=I9.loc
 have hfree:H9 s₃.heap.objs.size=none:=I9.free
 have hoc:s9.heap.get? s₃.heap.objs.size=some oc:=hoc
 have nfs:s₃.heap.objs.size∉frs X.stack:=fun hb=>by
  obtain⟨_,o,ho,_⟩:=I3.stack.mem hb
  exact absurd (Heap.lt_size ho) (Nat.lt_irrefl _)
 have ua:∀ h',B.StaysIn h'->s'.heap.UpToSlots h'->h'.get? s₃.heap.objs.size=some oc:=fun h' b u=>(un h' b u).1.keep _ _ hoc hfree nfs (by simp)
 have hs':s'.heap.get? s₃.heap.objs.size=some oc:=ua _ fl.1 (Heap.UpToSlots.refl _)
 have h4c:h4.get? s₃.heap.objs.size=some oc:=ua _ hd4.1 sm4
 have nfl:∀ vs,oc.data≠.fields vs:=fun vs q=>by rw [hdc] at q; cases q
 have j3g:H' s₃.heap.objs.size=none:=(un _ hd4.1 sm4).1.free _ _ hoc hfree (by simp)
 refine⟨m,⟨oc,es,ep,h4c,hdc,hrest⟩,fun h5 sb cenv hce=>?_⟩
 have k5:∀ b,b≠s₃.heap.objs.size->h5.get? b=h4.get? b:=sb.2
 obtain⟨f1,f2,f3',oe,vs,T,oT,ts,he,hc,hd,h1,hnT,hTe,hT,hdT,h3⟩:=hd4
 have nr:∀ {b:Addr} {o:Obj} {ws:Array Value},h4.get? b=some o->o.data = .fields ws->b≠s₃.heap.objs.size:=fun {b o ws} hb hd q=>by
  rw [q,h4c] at hb
  cases hb
  exact nfl ws hd
 -- the ground without the block's names
 have hB:∀ b o,(PySem.W.hideAll B [s₃.heap.objs.size]).get? b=some o->B.get? b=some o/\b≠s₃.heap.objs.size:=fun b o q=>⟨PySem.W.of_hideAll _ q,fun z=>by
  rw [z,PySem.W.hideAll_none _ (by simp)] at q
  cases q⟩
 have no:∀ {b:Addr},B.get? b=none->(PySem.W.hideAll B [s₃.heap.objs.size]).get? b=none:=fun {b} q=>by
  cases z:(PySem.W.hideAll B [s₃.heap.objs.size]).get? b with
  | none=>rfl
  | some o=>rw [(hB b o z).1] at q; cases q
 have ff:∀ {l:List Env},(∀ b∈frs l,b∈frs X.stack)->h4.FunFrames B l->h5.FunFrames (PySem.W.hideAll B [s₃.heap.objs.size]) l:=by
  intro l
  induction l with
  | nil=>intro _ _; trivial
  | cons en r ih =>
   intro hs hl
   obtain⟨hk,⟨L,o,hf,hnn,ho,hdd⟩,hr⟩:=hl
   have hL:L∈frs X.stack:=hs L (List.mem_filterMap.mpr ⟨en,List.mem_cons_self,hf⟩)
   refine⟨hk,⟨L,o,hf,no hnn,(k5 L fun z=>nfs (by rw [<- z]; exact hL)).trans ho,hdd⟩,ih (fun b hb=>hs b ?_) hr⟩
   obtain⟨en',h1,h2⟩:=List.mem_filterMap.mp hb
   exact List.mem_filterMap.mpr ⟨en',List.mem_cons_of_mem _ h1,h2⟩
 rw [<- hst] at f3'
 have HA:g8o (PySem.W.hideAll B [s₃.heap.objs.size]) X.stack a C a0 h5 :=
  ⟨fun b o q=>(k5 b (hB b o q).2).trans (f1 b o (hB b o q).1),no f2,ff (fun _ z=>z) f3',_,oe,vs,T,oT,ts,(k5 _ (nr he hd)).trans he,hc,hd,h1,no hnT,hTe,(k5 _ (nr hT hdT)).trans hT,hdT,h3⟩
 have kd5:Kd a (dx,cx') h5:=by
  obtain⟨o,q1,q2⟩:=kd4
  rw [he] at q1
  cases q1
  exact⟨oe,(k5 _ (nr he hd)).trans he,q2⟩
 refine h3f (s:={ s' with heap:=h5 }) HA kd5 fun h6 HA6 sm6 kd6=>?_
 have nw0:X.s₀.heap.get? a=none:=by
  refine I3.older hex ?_
  cases q:s₃.heap.get? a with
  | none=>rfl
  | some o =>
   have nfp:a∉fp:=fun hb=>by
    obtain⟨o',z⟩:=hfp a hb
    rw [nw] at z
    cases z
   obtain⟨o',z⟩:=I9.base.there a o q nfp
   rw [nw] at z
   cases z
 refine hP pins σ a C a0 _ H' { s' with heap:=h6 } HA6 (fun h7 b7 u7=>?_) hn nw0 ⟨dx,cx',kd6,hE⟩
 -- the block's names put back
 have k8:∀ b,b≠s₃.heap.objs.size->(putBack h7 s₃.heap.objs.size oc).get? b=h7.get? b:=fun b hb=>h3g hb
 have c8:(putBack h7 s₃.heap.objs.size oc).get? s₃.heap.objs.size=some oc:=g5p (Heap.get?_some_iff.mp hs').2
 have st8:B.StaysIn (putBack h7 s₃.heap.objs.size oc):=fun b o q=>by
  by_cases hb:b=s₃.heap.objs.size
  ·subst hb
   rw [c8,<- hs']
   exact fl.1 _ _ q
  ·rw [k8 b hb]
   exact b7 b o (PySem.W.hideAll_get _ q (by simp [hb]))
 have up8:s'.heap.UpToSlots (putBack h7 s₃.heap.objs.size oc):=fun b o q nf=>by
  by_cases hb:b=s₃.heap.objs.size
  ·subst hb
   rw [hs'] at q
   cases q
   exact⟨oc.slots,c8⟩
  ·obtain⟨s4,e4⟩:=sm4 b o q nf
   have e5:h5.get? b=some { o with slots:=s4 }:=(k5 b hb).trans e4
   obtain⟨s6,e6⟩:=sm6 b _ e5 nf
   obtain⟨s7,e7⟩:=u7 b _ e6 nf
   exact⟨s7,(k8 b hb).trans e7⟩
 obtain⟨U,ok8⟩:=un _ st8 up8
 have u9:=I9.base
 have nb:∀ {b:Addr} {o:Obj},s₃.heap.get? b=some o->b≠s₃.heap.objs.size:=fun q=>Nat.ne_of_lt (Heap.lt_size q)
 have U':Un (frs X.stack) fp H3 H' s₃.heap (putBack h7 s₃.heap.objs.size oc) :=
  Un.trans u9 ⟨fun b o e n hb _=>U.keep b o e n hb (by simp),fun b o e n hb _=>U.slot b o e n hb (by simp),fun b o e n _=>U.free b o e n (by simp),fun b o e _=>U.there b o e (by simp),U.tups,U.g0a,U.g1p⟩
 have U7:Un (frs X.stack) fp H3 H' s₃.heap h7 :=
  ⟨fun b o e n hb hx=>(k8 b (nb e)).symm.trans (U'.keep b o e n hb hx),fun b o e n hb hx=>(U'.slot b o e n hb hx).elim fun sl q=>⟨sl,(k8 b (nb e)).symm.trans q⟩,U'.free,fun b o e hx=>(U'.there b o e hx).elim fun o' q=>⟨o',(k8 b (nb e)).symm.trans q⟩,U'.tups,U'.g0a,U'.g1p⟩
 have nC:∀ {b:Addr} {o:HO},H' b=some o->b≠s₃.heap.objs.size:=fun {b o} q z=>by rw [z,j3g] at q; cases q
 have ok7:HOk X.prog X.w H' h7:=fun b o q=>(ok8 b o q).stay (fun c v hc r=>(k8 c (hc.elim (fun z=>by rw [z]; exact nC q) nC)).symm.trans r) (fun _ z=>z) fun _ _ z=>z
 exact I3.call' (s':={ s' with heap:=h7 }) (ch:=fp) (os.trans I9.os) U7 ok7 bare fun b hb=>⟨(f3 b hb).2.2.2.1,(f3 b hb).2.1,(f3 b hb).2.2.2.2.1,(f3 b hb).2.2.2.2.2⟩
end
section
variable {X:Cx}{scope:Scope}{x:Str}{pins:List (Addr×Obj)}{σ:St}{elt iter:Expr}{px pos:Pos}{wi:TI}{te:TE}
theorem g8p{s₂:Shared}{H1:Hp}{it:Addr}{fp:List Addr}{tn:Nat->Heap->Prop}{J:It}{Q:VK}{RR:Value->Addr->Result->Shared->Prop}{E:Value->Shared->Prop}{Ee:XK}{cl:List (Str×Addr)}
  (S:c4p X scope x) (hc:X.calm=true) (he:∀ cl C s₃ H₃ fp,PEX (b2s X scope cl C s₃ H₃ fp x) elt te Ee)
  (hcl:∀ y c,cl.lookup y=some c->(y,NameKind.free)∈scope.names/\X.env.cells.lookup y=some c) (hcl2:∀ y,(y,NameKind.free)∈scope.names->cl.lookup y=X.env.cells.lookup y)
  (I2:Inv X pins σ H1 s₂) (T:Turn X.prog X.w X.K (.Name x px) J fp it tn) (st2:tn 0 s₂.heap) (f2:∀ b∈fp,d7t X pins H1 b) (h:∀ D H2,H1 D=none->Same H1 H2->H2 D=some (.lst [])->f8q J te D σ H2 Q ⟨⟩)
  (hRR:∀ (D C:Addr) (s':Shared) (H':Hp),(∃ m,s'.heap.Ns C m)->(∀ h' ,Heap.SameBut C s'.heap h'->Inv X pins σ H' { s' with heap:=h' })->d7t X pins H' C->Q (.ref D) H'->RR (.ref D) C (.ok .next) s')
  (hXX:∀ (D:Addr) (s₃ s9 s':Shared) (H3 H9:Hp) (pl:List (Addr×Obj)) (σ':St) (e:Value),Inv X pins σ H3 s₃->(∀ b∈fp,d7t X pins H3 b)->Inv (b2s X scope cl s₃.heap.objs.size s₃ H3 fp x) pl σ' H9 s9->(∀ b∈fp,∃ o,s9.heap.get? b=some o)->CXE X.prog X.w X.stack H9 s9 Ee e s'->notedBy (model X.prog X.w) X.A (compEnvC scope cl s₃.heap.objs.size X.env) (fun e s''=>RR (.ref D) s₃.heap.objs.size (.error e) s'') e s') :
  wpAny (model X.prog X.w) X.A (newList []) (fun acc s₃=>wpAny (model X.prog X.w) X.A (newFunctionEnv scope X.env.globals cl [] X.env.qual none .none (some X.env)) (fun cenv s₄ =>
   codeAny (model X.prog X.w) X.A (.compStart (.ListComp elt [⟨.Name x px,iter,[],0⟩] scope pos) 0 (.ref it) acc { cenv with scope:=relabel scope X.env }) (RR acc cenv.locals) s₄) E s₃) E s₂:=by
 have hfr:H1 s₂.heap.objs.size=none:=I2.hok.fresh (Nat.le_refl _)
 have hCW:=h s₂.heap.objs.size _ hfr (Same.upd hfr) a6m
 refine wpAny_newObj_type ?_
 have I3:Inv X pins σ (upd H1 s₂.heap.objs.size (.lst [])) { s₂ with heap:=s₂.heap.push { cls:=.type "list",data:=.seq ([] : List Value).toArray },toks:=s₂.toks } :=
  I2.laid (t':=s₂.toks) (fun b u e=>Heap.get?_push_of_some _ e) (Nat.le_refl _) ⟨Nat.zero_le _,[],0,.nil,Heap.get?_push_size _ rfl⟩
 have nD:∀ b∈fp,b≠s₂.heap.objs.size:=fun b hb=>by
  obtain⟨o,e,_⟩:=T.obj 0 _ st2 b hb
  exact Nat.ne_of_lt (Heap.lt_size e)
 have f3:∀ b∈fp,d7t X pins (upd H1 s₂.heap.objs.size (.lst [])) b:=fun b hb=>⟨by rw [a7m (nD b hb)]; exact (f2 b hb).1,(f2 b hb).2⟩
 generalize hH3:upd H1 s₂.heap.objs.size (.lst [])=H3 at *
 have st3:tn 0 (s₂.heap.push { cls:=.type "list",data:=.seq ([] : List Value).toArray }):=T.keep _ _ _ st2 fun b _ o e=>Heap.get?_push_of_some _ e
 have g8a:∀ b∈fp,b < (s₂.heap.push { cls:=.type "list",data:=.seq ([] : List Value).toArray }).objs.size:=fun b hb=>by
  obtain⟨o,e,_⟩:=T.obj 0 _ st3 b hb
  exact Heap.lt_size e
 show wpAny (model X.prog X.w) X.A (newFunctionEnv scope X.env.globals cl [] X.env.qual none .none (some X.env)) _ E { s₂ with heap:=s₂.heap.push { cls:=.type "list",data:=.seq ([] : List Value).toArray },toks:=s₂.toks }
 generalize hs3:({ s₂ with heap:=s₂.heap.push { cls:=.type "list",data:=.seq ([] : List Value).toArray },toks:=s₂.toks }:Shared)=s₃ at *
 have eh:s₃.heap=s₂.heap.push { cls:=.type "list",data:=.seq ([] : List Value).toArray }:=by rw [<- hs3]
 rw [<- eh] at st3 g8a
 generalize s₂.heap.objs.size=D at *
 refine wpAny_newFunctionEnv S.d2u (by intro y hy; simp at hy) (fun h₁ hns₁ hsb₁=>?_) S.kind
 have hk1:∀ b o,s₃.heap.get? b=some o->h₁.get? b=some o:=fun b o e=>hsb₁.extBut b o (Nat.ne_of_lt (Heap.lt_size e)) (Heap.get?_push_of_some _ e)
 have J0:Inv (b2s X scope cl s₃.heap.objs.size s₃ H3 fp x) [] (none :: σ) H3 { s₃ with heap:=h₁,toks:=s₃.toks+([] : List (Str×Value)).length }:=I3.comp S hcl hcl2 f3 g8a hns₁ hk1 rfl rfl
 obtain⟨n0,W,w0,turn⟩:=hCW
 have loop:codeAny (model X.prog X.w) X.A (.compLoop (.ListComp elt [⟨.Name x px,iter,[],0⟩] scope pos) 0 (.ref it) (.ref D) (compEnvC scope cl s₃.heap.objs.size X.env)) (RR (.ref D) s₃.heap.objs.size) { s₃ with heap:=h₁,toks:=s₃.toks+([] : List (Str×Value)).length }:=by
  refine codeAny_loop rfl (fun n s'=>∃ i ys o H',Inv (b2s X scope cl s₃.heap.objs.size s₃ H3 fp x) [] (o :: σ) H' s'/\tn i s'.heap/\(∀ b∈fp,H' b=none)/\W i ys H'/\i<=n0/\n=n0 - i) (fun n s5 hI=>?_) n0
   ⟨0,[],none,H3,J0,T.keep _ _ _ st3 (fun b _ o e=>hk1 b o e),fun b hb=>(f3 b hb).1,w0,Nat.zero_le _,rfl⟩
  obtain⟨i,ys,o5,H5,I5,st5,fr5,w5,hin,hnn⟩:=hI
  have stat:∀ {H':Hp},(∀ b∈fp,H' b=none)->∀ b∈fp,d7t (b2s X scope cl s₃.heap.objs.size s₃ H3 fp x) [] H' b:=fun hn b hb =>
   ⟨hn b hb,Nat.ne_of_lt (g8a b hb),fun z=>(List.mem_cons.mp (I3.d5q b z)).elim (fun q=>(f3 b hb).2.1 q) fun q=>(f3 b hb).2.2.1 q,.inl hb,fun y c e=>(f3 b hb).2.2.2.2.1 y c (hcl y c e).2,fun p hp=>absurd (show p∈([] : List (Addr×Obj)) from hp) (by simp)⟩
  show wpAny _ X.A ((compTurn (.ListComp elt [⟨.Name x px,iter,[],0⟩] scope pos) 0 (.ref it) (.ref D) (compEnvC scope cl s₃.heap.objs.size X.env)).onRaise (fun x=>do noteFrame x (compEnvC scope cl s₃.heap.objs.size X.env); theTreesLotGoes x)) _ _ s5
  refine wpAny_noted ?_
  rw [compTurn_list1]
  refine wpAny_bind (wpAny_standAt (wpAny_bind ?_))
  obtain⟨hD5,alt⟩:=turn i ys H5 hin w5
  rcases alt with ⟨stop,q⟩ | ⟨hlt,go,hsz,step⟩
  ·refine wpAny_mono (T.done (b2s X scope cl s₃.heap.objs.size s₃ H3 fp x) rfl rfl rfl hc i [] s5 _ H5 _ I5 (stat fr5) st5 stop) (fun r s6 ⟨hr,I6⟩=>?_) fun _ _ z=>z
   subst hr
   refine wpAny_pure ?_
   obtain⟨m6,hn6,_⟩:=I6.loc
   exact hRR D s₃.heap.objs.size s6 H5 ⟨m6,hn6⟩ (fun h' hs'=>I3.i3k f3 I6 hs') (I3.i5g (Nat.le_refl _) I6.free) q
  ·refine wpAny_mono (T.item (b2s X scope cl s₃.heap.objs.size s₃ H3 fp x) rfl rfl rfl hc i [] s5 _ H5 _ I5 (stat fr5) st5 go) (fun r s6 ⟨u,hr,h6⟩=>?_) fun _ _ z=>z
   subst hr
   refine wpAny_bind (wpAny_mono h6 (fun _ s7 ⟨v,H7,I7,r7,y7,st7,fr7⟩=>?_) fun _ _ z=>z)
   have I7':=I7.pinned (stat fr7) (T.obj _ _ st7)
   have G:=a5n (X:=b2s X scope cl s₃.heap.objs.size s₃ H3 fp x) (pos:=px) (i:=0) (x:=x) S.nd rfl (.inl (lookup_relabel_local S.own)) (.inr (lookup_relabel_local S.own))
   refine wpAny_bind (wpAny_mono (G _ s7 _ H7 v u (fun σ' H'=>σ'=some v :: σ/\H'=H7) I7' r7 ⟨rfl,rfl⟩) (fun _ s8 hs8=>?_) fun _ _ z=>False.elim z)
   obtain⟨σ8,H8,I8,rfl,rfl⟩:=hs8
   refine wpAny_bind (wpAny_bind (wpAny_mono (he cl s₃.heap.objs.size s₃ H3 fp _ s8 _ _ _ I8 (step v H8 y7)) (fun yv s9 hs9=>?_) fun e s' z=>?_))
   rotate_left
   ·obtain⟨Hx,sx,Ix,cx⟩:=z
    refine hXX D s₃ sx s' H3 Hx _ _ e I3 f3 Ix (fun b hb=>?_) cx
    obtain⟨o,e,d⟩:=T.obj _ _ st7 b hb
    exact⟨o,(Ix.pin (b,o) (List.mem_append_right _ (List.mem_append_right _ (b0u hb e)))).1⟩
   obtain⟨y,H9,I9,r9,hD9,k9⟩:=hs9
   refine wpAny_bind (wpAny_mono (d3g (X:=b2s X scope cl s₃.heap.objs.size s₃ H3 fp x) _ s9 _ H9 (.ref D) [y] (.ref D) [yv] (fun _ H'=>H'=upd H9 D (.lst (ys++[y]))) I9 rfl (.cons r9 .nil) ⟨D,ys,y,rfl,rfl,hD9,hsz,rfl⟩) (fun _ sA hsA=>?_) fun _ _ z=>False.elim z)
   obtain⟨_,HA,IA,_,rfl⟩:=hsA
   refine wpAny_pure ?_
   have wA:=k9 _ a6t.upd a6m
   refine wpAny_pure ⟨rfl,n0 - (i+1),by omega,i+1,ys++[y],some v,_,IA.d0z (pins:=[]) (pl:=f1u fp s7.heap),T.keep _ _ _ st7 (fun b hb o e=>(IA.pin (b,o) (List.mem_append_right _ (List.mem_append_right _ (b0u hb e)))).1),fun b hb=>?_,wA,hlt,rfl⟩
   obtain⟨o,e,d⟩:=T.obj _ _ st7 b hb
   exact (IA.pin (b,o) (List.mem_append_right _ (List.mem_append_right _ (b0u hb e)))).2.1
 exact codeAny_compStart_list loop (T.self _ 0 _ _ _ (T.keep _ _ _ st3 fun b _ o e=>hk1 b o e) loop)
theorem i1a{Ee:XK}(hP:g2a X Ee)(hi:PI X (.Name x px) iter wi)(he:∀ cl C s₃ H₃ fp,PEX (b2s X scope cl C s₃ H₃ fp x) elt te Ee)(S:c4p X scope x)(hc:X.calm=true)(hst:X.stack=X.env :: X.outer:=by rfl)(hfr:X.env.frame=some X.env.locals:=by rfl)(hex:X.ex = []:=by rfl)
  (hs:∀ x,foldedSetIterable iter X.env x=pure x:=by intro _; rfl):PE X (.ListComp elt [⟨.Name x px,iter,[],0⟩] scope pos) (i6b wi te):=by
 intro pins s σ H Q I h
 obtain⟨cl,hclos,hcl,hcl2⟩:=c3v (env:=X.env) (sc:=scope) fun y hy=>I.ok.has y (S.free _ hy rfl)
 rw [eval_ListComp]
 refine wpAny_comprehension_free (use:=none) rfl hs hclos S.kind S.loc ?_
 refine thn (hi pins s σ H _ I h) fun v s1 h1=>thn h1 fun itv s2 h2=>?_
 obtain⟨it,fp,tn,J,H2,e,I2,T,st2,f2,hW⟩:=h2
 subst e
 refine g8p (RR:=fun acc C=>compPost (model X.prog X.w) X.A X.xe none (EP X pins σ Q) acc C) S hc he hcl hcl2 I2 T st2 f2 hW (fun D C s' H' hm hI _ hq =>
  hm.elim fun m hn=>⟨m,hn,fun h' hs'=>⟨.ref D,H',hI h' hs',rfl,hq⟩⟩) ?_
 exact fun D s₃ s9 s' H3 H9 pl σ' e I3 f3 I9 hfp cx=>h3h hP I3 f3 I9 hfp cx hst hfr hex
end
end L2
namespace L2
open PySem PySem.Spec PyProof.Rows
section
variable {X:Cx}{E:XK}{st:Stmt}{t u:TS}{pos:Pos}
end
section
variable {X:Cx}
noncomputable def upS(z:Str):Str:=⟨placed z fun _ c=>Unicode.upperOf c⟩
noncomputable def rUpF:V->List V->Hp->VK->Prop:=fun x vs H Q=>match x,vs with
 | .str z,[]=>PySem.Builtin.Str.tooLong (upS z).cps.size=false/\(upS z).length<=sizeLine/\Q (.str (upS z)) H
 | _,_=>False
noncomputable def rIdxF:V->List V->Hp->VK->Prop:=fun x vs H Q=>match x,vs with
 | .ref l,[y]=>(match H l with
  | some (.lst xs)=>b5h y=true/\xs.all b5h=true/\∃ j:Nat,j < xs.length/\(∃ z,xs[j]? = some z/\eqV z y=true)/\(∀ (m:Nat) z,m < j->xs[m]? = some z->eqV z y=false)/\Q (.int j) H
  | _=>False)
 | _,_=>False
end
end L2
namespace L2
open PySem PySem.Spec PyProof.Rows PySem.SeqAt PySem.AutoSeq1
open PySem.MeetsSeq
theorem g8q(b:Str)(u:Tok)(l:Addr)(es:Array DictEntry)(ep:Nat)(dd:Option Addr)(sl:Array (Option Value)) :
  Meets (Builtin.«str.__eq__» ⟨[.str b u, .ref l], []⟩) (fun _ R s => s.heap.get? l = some { cls := .type "dict", dict := dd, data := .dict es ep, slots := sl } ∧ R (.ok (.ret .notImplemented)) s) :=
 .of_wp fun prog w A R s h=>by obtain⟨hp,g,d,tk,os⟩:=s; obtain⟨hl,h⟩:=h; have f1:=F.sub_dict_str; wp_walk using wpAny_loadPart' hl; exact⟨_,rfl,h⟩
theorem g8r(b:Str)(u:Tok)(l:Addr)(es:Array DictEntry)(ep:Nat)(dd:Option Addr)(sl:Array (Option Value)) :
  Meets (Builtin.«dict.__eq__» ⟨[.ref l, .str b u], []⟩) (fun _ R s => s.heap.get? l = some { cls := .type "dict", dict := dd, data := .dict es ep, slots := sl } ∧ R (.ok (.ret .notImplemented)) s) :=
 .of_wp fun prog w A R s h=>by obtain⟨hp,g,d,tk,os⟩:=s; obtain⟨hl,h⟩:=h; have f1:=F.sub_str_dict; wp_walk using wpAny_loadPart' hl; exact⟨_,rfl,h⟩
theorem g8s{A:Around}{s:Shared}{b:Str}{u:Tok}{l:Addr}{es:Array DictEntry}{ep:Nat}{dd:Option Addr}{sl:Array (Option Value)}(ho:s.heap.get? l=some { cls:=.type "dict",dict:=dd,data:=.dict es ep,slots:=sl })(hu:A.units < cLine):EqAt A s (.str b u) (.ref l) false:=fun prog w E Q h=>by
 have rc:∀ (E:Value->Shared->Prop) (Q:Value->Shared->Prop),Q (.bool false) s->wpAny (model prog w) A (richCompare .Eq (.str b u) (.ref l)) Q E s:=fun E Q h =>
  rc_eq_decline_or (k:=false) (typeIs_str s b u) ⟨_,ho,rfl⟩ (by decide) F.sub_dict_str F.slot_str_eq F.slot_dict_eq_refl
   (fun _ hq=>call_meets F.slot_str_eq (typeIs_str s b u) F.entry_str_eq (F.args_str_eq_2 _ _) (g8q b u l es ep dd sl) ⟨ho,hq⟩)
   (fun _ hq=>call_meets F.slot_dict_eq_refl ⟨_,ho,rfl⟩ F.entry_dict_eq (F.args_dict_eq_2 _ _) (g8r b u l es ep dd sl) ⟨ho,hq⟩)
   (fun _ hq=>wpAny_of_eq (rfl:isSame (.str b u) (.ref l)=pure false) hq) (.inr hu) h
 unfold eqBool
 refine wpAny_holding ?_
 refine wpAny_ite_split (fun hab=>absurd (eq_of_beq hab) nofun) (fun _=>?_)
 exact wpAny_bind (rc E _ (wpAny_truthy_bool h))
noncomputable def j3h:V->Bool
 | .str _=>true
 | _=>false
noncomputable def i4f(H:Hp):V->Bool
 | .ref r=>(match H r with
  | some (.lst _)=>true
  | some (.tup _)=>true
  | some (.dK _)=>true
  | _=>false)
 | _=>false
def rInO(neg:Bool):R2:=fun x y H Q=>match y with
 | .ref p=>(match H p with
  | some (.lst xs)=>xs.all j3h=true/\((b5h x=true/\Q (.bl (inV x xs != neg)) H)\/(i4f H x=true/\Q (.bl neg) H))
  | _=>False)
 | _=>False
theorem g5q:∀ {xs:List V},xs.all j3h=true->xs.all b5h=true
 | [],_=>rfl
 | x :: xs,h=>by
  rw [List.all_cons,Bool.and_eq_true] at h ⊢
  refine⟨?_,g5q h.2⟩
  cases x <;> first | rfl | exact absurd h.1 Bool.false_ne_true
section
variable {X:Cx}
theorem h1o{pins:List (Addr×Obj)}{σ:St}{H:Hp}{s:Shared}{A:Around}{r:Addr}(I:Inv X pins σ H s)(ho:i4f H (.ref r)=true)(hu:A.units < cLine):∀ {xs:List V} {us:List Value},Vals xs us->xs.all j3h=true->∀ u∈us,EqAt A s u (.ref r) false
 | _,_,.nil,_=>fun u hu=>by cases hu
 | x :: xs,u :: us,.cons rv t,f=>fun u' hm=>by
  rw [List.all_cons,Bool.and_eq_true] at f
  rcases List.mem_cons.mp hm with rfl | hm
  ·cases x with
   | str z =>
    obtain⟨tk,rfl⟩:=rv
    have ho':(match H r with | some (.lst _)=>true | some (.tup _)=>true | some (.dK _)=>true | _=>false)=true:=ho
    split at ho'
    ·rename_i ys e
     obtain⟨_,its,n,_,h1⟩:=(show b0p X.prog X.w H s.heap r (.lst ys) from I.hok r _ e)
     exact EqAt.str_list z tk ⟨_,h1,rfl,n,rfl⟩ hu
    ·rename_i ys e
     obtain⟨_,its,_,p⟩:=(show b0p X.prog X.w H s.heap r (.tup ys) from I.hok r _ e)
     exact EqAt.str_tuple z tk p hu
    ·rename_i kvs e
     obtain⟨_,_,vs,_,o,es,ep,h1,h2,h3⟩:=(show b0p X.prog X.w H s.heap r (.dK kvs) from I.hok r _ e)
     obtain⟨oc,od,oda,osl⟩:=o
     obtain⟨c1,c2,c3⟩:=h2
     dsimp only at c1 c2 c3 h3
     obtain⟨c4,_⟩:=h3
     subst c1 c2 c3 c4
     exact g8s h1 hu
    ·cases ho'
   | _=>exact absurd f.1 Bool.false_ne_true
  ·exact h1o I ho hu t f.2 u' hm
theorem c4r(hu:X.A.units+64 < cLine):OpR X (compareOp .NotIn) (rInO true):=by
 intro pins s σ H x y v u Q I rx ry h
 cases y with
 | ref p =>
  have h':(match H p with
   | some (.lst xs)=>xs.all j3h=true/\((b5h x=true/\Q (.bl (inV x xs != true)) H)\/(i4f H x=true/\Q (.bl true) H))
   | _=>False):=h
  split at h'
  ·rename_i xs e
   obtain⟨hs,h'⟩:=h'
   rcases h' with ⟨fx,q⟩ | ⟨ho,q⟩
   ·rw [Bool.bne_true] at q
    exact d2z pins s σ H _ _ v u Q I rx ry ⟨p,xs,rfl,.inl (SqL.of e),fx,g5q hs,by simpa using q⟩
   ·cases x with
    | ref r =>
     cases (show v=Value.ref r from rx)
     cases ry
     obtain⟨its,rv,pl,hz⟩:=I.list (SqL.of e)
     refine SeqAt.notIn_listAt (fun _=>false) pl.isList (fun w hw=>h1o (A:=X.A.in1) I ho (by show X.A.units+1 < cLine; omega) rv hs w (by simpa using hw)) ⟨.bl true,H,I,?_,q⟩
     show _=Value.bool true
     simp
    | _=>exact absurd (show false=true from ho) Bool.false_ne_true
  ·exact h'.elim
 | _=>exact False.elim h
end
end L2
namespace L2
open PySem PySem.Spec PyProof.Rows
def k1x(X:Cx)(pins:List (Addr×Obj))(σ:St)(E:XK)(e:Value)(s':Shared):Prop:=∃ H1 s1,Inv X pins σ H1 s1/\CXF true X.prog X.w X.stack H1 s1 E e s'
def k1y(X:Cx)(e:Expr)(t:TE)(E:XK):Prop :=
 ∀ (pins:List (Addr×Obj)) (s:Shared) (σ:St) (H:Hp) (Q:VK),Inv X pins σ H s->t σ H Q->wpAny (model X.prog X.w) X.A (eval e X.env) (EP X pins σ Q) (k1x X pins σ E) s
def k1z(X:Cx)(st:Stmt)(t:TS)(E:XK):Prop :=
 ∀ (pins:List (Addr×Obj)) (s:Shared) (σ:St) (H:Hp) (D:Ends),Inv X pins σ H s->t D σ H->wpAny (model X.prog X.w) X.A (exec st X.env) (SP X pins D) (k1x X pins σ E) s
theorem Fun.okN{P:Program}{w:World}{K:PySem.W.Frag}{mg:Str->Option Value}{base:Heap}{N:List Str}{qual:Str}{f:Addr}{x:Str}{st:Stmt}{fd:FuncData}{ps:List Str}{k:Nat}{sp:Sp}(F:Fun K x qual st f fd)(S:a1n N ps (a0r st))(len:∀ vs H Q E,sp vs H Q E->vs.length=ps.length)
  (hbody:∀ (cdv:Value) (A:Around) (outer:List Env) (s:Shared) (H:Hp) (vs:List V) (Q:VK) (E:XK),c7p k (A.deeper (envOfC qual (a0r st) s.heap.objs.size f cdv))->sp vs H Q E ->
   ∃ t,PSs (h2q (CXF true P w) P w K mg base N qual (a0r st) f cdv A outer s H E) (d6k st) t/\t { nx:=fun _ H'=>Q .non H',rt:=Q } (start N vs) H):a2m P w K mg base (CXF true P w) (k+1) f fd ps sp:=by
 obtain⟨oc,od,kV,doc,pm,an,cdv,ct,osl,rfl,lk,hcd⟩:=F.ex
 exact i5n lk hcd S len fun A outer s H vs Q E hr hsp=>hbody cdv A outer s H vs Q E hr hsp
section
variable {X:Cx}{k:Nat}{f C:Addr}{fd:FuncData}{ps:List Str}{sp:Sp}{dvs:List V}{ds:List Value}{E:XK}{x m:Str}{p pos apos:Pos}{e o:Expr}{es:List Expr}{ta:TE}{t:TA}
theorem h7h(F:a2m X.prog X.w X.K X.mg X.base (CXF true X.prog X.w) k f fd ps sp)(hr:c7p k X.A)(hg:Gl X x)(hm:X.mg x=some (.ref f))(hk:PySem.W.keepIn X.K (.ref f)=true)(hb:Binds X.K fd ps ds)(hd:Vals dvs ds)
  (ha:PA X.nox (e :: es) t) (hdb:(x == ("__debug__":Str))=false:=by decide) (he:starEach (e :: es) X.env=(false,eval e X.env) :: starEach es X.env:=by rfl) (hpl:(backTo pos (starEach es X.env)).any (·.1)=false:=by rfl) :
  k1y X (.Call (.Name x p) (e :: es) [] pos) (h9v sp dvs E t) E:=by
 intro pins s σ H Q I h
 refine wpAny_Call_Name_kw (c1v I hg hm ?_ hdb)
 refine PySem.W.callWith_K (h₀:=X.base) I.ok.mod.kin hk (wpAny_mono (ha pos pins s σ H _ (I.wish _) h) (fun us s1 ⟨vs,H1,I1,r,q⟩=>⟨I1.c3h.kIn,?_⟩) fun _ _ z=>False.elim z) he hpl
 have I2:=I1.c3h
 have r2:Vals (vs++dvs) (us++ds):=r.append hd
 have hl:(us++ds).length=ps.length:=by rw [<- r2.length]; exact F.len _ _ _ _ q
 refine wpAny_call (codeAny_mono (F.run X.A X.stack s1 H1 ⟨us,[]⟩ (us++ds) (vs++dvs) Q E hr I2.env0 (hb s1 us I2.kIn hl) r2 q) fun r s' hq=>?_)
 cases r with
 | error e=>exact⟨H1,s1,I2,hq⟩
 | ok fl =>
  cases fl with
  | ret u=>exact I2.after hq
  | next=>exact False.elim hq
  | brk=>exact False.elim hq
  | cont=>exact False.elim hq
theorem i1b{i:Nat}{y:Str}{te:TE}{pos':Pos}(hN:X.N.Nodup)(hi:X.N[i]? = some y)(hx:Loc X.env.scope y)(he:k1y X e te E)(hs:swapsWith e (some (.Name y pos')) pos.line X.env=pure false:=by rfl)(hf:X.fn y=true\/X.env.scope.names.lookup y=some .local:=by first | exact .inl rfl | exact .inr rfl | assumption) :
  k1z X (.Assign [.Name y pos'] e pos) (i9m te (h5i i)) E:=by
 intro pins s σ H D I h
 refine wpAny_Assign_Name (thn (he pins s σ H _ I h) fun v s1 ⟨z,H1,I1,r1,q1⟩=>?_) hs
 exact f3m I1 hN hi hx r1 (fun s2 I2=>⟨_,H1,I2,q1⟩) hf
end
theorem g2b : entryFor table "proto.unchain" = some Builtin.«proto.unchain» := entryFor_of_tree (by kernel_rfl)
section
variable {prog:Program}{w:World}{A:Around}{E:Value->Shared->Prop}{s:Shared}{env:Env}{a:Addr}
theorem g8t{id:String}{args:Args}{b:Builtin}(hb:entryFor table id=some b):(model prog w).den (.builtin id args)=b args:=by
 show (match entryFor table id with | some b=>b args | none=>unsupported ((withoutEnding? id "#data").getD id))=_
 rw [hb]
theorem h3i{e:Value}{o:Obj}{vs:Array Value}{Q:Value->Shared->Prop}(ho:s.heap.get? a=some o)(hd:o.data = .fields vs)(h2:vs[2]? = some .none)(h:Q .none s) :
  wpAny (model prog w) A (runValue (.builtin "proto.unchain" ⟨[e,.ref a,.ref a,.bool false],[]⟩)) Q E s:=by
 refine wpAny_runValue (codeAny_of_tree ?_)
 rw [g8t g2b]
 generalize A.under _=A'
 unfold Builtin.«proto.unchain»
 refine wpAny_bind (wpAny_field ho hd h2 ?_)
 exact wpAny_pure h
variable {nm q:Str}{C N:Addr}{bs bm:List Value}{hdct:Bool}{sn:List Str}{sub:List Value}{ab:Bool}{col:Option Bool}{dd:Option Addr}{k0 k1 k2 k3 k5:Option Value}{newId:String}
theorem g8u{x c:Sem Value}{Q:Flow->Shared->Prop}(hbase:bm.contains (.type "BaseException")=true)(hh:A.handled=some (.ref a))(hc:∀ (Q':Value->Shared->Prop) s',Q' .none s'->wpAny (model prog w) A c Q' E s')
  (h:wpAny (model prog w) A x (fun v s₁=>∃ e t,v = .ref e/\a≠e/\s₁.heap.get? C=some (excClassObj nm q C N bs bm hdct sn sub ab col dd k0 k1 k2 k3 k5 newId) /\
   s₁.heap.get? e=some { cls:=.ref C,data:=.fields #[.ref t,.none,.none,.none,.bool false,.none] }/\(∃ oa va,s₁.heap.get? a=some oa/\oa.data = .fields va/\va[2]? = some .none) /\
   ∀ h',(∀ b,b≠e->h'.get? b=s₁.heap.get? b)->h'.get? e=some { cls:=.ref C,data:=.fields #[.ref t,.none,.ref a,.none,.bool true,.none] }->E (.ref e) { s₁ with heap:=h' }) E s) :
  wpAny (model prog w) A (raiseStmt env (some x) (some c)) Q E s:=by
 have hcB:(Value.ref C :: bm).contains (.type "BaseException")=true:=by rw [List.contains_cons,hbase,Bool.or_true]
 unfold raiseStmt
 refine wpAny_bind (wpAny_mono h (fun v s₁ h₁=>?_) fun _ _ x=>x)
 obtain⟨e,t,rfl,hne,hC,he,⟨oa,va,hoa,hda,h2a⟩,hE⟩:=h₁
 obtain⟨hp,g,d,tk,os⟩:=s₁
 refine wpAny_bind (wpAny_holding (hc _ _ ?_))
 repeat (first | with_reducible refine wpAny_loadPart_at he ?_ | with_reducible refine wpAny_loadPart_at hC ?_ | (with_reducible refine wpAny_isSubtype_exc hC ?_; rw [hcB]) | wp_step)
 have hCe:C≠e:=fun z=>by
  subst z
  rw [hC] at he
  cases he
 have e1:=Heap.get?_update_self (Obj.mapFields (·.setIfInBounds 3 Value.none)) he (Obj.isFreed_of_fields (Obj.data_mapFields rfl _))
 have e2:=Heap.get?_update_self (Obj.mapFields (·.setIfInBounds 4 (Value.bool true))) e1 (Obj.isFreed_of_fields (Obj.data_mapFields rfl _))
 have oth:∀ b,b≠e->((hp.update e (Obj.mapFields (·.setIfInBounds 3 Value.none))).update e (Obj.mapFields (·.setIfInBounds 4 (Value.bool true)))).get? b=hp.get? b:=fun b hb=>(Heap.get?_update_other _ _ (Ne.symm hb)).trans (Heap.get?_update_other _ _ (Ne.symm hb))
 generalize (hp.update e (Obj.mapFields (·.setIfInBounds 3 Value.none))).update e (Obj.mapFields (·.setIfInBounds 4 (Value.bool true)))=h2 at *
 have hC2:=(oth C hCe).trans hC
 have e2':h2.get? e=some { cls:=.ref C,data:=.fields #[.ref t,.none,.none,.none,.bool true,.none] }:=e2
 refine wpAny_loadPart_at hC2 (wpAny_pure ?_)
 refine wpAny_pure ?_
 refine wpAny_bind ?_
 unfold setFlight
 refine wpAny_bind (wpAny_field (x:=Value.none) e2' rfl rfl ?_)
 rw [if_neg (show ¬ ((Value.none != Value.none)=true) from by simp)]
 refine wpAny_pure ?_
 unfold raiseNew
 refine wpAny_bind (wpAny_handled ?_)
 rw [hh]
 have hab:(Value.ref a != Value.ref e)=true:=by
  simp only [bne_iff_ne,ne_eq,Value.ref.injEq]
  exact hne
 dsimp only
 rw [if_pos hab]
 have h2a':=(oth a hne).trans hoa
 refine wpAny_bind (wpAny_holding (h3i (s:=⟨h2,g,d,tk,os⟩) h2a' hda h2a ?_))
 refine wpAny_bind (wpAny_setField (s:=⟨h2,g,d,tk,os⟩) (i:=2) e2' rfl (by simp) ?_)
 have e3:=Heap.get?_update_self (Obj.mapFields (·.setIfInBounds 2 (Value.ref a))) e2' (Obj.isFreed_of_fields (Obj.data_mapFields rfl _))
 exact wpAny_throw (hE _ (fun b hb=>(Heap.get?_update_other _ _ (Ne.symm hb)).trans (oth b hb)) e3)
end
def h7i(K:PySem.W.Frag)(D C:Addr)(tb:XK->TS)(E:XK):TS:=fun Dn σ H=>tb (fun Cv _ H'=>∃ c,Cv = .ref c/\PySem.W.subIn K (.ref c) (.ref D)=some true/\E (.ref C) none H') Dn σ H
section
variable {X:Cx}{D C:Addr}{dn cn:Str}{st:Stmt}{tb:XK->TS}{E:XK}{z:Str}{j j':Nat}{np hpos pos rpos cpos npos zpos kpos:Pos}
theorem g8v(hP:g2a X E)(hb:∀ E,k1z X st (tb E) E)(O:Exc X.K C)(hkC:PySem.W.keepIn X.K (.ref C)=true)(hgC:Gl X cn)(hmC:X.mg cn=some (.ref C))(hg:Gl X dn)(hm:X.mg dn=some (.ref D))(ZD:d3j X.K D)
  (hst:X.stack=X.env :: X.outer:=by rfl) (hfr:X.env.frame=some X.env.locals:=by rfl) (hex:X.ex = []:=by rfl) (hdb:(dn == ("__debug__":Str))=false:=by decide) (hdc:(cn == ("__debug__":Str))=false:=by decide) :
  PS X (.Try [st] [.ExceptHandler (some (.Name dn np)) none [.Raise (some (.Call (.Name cn npos) [.Constant (.str z) j zpos] [] cpos)) (some (.Constant .none j' kpos)) rpos] hpos] [] [] pos) (h7i X.K D C tb E):=by
 intro pins s σ H Dn I h
 refine wpAny_Try_except (wpAny_execs_cons (wpAny_mono (hb _ pins s σ H Dn I h) (fun f s1 q=>?_) fun e s1 q=>?_))
 ·cases f with
  | next=>exact wpAny_execs_nil (wpAny_execs_nil q)
  | ret v=>exact q
  | brk=>exact q
  | cont=>exact q
 ·obtain⟨H1,s0,I1,a,Cv,a0,B,H',rfl,fl,os,bare,un,hn0,nw,dx,cx,kd,hcx,c,rfl,hsub,hE⟩:=q
  obtain rfl:=hcx rfl
  have hA:X.A.frames=some (X.env :: X.outer):=by rw [<- hst]; exact I1.ok.frames
  rw [hst] at fl
  refine f4o hA hfr fl kd fun h4 hd4 sm4 kd4=>i3n hd4 kd4 fun h5 fl5 sm5 kd5=>?_
  have u5:=un h5 fl5.1 (sm4.trans sm5)
  have I5:Inv X pins σ H' { s1 with heap:=h5,toks:=s1.toks }:=I1.caught os bare u5.1 u5.2
  obtain⟨ob,hob,hcl⟩:=fl5.there
  refine wpAny_handleBy_cons (codeAny_handlers_test ?_) (by intro q; cases q)
  refine c1v (X:=X.held a) (s:={ s1 with heap:=h5 }) (I5.held a) hg hm ?_ hdb
  refine f4p (s:={ s1 with heap:=h5 }) I5.kIn ZD hob hcl hsub ?_
  refine codeAny_handlers_suite (i3o fl5 kd5 fun h6 fl6 sm6 kd6=>?_)
  have u6:=un h6 fl6.1 ((sm4.trans sm5).trans sm6)
  have I6:Inv X pins σ H' { s1 with heap:=h6,toks:=s1.toks }:=I1.caught os bare u6.1 u6.2
  obtain⟨oa,va,hoa,hcla,hda,_⟩:=fl6.first
  have h2a:va[2]? = some .none:=by
   obtain⟨o,q1,_,q2⟩:=kd6
   rw [hoa] at q1
   cases q1
   unfold i6e at q2
   rw [hda] at q2
   exact q2
  obtain⟨bm,N,nm,qn,bs,hdct,sn,sub,ab,col,dd,k0,k1,k2,k3,k5,mN,hC,hN,hni,T⟩:=h6m (h:=h6) I6.kIn O.ok
  refine wpAny_execs_cons ?_
  rw [arm_exec_Raise]
  refine wpAny_bind (wpAny_standAt (g8u (a:=a) (C:=C) (nm:=nm) (q:=qn) (N:=N) (bs:=bs) (bm:=bm) (hdct:=hdct) (sn:=sn) (sub:=sub) (ab:=ab) (col:=col) (dd:=dd) (k0:=k0) (k1:=k1) (k2:=k2) (k3:=k3) (k5:=k5) (newId:="ValueError.__new__") (T.hasType PySem.F.excBase_ValueError.hasBase) rfl (fun Q' s' q=>wpAny_bind (Constant_none (wpAny_bind (wpAny_standAt (wpAny_pure q))))) (wpAny_bind ?_)))
  refine wpAny_mono (Q:=fun v s2=>∃ e h7 tk,v = .ref e/\s2 = { s1 with heap:=h7,toks:=tk }/\∃ args,Heap.MadeExcOf h6 h7 e (.ref C) args) (E:=fun _ _=>False) ?_ (fun v s2 q=>wpAny_bind (wpAny_standAt (wpAny_pure ?_))) fun _ _ z=>False.elim z
  ·refine wpAny_Call_Name_kw (c1v (X:=X.held a) (I6.held a) hgC hmC ?_ hdc)
   refine PySem.W.callWith_K (h₀:=X.base) I.ok.mod.kin hkC (Calls.spliced_cons (Calls.Constant_str (k:=j) (pos:=zpos) (Calls.spliced_nil ⟨I6.kIn,?_⟩))) rfl rfl
   exact wpAny_call_exc_subT (hrest:=by show 1<=sizeLine; rw [sizeLine_eq]; decide) PySem.F.excBase_ValueError T hC hN hni fun h' e hm=>⟨e,h',_,rfl,rfl,_,hm⟩
  ·obtain⟨e,h7,tk,rfl,rfl,args,hx⟩:=q
   obtain⟨t,he,_,_⟩:=hx.there
   have hne:a≠e:=fun z=>by rw [z,hx.new] at hoa; cases hoa
   refine⟨e,t,rfl,hne,hx.keeps _ _ hC,he,⟨oa,va,hx.keeps _ _ hoa,hda,h2a⟩,fun h8 oth e8=>?_⟩
   have up8:h7.UpToSlots h8:=fun b o q nf=>⟨o.slots,(oth b fun z=>by
    rw [z,he] at q
    cases q
    exact nf _ rfl).trans q⟩
   have k8:∀ b o,h6.get? b=some o->h8.get? b=some o:=fun b o q=>(oth b fun z=>by rw [z,hx.new] at q; cases q).trans (hx.keeps b o q)
   have hin:∀ env∈X.stack,∀ b,env.frame=some b->b∈frs X.stack:=fun env he b hb=>List.mem_filterMap.mpr ⟨env,he,hb⟩
   have hkb:(PySem.W.hideAll h6 (frs X.stack)).StaysIn h8:=fun b o q=>k8 b o (PySem.W.of_hideAll _ q)
   have hno:(PySem.W.hideAll h6 (frs X.stack)).get? e=none:=by
    cases q:(PySem.W.hideAll h6 (frs X.stack)).get? e with
    | none=>rfl
    | some o=>have z:=PySem.W.of_hideAll _ q; rw [hx.new] at z; cases z
   have ff:h8.FunFrames (PySem.W.hideAll h6 (frs X.stack)) X.stack:=(PySem.W.funFrames_hide I6.stack hin).of_keeps fun b o hb _=>⟨o,k8 b o hb,rfl⟩
   have kd8:Kd e (none,some (.ref a)) h8:=⟨_,e8,rfl,rfl⟩
   have hAm:(X.A.mark (some (.ref a))).frames=some (X.env :: X.outer):=hA
   show wpAny _ _ (noteFrame (.ref e) X.env) _ _ _
   refine wpAny_mono (f4n.any (e:=e) (d:=(none,some (.ref a))) (E:=fun _ _=>False) (Q:=fun _ s'=>∃ h9,s' = { s1 with heap:=h9,toks:=tk }/\Heap.NotedW (PySem.W.hideAll h6 (frs X.stack)) (X.env :: X.outer) e (.ref C) (.ref t) (rawInt X.env.locals) h8 h9) ?_ kd8) (fun _ s' z=>?_) fun _ _ z=>z.1.elim
   ·unfold noteFrame
    simp only [hfr]
    refine wpAny_bind (wpAny_field (x:=.none) e8 rfl rfl ?_)
    rw [if_neg (show ¬ ((Value.none != Value.none)=true) from by simp)]
    exact wpAny_entryW hAm (by rw [<- hst]; exact ff) hfr e8 hkb hno rfl (by simp) rfl fun h' n=>⟨h',rfl,n⟩
   ·obtain⟨⟨h9,rfl,n1,n2,⟨oe,vs,T9,oT,ts,he9,⟨hc9,h09⟩,hd9,h19,hnT,hTe,hT,hdT,h3⟩,n4⟩,kd9⟩:=z
    have z3:3 < ts.size:=(Array.getElem?_eq_some_iff.mp h3).1
    show wpAny _ _ _ _ _ _
    refine wpAny_bind (wpAny_field he9 hd9 h19 ?_)
    rw [if_neg (show ¬ ((Value.ref T9 == Value.none)=true) from by simp)]
    have j6h:∀ (x:Value) (b:Addr),b≠T9->(h9.update T9 (Obj.mapFields (·.setIfInBounds 3 x))).get? b=h9.get? b:=fun x b hb=>Heap.get?_update_other _ _ (Ne.symm hb)
    have i4e:∀ b o,h9.get? b=some o->(∀ vs,o.data≠.fields vs)->b≠T9:=fun b o hb hnf q=>by
     rw [q,hT] at hb
     cases hb
     exact hnf ts hdT
    refine wpAny_mono (f4u.any (E:=fun _ _=>False) (Q:=fun _ s'=>∃ h10,s' = { s1 with heap:=h10,toks:=tk }/\g8o (PySem.W.hideAll h6 (frs X.stack)) X.stack e (.ref C) (.ref t) h10/\h9.UpToSlots h10) ?_ kd9) (fun _ s' z=>?_) fun _ _ z=>z.1.elim
    ·unfold setFlight
     refine wpAny_bind (wpAny_field he9 hd9 h19 ?_)
     rw [if_pos (show (Value.ref T9 != Value.none)=true from by simp)]
     rw [<- hst] at n2
     exact wpAny_setField hT hdT z3 ⟨_,rfl,⟨fun b o hbo=>(j6h _ b fun q=>by rw [q,hnT] at hbo; cases hbo).trans (n1 b o hbo),hno,n2.of_keeps fun b o hb hnf=>⟨o,(j6h _ b (i4e b o hb hnf)).trans hb,rfl⟩,(X.env.frame.elim Value.none fun f=>rawInt f),oe,vs,T9,_,_,(j6h _ e (Ne.symm hTe)).trans he9,⟨hc9,h09⟩,hd9,h19,hnT,hTe,Heap.get?_update_self _ hT (Obj.isFreed_of_fields (Obj.data_mapFields hdT _)),Obj.data_mapFields hdT _,by simp [z3]⟩,fun b o hb hnf=>⟨o.slots,(j6h _ b (i4e b o hb hnf)).trans hb⟩⟩
    ·obtain⟨⟨h10,rfl,HA,u10⟩,kd10⟩:=z
     refine hP pins σ e (.ref C) (.ref t) _ H' _ HA (fun h' b' u'=>?_) (g5b I6 hx) ?_ ⟨none,_,kd10,hE⟩
     ·have y:=h6l I6 hx b' (((up8.trans n4).trans u10).trans u')
      exact I6.caught (s':={ s1 with heap:=h',toks:=tk }) rfl bare y.1 y.2
     ·exact I6.older hex hx.new
end
end L2
namespace L2
open PySem PySem.Spec PyProof.Rows
section
variable {X:Cx}{scope:Scope}{x:Str}{elt iter:Expr}{px pos:Pos}{wi:TI}{te:TE}
end
end L2
namespace L2
variable {a b:TS}{t:TE}{g:TG}{c:TT}{wi:TI}{n k e:St->Hp->Prop}{r:VK}{σ:St}{H:Hp}
theorem qSeq:j5x a b (Ends.mk n r k e) σ H=a (Ends.mk (b (Ends.mk n r k e)) r k e) σ H:=rfl
theorem qRet:k0t t (Ends.mk n r k e) σ H=t σ H r:=rfl
theorem qRetN:j6v (Ends.mk n r k e) σ H=r .non H:=rfl
theorem qNext:h5h (Ends.mk n r k e) σ H=n σ H:=rfl
theorem qAsg:i9m t g (Ends.mk n r k e) σ H=t σ H fun x H1=>g x σ H1 n:=rfl
theorem qDrop:h9n t (Ends.mk n r k e) σ H=t σ H fun _ H1=>n σ H1:=rfl
end L2
namespace L2
open PySem PySem.Spec PyProof.Rows
section
variable {X:Cx}{pos:Pos}
def j3i(n:Nat)(t:TGs):TG:=fun v σ H Q=>match v with
 | .ref a=>(match H a with
  | some (.tup xs)=>xs.length=n/\t xs σ H Q
  | some (.lst xs)=>xs.length=n/\t xs σ H Q
  | _=>False)
 | _=>False
theorem f4v{es:List Expr}{k:Nat}{t:TGs}{n:Nat}(hc:X.calm=true)(h:PGs X es t)
  (hn:(assignEach es X.env).length=n:=by rfl) (hst:(assignEach es X.env).findIdx? (·.1)=none:=by rfl):PG X (.Tuple es k pos) (j3i n t):=by
 intro pins s σ H v u Q I r hw
 unfold j3i at hw
 cases v with
 | ref a =>
  dsimp only at hw
  split at hw
  ·rename_i xs e
   exact h5j hc h hn hst pins s σ H _ u Q I r ⟨a,xs,rfl,SqT.of e,hw.1,hw.2⟩
  ·rename_i xs e
   cases r
   obtain⟨its,rv,ht,hz⟩:=I.list (SqL.of e)
   rw [assign_Tuple]
   refine wpAny_bind (wpAny_standAt ?_)
   unfold unpack
   rw [show (assignEach es X.env).length=its.toArray.size by simp [hn,<- hw.1,rv.length],hst]
   refine wpAny_bind (wpAny_holding (PySem.W.kun_itemsOf (I.ok.hd hc) ht.isList fun h' hx=>?_))
   have I1:Inv X pins σ H { s with heap:=h' }:=I.kept (t':=s.toks) fun b o e=>hx b o (Nat.ne_of_lt (Heap.lt_size e)) e
   exact h pins _ σ H xs _ Q I1 (by simpa using rv) hw.2
  ·exact hw.elim
 | _=>exact False.elim hw
noncomputable def j6i(K:PySem.W.Frag):List V->Hp->VK->Prop:=fun xs H Q=>k1q K xs H Q\/k1v K xs H Q
theorem b7m:d0i X (.builtin "isinstance") (j6i X.K):=by
 intro pins s σ H xs us Q I r h
 rcases h with h | h
 ·exact i0j pins s σ H xs us Q I r h
 ·exact i0w pins s σ H xs us Q I r h
theorem ise{K:PySem.W.Frag}{H:Hp}{e C D:Addr}{d:Option Addr}{b:Bool}{Q:VK}(h:H e=some (i3q e (.ref C) d))(q:d3j K C)(k:PySem.W.kitOne K (.ref C) (.ref D)=some b)(hq:Q (.bl b) H):j6i K [.ref e,.ref D] H Q:=by
 cases d with
 | none=>exact .inl ⟨C,b,h,q,k,hq⟩
 | some d=>exact .inr ⟨C,d,b,h,q,k,hq⟩
theorem iseT{K:PySem.W.Frag}{H:Hp}{e C:Addr}{d:Option Addr}{n:String}{b:Bool}{Q:VK}(h:H e=some (i3q e (.ref C) d))(q:d3j K C)(k:PySem.W.kitOne K (.ref C) (.type n)=some b)(hq:Q (.bl b) H):j6i K [.ref e,.ty n] H Q:=by
 cases d with
 | none=>exact .inl ⟨C,b,h,q,k,hq⟩
 | some d=>exact .inr ⟨C,d,b,h,q,k,hq⟩
def j3j:R2:=fun x y H Q=>match x,y with
 | .str z,.int k=>MulOk z k/\Q (.str (Txt.mul z k)) H
 | _,_=>False
theorem i7b:OpR X (binaryOp .Mult) j3j:=by
 intro pins s σ H x y v u Q I rx ry h
 cases x <;> cases y <;> first | exact False.elim h | skip
 obtain⟨t,rfl⟩:=rx
 obtain⟨t',rfl⟩:=ry
 exact SB.mul h.1 fun t' k=>⟨.str _,H,I.tok _,⟨_,rfl⟩,h.2⟩
theorem a2m.no0{P:Program}{w:World}{K:PySem.W.Frag}{mg:Str->Option Value}{base:Heap}{k:Nat}{f:Addr}{fd:FuncData}{ps:List Str}{sp:Sp}(G:a2m P w K mg base (CXE P w) k f fd ps sp) :
  a2m P w K mg base CX0 k f fd ps (fun vs H Q _=>sp vs H Q E0):=by
 refine⟨fun vs H Q E h=>G.len vs H Q E0 h,fun A outer s H args us vs Q E hr e0 hb hv h=>?_⟩
 refine codeAny_mono (G.run A outer s H args us vs Q E0 hr e0 hb hv h) fun r s' q=>?_
 cases r with
 | error e =>
  obtain⟨_,_,_,_,_,_,_,_,_,_,_,_,_,_,_,_,z⟩:=q
  exact False.elim z
 | ok fl=>cases fl <;> exact q
end
end L2
set_option maxHeartbeats 4000000
namespace My
open PySem PySem.Spec PyProof.Rows L2
open PySem.Builtin.Int (intBits)
theorem k2a{P:Int->Prop}{vs:List V}(h:match vs with | [.int x0]=>P x0 | _=>False):∃ x0,vs = [.int x0]/\P x0:=by
 obtain _ | ⟨y0,vs⟩:=vs
 ·exact False.elim h
 cases y0 <;> first | exact False.elim h | skip
 obtain _ | ⟨y,vs⟩:=vs
 ·exact⟨_,rfl,h⟩
 ·exact False.elim h
theorem ln_i{P:Int->Prop}{vs:List V}(h:match vs with | [.int x0]=>P x0 | _=>False):vs.length=1:=by
 obtain⟨_,rfl,_⟩:=k2a h
 rfl
theorem i1c{P:Int->Int->Prop}{vs:List V}(h:match vs with | [.int x0,.int x1]=>P x0 x1 | _=>False):∃ x0 x1,vs = [.int x0,.int x1]/\P x0 x1:=by
 obtain _ | ⟨y0,vs⟩:=vs
 ·exact False.elim h
 cases y0 <;> first | exact False.elim h | skip
 obtain _ | ⟨y1,vs⟩:=vs
 ·exact False.elim h
 cases y1 <;> first | exact False.elim h | skip
 obtain _ | ⟨y,vs⟩:=vs
 ·exact⟨_,_,rfl,h⟩
 ·exact False.elim h
theorem i7c{P:Int->Int->Prop}{vs:List V}(h:match vs with | [.int x0,.int x1]=>P x0 x1 | _=>False):vs.length=2:=by
 obtain⟨_,_,rfl,_⟩:=i1c h
 rfl
theorem f2t{P:Addr->Prop}{vs:List V}(h:match vs with | [.ref x0]=>P x0 | _=>False):∃ x0,vs = [.ref x0]/\P x0:=by
 obtain _ | ⟨y0,vs⟩:=vs
 ·exact False.elim h
 cases y0 <;> first | exact False.elim h | skip
 obtain _ | ⟨y,vs⟩:=vs
 ·exact⟨_,rfl,h⟩
 ·exact False.elim h
theorem f3t{P:Addr->Prop}{vs:List V}(h:match vs with | [.ref x0]=>P x0 | _=>False):vs.length=1:=by
 obtain⟨_,rfl,_⟩:=f2t h
 rfl
theorem h7j{P:Addr->Int->Prop}{vs:List V}(h:match vs with | [.ref x0,.int x1]=>P x0 x1 | _=>False):∃ x0 x1,vs = [.ref x0,.int x1]/\P x0 x1:=by
 obtain _ | ⟨y0,vs⟩:=vs
 ·exact False.elim h
 cases y0 <;> first | exact False.elim h | skip
 obtain _ | ⟨y1,vs⟩:=vs
 ·exact False.elim h
 cases y1 <;> first | exact False.elim h | skip
 obtain _ | ⟨y,vs⟩:=vs
 ·exact⟨_,_,rfl,h⟩
 ·exact False.elim h
theorem i1d{P:Addr->Int->Prop}{vs:List V}(h:match vs with | [.ref x0,.int x1]=>P x0 x1 | _=>False):vs.length=2:=by
 obtain⟨_,_,rfl,_⟩:=h7j h
 rfl
theorem g8w{P:Addr->Addr->Prop}{vs:List V}(h:match vs with | [.ref x0,.ref x1]=>P x0 x1 | _=>False):∃ x0 x1,vs = [.ref x0,.ref x1]/\P x0 x1:=by
 obtain _ | ⟨y0,vs⟩:=vs
 ·exact False.elim h
 cases y0 <;> first | exact False.elim h | skip
 obtain _ | ⟨y1,vs⟩:=vs
 ·exact False.elim h
 cases y1 <;> first | exact False.elim h | skip
 obtain _ | ⟨y,vs⟩:=vs
 ·exact⟨_,_,rfl,h⟩
 ·exact False.elim h
theorem h3j{P:Addr->Addr->Prop}{vs:List V}(h:match vs with | [.ref x0,.ref x1]=>P x0 x1 | _=>False):vs.length=2:=by
 obtain⟨_,_,rfl,_⟩:=g8w h
 rfl
theorem i4g{P:Addr->Addr->Int->Prop}{vs:List V}(h:match vs with | [.ref x0,.ref x1,.int x2]=>P x0 x1 x2 | _=>False):∃ x0 x1 x2,vs = [.ref x0,.ref x1,.int x2]/\P x0 x1 x2:=by
 obtain _ | ⟨y0,vs⟩:=vs
 ·exact False.elim h
 cases y0 <;> first | exact False.elim h | skip
 obtain _ | ⟨y1,vs⟩:=vs
 ·exact False.elim h
 cases y1 <;> first | exact False.elim h | skip
 obtain _ | ⟨y2,vs⟩:=vs
 ·exact False.elim h
 cases y2 <;> first | exact False.elim h | skip
 obtain _ | ⟨y,vs⟩:=vs
 ·exact⟨_,_,_,rfl,h⟩
 ·exact False.elim h
theorem j3k{P:Addr->Addr->Int->Prop}{vs:List V}(h:match vs with | [.ref x0,.ref x1,.int x2]=>P x0 x1 x2 | _=>False):vs.length=3:=by
 obtain⟨_,_,_,rfl,_⟩:=i4g h
 rfl
theorem h7k{P:Addr->Str->Prop}{vs:List V}(h:match vs with | [.ref x0,.str x1]=>P x0 x1 | _=>False):∃ x0 x1,vs = [.ref x0,.str x1]/\P x0 x1:=by
 obtain _ | ⟨y0,vs⟩:=vs
 ·exact False.elim h
 cases y0 <;> first | exact False.elim h | skip
 obtain _ | ⟨y1,vs⟩:=vs
 ·exact False.elim h
 cases y1 <;> first | exact False.elim h | skip
 obtain _ | ⟨y,vs⟩:=vs
 ·exact⟨_,_,rfl,h⟩
 ·exact False.elim h
theorem i1e{P:Addr->Str->Prop}{vs:List V}(h:match vs with | [.ref x0,.str x1]=>P x0 x1 | _=>False):vs.length=2:=by
 obtain⟨_,_,rfl,_⟩:=h7k h
 rfl
theorem i4h{P:Addr->Str->Int->Prop}{vs:List V}(h:match vs with | [.ref x0,.str x1,.int x2]=>P x0 x1 x2 | _=>False):∃ x0 x1 x2,vs = [.ref x0,.str x1,.int x2]/\P x0 x1 x2:=by
 obtain _ | ⟨y0,vs⟩:=vs
 ·exact False.elim h
 cases y0 <;> first | exact False.elim h | skip
 obtain _ | ⟨y1,vs⟩:=vs
 ·exact False.elim h
 cases y1 <;> first | exact False.elim h | skip
 obtain _ | ⟨y2,vs⟩:=vs
 ·exact False.elim h
 cases y2 <;> first | exact False.elim h | skip
 obtain _ | ⟨y,vs⟩:=vs
 ·exact⟨_,_,_,rfl,h⟩
 ·exact False.elim h
theorem j3l{P:Addr->Str->Int->Prop}{vs:List V}(h:match vs with | [.ref x0,.str x1,.int x2]=>P x0 x1 x2 | _=>False):vs.length=3:=by
 obtain⟨_,_,_,rfl,_⟩:=i4h h
 rfl
theorem h7l{P:Addr->Str->Str->Prop}{vs:List V}(h:match vs with | [.ref x0,.str x1,.str x2]=>P x0 x1 x2 | _=>False):∃ x0 x1 x2,vs = [.ref x0,.str x1,.str x2]/\P x0 x1 x2:=by
 obtain _ | ⟨y0,vs⟩:=vs
 ·exact False.elim h
 cases y0 <;> first | exact False.elim h | skip
 obtain _ | ⟨y1,vs⟩:=vs
 ·exact False.elim h
 cases y1 <;> first | exact False.elim h | skip
 obtain _ | ⟨y2,vs⟩:=vs
 ·exact False.elim h
 cases y2 <;> first | exact False.elim h | skip
 obtain _ | ⟨y,vs⟩:=vs
 ·exact⟨_,_,_,rfl,h⟩
 ·exact False.elim h
theorem i4i{P:Addr->Str->Str->Prop}{vs:List V}(h:match vs with | [.ref x0,.str x1,.str x2]=>P x0 x1 x2 | _=>False):vs.length=3:=by
 obtain⟨_,_,_,rfl,_⟩:=h7l h
 rfl
theorem h7m{P:Addr->Str->Str->Addr->Prop}{vs:List V}(h:match vs with | [.ref x0,.str x1,.str x2,.ref x3]=>P x0 x1 x2 x3 | _=>False):∃ x0 x1 x2 x3,vs = [.ref x0,.str x1,.str x2,.ref x3]/\P x0 x1 x2 x3:=by
 obtain _ | ⟨y0,vs⟩:=vs
 ·exact False.elim h
 cases y0 <;> first | exact False.elim h | skip
 obtain _ | ⟨y1,vs⟩:=vs
 ·exact False.elim h
 cases y1 <;> first | exact False.elim h | skip
 obtain _ | ⟨y2,vs⟩:=vs
 ·exact False.elim h
 cases y2 <;> first | exact False.elim h | skip
 obtain _ | ⟨y3,vs⟩:=vs
 ·exact False.elim h
 cases y3 <;> first | exact False.elim h | skip
 obtain _ | ⟨y,vs⟩:=vs
 ·exact⟨_,_,_,_,rfl,h⟩
 ·exact False.elim h
theorem i7d{P:Addr->Str->Str->Addr->Prop}{vs:List V}(h:match vs with | [.ref x0,.str x1,.str x2,.ref x3]=>P x0 x1 x2 x3 | _=>False):vs.length=4:=by
 obtain⟨_,_,_,_,rfl,_⟩:=h7m h
 rfl
theorem h3k{P:Addr->V->Prop}{vs:List V}(h:match vs with | [.ref x0,x1]=>P x0 x1 | _=>False):∃ x0 x1,vs = [.ref x0,x1]/\P x0 x1:=by
 obtain _ | ⟨y0,vs⟩:=vs
 ·exact False.elim h
 cases y0 <;> first | exact False.elim h | skip
 obtain _ | ⟨y1,vs⟩:=vs
 ·exact False.elim h
 obtain _ | ⟨y,vs⟩:=vs
 ·exact⟨_,_,rfl,h⟩
 ·exact False.elim h
theorem h7n{P:Addr->V->Prop}{vs:List V}(h:match vs with | [.ref x0,x1]=>P x0 x1 | _=>False):vs.length=2:=by
 obtain⟨_,_,rfl,_⟩:=h3k h
 rfl
theorem i4j{P:Addr->V->V->Prop}{vs:List V}(h:match vs with | [.ref x0,x1,x2]=>P x0 x1 x2 | _=>False):∃ x0 x1 x2,vs = [.ref x0,x1,x2]/\P x0 x1 x2:=by
 obtain _ | ⟨y0,vs⟩:=vs
 ·exact False.elim h
 cases y0 <;> first | exact False.elim h | skip
 obtain _ | ⟨y1,vs⟩:=vs
 ·exact False.elim h
 obtain _ | ⟨y2,vs⟩:=vs
 ·exact False.elim h
 obtain _ | ⟨y,vs⟩:=vs
 ·exact⟨_,_,_,rfl,h⟩
 ·exact False.elim h
theorem j3m{P:Addr->V->V->Prop}{vs:List V}(h:match vs with | [.ref x0,x1,x2]=>P x0 x1 x2 | _=>False):vs.length=3:=by
 obtain⟨_,_,_,rfl,_⟩:=i4j h
 rfl
theorem h7o{P:Addr->V->V->V->Prop}{vs:List V}(h:match vs with | [.ref x0,x1,x2,x3]=>P x0 x1 x2 x3 | _=>False):∃ x0 x1 x2 x3,vs = [.ref x0,x1,x2,x3]/\P x0 x1 x2 x3:=by
 obtain _ | ⟨y0,vs⟩:=vs
 ·exact False.elim h
 cases y0 <;> first | exact False.elim h | skip
 obtain _ | ⟨y1,vs⟩:=vs
 ·exact False.elim h
 obtain _ | ⟨y2,vs⟩:=vs
 ·exact False.elim h
 obtain _ | ⟨y3,vs⟩:=vs
 ·exact False.elim h
 obtain _ | ⟨y,vs⟩:=vs
 ·exact⟨_,_,_,_,rfl,h⟩
 ·exact False.elim h
theorem i7e{P:Addr->V->V->V->Prop}{vs:List V}(h:match vs with | [.ref x0,x1,x2,x3]=>P x0 x1 x2 x3 | _=>False):vs.length=4:=by
 obtain⟨_,_,_,_,rfl,_⟩:=h7o h
 rfl
theorem h9e{P:Str->Prop}{vs:List V}(h:match vs with | [.str x0]=>P x0 | _=>False):∃ x0,vs = [.str x0]/\P x0:=by
 obtain _ | ⟨y0,vs⟩:=vs
 ·exact False.elim h
 cases y0 <;> first | exact False.elim h | skip
 obtain _ | ⟨y,vs⟩:=vs
 ·exact⟨_,rfl,h⟩
 ·exact False.elim h
theorem i1f{P:Str->Prop}{vs:List V}(h:match vs with | [.str x0]=>P x0 | _=>False):vs.length=1:=by
 obtain⟨_,rfl,_⟩:=h9e h
 rfl
theorem i4k{P:Str->Int->Int->Prop}{vs:List V}(h:match vs with | [.str x0,.int x1,.int x2]=>P x0 x1 x2 | _=>False):∃ x0 x1 x2,vs = [.str x0,.int x1,.int x2]/\P x0 x1 x2:=by
 obtain _ | ⟨y0,vs⟩:=vs
 ·exact False.elim h
 cases y0 <;> first | exact False.elim h | skip
 obtain _ | ⟨y1,vs⟩:=vs
 ·exact False.elim h
 cases y1 <;> first | exact False.elim h | skip
 obtain _ | ⟨y2,vs⟩:=vs
 ·exact False.elim h
 cases y2 <;> first | exact False.elim h | skip
 obtain _ | ⟨y,vs⟩:=vs
 ·exact⟨_,_,_,rfl,h⟩
 ·exact False.elim h
theorem j3n{P:Str->Int->Int->Prop}{vs:List V}(h:match vs with | [.str x0,.int x1,.int x2]=>P x0 x1 x2 | _=>False):vs.length=3:=by
 obtain⟨_,_,_,rfl,_⟩:=i4k h
 rfl
theorem i4l{P:Str->Addr->Addr->Prop}{vs:List V}(h:match vs with | [.str x0,.ref x1,.ref x2]=>P x0 x1 x2 | _=>False):∃ x0 x1 x2,vs = [.str x0,.ref x1,.ref x2]/\P x0 x1 x2:=by
 obtain _ | ⟨y0,vs⟩:=vs
 ·exact False.elim h
 cases y0 <;> first | exact False.elim h | skip
 obtain _ | ⟨y1,vs⟩:=vs
 ·exact False.elim h
 cases y1 <;> first | exact False.elim h | skip
 obtain _ | ⟨y2,vs⟩:=vs
 ·exact False.elim h
 cases y2 <;> first | exact False.elim h | skip
 obtain _ | ⟨y,vs⟩:=vs
 ·exact⟨_,_,_,rfl,h⟩
 ·exact False.elim h
theorem j3o{P:Str->Addr->Addr->Prop}{vs:List V}(h:match vs with | [.str x0,.ref x1,.ref x2]=>P x0 x1 x2 | _=>False):vs.length=3:=by
 obtain⟨_,_,_,rfl,_⟩:=i4l h
 rfl
theorem i4m{P:Str->Str->Str->Prop}{vs:List V}(h:match vs with | [.str x0,.str x1,.str x2]=>P x0 x1 x2 | _=>False):∃ x0 x1 x2,vs = [.str x0,.str x1,.str x2]/\P x0 x1 x2:=by
 obtain _ | ⟨y0,vs⟩:=vs
 ·exact False.elim h
 cases y0 <;> first | exact False.elim h | skip
 obtain _ | ⟨y1,vs⟩:=vs
 ·exact False.elim h
 cases y1 <;> first | exact False.elim h | skip
 obtain _ | ⟨y2,vs⟩:=vs
 ·exact False.elim h
 cases y2 <;> first | exact False.elim h | skip
 obtain _ | ⟨y,vs⟩:=vs
 ·exact⟨_,_,_,rfl,h⟩
 ·exact False.elim h
theorem j3p{P:Str->Str->Str->Prop}{vs:List V}(h:match vs with | [.str x0,.str x1,.str x2]=>P x0 x1 x2 | _=>False):vs.length=3:=by
 obtain⟨_,_,_,rfl,_⟩:=i4m h
 rfl
theorem i7f{P:V->Prop}{vs:List V}(h:match vs with | [x0]=>P x0 | _=>False):∃ x0,vs = [x0]/\P x0:=by
 obtain _ | ⟨y0,vs⟩:=vs
 ·exact False.elim h
 obtain _ | ⟨y,vs⟩:=vs
 ·exact⟨_,rfl,h⟩
 ·exact False.elim h
theorem i9q{P:V->Prop}{vs:List V}(h:match vs with | [x0]=>P x0 | _=>False):vs.length=1:=by
 obtain⟨_,rfl,_⟩:=i7f h
 rfl
theorem j3q{P:V->Str->Prop}{vs:List V}(h:match vs with | [x0,.str x1]=>P x0 x1 | _=>False):∃ x0 x1,vs = [x0,.str x1]/\P x0 x1:=by
 obtain _ | ⟨y0,vs⟩:=vs
 ·exact False.elim h
 obtain _ | ⟨y1,vs⟩:=vs
 ·exact False.elim h
 cases y1 <;> first | exact False.elim h | skip
 obtain _ | ⟨y,vs⟩:=vs
 ·exact⟨_,_,rfl,h⟩
 ·exact False.elim h
theorem j8t{P:V->Str->Prop}{vs:List V}(h:match vs with | [x0,.str x1]=>P x0 x1 | _=>False):vs.length=2:=by
 obtain⟨_,_,rfl,_⟩:=j3q h
 rfl
noncomputable def top(i:Nat):Stmt:=PySem.Challenge.pw_mixbench_k82_refused_lines.main.body.getD i (.Pass ⟨0,0,0,0⟩)
noncomputable abbrev f4w:Stmt:=(inClass (top 9) 0)
noncomputable abbrev g0m:Stmt:=(top 16)
noncomputable abbrev f1y:Stmt:=(top 17)
noncomputable abbrev g0n:Stmt:=(top 18)
noncomputable abbrev g5r:Stmt:=(top 21)
noncomputable abbrev g0o:Stmt:=(top 23)
noncomputable abbrev g5s:Stmt:=(top 26)
noncomputable abbrev g0p:Stmt:=(top 27)
noncomputable abbrev d3k:Stmt:=(top 28)
noncomputable abbrev d3l:Stmt:=(top 29)
noncomputable abbrev f1z:Stmt:=(inClass (top 31) 1)
noncomputable abbrev f4y:Stmt:=(inClass (top 32) 0)
noncomputable abbrev f4z:Stmt:=(inClass (top 32) 4)
noncomputable abbrev f2g:Stmt:=(inClass (top 33) 0)
noncomputable abbrev f2h:Stmt:=(inClass (top 33) 3)
noncomputable abbrev f5g:Stmt:=(top 52)
noncomputable abbrev d8n:Stmt:=(top 53)
noncomputable abbrev d8o:Stmt:=(top 55)
noncomputable abbrev g5t:Stmt:=(top 56)
noncomputable abbrev g0q:Stmt:=(top 57)
noncomputable abbrev g5u:Stmt:=(top 60)
noncomputable abbrev g5v:Stmt:=(top 64)
noncomputable abbrev d5h:Stmt:=(top 67)
noncomputable abbrev d3m:Stmt:=(inClass (top 68) 0)
noncomputable abbrev d1k:Stmt:=(inClass (top 68) 5)
noncomputable abbrev d5t:Stmt:=(inClass (top 71) 0)
noncomputable abbrev d8p:Stmt:=(top 75)
noncomputable abbrev f2i:Stmt:=(inClass (top 76) 0)
noncomputable abbrev d0l:Stmt:=(inClass (top 76) 1)
noncomputable abbrev d8q:Stmt:=(inClass (top 76) 2)
noncomputable abbrev f5h:Stmt:=(inClass (top 76) 3)
noncomputable abbrev f2j:Stmt:=(inClass (top 76) 4)
noncomputable abbrev f5i:Stmt:=(inClass (top 76) 5)
noncomputable abbrev d1l:Stmt:=(inClass (top 76) 6)
noncomputable abbrev d5u:Stmt:=(inClass (top 76) 7)
noncomputable abbrev d8r:Stmt:=(inClass (top 76) 8)
noncomputable abbrev d1m:Stmt:=(inClass (top 76) 9)
noncomputable abbrev f2k:Stmt:=(inClass (top 76) 10)
noncomputable abbrev f5j:Stmt:=(top 78)
noncomputable abbrev g0r:Stmt:=(top 79)
noncomputable abbrev d0m:Stmt:=(top 80)
noncomputable abbrev f5k:Stmt:=(top 81)
noncomputable abbrev g0s:Stmt:=(top 82)
noncomputable abbrev g0t:Stmt:=(top 84)
noncomputable abbrev b7n:Stmt:=(top 85)
noncomputable abbrev d8s:Stmt:=(top 86)
noncomputable abbrev d3n:Stmt:=(top 87)
noncomputable abbrev f5l:Stmt:=(top 88)
noncomputable abbrev d3o:Stmt:=(top 89)
noncomputable abbrev f0g:Stmt:=(top 90)
noncomputable abbrev g0u:Stmt:=(top 91)
noncomputable abbrev d8t:Stmt:=(top 92)
noncomputable abbrev d8u:Stmt:=(top 93)
noncomputable abbrev c4s:Stmt:=(top 94)
noncomputable abbrev c3z:Stmt:=(top 95)
noncomputable abbrev g0v:Stmt:=(top 96)
noncomputable abbrev f5m:Stmt:=(top 97)
noncomputable abbrev i7g:Stmt:=(top 98)
theorem szl:sizeLine=16777216:=sizeLine_eq
theorem g5w:a1n ["self","ring"] ["self","ring"] (a0r f4w):=⟨rfl,rfl,rfl,by decide +kernel,rfl,by decide +kernel,by decide +kernel⟩
theorem f5n:a1n ["value"] ["value"] (a0r g0m):=⟨rfl,rfl,rfl,by decide +kernel,rfl,by decide +kernel,by decide +kernel⟩
theorem d8v:a1n ["text","sign"] ["text"] (a0r f1y):=⟨rfl,rfl,rfl,by decide +kernel,rfl,by decide +kernel,by decide +kernel⟩
theorem f5o:a1n ["text"] ["text"] (a0r g0n):=⟨rfl,rfl,rfl,by decide +kernel,rfl,by decide +kernel,by decide +kernel⟩
theorem c4g:a1n ["one","other","left","right","rest"] ["one","other"] (a0r g5r):=⟨rfl,rfl,rfl,by decide +kernel,rfl,by decide +kernel,by decide +kernel⟩
theorem d6o:a1n ["top","bottom","by"] ["top","bottom"] (a0r g0o):=⟨rfl,rfl,rfl,by decide +kernel,rfl,by decide +kernel,by decide +kernel⟩
theorem h3l:a1n ["one"] ["one"] (a0r g5s):=⟨rfl,rfl,rfl,by decide +kernel,rfl,by decide +kernel,by decide +kernel⟩
theorem g8x:a1n ["one","other"] ["one","other"] (a0r g0p):=⟨rfl,rfl,rfl,by decide +kernel,rfl,by decide +kernel,by decide +kernel⟩
theorem a9z:a1n ["one","top","bottom"] ["one"] (a0r d3k):=⟨rfl,rfl,rfl,by decide +kernel,rfl,by decide +kernel,by decide +kernel⟩
theorem a6k:a1n ["text","halves","top","number","one"] ["text"] (a0r d3l):=⟨rfl,rfl,rfl,by decide +kernel,rfl,by decide +kernel,by decide +kernel⟩
theorem g2c:a1n ["self"] ["self"] (a0r f1z):=⟨rfl,rfl,rfl,by decide +kernel,rfl,by decide +kernel,by decide +kernel⟩
theorem g5x:a1n ["self","gain"] ["self","gain"] (a0r f4y):=⟨rfl,rfl,rfl,by decide +kernel,rfl,by decide +kernel,by decide +kernel⟩
theorem f2l:a1n ["self","gain"] ["self"] (a0r f4z):=⟨rfl,rfl,rfl,by decide +kernel,rfl,by decide +kernel,by decide +kernel⟩
theorem g2d:a1n ["self","many"] ["self","many"] (a0r f2g):=⟨rfl,rfl,rfl,by decide +kernel,rfl,by decide +kernel,by decide +kernel⟩
theorem d8w:a1n ["self","many"] ["self"] (a0r f2h):=⟨rfl,rfl,rfl,by decide +kernel,rfl,by decide +kernel,by decide +kernel⟩
theorem c7t:a1n ["text","gain"] ["text"] (a0r f5g):=⟨rfl,rfl,rfl,by decide +kernel,rfl,by decide +kernel,by decide +kernel⟩
theorem d5v:a1n ["text","least","most","number"] ["text","least","most"] (a0r d8n):=⟨rfl,rfl,rfl,by decide +kernel,rfl,by decide +kernel,by decide +kernel⟩
theorem d5w:a1n ["values","count"] ["values","count"] (a0r d8o):=⟨rfl,rfl,rfl,by decide +kernel,rfl,by decide +kernel,by decide +kernel⟩
theorem g0w:a1n ["values"] ["values"] (a0r g5t):=⟨rfl,rfl,rfl,by decide +kernel,rfl,by decide +kernel,by decide +kernel⟩
theorem g8y:a1n ["values"] ["values"] (a0r g0q):=⟨rfl,rfl,rfl,by decide +kernel,rfl,by decide +kernel,by decide +kernel⟩
theorem g0x:a1n ["values","gain"] ["values"] (a0r g5u):=⟨rfl,rfl,rfl,by decide +kernel,rfl,by decide +kernel,by decide +kernel⟩
theorem d5i:a1n ["word","values"] ["word"] (a0r g5v):=⟨rfl,rfl,rfl,by decide +kernel,rfl,by decide +kernel,by decide +kernel⟩
theorem f5p:a1n ["words"] ["words"] (a0r d5h):=⟨rfl,rfl,rfl,by decide +kernel,rfl,by decide +kernel,by decide +kernel⟩
theorem d8y:a1n ["self","words"] ["self","words"] (a0r d3m):=⟨rfl,rfl,rfl,by decide +kernel,rfl,by decide +kernel,by decide +kernel⟩
theorem f8s:a1n ["self"] ["self"] (a0r d1k):=⟨rfl,rfl,rfl,by decide +kernel,rfl,by decide +kernel,by decide +kernel⟩
theorem d3p:a1n ["self","greatest"] ["self","greatest"] (a0r d5t):=⟨rfl,rfl,rfl,by decide +kernel,rfl,by decide +kernel,by decide +kernel⟩
theorem g0y:a1n ["value"] ["value"] (a0r d8p):=⟨rfl,rfl,rfl,by decide +kernel,rfl,by decide +kernel,by decide +kernel⟩
theorem g2e:a1n ["self"] ["self"] (a0r f2i):=⟨rfl,rfl,rfl,by decide +kernel,rfl,by decide +kernel,by decide +kernel⟩
theorem c7u:a1n ["self","name"] ["self","name"] (a0r d0l):=⟨rfl,rfl,rfl,by decide +kernel,rfl,by decide +kernel,by decide +kernel⟩
theorem d5y:a1n ["self","name"] ["self","name"] (a0r d8q):=⟨rfl,rfl,rfl,by decide +kernel,rfl,by decide +kernel,by decide +kernel⟩
theorem f2m:a1n ["self","name"] ["self","name"] (a0r f5h):=⟨rfl,rfl,rfl,by decide +kernel,rfl,by decide +kernel,by decide +kernel⟩
theorem b7o:a1n ["self","source","bus","words","chain","ring"] ["self","source","bus","words"] (a0r f2j):=⟨rfl,rfl,rfl,by decide +kernel,rfl,by decide +kernel,by decide +kernel⟩
theorem c1o:a1n ["self","start","end","ways","waiting","source","send"] ["self","start","end"] (a0r f5i):=⟨rfl,rfl,rfl,by decide +kernel,rfl,by decide +kernel,by decide +kernel⟩
theorem c7v:a1n ["self","bus","greatest","settler"] ["self","bus","greatest"] (a0r d1l):=⟨rfl,rfl,rfl,by decide +kernel,rfl,by decide +kernel,by decide +kernel⟩
theorem f5q:a1n ["self"] ["self"] (a0r d5u):=⟨rfl,rfl,rfl,by decide +kernel,rfl,by decide +kernel,by decide +kernel⟩
theorem f8t:a1n ["self"] ["self"] (a0r d8r):=⟨rfl,rfl,rfl,by decide +kernel,rfl,by decide +kernel,by decide +kernel⟩
theorem f8u:a1n ["self"] ["self"] (a0r d1m):=⟨rfl,rfl,rfl,by decide +kernel,rfl,by decide +kernel,by decide +kernel⟩
theorem g2f:a1n ["self"] ["self"] (a0r f2k):=⟨rfl,rfl,rfl,by decide +kernel,rfl,by decide +kernel,by decide +kernel⟩
theorem g5y:a1n ["send"] ["send"] (a0r f5j):=⟨rfl,rfl,rfl,by decide +kernel,rfl,by decide +kernel,by decide +kernel⟩
theorem d6p:a1n ["out","bus","greatest"] ["out"] (a0r g0r):=⟨rfl,rfl,rfl,by decide +kernel,rfl,by decide +kernel,by decide +kernel⟩
theorem d0n:a1n ["patch","lines"] ["patch"] (a0r d0m):=⟨rfl,rfl,rfl,by decide +kernel,rfl,by decide +kernel,by decide +kernel⟩
theorem d3q:a1n ["patch","line","words","behind"] ["patch","line"] (a0r f5k):=⟨rfl,rfl,rfl,by decide +kernel,rfl,by decide +kernel,by decide +kernel⟩
theorem d6q:a1n ["text","patch","line"] ["text"] (a0r g0s):=⟨rfl,rfl,rfl,by decide +kernel,rfl,by decide +kernel,by decide +kernel⟩
theorem d6r:a1n ["_law_head","_law_k","_law_base","_law_at"] ["_law_head","_law_k"] (a0r g0t):=⟨rfl,rfl,rfl,by decide +kernel,rfl,by decide +kernel,by decide +kernel⟩
theorem a5o:a1n ["_law_t","_law_b","_law_c","_law_some","_law_word"] ["_law_t","_law_b","_law_c"] (a0r b7n):=⟨rfl,rfl,rfl,by decide +kernel,rfl,by decide +kernel,by decide +kernel⟩
theorem d5z:a1n ["_law_text_here","_law_sign"] ["_law_text_here"] (a0r d8s):=⟨rfl,rfl,rfl,by decide +kernel,rfl,by decide +kernel,by decide +kernel⟩
theorem d2w:a1n ["_law_text_here","_law_sign"] ["_law_text_here"] (a0r d3n):=⟨rfl,rfl,rfl,by decide +kernel,rfl,by decide +kernel,by decide +kernel⟩
theorem b6h:a1n ["_law_sends","_law_first","_law_last","_law_some","_law_k","_law_source","_law_goal","_law_words"] ["_law_sends","_law_first","_law_last"] (a0r f5l):=⟨rfl,rfl,rfl,by decide +kernel,rfl,by decide +kernel,by decide +kernel⟩
theorem b0g:a1n ["_law_words","_law_lists","_law_tracks","_law_buses","_law_sends","_law_outs","_law_word"] ["_law_words","_law_lists"] (a0r d3o):=⟨rfl,rfl,rfl,by decide +kernel,rfl,by decide +kernel,by decide +kernel⟩
theorem c4t:a1n ["_law_words","_law_lists","_law_tracks","_law_buses","_law_sends","_law_outs"] ["_law_words","_law_lists"] (a0r f0g):=⟨rfl,rfl,rfl,by decide +kernel,rfl,by decide +kernel,by decide +kernel⟩
theorem c4u:a1n ["_law_lines_here","_law_lists","_law_line","_law_words","_law_kind_here"] ["_law_lines_here"] (a0r g0u):=⟨rfl,rfl,rfl,by decide +kernel,rfl,by decide +kernel,by decide +kernel⟩
theorem d6g:a1n ["_law_error","_law_found"] ["_law_error"] (a0r d8t):=⟨rfl,rfl,rfl,by decide +kernel,rfl,by decide +kernel,by decide +kernel⟩
theorem c1i:a1n ["_law_text_here","_law_kind_here","_law_found","_law_error"] ["_law_text_here","_law_kind_here"] (a0r d8u):=⟨rfl,rfl,rfl,by decide +kernel,rfl,by decide +kernel,by decide +kernel⟩
theorem b0h:a1n ["_law_text_here","_law_sends","_law_words","_law_found","_law_error","_law_pairs","_law_k"] ["_law_text_here","_law_sends","_law_words"] (a0r c4s):=⟨rfl,rfl,rfl,by decide +kernel,rfl,by decide +kernel,by decide +kernel⟩
theorem d6s:a1n ["_law_lists","_law_lines_here"] ["_law_lists"] (a0r c3z):=⟨rfl,rfl,rfl,by decide +kernel,rfl,by decide +kernel,by decide +kernel⟩
theorem c4v:a1n ["_law_lines_here","_law_kind_here","_law_lists","_law_words","_law_text_here"] ["_law_lines_here"] (a0r g0v):=⟨rfl,rfl,rfl,by decide +kernel,rfl,by decide +kernel,by decide +kernel⟩
theorem c7w:a1n ["_law_good_here","_law_some","_law_mixed","_law_lines_here","_law_line","_law_k"] ["_law_good_here","_law_some","_law_mixed"] (a0r f5m):=⟨rfl,rfl,rfl,by decide +kernel,rfl,by decide +kernel,by decide +kernel⟩
theorem d8z:a1n ["_law_script","_law_cell","_law_mixed","_law_t","_law_b","_law_c","_law_d","_law_good_here"] ["_law_script"] (a0r i7g):=⟨rfl,rfl,rfl,by decide +kernel,rfl,by decide +kernel,by decide +kernel⟩
set_option genInjectivity false in
structure Ad where
 b5k:Addr
 b6i:FuncData
 b6j:Addr
 b5l:FuncData
 b2w:Addr
 b3t:FuncData
 b6k:Addr
 b5m:FuncData
 c4w:Addr
 c4h:FuncData
 b8t:Addr
 b8u:FuncData
 c4y:Addr
 c4i:FuncData
 b8v:Addr
 b8w:FuncData
 a8n:Addr
 a8r:FuncData
 a8o:Addr
 a8s:FuncData
 b1g:Addr
 b3u:FuncData
 b8y:Addr
 b6l:FuncData
 b8z:Addr
 b6m:FuncData
 b6n:Addr
 b3v:FuncData
 b6o:Addr
 b3w:FuncData
 b2y:Addr
 b2z:FuncData
 b1k:Addr
 b1t:FuncData
 b0n:Addr
 b0q:FuncData
 b7p:Addr
 b9g:FuncData
 b6p:Addr
 b9h:FuncData
 c1p:Addr
 c4j:FuncData
 c1q:Addr
 b9i:FuncData
 b6q:Addr
 b5n:FuncData
 b3g:Addr
 b1l:FuncData
 b3y:Addr
 b1u:FuncData
 b0r:Addr
 a9p:FuncData
 c1r:Addr
 b9j:FuncData
 b6r:Addr
 b3z:FuncData
 a8k:Addr
 a7o:FuncData
 b1m:Addr
 b0s:FuncData
 b5o:Addr
 b3h:FuncData
 b3i:Addr
 b1n:FuncData
 b9k:Addr
 b6s:FuncData
 b5p:Addr
 b3j:FuncData
 b1v:Addr
 b0w:FuncData
 b4g:Addr
 b1w:FuncData
 b4h:Addr
 b1y:FuncData
 b6t:Addr
 b4i:FuncData
 b5q:Addr
 b6u:FuncData
 b9l:Addr
 b9m:FuncData
 c4z:Addr
 c4k:FuncData
 b5r:Addr
 b6v:FuncData
 b9n:Addr
 b9o:FuncData
 b9p:Addr
 b9q:FuncData
 a9q:Addr
 b0i:FuncData
 b1o:Addr
 b1z:FuncData
 a9r:Addr
 b0j:FuncData
 b5s:Addr
 b6w:FuncData
 a9s:Addr
 b0k:FuncData
 b9r:Addr
 b9s:FuncData
 b9t:Addr
 b9u:FuncData
 b1p:Addr
 b2g:FuncData
 b1q:Addr
 b2h:FuncData
 a9t:Addr
 b0l:FuncData
 b9v:Addr
 b9w:FuncData
 b9y:Addr
 b9z:FuncData
 b5t:Addr
 b6y:FuncData
 g5z:Addr
 f2n:FuncData
 a1g:Addr
 a0q:Addr
 a0z:Addr
 a0u:Addr
 a0w:Addr
 a1j:Addr
 a1l:Addr
 a1y:Addr
 a2i:Addr
 a1k:Addr
 a3t:Addr
 f5r:Addr
 c7y:Addr
 b7q:Addr
 g6a:Addr
 c0g:Addr
 b3k:Addr
 a9l:Addr
 d0o:Value
 a7j:Value
 a7k:Value
 c0h:Value
 c0i:Value
 b6z:Value
 g0z:Value
 d0p:Value
 b2j:Value
 a7l:Addr
 wd:World
structure Ty(K:W.Frag)(A:Ad):Prop where
 d6t:W.nsIn K mainGlobals "MixError"=some (some (.ref A.a1g))
 d6u:W.nsIn K mainGlobals "NoNumber"=some (some (.ref A.a0q))
 f5s:W.nsIn K mainGlobals "NoText"=some (some (.ref A.a0z))
 f5t:W.nsIn K mainGlobals "NoPart"=some (some (.ref A.a0u))
 f5u:W.nsIn K mainGlobals "NoName"=some (some (.ref A.a0w))
 g2g:W.nsIn K mainGlobals "Twice"=some (some (.ref A.a1j))
 g2h:W.nsIn K mainGlobals "NoBus"=some (some (.ref A.a1l))
 g8z:W.nsIn K mainGlobals "Ring"=some (some (.ref A.a1y))
 f0h:W.nsIn K mainGlobals "NoBlock"=some (some (.ref A.a2i))
 g2i:W.nsIn K mainGlobals "NoRow"=some (some (.ref A.a1k))
 f5v:W.nsIn K mainGlobals "NoDeed"=some (some (.ref A.a3t))
 g9a:W.nsIn K mainGlobals "Part"=some (some (.ref A.f5r))
 g9b:W.nsIn K mainGlobals "Gain"=some (some (.ref A.c7y))
 g2j:W.nsIn K mainGlobals "Delay"=some (some (.ref A.b7q))
 g9c:W.nsIn K mainGlobals "Hall"=some (some (.ref A.g6a))
 g2k:W.nsIn K mainGlobals "Chain"=some (some (.ref A.c0g))
 f0i:W.nsIn K mainGlobals "Settler"=some (some (.ref A.b3k))
 g2l:W.nsIn K mainGlobals "Patch"=some (some (.ref A.a9l))
 f0j:W.nsIn K mainGlobals "is_whole"=some (some (.ref A.b6j))
 d3r:W.nsIn K mainGlobals "is_figures"=some (some (.ref A.b2w))
 f0k:W.nsIn K mainGlobals "whole_of"=some (some (.ref A.b6k))
 f5w:W.nsIn K mainGlobals "divisor"=some (some (.ref A.c4w))
 f0l:W.nsIn K mainGlobals "fraction"=some (some (.ref A.b8t))
 f5y:W.nsIn K mainGlobals "size_of"=some (some (.ref A.c4y))
 f0m:W.nsIn K mainGlobals "is_under"=some (some (.ref A.b8v))
 c5g:W.nsIn K mainGlobals "fraction_text"=some (some (.ref A.a8n))
 c5h:W.nsIn K mainGlobals "read_fraction"=some (some (.ref A.a8o))
 d6v:W.nsIn K mainGlobals "read_gain"=some (some (.ref A.b2y))
 d1n:W.nsIn K mainGlobals "read_number"=some (some (.ref A.b1k))
 d1o:W.nsIn K mainGlobals "check_count"=some (some (.ref A.b0n))
 f5z:W.nsIn K mainGlobals "gain_of"=some (some (.ref A.b7p))
 f0n:W.nsIn K mainGlobals "delay_of"=some (some (.ref A.b6p))
 f6g:W.nsIn K mainGlobals "hall_of"=some (some (.ref A.c1p))
 f6h:W.nsIn K mainGlobals "part_of"=some (some (.ref A.c1q))
 f0o:W.nsIn K mainGlobals "parts_of"=some (some (.ref A.b6q))
 f6i:W.nsIn K mainGlobals "is_name"=some (some (.ref A.c1r))
 d6w:W.nsIn K mainGlobals "send_line"=some (some (.ref A.b5q))
 f0p:W.nsIn K mainGlobals "out_line"=some (some (.ref A.b9l))
 f6j:W.nsIn K mainGlobals "text_of"=some (some (.ref A.c4z))
 d6y:W.nsIn K mainGlobals "tell_line"=some (some (.ref A.b5r))
 f0q:W.nsIn K mainGlobals "patch_of"=some (some (.ref A.b9n))
 f0r:W.nsIn K mainGlobals "_law_name"=some (some (.ref A.b9p))
 c5i:W.nsIn K mainGlobals "_law_odd_lines"=some (some (.ref A.a9q))
 d1p:W.nsIn K mainGlobals "_law_is_name"=some (some (.ref A.b1o))
 c5j:W.nsIn K mainGlobals "_law_is_number"=some (some (.ref A.a9r))
 d6z:W.nsIn K mainGlobals "_law_leads"=some (some (.ref A.b5s))
 c5k:W.nsIn K mainGlobals "_law_send_kind"=some (some (.ref A.a9s))
 f0s:W.nsIn K mainGlobals "_law_kind"=some (some (.ref A.b9r))
 f0t:W.nsIn K mainGlobals "_law_told"=some (some (.ref A.b9t))
 d1q:W.nsIn K mainGlobals "_law_classes"=some (some (.ref A.b1p))
 d1r:W.nsIn K mainGlobals "_law_refused"=some (some (.ref A.b1q))
 c5l:W.nsIn K mainGlobals "_law_ring_told"=some (some (.ref A.a9t))
 f0u:W.nsIn K mainGlobals "_law_text"=some (some (.ref A.b9v))
 f0v:W.nsIn K mainGlobals "_law_good"=some (some (.ref A.b9y))
 d7g:W.nsIn K mainGlobals "_law_lines"=some (some (.ref A.b5t))
 i1g:W.nsIn K mainGlobals "law"=some (some (.ref A.g5z))
 h7p:W.findIn K (.ref A.a1y) "__init__"=some (some (.ref A.b5k))
 d1s:j8q K A.a1y A.b5k "ring"
 d7h:XIn K A.a1g
 h7q:Cls K A.f5r
 d9g:Meth K A.f5r "fresh" A.b1g
 b4n:Cls K A.c7y
 a6p:a9o K A.c7y "gain"
 h1p:Mk K A.c7y A.b8y
 d3s:Meth K A.c7y "word" A.b8z
 d1t:Meth K A.c7y "fresh" A.b1g
 b0t:Cls K A.b7q
 a5r:a9o K A.b7q "many"
 g9d:Mk K A.b7q A.b6n
 d1u:Meth K A.b7q "word" A.b6o
 c8r:Meth K A.b7q "fresh" A.b1g
 b4j:Cls K A.c0g
 a6l:a9o K A.c0g "parts"
 a5p:a9o K A.c0g "states"
 g2m:Mk K A.c0g A.b3g
 c8s:Meth K A.c0g "words" A.b3y
 b2k:Cls K A.b3k
 a3w:a9o K A.b3k "greatest"
 a6r:a9o K A.b3k "cuts"
 a6s:a9o K A.b3k "rest"
 d9h:Mk K A.b3k A.b0r
 a1i:Cls K A.a9l
 a0j:a9o K A.a9l "track_names"
 a0m:a9o K A.a9l "bus_names"
 a0l:a9o K A.a9l "told_sends"
 a0n:a9o K A.a9l "told_outs"
 g9e:Mk K A.a9l A.b6r
 a8q:Meth K A.a9l "check_new" A.a8k
 c8t:Meth K A.a9l "track" A.b1m
 d3t:Meth K A.a9l "bus" A.b5o
 d1v:Meth K A.a9l "send" A.b3i
 d3u:Meth K A.a9l "way" A.b9k
 d3v:Meth K A.a9l "out" A.b5p
 c5m:Meth K A.a9l "tracks" A.b1v
 c8u:Meth K A.a9l "buses" A.b4g
 c8v:Meth K A.a9l "sends" A.b4h
 d1w:Meth K A.a9l "outs" A.b6t
 d1y:Fun K "__init__" "Ring.__init__" f4w A.b5k A.b6i
 b4k:Fun K "is_whole" "is_whole" g0m A.b6j A.b5l
 b1h:Fun K "is_figures" "is_figures" f1y A.b2w A.b3t
 c0j:Fun K "whole_of" "whole_of" g0n A.b6k A.b5m
 d3w:Fun K "divisor" "divisor" g5r A.c4w A.c4h
 c4l:Fun K "fraction" "fraction" g0o A.b8t A.b8u
 d3y:Fun K "size_of" "size_of" g5s A.c4y A.c4i
 d0q:Fun K "is_under" "is_under" g0p A.b8v A.b8w
 a8p:Fun K "fraction_text" "fraction_text" d3k A.a8n A.a8r
 a9u:Fun K "read_fraction" "read_fraction" d3l A.a8o A.a8s
 c7z:Fun K "fresh" "Part.fresh" f1z A.b1g A.b3u
 d1z:Fun K "__init__" "Gain.__init__" f4y A.b8y A.b6l
 d2g:Fun K "word" "Gain.word" f4z A.b8z A.b6m
 c8g:Fun K "__init__" "Delay.__init__" f2g A.b6n A.b3v
 c8h:Fun K "word" "Delay.word" f2h A.b6o A.b3w
 b3l:Fun K "read_gain" "read_gain" f5g A.b2y A.b2z
 b7r:Fun K "read_number" "read_number" d8n A.b1k A.b1t
 a9m:Fun K "check_count" "check_count" d8o A.b0n A.b0q
 c5n:Fun K "gain_of" "gain_of" g5t A.b7p A.b9g
 d0r:Fun K "delay_of" "delay_of" g0q A.b6p A.b9h
 d3z:Fun K "hall_of" "hall_of" g5u A.c1p A.c4j
 c5o:Fun K "part_of" "part_of" g5v A.c1q A.b9i
 c0k:Fun K "parts_of" "parts_of" d5h A.b6q A.b5n
 c1s:Fun K "__init__" "Chain.__init__" d3m A.b3g A.b1l
 c3m:Fun K "words" "Chain.words" d1k A.b3y A.b1u
 b4u:Fun K "__init__" "Settler.__init__" d5t A.b0r A.a9p
 c5p:Fun K "is_name" "is_name" d8p A.c1r A.b9j
 c8i:Fun K "__init__" "Patch.__init__" f2i A.b6r A.b3z
 b0y:Fun K "check_new" "Patch.check_new" d0l A.a8k A.a7o
 b7s:Fun K "track" "Patch.track" d8q A.b1m A.b0s
 c5q:Fun K "bus" "Patch.bus" f5h A.b5o A.b3h
 c1t:Fun K "send" "Patch.send" f2j A.b3i A.b1n
 d2h:Fun K "way" "Patch.way" f5i A.b9k A.b6s
 c5r:Fun K "out" "Patch.out" d1l A.b5p A.b3j
 c1j:Fun K "tracks" "Patch.tracks" d5u A.b1v A.b0w
 c3n:Fun K "buses" "Patch.buses" d8r A.b4g A.b1w
 c3o:Fun K "sends" "Patch.sends" d1m A.b4h A.b1y
 c8j:Fun K "outs" "Patch.outs" f2k A.b6t A.b4i
 c5s:Fun K "send_line" "send_line" f5j A.b5q A.b6u
 d0s:Fun K "out_line" "out_line" g0r A.b9l A.b9m
 d4g:Fun K "text_of" "text_of" d0m A.c4z A.c4k
 c5t:Fun K "tell_line" "tell_line" f5k A.b5r A.b6v
 c0l:Fun K "patch_of" "patch_of" g0s A.b9n A.b9o
 d0t:Fun K "_law_name" "_law_name" g0t A.b9p A.b9q
 b3m:Fun K "_law_odd_lines" "_law_odd_lines" b7n A.a9q A.b0i
 b7t:Fun K "_law_is_name" "_law_is_name" d8s A.b1o A.b1z
 b3n:Fun K "_law_is_number" "_law_is_number" d3n A.a9r A.b0j
 c5u:Fun K "_law_leads" "_law_leads" f5l A.b5s A.b6w
 b3o:Fun K "_law_send_kind" "_law_send_kind" d3o A.a9s A.b0k
 d0u:Fun K "_law_kind" "_law_kind" f0g A.b9r A.b9s
 d0v:Fun K "_law_told" "_law_told" g0u A.b9t A.b9u
 b7u:Fun K "_law_classes" "_law_classes" d8t A.b1p A.b2g
 b0o:Fun K "_law_refused" "_law_refused" d8u A.b1q A.b2h
 b3p:Fun K "_law_ring_told" "_law_ring_told" c4s A.a9t A.b0l
 d0w:Fun K "_law_text" "_law_text" c3z A.b9v A.b9w
 c4m:Fun K "_law_good" "_law_good" g0v A.b9y A.b9z
 c5v:Fun K "_law_lines" "_law_lines" f5m A.b5t A.b6y
 h7r:Fun K "law" "law" i7g A.g5z A.f2n
 d4h:W.nsIn K mainGlobals "ValueError"=some none
 i7h:W.nsIn K mainGlobals "abs"=some none
 i7i:W.nsIn K mainGlobals "all"=some none
 y_bool:W.nsIn K mainGlobals "bool"=some none
 i7j:W.nsIn K mainGlobals "int"=some none
 d4i:W.nsIn K mainGlobals "isinstance"=some none
 i7k:W.nsIn K mainGlobals "len"=some none
 h7s:W.nsIn K mainGlobals "list"=some none
 g9f:W.nsIn K mainGlobals "range"=some none
 i7l:W.nsIn K mainGlobals "str"=some none
 d7i:W.excIn K A.a0q vE "ValueError.__new__"=true
 f6k:W.excIn K A.a0z vE "ValueError.__new__"=true
 f6l:W.excIn K A.a0u vE "ValueError.__new__"=true
 f6m:W.excIn K A.a0w vE "ValueError.__new__"=true
 g2n:W.excIn K A.a1j vE "ValueError.__new__"=true
 g2o:W.excIn K A.a1l vE "ValueError.__new__"=true
 g2p:W.excIn K A.a1k vE "ValueError.__new__"=true
 g2q:W.keepIn K (.ref A.a0u)=true
 a6u:W.findIn K (.ref A.a1g) "__getattribute__"=some (some (.builtin "BaseException.__getattribute__"))
 a6v:W.findIn K (.ref A.a1g) "__class__"=some (some (.builtin "object.__class__"))
 a6w:W.findIn K (.ref A.a1g) "__getattr__"=some none
 a6y:W.subIn K (.ref A.a1g) (.type "object")=some true
 a6z:W.subIn K (.ref A.a1g) (.type "BaseException")=some true
 a7g:W.typeIn K (.ref A.a1g)=some (.type "type")
 a7h:W.isClsIn K A.a1g=true
 a7i:W.subIn K (.ref A.a1g) (.ref A.a1g)=some true
 a7r:W.findIn K (.ref A.a2i) "__getattribute__"=some (some (.builtin "BaseException.__getattribute__"))
 a7s:W.findIn K (.ref A.a2i) "__class__"=some (some (.builtin "object.__class__"))
 a7t:W.findIn K (.ref A.a2i) "__getattr__"=some none
 a7u:W.subIn K (.ref A.a2i) (.type "object")=some true
 a7v:W.subIn K (.ref A.a2i) (.type "BaseException")=some true
 a7w:W.typeIn K (.ref A.a2i)=some (.type "type")
 a7y:W.isClsIn K A.a2i=true
 a7z:W.subIn K (.ref A.a2i) (.ref A.a2i)=some true
 a4h:W.findIn K (.ref A.a1l) "__getattribute__"=some (some (.builtin "BaseException.__getattribute__"))
 a4i:W.findIn K (.ref A.a1l) "__class__"=some (some (.builtin "object.__class__"))
 a4j:W.findIn K (.ref A.a1l) "__getattr__"=some none
 a4k:W.subIn K (.ref A.a1l) (.type "object")=some true
 a4l:W.subIn K (.ref A.a1l) (.type "BaseException")=some true
 a4m:W.typeIn K (.ref A.a1l)=some (.type "type")
 a4n:W.isClsIn K A.a1l=true
 a4o:W.subIn K (.ref A.a1l) (.ref A.a1l)=some true
 a8t:W.findIn K (.ref A.a3t) "__getattribute__"=some (some (.builtin "BaseException.__getattribute__"))
 a8u:W.findIn K (.ref A.a3t) "__class__"=some (some (.builtin "object.__class__"))
 a8v:W.findIn K (.ref A.a3t) "__getattr__"=some none
 a8w:W.subIn K (.ref A.a3t) (.type "object")=some true
 a8y:W.subIn K (.ref A.a3t) (.type "BaseException")=some true
 a8z:W.typeIn K (.ref A.a3t)=some (.type "type")
 a9g:W.isClsIn K A.a3t=true
 a9h:W.subIn K (.ref A.a3t) (.ref A.a3t)=some true
 a2n:W.findIn K (.ref A.a0w) "__getattribute__"=some (some (.builtin "BaseException.__getattribute__"))
 a2o:W.findIn K (.ref A.a0w) "__class__"=some (some (.builtin "object.__class__"))
 a2p:W.findIn K (.ref A.a0w) "__getattr__"=some none
 a2q:W.subIn K (.ref A.a0w) (.type "object")=some true
 a2r:W.subIn K (.ref A.a0w) (.type "BaseException")=some true
 a2s:W.typeIn K (.ref A.a0w)=some (.type "type")
 a2t:W.isClsIn K A.a0w=true
 a2u:W.subIn K (.ref A.a0w) (.ref A.a0w)=some true
 a1p:W.findIn K (.ref A.a0q) "__getattribute__"=some (some (.builtin "BaseException.__getattribute__"))
 a1q:W.findIn K (.ref A.a0q) "__class__"=some (some (.builtin "object.__class__"))
 a1r:W.findIn K (.ref A.a0q) "__getattr__"=some none
 a1s:W.subIn K (.ref A.a0q) (.type "object")=some true
 a1t:W.subIn K (.ref A.a0q) (.type "BaseException")=some true
 a1u:W.typeIn K (.ref A.a0q)=some (.type "type")
 a1v:W.isClsIn K A.a0q=true
 a1w:W.subIn K (.ref A.a0q) (.ref A.a0q)=some true
 a2v:W.findIn K (.ref A.a0u) "__getattribute__"=some (some (.builtin "BaseException.__getattribute__"))
 a2w:W.findIn K (.ref A.a0u) "__class__"=some (some (.builtin "object.__class__"))
 a2y:W.findIn K (.ref A.a0u) "__getattr__"=some none
 a2z:W.subIn K (.ref A.a0u) (.type "object")=some true
 a3g:W.subIn K (.ref A.a0u) (.type "BaseException")=some true
 a3h:W.typeIn K (.ref A.a0u)=some (.type "type")
 a3i:W.isClsIn K A.a0u=true
 a3j:W.subIn K (.ref A.a0u) (.ref A.a0u)=some true
 a4p:W.findIn K (.ref A.a1k) "__getattribute__"=some (some (.builtin "BaseException.__getattribute__"))
 a4q:W.findIn K (.ref A.a1k) "__class__"=some (some (.builtin "object.__class__"))
 a4r:W.findIn K (.ref A.a1k) "__getattr__"=some none
 a4s:W.subIn K (.ref A.a1k) (.type "object")=some true
 a4t:W.subIn K (.ref A.a1k) (.type "BaseException")=some true
 a4u:W.typeIn K (.ref A.a1k)=some (.type "type")
 a4v:W.isClsIn K A.a1k=true
 a4w:W.subIn K (.ref A.a1k) (.ref A.a1k)=some true
 a3k:W.findIn K (.ref A.a0z) "__getattribute__"=some (some (.builtin "BaseException.__getattribute__"))
 a3l:W.findIn K (.ref A.a0z) "__class__"=some (some (.builtin "object.__class__"))
 a3m:W.findIn K (.ref A.a0z) "__getattr__"=some none
 a3n:W.subIn K (.ref A.a0z) (.type "object")=some true
 a3o:W.subIn K (.ref A.a0z) (.type "BaseException")=some true
 a3p:W.typeIn K (.ref A.a0z)=some (.type "type")
 a3q:W.isClsIn K A.a0z=true
 a3r:W.subIn K (.ref A.a0z) (.ref A.a0z)=some true
 a5v:W.findIn K (.ref A.a1y) "__getattribute__"=some (some (.builtin "BaseException.__getattribute__"))
 a5w:W.findIn K (.ref A.a1y) "__class__"=some (some (.builtin "object.__class__"))
 a5y:W.findIn K (.ref A.a1y) "__getattr__"=some none
 a5z:W.subIn K (.ref A.a1y) (.type "object")=some true
 a6g:W.subIn K (.ref A.a1y) (.type "BaseException")=some true
 a6h:W.typeIn K (.ref A.a1y)=some (.type "type")
 a6i:W.isClsIn K A.a1y=true
 a6j:W.subIn K (.ref A.a1y) (.ref A.a1y)=some true
 a4y:W.findIn K (.ref A.a1j) "__getattribute__"=some (some (.builtin "BaseException.__getattribute__"))
 a4z:W.findIn K (.ref A.a1j) "__class__"=some (some (.builtin "object.__class__"))
 a5g:W.findIn K (.ref A.a1j) "__getattr__"=some none
 a5h:W.subIn K (.ref A.a1j) (.type "object")=some true
 a5i:W.subIn K (.ref A.a1j) (.type "BaseException")=some true
 a5j:W.typeIn K (.ref A.a1j)=some (.type "type")
 a5k:W.isClsIn K A.a1j=true
 a5l:W.subIn K (.ref A.a1j) (.ref A.a1j)=some true
 b4o:W.subIn K (.ref A.a0q) (.ref A.a1g)=some true
 b5u:W.subIn K (.ref A.a0q) (.ref A.a1g)=some true
 b5v:W.subIn K (.ref A.a0q) (.ref A.a2i)=some false
 c0m:W.subIn K (.ref A.a0q) (.ref A.a1l)=some false
 b7v:W.subIn K (.ref A.a0q) (.ref A.a3t)=some false
 b7w:W.subIn K (.ref A.a0q) (.ref A.a0w)=some false
 b4p:W.subIn K (.ref A.a0q) (.ref A.a0q)=some true
 c5w:W.subIn K (.ref A.a0q) (.ref A.a0q)=some true
 b7y:W.subIn K (.ref A.a0q) (.ref A.a0u)=some false
 c0n:W.subIn K (.ref A.a0q) (.ref A.a1k)=some false
 b7z:W.subIn K (.ref A.a0q) (.ref A.a0z)=some false
 c1y:W.subIn K (.ref A.a0q) (.ref A.a1y)=some false
 c0o:W.subIn K (.ref A.a0q) (.ref A.a1j)=some false
 b2m:W.subIn K (.ref A.a0q) (.type "ValueError")=some true
 b8g:W.subIn K (.ref A.a0z) (.ref A.a1g)=some true
 d0y:W.subIn K (.ref A.a0z) (.ref A.a1g)=some true
 c0p:W.subIn K (.ref A.a0z) (.ref A.a2i)=some false
 c5y:W.subIn K (.ref A.a0z) (.ref A.a1l)=some false
 c1z:W.subIn K (.ref A.a0z) (.ref A.a3t)=some false
 c2g:W.subIn K (.ref A.a0z) (.ref A.a0w)=some false
 b8h:W.subIn K (.ref A.a0z) (.ref A.a0q)=some false
 c2h:W.subIn K (.ref A.a0z) (.ref A.a0u)=some false
 c5z:W.subIn K (.ref A.a0z) (.ref A.a1k)=some false
 c2i:W.subIn K (.ref A.a0z) (.ref A.a0z)=some true
 c6g:W.subIn K (.ref A.a0z) (.ref A.a0z)=some true
 c8w:W.subIn K (.ref A.a0z) (.ref A.a1y)=some false
 c6h:W.subIn K (.ref A.a0z) (.ref A.a1j)=some false
 b4q:W.subIn K (.ref A.a0z) (.type "ValueError")=some true
 b8i:W.subIn K (.ref A.a0u) (.ref A.a1g)=some true
 c0q:W.subIn K (.ref A.a0u) (.ref A.a1g)=some true
 c0r:W.subIn K (.ref A.a0u) (.ref A.a2i)=some false
 c6i:W.subIn K (.ref A.a0u) (.ref A.a1l)=some false
 c2j:W.subIn K (.ref A.a0u) (.ref A.a3t)=some false
 c2k:W.subIn K (.ref A.a0u) (.ref A.a0w)=some false
 b8j:W.subIn K (.ref A.a0u) (.ref A.a0q)=some false
 c2l:W.subIn K (.ref A.a0u) (.ref A.a0u)=some true
 d4j:W.subIn K (.ref A.a0u) (.ref A.a0u)=some true
 c6j:W.subIn K (.ref A.a0u) (.ref A.a1k)=some false
 c2m:W.subIn K (.ref A.a0u) (.ref A.a0z)=some false
 c8y:W.subIn K (.ref A.a0u) (.ref A.a1y)=some false
 c6k:W.subIn K (.ref A.a0u) (.ref A.a1j)=some false
 b4r:W.subIn K (.ref A.a0u) (.type "ValueError")=some true
 b8k:W.subIn K (.ref A.a0w) (.ref A.a1g)=some true
 c0s:W.subIn K (.ref A.a0w) (.ref A.a1g)=some true
 c0t:W.subIn K (.ref A.a0w) (.ref A.a2i)=some false
 c6l:W.subIn K (.ref A.a0w) (.ref A.a1l)=some false
 c2n:W.subIn K (.ref A.a0w) (.ref A.a3t)=some false
 c2o:W.subIn K (.ref A.a0w) (.ref A.a0w)=some true
 d4k:W.subIn K (.ref A.a0w) (.ref A.a0w)=some true
 b8l:W.subIn K (.ref A.a0w) (.ref A.a0q)=some false
 c2p:W.subIn K (.ref A.a0w) (.ref A.a0u)=some false
 c6m:W.subIn K (.ref A.a0w) (.ref A.a1k)=some false
 c2q:W.subIn K (.ref A.a0w) (.ref A.a0z)=some false
 c8z:W.subIn K (.ref A.a0w) (.ref A.a1y)=some false
 c6n:W.subIn K (.ref A.a0w) (.ref A.a1j)=some false
 b4s:W.subIn K (.ref A.a0w) (.type "ValueError")=some true
 c0u:W.subIn K (.ref A.a1j) (.ref A.a1g)=some true
 c2r:W.subIn K (.ref A.a1j) (.ref A.a1g)=some true
 c2s:W.subIn K (.ref A.a1j) (.ref A.a2i)=some false
 c9g:W.subIn K (.ref A.a1j) (.ref A.a1l)=some false
 c6o:W.subIn K (.ref A.a1j) (.ref A.a3t)=some false
 c6p:W.subIn K (.ref A.a1j) (.ref A.a0w)=some false
 c0v:W.subIn K (.ref A.a1j) (.ref A.a0q)=some false
 c6q:W.subIn K (.ref A.a1j) (.ref A.a0u)=some false
 c9h:W.subIn K (.ref A.a1j) (.ref A.a1k)=some false
 c6r:W.subIn K (.ref A.a1j) (.ref A.a0z)=some false
 d2i:W.subIn K (.ref A.a1j) (.ref A.a1y)=some false
 c9i:W.subIn K (.ref A.a1j) (.ref A.a1j)=some true
 d9i:W.subIn K (.ref A.a1j) (.ref A.a1j)=some true
 b5w:W.subIn K (.ref A.a1j) (.type "ValueError")=some true
 c0w:W.subIn K (.ref A.a1l) (.ref A.a1g)=some true
 c2t:W.subIn K (.ref A.a1l) (.ref A.a1g)=some true
 c2u:W.subIn K (.ref A.a1l) (.ref A.a2i)=some false
 c9j:W.subIn K (.ref A.a1l) (.ref A.a1l)=some true
 d9j:W.subIn K (.ref A.a1l) (.ref A.a1l)=some true
 c6s:W.subIn K (.ref A.a1l) (.ref A.a3t)=some false
 c6t:W.subIn K (.ref A.a1l) (.ref A.a0w)=some false
 c0y:W.subIn K (.ref A.a1l) (.ref A.a0q)=some false
 c6u:W.subIn K (.ref A.a1l) (.ref A.a0u)=some false
 c9k:W.subIn K (.ref A.a1l) (.ref A.a1k)=some false
 c6v:W.subIn K (.ref A.a1l) (.ref A.a0z)=some false
 d2j:W.subIn K (.ref A.a1l) (.ref A.a1y)=some false
 c9l:W.subIn K (.ref A.a1l) (.ref A.a1j)=some false
 b5y:W.subIn K (.ref A.a1l) (.type "ValueError")=some true
 c0z:W.subIn K (.ref A.a1k) (.ref A.a1g)=some true
 b4v:W.subIn K (.ref A.a1k) (.ref A.a1g)=some true
 c2v:W.subIn K (.ref A.a1k) (.ref A.a2i)=some false
 c9m:W.subIn K (.ref A.a1k) (.ref A.a1l)=some false
 c6w:W.subIn K (.ref A.a1k) (.ref A.a3t)=some false
 c6y:W.subIn K (.ref A.a1k) (.ref A.a0w)=some false
 c1g:W.subIn K (.ref A.a1k) (.ref A.a0q)=some false
 c6z:W.subIn K (.ref A.a1k) (.ref A.a0u)=some false
 c9n:W.subIn K (.ref A.a1k) (.ref A.a1k)=some true
 d9k:W.subIn K (.ref A.a1k) (.ref A.a1k)=some true
 c7g:W.subIn K (.ref A.a1k) (.ref A.a0z)=some false
 d2k:W.subIn K (.ref A.a1k) (.ref A.a1y)=some false
 c9o:W.subIn K (.ref A.a1k) (.ref A.a1j)=some false
 b5z:W.subIn K (.ref A.a1k) (.type "ValueError")=some true
 c2w:W.subIn K (.ref A.a1y) (.ref A.a1g)=some true
 b8m:W.subIn K (.ref A.a1y) (.ref A.a1g)=some true
 c7h:W.subIn K (.ref A.a1y) (.ref A.a2i)=some false
 d2l:W.subIn K (.ref A.a1y) (.ref A.a1l)=some false
 c9p:W.subIn K (.ref A.a1y) (.ref A.a3t)=some false
 c9q:W.subIn K (.ref A.a1y) (.ref A.a0w)=some false
 c2y:W.subIn K (.ref A.a1y) (.ref A.a0q)=some false
 c9r:W.subIn K (.ref A.a1y) (.ref A.a0u)=some false
 d2m:W.subIn K (.ref A.a1y) (.ref A.a1k)=some false
 c9s:W.subIn K (.ref A.a1y) (.ref A.a0z)=some false
 d4l:W.subIn K (.ref A.a1y) (.ref A.a1y)=some true
 d7j:W.subIn K (.ref A.a1y) (.ref A.a1y)=some true
 d2n:W.subIn K (.ref A.a1y) (.ref A.a1j)=some false
 b8n:W.subIn K (.ref A.a1y) (.type "ValueError")=some true
 c2z:W.subIn K (.type "NoneType") (.ref A.a1g)=some false
 c7i:W.subIn K (.type "NoneType") (.ref A.a2i)=some false
 d2o:W.subIn K (.type "NoneType") (.ref A.a1l)=some false
 c9t:W.subIn K (.type "NoneType") (.ref A.a3t)=some false
 c9u:W.subIn K (.type "NoneType") (.ref A.a0w)=some false
 c3g:W.subIn K (.type "NoneType") (.ref A.a0q)=some false
 c9v:W.subIn K (.type "NoneType") (.ref A.a0u)=some false
 d2p:W.subIn K (.type "NoneType") (.ref A.a1k)=some false
 c9w:W.subIn K (.type "NoneType") (.ref A.a0z)=some false
 d4m:W.subIn K (.type "NoneType") (.ref A.a1y)=some false
 d2q:W.subIn K (.type "NoneType") (.ref A.a1j)=some false
 f0w:W.nsIn K mainGlobals "FIGURES"=some (some A.d0o)
 f0y:RelV (.str "0123456789") A.d0o
 b2n:W.nsIn K mainGlobals "MOST_FIGURES_wholes"=some (some A.a7j)
 a9v:RelV (.int 13) A.a7j
 b2o:W.nsIn K mainGlobals "MOST_FIGURES_ratios"=some (some A.a7k)
 a9w:RelV (.int 9) A.a7k
 d4n:W.nsIn K mainGlobals "MOST_GAIN"=some (some A.c0h)
 c8k:RelV (.int 1000) A.c0h
 d4o:W.nsIn K mainGlobals "MOST_MANY"=some (some A.c0i)
 d4p:RelV (.int 1000) A.c0i
 d2r:W.nsIn K mainGlobals "MOST_PARTS"=some (some A.b6z)
 c3p:RelV (.int 8) A.b6z
 g9g:W.nsIn K mainGlobals "MOST"=some (some A.g0z)
 g2r:RelV (.int 1000000000000) A.g0z
 f0z:W.nsIn K mainGlobals "LETTERS"=some (some A.d0p)
 d5j:RelV (.str "abcdefghijklmnopqrstuvwxyz") A.d0p
 c7j:W.nsIn K mainGlobals "MOST_LETTERS"=some (some A.b2j)
 b8o:RelV (.int 8) A.b2j
 f1g:W.nsIn K mainGlobals "READERS"=some (some (.ref A.a7l))
 b3q:W.nsIn K A.a7l "gain"=some (some (.ref A.b7p))
 b4w:W.nsIn K A.a7l "delay"=some (some (.ref A.b6p))
 c7k:W.nsIn K A.a7l "hall"=some (some (.ref A.c1p))
 d7k:W.nsIn K A.a7l ""=some none
 c9y:W.nsIn K A.a7l "bad"=some none
structure Tx(K:W.Frag)(mg:Str->Option Value)(A:Ad):Prop extends Ty K A where
 g9h:Binds K A.b6i ["self","ring"] []
 d5k:Binds K A.b5l ["value"] []
 d5l:mg "is_whole"=some (.ref A.b6j)
 c8l:Binds K A.b3t ["text"] []
 c8m:mg "is_figures"=some (.ref A.b2w)
 g1a:Binds K A.b5m ["text"] []
 g1b:mg "whole_of"=some (.ref A.b6k)
 h7t:Binds K A.c4h ["one","other"] []
 h7u:mg "divisor"=some (.ref A.c4w)
 g1c:Binds K A.b8u ["top","bottom"] []
 g1d:mg "fraction"=some (.ref A.b8t)
 h7v:Binds K A.c4i ["one"] []
 h7w:mg "size_of"=some (.ref A.c4y)
 h3m:Binds K A.b8w ["one","other"] []
 h3n:mg "is_under"=some (.ref A.b8v)
 c7l:Binds K A.a8r ["one"] []
 c7m:mg "fraction_text"=some (.ref A.a8n)
 d4q:Binds K A.a8s ["text"] []
 d4r:mg "read_fraction"=some (.ref A.a8o)
 f2o:Binds K A.b3u ["self"] []
 f6n:Binds K A.b6l ["self","gain"] []
 g9i:Binds K A.b6m ["self"] []
 g6b:Binds K A.b3v ["self","many"] []
 g6c:Binds K A.b3w ["self"] []
 d7l:Binds K A.b2z ["text"] []
 d7m:mg "read_gain"=some (.ref A.b2y)
 g2s:Binds K A.b1t ["text","least","most"] []
 g2t:mg "read_number"=some (.ref A.b1k)
 c3q:Binds K A.b0q ["values","count"] []
 c3r:mg "check_count"=some (.ref A.b0n)
 g6d:Binds K A.b9g ["values"] []
 j3r:mg "gain_of"=some (.ref A.b7p)
 h3o:Binds K A.b9h ["values"] []
 i9r:mg "delay_of"=some (.ref A.b6p)
 h7x:Binds K A.c4j ["values"] []
 j3s:mg "hall_of"=some (.ref A.c1p)
 g6e:Binds K A.b9i ["word"] []
 g6f:mg "part_of"=some (.ref A.c1q)
 g1e:Binds K A.b5n ["words"] []
 g1f:mg "parts_of"=some (.ref A.b6q)
 f2p:Binds K A.b1l ["self","words"] []
 g2u:Binds K A.b1u ["self"] []
 d6h:Binds K A.a9p ["self","greatest"] []
 g6g:Binds K A.b9j ["value"] []
 g6h:mg "is_name"=some (.ref A.c1r)
 g6i:Binds K A.b3z ["self"] []
 b4l:Binds K A.a7o ["self","name"] []
 g2v:Binds K A.b0s ["self","name"] []
 g9j:Binds K A.b3h ["self","name"] []
 g6j:Binds K A.b1n ["self","source","bus","words"] []
 g9k:Binds K A.b6s ["self","start","end"] []
 g9l:Binds K A.b3j ["self","bus","greatest"] []
 f8v:Binds K A.b0w ["self"] []
 g2w:Binds K A.b1w ["self"] []
 g2x:Binds K A.b1y ["self"] []
 g6k:Binds K A.b4i ["self"] []
 g9m:Binds K A.b6u ["send"] []
 g9n:mg "send_line"=some (.ref A.b5q)
 h3p:Binds K A.b9m ["out"] []
 h3q:mg "out_line"=some (.ref A.b9l)
 h7y:Binds K A.c4k ["patch"] []
 h7z:mg "text_of"=some (.ref A.c4z)
 g9o:Binds K A.b6v ["patch","line"] []
 g9p:mg "tell_line"=some (.ref A.b5r)
 f1h:Binds K A.b9o ["text"] []
 f1i:mg "patch_of"=some (.ref A.b9n)
 h3r:Binds K A.b9q ["_law_head","_law_k"] []
 h3s:mg "_law_name"=some (.ref A.b9p)
 f6o:Binds K A.b0i ["_law_t","_law_b","_law_c"] []
 f6p:mg "_law_odd_lines"=some (.ref A.a9q)
 g2y:Binds K A.b1z ["_law_text_here"] []
 g2z:mg "_law_is_name"=some (.ref A.b1o)
 f6q:Binds K A.b0j ["_law_text_here"] []
 f6r:mg "_law_is_number"=some (.ref A.a9r)
 g9q:Binds K A.b6w ["_law_sends","_law_first","_law_last"] []
 g9r:mg "_law_leads"=some (.ref A.b5s)
 f6s:Binds K A.b0k ["_law_words","_law_lists"] []
 f6t:mg "_law_send_kind"=some (.ref A.a9s)
 h3t:Binds K A.b9s ["_law_words","_law_lists"] []
 h3u:mg "_law_kind"=some (.ref A.b9r)
 h3v:Binds K A.b9u ["_law_lines_here"] []
 h3w:mg "_law_told"=some (.ref A.b9t)
 g3a:Binds K A.b2g ["_law_error"] []
 g3b:mg "_law_classes"=some (.ref A.b1p)
 c3s:Binds K A.b2h ["_law_text_here","_law_kind_here"] []
 c3t:mg "_law_refused"=some (.ref A.b1q)
 f6u:Binds K A.b0l ["_law_text_here","_law_sends","_law_words"] []
 f6v:mg "_law_ring_told"=some (.ref A.a9t)
 h3x:Binds K A.b9w ["_law_lists"] []
 h3y:mg "_law_text"=some (.ref A.b9v)
 g1g:Binds K A.b9z ["_law_lines_here"] []
 g1h:mg "_law_good"=some (.ref A.b9y)
 g9s:Binds K A.b6y ["_law_good_here","_law_some","_law_mixed"] []
 g9t:mg "_law_lines"=some (.ref A.b5t)
 b_law:Binds K A.f2n ["_law_script"] []
 m_law:mg "law"=some (.ref A.g5z)
 g6l:mg "ValueError"=none
 i1h:mg "abs"=none
 j3t:mg "all"=none
 i4n:mg "bool"=none
 f2u:mg "int"=none
 a1z:mg "isinstance"=none
 c1h:mg "len"=none
 d9l:mg "list"=none
 g3c:mg "range"=none
 g9u:mg "str"=none
 f6w:mg "MixError"=some (.ref A.a1g)
 f6y:mg "NoNumber"=some (.ref A.a0q)
 c7n:mg "NoText"=some (.ref A.a0z)
 c1u:mg "NoPart"=some (.ref A.a0u)
 g6m:mg "NoName"=some (.ref A.a0w)
 g3d:mg "Twice"=some (.ref A.a1j)
 d5m:mg "NoBus"=some (.ref A.a1l)
 g9v:mg "Ring"=some (.ref A.a1y)
 h3z:mg "NoBlock"=some (.ref A.a2i)
 g3e:mg "NoRow"=some (.ref A.a1k)
 h8a:mg "NoDeed"=some (.ref A.a3t)
 j8u:mg "Part"=some (.ref A.f5r)
 h8b:mg "Gain"=some (.ref A.c7y)
 i1i:mg "Delay"=some (.ref A.b7q)
 j8v:mg "Hall"=some (.ref A.g6a)
 h1q:mg "Chain"=some (.ref A.c0g)
 g1i:mg "Settler"=some (.ref A.b3k)
 i1j:mg "Patch"=some (.ref A.a9l)
 h4a:Exc K A.a0q
 d9m:Exc K A.a0z
 d2s:Exc K A.a0u
 i1k:Exc K A.a0w
 h8c:Exc K A.a1j
 f6z:Exc K A.a1l
 h8d:Exc K A.a1k
 h4b:d3j K A.a1g
 j3u:d3j K A.a2i
 i7m:d3j K A.a1l
 j6j:d3j K A.a3t
 i1l:d3j K A.a0w
 h4d:d3j K A.a0q
 i1m:d3j K A.a0u
 i7n:d3j K A.a1k
 i1n:d3j K A.a0z
 h1r:d3j K A.a1y
 i7o:d3j K A.a1j
 g9w:W.kitOne K (.ref A.a0q) (.ref A.a1g)=some true
 d9n:W.kitOne K (.ref A.a0q) (.ref A.a2i)=some false
 f2v:W.kitOne K (.ref A.a0q) (.ref A.a1l)=some false
 f1j:W.kitOne K (.ref A.a0q) (.ref A.a3t)=some false
 f1k:W.kitOne K (.ref A.a0q) (.ref A.a0w)=some false
 d7n:W.kitOne K (.ref A.a0q) (.ref A.a0q)=some true
 f1l:W.kitOne K (.ref A.a0q) (.ref A.a0u)=some false
 f2w:W.kitOne K (.ref A.a0q) (.ref A.a1k)=some false
 f1m:W.kitOne K (.ref A.a0q) (.ref A.a0z)=some false
 f7g:W.kitOne K (.ref A.a0q) (.ref A.a1y)=some false
 f2y:W.kitOne K (.ref A.a0q) (.ref A.a1j)=some false
 d4s:W.kitOne K (.ref A.a0q) (.type "ValueError")=some true
 h4e:W.kitOne K (.ref A.a0z) (.ref A.a1g)=some true
 h4x:W.kitOne K (.ref A.a0z) (.ref A.a2i)=some false
 h9f:W.kitOne K (.ref A.a0z) (.ref A.a1l)=some false
 h8e:W.kitOne K (.ref A.a0z) (.ref A.a3t)=some false
 h8f:W.kitOne K (.ref A.a0z) (.ref A.a0w)=some false
 h4f:W.kitOne K (.ref A.a0z) (.ref A.a0q)=some false
 h8g:W.kitOne K (.ref A.a0z) (.ref A.a0u)=some false
 h9g:W.kitOne K (.ref A.a0z) (.ref A.a1k)=some false
 h8h:W.kitOne K (.ref A.a0z) (.ref A.a0z)=some true
 i1o:W.kitOne K (.ref A.a0z) (.ref A.a1y)=some false
 h9h:W.kitOne K (.ref A.a0z) (.ref A.a1j)=some false
 g9x:W.kitOne K (.ref A.a0z) (.type "ValueError")=some true
 h4g:W.kitOne K (.ref A.a0u) (.ref A.a1g)=some true
 f2z:W.kitOne K (.ref A.a0u) (.ref A.a2i)=some false
 f8w:W.kitOne K (.ref A.a0u) (.ref A.a1l)=some false
 f7h:W.kitOne K (.ref A.a0u) (.ref A.a3t)=some false
 f7i:W.kitOne K (.ref A.a0u) (.ref A.a0w)=some false
 f1n:W.kitOne K (.ref A.a0u) (.ref A.a0q)=some false
 f7j:W.kitOne K (.ref A.a0u) (.ref A.a0u)=some true
 f8y:W.kitOne K (.ref A.a0u) (.ref A.a1k)=some false
 f7k:W.kitOne K (.ref A.a0u) (.ref A.a0z)=some false
 g3f:W.kitOne K (.ref A.a0u) (.ref A.a1y)=some false
 f8z:W.kitOne K (.ref A.a0u) (.ref A.a1j)=some false
 d7o:W.kitOne K (.ref A.a0u) (.type "ValueError")=some true
 h4h:W.kitOne K (.ref A.a0w) (.ref A.a1g)=some true
 f3g:W.kitOne K (.ref A.a0w) (.ref A.a2i)=some false
 f9g:W.kitOne K (.ref A.a0w) (.ref A.a1l)=some false
 f7l:W.kitOne K (.ref A.a0w) (.ref A.a3t)=some false
 f7m:W.kitOne K (.ref A.a0w) (.ref A.a0w)=some true
 f1o:W.kitOne K (.ref A.a0w) (.ref A.a0q)=some false
 f7n:W.kitOne K (.ref A.a0w) (.ref A.a0u)=some false
 f9h:W.kitOne K (.ref A.a0w) (.ref A.a1k)=some false
 f7o:W.kitOne K (.ref A.a0w) (.ref A.a0z)=some false
 g3g:W.kitOne K (.ref A.a0w) (.ref A.a1y)=some false
 f9i:W.kitOne K (.ref A.a0w) (.ref A.a1j)=some false
 d7p:W.kitOne K (.ref A.a0w) (.type "ValueError")=some true
 h4y:W.kitOne K (.ref A.a1j) (.ref A.a1g)=some true
 f7p:W.kitOne K (.ref A.a1j) (.ref A.a2i)=some false
 g3h:W.kitOne K (.ref A.a1j) (.ref A.a1l)=some false
 f9j:W.kitOne K (.ref A.a1j) (.ref A.a3t)=some false
 f9k:W.kitOne K (.ref A.a1j) (.ref A.a0w)=some false
 f3h:W.kitOne K (.ref A.a1j) (.ref A.a0q)=some false
 f9l:W.kitOne K (.ref A.a1j) (.ref A.a0u)=some false
 g3i:W.kitOne K (.ref A.a1j) (.ref A.a1k)=some false
 f9m:W.kitOne K (.ref A.a1j) (.ref A.a0z)=some false
 g6n:W.kitOne K (.ref A.a1j) (.ref A.a1y)=some false
 g3j:W.kitOne K (.ref A.a1j) (.ref A.a1j)=some true
 d9o:W.kitOne K (.ref A.a1j) (.type "ValueError")=some true
 h4z:W.kitOne K (.ref A.a1l) (.ref A.a1g)=some true
 f7q:W.kitOne K (.ref A.a1l) (.ref A.a2i)=some false
 g3k:W.kitOne K (.ref A.a1l) (.ref A.a1l)=some true
 f9n:W.kitOne K (.ref A.a1l) (.ref A.a3t)=some false
 f9o:W.kitOne K (.ref A.a1l) (.ref A.a0w)=some false
 f3i:W.kitOne K (.ref A.a1l) (.ref A.a0q)=some false
 f9p:W.kitOne K (.ref A.a1l) (.ref A.a0u)=some false
 g3l:W.kitOne K (.ref A.a1l) (.ref A.a1k)=some false
 f9q:W.kitOne K (.ref A.a1l) (.ref A.a0z)=some false
 g6o:W.kitOne K (.ref A.a1l) (.ref A.a1y)=some false
 g3m:W.kitOne K (.ref A.a1l) (.ref A.a1j)=some false
 d9p:W.kitOne K (.ref A.a1l) (.type "ValueError")=some true
 h5a:W.kitOne K (.ref A.a1k) (.ref A.a1g)=some true
 f7r:W.kitOne K (.ref A.a1k) (.ref A.a2i)=some false
 g3n:W.kitOne K (.ref A.a1k) (.ref A.a1l)=some false
 f9r:W.kitOne K (.ref A.a1k) (.ref A.a3t)=some false
 f9s:W.kitOne K (.ref A.a1k) (.ref A.a0w)=some false
 f3j:W.kitOne K (.ref A.a1k) (.ref A.a0q)=some false
 f9t:W.kitOne K (.ref A.a1k) (.ref A.a0u)=some false
 g3o:W.kitOne K (.ref A.a1k) (.ref A.a1k)=some true
 f9u:W.kitOne K (.ref A.a1k) (.ref A.a0z)=some false
 g6p:W.kitOne K (.ref A.a1k) (.ref A.a1y)=some false
 g3p:W.kitOne K (.ref A.a1k) (.ref A.a1j)=some false
 d9q:W.kitOne K (.ref A.a1k) (.type "ValueError")=some true
 h8i:W.kitOne K (.ref A.a1y) (.ref A.a1g)=some true
 f9v:W.kitOne K (.ref A.a1y) (.ref A.a2i)=some false
 g6q:W.kitOne K (.ref A.a1y) (.ref A.a1l)=some false
 g3q:W.kitOne K (.ref A.a1y) (.ref A.a3t)=some false
 g3r:W.kitOne K (.ref A.a1y) (.ref A.a0w)=some false
 f7s:W.kitOne K (.ref A.a1y) (.ref A.a0q)=some false
 g3s:W.kitOne K (.ref A.a1y) (.ref A.a0u)=some false
 g6r:W.kitOne K (.ref A.a1y) (.ref A.a1k)=some false
 g3t:W.kitOne K (.ref A.a1y) (.ref A.a0z)=some false
 g9y:W.kitOne K (.ref A.a1y) (.ref A.a1y)=some true
 g6s:W.kitOne K (.ref A.a1y) (.ref A.a1j)=some false
 f1p:W.kitOne K (.ref A.a1y) (.type "ValueError")=some true
 h8j:W.kitOne K (.type "NoneType") (.ref A.a1g)=some false
 h9i:W.kitOne K (.type "NoneType") (.ref A.a2i)=some false
 i4o:W.kitOne K (.type "NoneType") (.ref A.a1l)=some false
 i1p:W.kitOne K (.type "NoneType") (.ref A.a3t)=some false
 i1q:W.kitOne K (.type "NoneType") (.ref A.a0w)=some false
 h8k:W.kitOne K (.type "NoneType") (.ref A.a0q)=some false
 i1r:W.kitOne K (.type "NoneType") (.ref A.a0u)=some false
 i4p:W.kitOne K (.type "NoneType") (.ref A.a1k)=some false
 i1s:W.kitOne K (.type "NoneType") (.ref A.a0z)=some false
 i7p:W.kitOne K (.type "NoneType") (.ref A.a1y)=some false
 i4q:W.kitOne K (.type "NoneType") (.ref A.a1j)=some false
 h4i:W.kitOne K (.type "NoneType") (.type "ValueError")=some false
 h4j:mg "FIGURES"=some A.d0o
 b8q:mg "MOST_FIGURES_wholes"=some A.a7j
 b8r:mg "MOST_FIGURES_ratios"=some A.a7k
 f2q:mg "MOST_GAIN"=some A.c0h
 g6t:mg "MOST_MANY"=some A.c0i
 d9r:mg "MOST_PARTS"=some A.b6z
 h8l:mg "MOST"=some A.g0z
 g1j:mg "LETTERS"=some A.d0p
 d4t:mg "MOST_LETTERS"=some A.b2j
 c4n:mg "READERS"=some (.ref A.a7l)
 g1k:j8d K A.wd A.a7l
theorem nq0:(("__init__":Str) == ("gain":Str))=false:=by decide +kernel
theorem nq1:(("word":Str) == ("gain":Str))=false:=by decide +kernel
theorem nq2:(("fresh":Str) == ("gain":Str))=false:=by decide +kernel
theorem nq3:(("__init__":Str) == ("many":Str))=false:=by decide +kernel
theorem nq4:(("word":Str) == ("many":Str))=false:=by decide +kernel
theorem nq5:(("fresh":Str) == ("many":Str))=false:=by decide +kernel
theorem nq6:(("parts":Str) == ("states":Str))=false:=by decide +kernel
theorem nq7:(("states":Str) == ("parts":Str))=false:=by decide +kernel
theorem nq8:(("__init__":Str) == ("parts":Str))=false:=by decide +kernel
theorem nq9:(("__init__":Str) == ("states":Str))=false:=by decide +kernel
theorem nq10:(("words":Str) == ("parts":Str))=false:=by decide +kernel
theorem nq11:(("words":Str) == ("states":Str))=false:=by decide +kernel
theorem nq12:(("greatest":Str) == ("cuts":Str))=false:=by decide +kernel
theorem nq13:(("greatest":Str) == ("rest":Str))=false:=by decide +kernel
theorem nq14:(("cuts":Str) == ("greatest":Str))=false:=by decide +kernel
theorem nq15:(("cuts":Str) == ("rest":Str))=false:=by decide +kernel
theorem nq16:(("rest":Str) == ("greatest":Str))=false:=by decide +kernel
theorem nq17:(("rest":Str) == ("cuts":Str))=false:=by decide +kernel
theorem nq18:(("__init__":Str) == ("greatest":Str))=false:=by decide +kernel
theorem nq19:(("__init__":Str) == ("cuts":Str))=false:=by decide +kernel
theorem nq20:(("__init__":Str) == ("rest":Str))=false:=by decide +kernel
theorem nq21:(("track_names":Str) == ("bus_names":Str))=false:=by decide +kernel
theorem nq22:(("track_names":Str) == ("told_sends":Str))=false:=by decide +kernel
theorem nq23:(("track_names":Str) == ("told_outs":Str))=false:=by decide +kernel
theorem nq24:(("bus_names":Str) == ("track_names":Str))=false:=by decide +kernel
theorem nq25:(("bus_names":Str) == ("told_sends":Str))=false:=by decide +kernel
theorem nq26:(("bus_names":Str) == ("told_outs":Str))=false:=by decide +kernel
theorem nq27:(("told_sends":Str) == ("track_names":Str))=false:=by decide +kernel
theorem nq28:(("told_sends":Str) == ("bus_names":Str))=false:=by decide +kernel
theorem nq29:(("told_sends":Str) == ("told_outs":Str))=false:=by decide +kernel
theorem nq30:(("told_outs":Str) == ("track_names":Str))=false:=by decide +kernel
theorem nq31:(("told_outs":Str) == ("bus_names":Str))=false:=by decide +kernel
theorem nq32:(("told_outs":Str) == ("told_sends":Str))=false:=by decide +kernel
theorem nq33:(("__init__":Str) == ("track_names":Str))=false:=by decide +kernel
theorem nq34:(("__init__":Str) == ("bus_names":Str))=false:=by decide +kernel
theorem nq35:(("__init__":Str) == ("told_sends":Str))=false:=by decide +kernel
theorem nq36:(("__init__":Str) == ("told_outs":Str))=false:=by decide +kernel
theorem nq37:(("check_new":Str) == ("track_names":Str))=false:=by decide +kernel
theorem nq38:(("check_new":Str) == ("bus_names":Str))=false:=by decide +kernel
theorem nq39:(("check_new":Str) == ("told_sends":Str))=false:=by decide +kernel
theorem nq40:(("check_new":Str) == ("told_outs":Str))=false:=by decide +kernel
theorem nq41:(("track":Str) == ("track_names":Str))=false:=by decide +kernel
theorem nq42:(("track":Str) == ("bus_names":Str))=false:=by decide +kernel
theorem nq43:(("track":Str) == ("told_sends":Str))=false:=by decide +kernel
theorem nq44:(("track":Str) == ("told_outs":Str))=false:=by decide +kernel
theorem nq45:(("bus":Str) == ("track_names":Str))=false:=by decide +kernel
theorem nq46:(("bus":Str) == ("bus_names":Str))=false:=by decide +kernel
theorem nq47:(("bus":Str) == ("told_sends":Str))=false:=by decide +kernel
theorem nq48:(("bus":Str) == ("told_outs":Str))=false:=by decide +kernel
theorem nq49:(("send":Str) == ("track_names":Str))=false:=by decide +kernel
theorem nq50:(("send":Str) == ("bus_names":Str))=false:=by decide +kernel
theorem nq51:(("send":Str) == ("told_sends":Str))=false:=by decide +kernel
theorem nq52:(("send":Str) == ("told_outs":Str))=false:=by decide +kernel
theorem nq53:(("way":Str) == ("track_names":Str))=false:=by decide +kernel
theorem nq54:(("way":Str) == ("bus_names":Str))=false:=by decide +kernel
theorem nq55:(("way":Str) == ("told_sends":Str))=false:=by decide +kernel
theorem nq56:(("way":Str) == ("told_outs":Str))=false:=by decide +kernel
theorem nq57:(("out":Str) == ("track_names":Str))=false:=by decide +kernel
theorem nq58:(("out":Str) == ("bus_names":Str))=false:=by decide +kernel
theorem nq59:(("out":Str) == ("told_sends":Str))=false:=by decide +kernel
theorem nq60:(("out":Str) == ("told_outs":Str))=false:=by decide +kernel
theorem nq61:(("tracks":Str) == ("track_names":Str))=false:=by decide +kernel
theorem nq62:(("tracks":Str) == ("bus_names":Str))=false:=by decide +kernel
theorem nq63:(("tracks":Str) == ("told_sends":Str))=false:=by decide +kernel
theorem nq64:(("tracks":Str) == ("told_outs":Str))=false:=by decide +kernel
theorem nq65:(("buses":Str) == ("track_names":Str))=false:=by decide +kernel
theorem nq66:(("buses":Str) == ("bus_names":Str))=false:=by decide +kernel
theorem nq67:(("buses":Str) == ("told_sends":Str))=false:=by decide +kernel
theorem nq68:(("buses":Str) == ("told_outs":Str))=false:=by decide +kernel
theorem nq69:(("sends":Str) == ("track_names":Str))=false:=by decide +kernel
theorem nq70:(("sends":Str) == ("bus_names":Str))=false:=by decide +kernel
theorem nq71:(("sends":Str) == ("told_sends":Str))=false:=by decide +kernel
theorem nq72:(("sends":Str) == ("told_outs":Str))=false:=by decide +kernel
theorem nq73:(("outs":Str) == ("track_names":Str))=false:=by decide +kernel
theorem nq74:(("outs":Str) == ("bus_names":Str))=false:=by decide +kernel
theorem nq75:(("outs":Str) == ("told_sends":Str))=false:=by decide +kernel
theorem nq76:(("outs":Str) == ("told_outs":Str))=false:=by decide +kernel
seal PE PT PA PS PSs PI PO PW PG PGs PEX PSX
local macro_rules | `(tactic| walk_at "bits") => `(tactic| first | with_reducible assumption | exact intBits_le_64 (by omega) (by omega) | exact (intBits_le_iff (m := 250)).mpr (by decide) | ((with_reducible apply intBits_mul_le) <;> walk_at "bits") | ((with_reducible apply intBits_add_le) <;> walk_at "bits") | ((with_reducible apply intBits_sub_le) <;> walk_at "bits") | ((with_reducible apply intBits_neg_le) <;> walk_at "bits") | ((with_reducible apply intBits_natAbs_le) <;> walk_at "bits") | ((with_reducible apply intBits_fdiv_le) <;> walk_at "bits") | ((with_reducible apply intBits_fmod_le) <;> walk_at "bits"))
local macro_rules | `(tactic| walk_at "mul") => `(tactic| first | exact IntMulOk.of_right (intBits_le_64 (by omega) (by omega)) | exact IntMulOk.of_left (intBits_le_64 (by omega) (by omega)) | ((with_reducible apply IntMulOk.of_le) <;> first | walk_at "bits" | decide))
local macro_rules | `(tactic| walk_at "le") => `(tactic| ((with_reducible apply Nat.le_trans) <;> first | walk_at "bits" | decide))
variable {P:Program}{w:World}{K:PySem.W.Frag}{mg:Str->Option Value}{base:Heap}{A:Ad}
noncomputable def stF(g c:Int)(r:Addr):List (Str×V):=[("greatest",.int g),("cuts",.int c),("rest",.ref r)]
def j8w:Sp:=fun vs H Q _=>match vs with | [.int a,.int b]=>Q (.int (Int.gcd a b)) H | _=>False
def j8x:Sp:=fun vs H Q _=>match vs with | [.int _]=>Q (.bl true) H | _=>False
def j3v:Sp:=fun vs H Q _=>match vs with
 | [.int t,.int b]=>b≠0/\intBits t<=4000/\intBits b<=4000/\All (g5a H (g8c (Rat.divInt t b))) Q ⟨⟩ ⟨⟩
 | _=>False
def j8y:Sp:=fun vs H Q _=>match vs with | [.str x]=>Q (.bl (h2x (sg x))) H | _=>False
def i7q:Sp:=fun vs H Q _=>match vs with | [.ref p]=>∃ t b:Int,H p=some (.tup [.int t,.int b])/\t.natAbs.log2 < 1920/\b.natAbs.log2 < 1920/\(∀ y:Str,sg y=i3w t b->Q (.str y) H) | _=>False
def j3w:Sp:=fun vs H Q _=>match vs with | [.str x]=>∃ t b,Good (sg x) t b/\All (g5a H [.int t,.int b]) Q ⟨⟩ ⟨⟩ | _=>False
def j8z:Sp:=fun vs H Q _=>match vs with
 | [.str x]=>∃ n:Nat,sg x=txt (n:Int)/\n < 10 ^ 13/\Q (.int n) H
 | _=>False
noncomputable def clsOf(A:Ad):Dt->Addr
 | .gain _=>A.c7y
 | _=>A.b7q
noncomputable def gnF(g:Addr):List (Str×V):=[("gain",.ref g)]
noncomputable def dlF(n:Nat):List (Str×V):=[("many",.int n)]
noncomputable def j6k(H:Hp)(fs:List (Str×V)):Dt->Prop
 | .gain y=>∃ g,fs=gnF g/\H g=some (.tup (g8c y))
 | .delay n=>fs=dlF n
 | _=>False
def IsP(A:Ad)(H:Hp)(o:Addr)(d:Dt):Prop:=∃ dx fs,H o=some (.ins (clsOf A d) dx fs)/\j6k H fs d
def i7r(C:Addr):Sp:=fun vs H Q _=>match vs with
 | [.ref o,.ref gt]=>∃ dx,H o=some (.ins C dx [])/\(∀ H1,a6t o H H1->H1 o=some (.ins C dx [("gain",.ref gt)])->Q .non H1)
 | _=>False
def i1t(C:Addr):Sp:=fun vs H Q _=>match vs with
 | [.ref o,.int n]=>∃ dx,H o=some (.ins C dx [])/\(∀ H1,a6t o H H1->H1 o=some (.ins C dx [("many",.int n)])->Q .non H1)
 | _=>False
def spFW:Sp:=fun vs H Q _=>match vs with
 | [.ref p]=>∃ x:Rat,H p=some (.tup (g8c x))/\intBits x.num<=10/\intBits (x.den:Int)<=10/\Q (.str (fW x)) H
 | _=>False
def k2b(A:Ad)(k:Nat):Sp:=fun vs H Q _=>match vs with
 | [.ref o]=>∃ d:Dt,d.kd=k/\IsP A H o d/\d.ok/\(∀ H1,Same H H1->Q (.str d.word) H1)
 | _=>False
def spRG:Sp:=fun vs H Q _=>match vs with
 | [.str x]=>∃ y:Rat,x=fW y/\YOk y/\All (g5a H (g8c y)) Q ⟨⟩ ⟨⟩
 | _=>False
def spRN:Sp:=fun vs H Q _=>match vs with
 | [.str x,.int a,.int b]=>∃ n:Nat,sg x=txt (n:Int)/\n < 10 ^ 9/\a<=n/\(n:Int)<=b/\Q (.int n) H
 | _=>False
def spCC:Sp:=fun vs H Q _=>match vs with
 | [.ref l,.int c]=>∃ xs,H l=some (.lst xs)/\(xs.length:Int)=c/\Q .non H
 | _=>False
def k2c(A:Ad)(k:Nat):Sp:=fun vs H Q _=>match vs with
 | [.ref l]=>∃ d:Dt,d.kd=k/\d.ok/\H l=some (.lst (d.vals.map V.str))/\(∀ o H1,H o=none->Same H H1->IsP A H1 o d->Q (.ref o) H1)
 | _=>False
def j3x(A:Ad):Sp:=fun vs H Q _=>match vs with
 | [.str x]=>∃ d:Dt,d.ok/\d.kd < 2/\x=d.word/\(∀ o H1,H o=none->Same H H1->IsP A H1 o d->Q (.ref o) H1)
 | _=>False
def a5q(x:Str):Prop:=x.length<=8/\x≠Str.ofString ""/\∀ c∈x.cps.toList,97<=c/\c<=122
def i1u:Sp:=fun vs H Q _=>match vs with
 | [.str x]=>a5q x/\(∀ H1,Same H H1->Q (.bl true) H1)
 | _=>False
def i7s:Sp:=fun vs H Q _=>match vs with
 | [.ref o]=>All (g5a H []) Q ⟨⟩ ⟨⟩
 | _=>False
def h5b(A:Ad)(H:Hp)(os:List Addr)(ds:List Dt):Prop:=os.length=ds.length/\∀ (i:Nat) o d,os[i]? = some o->ds[i]? = some d->IsP A H o d
def j9a(A:Ad):Sp:=fun vs H Q _=>match vs with
 | [.ref l]=>∃ ds:List Dt,H l=some (.lst (ds.map fun d=>V.str d.word))/\ds.length<=8/\(∀ d∈ds,d.ok/\d.kd < 2)/\(∀ p os H1,H p=none->(∀ o∈os,H o=none)->Same H H1->H1 p=some (.lst (os.map V.ref))->h5b A H1 os ds->Q (.ref p) H1)
 | _=>False
noncomputable def chF(pl sl:Addr):List (Str×V):=[("parts",.ref pl),("states",.ref sl)]
def ChW(A:Ad)(H:Hp)(o:Addr)(ds:List Dt):Prop:=∃ dx pl sl os,H o=some (.ins A.c0g dx (chF pl sl))/\H pl=some (.lst (os.map V.ref))/\h5b A H os ds
def i7t(A:Ad):Sp:=fun vs H Q _=>match vs with
 | [.ref o,.ref l]=>∃ (dx:Addr) (ds:List Dt),H o=some (.ins A.c0g dx [])/\H l=some (.lst (ds.map fun d=>V.str d.word))/\ds.length<=8/\(∀ d∈ds,d.ok/\d.kd < 2)/\(∀ H1,a6t o H H1->ChW A H1 o ds->Q .non H1)
 | _=>False
def j9b(A:Ad):Sp:=fun vs H Q _=>match vs with
 | [.ref o]=>∃ ds:List Dt,ChW A H o ds/\ds.length<=8/\(∀ d∈ds,d.ok/\d.kd < 2)/\All (g4z H (ds.map fun d=>V.str d.word)) Q ⟨⟩ ⟨⟩
 | _=>False
noncomputable def ptF(t b sd ou:Addr):List (Str×V):=[("track_names",.ref t),("bus_names",.ref b),("told_sends",.ref sd),("told_outs",.ref ou)]
def Eds(H:Hp)(ps:List Addr)(es:List (Str×Str)):Prop:=ps.length=es.length/\∀ (i:Nat) p e,ps[i]? = some p->es[i]? = some e->∃ lw:Addr,H p=some (.tup [.str e.1,.str e.2,.ref lw])
def j6l(A:Ad)(H:Hp)(o t b sd:Addr)(ts bs:List Str)(es:List (Str×Str)):Prop:=∃ dx ou ps,H o=some (.ins A.a9l dx (ptF t b sd ou))/\H t=some (.lst (ts.map V.str))/\H b=some (.lst (bs.map V.str))/\H sd=some (.lst (ps.map V.ref))/\Eds H ps es/\t≠b/\t≠sd/\b≠sd
def j9c(A:Ad):Sp:=fun vs H Q _=>match vs with
 | [.ref o,.str x]=>∃ t b sd ts bs es,j6l A H o t b sd ts bs es/\a5q x/\x∉ts/\x∉bs/\(∀ H1,Same H H1->Q .non H1)
 | _=>False
def d2y(A:Ad)(H:Hp)(N:Addr->Prop)(o:Addr)(p:Pd):Prop:=∃ dx t b sd ou,H o=some (.ins A.a9l dx (ptF t b sd ou))/\Fl H N t b sd ou p
def spPI(A:Ad):Sp:=fun vs H Q _=>match vs with
 | [.ref o]=>∃ dx,H o=some (.ins A.a9l dx [])/\(∀ H1,a6t o H H1->d2y A H1 (fun a=>H a=none) o ⟨[],[],[],[]⟩->Q .non H1)
 | _=>False
def j9d(A:Ad):Sp:=fun vs H Q _=>match vs with
 | [.ref o,.str x]=>∃ N p,d2y A H N o p/\a5q x/\x∉p.ts/\x∉p.bs/\p.ts.length<=100/\(∀ H1,b7l N H H1->d2y A H1 N o ⟨p.ts++[x],p.bs,p.es,p.os⟩->Q .non H1)
 | _=>False
def j9e(A:Ad):Sp:=fun vs H Q _=>match vs with
 | [.ref o,.str x]=>∃ N p,d2y A H N o p/\a5q x/\x∉p.ts/\x∉p.bs/\p.bs.length<=100/\(∀ H1,b7l N H H1->d2y A H1 N o ⟨p.ts,p.bs++[x],p.es,p.os⟩->Q .non H1)
 | _=>False
def Rch(es:List (Str×Str))(x y:Str):Prop:=∀ S:Str->Prop,S x->(∀ u v,S u->(u,v)∈es->S v)->S y
noncomputable def cnt(es:List (Str×Str))(ks:List Str):Nat:=(es.filter fun e=>decide (e.2∉ks)).length
noncomputable def Path(es:List (Str×Str)):List Str->Prop
 | []=>True
 | [_]=>True
 | x :: y :: r=>(x,y)∈es/\Path es (y :: r)
structure d2t(es:List (Str×Str))(x y:Str)(r:List Str):Prop where
 head:r[0]? = some x
 last:∃ r',r=r'++[y]
 nd:r.Nodup
 path:Path es r
def h5c(es:List (Str×Str))(x:Str)(H0 H:Hp)(L:Addr)(kvs:List (Key×V))(ks:List Str):Prop:=kvs.map (·.1)=ks.map kT/\∀ kv∈kvs,∃ (l:Addr) (ss:List Str) (z:Str),kv.1=kT z/\kv.2 = .ref l/\l≠L/\H0 l=none/\H l=some (.lst (ss.map V.str))/\ss.length<=kvs.length/\d2t es x z ss/\∀ u∈ss,u∈ks
def Done(es:List (Str×Str))(y:Str)(ks ws:List Str)(P:Str->Prop):Prop:=∀ z∈ks,z∈ws\/P z\/(z≠y/\∀ v,(z,v)∈es->v∈ks)
def j9f(A:Ad):Sp:=fun vs H Q _=>match vs with
 | [.ref o,.str x,.str y]=>∃ t b sd ts bs es,j6l A H o t b sd ts bs es/\es.length<=100/\PyData.strOk x=true/\(∀ e∈es,PyData.strOk e.2=true)/\(¬ Rch es x y->All (g4z H []) Q ⟨⟩ ⟨⟩)/\(∀ r,d2t es x y r->r.length<=101->All (g4z H (r.map V.str)) Q ⟨⟩ ⟨⟩)
 | _=>False
def j3y(C:Addr):Sp:=fun vs H Q _=>match vs with
 | [.ref o,.int g]=>∃ dx,H o=some (.ins C dx [])/\1<=g/\g<=1000000000000/\(∀ r H1,H r=none->a6t o H H1->H1 r=some (.tup (g8c 0))->H1 o=some (.ins C dx (stF g 0 r))->Q .non H1)
 | _=>False
def j9g(A:Ad):Sp:=fun vs H Q _=>match vs with
 | [.ref o,.str y,.int g]=>∃ (N:Addr->Prop) (p:Pd),d2y A H N o p/\y∈p.bs/\(∀ x∈p.os,x.1≠y)/\1<=g/\g<=1000000000000/\p.os.length<=99/\(∀ H1,b7l N H H1->d2y A H1 N o ⟨p.ts,p.bs,p.es,p.os++[(y,g)]⟩->Q .non H1)
 | _=>False
def i1v(A:Ad):Sp:=fun vs H Q _=>match vs with
 | [.ref o]=>∃ (N:Addr->Prop) (p:Pd),d2y A H N o p/\p.ts.length<=100/\All (g4z H (p.ts.map V.str)) Q ⟨⟩ ⟨⟩
 | _=>False
def i7u(A:Ad):Sp:=fun vs H Q _=>match vs with
 | [.ref o]=>∃ (N:Addr->Prop) (p:Pd),d2y A H N o p/\p.bs.length<=100/\All (g4z H (p.bs.map V.str)) Q ⟨⟩ ⟨⟩
 | _=>False
def j3z(A:Ad):Sp:=fun vs H Q _=>match vs with
 | [.ref o]=>∃ (N:Addr->Prop) (p:Pd),d2y A H N o p/\p.os.length<=100/\(∀ l us H1,H l=none->Same H H1->H1 l=some (.lst us)->RpL H1 (fun a=>H a=none/\a≠l) us (p.os.map dOu)->Q (.ref l) H1)
 | _=>False
def i7v(A:Ad):Sp:=fun vs H Q _=>match vs with
 | [.ref o]=>∃ (N:Addr->Prop) (p:Pd),d2y A H N o p/\p.es.length<=100/\(∀ e∈p.es,e.2.2.length<=100)/\(∀ l us H1,H l=none->Same H H1->H1 l=some (.lst us)->RpL H1 (fun a=>H a=none/\a≠l) us (p.es.map dSd)->Q (.ref l) H1)
 | _=>False
def NoS(H:Hp)(v:V):Prop:=∃ t,g4v H v=some t/\t≠.str
noncomputable def nmB(x:Str):Bool:=decide (x.length<=8) && (!decide (x=Str.ofString "") && x.cps.toList.all fun c=>g7o "abcdefghijklmnopqrstuvwxyz" ⟨#[c]⟩)
def k2d(H:Hp)(v:V):Prop:=NoS H v\/∃ x,v = .str x/\x.length<=1000/\nmB x=false
def j4a:Sp:=fun vs H Q _=>match vs with
 | [v]=>(NoS H v/\Q (.bl false) H)\/∃ x,v = .str x/\x.length<=1000/\∀ H1,Same H H1->Q (.bl (nmB x)) H1
 | _=>False
def j4b(A:Ad):Sp:=fun vs H _ E=>match vs with
 | [.ref o,v]=>∃ t b sd ts bs es,j6l A H o t b sd ts bs es/\((k2d H v/\∀ H1,Same H H1->E (.ref A.a0w) none H1)\/∃ x,v = .str x/\a5q x/\(x∈ts\/x∈bs)/\∀ H1,Same H H1->E (.ref A.a1j) none H1)
 | _=>False
noncomputable def exC(A:Ad):Nat->Addr
 | 0=>A.a0w
 | 1=>A.a1j
 | 2=>A.a1l
 | 3=>A.a0u
 | _=>A.a0q
def j9h(v:V):Prop:=v = .str (Str.ofString "")\/v = .str (Str.ofString "bad")\/v = .str (Str.ofString "gain:1")\/v = .str (Str.ofString "hall:1/1:2")
def g1l(H:Hp)(v:V):Prop:=(∃ t,g4v H v=some t/\t≠.lst)\/∃ r xs,v = .ref r/\H r=some (.lst xs)/\xs.length<=100/\(8 < xs.length\/xs.length<=8/\∃ (ds:List Dt) (u:V) (rest:List V),(∀ d∈ds,d.ok/\d.kd < 2)/\j9h u/\xs=(ds.map fun d=>V.str d.word)++u :: rest)
def j4c(H:Hp)(x:V):Prop:=∃ t,g4v H x=some t/\(t≠.int\/∃ n:Int,x = .int n/\(n < 1\/1000000000000 < n))
def h8m(H:Hp)(v:V)(ts:List Str):Prop:=(b5h v=true/\inV v (ts.map V.str)=false)\/i4f H v=true
def TwW(H:Hp)(p:Pd)(v:V)(c:Nat):Prop:=(c=0/\k2d H v)\/(c=1/\∃ x,v = .str x/\a5q x/\(x∈p.ts\/x∈p.bs))
def SdW(H:Hp)(p:Pd)(v u z:V)(c:Nat):Prop:=(c=2/\h8m H v p.ts/\h8m H v p.bs)\/(c=2/\∃ x,v = .str x/\(x∈p.ts\/x∈p.bs)/\h8m H u p.bs)\/(c=3/\∃ x y,v = .str x/\(x∈p.ts\/x∈p.bs)/\u = .str y/\y∈p.bs/\g1l H z)
def OuW(H:Hp)(p:Pd)(u g:V)(c:Nat):Prop:=(c=2/\h8m H u p.bs)\/(c=1/\∃ y,u = .str y/\y∈p.bs/\y∈p.os.map (·.1))\/(c=4/\∃ y,u = .str y/\y∈p.bs/\y∉p.os.map (·.1)/\j4c H g)
def j4d(A:Ad):Sp:=fun vs H _ E=>match vs with
 | [.ref o,v]=>∃ (N:Addr->Prop) (p:Pd) (c:Nat),d2y A H N o p/\TwW H p v c/\∀ H1,Same H H1->E (.ref (exC A c)) none H1
 | _=>False
def j9i(A:Ad):Sp:=fun vs H _ E=>match vs with
 | [.ref o,v,u,z]=>∃ (N:Addr->Prop) (p:Pd) (c:Nat),d2y A H N o p/\SdW H p v u z c/\∀ H1,Same H H1->E (.ref (exC A c)) none H1
 | _=>False
def j9j(A:Ad):Sp:=fun vs H _ E=>match vs with
 | [.ref o,u,g]=>∃ (N:Addr->Prop) (p:Pd) (c:Nat),d2y A H N o p/\p.os.length<=99/\OuW H p u g c/\∀ H1,Same H H1->E (.ref (exC A c)) none H1
 | _=>False
def j9k:Sp:=fun vs H Q _=>match vs with | [x]=>∃ t,g4v H x=some t/\Q (.bl (decide (t = .int))) H | _=>False
def i7w(c:Addr):Sp:=fun vs H _ E=>match vs with
 | [.ref o,x]=>j4c H x/\E (.ref c) none H
 | _=>False
def j9l(A:Ad):Sp:=fun vs H _ E=>match vs with
 | [.ref l,.int c]=>∃ xs,H l=some (.lst xs)/\xs.length<=100/\(xs.length:Int)≠c/\E (.ref A.a0u) none H
 | _=>False
def Two(H:Hp)(p q:Addr)(x y:Rat):Prop:=H p=some (.tup (g8c x))/\H q=some (.tup (g8c y))/\intBits x.num<=1900/\intBits (x.den:Int)<=1900/\intBits y.num<=1900/\intBits (y.den:Int)<=1900
def j4e:Sp:=fun vs H Q _=>match vs with
 | [.ref p]=>∃ x:Rat,H p=some (.tup (g8c x))/\All (g5a H (g8c (Rat.abs x))) Q ⟨⟩ ⟨⟩
 | _=>False
def i7x:Sp:=fun vs H Q _=>match vs with
 | [.ref p,.ref q]=>∃ x y:Rat,Two H p q x y/\Q (.bl (decide (x.num*(y.den:Int) < y.num*(x.den:Int)))) H
 | _=>False
def i7y(A:Ad):Sp:=fun vs H _ E=>match vs with | [v]=>v = .str (Str.ofString "1")/\(∀ H',Same H H'->E (.ref A.a0z) none H') | _=>False
def j9m(A:Ad):Sp:=fun vs H _ E=>match vs with | [v]=>v = .str (Str.ofString "1")/\(∀ H',Same H H'->E (.ref A.a0u) none H') | _=>False
def j9n(A:Ad):Sp:=fun vs H _ E=>match vs with | [.ref l]=>H l=some (.lst [.str (Str.ofString "1")])/\(∀ H',Same H H'->E (.ref A.a0u) none H') | _=>False
def j9o(A:Ad):Sp:=fun vs H _ E=>match vs with | [.ref l]=>H l=some (.lst [.str (Str.ofString "1/1"),.str (Str.ofString "2")])/\(∀ H',Same H H'->E (.ref A.a0u) none H') | _=>False
def j9p(A:Ad):Sp:=fun vs H _ E=>match vs with | [v]=>j9h v/\(∀ H',Same H H'->E (.ref A.a0u) none H') | _=>False
def j9q(A:Ad):Sp:=fun vs H _ E=>match vs with | [v]=>g1l H v/\(∀ H',Same H H'->E (.ref A.a0u) none H') | _=>False
def j9r(A:Ad):Sp:=fun vs H _ E=>match vs with
 | [.ref o,v]=>∃ dx,H o=some (.ins A.c0g dx [])/\g1l H v/\(∀ H',Same H H'->E (.ref A.a0u) none H')
 | _=>False
def j4f(A:Ad):Sp:=fun vs H Q _=>match vs with
 | [.ref e,.ref l]=>∃ xs,H e=some (g8m e (.ref A.a1y))/\H l=some (.lst xs)/\xs.length<=200/\(∀ d l2 H1,H d=none->H l2=none->a6t e H H1->H1 e=some (h1i e (.ref A.a1y) d)->H1 d=some (.xd [("ring",.ref l2)])->H1 l2=some (.lst xs)->Q .non H1)
 | _=>False
def j4g(A:Ad):Sp:=fun vs H Q E=>match vs with
 | [.ref o,.str x,.str y,.ref l]=>∃ (N:Addr->Prop) (p:Pd) (ds:List Dt),d2y A H N o p/\H l=some (.lst (ds.map fun d=>V.str d.word))/\ds.length<=8/\(∀ d∈ds,d.ok/\d.kd < 2)/\(x∈p.ts\/x∈p.bs)/\y∈p.bs/\p.es.length<=99/\PyData.strOk y=true/\(∀ e∈p.es,PyData.strOk e.2.1=true)/\(¬ Rch (prs p.es) y x->∀ H1,b7l N H H1->d2y A H1 (fun a=>N a\/H a=none) o ⟨p.ts,p.bs,p.es++[(x,y,ds.map Dt.word)],p.os⟩->Q .non H1)/\(∀ r d l2 H1,d2t (prs p.es) y x r->r.length<=101->H d=none->H l2=none->Same H H1->H1 d=some (.xd [(Str.ofString "ring",.ref l2)])->H1 l2=some (.lst (r.map V.str))->E (.ref A.a1y) (some d) H1)
 | _=>False
noncomputable def lead(l:List Nat):Bool:=match l with
 | 48 :: _ :: _=>true
 | _=>false
noncomputable def i9s(x:Str):Option Nat:=if (h2x (sg x) && !lead (sg x))=true then some (NumText.digitsVal (sg x)) else none
noncomputable def h8n(x:Str):V:=match i9s x with
 | some n=>if x.length<=13 then .int n else .non
 | none=>.non
def j4h:Sp:=fun vs H Q _=>match vs with
 | [.str x]=>x.length<=1000/\Q (h8n x) H
 | _=>False
def okW(x:Str):Prop:=x=Str.ofString "gain:1/2"\/x=Str.ofString "delay:3"
def i9t(ws:List Str):Prop:=ws.head? = some (Str.ofString "send")->∀ x∈ws.drop 3,okW x\/j9h (.str x)
def gOk(x:Str):Prop:=∃ g:Nat,h8n x = .int g/\1<=g/\g<=1000000000000
inductive Tw(p:Pd):List Str->Nat->Pd->Prop
 | tr {a:Str}:a5q a->a∉p.ts->a∉p.bs->Tw p [Str.ofString "track",a] 0 ⟨p.ts++[a],p.bs,p.es,p.os⟩
 | bs {a:Str}:a5q a->a∉p.ts->a∉p.bs->Tw p [Str.ofString "bus",a] 0 ⟨p.ts,p.bs++[a],p.es,p.os⟩
 | nm {k a:Str}:k=Str.ofString "track"\/k=Str.ofString "bus"->nmB a=false->Tw p [k,a] 2 p
 | two {k a:Str}:k=Str.ofString "track"\/k=Str.ofString "bus"->a5q a->a∈p.ts\/a∈p.bs->Tw p [k,a] 3 p
 | sd {a y:Str} {r:List Str}:a∈p.ts\/a∈p.bs->y∈p.bs->r.length<=8->(∀ x∈r,okW x)->¬ Rch (prs p.es) y a->Tw p (Str.ofString "send" :: a :: y :: r) 0 ⟨p.ts,p.bs,p.es++[(a,y,r)],p.os⟩
 | nb {a y:Str} {r:List Str}:¬ (a∈p.ts\/a∈p.bs)\/y∉p.bs->Tw p (Str.ofString "send" :: a :: y :: r) 4 p
 | np {a y:Str} {r:List Str}:a∈p.ts\/a∈p.bs->y∈p.bs->8 < r.length\/(∃ x∈r,¬ okW x)->Tw p (Str.ofString "send" :: a :: y :: r) 5 p
 | rg {a y:Str} {r:List Str}:a∈p.ts\/a∈p.bs->y∈p.bs->r.length<=8->(∀ x∈r,okW x)->Rch (prs p.es) y a->Tw p (Str.ofString "send" :: a :: y :: r) 6 p
 | ou {y z:Str} {g:Nat}:y∈p.bs->y∉p.os.map (·.1)->h8n z = .int g->1<=g->g<=1000000000000->Tw p [Str.ofString "out",y,z] 0 ⟨p.ts,p.bs,p.es,p.os++[(y,(g:Int))]⟩
 | ob {y z:Str}:y∉p.bs->Tw p [Str.ofString "out",y,z] 4 p
 | o2 {y z:Str}:y∈p.bs->y∈p.os.map (·.1)->Tw p [Str.ofString "out",y,z] 3 p
 | on {y z:Str}:y∈p.bs->y∉p.os.map (·.1)->¬ gOk z->Tw p [Str.ofString "out",y,z] 7 p
 | row {ws:List Str}:(∀ k a,ws = [k,a]->k≠Str.ofString "track"/\k≠Str.ofString "bus")->(∀ k a y r,ws=k :: a :: y :: r->k≠Str.ofString "send")->(∀ k a y,ws = [k,a,y]->k≠Str.ofString "out")->Tw p ws 1 p
noncomputable def exT(A:Ad):Nat->Addr
 | 1=>A.a1k
 | 2=>A.a0w
 | 3=>A.a1j
 | 4=>A.a1l
 | 5=>A.a0u
 | 6=>A.a1y
 | _=>A.a0q
def PdB(p:Pd):Prop:=p.ts.length<=90/\p.bs.length<=90/\p.es.length<=90/\p.os.length<=90/\(∀ z∈p.bs,PyData.strOk z=true)/\∀ e∈p.es,PyData.strOk e.2.1=true
def i7z(A:Ad):Sp:=fun vs H Q E=>match vs with
 | [.ref o,.str x]=>∃ (N:Addr->Prop) (p g:Pd) (c:Nat),d2y A H N o p/\PdB p/\x.length<=98/\i9t (a2l x ⟨#[32]⟩)/\Tw p (a2l x ⟨#[32]⟩) c g /\
   (c=0->∀ H1,b7l N H H1->d2y A H1 (fun a=>N a\/H a=none) o g->Q .non H1)/\(c≠0->c≠6->∀ H1,Same H H1->E (.ref (exT A c)) none H1) /\
   (c=6->∀ a y r d l2 H1,(a2l x ⟨#[32]⟩)[1]? = some a->(a2l x ⟨#[32]⟩)[2]? = some y->d2t (prs p.es) y a r->r.length<=101->H d=none->H l2=none->Same H H1->H1 d=some (.xd [(Str.ofString "ring",.ref l2)])->H1 l2=some (.lst (r.map V.str))->E (.ref A.a1y) (some d) H1)
 | _=>False
inductive Rn:Pd->List Str->Nat->Pd->List Str->Prop
 | nil {p:Pd}:Rn p [] 0 p []
 | go {p p1 g:Pd} {x:Str} {xs:List Str} {c:Nat} {ws:List Str}:Tw p (a2l x ⟨#[32]⟩) 0 p1->Rn p1 xs c g ws->Rn p (x :: xs) c g ws
 | no {p g:Pd} {x:Str} {xs:List Str} {c:Nat}:Tw p (a2l x ⟨#[32]⟩) c g->c≠0->Rn p (x :: xs) c p (a2l x ⟨#[32]⟩)
def PdN(p:Pd)(n:Nat):Prop:=p.ts.length<=n/\p.bs.length<=n/\p.es.length<=n/\p.os.length<=n/\(∀ z∈p.bs,PyData.strOk z=true)/\∀ e∈p.es,PyData.strOk e.2.1=true
def j4i(A:Ad):Sp:=fun vs H Q E=>match vs with
 | [v]=>(∃ ty,g4v H v=some ty/\ty≠.str/\∀ H1,Same H H1->E (.ref A.a1k) none H1)\/∃ (x:Str) (c:Nat) (g:Pd) (ws:List Str),v = .str x/\x≠Str.ofString ""/\x.length<=9000/\(a2l x ⟨#[10]⟩).length<=80/\(∀ z∈a2l x ⟨#[10]⟩,z.length<=98/\i9t (a2l z ⟨#[32]⟩))/\Rn ⟨[],[],[],[]⟩ (a2l x ⟨#[10]⟩) c g ws /\
   (c=0->∀ o H1,Same H H1->d2y A H1 (fun a=>H a=none) o g->Q (.ref o) H1)/\(c≠0->c≠6->∀ H1,Same H H1->E (.ref (exT A c)) none H1) /\
   (c=6->∀ a y r d l2 H1,ws[1]? = some a->ws[2]? = some y->d2t (prs g.es) y a r->r.length<=101->H d=none->H l2=none->Same H H1->H1 d=some (.xd [(Str.ofString "ring",.ref l2)])->H1 l2=some (.lst (r.map V.str))->E (.ref A.a1y) (some d) H1)
 | _=>False
inductive Ln where
 | tr (x:Str)
 | bu (x:Str)
 | se (e:Sd)
 | ou (x:Str×Int)
noncomputable def Ln.ws:Ln->List Str
 | .tr x=>[Str.ofString "track",x]
 | .bu x=>[Str.ofString "bus",x]
 | .se e=>Str.ofString "send" :: e.1 :: e.2.1 :: e.2.2
 | .ou x=>[Str.ofString "out",x.1,Str.ofString (toString x.2)]
noncomputable def Ln.line(l:Ln):Str:=Str.join ⟨#[32]⟩ l.ws
noncomputable def lns(p:Pd):List Ln:=p.ts.map .tr++(p.bs.map .bu++(p.es.map .se++p.os.map .ou))
noncomputable def ltx(ls:List Ln):Str:=Str.join ⟨#[10]⟩ (ls.map Ln.line)
def j9s(ws:List Str):Prop:=ws.length<=8/\∀ x∈ws,okW x
noncomputable def Ln.fm:Ln->Prop
 | .tr x=>a5q x
 | .bu x=>a5q x
 | .se e=>j9s e.2.2/\a5q e.1/\a5q e.2.1
 | .ou x=>a5q x.1/\1<=x.2/\x.2<=1000000000000
structure PdF(p:Pd):Prop where
 lt:p.ts.length<=90
 lb:p.bs.length<=90
 le:p.es.length<=90
 lo:p.os.length<=90
 fm:∀ l∈lns p,l.fm
def i8a:Sp:=fun vs H Q _=>match vs with
 | [.ref q]=>∃ (e:Sd) (lw:Addr),H q=some (.tup [.str e.1,.str e.2.1,.ref lw])/\H lw=some (.lst (e.2.2.map V.str))/\(Ln.se e).fm/\(∀ H1,Same H H1->Q (.str (Ln.se e).line) H1)
 | _=>False
def i8b:Sp:=fun vs H Q _=>match vs with
 | [.ref q]=>∃ x:Str×Int,H q=some (.tup [.str x.1,.int x.2])/\(Ln.ou x).fm/\Q (.str (Ln.ou x).line) H
 | _=>False
def j9t(A:Ad):Sp:=fun vs H Q _=>match vs with
 | [.ref o]=>∃ (N:Addr->Prop) (p:Pd),d2y A H N o p/\PdF p/\(∀ H1,Same H H1->Q (.str (ltx (lns p))) H1)
 | _=>False
def j9u:Sp:=fun vs H Q _=>match vs with
 | [.str x]=>x.length<=1000/\Q (.bl (nmB x)) H
 | _=>False
def j4j:Sp:=fun vs H Q _=>match vs with
 | [.str x]=>x.length<=98/\∀ b:Bool,(b=true ↔ gOk x)->Q (.bl b) H
 | _=>False
def Cl(es:List (Str×Str))(rs:List Str):Prop:=∀ u v,u∈rs->(u,v)∈es->v∈rs
def i8c:Sp:=fun vs H Q _=>match vs with
 | [.ref l,.str x,.str y]=>∃ (ps:List Addr) (es:List (Str×Str)),H l=some (.lst (ps.map V.ref))/\Eds H ps es/\es.length<=100/\(∀ (r:Bool) H1,(r=true->Rch es x y)->(r=false->¬ Rch es x y)->Same H H1->Q (.bl r) H1)
 | _=>False
noncomputable def dOt(x:Str×Int):PySem.W.Dat:=.tuple [.str x.1,.str (Str.ofString (toString x.2))]
noncomputable def Nq(t b sd ou:Addr):Addr->Prop:=fun a=>a≠t/\a≠b/\a≠sd/\a≠ou
structure Lq(H:Hp)(L t b sd ou:Addr)(p:Pd):Prop where
 hL:H L=some (.lst [.ref t,.ref b,.ref sd,.ref ou])
 nL:L≠t/\L≠b/\L≠sd/\L≠ou
 d:t≠b/\t≠sd/\t≠ou/\b≠sd/\b≠ou/\sd≠ou
 ht:H t=some (.lst (p.ts.map V.str))
 hb:H b=some (.lst (p.bs.map V.str))
 hs:∃ us,H sd=some (.lst us)/\RpL H (Nq t b sd ou) us (p.es.map dSd)
 ho:∃ us,H ou=some (.lst us)/\RpL H (Nq t b sd ou) us (p.os.map dOt)
noncomputable def kS:Nat->Str
 | 0=>Str.ofString ""
 | 1=>Str.ofString "row"
 | 2=>Str.ofString "name"
 | 3=>Str.ofString "twice"
 | 4=>Str.ofString "bus"
 | 5=>Str.ofString "part"
 | 6=>Str.ofString "ring"
 | _=>Str.ofString "number"
def j9v:Sp:=fun vs H Q _=>match vs with
 | [.ref lw,.ref L]=>∃ (a y:Str) (r:List Str) (t b sd ou:Addr) (p:Pd),H lw=some (.lst ((Str.ofString "send" :: a :: y :: r).map V.str))/\Lq H L t b sd ou p/\PdB p/\r.length<=98/\(∀ c g H1,Tw p (Str.ofString "send" :: a :: y :: r) c g->Same H H1->Q (.str (kS c)) H1)
 | _=>False
def spKd:Sp:=fun vs H Q _=>match vs with
 | [.ref lw,.ref L]=>∃ (k:Str) (ws:List Str) (t b sd ou:Addr) (p:Pd),H lw=some (.lst ((k :: ws).map V.str))/\Lq H L t b sd ou p/\PdB p/\ws.length<=99/\(∀ z∈k :: ws,z.length<=98)/\(∀ c g H1,Tw p (k :: ws) c g->Same H H1->Q (.str (kS c)) H1)
 | _=>False
noncomputable def Pd0:Pd:=⟨[],[],[],[]⟩
def j4k:Sp:=fun vs H Q _=>match vs with
 | [.ref l]=>∃ xs:List Str,H l=some (.lst (xs.map V.str))/\xs.length<=20/\(∀ x∈xs,x.length<=98)/\(∀ (o L t b sd ou lw:Addr) (c:Nat) (g:Pd) (ws:List Str) H1,Same H H1->H1 o=some (.tup [.str (kS c),.ref L,.ref lw])->Lq H1 L t b sd ou g->H1 lw=some (.lst (ws.map V.str))->Rn Pd0 xs c g ws->PdN g 20->c<=7->Q (.ref o) H1)
 | _=>False
structure Kx(K:PySem.W.Frag)(A:Ad)(c:Nat):Prop where
 q:d3j K (exT A c)
 s:PySem.W.subIn K (.ref (exT A c)) (.ref A.a1g)=some true
 x1:PySem.W.kitOne K (.ref (exT A c)) (.ref A.a1k)=some (decide (c=1))
 x2:PySem.W.kitOne K (.ref (exT A c)) (.ref A.a0w)=some (decide (c=2))
 x3:PySem.W.kitOne K (.ref (exT A c)) (.ref A.a1j)=some (decide (c=3))
 x4:PySem.W.kitOne K (.ref (exT A c)) (.ref A.a1l)=some (decide (c=4))
 x5:PySem.W.kitOne K (.ref (exT A c)) (.ref A.a0u)=some (decide (c=5))
 x6:PySem.W.kitOne K (.ref (exT A c)) (.ref A.a1y)=some (decide (c=6))
 x7:PySem.W.kitOne K (.ref (exT A c)) (.ref A.a0q)=some (decide (c=7))
 i8d:PySem.W.kitOne K (.ref (exT A c)) (.ref A.a0z)=some false
 i1w:PySem.W.kitOne K (.ref (exT A c)) (.ref A.a2i)=some false
 i8e:PySem.W.kitOne K (.ref (exT A c)) (.ref A.a3t)=some false
 v:PySem.W.kitOne K (.ref (exT A c)) (.type "ValueError")=some true
noncomputable def clL(c j:Nat):List V:=if c<=j then [.str (kS c)] else []
def j9w(A:Ad):Sp:=fun vs H Q _=>match vs with
 | [.ref e]=>∃ (c:Nat) (d:Option Addr),1<=c/\c<=7/\H e=some (i3q e (.ref (exT A c)) d)/\∀ l H1,H l=none->Same H H1->H1 l=some (.lst [.str (kS c)])->Q (.ref l) H1
 | _=>False
def j9x(x:Str):Prop:=x≠Str.ofString ""/\x.length<=9000/\(a2l x ⟨#[10]⟩).length<=80/\∀ z∈a2l x ⟨#[10]⟩,z.length<=98/\i9t (a2l z ⟨#[32]⟩)
def j9y:Sp:=fun vs H Q _=>match vs with
 | [v,.str k]=>((∃ ty,g4v H v=some ty/\ty≠.str/\k=kS 1)\/∃ (x:Str) (c:Nat) (g:Pd) (ws:List Str),v = .str x/\j9x x/\Rn Pd0 (a2l x ⟨#[10]⟩) c g ws/\c≠0/\c<=7/\k=kS c)/\∀ H1,Same H H1->Q (.bl true) H1
 | _=>False
noncomputable def dPr(e:Str×Str):PySem.W.Dat:=.tuple [.str e.1,.str e.2]
def spRT:Sp:=fun vs H Q _=>match vs with
 | [.str x,.ref ls,.ref lw]=>∃ (N:Addr->Prop) (g:Pd) (a y k:Str) (r:List Str) (us:List V),j9x x/\Rn Pd0 (a2l x ⟨#[10]⟩) 6 g (k :: a :: y :: r)/\H ls=some (.lst us)/\RpL H N us (g.es.map dSd)/\H lw=some (.lst ((k :: a :: y :: r).map V.str))/\g.es.length<=90/\(∀ e∈g.es,a5q e.1/\a5q e.2.1)/\a5q y/\∀ H1,Same H H1->Q (.bl true) H1
 | _=>False
def j9z:Sp:=fun vs H Q _=>match vs with
 | [.ref L]=>∃ (t b sd ou:Addr) (p:Pd),Lq H L t b sd ou p/\PdF p/\(∀ H1,Same H H1->Q (.str (ltx (lns p))) H1)
 | _=>False
noncomputable def nmG(h:Int):List Nat:=([111,112,113,114,115,116,117] : List Nat).take (h.fmod 8).toNat
noncomputable def nmA(h:Int):Nat:=((h.fdiv 8).fmod (((nmG h).length:Int)+1)).toNat
noncomputable def nmH(h:Int)(k:Nat):Str:=⟨((nmG h).take (nmA h)++(97+k) :: (nmG h).drop (nmA h)).toArray⟩
def spNm:Sp:=fun vs H Q _=>match vs with
 | [.int h,.int k]=>0<=k/\k < 4/\∀ x,a5q x->Q (.str x) H
 | _=>False
noncomputable def sb1(t b c:Str)(n:Nat):List Nat:=if n=1114112 then sg t else if n=1114113 then sg b else if n=1114114 then sg c else [n]
noncomputable def sb(t b c:Str)(l:List Nat):List Nat:=l.flatMap (sb1 t b c)
noncomputable def spl:List Nat->List (List Nat)
 | []=>[[]]
 | c :: r=>if c=32 then [] :: spl r else (c :: (spl r).headD []) :: (spl r).tail
noncomputable def jn:List (List Nat)->List Nat
 | []=>[]
 | [w]=>w
 | w :: u :: r=>w++32 :: jn (u :: r)
noncomputable def okC(w:List Nat):Bool:=[Str.ofString "gain:1/2",Str.ofString "delay:3",Str.ofString "",Str.ofString "bad",Str.ofString "gain:1",Str.ofString "hall:1/1:2"].any fun x=>w == sg x
noncomputable def k0a(l:List Nat):Nat:=(l.map fun n=>if 1114112<=n then 8 else 1).sum
noncomputable def chk(l:List Nat):Bool:=decide (k0a l ≤ 98) && (!l.contains 10) && ((((spl l).drop 3).all okC) || (((spl l).headD []).all (fun n=>decide (n < 1114112)) && !((spl l).headD [] == sg (Str.ofString "send"))))
def GL(x:Str):Prop:=x.length<=98/\10∉sg x/\i9t (a2l x ⟨#[32]⟩)
def GLv(v:V):Prop:=∃ x,v = .str x/\GL x
def Sb(t b c x:Str)(l:List Nat):Prop:=sg x=sb t b c l
noncomputable def T4:List Str:=[Str.ofString " gain:1",Str.ofString " ",Str.ofString " delay:3 delay:3 delay:3 delay:3 delay:3 delay:3 delay:3 delay:3 delay:3",Str.ofString " gain:1/2  gain:1/2"]
noncomputable def T3:List Str:=[Str.ofString "",Str.ofString " bad",Str.ofString " gain:1/2 delay:3"]
noncomputable def W10:List Str:=[Str.ofString "0",Str.ofString "01",Str.ofString "-1",Str.ofString "x",Str.ofString "1000000000001",Str.ofString "1000000000000",Str.ofString "",Str.ofString "1_0",Str.ofString "+5",Str.ofString "99999999999999999999"]
def k0b:Sp:=fun vs H Q _=>match vs with
 | [.str t,.str b,.str c]=>a5q t/\a5q b/\a5q c/\∀ l us H1,H l=none->Same H H1->H1 l=some (.lst us)->us.length=60->(∀ v∈us,GLv v)->Q (.ref l) H1
 | _=>False
def k0c:Sp:=fun vs H Q _=>match vs with
 | [.ref lg,.ref lo,.int m]=>∃ us vs':List V,H lg=some (.lst us)/\us.length=8/\(∀ v∈us,GLv v)/\H lo=some (.lst vs')/\vs'.length=60/\(∀ v∈vs',GLv v)/\(∀ l zs H1,H l=none->Same H H1->H1 l=some (.lst zs)->8<=zs.length->zs.length<=10->(∀ v∈zs,GLv v)->Q (.ref l) H1)
 | _=>False
structure j6m(p:Pd):Prop where
 t:∀ x∈p.ts,a5q x
 b:∀ x∈p.bs,a5q x
 s:∀ e∈p.es,(Ln.se e).fm
 o:∀ x∈p.os,(Ln.ou x).fm
def j4l:Sp:=fun vs H Q _=>match vs with
 | [.ref l]=>∃ us:List V,H l=some (.lst us)/\2<=us.length/\us.length<=11/\(∀ v∈us,GLv v)/\(∀ H1,Same H H1->Q (.bl true) H1)
 | _=>False
local macro_rules | `(tactic| walk_at $s:str)=>do
 unless s.getString == "rd" || s.getString == "rd*" do Lean.Macro.throwUnsupported
 let mut ls:Array (Lean.TSyntax [`Lean.Parser.Tactic.simpStar,`Lean.Parser.Tactic.simpErase,`Lean.Parser.Tactic.simpLemma]) := #[]
 if s.getString == "rd*" then
  let y <- `(Lean.Parser.Tactic.simpStar| *)
  ls:=ls.push ⟨y.raw⟩
 for n in "j8w j8x j3v j8y i7q j3w j8z i7r i1t spFW k2b spRG spRN spCC k2c j3x i1u i7s j9a i7t j9b j9c spPI j9d j9e j9f j3y j9g i1v i7u j3z i7v j4a j4b j4d j9i j9j j9k i7w j9l j4e i7x i7y j9m j9n j9o j9p j9q j9r j4f j4g j4h i7z j4i i8a i8b j9t j9u j4j i8c j9v spKd j4k j9w j9y spRT j9z spNm k0b k0c j4l j7v iStr rSlA j7w rStrI tFmt j7x j1z j7y j2a k1s tSl3R rSlR j2w i0q j2y j2z j2u j2v j2x j8j j8i j3i qSeq qRet qRetN qNext qAsg qDrop i4c i0v j8p j3f i6x gSub rSetM i3z j2n rIxD rNiD j8h j8c k1s k1t tSl3 rSl3 rUpF rIdxF rInO h7i j2b j7z j6e g0h i3r rInF tAugF rTupS rIsI j8a j2j i3x gTupF j5x i9m d7y tC h5i tOp tUn i5f k0t j6v h5h tCB g4i h9u j7h j1g h9v tAnd tOr tNot tBF j1k k1h j1l h9n tIf j7g i5z i3g k1i k1j i3h tSl i5p i3i rIF i9o rUF h2t j7i k1b k1c rIxM rSlM j7j rLenK j7r rIxS0 rIsT rAbs rMin rMax j1n rSumF i6b j7t j1s j1r i3m k1k k1l k1m k1n j0g k1r j1t j1u j1y hAs _root_.L2.start".splitOn " " do
  let i:=Lean.mkIdent n.toName
  let y <- `(Lean.Parser.Tactic.simpLemma| ↓$i:ident)
  ls:=ls.push ⟨y.raw⟩
 for n in "noxK Bool.bne_false Bool.bne_true noxK noxK asNew lookup_same i3s j2d i9p j6f List.lookup_nil nq0 nq1 nq2 nq3 nq4 nq5 nq6 nq7 nq8 nq9 nq10 nq11 nq12 nq13 nq14 nq15 nq16 nq17 nq18 nq19 nq20 nq21 nq22 nq23 nq24 nq25 nq26 nq27 nq28 nq29 nq30 nq31 nq32 nq33 nq34 nq35 nq36 nq37 nq38 nq39 nq40 nq41 nq42 nq43 nq44 nq45 nq46 nq47 nq48 nq49 nq50 nq51 nq52 nq53 nq54 nq55 nq56 nq57 nq58 nq59 nq60 nq61 nq62 nq63 nq64 nq65 nq66 nq67 nq68 nq69 nq70 nq71 nq72 nq73 nq74 nq75 nq76 k1d k1e k1f k1g h6f i3a Ty.nm k0v k1a i3c j1h j1i j1j i3d i6a List.map_cons List.map_nil List.length_cons List.length_nil List.length_map List.replicate List.cons_append List.nil_append List.append_nil List.getElem?_cons_zero List.getElem?_cons_succ List.set_cons_zero List.set_cons_succ Option.some.injEq exists_eq_left' exists_eq_left exists_and_left V.int.injEq V.bl.injEq V.str.injEq V.ref.injEq V.ty.injEq Value.ref.injEq List.cons.injEq HO.lst.injEq HO.tup.injEq Int.zero_add List.length_append and_true true_and j7k j7l j7m j7n j7o two_line if_true reduceCtorEq if_false Bool.false_eq_true decide_eq_true_eq decide_eq_false_iff_not decide_true decide_false Bool.or_true Bool.true_or Bool.or_false Bool.false_or Bool.and_true Bool.true_and Bool.and_false Bool.false_and or_false false_or Nat.zero_add Nat.reduceAdd Nat.reduceSub exists_const false_and and_false Bool.not_true Bool.not_false Bool.not_eq_true' ne_eq not_true_eq_false not_false_eq_true Int.reduceEq Int.reduceNe Int.reduceLT Int.reduceLE Int.reducePow Int.reduceMul Int.reduceAdd Int.reduceSub Int.reduceNeg Int.reduceToNat Nat.reducePow Nat.reduceLT Nat.reduceLeDiff".splitOn " " do
  let i:=Lean.mkIdent n.toName
  let y <- `(Lean.Parser.Tactic.simpLemma| $i:ident)
  ls:=ls.push ⟨y.raw⟩
 `(tactic| simp (config:={ maxSteps:=1000000,dsimp:=false }) only [$ls,*])
theorem i1x{l r:Int}(hl:0<=l)(hr:0 < r):Int.gcd r (l.fmod r)=Int.gcd l r:=by
 rw [Int.fmod_eq_emod_of_nonneg _ (by omega)]
 obtain⟨x,rfl⟩:=Int.eq_ofNat_of_zero_le hl
 obtain⟨y,rfl⟩:=Int.eq_ofNat_of_zero_le (by omega:0<=r)
 rw [<- Int.natCast_emod,Int.gcd_natCast_natCast,Int.gcd_natCast_natCast,Nat.gcd_comm x y,Nat.gcd_rec y x,Nat.gcd_comm]
theorem i8f{l r:Int}(hl:0<=l)(hr:0 < r):0<=l.fmod r/\l.fmod r < r:=by
 rw [Int.fmod_eq_emod_of_nonneg _ (by omega)]
 exact⟨Int.emod_nonneg _ (by omega),Int.emod_lt_of_pos _ hr⟩
theorem i4r(a:Int){b:Int}(hb:0 < b):0<=a.fmod b/\a.fmod b < b:=by
 rw [Int.fmod_eq_emod_of_nonneg _ (by omega)]
 exact⟨Int.emod_nonneg _ (by omega),Int.emod_lt_of_pos _ hb⟩
theorem i8g(a b:Int):Int.gcd (a.natAbs:Int) (b.natAbs:Int)=Int.gcd a b:=by
 rw [Int.gcd_natCast_natCast]; rfl
theorem gcd_zero{l:Int}(hl:0<=l):((Int.gcd l 0:Nat):Int)=l:=by
 rw [Int.gcd_zero_right]; omega
theorem i1y{a b:Int}{n:Nat}(h:a≠0)(ha:intBits a<=n):intBits (Int.gcd a b:Int)<=n:=by
 refine intBits_le_of_natAbs ?_ ha
 rw [Int.natAbs_natCast]
 exact Nat.le_of_dvd (by omega) (Nat.gcd_dvd_left _ _)
theorem j4m{t b:Int}(hb:b≠0):t.fdiv (if b < 0 then -(Int.gcd t b:Int) else (Int.gcd t b:Int))=(Rat.divInt t b).num:=by
 rw [Rat.num_divInt,Int.gcd_comm b t]
 have hp:0 < Int.gcd t b:=Int.gcd_pos_of_ne_zero_right t hb
 obtain⟨k,hk⟩:(Int.gcd t b:Int)∣t:=Int.gcd_dvd_left t b
 generalize hg:(Int.gcd t b:Int)=g at *
 have hg0:0 < g:=by omega
 by_cases h:b < 0
 ·rw [if_pos h,Int.sign_eq_neg_one_of_neg h,hk]
  rw [show g*k=(-g)*(-k) by grind,Int.mul_fdiv_cancel_left _ (by omega),show -1*(-g * -k)=g*(-k) by grind,Int.mul_ediv_cancel_left _ (by omega)]
 ·rw [if_neg h,Int.sign_eq_one_of_pos (by omega),hk,Int.mul_fdiv_cancel_left _ (by omega),Int.one_mul,Int.mul_ediv_cancel_left _ (by omega)]
theorem j4n{t b:Int}(hb:b≠0):b.fdiv (if b < 0 then -(Int.gcd t b:Int) else (Int.gcd t b:Int))=((Rat.divInt t b).den:Int):=by
 rw [Rat.den_divInt,if_neg hb,Int.gcd_comm b t]
 have hp:0 < Int.gcd t b:=Int.gcd_pos_of_ne_zero_right t hb
 obtain⟨k,hk⟩:(Int.gcd t b:Int)∣b:=Int.gcd_dvd_right t b
 rw [Int.natCast_ediv]
 generalize hg:(Int.gcd t b:Int)=g at *
 have hg0:0 < g:=by omega
 by_cases h:b < 0
 ·have e:((b.natAbs:Nat):Int) = -b:=by omega
  rw [if_pos h,e,hk,show g*k=(-g)*(-k) by grind,Int.mul_fdiv_cancel_left _ (by omega),show -(-g * -k)=g*(-k) by grind,Int.mul_ediv_cancel_left _ (by omega)]
 ·have e:((b.natAbs:Nat):Int)=b:=by omega
  rw [if_neg h,e,hk,Int.mul_fdiv_cancel_left _ (by omega),Int.mul_ediv_cancel_left _ (by omega)]
theorem i8h(q:Rat):(Rat.abs q).num=q.num.natAbs:=by
 unfold Rat.abs
 split
 ·rename_i h
  have:=Rat.num_nonneg.mpr h
  omega
 ·rename_i h
  have:¬ 0<=q.num:=fun z=>h (Rat.num_nonneg.mp z)
  show -q.num=_
  omega
theorem i8i(q:Rat):(Rat.abs q).den=q.den:=by
 unfold Rat.abs
 split <;> rfl
theorem h4k(T:Tx K mg A):a2m P A.wd K mg base CX0 1 A.c4w A.c4h ["one","other"] j8w:=by
 refine T.d3w.ok c4g (fun _ _ _ _ h=>i7c h) (fun _ _ _ _ H vs Q E hr h=>?_)
 ·obtain⟨a,b,rfl,q⟩:=i1c h
  have q:Q (.int (Int.gcd a b)) H:=q
  have hu:=hr.units
  refine⟨_,(a0k (a2k (i:=2) c4g.nd rfl (Or.inl rfl) (a1h d7z (by rfl) T.i1h boot_abs (a0g (pvF 0) a0h)))
   (a0k (a2k (i:=3) c4g.nd rfl (Or.inl rfl) (a1h d7z (by rfl) T.i1h boot_abs (a0g (pvF 1) a0h)))
   (a0k (g4w PassesOwn.never (a0t (c1l hu) (pvF 3) a0p (a2j _))
   (a0k (a2k (i:=4) c4g.nd rfl (Or.inl rfl) (a1m d3h (pvF 2) (pvF 3)))
   (a0k (a2k (i:=2) c4g.nd rfl (Or.inl rfl) (pvF 3))
   (a0i (a2k (i:=3) c4g.nd rfl (Or.inl rfl) (pvF 4))))))
   (a0i (a1o (pvF 2)))))),?_⟩
  walk_at"rd"
  refine g4x (fun m σ H1=>∃ l r z,σ = [some (.int a),some (.int b),some (.int l),some (.int r),z]/\H1=H/\0<=l/\0<=r/\m=r.toNat/\Int.gcd l r=Int.gcd a b) _
   ⟨_,_,_,rfl,rfl,by omega,by omega,rfl,i8g a b⟩ ?_
  rintro m σ H1 ⟨l,r,z,rfl,rfl,hl,hr',rfl,hg⟩
  walk_at"rd"
  split
  ·rename_i h
   have hp:0 < r:=by omega
   have f:=i8f hl hp
   exact⟨h,_,(by omega:(l.fmod r).toNat < r.toNat),_,_,_,⟨rfl,rfl,rfl⟩,hr',f.1,rfl,(i1x hl hp).trans hg⟩
  ·rename_i h
   obtain rfl:r=0:=by omega
   rw [<- hg,gcd_zero hl] at q
   exact q
theorem f7t(T:Tx K mg A):a2m P A.wd K mg base CX0 1 A.b6j A.b5l ["value"] j8x:=by
 refine T.b4k.ok f5n (fun _ _ _ _ h=>ln_i h) (fun _ _ _ _ H vs Q E hr h=>?_)
 ·obtain⟨i,rfl,q⟩:=k2a h
  have hu:=hr.units
  refine⟨_,(a0i (a1o (f4l (a1h (b2q .int) (by rfl) T.a1z boot_isinstance (a0g (pvF 0) (a0g (b5g (v:=.ty "int") (u:=.type "int") (by rfl) T.f2u rfl rfl) a0h))) (g0b (h6i (a1h (b2q .bl) (by rfl) T.a1z boot_isinstance (a0g (pvF 0) (a0g (b5g (v:=.ty "bool") (u:=.type "bool") (by rfl) T.i4n rfl rfl) a0h)))))))),?_⟩
  walk_at"rd"
  exact q
theorem f7u(T:Tx K mg A):a2m P A.wd K mg base CX0 2 A.b8t A.b8u ["top","bottom"] j3v:=by
 have c4o:a2m P A.wd K mg base CX0 1 _ _ _ _:=f7t T
 have h8o:a2m P A.wd K mg base CX0 1 _ _ _ _:=h4k T
 refine T.c4l.ok d6o (fun _ _ _ _ h=>i7c h) (fun _ _ _ _ H vs Q E hr h=>?_)
 ·obtain⟨t,b,rfl,⟨hb,h1,h2,k⟩⟩:=i1c h
  have hu:=hr.units
  have f7v:c7p 1 _:=hr.mono (by decide)
  refine⟨_,(a0k (a3s (pw_or (b0z (a3z (a2g c4o f7v (by rfl) T.d5l T.b4k.kp T.d5k .nil a6o (a0g (pvF 0) a0h)))) (pw_or1 (b0z (a3z (a2g c4o f7v (by rfl) T.d5l T.b4k.kp T.d5k .nil a6o (a0g (pvF 1) a0h)))))).pt
   (a0i a5m)
   a0y)
   (a0k (a3s (a0t (b0m hu) (pvF 1) a0p (a2j _))
   (a0i a5m)
   a0y)
   (a0k (a2k (i:=2) d6o.nd rfl (Or.inl rfl) (a2g h8o (hr.mono (by decide)) (by rfl) T.h7u T.d3w.kp T.h7t .nil a6o (a0g (pvF 0) (a0g (pvF 1) a0h))))
   (a4g (a3s (a0t of_lt (pvF 1) a0p (a2j _))
   (a0i (a2k (i:=2) d6o.nd rfl (Or.inl rfl) (j0k i3f (pvF 2))))
   a0y)
   (a0i (a1o (b5j (a0g (a1m c8p (pvF 0) (pvF 2)) (a0g (a1m c8p (pvF 1) (pvF 2)) a0h))))))))),?_⟩
  walk_at"rd"
  rw [if_neg hb]
  refine⟨fun σ' H'=>σ' = [some (.int t),some (.int b),some (.int (if b < 0 then -(Int.gcd t b:Int) else (Int.gcd t b:Int)))]/\H'=H,?_,?_⟩
  ·walk_at"rd"
   split
   ·rfl
   ·rfl
  ·rintro σ' H' ⟨rfl,rfl⟩
   have hg:intBits (Int.gcd t b:Int)<=4000:=by
    rw [Int.gcd_comm]
    exact i1y hb h2
   have hp:0 < Int.gcd t b:=Int.gcd_pos_of_ne_zero_right t hb
   have hc:CFd t (if b < 0 then -(Int.gcd t b:Int) else (Int.gcd t b:Int)):=by
    split
    ·exact⟨by omega,Nat.le_trans (intBits_neg_le hg) (by decide)⟩
    ·exact⟨by omega,Nat.le_trans hg (by decide)⟩
   walk_at"rd"
   refine⟨hc,hc,fun p H1 n1 S1 h1=>k _ _ ⟨p,rfl,n1,S1,?_⟩⟩
   rw [h1,j4m hb,j4n hb]
   rfl
theorem g6u{n:Nat}(h:n < 10 ^ 9):n.log2 < 1920:=by
 rcases Nat.eq_zero_or_pos n with z | z
 ·rw [z]; decide
 ·rw [Nat.log2_lt (by omega)]
  exact Nat.lt_of_lt_of_le h (Nat.le_trans (by decide:10 ^ 9<=2 ^ 30) (Nat.pow_le_pow_right (by decide) (by decide)))
theorem g1m{t:Int}(h:t.natAbs < 10 ^ 9):intBits t<=4000:=by
 refine Nat.le_trans (intBits_le_iff.mpr (Nat.lt_of_lt_of_le h (by decide:10 ^ 9<=2 ^ 30))) (by decide)
theorem d5n(T:Tx K mg A):a2m P A.wd K mg base CX0 1 A.b2w A.b3t ["text"] j8y:=by
 refine T.b1h.ok d8v (fun _ _ _ _ h=>i1f h) (fun _ _ _ _ H vs Q E hr h=>?_)
 ·obtain⟨x,rfl,q⟩:=h9e h
  have q:Q (.bl (h2x (sg x))) H:=q
  have hu:=hr.units
  refine⟨_,(a0k (b5i PassesOwn.never rfl (g5d (pvF 0)) (a5n (i:=1) d8v.nd rfl (Or.inl rfl))
   (a0i (a3s (a0t b7i (pvF 1) (a6q (v:=.str "0123456789") (by rfl) T.h4j T.f0y) (by rfl))
   (a0i (a1o d6j))
   a0y)))
   (a0i (a1o (c8n (c1l hu) (pvF 0) a0o (a2j _))))),?_⟩
  walk_at"rd"
  refine g1w (fun i σ H1=>H1=H/\(∃ z,σ = [some (.str x),z])/\((sg x).take i).all (fun c=>decide (48<=c) && decide (c<=57))=true) ⟨rfl,⟨_,rfl⟩,rfl⟩ ?_ ?_
  ·rintro i c σ H1 hc ⟨rfl,⟨z,rfl⟩,ha⟩
   walk_at"rd"
   have hc':(sg x)[i]? = some c:=by
    unfold sg
    rw [Array.getElem?_toList]
    exact hc
   rw [h6p]
   split
   ·rename_i hb
    have:h2x (sg x)=false:=by
     unfold h2x
     rw [show (sg x).all (fun c=>decide (48<=c) && decide (c<=57))=false from ?_,Bool.false_and]
     rw [List.all_eq_false]
     exact⟨c,List.mem_of_getElem? hc',by rw [hb]; decide⟩
    rw [this] at q
    exact q
   ·rename_i hb
    refine⟨⟨_,rfl⟩,?_⟩
    rw [List.take_add_one,hc',List.all_append,ha]
    simpa using hb
  ·rintro σ H1 ⟨rfl,⟨z,rfl⟩,ha⟩
   walk_at"rd"
   have hl:x.cps.size=(sg x).length:=by simp
   rw [hl,List.take_length] at ha
   have e:h2x (sg x) = !decide (x=Str.ofString ""):=by
    unfold h2x
    rw [ha,Bool.true_and]
    congr 1
    rw [Bool.eq_iff_iff,decide_eq_true_eq,List.isEmpty_iff]
    exact⟨fun h=>b2t (h.trans (by decide +kernel)),fun h=>by rw [h]; decide +kernel⟩
   rw [e] at q
   exact q
theorem h1s(T:Tx K mg A):a2m P A.wd K mg base CX0 1 A.a8n A.a8r ["one"] i7q:=by
 refine T.a8p.ok a9z (fun _ _ _ _ h=>f3t h) (fun _ _ _ _ H vs Q E hr h=>?_)
 ·obtain⟨p,rfl,⟨t,b,hp,l1,l2,q⟩⟩:=f2t h
  have hu:=hr.units
  refine⟨_,(a0k (a2k (i:=1) a9z.nd rfl (Or.inl rfl) (a2h a8m (pvF 0) a0p (fun _ _=>rfl)))
   (a0k (a2k (i:=2) a9z.nd rfl (Or.inl rfl) (a2h a8m (pvF 0) a0p (fun _ _=>rfl)))
   (a0i (a1o (c4q (b2l (d5r (pvF 1)) (b2l a0o (b2l (d5r (pvF 2)) f4q)))))))),?_⟩
  walk_at"rd*"
  have e0:Str.empty.length=0:=rfl
  have e1:(Str.ofString "/").length=1:=by decide +kernel
  have e2:(Str.ofString (toString t)).length=(txt t).length:=by rw [<- b0v,d8i]
  have e3:(Str.ofString (toString b)).length=(txt b).length:=by rw [<- b0v,d8i]
  have f2:=g8e t
  have f3:=g8e b
  have hs:=szl
  simp only [strLen_append,e0,e1,e2,e3]
  refine⟨by omega,by omega,by omega,by omega,q _ ?_⟩
  rw [a5u,a5u,a5u,d8i,d8i]
  unfold i3w
  have e4:sg Str.empty = []:=rfl
  have e5:sg (Str.ofString "/") = [47]:=by decide +kernel
  rw [e4,e5]
  simp
theorem i8j(T:Tx K mg A):a2m P A.wd K mg base CX0 3 A.a8o A.a8s ["text"] j3w:=by
 have b3r:a2m P A.wd K mg base CX0 1 _ _ _ _:=d5n T
 have b3s:a2m P A.wd K mg base CX0 1 _ _ _ _:=h1s T
 have f1q:a2m P A.wd K mg base CX0 2 _ _ _ _:=f7u T
 refine T.a9u.ok a6k (fun _ _ _ _ h=>i1f h) (fun _ _ _ _ H vs Q E hr h=>?_)
 ·obtain⟨x,rfl,⟨t,b,g,k⟩⟩:=h9e h
  have hu:=hr.units
  obtain⟨hx,hb,hg,l1,l2⟩:=g
  have hb0:b≠0:=by omega
  have tb:txt b=dg b.natAbs:=if_neg (by omega)
  have sl:Str.ofString "/" = ⟨#[47]⟩:=by decide +kernel
  have mi:Str.ofString "-" = ⟨#[45]⟩:=by decide +kernel
  have sp:=i0l (x:=x) (c:=47) (by decide) hx (g0j (by decide) (by decide)) (g0j (by decide) (by decide))
  have hs:=szl
  have q1:=j2g t
  have xl:x.length=(txt t).length+((txt b).length+1):=by rw [<- b0v,hx]; simp [i3w]
  rw [tb] at xl
  obtain⟨h0,e0⟩:∃ h0:Str,h0 = ⟨(txt t).toArray⟩:=⟨_,rfl⟩
  obtain⟨h1,e1⟩:∃ h1:Str,h1 = ⟨(txt b).toArray⟩:=⟨_,rfl⟩
  have s0:sg h0=txt t:=by rw [e0]
  have s1:sg h1=txt b:=by rw [e1]
  have n0:h0.length=(txt t).length:=by rw [<- b0v,s0]
  have n1:h1.length=(txt b).length:=by rw [<- b0v,s1]
  rw [<- e0,<- e1] at sp
  have sw:=j2h s0
  have i0:=d9z s0 (by omega)
  have i1:=d9z s1 (by rw [tb] at n1; omega)
  have r0:Rat.divInt t b = ⟨t,b.toNat,by omega,by
   show Nat.gcd t.natAbs b.toNat=1
   rw [<- hg]
   unfold Int.gcd
   congr 1
   omega⟩:=by
   rw [Rat.mk_eq_divInt]
   congr 1
   omega
  refine⟨_,(a0k (a3s (b0z (a3z (a1h (b2q .str) (by rfl) T.a1z boot_isinstance (a0g (pvF 0) (a0g (b5g (v:=.ty "str") (u:=.type "str") (by rfl) T.g9u rfl rfl) a0h)))))
   (a0i a5m)
   a0y)
   (a0k (a2k (i:=1) a6k.nd rfl (Or.inl rfl) (a7q a9j PySem.F.plainAttrs_str PySem.F.slot_str_split PySem.F.type_str_split d1i (pvF 0) (a0g a0o a0h)))
   (a0k (a3s (a0t (c1l hu) (a1h a3y (by rfl) T.c1h boot_len (a0g (pvF 1) a0h)) a0p (a2j _))
   (a0i a5m)
   a0y)
   (a4g (a2k (i:=2) a6k.nd rfl (Or.inl rfl) (h0p (a3z (a7q a9j PySem.F.plainAttrs_str PySem.F.slot_str_startswith PySem.F.type_str_startswith c3j (a2h a8m (pvF 1) a0p (fun _ _=>rfl)) (a0g a0o a0h))) (b2p h2w (a2h a8m (pvF 1) a0p (fun _ _=>rfl)) (b2r a0p) b7g) (a2h a8m (pvF 1) a0p (fun _ _=>rfl))))
   (a0k (b5i PassesOwn.never rfl (a5s (a3v (a0g (pvF 2) (a0g (a2h a8m (pvF 1) a0p (fun _ _=>rfl)) a0h)))) (a5n (i:=3) a6k.nd rfl (Or.inl rfl))
   (a0i (a3s (pw_or (b0z (a3z (a2g b3r (hr.mono (by decide)) (by rfl) T.c8m T.b1h.kp T.c8l .nil a6o (a0g (pvF 3) a0h)))) (pw_or1 (a0t d5p (a1h a3y (by rfl) T.c1h boot_len (a0g (pvF 3) a0h)) (a6q (v:=.int 9) (by rfl) T.b8r T.a9w) (a2j _)))).pt
   (a0i a5m)
   a0y)))
   (a0k (a3s (a0t (b0m hu) (a9i b4t (by rfl) T.f2u boot_int (a0g (a2h a8m (pvF 1) a0p (fun _ _=>rfl)) a0h)) a0p (a2j _))
   (a0i a5m)
   a0y)
   (a0k (a2k (i:=4) a6k.nd rfl (Or.inl rfl) (a2g f1q (hr.mono (by decide)) (by rfl) T.g1d T.c4l.kp T.g1c .nil a6o (a0g (a9i b4t (by rfl) T.f2u boot_int (a0g (a2h a8m (pvF 1) a0p (fun _ _=>rfl)) a0h)) (a0g (a9i b4t (by rfl) T.f2u boot_int (a0g (a2h a8m (pvF 1) a0p (fun _ _=>rfl)) a0h)) a0h))))
   (a0k (a3s (a0t (c1l hu) (a2g b3s (hr.mono (by decide)) (by rfl) T.c7m T.a8p.kp T.c7l .nil a6o (a0g (pvF 4) a0h)) (pvF 0) (a2j _))
   (a0i a5m)
   a0y)
   (a0i (a1o (pvF 4))))))))))),?_⟩
  rw [sl,mi]
  have hx':id (sg x=i3w t b):=hx
  clear e0 e1 hx sl mi
  have d1:((⟨#[47]⟩:Str).length == 0)=false:=rfl
  have d2:x.length<=sizeLine:=by omega
  have d3:2<=sizeLine:=by omega
  have d4:h0.length<=sizeLine:=by omega
  have d5:h1.length<=sizeLine:=by rw [tb] at n1; omega
  have N0:h0.length<=10:=by omega
  have N1:h1.length<=9:=by rw [tb] at n1; omega
  clear xl n0 n1 q1 hs
  walk_at"rd*"
  intro p H1 n1' S1 h1'
  walk_at"rd*"
  rw [if_neg (by decide)]
  refine⟨fun σ' H'=>∃ top:Str,sg top=dg t.natAbs/\σ' = [some (.str x),some (.ref p),some (.str top),none,none]/\H'=H1,?_,?_⟩
  ·walk_at"rd*"
   split
   ·rename_i ht
    have z:=h6r (x:=h0) (i:=1) (by
     rw [<- b0v,s0]
     unfold txt
     rw [if_pos ht]
     simp)
    rw [show ((1:Nat):Int)=1 from rfl] at z
    refine⟨_,?_,rfl⟩
    rw [z,s0]
    unfold txt
    rw [if_pos ht]
    rfl
   ·rename_i ht
    refine⟨_,?_,rfl⟩
    rw [s0]
    unfold txt
    rw [if_neg ht]
  ·rintro σ' H' ⟨top,st,rfl,rfl⟩
   walk_at"rd*"
   intro q H2 n2 S2 h2
   walk_at"rd*"
   have hp2:=S2 _ _ h1'
   refine⟨⟨_,SqL.of h2⟩,?_⟩
   have f0:h2x (sg top)=true:=by rw [st]; exact d4y.mpr ⟨d2v _,g5g _⟩
   have f1:h2x (sg h1)=true:=by rw [s1,tb]; exact d4y.mpr ⟨d2v _,g5g _⟩
   have m0:top.length<=9:=by rw [<- b0v,st]; exact l1
   have m1:top.length<=sizeLine:=Nat.le_trans m0 (by decide)
   refine c1k (xs:=[.str top,.str h1]) (fun i σ H'=>H'=H2/\∃ z,σ = [some (.str x),some (.ref p),some (.str top),z,none]) ⟨rfl,_,rfl⟩ (fun i σ H' _ h=>by rw [h.1]; exact SqL.of h2) ?_ ?_
   ·rintro i v σ H' hv ⟨rfl,z,rfl⟩
    match i,hv with
    | 0,hv =>
     cases hv
     walk_at"rd*"
     rw [st] at f0
     rw [f0,if_neg (by simp; omega)]
     exact⟨_,rfl⟩
    | 1,hv =>
     cases hv
     walk_at"rd*"
     rw [s1,tb] at f1
     rw [f1,if_neg (by simp; omega)]
     exact⟨_,rfl⟩
    | i+2,hv=>cases hv
   ·rintro σ H' ⟨rfl,z,rfl⟩
    walk_at"rd*"
    have v1:t.natAbs < 10 ^ 9:=by
     have:=i3v (d2v t.natAbs)
     rw [g5f] at this
     exact Nat.lt_of_lt_of_le this (Nat.pow_le_pow_right (by decide) l1)
    have v2:b.natAbs < 10 ^ 9:=by
     have:=i3v (d2v b.natAbs)
     rw [g5f] at this
     exact Nat.lt_of_lt_of_le this (Nat.pow_le_pow_right (by decide) l2)
    have g1:t.natAbs.log2 < 1920:=g6u v1
    have g2:b.natAbs.log2 < 1920:=g6u v2
    refine⟨by omega,by omega,by omega,g1m v1,g1m v2,?_⟩
    rw [r0]
    rintro _ H3 ⟨o,rfl,n3,S3,h3⟩
    replace h3:H3 o=some (.tup [.int t,.int b]):=by
     rw [h3]
     unfold g8c
     show some (HO.tup [V.int t,V.int ((b.toNat:Nat):Int)])=_
     rw [Int.toNat_of_nonneg (by omega)]
    walk_at"rd*"
    refine⟨t,b,⟨rfl,rfl⟩,g1,g2,fun y hy=>?_⟩
    rw [if_neg (not_not_intro (b2t (hy.trans hx'.symm)))]
    refine k _ _ ⟨o,rfl,?_,fun c u e=>S3 _ _ (S2 _ _ (S1 _ _ e)),h3⟩
    cases e:H o with
    | none=>rfl
    | some u =>
     have:=S2 _ _ (S1 _ _ e)
     rw [n3] at this
     cases this
theorem h8p{x:Str}{n:Nat}(h:sg x=txt (n:Int)):(Txt.startswith x ⟨#[48]⟩ && !decide (x=(⟨#[48]⟩:Str)))=false:=by
 have e:txt (n:Int)=dg n:=if_neg (by omega)
 rw [e] at h
 rcases Nat.eq_zero_or_pos n with z | z
 ·subst z
  have:x = ⟨#[48]⟩:=b2t (by rw [h]; rfl)
  rw [this]
  simp
 ·obtain⟨c,r,e1,e2⟩:=g8d z
  rw [h6q,h,e1]
  simp [e2]
theorem j4o(T:Tx K mg A):a2m P A.wd K mg base CX0 2 A.b6k A.b5m ["text"] j8z:=by
 have b3r:a2m P A.wd K mg base CX0 1 _ _ _ _:=d5n T
 refine T.c0j.ok f5o (fun _ _ _ _ h=>i1f h) (fun _ _ _ _ H vs Q E hr h=>?_)
 ·obtain⟨x,rfl,⟨n,hx,hn,q⟩⟩:=h9e h
  have hu:=hr.units
  have sl:Str.ofString "0" = ⟨#[48]⟩:=by decide +kernel
  refine⟨_,(a0k (a3s (pw_or (b0z (a3z (a2g b3r (hr.mono (by decide)) (by rfl) T.c8m T.b1h.kp T.c8l .nil a6o (a0g (pvF 0) a0h)))) (pw_or1 (a0t d5p (a1h a3y (by rfl) T.c1h boot_len (a0g (pvF 0) a0h)) (a6q (v:=.int 13) (by rfl) T.b8q T.a9v) (a2j _)))).pt
   (a0i (a1o f1t))
   a0y)
   (a0k (a3s (pw_and (a3z (a7q a9j PySem.F.plainAttrs_str PySem.F.slot_str_startswith PySem.F.type_str_startswith c3j (pvF 0) (a0g a0o a0h))) (pw_and1 (a0t (c1l hu) (pvF 0) a0o (a2j _)))).pt
   (a0i (a1o f1t))
   a0y)
   (a0i (a1o (a9i b4t (by rfl) T.f2u boot_int (a0g (pvF 0) a0h)))))),?_⟩
  rw [sl]
  walk_at"rd*"
  have e:txt (n:Int)=dg n:=if_neg (by omega)
  have f:h2x (txt (n:Int))=true:=by rw [e]; exact d4y.mpr ⟨d2v _,g5g _⟩
  have lx:x.length<=13:=by
   rw [<- b0v,hx,e]
   have a:=g8g 12 n (by omega)
   omega
  have sw:=h8p hx
  have hs:=szl
  rw [f,if_neg (by decide)]
  refine⟨by omega,?_⟩
  rw [if_neg ?_]
  ·exact⟨_,d9z hx (by omega),by omega,q⟩
  ·rintro (z | ⟨z1,z2⟩)
   ·omega
   ·rw [z1,Bool.true_and] at sw
    simp [z2] at sw
theorem j6k.same{H H':Hp}{fs:List (Str×V)}{d:Dt}(h:j6k H fs d)(S:Same H H'):j6k H' fs d:=by
 cases d with
 | gain y=>obtain⟨g,e,h1⟩:=h; exact⟨g,e,S _ _ h1⟩
 | delay n=>exact h
 | _=>exact h.elim
theorem IsP.same{A:Ad}{H H':Hp}{o:Addr}{d:Dt}(h:IsP A H o d)(S:Same H H'):IsP A H' o d:=by
 obtain⟨dx,fs,h1,h2⟩:=h
 exact⟨dx,fs,S _ _ h1,h2.same S⟩
theorem h1t(T:Tx K mg A):a2m P A.wd K mg base CX0 1 A.b8y A.b6l ["self","gain"] (i7r A.c7y):=by
 have b4n:=T.b4n
 have a6p:=T.a6p
 refine T.d1z.ok g5x (fun _ _ _ _ h=>h3j h) (fun _ _ _ _ H vs Q E hr h=>?_)
 ·obtain⟨o,gt,rfl,⟨dx,ho,k⟩⟩:=g8w h
  have hu:=hr.units
  refine⟨_,(a0i (c1w (pvF 0) (pvF 1) rfl)),?_⟩
  walk_at"rd*"
  intro H1 B1 h1
  exact k H1 B1 h1
theorem h8q(T:Tx K mg A):a2m P A.wd K mg base CX0 1 A.b6n A.b3v ["self","many"] (i1t A.b7q):=by
 have b0t:=T.b0t
 have a5r:=T.a5r
 refine T.c8g.ok g2d (fun _ _ _ _ h=>i1d h) (fun _ _ _ _ H vs Q E hr h=>?_)
 ·obtain⟨o,n,rfl,⟨dx,ho,k⟩⟩:=h7j h
  have hu:=hr.units
  refine⟨_,(a0i (c1w (pvF 0) (pvF 1) rfl)),?_⟩
  walk_at"rd*"
  intro H1 B1 h1
  exact k H1 B1 h1
theorem k0d(T:Tx K mg A):a2m P A.wd K mg base CX0 1 A.a8n A.a8r ["one"] spFW:=by
 refine T.a8p.ok a9z (fun _ _ _ _ h=>f3t h) (fun _ _ _ _ H vs Q E hr h=>?_)
 ·obtain⟨p,rfl,⟨x,hp,l1,l2,q⟩⟩:=f2t h
  have hu:=hr.units
  unfold g8c at hp
  have fl:=h1f l1 l2
  have g1:=g5k (intBits_le_iff.mp l1) (by decide)
  have g2:=g5k (intBits_le_iff.mp l2) (by decide)
  have a:=d6n (intBits_le_iff.mp l1) (by decide)
  have b:=d6n (intBits_le_iff.mp l2) (by decide)
  have e0:Str.empty.length=0:=rfl
  have e1:(Str.ofString "/").length=1:=by decide +kernel
  have hs:=szl
  unfold fW at q
  refine⟨_,(a0k (a2k (i:=1) a9z.nd rfl (Or.inl rfl) (a2h a8m (pvF 0) a0p (fun _ _=>rfl)))
   (a0k (a2k (i:=2) a9z.nd rfl (Or.inl rfl) (a2h a8m (pvF 0) a0p (fun _ _=>rfl)))
   (a0i (a1o (c4q (b2l (d5r (pvF 1)) (b2l a0o (b2l (d5r (pvF 2)) f4q)))))))),?_⟩
  walk_at"rd*"
  simp only [strLen_append,e0,e1]
  refine⟨by omega,by omega,by omega,by omega,by omega,by omega⟩
theorem k0f(T:Tx K mg A):a2m P A.wd K mg base CX0 2 A.b8z A.b6m ["self"] (k2b A 0):=by
 have b3s:a2m P A.wd K mg base CX0 1 _ _ _ _:=k0d T
 have b4n:=T.b4n
 have a6p:=T.a6p
 refine T.d2g.ok f2l (fun _ _ _ _ h=>f3t h) (fun _ _ _ _ H vs Q E hr h=>?_)
 ·obtain⟨o,rfl,⟨d,hk,hd,ok,q⟩⟩:=f2t h
  cases d with
  | gain y =>
   obtain⟨dx,_,ho,g,rfl,hg⟩:=hd
   have ok:YOk y:=ok
   replace ho:H o=some (.ins A.c7y dx [("gain",.ref g)]):=ho
   have hu:=hr.units
   have f3k:c7p 1 _:=hr.mono (by decide)
   have a:=h1f ok.b.1 ok.b.2
   have e0:Str.empty.length=0:=rfl
   have e1:(Str.ofString "gain:").length=5:=by decide +kernel
   have hs:=szl
   refine⟨_,(a0k (a2k (i:=1) f2l.nd rfl (Or.inl rfl) (a2g b3s f3k (by rfl) T.c7m T.a8p.kp T.c7l .nil a6o (a0g (a8g (pvF 0) rfl) a0h)))
   (a0i (a1o (c4q (b2l a0o (b2l (d5r (pvF 1)) f4q)))))),?_⟩
   walk_at"rd*"
   refine⟨y,rfl,ok.b.1,ok.b.2,?_⟩
   simp only [strLen_append,e0,e1]
   exact⟨by omega,by omega,by omega,by rw [j2t]; exact q _ (Same.refl _)⟩
  | _=>simp [Dt.kd] at hk
theorem k0g(T:Tx K mg A):a2m P A.wd K mg base CX0 1 A.b6o A.b3w ["self"] (k2b A 1):=by
 have b0t:=T.b0t
 have a5r:=T.a5r
 refine T.c8h.ok d8w (fun _ _ _ _ h=>f3t h) (fun _ _ _ _ H vs Q E hr h=>?_)
 ·obtain⟨o,rfl,⟨d,hk,hd,ok,q⟩⟩:=f2t h
  cases d with
  | delay n =>
   obtain⟨dx,_,ho,rfl⟩:=hd
   have ok:n<=1000:=ok
   replace ho:H o=some (.ins A.b7q dx [("many",.int n)]):=ho
   have hu:=hr.units
   have a:=i4a (n:=n) (Nat.lt_of_le_of_lt ok (by decide))
   have e0:Str.empty.length=0:=rfl
   have e1:(Str.ofString "delay:").length=6:=by decide +kernel
   have hs:=szl
   have g0:=g5k (t:=(n:Int)) (n:=20) (by omega) (by decide)
   unfold nW at a
   refine⟨_,(a0k (a2k (i:=1) d8w.nd rfl (Or.inl rfl) (a8g (pvF 0) rfl))
   (a0i (a1o (c4q (b2l a0o (b2l (d5r (pvF 1)) f4q)))))),?_⟩
   walk_at"rd*"
   have w:=i6q n
   unfold nW at w
   simp only [strLen_append,e0,e1]
   refine⟨by omega,by omega,by omega,?_⟩
   rw [w]
   exact q _ (Same.refl _)
  | _=>simp [Dt.kd] at hk
theorem j4p(T:Tx K mg A):a2m P A.wd K mg base CX0 4 A.b2y A.b2z ["text"] spRG:=by
 have f7w:a2m P A.wd K mg base CX0 3 _ _ _ _:=i8j T
 refine T.b3l.ok c7t (fun _ _ _ _ h=>i1f h) (fun _ _ _ _ H vs Q E hr h=>?_)
 ·obtain⟨x,rfl,⟨y,hx,oy,k⟩⟩:=h9e h
  subst hx
  have hu:=hr.units
  refine⟨_,(a0k (i6l (a2k (i:=1) c7t.nd rfl (Or.inl rfl) (a2g f7w (hr.mono (by decide)) (by rfl) T.d4r T.a9u.kp T.d4q .nil a6o (a0g (pvF 0) a0h))))
   (a0k (a3s (pw_or (a0t d5p (a1h d7z (by rfl) T.i1h boot_abs (a0g (a2h a8m (pvF 1) a0p (fun _ _=>rfl)) a0h)) (a6q (v:=.int 1000) (by rfl) T.f2q T.c8k) (a2j _)) (pw_or1 (a0t d5p (a2h a8m (pvF 1) a0p (fun _ _=>rfl)) (a6q (v:=.int 1000) (by rfl) T.f2q T.c8k) (a2j _)))).pt
   (a0i a5m)
   a0y)
   (a0i (a1o (pvF 1))))),?_⟩
  walk_at"rd"
  refine⟨y.num,(y.den:Int),i6m oy,?_⟩
  rintro _ H1 ⟨o,rfl,n1,S1,h1⟩
  have y1:¬ 1000 < (y.num.natAbs:Int):=by have:=oy.1; omega
  have y2:¬ 1000 < (y.den:Int):=by have:=oy.2; omega
  walk_at"rd*"
  exact k _ _ ⟨o,rfl,n1,S1,h1⟩
theorem k0h(T:Tx K mg A):a2m P A.wd K mg base CX0 3 A.b1k A.b1t ["text","least","most"] spRN:=by
 have f1r:a2m P A.wd K mg base CX0 2 _ _ _ _:=j4o T
 refine T.b7r.ok d5v (fun _ _ _ _ h=>j3n h) (fun _ _ _ _ H vs Q E hr h=>?_)
 ·obtain⟨x,a,b,rfl,⟨n,hx,hn,h1,h2,q⟩⟩:=i4k h
  have hu:=hr.units
  refine⟨_,(a0k (a2k (i:=3) d5v.nd rfl (Or.inl rfl) (a2g f1r (hr.mono (by decide)) (by rfl) T.g1b T.c0j.kp T.g1a .nil a6o (a0g (pvF 0) a0h)))
   (a0k (a3s (pw_or (a0t j0p (pvF 3) f1t (a2j _)) (pw_or (a0t of_lt (pvF 3) (pvF 1) (a2j _)) (pw_or1 (a0t d5p (pvF 3) (pvF 2) (a2j _))))).pt
   (a0i a5m)
   a0y)
   (a0i (a1o (pvF 3))))),?_⟩
  walk_at"rd"
  refine⟨n,hx,by omega,?_⟩
  have z1:¬ (n:Int) < a:=by omega
  have z2:¬ b < (n:Int):=by omega
  walk_at"rd*"
theorem i2a(T:Tx K mg A):a2m P A.wd K mg base CX0 1 A.b0n A.b0q ["values","count"] spCC:=by
 refine T.a9m.ok d5w (fun _ _ _ _ h=>i1d h) (fun _ _ _ _ H vs Q E hr h=>?_)
 ·obtain⟨l,c,rfl,⟨xs,hl,e,q⟩⟩:=h7j h
  have hu:=hr.units
  refine⟨_,(a0i (a3s (a0t (c1l hu) (a1h a3y (by rfl) T.c1h boot_len (a0g (pvF 0) a0h)) (pvF 1) (a2j _))
   (a0i a5m)
   a0y)),?_⟩
  walk_at"rd*"
theorem h4l(T:Tx K mg A):a2m P A.wd K mg base CX0 6 A.b7p A.b9g ["values"] (k2c A 0):=by
 have b1r:a2m P A.wd K mg base CX0 1 _ _ _ _:=i2a T
 have c7o:a2m P A.wd K mg base CX0 4 _ _ _ _:=j4p T
 have d7q:a2m P A.wd K mg base CX0 1 _ _ _ _:=h1t T
 have b4n:=T.b4n
 have a6p:=T.a6p
 refine T.c5n.ok g0w (fun _ _ _ _ h=>f3t h) (fun _ _ _ _ H vs Q E hr h=>?_)
 ·obtain⟨l,rfl,⟨d,hk,ok,hl,q⟩⟩:=f2t h
  cases d with
  | gain y =>
   have hu:=hr.units
   have c9z:c7p 1 _:=hr.mono (by decide)
   have g6v:c7p 4 _:=hr.mono (by decide)
   have g6w:c7p 2 _:=hr.mono (by decide)
   replace hl:H l=some (.lst [.str (fW y)]):=hl
   refine⟨_,(a0k (a5t (a2g b1r c9z (by rfl) T.c3r T.a9m.kp T.c3q .nil a6o (a0g (pvF 0) (a0g a0p a0h))))
   (a0i (a1o (d1j T.h1p d7q g6w (by rfl) T.h8b T.f6n .nil a6o (a0g (a2g c7o g6v (by rfl) T.d7m T.b3l.kp T.d7l .nil a6o (a0g (a2h a8m (pvF 0) a0p (fun _ _=>rfl)) a0h)) a0h))))),?_⟩
   walk_at"rd"
   refine⟨_,hl,rfl,?_⟩
   walk_at"rd*"
   refine⟨y,rfl,ok,?_⟩
   rintro _ H1 ⟨g,rfl,n1,S1,h1⟩
   walk_at"rd"
   intro x dx H2 n2 n3 nx S2 hdx hx
   refine⟨dx,hx,fun H3 B3 h3=>?_⟩
   rw [asNew]
   refine⟨rfl,?_⟩
   have gx:g≠x:=fun e=>by rw [e] at h1; rw [h1] at n2; cases n2
   refine q x H3 (S1.free n2) (fun b u e=>B3 _ _ (fun z=>by rw [z] at e; rw [S1 _ _ e] at n2; cases n2) (S2 _ _ (S1 _ _ e))) ⟨dx,_,h3,g,rfl,B3 _ _ gx (S2 _ _ h1)⟩
  | _=>simp [Dt.kd] at hk
theorem g9z(T:Tx K mg A):a2m P A.wd K mg base CX0 6 A.b6p A.b9h ["values"] (k2c A 1):=by
 have b1r:a2m P A.wd K mg base CX0 1 _ _ _ _:=i2a T
 have g3u:a2m P A.wd K mg base CX0 3 _ _ _ _:=k0h T
 have g6x:a2m P A.wd K mg base CX0 1 _ _ _ _:=h8q T
 have b0t:=T.b0t
 have a5r:=T.a5r
 refine T.d0r.ok g8y (fun _ _ _ _ h=>f3t h) (fun _ _ _ _ H vs Q E hr h=>?_)
 ·obtain⟨l,rfl,⟨d,hk,ok,hl,q⟩⟩:=f2t h
  cases d with
  | delay n =>
   have hu:=hr.units
   have c9z:c7p 1 _:=hr.mono (by decide)
   have f9w:c7p 3 _:=hr.mono (by decide)
   have g3v:c7p 2 _:=hr.mono (by decide)
   have ok:n<=1000:=ok
   replace hl:H l=some (.lst [.str (nW n)]):=hl
   refine⟨_,(a0k (a5t (a2g b1r c9z (by rfl) T.c3r T.a9m.kp T.c3q .nil a6o (a0g (pvF 0) (a0g a0p a0h))))
   (a0i (a1o (d1j T.g9d g6x g3v (by rfl) T.i1i T.g6b .nil a6o (a0g (a2g g3u f9w (by rfl) T.g2t T.b7r.kp T.g2s .nil a6o (a0g (a2h a8m (pvF 0) a0p (fun _ _=>rfl)) (a0g a0p (a0g (a6q (v:=.int 1000) (by rfl) T.g6t T.d4p) a0h)))) a0h))))),?_⟩
   walk_at"rd"
   refine⟨_,hl,rfl,?_⟩
   walk_at"rd*"
   refine⟨n,g8i n,by omega,by omega,by omega,?_⟩
   intro x dx H2 n2 n3 nx S2 hdx hx
   refine⟨dx,hx,fun H3 B3 h3=>?_⟩
   rw [asNew]
   refine⟨rfl,?_⟩
   exact q x H3 n2 (fun b u e=>B3 _ _ (fun z=>by rw [z] at e; rw [e] at n2; cases n2) (S2 _ _ e)) ⟨dx,_,h3,rfl⟩
  | _=>simp [Dt.kd] at hk
theorem h8r(T:Tx K mg A):a2m P A.wd K mg base CX0 8 A.c1q A.b9i ["word"] (j3x A):=by
 have f7y:a2m P A.wd K mg base CX0 6 _ _ _ _:=h4l T
 have h4m:a2m P A.wd K mg base CX0 6 _ _ _ _:=g9z T
 refine T.c5o.ok d5i (fun _ _ _ _ h=>i1f h) (fun _ _ _ _ H vs Q E hr h=>?_)
 ·obtain⟨x,rfl,⟨d,ok,k4,hx,q⟩⟩:=h9e h
  subst hx
  have hu:=hr.units
  have dk:=T.g1k
  have sp:=d.split
  have wl:=d.wlen ok
  have vn:=d.vn
  have hs:=szl
  have d1:((⟨#[58]⟩:Str).length == 0)=false:=rfl
  obtain⟨f,hf⟩:∃ f,PySem.W.nsIn K A.a7l d.kind=some (some (.ref f)):=by
   cases d with
   | gain=>exact⟨_,T.b3q⟩
   | delay=>exact⟨_,T.b4w⟩
   | _=>exact absurd k4 (by simp [Dt.kd])
  refine⟨_,(a0k (a3s (b0z (a3z (a1h (b2q .str) (by rfl) T.a1z boot_isinstance (a0g (pvF 0) (a0g (b5g (v:=.ty "str") (u:=.type "str") (by rfl) T.g9u rfl rfl) a0h)))))
   (a0i a5m)
   a0y)
   (a0k (a2k (i:=1) d5i.nd rfl (Or.inl rfl) (a7q a9j PySem.F.plainAttrs_str PySem.F.slot_str_split PySem.F.type_str_split d1i (pvF 0) (a0g a0o a0h)))
   (a0k (a3s (a0t (g5h (K:=K) (w:=A.wd) (by rfl) (by rfl)) (a2h a8m (pvF 1) a0p (fun _ _=>rfl)) (a6q (v:=.ref A.a7l) (by rfl) T.c4n rfl) (by rfl))
   (a0i a5m)
   a0y)
   (a0i (a1o (d8l (f3p f7y (hr.mono (by decide)) T.c5n.kp T.g6d .nil a6o (a2h (j6g (K:=K) (w:=A.wd) (by rfl) (by rfl)) (a6q (v:=.ref A.a7l) (by rfl) T.c4n rfl) (a2h a8m (pvF 1) a0p (fun _ _=>rfl)) (fun _ _=>rfl)) (a0g (b2p h2w (pvF 1) (b2r a0p) b7g) a0h)) (f3p h4m (hr.mono (by decide)) T.d0r.kp T.h3o .nil a6o (a2h (j6g (K:=K) (w:=A.wd) (by rfl) (by rfl)) (a6q (v:=.ref A.a7l) (by rfl) T.c4n rfl) (a2h a8m (pvF 1) a0p (fun _ _=>rfl)) (fun _ _=>rfl)) (a0g (b2p h2w (pvF 1) (b2r a0p) b7g) a0h)))))))),?_⟩
  rw [j8g]
  walk_at"rd*"
  refine⟨by omega,by omega,fun l H1 n1 S1 h1=>?_⟩
  clear sp wl
  walk_at"rd*"
  clear hf
  cases d with
  | gain y =>
   refine Or.inl ?_
   have rd:=T.b3q
   have q1:=ok
   clear ok
   replace h1:H1 l=some (.lst [.str (Str.ofString "gain"),.str (fW y)]):=h1
   walk_at"rd*"
   refine fun m H2 n2 S2 h2=>?_
   have e2:g4e [V.str (Str.ofString "gain"),V.str (fW y)] (some 1) none=(Dt.gain y).vals.map V.str:=by
    show g7m _ (some ((1:Nat):Int)) none=_
    rw [c1m]
    rfl
   rw [e2] at h2
   walk_at"rd"
   exact⟨_,rfl,q1,h2,fun o H3 n3 S3 hp=>q o H3 ((S1.trans S2).free n3) (S1.trans (S2.trans S3)) hp⟩
  | delay n =>
   refine Or.inr ?_
   have rd:=T.b4w
   have q1:=ok
   clear ok
   replace h1:H1 l=some (.lst [.str (Str.ofString "delay"),.str (nW n)]):=h1
   walk_at"rd*"
   refine fun m H2 n2 S2 h2=>?_
   have e2:g4e [V.str (Str.ofString "delay"),V.str (nW n)] (some 1) none=(Dt.delay n).vals.map V.str:=by
    show g7m _ (some ((1:Nat):Int)) none=_
    rw [c1m]
    rfl
   rw [e2] at h2
   walk_at"rd"
   exact⟨_,rfl,q1,h2,fun o H3 n3 S3 hp=>q o H3 ((S1.trans S2).free n3) (S1.trans (S2.trans S3)) hp⟩
  | _=>exact absurd k4 (by simp [Dt.kd])
theorem h8s{c:Nat}(h1:97<=c)(h2:c<=122):g7o "abcdefghijklmnopqrstuvwxyz" ⟨#[c]⟩=true:=by
 unfold g7o
 rw [StrLaws.found_one]
 have e:(Str.ofString "abcdefghijklmnopqrstuvwxyz").cps.toList=List.range' 97 26:=by decide +kernel
 rw [e,decide_eq_true_eq]
 exact List.mem_range'_1.mpr ⟨h1,by omega⟩
theorem g6y{x:Str}{D:Addr}{te:TE}{σ:L2.St}{H0 H:Hp}{Q:VK}(f:Nat->V)(n0:H0 D=none)(S:Same H0 H)(hD:H D=some (.lst []))(hsz:x.cps.size<=sizeLine)
  (hs:∀ (i:Nat) c H' (Q':VK),x.cps[i]? = some c->Same H0 H'->Q' (f c) H'->te (some (.str ⟨#[c]⟩) :: σ) H' Q') (q:∀ H',Same H0 H'->H' D=some (.lst (x.cps.toList.map f))->Q (.ref D) H'):f8q (Its x) te D σ H Q ⟨⟩:=by
 refine⟨x.cps.size,fun i ys H'=>Same H0 H'/\H' D=some (.lst ys)/\ys=(x.cps.toList.take i).map f,⟨S,hD,by simp⟩,fun i ys H' hi w=>?_⟩
 obtain⟨S',h',e⟩:=w
 refine⟨h',?_⟩
 by_cases hlt:i < x.cps.size
 ·refine .inr ⟨hlt,hlt,by rw [e,List.length_map,List.length_take]; omega,fun v H2 y=>?_⟩
  obtain⟨e2,c,hc,ev⟩:=y
  subst e2 ev
  refine hs i c _ _ hc S' ⟨h',fun H3 s3 h3=>⟨S'.step n0 s3,h3,?_⟩⟩
  have hc':x.cps.toList[i]? = some c:=by rw [Array.getElem?_toList]; exact hc
  rw [List.take_add_one,hc',List.map_append,e]
  rfl
 ·have e3:i=x.cps.size:=by omega
  subst e3
  refine .inl ⟨rfl,q H' S' ?_⟩
  rw [h',e,List.take_of_length_le (by rw [Array.length_toList]; exact Nat.le_refl _)]
theorem h8t(T:Tx K mg A):a2m P A.wd K mg base CX0 1 A.c1r A.b9j ["value"] i1u:=by
 refine T.c5p.ok g0y (fun _ _ _ _ h=>i1f h) (fun _ _ _ _ H vs Q E hr h=>?_)
 ·obtain⟨x,rfl,⟨⟨l8,ne,ab⟩,q⟩⟩:=h9e h
  have hu:=hr.units
  have hs:=szl
  have nl:¬ (8:Int) < (x.length:Int):=by omega
  have ne':(x=Str.ofString "")=False:=eq_false ne
  have xl:x.length<=16777216:=by omega
  refine⟨_,(a0k (a3s (pw_or (b0z (a3z (a1h (b2q .str) (by rfl) T.a1z boot_isinstance (a0g (pvF 0) (a0g (b5g (v:=.ty "str") (u:=.type "str") (by rfl) T.g9u rfl rfl) a0h))))) (pw_or (a0t (b0m hu) (pvF 0) a0o (a2j _)) (pw_or1 (a0t d5p (a1h a3y (by rfl) T.c1h boot_len (a0g (pvF 0) a0h)) (a6q (v:=.int 8) (by rfl) T.d4t T.b8o) (a2j _))))).pt
   (a0i (a1o d6j))
   a0y)
   (a0i (a1o (a1h (g5o rfl) (by rfl) T.j3t boot_all (a0g (b2u (g5d (pvF 0)) (fun _ _ _ _ _=>(c8n c7s (pvF 0) (a6q (v:=.str "abcdefghijklmnopqrstuvwxyz") (by rfl) T.g1j T.d5j) (by rfl))) (d1h (sc:=a0r d8p) (N:=["value"]) rfl rfl (by decide +kernel)) rfl) a0h))))),?_⟩
  walk_at"rd*"
  refine fun D H2 n2 S2 h2=>?_
  refine g6y (fun _=>V.bl true) n2 S2 h2 (show x.length<=sizeLine by omega) ?_ ?_
  ·intro i c H' Q' hc SS q'
   have hm:=ab c (by rw [Array.mem_toList_iff]; exact Array.mem_of_getElem? hc)
   have hh:=h8s hm.1 hm.2
   walk_at"rd*"
  ·intro H3 S3 h3
   walk_at"rd*"
   refine⟨x.cps.toList.map fun _=>true,by rw [List.map_map]; rfl,?_⟩
   rw [show (x.cps.toList.map fun _=>true).all id=true by simp]
   exact q H3 S3
theorem i2b(T:Tx K mg A):a2m P A.wd K mg base CX0 1 A.b1g A.b3u ["self"] i7s:=by
 refine T.c7z.ok g2c (fun _ _ _ _ h=>f3t h) (fun _ _ _ _ H vs Q E hr h=>?_)
 ·obtain⟨o,rfl,k⟩:=f2t h
  have hu:=hr.units
  refine⟨_,(a0i (a1o (b5j a0h))),?_⟩
  walk_at"rd"
  refine⟨Nat.zero_le _,fun t H1 n1 S1 h1=>k _ _ ⟨t,rfl,n1,S1,h1⟩⟩
theorem h5b.same{A:Ad}{H H':Hp}{os:List Addr}{ds:List Dt}(h:h5b A H os ds)(S:Same H H'):h5b A H' os ds:=⟨h.1,fun i o d e1 e2=>(h.2 i o d e1 e2).same S⟩
theorem IsP.keep{A:Ad}{D:Addr}{H H':Hp}{o:Addr}{d:Dt}(h:IsP A H o d)(no:o≠D)(nt:∀ ts,H D≠some (.tup ts))(B:a6t D H H'):IsP A H' o d:=by
 have ne:∀ {p:Addr} {ts:List V},H p=some (.tup ts)->H' p=some (.tup ts):=fun hp=>B _ _ (fun e=>by rw [e] at hp; exact nt _ hp) hp
 obtain⟨dx,fs,h1,h2⟩:=h
 refine⟨dx,fs,B _ _ no h1,?_⟩
 cases d with
 | gain y=>obtain⟨g,e,h1⟩:=h2; exact⟨g,e,ne h1⟩
 | delay n=>exact h2
 | _=>exact h2.elim
theorem h5b.keep{A:Ad}{D:Addr}{H H':Hp}{os:List Addr}{ds:List Dt}(h:h5b A H os ds)(no:∀ o∈os,o≠D)(nt:∀ ts,H D≠some (.tup ts))(B:a6t D H H'):h5b A H' os ds:=⟨h.1,fun i o d e1 e2=>(h.2 i o d e1 e2).keep (no o (List.mem_of_getElem? e1)) nt B⟩
theorem h5b.snoc{A:Ad}{H:Hp}{os:List Addr}{ds:List Dt}{o:Addr}{d:Dt}(h:h5b A H os ds)(hp:IsP A H o d):h5b A H (os++[o]) (ds++[d]):=by
 obtain⟨hl,h⟩:=h
 refine⟨by rw [List.length_append,List.length_append,hl]; rfl,fun i s e h1 h2=>?_⟩
 rcases Nat.lt_or_ge i ds.length with z | z
 ·rw [List.getElem?_append_left (by omega)] at h1
  rw [List.getElem?_append_left z] at h2
  exact h i s e h1 h2
 ·have hi:=(List.getElem?_eq_some_iff.mp h2).1
  rw [List.length_append,List.length_singleton] at hi
  obtain rfl:i=ds.length:=by omega
  rw [<- hl,List.getElem?_concat_length] at h1
  rw [List.getElem?_concat_length] at h2
  cases h1
  cases h2
  exact hp
theorem j4q(T:Tx K mg A):a2m P A.wd K mg base CX0 9 A.b6q A.b5n ["words"] (j9a A):=by
 have f7z:a2m P A.wd K mg base CX0 8 _ _ _ _:=h8r T
 refine T.c0k.ok f5p (fun _ _ _ _ h=>f3t h) (fun _ _ _ _ H vs Q E hr h=>?_)
 ·obtain⟨l,rfl,⟨ds,hl,l8,ok,q⟩⟩:=f2t h
  have hu:=hr.units
  have hs:=szl
  have z1:¬ (8:Int) < (ds.length:Int):=by omega
  refine⟨_,(a0k (a3s (b0z (a3z (a1h (b2q .lst) (by rfl) T.a1z boot_isinstance (a0g (pvF 0) (a0g (b5g (v:=.ty "list") (u:=.type "list") (by rfl) T.d9l rfl rfl) a0h)))))
   (a0i a5m)
   a0y)
   (a0k (a3s (a0t d5p (a1h a3y (by rfl) T.c1h boot_len (a0g (pvF 0) a0h)) (a6q (v:=.int 8) (by rfl) T.d9r T.c3p) (a2j _))
   (a0i a5m)
   a0y)
   (a0i (a1o (b2u (a5s (pvF 0)) (fun _ _ _ _ _=>by exact (a2g f7z (hr.mono (by decide)) (by rfl) T.g6f T.c5o.kp T.g6e .nil a6o (a0g (pvF 0) a0h))) (d1h (sc:=a0r d5h) (N:=["words"]) rfl rfl (by decide +kernel)) rfl))))),?_⟩
  walk_at"rd*"
  refine⟨⟨_,SqL.of hl⟩,fun D H2 n2 S2 h2=>?_⟩
  refine c3y (xs:=ds.map fun d=>V.str d.word) (fun i ys H'=>Same H H'/\H' D=some (.lst ys)/\∃ os:List Addr,ys=os.map V.ref/\(∀ o∈os,H o=none/\o≠D)/\h5b A H' os (ds.take i)) ⟨S2,h2,[],rfl,(fun o ho=>by cases ho),rfl,fun i o d e=>by simp at e⟩ (by rw [List.length_map,hs]; omega) ?_ ?_ ?_
  ·intro i ys H' hi ⟨S',h',os,e,no,R⟩
   rw [List.length_map] at hi
   exact⟨h',SqL.of (S' _ _ hl),by rw [e,List.length_map,R.1,List.length_take]; omega⟩
  ·intro i x ys H' hx ⟨S',h',os,e,no,R⟩
   rw [List.getElem?_map] at hx
   obtain⟨d,hd,rfl⟩:=Option.map_eq_some_iff.mp hx
   have o1:=ok d (List.mem_of_getElem? hd)
   walk_at"rd"
   refine⟨d,o1.1,o1.2,rfl,fun o H3 n3 S3 hp=>?_⟩
   have no3:∀ p∈os++[o],H p=none/\p≠D:=fun p hp=>by
    rcases List.mem_append.mp hp with h | h
    ·exact no p h
    ·obtain rfl:=List.mem_singleton.mp h
     exact⟨S'.free n3,fun z=>by rw [z,h'] at n3; cases n3⟩
   refine⟨S3 _ _ h',fun H4 B4 h4=>⟨(S'.trans S3).step n2 B4,h4,os++[o],(by rw [e,List.map_append]; rfl),no3,?_⟩⟩
   rw [List.take_add_one,hd]
   exact ((R.same S3).snoc hp).keep (fun p hp=>(no3 p hp).2) (fun ts z=>by rw [S3 _ _ h'] at z; cases z) B4
  ·intro ys H3 ⟨S3,h3,os,e,no,R⟩
   rw [List.length_map,List.take_length] at R
   subst e
   exact q D os H3 n2 (fun o ho=>(no o ho).1) S3 h3 R
theorem ChW.same{A:Ad}{H H':Hp}{o:Addr}{ds:List Dt}(h:ChW A H o ds)(S:Same H H'):ChW A H' o ds:=by
 obtain⟨dx,pl,sl,os,h1,h2,h3⟩:=h
 exact⟨dx,pl,sl,os,S _ _ h1,S _ _ h2,h3.same S⟩
theorem h8u{C o:Addr}{i:Nat}{m:Str}{sp:Sp}{E:XK}{t:TA}{σ:L2.St}{H:Hp}{Q:VK}{dx:Addr}{fs:List (Str×V)}(hσ:σ[i]? = some (some (.ref o)))(ho:H o=some (.ins C dx fs))(hl:fs.lookup m=none)(ht:t σ H fun vs H2=>sp (.ref o :: (vs++[])) H2 Q E):g0h C m sp [] E (d7y i) t σ H Q:=by
 simp only [g0h,d7y,hσ,ho]
 exact⟨trivial,hl,ht⟩
theorem k2e{σ:L2.St}{i:Nat}{o:Addr}{H:Hp}{d:Dt}{Q:VK}{E:XK}{m:Str}{s0 s1:Sp}(hσ:σ[i]? = some (some (.ref o)))(hd:IsP A H o d)(nm:m≠("gain":Str)/\m≠("many":Str))
  (q:(match d with | .gain _=>s0 | _=>s1) [.ref o] H Q E):h6t (g0h A.c7y m s0 [] E (d7y i) h9u) (g0h A.b7q m s1 [] E (d7y i) h9u) σ H Q:=by
 obtain⟨m1,m2⟩:=nm
 have b:∀ {a c:Str},a≠c->(a == c)=false:=fun h=>beq_false_of_ne h
 obtain⟨dx,fs,ho,hf⟩:=hd
 cases d with
 | gain y =>
  obtain⟨g,rfl,_⟩:=hf
  exact .inl (h8u hσ ho (by simp only [gnF,List.lookup,b m1]) q)
 | delay n =>
  obtain rfl:=hf
  exact .inr (h8u hσ ho (by simp only [dlF,List.lookup,b m2]) q)
 | _=>exact hf.elim
theorem i2c(T:Tx K mg A):a2m P A.wd K mg base CX0 10 A.b3g A.b1l ["self","words"] (i7t A):=by
 have f1s:a2m P A.wd K mg base CX0 9 _ _ _ _:=j4q T
 have f2r:a2m P A.wd K mg base CX0 1 _ _ _ _:=i2b T
 have b4j:=T.b4j
 have a6l:=T.a6l
 have a5p:=T.a5p
 have b4n:=T.b4n
 have a6p:=T.a6p
 have b0t:=T.b0t
 have a5r:=T.a5r
 refine T.c1s.ok d8y (fun _ _ _ _ h=>h3j h) (fun _ _ _ _ H vs Q E hr h=>?_)
 ·obtain⟨o,l,rfl,⟨dx,ds,ho,hl,l8,ok,q⟩⟩:=g8w h
  have hu:=hr.units
  have d9s:c7p 1 _:=hr.mono (by decide)
  have hs:=szl
  refine⟨_,(a0k (c1w (pvF 0) (a2g f1s (hr.mono (by decide)) (by rfl) T.g1f T.c0k.kp T.g1e .nil a6o (a0g (pvF 1) a0h)) rfl)
   (a0i (c1w (pvF 0) (b2u (a5s (a8g (pvF 0) rfl)) (fun _ _ _ _ _=>(d8l (b7j (pvF 0) T.b4n T.d1t f2r d9s T.f2o .nil a6o) (b7j (pvF 0) T.b0t T.c8r f2r d9s T.f2o .nil a6o))) (d1h (sc:=a0r d3m) (N:=["self","words"]) rfl rfl (by decide +kernel)) rfl) rfl))),?_⟩
  walk_at"rd"
  refine⟨ds,hl,l8,ok,fun pl os H1 np no S1 hpl R=>?_⟩
  have ho1:=S1 _ _ ho
  have noc:∀ p∈os,p≠o:=fun p hp e=>by rw [<- e,no p hp] at ho; cases ho
  walk_at"rd*"
  intro H2 B2 h2
  have nop:o≠pl:=fun e=>by rw [<- e,ho] at np; cases np
  have j6n:=B2 _ _ nop.symm hpl
  have R2:=R.keep noc (fun ts z=>by rw [ho1] at z; cases z) B2
  clear hpl R ho ho1
  walk_at"rd*"
  refine⟨⟨_,SqL.of j6n⟩,fun D H3 n3 S3 h3=>?_⟩
  have ol:=R2.1
  refine c3y (xs:=os.map V.ref) (fun i ys H'=>Same H2 H'/\H' D=some (.lst ys)/\ys.length=i) ⟨S3,h3,rfl⟩ (by rw [List.length_map,hs]; omega) ?_ ?_ ?_
  ·intro i ys H' hi ⟨S',h',yl⟩
   exact⟨h',SqL.of (S' _ _ j6n),yl⟩
  ·intro i x ys H' hx ⟨S',h',yl⟩
   rw [List.getElem?_map] at hx
   obtain⟨oi,hoi,rfl⟩:=Option.map_eq_some_iff.mp hx
   have hi:=(List.getElem?_eq_some_iff.mp hoi).1
   have hd : ds[i]? = some (ds[i]'(by omega)) := List.getElem?_eq_getElem _
   have hp:=(R2.2 i _ _ hoi hd).same S'
   generalize ds[i]'(by omega) = d at hd hp
   try walk_at"rd"
   have fin:∀ (v:V) H5,Same H' H5->(H5 D=some (.lst ys)/\∀ H6,a6t D H5 H6->H6 D=some (.lst (ys++[v]))->Same H2 H6/\H6 D=some (.lst (ys++[v]))/\ys.length+1=i+1):=fun v H5 S5=>⟨S5 _ _ h',fun H6 B6 h6=>⟨(S'.trans S5).step n3 B6,h6,by rw [yl]⟩⟩
   refine k2e rfl hp (by decide +kernel) ?_
   cases d <;> exact fun v H5 ⟨p,e,n5,S5,h5⟩=>fin v H5 S5
  ·intro ys H4 ⟨S4,h4,yl⟩
   have ho4:=S4 _ _ h2
   have hpl4:=S4 _ _ j6n
   have R4:=R2.same S4
   clear h2 h3 j6n
   walk_at"rd*"
   intro H5 B5 h5
   exact q H5 (fun z u hz e=>B5 _ _ hz (S4 _ _ (B2 _ _ hz (S1 _ _ e)))) ⟨dx,pl,D,os,h5,B5 _ _ nop.symm hpl4,R4.keep noc (fun ts z=>by rw [ho4] at z; cases z) B5⟩
theorem g6z{K:PySem.W.Frag}{a D:Addr}{xs:List V}{te:TE}{σ:L2.St}{H0 H:Hp}{Q:VK}(zs:List V)(hz:zs.length=xs.length)(n0:H0 D=none)(S:Same H0 H)(hD:H D=some (.lst []))(hS:SqL K H0 a xs)(hsz:xs.length<=sizeLine)
  (hs:∀ (i:Nat) x z H' (Q':VK),xs[i]? = some x->zs[i]? = some z->Same H0 H'->(∀ H2,Same H' H2->Q' z H2)->te (some x :: σ) H' Q') (q:∀ H',Same H0 H'->H' D=some (.lst zs)->Q (.ref D) H'):f8q (Itl K a) te D σ H Q ⟨⟩:=by
 refine c3y (fun i ys H'=>Same H0 H'/\H' D=some (.lst ys)/\ys=zs.take i) ⟨S,hD,by simp⟩ hsz (fun i ys H' hi p=>?_) (fun i x ys H' hx p=>?_) (fun ys H' p=>?_)
 ·refine⟨p.2.1,p.1.seq hS,?_⟩
  rw [p.2.2,List.length_take]
  omega
 ·have hi:i < zs.length:=by rw [hz]; exact (List.getElem?_eq_some_iff.mp hx).1
  have hzi:zs[i]? = some zs[i]:=List.getElem?_eq_getElem hi
  refine hs i x _ H' _ hx hzi p.1 fun H2 S2=>⟨S2 _ _ p.2.1,fun H3 s3 h3=>⟨(p.1.trans S2).step n0 s3,h3,?_⟩⟩
  rw [p.2.2,List.take_add_one,hzi]
  rfl
 ·refine q H' p.1 ?_
  rw [p.2.1,p.2.2,<- hz,List.take_length]
theorem j4r(T:Tx K mg A):a2m P A.wd K mg base CX0 4 A.b3y A.b1u ["self"] (j9b A):=by
 have h0a:a2m P A.wd K mg base CX0 2 _ _ _ _:=k0f T
 have g7a:a2m P A.wd K mg base CX0 1 _ _ _ _:=k0g T
 have b4j:=T.b4j
 have a6l:=T.a6l
 have a5p:=T.a5p
 have b4n:=T.b4n
 have a6p:=T.a6p
 have b0t:=T.b0t
 have a5r:=T.a5r
 refine T.c3m.ok f8s (fun _ _ _ _ h=>f3t h) (fun _ _ _ _ H vs Q E hr h=>?_)
 ·obtain⟨o,rfl,⟨ds,⟨dx,pl,sl,os,ho,hpl,R⟩,l8,ok,q⟩⟩:=f2t h
  have hu:=hr.units
  have hs:=szl
  have ol:=R.1
  unfold chF at ho
  refine⟨_,(a0i (a1o (b2u (a5s (a8g (pvF 0) rfl)) (fun _ _ _ _ _=>(d8l (b7j (pvF 0) T.b4n T.d3s h0a (hr.mono (by decide)) T.g9i .nil a6o) (b7j (pvF 0) T.b0t T.d1u g7a (hr.mono (by decide)) T.g6c .nil a6o))) (d1h (sc:=a0r d1k) (N:=["self"]) rfl rfl (by decide +kernel)) rfl))),?_⟩
  walk_at"rd*"
  refine⟨⟨_,SqL.of hpl⟩,fun D H2 n2 S2 h2=>?_⟩
  refine g6z (ds.map fun d=>V.str d.word) (by rw [List.length_map,List.length_map,ol]) n2 S2 h2 (SqL.of hpl) (by rw [List.length_map,hs]; omega) ?_ ?_
  ·intro i x z H' Q' hx hz S' q'
   rw [List.getElem?_map] at hx hz
   obtain⟨oi,hoi,rfl⟩:=Option.map_eq_some_iff.mp hx
   obtain⟨d,hd,rfl⟩:=Option.map_eq_some_iff.mp hz
   have hp:=(R.2 i _ _ hoi hd).same S'
   have okd:=ok d (List.mem_of_getElem? hd)
   have hi:=(List.getElem?_eq_some_iff.mp hoi).1
   try walk_at"rd"
   refine k2e rfl hp (by decide +kernel) ?_
   obtain⟨okd,kd2⟩:=okd
   cases d with
   | gain y=>exact⟨_,rfl,hp,okd,fun H1 S1=>q' H1 S1⟩
   | delay n=>exact⟨_,rfl,hp,okd,fun H1 S1=>q' H1 S1⟩
   | _=>exact absurd kd2 (by simp [Dt.kd])
  ·intro H3 S3 h3
   exact q _ _ ⟨D,rfl,n2,S3,h3⟩
theorem Eds.same{H H':Hp}{ps:List Addr}{es:List (Str×Str)}(h:Eds H ps es)(S:Same H H'):Eds H' ps es:=⟨h.1,fun i p e h1 h2=>(h.2 i p e h1 h2).elim fun lw z=>⟨lw,S _ _ z⟩⟩
theorem a7p(x:Str):∀ ts:List Str,inV (.str x) (ts.map V.str)=decide (x∈ts)
 | []=>rfl
 | t :: ts=>by
  have ih:=a7p x ts
  unfold inV at ih ⊢
  rw [List.map_cons,List.any_cons,ih]
  by_cases h:t=x
  ·subst h
   simp [eqV]
  ·have:eqV (.str t) (.str x)=false:=by simp [eqV,h]
   rw [this]
   simp
   exact fun e=>absurd e.symm h
theorem a9k(ts:List Str):(ts.map V.str).all b5h=true:=by
 rw [List.all_eq_true]
 intro v hv
 obtain⟨n,_,rfl⟩:=List.mem_map.mp hv
 rfl
theorem i4s(T:Tx K mg A):a2m P A.wd K mg base CX0 2 A.a8k A.a7o ["self","name"] (j9c A):=by
 have f8g:a2m P A.wd K mg base CX0 1 _ _ _ _:=h8t T
 have a1i:=T.a1i
 have a0j:=T.a0j
 have a0m:=T.a0m
 have a0l:=T.a0l
 have a0n:=T.a0n
 refine T.b0y.ok c7u (fun _ _ _ _ h=>i1e h) (fun _ _ _ _ H vs Q E hr h=>?_)
 ·obtain⟨o,x,rfl,⟨t,b,sd,ts,bs,es,⟨dx,ou,ps,ho,ht,hb,hsd,hE,d1,d2,d3⟩,nm,nt,nb,q⟩⟩:=h7k h
  have hu:=hr.units
  unfold ptF at ho
  refine⟨_,(a0k (a3s (b0z (a3z (a2g f8g (hr.mono (by decide)) (by rfl) T.g6h T.c5p.kp T.g6g .nil a6o (a0g (pvF 1) a0h))))
   (a0i a5m)
   a0y)
   (a0i (a3s (pw_or (a0t c7s (pvF 1) (a8g (pvF 0) rfl) (by rfl)) (pw_or1 (a0t c7s (pvF 1) (a8g (pvF 0) rfl) (by rfl)))).pt
   (a0i a5m)
   a0y))),?_⟩
  walk_at"rd"
  refine⟨nm,fun H1 S1=>?_⟩
  have ho1:=S1 _ _ ho
  have ht1:=S1 _ _ ht
  have hb1:=S1 _ _ hb
  have i1:inV (.str x) (ts.map V.str)=false:=by rw [a7p]; exact decide_eq_false nt
  have i2:inV (.str x) (bs.map V.str)=false:=by rw [a7p]; exact decide_eq_false nb
  have f1:=a9k ts
  have f2:=a9k bs
  clear ho ht hb
  walk_at"rd*"
  exact⟨rfl,rfl⟩
theorem h1u{H:Hp}{N:Addr->Prop}:∀ {es:List Sd} {us:List V},RpL H N us (es.map dSd)->∃ ps:List Addr,us=ps.map V.ref/\Eds H ps (prs es)
 | [],_,.nil=>⟨[],rfl,rfl,fun i p e h=>by simp at h⟩
 | e :: es,_,.cons h r=>by
  obtain⟨ps,rfl,hl,hE⟩:=h1u r
  obtain⟨p,vs,rfl,hp,r2⟩:=h.tuple
  obtain⟨x,y,z,rfl,h1,h2,h3⟩:=r2.three
  cases h1.strOf
  cases h2.strOf
  obtain⟨lw,ws,rfl,_⟩:=h3.list
  refine⟨p :: ps,rfl,by rw [List.length_cons,hl]; rfl,fun i q f e1 e2=>?_⟩
  cases i with
  | zero=>cases e1; cases e2; exact⟨lw,hp⟩
  | succ i=>exact hE i q f e1 e2
theorem d2y.pt{A:Ad}{H:Hp}{N:Addr->Prop}{o:Addr}{p:Pd}(h:d2y A H N o p):∃ t b sd,j6l A H o t b sd p.ts p.bs (prs p.es):=by
 obtain⟨dx,t,b,sd,ou,ho,n,d,ht,hb,⟨us,hsd,R⟩,_⟩:=h
 obtain⟨ps,rfl,hE⟩:=h1u R
 exact⟨t,b,sd,dx,ou,ps,ho,ht,hb,hsd,hE,d.1,d.2.1,d.2.2.2.1⟩
theorem d2y.over{A:Ad}{H H':Hp}{N M:Addr->Prop}{o:Addr}{p:Pd}(h:d2y A H N o p)(S:b7l M H H')(hd:∀ z,N z->H z≠none->¬ M z):d2y A H' N o p:=by
 obtain⟨dx,t,b,sd,ou,ho,F⟩:=h
 exact⟨dx,t,b,sd,ou,S _ _ (fun _ ys q=>by cases q) ho,F.over S hd⟩
theorem d2y.same{A:Ad}{H H':Hp}{N:Addr->Prop}{o:Addr}{p:Pd}(h:d2y A H N o p)(S:Same H H'):d2y A H' N o p:=h.over (M:=fun _=>False) (b7l.of S) fun _ _ _ h=>h
theorem d2y.mono{A:Ad}{H:Hp}{N M:Addr->Prop}{o:Addr}{p:Pd}(h:d2y A H N o p)(hm:∀ z,N z->H z≠none->M z):d2y A H M o p:=by
 obtain⟨dx,t,b,sd,ou,ho,F⟩:=h
 exact⟨dx,t,b,sd,ou,ho,F.mono hm⟩
theorem k0i(T:Tx K mg A):a2m P A.wd K mg base CX0 1 A.b6r A.b3z ["self"] (spPI A):=by
 have a1i:=T.a1i
 have a0j:=T.a0j
 have a0m:=T.a0m
 have a0l:=T.a0l
 have a0n:=T.a0n
 refine T.c8i.ok g2e (fun _ _ _ _ h=>f3t h) (fun _ _ _ _ H vs Q E hr h=>?_)
 ·obtain⟨o,rfl,⟨dx,ho,q⟩⟩:=f2t h
  have hu:=hr.units
  have hs:=szl
  have fr:∀ {H1:Hp} {z:Addr},a6t o H H1->H1 z=none->z≠o->H z=none:=fun B n nz=>by
   cases e:H _ with
   | none=>rfl
   | some u=>rw [B _ _ nz e] at n; cases n
  have ap:∀ {H1:Hp} {z y:Addr} {u:HO},H1 z=none->H1 y=some u->z≠y:=fun n e q=>by rw [q,e] at n; cases n
  refine⟨_,(a0k (c1w (pvF 0) (a3v a0h) rfl)
   (a0k (c1w (pvF 0) (a3v a0h) rfl)
   (a0k (c1w (pvF 0) (a3v a0h) rfl)
   (a0i (c1w (pvF 0) (a3v a0h) rfl))))),?_⟩
  walk_at"rd"
  refine⟨by omega,fun t H1 n1 S1 h1=>?_⟩
  have ho1:=S1 _ _ ho
  have ot:=ap n1 ho
  walk_at"rd*"
  intro H2 B2 h2
  have h12:=B2 _ _ ot h1
  have B02:a6t o H H2:=fun z u hz e=>B2 _ _ hz (S1 _ _ e)
  clear h1 ho1
  walk_at"rd*"
  refine fun b H3 n3 S3 h3=>?_
  have ho3:=S3 _ _ h2
  have ob:=ap n3 h2
  have tb:=ap n3 h12
  have nb:=fr B02 n3 ob
  clear h2
  walk_at"rd*"
  intro H4 B4 h4
  have h14:=B4 _ _ ot (S3 _ _ h12)
  have h34:=B4 _ _ ob h3
  have B04:a6t o H H4:=fun z u hz e=>B4 _ _ hz (S3 _ _ (B02 _ _ hz e))
  clear h12 h3 ho3
  walk_at"rd*"
  refine fun sd H5 n5 S5 h5=>?_
  have ho5:=S5 _ _ h4
  have os:=ap n5 h4
  have ts:=ap n5 h14
  have bs:=ap n5 h34
  have ns:=fr B04 n5 os
  clear h4
  walk_at"rd*"
  intro H6 B6 h6
  have h16:=B6 _ _ ot (S5 _ _ h14)
  have h36:=B6 _ _ ob (S5 _ _ h34)
  have h56:=B6 _ _ os h5
  have B06:a6t o H H6:=fun z u hz e=>B6 _ _ hz (S5 _ _ (B04 _ _ hz e))
  clear h14 h34 h5 ho5
  walk_at"rd*"
  refine fun ou H7 n7 S7 h7=>?_
  have ho7:=S7 _ _ h6
  have oo:=ap n7 h6
  have to:=ap n7 h16
  have bo:=ap n7 h36
  have so:=ap n7 h56
  have nu:=fr B06 n7 oo
  clear h6
  walk_at"rd*"
  intro H8 B8 h8
  exact q H8 (fun z u hz e=>B8 _ _ hz (S7 _ _ (B06 _ _ hz e))) ⟨dx,t,b,sd,ou,h8,⟨n1,nb,ns,nu⟩,⟨tb.symm,ts.symm,to.symm,bs.symm,bo.symm,so.symm⟩,B8 _ _ ot (S7 _ _ h16),B8 _ _ ob (S7 _ _ h36),⟨[],B8 _ _ os (S7 _ _ h56),.nil⟩,[],B8 _ _ oo h7,.nil⟩
theorem j4s(T:Tx K mg A):a2m P A.wd K mg base CX0 3 A.b1m A.b0s ["self","name"] (j9d A):=by
 have a8l:a2m P A.wd K mg base CX0 2 _ _ _ _:=i4s T
 have a1i:=T.a1i
 have a0j:=T.a0j
 have a0m:=T.a0m
 have a0l:=T.a0l
 have a0n:=T.a0n
 refine T.b7s.ok d5y (fun _ _ _ _ h=>i1e h) (fun _ _ _ _ H vs Q E hr h=>?_)
 ·obtain⟨o,x,rfl,⟨N,p,hP,nm,nt,nb,l1,q⟩⟩:=h7k h
  obtain⟨t',b',sd',hT⟩:=hP.pt
  obtain⟨dx,t,b,sd,ou,ho,F⟩:=id hP
  have ht:=F.ht
  have hb:=F.hb
  have hu:=hr.units
  have hs:=szl
  unfold ptF at ho
  refine⟨_,(a0k (a5t (c3k (pvF 0) T.a1i T.a8q a8l (hr.mono (by decide)) T.b4l .nil a6o (a0g (pvF 1) a0h)))
   (a0i (a5t (a7q a7n PySem.F.plainAttrs_list PySem.F.slot_list_append PySem.F.type_list_append a6n (a8g (pvF 0) rfl) (a0g (pvF 1) a0h))))),?_⟩
  walk_at"rd*"
  refine⟨t',b',sd',_,_,_,hT,nt,nb,fun H1 S1=>?_⟩
  have ho1:=S1 _ _ ho
  have ht1:=S1 _ _ ht
  clear ho ht
  walk_at"rd*"
  refine⟨by omega,?_⟩
  rintro _ H2 ⟨rfl,B2,h2⟩
  try walk_at"rd"
  exact q H2 ((b7l.of S1).trans (b7l.one ht1 F.n.1 B2)) ⟨dx,t,b,sd,ou,B2 _ _ (fun e=>by rw [e,ht1] at ho1; cases ho1) ho1,(F.same S1).j8k h2 B2⟩
theorem j4t(T:Tx K mg A):a2m P A.wd K mg base CX0 3 A.b5o A.b3h ["self","name"] (j9e A):=by
 have a8l:a2m P A.wd K mg base CX0 2 _ _ _ _:=i4s T
 have a1i:=T.a1i
 have a0j:=T.a0j
 have a0m:=T.a0m
 have a0l:=T.a0l
 have a0n:=T.a0n
 refine T.c5q.ok f2m (fun _ _ _ _ h=>i1e h) (fun _ _ _ _ H vs Q E hr h=>?_)
 ·obtain⟨o,x,rfl,⟨N,p,hP,nm,nt,nb,l1,q⟩⟩:=h7k h
  obtain⟨t',b',sd',hT⟩:=hP.pt
  obtain⟨dx,t,b,sd,ou,ho,F⟩:=id hP
  have ht:=F.ht
  have hb:=F.hb
  have hu:=hr.units
  have hs:=szl
  unfold ptF at ho
  refine⟨_,(a0k (a5t (c3k (pvF 0) T.a1i T.a8q a8l (hr.mono (by decide)) T.b4l .nil a6o (a0g (pvF 1) a0h)))
   (a0i (a5t (a7q a7n PySem.F.plainAttrs_list PySem.F.slot_list_append PySem.F.type_list_append a6n (a8g (pvF 0) rfl) (a0g (pvF 1) a0h))))),?_⟩
  walk_at"rd*"
  refine⟨t',b',sd',_,_,_,hT,nt,nb,fun H1 S1=>?_⟩
  have ho1:=S1 _ _ ho
  have hb1:=S1 _ _ hb
  clear ho hb
  walk_at"rd*"
  refine⟨by omega,?_⟩
  rintro _ H2 ⟨rfl,B2,h2⟩
  try walk_at"rd"
  exact q H2 ((b7l.of S1).trans (b7l.one hb1 F.n.2.1 B2)) ⟨dx,t,b,sd,ou,B2 _ _ (fun e=>by rw [e,hb1] at ho1; cases ho1) ho1,(F.same S1).j8l h2 B2⟩
theorem Rch.refl(es:List (Str×Str))(x:Str):Rch es x x:=fun _ h _=>h
theorem Rch.step{es:List (Str×Str)}{x u v:Str}(h:Rch es x u)(he:(u,v)∈es):Rch es x v:=fun S hx hc=>hc u v (h S hx hc) he
theorem filter_lt{α:Type}{p q:α->Bool}:∀ {l:List α} {a:α},(∀ x,q x=true->p x=true)->a∈l->p a=true->q a=false->(l.filter q).length < (l.filter p).length
 | [],_,_,h,_,_=>by cases h
 | x :: l,a,hpq,h,ha,hqa=>by
  have le:∀ l:List α,(l.filter q).length<=(l.filter p).length:=fun l=>by
   induction l with
   | nil=>exact Nat.le_refl _
   | cons y l ih =>
    rw [List.filter_cons,List.filter_cons]
    cases hq:q y with
    | true=>rw [if_pos rfl,if_pos (hpq y hq),List.length_cons,List.length_cons]; omega
    | false =>
     rw [if_neg Bool.false_ne_true]
     split
     ·rw [List.length_cons]; omega
     ·exact ih
  rw [List.filter_cons,List.filter_cons]
  rcases List.mem_cons.mp h with e | h
  ·subst e
   rw [if_neg (by rw [hqa]; exact Bool.false_ne_true),if_pos ha,List.length_cons]
   have:=le l
   omega
  ·have ih:=filter_lt hpq h ha hqa
   cases hq:q x with
   | true=>rw [if_pos rfl,if_pos (hpq x hq),List.length_cons,List.length_cons]; omega
   | false =>
    rw [if_neg Bool.false_ne_true]
    split
    ·rw [List.length_cons]; omega
    ·exact ih
theorem i4t{es:List (Str×Str)}{ks:List Str}{e:Str×Str}(he:e∈es)(hn:e.2∉ks):cnt es (ks++[e.2]) < cnt es ks:=by
 refine filter_lt (fun x hx=>?_) he (by simpa using hn) (by simp)
 simp at hx ⊢
 exact hx.1
theorem Path.snoc{es:List (Str×Str)}{u v:Str}:∀ {r:List Str},Path es (r++[u])->(u,v)∈es->Path es (r++[u]++[v])
 | [],_,h=>⟨h,True.intro⟩
 | [x],h,e=>⟨h.1,e,True.intro⟩
 | x :: y :: r,h,e=>⟨h.1,Path.snoc (r:=y :: r) h.2 e⟩
theorem d2t.one(es:List (Str×Str))(x:Str):d2t es x x [x]:=⟨rfl,⟨[],rfl⟩,List.nodup_cons.mpr ⟨by simp,List.nodup_nil⟩,True.intro⟩
theorem d2t.snoc{es:List (Str×Str)}{x u v:Str}{r:List Str}(h:d2t es x u r)(he:(u,v)∈es)(hn:v∉r):d2t es x v (r++[v]):=by
 obtain⟨r',e⟩:=h.last
 refine⟨?_,⟨r,rfl⟩,?_,?_⟩
 ·have hl:0 < r.length:=by rw [e,List.length_append]; exact Nat.succ_pos _
  rw [List.getElem?_append_left hl]
  exact h.head
 ·rw [List.nodup_append]
  refine⟨h.nd,List.nodup_cons.mpr ⟨by simp,List.nodup_nil⟩,fun a ha b hb q=>hn ?_⟩
  rw [List.mem_singleton] at hb
  rw [<- hb,<- q]
  exact ha
 ·have p:=h.path
  rw [e] at p ⊢
  exact p.snoc he
theorem Path.mem{es:List (Str×Str)}{z:Str}:∀ {r:List Str} {a:Str},Path es (a :: r)->z∈r->∃ u,(u,z)∈es
 | b :: r,a,h,hz=>by
  rcases List.mem_cons.mp hz with e | e
  ·exact⟨a,by rw [e]; exact h.1⟩
  ·exact Path.mem h.2 e
theorem d2t.mem{es:List (Str×Str)}{x y z:Str}{r:List Str}(h:d2t es x y r)(hz:z∈r):z=x\/∃ u,(u,z)∈es:=by
 obtain⟨hh,_,_,p⟩:=h
 cases r with
 | nil=>cases hh
 | cons a r =>
  cases hh
  rcases List.mem_cons.mp hz with e | e
  ·exact .inl e
  ·exact .inr (p.mem e)
theorem d2t.rch{es:List (Str×Str)}{x y:Str}{r:List Str}(h:d2t es x y r):Rch es x y:=by
 have aux:∀ (r:List Str) (z:Str),Path es (z :: r)->∀ u,(z :: r).getLast? = some u->Rch es z u:=by
  intro r
  induction r with
  | nil =>
   intro z _ u hu
   cases hu
   exact Rch.refl _ _
  | cons a r ih =>
   intro z p u hu S hz hc
   rw [List.getLast?_cons_cons] at hu
   exact ih a p.2 u hu S (hc z a hz p.1) hc
 obtain⟨hh,⟨r',e⟩,_,p⟩:=h
 cases r with
 | nil=>cases hh
 | cons z r =>
  cases hh
  exact aux r _ p y (by rw [e,List.getLast?_append]; rfl)
theorem f8h:∀ {kvs:List (Key×V)} {k:Key},k∉kvs.map (·.1)->f3n kvs k=none
 | [],_,_=>rfl
 | p :: r,k,h=>by
  rw [List.map_cons,List.mem_cons,not_or] at h
  rw [d7v (fun e=>h.1 e.symm)]
  exact f8h h.2
theorem d9t:∀ {kvs:List (Key×V)} {k:Key},k∈kvs.map (·.1)->∃ v,f3n kvs k=some v/\(k,v)∈kvs
 | [],_,h=>by cases h
 | p :: r,k,h=>by
  by_cases e:p.1=k
  ·exact⟨p.2,f3o e,by rw [<- e]; exact List.mem_cons_self⟩
  ·rw [List.map_cons,List.mem_cons] at h
   obtain⟨v,h1,h2⟩:=d9t (h.resolve_left fun z=>e z.symm)
   exact⟨v,by rw [d7v e]; exact h1,List.mem_cons_of_mem _ h2⟩
theorem g7b{x:Str}{ks:List Str}:kT x∈ks.map kT ↔ x∈ks:=by
 constructor
 ·intro h
  obtain⟨y,hy,e⟩:=List.mem_map.mp h
  injection e with e
  rw [<- e]
  exact hy
 ·exact fun h=>List.mem_map_of_mem h
theorem h5c.same{es:List (Str×Str)}{x:Str}{H0 H H':Hp}{L:Addr}{kvs:List (Key×V)}{ks:List Str}(h:h5c es x H0 H L kvs ks)(S:Same H H'):h5c es x H0 H' L kvs ks :=
 ⟨h.1,fun kv hkv=>by obtain⟨l,ss,z,e0,e1,e2,e3,e4,e5⟩:=h.2 kv hkv; exact⟨l,ss,z,e0,e1,e2,e3,S _ _ e4,e5⟩⟩
theorem h5c.j4u{es:List (Str×Str)}{x:Str}{H0 H H':Hp}{L:Addr}{kvs:List (Key×V)}{ks:List Str}(h:h5c es x H0 H L kvs ks)(B:a6t L H H'):h5c es x H0 H' L kvs ks :=
 ⟨h.1,fun kv hkv=>by obtain⟨l,ss,z,e0,e1,e2,e3,e4,e5⟩:=h.2 kv hkv; exact⟨l,ss,z,e0,e1,e2,e3,B _ _ e2 e4,e5⟩⟩
theorem h5c.put{es:List (Str×Str)}{x:Str}{H0 H H':Hp}{L W l:Addr}{kvs kvs':List (Key×V)}{ks:List Str}{z:Str}{ss:List Str}(h:h5c es x H0 H L kvs ks)(hW:H W=some (.dK kvs'))(hz:z∉ks)(hl:H l=some (.lst (ss.map V.str)))(nl:l≠L)(fl:H0 l=none)(sl:ss.length<=kvs.length+1)(hw:d2t es x z ss)(hk:∀ u∈ss,u∈ks\/u=z)(B:a6t W H H'):h5c es x H0 H' L (putK kvs (kT z) (.ref l)) (ks++[z])/\(putK kvs (kT z) (.ref l)).length=kvs.length+1:=by
 have hn:f3n kvs (kT z)=none:=f8h (by rw [h.1,g7b]; exact hz)
 have ne:∀ {p:Addr} {ys:List V},H p=some (.lst ys)->p≠W:=fun e q=>by rw [q,hW] at e; cases e
 rw [i0b _ hn]
 refine⟨⟨by rw [List.map_append,List.map_append,h.1]; rfl,fun kv hkv=>?_⟩,by rw [List.length_append]; rfl⟩
 rw [List.length_append,List.length_singleton]
 rcases List.mem_append.mp hkv with h1 | h1
 ·obtain⟨l',ss',z',e0,e1,e2,e3,e4,e5,e6,e7⟩:=h.2 kv h1
  exact⟨l',ss',z',e0,e1,e2,e3,B _ _ (ne e4) e4,by omega,e6,fun u hu=>List.mem_append_left _ (e7 u hu)⟩
 ·obtain rfl:=List.mem_singleton.mp h1
  exact⟨l,ss,z,rfl,rfl,nl,fl,B _ _ (ne hl) hl,sl,hw,fun u hu=>(hk u hu).elim (List.mem_append_left _) fun q=>List.mem_append_right _ (by rw [q]; exact List.mem_cons_self)⟩
theorem Done.none{es:List (Str×Str)}{x y:Str}{ks:List Str}(h:Done es y ks [] fun _=>False)(hx:x∈ks):¬ Rch es x y:=fun hr=>by
 have hy:y∈ks:=hr (· ∈ ks) hx fun u v hu hv=>by
  rcases h u hu with z | z | z
  ·cases z
  ·exact z.elim
  ·exact z.2 v hv
 rcases h y hy with z | z | z
 ·cases z
 ·exact z.elim
 ·exact z.1 rfl
theorem j4v(T:Tx K mg A):a2m P A.wd K mg base CX0 1 A.b9k A.b6s ["self","start","end"] (j9f A):=by
 have a1i:=T.a1i
 have a0j:=T.a0j
 have a0m:=T.a0m
 have a0l:=T.a0l
 have a0n:=T.a0n
 refine T.d2h.ok c1o (fun _ _ _ _ h=>i4i h) (fun _ _ _ _ H vs Q E hr h=>?_)
 ·obtain⟨o,x,y,rfl,⟨t,b,sd,ts,bs,es,hP,e100,okx,oke,q0,q⟩⟩:=h7l h
  have hu:=hr.units
  have hs:=szl
  obtain⟨dx,ou,ps,ho,ht,hb,hsd,hE,d1,d2,d3⟩:=id hP
  unfold ptF at ho
  have el:=hE.1
  refine⟨_,(a0k (a2k (i:=3) c1o.nd rfl (Or.inl rfl) (i0t (pvF 1) (a3v (a0g (pvF 1) a0h))))
   (a0k (a2k (i:=4) c1o.nd rfl (Or.inl rfl) (a3v (a0g (pvF 1) a0h)))
   (a0k (g4w PassesOwn.never (a0t (c1l hu) (pvF 4) (a3v a0h) (a2j _))
   (a0k (a2k (i:=5) c1o.nd rfl (Or.inl rfl) (i6k a7n PySem.F.plainAttrs_list PySem.F.slot_list_pop PySem.F.type_list_pop h6y (pvF 4)))
   (a0k (a3s (a0t (b0m hu) (pvF 5) (pvF 2) (a2j _))
   (a0i (a1o (h1h (hu1 hu) (pvF 3) (pvF 5) (fun _ _=>rfl))))
   a0y)
   (a0i (b5i PassesOwn.never rfl (a5s (a8g (pvF 0) rfl)) (a5n (i:=6) c1o.nd rfl (Or.inl rfl))
   (a0i (a3s (pw_and (a0t (b0m hu) (a2h a8m (pvF 6) a0p (fun _ _=>rfl)) (pvF 5) (a2j _)) (pw_and1 (i6t (h2y (hu1 hu) (a2h a8m (pvF 6) a0p (fun _ _=>rfl)) (pvF 3)) (by rfl)))).pt
   (a0k (i0s (hu1 hu) (pvF 3) (a2h a8m (pvF 6) a0p (fun _ _=>rfl)) (a1m a0s (h1h (hu1 hu) (pvF 3) (pvF 5) (fun _ _=>rfl)) (a3v (a0g (a2h a8m (pvF 6) a0p (fun _ _=>rfl)) a0h))) rfl)
   (a0i (a5t (a7q a7n PySem.F.plainAttrs_list PySem.F.slot_list_append PySem.F.type_list_append a6n (pvF 4) (a0g (a2h a8m (pvF 6) a0p (fun _ _=>rfl)) a0h)))))
   a0y)))))))
   (a0i (a1o (a3v a0h)))))),?_⟩
  walk_at"rd"
  refine fun W H1 n1 S1 h1=>⟨by omega,fun l1 H2 n2 S2 h2=>⟨x,rfl,S2 _ _ h1,fun H3 B3 h3=>?_⟩⟩
  have nlW:l1≠W:=fun e=>by rw [e,h1] at n2; cases n2
  have h23:=B3 _ _ nlW h2
  have S03:Same H H3:=fun z u e=>B3 _ _ (fun q=>by rw [q,n1] at e; cases e) (S2 _ _ (S1 _ _ e))
  clear h1 h2
  walk_at"rd"
  refine⟨by omega,fun L H4 n4 S4 h4=>?_⟩
  have nWL:W≠L:=fun e=>by rw [<- e,h3] at n4; cases n4
  have nL:H L=none:=S03.free n4
  have h34:=S4 _ _ h3
  have h24:=S4 _ _ h23
  have h23':=h23
  clear h3 h23
  obtain⟨Pv,pin,pout⟩:=f4m (fun m σ H'=>∃ (kvs:List (Key×V)) (ks ws:List Str) (v5 v6:Option V),σ = [some (.ref o),some (.str x),some (.str y),some (.ref W),some (.ref L),v5,v6]/\Same H H'/\H' W=some (.dK kvs)/\H' L=some (.lst (ws.map V.str))/\h5c es x H H' L kvs ks/\x∈ks/\Done es y ks ws (fun _=>False)/\(∀ z∈ws,z∈ks)/\(∀ z∈ks,Rch es x z/\PyData.strOk z=true)/\kvs.length+cnt es ks<=es.length+1/\2*cnt es ks+ws.length<=2*es.length+1/\m=2*cnt es ks+ws.length)
  have nlL:l1≠L:=fun e=>by rw [<- e,h23'] at n4; cases n4
  have w0:h5c es x H H4 L [(kT x,.ref l1)] [x]:=⟨rfl,fun kv hkv=>by
   obtain rfl:=List.mem_singleton.mp hkv
   exact⟨l1,[x],x,rfl,rfl,nlL,S1.free n2,h24,Nat.le_refl _,d2t.one es x,fun u hu=>hu⟩⟩
  have c0:cnt es [x] <= es.length:=List.length_filter_le _ _
  refine g4x Pv _ (pin _ _ _ ⟨_,[x],[x],_,_,rfl,S03.trans S4,h34,h4,w0,List.mem_cons_self,(fun z hz=>.inl hz),fun z hz=>hz,fun z hz=>by obtain rfl:=List.mem_singleton.mp hz; exact⟨Rch.refl _ _,okx⟩,by rw [List.length_singleton]; omega,by rw [List.length_singleton]; omega,rfl⟩) ?_
  intro m σ H5 hp
  obtain⟨kvs,ks,ws,v5,v6,rfl,S5,hW,hL,wy,xk,dn,wk,kr,kc,mb,em⟩:=pout _ _ _ hp
  clear hp h4 h34 h24 w0
  walk_at"rd"
  refine⟨by omega,fun l6 H6 n6 S6 h6=>?_⟩
  have hW6:=S6 _ _ hW
  have hL6:=S6 _ _ hL
  walk_at"rd"
  refine g1y (ns:=ws) (ms:=[]) (SqL.of hL6) (SqL.of h6) (fun z hz=>(kr z (wk z hz)).2) (fun z hz=>by cases hz) ?_
  cases ws with
  | nil =>
   rw [show (!decide (([] : List Str) = []))=false from rfl]
   walk_at"rd"
   refine⟨by omega,fun l7 H7 n7 S7 h7=>q0 (dn.none xk) _ _ ⟨l7,rfl,(S5.trans S6).free n7,S5.trans (S6.trans S7),h7⟩⟩
  | cons w0 wr =>
   obtain⟨ws,ews⟩:∃ ws,w0 :: wr=ws:=⟨_,rfl⟩
   have wne:ws≠[]:=by rw [<- ews]; exact fun e=>by cases e
   have wl:0 < ws.length:=by rw [<- ews]; exact Nat.succ_pos _
   rw [ews] at hL6 wk em mb dn ⊢
   rw [decide_eq_false wne]
   clear hW hL h6
   walk_at"rd*"
   rintro v H7 ⟨hv,B7,h7⟩
   rw [List.length_map,List.getElem?_map,List.getElem?_eq_getElem (by omega)] at hv
   cases hv
   obtain ⟨sc, esc⟩ : ∃ z, ws[ws.length - 1]'(by omega) = z := ⟨_, rfl⟩
   have scw:sc∈ws:=by rw [<- esc]; exact List.getElem_mem _
   have sck:=wk sc scw
   rw [esc]
   rw [<- List.map_dropLast] at h7
   have hW7:=B7 _ _ nWL hW6
   have S7':Same H H7:=(S5.trans S6).step nL B7
   have ho7:=S7' _ _ ho
   have i8k:=S7' _ _ hsd
   have wy7:=(wy.same S6).j4u B7
   have dl:ws.dropLast.length=ws.length - 1:=List.length_dropLast
   clear hW6 hL6
   have wsub:∀ z∈ws,z=sc\/z∈ws.dropLast:=fun z hz=>by
    have e:=List.dropLast_concat_getLast wne
    rw [<- e] at hz
    rcases List.mem_append.mp hz with h | h
    ·exact .inr h
    ·rw [List.mem_singleton,List.getLast_eq_getElem] at h
     exact .inl (by rw [h,<- esc])
   have dn7:Done es y ks ws.dropLast (· = sc):=fun z hz=>(dn z hz).elim (fun h=>(wsub z h).elim (fun e=>.inr (.inl e)) .inl) fun h=>.inr (.inr (h.elim False.elim id))
   by_cases ny:sc=y
   ·subst ny
    obtain⟨v,hv1,hv2⟩:=d9t (kvs:=kvs) (k:=kT sc) (by rw [wy7.1,g7b]; exact sck)
    obtain⟨lv,ss,z,e0,ev,nlv,flv,hlv,sl,iw,_⟩:=wy7.2 _ hv2
    replace ev:v = .ref lv:=ev
    replace e0:kT sc=kT z:=e0
    injection e0 with e0
    subst e0 ev
    walk_at"rd*"
    exact q ss iw (by omega) _ _ ⟨lv,rfl,flv,S7',hlv⟩
   have ny':(sc=y)=False:=eq_false ny
   walk_at"rd*"
   refine⟨⟨_,SqL.of i8k⟩,?_⟩
   obtain⟨Pw,win,wout⟩:=f4m (fun i σ H'=>∃ (kv2:List (Key×V)) (k2 w2:List Str) (v6:Option V),σ = [some (.ref o),some (.str x),some (.str y),some (.ref W),some (.ref L),some (.str sc),v6]/\Same H H'/\H' W=some (.dK kv2)/\H' L=some (.lst (w2.map V.str))/\h5c es x H H' L kv2 k2/\x∈k2/\Done es y k2 w2 (· = sc)/\(∀ (j:Nat) v,j < i->es[j]? = some (sc,v)->v∈k2)/\sc∈k2/\(∀ z∈w2,z∈k2)/\(∀ z∈k2,Rch es x z/\PyData.strOk z=true)/\kv2.length+cnt es k2<=es.length+1/\2*cnt es k2+w2.length+1<=2*cnt es ks+ws.length)
   refine c1k (xs:=ps.map V.ref) Pw (win _ _ _ ⟨kvs,ks,ws.dropLast,_,rfl,S7',hW7,h7,wy7,xk,dn7,(fun j v hj=>absurd hj (Nat.not_lt_zero _)),sck,fun z hz=>wk z (List.dropLast_subset _ hz),kr,kc,by omega⟩) ?_ ?_ ?_
   ·intro i σ H8 hi hp
    obtain⟨kv2,k2,w2,v6',rfl,S8,_⟩:=wout _ _ _ hp
    exact SqL.of (S8 _ _ hsd)
   ·intro i v σ H8 hv hp
    rw [List.getElem?_map] at hv
    obtain⟨p,hpi,rfl⟩:=Option.map_eq_some_iff.mp hv
    obtain⟨kv2,k2,w2,v6',rfl,S8,hW8,hL8,wy8,xk8,dn8,cl8,sk8,wk8,kr8,kc8,em8⟩:=wout _ _ _ hp
    have hi:=(List.getElem?_eq_some_iff.mp hpi).1
    have hei : es[i]? = some (es[i]'(by omega)) := List.getElem?_eq_getElem _
    obtain⟨lw,hpe⟩:=hE.2 i p _ hpi hei
    have me:=List.mem_of_getElem? hei
    generalize es[i]'(by omega) = e at hei hpe me
    have hp8:=S8 _ _ hpe
    have iv:=f8h (kvs:=kv2) (k:=kT e.2)
    clear hv hp ho7 i8k hW7 h7
    walk_at"rd*"
    split
    ·rename_i hc
     obtain⟨v,hv1,hv2⟩:=d9t (kvs:=kv2) (k:=kT sc) (by rw [wy8.1,g7b]; exact sk8)
     obtain⟨lv,ss,z,e0,ev,nlv,flv,hlv,sl,iw,ik⟩:=wy8.2 _ hv2
     replace ev:v = .ref lv:=ev
     replace e0:kT sc=kT z:=e0
     injection e0 with e0
     subst e0 ev
     have hn:e.2∉k2:=fun hm=>by
      obtain⟨u,hu1,_⟩:=d9t (kvs:=kv2) (k:=kT e.2) (by rw [wy8.1,g7b]; exact hm)
      rw [hu1] at hc
      exact absurd hc.2 (by simp)
     refine⟨_,hv1,fun l9 H9 n9 S9 h9=>?_⟩
     have hlv9:=S9 _ _ hlv
     walk_at"rd*"
     refine⟨by omega,fun l10 H10 n10 S10 h10=>?_⟩
     have j4w:=S9.trans S10
     have k2f:=j4w _ _ hW8
     have j6o:=j4w _ _ hp8
     have hL10:=j4w _ _ hL8
     have n10L:l10≠L:=fun q=>by rw [q,S9 _ _ hL8] at n10; cases n10
     clear hW8 hp8 h9 hlv9
     walk_at"rd*"
     refine⟨by omega,fun H11 B11 h11=>?_⟩
     have hL11:=B11 _ _ nWL.symm hL10
     have hp11:=B11 _ _ (fun q=>by rw [q,k2f] at j6o; cases j6o) j6o
     have k2g:=(wy8.same j4w).put (z:=e.2) k2f hn (ss:=ss++[e.2]) (by rw [h10,List.map_append]; rfl) n10L ((S8.trans S9).free n10) (by rw [List.length_append,List.length_singleton]; omega) (iw.snoc (by rw [<- hc.1]; exact me) fun h=>hn (ik _ h)) (fun u hu=>(List.mem_append.mp hu).elim (fun h=>.inl (ik u h)) fun h=>.inr (List.mem_singleton.mp h)) B11
     have nHW:H W=none:=n1
     clear j6o
     walk_at"rd*"
     refine⟨by omega,?_⟩
     rintro _ H12 ⟨rfl,B12,h12⟩
     have cl:=i4t me hn
     refine win _ _ _ ⟨_,k2++[e.2],w2++[e.2],_,rfl,((S8.trans j4w).step nHW B11).step nL B12,B12 _ _ nWL h11,by rw [h12,List.map_append]; rfl,k2g.1.j4u B12,List.mem_append_left _ xk8,fun z hz=>?_,fun j v hj hv=>?_,List.mem_append_left _ sk8,fun z hz=>?_,fun z hz=>?_,by rw [k2g.2]; omega,by rw [List.length_append,List.length_singleton]; omega⟩
     ·rcases List.mem_append.mp hz with h | h
      ·exact (dn8 z h).elim (fun h=>.inl (List.mem_append_left _ h)) fun h=>.inr (h.elim .inl fun h=>.inr ⟨h.1,fun v hv=>List.mem_append_left _ (h.2 v hv)⟩)
      ·exact .inl (List.mem_append_right _ h)
     ·rcases Nat.lt_or_ge j i with z | z
      ·exact List.mem_append_left _ (cl8 j v z hv)
      ·obtain rfl:j=i:=by omega
       rw [hei] at hv
       injection hv with hv
       exact List.mem_append_right _ (by rw [hv]; exact List.mem_cons_self)
     ·rcases List.mem_append.mp hz with h | h
      ·exact List.mem_append_left _ (wk8 z h)
      ·exact List.mem_append_right _ h
     ·rcases List.mem_append.mp hz with h | h
      ·exact kr8 z h
      ·obtain rfl:=List.mem_singleton.mp h
       exact⟨(kr8 sc sk8).1.step (by rw [<- hc.1]; exact me),oke _ me⟩
    ·rename_i hc
     refine win _ _ _ ⟨kv2,k2,w2,_,rfl,S8,hW8,hL8,wy8,xk8,dn8,fun j v hj hv=>?_,sk8,wk8,kr8,kc8,em8⟩
     rcases Nat.lt_or_ge j i with z | z
     ·exact cl8 j v z hv
     ·obtain rfl:j=i:=by omega
      rw [hei] at hv
      injection hv with hv
      subst hv
      exact Classical.not_not.mp fun hn=>hc ⟨rfl,by rw [iv (by rw [wy8.1,g7b]; exact hn)]; rfl⟩
   ·intro σ H8 hp
    obtain⟨kv2,k2,w2,v6',rfl,S8,hW8,hL8,wy8,xk8,dn8,cl8,sk8,wk8,kr8,kc8,em8⟩:=wout _ _ _ hp
    rw [List.length_map,el] at cl8
    refine⟨2*cnt es k2+w2.length,by omega,pin _ _ _ ⟨kv2,k2,w2,_,_,rfl,S8,hW8,hL8,wy8,xk8,fun z hz=>?_,wk8,kr8,kc8,by omega,rfl⟩⟩
    rcases dn8 z hz with h | h | h
    ·exact .inl h
    ·subst h
     refine .inr (.inr ⟨ny,fun v hv=>?_⟩)
     obtain⟨j,hj,e⟩:=List.getElem_of_mem hv
     exact cl8 j v (by omega) (by rw [List.getElem?_eq_getElem hj,e])
    ·exact .inr (.inr h)
theorem i8l(T:Tx K mg A):a2m P A.wd K mg base CX0 2 A.b0r A.a9p ["self","greatest"] (j3y A.b3k):=by
 have c4o:a2m P A.wd K mg base CX0 1 _ _ _ _:=f7t T
 have b2k:=T.b2k
 have a3w:=T.a3w
 have a6r:=T.a6r
 have a6s:=T.a6s
 refine T.b4u.ok d3p (fun _ _ _ _ h=>i1d h) (fun _ _ _ _ H vs Q E hr h=>?_)
 ·obtain⟨o,g,rfl,⟨dx,ho,g1,g2,k⟩⟩:=h7j h
  have hu:=hr.units
  refine⟨_,(a0k (a3s (pw_or (b0z (a3z (a2g c4o (hr.mono (by decide)) (by rfl) T.d5l T.b4k.kp T.d5k .nil a6o (a0g (pvF 1) a0h)))) (pw_or (a0t of_lt (pvF 1) a0p (a2j _)) (pw_or1 (a0t d5p (pvF 1) (a6q (v:=.int 1000000000000) (by rfl) T.h8l T.g2r) (a2j _))))).pt
   (a0i a5m)
   a0y)
   (a0k (c1w (pvF 0) (pvF 1) rfl)
   (a0k (c1w (pvF 0) a0p rfl)
   (a0i (c1w (pvF 0) (b5j (a0g a0p (a0g a0p a0h))) rfl))))),?_⟩
  walk_at"rd*"
  rw [if_neg (by omega)]
  intro H1 B1 h1
  walk_at"rd*"
  intro H2 B2 h2
  walk_at"rd*"
  intro r H3 n3 S3 h3
  have h23:=S3 _ _ h2
  walk_at"rd*"
  intro H4 B4 h4
  have nr:H r=none:=by
   cases hn:H r with
   | none=>rfl
   | some u =>
    exfalso
    by_cases e:r=o
    ·rw [e,h2] at n3
     cases n3
    ·rw [B2 _ _ e (B1 _ _ e hn)] at n3
     cases n3
  have ro:r≠o:=fun e=>by
   rw [e,h2] at n3
   cases n3
  exact k r H4 nr (fun b u hb e=>B4 _ _ hb (S3 _ _ (B2 _ _ hb (B1 _ _ hb e)))) (B4 _ _ ro h3) h4
theorem j4x(T:Tx K mg A):a2m P A.wd K mg base CX0 4 A.b5p A.b3j ["self","bus","greatest"] (j9g A):=by
 have d0g:a2m P A.wd K mg base CX0 2 _ _ _ _:=i8l T
 have a1i:=T.a1i
 have a0j:=T.a0j
 have a0m:=T.a0m
 have a0l:=T.a0l
 have a0n:=T.a0n
 have b2k:=T.b2k
 have a3w:=T.a3w
 have a6r:=T.a6r
 have a6s:=T.a6s
 refine T.c5r.ok c7v (fun _ _ _ _ h=>j3l h) (fun _ _ _ _ H vs Q E hr h=>?_)
 ·obtain⟨o,y,g,rfl,⟨N,p,hP,hy,hn,g1,g2,o99,q⟩⟩:=i4h h
  have hu:=hr.units
  have hs:=szl
  obtain⟨dx,t,b,sd,ou,ho,F⟩:=id hP
  have hb:=F.hb
  obtain⟨us,hou,R2⟩:=F.ho
  have ul:=R2.h2z
  unfold ptF at ho
  have fb:=a9k p.bs
  have i3:=a7p y p.bs
  refine⟨_,(a0k (a3s (a0t b7i (pvF 1) (a8g (pvF 0) rfl) (by rfl))
   (a0i a5m)
   a0y)
   (a0k (a3s (a0t c7s (pvF 1) (b2u (a5s (a8g (pvF 0) rfl)) (fun _ _ _ _ _=>(a2h a8m (pvF 0) a0p (fun _ _=>rfl))) (d1h (sc:=a0r d1l) (N:=["self","bus","greatest","settler"]) rfl rfl (by decide +kernel)) rfl) (by rfl))
   (a0i a5m)
   a0y)
   (a0k (a2k (i:=3) c7v.nd rfl (Or.inl rfl) (d1j T.d9h d0g (hr.mono (by decide)) (by rfl) T.g1i T.d6h .nil a6o (a0g (pvF 2) a0h)))
   (a0i (a5t (a7q a7n PySem.F.plainAttrs_list PySem.F.slot_list_append PySem.F.type_list_append a6n (a8g (pvF 0) rfl) (a0g (b5j (a0g (pvF 1) (a0g (a8g (pvF 3) rfl) a0h))) a0h))))))),?_⟩
  walk_at"rd*"
  refine⟨rfl,⟨_,SqL.of hou⟩,fun D H2 n2 S2 h2=>?_⟩
  refine c3l (p.os.map fun x=>V.str x.1) (by rw [List.length_map,ul]) n2 S2 h2 (SqL.of hou) (by omega) ?_ ?_
  ·intro i v z H' Q' hx hz S' q'
   obtain⟨e,pe,he,rfl,hpe⟩:=R2.at2 hx
   rw [List.getElem?_map,he] at hz
   cases hz
   have hp':=S' _ _ hpe
   clear hpe
   walk_at"rd*"
  intro H3 S3 h3
  have ff:=a9k (p.os.map (·.1))
  have ii:=a7p y (p.os.map (·.1))
  rw [List.map_map] at ff ii
  have ni:y∉p.os.map (·.1):=fun hm=>by
   obtain⟨x,hx,e⟩:=List.mem_map.mp hm
   exact hn x hx e
  replace h3:H3 D=some (.lst (p.os.map (V.str∘fun x=>x.1))):=h3
  rw [decide_eq_false ni] at ii
  clear h2
  walk_at"rd*"
  refine⟨rfl,?_⟩
  intro c cx H4 n4 n4' nx S4 hdx hc
  refine⟨cx,hc,g1,g2,fun r H5 nr B5 hr5 hc5=>?_⟩
  rw [asNew]
  refine⟨rfl,?_⟩
  have S05:Same H H5:=fun z u e=>B5 _ _ (fun ze=>by rw [ze] at e; rw [S3 _ _ e] at n4; cases n4) (S4 _ _ (S3 _ _ e))
  have ho5:=S05 _ _ ho
  have k2h:=S05 _ _ hou
  unfold stF at hc5
  clear hc hr5 h3
  walk_at"rd*"
  refine fun p7 H7 n7 S7 h7=>?_
  have j6p:=S7 _ _ k2h
  clear k2h hc5
  walk_at"rd*"
  refine⟨by omega,?_⟩
  rintro _ H8 ⟨rfl,B8,h8⟩
  try walk_at"rd"
  have S07:=S05.trans S7
  exact q H8 ((b7l.of S07).trans (b7l.one j6p F.n.2.2.2 B8)) ⟨dx,t,b,sd,ou,B8 _ _ (fun e=>by rw [<- e,S07 _ _ ho] at j6p; cases j6p) (S07 _ _ ho),(F.same S07).j8n j6p (.tup h7 (.cons (.str _) (.cons (.int _) .nil))) h8 B8⟩
theorem h8v(T:Tx K mg A):a2m P A.wd K mg base CX0 1 A.b1v A.b0w ["self"] (i1v A):=by
 have a1i:=T.a1i
 have a0j:=T.a0j
 have a0m:=T.a0m
 have a0l:=T.a0l
 have a0n:=T.a0n
 refine T.c1j.ok f5q (fun _ _ _ _ h=>f3t h) (fun _ _ _ _ H vs Q E hr h=>?_)
 ·obtain⟨o,rfl,⟨N,p,⟨dx,t,b,sd,ou,ho,F⟩,l1,q⟩⟩:=f2t h
  have hu:=hr.units
  have hs:=szl
  have ht:=F.ht
  unfold ptF at ho
  refine⟨_,(a0i (a1o (a9i c3u (by rfl) T.d9l boot_list (a0g (a8g (pvF 0) rfl) a0h)))),?_⟩
  walk_at"rd*"
  exact fun l H1 n1 S1 h1=>q _ _ ⟨l,rfl,n1,S1,h1⟩
theorem i2d(T:Tx K mg A):a2m P A.wd K mg base CX0 1 A.b4g A.b1w ["self"] (i7u A):=by
 have a1i:=T.a1i
 have a0j:=T.a0j
 have a0m:=T.a0m
 have a0l:=T.a0l
 have a0n:=T.a0n
 refine T.c3n.ok f8t (fun _ _ _ _ h=>f3t h) (fun _ _ _ _ H vs Q E hr h=>?_)
 ·obtain⟨o,rfl,⟨N,p,⟨dx,t,b,sd,ou,ho,F⟩,l1,q⟩⟩:=f2t h
  have hu:=hr.units
  have hs:=szl
  have hb:=F.hb
  unfold ptF at ho
  refine⟨_,(a0i (a1o (a9i c3u (by rfl) T.d9l boot_list (a0g (a8g (pvF 0) rfl) a0h)))),?_⟩
  walk_at"rd*"
  exact fun l H1 n1 S1 h1=>q _ _ ⟨l,rfl,n1,S1,h1⟩
theorem i8m(T:Tx K mg A):a2m P A.wd K mg base CX0 1 A.b6t A.b4i ["self"] (j3z A):=by
 have a1i:=T.a1i
 have a0j:=T.a0j
 have a0m:=T.a0m
 have a0l:=T.a0l
 have a0n:=T.a0n
 refine T.c8j.ok g2f (fun _ _ _ _ h=>f3t h) (fun _ _ _ _ H vs Q E hr h=>?_)
 ·obtain⟨o,rfl,⟨N,p,⟨dx,t,b,sd,ou,ho,F⟩,l1,q⟩⟩:=f2t h
  have hu:=hr.units
  have hs:=szl
  obtain⟨us,hou,R2⟩:=F.ho
  have ul:=R2.h2z
  unfold ptF at ho
  refine⟨_,(a0i (a1o (a9i c3u (by rfl) T.d9l boot_list (a0g (a8g (pvF 0) rfl) a0h)))),?_⟩
  walk_at"rd*"
  exact fun l H1 n1 S1 h1=>q l us H1 n1 S1 h1 (h7a (R2.same S1))
theorem i2e(T:Tx K mg A):a2m P A.wd K mg base CX0 1 A.b4h A.b1y ["self"] (i7v A):=by
 have a1i:=T.a1i
 have a0j:=T.a0j
 have a0m:=T.a0m
 have a0l:=T.a0l
 have a0n:=T.a0n
 refine T.c3o.ok f8u (fun _ _ _ _ h=>f3t h) (fun _ _ _ _ H vs Q E hr h=>?_)
 ·obtain⟨o,rfl,⟨N,p,⟨dx,t,b,sd,ou,ho,F⟩,l1,l2,q⟩⟩:=f2t h
  have hu:=hr.units
  have hs:=szl
  obtain⟨us,hsd,R1⟩:=F.hs
  have ul:=R1.h2z
  unfold ptF at ho
  refine⟨_,(a0i (a1o (b2u (a5s (a8g (pvF 0) rfl)) (fun _ _ _ _ _=>(b5j (a0g (a2h a8m (pvF 0) a0p (fun _ _=>rfl)) (a0g (a2h a8m (pvF 0) a0p (fun _ _=>rfl)) (a0g (a9i c3u (by rfl) T.d9l boot_list (a0g (a2h a8m (pvF 0) a0p (fun _ _=>rfl)) a0h)) a0h))))) (d1h (sc:=a0r d1m) (N:=["self"]) rfl rfl (by decide +kernel)) rfl))),?_⟩
  walk_at"rd*"
  refine⟨⟨_,SqL.of hsd⟩,fun D H2 n2 S2 h2=>?_⟩
  refine c3y (xs:=us) (fun i ys H'=>Same H H'/\H' D=some (.lst ys)/\RpL H' (fun a=>H a=none/\a≠D) ys ((p.es.take i).map dSd)) ⟨S2,h2,.nil⟩ (by omega) ?_ ?_ ?_
  ·intro i ys H' hi ⟨S',h',R'⟩
   refine⟨h',SqL.of (S' _ _ hsd),?_⟩
   rw [R'.h2z,List.length_take]
   omega
  ·intro i x ys H' hx ⟨S',h',R'⟩
   obtain⟨e,pe,lw,he,rfl,hpe,_,hlw⟩:=R1.at3 hx
   have hp':=S' _ _ hpe
   have hw':=S' _ _ hlw
   have wl:=l2 e (List.mem_of_getElem? he)
   clear hpe hlw h2 hx
   walk_at"rd*"
   refine fun l4 H4 n4 S4 h4=>?_
   walk_at"rd*"
   refine fun p5 H5 n5 S5 h5=>?_
   have S45:=S4.trans S5
   refine⟨S45 _ _ h',fun H6 B6 h6=>⟨(S'.trans S45).step n2 B6,h6,?_⟩⟩
   rw [List.take_add_one,he,List.map_append]
   refine RpL.put (.snoc (R'.same S45) (.tup h5 (.cons (.str _) (.cons (.str _) (.cons (.lst ⟨S'.free n4,fun z=>?_⟩ (S5 _ _ h4) (RpL.strs _)) .nil))))) (S45 _ _ h') (fun z=>z.2 rfl) B6
   rw [z,h'] at n4
   cases n4
  ·intro ys H3 ⟨S3,h3,R3⟩
   rw [ul,List.take_length] at R3
   exact q D ys H3 n2 S3 h3 R3
theorem i2f{x:Str}(h:a5q x):nmB x=true:=by
 unfold nmB
 rw [decide_eq_true h.1,decide_eq_false h.2.1,Bool.true_and,Bool.not_false,Bool.true_and,List.all_eq_true]
 exact fun c hc=>h8s (h.2.2 c hc).1 (h.2.2 c hc).2
theorem i8n(T:Tx K mg A):a2m P A.wd K mg base CX0 1 A.c1r A.b9j ["value"] j4a:=by
 refine T.c5p.ok g0y (fun _ _ _ _ h=>i9q h) (fun _ _ _ _ H vs Q E hr h=>?_)
 ·obtain⟨v,rfl,h⟩:=i7f h
  have hu:=hr.units
  have hs:=szl
  refine⟨_,(a0k (a3s (pw_or (b0z (a3z (a1h (b2q .str) (by rfl) T.a1z boot_isinstance (a0g (pvF 0) (a0g (b5g (v:=.ty "str") (u:=.type "str") (by rfl) T.g9u rfl rfl) a0h))))) (pw_or (a0t (b0m hu) (pvF 0) a0o (a2j _)) (pw_or1 (a0t d5p (a1h a3y (by rfl) T.c1h boot_len (a0g (pvF 0) a0h)) (a6q (v:=.int 8) (by rfl) T.d4t T.b8o) (a2j _))))).pt
   (a0i (a1o d6j))
   a0y)
   (a0i (a1o (a1h (g5o rfl) (by rfl) T.j3t boot_all (a0g (b2u (g5d (pvF 0)) (fun _ _ _ _ _=>(c8n c7s (pvF 0) (a6q (v:=.str "abcdefghijklmnopqrstuvwxyz") (by rfl) T.g1j T.d5j) (by rfl))) (d1h (sc:=a0r d8p) (N:=["value"]) rfl rfl (by decide +kernel)) rfl) a0h))))),?_⟩
  rcases h with ⟨⟨t,ht,ne⟩,q⟩ | ⟨x,rfl,xl,q⟩
  ·walk_at"rd*"
  ·have xl':x.length<=sizeLine:=by omega
   walk_at"rd*"
   by_cases ne:x=Str.ofString ""
   ·rw [if_pos ne]
    have z:=q H (Same.refl _)
    rw [show nmB x=false from by unfold nmB; rw [decide_eq_true ne]; simp] at z
    exact z
   rw [if_neg ne]
   refine⟨by omega,?_⟩
   by_cases nl:(8:Int) < (x.length:Int)
   ·rw [if_pos nl]
    have z:=q H (Same.refl _)
    rw [show nmB x=false from by unfold nmB; rw [decide_eq_false (show ¬ x.length<=8 by omega)]; simp] at z
    exact z
   rw [if_neg nl]
   refine fun D H2 n2 S2 h2=>?_
   refine g6y (fun c=>V.bl (g7o "abcdefghijklmnopqrstuvwxyz" ⟨#[c]⟩)) n2 S2 h2 (show x.length<=sizeLine by omega) ?_ ?_
   ·intro i c H' Q' hc SS q'
    walk_at"rd*"
   ·intro H3 S3 h3
    walk_at"rd*"
    refine⟨x.cps.toList.map fun c=>g7o "abcdefghijklmnopqrstuvwxyz" ⟨#[c]⟩,by rw [List.map_map]; rfl,?_⟩
    have e:nmB x=(x.cps.toList.map fun c=>g7o "abcdefghijklmnopqrstuvwxyz" ⟨#[c]⟩).all id:=by
     unfold nmB
     rw [decide_eq_true (show x.length<=8 by omega),decide_eq_false ne,List.all_map]
     simp
    rw [<- e]
    exact q H3 S3
theorem h8w(T:Tx K mg A):a2m P A.wd K mg base (CXE P A.wd) 2 A.a8k A.a7o ["self","name"] (j4b A):=by
 have f8g:a2m P A.wd K mg base CX0 1 _ _ _ _:=i8n T
 have a1i:=T.a1i
 have a0j:=T.a0j
 have a0m:=T.a0m
 have a0l:=T.a0l
 have a0n:=T.a0n
 refine T.b0y.okX c7u (fun _ _ _ _ h=>h7n h) (fun _ _ _ _ H vs Q E hr h=>?_)
 ·obtain⟨o,v,rfl,⟨t,b,sd,ts,bs,es,⟨dx,ou,ps,ho,ht,hb,hsd,hE,d1,d2,d3⟩,h⟩⟩:=h3k h
  have hu:=hr.units
  have b4y:1<=sizeLine:=by decide
  unfold ptF at ho
  refine⟨_,(a0k (a3s (b0z (a3z (a2g f8g (hr.mono (by decide)) (by rfl) T.g6h T.c5p.kp T.g6g .nil a6o (a0g (pvF 1) a0h))))
   (a0i (a8i T.i1k T.g6m a8h rfl (by rfl) (a0g a0o a0h)))
   a0y)
   (a0i (a3s (pw_or (a0t c7s (pvF 1) (a8g (pvF 0) rfl) (by rfl)) (pw_or1 (a0t c7s (pvF 1) (a8g (pvF 0) rfl) (by rfl)))).pt
   (a0i (a8i T.h8c T.g3d a8h rfl (by rfl) (a0g a0o a0h)))
   a0y))),?_⟩
  rcases h with ⟨hn,q⟩ | ⟨x,rfl,nm,hx,q⟩
  ·walk_at"rd"
   rcases hn with hn | ⟨x,rfl,xl,hn⟩
   ·refine .inl ⟨hn,?_⟩
    have q0:=q H (Same.refl _)
    walk_at"rd*"
   ·refine .inr ⟨x,rfl,xl,fun H1 S1=>?_⟩
    rw [hn]
    have q0:=q H1 S1
    clear ho ht hb
    walk_at"rd*"
  ·walk_at"rd"
   refine .inr ⟨Nat.le_trans nm.1 (by decide),fun H1 S1=>?_⟩
   rw [i2f nm]
   have ho1:=S1 _ _ ho
   have ht1:=S1 _ _ ht
   have hb1:=S1 _ _ hb
   have i1:=a7p x ts
   have i2:=a7p x bs
   have f1:=a9k ts
   have f2:=a9k bs
   have q0:=q H1 S1
   clear ho ht hb
   walk_at"rd*"
   refine⟨rfl,?_⟩
   by_cases h1:x∈ts
   ·rw [if_pos h1]
    trivial
   ·rw [if_neg h1,if_pos (hx.resolve_left h1)]
    exact⟨rfl,trivial⟩
theorem i8o(T:Tx K mg A):a2m P A.wd K mg base (CXE P A.wd) 3 A.b1m A.b0s ["self","name"] (j4d A):=by
 have a8l:a2m P A.wd K mg base (CXE P A.wd) 2 _ _ _ _:=h8w T
 have a1i:=T.a1i
 have a0j:=T.a0j
 have a0m:=T.a0m
 have a0l:=T.a0l
 have a0n:=T.a0n
 refine T.b7s.okX d5y (fun _ _ _ _ h=>h7n h) (fun _ _ _ _ H vs Q E hr h=>?_)
 ·obtain⟨o,v,rfl,⟨N,p,c,hP,h,q⟩⟩:=h3k h
  obtain⟨t',b',sd',hT⟩:=hP.pt
  obtain⟨dx,t,b,sd,ou,ho,F⟩:=id hP
  have hu:=hr.units
  unfold ptF at ho
  refine⟨_,(a0k (a5t (c3k (pvF 0) T.a1i T.a8q a8l (hr.mono (by decide)) T.b4l .nil b2v (a0g (pvF 1) a0h)))
   (a0i a5m)),?_⟩
  walk_at"rd*"
  rcases h with ⟨rfl,h⟩ | ⟨rfl,x,rfl,h1,h2⟩
  ·exact⟨t',b',sd',_,_,_,hT,.inl ⟨h,q⟩⟩
  ·exact⟨t',b',sd',_,_,_,hT,.inr ⟨_,rfl,h1,h2,q⟩⟩
theorem i8p(T:Tx K mg A):a2m P A.wd K mg base (CXE P A.wd) 3 A.b5o A.b3h ["self","name"] (j4d A):=by
 have a8l:a2m P A.wd K mg base (CXE P A.wd) 2 _ _ _ _:=h8w T
 have a1i:=T.a1i
 have a0j:=T.a0j
 have a0m:=T.a0m
 have a0l:=T.a0l
 have a0n:=T.a0n
 refine T.c5q.okX f2m (fun _ _ _ _ h=>h7n h) (fun _ _ _ _ H vs Q E hr h=>?_)
 ·obtain⟨o,v,rfl,⟨N,p,c,hP,h,q⟩⟩:=h3k h
  obtain⟨t',b',sd',hT⟩:=hP.pt
  obtain⟨dx,t,b,sd,ou,ho,F⟩:=id hP
  have hu:=hr.units
  unfold ptF at ho
  refine⟨_,(a0k (a5t (c3k (pvF 0) T.a1i T.a8q a8l (hr.mono (by decide)) T.b4l .nil b2v (a0g (pvF 1) a0h)))
   (a0i a5m)),?_⟩
  walk_at"rd*"
  rcases h with ⟨rfl,h⟩ | ⟨rfl,x,rfl,h1,h2⟩
  ·exact⟨t',b',sd',_,_,_,hT,.inl ⟨h,q⟩⟩
  ·exact⟨t',b',sd',_,_,_,hT,.inr ⟨_,rfl,h1,h2,q⟩⟩
theorem g7c(T:Tx K mg A):a2m P A.wd K mg base CX0 1 A.b6j A.b5l ["value"] j9k:=by
 refine T.b4k.ok f5n (fun _ _ _ _ h=>i9q h) (fun _ _ _ _ H vs Q E hr h=>?_)
 ·obtain⟨x,rfl,⟨t,ht,q⟩⟩:=i7f h
  have hu:=hr.units
  refine⟨_,(a0i (a1o (f4l (a1h (b2q .int) (by rfl) T.a1z boot_isinstance (a0g (pvF 0) (a0g (b5g (v:=.ty "int") (u:=.type "int") (by rfl) T.f2u rfl rfl) a0h))) (g0b (h6i (a1h (b2q .bl) (by rfl) T.a1z boot_isinstance (a0g (pvF 0) (a0g (b5g (v:=.ty "bool") (u:=.type "bool") (by rfl) T.i4n rfl rfl) a0h)))))))),?_⟩
  walk_at"rd*"
  cases t <;> simpa using q
theorem i2g(T:Tx K mg A):a2m P A.wd K mg base (CXE P A.wd) 2 A.b0r A.a9p ["self","greatest"] (i7w A.a0q):=by
 have c4o:a2m P A.wd K mg base CX0 1 _ _ _ _:=g7c T
 have b2k:=T.b2k
 have a3w:=T.a3w
 have a6r:=T.a6r
 have a6s:=T.a6s
 refine T.b4u.okX d3p (fun _ _ _ _ h=>h7n h) (fun _ _ _ _ H vs Q E hr h=>?_)
 ·obtain⟨o,x,rfl,⟨⟨t,ht,hb⟩,k⟩⟩:=h3k h
  have hu:=hr.units
  have b4y:1<=sizeLine:=by decide
  refine⟨_,(a0k (a3s (pw_or (b0z (a3z (a2g c4o (hr.mono (by decide)) (by rfl) T.d5l T.b4k.kp T.d5k .nil a6o (a0g (pvF 1) a0h)))) (pw_or (a0t of_lt (pvF 1) a0p (a2j _)) (pw_or1 (a0t d5p (pvF 1) (a6q (v:=.int 1000000000000) (by rfl) T.h8l T.g2r) (a2j _))))).pt
   (a0i (a8i T.h4a T.f6y a8h rfl (by rfl) (a0g a0o a0h)))
   a0y)
   (a0k a5m
   (a0k a5m
   (a0i a5m)))),?_⟩
  walk_at"rd*"
  by_cases hti:t=Ty.int
  ·rw [if_neg (by simpa using hti)]
   rcases hb with z | ⟨n,rfl,z⟩
   ·exact absurd hti z
   ·show if n < 1 then True else if 1000000000000 < n then True else _
    by_cases z1:n < 1
    ·rw [if_pos z1]
     trivial
    ·rw [if_neg z1,if_pos (by omega)]
     trivial
  ·rw [if_pos hti]
   trivial
theorem i4u(T:Tx K mg A):a2m P A.wd K mg base (CXE P A.wd) 1 A.b0n A.b0q ["values","count"] (j9l A):=by
 refine T.a9m.okX d5w (fun _ _ _ _ h=>i1d h) (fun _ _ _ _ H vs Q E hr h=>?_)
 ·obtain⟨l,c,rfl,⟨xs,hl,xl,e,q⟩⟩:=h7j h
  have hu:=hr.units
  have hs:=szl
  have b4y:1<=sizeLine:=by decide
  refine⟨_,(a0i (a3s (a0t (c1l hu) (a1h a3y (by rfl) T.c1h boot_len (a0g (pvF 0) a0h)) (pvF 1) (a2j _))
   (a0i (a8i T.d2s T.c1u a8h rfl (by rfl) (a0g a0o a0h)))
   a0y)),?_⟩
  walk_at"rd*"
  try omega
theorem i8q(T:Tx K mg A):a2m P A.wd K mg base CX0 1 A.c4y A.c4i ["one"] j4e:=by
 refine T.d3y.ok h3l (fun _ _ _ _ h=>f3t h) (fun _ _ _ _ H vs Q E hr h=>?_)
 ·obtain⟨p,rfl,⟨x,hp,k⟩⟩:=f2t h
  have hu:=hr.units
  unfold g8c at hp
  refine⟨_,(a0i (a1o (b5j (a0g (a1h d7z (by rfl) T.i1h boot_abs (a0g (a2h a8m (pvF 0) a0p (fun _ _=>rfl)) a0h)) (a0g (a2h a8m (pvF 0) a0p (fun _ _=>rfl)) a0h))))),?_⟩
  walk_at"rd*"
  intro b H1 n1 S1 h1
  refine k _ _ ⟨b,rfl,n1,S1,?_⟩
  rw [h1]
  unfold g8c
  rw [i8h,i8i]
theorem i2h(T:Tx K mg A):a2m P A.wd K mg base CX0 1 A.b8v A.b8w ["one","other"] i7x:=by
 refine T.d0q.ok g8x (fun _ _ _ _ h=>h3j h) (fun _ _ _ _ H vs Q E hr h=>?_)
 ·obtain⟨p,q,rfl,⟨x,y,⟨hp,hq,b1,b2,b3,b4⟩,k⟩⟩:=g8w h
  have hu:=hr.units
  unfold g8c at hp hq
  refine⟨_,(a0i (a1o (c8n of_lt (a1m g7z (a2h a8m (pvF 0) a0p (fun _ _=>rfl)) (a2h a8m (pvF 1) a0p (fun _ _=>rfl))) (a1m g7z (a2h a8m (pvF 1) a0p (fun _ _=>rfl)) (a2h a8m (pvF 0) a0p (fun _ _=>rfl))) (a2j _)))),?_⟩
  walk_at"rd*"
  exact⟨by walk_at"mul",by walk_at"mul"⟩
theorem i2i(T:Tx K mg A):a2m P A.wd K mg base (CXF true P A.wd) 3 A.a8o A.a8s ["text"] (i7y A):=by
 have b3r:a2m P A.wd K mg base CX0 1 _ _ _ _:=d5n T
 have b3s:a2m P A.wd K mg base CX0 1 _ _ _ _:=h1s T
 have f1q:a2m P A.wd K mg base CX0 2 _ _ _ _:=f7u T
 refine T.a9u.okN a6k (fun vs H Q E h=>?_) (fun cdv A' outer s H vs Q E hr h=>?_)
 ·match vs,h with
  | [v],_=>rfl
 ·match vs,h with
  | [v],⟨hv,k⟩ =>
  subst hv
  have hu:=hr.units
  have b4y:1<=sizeLine:=by decide
  have sp:a2l (Str.ofString "1") (Str.ofString "/") = [Str.ofString "1"]:=by decide +kernel
  have d1:((Str.ofString "/").length == 0)=false:=by decide +kernel
  have d2:(Str.ofString "1").length=1:=by decide +kernel
  refine⟨_,(a0k (a3s (b0z (a3z (a1h (b2q .str) (by rfl) T.a1z boot_isinstance (a0g (pvF 0) (a0g (b5g (v:=.ty "str") (u:=.type "str") (by rfl) T.g9u rfl rfl) a0h)))))
   (a0i (a8i T.d9m T.c7n a8h rfl (by rfl) (a0g a0o a0h)))
   a0y)
   (a0k (a2k (i:=1) a6k.nd rfl (Or.inl rfl) (a7q a9j PySem.F.plainAttrs_str PySem.F.slot_str_split PySem.F.type_str_split d1i (pvF 0) (a0g a0o a0h)))
   (a0k (a3s (a0t (c1l hu) (a1h a3y (by rfl) T.c1h boot_len (a0g (pvF 1) a0h)) a0p (a2j _))
   (a0i (a8i T.d9m T.c7n a8h rfl (by rfl) (a0g a0o a0h)))
   a0y)
   (a0k (a2k (i:=2) a6k.nd rfl (Or.inl rfl) (h0p (a3z (a7q a9j PySem.F.plainAttrs_str PySem.F.slot_str_startswith PySem.F.type_str_startswith c3j (a2h a8m (pvF 1) a0p (fun _ _=>rfl)) (a0g a0o a0h))) (b2p h2w (a2h a8m (pvF 1) a0p (fun _ _=>rfl)) (b2r a0p) b7g) (a2h a8m (pvF 1) a0p (fun _ _=>rfl))))
   (a0k (b5i PassesOwn.leaving rfl (a5s (a3v (a0g (pvF 2) (a0g (a2h a8m (pvF 1) a0p (fun _ _=>rfl)) a0h)))) (a5n (i:=3) a6k.nd rfl (Or.inl rfl))
   (a0i (a3s (pw_or (b0z (a3z (a2g b3r (hr.mono (by decide)) (by rfl) T.c8m T.b1h.kp T.c8l .nil a6o (a0g (pvF 3) a0h)))) (pw_or1 (a0t d5p (a1h a3y (by rfl) T.c1h boot_len (a0g (pvF 3) a0h)) (a6q (v:=.int 9) (by rfl) T.b8r T.a9w) (a2j _)))).pt
   (a0i (a8i T.d9m T.c7n a8h rfl (by rfl) (a0g a0o a0h)))
   a0y)))
   (a0k (a3s (a0t (b0m hu) (a9i b4t (by rfl) T.f2u boot_int (a0g (a2h a8m (pvF 1) a0p (fun _ _=>rfl)) a0h)) a0p (a2j _))
   (a0i (a8i T.d9m T.c7n a8h rfl (by rfl) (a0g a0o a0h)))
   a0y)
   (a0k (a2k (i:=4) a6k.nd rfl (Or.inl rfl) (a2g f1q (hr.mono (by decide)) (by rfl) T.g1d T.c4l.kp T.g1c .nil a6o (a0g (a9i b4t (by rfl) T.f2u boot_int (a0g (a2h a8m (pvF 1) a0p (fun _ _=>rfl)) a0h)) (a0g (a9i b4t (by rfl) T.f2u boot_int (a0g (a2h a8m (pvF 1) a0p (fun _ _=>rfl)) a0h)) a0h))))
   (a0k (a3s (a0t (c1l hu) (a2g b3s (hr.mono (by decide)) (by rfl) T.c7m T.a8p.kp T.c7l .nil a6o (a0g (pvF 4) a0h)) (pvF 0) (a2j _))
   (a0i (a8i T.d9m T.c7n a8h rfl (by rfl) (a0g a0o a0h)))
   a0y)
   (a0i (a1o (pvF 4))))))))))),?_⟩
  walk_at"rd*"
  intro p H1 n1 S1 h1
  have q1:=k H1 S1
  walk_at"rd*"
  rw [if_pos (by decide)]
  trivial
theorem i4v(T:Tx K mg A):a2m P A.wd K mg base (CXE P A.wd) 4 A.b2y A.b2z ["text"] (j9m A):=by
 have f3l:a2m P A.wd K mg base (CXF true P A.wd) 3 _ _ _ _:=i2i T
 refine T.b3l.okX c7t (fun _ _ _ _ h=>i9q h) (fun _ _ _ _ H vs Q E hr h=>?_)
 ·obtain⟨v,rfl,⟨hv,k⟩⟩:=i7f h
  subst hv
  have hu:=hr.units
  refine⟨_,(a4g (g8v h1n (fun E=>(i1b (i:=1) c7t.nd rfl (Or.inl rfl) (h7h (E:=E) f3l (hr.mono (by decide)) (by rfl) T.d4r T.a9u.kp T.d4q .nil (a0g (pvF 0) a0h)))) T.d2s T.g2q (by rfl) T.c1u (by rfl) T.c7n T.i1n)
   (a0k a5m
   (a0i a5m))),?_⟩
  walk_at"rd"
  refine⟨fun _ _=>False,?_,fun _ _ z=>z.elim⟩
  walk_at"rd"
  exact fun H1 S1=>⟨T.c6g,k H1 S1⟩
theorem j4y(T:Tx K mg A):a2m P A.wd K mg base (CXE P A.wd) 6 A.b7p A.b9g ["values"] (j9n A):=by
 have b1r:a2m P A.wd K mg base (CXE P A.wd) 1 _ _ _ _:=(i2a T).or (i4u T)
 have c7o:a2m P A.wd K mg base (CXE P A.wd) 4 _ _ _ _:=i4v T
 have d7q:a2m P A.wd K mg base CX0 1 _ _ _ _:=h1t T
 have b4n:=T.b4n
 have a6p:=T.a6p
 refine T.c5n.okX g0w (fun _ _ _ _ h=>f3t h) (fun _ _ _ _ H vs Q E hr h=>?_)
 ·obtain⟨l,rfl,⟨hl,k⟩⟩:=f2t h
  have hu:=hr.units
  refine⟨_,(a0k (a5t (a2g b1r (hr.mono (by decide)) (by rfl) T.c3r T.a9m.kp T.c3q .nil b2v (a0g (pvF 0) (a0g a0p a0h))))
   (a0i (a1o (d1j T.h1p d7q (hr.mono (by decide)) (by rfl) T.h8b T.f6n .nil a6o (a0g (a2g c7o (hr.mono (by decide)) (by rfl) T.d7m T.b3l.kp T.d7l .nil b2v (a0g (a2h a8m (pvF 0) a0p (fun _ _=>rfl)) a0h)) a0h))))),?_⟩
  walk_at"rd"
  refine .inl ⟨_,hl,rfl,?_⟩
  walk_at"rd*"
  exact k
theorem j4z(T:Tx K mg A):a2m P A.wd K mg base (CXE P A.wd) 6 A.c1p A.c4j ["values"] (j9o A):=by
 have b1r:a2m P A.wd K mg base (CXE P A.wd) 1 _ _ _ _:=(i2a T).or (i4u T)
 have c7o:a2m P A.wd K mg base (CXE P A.wd) 4 _ _ _ _:=(j4p T).or (i4v T)
 have h8x:a2m P A.wd K mg base CX0 1 _ _ _ _:=i8q T
 have h4n:a2m P A.wd K mg base CX0 1 _ _ _ _:=i2h T
 refine T.d3z.okX g0x (fun _ _ _ _ h=>f3t h) (fun _ _ _ _ H vs Q E hr h=>?_)
 ·obtain⟨l,rfl,⟨hl,k⟩⟩:=f2t h
  have hu:=hr.units
  have b4y:1<=sizeLine:=by decide
  refine⟨_,(a0k (a5t (a2g b1r (hr.mono (by decide)) (by rfl) T.c3r T.a9m.kp T.c3q .nil b2v (a0g (pvF 0) (a0g a0p a0h))))
   (a0k (a2k (i:=1) g0x.nd rfl (Or.inl rfl) (a2g c7o (hr.mono (by decide)) (by rfl) T.d7m T.b3l.kp T.d7l .nil b2v (a0g (a2h a8m (pvF 0) a0p (fun _ _=>rfl)) a0h)))
   (a0k (a3s (b0z (a3z (a2g h4n (hr.mono (by decide)) (by rfl) T.h3n T.d0q.kp T.h3m .nil a6o (a0g (a2g h8x (hr.mono (by decide)) (by rfl) T.h7w T.d3y.kp T.h7v .nil a6o (a0g (pvF 1) a0h)) (a0g (b5j (a0g a0p (a0g a0p a0h))) a0h)))))
   (a0i (a8i T.d2s T.c1u a8h rfl (by rfl) (a0g a0o a0h)))
   a0y)
   (a0i a5m)))),?_⟩
  walk_at"rd"
  refine .inl ⟨_,hl,rfl,?_⟩
  walk_at"rd*"
  have e1:Str.ofString "1/1"=fW 1:=by decide +kernel
  refine .inl ⟨1,e1,⟨by decide,by decide⟩,?_⟩
  rintro _ H1 ⟨g,rfl,n1,S1,h1⟩
  clear hl
  walk_at"rd"
  refine⟨1,h1,?_⟩
  rintro _ H2 ⟨a,rfl,n2,S2,h2⟩
  walk_at"rd"
  refine fun u H3 n3 S3 h3=>?_
  have h3':H3 u=some (.tup (g8c 1)):=h3
  refine⟨Rat.abs 1,1,⟨S3 _ _ h2,h3',by decide,by decide,by decide,by decide⟩,?_⟩
  rw [show decide ((Rat.abs 1).num*((1:Rat).den:Int) < (1:Rat).num*((Rat.abs 1).den:Int))=false by decide +kernel]
  walk_at"rd"
  exact⟨b4y,k H3 (S1.trans (S2.trans S3))⟩
theorem i2j(T:Tx K mg A):a2m P A.wd K mg base (CXE P A.wd) 8 A.c1q A.b9i ["word"] (j9p A):=by
 have f7y:a2m P A.wd K mg base (CXE P A.wd) 6 _ _ _ _:=j4y T
 have h8y:a2m P A.wd K mg base (CXE P A.wd) 6 _ _ _ _:=j4z T
 refine T.c5o.okX d5i (fun _ _ _ _ h=>i9q h) (fun _ _ _ _ H vs Q E hr h=>?_)
 ·obtain⟨v,rfl,⟨hv,k⟩⟩:=i7f h
  have hu:=hr.units
  have dk:=T.g1k
  have b4y:1<=sizeLine:=by decide
  have hs:=szl
  have d1:((Str.ofString ":").length == 0)=false:=by decide +kernel
  refine⟨_,(a0k (a3s (b0z (a3z (a1h (b2q .str) (by rfl) T.a1z boot_isinstance (a0g (pvF 0) (a0g (b5g (v:=.ty "str") (u:=.type "str") (by rfl) T.g9u rfl rfl) a0h)))))
   (a0i (a8i T.d2s T.c1u a8h rfl (by rfl) (a0g a0o a0h)))
   a0y)
   (a0k (a2k (i:=1) d5i.nd rfl (Or.inl rfl) (a7q a9j PySem.F.plainAttrs_str PySem.F.slot_str_split PySem.F.type_str_split d1i (pvF 0) (a0g a0o a0h)))
   (a0k (a3s (a0t (g5h (K:=K) (w:=A.wd) (by rfl) (by rfl)) (a2h a8m (pvF 1) a0p (fun _ _=>rfl)) (a6q (v:=.ref A.a7l) (by rfl) T.c4n rfl) (by rfl))
   (a0i (a8i T.d2s T.c1u a8h rfl (by rfl) (a0g a0o a0h)))
   a0y)
   (a0i (a1o (d8l (f3p f7y (hr.mono (by decide)) T.c5n.kp T.g6d .nil b2v (a2h (j6g (K:=K) (w:=A.wd) (by rfl) (by rfl)) (a6q (v:=.ref A.a7l) (by rfl) T.c4n rfl) (a2h a8m (pvF 1) a0p (fun _ _=>rfl)) (fun _ _=>rfl)) (a0g (b2p h2w (pvF 1) (b2r a0p) b7g) a0h)) (f3p h8y (hr.mono (by decide)) T.d3z.kp T.h7x .nil b2v (a2h (j6g (K:=K) (w:=A.wd) (by rfl) (by rfl)) (a6q (v:=.ref A.a7l) (by rfl) T.c4n rfl) (a2h a8m (pvF 1) a0p (fun _ _=>rfl)) (fun _ _=>rfl)) (a0g (b2p h2w (pvF 1) (b2r a0p) b7g) a0h)))))))),?_⟩
  rcases hv with rfl | rfl | rfl | rfl
  ·have sp:a2l (Str.ofString "") (Str.ofString ":") = [Str.ofString ""]:=by decide +kernel
   have xl:(Str.ofString "").length=0:=by decide +kernel
   have rn:=T.d7k
   walk_at"rd*"
   refine fun l H1 n1 S1 h1=>?_
   have q1:=k H1 S1
   walk_at"rd*"
   rw [if_pos (show (none:Option Value).isSome=false from rfl)]
   trivial
  ·have sp:a2l (Str.ofString "bad") (Str.ofString ":") = [Str.ofString "bad"]:=by decide +kernel
   have xl:(Str.ofString "bad").length=3:=by decide +kernel
   have rn:=T.c9y
   walk_at"rd*"
   refine fun l H1 n1 S1 h1=>?_
   have q1:=k H1 S1
   walk_at"rd*"
   rw [if_pos (show (none:Option Value).isSome=false from rfl)]
   trivial
  ·have sp:a2l (Str.ofString "gain:1") (Str.ofString ":") = [Str.ofString "gain",Str.ofString "1"]:=by decide +kernel
   have xl:(Str.ofString "gain:1").length=6:=by decide +kernel
   have rn:=T.b3q
   walk_at"rd*"
   refine fun l H1 n1 S1 h1=>?_
   walk_at"rd*"
   refine .inl ?_
   walk_at"rd*"
   refine fun m H2 n2 S2 h2=>?_
   have e2:g4e [V.str (Str.ofString "gain"),V.str (Str.ofString "1")] (some 1) none = [V.str (Str.ofString "1")]:=by
    show g7m _ (some ((1:Nat):Int)) none=_
    rw [c1m]
    rfl
   rw [e2] at h2
   walk_at"rd"
   exact⟨h2,fun H3 S3=>k H3 ((S1.trans S2).trans S3)⟩
  ·have sp:a2l (Str.ofString "hall:1/1:2") (Str.ofString ":") = [Str.ofString "hall",Str.ofString "1/1",Str.ofString "2"]:=by decide +kernel
   have xl:(Str.ofString "hall:1/1:2").length=10:=by decide +kernel
   have rn:=T.c7k
   walk_at"rd*"
   refine fun l H1 n1 S1 h1=>?_
   walk_at"rd*"
   refine .inr ?_
   walk_at"rd*"
   refine fun m H2 n2 S2 h2=>?_
   have e2:g4e [V.str (Str.ofString "hall"),V.str (Str.ofString "1/1"),V.str (Str.ofString "2")] (some 1) none = [V.str (Str.ofString "1/1"),V.str (Str.ofString "2")]:=by
    show g7m _ (some ((1:Nat):Int)) none=_
    rw [c1m]
    rfl
   rw [e2] at h2
   walk_at"rd"
   exact⟨h2,fun H3 S3=>k H3 ((S1.trans S2).trans S3)⟩
theorem g1l.same{H H':Hp}{v:V}(h:g1l H v)(S:Same H H'):g1l H' v:=by
 rcases h with ⟨t,ht,ne⟩ | ⟨r,xs,e,hr,z⟩
 ·exact .inl ⟨t,g5c S ht,ne⟩
 ·exact .inr ⟨r,xs,e,S _ _ hr,z⟩
theorem i8r(T:Tx K mg A):a2m P A.wd K mg base (CXE P A.wd) 9 A.b6q A.b5n ["words"] (j9q A):=by
 have f7z:a2m P A.wd K mg base (CXE P A.wd) 8 _ _ _ _:=(h8r T).or (i2j T)
 refine T.c0k.okX f5p (fun _ _ _ _ h=>i9q h) (fun _ _ _ _ H vs Q E hr h=>?_)
 ·obtain⟨v,rfl,⟨hv,k⟩⟩:=i7f h
  have hu:=hr.units
  have hs:=szl
  have b4y:1<=sizeLine:=by decide
  have q0:=k H (Same.refl _)
  refine⟨_,(a0k (a3s (b0z (a3z (a1h (b2q .lst) (by rfl) T.a1z boot_isinstance (a0g (pvF 0) (a0g (b5g (v:=.ty "list") (u:=.type "list") (by rfl) T.d9l rfl rfl) a0h)))))
   (a0i (a8i T.d2s T.c1u a8h rfl (by rfl) (a0g a0o a0h)))
   a0y)
   (a0k (a3s (a0t d5p (a1h a3y (by rfl) T.c1h boot_len (a0g (pvF 0) a0h)) (a6q (v:=.int 8) (by rfl) T.d9r T.c3p) (a2j _))
   (a0i (a8i T.d2s T.c1u a8h rfl (by rfl) (a0g a0o a0h)))
   a0y)
   (a0i (a1o (i1a h1n (a5s (pvF 0)) (fun _ _ _ _ _=>(g1v f7z (hr.mono (by decide)) (by rfl) T.g6f T.c5o.kp T.g6e .nil (a0g (pvF 0) a0h))) (d1h (sc:=a0r d5h) (N:=["words"]) rfl rfl (by decide +kernel)) rfl))))),?_⟩
  rcases hv with ⟨t,ht,ne⟩ | ⟨r,xs,rfl,hl,l100,h8⟩
  ·walk_at"rd*"
  ·walk_at"rd*"
   rcases h8 with h8 | ⟨h8,ds,u,rest,okd,bu,ex⟩
   ·rw [if_pos (by omega)]
    trivial
   rw [if_neg (by omega)]
   refine⟨⟨_,SqL.of hl⟩,fun D H2 n2 S2 h2=>?_⟩
   have xl:xs.length=ds.length+(rest.length+1):=by rw [ex,List.length_append,List.length_map]; rfl
   refine c3y (xs:=xs) (fun i ys H'=>Same H H'/\H' D=some (.lst ys)/\ys.length=i/\i<=ds.length) ⟨S2,h2,rfl,Nat.zero_le _⟩ (by omega) ?_ ?_ ?_
   ·intro i ys H' hi ⟨S',h',yl,_⟩
    exact⟨h',SqL.of (S' _ _ hl),yl⟩
   ·intro i x ys H' hx ⟨S',h',yl,il⟩
    walk_at"rd"
    rcases Nat.lt_or_eq_of_le il with z | z
    ·rw [ex,List.getElem?_append_left (by rw [List.length_map]; exact z),List.getElem?_map] at hx
     obtain⟨d,hd,rfl⟩:=Option.map_eq_some_iff.mp hx
     have o1:=okd d (List.mem_of_getElem? hd)
     refine .inl ⟨d,o1.1,o1.2,rfl,fun o H3 n3 S3 hp=>?_⟩
     exact⟨S3 _ _ h',fun H4 B4 h4=>⟨(S'.trans S3).step n2 B4,h4,by rw [yl],z⟩⟩
    ·subst z
     rw [ex,List.getElem?_append_right (by rw [List.length_map]; exact Nat.le_refl _),List.length_map,Nat.sub_self] at hx
     cases hx
     exact .inr ⟨bu,fun H3 S3=>k H3 (S'.trans S3)⟩
   ·intro ys H3 ⟨S3,h3,yl,il⟩
    omega
theorem g7d(T:Tx K mg A):a2m P A.wd K mg base (CXE P A.wd) 10 A.b3g A.b1l ["self","words"] (j9r A):=by
 have f1s:a2m P A.wd K mg base (CXE P A.wd) 9 _ _ _ _:=i8r T
 have b4j:=T.b4j
 have a6l:=T.a6l
 have a5p:=T.a5p
 have b0t:=T.b0t
 have a5r:=T.a5r
 refine T.c1s.okX d8y (fun _ _ _ _ h=>h7n h) (fun _ _ _ _ H vs Q E hr h=>?_)
 ·obtain⟨o,v,rfl,⟨dx,ho,hv,k⟩⟩:=h3k h
  have hu:=hr.units
  refine⟨_,(a0k (c1w (pvF 0) (a2g f1s (hr.mono (by decide)) (by rfl) T.g1f T.c0k.kp T.g1e .nil b2v (a0g (pvF 1) a0h)) rfl)
   (a0i a5m)),?_⟩
  walk_at"rd"
  exact⟨hv,k⟩
theorem f8i(ts:List Str):(ts.map V.str).all j3h=true:=by
 rw [List.all_eq_true]
 intro v hv
 obtain⟨n,_,rfl⟩:=List.mem_map.mp hv
 rfl
theorem g7e{H:Hp}{v:V}{ts:List Str}{P R S:Prop}(h:h8m H v ts)(a:P)(b:S):(b5h v=true/\if inV v (ts.map V.str)=false then P else R)\/(i4f H v=true/\S):=by
 rcases h with ⟨f,i⟩ | h
 ·exact .inl ⟨f,by rw [if_pos i]; exact a⟩
 ·exact .inr ⟨h,b⟩
theorem h4o{H:Hp}{x:Str}{ts:List Str}{P R S:Prop}(h:x∈ts)(a:R):(b5h (V.str x)=true/\if inV (V.str x) (ts.map V.str)=false then P else R)\/(i4f H (V.str x)=true/\S) :=
 .inl ⟨rfl,by rw [if_neg (by rw [a7p,decide_eq_true h]; decide)]; exact a⟩
theorem h8m.str{H:Hp}{x:Str}{ts:List Str}(h:x∉ts):h8m H (.str x) ts:=.inl ⟨rfl,by rw [a7p]; exact decide_eq_false h⟩
theorem src{H:Hp}{x:Str}{ts bs:List Str}{P R S S':Prop}(h:x∈ts\/x∈bs)(a:R):(b5h (V.str x)=true/\if inV (V.str x) (ts.map V.str)=false then ((b5h (V.str x)=true/\if inV (V.str x) (bs.map V.str)=false then P else R)\/(i4f H (V.str x)=true/\S)) else R)\/(i4f H (V.str x)=true/\S'):=by
 by_cases h1:x∈ts
 ·exact h4o h1 a
 ·refine .inl ⟨rfl,?_⟩
  rw [if_pos (by rw [a7p]; exact decide_eq_false h1)]
  exact h4o (h.resolve_left h1) a
theorem j5a(T:Tx K mg A):a2m P A.wd K mg base (CXE P A.wd) 12 A.b3i A.b1n ["self","source","bus","words"] (j9i A):=by
 have d4u:a2m P A.wd K mg base (CXE P A.wd) 10 _ _ _ _:=g7d T
 have a1i:=T.a1i
 have a0j:=T.a0j
 have a0m:=T.a0m
 have a0l:=T.a0l
 have a0n:=T.a0n
 have b4j:=T.b4j
 have a6l:=T.a6l
 have a5p:=T.a5p
 refine T.c1t.okX b7o (fun _ _ _ _ h=>i7e h) (fun _ _ _ _ H vs Q E hr h=>?_)
 ·obtain⟨o,v,u,z,rfl,⟨N,p,c,hP,h,q⟩⟩:=h7o h
  have hu:=hr.units
  have hs:=szl
  have b4y:1<=sizeLine:=by decide
  obtain⟨dx,t,b,sd,ou,ho,F⟩:=id hP
  have ht:=F.ht
  have hb:=F.hb
  unfold ptF at ho
  have ft:=f8i p.ts
  have fb:=f8i p.bs
  have q0:=q H (Same.refl _)
  refine⟨_,(a0k (a3s (pw_and (a0t (c4r hu) (pvF 1) (a8g (pvF 0) rfl) (by rfl)) (pw_and1 (a0t (c4r hu) (pvF 1) (a8g (pvF 0) rfl) (by rfl)))).pt
   (a0i (a8i T.f6z T.d5m a8h rfl (by rfl) (a0g a0o a0h)))
   a0y)
   (a0k (a3s (a0t (c4r hu) (pvF 2) (a8g (pvF 0) rfl) (by rfl))
   (a0i (a8i T.f6z T.d5m a8h rfl (by rfl) (a0g a0o a0h)))
   a0y)
   (a0k (a2k (i:=4) b7o.nd rfl (Or.inl rfl) (d1j T.g2m d4u (hr.mono (by decide)) (by rfl) T.h1q T.f2p .nil b2v (a0g (pvF 3) a0h)))
   (a0k a5m
   (a0k a5m
   (a0i a5m)))))),?_⟩
  rcases h with ⟨rfl,h1,h2⟩ | ⟨rfl,x,rfl,hx,h2⟩ | ⟨rfl,x,y,rfl,hx,rfl,hy,hz⟩
  ·walk_at"rd*"
   exact g7e h1 (g7e h2 q0 q0) (g7e h2 q0 q0)
  ·walk_at"rd*"
   exact src hx (g7e h2 q0 q0)
  ·walk_at"rd*"
   refine src hx (h4o hy ?_)
   intro c cx H2 n2 n2' nx S2 hdx hc
   exact⟨cx,hc,hz.same S2,fun H' S'=>q H' (S2.trans S')⟩
theorem j4c.same{H H':Hp}{v:V}(h:j4c H v)(S:Same H H'):j4c H' v:=h.elim fun t z=>⟨t,g5c S z.1,z.2⟩
theorem j5b(T:Tx K mg A):a2m P A.wd K mg base (CXE P A.wd) 4 A.b5p A.b3j ["self","bus","greatest"] (j9j A):=by
 have d0g:a2m P A.wd K mg base (CXE P A.wd) 2 _ _ _ _:=i2g T
 have a1i:=T.a1i
 have a0j:=T.a0j
 have a0m:=T.a0m
 have a0l:=T.a0l
 have a0n:=T.a0n
 have b2k:=T.b2k
 have a3w:=T.a3w
 have a6r:=T.a6r
 have a6s:=T.a6s
 refine T.c5r.okX c7v (fun _ _ _ _ h=>j3m h) (fun _ _ _ _ H vs Q E hr h=>?_)
 ·obtain⟨o,u,g,rfl,⟨N,p,c,hP,o99,h,q⟩⟩:=i4j h
  have hu:=hr.units
  have hs:=szl
  have b4y:1<=sizeLine:=by decide
  obtain⟨dx,t,b,sd,ou,ho,F⟩:=id hP
  have hb:=F.hb
  obtain⟨us,hou,R2⟩:=F.ho
  have ul:=R2.h2z
  unfold ptF at ho
  have fb:=f8i p.bs
  have q0:=q H (Same.refl _)
  refine⟨_,(a0k (a3s (a0t (c4r hu) (pvF 1) (a8g (pvF 0) rfl) (by rfl))
   (a0i (a8i T.f6z T.d5m a8h rfl (by rfl) (a0g a0o a0h)))
   a0y)
   (a0k (a3s (a0t c7s (pvF 1) (b2u (a5s (a8g (pvF 0) rfl)) (fun _ _ _ _ _=>(a2h a8m (pvF 0) a0p (fun _ _=>rfl))) (d1h (sc:=a0r d1l) (N:=["self","bus","greatest","settler"]) rfl rfl (by decide +kernel)) rfl) (by rfl))
   (a0i (a8i T.h8c T.g3d a8h rfl (by rfl) (a0g a0o a0h)))
   a0y)
   (a0k (a2k (i:=3) c7v.nd rfl (Or.inl rfl) (d1j T.d9h d0g (hr.mono (by decide)) (by rfl) T.g1i T.d6h .nil b2v (a0g (pvF 2) a0h)))
   (a0i a5m)))),?_⟩
  have comp:∀ (y:Str) {te:TE} {Q2:VK},(∀ H3 D,Same H H3->H3 D=some (.lst ((p.os.map (·.1)).map V.str))->Q2 (.ref D) H3)->(∀ (i:Nat) v z H' (Q':VK),us[i]? = some v->(p.os.map fun x=>V.str x.1)[i]? = some z->Same H H'->Q' z H'->te (some v :: [some (.ref o),some (.str y),some g,none]) H' Q')->∀ D H2,H D=none->Same H H2->H2 D=some (.lst [])->f8q (Itl K ou) te D [some (.ref o),some (.str y),some g,none] H2 Q2 ⟨⟩:=fun y te Q2 a b D H2 n2 S2 h2=>by
   refine c3l (p.os.map fun x=>V.str x.1) (by rw [List.length_map,ul]) n2 S2 h2 (SqL.of hou) (by omega) b ?_
   intro H3 S3 h3
   exact a H3 D S3 (by rw [h3,List.map_map]; rfl)
  rcases h with ⟨rfl,h1⟩ | ⟨rfl,y,rfl,hy,hi⟩ | ⟨rfl,y,rfl,hy,hi,hg⟩
  ·walk_at"rd*"
   exact g7e h1 q0 q0
  ·walk_at"rd*"
   refine h4o hy ⟨⟨_,SqL.of hou⟩,comp y ?_ ?_⟩
   ·intro H3 D S3 h3
    have q3:=q H3 S3
    have ff:=a9k (p.os.map (·.1))
    have ii:=a7p y (p.os.map (·.1))
    rw [decide_eq_true hi] at ii
    walk_at"rd*"
    exact⟨rfl,q3⟩
   ·intro i v z H' Q' hx hz S' q'
    obtain⟨e,pe,he,rfl,hpe⟩:=R2.at2 hx
    rw [List.getElem?_map,he] at hz
    cases hz
    have hp':=S' _ _ hpe
    clear hpe
    walk_at"rd*"
  ·walk_at"rd*"
   refine h4o hy ⟨⟨_,SqL.of hou⟩,comp y ?_ ?_⟩
   ·intro H3 D S3 h3
    have q3:=q H3 S3
    have ff:=a9k (p.os.map (·.1))
    have ii:=a7p y (p.os.map (·.1))
    rw [decide_eq_false hi] at ii
    walk_at"rd*"
    refine⟨rfl,?_⟩
    intro c cx H4 n4 n4' nx S4 hdx hc
    exact⟨hg.same (S3.trans S4),q H4 (S3.trans S4)⟩
   ·intro i v z H' Q' hx hz S' q'
    obtain⟨e,pe,he,rfl,hpe⟩:=R2.at2 hx
    rw [List.getElem?_map,he] at hz
    cases hz
    have hp':=S' _ _ hpe
    clear hpe
    walk_at"rd*"
theorem h4p{H:Hp}{d e:Addr}{u v:HO}(hd:H d=none)(nd:d≠e):a6t e H (upd (upd H d u) e v)/\upd (upd H d u) e v e=some v/\upd (upd H d u) e v d=some u :=
 ⟨fun b o hb hq=>by rw [a7m hb,a7m (fun z=>by rw [z,hd] at hq; cases hq)]; exact hq,a6m,by rw [a7m nd,a6m]⟩
theorem i8s(T:Tx K mg A):a2m P A.wd K mg base CX0 1 A.b5k A.b6i ["self","ring"] (j4f A):=by
 refine T.d1y.ok g5w (fun _ _ _ _ h=>h3j h) (fun _ _ _ _ H vs Q E hr h=>?_)
 ·obtain⟨e,l,rfl,⟨xs,he,hl,l2,q⟩⟩:=g8w h
  have hu:=hr.units
  have hs:=szl
  refine⟨_,(a0k (a5t (h3b T.d7h (by rfl) T.f6w (a0g (pvF 0) (a0g a0o a0h))))
   (a0i (i6y (pvF 0) (a9i c3u (by rfl) T.d9l boot_list (a0g (pvF 1) a0h)) rfl))),?_⟩
  walk_at"rd"
  refine⟨e,_,_,_,⟨rfl,rfl⟩,he,T.d1s.ok,by show 1<=sizeLine; omega,?_⟩
  walk_at"rd*"
  refine fun l2 H1 n1 S1 h1=>?_
  have he1:=S1 _ _ he
  clear he hl
  walk_at"rd"
  refine⟨_,he1,_,T.d1s.ok,T.d1s.at,T.h1r.so,fun d nd de=>?_⟩
  obtain⟨B,h2,h3⟩:=h4p (H:=H1) (u:=.xd [(Str.ofString "ring",.ref l2)]) (v:=h1i e (.ref A.a1y) d) nd de
  generalize upd (upd H1 d (.xd [(Str.ofString "ring",.ref l2)])) e (h1i e (.ref A.a1y) d)=H2 at B h2 h3 ⊢
  exact q d l2 H2 (S1.free nd) n1 (fun b o hb hq=>B _ _ hb (S1 _ _ hq)) h2 h3 (B _ _ (fun z=>by rw [z,he1] at h1; cases h1) h1)
theorem i8t(T:Tx K mg A):a2m P A.wd K mg base (CXE P A.wd) 12 A.b3i A.b1n ["self","source","bus","words"] (j4g A):=by
 have d4u:a2m P A.wd K mg base (CXE P A.wd) 10 _ _ _ _:=(i2c T).or (g7d T)
 have g3w:a2m P A.wd K mg base CX0 4 _ _ _ _:=j4r T
 have h0b:a2m P A.wd K mg base CX0 1 _ _ _ _:=j4v T
 have h0c:a2m P A.wd K mg base CX0 1 _ _ _ _:=i8s T
 have a1i:=T.a1i
 have a0j:=T.a0j
 have a0m:=T.a0m
 have a0l:=T.a0l
 have a0n:=T.a0n
 have b4j:=T.b4j
 have a6l:=T.a6l
 have a5p:=T.a5p
 refine T.c1t.okX b7o (fun _ _ _ _ h=>i7d h) (fun _ _ _ _ H vs Q E hr h=>?_)
 ·obtain⟨o,x,y,l,rfl,⟨N,p,ds,hP,hl,l8,okd,hx,hy,e99,oky,oke,q,qx⟩⟩:=h7m h
  have hu:=hr.units
  have hs:=szl
  obtain⟨dx,t,b,sd,ou,ho,F⟩:=id hP
  have ht:=F.ht
  have hb:=F.hb
  obtain⟨us,hsd,R1⟩:=F.hs
  have el:=R1.h2z
  unfold ptF at ho
  have ft:=f8i p.ts
  have fb:=f8i p.bs
  refine⟨_,(a0k (a3s (pw_and (a0t (c4r hu) (pvF 1) (a8g (pvF 0) rfl) (by rfl)) (pw_and1 (a0t (c4r hu) (pvF 1) (a8g (pvF 0) rfl) (by rfl)))).pt
   (a0i (a8i T.f6z T.d5m a8h rfl (by rfl) (a0g a0o a0h)))
   a0y)
   (a0k (a3s (a0t (c4r hu) (pvF 2) (a8g (pvF 0) rfl) (by rfl))
   (a0i (a8i T.f6z T.d5m a8h rfl (by rfl) (a0g a0o a0h)))
   a0y)
   (a0k (a2k (i:=4) b7o.nd rfl (Or.inl rfl) (d1j T.g2m d4u (hr.mono (by decide)) (by rfl) T.h1q T.f2p .nil b2v (a0g (pvF 3) a0h)))
   (a0k (a2k (i:=5) b7o.nd rfl (Or.inl rfl) (c3k (pvF 0) T.a1i T.d3u h0b (hr.mono (by decide)) T.g9k .nil a6o (a0g (pvF 2) (a0g (pvF 1) a0h))))
   (a0k (a3s (a0t (c1l hu) (pvF 5) (a3v a0h) (a2j _))
   (a0i (h7e T.d1s.ok T.d1s.fn T.d1s.kp h0c (hr.mono (by decide)) T.g9h T.g9v h7c rfl (by rfl) (a0g (pvF 5) a0h)))
   a0y)
   (a0i (a5t (a7q a7n PySem.F.plainAttrs_list PySem.F.slot_list_append PySem.F.type_list_append a6n (a8g (pvF 0) rfl) (a0g (b5j (a0g (pvF 1) (a0g (pvF 2) (a0g (b7j (pvF 4) T.b4j T.c8s g3w (hr.mono (by decide)) T.g2u .nil a6o) a0h)))) a0h))))))))),?_⟩
  walk_at"rd*"
  refine src hx (h4o hy ?_)
  intro c cx H2 n2 n2' nx S2 hdx hc
  refine .inl ⟨cx,ds,hc,S2 _ _ hl,l8,okd,fun H3 B3 hC=>?_⟩
  rw [asNew]
  refine⟨rfl,?_⟩
  have S03:Same H H3:=fun z u e=>B3 _ _ (fun ze=>by rw [ze] at e; rw [e] at n2; cases n2) (S2 _ _ e)
  have ho3:=S03 _ _ ho
  obtain⟨t',b',sd',hT⟩:=(hP.same S03).pt
  clear hc
  walk_at"rd*"
  have k2i:∀ e∈prs p.es,PyData.strOk e.2=true:=fun e he=>by
   obtain⟨z,hz,rfl⟩:=List.mem_map.mp he
   exact oke z hz
  refine⟨t',b',sd',_,_,_,hT,by rw [prs,List.length_map]; omega,k2i,fun nr=>?_,fun r iw rl=>?_⟩
  rotate_left
  ·rintro _ H4 ⟨rg,rfl,n4,S4,h4⟩
   clear ho3
   walk_at"rd"
   refine⟨by omega,fun l5 H5 n5 S5 h5=>?_⟩
   walk_at"rd"
   have rok:∀ z∈r,PyData.strOk z=true:=fun z hz=>by
    rcases iw.mem hz with e | ⟨u,e⟩
    ·rw [e]; exact oky
    ·exact k2i _ e
   have rne:r≠[]:=fun e=>by have h:=iw.head; rw [e] at h; cases h
   refine g1y (ns:=r) (ms:=[]) (SqL.of (S5 _ _ h4)) (SqL.of h5) rok (fun z hz=>by cases hz) ?_
   rw [decide_eq_false rne]
   have hR5:=S5 _ _ h4
   have S05:=(S03.trans S4).trans S5
   clear h4 h5
   walk_at"rd"
   refine⟨by show 1<=sizeLine; omega,fun e n6=>?_⟩
   have he6:upd H5 e (g8m e (.ref A.a1y)) e=some (g8m e (.ref A.a1y)):=a6m
   have S6:Same H5 (upd H5 e (g8m e (.ref A.a1y))):=Same.upd n6
   generalize upd H5 e (g8m e (.ref A.a1y))=H6 at he6 S6 ⊢
   have ne:H e=none:=S05.free n6
   refine⟨he6,r.map V.str,S6 _ _ hR5,by rw [List.length_map]; omega,fun d l2 H7 nd nl B7 h7 hd hl2=>⟨d,h7,?_⟩⟩
   have ed:d≠e:=fun z=>by rw [z,he6] at nd; cases nd
   have el:l2≠e:=fun z=>by rw [z,he6] at nl; cases nl
   refine qx r d l2 _ iw rl ((S05.trans S6).free nd) ((S05.trans S6).free nl) (fun b u hb=>?_) (by rw [d5s ed]; exact hd) (by rw [d5s el]; exact hl2)
   have hbe:b≠e:=fun z=>by rw [z,ne] at hb; cases hb
   rw [d5s hbe]
   exact B7 _ _ hbe (S6 _ _ (S05 _ _ hb))
  rintro _ H4 ⟨rg,rfl,n4,S4,h4⟩
  clear ho3
  walk_at"rd"
  refine⟨by omega,fun l5 H5 n5 S5 h5=>?_⟩
  walk_at"rd"
  refine g1y (ns:=[]) (ms:=[]) (SqL.of (S5 _ _ h4)) (SqL.of h5) (fun z hz=>by cases hz) (fun z hz=>by cases hz) ?_
  rw [show (!decide (([] : List Str) = []))=false from rfl]
  have S35:=S4.trans S5
  have S05:=S03.trans S35
  have ho5:=S05 _ _ ho
  have k2j:=S05 _ _ hsd
  have hC5:=hC.same S35
  obtain⟨cx',pl',sl',os',hc5,hpl5,R5⟩:=id hC5
  unfold chF at hc5
  clear h4 h5 hC hpl5 R5
  walk_at"rd*"
  refine⟨ds,hC5,l8,okd,?_⟩
  rintro _ H6 ⟨lw,rfl,n6,S6,h6⟩
  clear ho5 hc5
  walk_at"rd"
  refine⟨by omega,fun p7 H7 n7 S7 h7=>?_⟩
  have S57:=S6.trans S7
  have S07:=S05.trans S57
  have i8k:=S57 _ _ k2j
  clear k2j
  walk_at"rd*"
  refine⟨by omega,?_⟩
  rintro _ H8 ⟨rfl,B8,h8⟩
  try walk_at"rd"
  have F7:Fl H7 (fun a=>N a\/H a=none) t b sd ou p:=(F.same S07).mono fun z hz _=>.inl hz
  have nlw:H lw=none:=S05.free n6
  have ne:∀ {z:Addr} {u:HO},H z=some u->lw≠z:=fun e q=>by rw [<- q,nlw] at e; cases e
  obtain⟨_,hou,_⟩:=F.ho
  have rr:Rp H7 (Nw (fun a=>N a\/H a=none) t b sd ou) (.ref p7) (dSd (x,y,ds.map Dt.word)):=.tup h7 (.cons (.str _) (.cons (.str _) (.cons (.lst ⟨.inr nlw,ne ht,ne hb,ne hsd,ne hou⟩ (by rw [S7 _ _ h6,List.map_map]; rfl) (RpL.strs _)) .nil)))
  exact q nr H8 ((b7l.of S07).trans (b7l.one i8k F.n.2.2.1 B8)) ⟨dx,t,b,sd,ou,B8 _ _ (fun e=>by rw [<- e,S07 _ _ ho] at i8k; cases i8k) (S07 _ _ ho),F7.j8m i8k rr h8 B8⟩
theorem h1v{l:List Nat}:lead l=false ↔ ∀ r,l=48 :: r->r = []:=by
 unfold lead
 split
 ·rename_i d r
  simp
 ·rename_i h
  simp only [true_iff]
  intro r e
  cases r with
  | nil=>rfl
  | cons d r=>exact absurd e (h d r)
theorem f8j(n:Nat):txt (n:Int)=dg n:=if_neg (by omega)
theorem h1w{x:Str}{n:Nat}:i9s x=some n ↔ x=nW n:=by
 unfold i9s
 constructor
 ·intro h
  split at h
  ·rename_i q
   rw [Bool.and_eq_true,d4y,Bool.not_eq_true',h1v] at q
   have e:=g0i ⟨q.1.1,q.1.2,q.2⟩
   cases h
   refine b2t ?_
   rw [g8i,f8j,e]
  ·cases h
 ·rintro rfl
  have c:=i0m n
  rw [g8i,f8j,if_pos (by rw [d4y.mpr ⟨c.1,c.2.1⟩,h1v.mpr c.2.2]; rfl),g5f]
theorem i8u(T:Tx K mg A):a2m P A.wd K mg base CX0 2 A.b6k A.b5m ["text"] j4h:=by
 have b3r:a2m P A.wd K mg base CX0 1 _ _ _ _:=d5n T
 refine T.c0j.ok f5o (fun _ _ _ _ h=>i1f h) (fun _ _ _ _ H vs Q E hr h=>?_)
 ·obtain⟨x,rfl,⟨xl,q⟩⟩:=h9e h
  have hu:=hr.units
  have hs:=szl
  have sl:Str.ofString "0" = ⟨#[48]⟩:=by decide +kernel
  refine⟨_,(a0k (a3s (pw_or (b0z (a3z (a2g b3r (hr.mono (by decide)) (by rfl) T.c8m T.b1h.kp T.c8l .nil a6o (a0g (pvF 0) a0h)))) (pw_or1 (a0t d5p (a1h a3y (by rfl) T.c1h boot_len (a0g (pvF 0) a0h)) (a6q (v:=.int 13) (by rfl) T.b8q T.a9v) (a2j _)))).pt
   (a0i (a1o f1t))
   a0y)
   (a0k (a3s (pw_and (a3z (a7q a9j PySem.F.plainAttrs_str PySem.F.slot_str_startswith PySem.F.type_str_startswith c3j (pvF 0) (a0g a0o a0h))) (pw_and1 (a0t (c1l hu) (pvF 0) a0o (a2j _)))).pt
   (a0i (a1o f1t))
   a0y)
   (a0i (a1o (a9i b4t (by rfl) T.f2u boot_int (a0g (pvF 0) a0h)))))),?_⟩
  rw [sl]
  walk_at"rd"
  unfold h8n i9s at q
  cases hf:h2x (sg x) with
  | false =>
   rw [if_pos rfl]
   rw [hf,Bool.false_and,if_neg Bool.false_ne_true] at q
   exact q
  | true =>
   rw [if_neg (by decide)]
   refine⟨by omega,?_⟩
   rw [hf,Bool.true_and] at q
   have ff:=d4y.mp hf
   have k0j:lead (sg x)=(Txt.startswith x ⟨#[48]⟩ && !decide (x=(⟨#[48]⟩:Str))):=by
    rw [h6q]
    unfold lead
    split
    ·rename_i d r e
     rw [e,decide_eq_false (p:=x=(⟨#[48]⟩:Str)) (fun z=>by rw [z] at e; cases e)]
     rfl
    ·rename_i h
     cases e:sg x with
     | nil=>exact absurd e ff.2
     | cons c r =>
      by_cases hc:c=48
      ·subst hc
       cases r with
       | nil=>rw [show x=(⟨#[48]⟩:Str) from b2t e]; rfl
       | cons d r=>exact absurd e (h d r)
      ·rw [show decide ((c :: r)[0]? = some 48)=false from decide_eq_false (by simpa using hc)]
       rfl
   rw [k0j] at q
   by_cases h1:(13:Int) < (x.length:Int)
   ·rw [if_pos (.inl h1)]
    split at q
    ·rw [if_neg (by omega)] at q
     exact q
    ·exact q
   ·by_cases h2:Txt.startswith x ⟨#[48]⟩=true/\¬ x=(⟨#[48]⟩:Str)
    ·rw [if_pos (.inr h2)]
     rw [h2.1,decide_eq_false h2.2,if_neg (by decide)] at q
     exact q
    ·rw [if_neg (fun z=>z.elim h1 h2)]
     rw [if_pos ?_] at q
     ·replace q:Q (if x.length<=13 then V.int (NumText.digitsVal (sg x):Nat) else V.non) H:=q
      rw [if_pos (by omega)] at q
      exact⟨_,PySem.intText_digits ff.1 ff.2 (by omega),by omega,q⟩
     ·rw [Bool.not_eq_true',Bool.and_eq_false_iff]
      by_cases h3:Txt.startswith x ⟨#[48]⟩=true
      ·right
       rw [decide_eq_true (Classical.byContradiction fun z=>h2 ⟨h3,z⟩)]
       rfl
      ·exact .inl (Bool.eq_false_iff.mpr h3)
theorem i8v{x:Str}{c:Nat}:x=Str.join ⟨#[c]⟩ (a2l x ⟨#[c]⟩):=by
 rw [g5j]
 exact b2t (by rw [StrLaws.join_split])
theorem h1x{c:Nat}:∀ {ps:List Str} {p:Str},p∈ps->p.length<=(Str.join ⟨#[c]⟩ ps).length
 | [q],p,h=>by
  obtain rfl:=List.mem_singleton.mp h
  exact Nat.le_refl _
 | q :: q' :: r,p,h=>by
  rw [<- b0v (Str.join ⟨#[c]⟩ (q :: q' :: r)),b1j,List.length_append,List.length_cons,b0v,b0v]
  rcases List.mem_cons.mp h with rfl | h
  ·omega
  ·have:=h1x (c:=c) h
   omega
theorem h1y{x p:Str}{c:Nat}(h:p∈a2l x ⟨#[c]⟩):p.length<=x.length:=by
 have:=h1x (c:=c) h
 rwa [<- i8v] at this
theorem j5c{p:Prop}[Decidable p]{b:Bool}{Qb:Bool->Hp->Prop}{H:Hp}(h:Qb (decide p && b) H):if p then Qb b H else Qb false H:=by
 split
 ·rename_i z
  rw [decide_eq_true z,Bool.true_and] at h
  exact h
 ·rename_i z
  rw [decide_eq_false z,Bool.false_and] at h
  exact h
theorem k0k:Str.ofString "track"≠Str.ofString "bus":=by decide +kernel
theorem i4w:Str.ofString "send"≠Str.ofString "out":=by decide +kernel
theorem Tw.inv2{p g:Pd}{ws:List Str}{c:Nat}{k a:Str}(h:Tw p ws c g)(e:ws = [k,a])(hk:k=Str.ofString "track"\/k=Str.ofString "bus") :
  (c=0/\a5q a/\a∉p.ts/\a∉p.bs/\((k=Str.ofString "track"/\g = ⟨p.ts++[a],p.bs,p.es,p.os⟩)\/(k=Str.ofString "bus"/\g = ⟨p.ts,p.bs++[a],p.es,p.os⟩)))\/(c=2/\nmB a=false)\/(c=3/\a5q a/\(a∈p.ts\/a∈p.bs)):=by
 cases h with
 | tr h1 h2 h3=>cases e; exact .inl ⟨rfl,h1,h2,h3,.inl ⟨rfl,rfl⟩⟩
 | bs h1 h2 h3=>cases e; exact .inl ⟨rfl,h1,h2,h3,.inr ⟨rfl,rfl⟩⟩
 | nm h1 h2=>cases e; exact .inr (.inl ⟨rfl,h2⟩)
 | two h1 h2 h3=>cases e; exact .inr (.inr ⟨rfl,h2,h3⟩)
 | row h1 h2 h3=>exact absurd hk (fun z=>z.elim (h1 k a e).1 (h1 k a e).2)
 | _=>cases e
theorem Tw.send{p g:Pd}{ws:List Str}{c:Nat}{k a y:Str}{r:List Str}(h:Tw p ws c g)(e:ws=k :: a :: y :: r)(hk:k=Str.ofString "send") :
  (c=0/\(a∈p.ts\/a∈p.bs)/\y∈p.bs/\r.length<=8/\(∀ x∈r,okW x)/\¬ Rch (prs p.es) y a/\g = ⟨p.ts,p.bs,p.es++[(a,y,r)],p.os⟩)\/(c=4/\(¬ (a∈p.ts\/a∈p.bs)\/y∉p.bs))\/(c=5/\(a∈p.ts\/a∈p.bs)/\y∈p.bs/\(8 < r.length\/∃ x∈r,¬ okW x))\/(c=6/\(a∈p.ts\/a∈p.bs)/\y∈p.bs/\r.length<=8/\(∀ x∈r,okW x)/\Rch (prs p.es) y a):=by
 cases h with
 | sd h1 h2 h3 h4 h5=>cases e; exact .inl ⟨rfl,h1,h2,h3,h4,h5,rfl⟩
 | nb h1=>cases e; exact .inr (.inl ⟨rfl,h1⟩)
 | np h1 h2 h3=>cases e; exact .inr (.inr (.inl ⟨rfl,h1,h2,h3⟩))
 | rg h1 h2 h3 h4 h5=>cases e; exact .inr (.inr (.inr ⟨rfl,h1,h2,h3,h4,h5⟩))
 | row h1 h2 h3=>exact absurd hk (h2 k a y r e)
 | ou=>cases e; exact absurd hk.symm i4w
 | ob=>cases e; exact absurd hk.symm i4w
 | o2=>cases e; exact absurd hk.symm i4w
 | on=>cases e; exact absurd hk.symm i4w
 | _=>cases e
theorem Tw.outw{p g:Pd}{ws:List Str}{c:Nat}{k y z:Str}(h:Tw p ws c g)(e:ws = [k,y,z])(hk:k=Str.ofString "out") :
  (c=0/\y∈p.bs/\y∉p.os.map (·.1)/\∃ n:Nat,h8n z = .int n/\1<=n/\n<=1000000000000/\g = ⟨p.ts,p.bs,p.es,p.os++[(y,(n:Int))]⟩)\/(c=4/\y∉p.bs)\/(c=3/\y∈p.bs/\y∈p.os.map (·.1))\/(c=7/\y∈p.bs/\y∉p.os.map (·.1)/\¬ gOk z):=by
 cases h with
 | ou h1 h2 h3 h4 h5=>cases e; exact .inl ⟨rfl,h1,h2,_,h3,h4,h5,rfl⟩
 | ob h1=>cases e; exact .inr (.inl ⟨rfl,h1⟩)
 | o2 h1 h2=>cases e; exact .inr (.inr (.inl ⟨rfl,h1,h2⟩))
 | on h1 h2 h3=>cases e; exact .inr (.inr (.inr ⟨rfl,h1,h2,h3⟩))
 | row h1 h2 h3=>exact absurd hk (h3 k y z e)
 | sd=>cases e; exact absurd hk i4w
 | nb=>cases e; exact absurd hk i4w
 | np=>cases e; exact absurd hk i4w
 | rg=>cases e; exact absurd hk i4w
 | _=>cases e
theorem Tw.none{p g:Pd}{c:Nat}{k:Str}{rest:List Str}(h:Tw p (k :: rest) c g)(n1:¬ (k=Str.ofString "track"/\rest.length=1))(n2:¬ (k=Str.ofString "bus"/\rest.length=1))(n3:¬ (k=Str.ofString "send"/\2<=rest.length))(n4:¬ (k=Str.ofString "out"/\rest.length=2)):c=1:=by
 cases h with
 | row=>rfl
 | tr=>exact absurd ⟨rfl,rfl⟩ n1
 | bs=>exact absurd ⟨rfl,rfl⟩ n2
 | nm h=>exact (h.elim (fun z=>absurd ⟨z,rfl⟩ n1) fun z=>absurd ⟨z,rfl⟩ n2)
 | two h=>exact (h.elim (fun z=>absurd ⟨z,rfl⟩ n1) fun z=>absurd ⟨z,rfl⟩ n2)
 | sd=>exact absurd ⟨rfl,by simp⟩ n3
 | nb=>exact absurd ⟨rfl,by simp⟩ n3
 | np=>exact absurd ⟨rfl,by simp⟩ n3
 | rg=>exact absurd ⟨rfl,by simp⟩ n3
 | _=>exact absurd ⟨rfl,rfl⟩ n4
theorem h1z:∀ {r:List Str},(∀ x∈r,okW x)->∃ ds:List Dt,r=ds.map Dt.word/\∀ d∈ds,d.ok/\d.kd < 2
 | [],_=>⟨[],rfl,fun d hd=>by cases hd⟩
 | x :: r,h=>by
  obtain⟨ds,e,od⟩:=h1z (r:=r) fun z hz=>h z (List.mem_cons_of_mem _ hz)
  obtain⟨d,ed,o1⟩:∃ d:Dt,x=d.word/\d.ok/\d.kd < 2:=by
   rcases h x List.mem_cons_self with rfl | rfl
   ·exact⟨.gain (mkRat 1 2),by decide +kernel,⟨by decide +kernel,by decide +kernel⟩,by decide⟩
   ·exact⟨.delay 3,by decide +kernel,(by decide:3<=1000),by decide⟩
  refine⟨d :: ds,by rw [e,ed]; rfl,fun z hz=>?_⟩
  rcases List.mem_cons.mp hz with rfl | hz
  ·exact o1
  ·exact od z hz
theorem g7f:∀ {r:List Str},(∃ x∈r,¬ okW x)->∃ r1 u r2,r=r1++u :: r2/\(∀ x∈r1,okW x)/\¬ okW u
 | [],h=>by obtain⟨x,hx,_⟩:=h; cases hx
 | x :: r,h=>by
  by_cases hx:okW x
  ·obtain⟨r1,u,r2,e,h1,h2⟩:=g7f (r:=r) (by
    obtain⟨z,hz,nz⟩:=h
    rcases List.mem_cons.mp hz with rfl | hz
    ·exact absurd hx nz
    ·exact⟨z,hz,nz⟩)
   refine⟨x :: r1,u,r2,by rw [e]; rfl,fun z hz=>?_,h2⟩
   rcases List.mem_cons.mp hz with rfl | hz
   ·exact hx
   ·exact h1 z hz
  ·exact⟨[],x,r,rfl,(fun z hz=>by cases hz),hx⟩
theorem h8z(z:Str):h8n z = .non\/∃ n:Nat,h8n z = .int n:=by
 unfold h8n
 cases i9s z with
 | none=>exact .inl rfl
 | some n =>
  by_cases h:z.length<=13
  ·exact .inr ⟨n,if_pos h⟩
  ·exact .inl (if_neg h)
theorem ifB{c:TT}{a r:TS}{D:Ends}{σ:L2.St}{H:Hp}(b:Bool)(hc:∀ Q:Bool->Hp->Prop,Q b H->c σ H Q)(hy:b=true->a D σ H)(hn:b=false->r D σ H):i5f c a r D σ H:=by
 refine hc _ ?_
 cases b with
 | true=>exact hy rfl
 | false=>exact hn rfl
theorem j6q:Str.ofString " " = ⟨#[32]⟩:=by decide +kernel
theorem i2k(T:Tx K mg A):a2m P A.wd K mg base (CXE P A.wd) 13 A.b5r A.b6v ["patch","line"] (i7z A):=by
 have g3x:a2m P A.wd K mg base (CXE P A.wd) 3 _ _ _ _:=(j4s T).or (i8o T)
 have h0d:a2m P A.wd K mg base (CXE P A.wd) 3 _ _ _ _:=(j4t T).or (i8p T)
 have g7g:a2m P A.wd K mg base (CXE P A.wd) 12 _ _ _ _:=(i8t T).either (j5a T)
 have h0e:a2m P A.wd K mg base (CXE P A.wd) 4 _ _ _ _:=(j4x T).or (j5b T)
 have f1r:a2m P A.wd K mg base CX0 2 _ _ _ _:=i8u T
 have a1i:=T.a1i
 have a0j:=T.a0j
 have a0m:=T.a0m
 have a0l:=T.a0l
 have a0n:=T.a0n
 refine T.c5t.okX d3q (fun _ _ _ _ h=>i1e h) (fun _ _ _ s H vs Q E hr h=>?_)
 ·obtain⟨o,x,rfl,⟨N,p,g,c,hP,hB,xl,lk,tw,q0,qx,qr⟩⟩:=h7k h
  have hu:=hr.units
  have hs:=szl
  have b4y:1<=sizeLine:=by decide
  have d1:((⟨#[32]⟩:Str).length == 0)=false:=rfl
  have sl:=split_le x 32
  refine⟨_,(a4g (a2k (i:=2) d3q.nd rfl (Or.inl rfl) (a7q a9j PySem.F.plainAttrs_str PySem.F.slot_str_split PySem.F.type_str_split d1i (pvF 1) (a0g a0o a0h)))
   (a4g (a2k (i:=3) d3q.nd rfl (Or.inl rfl) (a1m i3e (a1h a3y (by rfl) T.c1h boot_len (a0g (pvF 2) a0h)) a0p))
   (a0i (a3s (pw_and (a0t (b0m hu) (a2h a8m (pvF 2) a0p (fun _ _=>rfl)) a0o (a2j _)) (pw_and1 (a0t (b0m hu) (pvF 3) a0p (a2j _)))).pt
   (a0i (a5t (c3k (pvF 0) T.a1i T.c8t g3x (hr.mono (by decide)) T.g2v .nil b2v (a0g (a2h a8m (pvF 2) a0p (fun _ _=>rfl)) a0h))))
   (a0i (a3s (pw_and (a0t (b0m hu) (a2h a8m (pvF 2) a0p (fun _ _=>rfl)) a0o (a2j _)) (pw_and1 (a0t (b0m hu) (pvF 3) a0p (a2j _)))).pt
   (a0i (a5t (c3k (pvF 0) T.a1i T.d3t h0d (hr.mono (by decide)) T.g9j .nil b2v (a0g (a2h a8m (pvF 2) a0p (fun _ _=>rfl)) a0h))))
   (a0i (a3s (pw_and (a0t (b0m hu) (a2h a8m (pvF 2) a0p (fun _ _=>rfl)) a0o (a2j _)) (pw_and1 (a0t j7p (pvF 3) a0p (a2j _)))).pt
   (a0i (a5t (c3k (pvF 0) T.a1i T.d1v g7g (hr.mono (by decide)) T.g6j .nil b2v (a0g (a2h a8m (pvF 2) a0p (fun _ _=>rfl)) (a0g (a2h a8m (pvF 2) a0p (fun _ _=>rfl)) (a0g (b2p h2w (pvF 2) (b2r a0p) b7g) a0h))))))
   (a0i (a3s (pw_and (a0t (b0m hu) (a2h a8m (pvF 2) a0p (fun _ _=>rfl)) a0o (a2j _)) (pw_and1 (a0t (b0m hu) (pvF 3) a0p (a2j _)))).pt
   (a0i (a5t (c3k (pvF 0) T.a1i T.d3v h0e (hr.mono (by decide)) T.g9l .nil b2v (a0g (a2h a8m (pvF 2) a0p (fun _ _=>rfl)) (a0g (a2g f1r (hr.mono (by decide)) (by rfl) T.g1b T.c0j.kp T.g1a .nil a6o (a0g (a2h a8m (pvF 2) a0p (fun _ _=>rfl)) a0h)) a0h)))))
   (a0i (a8i T.h8d T.g3e a8h rfl (by rfl) (a0g a0o a0h))))))))))))),?_⟩
  obtain⟨kd,rest,ek⟩:∃ kd ws,a2l x ⟨#[32]⟩=kd :: ws:=List.exists_cons_of_ne_nil (g1x _ _)
  have pl:∀ z∈a2l x ⟨#[32]⟩,z.length<=98:=fun z hz=>Nat.le_trans (h1y hz) xl
  rw [ek] at lk tw qr sl pl
  rw [List.length_cons] at sl
  obtain⟨Mid,min',mout⟩:=g7n (fun σ' H'=>∃ l1:Addr,σ' = [some (.ref o),some (.str x),some (.ref l1),none]/\Same H H'/\H' l1=some (.lst (V.str kd :: rest.map V.str)))
  refine⟨Mid,?_,?_⟩
  ·have ek':=(id ek:id _)
   clear ek
   rw [j6q]
   walk_at"rd*"
   rw [show a2l x ⟨#[32]⟩=kd :: rest from ek']
   refine⟨by omega,by rw [List.length_cons]; omega,fun l1 H1 n1 S1 h1=>?_⟩
   exact min' _ _ ⟨l1,rfl,S1,h1⟩
  intro σ' H1 hm
  obtain⟨l1,rfl,S1,h1⟩:=mout _ _ hm
  clear hm min' mout ek
  obtain⟨Mid,min',mout⟩:=g7n (fun σ' H'=>σ' = [some (.ref o),some (.str x),some (.ref l1),some (.int (rest.length:Int))]/\H'=H1)
  refine⟨Mid,?_,?_⟩
  ·walk_at"rd*"
   refine min' _ _ ⟨?_,rfl⟩
   rw [show ((rest.length+1:Nat):Int) - 1=(rest.length:Int) by omega]
  intro σ' H' hm
  obtain⟨rfl,rfl⟩:=mout _ _ hm
  clear hm min' mout
  have hP1:=hP.same S1
  obtain⟨dx,t0,b0,sd0,ou0,ho,F⟩:=id hP1
  unfold ptF at ho
  have q1:c=0->∀ H2,b7l N H' H2->d2y A H2 (fun a=>N a\/H' a=none) o g->Q .non H2:=fun z H2 S2 h2=>q0 z H2 ((b7l.of S1).trans S2) (h2.mono fun a ha _=>ha.elim .inl fun n=>.inr (S1.free n))
  have qx1:c≠0->c≠6->∀ H2,Same H' H2->E (.ref (exT A c)) none H2:=fun z1 z2 H2 S2=>qx z1 z2 H2 (S1.trans S2)
  clear q0 qx
  have cnd:∀ {s:Str} {n:Int},((decide (kd=s) && decide ((rest.length:Int)=n))=true->kd=s/\(rest.length:Int)=n)/\((decide (kd=s) && decide ((rest.length:Int)=n))=false->¬ (kd=s/\(rest.length:Int)=n)):=fun {s n}=>⟨fun h=>by rw [Bool.and_eq_true,decide_eq_true_eq,decide_eq_true_eq] at h; exact h,fun h z=>by rw [decide_eq_true z.1,decide_eq_true z.2] at h; cases h⟩
  have ne0:∀ {n:Nat},c=n+1->c≠0:=fun e z=>by omega
  refine ifB (decide (kd=Str.ofString "track") && decide ((rest.length:Int)=1)) (fun Qb h=>by walk_at"rd*"; exact j5c h) (fun hk=>?_) fun hk=>?_
  ·obtain⟨k1,k2⟩:=cnd.1 hk
   obtain⟨a,rfl⟩:=List.length_eq_one_iff.mp (show rest.length=1 by omega)
   replace h1:H' l1=some (.lst [.str kd,.str a]):=h1
   walk_at"rd*"
   rcases tw.inv2 rfl (.inl k1) with ⟨e0,hn,a1,a2,hg⟩ | ⟨e0,hn⟩ | ⟨e0,hn,ha⟩
   ·refine .inl ⟨N,p,hP1,hn,a1,a2,by have:=hB.1; omega,fun H2 S2 h2=>q1 e0 H2 S2 ?_⟩
    rcases hg with ⟨_,rfl⟩ | ⟨z,_⟩
    ·exact h2.mono fun a ha _=>.inl ha
    ·exact absurd (k1.symm.trans z) k0k
   ·subst e0
    exact .inr ⟨N,p,hP1,0,.inl ⟨rfl,.inr ⟨a,rfl,Nat.le_trans (pl a (by simp)) (by decide),hn⟩⟩,qx1 (by decide) (by decide)⟩
   ·subst e0
    exact .inr ⟨N,p,hP1,1,.inr ⟨rfl,a,rfl,hn,ha⟩,qx1 (by decide) (by decide)⟩
  refine ifB (decide (kd=Str.ofString "bus") && decide ((rest.length:Int)=1)) (fun Qb h=>by walk_at"rd*"; exact j5c h) (fun hk2=>?_) fun hk2=>?_
  ·obtain⟨k1,k2⟩:=cnd.1 hk2
   obtain⟨a,rfl⟩:=List.length_eq_one_iff.mp (show rest.length=1 by omega)
   replace h1:H' l1=some (.lst [.str kd,.str a]):=h1
   walk_at"rd*"
   rcases tw.inv2 rfl (.inr k1) with ⟨e0,hn,a1,a2,hg⟩ | ⟨e0,hn⟩ | ⟨e0,hn,ha⟩
   ·refine .inl ⟨N,p,hP1,hn,a1,a2,by have:=hB.2.1; omega,fun H2 S2 h2=>q1 e0 H2 S2 ?_⟩
    rcases hg with ⟨z,_⟩ | ⟨_,rfl⟩
    ·exact absurd (z.symm.trans k1) k0k
    ·exact h2.mono fun a ha _=>.inl ha
   ·subst e0
    exact .inr ⟨N,p,hP1,0,.inl ⟨rfl,.inr ⟨a,rfl,Nat.le_trans (pl a (by simp)) (by decide),hn⟩⟩,qx1 (by decide) (by decide)⟩
   ·subst e0
    exact .inr ⟨N,p,hP1,1,.inr ⟨rfl,a,rfl,hn,ha⟩,qx1 (by decide) (by decide)⟩
  refine ifB (decide (kd=Str.ofString "send") && decide (2<=(rest.length:Int))) (fun Qb h=>by walk_at"rd*"; exact j5c h) (fun hk3=>?_) fun hk3=>?_
  ·rw [Bool.and_eq_true,decide_eq_true_eq,decide_eq_true_eq] at hk3
   obtain⟨a,y,r,rfl⟩:∃ a y r,rest=a :: y :: r:=by
    cases rest with
    | nil=>simp at hk3
    | cons a r =>
     cases r with
     | nil=>simp at hk3
     | cons y r=>exact⟨a,y,r,rfl⟩
   replace h1:H' l1=some (.lst (.str kd :: .str a :: .str y :: r.map V.str)):=h1
   walk_at"rd*"
   refine fun l2 H2 n2 S2 h2=>?_
   rw [show g4e (V.str (Str.ofString "send") :: V.str a :: V.str y :: r.map V.str) (some 3) none=r.map V.str from (c1m _ 3)] at h2
   have hP2:=hP1.same S2
   rcases tw.send rfl hk3.1 with ⟨e0,ha,hy,r8,rk,nr,eg⟩ | ⟨e0,hz⟩ | ⟨e0,ha,hy,hz⟩ | ⟨e0,ha,hy,r8,rk,rc⟩
   ·obtain⟨ds,ed,od⟩:=h1z rk
    subst ed
    refine .inl ⟨N,p,ds,hP2,by rw [h2,List.map_map]; rfl,by rw [List.length_map] at r8; exact r8,od,ha,hy,by have:=hB.2.2.1; omega,hB.2.2.2.2.1 y hy,hB.2.2.2.2.2,fun _ H3 S3 h3=>q1 e0 H3 ((b7l.of S2).trans S3) ?_,fun rr d l3 H3 iw=>absurd iw.rch nr⟩
    rw [eg]
    exact h3.mono fun a ha _=>ha.elim .inl fun n=>.inr (S2.free n)
   ·subst e0
    refine .inr ⟨N,p,2,hP2,?_,fun H3 S3=>qx1 (by decide) (by decide) H3 (S2.trans S3)⟩
    by_cases ha:a∈p.ts\/a∈p.bs
    ·exact .inr (.inl ⟨rfl,a,rfl,ha,h8m.str (hz.resolve_left (not_not_intro ha))⟩)
    ·exact .inl ⟨rfl,h8m.str fun z=>ha (.inl z),h8m.str fun z=>ha (.inr z)⟩
   ·subst e0
    refine .inr ⟨N,p,3,hP2,.inr (.inr ⟨rfl,a,y,rfl,ha,rfl,hy,.inr ⟨l2,_,rfl,h2,by rw [List.length_map]; simp at sl; omega,?_⟩⟩),fun H3 S3=>qx1 (by decide) (by decide) H3 (S2.trans S3)⟩
    rw [List.length_map]
    by_cases h8:8 < r.length
    ·exact .inl h8
    ·obtain⟨r1,u,r2,er,hr1,hu1⟩:=g7f (hz.resolve_left h8)
     obtain⟨ds,ed,od⟩:=h1z hr1
     refine .inr ⟨by omega,ds,.str u,r2.map V.str,od,(lk (congrArg some hk3.1) u (by show u∈r; rw [er]; simp)).resolve_left hu1,?_⟩
     rw [er,ed,List.map_append,List.map_map]
     rfl
   ·obtain⟨ds,ed,od⟩:=h1z rk
    subst ed
    refine .inl ⟨N,p,ds,hP2,by rw [h2,List.map_map]; rfl,by rw [List.length_map] at r8; exact r8,od,ha,hy,by have:=hB.2.2.1; omega,hB.2.2.2.2.1 y hy,hB.2.2.2.2.2,fun nr=>absurd rc nr,fun rr d l3 H3 iw rl nd nl S3 hd hl3=>?_⟩
    exact qr e0 a y rr d l3 H3 rfl rfl iw rl ((S1.trans S2).free nd) ((S1.trans S2).free nl) (S1.trans (S2.trans S3)) hd hl3
  refine ifB (decide (kd=Str.ofString "out") && decide ((rest.length:Int)=2)) (fun Qb h=>by walk_at"rd*"; exact j5c h) (fun hk4=>?_) fun hk4=>?_
  ·obtain⟨k1,k2⟩:=cnd.1 hk4
   obtain⟨y,z,rfl⟩:∃ y z,rest = [y,z]:=by
    match rest,k2 with
    | [y,z],_=>exact⟨y,z,rfl⟩
   replace h1:H' l1=some (.lst [.str kd,.str y,.str z]):=h1
   walk_at"rd*"
   have nz:∀ {S:List (Str×Int)},y∉S.map (·.1)->∀ x∈S,¬ x.1=y:=fun h x hx e=>h (List.mem_map.mpr ⟨x,hx,e⟩)
   refine⟨Nat.le_trans (pl z (by simp)) (by decide),?_⟩
   rcases tw.outw rfl k1 with ⟨e0,hy,ny,n,en,n1,n2,eg⟩ | ⟨e0,hy⟩ | ⟨e0,hy,h2⟩ | ⟨e0,hy,ny,ng⟩
   ·rw [en]
    refine .inl ⟨N,p,hP1,hy,nz ny,by omega,by omega,by have:=hB.2.2.2.1; omega,fun H2 S2 h2=>q1 e0 H2 S2 ?_⟩
    rw [eg]
    exact h2.mono fun a ha _=>.inl ha
   ·subst e0
    exact .inr ⟨N,p,hP1,by have:=hB.2.2.2.1; omega,2,.inl ⟨rfl,h8m.str hy⟩,qx1 (by decide) (by decide)⟩
   ·subst e0
    exact .inr ⟨N,p,hP1,by have:=hB.2.2.2.1; omega,1,.inr (.inl ⟨rfl,y,rfl,hy,h2⟩),qx1 (by decide) (by decide)⟩
   ·subst e0
    refine .inr ⟨N,p,hP1,by have:=hB.2.2.2.1; omega,4,.inr (.inr ⟨rfl,y,rfl,hy,ny,?_⟩),qx1 (by decide) (by decide)⟩
    rcases h8z z with e | ⟨n,e⟩
    ·rw [e]
     exact⟨_,rfl,.inl (by decide)⟩
    ·rw [e]
     refine⟨_,rfl,.inr ⟨n,rfl,?_⟩⟩
     by_cases h1:1<=n
     ·by_cases h2:n<=1000000000000
      ·exact absurd ⟨n,e,h1,h2⟩ ng
      ·exact .inr (by omega)
     ·exact .inl (by omega)
  have ec:c=1:=tw.none (fun z=>(cnd.2 hk) ⟨z.1,by omega⟩) (fun z=>(cnd.2 hk2) ⟨z.1,by omega⟩) (fun z=>by rw [decide_eq_true z.1,decide_eq_true (by omega:2<=(rest.length:Int))] at hk3; cases hk3) fun z=>(cnd.2 hk4) ⟨z.1,by omega⟩
  walk_at"rd"
  subst ec
  exact⟨b4y,qx1 (by decide) (by decide) H' (Same.refl _)⟩
theorem g3y{x:Str}(h:a5q x):PyData.strOk x=true:=by
 unfold PyData.strOk
 rw [<- Array.all_toList,List.all_eq_true]
 intro c hc
 have:=h.2.2 c hc
 rw [decide_eq_true_eq]
 omega
theorem Tw.step{p g:Pd}{ws:List Str}{n:Nat}(h:Tw p ws 0 g)(hp:PdN p n):PdN g (n+1):=by
 obtain⟨h1,h2,h3,h4,h5,h6⟩:=hp
 generalize hc:(0:Nat)=c at h
 cases h with
 | tr a1=>exact⟨by simp; omega,by show p.bs.length<=_; omega,by show p.es.length<=_; omega,by show p.os.length<=_; omega,h5,h6⟩
 | bs a1 =>
  refine⟨by show p.ts.length<=_; omega,by simp; omega,by show p.es.length<=_; omega,by show p.os.length<=_; omega,fun z hz=>?_,h6⟩
  rcases List.mem_append.mp hz with z1 | z1
  ·exact h5 z z1
  ·rw [List.mem_singleton.mp z1]
   exact g3y a1
 | sd a1 a2 =>
  refine⟨by show p.ts.length<=_; omega,by show p.bs.length<=_; omega,by simp; omega,by show p.os.length<=_; omega,h5,fun e he=>?_⟩
  rcases List.mem_append.mp he with z1 | z1
  ·exact h6 e z1
  ·rw [List.mem_singleton.mp z1]
   exact h5 _ a2
 | ou a1=>exact⟨by show p.ts.length<=_; omega,by show p.bs.length<=_; omega,by show p.es.length<=_; omega,by simp; omega,h5,h6⟩
 | _=>cases hc
theorem j6r:Str.ofString "\n" = ⟨#[10]⟩:=by decide +kernel
theorem h0f(T:Tx K mg A):a2m P A.wd K mg base (CXE P A.wd) 14 A.b9n A.b9o ["text"] (j4i A):=by
 have g7h:a2m P A.wd K mg base CX0 1 _ _ _ _:=k0i T
 have h0g:a2m P A.wd K mg base (CXE P A.wd) 13 _ _ _ _:=i2k T
 have a1i:=T.a1i
 have a0j:=T.a0j
 have a0m:=T.a0m
 have a0l:=T.a0l
 have a0n:=T.a0n
 refine T.c0l.okX d6q (fun _ _ _ _ h=>i9q h) (fun _ _ _ _ H vs Q E hr h=>?_)
 ·obtain⟨v,rfl,hv⟩:=i7f h
  have hv:(∃ ty,g4v H v=some ty/\ty≠.str/\∀ H1,Same H H1->E (.ref A.a1k) none H1)\/∃ (x:Str) (c:Nat) (g:Pd) (ws:List Str),v = .str x/\x≠Str.ofString ""/\x.length<=9000/\(a2l x ⟨#[10]⟩).length<=80/\(∀ z∈a2l x ⟨#[10]⟩,z.length<=98/\i9t (a2l z ⟨#[32]⟩))/\Rn ⟨[],[],[],[]⟩ (a2l x ⟨#[10]⟩) c g ws /\
   (c=0->∀ o H1,Same H H1->d2y A H1 (fun a=>H a=none) o g->Q (.ref o) H1)/\(c≠0->c≠6->∀ H1,Same H H1->E (.ref (exT A c)) none H1) /\
   (c=6->∀ a y r d l2 H1,ws[1]? = some a->ws[2]? = some y->d2t (prs g.es) y a r->r.length<=101->H d=none->H l2=none->Same H H1->H1 d=some (.xd [(Str.ofString "ring",.ref l2)])->H1 l2=some (.lst (r.map V.str))->E (.ref A.a1y) (some d) H1):=hv
  have hu:=hr.units
  have hs:=szl
  have b4y:1<=sizeLine:=by decide
  refine⟨_,(a0k (a3s (b0z (a3z (a1h (b2q .str) (by rfl) T.a1z boot_isinstance (a0g (pvF 0) (a0g (b5g (v:=.ty "str") (u:=.type "str") (by rfl) T.g9u rfl rfl) a0h)))))
   (a0i (a8i T.h8d T.g3e a8h rfl (by rfl) (a0g a0o a0h)))
   a0y)
   (a0k (a2k (i:=1) d6q.nd rfl (Or.inl rfl) (h6o T.g9e g7h (hr.mono (by decide)) (by rfl) T.i1j T.g6i .nil a6o))
   (a0k (a3s (a0t (b0m hu) (pvF 0) a0o (a2j _))
   (a0i (a1o (pvF 1)))
   a0y)
   (a0k (b5i PassesOwn.leaving rfl (a5s (a7q a9j PySem.F.plainAttrs_str PySem.F.slot_str_split PySem.F.type_str_split d1i (pvF 0) (a0g a0o a0h))) (a5n (i:=2) d6q.nd rfl (Or.inl rfl))
   (a0i (a5t (a2g h0g (hr.mono (by decide)) (by rfl) T.g9p T.c5t.kp T.g9o .nil b2v (a0g (pvF 1) (a0g (pvF 2) a0h))))))
   (a0i (a1o (pvF 1))))))),?_⟩
  rcases hv with ⟨ty,ht,nt,q⟩ | ⟨x,c,g,ws,rfl,xne,xl,sl,lk,rn,q0,qx,qr⟩
  ·have q1:=q H (Same.refl _)
   clear q
   walk_at"rd*"
  have q0':=(id q0:id _)
  clear q0
  walk_at"rd*"
  intro o dx H1 n1 n1' nx S1 hdx ho
  refine⟨dx,ho,fun H2 B2 hP=>?_⟩
  rw [asNew]
  refine⟨rfl,?_⟩
  have S02:Same H H2:=fun z u e=>B2 _ _ (fun ze=>by rw [ze] at e; rw [e] at n1; cases n1) (S1 _ _ e)
  have P2:d2y A H2 (fun a=>H a=none) o ⟨[],[],[],[]⟩:=hP.mono fun z hz _=>S1.free hz
  clear hP ho hdx B2
  have d1:((⟨#[10]⟩:Str).length == 0)=false:=rfl
  have qx':=(id qx:id _)
  have qr':=(id qr:id _)
  have lk':=(id lk:id _)
  have rn':=(id rn:id _)
  clear qx qr lk rn
  walk_at"rd"
  rw [if_neg xne,j6r]
  clear xne
  walk_at"rd*"
  refine⟨by omega,by omega,fun l1 H3 n3 S3 h3=>?_⟩
  try walk_at"rd"
  refine⟨⟨_,SqL.of h3⟩,?_⟩
  have P3:d2y A H3 (fun a=>H a=none/\a≠l1) o ⟨[],[],[],[]⟩:=(P2.mono fun z hz e=>⟨hz,fun k=>e (by rw [k]; exact n3)⟩).same S3
  have rn:Rn ⟨[],[],[],[]⟩ (a2l x ⟨#[10]⟩) c g ws:=rn'
  have lk:∀ z∈a2l x ⟨#[10]⟩,z.length<=98/\i9t (a2l z ⟨#[32]⟩):=lk'
  clear rn' lk'
  generalize a2l x ⟨#[10]⟩=ls at rn lk sl h3
  obtain⟨Pv,pin,pout⟩:=f4m (fun i σ H'=>∃ (v2:Option V) (p:Pd),σ = [some (.str x),some (.ref o),v2]/\Same H H'/\H' l1=some (.lst (ls.map V.str))/\d2y A H' (fun a=>H a=none/\a≠l1) o p/\Rn p (ls.drop i) c g ws/\PdN p i)
  refine c1k (xs:=ls.map V.str) Pv (pin _ _ _ ⟨_,_,rfl,S02.trans S3,h3,P3,rn,Nat.le_refl _,Nat.le_refl _,Nat.le_refl _,Nat.le_refl _,(fun z hz=>by cases hz),fun z hz=>by cases hz⟩) ?_ ?_ ?_
  ·intro i σ H4 hi hp
   obtain⟨v2,p,rfl,_,h4,_⟩:=pout _ _ _ hp
   exact SqL.of h4
  ·intro i v σ H4 hv hp
   obtain⟨v2,p,rfl,S4,h4,P4,t4,N4⟩:=pout _ _ _ hp
   rw [List.getElem?_map] at hv
   obtain⟨l,hl,rfl⟩:=Option.map_eq_some_iff.mp hv
   obtain⟨hi,el⟩:=List.getElem?_eq_some_iff.mp hl
   rw [List.drop_eq_getElem_cons hi,el] at t4
   have ll:=lk l (List.mem_of_getElem? hl)
   have hB:PdB p:=⟨by have:=N4.1; omega,by have:=N4.2.1; omega,by have:=N4.2.2.1; omega,by have:=N4.2.2.2.1; omega,N4.2.2.2.2⟩
   walk_at"rd"
   have key:∃ (p1:Pd) (c1:Nat),Tw p (a2l l ⟨#[32]⟩) c1 p1/\(c1=0->Rn p1 (ls.drop (i+1)) c g ws)/\(c1≠0->c1=c/\g=p/\ws=a2l l ⟨#[32]⟩):=by
    cases t4 with
    | go h1 h2=>exact⟨_,0,h1,fun _=>h2,fun z=>absurd rfl z⟩
    | no h1 h2=>exact⟨_,_,h1,fun z=>absurd z h2,fun _=>⟨rfl,rfl,rfl⟩⟩
   obtain⟨p1,c1,tw,r0,r1⟩:=key
   have qx:c≠0->c≠6->∀ H1,Same H H1->E (.ref (exT A c)) none H1:=qx'
   have qr:c=6->∀ a y r d l2 H1,ws[1]? = some a->ws[2]? = some y->d2t (prs g.es) y a r->r.length<=101->H d=none->H l2=none->Same H H1->H1 d=some (.xd [(Str.ofString "ring",.ref l2)])->H1 l2=some (.lst (r.map V.str))->E (.ref A.a1y) (some d) H1:=qr'
   refine⟨_,p,P4,hB,ll.1,ll.2,p1,c1,tw,fun z H5 S5 P5=>?_,fun z1 z2 H5 S5=>?_,fun z a y r d l2 H5 a1 a2 iw rl nd nl S5 hd hl2=>?_⟩
   ·subst z
    have b5:=S5 l1 _ (fun n=>absurd rfl n.2) h4
    refine pin _ _ _ ⟨_,_,rfl,fun z u e=>S5 _ _ (fun n=>by have n:=n.1; rw [e] at n; cases n) (S4 _ _ e),b5,P5.mono fun z hz _=>?_,r0 rfl,tw.step N4⟩
    rcases hz with hz | hz
    ·exact hz
    ·exact⟨S4.free hz,fun k=>by rw [k,h4] at hz; cases hz⟩
   ·obtain⟨rfl,_,_⟩:=r1 z1
    exact qx z1 z2 H5 (S4.trans S5)
   ·obtain⟨e1,rfl,rfl⟩:=r1 (by rw [z]; decide)
    exact qr (e1▸z) a y r d l2 H5 a1 a2 iw rl (S4.free nd) (S4.free nl) (S4.trans S5) hd hl2
  ·intro σ H4 hp
   obtain⟨v2,p,rfl,S4,h4,P4,t4,N4⟩:=pout _ _ _ hp
   rw [List.length_map,List.drop_length] at t4
   walk_at"rd"
   have q0:c=0->∀ o H1,Same H H1->d2y A H1 (fun a=>H a=none) o g->Q (.ref o) H1:=q0'
   cases t4
   exact q0 rfl o H4 S4 (P4.mono fun a ha _=>ha.1)
theorem h0h{x:Str}(h:a5q x){c:Nat}(hc:c < 97):c∉sg x:=fun m=>by
 have:=h.2.2 c m
 omega
theorem i8w{x:Str}(h:okW x):x.length<=10:=by
 rcases h with rfl | rfl <;> decide +kernel
theorem i8x{g:Int}(h1:1<=g)(h2:g<=1000000000000):(Str.ofString (toString g)).length<=42:=d6n (n:=41) (by omega) (by decide)
theorem PdF.t{p:Pd}(h:PdF p):∀ x∈p.ts,a5q x:=fun x hx=>h.fm (.tr x) (List.mem_append_left _ (List.mem_map_of_mem hx))
theorem PdF.b{p:Pd}(h:PdF p):∀ x∈p.bs,a5q x:=fun x hx=>h.fm (.bu x) (List.mem_append_right _ (List.mem_append_left _ (List.mem_map_of_mem hx)))
theorem PdF.s{p:Pd}(h:PdF p):∀ e∈p.es,(Ln.se e).fm:=fun e he=>h.fm (.se e) (List.mem_append_right _ (List.mem_append_right _ (List.mem_append_left _ (List.mem_map_of_mem he))))
theorem PdF.o{p:Pd}(h:PdF p):∀ x∈p.os,(Ln.ou x).fm:=fun x hx=>h.fm (.ou x) (List.mem_append_right _ (List.mem_append_right _ (List.mem_append_right _ (List.mem_map_of_mem hx))))
theorem PdF.mk'{p:Pd}(l1:p.ts.length<=90)(l2:p.bs.length<=90)(l3:p.es.length<=90)(l4:p.os.length<=90)(h1:∀ x∈p.ts,a5q x)(h2:∀ x∈p.bs,a5q x)(h3:∀ e∈p.es,(Ln.se e).fm)(h4:∀ x∈p.os,(Ln.ou x).fm):PdF p:=⟨l1,l2,l3,l4,fun l hl=>by
 rcases List.mem_append.mp hl with m | m
 ·obtain⟨x,hx,rfl⟩:=List.mem_map.mp m
  exact h1 x hx
 ·rcases List.mem_append.mp m with m | m
  ·obtain⟨x,hx,rfl⟩:=List.mem_map.mp m
   exact h2 x hx
  ·rcases List.mem_append.mp m with m | m
   ·obtain⟨x,hx,rfl⟩:=List.mem_map.mp m
    exact h3 x hx
   ·obtain⟨x,hx,rfl⟩:=List.mem_map.mp m
    exact h4 x hx⟩
theorem j9s.len{ws:List Str}(h:j9s ws):(∀ z∈ws,z.length<=4000)/\ws.length<=8:=⟨fun z hz=>Nat.le_trans (i8w (h.2 z hz)) (by decide),h.1⟩
theorem Ln.lens{l:Ln}(h:l.fm):(∀ z∈l.ws,z.length<=4000)/\l.ws.length<=11:=by
 have k1:(Str.ofString "track").length=5:=by decide +kernel
 have k2:(Str.ofString "bus").length=3:=by decide +kernel
 have k3:(Str.ofString "send").length=4:=by decide +kernel
 have k4:(Str.ofString "out").length=3:=by decide +kernel
 have nm:∀ {x:Str},a5q x->x.length<=4000:=fun h=>Nat.le_trans h.1 (by decide)
 cases l <;> refine⟨fun z hz=>?_,?_⟩
 case tr.refine_1 => simp only [Ln.ws, List.mem_cons, List.not_mem_nil, or_false] at hz; rcases hz with rfl|rfl; omega; exact nm h
 case tr.refine_2 => show 2 <= 11; decide
 case bu.refine_1 => simp only [Ln.ws, List.mem_cons, List.not_mem_nil, or_false] at hz; rcases hz with rfl|rfl; omega; exact nm h
 case bu.refine_2 => show 2 <= 11; decide
 case se.refine_1 => simp only [Ln.ws, List.mem_cons, List.not_mem_nil, or_false] at hz; rcases hz with rfl|rfl|rfl|hz; omega; exact nm h.2.1; exact nm h.2.2; exact h.1.len.1 z hz
 case se.refine_2 e => show e.2.2.length + 3 <= 11; have := h.1.len.2; omega
 case ou.refine_1 => simp only [Ln.ws, List.mem_cons, List.not_mem_nil, or_false] at hz; rcases hz with rfl|rfl|rfl; omega; exact nm h.1; have := i8x h.2.1 h.2.2; omega
 case ou.refine_2 => show 3 <= 11; decide
theorem Ln.len{l:Ln}(h:l.fm):l.line.length<=45000:=by
 have a:=f3q (z:=⟨#[32]⟩) (Ln.lens h).1
 have b:=(Ln.lens h).2
 rw [b8s] at a
 unfold Ln.line
 omega
theorem i8y:sg (Str.ofString "track ")=sg (Str.ofString "track")++[32]:=by decide +kernel
theorem k0l:sg (Str.ofString "bus ")=sg (Str.ofString "bus")++[32]:=by decide +kernel
theorem k0m:sg (Str.ofString "out ")=sg (Str.ofString "out")++[32]:=by decide +kernel
theorem s_sp:sg (Str.ofString " ") = [32]:=by decide +kernel
theorem k2k(x:Str):Str.ofString "track "++x=(Ln.tr x).line:=b2t (by
 simp only [Ln.line,Ln.ws,a5u,b1j,g8j,i8y,List.append_assoc,List.singleton_append])
theorem k2l(x:Str):Str.ofString "bus "++x=(Ln.bu x).line:=b2t (by
 simp only [Ln.line,Ln.ws,a5u,b1j,g8j,k0l,List.append_assoc,List.singleton_append])
theorem k2m(x:Str×Int):Str.ofString "out "++x.1++Str.ofString " "++Str.ofString (toString x.2)=(Ln.ou x).line:=b2t (by
 simp only [Ln.line,Ln.ws,a5u,b1j,g8j,k0m,s_sp,List.append_assoc,List.singleton_append,List.cons_append,List.nil_append])
theorem i8z(x:Str):Str.empty++x=x:=b2t (by rw [a5u,i6o,List.nil_append])
theorem i2l(T:Tx K mg A):a2m P A.wd K mg base CX0 1 A.b5q A.b6u ["send"] i8a:=by
 refine T.c5s.ok g5y (fun _ _ _ _ h=>f3t h) (fun _ _ _ _ H vs Q E hr h=>?_)
 ·obtain⟨o,rfl,⟨e,lw,ho,hl,fm,q⟩⟩:=f2t h
  have hu:=hr.units
  have hs:=szl
  have l8:=fm.1.len.2
  refine⟨_,(a0i (a1o (a7q a9j PySem.F.plainAttrs_str PySem.F.slot_str_join PySem.F.type_str_join d8k a0o (a0g (a1m a0s (a3v (a0g a0o (a0g (a2h a8m (pvF 0) a0p (fun _ _=>rfl)) (a0g (a2h a8m (pvF 0) a0p (fun _ _=>rfl)) a0h)))) (a2h a8m (pvF 0) a0p (fun _ _=>rfl))) a0h)))),?_⟩
  rw [j6q]
  walk_at"rd*"
  intro l1 H1 n1 S1 h1
  have hl1:=S1 _ _ hl
  have ho1:=S1 _ _ ho
  clear hl ho
  walk_at"rd*"
  refine⟨by omega,fun l2 H2 n2 S2 h2=>?_⟩
  clear hl1 h1
  have jo:JoinOk ⟨#[32]⟩ (Ln.se e).ws=true:=joinOk_of (n:=4000) (Ln.lens fm).1 (by have:=(Ln.lens fm).2; rw [b8s]; omega)
  walk_at"rd*"
  refine⟨(Ln.se e).ws,rfl,jo,?_⟩
  rw [h6x]
  exact q H2 (S1.trans S2)
theorem i2m(T:Tx K mg A):a2m P A.wd K mg base CX0 1 A.b9l A.b9m ["out"] i8b:=by
 refine T.d0s.ok d6p (fun _ _ _ _ h=>f3t h) (fun _ _ _ _ H vs Q E hr h=>?_)
 ·obtain⟨o,rfl,⟨x,ho,fm,q⟩⟩:=f2t h
  have hu:=hr.units
  have hs:=szl
  have a:=i8x fm.2.1 fm.2.2
  have b:=fm.1.1
  have g0:=g5k (t:=x.2) (n:=41) (by have:=fm.2.1; have:=fm.2.2; omega) (by decide)
  have e0:Str.empty.length=0:=rfl
  have e1:(Str.ofString "out ").length=4:=by decide +kernel
  have e2:(Str.ofString " ").length=1:=by decide +kernel
  have w:=k2m x
  refine⟨_,(a0k (a2k (i:=1) d6p.nd rfl (Or.inl rfl) (a2h a8m (pvF 0) a0p (fun _ _=>rfl)))
   (a0k (a2k (i:=2) d6p.nd rfl (Or.inl rfl) (a2h a8m (pvF 0) a0p (fun _ _=>rfl)))
   (a0i (a1o (c4q (b2l a0o (b2l (d5r (pvF 1)) (b2l a0o (b2l (d5r (pvF 2)) f4q))))))))),?_⟩
  walk_at"rd*"
  simp only [strLen_append,e0,e1,e2]
  refine⟨by omega,by omega,by omega,by omega,by omega,by omega,?_⟩
  rw [i8z,w]
  exact q
theorem j5d(T:Tx K mg A):a2m P A.wd K mg base CX0 2 A.c4z A.c4k ["patch"] (j9t A):=by
 have f9y:a2m P A.wd K mg base CX0 1 _ _ _ _:=h8v T
 have g3z:a2m P A.wd K mg base CX0 1 _ _ _ _:=i2d T
 have g4a:a2m P A.wd K mg base CX0 1 _ _ _ _:=i2e T
 have g7i:a2m P A.wd K mg base CX0 1 _ _ _ _:=i8m T
 have h0i:a2m P A.wd K mg base CX0 1 _ _ _ _:=i2l T
 have h4q:a2m P A.wd K mg base CX0 1 _ _ _ _:=i2m T
 have a1i:=T.a1i
 have a0j:=T.a0j
 have a0m:=T.a0m
 have a0l:=T.a0l
 have a0n:=T.a0n
 refine T.d4g.ok d0n (fun _ _ _ _ h=>f3t h) (fun _ _ _ _ H vs Q E hr h=>?_)
 ·obtain⟨o,rfl,⟨N,p,hP,hF,q⟩⟩:=f2t h
  have hu:=hr.units
  have hs:=szl
  obtain⟨dx,t0,b0,sd0,ou0,ho,F⟩:=id hP
  unfold ptF at ho
  have e0:Str.empty.length=0:=rfl
  have e1:(Str.ofString "track ").length=6:=by decide +kernel
  have e2:(Str.ofString "bus ").length=4:=by decide +kernel
  have lt:=hF.lt
  have lb:=hF.lb
  have le:=hF.le
  have lo:=hF.lo
  refine⟨_,(a0k (i6c (i:=1) d0n.nd rfl rfl (a5s (b7j (pvF 0) T.a1i T.c5m f9y (hr.mono (by decide)) T.f8v .nil a6o)) (fun _ _ _ _ _=>(c4q (b2l a0o (b2l (d5r (pvF 0)) f4q)))) (d1h (sc:=a0r d0m) (N:=["patch","lines"]) rfl rfl (by decide +kernel)) rfl)
   (a4g (a2k (i:=1) d0n.nd rfl (Or.inl rfl) (a1m a0s (pvF 1) (b2u (a5s (b7j (pvF 0) T.a1i T.c8u g3z (hr.mono (by decide)) T.g2w .nil a6o)) (fun _ _ _ _ _=>(c4q (b2l a0o (b2l (d5r (pvF 0)) f4q)))) (d1h (sc:=a0r d0m) (N:=["patch","lines"]) rfl rfl (by decide +kernel)) rfl)))
   (a4g (a2k (i:=1) d0n.nd rfl (Or.inl rfl) (a1m a0s (pvF 1) (b2u (a5s (b7j (pvF 0) T.a1i T.c8v g4a (hr.mono (by decide)) T.g2x .nil a6o)) (fun _ _ _ _ _=>by exact (a2g h0i (hr.mono (by decide)) (by rfl) T.g9n T.c5s.kp T.g9m .nil a6o (a0g (pvF 0) a0h))) (d1h (sc:=a0r d0m) (N:=["patch","lines"]) rfl rfl (by decide +kernel)) rfl)))
   (a4g (a2k (i:=1) d0n.nd rfl (Or.inl rfl) (a1m a0s (pvF 1) (b2u (a5s (b7j (pvF 0) T.a1i T.d1w g7i (hr.mono (by decide)) T.g6k .nil a6o)) (fun _ _ _ _ _=>by exact (a2g h4q (hr.mono (by decide)) (by rfl) T.h3q T.d0s.kp T.h3p .nil a6o (a0g (pvF 0) a0h))) (d1h (sc:=a0r d0m) (N:=["patch","lines"]) rfl rfl (by decide +kernel)) rfl)))
   (a0i (a1o (a7q a9j PySem.F.plainAttrs_str PySem.F.slot_str_join PySem.F.type_str_join d8k a0o (a0g (pvF 1) a0h)))))))),?_⟩
  walk_at"rd*"
  refine⟨N,p,hP,by omega,?_⟩
  rintro _ H1 ⟨l1,rfl,n1,S1,h1⟩
  try walk_at"rd*"
  refine⟨⟨_,SqL.of h1⟩,fun D H2 n2 S2 h2=>?_⟩
  refine c3l (p.ts.map fun x=>V.str (Ln.tr x).line) (by rw [List.length_map,List.length_map]) n2 S2 h2 (SqL.of h1) (by rw [List.length_map]; omega) ?_ ?_
  ·intro i v z H' Q' hx hz S' q'
   rw [List.getElem?_map] at hx hz
   obtain⟨x,hi,rfl⟩:=Option.map_eq_some_iff.mp hx
   rw [hi] at hz
   cases hz
   have nl:=(hF.t x (List.mem_of_getElem? hi)).1
   clear hx
   walk_at"rd*"
   simp only [strLen_append,e0,e1]
   refine⟨by omega,by omega,by omega,?_⟩
   rw [i8z,k2k]
   exact q'
  intro H3 S3 h3
  have S03:=S1.trans S3
  have n0:=S1.free n2
  clear h1 h2
  obtain⟨Mid1,in1,out1⟩:=g7n (fun σ' H'=>∃ (l:Addr),σ' = [some (.ref o),some (.ref l)]/\Same H H'/\H' l=some (.lst ((p.ts.map fun x=>V.str (Ln.tr x).line)++p.bs.map fun x=>V.str (Ln.bu x).line)))
  walk_at"rd"
  refine⟨Mid1,?_,?_⟩
  ·have ho3:=S03 _ _ ho
   clear ho
   walk_at"rd*"
   refine⟨N,p,hP.same S03,by omega,?_⟩
   rintro _ H4 ⟨l4,rfl,n4,S4,h4⟩
   try walk_at"rd*"
   refine⟨⟨_,SqL.of h4⟩,fun D5 H5 n5 S5 h5=>?_⟩
   refine c3l (p.bs.map fun x=>V.str (Ln.bu x).line) (by rw [List.length_map,List.length_map]) n5 S5 h5 (SqL.of h4) (by rw [List.length_map]; omega) ?_ ?_
   ·intro i v z H' Q' hx hz S' q'
    rw [List.getElem?_map] at hx hz
    obtain⟨x,hi,rfl⟩:=Option.map_eq_some_iff.mp hx
    rw [hi] at hz
    cases hz
    have nl:=(hF.b x (List.mem_of_getElem? hi)).1
    clear hx
    walk_at"rd*"
    simp only [strLen_append,e0,e2]
    refine⟨by omega,by omega,by omega,?_⟩
    rw [i8z,k2l]
    exact q'
   intro H6 S6 h6
   have h36:=S6 _ _ (S4 _ _ h3)
   clear h3 h4 h5 ho3
   walk_at"rd*"
   refine⟨by omega,fun l7 H7 n7 S7 h7=>?_⟩
   try walk_at"rd"
   exact in1 _ _ ⟨l7,rfl,S03.trans (S4.trans (S6.trans S7)),h7⟩
  intro σ1 H7 hm1
  obtain⟨l7,rfl,S7,h7⟩:=out1 _ _ hm1
  clear hm1 in1 out1 h3
  obtain⟨Mid2,in2,out2⟩:=g7n (fun σ' H'=>∃ (l:Addr),σ' = [some (.ref o),some (.ref l)]/\Same H H'/\H' l=some (.lst (((p.ts.map fun x=>V.str (Ln.tr x).line)++p.bs.map fun x=>V.str (Ln.bu x).line)++p.es.map fun e=>V.str (Ln.se e).line)))
  refine⟨Mid2,?_,?_⟩
  ·have ho7:=S7 _ _ ho
   clear ho
   walk_at"rd*"
   refine⟨N,p,hP.same S7,by omega,fun e he=>Nat.le_trans (hF.s e he).1.len.2 (by decide),fun l8 us H8 n8 S8 h8 R8=>?_⟩
   have ul:=R8.h2z
   try walk_at"rd*"
   refine⟨⟨_,SqL.of h8⟩,fun D9 H9 n9 S9 h9=>?_⟩
   refine g6z (p.es.map fun e=>V.str (Ln.se e).line) (by rw [List.length_map,ul]) n9 S9 h9 (SqL.of h8) (by omega) ?_ ?_
   ·intro i v z H' Q' hx hz S' q'
    obtain⟨e,pe,lw,he,rfl,hpe,_,hlw⟩:=R8.at3 hx
    rw [List.getElem?_map,he] at hz
    cases hz
    walk_at"rd"
    exact⟨e,lw,S' _ _ hpe,S' _ _ hlw,hF.s e (List.mem_of_getElem? he),fun H2 S2=>q' H2 S2⟩
   intro H10 S10 h10
   have h710:=S10 _ _ (S8 _ _ h7)
   clear h7 h8 h9 ho7
   walk_at"rd*"
   refine⟨by omega,fun l11 H11 n11 S11 h11=>?_⟩
   try walk_at"rd"
   exact in2 _ _ ⟨l11,rfl,S7.trans (S8.trans (S10.trans S11)),h11⟩
  intro σ2 H11 hm2
  obtain⟨l11,rfl,S11,h11⟩:=out2 _ _ hm2
  clear hm2 in2 out2 h7 S7
  obtain⟨Mid3,in3,out3⟩:=g7n (fun σ' H'=>∃ (l:Addr),σ' = [some (.ref o),some (.ref l)]/\Same H H'/\H' l=some (.lst (((lns p).map Ln.line).map V.str)))
  refine⟨Mid3,?_,?_⟩
  ·have ho7:=S11 _ _ ho
   clear ho
   walk_at"rd*"
   refine⟨N,p,hP.same S11,by omega,fun l8 us H8 n8 S8 h8 R8=>?_⟩
   have ul:=R8.h2z
   try walk_at"rd*"
   refine⟨⟨_,SqL.of h8⟩,fun D9 H9 n9 S9 h9=>?_⟩
   refine c3l (p.os.map fun e=>V.str (Ln.ou e).line) (by rw [List.length_map,ul]) n9 S9 h9 (SqL.of h8) (by omega) ?_ ?_
   ·intro i v z H' Q' hx hz S' q'
    obtain⟨e,pe,he,rfl,hpe⟩:=R8.at2 hx
    rw [List.getElem?_map,he] at hz
    cases hz
    walk_at"rd"
    exact⟨e,S' _ _ hpe,hF.o e (List.mem_of_getElem? he),q'⟩
   intro H10 S10 h10
   have h710:=S10 _ _ (S8 _ _ h11)
   clear h11 h8 h9 ho7
   walk_at"rd*"
   refine⟨by omega,fun l12 H12 n12 S12 h12=>?_⟩
   try walk_at"rd"
   refine in3 _ _ ⟨l12,rfl,S11.trans (S8.trans (S10.trans S12)),?_⟩
   rw [h12]
   simp only [lns,List.map_append,List.map_map,List.append_assoc]
   rfl
  intro σ3 H12 hm3
  obtain⟨l12,rfl,S12,h12⟩:=out3 _ _ hm3
  clear hm3 in3 out3 h11 S11
  have ll:(lns p).length<=360:=by
   unfold lns
   simp only [List.length_append,List.length_map]
   omega
  have jo:JoinOk ⟨#[10]⟩ ((lns p).map Ln.line)=true:=joinOk_of (n:=45000) (fun y hy=>by obtain⟨l,hl,rfl⟩:=List.mem_map.mp hy; exact Ln.len (hF.fm l hl)) (by rw [List.length_map,b8s]; omega)
  rw [j6r]
  walk_at"rd*"
  refine⟨(lns p).map Ln.line,rfl,jo,?_⟩
  rw [h6x]
  exact q H12 S12
theorem j5e(T:Tx K mg A):a2m P A.wd K mg base CX0 1 A.b1o A.b1z ["_law_text_here"] j9u:=by
 refine T.b7t.ok d5z (fun _ _ _ _ h=>i1f h) (fun _ _ _ _ H vs Q E hr h=>?_)
 ·obtain⟨x,rfl,⟨xl,q⟩⟩:=h9e h
  have hu:=hr.units
  have hs:=szl
  have xl':x.length<=sizeLine:=by omega
  refine⟨_,(a0k (b5i PassesOwn.never rfl (g5d (pvF 0)) (a5n (i:=1) d5z.nd rfl (Or.inl rfl))
   (a0i (a3s (a0t b7i (pvF 1) a0o (by rfl))
   (a0i (a1o d6j))
   a0y)))
   (a0i (a1o (h9q of_le of_le a0p (a1h a3y (by rfl) T.c1h boot_len (a0g (pvF 0) a0h)) a0p)))),?_⟩
  walk_at"rd*"
  refine g1w (fun i σ H1=>H1=H/\(∃ z,σ = [some (.str x),z])/\((sg x).take i).all (fun c=>g7o "abcdefghijklmnopqrstuvwxyz" ⟨#[c]⟩)=true) ⟨rfl,⟨_,rfl⟩,rfl⟩ ?_ ?_
  ·rintro i c σ H1 hc ⟨rfl,⟨z,rfl⟩,ha⟩
   have hc':(sg x)[i]? = some c:=by
    unfold sg
    rw [Array.getElem?_toList]
    exact hc
   walk_at"rd"
   split
   ·rename_i hb
    rw [show nmB x=false from ?_] at q
    ·exact q
    unfold nmB
    rw [show x.cps.toList.all (fun c=>g7o "abcdefghijklmnopqrstuvwxyz" ⟨#[c]⟩)=false from List.all_eq_false.mpr ⟨c,List.mem_of_getElem? hc',by rw [hb]; decide⟩,Bool.and_false,Bool.and_false]
   ·rename_i hb
    refine⟨⟨_,rfl⟩,?_⟩
    rw [List.take_add_one,hc',List.all_append,ha]
    simpa using hb
  ·rintro σ H1 ⟨rfl,⟨z,rfl⟩,ha⟩
   have hl':x.cps.size=(sg x).length:=by simp
   rw [hl',List.take_length] at ha
   have l1:x.length=(sg x).length:=by rw [b0v]
   walk_at"rd"
   simp only [i2s]
   walk_at"rd*"
   refine⟨by omega,?_⟩
   have ha:x.cps.toList.all (fun c=>g7o "abcdefghijklmnopqrstuvwxyz" ⟨#[c]⟩)=true:=ha
   unfold nmB at q
   rw [ha,Bool.and_true] at q
   split
   ·rename_i h1
    have xn:¬ x=Str.ofString "":=fun e=>by
     rw [e] at h1
     exact absurd h1 (by decide +kernel)
    rw [decide_eq_false xn,Bool.not_false,Bool.and_true] at q
    rw [<- l1]
    rw [show decide ((x.length:Int)<=8)=decide (x.length<=8) from by rw [decide_eq_decide]; omega]
    exact q
   ·rename_i h1
    have xe:x=Str.ofString "":=b2t (by
     have z:(sg x).length=0:=by omega
     rw [List.length_eq_zero_iff.mp z]
     decide +kernel)
    rw [decide_eq_true xe,Bool.not_true,Bool.and_false] at q
    exact q
theorem j5f:∀ (k n:Nat),10 ^ k<=n->k < (dg n).length
 | 0,n,_=>List.length_pos_iff.mpr (g5g n)
 | k+1,n,h=>by
  have h10:10 ^ (k+1)=10 ^ k*10:=Nat.pow_succ _ _
  have p:0 < 10 ^ k:=Nat.pow_pos (by decide)
  rw [h10] at h
  have q:10 ^ k<=n / 10:=by omega
  have r:=j5f k (n / 10) q
  have e:=d6m (m:=n / 10) (c:=n % 10) (by omega) (by omega)
  rw [show 10*(n / 10)+n % 10=n by omega] at e
  rw [e,List.length_append,List.length_singleton]
  omega
theorem h0j{x:Str}{n:Nat}:h8n x = .int n ↔ x=nW n/\x.length<=13:=by
 unfold h8n
 constructor
 ·intro h
  cases e:i9s x with
  | none=>rw [e] at h; cases h
  | some m =>
   rw [e] at h
   by_cases hl:x.length<=13
   ·have h:(if x.length<=13 then V.int m else V.non)=V.int n:=h
    rw [if_pos hl] at h
    injection h with h
    have h:m=n:=by omega
    exact⟨h▸h1w.mp e,hl⟩
   ·have h:(if x.length<=13 then V.int m else V.non)=V.int n:=h
    rw [if_neg hl] at h
    cases h
 ·rintro ⟨h1,h2⟩
  rw [h1w.mpr h1]
  show (if x.length<=13 then V.int n else V.non)=_
  rw [if_pos h2]
theorem j5g:Str.ofString "1000000000000"=nW 1000000000000:=by decide +kernel
theorem k0n(n:Nat):(nW n).length=(dg n).length:=by rw [<- b0v,g8i,f8j]
theorem h0k{x:Str}:gOk x ↔ ∃ n:Nat,x=nW n/\1<=n/\n<=1000000000000:=by
 constructor
 ·rintro ⟨g,h,h1,h2⟩
  exact⟨g,(h0j.mp h).1,h1,h2⟩
 ·rintro ⟨n,rfl,h1,h2⟩
  have a:=g8g 12 n (by omega)
  exact⟨n,h0j.mpr ⟨rfl,by rw [k0n]; omega⟩,h1,h2⟩
theorem g7j{x:Str}(h:gOk x):sg x≠[]/\x.length<=13/\(sg x)[0]?≠some 48/\(∀ c∈sg x,48<=c/\c<=57)/\(x.length < 13\/x=Str.ofString "1000000000000"):=by
 obtain⟨n,rfl,h1,h2⟩:=h0k.mp h
 have e:sg (nW n)=dg n:=by rw [g8i,f8j]
 obtain⟨c,r,e1,e2⟩:=g8d (n:=n) (by omega)
 have a:=g8g 12 n (by omega)
 refine⟨by rw [e]; exact g5g n,by rw [k0n]; omega,by rw [e,e1]; simpa using e2,fun c hc=>?_,?_⟩
 ·rw [e] at hc
  exact d2v n c hc
 ·rcases Nat.lt_or_ge n 1000000000000 with z | z
  ·have:=g8g 11 n (by omega)
   left
   rw [k0n]
   omega
  ·right
   rw [j5g,show n=1000000000000 by omega]
theorem i9a{x:Str}(h0:sg x≠[])(h1:(sg x)[0]?≠some 48)(h2:∀ c∈sg x,48<=c/\c<=57)(h3:x.length < 13\/x=Str.ofString "1000000000000"):gOk x:=by
 rcases h3 with h3 | h3
 ·have cn:Canon (sg x):=⟨h2,h0,fun r e=>absurd (by rw [e]; rfl) h1⟩
  have e:=g0i cn
  refine h0k.mpr ⟨NumText.digitsVal (sg x),b2t (by rw [g8i,f8j,e]),?_,?_⟩
  ·rcases Nat.eq_zero_or_pos (NumText.digitsVal (sg x)) with z | z
   ·rw [z] at e
    exact absurd (by rw [<- e]; rfl) h1
   ·exact z
  ·rcases Nat.lt_or_ge 1000000000000 (NumText.digitsVal (sg x)) with z | z
   ·have:=j5f 12 (NumText.digitsVal (sg x)) (by omega)
    rw [e,b0v] at this
    omega
   ·exact z
 ·rw [h3,j5g]
  exact h0k.mpr ⟨_,rfl,by decide,by decide⟩
theorem i9b(T:Tx K mg A):a2m P A.wd K mg base CX0 1 A.a9r A.b0j ["_law_text_here"] j4j:=by
 refine T.b3n.ok d2w (fun _ _ _ _ h=>i1f h) (fun _ _ _ _ H vs Q E hr h=>?_)
 ·obtain⟨x,rfl,⟨xl,q⟩⟩:=h9e h
  have hu:=hr.units
  have hs:=szl
  have xl':x.length<=sizeLine:=by omega
  refine⟨_,(a0k (a3s (pw_or (a0t (b0m hu) (pvF 0) a0o (a2j _)) (pw_or (a0t d5p (a1h a3y (by rfl) T.c1h boot_len (a0g (pvF 0) a0h)) a0p (a2j _)) (pw_or1 (a0t (b0m hu) (a2h a8m (pvF 0) a0p (fun _ _=>rfl)) a0o (a2j _))))).pt
   (a0i (a1o d6j))
   a0y)
   (a0k (b5i PassesOwn.never rfl (g5d (pvF 0)) (a5n (i:=1) d2w.nd rfl (Or.inl rfl))
   (a0i (a3s (a0t b7i (pvF 1) a0o (by rfl))
   (a0i (a1o d6j))
   a0y)))
   (a0i (a1o (j1m (c8n of_lt (a1h a3y (by rfl) T.c1h boot_len (a0g (pvF 0) a0h)) a0p (a2j _)) (g0b (c8n (b0m hu) (pvF 0) a0o (a2j _)))))))),?_⟩
  walk_at"rd*"
  have no:¬ gOk x->Q (.bl false) H:=fun h=>q false ⟨fun z=>(Bool.false_ne_true z).elim,fun z=>absurd z h⟩
  split
  ·rename_i h1
   refine no fun g=>(g7j g).1 ?_
   rw [h1]
   decide +kernel
  rename_i h1
  refine⟨by omega,?_⟩
  split
  ·rename_i h2
   exact no fun g=>by have:=(g7j g).2.1; omega
  rename_i h2
  have n0:sg x≠[]:=fun e=>h1 (b2t (by rw [e]; decide +kernel))
  obtain⟨c0,r0,e0⟩:=List.exists_cons_of_ne_nil n0
  refine⟨by omega,c0,?_,?_⟩
  ·rw [show x.cps.toList=c0 :: r0 from e0]
   exact i3c
  split
  ·rename_i h3
   refine no fun g=>(g7j g).2.2.1 ?_
   have h3:c0=48:=by
    have:=congrArg sg h3
    rw [show sg (Str.ofString "0") = [48] by decide +kernel] at this
    exact (List.cons.inj this).1
   rw [e0,h3]
   rfl
  rename_i h3
  have h3:(sg x)[0]?≠some 48:=fun e=>by
   rw [e0] at e
   have e:c0=48:=by simpa using e
   exact h3 (b2t (by rw [e]; decide +kernel))
  refine g1w (fun i σ H1=>H1=H/\(∃ z,σ = [some (.str x),z])/\∀ c∈(sg x).take i,48<=c/\c<=57) ⟨rfl,⟨_,rfl⟩,(fun c hc=>by rw [List.take_zero] at hc; cases hc)⟩ ?_ ?_
  ·rintro i c σ H1 hc ⟨rfl,⟨z,rfl⟩,ha⟩
   have hc':(sg x)[i]? = some c:=by
    unfold sg
    rw [Array.getElem?_toList]
    exact hc
   walk_at"rd"
   rw [h6p]
   split
   ·rename_i hb
    refine no fun g=>?_
    have:=(g7j g).2.2.2.1 c (List.mem_of_getElem? hc')
    simp at hb
    omega
   ·rename_i hb
    refine⟨⟨_,rfl⟩,fun d hd=>?_⟩
    rw [List.take_add_one,hc'] at hd
    rcases List.mem_append.mp hd with m | m
    ·exact ha d m
    ·simp at m hb
     omega
  ·rintro σ H1 ⟨rfl,⟨z,rfl⟩,ha⟩
   have hl':x.cps.size=(sg x).length:=by simp
   rw [hl',List.take_length] at ha
   walk_at"rd*"
   refine⟨by omega,?_⟩
   have yes:(x.length < 13\/x=Str.ofString "1000000000000")->gOk x:=i9a n0 h3 ha
   split
   ·rename_i h4
    exact q true ⟨fun _=>yes (.inl (by omega)),fun _=>rfl⟩
   ·rename_i h4
    refine q _ ⟨fun z=>yes (.inr (of_decide_eq_true z)),fun g=>decide_eq_true ?_⟩
    rcases (g7j g).2.2.2.2 with z | z
    ·omega
    ·exact z
theorem i2n(T:Tx K mg A):a2m P A.wd K mg base CX0 1 A.b5s A.b6w ["_law_sends","_law_first","_law_last"] i8c:=by
 refine T.c5u.ok b6h (fun _ _ _ _ h=>i4i h) (fun _ _ _ _ H vs Q E hr h=>?_)
 ·obtain⟨l,x,y,rfl,⟨ps,es,hl,hE,e100,q⟩⟩:=h7l h
  have hu:=hr.units
  have hs:=szl
  have el:=hE.1
  refine⟨_,(a0k (a2k (i:=3) b6h.nd rfl (Or.inl rfl) (a3v (a0g (pvF 1) a0h)))
   (a0k (b5i PassesOwn.never rfl (d4w (by rfl) T.g3c (a0g (a1m a0s (a1h a3y (by rfl) T.c1h boot_len (a0g (pvF 0) a0h)) a0p) a0h)) (a5n (i:=4) b6h.nd rfl (Or.inl rfl))
   (a0i (b5i PassesOwn.never rfl (a5s (pvF 0)) (f4v (n:=3) rfl (a8j (a5n (i:=5) b6h.nd rfl (Or.inl rfl)) (a8j (a5n (i:=6) b6h.nd rfl (Or.inl rfl)) (a8j (a5n (i:=7) b6h.nd rfl (Or.inl rfl)) d8j))))
   (a0i (a3s (pw_and (a0t c7s (pvF 5) (pvF 3) (by rfl)) (pw_and1 (a0t b7i (pvF 6) (pvF 3) (by rfl)))).pt
   (a0i (a5t (a7q a7n PySem.F.plainAttrs_list PySem.F.slot_list_append PySem.F.type_list_append a6n (pvF 3) (a0g (pvF 6) a0h))))
   a0y)))))
   (a0i (a1o (c8n c7s (pvF 2) (pvF 3) (by rfl)))))),?_⟩
  walk_at"rd*"
  refine fun D H1 n1 S1 h1=>?_
  have hl1:=S1 _ _ hl
  have c0:cnt es [x] <= es.length:=List.length_filter_le _ _
  clear hu
  walk_at"rd*"
  refine⟨by omega,by omega,?_⟩
  rw [show ((es.length:Int)+1).toNat=es.length+1 by omega]
  obtain⟨Pv,pin,pout⟩:=f4m (fun k σ H'=>∃ (rs:List Str) (v4 v5 v6 v7:Option V),σ = [some (.ref l),some (.str x),some (.str y),some (.ref D),v4,v5,v6,v7]/\Same H H'/\H' D=some (.lst (rs.map V.str))/\x∈rs/\(∀ u∈rs,Rch es x u)/\rs.length+cnt es rs<=es.length+1/\(Cl es rs\/cnt es rs+k<=es.length))
  refine d9w (n:=es.length+1) Pv (pin _ _ _ ⟨[x],_,_,_,_,rfl,S1,h1,List.mem_cons_self,(fun u hu=>by obtain rfl:=List.mem_singleton.mp hu; exact Rch.refl _ _),by rw [List.length_singleton]; omega,.inr c0⟩) ?_ ?_
  ·intro k σ H2 hk hp
   obtain⟨rs,v4,v5,v6,v7,rfl,S2,hD,xr,rr,rc,cl⟩:=pout _ _ _ hp
   have hl2:=S2 _ _ hl
   clear hp h1 hl1
   walk_at"rd*"
   refine⟨⟨_,SqL.of hl2⟩,?_⟩
   obtain⟨Pw,win,wout⟩:=f4m (fun j σ H'=>∃ (mo:List Str) (v5 v6 v7:Option V),σ = [some (.ref l),some (.str x),some (.str y),some (.ref D),some (.int (k:Int)),v5,v6,v7]/\Same H H'/\H' D=some (.lst ((rs++mo).map V.str))/\(∀ u∈mo,Rch es x u)/\(rs++mo).length+cnt es (rs++mo)<=es.length+1/\(Cl es rs->mo = [])/\(mo = []->∀ (i:Nat) u v,i < j->es[i]? = some (u,v)->u∈rs->v∈rs)/\(mo≠[]->cnt es (rs++mo) < cnt es rs))
   refine c1k (xs:=ps.map V.ref) Pw (win _ _ _ ⟨[],_,_,_,rfl,S2,by rw [List.append_nil]; exact hD,(fun u hu=>by cases hu),by rw [List.append_nil]; exact rc,fun _=>rfl,(fun _ i u v hi=>absurd hi (Nat.not_lt_zero _)),fun z=>absurd rfl z⟩) ?_ ?_ ?_
   ·intro i σ H3 hi hp
    obtain⟨mo,v5',v6',v7',rfl,S3,_⟩:=wout _ _ _ hp
    exact SqL.of (S3 _ _ hl)
   ·intro i v σ H3 hv hp
    rw [List.getElem?_map] at hv
    obtain⟨p,hpi,rfl⟩:=Option.map_eq_some_iff.mp hv
    obtain⟨mo,v5',v6',v7',rfl,S3,hD3,mr3,rc3,c3,k3,m3⟩:=wout _ _ _ hp
    have hi:=(List.getElem?_eq_some_iff.mp hpi).1
    have hei : es[i]? = some (es[i]'(by omega)) := List.getElem?_eq_getElem _
    obtain⟨lw,hpe⟩:=hE.2 i p _ hpi hei
    have me:=List.mem_of_getElem? hei
    generalize es[i]'(by omega) = e at hei hpe me
    have hp3:=S3 _ _ hpe
    have fl:=a9k (rs++mo)
    have iv:=a7p e.2 (rs++mo)
    have iu:=a7p e.1 (rs++mo)
    obtain⟨r3,er3⟩:∃ r3,rs++mo=r3:=⟨_,rfl⟩
    rw [er3] at hD3 fl iv iu
    clear hv hp hD hl2
    walk_at"rd*"
    subst er3
    have stay:(e.1∈rs->mo = []->e.2∈rs)->Pw (i+1) [some (V.ref l),some (V.str x),some (V.str y),some (V.ref D),some (V.int (k:Int)),some (V.str e.1),some (V.str e.2),some (V.ref lw)] H3:=fun hin=>win _ _ _ ⟨mo,_,_,_,rfl,S3,hD3,mr3,rc3,c3,(fun z j u v hj hjv hu=>by
     rcases Nat.lt_or_ge j i with y1 | y1
     ·exact k3 z j u v y1 hjv hu
     ·obtain rfl:j=i:=by omega
      rw [hei] at hjv
      cases hjv
      exact hin hu z),m3⟩
    refine⟨rfl,?_⟩
    split
    ·rename_i h1
     refine⟨rfl,?_⟩
     split
     ·rename_i h2
      refine⟨by omega,?_⟩
      rintro _ H4 ⟨rfl,B4,h4⟩
      have clt:=i4t me h2
      have ll:(rs++(mo++[e.2])).length=(rs++mo).length+1:=by rw [<- List.append_assoc,List.length_append]; rfl
      have rcur:Rch es x e.1:=(List.mem_append.mp h1).elim (rr e.1) (mr3 e.1)
      rw [List.append_assoc] at clt
      refine win _ _ _ ⟨mo++[e.2],_,_,_,rfl,S3.step n1 B4,by rw [h4,<- List.append_assoc,List.map_append (l₁:=rs++mo)]; rfl,(fun u hu=>(List.mem_append.mp hu).elim (mr3 u) fun h=>by obtain rfl:=List.mem_singleton.mp h; exact rcur.step me),by omega,(fun c=>?_),(fun z=>absurd z (by simp)),fun _=>?_⟩
      ·have m0:=c3 c
       rw [m0,List.append_nil] at h1 h2
       exact absurd (c _ _ h1 me) h2
      ·by_cases hm:mo = []
       ·rw [hm,List.append_nil] at clt
        rw [hm]
        exact clt
       ·exact Nat.lt_trans clt (m3 hm)
     ·rename_i h2
      refine stay fun _ z=>?_
      rw [z,List.append_nil] at h2
      exact Classical.not_not.mp h2
    ·rename_i h1
     refine stay fun z1 z=>absurd ?_ h1
     exact List.mem_append_left _ z1
   ·intro σ H3 hp
    obtain⟨mo,v5',v6',v7',rfl,S3,hD3,mr3,rc3,c3,k3,m3⟩:=wout _ _ _ hp
    rw [List.length_map,el] at k3
    walk_at"rd"
    refine pin _ _ _ ⟨rs++mo,_,_,_,_,rfl,S3,hD3,List.mem_append_left _ xr,(fun u hu=>(List.mem_append.mp hu).elim (rr u) (mr3 u)),rc3,?_⟩
    by_cases hm:mo = []
    ·left
     rw [hm,List.append_nil]
     intro u v hu hv
     obtain⟨j,hj,e⟩:=List.getElem_of_mem hv
     exact k3 hm j u v hj (by rw [List.getElem?_eq_getElem hj,e]) hu
    ·right
     have:=m3 hm
     rcases cl with cl | cl
     ·exact absurd (c3 cl) hm
     ·omega
  ·intro σ H2 hp
   obtain⟨rs,v4,v5,v6,v7,rfl,S2,hD,xr,rr,rc,cl⟩:=pout _ _ _ hp
   have cl:Cl es rs:=cl.resolve_right (by omega)
   walk_at"rd*"
   rw [a7p]
   refine⟨rfl,a9k rs,q _ H2 (fun hf=>rr y (of_decide_eq_true hf)) (fun hf hr=>?_) S2⟩
   exact absurd (hr (· ∈ rs) xr fun u v hu hv=>cl u v hu hv) (of_decide_eq_false hf)
theorem Lq.same{H H':Hp}{L t b sd ou:Addr}{p:Pd}(h:Lq H L t b sd ou p)(S:Same H H'):Lq H' L t b sd ou p:=by
 obtain⟨hL,nL,d,ht,hb,⟨us,hs,R1⟩,vs,ho,R2⟩:=h
 exact⟨S _ _ hL,nL,d,S _ _ ht,S _ _ hb,⟨us,S _ _ hs,R1.same S⟩,vs,S _ _ ho,R2.same S⟩
section
variable {H H':Hp}{L t b sd ou:Addr}{p:Pd}
theorem Lq.j8k{x:Str}(h:Lq H L t b sd ou p)(h':H' t=some (.lst (p.ts.map V.str++[.str x])))(B:a6t t H H'):Lq H' L t b sd ou ⟨p.ts++[x],p.bs,p.es,p.os⟩:=by
 obtain⟨hL,nL,d,ht,hb,⟨us,hs,R1⟩,vs,ho,R2⟩:=h
 exact⟨B _ _ nL.1 hL,nL,d,by rw [h',List.map_append]; rfl,B _ _ d.1.symm hb,⟨us,B _ _ d.2.1.symm hs,R1.put ht (fun z=>z.1 rfl) B⟩,vs,B _ _ d.2.2.1.symm ho,R2.put ht (fun z=>z.1 rfl) B⟩
theorem Lq.j8l{x:Str}(h:Lq H L t b sd ou p)(h':H' b=some (.lst (p.bs.map V.str++[.str x])))(B:a6t b H H'):Lq H' L t b sd ou ⟨p.ts,p.bs++[x],p.es,p.os⟩:=by
 obtain⟨hL,nL,d,ht,hb,⟨us,hs,R1⟩,vs,ho,R2⟩:=h
 exact⟨B _ _ nL.2.1 hL,nL,d,B _ _ d.1 ht,by rw [h',List.map_append]; rfl,⟨us,B _ _ d.2.2.2.1.symm hs,R1.put hb (fun z=>z.2.1 rfl) B⟩,vs,B _ _ d.2.2.2.2.1.symm ho,R2.put hb (fun z=>z.2.1 rfl) B⟩
theorem Lq.j8m{e:Sd}{us:List V}{v:V}(h:Lq H L t b sd ou p)(hsd:H sd=some (.lst us))(r:Rp H (Nq t b sd ou) v (dSd e))(h':H' sd=some (.lst (us++[v])))(B:a6t sd H H'):Lq H' L t b sd ou ⟨p.ts,p.bs,p.es++[e],p.os⟩:=by
 obtain⟨hL,nL,d,ht,hb,⟨us',hs,R1⟩,vs,ho,R2⟩:=h
 rw [hsd] at hs
 cases hs
 refine⟨B _ _ nL.2.2.1 hL,nL,d,B _ _ d.2.1 ht,B _ _ d.2.2.2.1 hb,⟨_,h',?_⟩,vs,B _ _ d.2.2.2.2.2.symm ho,R2.put hsd (fun z=>z.2.2.1 rfl) B⟩
 rw [List.map_append]
 exact (R1.snoc r).put hsd (fun z=>z.2.2.1 rfl) B
theorem Lq.j8n{x:Str×Int}{us:List V}{v:V}(h:Lq H L t b sd ou p)(hou:H ou=some (.lst us))(r:Rp H (Nq t b sd ou) v (dOt x))(h':H' ou=some (.lst (us++[v])))(B:a6t ou H H'):Lq H' L t b sd ou ⟨p.ts,p.bs,p.es,p.os++[x]⟩:=by
 obtain⟨hL,nL,d,ht,hb,⟨vs,hs,R1⟩,us',ho,R2⟩:=h
 rw [hou] at ho
 cases ho
 refine⟨B _ _ nL.2.2.2 hL,nL,d,B _ _ d.2.2.1 ht,B _ _ d.2.2.2.2.1 hb,⟨vs,B _ _ d.2.2.2.2.2 hs,R1.put hou (fun z=>z.2.2.2 rfl) B⟩,_,h',?_⟩
 rw [List.map_append]
 exact (R2.snoc r).put hou (fun z=>z.2.2.2 rfl) B
end
theorem i4x{H:Hp}{N:Addr->Prop}{us:List V}{os:List (Str×Int)}{i:Nat}{v:V}(h:RpL H N us (os.map dOt))(hv:us[i]? = some v):∃ x p,os[i]? = some x/\v = .ref p/\H p=some (.tup [.str x.1,.str (Str.ofString (toString x.2))]):=by
 obtain⟨d,hd,r⟩:=h.get hv
 rw [List.getElem?_map] at hd
 obtain⟨e,he,rfl⟩:=Option.map_eq_some_iff.mp hd
 obtain⟨p,vs,rfl,hp,r2⟩:=r.tuple
 obtain⟨x,y,rfl,h1,h2⟩:=r2.two
 cases h1.strOf
 cases h2.strOf
 exact⟨e,p,he,rfl,hp⟩
theorem h4r{c:TT}{a r:TS}{D:Ends}{σ:L2.St}{H:Hp}(b:Bool)(hc:∀ Q:Bool->Hp->Prop,Q b H->c σ H Q)(hy:b=true->∀ D':Ends,D'.rt=D.rt->a D' σ H)(hn:b=false->r D σ H):j5x (i5f c a h5h) r D σ H:=by
 refine hc _ ?_
 cases b with
 | true=>exact hy rfl _ rfl
 | false=>exact hn rfl
theorem f8k{c:TT}{a r:TS}{D:Ends}{σ:L2.St}{H:Hp}(b:Bool)(hc:∀ Q:Bool->Hp->Prop,(∀ H1,Same H H1->Q b H1)->c σ H Q)(hy:b=true->∀ (D':Ends) H1,Same H H1->D'.rt=D.rt->a D' σ H1)(hn:b=false->∀ H1,Same H H1->r D σ H1):j5x (i5f c a h5h) r D σ H:=by
 refine hc _ fun H1 S1=>?_
 cases b with
 | true=>exact hy rfl _ H1 S1 rfl
 | false=>exact hn rfl H1 S1
theorem j5h(T:Tx K mg A):a2m P A.wd K mg base CX0 2 A.a9s A.b0k ["_law_words","_law_lists"] j9v:=by
 have h0l:a2m P A.wd K mg base CX0 1 _ _ _ _:=i2n T
 refine T.b3o.ok b0g (fun _ _ _ _ h=>h3j h) (fun _ _ _ _ H vs Q E hr h=>?_)
 ·obtain⟨lw,L,rfl,⟨a,y,r,t,b,sd,ou,p,hw,hq,hB,r98,q⟩⟩:=g8w h
  have hu:=hr.units
  have hs:=szl
  have lt:=hB.1
  have lb:=hB.2.1
  have le:=hB.2.2.1
  refine⟨_,(a4g (h0q (pvF 1) (f4v (n:=4) rfl (a8j (a5n (i:=2) b0g.nd rfl (Or.inl rfl)) (a8j (a5n (i:=3) b0g.nd rfl (Or.inl rfl)) (a8j (a5n (i:=4) b0g.nd rfl (Or.inl rfl)) (a8j (a5n (i:=5) b0g.nd rfl (Or.inl rfl)) d8j))))))
   (a0k (a3s (pw_or (a0t b7i (a2h a8m (pvF 0) a0p (fun _ _=>rfl)) (a1m a0s (pvF 2) (pvF 3)) (by rfl)) (pw_or1 (a0t b7i (a2h a8m (pvF 0) a0p (fun _ _=>rfl)) (pvF 3) (by rfl)))).pt
   (a0i (a1o a0o))
   a0y)
   (a0k (a3s (a0t d5p (a1h a3y (by rfl) T.c1h boot_len (a0g (pvF 0) a0h)) a0p (a2j _))
   (a0i (a1o a0o))
   a0y)
   (a0k (b5i PassesOwn.never rfl (a5s (b2p h2w (pvF 0) (b2r a0p) b7g)) (a5n (i:=6) b0g.nd rfl (Or.inl rfl))
   (a0i (a3s (a0t b7i (pvF 6) (a3v (a0g a0o (a0g a0o a0h))) (by rfl))
   (a0i (a1o a0o))
   a0y)))
   (a0k (a3s (a3z (a2g h0l (hr.mono (by decide)) (by rfl) T.g9r T.c5u.kp T.g9q .nil a6o (a0g (pvF 4) (a0g (a2h a8m (pvF 0) a0p (fun _ _=>rfl)) (a0g (a2h a8m (pvF 0) a0p (fun _ _=>rfl)) a0h)))))
   (a0i (a1o a0o))
   a0y)
   (a0i (a1o a0o))))))),?_⟩
  clear hu
  obtain⟨Mid,pin,pout⟩:=g7n (fun σ' H'=>σ' = [some (.ref lw),some (.ref L),some (.ref t),some (.ref b),some (.ref sd),some (.ref ou),none]/\H'=H)
  refine⟨Mid,?_,?_⟩
  ·have hL:=hq.hL
   walk_at"rd*"
  intro σ' H' hm
  obtain⟨rfl,rfl⟩:=pout _ _ hm
  clear hm pin pout
  have hr_ts:=a7p a (p.ts++p.bs)
  have hr_bs:=a7p y p.bs
  have f1:=a9k (p.ts++p.bs)
  have f2:=a9k p.bs
  have ht:=hq.ht
  have hb:=hq.hb
  have bus:¬ (a∈p.ts\/a∈p.bs)\/y∉p.bs->∀ H1,Same H' H1->Q (.str (Str.ofString "bus")) H1:=fun h H1 S1=>q 4 p H1 (.nb h) S1
  have part:(a∈p.ts\/a∈p.bs)->y∈p.bs->8 < r.length\/(∃ x∈r,¬ okW x)->∀ H1,Same H' H1->Q (.str (Str.ofString "part")) H1:=fun h1 h2 h3 H1 S1=>q 5 p H1 (.np h1 h2 h3) S1
  refine f8k (decide (¬ (a∈p.ts\/a∈p.bs)\/y∉p.bs)) (fun Qb hq=>?_) (fun hb1 D1 H1 S1 e=>?_) (fun hb1 H1 S1=>?_)
  ·clear q bus part
   replace hw:H' lw=some (.lst (.str (Str.ofString "send") :: .str a :: .str y :: r.map V.str)):=hw
   walk_at"rd*"
   refine⟨by omega,fun l1 H1 n1 S1 h1=>?_⟩
   rw [<- List.map_append] at h1
   have hw1:=S1 _ _ hw
   have hb1:=S1 _ _ hb
   clear hw hb ht
   walk_at"rd*"
   refine⟨rfl,?_⟩
   have hq2:=hq H1 S1
   split
   ·rename_i z
    rwa [decide_eq_true (.inl fun k=>z (List.mem_append.mpr k))] at hq2
   ·rename_i z
    refine⟨rfl,?_⟩
    have z:=List.mem_append.mp (Classical.not_not.mp z)
    rw [<- decide_not]
    rwa [show decide (¬ (a∈p.ts\/a∈p.bs)\/y∉p.bs)=decide (¬ y∈p.bs) from decide_eq_decide.mpr ⟨fun k=>k.resolve_left (not_not_intro z),.inr⟩] at hq2
  ·walk_at"rd"
   rw [e]
   exact bus (of_decide_eq_true hb1) H1 S1
  have hb1:=of_decide_eq_false hb1
  have ha:a∈p.ts\/a∈p.bs:=Classical.byContradiction fun z=>hb1 (.inl z)
  have hy:y∈p.bs:=Classical.byContradiction fun z=>hb1 (.inr z)
  have hw1:=S1 _ _ hw
  have hq1:=hq.same S1
  clear hw hq ht hb bus
  refine h4r (decide (11 < ((r.length+1+1+1:Nat):Int))) (fun Qb h=>?_) (fun h8 D1 e=>?_) (fun h8=>?_)
  ·walk_at"rd*"
  ·walk_at"rd"
   rw [e]
   exact part ha hy (.inl (by have:=of_decide_eq_true h8; omega)) H1 S1
  have h8:=of_decide_eq_false h8
  walk_at"rd*"
  refine fun l2 H2 n2 S2 h2=>?_
  rw [show g4e (V.str (Str.ofString "send") :: V.str a :: V.str y :: r.map V.str) (some 3) none=r.map V.str from (c1m _ 3)] at h2
  try walk_at"rd"
  refine⟨⟨_,SqL.of h2⟩,?_⟩
  obtain⟨Pv,pin,pout⟩:=f4m (fun i σ H3=>∃ v6:Option V,σ = [some (.ref lw),some (.ref L),some (.ref t),some (.ref b),some (.ref sd),some (.ref ou),v6]/\Same H2 H3/\∀ x∈r.take i,okW x)
  refine c1k (xs:=r.map V.str) Pv (pin _ _ _ ⟨_,rfl,Same.refl _,(fun x hx=>by rw [List.take_zero] at hx; cases hx)⟩) ?_ ?_ ?_
  ·intro i σ H3 hi hp
   obtain⟨v6,rfl,S3,_⟩:=pout _ _ _ hp
   exact SqL.of (S3 _ _ h2)
  ·intro i v σ H3 hv hp
   obtain⟨v6,rfl,S3,hk⟩:=pout _ _ _ hp
   rw [List.getElem?_map] at hv
   obtain⟨x,hx,rfl⟩:=Option.map_eq_some_iff.mp hv
   have iv:inV (.str x) [.str (Str.ofString "gain:1/2"),.str (Str.ofString "delay:3")]=decide (x∈[Str.ofString "gain:1/2",Str.ofString "delay:3"]):=a7p x [_,_]
   clear hv hp
   walk_at"rd"
   refine fun l4 H4 n4 S4 h4=>?_
   walk_at"rd*"
   refine⟨rfl,rfl,?_⟩
   have iff:x∈[Str.ofString "gain:1/2",Str.ofString "delay:3"] ↔ okW x:=by
    rw [List.mem_cons,List.mem_singleton]
    exact Iff.rfl
   split
   ·rename_i z
    exact part ha hy (.inr ⟨x,List.mem_of_getElem? hx,fun k=>z (iff.mpr k)⟩) H4 (S1.trans (S2.trans (S3.trans S4)))
   ·rename_i z
    refine pin _ _ _ ⟨_,rfl,S3.trans S4,fun u hu=>?_⟩
    rw [List.take_add_one,hx] at hu
    rcases List.mem_append.mp hu with m | m
    ·exact hk u m
    ·have m:u=x:=by simpa using m
     rw [m]
     exact iff.mp (Classical.not_not.mp z)
  ·intro σ H3 hp
   obtain⟨v6,rfl,S3,hk⟩:=pout _ _ _ hp
   rw [List.length_map,List.take_length] at hk
   have hq3:=hq1.same (S2.trans S3)
   have hw3:=(S2.trans S3) _ _ hw1
   clear hw1 h2 hq1 hp
   obtain⟨us,hsd,Rs⟩:=hq3.hs
   obtain⟨ps,rfl,hE⟩:=h1u Rs
   walk_at"rd*"
   refine⟨ps,rfl,prs p.es,hE,by rw [prs,List.length_map]; omega,fun rb H4 h1 h2 S4=>?_⟩
   have S04:=S1.trans (S2.trans (S3.trans S4))
   cases rb with
   | true=>exact q 6 p H4 (.rg ha hy (by omega) hk (h1 rfl)) S04
   | false=>exact q 0 _ H4 (.sd ha hy (by omega) hk (h2 rfl)) S04
theorem i9c(c:Nat):g7o "abcdefghijklmnopqrstuvwxyz" ⟨#[c]⟩=decide (97<=c/\c<=122):=by
 unfold g7o
 rw [StrLaws.found_one]
 have e:(Str.ofString "abcdefghijklmnopqrstuvwxyz").cps.toList=List.range' 97 26:=by decide +kernel
 rw [e]
 refine decide_eq_decide.mpr (List.mem_range'_1.trans ?_)
 constructor <;> intro h <;> omega
theorem i2o{x:Str}(h:nmB x=true):a5q x:=by
 unfold nmB at h
 rw [Bool.and_eq_true,Bool.and_eq_true,decide_eq_true_eq,Bool.not_eq_true',decide_eq_false_iff_not,List.all_eq_true] at h
 refine⟨h.1,h.2.1,fun c hc=>?_⟩
 have:=h.2.2 c hc
 rwa [i9c,decide_eq_true_eq] at this
theorem j5i(T:Tx K mg A):a2m P A.wd K mg base CX0 3 A.b9r A.b9s ["_law_words","_law_lists"] spKd:=by
 have f8l:a2m P A.wd K mg base CX0 2 _ _ _ _:=j5h T
 have g4b:a2m P A.wd K mg base CX0 1 _ _ _ _:=j5e T
 have f8m:a2m P A.wd K mg base CX0 1 _ _ _ _:=i9b T
 refine T.d0u.ok c4t (fun _ _ _ _ h=>h3j h) (fun _ _ _ _ H vs Q E hr h=>?_)
 ·obtain⟨lw,L,rfl,⟨k,ws,t,b,sd,ou,p,hw,hq,hB,l99,pl,q⟩⟩:=g8w h
  have hu:=hr.units
  have hs:=szl
  have lt:=hB.1
  have lb:=hB.2.1
  have le:=hB.2.2.1
  have lo:=hB.2.2.2.1
  refine⟨_,(a4g (h0q (pvF 1) (f4v (n:=4) rfl (a8j (a5n (i:=2) c4t.nd rfl (Or.inl rfl)) (a8j (a5n (i:=3) c4t.nd rfl (Or.inl rfl)) (a8j (a5n (i:=4) c4t.nd rfl (Or.inl rfl)) (a8j (a5n (i:=5) c4t.nd rfl (Or.inl rfl)) d8j))))))
   (a0k (a3s (pw_and (a0t c7s (a2h a8m (pvF 0) a0p (fun _ _=>rfl)) (a3v (a0g a0o (a0g a0o a0h))) (by rfl)) (pw_and1 (a0t (b0m hu) (a1h a3y (by rfl) T.c1h boot_len (a0g (pvF 0) a0h)) a0p (a2j _)))).pt
   (a0k (a3s (b0z (a3z (a2g g4b (hr.mono (by decide)) (by rfl) T.g2z T.b7t.kp T.g2y .nil a6o (a0g (a2h a8m (pvF 0) a0p (fun _ _=>rfl)) a0h))))
   (a0i (a1o a0o))
   a0y)
   (a0i (a1o (a2h a8m (a3v (a0g a0o (a0g a0o a0h))) (a9i b4t (by rfl) T.f2u boot_int (a0g (c8n c7s (a2h a8m (pvF 0) a0p (fun _ _=>rfl)) (a1m a0s (pvF 2) (pvF 3)) (by rfl)) a0h)) (fun _ _=>rfl)))))
   a0y)
   (a0k (a3s (pw_and (a0t (b0m hu) (a2h a8m (pvF 0) a0p (fun _ _=>rfl)) a0o (a2j _)) (pw_and1 (a0t d5p (a1h a3y (by rfl) T.c1h boot_len (a0g (pvF 0) a0h)) a0p (a2j _)))).pt
   (a0i (a1o (a2g f8l (hr.mono (by decide)) (by rfl) T.f6t T.b3o.kp T.f6s .nil a6o (a0g (pvF 0) (a0g (pvF 1) a0h)))))
   a0y)
   (a0k (a3s (pw_or (a0t (c1l hu) (a2h a8m (pvF 0) a0p (fun _ _=>rfl)) a0o (a2j _)) (pw_or1 (a0t (c1l hu) (a1h a3y (by rfl) T.c1h boot_len (a0g (pvF 0) a0h)) a0p (a2j _)))).pt
   (a0i (a1o a0o))
   a0y)
   (a0k (a3s (a0t b7i (a2h a8m (pvF 0) a0p (fun _ _=>rfl)) (pvF 3) (by rfl))
   (a0i (a1o a0o))
   a0y)
   (a0k (a3s (a0t c7s (a2h a8m (pvF 0) a0p (fun _ _=>rfl)) (b2u (a5s (pvF 5)) (fun _ _ _ _ _=>(a2h a8m (pvF 0) a0p (fun _ _=>rfl))) (d1h (sc:=a0r f0g) (N:=["_law_words","_law_lists","_law_tracks","_law_buses","_law_sends","_law_outs"]) rfl rfl (by decide +kernel)) rfl) (by rfl))
   (a0i (a1o a0o))
   a0y)
   (a0i (a1o (a2h a8m (a3v (a0g a0o (a0g a0o a0h))) (a9i b4t (by rfl) T.f2u boot_int (a0g (a2g f8m (hr.mono (by decide)) (by rfl) T.f6r T.b3n.kp T.f6q .nil a6o (a0g (a2h a8m (pvF 0) a0p (fun _ _=>rfl)) a0h)) a0h)) (fun _ _=>rfl)))))))))),?_⟩
  clear hu
  obtain⟨Mid,pin,pout⟩:=g7n (fun σ' H'=>σ' = [some (.ref lw),some (.ref L),some (.ref t),some (.ref b),some (.ref sd),some (.ref ou)]/\H'=H)
  refine⟨Mid,?_,?_⟩
  ·have hL:=hq.hL
   walk_at"rd*"
  intro σ' H' hm
  obtain⟨rfl,rfl⟩:=pout _ _ hm
  clear hm pin pout
  replace hw:H' lw=some (.lst (.str k :: ws.map V.str)):=hw
  have ik:inV (.str k) [.str (Str.ofString "track"),.str (Str.ofString "bus")]=decide (k∈[Str.ofString "track",Str.ofString "bus"]):=a7p k [_,_]
  refine f8k (decide (k∈[Str.ofString "track",Str.ofString "bus"]) && decide (((ws.length+1:Nat):Int)=2)) (fun Qb hQb=>?_) (fun hb1 D1 H1 S1 e=>?_) (fun hb1 H1 S1=>?_)
  ·clear q
   walk_at"rd*"
   refine fun l1 H1 n1 S1 h1=>?_
   have hw1:=S1 _ _ hw
   clear hw
   walk_at"rd*"
   refine⟨rfl,rfl,?_⟩
   have hQ:=hQb H1 S1
   split
   ·rename_i z
    rwa [decide_eq_true z,Bool.true_and] at hQ
   ·rename_i z
    rwa [decide_eq_false z,Bool.false_and] at hQ
  ·have hw1:=S1 _ _ hw
   have hq1:=hq.same S1
   rw [Bool.and_eq_true,decide_eq_true_eq,decide_eq_true_eq] at hb1
   obtain⟨a,rfl⟩:=List.length_eq_one_iff.mp (show ws.length=1 by omega)
   replace hw1:H1 lw=some (.lst [.str k,.str a]):=hw1
   have kk:k=Str.ofString "track"\/k=Str.ofString "bus":=by have:=hb1.1; rwa [List.mem_cons,List.mem_singleton] at this
   clear hw hq
   walk_at"rd*"
   refine⟨Nat.le_trans (pl a (by simp)) (by decide),?_⟩
   split
   ·rename_i hn
    exact q 2 p H1 (.nm kk hn) S1
   rename_i hn
   have hn:=i2o (by cases z:nmB a with | true=>rfl | false=>exact absurd z hn)
   refine fun l2 H2 n2 S2 h2=>?_
   have hw2:=S2 _ _ hw1
   have hq2:=hq1.same S2
   have ht:=hq2.ht
   have hb:=hq2.hb
   clear hw1 hq1
   walk_at"rd*"
   refine⟨by omega,fun l3 H3 n3 S3 h3=>?_⟩
   rw [<- List.map_append] at h3
   have iv:=a7p a (p.ts++p.bs)
   have fl:=a9k (p.ts++p.bs)
   have h23:=S3 _ _ h2
   clear hw2 hq2 ht hb h2
   walk_at"rd*"
   refine⟨rfl,?_⟩
   have S03:=S1.trans (S2.trans S3)
   by_cases ha:a∈p.ts++p.bs
   ·rw [if_pos ha]
    refine⟨_,rfl,?_⟩
    exact q 3 p H3 (.two kk hn (List.mem_append.mp ha)) S03
   ·rw [if_neg ha]
    refine⟨_,rfl,?_⟩
    have ha:=not_or.mp (fun z=>ha (List.mem_append.mpr z))
    rcases kk with rfl | rfl
    ·exact q 0 _ H3 (.tr hn ha.1 ha.2) S03
    ·exact q 0 _ H3 (.bs hn ha.1 ha.2) S03
  have hw1:=S1 _ _ hw
  have hq1:=hq.same S1
  replace q:∀ c g H2,Tw p (k :: ws) c g->Same H1 H2->Q (.str (kS c)) H2:=fun c g H2 tw S2=>q c g H2 tw (S1.trans S2)
  clear hw hq ik
  refine h4r (decide (k=Str.ofString "send") && decide (2 < ((ws.length+1:Nat):Int))) (fun Qb h=>?_) (fun h8 D1 e=>?_) (fun h8=>?_)
  ·walk_at"rd*"
   exact j5c h
  ·rw [Bool.and_eq_true,decide_eq_true_eq,decide_eq_true_eq] at h8
   obtain⟨a,y,r,rfl⟩:∃ a y r,ws=a :: y :: r:=by
    cases ws with
    | nil=>simp at h8
    | cons a r =>
     cases r with
     | nil=>simp at h8
     | cons y r=>exact⟨a,y,r,rfl⟩
   obtain⟨rfl,_⟩:=h8
   walk_at"rd"
   rw [e]
   exact⟨a,y,r,hw1,t,b,sd,ou,p,hq1,hB,by simp at l99; omega,q⟩
  have r1:∀ k' a,k :: ws = [k',a]->k'≠Str.ofString "track"/\k'≠Str.ofString "bus":=fun k' a e=>by
   cases e
   constructor <;> rintro rfl <;> simp at hb1
  have r2:∀ k' a y r,k :: ws=k' :: a :: y :: r->k'≠Str.ofString "send":=fun k' a y r e=>by
   cases e
   rintro rfl
   rw [decide_eq_true rfl,Bool.true_and,decide_eq_false_iff_not] at h8
   simp only [List.length_cons] at h8
   omega
  clear hb1 h8
  refine h4r (decide (k≠Str.ofString "out") || decide (((ws.length+1:Nat):Int)≠3)) (fun Qb h=>?_) (fun h9 D1 e=>?_) (fun h9=>?_)
  ·walk_at"rd*"
   split
   ·rename_i z
    rwa [decide_eq_true z,Bool.true_or] at h
   ·rename_i z
    rw [<- decide_not]
    rwa [decide_eq_false z,Bool.false_or] at h
  ·walk_at"rd"
   rw [e]
   refine q 1 p H1 (.row r1 r2 fun k' a y e=>?_) (Same.refl _)
   cases e
   rintro rfl
   simp at h9
  rw [Bool.or_eq_false_iff,decide_eq_false_iff_not,decide_eq_false_iff_not,Classical.not_not,Classical.not_not] at h9
  obtain⟨rfl,h9⟩:=h9
  obtain⟨y,z,rfl⟩:∃ y z,ws = [y,z]:=by
   match ws,h9 with
   | [y,z],_=>exact⟨y,z,rfl⟩
  clear r1 r2 h9
  replace hw1:H1 lw=some (.lst [.str (Str.ofString "out"),.str y,.str z]):=hw1
  have hbb:=hq1.hb
  have iv:=a7p y p.bs
  have fl:=a9k p.bs
  refine h4r (decide (y∉p.bs)) (fun Qb h=>?_) (fun h9 D1 e=>?_) (fun h9=>?_)
  ·walk_at"rd*"
   rw [<- decide_not]
   exact⟨rfl,h⟩
  ·walk_at"rd"
   rw [e]
   exact q 4 p H1 (.ob (of_decide_eq_true h9)) (Same.refl _)
  have hy:=Classical.not_not.mp (of_decide_eq_false h9)
  clear h9 hbb iv fl
  obtain⟨us,hou,Ro⟩:=hq1.ho
  have ul:=Ro.h2z
  refine f8k (decide (y∈p.os.map (·.1))) (fun Qb hQb=>?_) (fun h9 D1 H2 S2 e=>?_) (fun h9 H2 S2=>?_)
  ·clear q
   walk_at"rd*"
   refine⟨⟨_,SqL.of hou⟩,fun D H2 n2 S2 h2=>?_⟩
   refine c3l ((p.os.map (·.1)).map V.str) (by rw [List.length_map,List.length_map,ul]) n2 S2 h2 (SqL.of hou) (by omega) ?_ ?_
   ·intro i v x H3 Q' hx hz S3 q'
    obtain⟨e,pe,he,rfl,hpe⟩:=i4x Ro hx
    rw [List.getElem?_map,List.getElem?_map,he] at hz
    cases hz
    have hp3:=S3 _ _ hpe
    walk_at"rd*"
   ·intro H3 S3 h3
    have iv:=a7p y (p.os.map (·.1))
    have fl:=a9k (p.os.map (·.1))
    generalize p.os.map (·.1)=us' at h3 iv fl hQb
    walk_at"rd*"
    exact rfl
  ·walk_at"rd"
   rw [e]
   exact q 3 p H2 (.o2 hy (of_decide_eq_true h9)) S2
  have ny:=of_decide_eq_false h9
  have hw2:=S2 _ _ hw1
  clear hw1 hou
  walk_at"rd*"
  refine fun l3 H3 n3 S3 h3=>?_
  have hw3:=S3 _ _ hw2
  have S13:=S2.trans S3
  clear hw2
  walk_at"rd*"
  refine⟨pl z (by simp),fun bb hbb=>?_⟩
  cases bb with
  | true =>
   obtain⟨g,hg,g1,g2⟩:=hbb.mp rfl
   exact⟨_,rfl,q 0 _ H3 (.ou hy ny hg g1 g2) S13⟩
  | false=>exact⟨_,rfl,q 7 p H3 (.on hy ny fun g=>Bool.false_ne_true (hbb.mpr g)) S13⟩
theorem Tw.zero{p g:Pd}{kd:Str}{rest:List Str}(h:Tw p (kd :: rest) 0 g):(kd=Str.ofString "track"/\∃ a,rest = [a]/\g = ⟨p.ts++[a],p.bs,p.es,p.os⟩)\/(kd=Str.ofString "bus"/\∃ a,rest = [a]/\g = ⟨p.ts,p.bs++[a],p.es,p.os⟩) \/
  (kd=Str.ofString "send"/\∃ a y r,rest=a :: y :: r/\g = ⟨p.ts,p.bs,p.es++[(a,y,r)],p.os⟩)\/(kd=Str.ofString "out"/\∃ (y z:Str) (n:Nat),rest = [y,z]/\h8n z = .int n/\g = ⟨p.ts,p.bs,p.es,p.os++[(y,(n:Int))]⟩):=by
 generalize hc:(0:Nat)=c at h
 cases h with
 | tr=>exact .inl ⟨rfl,_,rfl,rfl⟩
 | bs=>exact .inr (.inl ⟨rfl,_,rfl,rfl⟩)
 | sd=>exact .inr (.inr (.inl ⟨rfl,_,_,_,rfl,rfl⟩))
 | ou _ _ h=>exact .inr (.inr (.inr ⟨rfl,_,_,_,rfl,h,rfl⟩))
 | _=>cases hc
theorem Tw.le{p g:Pd}{ws:List Str}{c:Nat}(h:Tw p ws c g):c<=7:=by cases h <;> decide
theorem i4y{c:Nat}(h:kS c=Str.ofString ""):c=0:=by
 match c,h with
 | 0,_=>rfl
 | 1,h=>exact absurd h (by decide +kernel)
 | 2,h=>exact absurd h (by decide +kernel)
 | 3,h=>exact absurd h (by decide +kernel)
 | 4,h=>exact absurd h (by decide +kernel)
 | 5,h=>exact absurd h (by decide +kernel)
 | 6,h=>exact absurd h (by decide +kernel)
 | n+7,h=>exact absurd (show Str.ofString "number"=Str.ofString "" from h) (by decide +kernel)
theorem ifT{c:TT}{a r:TS}{D:Ends}{σ:L2.St}{H:Hp}(hc:∀ Q:Bool->Hp->Prop,Q true H->c σ H Q)(h:a D σ H):i5f c a r D σ H:=hc _ h
theorem ifF{c:TT}{a r:TS}{D:Ends}{σ:L2.St}{H:Hp}(hc:∀ Q:Bool->Hp->Prop,Q false H->c σ H Q)(h:r D σ H):i5f c a r D σ H:=hc _ h
theorem PdN.le{p:Pd}{n m:Nat}(h:PdN p n)(hn:n<=m):PdN p m:=⟨Nat.le_trans h.1 hn,Nat.le_trans h.2.1 hn,Nat.le_trans h.2.2.1 hn,Nat.le_trans h.2.2.2.1 hn,h.2.2.2.2⟩
theorem PdN.b{p:Pd}{n:Nat}(h:PdN p n)(hn:n<=90):PdB p:=h.le hn
theorem i9d(T:Tx K mg A):a2m P A.wd K mg base CX0 4 A.b9t A.b9u ["_law_lines_here"] j4k:=by
 have h4s:a2m P A.wd K mg base CX0 3 _ _ _ _:=j5i T
 refine T.d0v.ok c4u (fun _ _ _ _ h=>f3t h) (fun _ _ _ _ H vs Q E hr h=>?_)
 ·obtain⟨l,rfl,⟨xs,hl,x20,x98,q⟩⟩:=f2t h
  have hu:=hr.units
  have hs:=szl
  have d1:((⟨#[32]⟩:Str).length == 0)=false:=rfl
  refine⟨_,(a0k (a2k (i:=1) c4u.nd rfl (Or.inl rfl) (a3v (a0g (a3v a0h) (a0g (a3v a0h) (a0g (a3v a0h) (a0g (a3v a0h) a0h))))))
   (a0k (b5i PassesOwn.never rfl (a5s (pvF 0)) (a5n (i:=2) c4u.nd rfl (Or.inl rfl))
   (a0k (a2k (i:=3) c4u.nd rfl (Or.inl rfl) (a7q a9j PySem.F.plainAttrs_str PySem.F.slot_str_split PySem.F.type_str_split d1i (pvF 2) (a0g a0o a0h)))
   (a4g (a2k (i:=4) c4u.nd rfl (Or.inl rfl) (a2g h4s (hr.mono (by decide)) (by rfl) T.h3u T.d0u.kp T.h3t .nil a6o (a0g (pvF 3) (a0g (pvF 1) a0h))))
   (a0k (a3s (a0t (c1l hu) (pvF 4) a0o (a2j _))
   (a0i (a1o (b5j (a0g (pvF 4) (a0g (pvF 1) (a0g (pvF 3) a0h))))))
   a0y)
   (a0i (a3s (a0t (b0m hu) (a2h a8m (pvF 3) a0p (fun _ _=>rfl)) a0o (a2j _))
   (a0i (a5t (a7q a7n PySem.F.plainAttrs_list PySem.F.slot_list_append PySem.F.type_list_append a6n (a2h a8m (pvF 1) a0p (fun _ _=>rfl)) (a0g (a2h a8m (pvF 3) a0p (fun _ _=>rfl)) a0h))))
   (a0i (a3s (a0t (b0m hu) (a2h a8m (pvF 3) a0p (fun _ _=>rfl)) a0o (a2j _))
   (a0i (a5t (a7q a7n PySem.F.plainAttrs_list PySem.F.slot_list_append PySem.F.type_list_append a6n (a2h a8m (pvF 1) a0p (fun _ _=>rfl)) (a0g (a2h a8m (pvF 3) a0p (fun _ _=>rfl)) a0h))))
   (a0i (a3s (a0t (b0m hu) (a2h a8m (pvF 3) a0p (fun _ _=>rfl)) a0o (a2j _))
   (a0i (a5t (a7q a7n PySem.F.plainAttrs_list PySem.F.slot_list_append PySem.F.type_list_append a6n (a2h a8m (pvF 1) a0p (fun _ _=>rfl)) (a0g (b5j (a0g (a2h a8m (pvF 3) a0p (fun _ _=>rfl)) (a0g (a2h a8m (pvF 3) a0p (fun _ _=>rfl)) (a0g (b2p h2w (pvF 3) (b2r a0p) b7g) a0h)))) a0h))))
   (a0i (a5t (a7q a7n PySem.F.plainAttrs_list PySem.F.slot_list_append PySem.F.type_list_append a6n (a2h a8m (pvF 1) a0p (fun _ _=>rfl)) (a0g (b5j (a0g (a2h a8m (pvF 3) a0p (fun _ _=>rfl)) (a0g (a2h a8m (pvF 3) a0p (fun _ _=>rfl)) a0h))) a0h))))))))))))))
   (a0i (a1o (b5j (a0g a0o (a0g (pvF 1) (a0g (a3v a0h) a0h)))))))),?_⟩
  clear hu
  walk_at"rd*"
  refine fun t H1 n1 S1 h1=>?_
  walk_at"rd*"
  refine fun b H2 n2 S2 h2=>?_
  walk_at"rd*"
  refine fun sd H3 n3 S3 h3=>?_
  walk_at"rd*"
  refine fun ou H4 n4 S4 h4=>?_
  walk_at"rd*"
  refine fun L H5 n5 S5 h5=>?_
  have ne:∀ {Ha Hb:Hp} {z u:Addr} {o:HO},Ha z=some o->Same Ha Hb->Hb u=none->z≠u:=fun e S n k=>by
   have:=S _ _ e
   rw [k,n] at this
   cases this
  have S05:=S1.trans (S2.trans (S3.trans (S4.trans S5)))
  have q0:Lq H5 L t b sd ou Pd0:=⟨h5,⟨(ne h1 (S2.trans (S3.trans S4)) n5).symm,(ne h2 (S3.trans S4) n5).symm,(ne h3 S4 n5).symm,(ne h4 (Same.refl _) n5).symm⟩,⟨ne h1 (Same.refl _) n2,ne h1 S2 n3,ne h1 (S2.trans S3) n4,ne h2 (Same.refl _) n3,ne h2 S3 n4,ne h3 (Same.refl _) n4⟩,(S2.trans (S3.trans (S4.trans S5))) _ _ h1,(S3.trans (S4.trans S5)) _ _ h2,⟨[],(S4.trans S5) _ _ h3,.nil⟩,[],S5 _ _ h4,.nil⟩
  have f1:H t=none:=n1
  have f2:H b=none:=S1.free n2
  have f3:H sd=none:=(S1.trans S2).free n3
  have f4:H ou=none:=(S1.trans (S2.trans S3)).free n4
  have hl5:=S05 _ _ hl
  clear h1 h2 h3 h4 h5 n1 n2 n3 n4 n5 S1 S2 S3 S4 S5 ne
  walk_at"rd*"
  refine⟨⟨_,SqL.of hl5⟩,?_⟩
  obtain⟨Pv,pin,pout⟩:=f4m (fun i σ H'=>∃ (v2 v3 v4:Option V) (p:Pd),σ = [some (.ref l),some (.ref L),v2,v3,v4]/\Same H H'/\Lq H' L t b sd ou p/\(∀ c g ws,Rn p (xs.drop i) c g ws->Rn Pd0 xs c g ws)/\PdN p i)
  refine c1k (xs:=xs.map V.str) Pv (pin _ _ _ ⟨_,_,_,_,rfl,S05,q0,(fun c g ws h=>h),Nat.le_refl _,Nat.le_refl _,Nat.le_refl _,Nat.le_refl _,(fun z hz=>by cases hz),fun z hz=>by cases hz⟩) ?_ ?_ ?_
  ·intro i σ H6 hi hp
   obtain⟨v2,v3,v4,p,rfl,S6,_⟩:=pout _ _ _ hp
   exact SqL.of (S6 _ _ hl)
  ·intro i v σ H6 hv hp
   obtain⟨v2,v3,v4,p,rfl,S6,q6,t6,N6⟩:=pout _ _ _ hp
   rw [List.getElem?_map] at hv
   obtain⟨x,hx,rfl⟩:=Option.map_eq_some_iff.mp hv
   obtain⟨hi,ex⟩:=List.getElem?_eq_some_iff.mp hx
   rw [List.drop_eq_getElem_cons hi,ex] at t6
   have xl:=x98 x (List.mem_of_getElem? hx)
   have sl:=split_le x 32
   obtain⟨kd,rest,ek⟩:∃ kd ws,a2l x ⟨#[32]⟩=kd :: ws:=List.exists_cons_of_ne_nil (g1x _ _)
   have pl:∀ z∈a2l x ⟨#[32]⟩,z.length<=98:=fun z hz=>Nat.le_trans (h1y hz) xl
   have B6:PdB p:=N6.b (by omega)
   rw [ek] at sl pl
   clear hv hp q0
   obtain⟨Mid,min',mout⟩:=g7n (fun σ' H'=>∃ (l1:Addr) (c:Nat) (g:Pd),σ' = [some (.ref l),some (.ref L),some (.str x),some (.ref l1),some (.str (kS c))]/\Same H6 H'/\H' l1=some (.lst (V.str kd :: rest.map V.str))/\l1≠t/\l1≠b/\l1≠sd/\l1≠ou/\Tw p (kd :: rest) c g)
   walk_at"rd"
   rw [j6q]
   refine⟨rfl,by omega,by rw [ek]; simp at sl ⊢; omega,fun l1 H7 n7 S7 h7=>?_⟩
   rw [ek] at h7
   have ln:∀ {z:Addr} {o:HO},H6 z=some o->l1≠z:=fun e k=>by rw [<- k,n7] at e; cases e
   obtain⟨us,hsd,Rs⟩:=q6.hs
   obtain⟨vs,hou,Ro⟩:=q6.ho
   have l1t:=ln q6.ht
   have l1b:=ln q6.hb
   have l1s:=ln hsd
   have l1o:=ln hou
   clear ln hsd hou Rs Ro
   walk_at"rd"
   refine⟨Mid,?_,?_⟩
   ·have q7:=q6.same S7
    walk_at"rd"
    refine⟨kd,rest,h7,t,b,sd,ou,p,q7,B6,by simp at sl; omega,pl,fun c g H8 tw S8=>?_⟩
    exact min' _ _ ⟨l1,c,g,rfl,S7.trans S8,S8 _ _ h7,l1t,l1b,l1s,l1o,tw⟩
   clear h7 n7 S7 H7 l1t l1b l1s l1o l1
   intro σ' H7 hm
   obtain⟨l1,c,g,rfl,S7,h7,l1t,l1b,l1s,l1o,tw⟩:=mout _ _ hm
   clear hm min' mout Mid
   have q7:=q6.same S7
   have S07:=S6.trans S7
   clear q6 S6 S7
   refine h4r (decide (¬ kS c=Str.ofString "")) (fun Qb h=>?_) (fun h8 D1 e=>?_) (fun h8=>?_)
   ·generalize kS c=kc at *
    walk_at"rd*"
    rw [<- decide_not]
    exact h
   ·have h8:=of_decide_eq_true h8
    have c0:c≠0:=fun z=>h8 (by rw [z]; rfl)
    walk_at"rd"
    rw [e]
    refine⟨by omega,fun o H8 n8 S8 h8=>?_⟩
    exact q o L t b sd ou l1 c p (kd :: rest) H8 (S07.trans S8) h8 (q7.same S8) (S8 _ _ h7) (t6 _ _ _ (by have:=Rn.no (xs:=xs.drop (i+1)) (x:=x) (by rw [ek]; exact tw) c0; rwa [ek] at this)) (N6.le (by omega)) tw.le
   have c0:c=0:=i4y (Classical.not_not.mp (of_decide_eq_false h8))
   subst c0
   have fin:∀ H8,Same H H8->Lq H8 L t b sd ou g->Pv (i+1) [some (.ref l),some (.ref L),some (.str x),some (.ref l1),some (.str (kS 0))] H8:=fun H8 S8 q8=>pin _ _ _ ⟨_,_,_,_,rfl,S8,q8,(fun c g ws h=>t6 _ _ _ (.go (by rw [ek]; exact tw) h)),tw.step N6⟩
   have hL:=q7.hL
   have ht:=q7.ht
   have hb:=q7.hb
   obtain⟨us,hsd,Rs⟩:=q7.hs
   obtain⟨vs,hou,Ro⟩:=q7.ho
   have ul:=Rs.h2z
   have vl:=Ro.h2z
   have b1:=B6.1
   have b2:=B6.2.1
   have b3:=B6.2.2.1
   have b4:=B6.2.2.2.1
   rcases tw.zero with ⟨hk,a,rfl,rfl⟩ | ⟨hk,a,rfl,rfl⟩ | ⟨hk,a,y,r,rfl,rfl⟩ | ⟨hk,y,z,n,rfl,hz,rfl⟩
   ·have k1:(kd=Str.ofString "track")=True:=eq_true hk
    clear hk
    refine ifT (fun Qb h=>by walk_at"rd*") ?_
    replace h7:H7 l1=some (.lst [.str kd,.str a]):=h7
    walk_at"rd*"
    refine⟨by omega,?_⟩
    rintro _ H8 ⟨rfl,B8,h8⟩
    exact fin H8 (S07.step f1 B8) (q7.j8k h8 B8)
   ·have k1:(kd=Str.ofString "track")=False:=eq_false (by rw [hk]; exact Ne.symm k0k)
    have k2:(kd=Str.ofString "bus")=True:=eq_true hk
    clear hk
    refine ifF (fun Qb h=>by walk_at"rd*") (ifT (fun Qb h=>by walk_at"rd*") ?_)
    replace h7:H7 l1=some (.lst [.str kd,.str a]):=h7
    walk_at"rd*"
    refine⟨by omega,?_⟩
    rintro _ H8 ⟨rfl,B8,h8⟩
    exact fin H8 (S07.step f2 B8) (q7.j8l h8 B8)
   ·have k1:(kd=Str.ofString "track")=False:=eq_false (by rw [hk]; decide +kernel)
    have k2:(kd=Str.ofString "bus")=False:=eq_false (by rw [hk]; decide +kernel)
    have k3:(kd=Str.ofString "send")=True:=eq_true hk
    clear hk
    refine ifF (fun Qb h=>by walk_at"rd*") (ifF (fun Qb h=>by walk_at"rd*") (ifT (fun Qb h=>by walk_at"rd*") ?_))
    replace h7:H7 l1=some (.lst (.str kd :: .str a :: .str y :: r.map V.str)):=h7
    walk_at"rd*"
    refine fun l8 H8 n8 S8 h8=>?_
    rw [show g4e (V.str kd :: V.str a :: V.str y :: r.map V.str) (some 3) none=r.map V.str from (c1m _ 3)] at h8
    have ln:∀ {z:Addr} {o:HO},H7 z=some o->l8≠z:=fun e k=>by rw [<- k,n8] at e; cases e
    walk_at"rd"
    refine⟨by decide,fun p9 H9 n9 S9 h9=>?_⟩
    have hsd9:=(S8.trans S9) _ _ hsd
    walk_at"rd*"
    refine⟨by omega,?_⟩
    rintro _ HA ⟨rfl,BA,hA⟩
    have q9:=q7.same (S8.trans S9)
    exact fin HA ((S07.trans (S8.trans S9)).step f3 BA) (q9.j8m hsd9 (.tup h9 (.cons (.str _) (.cons (.str _) (.cons (.lst ⟨ln ht,ln hb,ln hsd,ln hou⟩ (S9 _ _ h8) (RpL.strs _)) .nil)))) hA BA)
   ·have k1:(kd=Str.ofString "track")=False:=eq_false (by rw [hk]; decide +kernel)
    have k2:(kd=Str.ofString "bus")=False:=eq_false (by rw [hk]; decide +kernel)
    have k3:(kd=Str.ofString "send")=False:=eq_false (by rw [hk]; decide +kernel)
    clear hk
    refine ifF (fun Qb h=>by walk_at"rd*") (ifF (fun Qb h=>by walk_at"rd*") (ifF (fun Qb h=>by walk_at"rd*") ?_))
    replace h7:H7 l1=some (.lst [.str kd,.str y,.str z]):=h7
    walk_at"rd*"
    refine fun p9 H9 n9 S9 h9=>?_
    have hou9:=S9 _ _ hou
    walk_at"rd*"
    refine⟨by omega,?_⟩
    rintro _ HA ⟨rfl,BA,hA⟩
    have ez:z=Str.ofString (toString (n:Int)):=(h0j.mp hz).1
    exact fin HA ((S07.trans S9).step f4 BA) ((q7.same S9).j8n (x:=(y,(n:Int))) hou9 (.tup h9 (.cons (.str _) (.cons (by rw [ez]; exact .str _) .nil))) hA BA)
  ·intro σ H6 hp
   obtain⟨v2,v3,v4,p,rfl,S6,q6,t6,N6⟩:=pout _ _ _ hp
   rw [List.length_map,List.drop_length] at t6
   walk_at"rd"
   refine⟨by omega,fun l7 H7 n7 S7 h7=>?_⟩
   walk_at"rd"
   refine⟨by omega,fun o H8 n8 S8 h8=>?_⟩
   exact q o L t b sd ou l7 0 p [] H8 (S6.trans (S7.trans S8)) h8 (q6.same (S7.trans S8)) (S8 _ _ h7) (t6 _ _ _ .nil) (N6.le (by rw [List.length_map]; exact x20)) (by decide)
theorem kx(T:Tx K mg A)(c:Nat)(h1:1<=c)(h:c<=7):Kx K A c:=by
 match c,h1,h with
 | 1,_,_=>exact⟨T.i7n,T.b4v,T.g3o,T.f9s,T.g3p,T.g3n,T.f9t,T.g6p,T.f3j,T.f9u,T.f7r,T.f9r,T.d9q⟩
 | 2,_,_=>exact⟨T.i1l,T.c0s,T.f9h,T.f7m,T.f9i,T.f9g,T.f7n,T.g3g,T.f1o,T.f7o,T.f3g,T.f7l,T.d7p⟩
 | 3,_,_=>exact⟨T.i7o,T.c2r,T.g3i,T.f9k,T.g3j,T.g3h,T.f9l,T.g6n,T.f3h,T.f9m,T.f7p,T.f9j,T.d9o⟩
 | 4,_,_=>exact⟨T.i7m,T.c2t,T.g3l,T.f9o,T.g3m,T.g3k,T.f9p,T.g6o,T.f3i,T.f9q,T.f7q,T.f9n,T.d9p⟩
 | 5,_,_=>exact⟨T.i1m,T.c0q,T.f8y,T.f7i,T.f8z,T.f8w,T.f7j,T.g3f,T.f1n,T.f7k,T.f2z,T.f7h,T.d7o⟩
 | 6,_,_=>exact⟨T.h1r,T.b8m,T.g6r,T.g3r,T.g6s,T.g6q,T.g3s,T.g9y,T.f7s,T.g3t,T.f9v,T.g3q,T.f1p⟩
 | 7,_,_=>exact⟨T.h4d,T.b5u,T.f2w,T.f1k,T.f2y,T.f2v,T.f1l,T.f7g,T.d7n,T.f1m,T.d9n,T.f1j,T.d4s⟩
theorem j5j{c j:Nat}(h:c=j+1):clL c j++[.str (kS (j+1))]=clL c (j+1):=by
 unfold clL
 rw [if_neg (by omega),if_pos (by omega),h]
 rfl
theorem j5k{c j:Nat}(h:¬ c=j+1):clL c j=clL c (j+1):=by
 unfold clL
 by_cases hc:c<=j
 ·rw [if_pos hc,if_pos (by omega)]
 ·rw [if_neg hc,if_neg (by omega)]
theorem i9e(c j:Nat):(clL c j).length<=1:=by
 unfold clL
 split <;> simp
theorem d7r{c j:Nat}{H0 H:Hp}{e l C:Addr}{d:Option Addr}{r:TS}{D:Ends}(X:Kx K A c)(he:H0 e=some (i3q e (.ref (exT A c)) d))(nl:H0 l=none)(k:PySem.W.kitOne K (.ref (exT A c)) (.ref C)=some (decide (c=j+1)))(S:Same H0 H)(hl:H l=some (.lst (clL c j)))
  (hr:∀ H',Same H0 H'->H' l=some (.lst (clL c (j+1)))->r D [some (.ref e),some (.ref l)] H') :
  k1o (i5f (tBF (tCB (j6i K) (g4i (d7y 0) (g4i (tC (.ref C)) h9u)))) (h9n (j7t j1r j1s (d7y 1) (g4i (tC (.str (kS (j+1)))) h9u))) h5h) r D [some (.ref e),some (.ref l)] H:=by
 have he2:=S _ _ he
 have ll:=i9e c j
 have hs:=szl
 refine⟨r D,?_,fun _ _ h=>h⟩
 walk_at"rd"
 refine ise he2 X.q k ?_
 obtain⟨z,ez⟩:∃ z,kS (j+1)=z:=⟨_,rfl⟩
 rw [ez]
 have go:c=j+1->clL c j++[.str z]=clL c (j+1):=fun h=>by rw [<- ez]; exact j5j h
 clear ez
 walk_at"rd*"
 split
 ·rename_i hc
  refine⟨by omega,?_⟩
  rintro _ H3 ⟨rfl,B3,h3⟩
  refine hr H3 (S.step nl B3) ?_
  rw [h3,go hc]
 ·rename_i hc
  exact hr _ S (by rw [hl,j5k hc])
theorem j5l(T:Tx K mg A):a2m P A.wd K mg base CX0 1 A.b1p A.b2g ["_law_error"] (j9w A):=by
 refine T.b7u.ok d6g (fun _ _ _ _ h=>f3t h) (fun _ _ _ _ H vs Q E hr h=>?_)
 ·obtain⟨e,rfl,⟨c,d,c1,c7,he,q⟩⟩:=f2t h
  have hu:=hr.units
  have hs:=szl
  have X:=kx T c c1 c7
  refine⟨_,(a0k (a2k (i:=1) d6g.nd rfl (Or.inl rfl) (a3v a0h))
   (a4g (a3s (a3z (a1h b7m (by rfl) T.a1z boot_isinstance (a0g (pvF 0) (a0g (a6q (v:=.ref A.a1k) (by rfl) T.g3e rfl) a0h))))
   (a0i (a5t (a7q a7n PySem.F.plainAttrs_list PySem.F.slot_list_append PySem.F.type_list_append a6n (pvF 1) (a0g a0o a0h))))
   a0y)
   (a4g (a3s (a3z (a1h b7m (by rfl) T.a1z boot_isinstance (a0g (pvF 0) (a0g (a6q (v:=.ref A.a0w) (by rfl) T.g6m rfl) a0h))))
   (a0i (a5t (a7q a7n PySem.F.plainAttrs_list PySem.F.slot_list_append PySem.F.type_list_append a6n (pvF 1) (a0g a0o a0h))))
   a0y)
   (a4g (a3s (a3z (a1h b7m (by rfl) T.a1z boot_isinstance (a0g (pvF 0) (a0g (a6q (v:=.ref A.a1j) (by rfl) T.g3d rfl) a0h))))
   (a0i (a5t (a7q a7n PySem.F.plainAttrs_list PySem.F.slot_list_append PySem.F.type_list_append a6n (pvF 1) (a0g a0o a0h))))
   a0y)
   (a4g (a3s (a3z (a1h b7m (by rfl) T.a1z boot_isinstance (a0g (pvF 0) (a0g (a6q (v:=.ref A.a1l) (by rfl) T.d5m rfl) a0h))))
   (a0i (a5t (a7q a7n PySem.F.plainAttrs_list PySem.F.slot_list_append PySem.F.type_list_append a6n (pvF 1) (a0g a0o a0h))))
   a0y)
   (a4g (a3s (a3z (a1h b7m (by rfl) T.a1z boot_isinstance (a0g (pvF 0) (a0g (a6q (v:=.ref A.a0u) (by rfl) T.c1u rfl) a0h))))
   (a0i (a5t (a7q a7n PySem.F.plainAttrs_list PySem.F.slot_list_append PySem.F.type_list_append a6n (pvF 1) (a0g a0o a0h))))
   a0y)
   (a4g (a3s (a3z (a1h b7m (by rfl) T.a1z boot_isinstance (a0g (pvF 0) (a0g (a6q (v:=.ref A.a1y) (by rfl) T.g9v rfl) a0h))))
   (a0i (a5t (a7q a7n PySem.F.plainAttrs_list PySem.F.slot_list_append PySem.F.type_list_append a6n (pvF 1) (a0g a0o a0h))))
   a0y)
   (a4g (a3s (a3z (a1h b7m (by rfl) T.a1z boot_isinstance (a0g (pvF 0) (a0g (a6q (v:=.ref A.a0q) (by rfl) T.f6y rfl) a0h))))
   (a0i (a5t (a7q a7n PySem.F.plainAttrs_list PySem.F.slot_list_append PySem.F.type_list_append a6n (pvF 1) (a0g a0o a0h))))
   a0y)
   (a4g (a3s (pw_or (a3z (a1h b7m (by rfl) T.a1z boot_isinstance (a0g (pvF 0) (a0g (a6q (v:=.ref A.a0z) (by rfl) T.c7n rfl) a0h)))) (pw_or (a3z (a1h b7m (by rfl) T.a1z boot_isinstance (a0g (pvF 0) (a0g (a6q (v:=.ref A.a2i) (by rfl) T.h3z rfl) a0h)))) (pw_or1 (a3z (a1h b7m (by rfl) T.a1z boot_isinstance (a0g (pvF 0) (a0g (a6q (v:=.ref A.a3t) (by rfl) T.h8a rfl) a0h))))))).pt
   (a0i (a5t (a7q a7n PySem.F.plainAttrs_list PySem.F.slot_list_append PySem.F.type_list_append a6n (pvF 1) (a0g a0o a0h))))
   a0y)
   (a0i (a1o (pvF 1)))))))))))),?_⟩
  clear hu
  walk_at"rd"
  refine⟨by omega,fun l H1 n1 S1 h1=>?_⟩
  walk_at"rd"
  refine d7r (j:=0) X he n1 X.x1 S1 (by rw [h1]; unfold clL; rw [if_neg (by omega)]) fun H2 S2 h2=>?_
  refine d7r (j:=1) X he n1 X.x2 S2 h2 fun H3 S3 h3=>?_
  refine d7r (j:=2) X he n1 X.x3 S3 h3 fun H4 S4 h4=>?_
  refine d7r (j:=3) X he n1 X.x4 S4 h4 fun H5 S5 h5=>?_
  refine d7r (j:=4) X he n1 X.x5 S5 h5 fun H6 S6 h6=>?_
  refine d7r (j:=5) X he n1 X.x6 S6 h6 fun H7 S7 h7=>?_
  refine d7r (j:=6) X he n1 X.x7 S7 h7 fun H8 S8 h8=>?_
  have he8:=S8 _ _ he
  rw [show clL c 7 = [.str (kS c)] from if_pos c7] at h8
  refine⟨fun σ' H'=>σ' = [some (.ref e),some (.ref l)]/\H'=H8,?_,?_⟩
  ·walk_at"rd"
   refine ise he8 X.q X.i8d (ise he8 X.q X.i1w (ise he8 X.q X.i8e ?_))
   exact rfl
  ·rintro σ' H' ⟨rfl,rfl⟩
   walk_at"rd"
   exact q l _ n1 S8 h8
theorem j5m(c:Nat):PyData.strOk (kS c)=true:=by
 match c with
 | 0=>decide +kernel
 | 1=>decide +kernel
 | 2=>decide +kernel
 | 3=>decide +kernel
 | 4=>decide +kernel
 | 5=>decide +kernel
 | 6=>decide +kernel
 | n+7=>show PyData.strOk (Str.ofString "number")=true; decide +kernel
theorem g1n(T:Tx K mg A):a2m P A.wd K mg base CX0 15 A.b1q A.b2h ["_law_text_here","_law_kind_here"] j9y:=by
 have d7s:a2m P A.wd K mg base (CXE P A.wd) 14 _ _ _ _:=h0f T
 have g4c:a2m P A.wd K mg base CX0 1 _ _ _ _:=j5l T
 refine T.b0o.ok c1i (fun _ _ _ _ h=>j8t h) (fun _ _ _ _ H vs Q E hr h=>?_)
 ·obtain⟨v,k,rfl,⟨hv,q⟩⟩:=j3q h
  have hu:=hr.units
  have hs:=szl
  obtain⟨c,c1,c7,ek⟩:∃ c,1<=c/\c<=7/\k=kS c:=by
   rcases hv with ⟨_,_,_,e⟩ | ⟨_,c,_,_,_,_,_,h1,h2,e⟩
   ·exact⟨1,by decide,by decide,e⟩
   ·exact⟨c,by omega,h2,e⟩
  refine⟨_,(a0k (a2k (i:=2) c1i.nd rfl (Or.inl rfl) f1t)
   (a4g (h1b (i:=3) (fun E=>(h1a (g1v (E:=E) d7s (hr.mono (by decide)) (by rfl) T.f1i T.c0l.kp T.f1h .nil (a0g (pvF 0) a0h)))) (fun e=>(a0i (a2k (i:=2) c1i.nd rfl (Or.inl rfl) (pvF 3)))) (by rfl) T.f6w T.h4b c1i.nd rfl rfl)
   (a0i (a1o (f4l (c8n (b0m hu) (a2g g4c (hr.mono (by decide)) (by rfl) T.g3b T.b7u.kp T.g3a .nil a6o (a0g (pvF 2) a0h)) (a3v (a0g (pvF 1) a0h)) (a2j _)) (g0b (a1h b7m (by rfl) T.a1z boot_isinstance (a0g (pvF 2) (a0g (b5g (v:=.ty "ValueError") (u:=.type "ValueError") (by rfl) T.g6l rfl rfl) a0h))))))))),?_⟩
  walk_at"rd"
  obtain⟨Mid,pin,pout⟩:=g7n (fun σ' H'=>∃ (e:Addr) (c:Nat) (d:Option Addr),σ' = [some v,some (.str k),some (.ref e),none]/\Same H H'/\H' e=some (i3q e (.ref (exT A c)) d)/\1<=c/\c<=7/\k=kS c)
  refine⟨Mid,?_,?_⟩
  ·clear hu
   rcases hv with ⟨ty,ht,nt,e⟩ | ⟨x,c',g,ws,rfl,⟨x1,x2,x3,x4⟩,rn,h1,h2,e⟩
   ·walk_at"rd"
    exact .inl ⟨ty,ht,nt,fun H1 S1=>⟨T.b4v,fun e' H2 n2 S2 h2=>pin _ _ ⟨e',1,none,rfl,S1.trans S2,h2,by decide,by decide,e⟩⟩⟩
   ·walk_at"rd"
    have X:=kx T c' (by omega) h2
    refine⟨x1,x2,x3,x4,c',g,ws,rn,(fun z=>absurd z h1),(fun _ _ H1 S1=>⟨X.s,fun e' H2 n2 S2 hh=>pin _ _ ⟨e',c',none,rfl,S1.trans S2,hh,by omega,h2,e⟩⟩),fun z a y r d l2 H1 _ _ _ _ nd nl S1 hd hl2=>?_⟩
    subst z
    exact⟨T.b8m,fun e' H2 n2 S2 hh=>pin _ _ ⟨e',6,some d,rfl,S1.trans S2,hh,by decide,by decide,e⟩⟩
  ·intro σ' H' hm
   obtain⟨e,c',d,rfl,S1,he,h1,h7,ek'⟩:=pout _ _ hm
   have X:=kx T c' h1 h7
   clear hm pin pout hv
   walk_at"rd"
   refine⟨c',h1,h7,d,he,fun l2 H2 n2 S2 h2=>?_⟩
   refine⟨by omega,fun l3 H3 n3 S3 h3=>?_⟩
   walk_at"rd"
   refine h1g (ns:=[kS c']) (ms:=[kS c']) (SqL.of (S3 _ _ h2)) (SqL.of (by rw [h3,ek']; rfl)) (fun z hz=>by rw [List.mem_singleton.mp hz]; exact j5m _) (fun z hz=>by rw [List.mem_singleton.mp hz]; exact j5m _) ?_
   rw [decide_eq_true rfl]
   have S03:=S1.trans (S2.trans S3)
   have he3:=(S2.trans S3) _ _ he
   walk_at"rd"
   exact iseT he3 X.q X.v (q H3 S03)
theorem Path.at{es:List (Str×Str)}{u v:Str}:∀ {r:List Str} {i:Nat},Path es r->r[i]? = some u->r[i+1]? = some v->(u,v)∈es
 | [],_,_,h,_=>by simp at h
 | [_],_,_,_,h=>by simp at h
 | x :: y :: r,0,p,h1,h2=>by
  cases h1
  cases h2
  exact p.1
 | x :: y :: r,i+1,p,h1,h2=>Path.at (r:=y :: r) (i:=i) p.2 (by simpa using h1) (by simpa using h2)
theorem k2n{e:Str×Str}(h1:PyData.strOk e.1=true)(h2:PyData.strOk e.2=true):PySem.W.kqdOk 8 (dPr e)=true:=by
 show (PyData.strOk e.1 && (PyData.strOk e.2 && true))=true
 rw [h1,h2]
 rfl
theorem i9f{e:Str×Str}{es:List (Str×Str)}:dPr e∈es.map dPr ↔ e∈es:=by
 constructor
 ·intro h
  obtain⟨f,hf,q⟩:=List.mem_map.mp h
  unfold dPr at q
  injection q with q
  injection q with q1 q2
  injection q2 with q2 _
  injection q1 with q1
  injection q2 with q2
  rw [show e=f from Prod.ext q1.symm q2.symm]
  exact hf
 ·exact fun h=>List.mem_map_of_mem h
theorem k0o(T:Tx K mg A):a2m P A.wd K mg base CX0 15 A.a9t A.b0l ["_law_text_here","_law_sends","_law_words"] spRT:=by
 have d7s:a2m P A.wd K mg base (CXE P A.wd) 14 _ _ _ _:=h0f T
 refine T.b3p.ok b0h (fun _ _ _ _ h=>j3o h) (fun _ _ _ _ H vs Q E hr h=>?_)
 ·obtain⟨x,ls,lw,rfl,⟨N,g,a,y,k,r0,us,⟨x1,x2,x3,x4⟩,rn,hl,R,hw,e90,nms,ny,q⟩⟩:=i4l h
  have hu:=hr.units
  have hs:=szl
  obtain⟨ps,rfl,hE⟩:=h1u R
  have el:=hE.1
  have eln:(prs g.es).length<=90:=by rw [prs,List.length_map]; exact e90
  have oke:∀ e∈prs g.es,PyData.strOk e.1=true/\PyData.strOk e.2=true:=fun f hf=>by
   obtain⟨e,he,rfl⟩:=List.mem_map.mp hf
   exact⟨g3y (nms e he).1,g3y (nms e he).2⟩
  refine⟨_,(a0k (a2k (i:=3) b0h.nd rfl (Or.inl rfl) f1t)
   (a4g (h1b (i:=4) (fun E=>(h1a (g1v (E:=E) d7s (hr.mono (by decide)) (by rfl) T.f1i T.c0l.kp T.f1h .nil (a0g (pvF 0) a0h)))) (fun e=>(a0i (a2k (i:=3) b0h.nd rfl (Or.inl rfl) (i0x (K:=K) (by rfl) (pvF 4) rfl)))) (by rfl) T.g9v T.h1r b0h.nd rfl rfl)
   (a0k (a3s (pw_or (b0z (a3z (a1h (b2q .lst) (by rfl) T.a1z boot_isinstance (a0g (pvF 3) (a0g (b5g (v:=.ty "list") (u:=.type "list") (by rfl) T.d9l rfl rfl) a0h))))) (pw_or (a0t (b0m hu) (pvF 3) (a3v a0h) (a2j _)) (pw_or (a0t (c1l hu) (a2h a8m (pvF 3) a0p (fun _ _=>rfl)) (a2h a8m (pvF 2) a0p (fun _ _=>rfl)) (a2j _)) (pw_or1 (a0t (c1l hu) (a2h a8m (pvF 3) (j0k i3f a0p) (fun _ _=>rfl)) (a2h a8m (pvF 2) a0p (fun _ _=>rfl)) (a2j _)))))).pt
   (a0i (a1o d6j))
   a0y)
   (a0k (i0z (i:=5) b0h.nd rfl rfl (a5s (pvF 1)) (fun _ _ _ _ _=>(b5j (a0g (pvF 0) (a0g (pvF 1) a0h)))) (i4d (sc:=a0r c4s) (N:=["_law_text_here","_law_sends","_law_words","_law_found","_law_error","_law_pairs","_law_k"]) rfl rfl (by decide +kernel)) rfl)
   (a0k (b5i PassesOwn.never rfl (d4w (by rfl) T.g3c (a0g (a1m i3e (a1h a3y (by rfl) T.c1h boot_len (a0g (pvF 3) a0h)) a0p) a0h)) (a5n (i:=6) b0h.nd rfl (Or.inl rfl))
   (a0i (a3s (pw_or (a0t (h3c hu) (b5j (a0g (a2h a8m (pvF 3) (pvF 6) (fun _ _=>rfl)) (a0g (a2h a8m (pvF 3) (a1m a0s (pvF 6) a0p) (fun _ _=>rfl)) a0h))) (pvF 5) (by rfl)) (pw_or1 (a0t c7s (a2h a8m (pvF 3) (pvF 6) (fun _ _=>rfl)) (b2p h2w (pvF 3) (b2r (a1m a0s (pvF 6) a0p)) b7g) (by rfl)))).pt
   (a0i (a1o d6j))
   a0y)))
   (a0i (a1o d6j))))))),?_⟩
  walk_at"rd"
  obtain⟨Mid,pin,pout⟩:=g7n (fun σ' H'=>∃ (l2:Addr) (r:List Str),σ' = [some (.str x),some (.ref ls),some (.ref lw),some (.ref l2),none,none,none]/\Same H H'/\H' l2=some (.lst (r.map V.str))/\d2t (prs g.es) y a r/\r.length<=101)
  refine⟨Mid,?_,?_⟩
  ·clear hu
   walk_at"rd"
   refine⟨x1,x2,x3,x4,6,g,_,rn,(fun z=>absurd z (by decide)),(fun _ z=>absurd rfl z),fun _ a' y' r d l2 H2 ha hy iw rl nd nl S2 hd hl2=>?_⟩
   cases ha
   cases hy
   refine⟨T.d7j,fun e H3 n3 S3 h3=>?_⟩
   exact⟨_,d,h3,T.h1r,T.d1s.at,_,S3 _ _ hd,_,rfl,pin _ _ ⟨l2,r,rfl,S2.trans S3,S3 _ _ hl2,iw,rl⟩⟩
  intro σ' H1 hm
  obtain⟨lr,r,rfl,S1,hr',iw,r100⟩:=pout _ _ hm
  clear hm pin pout
  have rok:∀ z∈r,PyData.strOk z=true:=fun z hz=>by
   rcases iw.mem hz with e | ⟨u,e⟩
   ·rw [e]; exact g3y ny
   ·exact (oke _ e).2
  have rne:r≠[]:=fun e=>by have h:=iw.head; rw [e] at h; cases h
  have rl:0 < r.length:=by cases r with | nil=>exact absurd rfl rne | cons _ _=>exact Nat.succ_pos _
  have a0:atI (r.map V.str) 0=some (.str y):=c8o (j:=0) (by rw [List.getElem?_map,iw.head]; rfl)
  have a1:atI (r.map V.str) (-1)=some (.str a):=by
   obtain⟨r',e⟩:=iw.last
   rw [e,List.map_append]
   exact h9x _ _
  have hw1:=S1 _ _ hw
  have hl1:=S1 _ _ hl
  replace hw1:H1 lw=some (.lst (.str k :: .str a :: .str y :: r0.map V.str)):=hw1
  refine f8k false (fun Qb hQb=>?_) (fun z=>absurd z (by decide)) (fun _ H2 S2=>?_)
  ·clear q
   walk_at"rd*"
   refine fun l2 H2 n2 S2 h2=>?_
   walk_at"rd"
   refine h1g (ns:=r) (ms:=[]) (SqL.of (S2 _ _ hr')) (SqL.of h2) rok (fun z hz=>by cases hz) ?_
   rw [decide_eq_false rne]
   have hr2:=S2 _ _ hr'
   have hw2:=S2 _ _ hw1
   clear hr' h2 hl1 hw1
   walk_at"rd*"
  have hr2:=S2 _ _ hr'
  have hl2:=S2 _ _ hl1
  have hE2:=hE.same (S1.trans S2)
  clear hr' hl1 hw1 a0 a1
  walk_at"rd*"
  refine⟨⟨_,SqL.of hl2⟩,fun D H3 n3 S3 h3=>?_⟩
  generalize ees:prs g.es=es at *
  refine f4t (xs:=ps.map V.ref) (fun i ys H'=>Same H2 H'/\H' D=some (.lst ys)/\RpL H' (fun _=>False) ys ((es.take i).map dPr)) ⟨S3,h3,.nil⟩ (by rw [List.length_map,hs]; omega) ?_ ?_ ?_
  ·intro i ys H' hi ⟨S',h',R⟩
   refine⟨h',SqL.of (S' _ _ hl2),?_⟩
   rw [List.length_map] at hi
   rw [R.len,List.length_map,List.length_take]
   omega
  ·intro i v ys H' hv ⟨S',h',R⟩
   rw [List.getElem?_map] at hv
   obtain⟨p,hpi,rfl⟩:=Option.map_eq_some_iff.mp hv
   have hi:=(List.getElem?_eq_some_iff.mp hpi).1
   have hei : es[i]? = some (es[i]'(by omega)) := List.getElem?_eq_getElem _
   obtain⟨lw,hpe⟩:=hE2.2 i p _ hpi hei
   generalize es[i]'(by omega) = e at hei hpe
   refine⟨p,_,_,_,rfl,S' _ _ hpe,?_⟩
   walk_at"rd"
   refine fun p4 H4 n4 S4 h4=>⟨S4 _ _ h',fun H5 B5 h5=>⟨(S'.trans S4).step n3 B5,h5,?_⟩⟩
   rw [List.take_add_one,hei,List.map_append]
   exact RpL.put (.snoc (R.same S4) (.tup h4 (.cons (.str _) (.cons (.str _) .nil)))) (S4 _ _ h') (fun z=>z) B5
  ·intro ys H4 ⟨S4,h4,R4⟩
   rw [List.length_map,el,List.take_length] at R4
   have hr4:=S4 _ _ hr2
   clear hr2 h3 hl2
   walk_at"rd*"
   refine⟨by omega,by omega,?_⟩
   rw [show ((r.length:Int) - 1).toNat=r.length - 1 by omega]
   obtain⟨Pv,pin,pout⟩:=f4m (fun k σ H'=>∃ v6:Option V,σ = [some (.str x),some (.ref ls),some (.ref lw),some (.ref lr),none,some (.ref D),v6]/\Same H4 H')
   refine d9w (n:=r.length - 1) Pv (pin _ _ _ ⟨_,rfl,Same.refl _⟩) ?_ ?_
   ·intro j σ H5 hj hp
    obtain⟨v6,rfl,S5⟩:=pout _ _ _ hp
    have hr5:=S5 _ _ hr4
    have hD5:=S5 _ _ h4
    rw [Int.zero_add]
    obtain⟨b,hb⟩:∃ b,r[j]? = some b:=⟨_,List.getElem?_eq_getElem (by omega)⟩
    obtain⟨c,hc⟩:∃ c,r[j+1]? = some c:=⟨_,List.getElem?_eq_getElem (by omega)⟩
    have ab:atI (r.map V.str) (j:Int)=some (.str b):=c8o (by rw [List.getElem?_map,hb]; rfl)
    have ac:atI (r.map V.str) ((j:Int)+1)=some (.str c):=c8o (j:=j+1) (by rw [List.getElem?_map,hc]; rfl)
    have nd:b∉r.drop (j+1):=fun h=>by
     obtain⟨m,hm,e⟩:=List.getElem_of_mem h
     rw [List.length_drop] at hm
     rw [List.getElem_drop] at e
     have e2:r[j]? = r[j+1+m]?:=by rw [hb,List.getElem?_eq_getElem (by omega),e]
     exact absurd ((List.getElem?_inj (by omega) iw.nd).mp e2) (by omega)
    have me:=Path.at iw.path hb hc
    clear hp hr4 h4
    walk_at"rd*"
    refine fun p7 H7 n7 S7 h7=>?_
    have hD7:=S7 _ _ hD5
    have S47:=S5.trans S7
    walk_at"rd"
    refine⟨D,ys,dPr (b,c),es.map dPr,rfl,hD7,?_,RpL.deep (R4.same S47),(fun e he=>?_),k2n (oke _ me).1 (oke _ me).2,fun cc hcc=>?_⟩
    ·exact Rp.deep (N:=fun _=>False) (.tup h7 (.cons (.str _) (.cons (.str _) .nil)))
    ·obtain⟨f,hf,rfl⟩:=List.mem_map.mp he
     exact k2n (oke _ hf).1 (oke _ hf).2
    ·rw [hcc.mpr (i9f.mpr me)]
     have hr7:=S7 _ _ hr5
     clear hr5 hD5 hD7 h7
     walk_at"rd*"
     refine fun l8 H8 n8 S8 h8=>?_
     rw [show (((j:Int)+1))=((j+1:Nat):Int) by omega,i6d,h0w,c1m] at h8
     have iv:=a7p b (r.drop (j+1))
     have ft:=a9k (r.drop (j+1))
     rw [decide_eq_false nd] at iv
     walk_at"rd*"
     exact⟨rfl,pin _ _ _ ⟨_,rfl,S47.trans S8⟩⟩
   ·intro σ H5 hp
    obtain⟨v6,rfl,S5⟩:=pout _ _ _ hp
    walk_at"rd"
    exact q H5 (S1.trans (S2.trans (S4.trans S5)))
theorem h2b{K:PySem.W.Frag}{a D:Addr}{ss:List Str}{s:Str}{σ:L2.St}{H0 H:Hp}{Q:VK}(f:Str->Ln)(hf:∀ x,s++x=(f x).line)(n0:H0 D=none)(S:Same H0 H)(hD:H D=some (.lst []))(hS:H0 a=some (.lst (ss.map V.str)))(hl:ss.length<=90)(hn:∀ x∈ss,a5q x)(sl:s.length<=8)(q:∀ H',Same H0 H'->H' D=some (.lst (ss.map fun x=>V.str (f x).line))->Q (.ref D) H'):f8q (Itl K a) (tOp h2t (tC (V.str s)) (d7y 0)) D σ H Q ⟨⟩:=by
 have hs:=szl
 refine c3l (ss.map fun x=>V.str (f x).line) (by rw [List.length_map,List.length_map]) n0 S hD (SqL.of hS) (by rw [List.length_map]; omega) ?_ q
 intro i v z H' Q' hx hz S' q'
 rw [List.getElem?_map] at hx hz
 obtain⟨x,hi,rfl⟩:=Option.map_eq_some_iff.mp hx
 rw [hi] at hz
 cases hz
 have nl:=(hn x (List.mem_of_getElem? hi)).1
 walk_at"rd"
 rw [hf]
 exact⟨by omega,q'⟩
theorem i9g{K:PySem.W.Frag}{a D:Addr}{os:List (Str×Int)}{us:List V}{σ:L2.St}{H0 H:Hp}{Q:VK}{N:Addr->Prop}(n0:H0 D=none)(S:Same H0 H)(hD:H D=some (.lst []))(hS:H0 a=some (.lst us))(R:RpL H0 N us (os.map dOt))(hl:os.length<=90)(hn:∀ x∈os,(Ln.ou x).fm)(q:∀ H',Same H0 H'->H' D=some (.lst (os.map fun x=>V.str (Ln.ou x).line))->Q (.ref D) H'):h1c (Itl K a) (tOp h2t (tOp h2t (tOp h2t (tC (V.str (Str.ofString "out "))) (d7y 0)) (tC (V.str (Str.ofString " ")))) (d7y 1)) D σ H Q ⟨⟩:=by
 have hs:=szl
 have ul:=R.h2z
 refine g8h (xs:=us) (fun i ys H'=>Same H0 H'/\H' D=some (.lst ys)/\ys=(os.take i).map fun x=>V.str (Ln.ou x).line) ⟨S,hD,rfl⟩ (by omega) ?_ ?_ ?_
 ·intro i ys H' hi ⟨S',h',e⟩
  exact⟨h',SqL.of (S' _ _ hS),by rw [e,List.length_map,List.length_take]; omega⟩
 ·intro i x ys H' hx ⟨S',h',e⟩
  obtain⟨y,pe,he,rfl,hpe⟩:=i4x R hx
  refine⟨pe,_,_,rfl,S' _ _ hpe,?_⟩
  obtain⟨f1,f2,f3⟩:=hn y (List.mem_of_getElem? he)
  have a:=i8x f2 f3
  have b:=f1.1
  have e1:(Str.ofString "out ").length=4:=by decide +kernel
  have e2:(Str.ofString " ").length=1:=by decide +kernel
  have w:=k2m y
  walk_at"rd"
  simp only [strLen_append,e1,e2]
  rw [w]
  refine⟨by omega,by omega,by omega,h',fun H2 B2 h2=>⟨S'.step n0 B2,h2,?_⟩⟩
  rw [e,List.take_add_one,he,List.map_append]
  rfl
 ·intro ys H' ⟨S',h',e⟩
  rw [ul,List.take_length] at e
  subst e
  exact q H' S' h'
theorem i9h{K:PySem.W.Frag}{a D:Addr}{es:List Sd}{us:List V}{σ:L2.St}{H0 H:Hp}{Q:VK}{N:Addr->Prop}(n0:H0 D=none)(S:Same H0 H)(hD:H D=some (.lst []))(hS:H0 a=some (.lst us))(R:RpL H0 N us (es.map dSd))(hl:es.length<=90)(hn:∀ e∈es,(Ln.se e).fm)(q:∀ H',Same H0 H'->H' D=some (.lst (es.map fun x=>V.str (Ln.se x).line))->Q (.ref D) H'):h1l (Itl K a) (j7t i3m i3z (tC (V.str (Str.ofString " "))) (g4i (tOp h2t (j1g (g4i (tC (V.str (Str.ofString "send"))) (g4i (d7y 0) (g4i (d7y 1) h9u)))) (d7y 2)) h9u)) D σ H Q ⟨⟩:=by
 have hs:=szl
 have ul:=R.h2z
 refine f4t (xs:=us) (fun i ys H'=>Same H0 H'/\H' D=some (.lst ys)/\ys=(es.take i).map fun x=>V.str (Ln.se x).line) ⟨S,hD,rfl⟩ (by omega) ?_ ?_ ?_
 ·intro i ys H' hi ⟨S',h',e⟩
  exact⟨h',SqL.of (S' _ _ hS),by rw [e,List.length_map,List.length_take]; omega⟩
 ·intro i x ys H' hx ⟨S',h',e⟩
  obtain⟨y,pe,lw,he,rfl,hpe,_,hlw⟩:=R.at3 hx
  have fm:=hn y (List.mem_of_getElem? he)
  refine⟨pe,_,_,_,rfl,S' _ _ hpe,?_⟩
  have k2o:=S' _ _ hlw
  have l8:=fm.1.len.2
  have e':=(id e:id _)
  clear e
  rw [j6q]
  walk_at"rd*"
  refine fun l1 H1 n1 S1 h1=>?_
  have hl1:=S1 _ _ k2o
  clear hlw k2o hpe
  walk_at"rd*"
  refine⟨by omega,fun l2 H2 n2 S2 h2=>?_⟩
  clear hl1 h1
  have jo:JoinOk ⟨#[32]⟩ (Ln.se y).ws=true:=joinOk_of (n:=4000) (Ln.lens fm).1 (by have:=(Ln.lens fm).2; rw [b8s]; omega)
  walk_at"rd*"
  refine⟨(Ln.se y).ws,rfl,jo,(S1.trans S2) _ _ h',fun H3 B3 h3=>⟨(S'.trans (S1.trans S2)).step n0 B3,?_,?_⟩⟩
  ·exact h3
  have e:ys=(es.take i).map fun x=>V.str (Ln.se x).line:=e'
  rw [e,List.take_add_one,he,List.map_append,h6x]
  rfl
 ·intro ys H' ⟨S',h',e⟩
  rw [ul,List.take_length] at e
  subst e
  exact q H' S' h'
theorem j5n(T:Tx K mg A):a2m P A.wd K mg base CX0 1 A.b9v A.b9w ["_law_lists"] j9z:=by
 refine T.d0w.ok d6s (fun _ _ _ _ h=>f3t h) (fun _ _ _ _ H vs Q E hr h=>?_)
 ·obtain⟨L,rfl,⟨t,b,sd,ou,p,hq,hF,q⟩⟩:=f2t h
  have hu:=hr.units
  have hs:=szl
  have e0:Str.empty.length=0:=rfl
  have e1:(Str.ofString "track ").length=6:=by decide +kernel
  have e2:(Str.ofString "bus ").length=4:=by decide +kernel
  have e3:(Str.ofString "out ").length=4:=by decide +kernel
  have e4:(Str.ofString " ").length=1:=by decide +kernel
  have lt:=hF.lt
  have lb:=hF.lb
  have le:=hF.le
  have lo:=hF.lo
  have hL:=hq.hL
  have ht:=hq.ht
  refine⟨_,(a4g (a2k (i:=1) d6s.nd rfl (Or.inl rfl) (a1m a0s (b2u (a5s (a2h a8m (pvF 0) a0p (fun _ _=>rfl))) (fun _ _ _ _ _=>(a1m a0s a0o (pvF 0))) (d1h (sc:=a0r c3z) (N:=["_law_lists","_law_lines_here"]) rfl rfl (by decide +kernel)) rfl) (b2u (a5s (a2h a8m (pvF 0) a0p (fun _ _=>rfl))) (fun _ _ _ _ _=>(a1m a0s a0o (pvF 0))) (d1h (sc:=a0r c3z) (N:=["_law_lists","_law_lines_here"]) rfl rfl (by decide +kernel)) rfl)))
   (a4g (a2k (i:=1) d6s.nd rfl (Or.inl rfl) (a1m a0s (pvF 1) (i0y (a5s (a2h a8m (pvF 0) a0p (fun _ _=>rfl))) (fun _ _ _ _ _=>(a7q a9j PySem.F.plainAttrs_str PySem.F.slot_str_join PySem.F.type_str_join d8k a0o (a0g (a1m a0s (a3v (a0g a0o (a0g (pvF 0) (a0g (pvF 1) a0h)))) (pvF 2)) a0h))) (i4d (sc:=a0r c3z) (N:=["_law_lists","_law_lines_here"]) rfl rfl (by decide +kernel)) rfl)))
   (a0i (a1o (a7q a9j PySem.F.plainAttrs_str PySem.F.slot_str_join PySem.F.type_str_join d8k a0o (a0g (a1m a0s (pvF 1) (i0n (a5s (a2h a8m (pvF 0) a0p (fun _ _=>rfl))) (fun _ _ _ _ _=>(a1m a0s (a1m a0s (a1m a0s a0o (pvF 0)) a0o) (pvF 1))) (j2m (sc:=a0r c3z) (N:=["_law_lists","_law_lines_here"]) rfl rfl (by decide +kernel)) rfl)) a0h)))))),?_⟩
  clear hu
  obtain⟨Mid1,in1,out1⟩:=g7n (fun σ' H'=>∃ (l:Addr),σ' = [some (.ref L),some (.ref l)]/\Same H H'/\H' l=some (.lst ((p.ts.map fun x=>V.str (Ln.tr x).line)++p.bs.map fun x=>V.str (Ln.bu x).line)))
  refine⟨Mid1,?_,?_⟩
  ·walk_at"rd*"
   refine⟨⟨_,SqL.of ht⟩,fun D H2 n2 S2 h2=>?_⟩
   refine h2b .tr k2k n2 S2 h2 ht (by omega) hF.t (by omega) fun H3 S3 h3=>?_
   have hq3:=hq.same S3
   have hL3:=hq3.hL
   have hb3:=hq3.hb
   clear hL ht h2 hq
   walk_at"rd*"
   refine⟨⟨_,SqL.of hb3⟩,fun D4 H4 n4 S4 h4=>?_⟩
   refine h2b .bu k2l n4 S4 h4 hb3 (by omega) hF.b (by omega) fun H5 S5 h5=>?_
   have h35:=S5 _ _ h3
   clear hL3 hb3 h3 h4
   walk_at"rd*"
   refine⟨by omega,fun l6 H6 n6 S6 h6=>?_⟩
   walk_at"rd"
   exact in1 _ _ ⟨l6,rfl,S3.trans (S5.trans S6),h6⟩
  intro σ1 H1 hm
  obtain⟨l1,rfl,S1,h1⟩:=out1 _ _ hm
  clear hm in1 out1 hL ht
  have hq1:=hq.same S1
  obtain⟨Mid2,in2,out2⟩:=g7n (fun σ' H'=>∃ (l:Addr),σ' = [some (.ref L),some (.ref l)]/\Same H H'/\H' l=some (.lst (((p.ts.map fun x=>V.str (Ln.tr x).line)++p.bs.map fun x=>V.str (Ln.bu x).line)++p.es.map fun x=>V.str (Ln.se x).line)))
  refine⟨Mid2,?_,?_⟩
  ·have hL1:=hq1.hL
   obtain⟨us,hsd,R1⟩:=hq1.hs
   walk_at"rd*"
   refine⟨⟨_,SqL.of hsd⟩,fun D2 H2 n2 S2 h2=>?_⟩
   refine i9h n2 S2 h2 hsd R1 (by omega) hF.s fun H3 S3 h3=>?_
   have h13:=S3 _ _ h1
   clear hL1 hsd h1 h2
   walk_at"rd*"
   refine⟨by omega,fun l4 H4 n4 S4 h4=>?_⟩
   walk_at"rd"
   exact in2 _ _ ⟨l4,rfl,S1.trans (S3.trans S4),h4⟩
  clear h1 hq1 S1
  intro σ1 H1 hm
  obtain⟨l1,rfl,S1,h1⟩:=out2 _ _ hm
  clear hm in2 out2
  have hq1:=hq.same S1
  have hL1:=hq1.hL
  obtain⟨us,hou,R1⟩:=hq1.ho
  walk_at"rd*"
  simp only [i3y]
  walk_at"rd*"
  refine⟨⟨_,SqL.of hou⟩,fun D2 H2 n2 S2 h2=>?_⟩
  refine i9g n2 S2 h2 hou R1 (by omega) hF.o fun H3 S3 h3=>?_
  have h13:=S3 _ _ h1
  clear hL1 hou h1 h2
  walk_at"rd*"
  refine⟨by omega,fun l4 H4 n4 S4 h4=>?_⟩
  replace h4:H4 l4=some (.lst (((lns p).map Ln.line).map V.str)):=by
   rw [h4]
   simp only [lns,List.map_append,List.map_map,List.append_assoc]
   rfl
  have ll:(lns p).length<=360:=by
   unfold lns
   simp only [List.length_append,List.length_map]
   omega
  have jo:JoinOk ⟨#[10]⟩ ((lns p).map Ln.line)=true:=joinOk_of (n:=45000) (fun y hy=>by obtain⟨l,hl,rfl⟩:=List.mem_map.mp hy; exact Ln.len (hF.fm l hl)) (by rw [List.length_map,b8s]; omega)
  clear h3 h13
  rw [j6r]
  walk_at"rd*"
  refine⟨(lns p).map Ln.line,rfl,jo,?_⟩
  rw [h6x]
  exact q H4 (S1.trans (S3.trans S4))
theorem k0p(h:Int)(k:Nat):sg (nmH h k)=(nmG h).take (nmA h)++(97+k) :: (nmG h).drop (nmA h):=rfl
theorem h9a{h:Int}{c:Nat}(hc:c∈nmG h):111<=c/\c<=117:=by
 have:=List.mem_of_mem_take hc
 simp only [List.mem_cons,List.mem_nil_iff,or_false] at this
 omega
theorem i9i{h:Int}{k:Nat}(hk:k < 4):a5q (nmH h k):=by
 have l7:(nmG h).length<=7:=by
  unfold nmG
  rw [List.length_take]
  exact Nat.min_le_right _ _
 have z:(nmG h).length=((nmG h).take (nmA h)).length+((nmG h).drop (nmA h)).length:=by rw [<- List.length_append,List.take_append_drop]
 have e:(nmH h k).length=(nmG h).length+1:=by
  rw [<- b0v,k0p,List.length_append,List.length_cons]
  omega
 refine⟨by omega,fun q=>?_,fun c hc=>?_⟩
 ·rw [q] at e
  have z:(Str.ofString "").length=0:=by decide +kernel
  omega
 ·rcases List.mem_append.mp (show c∈(nmG h).take (nmA h)++(97+k) :: (nmG h).drop (nmA h) from hc) with m | m
  ·have:=h9a (List.mem_of_mem_take m)
   omega
  ·rcases List.mem_cons.mp m with m | m
   ·omega
   ·have:=h9a (List.mem_of_mem_drop m)
    omega
theorem k0q(T:Tx K mg A):a2m P A.wd K mg base CX0 1 A.b9p A.b9q ["_law_head","_law_k"] spNm:=by
 refine T.d0t.ok d6r (fun _ _ _ _ h=>i7c h) (fun _ _ _ _ H vs Q E hr h=>?_)
 ·obtain⟨g,k,rfl,⟨k0,k1,q⟩⟩:=i1c h
  have hu:=hr.units
  have hs:=szl
  have f8:=i4r g (b:=8) (by decide)
  have l1:(Str.ofString "opqrstu").length=7:=by decide +kernel
  have l2:(Str.ofString "abcd").length=4:=by decide +kernel
  refine⟨_,(h6k (a2k (i:=2) d6r.nd rfl (Or.inl rfl) (b2p h2w a0o b7g (b2r (a1m d3h (pvF 0) a0p))))
   (a0k (a2k (i:=3) d6r.nd rfl (Or.inl rfl) (a1m d3h (a1m c8p (pvF 0) a0p) (a1m a0s (a1h a3y (by rfl) T.c1h boot_len (a0g (pvF 2) a0h)) a0p)))
   (a0i (a1o (a1m a0s (a1m a0s (b2p h2w (pvF 2) b7g (b2r (pvF 3))) (a2h a8m a0o (pvF 1) (fun _ _=>rfl))) (b2p h2w (pvF 2) (b2r (pvF 3)) b7g)))))),?_⟩
  walk_at"rd*"
  obtain⟨n,en⟩:∃ n:Nat,g.fmod 8=n:=⟨(g.fmod 8).toNat,by omega⟩
  have sB:sg (Txt.slice (Str.ofString "opqrstu") none (some (g.fmod 8)))=nmG g:=by
   rw [en,j2i (by omega)]
   unfold nmG
   rw [en,show sg (Str.ofString "opqrstu") = [111,112,113,114,115,116,117] by decide +kernel]
   rfl
  generalize Txt.slice (Str.ofString "opqrstu") none (some (g.fmod 8))=B at sB
  have lB:B.length=(nmG g).length:=by rw [<- b0v,sB]
  have l7:(nmG g).length<=7:=by
   unfold nmG
   rw [List.length_take]
   exact Nat.min_le_right _ _
  have fa:=i4r (g.fdiv 8) (b:=((nmG g).length:Int)+1) (by omega)
  have ea:(g.fdiv 8).fmod (((nmG g).length:Int)+1)=(nmA g:Int):=by
   unfold nmA
   omega
  have aB:nmA g<=B.length:=by
   rw [lB]
   unfold nmA
   omega
  obtain⟨kk,rfl⟩:=Int.eq_ofNat_of_zero_le k0
  have ec:atI (Str.ofString "abcd").cps.toList (kk:Int)=some (97+kk):=by
   rw [show (Str.ofString "abcd").cps.toList=List.range' 97 4 by decide +kernel]
   refine c8o ?_
   rw [List.getElem?_range' (by omega)]
   simp
  have s1:=j2i aB
  have s2:=h6r aB
  have n1:(Txt.slice B none (some (nmA g:Int))).length<=7:=by rw [<- b0v,s1,List.length_take]; omega
  have n2:(Txt.slice B (some (nmA g:Int)) none).length<=7:=by rw [<- b0v,s2,List.length_drop]; rw [b0v]; omega
  have z1:¬ ((nmG g).length:Int)+1=0:=by omega
  clear f8 fa en
  refine Stop.go ?_
  walk_at"rd*"
  rw [strLen_append,b8s]
  refine⟨⟨by decide,by decide⟩,by omega,by omega,by omega,by omega,by omega,?_⟩
  have e:Txt.slice B none (some (nmA g:Int))++(⟨#[97+kk]⟩:Str)++Txt.slice B (some (nmA g:Int)) none=nmH g kk:=b2t (by
   rw [a5u,a5u,s1,s2,sB]
   show _=_++_ :: _
   rw [List.append_assoc]
   rfl)
  rw [e]
  exact q _ (i9i (by omega))
theorem g7k(l:List Nat):spl l≠[]:=by
 cases l with
 | nil=>simp [spl]
 | cons c r=>unfold spl; split <;> simp
theorem h2c:∀ (l:List Nat),∀ w∈spl l,32∉w
 | [],w,h=>by rw [spl,List.mem_singleton] at h; rw [h]; simp
 | c :: r,w,h=>by
  unfold spl at h
  split at h
  ·rcases List.mem_cons.mp h with rfl | h
   ·simp
   ·exact h2c r w h
  ·rename_i hc
   obtain⟨u,us,e⟩:=List.exists_cons_of_ne_nil (g7k r)
   rw [e] at h
   have hu:=h2c r u (by rw [e]; exact List.mem_cons_self)
   rcases List.mem_cons.mp h with rfl | h
   ·simp only [List.headD_cons,List.mem_cons,not_or]
    exact⟨fun z=>hc z.symm,hu⟩
   ·exact h2c r w (by rw [e]; exact List.mem_cons_of_mem _ h)
theorem i4z:∀ l:List Nat,jn (spl l)=l
 | []=>rfl
 | c :: r=>by
  have ih:=i4z r
  obtain⟨u,us,e⟩:=List.exists_cons_of_ne_nil (g7k r)
  unfold spl
  split
  ·rename_i hc
   rw [e] at ih ⊢
   show []++32 :: jn (u :: us)=_
   rw [ih,hc]
   rfl
  ·rw [e] at ih ⊢
   cases us with
   | nil =>
    have ih:u=r:=ih
    show c :: u=c :: r
    rw [ih]
   | cons v vs =>
    have ih:u++32 :: jn (v :: vs)=r:=ih
    show (c :: u)++32 :: jn (v :: vs)=c :: r
    rw [List.cons_append,ih]
section
variable {t b c:Str}
theorem i5a(l m:List Nat):sb t b c (l++m)=sb t b c l++sb t b c m:=List.flatMap_append
theorem h2d:∀ {l:List Nat},(l.all fun n=>decide (n < 1114112))=true->sb t b c l=l
 | [],_=>rfl
 | n :: r,h=>by
  rw [List.all_cons,Bool.and_eq_true,decide_eq_true_eq] at h
  show sb1 t b c n++sb t b c r=n :: r
  rw [h2d h.2]
  unfold sb1
  rw [if_neg (by omega),if_neg (by omega),if_neg (by omega)]
  rfl
theorem i9j(ht:a5q t)(hb:a5q b)(hc:a5q c){k:Nat}(hk:k < 97):∀ {l:List Nat},k∉l->k∉sb t b c l
 | [],h=>h
 | n :: r,h=>by
  rw [List.mem_cons,not_or] at h
  show k∉sb1 t b c n++sb t b c r
  rw [List.mem_append,not_or]
  refine⟨?_,i9j ht hb hc hk h.2⟩
  unfold sb1
  split
  ·exact h0h ht hk
  ·split
   ·exact h0h hb hk
   ·split
    ·exact h0h hc hk
    ·rw [List.mem_singleton]; exact h.1
theorem i5b(ht:a5q t)(hb:a5q b)(hc:a5q c):∀ l:List Nat,(sb t b c l).length<=k0a l
 | []=>Nat.le_refl _
 | n :: r=>by
  show (sb1 t b c n++sb t b c r).length<=(if 1114112<=n then 8 else 1)+k0a r
  have ih:=i5b ht hb hc r
  have l1:(sg t).length<=8:=by rw [b0v]; exact ht.1
  have l2:(sg b).length<=8:=by rw [b0v]; exact hb.1
  have l3:(sg c).length<=8:=by rw [b0v]; exact hc.1
  rw [List.length_append]
  unfold sb1
  split
  ·rw [if_pos (by omega)]; omega
  ·split
   ·rw [if_pos (by omega)]; omega
   ·split
    ·rw [if_pos (by omega)]; omega
    ·rw [List.length_singleton]
     split <;> omega
theorem j5o:∀ {ws:List (List Nat)},ws≠[]->sg (Str.join ⟨#[32]⟩ (ws.map fun w=>(⟨(sb t b c w).toArray⟩:Str)))=sb t b c (jn ws)
 | [w],_=>by simp [jn,g8j,sg]
 | w :: u :: r,_=>by
  have ih:=j5o (ws:=u :: r) (by simp)
  rw [List.map_cons] at ih
  rw [List.map_cons,List.map_cons,b1j,ih]
  show _=sb t b c (w++32 :: jn (u :: r))
  rw [i5a]
  show _=sb t b c w++(sb1 t b c 32++sb t b c (jn (u :: r)))
  rfl
theorem Sb.app{x y:Str}{l m:List Nat}(h1:Sb t b c x l)(h2:Sb t b c y m):Sb t b c (x++y) (l++m):=by
 unfold Sb at *
 rw [a5u,h1,h2,i5a]
theorem Sb.nt:Sb t b c t [1114112]:=by unfold Sb sb sb1; simp
theorem Sb.nb:Sb t b c b [1114113]:=by unfold Sb sb sb1; simp
theorem Sb.nc:Sb t b c c [1114114]:=by unfold Sb sb sb1; simp
theorem Sb.lit{x:Str}(h:((sg x).all fun n=>decide (n < 1114112))=true):Sb t b c x (sg x):=(h2d h).symm
theorem g4d{x:Str}{l:List Nat}(ht:a5q t)(hb:a5q b)(hc:a5q c)(h:Sb t b c x l)(k:chk l=true):GL x:=by
 unfold chk at k
 simp only [Bool.and_eq_true,decide_eq_true_eq,Bool.or_eq_true] at k
 obtain⟨⟨k1,k2⟩,k3⟩:=k
 have n10:10∉l:=by simpa using k2
 have sp:a2l x ⟨#[32]⟩=(spl l).map fun w=>(⟨(sb t b c w).toArray⟩:Str):=d5g (fun z=>g7k l (List.map_eq_nil_iff.mp z)) (fun p hp=>by
  obtain⟨w,hw,rfl⟩:=List.mem_map.mp hp
  have:=i9j ht hb hc (k:=32) (by decide) (h2c l w hw)
  simpa [sg] using this) (by rw [j5o (g7k l),i4z]; exact h)
 refine⟨?_,?_,fun hh z hz=>?_⟩
 ·rw [<- b0v,show sg x=sb t b c l from h]
  exact Nat.le_trans (i5b ht hb hc l) k1
 ·rw [show sg x=sb t b c l from h]
  exact i9j ht hb hc (by decide) n10
 ·rw [sp] at hh hz
  rcases k3 with k3 | k3
  ·rw [<- List.map_drop] at hz
   obtain⟨w,hw,rfl⟩:=List.mem_map.mp hz
   have:=List.all_eq_true.mp k3 w hw
   unfold okC at this
   rw [List.any_eq_true] at this
   obtain⟨y,hy,e⟩:=this
   have e:w=sg y:=by simpa using e
   have cl:(w.all fun n=>decide (n < 1114112))=true:=by
    rw [e]
    simp only [List.mem_cons,List.not_mem_nil,or_false] at hy
    rcases hy with rfl | rfl | rfl | rfl | rfl | rfl <;> decide +kernel
   rw [h2d cl,show (⟨w.toArray⟩:Str)=y from b2t (by rw [<- e])]
   simp only [List.mem_cons,List.not_mem_nil,or_false] at hy
   rcases hy with rfl | rfl | rfl | rfl | rfl | rfl
   ·exact .inl (.inl rfl)
   ·exact .inl (.inr rfl)
   ·exact .inr (.inl rfl)
   ·exact .inr (.inr (.inl rfl))
   ·exact .inr (.inr (.inr (.inl rfl)))
   ·exact .inr (.inr (.inr (.inr rfl)))
  ·obtain⟨u,us,e⟩:=List.exists_cons_of_ne_nil (g7k l)
   rw [e] at k3 hh
   have k3:(u.all fun n=>decide (n < 1114112))=true/\(!(u == sg (Str.ofString "send")))=true:=k3
   rw [List.map_cons,List.head?_cons,h2d k3.1] at hh
   have:u=sg (Str.ofString "send"):=by
    injection hh with hh
    rw [<- hh]
   rw [this] at k3
   simp at k3
end
theorem b6g{x:Str}{vs:List V}(h:GL x)(h2:∀ v∈vs,GLv v):∀ v∈V.str x :: vs,GLv v:=fun v hv=>by
 rcases List.mem_cons.mp hv with rfl | hv
 ·exact⟨x,rfl,h⟩
 ·exact h2 v hv
theorem d9u:∀ v∈([] : List V),GLv v:=fun v hv=>by cases hv
theorem d6i{us vs:List V}(h1:∀ v∈us,GLv v)(h2:∀ v∈vs,GLv v):∀ v∈us++vs,GLv v:=fun v hv=>(List.mem_append.mp hv).elim (h1 v) (h2 v)
theorem mul9:Txt.mul (Str.ofString " delay:3") 9=Str.ofString " delay:3 delay:3 delay:3 delay:3 delay:3 delay:3 delay:3 delay:3 delay:3":=by decide +kernel
theorem j5p:∀ x∈T4,x.length<=100:=by decide +kernel
theorem j5q:∀ x∈T3,x.length<=100:=by decide +kernel
theorem i9k:∀ x∈W10,x.length<=100:=by decide +kernel
theorem lits:(Str.ofString "out ").length=4/\(Str.ofString " 5 6").length=4/\(Str.ofString "send ").length=5/\(Str.ofString "send").length=4/\(Str.ofString " ").length=1/\(Str.ofString "track ").length=6/\(Str.ofString "bus ").length=4/\(Str.ofString " 7").length=2/\(Str.ofString " x").length=2/\(Str.ofString "send zz ").length=8/\(Str.ofString " zz").length=3/\(Str.ofString "send  ").length=6/\(Str.ofString "  gain:1/2").length=10/\(Str.ofString " 5").length=2/\(Str.ofString " zz bad").length=7/\(Str.ofString " hall:1/1:2").length=11/\(Str.ofString " gain:1").length=7/\(Str.ofString " gain:1/2  gain:1/2").length=19/\(Str.ofString "").length=0/\(Str.ofString " bad").length=4/\(Str.ofString " gain:1/2 delay:3").length=17/\(Str.ofString " delay:3").length=8:=by decide +kernel
theorem j5r(T:Tx K mg A):a2m P A.wd K mg base CX0 1 A.a9q A.b0i ["_law_t","_law_b","_law_c"] k0b:=by
 refine T.b3m.ok a5o (fun _ _ _ _ h=>j3p h) (fun _ _ _ _ H vs Q E hr h=>?_)
 ·obtain⟨t,b,c,rfl,⟨nt,nb,nc,q⟩⟩:=i4m h
  have hu:=hr.units
  have hs:=szl
  have lt:=nt.1
  have lb:=nb.1
  have lc:=nc.1
  refine⟨_,(a4g (a2k (i:=3) a5o.nd rfl (Or.inl rfl) (a3v (a0g a0o (a0g a0o (a0g a0o (a0g a0o (a0g a0o (a0g a0o (a0g a0o (a0g (a1m a0s a0o (pvF 1)) (a0g (a1m a0s (a1m a0s a0o (pvF 1)) a0o) (a0g a0o a0h))))))))))))
   (a4g (a2k (i:=3) a5o.nd rfl (Or.inl rfl) (a1m a0s (pvF 3) (a3v (a0g (a1m a0s a0o (pvF 0)) (a0g a0o (a0g a0o (a0g a0o (a0g a0o (a0g a0o (a0g (a1m a0s (a1m a0s (a1m a0s a0o (pvF 0)) a0o) (pvF 1)) a0h))))))))))
   (a4g (a2k (i:=3) a5o.nd rfl (Or.inl rfl) (a1m a0s (pvF 3) (a3v (a0g a0o (a0g a0o (a0g a0o (a0g a0o (a0g a0o (a0g a0o (a0g a0o (a0g (a1m a0s a0o (pvF 1)) a0h)))))))))))
   (a4g (a2k (i:=3) a5o.nd rfl (Or.inl rfl) (a1m a0s (pvF 3) (a3v (a0g (a1m a0s a0o (pvF 0)) (a0g (a1m a0s a0o (pvF 0)) (a0g (a1m a0s a0o (pvF 1)) (a0g (a1m a0s (a1m a0s a0o (pvF 1)) a0o) (a0g (a1m a0s (a1m a0s a0o (pvF 1)) a0o) (a0g (a1m a0s a0o (pvF 1)) a0h)))))))))
   (a4g (a2k (i:=3) a5o.nd rfl (Or.inl rfl) (a1m a0s (pvF 3) (a3v (a0g (a1m a0s (a1m a0s a0o (pvF 0)) a0o) (a0g (a1m a0s (a1m a0s (a1m a0s a0o (pvF 0)) a0o) (pvF 0)) (a0g (a1m a0s a0o (pvF 1)) (a0g (a1m a0s (a1m a0s a0o (pvF 0)) a0o) (a0g a0o a0h))))))))
   (a4g (a2k (i:=3) a5o.nd rfl (Or.inl rfl) (a1m a0s (pvF 3) (a3v (a0g (a1m a0s (a1m a0s a0o (pvF 0)) a0o) (a0g a0o (a0g a0o (a0g (a1m a0s (a1m a0s a0o (pvF 0)) a0o) (a0g (a1m a0s (a1m a0s (a1m a0s a0o (pvF 2)) a0o) (pvF 0)) a0h))))))))
   (a4g (a2k (i:=3) a5o.nd rfl (Or.inl rfl) (a1m a0s (pvF 3) (b2u (a5s (a3v (a0g a0o (a0g a0o (a0g (a1m i7b a0o a0p) (a0g a0o a0h)))))) (fun _ _ _ _ _=>(a1m a0s (a1m a0s (a1m a0s (a1m a0s a0o (pvF 1)) a0o) (pvF 2)) (pvF 0))) (d1h (sc:=a0r b7n) (N:=["_law_t","_law_b","_law_c","_law_some","_law_word"]) rfl rfl (by decide +kernel)) rfl)))
   (a4g (a2k (i:=3) a5o.nd rfl (Or.inl rfl) (a1m a0s (pvF 3) (b2u (a5s (a3v (a0g a0o (a0g a0o (a0g a0o a0h))))) (fun _ _ _ _ _=>(a1m a0s (a1m a0s (a1m a0s (a1m a0s a0o (pvF 3)) a0o) (pvF 2)) (pvF 0))) (d1h (sc:=a0r b7n) (N:=["_law_t","_law_b","_law_c","_law_some","_law_word"]) rfl rfl (by decide +kernel)) rfl)))
   (a4g (a2k (i:=3) a5o.nd rfl (Or.inl rfl) (a1m a0s (pvF 3) (a3v (a0g (a1m a0s (a1m a0s (a1m a0s a0o (pvF 1)) a0o) (pvF 1)) (a0g (a1m a0s (a1m a0s (a1m a0s (a1m a0s a0o (pvF 1)) a0o) (pvF 1)) a0o) a0h)))))
   (a4g (b5i PassesOwn.never rfl (a5s (a3v (a0g a0o (a0g a0o (a0g a0o (a0g a0o (a0g a0o (a0g a0o (a0g a0o (a0g a0o (a0g a0o (a0g a0o a0h)))))))))))) (a5n (i:=4) a5o.nd rfl (Or.inl rfl))
   (a0i (a5t (a7q a7n PySem.F.plainAttrs_list PySem.F.slot_list_append PySem.F.type_list_append a6n (pvF 3) (a0g (a1m a0s (a1m a0s (a1m a0s a0o (pvF 2)) a0o) (pvF 4)) a0h)))))
   (a0i (a1o (pvF 3))))))))))))),?_⟩
  clear hu
  obtain⟨Mid,min',mout⟩:∃ Mid:Nat->L2.St->Hp->Prop,(∀ n l us H',H l=none->Same H H'->H' l=some (.lst us)->us.length=n->(∀ v∈us,GLv v)->Mid n [some (.str t),some (.str b),some (.str c),some (.ref l),none] H')/\∀ n σ H',Mid n σ H'->∃ l us,σ = [some (.str t),some (.str b),some (.str c),some (.ref l),none]/\H l=none/\Same H H'/\H' l=some (.lst us)/\us.length=n/\∀ v∈us,GLv v:=⟨fun n σ H'=>∃ l us,σ = [some (.str t),some (.str b),some (.str c),some (.ref l),none]/\H l=none/\Same H H'/\H' l=some (.lst us)/\us.length=n/\∀ v∈us,GLv v,fun n l us H' h1 h2 h3 h4 h5=>⟨l,us,rfl,h1,h2,h3,h4,h5⟩,fun n σ H' h=>h⟩
  obtain⟨e0,e1,e2,e3,e4,e5,e6,e7,e8,e9,e10,e11,e12,e13,e14,e15,e16,e17,e18,e19,e20,e21⟩:=lits
  have gl:∀ {x:Str} {l:List Nat},Sb t b c x l->chk l=true->GL x:=g4d nt nb nc
  refine⟨Mid 10,?_,?_⟩
  ·walk_at"rd"
   repeat refine⟨by first | omega | (simp only [strLen_append]; omega),?_⟩
   refine fun l1 H1 n1 S1 h1=>?_
   refine min' 10 l1 _ H1 n1 S1 h1 rfl ?_
   repeat first | exact d9u | refine b6g (gl (by repeat' first | exact Sb.lit (by decide +kernel) | apply Sb.app | exact Sb.nt | exact Sb.nb | exact Sb.nc) (by decide +kernel)) ?_
  intro σ1 H1 hm
  obtain⟨l1,us1,rfl,n1,S1,h1,ul1,g1⟩:=mout _ _ _ hm
  refine⟨Mid 17,?_,?_⟩
  ·walk_at"rd"
   repeat refine⟨by first | omega | (simp only [strLen_append]; omega),?_⟩
   refine fun l2 H2 n2 S2 h2=>?_
   have h12:=S2 _ _ h1
   clear h1
   walk_at"rd*"
   refine fun l3 H3 n3 S3 h3=>?_
   refine min' 17 l3 _ H3 (S1.free (S2.free n3)) (S1.trans (S2.trans S3)) h3 (by rw [List.length_append,ul1]; rfl) (d6i g1 ?_)
   repeat first | exact d9u | refine b6g (gl (by repeat' first | exact Sb.lit (by decide +kernel) | apply Sb.app | exact Sb.nt | exact Sb.nb | exact Sb.nc) (by decide +kernel)) ?_
  clear hm h1 g1 ul1 S1 n1
  clear us1 l1 H1
  intro σ1 H1 hm
  obtain⟨l1,us1,rfl,n1,S1,h1,ul1,g1⟩:=mout _ _ _ hm
  refine⟨Mid 25,?_,?_⟩
  ·walk_at"rd"
   repeat refine⟨by first | omega | (simp only [strLen_append]; omega),?_⟩
   refine fun l2 H2 n2 S2 h2=>?_
   have h12:=S2 _ _ h1
   clear h1
   walk_at"rd*"
   refine fun l3 H3 n3 S3 h3=>?_
   refine min' 25 l3 _ H3 (S1.free (S2.free n3)) (S1.trans (S2.trans S3)) h3 (by rw [List.length_append,ul1]; rfl) (d6i g1 ?_)
   repeat first | exact d9u | refine b6g (gl (by repeat' first | exact Sb.lit (by decide +kernel) | apply Sb.app | exact Sb.nt | exact Sb.nb | exact Sb.nc) (by decide +kernel)) ?_
  clear hm h1 g1 ul1 S1 n1
  clear us1 l1 H1
  intro σ1 H1 hm
  obtain⟨l1,us1,rfl,n1,S1,h1,ul1,g1⟩:=mout _ _ _ hm
  refine⟨Mid 31,?_,?_⟩
  ·walk_at"rd"
   repeat refine⟨by first | omega | (simp only [strLen_append]; omega),?_⟩
   refine fun l2 H2 n2 S2 h2=>?_
   have h12:=S2 _ _ h1
   clear h1
   walk_at"rd*"
   refine fun l3 H3 n3 S3 h3=>?_
   refine min' 31 l3 _ H3 (S1.free (S2.free n3)) (S1.trans (S2.trans S3)) h3 (by rw [List.length_append,ul1]; rfl) (d6i g1 ?_)
   repeat first | exact d9u | refine b6g (gl (by repeat' first | exact Sb.lit (by decide +kernel) | apply Sb.app | exact Sb.nt | exact Sb.nb | exact Sb.nc) (by decide +kernel)) ?_
  clear hm h1 g1 ul1 S1 n1
  clear us1 l1 H1
  intro σ1 H1 hm
  obtain⟨l1,us1,rfl,n1,S1,h1,ul1,g1⟩:=mout _ _ _ hm
  refine⟨Mid 36,?_,?_⟩
  ·walk_at"rd"
   repeat refine⟨by first | omega | (simp only [strLen_append]; omega),?_⟩
   refine fun l2 H2 n2 S2 h2=>?_
   have h12:=S2 _ _ h1
   clear h1
   walk_at"rd*"
   refine fun l3 H3 n3 S3 h3=>?_
   refine min' 36 l3 _ H3 (S1.free (S2.free n3)) (S1.trans (S2.trans S3)) h3 (by rw [List.length_append,ul1]; rfl) (d6i g1 ?_)
   repeat first | exact d9u | refine b6g (gl (by repeat' first | exact Sb.lit (by decide +kernel) | apply Sb.app | exact Sb.nt | exact Sb.nb | exact Sb.nc) (by decide +kernel)) ?_
  clear hm h1 g1 ul1 S1 n1
  clear us1 l1 H1
  intro σ1 H1 hm
  obtain⟨l1,us1,rfl,n1,S1,h1,ul1,g1⟩:=mout _ _ _ hm
  refine⟨Mid 41,?_,?_⟩
  ·walk_at"rd"
   repeat refine⟨by first | omega | (simp only [strLen_append]; omega),?_⟩
   refine fun l2 H2 n2 S2 h2=>?_
   have h12:=S2 _ _ h1
   clear h1
   walk_at"rd*"
   refine fun l3 H3 n3 S3 h3=>?_
   refine min' 41 l3 _ H3 (S1.free (S2.free n3)) (S1.trans (S2.trans S3)) h3 (by rw [List.length_append,ul1]; rfl) (d6i g1 ?_)
   repeat first | exact d9u | refine b6g (gl (by repeat' first | exact Sb.lit (by decide +kernel) | apply Sb.app | exact Sb.nt | exact Sb.nb | exact Sb.nc) (by decide +kernel)) ?_
  clear hm h1 g1 ul1 S1 n1
  clear us1 l1 H1
  intro σ1 H1 hm
  obtain⟨l1,us1,rfl,n1,S1,h1,ul1,g1⟩:=mout _ _ _ hm
  refine⟨Mid 45,?_,?_⟩
  ·walk_at"rd"
   simp only [j3j]
   rw [mul9]
   refine⟨by unfold MulOk; decide +kernel,by omega,?_⟩
   refine fun l2 H2 n2 S2 h2=>?_
   replace h2:H2 l2=some (.lst (T4.map V.str)):=h2
   have h12:=S2 _ _ h1
   clear h1
   walk_at"rd"
   refine⟨⟨_,SqL.of h2⟩,fun D H3 n3 S3 h3=>?_⟩
   refine c3l (xs:=T4.map V.str) ((T4.map fun x=>Str.ofString "send "++t++Str.ofString " "++b++x).map V.str) (by simp only [List.length_map]) n3 S3 h3 (SqL.of h2) (by show 4<=_; omega) ?_ ?_
   ·intro i v z H' Q' hx hz S' q'
    rw [List.getElem?_map] at hx
    obtain⟨x,hi,rfl⟩:=Option.map_eq_some_iff.mp hx
    rw [List.getElem?_map,List.getElem?_map,hi] at hz
    cases hz
    have xl:=j5p x (List.mem_of_getElem? hi)
    walk_at"rd"
    repeat refine⟨by first | omega | (simp only [strLen_append]; omega),?_⟩
    exact q'
   intro H4 S4 h4
   have h14:=S4 _ _ h12
   clear h12 h2 h3
   have gg:∀ v∈((T4.map fun x=>Str.ofString "send "++t++Str.ofString " "++b++x).map V.str),GLv v:=fun v hv=>by
    obtain⟨y,hy,rfl⟩:=List.mem_map.mp hv
    obtain⟨x,hx,rfl⟩:=List.mem_map.mp hy
    simp only [T4,List.mem_cons,List.not_mem_nil,or_false] at hx
    rcases hx with rfl | rfl | rfl | rfl <;> exact⟨_,rfl,gl (by repeat' first | exact Sb.lit (by decide +kernel) | apply Sb.app | exact Sb.nt | exact Sb.nb | exact Sb.nc) (by decide +kernel)⟩
   have ll:((T4.map fun x=>Str.ofString "send "++t++Str.ofString " "++b++x).map V.str).length=4:=rfl
   generalize ((T4.map fun x=>Str.ofString "send "++t++Str.ofString " "++b++x).map V.str)=zs at h4 gg ll
   walk_at"rd*"
   refine fun l5 H5 n5 S5 h5=>?_
   exact min' 45 l5 _ H5 (S1.free (S2.free (S4.free n5))) (S1.trans (S2.trans (S4.trans S5))) h5 (by rw [List.length_append,ul1,ll]) (d6i g1 gg)
  clear hm h1 g1 ul1 S1 n1
  clear us1 l1 H1
  intro σ1 H1 hm
  obtain⟨l1,us1,rfl,n1,S1,h1,ul1,g1⟩:=mout _ _ _ hm
  refine⟨Mid 48,?_,?_⟩
  ·walk_at"rd"
   refine⟨by omega,?_⟩
   refine fun l2 H2 n2 S2 h2=>?_
   replace h2:H2 l2=some (.lst (T3.map V.str)):=h2
   have h12:=S2 _ _ h1
   clear h1
   walk_at"rd"
   refine⟨⟨_,SqL.of h2⟩,fun D H3 n3 S3 h3=>?_⟩
   refine c3l (xs:=T3.map V.str) ((T3.map fun x=>Str.ofString "send "++c++Str.ofString " "++b++x).map V.str) (by simp only [List.length_map]) n3 S3 h3 (SqL.of h2) (by show 3<=_; omega) ?_ ?_
   ·intro i v z H' Q' hx hz S' q'
    rw [List.getElem?_map] at hx
    obtain⟨x,hi,rfl⟩:=Option.map_eq_some_iff.mp hx
    rw [List.getElem?_map,List.getElem?_map,hi] at hz
    cases hz
    have xl:=j5q x (List.mem_of_getElem? hi)
    walk_at"rd"
    repeat refine⟨by first | omega | (simp only [strLen_append]; omega),?_⟩
    exact q'
   intro H4 S4 h4
   have h14:=S4 _ _ h12
   clear h12 h2 h3
   have gg:∀ v∈((T3.map fun x=>Str.ofString "send "++c++Str.ofString " "++b++x).map V.str),GLv v:=fun v hv=>by
    obtain⟨y,hy,rfl⟩:=List.mem_map.mp hv
    obtain⟨x,hx,rfl⟩:=List.mem_map.mp hy
    simp only [T3,List.mem_cons,List.not_mem_nil,or_false] at hx
    rcases hx with rfl | rfl | rfl <;> exact⟨_,rfl,gl (by repeat' first | exact Sb.lit (by decide +kernel) | apply Sb.app | exact Sb.nt | exact Sb.nb | exact Sb.nc) (by decide +kernel)⟩
   have ll:((T3.map fun x=>Str.ofString "send "++c++Str.ofString " "++b++x).map V.str).length=3:=rfl
   generalize ((T3.map fun x=>Str.ofString "send "++c++Str.ofString " "++b++x).map V.str)=zs at h4 gg ll
   walk_at"rd*"
   refine fun l5 H5 n5 S5 h5=>?_
   exact min' 48 l5 _ H5 (S1.free (S2.free (S4.free n5))) (S1.trans (S2.trans (S4.trans S5))) h5 (by rw [List.length_append,ul1,ll]) (d6i g1 gg)
  clear hm h1 g1 ul1 S1 n1
  clear us1 l1 H1
  intro σ1 H1 hm
  obtain⟨l1,us1,rfl,n1,S1,h1,ul1,g1⟩:=mout _ _ _ hm
  refine⟨Mid 50,?_,?_⟩
  ·walk_at"rd"
   repeat refine⟨by first | omega | (simp only [strLen_append]; omega),?_⟩
   refine fun l2 H2 n2 S2 h2=>?_
   have h12:=S2 _ _ h1
   clear h1
   walk_at"rd*"
   refine fun l3 H3 n3 S3 h3=>?_
   refine min' 50 l3 _ H3 (S1.free (S2.free n3)) (S1.trans (S2.trans S3)) h3 (by rw [List.length_append,ul1]; rfl) (d6i g1 ?_)
   repeat first | exact d9u | refine b6g (gl (by repeat' first | exact Sb.lit (by decide +kernel) | apply Sb.app | exact Sb.nt | exact Sb.nb | exact Sb.nc) (by decide +kernel)) ?_
  clear hm h1 g1 ul1 S1 n1
  clear us1 l1 H1
  intro σ1 H1 hm
  obtain⟨l1,us1,rfl,n1,S1,h1,ul1,g1⟩:=mout _ _ _ hm
  have gg:∀ v∈((W10.map fun x=>Str.ofString "out "++c++Str.ofString " "++x).map V.str),GLv v:=fun v hv=>by
   obtain⟨y,hy,rfl⟩:=List.mem_map.mp hv
   obtain⟨x,hx,rfl⟩:=List.mem_map.mp hy
   simp only [W10,List.mem_cons,List.not_mem_nil,or_false] at hx
   rcases hx with rfl | rfl | rfl | rfl | rfl | rfl | rfl | rfl | rfl | rfl <;> exact⟨_,rfl,gl (by repeat' first | exact Sb.lit (by decide +kernel) | apply Sb.app | exact Sb.nt | exact Sb.nb | exact Sb.nc) (by decide +kernel)⟩
  refine⟨fun σ' H'=>∃ (v4:Option V),σ' = [some (.str t),some (.str b),some (.str c),some (.ref l1),v4]/\Same H H'/\H' l1=some (.lst (us1++(W10.map fun x=>Str.ofString "out "++c++Str.ofString " "++x).map V.str)),?_,?_⟩
  ·walk_at"rd"
   refine⟨by omega,fun l2 H2 n2 S2 h2=>?_⟩
   replace h2:H2 l2=some (.lst (W10.map V.str)):=h2
   walk_at"rd"
   refine⟨⟨_,SqL.of h2⟩,?_⟩
   have l21:l2≠l1:=fun k=>by rw [k,h1] at n2; cases n2
   obtain⟨Pv,pin,pout⟩:=f4m (fun i σ H'=>∃ v4:Option V,σ = [some (.str t),some (.str b),some (.str c),some (.ref l1),v4]/\Same H H'/\H' l2=some (.lst (W10.map V.str))/\H' l1=some (.lst (us1++((W10.take i).map fun x=>Str.ofString "out "++c++Str.ofString " "++x).map V.str)))
   refine c1k (xs:=W10.map V.str) Pv (pin _ _ _ ⟨_,rfl,S1.trans S2,h2,by rw [List.take_zero,List.map_nil,List.map_nil,List.append_nil]; exact S2 _ _ h1⟩) ?_ ?_ ?_
   ·intro i σ H3 hi hp
    obtain⟨v4,rfl,_,h3,_⟩:=pout _ _ _ hp
    exact SqL.of h3
   ·intro i v σ H3 hv hp
    obtain⟨v4,rfl,S3,h3,h13⟩:=pout _ _ _ hp
    rw [List.getElem?_map] at hv
    obtain⟨x,hx,rfl⟩:=Option.map_eq_some_iff.mp hv
    have xl:=i9k x (List.mem_of_getElem? hx)
    have il:i < 10:=(List.getElem?_eq_some_iff.mp hx).1
    have le:(us1++((W10.take i).map fun x=>Str.ofString "out "++c++Str.ofString " "++x).map V.str).length<=100:=by
     rw [List.length_append,List.length_map,List.length_map,List.length_take,ul1]
     omega
    have go:(us1++((W10.take i).map fun x=>Str.ofString "out "++c++Str.ofString " "++x).map V.str)++[V.str (Str.ofString "out "++c++Str.ofString " "++x)]=us1++((W10.take (i+1)).map fun x=>Str.ofString "out "++c++Str.ofString " "++x).map V.str:=by
     rw [List.take_add_one,hx,List.map_append,List.map_append,List.append_assoc]
     rfl
    generalize us1++((W10.take i).map fun x=>Str.ofString "out "++c++Str.ofString " "++x).map V.str=zs at h13 go le
    clear hv hp gg gl
    walk_at"rd*"
    repeat refine⟨by first | omega | (simp only [strLen_append]; omega),?_⟩
    rintro _ H4 ⟨rfl,B4,h4⟩
    exact pin _ _ _ ⟨_,rfl,S3.step n1 B4,B4 _ _ l21 h3,by rw [h4,go]⟩
   ·intro σ H3 hp
    obtain⟨v4,rfl,S3,h3,h13⟩:=pout _ _ _ hp
    exact⟨_,rfl,S3,by rw [h13,List.length_map,List.take_length]⟩
  rintro σ2 H2 ⟨v4,rfl,S2,h2⟩
  walk_at"rd"
  exact q l1 _ H2 n1 S2 h2 (by rw [List.length_append,ul1]; rfl) (d6i g1 gg)
theorem h0m(k:Int){n:Int}(h:0 < n):0<=k.fmod n/\k.fmod n < n:=⟨Int.fmod_nonneg_of_pos k h,Int.fmod_lt_of_pos k h⟩
theorem i5c{us:List V}{v:V}{i:Nat}(h:∀ v∈us,GLv v)(hv:GLv v):∀ u∈us.take i++v :: us.drop i,GLv u:=fun u hu=>by
 rcases List.mem_append.mp hu with m | m
 ·exact h u (List.mem_of_mem_take m)
 ·rcases List.mem_cons.mp m with rfl | m
  ·exact hv
  ·exact h u (List.mem_of_mem_drop m)
theorem h9b{us:List V}{v:V}{i:Nat}:(us.take i++v :: us.drop i).length=us.length+1:=by
 rw [List.length_append,List.length_cons,List.length_take,List.length_drop]
 omega
theorem j5s(T:Tx K mg A):a2m P A.wd K mg base CX0 1 A.b5t A.b6y ["_law_good_here","_law_some","_law_mixed"] k0c:=by
 refine T.c5v.ok c7w (fun _ _ _ _ h=>j3k h) (fun _ _ _ _ H vs Q E hr h=>?_)
 ·obtain⟨lg,lo,m,rfl,⟨us,os,hg,ul,gu,ho,ol,go,q⟩⟩:=i4g h
  have hu:=hr.units
  have hs:=szl
  refine⟨_,(a4g (a2k (i:=3) c7w.nd rfl (Or.inl rfl) (a9i c3u (by rfl) T.d9l boot_list (a0g (pvF 0) a0h)))
   (a4g (a3s (a0t (b0m hu) (a1m d3h (pvF 2) a0p) a0p (a2j _))
   (a0k (a2k (i:=4) c7w.nd rfl (Or.inl rfl) (a7q a7n PySem.F.plainAttrs_list PySem.F.slot_list_pop PySem.F.type_list_pop h6y (pvF 3) (a0g (a1m d3h (a1m c8p (pvF 2) a0p) (a1h a3y (by rfl) T.c1h boot_len (a0g (pvF 3) a0h))) a0h)))
   (a0i (a5t (a7q a7n PySem.F.plainAttrs_list PySem.F.slot_list_insert PySem.F.type_list_insert g0l (pvF 3) (a0g (a1m d3h (a1m c8p (pvF 2) a0p) (a1m a0s (a1h a3y (by rfl) T.c1h boot_len (a0g (pvF 3) a0h)) a0p)) (a0g (pvF 4) a0h))))))
   a0y)
   (a0k (b5i PassesOwn.never rfl (d4w (by rfl) T.g3c (a0g (a1m d3h (a1m c8p (pvF 2) a0p) a0p) a0h)) (a5n (i:=5) c7w.nd rfl (Or.inl rfl))
   (a0i (a5t (a7q a7n PySem.F.plainAttrs_list PySem.F.slot_list_insert PySem.F.type_list_insert g0l (pvF 3) (a0g (a1m d3h (a1m c8p (pvF 2) (a2h a8m (a3v (a0g a0p (a0g a0p a0h))) (pvF 5) (fun _ _=>rfl))) (a1m a0s (a1h a3y (by rfl) T.c1h boot_len (a0g (pvF 3) a0h)) a0p)) (a0g (a2h a8m (pvF 1) (a1m d3h (a1m c8p (pvF 2) (a2h a8m (a3v (a0g a0p (a0g (a1m a0s (a1m h6h a0p a0p) a0p) a0h))) (pvF 5) (fun _ _=>rfl))) (a1h a3y (by rfl) T.c1h boot_len (a0g (pvF 1) a0h))) (fun _ _=>rfl)) a0h))))))
   (a0i (a1o (pvF 3)))))),?_⟩
  clear hu
  obtain⟨Mid,min',mout⟩:=g7n (fun σ' H'=>∃ (l:Addr) (zs:List V) (v4:Option V),σ' = [some (.ref lg),some (.ref lo),some (.int m),some (.ref l),v4,none]/\H l=none/\Same H H'/\H' l=some (.lst zs)/\zs.length=8/\∀ v∈zs,GLv v)
  refine⟨Mid,?_,?_⟩
  ·walk_at"rd*"
   refine fun l H1 n1 S1 h1=>?_
   exact min' _ _ ⟨l,us,_,rfl,n1,S1,h1,ul,gu⟩
  intro σ1 H1 hm
  obtain⟨l,zs,v4,rfl,nl,S1,h1,zl,gz⟩:=mout _ _ hm
  refine⟨Mid,?_,?_⟩
  ·clear hm
   have c3:CFd m 3:=⟨by decide,by decide +kernel⟩
   have c24:CFd m 24:=⟨by decide,by decide +kernel⟩
   have f8:=h0m (m.fdiv 3) (n:=(zs.length:Int)) (by omega)
   have z0:¬ (zs.length:Int)=0:=by omega
   have zl':=(id zl:id _)
   clear zl
   walk_at"rd*"
   have zl:zs.length=8:=zl'
   clear zl'
   split
   ·rintro v H2 ⟨hv,B2,h2⟩
    have gv:=gz v (List.mem_of_getElem? hv)
    have yl:(zs.eraseIdx ((m.fdiv 3).fmod (zs.length:Int)).toNat).length=7:=by
     rw [List.length_eraseIdx,if_pos (by omega)]
     omega
    have gy:∀ u∈zs.eraseIdx ((m.fdiv 3).fmod (zs.length:Int)).toNat,GLv u:=fun u hu=>gz u (List.mem_of_mem_eraseIdx hu)
    generalize zs.eraseIdx ((m.fdiv 3).fmod (zs.length:Int)).toNat=ys at h2 yl gy
    clear h1 hv f8 z0 zl
    have f24:=h0m (m.fdiv 24) (n:=(ys.length:Int)+1) (by omega)
    have z0:¬ (ys.length:Int)+1=0:=by omega
    have yl':=(id yl:id _)
    clear yl
    walk_at"rd*"
    have yl:ys.length=7:=yl'
    clear yl'
    simp only [i6r,h2]
    refine⟨f24.1,by omega,by omega,?_⟩
    rintro _ H3 ⟨rfl,B3,h3⟩
    exact min' _ _ ⟨l,_,_,rfl,nl,(S1.step nl B2).step nl B3,h3,by rw [h9b,yl],i5c gy gv⟩
   ·exact min' _ _ ⟨l,zs,_,rfl,nl,S1,h1,zl,gz⟩
  clear hm h1 gz zl S1 nl
  clear zs l H1
  intro σ1 H1 hm
  obtain⟨l,zs,v4,rfl,nl,S1,h1,zl,gz⟩:=mout _ _ hm
  clear hm
  have f3:=h0m (m.fdiv 216) (n:=3) (by decide)
  have ho1:=S1 _ _ ho
  have lo':lo≠l:=fun k=>by rw [k,nl] at ho; cases ho
  have c216:CFd m 216:=⟨by decide,by decide +kernel⟩
  walk_at"rd"
  refine⟨c216,by omega,by omega,?_⟩
  obtain⟨n,en⟩:∃ n,((m.fdiv 216).fmod 3).toNat=n:=⟨_,rfl⟩
  have n3:n<=2:=by omega
  rw [en]
  clear en f3
  obtain⟨Pv,pin,pout⟩:=f4m (fun i σ H'=>∃ (zs:List V) (v5:Option V),σ = [some (.ref lg),some (.ref lo),some (.int m),some (.ref l),v4,v5]/\Same H H'/\H' l=some (.lst zs)/\zs.length=8+i/\∀ v∈zs,GLv v)
  refine d9w (n:=n) Pv (pin _ _ _ ⟨zs,_,rfl,S1,h1,zl,gz⟩) ?_ ?_
  ·intro i σ H2 hi hp
   obtain⟨ys,v5,rfl,S2,h2,yl,gy⟩:=pout _ _ _ hp
   have ho2:=S2 _ _ ho
   clear hp h1 ho1
   obtain⟨a1,ea1,ca1⟩:∃ a:Int,atI [V.int 648,V.int 77777] (i:Int)=some (.int a)/\CFd m a:=by
    match i,(show i < 2 by omega) with
    | 0,_=>exact⟨648,rfl,by decide,by decide +kernel⟩
    | 1,_=>exact⟨77777,rfl,by decide,by decide +kernel⟩
   obtain⟨a2,ea2,ca2⟩:∃ a:Int,atI [V.int 7000,V.int 1000000007] (i:Int)=some (.int a)/\CFd m a:=by
    match i,(show i < 2 by omega) with
    | 0,_=>exact⟨7000,rfl,by decide,by decide +kernel⟩
    | 1,_=>exact⟨1000000007,rfl,by decide,by decide +kernel⟩
   have f1:=h0m (m.fdiv a1) (n:=(ys.length:Int)+1) (by omega)
   have f2:=h0m (m.fdiv a2) (n:=(os.length:Int)) (by omega)
   have z1:¬ (ys.length:Int)+1=0:=by omega
   have z2:¬ (os.length:Int)=0:=by omega
   have yl':=(id yl:id _)
   have ol':=(id ol:id _)
   clear yl ol
   walk_at"rd*"
   refine fun l3 H3 n3' S3 h3=>?_
   have h23:=S3 _ _ h2
   have ho3:=S3 _ _ ho2
   clear h2 ho2
   walk_at"rd*"
   refine⟨by decide,fun l4 H4 n4' S4 h4=>?_⟩
   have h24:=S4 _ _ h23
   have ho4:=S4 _ _ ho3
   clear h23 ho3
   walk_at"rd*"
   have yl:ys.length=8+i:=yl'
   have ol:os.length=60:=ol'
   clear yl' ol'
   obtain⟨v,hv⟩:∃ v,os[((m.fdiv a2).fmod (os.length:Int)).toNat]? = some v:=⟨_,List.getElem?_eq_getElem (by omega)⟩
   refine⟨v,?_,?_⟩
   ·rw [<- Int.toNat_of_nonneg f2.1]
    exact c8o hv
   simp only [i6r,h24]
   refine⟨f1.1,by omega,by omega,?_⟩
   rintro _ H5 ⟨rfl,B5,h5⟩
   exact pin _ _ _ ⟨_,_,rfl,(S2.trans (S3.trans S4)).step nl B5,h5,by rw [h9b,yl]; omega,i5c gy (go v (List.mem_of_getElem? hv))⟩
  ·intro σ H2 hp
   obtain⟨ys,v5,rfl,S2,h2,yl,gy⟩:=pout _ _ _ hp
   walk_at"rd"
   exact q l ys H2 nl S2 h2 (by omega) (by omega) gy
theorem Rn.snoc{z:Str}{p g:Pd}{xs:List Str}{c:Nat}{ws:List Str}(h:Rn p xs c g ws):(c≠0->Rn p (xs++[z]) c g ws)/\(c=0->∀ c' g',Tw g (a2l z ⟨#[32]⟩) c' g'->c'≠0->Rn p (xs++[z]) c' g (a2l z ⟨#[32]⟩)):=by
 induction h with
 | nil=>exact⟨fun h=>absurd rfl h,fun _ c' g' t n=>.no t n⟩
 | go t r ih=>exact⟨fun h=>.go t (ih.1 h),fun h c' g' t' n=>.go t (ih.2 h c' g' t' n)⟩
 | no t n=>exact⟨fun _=>.no t n,fun h=>absurd h n⟩
theorem Tw.fm{p g:Pd}{ws:List Str}(h:Tw p ws 0 g)(hp:j6m p):j6m g:=by
 generalize hc:(0:Nat)=c at h
 have sn:∀ {α:Type} {l:List α} {a:α} {R:α->Prop},(∀ x∈l,R x)->R a->∀ x∈l++[a],R x:=fun h1 h2 x hx=>by
  rcases List.mem_append.mp hx with m | m
  ·exact h1 x m
  ·rw [List.mem_singleton.mp m]; exact h2
 cases h with
 | tr a1=>exact⟨sn hp.t a1,hp.b,hp.s,hp.o⟩
 | bs a1=>exact⟨hp.t,sn hp.b a1,hp.s,hp.o⟩
 | sd a1 a2 a3 a4=>exact⟨hp.t,hp.b,sn hp.s ⟨⟨a3,a4⟩,a1.elim (hp.t _) (hp.b _),hp.b _ a2⟩,hp.o⟩
 | ou a1 a2 a3 a4 a5=>exact⟨hp.t,hp.b,hp.s,sn hp.o ⟨hp.b _ a1,by show 1<=((_:Nat):Int); omega,by show ((_:Nat):Int)<=_; omega⟩⟩
 | _=>cases hc
theorem Rn.fm{p g:Pd}{xs:List Str}{c:Nat}{ws:List Str}(h:Rn p xs c g ws)(hp:j6m p):j6m g:=by
 induction h with
 | nil=>exact hp
 | go t _ ih=>exact ih (t.fm hp)
 | no=>exact hp
theorem Rn.six{p g:Pd}{xs:List Str}{c:Nat}{ws:List Str}(h:Rn p xs c g ws)(hc:c=6):∃ a y r,ws=Str.ofString "send" :: a :: y :: r/\y∈g.bs:=by
 induction h with
 | nil=>cases hc
 | go _ _ ih=>exact ih hc
 | no t n =>
  subst hc
  generalize e:a2l _ _=ws at t
  generalize hc:(6:Nat)=c at t
  cases t with
  | rg h1 h2=>exact⟨_,_,_,rfl,h2⟩
  | _=>cases hc
theorem h9c:∀ {us:List V},(∀ v∈us,GLv v)->∃ xs:List Str,us=xs.map V.str/\∀ x∈xs,GL x
 | [],_=>⟨[],rfl,fun x hx=>by cases hx⟩
 | v :: us,h=>by
  obtain⟨xs,rfl,hx⟩:=h9c (us:=us) fun u hu=>h u (List.mem_cons_of_mem _ hu)
  obtain⟨x,rfl,g⟩:=h v List.mem_cons_self
  exact⟨x :: xs,rfl,fun z hz=>by
   rcases List.mem_cons.mp hz with rfl | hz
   ·exact g
   ·exact hx z hz⟩
theorem j5t{xs:List Str}(h2:2<=xs.length)(h12:xs.length<=12)(h:∀ x∈xs,GL x):j9x (Str.join ⟨#[10]⟩ xs)/\a2l (Str.join ⟨#[10]⟩ xs) ⟨#[10]⟩=xs:=by
 have sp:a2l (Str.join ⟨#[10]⟩ xs) ⟨#[10]⟩=xs:=d5g (fun e=>by rw [e] at h2; simp at h2) (fun p hp=>(h p hp).2.1) rfl
 refine⟨⟨fun e=>?_,?_,by rw [sp]; omega,fun z hz=>?_⟩,sp⟩
 ·rw [e] at sp
  rw [<- sp] at h2
  exact absurd h2 (by decide +kernel)
 ·have:=f3q (z:=⟨#[10]⟩) (ps:=xs) (n:=98) fun p hp=>(h p hp).1
  rw [b8s] at this
  omega
 ·rw [sp] at hz
  exact⟨(h z hz).1,(h z hz).2.2⟩
theorem g7l:a2l (Str.ofString "") ⟨#[32]⟩ = [Str.ofString ""]:=d5g (by simp) (fun p hp=>by rw [List.mem_singleton.mp hp]; decide +kernel) rfl
theorem i2p:GL (Str.ofString ""):=⟨by decide +kernel,by decide +kernel,fun h=>by
 rw [g7l] at h
 exact absurd h (by decide +kernel)⟩
theorem h2e:∀ {xs:List Str},xs≠[]->Str.join ⟨#[10]⟩ xs++Str.ofString "\n"=Str.join ⟨#[10]⟩ (xs++[Str.ofString ""])
 | [x],_=>b2t (by
  show sg (x++Str.ofString "\n")=sg (Str.join ⟨#[10]⟩ (x :: Str.ofString "" :: []))
  rw [b1j,g8j,a5u]
  rfl)
 | x :: y :: r,_=>b2t (by
  have ih:=congrArg sg (h2e (xs:=y :: r) (by simp))
  rw [a5u] at ih
  show sg (Str.join ⟨#[10]⟩ (x :: y :: r)++Str.ofString "\n")=sg (Str.join ⟨#[10]⟩ (x :: y :: (r++[Str.ofString ""])))
  rw [a5u,b1j,b1j,List.append_assoc,List.cons_append,ih]
  rfl)
theorem j5u{c:Nat}(h7:c<=7)(h:kS c=Str.ofString "ring"):c=6:=by
 match c,h7,h with
 | 0,_,h=>exact absurd h (by decide +kernel)
 | 1,_,h=>exact absurd h (by decide +kernel)
 | 2,_,h=>exact absurd h (by decide +kernel)
 | 3,_,h=>exact absurd h (by decide +kernel)
 | 4,_,h=>exact absurd h (by decide +kernel)
 | 5,_,h=>exact absurd h (by decide +kernel)
 | 6,_,_=>rfl
 | 7,_,h=>exact absurd h (by decide +kernel)
theorem i9l(T:Tx K mg A):a2m P A.wd K mg base CX0 16 A.b9y A.b9z ["_law_lines_here"] j4l:=by
 have h4t:a2m P A.wd K mg base CX0 4 _ _ _ _:=i9d T
 have h9d:a2m P A.wd K mg base CX0 2 _ _ _ _:=j5d T
 have h4u:a2m P A.wd K mg base CX0 14 _ _ _ _:=(h0f T).no0
 have h4v:a2m P A.wd K mg base CX0 1 _ _ _ _:=j5n T
 have b8p:a2m P A.wd K mg base CX0 15 _ _ _ _:=g1n T
 have f8n:a2m P A.wd K mg base CX0 15 _ _ _ _:=k0o T
 have a1i:=T.a1i
 have a0j:=T.a0j
 have a0m:=T.a0m
 have a0l:=T.a0l
 have a0n:=T.a0n
 refine T.c4m.ok c4v (fun _ _ _ _ h=>f3t h) (fun _ _ _ _ H vs Q E hr h=>?_)
 ·obtain⟨l,rfl,⟨us,hl,u2,u11,gu,q⟩⟩:=f2t h
  obtain⟨xs,rfl,gx⟩:=h9c gu
  rw [List.length_map] at u2 u11
  have hu:=hr.units
  have hs:=szl
  have d0h:c7p 15 _:=hr.mono (by decide)
  have xne:xs≠[]:=fun e=>by rw [e] at u2; simp at u2
  obtain⟨tx,tsp⟩:=j5t u2 (by omega) gx
  have gx':∀ x∈xs++[Str.ofString ""],GL x:=fun x hx=>by
   rcases List.mem_append.mp hx with m | m
   ·exact gx x m
   ·rw [List.mem_singleton.mp m]; exact i2p
  obtain⟨ty,ysp⟩:=j5t (xs:=xs++[Str.ofString ""]) (by rw [List.length_append]; omega) (by rw [List.length_append]; show _+1<=_; omega) gx'
  have ey:=h2e xne
  rw [<- ey] at ty ysp
  have jo:JoinOk ⟨#[10]⟩ xs=true:=joinOk_of (n:=98) (fun p hp=>(gx p hp).1) (by rw [b8s]; omega)
  have xl:=tx.2.1
  have x98:∀ x∈xs,x.length<=98:=fun x hx=>(gx x hx).1
  refine⟨_,(a4g (h0q (a2g h4t (hr.mono (by decide)) (by rfl) T.h3w T.d0v.kp T.h3v .nil a6o (a0g (pvF 0) a0h)) (f4v (n:=3) rfl (a8j (a5n (i:=1) c4v.nd rfl (Or.inl rfl)) (a8j (a5n (i:=2) c4v.nd rfl (Or.inl rfl)) (a8j (a5n (i:=3) c4v.nd rfl (Or.inl rfl)) d8j)))))
   (a4g (a2k (i:=4) c4v.nd rfl (Or.inl rfl) (a7q a9j PySem.F.plainAttrs_str PySem.F.slot_str_join PySem.F.type_str_join d8k a0o (a0g (pvF 0) a0h)))
   (a0k (a3s (a0t (b0m hu) (pvF 1) a0o (a2j _))
   (a0i (a1o (f4l (c8n (b0m hu) (a2g h9d (hr.mono (by decide)) (by rfl) T.h7z T.d4g.kp T.h7y .nil a6o (a0g (a2g h4u (hr.mono (by decide)) (by rfl) T.f1i T.c0l.kp T.f1h .nil a6o (a0g (pvF 4) a0h)) a0h)) (a2g h4v (hr.mono (by decide)) (by rfl) T.h3y T.d0w.kp T.h3x .nil a6o (a0g (pvF 2) a0h)) (a2j _)) (g0b (a2g b8p d0h (by rfl) T.c3t T.b0o.kp T.c3s .nil a6o (a0g (a1m a0s (pvF 4) a0o) (a0g a0o a0h)))))))
   a0y)
   (a0k (a3s (pw_and (a0t (b0m hu) (pvF 1) a0o (a2j _)) (pw_and1 (b0z (a3z (a2g f8n (hr.mono (by decide)) (by rfl) T.f6v T.b3p.kp T.f6u .nil a6o (a0g (pvF 4) (a0g (a2h a8m (pvF 2) a0p (fun _ _=>rfl)) (a0g (pvF 3) a0h)))))))).pt
   (a0i (a1o d6j))
   a0y)
   (a0i (a1o (f4l (a2g b8p d0h (by rfl) T.c3t T.b0o.kp T.c3s .nil a6o (a0g (pvF 4) (a0g (pvF 1) a0h))) (g0b (a2g b8p d0h (by rfl) T.c3t T.b0o.kp T.c3s .nil a6o (a0g (a1m a0s (pvF 4) a0o) (a0g (pvF 1) a0h))))))))))),?_⟩
  clear ey
  obtain⟨Mid,min',mout⟩:=g7n (fun σ' H'=>∃ (L t b sd ou lw:Addr) (c:Nat) (g:Pd) (ws:List Str),σ' = [some (.ref l),some (.str (kS c)),some (.ref L),some (.ref lw),none]/\Same H H'/\Lq H' L t b sd ou g/\H' lw=some (.lst (ws.map V.str))/\Rn Pd0 xs c g ws/\PdN g 20/\c<=7)
  refine⟨Mid,?_,?_⟩
  ·clear hu
   walk_at"rd"
   refine⟨xs,hl,by omega,x98,fun o L t b sd ou lw c g ws H1 S1 h1 hq hw rn pn c7=>?_⟩
   walk_at"rd*"
   exact min' _ _ ⟨L,t,b,sd,ou,lw,c,g,ws,rfl,S1,hq,hw,rn,pn,c7⟩
  intro σ1 H1 hm
  obtain⟨L,t,b,sd,ou,lw,c,g,ws,rfl,S1,hq,hw,rn,pn,c7⟩:=mout _ _ hm
  clear hm min' mout
  have hl1:=S1 _ _ hl
  have fm:=rn.fm ⟨(fun x hx=>by cases hx),(fun x hx=>by cases hx),(fun x hx=>by cases hx),fun x hx=>by cases hx⟩
  have hF:PdF g:=.mk' (Nat.le_trans pn.1 (by decide)) (Nat.le_trans pn.2.1 (by decide)) (Nat.le_trans pn.2.2.1 (by decide)) (Nat.le_trans pn.2.2.2.1 (by decide)) fm.t fm.b fm.s fm.o
  generalize ex:Str.join ⟨#[10]⟩ xs=x at *
  refine⟨fun σ' H'=>σ' = [some (.ref l),some (.str (kS c)),some (.ref L),some (.ref lw),some (.str x)]/\H'=H1,?_,?_⟩
  ·clear hu
   rw [j6r]
   walk_at"rd*"
   exact⟨xs,rfl,jo,by rw [h6x]; exact ex⟩
  rintro σ2 H2 ⟨rfl,rfl⟩
  clear ex jo hl hl1 gx gx' x98
  have rx:Rn Pd0 (a2l x ⟨#[10]⟩) c g ws:=by rw [tsp]; exact rn
  have ln:(Str.ofString "\n").length=1:=by decide +kernel
  refine h4r (decide (kS c=Str.ofString "")) (fun Qb h=>?_) (fun h8 D1 e=>?_) (fun h8=>?_)
  ·clear hu
   generalize kS c=kc at *
   walk_at"rd*"
  ·have c0:c=0:=i4y (of_decide_eq_true h8)
   subst c0
   have ry:Rn Pd0 (a2l (x++Str.ofString "\n") ⟨#[10]⟩) 1 g (a2l (Str.ofString "") ⟨#[32]⟩):=by
    rw [ysp]
    refine rn.snoc.2 rfl 1 g ?_ (by decide)
    rw [g7l]
    exact .row (fun k a e=>by cases e) (fun k a y r e=>by cases e) (fun k a y e=>by cases e)
   clear hu
   walk_at"rd"
   refine⟨tx.1,tx.2.1,tx.2.2.1,tx.2.2.2,0,g,ws,rx,(fun _ o H3 S3 hP=>⟨_,g,hP,hF,fun H4 S4=>⟨t,b,sd,ou,g,hq.same (S3.trans S4),hF,fun H5 S5=>?_⟩⟩),(fun z=>absurd rfl z),fun z=>absurd z (by decide)⟩
   rw [if_pos rfl,e]
   exact⟨by omega,⟨ty,1,g,_,ry,by decide,by decide,rfl⟩,fun H6 S6=>q H6 (S1.trans (S3.trans (S4.trans (S5.trans S6))))⟩
  have c0:c≠0:=fun z=>(of_decide_eq_false h8) (by rw [z]; rfl)
  have ry:Rn Pd0 (a2l (x++Str.ofString "\n") ⟨#[10]⟩) c g ws:=by
   rw [ysp]
   exact rn.snoc.1 c0
  refine f8k false (fun Qb hQb=>?_) (fun z=>absurd z (by decide)) (fun _ H3 S3=>?_)
  ·clear hu
   by_cases c6:c=6
   ·subst c6
    obtain⟨a,y,r,rfl,hy⟩:=rn.six rfl
    have hL:=hq.hL
    obtain⟨us,hsd,Rs⟩:=hq.hs
    have k6:(kS 6=Str.ofString "ring")=True:=eq_true rfl
    walk_at"rd*"
    exact⟨_,g,a,y,_,r,rn,Rs,⟨rfl,rfl,rfl,rfl⟩,by have:=pn.2.2.1; omega,(fun e he=>⟨(fm.s e he).2.1,(fm.s e he).2.2⟩),fm.b y hy,fun H3 S3=>hQb H3 S3⟩
   ·have k6:(kS c=Str.ofString "ring")=False:=eq_false fun z=>c6 (j5u c7 z)
    walk_at"rd*"
    exact hQb _ (Same.refl _)
  clear hu
  walk_at"rd"
  exact⟨⟨tx,c,g,ws,rx,c0,c7,rfl⟩,fun H4 S4=>⟨by omega,⟨ty,c,g,ws,ry,c0,c7,rfl⟩,fun H5 S5=>q H5 (S1.trans (S3.trans (S4.trans S5)))⟩⟩
theorem h0x{α:Type}{xs:List α}{lo hi:Option Int}{x:α}(h:x∈g7m xs lo hi):x∈xs:=by
 unfold g7m at h
 first | exact List.mem_of_mem_drop (List.mem_of_mem_take h) | exact List.mem_of_mem_take (List.mem_of_mem_drop h)
theorem j5v(k:Int){n:Int}(h:0 < n):∃ j:Nat,k.fmod n=j/\(j:Int) < n:=⟨(k.fmod n).toNat,by have:=h0m k h; omega,by have:=h0m k h; omega⟩
theorem j5w(T:Tx K mg A):a2m P A.wd K mg base CX0 18 A.g5z A.f2n ["_law_script"] (g7y 63 K):=by
 have h4w:a2m P A.wd K mg base CX0 1 _ _ _ _:=k0q T
 have g1o:a2m P A.wd K mg base CX0 16 _ _ _ _:=i9l T
 have h0n:a2m P A.wd K mg base CX0 1 _ _ _ _:=j5s T
 have f8o:a2m P A.wd K mg base CX0 1 _ _ _ _:=j5r T
 have b8p:a2m P A.wd K mg base CX0 15 _ _ _ _:=g1n T
 refine T.h7r.ok d8z (fun vs H Q E h=>?_) (fun cdv A' outer s H vs Q E hr h=>?_)
 ·obtain⟨a,ns,rfl,_⟩:=h
  rfl
 ·obtain⟨a,ns,rfl,hS,hl,hbit,hO,q⟩:=h
  have hu:=hr.units
  have f8p:c7p 16 _:=hr.mono (by decide)
  have hs:=szl
  refine⟨_,(a0k (b5i PassesOwn.never rfl (a5s (b2p j7s (pvF 0) b7g (b2r a0p))) (a5n (i:=1) d8z.nd rfl (Or.inl rfl))
   (a4g (a2k (i:=2) d8z.nd rfl (Or.inr rfl) (a1m d3h (a1m g7z (pvF 1) a0p) (a1m a0s (a1m h6h a0p a0p) a0p)))
   (a4g (h0q (b2u (d4w (by rfl) T.g3c (a0g a0p a0h)) (fun _ _ _ _ _=>by exact (a2g h4w (hr.mono (by decide)) (by rfl) T.h3s T.d0t.kp T.h3r .nil a6o (a0g (a1m c8p (pvF 3) (a1m h6h a0p a0p)) (a0g (pvF 0) a0h)))) (d1h (sc:=a0r i7g) (N:=["_law_script","_law_cell","_law_mixed","_law_t","_law_b","_law_c","_law_d","_law_good_here"]) rfl rfl (by decide +kernel)) rfl) (f4v (n:=4) rfl (a8j (a5n (i:=3) d8z.nd rfl (Or.inl rfl)) (a8j (a5n (i:=4) d8z.nd rfl (Or.inl rfl)) (a8j (a5n (i:=5) d8z.nd rfl (Or.inl rfl)) (a8j (a5n (i:=6) d8z.nd rfl (Or.inl rfl)) d8j))))))
   (a4g (a2k (i:=7) d8z.nd rfl (Or.inl rfl) (a3v (a0g (a1m a0s a0o (pvF 3)) (a0g (a1m a0s a0o (pvF 4)) (a0g (a1m a0s a0o (pvF 6)) (a0g (a1m a0s a0o (pvF 5)) (a0g (a1m a0s (a1m a0s (a1m a0s a0o (pvF 3)) a0o) (pvF 4)) a0h)))))))
   (a4g (a2k (i:=7) d8z.nd rfl (Or.inl rfl) (a1m a0s (pvF 7) (a3v (a0g (a1m a0s (a1m a0s (a1m a0s (a1m a0s a0o (pvF 4)) a0o) (pvF 6)) a0o) (a0g (a1m a0s (a1m a0s (a1m a0s a0o (pvF 6)) a0o) (pvF 5)) (a0g (a1m a0s (a1m a0s a0o (pvF 4)) a0o) a0h))))))
   (a0k (a3s (b0z (a3z (a2g g1o f8p (by rfl) T.g1h T.c4m.kp T.g1g .nil a6o (a0g (a2g h0n (hr.mono (by decide)) (by rfl) T.g9t T.c5v.kp T.g9s .nil a6o (a0g (pvF 7) (a0g (a2g f8o (hr.mono (by decide)) (by rfl) T.f6p T.b3m.kp T.f6o .nil a6o (a0g (pvF 3) (a0g (pvF 4) (a0g (pvF 5) a0h)))) (a0g (pvF 2) a0h)))) a0h))))
   (a0i (a1o d6j))
   a0y)
   (a0k (a3s (b0z (a3z (a2g b8p (hr.mono (by decide)) (by rfl) T.c3t T.b0o.kp T.c3s .nil a6o (a0g (a2h a8m (a3v (a0g f1t (a0g a0p (a0g (pvF 7) (a0g d6j (a0g (b5j (a0g a0o a0h)) a0h)))))) (a1m d3h (a1m c8p (pvF 2) a0p) a0p) (fun _ _=>rfl)) (a0g a0o a0h)))))
   (a0i (a1o d6j))
   a0y)
   (a0i (a3s (b0z (a3z (a2g g1o f8p (by rfl) T.g1h T.c4m.kp T.g1g .nil a6o (a0g (pvF 7) a0h))))
   (a0i (a1o d6j))
   a0y)))))))))
   (a0i (a1o d6j))),?_⟩
  clear hu
  walk_at"rd"
  refine⟨_,hS,fun p1 H1 n1 S1 h1=>?_⟩
  rw [h6j] at h1
  have hm1:∀ x∈g7m ns none (some 12),intBits x<=1048576:=fun x hx=>hbit x (h0x hx)
  generalize g7m ns none (some 12)=ms at h1 hm1
  walk_at"rd"
  refine⟨⟨_,SqL.of h1⟩,?_⟩
  obtain⟨Pv,pin,pout⟩:=f4m (fun i σ H'=>∃ v1 v2 v3 v4 v5 v6 v7:Option V,σ = [some (.ref a),v1,v2,v3,v4,v5,v6,v7]/\Same H1 H')
  refine c1k (xs:=ms.map V.int) Pv (pin _ _ _ ⟨_,_,_,_,_,_,_,rfl,.refl _⟩) ?_ ?_ ?_
  ·intro i σ H2 hi hp
   obtain⟨v1,v2,v3,v4,v5,v6,v7,rfl,S2⟩:=pout _ _ _ hp
   exact SqL.of (S2 _ _ h1)
  ·intro i v σ H2 hv hp
   obtain⟨v1,v2,v3,v4,v5,v6,v7,rfl,S2⟩:=pout _ _ _ hp
   rw [List.getElem?_map] at hv
   obtain⟨cl,hc,rfl⟩:=Option.map_eq_some_iff.mp hv
   have bc:=hm1 cl (List.mem_of_getElem? hc)
   clear hv hp
   obtain⟨Mid,min',mout⟩:=g7n (fun σ' H'=>∃ M:Int,σ' = [some (.ref a),some (.int cl),some (.int M),v3,v4,v5,v6,v7]/\H'=H2)
   walk_at"rd"
   refine⟨Mid,?_,?_⟩
   ·walk_at"rd"
    exact⟨by walk_at"mul",by decide,min' _ _ ⟨_,rfl,rfl⟩⟩
   intro σ' H' hm
   obtain⟨M,rfl,rfl⟩:=mout _ _ hm
   clear hm min' mout
   obtain⟨Mid,min',mout⟩:=g7n (fun σ2 H3=>∃ t b c d:Str,σ2 = [some (.ref a),some (.int cl),some (.int M),some (.str t),some (.str b),some (.str c),some (.str d),v7]/\Same H' H3/\a5q t/\a5q b/\a5q c/\a5q d)
   refine⟨Mid,?_,?_⟩
   ·walk_at"rd"
    refine fun D H3 n3 S3 h3=>?_
    refine g8b (n:=4) (fun i ys Hx=>Same H' Hx/\Hx D=some (.lst ys)/\∃ xs:List Str,ys=xs.map V.str/\xs.length=i/\∀ x∈xs,a5q x) ⟨S3,h3,[],rfl,rfl,fun x hx=>by cases hx⟩ (by omega) ?_ ?_ ?_
    ·intro i ys Hx hi ⟨Sx,hx,xs,e,xl,_⟩
     exact⟨hx,by rw [e,List.length_map,xl]⟩
    ·intro i ys Hx hi ⟨Sx,hx,xs,e,xl,gx⟩
     walk_at"rd"
     refine⟨by decide,⟨by decide,by decide +kernel⟩,by omega,by omega,fun x nx=>⟨hx,fun H3 B3 h3=>⟨Sx.step n3 B3,h3,xs++[x],by rw [e,List.map_append]; rfl,by rw [List.length_append,xl]; rfl,fun z hz=>?_⟩⟩⟩
     rcases List.mem_append.mp hz with m | m
     ·exact gx z m
     ·rw [List.mem_singleton.mp m]; exact nx
    ·intro ys Hx ⟨Sx,hx,xs,e,xl,gx⟩
     match xs,xl,gx with
     | [t,b,c,d],_,gx =>
     subst e
     replace hx:Hx D=some (.lst [.str t,.str b,.str c,.str d]):=hx
     walk_at"rd*"
     exact min' _ _ ⟨t,b,c,d,rfl,Sx,gx t (by simp),gx b (by simp),gx c (by simp),gx d (by simp)⟩
   intro σ2 H3 hm
   obtain⟨t,b,c,d,rfl,S3,nt,nb,nc,nd⟩:=mout _ _ hm
   clear hm min' mout
   have lt:=nt.1
   have lb:=nb.1
   have lc:=nc.1
   have ld:=nd.1
   obtain⟨e0,e1,e2,e3,e4,e5,e6,e7,e8,e9,e10,e11,e12,e13,e14,e15,e16,e17,e18,e19,e20,e21⟩:=lits
   have e22:(Str.ofString " gain:1/2").length=9:=by decide +kernel
   obtain⟨Mid,min',mout⟩:∃ Mid:Nat->L2.St->Hp->Prop,(∀ n lg us H4,Same H' H4->H4 lg=some (.lst us)->us.length=n->(∀ v∈us,GLv v)->Mid n [some (.ref a),some (.int cl),some (.int M),some (.str t),some (.str b),some (.str c),some (.str d),some (.ref lg)] H4)/\∀ n σ H4,Mid n σ H4->∃ lg us,σ = [some (.ref a),some (.int cl),some (.int M),some (.str t),some (.str b),some (.str c),some (.str d),some (.ref lg)]/\Same H' H4/\H4 lg=some (.lst us)/\us.length=n/\∀ v∈us,GLv v:=⟨fun n σ H4=>∃ lg us,σ = [some (.ref a),some (.int cl),some (.int M),some (.str t),some (.str b),some (.str c),some (.str d),some (.ref lg)]/\Same H' H4/\H4 lg=some (.lst us)/\us.length=n/\∀ v∈us,GLv v,fun n lg us H4 h2 h3 h4 h5=>⟨lg,us,rfl,h2,h3,h4,h5⟩,fun n σ H' h=>h⟩
   refine⟨Mid 5,?_,?_⟩
   ·walk_at"rd"
    repeat refine⟨by first | omega | (simp only [strLen_append]; omega),?_⟩
    refine fun l1 H4 n4 S4 h4=>?_
    refine min' 5 l1 _ H4 (S3.trans S4) h4 rfl ?_
    refine b6g (g4d nt nb nc (by repeat' first | exact Sb.lit (by decide +kernel) | apply Sb.app | exact Sb.nt | exact Sb.nb | exact Sb.nc) (by decide +kernel)) ?_
    refine b6g (g4d nt nb nc (by repeat' first | exact Sb.lit (by decide +kernel) | apply Sb.app | exact Sb.nt | exact Sb.nb | exact Sb.nc) (by decide +kernel)) ?_
    refine b6g (g4d nd nb nc (by repeat' first | exact Sb.lit (by decide +kernel) | apply Sb.app | exact Sb.nt | exact Sb.nb | exact Sb.nc) (by decide +kernel)) ?_
    refine b6g (g4d nt nb nc (by repeat' first | exact Sb.lit (by decide +kernel) | apply Sb.app | exact Sb.nt | exact Sb.nb | exact Sb.nc) (by decide +kernel)) ?_
    refine b6g (g4d nt nb nc (by repeat' first | exact Sb.lit (by decide +kernel) | apply Sb.app | exact Sb.nt | exact Sb.nb | exact Sb.nc) (by decide +kernel)) ?_
    exact d9u
   clear S3
   clear H3
   intro σ2 H3 hm
   obtain⟨lg,us,rfl,S3,h3,ul,gu⟩:=mout _ _ _ hm
   refine⟨Mid 8,?_,?_⟩
   ·clear hm
    walk_at"rd"
    repeat refine⟨by first | omega | (simp only [strLen_append]; omega),?_⟩
    refine fun l1 H4 n4 S4 h4=>?_
    have h34:=S4 _ _ h3
    clear h3
    walk_at"rd*"
    refine fun l5 H5 n5 S5 h5=>?_
    refine min' 8 l5 _ H5 (S3.trans (S4.trans S5)) h5 (by rw [List.length_append,ul]; rfl) (d6i gu ?_)
    refine b6g (g4d nd nb nc (by repeat' first | exact Sb.lit (by decide +kernel) | apply Sb.app | exact Sb.nt | exact Sb.nb | exact Sb.nc) (by decide +kernel)) ?_
    refine b6g (g4d nd nb nc (by repeat' first | exact Sb.lit (by decide +kernel) | apply Sb.app | exact Sb.nt | exact Sb.nb | exact Sb.nc) (by decide +kernel)) ?_
    refine b6g (g4d nt nb nc (by repeat' first | exact Sb.lit (by decide +kernel) | apply Sb.app | exact Sb.nt | exact Sb.nb | exact Sb.nc) (by decide +kernel)) ?_
    exact d9u
   clear hm h3 gu ul S3
   clear us lg H3
   intro σ2 H3 hm
   obtain⟨lg,us,rfl,S3,h3,ul,gu⟩:=mout _ _ _ hm
   clear hm min' mout
   have S13:=S2.trans S3
   refine f8k false (fun Qb hQb=>?_) (fun z=>absurd z (by decide)) (fun _ H4 S4=>?_)
   ·walk_at"rd"
    refine⟨nt,nb,nc,fun lo os H4 n4 S4 h4 ol go=>⟨us,S4 _ _ h3,ul,gu,os,h4,ol,go,fun l5 zs H5 n5 S5 h5 z8 z10 gz=>?_⟩⟩
    exact⟨zs,h5,by omega,by omega,gz,fun H6 S6=>hQb H6 (S4.trans (S5.trans S6))⟩
   refine f8k false (fun Qb hQb=>?_) (fun z=>absurd z (by decide)) (fun _ H5 S5=>?_)
   ·have c120:CFd M 120:=⟨by decide,by decide +kernel⟩
    obtain⟨j,ej,jl⟩:=j5v (M.fdiv 120) (n:=5) (by decide)
    walk_at"rd"
    refine⟨by omega,fun tp H5 n5 S5 h5=>?_⟩
    walk_at"rd"
    refine⟨by omega,fun l6 H6 n6 S6 h6=>?_⟩
    have h36:=(S4.trans (S5.trans S6)) _ _ h3
    have h56:=S6 _ _ h5
    clear h3 h5
    walk_at"rd*"
    have j5:j < [V.non,V.int 5,V.ref lg,V.bl true,V.ref tp].length:=by show j < 5; omega
    refine⟨[V.non,V.int 5,V.ref lg,V.bl true,V.ref tp][j],c8o (List.getElem?_eq_getElem j5),.inl ?_,fun H7 S7=>hQb H7 (S5.trans (S6.trans S7))⟩
    have hm:=List.getElem_mem j5
    generalize [V.non,V.int 5,V.ref lg,V.bl true,V.ref tp][j]=v at hm
    simp only [List.mem_cons,List.not_mem_nil,or_false] at hm
    rcases hm with rfl | rfl | rfl | rfl | rfl
    ·exact⟨.non,rfl,by decide,rfl⟩
    ·exact⟨.int,rfl,by decide,rfl⟩
    ·exact⟨.lst,by rw [h6f,h36],by decide,rfl⟩
    ·exact⟨.bl,rfl,by decide,rfl⟩
    ·exact⟨.tup,by rw [h6f,h56],by decide,rfl⟩
   have h35:=(S4.trans S5) _ _ h3
   clear h3
   walk_at"rd"
   exact⟨us,h35,by omega,by omega,gu,fun H6 S6=>pin _ _ _ ⟨_,_,_,_,_,_,_,rfl,S13.trans (S4.trans (S5.trans S6))⟩⟩
  ·intro σ H2 hp
   obtain⟨v1,v2,v3,v4,v5,v6,v7,rfl,S2⟩:=pout _ _ _ hp
   walk_at"rd"
   exact q _
theorem len1{α:Type _}{us:List α}(h:us.length=1):∃ a,us = [a]:=match us,h with | [a],_=>⟨a,rfl⟩
local macro_rules | `(tactic| walk_at "b1") => `(tactic| (intro _ _ _ _ _ _ us hl; obtain ⟨_, e⟩ := len1 hl; subst e; rfl))
theorem len2{α:Type _}{us:List α}(h:us.length=2):∃ a b,us = [a,b]:=match us,h with | [a,b],_=>⟨a,b,rfl⟩
local macro_rules | `(tactic| walk_at "b2") => `(tactic| (intro _ _ _ _ _ _ us hl; obtain ⟨_, _, e⟩ := len2 hl; subst e; rfl))
theorem len3{α:Type _}{us:List α}(h:us.length=3):∃ a b c,us = [a,b,c]:=match us,h with | [a,b,c],_=>⟨a,b,c,rfl⟩
local macro_rules | `(tactic| walk_at "b3") => `(tactic| (intro _ _ _ _ _ _ us hl; obtain ⟨_, _, _, e⟩ := len3 hl; subst e; rfl))
theorem len4{α:Type _}{us:List α}(h:us.length=4):∃ a b c d,us = [a,b,c,d]:=match us,h with | [a,b,c,d],_=>⟨a,b,c,d,rfl⟩
local macro_rules | `(tactic| walk_at "b4") => `(tactic| (intro _ _ _ _ _ _ us hl; obtain ⟨_, _, _, _, e⟩ := len4 hl; subst e; rfl))
theorem all_mk{l:W.OpenLaw}{K:W.Frag}{h:Heap}{mg:Str->Option Value}{fa:Addr}{b5k b6j b2w b6k c4w b8t c4y b8v a8n a8o b1g b8y b8z b6n b6o b2y b1k b0n b7p b6p c1p c1q b6q b3g b3y b0r c1r b6r a8k b1m b5o b3i b9k b5p b1v b4g b4h b6t b5q b9l c4z b5r b9n b9p a9q b1o a9r b5s a9s b9r b9t b1p b1q a9t b9v b9y b5t g5z a1g a0q a0z a0u a0w a1j a1l a1y a2i a1k a3t f5r c7y b7q g6a c0g b3k a9l a7l:Addr}{b6i b5l b3t b5m c4h b8u c4i b8w a8r a8s b3u b6l b6m b3v b3w b2z b1t b0q b9g b9h c4j b9i b5n b1l b1u a9p b9j b3z a7o b0s b3h b1n b6s b3j b0w b1w b1y b4i b6u b9m c4k b6v b9o b9q b0i b1z b0j b6w b0k b9s b9u b2g b2h b0l b9w b9z b6y f2n:FuncData}{d0o a7j a7k c0h c0i b6z g0z d0p b2j:Value}{wd:World}{es_READERS:Array DictEntry}{n_READERS:Nat}(X:K.In h)(G:h.Ns mainGlobals mg)(hfa:mg "law"=some (.ref fa))(Y:Ty K ⟨b5k,b6i,b6j,b5l,b2w,b3t,b6k,b5m,c4w,c4h,b8t,b8u,c4y,c4i,b8v,b8w,a8n,a8r,a8o,a8s,b1g,b3u,b8y,b6l,b8z,b6m,b6n,b3v,b6o,b3w,b2y,b2z,b1k,b1t,b0n,b0q,b7p,b9g,b6p,b9h,c1p,c4j,c1q,b9i,b6q,b5n,b3g,b1l,b3y,b1u,b0r,a9p,c1r,b9j,b6r,b3z,a8k,a7o,b1m,b0s,b5o,b3h,b3i,b1n,b9k,b6s,b5p,b3j,b1v,b0w,b4g,b1w,b4h,b1y,b6t,b4i,b5q,b6u,b9l,b9m,c4z,c4k,b5r,b6v,b9n,b9o,b9p,b9q,a9q,b0i,b1o,b1z,a9r,b0j,b5s,b6w,a9s,b0k,b9r,b9s,b9t,b9u,b1p,b2g,b1q,b2h,a9t,b0l,b9v,b9w,b9y,b9z,b5t,b6y,g5z,f2n,a1g,a0q,a0z,a0u,a0w,a1j,a1l,a1y,a2i,a1k,a3t,f5r,c7y,b7q,g6a,c0g,b3k,a9l,d0o,a7j,a7k,c0h,c0i,b6z,g0z,d0p,b2j,a7l,wd⟩)(ld_READERS:K.lookup a7l=some ⟨.type "dict",none,.dict es_READERS n_READERS,#[]⟩)(kd_READERS:W.KeysLit wd.params es_READERS.toList)(ne_READERS:(a7l == sysModules)=false):∃ fd:FuncData,(∀ (s:Shared) (v:Value),BindsTo s fd ⟨[v],[]⟩ [("_law_script",v)])/\∀ base:Heap,K.In base->base.Ns mainGlobals mg->a2m l.prog wd K mg base CX0 18 fa fd ["_law_script"] (g7y 63 K):=by
 have ea:fa=g5z:=by injection (hfa.symm.trans (W.mg_of X G Y.i1g)) with e; injection e
 rw [ea]
 have T:Tx K mg ⟨b5k,b6i,b6j,b5l,b2w,b3t,b6k,b5m,c4w,c4h,b8t,b8u,c4y,c4i,b8v,b8w,a8n,a8r,a8o,a8s,b1g,b3u,b8y,b6l,b8z,b6m,b6n,b3v,b6o,b3w,b2y,b2z,b1k,b1t,b0n,b0q,b7p,b9g,b6p,b9h,c1p,c4j,c1q,b9i,b6q,b5n,b3g,b1l,b3y,b1u,b0r,a9p,c1r,b9j,b6r,b3z,a8k,a7o,b1m,b0s,b5o,b3h,b3i,b1n,b9k,b6s,b5p,b3j,b1v,b0w,b4g,b1w,b4h,b1y,b6t,b4i,b5q,b6u,b9l,b9m,c4z,c4k,b5r,b6v,b9n,b9o,b9p,b9q,a9q,b0i,b1o,b1z,a9r,b0j,b5s,b6w,a9s,b0k,b9r,b9s,b9t,b9u,b1p,b2g,b1q,b2h,a9t,b0l,b9v,b9w,b9y,b9z,b5t,b6y,g5z,f2n,a1g,a0q,a0z,a0u,a0w,a1j,a1l,a1y,a2i,a1k,a3t,f5r,c7y,b7q,g6a,c0g,b3k,a9l,d0o,a7j,a7k,c0h,c0i,b6z,g0z,d0p,b2j,a7l,wd⟩:=⟨Y,Y.d1y.binds (by walk_at"b2"),Y.b4k.binds (by walk_at"b1"),W.mg_of X G Y.f0j,Y.b1h.binds (by walk_at"b1"),W.mg_of X G Y.d3r,Y.c0j.binds (by walk_at"b1"),W.mg_of X G Y.f0k,Y.d3w.binds (by walk_at"b2"),W.mg_of X G Y.f5w,Y.c4l.binds (by walk_at"b2"),W.mg_of X G Y.f0l,Y.d3y.binds (by walk_at"b1"),W.mg_of X G Y.f5y,Y.d0q.binds (by walk_at"b2"),W.mg_of X G Y.f0m,Y.a8p.binds (by walk_at"b1"),W.mg_of X G Y.c5g,Y.a9u.binds (by walk_at"b1"),W.mg_of X G Y.c5h,Y.c7z.binds (by walk_at"b1"),Y.d1z.binds (by walk_at"b2"),Y.d2g.binds (by walk_at"b1"),Y.c8g.binds (by walk_at"b2"),Y.c8h.binds (by walk_at"b1"),Y.b3l.binds (by walk_at"b1"),W.mg_of X G Y.d6v,Y.b7r.binds (by walk_at"b3"),W.mg_of X G Y.d1n,Y.a9m.binds (by walk_at"b2"),W.mg_of X G Y.d1o,Y.c5n.binds (by walk_at"b1"),W.mg_of X G Y.f5z,Y.d0r.binds (by walk_at"b1"),W.mg_of X G Y.f0n,Y.d3z.binds (by walk_at"b1"),W.mg_of X G Y.f6g,Y.c5o.binds (by walk_at"b1"),W.mg_of X G Y.f6h,Y.c0k.binds (by walk_at"b1"),W.mg_of X G Y.f0o,Y.c1s.binds (by walk_at"b2"),Y.c3m.binds (by walk_at"b1"),Y.b4u.binds (by walk_at"b2"),Y.c5p.binds (by walk_at"b1"),W.mg_of X G Y.f6i,Y.c8i.binds (by walk_at"b1"),Y.b0y.binds (by walk_at"b2"),Y.b7s.binds (by walk_at"b2"),Y.c5q.binds (by walk_at"b2"),Y.c1t.binds (by walk_at"b4"),Y.d2h.binds (by walk_at"b3"),Y.c5r.binds (by walk_at"b3"),Y.c1j.binds (by walk_at"b1"),Y.c3n.binds (by walk_at"b1"),Y.c3o.binds (by walk_at"b1"),Y.c8j.binds (by walk_at"b1"),Y.c5s.binds (by walk_at"b1"),W.mg_of X G Y.d6w,Y.d0s.binds (by walk_at"b1"),W.mg_of X G Y.f0p,Y.d4g.binds (by walk_at"b1"),W.mg_of X G Y.f6j,Y.c5t.binds (by walk_at"b2"),W.mg_of X G Y.d6y,Y.c0l.binds (by walk_at"b1"),W.mg_of X G Y.f0q,Y.d0t.binds (by walk_at"b2"),W.mg_of X G Y.f0r,Y.b3m.binds (by walk_at"b3"),W.mg_of X G Y.c5i,Y.b7t.binds (by walk_at"b1"),W.mg_of X G Y.d1p,Y.b3n.binds (by walk_at"b1"),W.mg_of X G Y.c5j,Y.c5u.binds (by walk_at"b3"),W.mg_of X G Y.d6z,Y.b3o.binds (by walk_at"b2"),W.mg_of X G Y.c5k,Y.d0u.binds (by walk_at"b2"),W.mg_of X G Y.f0s,Y.d0v.binds (by walk_at"b1"),W.mg_of X G Y.f0t,Y.b7u.binds (by walk_at"b1"),W.mg_of X G Y.d1q,Y.b0o.binds (by walk_at"b2"),W.mg_of X G Y.d1r,Y.b3p.binds (by walk_at"b3"),W.mg_of X G Y.c5l,Y.d0w.binds (by walk_at"b1"),W.mg_of X G Y.f0u,Y.c4m.binds (by walk_at"b1"),W.mg_of X G Y.f0v,Y.c5v.binds (by walk_at"b3"),W.mg_of X G Y.d7g,Y.h7r.binds (by walk_at"b1"),W.mg_of X G Y.i1g,W.mg_none_of X G Y.d4h,W.mg_none_of X G Y.i7h,W.mg_none_of X G Y.i7i,W.mg_none_of X G Y.y_bool,W.mg_none_of X G Y.i7j,W.mg_none_of X G Y.d4i,W.mg_none_of X G Y.i7k,W.mg_none_of X G Y.h7s,W.mg_none_of X G Y.g9f,W.mg_none_of X G Y.i7l,W.mg_of X G Y.d6t,W.mg_of X G Y.d6u,W.mg_of X G Y.f5s,W.mg_of X G Y.f5t,W.mg_of X G Y.f5u,W.mg_of X G Y.g2g,W.mg_of X G Y.g2h,W.mg_of X G Y.g8z,W.mg_of X G Y.f0h,W.mg_of X G Y.g2i,W.mg_of X G Y.f5v,W.mg_of X G Y.g9a,W.mg_of X G Y.g9b,W.mg_of X G Y.g2j,W.mg_of X G Y.g9c,W.mg_of X G Y.g2k,W.mg_of X G Y.f0i,W.mg_of X G Y.g2l,⟨Y.d7i⟩,⟨Y.f6k⟩,⟨Y.f6l⟩,⟨Y.f6m⟩,⟨Y.g2n⟩,⟨Y.g2o⟩,⟨Y.g2p⟩,⟨Y.a6u,Y.a6v,Y.a6w,Y.a6y,Y.a6z,Y.a7g,Y.a7h,Y.a7i⟩,⟨Y.a7r,Y.a7s,Y.a7t,Y.a7u,Y.a7v,Y.a7w,Y.a7y,Y.a7z⟩,⟨Y.a4h,Y.a4i,Y.a4j,Y.a4k,Y.a4l,Y.a4m,Y.a4n,Y.a4o⟩,⟨Y.a8t,Y.a8u,Y.a8v,Y.a8w,Y.a8y,Y.a8z,Y.a9g,Y.a9h⟩,⟨Y.a2n,Y.a2o,Y.a2p,Y.a2q,Y.a2r,Y.a2s,Y.a2t,Y.a2u⟩,⟨Y.a1p,Y.a1q,Y.a1r,Y.a1s,Y.a1t,Y.a1u,Y.a1v,Y.a1w⟩,⟨Y.a2v,Y.a2w,Y.a2y,Y.a2z,Y.a3g,Y.a3h,Y.a3i,Y.a3j⟩,⟨Y.a4p,Y.a4q,Y.a4r,Y.a4s,Y.a4t,Y.a4u,Y.a4v,Y.a4w⟩,⟨Y.a3k,Y.a3l,Y.a3m,Y.a3n,Y.a3o,Y.a3p,Y.a3q,Y.a3r⟩,⟨Y.a5v,Y.a5w,Y.a5y,Y.a5z,Y.a6g,Y.a6h,Y.a6i,Y.a6j⟩,⟨Y.a4y,Y.a4z,Y.a5g,Y.a5h,Y.a5i,Y.a5j,Y.a5k,Y.a5l⟩,a0v Y.b4o ⟨Y.a1p,Y.a1q,Y.a1r,Y.a1s,Y.a1t,Y.a1u,Y.a1v,Y.a1w⟩ ⟨Y.a6u,Y.a6v,Y.a6w,Y.a6y,Y.a6z,Y.a7g,Y.a7h,Y.a7i⟩,a0v Y.b5v ⟨Y.a1p,Y.a1q,Y.a1r,Y.a1s,Y.a1t,Y.a1u,Y.a1v,Y.a1w⟩ ⟨Y.a7r,Y.a7s,Y.a7t,Y.a7u,Y.a7v,Y.a7w,Y.a7y,Y.a7z⟩,a0v Y.c0m ⟨Y.a1p,Y.a1q,Y.a1r,Y.a1s,Y.a1t,Y.a1u,Y.a1v,Y.a1w⟩ ⟨Y.a4h,Y.a4i,Y.a4j,Y.a4k,Y.a4l,Y.a4m,Y.a4n,Y.a4o⟩,a0v Y.b7v ⟨Y.a1p,Y.a1q,Y.a1r,Y.a1s,Y.a1t,Y.a1u,Y.a1v,Y.a1w⟩ ⟨Y.a8t,Y.a8u,Y.a8v,Y.a8w,Y.a8y,Y.a8z,Y.a9g,Y.a9h⟩,a0v Y.b7w ⟨Y.a1p,Y.a1q,Y.a1r,Y.a1s,Y.a1t,Y.a1u,Y.a1v,Y.a1w⟩ ⟨Y.a2n,Y.a2o,Y.a2p,Y.a2q,Y.a2r,Y.a2s,Y.a2t,Y.a2u⟩,a0v Y.b4p ⟨Y.a1p,Y.a1q,Y.a1r,Y.a1s,Y.a1t,Y.a1u,Y.a1v,Y.a1w⟩ ⟨Y.a1p,Y.a1q,Y.a1r,Y.a1s,Y.a1t,Y.a1u,Y.a1v,Y.a1w⟩,a0v Y.b7y ⟨Y.a1p,Y.a1q,Y.a1r,Y.a1s,Y.a1t,Y.a1u,Y.a1v,Y.a1w⟩ ⟨Y.a2v,Y.a2w,Y.a2y,Y.a2z,Y.a3g,Y.a3h,Y.a3i,Y.a3j⟩,a0v Y.c0n ⟨Y.a1p,Y.a1q,Y.a1r,Y.a1s,Y.a1t,Y.a1u,Y.a1v,Y.a1w⟩ ⟨Y.a4p,Y.a4q,Y.a4r,Y.a4s,Y.a4t,Y.a4u,Y.a4v,Y.a4w⟩,a0v Y.b7z ⟨Y.a1p,Y.a1q,Y.a1r,Y.a1s,Y.a1t,Y.a1u,Y.a1v,Y.a1w⟩ ⟨Y.a3k,Y.a3l,Y.a3m,Y.a3n,Y.a3o,Y.a3p,Y.a3q,Y.a3r⟩,a0v Y.c1y ⟨Y.a1p,Y.a1q,Y.a1r,Y.a1s,Y.a1t,Y.a1u,Y.a1v,Y.a1w⟩ ⟨Y.a5v,Y.a5w,Y.a5y,Y.a5z,Y.a6g,Y.a6h,Y.a6i,Y.a6j⟩,a0v Y.c0o ⟨Y.a1p,Y.a1q,Y.a1r,Y.a1s,Y.a1t,Y.a1u,Y.a1v,Y.a1w⟩ ⟨Y.a4y,Y.a4z,Y.a5g,Y.a5h,Y.a5i,Y.a5j,Y.a5k,Y.a5l⟩,c7r Y.b2m c1n,a0v Y.b8g ⟨Y.a3k,Y.a3l,Y.a3m,Y.a3n,Y.a3o,Y.a3p,Y.a3q,Y.a3r⟩ ⟨Y.a6u,Y.a6v,Y.a6w,Y.a6y,Y.a6z,Y.a7g,Y.a7h,Y.a7i⟩,a0v Y.c0p ⟨Y.a3k,Y.a3l,Y.a3m,Y.a3n,Y.a3o,Y.a3p,Y.a3q,Y.a3r⟩ ⟨Y.a7r,Y.a7s,Y.a7t,Y.a7u,Y.a7v,Y.a7w,Y.a7y,Y.a7z⟩,a0v Y.c5y ⟨Y.a3k,Y.a3l,Y.a3m,Y.a3n,Y.a3o,Y.a3p,Y.a3q,Y.a3r⟩ ⟨Y.a4h,Y.a4i,Y.a4j,Y.a4k,Y.a4l,Y.a4m,Y.a4n,Y.a4o⟩,a0v Y.c1z ⟨Y.a3k,Y.a3l,Y.a3m,Y.a3n,Y.a3o,Y.a3p,Y.a3q,Y.a3r⟩ ⟨Y.a8t,Y.a8u,Y.a8v,Y.a8w,Y.a8y,Y.a8z,Y.a9g,Y.a9h⟩,a0v Y.c2g ⟨Y.a3k,Y.a3l,Y.a3m,Y.a3n,Y.a3o,Y.a3p,Y.a3q,Y.a3r⟩ ⟨Y.a2n,Y.a2o,Y.a2p,Y.a2q,Y.a2r,Y.a2s,Y.a2t,Y.a2u⟩,a0v Y.b8h ⟨Y.a3k,Y.a3l,Y.a3m,Y.a3n,Y.a3o,Y.a3p,Y.a3q,Y.a3r⟩ ⟨Y.a1p,Y.a1q,Y.a1r,Y.a1s,Y.a1t,Y.a1u,Y.a1v,Y.a1w⟩,a0v Y.c2h ⟨Y.a3k,Y.a3l,Y.a3m,Y.a3n,Y.a3o,Y.a3p,Y.a3q,Y.a3r⟩ ⟨Y.a2v,Y.a2w,Y.a2y,Y.a2z,Y.a3g,Y.a3h,Y.a3i,Y.a3j⟩,a0v Y.c5z ⟨Y.a3k,Y.a3l,Y.a3m,Y.a3n,Y.a3o,Y.a3p,Y.a3q,Y.a3r⟩ ⟨Y.a4p,Y.a4q,Y.a4r,Y.a4s,Y.a4t,Y.a4u,Y.a4v,Y.a4w⟩,a0v Y.c2i ⟨Y.a3k,Y.a3l,Y.a3m,Y.a3n,Y.a3o,Y.a3p,Y.a3q,Y.a3r⟩ ⟨Y.a3k,Y.a3l,Y.a3m,Y.a3n,Y.a3o,Y.a3p,Y.a3q,Y.a3r⟩,a0v Y.c8w ⟨Y.a3k,Y.a3l,Y.a3m,Y.a3n,Y.a3o,Y.a3p,Y.a3q,Y.a3r⟩ ⟨Y.a5v,Y.a5w,Y.a5y,Y.a5z,Y.a6g,Y.a6h,Y.a6i,Y.a6j⟩,a0v Y.c6h ⟨Y.a3k,Y.a3l,Y.a3m,Y.a3n,Y.a3o,Y.a3p,Y.a3q,Y.a3r⟩ ⟨Y.a4y,Y.a4z,Y.a5g,Y.a5h,Y.a5i,Y.a5j,Y.a5k,Y.a5l⟩,c7r Y.b4q c1n,a0v Y.b8i ⟨Y.a2v,Y.a2w,Y.a2y,Y.a2z,Y.a3g,Y.a3h,Y.a3i,Y.a3j⟩ ⟨Y.a6u,Y.a6v,Y.a6w,Y.a6y,Y.a6z,Y.a7g,Y.a7h,Y.a7i⟩,a0v Y.c0r ⟨Y.a2v,Y.a2w,Y.a2y,Y.a2z,Y.a3g,Y.a3h,Y.a3i,Y.a3j⟩ ⟨Y.a7r,Y.a7s,Y.a7t,Y.a7u,Y.a7v,Y.a7w,Y.a7y,Y.a7z⟩,a0v Y.c6i ⟨Y.a2v,Y.a2w,Y.a2y,Y.a2z,Y.a3g,Y.a3h,Y.a3i,Y.a3j⟩ ⟨Y.a4h,Y.a4i,Y.a4j,Y.a4k,Y.a4l,Y.a4m,Y.a4n,Y.a4o⟩,a0v Y.c2j ⟨Y.a2v,Y.a2w,Y.a2y,Y.a2z,Y.a3g,Y.a3h,Y.a3i,Y.a3j⟩ ⟨Y.a8t,Y.a8u,Y.a8v,Y.a8w,Y.a8y,Y.a8z,Y.a9g,Y.a9h⟩,a0v Y.c2k ⟨Y.a2v,Y.a2w,Y.a2y,Y.a2z,Y.a3g,Y.a3h,Y.a3i,Y.a3j⟩ ⟨Y.a2n,Y.a2o,Y.a2p,Y.a2q,Y.a2r,Y.a2s,Y.a2t,Y.a2u⟩,a0v Y.b8j ⟨Y.a2v,Y.a2w,Y.a2y,Y.a2z,Y.a3g,Y.a3h,Y.a3i,Y.a3j⟩ ⟨Y.a1p,Y.a1q,Y.a1r,Y.a1s,Y.a1t,Y.a1u,Y.a1v,Y.a1w⟩,a0v Y.c2l ⟨Y.a2v,Y.a2w,Y.a2y,Y.a2z,Y.a3g,Y.a3h,Y.a3i,Y.a3j⟩ ⟨Y.a2v,Y.a2w,Y.a2y,Y.a2z,Y.a3g,Y.a3h,Y.a3i,Y.a3j⟩,a0v Y.c6j ⟨Y.a2v,Y.a2w,Y.a2y,Y.a2z,Y.a3g,Y.a3h,Y.a3i,Y.a3j⟩ ⟨Y.a4p,Y.a4q,Y.a4r,Y.a4s,Y.a4t,Y.a4u,Y.a4v,Y.a4w⟩,a0v Y.c2m ⟨Y.a2v,Y.a2w,Y.a2y,Y.a2z,Y.a3g,Y.a3h,Y.a3i,Y.a3j⟩ ⟨Y.a3k,Y.a3l,Y.a3m,Y.a3n,Y.a3o,Y.a3p,Y.a3q,Y.a3r⟩,a0v Y.c8y ⟨Y.a2v,Y.a2w,Y.a2y,Y.a2z,Y.a3g,Y.a3h,Y.a3i,Y.a3j⟩ ⟨Y.a5v,Y.a5w,Y.a5y,Y.a5z,Y.a6g,Y.a6h,Y.a6i,Y.a6j⟩,a0v Y.c6k ⟨Y.a2v,Y.a2w,Y.a2y,Y.a2z,Y.a3g,Y.a3h,Y.a3i,Y.a3j⟩ ⟨Y.a4y,Y.a4z,Y.a5g,Y.a5h,Y.a5i,Y.a5j,Y.a5k,Y.a5l⟩,c7r Y.b4r c1n,a0v Y.b8k ⟨Y.a2n,Y.a2o,Y.a2p,Y.a2q,Y.a2r,Y.a2s,Y.a2t,Y.a2u⟩ ⟨Y.a6u,Y.a6v,Y.a6w,Y.a6y,Y.a6z,Y.a7g,Y.a7h,Y.a7i⟩,a0v Y.c0t ⟨Y.a2n,Y.a2o,Y.a2p,Y.a2q,Y.a2r,Y.a2s,Y.a2t,Y.a2u⟩ ⟨Y.a7r,Y.a7s,Y.a7t,Y.a7u,Y.a7v,Y.a7w,Y.a7y,Y.a7z⟩,a0v Y.c6l ⟨Y.a2n,Y.a2o,Y.a2p,Y.a2q,Y.a2r,Y.a2s,Y.a2t,Y.a2u⟩ ⟨Y.a4h,Y.a4i,Y.a4j,Y.a4k,Y.a4l,Y.a4m,Y.a4n,Y.a4o⟩,a0v Y.c2n ⟨Y.a2n,Y.a2o,Y.a2p,Y.a2q,Y.a2r,Y.a2s,Y.a2t,Y.a2u⟩ ⟨Y.a8t,Y.a8u,Y.a8v,Y.a8w,Y.a8y,Y.a8z,Y.a9g,Y.a9h⟩,a0v Y.c2o ⟨Y.a2n,Y.a2o,Y.a2p,Y.a2q,Y.a2r,Y.a2s,Y.a2t,Y.a2u⟩ ⟨Y.a2n,Y.a2o,Y.a2p,Y.a2q,Y.a2r,Y.a2s,Y.a2t,Y.a2u⟩,a0v Y.b8l ⟨Y.a2n,Y.a2o,Y.a2p,Y.a2q,Y.a2r,Y.a2s,Y.a2t,Y.a2u⟩ ⟨Y.a1p,Y.a1q,Y.a1r,Y.a1s,Y.a1t,Y.a1u,Y.a1v,Y.a1w⟩,a0v Y.c2p ⟨Y.a2n,Y.a2o,Y.a2p,Y.a2q,Y.a2r,Y.a2s,Y.a2t,Y.a2u⟩ ⟨Y.a2v,Y.a2w,Y.a2y,Y.a2z,Y.a3g,Y.a3h,Y.a3i,Y.a3j⟩,a0v Y.c6m ⟨Y.a2n,Y.a2o,Y.a2p,Y.a2q,Y.a2r,Y.a2s,Y.a2t,Y.a2u⟩ ⟨Y.a4p,Y.a4q,Y.a4r,Y.a4s,Y.a4t,Y.a4u,Y.a4v,Y.a4w⟩,a0v Y.c2q ⟨Y.a2n,Y.a2o,Y.a2p,Y.a2q,Y.a2r,Y.a2s,Y.a2t,Y.a2u⟩ ⟨Y.a3k,Y.a3l,Y.a3m,Y.a3n,Y.a3o,Y.a3p,Y.a3q,Y.a3r⟩,a0v Y.c8z ⟨Y.a2n,Y.a2o,Y.a2p,Y.a2q,Y.a2r,Y.a2s,Y.a2t,Y.a2u⟩ ⟨Y.a5v,Y.a5w,Y.a5y,Y.a5z,Y.a6g,Y.a6h,Y.a6i,Y.a6j⟩,a0v Y.c6n ⟨Y.a2n,Y.a2o,Y.a2p,Y.a2q,Y.a2r,Y.a2s,Y.a2t,Y.a2u⟩ ⟨Y.a4y,Y.a4z,Y.a5g,Y.a5h,Y.a5i,Y.a5j,Y.a5k,Y.a5l⟩,c7r Y.b4s c1n,a0v Y.c0u ⟨Y.a4y,Y.a4z,Y.a5g,Y.a5h,Y.a5i,Y.a5j,Y.a5k,Y.a5l⟩ ⟨Y.a6u,Y.a6v,Y.a6w,Y.a6y,Y.a6z,Y.a7g,Y.a7h,Y.a7i⟩,a0v Y.c2s ⟨Y.a4y,Y.a4z,Y.a5g,Y.a5h,Y.a5i,Y.a5j,Y.a5k,Y.a5l⟩ ⟨Y.a7r,Y.a7s,Y.a7t,Y.a7u,Y.a7v,Y.a7w,Y.a7y,Y.a7z⟩,a0v Y.c9g ⟨Y.a4y,Y.a4z,Y.a5g,Y.a5h,Y.a5i,Y.a5j,Y.a5k,Y.a5l⟩ ⟨Y.a4h,Y.a4i,Y.a4j,Y.a4k,Y.a4l,Y.a4m,Y.a4n,Y.a4o⟩,a0v Y.c6o ⟨Y.a4y,Y.a4z,Y.a5g,Y.a5h,Y.a5i,Y.a5j,Y.a5k,Y.a5l⟩ ⟨Y.a8t,Y.a8u,Y.a8v,Y.a8w,Y.a8y,Y.a8z,Y.a9g,Y.a9h⟩,a0v Y.c6p ⟨Y.a4y,Y.a4z,Y.a5g,Y.a5h,Y.a5i,Y.a5j,Y.a5k,Y.a5l⟩ ⟨Y.a2n,Y.a2o,Y.a2p,Y.a2q,Y.a2r,Y.a2s,Y.a2t,Y.a2u⟩,a0v Y.c0v ⟨Y.a4y,Y.a4z,Y.a5g,Y.a5h,Y.a5i,Y.a5j,Y.a5k,Y.a5l⟩ ⟨Y.a1p,Y.a1q,Y.a1r,Y.a1s,Y.a1t,Y.a1u,Y.a1v,Y.a1w⟩,a0v Y.c6q ⟨Y.a4y,Y.a4z,Y.a5g,Y.a5h,Y.a5i,Y.a5j,Y.a5k,Y.a5l⟩ ⟨Y.a2v,Y.a2w,Y.a2y,Y.a2z,Y.a3g,Y.a3h,Y.a3i,Y.a3j⟩,a0v Y.c9h ⟨Y.a4y,Y.a4z,Y.a5g,Y.a5h,Y.a5i,Y.a5j,Y.a5k,Y.a5l⟩ ⟨Y.a4p,Y.a4q,Y.a4r,Y.a4s,Y.a4t,Y.a4u,Y.a4v,Y.a4w⟩,a0v Y.c6r ⟨Y.a4y,Y.a4z,Y.a5g,Y.a5h,Y.a5i,Y.a5j,Y.a5k,Y.a5l⟩ ⟨Y.a3k,Y.a3l,Y.a3m,Y.a3n,Y.a3o,Y.a3p,Y.a3q,Y.a3r⟩,a0v Y.d2i ⟨Y.a4y,Y.a4z,Y.a5g,Y.a5h,Y.a5i,Y.a5j,Y.a5k,Y.a5l⟩ ⟨Y.a5v,Y.a5w,Y.a5y,Y.a5z,Y.a6g,Y.a6h,Y.a6i,Y.a6j⟩,a0v Y.c9i ⟨Y.a4y,Y.a4z,Y.a5g,Y.a5h,Y.a5i,Y.a5j,Y.a5k,Y.a5l⟩ ⟨Y.a4y,Y.a4z,Y.a5g,Y.a5h,Y.a5i,Y.a5j,Y.a5k,Y.a5l⟩,c7r Y.b5w c1n,a0v Y.c0w ⟨Y.a4h,Y.a4i,Y.a4j,Y.a4k,Y.a4l,Y.a4m,Y.a4n,Y.a4o⟩ ⟨Y.a6u,Y.a6v,Y.a6w,Y.a6y,Y.a6z,Y.a7g,Y.a7h,Y.a7i⟩,a0v Y.c2u ⟨Y.a4h,Y.a4i,Y.a4j,Y.a4k,Y.a4l,Y.a4m,Y.a4n,Y.a4o⟩ ⟨Y.a7r,Y.a7s,Y.a7t,Y.a7u,Y.a7v,Y.a7w,Y.a7y,Y.a7z⟩,a0v Y.c9j ⟨Y.a4h,Y.a4i,Y.a4j,Y.a4k,Y.a4l,Y.a4m,Y.a4n,Y.a4o⟩ ⟨Y.a4h,Y.a4i,Y.a4j,Y.a4k,Y.a4l,Y.a4m,Y.a4n,Y.a4o⟩,a0v Y.c6s ⟨Y.a4h,Y.a4i,Y.a4j,Y.a4k,Y.a4l,Y.a4m,Y.a4n,Y.a4o⟩ ⟨Y.a8t,Y.a8u,Y.a8v,Y.a8w,Y.a8y,Y.a8z,Y.a9g,Y.a9h⟩,a0v Y.c6t ⟨Y.a4h,Y.a4i,Y.a4j,Y.a4k,Y.a4l,Y.a4m,Y.a4n,Y.a4o⟩ ⟨Y.a2n,Y.a2o,Y.a2p,Y.a2q,Y.a2r,Y.a2s,Y.a2t,Y.a2u⟩,a0v Y.c0y ⟨Y.a4h,Y.a4i,Y.a4j,Y.a4k,Y.a4l,Y.a4m,Y.a4n,Y.a4o⟩ ⟨Y.a1p,Y.a1q,Y.a1r,Y.a1s,Y.a1t,Y.a1u,Y.a1v,Y.a1w⟩,a0v Y.c6u ⟨Y.a4h,Y.a4i,Y.a4j,Y.a4k,Y.a4l,Y.a4m,Y.a4n,Y.a4o⟩ ⟨Y.a2v,Y.a2w,Y.a2y,Y.a2z,Y.a3g,Y.a3h,Y.a3i,Y.a3j⟩,a0v Y.c9k ⟨Y.a4h,Y.a4i,Y.a4j,Y.a4k,Y.a4l,Y.a4m,Y.a4n,Y.a4o⟩ ⟨Y.a4p,Y.a4q,Y.a4r,Y.a4s,Y.a4t,Y.a4u,Y.a4v,Y.a4w⟩,a0v Y.c6v ⟨Y.a4h,Y.a4i,Y.a4j,Y.a4k,Y.a4l,Y.a4m,Y.a4n,Y.a4o⟩ ⟨Y.a3k,Y.a3l,Y.a3m,Y.a3n,Y.a3o,Y.a3p,Y.a3q,Y.a3r⟩,a0v Y.d2j ⟨Y.a4h,Y.a4i,Y.a4j,Y.a4k,Y.a4l,Y.a4m,Y.a4n,Y.a4o⟩ ⟨Y.a5v,Y.a5w,Y.a5y,Y.a5z,Y.a6g,Y.a6h,Y.a6i,Y.a6j⟩,a0v Y.c9l ⟨Y.a4h,Y.a4i,Y.a4j,Y.a4k,Y.a4l,Y.a4m,Y.a4n,Y.a4o⟩ ⟨Y.a4y,Y.a4z,Y.a5g,Y.a5h,Y.a5i,Y.a5j,Y.a5k,Y.a5l⟩,c7r Y.b5y c1n,a0v Y.c0z ⟨Y.a4p,Y.a4q,Y.a4r,Y.a4s,Y.a4t,Y.a4u,Y.a4v,Y.a4w⟩ ⟨Y.a6u,Y.a6v,Y.a6w,Y.a6y,Y.a6z,Y.a7g,Y.a7h,Y.a7i⟩,a0v Y.c2v ⟨Y.a4p,Y.a4q,Y.a4r,Y.a4s,Y.a4t,Y.a4u,Y.a4v,Y.a4w⟩ ⟨Y.a7r,Y.a7s,Y.a7t,Y.a7u,Y.a7v,Y.a7w,Y.a7y,Y.a7z⟩,a0v Y.c9m ⟨Y.a4p,Y.a4q,Y.a4r,Y.a4s,Y.a4t,Y.a4u,Y.a4v,Y.a4w⟩ ⟨Y.a4h,Y.a4i,Y.a4j,Y.a4k,Y.a4l,Y.a4m,Y.a4n,Y.a4o⟩,a0v Y.c6w ⟨Y.a4p,Y.a4q,Y.a4r,Y.a4s,Y.a4t,Y.a4u,Y.a4v,Y.a4w⟩ ⟨Y.a8t,Y.a8u,Y.a8v,Y.a8w,Y.a8y,Y.a8z,Y.a9g,Y.a9h⟩,a0v Y.c6y ⟨Y.a4p,Y.a4q,Y.a4r,Y.a4s,Y.a4t,Y.a4u,Y.a4v,Y.a4w⟩ ⟨Y.a2n,Y.a2o,Y.a2p,Y.a2q,Y.a2r,Y.a2s,Y.a2t,Y.a2u⟩,a0v Y.c1g ⟨Y.a4p,Y.a4q,Y.a4r,Y.a4s,Y.a4t,Y.a4u,Y.a4v,Y.a4w⟩ ⟨Y.a1p,Y.a1q,Y.a1r,Y.a1s,Y.a1t,Y.a1u,Y.a1v,Y.a1w⟩,a0v Y.c6z ⟨Y.a4p,Y.a4q,Y.a4r,Y.a4s,Y.a4t,Y.a4u,Y.a4v,Y.a4w⟩ ⟨Y.a2v,Y.a2w,Y.a2y,Y.a2z,Y.a3g,Y.a3h,Y.a3i,Y.a3j⟩,a0v Y.c9n ⟨Y.a4p,Y.a4q,Y.a4r,Y.a4s,Y.a4t,Y.a4u,Y.a4v,Y.a4w⟩ ⟨Y.a4p,Y.a4q,Y.a4r,Y.a4s,Y.a4t,Y.a4u,Y.a4v,Y.a4w⟩,a0v Y.c7g ⟨Y.a4p,Y.a4q,Y.a4r,Y.a4s,Y.a4t,Y.a4u,Y.a4v,Y.a4w⟩ ⟨Y.a3k,Y.a3l,Y.a3m,Y.a3n,Y.a3o,Y.a3p,Y.a3q,Y.a3r⟩,a0v Y.d2k ⟨Y.a4p,Y.a4q,Y.a4r,Y.a4s,Y.a4t,Y.a4u,Y.a4v,Y.a4w⟩ ⟨Y.a5v,Y.a5w,Y.a5y,Y.a5z,Y.a6g,Y.a6h,Y.a6i,Y.a6j⟩,a0v Y.c9o ⟨Y.a4p,Y.a4q,Y.a4r,Y.a4s,Y.a4t,Y.a4u,Y.a4v,Y.a4w⟩ ⟨Y.a4y,Y.a4z,Y.a5g,Y.a5h,Y.a5i,Y.a5j,Y.a5k,Y.a5l⟩,c7r Y.b5z c1n,a0v Y.c2w ⟨Y.a5v,Y.a5w,Y.a5y,Y.a5z,Y.a6g,Y.a6h,Y.a6i,Y.a6j⟩ ⟨Y.a6u,Y.a6v,Y.a6w,Y.a6y,Y.a6z,Y.a7g,Y.a7h,Y.a7i⟩,a0v Y.c7h ⟨Y.a5v,Y.a5w,Y.a5y,Y.a5z,Y.a6g,Y.a6h,Y.a6i,Y.a6j⟩ ⟨Y.a7r,Y.a7s,Y.a7t,Y.a7u,Y.a7v,Y.a7w,Y.a7y,Y.a7z⟩,a0v Y.d2l ⟨Y.a5v,Y.a5w,Y.a5y,Y.a5z,Y.a6g,Y.a6h,Y.a6i,Y.a6j⟩ ⟨Y.a4h,Y.a4i,Y.a4j,Y.a4k,Y.a4l,Y.a4m,Y.a4n,Y.a4o⟩,a0v Y.c9p ⟨Y.a5v,Y.a5w,Y.a5y,Y.a5z,Y.a6g,Y.a6h,Y.a6i,Y.a6j⟩ ⟨Y.a8t,Y.a8u,Y.a8v,Y.a8w,Y.a8y,Y.a8z,Y.a9g,Y.a9h⟩,a0v Y.c9q ⟨Y.a5v,Y.a5w,Y.a5y,Y.a5z,Y.a6g,Y.a6h,Y.a6i,Y.a6j⟩ ⟨Y.a2n,Y.a2o,Y.a2p,Y.a2q,Y.a2r,Y.a2s,Y.a2t,Y.a2u⟩,a0v Y.c2y ⟨Y.a5v,Y.a5w,Y.a5y,Y.a5z,Y.a6g,Y.a6h,Y.a6i,Y.a6j⟩ ⟨Y.a1p,Y.a1q,Y.a1r,Y.a1s,Y.a1t,Y.a1u,Y.a1v,Y.a1w⟩,a0v Y.c9r ⟨Y.a5v,Y.a5w,Y.a5y,Y.a5z,Y.a6g,Y.a6h,Y.a6i,Y.a6j⟩ ⟨Y.a2v,Y.a2w,Y.a2y,Y.a2z,Y.a3g,Y.a3h,Y.a3i,Y.a3j⟩,a0v Y.d2m ⟨Y.a5v,Y.a5w,Y.a5y,Y.a5z,Y.a6g,Y.a6h,Y.a6i,Y.a6j⟩ ⟨Y.a4p,Y.a4q,Y.a4r,Y.a4s,Y.a4t,Y.a4u,Y.a4v,Y.a4w⟩,a0v Y.c9s ⟨Y.a5v,Y.a5w,Y.a5y,Y.a5z,Y.a6g,Y.a6h,Y.a6i,Y.a6j⟩ ⟨Y.a3k,Y.a3l,Y.a3m,Y.a3n,Y.a3o,Y.a3p,Y.a3q,Y.a3r⟩,a0v Y.d4l ⟨Y.a5v,Y.a5w,Y.a5y,Y.a5z,Y.a6g,Y.a6h,Y.a6i,Y.a6j⟩ ⟨Y.a5v,Y.a5w,Y.a5y,Y.a5z,Y.a6g,Y.a6h,Y.a6i,Y.a6j⟩,a0v Y.d2n ⟨Y.a5v,Y.a5w,Y.a5y,Y.a5z,Y.a6g,Y.a6h,Y.a6i,Y.a6j⟩ ⟨Y.a4y,Y.a4z,Y.a5g,Y.a5h,Y.a5i,Y.a5j,Y.a5k,Y.a5l⟩,c7r Y.b8n c1n,b7h Y.c2z ⟨Y.a6u,Y.a6v,Y.a6w,Y.a6y,Y.a6z,Y.a7g,Y.a7h,Y.a7i⟩,b7h Y.c7i ⟨Y.a7r,Y.a7s,Y.a7t,Y.a7u,Y.a7v,Y.a7w,Y.a7y,Y.a7z⟩,b7h Y.d2o ⟨Y.a4h,Y.a4i,Y.a4j,Y.a4k,Y.a4l,Y.a4m,Y.a4n,Y.a4o⟩,b7h Y.c9t ⟨Y.a8t,Y.a8u,Y.a8v,Y.a8w,Y.a8y,Y.a8z,Y.a9g,Y.a9h⟩,b7h Y.c9u ⟨Y.a2n,Y.a2o,Y.a2p,Y.a2q,Y.a2r,Y.a2s,Y.a2t,Y.a2u⟩,b7h Y.c3g ⟨Y.a1p,Y.a1q,Y.a1r,Y.a1s,Y.a1t,Y.a1u,Y.a1v,Y.a1w⟩,b7h Y.c9v ⟨Y.a2v,Y.a2w,Y.a2y,Y.a2z,Y.a3g,Y.a3h,Y.a3i,Y.a3j⟩,b7h Y.d2p ⟨Y.a4p,Y.a4q,Y.a4r,Y.a4s,Y.a4t,Y.a4u,Y.a4v,Y.a4w⟩,b7h Y.c9w ⟨Y.a3k,Y.a3l,Y.a3m,Y.a3n,Y.a3o,Y.a3p,Y.a3q,Y.a3r⟩,b7h Y.d4m ⟨Y.a5v,Y.a5w,Y.a5y,Y.a5z,Y.a6g,Y.a6h,Y.a6i,Y.a6j⟩,b7h Y.d2q ⟨Y.a4y,Y.a4z,Y.a5g,Y.a5h,Y.a5i,Y.a5j,Y.a5k,Y.a5l⟩,(by kernel_rfl),W.mg_of X G Y.f0w,W.mg_of X G Y.b2n,W.mg_of X G Y.b2o,W.mg_of X G Y.d4n,W.mg_of X G Y.d4o,W.mg_of X G Y.d2r,W.mg_of X G Y.g9g,W.mg_of X G Y.f0z,W.mg_of X G Y.c7j,W.mg_of X G Y.f1g,⟨⟨_,_,ld_READERS,kd_READERS⟩,ne_READERS⟩⟩
 obtain⟨_,_,_,_,_,_,_,_,_,e,_,_⟩:=Y.h7r.ex
 exact⟨f2n,fun s v=>by have e':f2n=_:=e; rw [e']; exact .of_eq rfl,fun base _ _=>j5w T⟩
end My
namespace PySem.W.Fast
theorem tw7468588951764215633:1=1:=rfl
theorem tw8163106835115349284:1=1:=rfl
theorem tw18091663608278888304:1=1:=rfl
theorem tw15023210634863278144:1=1:=rfl
theorem tw9993060187866576891:1=1:=rfl
theorem tw1173635175357646214:1=1:=rfl
theorem tw9696755556763614492:1=1:=rfl
theorem tw7898207390121562855:1=1:=rfl
theorem tw5411308700928119428:1=1:=rfl
theorem tw9662205006026578456:1=1:=rfl
theorem tw5888684592052393764:1=1:=rfl
theorem tw12538478822444710597:1=1:=rfl
theorem tw13130064615558424105:1=1:=rfl
theorem tw17755782321100983452:1=1:=rfl
theorem tw5290507332500984889:1=1:=rfl
theorem tw6285806408380192671:1=1:=rfl
theorem tw12188102523726225380:1=1:=rfl
theorem tw11821220624076550889:1=1:=rfl
theorem tw11964684324874729460:1=1:=rfl
theorem tw16773579556683401511:1=1:=rfl
theorem tw17358896280004110462:1=1:=rfl
theorem tw18205200282479928075:1=1:=rfl
theorem tw6191168414591222580:1=1:=rfl
theorem tw8603912180267418003:1=1:=rfl
theorem tw7732425024523600877:1=1:=rfl
theorem tw12345647602453889324:1=1:=rfl
theorem tw467652891842271006:1=1:=rfl
theorem tw6820179564840038676:1=1:=rfl
theorem tw4000465283808646794:1=1:=rfl
theorem tw15283652534471314036:1=1:=rfl
theorem tw3981567123494970413:1=1:=rfl
theorem tw2451097299357874566:1=1:=rfl
theorem tw6218823518606172119:1=1:=rfl
theorem tw16845507990516561877:1=1:=rfl
theorem tw14436019312495098350:1=1:=rfl
theorem tw6285712107242582393:1=1:=rfl
theorem tw12416033108792786880:1=1:=rfl
theorem tw12406644682264971589:1=1:=rfl
theorem tw10916708701366806905:1=1:=rfl
theorem tw13761696968662733177:1=1:=rfl
theorem tw9791751879382739605:1=1:=rfl
theorem tw5363968045702873593:1=1:=rfl
theorem tw2424540061364100448:1=1:=rfl
theorem tw3191061820821978411:1=1:=rfl
theorem tw9098959278946769087:1=1:=rfl
theorem tw8277316895615795901:1=1:=rfl
theorem tw16248534366655548211:1=1:=rfl
theorem tw12867521814936423760:1=1:=rfl
theorem tw3645648951188889227:1=1:=rfl
theorem tw15800004571159562411:1=1:=rfl
theorem tw14828711005965524188:1=1:=rfl
theorem tw10607298744366996816:1=1:=rfl
theorem tw2222840887536966806:1=1:=rfl
theorem tw4966702197307780405:1=1:=rfl
theorem tw12794511392221170817:1=1:=rfl
theorem tw5329291162534950531:1=1:=rfl
theorem tw2948884111558732235:1=1:=rfl
theorem tw5968815043621311909:1=1:=rfl
theorem tw462743597778458707:1=1:=rfl
theorem tw4648110996352880143:1=1:=rfl
theorem tw16497184033118455029:1=1:=rfl
theorem tw1314350058472360693:1=1:=rfl
theorem tw16124005302505582517:1=1:=rfl
theorem tw257739276829473121:1=1:=rfl
theorem tw13963242113409969755:1=1:=rfl
theorem tw4709346305587834399:1=1:=rfl
theorem tw14564576009037156659:1=1:=rfl
theorem tw8160833875882518150:1=1:=rfl
theorem tw9306210911247767879:1=1:=rfl
theorem tw1248503943735349165:1=1:=rfl
theorem tw12302938407712068028:1=1:=rfl
theorem tw1261753311702340427:1=1:=rfl
theorem tw2104754575412145456:1=1:=rfl
theorem tw18337231928533294642:1=1:=rfl
theorem tw12084219766696224635:1=1:=rfl
theorem tw13653426253901179010:1=1:=rfl
theorem tw6170046877053321799:1=1:=rfl
theorem tw3054719931866748315:1=1:=rfl
theorem tw6690294038703508602:1=1:=rfl
theorem tw17003680143525919311:1=1:=rfl
theorem tw1975569089321757844:1=1:=rfl
theorem tw2972550523233788282:1=1:=rfl
theorem tw9669971737255253932:1=1:=rfl
theorem tw16536588527022894810:1=1:=rfl
theorem tw17468456286299364996:1=1:=rfl
theorem tw5214442700640667695:1=1:=rfl
theorem tw14175292396400955182:1=1:=rfl
theorem tw3086905504258539512:1=1:=rfl
theorem tw14370568414090045659:1=1:=rfl
theorem tw18206252929429598674:1=1:=rfl
theorem tw8714263422321022902:1=1:=rfl
theorem tw4551568070326504748:1=1:=rfl
theorem tw13294873566504287908:1=1:=rfl
theorem tw16082405712341090126:1=1:=rfl
theorem tw8604444979350910293:1=1:=rfl
theorem tw16394725591748357659:1=1:=rfl
theorem tw15524443247670876681:1=1:=rfl
theorem tw5156440366123918068:1=1:=rfl
theorem tw6121918736012153600:1=1:=rfl
theorem tw4393833464042206579:1=1:=rfl
theorem tw18044779593611186144:1=1:=rfl
theorem tw12008876096077253693:1=1:=rfl
theorem tw15896367101474558464:1=1:=rfl
theorem tw13605804442668421059:1=1:=rfl
theorem tw13227056707137409084:1=1:=rfl
theorem tw2519029364104987979:1=1:=rfl
theorem tw4056142159028165442:1=1:=rfl
theorem tw13045119210284691255:1=1:=rfl
theorem tw4811345828974253694:1=1:=rfl
theorem tw3786758164262149657:1=1:=rfl
theorem tw6364673821473974123:1=1:=rfl
theorem tw3354740227757332997:1=1:=rfl
theorem tw11429499721235454455:1=1:=rfl
theorem tw10554170554880159612:1=1:=rfl
theorem tw310778051636773653:1=1:=rfl
theorem tw12259028292884875241:1=1:=rfl
theorem tw14205656851405786875:1=1:=rfl
theorem tw10183001142168583424:1=1:=rfl
theorem tw17631448937468657792:1=1:=rfl
theorem tw12678733953769454944:1=1:=rfl
theorem tw5988075576382129228:1=1:=rfl
theorem tw15289901202173851135:1=1:=rfl
theorem tw10521893315302691407:1=1:=rfl
theorem tw7794906546227047304:1=1:=rfl
theorem tw5125145045446585557:1=1:=rfl
theorem tw5380532929525933434:1=1:=rfl
theorem tw3460639240756972739:1=1:=rfl
theorem tw3579281644294676789:1=1:=rfl
theorem tw11653550986872944353:1=1:=rfl
theorem tw17967191446028330140:1=1:=rfl
theorem tw6357538793301223431:1=1:=rfl
theorem tw8732251832839754351:1=1:=rfl
theorem tw810445792457422750:1=1:=rfl
theorem tw11285207558577317166:1=1:=rfl
theorem tw10118769251509859456:1=1:=rfl
theorem tw5661133597344665272:1=1:=rfl
theorem tw11534019288807805879:1=1:=rfl
theorem tw12550669977358783692:1=1:=rfl
theorem tw546125233615472626:1=1:=rfl
theorem tw8107399676256748575:1=1:=rfl
theorem tw8149830039041697751:1=1:=rfl
theorem tw1898742625017738663:1=1:=rfl
theorem tw8291049598593360060:1=1:=rfl
theorem tw11952494099455409676:1=1:=rfl
theorem tw6109080741767977183:1=1:=rfl
theorem tw12735542028068778672:1=1:=rfl
theorem tw11457848859035275763:1=1:=rfl
theorem tw11560007422088953638:1=1:=rfl
theorem tw10602897810662464438:1=1:=rfl
theorem tw17181774041071326645:1=1:=rfl
theorem tw3518073685511308208:1=1:=rfl
theorem tw9806398413827417782:1=1:=rfl
theorem tw688411573874936948:1=1:=rfl
theorem tw13605482531162011562:1=1:=rfl
theorem tw13452156159146594517:1=1:=rfl
theorem tw6010254702394109396:1=1:=rfl
theorem tw15019336543459245005:1=1:=rfl
theorem tw4576929057288092074:1=1:=rfl
theorem tw5504497850873207749:1=1:=rfl
theorem tw11564495370870371282:1=1:=rfl
theorem tw4662251566930063577:1=1:=rfl
theorem tw10658462648760252629:1=1:=rfl
theorem tw16971978769252217969:1=1:=rfl
theorem tw14676361755726504402:1=1:=rfl
theorem tw15471535228029421051:1=1:=rfl
theorem tw4035083371514909371:1=1:=rfl
theorem tw4209424741772102261:1=1:=rfl
theorem tw18320796388527254689:1=1:=rfl
theorem tw16214094021732373020:1=1:=rfl
theorem tw10437506156058443166:1=1:=rfl
theorem tw9402018589091337479:1=1:=rfl
theorem tw1037919880369005260:1=1:=rfl
theorem tw16798003814095175944:1=1:=rfl
theorem tw11981366700866513252:1=1:=rfl
theorem tw3381531993399832519:1=1:=rfl
theorem tw15870390482552193800:1=1:=rfl
theorem tw12482527502004052020:1=1:=rfl
theorem tw4041693940307185473:1=1:=rfl
theorem tw16931232645735433156:1=1:=rfl
theorem tw11092241749275100022:1=1:=rfl
theorem tw8739503356647443632:1=1:=rfl
theorem tw10626108928082315518:1=1:=rfl
theorem tw1035611192543224186:1=1:=rfl
theorem tw597694546271436068:1=1:=rfl
theorem tw409812331940292081:1=1:=rfl
theorem tw16032250564502368511:1=1:=rfl
theorem tw9987122579126868880:1=1:=rfl
theorem tw14976991143191170736:1=1:=rfl
theorem tw10028173818571336724:1=1:=rfl
theorem tw18424984097855218401:1=1:=rfl
theorem tw2375849219272933735:1=1:=rfl
theorem tw14665368398369804438:1=1:=rfl
theorem tw6998967950810356408:1=1:=rfl
theorem tw8347565933218064904:1=1:=rfl
theorem tw11944609675070743932:1=1:=rfl
theorem tw341238269378004802:1=1:=rfl
theorem tw15379165278708074103:1=1:=rfl
theorem tw15882669291825770756:1=1:=rfl
theorem tw6595563916326660083:1=1:=rfl
theorem tw4873891178767280851:1=1:=rfl
theorem tw8275476875843897426:1=1:=rfl
theorem tw8309018494922392292:1=1:=rfl
theorem tw13957866382302694706:1=1:=rfl
theorem tw6140544059890766773:1=1:=rfl
theorem tw5976992789299203394:1=1:=rfl
theorem tw12482886321783827051:1=1:=rfl
theorem tw12447202521867539806:1=1:=rfl
theorem tw12665787651411062929:1=1:=rfl
theorem tw269236234489141742:1=1:=rfl
theorem tw3595257607989890373:1=1:=rfl
theorem tw10109472728538728352:1=1:=rfl
theorem tw8528628467799544469:1=1:=rfl
theorem tw10044342979303042665:1=1:=rfl
theorem tw4445496435415518559:1=1:=rfl
theorem tw13899152882602675733:1=1:=rfl
theorem tw9971625312321413316:1=1:=rfl
theorem tw1829853199571539331:1=1:=rfl
theorem tw11874241486167864948:1=1:=rfl
theorem tw7454354481571822039:1=1:=rfl
theorem tw14001563336078307994:1=1:=rfl
theorem tw12350076124136069304:1=1:=rfl
theorem tw9048713645622150248:1=1:=rfl
theorem tw13298951797355235862:1=1:=rfl
theorem tw15482090566984731389:1=1:=rfl
theorem tw8621102169082900542:1=1:=rfl
theorem tw5367131566442617181:1=1:=rfl
theorem tw2754049241892165830:1=1:=rfl
theorem tw18322220782112639541:1=1:=rfl
theorem tw8544231988364545614:1=1:=rfl
theorem tw10334147303204184104:1=1:=rfl
theorem tw3081789241740216748:1=1:=rfl
theorem tw6248384554098616323:1=1:=rfl
theorem tw1296588444689171722:1=1:=rfl
theorem tw16411878611514514486:1=1:=rfl
theorem tw10336980244741401052:1=1:=rfl
theorem tw8213728308018378341:1=1:=rfl
theorem tw2345739973308069450:1=1:=rfl
theorem tw10940160301670678666:1=1:=rfl
theorem tw8643705321437280415:1=1:=rfl
theorem tw7857290565428943899:1=1:=rfl
theorem tw4745857098187068489:1=1:=rfl
theorem tw18430517808483020514:1=1:=rfl
theorem tw12243392546196324378:1=1:=rfl
theorem tw12809138425674491565:1=1:=rfl
theorem tw16141403877364882682:1=1:=rfl
theorem tw4963186882509272478:1=1:=rfl
theorem tw16337457366516649704:1=1:=rfl
theorem tw14279480465929843866:1=1:=rfl
theorem tw396120365273622749:1=1:=rfl
theorem tw11437664968889050069:1=1:=rfl
theorem tw5701404370708684636:1=1:=rfl
theorem tw9252938872369227271:1=1:=rfl
theorem tw16605493248165054240:1=1:=rfl
theorem tw3115955578373322478:1=1:=rfl
theorem tw7376110044931252074:1=1:=rfl
theorem tw5226071085992523758:1=1:=rfl
theorem tw6346810747166097824:1=1:=rfl
theorem tw11970741111827361670:1=1:=rfl
theorem tw9162545163684679118:1=1:=rfl
theorem tw17941111243690076932:1=1:=rfl
theorem tw13035611341213529727:1=1:=rfl
theorem tw11789851269222450315:1=1:=rfl
theorem tw5184617005370715615:1=1:=rfl
theorem tw1512595417120607076:1=1:=rfl
theorem tw3280756344088575151:1=1:=rfl
theorem tw17800739500852097235:1=1:=rfl
theorem tw17773377064693239478:1=1:=rfl
theorem tw3044303302920181039:1=1:=rfl
theorem tw12790127809522108213:1=1:=rfl
theorem tw14719375808370759095:1=1:=rfl
theorem tw7130202384363175125:1=1:=rfl
theorem tw11092454093886674769:1=1:=rfl
theorem tw13878510057123393628:1=1:=rfl
theorem tw5785416707148178976:1=1:=rfl
theorem tw10396790328297783874:1=1:=rfl
theorem tw3192882089968809212:1=1:=rfl
theorem tw4078312262073607587:1=1:=rfl
theorem tw1752275918946543689:1=1:=rfl
theorem tw15159536256706078482:1=1:=rfl
theorem tw16703346029365030759:1=1:=rfl
theorem tw15122036474926486690:1=1:=rfl
theorem tw15968584417984216011:1=1:=rfl
theorem tw7354751630332112760:1=1:=rfl
theorem tw11524739523648447423:1=1:=rfl
theorem tw4876740514642012933:1=1:=rfl
theorem tw11837794445324072416:1=1:=rfl
theorem tw10354128947822395352:1=1:=rfl
theorem tw6347516374178393440:1=1:=rfl
theorem tw7748183550666760816:1=1:=rfl
theorem tw7640061471349752165:1=1:=rfl
theorem tw14592367928757887753:1=1:=rfl
theorem tw14817079455177233294:1=1:=rfl
theorem tw16077868916533379661:1=1:=rfl
theorem tw17861127581578555300:1=1:=rfl
theorem tw93624451248511797:1=1:=rfl
theorem tw12322458387796330290:1=1:=rfl
theorem tw15067415577675116584:1=1:=rfl
theorem tw12555517069334812450:1=1:=rfl
theorem tw6789958547993891369:1=1:=rfl
theorem tw4175845133190100068:1=1:=rfl
theorem tw16584064603184321846:1=1:=rfl
theorem tw16086346063133392467:1=1:=rfl
theorem tw8623857130294957613:1=1:=rfl
theorem tw11484073259385491931:1=1:=rfl
theorem tw10821866991362477774:1=1:=rfl
theorem tw17526898270910770617:1=1:=rfl
theorem tw18304532143809838944:1=1:=rfl
theorem tw9653951395064468061:1=1:=rfl
theorem tw9739375190066404065:1=1:=rfl
theorem tw6541817618942821396:1=1:=rfl
theorem tw15174714224516204329:1=1:=rfl
theorem tw4497015203284831013:1=1:=rfl
theorem tw5505494729556830172:1=1:=rfl
theorem tw3561214098823499280:1=1:=rfl
theorem tw5029041356675533836:1=1:=rfl
theorem tw4053558860083659487:1=1:=rfl
theorem tw3011363939694530338:1=1:=rfl
theorem tw10851946974470791955:1=1:=rfl
theorem tw12569008482347831647:1=1:=rfl
theorem tw16305337872270436809:1=1:=rfl
theorem tw13902616795154873977:1=1:=rfl
theorem tw5812539436021388048:1=1:=rfl
theorem tw11897614356315783685:1=1:=rfl
theorem tw7198137112355917436:1=1:=rfl
theorem tw1096177552285132853:1=1:=rfl
theorem tw8239848751165102432:1=1:=rfl
theorem tw1494564184428351726:1=1:=rfl
theorem tw12286276490010503797:1=1:=rfl
theorem tw8430739870764949189:1=1:=rfl
theorem tw12557861148775953795:1=1:=rfl
theorem tw10767979210913933483:1=1:=rfl
theorem tw14894222712021083276:1=1:=rfl
theorem tw18021336861107837625:1=1:=rfl
theorem tw3550598588308508246:1=1:=rfl
theorem tw1438214821852085592:1=1:=rfl
theorem tw17271328205268461378:1=1:=rfl
theorem tw1198396528447226253:1=1:=rfl
theorem tw14556414473465667965:1=1:=rfl
theorem tw14346090922995490020:1=1:=rfl
theorem tw17376190892109580500:1=1:=rfl
theorem tw18012490162130560226:1=1:=rfl
theorem tw7811820061521254354:1=1:=rfl
theorem tw3926077191031191613:1=1:=rfl
theorem tw16269904711529436731:1=1:=rfl
theorem tw1059487716799943648:1=1:=rfl
theorem tw3106257329580917876:1=1:=rfl
theorem tw13814008201569895912:1=1:=rfl
theorem tw3509079200079800461:1=1:=rfl
theorem tw1311577126940878579:1=1:=rfl
theorem tw1205915278771202148:1=1:=rfl
theorem tw1697226917551896529:1=1:=rfl
theorem tw6099063603969106697:1=1:=rfl
theorem tw8929838785020433708:1=1:=rfl
theorem tw3243207255652148720:1=1:=rfl
theorem tw9262898962090084584:1=1:=rfl
theorem tw14396108195561211783:1=1:=rfl
theorem tw3792593080031729998:1=1:=rfl
theorem tw8637626153279290670:1=1:=rfl
theorem tw11347376029055007372:1=1:=rfl
theorem tw15154891296898376550:1=1:=rfl
theorem tw13812752769020319873:1=1:=rfl
theorem tw9869499008882752103:1=1:=rfl
theorem tw9915878557296201896:1=1:=rfl
theorem tw8869598635756458252:1=1:=rfl
theorem tw13528033700008765259:1=1:=rfl
theorem tw9026009690385380334:1=1:=rfl
theorem tw17311203918473186709:1=1:=rfl
theorem tw2348214209949521519:1=1:=rfl
theorem tw41193676651781829:1=1:=rfl
theorem tw970452294731629271:1=1:=rfl
theorem tw6059851456041249012:1=1:=rfl
theorem tw3940430337589913042:1=1:=rfl
theorem tw10547225205397473428:1=1:=rfl
theorem tw13061746908564474067:1=1:=rfl
theorem tw18136551829472766746:1=1:=rfl
theorem tw17687402286669201043:1=1:=rfl
theorem tw18070501876348279922:1=1:=rfl
theorem tw5086940264302091402:1=1:=rfl
theorem tw3354702295926679746:1=1:=rfl
theorem tw13905625999592241619:1=1:=rfl
theorem tw10911811184807259695:1=1:=rfl
theorem tw7128540538918196878:1=1:=rfl
theorem tw5990940310079426932:1=1:=rfl
theorem tw5519721787849488640:1=1:=rfl
theorem tw15596296728484016189:1=1:=rfl
theorem tw3331394561150233440:1=1:=rfl
theorem tw8111209247410820023:1=1:=rfl
theorem tw5496169301009740756:1=1:=rfl
theorem tw5382971626709102557:1=1:=rfl
theorem tw8944523557970552076:1=1:=rfl
theorem tw6115324432555105538:1=1:=rfl
theorem tw2571937164238619458:1=1:=rfl
theorem tw6544865069723866198:1=1:=rfl
theorem tw14396949117588545026:1=1:=rfl
theorem tw14083324030810033974:1=1:=rfl
theorem tw3997992263661216812:1=1:=rfl
theorem tw9990841007177856345:1=1:=rfl
theorem tw7447923849850835105:1=1:=rfl
theorem tw16921473031609128680:1=1:=rfl
theorem tw17305081533341858958:1=1:=rfl
end PySem.W.Fast
open PySem PySem.W PyProof.Rows L2
set_option maxRecDepth 100000 in
set_option maxHeartbeats 0 in
theorem PySem.Challenge.cw_mixbench_k82_refused_lines_holds : PySem.Challenge.rw_mixbench_k82_refused_lines.Holds := by
 w_on; o_law; k_head; (case hw=>w_witness2)
 k_fill
 refine L2.i0h (l:=PySem.Challenge.rw_mixbench_k82_refused_lines) (k:=18) (x:="_law_script") (CX:=fun _=>L2.CX0) rfl rfl ⟨rfl,by decide,by decide⟩ (fun w h Y=>PySem.W.kIn_of Y) ?F (fun _ _ _ _ _ z=>z)
 case F =>
  intro w mg fa h KX G hmg
  refine' My.all_mk (wd:=w) KX G hmg ⟨?d6t,?d6u,?f5s,?f5t,?f5u,?g2g,?g2h,?g8z,?f0h,?g2i,?f5v,?g9a,?g9b,?g2j,?g9c,?g2k,?f0i,?g2l,?f0j,?d3r,?f0k,?f5w,?f0l,?f5y,?f0m,?c5g,?c5h,?d6v,?d1n,?d1o,?f5z,?f0n,?f6g,?f6h,?f0o,?f6i,?d6w,?f0p,?f6j,?d6y,?f0q,?f0r,?c5i,?d1p,?c5j,?d6z,?c5k,?f0s,?f0t,?d1q,?d1r,?c5l,?f0u,?f0v,?d7g,?i1g,?h7p,?d1s,?d7h,?h7q,?d9g,?b4n,?a6p,?h1p,?d3s,?d1t,?b0t,?a5r,?g9d,?d1u,?c8r,?b4j,?a6l,?a5p,?g2m,?c8s,?b2k,?a3w,?a6r,?a6s,?d9h,?a1i,?a0j,?a0m,?a0l,?a0n,?g9e,?a8q,?c8t,?d3t,?d1v,?d3u,?d3v,?c5m,?c8u,?c8v,?d1w,?d1y,?b4k,?b1h,?c0j,?d3w,?c4l,?d3y,?d0q,?a8p,?a9u,?c7z,?d1z,?d2g,?c8g,?c8h,?b3l,?b7r,?a9m,?c5n,?d0r,?d3z,?c5o,?c0k,?c1s,?c3m,?b4u,?c5p,?c8i,?b0y,?b7s,?c5q,?c1t,?d2h,?c5r,?c1j,?c3n,?c3o,?c8j,?c5s,?d0s,?d4g,?c5t,?c0l,?d0t,?b3m,?b7t,?b3n,?c5u,?b3o,?d0u,?d0v,?b7u,?b0o,?b3p,?d0w,?c4m,?c5v,?h7r,?d4h,?i7h,?i7i,?y_bool,?i7j,?d4i,?i7k,?h7s,?g9f,?i7l,?d7i,?f6k,?f6l,?f6m,?g2n,?g2o,?g2p,?g2q,?a6u,?a6v,?a6w,?a6y,?a6z,?a7g,?a7h,?a7i,?a7r,?a7s,?a7t,?a7u,?a7v,?a7w,?a7y,?a7z,?a4h,?a4i,?a4j,?a4k,?a4l,?a4m,?a4n,?a4o,?a8t,?a8u,?a8v,?a8w,?a8y,?a8z,?a9g,?a9h,?a2n,?a2o,?a2p,?a2q,?a2r,?a2s,?a2t,?a2u,?a1p,?a1q,?a1r,?a1s,?a1t,?a1u,?a1v,?a1w,?a2v,?a2w,?a2y,?a2z,?a3g,?a3h,?a3i,?a3j,?a4p,?a4q,?a4r,?a4s,?a4t,?a4u,?a4v,?a4w,?a3k,?a3l,?a3m,?a3n,?a3o,?a3p,?a3q,?a3r,?a5v,?a5w,?a5y,?a5z,?a6g,?a6h,?a6i,?a6j,?a4y,?a4z,?a5g,?a5h,?a5i,?a5j,?a5k,?a5l,?b4o,?b5u,?b5v,?c0m,?b7v,?b7w,?b4p,?c5w,?b7y,?c0n,?b7z,?c1y,?c0o,?b2m,?b8g,?d0y,?c0p,?c5y,?c1z,?c2g,?b8h,?c2h,?c5z,?c2i,?c6g,?c8w,?c6h,?b4q,?b8i,?c0q,?c0r,?c6i,?c2j,?c2k,?b8j,?c2l,?d4j,?c6j,?c2m,?c8y,?c6k,?b4r,?b8k,?c0s,?c0t,?c6l,?c2n,?c2o,?d4k,?b8l,?c2p,?c6m,?c2q,?c8z,?c6n,?b4s,?c0u,?c2r,?c2s,?c9g,?c6o,?c6p,?c0v,?c6q,?c9h,?c6r,?d2i,?c9i,?d9i,?b5w,?c0w,?c2t,?c2u,?c9j,?d9j,?c6s,?c6t,?c0y,?c6u,?c9k,?c6v,?d2j,?c9l,?b5y,?c0z,?b4v,?c2v,?c9m,?c6w,?c6y,?c1g,?c6z,?c9n,?d9k,?c7g,?d2k,?c9o,?b5z,?c2w,?b8m,?c7h,?d2l,?c9p,?c9q,?c2y,?c9r,?d2m,?c9s,?d4l,?d7j,?d2n,?b8n,?c2z,?c7i,?d2o,?c9t,?c9u,?c3g,?c9v,?d2p,?c9w,?d4m,?d2q,?f0w,?f0y,?b2n,?a9v,?b2o,?a9w,?d4n,?c8k,?d4o,?d4p,?d2r,?c3p,?g9g,?g2r,?f0z,?d5j,?c7j,?b8o,?f1g,?b3q,?b4w,?c7k,?d7k,?c9y⟩ ?ld_READERS ?kd_READERS ?ne_READERS
  case d6t|d6u|f5s|f5t|f5u|g2g|g2h|g8z|f0h|g2i|f5v|g9a|g9b|g2j|g9c|g2k|f0i|g2l|f0j|d3r|f0k|f5w|f0l|f5y|f0m|c5g|c5h|d6v|d1n|d1o|f5z|f0n|f6g|f6h|f0o|f6i|d6w|f0p|f6j|d6y|f0q|f0r|c5i|d1p|c5j|d6z|c5k|f0s|f0t|d1q|d1r|c5l|f0u|f0v|d7g|i1g|h7p|g2q|a6u|a6v => dsimp only; k_is
  case a6w|a6y|a6z|a7g|a7h|a7i|a7r|a7s|a7t|a7u|a7v|a7w|a7y|a7z|a4h|a4i|a4j|a4k|a4l|a4m|a4n|a4o|a8t|a8u|a8v|a8w|a8y|a8z|a9g|a9h|a2n|a2o|a2p|a2q|a2r|a2s|a2t|a2u|a1p|a1q|a1r|a1s|a1t|a1u|a1v|a1w|a2v|a2w|a2y|a2z|a3g|a3h|a3i|a3j|a4p|a4q|a4r|a4s|a4t|a4u => dsimp only; k_is
  case a4v|a4w|a3k|a3l|a3m|a3n|a3o|a3p|a3q|a3r|a5v|a5w|a5y|a5z|a6g|a6h|a6i|a6j|a4y|a4z|a5g|a5h|a5i|a5j|a5k|a5l|b4o|b5u|b5v|c0m|b7v|b7w|b4p|c5w|b7y|c0n|b7z|c1y|c0o|b2m|b8g|d0y|c0p|c5y|c1z|c2g|b8h|c2h|c5z|c2i|c6g|c8w|c6h|b4q|b8i|c0q|c0r|c6i|c2j|c2k => dsimp only; k_is
  case b8j|c2l|d4j|c6j|c2m|c8y|c6k|b4r|b8k|c0s|c0t|c6l|c2n|c2o|d4k|b8l|c2p|c6m|c2q|c8z|c6n|b4s|c0u|c2r|c2s|c9g|c6o|c6p|c0v|c6q|c9h|c6r|d2i|c9i|d9i|b5w|c0w|c2t|c2u|c9j|d9j|c6s|c6t|c0y|c6u|c9k|c6v|d2j|c9l|b5y|c0z|b4v|c2v|c9m|c6w|c6y|c1g|c6z|c9n|d9k => dsimp only; k_is
  case c7g|d2k|c9o|b5z|c2w|b8m|c7h|d2l|c9p|c9q|c2y|c9r|d2m|c9s|d4l|d7j|d2n|b8n|c2z|c7i|d2o|c9t|c9u|c3g|c9v|d2p|c9w|d4m|d2q|f0w|b2n|b2o|d4n|d4o|d2r|g9g|f0z|c7j|f1g|b3q|b4w|c7k|d7k|c9y => dsimp only; k_is
  case d1s => (dsimp only; refine' ⟨?o, ?a, ?b, ?c, ?d, ?e⟩; (case a => k_is); (case b => k_is); (case c => k_is); (case d => k_is); (case e => k_is); (case o => kernel_rfl))
  case d7h => (dsimp only; refine' ⟨?a, ?b, ?c⟩; (case a => k_is); (case b => k_is); (case c => k_is))
  case h7q|b4n|b0t|b4j|b2k|a1i => refine' ⟨?_, ?_, ?_, ?_⟩ <;> ((try dsimp only); k_is)
  case d9g|d3s|d1t|d1u|c8r|c8s|a8q|c8t|d3t|d1v|d3u|d3v|c5m|c8u|c8v|d1w => (dsimp only; refine' ⟨?a, ?l, ?c⟩; (case a => k_is); (case l => k_is); (case c => k_is))
  case a6p|a5r|a6l|a5p|a3w|a6r|a6s|a0j|a0m|a0l|a0n => dsimp only; unfold a9o; k_is
  case h1p|g9d|g2m|d9h|g9e => (dsimp only; refine' ⟨?a, ?l, ?c, ?k⟩; (case a => k_is); (case l => k_is); (case c => k_is); (case k => k_is))
  case d1y|b4k|b1h|c0j|d3w|c4l|d3y|d0q|a8p|a9u|c7z|d1z|d2g|c8g|c8h|b3l|b7r|a9m|c5n|d0r|d3z|c5o|c0k|c1s|c3m|b4u|c5p|c8i|b0y|b7s|c5q|c1t|d2h|c5r|c1j|c3n|c3o|c8j|c5s|d0s|d4g|c5t|c0l|d0t|b3m|b7t|b3n|c5u|b3o|d0u|d0v|b7u|b0o|b3p|d0w|c4m|c5v|h7r => (dsimp only; refine' a3u ?l ?c ?k; (try dsimp only); (case l => k_is); (case c => k_is); (case k => k_is))
  case d4h|i7h|i7i|y_bool|i7j|d4i|i7k|h7s|g9f|i7l|ld_READERS => k_is
  case d7i|f6k|f6l|f6m|g2n|g2o|g2p => dsimp only; k_exc
  case f0y|a9v|a9w|c8k|d4p|c3p|g2r|d5j|b8o => exact ⟨_, rfl⟩
  (case kd_READERS=>k_keys)
  (case ne_READERS=>decide)
