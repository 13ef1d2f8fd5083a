import PyProof.Rows.All
import KE.IntBitsLaws
import KE.KEqDat
import KE.KIntText
import KE.KIsAll
import KE.KRevIter
import PySem.Challenge.RW_mixbench_k81_texts_of_patches
set_option Elab.async false
set_option linter.all false
set_option maxRecDepth 100000
namespace L2
open PySem PySem.Spec PyProof.Rows
noncomputable abbrev Key := Sum Int Str
noncomputable def g7d : Key -> Value -> Bool
 | .inl k, v => Value.isInt k v
 | .inr x, v => Value.isStrOf x v
noncomputable def keyH (w : World) : Key -> Int
 | .inl k => hashInt k
 | .inr x => hashStr w x
theorem a6i : ∀ {k : Key} {v : Value}, g7d k v = true -> (∃ i t, k = Sum.inl i /\ v = Value.int i t) \/ (∃ x t, k = Sum.inr x /\ v = Value.str x t)
 | .inl i, v, h => by
  obtain ⟨t, e⟩ := Value.isInt_shape (k := i) (v := v) h
  exact .inl ⟨i, t, rfl, e⟩
 | .inr x, v, h => by
  obtain ⟨t, e⟩ := Value.isStrOf_shape (x := x) (v := v) h
  exact .inr ⟨x, t, rfl, e⟩
theorem g9u (i : Int) (t : Tok) : g7d (.inl i) (.int i t) = true := by simp [g7d, Value.isInt]
theorem g9v (x : Str) (t : Tok) : g7d (.inr x) (.str x t) = true := by simp [g7d, Value.isStrOf]
theorem i4g (a b : Int) : decide ((Sum.inl a : Key) = Sum.inl b) = (a == b) := by
 by_cases e : a = b
 ·subst e; simp
 ·have h : ¬ (Sum.inl a : Key) = Sum.inl b := fun q => e (Sum.inl.inj q)
  rw [decide_eq_false h]
  exact (beq_eq_false_iff_ne.mpr e).symm
theorem i4h (a b : Str) : decide ((Sum.inr a : Key) = Sum.inr b) = decide (a = b) := by
 by_cases e : a = b
 ·subst e; simp
 ·have h : ¬ (Sum.inr a : Key) = Sum.inr b := fun q => e (Sum.inr.inj q)
  rw [decide_eq_false h, decide_eq_false e]
theorem i4i (a : Int) (b : Str) : decide ((Sum.inl a : Key) = Sum.inr b) = false := decide_eq_false (fun q => nomatch q)
theorem i4j (a : Str) (b : Int) : decide ((Sum.inr a : Key) = Sum.inl b) = false := decide_eq_false (fun q => nomatch q)
noncomputable def b0p (prog : Program) (w : World) : PySem.KeyKind prog w Key where
 is := g7d
 hash := keyH w
 inj := fun v a b ha hb => by
  rcases a6i ha with ⟨i, t, rfl, rfl⟩ | ⟨x, t, rfl, rfl⟩
  ·rcases a6i hb with ⟨j, u, rfl, e⟩ | ⟨y, u, rfl, e⟩
   ·injection e with e1 _; rw [e1]
   ·exact nomatch e
  ·rcases a6i hb with ⟨j, u, rfl, e⟩ | ⟨y, u, rfl, e⟩
   ·exact nomatch e
   ·injection e with e1 _; rw [e1]
 byValue := fun k v h => by
  rcases a6i h with ⟨i, t, rfl, rfl⟩ | ⟨x, t, rfl, rfl⟩ <;> rfl
 pyHash := fun hv h => by
  rcases a6i hv with ⟨i, t, rfl, rfl⟩ | ⟨x, t, rfl, rfl⟩
  ·exact wpAny_pyHash_int h
  ·exact wpAny_pyHash_str h
 eqBool := fun hu hv h => by
  rcases a6i hu with ⟨i, t, rfl, rfl⟩ | ⟨x, t, rfl, rfl⟩
  ·rcases a6i hv with ⟨j, u, rfl, rfl⟩ | ⟨y, u, rfl, rfl⟩
   ·rw [i4g] at h; exact wpAny_eqBool_int h
   ·rw [i4i] at h; exact SeqAt.EqAt.int_str i t y u _ _ _ _ h
  ·rcases a6i hv with ⟨j, u, rfl, rfl⟩ | ⟨y, u, rfl, rfl⟩
   ·rw [i4j] at h; exact SeqAt.EqAt.str_int x t j u _ _ _ _ h
   ·rw [i4h] at h; exact wpAny_eqBool_str h
 «strs» := fun k x t v h => by
  rcases a6i h with ⟨i, u, rfl, e⟩ | ⟨y, u, rfl, e⟩
  ·exact nomatch e
  ·injection e with e1 _
   subst e1
   cases v <;> rfl
theorem g1r (prog : Program) (w : World) (i : Int) (t : Tok) : (b0p prog w).is (.inl i) (.int i t) = true := g9u i t
theorem g1s (prog : Program) (w : World) (x : Str) (t : Tok) : (b0p prog w).is (.inr x) (.str x t) = true := g9v x t
end L2
namespace L2
open PySem PySem.Spec PyProof.Rows
inductive V where
 | non | bl (b : Bool) | int (i : Int) | str (x : Str) | byt (b : Array UInt8) | flt (b : UInt64) | ref (a : Addr) | ty (n : String)
 deriving DecidableEq
noncomputable def RelV : V -> Value -> Prop
 | .non, u => u = Value.none
 | .bl b, u => u = Value.bool b
 | .int i, u => ∃ t, u = Value.int i t
 | .str x, u => ∃ t, u = Value.str x t
 | .byt b, u => ∃ t, u = Value.bytes b t
 | .flt b, u => ∃ t, u = Value.float b t
 | .ref a, u => u = Value.ref a
 | .ty n, u => u = Value.type n
noncomputable abbrev Vals : List V -> List Value -> Prop := Paired RelV
theorem Vals.length {xs : List V} {us : List Value} (r : Vals xs us) : xs.length = us.length := Paired.length r
theorem Vals.get : ∀ {xs : List V} {us : List Value} {i : Nat} {x : V}, Vals xs us -> xs[i]? = some x -> ∃ u, us[i]? = some u /\ RelV x u
 | _, _, _, _, .nil, e => by simp at e
 | _, _, 0, _, .cons r _, e => by simp at e; subst e; exact ⟨_, rfl, r⟩
 | _, _, i + 1, x, .cons _ t, e => by
  obtain ⟨u, h1, h2⟩ := Vals.get (i := i) (x := x) t (by simpa using e)
  exact ⟨u, by simpa using h1, h2⟩
theorem Vals.set {x : V} {u : Value} (r : RelV x u) : ∀ {xs : List V} {us : List Value} (i : Nat), Vals xs us -> Vals (xs.set i x) (us.set i u)
 | _, _, _, .nil => .nil
 | _, _, 0, .cons _ t => .cons r t
 | _, _, i + 1, .cons q t => .cons q (Vals.set r i t)
theorem Vals.append : ∀ {xs ys : List V} {us ws : List Value}, Vals xs us -> Vals ys ws -> Vals (xs ++ ys) (us ++ ws)
 | _, _, _, _, .nil, s => s
 | _, _, _, _, .cons r t, s => .cons r (Vals.append t s)
theorem Vals.take : ∀ {xs : List V} {us : List Value} (n : Nat), Vals xs us -> Vals (xs.take n) (us.take n)
 | _, _, 0, _ => .nil
 | _, _, _ + 1, .nil => .nil
 | _, _, n + 1, .cons r t => .cons r (Vals.take n t)
theorem Vals.drop : ∀ {xs : List V} {us : List Value} (n : Nat), Vals xs us -> Vals (xs.drop n) (us.drop n)
 | _, _, 0, r => r
 | _, _, _ + 1, .nil => .nil
 | _, _, n + 1, .cons _ t => Vals.drop n t
noncomputable def g1q : Option V -> Option Value -> Prop
 | some v, some u => RelV v u
 | none, none => True
 | _, _ => False
noncomputable def KV {κ : Type} : List (κ × V) -> List (κ × Value) -> Prop := Paired fun (p : κ × V) (q : κ × Value) => p.1 = q.1 /\ RelV p.2 q.2
noncomputable def kV : Key -> V
 | .inl i => .int i
 | .inr x => .str x
inductive HO where
  | lst (xs : List V)
  | tup (xs : List V)
  | dK (kvs : List (Key × V)) | dT (kvs : List (List Key × V))
  | set (S : Int -> Bool) (n : Nat)
  | ins (C dx : Addr) (fs : List (Str × V))
  | own (x : Addr)
  | xd (fs : List (Str × V))
  | met (f x : Addr)
  | rng (lo hi : Int)
  | frz (o : Obj) (u : HO)
  | tbl (ps : Array Value)
  | ext (φ : Heap -> Prop)
noncomputable abbrev Hp := Addr -> Option HO
noncomputable def upd (H : Hp) (a : Addr) (o : HO) : Hp := fun b => if b = a then some o else H b
theorem a2w {H : Hp} {a : Addr} {o : HO} : upd H a o a = some o := by unfold upd; rw [if_pos rfl]
theorem a3p {H : Hp} {a b : Addr} {o : HO} (h : b ≠ a) : upd H a o b = H b := by unfold upd; rw [if_neg h]
theorem i9x {H : Hp} {a b : Addr} {o u : HO} (h : H a = some o) (h' : H b = some u) (d : o ≠ u) : a ≠ b := by
 intro e; subst e; rw [h] at h'; exact d (Option.some.inj h')
theorem a4y {H : Hp} {a b : Addr} {o : HO} (h : H a = some o) (h' : H b = none) : a ≠ b := by
 intro e; subst e; rw [h] at h'; cases h'
section
variable (P : Program) (w : World)
noncomputable def b4l (H : Hp) (h : Heap) (a : Addr) : HO -> Prop
 | .lst xs => xs.length ≤ sizeLine ∧ ∃ (its : List Value) (n : Nat), Vals xs its ∧ h.get? a = some { cls := .type "list", data := .seq its.toArray n }
 | .tup xs => xs.length <= sizeLine /\ ∃ its : List Value, Vals xs its /\ IsTup h a its.toArray
 | .dK kvs => kvs.length <= sizeLine /\ (a == sysModules) = false /\ ∃ vs, KV kvs vs /\ h.DictOf (b0p P w) a vs
 | .dT kvs => kvs.length <= sizeLine /\ (a == sysModules) = false /\ ∃ xs : List (List Key × Addr × Value),
   Paired (fun (p : List Key × V) (q : List Key × Addr × Value) => p.1 = q.1 /\ H q.2.1 = some (.tup (p.1.map kV)) /\ RelV p.2 q.2.2) kvs xs /\
   ∃ o es ep, h.get? a = some o /\ o.ExactDict /\ o.data = .dict es ep /\ es.toList = xs.map (entryOfKey (tupleKind (b0p P w))) /\ (xs.map (·.1)).Nodup
 | .set S n => h.SetOf (intKind P w) a S n
 | .ins C dx fs => H dx = some (.own a) /\ fs.length <= 1000 /\ dx ≠ a /\ h.get? a = some (PySem.W.instObj C dx) /\
   ∃ mA, h.Ns1 dx mA /\ (∀ f, g1q (fs.lookup f) (mA f)) /\ PySem.Within mA (fs.map (·.1))
 | .own _ => ∃ o, h.get? a = some o
 | .xd fs => ∃ mA, h.Ns1 a mA /\ ∀ f, g1q (fs.lookup f) (mA f)
 | .rng lo hi => ∃ t u v, h.get? a = some { cls := .type "range", data := .fields #[.int lo t, .int hi u, .int 1 v] }
 | .frz o u => h.get? a = some o /\ b4l H h a u
 | .tbl ps => h.get? a = some { cls := .none, data := .fields ps }
 | .met f x => h.get? a = some (PySem.W.methodObj (.ref f) (.ref x))
 | .ext φ => φ h /\ (∃ o, h.get? a = some o) /\ ∀ h1 h2 : Heap, φ h1 -> (∀ o, h1.get? a = some o -> h2.get? a = some o) -> φ h2
def HOk (H : Hp) (h : Heap) : Prop := ∀ a o, H a = some o -> b4l P w H h a o
end
section
variable {P : Program} {w : World} {H H' : Hp} {h h' : Heap} {a : Addr} {o : HO}
theorem b4l.lt (x : b4l P w H h a o) : a < h.objs.size := by
 cases o with
 | lst xs => obtain ⟨_, _, _, _, e⟩ := x; exact Heap.lt_size e
 | tup xs => obtain ⟨_, _, _, p⟩ := x; exact p.lt
 | dK kvs => obtain ⟨_, _, _, _, o, _, _, e, _⟩ := x; exact Heap.lt_size e
 | dT kvs => obtain ⟨_, _, _, _, o, _, _, e, _⟩ := x; exact Heap.lt_size e
 | set S n => obtain ⟨o, _, _, _, e, _⟩ := x; exact Heap.lt_size e
 | ins C dx fs => obtain ⟨_, _, _, e, _⟩ := x; exact Heap.lt_size e
 | own y => obtain ⟨_, e⟩ := x; exact Heap.lt_size e
 | xd fs => obtain ⟨_, ⟨_, _, _, e, _⟩, _⟩ := x; exact Heap.lt_size e
 | rng lo hi => obtain ⟨_, _, _, e⟩ := x; exact Heap.lt_size e
 | frz ob u => obtain ⟨e, _⟩ := x; exact Heap.lt_size e
 | tbl ps => exact Heap.lt_size (show h.get? a = some _ from x)
 | met f y => exact Heap.lt_size (show h.get? a = some _ from x)
 | ext φ => obtain ⟨_, ⟨_, e⟩, _⟩ := x; exact Heap.lt_size e
theorem Paired.i9y {α β : Type} {F G : α -> β -> Prop} : ∀ {l₁ : List α} {l₂ : List β}, Paired F l₁ l₂ -> (∀ a b, F a b -> G a b) -> Paired G l₁ l₂
 | _, _, .nil, _ => .nil
 | _, _, .cons r t, f => .cons (f _ _ r) (Paired.i9y t f)
theorem b4l.stay (x : b4l P w H h a o) (k : ∀ b u, (b = a \/ H b = some (.own a)) -> h.get? b = some u -> h'.get? b = some u)
  (ho : ∀ b, H b = some (.own a) -> H' b = some (.own a)) (ht : ∀ b xs, H b = some (.tup xs) -> H' b = some (.tup xs)) : b4l P w H' h' a o := by
 induction o with
 | lst xs => obtain ⟨z, its, n, r, e⟩ := x; exact ⟨z, its, n, r, k _ _ (.inl rfl) e⟩
 | tup xs => obtain ⟨z, its, r, ob, e, c⟩ := x; exact ⟨z, its, r, ob, k _ _ (.inl rfl) e, c⟩
 | dK kvs => obtain ⟨z, y, vs, r, ob, es, ep, e, c⟩ := x; exact ⟨z, y, vs, r, ob, es, ep, k _ _ (.inl rfl) e, c⟩
 | dT kvs =>
  obtain ⟨z, y, xs, r, ob, es, ep, e, c⟩ := x
  exact ⟨z, y, xs, Paired.i9y r fun p q z => ⟨z.1, ht _ _ z.2.1, z.2.2⟩, ob, es, ep, k _ _ (.inl rfl) e, c⟩
 | set S n => obtain ⟨ob, es, ep, t, e, c⟩ := x; exact ⟨ob, es, ep, t, k _ _ (.inl rfl) e, c⟩
 | ins C dx fs =>
  obtain ⟨d, z, ne, e, mA, ⟨od, es, ep, e2, c⟩, r⟩ := x
  exact ⟨ho _ d, z, ne, k _ _ (.inl rfl) e, mA, ⟨od, es, ep, k _ _ (.inr d) e2, c⟩, r⟩
 | own y => obtain ⟨ob, e⟩ := x; exact ⟨ob, k _ _ (.inl rfl) e⟩
 | xd fs => obtain ⟨mA, ⟨od, es, ep, e, c⟩, r⟩ := x; exact ⟨mA, ⟨od, es, ep, k _ _ (.inl rfl) e, c⟩, r⟩
 | rng lo hi => obtain ⟨t, u, v, e⟩ := x; exact ⟨t, u, v, k _ _ (.inl rfl) e⟩
 | frz ob u ih => obtain ⟨e, q⟩ := x; exact ⟨k _ _ (.inl rfl) e, ih q⟩
 | tbl ps =>
  have e : h.get? a = some { cls := .none, data := .fields ps } := x
  show h'.get? a = some { cls := .none, data := .fields ps }
  exact k a _ (.inl rfl) e
 | met f y =>
  have e : h.get? a = some (PySem.W.methodObj (.ref f) (.ref y)) := x
  show h'.get? a = some (PySem.W.methodObj (.ref f) (.ref y))
  exact k a _ (.inl rfl) e
 | ext φ => obtain ⟨p, ⟨o, e⟩, st⟩ := x; exact ⟨st _ _ p fun o q => k _ _ (.inl rfl) q, ⟨o, k _ _ (.inl rfl) e⟩, st⟩
theorem HOk.lt (x : HOk P w H h) (e : H a = some o) : a < h.objs.size := (x a o e).lt
theorem HOk.fresh (x : HOk P w H h) (e : h.objs.size <= a) : H a = none := by
 cases q : H a with
 | none => rfl
 | some u => exact absurd (Nat.lt_of_lt_of_le (x.lt q) e) (Nat.lt_irrefl _)
theorem HOk.kept (x : HOk P w H h) (k : ∀ b u, h.get? b = some u -> h'.get? b = some u) : HOk P w H h' := fun a o e =>
 (x a o e).stay (fun b u _ q => k b u q) (fun _ q => q) fun _ _ q => q
theorem HOk.laid (x : HOk P w H h) (k : ∀ b u, h.get? b = some u -> h'.get? b = some u) (hp : h.objs.size <= a) (new : b4l P w (upd H a o) h' a o) : HOk P w (upd H a o) h' := fun b u e => by
 have hn := x.fresh hp
 by_cases hb : b = a
 ·subst hb; rw [a2w] at e; cases e; exact new
 ·rw [a3p hb] at e
  exact (x b u e).stay (fun c v _ q => k c v q) (fun c q => by rw [a3p (a4y q hn)]; exact q) fun c xs q => by rw [a3p (a4y q hn)]; exact q
end
def Rd (H : Hp) (a : Addr) (u : HO) : Prop := H a = some u \/ ∃ o, H a = some (.frz o u)
theorem Rd.ok {P : Program} {w : World} {H : Hp} {h : Heap} {a : Addr} {u : HO} (r : Rd H a u) (x : HOk P w H h) : b4l P w H h a u := by
 rcases r with r | ⟨o, r⟩
 ·exact x a u r
 ·obtain ⟨_, q⟩ := x a _ r
  exact q
noncomputable def Mut : Option HO -> Prop
 | some (.lst _) => True
 | some (.dK _) => True
 | some (.dT _) => True
 | some (.set _ _) => True
 | some (.ins _ _ _) => True
 | some (.ext _) => True
 | _ => False
section
variable {P : Program} {w : World} {H : Hp} {h h' : Heap} {x e : Addr} {o' : HO}
theorem HOk.write (ok : HOk P w H h) (mu : Mut (H x)) (he : e = x \/ H e = some (.own x)) (k : ∀ b u, b ≠ e -> h.get? b = some u -> h'.get? b = some u) (heo : ∃ u, h'.get? e = some u)
  (new : b4l P w (upd H x o') h' x o') : HOk P w (upd H x o') h' := fun b u q => by
 have j3h : ∀ c y, H c = some (.own y) -> c ≠ x := fun c y r z => by subst z; rw [r] at mu; exact mu
 have ntup : ∀ c xs, H c = some (.tup xs) -> c ≠ x := fun c xs r z => by subst z; rw [r] at mu; exact mu
 by_cases hb : b = x
 ·subst hb; rw [a2w] at q; cases q; exact new
 ·rw [a3p hb] at q
  by_cases hbe : b = e
  ·have q' : H b = some (.own x) := by
    rcases he with z | z
    ·exact absurd (hbe.trans z) hb
    ·rw [hbe]; exact z
   rw [q] at q'; cases q'
   obtain ⟨v, hv⟩ := heo
   exact ⟨v, by rw [hbe]; exact hv⟩
  ·refine (ok b u q).stay (fun c v hc r => k c v ?_ r) (fun c r => by rw [a3p (j3h c b r)]; exact r) fun c xs r => by rw [a3p (ntup c xs r)]; exact r
   rcases hc with rfl | hc
   ·exact hbe
   ·rintro rfl
    rcases he with z | z
    ·exact j3h c b hc z
    ·rw [hc] at z; cases z; exact hb rfl
end
structure Un (fs ex : List Addr) (H H' : Hp) (h h' : Heap) : Prop where
 keep : ∀ b o, h.get? b = some o -> H b = none -> b ∉ fs -> b ∉ ex -> h'.get? b = some o
 slot : ∀ b o, h.get? b = some o -> H b = none -> b ∈ fs -> b ∉ ex -> ∃ sl, h'.get? b = some { o with slots := sl }
 free : ∀ b o, h.get? b = some o -> H b = none -> b ∉ ex -> H' b = none
 there : ∀ b o, h.get? b = some o -> b ∉ ex -> ∃ o', h'.get? b = some o'
 tups : ∀ b xs, H b = some (.tup xs) -> H' b = some (.tup xs)
 g1t : ∀ b o u, H b = some (.frz o u) -> H' b = some (.frz o u)
 g5u : ∀ b ps, H b = some (.tbl ps) -> ∃ more, H' b = some (.tbl (ps ++ more))
section
variable {fs fs' ex ex' : List Addr} {H H1 H2 : Hp} {h h1 h2 h' : Heap} {a x e : Addr} {o : HO}
theorem Un.any (u : Un fs ex H H1 h h1) {b : Addr} {ob : Obj} (q : h.get? b = some ob) (n : H b = none) (hx : b ∉ ex) : ∃ sl, h1.get? b = some { ob with slots := sl } := by
 by_cases hb : b ∈ fs
 ·exact u.slot b ob q n hb hx
 ·exact ⟨ob.slots, u.keep b ob q n hb hx⟩
theorem Un.trans (a : Un fs ex H H1 h h1) (b : Un fs ex H1 H2 h1 h2) : Un fs ex H H2 h h2 where
 keep := fun c ob q n hc hx => b.keep c ob (a.keep c ob q n hc hx) (a.free c ob q n hx) hc hx
 slot := fun c ob q n hc hx => by
  obtain ⟨sl, e1⟩ := a.slot c ob q n hc hx
  obtain ⟨sl', e2⟩ := b.slot c _ e1 (a.free c ob q n hx) hc hx
  exact ⟨sl', e2⟩
 free := fun c ob q n hx => by
  obtain ⟨o', e1⟩ := a.there c ob q hx
  exact b.free c o' e1 (a.free c ob q n hx) hx
 there := fun c ob q hx => by
  obtain ⟨o', e1⟩ := a.there c ob q hx
  exact b.there c o' e1 hx
 tups := fun c xs q => b.tups c xs (a.tups c xs q)
 g1t := fun c ob xs q => b.g1t c ob xs (a.g1t c ob xs q)
 g5u := fun c ps q => by
  obtain ⟨m1, e1⟩ := a.g5u c ps q
  obtain ⟨m2, e2⟩ := b.g5u c _ e1
  exact ⟨m1 ++ m2, by rw [e2, Array.append_assoc]⟩
theorem Un.kept (k : ∀ b u, h.get? b = some u -> h'.get? b = some u) : Un fs ex H H h h' :=
 ⟨fun b ob q _ _ _ => k b ob q, fun b ob q _ _ _ => ⟨ob.slots, k b ob q⟩, fun _ _ _ n _ => n, fun b ob q _ => ⟨ob, k b ob q⟩, fun _ _ q => q, fun _ _ _ q => q, fun _ ps q => ⟨#[], by rw [q]; simp⟩⟩
theorem Un.refl : Un fs ex H H h h := Un.kept fun _ _ q => q
theorem Un.laid (k : ∀ b u, h.get? b = some u -> h'.get? b = some u) (hp : h.objs.size <= a) (hn : H a = none) : Un fs ex H (upd H a o) h h' where
 keep := fun b u q _ _ _ => k b u q
 slot := fun b u q _ _ _ => ⟨u.slots, k b u q⟩
 free := fun b u q n _ => by rw [a3p (Nat.ne_of_lt (Nat.lt_of_lt_of_le (Heap.lt_size q) hp))]; exact n
 there := fun b u q _ => ⟨u, k b u q⟩
 tups := fun b xs q => by rw [a3p (a4y q hn)]; exact q
 g1t := fun b u xs q => by rw [a3p (a4y q hn)]; exact q
 g5u := fun b ps q => ⟨#[], by rw [a3p (a4y q hn), q]; simp⟩
theorem Un.write (mu : Mut (H x)) (he : e = x \/ H e = some (.own x)) (k : ∀ b u, b ≠ e -> h.get? b = some u -> h'.get? b = some u) (heo : ∃ u, h'.get? e = some u) : Un fs ex H (upd H x o) h h' := by
 have hx : ∀ b, H b = none -> b ≠ x := fun b n z => by subst z; rw [n] at mu; exact mu
 have hb : ∀ b, H b = none -> b ≠ e := fun b n z => by
  subst z
  rcases he with r | r
  ·exact hx b n r
  ·rw [n] at r; cases r
 have hm : ∀ b u, H b = some u -> ¬ Mut (some u) -> b ≠ x := fun b u q nm z => by subst z; rw [q] at mu; exact nm mu
 refine ⟨fun b u q n _ _ => k b u (hb b n) q, fun b u q n _ _ => ⟨u.slots, k b u (hb b n) q⟩, fun b u q n _ => by rw [a3p (hx b n)]; exact n, fun b u q _ => ?_,
  fun b xs q => by rw [a3p (hm b _ q fun z => z)]; exact q, fun b u xs q => by rw [a3p (hm b _ q fun z => z)]; exact q, fun b ps q => ⟨#[], by rw [a3p (hm b _ q fun z => z), q]; simp⟩⟩
 by_cases hbe : b = e
 ·subst hbe; exact heo
 ·exact ⟨u, k b u hbe q⟩
end
noncomputable def trk (h : Heap) (H : Hp) : List Addr := (List.range h.objs.size).filter fun a => (H a).isSome
noncomputable def h4z (h : Heap) (H : Hp) : Heap := PySem.W.hideAll h (trk h H)
theorem g9w (h : Heap) (H : Hp) : (h4z h H).objs.size = h.objs.size := PySem.W.hideAll_size _ _
theorem h5a {h : Heap} {H : Hp} {b : Addr} {o : Obj} (e : h.get? b = some o) (n : H b = none) : (h4z h H).get? b = some o :=
 PySem.W.hideAll_get _ e fun hm => by
  have q : (H b).isSome = true := (List.mem_filter.mp hm).2
  rw [n] at q; simp at q
theorem h9s {h : Heap} {H : Hp} {b : Addr} {o : Obj} (e : (h4z h H).get? b = some o) : h.get? b = some o /\ H b = none := by
 have e' : h.get? b = some o := PySem.W.of_hideAll (trk h H) e
 refine ⟨e', ?_⟩
 cases q : H b with
 | none => rfl
 | some x =>
  have hm : b ∈ trk h H := List.mem_filter.mpr ⟨List.mem_range.mpr (Heap.lt_size e'), by simp [q]⟩
  have z : (h4z h H).get? b = none := PySem.W.hideAll_none (trk h H) hm
  rw [z] at e; cases e
noncomputable def h9t (g h : Heap) (L : Addr) : List (Addr × Obj) := (List.range h.objs.size).filterMap fun a => if a = L \/ (g.get? a).isSome = true then none else (h.get? a).map fun o => (a, o)
noncomputable def rest (g h : Heap) (L d : Addr) : List (Addr × Obj) := (h9t g h L).filter fun p => decide (p.1 ≠ d)
end L2
namespace L2
open PySem PySem.Spec PyProof.Rows
structure Mod (K : PySem.W.Frag) (mg : Str -> Option Value) (base : Heap) : Prop where
 kin : K.In base
 glob : base.Ns mainGlobals mg
 blt : ∃ mb, base.Ns builtinsNs mb ∧ ∀ x : Str, x ≠ "__name__" → mb x = bootBuiltins x
 nolimit : base.NoLimit
structure Cx where
 prog : Program
 w : World
 K : PySem.W.Frag
 mg : Str -> Option Value
 base : Heap
 A : Around
 N : List Str
 s₀ : Shared
 H₀ : Hp
 env : Env
 outer : List Env
 stack : List Env
 ex : List Addr
 fn : Str -> Bool
 calm : Bool
 pn : List (Addr × Obj)
 xe : Value -> Shared -> Prop
noncomputable def frs (l : List Env) : List Addr := l.filterMap (·.frame)
noncomputable abbrev Cx.fs (X : Cx) : List Addr := frs X.outer
def Vis (sc : Scope) (x : Str) : Prop := sc.names.lookup x = some .local \/ sc.names.lookup x = some .cell \/ sc.names.lookup x = some .free
def Loc (sc : Scope) (x : Str) : Prop := sc.names.lookup x = some .local \/ sc.names.lookup x = some .cell
def Look (env : Env) (h : Heap) (m : Str -> Option Value) (x : Str) (u : Value) : Prop :=
 (env.kindOf x = some .local /\ m x = some u) \/ ((env.kindOf x = some .cell \/ env.kindOf x = some .free) /\ ∃ c, env.cells.lookup x = some c /\ h.IsCell c (some u))
structure Cx.Ok (X : Cx) : Prop where
 mod : Mod X.K X.mg X.base
 kind : X.env.scope.kind = .function
 glob : X.env.globals = mainGlobals
 blt : X.env.builtins = builtinsNs
 above : X.s₀.heap.objs.size <= X.env.locals
 inj : ∀ x y c, X.env.cells.lookup x = some c -> X.env.cells.lookup y = some c -> x = y
 has : ∀ x, (X.env.kindOf x = some .cell \/ X.env.kindOf x = some .free) -> ∃ c, X.env.cells.lookup x = some c
 cab : ∀ x c, X.fn x = true -> X.env.cells.lookup x = some c -> X.s₀.heap.objs.size <= c
 hd : X.calm = true -> X.A.handled = none
 frames : X.A.frames = some X.stack
 stk : X.stack = X.outer \/ (X.stack = X.env :: X.outer /\ X.env.frame = some X.env.locals)
 exf : ∀ b ∈ X.ex, b ≠ X.env.locals /\ ∀ x c, X.env.cells.lookup x = some c -> c ≠ b
 bs : ∀ b o, X.base.get? b = some o -> X.s₀.heap.get? b = some o /\ X.H₀ b = none
 bsz : X.base.objs.size <= X.s₀.heap.objs.size
 i3v : ∀ b o, X.base.get? b = some o -> b ∉ X.ex
 i9g : ∀ b ∈ X.ex, b ∉ X.fs
 g9q : X.s₀.heap.FunFrames X.base X.outer
 frf : ∀ b ∈ X.fs, X.H₀ b = none
structure Inv (X : Cx) (pins : List (Addr × Obj)) (σ : List (Option V)) (H : Hp) (s : Shared) : Prop where
 ok : X.Ok
 os : s.os = X.s₀.os
 bare : AllBare s.gens
 base : Un X.fs X.ex X.H₀ H X.s₀.heap s.heap
 loc : ∃ m, s.heap.Ns X.env.locals m /\ ∀ (i : Nat) (x : Str) (v : V), X.N[i]? = some x -> σ[i]? = some (some v) -> Vis X.env.scope x -> ∃ u, RelV v u /\ Look X.env s.heap m x u
 cell : ∀ x c, X.env.cells.lookup x = some c -> ∃ v, s.heap.IsCell c v
 free : H X.env.locals = none
 d3l : ∀ x c, X.env.cells.lookup x = some c -> H c = none
 pin : ∀ p ∈ X.pn ++ pins, s.heap.get? p.1 = some p.2 /\ H p.1 = none /\ p.1 ≠ X.env.locals /\ p.1 ∉ X.fs /\ ∀ v, p.2.data ≠ .cell v
 hok : HOk X.prog X.w H s.heap
 len : σ.length = X.N.length
section
variable {X : Cx} {pins : List (Addr × Obj)} {σ : List (Option V)} {H H' : Hp} {s : Shared} {h' : Heap}
theorem Cx.Ok.nofr (ok : X.Ok) {b : Addr} {o : Obj} (e : X.base.get? b = some o) : b ∉ X.fs := fun hb => by
 have := (ok.g9q.mem hb).1
 rw [e] at this; cases this
theorem Inv.bs (I : Inv X pins σ H s) : ∀ b o, X.base.get? b = some o -> s.heap.get? b = some o /\ H b = none := fun b o e =>
 ⟨I.base.keep b o (I.ok.bs b o e).1 (I.ok.bs b o e).2 (I.ok.nofr e) (I.ok.i3v b o e), I.base.free b o (I.ok.bs b o e).1 (I.ok.bs b o e).2 (I.ok.i3v b o e)⟩
theorem Inv.bk (I : Inv X pins σ H s) : ∀ b o, X.base.get? b = some o -> s.heap.get? b = some o := fun b o e => (I.bs b o e).1
theorem Inv.mod (I : Inv X pins σ H s) : Mod X.K X.mg X.base := I.ok.mod
theorem Inv.kIn (I : Inv X pins σ H s) : X.K.In s.heap := I.ok.mod.kin.keeps I.bk
theorem Inv.lt (I : Inv X pins σ H s) : X.env.locals < s.heap.objs.size := let ⟨_, hn, _⟩ := I.loc; hn.lt
theorem Inv.sz (I : Inv X pins σ H s) : X.s₀.heap.objs.size <= s.heap.objs.size := Nat.le_trans I.ok.above (Nat.le_of_lt I.lt)
theorem Inv.nofs (I : Inv X pins σ H s) {a : Addr} (h : s.heap.objs.size <= a) : a ∉ X.fs := fun hb => by
 obtain ⟨_, o, ho, _⟩ := I.ok.g9q.mem hb
 exact absurd (Nat.lt_of_lt_of_le (Heap.lt_size ho) (Nat.le_trans I.sz h)) (Nat.lt_irrefl _)
theorem Inv.cne (I : Inv X pins σ H s) : ∀ x c, X.env.cells.lookup x = some c -> c ≠ X.env.locals := fun x c e z => by
 obtain ⟨v, o, ho, hd⟩ := I.cell x c e
 obtain ⟨m, ⟨o', es, ep, ho', hd', _⟩, _⟩ := I.loc
 rw [z, ho'] at ho; cases ho; rw [hd'] at hd; cases hd
theorem Inv.g9q (I : Inv X pins σ H s) : s.heap.FunFrames X.base X.outer := by
 have all : ∀ (l : List Env), (∀ b ∈ frs l, b ∈ X.fs) -> X.s₀.heap.FunFrames X.base l -> s.heap.FunFrames X.base l := by
  intro l
  induction l with
  | nil => intro _ _; trivial
  | cons env r ih =>
   intro hs hl
   obtain ⟨hk, ⟨L, o, hf, hn, ho, hd⟩, hr⟩ := hl
   have hL : L ∈ X.fs := hs L (by unfold frs; rw [List.filterMap_cons, hf]; exact List.mem_cons_self)
   obtain ⟨sl, e⟩ := I.base.slot L o ho (I.ok.frf L hL) hL fun z => I.ok.i9g L z hL
   exact ⟨hk, ⟨L, _, hf, hn, e, hd⟩, ih (fun b hb => hs b (by unfold frs; rw [List.filterMap_cons, hf]; exact List.mem_cons_of_mem _ hb)) hr⟩
 exact all X.outer (fun _ hb => hb) I.ok.g9q
theorem Inv.stack (I : Inv X pins σ H s) : s.heap.FunFrames X.base X.stack := by
 rcases I.ok.stk with e | ⟨e, hf⟩
 ·rw [e]; exact I.g9q
 ·rw [e]
  obtain ⟨m, hn, _⟩ := I.loc
  refine .cons (by rw [I.ok.kind]; decide) hf hn ?_ I.g9q
  exact Heap.get?_none_of_le (Nat.le_trans I.ok.bsz I.ok.above)
theorem Inv.d7w (I : Inv X pins σ H s) : ∀ b ∈ frs X.stack, b ∈ X.env.locals :: X.fs := fun b hb => by
 rcases I.ok.stk with e | ⟨e, hf⟩
 ·rw [e] at hb; exact List.mem_cons_of_mem _ hb
 ·rw [e] at hb
  unfold frs at hb
  rw [List.filterMap_cons, hf] at hb
  exact hb
theorem Inv.g1u (I : Inv X pins σ H s) : ∀ b ∈ frs X.stack, H b = none := fun b hb => by
 rcases List.mem_cons.mp (I.d7w b hb) with e | hb
 ·rw [e]; exact I.free
 ·obtain ⟨_, o, ho, _⟩ := I.ok.g9q.mem hb
  exact I.base.free b o ho (I.ok.frf b hb) fun z => I.ok.i9g b z hb
theorem Inv.step {g' : Array GenState} {t' : Nat} {d' : Drawn} {ch : List Addr} (I : Inv X pins σ H s)
  (hch : ∀ b ∈ ch, (b ∈ X.ex \/ X.s₀.heap.objs.size <= b) /\ b ≠ X.env.locals /\ (∀ x c, X.env.cells.lookup x = some c -> c ≠ b) /\ ∀ p ∈ X.pn ++ pins, p.1 ≠ b)
  (keep : ∀ b o, b ≠ X.env.locals -> b ∉ X.fs -> b ∉ ch -> s.heap.get? b = some o -> H b = none -> h'.get? b = some o)
  (slot : ∀ b o, b ≠ X.env.locals -> b ∈ X.fs -> b ∉ ch -> s.heap.get? b = some o -> H b = none -> ∃ sl, h'.get? b = some { o with slots := sl }) (free : ∀ b o, b ∉ ch -> s.heap.get? b = some o -> H b = none -> H' b = none)
  (there : ∀ b o, b ∉ ch -> s.heap.get? b = some o -> ∃ o', h'.get? b = some o')
  (tups : ∀ b xs, H b = some (.tup xs) -> H' b = some (.tup xs)) (g1t : ∀ b o u, H b = some (.frz o u) -> H' b = some (.frz o u)) (g5u : ∀ b ps, H b = some (.tbl ps) -> ∃ more, H' b = some (.tbl (ps ++ more)))
  (ns : ∀ m, s.heap.Ns X.env.locals m -> h'.Ns X.env.locals m) (hok : HOk X.prog X.w H' h') (hg : AllBare g') :
  Inv X pins σ H' { s with heap := h', gens := g', drawn := d', toks := t' } := by
 have neL : ∀ b o, X.s₀.heap.get? b = some o -> b ≠ X.env.locals := fun b o e => Nat.ne_of_lt (Nat.lt_of_lt_of_le (Heap.lt_size e) I.ok.above)
 have neC : ∀ b o, X.s₀.heap.get? b = some o -> b ∉ X.ex -> b ∉ ch := fun b o e hx hb => by
  rcases (hch b hb).1 with z | z
  ·exact hx z
  ·exact absurd (Nat.lt_of_lt_of_le (Heap.lt_size e) z) (Nat.lt_irrefl _)
 have cellK : ∀ x c, X.env.cells.lookup x = some c -> ∀ v, s.heap.IsCell c v -> h'.IsCell c v := fun x c e v ⟨o, ho, hd⟩ => by
  have nch : c ∉ ch := fun z => (hch c z).2.2.1 x c e rfl
  by_cases hc : c ∈ X.fs
  ·obtain ⟨sl, q⟩ := slot c o (I.cne x c e) hc nch ho (I.d3l x c e)
   exact ⟨_, q, hd⟩
  ·exact ⟨o, keep c o (I.cne x c e) hc nch ho (I.d3l x c e), hd⟩
 refine ⟨I.ok, I.os, hg, ⟨fun b o e n hb hx => ?_, fun b o e n hb hx => ?_, fun b o e n hx => ?_, fun b o e hx => ?_, fun b xs e => tups b xs (I.base.tups b xs e), fun b o xs e => g1t b o xs (I.base.g1t b o xs e), fun b ps e => ?_⟩, ?_, fun x c e => ?_, ?_, fun x c e => ?_, fun p hp => ?_, hok, I.len⟩
 ·exact keep b o (neL b o e) hb (neC b o e hx) (I.base.keep b o e n hb hx) (I.base.free b o e n hx)
 ·obtain ⟨sl, e1⟩ := I.base.slot b o e n hb hx
  obtain ⟨sl', e2⟩ := slot b _ (neL b o e) hb (neC b o e hx) e1 (I.base.free b o e n hx)
  exact ⟨sl', e2⟩
 ·obtain ⟨o', e1⟩ := I.base.there b o e hx
  exact free b o' (neC b o e hx) e1 (I.base.free b o e n hx)
 ·obtain ⟨o', e1⟩ := I.base.there b o e hx
  exact there b o' (neC b o e hx) e1
 ·obtain ⟨m1, e1⟩ := I.base.g5u b ps e
  obtain ⟨m2, e2⟩ := g5u b _ e1
  exact ⟨m1 ++ m2, by rw [e2, Array.append_assoc]⟩
 ·obtain ⟨m, hn, hl⟩ := I.loc
  refine ⟨m, ns m hn, fun i x v e1 e2 e3 => ?_⟩
  obtain ⟨u, r, l⟩ := hl i x v e1 e2 e3
  refine ⟨u, r, ?_⟩
  rcases l with l | ⟨k, c, e, z⟩
  ·exact .inl l
  ·exact .inr ⟨k, c, e, cellK x c e _ z⟩
 ·obtain ⟨v, z⟩ := I.cell x c e
  exact ⟨v, cellK x c e v z⟩
 ·obtain ⟨m, ⟨o, _, _, ho, _⟩, _⟩ := I.loc
  exact free _ o (fun z => (hch _ z).2.1 rfl) ho I.free
 ·obtain ⟨v, o, ho, hd⟩ := I.cell x c e
  exact free c o (fun z => (hch c z).2.2.1 x c e rfl) ho (I.d3l x c e)
 ·obtain ⟨e, n, ne, nf, d⟩ := I.pin p hp
  have nch : p.1 ∉ ch := fun z => (hch p.1 z).2.2.2 p hp rfl
  exact ⟨keep p.1 p.2 ne nf nch e n, free p.1 p.2 nch e n, ne, nf, d⟩
theorem Inv.un {t' : Nat} (I : Inv X pins σ H s) (u : Un X.fs [] H H' s.heap h') (hok : HOk X.prog X.w H' h') : Inv X pins σ H' { s with heap := h', toks := t' } := by
 obtain ⟨m, ⟨o, es, ep, ho, r⟩, _⟩ := id I.loc
 obtain ⟨sl, hL⟩ := u.any ho I.free (by simp)
 exact I.step (g' := s.gens) (d' := s.drawn) (ch := []) (fun _ z => nomatch z) (fun b o _ hb _ e n => u.keep b o e n hb (by simp)) (fun b o _ hb _ e n => u.slot b o e n hb (by simp)) (fun b o _ e n => u.free b o e n (by simp)) (fun b o _ e => u.there b o e (by simp)) u.tups u.g1t u.g5u (fun m' hm => by
  obtain ⟨o', es', ep', ho', r'⟩ := hm
  rw [ho] at ho'; cases ho'
  exact ⟨_, es', ep', hL, r'⟩) hok I.bare
theorem Inv.call {g' : Array GenState} {t' : Nat} {d' : Drawn} {ch : List Addr} (I : Inv X pins σ H s) (u : Un (frs X.stack) ch H H' s.heap h') (hok : HOk X.prog X.w H' h') (hg : AllBare g')
  (hch : ∀ b ∈ ch, (b ∈ X.ex \/ X.s₀.heap.objs.size <= b) /\ b ≠ X.env.locals /\ (∀ x c, X.env.cells.lookup x = some c -> c ≠ b) /\ ∀ p ∈ X.pn ++ pins, p.1 ≠ b) :
  Inv X pins σ H' { s with heap := h', gens := g', drawn := d', toks := t' } := by
 obtain ⟨m, ⟨o, es, ep, ho, r⟩, _⟩ := id I.loc
 obtain ⟨sl, hL⟩ := u.any ho I.free fun z => (hch _ z).2.1 rfl
 exact I.step (ch := ch) hch (fun b o hL hb hc e n => u.keep b o e n (fun z => (List.mem_cons.mp (I.d7w b z)).elim hL hb) hc) (fun b o _ _ hc e n => u.any e n hc) (fun b o hc e n => u.free b o e n hc) (fun b o hc e => u.there b o e hc) u.tups u.g1t u.g5u (fun m' hm => by
  obtain ⟨o', es', ep', ho', r'⟩ := hm
  rw [ho] at ho'; cases ho'
  exact ⟨_, es', ep', hL, r'⟩) hok hg
theorem Inv.turned {t' : Nat} {it : Addr} (I : Inv X pins σ H s) (k : ∀ b o, b ≠ it -> s.heap.get? b = some o -> h'.get? b = some o) (hn : H it = none) (hL : it ≠ X.env.locals)
  (h1 : it ∈ X.ex \/ X.s₀.heap.objs.size <= it) (h2 : ∀ x c, X.env.cells.lookup x = some c -> c ≠ it) (h3 : ∀ p ∈ X.pn ++ pins, p.1 ≠ it) : Inv X pins σ H { s with heap := h', toks := t' } := by
 have nit : ∀ b u, H b = some u -> b ≠ it := fun b u e z => by rw [z, hn] at e; cases e
 refine I.step (g' := s.gens) (d' := s.drawn) (ch := [it]) (fun b hb => ?_) (fun b o _ _ hc e _ => k b o (fun z => hc (by simp [z])) e) (fun b o _ _ hc e _ => ⟨o.slots, k b o (fun z => hc (by simp [z])) e⟩) (fun _ _ _ _ n => n)
  (fun b o hc e => ⟨o, k b o (fun z => hc (by simp [z])) e⟩) (fun _ _ e => e) (fun _ _ _ e => e) (fun b ps e => ⟨#[], by rw [e]; simp⟩) (fun m hm => ?_) (fun b u e => ?_) I.bare
 ·have e : b = it := by simpa using hb
  subst e
  exact ⟨h1, hL, h2, h3⟩
 ·obtain ⟨o, es, ep, ho, r⟩ := hm
  exact ⟨o, es, ep, k _ o (Ne.symm hL) ho, r⟩
 ·refine (I.hok b u e).stay (fun c v hc q => k c v ?_ q) (fun _ q => q) fun _ _ q => q
  rcases hc with z | z
  ·rw [z]; exact nit b u e
  ·exact nit c _ z
theorem Inv.tok (I : Inv X pins σ H s) (t : Nat) : Inv X pins σ H { s with toks := t } := I.un (h' := s.heap) (t' := t) Un.refl I.hok
theorem Inv.kept {t' : Nat} (I : Inv X pins σ H s) (k : ∀ b u, s.heap.get? b = some u -> h'.get? b = some u) : Inv X pins σ H { s with heap := h', toks := t' } := I.un (Un.kept k) (I.hok.kept k)
theorem Inv.laid {a : Addr} {o : HO} {t' : Nat} (I : Inv X pins σ H s) (k : ∀ b u, s.heap.get? b = some u -> h'.get? b = some u) (hp : s.heap.objs.size <= a) (new : b4l X.prog X.w (upd H a o) h' a o) :
  Inv X pins σ (upd H a o) { s with heap := h', toks := t' } := I.un (Un.laid k hp (I.hok.fresh hp)) (I.hok.laid k hp new)
theorem Inv.write {x e : Addr} {o : HO} {t' : Nat} (I : Inv X pins σ H s) (mu : Mut (H x)) (he : e = x \/ H e = some (.own x)) (k : ∀ b u, b ≠ e -> s.heap.get? b = some u -> h'.get? b = some u) (heo : ∃ u, h'.get? e = some u)
  (new : b4l X.prog X.w (upd H x o) h' x o) : Inv X pins σ (upd H x o) { s with heap := h', toks := t' } := I.un (Un.write mu he k heo) (I.hok.write mu he k heo new)
theorem Inv.weak {σ' : List (Option V)} (I : Inv X pins σ H s) (hl : σ'.length = σ.length) (w : ∀ (i : Nat) v, σ'[i]? = some (some v) -> σ[i]? = some (some v)) : Inv X pins σ' H s :=
 ⟨I.ok, I.os, I.bare, I.base, let ⟨m, hn, hl'⟩ := I.loc; ⟨m, hn, fun i x v e1 e2 e3 => hl' i x v e1 (w i v e2) e3⟩, I.cell, I.free, I.d3l, I.pin, I.hok, hl.trans I.len⟩
theorem Inv.g9x {pins' : List (Addr × Obj)} (I : Inv X pins σ H s) (h : ∀ p ∈ pins', s.heap.get? p.1 = some p.2 /\ H p.1 = none /\ p.1 ≠ X.env.locals /\ p.1 ∉ X.fs /\ ∀ v, p.2.data ≠ .cell v) : Inv X pins' σ H s :=
 ⟨I.ok, I.os, I.bare, I.base, I.loc, I.cell, I.free, I.d3l, fun p hp => (List.mem_append.mp hp).elim (fun z => I.pin p (List.mem_append_left _ z)) (h p), I.hok, I.len⟩
theorem d1l {N : List Str} (hN : N.Nodup) {i j : Nat} {x : Str} (a : N[i]? = some x) (b : N[j]? = some x) : i = j := by
 obtain ⟨h1, e1⟩ := List.getElem?_eq_some_iff.mp a
 obtain ⟨h2, e2⟩ := List.getElem?_eq_some_iff.mp b
 exact (List.getElem_inj hN).mp (e1.trans e2.symm)
theorem f7z {M : Model} {A : Around} {E : Value -> Shared -> Prop} {i : Nat} {x : Str} {v : V} {u : Value} {Q : Unit -> Shared -> Prop} (I : Inv X pins σ H s) (hN : X.N.Nodup) (hi : X.N[i]? = some x) (hx : Loc X.env.scope x) (r : RelV v u)
  (h : ∀ s', Inv X pins (σ.set i (some v)) H s' -> (∃ a, Heap.SameBut a s.heap s'.heap /\ (a = X.env.locals \/ X.env.cells.lookup x = some a)) -> Q () s') (hf : X.fn x = true \/ X.env.scope.names.lookup x = some .local := by first | exact .inl rfl | exact .inr rfl | assumption) : wpAny M A (storeName X.env x u) Q E s := by
 obtain ⟨m, hn, hl⟩ := id I.loc
 have hcls : (X.env.scope.kind == .class || (X.env.scope.kind == .module && X.env.locals != X.env.globals)) = false := by rw [I.ok.kind]; rfl
 have hiσ : i < σ.length := by rw [I.len]; exact (List.getElem?_eq_some_iff.mp hi).1
 have cne := I.cne
 have tracked : ∀ {a : Addr} {h' : Heap}, (∃ o, s.heap.get? a = some o /\ H a = none) -> Heap.SameBut a s.heap h' -> HOk X.prog X.w H h' := fun {a h'} ha hs b ob e => by
  obtain ⟨_, _, hfree⟩ := ha
  refine (I.hok b ob e).stay (fun c w' hc q => (hs.2 c ?_).trans q) (fun _ q => q) fun _ _ q => q
  rintro rfl
  rcases hc with rfl | hc
  ·rw [hfree] at e; cases e
  ·rw [hfree] at hc; cases hc
 rcases hx with hk | hk
 ·refine wpAny_storeName_local hk hn (fun h' hn' hs => ?_) hcls
  obtain ⟨oL, _, _, hoL, _⟩ := id hn
  refine h _ ⟨I.ok, I.os, I.bare, ⟨fun b o e n hb hx => ?_, fun b o e n hb hx => ?_, I.base.free, fun b o e hx => ?_, I.base.tups, I.base.g1t, I.base.g5u⟩, ⟨_, hn', fun j y v' e1 e2 e3 => ?_⟩, fun y c e => ?_, I.free, I.d3l, fun p hp => ?_, tracked ⟨oL, hoL, I.free⟩ hs, by simpa using I.len⟩ ⟨_, hs, .inl rfl⟩
  ·exact (hs.2 b (Nat.ne_of_lt (Nat.lt_of_lt_of_le (Heap.lt_size e) I.ok.above))).trans (I.base.keep b o e n hb hx)
  ·obtain ⟨sl, e1⟩ := I.base.slot b o e n hb hx
   exact ⟨sl, (hs.2 b (Nat.ne_of_lt (Nat.lt_of_lt_of_le (Heap.lt_size e) I.ok.above))).trans e1⟩
  ·obtain ⟨o', e1⟩ := I.base.there b o e hx
   exact ⟨o', (hs.2 b (Nat.ne_of_lt (Nat.lt_of_lt_of_le (Heap.lt_size e) I.ok.above))).trans e1⟩
  ·by_cases hj : j = i
   ·subst hj
    rw [hi] at e1; cases e1
    rw [List.getElem?_set_self hiσ] at e2
    cases e2
    exact ⟨u, r, .inl ⟨hk, by simp⟩⟩
   ·rw [List.getElem?_set_ne (Ne.symm hj)] at e2
    obtain ⟨u', r', q⟩ := hl j y v' e1 e2 e3
    refine ⟨u', r', ?_⟩
    rcases q with ⟨k, e⟩ | ⟨k, c, e, z⟩
    ·refine .inl ⟨k, ?_⟩
     have : y ≠ x := fun e => hj (d1l hN e1 (e ▸ hi))
     simp [this, e]
    ·exact .inr ⟨k, c, e, z.sameBut hs (cne y c e)⟩
  ·obtain ⟨w', z⟩ := I.cell y c e
   exact ⟨w', z.sameBut hs (cne y c e)⟩
  ·obtain ⟨e, n, ne, nf, d⟩ := I.pin p hp
   exact ⟨(hs.2 p.1 ne).trans e, n, ne, nf, d⟩
 ·have hfn : X.fn x = true := by
   rcases hf with z | z
   ·exact z
   ·rw [z] at hk; cases hk
  obtain ⟨c, hc⟩ := I.ok.has x (.inl hk)
  obtain ⟨w', z⟩ := I.cell x c hc
  refine wpAny_storeName_cell I.ok.kind hk hc z (fun h' hc' hs => ?_)
  obtain ⟨oc, hoc, hocd⟩ := id z
  refine h { s with heap := h' } ⟨I.ok, I.os, I.bare, ⟨fun b o e n hb hx => ?_, fun b o e n hb hx => ?_, I.base.free, fun b o e hx => ?_, I.base.tups, I.base.g1t, I.base.g5u⟩, ⟨m, hn.sameBut hs (Ne.symm (cne x c hc)), fun j y v' e1 e2 e3 => ?_⟩, fun y c' e => ?_, I.free, I.d3l, fun p hp => ?_, tracked ⟨oc, hoc, I.d3l x c hc⟩ hs, by simpa using I.len⟩ ⟨c, hs, .inr hc⟩
  ·exact (hs.2 b (Nat.ne_of_lt (Nat.lt_of_lt_of_le (Heap.lt_size e) (I.ok.cab x c hfn hc)))).trans (I.base.keep b o e n hb hx)
  ·obtain ⟨sl, e1⟩ := I.base.slot b o e n hb hx
   exact ⟨sl, (hs.2 b (Nat.ne_of_lt (Nat.lt_of_lt_of_le (Heap.lt_size e) (I.ok.cab x c hfn hc)))).trans e1⟩
  ·obtain ⟨o', e1⟩ := I.base.there b o e hx
   exact ⟨o', (hs.2 b (Nat.ne_of_lt (Nat.lt_of_lt_of_le (Heap.lt_size e) (I.ok.cab x c hfn hc)))).trans e1⟩
  ·by_cases hj : j = i
   ·subst hj
    rw [hi] at e1; cases e1
    rw [List.getElem?_set_self hiσ] at e2
    cases e2
    exact ⟨u, r, .inr ⟨.inl hk, c, hc, hc'⟩⟩
   ·rw [List.getElem?_set_ne (Ne.symm hj)] at e2
    obtain ⟨u', r', q⟩ := hl j y v' e1 e2 e3
    refine ⟨u', r', ?_⟩
    rcases q with q | ⟨k, c', e, z'⟩
    ·exact .inl q
    ·refine .inr ⟨k, c', e, z'.sameBut hs ?_⟩
     rintro rfl
     exact hj (d1l hN e1 (I.ok.inj _ _ _ e hc ▸ hi))
  ·by_cases hcc : c' = c
   ·subst hcc; exact ⟨_, hc'⟩
   ·obtain ⟨w2, z2⟩ := I.cell y c' e
    exact ⟨w2, z2.sameBut hs hcc⟩
  ·obtain ⟨e, n, ne, nf, d⟩ := I.pin p hp
   refine ⟨(hs.2 p.1 ?_).trans e, n, ne, nf, d⟩
   intro q
   rw [q, hoc] at e
   have q' : oc = p.2 := Option.some.inj e
   exact d w' (by rw [<- q']; exact hocd)
theorem g5v {M : Model} {A : Around} {E : Value -> Shared -> Prop} {i : Nat} {x : Str} {v : V} {u : Value} {Q : Unit -> Shared -> Prop} (I : Inv X pins σ H s) (hN : X.N.Nodup) (hi : X.N[i]? = some x) (hx : Loc X.env.scope x) (r : RelV v u)
  (h : ∀ s', Inv X pins (σ.set i (some v)) H s' -> Q () s') (hf : X.fn x = true \/ X.env.scope.names.lookup x = some .local := by first | exact .inl rfl | exact .inr rfl | assumption) : wpAny M A (storeName X.env x u) Q E s :=
 f7z I hN hi hx r (fun s' I' _ => h s' I') hf
theorem Inv.call' {s' : Shared} {ch : List Addr} (I : Inv X pins σ H s) (ho : s'.os = s.os) (u : Un (frs X.stack) ch H H' s.heap s'.heap) (hok : HOk X.prog X.w H' s'.heap) (hg : AllBare s'.gens)
  (hch : ∀ b ∈ ch, (b ∈ X.ex \/ X.s₀.heap.objs.size <= b) /\ b ≠ X.env.locals /\ (∀ x c, X.env.cells.lookup x = some c -> c ≠ b) /\ ∀ p ∈ X.pn ++ pins, p.1 ≠ b) : Inv X pins σ H' s' := by
 obtain ⟨h', g', d', t', o'⟩ := s'
 have e : o' = s.os := ho
 subst e
 exact I.call (g' := g') (t' := t') (d' := d') u hok hg hch
end
noncomputable abbrev XK := Value -> Option Addr -> Hp -> Prop
noncomputable abbrev St := List (Option V)
noncomputable abbrev VK := V -> Hp -> Prop
noncomputable abbrev TE := St -> Hp -> VK -> Prop
noncomputable abbrev TT := St -> Hp -> (Bool -> Hp -> Prop) -> Prop
noncomputable abbrev TA := St -> Hp -> (List V -> Hp -> Prop) -> Prop
structure Ends where
 nx : St -> Hp -> Prop
 rt : VK
 bk : St -> Hp -> Prop := fun _ _ => False
 ct : St -> Hp -> Prop := fun _ _ => False
noncomputable abbrev TS := Ends -> St -> Hp -> Prop
def EP (X : Cx) (pins : List (Addr × Obj)) (σ : St) (Q : VK) (u : Value) (s' : Shared) : Prop := ∃ v H', Inv X pins σ H' s' /\ RelV v u /\ Q v H'
def TP (X : Cx) (pins : List (Addr × Obj)) (σ : St) (Q : Bool -> Hp -> Prop) (b : Bool) (s' : Shared) : Prop := ∃ H', Inv X pins σ H' s' /\ Q b H'
def AP (X : Cx) (pins : List (Addr × Obj)) (σ : St) (Q : List V -> Hp -> Prop) (us : List Value) (s' : Shared) : Prop := ∃ vs H', Inv X pins σ H' s' /\ Vals vs us /\ Q vs H'
def SP (X : Cx) (pins : List (Addr × Obj)) (D : Ends) (f : Flow) (s' : Shared) : Prop :=
 match f with
 | .next => ∃ σ' H', Inv X pins σ' H' s' /\ D.nx σ' H'
 | .brk => ∃ σ' H', Inv X pins σ' H' s' /\ D.bk σ' H'
 | .cont => ∃ σ' H', Inv X pins σ' H' s' /\ D.ct σ' H'
 | .ret u => ∃ v σ' H', Inv X pins σ' H' s' /\ RelV v u /\ D.rt v H'
def PE (X : Cx) (e : Expr) (t : TE) : Prop :=
 ∀ (pins : List (Addr × Obj)) (s : Shared) (σ : St) (H : Hp) (Q : VK), Inv X pins σ H s -> t σ H Q -> wpAny (model X.prog X.w) X.A (eval e X.env) (EP X pins σ Q) X.xe s
def PT (X : Cx) (e : Expr) (t : TT) : Prop :=
 ∀ (pins : List (Addr × Obj)) (s : Shared) (σ : St) (H : Hp) (Q : Bool -> Hp -> Prop), Inv X pins σ H s -> t σ H Q -> wpAny (model X.prog X.w) X.A (isTrue e X.env (eval e X.env)) (TP X pins σ Q) X.xe s
def PW (X : Cx) (e : Expr) (t : TT) : Prop :=
 ∀ (whole : Sem Value) (pins : List (Addr × Obj)) (s : Shared) (σ : St) (H : Hp) (Q : Bool -> Hp -> Prop), Inv X pins σ H s -> t σ H Q -> wpAny (model X.prog X.w) X.A (isTrue e X.env whole) (TP X pins σ Q) X.xe s
theorem PW.pt {X : Cx} {e : Expr} {t : TT} (h : PW X e t) : PT X e t := h _
def PA (X : Cx) (es : List Expr) (t : TA) : Prop :=
 ∀ (pos : Pos) (pins : List (Addr × Obj)) (s : Shared) (σ : St) (H : Hp) (Q : List V -> Hp -> Prop), Inv X pins σ H s -> t σ H Q -> wpAny (model X.prog X.w) X.A (spliced (backTo pos (starEach es X.env))) (AP X pins σ Q) X.xe s
def PS (X : Cx) (st : Stmt) (t : TS) : Prop :=
 ∀ (pins : List (Addr × Obj)) (s : Shared) (σ : St) (H : Hp) (D : Ends), Inv X pins σ H s -> t D σ H -> wpAny (model X.prog X.w) X.A (exec st X.env) (SP X pins D) X.xe s
def PSs (X : Cx) (st : List Stmt) (t : TS) : Prop :=
 ∀ (pins : List (Addr × Obj)) (s : Shared) (σ : St) (H : Hp) (D : Ends), Inv X pins σ H s -> t D σ H -> wpAny (model X.prog X.w) X.A (execs st X.env) (SP X pins D) X.xe s
theorem thn {α : Type} {t : Sem α} {Q Q' : α -> Shared -> Prop} {M : Model} {A : Around} {E : Value -> Shared -> Prop} {s : Shared} (h : wpAny M A t Q E s) (hQ : ∀ a s, Q a s -> Q' a s) : wpAny M A t Q' E s := wpAny_mono h hQ fun _ _ x => x
end L2
namespace L2
open PySem PySem.Spec PyProof.Rows
section
variable {X : Cx}
def tVar (i : Nat) : TE := fun σ H Q => ∃ v, σ[i]? = some (some v) /\ Q v H
def tC (v : V) : TE := fun _ H Q => Q v H
theorem i4k {i : Nat} {x : Str} {pos : Pos} (hN : X.N[i]? = some x) (hv : Vis X.env.scope x) (hd : (x == ("__debug__" : Str)) = false := by decide) (hcd : (x == ("__classdict__" : Str)) = false := by decide) : PE X (.Name x pos) (tVar i) := by
 intro pins s σ H Q I h
 obtain ⟨v, e, h⟩ := h
 obtain ⟨m, hn, hl⟩ := I.loc
 obtain ⟨u, r, l⟩ := hl i x v hN e hv
 have fin : EP X pins σ Q u s := ⟨v, H, I, r, h⟩
 rcases l with ⟨hk, hm⟩ | ⟨hk, c, hc, hcell⟩
 ·exact wpAny_Name (wpAny_loadName_local I.ok.kind hk hn hm fin) hd
 ·rcases hk with hk | hk
  ·exact wpAny_Name (wpAny_loadName_cell I.ok.kind hk hc hcell fin) hd
  ·exact wpAny_Name (wpAny_loadName_free I.ok.kind hk hc hcell fin hcd) hd
theorem a0o {i j pos} : PE X (.Constant (.int i) j pos) (tC (.int i)) := fun _ _ _ H _ I h => wpAny_Constant_int ⟨.int i, H, I.tok _, ⟨_, rfl⟩, h⟩
theorem f2j {b j pos} : PE X (.Constant (.bool b) j pos) (tC (.bl b)) := fun _ _ _ H _ I h => Constant_bool ⟨.bl b, H, I, rfl, h⟩
theorem g9y {j pos} : PE X (.Constant .none j pos) (tC .non) := fun _ _ _ H _ I h => Constant_none ⟨.non, H, I, rfl, h⟩
theorem a0w {x j pos} : PE X (.Constant (.str x) j pos) (tC (.str x)) := fun _ _ _ H _ I h => Calls.Constant_str ⟨.str x, H, I.tok _, ⟨_, rfl⟩, h⟩
def Gl (X : Cx) (x : Str) : Prop := X.env.kindOf x = some .globalImplicit
theorem f4t {E : Value -> Shared -> Prop} {pins : List (Addr × Obj)} {s : Shared} {σ : St} {H : Hp} {x : Str} {u : Value} {pos : Pos} {Q : Value -> Shared -> Prop} (I : Inv X pins σ H s) (hg : Gl X x) (hm : X.mg x = some u) (h : Q u s)
  (hd : (x == ("__debug__" : Str)) = false := by decide) : wpAny (model X.prog X.w) X.A (eval (.Name x pos) X.env) Q E s :=
 Calls.Name_function_global I.ok.kind hg (Calls.loadGlobal_global (by rw [I.ok.glob]; exact I.mod.glob.keeps I.bk) hm h) hd
theorem d7y {E : Value -> Shared -> Prop} {pins : List (Addr × Obj)} {s : Shared} {σ : St} {H : Hp} {x : Str} {u : Value} {pos : Pos} {Q : Value -> Shared -> Prop} (I : Inv X pins σ H s) (hg : Gl X x) (hm : X.mg x = none) (hv : bootBuiltins x = some u) (h : Q u s)
  (hn : x ≠ "__name__" := by decide) (hd : (x == ("__debug__" : Str)) = false := by decide) : wpAny (model X.prog X.w) X.A (eval (.Name x pos) X.env) Q E s := by
 obtain ⟨mb, h1, h2⟩ := I.mod.blt
 exact Calls.Name_function_global I.ok.kind hg (Calls.loadGlobal_builtin (by rw [I.ok.glob]; exact I.mod.glob.keeps I.bk) hm (by rw [I.ok.blt]; exact h1.keeps I.bk) ((h2 x hn).trans hv) h) hd
theorem a5n {x : Str} {v : V} {u : Value} {pos : Pos} (hg : Gl X x) (hm : X.mg x = some u) (r : RelV v u) (hd : (x == ("__debug__" : Str)) = false := by decide) : PE X (.Name x pos) (tC v) :=
 fun _ _ _ H _ I h => f4t I hg hm ⟨v, H, I, r, h⟩ hd
theorem c6r {x : Str} {v : V} {u : Value} {pos : Pos} (hg : Gl X x) (hm : X.mg x = none) (hv : bootBuiltins x = some u) (r : RelV v u) (hn : x ≠ "__name__" := by decide) (hd : (x == ("__debug__" : Str)) = false := by decide) : PE X (.Name x pos) (tC v) :=
 fun _ _ _ H _ I h => d7y I hg hm hv ⟨v, H, I, r, h⟩ hn hd
variable {a b : Expr} {ta tb : TE} {pos : Pos}
def PC (X : Cx) (op : CmpOp) (a b : Expr) (t : TE) : Prop :=
 ∀ (pins : List (Addr × Obj)) (s : Shared) (σ : St) (H : Hp) (Q : VK), Inv X pins σ H s -> t σ H Q ->
  wpAny (model X.prog X.w) X.A (eval a X.env) (fun v s₁ => wpAny (model X.prog X.w) X.A (eval b X.env) (fun u s₂ => wpAny (model X.prog X.w) X.A (compareOp op v u) (EP X pins σ Q) X.xe s₂) X.xe s₁) X.xe s
theorem h5b (b : Expr) {op : CmpOp} (h : op ≠ .In) (h2 : op ≠ .NotIn) : behindInMarks op b = false := by
 have e1 : (op == CmpOp.In) = false := by cases op <;> first | rfl | exact absurd rfl h
 have e2 : (op == CmpOp.NotIn) = false := by cases op <;> first | rfl | exact absurd rfl h2
 cases b <;> simp [behindInMarks, e1, e2]
def tB (t : TE) : TT := fun σ H Q => t σ H fun x H1 => ∃ c, x = .bl c /\ Q c H1
theorem i4l {op : CmpOp} {t : TE} (h : PC X op a b t) (h1 : behindInMarks op b = false := by first | exact h5b _ (by decide) (by decide) | rfl) : PT X (.Compare a [op] [b] pos) (tB t) := by
 intro pins s σ H Q I hw
 refine wpAny_isTrue_Compare1 (thn (h pins s σ H _ I hw) fun v s1 h1 => thn h1 fun u s2 h2 => thn h2 fun c s3 ⟨x, H1, I1, r1, q1⟩ => ?_) h1
 obtain ⟨d, rfl, q⟩ := q1
 cases r1
 exact wpAny_truthy_bool ⟨H1, I1, q⟩
theorem i4m {e : Expr} {t : TE} (h : PE X e t) (he : ∀ whole, isTrue e X.env whole = (do let v <- whole; standAt e.pos; holding [v] (truthy v)) := by intro _; rfl) : PT X e (tB t) := by
 intro pins s σ H Q I hw
 refine isTrue_plain (thn (h pins s σ H _ I hw) fun v s1 ⟨x, H1, I1, r1, q1⟩ => ?_) (he _)
 obtain ⟨d, rfl, q⟩ := q1
 cases r1
 exact wpAny_truthy_bool ⟨H1, I1, q⟩
variable {tA tB' : TT} {rest : List Expr}
def tAnd (t u : TT) : TT := fun σ H Q => t σ H fun c H1 => if c = true then u σ H1 Q else Q false H1
def tOr (t u : TT) : TT := fun σ H Q => t σ H fun c H1 => if c = true then Q true H1 else u σ H1 Q
def tNot (t : TT) : TT := fun σ H Q => t σ H fun c H1 => Q (!c) H1
theorem pw_and1 (ha : PT X a tA) : PW X (.BoolOp .And [a] pos) tA := by
 intro wh pins s σ H Q I h
 refine isTrue_and (thn (ha pins s σ H Q I h) fun c s1 e => ?_)
 cases c with
 | true => exact isTrue_and_nil e
 | false => exact e
theorem pw_or1 (ha : PT X a tA) : PW X (.BoolOp .Or [a] pos) tA := by
 intro wh pins s σ H Q I h
 refine isTrue_or (thn (ha pins s σ H Q I h) fun c s1 e => ?_)
 cases c with
 | false => exact isTrue_or_nil e
 | true => exact e
theorem pw_and (ha : PT X a tA) (hb : PW X (.BoolOp .And (b :: rest) pos) tB') : PW X (.BoolOp .And (a :: b :: rest) pos) (tAnd tA tB') := by
 intro wh pins s σ H Q I h
 refine isTrue_and (thn (ha pins s σ H _ I h) fun c s1 ⟨H1, I1, q1⟩ => ?_)
 cases c with
 | true => exact hb wh pins s1 σ H1 Q I1 q1
 | false => exact ⟨H1, I1, q1⟩
theorem pw_or (ha : PT X a tA) (hb : PW X (.BoolOp .Or (b :: rest) pos) tB') : PW X (.BoolOp .Or (a :: b :: rest) pos) (tOr tA tB') := by
 intro wh pins s σ H Q I h
 refine isTrue_or (thn (ha pins s σ H _ I h) fun c s1 ⟨H1, I1, q1⟩ => ?_)
 cases c with
 | true => exact ⟨H1, I1, q1⟩
 | false => exact hb wh pins s1 σ H1 Q I1 q1
theorem b8h (ha : PT X a tA) : PT X (.UnaryOp .Not a pos) (tNot tA) := by
 intro pins s σ H Q I h
 exact isTrue_not (ha pins s σ H (fun c H1 => Q (!c) H1) I h)
def i4n (ta tb : TE) : TE := fun σ H Q => ta σ H fun x H1 => ∃ c, x = .bl c /\ if c = true then tb σ H1 Q else Q (.bl false) H1
def i4o (ta : TE) : TE := fun σ H Q => ta σ H fun x H1 => ∃ c, x = .bl c /\ Q (.bl (!c)) H1
theorem h7y {op} {t : TE} (h : PE X a t) : PE X (.BoolOp op [a] pos) t := fun pins s σ H Q I hw => BoolOp_one (h pins s σ H Q I hw)
theorem i4p (ha : PE X a ta) (hb : PE X (.BoolOp .And (b :: rest) pos) tb) : PE X (.BoolOp .And (a :: b :: rest) pos) (i4n ta tb) := by
 intro pins s σ H Q I h
 refine BoolOp_and (thn (ha pins s σ H _ I h) fun v s1 ⟨x, H1, I1, r1, q1⟩ => ?_)
 obtain ⟨c, rfl, q1⟩ := q1
 cases r1
 refine wpAny_truthy_bool ?_
 cases c with
 | true => exact hb pins s1 σ H1 Q I1 q1
 | false => exact ⟨.bl false, H1, I1, rfl, q1⟩
theorem i4q (ha : PE X a ta) : PE X (.UnaryOp .Not a pos) (i4o ta) := by
 intro pins s σ H Q I h
 refine UnaryOp_ (thn (ha pins s σ H _ I h) fun v s1 ⟨x, H1, I1, r1, q1⟩ => ?_)
 obtain ⟨c, rfl, q1⟩ := q1
 cases r1
 exact not_of (wpAny_truthy_bool ⟨.bl (!c), H1, I1, rfl, q1⟩)
def tIf (t : TT) (ta tb : TE) : TE := fun σ H Q => t σ H fun c H1 => if c = true then ta σ H1 Q else tb σ H1 Q
theorem h5c {c : Expr} (hc : PT X c tA) (ha : PE X a ta) (hb : PE X b tb) : PE X (.IfExp c a b pos) (tIf tA ta tb) := by
 intro pins s σ H Q I h
 refine wpAny_IfExp (thn (hc pins s σ H _ I h) fun d s1 ⟨H1, I1, q1⟩ => ?_)
 cases d with
 | true => exact ha pins s1 σ H1 Q I1 q1
 | false => exact hb pins s1 σ H1 Q I1 q1
end
end L2
namespace L2
open PySem PySem.Spec PyProof.Rows
def SqL (K : PySem.W.Frag) (H : Hp) (a : Addr) (xs : List V) : Prop :=
 Rd H a (.lst xs) \/
  ∃ (o : Obj) (its : Array Value) (n : Nat), K.lookup a = some o ∧ o.cls = .type "list" ∧ o.dict = none ∧ o.data = .seq its n ∧ its.size ≤ sizeLine ∧ Vals xs its.toList
def SqT (K : PySem.W.Frag) (H : Hp) (a : Addr) (xs : List V) : Prop :=
 Rd H a (.tup xs) \/
  ∃ (o : Obj) (its : Array Value) (n : Nat), K.lookup a = some o ∧ o.cls = .type "tuple" ∧ o.data = .seq its n ∧ its.size ≤ sizeLine ∧ Vals xs its.toList
noncomputable def absV : Value -> Option V
 | .none => some .non
 | .bool b => some (.bl b)
 | .int i _ => some (.int i)
 | .str x _ => some (.str x)
 | .bytes b _ => some (.byt b)
 | .float b _ => some (.flt b)
 | .ref a => some (.ref a)
 | .type n => some (.ty n)
 | _ => none
theorem RelV.abs {x : V} {u : Value} (r : RelV x u) : absV u = some x := by
 cases x with
 | non => cases r; rfl
 | bl _ => cases r; rfl
 | int _ => obtain ⟨t, rfl⟩ := r; rfl
 | str _ => obtain ⟨t, rfl⟩ := r; rfl
 | byt _ => obtain ⟨t, rfl⟩ := r; rfl
 | flt _ => obtain ⟨t, rfl⟩ := r; rfl
 | ref _ => cases r; rfl
 | ty _ => cases r; rfl
theorem RelV.inj {x y : V} {u : Value} (r : RelV x u) (q : RelV y u) : x = y := Option.some.inj (r.abs.symm.trans q.abs)
theorem Vals.inj : ∀ {xs ys : List V} {us : List Value}, Vals xs us -> Vals ys us -> xs = ys
 | _, _, _, .nil, .nil => rfl
 | _, _, _, .cons r t, .cons r' t' => by rw [r.inj r', Vals.inj t t']
section
variable {X : Cx} {pins : List (Addr × Obj)} {σ : St} {H : Hp} {s : Shared} {a : Addr} {xs ys : List V}
theorem SqL.of {K : PySem.W.Frag} (h : H a = some (.lst xs)) : SqL K H a xs := .inl (.inl h)
theorem SqT.of {K : PySem.W.Frag} (h : H a = some (.tup xs)) : SqT K H a xs := .inl (.inl h)
theorem Inv.list (I : Inv X pins σ H s) (h : SqL X.K H a xs) : ∃ its : List Value, Vals xs its /\ PlainL s.heap a its.toArray /\ xs.length <= sizeLine := by
 rcases h with h | ⟨o, its, n, hk, hc, hd, hs, hz, r⟩
 ·obtain ⟨z, its, n, r, e⟩ := h.ok I.hok
  exact ⟨its, r, ⟨_, n, e, rfl, rfl, rfl⟩, z⟩
 ·refine ⟨its.toList, r, ⟨o, n, I.kIn a o hk, hc, hd, by simpa using hs⟩, ?_⟩
  have e := r.length
  simp only [Array.length_toList] at e
  omega
theorem Inv.tuple (I : Inv X pins σ H s) (h : SqT X.K H a xs) : ∃ its : List Value, Vals xs its /\ IsTup s.heap a its.toArray /\ xs.length <= sizeLine := by
 rcases h with h | ⟨o, its, n, hk, hc, hs, hz, r⟩
 ·obtain ⟨z, its, r, p⟩ := h.ok I.hok
  exact ⟨its, r, p, z⟩
 ·refine ⟨its.toList, r, ⟨o, I.kIn a o hk, hc, n, by simpa using hs⟩, ?_⟩
  have e := r.length
  simp only [Array.length_toList] at e
  omega
theorem Inv.g5w (I : Inv X pins σ H s) (h : SqL X.K H a xs) (h' : SqL X.K H a ys) : xs = ys := by
 obtain ⟨its, r, ⟨o, n, e, _, _, d⟩, _⟩ := I.list h
 obtain ⟨its', r', ⟨o', n', e', _, _, d'⟩, _⟩ := I.list h'
 rw [e] at e'; cases e'
 rw [d] at d'
 injection d' with d1 _
 have : its = its' := by simpa using congrArg Array.toList d1
 subst this
 exact r.inj r'
theorem Inv.f8g (I : Inv X pins σ H s) (h : SqT X.K H a xs) (h' : SqT X.K H a ys) : xs = ys := by
 obtain ⟨its, r, ⟨o, e, _, n, d⟩, _⟩ := I.tuple h
 obtain ⟨its', r', ⟨o', e', _, n', d'⟩, _⟩ := I.tuple h'
 rw [e] at e'; cases e'
 rw [d] at d'
 injection d' with d1 _
 have : its = its' := by simpa using congrArg Array.toList d1
 subst this
 exact r.inj r'
end
noncomputable abbrev Cx.wish (X : Cx) (E : Value -> Shared -> Prop) : Cx := { X with xe := E }
noncomputable abbrev Cx.nox (X : Cx) : Cx := X.wish fun _ _ => False
theorem Cx.Ok.wish {X : Cx} (ok : X.Ok) (E : Value -> Shared -> Prop) : (X.wish E).Ok :=
 ⟨ok.mod, ok.kind, ok.glob, ok.blt, ok.above, ok.inj, ok.has, ok.cab, ok.hd, ok.frames, ok.stk, ok.exf, ok.bs, ok.bsz, ok.i3v, ok.i9g, ok.g9q, ok.frf⟩
theorem Cx.Ok.c6j {X : Cx} {E : Value -> Shared -> Prop} (ok : (X.wish E).Ok) : X.Ok :=
 ⟨ok.mod, ok.kind, ok.glob, ok.blt, ok.above, ok.inj, ok.has, ok.cab, ok.hd, ok.frames, ok.stk, ok.exf, ok.bs, ok.bsz, ok.i3v, ok.i9g, ok.g9q, ok.frf⟩
section
variable {X : Cx} {pins : List (Addr × Obj)} {σ : St} {H : Hp} {s : Shared} {E : Value -> Shared -> Prop}
theorem Inv.wish (I : Inv X pins σ H s) (E : Value -> Shared -> Prop) : Inv (X.wish E) pins σ H s := ⟨I.ok.wish E, I.os, I.bare, I.base, I.loc, I.cell, I.free, I.d3l, I.pin, I.hok, I.len⟩
theorem Inv.c6j (I : Inv (X.wish E) pins σ H s) : Inv X pins σ H s := ⟨I.ok.c6j, I.os, I.bare, I.base, I.loc, I.cell, I.free, I.d3l, I.pin, I.hok, I.len⟩
theorem SP.c6j {D : Ends} {f : Flow} {s' : Shared} (h : SP (X.wish E) pins D f s') : SP X pins D f s' := by
 cases f with
 | next => obtain ⟨σ', H', I, q⟩ := h; exact ⟨σ', H', I.c6j, q⟩
 | brk => obtain ⟨σ', H', I, q⟩ := h; exact ⟨σ', H', I.c6j, q⟩
 | cont => obtain ⟨σ', H', I, q⟩ := h; exact ⟨σ', H', I.c6j, q⟩
 | ret u => obtain ⟨v, σ', H', I, r, q⟩ := h; exact ⟨v, σ', H', I.c6j, r, q⟩
theorem PSs.nox {st : List Stmt} {t : TS} (h : PSs X.nox st t) : PSs X st t := fun pins s σ H D I hw =>
 wpAny_mono (h pins s σ H D (I.wish _) hw) (fun _ _ q => q.c6j) fun _ _ z => False.elim z
end
section
variable {X : Cx} {st : Stmt} {rest : List Stmt} {t u : TS} {e : Expr} {te : TE} {pos : Pos}
def i9z : TS := fun D σ H => D.nx σ H
def tSeq (t u : TS) : TS := fun D σ H => t { D with nx := u D } σ H
theorem a1l : PSs X [] i9z := fun _ _ σ H _ I h => wpAny_execs_nil ⟨σ, H, I, h⟩
theorem a0j (h1 : PS X st t) (h2 : PSs X rest u) : PSs X (st :: rest) (tSeq t u) := by
 intro pins s σ H D I h
 refine wpAny_execs_cons (thn (h1 pins s σ H { D with nx := u D } I h) fun f s1 q => ?_)
 cases f with
 | next =>
  obtain ⟨σ', H', I', q⟩ := q
  exact h2 pins s1 σ' H' D I' q
 | ret v => exact q
 | brk => exact q
 | cont => exact q
theorem a0n (h1 : PS X st t) : PSs X [st] t := by
 intro pins s σ H D I h
 refine wpAny_execs_cons (thn (h1 pins s σ H D I h) fun f s1 q => ?_)
 cases f with
 | next => exact wpAny_execs_nil q
 | ret v => exact q
 | brk => exact q
 | cont => exact q
theorem Inv.quiet {pins : List (Addr × Obj)} {σ : St} {H : Hp} {s : Shared} (I : Inv X pins σ H s) : interactive X.env = false := by simp [interactive, I.ok.kind]
def j0a (te : TE) : TS := fun D σ H => te σ H fun _ H1 => D.nx σ H1
theorem a2n (he : PE X e te) (hs : swapsWith e none pos.line X.env = pure false := by rfl) : PS X (.Expr e pos) (j0a te) := by
 intro pins s σ H D I h
 exact wpAny_Expr_any (thn (he pins s σ H _ I h) fun v s1 ⟨x, H1, I1, r1, q1⟩ => ⟨σ, H1, I1, q1⟩) I.quiet hs
def tRet (te : TE) : TS := fun D σ H => te σ H D.rt
theorem a0z (he : PE X e te) : PS X (.Return (some e) pos) (tRet te) := by
 intro pins s σ H D I h
 exact wpAny_Return_some (thn (he pins s σ H _ I h) fun v s1 ⟨x, H1, I1, r1, q1⟩ => ⟨x, σ, H1, I1, r1, q1⟩)
def tRetN : TS := fun D _ H => D.rt .non H
def i4r (c : TT) (t u : TS) : TS := fun D σ H => c σ H fun b H1 => if b = true then t D σ H1 else u D σ H1
theorem a4g {c : Expr} {a b : List Stmt} {tc : TT} (hc : PT X c tc) (ha : PSs X a t) (hb : PSs X b u) : PS X (.If c a b pos) (i4r tc t u) := by
 intro pins s σ H D I h
 refine wpAny_If (thn (hc pins s σ H _ I h) fun d s1 ⟨H1, I1, q1⟩ => ?_)
 cases d with
 | true => exact ha pins s1 σ H1 D I1 q1
 | false => exact hb pins s1 σ H1 D I1 q1
def i4s : TS := fun _ _ _ => False
theorem a1z : PS X st i4s := fun _ _ _ _ _ _ h => h.elim
end
noncomputable abbrev TG := V -> St -> Hp -> (St -> Hp -> Prop) -> Prop
noncomputable abbrev TGs := List V -> St -> Hp -> (St -> Hp -> Prop) -> Prop
def PG (X : Cx) (target : Expr) (t : TG) : Prop :=
 ∀ (pins : List (Addr × Obj)) (s : Shared) (σ : St) (H : Hp) (v : V) (u : Value) (Q : St -> Hp -> Prop), Inv X pins σ H s -> RelV v u -> t v σ H Q ->
  wpAny (model X.prog X.w) X.A (assign target X.env u) (fun _ s' => ∃ σ' H', Inv X pins σ' H' s' /\ Q σ' H') X.xe s
def PGs (X : Cx) (ts : List Expr) (t : TGs) : Prop :=
 ∀ (pins : List (Addr × Obj)) (s : Shared) (σ : St) (H : Hp) (vs : List V) (us : List Value) (Q : St -> Hp -> Prop), Inv X pins σ H s -> Vals vs us -> t vs σ H Q ->
  wpAny (model X.prog X.w) X.A (assignInOrder ((assignEach ts X.env).map (·.2)) us) (fun _ s' => ∃ σ' H', Inv X pins σ' H' s' /\ Q σ' H') X.xe s
noncomputable abbrev TSet := V -> V -> V -> Hp -> (Hp -> Prop) -> Prop
noncomputable abbrev TIp := V -> V -> Hp -> VK -> Prop
section
variable {X : Cx} {pos : Pos}
def h9u (i : Nat) : TG := fun v σ H Q => Q (σ.set i (some v)) H
theorem a2m {i : Nat} {x : Str} (hN : X.N.Nodup) (hi : X.N[i]? = some x) (hx : Loc X.env.scope x) (hf : X.fn x = true \/ X.env.scope.names.lookup x = some .local := by first | exact .inl rfl | exact .inr rfl | assumption) : PG X (.Name x pos) (h9u i) := by
 intro pins s σ H v u Q I r h
 exact wpAny_assign_Name (g5v I hN hi hx r (fun s' I' => ⟨_, H, I', h⟩) hf)
noncomputable def gNil : TGs := fun vs σ H Q => vs = [] /\ Q σ H
def j0b (t : TG) (u : TGs) : TGs := fun vs σ H Q => ∃ v r, vs = v :: r /\ t v σ H fun σ' H' => u r σ' H' Q
theorem g9z : PGs X [] gNil := by
 intro pins s σ H vs us Q I r h
 obtain ⟨e, h⟩ := h
 subst e
 cases r
 exact assignInOrder_nil ⟨σ, H, I, h⟩
theorem f4u {e : Expr} {es : List Expr} {t : TG} {u : TGs} (h1 : PG X e t) (h2 : PGs X es u)
  (hs : (assignEach (e :: es) X.env).map (·.2) = assign e X.env :: (assignEach es X.env).map (·.2) := by rfl) : PGs X (e :: es) (j0b t u) := by
 intro pins s σ H vs us Q I r h
 obtain ⟨v, vr, e1, h⟩ := h
 subst e1
 cases r with
 | cons r rr =>
  rw [hs]
  refine assignInOrder_cons (thn (h1 pins s σ H _ _ _ I r h) fun _ s1 ⟨σ1, H1, I1, q1⟩ => ?_)
  exact h2 pins s1 σ1 H1 _ _ Q I1 rr q1
def gTup (K : PySem.W.Frag) (n : Nat) (t : TGs) : TG := fun v σ H Q => ∃ a xs, v = .ref a /\ SqT K H a xs /\ xs.length = n /\ t xs σ H Q
theorem h7z {es : List Expr} {k : Nat} {t : TGs} {n : Nat} (hc : X.calm = true) (h : PGs X es t)
  (hn : (assignEach es X.env).length = n := by rfl) (hst : (assignEach es X.env).findIdx? (·.1) = none := by rfl) : PG X (.Tuple es k pos) (gTup X.K n t) := by
 intro pins s σ H v u Q I r hw
 obtain ⟨a, xs, e1, hq, hl, hw⟩ := hw
 subst e1
 cases r
 obtain ⟨its, rv, ht, hz⟩ := I.tuple hq
 refine assign_Tuple_tuple (I.ok.hd hc) ht (by simp [hn, <- hl, rv.length]) hst fun h' hx => ?_
 have I1 : Inv X pins σ H { s with heap := h' } := I.kept (t' := s.toks) fun b o e => hx b o (Nat.ne_of_lt (Heap.lt_size e)) e
 exact h pins _ σ H xs _ Q I1 (by simpa using rv) hw
def gSub (to ti : TE) (t : TSet) : TG := fun v σ H Q => to σ H fun o H1 => ti σ H1 fun i H2 => t o i v H2 fun H3 => Q σ H3
def j0c (te : TE) (g : TG) : TS := fun D σ H => te σ H fun x H1 => g x σ H1 D.nx
theorem i4t {tg e : Expr} {te : TE} {g : TG} (he : PE X e te) (hg : PG X tg g) (hs : swapsWithSole [tg] e pos.line X.env = pure false := by rfl) (hw : swappedStores [tg] e X.env = pure none := by rfl)
  (h1 : (assignEach [tg] X.env).map (·.2) = [assign tg X.env] := by rfl) : PS X (.Assign [tg] e pos) (j0c te g) := by
 intro pins s σ H D I h
 refine wpAny_Assign_stores (thn (he pins s σ H _ I h) fun v s1 ⟨x, H1, I1, r1, q1⟩ => ?_) hs hw
 rw [h1]
 exact thn (hg pins s1 σ H1 x v _ I1 r1 q1) fun _ s2 q => q
theorem a0v {i : Nat} {x : Str} {e : Expr} {te : TE} {pos' : Pos} (hN : X.N.Nodup) (hi : X.N[i]? = some x) (hx : Loc X.env.scope x) (he : PE X e te) (hs : swapsWith e (some (.Name x pos')) pos.line X.env = pure false := by rfl) (hf : X.fn x = true \/ X.env.scope.names.lookup x = some .local := by first | exact .inl rfl | exact .inr rfl | assumption) :
  PS X (.Assign [.Name x pos'] e pos) (j0c te (h9u i)) := by
 intro pins s σ H D I h
 refine wpAny_Assign_Name (thn (he pins s σ H _ I h) fun v s1 ⟨y, H1, I1, r1, q1⟩ => ?_) hs
 exact g5v I1 hN hi hx r1 (fun s2 I2 => ⟨_, H1, I2, q1⟩) hf
end
section
variable {X : Cx} {pos : Pos}
end
structure It where
 go : Nat -> Hp -> Prop
 yld : Nat -> Hp -> V -> Hp -> Prop
 stop : Nat -> Hp -> Prop
def d7z (X : Cx) (pins : List (Addr × Obj)) (H : Hp) (b : Addr) : Prop :=
 H b = none /\ b ≠ X.env.locals /\ b ∉ X.fs /\ (b ∈ X.ex \/ X.s₀.heap.objs.size <= b) /\ (∀ x c, X.env.cells.lookup x = some c -> c ≠ b) /\ ∀ p ∈ X.pn ++ pins, p.1 ≠ b
theorem Inv.h5d {X : Cx} {pins : List (Addr × Obj)} {σ : St} {H H' : Hp} {s : Shared} {b : Addr} (I : Inv X pins σ H s) (hb : s.heap.objs.size <= b) (hn : H' b = none) : d7z X pins H' b := by
 refine ⟨hn, Nat.ne_of_gt (Nat.lt_of_lt_of_le I.lt hb), I.nofs hb, .inr (Nat.le_trans I.sz hb), fun x c e z => ?_, fun p hp z => ?_⟩
 ·obtain ⟨v, q⟩ := I.cell x c e
  exact absurd (Nat.lt_of_lt_of_le q.lt (by rw [z]; exact hb)) (Nat.lt_irrefl _)
 ·exact absurd (Nat.lt_of_lt_of_le (Heap.lt_size (I.pin p hp).1) (by rw [z]; exact hb)) (Nat.lt_irrefl _)
structure Turn (P : Program) (w : World) (K : PySem.W.Frag) (tg : Expr) (J : It) (fp : List Addr) (it : Addr) (tn : Nat -> Heap -> Prop) : Prop where
 mem : it ∈ fp
 obj : ∀ i h, tn i h -> ∀ b ∈ fp, ∃ o, h.get? b = some o /\ ∀ v, o.data ≠ .cell v
 keep : ∀ i h h', tn i h -> (∀ b ∈ fp, ∀ o, h.get? b = some o -> h'.get? b = some o) -> tn i h'
 item : ∀ (X : Cx), X.prog = P -> X.w = w -> X.K = K -> X.calm = true -> ∀ (i : Nat) (pins : List (Addr × Obj)) (s : Shared) (σ : St) (H : Hp) (E : Value -> Shared -> Prop), Inv X pins σ H s -> (∀ b ∈ fp, d7z X pins H b) -> tn i s.heap -> J.go i H ->
  wpAny (model P w) X.A (pyNext (.ref it)) (fun r s1 => ∃ u, r = some u /\
   wpAny (model P w) X.A (letOwnedTupleGo tg (.ref it) u) (fun _ s2 => ∃ x H', Inv X pins σ H' s2 /\ RelV x u /\ J.yld i H x H' /\ tn (i + 1) s2.heap /\ ∀ b ∈ fp, H' b = none) E s1) E s
 done : ∀ (X : Cx), X.prog = P -> X.w = w -> X.K = K -> X.calm = true -> ∀ (i : Nat) (pins : List (Addr × Obj)) (s : Shared) (σ : St) (H : Hp) (E : Value -> Shared -> Prop), Inv X pins σ H s -> (∀ b ∈ fp, d7z X pins H b) -> tn i s.heap -> J.stop i H ->
  wpAny (model P w) X.A (pyNext (.ref it)) (fun r s1 => r = none /\ Inv X pins σ H s1) E s
 self : ∀ (A : Around) (i : Nat) (s : Shared) (Q : Value -> Shared -> Prop) (E : Value -> Shared -> Prop), tn i s.heap -> Q (.ref it) s -> wpAny (model P w) A (pyIter (.ref it)) Q E s
noncomputable abbrev TI := St -> Hp -> (It -> Hp -> Prop) -> Prop
def PIE (X : Cx) (pins : List (Addr × Obj)) (σ : St) (tg : Expr) (R : It -> Hp -> Prop) (itv : Value) (s2 : Shared) : Prop :=
 ∃ (it : Addr) (fp : List Addr) (tn : Nat -> Heap -> Prop) (J : It) (H' : Hp), itv = .ref it /\ Inv X pins σ H' s2 /\ Turn X.prog X.w X.K tg J fp it tn /\ tn 0 s2.heap /\ (∀ b ∈ fp, d7z X pins H' b) /\ R J H'
def PI (X : Cx) (tg iter : Expr) (wi : TI) : Prop :=
 ∀ (pins : List (Addr × Obj)) (s : Shared) (σ : St) (H : Hp) (R : It -> Hp -> Prop), Inv X pins σ H s -> wi σ H R ->
  wpAny (model X.prog X.w) X.A (eval iter X.env) (fun v s1 => wpAny (model X.prog X.w) X.A (pyIter v) (PIE X pins σ tg R) X.xe s1) X.xe s
theorem h5e {M : Model} {A : Around} {E : Value -> Shared -> Prop} {s : Shared} {tg : Expr} {it : Addr} {u : Value} {o : Obj} {n : String} {vs : Array Value} {Q : Unit -> Shared -> Prop} (ho : s.heap.get? it = some o) (hc : o.cls = .type n) (hd : o.data = .fields vs)
  (hn : ["enumerate", "zip", "dict_itemiterator", "dict_reverseitemiterator", "odict_iterator", "itertools.zip_longest", "itertools.pairwise"].contains n = false) (hQ : Q () s) : wpAny M A (letOwnedTupleGo tg (.ref it) u) Q E s := by
 unfold letOwnedTupleGo
 cases tg <;> first
  | exact wpAny_pure hQ
  | (cases u <;> first
    | exact wpAny_pure hQ
    | (refine wpAny_bind (wpAny_load ho ?_)
       rw [hc, hd]
       show wpAny M A (if (["enumerate", "zip", "dict_itemiterator", "dict_reverseitemiterator", "odict_iterator", "itertools.zip_longest", "itertools.pairwise"].contains n && vs[0]? == some (rawInt _)) = true then _ else _) Q E s
       rw [if_neg (by intro h; rw [hn, Bool.false_and] at h; cases h)]
       exact wpAny_pure hQ))
noncomputable def Itl (K : PySem.W.Frag) (a : Addr) : It :=
 ⟨fun i H => ∃ xs x, SqL K H a xs /\ xs[i]? = some x, fun i H x H' => H' = H /\ ∀ xs, SqL K H a xs -> xs[i]? = some x, fun i H => ∃ xs, SqL K H a xs /\ xs.length <= i⟩
noncomputable def Itt (K : PySem.W.Frag) (a : Addr) : It :=
 ⟨fun i H => ∃ xs x, SqT K H a xs /\ xs[i]? = some x, fun i H x H' => H' = H /\ ∀ xs, SqT K H a xs -> xs[i]? = some x, fun i H => ∃ xs, SqT K H a xs /\ xs.length <= i⟩
noncomputable def Itr (lo : Int) (n : Nat) : It := ⟨fun i _ => i < n, fun i H x H' => H' = H /\ x = .int (lo + i), fun i _ => n <= i⟩
theorem h0a {P : Program} {w : World} {K : PySem.W.Frag} {tg : Expr} (a it : Addr) : Turn P w K tg (Itl K a) [it] it (fun i h => h.IsListIter it a i) where
 mem := by simp
 obj := fun i h st b hb => by
  have e : b = it := by simpa using hb
  subst e
  obtain ⟨o, e, c, d⟩ := st
  exact ⟨o, e, fun v z => by rw [d] at z; cases z⟩
 keep := fun i h h' st k => st.at fun o e => k it (by simp) o e
 item := by
  intro X hP hw hK hc i pins s σ H E I hf st hg
  subst hP hw hK
  obtain ⟨xs, x, hq, hx⟩ := hg
  obtain ⟨its, rv, p, hz⟩ := I.list hq
  obtain ⟨u, hu, ru⟩ := rv.get hx
  obtain ⟨f0, f1, f2, f3, f4, f5⟩ := hf it (by simp)
  refine wpAny_pyNext_list_item st p.isList (x := u) (by simpa using hu) fun h' st' sb => ?_
  have I1 : Inv X pins σ H { s with heap := h' } := I.turned (t' := s.toks) (fun b o hb e => (sb.2 b hb).trans e) f0 f1 f3 f4 f5
  obtain ⟨o, e, c, d⟩ := id st'
  exact ⟨u, rfl, h5e (s := { s with heap := h' }) e c d (by decide) ⟨x, H, I1, ru, ⟨rfl, fun ys hy => by rw [I.g5w hy hq]; exact hx⟩, st', fun b hb => (hf b hb).1⟩⟩
 done := by
  intro X hP hw hK hc i pins s σ H E I hf st hg
  subst hP hw hK
  obtain ⟨xs, hq, hx⟩ := hg
  obtain ⟨its, rv, p, hz⟩ := I.list hq
  obtain ⟨f0, f1, f2, f3, f4, f5⟩ := hf it (by simp)
  have hl := rv.length
  exact wpAny_pyNext_list_end (I.ok.hd hc) st p.isList (by simp; omega) fun h' eb => ⟨rfl, I.turned (t' := s.toks) (fun b o hb e => eb b o hb e) f0 f1 f3 f4 f5⟩
 self := fun _ _ _ _ _ st h => wpAny_pyIter_listiter st h
theorem g7e {P : Program} {w : World} {K : PySem.W.Frag} {tg : Expr} (a it : Addr) : Turn P w K tg (Itt K a) [it] it (fun i h => h.IsTupleIter it a i) where
 mem := by simp
 obj := fun i h st b hb => by
  have e : b = it := by simpa using hb
  subst e
  obtain ⟨o, e, c, d⟩ := st
  exact ⟨o, e, fun v z => by rw [d] at z; cases z⟩
 keep := fun i h h' st k => st.at fun o e => k it (by simp) o e
 item := by
  intro X hP hw hK hc i pins s σ H E I hf st hg
  subst hP hw hK
  obtain ⟨xs, x, hq, hx⟩ := hg
  obtain ⟨its, rv, p, hz⟩ := I.tuple hq
  obtain ⟨u, hu, ru⟩ := rv.get hx
  obtain ⟨f0, f1, f2, f3, f4, f5⟩ := hf it (by simp)
  refine wpAny_pyNext_tuple_item st (show s.heap.IsTuple a its.toArray from p) (x := u) (by simpa using hu) fun h' st' sb => ?_
  have I1 : Inv X pins σ H { s with heap := h' } := I.turned (t' := s.toks) (fun b o hb e => (sb.2 b hb).trans e) f0 f1 f3 f4 f5
  obtain ⟨o, e, c, d⟩ := id st'
  exact ⟨u, rfl, h5e (s := { s with heap := h' }) e c d (by decide) ⟨x, H, I1, ru, ⟨rfl, fun ys hy => by rw [I.f8g hy hq]; exact hx⟩, st', fun b hb => (hf b hb).1⟩⟩
 done := by
  intro X hP hw hK hc i pins s σ H E I hf st hg
  subst hP hw hK
  obtain ⟨xs, hq, hx⟩ := hg
  obtain ⟨its, rv, p, hz⟩ := I.tuple hq
  obtain ⟨f0, f1, f2, f3, f4, f5⟩ := hf it (by simp)
  have hl := rv.length
  exact wpAny_pyNext_tuple_end (I.ok.hd hc) st (show s.heap.IsTuple a its.toArray from p) (by simp; omega) fun h' eb => ⟨rfl, I.turned (t' := s.toks) (fun b o hb e => eb b o hb e) f0 f1 f3 f4 f5⟩
 self := fun _ _ _ _ _ st h => wpAny_pyIter_tupleiter st h
theorem g7f {P : Program} {w : World} {K : PySem.W.Frag} {tg : Expr} (it : Addr) (lo : Int) (n : Nat) : Turn P w K tg (Itr lo n) [it] it (fun i h => IsRangeIter h it (lo + (i : Nat) * 1) ((n : Int) - (i : Nat)) 1) where
 mem := by simp
 obj := fun i h st b hb => by
  have e : b = it := by simpa using hb
  subst e
  exact ⟨_, st, fun v z => by
   have z' : Data.fields _ = Data.cell v := z
   cases z'⟩
 keep := fun i h h' st k => k it (by simp) _ st
 item := by
  intro X hP hw hK hc i pins s σ H E I hf st hg
  subst hP hw hK
  obtain ⟨f0, f1, f2, f3, f4, f5⟩ := hf it (by simp)
  have W := Walks.range (prog := X.prog) (w := X.w) (I.ok.hd hc) it lo 1 n
  refine W.item i s _ _ hg st fun v h' tk hv st' kk => ?_
  obtain ⟨t, rfl⟩ := hv
  have I1 : Inv X pins σ H { s with heap := h', toks := tk } := I.turned (fun b o hb e => kk b o (by simpa using hb) e) f0 f1 f3 f4 f5
  refine ⟨_, rfl, h5e (s := { s with heap := h', toks := tk }) (n := "range_iterator") st' rfl rfl (by decide) ⟨.int (lo + i), H, I1, ⟨t, ?_⟩, ⟨rfl, rfl⟩, st', fun b hb => (hf b hb).1⟩⟩
  rw [Int.mul_one]
 done := by
  intro X hP hw hK hc i pins s σ H E I hf st hg
  subst hP hw hK
  obtain ⟨f0, f1, f2, f3, f4, f5⟩ := hf it (by simp)
  exact wpAny_pyNext_range_end (I.ok.hd hc) st (by have : n <= i := hg; omega) fun h' eb => ⟨rfl, I.turned (t' := s.toks) (fun b o hb e => eb b o hb e) f0 f1 f3 f4 f5⟩
 self := fun _ _ _ _ _ st h => wpAny_pyIter_rangeiter st h
end L2
namespace L2
open PySem PySem.Spec PyProof.Rows
section
variable {X : Cx} {tg : Expr}
def i4u (K : PySem.W.Frag) (tl : TE) : TI := fun σ H R => tl σ H fun x H1 => ∃ a, x = .ref a /\ (∃ xs, SqL K H1 a xs) /\ R (Itl K a) H1
theorem h9v {l : Expr} {tl : TE} (hl : PE X l tl) : PI X tg l (i4u X.K tl) := by
 intro pins s σ H R I h
 refine thn (hl pins s σ H _ I h) fun v s1 ⟨x, H1, I1, r1, q1⟩ => ?_
 obtain ⟨a, e, ⟨xs, hq⟩, q⟩ := q1
 subst e
 cases r1
 obtain ⟨its, rv, p, hz⟩ := I1.list hq
 refine wpAny_pyIter_list p.isList ?_
 refine ⟨s1.heap.objs.size, [s1.heap.objs.size], _, _, H1, rfl, I1.kept (t' := s1.toks) fun b o e => Heap.get?_push_of_some _ e, h0a a _, ⟨_, Heap.get?_push_size _ rfl, rfl, rfl⟩, fun b hb => ?_, q⟩
 have e : b = s1.heap.objs.size := by simpa using hb
 subst e
 exact I1.h5d (Nat.le_refl _) (I1.hok.fresh (Nat.le_refl _))
theorem h5f {pins : List (Addr × Obj)} {σ : St} {H : Hp} {s : Shared} {R : It -> Hp -> Prop} {E : Value -> Shared -> Prop} {lo hi : Int} {t u v : Tok} {tk : Nat} (I : Inv X pins σ H s) (h1 : -(2 ^ 62) <= lo) (h2 : lo < 2 ^ 62) (h3 : -(2 ^ 62) <= hi) (h4 : hi < 2 ^ 62)
  (q : R (Itr lo (hi - lo).toNat) H) : wpAny (model X.prog X.w) X.A (pyIter (.ref s.heap.objs.size)) (PIE X pins σ tg R) E { s with heap := s.heap.push { cls := .type "range", data := .fields #[.int lo t, .int hi u, .int 1 v] }, toks := tk } := by
 refine wpAny_pyIter_range (IsRange.new ..) (small_one h1 h2 h3 h4) ?_
 have I1 : Inv X pins σ H { s with heap := s.heap.push { cls := .type "range", data := .fields #[.int lo t, .int hi u, .int 1 v] }, toks := tk } := I.kept fun b o e => Heap.get?_push_of_some _ e
 refine ⟨(s.heap.push { cls := .type "range", data := .fields #[.int lo t, .int hi u, .int 1 v] }).objs.size, [(s.heap.push { cls := .type "range", data := .fields #[.int lo t, .int hi u, .int 1 v] }).objs.size], _, _, H, rfl,
  I1.kept (t' := tk) fun b o e => Heap.get?_push_of_some _ e, g7f _ lo (hi - lo).toNat, ?_, fun b hb => ?_, q⟩
 ·have e1 : lo + ((0 : Nat) : Int) * 1 = lo := by simp
  have e2 : (((hi - lo).toNat : Nat) : Int) - ((0 : Nat) : Int) = Builtin.Range.rangeSize lo hi 1 := by rw [rangeSize_one]; split <;> omega
  show IsRangeIter _ _ (lo + ((0 : Nat) : Int) * 1) ((((hi - lo).toNat : Nat) : Int) - ((0 : Nat) : Int)) 1
  rw [e1, e2]
  exact Heap.get?_push_size _ rfl
 ·have e : b = (s.heap.push { cls := .type "range", data := .fields #[.int lo t, .int hi u, .int 1 v] }).objs.size := by simpa using hb
  subst e
  exact I1.h5d (Nat.le_refl _) (I1.hok.fresh (Nat.le_refl _))
def i4v (ta : TA) : TI := fun σ H R => ta σ H fun vs H1 => ∃ j : Int, vs = [.int j] /\ -(2 ^ 62) <= j /\ j < 2 ^ 62 /\ R (Itr 0 j.toNat) H1
theorem h0b {a : Expr} {ta : TA} {p pos : Pos} (hg : Gl X "range") (hm : X.mg "range" = none) (ha : PA X [a] ta) (hs : starEach [a] X.env = [(false, eval a X.env)] := by rfl) : PI X tg (.Call (.Name "range" p) [a] [] pos) (i4v ta) := by
 intro pins s σ H R I h
 refine Call_ (d7y I hg hm boot_range (PyProof.Rows.callWith_type1 (thn (ha pos pins s σ H _ I h) fun us s1 ⟨vs, H1, I1, r1, q1⟩ => ?_) hs rfl))
 obtain ⟨j, e, q1, q2, q⟩ := q1
 subst e
 cases r1 with
 | cons r rr =>
  cases rr
  obtain ⟨t, rfl⟩ := r
  exact call_range_1 (h5f I1 (by omega) (by omega) q1 q2 (by simpa using q))
def tFor (wi : TI) (g : TG) (tb : TS) : TS := fun D σ H => wi σ H fun J H1 => ∃ W : Nat -> Nat -> St -> Hp -> Prop, (∃ m, W 0 m σ H1) /\ ∀ i m σ H, W i m σ H ->
 (J.stop i H /\ D.nx σ H) \/ (J.go i H /\ ∃ N : St -> Hp -> Prop, (∀ σ' H', N σ' H' -> ∃ m', m' < m /\ W (i + 1) m' σ' H') /\ ∀ x H', J.yld i H x H' -> g x σ H' fun σ2 H2 => tb { D with nx := N, ct := N, bk := D.nx } σ2 H2)
noncomputable def d5t (fp : List Addr) (h : Heap) : List (Addr × Obj) := fp.filterMap fun b => (h.get? b).map fun o => (b, o)
theorem a6v {fp : List Addr} {h : Heap} {b : Addr} {o : Obj} (hb : b ∈ fp) (e : h.get? b = some o) : (b, o) ∈ d5t fp h := List.mem_filterMap.mpr ⟨b, hb, by rw [e]; rfl⟩
theorem h0c {fp : List Addr} {h : Heap} {p : Addr × Obj} (hp : p ∈ d5t fp h) : p.1 ∈ fp /\ h.get? p.1 = some p.2 := by
 obtain ⟨b, hb, e⟩ := List.mem_filterMap.mp hp
 cases q : h.get? b with
 | none => rw [q] at e; cases e
 | some o =>
  rw [q] at e
  have e' : (b, o) = p := Option.some.inj e
  subst e'
  exact ⟨hb, q⟩
theorem Inv.pinned {pins : List (Addr × Obj)} {σ : St} {H : Hp} {s : Shared} {fp : List Addr} (I : Inv X pins σ H s) (hf : ∀ b ∈ fp, d7z X pins H b) (ho : ∀ b ∈ fp, ∃ o, s.heap.get? b = some o /\ ∀ v, o.data ≠ .cell v) : Inv X (pins ++ d5t fp s.heap) σ H s :=
 I.g9x fun p hp => (List.mem_append.mp hp).elim (fun z => I.pin p (List.mem_append_right _ z)) fun z => by
  obtain ⟨hb, e⟩ := h0c z
  obtain ⟨f0, f1, f2, _⟩ := hf p.1 hb
  obtain ⟨o, e', d⟩ := ho p.1 hb
  rw [e] at e'; cases e'
  exact ⟨e, f0, f1, f2, d⟩
theorem Inv.c3w {pins pl : List (Addr × Obj)} {σ : St} {H : Hp} {s : Shared} (I : Inv X (pins ++ pl) σ H s) : Inv X pins σ H s := I.g9x fun p hp => I.pin p (List.mem_append_right _ (List.mem_append_left _ hp))
theorem i4w {iter : Expr} {body : List Stmt} {wi : TI} {g : TG} {tb : TS} {pos : Pos} (hp : PassesOwn (model X.prog X.w) X.A X.env X.xe) (hc : X.calm = true) (hi : PI X tg iter wi) (hg : PG X tg g) (hb : PSs X body tb)
  (hs : ∀ x, foldedSetIterable iter X.env x = pure x := by intro _; rfl) : PS X (.For tg iter body [] pos) (tFor wi g tb) := by
 intro pins s σ H D I h
 refine wpAny_For (thn (hi pins s σ H _ I h) fun v s1 h1 => thn h1 fun itv s2 h2 => ?_) hs
 obtain ⟨it, fp, tn, J, H2, e, I2, T, st2, f2, W, ⟨m0, w0⟩, turn⟩ := h2
 subst e
 -- what stays true of the iterator's objects through the loop
 have stat : ∀ {H' : Hp}, (∀ b ∈ fp, H' b = none) -> ∀ b ∈ fp, d7z X pins H' b := fun hn b hb => ⟨hn b hb, (f2 b hb).2⟩
 refine codeAny_forLoop_any (fun n s' => ∃ i σ' H', Inv X pins σ' H' s' /\ tn i s'.heap /\ (∀ b ∈ fp, H' b = none) /\ W i n σ' H') ?_ m0 ⟨0, σ, H2, I2, st2, fun b hb => (f2 b hb).1, w0⟩
 rintro n s3 ⟨i, σ3, H3, I3, st3, fr3, w3⟩
 rcases turn i n σ3 H3 w3 with ⟨stop, qn⟩ | ⟨go, N, hN, step⟩
 ·refine wpAny_passesOwn hp (thn (T.done X rfl rfl rfl hc i pins s3 σ3 H3 X.xe I3 (stat fr3) st3 stop) fun r s4 ⟨hr, I4⟩ => ?_)
  subst hr
  exact wpAny_execs_nil ⟨σ3, H3, I4, qn⟩
 ·refine wpAny_passesOwn hp (thn (T.item X rfl rfl rfl hc i pins s3 σ3 H3 X.xe I3 (stat fr3) st3 go) fun r s4 ⟨u, hr, h4⟩ => ?_)
  subst hr
  refine wpAny_passesOwn hp (thn h4 fun _ s5 ⟨x, H5, I5, r5, y5, st5, fr5⟩ => ?_)
  have I5' := I5.pinned (stat fr5) (T.obj _ _ st5)
  refine wpAny_passesOwn hp (thn (hg _ s5 σ3 H5 x u _ I5' r5 (step x H5 y5)) fun _ s6 ⟨σ6, H6, I6, q6⟩ => ?_)
  refine wpAny_passesOwn hp (thn (hb _ s6 σ6 H6 _ I6 q6) fun f s7 q7 => ?_)
  have again : ∀ {σ7 : St} {H7 : Hp}, Inv X (pins ++ d5t fp s5.heap) σ7 H7 s7 -> N σ7 H7 -> ∃ m, m < n /\ ∃ i σ' H', Inv X pins σ' H' s7 /\ tn i s7.heap /\ (∀ b ∈ fp, H' b = none) /\ W i m σ' H' := fun {σ7 H7} I7 n7 => by
   obtain ⟨m', hm, w7⟩ := hN σ7 H7 n7
   refine ⟨m', hm, i + 1, σ7, H7, I7.c3w, T.keep _ _ _ st5 fun b hb o e => (I7.pin (b, o) (List.mem_append_right _ (List.mem_append_right _ (a6v hb e)))).1, fun b hb => ?_, w7⟩
   obtain ⟨o, e, d⟩ := T.obj _ _ st5 b hb
   exact (I7.pin (b, o) (List.mem_append_right _ (List.mem_append_right _ (a6v hb e)))).2.1
  cases f with
  | next => obtain ⟨σ7, H7, I7, n7⟩ := q7; exact again I7 n7
  | cont => obtain ⟨σ7, H7, I7, n7⟩ := q7; exact again I7 n7
  | brk => obtain ⟨σ7, H7, I7, q7⟩ := q7; exact ⟨σ7, H7, I7.c3w, q7⟩
  | ret v => obtain ⟨x7, σ7, H7, I7, r7, q7⟩ := q7; exact ⟨x7, σ7, H7, I7.c3w, r7, q7⟩
end
theorem h5g {K : PySem.W.Frag} {a : Addr} {xs : List V} {g : TG} {tb : TS} {D : Ends} {σ : St} {H : Hp} (Pv : Nat -> St -> Hp -> Prop) (h0 : Pv 0 σ H) (hl : ∀ i σ H, i <= xs.length -> Pv i σ H -> SqL K H a xs)
  (hs : ∀ i x σ H, xs[i]? = some x -> Pv i σ H -> g x σ H fun σ2 H2 => tb { D with nx := Pv (i + 1), ct := Pv (i + 1), bk := D.nx } σ2 H2) (hd : ∀ σ H, Pv xs.length σ H -> D.nx σ H) :
  ∃ W : Nat -> Nat -> St -> Hp -> Prop, (∃ m, W 0 m σ H) /\ ∀ i m σ H, W i m σ H ->
   ((Itl K a).stop i H /\ D.nx σ H) \/ ((Itl K a).go i H /\ ∃ N : St -> Hp -> Prop, (∀ σ' H', N σ' H' -> ∃ m', m' < m /\ W (i + 1) m' σ' H') /\ ∀ x H', (Itl K a).yld i H x H' -> g x σ H' fun σ2 H2 => tb { D with nx := N, ct := N, bk := D.nx } σ2 H2) := by
 refine ⟨fun i m σ H => m = xs.length - i /\ i <= xs.length /\ Pv i σ H, ⟨xs.length, by simp, Nat.zero_le _, h0⟩, ?_⟩
 rintro i m σ H ⟨rfl, hi, p⟩
 have q := hl i σ H hi p
 by_cases hlt : i < xs.length
 ·refine .inr ⟨⟨xs, xs[i], q, by simp [hlt]⟩, Pv (i + 1), fun σ' H' p' => ⟨xs.length - (i + 1), by omega, rfl, hlt, p'⟩, fun x H' y => ?_⟩
  obtain ⟨e, y⟩ := y
  subst e
  exact hs i x σ _ (y xs q) p
 ·have e : i = xs.length := by omega
  subst e
  exact .inl ⟨⟨xs, q, Nat.le_refl _⟩, hd σ H p⟩
theorem h0d {lo : Int} {n : Nat} {g : TG} {tb : TS} {D : Ends} {σ : St} {H : Hp} (Pv : Nat -> St -> Hp -> Prop) (h0 : Pv 0 σ H)
  (hs : ∀ i σ H, i < n -> Pv i σ H -> g (.int (lo + i)) σ H fun σ2 H2 => tb { D with nx := Pv (i + 1), ct := Pv (i + 1), bk := D.nx } σ2 H2) (hd : ∀ σ H, Pv n σ H -> D.nx σ H) :
  ∃ W : Nat -> Nat -> St -> Hp -> Prop, (∃ m, W 0 m σ H) /\ ∀ i m σ H, W i m σ H ->
   ((Itr lo n).stop i H /\ D.nx σ H) \/ ((Itr lo n).go i H /\ ∃ N : St -> Hp -> Prop, (∀ σ' H', N σ' H' -> ∃ m', m' < m /\ W (i + 1) m' σ' H') /\ ∀ x H', (Itr lo n).yld i H x H' -> g x σ H' fun σ2 H2 => tb { D with nx := N, ct := N, bk := D.nx } σ2 H2) := by
 refine ⟨fun i m σ H => m = n - i /\ i <= n /\ Pv i σ H, ⟨n, by simp, Nat.zero_le _, h0⟩, ?_⟩
 rintro i m σ H ⟨rfl, hi, p⟩
 by_cases hlt : i < n
 ·refine .inr ⟨hlt, Pv (i + 1), fun σ' H' p' => ⟨n - (i + 1), by omega, rfl, hlt, p'⟩, fun x H' y => ?_⟩
  obtain ⟨e, y⟩ := y
  subst e y
  exact hs i σ _ hlt p
 ·have e : i = n := by omega
  subst e
  exact .inl ⟨Nat.le_refl _, hd σ H p⟩
end L2
namespace L2
open PySem PySem.Spec PyProof.Rows
noncomputable abbrev R2 := V -> V -> Hp -> VK -> Prop
def OpR (X : Cx) (f : Value -> Value -> Sem Value) (r : R2) : Prop :=
 ∀ (pins : List (Addr × Obj)) (s : Shared) (σ : St) (H : Hp) (x y : V) (v u : Value) (Q : VK), Inv X pins σ H s -> RelV x v -> RelV y u -> r x y H Q ->
  wpAny (model X.prog X.w) X.A (f v u) (EP X pins σ Q) X.xe s
def UnR (X : Cx) (f : Value -> Sem Value) (r : V -> Hp -> VK -> Prop) : Prop :=
 ∀ (pins : List (Addr × Obj)) (s : Shared) (σ : St) (H : Hp) (x : V) (v : Value) (Q : VK), Inv X pins σ H s -> RelV x v -> r x H Q ->
  wpAny (model X.prog X.w) X.A (f v) (EP X pins σ Q) X.xe s
def b7w (X : Cx) (f : Value) (r : List V -> Hp -> VK -> Prop) : Prop :=
 ∀ (pins : List (Addr × Obj)) (s : Shared) (σ : St) (H : Hp) (xs : List V) (us : List Value) (Q : VK), Inv X pins σ H s -> Vals xs us -> r xs H Q ->
  wpAny (model X.prog X.w) X.A (call f us) (EP X pins σ Q) X.xe s
def tOp (r : R2) (ta tb : TE) : TE := fun σ H Q => ta σ H fun x H1 => tb σ H1 fun y H2 => r x y H2 Q
def tUn (r : V -> Hp -> VK -> Prop) (ta : TE) : TE := fun σ H Q => ta σ H fun x H1 => r x H1 Q
def rI (C : Int -> Int -> Prop) (g : Int -> Int -> V) : R2 := fun x y H Q => ∃ i j, x = .int i /\ y = .int j /\ C i j /\ Q (g i j) H
def rI0 (g : Int -> Int -> V) : R2 := fun x y H Q => ∃ i j, x = .int i /\ y = .int j /\ Q (g i j) H
noncomputable def rU (g : Int -> V) : V -> Hp -> VK -> Prop := fun x H Q => ∃ i, x = .int i /\ Q (g i) H
section
variable {X : Cx} {a b c : Expr} {ta tb tc : TE} {pos : Pos}
theorem j0d (ha : PE X a ta) (hb : PE X b tb) {pins : List (Addr × Obj)} {s : Shared} {σ : St} {H : Hp} {R : V -> V -> Hp -> Prop} (I : Inv X pins σ H s)
  (h : ta σ H fun x H1 => tb σ H1 fun y H2 => R x y H2) {Q : Value -> Shared -> Prop} {f : Value -> Value -> Sem Value}
  (hf : ∀ v u s2 x y H2, Inv X pins σ H2 s2 -> RelV x v -> RelV y u -> R x y H2 -> wpAny (model X.prog X.w) X.A (f v u) Q X.xe s2) :
  wpAny (model X.prog X.w) X.A (eval a X.env) (fun v s₁ => wpAny (model X.prog X.w) X.A (eval b X.env) (fun u s₂ => wpAny (model X.prog X.w) X.A (f v u) Q X.xe s₂) X.xe s₁) X.xe s := by
 refine thn (ha pins s σ H _ I h) fun v s1 ⟨x, H1, I1, r1, q1⟩ => ?_
 refine thn (hb pins s1 σ H1 _ I1 q1) fun u s2 ⟨y, H2, I2, r2, q2⟩ => ?_
 exact hf v u s2 x y H2 I2 r1 r2 q2
theorem a1i {op : Operator} {r : R2} (ho : OpR X (binaryOp op) r) (ha : PE X a ta) (hb : PE X b tb) : PE X (.BinOp a op b pos) (tOp r ta tb) := by
 intro pins s σ H Q I h
 exact wpAny_BinOp (j0d ha hb I h fun v u s2 x y H2 I2 rx ry q => ho pins s2 σ H2 x y v u Q I2 rx ry q)
theorem i4x {op : UnaryOp} {r : V -> Hp -> VK -> Prop} (ho : UnR X (unaryOp op) r) (ha : PE X a ta) : PE X (.UnaryOp op a pos) (tUn r ta) := by
 intro pins s σ H Q I h
 exact UnaryOp_ (thn (ha pins s σ H _ I h) fun v s1 ⟨x, H1, I1, r1, q1⟩ => ho pins s1 σ H1 x v Q I1 r1 q1)
theorem opI {f : Value -> Value -> Sem Value} {C : Int -> Int -> Prop} {g : Int -> Int -> Int}
  (rule : ∀ (i j : Int) (t u : Tok) (s : Shared) (Q : Value -> Shared -> Prop) (E : Value -> Shared -> Prop), C i j -> Q (.int (g i j) s.toks) { s with toks := s.toks + 1 } -> wpAny (model X.prog X.w) X.A (f (.int i t) (.int j u)) Q E s) :
  OpR X f (rI C fun i j => .int (g i j)) := by
 intro pins s σ H x y v u Q I rx ry h
 obtain ⟨i, j, rfl, rfl, hc, q⟩ := h
 obtain ⟨t, rfl⟩ := rx
 obtain ⟨t', rfl⟩ := ry
 exact rule i j t t' s _ _ hc ⟨.int (g i j), H, I.tok _, ⟨_, rfl⟩, q⟩
theorem j3i {f : Value -> Value -> Sem Value} {g : Int -> Int -> Int}
  (rule : ∀ (i j : Int) (t u : Tok) (s : Shared) (Q : Value -> Shared -> Prop) (E : Value -> Shared -> Prop), Q (.int (g i j) s.toks) { s with toks := s.toks + 1 } -> wpAny (model X.prog X.w) X.A (f (.int i t) (.int j u)) Q E s) :
  OpR X f (rI0 fun i j => .int (g i j)) := by
 intro pins s σ H x y v u Q I rx ry h
 obtain ⟨i, j, rfl, rfl, q⟩ := h
 obtain ⟨t, rfl⟩ := rx
 obtain ⟨t', rfl⟩ := ry
 exact rule i j t t' s _ _ ⟨.int (g i j), H, I.tok _, ⟨_, rfl⟩, q⟩
theorem i9h {f : Value -> Value -> Sem Value} {g : Int -> Int -> Bool}
  (rule : ∀ (i j : Int) (t u : Tok) (s : Shared) (Q : Value -> Shared -> Prop) (E : Value -> Shared -> Prop), Q (.bool (g i j)) s -> wpAny (model X.prog X.w) X.A (f (.int i t) (.int j u)) Q E s) :
  OpR X f (rI0 fun i j => .bl (g i j)) := by
 intro pins s σ H x y v u Q I rx ry h
 obtain ⟨i, j, rfl, rfl, q⟩ := h
 obtain ⟨t, rfl⟩ := rx
 obtain ⟨t', rfl⟩ := ry
 exact rule i j t t' s _ _ ⟨.bl (g i j), H, I, rfl, q⟩
def i9i (i j : Int) : Prop := 0 <= j /\ j <= 1000000 /\ i.natAbs < 2 ^ 64
def j3j (i j : Int) : Prop := (-(2 ^ 64) < i /\ i < 2 ^ 64) \/ (-(2 ^ 64) < j /\ j < 2 ^ 64)
theorem j3j.ok {i j : Int} (h : j3j i j) : IntMulOk i j := by
 rcases h with ⟨h1, h2⟩ | ⟨h1, h2⟩
 ·exact .of_left (intBits_le_64 h1 h2)
 ·exact .of_right (intBits_le_64 h1 h2)
theorem i4y : OpR X (binaryOp .Add) (rI0 fun i j => .int (i + j)) := j3i fun _ _ _ _ _ _ _ q => add_int q
theorem i4z : OpR X (binaryOp .Sub) (rI0 fun i j => .int (i - j)) := j3i fun _ _ _ _ _ _ _ q => sub_int q
theorem h9w : OpR X (binaryOp .Mod) (rI (fun _ j => j ≠ 0) fun i j => .int (i.fmod j)) := opI fun _ _ _ _ _ _ _ hc q => mod_int' hc q
theorem i5a : OpR X (binaryOp .Pow) (rI i9i fun i j => .int (i ^ j.toNat)) := opI fun _ _ _ _ _ _ _ hc q => pow_int_small hc.1 hc.2.1 hc.2.2 q
theorem i5b : OpR X (binaryOp .LShift) (rI i9i fun i j => .int (i * 2 ^ j.toNat)) := opI fun _ _ _ _ _ _ _ hc q => lshift_int_small hc.1 hc.2.1 hc.2.2 q
theorem unI {f : Value -> Sem Value} {g : Int -> Int}
  (rule : ∀ (i : Int) (t : Tok) (s : Shared) (Q : Value -> Shared -> Prop) (E : Value -> Shared -> Prop), Q (.int (g i) s.toks) { s with toks := s.toks + 1 } -> wpAny (model X.prog X.w) X.A (f (.int i t)) Q E s) :
  UnR X f (rU fun i => .int (g i)) := by
 intro pins s σ H x v Q I rx h
 obtain ⟨i, rfl, q⟩ := h
 obtain ⟨t, rfl⟩ := rx
 exact rule i t s _ _ ⟨.int (g i), H, I.tok _, ⟨_, rfl⟩, q⟩
theorem i5c : UnR X (unaryOp .USub) (rU fun i => .int (-i)) := unI fun _ _ _ _ _ q => neg_int q
end
noncomputable def h0e : V -> V -> Bool
 | .non, .non => true | .non, .int _ => true | .int _, .non => true | .non, .bl _ => true | .bl _, .non => true | .non, .str _ => true | .str _, .non => true
 | .int _, .int _ => true | .bl _, .bl _ => true | .str _, .str _ => true | .byt _, .byt _ => true
 | .int _, .str _ => true | .str _, .int _ => true | .bl _, .str _ => true | .str _, .bl _ => true
 | _, _ => false
def rEq : R2 := fun x y H Q => h0e x y = true /\ Q (.bl (decide (x = y))) H
def rNe : R2 := fun x y H Q => h0e x y = true /\ Q (.bl (!decide (x = y))) H
theorem h0f {i j : Int} : decide (V.int i = V.int j) = (i == j) := by
 rw [Bool.eq_iff_iff]
 simp
theorem h8a {i j : Bool} : decide (V.bl i = V.bl j) = (i == j) := by
 rw [Bool.eq_iff_iff]
 simp
theorem h0g {i j : Str} : decide (V.str i = V.str j) = (i == j) := by
 rw [Bool.eq_iff_iff]
 simp
theorem h0h {i j : Array UInt8} : decide (V.byt i = V.byt j) = (i.toList == j.toList) := by
 rw [Bool.eq_iff_iff]
 cases i
 cases j
 simp
section
variable {X : Cx} {a b c : Expr} {ta tb tc : TE} {pos : Pos}
theorem a4k {pins : List (Addr × Obj)} {σ : St} {H : Hp} {s : Shared} {Q : VK} {k k' : Bool} (I : Inv X pins σ H s) (q : Q (.bl k) H) (e : k = k') : EP X pins σ Q (.bool k') s := by
 subst e
 exact ⟨.bl k, H, I, rfl, q⟩
theorem j0e : OpR X (compareOp .Eq) rEq := by
 intro pins s σ H x y v u Q I rx ry h
 obtain ⟨hs, q⟩ := h
 cases x with
 | non =>
  cases rx
  cases y with
  | non => cases ry; exact PySem.EqNone.eq_none_none (a4k I q (by simp))
  | bl j => cases ry; exact PySem.EqNone.eq_none_bool (a4k I q (by simp))
  | int j => obtain ⟨t', rfl⟩ := ry; exact PySem.EqNone.eq_none_int (a4k I q (by simp))
  | str j => obtain ⟨t', rfl⟩ := ry; exact PySem.EqNone.eq_none_str (a4k I q (by simp))
  | _ => exact absurd (show false = true from hs) Bool.false_ne_true
 | bl i =>
  cases rx
  cases y with
  | non => cases ry; exact PySem.EqNone.eq_bool_none (a4k I q (by simp))
  | bl j => cases ry; exact eq_bool (a4k I q h8a)
  | str j => obtain ⟨t', rfl⟩ := ry; exact PySem.EqMixed.eq_bool_str (a4k I q (by simp))
  | _ => exact absurd (show false = true from hs) Bool.false_ne_true
 | int i =>
  obtain ⟨t, rfl⟩ := rx
  cases y with
  | non => cases ry; exact PySem.EqNone.eq_int_none (a4k I q (by simp))
  | int j => obtain ⟨t', rfl⟩ := ry; exact eq_int (a4k I q h0f)
  | str j => obtain ⟨t', rfl⟩ := ry; exact PySem.EqMixed.eq_int_str (a4k I q (by simp))
  | _ => exact absurd (show false = true from hs) Bool.false_ne_true
 | str i =>
  obtain ⟨t, rfl⟩ := rx
  cases y with
  | non => cases ry; exact PySem.EqNone.eq_str_none (a4k I q (by simp))
  | bl j => cases ry; exact PySem.EqMixed.eq_str_bool (a4k I q (by simp))
  | int j => obtain ⟨t', rfl⟩ := ry; exact PySem.EqMixed.eq_str_int (a4k I q (by simp))
  | str j => obtain ⟨t', rfl⟩ := ry; exact eq_str (a4k I q h0g)
  | _ => exact absurd (show false = true from hs) Bool.false_ne_true
 | byt i =>
  obtain ⟨t, rfl⟩ := rx
  cases y with
  | byt j => obtain ⟨t', rfl⟩ := ry; exact PySem.W.eq_bytes (a4k I q h0h)
  | _ => exact absurd (show false = true from hs) Bool.false_ne_true
 | _ => cases y <;> exact absurd (show false = true from hs) Bool.false_ne_true
theorem j0f : OpR X (compareOp .NotEq) rNe := by
 intro pins s σ H x y v u Q I rx ry h
 obtain ⟨hs, q⟩ := h
 cases x with
 | non =>
  cases rx
  cases y with
  | non => cases ry; exact PySem.EqNone.ne_none_none (a4k I q (by simp))
  | bl j => cases ry; exact PySem.EqNone.ne_none_bool (a4k I q (by simp))
  | int j => obtain ⟨t', rfl⟩ := ry; exact PySem.EqNone.ne_none_int (a4k I q (by simp))
  | str j => obtain ⟨t', rfl⟩ := ry; exact PySem.EqNone.ne_none_str (a4k I q (by simp))
  | _ => exact absurd (show false = true from hs) Bool.false_ne_true
 | bl i =>
  cases rx
  cases y with
  | non => cases ry; exact PySem.EqNone.ne_bool_none (a4k I q (by simp))
  | bl j => cases ry; exact ne_bool (a4k I q (congrArg not h8a))
  | str j => obtain ⟨t', rfl⟩ := ry; exact PySem.EqMixed.ne_bool_str (a4k I q (by simp))
  | _ => exact absurd (show false = true from hs) Bool.false_ne_true
 | int i =>
  obtain ⟨t, rfl⟩ := rx
  cases y with
  | non => cases ry; exact PySem.EqNone.ne_int_none (a4k I q (by simp))
  | int j => obtain ⟨t', rfl⟩ := ry; exact ne_int (a4k I q (congrArg not h0f))
  | str j => obtain ⟨t', rfl⟩ := ry; exact PySem.EqMixed.ne_int_str (a4k I q (by simp))
  | _ => exact absurd (show false = true from hs) Bool.false_ne_true
 | str i =>
  obtain ⟨t, rfl⟩ := rx
  cases y with
  | non => cases ry; exact PySem.EqNone.ne_str_none (a4k I q (by simp))
  | bl j => cases ry; exact PySem.EqMixed.ne_str_bool (a4k I q (by simp))
  | int j => obtain ⟨t', rfl⟩ := ry; exact PySem.EqMixed.ne_str_int (a4k I q (by simp))
  | str j => obtain ⟨t', rfl⟩ := ry; exact ne_str (a4k I q (congrArg not h0g))
  | _ => exact absurd (show false = true from hs) Bool.false_ne_true
 | byt i =>
  obtain ⟨t, rfl⟩ := rx
  cases y with
  | byt j => obtain ⟨t', rfl⟩ := ry; exact PySem.W.ne_bytes (a4k I q (congrArg not h0h))
  | _ => exact absurd (show false = true from hs) Bool.false_ne_true
 | _ => cases y <;> exact absurd (show false = true from hs) Bool.false_ne_true
theorem j0g : OpR X (compareOp .Lt) (rI0 fun i j => .bl (decide (i < j))) := i9h fun _ _ _ _ _ _ _ q => lt_int q
theorem j0h : OpR X (compareOp .LtE) (rI0 fun i j => .bl (decide (i <= j))) := i9h fun _ _ _ _ _ _ _ q => le_int q
theorem j0i : OpR X (compareOp .Gt) (rI0 fun i j => .bl (decide (j < i))) := i9h fun _ _ _ _ _ _ _ q => gt_int q
theorem j0j : OpR X (compareOp .GtE) (rI0 fun i j => .bl (decide (j <= i))) := i9h fun _ _ _ _ _ _ _ q => ge_int q
theorem h0i : OpR X (compareOp .In) (fun x y H Q => ∃ i j, x = .str i /\ y = .str j /\ Q (.bl (!(Builtin.Str.occurrences j i 0 j.length 1).isEmpty)) H) := by
 intro pins s σ H x y v u Q I rx ry h
 obtain ⟨i, j, rfl, rfl, q⟩ := h
 obtain ⟨t, rfl⟩ := rx
 obtain ⟨t', rfl⟩ := ry
 exact in_str (a4k I q rfl)
theorem i5d : OpR X (compareOp .Is) (fun x y H Q => y = .non /\ Q (.bl (decide (x = .non))) H) := by
 intro pins s σ H x y v u Q I rx ry h
 obtain ⟨rfl, q⟩ := h
 cases ry
 refine is_none_gen (a4k I q ?_)
 cases x <;> first
  | (cases rx; rfl)
  | (obtain ⟨t, rfl⟩ := rx; rfl)
theorem a1q (b : Expr) {op : CmpOp} (h : op ≠ .In := by decide) (h2 : op ≠ .NotIn := by decide) : behindInMarks op b = false := by
 have e1 : (op == CmpOp.In) = false := by cases op <;> first | rfl | exact absurd rfl h
 have e2 : (op == CmpOp.NotIn) = false := by cases op <;> first | rfl | exact absurd rfl h2
 cases b <;> simp [behindInMarks, e1, e2]
theorem c9t {op : CmpOp} {r : R2} (ho : OpR X (compareOp op) r) (ha : PE X a ta) (hb : PE X b tb) (hm : behindInMarks op b = false) : PE X (.Compare a [op] [b] pos) (tOp r ta tb) := by
 intro pins s σ H Q I h
 exact wpAny_Compare1 (j0d ha hb I h fun v u s2 x y H2 I2 rx ry q => ho pins s2 σ H2 x y v u Q I2 rx ry q) hm
def i5e (t : TE) : TT := fun σ H Q => t σ H fun x H' => ∃ k, x = .bl k /\ Q k H'
theorem h9x {op : CmpOp} {r : R2} (ho : OpR X (compareOp op) r) (ha : PE X a ta) (hb : PE X b tb) (hm : behindInMarks op b = false) : PT X (.Compare a [op] [b] pos) (i5e (tOp r ta tb)) := by
 intro pins s σ H Q I h
 refine wpAny_isTrue_Compare1 (thn (ha pins s σ H _ I h) fun v s1 ⟨x, H1, I1, r1, q1⟩ => thn (hb pins s1 σ H1 _ I1 q1) fun u s2 ⟨y, H2, I2, r2, q2⟩ =>
  thn (ho pins s2 σ H2 x y v u _ I2 r1 r2 q2) fun c s3 ⟨z, H3, I3, r3, k, e, q3⟩ => ?_) hm
 subst e
 cases r3
 exact wpAny_truthy_bool ⟨H3, I3, q3⟩
theorem f8h : (sizeLine : Nat) < 2 ^ 63 := by rw [sizeLine_eq]; decide
theorem g7g : OpR X (binaryOp .Add) (fun x y H Q => ∃ i j, x = .str i /\ y = .str j /\ i.length + j.length <= sizeLine /\ Q (.str (i ++ j)) H) := by
 intro pins s σ H x y v u Q I rx ry h
 obtain ⟨i, j, rfl, rfl, hz, q⟩ := h
 obtain ⟨t, rfl⟩ := rx
 obtain ⟨t', rfl⟩ := ry
 exact add_str (fun t' tk => ⟨.str (i ++ j), H, I.tok _, ⟨_, rfl⟩, q⟩) hz
theorem vals1 {x : V} {us : List Value} (r : Vals [x] us) : ∃ u, us = [u] /\ RelV x u := by
 cases r with
 | cons r1 r2 => cases r2; exact ⟨_, rfl, r1⟩
theorem vals2 {x y : V} {us : List Value} (r : Vals [x, y] us) : ∃ u w', us = [u, w'] /\ RelV x u /\ RelV y w' := by
 cases r with
 | cons r1 r2 =>
  cases r2 with
  | cons r3 r4 => cases r4; exact ⟨_, _, rfl, r1, r3⟩
theorem h5h : b7w X (.builtin "abs") (fun xs H Q => ∃ i, xs = [.int i] ∧ Q (.int (if i < 0 then -i else i)) H) := by
 intro pins s σ H xs us Q I r h
 obtain ⟨i, rfl, q⟩ := h
 obtain ⟨u, rfl, t, rfl⟩ := vals1 r
 exact call_abs_int fun u tk => ⟨.int (if i < 0 then -i else i), H, I.tok _, ⟨_, rfl⟩, q⟩
theorem h0j (hc : X.calm = true) : b7w X (.builtin "max") (fun xs H Q => ∃ i j, xs = [.int i, .int j] ∧ Q (.int (if j > i then j else i)) H) := by
 intro pins s σ H xs us Q I r h
 obtain ⟨i, j, rfl, q⟩ := h
 obtain ⟨u, w', rfl, ⟨t, rfl⟩, ⟨t', rfl⟩⟩ := vals2 r
 refine max_two_ints (I.ok.hd hc) fun h' tk k => ⟨_, H, I.kept k, ?_, q⟩
 by_cases hj : j > i
 ·rw [if_pos hj, if_pos hj]; exact ⟨_, rfl⟩
 ·rw [if_neg hj, if_neg hj]; exact ⟨_, rfl⟩
theorem f8i : b7w X (.type "int") (fun xs H Q => (∃ i, xs = [.int i] ∧ Q (.int i) H) ∨ ∃ k, xs = [.bl k] ∧ Q (.int (if k then 1 else 0)) H) := by
 intro pins s σ H xs us Q I r h
 rcases h with ⟨i, rfl, q⟩ | ⟨k, rfl, q⟩
 ·obtain ⟨u, rfl, t, rfl⟩ := vals1 r
  exact call_int_int ⟨.int i, H, I, ⟨_, rfl⟩, q⟩
 ·obtain ⟨u, rfl, r1⟩ := vals1 r
  cases r1
  exact call_int_bool ⟨.int (if k then 1 else 0), H, I.tok _, ⟨_, rfl⟩, q⟩
theorem f8j : b7w X (.type "str") (fun xs H Q => ∃ i, xs = [.int i] ∧ i.natAbs.log2 < 1920 ∧ Q (.str (toString i)) H) := by
 intro pins s σ H xs us Q I r h
 obtain ⟨i, rfl, hz, q⟩ := h
 obtain ⟨u, rfl, t, rfl⟩ := vals1 r
 exact PySem.P.str_of_int hz ⟨.str _, H, I.tok _, ⟨_, rfl⟩, q⟩
end
end L2
namespace L2
open PySem PySem.Spec PyProof.Rows
structure h9y (h : Heap) (x dx C : Addr) (mA : Str -> Option Value) : Prop where
 obj : h.get? x = some (PySem.W.instObj C dx)
 ns : h.Ns1 dx mA
 ne : dx ≠ x
theorem h0k {h : Heap} {dx : Addr} {mA : Str -> Option Value} (n : h.Ns1 dx mA) : ∃ od, h.get? dx = some od /\ ∀ name, PySem.W.lookIn name od = some (mA name) := by
 obtain ⟨o, es, ep, ho, hd, hk, _, hm⟩ := n
 refine ⟨o, ho, fun name => ?_⟩
 have e := hm name
 unfold nsFind findBy at e
 rw [<- Array.find?_toList] at e
 unfold PySem.W.lookIn
 rw [hd]
 dsimp only
 split
 ·rename_i y q
  rw [q] at e
  exact congrArg some e
 ·rename_i q
  rw [q] at e
  have a : es.toList.any (·.refKey) = false := by
   rw [List.any_eq_false]
   intro y hy
   obtain ⟨z, t, hkey⟩ := hk y (Array.mem_toList_iff.mp hy)
   simp [DictEntry.refKey, hkey]
  have a' : ¬ es.toList.any (·.refKey) = true := by rw [a]; exact Bool.false_ne_true
  rw [if_neg a']
  exact congrArg some e
theorem h9y.look {h : Heap} {x dx C : Addr} {mA : Str -> Option Value} (I : h9y h x dx C mA) : ∃ od, PySem.W.InstAt h x (PySem.W.instObj C dx) C (some od) /\ ∀ name, PySem.W.lookIn name od = some (mA name) :=
 let ⟨od, ho, hl⟩ := h0k I.ns
 ⟨od, ⟨I.obj, rfl, rfl, ho⟩, hl⟩
section
variable {prog : Program} {w : World} {A : Around} {E : Value -> Shared -> Prop} {s : Shared} {K : PySem.W.Frag} {x dx C f : Addr} {mA : Str -> Option Value} {name : Str} {v : Value}
theorem get_map {expr : Bool} {Q : Value -> Shared -> Prop} (X : K.In s.heap) (I : h9y s.heap x dx C mA) (hg : PySem.W.plainGet K C name = true) (hh : PySem.W.hasDictIn K C = true)
  (ha : PySem.W.findIn K (.ref C) name = some none) (hv : mA name = some v) (hv' : PySem.W.handedIn v = true) (h : Q v { s with toks := s.toks + 1 }) :
  wpAny (model prog w) A (getAttr (.ref x) name expr) Q E s := by
 obtain ⟨od, J, hl⟩ := I.look
 exact PySem.W.get_value X J (PySem.W.plainGet_of hg).1 (PySem.W.findObj_own hh ha rfl (by rw [hl, hv])) hv' h
theorem h5i {pl : Sem Bool} {Q : Value × List Value -> Shared -> Prop} (X : K.In s.heap) (I : h9y s.heap x dx C mA) (hg : PySem.W.plainGet K C name = true)
  (hf : PySem.W.findIn K (.ref C) name = some (some (.ref f))) (ht : PySem.W.isFn K (.ref f) = true) (hv : mA name = none) (h : Q (.ref f, [.ref x]) s) :
  wpAny (model prog w) A (getMethod (.ref x) name pl) Q E s := by
 obtain ⟨od, J, hl⟩ := I.look
 exact PySem.W.method_fn X J (PySem.W.plainGet_of hg).1 (PySem.W.plainGet_of hg).2 hf (beq_iff_eq.mp ht) (by show (PySem.W.lookIn name od).map (·.isSome) = some false; rw [hl, hv]; rfl) h
theorem h9z {ns : List Str} {Q : Unit -> Shared -> Prop} (X : K.In s.heap) (I : h9y s.heap x dx C mA)
  (hs : PySem.W.findIn K (.ref C) "__setattr__" = some (some (.builtin "object.__setattr__"))) (hp : PySem.W.plainOver K C = true) (ht : PySem.W.takerIn K C name = some none) (hh : PySem.W.hasDictIn K C = true)
  (hw : PySem.Within mA ns) (hsz : ns.length <= sizeLine)
  (h : ∀ h', h9y h' x dx C (fun y => if y = name then some v else mA y) -> Heap.SameBut dx s.heap h' -> Q () { s with heap := h', toks := s.toks + 2 }) :
  wpAny (model prog w) A (setAttr (.ref x) name v) Q E s := by
 obtain ⟨od, J, hl⟩ := I.look
 refine PySem.W.set_plain X J hs (PySem.W.osa_open (s := { s with toks := s.toks + 1 }) (r := none) X J hp ht fun b => ?_)
 obtain ⟨cd, hc, hd'⟩ := PySem.W.any_some hh
 have hx : s.heap.get? x = some ⟨.ref C, some dx, .plain, #[]⟩ := I.obj
 refine wpAny_bind (wpAny_pure (wpAny_bind (wpAny_bind (wpAny_loadPart hx (wpAny_bind (PySem.W.Looks.here (s := { s with toks := s.toks + 1 }) (PySem.W.looks_clsIn X hc) ?_))))))
 rw [hd']
 refine wpAny_pure (a := some dx) (wpAny_bind (wpAny_pure (wpAny_bind ?_)))
 refine wpAny_nsSet1 (s := { s with toks := s.toks + 1 }) I.ns fun h' hn2 hs2 => ?_
 obtain ⟨oD, esD, epD, hoD, hdD, hcD⟩ := hn2.count (PySem.Within.cons name v hw)
 refine wpAny_bind (wpAny_lookBehind hoD (by rw [hdD]; exact pastItsLine_dict (Nat.le_trans hcD (by rw [List.length_cons]; omega))) ?_)
 exact wpAny_pure (h _ ⟨(hs2.2 _ (Ne.symm I.ne)).trans I.obj, hn2, I.ne⟩ hs2)
theorem h5j {R : Result -> Shared -> Prop} {vs : List Value} {kw : List (Str × Value)} (X : K.In s.heap) (hm : PySem.W.makesIn K C = true)
  (hi : PySem.W.findIn K (.ref C) "__init__" = some (some (.ref f))) (hf : PySem.W.typeIn K (.ref f) = some (.type "function"))
  (h : codeAny (model prog w) (A.under (.builtin "type.__call__" ⟨.ref C :: vs, kw⟩)) (.call (.ref f) ⟨.ref (s.heap.objs.size + 1) :: vs, kw⟩) (PySem.W.InitBack (s.heap.objs.size + 1) R)
   { s with heap := (s.heap.push PySem.W.emptyDict).push (PySem.W.instObj C s.heap.objs.size) }) :
  codeAny (model prog w) A (.call (.ref C) ⟨vs, kw⟩) R s := by
 obtain ⟨hh, g, d, t, os⟩ := s
 exact PySem.W.make_core (PySem.W.makes_of X hm) (PySem.W.looks_findIn X hi) (fun self => PySem.W.bind_fn X self hf) (.inl rfl) h
end
noncomputable def d8g (f : Str) (v : V) : List (Str × V) -> List (Str × V)
 | [] => [(f, v)]
 | (g, x) :: r => if g = f then (g, v) :: r else (g, x) :: d8g f v r
theorem d8h (f g : Str) (v : V) : ∀ fs : List (Str × V), (d8g f v fs).lookup g = if g = f then some v else fs.lookup g
 | [] => by
  show List.lookup g [(f, v)] = _
  by_cases h : g = f
  ·have hb : (g == f) = true := beq_iff_eq.mpr h
   simp only [List.lookup, hb, if_pos h]
  ·have hb : (g == f) = false := beq_eq_false_iff_ne.mpr h
   simp only [List.lookup, hb, if_neg h]
 | (k, x) :: r => by
  have ih := d8h f g v r
  rw [show d8g f v ((k, x) :: r) = (if k = f then (k, v) :: r else (k, x) :: d8g f v r) from rfl]
  by_cases hk : k = f
  ·rw [if_pos hk]
   by_cases h : g = k
   ·have hb : (g == k) = true := beq_iff_eq.mpr h
    simp only [List.lookup, hb, if_pos (h.trans hk)]
   ·have hb : (g == k) = false := beq_eq_false_iff_ne.mpr h
    simp only [List.lookup, hb, if_neg (fun e : g = f => h (e.trans hk.symm))]
  ·rw [if_neg hk]
   by_cases h : g = k
   ·have hb : (g == k) = true := beq_iff_eq.mpr h
    simp only [List.lookup, hb, if_neg (fun e : g = f => hk (h.symm.trans e))]
   ·have hb : (g == k) = false := beq_eq_false_iff_ne.mpr h
    simp only [List.lookup, hb]
    exact ih
theorem d8i (f : Str) (v : V) : ∀ fs : List (Str × V), f ∈ (d8g f v fs).map (·.1) /\ ∀ g, g ∈ fs.map (·.1) -> g ∈ (d8g f v fs).map (·.1)
 | [] => ⟨by simp [d8g], fun g h => by simp at h⟩
 | (k, x) :: r => by
  obtain ⟨i1, i2⟩ := d8i f v r
  rw [show d8g f v ((k, x) :: r) = (if k = f then (k, v) :: r else (k, x) :: d8g f v r) from rfl]
  by_cases hk : k = f
  ·rw [if_pos hk]
   subst hk
   exact ⟨by simp, fun g h => by simpa using h⟩
  ·rw [if_neg hk]
   refine ⟨?_, fun g h => ?_⟩
   ·rw [List.map_cons]
    exact List.mem_cons_of_mem _ i1
   ·rw [List.map_cons] at h ⊢
    rcases List.mem_cons.mp h with e | e
    ·exact List.mem_cons.mpr (.inl e)
    ·exact List.mem_cons_of_mem _ (i2 g e)
theorem d8j (f : Str) (v : V) : ∀ fs : List (Str × V), (d8g f v fs).length <= fs.length + 1
 | [] => by simp [d8g]
 | (k, x) :: r => by
  have ih := d8j f v r
  rw [show d8g f v ((k, x) :: r) = (if k = f then (k, v) :: r else (k, x) :: d8g f v r) from rfl]
  by_cases hk : k = f
  ·rw [if_pos hk, List.length_cons, List.length_cons]; omega
  ·rw [if_neg hk, List.length_cons, List.length_cons]; omega
theorem g1q.some_of {v : V} {o : Option Value} (r : g1q (some v) o) : ∃ u, o = some u /\ RelV v u := by
 cases o with
 | none => exact (show False from r).elim
 | some u => exact ⟨u, rfl, r⟩
theorem g1q.none_of {o : Option Value} (r : g1q none o) : o = none := by
 cases o with
 | none => rfl
 | some u => exact (show False from r).elim
theorem h0l {v : V} {u : Value} (r : RelV v u) : PySem.W.handedIn u = true := by
 cases v with
 | non => cases (show u = Value.none from r); rfl
 | bl b => cases (show u = Value.bool b from r); rfl
 | int i => obtain ⟨t, e⟩ := (show ∃ t, u = Value.int i t from r); cases e; rfl
 | str x => obtain ⟨t, e⟩ := (show ∃ t, u = Value.str x t from r); cases e; rfl
 | byt b => obtain ⟨t, e⟩ := (show ∃ t, u = Value.bytes b t from r); cases e; rfl
 | flt b => obtain ⟨t, e⟩ := (show ∃ t, u = Value.float b t from r); cases e; rfl
 | ref a => cases (show u = Value.ref a from r); rfl
 | ty n => cases (show u = Value.type n from r); rfl
section
variable {P : Program} {w : World} {H H' : Hp} {h h' : Heap} {a C dx : Addr} {fs fs' : List (Str × V)}
theorem f4v (hok : HOk P w H h) (e : H a = some (.ins C dx fs)) : ∃ mA, h9y h a dx C mA /\ (∀ f, g1q (fs.lookup f) (mA f)) /\ PySem.Within mA (fs.map (·.1)) /\ fs.length <= 1000 /\ H dx = some (.own a) := by
 obtain ⟨d, z, ne, ob, mA, n, r, q⟩ := (show b4l P w H h a (.ins C dx fs) from hok a _ e)
 exact ⟨mA, ⟨ob, n, ne⟩, r, q, z, d⟩
end
structure Cls (K : PySem.W.Frag) (C : Addr) : Prop where
 pg : PySem.W.plainGet K C Str.empty = true
 hd : PySem.W.hasDictIn K C = true
 po : PySem.W.plainOver K C = true
 sa : PySem.W.findIn K (.ref C) "__setattr__" = some (some (.builtin "object.__setattr__"))
theorem Cls.get {K : PySem.W.Frag} {C : Addr} (c : Cls K C) (f : Str) : PySem.W.plainGet K C f = true := c.pg
def a1n (K : PySem.W.Frag) (C : Addr) (f : Str) : Prop := PySem.W.findIn K (.ref C) f = some none
theorem a1n.taker {K : PySem.W.Frag} {C : Addr} {f : Str} (n : a1n K C f) : PySem.W.takerIn K C f = some none := by
 unfold PySem.W.takerIn
 rw [show PySem.W.findIn K (.ref C) f = some none from n]
 rfl
structure Con (K : PySem.W.Frag) (C : Addr) (f : Str) (v : V) (u : Value) : Prop where
 at_ : PySem.W.findIn K (.ref C) f = some (some u)
 rel : RelV v u
 get : PySem.W.specialIn K u "__get__" = some none
 cp : PySem.W.copiedNames.contains f = false
structure Meth (K : PySem.W.Frag) (C : Addr) (m : Str) (f : Addr) : Prop where
 at_ : PySem.W.findIn K (.ref C) m = some (some (.ref f))
 fn : PySem.W.isFn K (.ref f) = true
 kp : PySem.W.keepIn K (.ref f) = true
section
variable {X : Cx} {pins : List (Addr × Obj)} {σ : St} {H : Hp} {s : Shared} {a C dx : Addr} {fs : List (Str × V)} {f : Str} {v : V} {A : Around} {E : Value -> Shared -> Prop}
theorem g7h {b : Bool} {Q : Value -> Shared -> Prop} (I : Inv X pins σ H s) (e : H a = some (.ins C dx fs)) (c : Cls X.K C) (n : a1n X.K C f) (l : fs.lookup f = some v)
  (h : ∀ u s', Inv X pins σ H s' -> RelV v u -> Q u s') : wpAny (model X.prog X.w) A (getAttr (.ref a) f b) Q E s := by
 obtain ⟨mA, O, r, _, _, _⟩ := f4v I.hok e
 obtain ⟨u, hu, ru⟩ := g1q.some_of (v := v) (o := mA f) (by rw [<- l]; exact r f)
 exact get_map I.kIn O (c.get f) c.hd n hu (h0l ru) (h u _ (I.tok _) ru)
theorem f3h {m : Str} {g : Addr} {pl : Sem Bool} {Q : Value × List Value -> Shared -> Prop} (I : Inv X pins σ H s) (e : H a = some (.ins C dx fs)) (c : Cls X.K C) (k : Meth X.K C m g) (l : fs.lookup m = none)
  (h : Q (.ref g, [.ref a]) s) : wpAny (model X.prog X.w) A (getMethod (.ref a) m pl) Q E s := by
 obtain ⟨mA, O, r, _, _, _⟩ := f4v I.hok e
 have hn : mA m = none := g1q.none_of (by rw [<- l]; exact r m)
 exact h5i I.kIn O (c.get m) k.at_ k.fn hn h
theorem g7i {y : V} {u : Value} {Q : Unit -> Shared -> Prop} (I : Inv X pins σ H s) (e : H a = some (.ins C dx fs)) (c : Cls X.K C) (n : a1n X.K C f) (hl : fs.length < 1000) (ry : RelV y u)
  (h : ∀ s', Inv X pins σ (upd H a (.ins C dx (d8g f y fs))) s' -> Q () s') : wpAny (model X.prog X.w) A (setAttr (.ref a) f u) Q E s := by
 obtain ⟨mA, O, r, wi, _, ho⟩ := f4v I.hok e
 have hz : (fs.map (·.1)).length <= sizeLine := by rw [List.length_map, sizeLine_eq]; omega
 refine h9z I.kIn O c.sa c.po n.taker c.hd wi hz fun h' O' sb => h _ ?_
 have hd : ∃ o, h'.get? dx = some o := let ⟨o, _, _, e', _⟩ := O'.ns; ⟨o, e'⟩
 refine I.write (x := a) (e := dx) (by rw [e]; exact True.intro) (.inr ho) (fun b q hb z => (sb.2 b hb).trans z) hd ?_
 refine ⟨by rw [a3p O.ne]; exact ho, ?_, O.ne, O'.obj, _, O'.ns, fun g => ?_, fun g hg => ?_⟩
 ·have := d8j f y fs; omega
 ·show g1q ((d8g f y fs).lookup g) (if g = f then some u else mA g)
  rw [d8h]
  by_cases q : g = f
  ·rw [if_pos q, if_pos q]; exact ry
  ·rw [if_neg q, if_neg q]; exact r g
 ·by_cases q : g = f
  ·rw [q]; exact (d8i f y fs).1
  ·refine (d8i f y fs).2 g (wi g fun z => hg ?_)
   show (if g = f then some u else mA g) = none
   rw [if_neg q]; exact z
theorem Inv.made (I : Inv X pins σ H s) : Inv X pins σ (upd (upd H s.heap.objs.size (.own (s.heap.objs.size + 1))) (s.heap.objs.size + 1) (.ins C s.heap.objs.size []))
  { s with heap := (s.heap.push PySem.W.emptyDict).push (PySem.W.instObj C s.heap.objs.size) } := by
 have e1 : (s.heap.push PySem.W.emptyDict).get? s.heap.objs.size = some PySem.W.emptyDict := Heap.get?_push_size s.heap rfl
 have e2 : ((s.heap.push PySem.W.emptyDict).push (PySem.W.instObj C s.heap.objs.size)).get? (s.heap.objs.size + 1) = some (PySem.W.instObj C s.heap.objs.size) := by
  have := Heap.get?_push_size (s.heap.push PySem.W.emptyDict) (o := PySem.W.instObj C s.heap.objs.size) rfl
  rwa [Heap.size_push] at this
 have e3 : (s.heap.push PySem.W.emptyDict).Ns s.heap.objs.size (fun _ => none) := ⟨PySem.W.emptyDict, #[], _, e1, rfl, (fun e he => absurd he (by simp)), fun _ => rfl⟩
 have I1 := I.laid (a := s.heap.objs.size) (o := .own (s.heap.objs.size + 1)) (h' := s.heap.push PySem.W.emptyDict) (t' := s.toks) (fun b u q => Heap.get?_push_of_some _ q) (Nat.le_refl _) ⟨_, e1⟩
 refine I1.laid (a := s.heap.objs.size + 1) (o := .ins C s.heap.objs.size []) (t' := s.toks) (fun b u q => Heap.get?_push_of_some _ q) (Nat.le_of_eq (Heap.size_push _ _)) ?_
 have ne : s.heap.objs.size ≠ s.heap.objs.size + 1 := Nat.ne_of_lt (Nat.lt_succ_self _)
 refine ⟨by rw [a3p ne, a2w], Nat.zero_le _, ne, e2, fun _ => none, (Heap.Ns1.of_empty e3).at fun o q => Heap.get?_push_of_some _ q, fun _ => True.intro, fun y hy => absurd rfl hy⟩
theorem i0a {prog : Program} {w : World} {env : Env} {e : Expr} {f : Str} {pos : Pos} {s : Shared} {Q : Value -> Shared -> Prop} (hb : attributeBase e f env (eval e env) = eval e env)
  (h : wpAny (model prog w) A (eval e env) (fun o s₁ => wpAny (model prog w) A (getAttr o f true) Q E s₁) E s) : wpAny (model prog w) A (eval (.Attribute e f pos) env) Q E s :=
 Attribute_any_ h (by rw [arm_eval_Attribute, hb])
end
def j3k (K : PySem.W.Frag) (ta : TE) (f : Str) : TE := fun σ H Q => ta σ H fun x H1 => ∃ a C dx fs v, x = .ref a /\ H1 a = some (.ins C dx fs) /\ Cls K C /\ a1n K C f /\ fs.lookup f = some v /\ Q v H1
section
variable {X : Cx} {o e value : Expr} {f : Str} {pos pos' tpos : Pos} {ta tv : TE}
theorem i5f (he : PE X e ta) (hb : attributeBase e f X.env (eval e X.env) = eval e X.env) : PE X (.Attribute e f pos) (j3k X.K ta f) := by
 intro pins s σ H Q I h
 refine i0a hb (thn (he pins s σ H _ I h) fun u s1 ⟨x, H1, I1, rx, a, C, dx, fs, v, ex, ea, c, n, l, q⟩ => ?_)
 subst ex
 obtain rfl : u = Value.ref a := rx
 exact g7h I1 ea c n l fun u' s2 I2 ru => ⟨v, H1, I2, ru, q⟩
end
section
variable {X : Cx} {pins : List (Addr × Obj)} {σ : St} {H : Hp} {s : Shared} {A : Around} {E : Value -> Shared -> Prop} {Q : Value -> Shared -> Prop} {c : Value} {b : Bool}
inductive g7j (K : PySem.W.Frag) (H : Hp) : V -> Value -> Prop where
 | non : g7j K H .non (.type "NoneType")
 | bl (x : Bool) : g7j K H (.bl x) (.type "bool")
 | int (i : Int) : g7j K H (.int i) (.type "int")
 | str (x : Str) : g7j K H (.str x) (.type "str")
 | flt (x : UInt64) : g7j K H (.flt x) (.type "float")
 | lst {a : Addr} {xs : List V} (e : H a = some (.lst xs)) : g7j K H (.ref a) (.type "list")
 | frz {a : Addr} {o : Obj} {xs : List V} (e : H a = some (.frz o (.lst xs))) : g7j K H (.ref a) (.type "list")
 | tup {a : Addr} {xs : List V} (e : H a = some (.tup xs)) : g7j K H (.ref a) (.type "tuple")
 | dK {a : Addr} {kvs : List (Key × V)} (e : H a = some (.dK kvs)) : g7j K H (.ref a) (.type "dict")
 | dT {a : Addr} {kvs : List (List Key × V)} (e : H a = some (.dT kvs)) : g7j K H (.ref a) (.type "dict")
 | ins {a C dx : Addr} {fs : List (Str × V)} (e : H a = some (.ins C dx fs)) (cl : Cls K C) (ha : PySem.W.findIn K (.ref C) "__class__" = some (some (.builtin "object.__class__")))
   (hn : PySem.W.specialIn K (.builtin "object.__class__") "__get__" = some (some (.builtin "getset_descriptor.__get__"))) (htk : PySem.W.takesIn K (.builtin "object.__class__") = some true)
   (hm : PySem.W.mroIn K C (.type "object") = some true) : g7j K H (.ref a) (.ref C)
theorem h0m {x : V} {u t : Value} (I : Inv X pins σ H s) (rx : RelV x u) (ty : g7j X.K H x t) (e : PySem.W.kitOne X.K t c = some b) (h : ∀ tk, Q (.bool b) { s with toks := tk }) :
  wpAny (model X.prog X.w) A (call (.builtin "isinstance") [u, c]) Q E s := by
 cases ty with
 | non => cases (show u = Value.none from rx); exact PySem.W.kia_one PySem.W.kitx_none I.kIn True.intro e (fun z => nomatch z) h
 | bl y => cases (show u = Value.bool y from rx); exact PySem.W.kia_one PySem.W.kitx_bool I.kIn True.intro e (fun z => nomatch z) h
 | int i => obtain ⟨t, q⟩ := (show ∃ t, u = Value.int i t from rx); cases q; exact PySem.W.kia_one PySem.W.kitx_int I.kIn True.intro e (fun z => nomatch z) h
 | str y => obtain ⟨t, q⟩ := (show ∃ t, u = Value.str y t from rx); cases q; exact PySem.W.kia_one PySem.W.kitx_str I.kIn True.intro e (fun z => nomatch z) h
 | flt y => obtain ⟨t, q⟩ := (show ∃ t, u = Value.float y t from rx); cases q; exact PySem.W.kia_one PySem.W.kitx_float I.kIn True.intro e (fun z => nomatch z) h
 | @lst a xs ea =>
  cases (show u = Value.ref a from rx)
  obtain ⟨_, _, n, _, h1⟩ := (show b4l X.prog X.w H s.heap a (.lst xs) from I.hok a _ ea)
  exact PySem.W.kia_one PySem.W.kitx_list I.kIn ⟨_, h1, rfl⟩ e (fun z => nomatch z) h
 | @frz a ob xs ea =>
  cases (show u = Value.ref a from rx)
  obtain ⟨_, _, _, n, _, h1⟩ := (show b4l X.prog X.w H s.heap a (.frz ob (.lst xs)) from I.hok a _ ea)
  exact PySem.W.kia_one PySem.W.kitx_list I.kIn ⟨_, h1, rfl⟩ e (fun z => nomatch z) h
 | @tup a xs ea =>
  cases (show u = Value.ref a from rx)
  obtain ⟨_, _, _, p⟩ := (show b4l X.prog X.w H s.heap a (.tup xs) from I.hok a _ ea)
  obtain ⟨o, h1, h2, _⟩ := p
  exact PySem.W.kia_one PySem.W.kitx_tuple I.kIn ⟨o, h1, h2⟩ e (fun z => nomatch z) h
 | @dK a kvs ea =>
  cases (show u = Value.ref a from rx)
  obtain ⟨_, _, vs, _, p⟩ := (show b4l X.prog X.w H s.heap a (.dK kvs) from I.hok a _ ea)
  obtain ⟨o, es, ep, h1, h2, _⟩ := p
  exact PySem.W.kia_one PySem.W.kitx_dict I.kIn ⟨o, h1, h2.1⟩ e (fun z => nomatch z) h
 | @dT a kvs ea =>
  cases (show u = Value.ref a from rx)
  obtain ⟨_, _, xs, _, o, es, ep, h1, h2, _⟩ := (show b4l X.prog X.w H s.heap a (.dT kvs) from I.hok a _ ea)
  exact PySem.W.kia_one PySem.W.kitx_dict I.kIn ⟨o, h1, h2.1⟩ e (fun z => nomatch z) h
 | @ins a C dx fs ea cl ha hn htk hm =>
  cases (show u = Value.ref a from rx)
  obtain ⟨mA, O, _⟩ := f4v I.hok ea
  obtain ⟨od, J, _⟩ := O.look
  exact PySem.W.kia_one (PySem.W.kitx_own (cl.get _) cl.hd ha hn htk hm) I.kIn J e (fun z => nomatch z) h
end
end L2
namespace L2
open PySem PySem.Spec PyProof.Rows
structure a2k (k : Nat) (A : Around) : Prop where
 hd : A.handled = none
 dp : A.depth + 3 * k + 5 < recursionLimit
 un : A.units + 16 * k + 200 < cLine
theorem a2k.mono {j k : Nat} {A : Around} (r : a2k k A) (h : j <= k) : a2k j A := ⟨r.hd, by have := r.dp; omega, by have := r.un; omega⟩
theorem a2k.deeper {k : Nat} {A : Around} (r : a2k (k + 1) A) (env : Env) : a2k k (A.deeper env) :=
 ⟨r.hd, by have := r.dp; show A.depth + 1 + 3 * k + 5 < _; omega, by have := r.un; show A.units + 3 + 16 * k + 200 < _; omega⟩
theorem g7k {A : Around} {C : Addr} {us : List Value} {kw : List (Str × Value)} : (A.under (.builtin "type.__call__" ⟨.ref C :: us, kw⟩)).depth = A.depth + 1 := by
 first | rfl | simp [Around.under, Code.weight, Code.isCreation, Code.isGuard, Code.isCaller, Code.frames, Code.isFrame, guardIds]
theorem g7l {A : Around} {C : Addr} {us : List Value} {kw : List (Str × Value)} : (A.under (.builtin "type.__call__" ⟨.ref C :: us, kw⟩)).units = A.units + 1 := by
 first | rfl | simp [Around.under, Code.cUnits, Code.frames, Code.isFrame]
theorem a2k.make {k : Nat} {A : Around} (r : a2k (k + 1) A) (C : Addr) (us : List Value) (kw : List (Str × Value)) : a2k k (A.under (.builtin "type.__call__" ⟨.ref C :: us, kw⟩)) :=
 ⟨r.hd, by have := r.dp; rw [g7k]; omega, by have := r.un; rw [g7l]; omega⟩
theorem a2k.depth {k : Nat} {A : Around} (r : a2k k A) : A.depth < recursionLimit := by have := r.dp; omega
theorem a2k.units {k : Nat} {A : Around} (r : a2k k A) : A.units + 64 < cLine := by have := r.un; omega
def h4w : TA := fun _ H Q => Q [] H
def i5g (ta : TE) (tr : TA) : TA := fun σ H Q => ta σ H fun x H1 => tr σ H1 fun xs H2 => Q (x :: xs) H2
section
variable {X : Cx} {e : Expr} {es : List Expr} {te : TE} {t : TA} {pos : Pos}
theorem a0h : PA X [] h4w := fun _ _ _ _ H Q I h => Calls.spliced_nil ⟨[], H, I, .nil, h⟩
theorem a0g (ha : PE X e te) (hr : PA X es t) (hs : starEach (e :: es) X.env = (false, eval e X.env) :: starEach es X.env := by rfl) : PA X (e :: es) (i5g te t) := by
 intro pos pins s σ H Q I h
 rw [hs]
 show wpAny _ _ (spliced ((false, eval e X.env) :: backTo pos (starEach es X.env))) _ _ s
 refine Calls.spliced_cons (thn (ha pins s σ H _ I h) fun u s1 ⟨x, H1, I1, r1, q1⟩ => ?_)
 exact thn (hr pos pins s1 σ H1 _ I1 q1) fun us s2 ⟨xs, H2, I2, r2, q2⟩ => ⟨x :: xs, H2, I2, .cons r1 r2, q2⟩
end
noncomputable abbrev Sp := List V -> Hp -> VK -> XK -> Prop
noncomputable abbrev CXT := List Env -> Hp -> Shared -> XK -> Value -> Shared -> Prop
structure h8b (P : Program) (w : World) (K : PySem.W.Frag) (mg : Str -> Option Value) (base : Heap) (A : Around) (outer : List Env) (s : Shared) (H : Hp) : Prop where
 frames : A.frames = some outer
 mod : Mod K mg base
 bs : ∀ b o, base.get? b = some o -> s.heap.get? b = some o /\ H b = none
 bsz : base.objs.size <= s.heap.objs.size
 g9q : s.heap.FunFrames base outer
 frf : ∀ b ∈ frs outer, H b = none
 hok : HOk P w H s.heap
 bare : AllBare s.gens
def CE (outer : List Env) (P : Program) (w : World) (H : Hp) (s : Shared) (Q : VK) (u : Value) (s' : Shared) : Prop :=
 ∃ v H', s'.os = s.os /\ AllBare s'.gens /\ Un (frs outer) [] H H' s.heap s'.heap /\ HOk P w H' s'.heap /\ RelV v u /\ Q v H'
def CR (CX : CXT) (outer : List Env) (P : Program) (w : World) (H : Hp) (s : Shared) (Q : VK) (E : XK) (r : Result) (s' : Shared) : Prop :=
 match r with
 | .ok (.ret u) => CE outer P w H s Q u s'
 | .ok _ => False
 | .error e => CX outer H s E e s'
structure a1k (P : Program) (w : World) (K : PySem.W.Frag) (mg : Str -> Option Value) (base : Heap) (CX : CXT) (k : Nat) (f : Addr) (fd : FuncData) (ps : List Str) (sp : Sp) : Prop where
 len : ∀ vs H Q E, sp vs H Q E -> vs.length = ps.length
 run : ∀ (A : Around) (outer : List Env) (s : Shared) (H : Hp) (args : Args) (us : List Value) (vs : List V) (Q : VK) (E : XK), a2k k A -> h8b P w K mg base A outer s H -> BindsTo s fd args (ps.zip us) -> Vals vs us -> sp vs H Q E ->
  codeAny (model P w) A (.call (.ref f) args) (CR CX outer P w H s Q E) s
theorem h8b.make {P : Program} {w : World} {K : PySem.W.Frag} {mg : Str -> Option Value} {base : Heap} {A : Around} {outer : List Env} {s : Shared} {H : Hp} (e : h8b P w K mg base A outer s H) (C : Addr) (us : List Value) (kw : List (Str × Value)) :
  h8b P w K mg base (A.under (.builtin "type.__call__" ⟨.ref C :: us, kw⟩)) outer s H := ⟨by first | exact e.frames | (simpa [Around.under, Code.envs, Code.isFrame, pushEnvs] using e.frames), e.mod, e.bs, e.bsz, e.g9q, e.frf, e.hok, e.bare⟩
section
variable {X : Cx} {pins : List (Addr × Obj)} {σ : St} {H : Hp} {s s' : Shared}
theorem Inv.env0 (I : Inv X pins σ H s) : h8b X.prog X.w X.K X.mg X.base X.A X.stack s H :=
 ⟨I.ok.frames, I.ok.mod, I.bs, Nat.le_trans I.ok.bsz I.sz, I.stack, I.g1u, I.hok, I.bare⟩
theorem Inv.after {Q : VK} {u : Value} (I : Inv X pins σ H s) (h : CE X.stack X.prog X.w H s Q u s') : EP X pins σ Q u s' := by
 obtain ⟨v, H', os, bare, un, hok, r, q⟩ := h
 obtain ⟨hh, g, d, t, os'⟩ := s'
 obtain rfl : os' = s.os := os
 exact ⟨v, H', I.call (h' := hh) (g' := g) (d' := d) (t' := t) (ch := []) un hok bare (fun b z => absurd z (by simp)), r, q⟩
end
def i5h (sp : Sp) (dvs : List V) (E : XK) (t : TA) : TE := fun σ H Q => t σ H fun vs H1 => sp (vs ++ dvs) H1 Q E
def Binds (K : PySem.W.Frag) (fd : FuncData) (ps : List Str) (ds : List Value) : Prop :=
 ∀ (s : Shared) (us : List Value), K.In s.heap -> (us ++ ds).length = ps.length -> BindsTo s fd ⟨us, []⟩ (ps.zip (us ++ ds))
theorem Binds.all {K : PySem.W.Frag} {fd : FuncData} {ps : List Str} (h : ∀ us : List Value, us.length = ps.length -> bindArgs fd ⟨us, []⟩ = pure (ps.zip us)) : Binds K fd ps [] := fun s us _ hl => by
 rw [List.append_nil] at hl ⊢
 exact .of_eq (h us hl)
def Passes (CX : CXT) (X : Cx) (E : XK) : Prop := ∀ (pins : List (Addr × Obj)) (σ : St) (H : Hp) (s : Shared) (e : Value) (s' : Shared), Inv X pins σ H s -> CX X.stack H s E e s' -> X.xe e s'
section
variable {X : Cx} {CX : CXT} {k : Nat} {f C : Addr} {fd : FuncData} {ps : List Str} {sp : Sp} {dvs : List V} {ds : List Value} {E : XK} {x m : Str} {p pos apos : Pos} {e o : Expr} {es : List Expr} {ta : TE} {t : TA}
theorem g5x {pins : List (Addr × Obj)} {σ : St} {H : Hp} {s : Shared} {Q : VK} {us : List Value} {vs : List V} (F : a1k X.prog X.w X.K X.mg X.base CX k f fd ps sp) (hr : a2k k X.A) (hb : Binds X.K fd ps ds) (hd : Vals dvs ds) (hx : Passes CX X E)
  (I : Inv X pins σ H s) (r : Vals vs us) (h : sp (vs ++ dvs) H Q E) : wpAny (model X.prog X.w) X.A (call (.ref f) us) (EP X pins σ Q) X.xe s := by
 have r2 : Vals (vs ++ dvs) (us ++ ds) := r.append hd
 have hl : (us ++ ds).length = ps.length := by rw [<- r2.length]; exact F.len _ _ _ _ h
 refine wpAny_call (codeAny_mono (F.run X.A X.stack s H ⟨us, []⟩ (us ++ ds) (vs ++ dvs) Q E hr I.env0 (hb s us I.kIn hl) r2 h) fun r s' hq => ?_)
 cases r with
 | error e => exact hx pins σ H s e s' I hq
 | ok fl =>
  cases fl with
  | ret u => exact I.after hq
  | next => exact False.elim hq
  | brk => exact False.elim hq
  | cont => exact False.elim hq
theorem a0q (F : a1k X.prog X.w X.K X.mg X.base CX k f fd ps sp) (hr : a2k k X.A) (hg : Gl X x) (hm : X.mg x = some (.ref f)) (hk : PySem.W.keepIn X.K (.ref f) = true) (hb : Binds X.K fd ps ds) (hd : Vals dvs ds) (hx : Passes CX X E)
  (ha : PA X (e :: es) t) (hdb : (x == ("__debug__" : Str)) = false := by decide) (he : starEach (e :: es) X.env = (false, eval e X.env) :: starEach es X.env := by rfl) (hpl : (backTo pos (starEach es X.env)).any (·.1) = false := by rfl) :
  PE X (.Call (.Name x p) (e :: es) [] pos) (i5h sp dvs E t) := by
 intro pins s σ H Q I h
 refine wpAny_Call_Name_kw (f4t I hg hm ?_ hdb)
 refine PySem.W.callWith_K (h₀ := X.base) I.ok.mod.kin hk (thn (ha pos pins s σ H _ I h) fun us s1 ⟨vs, H1, I1, r, q⟩ => ⟨I1.kIn, ?_⟩) he hpl
 exact g5x F hr hb hd hx I1 r q
structure Mk (K : PySem.W.Frag) (C f : Addr) : Prop where
 makes : PySem.W.makesIn K C = true
 init : PySem.W.findIn K (.ref C) "__init__" = some (some (.ref f))
 fn : PySem.W.isFn K (.ref f) = true
 kp : PySem.W.keepIn K (.ref C) = true
theorem g5y {pins : List (Addr × Obj)} {σ : St} {H : Hp} {s : Shared} {Q : VK} {us : List Value} {vs : List V} (M : Mk X.K C f) (F : a1k X.prog X.w X.K X.mg X.base CX k f fd ps sp) (hr : a2k (k + 1) X.A) (hb : Binds X.K fd ps ds) (hd : Vals dvs ds)
  (hx : Passes CX X E) (I : Inv X pins σ H s) (r : Vals vs us)
  (h : ∀ x dx, H x = none -> H dx = none -> dx ≠ x -> sp (.ref x :: (vs ++ dvs)) (upd (upd H dx (.own x)) x (.ins C dx [])) (fun v H2 => v = .non /\ Q (.ref x) H2) E) :
  wpAny (model X.prog X.w) X.A (call (.ref C) us) (EP X pins σ Q) X.xe s := by
 have hq := h (s.heap.objs.size + 1) s.heap.objs.size (I.hok.fresh (Nat.le_succ _)) (I.hok.fresh (Nat.le_refl _)) (Nat.ne_of_lt (Nat.lt_succ_self _))
 have I2 := Inv.made (C := C) I
 have r2 : Vals (V.ref (s.heap.objs.size + 1) :: (vs ++ dvs)) (Value.ref (s.heap.objs.size + 1) :: (us ++ ds)) := .cons rfl (r.append hd)
 have hl : (Value.ref (s.heap.objs.size + 1) :: us ++ ds).length = ps.length := by
  have e := r2.length
  rw [F.len _ _ _ _ hq] at e
  exact e.symm
 refine wpAny_call (h5j (f := f) I.kIn M.makes M.init (beq_iff_eq.mp M.fn) (codeAny_mono (F.run _ X.stack _ _ ⟨Value.ref (s.heap.objs.size + 1) :: us, []⟩ (Value.ref (s.heap.objs.size + 1) :: (us ++ ds)) _ _ E (hr.make C us [])
  (I2.env0.make C us []) (hb _ (Value.ref (s.heap.objs.size + 1) :: us) I2.kIn hl) r2 hq) fun r s' hq' => ?_))
 cases r with
 | error e => exact hx pins σ _ _ e s' I2 hq'
 | ok fl =>
  cases fl with
  | ret u =>
   obtain ⟨v, H', I3, rv, ev, q3⟩ := I2.after hq'
   subst ev
   exact ⟨rv, ⟨V.ref (s.heap.objs.size + 1), H', I3, rfl, q3⟩⟩
  | next => exact False.elim hq'
  | brk => exact False.elim hq'
  | cont => exact False.elim hq'
end
section
variable {X : Cx} {CX : CXT} {k : Nat} {f C : Addr} {fd : FuncData} {ps ks : List Str} {sp : Sp} {E : XK} {x m : Str} {p pos apos kpos : Pos} {e o : Expr} {es : List Expr} {kws : List Keyword} {te ta : TE} {t tk : TA} {nm : Option Str}
structure j3l (K : PySem.W.Frag) (fd : FuncData) (ps ks : List Str) (g : List Value -> List Value -> List Value) (gV : List V -> List V -> List V) : Prop where
 to : ∀ (s : Shared) (us ws : List Value), K.In s.heap -> (g us ws).length = ps.length -> BindsTo s fd ⟨us, ks.zip ws⟩ (ps.zip (g us ws))
 rel : ∀ {vs : List V} {us : List Value} {zs : List V} {ws : List Value}, Vals vs us -> Vals zs ws -> Vals (gV vs zs) (g us ws)
variable {g : List Value -> List Value -> List Value} {gV : List V -> List V -> List V}
end
structure a0s (N P : List Str) (sc : Scope) : Prop where
 kind : sc.kind = .function
 co : sc.isCoroutine = false
 gen : sc.isGenerator = false
 nd : N.Nodup
 pre : N.take P.length = P
 par : ∀ x ∈ P, sc.names.lookup x = some .local \/ sc.names.lookup x = some .cell
 i5i : ∀ y ∈ sc.names, y.2 ≠ .free
theorem f8k {kindOf : Str -> Option NameKind} {x : Str} : ∀ {binds : List (Str × Value)} {m : Str -> Option Value}, (∀ v, (x, v) ∉ binds) -> bindL kindOf binds m x = m x
 | [], _, _ => rfl
 | (n, v) :: r, m, h => by
  unfold bindL
  rw [f8k fun w hw => h w (List.mem_cons_of_mem _ hw)]
  split
  ·have : x ≠ n := by rintro rfl; exact h v List.mem_cons_self
   simp [this]
  ·rfl
theorem f8l {kindOf : Str -> Option NameKind} {x : Str} : ∀ {binds : List (Str × Value)} {m : Str -> Option Value}, (∀ v, (x, v) ∉ binds) -> bindC kindOf binds m x = m x
 | [], _, _ => rfl
 | (n, v) :: r, m, h => by
  unfold bindC
  rw [f8l fun w hw => h w (List.mem_cons_of_mem _ hw)]
  split
  ·rfl
  ·have : x ≠ n := by rintro rfl; exact h v List.mem_cons_self
   simp [this]
theorem f8m {kindOf : Str -> Option NameKind} {x : Str} {v : Value} : ∀ {P : List Str} {vs : List Value} {i : Nat} {m : Str -> Option Value}, P.Nodup -> P[i]? = some x -> vs[i]? = some v -> kindOf x = some .local ->
  bindL kindOf (P.zip vs) m x = some v
 | [], _, _, _, _, h, _, _ => by simp at h
 | _ :: _, [], _, _, _, _, h, _ => by simp at h
 | p :: P, w :: vs, 0, m, nd, h1, h2, hk => by
  simp at h1 h2; subst h1; subst h2
  show bindL kindOf ((p, w) :: P.zip vs) m p = _
  unfold bindL
  rw [f8k fun v hv => (List.nodup_cons.mp nd).1 (List.of_mem_zip hv).1, if_pos hk]
  simp
 | p :: P, w :: vs, i + 1, m, nd, h1, h2, hk => by
  show bindL kindOf ((p, w) :: P.zip vs) m x = _
  unfold bindL
  exact f8m (i := i) (List.nodup_cons.mp nd).2 (by simpa using h1) (by simpa using h2) hk
theorem f8n {kindOf : Str -> Option NameKind} {x : Str} {v : Value} : ∀ {P : List Str} {vs : List Value} {i : Nat} {m : Str -> Option Value}, P.Nodup -> P[i]? = some x -> vs[i]? = some v -> kindOf x ≠ some .local ->
  bindC kindOf (P.zip vs) m x = some v
 | [], _, _, _, _, h, _, _ => by simp at h
 | _ :: _, [], _, _, _, _, h, _ => by simp at h
 | p :: P, w :: vs, 0, m, nd, h1, h2, hk => by
  simp at h1 h2; subst h1; subst h2
  show bindC kindOf ((p, w) :: P.zip vs) m p = _
  unfold bindC
  rw [f8l fun v hv => (List.nodup_cons.mp nd).1 (List.of_mem_zip hv).1, if_neg hk]
  simp
 | p :: P, w :: vs, i + 1, m, nd, h1, h2, hk => by
  show bindC kindOf ((p, w) :: P.zip vs) m x = _
  unfold bindC
  exact f8n (i := i) (List.nodup_cons.mp nd).2 (by simpa using h1) (by simpa using h2) hk
noncomputable def start (N : List Str) (vs : List V) : St := vs.map some ++ List.replicate (N.length - vs.length) none
def i0b (CX : CXT) (P : Program) (w : World) (K : PySem.W.Frag) (mg : Str -> Option Value) (base : Heap) (N : List Str) (qual : Str) (scope : Scope) (f : Addr) (cd : Value) (A : Around) (outer : List Env) (s : Shared) (H : Hp) (E : XK) : Cx where
 prog := P
 w := w
 K := K
 mg := mg
 base := base
 A := A.deeper (envOfC qual scope s.heap.objs.size f cd)
 N := N
 s₀ := s
 H₀ := H
 env := envOfC qual scope s.heap.objs.size f cd
 outer := outer
 stack := envOfC qual scope s.heap.objs.size f cd :: outer
 ex := []
 calm := true
 fn := fun _ => true
 pn := []
 xe := fun e s' => wpAny (model P w) (A.deeper (envOfC qual scope s.heap.objs.size f cd)) (leaving (envOfC qual scope s.heap.objs.size f cd) e) (fun _ s'' => CX outer H s E e s'') (fun e' s'' => CX outer H s E e' s'') s'
theorem g5z {sc : Scope} {n : Nat} {x : Str} (h : sc.names.lookup x = some .cell) : ∃ c, (cellsFrom n sc.names []).lookup x = some c := by
 have q := PySem.W.cellsFrom_some sc.names n [] (.inl h)
 exact Option.isSome_iff_exists.mp q
theorem h0n {CX : CXT} {P : Program} {w : World} {K : PySem.W.Frag} {mg : Str -> Option Value} {base : Heap} {N ps : List Str} {qual : Str} {scope : Scope} {f : Addr} {cd : Value} {A : Around} {outer : List Env} {s s1 : Shared} {H : Hp} {E : XK} {us : List Value} {vs : List V}
  (S : a0s N ps scope) (hd : A.handled = none) (e0 : h8b P w K mg base A outer s H) (hl : vs.length = ps.length) (r : Vals vs us)
  (x : InCallC s s.heap.objs.size (bindL (envOfC qual scope s.heap.objs.size f cd).kindOf (ps.zip us) fun _ => none) (cellsFrom (s.heap.objs.size + 1) scope.names []) (bindC (envOfC qual scope s.heap.objs.size f cd).kindOf (ps.zip us) fun _ => none) s1) :
  Inv (i0b CX P w K mg base N qual scope f cd A outer s H E) [] (start N vs) H s1 := by
 have hpl : ps.length <= N.length := by have := congrArg List.length S.pre; rw [List.length_take] at this; omega
 obtain ⟨h1, tk, rfl, hk⟩ := x.done
 have noA : ∀ b : Addr, b ∉ (i0b CX P w K mg base N qual scope f cd A outer s H E).ex := fun b z => absurd (show b ∈ ([] : List Addr) from z) (by simp)
 refine ⟨⟨e0.mod, S.kind, rfl, rfl, Nat.le_refl _, fun y z c h1 h2 => ?_, fun y hy => ?_, fun y c _ h => ?_, fun _ => hd, Around.frames_deeper e0.frames, .inr ⟨rfl, rfl⟩, fun b z => absurd z (noA b), e0.bs, e0.bsz, fun b _ _ => noA b, fun b z => absurd z (noA b), e0.g9q, e0.frf⟩,
  rfl, e0.bare, Un.kept hk, ⟨_, x.toInCall.ns, fun i y v h1 h2 h3 => ?_⟩, fun y c h => ⟨_, x.cell y c h⟩, e0.hok.fresh (Nat.le_refl _), fun y c h => ?_, fun p hp => absurd (show p ∈ ([] : List (Addr × Obj)) from hp) (by simp), e0.hok.kept hk, ?_⟩
 ·exact name_of_addr x.apart (PySem.mem_of_lookup h1) (PySem.mem_of_lookup h2)
 ·have hy : scope.names.lookup y = some .cell \/ scope.names.lookup y = some .free := hy
  rcases hy with hy | hy
  ·exact g5z hy
  ·exact absurd rfl (S.i5i _ (PySem.mem_of_lookup hy))
 ·exact Nat.le_of_lt (x.above y c (PySem.mem_of_lookup h))
 ·have hi : i < vs.length := by
   unfold start at h2
   by_cases hi : i < vs.length
   ·exact hi
   ·rw [List.getElem?_append_right (by simpa using hi)] at h2
    rw [List.getElem?_replicate] at h2
    split at h2 <;> cases h2
  have ha : vs[i]? = some v := by
   unfold start at h2
   rw [List.getElem?_append_left (by simpa using hi), List.getElem?_map] at h2
   cases e : vs[i]? with
   | none => rw [e] at h2; cases h2
   | some a => rw [e] at h2; cases h2; rfl
  obtain ⟨u, hu, rv⟩ := r.get ha
  have hp : ps[i]? = some y := by
   rw [<- S.pre, List.getElem?_take_of_lt (by omega)]; exact h1
  have ndP : ps.Nodup := by rw [<- S.pre]; exact S.nd.sublist (List.take_sublist _ _)
  refine ⟨u, rv, ?_⟩
  rcases S.par y (List.mem_of_getElem? hp) with k | k
  ·exact .inl ⟨k, f8m ndP hp hu k⟩
  ·obtain ⟨c, e⟩ := g5z (n := s.heap.objs.size + 1) k
   refine .inr ⟨.inl k, c, e, ?_⟩
   have q := x.cell y c e
   rw [f8n ndP hp hu (by show scope.names.lookup y ≠ _; rw [k]; decide)] at q
   exact q
 ·exact e0.hok.fresh (Nat.le_of_lt (x.above y c (PySem.mem_of_lookup h)))
 ·unfold start
  show _ = N.length
  rw [List.length_append, List.length_map, List.length_replicate]
  omega
theorem j0k {CX : CXT} {P : Program} {w : World} {K : PySem.W.Frag} {mg : Str -> Option Value} {base : Heap} {k : Nat} {f : Addr} {name qual : Str} {params : Arguments} {body : List Stmt} {scope : Scope} {dV kV doc pm cdv ct oc : Value} {an od : Option Addr}
  {osl : Array (Option Value)} {N ps : List Str} {sp : Sp} (lk : K.lookup f = some ⟨oc, od, .func (PySem.W.fnOf name qual params body scope dV kV doc pm an cdv ct), osl⟩) (hcd : PySem.W.codeIn K cdv qual = true) (S : a0s N ps scope)
  (len : ∀ vs H Q E, sp vs H Q E -> vs.length = ps.length)
  (hbody : ∀ (A : Around) (outer : List Env) (s : Shared) (H : Hp) (vs : List V) (Q : VK) (E : XK), a2k k (A.deeper (envOfC qual scope s.heap.objs.size f cdv)) -> sp vs H Q E ->
   ∃ t, PSs (i0b CX P w K mg base N qual scope f cdv A outer s H E) body t /\ t { nx := fun _ H' => Q .non H', rt := Q } (start N vs) H) :
  a1k P w K mg base CX (k + 1) f (PySem.W.fnOf name qual params body scope dV kV doc pm an cdv ct) ps sp := by
 refine ⟨len, fun A outer s H args us vs Q E hr e0 hb r hsp => ?_⟩
 have hl := len _ _ _ _ hsp
 have KX : K.In s.heap := e0.mod.kin.keeps fun b o e => (e0.bs b o e).1
 have lim : s.heap.NoLimit := e0.mod.nolimit.keeps fun b o e => (e0.bs b o e).1
 have hkind : ∀ y ∈ ps.zip us, scope.names.lookup y.1 = some .local \/ (scope.names.lookup y.1 = some .cell /\ ((cellsFrom (s.heap.objs.size + 1) scope.names []).lookup y.1).isSome = true) := fun ⟨n, v⟩ hy => by
  rcases S.par n (List.of_mem_zip hy).1 with q | q
  ·exact .inl q
  ·exact .inr ⟨q, PySem.W.cellsFrom_some _ _ _ (.inl q)⟩
 refine codeAny_call_function hr.depth (KX _ _ lk) rfl S.co S.gen rfl (PySem.W.codeRec_of KX hcd) (hb _ _ _ _ ?_)
 refine wpAny_newFunctionEnv_cells S.kind hkind fun env he s1 x => ?_
 subst he
 refine ⟨lim.keeps x.toInCall.keep, codeAny_func ?_⟩
 obtain ⟨t, ht, hq⟩ := hbody A outer s H vs Q E (hr.deeper _) hsp
 have I : Inv (i0b CX P w K mg base N qual scope f cdv A outer s H E) [] (start N vs) H s1 := h0n S hr.hd e0 hl r x
 refine wpAny_mono (ht [] s1 (start N vs) H _ I hq) (fun fl s' hs => ?_) fun e s' hs => hs
 have fin : ∀ {σ' : St} {H' : Hp} {v : V} {u : Value}, Inv (i0b CX P w K mg base N qual scope f cdv A outer s H E) [] σ' H' s' -> RelV v u -> Q v H' -> CE outer P w H s Q u s' :=
  fun {σ' H' v u} J rv q => ⟨v, H', J.os, J.bare, J.base, J.hok, rv, q⟩
 cases fl with
 | ret u =>
  obtain ⟨v, σ', H', J, rv, q⟩ := hs
  exact fin J rv q
 | next =>
  obtain ⟨σ', H', J, q⟩ := hs
  exact fin (v := V.non) (u := Value.none) J rfl q
 | brk =>
  obtain ⟨_, _, _, q⟩ := hs
  exact False.elim q
 | cont =>
  obtain ⟨_, _, _, q⟩ := hs
  exact False.elim q
end L2
namespace L2
open PySem PySem.Spec PyProof.Rows
section
variable {X : Cx} {x : Str} {p pos : Pos} {e : Expr} {es : List Expr} {t : TA} {id T : String} {r : List V -> Hp -> VK -> Prop}
def tCB (r : List V -> Hp -> VK -> Prop) (t : TA) : TE := fun σ H Q => t σ H fun vs H1 => r vs H1 Q
theorem a1o (hc : b7w X (.builtin id) r) (hg : Gl X x) (hm : X.mg x = none) (hv : bootBuiltins x = some (.builtin id)) (ha : PA X (e :: es) t) (hn : x ≠ "__name__" := by decide) (hdb : (x == ("__debug__" : Str)) = false := by decide)
  (he : starEach (e :: es) X.env = (false, eval e X.env) :: starEach es X.env := by rfl) (hpl : (backTo pos (starEach es X.env)).any (·.1) = false := by rfl) : PE X (.Call (.Name x p) (e :: es) [] pos) (tCB r t) := by
 intro pins s σ H Q I h
 refine wpAny_Call_Name_kw (d7y I hg hm hv ?_ hn hdb)
 exact PyProof.Rows.callWith_builtin1 (thn (ha pos pins s σ H _ I h) fun us s1 ⟨vs, H1, I1, r1, q1⟩ => hc pins s1 σ H1 vs us Q I1 r1 q1) he hpl
theorem a4h (hc : b7w X (.type T) r) (hg : Gl X x) (hm : X.mg x = none) (hv : bootBuiltins x = some (.type T)) (ha : PA X (e :: es) t) (hn : x ≠ "__name__" := by decide) (hdb : (x == ("__debug__" : Str)) = false := by decide)
  (he : starEach (e :: es) X.env = (false, eval e X.env) :: starEach es X.env := by rfl) (hpl : (backTo pos (starEach es X.env)).any (·.1) = false := by rfl) : PE X (.Call (.Name x p) (e :: es) [] pos) (tCB r t) := by
 intro pins s σ H Q I h
 refine wpAny_Call_Name_kw (d7y I hg hm hv ?_ hn hdb)
 exact PyProof.Rows.callWith_type1 (thn (ha pos pins s σ H _ I h) fun us s1 ⟨vs, H1, I1, r1, q1⟩ => hc pins s1 σ H1 vs us Q I1 r1 q1) he hpl
end
end L2
namespace HT
open PySem PyProof.Rows
section
open PySem.SeqAt
open PySem.AutoSeq1 (wpAny_loadPart')
open PySem.MeetsSeq PySem.MeetsSeq2 PySem.MeetsSeq3
end
section
variable {prog : Program} {w : World} {A : Around} {E : Value -> Shared -> Prop} {s : Shared}
noncomputable def sIx (n d : Nat) : Option Int -> Nat
 | none => d
 | some v => if v < 0 then (v + (n : Int)).toNat else min v.toNat n
theorem g6a (n d : Nat) : sIx n d none = d := rfl
theorem d8k (n d k : Nat) : sIx n d (some (k : Int)) = min k n := by
 show (if (k : Int) < 0 then ((k : Int) + (n : Int)).toNat else min (k : Int).toNat n) = min k n
 rw [if_neg (by omega), Int.toNat_natCast]
theorem i5j (n d : Nat) (hd : d <= n) (o : Option Int) : sIx n d o <= n := by
 cases o with
 | none => exact hd
 | some v =>
  show (if v < 0 then (v + (n : Int)).toNat else min v.toNat n) <= n
  by_cases hv : v < 0
  ·rw [if_pos hv]; omega
  ·rw [if_neg hv]; exact Nat.min_le_right _ _
theorem h0o (v : Int) (n d : Nat) : (if v < 0 then max (v + (n : Int)) 0 else min v (n : Int)) = ((sIx n d (some v) : Nat) : Int) := by
 show (if v < 0 then max (v + (n : Int)) 0 else min v (n : Int)) = (((if v < 0 then (v + (n : Int)).toNat else min v.toNat n) : Nat) : Int)
 by_cases hv : v < 0
 ·simp only [if_pos hv]; omega
 ·simp only [if_neg hv]; omega
theorem g7m (lo hi : Option Int) (n : Nat) : Builtin.Slice.sliceAdjust lo hi 1 (n : Int) = (((sIx n 0 lo : Nat) : Int), ((sIx n n hi : Nat) : Int)) := by
 have h1 : ¬ ((1 : Int) < 0) := by omega
 unfold Builtin.Slice.sliceAdjust
 simp only [h1, if_false]
 refine Prod.ext ?_ ?_
 ·cases lo with
  | none => rfl
  | some v => exact h0o v n 0
 ·cases hi with
  | none => rfl
  | some v => exact h0o v n n
theorem g7n (i j : Nat) : Builtin.Slice.slicePlaces (i : Int) (j : Int) 1 = j - i := by
 unfold Builtin.Slice.slicePlaces
 have h1 : (1 : Int) > 0 := by omega
 simp only [h1, if_true, Int.ediv_one]
 split <;> omega
theorem f3i {v : Value} {o : Option Int} {Q : Option Int -> Shared -> Prop} (p : IsPart v o) (h : Q o s) : wpAny (model prog w) A (Builtin.Slice.slicePartIndex v) Q E s := by
 cases p with
 | none => exact slicePart_none h
 | int i t => exact slicePart_int h
theorem d7h {sl : Addr} {vl vu : Value} {lo hi : Option Int} {n : Nat} {Q : Int × Int × Nat -> Shared -> Prop} (hs : s.heap.IsSliceOf sl vl vu .none) (pl : IsPart vl lo) (pu : IsPart vu hi)
  (h : Q (((sIx n 0 lo : Nat) : Int), 1, sIx n n hi - sIx n 0 lo) s) : wpAny (model prog w) A (Builtin.Slice.sliceApplied (.ref sl) (pure (n : Int))) Q E s := by
 obtain ⟨os, hos, hcs, hds⟩ := id hs
 unfold Builtin.Slice.sliceApplied Builtin.Slice.sliceFields
 refine wpAny_bind (wpAny_bind (wpAny_field hos hds (x := vl) rfl (wpAny_bind (wpAny_field hos hds (x := vu) rfl (wpAny_bind (wpAny_field hos hds (x := .none) rfl (wpAny_pure ?_)))))))
 refine wpAny_bind (slicePart_none ?_)
 show wpAny _ _ (if ((1 : Int) == 0) = true then _ else _) _ _ s
 rw [if_neg (by decide)]
 refine wpAny_bind (f3i pl (wpAny_bind (f3i pu (wpAny_bind (wpAny_pure ?_)))))
 show wpAny _ _ (match Builtin.Slice.sliceAdjust lo hi 1 (n : Int) with | (lo, hi) => pure (lo, (1 : Int), Builtin.Slice.slicePlaces lo hi 1)) _ _ s
 rw [g7m lo hi n]
 show wpAny _ _ (pure (((sIx n 0 lo : Nat) : Int), (1 : Int), Builtin.Slice.slicePlaces ((sIx n 0 lo : Nat) : Int) ((sIx n n hi : Nat) : Int) 1)) _ _ s
 rw [g7n]
 exact wpAny_pure h
theorem h5k (xs : Array Value) (i k : Nat) : ((List.range k).filterMap fun (m : Nat) => xs[((i : Int) + (m : Int) * 1).toNat]?).toArray = ((xs.toList.drop i).take k).toArray := by
 have e : (fun (m : Nat) => xs[((i : Int) + (m : Int) * 1).toNat]?) = fun m => xs[i + m]? := by
  funext m
  have : ((i : Int) + (m : Int) * 1).toNat = i + m := by omega
  rw [this]
 rw [e]
 have := pick_run xs i k
 rw [List.filterMap_map] at this
 have e2 : ((fun x => xs[x]?) ∘ fun x => i + x) = fun m => xs[i + m]? := rfl
 rw [e2] at this
 rw [this]
theorem d3m {t sl : Addr} {items : Array Value} {vl vu : Value} {lo hi : Option Int} {Q : Value -> Shared -> Prop} (ht : IsTup s.heap t items) (hs : s.heap.IsSliceOf sl vl vu .none) (pl : IsPart vl lo) (pu : IsPart vu hi)
  (hw : ¬ (sIx items.size 0 lo = 0 /\ sIx items.size items.size hi = items.size))
  (h : Q (.ref s.heap.objs.size) { s with heap := s.heap.push { cls := .type "tuple", data := .seq ((items.toList.drop (sIx items.size 0 lo)).take (sIx items.size items.size hi - sIx items.size 0 lo)).toArray } })
  (hsz : items.size <= sizeLine) : wpAny (model prog w) A (getItem (.ref t) (.ref sl)) Q E s := by
 have h5l : sizeOk (.seq ((items.toList.drop (sIx items.size 0 lo)).take (sIx items.size items.size hi - sIx items.size 0 lo)).toArray) := by
  show ((items.toList.drop (sIx items.size 0 lo)).take (sIx items.size items.size hi - sIx items.size 0 lo)).toArray.size <= sizeLine
  rw [List.size_toArray, List.length_take, List.length_drop, Array.length_toList]
  omega
 have hj : sIx items.size items.size hi <= items.size := i5j _ _ (Nat.le_refl _) hi
 obtain ⟨os, hos, hcs, hds⟩ := id hs
 have hTs : s.TypeIs (.ref sl) "slice" := ⟨os, hos, hcs⟩
 unfold getItem
 try with_reducible refine wpAny_holding ?_
 first | refine wpAny_bind (wpAny_pure ?_) | skip
 refine wpAny_bind (wpAny_sequenceKey ht.typeIs (by decide) ?_)
 refine wpAny_bind (wpAny_callSpecial?_slot (name := Str.ofString "__getitem__") ht.typeIs PyProof.Rows.slot_tuple_getitem
  (wpAny_call_entry PyProof.Rows.slot_tuple_getitem ht.typeIs entry_tuple_getitem ?_ (args_tuple_getitem _ _)))
 show wpAny _ _ (Builtin.Tuple.tupleItemsOf (.ref t) >>= _) _ _ s
 refine wpAny_bind (tupleItemsOf_ ht ?_)
 refine wpAny_bind (wpAny_typeOf hTs ?_)
 rw [if_pos (by decide)]
 refine wpAny_bind (d7h hs pl pu ?_)
 have hno : ¬ ((((sIx items.size 0 lo : Nat) : Int) == 0 && (1 : Int) == 1 && (sIx items.size items.size hi - sIx items.size 0 lo) == items.size) = true) := by
  intro q
  rw [Bool.and_eq_true, Bool.and_eq_true] at q
  have q1 : ((sIx items.size 0 lo : Nat) : Int) = 0 := eq_of_beq q.1.1
  have q2 : sIx items.size items.size hi - sIx items.size 0 lo = items.size := eq_of_beq q.2
  exact hw ⟨by omega, by omega⟩
 show wpAny _ _ (if (((sIx items.size 0 lo : Nat) : Int) == 0 && (1 : Int) == 1 && (sIx items.size items.size hi - sIx items.size 0 lo) == items.size) = true then _ else _) _ _ s
 rw [if_neg hno, h5k]
 first
  | exact wpAny_bind (m := Builtin.Tuple.tupleExact _) (wpAny_newObj_type (wpAny_pure ⟨_, rfl, wpAny_pure h⟩) h5l)
  | exact wpAny_bind (m := Builtin.Tuple.tupleExact _) (wpAny_newObj_type (wpAny_bind (wpAny_pure (wpAny_pure ⟨_, rfl, wpAny_pure h⟩))) h5l)
  | exact wpAny_bind (wpAny_bind (m := Builtin.Tuple.tupleExact _) (wpAny_newObj_type (wpAny_pure (wpAny_pure ⟨_, rfl, wpAny_pure h⟩)) h5l))
  | exact wpAny_bind (wpAny_bind (m := Builtin.Tuple.tupleExact _) (wpAny_newObj_type (wpAny_pure ⟨_, rfl, wpAny_pure h⟩) h5l))
end
end HT
namespace L2
open PySem PySem.Spec PyProof.Rows
noncomputable abbrev TO := St -> Hp -> (Option Int -> Hp -> Prop) -> Prop
def PO (X : Cx) (e : Option Expr) (t : TO) : Prop :=
 ∀ (pins : List (Addr × Obj)) (s : Shared) (σ : St) (H : Hp) (Q : Option Int -> Hp -> Prop), Inv X pins σ H s -> t σ H Q ->
  wpAny (model X.prog X.w) X.A (evalPart e X.env) (fun u s' => ∃ o H', Inv X pins σ H' s' /\ IsPart u o /\ Q o H') X.xe s
noncomputable def i0c : TO := fun _ H Q => Q none H
def i5k (t : TE) : TO := fun σ H Q => t σ H fun x H1 => ∃ i, x = .int i /\ Q (some i) H1
section
variable {X : Cx} {e : Expr} {te : TE} {lo hi : Option Expr} {tl th : TO} {pos p2 : Pos}
theorem a9y : PO X none i0c := by
 intro pins s σ H Q I h
 rw [evalPart_none]
 exact wpAny_pure ⟨none, H, I, .none, h⟩
theorem i0d (h : PE X e te) : PO X (some e) (i5k te) := by
 intro pins s σ H Q I hw
 rw [evalPart_some]
 refine thn (h pins s σ H _ I hw) fun u s1 ⟨x, H1, I1, r1, q1⟩ => ?_
 obtain ⟨i, rfl, q⟩ := q1
 obtain ⟨t, rfl⟩ := r1
 exact ⟨some i, H1, I1, .int i t, q⟩
def SlR (X : Cx) (r : V -> Option Int -> Option Int -> Hp -> VK -> Prop) : Prop :=
 ∀ (pins : List (Addr × Obj)) (s : Shared) (σ : St) (H : Hp) (x : V) (v vl vu : Value) (lo hi : Option Int) (sl : Addr) (Q : VK), Inv X pins σ H s -> RelV x v -> s.heap.IsSliceOf sl vl vu .none -> IsPart vl lo -> IsPart vu hi -> r x lo hi H Q ->
  ∃ T id, typeLookup (.type T) "__getitem__" = pure (some (.builtin id)) ∧ s.TypeIs v T ∧ wpAny (model X.prog X.w) X.A (getItem v (.ref sl)) (EP X pins σ Q) X.xe s
def tSl (r : V -> Option Int -> Option Int -> Hp -> VK -> Prop) (te : TE) (tl th : TO) : TE := fun σ H Q => te σ H fun x H1 => tl σ H1 fun l H2 => th σ H2 fun u H3 => r x l u H3 Q
theorem a5j {r : V -> Option Int -> Option Int -> Hp -> VK -> Prop} (hr : SlR X r) (he : PE X e te) (hl : PO X lo tl) (hu : PO X hi th) : PE X (.Subscript e (.Slice lo hi none p2) pos) (tSl r te tl th) := by
 intro pins s σ H Q I h
 refine Subscript_ (thn (he pins s σ H _ I h) fun v s1 ⟨x, H1, I1, r1, q1⟩ => ?_)
 refine wpAny_Slice (thn (hl pins s1 σ H1 _ I1 q1) fun vl s2 ⟨l, H2, I2, pl, q2⟩ => thn (hu pins s2 σ H2 _ I2 q2) fun vu s3 ⟨u, H3, I3, pu, q3⟩ => ?_)
 rw [evalPart_none]
 refine wpAny_pure ?_
 have I4 : Inv X pins σ H3 { s3 with heap := s3.heap.push { cls := .type "slice", data := .fields #[vl, vu, .none] } } := I3.kept (t' := s3.toks) fun b ob q => Heap.get?_push_of_some _ q
 obtain ⟨T, id, hT, ht, hg⟩ := hr pins { s3 with heap := s3.heap.push { cls := .type "slice", data := .fields #[vl, vu, .none] } } σ H3 x v vl vu l u s3.heap.objs.size Q I4 r1 (Heap.IsSliceOf.new ..) pl pu q3
 show wpAny (model X.prog X.w) X.A (subscriptTail e (.Slice lo hi none p2) v (.ref s3.heap.objs.size)) (EP X pins σ Q) X.xe { s3 with heap := s3.heap.push { cls := .type "slice", data := .fields #[vl, vu, .none] } }
 exact tail_any (ops := [.ref s3.heap.objs.size, v]) ht hT hg (by with_unfolding_all rfl)
noncomputable def d3k (xs : List V) (lo hi : Option Int) : List V := (xs.drop (HT.sIx xs.length 0 lo)).take (HT.sIx xs.length xs.length hi - HT.sIx xs.length 0 lo)
theorem d8l (xs : List V) (lo hi : Option Int) : (d3k xs lo hi).length <= xs.length := by
 unfold d3k
 rw [List.length_take, List.length_drop]
 omega
noncomputable def rSlT (K : PySem.W.Frag) : V -> Option Int -> Option Int -> Hp -> VK -> Prop := fun x lo hi H Q => ∃ a xs, x = .ref a /\ SqT K H a xs /\
 ¬ (HT.sIx xs.length 0 lo = 0 /\ HT.sIx xs.length xs.length hi = xs.length) /\ ∀ p, H p = none -> Q (.ref p) (upd H p (.tup (d3k xs lo hi)))
theorem i5l : SlR X (rSlT X.K) := by
 intro pins s σ H x v vl vu lo hi sl Q I rx hs pl pu h
 obtain ⟨a, xs, rfl, hx, hw, q⟩ := h
 cases rx
 obtain ⟨its, r, ht, hz⟩ := I.tuple hx
 have hlen : its.toArray.size = xs.length := by rw [List.size_toArray]; exact r.length.symm
 refine ⟨"tuple", _, PyProof.Rows.slot_tuple_getitem.lookup, ht.typeIs, ?_⟩
 refine HT.d3m ht hs pl pu (by rw [hlen]; exact hw) ?_ (by rw [hlen]; exact hz)
 rw [hlen]
 refine ⟨.ref s.heap.objs.size, _, I.laid (t' := s.toks) (o := .tup (d3k xs lo hi)) (fun b ob q => Heap.get?_push_of_some _ q) (Nat.le_refl _) ?_, rfl, q _ (I.hok.fresh (Nat.le_refl _))⟩
 exact ⟨Nat.le_trans (d8l xs lo hi) hz, _, (r.drop (HT.sIx xs.length 0 lo)).take (HT.sIx xs.length xs.length hi - HT.sIx xs.length 0 lo), IsTup.new _ _⟩
end
end L2
namespace L2
open PySem PySem.Spec PyProof.Rows
noncomputable def ixN (n : Nat) (i : Int) : Option Nat := if 0 <= i then (if i < n then some i.toNat else none) else if -(n : Int) <= i then some (i + n).toNat else none
noncomputable def atI {α : Type} (xs : List α) (i : Int) : Option α := (ixN xs.length i).bind fun j => xs[j]?
theorem i0e {n : Nat} {i : Int} {j : Nat} (h : ixN n i = some j) : seqIndex? i n = some j /\ j < n /\ -(n : Int) <= i /\ i < n := by
 unfold ixN at h
 by_cases h0 : 0 <= i
 ·rw [if_pos h0] at h
  by_cases h1 : i < n
  ·rw [if_pos h1] at h
   have e : i.toNat = j := Option.some.inj h
   exact ⟨by rw [seqIndex_of h0 h1, e], by omega, by omega, h1⟩
  ·rw [if_neg h1] at h; cases h
 ·rw [if_neg h0] at h
  by_cases h1 : -(n : Int) <= i
  ·rw [if_pos h1] at h
   have e : (i + n).toNat = j := Option.some.inj h
   exact ⟨by rw [seqIndex_neg (by omega) h1, e], by omega, h1, by omega⟩
  ·rw [if_neg h1] at h; cases h
theorem g1v {α : Type} {xs : List α} {i : Int} {v : α} (h : atI xs i = some v) : ∃ j, seqIndex? i xs.length = some j /\ xs[j]? = some v /\ j < xs.length /\ -(xs.length : Int) <= i /\ i < xs.length := by
 unfold atI at h
 cases e : ixN xs.length i with
 | none => rw [e] at h; cases h
 | some j =>
  rw [e] at h
  obtain ⟨h1, h2, h3, h4⟩ := i0e e
  exact ⟨j, h1, h, h2, h3, h4⟩
theorem b9r {α : Type} {xs : List α} {j : Nat} {v : α} (h : xs[j]? = some v) : atI xs (j : Int) = some v := by
 have hj : j < xs.length := (List.getElem?_eq_some_iff.mp h).1
 have e : ixN xs.length (j : Int) = some j := by
  unfold ixN
  rw [if_pos (by omega), if_pos (by omega)]; simp
 unfold atI; rw [e]; exact h
def i0f (b : Expr) : Prop := ∀ o i, subscripted b false o i = operate [o, i] (getItem o i)
def IxR (X : Cx) (r : R2) : Prop :=
 ∀ (value slice : Expr) (pins : List (Addr × Obj)) (s : Shared) (σ : St) (H : Hp) (x y : V) (v u : Value) (Q : VK), Inv X pins σ H s -> RelV x v -> RelV y u -> r x y H Q ->
  subscripted slice false v u = operate [v, u] (getItem v u) -> wpAny (model X.prog X.w) X.A (subscriptTail value slice v u) (EP X pins σ Q) X.xe s
def MtR (X : Cx) (id : String) (r : V -> List V -> Hp -> VK -> Prop) : Prop :=
 ∀ (pins : List (Addr × Obj)) (s : Shared) (σ : St) (H : Hp) (x : V) (xs : List V) (v : Value) (us : List Value) (Q : VK), Inv X pins σ H s -> RelV x v -> Vals xs us -> r x xs H Q ->
  wpAny (model X.prog X.w) X.A (call (.builtin id) (v :: us)) (EP X pins σ Q) X.xe s
section
variable {X : Cx} {a b : Expr} {ta tb : TE} {pos : Pos}
theorem a1h {r : R2} (hr : IxR X r) (ha : PE X a ta) (hb : PE X b tb) (hs : i0f b) : PE X (.Subscript a b pos) (tOp r ta tb) := by
 intro pins s σ H Q I h
 exact Subscript_ (j0d ha hb I h fun v u s2 x y H2 I2 rx ry q => hr a b pins s2 σ H2 x y v u Q I2 rx ry q (hs _ _))
def rIxL (K : PySem.W.Frag) : R2 := fun x y H Q => ∃ p xs i v, x = .ref p /\ y = .int i /\ SqL K H p xs /\ atI xs i = some v /\ Q v H
def rIxT (K : PySem.W.Frag) : R2 := fun x y H Q => ∃ p xs i v, x = .ref p /\ y = .int i /\ SqT K H p xs /\ atI xs i = some v /\ Q v H
def rIxS : R2 := fun x y H Q => ∃ z i c, x = .str z /\ y = .int i /\ z.length <= sizeLine /\ atI z.cps.toList i = some c /\ Q (.str ⟨#[c]⟩) H
theorem h0p : IxR X (rIxL X.K) := by
 intro value slice pins s σ H x y v u Q I rx ry h hs
 obtain ⟨p, xs, i, z, rfl, rfl, hq, he, q⟩ := h
 cases rx
 obtain ⟨t, rfl⟩ := ry
 obtain ⟨its, r, pl, hz⟩ := I.list hq
 obtain ⟨j, h1, h2, h3, h4, h5⟩ := g1v he
 obtain ⟨w, ew, rw'⟩ := r.get h2
 have hl := r.length
 have hn := f8h
 have fin : EP X pins σ Q w s := ⟨z, H, I, rw', q⟩
 by_cases h0 : 0 <= i
 ·have hj : i.toNat = j := by
   rw [seqIndex_of h0 h5] at h1
   exact Option.some.inj h1
  exact item_listR pl.isList h0 (by omega) (by rw [hj]; simpa using ew) fin hs
 ·have hj : (i + (its.toArray.size : Int)).toNat = j := by
   rw [seqIndex_neg (by omega) h4] at h1
   rw [List.size_toArray, <- hl]
   exact Option.some.inj h1
  exact subscriptTail_builtinR (x := w) pl.isList.typeIs slot_list_getitem.lookup
   (wpAny_getItem_list_neg (Q := fun r s' => r = w /\ EP X pins σ Q r s') pl.isList (by omega) (by rw [List.size_toArray] <;> omega) (by omega) (by rw [hj]; simpa using ew) ⟨rfl, fin⟩) hs
theorem i5m : IxR X (rIxT X.K) := by
 intro value slice pins s σ H x y v u Q I rx ry h hs
 obtain ⟨p, xs, i, z, rfl, rfl, hq, he, q⟩ := h
 cases rx
 obtain ⟨t, rfl⟩ := ry
 obtain ⟨its, r, pl, hz⟩ := I.tuple hq
 obtain ⟨j, h1, h2, h3, h4, h5⟩ := g1v he
 obtain ⟨w, ew, rw'⟩ := r.get h2
 have hl := r.length
 have hn := f8h
 have fin : EP X pins σ Q w s := ⟨z, H, I, rw', q⟩
 exact subscriptTail_builtinR (x := w) pl.typeIs slot_tuple_getitem.lookup
  (getItem_tuple (j := j) (Q := fun r s' => r = w /\ EP X pins σ Q r s') pl (by omega) (by omega) (by rw [List.size_toArray, <- hl]; exact h1) (by simpa using ew) ⟨rfl, fin⟩) hs
theorem i5n : IxR X rIxS := by
 intro value slice pins s σ H x y v u Q I rx ry h hs
 obtain ⟨z, i, c, rfl, rfl, hz, he, q⟩ := h
 obtain ⟨t, rfl⟩ := rx
 obtain ⟨t', rfl⟩ := ry
 obtain ⟨j, h1, h2, h3, h4, h5⟩ := g1v he
 have hl : z.cps.toList.length = z.length := by simp [Str.length]
 rw [hl] at h1 h4 h5
 have hn := f8h
 exact tail_any (typeIs_str s z t) slot_str_getitem.lookup (getItem_str (c := c) (by
  have e1 : decide (i < -(2 ^ 63 : Int)) = false := decide_eq_false (by omega)
  have e2 : decide (i ≥ 2 ^ 63) = false := decide_eq_false (by omega)
  rw [e1, e2, Bool.or_false]) (by rw [h1]; simpa using h2) ⟨.str ⟨#[c]⟩, H, I.tok _, ⟨_, rfl⟩, q⟩) hs
theorem Inv.lst {pins : List (Addr × Obj)} {σ : St} {H : Hp} {s : Shared} {p : Addr} {xs : List V} (I : Inv X pins σ H s) (h : H p = some (.lst xs)) :
  ∃ (its : List Value) (n : Nat), Vals xs its ∧ s.heap.get? p = some { cls := .type "list", data := .seq its.toArray n } ∧ xs.length ≤ sizeLine := by
 obtain ⟨z, its, n, r, e⟩ := I.hok p _ h
 exact ⟨its, n, r, e, z⟩
theorem f8o (lo hi : Option Int) (n : Nat) : (sliceBounds lo hi none n).1 = ((HT.sIx n 0 lo : Nat) : Int) /\ (sliceBounds lo hi none n).2.1 = ((HT.sIx n n hi : Nat) : Int) /\ (sliceBounds lo hi none n).2.2 = 1 := by
 refine ⟨?_, ?_, rfl⟩
 ·cases lo with
  | none => simp [sliceBounds, HT.sIx]
  | some i =>
   simp only [sliceBounds, HT.sIx, Option.getD_none, show (1 : Int) > 0 by decide, if_true]
   by_cases h : i < 0
   ·simp only [h, if_true] <;> omega
   ·simp only [h, if_false] <;> omega
 ·cases hi with
  | none => simp [sliceBounds, HT.sIx]
  | some i =>
   simp only [sliceBounds, HT.sIx, Option.getD_none, show (1 : Int) > 0 by decide, if_true]
   by_cases h : i < 0
   ·simp only [h, if_true] <;> omega
   ·simp only [h, if_false] <;> omega
theorem f4w (its : List Value) (lo hi : Option Int) : slicePick its.toArray lo hi none = ((its.drop (HT.sIx its.length 0 lo)).take (HT.sIx its.length its.length hi - HT.sIx its.length 0 lo)).toArray := by
 obtain ⟨h1, h2, h3⟩ := f8o lo hi its.toArray.size
 unfold slicePick
 rw [h1, h2, h3]
 simp only [sliceRange_one, pick_run, List.size_toArray] <;> rfl
noncomputable def rSlL (K : PySem.W.Frag) : V -> Option Int -> Option Int -> Hp -> VK -> Prop := fun x lo hi H Q => ∃ a xs, x = .ref a /\ SqL K H a xs /\ ∀ p, H p = none -> Q (.ref p) (upd H p (.lst (d3k xs lo hi)))
theorem g1w : SlR X (rSlL X.K) := by
 intro pins s σ H x v vl vu lo hi sl Q I rx hs pl pu h
 obtain ⟨a, xs, rfl, hx, q⟩ := h
 cases rx
 obtain ⟨its, r, ht, hz⟩ := I.list hx
 have hlen := r.length
 refine ⟨"list", _, slot_list_getitem.lookup, ht.isList.typeIs, ?_⟩
 refine wpAny_getItem_list_slice ht.isList hs pl pu .none (by simp) ?_ (by rw [List.size_toArray] <;> omega)
 rw [f4w, <- hlen]
 refine ⟨.ref s.heap.objs.size, _, I.laid (t' := s.toks) (o := .lst (d3k xs lo hi)) (fun b ob q => Heap.get?_push_of_some _ q) (Nat.le_refl _) ?_, rfl, q _ (I.hok.fresh (Nat.le_refl _))⟩
 exact ⟨Nat.le_trans (d8l xs lo hi) hz, _, 0, (r.drop (HT.sIx xs.length 0 lo)).take (HT.sIx xs.length xs.length hi - HT.sIx xs.length 0 lo), Heap.get?_push_size _ rfl⟩
noncomputable def c1h : V -> Bool
 | .non => true
 | .bl _ => true
 | .int _ => true
 | .str _ => true
 | _ => false
noncomputable def eqV : V -> V -> Bool
 | .non, .non => true
 | .bl a, .bl b => a == b
 | .bl a, .int b => (if a then 1 else 0) == b
 | .int a, .bl b => a == (if b then 1 else 0)
 | .int a, .int b => a == b
 | .str a, .str b => a == b
 | _, _ => false
theorem i5o {A : Around} {s : Shared} {y x : V} {u v : Value} (ry : RelV y u) (rx : RelV x v) (fy : c1h y = true) (fx : c1h x = true) : SeqAt.EqAt A s u v (eqV y x) := by
 cases y with
 | non =>
  cases ry
  cases x with
  | non => cases rx; exact SeqAt.EqAt.same _
  | bl b => cases rx; exact SeqAt.EqAt.none_bool b
  | int b => obtain ⟨t, rfl⟩ := rx; exact SeqAt.EqAt.none_int b t
  | str b => obtain ⟨t, rfl⟩ := rx; exact SeqAt.EqAt.none_str b t
  | _ => exact absurd (show false = true from fx) Bool.false_ne_true
 | bl a =>
  cases ry
  cases x with
  | non => cases rx; exact SeqAt.EqAt.bool_none a
  | bl b => cases rx; exact SeqAt.EqAt.bool_bool a b
  | int b => obtain ⟨t, rfl⟩ := rx; exact SeqAt.EqAt.bool_int a b t
  | str b => obtain ⟨t, rfl⟩ := rx; exact SeqAt.EqAt.bool_str a b t
  | _ => exact absurd (show false = true from fx) Bool.false_ne_true
 | int a =>
  obtain ⟨t', rfl⟩ := ry
  cases x with
  | non => cases rx; exact SeqAt.EqAt.int_none a t'
  | bl b => cases rx; exact SeqAt.EqAt.int_bool a t' b
  | int b => obtain ⟨t, rfl⟩ := rx; exact SeqAt.EqAt.int_int a t' b t
  | str b => obtain ⟨t, rfl⟩ := rx; exact SeqAt.EqAt.int_str a t' b t
  | _ => exact absurd (show false = true from fx) Bool.false_ne_true
 | str a =>
  obtain ⟨t', rfl⟩ := ry
  cases x with
  | non => cases rx; exact SeqAt.EqAt.str_none a t'
  | bl b => cases rx; exact SeqAt.EqAt.str_bool a t' b
  | int b => obtain ⟨t, rfl⟩ := rx; exact SeqAt.EqAt.str_int a t' b t
  | str b => obtain ⟨t, rfl⟩ := rx; exact SeqAt.EqAt.str_str a t' b t
  | _ => exact absurd (show false = true from fx) Bool.false_ne_true
 | _ => exact absurd (show false = true from fy) Bool.false_ne_true
noncomputable def eqU (x : V) (u : Value) : Bool := match u with
 | .none => eqV .non x
 | .bool b => eqV (.bl b) x
 | .int i _ => eqV (.int i) x
 | .str z _ => eqV (.str z) x
 | _ => false
theorem h8c {x y : V} {u : Value} (r : RelV y u) (f : c1h y = true) : eqU x u = eqV y x := by
 cases y with
 | non => cases r; rfl
 | bl b => cases r; rfl
 | int i => obtain ⟨t, rfl⟩ := r; rfl
 | str z => obtain ⟨t, rfl⟩ := r; rfl
 | _ => exact absurd (show false = true from f) Bool.false_ne_true
theorem d8m {x : V} : ∀ {xs : List V} {us : List Value}, Vals xs us -> xs.all c1h = true -> us.any (eqU x) = xs.any fun y => eqV y x
 | _, _, .nil, _ => rfl
 | y :: xs, u :: us, .cons r t, f => by
  rw [List.all_cons, Bool.and_eq_true] at f
  rw [List.any_cons, List.any_cons, h8c r f.1, d8m t f.2]
theorem d1m {A : Around} {s : Shared} {x : V} {v : Value} (rx : RelV x v) (fx : c1h x = true) : ∀ {xs : List V} {us : List Value}, Vals xs us -> xs.all c1h = true -> ∀ u ∈ us, SeqAt.EqAt A s u v (eqU x u)
 | _, _, .nil, _ => fun u hu => by cases hu
 | y :: xs, u :: us, .cons r t, f => fun u' hu => by
  rw [List.all_cons, Bool.and_eq_true] at f
  rcases List.mem_cons.mp hu with rfl | hu
  ·rw [h8c r f.1]; exact i5o r rx f.1 fx
  ·exact d1m rx fx t f.2 u' hu
noncomputable def inV (x : V) (xs : List V) : Bool := xs.any fun y => eqV y x
def rIn (K : PySem.W.Frag) (neg : Bool) : R2 := fun x y H Q => ∃ p xs, y = .ref p /\ (SqL K H p xs \/ SqT K H p xs) /\ c1h x = true /\ xs.all c1h = true /\ Q (.bl (if neg then !inV x xs else inV x xs)) H
theorem f8p : OpR X (compareOp .In) (rIn X.K false) := by
 intro pins s σ H x y v u Q I rx ry h
 obtain ⟨p, xs, rfl, hq, fx, fs, q⟩ := h
 cases ry
 rcases hq with hq | hq
 ·obtain ⟨its, r, pl, hz⟩ := I.list hq
  refine SeqAt.in_listAt (eqU x) pl.isList (fun w hw => d1m rx fx r fs w (by simpa using hw)) ⟨.bl _, H, I, rfl, ?_⟩
  rw [show its.toArray.any (eqU x) = its.any (eqU x) by simp, d8m r fs]
  exact q
 ·obtain ⟨its, r, pl, hz⟩ := I.tuple hq
  refine SeqAt.in_tupleAt (eqU x) pl (fun w hw => d1m rx fx r fs w (by simpa using hw)) ⟨.bl _, H, I, rfl, ?_⟩
  rw [show its.toArray.any (eqU x) = its.any (eqU x) by simp, d8m r fs]
  exact q
theorem d5u : OpR X (compareOp .NotIn) (rIn X.K true) := by
 intro pins s σ H x y v u Q I rx ry h
 obtain ⟨p, xs, rfl, hq, fx, fs, q⟩ := h
 cases ry
 rcases hq with hq | hq
 ·obtain ⟨its, r, pl, hz⟩ := I.list hq
  refine SeqAt.notIn_listAt (eqU x) pl.isList (fun w hw => d1m rx fx r fs w (by simpa using hw)) ⟨.bl _, H, I, rfl, ?_⟩
  rw [show its.toArray.any (eqU x) = its.any (eqU x) by simp, d8m r fs]
  exact q
 ·obtain ⟨its, r, pl, hz⟩ := I.tuple hq
  refine SeqAt.notIn_tupleAt (eqU x) pl (fun w hw => d1m rx fx r fs w (by simpa using hw)) ⟨.bl _, H, I, rfl, ?_⟩
  rw [show its.toArray.any (eqU x) = its.any (eqU x) by simp, d8m r fs]
  exact q
theorem f8q : OpR X (compareOp .NotIn) (fun x y H Q => ∃ i j, x = .str i /\ y = .str j /\ Q (.bl (!(!(Builtin.Str.occurrences j i 0 j.length 1).isEmpty))) H) := by
 intro pins s σ H x y v u Q I rx ry h
 obtain ⟨i, j, rfl, rfl, q⟩ := h
 obtain ⟨t, rfl⟩ := rx
 obtain ⟨t', rfl⟩ := ry
 exact notIn_str ⟨.bl _, H, I, rfl, q⟩
theorem c6s : b7w X (.builtin "len") (fun xs H Q => ∃ p ys, xs = [.ref p] ∧ (SqL X.K H p ys ∨ SqT X.K H p ys) ∧ Q (.int ys.length) H) := by
 intro pins s σ H xs us Q I r h
 obtain ⟨p, ys, rfl, hq, q⟩ := h
 obtain ⟨u, rfl, rx⟩ := vals1 r
 cases rx
 have hn := f8h
 rcases hq with hq | hq
 ·obtain ⟨its, r', pl, hz⟩ := I.list hq
  have hlen := r'.length
  exact Calls.call_len_list pl.isList (by simp only [List.size_toArray] <;> omega) ⟨.int ys.length, H, I.tok _, ⟨s.toks + 1, by rw [List.size_toArray, hlen]⟩, q⟩
 ·obtain ⟨its, r', pl, hz⟩ := I.tuple hq
  have hlen := r'.length
  exact len_tuple pl (by simp only [List.size_toArray] <;> omega) ⟨.int ys.length, H, I.tok _, ⟨s.toks + 1, by rw [List.size_toArray, hlen]⟩, q⟩
theorem f8r : b7w X (.builtin "len") (fun xs H Q => ∃ z, xs = [.str z] ∧ z.length ≤ sizeLine ∧ Q (.int z.length) H) := by
 intro pins s σ H xs us Q I r h
 obtain ⟨z, rfl, hz, q⟩ := h
 obtain ⟨u, rfl, t, rfl⟩ := vals1 r
 have hn := f8h
 exact len_str (by omega) ⟨.int z.length, H, I.tok _, ⟨_, rfl⟩, q⟩
theorem f8s : b7w X (.type "list") (fun xs H Q => ∃ p ys, xs = [.ref p] ∧ (SqL X.K H p ys ∨ SqT X.K H p ys) ∧ ∀ l, H l = none → Q (.ref l) (upd H l (.lst ys))) := by
 intro pins s σ H xs us Q I r h
 obtain ⟨p, ys, rfl, hq, q⟩ := h
 obtain ⟨u, rfl, rx⟩ := vals1 r
 cases rx
 have fin : ∀ (its : List Value), Vals ys its -> ys.length <= sizeLine -> ∀ (h' : Heap) (c' : Nat), (∀ b o', s.heap.get? b = some o' -> h'.get? b = some o') ->
   h'.get? s.heap.objs.size = some { cls := .type "list", dict := none, data := .seq its.toArray c', slots := #[] } → EP X pins σ Q (.ref s.heap.objs.size) { s with heap := h' } := fun its r' hz h' c' kp e =>
  ⟨.ref s.heap.objs.size, _, I.laid (t' := s.toks) kp (Nat.le_refl _) (show b4l X.prog X.w _ h' _ (.lst ys) from ⟨hz, its, c', r', e⟩), rfl, q _ (I.hok.fresh (Nat.le_refl _))⟩
 rcases hq with hq | hq
 ·obtain ⟨its, r', pl, hz⟩ := I.list hq
  have hlen := r'.length
  obtain ⟨o, ho, hc, n, hd⟩ := pl.isList
  exact call_list_seq p (.inl rfl) ho hc hd (fun h' c' kp e => fin its r' hz h' c' kp e) (by simp only [List.size_toArray] <;> omega)
 ·obtain ⟨its, r', pl, hz⟩ := I.tuple hq
  have hlen := r'.length
  obtain ⟨o, ho, hc, n, hd⟩ := pl
  exact call_list_seq p (.inr rfl) ho hc hd (fun h' c' kp e => fin its r' hz h' c' kp e) (by simp only [List.size_toArray] <;> omega)
theorem f4y : b7w X (.type "tuple") (fun xs H Q => ∃ p ys, xs = [.ref p] ∧ ((SqL X.K H p ys ∧ ∀ l, H l = none → Q (.ref l) (upd H l (.tup ys))) ∨ (SqT X.K H p ys ∧ Q (.ref p) H))) := by
 intro pins s σ H xs us Q I r h
 obtain ⟨p, ys, rfl, h⟩ := h
 obtain ⟨u, rfl, rx⟩ := vals1 r
 cases rx
 rcases h with ⟨hq, q⟩ | ⟨hq, q⟩
 ·obtain ⟨its, r', pl, hz⟩ := I.list hq
  have hlen := r'.length
  refine call_tuple_list pl.isList (fun h' kp => ?_) (by simp only [List.size_toArray] <;> omega)
  have I1 : Inv X pins σ H { s with heap := h' } := I.kept (t' := s.toks) kp
  have I2 : Inv X pins σ (upd H h'.objs.size (.tup ys)) { s with heap := h'.push { cls := .type "tuple", data := .seq its.toArray } } :=
   I1.laid (t' := s.toks) (fun b o e => Heap.get?_push_of_some _ e) (Nat.le_refl _) (show b4l X.prog X.w _ _ _ (.tup ys) from ⟨hz, its, r', IsTup.new _ _⟩)
  exact ⟨.ref h'.objs.size, _, I2, rfl, q _ (I1.hok.fresh (Nat.le_refl _))⟩
 ·obtain ⟨its, r', pl, hz⟩ := I.tuple hq
  exact call_tuple_same pl ⟨.ref p, H, I, rfl, q⟩
def tyV (K : PySem.W.Frag) (T : String) (x : V) (H : Hp) : Prop := match x with
 | .str _ => T = "str"
 | .int _ => T = "int"
 | .ref p => (T = "list" ∧ ∃ xs, SqL K H p xs) ∨ (T = "tuple" ∧ ∃ o, K.lookup p = some o ∧ o.cls = .type "tuple" ∧ o.dict = none) ∨
   (T = "dict" ∧ ((∃ kvs, H p = some (.dK kvs)) ∨ ∃ kvs, H p = some (.dT kvs))) ∨ (T = "set" ∧ ∃ S n, H p = some (.set S n))
 | _ => False
theorem h8d {pins : List (Addr × Obj)} {σ : St} {H : Hp} {s : Shared} {T : String} {x : V} {v : Value} (I : Inv X pins σ H s) (r : RelV x v) (ty : tyV X.K T x H) :
  s.TypeIs v T /\ ∀ a, v = .ref a -> ∃ ob, s.heap.get? a = some ob /\ ob.dict = none := by
 cases x with
 | str z =>
  obtain ⟨t, rfl⟩ := r
  cases (show T = "str" from ty)
  exact ⟨typeIs_str s z t, fun _ e => nomatch e⟩
 | int i =>
  obtain ⟨t, rfl⟩ := r
  cases (show T = "int" from ty)
  exact ⟨typeIs_int s i t, fun _ e => nomatch e⟩
 | ref p =>
  cases r
  rcases ty with ⟨rfl, xs, hq⟩ | ⟨rfl, o, hk, hc, hd⟩ | ⟨rfl, hk⟩ | ⟨rfl, S, n, hk⟩
  ·obtain ⟨its, _, pl, _⟩ := I.list hq
   refine ⟨pl.isList.typeIs, fun a e => ?_⟩
   cases e
   obtain ⟨o, n, e, c, hd, _⟩ := pl
   exact ⟨o, e, hd⟩
  ·refine ⟨⟨o, I.kIn p o hk, hc⟩, fun a e => ?_⟩
   cases e
   exact ⟨o, I.kIn _ o hk, hd⟩
  ·have z : ∃ o, s.heap.get? p = some o /\ o.ExactDict := by
    rcases hk with ⟨kvs, hk⟩ | ⟨kvs, hk⟩
    ·obtain ⟨_, _, _, _, o, _, _, e, ex, _⟩ := I.hok p _ hk
     exact ⟨o, e, ex⟩
    ·obtain ⟨_, _, _, _, o, _, _, e, ex, _⟩ := I.hok p _ hk
     exact ⟨o, e, ex⟩
   obtain ⟨o, e, ex⟩ := z
   refine ⟨⟨o, e, ex.1⟩, fun a e2 => ?_⟩
   cases e2
   exact ⟨o, e, ex.2.1⟩
  ·obtain ⟨o, _, _, _, e, ex, _⟩ := I.hok p _ hk
   refine ⟨⟨o, e, ex.1⟩, fun a e2 => ?_⟩
   cases e2
   exact ⟨o, e, ex.2.1⟩
 | _ => exact False.elim ty
variable {o e : Expr} {es : List Expr} {to : TE} {t : TA} {name : Str} {apos cpos : Pos} {T id : String} {r : V -> List V -> Hp -> VK -> Prop}
/- xs.append(e), list.index on a module's tuple .. are MtR facts of 06m -/
end
end L2
namespace L2
open PySem PySem.Spec PyProof.Rows
def MtM (X : Cx) (id : String) (r : V -> List V -> Hp -> VK -> Prop) : Prop :=
 ∀ (pins : List (Addr × Obj)) (s : Shared) (σ : St) (H : Hp) (x : V) (xs : List V) (v : Value) (us : List Value) (Q : VK), Inv X pins σ H s -> RelV x v -> Vals xs us -> r x xs H Q ->
  wpAny (model X.prog X.w) X.A (call (.builtin id) (v :: us)) (EP X pins σ Q) X.xe s
theorem Vals.one : ∀ {x : V} {us : List Value}, Vals [x] us -> ∃ u, us = [u] /\ RelV x u
 | _, _, .cons r .nil => ⟨_, rfl, r⟩
theorem Vals.two : ∀ {x y : V} {us : List Value}, Vals [x, y] us -> ∃ u v, us = [u, v] /\ RelV x u /\ RelV y v
 | _, _, _, .cons r (.cons q .nil) => ⟨_, _, rfl, r, q⟩
theorem Vals.zero : ∀ {us : List Value}, Vals [] us -> us = []
 | _, .nil => rfl
theorem Vals.dropLast {xs : List V} {us : List Value} (h : Vals xs us) : Vals xs.dropLast us.dropLast := by
 induction h with
 | nil => exact .nil
 | cons r t ih =>
  cases t with
  | nil => exact .nil
  | cons q t' => exact .cons r ih
theorem Vals.eraseIdx : ∀ {xs : List V} {us : List Value} (i : Nat), Vals xs us -> Vals (xs.eraseIdx i) (us.eraseIdx i)
 | _, _, _, .nil => .nil
 | _, _, 0, .cons _ t => t
 | _, _, i + 1, .cons r t => .cons r (Vals.eraseIdx i t)
theorem Vals.reverse {xs : List V} {us : List Value} (h : Vals xs us) : Vals xs.reverse us.reverse := by
 induction h with
 | nil => exact .nil
 | cons r t ih => rw [List.reverse_cons, List.reverse_cons]; exact Vals.append ih (.cons r .nil)
theorem Vals.rep {xs : List V} {us : List Value} (h : Vals xs us) : ∀ k : Nat, Vals (List.replicate k xs).flatten (List.replicate k us).flatten
 | 0 => .nil
 | k + 1 => by
  rw [List.replicate_succ, List.replicate_succ, List.flatten_cons, List.flatten_cons]
  exact Vals.append h (Vals.rep h k)
theorem g7o {α : Type} (l : List α) : l.eraseIdx (l.length - 1) = l.dropLast := by
 induction l with
 | nil => rfl
 | cons a r ih =>
  cases r with
  | nil => rfl
  | cons b r =>
   have e : (a :: b :: r).length - 1 = ((b :: r).length - 1) + 1 := by
    have h1 : (a :: b :: r).length = r.length + 2 := rfl
    have h2 : (b :: r).length = r.length + 1 := rfl
    omega
   rw [e, List.eraseIdx_cons_succ, ih]
   all_goals rfl
theorem f8t {α : Type} : ∀ (l : List α) (i : Nat), (l.eraseIdx i).length <= l.length
 | [], _ => Nat.le_refl _
 | _ :: _, 0 => Nat.le_succ _
 | _ :: r, i + 1 => Nat.succ_le_succ (f8t r i)
theorem foldl_rep (its : List Value) : ∀ (k : Nat) (acc : List Value),
  List.foldl (fun x1 x2 => x1 ++ x2) acc.toArray (List.replicate k its.toArray) = (acc ++ (List.replicate k its).flatten).toArray
 | 0, acc => by simp
 | k + 1, acc => by
  have e : acc.toArray ++ its.toArray = (acc ++ its).toArray := by simp
  have e2 : (acc ++ its) ++ (List.replicate k its).flatten = acc ++ (List.replicate (k + 1) its).flatten := by
   rw [List.replicate_succ, List.flatten_cons, List.append_assoc]
  rw [<- e2, <- foldl_rep its k (acc ++ its), <- e, List.replicate_succ, List.foldl_cons]
section
variable {X : Cx} {pins : List (Addr × Obj)} {σ : St} {H : Hp} {s : Shared} {l b : Addr} {xs ys zs : List V}
theorem Inv.j0l {its its' : List Value} {n : Nat} {f : Array Value -> Array Value} {t' : Nat} (I : Inv X pins σ H s) (hH : H l = some (.lst xs))
  (e : s.heap.get? l = some { cls := .type "list", data := .seq its.toArray n }) (hf : f its.toArray = its'.toArray) (hv : Vals ys its') (hz : ys.length ≤ sizeLine) :
  Inv X pins σ (upd H l (.lst ys)) { s with heap := s.heap.update l (Obj.mapSeq f), toks := t' } := by
 have q := PySem.IsL.update e f
 rw [hf] at q
 refine I.write (x := l) (e := l) (by rw [hH]; exact trivial) (.inl rfl) (fun b' u hb hu => (Heap.get?_update_other s.heap (Obj.mapSeq f) (Ne.symm hb)).trans hu) ⟨_, q⟩ ?_
 exact ⟨hz, its', _, hv, q⟩
theorem Inv.j3m {its : List Value} {t' : Nat} (I : Inv X pins σ H s) (hv : Vals ys its) (hz : ys.length <= sizeLine) :
  Inv X pins σ (upd H s.heap.objs.size (.lst ys)) { s with heap := s.heap.push { cls := .type "list", data := .seq its.toArray }, toks := t' } :=
 I.laid (fun _ _ q => Heap.get?_push_of_some _ q) (Nat.le_refl _) ⟨hz, its, 0, hv, Heap.get?_push_size _ rfl⟩
theorem Inv.fresh (I : Inv X pins σ H s) : H s.heap.objs.size = none := I.hok.fresh (Nat.le_refl _)
theorem Inv.i0g (I : Inv X pins σ H s) (hH : H l = some (.lst xs)) : xs.length ≤ sizeLine ∧ ∃ (its : List Value) (n : Nat), Vals xs its ∧ xs.length = its.length ∧ s.heap.get? l = some { cls := .type "list", data := .seq its.toArray n } := by
 obtain ⟨z, its, n, r, e⟩ := I.hok l _ hH
 exact ⟨z, its, n, r, r.length, e⟩
theorem h5m {n : Nat} (h : n <= sizeLine) : Builtin.List.listTooLong n = false := by
 unfold Builtin.List.listTooLong
 exact decide_eq_false (by omega)
end
section
variable {X : Cx}
noncomputable def h0q : V -> List V -> Hp -> VK -> Prop := fun x vs H Q => ∃ l xs y, x = .ref l /\ vs = [y] /\ H l = some (.lst xs) /\ xs.length < sizeLine /\ Q .non (upd H l (.lst (xs ++ [y])))
theorem d1n : MtM X "list.append" h0q := by
 intro pins s σ H x vs v us Q I rx rv h
 obtain ⟨l, xs, y, rfl, rfl, hH, hz, q⟩ := h
 cases rx
 obtain ⟨u, rfl, ru⟩ := rv.one
 obtain ⟨z, its, n, r, hl, e⟩ := I.i0g hH
 refine call_meets F.slot_list_append ⟨_, e, rfl⟩ F.entry_list_append (F.args_list_append_2 _ _) (PySem.list_append l its.toArray n u (by rw [List.size_toArray]; omega)) ⟨e, ?_⟩
 refine ⟨.non, _, I.j0l (its' := its ++ [u]) hH e (by simp) (r.append (.cons ru .nil)) ?_, rfl, q⟩
 rw [List.length_append, List.length_singleton]
 omega
noncomputable def rPop : V -> List V -> Hp -> VK -> Prop := fun x vs H Q => ∃ l xs y, x = .ref l /\ vs = [] /\ H l = some (.lst xs) /\ xs[xs.length - 1]? = some y /\ Q y (upd H l (.lst xs.dropLast))
theorem i5p : MtM X "list.pop" rPop := by
 intro pins s σ H x vs v us Q I rx rv h
 obtain ⟨l, xs, y, rfl, rfl, hH, hy, q⟩ := h
 cases rx
 have hus := rv.zero
 subst hus
 obtain ⟨z, its, n, r, hl, e⟩ := I.i0g hH
 obtain ⟨u, hu, ru⟩ := r.get hy
 have hy' : its.toArray[its.toArray.size - 1]? = some u := by
  show its.toArray[its.length - 1]? = some u
  rw [<- Array.getElem?_toList, <- hl]
  exact hu
 refine call_meets F.slot_list_pop ⟨_, e, rfl⟩ F.entry_list_pop (F.args_list_pop_1 _) (MeetsSeq.list_pop_last l its.toArray n u hy' (by rw [List.size_toArray]; omega)) ⟨e, ?_⟩
 refine ⟨y, _, I.j0l (its' := its.dropLast) hH e ?_ r.dropLast ?_, ru, q⟩
 ·show its.toArray.eraseIdxIfInBounds (its.toArray.size - 1) = its.dropLast.toArray
  rw [List.size_toArray, List.eraseIdxIfInBounds_toArray, g7o]
 ·rw [List.length_dropLast]
  omega
noncomputable def i5q : V -> List V -> Hp -> VK -> Prop := fun x vs H Q => ∃ l xs i k y, x = .ref l /\ vs = [.int i] /\ H l = some (.lst xs) /\ -(2 ^ 63) <= i /\ i < 2 ^ 63 /\ seqIndex? i xs.length = some k /\ xs[k]? = some y /\ Q y (upd H l (.lst (xs.eraseIdx k)))
theorem h5n : MtM X "list.pop" i5q := by
 intro pins s σ H x vs v us Q I rx rv h
 obtain ⟨l, xs, i, k, y, rfl, rfl, hH, h1, h2, hk, hy, q⟩ := h
 cases rx
 obtain ⟨u, rfl, ru⟩ := rv.one
 obtain ⟨t, rfl⟩ := ru
 obtain ⟨z, its, n, r, hl, e⟩ := I.i0g hH
 obtain ⟨w, hw, rw'⟩ := r.get hy
 refine call_meets F.slot_list_pop ⟨_, e, rfl⟩ F.entry_list_pop (F.args_list_pop_2 _ _)
  (MeetsSeq.list_pop_at l its.toArray n i t k w (fitsIndex_both h1 h2) (by rw [List.size_toArray, <- hl]; exact hk) (by rw [<- Array.getElem?_toList]; exact hw) (by rw [List.size_toArray]; omega)) ⟨e, ?_⟩
 refine ⟨y, _, I.j0l (its' := its.eraseIdx k) hH e ?_ (r.eraseIdx k) ?_, rw', q⟩
 ·show its.toArray.eraseIdxIfInBounds k = (its.eraseIdx k).toArray
  rw [List.eraseIdxIfInBounds_toArray]
 ·have := f8t xs k
  omega
def rCat : R2 := fun x y H Q => ∃ l b xs zs, x = .ref l /\ y = .ref b /\ H l = some (.lst xs) /\ H b = some (.lst zs) /\ xs.length + zs.length <= sizeLine /\ ∀ p, H p = none -> Q (.ref p) (upd H p (.lst (xs ++ zs)))
theorem i5r : OpR X (binaryOp .Add) rCat := by
 intro pins s σ H x y v u Q I rx ry h
 obtain ⟨l, b, xs, zs, rfl, rfl, hH, hB, hz, q⟩ := h
 cases rx
 cases ry
 obtain ⟨z, its, n, r, hl, e⟩ := I.i0g hH
 obtain ⟨z2, its2, n2, r2, hl2, e2⟩ := I.i0g hB
 refine PySem.P.add_list e e2 ?_ (by rw [List.size_toArray, List.size_toArray]; omega)
 have ea : its.toArray ++ its2.toArray = (its ++ its2).toArray := by simp
 rw [ea]
 exact ⟨.ref _, _, I.j3m (t' := s.toks) (r.append r2) (by rw [List.length_append]; omega), rfl, q _ I.fresh⟩
def rRep : R2 := fun x y H Q => ∃ l k xs, x = .ref l /\ y = .int k /\ H l = some (.lst xs) /\ -(2 ^ 63) <= k /\ k < 2 ^ 63 /\ xs.length * k.toNat <= sizeLine /\
 ∀ p, H p = none -> Q (.ref p) (upd H p (.lst (List.replicate k.toNat xs).flatten))
theorem len_rep {α : Type} (xs : List α) (k : Nat) : (List.replicate k xs).flatten.length = k * xs.length := by
 induction k with
 | zero => simp
 | succ k ih => rw [List.replicate_succ, List.flatten_cons, List.length_append, ih, Nat.succ_mul, Nat.add_comm]
theorem i5s : OpR X (binaryOp .Mult) rRep := by
 intro pins s σ H x y v u Q I rx ry h
 obtain ⟨l, k, xs, rfl, rfl, hH, h1, h2, hz, q⟩ := h
 cases rx
 obtain ⟨t, rfl⟩ := ry
 obtain ⟨z, its, n, r, hl, e⟩ := I.i0g hH
 have hlen : its.toArray.size * k.toNat <= sizeLine := by rw [List.size_toArray, <- hl]; exact hz
 have hcap : ¬ its.toArray.size * k.toNat > (2 ^ 63 - 1) / 8 := by
  have : (sizeLine : Nat) <= (2 ^ 63 - 1) / 8 := by decide
  omega
 have hfit : ¬ (!Builtin.List.listFitsIndex k) = true := by
  rw [fitsIndex_both h1 h2]
  exact Bool.false_ne_true
 have j0m : ¬ Builtin.List.listTooLong (its.toArray.size * k.toNat) = true := by
  rw [h5m hlen]
  exact Bool.false_ne_true
 have hnew : List.foldl (fun x1 x2 => x1 ++ x2) #[] (List.replicate (if its.toArray.isEmpty = true then 0 else k.toNat) its.toArray) = (List.replicate k.toNat its).flatten.toArray := by
  have f0 : ∀ m : Nat, List.foldl (fun x1 x2 => x1 ++ x2) #[] (List.replicate m its.toArray) = (List.replicate m its).flatten.toArray := fun m => by
   have := foldl_rep its m []
   rw [List.nil_append] at this
   exact this
  rw [f0]
  cases its with
  | nil => simp
  | cons a r' => rw [if_neg (by simp)]
 refine wpAny_binaryOp_repeat_ref (T := "list") (U := "int") (by decide) ⟨_, e, rfl⟩ (fun s' => typeIs_int s' k t) noFill_list_mul F.fills_int_mul F.slot_int_rmul repeat_list F.slot_int_index.lookup
  (call_meets F.slot_int_rmul (typeIs_int s k t) F.entry_int_rmul (F.args_int_rmul_2 _ _) (int___rmul___int_list k t l its.toArray n)
   ⟨e, rfl, ⟨_, e, rfl⟩, call_meets F.slot_list_mul ⟨_, e, rfl⟩ F.entry_list_mul (F.args_list_mul_2 _ _) (AutoListH.list___mul___list_int_3 l its.toArray n k t hfit hcap j0m) ⟨e, ?_⟩⟩)
 rw [hnew]
 exact ⟨.ref _, _, I.j3m (t' := s.toks) (r.rep k.toNat) (by rw [len_rep, Nat.mul_comm]; exact hz), rfl, q _ I.fresh⟩
end
section
variable {prog : Program} {w : World} {A : Around} {E : Value -> Shared -> Prop} {s : Shared}
end
section
variable {X : Cx}
end
end L2
namespace Att
open PySem PySem.W PySem.Calls PyProof.Rows
theorem d8n {P : Params} {h : Heap} : ∀ (ns : List Int) (vs : List Value), WellAll P h vs (ns.map WData.int) -> IntsAre vs ns := by
 intro ns
 induction ns with
 | nil =>
  intro vs w
  rw [List.map_nil] at w
  cases w
  exact .nil
 | cons n ns ih =>
  intro vs w
  rw [List.map_cons] at w
  cases w with
  | cons a b =>
   cases a
   exact .cons _ _ (ih _ b)
theorem h0r {l : OpenLaw} {n : Nat} (hn : l.most = some n) {P : Params} {h : Heap} {args : List WData} {vals : List Value}
  (hpre : l.row.toRowW.claim.pre args = true) (hwl : WellAll P h vals args) :
  ∃ a vs ns, vals = [Value.ref a] ∧ args = [WData.list (ns.map WData.int)] ∧ h.get? a = some { cls := .type "list", data := .seq vs.toArray } ∧ IntsAre vs ns ∧ ns.length ≤ n := by
 have hsh : WShape.hasAll [] args [.list .int] = true := (pre_splitW hpre).1
 have hc : l.pre.holds [] { args := args } = true := (pre_splitW hpre).2
 obtain ⟨d, r, rfl, h1, h2⟩ := hasAllW_cons hsh
 obtain rfl := hasAllW_nil h2
 obtain ⟨xs, rfl, h3⟩ := hasW_list h1
 obtain ⟨ns, rfl⟩ := items_int h3
 have hlen : ns.length <= n := by
  unfold OpenLaw.pre at hc
  have h4 : (WTm.not (.lt (.lit (.int (n : Int))) (.len (.arg 0)))).holds [] { args := [.list (ns.map .int)] } = true := by
   have h4 := (holds_andW hc).1
   rw [hn] at h4
   exact h4
  have h5 := condW_of h4 (w_not (w_lt w_lit (w_len_list (w_arg rfl))))
  rw [List.length_map] at h5
  refine Nat.le_of_not_lt fun q => ?_
  have q' : (n : Int) < ((ns.length : Nat) : Int) := by omega
  first
   | (rw [decide_eq_true q'] at h5; exact absurd h5 (by decide))
   | (simp at h5; omega)
 cases hwl with
 | cons w1 w2 =>
  cases w2
  cases w1 with
  | list ho hall => exact ⟨_, _, ns, rfl, rfl, ho, d8n ns _ hall, hlen⟩
theorem h0s (l : OpenLaw) (args : List WData) : l.row.toRowW.claim.post args (.bool true) args = true :=
 postW_of (r := l.row.toRowW) (X := (true == true))
  (show WShape.has [] (.bool true) .bool = true by first | rfl | decide | simp [WShape.has, WShape.arms, WShape.armsAll])
  (show (WTm.eq .res (.lit (.bool true))).value [] { args := args, res := some (.bool true), after := args } = some (.bool (true == true)) from w_eq_bool (w_res rfl) w_lit) rfl
section
variable {prog : Program} {w : World} {A : Around} {E : Value -> Shared -> Prop} {s : Shared} {K : Frag}
end
end Att
namespace L2
open PySem PySem.Spec PyProof.Rows
theorem f8u : ∀ {vs : List Value} {ns : List Int}, IntsAre vs ns -> Vals (ns.map V.int) vs
 | _, _, .nil => .nil
 | _, _, .cons n t h => .cons ⟨t, rfl⟩ (f8u h)
def Only (H : Hp) : Prop := ∀ b, H b = none \/ ∃ o xs, H b = some (.frz o (.lst xs))
theorem h5o {P : Program} {w : World} {K : PySem.W.Frag} {mg mb : Str -> Option Value} {CX : CXT} {k : Nat} {fa a : Addr} {fd : FuncData} {x : Str} {sp : Sp} {s₁ : Shared} {vs : List Value} {ns : List Int}
  (KX : K.In s₁.heap) (hns : s₁.heap.Ns mainGlobals mg) (hb : s₁.heap.Ns builtinsNs mb) (hbb : ∀ x : Str, x ≠ "__name__" → mb x = bootBuiltins x) (hlim : s₁.heap.NoLimit) (hg : s₁.gens = #[])
  (ha : s₁.heap.get? a = some { cls := .type "list", data := .seq vs.toArray }) (hi : IntsAre vs ns) (hl : ns.length ≤ sizeLine) (hr : a2k k callerA)
  (F : ∀ base : Heap, K.In base -> base.Ns mainGlobals mg -> a1k P w K mg base CX k fa fd [x] sp) (hbind : ∀ (s : Shared) (u : Value), BindsTo s fd ⟨[u], []⟩ [(x, u)])
  (hsp : ∀ H : Hp, Only H -> SqL K H a (ns.map V.int) -> sp [.ref a] H (fun v _ => v = .bl true) fun _ _ _ => False)
  (hCX : ∀ H e s', CX [] H s₁ (fun _ _ _ => False) e s' -> False) :
  codeAny (model P w) callerA (.call (.ref fa) ⟨[.ref a], []⟩) (fun r s' => r = .ok (.ret (.bool true)) /\ OldK s₁.heap s'.heap /\ s'.os = s₁.os /\ AllBare s'.gens) s₁ := by
 have rv := f8u hi
 have lenV := hi.length
 -- from an abstract heap in which nothing but the script may be tracked
 have core : ∀ H : Hp, Only H -> SqL K H a (ns.map V.int) -> HOk P w H s₁.heap -> (∀ b, H b ≠ none -> b = a) -> (H a ≠ none -> K.lookup a = none) ->
   codeAny (model P w) callerA (.call (.ref fa) ⟨[.ref a], []⟩) (fun r s' => r = .ok (.ret (.bool true)) /\ OldK s₁.heap s'.heap /\ s'.os = s₁.os /\ AllBare s'.gens) s₁ := by
  intro H hO hS hok hA hK
  have h0t : ∀ {b : Addr} {o : Obj}, s₁.heap.get? b = some o -> H b = none -> (h4z s₁.heap H).get? b = some o := fun e n => h5a e n
  have noA : ∀ {b : Addr} {o : Obj} {es : Array DictEntry} {ep : Nat}, s₁.heap.get? b = some o -> o.data = .dict es ep -> H b = none := fun {b o es ep} e d => by
   cases q : H b with
   | none => rfl
   | some u =>
    have e' : b = a := hA b (by rw [q]; simp)
    subst e'
    rw [ha] at e; cases e
    have d' : Data.seq vs.toArray _ = Data.dict es ep := d
    cases d'
  have nsK : ∀ {b : Addr} {m : Str -> Option Value}, s₁.heap.Ns b m -> (h4z s₁.heap H).Ns b m := fun {b m} ⟨o, es, ep, e, d, r⟩ => ⟨o, es, ep, h0t e (noA e d), d, r⟩
  have hKb : K.In (h4z s₁.heap H) := fun b o e => h0t (KX b o e) (by
   cases q : H b with
   | none => rfl
   | some u =>
    have e' : b = a := hA b (by rw [q]; simp)
    subst e'
    rw [hK (by rw [q]; simp)] at e; cases e)
  have hM : Mod K mg (h4z s₁.heap H) := ⟨hKb, nsK hns, ⟨mb, nsK hb, hbb⟩, let ⟨mc, h1, h2⟩ := hlim; ⟨mc, nsK h1, h2⟩⟩
  have e0 : h8b P w K mg (h4z s₁.heap H) callerA [] s₁ H := ⟨rfl, hM, fun b o e => h9s e, Nat.le_of_eq (g9w _ _), trivial, fun b hb => absurd (show b ∈ ([] : List Addr) from hb) (by simp), hok, .of_eq hg⟩
  refine codeAny_mono ((F _ hKb (nsK hns)).run callerA [] s₁ H ⟨[.ref a], []⟩ [.ref a] [.ref a] _ _ hr e0 (hbind s₁ (.ref a)) (.cons rfl .nil) (hsp H hO hS)) fun r s' h => ?_
  cases r with
  | error e => exact (hCX H e s' h).elim
  | ok fl =>
   cases fl with
   | next => exact False.elim h
   | brk => exact False.elim h
   | cont => exact False.elim h
   | ret u =>
    obtain ⟨v, H', os, bare, un, hok', r', q⟩ := h
    have q' : v = .bl true := q
    subst q'
    obtain rfl : u = Value.bool true := r'
    refine ⟨rfl, OldK.of_keep fun b o e => ?_, os, bare⟩
    cases q : H b with
    | none => exact un.keep b o e q (by intro z; exact absurd (show b ∈ ([] : List Addr) from z) (by simp)) (by simp)
    | some u =>
     rcases hO b with z | ⟨ob, xs, z⟩
     ·rw [q] at z; cases z
     ·have z2 := un.g1t b ob _ z
      obtain ⟨e1, _⟩ := hok b _ z
      obtain ⟨e2, _⟩ := hok' b _ z2
      rw [e] at e1; cases e1
      exact e2
 cases hk : K.lookup a with
 | some o =>
  -- the script is one of the module's own objects
  have e := KX a o hk
  rw [ha] at e
  cases e
  refine core (fun _ => none) (fun _ => .inl rfl) (.inr ⟨_, vs.toArray, _, hk, rfl, rfl, rfl, by rw [List.size_toArray, lenV]; exact hl, by simpa using rv⟩) (fun b u z => by have z' : (none : Option HO) = some u := z; cases z') (fun b z => absurd rfl z) fun z => absurd rfl z
 | none =>
  refine core (fun b => if b = a then some (.frz { cls := .type "list", data := .seq vs.toArray } (.lst (ns.map V.int))) else none) (fun b => ?_) (.inl (.inr ⟨{ cls := .type "list", data := .seq vs.toArray }, if_pos rfl⟩)) (fun b u z => ?_) (fun b z => ?_) fun _ => hk
  ·by_cases hb : b = a
   ·exact .inr ⟨_, _, if_pos hb⟩
   ·exact .inl (if_neg hb)
  ·by_cases hb : b = a
   ·have z' := (if_pos hb).symm.trans z
    cases z'
    subst hb
    exact ⟨ha, by rw [List.length_map]; exact hl, vs, _, rv, ha⟩
   ·have z' := (if_neg hb).symm.trans z
    cases z'
  ·by_cases hb : b = a
   ·exact hb
   ·exact absurd (if_neg hb) z
end L2
namespace L2
open PySem PySem.Spec PyProof.Rows
end L2
/- THE LAST THEOREM (shape; LID, My.* are yours):
  My.Adr: a structure of the addresses that your layer names (classes, functions); My.Txt K t: a structure (Prop) of the equations over K;
  My.txt_mk : {K} {implicit addresses ..} (e1 : nsIn K mainGlobals "law" = some (some (.ref f))) (e2 : K.lookup f = some ⟨oc, od, .func (fnOf "law" "law" params body scope dV kV doc pm an cdv ct), sl⟩) (e3 : codeIn K cdv "law" = true) .. : ∃ t, My.Txt K t
(the tactic k_is has no namespace: write k_is) -/
namespace L2
open PySem PySem.Spec PyProof.Rows
noncomputable def inClass (s : Stmt) (j : Nat) : Stmt := match s with
 | .ClassDef _ _ _ body _ _ _ _ _ _ _ => body.getD j (.Pass ⟨0, 0, 0, 0⟩)
 | _ => .Pass ⟨0, 0, 0, 0⟩
noncomputable def f4z (s : Stmt) : Arguments := match s with
 | .FunctionDef _ a _ _ _ _ _ _ _ _ => a
 | _ => { posonlyargs := [], args := [], vararg := none, kwonlyargs := [], kw_defaults := [], kwarg := none, defaults := [] }
noncomputable def d8o (s : Stmt) : List Stmt := match s with
 | .FunctionDef _ _ b _ _ _ _ _ _ _ => b
 | _ => []
noncomputable def a0p (s : Stmt) : Scope := match s with
 | .FunctionDef _ _ _ _ _ _ sc _ _ _ => sc
 | _ => { kind := .function, names := [], isGenerator := false, isCoroutine := false }
noncomputable abbrev CX0 : CXT := fun _ _ _ _ _ _ => False
abbrev E0 : XK := fun _ _ _ => False
theorem a0t {X : Cx} : Passes CX0 X E0 := fun _ _ _ _ _ _ _ h => h.elim
structure Fun (K : PySem.W.Frag) (x qual : Str) (st : Stmt) (f : Addr) (fd : FuncData) : Prop where
 ex : ∃ (oc : Value) (od : Option Addr) (kV doc pm : Value) (an : Option Addr) (cdv ct : Value) (osl : Array (Option Value)),
  fd = PySem.W.fnOf x qual (f4z st) (d8o st) (a0p st) .none kV doc pm an cdv ct /\ K.lookup f = some ⟨oc, od, .func fd, osl⟩ /\ PySem.W.codeIn K cdv qual = true
 kp : PySem.W.keepIn K (.ref f) = true
section
variable {P : Program} {w : World} {K : PySem.W.Frag} {mg : Str -> Option Value} {base : Heap}
theorem Fun.ok {x qual : Str} {st : Stmt} {f : Addr} {fd : FuncData} {N ps : List Str} {k : Nat} {sp : Sp} (F : Fun K x qual st f fd) (S : a0s N ps (a0p st)) (len : ∀ vs H Q E, sp vs H Q E -> vs.length = ps.length)
  (hbody : ∀ (cdv : Value) (A : Around) (outer : List Env) (s : Shared) (H : Hp) (vs : List V) (Q : VK) (E : XK), a2k k (A.deeper (envOfC qual (a0p st) s.heap.objs.size f cdv)) -> sp vs H Q E ->
   ∃ t, PSs (i0b CX0 P w K mg base N qual (a0p st) f cdv A outer s H E).nox (d8o st) t /\ t { nx := fun _ H' => Q .non H', rt := Q } (start N vs) H) : a1k P w K mg base CX0 (k + 1) f fd ps sp := by
 obtain ⟨oc, od, kV, doc, pm, an, cdv, ct, osl, rfl, lk, hcd⟩ := F.ex
 refine j0k lk hcd S len fun A outer s H vs Q E hr hsp => ?_
 obtain ⟨t, h, q⟩ := hbody cdv A outer s H vs Q E hr hsp
 exact ⟨t, h.nox, q⟩
theorem Fun.binds {x qual : Str} {st : Stmt} {f : Addr} {fd : FuncData} {ps : List Str} (F : Fun K x qual st f fd)
  (h : ∀ (kV doc pm : Value) (an : Option Addr) (cdv ct : Value) (us : List Value), us.length = ps.length -> bindArgs (PySem.W.fnOf x qual (f4z st) (d8o st) (a0p st) .none kV doc pm an cdv ct) ⟨us, []⟩ = pure (ps.zip us)) : Binds K fd ps [] := by
 obtain ⟨oc, od, kV, doc, pm, an, cdv, ct, osl, rfl, lk, hcd⟩ := F.ex
 exact .all (h kV doc pm an cdv ct)
theorem a1g {x qual : Str} {st : Stmt} {f : Addr} {oc : Value} {od an : Option Addr} {osl : Array (Option Value)} {kV doc pm cdv ct : Value} (l : K.lookup f = some ⟨oc, od, .func (PySem.W.fnOf x qual (f4z st) (d8o st) (a0p st) .none kV doc pm an cdv ct), osl⟩)
  (c : PySem.W.codeIn K cdv qual = true) (k : PySem.W.keepIn K (.ref f) = true) : Fun K x qual st f (PySem.W.fnOf x qual (f4z st) (d8o st) (a0p st) .none kV doc pm an cdv ct) := ⟨⟨oc, od, kV, doc, pm, an, cdv, ct, osl, rfl, l, c⟩, k⟩
end
section
variable {X : Cx}
end
def Same (H H' : Hp) : Prop := ∀ b o, H b = some o -> H' b = some o
theorem Same.refl (H : Hp) : Same H H := fun _ _ h => h
theorem Same.trans {H H1 H2 : Hp} (a : Same H H1) (b : Same H1 H2) : Same H H2 := fun c o h => b c o (a c o h)
theorem Same.free {H H' : Hp} (e : Same H H') {l : Addr} (h : H' l = Option.none) : H l = Option.none := by
 cases q : H l with
 | none => rfl
 | some o =>
  rw [e l o q] at h
  cases h
theorem Same.seq {K : PySem.W.Frag} {H H' : Hp} {a : Addr} {xs : List V} (e : Same H H') (h : SqL K H a xs) : SqL K H' a xs := by
 rcases h with (h | ⟨o, h⟩) | h
 ·exact .inl (.inl (e _ _ h))
 ·exact .inl (.inr ⟨o, e _ _ h⟩)
 ·exact .inr h
end L2
namespace L2
open PySem PySem.Spec PyProof.Rows
section
variable {κ : Type} [DecidableEq κ]
noncomputable def d7o (kvs : List (κ × V)) (k : κ) : Option V := (kvs.find? fun kv => decide (kv.1 = k)).map (·.2)
noncomputable def putK (kvs : List (κ × V)) (k : κ) (v : V) : List (κ × V) :=
 if (kvs.any fun kv => decide (kv.1 = k)) = true then kvs.map (fun kv => if kv.1 = k then (kv.1, v) else kv) else kvs ++ [(k, v)]
noncomputable def dropK (kvs : List (κ × V)) (k : κ) : List (κ × V) := kvs.filter fun kv => decide (kv.1 ≠ k)
theorem d7p {p : κ × V} {r : List (κ × V)} {k : κ} (e : p.1 = k) : d7o (p :: r) k = some p.2 := by simp [d7o, List.find?_cons, e]
theorem d1o {p : κ × V} {r : List (κ × V)} {k : κ} (e : ¬ p.1 = k) : d7o (p :: r) k = d7o r k := by simp [d7o, List.find?_cons, e]
theorem f5g (k : κ) : ∀ kvs : List (κ × V), (kvs.any fun kv => decide (kv.1 = k)) = (d7o kvs k).isSome
 | [] => rfl
 | p :: r => by
  rw [List.any_cons]
  by_cases e : p.1 = k
  ·simp only [d7p e, decide_eq_true e, Bool.true_or, Option.isSome_some]
  ·rw [d1o e, decide_eq_false e, Bool.false_or]; exact f5g k r
theorem c9u (kvs : List (κ × V)) (k : κ) (v : V) : (putK kvs k v).length <= kvs.length + 1 := by
 unfold putK
 split
 ·rw [List.length_map]; omega
 ·rw [List.length_append, List.length_cons, List.length_nil]; omega
theorem h5p {kvs : List (κ × V)} {k : κ} (v : V) (h : d7o kvs k = none) : putK kvs k v = kvs ++ [(k, v)] := by
 unfold putK
 rw [f5g, h]
 exact if_neg (by decide)
theorem g1q.d8p {o : Option V} {u : Option Value} (r : g1q o u) : o.isSome = u.isSome := by
 cases o with
 | none => cases u with
  | none => rfl
  | some _ => exact (show False from r).elim
 | some _ => cases u with
  | none => exact (show False from r).elim
  | some _ => rfl
theorem KV.val {kvs : List (κ × V)} {vs : List (κ × Value)} (r : KV kvs vs) (k : κ) : g1q (d7o kvs k) (valueAt vs k) := by
 unfold KV at r
 induction r with
 | nil => exact True.intro
 | @cons p q ps qs h t ih =>
  obtain ⟨h1, h2⟩ := h
  by_cases e : p.1 = k
  ·have e' : q.1 = k := h1.symm.trans e
   have b : valueAt (q :: qs) k = some q.2 := by simp [valueAt, List.find?_cons, e']
   rw [d7p e, b]; exact h2
  ·have e' : ¬ q.1 = k := fun z => e (h1.trans z)
   have b : valueAt (q :: qs) k = valueAt qs k := by simp [valueAt, List.find?_cons, e']
   rw [d1o e, b]; exact ih
theorem KV.any {kvs : List (κ × V)} {vs : List (κ × Value)} (r : KV kvs vs) (k : κ) : (kvs.any fun kv => decide (kv.1 = k)) = vs.any fun kv => decide (kv.1 = k) := by
 unfold KV at r
 induction r with
 | nil => rfl
 | cons h t ih => rw [List.any_cons, List.any_cons, ih, h.1]
theorem KV.repl {kvs : List (κ × V)} {vs : List (κ × Value)} (r : KV kvs vs) (k : κ) {y : V} {u : Value} (ry : RelV y u) :
  KV (kvs.map fun kv => if kv.1 = k then (kv.1, y) else kv) (vs.map fun kv => if kv.1 = k then (kv.1, u) else kv) := by
 unfold KV at r ⊢
 induction r with
 | nil => exact .nil
 | @cons p q ps qs h t ih =>
  rw [List.map_cons, List.map_cons]
  refine .cons ?_ ih
  obtain ⟨h1, h2⟩ := h
  by_cases e : p.1 = k
  ·rw [if_pos e, if_pos (h1.symm.trans e)]; exact ⟨h1, ry⟩
  ·rw [if_neg e, if_neg (fun z => e (h1.trans z))]; exact ⟨h1, h2⟩
theorem KV.put {kvs : List (κ × V)} {vs : List (κ × Value)} (r : KV kvs vs) (k : κ) {y : V} {u : Value} (ry : RelV y u) : KV (putK kvs k y) (stored vs k u) := by
 unfold putK stored
 rw [r.any k]
 by_cases e : (vs.any fun kv => decide (kv.1 = k)) = true
 ·rw [if_pos e, if_pos e]; exact r.repl k ry
 ·rw [if_neg e, if_neg e]; exact Paired.snoc r ⟨rfl, ry⟩
theorem KV.length {kvs : List (κ × V)} {vs : List (κ × Value)} (r : KV kvs vs) : kvs.length = vs.length := Paired.length r
end
theorem h0u {P : Program} {w : World} {k : Key} {u : Value} (r : RelV (kV k) u) : (b0p P w).is k u = true := by
 cases k with
 | inl i => obtain ⟨t, e⟩ := (show ∃ t, u = Value.int i t from r); subst e; exact g1r P w i t
 | inr x => obtain ⟨t, e⟩ := (show ∃ t, u = Value.str x t from r); subst e; exact g1s P w x t
theorem f8v {P : Program} {w : World} : ∀ {ks : List Key} {us : List Value}, Vals (ks.map kV) us -> ItemsAre (b0p P w) ks us
 | [], _, r => by rw [List.map_nil] at r; cases r; exact .nil
 | k :: ks, _, r => by
  rw [List.map_cons] at r
  cases r with
  | cons h t => exact .cons (h0u h) (f8v t)
noncomputable abbrev KT (H : Hp) : List (List Key × V) -> List (List Key × Addr × Value) -> Prop := Paired fun p q => p.1 = q.1 /\ H q.2.1 = some (.tup (p.1.map kV)) /\ RelV p.2 q.2.2
theorem KT.val {H : Hp} {kvs : List (List Key × V)} {xs : List (List Key × Addr × Value)} (r : KT H kvs xs) (k : List Key) : g1q (d7o kvs k) ((atKey xs k).map (·.2)) := by
 induction r with
 | nil => exact True.intro
 | @cons p q ps qs h t ih =>
  obtain ⟨h1, _, h2⟩ := h
  by_cases e : p.1 = k
  ·have e' : q.1 = k := h1.symm.trans e
   have b : atKey (q :: qs) k = some q.2 := by simp [atKey, List.find?_cons, e']
   rw [d7p e, b]; exact h2
  ·have e' : ¬ q.1 = k := fun z => e (h1.trans z)
   have b : atKey (q :: qs) k = atKey qs k := by simp [atKey, List.find?_cons, e']
   rw [d1o e, b]; exact ih
theorem KT.repl {H : Hp} {kvs : List (List Key × V)} {xs : List (List Key × Addr × Value)} (r : KT H kvs xs) (k : List Key) {y : V} {u : Value} (ry : RelV y u) :
  KT H (kvs.map fun kv => if kv.1 = k then (kv.1, y) else kv) (xs.map (putAt k u)) := by
 induction r with
 | nil => exact .nil
 | @cons p q ps qs h t ih =>
  rw [List.map_cons, List.map_cons]
  refine .cons ?_ ih
  obtain ⟨h1, h2, h3⟩ := h
  unfold putAt
  by_cases e : p.1 = k
  ·rw [if_pos e, if_pos (h1.symm.trans e)]; exact ⟨h1, h2, ry⟩
  ·rw [if_neg e, if_neg (fun z => e (h1.trans z))]; exact ⟨h1, h2, h3⟩
theorem KT.put {H : Hp} {kvs : List (List Key × V)} {xs : List (List Key × Addr × Value)} (r : KT H kvs xs) (k : List Key) {b : Addr} {y : V} {u : Value} (hb : H b = some (.tup (k.map kV))) (ry : RelV y u) :
  KT H (putK kvs k y) (storedH xs k b u) := by
 have e : (kvs.any fun kv => decide (kv.1 = k)) = (atKey xs k).isSome := by
  rw [f5g, (r.val k).d8p, Option.isSome_map]
 unfold putK storedH
 rw [e]
 by_cases q : (atKey xs k).isSome = true
 ·rw [if_pos q, if_pos q]; exact r.repl k ry
 ·rw [if_neg q, if_neg q]; exact Paired.snoc r ⟨rfl, hb, ry⟩
theorem KT.keeps {H H' : Hp} {kvs : List (List Key × V)} {xs : List (List Key × Addr × Value)} (r : KT H kvs xs) (ht : ∀ b ys, H b = some (.tup ys) -> H' b = some (.tup ys)) : KT H' kvs xs :=
 Paired.i9y r fun _ _ z => ⟨z.1, ht _ _ z.2.1, z.2.2⟩
section
variable {P : Program} {w : World} {H : Hp} {h : Heap} {a : Addr}
theorem i5t {u : HO} (ok : HOk P w H h) (e : Rd H a u) : b4l P w H h a u := e.ok ok
theorem h5q {kvs : List (Key × V)} (ok : HOk P w H h) (e : Rd H a (.dK kvs)) : kvs.length <= sizeLine /\ (a == sysModules) = false /\ ∃ vs, KV kvs vs /\ h.DictOf (b0p P w) a vs :=
 show b4l P w H h a (.dK kvs) from i5t ok e
theorem i5u {kvs : List (Key × V)} (ok : HOk P w H h) (e : H a = some (.dK kvs)) : kvs.length <= sizeLine /\ (a == sysModules) = false /\ ∃ vs, KV kvs vs /\ h.DictOf (b0p P w) a vs := h5q ok (.inl e)
theorem g6b {ks : List Key} (ok : HOk P w H h) (e : H a = some (.tup (ks.map kV))) : (tupleKind (b0p P w)).is h ks a := by
 obtain ⟨_, its, r, o, h1, h2, n, h3⟩ := (show b4l P w H h a (.tup (ks.map kV)) from ok a _ e)
 exact ⟨o, its.toArray, n, h1, h2, h3, by simpa using f8v r⟩
theorem h5r {kvs : List (List Key × V)} (ok : HOk P w H h) (e : Rd H a (.dT kvs)) : kvs.length <= sizeLine /\ (a == sysModules) = false /\
  ∃ xs, KT H kvs xs /\ h.DictOfH (tupleKind (b0p P w)) a xs := by
 obtain ⟨z, y, xs, r, o, es, ep, h1, h2, h3, h4, h5⟩ := (show b4l P w H h a (.dT kvs) from i5t ok e)
 refine ⟨z, y, xs, r, o, es, ep, h1, h2, h3, h4, fun x hx => ?_, h5⟩
 have all : ∀ {l : List (List Key × V)} {m : List (List Key × Addr × Value)}, KT H l m -> ∀ x ∈ m, (tupleKind (b0p P w)).is h x.1 x.2.1 := by
  intro l m q
  induction q with
  | nil => intro x hx; exact nomatch hx
  | @cons p q ps qs hq t ih =>
   intro x hx
   rcases List.mem_cons.mp hx with e | hx
   ·subst e
    exact g6b ok (by rw [<- hq.1]; exact hq.2.1)
   ·exact ih x hx
 exact all r x hx
theorem j0n {kvs : List (List Key × V)} (ok : HOk P w H h) (e : H a = some (.dT kvs)) : kvs.length <= sizeLine /\ (a == sysModules) = false /\
  ∃ xs, KT H kvs xs /\ h.DictOfH (tupleKind (b0p P w)) a xs := h5r ok (.inl e)
end
def h0v (H : Hp) (a : Addr) (y : V) (r : Option V) : Prop :=
 (∃ kvs k, Rd H a (.dK kvs) /\ y = kV k /\ r = d7o kvs k) \/ ∃ kvs k b, Rd H a (.dT kvs) /\ y = .ref b /\ H b = some (.tup (k.map kV)) /\ r = d7o kvs k
def i3w (H : Hp) (a : Addr) (y v : V) (H' : Hp) : Prop :=
 (∃ kvs k, H a = some (.dK kvs) /\ y = kV k /\ kvs.length < sizeLine /\ H' = upd H a (.dK (putK kvs k v))) \/
 ∃ kvs k b, H a = some (.dT kvs) /\ y = .ref b /\ H b = some (.tup (k.map kV)) /\ kvs.length < sizeLine /\ H' = upd H a (.dT (putK kvs k v))
theorem h0v.k {H : Hp} {a : Addr} {kvs : List (Key × V)} {k : Key} (e : H a = some (.dK kvs)) : h0v H a (kV k) (d7o kvs k) := .inl ⟨kvs, k, .inl e, rfl, rfl⟩
theorem h0v.t {H : Hp} {a b : Addr} {kvs : List (List Key × V)} {k : List Key} (e : H a = some (.dT kvs)) (eb : H b = some (.tup (k.map kV))) : h0v H a (.ref b) (d7o kvs k) := .inr ⟨kvs, k, b, .inl e, rfl, eb, rfl⟩
theorem i3w.k {H : Hp} {a : Addr} {kvs : List (Key × V)} {k : Key} {v : V} (e : H a = some (.dK kvs)) (hl : kvs.length < sizeLine) : i3w H a (kV k) v (upd H a (.dK (putK kvs k v))) := .inl ⟨kvs, k, e, rfl, hl, rfl⟩
theorem i3w.t {H : Hp} {a b : Addr} {kvs : List (List Key × V)} {k : List Key} {v : V} (e : H a = some (.dT kvs)) (eb : H b = some (.tup (k.map kV))) (hl : kvs.length < sizeLine) :
  i3w H a (.ref b) v (upd H a (.dT (putK kvs k v))) := .inr ⟨kvs, k, b, e, rfl, eb, hl, rfl⟩
section
variable {X : Cx} {pins : List (Addr × Obj)} {σ : St} {H : Hp} {s : Shared} {a : Addr} {y v : V} {u r : Value} {o : Option V} {A : Around} {E : Value -> Shared -> Prop}
theorem Inv.big (I : Inv X pins σ H s) : sysModules < s.heap.objs.size := by
 have h : mainGlobals < s.heap.objs.size := (I.mod.glob.keeps I.bk).lt
 exact Nat.lt_trans (by decide) h
theorem h0w {Q : Value -> Shared -> Prop} (hu : A.units + 1 < cLine) (I : Inv X pins σ H s) (g : h0v H a y (some v)) (ry : RelV y u) (h : ∀ w' s', Inv X pins σ H s' -> RelV v w' -> Q w' s') :
  wpAny (model X.prog X.w) A (getItem (.ref a) u) Q E s := by
 rcases g with ⟨kvs, k, e, ey, l⟩ | ⟨kvs, k, b, e, ey, eb, l⟩
 ·subst ey
  obtain ⟨z, hd, vs, rel, dd⟩ := h5q I.hok e
  obtain ⟨w', hw, rw'⟩ := g1q.some_of (v := v) (o := valueAt vs k) (by rw [l]; exact rel.val k)
  exact wpAny_getItem_of (h0u ry) dd.mapOf hw (h w' _ (I.tok _) rw')
 ·subst ey
  cases (show u = Value.ref b from ry)
  obtain ⟨z, hd, xs, rel, dd⟩ := h5r I.hok e
  obtain ⟨w', hw, rw'⟩ := g1q.some_of (v := v) (o := (atKey xs k).map (·.2)) (by rw [l]; exact rel.val k)
  obtain ⟨p, hp, hp2⟩ := Option.map_eq_some_iff.mp hw
  refine wpAny_getItem_heap (tupleKind_room_in1 hu) (g6b I.hok eb) dd hp ?_
  rw [hp2]
  exact h w' _ (I.tok _) rw'
theorem i0h {Q : Value -> Shared -> Prop} (hu : A.units + 1 < cLine) (I : Inv X pins σ H s) (g : h0v H a y o) (ry : RelV y u) (h : ∀ s', Inv X pins σ H s' -> Q (.bool (!o.isSome)) s') :
  wpAny (model X.prog X.w) A (compareOp .NotIn u (.ref a)) Q E s := by
 rcases g with ⟨kvs, k, e, ey, l⟩ | ⟨kvs, k, b, e, ey, eb, l⟩
 ·subst ey
  obtain ⟨z, hd, vs, rel, dd⟩ := h5q I.hok e
  refine wpAny_notIn_of (h0u ry) hd dd.mapOf ?_
  rw [<- (rel.val k).d8p, <- l]
  exact h _ (I.tok _)
 ·subst ey
  cases (show u = Value.ref b from ry)
  obtain ⟨z, hd, xs, rel, dd⟩ := h5r I.hok e
  refine wpAny_notIn_heap (tupleKind_room_in1 hu) (g6b I.hok eb) hd dd ?_
  have q := (rel.val k).d8p
  rw [Option.isSome_map] at q
  rw [<- q, <- l]
  exact h _ (I.tok _)
theorem g1x {h' : Heap} {t' : Nat} {ob : HO} (I : Inv X pins σ H s) (mu : Mut (H a)) (hs : Heap.SameBut a s.heap h') (he : ∃ q, h'.get? a = some q) (new : b4l X.prog X.w (upd H a ob) h' a ob) :
  Inv X pins σ (upd H a ob) { s with heap := h', toks := t' } :=
 I.write (x := a) (e := a) mu (.inl rfl) (fun b q hb z => (hs.2 b hb).trans z) he new
theorem h8e {P : Program} {w : World} {H' : Hp} {h' : Heap} {kvs : List (Key × V)} {vs : List (Key × Value)} (z : kvs.length <= sizeLine) (hd : (a == sysModules) = false) (rel : KV kvs vs) (dd : h'.DictOf (b0p P w) a vs) :
  b4l P w H' h' a (.dK kvs) := ⟨z, hd, vs, rel, dd⟩
theorem h0x {H' : Hp} {Q : Unit -> Shared -> Prop} (hu : A.units + 1 < cLine) (I : Inv X pins σ H s) (g : i3w H a y v H') (ry : RelV y u) (rv : RelV v r) (h : ∀ s', Inv X pins σ H' s' -> Q () s') :
  wpAny (model X.prog X.w) A (setItem (.ref a) u r) Q E s := by
 rcases g with ⟨kvs, k, e, ey, l, eH⟩ | ⟨kvs, k, b, e, ey, eb, l, eH⟩
 ·subst ey eH
  obtain ⟨z, hd, vs, rel, dd⟩ := i5u I.hok e
  have hz : vs.length <= sizeLine := by rw [<- rel.length]; exact z
  have hl : (putK kvs k v).length <= sizeLine := by have := c9u kvs k v; omega
  refine wpAny_setItem_pairs (hsz := hz) (h0u ry) dd fun h' dd' hs => h _ ?_
  have he : ∃ q, h'.get? a = some q := let ⟨q, _, _, hq, _⟩ := dd'; ⟨q, hq⟩
  exact g1x I (by rw [e]; exact True.intro) hs he (h8e hl hd (rel.put k rv) dd')
 ·subst ey eH
  cases (show u = Value.ref b from ry)
  obtain ⟨z, hd, xs, rel, dd⟩ := j0n I.hok e
  have hz : xs.length <= sizeLine := by rw [<- Paired.length rel]; exact z
  have hl : (putK kvs k v).length <= sizeLine := by have := c9u kvs k v; omega
  refine wpAny_setItem_heap (hsz := hz) (tupleKind_room_in1 hu) (g6b I.hok eb) dd fun h' dd' hs => h _ ?_
  obtain ⟨q, es, ep, hq, h2, h3, h4, _, h5⟩ := dd'
  refine g1x I (by rw [e]; exact True.intro) hs ⟨q, hq⟩ ⟨hl, hd, _, (rel.put k eb rv).keeps fun c ys ec => ?_, q, es, ep, hq, h2, h3, h4, h5⟩
  rw [a3p (i9x ec e (fun z => nomatch z))]
  exact ec
end
section
variable {X : Cx} {pins : List (Addr × Obj)} {σ : St} {H : Hp} {s : Shared} {a : Addr} {kvs : List (Key × V)} {k : Key} {u : Value} {A : Around} {E : Value -> Shared -> Prop}
end
def j3n (i : Expr) : Prop := ∀ ov iv, subscripted i false ov iv = operate [ov, iv] (getItem ov iv)
theorem i0i {prog : Program} {w : World} {A : Around} {E : Value -> Shared -> Prop} {s : Shared} {env : Env} {value slice : Expr} {pos : Pos} {T id : String} {Q : Value -> Shared -> Prop}
  (hl : typeLookup (.type T) "__getitem__" = pure (some (.builtin id))) (hs : j3n slice)
  (h : wpAny (model prog w) A (eval value env) (fun o s₁ => wpAny (model prog w) A (eval slice env) (fun i s₂ => s₂.TypeIs o T /\ wpAny (model prog w) A (getItem o i) Q E s₂) E s₁) E s) :
  wpAny (model prog w) A (eval (.Subscript value slice pos) env) Q E s := by
 refine Subscript_ (wpAny_mono h (fun o s₁ h₁ => wpAny_mono h₁ (fun i s₂ h₂ => ?_) fun _ _ x => x) fun _ _ x => x)
 obtain ⟨hT, h₂⟩ := h₂
 unfold subscriptTail
 refine wpAny_bind ?_
 rw [getitemInPython_of_ne hT.not_modules]
 refine wpAny_bind (wpAny_specialOf hT hl ?_)
 have fin : wpAny (model prog w) A (subscripted slice false o i) (fun r s₃ => wpAny (model prog w) A (letTemporaryGo value o r >>= fun _ => pure r) Q E s₃) E s₂ := by
  rw [hs o i]
  exact wpAny_operating (wpAny_mono h₂ (fun r s₃ h₃ => wpAny_bind (wpAny_letTemporaryGo (wpAny_pure h₃))) fun _ _ x => x)
 first
  | exact wpAny_pure (wpAny_bind fin)
  | exact wpAny_bind (wpAny_pure (wpAny_bind fin))
  | exact wpAny_bind fin
theorem g1y {X : Cx} {pins : List (Addr × Obj)} {σ : St} {H : Hp} {s : Shared} {a : Addr} {y : V} {o : Option V} (I : Inv X pins σ H s) (g : h0v H a y o) : s.TypeIs (.ref a) "dict" := by
 rcases g with ⟨kvs, k, e, _, _⟩ | ⟨kvs, k, b, e, _, _, _⟩
 ·obtain ⟨_, _, vs, _, dd⟩ := h5q I.hok e
  exact dd.typeIs
 ·obtain ⟨_, _, xs, _, dd⟩ := h5r I.hok e
  exact dd.typeIs
section
variable {X : Cx} {o i e value : Expr} {pos pos' tpos : Pos} {td ty tv : TE}
end
theorem h5s {P : Program} {w : World} {H : Hp} (h : Heap) (hb : sysModules < h.objs.size) : b4l P w H (h.push { cls := .type "dict", data := .dict #[] }) h.objs.size (.dK []) :=
 ⟨Nat.zero_le _, beq_eq_false_iff_ne.mpr (Ne.symm (Nat.ne_of_lt hb)), [], .nil, Heap.DictOf.new h⟩
section
variable {X : Cx} {pos : Pos}
end
noncomputable def h8f : List (TE × TE) -> St -> Hp -> (List (V × V) -> Hp -> Prop) -> Prop
 | [], _, H, Q => Q [] H
 | (tk, tv) :: r, σ, H, Q => tk σ H fun x H1 => tv σ H1 fun y H2 => h8f r σ H2 fun ps H3 => Q ((x, y) :: ps) H3
noncomputable abbrev VV : List (V × V) -> List (Value × Value) -> Prop := Paired fun p q => RelV p.1 q.1 /\ RelV p.2 q.2
def PPs (X : Cx) (pos : Pos) (keys : List (Option Expr)) (values : List Expr) (trs : List (TE × TE)) : Prop :=
 ∀ (pins : List (Addr × Obj)) (s : Shared) (σ : St) (H : Hp) (Q : List (V × V) -> Hp -> Prop), Inv X pins σ H s -> h8f trs σ H Q ->
  wpAny (model X.prog X.w) X.A (evalPairs (pairTrees keys values X.env pos)) (fun vs s' => ∃ ps H', Inv X pins σ H' s' /\ VV ps vs /\ Q ps H') X.xe s
theorem i0j {X : Cx} {pos : Pos} : PPs X pos [] [] [] := fun pins s σ H Q I h => pairTrees_nil_walk ⟨[], H, I, .nil, h⟩
theorem h5t {X : Cx} {pos : Pos} {k v : Expr} {ks : List (Option Expr)} {vs : List Expr} {tk tv : TE} {trs : List (TE × TE)} (hk : PE X k tk) (hv : PE X v tv) (hr : PPs X pos ks vs trs) :
  PPs X pos (some k :: ks) (v :: vs) ((tk, tv) :: trs) := fun pins s σ H Q I h =>
 pairTrees_cons_walk (thn (hk pins s σ H _ I h) fun u s1 ⟨x, H1, I1, rx, q1⟩ => thn (hv pins s1 σ H1 _ I1 q1) fun w2 s2 ⟨y, H2, I2, ry, q2⟩ =>
  thn (hr pins s2 σ H2 _ I2 q2) fun ws s3 ⟨ps, H3, I3, rel, q3⟩ => ⟨(x, y) :: ps, H3, I3, .cons ⟨rx, ry⟩ rel, q3⟩)
noncomputable def g6c (kvs more : List (Key × V)) : List (Key × V) := more.foldl (fun acc kv => putK acc kv.1 kv.2) kvs
theorem KV.merge : ∀ {more : List (Key × V)} {rs : List (Key × Value)} {kvs : List (Key × V)} {vs : List (Key × Value)}, KV more rs -> KV kvs vs -> KV (g6c kvs more) (merged vs rs) := by
 intro more rs kvs vs r
 unfold KV at r
 induction r generalizing kvs vs with
 | nil => intro q; exact q
 | @cons p q ps qs h t ih =>
  intro r0
  have e : KV (putK kvs p.1 p.2) (stored vs q.1 q.2) := by
   have := r0.put p.1 h.2
   rw [<- h.1]; exact this
  exact ih e
theorem d1p : ∀ (more kvs : List (Key × V)), (g6c kvs more).length <= kvs.length + more.length
 | [], kvs => by show kvs.length <= kvs.length + 0; omega
 | p :: r, kvs => by
  have h1 := d1p r (putK kvs p.1 p.2)
  have h2 := c9u kvs p.1 p.2
  show (g6c (putK kvs p.1 p.2) r).length <= _
  rw [List.length_cons]; omega
theorem f3j {P : Program} {w : World} : ∀ {kvs : List (Key × V)} {ws : List (Value × Value)}, VV (kvs.map fun kv => (kV kv.1, kv.2)) ws -> ∃ rs, Carries (b0p P w) ws rs /\ KV kvs rs
 | [], _, r => by rw [List.map_nil] at r; cases r; exact ⟨[], True.intro, .nil⟩
 | p :: kvs, _, r => by
  rw [List.map_cons] at r
  cases r with
  | @cons a b as bs h t =>
   obtain ⟨rs, c, q⟩ := f3j (P := P) (w := w) t
   obtain ⟨b1, b2⟩ := b
   exact ⟨(p.1, b2) :: rs, ⟨h0u h.1, rfl, c⟩, .cons ⟨rfl, h.2⟩ q⟩
structure M1 (X : Cx) (o : Expr) (m : Str) (apos : Pos) (e : Expr) (cpos : Pos) : Prop where
 base : attributeBase o m X.env (eval o X.env) = eval o X.env
 few : ((backTo cpos (starEach [e] X.env)).all (fun x => !x.1) && (backToKw cpos (keywordEach [] X.env)).all (fun x => x.1.isSome)
  && decide (([e] : List Expr).length + ([] : List Keyword).length + (if ([] : List Keyword).isEmpty then 0 else 1) < 30)) = true
 line : (apos.endLine == cpos.line) = true
 trees : backTo cpos (starEach [e] X.env) = [(false, eval e X.env)]
structure M2 (X : Cx) (o : Expr) (m : Str) (apos : Pos) (e f : Expr) (cpos : Pos) : Prop where
 base : attributeBase o m X.env (eval o X.env) = eval o X.env
 few : ((backTo cpos (starEach [e, f] X.env)).all (fun x => !x.1) && (backToKw cpos (keywordEach [] X.env)).all (fun x => x.1.isSome)
  && decide (([e, f] : List Expr).length + ([] : List Keyword).length + (if ([] : List Keyword).isEmpty then 0 else 1) < 30)) = true
 line : (apos.endLine == cpos.line) = true
 trees : backTo cpos (starEach [e, f] X.env) = [(false, eval e X.env), (false, eval f X.env)]
section
variable {X : Cx} {pins : List (Addr × Obj)} {σ : St} {H : Hp} {s : Shared} {a : Addr} {y d : V} {u r : Value} {o : Option V} {A : Around} {E : Value -> Shared -> Prop}
end
section
variable {X : Cx} {o e f : Expr} {apos cpos : Pos} {td ty tx : TE}
end
section
variable {X : Cx} {pins : List (Addr × Obj)} {σ : St} {H : Hp} {s : Shared} {a : Addr} {kvs : List (Key × V)} {A : Around} {E : Value -> Shared -> Prop}
end
section
variable {X : Cx} {pins : List (Addr × Obj)} {σ : St} {H : Hp} {s : Shared} {a : Addr} {y : V} {u : Value} {A : Around} {E : Value -> Shared -> Prop}
end
section
variable {X : Cx}
end
section
variable {κ : Type} [DecidableEq κ]
end
end L2
namespace L2
open PySem PySem.Spec PyProof.Rows
open PySem.Builtin.Int (intBits)
section
variable {X : Cx} {a b c : Expr} {ta tb tc : TE} {pos : Pos}
theorem i0k : OpR X (binaryOp .Mult) (rI IntMulOk fun i j => .int (i * j)) := opI fun _ _ _ _ _ _ _ hc q => mul_int q hc
def CFd (i j : Int) : Prop := j ≠ 0 /\ intBits j <= 9000
theorem g1z {j : Int} (h : j ≠ 0) (hb : intBits j <= 9000) : j.natAbs.log2 < 9000 := by
 have h1 := intBits_le_iff.mp hb
 exact (Nat.log2_lt (by omega)).mpr h1
theorem h5u : OpR X (binaryOp .FloorDiv) (rI CFd fun i j => .int (i.fdiv j)) := opI fun i j _ _ _ _ _ hc q =>
 floordiv_int hc.1 q (.inl (PyProof.noPylong_of_log2 (g1z hc.1 hc.2)))
inductive Ty where
 | non | bl | int | str | lst | tup | dct
 deriving DecidableEq
noncomputable def Ty.nm : Ty -> String
 | .non => "NoneType" | .bl => "bool" | .int => "int" | .str => "str" | .lst => "list" | .tup => "tuple" | .dct => "dict"
noncomputable def h8g (H : Hp) : V -> Option Ty
 | .non => some .non
 | .bl _ => some .bl
 | .int _ => some .int
 | .str _ => some .str
 | .ref a => match H a with
  | some (.lst _) => some .lst
  | some (.frz _ (.lst _)) => some .lst
  | some (.tup _) => some .tup
  | some (.dK _) => some .dct
  | some (.dT _) => some .dct
  | _ => none
 | _ => none
noncomputable def h8h (t T : Ty) : Bool := decide (t = T) || (decide (t = .bl) && decide (T = .int))
theorem i0l {K : PySem.W.Frag} {H : Hp} {x : V} {t : Ty} (h : h8g H x = some t) : g7j K H x (.type t.nm) := by
 cases x with
 | non => cases h; exact .non
 | bl b => cases h; exact .bl b
 | int i => cases h; exact .int i
 | str s => cases h; exact .str s
 | byt b => cases h
 | flt b => cases h
 | ty n => cases h
 | ref a =>
  unfold h8g at h
  cases e : H a with
  | none => simp [e] at h
  | some o =>
   cases o with
   | lst xs => simp [e] at h; subst h; exact .lst e
   | tup xs => simp [e] at h; subst h; exact .tup e
   | dK kvs => simp [e] at h; subst h; exact .dK e
   | dT kvs => simp [e] at h; subst h; exact .dT e
   | frz ob u =>
    cases u with
    | lst xs => simp [e] at h; subst h; exact .frz e
    | _ => simp [e] at h
   | _ => simp [e] at h
theorem i5v {K : PySem.W.Frag} (t T : Ty) : PySem.W.kitOne K (.type t.nm) (.type T.nm) = some (h8h t T) := by
 cases t <;> cases T <;> rfl
noncomputable def rIsT (T : Ty) : List V -> Hp -> VK -> Prop := fun xs H Q => match xs with
 | [x, .ty n] => n = T.nm /\ ∃ t, h8g H x = some t /\ Q (.bl (h8h t T)) H
 | _ => False
theorem c1i (T : Ty) : b7w X (.builtin "isinstance") (rIsT T) := by
 intro pins s σ H xs us Q I r h
 match xs, r, h with
 | [x, .ty n], r, h =>
  obtain ⟨rfl, t, ht, q⟩ := h
  obtain ⟨u, v, rfl, r1, r2⟩ := vals2 r
  cases (show v = Value.type T.nm from r2)
  exact h0m I r1 (i0l ht) (i5v t T) fun tk => ⟨.bl _, H, I.tok tk, rfl, q⟩
mutual
inductive f7u (K : PySem.W.Frag) (H : Hp) : V -> PyData -> Prop
 | non : f7u K H .non .none
 | bl (b : Bool) : f7u K H (.bl b) (.bool b)
 | int (i : Int) : f7u K H (.int i) (.int i)
 | str (x : Str) : f7u K H (.str x) (.str x)
 | lst {a : Addr} {xs : List V} {ds : List PyData} : SqL K H a xs -> c6t K H xs ds -> f7u K H (.ref a) (.list ds)
 | tup {a : Addr} {xs : List V} {ds : List PyData} : SqT K H a xs -> c6t K H xs ds -> f7u K H (.ref a) (.tuple ds)
inductive c6t (K : PySem.W.Frag) (H : Hp) : List V -> List PyData -> Prop
 | nil : c6t K H [] []
 | cons {x : V} {xs : List V} {d : PyData} {ds : List PyData} : f7u K H x d -> c6t K H xs ds -> c6t K H (x :: xs) (d :: ds)
end
section
variable {pins : List (Addr × Obj)} {σ : St} {H : Hp} {s : Shared}
mutual
theorem Inv.reads (I : Inv X pins σ H s) : ∀ {v : V} {d : PyData} {u : Value}, f7u X.K H v d -> RelV v u -> ∃ as, Reads s.heap u d as
 | _, _, _, .non, r => by cases (show _ = Value.none from r); exact ⟨_, .none⟩
 | _, _, _, .bl b, r => by cases (show _ = Value.bool b from r); exact ⟨_, .bool b⟩
 | _, _, _, .int i, r => by obtain ⟨t, rfl⟩ := r; exact ⟨_, .int i t⟩
 | _, _, _, .str x, r => by obtain ⟨t, rfl⟩ := r; exact ⟨_, .str x t⟩
 | _, _, _, .lst (a := a) hs ha, r => by
  cases (show _ = Value.ref a from r)
  obtain ⟨its, rv, ⟨o, n, e, c, _, dd⟩, _⟩ := I.list hs
  obtain ⟨as, q⟩ := Inv.readsAll I ha rv
  exact ⟨_, .list e c dd (by simpa using q)⟩
 | _, _, _, .tup (a := a) hs ha, r => by
  cases (show _ = Value.ref a from r)
  obtain ⟨its, rv, ⟨o, e, c, n, dd⟩, _⟩ := I.tuple hs
  obtain ⟨as, q⟩ := Inv.readsAll I ha rv
  exact ⟨_, .tuple e c dd (by simpa using q)⟩
theorem Inv.readsAll (I : Inv X pins σ H s) : ∀ {vs : List V} {ds : List PyData} {us : List Value}, c6t X.K H vs ds -> Vals vs us -> ∃ as, ReadsAll s.heap us ds as
 | _, _, _, .nil, .nil => ⟨_, .nil⟩
 | _, _, _, .cons h t, .cons r q => by
  obtain ⟨as, x⟩ := Inv.reads I h r
  obtain ⟨bs, y⟩ := Inv.readsAll I t q
  exact ⟨_, .cons x y⟩
end
end
def i5w (K : PySem.W.Frag) : R2 := fun x y H Q => ∃ d e, f7u K H x d /\ f7u K H y e /\ SeqAt.shaped d = true /\ SeqAt.shaped e = true /\ Q (.bl (PyData.eqv d e)) H
def i9j (K : PySem.W.Frag) : R2 := fun x y H Q => ∃ d e, f7u K H x d /\ f7u K H y e /\ SeqAt.shaped d = true /\ SeqAt.shaped e = true /\ Q (.bl (!PyData.eqv d e)) H
theorem i5x (hu : X.A.units + 64 < cLine) : OpR X (compareOp .Eq) (i5w X.K) := by
 intro pins s σ H x y v u Q I rx ry h
 obtain ⟨d, e, hd, he, sd, se, q⟩ := h
 obtain ⟨as, ra⟩ := I.reads hd rx
 obtain ⟨bs, rb⟩ := I.reads he ry
 exact eq_dataH ra rb sd se hu ⟨.bl _, H, I, rfl, q⟩
theorem i5y (hu : X.A.units + 64 < cLine) : OpR X (compareOp .NotEq) (i9j X.K) := by
 intro pins s σ H x y v u Q I rx ry h
 obtain ⟨d, e, hd, he, sd, se, q⟩ := h
 obtain ⟨as, ra⟩ := I.reads hd rx
 obtain ⟨bs, rb⟩ := I.reads he ry
 exact ne_dataH ra rb sd se hu ⟨.bl _, H, I, rfl, q⟩
end
noncomputable def Itr3 (lo c : Int) (n : Nat) : It := ⟨fun i _ => i < n, fun i H x H' => H' = H /\ x = .int (lo + i * c), fun i _ => n <= i⟩
noncomputable def rngN (lo hi c : Int) : Nat := (Builtin.Range.rangeSize lo hi c).toNat
section
variable {X : Cx} {tg : Expr}
end
def i5z (J : It) (g : TG) (tb : TS) (D : Ends) (σ : St) (H : Hp) : Prop := ∃ W : Nat -> Nat -> St -> Hp -> Prop, (∃ m, W 0 m σ H) /\ ∀ i m σ H, W i m σ H ->
 (J.stop i H /\ D.nx σ H) \/ (J.go i H /\ ∃ N : St -> Hp -> Prop, (∀ σ' H', N σ' H' -> ∃ m', m' < m /\ W (i + 1) m' σ' H') /\ ∀ x H', J.yld i H x H' -> g x σ H' fun σ2 H2 => tb { D with nx := N, ct := N, bk := D.nx } σ2 H2)
def j0o (wi : TI) (g : TG) (tb : TS) : TS := fun D σ H => wi σ H fun J H1 => i5z J g tb D σ H1
theorem a7u {X : Cx} {tg iter : Expr} {body : List Stmt} {wi : TI} {g : TG} {tb : TS} {pos : Pos} (hp : PassesOwn (model X.prog X.w) X.A X.env X.xe) (hc : X.calm = true) (hi : PI X tg iter wi) (hg : PG X tg g) (hb : PSs X body tb)
  (hs : ∀ x, foldedSetIterable iter X.env x = pure x := by intro _; rfl) : PS X (.For tg iter body [] pos) (j0o wi g tb) := i4w hp hc hi hg hb hs
theorem a5q {K : PySem.W.Frag} {a : Addr} {xs : List V} {g : TG} {tb : TS} {D : Ends} {σ : St} {H : Hp} (Pv : Nat -> St -> Hp -> Prop) (h0 : Pv 0 σ H) (hl : ∀ i σ H, i <= xs.length -> Pv i σ H -> SqL K H a xs)
  (hs : ∀ i x σ H, xs[i]? = some x -> Pv i σ H -> g x σ H fun σ2 H2 => tb { D with nx := Pv (i + 1), ct := Pv (i + 1), bk := D.nx } σ2 H2) (hd : ∀ σ H, Pv xs.length σ H -> D.nx σ H) : i5z (Itl K a) g tb D σ H := h5g Pv h0 hl hs hd
theorem f3k {lo : Int} {n : Nat} {g : TG} {tb : TS} {D : Ends} {σ : St} {H : Hp} (Pv : Nat -> St -> Hp -> Prop) (h0 : Pv 0 σ H)
  (hs : ∀ i σ H, i < n -> Pv i σ H -> g (.int (lo + i)) σ H fun σ2 H2 => tb { D with nx := Pv (i + 1), ct := Pv (i + 1), bk := D.nx } σ2 H2) (hd : ∀ σ H, Pv n σ H -> D.nx σ H) : i5z (Itr lo n) g tb D σ H := h0d Pv h0 hs hd
def h8i (c : TT) (tb : TS) (D : Ends) (σ : St) (H : Hp) : Prop := ∃ W : Nat -> St -> Hp -> Prop, (∃ m, W m σ H) /\ ∀ m σ H, W m σ H ->
 c σ H fun b H1 => if b = true then tb { D with nx := fun σ' H' => ∃ m', m' < m /\ W m' σ' H', ct := fun σ' H' => ∃ m', m' < m /\ W m' σ' H', bk := D.nx } σ H1 else D.nx σ H1
def i0m (c : TT) (tb : TS) : TS := fun D σ H => h8i c tb D σ H
theorem d8q {X : Cx} {c : Expr} {body : List Stmt} {tc : TT} {tb : TS} {pos : Pos} (hp : PassesOwn (model X.prog X.w) X.A X.env X.xe) (hc : PT X c tc) (hb : PSs X body tb) : PS X (.While c body [] pos) (i0m tc tb) := by
 intro pins s σ H D I h
 obtain ⟨W, ⟨m0, w0⟩, turn⟩ := h
 refine wpAny_While (codeAny_whileLoop (fun n s' => ∃ σ' H', Inv X pins σ' H' s' /\ W n σ' H') ?_ m0 ⟨σ, H, I, w0⟩)
 rintro n s1 ⟨σ1, H1, I1, w1⟩
 refine wpAny_passesOwn hp (thn (hc pins s1 σ1 H1 _ I1 (turn n σ1 H1 w1)) fun b s2 ⟨H2, I2, q2⟩ => ?_)
 cases b with
 | true =>
  rw [if_pos rfl]
  refine wpAny_passesOwn hp (thn (hb pins s2 σ1 H2 _ I2 q2) fun f s3 q3 => ?_)
  cases f with
  | next =>
   obtain ⟨σ3, H3, I3, m', hm, w3⟩ := q3
   exact ⟨m', hm, σ3, H3, I3, w3⟩
  | cont =>
   obtain ⟨σ3, H3, I3, m', hm, w3⟩ := q3
   exact ⟨m', hm, σ3, H3, I3, w3⟩
  | brk => exact q3
  | ret v => exact q3
 | false =>
  rw [if_neg Bool.false_ne_true]
  exact wpAny_execs_nil ⟨σ1, H2, I2, q2⟩
theorem d8r {c : TT} {tb : TS} {D : Ends} {σ : St} {H : Hp} (Pv : Nat -> St -> Hp -> Prop) (m0 : Nat) (h0 : Pv m0 σ H)
  (hs : ∀ m σ H, Pv m σ H -> c σ H fun b H1 => if b = true then tb { D with nx := fun σ' H' => ∃ m', m' < m /\ Pv m' σ' H', ct := fun σ' H' => ∃ m', m' < m /\ Pv m' σ' H', bk := D.nx } σ H1 else D.nx σ H1) : h8i c tb D σ H :=
 ⟨Pv, ⟨m0, h0⟩, hs⟩
end L2
namespace Att
open PySem PySem.W PySem.Calls PyProof.Rows
open PySem.Builtin.Int (intBits)
theorem g2a {ns : List Int} (h : WData.layableAll [WData.list (ns.map WData.int)] = true) : ∀ n ∈ ns, intBits n <= 1048576 := by
 intro n hn
 have h1 := layableW_arg h _ (List.mem_singleton.mpr rfl)
 have h2 := layableW_item h1 (WData.int n) (List.mem_map.mpr ⟨n, hn, rfl⟩)
 have h3 := (layableW_iff.mp h2).2.2
 exact h3
theorem f8w {l : OpenLaw} {n : Nat} {q : Program} {loose : List Str} {XP : (Str -> Option Value) -> Heap -> Prop} {YP : World -> Heap -> Prop} {d : DefRec}
  (hn : l.most = some n) (hdf : d.params.defaults = [])
  (call : ∀ (w : World) (s₀ s₁ : Shared) (mg mb : Str -> Option Value) (fa : Addr) (o : Obj) (pm cd doc : Value) (a : Addr) (vs : List Value) (ns : List Int),
   Ground q loose [] XP w s₀ mg mb s₁.heap -> YP w s₁.heap ->
   s₁.heap.get? fa = some o -> o.data = .func (docDef d.name d.params d.body d.scope pm cd doc) -> s₁.heap.CodeRec cd d.name -> mg d.name = some (.ref fa) ->
   s₁.heap.get? a = some { cls := .type "list", data := .seq vs.toArray } → IntsAre vs ns → ns.length ≤ n → (∀ x ∈ ns, intBits x ≤ 1048576) → s₁.gens = #[] →
   codeAny (model l.prog w) callerA (.call (.ref fa) ⟨[.ref a], []⟩) (fun r s' => r = .ok (.ret (.bool true)) /\ OldK s₁.heap s'.heap /\ s'.os = s₁.os /\ AllBare s'.gens) s₁) :
  WalkO q loose XP YP l.row.toRowW d [] (fun f vs => PySem.call f vs) := by
 intro w s₀ s₁ mg mb G Y fa o pm cd doc dV kV ho hd hcd hD hmg hg args vals as hpre hlay hrd hwl hlo
 obtain rfl : dV = .none := Dflts.none hD hdf
 obtain rfl : kV = .none := Dflts.noKw hD
 obtain ⟨a, vs, ns, rfl, rfl, hobj, hints, hlen⟩ := h0r hn hpre hwl
 refine enter_call (codeAny_mono (call w s₀ s₁ mg mb fa o pm cd doc a vs ns G Y ho (fd_plain hd) hcd hmg hobj hints hlen (g2a hlay) hg) fun r s' hq => ?_)
 obtain ⟨rfl, h2, h3, h4⟩ := hq
 exact ⟨.inl ⟨.bool true, .bool true, [], rfl, fun _ => rfl, .bool true, h0s l _, fun _ => ⟨List.Pairwise.nil, fun _ hm => (nomatch hm)⟩⟩, h2, h3, h4⟩
end Att
namespace L2
open PySem PySem.Spec PyProof.Rows
open PySem.Builtin.Int (intBits)
def g2b (n : Nat) (K : PySem.W.Frag) : Sp := fun vs H Q _ => ∃ (a : Addr) (ns : List Int), vs = [.ref a] /\ SqL K H a (ns.map V.int) /\ ns.length <= n /\ (∀ x ∈ ns, intBits x <= 1048576) /\ Only H /\ ∀ H', Q (.bl true) H'
theorem h5v {l : PySem.W.OpenLaw} {k : Nat} {q : Program} {loose : List Str} {XP : (Str -> Option Value) -> Heap -> Prop} {YP : World -> Heap -> Prop} {d : DefRec} {K : Params -> PySem.W.Frag} {CX : World -> CXT} {x : Str}
  (hn : l.most = some 63) (hdf : d.params.defaults = []) (hr : a2k k callerA)
  (hY : ∀ (w : World) (h : Heap), YP w h -> (K w.params).In h)
  (F : ∀ (w : World) (mg : Str -> Option Value) (fa : Addr) (h : Heap), (K w.params).In h -> h.Ns mainGlobals mg -> mg d.name = some (.ref fa) ->
   ∃ fd : FuncData, (∀ (s : Shared) (u : Value), BindsTo s fd ⟨[u], []⟩ [(x, u)]) /\
    ∀ base : Heap, (K w.params).In base -> base.Ns mainGlobals mg -> a1k l.prog w (K w.params) mg base (CX w) k fa fd [x] (g2b 63 (K w.params)))
  (hCX : ∀ (w : World) (H : Hp) (s : Shared) (e : Value) (s' : Shared), CX w [] H s (fun _ _ _ => False) e s' -> False) :
  PySem.W.WalkO q loose XP YP l.row.toRowW d [] (fun f vs => PySem.call f vs) := by
 refine Att.f8w hn hdf fun w s₀ s₁ mg mb fa o pm cd doc a vs ns G Y ho hd hcd hmg hobj hints hlen hbits hg => ?_
 have KX := hY w _ Y
 obtain ⟨fd, hb, hF⟩ := F w mg fa _ KX G.T.g hmg
 exact h5o KX G.T.g G.T.b G.T.builtins G.T.nolimit hg hobj hints (Nat.le_trans hlen (by decide)) hr hF hb (fun H hO hS => ⟨a, ns, rfl, hS, hlen, hbits, hO, fun _ => rfl⟩) fun H e s' => hCX w H s₁ e s'
end L2
namespace L2
open PySem PySem.Spec PyProof.Rows
theorem Same.upd {H : Hp} {p : Addr} {o : HO} (h : H p = none) : Same H (upd H p o) := fun b u e => by
 rw [a3p (a4y e h)]; exact e
structure Tag {α : Type} (a : α) : Type where
def New (H : Hp) (o : HO) (Q : VK) (_ : Tag Q) : Prop := ∀ p H1, H p = none -> Same H H1 -> H1 p = some o -> Q (.ref p) H1
def All (C : V -> Hp -> Prop) (Q : VK) (_ : Tag C) (_ : Tag Q) : Prop := ∀ v H1, C v H1 -> Q v H1
theorem New.raw {H : Hp} {o : HO} {Q : VK} {t : Tag Q} (h : New H o Q t) : ∀ p, H p = none -> Q (.ref p) (L2.upd H p o) := fun p e => h p _ e (Same.upd e) a2w
theorem j3o {CX : CXT} {P : Program} {w : World} {K : PySem.W.Frag} {mg : Str -> Option Value} {base : Heap} {N : List Str} {qual : Str} {scope : Scope} {f : Addr} {cd : Value} {A : Around} {outer : List Env} {s : Shared} {H : Hp} {E : XK} : (i0b CX P w K mg base N qual scope f cd A outer s H E).K = K := rfl
section
variable {X : Cx} {es : List Expr} {t : TA} {pos : Pos}
def j0p (t : TA) : TE := fun σ H Q => t σ H fun xs H1 => xs.length <= sizeLine /\ New H1 (.tup xs) Q ⟨⟩
def j0q (t : TA) : TE := fun σ H Q => t σ H fun xs H1 => xs.length <= sizeLine /\ New H1 (.lst xs) Q ⟨⟩
end
section
variable {X : Cx} {a b c : Expr} {ta tb tc : TE} {pos : Pos}
def h0y : R2 := fun x y H Q => match x, y with
 | .int i, .int j => Q (.int (i + j)) H
 | .str u, .str v => u.length + v.length <= sizeLine /\ Q (.str (u ++ v)) H
 | .ref l, .ref b => ∃ xs zs, H l = some (.lst xs) /\ H b = some (.lst zs) /\ xs.length + zs.length <= sizeLine /\ New H (.lst (xs ++ zs)) Q ⟨⟩
 | _, _ => False
theorem a1j : OpR X (binaryOp .Add) h0y := by
 intro pins s σ H x y v u Q I rx ry h
 cases x <;> cases y <;> first
  | exact False.elim h
  | exact i4y pins s σ H _ _ v u Q I rx ry ⟨_, _, rfl, rfl, h⟩
  | exact g7g pins s σ H _ _ v u Q I rx ry ⟨_, _, rfl, rfl, h.1, h.2⟩
  | (obtain ⟨xs, zs, h1, h2, h3, h4⟩ := h
     exact i5r pins s σ H _ _ v u Q I rx ry ⟨_, _, _, _, rfl, rfl, h1, h2, h3, h4.raw⟩)
def j0r : R2 := fun x y H Q => match x, y with
 | .int i, .int j => IntMulOk i j /\ Q (.int (i * j)) H
 | .ref l, .int k => ∃ xs, H l = some (.lst xs) /\ -(2 ^ 63) <= k /\ k < 2 ^ 63 /\ xs.length * k.toNat <= sizeLine /\ New H (.lst (List.replicate k.toNat xs).flatten) Q ⟨⟩
 | _, _ => False
theorem a8m : OpR X (binaryOp .Mult) j0r := by
 intro pins s σ H x y v u Q I rx ry h
 cases x <;> cases y <;> first
  | exact False.elim h
  | exact i0k pins s σ H _ _ v u Q I rx ry ⟨_, _, rfl, rfl, h.1, h.2⟩
  | (obtain ⟨xs, h1, h2, h3, h4, h5⟩ := h
     exact i5s pins s σ H _ _ v u Q I rx ry ⟨_, _, _, rfl, rfl, h1, h2, h3, h4, h5.raw⟩)
def j3p (K : PySem.W.Frag) : R2 := fun x y H Q => if h0e x y = true then Q (.bl (decide (x = y))) H else i5w K x y H Q
def j3q (K : PySem.W.Frag) : R2 := fun x y H Q => if h0e x y = true then Q (.bl (!decide (x = y))) H else i9j K x y H Q
theorem b1l (hu : X.A.units + 64 < cLine) : OpR X (compareOp .Eq) (j3p X.K) := by
 intro pins s σ H x y v u Q I rx ry h
 unfold j3p at h
 by_cases hs : h0e x y = true
 ·rw [if_pos hs] at h
  exact j0e pins s σ H x y v u Q I rx ry ⟨hs, h⟩
 ·rw [if_neg hs] at h
  exact i5x hu pins s σ H x y v u Q I rx ry h
theorem b8i (hu : X.A.units + 64 < cLine) : OpR X (compareOp .NotEq) (j3q X.K) := by
 intro pins s σ H x y v u Q I rx ry h
 unfold j3q at h
 by_cases hs : h0e x y = true
 ·rw [if_pos hs] at h
  exact j0f pins s σ H x y v u Q I rx ry ⟨hs, h⟩
 ·rw [if_neg hs] at h
  exact i5y hu pins s σ H x y v u Q I rx ry h
def j3r : R2 := fun x y H Q => match x, y with
 | .ref p, .int i => (match H p with
  | some (.tup xs) => ∃ v, atI xs i = some v /\ Q v H
  | some (.lst xs) => ∃ v, atI xs i = some v /\ Q v H
  | _ => False)
 | .str z, .int i => ∃ c, z.length <= sizeLine /\ atI z.cps.toList i = some c /\ Q (.str ⟨#[c]⟩) H
 | _, _ => False
theorem a3q : IxR X j3r := by
 intro value slice pins s σ H x y v u Q I rx ry h hs
 cases x with
 | ref p =>
  cases y with
  | int i =>
   have h' : (match H p with
    | some (.tup xs) => ∃ v, atI xs i = some v /\ Q v H
    | some (.lst xs) => ∃ v, atI xs i = some v /\ Q v H
    | _ => False) := h
   split at h'
   ·rename_i xs e
    obtain ⟨z, h2, h3⟩ := h'
    exact i5m value slice pins s σ H _ _ v u Q I rx ry ⟨_, xs, _, z, rfl, rfl, SqT.of e, h2, h3⟩ hs
   ·rename_i xs e
    obtain ⟨z, h2, h3⟩ := h'
    exact h0p value slice pins s σ H _ _ v u Q I rx ry ⟨_, xs, _, z, rfl, rfl, SqL.of e, h2, h3⟩ hs
   ·exact h'.elim
  | _ => exact False.elim h
 | str z =>
  cases y with
  | int i =>
   obtain ⟨c, h1, h2, h3⟩ := h
   exact i5n value slice pins s σ H _ _ v u Q I rx ry ⟨_, _, c, rfl, rfl, h1, h2, h3⟩ hs
  | _ => exact False.elim h
 | _ => exact False.elim h
noncomputable def rSlM : V -> Option Int -> Option Int -> Hp -> VK -> Prop := fun x lo hi H Q => match x with
 | .ref a => (match H a with
  | some (.lst xs) => New H (.lst (d3k xs lo hi)) Q ⟨⟩
  | _ => False)
 | _ => False
theorem sl_M : SlR X rSlM := by
 intro pins s σ H x v vl vu lo hi sl Q I rx hs pl pu h
 cases x with
 | ref a =>
  have h' : (match H a with
   | some (.lst xs) => New H (.lst (d3k xs lo hi)) Q ⟨⟩
   | _ => False) := h
  split at h'
  ·rename_i xs e
   exact g1w pins s σ H _ v vl vu lo hi sl Q I rx hs pl pu ⟨_, xs, rfl, SqL.of e, h'.raw⟩
  ·exact h'.elim
 | _ => exact False.elim h
noncomputable def rSlK (K : PySem.W.Frag) : V -> Option Int -> Option Int -> Hp -> VK -> Prop := fun x lo hi H Q => ∃ a xs, x = .ref a /\ SqL K H a xs /\ New H (.lst (d3k xs lo hi)) Q ⟨⟩
theorem sl_K : SlR X (rSlK X.K) := by
 intro pins s σ H x v vl vu lo hi sl Q I rx hs pl pu h
 obtain ⟨a, xs, e, h1, h2⟩ := h
 exact g1w pins s σ H _ v vl vu lo hi sl Q I rx hs pl pu ⟨a, xs, e, h1, h2.raw⟩
noncomputable def j0s : List V -> Hp -> VK -> Prop := fun xs H Q => match xs with
 | [.ref p] => (match H p with
  | some (.lst ys) => Q (.int ys.length) H
  | some (.tup ys) => Q (.int ys.length) H
  | _ => False)
 | [.str z] => z.length <= sizeLine /\ Q (.int z.length) H
 | _ => False
theorem a4i : b7w X (.builtin "len") j0s := by
 intro pins s σ H xs us Q I r h
 match xs, r, h with
 | [.ref p], r, h =>
  have h' : (match H p with
   | some (.lst ys) => Q (.int ys.length) H
   | some (.tup ys) => Q (.int ys.length) H
   | _ => False) := h
  split at h'
  ·rename_i ys e
   exact c6s pins s σ H _ us Q I r ⟨p, ys, rfl, .inl (SqL.of e), h'⟩
  ·rename_i ys e
   exact c6s pins s σ H _ us Q I r ⟨p, ys, rfl, .inr (SqT.of e), h'⟩
  ·exact h'.elim
 | [.str z], r, h => exact f8r pins s σ H _ us Q I r ⟨z, rfl, h.1, h.2⟩
theorem h0z : b7w X (.builtin "len") (fun xs H Q => ∃ p ys, xs = [.ref p] ∧ SqL X.K H p ys ∧ Q (.int ys.length) H) := by
 intro pins s σ H xs us Q I r h
 obtain ⟨p, ys, e, h1, h2⟩ := h
 exact c6s pins s σ H _ us Q I r ⟨p, ys, e, .inl h1, h2⟩
theorem j0t {i j : Int} : h0e (.int i) (.int j) = true := rfl
theorem j0u {i j : Str} : h0e (.str i) (.str j) = true := rfl
theorem j0v {i j : Bool} : h0e (.bl i) (.bl j) = true := rfl
theorem j0w : h0e .non .non = true := rfl
theorem j0x {i j : Addr} : h0e (.ref i) (.ref j) = false := rfl
theorem j3s {H : Hp} {i : Int} : h8g H (.int i) = some .int := rfl
theorem j3t {H : Hp} {i : Str} : h8g H (.str i) = some .str := rfl
theorem j3u {H : Hp} {i : Bool} : h8g H (.bl i) = some .bl := rfl
theorem j3v {H : Hp} : h8g H .non = some .non := rfl
theorem j3w {H : Hp} {a : Addr} : h8g H (.ref a) = (match H a with
  | some (.lst _) => some .lst
  | some (.frz _ (.lst _)) => some .lst
  | some (.tup _) => some .tup
  | some (.dK _) => some .dct
  | some (.dT _) => some .dct
  | _ => none) := rfl
theorem two_line : 2 <= sizeLine := by decide
theorem i6a {α : Type} {x : α} {xs : List α} : atI (x :: xs) 0 = some x := b9r (j := 0) rfl
theorem i6b {α : Type} {x y : α} {xs : List α} : atI (x :: y :: xs) 1 = some y := b9r (j := 1) rfl
theorem i6c {α : Type} {x y z : α} {xs : List α} : atI (x :: y :: z :: xs) 2 = some z := b9r (j := 2) rfl
theorem i6d {α : Type} {x y z u : α} {xs : List α} : atI (x :: y :: z :: u :: xs) 3 = some u := b9r (j := 3) rfl
theorem h8j {p q A B : Prop} [Decidable p] [Decidable q] : (if p then (if q then A else B) else B) = (if p /\ q then A else B) := by
 by_cases hp : p <;> by_cases hq : q <;> simp [hp, hq]
theorem i0n {p q A B : Prop} [Decidable p] [Decidable q] : (if p then A else (if q then A else B)) = (if p \/ q then A else B) := by
 by_cases hp : p <;> by_cases hq : q <;> simp [hp, hq]
end
section
variable {X : Cx} {es : List Expr} {t : TA} {pos : Pos}
theorem PA.weak {t : TA} (h : PA X es t) {u : TA} (q : ∀ σ H (Q : List V -> Hp -> Prop), u σ H Q -> t σ H Q) : PA X es u := fun pos pins s σ H Q I hu => h pos pins s σ H Q I (q σ H Q hu)
theorem a9z {x1} (h : PA X es t) : PE X (.Tuple es x1 pos) (j0p t) := by
 intro pins s σ H Q I hq
 refine wpAny_Tuple_spliced (thn (h pos pins s σ H _ I hq) fun us s1 ⟨xs, H1, I1, r, z, q⟩ => ⟨by rw [<- r.length]; exact z, ?_⟩)
 have hf : H1 s1.heap.objs.size = none := I1.hok.fresh (Nat.le_refl _)
 refine ⟨.ref s1.heap.objs.size, upd H1 s1.heap.objs.size (.tup xs), I1.laid (t' := s1.toks) (fun b u e => Heap.get?_push_of_some _ e) (Nat.le_refl _) ?_, rfl, q.raw _ hf⟩
 exact ⟨z, us, r, ⟨_, Heap.get?_push_size _ rfl, rfl, _, rfl⟩⟩
theorem a2g (h : PA X es t) : PE X (.List es pos) (j0q t) := by
 intro pins s σ H Q I hq
 refine wpAny_List_spliced (thn (h pos pins s σ H _ I hq) fun us s1 ⟨xs, H1, I1, r, z, q⟩ => ⟨by rw [<- r.length]; exact z, ?_⟩)
 have hf : H1 s1.heap.objs.size = none := I1.hok.fresh (Nat.le_refl _)
 refine ⟨.ref s1.heap.objs.size, upd H1 s1.heap.objs.size (.lst xs), I1.laid (t' := s1.toks) (fun b u e => Heap.get?_push_of_some _ e) (Nat.le_refl _) ?_, rfl, q.raw _ hf⟩
 exact ⟨z, us, 0, r, Heap.get?_push_size _ rfl⟩
theorem g7p : b7w X (.type "list") (fun xs H Q => ∃ p ys, xs = [.ref p] ∧ (SqL X.K H p ys ∨ SqT X.K H p ys) ∧ New H (.lst ys) Q ⟨⟩) := by
 intro pins s σ H xs us Q I r h
 obtain ⟨p, ys, e, h1, h2⟩ := h
 exact f8s pins s σ H xs us Q I r ⟨p, ys, e, h1, h2.raw⟩
end
theorem Same.tup {K : PySem.W.Frag} {H H' : Hp} {a : Addr} {xs : List V} (e : Same H H') (h : SqT K H a xs) : SqT K H' a xs := by
 rcases h with (h | ⟨o, h⟩) | h
 ·exact .inl (.inl (e _ _ h))
 ·exact .inl (.inr ⟨o, e _ _ h⟩)
 ·exact .inr h
end L2
namespace L2
open PySem PySem.Spec PyProof.Rows
open PySem.Builtin.Int (intBits)
section
variable {X : Cx} {e a b c : Expr} {es rest : List Expr} {pos : Pos} {tg iter : Expr}
theorem PE.weak {t u : TE} (h : PE X e t) (q : ∀ σ H Q, u σ H Q -> t σ H Q) : PE X e u := fun pins s σ H Q I hu => h pins s σ H Q I (q σ H Q hu)
theorem PT.weak {t u : TT} (h : PT X e t) (q : ∀ σ H Q, u σ H Q -> t σ H Q) : PT X e u := fun pins s σ H Q I hu => h pins s σ H Q I (q σ H Q hu)
theorem PI.weak {t u : TI} (h : PI X tg iter t) (q : ∀ σ H Q, u σ H Q -> t σ H Q) : PI X tg iter u := fun pins s σ H Q I hu => h pins s σ H Q I (q σ H Q hu)
theorem OpR.weak {f : Value -> Value -> Sem Value} {r r' : R2} (h : OpR X f r) (q : ∀ x y H Q, r' x y H Q -> r x y H Q) : OpR X f r' := fun pins s σ H x y v u Q I rx ry hr => h pins s σ H x y v u Q I rx ry (q x y H Q hr)
theorem UnR.weak {f : Value -> Sem Value} {r r' : V -> Hp -> VK -> Prop} (h : UnR X f r) (q : ∀ x H Q, r' x H Q -> r x H Q) : UnR X f r' := fun pins s σ H x v Q I rx hr => h pins s σ H x v Q I rx (q x H Q hr)
theorem b7w.weak {f : Value} {r r' : List V -> Hp -> VK -> Prop} (h : b7w X f r) (q : ∀ xs H Q, r' xs H Q -> r xs H Q) : b7w X f r' := fun pins s σ H xs us Q I rx hr => h pins s σ H xs us Q I rx (q xs H Q hr)
theorem IxR.weak {r r' : R2} (h : IxR X r) (q : ∀ x y H Q, r' x y H Q -> r x y H Q) : IxR X r' := fun value slice pins s σ H x y v u Q I rx ry hr hs => h value slice pins s σ H x y v u Q I rx ry (q x y H Q hr) hs
def d1q (i : Nat) : TE := fun σ H Q => match σ[i]? with
 | some (some v) => Q v H
 | _ => False
theorem pvF (i : Nat) {x : Str} {pos : Pos} (hN : X.N[i]? = some x := by rfl) (hv : Vis X.env.scope x := by first | exact Or.inl rfl | exact Or.inr (Or.inl rfl) | exact Or.inr (Or.inr rfl)) (hd : (x == ("__debug__" : Str)) = false := by decide)
  (hcd : (x == ("__classdict__" : Str)) = false := by decide) : PE X (.Name x pos) (d1q i) := (i4k hN hv hd hcd).weak fun σ H Q h => by
 unfold d1q at h
 split at h
 ·rename_i v e
  exact ⟨v, e, h⟩
 ·exact h.elim
def rIF (C : Int -> Int -> Prop) (g : Int -> Int -> V) : R2 := fun x y H Q => match x, y with
 | .int i, .int j => C i j /\ Q (g i j) H
 | _, _ => False
def i3x (g : Int -> Int -> V) : R2 := fun x y H Q => match x, y with
 | .int i, .int j => Q (g i j) H
 | _, _ => False
theorem g6d {C : Int -> Int -> Prop} {g : Int -> Int -> V} : ∀ x y H Q, rIF C g x y H Q -> rI C g x y H Q := fun x y H Q h => by
 cases x <;> cases y <;> first | exact False.elim h | exact ⟨_, _, rfl, rfl, h⟩
theorem d8s {g : Int -> Int -> V} : ∀ x y H Q, i3x g x y H Q -> rI0 g x y H Q := fun x y H Q h => by
 cases x <;> cases y <;> first | exact False.elim h | exact ⟨_, _, rfl, rfl, h⟩
theorem h1a : OpR X (binaryOp .Sub) (i3x fun i j => .int (i - j)) := i4z.weak d8s
theorem a8n : OpR X (binaryOp .FloorDiv) (rIF CFd fun i j => .int (i.fdiv j)) := h5u.weak g6d
theorem b8j : OpR X (binaryOp .Mod) (rIF (fun _ j => j ≠ 0) fun i j => .int (i.fmod j)) := h9w.weak g6d
theorem d5v : OpR X (binaryOp .Pow) (rIF i9i fun i j => .int (i ^ j.toNat)) := i5a.weak g6d
theorem of_lt : OpR X (compareOp .Lt) (i3x fun i j => .bl (decide (i < j))) := j0g.weak d8s
theorem of_le : OpR X (compareOp .LtE) (i3x fun i j => .bl (decide (i <= j))) := j0h.weak d8s
theorem f2k : OpR X (compareOp .Gt) (i3x fun i j => .bl (decide (j < i))) := j0i.weak d8s
theorem i6e : OpR X (compareOp .GtE) (i3x fun i j => .bl (decide (j <= i))) := j0j.weak d8s
noncomputable def rUF (g : Int -> V) : V -> Hp -> VK -> Prop := fun x H Q => match x with
 | .int i => Q (g i) H
 | _ => False
theorem h8k : UnR X (unaryOp .USub) (rUF fun i => .int (-i)) := i5c.weak fun x H Q h => by
 cases x <;> first | exact False.elim h | exact ⟨_, rfl, h⟩
def tBF (t : TE) : TT := fun σ H Q => t σ H fun x H1 => match x with
 | .bl k => Q k H1
 | _ => False
theorem j0y {x : V} {H1 : Hp} {Q : Bool -> Hp -> Prop} (h : match x with | .bl k => Q k H1 | _ => False) : ∃ k, x = .bl k /\ Q k H1 := by
 cases x <;> first | exact False.elim h | exact ⟨_, rfl, h⟩
theorem a0u {op : CmpOp} {r : R2} {ta tb : TE} (ho : OpR X (compareOp op) r) (ha : PE X a ta) (hb : PE X b tb) (hm : behindInMarks op b = false) : PT X (.Compare a [op] [b] pos) (tBF (tOp r ta tb)) := by
 intro pins s σ H Q I h
 refine (h9x (ho.weak (r' := fun x y H Q => r x y H Q) fun _ _ _ _ z => z) ha hb hm) pins s σ H _ I ?_
 unfold i5e
 exact h |> fun h => by
  unfold tBF at h
  have e : (fun (x : V) (H1 : Hp) => match x with | .bl k => Q k H1 | _ => False) = fun x H1 => ∃ k, x = V.bl k /\ Q k H1 := by
   funext x H1
   cases x <;> simp
  rw [e] at h
  exact h
theorem a6j {t : TE} (h : PE X e t) (he : ∀ whole, isTrue e X.env whole = (do let v <- whole; standAt e.pos; holding [v] (truthy v)) := by intro _; rfl) : PT X e (tBF t) := by
 intro pins s σ H Q I hw
 refine (i4m h he) pins s σ H _ I ?_
 unfold tB
 unfold tBF at hw
 have e : (fun (x : V) (H1 : Hp) => match x with | .bl k => Q k H1 | _ => False) = fun x H1 => ∃ k, x = V.bl k /\ Q k H1 := by
  funext x H1
  cases x <;> simp
 rw [e] at hw
 exact hw
def i6f (ta tb : TE) : TE := fun σ H Q => ta σ H fun x H1 => match x with
 | .bl c => if c = true then tb σ H1 Q else Q (.bl false) H1
 | _ => False
def tOrF (ta tb : TE) : TE := fun σ H Q => ta σ H fun x H1 => match x with
 | .bl c => if c = true then Q (.bl true) H1 else tb σ H1 Q
 | _ => False
def i6g (ta : TE) : TE := fun σ H Q => ta σ H fun x H1 => match x with
 | .bl c => Q (.bl (!c)) H1
 | _ => False
theorem g2c {ta tb : TE} (ha : PE X a ta) (hb : PE X (.BoolOp .And (b :: rest) pos) tb) : PE X (.BoolOp .And (a :: b :: rest) pos) (i6f ta tb) := by
 intro pins s σ H Q I h
 refine (i4p ha hb) pins s σ H Q I ?_
 unfold i4n
 unfold i6f at h
 have e : (fun (x : V) (H1 : Hp) => match x with | .bl c => (if c = true then tb σ H1 Q else Q (.bl false) H1) | _ => False) = fun x H1 => ∃ c, x = V.bl c /\ if c = true then tb σ H1 Q else Q (.bl false) H1 := by
  funext x H1
  cases x <;> simp
 rw [e] at h
 exact h
theorem i0o {ta : TE} (ha : PE X a ta) : PE X (.UnaryOp .Not a pos) (i6g ta) := by
 intro pins s σ H Q I h
 refine (i4q ha) pins s σ H Q I ?_
 unfold i4o
 unfold i6g at h
 have e : (fun (x : V) (H1 : Hp) => match x with | .bl c => Q (.bl (!c)) H1 | _ => False) = fun x H1 => ∃ c, x = V.bl c /\ Q (.bl (!c)) H1 := by
  funext x H1
  cases x <;> simp
 rw [e] at h
 exact h
def h8l (ta : TA) : TI := fun σ H R => ta σ H fun vs H1 => match vs with
 | [.int j] => -(2 ^ 62) <= j /\ j < 2 ^ 62 /\ R (Itr 0 j.toNat) H1
 | _ => False
def j3x (ta : TA) : TI := fun σ H R => ta σ H fun vs H1 => match vs with
 | [.int i, .int j] => (-(2 ^ 62) <= i /\ i < 2 ^ 62 /\ -(2 ^ 62) <= j /\ j < 2 ^ 62) /\ R (Itr i (j - i).toNat) H1
 | _ => False
def j3y (ta : TA) : TI := fun σ H R => ta σ H fun vs H1 => match vs with
 | [.int i, .int j, .int c] => (0 <= i /\ i < 2 ^ 32 /\ 0 <= j /\ j < 2 ^ 32 /\ 0 < c /\ c < 2 ^ 30) /\ R (Itr3 i c (rngN i j c)) H1
 | _ => False
theorem b4n {ta : TA} {p pos : Pos} (hg : Gl X "range") (hm : X.mg "range" = none) (ha : PA X [a] ta) (hs : starEach [a] X.env = [(false, eval a X.env)] := by rfl) : PI X tg (.Call (.Name "range" p) [a] [] pos) (h8l ta) := by
 refine (h0b hg hm ha hs).weak fun σ H R h => ?_
 unfold i4v
 unfold h8l at h
 have e : (fun (vs : List V) (H1 : Hp) => (match vs with | [.int j] => -(2 ^ 62) <= j /\ j < 2 ^ 62 /\ R (Itr 0 j.toNat) H1 | _ => False : Prop)) = fun vs H1 => ∃ j : Int, vs = [.int j] /\ -(2 ^ 62) <= j /\ j < 2 ^ 62 /\ R (Itr 0 j.toNat) H1 := by
  funext vs H1
  refine propext ⟨fun z => ?_, fun ⟨j, e, z⟩ => by subst e; exact z⟩
  match vs, z with
  | [.int j], z => exact ⟨j, rfl, z⟩
 rw [e] at h
 exact h
def h1b (K : PySem.W.Frag) (tl : TE) : TI := fun σ H R => tl σ H fun x H1 => match x with
 | .ref a => (∃ xs, SqL K H1 a xs) /\ R (Itl K a) H1
 | _ => False
theorem a1m {l : Expr} {tl : TE} (hl : PE X l tl) : PI X tg l (h1b X.K tl) := (h9v hl).weak fun σ H R h => by
 unfold i4u
 unfold h1b at h
 have e : (fun (x : V) (H1 : Hp) => match x with | .ref a => (∃ xs, SqL X.K H1 a xs) /\ R (Itl X.K a) H1 | _ => False) = fun x H1 => ∃ a, x = .ref a /\ (∃ xs, SqL X.K H1 a xs) /\ R (Itl X.K a) H1 := by
  funext x H1
  cases x <;> simp
 rw [e] at h
 exact h
def j0z (K : PySem.W.Frag) : R2 := fun x y H Q => match x, y with
 | .ref p, .int i => ∃ ns : List Int, SqL K H p (ns.map V.int) /\ 0 <= i /\ i < ns.length /\ Q (.int (ns.getD i.toNat 0)) H
 | _, _ => False
theorem h5w {ns : List Int} {i : Int} (h0 : 0 <= i) (h1 : i < ns.length) : atI (ns.map V.int) i = some (.int (ns.getD i.toNat 0)) := by
 obtain ⟨j, rfl⟩ := Int.eq_ofNat_of_zero_le h0
 refine b9r ?_
 have hj : j < ns.length := by omega
 rw [List.getElem?_map, List.getElem?_eq_getElem hj, List.getD_eq_getElem?_getD, Int.toNat_natCast, List.getElem?_eq_getElem hj]
 rfl
theorem ix_S : IxR X (j0z X.K) := h0p.weak fun x y H Q h => by
 cases x with
 | ref p =>
  cases y with
  | int i =>
   obtain ⟨ns, h1, h2, h3, h4⟩ := h
   exact ⟨p, _, i, _, rfl, rfl, h1, h5w h2 h3, h4⟩
  | _ => exact False.elim h
 | _ => exact False.elim h
noncomputable def j1a (K : PySem.W.Frag) : List V -> Hp -> VK -> Prop := fun xs H Q => match xs with
 | [.ref p] => ∃ ys, SqL K H p ys /\ Q (.int ys.length) H
 | _ => False
theorem g7q : b7w X (.builtin "len") (j1a X.K) := h0z.weak fun xs H Q h => by
 match xs, h with
 | [.ref p], ⟨ys, h1, h2⟩ => exact ⟨p, ys, rfl, h1, h2⟩
noncomputable def j1b (K : PySem.W.Frag) : V -> Option Int -> Option Int -> Hp -> VK -> Prop := fun x lo hi H Q => match x with
 | .ref a => ∃ xs, SqL K H a xs /\ New H (.lst (d3k xs lo hi)) Q ⟨⟩
 | _ => False
theorem j1c : SlR X (j1b X.K) := by
 intro pins s σ H x v vl vu lo hi sl Q I rx hs pl pu h
 cases x <;> first
  | exact False.elim h
  | (obtain ⟨xs, h1, h2⟩ := h
     exact sl_K pins s σ H _ v vl vu lo hi sl Q I rx hs pl pu ⟨_, xs, rfl, h1, h2⟩)
def h8m (t : TE) : TO := fun σ H Q => t σ H fun x H1 => match x with
 | .int i => Q (some i) H1
 | _ => False
theorem a4u {te : TE} (h : PE X e te) : PO X (some e) (h8m te) := by
 intro pins s σ H Q I hw
 refine (i0d h) pins s σ H Q I ?_
 unfold i5k
 unfold h8m at hw
 have e : (fun (x : V) (H1 : Hp) => match x with | .int i => Q (some i) H1 | _ => False) = fun x H1 => ∃ i, x = V.int i /\ Q (some i) H1 := by
  funext x H1
  cases x <;> simp
 rw [e] at hw
 exact hw
noncomputable def rAbs : List V -> Hp -> VK -> Prop := fun xs H Q => match xs with
 | [.int i] => Q (.int i.natAbs) H
 | _ => False
theorem c2s : b7w X (.builtin "abs") rAbs := h5h.weak fun xs H Q h => by
 match xs, h with
 | [.int i], h =>
  refine ⟨i, rfl, ?_⟩
  have e : (if i < 0 then -i else i) = (i.natAbs : Int) := by split <;> omega
  rw [e]
  exact h
noncomputable def rMin : List V -> Hp -> VK -> Prop := fun xs H Q => match xs with
 | [.int i, .int j] => Q (.int (min i j)) H
 | _ => False
noncomputable def rMax : List V -> Hp -> VK -> Prop := fun xs H Q => match xs with
 | [.int i, .int j] => Q (.int (max i j)) H
 | _ => False
theorem h1c (hc : X.calm = true) : b7w X (.builtin "max") rMax := (h0j hc).weak fun xs H Q h => by
 match xs, h with
 | [.int i, .int j], h =>
  refine ⟨i, j, rfl, ?_⟩
  have e : (if j > i then j else i) = max i j := by split <;> omega
  rw [e]
  exact h
noncomputable def i6h (K : PySem.W.Frag) : List V -> Hp -> VK -> Prop := fun xs H Q => match xs with
 | [.ref p] => (match H p with
  | some (.lst ys) => New H (.lst ys) Q ⟨⟩
  | some (.tup ys) => New H (.lst ys) Q ⟨⟩
  | _ => False)
 | _ => False
theorem c2t : b7w X (.type "list") (i6h X.K) := g7p.weak fun xs H Q h => by
 match xs, h with
 | [.ref p], h =>
  have h' : (match H p with
   | some (.lst ys) => New H (.lst ys) Q ⟨⟩
   | some (.tup ys) => New H (.lst ys) Q ⟨⟩
   | _ => False) := h
  split at h'
  ·rename_i ys e
   exact ⟨p, ys, rfl, .inl (SqL.of e), h'⟩
  ·rename_i ys e
   exact ⟨p, ys, rfl, .inr (SqT.of e), h'⟩
  ·exact h'.elim
theorem j3z {α : Type} {x : α} {xs : List α} {p : α -> Prop} : (∃ v, atI (x :: xs) 0 = some v /\ p v) = p x := by
 rw [i6a]; simp
theorem j4a {α : Type} {x y : α} {xs : List α} {p : α -> Prop} : (∃ v, atI (x :: y :: xs) 1 = some v /\ p v) = p y := by
 rw [i6b]; simp
theorem j4b {α : Type} {x y z : α} {xs : List α} {p : α -> Prop} : (∃ v, atI (x :: y :: z :: xs) 2 = some v /\ p v) = p z := by
 rw [i6c]; simp
theorem j4c {α : Type} {x y z u : α} {xs : List α} {p : α -> Prop} : (∃ v, atI (x :: y :: z :: u :: xs) 3 = some v /\ p v) = p u := by
 rw [i6d]; simp
end
end L2
namespace L2
open PySem PySem.Spec PyProof.Rows PySem.W
theorem d1r {n : Nat} {d : Dat} (h : kqdOk n d = true) (hn : n <= 64) : SeqAt.shaped (kqdP d) = true := by
 have l := kqd_lay n d h
 unfold SeqAt.shaped
 rw [l.1, Bool.true_and]
 exact decide_eq_true (Nat.le_trans l.2 hn)
theorem h8n {n k : Nat} {d e : Dat} (hd : kqdOk n d = true) (he : kqdOk k e = true) {c : Bool} (hc : c = true ↔ d = e) : PyData.eqv (kqdP d) (kqdP e) = c := by
 have q := kqd_eqv n d e k hd he
 cases c with
 | true => exact q.mpr (hc.mp rfl)
 | false => exact Bool.eq_false_iff.mpr fun z => absurd (hc.mpr (q.mp z)) Bool.false_ne_true
theorem h8o {K : PySem.W.Frag} {H : Hp} {x y : V} {d e : Dat} {n k : Nat} {c : Bool} {Q : VK} (hd : f7u K H x (kqdP d)) (he : f7u K H y (kqdP e)) (kd : kqdOk n d = true) (ke : kqdOk k e = true) (hn : n <= 64) (hk : k <= 64) (hc : c = true ↔ d = e) (q : Q (.bl c) H) : i5w K x y H Q :=
 ⟨_, _, hd, he, d1r kd hn, d1r ke hk, by rw [h8n kd ke hc]; exact q⟩
theorem i6i {K : PySem.W.Frag} {H : Hp} {x y : V} {d e : Dat} {n k : Nat} {c : Bool} {Q : VK} (hd : f7u K H x (kqdP d)) (he : f7u K H y (kqdP e)) (kd : kqdOk n d = true) (ke : kqdOk k e = true) (hn : n <= 64) (hk : k <= 64) (hc : c = true ↔ d = e) (q : Q (.bl (!c)) H) : i9j K x y H Q :=
 ⟨_, _, hd, he, d1r kd hn, d1r ke hk, by rw [h8n kd ke hc]; exact q⟩
end L2
namespace L2
open PySem PySem.Spec PyProof.Rows
open PySem.Builtin.Int (intBits)
def tCut (t u : TS) : TS := fun D σ H => ∃ Mid : St -> Hp -> Prop, t { D with nx := Mid } σ H /\ ∀ σ' H', Mid σ' H' -> u D σ' H'
theorem a2v {X : Cx} {st : Stmt} {rest : List Stmt} {t u : TS} (h1 : PS X st t) (h2 : PSs X rest u) : PSs X (st :: rest) (tCut t u) := by
 intro pins s σ H D I h
 obtain ⟨Mid, h, hm⟩ := h
 refine wpAny_execs_cons (thn (h1 pins s σ H { D with nx := Mid } I h) fun f s1 q => ?_)
 cases f with
 | next =>
  obtain ⟨σ', H', I', q⟩ := q
  exact h2 pins s1 σ' H' D I' (hm σ' H' q)
 | ret v => exact q
 | brk => exact q
 | cont => exact q
theorem h1e {ns : List Int} {n : Nat} (h : ∀ x ∈ ns, intBits x <= n) (k : Nat) : intBits (ns.getD k 0) <= n := by
 rw [List.getD_eq_getElem?_getD]
 cases e : ns[k]? with
 | none => exact Nat.zero_le _
 | some x => exact h x (List.mem_of_getElem? e)
end L2
namespace L2
open PySem PySem.Spec PyProof.Rows
theorem d3n {env : Env} : ∀ (names : List (Str × NameKind)) (acc : List (Str × Addr)), (∀ y, (y, NameKind.free) ∈ names -> ∃ c, env.cells.lookup y = some c) ->
  ∃ cl, (forIn names acc (fun (x : Str × NameKind) (cs : List (Str × Addr)) => (if x.2 == NameKind.free then (do let c <- cellOf env x.1; pure (ForInStep.yield ((x.1, c) :: cs))) else pure (ForInStep.yield cs) : Sem (ForInStep (List (Str × Addr)))))) = pure cl /\
   (∀ y c, cl.lookup y = some c -> acc.lookup y = some c \/ ((y, NameKind.free) ∈ names /\ env.cells.lookup y = some c)) /\
   (∀ y, (y, NameKind.free) ∈ names -> cl.lookup y = env.cells.lookup y) /\ (∀ y, (∀ k, (y, k) ∈ names -> k ≠ NameKind.free) -> cl.lookup y = acc.lookup y)
 | [], acc, _ => ⟨acc, rfl, fun y c h => .inl h, fun y h => (nomatch h), fun y _ => rfl⟩
 | (n, k) :: r, acc, h => by
  by_cases hk : k = NameKind.free
  ·subst hk
   obtain ⟨c, hc⟩ := h n List.mem_cons_self
   obtain ⟨cl, h1, h2, h3, h4⟩ := d3n r ((n, c) :: acc) fun y hy => h y (List.mem_cons_of_mem _ hy)
   have e : cellOf env n = pure c := by unfold cellOf; rw [hc]
   refine ⟨cl, ?_, fun y d hd => ?_, fun y hy => ?_, fun y hy => ?_⟩
   ·rw [List.forIn_cons]
    simp only [beq_self_eq_true, if_true, e, pure_bind]
    exact h1
   ·rcases h2 y d hd with z | ⟨z1, z2⟩
    ·rw [List.lookup_cons] at z
     by_cases hy : y = n
     ·subst hy
      simp only [beq_self_eq_true] at z
      cases z
      exact .inr ⟨List.mem_cons_self, hc⟩
     ·have : (y == n) = false := by simpa using hy
      rw [this] at z
      exact .inl z
    ·exact .inr ⟨List.mem_cons_of_mem _ z1, z2⟩
   ·by_cases hr : (y, NameKind.free) ∈ r
    ·exact h3 y hr
    ·rcases List.mem_cons.mp hy with z | z
     ·cases z
      by_cases hq : ∃ k, (n, k) ∈ r /\ k = NameKind.free
      ·obtain ⟨k, z, rfl⟩ := hq
       exact absurd z hr
      ·rw [h4 n fun k hk e => hq ⟨k, hk, e⟩, List.lookup_cons]
       simp only [beq_self_eq_true]
       exact hc.symm
     ·exact absurd z hr
   ·have hn : y ≠ n := fun e => by
     subst e
     exact hy _ List.mem_cons_self rfl
    rw [h4 y fun k hk => hy k (List.mem_cons_of_mem _ hk), List.lookup_cons]
    have : (y == n) = false := by simpa using hn
    rw [this]
  ·obtain ⟨cl, h1, h2, h3, h4⟩ := d3n r acc fun y hy => h y (List.mem_cons_of_mem _ hy)
   have hb : (k == NameKind.free) = false := by simpa using hk
   refine ⟨cl, ?_, fun y d hd => ?_, fun y hy => ?_, fun y hy => h4 y fun k hk => hy k (List.mem_cons_of_mem _ hk)⟩
   ·rw [List.forIn_cons]
    simp only [hb, Bool.false_eq_true, if_false, pure_bind]
    exact h1
   ·rcases h2 y d hd with z | ⟨z1, z2⟩
    ·exact .inl z
    ·exact .inr ⟨List.mem_cons_of_mem _ z1, z2⟩
   ·rcases List.mem_cons.mp hy with z | z
    ·cases z
     exact absurd rfl hk
    ·exact h3 y z
theorem c8r {env : Env} {sc : Scope} (h : ∀ y, (y, NameKind.free) ∈ sc.names -> ∃ c, env.cells.lookup y = some c) :
  ∃ cl, closureFor sc env = pure cl /\ (∀ y c, cl.lookup y = some c -> (y, NameKind.free) ∈ sc.names /\ env.cells.lookup y = some c) /\ (∀ y, (y, NameKind.free) ∈ sc.names -> cl.lookup y = env.cells.lookup y) := by
 obtain ⟨cl, h1, h2, h3, _⟩ := d3n (env := env) sc.names [] h
 refine ⟨cl, ?_, fun y c hy => (h2 y c hy).elim (fun z => nomatch z) id, h3⟩
 unfold closureFor
 show (forIn sc.names [] _ >>= fun cs => pure cs) = pure cl
 rw [bind_pure]
 exact h1
end L2
namespace L2
open PySem PySem.Spec PyProof.Rows
noncomputable def mask (x : Str) (N : List Str) : List Str := N.map fun y => if y = x then "" else y
noncomputable def a8g (X : Cx) (scope : Scope) (cl : List (Str × Addr)) (C : Addr) (s₃ : Shared) (H₃ : Hp) (fp : List Addr) (x : Str) : Cx where
 prog := X.prog
 w := X.w
 K := X.K
 mg := X.mg
 base := X.base
 A := X.A
 N := x :: mask x X.N
 s₀ := s₃
 H₀ := H₃
 env := compEnvC scope cl C X.env
 outer := X.stack
 stack := X.stack
 ex := fp
 fn := fun _ => false
 calm := X.calm
 pn := []
 xe := fun _ _ => False
def a2p (D : Addr) (H H' : Hp) : Prop := ∀ b o, b ≠ D -> H b = some o -> H' b = some o
theorem a2p.upd {D : Addr} {H : Hp} {o : HO} : a2p D H (upd H D o) := fun b u hb e => by rw [a3p hb]; exact e
def d7i (J : It) (te : TE) (D : Addr) (σ : St) (H : Hp) (Q : VK) (_ : Tag Q) : Prop := ∃ (n : Nat) (W : Nat -> List V -> Hp -> Prop), W 0 [] H /\ ∀ i ys H, i <= n -> W i ys H -> H D = some (.lst ys) /\
 ((J.stop i H /\ Q (.ref D) H) \/ (i < n /\ J.go i H /\ ys.length < sizeLine /\ ∀ x H', J.yld i H x H' -> te (some x :: σ) H' fun y H2 => H2 D = some (.lst ys) /\
  ∀ H3, a2p D H2 H3 -> H3 D = some (.lst (ys ++ [y])) -> W (i + 1) (ys ++ [y]) H3))
def i6j (wi : TI) (te : TE) : TE := fun σ H Q => wi σ H fun J H1 => ∀ D H2, H1 D = none -> Same H1 H2 -> H2 D = some (.lst []) -> d7i J te D σ H2 Q ⟨⟩
theorem c2u {env : Env} {x : Str} : ∀ (names : List (Str × NameKind)) (k : NameKind), (names.map fun (n, k) => if (k == NameKind.free && env.scope.kind == .function && env.kindOf n == some .cell) then (n, NameKind.cell) else (n, k)).lookup x = some k ->
  (names.lookup x = some k) \/ (k = .cell /\ names.lookup x = some .free)
 | [], k, e => by cases e
 | (n, q) :: r, k, e => by
  rw [List.map_cons] at e
  dsimp only at e
  rw [List.lookup_cons]
  cases hx : (x == n) with
  | true =>
   by_cases hc : (q == NameKind.free && env.scope.kind == .function && env.kindOf n == some .cell) = true
   ·rw [if_pos hc, List.lookup_cons, hx] at e
    have : q = .free := by
     simp only [Bool.and_eq_true, beq_iff_eq] at hc
     exact hc.1.1
    subst this
    cases e
    exact .inr ⟨rfl, rfl⟩
   ·rw [if_neg hc, List.lookup_cons, hx] at e
    exact .inl e
  | false =>
   have e' : (r.map fun (n, k) => if (k == NameKind.free && env.scope.kind == .function && env.kindOf n == some .cell) then (n, NameKind.cell) else (n, k)).lookup x = some k := by
    by_cases hc : (q == NameKind.free && env.scope.kind == .function && env.kindOf n == some .cell) = true
    ·rw [if_pos hc, List.lookup_cons, hx] at e
     exact e
    ·rw [if_neg hc, List.lookup_cons, hx] at e
     exact e
   exact c2u r k e'
theorem b6v {env : Env} {sc : Scope} {x : Str} (h : (relabel sc env).names.lookup x = some .cell \/ (relabel sc env).names.lookup x = some .free) : (x, NameKind.free) ∈ sc.names \/ (x, NameKind.cell) ∈ sc.names := by
 rcases h with h | h
 ·rcases c2u sc.names _ h with z | ⟨_, z⟩
  ·exact .inr (PySem.mem_of_lookup z)
  ·exact .inl (PySem.mem_of_lookup z)
 ·rcases c2u sc.names _ h with z | ⟨z, _⟩
  ·exact .inl (PySem.mem_of_lookup z)
  ·cases z
structure b9s (X : Cx) (scope : Scope) (x : Str) : Prop where
 kind : scope.kind = .function
 d5w : ∀ y ∈ scope.names, y.2 ≠ .cell
 loc : ∀ y ∈ scope.names, y.2 = .local -> scope.names.lookup y.1 = some .local
 own : scope.names.lookup x = some .local
 free : ∀ y ∈ scope.names, y.2 = .free -> X.env.kindOf y.1 = some .cell \/ X.env.kindOf y.1 = some .free
 nd : (x :: mask x X.N).Nodup
 noe : ∀ y ∈ scope.names, y.1 ≠ ""
 vis : ∀ y ∈ mask x X.N, scope.names.lookup y ≠ some .local
section
variable {X : Cx} {scope : Scope} {x : Str} {cl : List (Str × Addr)} {pins : List (Addr × Obj)} {σ : St} {H : Hp} {s s₄ : Shared} {fp : List Addr}
theorem Inv.comp (S : b9s X scope x) (I : Inv X pins σ H s) (hcl : ∀ y c, cl.lookup y = some c -> (y, NameKind.free) ∈ scope.names /\ X.env.cells.lookup y = some c) (hcl2 : ∀ y, (y, NameKind.free) ∈ scope.names -> cl.lookup y = X.env.cells.lookup y)
  (hfp : ∀ b ∈ fp, d7z X pins H b) (hlt : ∀ b ∈ fp, b < s.heap.objs.size) {m : Str -> Option Value} (hns : s₄.heap.Ns s.heap.objs.size m) (hk : ∀ b o, s.heap.get? b = some o -> s₄.heap.get? b = some o) (hos : s₄.os = s.os) (hg : s₄.gens = s.gens) :
  Inv (a8g X scope cl s.heap.objs.size s H fp x) [] (none :: σ) H s₄ := by
 have below : ∀ {b : Addr} {o : Obj}, s.heap.get? b = some o -> b ≠ s.heap.objs.size := fun e => Nat.ne_of_lt (Heap.lt_size e)
 refine ⟨⟨I.ok.mod, ?_, I.ok.glob, I.ok.blt, Nat.le_refl _, fun y z c h1 h2 => I.ok.inj y z c (hcl y c h1).2 (hcl z c h2).2, fun y hy => ?_, (fun y c h => nomatch h), I.ok.hd, I.ok.frames, .inl rfl, fun b hb => ⟨Nat.ne_of_lt (hlt b hb), fun y c e => (hfp b hb).2.2.2.2.1 y c (hcl y c e).2⟩,
  fun b o e => I.bs b o e, Nat.le_trans I.ok.bsz I.sz, fun b o e hb => ?_, fun b hb hf => ?_, I.stack, I.g1u⟩,
  hos, by rw [hg]; exact I.bare, Un.kept hk, ⟨m, hns, fun i y v h1 h2 h3 => ?_⟩, fun y c e => ?_, I.hok.fresh (Nat.le_refl _), fun y c e => I.d3l y c (hcl y c e).2, fun p hp => absurd (show p ∈ ([] : List (Addr × Obj)) from hp) (by simp), I.hok.kept hk, by show (none :: σ).length = (x :: mask x X.N).length; rw [List.length_cons, List.length_cons, mask, List.length_map, I.len]⟩
 ·exact S.kind
 ·rcases b6v (env := X.env) (sc := scope) (x := y) hy with z | z
  ·obtain ⟨c, hc⟩ := I.ok.has y (S.free _ z rfl)
   exact ⟨c, (hcl2 y z).trans hc⟩
  ·exact absurd rfl (S.d5w _ z)
 ·rcases (hfp b hb).2.2.2.1 with z | z
  ·exact I.ok.i3v b o e z
  ·exact absurd (Nat.lt_of_lt_of_le (Heap.lt_size (I.ok.bs b o e).1) z) (Nat.lt_irrefl _)
 ·rcases List.mem_cons.mp (I.d7w b hf) with z | z
  ·exact (hfp b hb).2.1 z
  ·exact (hfp b hb).2.2.1 z
 ·cases i with
  | zero => cases h2
  | succ i =>
   have h1m : (mask x X.N)[i]? = some y := by simpa [a8g] using h1
   have h2' : σ[i]? = some (some v) := by simpa using h2
   have hyN : y ∈ mask x X.N := List.mem_of_getElem? h1m
   have hc : (relabel scope X.env).names.lookup y = some .cell \/ (relabel scope X.env).names.lookup y = some .free := by
    rcases h3 with z | z | z
    ·exfalso
     rcases c2u (env := X.env) scope.names _ z with q | ⟨q, _⟩
     ·exact S.vis y hyN q
     ·cases q
    ·exact .inl z
    ·exact .inr z
   have hfr : (y, NameKind.free) ∈ scope.names := by
    rcases b6v hc with z | z
    ·exact z
    ·exact absurd rfl (S.d5w _ z)
   have h1' : X.N[i]? = some y := by
    rw [mask, List.getElem?_map] at h1m
    obtain ⟨z, hz, e⟩ := Option.map_eq_some_iff.mp h1m
    by_cases hzx : z = x
    ·rw [if_pos hzx] at e
     exact absurd e.symm (S.noe _ hfr)
    ·rw [if_neg hzx] at e
     rw [hz, e]
   obtain ⟨mX, hnX, hl⟩ := I.loc
   have hk2 := S.free _ hfr rfl
   have j1d : Vis X.env.scope y := by
    rcases hk2 with z | z
    ·exact .inr (.inl z)
    ·exact .inr (.inr z)
   obtain ⟨u, ru, lk⟩ := hl i y v h1' h2' j1d
   refine ⟨u, ru, .inr ⟨hc, ?_⟩⟩
   rcases lk with ⟨z, _⟩ | ⟨_, c, ec, o, ho, hd⟩
   ·rcases hk2 with q | q
    ·rw [q] at z; cases z
    ·rw [q] at z; cases z
   ·exact ⟨c, (hcl2 y hfr).trans ec, o, hk c o ho, hd⟩
 ·obtain ⟨v, o, ho, hd⟩ := I.cell y c (hcl y c e).2
  exact ⟨v, o, hk c o ho, hd⟩
theorem Inv.h8p {σ' : St} {H' : Hp} {s' : Shared} {h' : Heap} (I : Inv X pins σ H s) (hfp : ∀ b ∈ fp, d7z X pins H b) (J : Inv (a8g X scope cl s.heap.objs.size s H fp x) [] σ' H' s') (hs : Heap.SameBut s.heap.objs.size s'.heap h') :
  Inv X pins σ H' { s' with heap := h' } := by
 have ne : ∀ {b : Addr} {o : Obj}, s.heap.get? b = some o -> b ≠ s.heap.objs.size := fun e => Nat.ne_of_lt (Heap.lt_size e)
 have u := J.base
 have u' : Un (frs X.stack) fp H H' s.heap h' := ⟨fun b o e n hb hx => hs.extBut b o (ne e) (u.keep b o e n hb hx), fun b o e n hb hx => (u.slot b o e n hb hx).elim fun sl q => ⟨sl, hs.extBut b _ (ne e) q⟩, u.free,
  fun b o e hx => (u.there b o e hx).elim fun o' q => ⟨o', hs.extBut b o' (ne e) q⟩, u.tups, u.g1t, u.g5u⟩
 have nC : ∀ {b : Addr} {o : HO}, H' b = some o -> b ≠ s.heap.objs.size := fun {b o} e z => by
  have f : H' s.heap.objs.size = none := J.free
  rw [z, f] at e; cases e
 have ok : HOk X.prog X.w H' h' := fun b o e => (J.hok b o e).stay (fun c v hc q => hs.extBut c v (by
  rcases hc with z | z
  ·rw [z]; exact nC e
  ·exact nC z) q) (fun _ q => q) fun _ _ q => q
 exact I.call' (s' := { s' with heap := h' }) (ch := fp) J.os u' ok J.bare fun b hb => ⟨(hfp b hb).2.2.2.1, (hfp b hb).2.1, (hfp b hb).2.2.2.2.1, (hfp b hb).2.2.2.2.2⟩
end
end L2
namespace L2
open PySem PySem.Spec PyProof.Rows
section
variable {X : Cx} {scope : Scope} {x : Str} {pins : List (Addr × Obj)} {σ : St} {elt iter : Expr} {px pos : Pos} {wi : TI} {te : TE}
theorem f3l {s₂ : Shared} {H1 : Hp} {it : Addr} {fp : List Addr} {tn : Nat -> Heap -> Prop} {J : It} {Q : VK} {RR : Value -> Addr -> Result -> Shared -> Prop} {E : Value -> Shared -> Prop} {cl : List (Str × Addr)}
  (S : b9s X scope x) (hc : X.calm = true) (he : ∀ cl C s₃ H₃ fp, PE (a8g X scope cl C s₃ H₃ fp x) elt te)
  (hcl : ∀ y c, cl.lookup y = some c -> (y, NameKind.free) ∈ scope.names /\ X.env.cells.lookup y = some c) (hcl2 : ∀ y, (y, NameKind.free) ∈ scope.names -> cl.lookup y = X.env.cells.lookup y)
  (I2 : Inv X pins σ H1 s₂) (T : Turn X.prog X.w X.K (.Name x px) J fp it tn) (st2 : tn 0 s₂.heap) (f2 : ∀ b ∈ fp, d7z X pins H1 b) (h : ∀ D H2, H1 D = none -> Same H1 H2 -> H2 D = some (.lst []) -> d7i J te D σ H2 Q ⟨⟩)
  (hRR : ∀ (D C : Addr) (s' : Shared) (H' : Hp), (∃ m, s'.heap.Ns C m) -> (∀ h' , Heap.SameBut C s'.heap h' -> Inv X pins σ H' { s' with heap := h' }) -> d7z X pins H' C -> Q (.ref D) H' -> RR (.ref D) C (.ok .next) s') :
  wpAny (model X.prog X.w) X.A (newList []) (fun acc s₃ => wpAny (model X.prog X.w) X.A (newFunctionEnv scope X.env.globals cl [] X.env.qual none .none (some X.env)) (fun cenv s₄ =>
   codeAny (model X.prog X.w) X.A (.compStart (.ListComp elt [⟨.Name x px, iter, [], 0⟩] scope pos) 0 (.ref it) acc { cenv with scope := relabel scope X.env }) (RR acc cenv.locals) s₄) E s₃) E s₂ := by
 have hfr : H1 s₂.heap.objs.size = none := I2.hok.fresh (Nat.le_refl _)
 have hCW := h s₂.heap.objs.size _ hfr (Same.upd hfr) a2w
 refine wpAny_newObj_type ?_
 have I3 : Inv X pins σ (upd H1 s₂.heap.objs.size (.lst [])) { s₂ with heap := s₂.heap.push { cls := .type "list", data := .seq ([] : List Value).toArray }, toks := s₂.toks } :=
  I2.laid (t' := s₂.toks) (fun b u e => Heap.get?_push_of_some _ e) (Nat.le_refl _) ⟨Nat.zero_le _, [], 0, .nil, Heap.get?_push_size _ rfl⟩
 have nD : ∀ b ∈ fp, b ≠ s₂.heap.objs.size := fun b hb => by
  obtain ⟨o, e, _⟩ := T.obj 0 _ st2 b hb
  exact Nat.ne_of_lt (Heap.lt_size e)
 have f3 : ∀ b ∈ fp, d7z X pins (upd H1 s₂.heap.objs.size (.lst [])) b := fun b hb => ⟨by rw [a3p (nD b hb)]; exact (f2 b hb).1, (f2 b hb).2⟩
 generalize hH3 : upd H1 s₂.heap.objs.size (.lst []) = H3 at *
 have st3 : tn 0 (s₂.heap.push { cls := .type "list", data := .seq ([] : List Value).toArray }) := T.keep _ _ _ st2 fun b _ o e => Heap.get?_push_of_some _ e
 have h1f : ∀ b ∈ fp, b < (s₂.heap.push { cls := .type "list", data := .seq ([] : List Value).toArray }).objs.size := fun b hb => by
  obtain ⟨o, e, _⟩ := T.obj 0 _ st3 b hb
  exact Heap.lt_size e
 show wpAny (model X.prog X.w) X.A (newFunctionEnv scope X.env.globals cl [] X.env.qual none .none (some X.env)) _ E { s₂ with heap := s₂.heap.push { cls := .type "list", data := .seq ([] : List Value).toArray }, toks := s₂.toks }
 generalize hs3 : ({ s₂ with heap := s₂.heap.push { cls := .type "list", data := .seq ([] : List Value).toArray }, toks := s₂.toks } : Shared) = s₃ at *
 have eh : s₃.heap = s₂.heap.push { cls := .type "list", data := .seq ([] : List Value).toArray } := by rw [← hs3]
 rw [<- eh] at st3 h1f
 generalize s₂.heap.objs.size = D at *
 refine wpAny_newFunctionEnv S.d5w (by intro y hy; simp at hy) (fun h₁ hns₁ hsb₁ => ?_) S.kind
 have hk1 : ∀ b o, s₃.heap.get? b = some o -> h₁.get? b = some o := fun b o e => hsb₁.extBut b o (Nat.ne_of_lt (Heap.lt_size e)) (Heap.get?_push_of_some _ e)
 have J0 : Inv (a8g X scope cl s₃.heap.objs.size s₃ H3 fp x) [] (none :: σ) H3 { s₃ with heap := h₁, toks := s₃.toks + ([] : List (Str × Value)).length } := I3.comp S hcl hcl2 f3 h1f hns₁ hk1 rfl rfl
 obtain ⟨n0, W, w0, turn⟩ := hCW
 have loop : codeAny (model X.prog X.w) X.A (.compLoop (.ListComp elt [⟨.Name x px, iter, [], 0⟩] scope pos) 0 (.ref it) (.ref D) (compEnvC scope cl s₃.heap.objs.size X.env)) (RR (.ref D) s₃.heap.objs.size) { s₃ with heap := h₁, toks := s₃.toks + ([] : List (Str × Value)).length } := by
  refine codeAny_loop rfl (fun n s' => ∃ i ys o H', Inv (a8g X scope cl s₃.heap.objs.size s₃ H3 fp x) [] (o :: σ) H' s' /\ tn i s'.heap /\ (∀ b ∈ fp, H' b = none) /\ W i ys H' /\ i <= n0 /\ n = n0 - i) (fun n s5 hI => ?_) n0
   ⟨0, [], none, H3, J0, T.keep _ _ _ st3 (fun b _ o e => hk1 b o e), fun b hb => (f3 b hb).1, w0, Nat.zero_le _, rfl⟩
  obtain ⟨i, ys, o5, H5, I5, st5, fr5, w5, hin, hnn⟩ := hI
  have stat : ∀ {H' : Hp}, (∀ b ∈ fp, H' b = none) -> ∀ b ∈ fp, d7z (a8g X scope cl s₃.heap.objs.size s₃ H3 fp x) [] H' b := fun hn b hb =>
   ⟨hn b hb, Nat.ne_of_lt (h1f b hb), fun z => (List.mem_cons.mp (I3.d7w b z)).elim (fun q => (f3 b hb).2.1 q) fun q => (f3 b hb).2.2.1 q, .inl hb, fun y c e => (f3 b hb).2.2.2.2.1 y c (hcl y c e).2, fun p hp => absurd (show p ∈ ([] : List (Addr × Obj)) from hp) (by simp)⟩
  show wpAny _ X.A ((compTurn (.ListComp elt [⟨.Name x px, iter, [], 0⟩] scope pos) 0 (.ref it) (.ref D) (compEnvC scope cl s₃.heap.objs.size X.env)).onRaise (fun x => do noteFrame x (compEnvC scope cl s₃.heap.objs.size X.env); theTreesLotGoes x)) _ _ s5
  refine wpAny_noted ?_
  rw [compTurn_list1]
  refine wpAny_bind (wpAny_standAt (wpAny_bind ?_))
  obtain ⟨hD5, alt⟩ := turn i ys H5 hin w5
  rcases alt with ⟨stop, q⟩ | ⟨hlt, go, hsz, step⟩
  ·refine wpAny_mono (T.done (a8g X scope cl s₃.heap.objs.size s₃ H3 fp x) rfl rfl rfl hc i [] s5 _ H5 _ I5 (stat fr5) st5 stop) (fun r s6 ⟨hr, I6⟩ => ?_) fun _ _ z => z
   subst hr
   refine wpAny_pure ?_
   obtain ⟨m6, hn6, _⟩ := I6.loc
   exact hRR D s₃.heap.objs.size s6 H5 ⟨m6, hn6⟩ (fun h' hs' => I3.h8p f3 I6 hs') (I3.h5d (Nat.le_refl _) I6.free) q
  ·refine wpAny_mono (T.item (a8g X scope cl s₃.heap.objs.size s₃ H3 fp x) rfl rfl rfl hc i [] s5 _ H5 _ I5 (stat fr5) st5 go) (fun r s6 ⟨u, hr, h6⟩ => ?_) fun _ _ z => z
   subst hr
   refine wpAny_bind (wpAny_mono h6 (fun _ s7 ⟨v, H7, I7, r7, y7, st7, fr7⟩ => ?_) fun _ _ z => z)
   have I7' := I7.pinned (stat fr7) (T.obj _ _ st7)
   have G := a2m (X := a8g X scope cl s₃.heap.objs.size s₃ H3 fp x) (pos := px) (i := 0) (x := x) S.nd rfl (.inl (lookup_relabel_local S.own)) (.inr (lookup_relabel_local S.own))
   refine wpAny_bind (wpAny_mono (G _ s7 _ H7 v u (fun σ' H' => σ' = some v :: σ /\ H' = H7) I7' r7 ⟨rfl, rfl⟩) (fun _ s8 hs8 => ?_) fun _ _ z => False.elim z)
   obtain ⟨σ8, H8, I8, rfl, rfl⟩ := hs8
   refine wpAny_bind (wpAny_bind (wpAny_mono (he cl s₃.heap.objs.size s₃ H3 fp _ s8 _ _ _ I8 (step v H8 y7)) (fun yv s9 hs9 => ?_) fun _ _ z => False.elim z))
   obtain ⟨y, H9, I9, r9, hD9, k9⟩ := hs9
   refine wpAny_bind (wpAny_mono (d1n (X := a8g X scope cl s₃.heap.objs.size s₃ H3 fp x) _ s9 _ H9 (.ref D) [y] (.ref D) [yv] (fun _ H' => H' = upd H9 D (.lst (ys ++ [y]))) I9 rfl (.cons r9 .nil) ⟨D, ys, y, rfl, rfl, hD9, hsz, rfl⟩) (fun _ sA hsA => ?_) fun _ _ z => False.elim z)
   obtain ⟨_, HA, IA, _, rfl⟩ := hsA
   refine wpAny_pure ?_
   have wA := k9 _ a2p.upd a2w
   refine wpAny_pure ⟨rfl, n0 - (i + 1), by omega, i + 1, ys ++ [y], some v, _, IA.c3w (pins := []) (pl := d5t fp s7.heap), T.keep _ _ _ st7 (fun b hb o e => (IA.pin (b, o) (List.mem_append_right _ (List.mem_append_right _ (a6v hb e)))).1), fun b hb => ?_, wA, hlt, rfl⟩
   obtain ⟨o, e, d⟩ := T.obj _ _ st7 b hb
   exact (IA.pin (b, o) (List.mem_append_right _ (List.mem_append_right _ (a6v hb e)))).2.1
 exact codeAny_compStart_list loop (T.self _ 0 _ _ _ (T.keep _ _ _ st3 fun b _ o e => hk1 b o e) loop)
theorem a4w (hi : PI X (.Name x px) iter wi) (he : ∀ cl C s₃ H₃ fp, PE (a8g X scope cl C s₃ H₃ fp x) elt te) (S : b9s X scope x) (hc : X.calm = true)
  (hs : ∀ x, foldedSetIterable iter X.env x = pure x := by intro _; rfl) : PE X (.ListComp elt [⟨.Name x px, iter, [], 0⟩] scope pos) (i6j wi te) := by
 intro pins s σ H Q I h
 obtain ⟨cl, hclos, hcl, hcl2⟩ := c8r (env := X.env) (sc := scope) fun y hy => I.ok.has y (S.free _ hy rfl)
 rw [eval_ListComp]
 refine wpAny_comprehension_free (use := none) rfl hs hclos S.kind S.loc ?_
 refine thn (hi pins s σ H _ I h) fun v s1 h1 => thn h1 fun itv s2 h2 => ?_
 obtain ⟨it, fp, tn, J, H2, e, I2, T, st2, f2, hW⟩ := h2
 subst e
 exact f3l (RR := fun acc C => compPost (model X.prog X.w) X.A X.xe none (EP X pins σ Q) acc C) S hc he hcl hcl2 I2 T st2 f2 hW fun D C s' H' hm hI _ hq =>
  hm.elim fun m hn => ⟨m, hn, fun h' hs' => ⟨.ref D, H', hI h' hs', rfl, hq⟩⟩
theorem f5h {i : Nat} {y : Str} {py spos : Pos} (hN : X.N.Nodup) (hyi : X.N[i]? = some y) (hy : X.env.scope.names.lookup y = some .local) (hi : PI X (.Name x px) iter wi) (he : ∀ cl C s₃ H₃ fp, PE (a8g X scope cl C s₃ H₃ fp x) elt te) (S : b9s X scope x) (hc : X.calm = true)
  (hsw : swapsWith (.ListComp elt [⟨.Name x px, iter, [], 0⟩] scope pos) (some (.Name y py)) spos.line X.env = pure true := by rfl)
  (hs : ∀ x, foldedSetIterable iter X.env x = pure x := by intro _; rfl) : PS X (.Assign [.Name y py] (.ListComp elt [⟨.Name x px, iter, [], 0⟩] scope pos) spos) (j0c (i6j wi te) (h9u i)) := by
 intro pins s σ H D I h
 obtain ⟨cl, hclos, hcl, hcl2⟩ := c8r (env := X.env) (sc := scope) fun y hy => I.ok.has y (S.free _ hy rfl)
 rw [exec_Assign_Name_used _ _ _ _ hsw]
 refine wpAny_bind (wpAny_standAt (wpAny_bind ?_))
 show wpAny _ X.A (do let _ <- comprehension (.ListComp elt [⟨.Name x px, iter, [], 0⟩] scope pos) scope X.env _ (newList []) false (eval iter X.env) (some (assign (.Name y py) X.env))) _ _ s
 refine wpAny_bind (wpAny_mono (wpAny_comprehension_free (use := some (assign (.Name y py) X.env)) (Q := fun _ s' => SP X pins D .next s') rfl hs hclos S.kind S.loc ?_) (fun _ s' hq => wpAny_pure (wpAny_pure hq)) fun _ _ e => e)
 refine thn (hi pins s σ H _ I h) fun v s1 h1 => thn h1 fun itv s2 h2 => ?_
 obtain ⟨it, fp, tn, J, H2, e, I2, T, st2, f2, hW⟩ := h2
 subst e
 refine f3l (Q := fun v H' => D.nx (σ.set i (some v)) H') (RR := fun acc C => compPost (model X.prog X.w) X.A X.xe (some (assign (.Name y py) X.env)) (fun _ s' => SP X pins D .next s') acc C) S hc he hcl hcl2 I2 T st2 f2 hW fun L C s' H' hm hI hfp hq => ?_
 obtain ⟨m, hn⟩ := hm
 have I' : Inv X pins σ H' s' := hI s'.heap (Heap.SameBut.refl ..)
 show wpAny _ X.A (assign (.Name y py) X.env (.ref L)) _ _ s'
 refine wpAny_assign_Name (f7z (v := .ref L) I' hN hyi (.inl hy) rfl (fun s'' I'' hsb => ?_) (.inr hy))
 obtain ⟨a, hsame, ha⟩ := hsb
 have nea : C ≠ a := by
  rcases ha with z | z
  ·rw [z]; exact hfp.2.1
  ·exact fun q => hfp.2.2.2.2.1 y a z q.symm
 refine ⟨m, hn.sameBut hsame nea, fun h' hs' => ⟨_, H', I''.turned (t' := s''.toks) (it := C) (fun b o hb e => hs'.extBut b o hb e) hfp.1 hfp.2.1 hfp.2.2.2.1 hfp.2.2.2.2.1 hfp.2.2.2.2.2, hq⟩⟩
end
theorem b8w {K : PySem.W.Frag} {a D : Addr} {xs : List V} {te : TE} {σ : St} {H : Hp} {Q : VK} (Pv : Nat -> List V -> Hp -> Prop) (h0 : Pv 0 [] H) (hsz : xs.length <= sizeLine)
  (hD : ∀ i ys H, i <= xs.length -> Pv i ys H -> H D = some (.lst ys) /\ SqL K H a xs /\ ys.length = i)
  (hs : ∀ i x ys H, xs[i]? = some x -> Pv i ys H -> te (some x :: σ) H fun y H2 => H2 D = some (.lst ys) /\ ∀ H3, a2p D H2 H3 -> H3 D = some (.lst (ys ++ [y])) -> Pv (i + 1) (ys ++ [y]) H3)
  (hd : ∀ ys H, Pv xs.length ys H -> Q (.ref D) H) : d7i (Itl K a) te D σ H Q ⟨⟩ := by
 refine ⟨xs.length, Pv, h0, fun i ys H hi p => ?_⟩
 obtain ⟨e1, e2, e3⟩ := hD i ys H hi p
 refine ⟨e1, ?_⟩
 by_cases hlt : i < xs.length
 ·refine .inr ⟨hlt, ⟨xs, xs[i], e2, by simp [hlt]⟩, by omega, fun x H' y => ?_⟩
  obtain ⟨e, y⟩ := y
  subst e
  exact hs i x ys _ (y xs e2) p
 ·have e : i = xs.length := by omega
  subst e
  exact .inl ⟨⟨xs, e2, Nat.le_refl _⟩, hd ys H p⟩
theorem b9t {D : Addr} {lo : Int} {n : Nat} {te : TE} {σ : St} {H : Hp} {Q : VK} (Pv : Nat -> List V -> Hp -> Prop) (h0 : Pv 0 [] H) (hsz : n <= sizeLine)
  (hD : ∀ i ys H, i <= n -> Pv i ys H -> H D = some (.lst ys) /\ ys.length = i)
  (hs : ∀ i ys H, i < n -> Pv i ys H -> te (some (.int (lo + i)) :: σ) H fun y H2 => H2 D = some (.lst ys) /\ ∀ H3, a2p D H2 H3 -> H3 D = some (.lst (ys ++ [y])) -> Pv (i + 1) (ys ++ [y]) H3)
  (hd : ∀ ys H, Pv n ys H -> Q (.ref D) H) : d7i (Itr lo n) te D σ H Q ⟨⟩ := by
 refine ⟨n, Pv, h0, fun i ys H hi p => ?_⟩
 obtain ⟨e1, e3⟩ := hD i ys H hi p
 refine ⟨e1, ?_⟩
 by_cases hlt : i < n
 ·refine .inr ⟨hlt, hlt, by omega, fun x H' y => ?_⟩
  obtain ⟨e, y⟩ := y
  subst e y
  exact hs i ys _ hlt p
 ·have e : i = n := by omega
  subst e
  exact .inl ⟨Nat.le_refl _, hd ys H p⟩
theorem Same.step {D : Addr} {H0 H H' : Hp} (S : Same H0 H) (n : H0 D = none) (s : a2p D H H') : Same H0 H' := fun b o e => s b o (a4y e n) (S b o e)
theorem g7r {D : Addr} {lo : Int} {n : Nat} {te : TE} {σ : St} {H0 H : Hp} {Q : VK} (g : Nat -> V) (n0 : H0 D = none) (S : Same H0 H) (hD : H D = some (.lst [])) (hsz : n <= sizeLine)
  (hs : ∀ (i : Nat) H' (Q' : VK), i < n -> Same H0 H' -> Q' (g i) H' -> te (some (.int (lo + i)) :: σ) H' Q') (q : ∀ H', Same H0 H' -> H' D = some (.lst ((List.range n).map g)) -> Q (.ref D) H') : d7i (Itr lo n) te D σ H Q ⟨⟩ := by
 refine b9t (fun i ys H' => Same H0 H' /\ H' D = some (.lst ys) /\ ys = (List.range i).map g) ⟨S, hD, by simp⟩ hsz (fun i ys H' hi p => ?_) (fun i ys H' hx p => ?_) (fun ys H' p => ?_)
 ·refine ⟨p.2.1, ?_⟩
  rw [p.2.2, List.length_map, List.length_range]
 ·refine hs i H' _ hx p.1 ⟨p.2.1, fun H3 s3 h3 => ⟨p.1.step n0 s3, h3, ?_⟩⟩
  rw [p.2.2, List.range_succ, List.map_append]
  rfl
 ·refine q H' p.1 ?_
  rw [p.2.1, p.2.2]
noncomputable def h8q (sc scope : Scope) (x : Str) (N : List Str) : Bool :=
 (scope.kind == .function) && scope.names.all (fun y => y.2 != .cell) && scope.names.all (fun y => y.2 != .local || scope.names.lookup y.1 == some .local) && (scope.names.lookup x == some .local) &&
 scope.names.all (fun y => y.2 != .free || (sc.names.lookup y.1 == some .cell || sc.names.lookup y.1 == some .free)) && decide ((x :: mask x N).Nodup) && scope.names.all (fun y => y.1 != "") && (mask x N).all (fun y => scope.names.lookup y != some .local)
theorem b3n {X : Cx} {sc scope : Scope} {x : Str} {N : List Str} (hsc : X.env.scope = sc) (hN : X.N = N) (h : h8q sc scope x N = true) : b9s X scope x := by
 subst hN hsc
 unfold h8q at h
 simp only [Bool.and_eq_true, List.all_eq_true, beq_iff_eq, Bool.or_eq_true, bne_iff_ne, ne_eq, decide_eq_true_eq] at h
 obtain ⟨⟨⟨⟨⟨⟨⟨h1, h2⟩, h3⟩, h4⟩, h5⟩, h6⟩, h7⟩, h8⟩ := h
 exact ⟨h1, h2, fun y hy e => (h3 y hy).resolve_left fun z => z e, h4, fun y hy e => (h5 y hy).resolve_left fun z => z e, h6, h7, h8⟩
end L2
namespace L2
open PySem PySem.Spec PyProof.Rows
noncomputable def j1e : V -> Hp -> Bool := fun x H => match x with
 | .ref l => (match H l with
  | some (.lst _) => true
  | _ => false)
 | _ => false
noncomputable def i6k : V -> Hp -> Bool := fun x _ => match x with
 | .str _ => true
 | _ => false
theorem a8h {K : PySem.W.Frag} : ∀ x H, j1e x H = true → tyV K "list" x H := fun x H h => by
 cases x with
 | ref l =>
  have h' : (match H l with
   | some (.lst _) => true
   | _ => false) = true := h
  split at h'
  ·rename_i xs e
   exact .inl ⟨rfl, xs, SqL.of e⟩
  ·cases h'
 | _ => cases h
theorem a4p {K : PySem.W.Frag} : ∀ x H, i6k x H = true → tyV K "str" x H := fun x H h => by
 cases x with
 | str z => exact rfl
 | _ => cases h
def tBMF (chk : V -> Hp -> Bool) (r : V -> List V -> Hp -> VK -> Prop) (to : TE) (t : TA) : TE := fun σ H Q => to σ H fun x H1 => chk x H1 = true /\ t σ H1 fun xs H2 => r x xs H2 Q
section
variable {X : Cx} {o e : Expr} {es : List Expr} {to : TE} {t : TA} {name : Str} {apos cpos : Pos} {T id : String} {r r' : V -> List V -> Hp -> VK -> Prop} {chk : V -> Hp -> Bool}
theorem MtR.weak (h : MtR X id r) (q : ∀ x xs H Q, r' x xs H Q -> r x xs H Q) : MtR X id r' := fun pins s σ H x xs v us Q I rx rs hr => h pins s σ H x xs v us Q I rx rs (q x xs H Q hr)
theorem a5p (hchk : ∀ x H, chk x H = true → tyV X.K T x H) (pa : PlainAttrs T) (slot : Slot T name id) (hty : typeOf (.builtin id) = pure (.type "method_descriptor")) (hm : MtR X id r) (ho : PE X o to) (ha : PA X (e :: es) t)
  (hbase : attributeBase o name X.env (eval o X.env) = eval o X.env := by rfl)
  (hfew : ((backTo cpos (starEach (e :: es) X.env)).all (fun x => !x.1) && (backToKw cpos (keywordEach [] X.env)).all (fun x => x.1.isSome)
   && decide ((e :: es).length + ([] : List Keyword).length + (if ([] : List Keyword).isEmpty then 0 else 1) < 30)) = true := by rfl)
  (hline : (apos.endLine == cpos.line) = true := by rfl) (hs : starEach (e :: es) X.env = (false, eval e X.env) :: starEach es X.env := by rfl) (hplain : (backTo cpos (starEach es X.env)).any (·.1) = false := by rfl) :
  PE X (.Call (.Attribute o name apos) (e :: es) [] cpos) (tBMF chk r to t) := by
 intro pins s σ H Q I h
 refine wpAny_Call_method_late hbase hfew hline rfl (thn (ho pins s σ H _ I h) fun v s1 ⟨x, H1, I1, r1, ty, q1⟩ => ?_)
 obtain ⟨h1, h2⟩ := h8d I1 r1 (hchk x H1 ty)
 refine ⟨T, id, pa, slot, hty, h1, h2, ?_⟩
 have hA := ha cpos pins s1 σ H1 _ I1 q1
 rw [hs] at hA ⊢
 refine Calls.callWith_builtin (by show (false || (backTo cpos (starEach es X.env)).any (·.1)) = false; rw [hplain] <;> rfl) (Calls.evalArgs_plain ?_)
 exact thn hA fun us s2 ⟨vs, H2, I2, r2, q2⟩ => hm pins s2 σ H2 x vs v us Q I2 r1 r2 q2
noncomputable def j1f : V -> List V -> Hp -> VK -> Prop := fun x vs H Q => match x, vs with
 | .ref l, [y] => (match H l with
  | some (.lst xs) => xs.length < sizeLine /\ All (fun v H1 => v = .non /\ a2p l H H1 /\ H1 l = some (.lst (xs ++ [y]))) Q ⟨⟩ ⟨⟩
  | _ => False)
 | _, _ => False
theorem a4m : MtR X "list.append" j1f := MtR.weak (r := h0q) d1n fun x vs H Q h => by
 match x, vs, h with
 | .ref l, [y], h =>
  have h' : (match H l with
   | some (.lst xs) => xs.length < sizeLine /\ All (fun v H1 => v = .non /\ a2p l H H1 /\ H1 l = some (.lst (xs ++ [y]))) Q ⟨⟩ ⟨⟩
   | _ => False) := h
  split at h'
  ·rename_i xs e
   exact ⟨l, xs, y, rfl, rfl, e, h'.1, h'.2 _ _ ⟨rfl, a2p.upd, a2w⟩⟩
  ·exact h'.elim
end
noncomputable def d7q {α : Type} (xs : List α) (lo hi : Option Int) : List α := (xs.drop (HT.sIx xs.length 0 lo)).take (HT.sIx xs.length xs.length hi - HT.sIx xs.length 0 lo)
theorem g6e {α β : Type} (f : α -> β) (xs : List α) (lo hi : Option Int) : d7q (xs.map f) lo hi = (d7q xs lo hi).map f := by
 unfold d7q
 rw [List.length_map, List.map_take, List.map_drop]
theorem h1g (ns : List Int) (lo hi : Option Int) : d3k (ns.map V.int) lo hi = (d7q ns lo hi).map V.int := g6e V.int ns lo hi
theorem h5x {α : Type} {xs : List α} {lo hi : Option Int} {x : α} (h : x ∈ d7q xs lo hi) : x ∈ xs := List.mem_of_mem_drop (List.mem_of_mem_take h)
theorem b0h {α : Type} (xs : List α) (a : Nat) : d7q xs (some (a : Int)) none = xs.drop a := by
 unfold d7q
 rw [HT.d8k, HT.g6a]
 by_cases h : a <= xs.length
 ·rw [Nat.min_eq_left h, List.take_of_length_le (by rw [List.length_drop] <;> exact Nat.le_refl _)]
 ·rw [Nat.min_eq_right (by omega), List.drop_length, List.drop_of_length_le (by omega)]
  simp
theorem f8y {α : Type} (xs : List α) (a : Nat) : d7q xs none (some (a : Int)) = xs.take a := by
 unfold d7q
 rw [HT.d8k, HT.g6a, List.drop_zero, Nat.sub_zero]
 by_cases h : a <= xs.length
 ·rw [Nat.min_eq_left h]
 ·rw [Nat.min_eq_right (by omega), List.take_length, List.take_of_length_le (by omega)]
end L2
namespace L2
theorem d1s (F : Nat -> St -> Hp -> Prop) : ∃ Pv : Nat -> St -> Hp -> Prop, (∀ i σ H, F i σ H -> Pv i σ H) /\ ∀ i σ H, Pv i σ H -> F i σ H := ⟨F, fun _ _ _ h => h, fun _ _ _ h => h⟩
theorem d7r (F : St -> Hp -> Prop) : ∃ Pv : St -> Hp -> Prop, (∀ σ H, F σ H -> Pv σ H) /\ ∀ σ H, Pv σ H -> F σ H := ⟨F, fun _ _ h => h, fun _ _ h => h⟩
end L2
namespace L2
open PySem PySem.Spec PyProof.Rows
open PySem.Builtin.Int (intBits)
section
variable {X : Cx}
noncomputable def rSumF : List V -> Hp -> VK -> Prop := fun xs H Q => match xs with
 | [.ref p] => (match H p with
  | some (.lst ys) => ∃ ns : List Int, ys = ns.map V.int /\ Q (.int ns.sum) H
  | _ => False)
 | _ => False
end
def Stop (p : Prop) (_ : Tag p) : Prop := p
theorem Stop.go {p : Prop} {t : Tag p} (h : p) : Stop p t := h
def i6l (t u : TS) : TS := fun D σ H => t { D with nx := fun σ' H' => Stop (u D σ' H') ⟨⟩ } σ H
theorem f8z {X : Cx} {st : Stmt} {rest : List Stmt} {t u : TS} (h1 : PS X st t) (h2 : PSs X rest u) : PSs X (st :: rest) (i6l t u) := a0j h1 h2
def Hs (H : Hp) (fs : List (Addr × HO)) : Prop := (fs.map (·.1)).Nodup /\ ∀ p ∈ fs, H p.1 = some p.2
theorem Hs.nil {H : Hp} : Hs H [] := ⟨List.nodup_nil, fun _ h => nomatch h⟩
theorem Hs.fresh {H : Hp} {fs : List (Addr × HO)} {a : Addr} (F : Hs H fs) (n : H a = none) : a ∉ fs.map (·.1) := fun h => by
 obtain ⟨p, hp, e⟩ := List.mem_map.mp h
 have := F.2 p hp
 rw [e, n] at this
 cases this
theorem h5y {ns : List Int} {i : Nat} (h : i < ns.length) : atI (ns.map V.int) (i : Int) = some (.int (ns.getD i 0)) := by
 refine b9r ?_
 rw [List.getElem?_map, List.getElem?_eq_getElem h, List.getD_eq_getElem?_getD, List.getElem?_eq_getElem h]
 rfl
def j4d (H : Hp) (cs : List Addr) (bs : List (List Int)) : Prop := cs.length = bs.length /\ ∀ (i : Nat) c b, cs[i]? = some c -> bs[i]? = some b -> H c = some (.lst (b.map V.int))
theorem j4d.two {H : Hp} {a b : Addr} {x y : List Int} (ha : H a = some (.lst (x.map V.int))) (hb : H b = some (.lst (y.map V.int))) : j4d H [a, b] [x, y] := by
 refine ⟨rfl, fun i c d e1 e2 => ?_⟩
 match i, e1, e2 with
 | 0, e1, e2 => cases e1; cases e2; exact ha
 | 1, e1, e2 => cases e1; cases e2; exact hb
 | i + 2, e1, e2 => simp at e1
def f3m (H : Hp) (xs : List V) (v : V) (H' : Hp) : Prop := ∃ b, v = .ref b /\ H b = none /\ Same H H' /\ H' b = some (.lst xs)
def d8t (H : Hp) (xs : List V) (v : V) (H' : Hp) : Prop := ∃ b, v = .ref b /\ H b = none /\ Same H H' /\ H' b = some (.tup xs)
noncomputable def c6n (q : Rat) : List V := [.int q.num, .int (q.den : Nat)]
end L2
namespace L2
open PySem PySem.Spec PyProof.Rows
noncomputable def CXE (P : Program) (w : World) : CXT := fun outer H s E e s' => ∃ (a : Addr) (C a0 : Value) (B : Heap) (H' : Hp), e = .ref a /\ Heap.FlyingW B outer a C a0 s'.heap /\ s'.os = s.os /\ AllBare s'.gens /\
 (∀ h', B.StaysIn h' -> s'.heap.UpToSlots h' -> Un (frs outer) [] H H' s.heap h' /\ HOk P w H' h') /\ H' a = none /\ s.heap.get? a = none /\ E C none H'
section
variable {X : Cx} {pins : List (Addr × Obj)} {σ : St} {H : Hp} {s : Shared}
theorem Inv.track {a : Addr} {o : HO} (I : Inv X pins σ H s) (h1 : X.s₀.heap.get? a = none) (h2 : a ≠ X.env.locals) (h3 : ∀ x c, X.env.cells.lookup x = some c -> c ≠ a) (h4 : ∀ p ∈ X.pn ++ pins, p.1 ≠ a) (hH : H a = none)
  (new : b4l X.prog X.w (upd H a o) s.heap a o) : Inv X pins σ (upd H a o) s := by
 refine ⟨I.ok, I.os, I.bare, ⟨I.base.keep, I.base.slot, fun b u q n hx => ?_, I.base.there, fun b xs q => ?_, fun b u xs q => ?_, fun b ps q => ?_⟩, I.loc, I.cell, ?_, fun x c e => ?_, fun p hp => ?_, fun b u e => ?_, I.len⟩
 ·rw [a3p (fun z => by rw [z, h1] at q; cases q)]
  exact I.base.free b u q n hx
 ·have z := I.base.tups b xs q
  rw [a3p (a4y z hH)]
  exact z
 ·have z := I.base.g1t b u xs q
  rw [a3p (a4y z hH)]
  exact z
 ·obtain ⟨m, z⟩ := I.base.g5u b ps q
  exact ⟨m, by rw [a3p (a4y z hH)]; exact z⟩
 ·rw [a3p h2.symm]
  exact I.free
 ·rw [a3p (h3 x c e)]
  exact I.d3l x c e
 ·obtain ⟨e, n, ne, nf, d⟩ := I.pin p hp
  exact ⟨e, by rw [a3p (h4 p hp)]; exact n, ne, nf, d⟩
 ·by_cases hb : b = a
  ·subst hb
   rw [a2w] at e
   cases e
   exact new
  ·rw [a3p hb] at e
   exact (I.hok b u e).stay (fun _ _ _ q => q) (fun c q => by rw [a3p (a4y q hH)]; exact q) fun c xs q => by rw [a3p (a4y q hH)]; exact q
end
section
variable {P : Program} {w : World} {K : PySem.W.Frag} {mg : Str -> Option Value} {base : Heap} {N : List Str} {qual : Str} {scope : Scope} {f : Addr} {cd : Value} {A : Around} {outer : List Env} {s : Shared} {H : Hp} {E : XK}
end
noncomputable abbrev vE : List Value := [.type "ValueError", .type "Exception", .type "BaseException", .type "object"]
structure Exc (K : PySem.W.Frag) (C : Addr) : Prop where
 ok : PySem.W.excIn K C vE "ValueError.__new__" = true
section
variable {X : Cx} {e₀ : Expr} {rest : List Expr} {t : TA} {x : Str} {C : Addr} {E : XK} {np cpos pos : Pos}
def j4e (C : Addr) (E : XK) (t : TA) : TS := fun _ σ H => t σ H fun vs H1 => vs.length <= sizeLine /\ E (.ref C) none H1
end
structure ExcQ (K : PySem.W.Frag) (C : Addr) : Prop where
 ga : PySem.W.findIn K (.ref C) "__getattribute__" = some (some (.builtin "BaseException.__getattribute__"))
 cl : PySem.W.findIn K (.ref C) "__class__" = some (some (.builtin "object.__class__"))
 ng : PySem.W.findIn K (.ref C) "__getattr__" = some none
 so : PySem.W.subIn K (.ref C) (.type "object") = some true
 sb : PySem.W.subIn K (.ref C) (.type "BaseException") = some true
 ty : PySem.W.typeIn K (.ref C) = some (.type "type")
 ic : PySem.W.isClsIn K C = true
 ss : PySem.W.subIn K (.ref C) (.ref C) = some true
section
variable {prog : Program} {w : World} {A : Around} {E : Value -> Shared -> Prop} {h : Heap} {g : Array GenState} {d : Drawn} {t : Nat} {os : OsState} {a C : Addr} {o : Obj} {K : PySem.W.Frag}
end
noncomputable def excO (a : Addr) (C : Value) : HO := .ext fun h => ∃ o, h.get? a = some o /\ o.cls = C
section
variable {X : Cx}
end
def XPo (X : Cx) (pins : List (Addr × Obj)) (σ : St) (E : XK) (e : Value) (s' : Shared) : Prop := ∃ H1 s1, Inv X pins σ H1 s1 /\ CXE X.prog X.w X.stack H1 s1 E e s'
def PEX (X : Cx) (e : Expr) (t : TE) (E : XK) : Prop :=
 ∀ (pins : List (Addr × Obj)) (s : Shared) (σ : St) (H : Hp) (Q : VK), Inv X pins σ H s -> t σ H Q -> wpAny (model X.prog X.w) X.A (eval e X.env) (EP X pins σ Q) (XPo X pins σ E) s
def PSX (X : Cx) (st : Stmt) (t : TS) (E : XK) : Prop :=
 ∀ (pins : List (Addr × Obj)) (s : Shared) (σ : St) (H : Hp) (D : Ends), Inv X pins σ H s -> t D σ H -> wpAny (model X.prog X.w) X.A (exec st X.env) (SP X pins D) (XPo X pins σ E) s
section
variable {X : Cx} {k : Nat} {f C : Addr} {fd : FuncData} {ps : List Str} {sp : Sp} {dvs : List V} {ds : List Value} {E : XK} {x m : Str} {p pos apos : Pos} {e o : Expr} {es : List Expr} {ta : TE} {t : TA}
end
section
variable {X : Cx} {pins : List (Addr × Obj)} {σ : St} {H : Hp} {s : Shared}
end
def hAs (K : PySem.W.Frag) (D : Addr) (i : Nat) (th : TS) (Dn : Ends) (σ : St) : XK := fun C _ H' => ∃ c, C = .ref c /\ PySem.W.subIn K (.ref c) (.ref D) = some true /\
 ∀ e H2, H' e = none -> Same H' H2 -> H2 e = some (excO e (.ref c)) -> th { nx := fun σ2 H3 => Dn.nx (σ2.set i none) H3, rt := Dn.rt, bk := fun σ2 H3 => Dn.bk (σ2.set i none) H3, ct := fun σ2 H3 => Dn.ct (σ2.set i none) H3 } (σ.set i (some (.ref e))) H2
def j4f (K : PySem.W.Frag) (D : Addr) (i : Nat) (tb : XK -> TS) (th : TS) : TS := fun Dn σ H => tb (hAs K D i th Dn σ) Dn σ H
section
variable {X : Cx} {D : Addr} {dn n : Str} {i : Nat} {st b₀ : Stmt} {suite : List Stmt} {tb : XK -> TS} {th : TS} {np hpos pos : Pos}
end
def j4g : TE := fun _ H Q => New H (.dK []) Q ⟨⟩
end L2
namespace L2
open PySem PySem.Spec PyProof.Rows
section
variable {X : Cx} {tg : Expr}
noncomputable def j1g (g : Str -> Str -> V) : V -> List V -> Hp -> VK -> Prop := fun x vs H Q => match x, vs with
 | .str z, [.str y] => Q (g z y) H
 | _, _ => False
theorem d1t : MtR X "str.startswith" (j1g fun z y => .bl (Txt.startswith z y)) := by
 intro pins s σ H x xs v us Q I rx rs h
 match x, xs, h with
 | .str z, [.str y], q =>
  obtain ⟨t, rfl⟩ := rx
  obtain ⟨u, rfl, t', rfl⟩ := vals1 rs
  exact call_gives F.slot_str_startswith (typeIs_str _ _ _) F.entry_str_startswith (F.args_str_startswith_2 _ _) (gives_str_startswith z y t t') ⟨.bl (Txt.startswith z y), H, I, rfl, q⟩
noncomputable def Its (x : Str) : It := ⟨fun i _ => i < x.cps.size, fun i H v H' => H' = H /\ ∃ c, x.cps[i]? = some c /\ v = .str ⟨#[c]⟩, fun i _ => i = x.cps.size⟩
theorem h5z {P : Program} {w : World} {K : PySem.W.Frag} (it : Addr) (x : Str) (t : Tok) {n : String} (hn : ["enumerate", "zip", "dict_itemiterator", "dict_reverseitemiterator", "odict_iterator", "itertools.zip_longest", "itertools.pairwise"].contains n = false)
  (W : ∀ A' : Around, A'.handled = none -> Walks P w A' it [it] [it] x.cps.size (SignAt x) (fun i h => h.IsStrIter it n x t i))
  (S : ∀ (A : Around) (i : Nat) (s : Shared) (Q : Value -> Shared -> Prop) (E : Value -> Shared -> Prop), s.heap.IsStrIter it n x t i -> Q (.ref it) s -> wpAny (model P w) A (pyIter (.ref it)) Q E s) : Turn P w K tg (Its x) [it] it (fun i h => h.IsStrIter it n x t i) where
 mem := by simp
 obj := fun i h st b hb => by
  have e : b = it := by simpa using hb
  subst e
  obtain ⟨o, e, c, d⟩ := st
  exact ⟨o, e, fun v z => by rw [d] at z; cases z⟩
 keep := fun i h h' st k => let ⟨o, ho, r⟩ := st; ⟨o, k it (by simp) o ho, r⟩
 item := by
  intro X hP hw hK hc i pins s σ H E I hf st hg
  subst hP hw hK
  obtain ⟨f0, f1, f2, f3, f4, f5⟩ := hf it (by simp)
  refine (W _ (I.ok.hd hc)).item i s _ _ hg st fun v h' tk hv st' kk => ?_
  obtain ⟨c, u, hc', rfl⟩ := hv
  have I1 : Inv X pins σ H { s with heap := h', toks := tk } := I.turned (fun b o hb e => kk b o (by simpa using hb) e) f0 f1 f3 f4 f5
  obtain ⟨o, e1, c1, d1⟩ := id st'
  exact ⟨_, rfl, h5e (s := { s with heap := h', toks := tk }) e1 c1 d1 hn ⟨.str ⟨#[c]⟩, H, I1, ⟨u, rfl⟩, ⟨rfl, c, hc', rfl⟩, st', fun b hb => (hf b hb).1⟩⟩
 done := by
  intro X hP hw hK hc i pins s σ H E I hf st hg
  subst hP hw hK
  obtain ⟨f0, f1, f2, f3, f4, f5⟩ := hf it (by simp)
  have hi : i = x.cps.size := hg
  subst hi
  exact (W _ (I.ok.hd hc)).done s _ _ st fun h' tk kk => ⟨rfl, I.turned (t' := tk) (fun b o hb e => kk b o (by simpa using hb) e) f0 f1 f3 f4 f5⟩
 self := S
def iStr (tl : TE) : TI := fun σ H R => tl σ H fun x H1 => match x with
 | .str z => R (Its z) H1
 | _ => False
theorem h8r {l : Expr} {tl : TE} (hl : PE X l tl) : PI X tg l (iStr tl) := by
 intro pins s σ H R I h
 refine thn (hl pins s σ H _ I h) fun v s1 ⟨x, H1, I1, r1, q1⟩ => ?_
 cases x with
 | str z =>
  obtain ⟨t, rfl⟩ := r1
  have fin : ∀ (o : Obj) (n : String), ["enumerate", "zip", "dict_itemiterator", "dict_reverseitemiterator", "odict_iterator", "itertools.zip_longest", "itertools.pairwise"].contains n = false → (s1.heap.push o).IsStrIter s1.heap.objs.size n z t 0 →
    (∀ A' : Around, A'.handled = none -> Walks X.prog X.w A' s1.heap.objs.size [s1.heap.objs.size] [s1.heap.objs.size] z.cps.size (SignAt z) (fun i h => h.IsStrIter s1.heap.objs.size n z t i)) ->
    (∀ (A : Around) (i : Nat) (s : Shared) (Q : Value -> Shared -> Prop) (E : Value -> Shared -> Prop), s.heap.IsStrIter s1.heap.objs.size n z t i -> Q (.ref s1.heap.objs.size) s -> wpAny (model X.prog X.w) A (pyIter (.ref s1.heap.objs.size)) Q E s) ->
    PIE X pins σ tg R (.ref s1.heap.objs.size) { s1 with heap := s1.heap.push o } := fun o n hn st W S => by
   refine ⟨s1.heap.objs.size, [s1.heap.objs.size], _, _, H1, rfl, I1.kept (t' := s1.toks) fun b o e => Heap.get?_push_of_some _ e, h5z _ z t hn W S, st, fun b hb => ?_, q1⟩
   have e : b = s1.heap.objs.size := by simpa using hb
   subst e
   exact I1.h5d (Nat.le_refl _) (I1.hok.fresh (Nat.le_refl _))
  cases ha : z.cps.all (· < 128)
  ·exact wpAny_pyIter_wide ha (fin _ "str_iterator" (by decide) ⟨_, Heap.get?_push_size _ rfl, rfl, rfl⟩ (fun A' hA => Walks.strWide hA _ z t) fun _ _ _ _ _ st hQ => wpAny_pyIter_striter_wide st hQ)
  ·exact wpAny_pyIter_ascii ha (fin _ "str_ascii_iterator" (by decide) ⟨_, Heap.get?_push_size _ rfl, rfl, rfl⟩ (fun A' hA => Walks.strAscii hA _ z t) fun _ _ _ _ _ st hQ => wpAny_pyIter_striter_ascii st hQ)
 | _ => exact False.elim q1
theorem h6a {x : Str} {g : TG} {tb : TS} {D : Ends} {σ : St} {H : Hp} (Pv : Nat -> St -> Hp -> Prop) (h0 : Pv 0 σ H)
  (hs : ∀ i c σ H, x.cps[i]? = some c -> Pv i σ H -> g (.str ⟨#[c]⟩) σ H fun σ2 H2 => tb { D with nx := Pv (i + 1), ct := Pv (i + 1), bk := D.nx } σ2 H2) (hd : ∀ σ H, Pv x.cps.size σ H -> D.nx σ H) : i5z (Its x) g tb D σ H := by
 refine ⟨fun i m σ H => m = x.cps.size - i /\ i <= x.cps.size /\ Pv i σ H, ⟨x.cps.size, by simp, Nat.zero_le _, h0⟩, ?_⟩
 rintro i m σ H ⟨rfl, hi, p⟩
 by_cases hlt : i < x.cps.size
 ·refine .inr ⟨hlt, Pv (i + 1), fun σ' H' p' => ⟨x.cps.size - (i + 1), by omega, rfl, hlt, p'⟩, fun v H' y => ?_⟩
  obtain ⟨e, c, hc, e2⟩ := y
  subst e e2
  exact hs i c σ _ hc p
 ·have e : i = x.cps.size := by omega
  subst e
  exact .inl ⟨rfl, hd σ H p⟩
noncomputable def rSlA : V -> Option Int -> Option Int -> Hp -> VK -> Prop := fun x lo hi H Q => match x with
 | .ref a => (match H a with
  | some (.lst xs) => New H (.lst (d3k xs lo hi)) Q ⟨⟩
  | _ => False)
 | .str z => z.length <= sizeLine /\ Q (.str (Txt.slice z lo hi)) H
 | _ => False
theorem g6f : SlR X rSlA := by
 intro pins s σ H x v vl vu lo hi sl Q I rx hs pl pu h
 cases x with
 | ref a => exact sl_M pins s σ H _ v vl vu lo hi sl Q I rx hs pl pu h
 | str z =>
  obtain ⟨t, rfl⟩ := rx
  obtain ⟨hz, q⟩ := h
  have fin : ∀ t' k, EP X pins σ Q (.str (Txt.slice z lo hi) t') { s with toks := k } := fun t' k => ⟨.str _, H, I.tok k, ⟨_, rfl⟩, q⟩
  refine ⟨"str", _, F.slot_str_getitem.lookup, typeIs_str _ _ _, ?_⟩
  cases pl with
  | none =>
   cases pu with
   | none => exact wpAny_getItem_str_slice (l := none) (u := none) (st := none) hs rfl (post_val_or_str ⟨Nat.le_trans (Txt.slice_le z _ _) hz, fin⟩)
   | int j uj => exact wpAny_getItem_str_slice (l := none) (u := some (j, uj)) (st := none) hs rfl (post_val_or_str ⟨Nat.le_trans (Txt.slice_le z _ _) hz, fin⟩)
  | int i ui =>
   cases pu with
   | none => exact wpAny_getItem_str_slice (l := some (i, ui)) (u := none) (st := none) hs rfl (post_val_or_str ⟨Nat.le_trans (Txt.slice_le z _ _) hz, fin⟩)
   | int j uj => exact wpAny_getItem_str_slice (l := some (i, ui)) (u := some (j, uj)) (st := none) hs rfl (post_val_or_str ⟨Nat.le_trans (Txt.slice_le z _ _) hz, fin⟩)
 | _ => exact False.elim h
noncomputable def j1h : List V -> Hp -> VK -> Prop := fun xs H Q => match xs with
 | [.int i] => Q (.int i) H
 | [.bl k] => Q (.int (if k then 1 else 0)) H
 | [.str z] => ∃ n, PySem.intText? z = some n /\ z.length <= 640 /\ Q (.int n) H
 | _ => False
theorem d1u : b7w X (.type "int") j1h := by
 intro pins s σ H xs us Q I r h
 match xs, r, h with
 | [.int i], r, q => exact f8i pins s σ H _ us Q I r (.inl ⟨i, rfl, q⟩)
 | [.bl k], r, q => exact f8i pins s σ H _ us Q I r (.inr ⟨k, rfl, q⟩)
 | [.str z], r, ⟨n, hn, hl, q⟩ =>
  obtain ⟨u, rfl, t, rfl⟩ := vals1 r
  exact PySem.W.KIN.call_text hn hl ⟨.int n, H, I.tok _, ⟨_, rfl⟩, q⟩
noncomputable def i6m : List V -> Hp -> VK -> Prop := fun xs H Q => match xs with
 | [.int i] => i.natAbs.log2 < 1920 /\ Q (.str (toString i)) H
 | _ => False
theorem d1v : b7w X (.type "str") i6m := f8j.weak fun xs H Q h => by
 match xs, h with
 | [.int i], ⟨a, b⟩ => exact ⟨i, rfl, a, b⟩
def tFmt (te : TE) : TE := fun σ H Q => te σ H fun x H1 => match x with
 | .int i => i.natAbs.log2 < 1920 /\ Q (.str (toString i)) H1
 | .str y => y.length <= sizeLine /\ Q (.str y) H1
 | _ => False
theorem b1m {e : Expr} {te : TE} {pos : Pos} (he : PE X e te) : PE X (.FormattedValue e (-1) none pos) (tFmt te) := by
 intro pins s σ H Q I h
 refine wpAny_FormattedValue_plain (thn (he pins s σ H _ I h) fun v s1 ⟨x, H1, I1, r1, q1⟩ => ?_)
 cases x with
 | int i =>
  obtain ⟨t, rfl⟩ := r1
  exact wpAny_formatField_int q1.1 ⟨.str (toString i), H1, I1.tok _, ⟨_, rfl⟩, q1.2⟩
 | str y =>
  obtain ⟨t, rfl⟩ := r1
  exact wpAny_formatField_str (hx := q1.1) ⟨.str y, H1, I1, ⟨_, rfl⟩, q1.2⟩ ⟨.str y, H1, I1.tok _, ⟨_, rfl⟩, q1.2⟩
 | _ => exact False.elim q1
noncomputable abbrev TJ := Str -> St -> Hp -> (Str -> Hp -> Prop) -> Prop
def PJ (X : Cx) (es : List Expr) (t : TJ) : Prop := ∀ (pins : List (Addr × Obj)) (acc : Str) (s : Shared) (σ : St) (H : Hp) (Q : Str -> Hp -> Prop) (Q' : Str -> Shared -> Prop), Inv X pins σ H s -> t acc σ H Q -> (∀ out H1 s1, Inv X pins σ H1 s1 -> Q out H1 -> Q' out s1) ->
 Joins (model X.prog X.w) X.A X.xe (evalEach es X.env) acc Q' s
noncomputable def j1i : TJ := fun acc _ H Q => Q acc H
def i6n (te : TE) (tr : TJ) : TJ := fun acc σ H Q => te σ H fun x H1 => match x with
 | .str y => acc.length + y.length <= sizeLine /\ tr (acc ++ y) σ H1 Q
 | _ => False
theorem c6k : PJ X [] j1i := fun pins acc s σ H Q Q' I h k => k acc H s I h
theorem a1v {e : Expr} {es : List Expr} {te : TE} {tr : TJ} (he : PE X e te) (hr : PJ X es tr) (hs : evalEach (e :: es) X.env = eval e X.env :: evalEach es X.env := by rfl) : PJ X (e :: es) (i6n te tr) := by
 intro pins acc s σ H Q Q' I h k
 rw [hs]
 refine thn (he pins s σ H _ I h) fun v s1 ⟨x, H1, I1, r1, q1⟩ => ?_
 cases x with
 | str y =>
  obtain ⟨t, rfl⟩ := r1
  exact ⟨y, t, rfl, by rw [strLen_append]; exact q1.1, hr pins (acc ++ y) s1 σ H1 Q Q' I1 q1.2 k⟩
 | _ => exact False.elim q1
def j1j (tj : TJ) : TE := fun σ H Q => tj Str.empty σ H fun out H1 => out.length <= sizeLine /\ Q (.str out) H1
theorem a6s {e₁ e₂ : Expr} {es : List Expr} {tj : TJ} {pos : Pos} (h : PJ X (e₁ :: e₂ :: es) tj) : PE X (.JoinedStr (e₁ :: e₂ :: es) pos) (j1j tj) := by
 intro pins s σ H Q I hq
 exact wpAny_JoinedStr (h pins Str.empty s σ H _ _ I hq fun out H1 s1 I1 q => ⟨q.1, .str out, H1, I1.tok _, ⟨_, rfl⟩, q.2⟩)
noncomputable def b3o (x y : Str) : List Str := if (decide (x.length < y.length) || decide (Builtin.Str.strKind x < Builtin.Str.strKind y)) = true then [x] else if (Builtin.Str.occurrences x y 0 x.length (x.length + 1)).isEmpty = true then [x] else Builtin.Str.partsBetween x (Builtin.Str.occurrences x y 0 x.length (x.length + 1)) y.length
noncomputable def i6o : V -> List V -> Hp -> VK -> Prop := fun x vs H Q => match x, vs with
 | .str z, [.str y] => (y.length == 0) = false /\ z.length <= sizeLine /\ (b3o z y).length <= sizeLine /\ New H (.lst ((b3o z y).map V.str)) Q ⟨⟩
 | _, _ => False
theorem f9g : ∀ (l : List Str) (k : Nat), Vals (l.map V.str) (strsFrom k l)
 | [], _ => .nil
 | x :: l, k => .cons ⟨_, rfl⟩ (f9g l (k + 1))
theorem c8s : MtR X "str.split" i6o := by
 intro pins s σ H x xs v us Q I rx rs h
 match x, xs, h with
 | .str z, [.str y], ⟨hy, hz, hn, q⟩ =>
  obtain ⟨t, rfl⟩ := rx
  obtain ⟨u, rfl, t', rfl⟩ := vals1 rs
  have fr : H s.heap.objs.size = none := I.hok.fresh (Nat.le_refl _)
  have itself : b3o z y = [z] → EP X pins σ Q (.ref s.heap.objs.size) { s with heap := s.heap.push { cls := .type "list", data := .seq [Value.str z t].toArray } } := fun e => by
   rw [e] at q
   exact ⟨.ref _, _, I.laid (o := .lst ([z].map V.str)) (t' := s.toks) (fun b u e => Heap.get?_push_of_some _ e) (Nat.le_refl _) ⟨show 1 <= sizeLine by decide, [Value.str z t], 0, .cons ⟨t, rfl⟩ .nil, Heap.get?_push_size _ rfl⟩, rfl, q.raw _ fr⟩
  by_cases h1 : (decide (z.length < y.length) || decide (Builtin.Str.strKind z < Builtin.Str.strKind y)) = true
  ·exact call_meets F.slot_str_split (typeIs_str _ _ _) F.entry_str_split (F.args_str_split_2 _ _) (meets_str_split_cannot_occur z y t t' h1) (itself (by unfold b3o; rw [if_pos h1]))
  ·have h1' := Bool.eq_false_iff.mpr h1
   by_cases h2 : (Builtin.Str.occurrences z y 0 z.length (z.length + 1)).isEmpty = true
   ·exact call_meets F.slot_str_split (typeIs_str _ _ _) F.entry_str_split (F.args_str_split_2 _ _) (meets_str_split_not_found z y t t' h1' hy h2) (itself (by unfold b3o; rw [if_neg h1, if_pos h2]))
   ·have h2' := Bool.eq_false_iff.mpr h2
    have e : b3o z y = Builtin.Str.partsBetween z (Builtin.Str.occurrences z y 0 z.length (z.length + 1)) y.length := by unfold b3o; rw [if_neg h1, if_neg h2]
    refine call_meets F.slot_str_split (typeIs_str _ _ _) F.entry_str_split (F.args_str_split_2 _ _) (meets_str_split_sep z y t t' h1' hy h2' hz (by rw [<- e]; exact hn)) ?_
    rw [<- e]
    refine ⟨.ref _, _, I.laid (o := .lst ((b3o z y).map V.str)) (t' := s.toks + (b3o z y).length) (fun b u e => Heap.get?_push_of_some _ e) (Nat.le_refl _) ⟨by rw [List.length_map]; exact hn, strsFrom s.toks (b3o z y), 0, f9g _ _, Heap.get?_push_size _ rfl⟩, rfl, q.raw _ fr⟩
noncomputable def i0p (z y : Str) : Bool := !(Builtin.Str.occurrences z y 0 z.length 1).isEmpty
def j4h (neg : Bool) : R2 := fun x y H Q => match y with
 | .str z => (match x with
  | .str y => Q (.bl (i0p z y != neg)) H
  | _ => False)
 | .ref p => (match H p with
  | some (.lst xs) => c1h x = true /\ xs.all c1h = true /\ Q (.bl (inV x xs != neg)) H
  | some (.tup xs) => c1h x = true /\ xs.all c1h = true /\ Q (.bl (inV x xs != neg)) H
  | _ => False)
 | _ => False
theorem f3n : OpR X (compareOp .In) (j4h false) := by
 intro pins s σ H x y v u Q I rx ry h
 cases y with
 | str z =>
  cases x with
  | str y =>
   have h : Q (.bl (i0p z y != false)) H := h
   rw [Bool.bne_false] at h
   exact h0i pins s σ H _ _ v u Q I rx ry ⟨y, z, rfl, rfl, h⟩
  | _ => exact False.elim h
 | ref p =>
  have h : (match H p with
   | some (.lst xs) => c1h x = true /\ xs.all c1h = true /\ Q (.bl (inV x xs != false)) H
   | some (.tup xs) => c1h x = true /\ xs.all c1h = true /\ Q (.bl (inV x xs != false)) H
   | _ => False) := h
  split at h
  ·rename_i xs e
   rw [Bool.bne_false] at h
   exact f8p pins s σ H _ _ v u Q I rx ry ⟨p, xs, rfl, .inl (SqL.of e), h.1, h.2.1, by simpa using h.2.2⟩
  ·rename_i xs e
   rw [Bool.bne_false] at h
   exact f8p pins s σ H _ _ v u Q I rx ry ⟨p, xs, rfl, .inr (SqT.of e), h.1, h.2.1, by simpa using h.2.2⟩
  ·exact h.elim
 | _ => exact False.elim h
theorem b7i : OpR X (compareOp .NotIn) (j4h true) := by
 intro pins s σ H x y v u Q I rx ry h
 cases y with
 | str z =>
  cases x with
  | str y =>
   have h : Q (.bl (i0p z y != true)) H := h
   rw [Bool.bne_true] at h
   exact f8q pins s σ H _ _ v u Q I rx ry ⟨y, z, rfl, rfl, h⟩
  | _ => exact False.elim h
 | ref p =>
  have h : (match H p with
   | some (.lst xs) => c1h x = true /\ xs.all c1h = true /\ Q (.bl (inV x xs != true)) H
   | some (.tup xs) => c1h x = true /\ xs.all c1h = true /\ Q (.bl (inV x xs != true)) H
   | _ => False) := h
  split at h
  ·rename_i xs e
   rw [Bool.bne_true] at h
   exact d5u pins s σ H _ _ v u Q I rx ry ⟨p, xs, rfl, .inl (SqL.of e), h.1, h.2.1, by simpa using h.2.2⟩
  ·rename_i xs e
   rw [Bool.bne_true] at h
   exact d5u pins s σ H _ _ v u Q I rx ry ⟨p, xs, rfl, .inr (SqT.of e), h.1, h.2.1, by simpa using h.2.2⟩
  ·exact h.elim
 | _ => exact False.elim h
end
end L2
namespace L2
open PySem PySem.Spec PyProof.Rows
def Wr (H : Hp) (a : Addr) (o : HO) (k : Hp -> Prop) (_ : Tag k) : Prop := ∀ H1, a2p a H H1 -> H1 a = some o -> k H1
section
variable {X : Cx} {e o value : Expr} {f m x : Str} {pos pos' apos : Pos} {ta tv : TE} {t : TA} {C : Addr} {es : List Expr}
def i0q (K : PySem.W.Frag) (ta : TE) (f : Str) : TE := fun σ H Q => ta σ H fun x H1 => match x with
 | .ref a => (match H1 a with
  | some (.ins C dx fs) => Cls K C /\ a1n K C f /\ (match fs.lookup f with
   | some v => Q v H1
   | none => False)
  | _ => False)
 | _ => False
theorem a1y (he : PE X e ta) (hb : attributeBase e f X.env (eval e X.env) = eval e X.env) : PE X (.Attribute e f pos) (i0q X.K ta f) := by
 intro pins s σ H Q I h
 refine (i5f he hb) pins s σ H Q I ?_
 unfold j3k
 unfold i0q at h
 have q : (fun (x : V) (H1 : Hp) => (match x with
   | .ref a => (match H1 a with
    | some (.ins C dx fs) => Cls X.K C /\ a1n X.K C f /\ (match fs.lookup f with
     | some v => Q v H1
     | none => False)
    | _ => False)
   | _ => False : Prop)) = fun x H1 => ∃ a C dx fs v, x = .ref a /\ H1 a = some (.ins C dx fs) /\ Cls X.K C /\ a1n X.K C f /\ fs.lookup f = some v /\ Q v H1 := by
  funext x H1
  refine propext ⟨fun z => ?_, fun ⟨a, C, dx, fs, v, e1, e2, c, n, l, q⟩ => ?_⟩
  ·cases x with
   | ref a =>
    dsimp only at z
    split at z
    ·rename_i C dx fs e1
     obtain ⟨c, n, z⟩ := z
     split at z
     ·rename_i v e2
      exact ⟨a, C, dx, fs, v, rfl, e1, c, n, e2, z⟩
     ·exact z.elim
    ·exact z.elim
   | _ => exact False.elim z
  ·subst e1
   dsimp only
   rw [e2]
   dsimp only
   rw [l]
   exact ⟨c, n, q⟩
 rw [q] at h
 exact h
def j1k (K : PySem.W.Frag) (ta tv : TE) (f : Str) : TS := fun D σ H => tv σ H fun y H1 => ta σ H1 fun x H2 => match x with
 | .ref a => (match H2 a with
  | some (.ins C dx fs) => Cls K C /\ a1n K C f /\ fs.length < 1000 /\ Wr H2 a (.ins C dx (d8g f y fs)) (D.nx σ) ⟨⟩
  | _ => False)
 | _ => False
theorem a4q (ha : PE X o ta) (hv : PE X value tv) (hs : swapsWith value (some (.Attribute o f pos')) pos.line X.env = pure false) : PS X (.Assign [.Attribute o f pos'] value pos) (j1k X.K ta tv f) := by
 intro pins s σ H D I h
 refine plainObj_wpAny_Assign_Attribute (thn (hv pins s σ H _ I h) fun u s1 ⟨y, H1, I1, ry, q⟩ => thn (ha pins s1 σ H1 _ I1 q) fun ov s2 ⟨x, H2, I2, rx, z⟩ => ?_) hs
 cases x with
 | ref a =>
  obtain rfl : ov = Value.ref a := rx
  dsimp only at z
  split at z
  ·rename_i C dx fs e1
   obtain ⟨c, n, l, k⟩ := z
   exact g7i I2 e1 c n l ry fun s3 I3 => ⟨σ, _, I3, k _ a2p.upd a2w⟩
  ·exact z.elim
 | _ => exact False.elim z
end
def c9i (C : Addr) (m : Str) (sp : Sp) (dvs : List V) (E : XK) (ta : TE) (t : TA) : TE := fun σ H Q => ta σ H fun x H1 => match x with
 | .ref a => (match H1 a with
  | some (.ins C' dx fs) => C' = C /\ fs.lookup m = none /\ t σ H1 fun vs H2 => sp (x :: (vs ++ dvs)) H2 Q E
  | _ => False)
 | _ => False
section
variable {X : Cx} {CX : CXT} {k : Nat} {f C : Addr} {fd : FuncData} {ps : List Str} {sp : Sp} {dvs : List V} {ds : List Value} {E : XK} {x m : Str} {p pos apos : Pos} {e o : Expr} {es : List Expr} {ta : TE} {t : TA}
theorem a8i {pl : Sem Bool} (he : PE X o ta) (c : Cls X.K C) (hm : Meth X.K C m f) (F : a1k X.prog X.w X.K X.mg X.base CX k f fd ps sp) (hr : a2k k X.A) (hb : Binds X.K fd ps ds) (hd : Vals dvs ds) (hx : Passes CX X E) (ha : PA X (e :: es) t)
  (hst : starEach (e :: es) X.env = (false, eval e X.env) :: starEach es X.env := by rfl) (hpl : (backTo pos (starEach es X.env)).any (·.1) = false := by rfl)
  (ht : eval (.Call (.Attribute o m apos) (e :: es) [] pos) X.env = (do
   let ov <- eval o X.env
   standAt apos.atName
   let (f, first) <- holding [ov] (getMethod ov m pl)
   callWith pos f first (backTo pos (starEach (e :: es) X.env)) (backToKw pos (keywordEach [] X.env))) := by rfl) :
  PE X (.Call (.Attribute o m apos) (e :: es) [] pos) (c9i C m sp dvs E ta t) := by
 intro pins s σ H Q I h
 refine PySem.W.methodCall_KW (pl := pl) (thn (he pins s σ H _ I h) fun u s1 ⟨x, H1, I1, rx, z⟩ => ?_) ht
 cases x with
 | ref a =>
  obtain rfl : u = Value.ref a := rx
  dsimp only at z
  split at z
  ·rename_i C' dx fs ea
   obtain ⟨rfl, l, q⟩ := z
   refine f3h I1 ea c hm l ?_
   refine PySem.W.callWith_K (first := [.ref a]) (h₀ := X.base) I.ok.mod.kin hm.kp (thn (ha pos pins s1 σ H1 _ I1 q) fun us s2 ⟨vs, H2, I2, r, q2⟩ => ⟨I2.kIn, ?_⟩) hst hpl
   exact g5x (us := .ref a :: us) (vs := .ref a :: vs) F hr hb hd hx I2 (.cons rfl r) q2
  ·exact z.elim
 | _ => exact False.elim z
theorem a1w {pl : Sem Bool} (he : PE X o ta) (c : Cls X.K C) (hm : Meth X.K C m f) (F : a1k X.prog X.w X.K X.mg X.base CX k f fd ps sp) (hr : a2k k X.A) (hb : Binds X.K fd ps ds) (hd : Vals dvs ds) (hx : Passes CX X E)
  (ht : eval (.Call (.Attribute o m apos) [] [] pos) X.env = (do
   let ov <- eval o X.env
   standAt apos.atName
   let (f, first) <- holding [ov] (getMethod ov m pl)
   callWith pos f first (backTo pos (starEach [] X.env)) (backToKw pos (keywordEach [] X.env))) := by rfl) :
  PE X (.Call (.Attribute o m apos) [] [] pos) (c9i C m sp dvs E ta h4w) := by
 intro pins s σ H Q I h
 refine PySem.W.methodCall_KW (pl := pl) (thn (he pins s σ H _ I h) fun u s1 ⟨x, H1, I1, rx, z⟩ => ?_) ht
 cases x with
 | ref a =>
  obtain rfl : u = Value.ref a := rx
  dsimp only at z
  split at z
  ·rename_i C' dx fs ea
   obtain ⟨rfl, l, q⟩ := z
   refine f3h I1 ea c hm l ?_
   exact PySem.W.callWith_K0 (first := [.ref a]) I1.kIn hm.kp (g5x (us := [.ref a]) (vs := [.ref a]) F hr hb hd hx I1 (.cons rfl .nil) q)
  ·exact z.elim
 | _ => exact False.elim z
def i9k (H : Hp) (C : Addr) (k : Addr -> Hp -> Prop) (_ : Tag k) : Prop := ∀ x dx H1, H x = none -> H dx = none -> dx ≠ x -> Same H H1 -> H1 dx = some (.own x) -> H1 x = some (.ins C dx []) -> k x H1
def i6p (x : Addr) (Q : VK) : VK := fun v H2 => v = .non /\ Q (.ref x) H2
theorem asNew {x : Addr} {Q : VK} {H2 : Hp} {v : V} : i6p x Q v H2 = (v = .non /\ Q (.ref x) H2) := rfl
def h8s (C : Addr) (sp : Sp) (dvs : List V) (E : XK) (t : TA) : TE := fun σ H Q => t σ H fun vs H1 => i9k H1 C (fun x H2 => sp (.ref x :: (vs ++ dvs)) H2 (i6p x Q) E) ⟨⟩
theorem i9k.raw {H : Hp} {C : Addr} {k : Addr -> Hp -> Prop} {t : Tag k} (h : i9k H C k t) : ∀ x dx, H x = none -> H dx = none -> dx ≠ x -> k x (upd (upd H dx (.own x)) x (.ins C dx [])) := fun x dx ex ed ne =>
 h x dx _ ex ed ne ((Same.upd ed).trans (Same.upd (by rw [a3p ne.symm]; exact ex))) (by rw [a3p ne]; exact a2w) a2w
theorem c1j (M : Mk X.K C f) (F : a1k X.prog X.w X.K X.mg X.base CX k f fd ps sp) (hr : a2k (k + 1) X.A) (hg : Gl X x) (hm : X.mg x = some (.ref C)) (hb : Binds X.K fd ps ds) (hd : Vals dvs ds) (hx : Passes CX X E)
  (ha : PA X (e :: es) t) (hdb : (x == ("__debug__" : Str)) = false := by decide) (he : starEach (e :: es) X.env = (false, eval e X.env) :: starEach es X.env := by rfl) (hpl : (backTo pos (starEach es X.env)).any (·.1) = false := by rfl) :
  PE X (.Call (.Name x p) (e :: es) [] pos) (h8s C sp dvs E t) := by
 intro pins s σ H Q I h
 refine wpAny_Call_Name_kw (f4t I hg hm ?_ hdb)
 refine PySem.W.callWith_K (h₀ := X.base) I.ok.mod.kin M.kp (thn (ha pos pins s σ H _ I h) fun us s1 ⟨vs, H1, I1, r, q⟩ => ⟨I1.kIn, ?_⟩) he hpl
 exact g5y M F hr hb hd hx I1 r q.raw
theorem f9h (M : Mk X.K C f) (F : a1k X.prog X.w X.K X.mg X.base CX k f fd ps sp) (hr : a2k (k + 1) X.A) (hg : Gl X x) (hm : X.mg x = some (.ref C)) (hb : Binds X.K fd ps ds) (hd : Vals dvs ds) (hx : Passes CX X E)
  (hdb : (x == ("__debug__" : Str)) = false := by decide) : PE X (.Call (.Name x p) [] [] pos) (h8s C sp dvs E h4w) := by
 intro pins s σ H Q I h
 refine wpAny_Call_Name_kw (f4t I hg hm ?_ hdb)
 exact PySem.W.callWith_K0 I.kIn M.kp (g5y (us := []) M F hr hb hd hx I .nil (i9k.raw (t := ⟨⟩) h))
end
def i9l (K : PySem.W.Frag) (ta tv : TE) (rd : V -> V -> Hp -> VK -> Prop) (f : Str) : TS := fun D σ H => ta σ H fun x H1 => match x with
 | .ref a => (match H1 a with
  | some (.ins C dx fs) => Cls K C /\ a1n K C f /\ (match fs.lookup f with
   | some v => tv σ H1 fun y H2 => rd v y H2 fun z H3 => (match H3 a with
    | some (.ins C' dx' fs') => C' = C /\ fs'.length < 1000 /\ Wr H3 a (.ins C dx' (d8g f z fs')) (D.nx σ) ⟨⟩
    | _ => False)
   | none => False)
  | _ => False)
 | _ => False
section
variable {X : Cx} {o e value : Expr} {f : Str} {pos pos' tpos : Pos} {ta tv : TE}
end
noncomputable def rInF (g : Int -> Int -> Int) : V -> V -> Hp -> VK -> Prop := fun x y H Q => match x, y with
 | .int i, .int j => Q (.int (g i j)) H
 | _, _ => False
def tAugF (i : Nat) (te : TE) (ti : TIp) : TS := fun D σ H => match σ[i]? with
 | some (some x) => te σ H fun y H1 => ti x y H1 fun z H2 => D.nx (σ.set i (some z)) H2
 | _ => False
section
variable {X : Cx} {pos : Pos}
end
theorem lookup_same {f : Str} {v : V} {r : List (Str × V)} : List.lookup f ((f, v) :: r) = some v := by rw [List.lookup_cons, beq_self_eq_true]
theorem i6q {f : Str} {v x : V} {r : List (Str × V)} : d8g f v ((f, x) :: r) = (f, v) :: r := by rw [d8g, if_pos rfl]
theorem i9m {f : Str} {v : V} : d8g f v [] = [(f, v)] := rfl
theorem h8t {f g : Str} {v : V} {r : List (Str × V)} (h : (f == g) = false) : List.lookup f ((g, v) :: r) = r.lookup f := by rw [List.lookup_cons, h]
theorem i3y {f g : Str} {v x : V} {r : List (Str × V)} (h : (f == g) = false) : d8g f v ((g, x) :: r) = (g, x) :: d8g f v r := by rw [d8g, if_neg fun e => by rw [e, beq_self_eq_true] at h; exact Bool.noConfusion h]
theorem noxK {X : Cx} : X.nox.K = X.K := rfl
end L2
namespace L2
open PySem PySem.Spec PyProof.Rows
structure i6r (k : Nat) (A : Around) : Prop where
 dp : A.depth + 3 * k + 5 < recursionLimit
 un : A.units + 16 * k + 200 < cLine
theorem a2k.h {k : Nat} {A : Around} (r : a2k k A) : i6r k A := ⟨r.dp, r.un⟩
structure i6s (P : Program) (w : World) (K : PySem.W.Frag) (mg : Str -> Option Value) (base : Heap) (k : Nat) (f : Addr) (fd : FuncData) (ps : List Str) (sp : Sp) : Prop where
 len : ∀ vs H Q E, sp vs H Q E -> vs.length = ps.length
 run : ∀ (A : Around) (outer : List Env) (s : Shared) (H : Hp) (args : Args) (us : List Value) (vs : List V) (Q : VK) (E : XK), i6r k A -> h8b P w K mg base A outer s H -> BindsTo s fd args (ps.zip us) -> Vals vs us -> sp vs H Q E ->
  codeAny (model P w) A (.call (.ref f) args) (CR CX0 outer P w H s Q E) s
theorem i6s.ok {P : Program} {w : World} {K : PySem.W.Frag} {mg : Str -> Option Value} {base : Heap} {k : Nat} {f : Addr} {fd : FuncData} {ps : List Str} {sp : Sp} (F : i6s P w K mg base k f fd ps sp) : a1k P w K mg base CX0 k f fd ps sp :=
 ⟨F.len, fun A outer s H args us vs Q E hr => F.run A outer s H args us vs Q E hr.h⟩
section
variable {X : Cx} {k : Nat} {f : Addr} {fd : FuncData} {ps : List Str} {sp : Sp} {dvs : List V} {ds : List Value} {x : Str} {p pos : Pos} {e : Expr} {es : List Expr} {t : TA}
end
end L2
namespace L2
open PySem PySem.Spec PyProof.Rows
open PySem.Builtin.Str (occurrences subAt partsBetween strSub)
noncomputable abbrev sg (x : Str) : List Nat := x.cps.toList
theorem b1n {x y : Str} (h : sg x = sg y) : x = y := Str.ext' (by
 have := congrArg List.toArray h
 simpa using this)
theorem a1r (x y : Str) : sg (x ++ y) = sg x ++ sg y := by unfold sg; rw [Str.cps_append]; simp
theorem b7j (x : Str) : (sg x).length = x.length := by simp [Str.length]
theorem h8u {x : Str} {c i : Nat} : StrLaws.At x ⟨#[c]⟩ x.length i ↔ (sg x)[i]? = some c := StrLaws.subAt_one x c i
theorem b4o {c : Nat} : (⟨#[c]⟩ : Str).length = 1 := rfl
theorem h8v (x : Str) (i j : Nat) : sg (strSub x i j) = ((sg x).drop i).take (j - i) := StrLaws.strSub_toList x i j
theorem h6b {x : Str} {c : Nat} {a b : List Nat} (hk : c < 128) (h : sg x = a ++ c :: b) (ha : c ∉ a) (hb : c ∉ b) : b3o x ⟨#[c]⟩ = [⟨a.toArray⟩, ⟨b.toArray⟩] := by
 have hl : x.length = a.length + (b.length + 1) := by rw [<- b7j, h]; simp
 have k1 : ¬ ((decide (x.length < (⟨#[c]⟩ : Str).length) || decide (Builtin.Str.strKind x < Builtin.Str.strKind ⟨#[c]⟩)) = true) := by
  have e : Builtin.Str.strKind ⟨#[c]⟩ = 1 := by
   unfold Builtin.Str.strKind
   rw [if_pos (by simp; omega)]
  have g : 1 <= Builtin.Str.strKind x := by
   unfold Builtin.Str.strKind
   split
   ·decide
   ·split <;> decide
  rw [e, b4o]
  simp only [Bool.or_eq_true, decide_eq_true_eq]
  omega
 have only : ∀ i, StrLaws.At x ⟨#[c]⟩ x.length i -> i = a.length := by
  intro i hi
  have hi := h8u.mp hi
  rw [h] at hi
  rcases Nat.lt_trichotomy i a.length with q | q | q
  ·rw [List.getElem?_append_left q] at hi
   exact absurd (List.mem_of_getElem? hi) ha
  ·exact q
  ·rw [List.getElem?_append_right (Nat.le_of_lt q)] at hi
   obtain ⟨j, hj⟩ : ∃ j, i - a.length = j + 1 := ⟨i - a.length - 1, by omega⟩
   rw [hj, List.getElem?_cons_succ] at hi
   exact absurd (List.mem_of_getElem? hi) hb
 have there : StrLaws.At x ⟨#[c]⟩ x.length a.length := h8u.mpr (by rw [h, List.getElem?_append_right (Nat.le_refl _), Nat.sub_self]; rfl)
 obtain ⟨f, ch⟩ := StrLaws.occ_chain x ⟨#[c]⟩ (x.length + 1)
 have ho : occurrences x ⟨#[c]⟩ 0 x.length (x.length + 1) = [a.length] := by
  rcases StrLaws.occ_head x ⟨#[c]⟩ (x.length + 1) (by omega) with ⟨h0, hn⟩ | ⟨i, r, h0, hi, hn⟩
  ·exact absurd there (hn _)
  ·rw [h0] at ch ⊢
   have e := only i hi
   subst e
   cases r with
   | nil => rfl
   | cons j r =>
    obtain ⟨_, _, q1, q2, _⟩ := ch
    have := only j q2
    rw [b4o] at q1
    omega
 unfold b3o
 rw [if_neg k1, ho, if_neg (by simp)]
 simp only [partsBetween, List.map_cons, List.map_nil, List.cons_append, List.nil_append, List.zip_cons_cons, List.zip_nil_right, List.cons.injEq, and_true]
 constructor
 ·refine b1n ?_
  rw [h8v, h]
  simp
 ·refine b1n ?_
  rw [h8v, b4o, h, hl]
  have e : (a ++ c :: b).drop (a.length + 1) = b := by rw [List.drop_append]; simp
  rw [e, List.take_of_length_le (by omega)]
open PySem.NumText (AllDigits digitsVal digitsVal_snoc)
noncomputable def dg (n : Nat) : List Nat := (Nat.toDigits 10 n).map Char.toNat
theorem g6g (n : Nat) : digitsVal (dg n) = n := PySem.W.KIN.val_back n
theorem g2d {n : Nat} (h : n < 10) : dg n = [n + 48] := by
 have : ∀ d, d < 10 -> dg d = [d + 48] := by decide
 exact this n h
theorem d8u {m c : Nat} (hm : 0 < m) (hc : c < 10) : dg (10 * m + c) = dg m ++ [c + 48] := by
 have t : Nat.toDigits 10 m ++ Nat.toDigits 10 c = Nat.toDigits 10 (10 * m + c) := Nat.toDigits_append_toDigits (by decide) hm hc
 unfold dg
 rw [<- t, List.map_append]
 have := g2d hc
 unfold dg at this
 rw [this]
theorem h1h (n : Nat) : dg n ≠ [] := by
 by_cases h : n < 10
 ·rw [g2d h]; simp
 ·have e : n = 10 * (n / 10) + n % 10 := by omega
  rw [e, d8u (by omega) (by omega)]
  simp
theorem c9j (n : Nat) : AllDigits (dg n) := by
 induction n using Nat.strongRecOn with
 | _ n ih =>
  by_cases h : n < 10
  ·rw [g2d h]
   intro c hc
   simp at hc
   omega
  ·have e : n = 10 * (n / 10) + n % 10 := by omega
   rw [e, d8u (by omega) (by omega)]
   intro c hc
   rcases List.mem_append.mp hc with q | q
   ·exact ih (n / 10) (by omega) c q
   ·simp at q
    omega
theorem i0r {n : Nat} (h : 0 < n) : ∃ c r, dg n = c :: r /\ c ≠ 48 := by
 induction n using Nat.strongRecOn with
 | _ n ih =>
  by_cases q : n < 10
  ·exact ⟨n + 48, [], g2d q, by omega⟩
  ·obtain ⟨c, r, e, hc⟩ := ih (n / 10) (by omega) (by omega)
   have e2 : n = 10 * (n / 10) + n % 10 := by omega
   refine ⟨c, r ++ [n % 10 + 48], ?_, hc⟩
   conv => lhs; rw [e2]
   rw [d8u (by omega) (by omega), e]
   rfl
theorem h8w : ∀ {ds : List Nat}, AllDigits ds -> digitsVal ds < 10 ^ ds.length := by
 intro ds
 generalize hn : ds.length = n
 induction n generalizing ds with
 | zero => intro _; rw [List.length_eq_zero_iff.mp hn]; decide
 | succ n ih =>
  intro hd
  have hne : ds ≠ [] := fun e => by rw [e] at hn; cases hn
  have e : ds = ds.dropLast ++ [ds.getLast hne] := (List.dropLast_concat_getLast hne).symm
  generalize ds.dropLast = cs at e
  generalize ds.getLast hne = c at e
  subst e
  have hc := hd c (by simp)
  have := ih (ds := cs) (by simp at hn; exact hn) fun d hd' => hd d (by simp [hd'])
  rw [digitsVal_snoc, Nat.pow_succ]
  omega
noncomputable def txt (t : Int) : List Nat := if t < 0 then 45 :: dg t.natAbs else dg t.natAbs
theorem c1k (t : Int) : sg (Str.ofString (toString t)) = txt t := by
 unfold txt
 match t with
 | .ofNat m => exact PySem.W.KIN.signs_num m
 | .negSucc m =>
  rw [if_pos (Int.negSucc_lt_zero m)]
  unfold sg
  rw [signs_ofString]
  show (("-" ++ Nat.repr (m + 1)).toList.map Char.toNat) = _
  rw [String.toList_append, List.map_append, Nat.toList_repr]
  rfl
theorem d3o {x : Str} {t : Int} (h : sg x = txt t) (hl : x.length <= 4300) : PySem.intText? x = some t := by
 unfold txt at h
 split at h
 ·rename_i ht
  have := intText_neg h (c9j _) (h1h _) hl
  rw [g6g] at this
  rw [this]
  congr 1
  omega
 ·rename_i ht
  have := intText_digits (x := x) (by rw [show x.cps.toList = sg x from rfl, h]; exact c9j _) (by rw [show x.cps.toList = sg x from rfl, h]; exact h1h _) hl
  rw [show x.cps.toList = sg x from rfl, h, g6g] at this
  rw [this]
  congr 1
  omega
theorem i6t (n : Nat) : (dg n).length <= n.log2 + 1 := by
 induction n using Nat.strongRecOn with
 | _ n ih =>
  by_cases h : n < 10
  ·rw [g2d h]; simp
  ·have e : n = 10 * (n / 10) + n % 10 := by omega
   have i := ih (n / 10) (by omega)
   have k : (n / 10).log2 + 1 <= n.log2 := by
    rw [Nat.le_log2 (by omega), Nat.pow_succ]
    have := Nat.log2_self_le (n := n / 10) (by omega)
    omega
   have z := d8u (m := n / 10) (c := n % 10) (by omega) (by omega)
   rw [<- e] at z
   rw [z]
   rw [List.length_append]
   simp only [List.length_cons, List.length_nil]
   omega
theorem g2e (t : Int) : (txt t).length <= t.natAbs.log2 + 2 := by
 have := i6t t.natAbs
 unfold txt
 split
 ·rw [List.length_cons]; omega
 ·omega
noncomputable def h4x (t b : Int) : List Nat := txt t ++ 47 :: txt b
structure Good (x : List Nat) (t b : Int) : Prop where
 eq : x = h4x t b
 pos : 0 < b
 low : Int.gcd t b = 1
 l1 : (dg t.natAbs).length <= 9
 l2 : (dg b.natAbs).length <= 9
noncomputable def h1i (l : List Nat) : Bool := l.all (fun c => decide (48 <= c) && decide (c <= 57)) && !l.isEmpty
theorem f5i {l : List Nat} : h1i l = true ↔ AllDigits l /\ l ≠ [] := by
 unfold h1i AllDigits
 simp
theorem i0s (c : Nat) : i0p "0123456789" ⟨#[c]⟩ = (decide (48 ≤ c) && decide (c ≤ 57)) := by
 unfold i0p
 rw [StrLaws.found_one]
 have e : (Str.ofString "0123456789").cps.toList = [48, 49, 50, 51, 52, 53, 54, 55, 56, 57] := by decide +kernel
 rw [e]
 by_cases h : 48 <= c /\ c <= 57
 ·rw [show (decide (48 <= c) && decide (c <= 57)) = true by simp [h]]
  rw [decide_eq_true_eq]
  simp
  omega
 ·rw [show (decide (48 <= c) && decide (c <= 57)) = false by simp; omega]
  rw [decide_eq_false_iff_not]
  simp
  omega
theorem c1l {t : Int} {c : Nat} (h1 : c ≠ 45) (h2 : c < 48 \/ 57 < c) : c ∉ txt t := by
 unfold txt
 intro h
 split at h
 ·rcases List.mem_cons.mp h with q | q
  ·exact h1 q
  ·have := c9j _ c q; omega
 ·have := c9j _ c h; omega
theorem i6u (t : Int) : (txt t).length <= (dg t.natAbs).length + 1 := by
 unfold txt
 split
 ·rw [List.length_cons]; exact Nat.le_refl _
 ·exact Nat.le_succ _
theorem h8x (x : Str) (c : Nat) : Txt.startswith x ⟨#[c]⟩ = decide ((sg x)[0]? = some c) := by
 unfold Txt.startswith
 rw [Bool.eq_iff_iff, Bool.and_eq_true, decide_eq_true_eq, decide_eq_true_eq]
 exact StrLaws.subAt_one x c 0
theorem i6v {x : Str} {t : Int} (h : sg x = txt t) : Txt.startswith x ⟨#[45]⟩ = decide (t < 0) := by
 rw [h8x, h]
 unfold txt
 split
 ·rename_i q
  simp [q]
 ·rename_i q
  rw [decide_eq_false q, decide_eq_false_iff_not]
  intro e
  have := c9j _ 45 (List.mem_of_getElem? e)
  omega
theorem h1j {x : Str} {i : Nat} (h : i <= x.length) : sg (Txt.slice x (some (i : Int)) none) = (sg x).drop i := by
 rw [slice_from_eq (b := (x.length : Int)) (by omega) (by omega) rfl]
 simp only [sg, Int.toNat_natCast]
 rw [List.take_of_length_le]
 rw [List.length_drop]
 have := b7j x
 unfold sg at this
 omega
theorem i6w {x : Str} {j : Nat} (hj : j <= x.length) : sg (Txt.slice x none (some (j : Int))) = (sg x).take j := by
 have e := slice_closes_to (x := x) (j := (j : Int)) ⟨by omega, by rw [show x.cps.toList = sg x from rfl, b7j]; omega⟩
 rw [beq_iff_eq.mp e]
 simp [sg]
end L2
namespace L2
open PySem PySem.Spec PyProof.Rows
section
variable {X : Cx}
noncomputable def i6x (K : PySem.W.Frag) : List V -> Hp -> VK -> Prop := fun xs H Q => match xs with
 | [.ref p] => (match H p with
  | some (.lst ys) => New H (.tup ys) Q ⟨⟩
  | some (.tup ys) => Q (.ref p) H
  | _ => False)
 | _ => False
theorem d8v : b7w X (.type "tuple") (i6x X.K) := f4y.weak fun xs H Q h => by
 match xs, h with
 | [.ref p], h =>
  unfold i6x at h
  dsimp only at h
  split at h
  ·rename_i ys e
   exact ⟨p, ys, rfl, .inl ⟨SqL.of e, h.raw⟩⟩
  ·rename_i ys e
   exact ⟨p, ys, rfl, .inr ⟨SqT.of e, h⟩⟩
  ·exact h.elim
end
section
variable {X : Cx}
structure InsQ (K : PySem.W.Frag) (C : Addr) : Prop where
 ha : PySem.W.findIn K (.ref C) "__class__" = some (some (.builtin "object.__class__"))
 hn : PySem.W.specialIn K (.builtin "object.__class__") "__get__" = some (some (.builtin "getset_descriptor.__get__"))
 htk : PySem.W.takesIn K (.builtin "object.__class__") = some true
 hm : PySem.W.mroIn K C (.type "object") = some true
noncomputable def rIsI (K : PySem.W.Frag) : List V -> Hp -> VK -> Prop := fun xs H Q => match xs with
 | [.ref a, .ref D] => (match H a with
  | some (.ins C dx fs) => Cls K C /\ InsQ K C /\ (match PySem.W.kitOne K (.ref C) (.ref D) with
   | some b => Q (.bl b) H
   | none => False)
  | _ => False)
 | _ => False
end
section
variable {X : Cx} {pos : Pos}
noncomputable def j1l : List V -> Hp -> VK -> Prop := fun xs H Q => match xs with
 | [.int i, .int j] => (0 < j /\ j < 1073741824) /\ New H (.tup [.int (i / j), .int (i % j)]) Q ⟨⟩
 | _ => False
noncomputable def i6y : TGs := fun vs σ H Q => match vs with
 | [] => Q σ H
 | _ => False
def h8y (t : TG) (u : TGs) : TGs := fun vs σ H Q => match vs with
 | v :: r => t v σ H fun σ' H' => u r σ' H' Q
 | _ => False
def i6z (n : Nat) (t : TGs) : TG := fun v σ H Q => match v with
 | .ref a => (match H a with
  | some (.tup xs) => xs.length = n /\ t xs σ H Q
  | _ => False)
 | _ => False
theorem c8t : PGs X [] i6y := by
 intro pins s σ H vs us Q I r h
 refine g9z pins s σ H vs us Q I r ?_
 unfold i6y at h
 split at h
 ·exact ⟨rfl, h⟩
 ·exact h.elim
theorem a4j {e : Expr} {es : List Expr} {t : TG} {u : TGs} (h1 : PG X e t) (h2 : PGs X es u)
  (hs : (assignEach (e :: es) X.env).map (·.2) = assign e X.env :: (assignEach es X.env).map (·.2) := by rfl) : PGs X (e :: es) (h8y t u) := by
 intro pins s σ H vs us Q I r h
 refine f4u h1 h2 hs pins s σ H vs us Q I r ?_
 unfold h8y at h
 split at h
 ·exact ⟨_, _, rfl, h⟩
 ·exact h.elim
theorem d3p {es : List Expr} {k : Nat} {t : TGs} {n : Nat} (hc : X.calm = true) (h : PGs X es t)
  (hn : (assignEach es X.env).length = n := by rfl) (hst : (assignEach es X.env).findIdx? (·.1) = none := by rfl) : PG X (.Tuple es k pos) (i6z n t) := by
 intro pins s σ H v u Q I r hw
 refine h7z hc h hn hst pins s σ H v u Q I r ?_
 unfold i6z at hw
 cases v with
 | ref a =>
  dsimp only at hw
  split at hw
  ·rename_i xs e
   exact ⟨a, xs, rfl, SqT.of e, hw.1, hw.2⟩
  ·exact hw.elim
 | _ => exact False.elim hw
end
end L2
namespace L2
open PySem PySem.Spec PyProof.Rows
def g6h (J : It) (tc : TT) (te : TE) (D : Addr) (σ : St) (H : Hp) (Q : VK) (_ : Tag Q) : Prop := ∃ (n : Nat) (W : Nat -> List V -> Hp -> Prop), W 0 [] H /\ ∀ i ys H, i <= n -> W i ys H -> H D = some (.lst ys) /\
 ((J.stop i H /\ Q (.ref D) H) \/ (i < n /\ J.go i H /\ ys.length < sizeLine /\ ∀ x H', J.yld i H x H' -> tc (some x :: σ) H' fun b H1 =>
  if b = true then te (some x :: σ) H1 fun y H2 => H2 D = some (.lst ys) /\ ∀ H3, a2p D H2 H3 -> H3 D = some (.lst (ys ++ [y])) -> W (i + 1) (ys ++ [y]) H3
  else W (i + 1) ys H1))
def i7a (wi : TI) (tc : TT) (te : TE) : TE := fun σ H Q => wi σ H fun J H1 => ∀ D H2, H1 D = none -> Same H1 H2 -> H2 D = some (.lst []) -> g6h J tc te D σ H2 Q ⟨⟩
section
variable {X : Cx} {scope : Scope} {x : Str} {pins : List (Addr × Obj)} {σ : St} {elt iter cnd : Expr} {px pos : Pos} {wi : TI} {te : TE} {tc : TT}
theorem g2f {s₂ : Shared} {H1 : Hp} {it : Addr} {fp : List Addr} {tn : Nat -> Heap -> Prop} {J : It} {Q : VK} {RR : Value -> Addr -> Result -> Shared -> Prop} {E : Value -> Shared -> Prop} {cl : List (Str × Addr)}
  (S : b9s X scope x) (hc : X.calm = true) (hcnd : ∀ cl C s₃ H₃ fp, PT (a8g X scope cl C s₃ H₃ fp x) cnd tc) (he : ∀ cl C s₃ H₃ fp, PE (a8g X scope cl C s₃ H₃ fp x) elt te)
  (hcl : ∀ y c, cl.lookup y = some c -> (y, NameKind.free) ∈ scope.names /\ X.env.cells.lookup y = some c) (hcl2 : ∀ y, (y, NameKind.free) ∈ scope.names -> cl.lookup y = X.env.cells.lookup y)
  (I2 : Inv X pins σ H1 s₂) (T : Turn X.prog X.w X.K (.Name x px) J fp it tn) (st2 : tn 0 s₂.heap) (f2 : ∀ b ∈ fp, d7z X pins H1 b) (h : ∀ D H2, H1 D = none -> Same H1 H2 -> H2 D = some (.lst []) -> g6h J tc te D σ H2 Q ⟨⟩)
  (hRR : ∀ (D C : Addr) (s' : Shared) (H' : Hp), (∃ m, s'.heap.Ns C m) -> (∀ h' , Heap.SameBut C s'.heap h' -> Inv X pins σ H' { s' with heap := h' }) -> d7z X pins H' C -> Q (.ref D) H' -> RR (.ref D) C (.ok .next) s') :
  wpAny (model X.prog X.w) X.A (newList []) (fun acc s₃ => wpAny (model X.prog X.w) X.A (newFunctionEnv scope X.env.globals cl [] X.env.qual none .none (some X.env)) (fun cenv s₄ =>
   codeAny (model X.prog X.w) X.A (.compStart (.ListComp elt [⟨.Name x px, iter, [cnd], 0⟩] scope pos) 0 (.ref it) acc { cenv with scope := relabel scope X.env }) (RR acc cenv.locals) s₄) E s₃) E s₂ := by
 have hfr : H1 s₂.heap.objs.size = none := I2.hok.fresh (Nat.le_refl _)
 have hCW := h s₂.heap.objs.size _ hfr (Same.upd hfr) a2w
 refine wpAny_newObj_type ?_
 have I3 : Inv X pins σ (upd H1 s₂.heap.objs.size (.lst [])) { s₂ with heap := s₂.heap.push { cls := .type "list", data := .seq ([] : List Value).toArray }, toks := s₂.toks } :=
  I2.laid (t' := s₂.toks) (fun b u e => Heap.get?_push_of_some _ e) (Nat.le_refl _) ⟨Nat.zero_le _, [], 0, .nil, Heap.get?_push_size _ rfl⟩
 have nD : ∀ b ∈ fp, b ≠ s₂.heap.objs.size := fun b hb => by
  obtain ⟨o, e, _⟩ := T.obj 0 _ st2 b hb
  exact Nat.ne_of_lt (Heap.lt_size e)
 have f3 : ∀ b ∈ fp, d7z X pins (upd H1 s₂.heap.objs.size (.lst [])) b := fun b hb => ⟨by rw [a3p (nD b hb)]; exact (f2 b hb).1, (f2 b hb).2⟩
 generalize hH3 : upd H1 s₂.heap.objs.size (.lst []) = H3 at *
 have st3 : tn 0 (s₂.heap.push { cls := .type "list", data := .seq ([] : List Value).toArray }) := T.keep _ _ _ st2 fun b _ o e => Heap.get?_push_of_some _ e
 have h1f : ∀ b ∈ fp, b < (s₂.heap.push { cls := .type "list", data := .seq ([] : List Value).toArray }).objs.size := fun b hb => by
  obtain ⟨o, e, _⟩ := T.obj 0 _ st3 b hb
  exact Heap.lt_size e
 show wpAny (model X.prog X.w) X.A (newFunctionEnv scope X.env.globals cl [] X.env.qual none .none (some X.env)) _ E { s₂ with heap := s₂.heap.push { cls := .type "list", data := .seq ([] : List Value).toArray }, toks := s₂.toks }
 generalize hs3 : ({ s₂ with heap := s₂.heap.push { cls := .type "list", data := .seq ([] : List Value).toArray }, toks := s₂.toks } : Shared) = s₃ at *
 have eh : s₃.heap = s₂.heap.push { cls := .type "list", data := .seq ([] : List Value).toArray } := by rw [← hs3]
 rw [<- eh] at st3 h1f
 generalize s₂.heap.objs.size = D at *
 refine wpAny_newFunctionEnv S.d5w (by intro y hy; simp at hy) (fun h₁ hns₁ hsb₁ => ?_) S.kind
 have hk1 : ∀ b o, s₃.heap.get? b = some o -> h₁.get? b = some o := fun b o e => hsb₁.extBut b o (Nat.ne_of_lt (Heap.lt_size e)) (Heap.get?_push_of_some _ e)
 have J0 : Inv (a8g X scope cl s₃.heap.objs.size s₃ H3 fp x) [] (none :: σ) H3 { s₃ with heap := h₁, toks := s₃.toks + ([] : List (Str × Value)).length } := I3.comp S hcl hcl2 f3 h1f hns₁ hk1 rfl rfl
 obtain ⟨n0, W, w0, turn⟩ := hCW
 have loop : codeAny (model X.prog X.w) X.A (.compLoop (.ListComp elt [⟨.Name x px, iter, [cnd], 0⟩] scope pos) 0 (.ref it) (.ref D) (compEnvC scope cl s₃.heap.objs.size X.env)) (RR (.ref D) s₃.heap.objs.size) { s₃ with heap := h₁, toks := s₃.toks + ([] : List (Str × Value)).length } := by
  refine codeAny_loop rfl (fun n s' => ∃ i ys o H', Inv (a8g X scope cl s₃.heap.objs.size s₃ H3 fp x) [] (o :: σ) H' s' /\ tn i s'.heap /\ (∀ b ∈ fp, H' b = none) /\ W i ys H' /\ i <= n0 /\ n = n0 - i) (fun n s5 hI => ?_) n0
   ⟨0, [], none, H3, J0, T.keep _ _ _ st3 (fun b _ o e => hk1 b o e), fun b hb => (f3 b hb).1, w0, Nat.zero_le _, rfl⟩
  obtain ⟨i, ys, o5, H5, I5, st5, fr5, w5, hin, hnn⟩ := hI
  have stat : ∀ {H' : Hp}, (∀ b ∈ fp, H' b = none) -> ∀ b ∈ fp, d7z (a8g X scope cl s₃.heap.objs.size s₃ H3 fp x) [] H' b := fun hn b hb =>
   ⟨hn b hb, Nat.ne_of_lt (h1f b hb), fun z => (List.mem_cons.mp (I3.d7w b z)).elim (fun q => (f3 b hb).2.1 q) fun q => (f3 b hb).2.2.1 q, .inl hb, fun y c e => (f3 b hb).2.2.2.2.1 y c (hcl y c e).2, fun p hp => absurd (show p ∈ ([] : List (Addr × Obj)) from hp) (by simp)⟩
  show wpAny _ X.A ((compTurn (.ListComp elt [⟨.Name x px, iter, [cnd], 0⟩] scope pos) 0 (.ref it) (.ref D) (compEnvC scope cl s₃.heap.objs.size X.env)).onRaise (fun x => do noteFrame x (compEnvC scope cl s₃.heap.objs.size X.env); theTreesLotGoes x)) _ _ s5
  refine wpAny_noted ?_
  rw [compTurn_list]
  refine wpAny_bind (wpAny_standAt (wpAny_bind ?_))
  obtain ⟨hD5, alt⟩ := turn i ys H5 hin w5
  rcases alt with ⟨stop, q⟩ | ⟨hlt, go, hsz, step⟩
  ·refine wpAny_mono (T.done (a8g X scope cl s₃.heap.objs.size s₃ H3 fp x) rfl rfl rfl hc i [] s5 _ H5 _ I5 (stat fr5) st5 stop) (fun r s6 ⟨hr, I6⟩ => ?_) fun _ _ z => z
   subst hr
   refine wpAny_pure ?_
   obtain ⟨m6, hn6, _⟩ := I6.loc
   exact hRR D s₃.heap.objs.size s6 H5 ⟨m6, hn6⟩ (fun h' hs' => I3.h8p f3 I6 hs') (I3.h5d (Nat.le_refl _) I6.free) q
  ·refine wpAny_mono (T.item (a8g X scope cl s₃.heap.objs.size s₃ H3 fp x) rfl rfl rfl hc i [] s5 _ H5 _ I5 (stat fr5) st5 go) (fun r s6 ⟨u, hr, h6⟩ => ?_) fun _ _ z => z
   subst hr
   refine wpAny_bind (wpAny_mono h6 (fun _ s7 ⟨v, H7, I7, r7, y7, st7, fr7⟩ => ?_) fun _ _ z => z)
   have I7' := I7.pinned (stat fr7) (T.obj _ _ st7)
   have G := a2m (X := a8g X scope cl s₃.heap.objs.size s₃ H3 fp x) (pos := px) (i := 0) (x := x) S.nd rfl (.inl (lookup_relabel_local S.own)) (.inr (lookup_relabel_local S.own))
   refine wpAny_bind (wpAny_mono (G _ s7 _ H7 v u (fun σ' H' => σ' = some v :: σ /\ H' = H7) I7' r7 ⟨rfl, rfl⟩) (fun _ s8 hs8 => ?_) fun _ _ z => False.elim z)
   obtain ⟨σ8, H8, I8, rfl, rfl⟩ := hs8
   refine wpAny_bind (wpAny_mono (wpAny_tests_one (hcnd cl s₃.heap.objs.size s₃ H3 fp _ s8 _ _ _ I8 (step v H8 y7))) (fun ok sB hok => ?_) fun _ _ z => False.elim z)
   obtain ⟨HB, IB, qB⟩ := hok
   cases ok with
   | false =>
    have wB : W (i + 1) ys HB := by simpa using qB
    refine wpAny_pure ⟨rfl, n0 - (i + 1), by omega, i + 1, ys, some v, _, IB.c3w (pins := []) (pl := d5t fp s7.heap), T.keep _ _ _ st7 (fun b hb o e => (IB.pin (b, o) (List.mem_append_right _ (a6v hb e))).1), fun b hb => ?_, wB, hlt, rfl⟩
    obtain ⟨o, e, d⟩ := T.obj _ _ st7 b hb
    exact (IB.pin (b, o) (List.mem_append_right _ (a6v hb e))).2.1
   | true =>
   rw [if_pos rfl] at qB
   refine wpAny_bind (wpAny_bind (wpAny_mono (he cl s₃.heap.objs.size s₃ H3 fp _ sB _ _ _ IB qB) (fun yv s9 hs9 => ?_) fun _ _ z => False.elim z))
   obtain ⟨y, H9, I9, r9, hD9, k9⟩ := hs9
   refine wpAny_bind (wpAny_mono (d1n (X := a8g X scope cl s₃.heap.objs.size s₃ H3 fp x) _ s9 _ H9 (.ref D) [y] (.ref D) [yv] (fun _ H' => H' = upd H9 D (.lst (ys ++ [y]))) I9 rfl (.cons r9 .nil) ⟨D, ys, y, rfl, rfl, hD9, hsz, rfl⟩) (fun _ sA hsA => ?_) fun _ _ z => False.elim z)
   obtain ⟨_, HA, IA, _, rfl⟩ := hsA
   refine wpAny_pure ?_
   have wA := k9 _ a2p.upd a2w
   refine wpAny_pure ⟨rfl, n0 - (i + 1), by omega, i + 1, ys ++ [y], some v, _, IA.c3w (pins := []) (pl := d5t fp s7.heap), T.keep _ _ _ st7 (fun b hb o e => (IA.pin (b, o) (List.mem_append_right _ (List.mem_append_right _ (a6v hb e)))).1), fun b hb => ?_, wA, hlt, rfl⟩
   obtain ⟨o, e, d⟩ := T.obj _ _ st7 b hb
   exact (IA.pin (b, o) (List.mem_append_right _ (List.mem_append_right _ (a6v hb e)))).2.1
 exact codeAny_compStart_list loop (T.self _ 0 _ _ _ (T.keep _ _ _ st3 fun b _ o e => hk1 b o e) loop)
theorem f5j (hi : PI X (.Name x px) iter wi) (hcnd : ∀ cl C s₃ H₃ fp, PT (a8g X scope cl C s₃ H₃ fp x) cnd tc) (he : ∀ cl C s₃ H₃ fp, PE (a8g X scope cl C s₃ H₃ fp x) elt te) (S : b9s X scope x) (hc : X.calm = true)
  (hs : ∀ x, foldedSetIterable iter X.env x = pure x := by intro _; rfl) : PE X (.ListComp elt [⟨.Name x px, iter, [cnd], 0⟩] scope pos) (i7a wi tc te) := by
 intro pins s σ H Q I h
 obtain ⟨cl, hclos, hcl, hcl2⟩ := c8r (env := X.env) (sc := scope) fun y hy => I.ok.has y (S.free _ hy rfl)
 rw [eval_ListComp]
 refine wpAny_comprehension_free (use := none) rfl hs hclos S.kind S.loc ?_
 refine thn (hi pins s σ H _ I h) fun v s1 h1 => thn h1 fun itv s2 h2 => ?_
 obtain ⟨it, fp, tn, J, H2, e, I2, T, st2, f2, hW⟩ := h2
 subst e
 exact g2f (RR := fun acc C => compPost (model X.prog X.w) X.A X.xe none (EP X pins σ Q) acc C) S hc hcnd he hcl hcl2 I2 T st2 f2 hW fun D C s' H' hm hI _ hq =>
  hm.elim fun m hn => ⟨m, hn, fun h' hs' => ⟨.ref D, H', hI h' hs', rfl, hq⟩⟩
end
theorem f5k {K : PySem.W.Frag} {a D : Addr} {xs : List V} {tc : TT} {te : TE} {σ : St} {H0 H : Hp} {Q : VK} (p : V -> Bool) (g : V -> V) (n0 : H0 D = none) (S : Same H0 H) (hD : H D = some (.lst [])) (hS : SqL K H0 a xs) (hsz : xs.length <= sizeLine)
  (hc : ∀ (i : Nat) x H' (Q' : Bool -> Hp -> Prop), xs[i]? = some x -> Same H0 H' -> Q' (p x) H' -> tc (some x :: σ) H' Q')
  (he : ∀ (i : Nat) x H' (Q' : VK), xs[i]? = some x -> p x = true -> Same H0 H' -> Q' (g x) H' -> te (some x :: σ) H' Q')
  (q : ∀ H', Same H0 H' -> H' D = some (.lst ((xs.filter p).map g)) -> Q (.ref D) H') : g6h (Itl K a) tc te D σ H Q ⟨⟩ := by
 refine ⟨xs.length, fun i ys H' => Same H0 H' /\ H' D = some (.lst ys) /\ ys = ((xs.take i).filter p).map g, ⟨S, hD, by simp⟩, fun i ys H' hi w => ?_⟩
 obtain ⟨S', h', e⟩ := w
 refine ⟨h', ?_⟩
 have e2 : SqL K H' a xs := S'.seq hS
 by_cases hlt : i < xs.length
 ·have hyl : ys.length <= i := by
   rw [e, List.length_map]
   exact Nat.le_trans (List.length_filter_le _ _) (by rw [List.length_take]; omega)
  refine .inr ⟨hlt, ⟨xs, xs[i], e2, by simp [hlt]⟩, by omega, fun x H2 y => ?_⟩
  obtain ⟨e', y⟩ := y
  subst e'
  have hx := y xs e2
  have et : xs.take (i + 1) = xs.take i ++ [x] := by rw [List.take_add_one, hx]; rfl
  refine hc i x _ _ hx S' ?_
  cases hp : p x with
  | true =>
   rw [if_pos rfl]
   refine he i x _ _ hx hp S' ⟨h', fun H3 s3 h3 => ⟨S'.step n0 s3, h3, ?_⟩⟩
   rw [et, List.filter_append, List.map_append, <- e, List.filter_cons, if_pos hp]
   rfl
  | false =>
   rw [if_neg Bool.false_ne_true]
   refine ⟨S', h', ?_⟩
   rw [et, List.filter_append, List.map_append, <- e, List.filter_cons, if_neg (by rw [hp]; exact Bool.false_ne_true)]
   simp
 ·have ei : i = xs.length := by omega
  subst ei
  refine .inl ⟨⟨xs, e2, Nat.le_refl _⟩, q H' S' ?_⟩
  rw [h', e, List.take_length]
section
variable {X : Cx} {k : Nat} {f C : Addr} {fd : FuncData} {ps : List Str} {sp : Sp} {dvs : List V} {ds : List Value} {E : XK} {x m : Str} {p pos apos : Pos} {e o : Expr} {es : List Expr} {ta : TE} {t : TA}
end
end L2
namespace L2
open PySem PySem.Spec PyProof.Rows
noncomputable def rSl3 : V -> Option Int -> Hp -> VK -> Prop := fun x st H Q => match x with
 | .ref a => (match H a with
  | some (.lst xs) => st ≠ some 0 /\ ∀ ys : List V, ys.length <= xs.length -> (∀ y ∈ ys, y ∈ xs) -> New H (.lst ys) Q ⟨⟩
  | _ => False)
 | _ => False
def tSl3 (te : TE) (tl th ts : TO) : TE := fun σ H Q => te σ H fun x H1 => tl σ H1 fun _ H2 => th σ H2 fun _ H3 => ts σ H3 fun st H4 => rSl3 x st H4 Q
section
variable {X : Cx}
theorem g7s : typeLookup (.type "list_reverseiterator") "__len__" = pure none := by rw [typeLookup_type, builtinLookup_eq_fast]; kernel_rfl
theorem h6c : typeLookup (.type "list_reverseiterator") "__length_hint__" = pure (some (.builtin "list_reverseiterator.__length_hint__")) := by rw [typeLookup_type, builtinLookup_eq_fast]; kernel_rfl
theorem h6d : isSubtype (.type "list_reverseiterator") (.type "list_reverseiterator") = pure true := by rw [isSubtype_type]; kernel_rfl
theorem f5l {prog : Program} {w : World} {A : Around} {E : Value -> Shared -> Prop} {s : Shared} {Q : Value -> Shared -> Prop} {I l : Addr} {items : Array Value} (hh : A.handled = none) (hne : l ≠ I) (hit : s.heap.IsRevIter I l ((items.size : Int) - 1)) (hl : s.heap.IsList l items) (hn : items.size <= sizeLine)
  (hQ : ∀ h' tk acc c, (∀ b o, b ≠ I → s.heap.get? b = some o → h'.get? b = some o) → h'.get? s.heap.objs.size = some { cls := .type "list", dict := none, data := .seq acc c, slots := #[] } → ItemsOf (fun i v => items[items.size - 1 - i]? = some v) acc items.size → Q (.ref s.heap.objs.size) { s with heap := h', toks := tk }) :
  wpAny (model prog w) A (call (.type "list") [.ref I]) Q E s := by
 refine callType_codes (Q₁ := fun obj s₁ => obj = .ref s.heap.objs.size ∧ s₁ = { s with heap := s.heap.push { cls := .type "list", data := .seq #[] } }) F.called_list (F.typeCall_list_1 _) F.entry_list_init
  (code_list_new _ ⟨rfl, rfl⟩) fun obj s₁ h₁ => ?_
 obtain ⟨rfl, rfl⟩ := h₁
 have hS : (s.heap.push { cls := .type "list", data := .seq #[] }).get? s.heap.objs.size = some { cls := .type "list", data := .seq #[] } := Heap.get?_push_size _ rfl
 have hIlt : I < s.heap.objs.size := by obtain ⟨o, e, _⟩ := hit; exact Heap.lt_size e
 have hllt : l < s.heap.objs.size := by obtain ⟨o, e, _⟩ := hl; exact Heap.lt_size e
 refine ⟨⟨_, hS, rfl⟩, F.args_list_init_2 _ _, ?_⟩
 have hit1 : (s.heap.push { cls := .type "list", data := .seq #[] }).IsRevIter I l ((items.size : Int) - 1) := hit.at fun o e => Heap.get?_push_of_some _ e
 have hl1 : (s.heap.push { cls := .type "list", data := .seq #[] }).IsList l items := hl.at fun o e => Heap.get?_push_of_some _ e
 have hk0 : ∀ b o, s.heap.get? b = some o → (s.heap.push { cls := .type "list", data := .seq #[] }).get? b = some o := fun b o e => Heap.get?_push_of_some _ e
 generalize hp : s.heap.push { cls := .type "list", data := .seq #[] } = h1 at *
 generalize hSg : s.heap.objs.size = S at *
 have hSI : S ≠ I := Nat.ne_of_gt hIlt
 have hSl : S ≠ l := Nat.ne_of_gt hllt
 show wpAny _ _ (do let old <- Builtin.List.listItems (.ref S); Builtin.List.listUpdate (.ref S) (fun _ => #[]); letGo old.toList.reverse; Builtin.List.listExtendWith (.ref S) (.ref I) .none) _ _ _
 refine wpAny_bind ?_
 unfold Builtin.List.listItems
 refine wpAny_bind (wpAny_seqItems hS rfl (wpAny_pure ?_))
 show wpAny _ _ (updateSeq S (fun _ => #[]) >>= fun _ => letGo (#[] : Array Value).toList.reverse >>= fun _ => Builtin.List.listExtendWith (.ref S) (.ref I) .none) _ _ _
 refine wpAny_bind (wpAny_updateSeq hS rfl ?_)
 have hS₂ := Heap.get?_update_self (Obj.mapSeq (fun _ => (#[] : Array Value))) hS rfl
 have oth : ∀ b o, b ≠ S -> h1.get? b = some o -> (h1.update S (Obj.mapSeq (fun _ => (#[] : Array Value)))).get? b = some o := fun b o hb e => (Heap.get?_update_other _ _ (Ne.symm hb)).trans e
 refine wpAny_bind (wpAny_letGo ?_)
 have hit2 : (h1.update S (Obj.mapSeq (fun _ => (#[] : Array Value)))).IsRevIter I l ((items.size : Int) - 1) := hit1.at fun o e => oth I o hSI.symm e
 have hl2 : (h1.update S (Obj.mapSeq (fun _ => (#[] : Array Value)))).IsList l items := hl1.at fun o e => oth l o hSl.symm e
 generalize h1.update S (Obj.mapSeq (fun _ => (#[] : Array Value))) = h2 at *
 have hT : ({ s with heap := h2 } : Shared).TypeIs (.ref I) "list_reverseiterator" := Heap.IsRevIter.typeIs (s := { s with heap := h2 }) hit2
 unfold Builtin.List.listExtendWith
 refine wpAny_bind (wpAny_typeOf hT ?_)
 have e1 : Builtin.List.listSameRef (.ref S) (.ref I) = false := by simp [Builtin.List.listSameRef, hSI]
 have e2 : (Value.type "list_reverseiterator" == Value.type "list") = false := by decide
 have e3 : (Value.type "list_reverseiterator" == Value.type "tuple") = false := by decide
 simp only [e1, e2, e3, Bool.or_false, Bool.false_eq_true, if_false]
 refine wpAny_bind (wpAny_pyIter_revIter (s := { s with heap := h2 }) hit2 ?_)
 refine wpAny_bind (wpAny_holding ?_)
 unfold Builtin.List.listLengthHint
 refine wpAny_bind (wpAny_specialOf hT g7s ?_)
 show wpAny _ _ (specialOf (Value.ref I) (Str.ofString "__length_hint__") >>= _) _ _ _
 refine wpAny_bind (wpAny_specialOf hT h6c ?_)
 generalize hid : ("list_reverseiterator.__length_hint__" : String) = id0
 dsimp only
 rw [show splitId id0 = some ("list_reverseiterator", "__length_hint__") from by subst hid; decide +kernel]
 subst hid
 refine wpAny_bind (wpAny_isInstance (T := "list_reverseiterator") (b := true) hT h6d ?_)
 refine wpAny_ite_split (fun hab => absurd hab (by decide)) (fun _ => ?_)
 refine wpAny_ite_split (fun _ => ?_) (fun hab => absurd (by decide +kernel) hab)
 refine wpAny_ite_split (fun hab => absurd hab (by decide +kernel)) (fun _ => ?_)
 refine wpAny_pure ?_
 refine wpAny_ite_split (fun hab => absurd hab (by decide +kernel)) (fun _ => ?_)
 have W := (Walks.listRev (prog := prog) (w := w) (A := A.in1.in1) hh I l hne items).toS
 refine wpAny_pure ⟨plainId_quiet F.plain_extend_loop _, codeAny_extend_loopS W hn S (by simp [hSI, hSl]) .none items.size 0 _ #[] _ rfl (Nat.zero_le _) ⟨Nat.zero_le _, by simpa using hit2, hl2⟩ hS₂ (ItemsOf.nil _) fun s' acc c hm hS' hacc => ?_⟩
 rw [Moved.eq_with hm]
 refine ⟨rfl, hQ s'.heap s'.toks acc c (fun b o hb e => hm.heap b o ?_ (oth b o ?_ (hk0 b o e))) hS' hacc⟩
 ·have z : b < s.heap.objs.size := Heap.lt_size e
  rw [hSg] at z
  intro hmem
  rcases List.mem_cons.mp hmem with q | q
  ·exact Nat.ne_of_lt z q
  ·exact hb (List.mem_singleton.mp q)
 ·have z : b < s.heap.objs.size := Heap.lt_size e
  rw [hSg] at z
  exact Nat.ne_of_lt z
end
def j1m (ta : TE) : TE := fun σ H Q => ta σ H fun x H1 => match x with
 | .ref a => (match H1 a with
  | some (.lst xs) => New H1 (.lst xs.reverse) Q ⟨⟩
  | _ => False)
 | _ => False
theorem h6e {xs : List V} {its : List Value} {acc : Array Value} (r : Vals xs its) (h : ItemsOf (fun i v => its.toArray[its.toArray.size - 1 - i]? = some v) acc its.toArray.size) : Vals xs.reverse acc.toList := by
 have e : acc.toList = its.reverse := by
  obtain ⟨h1, h2⟩ := h
  replace h1 : acc.size = its.length := by simpa using h1
  replace h2 : ∀ j v, acc[j]? = some v -> its[its.length - 1 - j]? = some v := fun j v hj => by simpa using h2 j v hj
  apply List.ext_getElem?
  intro i
  by_cases hi : i < acc.size
  ·have z := h2 i acc[i] (by simp [hi])
   rw [List.getElem?_reverse (by omega)]
   rw [z]
   simp [hi]
  ·rw [List.getElem?_eq_none (by simp; omega), List.getElem?_eq_none (by simp; omega)]
 rw [e]
 have key : ∀ {xs : List V} {us : List Value}, Vals xs us -> Vals xs.reverse us.reverse := fun {xs us} r => by
  induction r with
  | nil => exact .nil
  | cons r t ih => rw [List.reverse_cons, List.reverse_cons]; exact Vals.append ih (.cons r .nil)
 exact key r
theorem i0t {X : Cx} {a : Expr} {ta : TE} {p p2 pos pos2 : Pos} (hgl : Gl X "list") (hml : X.mg "list" = none) (hg : Gl X "reversed") (hm : X.mg "reversed" = none) (hc : X.calm = true) (ha : PE X a ta) (hs : starEach [a] X.env = [(false, eval a X.env)] := by rfl)
  (hs2 : starEach [.Call (.Name "reversed" p2) [a] [] pos2] X.env = [(false, eval (.Call (.Name "reversed" p2) [a] [] pos2) X.env)] := by rfl) : PE X (.Call (.Name "list" p) [.Call (.Name "reversed" p2) [a] [] pos2] [] pos) (j1m ta) := by
 intro pins s σ H Q I h
 refine Call_ (d7y I hgl hml boot_list (PyProof.Rows.callWith_type1 ?_ hs2 rfl))
 rw [hs2]
 show wpAny _ _ (spliced [(false, eval (.Call (.Name "reversed" p2) [a] [] pos2) X.env)]) _ _ s
 refine Calls.spliced_cons (Call_ (d7y I hg hm boot_reversed (PyProof.Rows.callWith_type1 ?_ hs rfl)))
 rw [hs]
 show wpAny _ _ (spliced [(false, eval a X.env)]) _ _ s
 refine Calls.spliced_cons (thn (ha pins s σ H _ I h) fun u s1 ⟨x, H1, I1, r1, q1⟩ => Calls.spliced_nil ?_)
 cases x with
 | ref l =>
  cases r1
  have q1' : (match H1 l with
   | some (.lst xs) => New H1 (.lst xs.reverse) Q ⟨⟩
   | _ => False) := q1
  split at q1'
  ·rename_i xs e
   obtain ⟨its, n, rv, ho, hz⟩ := I1.lst e
   have hl : s1.heap.IsList l its.toArray := ⟨_, ho, rfl, n, rfl⟩
   have hlt : l < s1.heap.objs.size := Heap.lt_size ho
   refine call_reversed_list hl (Calls.spliced_nil ?_)
   have I2 : Inv X pins σ H1 { s1 with heap := s1.heap.push (revObj l ((its.toArray.size : Int) - 1)) } := I1.kept (t' := s1.toks) fun b o e => Heap.get?_push_of_some _ e
   have hlen := rv.length
   refine f5l (I1.ok.hd hc) (Nat.ne_of_lt hlt) (show (s1.heap.push (revObj l ((its.toArray.size : Int) - 1))).IsRevIter s1.heap.objs.size l ((its.toArray.size : Int) - 1) from ⟨_, Heap.get?_push_size _ rfl, rfl, rfl⟩) (hl.push _) (by rw [List.size_toArray]; omega) fun h' tk acc c hk hS hi' => ?_
   have e1 : (s1.heap.push (revObj l ((its.toArray.size : Int) - 1))).objs.size = s1.heap.objs.size + 1 := Heap.size_push ..
   have I3 : Inv X pins σ (upd H1 (s1.heap.objs.size + 1) (.lst xs.reverse)) { s1 with heap := h', toks := tk } := I1.laid (t' := tk) (fun b o e => hk b o (Nat.ne_of_lt (Heap.lt_size e)) (Heap.get?_push_of_some _ e)) (Nat.le_succ _) ⟨by rw [List.length_reverse]; exact hz, acc.toList, c, h6e rv hi', by rw [<- e1]; simpa using hS⟩
   have q2 := q1'.raw (s1.heap.objs.size + 1) (I1.hok.fresh (Nat.le_succ _))
   rw [<- e1] at I3 q2
   exact ⟨.ref _, _, I3, rfl, q2⟩
  ·exact q1'.elim
 | _ => exact False.elim q1
section
variable {prog : Program} {w : World} {A : Around} {E : Value -> Shared -> Prop} {s : Shared}
end
noncomputable def rSetM : V -> V -> V -> Hp -> (Hp -> Prop) -> Prop := fun o i v H Q => match o, i with
 | .ref p, .int k => (match H p with
  | some (.lst xs) => (0 <= k /\ k < xs.length) /\ ∀ H1, a2p p H H1 -> H1 p = some (.lst (xs.set k.toNat v)) -> Q H1
  | _ => False)
 | _, _ => False
theorem c1m {K : PySem.W.Frag} {a D : Addr} {xs : List V} {te : TE} {σ : St} {H0 H : Hp} {Q : VK} (zs : List V) (hz : zs.length = xs.length) (n0 : H0 D = none) (S : Same H0 H) (hD : H D = some (.lst [])) (hS : SqL K H0 a xs) (hsz : xs.length <= sizeLine)
  (hs : ∀ (i : Nat) x z H' (Q' : VK), xs[i]? = some x -> zs[i]? = some z -> Same H0 H' -> Q' z H' -> te (some x :: σ) H' Q') (q : ∀ H', Same H0 H' -> H' D = some (.lst zs) -> Q (.ref D) H') : d7i (Itl K a) te D σ H Q ⟨⟩ := by
 refine b8w (fun i ys H' => Same H0 H' /\ H' D = some (.lst ys) /\ ys = zs.take i) ⟨S, hD, by simp⟩ hsz (fun i ys H' hi p => ?_) (fun i x ys H' hx p => ?_) (fun ys H' p => ?_)
 ·refine ⟨p.2.1, p.1.seq hS, ?_⟩
  rw [p.2.2, List.length_take]
  omega
 ·have hi : i < zs.length := by rw [hz]; exact (List.getElem?_eq_some_iff.mp hx).1
  have hzi : zs[i]? = some zs[i] := List.getElem?_eq_getElem hi
  refine hs i x _ H' _ hx hzi p.1 ⟨p.2.1, fun H3 s3 h3 => ⟨p.1.step n0 s3, h3, ?_⟩⟩
  rw [p.2.2, List.take_add_one, hzi]
  rfl
 ·refine q H' p.1 ?_
  rw [p.2.1, p.2.2, <- hz, List.take_length]
end L2
namespace L2
open PySem PySem.Spec PyProof.Rows
section
variable {X : Cx} {pins : List (Addr × Obj)} {σ : St} {H : Hp} {s : Shared}
theorem Inv.h1l {t' : Nat} {h' : Heap} {fp : List Addr} (I : Inv X pins σ H s) (k : ∀ b o, b ∉ fp -> s.heap.get? b = some o -> h'.get? b = some o) (hf : ∀ b ∈ fp, d7z X pins H b) : Inv X pins σ H { s with heap := h', toks := t' } := by
 have nit : ∀ b u, H b = some u -> b ∉ fp := fun b u e z => by rw [(hf b z).1] at e; cases e
 refine I.call' (s' := { s with heap := h', toks := t' }) (ch := fp) rfl ⟨fun b o e n hb hx => k b o hx e, fun b o e n hb hx => ⟨o.slots, k b o hx e⟩, fun _ _ _ n _ => n, fun b o e hx => ⟨o, k b o hx e⟩, fun _ _ q => q, fun _ _ _ q => q, fun _ ps q => ⟨#[], by rw [q]; simp⟩⟩ ?_ I.bare fun b hb => ⟨(hf b hb).2.2.2.1, (hf b hb).2.1, (hf b hb).2.2.2.2.1, (hf b hb).2.2.2.2.2⟩
 intro b u e
 refine (I.hok b u e).stay (fun c v hc q => k c v ?_ q) (fun _ q => q) fun _ _ q => q
 rcases hc with z | z
 ·rw [z]; exact nit b u e
 ·exact nit c _ z
end
def ItB (b : Bool) (h : Heap) (it l : Addr) (i : Nat) : Prop := ∃ o, h.get? it = some o ∧ o.cls = .type (cond b "list_iterator" "tuple_iterator") ∧ o.data = .fields #[.ref l, .int i 0]
def SqB (b : Bool) (h : Heap) (l : Addr) (items : Array Value) : Prop := ∃ o, h.get? l = some o ∧ o.cls = .type (cond b "list" "tuple") ∧ ∃ n, o.data = .seq items n
theorem ItB.at {b : Bool} {h h' : Heap} {it l : Addr} {i : Nat} (x : ItB b h it l i) (k : ∀ o, h.get? it = some o -> h'.get? it = some o) : ItB b h' it l i := let ⟨o, e, r⟩ := x; ⟨o, k o e, r⟩
theorem SqB.at {b : Bool} {h h' : Heap} {l : Addr} {items : Array Value} (x : SqB b h l items) (k : ∀ o, h.get? l = some o -> h'.get? l = some o) : SqB b h' l items := let ⟨o, e, r⟩ := x; ⟨o, k o e, r⟩
section
variable {prog : Program} {w : World} {A : Around} {E : Value -> Shared -> Prop} {s : Shared}
theorem g2g {it t : Addr} {i : Nat} {items : Array Value} {x : Value} {Q : Value -> Shared -> Prop} (hit : s.heap.IsTupleIter it t i) (ht : s.heap.IsTuple t items) (hx : items[i]? = some x)
  (hQ : ∀ h', h'.IsTupleIter it t (i + 1) -> Heap.SameBut it s.heap h' -> Q x { s with heap := h' }) : wpAny (model prog w) A (Builtin.SmallTypes.nextOf (.ref it)) Q E s := by
 obtain ⟨o, ho, hc, hd⟩ := id hit
 obtain ⟨ol, hol, _, nl, hdl⟩ := ht
 unfold Builtin.SmallTypes.nextOf
 refine wpAny_bind (wpAny_callSpecial?_slot (name := Str.ofString "__next__") hit.typeIs F.slot_tuple_iterator_next
  (wpAny_call_entry F.slot_tuple_iterator_next hit.typeIs F.entry_tuple_iterator_next ?_ (F.args_tuple_iterator_next_1 _)))
 show wpAny _ _ (field (.ref it) 0 >>= _) _ _ s
 refine wpAny_bind (wpAny_field ho hd (x := .ref t) rfl ?_)
 show wpAny _ _ (if (Value.ref t == Value.none) = true then _ else _) _ _ s
 rw [if_neg (show ¬ ((Value.ref t == Value.none) = true) from Bool.false_ne_true)]
 show wpAny _ _ (field (.ref it) 1 >>= _) _ _ s
 refine wpAny_bind (wpAny_field ho hd (x := .int i 0) rfl ?_)
 show wpAny _ _ (seqItems? (.ref t) >>= _) _ _ s
 refine wpAny_bind (wpAny_seqItems hol hdl ?_)
 simp only [Int.toNat_natCast, hx]
 refine wpAny_bind (wpAny_setField ho hd (by simp) (wpAny_pure ⟨x, rfl, wpAny_pure (hQ _ ?_ (Heap.SameBut.update ..))⟩))
 exact ⟨_, Heap.get?_update_self _ ho (Obj.isFreed_of_fields (Obj.data_mapFields hd _)), (Obj.cls_mapFields ..).trans hc, by
  rw [Obj.data_mapFields hd]; simp [rawInt]⟩
theorem g7t {it t : Addr} {i : Nat} {items : Array Value} {Q : Value -> Shared -> Prop} (hh : A.handled = none) (hit : s.heap.IsTupleIter it t i) (ht : s.heap.IsTuple t items) (hx : items[i]? = none)
  (hE : ∀ h' e, Heap.ExtBut it s.heap h' → (∃ o, h'.get? e = some o ∧ o.cls = .type "StopIteration") → E (.ref e) { s with heap := h' }) : wpAny (model prog w) A (Builtin.SmallTypes.nextOf (.ref it)) Q E s := by
 obtain ⟨o, ho, hc, hd⟩ := id hit
 obtain ⟨ol, hol, _, nl, hdl⟩ := ht
 unfold Builtin.SmallTypes.nextOf
 refine wpAny_bind (wpAny_callSpecial?_slot (name := Str.ofString "__next__") hit.typeIs F.slot_tuple_iterator_next
  (wpAny_call_entry F.slot_tuple_iterator_next hit.typeIs F.entry_tuple_iterator_next ?_ (F.args_tuple_iterator_next_1 _)))
 show wpAny _ _ (field (.ref it) 0 >>= _) _ _ s
 refine wpAny_bind (wpAny_field ho hd (x := .ref t) rfl ?_)
 show wpAny _ _ (if (Value.ref t == Value.none) = true then _ else _) _ _ s
 rw [if_neg (show ¬ ((Value.ref t == Value.none) = true) from Bool.false_ne_true)]
 show wpAny _ _ (field (.ref it) 1 >>= _) _ _ s
 refine wpAny_bind (wpAny_field ho hd (x := .int i 0) rfl ?_)
 show wpAny _ _ (seqItems? (.ref t) >>= _) _ _ s
 refine wpAny_bind (wpAny_seqItems hol hdl ?_)
 simp only [Int.toNat_natCast, hx]
 refine wpAny_bind (wpAny_rule (wpAny_bind (wpAny_setField ho hd (by simp) ?_)))
 show wpAny _ _ (newExc (.type "StopIteration") [] >>= _) _ _ _
 refine wpAny_bind ?_
 simp only [newExc, newTuple]
 refine wpAny_bind (wpAny_newObj_type ?_ (by size_fits))
 refine wpAny_bind (m := firstArgMember _ _) (wpAny_of_eq (a := Value.none) (by first | rfl | (simp only [firstArgMember]; rfl)) ?_)
 refine wpAny_newObj_type ?_ (by size_fits)
 simp only [raiseNew]
 refine wpAny_bind (wpAny_handled ?_)
 first | rw [show A.in1.handled = none from hh] | rw [hh]
 refine wpAny_bind (wpAny_pure (wpAny_throw ?_))
 exact hE _ _ (((Heap.SameBut.update ..).extBut.push _).push _) ⟨_, Heap.get?_push_size _ rfl, rfl⟩
theorem g2h {b : Bool} {it l : Addr} {i : Nat} {items : Array Value} {x : Value} {Q : Value -> Shared -> Prop} (hit : ItB b s.heap it l i) (hl : SqB b s.heap l items) (hx : items[i]? = some x)
  (hQ : ∀ h', ItB b h' it l (i + 1) -> Heap.SameBut it s.heap h' -> Q x { s with heap := h' }) : wpAny (model prog w) A (Builtin.SmallTypes.nextOf (.ref it)) Q E s := by
 cases b with
 | true => exact wpAny_nextOf_list_item hit hl hx hQ
 | false => exact g2g hit hl hx hQ
theorem h8z {b : Bool} {it l : Addr} {i : Nat} {items : Array Value} {Q : Value -> Shared -> Prop} (hh : A.handled = none) (hit : ItB b s.heap it l i) (hl : SqB b s.heap l items) (hx : items[i]? = none)
  (hE : ∀ h' e, Heap.ExtBut it s.heap h' → (∃ o, h'.get? e = some o ∧ o.cls = .type "StopIteration") → E (.ref e) { s with heap := h' }) : wpAny (model prog w) A (Builtin.SmallTypes.nextOf (.ref it)) Q E s := by
 cases b with
 | true => exact wpAny_nextOf_list_end hh hit hl hx hE
 | false => exact g7t hh hit hl hx hE
noncomputable def itO (b : Bool) (l : Addr) : Obj := { cls := .type (cond b "list_iterator" "tuple_iterator"), data := .fields #[.ref l, .int 0 0] }
theorem i7b {b : Bool} {l : Addr} {items : Array Value} {Q : Value -> Shared -> Prop} (hl : SqB b s.heap l items) (hQ : Q (.ref s.heap.objs.size) { s with heap := s.heap.push (itO b l) }) : wpAny (model prog w) A (pyIter (.ref l)) Q E s := by
 cases b with
 | true => exact wpAny_pyIter_list hl hQ
 | false => exact wpAny_pyIter_tuple hl hQ
theorem h1n {b1 b2 : Bool} {z TI TO i1 i2 l1 l2 : Addr} {k : Nat} {xs ys : Array Value} {x y a b : Value} {Q : Option Value -> Shared -> Prop} (D : ZipApart z TI TO i1 i2 l1 l2)
  (hz : IsZip s.heap z TI TO .none) (hTI : IsPair s.heap TI (.ref i1) (.ref i2)) (hTO : IsPair s.heap TO a b)
  (h1 : ItB b1 s.heap i1 l1 k) (h2 : ItB b2 s.heap i2 l2 k) (hl1 : SqB b1 s.heap l1 xs) (hl2 : SqB b2 s.heap l2 ys) (hx : xs[k]? = some x) (hy : ys[k]? = some y)
  (hQ : ∀ h', IsZip h' z TI TO (rawInt s.heap.objs.size) -> IsPair h' TO x y -> ItB b1 h' i1 l1 (k + 1) -> ItB b2 h' i2 l2 (k + 1) -> IsPair h' s.heap.objs.size x y ->
   (∀ c o, c ≠ z -> c ≠ TO -> c ≠ i1 -> c ≠ i2 -> s.heap.get? c = some o -> h'.get? c = some o) -> Q (some (.ref s.heap.objs.size)) { s with heap := h' }) :
  wpAny (model prog w) A (pyNext (.ref z)) Q E s := by
 have hT : s.TypeIs (.ref z) "zip" := ⟨_, hz, rfl⟩
 unfold pyNext
 refine wpAny_bind (wpAny_attempt (wpAny_callSpecial?_slot (name := Str.ofString "__next__") hT F.slot_zip_next (wpAny_call_entry F.slot_zip_next hT F.entry_zip_next ?_ (F.args_zip_next_1 _))))
 show wpAny _ _ (field (.ref z) 2 >>= _) _ _ _
 refine wpAny_bind (wpAny_field hz rfl (x := .bool false) rfl ?_)
 show wpAny _ _ (field (.ref z) 3 >>= _) _ _ _
 refine wpAny_bind (wpAny_field hz rfl (x := .ref TI) rfl ?_)
 refine wpAny_bind (wpAny_seqItems hTI rfl ?_)
 show wpAny _ _ (Builtin.SmallTypes.ownedTupleIsFree (.ref z) >>= _) _ _ _
 refine wpAny_bind ?_
 unfold Builtin.SmallTypes.ownedTupleIsFree
 refine wpAny_bind (wpAny_field hz rfl (x := .none) rfl (wpAny_pure ?_))
 simp only [if_true]
 refine wpAny_bind (wpAny_rule ?_)
 refine wpAny_bind (wpAny_field hz rfl (x := .ref TO) rfl ?_)
 refine wpAny_bind (wpAny_setField_rec hz (by simp) fun g1 hz1 s1 => ?_)
 replace hz1 : IsZip g1 z TI TO .ellipsis := hz1
 refine wpAny_bind ?_
 simp only [List.zipIdx_cons, List.zipIdx_nil, List.forIn_cons, List.forIn_nil]
 refine wpAny_bind (wpAny_bind (wpAny_onRaise ?_))
 show wpAny _ _ (Builtin.SmallTypes.nextOf (.ref i1) >>= _) _ _ _
 refine wpAny_bind (g2h (h1.at fun o e => s1.extBut _ _ D.i1z e) (hl1.at fun o e => s1.extBut _ _ D.l1z e) hx fun g2 h12 s2 => wpAny_pure ?_)
 have i7c : IsPair g2 TO a b := s2.extBut _ _ D.TOi1 (s1.extBut _ _ D.TOz hTO)
 refine wpAny_bind (wpAny_seqItems i7c rfl ?_)
 refine wpAny_bind (wpAny_updateSeq_pair i7c fun g3 hTO3 s3 => ?_)
 replace hTO3 : IsPair g3 TO x b := hTO3
 refine wpAny_bind (wpAny_letGo (wpAny_pure ?_))
 refine wpAny_bind (wpAny_bind (wpAny_onRaise ?_))
 show wpAny _ _ (Builtin.SmallTypes.nextOf (.ref i2) >>= _) _ _ _
 refine wpAny_bind (g2h (h2.at fun o e => s3.extBut _ _ D.TOi2.symm (s2.extBut _ _ D.i12.symm (s1.extBut _ _ D.i2z e))) (hl2.at fun o e => s3.extBut _ _ D.l2TO (s2.extBut _ _ D.l2i1 (s1.extBut _ _ D.l2z e))) hy fun g4 h24 s4 => wpAny_pure ?_)
 have j4i : IsPair g4 TO x b := s4.extBut _ _ D.TOi2 hTO3
 refine wpAny_bind (wpAny_seqItems j4i rfl ?_)
 refine wpAny_bind (wpAny_updateSeq_pair j4i fun g5 hTO5 s5 => ?_)
 replace hTO5 : IsPair g5 TO x y := hTO5
 refine wpAny_bind (wpAny_letGo (wpAny_pure (wpAny_pure ?_)))
 refine wpAny_bind (wpAny_seqItems hTO5 rfl ?_)
 refine wpAny_bind (wpAny_newTuple ?_)
 have hsz : g5.objs.size = s.heap.objs.size := by rw [s5.1, s4.1, s3.1, s2.1, s1.1]
 have hz5 : IsZip g5 z TI TO .ellipsis := s5.extBut _ _ D.TOz.symm (s4.extBut _ _ D.i2z.symm (s3.extBut _ _ D.TOz.symm (s2.extBut _ _ D.i1z.symm hz1)))
 have h15 : ItB b1 g5 i1 l1 (k + 1) := h12.at fun o e => s5.extBut _ _ D.TOi1.symm (s4.extBut _ _ D.i12 (s3.extBut _ _ D.TOi1.symm e))
 have h25 : ItB b2 g5 i2 l2 (k + 1) := h24.at fun o e => s5.extBut _ _ D.TOi2.symm e
 have hzlt : z < g5.objs.size := Heap.lt_size hz5
 show wpAny _ _ (Builtin.SmallTypes.ownedTupleHandOut (.ref z) (.ref g5.objs.size) >>= _) _ _ _
 refine wpAny_bind ?_
 unfold Builtin.SmallTypes.ownedTupleHandOut
 have hz6 : IsZip (g5.push { cls := .type "tuple", data := .seq #[x, y] }) z TI TO .ellipsis := Heap.get?_push_of_some _ hz5
 refine wpAny_bind (wpAny_setField_rec hz6 (by simp) fun g7 hz7 s7 => ?_)
 replace hz7 : IsZip g7 z TI TO (rawInt g5.objs.size) := hz7
 refine wpAny_setField_rec hz7 (by simp) fun g8 hz8 s8 => ?_
 replace hz8 : IsZip g8 z TI TO (rawInt g5.objs.size) := hz8
 have up : ∀ c o, c ≠ z -> g5.get? c = some o -> g8.get? c = some o := fun c o c1 e => s8.extBut _ _ c1 (s7.extBut _ _ c1 (Heap.get?_push_of_some _ e))
 have hT8 : IsPair g8 g5.objs.size x y := s8.extBut _ _ (Nat.ne_of_gt hzlt) (s7.extBut _ _ (Nat.ne_of_gt hzlt) (Heap.get?_push_size _ rfl))
 rw [hsz] at hz8 hT8
 refine wpAny_pure ⟨_, rfl, wpAny_pure ?_⟩
 show Q (some (.ref g5.objs.size)) _
 rw [hsz]
 exact hQ g8 hz8 (up _ _ D.TOz hTO5) (h15.at fun o e => up _ o D.i1z e) (h25.at fun o e => up _ o D.i2z e) hT8 fun c o c1 c2 c3 c4 e =>
  up c o c1 (s5.extBut _ _ c2 (s4.extBut _ _ c4 (s3.extBut _ _ c2 (s2.extBut _ _ c3 (s1.extBut _ _ c1 e)))))
theorem h6f {b1 b2 : Bool} {z TI TO i1 i2 l1 l2 : Addr} {k : Nat} {xs ys : Array Value} {a b : Value} {Q : Option Value -> Shared -> Prop} (hh : A.handled = none) (D : ZipApart z TI TO i1 i2 l1 l2)
  (hz : IsZip s.heap z TI TO .none) (hTI : IsPair s.heap TI (.ref i1) (.ref i2)) (hTO : IsPair s.heap TO a b)
  (h1 : ItB b1 s.heap i1 l1 k) (h2 : ItB b2 s.heap i2 l2 k) (hl1 : SqB b1 s.heap l1 xs) (hl2 : SqB b2 s.heap l2 ys) (hend : xs[k]? = none \/ ys[k]? = none)
  (hQ : ∀ h', (∀ c o, c ≠ z -> c ≠ TO -> c ≠ i1 -> c ≠ i2 -> s.heap.get? c = some o -> h'.get? c = some o) -> Q none { s with heap := h' }) : wpAny (model prog w) A (pyNext (.ref z)) Q E s := by
 have hT : s.TypeIs (.ref z) "zip" := ⟨_, hz, rfl⟩
 unfold pyNext
 have fin : ∀ (h' : Heap) (e : Addr), (∀ c o, c ≠ z → c ≠ TO → c ≠ i1 → c ≠ i2 → s.heap.get? c = some o → h'.get? c = some o) → (∃ o, h'.get? e = some o ∧ o.cls = .type "StopIteration") →
   wpAny (model prog w) A (isInstance (.ref e) (.type "StopIteration") >>= fun b => if b = true then pure none else throw (.ref e)) Q E { s with heap := h' } := fun h' e hk he => by
  obtain ⟨o, ho, hc⟩ := he
  refine wpAny_bind (wpAny_isInstance (T := "StopIteration") (b := true) ⟨o, ho, hc⟩ isSubtype_stop ?_)
  exact wpAny_pure (hQ _ hk)
 refine wpAny_bind (wpAny_attempt (wpAny_callSpecial?_slot (name := Str.ofString "__next__") hT F.slot_zip_next (wpAny_call_entry F.slot_zip_next hT F.entry_zip_next ?_ (F.args_zip_next_1 _))))
 show wpAny _ _ (field (.ref z) 2 >>= _) _ _ _
 refine wpAny_bind (wpAny_field hz rfl (x := .bool false) rfl ?_)
 show wpAny _ _ (field (.ref z) 3 >>= _) _ _ _
 refine wpAny_bind (wpAny_field hz rfl (x := .ref TI) rfl ?_)
 refine wpAny_bind (wpAny_seqItems hTI rfl ?_)
 show wpAny _ _ (Builtin.SmallTypes.ownedTupleIsFree (.ref z) >>= _) _ _ _
 refine wpAny_bind ?_
 unfold Builtin.SmallTypes.ownedTupleIsFree
 refine wpAny_bind (wpAny_field hz rfl (x := .none) rfl (wpAny_pure ?_))
 simp only [if_true]
 refine wpAny_bind (wpAny_rule ?_)
 refine wpAny_bind (wpAny_field hz rfl (x := .ref TO) rfl ?_)
 refine wpAny_bind (wpAny_setField_rec hz (by simp) fun g1 hz1 s1 => ?_)
 replace hz1 : IsZip g1 z TI TO .ellipsis := hz1
 refine wpAny_bind ?_
 simp only [List.zipIdx_cons, List.zipIdx_nil, List.forIn_cons, List.forIn_nil]
 refine wpAny_bind (wpAny_bind (wpAny_onRaise ?_))
 show wpAny _ _ (Builtin.SmallTypes.nextOf (.ref i1) >>= _) _ _ _
 cases hx : xs[k]? with
 | none =>
  refine wpAny_bind (h8z hh (h1.at fun o e => s1.extBut _ _ D.i1z e) (hl1.at fun o e => s1.extBut _ _ D.l1z e) hx fun g2 e s2 he => ?_)
  obtain ⟨oe, hoe, hce⟩ := he
  have hz2 : IsZip g2 z TI TO .ellipsis := s2 _ _ D.i1z.symm hz1
  have hez : e ≠ z := fun x => by subst x; rw [hz2] at hoe; cases hoe; simp at hce
  exact wpAny_setField_rec hz2 (by simp) fun g3 _ s3 => fin g3 e (fun c o c1 _ c3 _ x => s3.extBut _ _ c1 (s2 _ _ c3 (s1.extBut _ _ c1 x))) ⟨oe, s3.extBut _ _ hez hoe, hce⟩
 | some x =>
  have hy : ys[k]? = none := by
   rcases hend with h | h
   ·rw [hx] at h; cases h
   ·exact h
  refine wpAny_bind (g2h (h1.at fun o e => s1.extBut _ _ D.i1z e) (hl1.at fun o e => s1.extBut _ _ D.l1z e) hx fun g2 h12 s2 => wpAny_pure ?_)
  have i7c : IsPair g2 TO a b := s2.extBut _ _ D.TOi1 (s1.extBut _ _ D.TOz hTO)
  refine wpAny_bind (wpAny_seqItems i7c rfl ?_)
  refine wpAny_bind (wpAny_updateSeq_pair i7c fun g3 hTO3 s3 => ?_)
  refine wpAny_bind (wpAny_letGo (wpAny_pure ?_))
  refine wpAny_bind (wpAny_bind (wpAny_onRaise ?_))
  show wpAny _ _ (Builtin.SmallTypes.nextOf (.ref i2) >>= _) _ _ _
  refine wpAny_bind (h8z hh (h2.at fun o e => s3.extBut _ _ D.TOi2.symm (s2.extBut _ _ D.i12.symm (s1.extBut _ _ D.i2z e))) (hl2.at fun o e => s3.extBut _ _ D.l2TO (s2.extBut _ _ D.l2i1 (s1.extBut _ _ D.l2z e))) hy fun g4 e s4 he => ?_)
  obtain ⟨oe, hoe, hce⟩ := he
  have hz4 : IsZip g4 z TI TO .ellipsis := s4 _ _ D.i2z.symm (s3.extBut _ _ D.TOz.symm (s2.extBut _ _ D.i1z.symm hz1))
  have hez : e ≠ z := fun x => by subst x; rw [hz4] at hoe; cases hoe; simp at hce
  exact wpAny_setField_rec hz4 (by simp) fun g5 _ s5 => fin g5 e (fun c o c1 c2 c3 c4 x => s5.extBut _ _ c1 (s4 _ _ c4 (s3.extBut _ _ c2 (s2.extBut _ _ c3 (s1.extBut _ _ c1 x))))) ⟨oe, s5.extBut _ _ hez hoe, hce⟩
noncomputable abbrev zB1 (b1 : Bool) (h : Heap) (l1 : Addr) : Heap := h.push (itO b1 l1)
noncomputable abbrev zB2 (b1 b2 : Bool) (h : Heap) (l1 l2 : Addr) : Heap := (zB1 b1 h l1).push (itO b2 l2)
noncomputable abbrev zB3 (b1 b2 : Bool) (h : Heap) (l1 l2 : Addr) : Heap := (zB2 b1 b2 h l1 l2).push { cls := .type "tuple", data := .seq #[.ref h.objs.size, .ref (zB1 b1 h l1).objs.size] }
noncomputable abbrev zB4 (b1 b2 : Bool) (h : Heap) (l1 l2 : Addr) : Heap := (zB3 b1 b2 h l1 l2).push { cls := .type "tuple", data := .seq #[.none, .none] }
noncomputable abbrev zB5 (b1 b2 : Bool) (h : Heap) (l1 l2 : Addr) : Heap := (zB4 b1 b2 h l1 l2).push { cls := .type "zip", data := .fields #[.none, .bool false, .bool false, .ref (zB2 b1 b2 h l1 l2).objs.size, .ref (zB3 b1 b2 h l1 l2).objs.size] }
theorem g7u (b1 b2 : Bool) (l1 l2 : Addr) (xs ys : Array Value) :
  Meets (Builtin.«zip.__new__» ⟨[.type "zip", .ref l1, .ref l2], []⟩) (fun _ R s => SqB b1 s.heap l1 xs ∧ SqB b2 s.heap l2 ys ∧
   R (.ok (.ret (.ref (zB4 b1 b2 s.heap l1 l2).objs.size))) { s with heap := zB5 b1 b2 s.heap l1 l2 }) :=
 .of_wp fun prog w A R s h => by
  obtain ⟨hp, g, d, tk, os⟩ := s; obtain ⟨hl1, hl2, h⟩ := h
  have hsub := sub_zip
  have hL1 : SqB b1 (Shared.heap ⟨hp, g, d, tk, os⟩) l1 xs := hl1
  have hL2 : SqB b2 (Shared.heap ⟨hp.push (itO b1 l1), g, d, tk, os⟩) l2 ys := hl2.at fun o e => Heap.get?_push_of_some _ e
  wp_walk using i7b hL1, i7b hL2
  exact ⟨_, rfl, h⟩
theorem h6g {b1 b2 : Bool} {l1 l2 : Addr} {xs ys : Array Value} {Q : Value -> Shared -> Prop} (hl1 : SqB b1 s.heap l1 xs) (hl2 : SqB b2 s.heap l2 ys)
  (h : ∀ h', IsZip h' (s.heap.objs.size + 4) (s.heap.objs.size + 2) (s.heap.objs.size + 3) .none -> IsPair h' (s.heap.objs.size + 2) (.ref s.heap.objs.size) (.ref (s.heap.objs.size + 1)) ->
   IsPair h' (s.heap.objs.size + 3) .none .none -> ItB b1 h' s.heap.objs.size l1 0 -> ItB b2 h' (s.heap.objs.size + 1) l2 0 ->
   (∀ c o, s.heap.get? c = some o -> h'.get? c = some o) -> Q (.ref (s.heap.objs.size + 4)) { s with heap := h' }) :
  wpAny (model prog w) A (call (.type "zip") [.ref l1, .ref l2]) Q E s := by
 refine callType_new F.called_zip (by decide) (F.typeCall_zip_2 _ _) (F.newCall_zip_2 _ _) (fun obj => F.args_object_init_3 obj _ _) F.entry_zip_new
  (g7u b1 b2 l1 l2 xs ys) ⟨hl1, hl2, ?_⟩
 have z1 : (zB1 b1 s.heap l1).objs.size = s.heap.objs.size + 1 := Heap.size_push ..
 have z2 : (zB2 b1 b2 s.heap l1 l2).objs.size = s.heap.objs.size + 2 := by rw [Heap.size_push, z1]
 have z3 : (zB3 b1 b2 s.heap l1 l2).objs.size = s.heap.objs.size + 3 := by rw [Heap.size_push, z2]
 have z4 : (zB4 b1 b2 s.heap l1 l2).objs.size = s.heap.objs.size + 4 := by rw [Heap.size_push, z3]
 have g5 : (zB5 b1 b2 s.heap l1 l2).get? (zB4 b1 b2 s.heap l1 l2).objs.size = some _ := Heap.get?_push_size _ rfl
 have g4 : (zB5 b1 b2 s.heap l1 l2).get? (zB3 b1 b2 s.heap l1 l2).objs.size = some _ := Heap.get?_push_of_some _ (Heap.get?_push_size _ rfl)
 have g3 : (zB5 b1 b2 s.heap l1 l2).get? (zB2 b1 b2 s.heap l1 l2).objs.size = some _ := Heap.get?_push_of_some _ (Heap.get?_push_of_some _ (Heap.get?_push_size _ rfl))
 have g2 : (zB5 b1 b2 s.heap l1 l2).get? (zB1 b1 s.heap l1).objs.size = some (itO b2 l2) := Heap.get?_push_of_some _ (Heap.get?_push_of_some _ (Heap.get?_push_of_some _ (Heap.get?_push_size _ rfl)))
 have g1 : (zB5 b1 b2 s.heap l1 l2).get? s.heap.objs.size = some (itO b1 l1) := Heap.get?_push_of_some _ (Heap.get?_push_of_some _ (Heap.get?_push_of_some _ (Heap.get?_push_of_some _ (Heap.get?_push_size _ rfl))))
 show _ /\ _
 rw [z2, z3, z4] at g5
 rw [z1, z2] at g3
 rw [z3] at g4
 rw [z1] at g2
 rw [z4]
 exact ⟨⟨_, g5, rfl⟩, h _ g5 g3 g4 ⟨_, g1, rfl, rfl⟩ ⟨_, g2, rfl, rfl⟩ fun c o x =>
  Heap.get?_push_of_some _ (Heap.get?_push_of_some _ (Heap.get?_push_of_some _ (Heap.get?_push_of_some _ (Heap.get?_push_of_some _ x))))⟩
end
def SqK (b : Bool) (K : PySem.W.Frag) (H : Hp) (l : Addr) (xs : List V) : Prop := match b with
 | true => SqL K H l xs
 | false => SqT K H l xs
theorem Inv.i3z {X : Cx} {pins : List (Addr × Obj)} {σ : St} {H : Hp} {s : Shared} {b : Bool} {l : Addr} {xs : List V} (I : Inv X pins σ H s) (h : SqK b X.K H l xs) : ∃ its : List Value, Vals xs its /\ SqB b s.heap l its.toArray /\ xs.length <= sizeLine := by
 cases b with
 | true =>
  obtain ⟨its, r, p, z⟩ := I.list h
  exact ⟨its, r, p.isList, z⟩
 | false =>
  obtain ⟨its, r, p, z⟩ := I.tuple h
  exact ⟨its, r, p, z⟩
theorem Inv.g6i {X : Cx} {pins : List (Addr × Obj)} {σ : St} {H : Hp} {s : Shared} {b : Bool} {l : Addr} {xs ys : List V} (I : Inv X pins σ H s) (h : SqK b X.K H l xs) (h' : SqK b X.K H l ys) : xs = ys := by
 cases b with
 | true => exact I.g5w h h'
 | false => exact I.f8g h h'
noncomputable def Itz (K : PySem.W.Frag) (b1 b2 : Bool) (l1 l2 : Addr) : It :=
 ⟨fun i H => ∃ xs ys x y, SqK b1 K H l1 xs /\ SqK b2 K H l2 ys /\ xs[i]? = some x /\ ys[i]? = some y,
  fun i H v H' => ∃ p x y, v = .ref p ∧ H p = none ∧ H' = upd H p (.tup [x, y]) ∧ (∀ xs, SqK b1 K H l1 xs → xs[i]? = some x) ∧ ∀ ys, SqK b2 K H l2 ys → ys[i]? = some y,
  fun i H => ∃ xs ys, SqK b1 K H l1 xs ∧ SqK b2 K H l2 ys ∧ (xs.length ≤ i ∨ ys.length ≤ i)⟩
theorem h6h {P : Program} {w : World} {K : PySem.W.Frag} {elts : List Expr} {kk : Nat} {tpos : Pos} {b1 b2 : Bool} {z TI TO i1 i2 l1 l2 : Addr} (D : ZipApart z TI TO i1 i2 l1 l2) :
  Turn P w K (.Tuple elts kk tpos) (Itz K b1 b2 l1 l2) [z, TI, TO, i1, i2] z (fun i h => IsZip h z TI TO .none /\ IsPair h TI (.ref i1) (.ref i2) /\ (∃ a b, IsPair h TO a b) /\ ItB b1 h i1 l1 i /\ ItB b2 h i2 l2 i) where
 mem := by simp
 obj := fun i h st b hb => by
  obtain ⟨hz, hTI, ⟨a, c, hTO⟩, ⟨o1, e1, _, d1⟩, ⟨o2, e2, _, d2⟩⟩ := st
  simp only [List.mem_cons, List.not_mem_nil, or_false] at hb
  rcases hb with rfl | rfl | rfl | rfl | rfl
  ·exact ⟨_, hz, fun v z => by cases z⟩
  ·exact ⟨_, hTI, fun v z => by cases z⟩
  ·exact ⟨_, hTO, fun v z => by cases z⟩
  ·exact ⟨_, e1, fun v z => by rw [d1] at z; cases z⟩
  ·exact ⟨_, e2, fun v z => by rw [d2] at z; cases z⟩
 keep := fun i h h' st k => by
  obtain ⟨hz, hTI, ⟨a, c, hTO⟩, h1, h2⟩ := st
  exact ⟨k z (by simp) _ hz, k TI (by simp) _ hTI, ⟨a, c, k TO (by simp) _ hTO⟩, h1.at fun o e => k i1 (by simp) o e, h2.at fun o e => k i2 (by simp) o e⟩
 item := by
  intro X hP hw hK hc i pins s σ H E I hf st hg
  subst hP hw hK
  obtain ⟨xs, ys, x, y, hq1, hq2, hx, hy⟩ := hg
  obtain ⟨us, r1, p1, _⟩ := I.i3z hq1
  obtain ⟨ws, r2, p2, _⟩ := I.i3z hq2
  obtain ⟨u, hu, ru⟩ := r1.get hx
  obtain ⟨v, hv, rv⟩ := r2.get hy
  obtain ⟨hz, hTI, ⟨a, b, hTO⟩, h1, h2⟩ := st
  refine h1n D hz hTI hTO h1 h2 p1 p2 (x := u) (y := v) (by simpa using hu) (by simpa using hv) fun h' z' TO' h1' h2' pT kk' => ?_
  refine ⟨.ref s.heap.objs.size, rfl, wpAny_letOwnedTupleGo_zip (s := { s with heap := h' }) z' fun h'' z'' sb => ?_⟩
  replace sb : Heap.SameBut z h' h'' := sb
  have k2 : ∀ c o, c ∉ [z, TI, TO, i1, i2] -> s.heap.get? c = some o -> h''.get? c = some o := fun c o hc e => by
   simp only [List.mem_cons, List.not_mem_nil, or_false, not_or] at hc
   exact sb.extBut _ _ hc.1 (kk' c o hc.1 hc.2.2.1 hc.2.2.2.1 hc.2.2.2.2 e)
  have I1 : Inv X pins σ H { s with heap := h'' } := I.h1l (t' := s.toks) k2 hf
  have zlt : z < s.heap.objs.size := Heap.lt_size hz
  have pT2 : IsPair h'' s.heap.objs.size u v := sb.extBut _ _ (Nat.ne_of_gt zlt) pT
  have fo := I.h5d (b := s.heap.objs.size) (Nat.le_refl _) (I.hok.fresh (Nat.le_refl _))
  have nT : H s.heap.objs.size = none := I.hok.fresh (Nat.le_refl _)
  have I2 : Inv X pins σ (upd H s.heap.objs.size (.tup [x, y])) { s with heap := h'' } := by
   refine I1.track ?_ fo.2.1 fo.2.2.2.2.1 fo.2.2.2.2.2 nT ⟨two_line, [u, v], .cons ru (.cons rv .nil), ⟨_, pT2, rfl, 0, rfl⟩⟩
   cases q : X.s₀.heap.get? s.heap.objs.size with
   | none => rfl
   | some o => exact absurd (Nat.lt_of_lt_of_le (Heap.lt_size q) I.sz) (Nat.lt_irrefl _)
  have ne : ∀ b ∈ [z, TI, TO, i1, i2], b ≠ s.heap.objs.size := fun b hb e => by
   have lt : b < s.heap.objs.size := by
    simp only [List.mem_cons, List.not_mem_nil, or_false] at hb
    rcases hb with rfl | rfl | rfl | rfl | rfl
    ·exact zlt
    ·exact Heap.lt_size hTI
    ·exact Heap.lt_size hTO
    ·obtain ⟨_, e, _⟩ := h1; exact Heap.lt_size e
    ·obtain ⟨_, e, _⟩ := h2; exact Heap.lt_size e
   exact Nat.ne_of_lt lt e
  refine ⟨.ref s.heap.objs.size, _, I2, rfl, ⟨_, x, y, rfl, nT, rfl, fun xs' h => by rw [I.g6i h hq1]; exact hx, fun ys' h => by rw [I.g6i h hq2]; exact hy⟩,
   ⟨z'', sb.extBut _ _ D.TIz (kk' _ _ D.TIz D.TITO D.TIi1 D.TIi2 hTI), ⟨_, _, sb.extBut _ _ D.TOz TO'⟩, h1'.at fun o e => sb.extBut _ _ D.i1z e, h2'.at fun o e => sb.extBut _ _ D.i2z e⟩, fun b hb => by rw [a3p (ne b hb)]; exact (hf b hb).1⟩
 done := by
  intro X hP hw hK hc i pins s σ H E I hf st hg
  subst hP hw hK
  obtain ⟨xs, ys, hq1, hq2, hle⟩ := hg
  obtain ⟨us, r1, p1, _⟩ := I.i3z hq1
  obtain ⟨ws, r2, p2, _⟩ := I.i3z hq2
  obtain ⟨hz, hTI, ⟨a, b, hTO⟩, h1, h2⟩ := st
  have l1' := r1.length
  have l2' := r2.length
  refine h6f (I.ok.hd hc) D hz hTI hTO h1 h2 p1 p2 (by rcases hle with h | h <;> simp <;> omega) fun h' kk' => ⟨rfl, I.h1l (t' := s.toks) (fun c o hc e => ?_) hf⟩
  simp only [List.mem_cons, List.not_mem_nil, or_false, not_or] at hc
  exact kk' c o hc.1 hc.2.2.1 hc.2.2.2.1 hc.2.2.2.2 e
 self := fun _ _ _ _ _ st h => wpAny_pyIter_zip st.1 h
def j1n (K : PySem.W.Frag) (ta : TA) : TI := fun σ H R => ta σ H fun vs H1 => match vs with
 | [.ref l1, .ref l2] => (match H1 l1, H1 l2 with
  | some (.lst _), some (.lst _) => R (Itz K true true l1 l2) H1
  | some (.lst _), some (.tup _) => R (Itz K true false l1 l2) H1
  | some (.tup _), some (.lst _) => R (Itz K false true l1 l2) H1
  | some (.tup _), some (.tup _) => R (Itz K false false l1 l2) H1
  | _, _ => False)
 | _ => False
theorem h1o {X : Cx} {elts : List Expr} {kk : Nat} {tpos : Pos} {a b : Expr} {ta : TA} {p pos : Pos} (hg : Gl X "zip") (hm : X.mg "zip" = none) (ha : PA X [a, b] ta) (hs : starEach [a, b] X.env = [(false, eval a X.env), (false, eval b X.env)] := by rfl) (hs2 : starEach [b] X.env = [(false, eval b X.env)] := by rfl) :
  PI X (.Tuple elts kk tpos) (.Call (.Name "zip" p) [a, b] [] pos) (j1n X.K ta) := by
 intro pins s σ H R I h
 refine Call_ (d7y I hg hm boot_zip (PyProof.Rows.callWith_type1 (thn (ha pos pins s σ H _ I h) fun us s1 ⟨vs, H1, I1, r1, q1⟩ => ?_) (by rw [hs, hs2]) (by rw [hs2]; rfl)))
 match vs, q1 with
 | [.ref l1, .ref l2], q1 =>
  obtain ⟨u, u', e0, e, e'⟩ := r1.two
  cases e
  cases e'
  subst e0
  have q : ∃ (b1 b2 : Bool) (xs ys : List V), SqK b1 X.K H1 l1 xs /\ SqK b2 X.K H1 l2 ys /\ R (Itz X.K b1 b2 l1 l2) H1 := by
   have q1' : (match H1 l1, H1 l2 with
    | some (.lst _), some (.lst _) => R (Itz X.K true true l1 l2) H1
    | some (.lst _), some (.tup _) => R (Itz X.K true false l1 l2) H1
    | some (.tup _), some (.lst _) => R (Itz X.K false true l1 l2) H1
    | some (.tup _), some (.tup _) => R (Itz X.K false false l1 l2) H1
    | _, _ => False) := q1
   split at q1'
   ·rename_i e1 e2
    exact ⟨true, true, _, _, SqL.of e1, SqL.of e2, q1'⟩
   ·rename_i e1 e2
    exact ⟨true, false, _, _, SqL.of e1, SqT.of e2, q1'⟩
   ·rename_i e1 e2
    exact ⟨false, true, _, _, SqT.of e1, SqL.of e2, q1'⟩
   ·rename_i e1 e2
    exact ⟨false, false, _, _, SqT.of e1, SqT.of e2, q1'⟩
   ·exact q1'.elim
  obtain ⟨b1, b2, xs, ys, hq1, hq2, q⟩ := q
  obtain ⟨us, rr1, p1, _⟩ := I1.i3z hq1
  obtain ⟨ws, rr2, p2, _⟩ := I1.i3z hq2
  have L1 : l1 < s1.heap.objs.size := by obtain ⟨_, e, _⟩ := p1; exact Heap.lt_size e
  have L2 : l2 < s1.heap.objs.size := by obtain ⟨_, e, _⟩ := p2; exact Heap.lt_size e
  refine h6g p1 p2 fun h' hz hTI hTO h1 h2 hk => ?_
  refine wpAny_pyIter_zip (s := { s1 with heap := h' }) hz ?_
  have D : ZipApart (s1.heap.objs.size + 4) (s1.heap.objs.size + 2) (s1.heap.objs.size + 3) s1.heap.objs.size (s1.heap.objs.size + 1) l1 l2 := by
   generalize s1.heap.objs.size = n at L1 L2
   replace L1 : Nat.lt l1 n := L1
   replace L2 : Nat.lt l2 n := L2
   constructor <;> (intro e; have : (n : Nat) = n := rfl; simp only [Nat.lt_eq] at L1 L2; first | (have e' : (_ : Nat) = _ := e; omega))
  refine ⟨_, [s1.heap.objs.size + 4, s1.heap.objs.size + 2, s1.heap.objs.size + 3, s1.heap.objs.size, s1.heap.objs.size + 1], _, _, H1, rfl, I1.kept (t' := s1.toks) hk, h6h D, ⟨hz, hTI, ⟨_, _, hTO⟩, h1, h2⟩, fun b hb => ?_, q⟩
  have hb' : s1.heap.objs.size <= b := by
   simp only [List.mem_cons, List.not_mem_nil, or_false] at hb
   rcases hb with rfl | rfl | rfl | rfl | rfl
   ·exact Nat.le_add_right _ _
   ·exact Nat.le_add_right _ _
   ·exact Nat.le_add_right _ _
   ·exact Nat.le_refl _
   ·exact Nat.le_add_right _ _
  exact I1.h5d hb' (I1.hok.fresh hb')
theorem g6j {K : PySem.W.Frag} {b1 b2 : Bool} {l1 l2 : Addr} {xs ys : List V} {g : TG} {tb : TS} {D : Ends} {σ : St} {H : Hp} (Pv : Nat -> St -> Hp -> Prop) (h0 : Pv 0 σ H) (hl : ∀ i σ H, Pv i σ H -> SqK b1 K H l1 xs /\ SqK b2 K H l2 ys)
  (hs : ∀ i x y σ H p H', xs[i]? = some x -> ys[i]? = some y -> Pv i σ H -> H p = none -> Same H H' -> H' p = some (.tup [x, y]) -> g (.ref p) σ H' fun σ2 H2 => tb { D with nx := Pv (i + 1), ct := Pv (i + 1), bk := D.nx } σ2 H2)
  (hd : ∀ σ H, Pv (min xs.length ys.length) σ H -> D.nx σ H) : i5z (Itz K b1 b2 l1 l2) g tb D σ H := by
 refine ⟨fun i m σ H => m = min xs.length ys.length - i /\ i <= min xs.length ys.length /\ Pv i σ H, ⟨min xs.length ys.length, by simp, Nat.zero_le _, h0⟩, ?_⟩
 rintro i m σ H ⟨rfl, hi, p⟩
 obtain ⟨e1, e2⟩ := hl i σ H p
 by_cases hlt : i < min xs.length ys.length
 ·have hx : xs[i]? = some (xs[i]'(by omega)) := List.getElem?_eq_getElem _
  have hy : ys[i]? = some (ys[i]'(by omega)) := List.getElem?_eq_getElem _
  refine .inr ⟨⟨xs, ys, _, _, e1, e2, hx, hy⟩, Pv (i + 1), fun σ' H' p' => ⟨min xs.length ys.length - (i + 1), by omega, rfl, hlt, p'⟩, fun v H' y => ?_⟩
  obtain ⟨q, x, y, rfl, nq, rfl, k1, k2⟩ := y
  exact hs i x y σ H q _ (k1 _ e1) (k2 _ e2) p nq (Same.upd nq) a2w
 ·have e : i = min xs.length ys.length := by omega
  subst e
  exact .inl ⟨⟨xs, ys, e1, e2, by omega⟩, hd σ H p⟩
end L2
namespace L2
open PySem PySem.Spec PyProof.Rows
noncomputable def b3p (X : Cx) (scope : Scope) (cl : List (Str × Addr)) (C : Addr) (s₃ : Shared) (H₃ : Hp) (fp : List Addr) (x y : Str) : Cx where
 prog := X.prog
 w := X.w
 K := X.K
 mg := X.mg
 base := X.base
 A := X.A
 N := x :: y :: mask x X.N
 s₀ := s₃
 H₀ := H₃
 env := compEnvC scope cl C X.env
 outer := X.stack
 stack := X.stack
 ex := fp
 fn := fun _ => false
 calm := X.calm
 pn := []
 xe := fun _ _ => False
structure c8u (X : Cx) (scope : Scope) (x y : Str) : Prop where
 kind : scope.kind = .function
 d5w : ∀ y ∈ scope.names, y.2 ≠ .cell
 loc : ∀ y ∈ scope.names, y.2 = .local -> scope.names.lookup y.1 = some .local
 own : scope.names.lookup x = some .local
 j4j : scope.names.lookup y = some .local
 free : ∀ y ∈ scope.names, y.2 = .free -> X.env.kindOf y.1 = some .cell \/ X.env.kindOf y.1 = some .free
 nd : (x :: y :: mask x X.N).Nodup
 noe : ∀ y ∈ scope.names, y.1 ≠ ""
 vis : ∀ y ∈ mask x X.N, scope.names.lookup y ≠ some .local
def f9i (J : It) (te : TE) (D : Addr) (σ : St) (H : Hp) (Q : VK) (_ : Tag Q) : Prop := ∃ (n : Nat) (W : Nat -> List V -> Hp -> Prop), W 0 [] H /\ ∀ i ys H, i <= n -> W i ys H -> H D = some (.lst ys) /\
 ((J.stop i H /\ Q (.ref D) H) \/ (i < n /\ J.go i H /\ ys.length < sizeLine /\ ∀ x H', J.yld i H x H' -> ∃ p u v, x = .ref p /\ H' p = some (.tup [u, v]) /\ te (some u :: some v :: σ) H' fun y H2 => H2 D = some (.lst ys) /\
  ∀ H3, a2p D H2 H3 -> H3 D = some (.lst (ys ++ [y])) -> W (i + 1) (ys ++ [y]) H3))
def i7d (wi : TI) (te : TE) : TE := fun σ H Q => wi σ H fun J H1 => ∀ D H2, H1 D = none -> Same H1 H2 -> H2 D = some (.lst []) -> f9i J te D σ H2 Q ⟨⟩
section
variable {X : Cx} {scope : Scope} {x y : Str} {cl : List (Str × Addr)} {pins : List (Addr × Obj)} {σ : St} {H : Hp} {s s₄ : Shared} {fp : List Addr}
theorem Inv.j1o (S : c8u X scope x y) (I : Inv X pins σ H s) (hcl : ∀ y c, cl.lookup y = some c -> (y, NameKind.free) ∈ scope.names /\ X.env.cells.lookup y = some c) (hcl2 : ∀ y, (y, NameKind.free) ∈ scope.names -> cl.lookup y = X.env.cells.lookup y)
  (hfp : ∀ b ∈ fp, d7z X pins H b) (hlt : ∀ b ∈ fp, b < s.heap.objs.size) {m : Str -> Option Value} (hns : s₄.heap.Ns s.heap.objs.size m) (hk : ∀ b o, s.heap.get? b = some o -> s₄.heap.get? b = some o) (hos : s₄.os = s.os) (hg : s₄.gens = s.gens) :
  Inv (b3p X scope cl s.heap.objs.size s H fp x y) [] (none :: none :: σ) H s₄ := by
 refine ⟨⟨I.ok.mod, ?_, I.ok.glob, I.ok.blt, Nat.le_refl _, fun y z c h1 h2 => I.ok.inj y z c (hcl y c h1).2 (hcl z c h2).2, fun y hy => ?_, (fun y c h => nomatch h), I.ok.hd, I.ok.frames, .inl rfl, fun b hb => ⟨Nat.ne_of_lt (hlt b hb), fun y c e => (hfp b hb).2.2.2.2.1 y c (hcl y c e).2⟩,
  fun b o e => I.bs b o e, Nat.le_trans I.ok.bsz I.sz, fun b o e hb => ?_, fun b hb hf => ?_, I.stack, I.g1u⟩,
  hos, by rw [hg]; exact I.bare, Un.kept hk, ⟨m, hns, fun i y v h1 h2 h3 => ?_⟩, fun y c e => ?_, I.hok.fresh (Nat.le_refl _), fun y c e => I.d3l y c (hcl y c e).2, fun p hp => absurd (show p ∈ ([] : List (Addr × Obj)) from hp) (by simp), I.hok.kept hk, by show (none :: none :: σ).length = (x :: y :: mask x X.N).length; rw [List.length_cons, List.length_cons, List.length_cons, List.length_cons, mask, List.length_map, I.len]⟩
 ·exact S.kind
 ·rcases b6v (env := X.env) (sc := scope) (x := y) hy with z | z
  ·obtain ⟨c, hc⟩ := I.ok.has y (S.free _ z rfl)
   exact ⟨c, (hcl2 y z).trans hc⟩
  ·exact absurd rfl (S.d5w _ z)
 ·rcases (hfp b hb).2.2.2.1 with z | z
  ·exact I.ok.i3v b o e z
  ·exact absurd (Nat.lt_of_lt_of_le (Heap.lt_size (I.ok.bs b o e).1) z) (Nat.lt_irrefl _)
 ·rcases List.mem_cons.mp (I.d7w b hf) with z | z
  ·exact (hfp b hb).2.1 z
  ·exact (hfp b hb).2.2.1 z
 ·match i, h1, h2 with
  | 0, h1, h2 => cases h2
  | 1, h1, h2 => cases h2
  | i + 2, h1, h2 =>
   have h1m : (mask x X.N)[i]? = some y := by simpa [b3p] using h1
   have h2' : σ[i]? = some (some v) := by simpa using h2
   have hyN : y ∈ mask x X.N := List.mem_of_getElem? h1m
   have hc : (relabel scope X.env).names.lookup y = some .cell \/ (relabel scope X.env).names.lookup y = some .free := by
    rcases h3 with z | z | z
    ·exfalso
     rcases c2u (env := X.env) scope.names _ z with q | ⟨q, _⟩
     ·exact S.vis y hyN q
     ·cases q
    ·exact .inl z
    ·exact .inr z
   have hfr : (y, NameKind.free) ∈ scope.names := by
    rcases b6v hc with z | z
    ·exact z
    ·exact absurd rfl (S.d5w _ z)
   have h1' : X.N[i]? = some y := by
    rw [mask, List.getElem?_map] at h1m
    obtain ⟨z, hz, e⟩ := Option.map_eq_some_iff.mp h1m
    by_cases hzx : z = x
    ·rw [if_pos hzx] at e
     exact absurd e.symm (S.noe _ hfr)
    ·rw [if_neg hzx] at e
     rw [hz, e]
   obtain ⟨mX, hnX, hl⟩ := I.loc
   have hk2 := S.free _ hfr rfl
   have j1d : Vis X.env.scope y := by
    rcases hk2 with z | z
    ·exact .inr (.inl z)
    ·exact .inr (.inr z)
   obtain ⟨u, ru, lk⟩ := hl i y v h1' h2' j1d
   refine ⟨u, ru, .inr ⟨hc, ?_⟩⟩
   rcases lk with ⟨z, _⟩ | ⟨_, c, ec, o, ho, hd⟩
   ·rcases hk2 with q | q
    ·rw [q] at z; cases z
    ·rw [q] at z; cases z
   ·exact ⟨c, (hcl2 y hfr).trans ec, o, hk c o ho, hd⟩
 ·obtain ⟨v, o, ho, hd⟩ := I.cell y c (hcl y c e).2
  exact ⟨v, o, hk c o ho, hd⟩
theorem Inv.i0u {σ' : St} {H' : Hp} {s' : Shared} {h' : Heap} (I : Inv X pins σ H s) (hfp : ∀ b ∈ fp, d7z X pins H b) (J : Inv (b3p X scope cl s.heap.objs.size s H fp x y) [] σ' H' s') (hs : Heap.SameBut s.heap.objs.size s'.heap h') :
  Inv X pins σ H' { s' with heap := h' } := by
 have ne : ∀ {b : Addr} {o : Obj}, s.heap.get? b = some o -> b ≠ s.heap.objs.size := fun e => Nat.ne_of_lt (Heap.lt_size e)
 have u := J.base
 have u' : Un (frs X.stack) fp H H' s.heap h' := ⟨fun b o e n hb hx => hs.extBut b o (ne e) (u.keep b o e n hb hx), fun b o e n hb hx => (u.slot b o e n hb hx).elim fun sl q => ⟨sl, hs.extBut b _ (ne e) q⟩, u.free,
  fun b o e hx => (u.there b o e hx).elim fun o' q => ⟨o', hs.extBut b o' (ne e) q⟩, u.tups, u.g1t, u.g5u⟩
 have nC : ∀ {b : Addr} {o : HO}, H' b = some o -> b ≠ s.heap.objs.size := fun {b o} e z => by
  have f : H' s.heap.objs.size = none := J.free
  rw [z, f] at e; cases e
 have ok : HOk X.prog X.w H' h' := fun b o e => (J.hok b o e).stay (fun c v hc q => hs.extBut c v (by
  rcases hc with z | z
  ·rw [z]; exact nC e
  ·exact nC z) q) (fun _ q => q) fun _ _ q => q
 exact I.call' (s' := { s' with heap := h' }) (ch := fp) J.os u' ok J.bare fun b hb => ⟨(hfp b hb).2.2.2.1, (hfp b hb).2.1, (hfp b hb).2.2.2.2.1, (hfp b hb).2.2.2.2.2⟩
end
section
variable {X : Cx} {scope : Scope} {x y : Str} {pins : List (Addr × Obj)} {σ : St} {elt iter : Expr} {px py tpos pos : Pos} {kk : Nat} {wi : TI} {te : TE}
theorem g2i {s₂ : Shared} {H1 : Hp} {it : Addr} {fp : List Addr} {tn : Nat -> Heap -> Prop} {J : It} {Q : VK} {RR : Value -> Addr -> Result -> Shared -> Prop} {E : Value -> Shared -> Prop} {cl : List (Str × Addr)}
  (S : c8u X scope x y) (hc : X.calm = true) (he : ∀ cl C s₃ H₃ fp, PE (b3p X scope cl C s₃ H₃ fp x y) elt te)
  (hcl : ∀ y c, cl.lookup y = some c -> (y, NameKind.free) ∈ scope.names /\ X.env.cells.lookup y = some c) (hcl2 : ∀ y, (y, NameKind.free) ∈ scope.names -> cl.lookup y = X.env.cells.lookup y)
  (I2 : Inv X pins σ H1 s₂) (T : Turn X.prog X.w X.K (.Tuple [.Name x px, .Name y py] kk tpos) J fp it tn) (st2 : tn 0 s₂.heap) (f2 : ∀ b ∈ fp, d7z X pins H1 b) (h : ∀ D H2, H1 D = none -> Same H1 H2 -> H2 D = some (.lst []) -> f9i J te D σ H2 Q ⟨⟩)
  (hRR : ∀ (D C : Addr) (s' : Shared) (H' : Hp), (∃ m, s'.heap.Ns C m) -> (∀ h' , Heap.SameBut C s'.heap h' -> Inv X pins σ H' { s' with heap := h' }) -> d7z X pins H' C -> Q (.ref D) H' -> RR (.ref D) C (.ok .next) s') :
  wpAny (model X.prog X.w) X.A (newList []) (fun acc s₃ => wpAny (model X.prog X.w) X.A (newFunctionEnv scope X.env.globals cl [] X.env.qual none .none (some X.env)) (fun cenv s₄ =>
   codeAny (model X.prog X.w) X.A (.compStart (.ListComp elt [⟨.Tuple [.Name x px, .Name y py] kk tpos, iter, [], 0⟩] scope pos) 0 (.ref it) acc { cenv with scope := relabel scope X.env }) (RR acc cenv.locals) s₄) E s₃) E s₂ := by
 have hfr : H1 s₂.heap.objs.size = none := I2.hok.fresh (Nat.le_refl _)
 have hCW := h s₂.heap.objs.size _ hfr (Same.upd hfr) a2w
 refine wpAny_newObj_type ?_
 have I3 : Inv X pins σ (upd H1 s₂.heap.objs.size (.lst [])) { s₂ with heap := s₂.heap.push { cls := .type "list", data := .seq ([] : List Value).toArray }, toks := s₂.toks } :=
  I2.laid (t' := s₂.toks) (fun b u e => Heap.get?_push_of_some _ e) (Nat.le_refl _) ⟨Nat.zero_le _, [], 0, .nil, Heap.get?_push_size _ rfl⟩
 have nD : ∀ b ∈ fp, b ≠ s₂.heap.objs.size := fun b hb => by
  obtain ⟨o, e, _⟩ := T.obj 0 _ st2 b hb
  exact Nat.ne_of_lt (Heap.lt_size e)
 have f3 : ∀ b ∈ fp, d7z X pins (upd H1 s₂.heap.objs.size (.lst [])) b := fun b hb => ⟨by rw [a3p (nD b hb)]; exact (f2 b hb).1, (f2 b hb).2⟩
 generalize hH3 : upd H1 s₂.heap.objs.size (.lst []) = H3 at *
 have st3 : tn 0 (s₂.heap.push { cls := .type "list", data := .seq ([] : List Value).toArray }) := T.keep _ _ _ st2 fun b _ o e => Heap.get?_push_of_some _ e
 have h1f : ∀ b ∈ fp, b < (s₂.heap.push { cls := .type "list", data := .seq ([] : List Value).toArray }).objs.size := fun b hb => by
  obtain ⟨o, e, _⟩ := T.obj 0 _ st3 b hb
  exact Heap.lt_size e
 show wpAny (model X.prog X.w) X.A (newFunctionEnv scope X.env.globals cl [] X.env.qual none .none (some X.env)) _ E { s₂ with heap := s₂.heap.push { cls := .type "list", data := .seq ([] : List Value).toArray }, toks := s₂.toks }
 generalize hs3 : ({ s₂ with heap := s₂.heap.push { cls := .type "list", data := .seq ([] : List Value).toArray }, toks := s₂.toks } : Shared) = s₃ at *
 have eh : s₃.heap = s₂.heap.push { cls := .type "list", data := .seq ([] : List Value).toArray } := by rw [← hs3]
 rw [<- eh] at st3 h1f
 generalize s₂.heap.objs.size = D at *
 refine wpAny_newFunctionEnv S.d5w (by intro y hy; simp at hy) (fun h₁ hns₁ hsb₁ => ?_) S.kind
 have hk1 : ∀ b o, s₃.heap.get? b = some o -> h₁.get? b = some o := fun b o e => hsb₁.extBut b o (Nat.ne_of_lt (Heap.lt_size e)) (Heap.get?_push_of_some _ e)
 have J0 : Inv (b3p X scope cl s₃.heap.objs.size s₃ H3 fp x y) [] (none :: none :: σ) H3 { s₃ with heap := h₁, toks := s₃.toks + ([] : List (Str × Value)).length } := I3.j1o S hcl hcl2 f3 h1f hns₁ hk1 rfl rfl
 obtain ⟨n0, W, w0, turn⟩ := hCW
 have loop : codeAny (model X.prog X.w) X.A (.compLoop (.ListComp elt [⟨.Tuple [.Name x px, .Name y py] kk tpos, iter, [], 0⟩] scope pos) 0 (.ref it) (.ref D) (compEnvC scope cl s₃.heap.objs.size X.env)) (RR (.ref D) s₃.heap.objs.size) { s₃ with heap := h₁, toks := s₃.toks + ([] : List (Str × Value)).length } := by
  refine codeAny_loop rfl (fun n s' => ∃ i ys o o' H', Inv (b3p X scope cl s₃.heap.objs.size s₃ H3 fp x y) [] (o :: o' :: σ) H' s' /\ tn i s'.heap /\ (∀ b ∈ fp, H' b = none) /\ W i ys H' /\ i <= n0 /\ n = n0 - i) (fun n s5 hI => ?_) n0
   ⟨0, [], none, none, H3, J0, T.keep _ _ _ st3 (fun b _ o e => hk1 b o e), fun b hb => (f3 b hb).1, w0, Nat.zero_le _, rfl⟩
  obtain ⟨i, ys, o5, o5', H5, I5, st5, fr5, w5, hin, hnn⟩ := hI
  have stat : ∀ {H' : Hp}, (∀ b ∈ fp, H' b = none) -> ∀ b ∈ fp, d7z (b3p X scope cl s₃.heap.objs.size s₃ H3 fp x y) [] H' b := fun hn b hb =>
   ⟨hn b hb, Nat.ne_of_lt (h1f b hb), fun z => (List.mem_cons.mp (I3.d7w b z)).elim (fun q => (f3 b hb).2.1 q) fun q => (f3 b hb).2.2.1 q, .inl hb, fun y c e => (f3 b hb).2.2.2.2.1 y c (hcl y c e).2, fun p hp => absurd (show p ∈ ([] : List (Addr × Obj)) from hp) (by simp)⟩
  show wpAny _ X.A ((compTurn (.ListComp elt [⟨.Tuple [.Name x px, .Name y py] kk tpos, iter, [], 0⟩] scope pos) 0 (.ref it) (.ref D) (compEnvC scope cl s₃.heap.objs.size X.env)).onRaise (fun x => do noteFrame x (compEnvC scope cl s₃.heap.objs.size X.env); theTreesLotGoes x)) _ _ s5
  refine wpAny_noted ?_
  rw [compTurn_list1]
  refine wpAny_bind (wpAny_standAt (wpAny_bind ?_))
  obtain ⟨hD5, alt⟩ := turn i ys H5 hin w5
  rcases alt with ⟨stop, q⟩ | ⟨hlt, go, hsz, step⟩
  ·refine wpAny_mono (T.done (b3p X scope cl s₃.heap.objs.size s₃ H3 fp x y) rfl rfl rfl hc i [] s5 _ H5 _ I5 (stat fr5) st5 stop) (fun r s6 ⟨hr, I6⟩ => ?_) fun _ _ z => z
   subst hr
   refine wpAny_pure ?_
   obtain ⟨m6, hn6, _⟩ := I6.loc
   exact hRR D s₃.heap.objs.size s6 H5 ⟨m6, hn6⟩ (fun h' hs' => I3.i0u f3 I6 hs') (I3.h5d (Nat.le_refl _) I6.free) q
  ·refine wpAny_mono (T.item (b3p X scope cl s₃.heap.objs.size s₃ H3 fp x y) rfl rfl rfl hc i [] s5 _ H5 _ I5 (stat fr5) st5 go) (fun r s6 ⟨u, hr, h6⟩ => ?_) fun _ _ z => z
   subst hr
   refine wpAny_bind (wpAny_mono h6 (fun _ s7 ⟨v, H7, I7, r7, y7, st7, fr7⟩ => ?_) fun _ _ z => z)
   have I7' := I7.pinned (stat fr7) (T.obj _ _ st7)
   obtain ⟨p7, u1, u2, e7, t7, step7⟩ := step v H7 y7
   subst e7
   have G1 := a2m (X := b3p X scope cl s₃.heap.objs.size s₃ H3 fp x y) (pos := px) (i := 0) (x := x) S.nd rfl (.inl (lookup_relabel_local S.own)) (.inr (lookup_relabel_local S.own))
   have G2 := a2m (X := b3p X scope cl s₃.heap.objs.size s₃ H3 fp x y) (pos := py) (i := 1) (x := y) S.nd rfl (.inl (lookup_relabel_local S.j4j)) (.inr (lookup_relabel_local S.j4j))
   have G := h7z (X := b3p X scope cl s₃.heap.objs.size s₃ H3 fp x y) (pos := tpos) (k := kk) (n := 2) hc (f4u G1 (f4u G2 g9z)) rfl rfl
   refine wpAny_bind (wpAny_mono (G _ s7 _ H7 (.ref p7) u (fun σ' H' => σ' = some u1 :: some u2 :: σ /\ H' = H7) I7' r7 ⟨p7, [u1, u2], rfl, SqT.of t7, rfl, _, _, rfl, _, _, rfl, rfl, rfl, rfl⟩) (fun _ s8 hs8 => ?_) fun _ _ z => False.elim z)
   obtain ⟨σ8, H8, I8, rfl, rfl⟩ := hs8
   refine wpAny_bind (wpAny_bind (wpAny_mono (he cl s₃.heap.objs.size s₃ H3 fp _ s8 _ _ _ I8 step7) (fun yv s9 hs9 => ?_) fun _ _ z => False.elim z))
   obtain ⟨y', H9, I9, r9, hD9, k9⟩ := hs9
   refine wpAny_bind (wpAny_mono (d1n (X := b3p X scope cl s₃.heap.objs.size s₃ H3 fp x y) _ s9 _ H9 (.ref D) [y'] (.ref D) [yv] (fun _ H' => H' = upd H9 D (.lst (ys ++ [y']))) I9 rfl (.cons r9 .nil) ⟨D, ys, y', rfl, rfl, hD9, hsz, rfl⟩) (fun _ sA hsA => ?_) fun _ _ z => False.elim z)
   obtain ⟨_, HA, IA, _, rfl⟩ := hsA
   refine wpAny_pure ?_
   have wA := k9 _ a2p.upd a2w
   refine wpAny_pure ⟨rfl, n0 - (i + 1), by omega, i + 1, ys ++ [y'], some u1, some u2, _, IA.c3w (pins := []) (pl := d5t fp s7.heap), T.keep _ _ _ st7 (fun b hb o e => (IA.pin (b, o) (List.mem_append_right _ (List.mem_append_right _ (a6v hb e)))).1), fun b hb => ?_, wA, hlt, rfl⟩
   obtain ⟨o, e, d⟩ := T.obj _ _ st7 b hb
   exact (IA.pin (b, o) (List.mem_append_right _ (List.mem_append_right _ (a6v hb e)))).2.1
 exact codeAny_compStart_list loop (T.self _ 0 _ _ _ (T.keep _ _ _ st3 fun b _ o e => hk1 b o e) loop)
theorem f5m (hi : PI X (.Tuple [.Name x px, .Name y py] kk tpos) iter wi) (he : ∀ cl C s₃ H₃ fp, PE (b3p X scope cl C s₃ H₃ fp x y) elt te) (S : c8u X scope x y) (hc : X.calm = true)
  (hs : ∀ x, foldedSetIterable iter X.env x = pure x := by intro _; rfl) : PE X (.ListComp elt [⟨.Tuple [.Name x px, .Name y py] kk tpos, iter, [], 0⟩] scope pos) (i7d wi te) := by
 intro pins s σ H Q I h
 obtain ⟨cl, hclos, hcl, hcl2⟩ := c8r (env := X.env) (sc := scope) fun y hy => I.ok.has y (S.free _ hy rfl)
 rw [eval_ListComp]
 refine wpAny_comprehension_free (use := none) rfl hs hclos S.kind S.loc ?_
 refine thn (hi pins s σ H _ I h) fun v s1 h1 => thn h1 fun itv s2 h2 => ?_
 obtain ⟨it, fp, tn, J, H2, e, I2, T, st2, f2, hW⟩ := h2
 subst e
 exact g2i (RR := fun acc C => compPost (model X.prog X.w) X.A X.xe none (EP X pins σ Q) acc C) S hc he hcl hcl2 I2 T st2 f2 hW fun D C s' H' hm hI _ hq =>
  hm.elim fun m hn => ⟨m, hn, fun h' hs' => ⟨.ref D, H', hI h' hs', rfl, hq⟩⟩
end
noncomputable def h1p (sc scope : Scope) (x y : Str) (N : List Str) : Bool :=
 (scope.kind == .function) && scope.names.all (fun y => y.2 != .cell) && scope.names.all (fun y => y.2 != .local || scope.names.lookup y.1 == some .local) && (scope.names.lookup x == some .local) && (scope.names.lookup y == some .local) &&
 scope.names.all (fun y => y.2 != .free || (sc.names.lookup y.1 == some .cell || sc.names.lookup y.1 == some .free)) && decide ((x :: y :: mask x N).Nodup) && scope.names.all (fun y => y.1 != "") && (mask x N).all (fun y => scope.names.lookup y != some .local)
theorem h1q {X : Cx} {sc scope : Scope} {x y : Str} {N : List Str} (hsc : X.env.scope = sc) (hN : X.N = N) (h : h1p sc scope x y N = true) : c8u X scope x y := by
 subst hN hsc
 unfold h1p at h
 simp only [Bool.and_eq_true, List.all_eq_true, beq_iff_eq, Bool.or_eq_true, bne_iff_ne, ne_eq, decide_eq_true_eq] at h
 obtain ⟨⟨⟨⟨⟨⟨⟨⟨h1, h2⟩, h3⟩, h4⟩, h5⟩, h6⟩, h7⟩, h8⟩, h9⟩ := h
 exact ⟨h1, h2, fun y hy e => (h3 y hy).resolve_left fun z => z e, h4, h5, fun y hy e => (h6 y hy).resolve_left fun z => z e, h7, h8, h9⟩
theorem g7v {K : PySem.W.Frag} {b1 b2 : Bool} {l1 l2 D : Addr} {xs ys : List V} {te : TE} {σ : St} {H : Hp} {Q : VK} (Pv : Nat -> List V -> Hp -> Prop) (h0 : Pv 0 [] H) (hsz : xs.length <= sizeLine)
  (hD : ∀ i zs H, i <= min xs.length ys.length -> Pv i zs H -> H D = some (.lst zs) /\ SqK b1 K H l1 xs /\ SqK b2 K H l2 ys /\ zs.length = i)
  (hs : ∀ i x y zs H p H', xs[i]? = some x -> ys[i]? = some y -> Pv i zs H -> H p = none -> Same H H' -> H' p = some (.tup [x, y]) -> te (some x :: some y :: σ) H' fun z H2 => H2 D = some (.lst zs) /\ ∀ H3, a2p D H2 H3 -> H3 D = some (.lst (zs ++ [z])) -> Pv (i + 1) (zs ++ [z]) H3)
  (hd : ∀ zs H, Pv (min xs.length ys.length) zs H -> Q (.ref D) H) : f9i (Itz K b1 b2 l1 l2) te D σ H Q ⟨⟩ := by
 refine ⟨min xs.length ys.length, Pv, h0, fun i zs H hi p => ?_⟩
 obtain ⟨e1, e2, e3, e4⟩ := hD i zs H hi p
 refine ⟨e1, ?_⟩
 by_cases hlt : i < min xs.length ys.length
 ·have hx : xs[i]? = some (xs[i]'(by omega)) := List.getElem?_eq_getElem _
  have hy : ys[i]? = some (ys[i]'(by omega)) := List.getElem?_eq_getElem _
  refine .inr ⟨hlt, ⟨xs, ys, _, _, e2, e3, hx, hy⟩, by omega, fun v H' q => ?_⟩
  obtain ⟨q, x, y, rfl, nq, rfl, k1, k2⟩ := q
  exact ⟨q, x, y, rfl, a2w, hs i x y zs H q _ (k1 _ e2) (k2 _ e3) p nq (Same.upd nq) a2w⟩
 ·have e : i = min xs.length ys.length := by omega
  subst e
  exact .inl ⟨⟨xs, ys, e2, e3, by omega⟩, hd zs H p⟩
end L2
namespace L2
open PySem PySem.Spec PyProof.Rows
def j1p (K : PySem.W.Frag) (tl : TE) : TI := fun σ H R => tl σ H fun x H1 => match x with
 | .ref a => (match H1 a with
  | some (.tup _) => R (Itt K a) H1
  | _ => False)
 | _ => False
theorem i0v {X : Cx} {tg l : Expr} {tl : TE} (hl : PE X l tl) : PI X tg l (j1p X.K tl) := by
 intro pins s σ H R I h
 refine thn (hl pins s σ H _ I h) fun v s1 ⟨x, H1, I1, r1, q1⟩ => ?_
 cases x with
 | ref a =>
  have q' : (match H1 a with
   | some (.tup _) => R (Itt X.K a) H1
   | _ => False) := q1
  split at q'
  ·rename_i xs e
   cases r1
   obtain ⟨its, rv, p, hz⟩ := I1.tuple (SqT.of e)
   refine wpAny_pyIter_tuple (show s1.heap.IsTuple a its.toArray from p) ?_
   refine ⟨s1.heap.objs.size, [s1.heap.objs.size], _, _, H1, rfl, I1.kept (t' := s1.toks) fun b o e => Heap.get?_push_of_some _ e, g7e a _, ⟨_, Heap.get?_push_size _ rfl, rfl, rfl⟩, fun b hb => ?_, q'⟩
   have e : b = s1.heap.objs.size := by simpa using hb
   subst e
   exact I1.h5d (Nat.le_refl _) (I1.hok.fresh (Nat.le_refl _))
  ·exact q'.elim
 | _ => exact False.elim q1
noncomputable def rSlG : V -> Option Int -> Option Int -> Hp -> VK -> Prop := fun x lo hi H Q => match x with
 | .ref a => (match H a with
  | some (.lst xs) => New H (.lst (d3k xs lo hi)) Q ⟨⟩
  | some (.tup xs) => ¬ (HT.sIx xs.length 0 lo = 0 /\ HT.sIx xs.length xs.length hi = xs.length) /\ New H (.tup (d3k xs lo hi)) Q ⟨⟩
  | _ => False)
 | _ => False
theorem j4k {X : Cx} : SlR X rSlG := by
 intro pins s σ H x v vl vu lo hi sl Q I rx hs pl pu h
 cases x with
 | ref a =>
  have h' : (match H a with
   | some (.lst xs) => New H (.lst (d3k xs lo hi)) Q ⟨⟩
   | some (.tup xs) => ¬ (HT.sIx xs.length 0 lo = 0 /\ HT.sIx xs.length xs.length hi = xs.length) /\ New H (.tup (d3k xs lo hi)) Q ⟨⟩
   | _ => False) := h
  split at h'
  ·rename_i xs e
   exact g1w pins s σ H _ v vl vu lo hi sl Q I rx hs pl pu ⟨_, xs, rfl, SqL.of e, h'.raw⟩
  ·rename_i xs e
   exact i5l pins s σ H _ v vl vu lo hi sl Q I rx hs pl pu ⟨_, xs, rfl, SqT.of e, h'.1, h'.2.raw⟩
  ·exact h'.elim
 | _ => exact False.elim h
theorem h1r {K : PySem.W.Frag} {a D : Addr} {xs : List V} {te : TE} {σ : St} {H : Hp} {Q : VK} (Pv : Nat -> List V -> Hp -> Prop) (h0 : Pv 0 [] H) (hsz : xs.length <= sizeLine)
  (hD : ∀ i ys H, i <= xs.length -> Pv i ys H -> H D = some (.lst ys) /\ SqT K H a xs /\ ys.length = i)
  (hs : ∀ i x ys H, xs[i]? = some x -> Pv i ys H -> te (some x :: σ) H fun y H2 => H2 D = some (.lst ys) /\ ∀ H3, a2p D H2 H3 -> H3 D = some (.lst (ys ++ [y])) -> Pv (i + 1) (ys ++ [y]) H3)
  (hd : ∀ ys H, Pv xs.length ys H -> Q (.ref D) H) : d7i (Itt K a) te D σ H Q ⟨⟩ := by
 refine ⟨xs.length, Pv, h0, fun i ys H hi p => ?_⟩
 obtain ⟨e1, e2, e3⟩ := hD i ys H hi p
 refine ⟨e1, ?_⟩
 by_cases hlt : i < xs.length
 ·refine .inr ⟨hlt, ⟨xs, xs[i], e2, by simp [hlt]⟩, by omega, fun x H' y => ?_⟩
  obtain ⟨e, y⟩ := y
  subst e
  exact hs i x ys _ (y xs e2) p
 ·have e : i = xs.length := by omega
  subst e
  exact .inl ⟨⟨xs, e2, Nat.le_refl _⟩, hd ys H p⟩
theorem g6k {X : Cx} {K : PySem.W.Frag} {e : Expr} {f : Str} {pos : Pos} {ta : TE} (hK : X.K = K) (he : PE X e ta) (hb : attributeBase e f X.env (eval e X.env) = eval e X.env) : PE X (.Attribute e f pos) (i0q K ta f) := hK ▸ a1y he hb
end L2
namespace L2
open PySem PySem.Spec PyProof.Rows
section
variable {prog : Program} {w : World} {A : Around} {E : Value -> Shared -> Prop} {s : Shared}
end
section
variable {prog : Program} {w : World} {A : Around} {E : Value -> Shared -> Prop} {s : Shared}
end
end L2
namespace L2
open PySem PySem.Spec PyProof.Rows
section
variable {M : Model} {A : Around} {E : Value -> Shared -> Prop} {s : Shared} {env : Env}
end
end L2
namespace L2
open PySem PySem.Spec PyProof.Rows
def j1q (chk : V -> Hp -> Bool) (r : V -> List V -> Hp -> VK -> Prop) (to : TE) : TE := fun σ H Q => to σ H fun x H1 => chk x H1 = true /\ r x [] H1 Q
section
variable {X : Cx} {o : Expr} {to : TE} {name : Str} {apos cpos : Pos} {T id : String} {r : V -> List V -> Hp -> VK -> Prop} {chk : V -> Hp -> Bool}
theorem i0w (hchk : ∀ x H, chk x H = true → tyV X.K T x H) (pa : PlainAttrs T) (slot : Slot T name id) (hty : typeOf (.builtin id) = pure (.type "method_descriptor")) (hm : MtR X id r) (ho : PE X o to)
  (hbase : attributeBase o name X.env (eval o X.env) = eval o X.env := by rfl) (hline : (apos.endLine == cpos.line) = true := by rfl) : PE X (.Call (.Attribute o name apos) [] [] cpos) (j1q chk r to) := by
 intro pins s σ H Q I h
 refine wpAny_Call_method0_late hbase hline (thn (ho pins s σ H _ I h) fun v s1 ⟨x, H1, I1, r1, ty, q1⟩ => ?_)
 obtain ⟨h1, h2⟩ := h8d I1 r1 (hchk x H1 ty)
 exact ⟨T, id, pa, slot, hty, h1, h2, Calls.callWith_builtin rfl (PySem.evalArgs_none (hm pins s1 σ H1 x [] v [] Q I1 r1 .nil q1))⟩
noncomputable def i7e : V -> List V -> Hp -> VK -> Prop := fun x vs H Q => match x, vs with
 | .str z, [.ref l] => (match H l with
  | some (.lst xs) => ∃ ys : List Str, xs = ys.map V.str /\ JoinOk z ys = true /\ Q (.str (Txt.join z ys)) H
  | _ => False)
 | _, _ => False
theorem f3o : ∀ {ys : List Str} {us : List Value}, Vals (ys.map V.str) us -> ∃ l : List (Str × Tok), us = strValues l /\ l.map (·.1) = ys
 | [], _, h => by
  cases h
  exact ⟨[], rfl, rfl⟩
 | y :: ys, _, h => by
  cases h with
  | cons a b =>
   obtain ⟨t, rfl⟩ := a
   obtain ⟨l, rfl, e⟩ := f3o b
   exact ⟨(y, t) :: l, rfl, by rw [List.map_cons, e]⟩
theorem c3y : MtR X "str.join" i7e := by
 intro pins s σ H x vs v us Q I rx rv h
 match x, vs, h with
 | .str z, [.ref l], h =>
  have h' : (match H l with
   | some (.lst xs) => ∃ ys : List Str, xs = ys.map V.str /\ JoinOk z ys = true /\ Q (.str (Txt.join z ys)) H
   | _ => False) := h
  split at h'
  ·rename_i xs hH
   obtain ⟨ys, rfl, ok, q⟩ := h'
   obtain ⟨t, rfl⟩ := rx
   obtain ⟨u, rfl, ru⟩ := rv.one
   cases ru
   obtain ⟨its, n, r, ho, hz⟩ := I.lst hH
   obtain ⟨lt, rfl, e⟩ := f3o r
   exact SC.join ⟨_, ho, rfl, _, rfl⟩ e ok fun t' k => ⟨.str _, H, I.tok k, ⟨_, rfl⟩, q⟩
  ·exact h'.elim
end
theorem joinOk_of {z : Str} {ys : List Str} {n : Nat} (h : ∀ y ∈ ys, y.length <= n) (hl : ys.length * (n + z.length) <= sizeLine) : JoinOk z ys = true := by
 unfold JoinOk
 have : ∀ (ys : List Str) (a : Nat), (∀ y ∈ ys, y.length <= n) -> ys.foldl (· + ·.length + z.length) a <= a + ys.length * (n + z.length) := by
  intro ys
  induction ys with
  | nil => intro a _; simp
  | cons y ys ih =>
   intro a h
   have i := ih (a + y.length + z.length) fun y hy => h y (List.mem_cons_of_mem _ hy)
   have hy := h y (List.mem_cons_self ..)
   rw [List.foldl_cons, List.length_cons, Nat.succ_mul]
   omega
 have t := this ys 0 h
 rw [List.foldl_toArray]
 unfold Builtin.Str.tooLong
 simp
 omega
end L2
namespace L2
open PySem PySem.Spec PyProof.Rows
structure j1r (K : PySem.W.Frag) (w : World) (d : Addr) : Prop where
 lk : ∃ es n, K.lookup d = some ⟨.type "dict", none, .dict es n, #[]⟩ ∧ PySem.W.KeysLit w.params es.toList
 ns : (d == sysModules) = false
def rNiD (K : PySem.W.Frag) (w : World) (neg : Bool) : R2 := fun x y H Q => match x, y with
 | .str z, .ref d => j1r K w d /\ ∃ r, PySem.W.nsIn K d z = some r /\ Q (.bl (r.isSome != neg)) H
 | _, _ => False
section
variable {X : Cx}
theorem h1s {K : PySem.W.Frag} {w : World} (eK : X.K = K) (eW : X.w = w) : OpR X (compareOp .NotIn) (rNiD K w true) := by
 subst eK eW
 intro pins s σ H x y v u Q I rx ry h
 match x, y, h with
 | .str z, .ref d, ⟨⟨⟨es, n, hl, hk⟩, hn⟩, r, e, q⟩ =>
  obtain ⟨t, rfl⟩ := rx
  cases ry
  refine wpAny_notIn_of (PySem.strKind_is X.prog X.w z t) hn (PySem.W.mapOf_K (prog := X.prog) I.kIn hl (hk)) ?_
  rw [PySem.W.find_K hl e]
  rw [Bool.bne_true] at q
  exact ⟨.bl (!r.isSome), H, I.tok _, rfl, q⟩
def rIxD (K : PySem.W.Frag) (w : World) : R2 := fun x y H Q => match x, y with
 | .ref d, .str z => j1r K w d /\ ∃ f, PySem.W.nsIn K d z = some (some (.ref f)) /\ Q (.ref f) H
 | _, _ => False
theorem i4a {K : PySem.W.Frag} {w : World} (eK : X.K = K) (eW : X.w = w) : IxR X (rIxD K w) := by
 subst eK eW
 intro value slice pins s σ H x y v u Q I rx ry h hs
 match x, y, h with
 | .ref d, .str z, ⟨⟨⟨es, n, hl, hk⟩, hn⟩, f, e, q⟩ =>
  obtain ⟨t, rfl⟩ := ry
  cases rx
  have hm := PySem.W.mapOf_K (prog := X.prog) (w := X.w) I.kIn hl (hk)
  exact tail_any hm.typeIs slot_dict_getitem.lookup (wpAny_getItem_of (PySem.strKind_is X.prog X.w z t) hm (PySem.W.find_K hl e) ⟨.ref f, H, I.tok _, rfl, q⟩) hs
def i7f (f : Addr) (sp : Sp) (dvs : List V) (E : XK) (tg : TE) (t : TA) : TE := fun σ H Q => tg σ H fun x H1 => x = .ref f /\ i5h sp dvs E t σ H1 Q
theorem c8v {CX : CXT} {k : Nat} {f : Addr} {fd : FuncData} {ps : List Str} {sp : Sp} {ds : List Value} {dvs : List V} {E : XK} {g e : Expr} {es : List Expr} {tg : TE} {t : TA} {pos : Pos} (F : a1k X.prog X.w X.K X.mg X.base CX k f fd ps sp) (hr : a2k k X.A) (hk : PySem.W.keepIn X.K (.ref f) = true) (hb : Binds X.K fd ps ds) (hd : Vals dvs ds) (hx : Passes CX X E)
  (hg : PE X g tg) (ha : PA X (e :: es) t) (he : starEach (e :: es) X.env = (false, eval e X.env) :: starEach es X.env := by rfl) (hpl : (backTo pos (starEach es X.env)).any (·.1) = false := by rfl)
  (hc : eval (.Call g (e :: es) [] pos) X.env = (do callWith pos (<- eval g X.env) [] (backTo pos (starEach (e :: es) X.env)) (backToKw pos (keywordEach [] X.env))) := by rfl) :
  PE X (.Call g (e :: es) [] pos) (i7f f sp dvs E tg t) := by
 intro pins s σ H Q I h
 refine Call_ (thn (hg pins s σ H _ I h) fun v s1 ⟨x, H1, I1, r1, ex, q1⟩ => ?_) hc
 subst ex
 cases r1
 refine PySem.W.callWith_K (h₀ := X.base) I1.ok.mod.kin hk (thn (ha pos pins s1 σ H1 _ I1 q1) fun us s2 ⟨vs, H2, I2, r, q⟩ => ⟨I2.kIn, ?_⟩) he hpl
 exact g5x F hr hb hd hx I2 r q
theorem SP.j1s {pins : List (Addr × Obj)} {D : Ends} {f : Flow} {s : Shared} (h : SP X.nox pins D f s) : SP X pins D f s := by
 cases f with
 | next => obtain ⟨a, b, c, d⟩ := h; exact ⟨a, b, c.c6j, d⟩
 | brk => obtain ⟨a, b, c, d⟩ := h; exact ⟨a, b, c.c6j, d⟩
 | cont => obtain ⟨a, b, c, d⟩ := h; exact ⟨a, b, c.c6j, d⟩
 | ret u => obtain ⟨v, a, b, c, d⟩ := h; exact ⟨v, a, b, c.c6j, d⟩
theorem i0x {st : Stmt} {h₀ : ExceptHandler} {hs : List ExceptHandler} {tb : TS} {pos : Pos} (hb : PS X.nox st tb) : PS X (.Try [st] (h₀ :: hs) [] [] pos) tb := by
 intro pins s σ H Dn I h
 refine wpAny_Try_except (wpAny_execs_cons (wpAny_mono (hb pins s σ H Dn (I.wish _) h) (fun f s1 q => ?_) fun e s1 z => False.elim z))
 have q' := SP.j1s q
 cases f with
 | next => exact wpAny_execs_nil (wpAny_execs_nil q')
 | ret v => exact q'
 | brk => exact q'
 | cont => exact q'
end
end L2
namespace L2
open PySem PySem.Spec PyProof.Rows
theorem g6l {c : Nat} : ∀ {a a' b b' : List Nat}, a ++ c :: b = a' ++ c :: b' -> c ∉ a -> c ∉ a' -> a = a' /\ b = b'
 | [], [], _, _, h, _, _ => by simpa using h
 | [], d :: a', _, _, h, _, h2 => by
  rw [List.nil_append, List.cons_append, List.cons.injEq] at h
  exact absurd (by rw [h.1]; exact List.mem_cons_self) h2
 | d :: a, [], _, _, h, h1, _ => by
  rw [List.nil_append, List.cons_append, List.cons.injEq] at h
  exact absurd (by rw [h.1]; exact List.mem_cons_self) h1
 | d :: a, d' :: a', _, _, h, h1, h2 => by
  rw [List.cons_append, List.cons_append, List.cons.injEq] at h
  obtain ⟨e1, e2⟩ := g6l h.2 (fun q => h1 (List.mem_cons_of_mem _ q)) (fun q => h2 (List.mem_cons_of_mem _ q))
  exact ⟨by rw [h.1, e1], e2⟩
theorem a4v (c : Nat) (p q : Str) (r : List Str) : sg (Str.join ⟨#[c]⟩ (p :: q :: r)) = sg p ++ c :: sg (Str.join ⟨#[c]⟩ (q :: r)) := by
 show sg (p ++ ⟨#[c]⟩ ++ Str.join ⟨#[c]⟩ (q :: r)) = _
 rw [a1r, a1r, List.append_assoc]
 rfl
theorem f9j {c : Nat} : ∀ {ps qs : List Str}, ps ≠ [] -> qs ≠ [] -> (∀ p ∈ ps, c ∉ sg p) -> (∀ q ∈ qs, c ∉ sg q) -> sg (Str.join ⟨#[c]⟩ ps) = sg (Str.join ⟨#[c]⟩ qs) -> ps = qs
 | [], _, h, _, _, _, _ => absurd rfl h
 | _ :: _, [], _, h, _, _, _ => absurd rfl h
 | [p], [q], _, _, _, _, e => by
  rw [b1n (show sg p = sg q from e)]
 | [p], q :: q' :: qs, _, _, fp, _, e => by
  rw [a4v] at e
  exact absurd (by rw [show sg p = _ from e]; simp) (fp p (List.mem_cons_self ..))
 | p :: p' :: ps, [q], _, _, _, fq, e => by
  rw [a4v] at e
  exact absurd (by rw [show sg q = _ from e.symm]; simp) (fq q (List.mem_cons_self ..))
 | p :: p' :: ps, q :: q' :: qs, _, _, fp, fq, e => by
  rw [a4v, a4v] at e
  obtain ⟨e1, e2⟩ := g6l e (fp p (List.mem_cons_self ..)) (fq q (List.mem_cons_self ..))
  rw [b1n e1, f9j (by simp) (by simp) (fun x hx => fp x (List.mem_cons_of_mem _ hx)) (fun x hx => fq x (List.mem_cons_of_mem _ hx)) e2]
theorem h1t (x y : Str) : b3o x y = Txt.split x y := rfl
theorem h6i (x y : Str) : Txt.split x y ≠ [] := by
 unfold Txt.split
 split
 ·simp
 ·split
  ·simp
  ·rw [StrLaws.partsBetween_eq]
   obtain ⟨p, r, e⟩ := StrLaws.partsFrom_ne x y.length 0 (Builtin.Str.occurrences x y 0 x.length (x.length + 1))
   rw [e]
   simp
theorem c2v {x : Str} {c : Nat} {ps : List Str} (hn : ps ≠ []) (hf : ∀ p ∈ ps, c ∉ sg p) (h : sg x = sg (Str.join ⟨#[c]⟩ ps)) : b3o x ⟨#[c]⟩ = ps := by
 rw [h1t]
 refine f9j (c := c) (h6i _ _) hn (fun p hp => StrLaws.split_free x c p hp) hf ?_
 rw [StrLaws.join_split, h]
end L2
namespace L2
open PySem PySem.Spec PyProof.Rows
def d3q (t t' : TE) : TE := fun σ H Q => t σ H Q \/ t' σ H Q
theorem a4r {X : Cx} {e : Expr} {t t' : TE} (h : PE X e t) (h' : PE X e t') : PE X e (d3q t t') := fun pins s σ H Q I z => z.elim (h pins s σ H Q I) (h' pins s σ H Q I)
theorem h6j : ∀ (k n : Nat), n < 10 ^ (k + 1) -> (dg n).length <= k + 1
 | 0, n, h => by
  rw [g2d (by omega)]
  exact Nat.le_refl _
 | k + 1, n, h => by
  rcases Nat.lt_or_ge n 10 with z | z
  ·rw [g2d z, List.length_singleton]
   omega
  ·have e : n = 10 * (n / 10) + n % 10 := by omega
   rw [e, d8u (by omega) (by omega), List.length_append, List.length_singleton]
   have := h6j k (n / 10) (by rw [Nat.pow_succ] at h; omega)
   omega
theorem g2j {K : PySem.W.Frag} {a D : Addr} {xs : List V} {te : TE} {σ : St} {H : Hp} {Q : VK} (Pv : Nat -> List V -> Hp -> Prop) (h0 : Pv 0 [] H) (hsz : xs.length <= sizeLine)
  (hD : ∀ i ys H, i <= xs.length -> Pv i ys H -> H D = some (.lst ys) /\ SqL K H a xs /\ ys.length = i)
  (hs : ∀ i x ys H, xs[i]? = some x -> Pv i ys H -> ∃ p u v, x = .ref p /\ H p = some (.tup [u, v]) /\ te (some u :: some v :: σ) H fun y H2 => H2 D = some (.lst ys) /\ ∀ H3, a2p D H2 H3 -> H3 D = some (.lst (ys ++ [y])) -> Pv (i + 1) (ys ++ [y]) H3)
  (hd : ∀ ys H, Pv xs.length ys H -> Q (.ref D) H) : f9i (Itl K a) te D σ H Q ⟨⟩ := by
 refine ⟨xs.length, Pv, h0, fun i ys H hi p => ?_⟩
 obtain ⟨e1, e2, e3⟩ := hD i ys H hi p
 refine ⟨e1, ?_⟩
 by_cases hlt : i < xs.length
 ·refine .inr ⟨hlt, ⟨xs, xs[i], e2, by simp [hlt]⟩, by omega, fun x H' y => ?_⟩
  obtain ⟨e, y⟩ := y
  subst e
  exact hs i x ys _ (y xs e2) p
 ·have e : i = xs.length := by omega
  subst e
  exact .inl ⟨⟨xs, e2, Nat.le_refl _⟩, hd ys H p⟩
open PySem.Builtin.Int (intBits)
noncomputable def fW (x : Rat) : Str := Str.empty ++ Str.ofString (toString x.num) ++ Str.ofString "/" ++ Str.ofString (toString (x.den : Int))
noncomputable def cW (c : Int × Rat) : Str := Str.empty ++ Str.ofString (toString c.1) ++ Str.ofString "=" ++ fW c.2
noncomputable def nW (n : Nat) : Str := Str.ofString (toString (n : Int))
def YOk (y : Rat) : Prop := y.num.natAbs <= 1000 /\ y.den <= 1000
inductive Dt where
 | gain (y : Rat)
 | delay (n : Nat)
 | echo (y : Rat) (n t : Nat)
 | back (y : Rat) (n : Nat)
 | hall (y : Rat) (n : Nat)
 | swell (cs : List (Int × Rat))
noncomputable def Dt.kd : Dt -> Nat
 | .gain _ => 0
 | .delay _ => 1
 | .echo .. => 2
 | .back .. => 3
 | .hall .. => 4
 | .swell _ => 5
noncomputable def Dt.kind : Dt -> Str
 | .gain _ => Str.ofString "gain"
 | .delay _ => Str.ofString "delay"
 | .echo .. => Str.ofString "echo"
 | .back .. => Str.ofString "back"
 | .hall .. => Str.ofString "hall"
 | .swell _ => Str.ofString "swell"
noncomputable def Dt.vals : Dt -> List Str
 | .gain y => [fW y]
 | .delay n => [nW n]
 | .echo y n t => [fW y, nW n, nW t]
 | .back y n => [fW y, nW n]
 | .hall y n => [fW y, nW n]
 | .swell cs => [Str.join ⟨#[44]⟩ (cs.map cW)]
noncomputable def Dt.word (d : Dt) : Str := Str.join ⟨#[58]⟩ (d.kind :: d.vals)
def h4y (cs : List (Int × Rat)) : Prop := (∀ c ∈ cs, 0 <= c.1 /\ c.1 <= 100000 /\ YOk c.2) /\ (∀ (i : Nat) c d, cs[i]? = some c -> cs[i + 1]? = some d -> c.1 < d.1) /\ 1 <= cs.length /\ cs.length <= 12
noncomputable def Dt.ok : Dt -> Prop
 | .gain y => YOk y
 | .delay n => n <= 1000
 | .echo y n t => YOk y /\ 1 <= n /\ n <= 1000 /\ t <= 16
 | .back y n => YOk y /\ 1 <= n /\ n <= 1000
 | .hall y n => YOk y /\ (y.num.natAbs : Int) < y.den /\ 1 <= n /\ n <= 1000
 | .swell cs => h4y cs
theorem c2w {t : Int} {n : Nat} (h : t.natAbs < 2 ^ n) (hn : 1 <= n) : t.natAbs.log2 < n := by
 rcases Nat.eq_zero_or_pos t.natAbs with z | z
 ·rw [z]
  show Nat.log2 0 < n
  have : Nat.log2 0 = 0 := by decide
  omega
 ·rw [Nat.log2_lt (by omega)]
  exact h
theorem c2k {t : Int} {n : Nat} (h : t.natAbs < 2 ^ n) (hn : 1 <= n) : (Str.ofString (toString t)).length <= n + 1 := by
 have e : (Str.ofString (toString t)).length = (txt t).length := by rw [<- b7j, c1k]
 have := g2e t
 have := c2w h hn
 omega
theorem f3p {n : Nat} (h : n < 2 ^ 20) : (nW n).length <= 21 := c2k (t := (n : Int)) (n := 20) (by omega) (by decide)
theorem YOk.b {y : Rat} (h : YOk y) : intBits y.num <= 10 /\ intBits (y.den : Int) <= 10 := ⟨intBits_le_iff.mpr (Nat.lt_of_le_of_lt h.1 (by decide)), intBits_le_iff.mpr (Nat.lt_of_le_of_lt (show (y.den : Int).natAbs <= 1000 from h.2) (by decide))⟩
theorem d5y {x : Rat} (h1 : intBits x.num <= 10) (h2 : intBits (x.den : Int) <= 10) : (fW x).length <= 23 := by
 have a := c2k (intBits_le_iff.mp h1) (by decide)
 have b := c2k (intBits_le_iff.mp h2) (by decide)
 have e0 : Str.empty.length = 0 := rfl
 have e1 : (Str.ofString "/").length = 1 := by decide +kernel
 unfold fW
 simp only [strLen_append, e0, e1]
 omega
theorem h9a {c : Int × Rat} (h0 : c.1.natAbs < 2 ^ 20) (h1 : intBits c.2.num <= 10) (h2 : intBits (c.2.den : Int) <= 10) : (cW c).length <= 45 := by
 have a := c2k h0 (by decide)
 have b := d5y h1 h2
 have e0 : Str.empty.length = 0 := rfl
 have e1 : (Str.ofString "=").length = 1 := by decide +kernel
 unfold cW
 simp only [strLen_append, e0, e1]
 omega
theorem h6k (n : Nat) : sg (nW n) = txt (n : Int) := c1k _
theorem h6l (y : Rat) : sg (fW y) = h4x y.num (y.den : Int) := by
 unfold fW h4x
 rw [a1r, a1r, a1r, c1k, c1k]
 have e4 : sg Str.empty = [] := rfl
 have e5 : sg (Str.ofString "/") = [47] := by decide +kernel
 rw [e4, e5]
 simp
theorem h6m (c : Int × Rat) : sg (cW c) = txt c.1 ++ 61 :: sg (fW c.2) := by
 unfold cW
 rw [a1r, a1r, a1r, c1k]
 have e4 : sg Str.empty = [] := rfl
 have e5 : sg (Str.ofString "=") = [61] := by decide +kernel
 rw [e4, e5]
 simp
theorem i0y {y : Rat} (h : YOk y) : Good (sg (fW y)) y.num (y.den : Int) := by
 have dp := y.den_pos
 refine ⟨h6l y, by omega, y.reduced, ?_, ?_⟩
 ·exact h6j 8 _ (Nat.lt_of_le_of_lt h.1 (by decide))
 ·exact h6j 8 _ (Nat.lt_of_le_of_lt (show (y.den : Int).natAbs <= 1000 from h.2) (by decide))
theorem g7w {c : Nat} (h1 : c ≠ 45) (h2 : 57 < c) (y : Rat) : c ∉ sg (fW y) := by
 rw [h6l]
 unfold h4x
 intro h
 rcases List.mem_append.mp h with z | z
 ·exact c1l h1 (.inr h2) z
 ·rcases List.mem_cons.mp z with z | z
  ·omega
  ·exact c1l h1 (.inr h2) z
theorem g7x {c : Nat} (h1 : c ≠ 45) (h2 : c < 48 \/ 57 < c) (n : Nat) : c ∉ sg (nW n) := by
 rw [h6k]
 exact c1l h1 h2
theorem i0z (y : Rat) : 44 ∉ sg (fW y) := by
 rw [h6l]
 unfold h4x
 intro h
 rcases List.mem_append.mp h with z | z
 ·exact c1l (by decide) (.inl (by decide)) z
 ·rcases List.mem_cons.mp z with z | z
  ·omega
  ·exact c1l (by decide) (.inl (by decide)) z
theorem i1a (c : Int × Rat) : 44 ∉ sg (cW c) := by
 rw [h6m]
 intro h
 rcases List.mem_append.mp h with z | z
 ·exact c1l (by decide) (.inl (by decide)) z
 ·rcases List.mem_cons.mp z with z | z
  ·omega
  ·exact i0z _ z
theorem i1b (c : Int × Rat) : 58 ∉ sg (cW c) := by
 rw [h6m]
 intro h
 rcases List.mem_append.mp h with z | z
 ·exact c1l (by decide) (.inr (by decide)) z
 ·rcases List.mem_cons.mp z with z | z
  ·omega
  ·exact g7w (by decide) (by decide) _ z
theorem d8w {c k : Nat} (hk : c ≠ k) : ∀ {ps : List Str}, (∀ p ∈ ps, c ∉ sg p) -> c ∉ sg (Str.join ⟨#[k]⟩ ps)
 | [], _ => by
  show c ∉ ([] : List Nat)
  simp
 | [p], h => h p (List.mem_cons_self ..)
 | p :: q :: r, h => by
  rw [a4v]
  intro z
  rcases List.mem_append.mp z with z | z
  ·exact h p (List.mem_cons_self ..) z
  ·rcases List.mem_cons.mp z with z | z
   ·exact hk z
   ·exact d8w hk (fun x hx => h x (List.mem_cons_of_mem _ hx)) z
theorem f9k {b : Nat} : ∀ {l : List Nat}, (∀ x ∈ l, x <= b) -> l.sum <= l.length * b
 | [], _ => Nat.zero_le _
 | x :: l, h => by
  have i := f9k (l := l) fun y hy => h y (List.mem_cons_of_mem _ hy)
  have := h x (List.mem_cons_self ..)
  rw [List.sum_cons, List.length_cons, Nat.succ_mul]
  omega
theorem d1w {z : Str} {ps : List Str} {n : Nat} (h : ∀ p ∈ ps, p.length <= n) : (Str.join z ps).length <= ps.length * n + ps.length * z.length := by
 have a := StrLaws.join_length_le z ps
 have b := f9k (b := n) (l := ps.map (·.length)) fun x hx => by
  obtain ⟨y, hy, rfl⟩ := List.mem_map.mp hx
  exact h y hy
 rw [List.length_map] at b
 have c : (ps.length - 1) * z.length <= ps.length * z.length := Nat.mul_le_mul_right _ (Nat.sub_le _ _)
 omega
theorem h4y.len {cs : List (Int × Rat)} (h : h4y cs) : ∀ c ∈ cs, (cW c).length <= 45 := fun c hc => by
 obtain ⟨a, b, y⟩ := h.1 c hc
 exact h9a (by omega) y.b.1 y.b.2
theorem h4y.j1t {cs : List (Int × Rat)} (h : h4y cs) : (Str.join ⟨#[44]⟩ (cs.map cW)).length <= 600 := by
 have a := d1w (z := ⟨#[44]⟩) (ps := cs.map cW) (n := 45) fun p hp => by
  obtain ⟨c, hc, rfl⟩ := List.mem_map.mp hp
  exact h.len c hc
 rw [List.length_map, b4o] at a
 have := h.2.2.2
 omega
theorem Dt.free {d : Dt} : ∀ p ∈ d.kind :: d.vals, 58 ∉ sg p := by
 cases d <;> intro p hp <;> simp only [Dt.kind, Dt.vals, List.mem_cons, List.not_mem_nil, or_false] at hp
 case gain => rcases hp with rfl | rfl; decide +kernel; exact g7w (by decide) (by decide) _
 case delay => rcases hp with rfl | rfl; decide +kernel; exact g7x (by decide) (.inr (by decide)) _
 case echo => rcases hp with rfl | rfl | rfl | rfl; decide +kernel; exact g7w (by decide) (by decide) _; exact g7x (by decide) (.inr (by decide)) _; exact g7x (by decide) (.inr (by decide)) _
 case back => rcases hp with rfl | rfl | rfl; decide +kernel; exact g7w (by decide) (by decide) _; exact g7x (by decide) (.inr (by decide)) _
 case hall => rcases hp with rfl | rfl | rfl; decide +kernel; exact g7w (by decide) (by decide) _; exact g7x (by decide) (.inr (by decide)) _
 case swell cs =>
  rcases hp with rfl | rfl
  ·decide +kernel
  ·refine d8w (by decide) fun p hp => ?_
   obtain ⟨c, _, rfl⟩ := List.mem_map.mp hp
   exact i1b c
theorem Dt.vlen {d : Dt} (h : d.ok) : ∀ p ∈ d.kind :: d.vals, p.length <= 600 := by
 have k1 : (Str.ofString "gain").length = 4 := by decide +kernel
 have k2 : (Str.ofString "delay").length = 5 := by decide +kernel
 have k3 : (Str.ofString "echo").length = 4 := by decide +kernel
 have k4 : (Str.ofString "back").length = 4 := by decide +kernel
 have k5 : (Str.ofString "hall").length = 4 := by decide +kernel
 have k6 : (Str.ofString "swell").length = 5 := by decide +kernel
 have f : ∀ {y : Rat}, YOk y -> (fW y).length <= 600 := fun h => Nat.le_trans (d5y h.b.1 h.b.2) (by decide)
 have g : ∀ {n : Nat}, n <= 1000 -> (nW n).length <= 600 := fun h => Nat.le_trans (f3p (Nat.lt_of_le_of_lt h (by decide))) (by decide)
 cases d <;> intro p hp <;> simp only [Dt.kind, Dt.vals, List.mem_cons, List.not_mem_nil, or_false] at hp
 case gain => rcases hp with rfl | rfl; omega; exact f h
 case delay => rcases hp with rfl | rfl; omega; exact g h
 case echo => rcases hp with rfl | rfl | rfl | rfl; omega; exact f h.1; exact g h.2.2.1; exact g (Nat.le_trans h.2.2.2 (by decide))
 case back => rcases hp with rfl | rfl | rfl; omega; exact f h.1; exact g h.2.2
 case hall => rcases hp with rfl | rfl | rfl; omega; exact f h.1; exact g h.2.2.2
 case swell cs => rcases hp with rfl | rfl; omega; exact h.j1t
theorem Dt.vn {d : Dt} : d.vals.length <= 3 := by
 cases d <;> simp [Dt.vals]
theorem Dt.j4l {d : Dt} (h : d.ok) : d.word.length <= 4000 := by
 have a := d1w (z := ⟨#[58]⟩) (d.vlen h)
 have b := d.vn
 rw [List.length_cons, b4o] at a
 unfold Dt.word
 omega
theorem Dt.split (d : Dt) : b3o d.word ⟨#[58]⟩ = d.kind :: d.vals := c2v (by simp) d.free rfl
theorem f5n {cs : List (Int × Rat)} (h : 1 <= cs.length) : b3o (Str.join ⟨#[44]⟩ (cs.map cW)) ⟨#[44]⟩ = cs.map cW := c2v (by intro z; have := congrArg List.length z; rw [List.length_map, List.length_nil] at this; omega) (fun p hp => by
 obtain ⟨c, _, rfl⟩ := List.mem_map.mp hp
 exact i1a c) rfl
theorem f9l {c : Int × Rat} : b3o (cW c) ⟨#[61]⟩ = [Str.ofString (toString c.1), fW c.2] := c2v (by simp) (fun p hp => by
 rcases List.mem_cons.mp hp with rfl | hp
 ·rw [c1k]
  exact c1l (by decide) (.inr (by decide))
 ·rw [List.mem_singleton.mp hp]
  exact g7w (by decide) (by decide) _) (by rw [a4v, h6m, c1k]; rfl)
theorem f2l (z p : Str) : Str.join z [p] = p := rfl
theorem g2k : sg Str.empty = [] := rfl
theorem i7g : sg (Str.ofString "gain:") = sg (Str.ofString "gain") ++ [58] := by decide +kernel
theorem i1c : sg (Str.ofString "delay:") = sg (Str.ofString "delay") ++ [58] := by decide +kernel
theorem i7h : sg (Str.ofString "echo:") = sg (Str.ofString "echo") ++ [58] := by decide +kernel
theorem i7i : sg (Str.ofString "back:") = sg (Str.ofString "back") ++ [58] := by decide +kernel
theorem i7j : sg (Str.ofString "hall:") = sg (Str.ofString "hall") ++ [58] := by decide +kernel
theorem i1d : sg (Str.ofString "swell:") = sg (Str.ofString "swell") ++ [58] := by decide +kernel
theorem g7y : sg (Str.ofString ":") = [58] := by decide +kernel
theorem i1e : Str.ofString "," = ⟨#[44]⟩ := by decide +kernel
theorem j1u : Str.ofString ":" = ⟨#[58]⟩ := by decide +kernel
theorem j1v : Str.ofString "=" = ⟨#[61]⟩ := by decide +kernel
theorem i7k (y : Rat) : Str.empty ++ Str.ofString "gain:" ++ fW y = (Dt.gain y).word := b1n (by
 simp only [Dt.word, Dt.kind, Dt.vals, a1r, a4v, f2l, g2k, i7g, g7y, List.nil_append, List.append_assoc, List.singleton_append, List.cons_append])
theorem i1f (n : Nat) : Str.empty ++ Str.ofString "delay:" ++ nW n = (Dt.delay n).word := b1n (by
 simp only [Dt.word, Dt.kind, Dt.vals, a1r, a4v, f2l, g2k, i1c, g7y, List.nil_append, List.append_assoc, List.singleton_append, List.cons_append])
theorem i7l (y : Rat) (n t : Nat) : Str.empty ++ Str.ofString "echo:" ++ fW y ++ Str.ofString ":" ++ nW n ++ Str.ofString ":" ++ nW t = (Dt.echo y n t).word := b1n (by
 simp only [Dt.word, Dt.kind, Dt.vals, a1r, a4v, f2l, g2k, i7h, g7y, List.nil_append, List.append_assoc, List.singleton_append, List.cons_append])
theorem i7m (y : Rat) (n : Nat) : Str.empty ++ Str.ofString "back:" ++ fW y ++ Str.ofString ":" ++ nW n = (Dt.back y n).word := b1n (by
 simp only [Dt.word, Dt.kind, Dt.vals, a1r, a4v, f2l, g2k, i7i, g7y, List.nil_append, List.append_assoc, List.singleton_append, List.cons_append])
theorem i7n (y : Rat) (n : Nat) : Str.empty ++ Str.ofString "hall:" ++ fW y ++ Str.ofString ":" ++ nW n = (Dt.hall y n).word := b1n (by
 simp only [Dt.word, Dt.kind, Dt.vals, a1r, a4v, f2l, g2k, i7j, g7y, List.nil_append, List.append_assoc, List.singleton_append, List.cons_append])
theorem g2l (z : Str) (ps : List Str) : Txt.join z ps = Str.join z ps := by
 show Builtin.Str.glued _ _ = _
 rw [StrLaws.glued_eq_join]
theorem i1g (cs : List (Int × Rat)) : Str.empty ++ Str.ofString "swell:" ++ Txt.join (Str.ofString ",") (cs.map cW) = (Dt.swell cs).word := b1n (by
 rw [g2l, i1e]
 simp only [Dt.word, Dt.kind, Dt.vals, a1r, a4v, f2l, g2k, i1d, g7y, List.nil_append, List.append_assoc, List.singleton_append, List.cons_append])
end L2
namespace L2
open PySem PySem.Spec PyProof.Rows
section
variable {X : Cx}
noncomputable def j1w : V -> List V -> Hp -> VK -> Prop := fun x vs H Q => match x, vs with
 | .ref l, [.int i] => (match H l with
  | some (.lst xs) => 0 <= i /\ i < (xs.length : Int) /\ All (fun v H1 => xs[i.toNat]? = some v /\ a2p l H H1 /\ H1 l = some (.lst (xs.eraseIdx i.toNat))) Q ⟨⟩ ⟨⟩
  | _ => False)
 | .ref l, [] => (match H l with
  | some (.lst xs) => 0 < xs.length /\ All (fun v H1 => xs[xs.length - 1]? = some v /\ a2p l H H1 /\ H1 l = some (.lst xs.dropLast)) Q ⟨⟩ ⟨⟩
  | _ => False)
 | _, _ => False
theorem i1h : MtR X "list.pop" j1w := by
 intro pins s σ H x vs v us Q I rx rv h
 match x, vs, h with
 | .ref l, [.int i], h =>
  have h' : (match H l with
   | some (.lst xs) => 0 <= i /\ i < (xs.length : Int) /\ All (fun v H1 => xs[i.toNat]? = some v /\ a2p l H H1 /\ H1 l = some (.lst (xs.eraseIdx i.toNat))) Q ⟨⟩ ⟨⟩
   | _ => False) := h
  split at h'
  ·rename_i xs hH
   obtain ⟨i0, i1, q⟩ := h'
   obtain ⟨z, its, n, r, hl, e⟩ := I.i0g hH
   have hs : sizeLine = 16777216 := sizeLine_eq
   have hx : xs[i.toNat]? = some (xs[i.toNat]'(by omega)) := List.getElem?_eq_getElem _
   refine h5n pins s σ H _ _ v us Q I rx rv ⟨l, xs, i, i.toNat, xs[i.toNat]'(by omega), rfl, rfl, hH, by omega, by omega, ?_, hx, q _ _ ⟨hx, a2p.upd, a2w⟩⟩
   unfold seqIndex?
   simp only
   rw [if_neg (show ¬ i < 0 by omega)]
   rw [if_pos (by rw [Bool.and_eq_true, decide_eq_true_eq, decide_eq_true_eq]; omega)]
  ·exact h'.elim
 | .ref l, [], h =>
  have h' : (match H l with
   | some (.lst xs) => 0 < xs.length /\ All (fun v H1 => xs[xs.length - 1]? = some v /\ a2p l H H1 /\ H1 l = some (.lst xs.dropLast)) Q ⟨⟩ ⟨⟩
   | _ => False) := h
  split at h'
  ·rename_i xs hH
   obtain ⟨i0, q⟩ := h'
   have hx : xs[xs.length - 1]? = some (xs[xs.length - 1]'(by omega)) := List.getElem?_eq_getElem _
   exact i5p pins s σ H _ _ v us Q I rx rv ⟨l, xs, _, rfl, rfl, hH, hx, q _ _ ⟨hx, a2p.upd, a2w⟩⟩
  ·exact h'.elim
end
end L2
namespace L2
open PySem PySem.Spec PyProof.Rows PySem.W
theorem f9m {K : PySem.W.Frag} {H : Hp} : ∀ ss : List Str, c6t K H (ss.map V.str) (kqdPs (ss.map Dat.str))
 | [] => .nil
 | n :: ns => .cons (.str n) (f9m ns)
theorem d8y {ns ms : List Str} : ns.map Dat.str = ms.map Dat.str ↔ ns = ms := by
 induction ns generalizing ms with
 | nil => cases ms <;> simp
 | cons n ns ih => cases ms <;> simp [ih]
theorem d7s {ss : List Str} (h : ∀ s ∈ ss, PyData.strOk s = true) : kqdOk 1 (.list (ss.map .str)) = true := by
 show (ss.map Dat.str).all (kqdOk 0) = true
 rw [List.all_eq_true]
 intro d hd
 obtain ⟨s, hs, rfl⟩ := List.mem_map.mp hd
 exact h s hs
theorem d1y {K : PySem.W.Frag} {H : Hp} {p : Addr} {ss : List Str} (h : SqL K H p (ss.map V.str)) : f7u K H (.ref p) (kqdP (.list (ss.map .str))) := by
 rw [kqdP]
 exact .lst h (f9m ss)
theorem d1z {K : PySem.W.Frag} {H : Hp} {p q : Addr} {ns ms : List Str} {Q : VK} (hp : SqL K H p (ns.map V.str)) (hq : SqL K H q (ms.map V.str)) (h1 : ∀ s ∈ ns, PyData.strOk s = true) (h2 : ∀ s ∈ ms, PyData.strOk s = true) (h : Q (.bl (!decide (ns = ms))) H) : i9j K (.ref p) (.ref q) H Q :=
 i6i (d1y hp) (d1y hq) (d7s h1) (d7s h2) (by decide) (by decide) (by rw [decide_eq_true_eq, Dat.list.injEq, d8y]) h
theorem h6n {K : PySem.W.Frag} {H : Hp} {p q : Addr} {ns ms : List Str} {Q : VK} (hp : SqL K H p (ns.map V.str)) (hq : SqL K H q (ms.map V.str)) (h1 : ∀ s ∈ ns, PyData.strOk s = true) (h2 : ∀ s ∈ ms, PyData.strOk s = true) (h : Q (.bl (decide (ns = ms))) H) : i5w K (.ref p) (.ref q) H Q :=
 h8o (d1y hp) (d1y hq) (d7s h1) (d7s h2) (by decide) (by decide) (by rw [decide_eq_true_eq, Dat.list.injEq, d8y]) h
end L2
namespace L2
open PySem PySem.Spec PyProof.Rows
section
variable {X : Cx}
noncomputable def j1x : List V -> Hp -> VK -> Prop := fun xs H Q => match xs with
 | [.ref p] => (match H p with
  | some (.lst ys) => ∃ bs : List Bool, ys = bs.map V.bl /\ Q (.bl (bs.all id)) H
  | _ => False)
 | _ => False
theorem f9n : ∀ {bs : List Bool} {us : List Value}, Vals (bs.map V.bl) us -> us.length = bs.length /\ ∀ (i : Nat) v, us[i]? = some v -> ∃ b, bs[i]? = some b /\ v = .bool b
 | [], _, h => by cases h; exact ⟨rfl, fun i v e => by simp at e⟩
 | b :: bs, _, h => by
  cases h with
  | cons r t =>
   have ih := f9n t
   refine ⟨by simp [ih.1], fun i v e => ?_⟩
   cases i with
   | zero => simp at e; exact ⟨b, rfl, e.symm.trans r⟩
   | succ i => simp at e; exact ih.2 i v e
theorem h1u (hc : X.calm = true) : b7w X (.builtin "all") j1x := by
 intro pins s σ H xs us Q I r h
 match xs, r, h with
 | [.ref p], r, h =>
  have h' : (match H p with
   | some (.lst ys) => ∃ bs : List Bool, ys = bs.map V.bl /\ Q (.bl (bs.all id)) H
   | _ => False) := h
  split at h'
  ·rename_i ys e
   obtain ⟨bs, rfl, q⟩ := h'
   obtain ⟨u, rfl, ru⟩ := vals1 r
   cases (show u = Value.ref p from ru)
   obtain ⟨its, rv, ⟨o, n, e1, c1, d1, dd⟩, _⟩ := I.list (SqL.of e)
   obtain ⟨hbl, hb⟩ := f9n rv
   have hl : s.heap.IsList p its.toArray := ⟨o, e1, c1, n, dd⟩
   have hlt : p < s.heap.objs.size := Heap.lt_size e1
   refine call_all_walk (wpAny_pyIter_list hl ?_)
   refine ⟨s.heap.objs.size, [s.heap.objs.size, p], [s.heap.objs.size], its.toArray.size, _, _, fun i => (bs[i]?).getD true, rfl, Walks.list (A := X.A.in1) (I.ok.hd hc) _ p (Nat.ne_of_lt hlt) its.toArray,
    ⟨⟨_, Heap.get?_push_size _ rfl, rfl, rfl⟩, hl.push _⟩, fun i v s' Q' E' hP hQ => ?_, fun h' tk hk => ?_⟩
   ·obtain ⟨b, e, rfl⟩ := hb i v (by simpa using hP)
    simp only [e, Option.getD_some] at hQ
    exact wpAny_truthy_bool hQ
   ·have e : ((List.range its.toArray.size).all fun i => (bs[i]?).getD true) = bs.all id := by
     rw [List.size_toArray, hbl]; exact LSm.range_all bs
    rw [e]
    exact ⟨.bl _, H, I.kept (LSm.kept_iter hk), rfl, q⟩
  ·exact h'.elim
end
def i1i (J : It) (tc : TT) (te : TE) (D : Addr) (σ : St) (H : Hp) (Q : VK) (_ : Tag Q) : Prop := ∃ (n : Nat) (W : Nat -> List V -> Hp -> Prop), W 0 [] H /\ ∀ i ys H, i <= n -> W i ys H -> H D = some (.lst ys) /\
 ((J.stop i H /\ Q (.ref D) H) \/ (i < n /\ J.go i H /\ ys.length < sizeLine /\ ∀ x H', J.yld i H x H' -> ∃ p u v, x = .ref p /\ H' p = some (.tup [u, v]) /\ tc (some u :: some v :: σ) H' fun b H1 =>
  if b = true then te (some u :: some v :: σ) H1 fun y H2 => H2 D = some (.lst ys) /\ ∀ H3, a2p D H2 H3 -> H3 D = some (.lst (ys ++ [y])) -> W (i + 1) (ys ++ [y]) H3
  else W (i + 1) ys H1))
def j1y (wi : TI) (tc : TT) (te : TE) : TE := fun σ H Q => wi σ H fun J H1 => ∀ D H2, H1 D = none -> Same H1 H2 -> H2 D = some (.lst []) -> i1i J tc te D σ H2 Q ⟨⟩
section
variable {X : Cx} {scope : Scope} {x y : Str} {pins : List (Addr × Obj)} {σ : St} {elt iter cnd : Expr} {px py tpos pos : Pos} {kk : Nat} {wi : TI} {te : TE} {tc : TT}
end
end L2
namespace L2
open PySem PySem.Spec PyProof.Rows
theorem hu1 {n : Nat} (h : n + 64 < cLine) : n + 1 < cLine := by omega
noncomputable def kT (k : Str) : Key := .inr k
def i7o (x y : V) (H : Hp) (Q : VK) : Prop := match x, y with
 | .ref a, .str k => (match H a with
  | some (.dK kvs) => ∃ v, d7o kvs (kT k) = some v /\ Q v H
  | _ => False)
 | _, _ => False
def i7p (neg : Bool) (x y : V) (H : Hp) (Q : VK) : Prop := match x, y with
 | .ref a, .str k => (match H a with
  | some (.dK kvs) => Q (.bl ((d7o kvs (kT k)).isSome != neg)) H
  | _ => False)
 | _, _ => False
theorem h6o {x y : V} {H : Hp} {Q : VK} (h : i7o x y H Q) : ∃ a k kvs v, x = .ref a /\ y = .str k /\ H a = some (.dK kvs) /\ d7o kvs (kT k) = some v /\ Q v H := by
 match x, y, h with
 | .ref a, .str k, h =>
  have h' : (match H a with
   | some (.dK kvs) => ∃ v, d7o kvs (kT k) = some v /\ Q v H
   | _ => False) := h
  split at h'
  ·rename_i kvs e
   obtain ⟨v, e1, q⟩ := h'
   exact ⟨a, k, kvs, v, rfl, rfl, e, e1, q⟩
  ·exact h'.elim
theorem h6p {x y : V} {H : Hp} {Q : VK} {neg : Bool} (h : i7p neg x y H Q) : ∃ a k kvs, x = .ref a /\ y = .str k /\ H a = some (.dK kvs) /\ Q (.bl ((d7o kvs (kT k)).isSome != neg)) H := by
 match x, y, h with
 | .ref a, .str k, h =>
  have h' : (match H a with
   | some (.dK kvs) => Q (.bl ((d7o kvs (kT k)).isSome != neg)) H
   | _ => False) := h
  split at h'
  ·rename_i kvs e
   exact ⟨a, k, kvs, rfl, rfl, e, h'⟩
  ·exact h'.elim
def i7q (td ty : TE) : TE := fun σ H Q => td σ H fun x H1 => ty σ H1 fun y H2 => i7o x y H2 Q
def h6q (ty td : TE) : TE := fun σ H Q => ty σ H fun y H1 => td σ H1 fun x H2 => i7p true x y H2 Q
def i7r (x y v : V) (H : Hp) (Q : Hp -> Prop) : Prop := match x, y with
 | .ref a, .str k => (match H a with
  | some (.dK kvs) => kvs.length < sizeLine /\ ∀ H1, a2p a H H1 -> H1 a = some (.dK (putK kvs (kT k) v)) -> Q H1
  | _ => False)
 | _, _ => False
theorem h6r {x y v : V} {H : Hp} {Q : Hp -> Prop} (h : i7r x y v H Q) : ∃ a k kvs, x = .ref a /\ y = .str k /\ H a = some (.dK kvs) /\ kvs.length < sizeLine /\ ∀ H1, a2p a H H1 -> H1 a = some (.dK (putK kvs (kT k) v)) -> Q H1 := by
 match x, y, h with
 | .ref a, .str k, h =>
  have h' : (match H a with
   | some (.dK kvs) => kvs.length < sizeLine /\ ∀ H1, a2p a H H1 -> H1 a = some (.dK (putK kvs (kT k) v)) -> Q H1
   | _ => False) := h
  split at h'
  ·rename_i kvs e
   exact ⟨a, k, kvs, rfl, rfl, e, h'⟩
  ·exact h'.elim
def i7s (td ty tv : TE) : TS := fun D σ H => tv σ H fun v H1 => td σ H1 fun x H2 => ty σ H2 fun y H3 => i7r x y v H3 (D.nx σ)
def i7t (tk tv : TE) : TE := fun σ H Q => ∀ p H1, H p = none -> Same H H1 -> H1 p = some (.dK []) -> tk σ H1 fun x H2 => tv σ H2 fun y H3 => ∃ k, x = .str k /\ H3 p = some (.dK []) /\ ∀ H4, a2p p H3 H4 -> H4 p = some (.dK [(kT k, y)]) -> Q (.ref p) H4
section
variable {X : Cx} {o i e value : Expr} {pos pos' tpos : Pos} {td ty tv tk : TE}
theorem g6m (hu : X.A.units + 1 < cLine) (ho : PE X o td) (hi : PE X i ty) (hs : j3n i) : PE X (.Subscript o i pos) (i7q td ty) := by
 intro pins s σ H Q I h
 refine i0i PySem.F.slot_dict_getitem.lookup hs (thn (ho pins s σ H _ I h) fun u s1 ⟨x, H1, I1, rx, q1⟩ => thn (hi pins s1 σ H1 _ I1 q1) fun iv s2 ⟨y, H2, I2, ry, q⟩ => ?_)
 obtain ⟨a, k, kvs, v, ex, ey, e, ev, q2⟩ := h6o q
 subst ex ey
 obtain rfl : u = Value.ref a := rx
 have g : h0v H2 a (kV (kT k)) (some v) := ev ▸ h0v.k e
 exact ⟨g1y I2 g, h0w hu I2 g ry fun w' s3 I3 rw' => ⟨v, H2, I3, rw', q2⟩⟩
theorem g7z (hu : X.A.units + 1 < cLine) (hi : PE X i ty) (ho : PE X o td) : PC X .NotIn i o (h6q ty td) := by
 intro pins s σ H Q I h
 refine thn (hi pins s σ H _ I h) fun iv s1 ⟨y, H1, I1, ry, q1⟩ => thn (ho pins s1 σ H1 _ I1 q1) fun u s2 ⟨x, H2, I2, rx, q⟩ => ?_
 obtain ⟨a, k, kvs, ex, ey, e, q2⟩ := h6p q
 subst ex ey
 obtain rfl : u = Value.ref a := rx
 have g : h0v H2 a (kV (kT k)) (d7o kvs (kT k)) := h0v.k e
 rw [Bool.bne_true] at q2
 exact i0h hu I2 g ry fun s3 I3 => ⟨.bl (!(d7o kvs (kT k)).isSome), H2, I3, rfl, q2⟩
theorem i1j {op : CmpOp} {a b : Expr} {t : TE} (h : PC X op a b t) (h1 : behindInMarks op b = false) : PT X (.Compare a [op] [b] pos) (tBF t) := by
 intro pins s σ H Q I h2
 refine (i4l h h1) pins s σ H _ I ?_
 unfold tB
 unfold tBF at h2
 exact cast (congrArg (t σ H) (funext fun x => funext fun H1 => propext ⟨fun z => j0y z, fun ⟨k, e, q⟩ => by subst e; exact q⟩)) h2
theorem h6s (hu : X.A.units + 1 < cLine) (ho : PE X o td) (hi : PE X i ty) (hv : PE X value tv) (hs : swapsWith value (some (.Subscript o i pos')) pos.line X.env = pure false) :
  PS X (.Assign [.Subscript o i pos'] value pos) (i7s td ty tv) := by
 intro pins s σ H D I h
 refine wpAny_Assign_Subscript (thn (hv pins s σ H _ I h) fun r s1 ⟨v, H1, I1, rv, q1⟩ => thn (ho pins s1 σ H1 _ I1 q1) fun u s2 ⟨x, H2, I2, rx, q2⟩ => thn (hi pins s2 σ H2 _ I2 q2) fun iv s3 ⟨y, H3, I3, ry, q⟩ => ?_) hs
 obtain ⟨a, k, kvs, ex, ey, e, hl, q3⟩ := h6r q
 subst ex ey
 obtain rfl : u = Value.ref a := rx
 exact h0x hu I3 (i3w.k (k := kT k) e hl) ry rv fun s4 I4 => ⟨σ, _, I4, q3 _ a2p.upd a2w⟩
theorem h6t (hk : PE X i tk) (hv : PE X value tv) : PE X (.Dict [some i] [value] pos) (i7t tk tv) := by
 intro pins s σ H Q I q
 have hn := I.hok.fresh (Nat.le_refl s.heap.objs.size)
 have I1 := I.laid (a := s.heap.objs.size) (o := .dK []) (h' := s.heap.push { cls := .type "dict", data := .dict #[] }) (t' := s.toks) (fun _ _ q => Heap.get?_push_of_some _ q) (Nat.le_refl _) (h5s s.heap I.big)
 have h : PPs X pos [some i] [value] [(tk, tv)] := h5t hk hv i0j
 refine wpAny_Dict_walk (knd := b0p X.prog X.w) rfl rfl (by simp) (by simp) (thn (h pins _ σ _ (fun ps H3 => match ps with
  | [(x, y)] => ∃ k, x = .str k /\ H3 s.heap.objs.size = some (.dK []) /\ ∀ H4, a2p s.heap.objs.size H3 H4 -> H4 s.heap.objs.size = some (.dK [(kT k, y)]) -> Q (.ref s.heap.objs.size) H4
  | _ => False) I1 (q s.heap.objs.size _ hn (Same.upd hn) a2w)) fun ws s2 ⟨ps, H2, I2, rel, qp⟩ => ?_)
 match ps, rel, qp with
 | [(x, y)], rel, ⟨k, ex, e, q2⟩ =>
  subst ex
  obtain ⟨rs, c, rk⟩ := f3j (P := X.prog) (w := X.w) (kvs := [(kT k, y)]) rel
  obtain ⟨z, hd, vs0, r0, dd⟩ := i5u I2.hok e
  cases r0
  refine ⟨rs, c, dd, fun h' dd' hs => ⟨.ref s.heap.objs.size, _, ?_, rfl, q2 _ a2p.upd a2w⟩⟩
  have hz : (g6c [] [(kT k, y)]).length <= sizeLine := by
   have h1 := d1p [(kT k, y)] []
   rw [List.length_nil, List.length_singleton] at h1
   rw [sizeLine_eq]; omega
  have he : ∃ q, h'.get? s.heap.objs.size = some q := let ⟨q, _, _, hq, _⟩ := dd'; ⟨q, hq⟩
  exact g1x I2 (by rw [e]; exact True.intro) hs he (h8e hz hd (rk.merge .nil) dd')
end
noncomputable def rSlR : V -> Option Int -> Option Int -> Option Int -> Hp -> VK -> Prop := fun x l u t H Q => match x with
 | .ref a => (match H a with
  | some (.lst xs) => l = none /\ u = none /\ t = some (-1) /\ New H (.lst xs.reverse) Q ⟨⟩
  | _ => False)
 | _ => False
def tSl3R (te : TE) (tl th ts : TO) : TE := fun σ H Q => te σ H fun x H1 => tl σ H1 fun l H2 => th σ H2 fun u H3 => ts σ H3 fun st H4 => rSlR x l u st H4 Q
end L2
namespace L2
open PySem PySem.Spec PyProof.Rows PySem.W
mutual
inductive Rp (H : Hp) (N : Addr -> Prop) : V -> Dat -> Prop
 | str (s : Str) : Rp H N (.str s) (.str s)
 | int (n : Int) : Rp H N (.int n) (.int n)
 | lst {p : Addr} {vs : List V} {ds : List Dat} : N p -> H p = some (.lst vs) -> RpL H N vs ds -> Rp H N (.ref p) (.list ds)
 | tup {p : Addr} {vs : List V} {ds : List Dat} : H p = some (.tup vs) -> RpL H N vs ds -> Rp H N (.ref p) (.tuple ds)
inductive RpL (H : Hp) (N : Addr -> Prop) : List V -> List Dat -> Prop
 | nil : RpL H N [] []
 | cons {v : V} {vs : List V} {d : Dat} {ds : List Dat} : Rp H N v d -> RpL H N vs ds -> RpL H N (v :: vs) (d :: ds)
end
theorem i7u {X : Cx} : OpR X (binaryOp .LShift) (rIF i9i fun i j => .int (i * 2 ^ j.toNat)) := i5b.weak g6d
theorem f9o {X : Cx} {K : PySem.W.Frag} {tg l : Expr} {tl : TE} (hK : X.K = K) (hl : PE X l tl) : PI X tg l (h1b K tl) := hK ▸ a1m hl
def b0q (N : Addr -> Prop) (H H' : Hp) : Prop := ∀ z u, (N z -> ∀ ys, u ≠ .lst ys) -> H z = some u -> H' z = some u
section
variable {H H' : Hp} {N M : Addr -> Prop}
mutual
theorem Rp.go (h1 : ∀ z vs, N z -> H z = some (.lst vs) -> H' z = some (.lst vs) /\ M z) (h2 : ∀ z vs, H z = some (.tup vs) -> H' z = some (.tup vs)) : ∀ {v : V} {d : Dat}, Rp H N v d -> Rp H' M v d
 | _, _, .str s => .str s
 | _, _, .int n => .int n
 | _, _, .lst n h r => .lst (h1 _ _ n h).2 (h1 _ _ n h).1 (RpL.go h1 h2 r)
 | _, _, .tup h r => .tup (h2 _ _ h) (RpL.go h1 h2 r)
theorem RpL.go (h1 : ∀ z vs, N z -> H z = some (.lst vs) -> H' z = some (.lst vs) /\ M z) (h2 : ∀ z vs, H z = some (.tup vs) -> H' z = some (.tup vs)) : ∀ {vs : List V} {ds : List Dat}, RpL H N vs ds -> RpL H' M vs ds
 | _, _, .nil => .nil
 | _, _, .cons h r => .cons (Rp.go h1 h2 h) (RpL.go h1 h2 r)
end
mutual
theorem Rp.deep {K : PySem.W.Frag} : ∀ {v : V} {d : Dat}, Rp H N v d -> f7u K H v (kqdP d)
 | _, _, .str s => by rw [kqdP]; exact .str s
 | _, _, .int n => by rw [kqdP]; exact .int n
 | _, _, .lst n h r => by rw [kqdP]; exact .lst (SqL.of h) (RpL.deep r)
 | _, _, .tup h r => by rw [kqdP]; exact .tup (SqT.of h) (RpL.deep r)
theorem RpL.deep {K : PySem.W.Frag} : ∀ {vs : List V} {ds : List Dat}, RpL H N vs ds -> c6t K H vs (kqdPs ds)
 | _, _, .nil => .nil
 | _, _, .cons h r => .cons (Rp.deep h) (RpL.deep r)
end
theorem live {z : Addr} {u : HO} (e : H z = some u) : H z ≠ none := fun q => by rw [q] at e; cases e
theorem RpL.same {vs : List V} {ds : List Dat} (h : RpL H N vs ds) (S : Same H H') : RpL H' N vs ds := h.go (fun _ _ n e => ⟨S _ _ e, n⟩) fun _ _ e => S _ _ e
theorem RpL.mono {vs : List V} {ds : List Dat} (h : RpL H N vs ds) (hm : ∀ z, N z -> H z ≠ none -> M z) : RpL H M vs ds := h.go (fun z _ n e => ⟨e, hm z n (live e)⟩) fun _ _ e => e
theorem RpL.put {D : Addr} {ys : List V} {vs : List V} {ds : List Dat} (h : RpL H N vs ds) (hD : H D = some (.lst ys)) (nD : ¬ N D) (B : a2p D H H') : RpL H' N vs ds :=
 h.go (fun z _ n e => ⟨B _ _ (fun q => nD (by rw [<- q]; exact n)) e, n⟩) fun z _ e => B _ _ (fun q => by rw [q, hD] at e; cases e) e
theorem RpL.over {vs : List V} {ds : List Dat} (h : RpL H N vs ds) (S : b0q M H H') (hd : ∀ z, N z -> H z ≠ none -> ¬ M z) : RpL H' N vs ds :=
 h.go (fun z _ n e => ⟨S _ _ (fun m => absurd m (hd z n (live e))) e, n⟩) fun z _ e => S _ _ (fun _ ys q => by cases q) e
theorem RpL.len : ∀ {vs : List V} {ds : List Dat}, RpL H N vs ds -> vs.length = ds.length
 | _, _, .nil => rfl
 | _, _, .cons _ r => by rw [List.length_cons, List.length_cons, RpL.len r]
theorem RpL.at : ∀ {vs : List V} {ds : List Dat} {i : Nat} {d : Dat}, RpL H N vs ds -> ds[i]? = some d -> ∃ v, vs[i]? = some v /\ Rp H N v d
 | _, _, _, _, .nil, h => by simp at h
 | _, _, 0, _, .cons h r, e => by cases e; exact ⟨_, rfl, h⟩
 | _, _, i + 1, _, .cons h r, e => by
  rw [List.getElem?_cons_succ] at e
  obtain ⟨v, e1, e2⟩ := RpL.at r e
  exact ⟨v, by rw [List.getElem?_cons_succ]; exact e1, e2⟩
theorem RpL.get : ∀ {vs : List V} {ds : List Dat} {i : Nat} {v : V}, RpL H N vs ds -> vs[i]? = some v -> ∃ d, ds[i]? = some d /\ Rp H N v d
 | _, _, _, _, .nil, h => by simp at h
 | _, _, 0, _, .cons h r, e => by cases e; exact ⟨_, rfl, h⟩
 | _, _, i + 1, _, .cons h r, e => by
  rw [List.getElem?_cons_succ] at e
  obtain ⟨v, e1, e2⟩ := RpL.get r e
  exact ⟨v, by rw [List.getElem?_cons_succ]; exact e1, e2⟩
theorem RpL.snoc : ∀ {vs : List V} {ds : List Dat} {v : V} {d : Dat}, RpL H N vs ds -> Rp H N v d -> RpL H N (vs ++ [v]) (ds ++ [d])
 | _, _, _, _, .nil, h => .cons h .nil
 | _, _, _, _, .cons h r, e => .cons h (RpL.snoc r e)
theorem RpL.strs : ∀ ss : List Str, RpL H N (ss.map V.str) (ss.map Dat.str)
 | [] => .nil
 | s :: ss => .cons (.str s) (RpL.strs ss)
theorem RpL.h1v : ∀ {ss : List Str} {vs : List V}, RpL H N vs (ss.map Dat.str) -> vs = ss.map V.str
 | [], _, .nil => rfl
 | s :: ss, _, .cons (.str _) r => by rw [RpL.h1v r]; rfl
theorem Rp.list {v : V} {ds : List Dat} (h : Rp H N v (.list ds)) : ∃ p vs, v = .ref p /\ N p /\ H p = some (.lst vs) /\ RpL H N vs ds := by
 cases h with
 | lst n e r => exact ⟨_, _, rfl, n, e, r⟩
theorem Rp.tuple {v : V} {ds : List Dat} (h : Rp H N v (.tuple ds)) : ∃ p vs, v = .ref p /\ H p = some (.tup vs) /\ RpL H N vs ds := by
 cases h with
 | tup e r => exact ⟨_, _, rfl, e, r⟩
theorem RpL.two {vs : List V} {a b : Dat} (h : RpL H N vs [a, b]) : ∃ x y, vs = [x, y] /\ Rp H N x a /\ Rp H N y b := by
 cases h with
 | cons h1 r => cases r with
  | cons h2 r => cases r; exact ⟨_, _, rfl, h1, h2⟩
theorem RpL.three {vs : List V} {a b c : Dat} (h : RpL H N vs [a, b, c]) : ∃ x y z, vs = [x, y, z] /\ Rp H N x a /\ Rp H N y b /\ Rp H N z c := by
 cases h with
 | cons h1 r =>
  obtain ⟨y, z, rfl, h2, h3⟩ := r.two
  exact ⟨_, y, z, rfl, h1, h2, h3⟩
theorem Rp.strOf {v : V} {s : Str} (h : Rp H N v (.str s)) : v = .str s := by cases h; rfl
theorem Rp.intOf {v : V} {n : Int} (h : Rp H N v (.int n)) : v = .int n := by cases h; rfl
theorem Rp.eq {K : PySem.W.Frag} {x y : V} {d : Dat} {n : Nat} {Q : VK} (hx : Rp H N x d) (hy : Rp H M y d) (k : kqdOk n d = true) (hn : n <= 64) (q : Q (.bl true) H) : i5w K x y H Q := h8o (c := true) hx.deep hy.deep k k hn hn ⟨fun _ => rfl, fun _ => rfl⟩ q
theorem b0q.of (S : Same H H') : b0q N H H' := fun z u _ e => S _ _ e
theorem b0q.trans {H2 : Hp} (S : b0q N H H') (S2 : b0q N H' H2) : b0q N H H2 := fun z u n e => S2 _ _ n (S _ _ n e)
theorem b0q.one {D : Addr} {ys : List V} (hD : H D = some (.lst ys)) (n : N D) (B : a2p D H H') : b0q N H H' := fun z u h e => B _ _ (fun q => by
 rw [q] at h e
 rw [hD] at e
 cases e
 exact h n _ rfl) e
end
noncomputable abbrev Sd := Str × Str × List Str
structure Pd where
 ts : List Str
 bs : List Str
 es : List Sd
 os : List (Str × Int)
noncomputable def prs (es : List Sd) : List (Str × Str) := es.map fun e => (e.1, e.2.1)
noncomputable def g2m (ss : List Str) : Dat := .list (ss.map .str)
noncomputable def dSd (e : Sd) : Dat := .tuple [.str e.1, .str e.2.1, g2m e.2.2]
noncomputable def dOu (x : Str × Int) : Dat := .tuple [.str x.1, .int x.2]
noncomputable def dPd (p : Pd) : Dat := .list [g2m p.ts, g2m p.bs, .list (p.es.map dSd), .list (p.os.map dOu)]
noncomputable def Nw (N : Addr -> Prop) (t b sd ou : Addr) : Addr -> Prop := fun a => N a /\ a ≠ t /\ a ≠ b /\ a ≠ sd /\ a ≠ ou
structure Fl (H : Hp) (N : Addr -> Prop) (t b sd ou : Addr) (p : Pd) : Prop where
 n : N t /\ N b /\ N sd /\ N ou
 d : t ≠ b /\ t ≠ sd /\ t ≠ ou /\ b ≠ sd /\ b ≠ ou /\ sd ≠ ou
 ht : H t = some (.lst (p.ts.map V.str))
 hb : H b = some (.lst (p.bs.map V.str))
 hs : ∃ us, H sd = some (.lst us) /\ RpL H (Nw N t b sd ou) us (p.es.map dSd)
 ho : ∃ us, H ou = some (.lst us) /\ RpL H (Nw N t b sd ou) us (p.os.map dOu)
section
variable {H H' : Hp} {N M : Addr -> Prop} {t b sd ou : Addr} {p : Pd}
theorem Fl.over (h : Fl H N t b sd ou p) (S : b0q M H H') (hd : ∀ z, N z -> H z ≠ none -> ¬ M z) : Fl H' N t b sd ou p := by
 obtain ⟨n, d, ht, hb, ⟨us, hs, R1⟩, vs, ho, R2⟩ := h
 have k : ∀ {z : Addr} {ys : List V}, N z -> H z = some (.lst ys) -> H' z = some (.lst ys) := fun n e => S _ _ (fun m => absurd m (hd _ n (live e))) e
 exact ⟨n, d, k n.1 ht, k n.2.1 hb, ⟨us, k n.2.2.1 hs, R1.over S fun z hz => hd z hz.1⟩, vs, k n.2.2.2 ho, R2.over S fun z hz => hd z hz.1⟩
theorem Fl.same (h : Fl H N t b sd ou p) (S : Same H H') : Fl H' N t b sd ou p := h.over (M := fun _ => False) (b0q.of S) fun _ _ _ h => h
theorem Fl.mono (h : Fl H N t b sd ou p) (hm : ∀ z, N z -> H z ≠ none -> M z) : Fl H M t b sd ou p := by
 obtain ⟨n, d, ht, hb, ⟨us, hs, R1⟩, vs, ho, R2⟩ := h
 have k : ∀ {z : Addr} {ys : List V}, N z -> H z = some (.lst ys) -> M z := fun n e => hm _ n (live e)
 exact ⟨⟨k n.1 ht, k n.2.1 hb, k n.2.2.1 hs, k n.2.2.2 ho⟩, d, ht, hb, ⟨us, hs, R1.mono fun z hz e => ⟨hm z hz.1 e, hz.2⟩⟩, vs, ho, R2.mono fun z hz e => ⟨hm z hz.1 e, hz.2⟩⟩
theorem Fl.addT {x : Str} (h : Fl H N t b sd ou p) (h' : H' t = some (.lst (p.ts.map V.str ++ [.str x]))) (B : a2p t H H') : Fl H' N t b sd ou ⟨p.ts ++ [x], p.bs, p.es, p.os⟩ := by
 obtain ⟨n, d, ht, hb, ⟨us, hs, R1⟩, vs, ho, R2⟩ := h
 exact ⟨n, d, by rw [h', List.map_append]; rfl, B _ _ d.1.symm hb, ⟨us, B _ _ d.2.1.symm hs, R1.put ht (fun z => z.2.1 rfl) B⟩, vs, B _ _ d.2.2.1.symm ho, R2.put ht (fun z => z.2.1 rfl) B⟩
theorem Fl.addB {x : Str} (h : Fl H N t b sd ou p) (h' : H' b = some (.lst (p.bs.map V.str ++ [.str x]))) (B : a2p b H H') : Fl H' N t b sd ou ⟨p.ts, p.bs ++ [x], p.es, p.os⟩ := by
 obtain ⟨n, d, ht, hb, ⟨us, hs, R1⟩, vs, ho, R2⟩ := h
 exact ⟨n, d, B _ _ d.1 ht, by rw [h', List.map_append]; rfl, ⟨us, B _ _ d.2.2.2.1.symm hs, R1.put hb (fun z => z.2.2.1 rfl) B⟩, vs, B _ _ d.2.2.2.2.1.symm ho, R2.put hb (fun z => z.2.2.1 rfl) B⟩
theorem Fl.addS {e : Sd} {us : List V} {v : V} (h : Fl H N t b sd ou p) (hsd : H sd = some (.lst us)) (r : Rp H (Nw N t b sd ou) v (dSd e)) (h' : H' sd = some (.lst (us ++ [v]))) (B : a2p sd H H') : Fl H' N t b sd ou ⟨p.ts, p.bs, p.es ++ [e], p.os⟩ := by
 obtain ⟨n, d, ht, hb, ⟨us', hs, R1⟩, vs, ho, R2⟩ := h
 rw [hsd] at hs
 cases hs
 refine ⟨n, d, B _ _ d.2.1 ht, B _ _ d.2.2.2.1 hb, ⟨_, h', ?_⟩, vs, B _ _ d.2.2.2.2.2.symm ho, R2.put hsd (fun z => z.2.2.2.1 rfl) B⟩
 rw [List.map_append]
 exact (R1.snoc r).put hsd (fun z => z.2.2.2.1 rfl) B
theorem Fl.addO {x : Str × Int} {us : List V} {v : V} (h : Fl H N t b sd ou p) (hou : H ou = some (.lst us)) (r : Rp H (Nw N t b sd ou) v (dOu x)) (h' : H' ou = some (.lst (us ++ [v]))) (B : a2p ou H H') : Fl H' N t b sd ou ⟨p.ts, p.bs, p.es, p.os ++ [x]⟩ := by
 obtain ⟨n, d, ht, hb, ⟨vs, hs, R1⟩, us', ho, R2⟩ := h
 rw [hou] at ho
 cases ho
 refine ⟨n, d, B _ _ d.2.2.1 ht, B _ _ d.2.2.2.2.1 hb, ⟨vs, B _ _ d.2.2.2.2.2 hs, R1.put hou (fun z => z.2.2.2.2 rfl) B⟩, _, h', ?_⟩
 rw [List.map_append]
 exact (R2.snoc r).put hou (fun z => z.2.2.2.2 rfl) B
end
section
variable {H H' : Hp} {N M : Addr -> Prop} {L : Addr} {p : Pd}
end
theorem RpL.at3 {H : Hp} {N : Addr -> Prop} {us : List V} {es : List Sd} {i : Nat} {v : V} (h : RpL H N us (es.map dSd)) (hv : us[i]? = some v) : ∃ e p lw, es[i]? = some e /\ v = .ref p /\ H p = some (.tup [.str e.1, .str e.2.1, .ref lw]) /\ N lw /\ H lw = some (.lst (e.2.2.map V.str)) := by
 obtain ⟨d, hd, r⟩ := h.get hv
 rw [List.getElem?_map] at hd
 obtain ⟨e, he, rfl⟩ := Option.map_eq_some_iff.mp hd
 obtain ⟨p, vs, rfl, hp, r2⟩ := r.tuple
 obtain ⟨x, y, z, rfl, h1, h2, h3⟩ := r2.three
 cases h1.strOf
 cases h2.strOf
 obtain ⟨lw, ws, rfl, n, hw, r3⟩ := h3.list
 cases r3.h1v
 exact ⟨e, p, lw, he, rfl, hp, n, hw⟩
theorem RpL.at2 {H : Hp} {N : Addr -> Prop} {us : List V} {os : List (Str × Int)} {i : Nat} {v : V} (h : RpL H N us (os.map dOu)) (hv : us[i]? = some v) : ∃ x p, os[i]? = some x /\ v = .ref p /\ H p = some (.tup [.str x.1, .int x.2]) := by
 obtain ⟨d, hd, r⟩ := h.get hv
 rw [List.getElem?_map] at hd
 obtain ⟨e, he, rfl⟩ := Option.map_eq_some_iff.mp hd
 obtain ⟨p, vs, rfl, hp, r2⟩ := r.tuple
 obtain ⟨x, y, rfl, h1, h2⟩ := r2.two
 cases h1.strOf
 cases h2.intOf
 exact ⟨e, p, he, rfl, hp⟩
theorem RpL.f9p {H : Hp} {N : Addr -> Prop} {us : List V} {α : Type} {es : List α} {f : α -> Dat} (h : RpL H N us (es.map f)) : us.length = es.length := by rw [h.len, List.length_map]
theorem g2n {H : Hp} {N M : Addr -> Prop} : ∀ {os : List (Str × Int)} {us : List V}, RpL H N us (os.map dOu) -> RpL H M us (os.map dOu)
 | [], _, .nil => .nil
 | x :: os, _, .cons h r => by
  refine .cons ?_ (g2n r)
  obtain ⟨p, vs, rfl, hp, r2⟩ := h.tuple
  obtain ⟨a, b, rfl, h1, h2⟩ := r2.two
  cases h1.strOf
  cases h2.intOf
  exact .tup hp (.cons (.str _) (.cons (.int _) .nil))
structure i9n (p : Pd) : Prop where
 t : ∀ s ∈ p.ts, PyData.strOk s = true
 b : ∀ s ∈ p.bs, PyData.strOk s = true
 s : ∀ e ∈ p.es, PyData.strOk e.1 = true /\ PyData.strOk e.2.1 = true /\ ∀ x ∈ e.2.2, PyData.strOk x = true
 o : ∀ x ∈ p.os, PyData.strOk x.1 = true
theorem f5o {n : Nat} {ss : List Str} (h : ∀ s ∈ ss, PyData.strOk s = true) : kqdOk (n + 1) (g2m ss) = true := by
 show (ss.map Dat.str).all (kqdOk n) = true
 rw [List.all_eq_true]
 intro d hd
 obtain ⟨s, hs, rfl⟩ := List.mem_map.mp hd
 cases n <;> exact h s hs
theorem i7v {n : Nat} {es : List Sd} (h : ∀ e ∈ es, PyData.strOk e.1 = true /\ PyData.strOk e.2.1 = true /\ ∀ x ∈ e.2.2, PyData.strOk x = true) : kqdOk (n + 3) (.list (es.map dSd)) = true := by
 show (es.map dSd).all (kqdOk (n + 2)) = true
 rw [List.all_eq_true]
 intro d hd
 obtain ⟨e, he, rfl⟩ := List.mem_map.mp hd
 show (PyData.strOk e.1 && (PyData.strOk e.2.1 && (kqdOk (n + 1) (g2m e.2.2) && true))) = true
 rw [(h e he).1, (h e he).2.1, f5o (h e he).2.2]
 rfl
theorem i7w {n : Nat} {os : List (Str × Int)} (h : ∀ x ∈ os, PyData.strOk x.1 = true) : kqdOk (n + 3) (.list (os.map dOu)) = true := by
 show (os.map dOu).all (kqdOk (n + 2)) = true
 rw [List.all_eq_true]
 intro d hd
 obtain ⟨e, he, rfl⟩ := List.mem_map.mp hd
 show (PyData.strOk e.1 && (true && true)) = true
 rw [h e he]
 rfl
theorem i9n.k {p : Pd} (h : i9n p) : kqdOk 4 (dPd p) = true := by
 show (kqdOk 3 (g2m p.ts) && (kqdOk 3 (g2m p.bs) && (kqdOk 3 (.list (p.es.map dSd)) && (kqdOk 3 (.list (p.os.map dOu)) && true)))) = true
 rw [f5o h.t, f5o h.b, i7v h.s, i7w h.o]
 rfl
end L2
set_option maxHeartbeats 4000000
namespace My
open PySem PySem.Spec PyProof.Rows L2
open PySem.Builtin.Int (intBits)
theorem i9o {P : Int -> Prop} {vs : List V} (h : match vs with | [.int x0] => P x0 | _ => False) : ∃ x0, vs = [.int x0] /\ P x0 := by
 match vs, h with
 | [.int x0], h => exact ⟨x0, rfl, h⟩
theorem f2m {P : Int -> Int -> Prop} {vs : List V} (h : match vs with | [.int x0, .int x1] => P x0 x1 | _ => False) : ∃ x0 x1, vs = [.int x0, .int x1] /\ P x0 x1 := by
 match vs, h with
 | [.int x0, .int x1], h => exact ⟨x0, x1, rfl, h⟩
theorem b0l {P : Addr -> Prop} {vs : List V} (h : match vs with | [.ref x0] => P x0 | _ => False) : ∃ x0, vs = [.ref x0] /\ P x0 := by
 match vs, h with
 | [.ref x0], h => exact ⟨x0, rfl, h⟩
theorem d7j {P : Addr -> Int -> Prop} {vs : List V} (h : match vs with | [.ref x0, .int x1] => P x0 x1 | _ => False) : ∃ x0 x1, vs = [.ref x0, .int x1] /\ P x0 x1 := by
 match vs, h with
 | [.ref x0, .int x1], h => exact ⟨x0, x1, rfl, h⟩
theorem d7k {P : Addr -> Addr -> Prop} {vs : List V} (h : match vs with | [.ref x0, .ref x1] => P x0 x1 | _ => False) : ∃ x0 x1, vs = [.ref x0, .ref x1] /\ P x0 x1 := by
 match vs, h with
 | [.ref x0, .ref x1], h => exact ⟨x0, x1, rfl, h⟩
theorem g6n {P : Addr -> Addr -> Int -> Prop} {vs : List V} (h : match vs with | [.ref x0, .ref x1, .int x2] => P x0 x1 x2 | _ => False) : ∃ x0 x1 x2, vs = [.ref x0, .ref x1, .int x2] /\ P x0 x1 x2 := by
 match vs, h with
 | [.ref x0, .ref x1, .int x2], h => exact ⟨x0, x1, x2, rfl, h⟩
theorem h1w {P : Addr -> Addr -> Int -> Int -> Prop} {vs : List V} (h : match vs with | [.ref x0, .ref x1, .int x2, .int x3] => P x0 x1 x2 x3 | _ => False) : ∃ x0 x1 x2 x3, vs = [.ref x0, .ref x1, .int x2, .int x3] /\ P x0 x1 x2 x3 := by
 match vs, h with
 | [.ref x0, .ref x1, .int x2, .int x3], h => exact ⟨x0, x1, x2, x3, rfl, h⟩
theorem d3r {P : Addr -> Addr -> Addr -> Addr -> Prop} {vs : List V} (h : match vs with | [.ref x0, .ref x1, .ref x2, .ref x3] => P x0 x1 x2 x3 | _ => False) : ∃ x0 x1 x2 x3, vs = [.ref x0, .ref x1, .ref x2, .ref x3] /\ P x0 x1 x2 x3 := by
 match vs, h with
 | [.ref x0, .ref x1, .ref x2, .ref x3], h => exact ⟨x0, x1, x2, x3, rfl, h⟩
theorem g6o {P : Addr -> Addr -> Addr -> Addr -> Addr -> Prop} {vs : List V} (h : match vs with | [.ref x0, .ref x1, .ref x2, .ref x3, .ref x4] => P x0 x1 x2 x3 x4 | _ => False) : ∃ x0 x1 x2 x3 x4, vs = [.ref x0, .ref x1, .ref x2, .ref x3, .ref x4] /\ P x0 x1 x2 x3 x4 := by
 match vs, h with
 | [.ref x0, .ref x1, .ref x2, .ref x3, .ref x4], h => exact ⟨x0, x1, x2, x3, x4, rfl, h⟩
theorem f9q {P : Addr -> Str -> Prop} {vs : List V} (h : match vs with | [.ref x0, .str x1] => P x0 x1 | _ => False) : ∃ x0 x1, vs = [.ref x0, .str x1] /\ P x0 x1 := by
 match vs, h with
 | [.ref x0, .str x1], h => exact ⟨x0, x1, rfl, h⟩
theorem h9b {P : Addr -> Str -> Int -> Prop} {vs : List V} (h : match vs with | [.ref x0, .str x1, .int x2] => P x0 x1 x2 | _ => False) : ∃ x0 x1 x2, vs = [.ref x0, .str x1, .int x2] /\ P x0 x1 x2 := by
 match vs, h with
 | [.ref x0, .str x1, .int x2], h => exact ⟨x0, x1, x2, rfl, h⟩
theorem h9c {P : Addr -> Str -> Addr -> Prop} {vs : List V} (h : match vs with | [.ref x0, .str x1, .ref x2] => P x0 x1 x2 | _ => False) : ∃ x0 x1 x2, vs = [.ref x0, .str x1, .ref x2] /\ P x0 x1 x2 := by
 match vs, h with
 | [.ref x0, .str x1, .ref x2], h => exact ⟨x0, x1, x2, rfl, h⟩
theorem h9d {P : Addr -> Str -> Str -> Prop} {vs : List V} (h : match vs with | [.ref x0, .str x1, .str x2] => P x0 x1 x2 | _ => False) : ∃ x0 x1 x2, vs = [.ref x0, .str x1, .str x2] /\ P x0 x1 x2 := by
 match vs, h with
 | [.ref x0, .str x1, .str x2], h => exact ⟨x0, x1, x2, rfl, h⟩
theorem h1x {P : Addr -> Str -> Str -> Addr -> Prop} {vs : List V} (h : match vs with | [.ref x0, .str x1, .str x2, .ref x3] => P x0 x1 x2 x3 | _ => False) : ∃ x0 x1 x2 x3, vs = [.ref x0, .str x1, .str x2, .ref x3] /\ P x0 x1 x2 x3 := by
 match vs, h with
 | [.ref x0, .str x1, .str x2, .ref x3], h => exact ⟨x0, x1, x2, x3, rfl, h⟩
theorem f7v {P : Str -> Prop} {vs : List V} (h : match vs with | [.str x0] => P x0 | _ => False) : ∃ x0, vs = [.str x0] /\ P x0 := by
 match vs, h with
 | [.str x0], h => exact ⟨x0, rfl, h⟩
theorem h9e {P : Str -> Int -> Int -> Prop} {vs : List V} (h : match vs with | [.str x0, .int x1, .int x2] => P x0 x1 x2 | _ => False) : ∃ x0 x1 x2, vs = [.str x0, .int x1, .int x2] /\ P x0 x1 x2 := by
 match vs, h with
 | [.str x0, .int x1, .int x2], h => exact ⟨x0, x1, x2, rfl, h⟩
noncomputable def top (i : Nat) : Stmt := PySem.Challenge.pw_mixbench_k81_texts_of_patches.main.body.getD i (.Pass ⟨0, 0, 0, 0⟩)
noncomputable abbrev f3q : Stmt := (top 14)
noncomputable abbrev d5z : Stmt := (top 15)
noncomputable abbrev f3r : Stmt := (top 16)
noncomputable abbrev f9r : Stmt := (top 19)
noncomputable abbrev f3s : Stmt := (top 20)
noncomputable abbrev f3t : Stmt := (top 21)
noncomputable abbrev h9f : Stmt := (top 22)
noncomputable abbrev h1y : Stmt := (top 23)
noncomputable abbrev f9s : Stmt := (top 24)
noncomputable abbrev f3u : Stmt := (top 25)
noncomputable abbrev c6u : Stmt := (top 26)
noncomputable abbrev c6v : Stmt := (top 27)
noncomputable abbrev d6g : Stmt := (inClass (top 29) 1)
noncomputable abbrev d8z : Stmt := (inClass (top 30) 0)
noncomputable abbrev d9g : Stmt := (inClass (top 30) 4)
noncomputable abbrev d6h : Stmt := (inClass (top 31) 0)
noncomputable abbrev d6i : Stmt := (inClass (top 31) 3)
noncomputable abbrev d9h : Stmt := (top 33)
noncomputable abbrev c9v : Stmt := (inClass (top 34) 0)
noncomputable abbrev d9i : Stmt := (inClass (top 34) 5)
noncomputable abbrev d9j : Stmt := (inClass (top 35) 0)
noncomputable abbrev d9k : Stmt := (inClass (top 35) 5)
noncomputable abbrev d9l : Stmt := (inClass (top 36) 0)
noncomputable abbrev d9m : Stmt := (inClass (top 36) 4)
noncomputable abbrev c6w : Stmt := (top 38)
noncomputable abbrev d9n : Stmt := (top 40)
noncomputable abbrev h9g : Stmt := (top 41)
noncomputable abbrev d2g : Stmt := (top 42)
noncomputable abbrev b7k : Stmt := (inClass (top 43) 0)
noncomputable abbrev d2h : Stmt := (inClass (top 43) 2)
noncomputable abbrev c6y : Stmt := (inClass (top 43) 8)
noncomputable abbrev d9o : Stmt := (top 50)
noncomputable abbrev d2i : Stmt := (top 51)
noncomputable abbrev d9p : Stmt := (top 52)
noncomputable abbrev d2j : Stmt := (top 53)
noncomputable abbrev f9t : Stmt := (top 54)
noncomputable abbrev f3v : Stmt := (top 55)
noncomputable abbrev f9u : Stmt := (top 56)
noncomputable abbrev f9v : Stmt := (top 57)
noncomputable abbrev f9w : Stmt := (top 58)
noncomputable abbrev d2k : Stmt := (top 59)
noncomputable abbrev d3s : Stmt := (top 60)
noncomputable abbrev f9y : Stmt := (top 62)
noncomputable abbrev d3t : Stmt := (top 65)
noncomputable abbrev c6z : Stmt := (inClass (top 66) 0)
noncomputable abbrev c3z : Stmt := (inClass (top 66) 5)
noncomputable abbrev c9k : Stmt := (inClass (top 69) 0)
noncomputable abbrev d9q : Stmt := (top 73)
noncomputable abbrev d6j : Stmt := (inClass (top 74) 0)
noncomputable abbrev c2y : Stmt := (inClass (top 74) 1)
noncomputable abbrev d2l : Stmt := (inClass (top 74) 2)
noncomputable abbrev d9r : Stmt := (inClass (top 74) 3)
noncomputable abbrev d6k : Stmt := (inClass (top 74) 4)
noncomputable abbrev d9s : Stmt := (inClass (top 74) 5)
noncomputable abbrev c9w : Stmt := (inClass (top 74) 6)
noncomputable abbrev c9l : Stmt := (inClass (top 74) 7)
noncomputable abbrev d2m : Stmt := (inClass (top 74) 8)
noncomputable abbrev c4g : Stmt := (inClass (top 74) 9)
noncomputable abbrev d6l : Stmt := (inClass (top 74) 10)
noncomputable abbrev c4h : Stmt := (inClass (top 74) 11)
noncomputable abbrev c7g : Stmt := (inClass (top 74) 12)
noncomputable abbrev d9t : Stmt := (top 76)
noncomputable abbrev f3w : Stmt := (top 77)
noncomputable abbrev c2z : Stmt := (top 78)
noncomputable abbrev d9u : Stmt := (top 79)
noncomputable abbrev f3y : Stmt := (top 80)
noncomputable abbrev d2n : Stmt := (top 82)
noncomputable abbrev f3z : Stmt := (top 83)
noncomputable abbrev c4i : Stmt := (top 84)
noncomputable abbrev d9v : Stmt := (top 85)
noncomputable abbrev c4j : Stmt := (top 86)
noncomputable abbrev d9w : Stmt := (top 87)
noncomputable abbrev b9u : Stmt := (top 88)
noncomputable abbrev a4n : Stmt := (top 89)
noncomputable abbrev f4g : Stmt := (top 90)
noncomputable abbrev h6u : Stmt := (top 91)
theorem g2o : a0s ["value"] ["value"] (a0p f3q) := ⟨rfl, rfl, rfl, by decide +kernel, rfl, by decide +kernel, by decide +kernel⟩
theorem d2o : a0s ["text", "sign"] ["text"] (a0p d5z) := ⟨rfl, rfl, rfl, by decide +kernel, rfl, by decide +kernel, by decide +kernel⟩
theorem g2p : a0s ["text"] ["text"] (a0p f3r) := ⟨rfl, rfl, rfl, by decide +kernel, rfl, by decide +kernel, by decide +kernel⟩
theorem b8y : a0s ["one", "other", "left", "right", "rest"] ["one", "other"] (a0p f9r) := ⟨rfl, rfl, rfl, by decide +kernel, rfl, by decide +kernel, by decide +kernel⟩
theorem g2q : a0s ["one", "other"] ["one", "other"] (a0p f3s) := ⟨rfl, rfl, rfl, by decide +kernel, rfl, by decide +kernel, by decide +kernel⟩
theorem c9y : a0s ["top", "bottom", "by"] ["top", "bottom"] (a0p f3t) := ⟨rfl, rfl, rfl, by decide +kernel, rfl, by decide +kernel, by decide +kernel⟩
theorem i1k : a0s ["one", "other"] ["one", "other"] (a0p h9f) := ⟨rfl, rfl, rfl, by decide +kernel, rfl, by decide +kernel, by decide +kernel⟩
theorem h6v : a0s ["one", "other"] ["one", "other"] (a0p h1y) := ⟨rfl, rfl, rfl, by decide +kernel, rfl, by decide +kernel, by decide +kernel⟩
theorem g8a : a0s ["one"] ["one"] (a0p f9s) := ⟨rfl, rfl, rfl, by decide +kernel, rfl, by decide +kernel, by decide +kernel⟩
theorem g2r : a0s ["one", "other"] ["one", "other"] (a0p f3u) := ⟨rfl, rfl, rfl, by decide +kernel, rfl, by decide +kernel, by decide +kernel⟩
theorem a4z : a0s ["one", "top", "bottom"] ["one"] (a0p c6u) := ⟨rfl, rfl, rfl, by decide +kernel, rfl, by decide +kernel, by decide +kernel⟩
theorem a6t : a0s ["text", "halves", "top", "number", "one"] ["text"] (a0p c6v) := ⟨rfl, rfl, rfl, by decide +kernel, rfl, by decide +kernel, by decide +kernel⟩
theorem f5p : a0s ["self"] ["self"] (a0p d6g) := ⟨rfl, rfl, rfl, by decide +kernel, rfl, by decide +kernel, by decide +kernel⟩
theorem f9z : a0s ["self", "gain"] ["self", "gain"] (a0p d8z) := ⟨rfl, rfl, rfl, by decide +kernel, rfl, by decide +kernel, by decide +kernel⟩
theorem d6m : a0s ["self", "gain"] ["self"] (a0p d9g) := ⟨rfl, rfl, rfl, by decide +kernel, rfl, by decide +kernel, by decide +kernel⟩
theorem f5q : a0s ["self", "many"] ["self", "many"] (a0p d6h) := ⟨rfl, rfl, rfl, by decide +kernel, rfl, by decide +kernel, by decide +kernel⟩
theorem d2p : a0s ["self", "many"] ["self"] (a0p d6i) := ⟨rfl, rfl, rfl, by decide +kernel, rfl, by decide +kernel, by decide +kernel⟩
theorem c7h : a0s ["number", "most", "powers", "turn"] ["number", "most"] (a0p d9h) := ⟨rfl, rfl, rfl, by decide +kernel, rfl, by decide +kernel, by decide +kernel⟩
theorem c7i : a0s ["self", "gain", "many", "turns", "tops", "bottoms"] ["self", "gain", "many", "turns"] (a0p c9v) := ⟨rfl, rfl, rfl, by decide +kernel, rfl, by decide +kernel, by decide +kernel⟩
theorem c1n : a0s ["self", "gain", "many", "turns"] ["self"] (a0p d9i) := ⟨rfl, rfl, rfl, by decide +kernel, rfl, by decide +kernel, by decide +kernel⟩
theorem g0a : a0s ["self", "gain", "many"] ["self", "gain", "many"] (a0p d9j) := ⟨rfl, rfl, rfl, by decide +kernel, rfl, by decide +kernel, by decide +kernel⟩
theorem c7j : a0s ["self", "gain", "many"] ["self"] (a0p d9k) := ⟨rfl, rfl, rfl, by decide +kernel, rfl, by decide +kernel, by decide +kernel⟩
theorem g0b : a0s ["self", "gain", "many"] ["self", "gain", "many"] (a0p d9l) := ⟨rfl, rfl, rfl, by decide +kernel, rfl, by decide +kernel, by decide +kernel⟩
theorem c7k : a0s ["self", "gain", "many"] ["self"] (a0p d9m) := ⟨rfl, rfl, rfl, by decide +kernel, rfl, by decide +kernel, by decide +kernel⟩
theorem b0m : a0s ["bottoms", "shared", "bottom"] ["bottoms"] (a0p c6w) := ⟨rfl, rfl, rfl, by decide +kernel, rfl, by decide +kernel, by decide +kernel⟩
theorem b7l : a0s ["corners", "slopes", "left", "right", "rise"] ["corners"] (a0p d9n) := ⟨rfl, rfl, rfl, by decide +kernel, rfl, by decide +kernel, by decide +kernel⟩
theorem i1l : a0s ["one", "bottom"] ["one", "bottom"] (a0p h9g) := ⟨rfl, rfl, rfl, by decide +kernel, rfl, by decide +kernel, by decide +kernel⟩
theorem c2l : a0s ["corner", "at", "gain"] ["corner"] (a0p d2g) := ⟨rfl, rfl, rfl, by decide +kernel, rfl, by decide +kernel, by decide +kernel⟩
theorem d2q : a0s ["self", "corners", "slopes"] ["self", "corners"] (a0p b7k) := ⟨rfl, rfl, rfl, by decide +kernel, rfl, by decide +kernel, by decide +kernel⟩
theorem f2n : a0s ["self"] ["self"] (a0p d2h) := ⟨rfl, rfl, rfl, by decide +kernel, rfl, by decide +kernel, by decide +kernel⟩
theorem d2r : a0s ["self", "corners"] ["self"] (a0p c6y) := ⟨rfl, rfl, rfl, by decide +kernel, rfl, by decide +kernel, by decide +kernel⟩
theorem d6n : a0s ["text", "gain"] ["text"] (a0p d9o) := ⟨rfl, rfl, rfl, by decide +kernel, rfl, by decide +kernel, by decide +kernel⟩
theorem c9m : a0s ["text", "least", "most", "number"] ["text", "least", "most"] (a0p d2i) := ⟨rfl, rfl, rfl, by decide +kernel, rfl, by decide +kernel, by decide +kernel⟩
theorem g0c : a0s ["text"] ["text"] (a0p d9p) := ⟨rfl, rfl, rfl, by decide +kernel, rfl, by decide +kernel, by decide +kernel⟩
theorem f2o : a0s ["values", "count"] ["values", "count"] (a0p d2j) := ⟨rfl, rfl, rfl, by decide +kernel, rfl, by decide +kernel, by decide +kernel⟩
theorem g8b : a0s ["values"] ["values"] (a0p f9t) := ⟨rfl, rfl, rfl, by decide +kernel, rfl, by decide +kernel, by decide +kernel⟩
theorem g2s : a0s ["values"] ["values"] (a0p f3v) := ⟨rfl, rfl, rfl, by decide +kernel, rfl, by decide +kernel, by decide +kernel⟩
theorem g8c : a0s ["values"] ["values"] (a0p f9u) := ⟨rfl, rfl, rfl, by decide +kernel, rfl, by decide +kernel, by decide +kernel⟩
theorem g8d : a0s ["values"] ["values"] (a0p f9v) := ⟨rfl, rfl, rfl, by decide +kernel, rfl, by decide +kernel, by decide +kernel⟩
theorem f4h : a0s ["values", "gain"] ["values"] (a0p f9w) := ⟨rfl, rfl, rfl, by decide +kernel, rfl, by decide +kernel, by decide +kernel⟩
theorem c9n : a0s ["text", "halves"] ["text"] (a0p d2k) := ⟨rfl, rfl, rfl, by decide +kernel, rfl, by decide +kernel, by decide +kernel⟩
theorem c4k : a0s ["values", "corners", "left", "right"] ["values"] (a0p d3s) := ⟨rfl, rfl, rfl, by decide +kernel, rfl, by decide +kernel, by decide +kernel⟩
theorem f4i : a0s ["word", "values"] ["word"] (a0p f9y) := ⟨rfl, rfl, rfl, by decide +kernel, rfl, by decide +kernel, by decide +kernel⟩
theorem g2t : a0s ["words"] ["words"] (a0p d3t) := ⟨rfl, rfl, rfl, by decide +kernel, rfl, by decide +kernel, by decide +kernel⟩
theorem f5r : a0s ["self", "words"] ["self", "words"] (a0p c6z) := ⟨rfl, rfl, rfl, by decide +kernel, rfl, by decide +kernel, by decide +kernel⟩
theorem f2p : a0s ["self"] ["self"] (a0p c3z) := ⟨rfl, rfl, rfl, by decide +kernel, rfl, by decide +kernel, by decide +kernel⟩
theorem d9y : a0s ["self", "greatest"] ["self", "greatest"] (a0p c9k) := ⟨rfl, rfl, rfl, by decide +kernel, rfl, by decide +kernel, by decide +kernel⟩
theorem g8e : a0s ["value"] ["value"] (a0p d9q) := ⟨rfl, rfl, rfl, by decide +kernel, rfl, by decide +kernel, by decide +kernel⟩
theorem f5s : a0s ["self"] ["self"] (a0p d6j) := ⟨rfl, rfl, rfl, by decide +kernel, rfl, by decide +kernel, by decide +kernel⟩
theorem d2s : a0s ["self", "name"] ["self", "name"] (a0p c2y) := ⟨rfl, rfl, rfl, by decide +kernel, rfl, by decide +kernel, by decide +kernel⟩
theorem f2q : a0s ["self", "name"] ["self", "name"] (a0p d2l) := ⟨rfl, rfl, rfl, by decide +kernel, rfl, by decide +kernel, by decide +kernel⟩
theorem g0d : a0s ["self", "name"] ["self", "name"] (a0p d9r) := ⟨rfl, rfl, rfl, by decide +kernel, rfl, by decide +kernel, by decide +kernel⟩
theorem c4l : a0s ["self", "source", "bus", "words", "chain", "ring"] ["self", "source", "bus", "words"] (a0p d6k) := ⟨rfl, rfl, rfl, by decide +kernel, rfl, by decide +kernel, by decide +kernel⟩
theorem b7m : a0s ["self", "start", "end", "ways", "waiting", "source", "send"] ["self", "start", "end"] (a0p d9s) := ⟨rfl, rfl, rfl, by decide +kernel, rfl, by decide +kernel, by decide +kernel⟩
theorem d6o : a0s ["self", "bus", "greatest", "settler"] ["self", "bus", "greatest"] (a0p c9w) := ⟨rfl, rfl, rfl, by decide +kernel, rfl, by decide +kernel, by decide +kernel⟩
theorem d9z : a0s ["self"] ["self"] (a0p c9l) := ⟨rfl, rfl, rfl, by decide +kernel, rfl, by decide +kernel, by decide +kernel⟩
theorem f2r : a0s ["self"] ["self"] (a0p d2m) := ⟨rfl, rfl, rfl, by decide +kernel, rfl, by decide +kernel, by decide +kernel⟩
theorem f2s : a0s ["self"] ["self"] (a0p c4g) := ⟨rfl, rfl, rfl, by decide +kernel, rfl, by decide +kernel, by decide +kernel⟩
theorem f5t : a0s ["self"] ["self"] (a0p d6l) := ⟨rfl, rfl, rfl, by decide +kernel, rfl, by decide +kernel, by decide +kernel⟩
theorem c9o : a0s ["self", "placed"] ["self"] (a0p c4h) := ⟨rfl, rfl, rfl, by decide +kernel, rfl, by decide +kernel, by decide +kernel⟩
theorem c6l : a0s ["self", "bus", "placed", "send"] ["self", "bus", "placed"] (a0p c7g) := ⟨rfl, rfl, rfl, by decide +kernel, rfl, by decide +kernel, by decide +kernel⟩
theorem g0e : a0s ["send"] ["send"] (a0p d9t) := ⟨rfl, rfl, rfl, by decide +kernel, rfl, by decide +kernel, by decide +kernel⟩
theorem c9z : a0s ["out", "bus", "greatest"] ["out"] (a0p f3w) := ⟨rfl, rfl, rfl, by decide +kernel, rfl, by decide +kernel, by decide +kernel⟩
theorem c3g : a0s ["patch", "lines"] ["patch"] (a0p c2z) := ⟨rfl, rfl, rfl, by decide +kernel, rfl, by decide +kernel, by decide +kernel⟩
theorem c7l : a0s ["patch", "line", "words", "behind"] ["patch", "line"] (a0p d9u) := ⟨rfl, rfl, rfl, by decide +kernel, rfl, by decide +kernel, by decide +kernel⟩
theorem d0g : a0s ["text", "patch", "line"] ["text"] (a0p f3y) := ⟨rfl, rfl, rfl, by decide +kernel, rfl, by decide +kernel, by decide +kernel⟩
theorem f2t : a0s ["_law_script", "_law_k"] ["_law_script", "_law_k"] (a0p d2n) := ⟨rfl, rfl, rfl, by decide +kernel, rfl, by decide +kernel, by decide +kernel⟩
theorem d0h : a0s ["_law_head", "_law_k", "_law_base", "_law_at"] ["_law_head", "_law_k"] (a0p f3z) := ⟨rfl, rfl, rfl, by decide +kernel, rfl, by decide +kernel, by decide +kernel⟩
theorem b7n : a0s ["_law_mixed", "_law_some"] ["_law_mixed"] (a0p c4i) := ⟨rfl, rfl, rfl, by decide +kernel, rfl, by decide +kernel, by decide +kernel⟩
theorem d6p : a0s ["_law_names", "_law_pick", "_law_at"] ["_law_names", "_law_pick"] (a0p d9v) := ⟨rfl, rfl, rfl, by decide +kernel, rfl, by decide +kernel, by decide +kernel⟩
theorem a2s : a0s ["_law_script", "_law_head", "_law_tracks", "_law_buses", "_law_sends", "_law_cell", "_law_mixed", "_law_goal", "_law_nodes", "_law_outs", "_law_k", "_law_most"] ["_law_script"] (a0p c4j) := ⟨rfl, rfl, rfl, by decide +kernel, rfl, by decide +kernel, by decide +kernel⟩
theorem a5k : a0s ["_law_tracks", "_law_buses", "_law_sends", "_law_outs", "_law_patch_here", "_law_name_here", "_law_source", "_law_goal", "_law_words_here", "_law_most"] ["_law_tracks", "_law_buses", "_law_sends", "_law_outs"] (a0p d9w) := ⟨rfl, rfl, rfl, by decide +kernel, rfl, by decide +kernel, by decide +kernel⟩
theorem a6g : a0s ["_law_tracks", "_law_buses", "_law_sends", "_law_outs", "_law_lines_here", "_law_source", "_law_goal", "_law_words_here", "_law_line", "_law_word"] ["_law_tracks", "_law_buses", "_law_sends", "_law_outs"] (a0p b9u) := ⟨rfl, rfl, rfl, by decide +kernel, rfl, by decide +kernel, by decide +kernel⟩
theorem a3v : a0s ["_law_tracks", "_law_buses", "_law_sends", "_law_outs", "_law_lines_here", "_law_name_here"] ["_law_tracks", "_law_buses", "_law_sends", "_law_outs"] (a0p a4n) := ⟨rfl, rfl, rfl, by decide +kernel, rfl, by decide +kernel, by decide +kernel⟩
theorem g2u : a0s ["_law_patch_here", "_law_tracks", "_law_buses", "_law_sends", "_law_outs"] ["_law_patch_here", "_law_tracks", "_law_buses", "_law_sends", "_law_outs"] (a0p f4g) := ⟨rfl, rfl, rfl, by decide +kernel, rfl, by decide +kernel, by decide +kernel⟩
theorem c6m : a0s ["_law_script", "_law_tracks", "_law_buses", "_law_sends", "_law_outs", "_law_patch_here", "_law_due", "_law_text", "_law_found", "_law_some", "_law_other", "_law_empty"] ["_law_script"] (a0p h6u) := ⟨rfl, rfl, rfl, by decide +kernel, rfl, by decide +kernel, by decide +kernel⟩
set_option genInjectivity false in
structure Ad where
 b4p : Addr
 b4q : FuncData
 a8o : Addr
 a8u : FuncData
 b4r : Addr
 b4s : FuncData
 b7o : Addr
 b4t : FuncData
 b4u : Addr
 b4v : FuncData
 b4w : Addr
 b4y : FuncData
 f0g : Addr
 d3u : FuncData
 d0i : Addr
 c8w : FuncData
 b9v : Addr
 b8z : FuncData
 b4z : Addr
 b5g : FuncData
 a3r : Addr
 a3z : FuncData
 a4s : Addr
 a5g : FuncData
 a3s : Addr
 a8v : FuncData
 b5h : Addr
 b1o : FuncData
 b5i : Addr
 b1p : FuncData
 b1q : Addr
 a8w : FuncData
 b1r : Addr
 a8y : FuncData
 b0r : Addr
 b1s : FuncData
 b5j : Addr
 b1t : FuncData
 b5k : Addr
 b1u : FuncData
 b5l : Addr
 b1v : FuncData
 b5m : Addr
 b1w : FuncData
 b5n : Addr
 b1y : FuncData
 b5o : Addr
 b1z : FuncData
 a4t : Addr
 a5h : FuncData
 b0s : Addr
 b2g : FuncData
 f0h : Addr
 d3v : FuncData
 a6k : Addr
 a6w : FuncData
 b2h : Addr
 a8z : FuncData
 a9g : Addr
 a6y : FuncData
 b2j : Addr
 a9h : FuncData
 b0t : Addr
 b2k : FuncData
 a6l : Addr
 a6z : FuncData
 b0u : Addr
 b2l : FuncData
 a6m : Addr
 a7g : FuncData
 b7p : Addr
 b9g : FuncData
 b2m : Addr
 b5p : FuncData
 b7q : Addr
 b9h : FuncData
 b7r : Addr
 b9i : FuncData
 b7s : Addr
 b9j : FuncData
 a6n : Addr
 a7h : FuncData
 b2n : Addr
 b5q : FuncData
 b9w : Addr
 b9k : FuncData
 b5r : Addr
 b5s : FuncData
 b2o : Addr
 a9i : FuncData
 a9j : Addr
 a7i : FuncData
 a7j : Addr
 a5r : FuncData
 b9y : Addr
 b9l : FuncData
 b2p : Addr
 a9k : FuncData
 a4o : Addr
 a3w : FuncData
 a9l : Addr
 a7k : FuncData
 b5t : Addr
 b2q : FuncData
 b2r : Addr
 a9m : FuncData
 b5u : Addr
 b2s : FuncData
 b5v : Addr
 b2t : FuncData
 a7l : Addr
 a5s : FuncData
 a9n : Addr
 a7m : FuncData
 a9o : Addr
 a7n : FuncData
 b2u : Addr
 a9p : FuncData
 a9q : Addr
 a7o : FuncData
 a5t : Addr
 a5i : FuncData
 b0v : Addr
 b2v : FuncData
 b5w : Addr
 b5y : FuncData
 b9z : Addr
 b9m : FuncData
 b0w : Addr
 b2w : FuncData
 b5z : Addr
 b6g : FuncData
 a6o : Addr
 a7p : FuncData
 b6h : Addr
 b6i : FuncData
 b0y : Addr
 b2y : FuncData
 b0z : Addr
 b2z : FuncData
 b1g : Addr
 b3g : FuncData
 b1h : Addr
 b3h : FuncData
 b1i : Addr
 b3i : FuncData
 a3m : Addr
 a3y : FuncData
 b6j : Addr
 b6k : FuncData
 g0f : Addr
 d6q : FuncData
 f0i : Addr
 c1o : Addr
 b3q : Addr
 b4m : Addr
 c0g : Addr
 c0h : Addr
 b0g : Addr
 b7y : Addr
 a8p : Addr
 a3t : Addr
 c3h : Value
 a2t : Value
 a2u : Value
 b6l : Value
 b6m : Value
 b3j : Value
 c3i : Value
 a7q : Value
 b3k : Value
 f4j : Value
 c3j : Value
 a7r : Value
 a2l : Addr
 wd : World
structure Ty (K : W.Frag) (A : Ad) : Prop where
 g2v : W.nsIn K mainGlobals "Part" = some (some (.ref A.f0i))
 g2w : W.nsIn K mainGlobals "Gain" = some (some (.ref A.c1o))
 f5u : W.nsIn K mainGlobals "Delay" = some (some (.ref A.b3q))
 g2x : W.nsIn K mainGlobals "Echo" = some (some (.ref A.b4m))
 g2y : W.nsIn K mainGlobals "Back" = some (some (.ref A.c0g))
 g2z : W.nsIn K mainGlobals "Hall" = some (some (.ref A.c0h))
 f5v : W.nsIn K mainGlobals "Swell" = some (some (.ref A.b0g))
 f5w : W.nsIn K mainGlobals "Chain" = some (some (.ref A.b7y))
 d3w : W.nsIn K mainGlobals "Settler" = some (some (.ref A.a8p))
 f5y : W.nsIn K mainGlobals "Patch" = some (some (.ref A.a3t))
 d3y : W.nsIn K mainGlobals "is_whole" = some (some (.ref A.b4p))
 c7m : W.nsIn K mainGlobals "is_figures" = some (some (.ref A.a8o))
 d3z : W.nsIn K mainGlobals "whole_of" = some (some (.ref A.b4r))
 f0j : W.nsIn K mainGlobals "divisor" = some (some (.ref A.b7o))
 d4g : W.nsIn K mainGlobals "multiple" = some (some (.ref A.b4u))
 d4h : W.nsIn K mainGlobals "fraction" = some (some (.ref A.b4w))
 h1z : W.nsIn K mainGlobals "plus" = some (some (.ref A.f0g))
 g3a : W.nsIn K mainGlobals "times" = some (some (.ref A.d0i))
 f0k : W.nsIn K mainGlobals "size_of" = some (some (.ref A.b9v))
 d4i : W.nsIn K mainGlobals "is_under" = some (some (.ref A.b4z))
 c0i : W.nsIn K mainGlobals "fraction_text" = some (some (.ref A.a3r))
 c0j : W.nsIn K mainGlobals "read_fraction" = some (some (.ref A.a4s))
 d0j : W.nsIn K mainGlobals "powers_of" = some (some (.ref A.b0r))
 c0k : W.nsIn K mainGlobals "shared_bottom" = some (some (.ref A.a4t))
 d0k : W.nsIn K mainGlobals "slopes_of" = some (some (.ref A.b0s))
 h2a : W.nsIn K mainGlobals "over" = some (some (.ref A.f0h))
 c4m : W.nsIn K mainGlobals "corner_word" = some (some (.ref A.a6k))
 d0l : W.nsIn K mainGlobals "read_gain" = some (some (.ref A.b0t))
 c4n : W.nsIn K mainGlobals "read_number" = some (some (.ref A.a6l))
 d0m : W.nsIn K mainGlobals "read_many" = some (some (.ref A.b0u))
 c4o : W.nsIn K mainGlobals "check_count" = some (some (.ref A.a6m))
 f0l : W.nsIn K mainGlobals "gain_of" = some (some (.ref A.b7p))
 d4j : W.nsIn K mainGlobals "delay_of" = some (some (.ref A.b2m))
 f0m : W.nsIn K mainGlobals "echo_of" = some (some (.ref A.b7q))
 f0n : W.nsIn K mainGlobals "back_of" = some (some (.ref A.b7r))
 f0o : W.nsIn K mainGlobals "hall_of" = some (some (.ref A.b7s))
 c4p : W.nsIn K mainGlobals "read_corner" = some (some (.ref A.a6n))
 d4k : W.nsIn K mainGlobals "swell_of" = some (some (.ref A.b2n))
 f0p : W.nsIn K mainGlobals "part_of" = some (some (.ref A.b9w))
 d4l : W.nsIn K mainGlobals "parts_of" = some (some (.ref A.b5r))
 f0q : W.nsIn K mainGlobals "is_name" = some (some (.ref A.b9y))
 d0n : W.nsIn K mainGlobals "send_line" = some (some (.ref A.b0v))
 d4m : W.nsIn K mainGlobals "out_line" = some (some (.ref A.b5w))
 f0r : W.nsIn K mainGlobals "text_of" = some (some (.ref A.b9z))
 d0o : W.nsIn K mainGlobals "tell_line" = some (some (.ref A.b0w))
 d4n : W.nsIn K mainGlobals "patch_of" = some (some (.ref A.b5z))
 c4q : W.nsIn K mainGlobals "_law_cell_at" = some (some (.ref A.a6o))
 d4o : W.nsIn K mainGlobals "_law_name" = some (some (.ref A.b6h))
 d0p : W.nsIn K mainGlobals "_law_words" = some (some (.ref A.b0y))
 d0q : W.nsIn K mainGlobals "_law_about" = some (some (.ref A.b0z))
 d0r : W.nsIn K mainGlobals "_law_lists" = some (some (.ref A.b1g))
 d0s : W.nsIn K mainGlobals "_law_patch" = some (some (.ref A.b1h))
 d0t : W.nsIn K mainGlobals "_law_lines" = some (some (.ref A.b1i))
 b6n : W.nsIn K mainGlobals "_law_other_lines" = some (some (.ref A.a3m))
 d4p : W.nsIn K mainGlobals "_law_same" = some (some (.ref A.b6j))
 h6w : W.nsIn K mainGlobals "law" = some (some (.ref A.g0f))
 h2b : Cls K A.f0i
 d2t : Meth K A.f0i "fresh" A.a3s
 b3r : Cls K A.c1o
 a2z : a1n K A.c1o "gain"
 h2c : Mk K A.c1o A.b5h
 c7n : Meth K A.c1o "word" A.b5i
 c4r : Meth K A.c1o "fresh" A.a3s
 a8j : Cls K A.b3q
 a2q : a1n K A.b3q "many"
 g3b : Mk K A.b3q A.b1q
 c4s : Meth K A.b3q "word" A.b1r
 c2m : Meth K A.b3q "fresh" A.a3s
 b3s : Cls K A.b4m
 a3g : a1n K A.b4m "gain"
 a3h : a1n K A.b4m "many"
 a2r : a1n K A.b4m "turns"
 a1s : a1n K A.b4m "factors"
 a0y : a1n K A.b4m "factor_bottom"
 h2d : Mk K A.b4m A.b5j
 c7o : Meth K A.b4m "word" A.b5k
 c4t : Meth K A.b4m "fresh" A.a3s
 b3t : Cls K A.c0g
 a3i : a1n K A.c0g "gain"
 a3j : a1n K A.c0g "many"
 h2e : Mk K A.c0g A.b5l
 c7p : Meth K A.c0g "word" A.b5m
 c4u : Meth K A.c0g "fresh" A.a3s
 b3u : Cls K A.c0h
 a3k : a1n K A.c0h "gain"
 a3l : a1n K A.c0h "many"
 h2f : Mk K A.c0h A.b5n
 c7q : Meth K A.c0h "word" A.b5o
 c4v : Meth K A.c0h "fresh" A.a3s
 a8k : Cls K A.b0g
 a1p : a1n K A.b0g "corners"
 a1t : a1n K A.b0g "shared"
 a2j : a1n K A.b0g "lines"
 g3c : Mk K A.b0g A.b2h
 c2n : Meth K A.b0g "fresh" A.a9g
 c4w : Meth K A.b0g "word" A.b2j
 b8k : Cls K A.b7y
 a4l : a1n K A.b7y "parts"
 a3u : a1n K A.b7y "states"
 g3d : Mk K A.b7y A.b2o
 c2o : Meth K A.b7y "words" A.a9j
 b9n : Cls K A.a8p
 a3n : a1n K A.a8p "greatest"
 a5u : a1n K A.a8p "cuts"
 a5v : a1n K A.a8p "rest"
 f0s : Mk K A.a8p A.a7j
 a0r : Cls K A.a3t
 a0i : a1n K A.a3t "track_names"
 a0l : a1n K A.a3t "bus_names"
 a0k : a1n K A.a3t "told_sends"
 a0m : a1n K A.a3t "told_outs"
 f5z : Mk K A.a3t A.b2p
 a8l : Meth K A.a3t "check_new" A.a4o
 a7s : Meth K A.a3t "track" A.a9l
 c1p : Meth K A.a3t "bus" A.b5t
 b8l : Meth K A.a3t "send" A.b2r
 c7r : Meth K A.a3t "way" A.b5u
 c1q : Meth K A.a3t "out" A.b5v
 a8q : Meth K A.a3t "tracks" A.a7l
 b6w : Meth K A.a3t "buses" A.a9n
 b6y : Meth K A.a3t "sends" A.a9o
 b8m : Meth K A.a3t "outs" A.b2u
 b6z : Meth K A.a3t "order" A.a9q
 b7z : Meth K A.a3t "is_next" A.a5t
 b6o : Fun K "is_whole" "is_whole" f3q A.b4p A.b4q
 b3l : Fun K "is_figures" "is_figures" d5z A.a8o A.a8u
 b9o : Fun K "whole_of" "whole_of" f3r A.b4r A.b4s
 c3k : Fun K "divisor" "divisor" f9r A.b7o A.b4t
 c3l : Fun K "multiple" "multiple" f3s A.b4u A.b4v
 b6p : Fun K "fraction" "fraction" f3t A.b4w A.b4y
 g0g : Fun K "plus" "plus" h9f A.f0g A.d3u
 d4q : Fun K "times" "times" h1y A.d0i A.c8w
 c7s : Fun K "size_of" "size_of" f9s A.b9v A.b8z
 c3m : Fun K "is_under" "is_under" f3u A.b4z A.b5g
 a2h : Fun K "fraction_text" "fraction_text" c6u A.a3r A.a3z
 a8r : Fun K "read_fraction" "read_fraction" c6v A.a4s A.a5g
 c1r : Fun K "fresh" "Part.fresh" d6g A.a3s A.a8v
 c4y : Fun K "__init__" "Gain.__init__" d8z A.b5h A.b1o
 c4z : Fun K "word" "Gain.word" d9g A.b5i A.b1p
 c1s : Fun K "__init__" "Delay.__init__" d6h A.b1q A.a8w
 c1t : Fun K "word" "Delay.word" d6i A.b1r A.a8y
 b6q : Fun K "powers_of" "powers_of" d9h A.b0r A.b1s
 c5g : Fun K "__init__" "Echo.__init__" c9v A.b5j A.b1t
 c5h : Fun K "word" "Echo.word" d9i A.b5k A.b1u
 c5i : Fun K "__init__" "Back.__init__" d9j A.b5l A.b1v
 c5j : Fun K "word" "Back.word" d9k A.b5m A.b1w
 c5k : Fun K "__init__" "Hall.__init__" d9l A.b5n A.b1y
 c5l : Fun K "word" "Hall.word" d9m A.b5o A.b1z
 a8s : Fun K "shared_bottom" "shared_bottom" c6w A.a4t A.a5h
 c0l : Fun K "slopes_of" "slopes_of" d9n A.b0s A.b2g
 f4k : Fun K "over" "over" h9g A.f0h A.d3v
 b3v : Fun K "corner_word" "corner_word" d2g A.a6k A.a6w
 c1u : Fun K "__init__" "Swell.__init__" b7k A.b2h A.a8z
 b8n : Fun K "fresh" "Swell.fresh" d2h A.a9g A.a6y
 c1v : Fun K "word" "Swell.word" c6y A.b2j A.a9h
 a6p : Fun K "read_gain" "read_gain" d9o A.b0t A.b2k
 a5l : Fun K "read_number" "read_number" d2i A.a6l A.a6z
 b1j : Fun K "read_many" "read_many" d9p A.b0u A.b2l
 a3o : Fun K "check_count" "check_count" d2j A.a6m A.a7g
 c7t : Fun K "gain_of" "gain_of" f9t A.b7p A.b9g
 c3n : Fun K "delay_of" "delay_of" f3v A.b2m A.b5p
 c7u : Fun K "echo_of" "echo_of" f9u A.b7q A.b9h
 c7v : Fun K "back_of" "back_of" f9v A.b7r A.b9i
 c7w : Fun K "hall_of" "hall_of" f9w A.b7s A.b9j
 b3w : Fun K "read_corner" "read_corner" d2k A.a6n A.a7h
 c3o : Fun K "swell_of" "swell_of" d3s A.b2n A.b5q
 c7y : Fun K "part_of" "part_of" f9y A.b9w A.b9k
 c3p : Fun K "parts_of" "parts_of" d3t A.b5r A.b5s
 c1w : Fun K "__init__" "Chain.__init__" c6z A.b2o A.a9i
 b8o : Fun K "words" "Chain.words" c3z A.a9j A.a7i
 b7g : Fun K "__init__" "Settler.__init__" c9k A.a7j A.a5r
 c7z : Fun K "is_name" "is_name" d9q A.b9y A.b9l
 c1y : Fun K "__init__" "Patch.__init__" d6j A.b2p A.a9k
 a9r : Fun K "check_new" "Patch.check_new" c2y A.a4o A.a3w
 b8p : Fun K "track" "Patch.track" d2l A.a9l A.a7k
 c5m : Fun K "bus" "Patch.bus" d9r A.b5t A.b2q
 c1z : Fun K "send" "Patch.send" d6k A.b2r A.a9m
 c5n : Fun K "way" "Patch.way" d9s A.b5u A.b2s
 c5o : Fun K "out" "Patch.out" c9w A.b5v A.b2t
 b7h : Fun K "tracks" "Patch.tracks" c9l A.a7l A.a5s
 b8q : Fun K "buses" "Patch.buses" d2m A.a9n A.a7m
 b8r : Fun K "sends" "Patch.sends" c4g A.a9o A.a7n
 c2g : Fun K "outs" "Patch.outs" d6l A.b2u A.a9p
 b8s : Fun K "order" "Patch.order" c4h A.a9q A.a7o
 b3y : Fun K "is_next" "Patch.is_next" c7g A.a5t A.a5i
 c0m : Fun K "send_line" "send_line" d9t A.b0v A.b2v
 c3q : Fun K "out_line" "out_line" f3w A.b5w A.b5y
 b0i : Fun K "text_of" "text_of" c2z A.b9z A.b9m
 c0n : Fun K "tell_line" "tell_line" d9u A.b0w A.b2w
 b3m : Fun K "patch_of" "patch_of" f3y A.b5z A.b6g
 a9s : Fun K "_law_cell_at" "_law_cell_at" d2n A.a6o A.a7p
 b9p : Fun K "_law_name" "_law_name" f3z A.b6h A.b6i
 c0o : Fun K "_law_words" "_law_words" c4i A.b0y A.b2y
 b6r : Fun K "_law_about" "_law_about" d9v A.b0z A.b2z
 c0p : Fun K "_law_lists" "_law_lists" c4j A.b1g A.b3g
 c0q : Fun K "_law_patch" "_law_patch" d9w A.b1h A.b3h
 b1k : Fun K "_law_lines" "_law_lines" b9u A.b1i A.b3i
 a5w : Fun K "_law_other_lines" "_law_other_lines" a4n A.a3m A.a3y
 b6s : Fun K "_law_same" "_law_same" f4g A.b6j A.b6k
 h2g : Fun K "law" "law" h6u A.g0f A.d6q
 i1m : W.nsIn K mainGlobals "abs" = some none
 i1n : W.nsIn K mainGlobals "all" = some none
 y_bool : W.nsIn K mainGlobals "bool" = some none
 i1o : W.nsIn K mainGlobals "int" = some none
 c8g : W.nsIn K mainGlobals "isinstance" = some none
 i1p : W.nsIn K mainGlobals "len" = some none
 h2i : W.nsIn K mainGlobals "list" = some none
 i1q : W.nsIn K mainGlobals "max" = some none
 g3e : W.nsIn K mainGlobals "range" = some none
 d4r : W.nsIn K mainGlobals "reversed" = some none
 i1r : W.nsIn K mainGlobals "str" = some none
 g3f : W.nsIn K mainGlobals "tuple" = some none
 i1s : W.nsIn K mainGlobals "zip" = some none
 d4s : W.nsIn K mainGlobals "FIGURES" = some (some A.c3h)
 d4t : RelV (.str "0123456789") A.c3h
 a7v : W.nsIn K mainGlobals "MOST_FIGURES_wholes" = some (some A.a2t)
 a7w : RelV (.int 13) A.a2t
 a7y : W.nsIn K mainGlobals "MOST_FIGURES_ratios" = some (some A.a2u)
 a7z : RelV (.int 9) A.a2u
 c8h : W.nsIn K mainGlobals "MOST_GAIN" = some (some A.b6l)
 c2h : RelV (.int 1000) A.b6l
 c8i : W.nsIn K mainGlobals "MOST_MANY" = some (some A.b6m)
 c2i : RelV (.int 1000) A.b6m
 c5p : W.nsIn K mainGlobals "MOST_TURNS" = some (some A.b3j)
 c5q : RelV (.int 16) A.b3j
 d4u : W.nsIn K mainGlobals "MOST_AT" = some (some A.c3i)
 d4v : RelV (.int 100000) A.c3i
 c0r : W.nsIn K mainGlobals "MOST_CORNERS" = some (some A.a7q)
 c0s : RelV (.int 12) A.a7q
 c5r : W.nsIn K mainGlobals "MOST_PARTS" = some (some A.b3k)
 c5s : RelV (.int 8) A.b3k
 g3g : W.nsIn K mainGlobals "MOST" = some (some A.f4j)
 g3h : RelV (.int 1000000000000) A.f4j
 d4w : W.nsIn K mainGlobals "LETTERS" = some (some A.c3j)
 d4y : RelV (.str "abcdefghijklmnopqrstuvwxyz") A.c3j
 c0t : W.nsIn K mainGlobals "MOST_LETTERS" = some (some A.a7r)
 c0u : RelV (.int 8) A.a7r
 d4z : W.nsIn K mainGlobals "READERS" = some (some (.ref A.a2l))
 b3z : W.nsIn K A.a2l "gain" = some (some (.ref A.b7p))
 b0n : W.nsIn K A.a2l "delay" = some (some (.ref A.b2m))
 b4g : W.nsIn K A.a2l "echo" = some (some (.ref A.b7q))
 b4h : W.nsIn K A.a2l "back" = some (some (.ref A.b7r))
 b0o : W.nsIn K A.a2l "swell" = some (some (.ref A.b2n))
 b4i : W.nsIn K A.a2l "hall" = some (some (.ref A.b7s))
structure Tx (K : W.Frag) (mg : Str -> Option Value) (A : Ad) : Prop extends Ty K A where
 d5g : Binds K A.b4q ["value"] []
 d5h : mg "is_whole" = some (.ref A.b4p)
 d6r : Binds K A.a8u ["text"] []
 d6s : mg "is_figures" = some (.ref A.a8o)
 f4l : Binds K A.b4s ["text"] []
 f4m : mg "whole_of" = some (.ref A.b4r)
 g0h : Binds K A.b4t ["one", "other"] []
 g0i : mg "divisor" = some (.ref A.b7o)
 g8f : Binds K A.b4v ["one", "other"] []
 g8g : mg "multiple" = some (.ref A.b4u)
 d5i : Binds K A.b4y ["top", "bottom"] []
 d5j : mg "fraction" = some (.ref A.b4w)
 i7x : Binds K A.d3u ["one", "other"] []
 i7y : mg "plus" = some (.ref A.f0g)
 h2j : Binds K A.c8w ["one", "other"] []
 h2l : mg "times" = some (.ref A.d0i)
 h2m : Binds K A.b8z ["one"] []
 h2n : mg "size_of" = some (.ref A.b9v)
 g8h : Binds K A.b5g ["one", "other"] []
 g8i : mg "is_under" = some (.ref A.b4z)
 a5y : Binds K A.a3z ["one"] []
 a5z : mg "fraction_text" = some (.ref A.a3r)
 f0t : Binds K A.a5g ["text"] []
 f0u : mg "read_fraction" = some (.ref A.a4s)
 b7t : Binds K A.a8v ["self"] []
 g3i : Binds K A.b1o ["self", "gain"] []
 g3j : Binds K A.b1p ["self"] []
 g0j : Binds K A.a8w ["self", "many"] []
 g0k : Binds K A.a8y ["self"] []
 f0v : Binds K A.b1s ["number", "most"] []
 f0w : mg "powers_of" = some (.ref A.b0r)
 g3k : Binds K A.b1t ["self", "gain", "many", "turns"] []
 g3l : Binds K A.b1u ["self"] []
 g3m : Binds K A.b1v ["self", "gain", "many"] []
 g3n : Binds K A.b1w ["self"] []
 g3o : Binds K A.b1y ["self", "gain", "many"] []
 g3p : Binds K A.b1z ["self"] []
 f0y : Binds K A.a5h ["bottoms"] []
 f0z : mg "shared_bottom" = some (.ref A.a4t)
 g3q : Binds K A.b2g ["corners"] []
 g3r : mg "slopes_of" = some (.ref A.b0s)
 h9h : Binds K A.d3v ["one", "bottom"] []
 h9i : mg "over" = some (.ref A.f0h)
 f6g : Binds K A.a6w ["corner"] []
 f6h : mg "corner_word" = some (.ref A.a6k)
 g0l : Binds K A.a8z ["self", "corners"] []
 f6i : Binds K A.a6y ["self"] []
 g0m : Binds K A.a9h ["self"] []
 c0v : Binds K A.b2k ["text"] []
 c0w : mg "read_gain" = some (.ref A.b0t)
 b8t : Binds K A.a6z ["text", "least", "most"] []
 b8u : mg "read_number" = some (.ref A.a6l)
 d0u : Binds K A.b2l ["text"] []
 d0v : mg "read_many" = some (.ref A.b0u)
 a9t : Binds K A.a7g ["values", "count"] []
 a9u : mg "check_count" = some (.ref A.a6m)
 h2o : Binds K A.b9g ["values"] []
 i7z : mg "gain_of" = some (.ref A.b7p)
 g8j : Binds K A.b5p ["values"] []
 i4b : mg "delay_of" = some (.ref A.b2m)
 h2p : Binds K A.b9h ["values"] []
 i8a : mg "echo_of" = some (.ref A.b7q)
 h2q : Binds K A.b9i ["values"] []
 i8b : mg "back_of" = some (.ref A.b7r)
 h2r : Binds K A.b9j ["values"] []
 i8c : mg "hall_of" = some (.ref A.b7s)
 f6j : Binds K A.a7h ["text"] []
 f6k : mg "read_corner" = some (.ref A.a6n)
 g8k : Binds K A.b5q ["values"] []
 i4c : mg "swell_of" = some (.ref A.b2n)
 h2t : Binds K A.b9k ["word"] []
 h2u : mg "part_of" = some (.ref A.b9w)
 g8l : Binds K A.b5s ["words"] []
 g8m : mg "parts_of" = some (.ref A.b5r)
 g0n : Binds K A.a9i ["self", "words"] []
 f6l : Binds K A.a7i ["self"] []
 f2u : Binds K A.a5r ["self", "greatest"] []
 h2v : Binds K A.b9l ["value"] []
 h2w : mg "is_name" = some (.ref A.b9y)
 d6t : Binds K A.a9k ["self"] []
 c3r : Binds K A.a3w ["self", "name"] []
 b8v : Binds K A.a7k ["self", "name"] []
 f1g : Binds K A.b2q ["self", "name"] []
 d6u : Binds K A.a9m ["self", "source", "bus", "words"] []
 g3s : Binds K A.b2s ["self", "start", "end"] []
 f1h : Binds K A.b2t ["self", "bus", "greatest"] []
 c2p : Binds K A.a5s ["self"] []
 d2u : Binds K A.a7m ["self"] []
 d2v : Binds K A.a7n ["self"] []
 d6v : Binds K A.a9p ["self"] []
 d2w : Binds K A.a7o ["self"] []
 f1i : Binds K A.a5i ["self", "bus", "placed"] []
 g3t : Binds K A.b2v ["send"] []
 g3u : mg "send_line" = some (.ref A.b0v)
 g8n : Binds K A.b5y ["out"] []
 g8o : mg "out_line" = some (.ref A.b5w)
 c3s : Binds K A.b9m ["patch"] []
 c3t : mg "text_of" = some (.ref A.b9z)
 g3v : Binds K A.b2w ["patch", "line"] []
 g3w : mg "tell_line" = some (.ref A.b0w)
 c8y : Binds K A.b6g ["text"] []
 c8z : mg "patch_of" = some (.ref A.b5z)
 d2y : Binds K A.a7p ["_law_script", "_law_k"] []
 d2z : mg "_law_cell_at" = some (.ref A.a6o)
 f4n : Binds K A.b6i ["_law_head", "_law_k"] []
 f4o : mg "_law_name" = some (.ref A.b6h)
 g3x : Binds K A.b2y ["_law_mixed"] []
 g3y : mg "_law_words" = some (.ref A.b0y)
 f1j : Binds K A.b2z ["_law_names", "_law_pick"] []
 f1k : mg "_law_about" = some (.ref A.b0z)
 g3z : Binds K A.b3g ["_law_script"] []
 g4a : mg "_law_lists" = some (.ref A.b1g)
 g4b : Binds K A.b3h ["_law_tracks", "_law_buses", "_law_sends", "_law_outs"] []
 g4c : mg "_law_patch" = some (.ref A.b1h)
 d0w : Binds K A.b3i ["_law_tracks", "_law_buses", "_law_sends", "_law_outs"] []
 d0y : mg "_law_lines" = some (.ref A.b1i)
 d5k : Binds K A.a3y ["_law_tracks", "_law_buses", "_law_sends", "_law_outs"] []
 d5l : mg "_law_other_lines" = some (.ref A.a3m)
 d5m : Binds K A.b6k ["_law_patch_here", "_law_tracks", "_law_buses", "_law_sends", "_law_outs"] []
 d5n : mg "_law_same" = some (.ref A.b6j)
 b_law : Binds K A.d6q ["_law_script"] []
 m_law : mg "law" = some (.ref A.g0f)
 g8p : mg "abs" = none
 j1z : mg "all" = none
 i8d : mg "bool" = none
 h2x : mg "int" = none
 a6h : mg "isinstance" = none
 c8j : mg "len" = none
 f1l : mg "list" = none
 j2a : mg "max" = none
 d0z : mg "range" = none
 g8q : mg "reversed" = none
 f6m : mg "str" = none
 g4d : mg "tuple" = none
 i1t : mg "zip" = none
 j2b : mg "Part" = some (.ref A.f0i)
 i1u : mg "Gain" = some (.ref A.c1o)
 h6x : mg "Delay" = some (.ref A.b3q)
 i1v : mg "Echo" = some (.ref A.b4m)
 i1w : mg "Back" = some (.ref A.c0g)
 i1x : mg "Hall" = some (.ref A.c0h)
 h6y : mg "Swell" = some (.ref A.b0g)
 h6z : mg "Chain" = some (.ref A.b7y)
 g8r : mg "Settler" = some (.ref A.a8p)
 g6p : mg "Patch" = some (.ref A.a3t)
 g8s : mg "FIGURES" = some A.c3h
 c6o : mg "MOST_FIGURES_wholes" = some A.a2t
 c6p : mg "MOST_FIGURES_ratios" = some A.a2u
 d6w : mg "MOST_GAIN" = some A.b6l
 d6y : mg "MOST_MANY" = some A.b6m
 f6n : mg "MOST_TURNS" = some A.b3j
 g8t : mg "MOST_AT" = some A.c3i
 f1m : mg "MOST_CORNERS" = some A.a7q
 f6o : mg "MOST_PARTS" = some A.b3k
 i1y : mg "MOST" = some A.f4j
 g8u : mg "LETTERS" = some A.c3j
 f1n : mg "MOST_LETTERS" = some A.a7r
 b6t : mg "READERS" = some (.ref A.a2l)
 g8v : j1r K A.wd A.a2l
theorem nq0 : (("__init__" : Str) == ("gain" : Str)) = false := by decide +kernel
theorem nq1 : (("word" : Str) == ("gain" : Str)) = false := by decide +kernel
theorem nq2 : (("fresh" : Str) == ("gain" : Str)) = false := by decide +kernel
theorem nq3 : (("__init__" : Str) == ("many" : Str)) = false := by decide +kernel
theorem nq4 : (("word" : Str) == ("many" : Str)) = false := by decide +kernel
theorem nq5 : (("fresh" : Str) == ("many" : Str)) = false := by decide +kernel
theorem nq6 : (("gain" : Str) == ("many" : Str)) = false := by decide +kernel
theorem nq7 : (("gain" : Str) == ("turns" : Str)) = false := by decide +kernel
theorem nq8 : (("gain" : Str) == ("factors" : Str)) = false := by decide +kernel
theorem nq9 : (("gain" : Str) == ("factor_bottom" : Str)) = false := by decide +kernel
theorem nq10 : (("many" : Str) == ("gain" : Str)) = false := by decide +kernel
theorem nq11 : (("many" : Str) == ("turns" : Str)) = false := by decide +kernel
theorem nq12 : (("many" : Str) == ("factors" : Str)) = false := by decide +kernel
theorem nq13 : (("many" : Str) == ("factor_bottom" : Str)) = false := by decide +kernel
theorem nq14 : (("turns" : Str) == ("gain" : Str)) = false := by decide +kernel
theorem nq15 : (("turns" : Str) == ("many" : Str)) = false := by decide +kernel
theorem nq16 : (("turns" : Str) == ("factors" : Str)) = false := by decide +kernel
theorem nq17 : (("turns" : Str) == ("factor_bottom" : Str)) = false := by decide +kernel
theorem nq18 : (("factors" : Str) == ("gain" : Str)) = false := by decide +kernel
theorem nq19 : (("factors" : Str) == ("many" : Str)) = false := by decide +kernel
theorem nq20 : (("factors" : Str) == ("turns" : Str)) = false := by decide +kernel
theorem nq21 : (("factors" : Str) == ("factor_bottom" : Str)) = false := by decide +kernel
theorem nq22 : (("factor_bottom" : Str) == ("gain" : Str)) = false := by decide +kernel
theorem nq23 : (("factor_bottom" : Str) == ("many" : Str)) = false := by decide +kernel
theorem nq24 : (("factor_bottom" : Str) == ("turns" : Str)) = false := by decide +kernel
theorem nq25 : (("factor_bottom" : Str) == ("factors" : Str)) = false := by decide +kernel
theorem nq26 : (("__init__" : Str) == ("turns" : Str)) = false := by decide +kernel
theorem nq27 : (("__init__" : Str) == ("factors" : Str)) = false := by decide +kernel
theorem nq28 : (("__init__" : Str) == ("factor_bottom" : Str)) = false := by decide +kernel
theorem nq29 : (("word" : Str) == ("turns" : Str)) = false := by decide +kernel
theorem nq30 : (("word" : Str) == ("factors" : Str)) = false := by decide +kernel
theorem nq31 : (("word" : Str) == ("factor_bottom" : Str)) = false := by decide +kernel
theorem nq32 : (("fresh" : Str) == ("turns" : Str)) = false := by decide +kernel
theorem nq33 : (("fresh" : Str) == ("factors" : Str)) = false := by decide +kernel
theorem nq34 : (("fresh" : Str) == ("factor_bottom" : Str)) = false := by decide +kernel
theorem nq35 : (("corners" : Str) == ("shared" : Str)) = false := by decide +kernel
theorem nq36 : (("corners" : Str) == ("lines" : Str)) = false := by decide +kernel
theorem nq37 : (("shared" : Str) == ("corners" : Str)) = false := by decide +kernel
theorem nq38 : (("shared" : Str) == ("lines" : Str)) = false := by decide +kernel
theorem nq39 : (("lines" : Str) == ("corners" : Str)) = false := by decide +kernel
theorem nq40 : (("lines" : Str) == ("shared" : Str)) = false := by decide +kernel
theorem nq41 : (("__init__" : Str) == ("corners" : Str)) = false := by decide +kernel
theorem nq42 : (("__init__" : Str) == ("shared" : Str)) = false := by decide +kernel
theorem nq43 : (("__init__" : Str) == ("lines" : Str)) = false := by decide +kernel
theorem nq44 : (("fresh" : Str) == ("corners" : Str)) = false := by decide +kernel
theorem nq45 : (("fresh" : Str) == ("shared" : Str)) = false := by decide +kernel
theorem nq46 : (("fresh" : Str) == ("lines" : Str)) = false := by decide +kernel
theorem nq47 : (("word" : Str) == ("corners" : Str)) = false := by decide +kernel
theorem nq48 : (("word" : Str) == ("shared" : Str)) = false := by decide +kernel
theorem nq49 : (("word" : Str) == ("lines" : Str)) = false := by decide +kernel
theorem nq50 : (("parts" : Str) == ("states" : Str)) = false := by decide +kernel
theorem nq51 : (("states" : Str) == ("parts" : Str)) = false := by decide +kernel
theorem nq52 : (("__init__" : Str) == ("parts" : Str)) = false := by decide +kernel
theorem nq53 : (("__init__" : Str) == ("states" : Str)) = false := by decide +kernel
theorem nq54 : (("words" : Str) == ("parts" : Str)) = false := by decide +kernel
theorem nq55 : (("words" : Str) == ("states" : Str)) = false := by decide +kernel
theorem nq56 : (("greatest" : Str) == ("cuts" : Str)) = false := by decide +kernel
theorem nq57 : (("greatest" : Str) == ("rest" : Str)) = false := by decide +kernel
theorem nq58 : (("cuts" : Str) == ("greatest" : Str)) = false := by decide +kernel
theorem nq59 : (("cuts" : Str) == ("rest" : Str)) = false := by decide +kernel
theorem nq60 : (("rest" : Str) == ("greatest" : Str)) = false := by decide +kernel
theorem nq61 : (("rest" : Str) == ("cuts" : Str)) = false := by decide +kernel
theorem nq62 : (("__init__" : Str) == ("greatest" : Str)) = false := by decide +kernel
theorem nq63 : (("__init__" : Str) == ("cuts" : Str)) = false := by decide +kernel
theorem nq64 : (("__init__" : Str) == ("rest" : Str)) = false := by decide +kernel
theorem nq65 : (("track_names" : Str) == ("bus_names" : Str)) = false := by decide +kernel
theorem nq66 : (("track_names" : Str) == ("told_sends" : Str)) = false := by decide +kernel
theorem nq67 : (("track_names" : Str) == ("told_outs" : Str)) = false := by decide +kernel
theorem nq68 : (("bus_names" : Str) == ("track_names" : Str)) = false := by decide +kernel
theorem nq69 : (("bus_names" : Str) == ("told_sends" : Str)) = false := by decide +kernel
theorem nq70 : (("bus_names" : Str) == ("told_outs" : Str)) = false := by decide +kernel
theorem nq71 : (("told_sends" : Str) == ("track_names" : Str)) = false := by decide +kernel
theorem nq72 : (("told_sends" : Str) == ("bus_names" : Str)) = false := by decide +kernel
theorem nq73 : (("told_sends" : Str) == ("told_outs" : Str)) = false := by decide +kernel
theorem nq74 : (("told_outs" : Str) == ("track_names" : Str)) = false := by decide +kernel
theorem nq75 : (("told_outs" : Str) == ("bus_names" : Str)) = false := by decide +kernel
theorem nq76 : (("told_outs" : Str) == ("told_sends" : Str)) = false := by decide +kernel
theorem nq77 : (("__init__" : Str) == ("track_names" : Str)) = false := by decide +kernel
theorem nq78 : (("__init__" : Str) == ("bus_names" : Str)) = false := by decide +kernel
theorem nq79 : (("__init__" : Str) == ("told_sends" : Str)) = false := by decide +kernel
theorem nq80 : (("__init__" : Str) == ("told_outs" : Str)) = false := by decide +kernel
theorem nq81 : (("check_new" : Str) == ("track_names" : Str)) = false := by decide +kernel
theorem nq82 : (("check_new" : Str) == ("bus_names" : Str)) = false := by decide +kernel
theorem nq83 : (("check_new" : Str) == ("told_sends" : Str)) = false := by decide +kernel
theorem nq84 : (("check_new" : Str) == ("told_outs" : Str)) = false := by decide +kernel
theorem nq85 : (("track" : Str) == ("track_names" : Str)) = false := by decide +kernel
theorem nq86 : (("track" : Str) == ("bus_names" : Str)) = false := by decide +kernel
theorem nq87 : (("track" : Str) == ("told_sends" : Str)) = false := by decide +kernel
theorem nq88 : (("track" : Str) == ("told_outs" : Str)) = false := by decide +kernel
theorem nq89 : (("bus" : Str) == ("track_names" : Str)) = false := by decide +kernel
theorem nq90 : (("bus" : Str) == ("bus_names" : Str)) = false := by decide +kernel
theorem nq91 : (("bus" : Str) == ("told_sends" : Str)) = false := by decide +kernel
theorem nq92 : (("bus" : Str) == ("told_outs" : Str)) = false := by decide +kernel
theorem nq93 : (("send" : Str) == ("track_names" : Str)) = false := by decide +kernel
theorem nq94 : (("send" : Str) == ("bus_names" : Str)) = false := by decide +kernel
theorem nq95 : (("send" : Str) == ("told_sends" : Str)) = false := by decide +kernel
theorem nq96 : (("send" : Str) == ("told_outs" : Str)) = false := by decide +kernel
theorem nq97 : (("way" : Str) == ("track_names" : Str)) = false := by decide +kernel
theorem nq98 : (("way" : Str) == ("bus_names" : Str)) = false := by decide +kernel
theorem nq99 : (("way" : Str) == ("told_sends" : Str)) = false := by decide +kernel
theorem nq100 : (("way" : Str) == ("told_outs" : Str)) = false := by decide +kernel
theorem nq101 : (("out" : Str) == ("track_names" : Str)) = false := by decide +kernel
theorem nq102 : (("out" : Str) == ("bus_names" : Str)) = false := by decide +kernel
theorem nq103 : (("out" : Str) == ("told_sends" : Str)) = false := by decide +kernel
theorem nq104 : (("out" : Str) == ("told_outs" : Str)) = false := by decide +kernel
theorem nq105 : (("tracks" : Str) == ("track_names" : Str)) = false := by decide +kernel
theorem nq106 : (("tracks" : Str) == ("bus_names" : Str)) = false := by decide +kernel
theorem nq107 : (("tracks" : Str) == ("told_sends" : Str)) = false := by decide +kernel
theorem nq108 : (("tracks" : Str) == ("told_outs" : Str)) = false := by decide +kernel
theorem nq109 : (("buses" : Str) == ("track_names" : Str)) = false := by decide +kernel
theorem nq110 : (("buses" : Str) == ("bus_names" : Str)) = false := by decide +kernel
theorem nq111 : (("buses" : Str) == ("told_sends" : Str)) = false := by decide +kernel
theorem nq112 : (("buses" : Str) == ("told_outs" : Str)) = false := by decide +kernel
theorem nq113 : (("sends" : Str) == ("track_names" : Str)) = false := by decide +kernel
theorem nq114 : (("sends" : Str) == ("bus_names" : Str)) = false := by decide +kernel
theorem nq115 : (("sends" : Str) == ("told_sends" : Str)) = false := by decide +kernel
theorem nq116 : (("sends" : Str) == ("told_outs" : Str)) = false := by decide +kernel
theorem nq117 : (("outs" : Str) == ("track_names" : Str)) = false := by decide +kernel
theorem nq118 : (("outs" : Str) == ("bus_names" : Str)) = false := by decide +kernel
theorem nq119 : (("outs" : Str) == ("told_sends" : Str)) = false := by decide +kernel
theorem nq120 : (("outs" : Str) == ("told_outs" : Str)) = false := by decide +kernel
theorem nq121 : (("order" : Str) == ("track_names" : Str)) = false := by decide +kernel
theorem nq122 : (("order" : Str) == ("bus_names" : Str)) = false := by decide +kernel
theorem nq123 : (("order" : Str) == ("told_sends" : Str)) = false := by decide +kernel
theorem nq124 : (("order" : Str) == ("told_outs" : Str)) = false := by decide +kernel
theorem nq125 : (("is_next" : Str) == ("track_names" : Str)) = false := by decide +kernel
theorem nq126 : (("is_next" : Str) == ("bus_names" : Str)) = false := by decide +kernel
theorem nq127 : (("is_next" : Str) == ("told_sends" : Str)) = false := by decide +kernel
theorem nq128 : (("is_next" : Str) == ("told_outs" : Str)) = false := by decide +kernel
seal PE PT PA PS PSs PI PO PW PG PGs PEX PSX
local macro_rules | `(tactic| walk_at "bits") => `(tactic| first | with_reducible assumption | exact intBits_le_64 (by omega) (by omega) | exact (intBits_le_iff (m := 250)).mpr (by decide) | ((with_reducible apply intBits_mul_le) <;> walk_at "bits") | ((with_reducible apply intBits_add_le) <;> walk_at "bits") | ((with_reducible apply intBits_sub_le) <;> walk_at "bits") | ((with_reducible apply intBits_neg_le) <;> walk_at "bits") | ((with_reducible apply intBits_natAbs_le) <;> walk_at "bits") | ((with_reducible apply intBits_fdiv_le) <;> walk_at "bits") | ((with_reducible apply intBits_fmod_le) <;> walk_at "bits"))
local macro_rules | `(tactic| walk_at "mul") => `(tactic| first | exact IntMulOk.of_right (intBits_le_64 (by omega) (by omega)) | exact IntMulOk.of_left (intBits_le_64 (by omega) (by omega)) | ((with_reducible apply IntMulOk.of_le) <;> first | walk_at "bits" | decide))
local macro_rules | `(tactic| walk_at "le") => `(tactic| ((with_reducible apply Nat.le_trans) <;> first | walk_at "bits" | decide))
variable {P : Program} {w : World} {K : PySem.W.Frag} {mg : Str -> Option Value} {base : Heap} {A : Ad}
noncomputable def stF (g c : Int) (r : Addr) : List (Str × V) := [("greatest", .int g), ("cuts", .int c), ("rest", .ref r)]
def h7a : Sp := fun vs H Q _ => match vs with | [.int a, .int b] => Q (.int (Int.gcd a b)) H | _ => False
def i2a : Sp := fun vs H Q _ => match vs with | [.int a, .int b] => intBits a <= 4000 /\ intBits b <= 4000 /\ Q (.int (Int.lcm a b)) H | _ => False
def i2b : Sp := fun vs H Q _ => match vs with | [.int _] => Q (.bl true) H | _ => False
def h2y : Sp := fun vs H Q _ => match vs with
 | [.int t, .int b] => b ≠ 0 /\ intBits t <= 4000 /\ intBits b <= 4000 /\ All (d8t H (c6n (Rat.divInt t b))) Q ⟨⟩ ⟨⟩
 | _ => False
def i2c : Sp := fun vs H Q _ => match vs with | [.str x] => Q (.bl (h1i (sg x))) H | _ => False
def g4e : Sp := fun vs H Q _ => match vs with | [.ref p] => ∃ t b : Int, H p = some (.tup [.int t, .int b]) /\ t.natAbs.log2 < 1920 /\ b.natAbs.log2 < 1920 /\ (∀ y : Str, sg y = h4x t b -> Q (.str y) H) | _ => False
def h2z : Sp := fun vs H Q _ => match vs with | [.str x] => ∃ t b, Good (sg x) t b /\ All (d8t H [.int t, .int b]) Q ⟨⟩ ⟨⟩ | _ => False
def i2d : Sp := fun vs H Q _ => match vs with
 | [.str x] => ∃ n : Nat, sg x = txt (n : Int) /\ n < 10 ^ 13 /\ Q (.int n) H
 | _ => False
def Two (H : Hp) (p q : Addr) (x y : Rat) : Prop := H p = some (.tup (c6n x)) /\ H q = some (.tup (c6n y)) /\ intBits x.num <= 900 /\ intBits (x.den : Int) <= 900 /\ intBits y.num <= 900 /\ intBits (y.den : Int) <= 900
def h3a : Sp := fun vs H Q _ => match vs with
 | [.ref p, .ref q] => ∃ x y : Rat, Two H p q x y /\ All (d8t H (c6n (x + y))) Q ⟨⟩ ⟨⟩
 | _ => False
def h3b : Sp := fun vs H Q _ => match vs with
 | [.ref p, .ref q] => ∃ x y : Rat, Two H p q x y /\ All (d8t H (c6n (x * y))) Q ⟨⟩ ⟨⟩
 | _ => False
def h3c : Sp := fun vs H Q _ => match vs with
 | [.ref p] => ∃ x : Rat, H p = some (.tup (c6n x)) /\ All (d8t H (c6n (Rat.abs x))) Q ⟨⟩ ⟨⟩
 | _ => False
def g4f : Sp := fun vs H Q _ => match vs with
 | [.ref p, .ref q] => ∃ x y : Rat, Two H p q x y /\ Q (.bl (decide (x.num * (y.den : Int) < y.num * (x.den : Int)))) H
 | _ => False
def Rts (H : Hp) (qs : List Addr) (ss : List Rat) : Prop := qs.length = ss.length /\ ∀ (i : Nat) q s, qs[i]? = some q -> ss[i]? = some s -> H q = some (.tup (c6n s))
def g6q (l : Addr) (H : Hp) (qs : List Addr) (ss : List Rat) : Prop := qs.length = ss.length /\ ∀ (i : Nat) q s, qs[i]? = some q -> ss[i]? = some s -> q ≠ l /\ H q = some (.tup (c6n s))
def Crn (H : Hp) (ps : List Addr) (cs : List (Int × Rat)) : Prop := ps.length = cs.length /\ ∀ (i : Nat) p c, ps[i]? = some p -> cs[i]? = some c -> ∃ g, H p = some (.tup [.int c.1, .ref g]) /\ H g = some (.tup (c6n c.2))
def i2e (cs : List (Int × Rat)) : Prop := (∀ c ∈ cs, 0 <= c.1 /\ c.1 <= 200000 /\ intBits c.2.num <= 10 /\ intBits (c.2.den : Int) <= 10) /\ ∀ (i : Nat) c d, cs[i]? = some c -> cs[i + 1]? = some d -> c.1 < d.1
noncomputable def g9r (bs : List Int) : Int := bs.foldl (fun o b => (Int.lcm o b : Int)) 1
def f6p : Sp := fun vs H Q _ => match vs with
 | [.ref p] => ∃ bs : List Int, H p = some (.lst (bs.map V.int)) /\ (∀ b ∈ bs, 1 <= b /\ intBits b <= 64) /\ bs.length <= 24 /\ Q (.int (g9r bs)) H
 | _ => False
def g4g : Sp := fun vs H Q _ => match vs with
 | [.ref p, .int S] => ∃ y : Rat, H p = some (.tup (c6n y)) /\ intBits y.num <= 2000 /\ intBits (y.den : Int) <= 2000 /\ intBits S <= 2000 /\ Q (.int (y.num * S.fdiv y.den)) H
 | _ => False
def SlR (cs : List (Int × Rat)) (i : Nat) (s : Rat) : Prop := ∀ c d, cs[i]? = some c -> cs[i + 1]? = some d -> s * ((d.1 - c.1 : Int) : Rat) = d.2 - c.2
def f6q : Sp := fun vs H Q _ => match vs with
 | [.ref ct] => ∃ (ps : List Addr) (cs : List (Int × Rat)), H ct = some (.tup (ps.map V.ref)) /\ Crn H ps cs /\ i2e cs /\ 1 <= cs.length /\ cs.length <= 12 /\
   (∀ l H' qs ss, H l = none -> Same H H' -> H' l = some (.lst (List.map V.ref qs)) -> Rts H' qs ss -> ss.length = cs.length -> (∀ s ∈ ss, intBits s.num <= 60 /\ intBits (s.den : Int) <= 60) -> (∀ j s, ss[j]? = some s -> SlR cs j s) -> ss[cs.length - 1]? = some 0 -> Q (.ref l) H')
 | _ => False
noncomputable def h3d (n : Int) (m : Nat) : List Int := (List.range (m + 1)).map fun j => n ^ j
def i2f : Sp := fun vs H Q _ => match vs with
 | [.int n, .int t] => ∃ m : Nat, t = m /\ m <= 16 /\ intBits n <= 10 /\ All (f3m H ((h3d n m).map V.int)) Q ⟨⟩ ⟨⟩
 | _ => False
noncomputable def j2c (p q : Int) (t j : Nat) : Int := p ^ j * q ^ (t - j)
noncomputable def i8e (p q : Int) (t : Nat) : List Int := (List.range (t + 1)).map (j2c p q t)
noncomputable def ecF (gt fa : Addr) (n t : Nat) (q : Int) : List (Str × V) := [("gain", .ref gt), ("many", .int n), ("turns", .int t), ("factors", .ref fa), ("factor_bottom", .int (q ^ t))]
def IsE (C : Addr) (H : Hp) (o : Addr) (p q : Int) (n t : Nat) : Prop := ∃ dx gt fa, H o = some (.ins C dx (ecF gt fa n t q)) /\ H gt = some (.tup [.int p, .int q]) /\ H fa = some (.tup ((i8e p q t).map V.int))
def g4h (C : Addr) : Sp := fun vs H Q _ => match vs with
 | [.ref o, .ref gt, .int n, .int t] => ∃ (dx : Addr) (m tt : Nat) (p q : Int), n = m /\ t = tt /\ tt <= 16 /\ intBits p <= 10 /\ intBits q <= 10 /\ H gt = some (.tup [.int p, .int q]) /\ H o = some (.ins C dx []) /\
   (∀ (fa : Addr) (H1 : Hp), a2p o H H1 -> H fa = none -> H1 o = some (.ins C dx (ecF gt fa m tt q)) -> H1 fa = some (.tup ((i8e p q tt).map V.int)) -> Q .non H1)
 | _ => False
def Tps (H : Hp) (qs : List Addr) (vs : List (List V)) : Prop := qs.length = vs.length /\ ∀ (i : Nat) q v, qs[i]? = some q -> vs[i]? = some v -> H q = some (.tup v)
def g6r (l : Addr) (H : Hp) (qs : List Addr) (vs : List (List V)) : Prop := qs.length = vs.length /\ ∀ (i : Nat) q v, qs[i]? = some q -> vs[i]? = some v -> q ≠ l /\ H q = some (.tup v)
noncomputable def lnOf (S : Int) (c : Int × Rat) (s : Rat) : Int × Int × Int := (c.1, c.2.num * S.fdiv c.2.den, s.num * S.fdiv s.den)
noncomputable def lnV (l : Int × Int × Int) : List V := [.int l.1, .int l.2.1, .int l.2.2]
def SwOk (cs : List (Int × Rat)) (ss : List Rat) (S : Int) : Prop := ss.length = cs.length /\ (∀ j s, ss[j]? = some s -> SlR cs j s) /\ ss[cs.length - 1]? = some 0 /\ 1 <= S /\ intBits S <= 1600 /\ (∀ c ∈ cs, (c.2.den : Int) ∣ S) /\ (∀ s ∈ ss, (s.den : Int) ∣ S) /\ (∀ s ∈ ss, intBits s.num <= 60) /\ intBits S <= 1 + 128 * cs.length /\ S = g9r ((cs.map fun c => (c.2.den : Int)) ++ ss.map fun s => (s.den : Int))
noncomputable def swF (ct ln : Addr) (S : Int) : List (Str × V) := [("corners", .ref ct), ("shared", .int S), ("lines", .ref ln)]
def f6r (C : Addr) : Sp := fun vs H Q _ => match vs with
 | [.ref o, .ref l] => ∃ (dx : Addr) (ps : List Addr) (cs : List (Int × Rat)), H o = some (.ins C dx []) /\ H l = some (.lst (ps.map V.ref)) /\ Crn H ps cs /\ i2e cs /\ 1 <= cs.length /\ cs.length <= 12 /\
   (∀ ct ln S ss us H1, a2p o H H1 -> H ct = none -> H1 o = some (.ins C dx (swF ct ln S)) -> H1 ct = some (.tup (ps.map V.ref)) -> H1 ln = some (.tup (us.map V.ref)) -> Tps H1 us ((List.zipWith (lnOf S) cs ss).map lnV) -> SwOk cs ss S -> Q .non H1)
 | _ => False
def g4i (C : Addr) : Sp := fun vs H Q _ => match vs with
 | [.ref o, .ref gt] => ∃ dx, H o = some (.ins C dx []) ∧ (∀ H1, a2p o H H1 → H1 o = some (.ins C dx [("gain", .ref gt)]) → Q .non H1)
 | _ => False
def f6s (C : Addr) : Sp := fun vs H Q _ => match vs with
 | [.ref o, .int n] => ∃ dx, H o = some (.ins C dx []) ∧ (∀ H1, a2p o H H1 → H1 o = some (.ins C dx [("many", .int n)]) → Q .non H1)
 | _ => False
def g4j (C : Addr) : Sp := fun vs H Q _ => match vs with
 | [.ref o, .ref gt, .int n] => ∃ dx, H o = some (.ins C dx []) ∧ (∀ H1, a2p o H H1 → H1 o = some (.ins C dx [("gain", .ref gt), ("many", .int n)]) → Q .non H1)
 | _ => False
def g4k (C : Addr) : Sp := fun vs H Q _ => match vs with
 | [.ref o, .ref gt, .int n] => ∃ dx, H o = some (.ins C dx []) ∧ (∀ H1, a2p o H H1 → H1 o = some (.ins C dx [("gain", .ref gt), ("many", .int n)]) → Q .non H1)
 | _ => False
noncomputable def clsOf (A : Ad) : Dt -> Addr
 | .gain _ => A.c1o
 | .delay _ => A.b3q
 | .echo .. => A.b4m
 | .back .. => A.c0g
 | .hall .. => A.c0h
 | .swell _ => A.b0g
noncomputable def gnF (g : Addr) : List (Str × V) := [("gain", .ref g)]
noncomputable def dlF (n : Nat) : List (Str × V) := [("many", .int n)]
noncomputable def bkF (g : Addr) (n : Nat) : List (Str × V) := [("gain", .ref g), ("many", .int n)]
noncomputable def i9p (H : Hp) (fs : List (Str × V)) : Dt -> Prop
 | .gain y => ∃ g, fs = gnF g /\ H g = some (.tup (c6n y))
 | .delay n => fs = dlF n
 | .echo y n t => ∃ g fa, fs = ecF g fa n t (y.den : Int) /\ H g = some (.tup (c6n y)) /\ H fa = some (.tup ((i8e y.num (y.den : Int) t).map V.int))
 | .back y n => ∃ g, fs = bkF g n /\ H g = some (.tup (c6n y))
 | .hall y n => ∃ g, fs = bkF g n /\ H g = some (.tup (c6n y))
 | .swell cs => ∃ ct ln S ss us ps, fs = swF ct ln S /\ H ct = some (.tup (List.map V.ref ps)) /\ H ln = some (.tup (List.map V.ref us)) /\ Tps H us ((List.zipWith (lnOf S) cs ss).map lnV) /\ SwOk cs ss S /\ Crn H ps cs
def IsP (A : Ad) (H : Hp) (o : Addr) (d : Dt) : Prop := ∃ dx fs, H o = some (.ins (clsOf A d) dx fs) /\ i9p H fs d
def j2d : Sp := fun vs H Q _ => match vs with
 | [.ref p] => ∃ x : Rat, H p = some (.tup (c6n x)) /\ intBits x.num <= 10 /\ intBits (x.den : Int) <= 10 /\ Q (.str (fW x)) H
 | _ => False
def j2e : Sp := fun vs H Q _ => match vs with
 | [.ref p] => ∃ (c : Int × Rat) (g : Addr), H p = some (.tup [.int c.1, .ref g]) /\ H g = some (.tup (c6n c.2)) /\ c.1.natAbs < 2 ^ 20 /\ intBits c.2.num <= 10 /\ intBits (c.2.den : Int) <= 10 /\ Q (.str (cW c)) H
 | _ => False
def f7w (A : Ad) (k : Nat) : Sp := fun vs H Q _ => match vs with
 | [.ref o] => ∃ d : Dt, d.kd = k /\ IsP A H o d /\ d.ok /\ (∀ H1, Same H H1 -> Q (.str d.word) H1)
 | _ => False
def j2f : Sp := fun vs H Q _ => match vs with
 | [.str x] => ∃ y : Rat, x = fW y /\ YOk y /\ All (d8t H (c6n y)) Q ⟨⟩ ⟨⟩
 | _ => False
def j2g : Sp := fun vs H Q _ => match vs with
 | [.str x, .int a, .int b] => ∃ n : Nat, sg x = txt (n : Int) /\ n < 10 ^ 9 /\ a <= n /\ (n : Int) <= b /\ Q (.int n) H
 | _ => False
def j2h : Sp := fun vs H Q _ => match vs with
 | [.str x] => ∃ n : Nat, x = nW n /\ 1 <= n /\ n <= 1000 /\ Q (.int n) H
 | _ => False
def j2i : Sp := fun vs H Q _ => match vs with
 | [.ref l, .int c] => ∃ xs, H l = some (.lst xs) /\ (xs.length : Int) = c /\ Q .non H
 | _ => False
def f7y (A : Ad) (k : Nat) : Sp := fun vs H Q _ => match vs with
 | [.ref l] => ∃ d : Dt, d.kd = k /\ d.ok /\ H l = some (.lst (d.vals.map V.str)) /\ (∀ o H1, H o = none -> Same H H1 -> IsP A H1 o d -> Q (.ref o) H1)
 | _ => False
def j2j : Sp := fun vs H Q _ => match vs with
 | [.str x] => ∃ c : Int × Rat, x = cW c /\ 0 <= c.1 /\ c.1 <= 100000 /\ YOk c.2 /\ (∀ p g H1, H p = none -> Same H H1 -> H1 p = some (.tup [.int c.1, .ref g]) -> H1 g = some (.tup (c6n c.2)) -> Q (.ref p) H1)
 | _ => False
def h3e (A : Ad) : Sp := fun vs H Q _ => match vs with
 | [.str x] => ∃ d : Dt, d.ok /\ x = d.word /\ (∀ o H1, H o = none -> Same H H1 -> IsP A H1 o d -> Q (.ref o) H1)
 | _ => False
def a6u (x : Str) : Prop := x.length ≤ 8 ∧ x ≠ Str.ofString "" ∧ ∀ c ∈ x.cps.toList, 97 ≤ c ∧ c ≤ 122
def f6t : Sp := fun vs H Q _ => match vs with
 | [.str x] => a6u x /\ (∀ H1, Same H H1 -> Q (.bl true) H1)
 | _ => False
def g4l : Sp := fun vs H Q _ => match vs with
 | [.ref o] => All (d8t H []) Q ⟨⟩ ⟨⟩
 | _ => False
def g9s (A : Ad) (H : Hp) (os : List Addr) (ds : List Dt) : Prop := os.length = ds.length /\ ∀ (i : Nat) o d, os[i]? = some o -> ds[i]? = some d -> IsP A H o d
def i2g (A : Ad) : Sp := fun vs H Q _ => match vs with
 | [.ref l] => ∃ ds : List Dt, H l = some (.lst (ds.map fun d => V.str d.word)) /\ ds.length <= 8 /\ (∀ d ∈ ds, d.ok) /\ (∀ p os H1, H p = none -> (∀ o ∈ os, H o = none) -> Same H H1 -> H1 p = some (.lst (os.map V.ref)) -> g9s A H1 os ds -> Q (.ref p) H1)
 | _ => False
noncomputable def chF (pl sl : Addr) : List (Str × V) := [("parts", .ref pl), ("states", .ref sl)]
def ChW (A : Ad) (H : Hp) (o : Addr) (ds : List Dt) : Prop := ∃ dx pl sl os, H o = some (.ins A.b7y dx (chF pl sl)) /\ H pl = some (.lst (os.map V.ref)) /\ g9s A H os ds
def f1o : Sp := fun vs H Q _ => match vs with
 | [.ref _] => Q (.int 0) H
 | _ => False
def g4m (A : Ad) : Sp := fun vs H Q _ => match vs with
 | [.ref o, .ref l] => ∃ (dx : Addr) (ds : List Dt), H o = some (.ins A.b7y dx []) /\ H l = some (.lst (ds.map fun d => V.str d.word)) /\ ds.length <= 8 /\ (∀ d ∈ ds, d.ok) /\ (∀ H1, a2p o H H1 -> ChW A H1 o ds -> Q .non H1)
 | _ => False
def i2h (A : Ad) : Sp := fun vs H Q _ => match vs with
 | [.ref o] => ∃ ds : List Dt, ChW A H o ds /\ ds.length <= 8 /\ (∀ d ∈ ds, d.ok) /\ All (f3m H (ds.map fun d => V.str d.word)) Q ⟨⟩ ⟨⟩
 | _ => False
noncomputable def ptF (t b sd ou : Addr) : List (Str × V) := [("track_names", .ref t), ("bus_names", .ref b), ("told_sends", .ref sd), ("told_outs", .ref ou)]
def Eds (H : Hp) (ps : List Addr) (es : List (Str × Str)) : Prop := ps.length = es.length /\ ∀ (i : Nat) p e, ps[i]? = some p -> es[i]? = some e -> ∃ lw : Addr, H p = some (.tup [.str e.1, .str e.2, .ref lw])
def h9j (A : Ad) (H : Hp) (o t b sd : Addr) (ts bs : List Str) (es : List (Str × Str)) : Prop := ∃ dx ou ps, H o = some (.ins A.a3t dx (ptF t b sd ou)) /\ H t = some (.lst (ts.map V.str)) /\ H b = some (.lst (bs.map V.str)) /\ H sd = some (.lst (ps.map V.ref)) /\ Eds H ps es /\ t ≠ b /\ t ≠ sd /\ b ≠ sd
def i2i (A : Ad) : Sp := fun vs H Q _ => match vs with
 | [.ref o, .str x] => ∃ t b sd ts bs es, h9j A H o t b sd ts bs es /\ a6u x /\ x ∉ ts /\ x ∉ bs /\ (∀ H1, Same H H1 -> Q .non H1)
 | _ => False
def c1g (A : Ad) (H : Hp) (N : Addr -> Prop) (o : Addr) (p : Pd) : Prop := ∃ dx t b sd ou, H o = some (.ins A.a3t dx (ptF t b sd ou)) /\ Fl H N t b sd ou p
def j2k (A : Ad) : Sp := fun vs H Q _ => match vs with
 | [.ref o] => ∃ dx, H o = some (.ins A.a3t dx []) /\ (∀ H1, a2p o H H1 -> c1g A H1 (fun a => H a = none) o ⟨[], [], [], []⟩ -> Q .non H1)
 | _ => False
def i2j (A : Ad) : Sp := fun vs H Q _ => match vs with
 | [.ref o, .str x] => ∃ N p, c1g A H N o p /\ a6u x /\ x ∉ p.ts /\ x ∉ p.bs /\ p.ts.length <= 100 /\ (∀ H1, b0q N H H1 -> c1g A H1 N o ⟨p.ts ++ [x], p.bs, p.es, p.os⟩ -> Q .non H1)
 | _ => False
def i2k (A : Ad) : Sp := fun vs H Q _ => match vs with
 | [.ref o, .str x] => ∃ N p, c1g A H N o p /\ a6u x /\ x ∉ p.ts /\ x ∉ p.bs /\ p.bs.length <= 100 /\ (∀ H1, b0q N H H1 -> c1g A H1 N o ⟨p.ts, p.bs ++ [x], p.es, p.os⟩ -> Q .non H1)
 | _ => False
def Rch (es : List (Str × Str)) (x y : Str) : Prop := ∀ S : Str -> Prop, S x -> (∀ u v, S u -> (u, v) ∈ es -> S v) -> S y
noncomputable def cnt (es : List (Str × Str)) (ks : List Str) : Nat := (es.filter fun e => decide (e.2 ∉ ks)).length
def g9t (H : Hp) (L : Addr) (kvs : List (Key × V)) (ks : List Str) : Prop := kvs.map (·.1) = ks.map kT /\ ∀ kv ∈ kvs, ∃ (l : Addr) (ss : List Str), kv.2 = .ref l /\ l ≠ L /\ H l = some (.lst (ss.map V.str)) /\ ss.length <= kvs.length
def i2l (A : Ad) : Sp := fun vs H Q _ => match vs with
 | [.ref o, .str x, .str y] => ∃ t b sd ts bs es, h9j A H o t b sd ts bs es /\ ¬ Rch es x y /\ es.length <= 100 /\ PyData.strOk x = true /\ (∀ e ∈ es, PyData.strOk e.2 = true) /\ All (f3m H []) Q ⟨⟩ ⟨⟩
 | _ => False
def h3f (C : Addr) : Sp := fun vs H Q _ => match vs with
 | [.ref o, .int g] => ∃ dx, H o = some (.ins C dx []) /\ 1 <= g /\ g <= 1000000000000 /\ (∀ r H1, H r = none -> a2p o H H1 -> H1 r = some (.tup (c6n 0)) -> H1 o = some (.ins C dx (stF g 0 r)) -> Q .non H1)
 | _ => False
def h3g (A : Ad) : Sp := fun vs H Q _ => match vs with
 | [.ref o, .str x, .str y, .ref l] => ∃ (N : Addr -> Prop) (p : Pd) (ds : List Dt), c1g A H N o p /\ H l = some (.lst (ds.map fun d => V.str d.word)) /\ ds.length <= 8 /\ (∀ d ∈ ds, d.ok) /\ (x ∈ p.ts \/ x ∈ p.bs) /\ y ∈ p.bs /\ ¬ Rch (prs p.es) y x /\ p.es.length <= 99 /\ PyData.strOk y = true /\ (∀ e ∈ p.es, PyData.strOk e.2.1 = true) /\ (∀ H1, b0q N H H1 -> c1g A H1 (fun a => N a \/ H a = none) o ⟨p.ts, p.bs, p.es ++ [(x, y, ds.map Dt.word)], p.os⟩ -> Q .non H1)
 | _ => False
def i2m (A : Ad) : Sp := fun vs H Q _ => match vs with
 | [.ref o, .str y, .int g] => ∃ (N : Addr -> Prop) (p : Pd), c1g A H N o p /\ y ∈ p.bs /\ (∀ x ∈ p.os, x.1 ≠ y) /\ 1 <= g /\ g <= 1000000000000 /\ p.os.length <= 99 /\ (∀ H1, b0q N H H1 -> c1g A H1 N o ⟨p.ts, p.bs, p.es, p.os ++ [(y, g)]⟩ -> Q .non H1)
 | _ => False
def f6u (A : Ad) : Sp := fun vs H Q _ => match vs with
 | [.ref o] => ∃ (N : Addr -> Prop) (p : Pd), c1g A H N o p /\ p.ts.length <= 100 /\ All (f3m H (p.ts.map V.str)) Q ⟨⟩ ⟨⟩
 | _ => False
def g4n (A : Ad) : Sp := fun vs H Q _ => match vs with
 | [.ref o] => ∃ (N : Addr -> Prop) (p : Pd), c1g A H N o p /\ p.bs.length <= 100 /\ All (f3m H (p.bs.map V.str)) Q ⟨⟩ ⟨⟩
 | _ => False
def h3h (A : Ad) : Sp := fun vs H Q _ => match vs with
 | [.ref o] => ∃ (N : Addr -> Prop) (p : Pd), c1g A H N o p /\ p.os.length <= 100 /\ (∀ l us H1, H l = none -> Same H H1 -> H1 l = some (.lst us) -> RpL H1 (fun a => H a = none /\ a ≠ l) us (p.os.map dOu) -> Q (.ref l) H1)
 | _ => False
def g4o (A : Ad) : Sp := fun vs H Q _ => match vs with
 | [.ref o] => ∃ (N : Addr -> Prop) (p : Pd), c1g A H N o p /\ p.es.length <= 100 /\ (∀ e ∈ p.es, e.2.2.length <= 100) /\ (∀ l us H1, H l = none -> Same H H1 -> H1 l = some (.lst us) -> RpL H1 (fun a => H a = none /\ a ≠ l) us (p.es.map dSd) -> Q (.ref l) H1)
 | _ => False
noncomputable def c6q (bs : List Str) (es : List (Str × Str)) (pl : List Str) (x : Str) : Bool := decide (x ∉ pl) && es.all fun e => !(decide (e.2 = x) && (decide (e.1 ∈ bs) && !decide (e.1 ∈ pl)))
noncomputable def d7t (bs : List Str) (es : List (Str × Str)) : Nat -> List Str
 | 0 => []
 | k + 1 => d7t bs es k ++ (bs.filter (c6q bs es (d7t bs es k))).head?.toList
def h3i (A : Ad) : Sp := fun vs H Q _ => match vs with
 | [.ref o, .str x, .ref l] => ∃ t b sd ts bs es pl, h9j A H o t b sd ts bs es /\ H l = some (.lst (pl.map V.str)) /\ Q (.bl (c6q bs es pl x)) H
 | _ => False
def i2n (A : Ad) : Sp := fun vs H Q _ => match vs with
 | [.ref o] => ∃ t b sd ts bs es, h9j A H o t b sd ts bs es /\ bs.length <= 100 /\ (∀ j, j < bs.length -> bs.filter (c6q bs es (d7t bs es j)) ≠ []) /\ All (f3m H ((d7t bs es bs.length).map V.str)) Q ⟨⟩ ⟨⟩
 | _ => False
def h9k (es : List (Str × Str)) : Prop := ∃ r : Str -> Nat, ∀ e ∈ es, r e.1 < r e.2
inductive Ln where
 | tr (x : Str)
 | bu (x : Str)
 | se (e : Sd)
 | ou (x : Str × Int)
noncomputable def Ln.ws : Ln -> List Str
 | .tr x => [Str.ofString "track", x]
 | .bu x => [Str.ofString "bus", x]
 | .se e => Str.ofString "send" :: e.1 :: e.2.1 :: e.2.2
 | .ou x => [Str.ofString "out", x.1, Str.ofString (toString x.2)]
noncomputable def Ln.line (l : Ln) : Str := Str.join ⟨#[32]⟩ l.ws
noncomputable def Ln.app (p : Pd) : Ln -> Pd
 | .tr x => ⟨p.ts ++ [x], p.bs, p.es, p.os⟩
 | .bu x => ⟨p.ts, p.bs ++ [x], p.es, p.os⟩
 | .se e => ⟨p.ts, p.bs, p.es ++ [e], p.os⟩
 | .ou x => ⟨p.ts, p.bs, p.es, p.os ++ [x]⟩
def h7b (ws : List Str) : Prop := ∃ ds : List Dt, ws = ds.map Dt.word /\ ds.length <= 8 /\ (∀ d ∈ ds, d.ok) /\ ∀ z ∈ ws, PyData.strOk z = true
noncomputable def Ln.fm : Ln -> Prop
 | .tr x => a6u x
 | .bu x => a6u x
 | .se e => h7b e.2.2 /\ a6u e.1 /\ a6u e.2.1
 | .ou x => a6u x.1 /\ 1 <= x.2 /\ x.2 <= 1000000000000
noncomputable def Ln.ok (p : Pd) : Ln -> Prop
 | .tr x => x ∉ p.ts /\ x ∉ p.bs /\ p.ts.length <= 90
 | .bu x => x ∉ p.ts /\ x ∉ p.bs /\ p.bs.length <= 90
 | .se e => (e.1 ∈ p.ts \/ e.1 ∈ p.bs) /\ e.2.1 ∈ p.bs /\ ¬ Rch (prs p.es) e.2.1 e.1 /\ p.es.length <= 90 /\ ∀ f ∈ p.es, a6u f.2.1
 | .ou x => x.1 ∈ p.bs /\ (∀ z ∈ p.os, z.1 ≠ x.1) /\ p.os.length <= 90
noncomputable def Tl (g : Pd) : Pd -> List Ln -> Prop
 | p, [] => p = g
 | p, l :: ls => l.fm /\ l.ok p /\ Tl g (l.app p) ls
noncomputable def lns (p : Pd) : List Ln := p.ts.map .tr ++ (p.bs.map .bu ++ (p.es.map .se ++ p.os.map .ou))
noncomputable def ltx (ls : List Ln) : Str := Str.join ⟨#[10]⟩ (ls.map Ln.line)
noncomputable def lnO (p : Pd) : List Ln := p.os.map (fun x => .bu x.1) ++ (p.os.map .ou ++ ((p.bs.filter fun z => decide (z ∉ p.os.map (·.1))).map .bu ++ (p.ts.map .tr ++ p.es.map .se)))
noncomputable def Pd0 : Pd := ⟨[], [], [], []⟩
structure PdF (p : Pd) : Prop where
 lt : p.ts.length <= 90
 lb : p.bs.length <= 90
 le : p.es.length <= 90
 lo : p.os.length <= 90
 fm : ∀ l ∈ lns p, l.fm
structure PdG (p : Pd) : Prop where
 f : PdF p
 nt : p.ts.Nodup
 nb : p.bs.Nodup
 tb : ∀ x ∈ p.bs, x ∉ p.ts
 zt : Str.ofString "zz" ∉ p.ts
 zb : Str.ofString "zz" ∉ p.bs
 rk : h9k (prs p.es)
 es : ∀ e ∈ p.es, (e.1 ∈ p.ts \/ e.1 ∈ p.bs) /\ e.2.1 ∈ p.bs
 no : (p.os.map (·.1)).Nodup
 os : ∀ x ∈ p.os, x.1 ∈ p.bs
structure Ls (H : Hp) (t b sd ou : Addr) (p : Pd) : Prop where
 ht : H t = some (.lst (p.ts.map V.str))
 hb : H b = some (.lst (p.bs.map V.str))
 hs : ∃ us, H sd = some (.lst us) /\ RpL H (fun _ => True) us (p.es.map dSd)
 ho : ∃ us, H ou = some (.lst us) /\ RpL H (fun _ => True) us (p.os.map dOu)
noncomputable def nmB (h : Int) : List Nat := ([111, 112, 113, 114, 115, 116, 117] : List Nat).take (h.fmod 8).toNat
noncomputable def nmA (h : Int) : Nat := ((h.fdiv 8).fmod (((nmB h).length : Int) + 1)).toNat
noncomputable def nmH (h : Int) (k : Nat) : Str := ⟨((nmB h).take (nmA h) ++ (97 + k) :: (nmB h).drop (nmA h)).toArray⟩
noncomputable def h7c : List Dt := [.gain (mkRat 1 2), .gain (mkRat (-3) 4), .gain 0, .gain (mkRat 1000 999), .gain (-1000), .delay 0, .delay 1000, .delay 7, .echo (mkRat 1 3) 4 0, .echo (-2) 1000 16, .echo 1 1 3, .back (mkRat 1 3) 4, .back (-2) 1000, .hall (mkRat 1 2) 9, .hall (mkRat (-999) 1000) 1, .hall 0 1000, .swell [(0, 1)], .swell [(3, mkRat 1 2), (4, mkRat (-1) 2), (100000, 0)], .swell ((List.range 12).map fun k : Nat => (9 * (k : Int), mkRat (k : Int) 1)), .gain (mkRat 7 9)]
noncomputable def crT (k : Nat) : Str := Str.ofString (toString (9 * (k : Int))) ++ Str.ofString "=" ++ Str.ofString (toString (k : Int)) ++ Str.ofString "/1"
def g4p : Sp := fun vs H Q _ => match vs with
 | [.ref q] => ∃ (e : Sd) (lw : Addr), H q = some (.tup [.str e.1, .str e.2.1, .ref lw]) /\ H lw = some (.lst (e.2.2.map V.str)) /\ (Ln.se e).fm /\ (∀ H1, Same H H1 -> Q (.str (Ln.se e).line) H1)
 | _ => False
def g4q : Sp := fun vs H Q _ => match vs with
 | [.ref q] => ∃ x : Str × Int, H q = some (.tup [.str x.1, .int x.2]) /\ (Ln.ou x).fm /\ Q (.str (Ln.ou x).line) H
 | _ => False
def i2o (A : Ad) : Sp := fun vs H Q _ => match vs with
 | [.ref o] => ∃ (N : Addr -> Prop) (p : Pd), c1g A H N o p /\ PdF p /\ (∀ H1, Same H H1 -> Q (.str (ltx (lns p))) H1)
 | _ => False
def h3j (A : Ad) : Sp := fun vs H Q _ => match vs with
 | [.ref o, .str x] => ∃ (N : Addr -> Prop) (p : Pd) (l : Ln), c1g A H N o p /\ x = l.line /\ l.fm /\ l.ok p /\ (∀ H1, b0q N H H1 -> c1g A H1 (fun a => N a \/ H a = none) o (l.app p) -> Q .non H1)
 | _ => False
def i2p (A : Ad) : Sp := fun vs H Q _ => match vs with
 | [.str x] => ∃ (ls : List Ln) (g : Pd), x = ltx ls /\ ls.length <= 370 /\ Tl g Pd0 ls /\ (∀ o H1, Same H H1 -> c1g A H1 (fun a => H a = none) o g -> Q (.ref o) H1)
 | _ => False
def j2l : Sp := fun vs H Q _ => match vs with
 | [.int h, .int k] => 0 <= k /\ k < 11 /\ Q (.str (nmH h k.toNat)) H
 | _ => False
def i2q : Sp := fun vs H Q _ => match vs with
 | [.int _] => ∀ l ws H1, H l = none -> Same H H1 -> H1 l = some (.lst (ws.map V.str)) -> h7b ws -> Q (.ref l) H1
 | _ => False
def g4r : Sp := fun vs H Q _ => match vs with
 | [.ref l, .int _] => ∃ xs : List V, H l = some (.lst xs) /\ xs.length <= 90 /\ (∀ (a : Nat) r H1, H r = none -> Same H H1 -> H1 r = some (.lst ((xs.take a).reverse ++ xs.drop a)) -> Q (.ref r) H1)
 | _ => False
def g4s (K : PySem.W.Frag) : Sp := fun vs H Q _ => match vs with
 | [.ref a] => ∃ ns : List Int, SqL K H a (ns.map V.int) /\ ns.length <= 63 /\ (∀ x ∈ ns, intBits x <= 1048576) /\ (∀ q t b sd ou p H1, Same H H1 -> H1 q = some (.tup [.ref t, .ref b, .ref sd, .ref ou]) -> Ls H1 t b sd ou p -> PdG p -> Q (.ref q) H1)
 | _ => False
def f6v (A : Ad) : Sp := fun vs H Q _ => match vs with
 | [.ref t, .ref b, .ref sd, .ref ou] => ∃ p : Pd, Ls H t b sd ou p /\ PdG p /\ (∀ o H1, Same H H1 -> c1g A H1 (fun a => H a = none) o p -> Q (.ref o) H1)
 | _ => False
def f6w : Sp := fun vs H Q _ => match vs with
 | [.ref t, .ref b, .ref sd, .ref ou] => ∃ p : Pd, Ls H t b sd ou p /\ PdF p /\ (∀ l H1, H l = none -> Same H H1 -> H1 l = some (.lst ((lns p).map fun x => V.str x.line)) -> Q (.ref l) H1)
 | _ => False
def f6y : Sp := fun vs H Q _ => match vs with
 | [.ref t, .ref b, .ref sd, .ref ou] => ∃ p : Pd, Ls H t b sd ou p /\ PdF p /\ (∀ l H1, H l = none -> Same H H1 -> H1 l = some (.lst ((lnO p).map fun x => V.str x.line)) -> Q (.ref l) H1)
 | _ => False
def g4t (A : Ad) : Sp := fun vs H Q _ => match vs with
 | [.ref o, .ref t, .ref b, .ref sd, .ref ou] => ∃ (N : Addr -> Prop) (p : Pd), c1g A H N o p /\ Ls H t b sd ou p /\ PdF p /\ i9n p /\ (∀ H1, Same H H1 -> Q (.bl true) H1)
 | _ => False
noncomputable def swp (p : Pd) : Pd := ⟨p.ts, p.os.map (·.1) ++ p.bs.filter fun z => decide (z ∉ p.os.map (·.1)), p.es, p.os⟩
def h3k (K : PySem.W.Frag) : Sp := fun vs H Q _ => match vs with | [.ref a, .int k] => ∃ ns : List Int, SqL K H a (ns.map V.int) /\ 0 <= k /\ Q (.int (ns.getD k.toNat 0)) H | _ => False
def Hid (ts bs : List Str) (e : Sd) : Prop := (Ln.se e).fm /\ ∃ g : Nat, bs[g]? = some e.2.1 /\ (e.1 ∈ ts \/ e.1 ∈ bs.take g)
noncomputable def abt {α : Type} (xs : List α) (a : Nat) : List α := (xs.take a).reverse ++ xs.drop a
noncomputable def pvS (q : Str -> Bool) : V -> Bool := fun v => match v with | .str s => q s | _ => false
local macro_rules | `(tactic| walk_at $s:str) => do
 unless s.getString == "rd" || s.getString == "rd*" do Lean.Macro.throwUnsupported
 let mut ls : Array (Lean.TSyntax [`Lean.Parser.Tactic.simpStar, `Lean.Parser.Tactic.simpErase, `Lean.Parser.Tactic.simpLemma]) := #[]
 if s.getString == "rd*" then
  let y <- `(Lean.Parser.Tactic.simpStar| *)
  ls := ls.push ⟨y.raw⟩
 for n in "h7a i2a i2b h2y i2c g4e h2z i2d h3a h3b h3c g4f f6p g4g f6q i2f g4h f6r g4i f6s g4j g4k j2d j2e f7w j2f j2g j2h j2i f7y j2j h3e f6t g4l i2g f1o g4m i2h i2i j2k i2j i2k i2l h3f h3g i2m f6u g4n h3h g4o h3i i2n g4p g4q i2o h3j i2p j2l i2q g4r g4s f6v f6w f6y g4t h3k j1g iStr rSlA j1h i6m tFmt j1i i6n j1j i6o j4h tSl3R rSlR i7q h6q i7s i7t i7o i7p i7r j1y j1x j1p rSlG j1n i7d gSub rSetM i7e i7f rIxD rNiD j1w j1q j4h i7a tSl3 rSl3 j1m i0q j1k i9l c9i h8s rInF tAugF i6x rIsI j1l i6y h8y i6z tSeq j0c d1q tC h9u tOp tUn i4r tRet tRetN i9z tCB i5g h4w j0p j0q i5h tAnd tOr tNot tBF i6f tOrF i6g j0a tIf j0o i0m h8l j3x j3y h1b tSl i0c h8m rIF i3x rUF h0y j0r j3p j3q j3r rSlM j0s j1a j1b j0z rIsT rAbs rMin rMax i6h rSumF i6j tBMF j1f j1e i6k j3z j4a j4b j4c i4s j4g i6l j4e j4f hAs _root_.L2.start".splitOn " " do
  let i := Lean.mkIdent n.toName
  let y <- `(Lean.Parser.Tactic.simpLemma| ↓$i:ident)
  ls := ls.push ⟨y.raw⟩
 for n in "noxK Bool.bne_false Bool.bne_true noxK noxK asNew lookup_same h8t i6q i3y i9m List.lookup_nil nq0 nq1 nq2 nq3 nq4 nq5 nq6 nq7 nq8 nq9 nq10 nq11 nq12 nq13 nq14 nq15 nq16 nq17 nq18 nq19 nq20 nq21 nq22 nq23 nq24 nq25 nq26 nq27 nq28 nq29 nq30 nq31 nq32 nq33 nq34 nq35 nq36 nq37 nq38 nq39 nq40 nq41 nq42 nq43 nq44 nq45 nq46 nq47 nq48 nq49 nq50 nq51 nq52 nq53 nq54 nq55 nq56 nq57 nq58 nq59 nq60 nq61 nq62 nq63 nq64 nq65 nq66 nq67 nq68 nq69 nq70 nq71 nq72 nq73 nq74 nq75 nq76 nq77 nq78 nq79 nq80 nq81 nq82 nq83 nq84 nq85 nq86 nq87 nq88 nq89 nq90 nq91 nq92 nq93 nq94 nq95 nq96 nq97 nq98 nq99 nq100 nq101 nq102 nq103 nq104 nq105 nq106 nq107 nq108 nq109 nq110 nq111 nq112 nq113 nq114 nq115 nq116 nq117 nq118 nq119 nq120 nq121 nq122 nq123 nq124 nq125 nq126 nq127 nq128 j3s j3t j3u j3v j3w h8h Ty.nm i9i j3o i6a i6b i6c i6d h8j i0n List.map_cons List.map_nil List.length_cons List.length_nil List.length_map List.replicate List.cons_append List.nil_append List.append_nil List.getElem?_cons_zero List.getElem?_cons_succ List.set_cons_zero List.set_cons_succ Option.some.injEq exists_eq_left' exists_eq_left exists_and_left V.int.injEq V.bl.injEq V.str.injEq V.ref.injEq V.ty.injEq Value.ref.injEq List.cons.injEq HO.lst.injEq HO.tup.injEq Int.zero_add List.length_append and_true true_and j0t j0u j0v j0w j0x two_line if_true reduceCtorEq if_false Bool.false_eq_true decide_eq_true_eq decide_eq_false_iff_not decide_true decide_false Bool.or_true Bool.true_or Bool.or_false Bool.false_or Bool.and_true Bool.true_and Bool.and_false Bool.false_and or_false false_or Nat.zero_add Nat.reduceAdd Nat.reduceSub exists_const false_and and_false Bool.not_true Bool.not_false Bool.not_eq_true' ne_eq not_true_eq_false not_false_eq_true Int.reduceEq Int.reduceNe Int.reduceLT Int.reduceLE Int.reducePow Int.reduceMul Int.reduceAdd Int.reduceSub Int.reduceNeg Int.reduceToNat Nat.reducePow Nat.reduceLT Nat.reduceLeDiff".splitOn " " do
  let i := Lean.mkIdent n.toName
  let y <- `(Lean.Parser.Tactic.simpLemma| $i:ident)
  ls := ls.push ⟨y.raw⟩
 `(tactic| simp (config := { maxSteps := 1000000, dsimp := false }) only [$ls,*])
theorem h7d {l r : Int} (hl : 0 <= l) (hr : 0 < r) : Int.gcd r (l.fmod r) = Int.gcd l r := by
 rw [Int.fmod_eq_emod_of_nonneg _ (by omega)]
 obtain ⟨x, rfl⟩ := Int.eq_ofNat_of_zero_le hl
 obtain ⟨y, rfl⟩ := Int.eq_ofNat_of_zero_le (by omega : 0 <= r)
 rw [<- Int.natCast_emod, Int.gcd_natCast_natCast, Int.gcd_natCast_natCast, Nat.gcd_comm x y, Nat.gcd_rec y x, Nat.gcd_comm]
theorem i2r {l r : Int} (hl : 0 <= l) (hr : 0 < r) : 0 <= l.fmod r /\ l.fmod r < r := by
 rw [Int.fmod_eq_emod_of_nonneg _ (by omega)]
 exact ⟨Int.emod_nonneg _ (by omega), Int.emod_lt_of_pos _ hr⟩
theorem c8k (a : Int) {b : Int} (hb : 0 < b) : 0 <= a.fmod b /\ a.fmod b < b := by
 rw [Int.fmod_eq_emod_of_nonneg _ (by omega)]
 exact ⟨Int.emod_nonneg _ (by omega), Int.emod_lt_of_pos _ hb⟩
theorem i2s (a b : Int) : Int.gcd (a.natAbs : Int) (b.natAbs : Int) = Int.gcd a b := by
 rw [Int.gcd_natCast_natCast]; rfl
theorem gcd_zero {l : Int} (hl : 0 <= l) : ((Int.gcd l 0 : Nat) : Int) = l := by
 rw [Int.gcd_zero_right]; omega
theorem i8f (a b : Int) : (a.natAbs : Int).fdiv (Int.gcd a b : Int) * (b.natAbs : Int) = (Int.lcm a b : Int) := by
 rw [Int.fdiv_eq_ediv_of_nonneg _ (Int.natCast_nonneg _), <- Int.natCast_ediv, <- Int.natCast_mul]
 congr 1
 show a.natAbs / Nat.gcd a.natAbs b.natAbs * b.natAbs = Nat.lcm a.natAbs b.natAbs
 unfold Nat.lcm
 exact Nat.div_mul_right_comm (Nat.gcd_dvd_left _ _) _
theorem lcm_zero {a b : Int} (h : a = 0 \/ b = 0) : Int.lcm a b = 0 := by
 rcases h with rfl | rfl
 ·exact Int.lcm_zero_left _
 ·exact Int.lcm_zero_right _
theorem g6s {a b : Int} {n : Nat} (h : a ≠ 0) (ha : intBits a <= n) : intBits (Int.gcd a b : Int) <= n := by
 refine intBits_le_of_natAbs ?_ ha
 rw [Int.natAbs_natCast]
 exact Nat.le_of_dvd (by omega) (Nat.gcd_dvd_left _ _)
theorem i8g {t b : Int} (hb : b ≠ 0) : t.fdiv (if b < 0 then -(Int.gcd t b : Int) else (Int.gcd t b : Int)) = (Rat.divInt t b).num := by
 rw [Rat.num_divInt, Int.gcd_comm b t]
 have hp : 0 < Int.gcd t b := Int.gcd_pos_of_ne_zero_right t hb
 obtain ⟨k, hk⟩ : (Int.gcd t b : Int) ∣ t := Int.gcd_dvd_left t b
 generalize hg : (Int.gcd t b : Int) = g at *
 have hg0 : 0 < g := by omega
 by_cases h : b < 0
 ·rw [if_pos h, Int.sign_eq_neg_one_of_neg h, hk]
  rw [show g * k = (-g) * (-k) by grind, Int.mul_fdiv_cancel_left _ (by omega), show -1 * (-g * -k) = g * (-k) by grind, Int.mul_ediv_cancel_left _ (by omega)]
 ·rw [if_neg h, Int.sign_eq_one_of_pos (by omega), hk, Int.mul_fdiv_cancel_left _ (by omega), Int.one_mul, Int.mul_ediv_cancel_left _ (by omega)]
theorem i8h {t b : Int} (hb : b ≠ 0) : b.fdiv (if b < 0 then -(Int.gcd t b : Int) else (Int.gcd t b : Int)) = ((Rat.divInt t b).den : Int) := by
 rw [Rat.den_divInt, if_neg hb, Int.gcd_comm b t]
 have hp : 0 < Int.gcd t b := Int.gcd_pos_of_ne_zero_right t hb
 obtain ⟨k, hk⟩ : (Int.gcd t b : Int) ∣ b := Int.gcd_dvd_right t b
 rw [Int.natCast_ediv]
 generalize hg : (Int.gcd t b : Int) = g at *
 have hg0 : 0 < g := by omega
 by_cases h : b < 0
 ·have e : ((b.natAbs : Nat) : Int) = -b := by omega
  rw [if_pos h, e, hk, show g * k = (-g) * (-k) by grind, Int.mul_fdiv_cancel_left _ (by omega), show -(-g * -k) = g * (-k) by grind, Int.mul_ediv_cancel_left _ (by omega)]
 ·have e : ((b.natAbs : Nat) : Int) = b := by omega
  rw [if_neg h, e, hk, Int.mul_fdiv_cancel_left _ (by omega), Int.mul_ediv_cancel_left _ (by omega)]
theorem g6t (q r : Rat) : Rat.divInt (q.num * (r.den : Int) + r.num * (q.den : Int)) ((q.den : Int) * (r.den : Int)) = q + r := by
 conv => rhs; rw [<- Rat.num_divInt_den q, <- Rat.num_divInt_den r]
 rw [Rat.divInt_add_divInt _ _ (by have := q.den_pos; omega) (by have := r.den_pos; omega)]
theorem g0o (q r : Rat) : Rat.divInt (q.num * r.num) ((q.den : Int) * (r.den : Int)) = q * r := by
 conv => rhs; rw [<- Rat.num_divInt_den q, <- Rat.num_divInt_den r]
 rw [Rat.divInt_mul_divInt]
theorem g4u (q : Rat) : (Rat.abs q).num = q.num.natAbs := by
 unfold Rat.abs
 split
 ·rename_i h
  have := Rat.num_nonneg.mpr h
  omega
 ·rename_i h
  have : ¬ 0 <= q.num := fun z => h (Rat.num_nonneg.mp z)
  show -q.num = _
  omega
theorem g4v (q : Rat) : (Rat.abs q).den = q.den := by
 unfold Rat.abs
 split <;> rfl
theorem i8i {t b : Int} (hb : b ≠ 0) : (Rat.divInt t b).num.natAbs <= t.natAbs := by
 rw [Rat.num_divInt]
 have e : (b.sign * t).natAbs = t.natAbs := by
  rw [Int.natAbs_mul, Int.natAbs_sign_of_ne_zero hb, Nat.one_mul]
 rw [<- e]
 exact Int.natAbs_ediv_le_natAbs _ _
theorem i8j {t b : Int} (hb : b ≠ 0) : (Rat.divInt t b).den <= b.natAbs := by
 rw [Rat.den_divInt, if_neg hb]
 exact Nat.div_le_self _ _
theorem f4p (T : Tx K mg A) : a1k P A.wd K mg base CX0 1 A.b7o A.b4t ["one", "other"] h7a := by
 refine T.c3k.ok b8y (fun vs H Q E h => ?_) (fun cdv A' outer s H vs Q E hr h => ?_)
 ·obtain ⟨_, _, rfl, _⟩ := f2m (by unfold h7a at h; exact h)
  rfl
 ·obtain ⟨a, b, rfl, q⟩ := f2m (by unfold h7a at h; exact h)
  have q : Q (.int (Int.gcd a b)) H := q
  have hu := hr.units
  refine ⟨_, (a0j (a0v (i := 2) b8y.nd rfl (Or.inl rfl) (a1o c2s (by rfl) T.g8p boot_abs (a0g (pvF 0) a0h)))
   (a0j (a0v (i := 3) b8y.nd rfl (Or.inl rfl) (a1o c2s (by rfl) T.g8p boot_abs (a0g (pvF 1) a0h)))
   (a0j (d8q PassesOwn.never (a0u (b8i hu) (pvF 3) a0o (a1q _))
   (a0j (a0v (i := 4) b8y.nd rfl (Or.inl rfl) (a1i b8j (pvF 2) (pvF 3)))
   (a0j (a0v (i := 2) b8y.nd rfl (Or.inl rfl) (pvF 3))
   (a0n (a0v (i := 3) b8y.nd rfl (Or.inl rfl) (pvF 4))))))
   (a0n (a0z (pvF 2)))))), ?_⟩
  walk_at "rd"
  refine d8r (fun m σ H1 => ∃ l r z, σ = [some (.int a), some (.int b), some (.int l), some (.int r), z] /\ H1 = H /\ 0 <= l /\ 0 <= r /\ m = r.toNat /\ Int.gcd l r = Int.gcd a b) _
   ⟨_, _, _, rfl, rfl, by omega, by omega, rfl, i2s a b⟩ ?_
  rintro m σ H1 ⟨l, r, z, rfl, rfl, hl, hr', rfl, hg⟩
  walk_at "rd"
  split
  ·rename_i h
   have hp : 0 < r := by omega
   have f := i2r hl hp
   exact ⟨h, _, (by omega : (l.fmod r).toNat < r.toNat), _, _, _, ⟨rfl, rfl, rfl⟩, hr', f.1, rfl, (h7d hl hp).trans hg⟩
  ·rename_i h
   obtain rfl : r = 0 := by omega
   rw [<- hg, gcd_zero hl] at q
   exact q
theorem g4w (T : Tx K mg A) : a1k P A.wd K mg base CX0 2 A.b4u A.b4v ["one", "other"] i2a := by
 have f1p : a1k P A.wd K mg base CX0 1 A.b7o A.b4t ["one", "other"] h7a := f4p T
 refine T.c3l.ok g2q (fun vs H Q E h => ?_) (fun cdv A' outer s H vs Q E hr h => ?_)
 ·obtain ⟨_, _, rfl, _⟩ := f2m (by unfold i2a at h; exact h)
  rfl
 ·obtain ⟨a, b, rfl, ⟨ha, hb, q⟩⟩ := f2m (by unfold i2a at h; exact h)
  have hu := hr.units
  have d5o : a2k 1 _ := hr.mono (by decide)
  refine ⟨_, (a0j (a4g (pw_or (a0u (b1l hu) (pvF 0) a0o (a1q _)) (pw_or1 (a0u (b1l hu) (pvF 1) a0o (a1q _)))).pt
   (a0n (a0z a0o))
   a1l)
   (a0n (a0z (a1i a8m (a1i a8n (a1o c2s (by rfl) T.g8p boot_abs (a0g (pvF 0) a0h)) (a0q f1p d5o (by rfl) T.g0i T.c3k.kp T.g0h .nil a0t (a0g (pvF 0) (a0g (pvF 1) a0h)))) (a1o c2s (by rfl) T.g8p boot_abs (a0g (pvF 1) a0h)))))), ?_⟩
  walk_at "rd"
  split
  ·rename_i h
   rw [lcm_zero h] at q
   exact q
  ·rename_i h
   simp only [not_or] at h
   have hg := g6s (b := b) h.1 ha
   have hn : (Int.gcd a b : Int) ≠ 0 := by
    have := Int.gcd_pos_of_ne_zero_left b h.1
    omega
   refine ⟨⟨hn, Nat.le_trans hg (by decide)⟩, ?_, ?_⟩
   ·exact IntMulOk.of_le (intBits_fdiv_le (intBits_natAbs_le ha)) (intBits_natAbs_le hb) (by decide)
   ·rw [i8f]
    exact q
theorem g6u {t b : Int} {n : Nat} (hb : b ≠ 0) (h : intBits t <= n) : intBits (Rat.divInt t b).num <= n := intBits_le_of_natAbs (i8i hb) h
theorem g6v {t b : Int} {n : Nat} (hb : b ≠ 0) (h : intBits b <= n) : intBits ((Rat.divInt t b).den : Int) <= n := by
 refine intBits_le_of_natAbs ?_ h
 rw [Int.natAbs_natCast]
 exact i8j hb
theorem f1q (T : Tx K mg A) : a1k P A.wd K mg base CX0 1 A.b4p A.b4q ["value"] i2b := by
 refine T.b6o.ok g2o (fun vs H Q E h => ?_) (fun cdv A' outer s H vs Q E hr h => ?_)
 ·obtain ⟨_, rfl, _⟩ := i9o (by unfold i2b at h; exact h)
  rfl
 ·obtain ⟨i, rfl, q⟩ := i9o (by unfold i2b at h; exact h)
  have hu := hr.units
  refine ⟨_, (a0n (a0z (g2c (a1o (c1i .int) (by rfl) T.a6h boot_isinstance (a0g (pvF 0) (a0g (c6r (v := .ty "int") (u := .type "int") (by rfl) T.h2x rfl rfl) a0h))) (h7y (i0o (a1o (c1i .bl) (by rfl) T.a6h boot_isinstance (a0g (pvF 0) (a0g (c6r (v := .ty "bool") (u := .type "bool") (by rfl) T.i8d rfl rfl) a0h)))))))), ?_⟩
  walk_at "rd"
  exact q
theorem d1g (T : Tx K mg A) : a1k P A.wd K mg base CX0 2 A.b4w A.b4y ["top", "bottom"] h2y := by
 have c9g : a1k P A.wd K mg base CX0 1 _ _ _ _ := f1q T
 have f1p : a1k P A.wd K mg base CX0 1 _ _ _ _ := f4p T
 refine T.b6p.ok c9y (fun vs H Q E h => ?_) (fun cdv A' outer s H vs Q E hr h => ?_)
 ·obtain ⟨_, _, rfl, _⟩ := f2m (by unfold h2y at h; exact h)
  rfl
 ·obtain ⟨t, b, rfl, ⟨hb, h1, h2, k⟩⟩ := f2m (by unfold h2y at h; exact h)
  have hu := hr.units
  have c5t : a2k 1 _ := hr.mono (by decide)
  have d5o : a2k 1 _ := hr.mono (by decide)
  refine ⟨_, (a0j (a4g (pw_or (b8h (a6j (a0q c9g c5t (by rfl) T.d5h T.b6o.kp T.d5g .nil a0t (a0g (pvF 0) a0h)))) (pw_or1 (b8h (a6j (a0q c9g c5t (by rfl) T.d5h T.b6o.kp T.d5g .nil a0t (a0g (pvF 1) a0h)))))).pt
   (a0n a1z)
   a1l)
   (a0j (a4g (a0u (b1l hu) (pvF 1) a0o (a1q _))
   (a0n a1z)
   a1l)
   (a0j (a0v (i := 2) c9y.nd rfl (Or.inl rfl) (a0q f1p d5o (by rfl) T.g0i T.c3k.kp T.g0h .nil a0t (a0g (pvF 0) (a0g (pvF 1) a0h))))
   (a2v (a4g (a0u of_lt (pvF 1) a0o (a1q _))
   (a0n (a0v (i := 2) c9y.nd rfl (Or.inl rfl) (i4x h8k (pvF 2))))
   a1l)
   (a0n (a0z (a9z (a0g (a1i a8n (pvF 0) (pvF 2)) (a0g (a1i a8n (pvF 1) (pvF 2)) a0h))))))))), ?_⟩
  walk_at "rd"
  rw [if_neg hb]
  refine ⟨fun σ' H' => σ' = [some (.int t), some (.int b), some (.int (if b < 0 then -(Int.gcd t b : Int) else (Int.gcd t b : Int)))] /\ H' = H, ?_, ?_⟩
  ·walk_at "rd"
   split
   ·rfl
   ·rfl
  ·rintro σ' H' ⟨rfl, rfl⟩
   have hg : intBits (Int.gcd t b : Int) <= 4000 := by
    rw [Int.gcd_comm]
    exact g6s hb h2
   have hp : 0 < Int.gcd t b := Int.gcd_pos_of_ne_zero_right t hb
   have hc : CFd t (if b < 0 then -(Int.gcd t b : Int) else (Int.gcd t b : Int)) := by
    split
    ·exact ⟨by omega, Nat.le_trans (intBits_neg_le hg) (by decide)⟩
    ·exact ⟨by omega, Nat.le_trans hg (by decide)⟩
   walk_at "rd"
   refine ⟨hc, hc, fun p H1 n1 S1 h1 => k _ _ ⟨p, rfl, n1, S1, ?_⟩⟩
   rw [h1, i8g hb, i8h hb]
   rfl
theorem g0p {n : Nat} (h : n < 10 ^ 9) : n.log2 < 1920 := by
 rcases Nat.eq_zero_or_pos n with z | z
 ·rw [z]; decide
 ·rw [Nat.log2_lt (by omega)]
  exact Nat.lt_of_lt_of_le h (Nat.le_trans (by decide : 10 ^ 9 <= 2 ^ 30) (Nat.pow_le_pow_right (by decide) (by decide)))
theorem f4q {t : Int} (h : t.natAbs < 10 ^ 9) : intBits t <= 4000 := by
 refine Nat.le_trans (intBits_le_iff.mpr (Nat.lt_of_lt_of_le h (by decide : 10 ^ 9 <= 2 ^ 30))) (by decide)
theorem f4r (T : Tx K mg A) : a1k P A.wd K mg base CX0 1 A.a8o A.a8u ["text"] i2c := by
 refine T.b3l.ok d2o (fun vs H Q E h => ?_) (fun cdv A' outer s H vs Q E hr h => ?_)
 ·obtain ⟨_, rfl, _⟩ := f7v (by unfold i2c at h; exact h)
  rfl
 ·obtain ⟨x, rfl, q⟩ := f7v (by unfold i2c at h; exact h)
  have q : Q (.bl (h1i (sg x))) H := q
  have hu := hr.units
  refine ⟨_, (a0j (a7u PassesOwn.never rfl (h8r (pvF 0)) (a2m (i := 1) d2o.nd rfl (Or.inl rfl))
   (a0n (a4g (a0u b7i (pvF 1) (a5n (v := .str "0123456789") (by rfl) T.g8s T.d4t) (by rfl))
   (a0n (a0z f2j))
   a1l)))
   (a0n (a0z (c9t (b8i hu) (pvF 0) a0w (a1q _))))), ?_⟩
  walk_at "rd"
  refine h6a (fun i σ H1 => H1 = H /\ (∃ z, σ = [some (.str x), z]) /\ ((sg x).take i).all (fun c => decide (48 <= c) && decide (c <= 57)) = true) ⟨rfl, ⟨_, rfl⟩, rfl⟩ ?_ ?_
  ·rintro i c σ H1 hc ⟨rfl, ⟨z, rfl⟩, ha⟩
   walk_at "rd"
   have hc' : (sg x)[i]? = some c := by
    unfold sg
    rw [Array.getElem?_toList]
    exact hc
   rw [i0s]
   split
   ·rename_i hb
    have : h1i (sg x) = false := by
     unfold h1i
     rw [show (sg x).all (fun c => decide (48 <= c) && decide (c <= 57)) = false from ?_, Bool.false_and]
     rw [List.all_eq_false]
     exact ⟨c, List.mem_of_getElem? hc', by rw [hb]; decide⟩
    rw [this] at q
    exact q
   ·rename_i hb
    refine ⟨⟨_, rfl⟩, ?_⟩
    rw [List.take_add_one, hc', List.all_append, ha]
    simpa using hb
  ·rintro σ H1 ⟨rfl, ⟨z, rfl⟩, ha⟩
   walk_at "rd"
   have hl : x.cps.size = (sg x).length := by simp
   rw [hl, List.take_length] at ha
   have e : h1i (sg x) = !decide (x = Str.ofString "") := by
    unfold h1i
    rw [ha, Bool.true_and]
    congr 1
    rw [Bool.eq_iff_iff, decide_eq_true_eq, List.isEmpty_iff]
    exact ⟨fun h => b1n (h.trans (by decide +kernel)), fun h => by rw [h]; decide +kernel⟩
   rw [e] at q
   exact q
theorem h7e (T : Tx K mg A) : a1k P A.wd K mg base CX0 1 A.a3r A.a3z ["one"] g4e := by
 refine T.a2h.ok a4z (fun vs H Q E h => ?_) (fun cdv A' outer s H vs Q E hr h => ?_)
 ·obtain ⟨_, rfl, _⟩ := b0l (by unfold g4e at h; exact h)
  rfl
 ·obtain ⟨p, rfl, ⟨t, b, hp, l1, l2, q⟩⟩ := b0l (by unfold g4e at h; exact h)
  have hu := hr.units
  refine ⟨_, (a0j (a0v (i := 1) a4z.nd rfl (Or.inl rfl) (a1h a3q (pvF 0) a0o (fun _ _ => rfl)))
   (a0j (a0v (i := 2) a4z.nd rfl (Or.inl rfl) (a1h a3q (pvF 0) a0o (fun _ _ => rfl)))
   (a0n (a0z (a6s (a1v (b1m (pvF 1)) (a1v a0w (a1v (b1m (pvF 2)) c6k)))))))), ?_⟩
  walk_at "rd*"
  have e0 : Str.empty.length = 0 := rfl
  have e1 : (Str.ofString "/").length = 1 := by decide +kernel
  have e2 : (Str.ofString (toString t)).length = (txt t).length := by rw [<- b7j, c1k]
  have e3 : (Str.ofString (toString b)).length = (txt b).length := by rw [<- b7j, c1k]
  have f2 := g2e t
  have f3 := g2e b
  have hs : sizeLine = 16777216 := sizeLine_eq
  simp only [strLen_append, e0, e1, e2, e3]
  refine ⟨by omega, by omega, by omega, by omega, q _ ?_⟩
  rw [a1r, a1r, a1r, c1k, c1k]
  unfold h4x
  have e4 : sg Str.empty = [] := rfl
  have e5 : sg (Str.ofString "/") = [47] := by decide +kernel
  rw [e4, e5]
  simp
theorem i2t (T : Tx K mg A) : a1k P A.wd K mg base CX0 3 A.a4s A.a5g ["text"] h2z := by
 have c8l : a1k P A.wd K mg base CX0 1 _ _ _ _ := f4r T
 have a2i : a1k P A.wd K mg base CX0 1 _ _ _ _ := h7e T
 have c3u : a1k P A.wd K mg base CX0 2 _ _ _ _ := d1g T
 refine T.a8r.ok a6t (fun vs H Q E h => ?_) (fun cdv A' outer s H vs Q E hr h => ?_)
 ·obtain ⟨_, rfl, _⟩ := f7v (by unfold h2z at h; exact h)
  rfl
 ·obtain ⟨x, rfl, ⟨t, b, g, k⟩⟩ := f7v (by unfold h2z at h; exact h)
  have hu := hr.units
  have c5u : a2k 1 _ := hr.mono (by decide)
  have a1u : a2k 1 _ := hr.mono (by decide)
  have c0y : a2k 2 _ := hr.mono (by decide)
  obtain ⟨hx, hb, hg, l1, l2⟩ := g
  have hb0 : b ≠ 0 := by omega
  have tb : txt b = dg b.natAbs := if_neg (by omega)
  have sl : Str.ofString "/" = ⟨#[47]⟩ := by decide +kernel
  have mi : Str.ofString "-" = ⟨#[45]⟩ := by decide +kernel
  have sp := h6b (x := x) (c := 47) (by decide) hx (c1l (by decide) (by decide)) (c1l (by decide) (by decide))
  have hs : sizeLine = 16777216 := sizeLine_eq
  have q1 := i6u t
  have xl : x.length = (txt t).length + ((txt b).length + 1) := by rw [<- b7j, hx]; simp [h4x]
  rw [tb] at xl
  obtain ⟨h0, e0⟩ : ∃ h0 : Str, h0 = ⟨(txt t).toArray⟩ := ⟨_, rfl⟩
  obtain ⟨h1, e1⟩ : ∃ h1 : Str, h1 = ⟨(txt b).toArray⟩ := ⟨_, rfl⟩
  have s0 : sg h0 = txt t := by rw [e0]
  have s1 : sg h1 = txt b := by rw [e1]
  have n0 : h0.length = (txt t).length := by rw [<- b7j, s0]
  have n1 : h1.length = (txt b).length := by rw [<- b7j, s1]
  rw [<- e0, <- e1] at sp
  have sw := i6v s0
  have i0 := d3o s0 (by omega)
  have i1 := d3o s1 (by rw [tb] at n1; omega)
  have r0 : Rat.divInt t b = ⟨t, b.toNat, by omega, by
   show Nat.gcd t.natAbs b.toNat = 1
   rw [<- hg]
   unfold Int.gcd
   congr 1
   omega⟩ := by
   rw [Rat.mk_eq_divInt]
   congr 1
   omega
  refine ⟨_, (a0j (a4g (b8h (a6j (a1o (c1i .str) (by rfl) T.a6h boot_isinstance (a0g (pvF 0) (a0g (c6r (v := .ty "str") (u := .type "str") (by rfl) T.f6m rfl rfl) a0h)))))
   (a0n a1z)
   a1l)
   (a0j (a0v (i := 1) a6t.nd rfl (Or.inl rfl) (a5p a4p PySem.F.plainAttrs_str PySem.F.slot_str_split PySem.F.type_str_split c8s (pvF 0) (a0g a0w a0h)))
   (a0j (a4g (a0u (b8i hu) (a1o a4i (by rfl) T.c8j boot_len (a0g (pvF 1) a0h)) a0o (a1q _))
   (a0n a1z)
   a1l)
   (a2v (a0v (i := 2) a6t.nd rfl (Or.inl rfl) (h5c (a6j (a5p a4p PySem.F.plainAttrs_str PySem.F.slot_str_startswith PySem.F.type_str_startswith d1t (a1h a3q (pvF 1) a0o (fun _ _ => rfl)) (a0g a0w a0h))) (a5j g6f (a1h a3q (pvF 1) a0o (fun _ _ => rfl)) (a4u a0o) a9y) (a1h a3q (pvF 1) a0o (fun _ _ => rfl))))
   (a0j (a7u PassesOwn.never rfl (a1m (a2g (a0g (pvF 2) (a0g (a1h a3q (pvF 1) a0o (fun _ _ => rfl)) a0h)))) (a2m (i := 3) a6t.nd rfl (Or.inl rfl))
   (a0n (a4g (pw_or (b8h (a6j (a0q c8l c5u (by rfl) T.d6s T.b3l.kp T.d6r .nil a0t (a0g (pvF 3) a0h)))) (pw_or1 (a0u f2k (a1o a4i (by rfl) T.c8j boot_len (a0g (pvF 3) a0h)) (a5n (v := .int 9) (by rfl) T.c6p T.a7z) (a1q _)))).pt
   (a0n a1z)
   a1l)))
   (a0j (a4g (a0u (b1l hu) (a4h d1u (by rfl) T.h2x boot_int (a0g (a1h a3q (pvF 1) a0o (fun _ _ => rfl)) a0h)) a0o (a1q _))
   (a0n a1z)
   a1l)
   (a0j (a0v (i := 4) a6t.nd rfl (Or.inl rfl) (a0q c3u c0y (by rfl) T.d5j T.b6p.kp T.d5i .nil a0t (a0g (a4h d1u (by rfl) T.h2x boot_int (a0g (a1h a3q (pvF 1) a0o (fun _ _ => rfl)) a0h)) (a0g (a4h d1u (by rfl) T.h2x boot_int (a0g (a1h a3q (pvF 1) a0o (fun _ _ => rfl)) a0h)) a0h))))
   (a0j (a4g (a0u (b8i hu) (a0q a2i a1u (by rfl) T.a5z T.a2h.kp T.a5y .nil a0t (a0g (pvF 4) a0h)) (pvF 0) (a1q _))
   (a0n a1z)
   a1l)
   (a0n (a0z (pvF 4))))))))))), ?_⟩
  rw [sl, mi]
  have hx' : id (sg x = h4x t b) := hx
  clear e0 e1 hx sl mi
  have d1 : ((⟨#[47]⟩ : Str).length == 0) = false := rfl
  have d2 : x.length <= sizeLine := by omega
  have d3 : 2 <= sizeLine := by omega
  have d4 : h0.length <= sizeLine := by omega
  have d5 : h1.length <= sizeLine := by rw [tb] at n1; omega
  have N0 : h0.length <= 10 := by omega
  have N1 : h1.length <= 9 := by rw [tb] at n1; omega
  clear xl n0 n1 q1 hs
  walk_at "rd*"
  intro p H1 n1' S1 h1'
  walk_at "rd*"
  rw [if_neg (by decide)]
  refine ⟨fun σ' H' => ∃ top : Str, sg top = dg t.natAbs /\ σ' = [some (.str x), some (.ref p), some (.str top), none, none] /\ H' = H1, ?_, ?_⟩
  ·walk_at "rd*"
   split
   ·rename_i ht
    have z := h1j (x := h0) (i := 1) (by
     rw [<- b7j, s0]
     unfold txt
     rw [if_pos ht]
     simp)
    rw [show ((1 : Nat) : Int) = 1 from rfl] at z
    refine ⟨_, ?_, rfl⟩
    rw [z, s0]
    unfold txt
    rw [if_pos ht]
    rfl
   ·rename_i ht
    refine ⟨_, ?_, rfl⟩
    rw [s0]
    unfold txt
    rw [if_neg ht]
  ·rintro σ' H' ⟨top, st, rfl, rfl⟩
   walk_at "rd*"
   intro q H2 n2 S2 h2
   walk_at "rd*"
   have hp2 := S2 _ _ h1'
   refine ⟨⟨_, SqL.of h2⟩, ?_⟩
   have f0 : h1i (sg top) = true := by rw [st]; exact f5i.mpr ⟨c9j _, h1h _⟩
   have f1 : h1i (sg h1) = true := by rw [s1, tb]; exact f5i.mpr ⟨c9j _, h1h _⟩
   have m0 : top.length <= 9 := by rw [<- b7j, st]; exact l1
   have m1 : top.length <= sizeLine := Nat.le_trans m0 (by decide)
   refine a5q (xs := [.str top, .str h1]) (fun i σ H' => H' = H2 /\ ∃ z, σ = [some (.str x), some (.ref p), some (.str top), z, none]) ⟨rfl, _, rfl⟩ (fun i σ H' _ h => by rw [h.1]; exact SqL.of h2) ?_ ?_
   ·rintro i v σ H' hv ⟨rfl, z, rfl⟩
    match i, hv with
    | 0, hv =>
     cases hv
     walk_at "rd*"
     rw [st] at f0
     rw [f0, if_neg (by simp; omega)]
     exact ⟨_, rfl⟩
    | 1, hv =>
     cases hv
     walk_at "rd*"
     rw [s1, tb] at f1
     rw [f1, if_neg (by simp; omega)]
     exact ⟨_, rfl⟩
    | i + 2, hv => cases hv
   ·rintro σ H' ⟨rfl, z, rfl⟩
    walk_at "rd*"
    have v1 : t.natAbs < 10 ^ 9 := by
     have := h8w (c9j t.natAbs)
     rw [g6g] at this
     exact Nat.lt_of_lt_of_le this (Nat.pow_le_pow_right (by decide) l1)
    have v2 : b.natAbs < 10 ^ 9 := by
     have := h8w (c9j b.natAbs)
     rw [g6g] at this
     exact Nat.lt_of_lt_of_le this (Nat.pow_le_pow_right (by decide) l2)
    have g1 : t.natAbs.log2 < 1920 := g0p v1
    have g2 : b.natAbs.log2 < 1920 := g0p v2
    refine ⟨by omega, by omega, by omega, f4q v1, f4q v2, ?_⟩
    rw [r0]
    rintro _ H3 ⟨o, rfl, n3, S3, h3⟩
    replace h3 : H3 o = some (.tup [.int t, .int b]) := by
     rw [h3]
     unfold c6n
     show some (HO.tup [V.int t, V.int ((b.toNat : Nat) : Int)]) = _
     rw [Int.toNat_of_nonneg (by omega)]
    walk_at "rd*"
    refine ⟨t, b, ⟨rfl, rfl⟩, g1, g2, fun y hy => ?_⟩
    rw [if_neg (not_not_intro (b1n (hy.trans hx'.symm)))]
    refine k _ _ ⟨o, rfl, ?_, fun c u e => S3 _ _ (S2 _ _ (S1 _ _ e)), h3⟩
    cases e : H o with
    | none => rfl
    | some u =>
     have := S2 _ _ (S1 _ _ e)
     rw [n3] at this
     cases this
theorem h3l {x : Str} {n : Nat} (h : sg x = txt (n : Int)) : (Txt.startswith x ⟨#[48]⟩ && !decide (x = (⟨#[48]⟩ : Str))) = false := by
 have e : txt (n : Int) = dg n := if_neg (by omega)
 rw [e] at h
 rcases Nat.eq_zero_or_pos n with z | z
 ·subst z
  have : x = ⟨#[48]⟩ := b1n (by rw [h]; rfl)
  rw [this]
  simp
 ·obtain ⟨c, r, e1, e2⟩ := i0r z
  rw [h8x, h, e1]
  simp [e2]
theorem h9l (T : Tx K mg A) : a1k P A.wd K mg base CX0 2 A.b4r A.b4s ["text"] i2d := by
 have c8l : a1k P A.wd K mg base CX0 1 _ _ _ _ := f4r T
 refine T.b9o.ok g2p (fun vs H Q E h => ?_) (fun cdv A' outer s H vs Q E hr h => ?_)
 ·obtain ⟨_, rfl, _⟩ := f7v (by unfold i2d at h; exact h)
  rfl
 ·obtain ⟨x, rfl, ⟨n, hx, hn, q⟩⟩ := f7v (by unfold i2d at h; exact h)
  have hu := hr.units
  have c5u : a2k 1 _ := hr.mono (by decide)
  have sl : Str.ofString "0" = ⟨#[48]⟩ := by decide +kernel
  refine ⟨_, (a0j (a4g (pw_or (b8h (a6j (a0q c8l c5u (by rfl) T.d6s T.b3l.kp T.d6r .nil a0t (a0g (pvF 0) a0h)))) (pw_or1 (a0u f2k (a1o a4i (by rfl) T.c8j boot_len (a0g (pvF 0) a0h)) (a5n (v := .int 13) (by rfl) T.c6o T.a7w) (a1q _)))).pt
   (a0n (a0z g9y))
   a1l)
   (a0j (a4g (pw_and (a6j (a5p a4p PySem.F.plainAttrs_str PySem.F.slot_str_startswith PySem.F.type_str_startswith d1t (pvF 0) (a0g a0w a0h))) (pw_and1 (a0u (b8i hu) (pvF 0) a0w (a1q _)))).pt
   (a0n (a0z g9y))
   a1l)
   (a0n (a0z (a4h d1u (by rfl) T.h2x boot_int (a0g (pvF 0) a0h)))))), ?_⟩
  rw [sl]
  walk_at "rd*"
  have e : txt (n : Int) = dg n := if_neg (by omega)
  have f : h1i (txt (n : Int)) = true := by rw [e]; exact f5i.mpr ⟨c9j _, h1h _⟩
  have lx : x.length <= 13 := by
   rw [<- b7j, hx, e]
   have a := h6j 12 n (by omega)
   omega
  have sw := h3l hx
  have hs : sizeLine = 16777216 := sizeLine_eq
  rw [f, if_neg (by decide)]
  refine ⟨by omega, ?_⟩
  rw [if_neg ?_]
  ·exact ⟨_, d3o hx (by omega), by omega, q⟩
  ·rintro (z | ⟨z1, z2⟩)
   ·omega
   ·rw [z1, Bool.true_and] at sw
    simp [z2] at sw
theorem h9m (x : Rat) : (x.den : Int) ≠ 0 := by
 have := x.den_pos
 omega
theorem f6z (x y : Rat) : (x.den : Int) * (y.den : Int) ≠ 0 := Int.mul_ne_zero (h9m x) (h9m y)
theorem i2u (T : Tx K mg A) : a1k P A.wd K mg base CX0 3 A.f0g A.d3u ["one", "other"] h3a := by
 have c3u : a1k P A.wd K mg base CX0 2 _ _ _ _ := d1g T
 refine T.g0g.ok i1k (fun vs H Q E h => ?_) (fun cdv A' outer s H vs Q E hr h => ?_)
 ·obtain ⟨_, _, rfl, _⟩ := d7k (by unfold h3a at h; exact h)
  rfl
 ·obtain ⟨p, q, rfl, ⟨x, y, ⟨hp, hq, b1, b2, b3, b4⟩, k⟩⟩ := d7k (by unfold h3a at h; exact h)
  have hu := hr.units
  have c0y : a2k 2 _ := hr.mono (by decide)
  unfold c6n at hp hq
  refine ⟨_, (a0n (a0z (a0q c3u c0y (by rfl) T.d5j T.b6p.kp T.d5i .nil a0t (a0g (a1i a1j (a1i a8m (a1h a3q (pvF 0) a0o (fun _ _ => rfl)) (a1h a3q (pvF 1) a0o (fun _ _ => rfl))) (a1i a8m (a1h a3q (pvF 1) a0o (fun _ _ => rfl)) (a1h a3q (pvF 0) a0o (fun _ _ => rfl)))) (a0g (a1i a8m (a1h a3q (pvF 0) a0o (fun _ _ => rfl)) (a1h a3q (pvF 1) a0o (fun _ _ => rfl))) a0h))))), ?_⟩
  walk_at "rd*"
  refine ⟨by walk_at "mul", by walk_at "mul", by walk_at "mul", f6z x y, by walk_at "le", by walk_at "le", ?_⟩
  rw [g6t]
  exact k
theorem i2v (T : Tx K mg A) : a1k P A.wd K mg base CX0 3 A.d0i A.c8w ["one", "other"] h3b := by
 have c3u : a1k P A.wd K mg base CX0 2 _ _ _ _ := d1g T
 refine T.d4q.ok h6v (fun vs H Q E h => ?_) (fun cdv A' outer s H vs Q E hr h => ?_)
 ·obtain ⟨_, _, rfl, _⟩ := d7k (by unfold h3b at h; exact h)
  rfl
 ·obtain ⟨p, q, rfl, ⟨x, y, ⟨hp, hq, b1, b2, b3, b4⟩, k⟩⟩ := d7k (by unfold h3b at h; exact h)
  have hu := hr.units
  have c0y : a2k 2 _ := hr.mono (by decide)
  unfold c6n at hp hq
  refine ⟨_, (a0n (a0z (a0q c3u c0y (by rfl) T.d5j T.b6p.kp T.d5i .nil a0t (a0g (a1i a8m (a1h a3q (pvF 0) a0o (fun _ _ => rfl)) (a1h a3q (pvF 1) a0o (fun _ _ => rfl))) (a0g (a1i a8m (a1h a3q (pvF 0) a0o (fun _ _ => rfl)) (a1h a3q (pvF 1) a0o (fun _ _ => rfl))) a0h))))), ?_⟩
  walk_at "rd*"
  refine ⟨by walk_at "mul", by walk_at "mul", f6z x y, by walk_at "le", by walk_at "le", ?_⟩
  rw [g0o]
  exact k
theorem i2w (T : Tx K mg A) : a1k P A.wd K mg base CX0 1 A.b9v A.b8z ["one"] h3c := by
 refine T.c7s.ok g8a (fun vs H Q E h => ?_) (fun cdv A' outer s H vs Q E hr h => ?_)
 ·obtain ⟨_, rfl, _⟩ := b0l (by unfold h3c at h; exact h)
  rfl
 ·obtain ⟨p, rfl, ⟨x, hp, k⟩⟩ := b0l (by unfold h3c at h; exact h)
  have hu := hr.units
  unfold c6n at hp
  refine ⟨_, (a0n (a0z (a9z (a0g (a1o c2s (by rfl) T.g8p boot_abs (a0g (a1h a3q (pvF 0) a0o (fun _ _ => rfl)) a0h)) (a0g (a1h a3q (pvF 0) a0o (fun _ _ => rfl)) a0h))))), ?_⟩
  walk_at "rd*"
  intro b H1 n1 S1 h1
  refine k _ _ ⟨b, rfl, n1, S1, ?_⟩
  rw [h1]
  unfold c6n
  rw [g4u, g4v]
theorem h7f (T : Tx K mg A) : a1k P A.wd K mg base CX0 1 A.b4z A.b5g ["one", "other"] g4f := by
 refine T.c3m.ok g2r (fun vs H Q E h => ?_) (fun cdv A' outer s H vs Q E hr h => ?_)
 ·obtain ⟨_, _, rfl, _⟩ := d7k (by unfold g4f at h; exact h)
  rfl
 ·obtain ⟨p, q, rfl, ⟨x, y, ⟨hp, hq, b1, b2, b3, b4⟩, k⟩⟩ := d7k (by unfold g4f at h; exact h)
  have hu := hr.units
  unfold c6n at hp hq
  refine ⟨_, (a0n (a0z (c9t of_lt (a1i a8m (a1h a3q (pvF 0) a0o (fun _ _ => rfl)) (a1h a3q (pvF 1) a0o (fun _ _ => rfl))) (a1i a8m (a1h a3q (pvF 1) a0o (fun _ _ => rfl)) (a1h a3q (pvF 0) a0o (fun _ _ => rfl))) (a1q _)))), ?_⟩
  walk_at "rd*"
  exact ⟨by walk_at "mul", by walk_at "mul"⟩
theorem i8k {p q : Int} (h : 1 <= q) (g : Int.gcd p q = 1) : ∃ y : Rat, y.num = p /\ (y.den : Int) = q := by
 refine ⟨⟨p, q.toNat, by omega, ?_⟩, rfl, ?_⟩
 ·show Nat.gcd p.natAbs q.toNat = 1
  rw [show q.toNat = q.natAbs by omega]
  exact g
 ·show ((q.toNat : Nat) : Int) = q
  omega
theorem g0q {x y : Rat} {a b c d : Nat} (h1 : intBits x.num <= a) (h2 : intBits (x.den : Int) <= b) (h3 : intBits y.num <= c) (h4 : intBits (y.den : Int) <= d) : intBits (x * y).num <= a + c /\ intBits ((x * y).den : Int) <= b + d := by
 rw [<- g0o]
 have ne : (x.den : Int) * (y.den : Int) ≠ 0 := f6z x y
 exact ⟨g6u ne (intBits_mul_le h1 h3), g6v ne (intBits_mul_le h2 h4)⟩
theorem g8w {x y : Rat} {a : Nat} (h1 : intBits x.num <= a) (h2 : intBits (x.den : Int) <= a) (h3 : intBits y.num <= a) (h4 : intBits (y.den : Int) <= a) : intBits (x + y).num <= a + a + 1 /\ intBits ((x + y).den : Int) <= a + a := by
 rw [<- g6t]
 have ne : (x.den : Int) * (y.den : Int) ≠ 0 := f6z x y
 refine ⟨g6u ne ?_, g6v ne (intBits_mul_le h2 h4)⟩
 have := intBits_add_le (intBits_mul_le h1 h4) (intBits_mul_le h3 h2)
 omega
theorem g6q.rts {l : Addr} {H : Hp} {qs : List Addr} {ss : List Rat} (h : g6q l H qs ss) : Rts H qs ss := ⟨h.1, fun i q s e1 e2 => (h.2 i q s e1 e2).2⟩
theorem Rts.same {H H' : Hp} {qs : List Addr} {ss : List Rat} (h : Rts H qs ss) (S : Same H H') : Rts H' qs ss := ⟨h.1, fun i q s e1 e2 => S _ _ (h.2 i q s e1 e2)⟩
theorem Rts.d3g {o : Addr} {H H' : Hp} {qs : List Addr} {ss : List Rat} {C dx : Addr} {fs : List (Str × V)} (h : Rts H qs ss) (ho : H o = some (.ins C dx fs)) (S : a2p o H H') : Rts H' qs ss :=
 ⟨h.1, fun i q s e1 e2 => S _ _ (fun z => by have := h.2 i q s e1 e2; rw [z, ho] at this; cases this) (h.2 i q s e1 e2)⟩
theorem g6q.d3g {l : Addr} {H H' : Hp} {qs : List Addr} {ss : List Rat} (h : g6q l H qs ss) (S : a2p l H H') : g6q l H' qs ss := ⟨h.1, fun i q s e1 e2 => ⟨(h.2 i q s e1 e2).1, S _ _ (h.2 i q s e1 e2).1 (h.2 i q s e1 e2).2⟩⟩
theorem g6q.same {l : Addr} {H H' : Hp} {qs : List Addr} {ss : List Rat} (h : g6q l H qs ss) (S : Same H H') : g6q l H' qs ss := h.d3g fun b o _ e => S b o e
theorem g6q.nil {l : Addr} {H : Hp} : g6q l H [] [] := ⟨rfl, fun i q s e => by simp at e⟩
theorem g6q.snoc {l : Addr} {H : Hp} {qs : List Addr} {ss : List Rat} {q : Addr} {s : Rat} (h : g6q l H qs ss) (hl : q ≠ l) (hq : H q = some (.tup (c6n s))) : g6q l H (qs ++ [q]) (ss ++ [s]) := by
 refine ⟨by rw [List.length_append, List.length_append, h.1]; rfl, fun i q' s' e1 e2 => ?_⟩
 by_cases hi : i < qs.length
 ·rw [List.getElem?_append_left hi] at e1
  rw [List.getElem?_append_left (by rw [<- h.1]; exact hi)] at e2
  exact h.2 i q' s' e1 e2
 ·rw [List.getElem?_append_right (by omega)] at e1
  rw [List.getElem?_append_right (by rw [<- h.1]; omega)] at e2
  rw [<- h.1] at e2
  cases hz : i - qs.length with
  | zero =>
   rw [hz] at e1 e2
   simp at e1 e2
   subst e1 e2
   exact ⟨hl, hq⟩
  | succ n =>
   rw [hz] at e1
   simp at e1
theorem Rts.get {H : Hp} {qs : List Addr} {ss : List Rat} (h : Rts H qs ss) {i : Nat} {v : V} (e : (qs.map V.ref)[i]? = some v) : ∃ q s, v = .ref q /\ ss[i]? = some s /\ H q = some (.tup (c6n s)) := by
 rw [List.getElem?_map] at e
 obtain ⟨q, hq, rfl⟩ := Option.map_eq_some_iff.mp e
 have hi : i < qs.length := (List.getElem?_eq_some_iff.mp hq).1
 have hr : ss[i]? = some (ss[i]'(by rw [<- h.1]; exact hi)) := List.getElem?_eq_getElem _
 exact ⟨q, _, rfl, hr, h.2 i q _ hq hr⟩
theorem Crn.same {H H' : Hp} {ps : List Addr} {cs : List (Int × Rat)} (h : Crn H ps cs) (S : Same H H') : Crn H' ps cs := ⟨h.1, fun i p c e1 e2 => (h.2 i p c e1 e2).elim fun g z => ⟨g, S _ _ z.1, S _ _ z.2⟩⟩
theorem Crn.d3g {o : Addr} {H H' : Hp} {ps : List Addr} {cs : List (Int × Rat)} {C dx : Addr} {fs : List (Str × V)} (h : Crn H ps cs) (ho : H o = some (.ins C dx fs)) (S : a2p o H H') : Crn H' ps cs :=
 ⟨h.1, fun i p c e1 e2 => (h.2 i p c e1 e2).elim fun g z => ⟨g, S _ _ (fun e => by have := z.1; rw [e, ho] at this; cases this) z.1, S _ _ (fun e => by have := z.2; rw [e, ho] at this; cases this) z.2⟩⟩
theorem Crn.get {H : Hp} {ps : List Addr} {cs : List (Int × Rat)} (h : Crn H ps cs) {i : Nat} {v : V} (e : (ps.map V.ref)[i]? = some v) : ∃ p c g, v = .ref p /\ cs[i]? = some c /\ H p = some (.tup [.int c.1, .ref g]) /\ H g = some (.tup (c6n c.2)) := by
 rw [List.getElem?_map] at e
 obtain ⟨p, hp, rfl⟩ := Option.map_eq_some_iff.mp e
 have hi : i < ps.length := (List.getElem?_eq_some_iff.mp hp).1
 have hr : cs[i]? = some (cs[i]'(by rw [<- h.1]; exact hi)) := List.getElem?_eq_getElem _
 obtain ⟨g, h1, h2⟩ := h.2 i p _ hp hr
 exact ⟨p, _, g, rfl, hr, h1, h2⟩
theorem g0r (bs : List Int) (b : Int) : g9r (bs ++ [b]) = (Int.lcm (g9r bs) b : Int) := by
 unfold g9r
 rw [List.foldl_append]
 rfl
theorem j2m {α : Type} {p : List α -> Prop} (h0 : p []) (hs : ∀ l x, p l -> p (l ++ [x])) (l : List α) : p l := by
 have : ∀ l : List α, p l.reverse := fun l => by
  induction l with
  | nil => exact h0
  | cons x l ih => rw [List.reverse_cons]; exact hs _ _ ih
 have z := this l.reverse
 rwa [List.reverse_reverse] at z
theorem h3m {a b : Int} {m n : Nat} (h : ¬ (a = 0 /\ b = 0)) (ha : intBits a <= m) (hb : intBits b <= n) : intBits (Int.lcm a b : Int) <= m + n := by
 refine intBits_le_of_natAbs ?_ (intBits_mul_le ha hb)
 have hp : 0 < Int.gcd a b := by
  rw [Int.gcd_pos_iff]
  omega
 rw [Int.natAbs_natCast, Int.natAbs_mul, <- Int.gcd_mul_lcm]
 exact Nat.le_mul_of_pos_left _ hp
theorem h3n (bs : List Int) : (∀ b ∈ bs, 1 <= b /\ intBits b <= 64) -> 1 <= g9r bs /\ (∀ b ∈ bs, b ∣ g9r bs) /\ intBits (g9r bs) <= 1 + 64 * bs.length := by
 induction bs using j2m with
 | h0 => exact fun _ => ⟨by decide, (fun b hb => by cases hb), by decide⟩
 | hs l x ih =>
  intro h
  have i := ih fun b hb => h b (List.mem_append_left _ hb)
  have hx := h x (List.mem_append_right _ (List.mem_singleton.mpr rfl))
  rw [g0r, List.length_append, List.length_singleton]
  have lp : 0 < Int.lcm (g9r l) x := Int.lcm_pos (by omega) (by omega)
  refine ⟨by omega, fun b hb => ?_, Nat.le_trans (h3m (by omega) i.2.2 hx.2) (by omega)⟩
  rcases List.mem_append.mp hb with e | e
  ·exact Int.dvd_trans (i.2.1 b e) (Int.dvd_lcm_left _ _)
  ·rw [List.mem_singleton.mp e]
   exact Int.dvd_lcm_right _ _
theorem h3o (T : Tx K mg A) : a1k P A.wd K mg base CX0 3 A.a4t A.a5h ["bottoms"] f6p := by
 have g8x : a1k P A.wd K mg base CX0 2 _ _ _ _ := g4w T
 refine T.a8s.ok b0m (fun vs H Q E h => ?_) (fun cdv A' outer s H vs Q E hr h => ?_)
 ·obtain ⟨_, rfl, _⟩ := b0l (by unfold f6p at h; exact h)
  rfl
 ·obtain ⟨p, rfl, ⟨bs, hp, O, L, q⟩⟩ := b0l (by unfold f6p at h; exact h)
  have hu := hr.units
  have g4x : a2k 2 _ := hr.mono (by decide)
  refine ⟨_, (a0j (a0v (i := 1) b0m.nd rfl (Or.inl rfl) a0o)
   (a0j (a7u PassesOwn.never rfl (a1m (pvF 0)) (a2m (i := 2) b0m.nd rfl (Or.inl rfl))
   (a0n (a0v (i := 1) b0m.nd rfl (Or.inl rfl) (a0q g8x g4x (by rfl) T.g8g T.c3l.kp T.g8f .nil a0t (a0g (pvF 1) (a0g (pvF 2) a0h))))))
   (a0n (a0z (pvF 1))))), ?_⟩
  walk_at "rd"
  refine ⟨⟨_, SqL.of hp⟩, ?_⟩
  obtain ⟨Pv, pin, pout⟩ := d1s (fun i σ H' => ∃ (v2 : Option V), σ = [some (.ref p), some (.int (g9r (bs.take i))), v2] /\ H' = H)
  refine a5q (xs := bs.map V.int) Pv (pin _ _ _ ⟨_, rfl, rfl⟩) ?_ ?_ ?_
  ·intro i σ H2 hi hp'
   obtain ⟨v2, rfl, rfl⟩ := pout _ _ _ hp'
   exact SqL.of hp
  ·intro i v σ H2 hv hp'
   obtain ⟨v2, rfl, rfl⟩ := pout _ _ _ hp'
   rw [List.getElem?_map] at hv
   obtain ⟨b, hb, rfl⟩ := Option.map_eq_some_iff.mp hv
   have Ob := O b (List.mem_of_getElem? hb)
   have lk := h3n (bs.take i) fun b hb => O b (List.mem_of_mem_take hb)
   have hl : (bs.take i).length <= 24 := by rw [List.length_take]; omega
   have et : bs.take (i + 1) = bs.take i ++ [b] := by rw [List.take_add_one, hb]; rfl
   walk_at "rd"
   refine ⟨by omega, by omega, pin _ _ _ ⟨some (.int b), ?_, rfl⟩⟩
   rw [et, g0r]
  ·intro σ H2 hp'
   obtain ⟨v2, rfl, rfl⟩ := pout _ _ _ hp'
   rw [List.length_map, List.take_of_length_le (Nat.le_refl _)]
   walk_at "rd"
   exact q
theorem h7g (T : Tx K mg A) : a1k P A.wd K mg base CX0 1 A.f0h A.d3v ["one", "bottom"] g4g := by
 refine T.f4k.ok i1l (fun vs H Q E h => ?_) (fun cdv A' outer s H vs Q E hr h => ?_)
 ·obtain ⟨_, _, rfl, _⟩ := d7j (by unfold g4g at h; exact h)
  rfl
 ·obtain ⟨p, S, rfl, ⟨y, hp, b1, b2, b3, q⟩⟩ := d7j (by unfold g4g at h; exact h)
  have hu := hr.units
  unfold c6n at hp
  have dp := y.den_pos
  refine ⟨_, (a0n (a0z (a1i a8m (a1h a3q (pvF 0) a0o (fun _ _ => rfl)) (a1i a8n (pvF 1) (a1h a3q (pvF 0) a0o (fun _ _ => rfl)))))), ?_⟩
  walk_at "rd*"
  exact ⟨⟨by omega, by omega⟩, IntMulOk.of_le b1 (intBits_fdiv_le b3) (by decide)⟩
theorem i2x (a : Rat) : a * ((a.den : Int) : Rat) = (a.num : Rat) := by
 have h : ((a.den : Int) : Rat) ≠ 0 := fun e => by
  have := Rat.intCast_inj.mp (e.trans (by rfl : (0 : Rat) = ((0 : Int) : Rat)))
  have := a.den_pos
  omega
 conv => lhs; lhs; rw [<- Rat.num_divInt_den a]
 rw [Rat.divInt_eq_div, Rat.div_def, Rat.mul_assoc, Rat.inv_mul_cancel _ h, Rat.mul_one]
theorem i8l {iv : Rat} {n : Int} (h1 : iv.num = 1) (h2 : (iv.den : Int) = n) (x : Rat) : x * iv * (n : Rat) = x := by
 rw [<- h2, Rat.mul_assoc, i2x, h1]
 exact Rat.mul_one x
theorem h3p (T : Tx K mg A) : a1k P A.wd K mg base CX0 4 A.b0s A.b2g ["corners"] f6q := by
 have i8m : a1k P A.wd K mg base CX0 3 _ _ _ _ := i2u T
 have h3q : a1k P A.wd K mg base CX0 3 _ _ _ _ := i2v T
 refine T.c0l.ok b7l (fun vs H Q E h => ?_) (fun cdv A' outer s H vs Q E hr h => ?_)
 ·obtain ⟨_, rfl, _⟩ := b0l (by unfold f6q at h; exact h)
  rfl
 ·obtain ⟨ct, rfl, ⟨ps, cs, hct, R, O, L1, L12, k⟩⟩ := b0l (by unfold f6q at h; exact h)
  have hu := hr.units
  have i2y : a2k 3 _ := hr.mono (by decide)
  have g6w : a2k 3 _ := hr.mono (by decide)
  have pl := R.1
  refine ⟨_, (a0j (a0v (i := 1) b7l.nd rfl (Or.inl rfl) (a2g a0h))
   (a0j (a7u PassesOwn.never rfl (h1o (by rfl) T.i1t (a0g (pvF 0) (a0g (a5j j4k (pvF 0) (a4u a0o) a9y) a0h))) (d3p (n := 2) rfl (a4j (a2m (i := 2) b7l.nd rfl (Or.inl rfl)) (a4j (a2m (i := 3) b7l.nd rfl (Or.inl rfl)) c8t)))
   (a0j (a0v (i := 4) b7l.nd rfl (Or.inl rfl) (a0q i8m i2y (by rfl) T.i7y T.g0g.kp T.i7x .nil a0t (a0g (a1h a3q (pvF 3) a0o (fun _ _ => rfl)) (a0g (a0q h3q g6w (by rfl) T.h2l T.d4q.kp T.h2j .nil a0t (a0g (a9z (a0g (i4x h8k a0o) (a0g a0o a0h))) (a0g (a1h a3q (pvF 2) a0o (fun _ _ => rfl)) a0h))) a0h))))
   (a0n (a2n (a5p a8h PySem.F.plainAttrs_list PySem.F.slot_list_append PySem.F.type_list_append a4m (pvF 1) (a0g (a0q h3q g6w (by rfl) T.h2l T.d4q.kp T.h2j .nil a0t (a0g (pvF 4) (a0g (a9z (a0g a0o (a0g (a1i h1a (a1h a3q (pvF 3) a0o (fun _ _ => rfl)) (a1h a3q (pvF 2) a0o (fun _ _ => rfl))) a0h))) a0h))) a0h))))))
   (a0j (a2n (a5p a8h PySem.F.plainAttrs_list PySem.F.slot_list_append PySem.F.type_list_append a4m (pvF 1) (a0g (a9z (a0g a0o (a0g a0o a0h))) a0h)))
   (a0n (a0z (pvF 1)))))), ?_⟩
  walk_at "rd"
  refine ⟨Nat.zero_le _, fun l H1 n1 S1 h1 => ?_⟩
  have j4m := S1 _ _ hct
  walk_at "rd*"
  refine ⟨fun z => ?_, fun c2 H2 n2 S2 h2 => ?_⟩
  ·have := z.1
   rw [show (some (1 : Int)) = some ((1 : Nat) : Int) from rfl, HT.d8k] at this
   omega
  have e2 : d3k (ps.map V.ref) (some 1) none = (ps.drop 1).map V.ref := by
   show d7q (ps.map V.ref) (some ((1 : Nat) : Int)) none = _
   rw [b0h, List.map_drop]
  rw [e2] at h2
  have i8n := S2 _ _ j4m
  have h12 := S2 _ _ h1
  clear j4m h1
  walk_at "rd*"
  obtain ⟨Pv, pin, pout⟩ := d1s (fun i σ H' => ∃ (v2 v3 v4 : Option V) (qs : List Addr) (ss : List Rat), σ = [some (.ref ct), some (.ref l), v2, v3, v4] /\ Same H H' /\ H' c2 = some (.tup ((ps.drop 1).map V.ref)) /\ H' l = some (.lst (qs.map V.ref)) /\ g6q l H' qs ss /\ ss.length = i /\ (∀ s ∈ ss, intBits s.num <= 60 /\ intBits (s.den : Int) <= 60) /\ ∀ j s, ss[j]? = some s -> SlR cs j s)
  refine g6j (xs := ps.map V.ref) (ys := (ps.drop 1).map V.ref) Pv (pin _ _ _ ⟨_, _, _, [], [], rfl, S1.trans S2, h2, h12, .nil, rfl, (fun s hs => by cases hs), (fun j s e => by simp at e)⟩) ?_ ?_ ?_
  ·intro i σ H3 hp
   obtain ⟨v2, v3, v4, qs, ss, rfl, S3, h3, hl3, R3, L3, B3, V3⟩ := pout _ _ _ hp
   exact ⟨SqT.of (S3 _ _ hct), SqT.of h3⟩
  ·intro i x y σ H3 p H4 hx hy hp np S4 h4
   obtain ⟨v2, v3, v4, qs, ss, rfl, S3, h3, hl3, R3, L3, B3, V3⟩ := pout _ _ _ hp
   obtain ⟨pc, c, g, rfl, hc, hpc, hg⟩ := R.get hx
   have hy' : (ps.map V.ref)[i + 1]? = some y := by
    rw [List.map_drop, List.getElem?_drop] at hy
    rwa [Nat.add_comm] at hy
   obtain ⟨pd, d, gd, rfl, hd, hpd, hgd⟩ := R.get hy'
   have Oc := O.1 c (List.mem_of_getElem? hc)
   have Od := O.1 d (List.mem_of_getElem? hd)
   have lt := O.2 i c d hc hd
   have S04 := S3.trans S4
   have hpc4 := S04 _ _ hpc
   have hpd4 := S04 _ _ hpd
   clear i8n h12 h2
   walk_at "rd*"
   refine fun m H5 n5 S5 h5 => ?_
   have S05 := S04.trans S5
   have hpc5 := S05 _ _ hpc
   clear hpc4
   walk_at "rd*"
   refine ⟨-1, c.2, ⟨h5, S05 _ _ hg, by decide, by decide, by omega, by omega⟩, ?_⟩
   rintro _ H6 ⟨t6, rfl, n6, S6, h6⟩
   have S06 := S05.trans S6
   have m1 := g0q (x := -1) (y := c.2) (a := 1) (b := 1) (by decide) (by decide) Oc.2.2.1 Oc.2.2.2
   walk_at "rd"
   refine ⟨d.2, -1 * c.2, ⟨S06 _ _ hgd, h6, by omega, by omega, by omega, by omega⟩, ?_⟩
   rintro _ H7 ⟨t7, rfl, n7, S7, h7⟩
   have S07 := S06.trans S7
   have m2 := g8w (x := d.2) (y := -1 * c.2) (a := 11) (by omega) (by omega) (by omega) (by omega)
   have hpc7 := S07 _ _ hpc
   have hpd7 := S07 _ _ hpd
   have hl7 := S7 _ _ (S6 _ _ (S5 _ _ (S4 _ _ hl3)))
   clear hpd4 hpc5 h5 h4
   walk_at "rd*"
   refine fun u H8 n8 S8 h8 => ?_
   obtain ⟨iv, in1, in2⟩ := i8k (p := 1) (q := d.1 - c.1) (by omega) (by rw [Int.gcd_one_left])
   have h8' : H8 u = some (.tup (c6n iv)) := by rw [h8, <- in1, <- in2]; rfl
   have b1 : intBits iv.num <= 1 := by rw [in1]; decide
   have b2 : intBits (iv.den : Int) <= 20 := by rw [in2]; exact intBits_le_iff.mpr (Nat.lt_of_le_of_lt (by omega : (d.1 - c.1).natAbs <= 200000) (by decide))
   have m3 := g0q (x := d.2 + -1 * c.2) (y := iv) m2.1 m2.2 b1 b2
   walk_at "rd"
   refine ⟨d.2 + -1 * c.2, iv, ⟨S8 _ _ h7, h8', by omega, by omega, by omega, by omega⟩, ?_⟩
   rintro _ H9 ⟨t9, rfl, n9, S9, h9⟩
   have S79 := S8.trans S9
   have hl9 := S79 _ _ hl7
   have tl : t9 ≠ l := fun e => by rw [e, S8 _ _ hl7] at n9; cases n9
   have ql := R3.1
   have hc2l : c2 ≠ l := fun e => by rw [e, hl3] at h3; cases h3
   clear hpc7 hpd7 h8
   walk_at "rd*"
   refine ⟨by rw [sizeLine_eq]; have := (List.getElem?_eq_some_iff.mp hc).1; omega, ?_⟩
   rintro _ H10 ⟨rfl, B10, h10⟩
   have S39 : Same H3 H9 := S4.trans (S5.trans (S6.trans (S7.trans S79)))
   refine pin _ _ _ ⟨_, _, _, qs ++ [t9], ss ++ [(d.2 + -1 * c.2) * iv], rfl, (S3.trans S39).step n1 B10, B10 _ _ hc2l (S39 _ _ h3), by rw [h10, List.map_append]; rfl, ((R3.same S39).snoc tl h9).d3g B10, by rw [List.length_append, L3]; rfl, fun s hs => ?_, fun j s e => ?_⟩
   ·rcases List.mem_append.mp hs with z | z
    ·exact B3 s z
    ·rw [List.mem_singleton.mp z]
     omega
   ·rcases Nat.lt_or_ge j ss.length with hj | hj
    ·rw [List.getElem?_append_left hj] at e
     exact V3 j s e
    ·rw [List.getElem?_append_right hj] at e
     have hj0 : j - ss.length = 0 := by
      rcases Nat.eq_zero_or_pos (j - ss.length) with z | z
      ·exact z
      ·rw [List.getElem?_eq_none (by rw [List.length_singleton]; omega)] at e
       cases e
     rw [hj0] at e
     cases e
     have ji : j = i := by omega
     subst ji
     intro c' d' hc' hd'
     rw [hc] at hc'
     rw [hd] at hd'
     cases hc'
     cases hd'
     rw [i8l in1 in2]
     rw [Rat.sub_eq_add_neg, Rat.neg_mul, Rat.one_mul]
  ·intro σ H3 hp
   obtain ⟨v2, v3, v4, qs, ss, rfl, S3, h3, hl3, R3, L3, B3, V3⟩ := pout _ _ _ hp
   have ql := R3.1
   rw [List.length_map, List.length_map, List.length_drop] at L3
   clear i8n h12 h2
   walk_at "rd*"
   refine fun u H4 n4 S4 h4 => ?_
   have hl4 := S4 _ _ hl3
   have ul : u ≠ l := fun e => by rw [e, hl3] at n4; cases n4
   have h4' : H4 u = some (.tup (c6n 0)) := h4
   walk_at "rd*"
   refine ⟨by rw [sizeLine_eq]; omega, ?_⟩
   rintro _ H5 ⟨rfl, B5, h5⟩
   walk_at "rd"
   refine k l H5 (qs ++ [u]) (ss ++ [0]) n1 ((S3.trans S4).step n1 B5) (by rw [h5, List.map_append]; rfl) (((R3.same S4).snoc ul h4').d3g B5).rts (by rw [List.length_append, List.length_singleton]; omega) (fun s hs => ?_) (fun j s e => ?_) ?_
   ·rcases List.mem_append.mp hs with z | z
    ·exact B3 s z
    ·rw [List.mem_singleton.mp z]
     exact ⟨by decide, by decide⟩
   ·rcases Nat.lt_or_ge j ss.length with hj | hj
    ·rw [List.getElem?_append_left hj] at e
     exact V3 j s e
    ·intro c' d' hc' hd'
     have := (List.getElem?_eq_some_iff.mp hd').1
     omega
   ·rw [List.getElem?_append_right (by omega), show cs.length - 1 - ss.length = 0 by omega]
    rfl
theorem d7u (n : Int) (m : Nat) : (h3d n m).length = m + 1 := by unfold h3d; simp
theorem f7g {n : Int} {m i : Nat} (h : i < m + 1) : (h3d n m).getD i 0 = n ^ i := by
 unfold h3d
 rw [List.getD_eq_getElem?_getD, List.getElem?_map, List.getElem?_range h]
 rfl
theorem f7h {n : Int} (h : intBits n <= 10) : ∀ j : Nat, intBits (n ^ j) <= 1 + 10 * j
 | 0 => by rw [Int.pow_zero]; decide
 | j + 1 => by
  rw [Int.pow_succ]
  exact Nat.le_trans (intBits_mul_le (f7h h j) h) (by omega)
theorem i8o (T : Tx K mg A) : a1k P A.wd K mg base CX0 1 A.b0r A.b1s ["number", "most"] i2f := by
 refine T.b6q.ok c7h (fun vs H Q E h => ?_) (fun cdv A' outer s H vs Q E hr h => ?_)
 ·obtain ⟨_, _, rfl, _⟩ := f2m (by unfold i2f at h; exact h)
  rfl
 ·obtain ⟨n, t, rfl, ⟨m, e, hm, hb, k⟩⟩ := f2m (by unfold i2f at h; exact h)
  subst e
  have hu := hr.units
  refine ⟨_, (a0j (a0v (i := 2) c7h.nd rfl (Or.inl rfl) (a2g (a0g a0o a0h)))
   (a0j (a7u PassesOwn.never rfl (b4n (by rfl) T.d0z (a0g (pvF 1) a0h)) (a2m (i := 3) c7h.nd rfl (Or.inl rfl))
   (a0n (a2n (a5p a8h PySem.F.plainAttrs_list PySem.F.slot_list_append PySem.F.type_list_append a4m (pvF 2) (a0g (a1i a8m (a1h a3q (pvF 2) (pvF 3) (fun _ _ => rfl)) (pvF 0)) a0h)))))
   (a0n (a0z (pvF 2))))), ?_⟩
  walk_at "rd"
  refine ⟨by decide, ?_⟩
  intro l H1 n1 S1 h1
  walk_at "rd*"
  refine ⟨by omega, by omega, ?_⟩
  rw [Int.toNat_natCast]
  obtain ⟨Pv, pin, pout⟩ := d1s (fun i σ H' => ∃ v3 : Option V, σ = [some (.int n), some (.int m), some (.ref l), v3] /\ Same H H' /\ H' l = some (.lst ((h3d n i).map V.int)))
  refine f3k (lo := 0) Pv (pin _ _ _ ⟨_, rfl, S1, by rw [h1]; show _ = some (HO.lst [V.int (n ^ 0)]); rw [Int.pow_zero]⟩) ?_ ?_
  ·intro i σ H2 hi hp
   obtain ⟨v3, rfl, S2, h2⟩ := pout _ _ _ hp
   have e1 := h5y (ns := h3d n i) (i := i) (by rw [d7u]; omega)
   rw [f7g (by omega)] at e1
   have pl := d7u n i
   clear h1 hp
   walk_at "rd*"
   refine ⟨IntMulOk.of_right (Nat.le_trans hb (by decide)), by rw [sizeLine_eq]; omega, ?_⟩
   rintro _ H3 ⟨rfl, B3, h3⟩
   refine pin _ _ _ ⟨_, rfl, S2.step n1 B3, ?_⟩
   rw [h3]
   unfold h3d
   rw [List.range_succ (n := i + 1), List.map_append, List.map_append]
   show _ = some (HO.lst (_ ++ [V.int (n ^ (i + 1))]))
   rw [Int.pow_succ]
  ·intro σ H2 hp
   obtain ⟨v3, rfl, S2, h2⟩ := pout _ _ _ hp
   walk_at "rd"
   exact k _ _ ⟨l, rfl, n1, S2, h2⟩
theorem h7h (T : Tx K mg A) : a1k P A.wd K mg base CX0 2 A.b5j A.b1t ["self", "gain", "many", "turns"] (g4h A.b4m) := by
 have f1r : a1k P A.wd K mg base CX0 1 _ _ _ _ := i8o T
 have b3s := T.b3s
 have a3g := T.a3g
 have a3h := T.a3h
 have a2r := T.a2r
 have a1s := T.a1s
 have a0y := T.a0y
 refine T.c5g.ok c7i (fun vs H Q E h => ?_) (fun cdv A' outer s H vs Q E hr h => ?_)
 ·obtain ⟨_, _, _, _, rfl, _⟩ := h1w (by unfold g4h at h; exact h)
  rfl
 ·obtain ⟨o, gt, n, t, rfl, ⟨dx, m, tt, p, q, e1, e2, ht, bp, bq, hg, ho, k⟩⟩ := h1w (by unfold g4h at h; exact h)
  subst e1 e2
  have hu := hr.units
  have d6z : a2k 1 _ := hr.mono (by decide)
  have gto : gt ≠ o := fun e => by rw [e, ho] at hg; cases hg
  refine ⟨_, (a0j (a4q (pvF 0) (pvF 1) rfl)
   (a0j (a4q (pvF 0) (pvF 2) rfl)
   (a0j (a4q (pvF 0) (pvF 3) rfl)
   (a0j (a0v (i := 4) c7i.nd rfl (Or.inr rfl) (a0q f1r d6z (by rfl) T.f0w T.b6q.kp T.f0v .nil a0t (a0g (a1h a3q (pvF 1) a0o (fun _ _ => rfl)) (a0g (pvF 3) a0h))))
   (a0j (a0v (i := 5) c7i.nd rfl (Or.inr rfl) (a0q f1r d6z (by rfl) T.f0w T.b6q.kp T.f0v .nil a0t (a0g (a1h a3q (pvF 1) a0o (fun _ _ => rfl)) (a0g (pvF 3) a0h))))
   (a0j (a4q (pvF 0) (a4h d8v (by rfl) T.g4d boot_tuple (a0g (a4w (b4n (by rfl) T.d0z (a0g (a1i a1j (pvF 3) a0o) a0h)) (fun _ _ _ _ _ => (a1i a8m (a1h a3q (pvF 5) (pvF 0) (fun _ _ => rfl)) (a1h a3q (pvF 6) (a1i h1a (pvF 4) (pvF 0)) (fun _ _ => rfl)))) (b3n (sc := a0p c9v) (N := ["self", "gain", "many", "turns", "tops", "bottoms"]) rfl rfl (by decide +kernel)) rfl) a0h)) rfl)
   (a0n (a4q (pvF 0) (a1h a3q (pvF 5) (pvF 3) (fun _ _ => rfl)) rfl)))))))), ?_⟩
  walk_at "rd*"
  intro H1 B1 h1
  walk_at "rd*"
  intro H2 B2 h2
  walk_at "rd*"
  intro H3 B3 h3
  have hg3 := B3 _ _ gto (B2 _ _ gto (B1 _ _ gto hg))
  walk_at "rd*"
  refine ⟨tt, rfl, ht, ?_⟩
  rintro _ H4 ⟨l4, rfl, n4, S4, h4⟩
  have hg4 := S4 _ _ hg3
  walk_at "rd*"
  refine ⟨tt, rfl, ht, ?_⟩
  rintro _ H5 ⟨l5, rfl, n5, S5, h5⟩
  have h45 := S5 _ _ h4
  have h35 := S5 _ _ (S4 _ _ h3)
  have pl1 := d7u p tt
  have pl2 := d7u q tt
  clear h4 hg4 hg3
  walk_at "rd*"
  refine ⟨by omega, by omega, fun D H6 n6 S6 h6 => ?_⟩
  rw [show ((tt : Int) + 1).toNat = tt + 1 by omega]
  refine g7r (fun i => .int (j2c p q tt i)) n6 S6 h6 (by rw [sizeLine_eq]; omega) ?_ ?_
  ·intro i H' Q' hi S' q'
   have h4' := S' _ _ h45
   have h5' := S' _ _ h5
   have e1 := h5y (ns := h3d p tt) (i := i) (by omega)
   have e2 := h5y (ns := h3d q tt) (i := tt - i) (by omega)
   rw [f7g (by omega)] at e1 e2
   rw [show ((tt - i : Nat) : Int) = (tt : Int) - (i : Int) by omega] at e2
   clear h45 h35 h5 hg ho h1 h2 h3 pl1 pl2
   walk_at "rd*"
   exact ⟨IntMulOk.of_le (f7h bp i) (f7h bq (tt - i)) (by omega), q'⟩
  intro H7 S7 h7
  have e7 : (List.range (tt + 1)).map (fun i => V.int (j2c p q tt i)) = (i8e p q tt).map V.int := by
   unfold i8e
   rw [List.map_map]
   rfl
  rw [e7] at h7
  walk_at "rd*"
  intro fa H8 n8 S8 h8
  have h38 := S8 _ _ (S7 _ _ h35)
  have h58 := S8 _ _ (S7 _ _ h5)
  have e2 := h5y (ns := h3d q tt) (i := tt) (by omega)
  rw [f7g (by omega)] at e2
  clear h45 h35 h5 h7 e7
  walk_at "rd*"
  intro H9 B9 h9
  have l5o : l5 ≠ o := fun e => by
   rw [e, h38] at h58
   cases h58
  have h59 := B9 _ _ l5o h58
  clear h38 h58
  walk_at "rd*"
  intro H10 B10 h10
  have S38 : Same H3 H8 := S4.trans (S5.trans (S7.trans S8))
  have fao : fa ≠ o := fun e => by
   have := S38 _ _ h3
   rw [e] at h8
   rw [h8] at this
   cases this
  refine k fa H10 (fun b u hb e => B10 _ _ hb (B9 _ _ hb (S38 _ _ (B3 _ _ hb (B2 _ _ hb (B1 _ _ hb e)))))) ?_ h10 (B10 _ _ fao (B9 _ _ fao h8))
  cases hn : H fa with
  | none => rfl
  | some u =>
   exfalso
   have := (S4.trans (S5.trans S7)) _ _ (B3 _ _ fao (B2 _ _ fao (B1 _ _ fao hn)))
   rw [this] at n8
   cases n8
theorem g6r.tps {l : Addr} {H : Hp} {qs : List Addr} {vs : List (List V)} (h : g6r l H qs vs) : Tps H qs vs := ⟨h.1, fun i q s e1 e2 => (h.2 i q s e1 e2).2⟩
theorem Tps.same {H H' : Hp} {qs : List Addr} {vs : List (List V)} (h : Tps H qs vs) (S : Same H H') : Tps H' qs vs := ⟨h.1, fun i q s e1 e2 => S _ _ (h.2 i q s e1 e2)⟩
theorem Tps.d3g {o : Addr} {H H' : Hp} {qs : List Addr} {vs : List (List V)} {C dx : Addr} {fs : List (Str × V)} (h : Tps H qs vs) (ho : H o = some (.ins C dx fs)) (S : a2p o H H') : Tps H' qs vs :=
 ⟨h.1, fun i q s e1 e2 => S _ _ (fun z => by have := h.2 i q s e1 e2; rw [z, ho] at this; cases this) (h.2 i q s e1 e2)⟩
theorem g6r.d3g {l : Addr} {H H' : Hp} {qs : List Addr} {vs : List (List V)} (h : g6r l H qs vs) (S : a2p l H H') : g6r l H' qs vs := ⟨h.1, fun i q s e1 e2 => ⟨(h.2 i q s e1 e2).1, S _ _ (h.2 i q s e1 e2).1 (h.2 i q s e1 e2).2⟩⟩
theorem g6r.same {l : Addr} {H H' : Hp} {qs : List Addr} {vs : List (List V)} (h : g6r l H qs vs) (S : Same H H') : g6r l H' qs vs := h.d3g fun b o _ e => S b o e
theorem g6r.nil {l : Addr} {H : Hp} : g6r l H [] [] := ⟨rfl, fun i q s e => by simp at e⟩
theorem g6r.snoc {l : Addr} {H : Hp} {qs : List Addr} {vs : List (List V)} {q : Addr} {v : List V} (h : g6r l H qs vs) (hl : q ≠ l) (hq : H q = some (.tup v)) : g6r l H (qs ++ [q]) (vs ++ [v]) := by
 refine ⟨by rw [List.length_append, List.length_append, h.1]; rfl, fun i q' s' e1 e2 => ?_⟩
 by_cases hi : i < qs.length
 ·rw [List.getElem?_append_left hi] at e1
  rw [List.getElem?_append_left (by rw [<- h.1]; exact hi)] at e2
  exact h.2 i q' s' e1 e2
 ·rw [List.getElem?_append_right (by omega)] at e1
  rw [List.getElem?_append_right (by rw [<- h.1]; omega)] at e2
  rw [<- h.1] at e2
  cases hz : i - qs.length with
  | zero =>
   rw [hz] at e1 e2
   simp at e1 e2
   subst e1 e2
   exact ⟨hl, hq⟩
  | succ n =>
   rw [hz] at e1
   simp at e1
theorem h3r (T : Tx K mg A) : a1k P A.wd K mg base CX0 5 A.b2h A.a8z ["self", "corners"] (f6r A.b0g) := by
 have g4y : a1k P A.wd K mg base CX0 4 _ _ _ _ := h3p T
 have f1s : a1k P A.wd K mg base CX0 3 _ _ _ _ := h3o T
 have h9n : a1k P A.wd K mg base CX0 1 _ _ _ _ := h7g T
 have a8k := T.a8k
 have a1p := T.a1p
 have a1t := T.a1t
 have a2j := T.a2j
 refine T.c1u.ok d2q (fun vs H Q E h => ?_) (fun cdv A' outer s H vs Q E hr h => ?_)
 ·obtain ⟨_, _, rfl, _⟩ := d7k (by unfold f6r at h; exact h)
  rfl
 ·obtain ⟨o, l, rfl, ⟨dx, ps, cs, ho, hl, R, O, L1, L12, k⟩⟩ := d7k (by unfold f6r at h; exact h)
  have hu := hr.units
  have g0s : a2k 4 _ := hr.mono (by decide)
  have d7l : a2k 3 _ := hr.mono (by decide)
  have h3s : a2k 1 _ := hr.mono (by decide)
  have pl := R.1
  have lo : l ≠ o := fun e => by rw [e, ho] at hl; cases hl
  refine ⟨_, (a0j (a4q (pvF 0) (a4h d8v (by rfl) T.g4d boot_tuple (a0g (pvF 1) a0h)) rfl)
   (a0j (a0v (i := 2) d2q.nd rfl (Or.inl rfl) (a0q g4y g0s (by rfl) T.g3r T.c0l.kp T.g3q .nil a0t (a0g (a1y (pvF 0) rfl) a0h)))
   (a0j (a4q (pvF 0) (a0q f1s d7l (by rfl) T.f0z T.a8s.kp T.f0y .nil a0t (a0g (a1i a1j (a4w (a1m (pvF 1)) (fun _ _ _ _ _ => (a1h a3q (a1h a3q (pvF 0) a0o (fun _ _ => rfl)) a0o (fun _ _ => rfl))) (b3n (sc := a0p b7k) (N := ["self", "corners", "slopes"]) rfl rfl (by decide +kernel)) rfl) (a4w (a1m (pvF 2)) (fun _ _ _ _ _ => (a1h a3q (pvF 0) a0o (fun _ _ => rfl))) (b3n (sc := a0p b7k) (N := ["self", "corners", "slopes"]) rfl rfl (by decide +kernel)) rfl)) a0h)) rfl)
   (a0n (a4q (pvF 0) (a4h d8v (by rfl) T.g4d boot_tuple (a0g (f5m (h1o (by rfl) T.i1t (a0g (a1y (pvF 0) rfl) (a0g (pvF 2) a0h))) (fun _ _ _ _ _ => (a9z (a0g (a1h a3q (pvF 0) a0o (fun _ _ => rfl)) (a0g (a0q h9n h3s (by rfl) T.h9i T.f4k.kp T.h9h .nil a0t (a0g (a1h a3q (pvF 0) a0o (fun _ _ => rfl)) (a0g (g6k (K := K) (by rfl) (pvF 2) (by rfl)) a0h))) (a0g (a0q h9n h3s (by rfl) T.h9i T.f4k.kp T.h9h .nil a0t (a0g (pvF 1) (a0g (g6k (K := K) (by rfl) (pvF 2) (by rfl)) a0h))) a0h))))) (h1q (sc := a0p b7k) (N := ["self", "corners", "slopes"]) rfl rfl (by decide +kernel)) rfl) a0h)) rfl))))), ?_⟩
  walk_at "rd*"
  refine fun ct H1 n1 S1 h1 => ?_
  have ho1 := S1 _ _ ho
  walk_at "rd*"
  refine fun H2 B2 h2 => ?_
  have cto : ct ≠ o := fun e => by rw [e, ho] at n1; cases n1
  have i8n := B2 _ _ cto h1
  have hl2 := B2 _ _ lo (S1 _ _ hl)
  have R2 := (R.same S1).d3g ho1 B2
  clear ho1 h1
  walk_at "rd*"
  refine ⟨ps, rfl, cs, R2, O, L1, L12, fun l3 H3 qs ss n3 S3 h3 R3 L3 B3 V3 Z3 => ?_⟩
  have hl3 := S3 _ _ hl2
  have R23 := R2.same S3
  have ho3 := S3 _ _ h2
  have i9q := S3 _ _ i8n
  have ql := R3.1
  clear hl2 i8n h2
  try walk_at "rd"
  refine ⟨⟨_, SqL.of hl3⟩, fun D4 H4 n4 S4 h4 => ?_⟩
  refine c1m (cs.map fun c => V.int (c.2.den : Nat)) (by rw [List.length_map, List.length_map, pl]) n4 S4 h4 (SqL.of hl3) (by rw [List.length_map, pl, sizeLine_eq]; omega) ?_ ?_
  ·intro i x z H' Q' hx hz S' q'
   obtain ⟨p, c, g, rfl, hc, hp, hg⟩ := R23.get hx
   rw [List.getElem?_map, hc] at hz
   cases hz
   have hp' := S' _ _ hp
   have hg' := S' _ _ hg
   unfold c6n at hg'
   clear ho3 i9q hl3 h3 h4 hp hg
   walk_at "rd*"
  intro H5 S5 h5
  have h35 := S5 _ _ h3
  try walk_at "rd"
  refine ⟨⟨_, SqL.of h35⟩, fun D6 H6 n6 S6 h6 => ?_⟩
  have R35 := R3.same S5
  refine c1m (ss.map fun s => V.int (s.den : Nat)) (by rw [List.length_map, List.length_map, ql]) n6 S6 h6 (SqL.of h35) (by rw [List.length_map, ql, sizeLine_eq]; omega) ?_ ?_
  ·intro i x z H' Q' hx hz S' q'
   obtain ⟨p, c, rfl, hc, hp⟩ := R35.get hx
   rw [List.getElem?_map, hc] at hz
   cases hz
   have hp' := S' _ _ hp
   unfold c6n at hp'
   clear ho3 i9q hl3 h3 h4 hp h35 h5 h6
   walk_at "rd*"
  intro H7 S7 h7
  have h57 := S7 _ _ h5
  clear h4 h6 h35
  walk_at "rd*"
  refine ⟨by rw [sizeLine_eq]; omega, fun b8 H8 n8 S8 h8 => ?_⟩
  have e8 : cs.map (fun c => V.int (c.2.den : Nat)) ++ ss.map (fun s => V.int (s.den : Nat)) = ((cs.map fun c => (c.2.den : Int)) ++ ss.map fun s => (s.den : Int)).map V.int := by
   rw [List.map_append, List.map_map, List.map_map]
   rfl
  rw [e8] at h8
  have S38 : Same H3 H8 := S5.trans (S7.trans S8)
  have ho8 := S38 _ _ ho3
  have j4n := S38 _ _ i9q
  have i9r := S38 _ _ h3
  have R8 := R23.same S38
  have Q8 := R3.same S38
  have bk : ∀ b ∈ (cs.map fun c => (c.2.den : Int)) ++ ss.map fun s => (s.den : Int), 1 <= b /\ intBits b <= 64 := fun b hb => by
   rcases List.mem_append.mp hb with z | z
   ·obtain ⟨c, hc, rfl⟩ := List.mem_map.mp z
    have := O.1 c hc
    have := c.2.den_pos
    omega
   ·obtain ⟨s, hs, rfl⟩ := List.mem_map.mp z
    have := B3 s hs
    have := s.den_pos
    omega
  have lk := h3n _ bk
  have dv := lk.2.1
  have ll : ((cs.map fun c => (c.2.den : Int)) ++ ss.map fun s => (s.den : Int)).length = cs.length + ss.length := by simp
  clear h57 h7 h5 ho3 i9q hl3
  walk_at "rd"
  refine ⟨_, h8, bk, by omega, ?_⟩
  rw [ll] at lk
  have hSw : SwOk cs ss (g9r ((cs.map fun c => (c.2.den : Int)) ++ ss.map fun s => (s.den : Int))) := ⟨L3, V3, Z3, lk.1, by omega, fun c hc => dv _ (List.mem_append_left _ (List.mem_map.mpr ⟨c, hc, rfl⟩)), fun s hs => dv _ (List.mem_append_right _ (List.mem_map.mpr ⟨s, hs, rfl⟩)), fun s hs => (B3 s hs).1, by omega, rfl⟩
  clear dv
  generalize g9r ((cs.map fun c => (c.2.den : Int)) ++ ss.map fun s => (s.den : Int)) = S at lk hSw
  clear h8
  walk_at "rd*"
  refine fun H9 B9 h9 => ?_
  have j2n := B9 _ _ cto j4n
  have l3o : l3 ≠ o := fun e => by rw [e, ho8] at i9r; cases i9r
  have j4o := B9 _ _ l3o i9r
  have R9 := R8.d3g ho8 B9
  have Q9 := Q8.d3g ho8 B9
  clear ho8 j4n i9r
  walk_at "rd*"
  refine fun D10 H10 n10 S10 h10 => ?_
  refine g7v (xs := ps.map V.ref) (ys := qs.map V.ref) (fun i zs H' => Same H9 H' /\ H' D10 = some (.lst zs) /\ zs.length = i /\ ∃ us, zs = us.map V.ref /\ g6r D10 H' us (((List.zipWith (lnOf S) cs ss).map lnV).take i)) ⟨S10, h10, rfl, [], rfl, .nil⟩ (by rw [List.length_map, pl, sizeLine_eq]; omega) ?_ ?_ ?_
  ·intro i zs H' hi ⟨S', h', zl, _⟩
   exact ⟨h', SqT.of (S' _ _ j2n), SqL.of (S' _ _ j4o), zl⟩
  ·intro i x y zs H' p H'' hx hy ⟨S', h', zl, us, ez, TN⟩ np S'' h''
   obtain ⟨pc, c, g, rfl, hc, hpc, hg⟩ := R9.get hx
   obtain ⟨ps', s', rfl, hs', hps⟩ := Q9.get hy
   have Oc := O.1 c (List.mem_of_getElem? hc)
   have Bs := B3 s' (List.mem_of_getElem? hs')
   have SS := S'.trans S''
   have hpc' := SS _ _ hpc
   have hg' := SS _ _ hg
   have ho' := SS _ _ h9
   have hD' := S'' _ _ h'
   clear j2n j4o h9 h10 hpc hg h' h''
   walk_at "rd*"
   refine ⟨c.2, rfl, by omega, by omega, by omega, s', SS _ _ hps, by omega, by omega, by omega, by decide, fun u H3' n3' S3' h3' => ⟨S3' _ _ hD', fun H4' B4' h4' => ⟨(SS.trans S3').step n10 B4', h4', by rw [List.length_append, zl]; rfl, us ++ [u], by rw [ez, List.map_append]; rfl, ?_⟩⟩⟩
   have uD : u ≠ D10 := fun e => by rw [e, hD'] at n3'; cases n3'
   have et : ((List.zipWith (lnOf S) cs ss).map lnV).take (i + 1) = ((List.zipWith (lnOf S) cs ss).map lnV).take i ++ [lnV (lnOf S c s')] := by
    rw [List.take_add_one, List.getElem?_map, List.getElem?_zipWith, hc, hs']
    rfl
   rw [et]
   exact (((TN.same S'').same S3').snoc uD h3').d3g B4'
  intro zs H11 ⟨S11, h11, zl, us, ez, TN⟩
  have j4p := S11 _ _ h9
  have i8p := S11 _ _ j2n
  clear h10
  walk_at "rd*"
  refine fun ln H12 n12 S12 h12 => ?_
  have j4q := S12 _ _ j4p
  have j2o := S12 _ _ i8p
  clear h11 j4p i8p
  walk_at "rd*"
  refine fun H13 B13 h13 => ?_
  have el : ((List.zipWith (lnOf S) cs ss).map lnV).take (min (ps.map V.ref).length (qs.map V.ref).length) = (List.zipWith (lnOf S) cs ss).map lnV := List.take_of_length_le (by rw [List.length_map, List.length_zipWith, List.length_map, List.length_map, pl, ql]; exact Nat.le_refl _)
  rw [el] at TN
  have lno : ln ≠ o := fun e => by rw [e, j4q] at h12; cases h12
  exact k ct ln S ss us H13 (fun b u hb e => B13 _ _ hb (S12 _ _ (S11 _ _ (B9 _ _ hb (S38 _ _ (S3 _ _ (B2 _ _ hb (S1 _ _ e)))))))) n1 h13 (B13 _ _ cto j2o) (B13 _ _ lno h12) ((TN.tps.same S12).d3g j4q B13) hSw
theorem h7i (T : Tx K mg A) : a1k P A.wd K mg base CX0 1 A.b5h A.b1o ["self", "gain"] (g4i A.c1o) := by
 have b3r := T.b3r
 have a2z := T.a2z
 refine T.c4y.ok f9z (fun vs H Q E h => ?_) (fun cdv A' outer s H vs Q E hr h => ?_)
 ·obtain ⟨_, _, rfl, _⟩ := d7k (by unfold g4i at h; exact h)
  rfl
 ·obtain ⟨o, gt, rfl, ⟨dx, ho, k⟩⟩ := d7k (by unfold g4i at h; exact h)
  have hu := hr.units
  refine ⟨_, (a0n (a4q (pvF 0) (pvF 1) rfl)), ?_⟩
  walk_at "rd*"
  intro H1 B1 h1
  exact k H1 B1 h1
theorem h3t (T : Tx K mg A) : a1k P A.wd K mg base CX0 1 A.b1q A.a8w ["self", "many"] (f6s A.b3q) := by
 have a8j := T.a8j
 have a2q := T.a2q
 refine T.c1s.ok f5q (fun vs H Q E h => ?_) (fun cdv A' outer s H vs Q E hr h => ?_)
 ·obtain ⟨_, _, rfl, _⟩ := d7j (by unfold f6s at h; exact h)
  rfl
 ·obtain ⟨o, n, rfl, ⟨dx, ho, k⟩⟩ := d7j (by unfold f6s at h; exact h)
  have hu := hr.units
  refine ⟨_, (a0n (a4q (pvF 0) (pvF 1) rfl)), ?_⟩
  walk_at "rd*"
  intro H1 B1 h1
  exact k H1 B1 h1
theorem h7j (T : Tx K mg A) : a1k P A.wd K mg base CX0 1 A.b5l A.b1v ["self", "gain", "many"] (g4j A.c0g) := by
 have b3t := T.b3t
 have a3i := T.a3i
 have a3j := T.a3j
 refine T.c5i.ok g0a (fun vs H Q E h => ?_) (fun cdv A' outer s H vs Q E hr h => ?_)
 ·obtain ⟨_, _, _, rfl, _⟩ := g6n (by unfold g4j at h; exact h)
  rfl
 ·obtain ⟨o, gt, n, rfl, ⟨dx, ho, k⟩⟩ := g6n (by unfold g4j at h; exact h)
  have hu := hr.units
  refine ⟨_, (a0j (a4q (pvF 0) (pvF 1) rfl)
   (a0n (a4q (pvF 0) (pvF 2) rfl))), ?_⟩
  walk_at "rd*"
  intro H1 B1 h1
  walk_at "rd*"
  intro H2 B2 h2
  exact k H2 (fun b u hb e => B2 _ _ hb (B1 _ _ hb e)) h2
theorem h7k (T : Tx K mg A) : a1k P A.wd K mg base CX0 1 A.b5n A.b1y ["self", "gain", "many"] (g4k A.c0h) := by
 have b3u := T.b3u
 have a3k := T.a3k
 have a3l := T.a3l
 refine T.c5k.ok g0b (fun vs H Q E h => ?_) (fun cdv A' outer s H vs Q E hr h => ?_)
 ·obtain ⟨_, _, _, rfl, _⟩ := g6n (by unfold g4k at h; exact h)
  rfl
 ·obtain ⟨o, gt, n, rfl, ⟨dx, ho, k⟩⟩ := g6n (by unfold g4k at h; exact h)
  have hu := hr.units
  refine ⟨_, (a0j (a4q (pvF 0) (pvF 1) rfl)
   (a0n (a4q (pvF 0) (pvF 2) rfl))), ?_⟩
  walk_at "rd*"
  intro H1 B1 h1
  walk_at "rd*"
  intro H2 B2 h2
  exact k H2 (fun b u hb e => B2 _ _ hb (B1 _ _ hb e)) h2
theorem i9p.same {H H' : Hp} {fs : List (Str × V)} {d : Dt} (h : i9p H fs d) (S : Same H H') : i9p H' fs d := by
 cases d with
 | gain y => obtain ⟨g, e, h1⟩ := h; exact ⟨g, e, S _ _ h1⟩
 | delay n => exact h
 | echo y n t => obtain ⟨g, fa, e, h1, h2⟩ := h; exact ⟨g, fa, e, S _ _ h1, S _ _ h2⟩
 | back y n => obtain ⟨g, e, h1⟩ := h; exact ⟨g, e, S _ _ h1⟩
 | hall y n => obtain ⟨g, e, h1⟩ := h; exact ⟨g, e, S _ _ h1⟩
 | swell cs => obtain ⟨ct, ln, S', ss, us, ps, e, h1, h2, h3, h4, h5⟩ := h; exact ⟨ct, ln, S', ss, us, ps, e, S _ _ h1, S _ _ h2, h3.same S, h4, h5.same S⟩
theorem IsP.same {A : Ad} {H H' : Hp} {o : Addr} {d : Dt} (h : IsP A H o d) (S : Same H H') : IsP A H' o d := by
 obtain ⟨dx, fs, h1, h2⟩ := h
 exact ⟨dx, fs, S _ _ h1, h2.same S⟩
theorem h4y.crn {cs : List (Int × Rat)} (h : h4y cs) : i2e cs := ⟨fun c hc => ⟨(h.1 c hc).1, Int.le_trans (h.1 c hc).2.1 (by decide), (h.1 c hc).2.2.b.1, (h.1 c hc).2.2.b.2⟩, h.2.1⟩
theorem h7l {x : Rat} {a : Nat} (h : intBits x.num <= a) : intBits (Rat.abs x).num <= a := by
 rw [g4u]
 exact intBits_natAbs_le h
theorem h3u (T : Tx K mg A) : a1k P A.wd K mg base CX0 1 A.a3r A.a3z ["one"] j2d := by
 refine T.a2h.ok a4z (fun vs H Q E h => ?_) (fun cdv A' outer s H vs Q E hr h => ?_)
 ·obtain ⟨_, rfl, _⟩ := b0l (by unfold j2d at h; exact h)
  rfl
 ·obtain ⟨p, rfl, ⟨x, hp, l1, l2, q⟩⟩ := b0l (by unfold j2d at h; exact h)
  have hu := hr.units
  unfold c6n at hp
  have fl := d5y l1 l2
  have g1 := c2w (intBits_le_iff.mp l1) (by decide)
  have g2 := c2w (intBits_le_iff.mp l2) (by decide)
  have a := c2k (intBits_le_iff.mp l1) (by decide)
  have b := c2k (intBits_le_iff.mp l2) (by decide)
  have e0 : Str.empty.length = 0 := rfl
  have e1 : (Str.ofString "/").length = 1 := by decide +kernel
  have hs : sizeLine = 16777216 := sizeLine_eq
  unfold fW at q
  refine ⟨_, (a0j (a0v (i := 1) a4z.nd rfl (Or.inl rfl) (a1h a3q (pvF 0) a0o (fun _ _ => rfl)))
   (a0j (a0v (i := 2) a4z.nd rfl (Or.inl rfl) (a1h a3q (pvF 0) a0o (fun _ _ => rfl)))
   (a0n (a0z (a6s (a1v (b1m (pvF 1)) (a1v a0w (a1v (b1m (pvF 2)) c6k)))))))), ?_⟩
  walk_at "rd*"
  simp only [strLen_append, e0, e1]
  refine ⟨by omega, by omega, by omega, by omega, by omega, by omega⟩
theorem j2p (T : Tx K mg A) : a1k P A.wd K mg base CX0 2 A.a6k A.a6w ["corner"] j2e := by
 have a2i : a1k P A.wd K mg base CX0 1 _ _ _ _ := h3u T
 refine T.b3v.ok c2l (fun vs H Q E h => ?_) (fun cdv A' outer s H vs Q E hr h => ?_)
 ·obtain ⟨_, rfl, _⟩ := b0l (by unfold j2e at h; exact h)
  rfl
 ·obtain ⟨p, rfl, ⟨c, g, hp, hg, l0, l1, l2, q⟩⟩ := b0l (by unfold j2e at h; exact h)
  have hu := hr.units
  have a1u : a2k 1 _ := hr.mono (by decide)
  have g0 := c2w l0 (by decide)
  have a := c2k l0 (by decide)
  have b := d5y l1 l2
  have e0 : Str.empty.length = 0 := rfl
  have e1 : (Str.ofString "=").length = 1 := by decide +kernel
  have hs : sizeLine = 16777216 := sizeLine_eq
  unfold cW at q
  refine ⟨_, (a0j (a0v (i := 1) c2l.nd rfl (Or.inl rfl) (a1h a3q (pvF 0) a0o (fun _ _ => rfl)))
   (a0j (a0v (i := 2) c2l.nd rfl (Or.inl rfl) (a0q a2i a1u (by rfl) T.a5z T.a2h.kp T.a5y .nil a0t (a0g (a1h a3q (pvF 0) a0o (fun _ _ => rfl)) a0h)))
   (a0n (a0z (a6s (a1v (b1m (pvF 1)) (a1v a0w (a1v (b1m (pvF 2)) c6k)))))))), ?_⟩
  walk_at "rd*"
  refine ⟨c.2, rfl, l1, l2, ?_⟩
  simp only [strLen_append, e0, e1]
  exact ⟨by omega, by omega, by omega, by omega, by omega, by omega, q⟩
theorem h3v {K : PySem.W.Frag} {a D : Addr} {xs : List V} {te : TE} {σ : L2.St} {H0 H : Hp} {Q : VK} (zs : List V) (hz : zs.length = xs.length) (n0 : H0 D = none) (S : Same H0 H) (hD : H D = some (.lst [])) (hS : H0 a = some (.tup xs)) (hsz : xs.length <= sizeLine)
  (hs : ∀ (i : Nat) x z H' (Q' : VK), xs[i]? = some x -> zs[i]? = some z -> Same H0 H' -> Q' z H' -> te (some x :: σ) H' Q') (q : ∀ H', Same H0 H' -> H' D = some (.lst zs) -> Q (.ref D) H') : d7i (Itt K a) te D σ H Q ⟨⟩ := by
 refine h1r (fun i ys H' => Same H0 H' /\ H' D = some (.lst ys) /\ ys = zs.take i) ⟨S, hD, by simp⟩ hsz (fun i ys H' hi p => ?_) (fun i x ys H' hx p => ?_) (fun ys H' p => ?_)
 ·refine ⟨p.2.1, SqT.of (p.1 _ _ hS), ?_⟩
  rw [p.2.2, List.length_take]
  omega
 ·have hi : i < zs.length := by rw [hz]; exact (List.getElem?_eq_some_iff.mp hx).1
  have hzi : zs[i]? = some zs[i] := List.getElem?_eq_getElem hi
  refine hs i x _ H' _ hx hzi p.1 ⟨p.2.1, fun H3 s3 h3 => ⟨p.1.step n0 s3, h3, ?_⟩⟩
  rw [p.2.2, List.take_add_one, hzi]
  rfl
 ·refine q H' p.1 ?_
  rw [p.2.1, p.2.2, <- hz, List.take_length]
theorem j2q (T : Tx K mg A) : a1k P A.wd K mg base CX0 2 A.b5i A.b1p ["self"] (f7w A 0) := by
 have a2i : a1k P A.wd K mg base CX0 1 _ _ _ _ := h3u T
 have b3r := T.b3r
 have a2z := T.a2z
 refine T.c4z.ok d6m (fun vs H Q E h => ?_) (fun cdv A' outer s H vs Q E hr h => ?_)
 ·obtain ⟨_, rfl, _⟩ := b0l (by unfold f7w at h; exact h)
  rfl
 ·obtain ⟨o, rfl, ⟨d, hk, hd, ok, q⟩⟩ := b0l (by unfold f7w at h; exact h)
  cases d with
  | gain y =>
   obtain ⟨dx, _, ho, g, rfl, hg⟩ := hd
   have ok : YOk y := ok
   replace ho : H o = some (.ins A.c1o dx [("gain", .ref g)]) := ho
   have hu := hr.units
   have a1u : a2k 1 _ := hr.mono (by decide)
   have a := d5y ok.b.1 ok.b.2
   have e0 : Str.empty.length = 0 := rfl
   have e1 : (Str.ofString "gain:").length = 5 := by decide +kernel
   have hs : sizeLine = 16777216 := sizeLine_eq
   refine ⟨_, (a0j (a0v (i := 1) d6m.nd rfl (Or.inl rfl) (a0q a2i a1u (by rfl) T.a5z T.a2h.kp T.a5y .nil a0t (a0g (a1y (pvF 0) rfl) a0h)))
   (a0n (a0z (a6s (a1v a0w (a1v (b1m (pvF 1)) c6k)))))), ?_⟩
   walk_at "rd*"
   refine ⟨y, rfl, ok.b.1, ok.b.2, ?_⟩
   simp only [strLen_append, e0, e1]
   exact ⟨by omega, by omega, by omega, by rw [i7k]; exact q _ (Same.refl _)⟩
  | _ => simp [Dt.kd] at hk
theorem j2r (T : Tx K mg A) : a1k P A.wd K mg base CX0 1 A.b1r A.a8y ["self"] (f7w A 1) := by
 have a8j := T.a8j
 have a2q := T.a2q
 refine T.c1t.ok d2p (fun vs H Q E h => ?_) (fun cdv A' outer s H vs Q E hr h => ?_)
 ·obtain ⟨_, rfl, _⟩ := b0l (by unfold f7w at h; exact h)
  rfl
 ·obtain ⟨o, rfl, ⟨d, hk, hd, ok, q⟩⟩ := b0l (by unfold f7w at h; exact h)
  cases d with
  | delay n =>
   obtain ⟨dx, _, ho, rfl⟩ := hd
   have ok : n <= 1000 := ok
   replace ho : H o = some (.ins A.b3q dx [("many", .int n)]) := ho
   have hu := hr.units
   have a := f3p (n := n) (Nat.lt_of_le_of_lt ok (by decide))
   have e0 : Str.empty.length = 0 := rfl
   have e1 : (Str.ofString "delay:").length = 6 := by decide +kernel
   have hs : sizeLine = 16777216 := sizeLine_eq
   have g0 := c2w (t := (n : Int)) (n := 20) (by omega) (by decide)
   unfold nW at a
   refine ⟨_, (a0j (a0v (i := 1) d2p.nd rfl (Or.inl rfl) (a1y (pvF 0) rfl))
   (a0n (a0z (a6s (a1v a0w (a1v (b1m (pvF 1)) c6k)))))), ?_⟩
   walk_at "rd*"
   have w := i1f n
   unfold nW at w
   simp only [strLen_append, e0, e1]
   refine ⟨by omega, by omega, by omega, ?_⟩
   rw [w]
   exact q _ (Same.refl _)
  | _ => simp [Dt.kd] at hk
theorem j2s (T : Tx K mg A) : a1k P A.wd K mg base CX0 2 A.b5k A.b1u ["self"] (f7w A 2) := by
 have a2i : a1k P A.wd K mg base CX0 1 _ _ _ _ := h3u T
 have b3s := T.b3s
 have a3g := T.a3g
 have a3h := T.a3h
 have a2r := T.a2r
 have a1s := T.a1s
 have a0y := T.a0y
 refine T.c5h.ok c1n (fun vs H Q E h => ?_) (fun cdv A' outer s H vs Q E hr h => ?_)
 ·obtain ⟨_, rfl, _⟩ := b0l (by unfold f7w at h; exact h)
  rfl
 ·obtain ⟨o, rfl, ⟨d, hk, hd, ok, q⟩⟩ := b0l (by unfold f7w at h; exact h)
  cases d with
  | echo y n t =>
   obtain ⟨dx, _, ho, g, fa, rfl, hg, hf⟩ := hd
   obtain ⟨oy, n1, n2, t2⟩ := ok
   replace ho : H o = some (.ins A.b4m dx (ecF g fa n t (y.den : Int))) := ho
   unfold ecF at ho
   have hu := hr.units
   have a1u : a2k 1 _ := hr.mono (by decide)
   have a := d5y oy.b.1 oy.b.2
   have b := f3p (n := n) (Nat.lt_of_le_of_lt n2 (by decide))
   have c := f3p (n := t) (Nat.lt_of_le_of_lt t2 (by decide))
   have e0 : Str.empty.length = 0 := rfl
   have e1 : (Str.ofString "echo:").length = 5 := by decide +kernel
   have e2 : (Str.ofString ":").length = 1 := by decide +kernel
   have hs : sizeLine = 16777216 := sizeLine_eq
   have g0 := c2w (t := (n : Int)) (n := 20) (by omega) (by decide)
   have g1 := c2w (t := (t : Int)) (n := 20) (by omega) (by decide)
   have w := i7l y n t
   unfold nW at b c w
   refine ⟨_, (a0j (a0v (i := 1) c1n.nd rfl (Or.inl rfl) (a0q a2i a1u (by rfl) T.a5z T.a2h.kp T.a5y .nil a0t (a0g (a1y (pvF 0) rfl) a0h)))
   (a0j (a0v (i := 2) c1n.nd rfl (Or.inl rfl) (a1y (pvF 0) rfl))
   (a0j (a0v (i := 3) c1n.nd rfl (Or.inl rfl) (a1y (pvF 0) rfl))
   (a0n (a0z (a6s (a1v a0w (a1v (b1m (pvF 1)) (a1v a0w (a1v (b1m (pvF 2)) (a1v a0w (a1v (b1m (pvF 3)) c6k)))))))))))), ?_⟩
   walk_at "rd*"
   refine ⟨y, rfl, oy.b.1, oy.b.2, ?_⟩
   simp only [strLen_append, e0, e1, e2]
   refine ⟨by omega, by omega, by omega, by omega, by omega, by omega, by omega, by omega, by omega, ?_⟩
   rw [w]
   exact q _ (Same.refl _)
  | _ => simp [Dt.kd] at hk
theorem j2t (T : Tx K mg A) : a1k P A.wd K mg base CX0 2 A.b5m A.b1w ["self"] (f7w A 3) := by
 have a2i : a1k P A.wd K mg base CX0 1 _ _ _ _ := h3u T
 have b3t := T.b3t
 have a3i := T.a3i
 have a3j := T.a3j
 refine T.c5j.ok c7j (fun vs H Q E h => ?_) (fun cdv A' outer s H vs Q E hr h => ?_)
 ·obtain ⟨_, rfl, _⟩ := b0l (by unfold f7w at h; exact h)
  rfl
 ·obtain ⟨o, rfl, ⟨d, hk, hd, ok, q⟩⟩ := b0l (by unfold f7w at h; exact h)
  cases d with
  | back y n =>
   obtain ⟨dx, _, ho, g, rfl, hg⟩ := hd
   obtain ⟨oy, n1, n2⟩ := ok
   replace ho : H o = some (.ins A.c0g dx [("gain", .ref g), ("many", .int n)]) := ho
   have hu := hr.units
   have a1u : a2k 1 _ := hr.mono (by decide)
   have a := d5y oy.b.1 oy.b.2
   have b := f3p (n := n) (Nat.lt_of_le_of_lt n2 (by decide))
   have e0 : Str.empty.length = 0 := rfl
   have e1 : (Str.ofString "back:").length = 5 := by decide +kernel
   have e2 : (Str.ofString ":").length = 1 := by decide +kernel
   have hs : sizeLine = 16777216 := sizeLine_eq
   have g0 := c2w (t := (n : Int)) (n := 20) (by omega) (by decide)
   have w := i7m y n
   unfold nW at b w
   refine ⟨_, (a0j (a0v (i := 1) c7j.nd rfl (Or.inl rfl) (a0q a2i a1u (by rfl) T.a5z T.a2h.kp T.a5y .nil a0t (a0g (a1y (pvF 0) rfl) a0h)))
   (a0j (a0v (i := 2) c7j.nd rfl (Or.inl rfl) (a1y (pvF 0) rfl))
   (a0n (a0z (a6s (a1v a0w (a1v (b1m (pvF 1)) (a1v a0w (a1v (b1m (pvF 2)) c6k))))))))), ?_⟩
   walk_at "rd*"
   refine ⟨y, rfl, oy.b.1, oy.b.2, ?_⟩
   simp only [strLen_append, e0, e1, e2]
   refine ⟨by omega, by omega, by omega, by omega, by omega, by omega, ?_⟩
   rw [w]
   exact q _ (Same.refl _)
  | _ => simp [Dt.kd] at hk
theorem j2u (T : Tx K mg A) : a1k P A.wd K mg base CX0 2 A.b5o A.b1z ["self"] (f7w A 4) := by
 have a2i : a1k P A.wd K mg base CX0 1 _ _ _ _ := h3u T
 have b3u := T.b3u
 have a3k := T.a3k
 have a3l := T.a3l
 refine T.c5l.ok c7k (fun vs H Q E h => ?_) (fun cdv A' outer s H vs Q E hr h => ?_)
 ·obtain ⟨_, rfl, _⟩ := b0l (by unfold f7w at h; exact h)
  rfl
 ·obtain ⟨o, rfl, ⟨d, hk, hd, ok, q⟩⟩ := b0l (by unfold f7w at h; exact h)
  cases d with
  | hall y n =>
   obtain ⟨dx, _, ho, g, rfl, hg⟩ := hd
   obtain ⟨oy, yl, n1, n2⟩ := ok
   replace ho : H o = some (.ins A.c0h dx [("gain", .ref g), ("many", .int n)]) := ho
   have hu := hr.units
   have a1u : a2k 1 _ := hr.mono (by decide)
   have a := d5y oy.b.1 oy.b.2
   have b := f3p (n := n) (Nat.lt_of_le_of_lt n2 (by decide))
   have e0 : Str.empty.length = 0 := rfl
   have e1 : (Str.ofString "hall:").length = 5 := by decide +kernel
   have e2 : (Str.ofString ":").length = 1 := by decide +kernel
   have hs : sizeLine = 16777216 := sizeLine_eq
   have g0 := c2w (t := (n : Int)) (n := 20) (by omega) (by decide)
   have w := i7n y n
   unfold nW at b w
   clear yl
   refine ⟨_, (a0j (a0v (i := 1) c7k.nd rfl (Or.inl rfl) (a0q a2i a1u (by rfl) T.a5z T.a2h.kp T.a5y .nil a0t (a0g (a1y (pvF 0) rfl) a0h)))
   (a0j (a0v (i := 2) c7k.nd rfl (Or.inl rfl) (a1y (pvF 0) rfl))
   (a0n (a0z (a6s (a1v a0w (a1v (b1m (pvF 1)) (a1v a0w (a1v (b1m (pvF 2)) c6k))))))))), ?_⟩
   walk_at "rd*"
   refine ⟨y, rfl, oy.b.1, oy.b.2, ?_⟩
   simp only [strLen_append, e0, e1, e2]
   refine ⟨by omega, by omega, by omega, by omega, by omega, by omega, ?_⟩
   rw [w]
   exact q _ (Same.refl _)
  | _ => simp [Dt.kd] at hk
theorem j2v (T : Tx K mg A) : a1k P A.wd K mg base CX0 3 A.b2j A.a9h ["self"] (f7w A 5) := by
 have f7i : a1k P A.wd K mg base CX0 2 _ _ _ _ := j2p T
 have a8k := T.a8k
 have a1p := T.a1p
 have a1t := T.a1t
 have a2j := T.a2j
 refine T.c1v.ok d2r (fun vs H Q E h => ?_) (fun cdv A' outer s H vs Q E hr h => ?_)
 ·obtain ⟨_, rfl, _⟩ := b0l (by unfold f7w at h; exact h)
  rfl
 ·obtain ⟨o, rfl, ⟨d, hk, hd, ok, q⟩⟩ := b0l (by unfold f7w at h; exact h)
  cases d with
  | swell cs =>
   obtain ⟨dx, _, ho, ct, ln, S, ss, us, ps, rfl, hct, hln, TP, sok, R⟩ := hd
   have ok : h4y cs := ok
   replace ho : H o = some (.ins A.b0g dx [("corners", .ref ct), ("shared", .int S), ("lines", .ref ln)]) := ho
   have hu := hr.units
   have f2v : a2k 2 _ := hr.mono (by decide)
   have pl := R.1
   have hs : sizeLine = 16777216 := sizeLine_eq
   have cl := ok.len
   have L12 := ok.2.2.2
   have e2 : (Str.ofString ",").length = 1 := by decide +kernel
   have jo : JoinOk (Str.ofString ",") (cs.map cW) = true := joinOk_of (n := 45) (fun y hy => by obtain ⟨c, hc, rfl⟩ := List.mem_map.mp hy; exact cl c hc) (by rw [List.length_map, e2, hs]; omega)
   have jl : (Txt.join (Str.ofString ",") (cs.map cW)).length ≤ 600 := by
    rw [g2l, i1e]
    exact ok.j1t
   have e0 : Str.empty.length = 0 := rfl
   have e1 : (Str.ofString "swell:").length = 6 := by decide +kernel
   refine ⟨_, (a0j (a0v (i := 1) d2r.nd rfl (Or.inl rfl) (a5p a4p PySem.F.plainAttrs_str PySem.F.slot_str_join PySem.F.type_str_join c3y a0w (a0g (a4w (i0v (a1y (pvF 0) rfl)) (fun _ _ _ _ _ => (a0q f7i f2v (by rfl) T.f6h T.b3v.kp T.f6g .nil a0t (a0g (pvF 0) a0h))) (b3n (sc := a0p c6y) (N := ["self", "corners"]) rfl rfl (by decide +kernel)) rfl) a0h)))
   (a0n (a0z (a6s (a1v a0w (a1v (b1m (pvF 1)) c6k)))))), ?_⟩
   walk_at "rd*"
   intro D H2 n2 S2 h2
   refine h3v (cs.map fun c => V.str (cW c)) (by rw [List.length_map, List.length_map, pl]) n2 S2 h2 hct (by rw [List.length_map, pl, hs]; omega) ?_ ?_
   ·intro i x z H' Q' hx hz S' q'
    obtain ⟨p, c, g, rfl, hc, hp, hg⟩ := R.get hx
    rw [List.getElem?_map, hc] at hz
    cases hz
    have hp' := S' _ _ hp
    have hg' := S' _ _ hg
    obtain ⟨o1, o2, oy⟩ := ok.1 c (List.mem_of_getElem? hc)
    clear ho hct hln h2 hp hg
    walk_at "rd*"
    exact ⟨c, g, ⟨rfl, rfl⟩, hg', by omega, oy.b.1, oy.b.2, q'⟩
   intro H3 S3 h3
   clear h2
   walk_at "rd*"
   refine ⟨cs.map cW, by rw [List.map_map]; rfl, jo, by omega, ?_, ?_, ?_⟩
   ·rw [strLen_append, e0, e1]
    omega
   ·rw [strLen_append, strLen_append, e0, e1]
    omega
   ·rw [i1g]
    exact q H3 S3
  | _ => simp [Dt.kd] at hk
theorem h3w (T : Tx K mg A) : a1k P A.wd K mg base CX0 4 A.b0t A.b2k ["text"] j2f := by
 have f1t : a1k P A.wd K mg base CX0 3 _ _ _ _ := i2t T
 refine T.a6p.ok d6n (fun vs H Q E h => ?_) (fun cdv A' outer s H vs Q E hr h => ?_)
 ·obtain ⟨_, rfl, _⟩ := f7v (by unfold j2f at h; exact h)
  rfl
 ·obtain ⟨x, rfl, ⟨y, hx, oy, k⟩⟩ := f7v (by unfold j2f at h; exact h)
  subst hx
  have hu := hr.units
  have d7m : a2k 3 _ := hr.mono (by decide)
  refine ⟨_, (a0j (i0x (a0v (i := 1) d6n.nd rfl (Or.inl rfl) (a0q f1t d7m (by rfl) T.f0u T.a8r.kp T.f0t .nil a0t (a0g (pvF 0) a0h))))
   (a0j (a4g (pw_or (a0u f2k (a1o c2s (by rfl) T.g8p boot_abs (a0g (a1h a3q (pvF 1) a0o (fun _ _ => rfl)) a0h)) (a5n (v := .int 1000) (by rfl) T.d6w T.c2h) (a1q _)) (pw_or1 (a0u f2k (a1h a3q (pvF 1) a0o (fun _ _ => rfl)) (a5n (v := .int 1000) (by rfl) T.d6w T.c2h) (a1q _)))).pt
   (a0n a1z)
   a1l)
   (a0n (a0z (pvF 1))))), ?_⟩
  walk_at "rd"
  refine ⟨y.num, (y.den : Int), i0y oy, ?_⟩
  rintro _ H1 ⟨o, rfl, n1, S1, h1⟩
  have y1 : ¬ 1000 < (y.num.natAbs : Int) := by have := oy.1; omega
  have y2 : ¬ 1000 < (y.den : Int) := by have := oy.2; omega
  walk_at "rd*"
  exact k _ _ ⟨o, rfl, n1, S1, h1⟩
theorem h7m (T : Tx K mg A) : a1k P A.wd K mg base CX0 3 A.a6l A.a6z ["text", "least", "most"] j2g := by
 have d5p : a1k P A.wd K mg base CX0 2 _ _ _ _ := h9l T
 refine T.a5l.ok c9m (fun vs H Q E h => ?_) (fun cdv A' outer s H vs Q E hr h => ?_)
 ·obtain ⟨_, _, _, rfl, _⟩ := h9e (by unfold j2g at h; exact h)
  rfl
 ·obtain ⟨x, a, b, rfl, ⟨n, hx, hn, h1, h2, q⟩⟩ := h9e (by unfold j2g at h; exact h)
  have hu := hr.units
  have d1h : a2k 2 _ := hr.mono (by decide)
  refine ⟨_, (a0j (a0v (i := 3) c9m.nd rfl (Or.inl rfl) (a0q d5p d1h (by rfl) T.f4m T.b9o.kp T.f4l .nil a0t (a0g (pvF 0) a0h)))
   (a0j (a4g (pw_or (a0u i5d (pvF 3) g9y (a1q _)) (pw_or (a0u of_lt (pvF 3) (pvF 1) (a1q _)) (pw_or1 (a0u f2k (pvF 3) (pvF 2) (a1q _))))).pt
   (a0n a1z)
   a1l)
   (a0n (a0z (pvF 3))))), ?_⟩
  walk_at "rd"
  refine ⟨n, hx, by omega, ?_⟩
  have z1 : ¬ (n : Int) < a := by omega
  have z2 : ¬ b < (n : Int) := by omega
  walk_at "rd*"
theorem i3a (T : Tx K mg A) : a1k P A.wd K mg base CX0 4 A.b0u A.b2l ["text"] j2h := by
 have a6q : a1k P A.wd K mg base CX0 3 _ _ _ _ := h7m T
 refine T.b1j.ok g0c (fun vs H Q E h => ?_) (fun cdv A' outer s H vs Q E hr h => ?_)
 ·obtain ⟨_, rfl, _⟩ := f7v (by unfold j2h at h; exact h)
  rfl
 ·obtain ⟨x, rfl, ⟨n, hx, n1, n2, q⟩⟩ := f7v (by unfold j2h at h; exact h)
  subst hx
  have hu := hr.units
  have a5o : a2k 3 _ := hr.mono (by decide)
  refine ⟨_, (a0n (a0z (a0q a6q a5o (by rfl) T.b8u T.a5l.kp T.b8t .nil a0t (a0g (pvF 0) (a0g a0o (a0g (a5n (v := .int 1000) (by rfl) T.d6y T.c2i) a0h)))))), ?_⟩
  walk_at "rd"
  exact ⟨n, h6k n, by omega, by omega, by omega, q⟩
theorem g8y (T : Tx K mg A) : a1k P A.wd K mg base CX0 1 A.a6m A.a7g ["values", "count"] j2i := by
 refine T.a3o.ok f2o (fun vs H Q E h => ?_) (fun cdv A' outer s H vs Q E hr h => ?_)
 ·obtain ⟨_, _, rfl, _⟩ := d7j (by unfold j2i at h; exact h)
  rfl
 ·obtain ⟨l, c, rfl, ⟨xs, hl, e, q⟩⟩ := d7j (by unfold j2i at h; exact h)
  have hu := hr.units
  refine ⟨_, (a0n (a4g (a0u (b8i hu) (a1o a4i (by rfl) T.c8j boot_len (a0g (pvF 0) a0h)) (pvF 1) (a1q _))
   (a0n a1z)
   a1l)), ?_⟩
  walk_at "rd*"
theorem g8z (T : Tx K mg A) : a1k P A.wd K mg base CX0 6 A.b7p A.b9g ["values"] (f7y A 0) := by
 have a2y : a1k P A.wd K mg base CX0 1 _ _ _ _ := g8y T
 have a6r : a1k P A.wd K mg base CX0 4 _ _ _ _ := h3w T
 have g4z : a1k P A.wd K mg base CX0 1 _ _ _ _ := h7i T
 have b3r := T.b3r
 have a2z := T.a2z
 refine T.c7t.ok g8b (fun vs H Q E h => ?_) (fun cdv A' outer s H vs Q E hr h => ?_)
 ·obtain ⟨_, rfl, _⟩ := b0l (by unfold f7y at h; exact h)
  rfl
 ·obtain ⟨l, rfl, ⟨d, hk, ok, hl, q⟩⟩ := b0l (by unfold f7y at h; exact h)
  cases d with
  | gain y =>
   have hu := hr.units
   have a2o : a2k 1 _ := hr.mono (by decide)
   have a5m : a2k 4 _ := hr.mono (by decide)
   have g0t : a2k 2 _ := hr.mono (by decide)
   replace hl : H l = some (.lst [.str (fW y)]) := hl
   refine ⟨_, (a0j (a2n (a0q a2y a2o (by rfl) T.a9u T.a3o.kp T.a9t .nil a0t (a0g (pvF 0) (a0g a0o a0h))))
   (a0n (a0z (c1j T.h2c g4z g0t (by rfl) T.i1u T.g3i .nil a0t (a0g (a0q a6r a5m (by rfl) T.c0w T.a6p.kp T.c0v .nil a0t (a0g (a1h a3q (pvF 0) a0o (fun _ _ => rfl)) a0h)) a0h))))), ?_⟩
   walk_at "rd"
   refine ⟨_, hl, rfl, ?_⟩
   walk_at "rd*"
   refine ⟨y, rfl, ok, ?_⟩
   rintro _ H1 ⟨g, rfl, n1, S1, h1⟩
   walk_at "rd"
   intro x dx H2 n2 n3 nx S2 hdx hx
   refine ⟨dx, hx, fun H3 B3 h3 => ?_⟩
   rw [asNew]
   refine ⟨rfl, ?_⟩
   have gx : g ≠ x := fun e => by rw [e] at h1; rw [h1] at n2; cases n2
   refine q x H3 (S1.free n2) (fun b u e => B3 _ _ (fun z => by rw [z] at e; rw [S1 _ _ e] at n2; cases n2) (S2 _ _ (S1 _ _ e))) ⟨dx, _, h3, g, rfl, B3 _ _ gx (S2 _ _ h1)⟩
  | _ => simp [Dt.kd] at hk
theorem g5a (T : Tx K mg A) : a1k P A.wd K mg base CX0 6 A.b2m A.b5p ["values"] (f7y A 1) := by
 have a2y : a1k P A.wd K mg base CX0 1 _ _ _ _ := g8y T
 have a6q : a1k P A.wd K mg base CX0 3 _ _ _ _ := h7m T
 have g0u : a1k P A.wd K mg base CX0 1 _ _ _ _ := h3t T
 have a8j := T.a8j
 have a2q := T.a2q
 refine T.c3n.ok g2s (fun vs H Q E h => ?_) (fun cdv A' outer s H vs Q E hr h => ?_)
 ·obtain ⟨_, rfl, _⟩ := b0l (by unfold f7y at h; exact h)
  rfl
 ·obtain ⟨l, rfl, ⟨d, hk, ok, hl, q⟩⟩ := b0l (by unfold f7y at h; exact h)
  cases d with
  | delay n =>
   have hu := hr.units
   have a2o : a2k 1 _ := hr.mono (by decide)
   have a5o : a2k 3 _ := hr.mono (by decide)
   have f7j : a2k 2 _ := hr.mono (by decide)
   have ok : n <= 1000 := ok
   replace hl : H l = some (.lst [.str (nW n)]) := hl
   refine ⟨_, (a0j (a2n (a0q a2y a2o (by rfl) T.a9u T.a3o.kp T.a9t .nil a0t (a0g (pvF 0) (a0g a0o a0h))))
   (a0n (a0z (c1j T.g3b g0u f7j (by rfl) T.h6x T.g0j .nil a0t (a0g (a0q a6q a5o (by rfl) T.b8u T.a5l.kp T.b8t .nil a0t (a0g (a1h a3q (pvF 0) a0o (fun _ _ => rfl)) (a0g a0o (a0g (a5n (v := .int 1000) (by rfl) T.d6y T.c2i) a0h)))) a0h))))), ?_⟩
   walk_at "rd"
   refine ⟨_, hl, rfl, ?_⟩
   walk_at "rd*"
   refine ⟨n, h6k n, by omega, by omega, by omega, ?_⟩
   intro x dx H2 n2 n3 nx S2 hdx hx
   refine ⟨dx, hx, fun H3 B3 h3 => ?_⟩
   rw [asNew]
   refine ⟨rfl, ?_⟩
   exact q x H3 n2 (fun b u e => B3 _ _ (fun z => by rw [z] at e; rw [e] at n2; cases n2) (S2 _ _ e)) ⟨dx, _, h3, rfl⟩
  | _ => simp [Dt.kd] at hk
theorem g9a (T : Tx K mg A) : a1k P A.wd K mg base CX0 6 A.b7q A.b9h ["values"] (f7y A 2) := by
 have a2y : a1k P A.wd K mg base CX0 1 _ _ _ _ := g8y T
 have a6r : a1k P A.wd K mg base CX0 4 _ _ _ _ := h3w T
 have c0z : a1k P A.wd K mg base CX0 4 _ _ _ _ := i3a T
 have a6q : a1k P A.wd K mg base CX0 3 _ _ _ _ := h7m T
 have g5b : a1k P A.wd K mg base CX0 2 _ _ _ _ := h7h T
 have b3s := T.b3s
 have a3g := T.a3g
 have a3h := T.a3h
 have a2r := T.a2r
 have a1s := T.a1s
 have a0y := T.a0y
 refine T.c7u.ok g8c (fun vs H Q E h => ?_) (fun cdv A' outer s H vs Q E hr h => ?_)
 ·obtain ⟨_, rfl, _⟩ := b0l (by unfold f7y at h; exact h)
  rfl
 ·obtain ⟨l, rfl, ⟨d, hk, ok, hl, q⟩⟩ := b0l (by unfold f7y at h; exact h)
  cases d with
  | echo y n t =>
   have hu := hr.units
   have a2o : a2k 1 _ := hr.mono (by decide)
   have a5m : a2k 4 _ := hr.mono (by decide)
   have b7u : a2k 4 _ := hr.mono (by decide)
   have a5o : a2k 3 _ := hr.mono (by decide)
   have g0v : a2k 3 _ := hr.mono (by decide)
   obtain ⟨oy, na, nb, tb⟩ := ok
   replace hl : H l = some (.lst [.str (fW y), .str (nW n), .str (nW t)]) := hl
   refine ⟨_, (a0j (a2n (a0q a2y a2o (by rfl) T.a9u T.a3o.kp T.a9t .nil a0t (a0g (pvF 0) (a0g a0o a0h))))
   (a0n (a0z (c1j T.h2d g5b g0v (by rfl) T.i1v T.g3k .nil a0t (a0g (a0q a6r a5m (by rfl) T.c0w T.a6p.kp T.c0v .nil a0t (a0g (a1h a3q (pvF 0) a0o (fun _ _ => rfl)) a0h)) (a0g (a0q c0z b7u (by rfl) T.d0v T.b1j.kp T.d0u .nil a0t (a0g (a1h a3q (pvF 0) a0o (fun _ _ => rfl)) a0h)) (a0g (a0q a6q a5o (by rfl) T.b8u T.a5l.kp T.b8t .nil a0t (a0g (a1h a3q (pvF 0) a0o (fun _ _ => rfl)) (a0g a0o (a0g (a5n (v := .int 16) (by rfl) T.f6n T.c5q) a0h)))) a0h))))))), ?_⟩
   walk_at "rd"
   refine ⟨_, hl, rfl, ?_⟩
   walk_at "rd*"
   refine ⟨y, rfl, oy, ?_⟩
   rintro _ H1 ⟨g, rfl, n1, S1, h1⟩
   have hl1 := S1 _ _ hl
   clear hl
   walk_at "rd*"
   refine ⟨n, rfl, na, nb, t, h6k t, by omega, by omega, by omega, ?_⟩
   intro x dx H2 n2 n3 nx S2 hdx hx
   refine ⟨dx, n, t, y.num, (y.den : Int), rfl, rfl, tb, oy.b.1, oy.b.2, S2 _ _ h1, hx, fun fa H3 B3 nf h3 hf => ?_⟩
   rw [asNew]
   refine ⟨rfl, ?_⟩
   have gx : g ≠ x := fun e => by rw [e] at h1; rw [h1] at n2; cases n2
   exact q x H3 (S1.free n2) (fun b u e => B3 _ _ (fun z => by rw [z] at e; rw [S1 _ _ e] at n2; cases n2) (S2 _ _ (S1 _ _ e))) ⟨dx, _, h3, g, fa, rfl, B3 _ _ gx (S2 _ _ h1), hf⟩
  | _ => simp [Dt.kd] at hk
theorem g9b (T : Tx K mg A) : a1k P A.wd K mg base CX0 6 A.b7r A.b9i ["values"] (f7y A 3) := by
 have a2y : a1k P A.wd K mg base CX0 1 _ _ _ _ := g8y T
 have a6r : a1k P A.wd K mg base CX0 4 _ _ _ _ := h3w T
 have c0z : a1k P A.wd K mg base CX0 4 _ _ _ _ := i3a T
 have g5c : a1k P A.wd K mg base CX0 1 _ _ _ _ := h7j T
 have b3t := T.b3t
 have a3i := T.a3i
 have a3j := T.a3j
 refine T.c7v.ok g8d (fun vs H Q E h => ?_) (fun cdv A' outer s H vs Q E hr h => ?_)
 ·obtain ⟨_, rfl, _⟩ := b0l (by unfold f7y at h; exact h)
  rfl
 ·obtain ⟨l, rfl, ⟨d, hk, ok, hl, q⟩⟩ := b0l (by unfold f7y at h; exact h)
  cases d with
  | back y n =>
   have hu := hr.units
   have a2o : a2k 1 _ := hr.mono (by decide)
   have a5m : a2k 4 _ := hr.mono (by decide)
   have b7u : a2k 4 _ := hr.mono (by decide)
   have g0w : a2k 2 _ := hr.mono (by decide)
   obtain ⟨oy, na, nb⟩ := ok
   replace hl : H l = some (.lst [.str (fW y), .str (nW n)]) := hl
   refine ⟨_, (a0j (a2n (a0q a2y a2o (by rfl) T.a9u T.a3o.kp T.a9t .nil a0t (a0g (pvF 0) (a0g a0o a0h))))
   (a0n (a0z (c1j T.h2e g5c g0w (by rfl) T.i1w T.g3m .nil a0t (a0g (a0q a6r a5m (by rfl) T.c0w T.a6p.kp T.c0v .nil a0t (a0g (a1h a3q (pvF 0) a0o (fun _ _ => rfl)) a0h)) (a0g (a0q c0z b7u (by rfl) T.d0v T.b1j.kp T.d0u .nil a0t (a0g (a1h a3q (pvF 0) a0o (fun _ _ => rfl)) a0h)) a0h)))))), ?_⟩
   walk_at "rd"
   refine ⟨_, hl, rfl, ?_⟩
   walk_at "rd*"
   refine ⟨y, rfl, oy, ?_⟩
   rintro _ H1 ⟨g, rfl, n1, S1, h1⟩
   have hl1 := S1 _ _ hl
   clear hl
   walk_at "rd*"
   refine ⟨n, rfl, na, nb, ?_⟩
   intro x dx H2 n2 n3 nx S2 hdx hx
   refine ⟨dx, hx, fun H3 B3 h3 => ?_⟩
   rw [asNew]
   refine ⟨rfl, ?_⟩
   have gx : g ≠ x := fun e => by rw [e] at h1; rw [h1] at n2; cases n2
   exact q x H3 (S1.free n2) (fun b u e => B3 _ _ (fun z => by rw [z] at e; rw [S1 _ _ e] at n2; cases n2) (S2 _ _ (S1 _ _ e))) ⟨dx, _, h3, g, rfl, B3 _ _ gx (S2 _ _ h1)⟩
  | _ => simp [Dt.kd] at hk
theorem g9c (T : Tx K mg A) : a1k P A.wd K mg base CX0 6 A.b7s A.b9j ["values"] (f7y A 4) := by
 have a2y : a1k P A.wd K mg base CX0 1 _ _ _ _ := g8y T
 have a6r : a1k P A.wd K mg base CX0 4 _ _ _ _ := h3w T
 have c0z : a1k P A.wd K mg base CX0 4 _ _ _ _ := i3a T
 have h3x : a1k P A.wd K mg base CX0 1 _ _ _ _ := i2w T
 have g9d : a1k P A.wd K mg base CX0 1 _ _ _ _ := h7f T
 have g5d : a1k P A.wd K mg base CX0 1 _ _ _ _ := h7k T
 have b3u := T.b3u
 have a3k := T.a3k
 have a3l := T.a3l
 refine T.c7w.ok f4h (fun vs H Q E h => ?_) (fun cdv A' outer s H vs Q E hr h => ?_)
 ·obtain ⟨_, rfl, _⟩ := b0l (by unfold f7y at h; exact h)
  rfl
 ·obtain ⟨l, rfl, ⟨d, hk, ok, hl, q⟩⟩ := b0l (by unfold f7y at h; exact h)
  cases d with
  | hall y n =>
   have hu := hr.units
   have a2o : a2k 1 _ := hr.mono (by decide)
   have a5m : a2k 4 _ := hr.mono (by decide)
   have b7u : a2k 4 _ := hr.mono (by decide)
   have g9e : a2k 1 _ := hr.mono (by decide)
   have g5e : a2k 1 _ := hr.mono (by decide)
   have g0x : a2k 2 _ := hr.mono (by decide)
   obtain ⟨oy, yl, na, nb⟩ := ok
   replace hl : H l = some (.lst [.str (fW y), .str (nW n)]) := hl
   refine ⟨_, (a0j (a2n (a0q a2y a2o (by rfl) T.a9u T.a3o.kp T.a9t .nil a0t (a0g (pvF 0) (a0g a0o a0h))))
   (a0j (a0v (i := 1) f4h.nd rfl (Or.inl rfl) (a0q a6r a5m (by rfl) T.c0w T.a6p.kp T.c0v .nil a0t (a0g (a1h a3q (pvF 0) a0o (fun _ _ => rfl)) a0h)))
   (a0j (a4g (b8h (a6j (a0q g9d g5e (by rfl) T.g8i T.c3m.kp T.g8h .nil a0t (a0g (a0q h3x g9e (by rfl) T.h2n T.c7s.kp T.h2m .nil a0t (a0g (pvF 1) a0h)) (a0g (a9z (a0g a0o (a0g a0o a0h))) a0h)))))
   (a0n a1z)
   a1l)
   (a0n (a0z (c1j T.h2f g5d g0x (by rfl) T.i1x T.g3o .nil a0t (a0g (pvF 1) (a0g (a0q c0z b7u (by rfl) T.d0v T.b1j.kp T.d0u .nil a0t (a0g (a1h a3q (pvF 0) a0o (fun _ _ => rfl)) a0h)) a0h)))))))), ?_⟩
   walk_at "rd"
   refine ⟨_, hl, rfl, ?_⟩
   walk_at "rd*"
   refine ⟨y, rfl, oy, ?_⟩
   rintro _ H1 ⟨g, rfl, n1, S1, h1⟩
   have hl1 := S1 _ _ hl
   clear hl
   walk_at "rd"
   refine ⟨y, h1, ?_⟩
   rintro _ H2 ⟨a, rfl, n2, S2, h2⟩
   walk_at "rd"
   refine fun u H3 n3 S3 h3 => ?_
   have h3' : H3 u = some (.tup (c6n 1)) := h3
   have S13 := S2.trans S3
   have b1 := oy.b.1
   have b2 := oy.b.2
   have ab := h7l b1
   have hl3 := S13 _ _ hl1
   clear h3 hl1
   have un : (Rat.abs y).num * ((1 : Rat).den : Int) < (1 : Rat).num * ((Rat.abs y).den : Int) := by
    rw [g4u, g4v]
    show (y.num.natAbs : Int) * 1 < 1 * (y.den : Int)
    omega
   walk_at "rd"
   refine ⟨Rat.abs y, 1, ⟨S3 _ _ h2, h3', by omega, by rw [g4v]; omega, by decide, by decide⟩, ?_⟩
   walk_at "rd*"
   refine ⟨n, rfl, na, nb, ?_⟩
   intro x dx H4 n4 n5 nx S4 hdx hx
   refine ⟨dx, hx, fun H5 B5 h5 => ?_⟩
   rw [asNew]
   refine ⟨rfl, ?_⟩
   have h1' := S13 _ _ h1
   have S03 := S1.trans S13
   have gx : g ≠ x := fun e => by rw [e] at h1'; rw [h1'] at n4; cases n4
   exact q x H5 (S03.free n4) (fun b u e => B5 _ _ (fun z => by rw [z] at e; rw [S03 _ _ e] at n4; cases n4) (S4 _ _ (S03 _ _ e))) ⟨dx, _, h5, g, rfl, B5 _ _ gx (S4 _ _ h1')⟩
  | _ => simp [Dt.kd] at hk
theorem Crn.h7n {l : Addr} {H H' : Hp} {ps : List Addr} {cs : List (Int × Rat)} {xs : List V} (h : Crn H ps cs) (hl : H l = some (.lst xs)) (S : a2p l H H') : Crn H' ps cs :=
 ⟨h.1, fun i p c e1 e2 => (h.2 i p c e1 e2).elim fun g z => ⟨g, S _ _ (fun e => by have := z.1; rw [e, hl] at this; cases this) z.1, S _ _ (fun e => by have := z.2; rw [e, hl] at this; cases this) z.2⟩⟩
theorem Crn.nil {H : Hp} : Crn H [] [] := ⟨rfl, fun i p r e => by simp at e⟩
theorem Crn.snoc {H : Hp} {ps : List Addr} {cs : List (Int × Rat)} {p g : Addr} {a : Int} {y : Rat} (h : Crn H ps cs) (hp : H p = some (.tup [.int a, .ref g])) (hg : H g = some (.tup (c6n y))) : Crn H (ps ++ [p]) (cs ++ [(a, y)]) := by
 refine ⟨by rw [List.length_append, List.length_append, h.1]; rfl, fun i p' c' e1 e2 => ?_⟩
 by_cases hi : i < ps.length
 ·rw [List.getElem?_append_left hi] at e1
  rw [List.getElem?_append_left (by rw [<- h.1]; exact hi)] at e2
  exact h.2 i p' c' e1 e2
 ·rw [List.getElem?_append_right (by omega)] at e1
  rw [List.getElem?_append_right (by rw [<- h.1]; omega)] at e2
  rw [<- h.1] at e2
  cases hz : i - ps.length with
  | zero =>
   rw [hz] at e1 e2
   simp at e1 e2
   subst e1 e2
   exact ⟨g, hp, hg⟩
  | succ n =>
   rw [hz] at e1
   simp at e1
theorem j2w (T : Tx K mg A) : a1k P A.wd K mg base CX0 5 A.a6n A.a7h ["text"] j2j := by
 have a6r : a1k P A.wd K mg base CX0 4 _ _ _ _ := h3w T
 have a6q : a1k P A.wd K mg base CX0 3 _ _ _ _ := h7m T
 refine T.b3w.ok c9n (fun vs H Q E h => ?_) (fun cdv A' outer s H vs Q E hr h => ?_)
 ·obtain ⟨_, rfl, _⟩ := f7v (by unfold j2j at h; exact h)
  rfl
 ·obtain ⟨x, rfl, ⟨c, hx, c0, c1, oy, q⟩⟩ := f7v (by unfold j2j at h; exact h)
  subst hx
  have hu := hr.units
  have a5m : a2k 4 _ := hr.mono (by decide)
  have a5o : a2k 3 _ := hr.mono (by decide)
  have sp := f9l (c := c)
  have cl := h9a (c := c) (by omega) oy.b.1 oy.b.2
  have hs : sizeLine = 16777216 := sizeLine_eq
  have d1 : ((⟨#[61]⟩ : Str).length == 0) = false := rfl
  have d2 : (cW c).length <= sizeLine := by omega
  refine ⟨_, (a0j (a0v (i := 1) c9n.nd rfl (Or.inl rfl) (a5p a4p PySem.F.plainAttrs_str PySem.F.slot_str_split PySem.F.type_str_split c8s (pvF 0) (a0g a0w a0h)))
   (a0j (a4g (a0u (b8i hu) (a1o a4i (by rfl) T.c8j boot_len (a0g (pvF 1) a0h)) a0o (a1q _))
   (a0n a1z)
   a1l)
   (a0n (a0z (a9z (a0g (a0q a6q a5o (by rfl) T.b8u T.a5l.kp T.b8t .nil a0t (a0g (a1h a3q (pvF 1) a0o (fun _ _ => rfl)) (a0g a0o (a0g (a5n (v := .int 100000) (by rfl) T.g8t T.d4v) a0h)))) (a0g (a0q a6r a5m (by rfl) T.c0w T.a6p.kp T.c0v .nil a0t (a0g (a1h a3q (pvF 1) a0o (fun _ _ => rfl)) a0h)) a0h))))))), ?_⟩
  rw [j1v]
  walk_at "rd*"
  refine ⟨by omega, fun l H1 n1 S1 h1 => ?_⟩
  walk_at "rd*"
  have e : ((c.1.toNat : Nat) : Int) = c.1 := Int.toNat_of_nonneg c0
  refine ⟨c.1.toNat, by rw [c1k, e], by omega, by omega, by omega, c.2, rfl, oy, ?_⟩
  rw [e]
  rintro _ H2 ⟨g, rfl, n2, S2, h2⟩
  walk_at "rd"
  intro p H3 n3 S3 h3
  exact q p g H3 ((S1.trans S2).free n3) (S1.trans (S2.trans S3)) h3 (S3 _ _ h2)
theorem g5f (T : Tx K mg A) : a1k P A.wd K mg base CX0 7 A.b2n A.b5q ["values"] (f7y A 5) := by
 have a2y : a1k P A.wd K mg base CX0 1 _ _ _ _ := g8y T
 have f7k : a1k P A.wd K mg base CX0 5 _ _ _ _ := j2w T
 have g0y : a1k P A.wd K mg base CX0 5 _ _ _ _ := h3r T
 have a8k := T.a8k
 have a1p := T.a1p
 have a1t := T.a1t
 have a2j := T.a2j
 refine T.c3o.ok c4k (fun vs H Q E h => ?_) (fun cdv A' outer s H vs Q E hr h => ?_)
 ·obtain ⟨_, rfl, _⟩ := b0l (by unfold f7y at h; exact h)
  rfl
 ·obtain ⟨l, rfl, ⟨d, hk, ok, hl, q⟩⟩ := b0l (by unfold f7y at h; exact h)
  cases d with
  | swell cs =>
   have hu := hr.units
   have a2o : a2k 1 _ := hr.mono (by decide)
   have f2w : a2k 5 _ := hr.mono (by decide)
   have f7l : a2k 6 _ := hr.mono (by decide)
   have ok : h4y cs := ok
   have L1 := ok.2.2.1
   have L12 := ok.2.2.2
   have hs : sizeLine = 16777216 := sizeLine_eq
   have jl := ok.j1t
   have sp := f5n L1
   have d1 : ((⟨#[44]⟩ : Str).length == 0) = false := rfl
   replace hl : H l = some (.lst [.str (Str.join ⟨#[44]⟩ (cs.map cW))]) := hl
   refine ⟨_, (a0j (a2n (a0q a2y a2o (by rfl) T.a9u T.a3o.kp T.a9t .nil a0t (a0g (pvF 0) (a0g a0o a0h))))
   (a0j (f5h (i := 1) c4k.nd rfl rfl (a1m (a5p a4p PySem.F.plainAttrs_str PySem.F.slot_str_split PySem.F.type_str_split c8s (a1h a3q (pvF 0) a0o (fun _ _ => rfl)) (a0g a0w a0h))) (fun _ _ _ _ _ => (a0q f7k f2w (by rfl) T.f6k T.b3w.kp T.f6j .nil a0t (a0g (pvF 0) a0h))) (b3n (sc := a0p d3s) (N := ["values", "corners", "left", "right"]) rfl rfl (by decide +kernel)) rfl)
   (a0j (a4g (a0u f2k (a1o a4i (by rfl) T.c8j boot_len (a0g (pvF 1) a0h)) (a5n (v := .int 12) (by rfl) T.f1m T.c0s) (a1q _))
   (a0n a1z)
   a1l)
   (a0j (a7u PassesOwn.never rfl (h1o (by rfl) T.i1t (a0g (pvF 1) (a0g (a5j j4k (pvF 1) (a4u a0o) a9y) a0h))) (d3p (n := 2) rfl (a4j (a2m (i := 2) c4k.nd rfl (Or.inl rfl)) (a4j (a2m (i := 3) c4k.nd rfl (Or.inl rfl)) c8t)))
   (a0n (a4g (a0u i6e (a1h a3q (pvF 2) a0o (fun _ _ => rfl)) (a1h a3q (pvF 3) a0o (fun _ _ => rfl)) (a1q _))
   (a0n a1z)
   a1l)))
   (a0n (a0z (c1j T.g3c g0y f7l (by rfl) T.h6y T.g0l .nil a0t (a0g (pvF 1) a0h)))))))), ?_⟩
   rw [i1e]
   walk_at "rd"
   refine ⟨_, hl, rfl, ?_⟩
   walk_at "rd*"
   refine ⟨by omega, by omega, fun a H1 n1 S1 h1 => ?_⟩
   walk_at "rd"
   refine ⟨⟨_, SqL.of h1⟩, fun D H2 n2 S2 h2 => ?_⟩
   refine b8w (xs := (cs.map cW).map V.str) (fun i ys H' => Same H1 H' /\ H' D = some (.lst ys) /\ ∃ ps, ys = ps.map V.ref /\ Crn H' ps (cs.take i)) ⟨S2, h2, [], rfl, by rw [List.take_zero]; exact Crn.nil⟩ (by rw [List.length_map, List.length_map, hs]; omega) ?_ ?_ ?_
   ·intro i ys H' hi ⟨S', h', ps, e, R⟩
    rw [List.length_map, List.length_map] at hi
    exact ⟨h', SqL.of (S' _ _ h1), by rw [e, List.length_map, R.1, List.length_take]; omega⟩
   ·intro i x ys H' hx ⟨S', h', ps, e, R⟩
    rw [List.map_map, List.getElem?_map] at hx
    obtain ⟨c, hc, rfl⟩ := Option.map_eq_some_iff.mp hx
    obtain ⟨o1, o2, oy⟩ := ok.1 c (List.mem_of_getElem? hc)
    walk_at "rd"
    refine ⟨c, rfl, o1, o2, oy, fun p g H3 n3 S3 h3 hg => ⟨S3 _ _ h', fun H4 B4 h4 => ⟨(S'.trans S3).step n2 B4, h4, ps ++ [p], by rw [e, List.map_append]; rfl, ?_⟩⟩⟩
    rw [List.take_add_one, hc]
    exact ((R.same S3).snoc h3 hg).h7n (S3 _ _ h') B4
   ·intro ys H3 ⟨S3, h3, ps, e, R⟩
    rw [List.length_map, List.length_map, List.take_length] at R
    subst e
    have pl := R.1
    have ln : ¬ (12 : Int) < (cs.length : Int) := by omega
    clear h2 sp jl
    walk_at "rd*"
    refine fun c2 H4 n4 S4 h4 => ?_
    have e2 : d3k (ps.map V.ref) (some 1) none = (ps.drop 1).map V.ref := by
     show d7q (ps.map V.ref) (some ((1 : Nat) : Int)) none = _
     rw [b0h, List.map_drop]
    rw [e2] at h4
    have h34 := S4 _ _ h3
    clear e2 h3
    walk_at "rd*"
    obtain ⟨Pv, pin, pout⟩ := d1s (fun i σ H' => ∃ (v2 v3 : Option V), σ = [some (.ref l), some (.ref D), v2, v3] /\ Same H4 H')
    refine g6j (xs := ps.map V.ref) (ys := (ps.drop 1).map V.ref) Pv (pin _ _ _ ⟨_, _, rfl, Same.refl _⟩) ?_ ?_ ?_
    ·intro i σ H5 hp
     obtain ⟨v2, v3, rfl, S5⟩ := pout _ _ _ hp
     exact ⟨SqL.of (S5 _ _ h34), SqL.of (S5 _ _ h4)⟩
    ·intro i x y σ H5 p H6 hx hy hp np S6 h6
     obtain ⟨v2, v3, rfl, S5⟩ := pout _ _ _ hp
     obtain ⟨pc, c, g, rfl, hc, hpc, hg⟩ := R.get hx
     have hy' : (ps.map V.ref)[i + 1]? = some y := by
      rw [List.map_drop, List.getElem?_drop] at hy
      rwa [Nat.add_comm] at hy
     obtain ⟨pd, d, gd, rfl, hd, hpd, hgd⟩ := R.get hy'
     have lt := ok.2.1 i c d hc hd
     have nlt : ¬ d.1 <= c.1 := by omega
     have SS := S4.trans (S5.trans S6)
     have hpc' := SS _ _ hpc
     have hpd' := SS _ _ hpd
     clear hpc hpd h34 h4 hg hgd
     walk_at "rd*"
     exact pin _ _ _ ⟨_, _, rfl, S5.trans S6⟩
    ·intro σ H5 hp
     obtain ⟨v2, v3, rfl, S5⟩ := pout _ _ _ hp
     walk_at "rd"
     intro x dx H6 n6 n7 nx S6 hdx hx
     have hl6 := S6 _ _ (S5 _ _ h34)
     have S36 := S4.trans (S5.trans S6)
     have S03 := S1.trans S3
     have S05 := S03.trans (S4.trans S5)
     refine ⟨dx, ps, cs, hx, hl6, R.same S36, h4y.crn ok, L1, L12, fun ct ln S ss us H7 B7 nct h7 hct hln TP sok => ?_⟩
     rw [asNew]
     refine ⟨rfl, q x H7 (S05.free n6) (fun b u e => B7 _ _ (fun z => by rw [z] at e; rw [S05 _ _ e] at n6; cases n6) (S6 _ _ (S05 _ _ e))) ⟨dx, _, h7, ct, ln, S, ss, us, ps, rfl, hct, hln, TP, sok, (R.same S36).d3g hx B7⟩⟩
  | _ => simp [Dt.kd] at hk
theorem i3b (T : Tx K mg A) : a1k P A.wd K mg base CX0 8 A.b9w A.b9k ["word"] (h3e A) := by
 have h3y : a1k P A.wd K mg base CX0 6 _ _ _ _ := g8z T
 have g9f : a1k P A.wd K mg base CX0 6 _ _ _ _ := g5a T
 have h3z : a1k P A.wd K mg base CX0 6 _ _ _ _ := g9a T
 have h4a : a1k P A.wd K mg base CX0 6 _ _ _ _ := g9b T
 have h4b : a1k P A.wd K mg base CX0 6 _ _ _ _ := g9c T
 have g9g : a1k P A.wd K mg base CX0 7 _ _ _ _ := g5f T
 refine T.c7y.ok f4i (fun vs H Q E h => ?_) (fun cdv A' outer s H vs Q E hr h => ?_)
 ·obtain ⟨_, rfl, _⟩ := f7v (by unfold h3e at h; exact h)
  rfl
 ·obtain ⟨x, rfl, ⟨d, ok, hx, q⟩⟩ := f7v (by unfold h3e at h; exact h)
  subst hx
  have hu := hr.units
  have g9h : a2k 6 _ := hr.mono (by decide)
  have g5g : a2k 6 _ := hr.mono (by decide)
  have g9i : a2k 6 _ := hr.mono (by decide)
  have g9j : a2k 6 _ := hr.mono (by decide)
  have g9k : a2k 6 _ := hr.mono (by decide)
  have g5h : a2k 7 _ := hr.mono (by decide)
  have dk := T.g8v
  have sp := d.split
  have wl := d.j4l ok
  have vn := d.vn
  have hs : sizeLine = 16777216 := sizeLine_eq
  have d1 : ((⟨#[58]⟩ : Str).length == 0) = false := rfl
  obtain ⟨f, hf⟩ : ∃ f, PySem.W.nsIn K A.a2l d.kind = some (some (.ref f)) := by
   cases d with
   | gain => exact ⟨_, T.b3z⟩
   | delay => exact ⟨_, T.b0n⟩
   | echo => exact ⟨_, T.b4g⟩
   | back => exact ⟨_, T.b4h⟩
   | hall => exact ⟨_, T.b4i⟩
   | swell => exact ⟨_, T.b0o⟩
  refine ⟨_, (a0j (a4g (b8h (a6j (a1o (c1i .str) (by rfl) T.a6h boot_isinstance (a0g (pvF 0) (a0g (c6r (v := .ty "str") (u := .type "str") (by rfl) T.f6m rfl rfl) a0h)))))
   (a0n a1z)
   a1l)
   (a0j (a0v (i := 1) f4i.nd rfl (Or.inl rfl) (a5p a4p PySem.F.plainAttrs_str PySem.F.slot_str_split PySem.F.type_str_split c8s (pvF 0) (a0g a0w a0h)))
   (a0j (a4g (a0u (h1s (K := K) (w := A.wd) (by rfl) (by rfl)) (a1h a3q (pvF 1) a0o (fun _ _ => rfl)) (a5n (v := .ref A.a2l) (by rfl) T.b6t rfl) (by rfl))
   (a0n a1z)
   a1l)
   (a0n (a0z (a4r (c8v h3y g9h T.c7t.kp T.h2o .nil a0t (a1h (i4a (K := K) (w := A.wd) (by rfl) (by rfl)) (a5n (v := .ref A.a2l) (by rfl) T.b6t rfl) (a1h a3q (pvF 1) a0o (fun _ _ => rfl)) (fun _ _ => rfl)) (a0g (a5j g6f (pvF 1) (a4u a0o) a9y) a0h)) (a4r (c8v g9f g5g T.c3n.kp T.g8j .nil a0t (a1h (i4a (K := K) (w := A.wd) (by rfl) (by rfl)) (a5n (v := .ref A.a2l) (by rfl) T.b6t rfl) (a1h a3q (pvF 1) a0o (fun _ _ => rfl)) (fun _ _ => rfl)) (a0g (a5j g6f (pvF 1) (a4u a0o) a9y) a0h)) (a4r (c8v h3z g9i T.c7u.kp T.h2p .nil a0t (a1h (i4a (K := K) (w := A.wd) (by rfl) (by rfl)) (a5n (v := .ref A.a2l) (by rfl) T.b6t rfl) (a1h a3q (pvF 1) a0o (fun _ _ => rfl)) (fun _ _ => rfl)) (a0g (a5j g6f (pvF 1) (a4u a0o) a9y) a0h)) (a4r (c8v h4a g9j T.c7v.kp T.h2q .nil a0t (a1h (i4a (K := K) (w := A.wd) (by rfl) (by rfl)) (a5n (v := .ref A.a2l) (by rfl) T.b6t rfl) (a1h a3q (pvF 1) a0o (fun _ _ => rfl)) (fun _ _ => rfl)) (a0g (a5j g6f (pvF 1) (a4u a0o) a9y) a0h)) (a4r (c8v h4b g9k T.c7w.kp T.h2r .nil a0t (a1h (i4a (K := K) (w := A.wd) (by rfl) (by rfl)) (a5n (v := .ref A.a2l) (by rfl) T.b6t rfl) (a1h a3q (pvF 1) a0o (fun _ _ => rfl)) (fun _ _ => rfl)) (a0g (a5j g6f (pvF 1) (a4u a0o) a9y) a0h)) (c8v g9g g5h T.c3o.kp T.g8k .nil a0t (a1h (i4a (K := K) (w := A.wd) (by rfl) (by rfl)) (a5n (v := .ref A.a2l) (by rfl) T.b6t rfl) (a1h a3q (pvF 1) a0o (fun _ _ => rfl)) (fun _ _ => rfl)) (a0g (a5j g6f (pvF 1) (a4u a0o) a9y) a0h)))))))))))), ?_⟩
  rw [j1u]
  walk_at "rd*"
  refine ⟨by omega, by omega, fun l H1 n1 S1 h1 => ?_⟩
  clear sp wl
  walk_at "rd*"
  clear hf
  cases d with
  | gain y =>
   refine Or.inl ?_
   have rd := T.b3z
   have q1 := ok
   clear ok
   replace h1 : H1 l = some (.lst [.str (Str.ofString "gain"), .str (fW y)]) := h1
   walk_at "rd*"
   refine fun m H2 n2 S2 h2 => ?_
   have e2 : d3k [V.str (Str.ofString "gain"), V.str (fW y)] (some 1) none = (Dt.gain y).vals.map V.str := by
    show d7q _ (some ((1 : Nat) : Int)) none = _
    rw [b0h]
    rfl
   rw [e2] at h2
   walk_at "rd"
   exact ⟨_, rfl, q1, h2, fun o H3 n3 S3 hp => q o H3 ((S1.trans S2).free n3) (S1.trans (S2.trans S3)) hp⟩
  | delay n =>
   refine Or.inr (Or.inl ?_)
   have rd := T.b0n
   have q1 := ok
   clear ok
   replace h1 : H1 l = some (.lst [.str (Str.ofString "delay"), .str (nW n)]) := h1
   walk_at "rd*"
   refine fun m H2 n2 S2 h2 => ?_
   have e2 : d3k [V.str (Str.ofString "delay"), V.str (nW n)] (some 1) none = (Dt.delay n).vals.map V.str := by
    show d7q _ (some ((1 : Nat) : Int)) none = _
    rw [b0h]
    rfl
   rw [e2] at h2
   walk_at "rd"
   exact ⟨_, rfl, q1, h2, fun o H3 n3 S3 hp => q o H3 ((S1.trans S2).free n3) (S1.trans (S2.trans S3)) hp⟩
  | echo y n t =>
   refine Or.inr (Or.inr (Or.inl ?_))
   have rd := T.b4g
   have q1 := ok
   clear ok
   replace h1 : H1 l = some (.lst [.str (Str.ofString "echo"), .str (fW y), .str (nW n), .str (nW t)]) := h1
   walk_at "rd*"
   refine fun m H2 n2 S2 h2 => ?_
   have e2 : d3k [V.str (Str.ofString "echo"), V.str (fW y), V.str (nW n), V.str (nW t)] (some 1) none = (Dt.echo y n t).vals.map V.str := by
    show d7q _ (some ((1 : Nat) : Int)) none = _
    rw [b0h]
    rfl
   rw [e2] at h2
   walk_at "rd"
   exact ⟨_, rfl, q1, h2, fun o H3 n3 S3 hp => q o H3 ((S1.trans S2).free n3) (S1.trans (S2.trans S3)) hp⟩
  | back y n =>
   refine Or.inr (Or.inr (Or.inr (Or.inl ?_)))
   have rd := T.b4h
   have q1 := ok
   clear ok
   replace h1 : H1 l = some (.lst [.str (Str.ofString "back"), .str (fW y), .str (nW n)]) := h1
   walk_at "rd*"
   refine fun m H2 n2 S2 h2 => ?_
   have e2 : d3k [V.str (Str.ofString "back"), V.str (fW y), V.str (nW n)] (some 1) none = (Dt.back y n).vals.map V.str := by
    show d7q _ (some ((1 : Nat) : Int)) none = _
    rw [b0h]
    rfl
   rw [e2] at h2
   walk_at "rd"
   exact ⟨_, rfl, q1, h2, fun o H3 n3 S3 hp => q o H3 ((S1.trans S2).free n3) (S1.trans (S2.trans S3)) hp⟩
  | hall y n =>
   refine Or.inr (Or.inr (Or.inr (Or.inr (Or.inl ?_))))
   have rd := T.b4i
   have q1 := ok
   clear ok
   replace h1 : H1 l = some (.lst [.str (Str.ofString "hall"), .str (fW y), .str (nW n)]) := h1
   walk_at "rd*"
   refine fun m H2 n2 S2 h2 => ?_
   have e2 : d3k [V.str (Str.ofString "hall"), V.str (fW y), V.str (nW n)] (some 1) none = (Dt.hall y n).vals.map V.str := by
    show d7q _ (some ((1 : Nat) : Int)) none = _
    rw [b0h]
    rfl
   rw [e2] at h2
   walk_at "rd"
   exact ⟨_, rfl, q1, h2, fun o H3 n3 S3 hp => q o H3 ((S1.trans S2).free n3) (S1.trans (S2.trans S3)) hp⟩
  | swell cs =>
   refine Or.inr (Or.inr (Or.inr (Or.inr (Or.inr ?_))))
   have rd := T.b0o
   have q1 := ok
   clear ok
   replace h1 : H1 l = some (.lst [.str (Str.ofString "swell"), .str (Str.join ⟨#[44]⟩ (cs.map cW))]) := h1
   walk_at "rd*"
   refine fun m H2 n2 S2 h2 => ?_
   have e2 : d3k [V.str (Str.ofString "swell"), V.str (Str.join ⟨#[44]⟩ (cs.map cW))] (some 1) none = (Dt.swell cs).vals.map V.str := by
    show d7q _ (some ((1 : Nat) : Int)) none = _
    rw [b0h]
    rfl
   rw [e2] at h2
   walk_at "rd"
   exact ⟨_, rfl, q1, h2, fun o H3 n3 S3 hp => q o H3 ((S1.trans S2).free n3) (S1.trans (S2.trans S3)) hp⟩
theorem i3c {c : Nat} (h1 : 97 ≤ c) (h2 : c ≤ 122) : i0p "abcdefghijklmnopqrstuvwxyz" ⟨#[c]⟩ = true := by
 unfold i0p
 rw [StrLaws.found_one]
 have e : (Str.ofString "abcdefghijklmnopqrstuvwxyz").cps.toList = [97, 98, 99, 100, 101, 102, 103, 104, 105, 106, 107, 108, 109, 110, 111, 112, 113, 114, 115, 116, 117, 118, 119, 120, 121, 122] := by decide +kernel
 rw [e, decide_eq_true_eq]
 simp
 omega
theorem h4d {x : Str} {D : Addr} {te : TE} {σ : L2.St} {H0 H : Hp} {Q : VK} (f : Nat -> V) (n0 : H0 D = none) (S : Same H0 H) (hD : H D = some (.lst [])) (hsz : x.cps.size <= sizeLine)
  (hs : ∀ (i : Nat) c H' (Q' : VK), x.cps[i]? = some c -> Same H0 H' -> Q' (f c) H' -> te (some (.str ⟨#[c]⟩) :: σ) H' Q') (q : ∀ H', Same H0 H' -> H' D = some (.lst (x.cps.toList.map f)) -> Q (.ref D) H') : d7i (Its x) te D σ H Q ⟨⟩ := by
 refine ⟨x.cps.size, fun i ys H' => Same H0 H' /\ H' D = some (.lst ys) /\ ys = (x.cps.toList.take i).map f, ⟨S, hD, by simp⟩, fun i ys H' hi w => ?_⟩
 obtain ⟨S', h', e⟩ := w
 refine ⟨h', ?_⟩
 by_cases hlt : i < x.cps.size
 ·refine .inr ⟨hlt, hlt, by rw [e, List.length_map, List.length_take]; omega, fun v H2 y => ?_⟩
  obtain ⟨e2, c, hc, ev⟩ := y
  subst e2 ev
  refine hs i c _ _ hc S' ⟨h', fun H3 s3 h3 => ⟨S'.step n0 s3, h3, ?_⟩⟩
  have hc' : x.cps.toList[i]? = some c := by rw [Array.getElem?_toList]; exact hc
  rw [List.take_add_one, hc', List.map_append, e]
  rfl
 ·have e3 : i = x.cps.size := by omega
  subst e3
  refine .inl ⟨rfl, q H' S' ?_⟩
  rw [h', e, List.take_of_length_le (by rw [Array.length_toList]; exact Nat.le_refl _)]
theorem h4e (T : Tx K mg A) : a1k P A.wd K mg base CX0 1 A.b9y A.b9l ["value"] f6t := by
 refine T.c7z.ok g8e (fun vs H Q E h => ?_) (fun cdv A' outer s H vs Q E hr h => ?_)
 ·obtain ⟨_, rfl, _⟩ := f7v (by unfold f6t at h; exact h)
  rfl
 ·obtain ⟨x, rfl, ⟨⟨l8, ne, ab⟩, q⟩⟩ := f7v (by unfold f6t at h; exact h)
  have hu := hr.units
  have hs : sizeLine = 16777216 := sizeLine_eq
  have nl : ¬ (8 : Int) < (x.length : Int) := by omega
  have ne' : (x = Str.ofString "") = False := eq_false ne
  have xl : x.length <= 16777216 := by omega
  refine ⟨_, (a0j (a4g (pw_or (b8h (a6j (a1o (c1i .str) (by rfl) T.a6h boot_isinstance (a0g (pvF 0) (a0g (c6r (v := .ty "str") (u := .type "str") (by rfl) T.f6m rfl rfl) a0h))))) (pw_or (a0u (b1l hu) (pvF 0) a0w (a1q _)) (pw_or1 (a0u f2k (a1o a4i (by rfl) T.c8j boot_len (a0g (pvF 0) a0h)) (a5n (v := .int 8) (by rfl) T.f1n T.c0u) (a1q _))))).pt
   (a0n (a0z f2j))
   a1l)
   (a0n (a0z (a1o (h1u rfl) (by rfl) T.j1z boot_all (a0g (a4w (h8r (pvF 0)) (fun _ _ _ _ _ => (c9t f3n (pvF 0) (a5n (v := .str "abcdefghijklmnopqrstuvwxyz") (by rfl) T.g8u T.d4y) (by rfl))) (b3n (sc := a0p d9q) (N := ["value"]) rfl rfl (by decide +kernel)) rfl) a0h))))), ?_⟩
  walk_at "rd*"
  refine fun D H2 n2 S2 h2 => ?_
  refine h4d (fun _ => V.bl true) n2 S2 h2 (show x.length <= sizeLine by omega) ?_ ?_
  ·intro i c H' Q' hc SS q'
   have hm := ab c (by rw [Array.mem_toList_iff]; exact Array.mem_of_getElem? hc)
   have hh := i3c hm.1 hm.2
   walk_at "rd*"
  ·intro H3 S3 h3
   walk_at "rd*"
   refine ⟨x.cps.toList.map fun _ => true, by rw [List.map_map]; rfl, ?_⟩
   rw [show (x.cps.toList.map fun _ => true).all id = true by simp]
   exact q H3 S3
theorem h7o (T : Tx K mg A) : a1k P A.wd K mg base CX0 1 A.a3s A.a8v ["self"] g4l := by
 refine T.c1r.ok f5p (fun vs H Q E h => ?_) (fun cdv A' outer s H vs Q E hr h => ?_)
 ·obtain ⟨_, rfl, _⟩ := b0l (by unfold g4l at h; exact h)
  rfl
 ·obtain ⟨o, rfl, k⟩ := b0l (by unfold g4l at h; exact h)
  have hu := hr.units
  refine ⟨_, (a0n (a0z (a9z a0h))), ?_⟩
  walk_at "rd"
  refine ⟨Nat.zero_le _, fun t H1 n1 S1 h1 => k _ _ ⟨t, rfl, n1, S1, h1⟩⟩
theorem g9s.same {A : Ad} {H H' : Hp} {os : List Addr} {ds : List Dt} (h : g9s A H os ds) (S : Same H H') : g9s A H' os ds := ⟨h.1, fun i o d e1 e2 => (h.2 i o d e1 e2).same S⟩
theorem IsP.keep {A : Ad} {D : Addr} {H H' : Hp} {o : Addr} {d : Dt} (h : IsP A H o d) (no : o ≠ D) (nt : ∀ ts, H D ≠ some (.tup ts)) (B : a2p D H H') : IsP A H' o d := by
 have ne : ∀ {p : Addr} {ts : List V}, H p = some (.tup ts) -> H' p = some (.tup ts) := fun hp => B _ _ (fun e => by rw [e] at hp; exact nt _ hp) hp
 obtain ⟨dx, fs, h1, h2⟩ := h
 refine ⟨dx, fs, B _ _ no h1, ?_⟩
 cases d with
 | gain y => obtain ⟨g, e, h1⟩ := h2; exact ⟨g, e, ne h1⟩
 | delay n => exact h2
 | echo y n t => obtain ⟨g, fa, e, h1, h2⟩ := h2; exact ⟨g, fa, e, ne h1, ne h2⟩
 | back y n => obtain ⟨g, e, h1⟩ := h2; exact ⟨g, e, ne h1⟩
 | hall y n => obtain ⟨g, e, h1⟩ := h2; exact ⟨g, e, ne h1⟩
 | swell cs =>
  obtain ⟨ct, ln, S, ss, us, ps, e, h1, h2, h3, h4, h5⟩ := h2
  exact ⟨ct, ln, S, ss, us, ps, e, ne h1, ne h2, ⟨h3.1, fun i q v e1 e2 => ne (h3.2 i q v e1 e2)⟩, h4, ⟨h5.1, fun i p c e1 e2 => (h5.2 i p c e1 e2).elim fun g z => ⟨g, ne z.1, ne z.2⟩⟩⟩
theorem g9s.keep {A : Ad} {D : Addr} {H H' : Hp} {os : List Addr} {ds : List Dt} (h : g9s A H os ds) (no : ∀ o ∈ os, o ≠ D) (nt : ∀ ts, H D ≠ some (.tup ts)) (B : a2p D H H') : g9s A H' os ds := ⟨h.1, fun i o d e1 e2 => (h.2 i o d e1 e2).keep (no o (List.mem_of_getElem? e1)) nt B⟩
theorem g9s.snoc {A : Ad} {H : Hp} {os : List Addr} {ds : List Dt} {o : Addr} {d : Dt} (h : g9s A H os ds) (hp : IsP A H o d) : g9s A H (os ++ [o]) (ds ++ [d]) := by
 obtain ⟨hl, h⟩ := h
 refine ⟨by rw [List.length_append, List.length_append, hl]; rfl, fun i s e h1 h2 => ?_⟩
 rcases Nat.lt_or_ge i ds.length with z | z
 ·rw [List.getElem?_append_left (by omega)] at h1
  rw [List.getElem?_append_left z] at h2
  exact h i s e h1 h2
 ·have hi := (List.getElem?_eq_some_iff.mp h2).1
  rw [List.length_append, List.length_singleton] at hi
  obtain rfl : i = ds.length := by omega
  rw [<- hl, List.getElem?_concat_length] at h1
  rw [List.getElem?_concat_length] at h2
  cases h1
  cases h2
  exact hp
theorem i8q (T : Tx K mg A) : a1k P A.wd K mg base CX0 9 A.b5r A.b5s ["words"] (i2g A) := by
 have h4f : a1k P A.wd K mg base CX0 8 _ _ _ _ := i3b T
 refine T.c3p.ok g2t (fun vs H Q E h => ?_) (fun cdv A' outer s H vs Q E hr h => ?_)
 ·obtain ⟨_, rfl, _⟩ := b0l (by unfold i2g at h; exact h)
  rfl
 ·obtain ⟨l, rfl, ⟨ds, hl, l8, ok, q⟩⟩ := b0l (by unfold i2g at h; exact h)
  have hu := hr.units
  have g9l : a2k 8 _ := hr.mono (by decide)
  have hs : sizeLine = 16777216 := sizeLine_eq
  have z1 : ¬ (8 : Int) < (ds.length : Int) := by omega
  refine ⟨_, (a0j (a4g (b8h (a6j (a1o (c1i .lst) (by rfl) T.a6h boot_isinstance (a0g (pvF 0) (a0g (c6r (v := .ty "list") (u := .type "list") (by rfl) T.f1l rfl rfl) a0h)))))
   (a0n a1z)
   a1l)
   (a0j (a4g (a0u f2k (a1o a4i (by rfl) T.c8j boot_len (a0g (pvF 0) a0h)) (a5n (v := .int 8) (by rfl) T.f6o T.c5s) (a1q _))
   (a0n a1z)
   a1l)
   (a0n (a0z (a4w (a1m (pvF 0)) (fun _ _ _ _ _ => (a0q h4f g9l (by rfl) T.h2u T.c7y.kp T.h2t .nil a0t (a0g (pvF 0) a0h))) (b3n (sc := a0p d3t) (N := ["words"]) rfl rfl (by decide +kernel)) rfl))))), ?_⟩
  walk_at "rd*"
  refine ⟨⟨_, SqL.of hl⟩, fun D H2 n2 S2 h2 => ?_⟩
  refine b8w (xs := ds.map fun d => V.str d.word) (fun i ys H' => Same H H' /\ H' D = some (.lst ys) /\ ∃ os : List Addr, ys = os.map V.ref /\ (∀ o ∈ os, H o = none /\ o ≠ D) /\ g9s A H' os (ds.take i)) ⟨S2, h2, [], rfl, (fun o ho => by cases ho), rfl, fun i o d e => by simp at e⟩ (by rw [List.length_map, hs]; omega) ?_ ?_ ?_
  ·intro i ys H' hi ⟨S', h', os, e, no, R⟩
   rw [List.length_map] at hi
   exact ⟨h', SqL.of (S' _ _ hl), by rw [e, List.length_map, R.1, List.length_take]; omega⟩
  ·intro i x ys H' hx ⟨S', h', os, e, no, R⟩
   rw [List.getElem?_map] at hx
   obtain ⟨d, hd, rfl⟩ := Option.map_eq_some_iff.mp hx
   have o1 := ok d (List.mem_of_getElem? hd)
   walk_at "rd"
   refine ⟨d, o1, rfl, fun o H3 n3 S3 hp => ?_⟩
   have no3 : ∀ p ∈ os ++ [o], H p = none /\ p ≠ D := fun p hp => by
    rcases List.mem_append.mp hp with h | h
    ·exact no p h
    ·obtain rfl := List.mem_singleton.mp h
     exact ⟨S'.free n3, fun z => by rw [z, h'] at n3; cases n3⟩
   refine ⟨S3 _ _ h', fun H4 B4 h4 => ⟨(S'.trans S3).step n2 B4, h4, os ++ [o], (by rw [e, List.map_append]; rfl), no3, ?_⟩⟩
   rw [List.take_add_one, hd]
   exact ((R.same S3).snoc hp).keep (fun p hp => (no3 p hp).2) (fun ts z => by rw [S3 _ _ h'] at z; cases z) B4
  ·intro ys H3 ⟨S3, h3, os, e, no, R⟩
   rw [List.length_map, List.take_length] at R
   subst e
   exact q D os H3 n2 (fun o ho => (no o ho).1) S3 h3 R
theorem ChW.same {A : Ad} {H H' : Hp} {o : Addr} {ds : List Dt} (h : ChW A H o ds) (S : Same H H') : ChW A H' o ds := by
 obtain ⟨dx, pl, sl, os, h1, h2, h3⟩ := h
 exact ⟨dx, pl, sl, os, S _ _ h1, S _ _ h2, h3.same S⟩
theorem g9m (T : Tx K mg A) : a1k P A.wd K mg base CX0 1 A.a9g A.a6y ["self"] f1o := by
 refine T.b8n.ok f2n (fun vs H Q E h => ?_) (fun cdv A' outer s H vs Q E hr h => ?_)
 ·obtain ⟨_, rfl, _⟩ := b0l (by unfold f1o at h; exact h)
  rfl
 ·obtain ⟨o, rfl, k⟩ := b0l (by unfold f1o at h; exact h)
  have hu := hr.units
  refine ⟨_, (a0n (a0z a0o)), ?_⟩
  walk_at "rd*"
  all_goals exact k
theorem d5q {C o : Addr} {i : Nat} {m : Str} {sp : Sp} {E : XK} {t : TA} {σ : L2.St} {H : Hp} {Q : VK} {dx : Addr} {fs : List (Str × V)} (hσ : σ[i]? = some (some (.ref o))) (ho : H o = some (.ins C dx fs)) (hl : fs.lookup m = none) (ht : t σ H fun vs H2 => sp (.ref o :: (vs ++ [])) H2 Q E) : c9i C m sp [] E (d1q i) t σ H Q := by
 simp only [c9i, d1q, hσ, ho]
 exact ⟨trivial, hl, ht⟩
theorem j4r {σ : L2.St} {i : Nat} {o : Addr} {H : Hp} {d : Dt} {Q : VK} {E : XK} {m : Str} {s0 s1 s2 s3 s4 s5 : Sp} (hσ : σ[i]? = some (some (.ref o))) (hd : IsP A H o d)
  (nm : m ≠ ("gain" : Str) ∧ m ≠ ("many" : Str) ∧ m ≠ ("turns" : Str) ∧ m ≠ ("factors" : Str) ∧ m ≠ ("factor_bottom" : Str) ∧ m ≠ ("corners" : Str) ∧ m ≠ ("shared" : Str) ∧ m ≠ ("lines" : Str))
  (q : (match d with | .gain _ => s0 | .delay _ => s1 | .echo .. => s2 | .back .. => s3 | .hall .. => s4 | .swell _ => s5) [.ref o] H Q E) :
  d3q (c9i A.c1o m s0 [] E (d1q i) h4w) (d3q (c9i A.b3q m s1 [] E (d1q i) h4w) (d3q (c9i A.b4m m s2 [] E (d1q i) h4w) (d3q (c9i A.c0g m s3 [] E (d1q i) h4w) (d3q (c9i A.c0h m s4 [] E (d1q i) h4w) (c9i A.b0g m s5 [] E (d1q i) h4w))))) σ H Q := by
 obtain ⟨m1, m2, m3, m4, m5, m6, m7, m8⟩ := nm
 have b : ∀ {a c : Str}, a ≠ c -> (a == c) = false := fun h => beq_false_of_ne h
 obtain ⟨dx, fs, ho, hf⟩ := hd
 have lk : fs.lookup m = none := by
  cases d with
  | gain y => obtain ⟨g, rfl, _⟩ := hf; simp only [gnF, List.lookup, b m1]
  | delay n => obtain rfl := hf; simp only [dlF, List.lookup, b m2]
  | echo y n t => obtain ⟨g, fa, rfl, _⟩ := hf; simp only [ecF, List.lookup, b m1, b m2, b m3, b m4, b m5]
  | back y n => obtain ⟨g, rfl, _⟩ := hf; simp only [bkF, List.lookup, b m1, b m2]
  | hall y n => obtain ⟨g, rfl, _⟩ := hf; simp only [bkF, List.lookup, b m1, b m2]
  | swell cs => obtain ⟨ct, ln, S, ss, us, ps, rfl, _⟩ := hf; simp only [swF, List.lookup, b m6, b m7, b m8]
 cases d with
 | gain y => exact .inl (d5q hσ ho lk q)
 | delay n => exact .inr (.inl (d5q hσ ho lk q))
 | echo y n t => exact .inr (.inr (.inl (d5q hσ ho lk q)))
 | back y n => exact .inr (.inr (.inr (.inl (d5q hσ ho lk q))))
 | hall y n => exact .inr (.inr (.inr (.inr (.inl (d5q hσ ho lk q)))))
 | swell cs => exact .inr (.inr (.inr (.inr (.inr (d5q hσ ho lk q)))))
theorem h7p (T : Tx K mg A) : a1k P A.wd K mg base CX0 10 A.b2o A.a9i ["self", "words"] (g4m A) := by
 have g9n : a1k P A.wd K mg base CX0 9 _ _ _ _ := i8q T
 have b7v : a1k P A.wd K mg base CX0 1 _ _ _ _ := h7o T
 have f7m : a1k P A.wd K mg base CX0 1 _ _ _ _ := g9m T
 have b8k := T.b8k
 have a4l := T.a4l
 have a3u := T.a3u
 have b3r := T.b3r
 have a2z := T.a2z
 have a8j := T.a8j
 have a2q := T.a2q
 have b3s := T.b3s
 have a3g := T.a3g
 have a3h := T.a3h
 have a2r := T.a2r
 have a1s := T.a1s
 have a0y := T.a0y
 have b3t := T.b3t
 have a3i := T.a3i
 have a3j := T.a3j
 have b3u := T.b3u
 have a3k := T.a3k
 have a3l := T.a3l
 have a8k := T.a8k
 have a1p := T.a1p
 have a1t := T.a1t
 have a2j := T.a2j
 refine T.c1w.ok f5r (fun vs H Q E h => ?_) (fun cdv A' outer s H vs Q E hr h => ?_)
 ·obtain ⟨_, _, rfl, _⟩ := d7k (by unfold g4m at h; exact h)
  rfl
 ·obtain ⟨o, l, rfl, ⟨dx, ds, ho, hl, l8, ok, q⟩⟩ := d7k (by unfold g4m at h; exact h)
  have hu := hr.units
  have g5i : a2k 9 _ := hr.mono (by decide)
  have b4j : a2k 1 _ := hr.mono (by decide)
  have f2y : a2k 1 _ := hr.mono (by decide)
  have hs : sizeLine = 16777216 := sizeLine_eq
  refine ⟨_, (a0j (a4q (pvF 0) (a0q g9n g5i (by rfl) T.g8m T.c3p.kp T.g8l .nil a0t (a0g (pvF 1) a0h)) rfl)
   (a0n (a4q (pvF 0) (a4w (a1m (a1y (pvF 0) rfl)) (fun _ _ _ _ _ => (a4r (a1w (pvF 0) T.b3r T.c4r b7v b4j T.b7t .nil a0t) (a4r (a1w (pvF 0) T.a8j T.c2m b7v b4j T.b7t .nil a0t) (a4r (a1w (pvF 0) T.b3s T.c4t b7v b4j T.b7t .nil a0t) (a4r (a1w (pvF 0) T.b3t T.c4u b7v b4j T.b7t .nil a0t) (a4r (a1w (pvF 0) T.b3u T.c4v b7v b4j T.b7t .nil a0t) (a1w (pvF 0) T.a8k T.c2n f7m f2y T.f6i .nil a0t))))))) (b3n (sc := a0p c6z) (N := ["self", "words"]) rfl rfl (by decide +kernel)) rfl) rfl))), ?_⟩
  walk_at "rd"
  refine ⟨ds, hl, l8, ok, fun pl os H1 np no S1 hpl R => ?_⟩
  have ho1 := S1 _ _ ho
  have noc : ∀ p ∈ os, p ≠ o := fun p hp e => by rw [<- e, no p hp] at ho; cases ho
  walk_at "rd*"
  intro H2 B2 h2
  have nop : o ≠ pl := fun e => by rw [<- e, ho] at np; cases np
  have i9s := B2 _ _ nop.symm hpl
  have R2 := R.keep noc (fun ts z => by rw [ho1] at z; cases z) B2
  clear hpl R ho ho1
  walk_at "rd*"
  refine ⟨⟨_, SqL.of i9s⟩, fun D H3 n3 S3 h3 => ?_⟩
  have ol := R2.1
  refine b8w (xs := os.map V.ref) (fun i ys H' => Same H2 H' /\ H' D = some (.lst ys) /\ ys.length = i) ⟨S3, h3, rfl⟩ (by rw [List.length_map, hs]; omega) ?_ ?_ ?_
  ·intro i ys H' hi ⟨S', h', yl⟩
   exact ⟨h', SqL.of (S' _ _ i9s), yl⟩
  ·intro i x ys H' hx ⟨S', h', yl⟩
   rw [List.getElem?_map] at hx
   obtain ⟨oi, hoi, rfl⟩ := Option.map_eq_some_iff.mp hx
   have hi := (List.getElem?_eq_some_iff.mp hoi).1
   have hd : ds[i]? = some (ds[i]'(by omega)) := List.getElem?_eq_getElem _
   have hp := (R2.2 i _ _ hoi hd).same S'
   generalize ds[i]'(by omega) = d at hd hp
   try walk_at "rd"
   have fin : ∀ (v : V) H5, Same H' H5 -> (H5 D = some (.lst ys) /\ ∀ H6, a2p D H5 H6 -> H6 D = some (.lst (ys ++ [v])) -> Same H2 H6 /\ H6 D = some (.lst (ys ++ [v])) /\ ys.length + 1 = i + 1) := fun v H5 S5 => ⟨S5 _ _ h', fun H6 B6 h6 => ⟨(S'.trans S5).step n3 B6, h6, by rw [yl]⟩⟩
   refine j4r rfl hp (by decide +kernel) ?_
   cases d with
   | swell cs => exact fin _ _ (Same.refl _)
   | _ => exact fun v H5 ⟨p, e, n5, S5, h5⟩ => fin v H5 S5
  ·intro ys H4 ⟨S4, h4, yl⟩
   have ho4 := S4 _ _ h2
   have hpl4 := S4 _ _ i9s
   have R4 := R2.same S4
   clear h2 h3 i9s
   walk_at "rd*"
   intro H5 B5 h5
   exact q H5 (fun z u hz e => B5 _ _ hz (S4 _ _ (B2 _ _ hz (S1 _ _ e)))) ⟨dx, pl, D, os, h5, B5 _ _ nop.symm hpl4, R4.keep noc (fun ts z => by rw [ho4] at z; cases z) B5⟩
theorem g0z {K : PySem.W.Frag} {a D : Addr} {xs : List V} {te : TE} {σ : L2.St} {H0 H : Hp} {Q : VK} (zs : List V) (hz : zs.length = xs.length) (n0 : H0 D = none) (S : Same H0 H) (hD : H D = some (.lst [])) (hS : SqL K H0 a xs) (hsz : xs.length <= sizeLine)
  (hs : ∀ (i : Nat) x z H' (Q' : VK), xs[i]? = some x -> zs[i]? = some z -> Same H0 H' -> (∀ H2, Same H' H2 -> Q' z H2) -> te (some x :: σ) H' Q') (q : ∀ H', Same H0 H' -> H' D = some (.lst zs) -> Q (.ref D) H') : d7i (Itl K a) te D σ H Q ⟨⟩ := by
 refine b8w (fun i ys H' => Same H0 H' /\ H' D = some (.lst ys) /\ ys = zs.take i) ⟨S, hD, by simp⟩ hsz (fun i ys H' hi p => ?_) (fun i x ys H' hx p => ?_) (fun ys H' p => ?_)
 ·refine ⟨p.2.1, p.1.seq hS, ?_⟩
  rw [p.2.2, List.length_take]
  omega
 ·have hi : i < zs.length := by rw [hz]; exact (List.getElem?_eq_some_iff.mp hx).1
  have hzi : zs[i]? = some zs[i] := List.getElem?_eq_getElem hi
  refine hs i x _ H' _ hx hzi p.1 fun H2 S2 => ⟨S2 _ _ p.2.1, fun H3 s3 h3 => ⟨(p.1.trans S2).step n0 s3, h3, ?_⟩⟩
  rw [p.2.2, List.take_add_one, hzi]
  rfl
 ·refine q H' p.1 ?_
  rw [p.2.1, p.2.2, <- hz, List.take_length]
theorem i8r (T : Tx K mg A) : a1k P A.wd K mg base CX0 4 A.a9j A.a7i ["self"] (i2h A) := by
 have g5j : a1k P A.wd K mg base CX0 2 _ _ _ _ := j2q T
 have g1a : a1k P A.wd K mg base CX0 1 _ _ _ _ := j2r T
 have g5k : a1k P A.wd K mg base CX0 2 _ _ _ _ := j2s T
 have g5l : a1k P A.wd K mg base CX0 2 _ _ _ _ := j2t T
 have g5m : a1k P A.wd K mg base CX0 2 _ _ _ _ := j2u T
 have g1b : a1k P A.wd K mg base CX0 3 _ _ _ _ := j2v T
 have b8k := T.b8k
 have a4l := T.a4l
 have a3u := T.a3u
 have b3r := T.b3r
 have a2z := T.a2z
 have a8j := T.a8j
 have a2q := T.a2q
 have b3s := T.b3s
 have a3g := T.a3g
 have a3h := T.a3h
 have a2r := T.a2r
 have a1s := T.a1s
 have a0y := T.a0y
 have b3t := T.b3t
 have a3i := T.a3i
 have a3j := T.a3j
 have b3u := T.b3u
 have a3k := T.a3k
 have a3l := T.a3l
 have a8k := T.a8k
 have a1p := T.a1p
 have a1t := T.a1t
 have a2j := T.a2j
 refine T.b8o.ok f2p (fun vs H Q E h => ?_) (fun cdv A' outer s H vs Q E hr h => ?_)
 ·obtain ⟨_, rfl, _⟩ := b0l (by unfold i2h at h; exact h)
  rfl
 ·obtain ⟨o, rfl, ⟨ds, ⟨dx, pl, sl, os, ho, hpl, R⟩, l8, ok, q⟩⟩ := b0l (by unfold i2h at h; exact h)
  have hu := hr.units
  have g1c : a2k 2 _ := hr.mono (by decide)
  have f7n : a2k 1 _ := hr.mono (by decide)
  have g1d : a2k 2 _ := hr.mono (by decide)
  have g1e : a2k 2 _ := hr.mono (by decide)
  have g1f : a2k 2 _ := hr.mono (by decide)
  have f7o : a2k 3 _ := hr.mono (by decide)
  have hs : sizeLine = 16777216 := sizeLine_eq
  have ol := R.1
  unfold chF at ho
  refine ⟨_, (a0n (a0z (a4w (a1m (a1y (pvF 0) rfl)) (fun _ _ _ _ _ => (a4r (a1w (pvF 0) T.b3r T.c7n g5j g1c T.g3j .nil a0t) (a4r (a1w (pvF 0) T.a8j T.c4s g1a f7n T.g0k .nil a0t) (a4r (a1w (pvF 0) T.b3s T.c7o g5k g1d T.g3l .nil a0t) (a4r (a1w (pvF 0) T.b3t T.c7p g5l g1e T.g3n .nil a0t) (a4r (a1w (pvF 0) T.b3u T.c7q g5m g1f T.g3p .nil a0t) (a1w (pvF 0) T.a8k T.c4w g1b f7o T.g0m .nil a0t))))))) (b3n (sc := a0p c3z) (N := ["self"]) rfl rfl (by decide +kernel)) rfl))), ?_⟩
  walk_at "rd*"
  refine ⟨⟨_, SqL.of hpl⟩, fun D H2 n2 S2 h2 => ?_⟩
  refine g0z (ds.map fun d => V.str d.word) (by rw [List.length_map, List.length_map, ol]) n2 S2 h2 (SqL.of hpl) (by rw [List.length_map, hs]; omega) ?_ ?_
  ·intro i x z H' Q' hx hz S' q'
   rw [List.getElem?_map] at hx hz
   obtain ⟨oi, hoi, rfl⟩ := Option.map_eq_some_iff.mp hx
   obtain ⟨d, hd, rfl⟩ := Option.map_eq_some_iff.mp hz
   have hp := (R.2 i _ _ hoi hd).same S'
   have okd := ok d (List.mem_of_getElem? hd)
   have hi := (List.getElem?_eq_some_iff.mp hoi).1
   try walk_at "rd"
   refine j4r rfl hp (by decide +kernel) ?_
   cases d <;> exact ⟨_, rfl, hp, okd, fun H1 S1 => q' H1 S1⟩
  ·intro H3 S3 h3
   exact q _ _ ⟨D, rfl, n2, S3, h3⟩
theorem Eds.same {H H' : Hp} {ps : List Addr} {es : List (Str × Str)} (h : Eds H ps es) (S : Same H H') : Eds H' ps es := ⟨h.1, fun i p e h1 h2 => (h.2 i p e h1 h2).elim fun lw z => ⟨lw, S _ _ z⟩⟩
theorem h9j.same {A : Ad} {H H' : Hp} {o t b sd : Addr} {ts bs : List Str} {es : List (Str × Str)} (h : h9j A H o t b sd ts bs es) (S : Same H H') : h9j A H' o t b sd ts bs es := by
 obtain ⟨dx, ou, ps, h1, h2, h3, h4, h5, h6⟩ := h
 exact ⟨dx, ou, ps, S _ _ h1, S _ _ h2, S _ _ h3, S _ _ h4, h5.same S, h6⟩
theorem a9v (x : Str) : ∀ ts : List Str, inV (.str x) (ts.map V.str) = decide (x ∈ ts)
 | [] => rfl
 | t :: ts => by
  have ih := a9v x ts
  unfold inV at ih ⊢
  rw [List.map_cons, List.any_cons, ih]
  by_cases h : t = x
  ·subst h
   simp [eqV]
  ·have : eqV (.str t) (.str x) = false := by simp [eqV, h]
   rw [this]
   simp
   exact fun e => absurd e.symm h
theorem b0j (ts : List Str) : (ts.map V.str).all c1h = true := by
 rw [List.all_eq_true]
 intro v hv
 obtain ⟨n, _, rfl⟩ := List.mem_map.mp hv
 rfl
theorem h9o (T : Tx K mg A) : a1k P A.wd K mg base CX0 2 A.a4o A.a3w ["self", "name"] (i2i A) := by
 have h4g : a1k P A.wd K mg base CX0 1 _ _ _ _ := h4e T
 have a0r := T.a0r
 have a0i := T.a0i
 have a0l := T.a0l
 have a0k := T.a0k
 have a0m := T.a0m
 refine T.a9r.ok d2s (fun vs H Q E h => ?_) (fun cdv A' outer s H vs Q E hr h => ?_)
 ·obtain ⟨_, _, rfl, _⟩ := f9q (by unfold i2i at h; exact h)
  rfl
 ·obtain ⟨o, x, rfl, ⟨t, b, sd, ts, bs, es, ⟨dx, ou, ps, ho, ht, hb, hsd, hE, d1, d2, d3⟩, nm, nt, nb, q⟩⟩ := f9q (by unfold i2i at h; exact h)
  have hu := hr.units
  have g9o : a2k 1 _ := hr.mono (by decide)
  unfold ptF at ho
  refine ⟨_, (a0j (a4g (b8h (a6j (a0q h4g g9o (by rfl) T.h2w T.c7z.kp T.h2v .nil a0t (a0g (pvF 1) a0h))))
   (a0n a1z)
   a1l)
   (a0n (a4g (pw_or (a0u f3n (pvF 1) (a1y (pvF 0) rfl) (by rfl)) (pw_or1 (a0u f3n (pvF 1) (a1y (pvF 0) rfl) (by rfl)))).pt
   (a0n a1z)
   a1l))), ?_⟩
  walk_at "rd"
  refine ⟨nm, fun H1 S1 => ?_⟩
  have ho1 := S1 _ _ ho
  have ht1 := S1 _ _ ht
  have hb1 := S1 _ _ hb
  have i1 : inV (.str x) (ts.map V.str) = false := by rw [a9v]; exact decide_eq_false nt
  have i2 : inV (.str x) (bs.map V.str) = false := by rw [a9v]; exact decide_eq_false nb
  have f1 := b0j ts
  have f2 := b0j bs
  clear ho ht hb
  walk_at "rd*"
  exact ⟨rfl, rfl⟩
theorem h9p {H : Hp} {N : Addr -> Prop} : ∀ {es : List Sd} {us : List V}, RpL H N us (es.map dSd) -> ∃ ps : List Addr, us = ps.map V.ref /\ Eds H ps (prs es)
 | [], _, .nil => ⟨[], rfl, rfl, fun i p e h => by simp at h⟩
 | e :: es, _, .cons h r => by
  obtain ⟨ps, rfl, hl, hE⟩ := h9p r
  obtain ⟨p, vs, rfl, hp, r2⟩ := h.tuple
  obtain ⟨x, y, z, rfl, h1, h2, h3⟩ := r2.three
  cases h1.strOf
  cases h2.strOf
  obtain ⟨lw, ws, rfl, _⟩ := h3.list
  refine ⟨p :: ps, rfl, by rw [List.length_cons, hl]; rfl, fun i q f e1 e2 => ?_⟩
  cases i with
  | zero => cases e1; cases e2; exact ⟨lw, hp⟩
  | succ i => exact hE i q f e1 e2
theorem c1g.pt {A : Ad} {H : Hp} {N : Addr -> Prop} {o : Addr} {p : Pd} (h : c1g A H N o p) : ∃ t b sd, h9j A H o t b sd p.ts p.bs (prs p.es) := by
 obtain ⟨dx, t, b, sd, ou, ho, n, d, ht, hb, ⟨us, hsd, R⟩, _⟩ := h
 obtain ⟨ps, rfl, hE⟩ := h9p R
 exact ⟨t, b, sd, dx, ou, ps, ho, ht, hb, hsd, hE, d.1, d.2.1, d.2.2.2.1⟩
theorem c1g.over {A : Ad} {H H' : Hp} {N M : Addr -> Prop} {o : Addr} {p : Pd} (h : c1g A H N o p) (S : b0q M H H') (hd : ∀ z, N z -> H z ≠ none -> ¬ M z) : c1g A H' N o p := by
 obtain ⟨dx, t, b, sd, ou, ho, F⟩ := h
 exact ⟨dx, t, b, sd, ou, S _ _ (fun _ ys q => by cases q) ho, F.over S hd⟩
theorem c1g.same {A : Ad} {H H' : Hp} {N : Addr -> Prop} {o : Addr} {p : Pd} (h : c1g A H N o p) (S : Same H H') : c1g A H' N o p := h.over (M := fun _ => False) (b0q.of S) fun _ _ _ h => h
theorem c1g.mono {A : Ad} {H : Hp} {N M : Addr -> Prop} {o : Addr} {p : Pd} (h : c1g A H N o p) (hm : ∀ z, N z -> H z ≠ none -> M z) : c1g A H M o p := by
 obtain ⟨dx, t, b, sd, ou, ho, F⟩ := h
 exact ⟨dx, t, b, sd, ou, ho, F.mono hm⟩
theorem i8s (T : Tx K mg A) : a1k P A.wd K mg base CX0 1 A.b2p A.a9k ["self"] (j2k A) := by
 have a0r := T.a0r
 have a0i := T.a0i
 have a0l := T.a0l
 have a0k := T.a0k
 have a0m := T.a0m
 refine T.c1y.ok f5s (fun vs H Q E h => ?_) (fun cdv A' outer s H vs Q E hr h => ?_)
 ·obtain ⟨_, rfl, _⟩ := b0l (by unfold j2k at h; exact h)
  rfl
 ·obtain ⟨o, rfl, ⟨dx, ho, q⟩⟩ := b0l (by unfold j2k at h; exact h)
  have hu := hr.units
  have hs : sizeLine = 16777216 := sizeLine_eq
  have fr : ∀ {H1 : Hp} {z : Addr}, a2p o H H1 -> H1 z = none -> z ≠ o -> H z = none := fun B n nz => by
   cases e : H _ with
   | none => rfl
   | some u => rw [B _ _ nz e] at n; cases n
  have ap : ∀ {H1 : Hp} {z y : Addr} {u : HO}, H1 z = none -> H1 y = some u -> z ≠ y := fun n e q => by rw [q, e] at n; cases n
  refine ⟨_, (a0j (a4q (pvF 0) (a2g a0h) rfl)
   (a0j (a4q (pvF 0) (a2g a0h) rfl)
   (a0j (a4q (pvF 0) (a2g a0h) rfl)
   (a0n (a4q (pvF 0) (a2g a0h) rfl))))), ?_⟩
  walk_at "rd"
  refine ⟨by omega, fun t H1 n1 S1 h1 => ?_⟩
  have ho1 := S1 _ _ ho
  have ot := ap n1 ho
  walk_at "rd*"
  intro H2 B2 h2
  have h12 := B2 _ _ ot h1
  have B02 : a2p o H H2 := fun z u hz e => B2 _ _ hz (S1 _ _ e)
  clear h1 ho1
  walk_at "rd*"
  refine fun b H3 n3 S3 h3 => ?_
  have ho3 := S3 _ _ h2
  have ob := ap n3 h2
  have tb := ap n3 h12
  have nb := fr B02 n3 ob
  clear h2
  walk_at "rd*"
  intro H4 B4 h4
  have h14 := B4 _ _ ot (S3 _ _ h12)
  have h34 := B4 _ _ ob h3
  have B04 : a2p o H H4 := fun z u hz e => B4 _ _ hz (S3 _ _ (B02 _ _ hz e))
  clear h12 h3 ho3
  walk_at "rd*"
  refine fun sd H5 n5 S5 h5 => ?_
  have ho5 := S5 _ _ h4
  have os := ap n5 h4
  have ts := ap n5 h14
  have bs := ap n5 h34
  have ns := fr B04 n5 os
  clear h4
  walk_at "rd*"
  intro H6 B6 h6
  have h16 := B6 _ _ ot (S5 _ _ h14)
  have h36 := B6 _ _ ob (S5 _ _ h34)
  have h56 := B6 _ _ os h5
  have B06 : a2p o H H6 := fun z u hz e => B6 _ _ hz (S5 _ _ (B04 _ _ hz e))
  clear h14 h34 h5 ho5
  walk_at "rd*"
  refine fun ou H7 n7 S7 h7 => ?_
  have ho7 := S7 _ _ h6
  have oo := ap n7 h6
  have to := ap n7 h16
  have bo := ap n7 h36
  have so := ap n7 h56
  have nu := fr B06 n7 oo
  clear h6
  walk_at "rd*"
  intro H8 B8 h8
  exact q H8 (fun z u hz e => B8 _ _ hz (S7 _ _ (B06 _ _ hz e))) ⟨dx, t, b, sd, ou, h8, ⟨n1, nb, ns, nu⟩, ⟨tb.symm, ts.symm, to.symm, bs.symm, bo.symm, so.symm⟩, B8 _ _ ot (S7 _ _ h16), B8 _ _ ob (S7 _ _ h36), ⟨[], B8 _ _ os (S7 _ _ h56), .nil⟩, [], B8 _ _ oo h7, .nil⟩
theorem h4h (T : Tx K mg A) : a1k P A.wd K mg base CX0 3 A.a9l A.a7k ["self", "name"] (i2j A) := by
 have b6u : a1k P A.wd K mg base CX0 2 _ _ _ _ := h9o T
 have a0r := T.a0r
 have a0i := T.a0i
 have a0l := T.a0l
 have a0k := T.a0k
 have a0m := T.a0m
 refine T.b8p.ok f2q (fun vs H Q E h => ?_) (fun cdv A' outer s H vs Q E hr h => ?_)
 ·obtain ⟨_, _, rfl, _⟩ := f9q (by unfold i2j at h; exact h)
  rfl
 ·obtain ⟨o, x, rfl, ⟨N, p, hP, nm, nt, nb, l1, q⟩⟩ := f9q (by unfold i2j at h; exact h)
  obtain ⟨t', b', sd', hT⟩ := hP.pt
  obtain ⟨dx, t, b, sd, ou, ho, F⟩ := id hP
  have ht := F.ht
  have hb := F.hb
  have hu := hr.units
  have hs : sizeLine = 16777216 := sizeLine_eq
  have b4k : a2k 2 _ := hr.mono (by decide)
  unfold ptF at ho
  refine ⟨_, (a0j (a2n (a8i (pvF 0) T.a0r T.a8l b6u b4k T.c3r .nil a0t (a0g (pvF 1) a0h)))
   (a0n (a2n (a5p a8h PySem.F.plainAttrs_list PySem.F.slot_list_append PySem.F.type_list_append a4m (a1y (pvF 0) rfl) (a0g (pvF 1) a0h))))), ?_⟩
  walk_at "rd*"
  refine ⟨t', b', sd', _, _, _, hT, nt, nb, fun H1 S1 => ?_⟩
  have ho1 := S1 _ _ ho
  have ht1 := S1 _ _ ht
  clear ho ht
  walk_at "rd*"
  refine ⟨by omega, ?_⟩
  rintro _ H2 ⟨rfl, B2, h2⟩
  try walk_at "rd"
  exact q H2 ((b0q.of S1).trans (b0q.one ht1 F.n.1 B2)) ⟨dx, t, b, sd, ou, B2 _ _ (fun e => by rw [e, ht1] at ho1; cases ho1) ho1, (F.same S1).addT h2 B2⟩
theorem h9q (T : Tx K mg A) : a1k P A.wd K mg base CX0 3 A.b5t A.b2q ["self", "name"] (i2k A) := by
 have b6u : a1k P A.wd K mg base CX0 2 _ _ _ _ := h9o T
 have a0r := T.a0r
 have a0i := T.a0i
 have a0l := T.a0l
 have a0k := T.a0k
 have a0m := T.a0m
 refine T.c5m.ok g0d (fun vs H Q E h => ?_) (fun cdv A' outer s H vs Q E hr h => ?_)
 ·obtain ⟨_, _, rfl, _⟩ := f9q (by unfold i2k at h; exact h)
  rfl
 ·obtain ⟨o, x, rfl, ⟨N, p, hP, nm, nt, nb, l1, q⟩⟩ := f9q (by unfold i2k at h; exact h)
  obtain ⟨t', b', sd', hT⟩ := hP.pt
  obtain ⟨dx, t, b, sd, ou, ho, F⟩ := id hP
  have ht := F.ht
  have hb := F.hb
  have hu := hr.units
  have hs : sizeLine = 16777216 := sizeLine_eq
  have b4k : a2k 2 _ := hr.mono (by decide)
  unfold ptF at ho
  refine ⟨_, (a0j (a2n (a8i (pvF 0) T.a0r T.a8l b6u b4k T.c3r .nil a0t (a0g (pvF 1) a0h)))
   (a0n (a2n (a5p a8h PySem.F.plainAttrs_list PySem.F.slot_list_append PySem.F.type_list_append a4m (a1y (pvF 0) rfl) (a0g (pvF 1) a0h))))), ?_⟩
  walk_at "rd*"
  refine ⟨t', b', sd', _, _, _, hT, nt, nb, fun H1 S1 => ?_⟩
  have ho1 := S1 _ _ ho
  have hb1 := S1 _ _ hb
  clear ho hb
  walk_at "rd*"
  refine ⟨by omega, ?_⟩
  rintro _ H2 ⟨rfl, B2, h2⟩
  try walk_at "rd"
  exact q H2 ((b0q.of S1).trans (b0q.one hb1 F.n.2.1 B2)) ⟨dx, t, b, sd, ou, B2 _ _ (fun e => by rw [e, hb1] at ho1; cases ho1) ho1, (F.same S1).addB h2 B2⟩
theorem Rch.refl (es : List (Str × Str)) (x : Str) : Rch es x x := fun _ h _ => h
theorem Rch.step {es : List (Str × Str)} {x u v : Str} (h : Rch es x u) (he : (u, v) ∈ es) : Rch es x v := fun S hx hc => hc u v (h S hx hc) he
theorem filter_lt {α : Type} {p q : α -> Bool} : ∀ {l : List α} {a : α}, (∀ x, q x = true -> p x = true) -> a ∈ l -> p a = true -> q a = false -> (l.filter q).length < (l.filter p).length
 | [], _, _, h, _, _ => by cases h
 | x :: l, a, hpq, h, ha, hqa => by
  have le : ∀ l : List α, (l.filter q).length <= (l.filter p).length := fun l => by
   induction l with
   | nil => exact Nat.le_refl _
   | cons y l ih =>
    rw [List.filter_cons, List.filter_cons]
    cases hq : q y with
    | true => rw [if_pos rfl, if_pos (hpq y hq), List.length_cons, List.length_cons]; omega
    | false =>
     rw [if_neg Bool.false_ne_true]
     split
     ·rw [List.length_cons]; omega
     ·exact ih
  rw [List.filter_cons, List.filter_cons]
  rcases List.mem_cons.mp h with e | h
  ·subst e
   rw [if_neg (by rw [hqa]; exact Bool.false_ne_true), if_pos ha, List.length_cons]
   have := le l
   omega
  ·have ih := filter_lt hpq h ha hqa
   cases hq : q x with
   | true => rw [if_pos rfl, if_pos (hpq x hq), List.length_cons, List.length_cons]; omega
   | false =>
    rw [if_neg Bool.false_ne_true]
    split
    ·rw [List.length_cons]; omega
    ·exact ih
theorem i8t {es : List (Str × Str)} {ks : List Str} {e : Str × Str} (he : e ∈ es) (hn : e.2 ∉ ks) : cnt es (ks ++ [e.2]) < cnt es ks := by
 refine filter_lt (fun x hx => ?_) he (by simpa using hn) (by simp)
 simp at hx ⊢
 exact hx.1
theorem f1u : ∀ {kvs : List (Key × V)} {k : Key}, k ∉ kvs.map (·.1) -> d7o kvs k = none
 | [], _, _ => rfl
 | p :: r, k, h => by
  rw [List.map_cons, List.mem_cons, not_or] at h
  rw [d1o (fun e => h.1 e.symm)]
  exact f1u h.2
theorem f1v : ∀ {kvs : List (Key × V)} {k : Key}, k ∈ kvs.map (·.1) -> ∃ v, d7o kvs k = some v /\ (k, v) ∈ kvs
 | [], _, h => by cases h
 | p :: r, k, h => by
  by_cases e : p.1 = k
  ·exact ⟨p.2, d7p e, by rw [<- e]; exact List.mem_cons_self⟩
  ·rw [List.map_cons, List.mem_cons] at h
   obtain ⟨v, h1, h2⟩ := f1v (h.resolve_left fun z => e z.symm)
   exact ⟨v, by rw [d1o e]; exact h1, List.mem_cons_of_mem _ h2⟩
theorem h4i {x : Str} {ks : List Str} : kT x ∈ ks.map kT ↔ x ∈ ks := by
 constructor
 ·intro h
  obtain ⟨y, hy, e⟩ := List.mem_map.mp h
  injection e with e
  rw [<- e]
  exact hy
 ·exact fun h => List.mem_map_of_mem h
theorem g9t.same {H H' : Hp} {L : Addr} {kvs : List (Key × V)} {ks : List Str} (h : g9t H L kvs ks) (S : Same H H') : g9t H' L kvs ks :=
 ⟨h.1, fun kv hkv => (h.2 kv hkv).elim fun l z => z.elim fun ss q => ⟨l, ss, q.1, q.2.1, S _ _ q.2.2.1, q.2.2.2⟩⟩
theorem g9t.h7n {H H' : Hp} {L : Addr} {kvs : List (Key × V)} {ks : List Str} (h : g9t H L kvs ks) (B : a2p L H H') : g9t H' L kvs ks :=
 ⟨h.1, fun kv hkv => (h.2 kv hkv).elim fun l z => z.elim fun ss q => ⟨l, ss, q.1, q.2.1, B _ _ q.2.1 q.2.2.1, q.2.2.2⟩⟩
theorem g9t.put {H H' : Hp} {L W l : Addr} {kvs kvs' : List (Key × V)} {ks : List Str} {z : Str} {ss : List Str} (h : g9t H L kvs ks) (hW : H W = some (.dK kvs')) (hz : z ∉ ks) (hl : H l = some (.lst (ss.map V.str))) (nl : l ≠ L) (sl : ss.length <= kvs.length + 1) (B : a2p W H H') : g9t H' L (putK kvs (kT z) (.ref l)) (ks ++ [z]) /\ (putK kvs (kT z) (.ref l)).length = kvs.length + 1 := by
 have hn : d7o kvs (kT z) = none := f1u (by rw [h.1, h4i]; exact hz)
 have ne : ∀ {p : Addr} {ys : List V}, H p = some (.lst ys) -> p ≠ W := fun e q => by rw [q, hW] at e; cases e
 rw [h5p _ hn]
 refine ⟨⟨by rw [List.map_append, List.map_append, h.1]; rfl, fun kv hkv => ?_⟩, by rw [List.length_append]; rfl⟩
 rw [List.length_append, List.length_singleton]
 rcases List.mem_append.mp hkv with h1 | h1
 ·obtain ⟨l', ss', e1, e2, e3, e4⟩ := h.2 kv h1
  exact ⟨l', ss', e1, e2, B _ _ (ne e3) e3, by omega⟩
 ·obtain rfl := List.mem_singleton.mp h1
  exact ⟨l, ss, rfl, nl, B _ _ (ne hl) hl, sl⟩
theorem i8u (T : Tx K mg A) : a1k P A.wd K mg base CX0 1 A.b5u A.b2s ["self", "start", "end"] (i2l A) := by
 have a0r := T.a0r
 have a0i := T.a0i
 have a0l := T.a0l
 have a0k := T.a0k
 have a0m := T.a0m
 refine T.c5n.ok b7m (fun vs H Q E h => ?_) (fun cdv A' outer s H vs Q E hr h => ?_)
 ·obtain ⟨_, _, _, rfl, _⟩ := h9d (by unfold i2l at h; exact h)
  rfl
 ·obtain ⟨o, x, y, rfl, ⟨t, b, sd, ts, bs, es, hP, nr, e100, okx, oke, q⟩⟩ := h9d (by unfold i2l at h; exact h)
  have hu := hr.units
  have hs : sizeLine = 16777216 := sizeLine_eq
  obtain ⟨dx, ou, ps, ho, ht, hb, hsd, hE, d1, d2, d3⟩ := id hP
  unfold ptF at ho
  have el := hE.1
  refine ⟨_, (a0j (a0v (i := 3) b7m.nd rfl (Or.inl rfl) (h6t (pvF 1) (a2g (a0g (pvF 1) a0h))))
   (a0j (a0v (i := 4) b7m.nd rfl (Or.inl rfl) (a2g (a0g (pvF 1) a0h)))
   (a0j (d8q PassesOwn.never (a0u (b8i hu) (pvF 4) (a2g a0h) (a1q _))
   (a0j (a0v (i := 5) b7m.nd rfl (Or.inl rfl) (i0w a8h PySem.F.plainAttrs_list PySem.F.slot_list_pop PySem.F.type_list_pop i1h (pvF 4)))
   (a0j (a4g (a0u (b1l hu) (pvF 5) (pvF 2) (a1q _))
   (a0n (a0z (g6m (hu1 hu) (pvF 3) (pvF 5) (fun _ _ => rfl))))
   a1l)
   (a0n (a7u PassesOwn.never rfl (a1m (a1y (pvF 0) rfl)) (a2m (i := 6) b7m.nd rfl (Or.inl rfl))
   (a0n (a4g (pw_and (a0u (b1l hu) (a1h a3q (pvF 6) a0o (fun _ _ => rfl)) (pvF 5) (a1q _)) (pw_and1 (i1j (g7z (hu1 hu) (a1h a3q (pvF 6) a0o (fun _ _ => rfl)) (pvF 3)) (by rfl)))).pt
   (a0j (h6s (hu1 hu) (pvF 3) (a1h a3q (pvF 6) a0o (fun _ _ => rfl)) (a1i a1j (g6m (hu1 hu) (pvF 3) (pvF 5) (fun _ _ => rfl)) (a2g (a0g (a1h a3q (pvF 6) a0o (fun _ _ => rfl)) a0h))) rfl)
   (a0n (a2n (a5p a8h PySem.F.plainAttrs_list PySem.F.slot_list_append PySem.F.type_list_append a4m (pvF 4) (a0g (a1h a3q (pvF 6) a0o (fun _ _ => rfl)) a0h)))))
   a1l)))))))
   (a0n (a0z (a2g a0h)))))), ?_⟩
  walk_at "rd"
  refine fun W H1 n1 S1 h1 => ⟨by omega, fun l1 H2 n2 S2 h2 => ⟨x, rfl, S2 _ _ h1, fun H3 B3 h3 => ?_⟩⟩
  have nlW : l1 ≠ W := fun e => by rw [e, h1] at n2; cases n2
  have h23 := B3 _ _ nlW h2
  have S03 : Same H H3 := fun z u e => B3 _ _ (fun q => by rw [q, n1] at e; cases e) (S2 _ _ (S1 _ _ e))
  clear h1 h2
  walk_at "rd"
  refine ⟨by omega, fun L H4 n4 S4 h4 => ?_⟩
  have nWL : W ≠ L := fun e => by rw [<- e, h3] at n4; cases n4
  have nL : H L = none := S03.free n4
  have h34 := S4 _ _ h3
  have h24 := S4 _ _ h23
  have h23' := h23
  clear h3 h23
  obtain ⟨Pv, pin, pout⟩ := d1s (fun m σ H' => ∃ (kvs : List (Key × V)) (ks ws : List Str) (v5 v6 : Option V), σ = [some (.ref o), some (.str x), some (.str y), some (.ref W), some (.ref L), v5, v6] /\ Same H H' /\ H' W = some (.dK kvs) /\ H' L = some (.lst (ws.map V.str)) /\ g9t H' L kvs ks /\ (∀ z ∈ ws, z ∈ ks) /\ (∀ z ∈ ks, Rch es x z /\ PyData.strOk z = true) /\ kvs.length + cnt es ks <= es.length + 1 /\ 2 * cnt es ks + ws.length <= 2 * es.length + 1 /\ m = 2 * cnt es ks + ws.length)
  have nlL : l1 ≠ L := fun e => by rw [<- e, h23'] at n4; cases n4
  have w0 : g9t H4 L [(kT x, .ref l1)] [x] := ⟨rfl, fun kv hkv => by
   obtain rfl := List.mem_singleton.mp hkv
   exact ⟨l1, [x], rfl, nlL, h24, Nat.le_refl _⟩⟩
  have c0 : cnt es [x] <= es.length := List.length_filter_le _ _
  refine d8r Pv _ (pin _ _ _ ⟨_, [x], [x], _, _, rfl, S03.trans S4, h34, h4, w0, fun z hz => hz, fun z hz => by obtain rfl := List.mem_singleton.mp hz; exact ⟨Rch.refl _ _, okx⟩, by rw [List.length_singleton]; omega, by rw [List.length_singleton]; omega, rfl⟩) ?_
  intro m σ H5 hp
  obtain ⟨kvs, ks, ws, v5, v6, rfl, S5, hW, hL, wy, wk, kr, kc, mb, em⟩ := pout _ _ _ hp
  clear hp h4 h34 h24 w0
  walk_at "rd"
  refine ⟨by omega, fun l6 H6 n6 S6 h6 => ?_⟩
  have hW6 := S6 _ _ hW
  have hL6 := S6 _ _ hL
  walk_at "rd"
  refine d1z (ns := ws) (ms := []) (SqL.of hL6) (SqL.of h6) (fun z hz => (kr z (wk z hz)).2) (fun z hz => by cases hz) ?_
  cases ws with
  | nil =>
   rw [show (!decide (([] : List Str) = [])) = false from rfl]
   walk_at "rd"
   refine ⟨by omega, fun l7 H7 n7 S7 h7 => q _ _ ⟨l7, rfl, (S5.trans S6).free n7, S5.trans (S6.trans S7), h7⟩⟩
  | cons w0 wr =>
   obtain ⟨ws, ews⟩ : ∃ ws, w0 :: wr = ws := ⟨_, rfl⟩
   have wne : ws ≠ [] := by rw [<- ews]; exact fun e => by cases e
   have wl : 0 < ws.length := by rw [<- ews]; exact Nat.succ_pos _
   rw [ews] at hL6 wk em mb ⊢
   rw [decide_eq_false wne]
   clear hW hL h6
   walk_at "rd*"
   rintro v H7 ⟨hv, B7, h7⟩
   rw [List.length_map, List.getElem?_map, List.getElem?_eq_getElem (by omega)] at hv
   cases hv
   obtain ⟨sc, esc⟩ : ∃ z, ws[ws.length - 1]'(by omega) = z := ⟨_, rfl⟩
   have scw : sc ∈ ws := by rw [<- esc]; exact List.getElem_mem _
   have sck := wk sc scw
   have ny : sc ≠ y := fun e => nr (by rw [<- e]; exact (kr sc sck).1)
   have ny' : (sc = y) = False := eq_false ny
   rw [esc]
   rw [<- List.map_dropLast] at h7
   have hW7 := B7 _ _ nWL hW6
   have S7' : Same H H7 := (S5.trans S6).step nL B7
   have ho7 := S7' _ _ ho
   have i3d := S7' _ _ hsd
   have wy7 := (wy.same S6).h7n B7
   have dl : ws.dropLast.length = ws.length - 1 := List.length_dropLast
   clear hW6 hL6
   walk_at "rd*"
   refine ⟨⟨_, SqL.of i3d⟩, ?_⟩
   obtain ⟨Pw, win, wout⟩ := d1s (fun i σ H' => ∃ (kv2 : List (Key × V)) (k2 w2 : List Str) (v6 : Option V), σ = [some (.ref o), some (.str x), some (.str y), some (.ref W), some (.ref L), some (.str sc), v6] /\ Same H H' /\ H' W = some (.dK kv2) /\ H' L = some (.lst (w2.map V.str)) /\ g9t H' L kv2 k2 /\ sc ∈ k2 /\ (∀ z ∈ w2, z ∈ k2) /\ (∀ z ∈ k2, Rch es x z /\ PyData.strOk z = true) /\ kv2.length + cnt es k2 <= es.length + 1 /\ 2 * cnt es k2 + w2.length + 1 <= 2 * cnt es ks + ws.length)
   refine a5q (xs := ps.map V.ref) Pw (win _ _ _ ⟨kvs, ks, ws.dropLast, _, rfl, S7', hW7, h7, wy7, sck, fun z hz => wk z (List.dropLast_subset _ hz), kr, kc, by omega⟩) ?_ ?_ ?_
   ·intro i σ H8 hi hp
    obtain ⟨kv2, k2, w2, v6', rfl, S8, _⟩ := wout _ _ _ hp
    exact SqL.of (S8 _ _ hsd)
   ·intro i v σ H8 hv hp
    rw [List.getElem?_map] at hv
    obtain ⟨p, hpi, rfl⟩ := Option.map_eq_some_iff.mp hv
    obtain ⟨kv2, k2, w2, v6', rfl, S8, hW8, hL8, wy8, sk8, wk8, kr8, kc8, em8⟩ := wout _ _ _ hp
    have hi := (List.getElem?_eq_some_iff.mp hpi).1
    have hei : es[i]? = some (es[i]'(by omega)) := List.getElem?_eq_getElem _
    obtain ⟨lw, hpe⟩ := hE.2 i p _ hpi hei
    have me := List.mem_of_getElem? hei
    generalize es[i]'(by omega) = e at hei hpe me
    have hp8 := S8 _ _ hpe
    have iv := f1u (kvs := kv2) (k := kT e.2)
    clear hv hp ho7 i3d hW7 h7
    walk_at "rd*"
    split
    ·rename_i hc
     obtain ⟨v, hv1, hv2⟩ := f1v (kvs := kv2) (k := kT sc) (by rw [wy8.1, h4i]; exact sk8)
     obtain ⟨lv, ss, ev, nlv, hlv, sl⟩ := wy8.2 _ hv2
     replace ev : v = .ref lv := ev
     subst ev
     have hn : e.2 ∉ k2 := fun hm => by
      obtain ⟨u, hu1, _⟩ := f1v (kvs := kv2) (k := kT e.2) (by rw [wy8.1, h4i]; exact hm)
      rw [hu1] at hc
      exact absurd hc.2 (by simp)
     refine ⟨_, hv1, fun l9 H9 n9 S9 h9 => ?_⟩
     have hlv9 := S9 _ _ hlv
     walk_at "rd*"
     refine ⟨by omega, fun l10 H10 n10 S10 h10 => ?_⟩
     have h4j := S9.trans S10
     have j4s := h4j _ _ hW8
     have i9t := h4j _ _ hp8
     have hL10 := h4j _ _ hL8
     have n10L : l10 ≠ L := fun q => by rw [q, S9 _ _ hL8] at n10; cases n10
     clear hW8 hp8 h9 hlv9
     walk_at "rd*"
     refine ⟨by omega, fun H11 B11 h11 => ?_⟩
     have hL11 := B11 _ _ nWL.symm hL10
     have hp11 := B11 _ _ (fun q => by rw [q, j4s] at i9t; cases i9t) i9t
     have j4t := (wy8.same h4j).put (z := e.2) j4s hn (ss := ss ++ [e.2]) (by rw [h10, List.map_append]; rfl) n10L (by rw [List.length_append, List.length_singleton]; omega) B11
     have nHW : H W = none := n1
     clear i9t
     walk_at "rd*"
     refine ⟨by omega, ?_⟩
     rintro _ H12 ⟨rfl, B12, h12⟩
     have cl := i8t me hn
     refine win _ _ _ ⟨_, k2 ++ [e.2], w2 ++ [e.2], _, rfl, ((S8.trans h4j).step nHW B11).step nL B12, B12 _ _ nWL h11, by rw [h12, List.map_append]; rfl, j4t.1.h7n B12, List.mem_append_left _ sk8, fun z hz => ?_, fun z hz => ?_, by rw [j4t.2]; omega, by rw [List.length_append, List.length_singleton]; omega⟩
     ·rcases List.mem_append.mp hz with h | h
      ·exact List.mem_append_left _ (wk8 z h)
      ·exact List.mem_append_right _ h
     ·rcases List.mem_append.mp hz with h | h
      ·exact kr8 z h
      ·obtain rfl := List.mem_singleton.mp h
       exact ⟨(kr8 sc sk8).1.step (by rw [<- hc.1]; exact me), oke _ me⟩
    ·exact win _ _ _ ⟨kv2, k2, w2, _, rfl, S8, hW8, hL8, wy8, sk8, wk8, kr8, kc8, em8⟩
   ·intro σ H8 hp
    obtain ⟨kv2, k2, w2, v6', rfl, S8, hW8, hL8, wy8, sk8, wk8, kr8, kc8, em8⟩ := wout _ _ _ hp
    exact ⟨2 * cnt es k2 + w2.length, by omega, pin _ _ _ ⟨kv2, k2, w2, _, _, rfl, S8, hW8, hL8, wy8, wk8, kr8, kc8, by omega, rfl⟩⟩
theorem i3e (T : Tx K mg A) : a1k P A.wd K mg base CX0 2 A.a7j A.a5r ["self", "greatest"] (h3f A.a8p) := by
 have c9g : a1k P A.wd K mg base CX0 1 _ _ _ _ := f1q T
 have b9n := T.b9n
 have a3n := T.a3n
 have a5u := T.a5u
 have a5v := T.a5v
 refine T.b7g.ok d9y (fun vs H Q E h => ?_) (fun cdv A' outer s H vs Q E hr h => ?_)
 ·obtain ⟨_, _, rfl, _⟩ := d7j (by unfold h3f at h; exact h)
  rfl
 ·obtain ⟨o, g, rfl, ⟨dx, ho, g1, g2, k⟩⟩ := d7j (by unfold h3f at h; exact h)
  have hu := hr.units
  have c5t : a2k 1 _ := hr.mono (by decide)
  refine ⟨_, (a0j (a4g (pw_or (b8h (a6j (a0q c9g c5t (by rfl) T.d5h T.b6o.kp T.d5g .nil a0t (a0g (pvF 1) a0h)))) (pw_or (a0u of_lt (pvF 1) a0o (a1q _)) (pw_or1 (a0u f2k (pvF 1) (a5n (v := .int 1000000000000) (by rfl) T.i1y T.g3h) (a1q _))))).pt
   (a0n a1z)
   a1l)
   (a0j (a4q (pvF 0) (pvF 1) rfl)
   (a0j (a4q (pvF 0) a0o rfl)
   (a0n (a4q (pvF 0) (a9z (a0g a0o (a0g a0o a0h))) rfl))))), ?_⟩
  walk_at "rd*"
  rw [if_neg (by omega)]
  intro H1 B1 h1
  walk_at "rd*"
  intro H2 B2 h2
  walk_at "rd*"
  intro r H3 n3 S3 h3
  have h23 := S3 _ _ h2
  walk_at "rd*"
  intro H4 B4 h4
  have nr : H r = none := by
   cases hn : H r with
   | none => rfl
   | some u =>
    exfalso
    by_cases e : r = o
    ·rw [e, h2] at n3
     cases n3
    ·rw [B2 _ _ e (B1 _ _ e hn)] at n3
     cases n3
  have ro : r ≠ o := fun e => by
   rw [e, h2] at n3
   cases n3
  exact k r H4 nr (fun b u hb e => B4 _ _ hb (S3 _ _ (B2 _ _ hb (B1 _ _ hb e)))) (B4 _ _ ro h3) h4
theorem h4k (T : Tx K mg A) : a1k P A.wd K mg base CX0 12 A.b2r A.a9m ["self", "source", "bus", "words"] (h3g A) := by
 have g1g : a1k P A.wd K mg base CX0 10 _ _ _ _ := h7p T
 have f7p : a1k P A.wd K mg base CX0 4 _ _ _ _ := i8r T
 have g5n : a1k P A.wd K mg base CX0 1 _ _ _ _ := i8u T
 have a0r := T.a0r
 have a0i := T.a0i
 have a0l := T.a0l
 have a0k := T.a0k
 have a0m := T.a0m
 have b8k := T.b8k
 have a4l := T.a4l
 have a3u := T.a3u
 refine T.c1z.ok c4l (fun vs H Q E h => ?_) (fun cdv A' outer s H vs Q E hr h => ?_)
 ·obtain ⟨_, _, _, _, rfl, _⟩ := h1x (by unfold h3g at h; exact h)
  rfl
 ·obtain ⟨o, x, y, l, rfl, ⟨N, p, ds, hP, hl, l8, okd, hx, hy, nr, e99, oky, oke, q⟩⟩ := h1x (by unfold h3g at h; exact h)
  have hu := hr.units
  have hs : sizeLine = 16777216 := sizeLine_eq
  have f7q : a2k 11 _ := hr.mono (by decide)
  have f2z : a2k 4 _ := hr.mono (by decide)
  have g1h : a2k 1 _ := hr.mono (by decide)
  obtain ⟨dx, t, b, sd, ou, ho, F⟩ := id hP
  have ht := F.ht
  have hb := F.hb
  obtain ⟨us, hsd, R1⟩ := F.hs
  have el := R1.f9p
  unfold ptF at ho
  have ft := b0j p.ts
  have fb := b0j p.bs
  have i1 := a9v x p.ts
  have i2 := a9v x p.bs
  have i3 := a9v y p.bs
  refine ⟨_, (a0j (a4g (pw_and (a0u b7i (pvF 1) (a1y (pvF 0) rfl) (by rfl)) (pw_and1 (a0u b7i (pvF 1) (a1y (pvF 0) rfl) (by rfl)))).pt
   (a0n a1z)
   a1l)
   (a0j (a4g (a0u b7i (pvF 2) (a1y (pvF 0) rfl) (by rfl))
   (a0n a1z)
   a1l)
   (a0j (a0v (i := 4) c4l.nd rfl (Or.inl rfl) (c1j T.g3d g1g f7q (by rfl) T.h6z T.g0n .nil a0t (a0g (pvF 3) a0h)))
   (a0j (a0v (i := 5) c4l.nd rfl (Or.inl rfl) (a8i (pvF 0) T.a0r T.c7r g5n g1h T.g3s .nil a0t (a0g (pvF 2) (a0g (pvF 1) a0h))))
   (a0j (a4g (a0u (b8i hu) (pvF 5) (a2g a0h) (a1q _))
   (a0n a1z)
   a1l)
   (a0n (a2n (a5p a8h PySem.F.plainAttrs_list PySem.F.slot_list_append PySem.F.type_list_append a4m (a1y (pvF 0) rfl) (a0g (a9z (a0g (pvF 1) (a0g (pvF 2) (a0g (a1w (pvF 4) T.b8k T.c2o f7p f2z T.f6l .nil a0t) a0h)))) a0h))))))))), ?_⟩
  walk_at "rd*"
  have key : ∀ R : Prop, R -> (if ¬ x ∈ p.ts then c1h (V.str x) = true /\ if ¬ x ∈ p.bs then False else R else R) := fun R hR => by
   split
   ·rename_i h1
    rw [if_neg (not_not_intro (hx.resolve_left h1))]
    exact ⟨rfl, hR⟩
   ·exact hR
  refine ⟨rfl, key _ ⟨rfl, ?_⟩⟩
  intro c cx H2 n2 n2' nx S2 hdx hc
  refine ⟨cx, ds, hc, S2 _ _ hl, l8, okd, fun H3 B3 hC => ?_⟩
  rw [asNew]
  refine ⟨rfl, ?_⟩
  have S03 : Same H H3 := fun z u e => B3 _ _ (fun ze => by rw [ze] at e; rw [e] at n2; cases n2) (S2 _ _ e)
  have ho3 := S03 _ _ ho
  obtain ⟨t', b', sd', hT⟩ := (hP.same S03).pt
  clear hc
  walk_at "rd*"
  refine ⟨t', b', sd', _, _, _, hT, nr, by rw [prs, List.length_map]; omega, (fun e he => ?_), ?_⟩
  ·obtain ⟨z, hz, rfl⟩ := List.mem_map.mp he
   exact oke z hz
  rintro _ H4 ⟨rg, rfl, n4, S4, h4⟩
  clear ho3
  walk_at "rd"
  refine ⟨by omega, fun l5 H5 n5 S5 h5 => ?_⟩
  walk_at "rd"
  refine d1z (ns := []) (ms := []) (SqL.of (S5 _ _ h4)) (SqL.of h5) (fun z hz => by cases hz) (fun z hz => by cases hz) ?_
  rw [show (!decide (([] : List Str) = [])) = false from rfl]
  have S35 := S4.trans S5
  have S05 := S03.trans S35
  have ho5 := S05 _ _ ho
  have j4u := S05 _ _ hsd
  have hC5 := hC.same S35
  obtain ⟨cx', pl', sl', os', hc5, hpl5, R5⟩ := id hC5
  unfold chF at hc5
  clear h4 h5 hC hpl5 R5
  walk_at "rd*"
  refine ⟨ds, hC5, l8, okd, ?_⟩
  rintro _ H6 ⟨lw, rfl, n6, S6, h6⟩
  clear ho5 hc5
  walk_at "rd"
  refine ⟨by omega, fun p7 H7 n7 S7 h7 => ?_⟩
  have S57 := S6.trans S7
  have S07 := S05.trans S57
  have i3d := S57 _ _ j4u
  clear j4u
  walk_at "rd*"
  refine ⟨by omega, ?_⟩
  rintro _ H8 ⟨rfl, B8, h8⟩
  try walk_at "rd"
  have F7 : Fl H7 (fun a => N a \/ H a = none) t b sd ou p := (F.same S07).mono fun z hz _ => .inl hz
  have nlw : H lw = none := S05.free n6
  have ne : ∀ {z : Addr} {u : HO}, H z = some u -> lw ≠ z := fun e q => by rw [<- q, nlw] at e; cases e
  obtain ⟨_, hou, _⟩ := F.ho
  have rr : Rp H7 (Nw (fun a => N a \/ H a = none) t b sd ou) (.ref p7) (dSd (x, y, ds.map Dt.word)) := .tup h7 (.cons (.str _) (.cons (.str _) (.cons (.lst ⟨.inr nlw, ne ht, ne hb, ne hsd, ne hou⟩ (by rw [S7 _ _ h6, List.map_map]; rfl) (RpL.strs _)) .nil)))
  exact q H8 ((b0q.of S07).trans (b0q.one i3d F.n.2.2.1 B8)) ⟨dx, t, b, sd, ou, B8 _ _ (fun e => by rw [<- e, S07 _ _ ho] at i3d; cases i3d) (S07 _ _ ho), F7.addS i3d rr h8 B8⟩
theorem h9r (T : Tx K mg A) : a1k P A.wd K mg base CX0 4 A.b5v A.b2t ["self", "bus", "greatest"] (i2m A) := by
 have f3g : a1k P A.wd K mg base CX0 2 _ _ _ _ := i3e T
 have a0r := T.a0r
 have a0i := T.a0i
 have a0l := T.a0l
 have a0k := T.a0k
 have a0m := T.a0m
 have b9n := T.b9n
 have a3n := T.a3n
 have a5u := T.a5u
 have a5v := T.a5v
 refine T.c5o.ok d6o (fun vs H Q E h => ?_) (fun cdv A' outer s H vs Q E hr h => ?_)
 ·obtain ⟨_, _, _, rfl, _⟩ := h9b (by unfold i2m at h; exact h)
  rfl
 ·obtain ⟨o, y, g, rfl, ⟨N, p, hP, hy, hn, g1, g2, o99, q⟩⟩ := h9b (by unfold i2m at h; exact h)
  have hu := hr.units
  have hs : sizeLine = 16777216 := sizeLine_eq
  have f1w : a2k 3 _ := hr.mono (by decide)
  obtain ⟨dx, t, b, sd, ou, ho, F⟩ := id hP
  have hb := F.hb
  obtain ⟨us, hou, R2⟩ := F.ho
  have ul := R2.f9p
  unfold ptF at ho
  have fb := b0j p.bs
  have i3 := a9v y p.bs
  refine ⟨_, (a0j (a4g (a0u b7i (pvF 1) (a1y (pvF 0) rfl) (by rfl))
   (a0n a1z)
   a1l)
   (a0j (a4g (a0u f3n (pvF 1) (a4w (a1m (a1y (pvF 0) rfl)) (fun _ _ _ _ _ => (a1h a3q (pvF 0) a0o (fun _ _ => rfl))) (b3n (sc := a0p c9w) (N := ["self", "bus", "greatest", "settler"]) rfl rfl (by decide +kernel)) rfl) (by rfl))
   (a0n a1z)
   a1l)
   (a0j (a0v (i := 3) d6o.nd rfl (Or.inl rfl) (c1j T.f0s f3g f1w (by rfl) T.g8r T.f2u .nil a0t (a0g (pvF 2) a0h)))
   (a0n (a2n (a5p a8h PySem.F.plainAttrs_list PySem.F.slot_list_append PySem.F.type_list_append a4m (a1y (pvF 0) rfl) (a0g (a9z (a0g (pvF 1) (a0g (a1y (pvF 3) rfl) a0h))) a0h))))))), ?_⟩
  walk_at "rd*"
  refine ⟨rfl, ⟨_, SqL.of hou⟩, fun D H2 n2 S2 h2 => ?_⟩
  refine c1m (p.os.map fun x => V.str x.1) (by rw [List.length_map, ul]) n2 S2 h2 (SqL.of hou) (by omega) ?_ ?_
  ·intro i v z H' Q' hx hz S' q'
   obtain ⟨e, pe, he, rfl, hpe⟩ := R2.at2 hx
   rw [List.getElem?_map, he] at hz
   cases hz
   have hp' := S' _ _ hpe
   clear hpe
   walk_at "rd*"
  intro H3 S3 h3
  have ff := b0j (p.os.map (·.1))
  have ii := a9v y (p.os.map (·.1))
  rw [List.map_map] at ff ii
  have ni : y ∉ p.os.map (·.1) := fun hm => by
   obtain ⟨x, hx, e⟩ := List.mem_map.mp hm
   exact hn x hx e
  replace h3 : H3 D = some (.lst (p.os.map (V.str ∘ fun x => x.1))) := h3
  rw [decide_eq_false ni] at ii
  clear h2
  walk_at "rd*"
  refine ⟨rfl, ?_⟩
  intro c cx H4 n4 n4' nx S4 hdx hc
  refine ⟨cx, hc, g1, g2, fun r H5 nr B5 hr5 hc5 => ?_⟩
  rw [asNew]
  refine ⟨rfl, ?_⟩
  have S05 : Same H H5 := fun z u e => B5 _ _ (fun ze => by rw [ze] at e; rw [S3 _ _ e] at n4; cases n4) (S4 _ _ (S3 _ _ e))
  have ho5 := S05 _ _ ho
  have j4v := S05 _ _ hou
  unfold stF at hc5
  clear hc hr5 h3
  walk_at "rd*"
  refine fun p7 H7 n7 S7 h7 => ?_
  have i9u := S7 _ _ j4v
  clear j4v hc5
  walk_at "rd*"
  refine ⟨by omega, ?_⟩
  rintro _ H8 ⟨rfl, B8, h8⟩
  try walk_at "rd"
  have S07 := S05.trans S7
  exact q H8 ((b0q.of S07).trans (b0q.one i9u F.n.2.2.2 B8)) ⟨dx, t, b, sd, ou, B8 _ _ (fun e => by rw [<- e, S07 _ _ ho] at i9u; cases i9u) (S07 _ _ ho), (F.same S07).addO i9u (.tup h7 (.cons (.str _) (.cons (.int _) .nil))) h8 B8⟩
theorem f1y (T : Tx K mg A) : a1k P A.wd K mg base CX0 1 A.a7l A.a5s ["self"] (f6u A) := by
 have a0r := T.a0r
 have a0i := T.a0i
 have a0l := T.a0l
 have a0k := T.a0k
 have a0m := T.a0m
 refine T.b7h.ok d9z (fun vs H Q E h => ?_) (fun cdv A' outer s H vs Q E hr h => ?_)
 ·obtain ⟨_, rfl, _⟩ := b0l (by unfold f6u at h; exact h)
  rfl
 ·obtain ⟨o, rfl, ⟨N, p, ⟨dx, t, b, sd, ou, ho, F⟩, l1, q⟩⟩ := b0l (by unfold f6u at h; exact h)
  have hu := hr.units
  have hs : sizeLine = 16777216 := sizeLine_eq
  have ht := F.ht
  unfold ptF at ho
  refine ⟨_, (a0n (a0z (a4h c2t (by rfl) T.f1l boot_list (a0g (a1y (pvF 0) rfl) a0h)))), ?_⟩
  walk_at "rd*"
  exact fun l H1 n1 S1 h1 => q _ _ ⟨l, rfl, n1, S1, h1⟩
theorem g6x (T : Tx K mg A) : a1k P A.wd K mg base CX0 1 A.a9n A.a7m ["self"] (g4n A) := by
 have a0r := T.a0r
 have a0i := T.a0i
 have a0l := T.a0l
 have a0k := T.a0k
 have a0m := T.a0m
 refine T.b8q.ok f2r (fun vs H Q E h => ?_) (fun cdv A' outer s H vs Q E hr h => ?_)
 ·obtain ⟨_, rfl, _⟩ := b0l (by unfold g4n at h; exact h)
  rfl
 ·obtain ⟨o, rfl, ⟨N, p, ⟨dx, t, b, sd, ou, ho, F⟩, l1, q⟩⟩ := b0l (by unfold g4n at h; exact h)
  have hu := hr.units
  have hs : sizeLine = 16777216 := sizeLine_eq
  have hb := F.hb
  unfold ptF at ho
  refine ⟨_, (a0n (a0z (a4h c2t (by rfl) T.f1l boot_list (a0g (a1y (pvF 0) rfl) a0h)))), ?_⟩
  walk_at "rd*"
  exact fun l H1 n1 S1 h1 => q _ _ ⟨l, rfl, n1, S1, h1⟩
theorem h4l (T : Tx K mg A) : a1k P A.wd K mg base CX0 1 A.b2u A.a9p ["self"] (h3h A) := by
 have a0r := T.a0r
 have a0i := T.a0i
 have a0l := T.a0l
 have a0k := T.a0k
 have a0m := T.a0m
 refine T.c2g.ok f5t (fun vs H Q E h => ?_) (fun cdv A' outer s H vs Q E hr h => ?_)
 ·obtain ⟨_, rfl, _⟩ := b0l (by unfold h3h at h; exact h)
  rfl
 ·obtain ⟨o, rfl, ⟨N, p, ⟨dx, t, b, sd, ou, ho, F⟩, l1, q⟩⟩ := b0l (by unfold h3h at h; exact h)
  have hu := hr.units
  have hs : sizeLine = 16777216 := sizeLine_eq
  obtain ⟨us, hou, R2⟩ := F.ho
  have ul := R2.f9p
  unfold ptF at ho
  refine ⟨_, (a0n (a0z (a4h c2t (by rfl) T.f1l boot_list (a0g (a1y (pvF 0) rfl) a0h)))), ?_⟩
  walk_at "rd*"
  exact fun l H1 n1 S1 h1 => q l us H1 n1 S1 h1 (g2n (R2.same S1))
theorem g6y (T : Tx K mg A) : a1k P A.wd K mg base CX0 1 A.a9o A.a7n ["self"] (g4o A) := by
 have a0r := T.a0r
 have a0i := T.a0i
 have a0l := T.a0l
 have a0k := T.a0k
 have a0m := T.a0m
 refine T.b8r.ok f2s (fun vs H Q E h => ?_) (fun cdv A' outer s H vs Q E hr h => ?_)
 ·obtain ⟨_, rfl, _⟩ := b0l (by unfold g4o at h; exact h)
  rfl
 ·obtain ⟨o, rfl, ⟨N, p, ⟨dx, t, b, sd, ou, ho, F⟩, l1, l2, q⟩⟩ := b0l (by unfold g4o at h; exact h)
  have hu := hr.units
  have hs : sizeLine = 16777216 := sizeLine_eq
  obtain ⟨us, hsd, R1⟩ := F.hs
  have ul := R1.f9p
  unfold ptF at ho
  refine ⟨_, (a0n (a0z (a4w (a1m (a1y (pvF 0) rfl)) (fun _ _ _ _ _ => (a9z (a0g (a1h a3q (pvF 0) a0o (fun _ _ => rfl)) (a0g (a1h a3q (pvF 0) a0o (fun _ _ => rfl)) (a0g (a4h c2t (by rfl) T.f1l boot_list (a0g (a1h a3q (pvF 0) a0o (fun _ _ => rfl)) a0h)) a0h))))) (b3n (sc := a0p c4g) (N := ["self"]) rfl rfl (by decide +kernel)) rfl))), ?_⟩
  walk_at "rd*"
  refine ⟨⟨_, SqL.of hsd⟩, fun D H2 n2 S2 h2 => ?_⟩
  refine b8w (xs := us) (fun i ys H' => Same H H' /\ H' D = some (.lst ys) /\ RpL H' (fun a => H a = none /\ a ≠ D) ys ((p.es.take i).map dSd)) ⟨S2, h2, .nil⟩ (by omega) ?_ ?_ ?_
  ·intro i ys H' hi ⟨S', h', R'⟩
   refine ⟨h', SqL.of (S' _ _ hsd), ?_⟩
   rw [R'.f9p, List.length_take]
   omega
  ·intro i x ys H' hx ⟨S', h', R'⟩
   obtain ⟨e, pe, lw, he, rfl, hpe, _, hlw⟩ := R1.at3 hx
   have hp' := S' _ _ hpe
   have hw' := S' _ _ hlw
   have wl := l2 e (List.mem_of_getElem? he)
   clear hpe hlw h2 hx
   walk_at "rd*"
   refine fun l4 H4 n4 S4 h4 => ?_
   walk_at "rd*"
   refine fun p5 H5 n5 S5 h5 => ?_
   have S45 := S4.trans S5
   refine ⟨S45 _ _ h', fun H6 B6 h6 => ⟨(S'.trans S45).step n2 B6, h6, ?_⟩⟩
   rw [List.take_add_one, he, List.map_append]
   refine RpL.put (.snoc (R'.same S45) (.tup h5 (.cons (.str _) (.cons (.str _) (.cons (.lst ⟨S'.free n4, fun z => ?_⟩ (S5 _ _ h4) (RpL.strs _)) .nil))))) (S45 _ _ h') (fun z => z.2 rfl) B6
   rw [z, h'] at n4
   cases n4
  ·intro ys H3 ⟨S3, h3, R3⟩
   rw [ul, List.take_length] at R3
   exact q D ys H3 n2 S3 h3 R3
theorem i3f (T : Tx K mg A) : a1k P A.wd K mg base CX0 1 A.a5t A.a5i ["self", "bus", "placed"] (h3i A) := by
 have a0r := T.a0r
 have a0i := T.a0i
 have a0l := T.a0l
 have a0k := T.a0k
 have a0m := T.a0m
 refine T.b3y.ok c6l (fun vs H Q E h => ?_) (fun cdv A' outer s H vs Q E hr h => ?_)
 ·obtain ⟨_, _, _, rfl, _⟩ := h9c (by unfold h3i at h; exact h)
  rfl
 ·obtain ⟨o, x, l, rfl, ⟨t, b, sd, ts, bs, es, pl, ⟨dx, ou, ps, ho, ht, hb, hsd, hE, d1, d2, d3⟩, hl, q⟩⟩ := h9c (by unfold h3i at h; exact h)
  have hu := hr.units
  unfold ptF at ho
  have fl := b0j pl
  have fb := b0j bs
  have iv := a9v x pl
  have el := hE.1
  refine ⟨_, (a0j (a4g (a0u f3n (pvF 1) (pvF 2) (by rfl))
   (a0n (a0z f2j))
   a1l)
   (a0j (a7u PassesOwn.never rfl (a1m (a1y (pvF 0) rfl)) (a2m (i := 3) c6l.nd rfl (Or.inl rfl))
   (a0n (a4g (pw_and (a0u (b1l hu) (a1h a3q (pvF 3) a0o (fun _ _ => rfl)) (pvF 1) (a1q _)) (pw_and (a0u f3n (a1h a3q (pvF 3) a0o (fun _ _ => rfl)) (a1y (pvF 0) rfl) (by rfl)) (pw_and1 (a0u b7i (a1h a3q (pvF 3) a0o (fun _ _ => rfl)) (pvF 2) (by rfl))))).pt
   (a0n (a0z f2j))
   a1l)))
   (a0n (a0z f2j)))), ?_⟩
  walk_at "rd*"
  refine ⟨rfl, ?_⟩
  split
  ·rename_i hx
   unfold c6q at q
   rw [show decide (x ∉ pl) = false by simp [hx], Bool.false_and] at q
   exact q
  rename_i hx
  refine ⟨⟨_, SqL.of hsd⟩, ?_⟩
  obtain ⟨Pv, pin, pout⟩ := d1s (fun i σ H' => ∃ v : Option V, σ = [some (.ref o), some (.str x), some (.ref l), v] /\ H' = H /\ (es.take i).all (fun e => !(decide (e.2 = x) && (decide (e.1 ∈ bs) && !decide (e.1 ∈ pl)))) = true)
  refine a5q (xs := ps.map V.ref) Pv (pin _ _ _ ⟨_, rfl, rfl, rfl⟩) ?_ ?_ ?_
  ·intro i σ H1 hi hp
   obtain ⟨v, rfl, rfl, _⟩ := pout _ _ _ hp
   exact SqL.of hsd
  ·intro i v σ H1 hv hp
   rw [List.getElem?_map] at hv
   obtain ⟨p, hpi, rfl⟩ := Option.map_eq_some_iff.mp hv
   obtain ⟨v, rfl, rfl, ha⟩ := pout _ _ _ hp
   have hi := (List.getElem?_eq_some_iff.mp hpi).1
   have hei : es[i]? = some (es[i]'(by omega)) := List.getElem?_eq_getElem _
   obtain ⟨lw, hp⟩ := hE.2 i p _ hpi hei
   have et : es.take (i + 1) = es.take i ++ [es[i]'(by omega)] := by rw [List.take_add_one, hei]; rfl
   have me := List.mem_of_getElem? hei
   generalize es[i]'(by omega) = e at hei hp et me
   have i1 := a9v e.1 bs
   have i2 := a9v e.1 pl
   clear hv
   walk_at "rd*"
   have go : (decide (e.2 = x) && (decide (e.1 ∈ bs) && !decide (e.1 ∈ pl))) = false -> Pv (i + 1) [some (V.ref o), some (V.str x), some (V.ref l), some (V.ref p)] H1 := fun hf => pin _ _ _ ⟨_, rfl, rfl, by rw [et, List.all_append, ha, Bool.true_and, List.all_cons, hf]; rfl⟩
   split
   ·rename_i h1
    refine ⟨rfl, ?_⟩
    split
    ·rename_i h2
     refine ⟨rfl, ?_⟩
     split
     ·rename_i h3
      have z : c6q bs es pl x = false := by
       unfold c6q
       rw [Bool.and_eq_false_iff]
       right
       rw [List.all_eq_false]
       exact ⟨e, me, by simp [h1, h2, h3]⟩
      rw [z] at q
      exact q
     ·rename_i h3
      exact go (by simp at h3; simp [h3])
    ·rename_i h2
     exact go (by simp [h2])
   ·rename_i h1
    exact go (by simp [h1])
  ·intro σ H1 hp
   obtain ⟨v, rfl, rfl, ha⟩ := pout _ _ _ hp
   rw [List.length_map, el, List.take_length] at ha
   walk_at "rd"
   unfold c6q at q
   rw [ha, show decide (x ∉ pl) = true by simp [hx]] at q
   exact q
theorem g6z {bs : List Str} {es : List (Str × Str)} : ∀ k, (∀ j, j < k -> bs.filter (c6q bs es (d7t bs es j)) ≠ []) -> (d7t bs es k).length = k
 | 0, _ => rfl
 | k + 1, h => by
  rw [d7t, List.length_append, g6z k fun j hj => h j (by omega)]
  have := h k (by omega)
  cases e : bs.filter (c6q bs es (d7t bs es k)) with
  | nil => exact absurd e this
  | cons a r => rfl
theorem i8v (T : Tx K mg A) : a1k P A.wd K mg base CX0 2 A.a9q A.a7o ["self"] (i2n A) := by
 have f1z : a1k P A.wd K mg base CX0 1 _ _ _ _ := i3f T
 have a0r := T.a0r
 have a0i := T.a0i
 have a0l := T.a0l
 have a0k := T.a0k
 have a0m := T.a0m
 refine T.b8s.ok c9o (fun vs H Q E h => ?_) (fun cdv A' outer s H vs Q E hr h => ?_)
 ·obtain ⟨_, rfl, _⟩ := b0l (by unfold i2n at h; exact h)
  rfl
 ·obtain ⟨o, rfl, ⟨t, b, sd, ts, bs, es, hP, b100, ne, q⟩⟩ := b0l (by unfold i2n at h; exact h)
  have hu := hr.units
  have hs : sizeLine = 16777216 := sizeLine_eq
  have d7n : a2k 1 _ := hr.mono (by decide)
  obtain ⟨dx, ou, ps, ho, ht, hb, hsd, hE, d1, d2, d3⟩ := id hP
  unfold ptF at ho
  refine ⟨_, (a0j (a0v (i := 1) c9o.nd rfl (Or.inr rfl) (a2g a0h))
   (a0j (d8q PassesOwn.never (a0u of_lt (a1o a4i (by rfl) T.c8j boot_len (a0g (pvF 1) a0h)) (a1o a4i (by rfl) T.c8j boot_len (a0g (a1y (pvF 0) rfl) a0h)) (a1q _))
   (a0n (a2n (a5p a8h PySem.F.plainAttrs_list PySem.F.slot_list_append PySem.F.type_list_append a4m (pvF 1) (a0g (a1h a3q (f5j (a1m (a1y (pvF 0) rfl)) (fun _ _ _ _ _ => (a6j (a8i (pvF 1) T.a0r T.b7z f1z d7n T.f1i .nil a0t (a0g (pvF 0) (a0g (pvF 2) a0h))))) (fun _ _ _ _ _ => (pvF 0)) (b3n (sc := a0p c4h) (N := ["self", "placed"]) rfl rfl (by decide +kernel)) rfl) a0o (fun _ _ => rfl)) a0h)))))
   (a0n (a0z (pvF 1))))), ?_⟩
  walk_at "rd"
  refine ⟨by omega, fun l H1 n1 S1 h1 => ?_⟩
  obtain ⟨Pv, pin, pout⟩ := d1s (fun m σ H' => ∃ k : Nat, σ = [some (.ref o), some (.ref l)] /\ Same H H' /\ H' l = some (.lst ((d7t bs es k).map V.str)) /\ k <= bs.length /\ m = bs.length - k)
  refine d8r Pv _ (pin _ _ _ ⟨0, rfl, S1, h1, Nat.zero_le _, rfl⟩) ?_
  intro m σ H2 hp
  obtain ⟨k, rfl, S2, h2, kl, em⟩ := pout _ _ _ hp
  have ol := g6z k fun j hj => ne j (by omega)
  have ho2 := S2 _ _ ho
  have hb2 := S2 _ _ hb
  have hP2 := hP.same S2
  clear hp h1
  walk_at "rd*"
  split
  ·rename_i hk
   refine ⟨⟨_, SqL.of hb2⟩, fun D H3 n3 S3 h3 => ?_⟩
   refine f5k (xs := bs.map V.str) (fun v => match v with | .str x => c6q bs es (d7t bs es k) x | _ => false) (fun v => v) n3 S3 h3 (SqL.of hb2) (by rw [List.length_map]; omega) ?_ ?_ ?_
   ·intro i x H' Q' hx SS q'
    rw [List.getElem?_map] at hx
    obtain ⟨z, hz, rfl⟩ := Option.map_eq_some_iff.mp hx
    have ho' := SS _ _ ho2
    clear hx
    walk_at "rd*"
    exact ⟨t, b, sd, ts, bs, es, hP2.same SS, _, SS _ _ h2, q'⟩
   ·intro i x H' Q' hx hpx SS q'
    walk_at "rd"
    exact q'
   ·intro H4 S4 h4
    have nek := ne k (by omega)
    have ef : ((bs.map V.str).filter (fun v => match v with | .str x => c6q bs es (d7t bs es k) x | _ => false)).map (fun v => v) = (bs.filter (c6q bs es (d7t bs es k))).map V.str := by
     rw [List.map_id', List.filter_map]
     rfl
    rw [ef] at h4
    obtain ⟨a, r, ea⟩ : ∃ a r, bs.filter (c6q bs es (d7t bs es k)) = a :: r := by
     cases e : bs.filter (c6q bs es (d7t bs es k)) with
     | nil => exact absurd e nek
     | cons a r => exact ⟨a, r, rfl⟩
    rw [ea] at h4
    have h24 := S4 _ _ h2
    have nl : l ≠ D := fun e => by rw [<- e, h2] at n3; cases n3
    clear h2 h3
    walk_at "rd*"
    refine ⟨by omega, ?_⟩
    rintro _ H5 ⟨rfl, B5, h5⟩
    refine ⟨bs.length - (k + 1), by omega, pin _ _ _ ⟨k + 1, rfl, (S2.trans S4).step n1 B5, ?_, by omega, rfl⟩⟩
    rw [h5, d7t, ea, List.map_append]
    rfl
  ·rename_i hk
   obtain rfl : k = bs.length := by omega
   exact q _ _ ⟨l, rfl, n1, S2, h2⟩
theorem h9k.nil : h9k [] := ⟨fun _ => 0, fun e he => by cases he⟩
theorem f7r : ∀ {l m : List Str}, l.Nodup -> (∀ x ∈ l, x ∈ m) -> l.length <= m.length
 | [], _, _, _ => Nat.zero_le _
 | a :: l, m, nd, h => by
  have ha := h a List.mem_cons_self
  have nd' := List.nodup_cons.mp nd
  have ih := f7r (l := l) (m := m.erase a) nd'.2 fun x hx => (List.mem_erase_of_ne (fun e => nd'.1 (by rw [<- e]; exact hx))).mpr (h x (List.mem_cons_of_mem _ hx))
  rw [List.length_erase_of_mem ha] at ih
  have := List.length_pos_of_mem ha
  rw [List.length_cons]
  omega
theorem least (r : Str -> Nat) : ∀ (l : List Str), l ≠ [] -> ∃ z ∈ l, ∀ w ∈ l, r z <= r w
 | [], h => absurd rfl h
 | [a], _ => ⟨a, List.mem_cons_self, fun w hw => by obtain rfl := List.mem_singleton.mp hw; exact Nat.le_refl _⟩
 | a :: b :: l, _ => by
  obtain ⟨z, hz, hm⟩ := least r (b :: l) (by simp)
  by_cases h : r a <= r z
  ·refine ⟨a, List.mem_cons_self, fun w hw => ?_⟩
   rcases List.mem_cons.mp hw with e | hw
   ·rw [e]; exact Nat.le_refl _
   ·have := hm w hw
    omega
  ·refine ⟨z, List.mem_cons_of_mem _ hz, fun w hw => ?_⟩
   rcases List.mem_cons.mp hw with e | hw
   ·rw [e]; omega
   ·exact hm w hw
theorem h4m (bs : List Str) (es : List (Str × Str)) : ∀ k, (d7t bs es k).length <= k
 | 0 => Nat.le_refl _
 | k + 1 => by
  rw [d7t, List.length_append]
  have := h4m bs es k
  cases bs.filter (c6q bs es (d7t bs es k)) with
  | nil => show _ + 0 <= _; omega
  | cons a r => show _ + 1 <= _; omega
theorem ready {bs : List Str} {es : List (Str × Str)} (h : h9k es) (nd : bs.Nodup) (k : Nat) (hk : k < bs.length) : bs.filter (c6q bs es (d7t bs es k)) ≠ [] := by
 obtain ⟨r, hr⟩ := h
 have hol := h4m bs es k
 generalize d7t bs es k = pl at hol
 have hne : bs.filter (fun z => decide (z ∉ pl)) ≠ [] := fun e => by
  have := f7r (m := pl) nd fun x hx => by
   by_cases hp : x ∈ pl
   ·exact hp
   ·have : x ∈ bs.filter (fun z => decide (z ∉ pl)) := List.mem_filter.mpr ⟨hx, by simpa using hp⟩
    rw [e] at this
    cases this
  omega
 obtain ⟨z, hz, hm⟩ := least r _ hne
 obtain ⟨hzb, hzp⟩ := List.mem_filter.mp hz
 have hzp' : z ∉ pl := by simpa using hzp
 refine List.ne_nil_of_mem (a := z) (List.mem_filter.mpr ⟨hzb, ?_⟩)
 unfold c6q
 rw [Bool.and_eq_true]
 refine ⟨by simpa using hzp', ?_⟩
 rw [List.all_eq_true]
 intro e he
 cases hc : (decide (e.2 = z) && (decide (e.1 ∈ bs) && !decide (e.1 ∈ pl))) with
 | false => rfl
 | true =>
  simp at hc
  obtain ⟨h1, h2, h3⟩ := hc
  have a := hr e he
  have b := hm e.1 (List.mem_filter.mpr ⟨h2, by simpa using h3⟩)
  rw [h1] at a
  omega
theorem f2g {x : Str} (h : a6u x) {c : Nat} (hc : c < 97) : c ∉ sg x := fun m => by
 have := h.2.2 c m
 omega
theorem g1i {c : Nat} (hc : c < 44) (y : Rat) : c ∉ sg (fW y) := by
 rw [h6l]
 unfold h4x
 intro h
 rcases List.mem_append.mp h with z | z
 ·exact c1l (by omega) (.inl (by omega)) z
 ·rcases List.mem_cons.mp z with z | z
  ·omega
  ·exact c1l (by omega) (.inl (by omega)) z
theorem i8w {c : Nat} (hc : c < 44) (r : Int × Rat) : c ∉ sg (cW r) := by
 rw [h6m]
 intro h
 rcases List.mem_append.mp h with z | z
 ·exact c1l (by omega) (.inl (by omega)) z
 ·rcases List.mem_cons.mp z with z | z
  ·omega
  ·exact g1i hc _ z
theorem c9p {x : Str} (h : (sg x).all (fun d => decide (44 <= d)) = true) {c : Nat} (hc : c < 44) : c ∉ sg x := fun m => by
 have := List.all_eq_true.mp h c m
 rw [decide_eq_true_eq] at this
 omega
theorem Dt.low (d : Dt) {c : Nat} (hc : c < 44) : c ∉ sg d.word := by
 refine d8w (by omega) fun p hp => ?_
 have n : ∀ n : Nat, c ∉ sg (nW n) := fun n => g7x (by omega) (.inl (by omega)) n
 cases d <;> simp only [Dt.kind, Dt.vals, List.mem_cons, List.not_mem_nil, or_false] at hp
 case gain => rcases hp with rfl | rfl; exact c9p (by decide +kernel) hc; exact g1i hc _
 case delay => rcases hp with rfl | rfl; exact c9p (by decide +kernel) hc; exact n _
 case echo => rcases hp with rfl | rfl | rfl | rfl; exact c9p (by decide +kernel) hc; exact g1i hc _; exact n _; exact n _
 case back => rcases hp with rfl | rfl | rfl; exact c9p (by decide +kernel) hc; exact g1i hc _; exact n _
 case hall => rcases hp with rfl | rfl | rfl; exact c9p (by decide +kernel) hc; exact g1i hc _; exact n _
 case swell cs =>
  rcases hp with rfl | rfl
  ·exact c9p (by decide +kernel) hc
  ·refine d8w (by omega) fun p hp => ?_
   obtain ⟨r, _, rfl⟩ := List.mem_map.mp hp
   exact i8w hc r
theorem h7b.low {ws : List Str} (h : h7b ws) {c : Nat} (hc : c < 44) : ∀ z ∈ ws, c ∉ sg z := fun z hz => by
 obtain ⟨ds, rfl, _⟩ := h
 obtain ⟨d, _, rfl⟩ := List.mem_map.mp hz
 exact Dt.low d hc
theorem h7b.len {ws : List Str} (h : h7b ws) : (∀ z ∈ ws, z.length <= 4000) /\ ws.length <= 8 := by
 obtain ⟨ds, rfl, l8, ok, _⟩ := h
 refine ⟨fun z hz => ?_, by rw [List.length_map]; exact l8⟩
 obtain ⟨d, hd, rfl⟩ := List.mem_map.mp hz
 exact d.j4l (ok d hd)
theorem Ln.free {l : Ln} (h : l.fm) {c : Nat} (hc : c < 44) : ∀ z ∈ l.ws, c ∉ sg z := fun z hz => by
 cases l <;> simp only [Ln.ws, List.mem_cons, List.not_mem_nil, or_false] at hz
 case tr => rcases hz with rfl | rfl; exact c9p (by decide +kernel) hc; exact f2g h (by omega)
 case bu => rcases hz with rfl | rfl; exact c9p (by decide +kernel) hc; exact f2g h (by omega)
 case se => rcases hz with rfl | rfl | rfl | hz; exact c9p (by decide +kernel) hc; exact f2g h.2.1 (by omega); exact f2g h.2.2 (by omega); exact h.1.low hc z hz
 case ou => rcases hz with rfl | rfl | rfl; exact c9p (by decide +kernel) hc; exact f2g h.1 (by omega); rw [c1k]; exact c1l (by omega) (.inl (by omega))
theorem i3g {g : Int} (h1 : 1 <= g) (h2 : g <= 1000000000000) : (Str.ofString (toString g)).length <= 42 := c2k (n := 41) (by omega) (by decide)
theorem Ln.lens {l : Ln} (h : l.fm) : (∀ z ∈ l.ws, z.length <= 4000) /\ l.ws.length <= 11 := by
 have k1 : (Str.ofString "track").length = 5 := by decide +kernel
 have k2 : (Str.ofString "bus").length = 3 := by decide +kernel
 have k3 : (Str.ofString "send").length = 4 := by decide +kernel
 have k4 : (Str.ofString "out").length = 3 := by decide +kernel
 have nm : ∀ {x : Str}, a6u x -> x.length <= 4000 := fun h => Nat.le_trans h.1 (by decide)
 cases l <;> refine ⟨fun z hz => ?_, ?_⟩
 case tr.refine_1 => simp only [Ln.ws, List.mem_cons, List.not_mem_nil, or_false] at hz; rcases hz with rfl | rfl; omega; exact nm h
 case tr.refine_2 => show 2 <= 11; decide
 case bu.refine_1 => simp only [Ln.ws, List.mem_cons, List.not_mem_nil, or_false] at hz; rcases hz with rfl | rfl; omega; exact nm h
 case bu.refine_2 => show 2 <= 11; decide
 case se.refine_1 => simp only [Ln.ws, List.mem_cons, List.not_mem_nil, or_false] at hz; rcases hz with rfl | rfl | rfl | hz; omega; exact nm h.2.1; exact nm h.2.2; exact h.1.len.1 z hz
 case se.refine_2 e => show e.2.2.length + 3 <= 11; have := h.1.len.2; omega
 case ou.refine_1 => simp only [Ln.ws, List.mem_cons, List.not_mem_nil, or_false] at hz; rcases hz with rfl | rfl | rfl; omega; exact nm h.1; have := i3g h.2.1 h.2.2; omega
 case ou.refine_2 => show 3 <= 11; decide
theorem Ln.len {l : Ln} (h : l.fm) : l.line.length <= 45000 := by
 have a := d1w (z := ⟨#[32]⟩) (Ln.lens h).1
 have b := (Ln.lens h).2
 rw [b4o] at a
 unfold Ln.line
 omega
theorem Ln.wne (l : Ln) : ∃ a b r, l.ws = a :: b :: r := by cases l <;> exact ⟨_, _, _, rfl⟩
theorem Ln.split {l : Ln} (h : l.fm) : b3o l.line ⟨#[32]⟩ = l.ws := c2v (by obtain ⟨a, b, r, e⟩ := l.wne; rw [e]; simp) (Ln.free h (by decide)) rfl
theorem Ln.ne (l : Ln) : sg l.line ≠ [] := by
 obtain ⟨a, b, r, e⟩ := l.wne
 unfold Ln.line
 rw [e, a4v]
 simp
theorem i8x {ls : List Ln} (h : ls ≠ []) : ltx ls ≠ Str.ofString "" := fun e => by
 have e0 : sg (Str.ofString "") = [] := by decide +kernel
 have z : sg (ltx ls) = [] := by rw [e, e0]
 unfold ltx at z
 match ls, h with
 | [l], _ => exact l.ne z
 | l :: l' :: r, _ =>
  rw [List.map_cons, List.map_cons, a4v] at z
  simp at z
theorem h4n {ls : List Ln} (h : ls ≠ []) (hf : ∀ l ∈ ls, l.fm) : b3o (ltx ls) ⟨#[10]⟩ = ls.map Ln.line := c2v (fun e => h (List.map_eq_nil_iff.mp e)) (fun p hp => by
 obtain ⟨l, hl, rfl⟩ := List.mem_map.mp hp
 exact d8w (by decide) (Ln.free (hf l hl) (by decide))) rfl
theorem i3h {ls : List Ln} (hl : ls.length <= 370) (hf : ∀ l ∈ ls, l.fm) : (ltx ls).length <= 16700000 := by
 have a := d1w (z := ⟨#[10]⟩) (ps := ls.map Ln.line) (n := 45000) fun p hp => by
  obtain ⟨l, hl, rfl⟩ := List.mem_map.mp hp
  exact Ln.len (hf l hl)
 rw [List.length_map, b4o] at a
 unfold ltx
 omega
theorem Tl.fm {g : Pd} : ∀ {ls : List Ln} {p : Pd}, Tl g p ls -> ∀ l ∈ ls, l.fm
 | [], _, _, l, h => by cases h
 | l :: ls, p, h, k, hk => by
  rcases List.mem_cons.mp hk with rfl | hk
  ·exact h.1
  ·exact Tl.fm h.2.2 k hk
theorem j2x : Str.ofString " " = ⟨#[32]⟩ := by decide +kernel
theorem i4d : Str.ofString "\n" = ⟨#[10]⟩ := by decide +kernel
theorem join_snoc (z : Str) : ∀ (p : Str) (ps : List Str) (x : Str), Str.join z (p :: ps) ++ z ++ x = Str.join z (p :: (ps ++ [x]))
 | p, [], x => rfl
 | p, q :: r, x => by
  show p ++ z ++ Str.join z (q :: r) ++ z ++ x = p ++ z ++ Str.join z (q :: (r ++ [x]))
  rw [<- join_snoc z q r x]
  exact b1n (by simp only [a1r, List.append_assoc])
theorem i3i : sg (Str.ofString "track ") = sg (Str.ofString "track") ++ [32] := by decide +kernel
theorem j2y : sg (Str.ofString "bus ") = sg (Str.ofString "bus") ++ [32] := by decide +kernel
theorem i8y : sg (Str.ofString "send ") = sg (Str.ofString "send") ++ [32] := by decide +kernel
theorem j2z : sg (Str.ofString "out ") = sg (Str.ofString "out") ++ [32] := by decide +kernel
theorem j4w : sg (Str.ofString " ") = [32] := by decide +kernel
theorem j3a (x : Str) : Str.ofString "track " ++ x = (Ln.tr x).line := b1n (by
 simp only [Ln.line, Ln.ws, a1r, a4v, f2l, i3i, List.append_assoc, List.singleton_append])
theorem i9v (x : Str) : Str.ofString "bus " ++ x = (Ln.bu x).line := b1n (by
 simp only [Ln.line, Ln.ws, a1r, a4v, f2l, j2y, List.append_assoc, List.singleton_append])
theorem j4x (x : Str × Int) : Str.ofString "out " ++ x.1 ++ Str.ofString " " ++ Str.ofString (toString x.2) = (Ln.ou x).line := b1n (by
 simp only [Ln.line, Ln.ws, a1r, a4v, f2l, j2z, j4w, List.append_assoc, List.singleton_append, List.cons_append, List.nil_append])
theorem w_se (x y : Str) : Str.ofString "send " ++ x ++ Str.ofString " " ++ y = Str.join ⟨#[32]⟩ [Str.ofString "send", x, y] := b1n (by
 simp only [a1r, a4v, f2l, i8y, j4w, List.append_assoc, List.singleton_append, List.cons_append, List.nil_append])
theorem i3j (x : Str) : Str.empty ++ x = x := b1n (by rw [a1r, g2k, List.nil_append])
theorem i3k : ∀ {xs : List Str} {g p : Pd} {r : List Ln}, (∀ x ∈ xs, a6u x) -> (p.ts ++ xs).Nodup -> (∀ x ∈ xs, x ∉ p.bs) -> (p.ts ++ xs).length <= 90 -> Tl g ⟨p.ts ++ xs, p.bs, p.es, p.os⟩ r -> Tl g p (xs.map .tr ++ r)
 | [], g, p, r, _, _, _, _, h => by rw [List.append_nil] at h; exact h
 | x :: xs, g, p, r, hn, nd, nb, hl, h => by
  have e : p.ts ++ x :: xs = (p.ts ++ [x]) ++ xs := by simp
  refine ⟨hn x List.mem_cons_self, ⟨fun m => ?_, nb x List.mem_cons_self, by rw [List.length_append, List.length_cons] at hl; omega⟩, ?_⟩
  ·exact (List.nodup_append.mp nd).2.2 x m x List.mem_cons_self rfl
  ·rw [e] at nd hl h
   exact i3k (p := ⟨p.ts ++ [x], p.bs, p.es, p.os⟩) (fun z hz => hn z (List.mem_cons_of_mem _ hz)) nd (fun z hz => nb z (List.mem_cons_of_mem _ hz)) hl h
theorem h7q : ∀ {xs : List Str} {g p : Pd} {r : List Ln}, (∀ x ∈ xs, a6u x) -> (p.bs ++ xs).Nodup -> (∀ x ∈ xs, x ∉ p.ts) -> (p.bs ++ xs).length <= 90 -> Tl g ⟨p.ts, p.bs ++ xs, p.es, p.os⟩ r -> Tl g p (xs.map .bu ++ r)
 | [], g, p, r, _, _, _, _, h => by rw [List.append_nil] at h; exact h
 | x :: xs, g, p, r, hn, nd, nb, hl, h => by
  have e : p.bs ++ x :: xs = (p.bs ++ [x]) ++ xs := by simp
  refine ⟨hn x List.mem_cons_self, ⟨nb x List.mem_cons_self, fun m => ?_, by rw [List.length_append, List.length_cons] at hl; omega⟩, ?_⟩
  ·exact (List.nodup_append.mp nd).2.2 x m x List.mem_cons_self rfl
  ·rw [e] at nd hl h
   exact h7q (p := ⟨p.ts, p.bs ++ [x], p.es, p.os⟩) (fun z hz => hn z (List.mem_cons_of_mem _ hz)) nd (fun z hz => nb z (List.mem_cons_of_mem _ hz)) hl h
theorem h9k.no {es : List (Str × Str)} {x y : Str} (r : Str -> Nat) (h : ∀ e ∈ es, r e.1 < r e.2) (hxy : r x < r y) : ¬ Rch es y x := fun z => by
 have := z (fun u => r y <= r u) (Nat.le_refl _) fun u v hu hv => Nat.le_trans hu (Nat.le_of_lt (h _ hv))
 omega
theorem i3l : ∀ {xs : List Sd} {g p : Pd} {r : List Ln}, (∀ e ∈ xs, (Ln.se e).fm /\ (e.1 ∈ p.ts \/ e.1 ∈ p.bs) /\ e.2.1 ∈ p.bs) -> h9k (prs (p.es ++ xs)) -> (∀ f ∈ p.es, a6u f.2.1) -> (p.es ++ xs).length <= 90 -> Tl g ⟨p.ts, p.bs, p.es ++ xs, p.os⟩ r -> Tl g p (xs.map .se ++ r)
 | [], g, p, r, _, _, _, _, h => by rw [List.append_nil] at h; exact h
 | x :: xs, g, p, r, hx, rk, hn, hl, h => by
  have e : p.es ++ x :: xs = (p.es ++ [x]) ++ xs := by simp
  obtain ⟨f1, f2, f3⟩ := hx x List.mem_cons_self
  refine ⟨f1, ⟨f2, f3, ?_, by rw [List.length_append, List.length_cons] at hl; omega, hn⟩, ?_⟩
  ·obtain ⟨rr, hr⟩ := rk
   exact h9k.no rr (fun z hz => hr z (by unfold prs; rw [List.map_append]; exact List.mem_append_left _ hz)) (hr (x.1, x.2.1) (by unfold prs; rw [List.map_append]; exact List.mem_append_right _ List.mem_cons_self))
  ·rw [e] at rk hl h
   refine i3l (p := ⟨p.ts, p.bs, p.es ++ [x], p.os⟩) (fun z hz => hx z (List.mem_cons_of_mem _ hz)) rk (fun z hz => ?_) hl h
   rcases List.mem_append.mp hz with m | m
   ·exact hn z m
   ·rw [List.mem_singleton.mp m]
    exact f1.2.2
theorem i3m : ∀ {xs : List (Str × Int)} {g p : Pd} {r : List Ln}, (∀ x ∈ xs, (Ln.ou x).fm /\ x.1 ∈ p.bs) -> ((p.os ++ xs).map (·.1)).Nodup -> (p.os ++ xs).length <= 90 -> Tl g ⟨p.ts, p.bs, p.es, p.os ++ xs⟩ r -> Tl g p (xs.map .ou ++ r)
 | [], g, p, r, _, _, _, h => by rw [List.append_nil] at h; exact h
 | x :: xs, g, p, r, hx, nd, hl, h => by
  have e : p.os ++ x :: xs = (p.os ++ [x]) ++ xs := by simp
  obtain ⟨f1, f2⟩ := hx x List.mem_cons_self
  refine ⟨f1, ⟨f2, fun z hz q => ?_, by rw [List.length_append, List.length_cons] at hl; omega⟩, ?_⟩
  ·rw [List.map_append] at nd
   exact (List.nodup_append.mp nd).2.2 z.1 (List.mem_map_of_mem hz) x.1 List.mem_cons_self q
  ·rw [e] at nd hl h
   exact i3m (p := ⟨p.ts, p.bs, p.es, p.os ++ [x]⟩) (fun z hz => hx z (List.mem_cons_of_mem _ hz)) nd hl h
theorem PdF.t {p : Pd} (h : PdF p) : ∀ x ∈ p.ts, a6u x := fun x hx => h.fm (.tr x) (List.mem_append_left _ (List.mem_map_of_mem hx))
theorem PdF.b {p : Pd} (h : PdF p) : ∀ x ∈ p.bs, a6u x := fun x hx => h.fm (.bu x) (List.mem_append_right _ (List.mem_append_left _ (List.mem_map_of_mem hx)))
theorem PdF.s {p : Pd} (h : PdF p) : ∀ e ∈ p.es, (Ln.se e).fm := fun e he => h.fm (.se e) (List.mem_append_right _ (List.mem_append_right _ (List.mem_append_left _ (List.mem_map_of_mem he))))
theorem PdF.o {p : Pd} (h : PdF p) : ∀ x ∈ p.os, (Ln.ou x).fm := fun x hx => h.fm (.ou x) (List.mem_append_right _ (List.mem_append_right _ (List.mem_append_right _ (List.mem_map_of_mem hx))))
theorem PdF.mk' {p : Pd} (l1 : p.ts.length <= 90) (l2 : p.bs.length <= 90) (l3 : p.es.length <= 90) (l4 : p.os.length <= 90) (h1 : ∀ x ∈ p.ts, a6u x) (h2 : ∀ x ∈ p.bs, a6u x) (h3 : ∀ e ∈ p.es, (Ln.se e).fm) (h4 : ∀ x ∈ p.os, (Ln.ou x).fm) : PdF p := ⟨l1, l2, l3, l4, fun l hl => by
 rcases List.mem_append.mp hl with m | m
 ·obtain ⟨x, hx, rfl⟩ := List.mem_map.mp m
  exact h1 x hx
 ·rcases List.mem_append.mp m with m | m
  ·obtain ⟨x, hx, rfl⟩ := List.mem_map.mp m
   exact h2 x hx
  ·rcases List.mem_append.mp m with m | m
   ·obtain ⟨x, hx, rfl⟩ := List.mem_map.mp m
    exact h3 x hx
   ·obtain ⟨x, hx, rfl⟩ := List.mem_map.mp m
    exact h4 x hx⟩
theorem PdG.tl {p : Pd} (h : PdG p) : Tl p Pd0 (lns p) := by
 have k : Tl p p [] := rfl
 have e : lns p = p.ts.map .tr ++ (p.bs.map .bu ++ (p.es.map .se ++ (p.os.map .ou ++ []))) := by rw [List.append_nil]; rfl
 rw [e]
 refine i3k h.f.t h.nt (fun x _ m => by cases m) h.f.lt ?_
 refine h7q h.f.b h.nb h.tb h.f.lb ?_
 refine i3l (fun e he => ⟨h.f.s e he, h.es e he⟩) h.rk (fun f hf => by cases hf) h.f.le ?_
 exact i3m (fun x hx => ⟨h.f.o x hx, h.os x hx⟩) h.no h.f.lo k
theorem PdG.mem {p : Pd} (h : PdG p) {z : Str} : z ∈ (swp p).bs ↔ z ∈ p.bs := by
 constructor
 ·intro m
  rcases List.mem_append.mp m with m | m
  ·obtain ⟨x, hx, rfl⟩ := List.mem_map.mp m
   exact h.os x hx
  ·exact (List.mem_filter.mp m).1
 ·intro m
  by_cases c : z ∈ p.os.map (·.1)
  ·exact List.mem_append_left _ c
  ·exact List.mem_append_right _ (List.mem_filter.mpr ⟨m, by rw [decide_eq_true_eq]; exact c⟩)
theorem PdG.swp {p : Pd} (h : PdG p) : PdG (swp p) := by
 have nd : (My.swp p).bs.Nodup := by
  refine List.nodup_append.mpr ⟨h.no, h.nb.sublist List.filter_sublist, fun a ha b hb e => ?_⟩
  subst e
  have := (List.mem_filter.mp hb).2
  rw [decide_eq_true_eq] at this
  exact this ha
 have l : (My.swp p).bs.length <= p.bs.length := f7r nd fun x hx => h.mem.mp hx
 exact ⟨PdF.mk' h.f.lt (Nat.le_trans l h.f.lb) h.f.le h.f.lo h.f.t (fun x hx => h.f.b x (h.mem.mp hx)) h.f.s h.f.o, h.nt, nd, fun x hx => h.tb x (h.mem.mp hx), h.zt, fun m => h.zb (h.mem.mp m), h.rk, fun e he => ⟨(h.es e he).1.imp id h.mem.mpr, h.mem.mpr (h.es e he).2⟩, h.no, fun x hx => h.mem.mpr (h.os x hx)⟩
theorem PdG.tlO {p : Pd} (h : PdG p) : Tl (My.swp p) Pd0 (lnO p) := by
 have s := h.swp
 have k : Tl (My.swp p) (My.swp p) [] := rfl
 have e : lnO p = (p.os.map (·.1)).map .bu ++ (p.os.map .ou ++ ((p.bs.filter fun z => decide (z ∉ p.os.map (·.1))).map .bu ++ (p.ts.map .tr ++ (p.es.map .se ++ [])))) := by rw [List.append_nil, List.map_map]; rfl
 rw [e]
 have sb := s.f.lb
 have e2 : (My.swp p).bs.length = p.os.length + (p.bs.filter fun z => decide (z ∉ p.os.map (·.1))).length := by
  show (p.os.map (·.1) ++ _).length = _
  rw [List.length_append, List.length_map]
 refine h7q (fun x hx => s.f.b x (List.mem_append_left _ hx)) h.no (fun x _ m => by cases m) (by show ([] ++ p.os.map (fun x : Str × Int => x.1)).length <= 90; rw [List.nil_append, List.length_map]; exact h.f.lo) ?_
 refine i3m (fun x hx => ⟨h.f.o x hx, List.mem_map_of_mem hx⟩) h.no h.f.lo ?_
 refine h7q (fun x hx => s.f.b x (List.mem_append_right _ hx)) s.nb (fun x _ m => by cases m) sb ?_
 refine i3k h.f.t h.nt (fun x hx m => s.tb x m hx) h.f.lt ?_
 exact i3l (fun e he => ⟨h.f.s e he, s.es e he⟩) h.rk (fun f hf => by cases hf) h.f.le k
theorem b8g {x : Str} (h : a6u x) : PyData.strOk x = true := by
 unfold PyData.strOk
 rw [<- Array.all_toList, List.all_eq_true]
 intro c hc
 have := h.2.2 c hc
 rw [decide_eq_true_eq]
 omega
theorem h7b.so {ws : List Str} (h : h7b ws) : ∀ z ∈ ws, PyData.strOk z = true := by obtain ⟨_, _, _, _, k⟩ := h; exact k
theorem PdF.ok {p : Pd} (h : PdF p) : i9n p := ⟨fun s hs => b8g (h.t s hs), fun s hs => b8g (h.b s hs), fun e he => ⟨b8g (h.s e he).2.1, b8g (h.s e he).2.2, (h.s e he).1.so⟩, fun x hx => b8g (h.o x hx).1⟩
theorem Ls.same {H H' : Hp} {t b sd ou : Addr} {p : Pd} (h : Ls H t b sd ou p) (S : Same H H') : Ls H' t b sd ou p := by
 obtain ⟨ht, hb, ⟨us, hs, R1⟩, vs, ho, R2⟩ := h
 exact ⟨S _ _ ht, S _ _ hb, ⟨us, S _ _ hs, R1.same S⟩, vs, S _ _ ho, R2.same S⟩
theorem h7r {H0 H H1 : Hp} (S : Same H0 H) (N : b0q (fun a => H0 a = none) H H1) : Same H0 H1 := fun z u e => N _ _ (fun n => by have n : H0 z = none := n; rw [e] at n; cases n) (S _ _ e)
theorem h7s (T : Tx K mg A) : a1k P A.wd K mg base CX0 1 A.b0v A.b2v ["send"] g4p := by
 refine T.c0m.ok g0e (fun vs H Q E h => ?_) (fun cdv A' outer s H vs Q E hr h => ?_)
 ·obtain ⟨_, rfl, _⟩ := b0l (by unfold g4p at h; exact h)
  rfl
 ·obtain ⟨o, rfl, ⟨e, lw, ho, hl, fm, q⟩⟩ := b0l (by unfold g4p at h; exact h)
  have hu := hr.units
  have hs : sizeLine = 16777216 := sizeLine_eq
  have l8 := fm.1.len.2
  refine ⟨_, (a0n (a0z (a5p a4p PySem.F.plainAttrs_str PySem.F.slot_str_join PySem.F.type_str_join c3y a0w (a0g (a1i a1j (a2g (a0g a0w (a0g (a1h a3q (pvF 0) a0o (fun _ _ => rfl)) (a0g (a1h a3q (pvF 0) a0o (fun _ _ => rfl)) a0h)))) (a1h a3q (pvF 0) a0o (fun _ _ => rfl))) a0h)))), ?_⟩
  rw [j2x]
  walk_at "rd*"
  intro l1 H1 n1 S1 h1
  have hl1 := S1 _ _ hl
  have ho1 := S1 _ _ ho
  clear hl ho
  walk_at "rd*"
  refine ⟨by omega, fun l2 H2 n2 S2 h2 => ?_⟩
  clear hl1 h1
  have jo : JoinOk ⟨#[32]⟩ (Ln.se e).ws = true := joinOk_of (n := 4000) (Ln.lens fm).1 (by have := (Ln.lens fm).2; rw [b4o]; omega)
  walk_at "rd*"
  refine ⟨(Ln.se e).ws, rfl, jo, ?_⟩
  rw [g2l]
  exact q H2 (S1.trans S2)
theorem h7t (T : Tx K mg A) : a1k P A.wd K mg base CX0 1 A.b5w A.b5y ["out"] g4q := by
 refine T.c3q.ok c9z (fun vs H Q E h => ?_) (fun cdv A' outer s H vs Q E hr h => ?_)
 ·obtain ⟨_, rfl, _⟩ := b0l (by unfold g4q at h; exact h)
  rfl
 ·obtain ⟨o, rfl, ⟨x, ho, fm, q⟩⟩ := b0l (by unfold g4q at h; exact h)
  have hu := hr.units
  have hs : sizeLine = 16777216 := sizeLine_eq
  have a := i3g fm.2.1 fm.2.2
  have b := fm.1.1
  have g0 := c2w (t := x.2) (n := 41) (by have := fm.2.1; have := fm.2.2; omega) (by decide)
  have e0 : Str.empty.length = 0 := rfl
  have e1 : (Str.ofString "out ").length = 4 := by decide +kernel
  have e2 : (Str.ofString " ").length = 1 := by decide +kernel
  have w := j4x x
  refine ⟨_, (a0j (a0v (i := 1) c9z.nd rfl (Or.inl rfl) (a1h a3q (pvF 0) a0o (fun _ _ => rfl)))
   (a0j (a0v (i := 2) c9z.nd rfl (Or.inl rfl) (a1h a3q (pvF 0) a0o (fun _ _ => rfl)))
   (a0n (a0z (a6s (a1v a0w (a1v (b1m (pvF 1)) (a1v a0w (a1v (b1m (pvF 2)) c6k))))))))), ?_⟩
  walk_at "rd*"
  simp only [strLen_append, e0, e1, e2]
  refine ⟨by omega, by omega, by omega, by omega, by omega, by omega, ?_⟩
  rw [i3j, w]
  exact q
theorem i8z (T : Tx K mg A) : a1k P A.wd K mg base CX0 2 A.b9z A.b9m ["patch"] (i2o A) := by
 have b0k : a1k P A.wd K mg base CX0 1 _ _ _ _ := f1y T
 have c5v : a1k P A.wd K mg base CX0 1 _ _ _ _ := g6x T
 have c5w : a1k P A.wd K mg base CX0 1 _ _ _ _ := g6y T
 have c8m : a1k P A.wd K mg base CX0 1 _ _ _ _ := h4l T
 have g5o : a1k P A.wd K mg base CX0 1 _ _ _ _ := h7s T
 have g9p : a1k P A.wd K mg base CX0 1 _ _ _ _ := h7t T
 have a0r := T.a0r
 have a0i := T.a0i
 have a0l := T.a0l
 have a0k := T.a0k
 have a0m := T.a0m
 refine T.b0i.ok c3g (fun vs H Q E h => ?_) (fun cdv A' outer s H vs Q E hr h => ?_)
 ·obtain ⟨_, rfl, _⟩ := b0l (by unfold i2o at h; exact h)
  rfl
 ·obtain ⟨o, rfl, ⟨N, p, hP, hF, q⟩⟩ := b0l (by unfold i2o at h; exact h)
  have hu := hr.units
  have hs : sizeLine = 16777216 := sizeLine_eq
  have a8t : a2k 1 _ := hr.mono (by decide)
  have c2q : a2k 1 _ := hr.mono (by decide)
  have c2r : a2k 1 _ := hr.mono (by decide)
  have c5y : a2k 1 _ := hr.mono (by decide)
  have g1j : a2k 1 _ := hr.mono (by decide)
  have g5p : a2k 1 _ := hr.mono (by decide)
  obtain ⟨dx, t0, b0, sd0, ou0, ho, F⟩ := id hP
  unfold ptF at ho
  have e0 : Str.empty.length = 0 := rfl
  have e1 : (Str.ofString "track ").length = 6 := by decide +kernel
  have e2 : (Str.ofString "bus ").length = 4 := by decide +kernel
  have lt := hF.lt
  have lb := hF.lb
  have le := hF.le
  have lo := hF.lo
  refine ⟨_, (a0j (f5h (i := 1) c3g.nd rfl rfl (a1m (a1w (pvF 0) T.a0r T.a8q b0k a8t T.c2p .nil a0t)) (fun _ _ _ _ _ => (a6s (a1v a0w (a1v (b1m (pvF 0)) c6k)))) (b3n (sc := a0p c2z) (N := ["patch", "lines"]) rfl rfl (by decide +kernel)) rfl)
   (a2v (a0v (i := 1) c3g.nd rfl (Or.inl rfl) (a1i a1j (pvF 1) (a4w (a1m (a1w (pvF 0) T.a0r T.b6w c5v c2q T.d2u .nil a0t)) (fun _ _ _ _ _ => (a6s (a1v a0w (a1v (b1m (pvF 0)) c6k)))) (b3n (sc := a0p c2z) (N := ["patch", "lines"]) rfl rfl (by decide +kernel)) rfl)))
   (a2v (a0v (i := 1) c3g.nd rfl (Or.inl rfl) (a1i a1j (pvF 1) (a4w (a1m (a1w (pvF 0) T.a0r T.b6y c5w c2r T.d2v .nil a0t)) (fun _ _ _ _ _ => (a0q g5o g1j (by rfl) T.g3u T.c0m.kp T.g3t .nil a0t (a0g (pvF 0) a0h))) (b3n (sc := a0p c2z) (N := ["patch", "lines"]) rfl rfl (by decide +kernel)) rfl)))
   (a2v (a0v (i := 1) c3g.nd rfl (Or.inl rfl) (a1i a1j (pvF 1) (a4w (a1m (a1w (pvF 0) T.a0r T.b8m c8m c5y T.d6v .nil a0t)) (fun _ _ _ _ _ => (a0q g9p g5p (by rfl) T.g8o T.c3q.kp T.g8n .nil a0t (a0g (pvF 0) a0h))) (b3n (sc := a0p c2z) (N := ["patch", "lines"]) rfl rfl (by decide +kernel)) rfl)))
   (a0n (a0z (a5p a4p PySem.F.plainAttrs_str PySem.F.slot_str_join PySem.F.type_str_join c3y a0w (a0g (pvF 1) a0h)))))))), ?_⟩
  walk_at "rd*"
  refine ⟨N, p, hP, by omega, ?_⟩
  rintro _ H1 ⟨l1, rfl, n1, S1, h1⟩
  try walk_at "rd*"
  refine ⟨⟨_, SqL.of h1⟩, fun D H2 n2 S2 h2 => ?_⟩
  refine c1m (p.ts.map fun x => V.str (Ln.tr x).line) (by rw [List.length_map, List.length_map]) n2 S2 h2 (SqL.of h1) (by rw [List.length_map]; omega) ?_ ?_
  ·intro i v z H' Q' hx hz S' q'
   rw [List.getElem?_map] at hx hz
   obtain ⟨x, hi, rfl⟩ := Option.map_eq_some_iff.mp hx
   rw [hi] at hz
   cases hz
   have nl := (hF.t x (List.mem_of_getElem? hi)).1
   clear hx
   walk_at "rd*"
   simp only [strLen_append, e0, e1]
   refine ⟨by omega, by omega, by omega, ?_⟩
   rw [i3j, j3a]
   exact q'
  intro H3 S3 h3
  have S03 := S1.trans S3
  have n0 := S1.free n2
  clear h1 h2
  obtain ⟨Mid1, in1, out1⟩ := d7r (fun σ' H' => ∃ (l : Addr), σ' = [some (.ref o), some (.ref l)] /\ Same H H' /\ H' l = some (.lst ((p.ts.map fun x => V.str (Ln.tr x).line) ++ p.bs.map fun x => V.str (Ln.bu x).line)))
  walk_at "rd"
  refine ⟨Mid1, ?_, ?_⟩
  ·have ho3 := S03 _ _ ho
   clear ho
   walk_at "rd*"
   refine ⟨N, p, hP.same S03, by omega, ?_⟩
   rintro _ H4 ⟨l4, rfl, n4, S4, h4⟩
   try walk_at "rd*"
   refine ⟨⟨_, SqL.of h4⟩, fun D5 H5 n5 S5 h5 => ?_⟩
   refine c1m (p.bs.map fun x => V.str (Ln.bu x).line) (by rw [List.length_map, List.length_map]) n5 S5 h5 (SqL.of h4) (by rw [List.length_map]; omega) ?_ ?_
   ·intro i v z H' Q' hx hz S' q'
    rw [List.getElem?_map] at hx hz
    obtain ⟨x, hi, rfl⟩ := Option.map_eq_some_iff.mp hx
    rw [hi] at hz
    cases hz
    have nl := (hF.b x (List.mem_of_getElem? hi)).1
    clear hx
    walk_at "rd*"
    simp only [strLen_append, e0, e2]
    refine ⟨by omega, by omega, by omega, ?_⟩
    rw [i3j, i9v]
    exact q'
   intro H6 S6 h6
   have h36 := S6 _ _ (S4 _ _ h3)
   clear h3 h4 h5 ho3
   walk_at "rd*"
   refine ⟨by omega, fun l7 H7 n7 S7 h7 => ?_⟩
   try walk_at "rd"
   exact in1 _ _ ⟨l7, rfl, S03.trans (S4.trans (S6.trans S7)), h7⟩
  intro σ1 H7 hm1
  obtain ⟨l7, rfl, S7, h7⟩ := out1 _ _ hm1
  clear hm1 in1 out1 h3
  obtain ⟨Mid2, in2, out2⟩ := d7r (fun σ' H' => ∃ (l : Addr), σ' = [some (.ref o), some (.ref l)] /\ Same H H' /\ H' l = some (.lst (((p.ts.map fun x => V.str (Ln.tr x).line) ++ p.bs.map fun x => V.str (Ln.bu x).line) ++ p.es.map fun e => V.str (Ln.se e).line)))
  refine ⟨Mid2, ?_, ?_⟩
  ·have ho7 := S7 _ _ ho
   clear ho
   walk_at "rd*"
   refine ⟨N, p, hP.same S7, by omega, fun e he => Nat.le_trans (hF.s e he).1.len.2 (by decide), fun l8 us H8 n8 S8 h8 R8 => ?_⟩
   have ul := R8.f9p
   try walk_at "rd*"
   refine ⟨⟨_, SqL.of h8⟩, fun D9 H9 n9 S9 h9 => ?_⟩
   refine g0z (p.es.map fun e => V.str (Ln.se e).line) (by rw [List.length_map, ul]) n9 S9 h9 (SqL.of h8) (by omega) ?_ ?_
   ·intro i v z H' Q' hx hz S' q'
    obtain ⟨e, pe, lw, he, rfl, hpe, _, hlw⟩ := R8.at3 hx
    rw [List.getElem?_map, he] at hz
    cases hz
    walk_at "rd"
    exact ⟨e, lw, S' _ _ hpe, S' _ _ hlw, hF.s e (List.mem_of_getElem? he), fun H2 S2 => q' H2 S2⟩
   intro H10 S10 h10
   have h710 := S10 _ _ (S8 _ _ h7)
   clear h7 h8 h9 ho7
   walk_at "rd*"
   refine ⟨by omega, fun l11 H11 n11 S11 h11 => ?_⟩
   try walk_at "rd"
   exact in2 _ _ ⟨l11, rfl, S7.trans (S8.trans (S10.trans S11)), h11⟩
  intro σ2 H11 hm2
  obtain ⟨l11, rfl, S11, h11⟩ := out2 _ _ hm2
  clear hm2 in2 out2 h7 S7
  obtain ⟨Mid3, in3, out3⟩ := d7r (fun σ' H' => ∃ (l : Addr), σ' = [some (.ref o), some (.ref l)] /\ Same H H' /\ H' l = some (.lst (((lns p).map Ln.line).map V.str)))
  refine ⟨Mid3, ?_, ?_⟩
  ·have ho7 := S11 _ _ ho
   clear ho
   walk_at "rd*"
   refine ⟨N, p, hP.same S11, by omega, fun l8 us H8 n8 S8 h8 R8 => ?_⟩
   have ul := R8.f9p
   try walk_at "rd*"
   refine ⟨⟨_, SqL.of h8⟩, fun D9 H9 n9 S9 h9 => ?_⟩
   refine c1m (p.os.map fun e => V.str (Ln.ou e).line) (by rw [List.length_map, ul]) n9 S9 h9 (SqL.of h8) (by omega) ?_ ?_
   ·intro i v z H' Q' hx hz S' q'
    obtain ⟨e, pe, he, rfl, hpe⟩ := R8.at2 hx
    rw [List.getElem?_map, he] at hz
    cases hz
    walk_at "rd"
    exact ⟨e, S' _ _ hpe, hF.o e (List.mem_of_getElem? he), q'⟩
   intro H10 S10 h10
   have h710 := S10 _ _ (S8 _ _ h11)
   clear h11 h8 h9 ho7
   walk_at "rd*"
   refine ⟨by omega, fun l12 H12 n12 S12 h12 => ?_⟩
   try walk_at "rd"
   refine in3 _ _ ⟨l12, rfl, S11.trans (S8.trans (S10.trans S12)), ?_⟩
   rw [h12]
   simp only [lns, List.map_append, List.map_map, List.append_assoc]
   rfl
  intro σ3 H12 hm3
  obtain ⟨l12, rfl, S12, h12⟩ := out3 _ _ hm3
  clear hm3 in3 out3 h11 S11
  have ll : (lns p).length <= 360 := by
   unfold lns
   simp only [List.length_append, List.length_map]
   omega
  have jo : JoinOk ⟨#[10]⟩ ((lns p).map Ln.line) = true := joinOk_of (n := 45000) (fun y hy => by obtain ⟨l, hl, rfl⟩ := List.mem_map.mp hy; exact Ln.len (hF.fm l hl)) (by rw [List.length_map, b4o]; omega)
  rw [i4d]
  walk_at "rd*"
  refine ⟨(lns p).map Ln.line, rfl, jo, ?_⟩
  rw [g2l]
  exact q H12 S12
theorem i9w {c a b D σ H} (p : ∀ b', i4r c a b' D σ H) : i4r c a b D σ H := p b
theorem i4e {c a b D σ H} (p : ∀ a' b', Nonempty (PLift (b' = b)) -> i4r c a' b' D σ H) : i4r c a b D σ H := p a b ⟨⟨rfl⟩⟩
theorem i3n (T : Tx K mg A) : a1k P A.wd K mg base CX0 13 A.b0w A.b2w ["patch", "line"] (h3j A) := by
 have a9w : a1k P A.wd K mg base CX0 3 _ _ _ _ := h4h T
 have d1i : a1k P A.wd K mg base CX0 3 _ _ _ _ := h9q T
 have c8n : a1k P A.wd K mg base CX0 12 _ _ _ _ := h4k T
 have d1j : a1k P A.wd K mg base CX0 4 _ _ _ _ := h9r T
 have d5p : a1k P A.wd K mg base CX0 2 _ _ _ _ := h9l T
 have a0r := T.a0r
 have a0i := T.a0i
 have a0l := T.a0l
 have a0k := T.a0k
 have a0m := T.a0m
 refine T.c0n.ok c7l (fun vs H Q E h => ?_) (fun cdv A' outer s H vs Q E hr h => ?_)
 ·obtain ⟨_, _, rfl, _⟩ := f9q (by unfold h3j at h; exact h)
  rfl
 ·obtain ⟨o, x, rfl, ⟨N, p, l, hP, hx, fm, ok, q⟩⟩ := f9q (by unfold h3j at h; exact h)
  subst hx
  have hu := hr.units
  have hs : sizeLine = 16777216 := sizeLine_eq
  have a7t : a2k 3 _ := hr.mono (by decide)
  have c8o : a2k 3 _ := hr.mono (by decide)
  have c5z : a2k 12 _ := hr.mono (by decide)
  have c8p : a2k 4 _ := hr.mono (by decide)
  have d1h : a2k 2 _ := hr.mono (by decide)
  obtain ⟨dx, t0, b0, sd0, ou0, ho, F⟩ := id hP
  unfold ptF at ho
  have sp := Ln.split fm
  have wl := Ln.len fm
  have vn := (Ln.lens fm).2
  have d1 : ((⟨#[32]⟩ : Str).length == 0) = false := rfl
  refine ⟨_, (a0j (a0v (i := 2) c7l.nd rfl (Or.inl rfl) (a5p a4p PySem.F.plainAttrs_str PySem.F.slot_str_split PySem.F.type_str_split c8s (pvF 1) (a0g a0w a0h)))
   (f8z (a0v (i := 3) c7l.nd rfl (Or.inl rfl) (a1i h1a (a1o a4i (by rfl) T.c8j boot_len (a0g (pvF 2) a0h)) a0o))
   (a0n (a4g (pw_and (a0u (b1l hu) (a1h a3q (pvF 2) a0o (fun _ _ => rfl)) a0w (a1q _)) (pw_and1 (a0u (b1l hu) (pvF 3) a0o (a1q _)))).pt
   (a0n (a2n (a8i (pvF 0) T.a0r T.a7s a9w a7t T.b8v .nil a0t (a0g (a1h a3q (pvF 2) a0o (fun _ _ => rfl)) a0h))))
   (a0n (a4g (pw_and (a0u (b1l hu) (a1h a3q (pvF 2) a0o (fun _ _ => rfl)) a0w (a1q _)) (pw_and1 (a0u (b1l hu) (pvF 3) a0o (a1q _)))).pt
   (a0n (a2n (a8i (pvF 0) T.a0r T.c1p d1i c8o T.f1g .nil a0t (a0g (a1h a3q (pvF 2) a0o (fun _ _ => rfl)) a0h))))
   (a0n (a4g (pw_and (a0u (b1l hu) (a1h a3q (pvF 2) a0o (fun _ _ => rfl)) a0w (a1q _)) (pw_and1 (a0u i6e (pvF 3) a0o (a1q _)))).pt
   (a0n (a2n (a8i (pvF 0) T.a0r T.b8l c8n c5z T.d6u .nil a0t (a0g (a1h a3q (pvF 2) a0o (fun _ _ => rfl)) (a0g (a1h a3q (pvF 2) a0o (fun _ _ => rfl)) (a0g (a5j g6f (pvF 2) (a4u a0o) a9y) a0h))))))
   (a0n (a4g (pw_and (a0u (b1l hu) (a1h a3q (pvF 2) a0o (fun _ _ => rfl)) a0w (a1q _)) (pw_and1 (a0u (b1l hu) (pvF 3) a0o (a1q _)))).pt
   (a0n (a2n (a8i (pvF 0) T.a0r T.c1q d1j c8p T.f1h .nil a0t (a0g (a1h a3q (pvF 2) a0o (fun _ _ => rfl)) (a0g (a0q d5p d1h (by rfl) T.f4m T.b9o.kp T.f4l .nil a0t (a0g (a1h a3q (pvF 2) a0o (fun _ _ => rfl)) a0h)) a0h)))))
   (a0n a1z))))))))))), ?_⟩
  rw [j2x]
  walk_at "rd*"
  refine ⟨by omega, by omega, fun l1 H1 n1 S1 h1 => ?_⟩
  have ho1 := S1 _ _ ho
  clear sp wl ho
  have hP1 := hP.same S1
  cases l with
  | tr x =>
   obtain ⟨ks, ek⟩ : ∃ ks, ks = Str.ofString "track" := ⟨_, rfl⟩
   replace h1 : H1 l1 = some (.lst ([.str ks, .str x])) := by rw [h1, ek]; rfl
   have c0 : (ks = Str.ofString "track") = True := eq_true ek
   clear ek
   have k2 : ((2 : Nat) : Int) - 1 = 1 := rfl
   walk_at "rd*"
   refine Stop.go (i9w fun b9 => ?_)
   walk_at "rd*"
   exact ⟨N, p, hP1, fm, ok.1, ok.2.1, Nat.le_trans ok.2.2 (by decide), fun H2 S2 h2 => q H2 ((b0q.of S1).trans S2) (h2.mono fun z hz _ => .inl hz)⟩
  | bu x =>
   obtain ⟨ks, ek⟩ : ∃ ks, ks = Str.ofString "bus" := ⟨_, rfl⟩
   replace h1 : H1 l1 = some (.lst ([.str ks, .str x])) := by rw [h1, ek]; rfl
   have c0 : (ks = Str.ofString "track") = False := eq_false (by rw [ek]; decide +kernel)
   have c1 : (ks = Str.ofString "bus") = True := eq_true ek
   clear ek
   have k2 : ((2 : Nat) : Int) - 1 = 1 := rfl
   walk_at "rd*"
   refine Stop.go (i4e fun a0 b0 e0 => ?_)
   walk_at "rd*"
   obtain ⟨⟨rfl⟩⟩ := e0
   refine i9w fun b9 => ?_
   walk_at "rd*"
   exact ⟨N, p, hP1, fm, ok.1, ok.2.1, Nat.le_trans ok.2.2 (by decide), fun H2 S2 h2 => q H2 ((b0q.of S1).trans S2) (h2.mono fun z hz _ => .inl hz)⟩
  | se e =>
   obtain ⟨ks, ek⟩ : ∃ ks, ks = Str.ofString "send" := ⟨_, rfl⟩
   replace h1 : H1 l1 = some (.lst (.str ks :: .str e.1 :: .str e.2.1 :: e.2.2.map V.str)) := by rw [h1, ek]; rfl
   have c0 : (ks = Str.ofString "track") = False := eq_false (by rw [ek]; decide +kernel)
   have c1 : (ks = Str.ofString "bus") = False := eq_false (by rw [ek]; decide +kernel)
   have c2 : (ks = Str.ofString "send") = True := eq_true ek
   clear ek
   walk_at "rd*"
   refine Stop.go (i4e fun a0 b0 e0 => ?_)
   walk_at "rd*"
   obtain ⟨⟨rfl⟩⟩ := e0
   refine i4e fun a1 b1 e1 => ?_
   walk_at "rd*"
   obtain ⟨⟨rfl⟩⟩ := e1
   refine i9w fun b9 => ?_
   walk_at "rd*"
   rw [if_pos (by omega)]
   intro l2 H2 n2 S2 h2
   have e2 : d3k (V.str ks :: V.str e.1 :: V.str e.2.1 :: e.2.2.map V.str) (some 3) none = e.2.2.map V.str := by
    show d7q _ (some ((3 : Nat) : Int)) none = _
    rw [b0h]
    rfl
   rw [e2] at h2
   walk_at "rd"
   obtain ⟨⟨ds, ed, d8, dok, _⟩, n1', n2'⟩ := fm
   obtain ⟨o1, o2, o3, o4, o5⟩ := ok
   have S02 := S1.trans S2
   refine ⟨N, p, hP.same S02, ds, by rw [h2, ed, List.map_map]; rfl, d8, dok, o1, o2, o3, Nat.le_trans o4 (by decide), b8g n2', fun f hf => b8g (o5 f hf), fun H3 S3 h3 => ?_⟩
   rw [<- ed] at h3
   exact q H3 ((b0q.of S02).trans S3) (h3.mono fun z hz _ => hz.imp id S02.free)
  | ou x =>
   obtain ⟨ks, ek⟩ : ∃ ks, ks = Str.ofString "out" := ⟨_, rfl⟩
   replace h1 : H1 l1 = some (.lst ([.str ks, .str x.1, .str (Str.ofString (toString x.2))])) := by rw [h1, ek]; rfl
   have c0 : (ks = Str.ofString "track") = False := eq_false (by rw [ek]; decide +kernel)
   have c1 : (ks = Str.ofString "bus") = False := eq_false (by rw [ek]; decide +kernel)
   have c2 : (ks = Str.ofString "send") = False := eq_false (by rw [ek]; decide +kernel)
   have c3 : (ks = Str.ofString "out") = True := eq_true ek
   clear ek
   have k3 : ((3 : Nat) : Int) - 1 = 2 := rfl
   walk_at "rd*"
   refine Stop.go (i4e fun a0 b0 e0 => ?_)
   walk_at "rd*"
   obtain ⟨⟨rfl⟩⟩ := e0
   refine i4e fun a1 b1 e1 => ?_
   walk_at "rd*"
   obtain ⟨⟨rfl⟩⟩ := e1
   refine i4e fun a2 b2 e2 => ?_
   walk_at "rd*"
   obtain ⟨⟨rfl⟩⟩ := e2
   refine i9w fun b9 => ?_
   walk_at "rd*"
   obtain ⟨f1, f2, f3⟩ := fm
   obtain ⟨o1, o2, o3⟩ := ok
   obtain ⟨n, hn⟩ := Int.eq_ofNat_of_zero_le (show 0 <= x.2 by omega)
   refine ⟨n, by rw [c1k, hn], by omega, N, p, hP1, o1, o2, by omega, by omega, Nat.le_trans o3 (by decide), fun H2 S2 h2 => ?_⟩
   rw [<- hn] at h2
   exact q H2 ((b0q.of S1).trans S2) (h2.mono fun z hz _ => .inl hz)
theorem i9a (T : Tx K mg A) : a1k P A.wd K mg base CX0 14 A.b5z A.b6g ["text"] (i2p A) := by
 have c8q : a1k P A.wd K mg base CX0 1 _ _ _ _ := i8s T
 have g5q : a1k P A.wd K mg base CX0 13 _ _ _ _ := i3n T
 have a0r := T.a0r
 have a0i := T.a0i
 have a0l := T.a0l
 have a0k := T.a0k
 have a0m := T.a0m
 refine T.b3m.ok d0g (fun vs H Q E h => ?_) (fun cdv A' outer s H vs Q E hr h => ?_)
 ·obtain ⟨_, rfl, _⟩ := f7v (by unfold i2p at h; exact h)
  rfl
 ·obtain ⟨x, rfl, ⟨ls, g, hx, hl, tl, q⟩⟩ := f7v (by unfold i2p at h; exact h)
  have hu := hr.units
  have hs : sizeLine = 16777216 := sizeLine_eq
  have c6g : a2k 2 _ := hr.mono (by decide)
  have g1k : a2k 13 _ := hr.mono (by decide)
  have xl : x.length <= 16777216 := by rw [hx]; have := i3h (ls := ls) (by omega) tl.fm; omega
  refine ⟨_, (a0j (a4g (b8h (a6j (a1o (c1i .str) (by rfl) T.a6h boot_isinstance (a0g (pvF 0) (a0g (c6r (v := .ty "str") (u := .type "str") (by rfl) T.f6m rfl rfl) a0h)))))
   (a0n a1z)
   a1l)
   (a0j (a0v (i := 1) d0g.nd rfl (Or.inl rfl) (f9h T.f5z c8q c6g (by rfl) T.g6p T.d6t .nil a0t))
   (a0j (a4g (a0u (b1l hu) (pvF 0) a0w (a1q _))
   (a0n (a0z (pvF 1)))
   a1l)
   (a0j (a7u PassesOwn.never rfl (a1m (a5p a4p PySem.F.plainAttrs_str PySem.F.slot_str_split PySem.F.type_str_split c8s (pvF 0) (a0g a0w a0h))) (a2m (i := 2) d0g.nd rfl (Or.inl rfl))
   (a0n (a2n (a0q g5q g1k (by rfl) T.g3w T.c0n.kp T.g3v .nil a0t (a0g (pvF 1) (a0g (pvF 2) a0h))))))
   (a0n (a0z (pvF 1))))))), ?_⟩
  walk_at "rd*"
  intro o dx H1 n1 n1' nx S1 hdx ho
  refine ⟨dx, ho, fun H2 B2 hP => ?_⟩
  rw [asNew]
  refine ⟨rfl, ?_⟩
  have S02 : Same H H2 := fun z u e => B2 _ _ (fun ze => by rw [ze] at e; rw [e] at n1; cases n1) (S1 _ _ e)
  have P2 : c1g A H2 (fun a => H a = none) o Pd0 := hP.mono fun z hz _ => S1.free hz
  clear hP ho hdx B2
  walk_at "rd"
  cases ls with
  | nil =>
   have x0 : x = Str.ofString "" := by rw [hx]; decide +kernel
   clear hx
   rw [if_pos x0]
   have tl : Pd0 = g := tl
   rw [tl] at P2
   exact q o H2 S02 P2
  | cons l0 ls0 =>
   obtain ⟨ls, el⟩ : ∃ ls, ls = l0 :: ls0 := ⟨_, rfl⟩
   rw [<- el] at hx hl tl
   have hne : ls ≠ [] := by rw [el]; simp
   have xne : ¬ x = Str.ofString "" := by rw [hx]; exact i8x hne
   have sp := h4n hne tl.fm
   rw [<- hx] at sp
   have d1 : ((⟨#[10]⟩ : Str).length == 0) = false := rfl
   clear el hne hx
   rw [if_neg xne, i4d]
   clear xne
   walk_at "rd*"
   refine ⟨by omega, fun l1 H3 n3 S3 h3 => ?_⟩
   clear sp
   try walk_at "rd"
   refine ⟨⟨_, SqL.of h3⟩, ?_⟩
   have P3 : c1g A H3 (fun a => H a = none /\ a ≠ l1) o Pd0 := (P2.mono fun z hz e => ⟨hz, fun k => e (by rw [k]; exact n3)⟩).same S3
   obtain ⟨Pv, pin, pout⟩ := d1s (fun i σ H' => ∃ (v2 : Option V) (p : Pd), σ = [some (.str x), some (.ref o), v2] /\ Same H H' /\ H' l1 = some (.lst ((ls.map Ln.line).map V.str)) /\ c1g A H' (fun a => H a = none /\ a ≠ l1) o p /\ Tl g p (ls.drop i))
   refine a5q (xs := (ls.map Ln.line).map V.str) Pv (pin _ _ _ ⟨_, _, rfl, S02.trans S3, h3, P3, tl⟩) ?_ ?_ ?_
   ·intro i σ H4 hi hp
    obtain ⟨v2, p, rfl, _, h4, _⟩ := pout _ _ _ hp
    exact SqL.of h4
   ·intro i v σ H4 hv hp
    obtain ⟨v2, p, rfl, S4, h4, P4, t4⟩ := pout _ _ _ hp
    rw [List.map_map, List.getElem?_map] at hv
    obtain ⟨l, hl, rfl⟩ := Option.map_eq_some_iff.mp hv
    obtain ⟨hi, el⟩ := List.getElem?_eq_some_iff.mp hl
    rw [List.drop_eq_getElem_cons hi, el] at t4
    obtain ⟨f4, o4, t5⟩ := t4
    walk_at "rd"
    refine ⟨_, p, P4, l, rfl, f4, o4, fun H5 S5 P5 => ?_⟩
    have b5 := S5 l1 _ (fun n => absurd rfl n.2) h4
    refine pin _ _ _ ⟨_, _, rfl, fun z u e => S5 _ _ (fun n => by have n := n.1; rw [e] at n; cases n) (S4 _ _ e), b5, P5.mono fun z hz _ => ?_, t5⟩
    rcases hz with hz | hz
    ·exact hz
    ·exact ⟨S4.free hz, fun k => by rw [k, h4] at hz; cases hz⟩
   ·intro σ H4 hp
    obtain ⟨v2, p, rfl, S4, h4, P4, t4⟩ := pout _ _ _ hp
    rw [List.length_map, List.length_map, List.drop_length] at t4
    have t4 : p = g := t4
    subst t4
    try walk_at "rd"
    exact q o H4 S4 (P4.mono fun z hz _ => hz.1)
theorem i3o (T : Tx K mg A) : a1k P A.wd K mg base CX0 1 A.a6o A.a7p ["_law_script", "_law_k"] (h3k K) := by
 refine T.a9s.ok f2t (fun vs H Q E h => ?_) (fun cdv A' outer s H vs Q E hr h => ?_)
 ·obtain ⟨_, _, rfl, _⟩ := d7j (by unfold h3k at h; exact h)
  rfl
 ·obtain ⟨a, k, rfl, ⟨ns, hS, hk, q⟩⟩ := d7j (by unfold h3k at h; exact h)
  have hu := hr.units
  refine ⟨_, (a0j (a4g (a0u of_lt (pvF 1) (a1o g7q (by rfl) T.c8j boot_len (a0g (pvF 0) a0h)) (a1q _))
   (a0n (a0z (a1h ix_S (pvF 0) (pvF 1) (fun _ _ => rfl))))
   a1l)
   (a0n (a0z a0o))), ?_⟩
  walk_at "rd"
  refine ⟨_, hS, ?_⟩
  rw [List.length_map]
  split
  ·rename_i h
   exact ⟨_, hS, hk, h, q⟩
  ·rename_i h
   obtain ⟨j, rfl⟩ := Int.eq_ofNat_of_zero_le hk
   rw [List.getD_eq_getElem?_getD, List.getElem?_eq_none (by omega)] at q
   exact q
theorem j3b (T : Tx K mg A) : a1k P A.wd K mg base CX0 1 A.b6h A.b6i ["_law_head", "_law_k"] j2l := by
 refine T.b9p.ok d0h (fun vs H Q E h => ?_) (fun cdv A' outer s H vs Q E hr h => ?_)
 ·obtain ⟨_, _, rfl, _⟩ := f2m (by unfold j2l at h; exact h)
  rfl
 ·obtain ⟨g, k, rfl, ⟨k0, k1, q⟩⟩ := f2m (by unfold j2l at h; exact h)
  have hu := hr.units
  have hs : sizeLine = 16777216 := sizeLine_eq
  have f8 := c8k g (b := 8) (by decide)
  have l1 : (Str.ofString "opqrstu").length = 7 := by decide +kernel
  have l2 : (Str.ofString "abcdefghijk").length = 11 := by decide +kernel
  refine ⟨_, (f8z (a0v (i := 2) d0h.nd rfl (Or.inl rfl) (a5j g6f a0w a9y (a4u (a1i b8j (pvF 0) a0o))))
   (a0j (a0v (i := 3) d0h.nd rfl (Or.inl rfl) (a1i b8j (a1i a8n (pvF 0) a0o) (a1i a1j (a1o a4i (by rfl) T.c8j boot_len (a0g (pvF 2) a0h)) a0o)))
   (a0n (a0z (a1i a1j (a1i a1j (a5j g6f (pvF 2) a9y (a4u (pvF 3))) (a1h a3q a0w (pvF 1) (fun _ _ => rfl))) (a5j g6f (pvF 2) (a4u (pvF 3)) a9y)))))), ?_⟩
  walk_at "rd*"
  obtain ⟨n, en⟩ : ∃ n : Nat, g.fmod 8 = n := ⟨(g.fmod 8).toNat, by omega⟩
  have sB : sg (Txt.slice (Str.ofString "opqrstu") none (some (g.fmod 8))) = nmB g := by
   rw [en, i6w (by omega)]
   unfold nmB
   rw [en, show sg (Str.ofString "opqrstu") = [111, 112, 113, 114, 115, 116, 117] by decide +kernel]
   rfl
  generalize Txt.slice (Str.ofString "opqrstu") none (some (g.fmod 8)) = B at sB
  have lB : B.length = (nmB g).length := by rw [<- b7j, sB]
  have l7 : (nmB g).length <= 7 := by
   unfold nmB
   rw [List.length_take]
   exact Nat.min_le_right _ _
  have fa := c8k (g.fdiv 8) (b := ((nmB g).length : Int) + 1) (by omega)
  have ea : (g.fdiv 8).fmod (((nmB g).length : Int) + 1) = (nmA g : Int) := by
   unfold nmA
   omega
  have aB : nmA g <= B.length := by
   rw [lB]
   unfold nmA
   omega
  obtain ⟨kk, rfl⟩ := Int.eq_ofNat_of_zero_le k0
  have ec : atI (Str.ofString "abcdefghijk").cps.toList (kk : Int) = some (97 + kk) := by
   rw [show (Str.ofString "abcdefghijk").cps.toList = List.range' 97 11 by decide +kernel]
   refine b9r ?_
   rw [List.getElem?_range' (by omega)]
   simp
  have s1 := i6w aB
  have s2 := h1j aB
  have n1 : (Txt.slice B none (some (nmA g : Int))).length <= 7 := by rw [<- b7j, s1, List.length_take]; omega
  have n2 : (Txt.slice B (some (nmA g : Int)) none).length <= 7 := by rw [<- b7j, s2, List.length_drop]; rw [b7j]; omega
  have z1 : ¬ ((nmB g).length : Int) + 1 = 0 := by omega
  clear f8 fa en
  refine Stop.go ?_
  walk_at "rd*"
  rw [strLen_append, b4o]
  refine ⟨⟨by decide, by decide⟩, by omega, by omega, by omega, by omega, by omega, ?_⟩
  have e : Txt.slice B none (some (nmA g : Int)) ++ (⟨#[97 + kk]⟩ : Str) ++ Txt.slice B (some (nmA g : Int)) none = nmH g kk := b1n (by
   rw [a1r, a1r, s1, s2, sB]
   show _ = _ ++ _ :: _
   rw [List.append_assoc]
   rfl)
  rw [e]
  exact q
theorem h7u (T : Tx K mg A) : a1k P A.wd K mg base CX0 1 A.b0z A.b2z ["_law_names", "_law_pick"] g4r := by
 refine T.b6r.ok d6p (fun vs H Q E h => ?_) (fun cdv A' outer s H vs Q E hr h => ?_)
 ·obtain ⟨_, _, rfl, _⟩ := d7j (by unfold g4r at h; exact h)
  rfl
 ·obtain ⟨l, k, rfl, ⟨xs, hl, xl, q⟩⟩ := d7j (by unfold g4r at h; exact h)
  have hu := hr.units
  have hs : sizeLine = 16777216 := sizeLine_eq
  refine ⟨_, (a0j (a0v (i := 2) d6p.nd rfl (Or.inl rfl) (a1i b8j (pvF 1) (a1i a1j (a1o a4i (by rfl) T.c8j boot_len (a0g (pvF 0) a0h)) a0o)))
   (a0n (a0z (a1i a1j (i0t (by rfl) T.f1l (by rfl) T.g8q rfl (a5j g6f (pvF 0) a9y (a4u (pvF 2)))) (a5j g6f (pvF 0) (a4u (pvF 2)) a9y))))), ?_⟩
  have fa := c8k k (b := (xs.length : Int) + 1) (by omega)
  walk_at "rd*"
  refine ⟨by omega, fun l1 H1 n1 S1 h1 => ?_⟩
  obtain ⟨a, ea⟩ : ∃ a : Nat, k.fmod ((xs.length : Int) + 1) = a := ⟨(k.fmod ((xs.length : Int) + 1)).toNat, by omega⟩
  have e1 : d3k xs none (some (k.fmod ((xs.length : Int) + 1))) = xs.take a := by
   rw [ea]
   exact f8y _ _
  have e2 : d3k xs (some (k.fmod ((xs.length : Int) + 1))) none = xs.drop a := by
   rw [ea]
   exact b0h _ _
  rw [e1] at h1
  clear fa
  walk_at "rd*"
  refine fun l2 H2 n2 S2 h2 => ?_
  have hl2 := S2 _ _ (S1 _ _ hl)
  clear h1 hl
  walk_at "rd*"
  refine fun l3 H3 n3 S3 h3 => ?_
  have h23 := S3 _ _ h2
  rw [<- ea, e2] at h3
  clear h2 hl2
  walk_at "rd*"
  refine ⟨by rw [List.length_reverse, List.length_take, List.length_drop]; omega, fun l4 H4 n4 S4 h4 => ?_⟩
  exact q a l4 H4 (S1.free (S2.free (S3.free n4))) (S1.trans (S2.trans (S3.trans S4))) h4
theorem h4o : h7c.map (fun d => V.str d.word) = [.str "gain:1/2", .str "gain:-3/4", .str "gain:0/1", .str "gain:1000/999", .str "gain:-1000/1", .str "delay:0", .str "delay:1000", .str "delay:7", .str "echo:1/3:4:0", .str "echo:-2/1:1000:16", .str "echo:1/1:1:3", .str "back:1/3:4", .str "back:-2/1:1000", .str "hall:1/2:9", .str "hall:-999/1000:1", .str "hall:0/1:1000", .str "swell:0=1/1", .str "swell:3=1/2,4=-1/2,100000=0/1", .str (Str.ofString "swell:" ++ Txt.join (Str.ofString ",") ((List.range 12).map crT)), .str "gain:7/9"] := by decide +kernel
theorem yok {y : Rat} (h : (decide (y.num.natAbs <= 1000) && decide (y.den <= 1000)) = true) : YOk y := by
 rw [Bool.and_eq_true, decide_eq_true_eq, decide_eq_true_eq] at h
 exact h
theorem i3p : ∀ d ∈ h7c, d.ok := by
 intro d hd
 simp only [h7c, List.mem_cons, List.mem_nil_iff, or_false] at hd
 rcases hd with rfl | rfl | rfl | rfl | rfl | rfl | rfl | rfl | rfl | rfl | rfl | rfl | rfl | rfl | rfl | rfl | rfl | rfl | rfl | rfl
 case inr.inr.inr.inr.inr.inr.inr.inr.inr.inr.inr.inr.inr.inr.inr.inr.inl =>
  refine ⟨fun c hc => ?_, fun i c d _ h => ?_, by decide, by decide⟩
  ·obtain rfl := List.mem_singleton.mp hc
   exact ⟨by decide, by decide, yok (by decide +kernel)⟩
  ·simp at h
 case inr.inr.inr.inr.inr.inr.inr.inr.inr.inr.inr.inr.inr.inr.inr.inr.inr.inl =>
  refine ⟨fun c hc => ?_, fun i c d h1 h2 => ?_, by decide, by decide⟩
  ·simp only [List.mem_cons, List.mem_nil_iff, or_false] at hc
   rcases hc with rfl | rfl | rfl <;> exact ⟨by decide, by decide, yok (by decide +kernel)⟩
  ·match i, h1, h2 with
   | 0, h1, h2 => cases h1; cases h2; decide
   | 1, h1, h2 => cases h1; cases h2; decide
   | i + 2, h1, h2 => simp at h2
 case inr.inr.inr.inr.inr.inr.inr.inr.inr.inr.inr.inr.inr.inr.inr.inr.inr.inr.inl =>
  refine ⟨fun c hc => ?_, fun i c d h1 h2 => ?_, by rw [List.length_map, List.length_range]; decide, by rw [List.length_map, List.length_range]; decide⟩
  ·obtain ⟨k, hk, rfl⟩ := List.mem_map.mp hc
   have hk := List.mem_range.mp hk
   refine ⟨by show 0 <= 9 * (k : Int); omega, by show 9 * (k : Int) <= 100000; omega, ?_⟩
   have a : ∀ k : Nat, k < 12 -> (decide ((mkRat (k : Int) 1).num.natAbs <= 1000) && decide ((mkRat (k : Int) 1).den <= 1000)) = true := by decide +kernel
   exact yok (a k hk)
  ·rw [List.getElem?_map] at h1 h2
   obtain ⟨a, ha, rfl⟩ := Option.map_eq_some_iff.mp h1
   obtain ⟨b, hb, rfl⟩ := Option.map_eq_some_iff.mp h2
   have e1 := List.getElem?_eq_some_iff.mp ha
   have e2 := List.getElem?_eq_some_iff.mp hb
   obtain ⟨_, e1⟩ := e1
   obtain ⟨_, e2⟩ := e2
   rw [List.getElem_range] at e1 e2
   show 9 * (a : Int) < 9 * (b : Int)
   omega
 all_goals first
  | exact Nat.le_of_ble_eq_true rfl
  | exact yok (by decide +kernel)
  | exact ⟨yok (by decide +kernel), by decide, by decide⟩
  | exact ⟨yok (by decide +kernel), by decide, by decide, by decide⟩
  | exact ⟨yok (by decide +kernel), by decide +kernel, by decide, by decide⟩
theorem i3q : ∀ d ∈ h7c, PyData.strOk d.word = true := by
 intro d hd
 have h : ((h7c.map Dt.word).all fun s => PyData.strOk s) = true := by decide +kernel
 exact (List.all_eq_true.mp h) _ (List.mem_map_of_mem hd)
theorem i9b (T : Tx K mg A) : a1k P A.wd K mg base CX0 1 A.b0y A.b2y ["_law_mixed"] i2q := by
 refine T.c0o.ok b7n (fun vs H Q E h => ?_) (fun cdv A' outer s H vs Q E hr h => ?_)
 ·obtain ⟨_, rfl, _⟩ := i9o (by unfold i2q at h; exact h)
  rfl
 ·obtain ⟨m, rfl, q⟩ := i9o (by unfold i2q at h; exact h)
  have hu := hr.units
  have hs : sizeLine = 16777216 := sizeLine_eq
  have l10 : (Str.ofString "swell:").length = 6 := by decide +kernel
  have l11 : (Str.ofString "=").length = 1 := by decide +kernel
  have l12 : (Str.ofString "/1").length = 2 := by decide +kernel
  refine ⟨_, (a0j (a0v (i := 1) b7n.nd rfl (Or.inr rfl) (a2g (a0g a0w (a0g a0w (a0g a0w (a0g a0w (a0g a0w (a0g a0w (a0g a0w (a0g a0w a0h))))))))))
   (a0j (a0v (i := 1) b7n.nd rfl (Or.inr rfl) (a1i a1j (pvF 1) (a2g (a0g a0w (a0g a0w (a0g a0w (a0g a0w (a0g a0w (a0g a0w a0h)))))))))
   (a0j (a0v (i := 1) b7n.nd rfl (Or.inr rfl) (a1i a1j (pvF 1) (a2g (a0g a0w (a0g a0w (a0g a0w (a0g a0w a0h)))))))
   (a2v (a0v (i := 1) b7n.nd rfl (Or.inr rfl) (a1i a1j (pvF 1) (a2g (a0g (a1i a1j a0w (a5p a4p PySem.F.plainAttrs_str PySem.F.slot_str_join PySem.F.type_str_join c3y a0w (a0g (a4w (b4n (by rfl) T.d0z (a0g a0o a0h)) (fun _ _ _ _ _ => (a1i a1j (a1i a1j (a1i a1j (a4h d1v (by rfl) T.f6m boot_str (a0g (a1i a8m a0o (pvF 0)) a0h)) a0w) (a4h d1v (by rfl) T.f6m boot_str (a0g (pvF 0) a0h))) a0w)) (b3n (sc := a0p c4i) (N := ["_law_mixed", "_law_some"]) rfl rfl (by decide +kernel)) rfl) a0h))) (a0g a0w a0h)))))
   (a0n (a0z (a4w (b4n (by rfl) T.d0z (a0g (a1i b8j (a1i a8n (pvF 0) (a1i d5v a0o a0o)) a0o) a0h)) (fun _ _ _ _ _ => (a1h a3q (pvF 2) (a1i b8j (a1i a8n (pvF 1) (a1i a1j a0o (a1i a8m a0o (pvF 0)))) a0o) (fun _ _ => rfl))) (b3n (sc := a0p c4i) (N := ["_law_mixed", "_law_some"]) rfl rfl (by decide +kernel)) rfl))))))), ?_⟩
  walk_at "rd*"
  refine fun l1 H1 n1 S1 h1 => ?_
  walk_at "rd*"
  refine fun l2 H2 n2 S2 h2 => ?_
  have h12 := S2 _ _ h1
  clear h1
  walk_at "rd*"
  refine fun l3 H3 n3 S3 h3 => ?_
  clear h12 h2
  walk_at "rd*"
  refine fun l4 H4 n4 S4 h4 => ?_
  have h34 := S4 _ _ h3
  clear h3
  walk_at "rd*"
  refine fun l5 H5 n5 S5 h5 => ?_
  clear h34 h4
  have S05 := S1.trans (S2.trans (S3.trans (S4.trans S5)))
  obtain ⟨Mid, min, mout⟩ := d7r (fun σ' H' => ∃ l, σ' = [some (.int m), some (.ref l)] /\ Same H H' /\ H' l = some (.lst (h7c.map fun d => V.str d.word)))
  try walk_at "rd"
  refine ⟨Mid, ?_, ?_⟩
  ·walk_at "rd*"
   intro D H6 n6 S6 h6
   refine b9t (n := 12) (fun i ys H' => Same H5 H' /\ H' D = some (.lst ys) /\ ys = ((List.range i).map crT).map V.str) ⟨S6, h6, rfl⟩ (by omega) ?_ ?_ ?_
   ·intro i ys H' hi ⟨S', h', e⟩
    exact ⟨h', by rw [e, List.length_map, List.length_map, List.length_range]⟩
   ·intro i ys H' hi ⟨S', h', e⟩
    have g0 := c2w (t := 9 * (i : Int)) (n := 20) (by omega) (by decide)
    have g1 := c2w (t := (i : Int)) (n := 20) (by omega) (by decide)
    have a0 := c2k (t := 9 * (i : Int)) (n := 20) (by omega) (by decide)
    have a1 := c2k (t := (i : Int)) (n := 20) (by omega) (by decide)
    clear h5 h6
    rw [Int.zero_add]
    walk_at "rd*"
    simp only [strLen_append, l11, l12]
    refine ⟨IntMulOk.of_left (intBits_le_64 (by omega) (by omega)), by omega, by omega, by omega, by omega, by omega, fun H8 B8 h8 => ⟨S'.step n6 B8, h8, ?_⟩⟩
    rw [List.range_succ, List.map_append, List.map_append]
    rfl
   intro ys H7 ⟨S7, h7, e⟩
   subst e
   clear h6
   have h57 := S7 _ _ h5
   clear h5
   have jo : JoinOk (Str.ofString ",") ((List.range 12).map crT) = true := by decide +kernel
   have jl : (Txt.join (Str.ofString ",") ((List.range 12).map crT)).length ≤ 1000 := by decide +kernel
   walk_at "rd*"
   refine ⟨_, rfl, jo, by omega, fun l8 H8 n8 S8 h8 => ?_⟩
   have h58 := S8 _ _ h57
   clear h57 jo jl
   walk_at "rd*"
   refine fun l9 H9 n9 S9 h9 => ?_
   try walk_at "rd"
   exact min _ _ ⟨l9, rfl, S05.trans (S7.trans (S8.trans S9)), by rw [h9, h4o]⟩
  intro σ1 H8 hm1
  obtain ⟨l8, rfl, S8, h8⟩ := mout _ _ hm1
  clear hm1 min mout h5
  have f9 := c8k (m.fdiv 1000000000) (b := 9) (by decide)
  walk_at "rd*"
  refine ⟨by decide, ⟨by decide, by decide⟩, by omega, by omega, fun D H9 n9 S9 h9 => ?_⟩
  obtain ⟨nn, en⟩ : ∃ nn : Nat, ((m.fdiv 1000000000).fmod 9).toNat = nn := ⟨_, rfl⟩
  rw [en]
  refine b9t (fun i ys H' => Same H8 H' /\ H' D = some (.lst ys) /\ ∃ W : List Dt, ys = W.map (fun d => V.str d.word) /\ W.length = i /\ ∀ d ∈ W, d ∈ h7c) ⟨S9, h9, [], rfl, rfl, fun d hd => by cases hd⟩ (by omega) ?_ ?_ ?_
  ·intro i ys H' hi ⟨S', h', W, e, el, _⟩
   exact ⟨h', by rw [e, List.length_map, el]⟩
  ·intro i ys H' hi ⟨S', h', W, e, el, hW⟩
   have hl' := S' _ _ h8
   have f8 := c8k (m.fdiv (20 + 7 * (i : Int))) (b := 20) (by decide)
   obtain ⟨j, ej⟩ : ∃ j : Nat, (m.fdiv (20 + 7 * (i : Int))).fmod 20 = j := ⟨((m.fdiv (20 + 7 * (i : Int))).fmod 20).toNat, by omega⟩
   obtain ⟨d, hd⟩ : ∃ d, h7c[j]? = some d := ⟨_, List.getElem?_eq_getElem (by show j < 20; omega)⟩
   have a3 : atI (h7c.map fun d => V.str d.word) (j : Int) = some (.str d.word) := b9r (by rw [List.getElem?_map, hd]; rfl)
   rw [Int.zero_add]
   clear h8 h9 f8
   walk_at "rd*"
   refine ⟨IntMulOk.of_left (intBits_le_64 (by omega) (by omega)), ⟨by omega, Nat.le_trans (intBits_le_64 (by omega) (by omega)) (by decide)⟩, fun H4 B4 h4 => ⟨S'.step n9 B4, h4, W ++ [d], by rw [List.map_append]; rfl, by rw [List.length_append, el]; rfl, fun z hz => ?_⟩⟩
   rcases List.mem_append.mp hz with h | h
   ·exact hW z h
   ·obtain rfl := List.mem_singleton.mp h
    exact List.mem_of_getElem? hd
  ·intro ys H10 ⟨S10, h10, W, e, el, hW⟩
   subst e
   refine q D (W.map Dt.word) H10 (S8.free n9) (S8.trans S10) (by rw [h10, List.map_map]; rfl) ⟨W, rfl, by omega, fun d hd => i3p d (hW d hd), fun z hz => ?_⟩
   obtain ⟨d, hd, rfl⟩ := List.mem_map.mp hz
   exact i3q d (hW d hd)
theorem h7v (h : Int) (k : Nat) : sg (nmH h k) = (nmB h).take (nmA h) ++ (97 + k) :: (nmB h).drop (nmA h) := rfl
theorem h4p {h : Int} {c : Nat} (hc : c ∈ nmB h) : 111 <= c /\ c <= 117 := by
 have := List.mem_of_mem_take hc
 simp only [List.mem_cons, List.mem_nil_iff, or_false] at this
 omega
theorem h4q {h : Int} {k : Nat} (hk : k < 11) : a6u (nmH h k) := by
 have l7 : (nmB h).length <= 7 := by
  unfold nmB
  rw [List.length_take]
  exact Nat.min_le_right _ _
 have z : (nmB h).length = ((nmB h).take (nmA h)).length + ((nmB h).drop (nmA h)).length := by rw [<- List.length_append, List.take_append_drop]
 have e : (nmH h k).length = (nmB h).length + 1 := by
  rw [<- b7j, h7v, List.length_append, List.length_cons]
  omega
 refine ⟨by omega, fun q => ?_, fun c hc => ?_⟩
 ·rw [q] at e
  have z : (Str.ofString "").length = 0 := by decide +kernel
  omega
 ·rcases List.mem_append.mp (show c ∈ (nmB h).take (nmA h) ++ (97 + k) :: (nmB h).drop (nmA h) from hc) with m | m
  ·have := h4p (List.mem_of_mem_take m)
   omega
  ·rcases List.mem_cons.mp m with m | m
   ·omega
   ·have := h4p (List.mem_of_mem_drop m)
    omega
theorem h4r {h : Int} {k k' : Nat} (e : nmH h k = nmH h k') : k = k' := by
 have e := congrArg sg e
 rw [h7v, h7v] at e
 have := (List.cons.inj (List.append_cancel_left e)).1
 omega
theorem i9c {h : Int} {k : Nat} (hk : k < 11) : Str.ofString "zz" ≠ nmH h k := fun e => by
 have e := congrArg sg e
 rw [h7v, show sg (Str.ofString "zz") = [122, 122] by decide +kernel] at e
 have : 97 + k ∈ [122, 122] := by rw [e]; exact List.mem_append_right _ List.mem_cons_self
 simp at this
 omega
theorem d1l {α : Type} {l : List α} {i j : Nat} {x : α} (nd : l.Nodup) (h1 : l[i]? = some x) (h2 : l[j]? = some x) : i = j := by
 obtain ⟨i1, e1⟩ := List.getElem?_eq_some_iff.mp h1
 obtain ⟨i2, e2⟩ := List.getElem?_eq_some_iff.mp h2
 rcases Nat.lt_trichotomy i j with h | h | h
 ·exact absurd (e1.trans e2.symm) (List.pairwise_iff_getElem.mp nd i j i1 i2 h)
 ·exact h
 ·exact absurd (e2.trans e1.symm) (List.pairwise_iff_getElem.mp nd j i i2 i1 h)
theorem i3r {ts bs : List Str} {es : List Sd} (nd : bs.Nodup) (dj : ∀ x ∈ bs, x ∉ ts) (h : ∀ e ∈ es, Hid ts bs e) : h9k (prs es) := by
 classical
 obtain ⟨r, hr, h0⟩ : ∃ r : Str -> Nat, (∀ (g : Nat) z, bs[g]? = some z -> r z = g + 1) /\ ∀ z, z ∉ bs -> r z = 0 := by
  refine ⟨fun z => if hz : ∃ g : Nat, bs[g]? = some z then Classical.choose hz + 1 else 0, fun g z hg => ?_, fun z hz => ?_⟩
  ·have hz : ∃ g : Nat, bs[g]? = some z := ⟨g, hg⟩
   show (if hz : _ then _ else _) = _
   rw [dif_pos hz, d1l nd (Classical.choose_spec hz) hg]
  ·show (if hz : _ then _ else _) = _
   rw [dif_neg]
   rintro ⟨g, hg⟩
   exact hz (List.mem_of_getElem? hg)
 refine ⟨r, fun e he => ?_⟩
 obtain ⟨f, hf, rfl⟩ := List.mem_map.mp he
 obtain ⟨_, g, hg, hm⟩ := h f hf
 show r f.1 < r f.2.1
 rw [hr g _ hg]
 rcases hm with m | m
 ·rw [h0 _ fun z => dj _ z m]
  omega
 ·obtain ⟨j, hj, e⟩ := List.getElem_of_mem m
  rw [List.length_take] at hj
  rw [List.getElem_take] at e
  rw [hr j f.1 (by rw [List.getElem?_eq_getElem (by omega), e])]
  omega
theorem RpL.app {H : Hp} {N : Addr -> Prop} : ∀ {xs ys : List V} {ds es : List W.Dat}, RpL H N xs ds -> RpL H N ys es -> RpL H N (xs ++ ys) (ds ++ es)
 | _, _, _, _, .nil, h => h
 | _, _, _, _, .cons a r, h => .cons a (RpL.app r h)
theorem RpL.rev {H : Hp} {N : Addr -> Prop} : ∀ {xs : List V} {ds : List W.Dat}, RpL H N xs ds -> RpL H N xs.reverse ds.reverse
 | _, _, .nil => .nil
 | _, _, .cons a r => by
  rw [List.reverse_cons, List.reverse_cons]
  exact L2.RpL.snoc (RpL.rev r) a
theorem RpL.tk {H : Hp} {N : Addr -> Prop} : ∀ {xs : List V} {ds : List W.Dat} (n : Nat), RpL H N xs ds -> RpL H N (xs.take n) (ds.take n) /\ RpL H N (xs.drop n) (ds.drop n)
 | _, _, 0, h => ⟨.nil, h⟩
 | _, _, n + 1, .nil => ⟨.nil, .nil⟩
 | _, _, n + 1, .cons a r => ⟨.cons a (RpL.tk n r).1, (RpL.tk n r).2⟩
theorem g7a {α : Type} (xs : List α) (a : Nat) : (abt xs a).Perm xs := ((List.reverse_perm (xs.take a)).append_right _).trans (by rw [List.take_append_drop])
theorem h4s {α β : Type} (f : α -> β) (xs : List α) (a : Nat) : abt (xs.map f) a = (abt xs a).map f := by
 unfold abt
 rw [List.map_append, List.map_reverse, List.map_take, List.map_drop]
theorem h7w (T : Tx K mg A) : a1k P A.wd K mg base CX0 2 A.b1g A.b3g ["_law_script"] (g4s K) := by
 have d3h : a1k P A.wd K mg base CX0 1 _ _ _ _ := i3o T
 have f4s : a1k P A.wd K mg base CX0 1 _ _ _ _ := j3b T
 have g5r : a1k P A.wd K mg base CX0 1 _ _ _ _ := i9b T
 have f2h : a1k P A.wd K mg base CX0 1 _ _ _ _ := h7u T
 refine T.c0p.ok a2s (fun vs H Q E h => ?_) (fun cdv A' outer s H vs Q E hr h => ?_)
 ·obtain ⟨_, rfl, _⟩ := b0l (by unfold g4s at h; exact h)
  rfl
 ·obtain ⟨a, rfl, ⟨ns, hS, hl, hbit, q⟩⟩ := b0l (by unfold g4s at h; exact h)
  have hu := hr.units
  have hs : sizeLine = 16777216 := sizeLine_eq
  have c9q : a2k 1 _ := hr.mono (by decide)
  have f2i : a2k 1 _ := hr.mono (by decide)
  have g1l : a2k 1 _ := hr.mono (by decide)
  have d7g : a2k 1 _ := hr.mono (by decide)
  have bc : ∀ k : Nat, intBits (ns.getD k 0) <= 1100000 := fun k => Nat.le_trans (h1e hbit k) (by decide)
  refine ⟨_, (a2v (a0v (i := 1) a2s.nd rfl (Or.inr rfl) (a1i b8j (a1i a8m (a0q d3h c9q (by rfl) T.d2z T.a9s.kp T.d2y .nil a0t (a0g (pvF 0) (a0g a0o a0h))) a0o) a0o))
   (a2v (f5h (i := 2) a2s.nd rfl rfl (b4n (by rfl) T.d0z (a0g (a1i b8j (pvF 1) a0o) a0h)) (fun _ _ _ _ _ => (a0q f4s f2i (by rfl) T.f4o T.b9p.kp T.f4n .nil a0t (a0g (a1i a8n (pvF 2) a0o) (a0g (pvF 0) a0h)))) (b3n (sc := a0p c4j) (N := ["_law_script", "_law_head", "_law_tracks", "_law_buses", "_law_sends", "_law_cell", "_law_mixed", "_law_goal", "_law_nodes", "_law_outs", "_law_k", "_law_most"]) rfl rfl (by decide +kernel)) rfl)
   (a2v (f5h (i := 3) a2s.nd rfl rfl (b4n (by rfl) T.d0z (a0g (a1i b8j (a1i a8n (pvF 1) a0o) a0o) a0h)) (fun _ _ _ _ _ => (a0q f4s f2i (by rfl) T.f4o T.b9p.kp T.f4n .nil a0t (a0g (a1i a8n (pvF 2) a0o) (a0g (a1i a1j a0o (pvF 0)) a0h)))) (b3n (sc := a0p c4j) (N := ["_law_script", "_law_head", "_law_tracks", "_law_buses", "_law_sends", "_law_cell", "_law_mixed", "_law_goal", "_law_nodes", "_law_outs", "_law_k", "_law_most"]) rfl rfl (by decide +kernel)) rfl)
   (a0j (a0v (i := 4) a2s.nd rfl (Or.inl rfl) (a2g a0h))
   (a2v (a7u PassesOwn.never rfl (a1m (a5j j1c (pvF 0) (a4u a0o) (a4u a0o))) (a2m (i := 5) a2s.nd rfl (Or.inl rfl))
   (a2v (a0v (i := 6) a2s.nd rfl (Or.inl rfl) (a1i b8j (a1i a8m (pvF 5) a0o) (a1i a1j (a1i d5v a0o a0o) a0o)))
   (a0j (a0v (i := 7) a2s.nd rfl (Or.inl rfl) (a1i b8j (pvF 6) (a1o (h1c rfl) (by rfl) T.j2a boot_max (a0g a0o (a0g (a1o a4i (by rfl) T.c8j boot_len (a0g (pvF 3) a0h)) a0h)))))
   (a0j (a0v (i := 8) a2s.nd rfl (Or.inl rfl) (a1i a1j (pvF 2) (a5j g6f (pvF 3) a9y (a4u (pvF 7)))))
   (a0n (a4g (pw_and (a0u (b8i hu) (pvF 3) (a2g a0h) (a1q _)) (pw_and1 (a0u (b8i hu) (pvF 8) (a2g a0h) (a1q _)))).pt
   (a0n (a2n (a5p a8h PySem.F.plainAttrs_list PySem.F.slot_list_append PySem.F.type_list_append a4m (pvF 4) (a0g (a9z (a0g (a1h a3q (pvF 8) (a1i b8j (a1i a8n (pvF 6) a0o) (a1o a4i (by rfl) T.c8j boot_len (a0g (pvF 8) a0h))) (fun _ _ => rfl)) (a0g (a1h a3q (pvF 3) (pvF 7) (fun _ _ => rfl)) (a0g (a0q g5r g1l (by rfl) T.g3y T.c0o.kp T.g3x .nil a0t (a0g (a1i a8n (pvF 6) a0o) a0h)) a0h)))) a0h))))
   a1l))))))
   (a2v (a0v (i := 6) a2s.nd rfl (Or.inl rfl) (a1i b8j (a1i a8m (a0q d3h c9q (by rfl) T.d2z T.a9s.kp T.d2y .nil a0t (a0g (pvF 0) (a0g a0o a0h))) a0o) (a1i a1j (a1i d5v a0o a0o) a0o)))
   (a0j (a0v (i := 9) a2s.nd rfl (Or.inl rfl) (a2g a0h))
   (a2v (a7u PassesOwn.never rfl (b4n (by rfl) T.d0z (a0g (a1o a4i (by rfl) T.c8j boot_len (a0g (pvF 3) a0h)) a0h)) (a2m (i := 10) a2s.nd rfl (Or.inl rfl))
   (a0j (a0v (i := 11) a2s.nd rfl (Or.inl rfl) (a1h a3q (a2g (a0g a0o (a0g a0o (a0g (a1i d5v a0o a0o) (a0g (a1i d5v a0o a0o) (a0g (a1i d5v a0o a0o) a0h)))))) (a1i b8j (a1i a8n (pvF 6) (a1i a1j a0o (a1i a8m a0o (pvF 10)))) a0o) (fun _ _ => rfl)))
   (a0n (a4g (a0u f2k (a1i b8j (a1i a8n (pvF 6) (a1i i7u a0o (pvF 10))) a0o) a0o (a1q _))
   (a0n (a2n (a5p a8h PySem.F.plainAttrs_list PySem.F.slot_list_append PySem.F.type_list_append a4m (pvF 9) (a0g (a9z (a0g (a1h a3q (pvF 3) (pvF 10) (fun _ _ => rfl)) (a0g (a1i a1j a0o (a1i b8j (a1i a8n (pvF 6) (a1i a1j a0o (pvF 10))) (pvF 11))) a0h))) a0h))))
   a1l))))
   (a0n (a0z (a9z (a0g (pvF 2) (a0g (a0q f2h d7g (by rfl) T.f1k T.b6r.kp T.f1j .nil a0t (a0g (pvF 3) (a0g (a1i a8n (pvF 6) (a1i d5v a0o a0o)) a0h))) (a0g (pvF 4) (a0g (a0q f2h d7g (by rfl) T.f1k T.b6r.kp T.f1j .nil a0t (a0g (pvF 9) (a0g (a1i a8n (pvF 6) (a1i d5v a0o a0o)) a0h))) a0h))))))))))))))), ?_⟩
  obtain ⟨Mid0, in0, out0⟩ := d7r (fun σ' H' => ∃ hd : Int, σ' = [some (.ref a), some (.int hd), none, none, none, none, none, none, none, none, none, none] /\ H' = H)
  refine ⟨Mid0, ?_, ?_⟩
  ·have b0 := bc 0
   walk_at "rd"
   exact ⟨ns, hS, by walk_at "mul", in0 _ _ ⟨_, rfl, rfl⟩⟩
  intro σ0 H0 hm0
  obtain ⟨hd, rfl, rfl⟩ := out0 _ _ hm0
  clear hm0 in0 out0
  obtain ⟨Mid1, in1, out1⟩ := d7r (fun σ' H' => ∃ (t : Addr) (n : Nat), σ' = [some (.ref a), some (.int hd), some (.ref t), none, none, none, none, none, none, none, none, none] /\ Same H0 H' /\ H' t = some (.lst (((List.range n).map (nmH (hd.fdiv 35))).map V.str)) /\ n <= 4)
  refine ⟨Mid1, ?_, ?_⟩
  ·have f5 := c8k hd (b := 5) (by decide)
   walk_at "rd"
   refine ⟨by omega, by omega, fun D H1 n1 S1 h1 => ?_⟩
   obtain ⟨nn, en⟩ : ∃ nn : Nat, (hd.fmod 5).toNat = nn := ⟨_, rfl⟩
   rw [en]
   refine b9t (fun i ys H' => Same H0 H' /\ H' D = some (.lst ys) /\ ys = ((List.range i).map (nmH (hd.fdiv 35))).map V.str) ⟨S1, h1, rfl⟩ (by omega) ?_ ?_ ?_
   ·intro i ys H' hi ⟨S', h', e⟩
    exact ⟨h', by rw [e, List.length_map, List.length_map, List.length_range]⟩
   ·intro i ys H' hi ⟨S', h', e⟩
    rw [Int.zero_add]
    walk_at "rd"
    refine ⟨⟨by decide, by decide⟩, by omega, by omega, h', fun H2 B2 h2 => ⟨S'.step n1 B2, h2, ?_⟩⟩
    rw [e, List.range_succ, List.map_append, List.map_append]
    rfl
   ·intro ys H2 ⟨S2, h2, e⟩
    subst e
    try walk_at "rd"
    exact in1 _ _ ⟨D, nn, rfl, S2, h2, by omega⟩
  intro σ1 H1 hm1
  obtain ⟨t, n, rfl, S1, ht, n4⟩ := out1 _ _ hm1
  clear hm1 in1 out1
  obtain ⟨Mid2, in2, out2⟩ := d7r (fun σ' H' => ∃ (b : Addr) (m : Nat), σ' = [some (.ref a), some (.int hd), some (.ref t), some (.ref b), none, none, none, none, none, none, none, none] /\ Same H1 H' /\ H' b = some (.lst (((List.range m).map fun k => nmH (hd.fdiv 35) (4 + k)).map V.str)) /\ m <= 6)
  refine ⟨Mid2, ?_, ?_⟩
  ·have f5 := c8k (hd.fdiv 5) (b := 7) (by decide)
   walk_at "rd"
   refine ⟨⟨by decide, by decide⟩, by omega, by omega, fun D H2 n2 S2 h2 => ?_⟩
   obtain ⟨nn, en⟩ : ∃ nn : Nat, ((hd.fdiv 5).fmod 7).toNat = nn := ⟨_, rfl⟩
   rw [en]
   refine b9t (fun i ys H' => Same H1 H' /\ H' D = some (.lst ys) /\ ys = ((List.range i).map fun k => nmH (hd.fdiv 35) (4 + k)).map V.str) ⟨S2, h2, rfl⟩ (by omega) ?_ ?_ ?_
   ·intro i ys H' hi ⟨S', h', e⟩
    exact ⟨h', by rw [e, List.length_map, List.length_map, List.length_range]⟩
   ·intro i ys H' hi ⟨S', h', e⟩
    rw [Int.zero_add]
    walk_at "rd"
    refine ⟨⟨by decide, by decide⟩, by omega, by omega, h', fun H2 B2 h2 => ⟨S'.step n2 B2, h2, ?_⟩⟩
    rw [e, List.range_succ, List.map_append, List.map_append, show ((4 : Int) + (i : Int)).toNat = 4 + i by omega]
    rfl
   ·intro ys H3 ⟨S3, h3, e⟩
    subst e
    try walk_at "rd"
    exact in2 _ _ ⟨D, nn, rfl, S3, h3, by omega⟩
  intro σ2 H2 hm2
  obtain ⟨b, m, rfl, S2, hb, m6⟩ := out2 _ _ hm2
  clear hm2 in2 out2
  have ht2 := S2 _ _ ht
  clear ht
  obtain ⟨ts, ets⟩ : ∃ ts, ts = (List.range n).map (nmH (hd.fdiv 35)) := ⟨_, rfl⟩
  obtain ⟨bs, ebs⟩ : ∃ bs, bs = (List.range m).map fun k => nmH (hd.fdiv 35) (4 + k) := ⟨_, rfl⟩
  rw [<- ets] at ht2
  rw [<- ebs] at hb
  have tl : ts.length <= 4 := by rw [ets, List.length_map, List.length_range]; exact n4
  have bl : bs.length <= 6 := by rw [ebs, List.length_map, List.length_range]; exact m6
  have tn : ∀ x ∈ ts, a6u x ∧ Str.ofString "zz" ≠ x := fun x hx => by
   rw [ets] at hx
   obtain ⟨k, hk, rfl⟩ := List.mem_map.mp hx
   have hk := List.mem_range.mp hk
   exact ⟨h4q (by omega), i9c (by omega)⟩
  have bn : ∀ x ∈ bs, a6u x ∧ Str.ofString "zz" ≠ x := fun x hx => by
   rw [ebs] at hx
   obtain ⟨k, hk, rfl⟩ := List.mem_map.mp hx
   have hk := List.mem_range.mp hk
   exact ⟨h4q (by omega), i9c (by omega)⟩
  have tnd : ts.Nodup := by
   rw [ets, List.Nodup, List.pairwise_map]
   exact List.Pairwise.imp (fun h e => by have := h4r e; omega) List.pairwise_lt_range
  have bnd : bs.Nodup := by
   rw [ebs, List.Nodup, List.pairwise_map]
   exact List.Pairwise.imp (fun h e => by have := h4r e; omega) List.pairwise_lt_range
  have dj : ∀ x ∈ bs, x ∉ ts := fun x hx hy => by
   rw [ebs] at hx
   rw [ets] at hy
   obtain ⟨k, hk, rfl⟩ := List.mem_map.mp hx
   obtain ⟨j, hj, e⟩ := List.mem_map.mp hy
   have := List.mem_range.mp hj
   have := h4r e
   omega
  clear ets ebs n4 m6 n m
  have S02 := S1.trans S2
  have hS2 := S02.seq hS
  walk_at "rd"
  refine ⟨by omega, fun sd H3 n3 S3 h3 => ?_⟩
  obtain ⟨Mid4, in4, out4⟩ := d7r (fun σ' H' => ∃ (es : List Sd) (us : List V) (v5 v6 v7 v8 : Option V), σ' = [some (.ref a), some (.int hd), some (.ref t), some (.ref b), some (.ref sd), v5, v6, v7, v8, none, none, none] /\ Same H2 H' /\ H' sd = some (.lst us) /\ RpL H' (· ≠ sd) us (es.map dSd) /\ es.length <= 20 /\ ∀ e ∈ es, Hid ts bs e)
  try walk_at "rd"
  refine ⟨Mid4, ?_, ?_⟩
  ·walk_at "rd"
   refine ⟨_, S3.seq hS2, fun lc H4 n4 S4 h4 => ?_⟩
   rw [h1g] at h4
   have hmem : ∀ x ∈ d7q ns (some 2) (some 22), intBits x <= 1048576 := fun x hx => hbit x (h5x hx)
   have ml : (d7q ns (some 2) (some 22)).length <= 20 := by
    show (d7q ns (some ((2 : Nat) : Int)) (some ((22 : Nat) : Int))).length <= 20
    unfold d7q
    rw [HT.d8k, HT.d8k, List.length_take]
    omega
   generalize d7q ns (some 2) (some 22) = ms at h4 hmem ml
   try walk_at "rd"
   refine ⟨⟨_, SqL.of h4⟩, ?_⟩
   obtain ⟨Pv, pin, pout⟩ := d1s (fun i σ H' => ∃ (es : List Sd) (us : List V) (v5 v6 v7 v8 : Option V), σ = [some (.ref a), some (.int hd), some (.ref t), some (.ref b), some (.ref sd), v5, v6, v7, v8, none, none, none] /\ Same H2 H' /\ H' lc = some (.lst (ms.map V.int)) /\ H' sd = some (.lst us) /\ RpL H' (· ≠ sd) us (es.map dSd) /\ es.length <= i /\ ∀ e ∈ es, Hid ts bs e)
   refine a5q (xs := ms.map V.int) Pv (pin _ _ _ ⟨[], [], _, _, _, _, rfl, S3.trans S4, h4, S4 _ _ h3, .nil, Nat.le_refl _, fun e he => by cases he⟩) ?_ ?_ ?_
   ·intro i σ H5 hi hp
    obtain ⟨es, us, v5, v6, v7, v8, rfl, _, h5, _⟩ := pout _ _ _ hp
    exact SqL.of h5
   ·intro i v σ H5 hv hp
    obtain ⟨es, us, v5, v6, v7, v8, rfl, S5, h5, hsd, R5, el, hE⟩ := pout _ _ _ hp
    rw [List.getElem?_map] at hv
    obtain ⟨cc, hcc, rfl⟩ := Option.map_eq_some_iff.mp hv
    have bcc := hmem cc (List.mem_of_getElem? hcc)
    have hi := (List.getElem?_eq_some_iff.mp hcc).1
    have nls : lc ≠ sd := fun k => by rw [k, h3] at n4; cases n4
    clear hv hp h4 h3
    obtain ⟨MidM, inM, outM⟩ := d7r (fun σ' H' => ∃ M : Int, σ' = [some (.ref a), some (.int hd), some (.ref t), some (.ref b), some (.ref sd), some (.int cc), some (.int M), v7, v8, none, none, none] /\ H' = H5)
    try walk_at "rd"
    refine ⟨MidM, ?_, ?_⟩
    ·walk_at "rd"
     exact ⟨by walk_at "mul", by decide, inM _ _ ⟨_, rfl, rfl⟩⟩
    intro σ6 H6 hm6
    obtain ⟨M, rfl, rfl⟩ := outM _ _ hm6
    clear hm6 inM outM
    have ht6 := S5 _ _ ht2
    have hb6 := S5 _ _ hb
    obtain ⟨x0, ex0⟩ : ∃ x0 : Int, max 1 (bs.length : Int) = x0 := ⟨_, rfl⟩
    have fg := c8k M (b := x0) (by omega)
    obtain ⟨g, eg⟩ : ∃ g : Nat, M.fmod x0 = g := ⟨(M.fmod x0).toNat, by omega⟩
    have xz : ¬ x0 = 0 := by omega
    walk_at "rd*"
    refine fun l7 H7 n7 S7 h7 => ?_
    have e7 : d3k (bs.map V.str) none (some (g : Int)) = (bs.take g).map V.str := by
     show d7q (bs.map V.str) none (some (g : Int)) = _
     rw [g6e, f8y]
    rw [e7] at h7
    have ht7 := S7 _ _ ht6
    clear ht6 hb6
    have ttl : (bs.take g).length <= 6 := by rw [List.length_take]; omega
    walk_at "rd*"
    refine ⟨by omega, fun l8 H8 n8 S8 h8 => ?_⟩
    rw [<- List.map_append] at h8
    have S28 := S5.trans (S7.trans S8)
    have hb8 := S28 _ _ hb
    clear ht7 h7
    obtain ⟨nd, end'⟩ : ∃ nd, nd = ts ++ bs.take g := ⟨_, rfl⟩
    rw [<- end'] at h8
    have ndl : nd.length <= 10 := by rw [end', List.length_append]; omega
    have so : ∀ x ∈ nd, PyData.strOk x = true := fun x hx => by
     rw [end'] at hx
     rcases List.mem_append.mp hx with m | m
     ·exact b8g (tn x m).1
     ·exact b8g (bn x (List.mem_of_mem_take m)).1
    have stay : ∀ {H' v7}, Same H8 H' -> Pv (i + 1) [some (.ref a), some (.int hd), some (.ref t), some (.ref b), some (.ref sd), some (.int cc), some (.int M), v7, some (.ref l8), none, none, none] H' := fun S => by
     have S8' := S7.trans (S8.trans S)
     exact pin _ _ _ ⟨es, us, _, _, _, _, rfl, S28.trans S, S8' _ _ h5, S8' _ _ hsd, R5.same S8', by omega, hE⟩
    walk_at "rd"
    refine ⟨by omega, fun l9 H9 n9 S9 h9 => ?_⟩
    walk_at "rd"
    refine d1z (ns := bs) (ms := []) (SqL.of (S9 _ _ hb8)) (SqL.of h9) (fun x hx => b8g (bn x hx).1) (fun x hx => by cases hx) ?_
    by_cases b0 : bs = []
    ·rw [decide_eq_true b0]
     walk_at "rd"
     exact stay S9
    rw [decide_eq_false b0]
    walk_at "rd"
    refine ⟨by omega, fun l10 H10 n10 S10 h10 => ?_⟩
    walk_at "rd"
    have h4j := S9.trans S10
    refine d1z (ns := nd) (ms := []) (SqL.of (h4j _ _ h8)) (SqL.of h10) so (fun x hx => by cases hx) ?_
    by_cases d0 : nd = []
    ·rw [decide_eq_true d0]
     walk_at "rd"
     exact stay h4j
    rw [decide_eq_false d0]
    have ndp := List.length_pos_iff.mpr d0
    have bp := List.length_pos_iff.mpr b0
    have fj := c8k (M.fdiv 7) (b := (nd.length : Int)) (by omega)
    obtain ⟨j, ej⟩ : ∃ j : Nat, (M.fdiv 7).fmod (nd.length : Int) = j := ⟨((M.fdiv 7).fmod (nd.length : Int)).toNat, by omega⟩
    obtain ⟨x, hx⟩ : ∃ x, nd[j]? = some x := ⟨_, List.getElem?_eq_getElem (by omega)⟩
    obtain ⟨y, hy⟩ : ∃ y, bs[g]? = some y := ⟨_, List.getElem?_eq_getElem (by omega)⟩
    have a1 : atI (nd.map V.str) (j : Int) = some (.str x) := b9r (by rw [List.getElem?_map, hx]; rfl)
    have a2 : atI (bs.map V.str) (g : Int) = some (.str y) := b9r (by rw [List.getElem?_map, hy]; rfl)
    have z1 : ¬ (nd.length : Int) = 0 := by omega
    have j3c := S7.trans (S8.trans h4j)
    have i9d := j3c _ _ hsd
    have i4f := h4j _ _ hb8
    have h810 := h4j _ _ h8
    have my : y ∈ bs := List.mem_of_getElem? hy
    have mx : x ∈ ts \/ x ∈ bs.take g := by
     have := List.mem_of_getElem? hx
     rw [end'] at this
     exact List.mem_append.mp this
    clear hb8 h8 h9 h10 end' stay
    walk_at "rd*"
    refine ⟨⟨by decide, by decide⟩, ⟨by decide, by decide⟩, fun lw ws H11 n11 S11 h11 wk => ?_⟩
    intro pe H12 n12 S12 h12
    have i9e := S11.trans S12
    have j3d := i9e _ _ i9d
    clear i9d i4f h810
    have ul := R5.f9p
    walk_at "rd*"
    refine ⟨by omega, ?_⟩
    rintro _ H13 ⟨rfl, B13, h13⟩
    have j3e := j3c.trans i9e
    have nlw : lw ≠ sd := fun k => by rw [k, j3c _ _ hsd] at n11; cases n11
    refine pin _ _ _ ⟨es ++ [(x, y, ws)], _, _, _, _, _, rfl, (S5.trans j3e).step n3 B13, B13 _ _ nls (j3e _ _ h5), h13, ?_, by rw [List.length_append, List.length_singleton]; omega, fun e he => ?_⟩
    ·rw [List.map_append]
     exact ((R5.same j3e).snoc (.tup h12 (.cons (.str _) (.cons (.str _) (.cons (.lst nlw (S12 _ _ h11) (RpL.strs _)) .nil))))).put j3d (fun z => z rfl) B13
    ·rcases List.mem_append.mp he with m | m
     ·exact hE e m
     ·rw [List.mem_singleton.mp m]
      refine ⟨⟨wk, ?_, (bn y my).1⟩, g, hy, mx⟩
      rcases mx with m | m
      ·exact (tn x m).1
      ·exact (bn x (List.mem_of_mem_take m)).1
   ·intro σ H5 hp
    obtain ⟨es, us, v5, v6, v7, v8, rfl, S5, h5, hsd, R5, el, hE⟩ := pout _ _ _ hp
    rw [List.length_map] at el
    exact in4 _ _ ⟨es, us, _, _, _, _, rfl, S5, hsd, R5, by omega, hE⟩
  intro σ4 H4 hm4
  obtain ⟨es, us, v5, v6, v7, v8, rfl, S4, hsd, R4, el, hE⟩ := out4 _ _ hm4
  clear hm4 in4 out4 h3
  obtain ⟨Mid5, in5, out5⟩ := d7r (fun σ' H' => ∃ M : Int, σ' = [some (.ref a), some (.int hd), some (.ref t), some (.ref b), some (.ref sd), v5, some (.int M), v7, v8, none, none, none] /\ H' = H4)
  refine ⟨Mid5, ?_, ?_⟩
  ·have b1 := bc 1
   walk_at "rd"
   exact ⟨ns, S4.seq hS2, by walk_at "mul", by decide, in5 _ _ ⟨_, rfl, rfl⟩⟩
  intro σ5 H5 hm5
  obtain ⟨M, rfl, rfl⟩ := out5 _ _ hm5
  clear hm5 in5 out5
  walk_at "rd"
  refine ⟨by omega, fun ou H6 n6 S6 h6 => ?_⟩
  obtain ⟨Mid7, in7, out7⟩ := d7r (fun σ' H' => ∃ (os : List (Str × Int)) (us : List V) (v10 v11 : Option V), σ' = [some (.ref a), some (.int hd), some (.ref t), some (.ref b), some (.ref sd), v5, some (.int M), v7, v8, some (.ref ou), v10, v11] /\ Same H5 H' /\ H' ou = some (.lst us) /\ RpL H' (fun _ => False) us (os.map dOu) /\ os.length <= 6 /\ (∀ x ∈ os, x.1 ∈ bs /\ 1 <= x.2 /\ x.2 <= 1000000000000) /\ (os.map (·.1)).Nodup)
  try walk_at "rd"
  refine ⟨Mid7, ?_, ?_⟩
  ·have hb6 := S6 _ _ (S4 _ _ hb)
   walk_at "rd*"
   refine ⟨by omega, by omega, ?_⟩
   rw [Int.toNat_natCast]
   obtain ⟨Pv, pin, pout⟩ := d1s (fun i σ H' => ∃ (os : List (Str × Int)) (us : List V) (v10 v11 : Option V), σ = [some (.ref a), some (.int hd), some (.ref t), some (.ref b), some (.ref sd), v5, some (.int M), v7, v8, some (.ref ou), v10, v11] /\ Same H5 H' /\ H' ou = some (.lst us) /\ RpL H' (fun _ => False) us (os.map dOu) /\ os.length <= i /\ (∀ x ∈ os, x.1 ∈ bs.take i /\ 1 <= x.2 /\ x.2 <= 1000000000000) /\ (os.map (·.1)).Nodup)
   refine f3k (n := bs.length) Pv (pin _ _ _ ⟨[], [], _, _, rfl, S6, h6, .nil, Nat.le_refl _, (fun x hx => by cases hx), List.nodup_nil⟩) ?_ ?_
   ·intro i σ H7 hi hp
    obtain ⟨os, vs, v10, v11, rfl, S7, hou, R7, ol, hO, ond⟩ := pout _ _ _ hp
    have hb7 := S7 _ _ (S4 _ _ hb)
    clear hp hb6 h6
    rw [Int.zero_add]
    walk_at "rd*"
    refine ⟨by decide, by decide, by decide, fun l8 H8 n8 S8 h8 => ?_⟩
    have f5 := c8k (M.fdiv (64 + 7 * (i : Int))) (b := 5) (by decide)
    obtain ⟨c, hc, c1, c2⟩ : ∃ c : Int, atI [V.int 10, V.int 1000, V.int 1000000, V.int 1000000000, V.int 1000000000000] ((M.fdiv (64 + 7 * (i : Int))).fmod 5) = some (.int c) /\ 1 <= c /\ c <= 1000000000000 := by
     generalize (M.fdiv (64 + 7 * (i : Int))).fmod 5 = j at f5
     have : j = 0 \/ j = 1 \/ j = 2 \/ j = 3 \/ j = 4 := by omega
     rcases this with rfl | rfl | rfl | rfl | rfl
     ·exact ⟨_, rfl, by decide, by decide⟩
     ·exact ⟨_, rfl, by decide, by decide⟩
     ·exact ⟨_, rfl, by decide, by decide⟩
     ·exact ⟨_, rfl, by decide, by decide⟩
     ·exact ⟨_, rfl, by decide, by decide⟩
    clear f5
    obtain ⟨y, hy⟩ : ∃ y, bs[i]? = some y := ⟨_, List.getElem?_eq_getElem hi⟩
    have a2 : atI (bs.map V.str) (i : Int) = some (.str y) := b9r (by rw [List.getElem?_map, hy]; rfl)
    have hb8 := S8 _ _ hb7
    have j4y := S8 _ _ hou
    clear hb7
    have p2 : (1 : Int) * 2 ^ ((i : Int).toNat) = ((2 ^ i : Nat) : Int) := by rw [Int.one_mul, Int.toNat_natCast, Int.natCast_pow]; rfl
    have p3 : 2 ^ i <= 2 ^ 6 := Nat.pow_le_pow_right (by decide) (by omega)
    have p4 : 0 < 2 ^ i := Nat.pow_pos (by decide)
    have q0 : ¬ c = 0 := by omega
    have fq := c8k (M.fdiv (1000 + (i : Int))) (b := c) (by omega)
    generalize 2 ^ i = pw at p2 p3 p4
    have stay : ∀ {H'}, Same H8 H' -> Pv (i + 1) [some (.ref a), some (.int hd), some (.ref t), some (.ref b), some (.ref sd), v5, some (.int M), v7, v8, some (.ref ou), some (.int i), some (.int c)] H' := fun S => by
     have S8' := S8.trans S
     exact pin _ _ _ ⟨os, vs, _, _, rfl, S7.trans S8', S8' _ _ hou, R7.same S8', by omega, fun x hx => ⟨List.take_subset_take_left bs (Nat.le_succ i) (hO x hx).1, (hO x hx).2⟩, ond⟩
    walk_at "rd*"
    refine ⟨IntMulOk.of_left (intBits_le_64 (by omega) (by omega)), ⟨by omega, Nat.le_trans (intBits_le_64 (by omega) (by omega)) (by decide)⟩, ⟨by omega, by omega, by decide⟩, ⟨by omega, Nat.le_trans (intBits_le_64 (by omega) (by omega)) (by decide)⟩, ?_⟩
    split
    ·refine ⟨⟨by omega, Nat.le_trans (intBits_le_64 (by omega) (by omega)) (by decide)⟩, fun pe H9 n9 S9 h9 => ?_⟩
     have j3f := S9 _ _ j4y
     have vl := R7.f9p
     clear j4y hb8 h8
     walk_at "rd*"
     refine ⟨by omega, ?_⟩
     rintro _ H10 ⟨rfl, B10, h10⟩
     have S79 := S8.trans S9
     refine pin _ _ _ ⟨os ++ [(y, 1 + (M.fdiv (1000 + (i : Int))).fmod c)], _, _, _, rfl, (S7.trans S79).step n6 B10, h10, ?_, by rw [List.length_append, List.length_singleton]; omega, fun x hx => ?_, ?_⟩
     ·rw [List.map_append]
      exact ((R7.same S79).snoc (.tup h9 (.cons (.str _) (.cons (.int _) .nil)))).put j3f (fun z => z) B10
     ·rw [List.take_add_one, hy]
      rcases List.mem_append.mp hx with m | m
      ·exact ⟨List.mem_append_left _ (hO x m).1, (hO x m).2⟩
      ·rw [List.mem_singleton.mp m]
       exact ⟨List.mem_append_right _ List.mem_cons_self, by show 1 <= 1 + _; omega, by show 1 + _ <= 1000000000000; omega⟩
     ·rw [List.map_append]
      refine List.nodup_append.mpr ⟨ond, List.nodup_cons.mpr ⟨(fun h => by cases h), List.nodup_nil⟩, fun u hu v hv e => ?_⟩
      rw [List.map_singleton, List.mem_singleton] at hv
      obtain ⟨x, hx, rfl⟩ := List.mem_map.mp hu
      have hm := (hO x hx).1
      rw [e, hv] at hm
      obtain ⟨j, hj, ej⟩ := List.getElem_of_mem hm
      rw [List.length_take] at hj
      rw [List.getElem_take] at ej
      have := d1l bnd hy (show bs[j]? = some y by rw [List.getElem?_eq_getElem (by omega), ej])
      omega
    ·exact stay (Same.refl _)
   ·intro σ H7 hp
    obtain ⟨os, vs, v10, v11, rfl, S7, hou, R7, ol, hO, ond⟩ := pout _ _ _ hp
    exact in7 _ _ ⟨os, vs, _, _, rfl, S7, hou, R7, by omega, fun x hx => ⟨List.mem_of_mem_take (hO x hx).1, (hO x hx).2⟩, ond⟩
  intro σ7 H7 hm7
  obtain ⟨os, vs, v10, v11, rfl, S7, hou, R7, ol, hO, ond⟩ := out7 _ _ hm7
  clear hm7 in7 out7 h6
  have hb7 := S7 _ _ (S4 _ _ hb)
  have vl := R7.f9p
  walk_at "rd"
  refine ⟨by decide, ⟨by decide, by decide⟩, _, hb7, by rw [List.length_map]; omega, fun a1 b' H8 n8 S8 hb8 => ?_⟩
  refine ⟨by decide, ⟨by decide, by decide⟩, _, S8 _ _ hou, by omega, fun a2 ou' H9 n9 S9 j3f => ?_⟩
  refine ⟨by omega, fun pt H10 n10 S10 h10 => ?_⟩
  have S79 := S8.trans (S9.trans S10)
  have S49 := S7.trans S79
  have pb := g7a bs a1
  have po := g7a os a2
  have eb : abt (bs.map V.str) a1 = (abt bs a1).map V.str := h4s _ _ _
  refine q pt t b' sd ou' ⟨ts, abt bs a1, es, abt os a2⟩ H10 (S02.trans (S4.trans S49)) h10 ⟨(S4.trans S49) _ _ ht2, by rw [<- eb]; exact S10 _ _ (S9 _ _ hb8), ⟨us, S49 _ _ hsd, (R4.same S49).mono fun _ _ _ => trivial⟩, abt vs a2, S10 _ _ j3f, ?_⟩ ?_
  ·rw [<- h4s]
   have R9 := g2n (M := fun _ => True) (R7.same S79)
   exact RpL.app (RpL.rev (RpL.tk a2 R9).1) (RpL.tk a2 R9).2
  ·refine ⟨PdF.mk' (by show ts.length <= 90; omega) (by show (abt bs a1).length <= 90; rw [pb.length_eq]; omega) (by show es.length <= 90; omega) (by show (abt os a2).length <= 90; rw [po.length_eq]; omega) (fun x hx => (tn x hx).1) (fun x hx => (bn x (pb.mem_iff.mp hx)).1) (fun e he => (hE e he).1) (fun x hx => ?_), tnd, pb.nodup_iff.mpr bnd, fun x hx => dj x (pb.mem_iff.mp hx), fun h => (tn _ h).2 rfl, fun h => (bn _ (pb.mem_iff.mp h)).2 rfl, i3r bnd dj hE, fun e he => ?_, ((po.map (·.1)).nodup_iff).mpr ond, fun x hx => pb.mem_iff.mpr (hO x (po.mem_iff.mp hx)).1⟩
   ·obtain ⟨h1, h2, h3⟩ := hO x (po.mem_iff.mp hx)
    exact ⟨(bn _ h1).1, h2, h3⟩
   ·obtain ⟨_, g, hg, hm⟩ := hE e he
    exact ⟨hm.imp id fun m => pb.mem_iff.mpr (List.mem_of_mem_take m), pb.mem_iff.mpr (List.mem_of_getElem? hg)⟩
theorem f7s {g p : Pd} {α : Type} {f : α -> Ln} {xs : List α} {i : Nat} {x : α} {r : List Ln} (h : Tl g p ((xs.drop i).map f ++ r)) (hx : xs[i]? = some x) : (f x).fm /\ (f x).ok p /\ Tl g ((f x).app p) ((xs.drop (i + 1)).map f ++ r) := by
 obtain ⟨hi, e⟩ := List.getElem?_eq_some_iff.mp hx
 rw [List.drop_eq_getElem_cons hi, e] at h
 exact h
theorem g7b {g p : Pd} {α : Type} {f : α -> Ln} {xs : List α} {i : Nat} {r : List Ln} (h : Tl g p ((xs.drop i).map f ++ r)) (hi : i = xs.length) : Tl g p r := by
 subst hi
 rw [List.drop_length] at h
 exact h
theorem h4t (T : Tx K mg A) : a1k P A.wd K mg base CX0 13 A.b1h A.b3h ["_law_tracks", "_law_buses", "_law_sends", "_law_outs"] (f6v A) := by
 have c8q : a1k P A.wd K mg base CX0 1 _ _ _ _ := i8s T
 have a9w : a1k P A.wd K mg base CX0 3 _ _ _ _ := h4h T
 have d1i : a1k P A.wd K mg base CX0 3 _ _ _ _ := h9q T
 have c8n : a1k P A.wd K mg base CX0 12 _ _ _ _ := h4k T
 have d1j : a1k P A.wd K mg base CX0 4 _ _ _ _ := h9r T
 have a0r := T.a0r
 have a0i := T.a0i
 have a0l := T.a0l
 have a0k := T.a0k
 have a0m := T.a0m
 refine T.c0q.ok a5k (fun vs H Q E h => ?_) (fun cdv A' outer s H vs Q E hr h => ?_)
 ·obtain ⟨_, _, _, _, rfl, _⟩ := d3r (by unfold f6v at h; exact h)
  rfl
 ·obtain ⟨t, b, sd, ou, rfl, ⟨p, hL, hG, q⟩⟩ := d3r (by unfold f6v at h; exact h)
  have hu := hr.units
  have hs : sizeLine = 16777216 := sizeLine_eq
  have c6g : a2k 2 _ := hr.mono (by decide)
  have a7t : a2k 3 _ := hr.mono (by decide)
  have c8o : a2k 3 _ := hr.mono (by decide)
  have c5z : a2k 12 _ := hr.mono (by decide)
  have c8p : a2k 4 _ := hr.mono (by decide)
  obtain ⟨ht, hb, ⟨us, hsd, R1⟩, vs, hou, R2⟩ := hL
  have tl := hG.tl
  have l8 : ∀ e ∈ p.es, h7b e.2.2 := fun e he => (hG.f.s e he).1
  clear hG
  refine ⟨_, (a0j (a0v (i := 4) a5k.nd rfl (Or.inl rfl) (f9h T.f5z c8q c6g (by rfl) T.g6p T.d6t .nil a0t))
   (a2v (a7u PassesOwn.never rfl (a1m (pvF 0)) (a2m (i := 5) a5k.nd rfl (Or.inl rfl))
   (a0n (a2n (a8i (pvF 4) T.a0r T.a7s a9w a7t T.b8v .nil a0t (a0g (pvF 5) a0h)))))
   (a2v (a7u PassesOwn.never rfl (a1m (pvF 1)) (a2m (i := 5) a5k.nd rfl (Or.inl rfl))
   (a0n (a2n (a8i (pvF 4) T.a0r T.c1p d1i c8o T.f1g .nil a0t (a0g (pvF 5) a0h)))))
   (a2v (a7u PassesOwn.never rfl (a1m (pvF 2)) (d3p (n := 3) rfl (a4j (a2m (i := 6) a5k.nd rfl (Or.inl rfl)) (a4j (a2m (i := 7) a5k.nd rfl (Or.inl rfl)) (a4j (a2m (i := 8) a5k.nd rfl (Or.inl rfl)) c8t))))
   (a0n (a2n (a8i (pvF 4) T.a0r T.b8l c8n c5z T.d6u .nil a0t (a0g (pvF 6) (a0g (pvF 7) (a0g (a4h c2t (by rfl) T.f1l boot_list (a0g (pvF 8) a0h)) a0h)))))))
   (a2v (a7u PassesOwn.never rfl (a1m (pvF 3)) (d3p (n := 2) rfl (a4j (a2m (i := 5) a5k.nd rfl (Or.inl rfl)) (a4j (a2m (i := 9) a5k.nd rfl (Or.inl rfl)) c8t)))
   (a0n (a2n (a8i (pvF 4) T.a0r T.c1q d1j c8p T.f1h .nil a0t (a0g (pvF 5) (a0g (pvF 9) a0h))))))
   (a0n (a0z (pvF 4)))))))), ?_⟩
  walk_at "rd"
  intro o dx H1 n1 n1' nx S1 hdx ho
  refine ⟨dx, ho, fun H2 B2 hP => ?_⟩
  rw [asNew]
  refine ⟨rfl, ?_⟩
  have S2 : Same H H2 := fun z u e => B2 _ _ (fun ze => by rw [ze] at e; rw [e] at n1; cases n1) (S1 _ _ e)
  have P2 : c1g A H2 (fun a => H a = none) o Pd0 := hP.mono fun z hz _ => S1.free hz
  clear hP hdx ho B2 S1 n1 n1' nx
  walk_at "rd"
  obtain ⟨J, jin, jout⟩ : ∃ J : List Ln -> L2.St -> Hp -> Prop, (∀ r σ H', (∃ (v5 v6 v7 v8 v9 : Option V) (p' : Pd), σ = [some (V.ref t), some (V.ref b), some (V.ref sd), some (V.ref ou), some (V.ref o), v5, v6, v7, v8, v9] /\ Same H H' /\ c1g A H' (fun a => H a = none) o p' /\ Tl p p' r) -> J r σ H') /\ (∀ r σ H', J r σ H' -> ∃ (v5 v6 v7 v8 v9 : Option V) (p' : Pd), σ = [some (V.ref t), some (V.ref b), some (V.ref sd), some (V.ref ou), some (V.ref o), v5, v6, v7, v8, v9] /\ Same H H' /\ c1g A H' (fun a => H a = none) o p' /\ Tl p p' r) := ⟨_, fun _ _ _ h => h, fun _ _ _ h => h⟩
  have hJ := jin _ _ _ ⟨none, none, none, none, none, _, rfl, S2, P2, tl⟩
  clear tl P2 S2
  generalize [some (V.ref t), some (V.ref b), some (V.ref sd), some (V.ref ou), some (V.ref o), none, none, none, none, none] = σ0 at hJ ⊢
  refine ⟨J (p.bs.map .bu ++ (p.es.map .se ++ p.os.map .ou)), ?_, ?_⟩
  ·obtain ⟨v5, v6, v7, v8, v9, p', rfl, S', P', t'⟩ := jout _ _ _ hJ
   have hl' := S' _ _ ht
   walk_at "rd*"
   refine ⟨⟨_, SqL.of hl'⟩, ?_⟩
   refine a5q (xs := p.ts.map V.str) (fun i => J ((p.ts.drop i).map .tr ++ (p.bs.map .bu ++ (p.es.map .se ++ p.os.map .ou)))) (jin _ _ _ ⟨_, _, _, _, _, _, rfl, S', P', t'⟩) ?_ ?_ ?_
   ·intro i σ H3 hi hp
    obtain ⟨v5, v6, v7, v8, v9, p', rfl, S', P', t'⟩ := jout _ _ _ hp
    exact SqL.of (S' _ _ ht)
   ·intro i v σ H3 hv hp
    obtain ⟨w5, w6, w7, w8, w9, p3, rfl, S3, P3, t3⟩ := jout _ _ _ hp
    rw [List.getElem?_map] at hv
    obtain ⟨x, hx, rfl⟩ := Option.map_eq_some_iff.mp hv
    obtain ⟨f3, o3, t4⟩ := f7s t3 hx
    obtain ⟨dx3, t0, b0, sd0, ou0, ho3, _⟩ := id P3
    unfold ptF at ho3
    clear hl' hv hp
    walk_at "rd*"
    exact ⟨_, p3, P3, f3, o3.1, o3.2.1, Nat.le_trans o3.2.2 (by decide), fun H4 S4 P4 => jin _ _ _ ⟨_, _, _, _, _, _, rfl, h7r S3 S4, P4, t4⟩⟩
   ·intro σ H3 hp
    obtain ⟨v5, v6, v7, v8, v9, p', rfl, S', P', t'⟩ := jout _ _ _ hp
    exact jin _ _ _ ⟨_, _, _, _, _, _, rfl, S', P', g7b t' (by rw [List.length_map])⟩
  clear hJ
  intro σ1 Hx1 hJ
  refine ⟨J (p.es.map .se ++ p.os.map .ou), ?_, ?_⟩
  ·obtain ⟨v5, v6, v7, v8, v9, p', rfl, S', P', t'⟩ := jout _ _ _ hJ
   have hl' := S' _ _ hb
   walk_at "rd*"
   refine ⟨⟨_, SqL.of hl'⟩, ?_⟩
   refine a5q (xs := p.bs.map V.str) (fun i => J ((p.bs.drop i).map .bu ++ (p.es.map .se ++ p.os.map .ou))) (jin _ _ _ ⟨_, _, _, _, _, _, rfl, S', P', t'⟩) ?_ ?_ ?_
   ·intro i σ H3 hi hp
    obtain ⟨v5, v6, v7, v8, v9, p', rfl, S', P', t'⟩ := jout _ _ _ hp
    exact SqL.of (S' _ _ hb)
   ·intro i v σ H3 hv hp
    obtain ⟨w5, w6, w7, w8, w9, p3, rfl, S3, P3, t3⟩ := jout _ _ _ hp
    rw [List.getElem?_map] at hv
    obtain ⟨x, hx, rfl⟩ := Option.map_eq_some_iff.mp hv
    obtain ⟨f3, o3, t4⟩ := f7s t3 hx
    obtain ⟨dx3, t0, b0, sd0, ou0, ho3, _⟩ := id P3
    unfold ptF at ho3
    clear hl' hv hp
    walk_at "rd*"
    exact ⟨_, p3, P3, f3, o3.1, o3.2.1, Nat.le_trans o3.2.2 (by decide), fun H4 S4 P4 => jin _ _ _ ⟨_, _, _, _, _, _, rfl, h7r S3 S4, P4, t4⟩⟩
   ·intro σ H3 hp
    obtain ⟨v5, v6, v7, v8, v9, p', rfl, S', P', t'⟩ := jout _ _ _ hp
    exact jin _ _ _ ⟨_, _, _, _, _, _, rfl, S', P', g7b t' (by rw [List.length_map])⟩
  clear hJ
  intro σ2 Hx2 hJ
  refine ⟨J (p.os.map .ou), ?_, ?_⟩
  ·obtain ⟨v5, v6, v7, v8, v9, p', rfl, S', P', t'⟩ := jout _ _ _ hJ
   have hl' := S' _ _ hsd
   walk_at "rd*"
   refine ⟨⟨_, SqL.of hl'⟩, ?_⟩
   refine a5q (xs := us) (fun i => J ((p.es.drop i).map .se ++ (p.os.map .ou))) (jin _ _ _ ⟨_, _, _, _, _, _, rfl, S', P', t'⟩) ?_ ?_ ?_
   ·intro i σ H3 hi hp
    obtain ⟨v5, v6, v7, v8, v9, p', rfl, S', P', t'⟩ := jout _ _ _ hp
    exact SqL.of (S' _ _ hsd)
   ·intro i v σ H3 hv hp
    obtain ⟨w5, w6, w7, w8, w9, p3, rfl, S3, P3, t3⟩ := jout _ _ _ hp
    obtain ⟨e, pe, lw, hx, rfl, hpe, _, hlw⟩ := R1.at3 hv
    have hp3 := S3 _ _ hpe
    have hw3 := S3 _ _ hlw
    obtain ⟨ds, ed, d8, dok, _⟩ := l8 e (List.mem_of_getElem? hx)
    obtain ⟨f3, o3, t4⟩ := f7s t3 hx
    obtain ⟨dx3, t0, b0, sd0, ou0, ho3, _⟩ := id P3
    unfold ptF at ho3
    clear hl' hv hp
    walk_at "rd*"
    refine fun l4 H4 n4 S4 h4 => ?_
    walk_at "rd"
    have P4 := P3.same S4
    refine ⟨_, p3, P4, ds, by rw [h4, List.map_map]; rfl, d8, dok, o3.1, o3.2.1, o3.2.2.1, Nat.le_trans o3.2.2.2.1 (by decide), b8g f3.2.2, fun f hf => b8g (o3.2.2.2.2 f hf), fun H5 S5 P5 => jin _ _ _ ⟨_, _, _, _, _, _, rfl, h7r (S3.trans S4) S5, ?_, t4⟩⟩
    rw [<- ed] at P5
    exact P5.mono fun z hz _ => hz.elim id fun k => (S3.trans S4).free k
   ·intro σ H3 hp
    obtain ⟨v5, v6, v7, v8, v9, p', rfl, S', P', t'⟩ := jout _ _ _ hp
    exact jin _ _ _ ⟨_, _, _, _, _, _, rfl, S', P', g7b t' (R1.f9p)⟩
  clear hJ
  intro σ3 Hx3 hJ
  refine ⟨J ([]), ?_, ?_⟩
  ·obtain ⟨v5, v6, v7, v8, v9, p', rfl, S', P', t'⟩ := jout _ _ _ hJ
   rw [<- List.append_nil (p.os.map Ln.ou)] at t'
   have hl' := S' _ _ hou
   walk_at "rd*"
   refine ⟨⟨_, SqL.of hl'⟩, ?_⟩
   refine a5q (xs := vs) (fun i => J ((p.os.drop i).map .ou ++ ([]))) (jin _ _ _ ⟨_, _, _, _, _, _, rfl, S', P', t'⟩) ?_ ?_ ?_
   ·intro i σ H3 hi hp
    obtain ⟨v5, v6, v7, v8, v9, p', rfl, S', P', t'⟩ := jout _ _ _ hp
    exact SqL.of (S' _ _ hou)
   ·intro i v σ H3 hv hp
    obtain ⟨w5, w6, w7, w8, w9, p3, rfl, S3, P3, t3⟩ := jout _ _ _ hp
    obtain ⟨x, pe, hx, rfl, hpe⟩ := R2.at2 hv
    have hp3 := S3 _ _ hpe
    obtain ⟨f3, o3, t4⟩ := f7s t3 hx
    obtain ⟨dx3, t0, b0, sd0, ou0, ho3, _⟩ := id P3
    unfold ptF at ho3
    clear hl' hv hp
    walk_at "rd*"
    rw [List.append_nil] at t4
    exact ⟨_, p3, P3, o3.1, o3.2.1, f3.2.1, f3.2.2, Nat.le_trans o3.2.2 (by decide), fun H4 S4 P4 => jin _ _ _ ⟨_, _, _, _, _, _, rfl, h7r S3 S4, P4, t4⟩⟩
   ·intro σ H3 hp
    obtain ⟨v5, v6, v7, v8, v9, p', rfl, S', P', t'⟩ := jout _ _ _ hp
    exact jin _ _ _ ⟨_, _, _, _, _, _, rfl, S', P', g7b t' (R2.f9p)⟩
  clear hJ
  intro σ4 Hx4 hJ
  obtain ⟨v5, v6, v7, v8, v9, p', rfl, S', P', t'⟩ := jout _ _ _ hJ
  have t' : p' = p := t'
  subst t'
  walk_at "rd"
  exact q o _ S' P'
theorem f7t {K : PySem.W.Frag} {a D : Addr} {ss : List Str} {s : Str} {σ : L2.St} {H0 H : Hp} {Q : VK} (f : Str -> Ln) (hf : ∀ x, s ++ x = (f x).line) (n0 : H0 D = none) (S : Same H0 H) (hD : H D = some (.lst [])) (hS : H0 a = some (.lst (ss.map V.str))) (hl : ss.length <= 90) (hn : ∀ x ∈ ss, a6u x) (sl : s.length <= 8) (q : ∀ H', Same H0 H' -> H' D = some (.lst (ss.map fun x => V.str (f x).line)) -> Q (.ref D) H') : d7i (Itl K a) (tOp h0y (tC (V.str s)) (d1q 0)) D σ H Q ⟨⟩ := by
 have hs : sizeLine = 16777216 := sizeLine_eq
 refine c1m (ss.map fun x => V.str (f x).line) (by rw [List.length_map, List.length_map]) n0 S hD (SqL.of hS) (by rw [List.length_map]; omega) ?_ q
 intro i v z H' Q' hx hz S' q'
 rw [List.getElem?_map] at hx hz
 obtain ⟨x, hi, rfl⟩ := Option.map_eq_some_iff.mp hx
 rw [hi] at hz
 cases hz
 have nl := (hn x (List.mem_of_getElem? hi)).1
 walk_at "rd"
 rw [hf]
 exact ⟨by omega, q'⟩
theorem h4u {K : PySem.W.Frag} {a D : Addr} {os : List (Str × Int)} {us : List V} {σ : L2.St} {H0 H : Hp} {Q : VK} {N : Addr → Prop} (n0 : H0 D = none) (S : Same H0 H) (hD : H D = some (.lst [])) (hS : H0 a = some (.lst us)) (R : RpL H0 N us (os.map dOu)) (hl : os.length ≤ 90) (hn : ∀ x ∈ os, (Ln.ou x).fm) (q : ∀ H', Same H0 H' → H' D = some (.lst (os.map fun x => V.str (Ln.ou x).line)) → Q (.ref D) H') : f9i (Itl K a) (tOp h0y (tOp h0y (tOp h0y (tC (V.str (Str.ofString "out "))) (d1q 0)) (tC (V.str (Str.ofString " ")))) (tCB i6m (i5g (d1q 1) h4w))) D σ H Q ⟨⟩ := by
 have hs : sizeLine = 16777216 := sizeLine_eq
 have ul := R.f9p
 refine g2j (xs := us) (fun i ys H' => Same H0 H' /\ H' D = some (.lst ys) /\ ys = (os.take i).map fun x => V.str (Ln.ou x).line) ⟨S, hD, rfl⟩ (by omega) ?_ ?_ ?_
 ·intro i ys H' hi ⟨S', h', e⟩
  exact ⟨h', SqL.of (S' _ _ hS), by rw [e, List.length_map, List.length_take]; omega⟩
 ·intro i x ys H' hx ⟨S', h', e⟩
  obtain ⟨y, pe, he, rfl, hpe⟩ := R.at2 hx
  refine ⟨pe, _, _, rfl, S' _ _ hpe, ?_⟩
  obtain ⟨f1, f2, f3⟩ := hn y (List.mem_of_getElem? he)
  have a := i3g f2 f3
  have b := f1.1
  have g0 := c2w (t := y.2) (n := 41) (by omega) (by decide)
  have e1 : (Str.ofString "out ").length = 4 := by decide +kernel
  have e2 : (Str.ofString " ").length = 1 := by decide +kernel
  have w := j4x y
  walk_at "rd"
  simp only [strLen_append, e1, e2]
  rw [w]
  refine ⟨by omega, by omega, by omega, by omega, h', fun H2 B2 h2 => ⟨S'.step n0 B2, h2, ?_⟩⟩
  rw [e, List.take_add_one, he, List.map_append]
  rfl
 ·intro ys H' ⟨S', h', e⟩
  rw [ul, List.take_length] at e
  subst e
  exact q H' S' h'
theorem g1m (T : Tx K mg A) : a1k P A.wd K mg base CX0 1 A.b1i A.b3i ["_law_tracks", "_law_buses", "_law_sends", "_law_outs"] f6w := by
 refine T.b1k.ok a6g (fun vs H Q E h => ?_) (fun cdv A' outer s H vs Q E hr h => ?_)
 ·obtain ⟨_, _, _, _, rfl, _⟩ := d3r (by unfold f6w at h; exact h)
  rfl
 ·obtain ⟨t, b, sd, ou, rfl, ⟨p, hL, hF, q⟩⟩ := d3r (by unfold f6w at h; exact h)
  have hu := hr.units
  have hs : sizeLine = 16777216 := sizeLine_eq
  obtain ⟨ht, hb, ⟨us, hsd, R1⟩, vs, hou, R2⟩ := hL
  have e1 : (Str.ofString "track ").length = 6 := by decide +kernel
  have e2 : (Str.ofString "bus ").length = 4 := by decide +kernel
  have e3 : (Str.ofString "send ").length = 5 := by decide +kernel
  have e4 : (Str.ofString "out ").length = 4 := by decide +kernel
  have e5 : (Str.ofString " ").length = 1 := by decide +kernel
  have lt := hF.lt
  have lb := hF.lb
  have le := hF.le
  have lo := hF.lo
  have ul := R1.f9p
  have vl := R2.f9p
  refine ⟨_, (a2v (a0v (i := 4) a6g.nd rfl (Or.inl rfl) (a1i a1j (a4w (a1m (pvF 0)) (fun _ _ _ _ _ => (a1i a1j a0w (pvF 0))) (b3n (sc := a0p b9u) (N := ["_law_tracks", "_law_buses", "_law_sends", "_law_outs", "_law_lines_here", "_law_source", "_law_goal", "_law_words_here", "_law_line", "_law_word"]) rfl rfl (by decide +kernel)) rfl) (a4w (a1m (pvF 1)) (fun _ _ _ _ _ => (a1i a1j a0w (pvF 0))) (b3n (sc := a0p b9u) (N := ["_law_tracks", "_law_buses", "_law_sends", "_law_outs", "_law_lines_here", "_law_source", "_law_goal", "_law_words_here", "_law_line", "_law_word"]) rfl rfl (by decide +kernel)) rfl)))
   (a2v (a7u PassesOwn.never rfl (a1m (pvF 2)) (d3p (n := 3) rfl (a4j (a2m (i := 5) a6g.nd rfl (Or.inl rfl)) (a4j (a2m (i := 6) a6g.nd rfl (Or.inl rfl)) (a4j (a2m (i := 7) a6g.nd rfl (Or.inl rfl)) c8t))))
   (a0j (a0v (i := 8) a6g.nd rfl (Or.inl rfl) (a1i a1j (a1i a1j (a1i a1j a0w (pvF 5)) a0w) (pvF 6)))
   (a0j (a7u PassesOwn.never rfl (a1m (pvF 7)) (a2m (i := 9) a6g.nd rfl (Or.inl rfl))
   (a0n (a0v (i := 8) a6g.nd rfl (Or.inl rfl) (a1i a1j (a1i a1j (pvF 8) a0w) (pvF 9)))))
   (a0n (a2n (a5p a8h PySem.F.plainAttrs_list PySem.F.slot_list_append PySem.F.type_list_append a4m (pvF 4) (a0g (pvF 8) a0h)))))))
   (a0n (a0z (a1i a1j (pvF 4) (f5m (a1m (pvF 3)) (fun _ _ _ _ _ => (a1i a1j (a1i a1j (a1i a1j a0w (pvF 0)) a0w) (a4h d1v (by rfl) T.f6m boot_str (a0g (pvF 1) a0h)))) (h1q (sc := a0p b9u) (N := ["_law_tracks", "_law_buses", "_law_sends", "_law_outs", "_law_lines_here", "_law_source", "_law_goal", "_law_words_here", "_law_line", "_law_word"]) rfl rfl (by decide +kernel)) rfl)))))), ?_⟩
  obtain ⟨Mid0, in0, out0⟩ := d7r (fun σ' H' => ∃ l : Addr, σ' = [some (.ref t), some (.ref b), some (.ref sd), some (.ref ou), some (.ref l), none, none, none, none, none] /\ Same H H' /\ H l = none /\ H' l = some (.lst ((p.ts.map fun x => V.str (Ln.tr x).line) ++ p.bs.map fun x => V.str (Ln.bu x).line)))
  refine ⟨Mid0, ?_, ?_⟩
  ·walk_at "rd*"
   refine ⟨⟨_, SqL.of ht⟩, fun D H1 n1 S1 h1 => ?_⟩
   refine f7t .tr j3a n1 S1 h1 ht lt hF.t (by omega) fun H2 S2 h2 => ?_
   have hb2 := S2 _ _ hb
   clear h1
   walk_at "rd*"
   refine ⟨⟨_, SqL.of hb2⟩, fun D2 H3 n3 S3 h3 => ?_⟩
   refine f7t .bu i9v n3 S3 h3 hb2 lb hF.b (by omega) fun H4 S4 h4 => ?_
   have h24 := S4 _ _ h2
   clear h3 h2
   walk_at "rd*"
   refine ⟨by omega, fun l5 H5 n5 S5 h5 => ?_⟩
   try walk_at "rd"
   exact in0 _ _ ⟨l5, rfl, S2.trans (S4.trans S5), S2.free (S4.free n5), h5⟩
  intro σ0 H3 hm0
  obtain ⟨l, rfl, S3, nl, h3⟩ := out0 _ _ hm0
  clear hm0 in0 out0
  obtain ⟨Mid1, in1, out1⟩ := d7r (fun σ' H' => ∃ v5 v6 v7 v8 v9 : Option V, σ' = [some (.ref t), some (.ref b), some (.ref sd), some (.ref ou), some (.ref l), v5, v6, v7, v8, v9] /\ Same H H' /\ H' l = some (.lst (((p.ts.map fun x => V.str (Ln.tr x).line) ++ p.bs.map fun x => V.str (Ln.bu x).line) ++ p.es.map fun x => V.str (Ln.se x).line)))
  refine ⟨Mid1, ?_, ?_⟩
  ·have j4z := S3 _ _ hsd
   walk_at "rd*"
   refine ⟨⟨_, SqL.of j4z⟩, ?_⟩
   obtain ⟨Pv, pin, pout⟩ := d1s (fun i σ H' => ∃ v5 v6 v7 v8 v9 : Option V, σ = [some (.ref t), some (.ref b), some (.ref sd), some (.ref ou), some (.ref l), v5, v6, v7, v8, v9] /\ Same H H' /\ H' l = some (.lst (((p.ts.map fun x => V.str (Ln.tr x).line) ++ p.bs.map fun x => V.str (Ln.bu x).line) ++ (p.es.take i).map fun x => V.str (Ln.se x).line)))
   refine a5q (xs := us) Pv (pin _ _ _ ⟨_, _, _, _, _, rfl, S3, by rw [h3]; simp⟩) ?_ ?_ ?_
   ·intro i σ H4 hi hp
    obtain ⟨v5, v6, v7, v8, v9, rfl, S4, _⟩ := pout _ _ _ hp
    exact SqL.of (S4 _ _ hsd)
   ·intro i v σ H4 hv hp
    obtain ⟨v5, v6, v7, v8, v9, rfl, S4, h4⟩ := pout _ _ _ hp
    obtain ⟨e, pe, lw, he, rfl, hpe, _, hlw⟩ := R1.at3 hv
    have hp4 := S4 _ _ hpe
    have hw4 := S4 _ _ hlw
    obtain ⟨f1, f2, f3⟩ := hF.s e (List.mem_of_getElem? he)
    have a2 := f2.1
    have a3 := f3.1
    have wl := f1.len
    have hi := (List.getElem?_eq_some_iff.mp hv).1
    clear hv hp j4z
    walk_at "rd*"
    simp only [strLen_append, e3, e5]
    refine ⟨by omega, by omega, by omega, ⟨_, SqL.of hw4⟩, ?_⟩
    rw [w_se]
    have fm : (Ln.se e).fm := ⟨f1, f2, f3⟩
    obtain ⟨Pw, win, wout⟩ := d1s (fun j σ H' => ∃ v9 : Option V, σ = [some (.ref t), some (.ref b), some (.ref sd), some (.ref ou), some (.ref l), some (.str e.1), some (.str e.2.1), some (.ref lw), some (.str (Str.join ⟨#[32]⟩ (Str.ofString "send" :: e.1 :: e.2.1 :: e.2.2.take j))), v9] ∧ H4 = H')
    refine a5q (xs := e.2.2.map V.str) Pw (win _ _ _ ⟨_, rfl, rfl⟩) ?_ ?_ ?_
    ·intro j σ H5 hj hp
     obtain ⟨v9', rfl, rfl⟩ := wout _ _ _ hp
     exact SqL.of hw4
    ·intro j v σ H5 hv hp
     obtain ⟨v9', rfl, rfl⟩ := wout _ _ _ hp
     rw [List.getElem?_map] at hv
     obtain ⟨x, hx, rfl⟩ := Option.map_eq_some_iff.mp hv
     have xl := wl.1 x (List.mem_of_getElem? hx)
     have jl := d1w (z := ⟨#[32]⟩) (ps := Str.ofString "send" :: e.1 :: e.2.1 :: e.2.2.take j) (n := 4000) fun z hz => (Ln.lens fm).1 z (by
      show z ∈ Str.ofString "send" :: e.1 :: e.2.1 :: e.2.2
      simp only [List.mem_cons] at hz ⊢
      exact hz.imp id (Or.imp id (Or.imp id List.mem_of_mem_take)))
     rw [b4o, List.length_cons, List.length_cons, List.length_cons, List.length_take] at jl
     have jn := join_snoc ⟨#[32]⟩ (Str.ofString "send") (e.1 :: e.2.1 :: e.2.2.take j) x
     obtain ⟨y, ey⟩ : ∃ y, y = Str.join ⟨#[32]⟩ (Str.ofString "send" :: e.1 :: e.2.1 :: e.2.2.take j) := ⟨_, rfl⟩
     rw [<- ey] at jl jn ⊢
     rw [j2x]
     clear hv hp
     walk_at "rd"
     simp only [strLen_append, b4o]
     have w8 := wl.2
     refine ⟨by omega, by omega, win _ _ _ ⟨some (.str x), ?_, rfl⟩⟩
     rw [jn, List.take_add_one, hx]
     rfl
    ·intro σ H5 hp
     obtain ⟨v9', rfl, rfl⟩ := wout _ _ _ hp
     rw [List.length_map, List.take_length]
     clear hp hw4 hp4
     walk_at "rd*"
     refine ⟨by rw [List.length_take]; omega, ?_⟩
     rintro _ H6 ⟨rfl, B6, h6⟩
     refine pin _ _ _ ⟨_, _, _, _, _, rfl, S4.step nl B6, ?_⟩
     rw [h6, List.take_add_one, he, List.map_append, <- List.append_assoc]
     rfl
   ·intro σ H4 hp
    obtain ⟨v5, v6, v7, v8, v9, rfl, S4, h4⟩ := pout _ _ _ hp
    rw [ul, List.take_length] at h4
    exact in1 _ _ ⟨_, _, _, _, _, rfl, S4, h4⟩
  intro σ1 H4 hm1
  obtain ⟨v5, v6, v7, v8, v9, rfl, S4, h4⟩ := out1 _ _ hm1
  clear hm1 in1 out1 h3
  have j5a := S4 _ _ hou
  walk_at "rd*"
  refine ⟨⟨_, SqL.of j5a⟩, fun D H5 n5 S5 h5 => ?_⟩
  refine h4u n5 S5 h5 j5a (R2.same S4) lo hF.o fun H6 S6 h6 => ?_
  have h46 := S6 _ _ h4
  clear h4 h5
  walk_at "rd*"
  refine ⟨by omega, fun l7 H7 n7 S7 h7 => ?_⟩
  refine q l7 H7 (S4.free (S6.free n7)) (S4.trans (S6.trans S7)) ?_
  rw [h7]
  simp only [lns, List.map_append, List.map_map, List.append_assoc]
  rfl
theorem h7x (T : Tx K mg A) : a1k P A.wd K mg base CX0 2 A.b6j A.b6k ["_law_patch_here", "_law_tracks", "_law_buses", "_law_sends", "_law_outs"] (g4t A) := by
 have b0k : a1k P A.wd K mg base CX0 1 _ _ _ _ := f1y T
 have c5v : a1k P A.wd K mg base CX0 1 _ _ _ _ := g6x T
 have c5w : a1k P A.wd K mg base CX0 1 _ _ _ _ := g6y T
 have c8m : a1k P A.wd K mg base CX0 1 _ _ _ _ := h4l T
 have a0r := T.a0r
 have a0i := T.a0i
 have a0l := T.a0l
 have a0k := T.a0k
 have a0m := T.a0m
 refine T.b6s.ok g2u (fun vs H Q E h => ?_) (fun cdv A' outer s H vs Q E hr h => ?_)
 ·obtain ⟨_, _, _, _, _, rfl, _⟩ := g6o (by unfold g4t at h; exact h)
  rfl
 ·obtain ⟨o, t, b, sd, ou, rfl, ⟨N, p, hP, hL, hF, hO, q⟩⟩ := g6o (by unfold g4t at h; exact h)
  have hu := hr.units
  have hs : sizeLine = 16777216 := sizeLine_eq
  have a8t : a2k 1 _ := hr.mono (by decide)
  have c2q : a2k 1 _ := hr.mono (by decide)
  have c2r : a2k 1 _ := hr.mono (by decide)
  have c5y : a2k 1 _ := hr.mono (by decide)
  obtain ⟨ht, hb, ⟨us, hsd, R1⟩, vs, hou, R2⟩ := hL
  obtain ⟨dx, t0, b0, sd0, ou0, ho, F⟩ := id hP
  unfold ptF at ho
  refine ⟨_, (a0n (a0z (c9t (b1l hu) (a2g (a0g (a1w (pvF 0) T.a0r T.a8q b0k a8t T.c2p .nil a0t) (a0g (a1w (pvF 0) T.a0r T.b6w c5v c2q T.d2u .nil a0t) (a0g (a1w (pvF 0) T.a0r T.b6y c5w c2r T.d2v .nil a0t) (a0g (a1w (pvF 0) T.a0r T.b8m c8m c5y T.d6v .nil a0t) a0h))))) (a2g (a0g (pvF 1) (a0g (pvF 2) (a0g (pvF 3) (a0g (pvF 4) a0h))))) (a1q _)))), ?_⟩
  walk_at "rd*"
  refine ⟨N, p, hP, Nat.le_trans hF.lt (by decide), ?_⟩
  rintro _ H1 ⟨l1, rfl, n1, S1, h1⟩
  have ho1 := S1 _ _ ho
  clear ho
  walk_at "rd*"
  refine ⟨N, p, hP.same S1, Nat.le_trans hF.lb (by decide), ?_⟩
  rintro _ H2 ⟨l2, rfl, n2, S2, h2⟩
  have ho2 := S2 _ _ ho1
  clear ho1
  have S02 := S1.trans S2
  walk_at "rd*"
  refine ⟨N, p, hP.same S02, Nat.le_trans hF.le (by decide), fun e he => Nat.le_trans (hF.s e he).1.len.2 (by decide), fun l3 us3 H3 n3 S3 h3 R3 => ?_⟩
  have ho3 := S3 _ _ ho2
  clear ho2
  have S03 := S02.trans S3
  walk_at "rd*"
  refine ⟨N, p, hP.same S03, Nat.le_trans hF.lo (by decide), fun l4 us4 H4 n4 S4 h4 R4 => ?_⟩
  clear ho3
  intro L1 H5 n5 S5 h5
  walk_at "rd"
  refine ⟨by omega, fun L6 H6 n6 S6 h6 => ?_⟩
  have S36 := S4.trans (S5.trans S6)
  have S46 := S5.trans S6
  have S06 := S03.trans S36
  walk_at "rd"
  have r1 : Rp H6 (fun _ => True) (.ref L1) (dPd p) := .lst trivial (S6 _ _ h5) (.cons (.lst trivial ((S2.trans (S3.trans S36)) _ _ h1) (RpL.strs _)) (.cons (.lst trivial ((S3.trans S36) _ _ h2) (RpL.strs _)) (.cons (.lst trivial (S36 _ _ h3) ((R3.same S36).mono fun _ _ _ => trivial)) (.cons (.lst trivial (S46 _ _ h4) ((R4.same S46).mono fun _ _ _ => trivial)) .nil))))
  have r2 : Rp H6 (fun _ => True) (.ref L6) (dPd p) := .lst trivial h6 (.cons (.lst trivial (S06 _ _ ht) (RpL.strs _)) (.cons (.lst trivial (S06 _ _ hb) (RpL.strs _)) (.cons (.lst trivial (S06 _ _ hsd) (R1.same S06)) (.cons (.lst trivial (S06 _ _ hou) (R2.same S06)) .nil))))
  exact r1.eq r2 hO.k (by decide) (q H6 S06)
theorem g1n (q : Str -> Bool) (ss : List Str) : (ss.map V.str).filter (pvS q) = (ss.filter q).map V.str := by
 rw [List.filter_map]
 rfl
theorem c9r {K : PySem.W.Frag} {a D : Addr} {xs : List V} {tc : TT} {te : TE} {σ : L2.St} {H0 H : Hp} {Q : VK} (p : V -> Bool) (g : V -> V) (n0 : H0 D = none) (S : Same H0 H) (hD : H D = some (.lst [])) (hS : SqL K H0 a xs) (hsz : xs.length <= sizeLine)
  (hc : ∀ (i : Nat) x H' (Q' : Bool -> Hp -> Prop), xs[i]? = some x -> Same H0 H' -> (∀ H2, Same H' H2 -> Q' (p x) H2) -> tc (some x :: σ) H' Q')
  (he : ∀ (i : Nat) x H' (Q' : VK), xs[i]? = some x -> p x = true -> Same H0 H' -> Q' (g x) H' -> te (some x :: σ) H' Q')
  (q : ∀ H', Same H0 H' -> H' D = some (.lst ((xs.filter p).map g)) -> Q (.ref D) H') : g6h (Itl K a) tc te D σ H Q ⟨⟩ := by
 refine ⟨xs.length, fun i ys H' => Same H0 H' /\ H' D = some (.lst ys) /\ ys = ((xs.take i).filter p).map g, ⟨S, hD, by simp⟩, fun i ys H' hi w => ?_⟩
 obtain ⟨S', h', e⟩ := w
 refine ⟨h', ?_⟩
 have e2 : SqL K H' a xs := S'.seq hS
 by_cases hlt : i < xs.length
 ·have hyl : ys.length <= i := by
   rw [e, List.length_map]
   exact Nat.le_trans (List.length_filter_le _ _) (by rw [List.length_take]; omega)
  refine .inr ⟨hlt, ⟨xs, xs[i], e2, by simp [hlt]⟩, by omega, fun x H2 y => ?_⟩
  obtain ⟨e', y⟩ := y
  subst e'
  have hx := y xs e2
  have et : xs.take (i + 1) = xs.take i ++ [x] := by rw [List.take_add_one, hx]; rfl
  refine hc i x _ _ hx S' fun H3 S3 => ?_
  have h3 := S3 _ _ h'
  cases hp : p x with
  | true =>
   rw [if_pos rfl]
   refine he i x _ _ hx hp (S'.trans S3) ⟨h3, fun H4 s4 h4 => ⟨(S'.trans S3).step n0 s4, h4, ?_⟩⟩
   rw [et, List.filter_append, List.map_append, <- e, List.filter_cons, if_pos hp]
   rfl
  | false =>
   rw [if_neg Bool.false_ne_true]
   refine ⟨S'.trans S3, h3, ?_⟩
   rw [et, List.filter_append, List.filter_cons, if_neg (by rw [hp]; exact Bool.false_ne_true), e]
   simp
 ·have e3 : i = xs.length := by omega
  subst e3
  refine .inl ⟨⟨_, e2, by simp⟩, q H' S' ?_⟩
  rw [h', e, List.take_length]
theorem d7v {K : PySem.W.Frag} {a D : Addr} {os : List (Str × Int)} {us : List V} {σ : L2.St} {H0 H : Hp} {Q : VK} {N : Addr -> Prop} (n0 : H0 D = none) (S : Same H0 H) (hD : H D = some (.lst [])) (hS : H0 a = some (.lst us)) (R : RpL H0 N us (os.map dOu)) (hl : os.length <= 90) (q : ∀ H', Same H0 H' -> H' D = some (.lst ((os.map (·.1)).map V.str)) -> Q (.ref D) H') : d7i (Itl K a) (tOp j3r (d1q 0) (tC (V.int 0))) D σ H Q ⟨⟩ := by
 have hs : sizeLine = 16777216 := sizeLine_eq
 have ul := R.f9p
 refine c1m ((os.map (·.1)).map V.str) (by rw [List.length_map, List.length_map, ul]) n0 S hD (SqL.of hS) (by omega) ?_ q
 intro i v z H' Q' hx hz S' q'
 obtain ⟨e, pe, he, rfl, hpe⟩ := R.at2 hx
 rw [List.map_map, List.getElem?_map, he] at hz
 cases hz
 have hp' := S' _ _ hpe
 clear hpe
 walk_at "rd*"
 exact q'
theorem h4v (T : Tx K mg A) : a1k P A.wd K mg base CX0 2 A.a3m A.a3y ["_law_tracks", "_law_buses", "_law_sends", "_law_outs"] f6y := by
 have c6h : a1k P A.wd K mg base CX0 1 _ _ _ _ := g1m T
 refine T.a5w.ok a3v (fun vs H Q E h => ?_) (fun cdv A' outer s H vs Q E hr h => ?_)
 ·obtain ⟨_, _, _, _, rfl, _⟩ := d3r (by unfold f6y at h; exact h)
  rfl
 ·obtain ⟨t, b, sd, ou, rfl, ⟨p, hL, hF, q⟩⟩ := d3r (by unfold f6y at h; exact h)
  have hu := hr.units
  have hs : sizeLine = 16777216 := sizeLine_eq
  have c2j : a2k 1 _ := hr.mono (by decide)
  obtain ⟨ht, hb, ⟨us, hsd, R1⟩, vs, hou, R2⟩ := id hL
  have e1 : (Str.ofString "track ").length = 6 := by decide +kernel
  have e2 : (Str.ofString "bus ").length = 4 := by decide +kernel
  have lt := hF.lt
  have lb := hF.lb
  have le := hF.le
  have lo := hF.lo
  have vl := R2.f9p
  refine ⟨_, (a0j (a0v (i := 4) a3v.nd rfl (Or.inl rfl) (a2g a0h))
   (a2v (a7u PassesOwn.never rfl (a1m (a4w (a1m (pvF 3)) (fun _ _ _ _ _ => (a1h a3q (pvF 0) a0o (fun _ _ => rfl))) (b3n (sc := a0p a4n) (N := ["_law_tracks", "_law_buses", "_law_sends", "_law_outs", "_law_lines_here", "_law_name_here"]) rfl rfl (by decide +kernel)) rfl)) (a2m (i := 5) a3v.nd rfl (Or.inl rfl))
   (a0n (a2n (a5p a8h PySem.F.plainAttrs_list PySem.F.slot_list_append PySem.F.type_list_append a4m (pvF 4) (a0g (a1i a1j a0w (pvF 5)) a0h)))))
   (a2v (a0v (i := 4) a3v.nd rfl (Or.inl rfl) (a1i a1j (pvF 4) (f5m (a1m (pvF 3)) (fun _ _ _ _ _ => (a1i a1j (a1i a1j (a1i a1j a0w (pvF 0)) a0w) (a4h d1v (by rfl) T.f6m boot_str (a0g (pvF 1) a0h)))) (h1q (sc := a0p a4n) (N := ["_law_tracks", "_law_buses", "_law_sends", "_law_outs", "_law_lines_here", "_law_name_here"]) rfl rfl (by decide +kernel)) rfl)))
   (a2v (a0v (i := 4) a3v.nd rfl (Or.inl rfl) (a1i a1j (pvF 4) (f5j (a1m (pvF 1)) (fun _ _ _ _ _ => (a0u b7i (pvF 0) (a4w (f9o (K := K) (by rfl) (pvF 4)) (fun _ _ _ _ _ => (a1h a3q (pvF 0) a0o (fun _ _ => rfl))) (b3n (N := ["_law_name_here", "_law_tracks", "_law_buses", "_law_sends", "_law_outs", "_law_lines_here", ""]) rfl rfl (by rfl)) rfl) (by rfl))) (fun _ _ _ _ _ => (a1i a1j a0w (pvF 0))) (b3n (sc := a0p a4n) (N := ["_law_tracks", "_law_buses", "_law_sends", "_law_outs", "_law_lines_here", "_law_name_here"]) rfl rfl (by decide +kernel)) rfl)))
   (a2v (a0v (i := 4) a3v.nd rfl (Or.inl rfl) (a1i a1j (pvF 4) (a4w (a1m (pvF 0)) (fun _ _ _ _ _ => (a1i a1j a0w (pvF 0))) (b3n (sc := a0p a4n) (N := ["_law_tracks", "_law_buses", "_law_sends", "_law_outs", "_law_lines_here", "_law_name_here"]) rfl rfl (by decide +kernel)) rfl)))
   (a0n (a0z (a1i a1j (pvF 4) (a0q c6h c2j (by rfl) T.d0y T.b1k.kp T.d0w .nil a0t (a0g (a2g a0h) (a0g (a2g a0h) (a0g (pvF 2) (a0g (a2g a0h) a0h))))))))))))), ?_⟩
  walk_at "rd"
  refine ⟨by omega, fun l H1 n1 S1 h1 => ?_⟩
  try walk_at "rd"
  obtain ⟨Mid1, in1, out1⟩ := d7r (fun σ' H' => ∃ v5 : Option V, σ' = [some (.ref t), some (.ref b), some (.ref sd), some (.ref ou), some (.ref l), v5] /\ Same H H' /\ H' l = some (.lst (p.os.map fun x => V.str (Ln.bu x.1).line)))
  refine ⟨Mid1, ?_, ?_⟩
  ·have j3g := S1 _ _ hou
   walk_at "rd*"
   refine ⟨⟨_, SqL.of j3g⟩, fun D H2 n2 S2 h2 => ?_⟩
   refine d7v n2 S2 h2 j3g (R2.same S1) lo fun H3 S3 h3 => ?_
   try walk_at "rd"
   refine ⟨⟨_, SqL.of h3⟩, ?_⟩
   have nD : D ≠ l := fun k => by rw [k, h1] at n2; cases n2
   obtain ⟨Pv, pin, pout⟩ := d1s (fun i σ H' => ∃ v5 : Option V, σ = [some (.ref t), some (.ref b), some (.ref sd), some (.ref ou), some (.ref l), v5] /\ Same H H' /\ H' D = some (.lst ((p.os.map (·.1)).map V.str)) /\ H' l = some (.lst ((p.os.take i).map fun x => V.str (Ln.bu x.1).line)))
   refine a5q (xs := (p.os.map (·.1)).map V.str) Pv (pin _ _ _ ⟨_, rfl, S1.trans S3, h3, S3 _ _ h1⟩) ?_ ?_ ?_
   ·intro i σ H4 hi hp
    obtain ⟨v5, rfl, S4, h4, _⟩ := pout _ _ _ hp
    exact SqL.of h4
   ·intro i v σ H4 hv hp
    obtain ⟨v5, rfl, S4, h4, hl4⟩ := pout _ _ _ hp
    rw [List.map_map, List.getElem?_map] at hv
    obtain ⟨x, hx, rfl⟩ := Option.map_eq_some_iff.mp hv
    have xl := (hF.o x (List.mem_of_getElem? hx)).1.1
    have hi := (List.getElem?_eq_some_iff.mp hx).1
    clear hv hp h1 h2 h3 j3g
    walk_at "rd*"
    refine ⟨by show _ + x.1.length <= _; omega, by rw [List.length_take]; omega, ?_⟩
    rintro _ H5 ⟨rfl, B5, h5⟩
    refine pin _ _ _ ⟨_, rfl, S4.step n1 B5, B5 _ _ nD h4, ?_⟩
    rw [h5, List.take_add_one, hx, List.map_append]
    show some (HO.lst (_ ++ [V.str (Str.ofString "bus " ++ x.1)])) = _
    rw [i9v]
    rfl
   ·intro σ H4 hp
    obtain ⟨v5, rfl, S4, h4, hl4⟩ := pout _ _ _ hp
    rw [List.length_map, List.length_map, List.take_length] at hl4
    exact in1 _ _ ⟨_, rfl, S4, hl4⟩
  intro σ1 H2 hm1
  obtain ⟨v5, rfl, S2, h2⟩ := out1 _ _ hm1
  clear hm1 in1 out1 h1 S1
  obtain ⟨Mid2, in2, out2⟩ := d7r (fun σ' H' => ∃ l : Addr, σ' = [some (.ref t), some (.ref b), some (.ref sd), some (.ref ou), some (.ref l), v5] /\ Same H H' /\ H' l = some (.lst ((p.os.map fun x => V.str (Ln.bu x.1).line) ++ p.os.map fun x => V.str (Ln.ou x).line)))
  refine ⟨Mid2, ?_, ?_⟩
  ·have j5b := S2 _ _ hou
   walk_at "rd*"
   refine ⟨⟨_, SqL.of j5b⟩, fun D H3 n3 S3 h3 => ?_⟩
   refine h4u n3 S3 h3 j5b (R2.same S2) lo hF.o fun H4 S4 h4 => ?_
   have h24 := S4 _ _ h2
   clear h2 h3
   walk_at "rd*"
   refine ⟨by omega, fun l5 H5 n5 S5 h5 => ?_⟩
   try walk_at "rd"
   exact in2 _ _ ⟨l5, rfl, S2.trans (S4.trans S5), h5⟩
  intro σ2 H3 hm2
  obtain ⟨l3, rfl, S3, h3⟩ := out2 _ _ hm2
  clear hm2 in2 out2 h2 S2
  obtain ⟨Mid3, in3, out3⟩ := d7r (fun σ' H' => ∃ l : Addr, σ' = [some (.ref t), some (.ref b), some (.ref sd), some (.ref ou), some (.ref l), v5] /\ Same H H' /\ H' l = some (.lst (((p.os.map fun x => V.str (Ln.bu x.1).line) ++ p.os.map fun x => V.str (Ln.ou x).line) ++ (p.bs.filter fun z => decide (z ∉ p.os.map (·.1))).map fun x => V.str (Ln.bu x).line)))
  refine ⟨Mid3, ?_, ?_⟩
  ·have hb3 := S3 _ _ hb
   walk_at "rd*"
   refine ⟨⟨_, SqL.of hb3⟩, fun D H4 n4 S4 h4 => ?_⟩
   refine c9r (xs := p.bs.map V.str) (pvS fun z => decide (z ∉ p.os.map (·.1))) (fun v => match v with | .str x => V.str (Ln.bu x).line | v => v) n4 S4 h4 (SqL.of hb3) (by rw [List.length_map]; omega) ?_ ?_ ?_
   ·intro i v H' Q' hv S' q'
    rw [List.getElem?_map] at hv
    obtain ⟨x, hx, rfl⟩ := Option.map_eq_some_iff.mp hv
    have i3s := S' _ _ (S3 _ _ hou)
    clear hv h3 h4 hb3
    walk_at "rd*"
    refine ⟨⟨_, SqL.of i3s⟩, fun D2 H5 n5 S5 h5 => ?_⟩
    refine d7v n5 S5 h5 i3s (R2.same (S3.trans S')) lo fun H6 S6 h6 => ?_
    have fl := b0j (p.os.map (·.1))
    have iv := a9v x (p.os.map (·.1))
    have q2 := q' H6 S6
    clear h5 i3s
    walk_at "rd*"
    refine ⟨rfl, ?_⟩
    rw [show pvS (fun z => decide (z ∉ p.os.map (·.1))) (.str x) = !decide (x ∈ p.os.map (·.1)) by simp [pvS]] at q2
    exact q2
   ·intro i v H' Q' hv hp S' q'
    rw [List.getElem?_map] at hv
    obtain ⟨x, hx, rfl⟩ := Option.map_eq_some_iff.mp hv
    have xl := (hF.b x (List.mem_of_getElem? hx)).1
    clear hv
    walk_at "rd"
    rw [i9v]
    exact ⟨by omega, q'⟩
   ·intro H5 S5 h5
    rw [g1n, List.map_map] at h5
    have h35 := S5 _ _ h3
    have fl := List.length_filter_le (fun z => decide (z ∉ p.os.map (·.1))) p.bs
    clear h3 h4
    walk_at "rd*"
    refine ⟨by omega, fun l6 H6 n6 S6 h6 => ?_⟩
    try walk_at "rd"
    exact in3 _ _ ⟨l6, rfl, S3.trans (S5.trans S6), h6⟩
  intro σ3 H4 hm3
  obtain ⟨l4, rfl, S4, h4⟩ := out3 _ _ hm3
  clear hm3 in3 out3 h3 S3
  have fl := List.length_filter_le (fun z => decide (z ∉ p.os.map (·.1))) p.bs
  obtain ⟨Mid4, in4, out4⟩ := d7r (fun σ' H' => ∃ l : Addr, σ' = [some (.ref t), some (.ref b), some (.ref sd), some (.ref ou), some (.ref l), v5] /\ Same H H' /\ H' l = some (.lst ((((p.os.map fun x => V.str (Ln.bu x.1).line) ++ p.os.map fun x => V.str (Ln.ou x).line) ++ (p.bs.filter fun z => decide (z ∉ p.os.map (·.1))).map fun x => V.str (Ln.bu x).line) ++ p.ts.map fun x => V.str (Ln.tr x).line)))
  refine ⟨Mid4, ?_, ?_⟩
  ·have ht4 := S4 _ _ ht
   walk_at "rd*"
   refine ⟨⟨_, SqL.of ht4⟩, fun D H5 n5 S5 h5 => ?_⟩
   refine f7t .tr j3a n5 S5 h5 ht4 lt hF.t (by omega) fun H6 S6 h6 => ?_
   have h46 := S6 _ _ h4
   clear h4 h5
   walk_at "rd*"
   refine ⟨by omega, fun l7 H7 n7 S7 h7 => ?_⟩
   try walk_at "rd"
   exact in4 _ _ ⟨l7, rfl, S4.trans (S6.trans S7), h7⟩
  intro σ4 H5 hm4
  obtain ⟨l5, rfl, S5, h5⟩ := out4 _ _ hm4
  clear hm4 in4 out4 h4 S4
  walk_at "rd"
  refine ⟨by omega, fun t6 H6 n6 S6 h6 => ?_⟩
  walk_at "rd"
  refine ⟨by omega, fun b7 H7 n7 S7 h7 => ?_⟩
  walk_at "rd"
  refine ⟨by omega, fun o8 H8 n8 S8 h8 => ?_⟩
  walk_at "rd"
  have S58 := S6.trans (S7.trans S8)
  have S08 := S5.trans S58
  refine ⟨⟨[], [], p.es, []⟩, ⟨S8 _ _ (S7 _ _ h6), S8 _ _ h7, ⟨us, S08 _ _ hsd, R1.same S08⟩, [], h8, .nil⟩, PdF.mk' (Nat.zero_le _) (Nat.zero_le _) le (Nat.zero_le _) (fun x hx => by cases hx) (fun x hx => by cases hx) hF.s (fun x hx => by cases hx), fun l9 H9 n9 S9 h9 => ?_⟩
  have h59 := S9 _ _ (S58 _ _ h5)
  clear h5 h6 h7 h8
  walk_at "rd*"
  have el : (lns ⟨[], [], p.es, []⟩).length <= 90 := by
   simp only [lns, List.length_append, List.length_map, List.length_nil]
   omega
  refine ⟨by omega, fun l10 H10 n10 S10 h10 => ?_⟩
  refine q l10 H10 (S08.free (S9.free n10)) (S08.trans (S9.trans S10)) ?_
  rw [h10]
  simp only [lns, lnO, List.map_append, List.map_map, List.append_assoc, List.map_nil, List.nil_append, List.append_nil]
  rfl
theorem c1g.fresh {A : Ad} {H0 H : Hp} {o : Addr} {p : Pd} (h : c1g A H (fun a => H0 a = none) o p) : c1g A H (fun a => H0 a = none /\ H a ≠ none) o p := h.mono fun _ n e => ⟨n, e⟩
theorem g7c {bs : List Str} {es : List (Str × Str)} : ∀ (k : Nat) {x : Str}, x ∈ d7t bs es k -> x ∈ bs
 | 0, x, h => by cases h
 | k + 1, x, h => by
  rw [d7t] at h
  rcases List.mem_append.mp h with m | m
  ·exact g7c k m
  ·exact (List.mem_filter.mp (List.mem_of_head? (Option.mem_toList.mp m))).1
theorem i9f (T : Tx K mg A) : a1k P A.wd K mg base CX0 15 A.g0f A.d6q ["_law_script"] (g2b 63 K) := by
 have g5s : a1k P A.wd K mg base CX0 2 _ _ _ _ := h7w T
 have g5t : a1k P A.wd K mg base CX0 13 _ _ _ _ := h4t T
 have c6h : a1k P A.wd K mg base CX0 1 _ _ _ _ := g1m T
 have d5r : a1k P A.wd K mg base CX0 2 _ _ _ _ := h4v T
 have d5s : a1k P A.wd K mg base CX0 2 _ _ _ _ := h7x T
 have c3v : a1k P A.wd K mg base CX0 2 _ _ _ _ := i8z T
 have c9h : a1k P A.wd K mg base CX0 14 _ _ _ _ := i9a T
 have d3i : a1k P A.wd K mg base CX0 2 _ _ _ _ := i8v T
 have a9w : a1k P A.wd K mg base CX0 3 _ _ _ _ := h4h T
 have b0k : a1k P A.wd K mg base CX0 1 _ _ _ _ := f1y T
 have a0r := T.a0r
 have a0i := T.a0i
 have a0l := T.a0l
 have a0k := T.a0k
 have a0m := T.a0m
 refine T.h2g.ok c6m (fun vs H Q E h => ?_) (fun cdv A' outer s H vs Q E hr h => ?_)
 ·obtain ⟨a, ns, rfl, _⟩ := h
  rfl
 ·obtain ⟨a, ns, rfl, hS, hl, hbit, hO, q⟩ := h
  have hu := hr.units
  have g1o : a2k 2 _ := hr.mono (by decide)
  have g1p : a2k 13 _ := hr.mono (by decide)
  have c2j : a2k 1 _ := hr.mono (by decide)
  have d3j : a2k 2 _ := hr.mono (by decide)
  have d1k : a2k 2 _ := hr.mono (by decide)
  have b9q : a2k 2 _ := hr.mono (by decide)
  have c6i : a2k 14 _ := hr.mono (by decide)
  have c9s : a2k 2 _ := hr.mono (by decide)
  have a7t : a2k 3 _ := hr.mono (by decide)
  have a8t : a2k 1 _ := hr.mono (by decide)
  have hs : sizeLine = 16777216 := sizeLine_eq
  refine ⟨_, (a2v (i4t (a0q g5s g1o (by rfl) T.g4a T.c0p.kp T.g3z .nil a0t (a0g (pvF 0) a0h)) (d3p (n := 4) rfl (a4j (a2m (i := 1) c6m.nd rfl (Or.inl rfl)) (a4j (a2m (i := 2) c6m.nd rfl (Or.inl rfl)) (a4j (a2m (i := 3) c6m.nd rfl (Or.inl rfl)) (a4j (a2m (i := 4) c6m.nd rfl (Or.inr rfl)) c8t))))))
   (a2v (a0v (i := 5) c6m.nd rfl (Or.inl rfl) (a0q g5t g1p (by rfl) T.g4c T.c0q.kp T.g4b .nil a0t (a0g (pvF 1) (a0g (pvF 2) (a0g (pvF 3) (a0g (pvF 4) a0h))))))
   (a2v (a0v (i := 6) c6m.nd rfl (Or.inl rfl) (a5p a4p PySem.F.plainAttrs_str PySem.F.slot_str_join PySem.F.type_str_join c3y a0w (a0g (a0q c6h c2j (by rfl) T.d0y T.b1k.kp T.d0w .nil a0t (a0g (pvF 1) (a0g (pvF 2) (a0g (pvF 3) (a0g (pvF 4) a0h))))) a0h)))
   (a0j (a0v (i := 7) c6m.nd rfl (Or.inl rfl) (a0q c3v b9q (by rfl) T.c3t T.b0i.kp T.c3s .nil a0t (a0g (pvF 5) a0h)))
   (a0j (a4g (pw_or (b8h (a6j (a1o (c1i .str) (by rfl) T.a6h boot_isinstance (a0g (pvF 7) (a0g (c6r (v := .ty "str") (u := .type "str") (by rfl) T.f6m rfl rfl) a0h))))) (pw_or1 (a0u (b8i hu) (pvF 7) (pvF 6) (a1q _)))).pt
   (a0n (a0z f2j))
   a1l)
   (a2v (a0v (i := 8) c6m.nd rfl (Or.inl rfl) (a0q c9h c6i (by rfl) T.c8z T.b3m.kp T.c8y .nil a0t (a0g (pvF 6) a0h)))
   (a0j (a4g (pw_or (b8h (a6j (a0q d5s d1k (by rfl) T.d5n T.b6s.kp T.d5m .nil a0t (a0g (pvF 8) (a0g (pvF 1) (a0g (pvF 2) (a0g (pvF 3) (a0g (pvF 4) a0h)))))))) (pw_or (a0u (b8i hu) (a1w (pvF 8) T.a0r T.b6z d3i c9s T.d2w .nil a0t) (a1w (pvF 5) T.a0r T.b6z d3i c9s T.d2w .nil a0t) (a1q _)) (pw_or1 (a0u (b8i hu) (a0q c3v b9q (by rfl) T.c3t T.b0i.kp T.c3s .nil a0t (a0g (pvF 8) a0h)) (pvF 6) (a1q _))))).pt
   (a0n (a0z f2j))
   a1l)
   (a2v (a0v (i := 9) c6m.nd rfl (Or.inl rfl) (a1i a1j (a4w (a1m (pvF 4)) (fun _ _ _ _ _ => (a1h a3q (pvF 0) a0o (fun _ _ => rfl))) (b3n (sc := a0p h6u) (N := ["_law_script", "_law_tracks", "_law_buses", "_law_sends", "_law_outs", "_law_patch_here", "_law_due", "_law_text", "_law_found", "_law_some", "_law_other", "_law_empty"]) rfl rfl (by decide +kernel)) rfl) (f5j (a1m (pvF 2)) (fun _ _ _ _ _ => (a0u b7i (pvF 0) (a4w (f9o (K := K) (by rfl) (pvF 5)) (fun _ _ _ _ _ => (a1h a3q (pvF 0) a0o (fun _ _ => rfl))) (b3n (N := ["_law_name_here", "_law_script", "_law_tracks", "_law_buses", "_law_sends", "_law_outs", "_law_patch_here", "_law_due", "_law_text", "_law_found", "_law_some", "_law_other", "_law_empty"]) rfl rfl (by rfl)) rfl) (by rfl))) (fun _ _ _ _ _ => (pvF 0)) (b3n (sc := a0p h6u) (N := ["_law_script", "_law_tracks", "_law_buses", "_law_sends", "_law_outs", "_law_patch_here", "_law_due", "_law_text", "_law_found", "_law_some", "_law_other", "_law_empty"]) rfl rfl (by decide +kernel)) rfl)))
   (a2v (a0v (i := 10) c6m.nd rfl (Or.inl rfl) (a0q c9h c6i (by rfl) T.c8z T.b3m.kp T.c8y .nil a0t (a0g (a5p a4p PySem.F.plainAttrs_str PySem.F.slot_str_join PySem.F.type_str_join c3y a0w (a0g (a0q d5r d3j (by rfl) T.d5l T.a5w.kp T.d5k .nil a0t (a0g (pvF 1) (a0g (pvF 2) (a0g (pvF 3) (a0g (pvF 4) a0h))))) a0h)) a0h)))
   (a0j (a4g (b8h (a6j (a0q d5s d1k (by rfl) T.d5n T.b6s.kp T.d5m .nil a0t (a0g (pvF 10) (a0g (pvF 1) (a0g (pvF 9) (a0g (pvF 3) (a0g (pvF 4) a0h))))))))
   (a0n (a0z f2j))
   a1l)
   (a0j (a4g (a0u (b8i hu) (a0q c3v b9q (by rfl) T.c3t T.b0i.kp T.c3s .nil a0t (a0g (pvF 10) a0h)) (a5p a4p PySem.F.plainAttrs_str PySem.F.slot_str_join PySem.F.type_str_join c3y a0w (a0g (a0q c6h c2j (by rfl) T.d0y T.b1k.kp T.d0w .nil a0t (a0g (pvF 1) (a0g (pvF 9) (a0g (pvF 3) (a0g (pvF 4) a0h))))) a0h)) (a1q _))
   (a0n (a0z f2j))
   a1l)
   (a2v (a0v (i := 11) c6m.nd rfl (Or.inl rfl) (a0q c9h c6i (by rfl) T.c8z T.b3m.kp T.c8y .nil a0t (a0g a0w a0h)))
   (a0j (a4g (pw_or (b8h (a6j (a0q d5s d1k (by rfl) T.d5n T.b6s.kp T.d5m .nil a0t (a0g (pvF 11) (a0g (a2g a0h) (a0g (a2g a0h) (a0g (a2g a0h) (a0g (a2g a0h) a0h)))))))) (pw_or1 (a0u (b8i hu) (a0q c3v b9q (by rfl) T.c3t T.b0i.kp T.c3s .nil a0t (a0g (pvF 11) a0h)) a0w (a1q _)))).pt
   (a0n (a0z f2j))
   a1l)
   (a0j (a2n (a8i (pvF 8) T.a0r T.a7s a9w a7t T.b8v .nil a0t (a0g a0w a0h)))
   (a0j (a2n (a8i (pvF 11) T.a0r T.a7s a9w a7t T.b8v .nil a0t (a0g a0w a0h)))
   (a0n (a0z (g2c (c9t (b1l hu) (a0q c3v b9q (by rfl) T.c3t T.b0i.kp T.c3s .nil a0t (a0g (pvF 5) a0h)) (pvF 6) (a1q _)) (g2c (c9t (b1l hu) (a0q c3v b9q (by rfl) T.c3t T.b0i.kp T.c3s .nil a0t (a0g (pvF 11) a0h)) a0w (a1q _)) (h7y (c9t (b1l hu) (a1w (a0q c9h c6i (by rfl) T.c8z T.b3m.kp T.c8y .nil a0t (a0g a0w a0h)) T.a0r T.a8q b0k a8t T.c2p .nil a0t) (a2g a0h) (a1q _)))))))))))))))))))))), ?_⟩
  obtain ⟨Mid0, in0, out0⟩ := d7r (fun σ' H' => ∃ (t b sd ou : Addr) (p : Pd), σ' = [some (.ref a), some (.ref t), some (.ref b), some (.ref sd), some (.ref ou), none, none, none, none, none, none, none] /\ Ls H' t b sd ou p /\ PdG p)
  refine ⟨Mid0, ?_, ?_⟩
  ·walk_at "rd"
   refine ⟨ns, hS, hl, hbit, fun q0 t b sd ou p H1 S1 h1 hL hG => ?_⟩
   walk_at "rd*"
   exact in0 _ _ ⟨t, b, sd, ou, p, rfl, hL, hG⟩
  intro σ0 H0 hm0
  obtain ⟨t, b, sd, ou, p, rfl, hL, hG⟩ := out0 _ _ hm0
  clear hm0 in0 out0 hS hl hbit hO
  have hF := hG.f
  have hD := hF.ok
  have ll : ∀ {r : Pd}, PdF r -> (lns r).length <= 360 := fun h => by
   have := h.lt
   have := h.lb
   have := h.le
   have := h.lo
   simp only [lns, List.length_append, List.length_map]
   omega
  have jo : ∀ {ls : List Ln}, (∀ l ∈ ls, l.fm) -> ls.length <= 360 -> JoinOk ⟨#[10]⟩ (ls.map Ln.line) = true := fun h hl => joinOk_of (n := 45000) (fun y hy => by obtain ⟨l, hl, rfl⟩ := List.mem_map.mp hy; exact Ln.len (h l hl)) (by rw [List.length_map, b4o]; omega)
  have mm : ∀ ls : List Ln, (ls.map fun x => V.str x.line) = (ls.map Ln.line).map V.str := fun ls => by rw [List.map_map]; rfl
  obtain ⟨due, edue⟩ : ∃ due, ltx (lns p) = due := ⟨_, rfl⟩
  obtain ⟨Mid1, in1, out1⟩ := d7r (fun σ' H' => ∃ o : Addr, σ' = [some (.ref a), some (.ref t), some (.ref b), some (.ref sd), some (.ref ou), some (.ref o), none, none, none, none, none, none] /\ Same H0 H' /\ c1g A H' (fun a => H0 a = none) o p)
  refine ⟨Mid1, ?_, ?_⟩
  ·walk_at "rd"
   refine ⟨p, hL, hG, fun o H1 S1 P1 => ?_⟩
   try walk_at "rd"
   exact in1 _ _ ⟨o, rfl, S1, P1⟩
  intro σ1 H1 hm1
  obtain ⟨o, rfl, S1, P1⟩ := out1 _ _ hm1
  clear hm1 in1 out1
  obtain ⟨Mid2, in2, out2⟩ := d7r (fun σ' H' => σ' = [some (.ref a), some (.ref t), some (.ref b), some (.ref sd), some (.ref ou), some (.ref o), some (.str due), none, none, none, none, none] /\ Same H1 H')
  refine ⟨Mid2, ?_, ?_⟩
  ·rw [i4d]
   walk_at "rd"
   refine ⟨p, hL.same S1, hF, fun l H2 n2 S2 h2 => ?_⟩
   rw [mm] at h2
   walk_at "rd*"
   refine ⟨_, rfl, jo hF.fm (ll hF), ?_⟩
   rw [g2l]
   exact in2 _ _ ⟨by rw [<- edue]; rfl, S2⟩
  intro σ2 H2 hm2
  obtain ⟨rfl, S2⟩ := out2 _ _ hm2
  clear hm2 in2 out2
  have S02 := S1.trans S2
  walk_at "rd"
  refine ⟨_, p, P1.same S2, hF, fun H3 S3 => ?_⟩
  rw [edue]
  walk_at "rd"
  have S03 := S02.trans S3
  have P3 : c1g A H3 (fun z => H3 z ≠ none) o p := (P1.same (S2.trans S3)).mono fun _ _ e => e
  obtain ⟨Mid5, in5, out5⟩ := d7r (fun σ' H' => ∃ f : Addr, σ' = [some (.ref a), some (.ref t), some (.ref b), some (.ref sd), some (.ref ou), some (.ref o), some (.str due), some (.str due), some (.ref f), none, none, none] /\ Same H3 H' /\ c1g A H' (fun z => H3 z = none) f p)
  refine ⟨Mid5, ?_, ?_⟩
  ·walk_at "rd"
   refine ⟨lns p, edue.symm, Nat.le_trans (ll hF) (by decide), p, hG.tl, fun f H4 S4 P4 => ?_⟩
   try walk_at "rd"
   exact in5 _ _ ⟨f, rfl, S4, P4⟩
  intro σ5 H4 hm5
  obtain ⟨f, rfl, S4, P4⟩ := out5 _ _ hm5
  clear hm5 in5 out5
  have F4 : c1g A H4 (fun z => H3 z = none /\ H4 z ≠ none) f p := P4.fresh
  have O4 := P3.same S4
  have S04 := S03.trans S4
  clear P4 P3 P1
  walk_at "rd"
  refine ⟨_, p, F4, hL.same S04, hF, hD, fun H5 S5 => ?_⟩
  try walk_at "rd"
  have rdy : ∀ j, j < p.bs.length -> p.bs.filter (c6q p.bs (prs p.es) (d7t p.bs (prs p.es) j)) ≠ [] := fun j hj => ready hG.rk hG.nb j hj
  have lb := hF.lb
  obtain ⟨dxf, tf, bf, sf, uf, hf4, _⟩ := id F4
  obtain ⟨dxo, to, bo, so, uo, ho4, _⟩ := id O4
  unfold ptF at hf4 ho4
  have hf5 := S5 _ _ hf4
  walk_at "rd*"
  obtain ⟨t1, b1, s1, T1⟩ := (F4.same S5).pt
  refine ⟨t1, b1, s1, _, _, _, T1, by omega, rdy, ?_⟩
  rintro _ H6 ⟨l6, rfl, n6, S6, h6⟩
  have S46 := S5.trans S6
  have ho6 := S46 _ _ ho4
  clear hf5
  walk_at "rd*"
  obtain ⟨t2, b2, s2, T2⟩ := (O4.same S46).pt
  refine ⟨t2, b2, s2, _, _, _, T2, by omega, rdy, ?_⟩
  rintro _ H7 ⟨l7, rfl, n7, S7, h7⟩
  clear ho6
  have oso : ∀ z ∈ d7t p.bs (prs p.es) p.bs.length, PyData.strOk z = true := fun z hz => hD.b z (g7c _ hz)
  walk_at "rd"
  refine d1z (SqL.of (S7 _ _ h6)) (SqL.of h7) oso oso ?_
  rw [decide_eq_true rfl]
  walk_at "rd"
  have S47 := S46.trans S7
  refine ⟨_, p, F4.same S47, hF, fun H8 S8 => ?_⟩
  rw [edue]
  walk_at "rd"
  have S48 := S47.trans S8
  have S08 := S04.trans S48
  obtain ⟨Mid7, in7, out7⟩ := d7r (fun σ' H' => ∃ g : Addr, σ' = [some (.ref a), some (.ref t), some (.ref b), some (.ref sd), some (.ref ou), some (.ref o), some (.str due), some (.str due), some (.ref f), some (.ref g), none, none] /\ Same H8 H' /\ H' g = some (.lst ((swp p).bs.map V.str)))
  refine ⟨Mid7, ?_, ?_⟩
  ·obtain ⟨ht, hb, _, vs, hou, R2⟩ := hL.same S08
   walk_at "rd*"
   refine ⟨⟨_, SqL.of hou⟩, fun D H9 n9 S9 h9 => ?_⟩
   refine d7v n9 S9 h9 hou R2 hF.lo fun H10 S10 h10 => ?_
   have i4f := S10 _ _ hb
   clear ht hb h9
   walk_at "rd*"
   refine ⟨⟨_, SqL.of i4f⟩, fun D2 H11 n11 S11 h11 => ?_⟩
   refine c9r (xs := p.bs.map V.str) (pvS fun z => decide (z ∉ p.os.map (·.1))) id n11 S11 h11 (SqL.of i4f) (by rw [List.length_map]; omega) ?_ ?_ ?_
   ·intro i v H' Q' hv S' q'
    rw [List.getElem?_map] at hv
    obtain ⟨x, hx, rfl⟩ := Option.map_eq_some_iff.mp hv
    have S8' := S10.trans S'
    have i3s := S8' _ _ hou
    clear hv i4f h10 h11 hou
    walk_at "rd*"
    refine ⟨⟨_, SqL.of i3s⟩, fun D3 H12 n12 S12 h12 => ?_⟩
    refine d7v n12 S12 h12 i3s (R2.same S8') hF.lo fun H13 S13 h13 => ?_
    have fl := b0j (p.os.map (·.1))
    have iv := a9v x (p.os.map (·.1))
    have q2 := q' H13 S13
    clear h12 i3s
    walk_at "rd*"
    refine ⟨rfl, ?_⟩
    rw [show pvS (fun z => decide (z ∉ p.os.map (·.1))) (.str x) = !decide (x ∈ p.os.map (·.1)) by simp [pvS]] at q2
    exact q2
   ·intro i v H' Q' hv hp S' q'
    walk_at "rd"
    exact q'
   ·intro H12 S12 h12
    rw [g1n, List.map_id] at h12
    have h1012 := S12 _ _ h10
    have fl := List.length_filter_le (fun z => decide (z ∉ p.os.map (·.1))) p.bs
    have lo := hF.lo
    clear h10 h11 i4f hou
    walk_at "rd*"
    refine ⟨by omega, fun g H13 n13 S13 h13 => ?_⟩
    try walk_at "rd"
    refine in7 _ _ ⟨g, rfl, S10.trans (S12.trans S13), ?_⟩
    rw [h13, <- List.map_append]
    rfl
  intro σ7 H9 hm7
  obtain ⟨g, rfl, S9, hg⟩ := out7 _ _ hm7
  clear hm7 in7 out7
  have S09 := S08.trans S9
  have hW := hG.swp
  have hFw := hW.f
  have lw : ∀ {H'}, Same H9 H' -> Ls H' t g sd ou (swp p) := fun S => by
   have z := hL.same (S09.trans S)
   exact ⟨z.ht, S _ _ hg, z.hs, z.ho⟩
  obtain ⟨Mid8, in8, out8⟩ := d7r (fun σ' H' => ∃ h : Addr, σ' = [some (.ref a), some (.ref t), some (.ref b), some (.ref sd), some (.ref ou), some (.ref o), some (.str due), some (.str due), some (.ref f), some (.ref g), some (.ref h), none] /\ Same H9 H' /\ c1g A H' (fun z => H9 z = none) h (swp p))
  refine ⟨Mid8, ?_, ?_⟩
  ·rw [i4d]
   walk_at "rd"
   refine ⟨p, hL.same S09, hF, fun l H10 n10 S10 h10 => ?_⟩
   rw [mm] at h10
   have lO : (lnO p).length <= 360 := by
    have fl := List.length_filter_le (fun z => decide (z ∉ p.os.map (·.1))) p.bs
    have := hF.lt
    have := hF.le
    have := hF.lo
    have := hFw.lb
    have e : (swp p).bs.length = p.os.length + (p.bs.filter fun z => decide (z ∉ p.os.map (·.1))).length := by
     show (List.length (_ ++ _)) = _
     rw [List.length_append, List.length_map]
    simp only [lnO, List.length_append, List.length_map]
    omega
   walk_at "rd*"
   refine ⟨_, rfl, jo hG.tlO.fm lO, lnO p, by rw [g2l]; rfl, Nat.le_trans lO (by decide), swp p, hG.tlO, fun h H11 S11 P11 => ?_⟩
   try walk_at "rd"
   exact in8 _ _ ⟨h, rfl, S10.trans S11, P11.mono fun z hz _ => S10.free hz⟩
  intro σ8 H10 hm8
  obtain ⟨h, rfl, S10, P10⟩ := out8 _ _ hm8
  clear hm8 in8 out8
  walk_at "rd"
  refine ⟨_, _, P10, lw S10, hFw, hFw.ok, fun H11 S11 => ?_⟩
  have P11 := P10.same S11
  have S911 := S10.trans S11
  refine ⟨_, _, P11, hFw, fun H12 S12 => ?_⟩
  have j5c := S911.trans S12
  refine ⟨_, lw j5c, hFw, fun l H13 n13 S13 h13 => ?_⟩
  rw [mm] at h13
  rw [h13]
  refine ⟨_, rfl, by rw [i4d]; exact jo hFw.fm (ll hFw), ?_⟩
  rw [i4d, g2l]
  refine (if_neg (not_not_intro (show ltx (lns (swp p)) = Str.join ⟨#[10]⟩ ((lns (swp p)).map Ln.line) from rfl))).mpr ?_
  have j5d := S48.trans (S9.trans (j5c.trans S13))
  clear P10 P11 lw hg h6 h7
  obtain ⟨Mid11, in11, out11⟩ := d7r (fun σ' H' => ∃ e : Addr, σ' = [some (.ref a), some (.ref t), some (.ref b), some (.ref sd), some (.ref ou), some (.ref o), some (.str due), some (.str due), some (.ref f), some (.ref g), some (.ref h), some (.ref e)] /\ Same H13 H' /\ c1g A H' (fun z => H13 z = none) e Pd0)
  have e0 : Str.ofString "" = ltx [] := by decide +kernel
  refine ⟨Mid11, ?_, ?_⟩
  ·walk_at "rd"
   refine ⟨[], e0, Nat.zero_le _, Pd0, rfl, fun e H14 S14 P14 => ?_⟩
   try walk_at "rd"
   exact in11 _ _ ⟨e, rfl, S14, P14⟩
  intro σ11 H14 hm11
  obtain ⟨e, rfl, S14, P14⟩ := out11 _ _ hm11
  clear hm11 in11 out11
  have j5e := j5d.trans S14
  have F0 : PdF Pd0 := PdF.mk' (Nat.zero_le _) (Nat.zero_le _) (Nat.zero_le _) (Nat.zero_le _) (fun x hx => by cases hx) (fun x hx => by cases hx) (fun x hx => by cases hx) (fun x hx => by cases hx)
  have E14 : c1g A H14 (fun z => H4 z = none) e Pd0 := P14.mono fun z hz _ => j5d.free hz
  have F14 := F4.same j5e
  have O14 := O4.same j5e
  clear P14 F4 O4
  walk_at "rd"
  refine ⟨by omega, fun t15 H15 n15 S15 h15 => ?_⟩
  walk_at "rd"
  refine ⟨by omega, fun t16 H16 n16 S16 h16 => ?_⟩
  walk_at "rd"
  refine ⟨by omega, fun t17 H17 n17 S17 h17 => ?_⟩
  walk_at "rd"
  refine ⟨by omega, fun t18 H18 n18 S18 h18 => ?_⟩
  walk_at "rd"
  have i3t := S15.trans (S16.trans (S17.trans S18))
  refine ⟨_, Pd0, E14.same i3t, ⟨(S16.trans (S17.trans S18)) _ _ h15, (S17.trans S18) _ _ h16, ⟨[], S18 _ _ h17, .nil⟩, [], h18, .nil⟩, F0, F0.ok, fun H19 S19 => ?_⟩
  refine ⟨_, Pd0, (E14.same i3t).same S19, F0, fun H20 S20 => ?_⟩
  have e1 : ltx (lns Pd0) = Str.ofString "" := by rw [e0]; rfl
  rw [e1]
  have i3u := i3t.trans (S19.trans S20)
  have E20 := E14.same i3u
  have F20 := F14.same i3u
  have O20 := O14.same i3u
  have nmz : a6u (Str.ofString "zz") := ⟨by decide +kernel, by decide +kernel, by decide +kernel⟩
  clear E14 F14 O14 h15 h16 h17 h18
  obtain ⟨dx2, t2', b2', s2', u2', hf20, _⟩ := id F20
  unfold ptF at hf20
  walk_at "rd*"
  have lt := hF.lt
  refine ⟨_, p, F20, hG.zt, hG.zb, by omega, fun H21 S21 _ => ?_⟩
  have E21 := E20.over S21 fun z hz _ k => k.2 hz
  have O21 := O20.over S21 fun z hz _ k => hz k.1
  clear E20 F20 O20 hf20
  obtain ⟨dx3, t3, b3, s3, u3, he21, _⟩ := id E21
  unfold ptF at he21
  rw [he21]
  refine ⟨rfl, rfl, _, Pd0, E21, (fun k => by cases k), (fun k => by cases k), Nat.zero_le _, fun H22 S22 E22 => ?_⟩
  have O22 := O21.over S22 fun z hz _ k => by
   cases e : H3 z with
   | none => exact hz e
   | some u => rw [S4 _ _ e] at k; cases k
  refine ⟨_, p, O22, hF, fun H23 S23 => ?_⟩
  rw [if_pos edue]
  have Fz : PdF ⟨[] ++ [Str.ofString "zz"], [], [], []⟩ := PdF.mk' (by decide) (Nat.zero_le _) (Nat.zero_le _) (Nat.zero_le _) (fun x hx => by obtain rfl := List.mem_singleton.mp hx; exact nmz) (fun x hx => by cases hx) (fun x hx => by cases hx) (fun x hx => by cases hx)
  refine ⟨_, _, E22.same S23, Fz, fun H24 S24 => ?_⟩
  rw [if_pos (by decide +kernel)]
  refine ⟨[], rfl, Nat.zero_le _, Pd0, rfl, fun x H25 S25 P25 => ?_⟩
  obtain ⟨dx5, t5, b5, s5, u5, hx5, _⟩ := id P25
  unfold ptF at hx5
  rw [hx5]
  refine ⟨rfl, rfl, _, Pd0, P25, Nat.zero_le _, ?_⟩
  rintro _ H26 ⟨l26, rfl, n26, S26, h26⟩
  walk_at "rd"
  refine ⟨by omega, fun l27 H27 n27 S27 h27 => ?_⟩
  walk_at "rd"
  refine h6n (ns := []) (ms := []) (SqL.of (S27 _ _ h26)) (SqL.of h27) (fun z hz => by cases hz) (fun z hz => by cases hz) ?_
  exact q _
local macro_rules | `(tactic| walk_at "b1") => `(tactic| exact fun _ _ _ _ _ _ us hl => match us, hl with | [_], _ => rfl)
local macro_rules | `(tactic| walk_at "b2") => `(tactic| exact fun _ _ _ _ _ _ us hl => match us, hl with | [_, _], _ => rfl)
local macro_rules | `(tactic| walk_at "b3") => `(tactic| exact fun _ _ _ _ _ _ us hl => match us, hl with | [_, _, _], _ => rfl)
local macro_rules | `(tactic| walk_at "b4") => `(tactic| exact fun _ _ _ _ _ _ us hl => match us, hl with | [_, _, _, _], _ => rfl)
local macro_rules | `(tactic| walk_at "b5") => `(tactic| exact fun _ _ _ _ _ _ us hl => match us, hl with | [_, _, _, _, _], _ => rfl)
theorem all_mk {l : W.OpenLaw} {K : W.Frag} {h : Heap} {mg : Str → Option Value} {fa : Addr} {b4p a8o b4r b7o b4u b4w f0g d0i b9v b4z a3r a4s a3s b5h b5i b1q b1r b0r b5j b5k b5l b5m b5n b5o a4t b0s f0h a6k b2h a9g b2j b0t a6l b0u a6m b7p b2m b7q b7r b7s a6n b2n b9w b5r b2o a9j a7j b9y b2p a4o a9l b5t b2r b5u b5v a7l a9n a9o b2u a9q a5t b0v b5w b9z b0w b5z a6o b6h b0y b0z b1g b1h b1i a3m b6j g0f f0i c1o b3q b4m c0g c0h b0g b7y a8p a3t a2l : Addr} {b4q a8u b4s b4t b4v b4y d3u c8w b8z b5g a3z a5g a8v b1o b1p a8w a8y b1s b1t b1u b1v b1w b1y b1z a5h b2g d3v a6w a8z a6y a9h b2k a6z b2l a7g b9g b5p b9h b9i b9j a7h b5q b9k b5s a9i a7i a5r b9l a9k a3w a7k b2q a9m b2s b2t a5s a7m a7n a9p a7o a5i b2v b5y b9m b2w b6g a7p b6i b2y b2z b3g b3h b3i a3y b6k d6q : FuncData} {c3h a2t a2u b6l b6m b3j c3i a7q b3k f4j c3j a7r : Value} {wd : World} {es_READERS : Array DictEntry} {n_READERS : Nat} (X : K.In h) (G : h.Ns mainGlobals mg) (hfa : mg "law" = some (.ref fa)) (Y : Ty K ⟨b4p, b4q, a8o, a8u, b4r, b4s, b7o, b4t, b4u, b4v, b4w, b4y, f0g, d3u, d0i, c8w, b9v, b8z, b4z, b5g, a3r, a3z, a4s, a5g, a3s, a8v, b5h, b1o, b5i, b1p, b1q, a8w, b1r, a8y, b0r, b1s, b5j, b1t, b5k, b1u, b5l, b1v, b5m, b1w, b5n, b1y, b5o, b1z, a4t, a5h, b0s, b2g, f0h, d3v, a6k, a6w, b2h, a8z, a9g, a6y, b2j, a9h, b0t, b2k, a6l, a6z, b0u, b2l, a6m, a7g, b7p, b9g, b2m, b5p, b7q, b9h, b7r, b9i, b7s, b9j, a6n, a7h, b2n, b5q, b9w, b9k, b5r, b5s, b2o, a9i, a9j, a7i, a7j, a5r, b9y, b9l, b2p, a9k, a4o, a3w, a9l, a7k, b5t, b2q, b2r, a9m, b5u, b2s, b5v, b2t, a7l, a5s, a9n, a7m, a9o, a7n, b2u, a9p, a9q, a7o, a5t, a5i, b0v, b2v, b5w, b5y, b9z, b9m, b0w, b2w, b5z, b6g, a6o, a7p, b6h, b6i, b0y, b2y, b0z, b2z, b1g, b3g, b1h, b3h, b1i, b3i, a3m, a3y, b6j, b6k, g0f, d6q, f0i, c1o, b3q, b4m, c0g, c0h, b0g, b7y, a8p, a3t, c3h, a2t, a2u, b6l, b6m, b3j, c3i, a7q, b3k, f4j, c3j, a7r, a2l, wd⟩) (ld_READERS : K.lookup a2l = some ⟨.type "dict", none, .dict es_READERS n_READERS, #[]⟩) (kd_READERS : W.KeysLit wd.params es_READERS.toList) (ne_READERS : (a2l == sysModules) = false) : ∃ fd : FuncData, (∀ (s : Shared) (v : Value), BindsTo s fd ⟨[v], []⟩ [("_law_script", v)]) ∧ ∀ base : Heap, K.In base → base.Ns mainGlobals mg → a1k l.prog wd K mg base CX0 15 fa fd ["_law_script"] (g2b 63 K) := by
 have ea : fa = g0f := by injection (hfa.symm.trans (W.mg_of X G Y.h6w)) with e; injection e
 rw [ea]
 have T : Tx K mg ⟨b4p, b4q, a8o, a8u, b4r, b4s, b7o, b4t, b4u, b4v, b4w, b4y, f0g, d3u, d0i, c8w, b9v, b8z, b4z, b5g, a3r, a3z, a4s, a5g, a3s, a8v, b5h, b1o, b5i, b1p, b1q, a8w, b1r, a8y, b0r, b1s, b5j, b1t, b5k, b1u, b5l, b1v, b5m, b1w, b5n, b1y, b5o, b1z, a4t, a5h, b0s, b2g, f0h, d3v, a6k, a6w, b2h, a8z, a9g, a6y, b2j, a9h, b0t, b2k, a6l, a6z, b0u, b2l, a6m, a7g, b7p, b9g, b2m, b5p, b7q, b9h, b7r, b9i, b7s, b9j, a6n, a7h, b2n, b5q, b9w, b9k, b5r, b5s, b2o, a9i, a9j, a7i, a7j, a5r, b9y, b9l, b2p, a9k, a4o, a3w, a9l, a7k, b5t, b2q, b2r, a9m, b5u, b2s, b5v, b2t, a7l, a5s, a9n, a7m, a9o, a7n, b2u, a9p, a9q, a7o, a5t, a5i, b0v, b2v, b5w, b5y, b9z, b9m, b0w, b2w, b5z, b6g, a6o, a7p, b6h, b6i, b0y, b2y, b0z, b2z, b1g, b3g, b1h, b3h, b1i, b3i, a3m, a3y, b6j, b6k, g0f, d6q, f0i, c1o, b3q, b4m, c0g, c0h, b0g, b7y, a8p, a3t, c3h, a2t, a2u, b6l, b6m, b3j, c3i, a7q, b3k, f4j, c3j, a7r, a2l, wd⟩ := ⟨Y, Y.b6o.binds (by walk_at "b1"), W.mg_of X G Y.d3y, Y.b3l.binds (by walk_at "b1"), W.mg_of X G Y.c7m, Y.b9o.binds (by walk_at "b1"), W.mg_of X G Y.d3z, Y.c3k.binds (by walk_at "b2"), W.mg_of X G Y.f0j, Y.c3l.binds (by walk_at "b2"), W.mg_of X G Y.d4g, Y.b6p.binds (by walk_at "b2"), W.mg_of X G Y.d4h, Y.g0g.binds (by walk_at "b2"), W.mg_of X G Y.h1z, Y.d4q.binds (by walk_at "b2"), W.mg_of X G Y.g3a, Y.c7s.binds (by walk_at "b1"), W.mg_of X G Y.f0k, Y.c3m.binds (by walk_at "b2"), W.mg_of X G Y.d4i, Y.a2h.binds (by walk_at "b1"), W.mg_of X G Y.c0i, Y.a8r.binds (by walk_at "b1"), W.mg_of X G Y.c0j, Y.c1r.binds (by walk_at "b1"), Y.c4y.binds (by walk_at "b2"), Y.c4z.binds (by walk_at "b1"), Y.c1s.binds (by walk_at "b2"), Y.c1t.binds (by walk_at "b1"), Y.b6q.binds (by walk_at "b2"), W.mg_of X G Y.d0j, Y.c5g.binds (by walk_at "b4"), Y.c5h.binds (by walk_at "b1"), Y.c5i.binds (by walk_at "b3"), Y.c5j.binds (by walk_at "b1"), Y.c5k.binds (by walk_at "b3"), Y.c5l.binds (by walk_at "b1"), Y.a8s.binds (by walk_at "b1"), W.mg_of X G Y.c0k, Y.c0l.binds (by walk_at "b1"), W.mg_of X G Y.d0k, Y.f4k.binds (by walk_at "b2"), W.mg_of X G Y.h2a, Y.b3v.binds (by walk_at "b1"), W.mg_of X G Y.c4m, Y.c1u.binds (by walk_at "b2"), Y.b8n.binds (by walk_at "b1"), Y.c1v.binds (by walk_at "b1"), Y.a6p.binds (by walk_at "b1"), W.mg_of X G Y.d0l, Y.a5l.binds (by walk_at "b3"), W.mg_of X G Y.c4n, Y.b1j.binds (by walk_at "b1"), W.mg_of X G Y.d0m, Y.a3o.binds (by walk_at "b2"), W.mg_of X G Y.c4o, Y.c7t.binds (by walk_at "b1"), W.mg_of X G Y.f0l, Y.c3n.binds (by walk_at "b1"), W.mg_of X G Y.d4j, Y.c7u.binds (by walk_at "b1"), W.mg_of X G Y.f0m, Y.c7v.binds (by walk_at "b1"), W.mg_of X G Y.f0n, Y.c7w.binds (by walk_at "b1"), W.mg_of X G Y.f0o, Y.b3w.binds (by walk_at "b1"), W.mg_of X G Y.c4p, Y.c3o.binds (by walk_at "b1"), W.mg_of X G Y.d4k, Y.c7y.binds (by walk_at "b1"), W.mg_of X G Y.f0p, Y.c3p.binds (by walk_at "b1"), W.mg_of X G Y.d4l, Y.c1w.binds (by walk_at "b2"), Y.b8o.binds (by walk_at "b1"), Y.b7g.binds (by walk_at "b2"), Y.c7z.binds (by walk_at "b1"), W.mg_of X G Y.f0q, Y.c1y.binds (by walk_at "b1"), Y.a9r.binds (by walk_at "b2"), Y.b8p.binds (by walk_at "b2"), Y.c5m.binds (by walk_at "b2"), Y.c1z.binds (by walk_at "b4"), Y.c5n.binds (by walk_at "b3"), Y.c5o.binds (by walk_at "b3"), Y.b7h.binds (by walk_at "b1"), Y.b8q.binds (by walk_at "b1"), Y.b8r.binds (by walk_at "b1"), Y.c2g.binds (by walk_at "b1"), Y.b8s.binds (by walk_at "b1"), Y.b3y.binds (by walk_at "b3"), Y.c0m.binds (by walk_at "b1"), W.mg_of X G Y.d0n, Y.c3q.binds (by walk_at "b1"), W.mg_of X G Y.d4m, Y.b0i.binds (by walk_at "b1"), W.mg_of X G Y.f0r, Y.c0n.binds (by walk_at "b2"), W.mg_of X G Y.d0o, Y.b3m.binds (by walk_at "b1"), W.mg_of X G Y.d4n, Y.a9s.binds (by walk_at "b2"), W.mg_of X G Y.c4q, Y.b9p.binds (by walk_at "b2"), W.mg_of X G Y.d4o, Y.c0o.binds (by walk_at "b1"), W.mg_of X G Y.d0p, Y.b6r.binds (by walk_at "b2"), W.mg_of X G Y.d0q, Y.c0p.binds (by walk_at "b1"), W.mg_of X G Y.d0r, Y.c0q.binds (by walk_at "b4"), W.mg_of X G Y.d0s, Y.b1k.binds (by walk_at "b4"), W.mg_of X G Y.d0t, Y.a5w.binds (by walk_at "b4"), W.mg_of X G Y.b6n, Y.b6s.binds (by walk_at "b5"), W.mg_of X G Y.d4p, Y.h2g.binds (by walk_at "b1"), W.mg_of X G Y.h6w, W.mg_none_of X G Y.i1m, W.mg_none_of X G Y.i1n, W.mg_none_of X G Y.y_bool, W.mg_none_of X G Y.i1o, W.mg_none_of X G Y.c8g, W.mg_none_of X G Y.i1p, W.mg_none_of X G Y.h2i, W.mg_none_of X G Y.i1q, W.mg_none_of X G Y.g3e, W.mg_none_of X G Y.d4r, W.mg_none_of X G Y.i1r, W.mg_none_of X G Y.g3f, W.mg_none_of X G Y.i1s, W.mg_of X G Y.g2v, W.mg_of X G Y.g2w, W.mg_of X G Y.f5u, W.mg_of X G Y.g2x, W.mg_of X G Y.g2y, W.mg_of X G Y.g2z, W.mg_of X G Y.f5v, W.mg_of X G Y.f5w, W.mg_of X G Y.d3w, W.mg_of X G Y.f5y, W.mg_of X G Y.d4s, W.mg_of X G Y.a7v, W.mg_of X G Y.a7y, W.mg_of X G Y.c8h, W.mg_of X G Y.c8i, W.mg_of X G Y.c5p, W.mg_of X G Y.d4u, W.mg_of X G Y.c0r, W.mg_of X G Y.c5r, W.mg_of X G Y.g3g, W.mg_of X G Y.d4w, W.mg_of X G Y.c0t, W.mg_of X G Y.d4z, ⟨⟨_, _, ld_READERS, kd_READERS⟩, ne_READERS⟩⟩
 obtain ⟨_, _, _, _, _, _, _, _, _, e, _, _⟩ := Y.h2g.ex
 exact ⟨d6q, fun s v => by have e' : d6q = _ := e; rw [e']; exact .of_eq rfl, fun base _ _ => i9f T⟩
end My
namespace PySem.W.Fast
theorem tw10238867026296321550:1=1:=rfl
theorem tw4718329716569889060:1=1:=rfl
theorem tw16960695574304623334:1=1:=rfl
theorem tw6973413829347901421:1=1:=rfl
theorem tw2158579583417860655:1=1:=rfl
theorem tw10792325529901438824:1=1:=rfl
theorem tw11022276202878949623:1=1:=rfl
theorem tw9230087637630480746:1=1:=rfl
theorem tw6481755691030252266:1=1:=rfl
theorem tw16893655545879848769:1=1:=rfl
theorem tw2230751388985431462:1=1:=rfl
theorem tw1630511813903971868:1=1:=rfl
theorem tw16058350607983542632:1=1:=rfl
theorem tw5954891966109962734:1=1:=rfl
theorem tw9862032704186415556:1=1:=rfl
theorem tw13589835359581536019:1=1:=rfl
theorem tw5834379561061803576:1=1:=rfl
theorem tw17732130329644939426:1=1:=rfl
theorem tw257255937430618776:1=1:=rfl
theorem tw11845183165654161807:1=1:=rfl
theorem tw17240856646606992868:1=1:=rfl
theorem tw6417604447823740394:1=1:=rfl
theorem tw3095373258641327212:1=1:=rfl
theorem tw2211383252439782236:1=1:=rfl
theorem tw15301948339394310512:1=1:=rfl
theorem tw16251974969435233880:1=1:=rfl
theorem tw3037095238864255093:1=1:=rfl
theorem tw14584402289794880915:1=1:=rfl
theorem tw17803544680779209851:1=1:=rfl
theorem tw7846820045297495128:1=1:=rfl
theorem tw11612991914473653421:1=1:=rfl
theorem tw2862933295033116842:1=1:=rfl
theorem tw4486631594902710739:1=1:=rfl
theorem tw13528624094107681529:1=1:=rfl
theorem tw5696549624133053276:1=1:=rfl
theorem tw11917986682171875566:1=1:=rfl
theorem tw7018777693586077548:1=1:=rfl
theorem tw12595569068377612144:1=1:=rfl
theorem tw7269377598786715416:1=1:=rfl
theorem tw15200486407108347043:1=1:=rfl
theorem tw18343552971897318093:1=1:=rfl
theorem tw15864760339231199458:1=1:=rfl
theorem tw9334305790128308360:1=1:=rfl
theorem tw18205433041961869400:1=1:=rfl
theorem tw11069609478017873756:1=1:=rfl
theorem tw14559214291068947549:1=1:=rfl
theorem tw13501730816422689370:1=1:=rfl
theorem tw1439058901941404294:1=1:=rfl
theorem tw15195064026718797691:1=1:=rfl
theorem tw16676115115889017960:1=1:=rfl
theorem tw3511104955568002146:1=1:=rfl
theorem tw2704919277161325842:1=1:=rfl
theorem tw17296426256865388710:1=1:=rfl
theorem tw5119970095422504044:1=1:=rfl
theorem tw4861059053259620529:1=1:=rfl
theorem tw5443866148182585734:1=1:=rfl
theorem tw7885912855552130274:1=1:=rfl
theorem tw7332444687529653868:1=1:=rfl
theorem tw9219869695667103773:1=1:=rfl
theorem tw9863933643970564074:1=1:=rfl
theorem tw4739795856524242164:1=1:=rfl
theorem tw8023516486492754260:1=1:=rfl
theorem tw3165642270280455754:1=1:=rfl
theorem tw10384985352650281177:1=1:=rfl
theorem tw1773837692412290537:1=1:=rfl
theorem tw7344637904495126775:1=1:=rfl
theorem tw5192998821425939299:1=1:=rfl
theorem tw15310293492937980604:1=1:=rfl
theorem tw9689188610212498030:1=1:=rfl
theorem tw8607613927307866917:1=1:=rfl
theorem tw16726206310073210043:1=1:=rfl
theorem tw11730255912869154303:1=1:=rfl
theorem tw18252570708774874551:1=1:=rfl
theorem tw11567718725835371275:1=1:=rfl
theorem tw2934687169046720713:1=1:=rfl
theorem tw8844654509872992539:1=1:=rfl
theorem tw4491099035418080903:1=1:=rfl
theorem tw9601134896043673536:1=1:=rfl
theorem tw9373984874264760075:1=1:=rfl
theorem tw14072442299619121686:1=1:=rfl
theorem tw15983807508632724633:1=1:=rfl
theorem tw5447482324106225065:1=1:=rfl
theorem tw5905425647299792687:1=1:=rfl
theorem tw18193794792368051302:1=1:=rfl
theorem tw5221308609787483005:1=1:=rfl
theorem tw14431919100465023729:1=1:=rfl
theorem tw7755884858320590275:1=1:=rfl
theorem tw17419766090118352661:1=1:=rfl
theorem tw9555222727400714416:1=1:=rfl
theorem tw4836080649731602707:1=1:=rfl
theorem tw16993632511098707662:1=1:=rfl
theorem tw17054175347503987406:1=1:=rfl
theorem tw4716293468802231677:1=1:=rfl
theorem tw11839949376991489812:1=1:=rfl
theorem tw11358796097127551511:1=1:=rfl
theorem tw4010626368033712773:1=1:=rfl
theorem tw17130409668543085000:1=1:=rfl
theorem tw12278080537441541485:1=1:=rfl
theorem tw4716153736824224688:1=1:=rfl
theorem tw5497009717727200897:1=1:=rfl
theorem tw16164490365294113497:1=1:=rfl
theorem tw8100793444352329324:1=1:=rfl
theorem tw1557923103342749374:1=1:=rfl
theorem tw3034723128148662302:1=1:=rfl
theorem tw11815010665951763030:1=1:=rfl
theorem tw10249321830591531817:1=1:=rfl
theorem tw8070545579050098954:1=1:=rfl
theorem tw13316040399779693621:1=1:=rfl
theorem tw10188082994796060946:1=1:=rfl
theorem tw1570519868646123119:1=1:=rfl
theorem tw7226944845679457445:1=1:=rfl
theorem tw10321449539097975290:1=1:=rfl
theorem tw17686048358234459495:1=1:=rfl
theorem tw17963796151783590290:1=1:=rfl
theorem tw6312027764176787369:1=1:=rfl
theorem tw12790143501525666011:1=1:=rfl
theorem tw1336255022696261626:1=1:=rfl
theorem tw7243803262502334575:1=1:=rfl
theorem tw9124338490253888807:1=1:=rfl
theorem tw4055392531633101993:1=1:=rfl
theorem tw8986124929546515431:1=1:=rfl
theorem tw1944258500132027551:1=1:=rfl
theorem tw6952117422395274872:1=1:=rfl
theorem tw4776148976148742502:1=1:=rfl
theorem tw5374620705666636569:1=1:=rfl
theorem tw6711444277961409694:1=1:=rfl
theorem tw15065467129395652250:1=1:=rfl
theorem tw9068717695587396659:1=1:=rfl
theorem tw8101841107896336426:1=1:=rfl
theorem tw18320154627091025654:1=1:=rfl
theorem tw5742987665274832542:1=1:=rfl
theorem tw17770968140496454840:1=1:=rfl
theorem tw6513597139189646065:1=1:=rfl
theorem tw4725122107534151043:1=1:=rfl
theorem tw14459946247353747397:1=1:=rfl
theorem tw9375492011385396438:1=1:=rfl
theorem tw14488026473302294203:1=1:=rfl
theorem tw15754633931106881610:1=1:=rfl
theorem tw5328173022195429493:1=1:=rfl
theorem tw10840669728038209229:1=1:=rfl
theorem tw16942187982762075367:1=1:=rfl
theorem tw12247013134787646345:1=1:=rfl
theorem tw12941261911690073000:1=1:=rfl
theorem tw6109099229020905601:1=1:=rfl
theorem tw1181758689701029688:1=1:=rfl
theorem tw16351959242449292784:1=1:=rfl
theorem tw459302746530889220:1=1:=rfl
theorem tw10020689471858327327:1=1:=rfl
theorem tw12621760402506529112:1=1:=rfl
theorem tw11776491098928007806:1=1:=rfl
theorem tw10023865943920157886:1=1:=rfl
theorem tw5555067426876659544:1=1:=rfl
theorem tw6149950802362874061:1=1:=rfl
theorem tw11382565680990183066:1=1:=rfl
theorem tw62769658240795859:1=1:=rfl
theorem tw589714441946671607:1=1:=rfl
theorem tw16248239132668805063:1=1:=rfl
theorem tw4076583374775848279:1=1:=rfl
theorem tw14059319116849452847:1=1:=rfl
theorem tw12782290915639869758:1=1:=rfl
theorem tw7714404610603068516:1=1:=rfl
theorem tw15805747615141910870:1=1:=rfl
theorem tw17054165353409540977:1=1:=rfl
theorem tw11637026001100135117:1=1:=rfl
theorem tw5653432222704003140:1=1:=rfl
theorem tw7278559030615968929:1=1:=rfl
theorem tw13080994865243213189:1=1:=rfl
theorem tw7876146434244693595:1=1:=rfl
theorem tw8379699800017247842:1=1:=rfl
theorem tw17455142198499649011:1=1:=rfl
theorem tw8051354323010676605:1=1:=rfl
theorem tw12128069892878683079:1=1:=rfl
theorem tw7828953707321707491:1=1:=rfl
theorem tw9024072437660315647:1=1:=rfl
theorem tw3818785633670431434:1=1:=rfl
theorem tw14232535304590877963:1=1:=rfl
theorem tw8257370320417537828:1=1:=rfl
theorem tw7339741386744044615:1=1:=rfl
theorem tw662724543738728344:1=1:=rfl
theorem tw15878470714713850742:1=1:=rfl
theorem tw4092699887197439624:1=1:=rfl
theorem tw9548806695336069307:1=1:=rfl
theorem tw13889812210459519247:1=1:=rfl
theorem tw16001164415303903446:1=1:=rfl
theorem tw4171566950712625673:1=1:=rfl
theorem tw14467762196693521389:1=1:=rfl
theorem tw14485219128664029648:1=1:=rfl
theorem tw6227743549508078590:1=1:=rfl
theorem tw2160752407362815660:1=1:=rfl
theorem tw17192620808864895694:1=1:=rfl
theorem tw1161546649024541783:1=1:=rfl
theorem tw6365698364842253713:1=1:=rfl
theorem tw11348519643483516408:1=1:=rfl
theorem tw8926040005521349733:1=1:=rfl
theorem tw6678995833180324872:1=1:=rfl
theorem tw14363133054575198785:1=1:=rfl
theorem tw3271410175916988704:1=1:=rfl
theorem tw8650259828235424496:1=1:=rfl
theorem tw3831791085494717385:1=1:=rfl
theorem tw11956502703272311112:1=1:=rfl
theorem tw12202800331147738671:1=1:=rfl
theorem tw18286122690312062995:1=1:=rfl
theorem tw16359580342521122648:1=1:=rfl
theorem tw13447873803833489353:1=1:=rfl
theorem tw5592420126498417183:1=1:=rfl
theorem tw16588820066236073766:1=1:=rfl
theorem tw8987656904788133531:1=1:=rfl
theorem tw15543531504144664187:1=1:=rfl
theorem tw17089594975797926927:1=1:=rfl
theorem tw8349150279925335546:1=1:=rfl
theorem tw12944048934298110766:1=1:=rfl
theorem tw8351713527225089098:1=1:=rfl
theorem tw15535769168553121858:1=1:=rfl
theorem tw8092667281067427591:1=1:=rfl
theorem tw5907243180628538737:1=1:=rfl
theorem tw16194610643319641306:1=1:=rfl
theorem tw14436459248531053122:1=1:=rfl
theorem tw8109295008693171516:1=1:=rfl
theorem tw16117381019682853574:1=1:=rfl
theorem tw2992993296056729868:1=1:=rfl
theorem tw17613368506844277069:1=1:=rfl
theorem tw15801726414300338616:1=1:=rfl
theorem tw4124943989784671278:1=1:=rfl
theorem tw2412103009652335883:1=1:=rfl
theorem tw2509767843806162131:1=1:=rfl
theorem tw11513989808624501783:1=1:=rfl
theorem tw14972872341718864559:1=1:=rfl
theorem tw7732786864998708109:1=1:=rfl
theorem tw13813924886794134546:1=1:=rfl
theorem tw17390098270761135545:1=1:=rfl
theorem tw17238818906854877033:1=1:=rfl
theorem tw4129484936558796269:1=1:=rfl
theorem tw13402809859704824622:1=1:=rfl
theorem tw7410138159307508040:1=1:=rfl
theorem tw15427727814869370654:1=1:=rfl
theorem tw13311040561815101991:1=1:=rfl
theorem tw3317847484611335200:1=1:=rfl
theorem tw11025654189822236897:1=1:=rfl
theorem tw12863095456343367884:1=1:=rfl
theorem tw8809133808364821567:1=1:=rfl
theorem tw17489693648213949726:1=1:=rfl
theorem tw2722579359198735122:1=1:=rfl
theorem tw9223894350871728185:1=1:=rfl
theorem tw5051050053672116192:1=1:=rfl
theorem tw13749463480033545824:1=1:=rfl
theorem tw9135857413185474090:1=1:=rfl
theorem tw16388457666207752906:1=1:=rfl
theorem tw4968717348931521476:1=1:=rfl
theorem tw2772184451768362377:1=1:=rfl
theorem tw3081079078124131927:1=1:=rfl
theorem tw17616001361940894629:1=1:=rfl
theorem tw11917984532010638912:1=1:=rfl
theorem tw18186344750153935948:1=1:=rfl
theorem tw12511430821736843893:1=1:=rfl
theorem tw2415376553846299925:1=1:=rfl
theorem tw5435199868345986017:1=1:=rfl
theorem tw1310467215609344416:1=1:=rfl
theorem tw9840216080214837361:1=1:=rfl
theorem tw5280580079382398004:1=1:=rfl
theorem tw8045453707487134257:1=1:=rfl
theorem tw8002610908008272961:1=1:=rfl
theorem tw10268009555526336213:1=1:=rfl
theorem tw17636329169906537123:1=1:=rfl
theorem tw3638987867453377583:1=1:=rfl
theorem tw5550789047207574911:1=1:=rfl
theorem tw14316516301842701227:1=1:=rfl
theorem tw9307868757200444327:1=1:=rfl
theorem tw9186909813203434512:1=1:=rfl
theorem tw10706437456261040028:1=1:=rfl
theorem tw3809793828758764563:1=1:=rfl
theorem tw12757467395736840851:1=1:=rfl
theorem tw3982936620854129247:1=1:=rfl
theorem tw544965309904824518:1=1:=rfl
theorem tw1478873583194542760:1=1:=rfl
theorem tw6588316109869950399:1=1:=rfl
theorem tw6698452238420083195:1=1:=rfl
theorem tw14325570624003404871:1=1:=rfl
theorem tw14690871844555340165:1=1:=rfl
theorem tw13648322147399229525:1=1:=rfl
theorem tw5302182030818082520:1=1:=rfl
theorem tw6575654746774439845:1=1:=rfl
theorem tw13991319093694624297:1=1:=rfl
theorem tw17471658074951950629:1=1:=rfl
theorem tw6441169114021791820:1=1:=rfl
theorem tw4460717159244434797:1=1:=rfl
theorem tw3321265493855363105:1=1:=rfl
theorem tw8302521511933864958:1=1:=rfl
theorem tw771052543146652472:1=1:=rfl
theorem tw14793416164291111757:1=1:=rfl
theorem tw15282881262786528721:1=1:=rfl
theorem tw8289980778486083284:1=1:=rfl
theorem tw6750982541388650317:1=1:=rfl
theorem tw15498577314825715646:1=1:=rfl
theorem tw11050505762523299166:1=1:=rfl
theorem tw13555169171311243421:1=1:=rfl
theorem tw6830620063943079746:1=1:=rfl
theorem tw6987738100504530300:1=1:=rfl
theorem tw4788604341243667884:1=1:=rfl
theorem tw11832845856430861576:1=1:=rfl
theorem tw14383088671773486776:1=1:=rfl
theorem tw4203993608437788717:1=1:=rfl
theorem tw12673525787177765546:1=1:=rfl
theorem tw9298961906718813091:1=1:=rfl
theorem tw17941122464526942614:1=1:=rfl
theorem tw1891648981078552825:1=1:=rfl
theorem tw3362442506158342924:1=1:=rfl
theorem tw17346250134907911453:1=1:=rfl
theorem tw714807074123687897:1=1:=rfl
theorem tw4788976486232754780:1=1:=rfl
theorem tw16845583599057865942:1=1:=rfl
theorem tw11061274636292276600:1=1:=rfl
theorem tw9891596784497555896:1=1:=rfl
theorem tw7997290444081759592:1=1:=rfl
theorem tw5962655953561049817:1=1:=rfl
theorem tw12183576117742210034:1=1:=rfl
theorem tw6345655718680735998:1=1:=rfl
theorem tw16610177171343710964:1=1:=rfl
theorem tw10010568367148800115:1=1:=rfl
theorem tw16269990199080303815:1=1:=rfl
theorem tw17027128239290469290:1=1:=rfl
theorem tw15826793759275386781:1=1:=rfl
theorem tw5199773901731122018:1=1:=rfl
theorem tw11142497442849652574:1=1:=rfl
theorem tw7633215554638463028:1=1:=rfl
theorem tw1886980263342279187:1=1:=rfl
theorem tw3516383781533130096:1=1:=rfl
theorem tw2378281686470641262:1=1:=rfl
theorem tw5511900383245336630:1=1:=rfl
theorem tw9317670575912345677:1=1:=rfl
theorem tw13602229688839319840:1=1:=rfl
theorem tw2596066509114252869:1=1:=rfl
theorem tw6818756671742680324:1=1:=rfl
theorem tw11243766433320954793:1=1:=rfl
theorem tw3258329442705984125:1=1:=rfl
theorem tw18026770019117981557:1=1:=rfl
theorem tw6543950445204095835:1=1:=rfl
theorem tw10564192988305013291:1=1:=rfl
theorem tw15968567864962840137:1=1:=rfl
theorem tw2390496099138788291:1=1:=rfl
theorem tw4661382286166271883:1=1:=rfl
theorem tw17191800449403037841:1=1:=rfl
theorem tw3009486240417188101:1=1:=rfl
theorem tw3329415126310114609:1=1:=rfl
theorem tw9803201040536530910:1=1:=rfl
theorem tw17310820838615111867:1=1:=rfl
theorem tw5161017400781638680:1=1:=rfl
theorem tw5445419038344309929:1=1:=rfl
theorem tw17292263524761119270:1=1:=rfl
theorem tw8724022004873772591:1=1:=rfl
theorem tw5030414834664460353:1=1:=rfl
theorem tw10175008289497257313:1=1:=rfl
theorem tw16157615979716838155:1=1:=rfl
theorem tw14276528356193526356:1=1:=rfl
theorem tw16474138633299005327:1=1:=rfl
theorem tw13622606280249174075:1=1:=rfl
theorem tw18030471885224064987:1=1:=rfl
theorem tw6902145836854130130:1=1:=rfl
theorem tw16803318073150652571:1=1:=rfl
theorem tw9406704999003941089:1=1:=rfl
theorem tw14438023303582413874:1=1:=rfl
theorem tw4330049050929977534:1=1:=rfl
theorem tw7879505064216645688:1=1:=rfl
theorem tw6416036010694684351:1=1:=rfl
theorem tw8181815474963448267:1=1:=rfl
theorem tw5122815244004853778:1=1:=rfl
theorem tw1489728226563778751:1=1:=rfl
theorem tw8708275862505878518:1=1:=rfl
theorem tw10154532650068714687:1=1:=rfl
theorem tw1452279903016255631:1=1:=rfl
theorem tw15369499787274569666:1=1:=rfl
theorem tw15416316245682306353:1=1:=rfl
theorem tw11172919779139213810:1=1:=rfl
theorem tw15368031847717610344:1=1:=rfl
theorem tw11801505314878532879:1=1:=rfl
theorem tw1264208143265990891:1=1:=rfl
theorem tw13194803143146084558:1=1:=rfl
theorem tw16339630807629242791:1=1:=rfl
theorem tw8549928328335464608:1=1:=rfl
theorem tw11757217146872422072:1=1:=rfl
theorem tw218004410183781741:1=1:=rfl
theorem tw8505642963067940346:1=1:=rfl
theorem tw18105575589418900902:1=1:=rfl
theorem tw4827518422272275532:1=1:=rfl
theorem tw8302400362529545812:1=1:=rfl
theorem tw8004392409944374916:1=1:=rfl
theorem tw10362967957303703735:1=1:=rfl
theorem tw14871342299658257421:1=1:=rfl
theorem tw14045593031448235799:1=1:=rfl
theorem tw18077377432029717368:1=1:=rfl
theorem tw16209642054145886402:1=1:=rfl
theorem tw13348708533838433765:1=1:=rfl
theorem tw12441470292008967333:1=1:=rfl
theorem tw895544838027703411:1=1:=rfl
theorem tw1435729818634113666:1=1:=rfl
theorem tw5875526792173460675:1=1:=rfl
theorem tw12523313815596885460:1=1:=rfl
theorem tw2818829886302033616:1=1:=rfl
theorem tw16161241678079394025:1=1:=rfl
theorem tw8125860057921939113:1=1:=rfl
theorem tw7146950529728323183:1=1:=rfl
theorem tw17633092045734116125:1=1:=rfl
theorem tw13887584778588420568:1=1:=rfl
theorem tw1928049876112311306:1=1:=rfl
theorem tw11340349353946209001:1=1:=rfl
theorem tw4448652796619310970:1=1:=rfl
theorem tw8781121920974954869:1=1:=rfl
theorem tw3534953322996998317:1=1:=rfl
theorem tw4714477836698512244:1=1:=rfl
theorem tw3960834942044187073:1=1:=rfl
theorem tw18075613918116404332:1=1:=rfl
theorem tw13478548019899598597:1=1:=rfl
theorem tw1148190014385663323:1=1:=rfl
theorem tw8407134293946682009:1=1:=rfl
theorem tw16079375439376297679:1=1:=rfl
theorem tw9556899832985014263:1=1:=rfl
theorem tw6685330147766920103:1=1:=rfl
theorem tw4537929452979615286:1=1:=rfl
theorem tw13976122239616514525:1=1:=rfl
theorem tw6051875848666813454:1=1:=rfl
theorem tw12556199805638346908:1=1:=rfl
theorem tw3513393415002874365:1=1:=rfl
theorem tw9369010483641677104:1=1:=rfl
theorem tw1198309041253917007:1=1:=rfl
theorem tw11125660412056187164:1=1:=rfl
theorem tw8434065075450863901:1=1:=rfl
theorem tw13516853406435504775:1=1:=rfl
theorem tw8570777058365663781:1=1:=rfl
theorem tw5923797439549737246:1=1:=rfl
theorem tw8398088066998847126:1=1:=rfl
theorem tw14751573481508287252:1=1:=rfl
theorem tw16303371844778661728:1=1:=rfl
theorem tw16240874244058911857:1=1:=rfl
theorem tw17130203704975144088:1=1:=rfl
theorem tw1114401895269174474:1=1:=rfl
theorem tw6628265147547592115:1=1:=rfl
theorem tw15177157725984566617:1=1:=rfl
theorem tw1231468965580851870:1=1:=rfl
theorem tw14232964008412948439:1=1:=rfl
theorem tw18272777782876472237:1=1:=rfl
theorem tw954522560063623288:1=1:=rfl
theorem tw7068494069495452583:1=1:=rfl
theorem tw12302777148489729384:1=1:=rfl
theorem tw10504019399238391866:1=1:=rfl
theorem tw17244623914610980225:1=1:=rfl
theorem tw14813487027536890413:1=1:=rfl
theorem tw4895303695464043407:1=1:=rfl
theorem tw15138246556464346188:1=1:=rfl
theorem tw18102321334835516275:1=1:=rfl
theorem tw1449133254841106484:1=1:=rfl
theorem tw8527096524904475691:1=1:=rfl
theorem tw18028189984134208478:1=1:=rfl
theorem tw10598059620707553578:1=1:=rfl
theorem tw9045320416404087825:1=1:=rfl
theorem tw3395958492767737775:1=1:=rfl
theorem tw5378309717139201613:1=1:=rfl
theorem tw18032395994674777872:1=1:=rfl
theorem tw1137769259747835257:1=1:=rfl
theorem tw1964370832967273452:1=1:=rfl
theorem tw18152519979973174088:1=1:=rfl
theorem tw11320366371361034168:1=1:=rfl
theorem tw8778370107374461891:1=1:=rfl
theorem tw10059406813343519021:1=1:=rfl
theorem tw11447925647341660383:1=1:=rfl
theorem tw1304451694110786811:1=1:=rfl
theorem tw18418033884190189185:1=1:=rfl
theorem tw17744892424391447087:1=1:=rfl
theorem tw15288839287505184208:1=1:=rfl
theorem tw13118501359376405218:1=1:=rfl
theorem tw14297065981921307298:1=1:=rfl
theorem tw1294239745392854343:1=1:=rfl
theorem tw15809599070549741870:1=1:=rfl
theorem tw6395584443863496927:1=1:=rfl
theorem tw6059336289105276839:1=1:=rfl
theorem tw15526295900753525961:1=1:=rfl
theorem tw36709291044315448:1=1:=rfl
theorem tw4122206611994693913:1=1:=rfl
theorem tw3015739813109847982:1=1:=rfl
theorem tw12096474647017205353:1=1:=rfl
theorem tw4956415606063181140:1=1:=rfl
theorem tw8566261384165109021:1=1:=rfl
theorem tw5598450103243799929:1=1:=rfl
theorem tw10108518788504724935:1=1:=rfl
theorem tw1231963036192571953:1=1:=rfl
theorem tw18331135494232846817:1=1:=rfl
theorem tw13172201541264300136:1=1:=rfl
theorem tw3187752870570666201:1=1:=rfl
theorem tw16641356627280503792:1=1:=rfl
theorem tw13919002974040639574:1=1:=rfl
theorem tw14061132077326849124:1=1:=rfl
theorem tw11569685703603942350:1=1:=rfl
theorem tw8062048076392033821:1=1:=rfl
theorem tw4934826876905957247:1=1:=rfl
theorem tw17652595334550807459:1=1:=rfl
theorem tw18029962412065162641:1=1:=rfl
theorem tw9343838301237066370:1=1:=rfl
theorem tw10233309542748060827:1=1:=rfl
theorem tw14406676427469507515:1=1:=rfl
theorem tw3939399716120552019:1=1:=rfl
theorem tw17638297829414845549:1=1:=rfl
theorem tw16852174079318567948:1=1:=rfl
theorem tw497499473299800335:1=1:=rfl
theorem tw12640630496066160356:1=1:=rfl
theorem tw17047037517968785268:1=1:=rfl
theorem tw12953482427388295538:1=1:=rfl
theorem tw17169351982278902837:1=1:=rfl
theorem tw8327960565263427237:1=1:=rfl
theorem tw2632679678454472868:1=1:=rfl
theorem tw13273919291618586733:1=1:=rfl
theorem tw5067720376689509994:1=1:=rfl
theorem tw6019450321852949183:1=1:=rfl
theorem tw14047966800234209245:1=1:=rfl
theorem tw9974990636486789184:1=1:=rfl
theorem tw7533466757909779542:1=1:=rfl
theorem tw15591514264614157532:1=1:=rfl
theorem tw15918478950186370553:1=1:=rfl
theorem tw840546303755662816:1=1:=rfl
theorem tw11530266569038047460:1=1:=rfl
theorem tw3797775557280181979:1=1:=rfl
theorem tw10279005281832121851:1=1:=rfl
theorem tw14002488165761863494:1=1:=rfl
theorem tw198982657855003242:1=1:=rfl
theorem tw2111666792993520647:1=1:=rfl
theorem tw13653129795965289872:1=1:=rfl
theorem tw8281375782351792176:1=1:=rfl
theorem tw1291959734853191485:1=1:=rfl
theorem tw8807234189139278474:1=1:=rfl
theorem tw12601871608276460177:1=1:=rfl
theorem tw5769848710850743595:1=1:=rfl
theorem tw17762814666746060128:1=1:=rfl
theorem tw17743581776541075503:1=1:=rfl
theorem tw11032141076698865504:1=1:=rfl
theorem tw8150186366219775631:1=1:=rfl
theorem tw6134182711415833569:1=1:=rfl
theorem tw1244396997771320934:1=1:=rfl
theorem tw3020628381204289791:1=1:=rfl
theorem tw8934334488757873363:1=1:=rfl
theorem tw2214974139058934620:1=1:=rfl
theorem tw17141273770348845834:1=1:=rfl
theorem tw5611367597200778678:1=1:=rfl
theorem tw15384120514219791750:1=1:=rfl
theorem tw11314680674151925812:1=1:=rfl
theorem tw9579581767401828199:1=1:=rfl
theorem tw9064787729678128255:1=1:=rfl
theorem tw1840313891038692084:1=1:=rfl
theorem tw17875721759382310363:1=1:=rfl
theorem tw16575583746636272859:1=1:=rfl
theorem tw15345838570045132595:1=1:=rfl
theorem tw18014326334961610910:1=1:=rfl
theorem tw16604661287724520596:1=1:=rfl
theorem tw3544198105216442355:1=1:=rfl
theorem tw14549964192263673455:1=1:=rfl
theorem tw4147431484736317557:1=1:=rfl
theorem tw13087042740290333525:1=1:=rfl
theorem tw8849745674676037908:1=1:=rfl
theorem tw7128802144423218647:1=1:=rfl
theorem tw13019829634019346925:1=1:=rfl
theorem tw9067855341143586397:1=1:=rfl
theorem tw6392176619322944261:1=1:=rfl
theorem tw6758613016260601182:1=1:=rfl
theorem tw7152112439311388980:1=1:=rfl
theorem tw9537613722034048614:1=1:=rfl
theorem tw4810487143886282186:1=1:=rfl
theorem tw120718409333110024:1=1:=rfl
theorem tw11992413014471793337:1=1:=rfl
theorem tw3417728205392625153:1=1:=rfl
theorem tw10042191219577936796:1=1:=rfl
theorem tw2081142544218294660:1=1:=rfl
theorem tw18012314186692142129:1=1:=rfl
theorem tw10152942862437313469:1=1:=rfl
theorem tw8654361266980771809:1=1:=rfl
theorem tw11975112565964208855:1=1:=rfl
theorem tw2204186637409940828:1=1:=rfl
theorem tw17057648035698908853:1=1:=rfl
theorem tw17741675759815268020:1=1:=rfl
theorem tw16738281584696182464:1=1:=rfl
theorem tw16427351177076115345:1=1:=rfl
theorem tw5023399758296306473:1=1:=rfl
theorem tw5177909523219961245:1=1:=rfl
theorem tw14557230368323441726:1=1:=rfl
theorem tw11373851707310274246:1=1:=rfl
theorem tw4415372621949684941:1=1:=rfl
theorem tw11055740525300235554:1=1:=rfl
theorem tw17774721230994841196:1=1:=rfl
theorem tw13554973007035678440:1=1:=rfl
theorem tw4584797284122957168:1=1:=rfl
theorem tw1582027461754959002:1=1:=rfl
theorem tw16256730434885215212:1=1:=rfl
theorem tw2612086071143232390:1=1:=rfl
theorem tw4744152581551326177:1=1:=rfl
theorem tw17577446975910719326:1=1:=rfl
theorem tw114582727964402823:1=1:=rfl
theorem tw423151835213191082:1=1:=rfl
theorem tw14044503517037280235:1=1:=rfl
theorem tw14841471233303270617:1=1:=rfl
theorem tw1095264210885014470:1=1:=rfl
theorem tw2986423762974663595:1=1:=rfl
theorem tw17271125406732838224:1=1:=rfl
theorem tw12460493611259717254:1=1:=rfl
theorem tw7209508236401190541:1=1:=rfl
theorem tw17454288361421746645:1=1:=rfl
theorem tw5311308559914631689:1=1:=rfl
theorem tw7170321211459699839:1=1:=rfl
theorem tw17303506376781472502:1=1:=rfl
theorem tw14644899233044536011:1=1:=rfl
theorem tw14686536840694052343:1=1:=rfl
theorem tw4224340539348084563:1=1:=rfl
theorem tw11819079199135756125:1=1:=rfl
theorem tw10140722800880995207:1=1:=rfl
theorem tw16905185313503494422:1=1:=rfl
theorem tw13110715634065276806:1=1:=rfl
theorem tw6393738978337209799:1=1:=rfl
theorem tw9139197415727468557:1=1:=rfl
theorem tw6870573804180309996:1=1:=rfl
theorem tw3470617981688020446:1=1:=rfl
theorem tw4216255239196523845:1=1:=rfl
theorem tw16717431307538897370:1=1:=rfl
theorem tw8302140155262308382:1=1:=rfl
theorem tw7610367916166243907:1=1:=rfl
theorem tw1842478189625825160:1=1:=rfl
theorem tw12072782962803883330:1=1:=rfl
theorem tw9531995421820323175:1=1:=rfl
theorem tw16989550529425003256:1=1:=rfl
theorem tw2430505437105621368:1=1:=rfl
theorem tw14758882640992718823:1=1:=rfl
theorem tw17920633150976848641:1=1:=rfl
theorem tw7890149727973921099:1=1:=rfl
theorem tw1124520963539986252:1=1:=rfl
theorem tw11245341676338995169:1=1:=rfl
theorem tw11797978134843324184:1=1:=rfl
theorem tw13531845539171752162:1=1:=rfl
theorem tw16277810155236613121:1=1:=rfl
theorem tw4669495520419268393:1=1:=rfl
theorem tw8727463726617560024:1=1:=rfl
theorem tw10125922837774377341:1=1:=rfl
theorem tw13678785603591794977:1=1:=rfl
theorem tw14806194649183228514:1=1:=rfl
theorem tw3572073499081332135:1=1:=rfl
theorem tw5210704274063867186:1=1:=rfl
theorem tw8086949007642482292:1=1:=rfl
theorem tw15135252805388462754:1=1:=rfl
theorem tw13751627940593049553:1=1:=rfl
theorem tw540205388697739314:1=1:=rfl
theorem tw15696476285837199853:1=1:=rfl
theorem tw14168147728000199863:1=1:=rfl
theorem tw13610078817024490539:1=1:=rfl
theorem tw14772724219700518626:1=1:=rfl
theorem tw14182210456264058378:1=1:=rfl
theorem tw2449582511445134671:1=1:=rfl
theorem tw4633442079256536908:1=1:=rfl
theorem tw6762753333448866581:1=1:=rfl
theorem tw11178237181312478548:1=1:=rfl
theorem tw4777501252382121520:1=1:=rfl
theorem tw13713277537535060372:1=1:=rfl
theorem tw3479465362505524698:1=1:=rfl
theorem tw5608464860189964223:1=1:=rfl
theorem tw4276839236634551019:1=1:=rfl
theorem tw5974236564117087201:1=1:=rfl
theorem tw10651183476852829844:1=1:=rfl
theorem tw5804841129711811771:1=1:=rfl
theorem tw1570528098870976310:1=1:=rfl
theorem tw9633907419175815881:1=1:=rfl
theorem tw15578924209383211204:1=1:=rfl
theorem tw15834713839504715096:1=1:=rfl
theorem tw3260508552327083325:1=1:=rfl
theorem tw11933916010241465942:1=1:=rfl
theorem tw5328047124566509078:1=1:=rfl
theorem tw6029554187383519987:1=1:=rfl
theorem tw8824849881833288782:1=1:=rfl
theorem tw3005110044965993046:1=1:=rfl
theorem tw9741134435492207126:1=1:=rfl
theorem tw3902030338455368715:1=1:=rfl
theorem tw15976011472761927358:1=1:=rfl
theorem tw8500952888090802218:1=1:=rfl
theorem tw3808642338715739831:1=1:=rfl
theorem tw10695503804147559517:1=1:=rfl
theorem tw14759030875535727820:1=1:=rfl
theorem tw5717124403950922930:1=1:=rfl
theorem tw13428046171518478627:1=1:=rfl
theorem tw1916126356348603311:1=1:=rfl
theorem tw4786734408363895810:1=1:=rfl
theorem tw14582858813135952656:1=1:=rfl
theorem tw1138631806195860470:1=1:=rfl
theorem tw5660577757943671286:1=1:=rfl
theorem tw17872109193374968032:1=1:=rfl
theorem tw13596506248471008344:1=1:=rfl
theorem tw16969309839216978625:1=1:=rfl
theorem tw13873147642955515171:1=1:=rfl
theorem tw15061320478450418246:1=1:=rfl
theorem tw12575953172640279160:1=1:=rfl
theorem tw6855231924557969648:1=1:=rfl
theorem tw8130659127743893624:1=1:=rfl
theorem tw11065992725230202141:1=1:=rfl
theorem tw3312581027650449689:1=1:=rfl
theorem tw15025061738071564653:1=1:=rfl
theorem tw13584774715278146849:1=1:=rfl
theorem tw2736448974117598681:1=1:=rfl
theorem tw2382045082601625885:1=1:=rfl
theorem tw13132439034742186279:1=1:=rfl
theorem tw13296899446243719859:1=1:=rfl
theorem tw10613826926808569927:1=1:=rfl
theorem tw4420261303829748486:1=1:=rfl
theorem tw3237927675900033003:1=1:=rfl
theorem tw16210774317091193816:1=1:=rfl
theorem tw12308950483009396140:1=1:=rfl
theorem tw16395053726237613071:1=1:=rfl
theorem tw12581753923495602796:1=1:=rfl
theorem tw5102183336911444221:1=1:=rfl
theorem tw5589291537888714504:1=1:=rfl
theorem tw8605020884303296304:1=1:=rfl
theorem tw9383364892313159455:1=1:=rfl
theorem tw8970032609542100790:1=1:=rfl
theorem tw15862337527746307605:1=1:=rfl
theorem tw12625576981123082277:1=1:=rfl
theorem tw12920980290465981803:1=1:=rfl
theorem tw536330281456645237:1=1:=rfl
theorem tw7634557748363446751:1=1:=rfl
theorem tw1900232036178346346:1=1:=rfl
theorem tw1522056965192903369:1=1:=rfl
theorem tw10250894613053377812:1=1:=rfl
theorem tw10834639124346054013:1=1:=rfl
theorem tw5850159527599459224:1=1:=rfl
theorem tw3851663141958798684:1=1:=rfl
theorem tw10046297662269846909:1=1:=rfl
theorem tw334429581326458734:1=1:=rfl
theorem tw8479358364175132664:1=1:=rfl
theorem tw15701391005930971468:1=1:=rfl
theorem tw369307389237036653:1=1:=rfl
theorem tw16300603460469137083:1=1:=rfl
theorem tw3433207195482326064:1=1:=rfl
theorem tw17404503753990405334:1=1:=rfl
theorem tw14213191843867119637:1=1:=rfl
theorem tw1940920903473360693:1=1:=rfl
theorem tw3071654774095481412:1=1:=rfl
theorem tw2664907086872446982:1=1:=rfl
theorem tw818988479454177805:1=1:=rfl
theorem tw9604146556517873024:1=1:=rfl
theorem tw14957003283049928791:1=1:=rfl
theorem tw12909587205023329709:1=1:=rfl
theorem tw14399417586623651856:1=1:=rfl
theorem tw17006861431792465348:1=1:=rfl
theorem tw1137084105579893119:1=1:=rfl
theorem tw16725366599163634091:1=1:=rfl
theorem tw4432722708724389686:1=1:=rfl
theorem tw16469420244747199621:1=1:=rfl
theorem tw8959592106187931443:1=1:=rfl
theorem tw4740422712241872055:1=1:=rfl
theorem tw2773877056331855751:1=1:=rfl
theorem tw16921997143684913578:1=1:=rfl
theorem tw11725374496461680403:1=1:=rfl
theorem tw13395833368549440859:1=1:=rfl
theorem tw10837025645254350175:1=1:=rfl
theorem tw2591541883405464657:1=1:=rfl
theorem tw15297838238212100745:1=1:=rfl
theorem tw13545825976382791813:1=1:=rfl
theorem tw798551686652083786:1=1:=rfl
theorem tw9148136136289446845:1=1:=rfl
theorem tw7585703209903086305:1=1:=rfl
theorem tw9061589145184421632:1=1:=rfl
theorem tw16871415999911902596:1=1:=rfl
theorem tw11014272184667223171:1=1:=rfl
theorem tw4101127795618644465:1=1:=rfl
theorem tw4590494920529184181:1=1:=rfl
theorem tw16828493573550676712:1=1:=rfl
theorem tw3200262012613880197:1=1:=rfl
theorem tw18324381229088711053:1=1:=rfl
theorem tw2736650439308500079:1=1:=rfl
theorem tw3199156496077683124:1=1:=rfl
theorem tw5197719594718454321:1=1:=rfl
theorem tw17710420978104629717:1=1:=rfl
theorem tw12112891321375229407:1=1:=rfl
theorem tw677280392031819577:1=1:=rfl
theorem tw107197465172851325:1=1:=rfl
theorem tw12896638366086748609:1=1:=rfl
theorem tw5899655866125797567:1=1:=rfl
theorem tw3125785560781812156:1=1:=rfl
theorem tw16203335933699283332:1=1:=rfl
theorem tw14316344387030393750:1=1:=rfl
theorem tw14730963860601886514:1=1:=rfl
theorem tw16171153907397747990:1=1:=rfl
theorem tw3236980202092042343:1=1:=rfl
theorem tw2876005468969476836:1=1:=rfl
theorem tw7324833065740362066:1=1:=rfl
theorem tw16482480240472082952:1=1:=rfl
theorem tw11250079647307131596:1=1:=rfl
theorem tw12970633693845751552:1=1:=rfl
theorem tw14548503841070890534:1=1:=rfl
theorem tw109460884159062462:1=1:=rfl
theorem tw2289061860377864954:1=1:=rfl
theorem tw8520823224788309466:1=1:=rfl
theorem tw12359793611243402918:1=1:=rfl
theorem tw16014966282196415968:1=1:=rfl
theorem tw8446612571076103027:1=1:=rfl
theorem tw15744358042319030642:1=1:=rfl
theorem tw17277356746579691659:1=1:=rfl
theorem tw867787628406428566:1=1:=rfl
theorem tw1046606495736788844:1=1:=rfl
theorem tw9760583263068203928:1=1:=rfl
theorem tw13339242577328893293:1=1:=rfl
theorem tw15465585148514038608:1=1:=rfl
theorem tw4540087711887205913:1=1:=rfl
theorem tw8205767832086700838:1=1:=rfl
theorem tw6698095196045373400:1=1:=rfl
theorem tw12435464029413893902:1=1:=rfl
theorem tw7365516650467055688:1=1:=rfl
theorem tw8100439102450764014:1=1:=rfl
theorem tw10043804612796318851:1=1:=rfl
theorem tw8691137265419256397:1=1:=rfl
theorem tw7607247329314277029:1=1:=rfl
theorem tw5379849427425819722:1=1:=rfl
theorem tw17744228717591019379:1=1:=rfl
theorem tw174585385471347957:1=1:=rfl
theorem tw17441902229437971307:1=1:=rfl
theorem tw3848073612526016053:1=1:=rfl
theorem tw16200548148935426898:1=1:=rfl
theorem tw2756971269435543423:1=1:=rfl
theorem tw8549230004552743875:1=1:=rfl
theorem tw816937691266870230:1=1:=rfl
theorem tw7196502270293314492:1=1:=rfl
theorem tw8491742023807608670:1=1:=rfl
theorem tw12186353768843289497:1=1:=rfl
theorem tw4673351088675520415:1=1:=rfl
theorem tw15497971000432273327:1=1:=rfl
theorem tw17077695907243514198:1=1:=rfl
theorem tw9063977413465280039:1=1:=rfl
theorem tw30403578660856846:1=1:=rfl
theorem tw3509443609232611287:1=1:=rfl
theorem tw1845346444992595581:1=1:=rfl
theorem tw11429456333203671819:1=1:=rfl
theorem tw9403858661505524816:1=1:=rfl
theorem tw9042008011283319945:1=1:=rfl
theorem tw6770282580001503099:1=1:=rfl
theorem tw222453882843015950:1=1:=rfl
theorem tw15822927670925551547:1=1:=rfl
theorem tw2023440278396544722:1=1:=rfl
theorem tw12809344113630251305:1=1:=rfl
theorem tw9791570682393970666:1=1:=rfl
theorem tw14629587426392345442:1=1:=rfl
theorem tw10225086404094908211:1=1:=rfl
theorem tw11509780328439028432:1=1:=rfl
theorem tw8824223133130032610:1=1:=rfl
theorem tw7959826088846365431:1=1:=rfl
theorem tw1597104651564126047:1=1:=rfl
theorem tw873359388284008887:1=1:=rfl
theorem tw2656473225981042553:1=1:=rfl
theorem tw14755482128003971618:1=1:=rfl
end PySem.W.Fast
open PySem PySem.W PyProof.Rows L2
set_option maxRecDepth 100000 in
set_option maxHeartbeats 0 in
theorem PySem.Challenge.cw_mixbench_k81_texts_of_patches_holds : PySem.Challenge.rw_mixbench_k81_texts_of_patches.Holds := by
 w_on; o_law; k_head; (case hw => w_witness2)
 k_fill
 refine L2.h5v (l := PySem.Challenge.rw_mixbench_k81_texts_of_patches) (k := 15) (x := "_law_script") (CX := fun _ => L2.CX0) rfl rfl ⟨rfl, by decide, by decide⟩ (fun w h Y => PySem.W.kIn_of Y) ?F (fun _ _ _ _ _ z => z)
 case F =>
  intro w mg fa h KX G hmg
  refine' My.all_mk (wd := w) KX G hmg ⟨?g2v, ?g2w, ?f5u, ?g2x, ?g2y, ?g2z, ?f5v, ?f5w, ?d3w, ?f5y, ?d3y, ?c7m, ?d3z, ?f0j, ?d4g, ?d4h, ?h1z, ?g3a, ?f0k, ?d4i, ?c0i, ?c0j, ?d0j, ?c0k, ?d0k, ?h2a, ?c4m, ?d0l, ?c4n, ?d0m, ?c4o, ?f0l, ?d4j, ?f0m, ?f0n, ?f0o, ?c4p, ?d4k, ?f0p, ?d4l, ?f0q, ?d0n, ?d4m, ?f0r, ?d0o, ?d4n, ?c4q, ?d4o, ?d0p, ?d0q, ?d0r, ?d0s, ?d0t, ?b6n, ?d4p, ?h6w, ?h2b, ?d2t, ?b3r, ?a2z, ?h2c, ?c7n, ?c4r, ?a8j, ?a2q, ?g3b, ?c4s, ?c2m, ?b3s, ?a3g, ?a3h, ?a2r, ?a1s, ?a0y, ?h2d, ?c7o, ?c4t, ?b3t, ?a3i, ?a3j, ?h2e, ?c7p, ?c4u, ?b3u, ?a3k, ?a3l, ?h2f, ?c7q, ?c4v, ?a8k, ?a1p, ?a1t, ?a2j, ?g3c, ?c2n, ?c4w, ?b8k, ?a4l, ?a3u, ?g3d, ?c2o, ?b9n, ?a3n, ?a5u, ?a5v, ?f0s, ?a0r, ?a0i, ?a0l, ?a0k, ?a0m, ?f5z, ?a8l, ?a7s, ?c1p, ?b8l, ?c7r, ?c1q, ?a8q, ?b6w, ?b6y, ?b8m, ?b6z, ?b7z, ?b6o, ?b3l, ?b9o, ?c3k, ?c3l, ?b6p, ?g0g, ?d4q, ?c7s, ?c3m, ?a2h, ?a8r, ?c1r, ?c4y, ?c4z, ?c1s, ?c1t, ?b6q, ?c5g, ?c5h, ?c5i, ?c5j, ?c5k, ?c5l, ?a8s, ?c0l, ?f4k, ?b3v, ?c1u, ?b8n, ?c1v, ?a6p, ?a5l, ?b1j, ?a3o, ?c7t, ?c3n, ?c7u, ?c7v, ?c7w, ?b3w, ?c3o, ?c7y, ?c3p, ?c1w, ?b8o, ?b7g, ?c7z, ?c1y, ?a9r, ?b8p, ?c5m, ?c1z, ?c5n, ?c5o, ?b7h, ?b8q, ?b8r, ?c2g, ?b8s, ?b3y, ?c0m, ?c3q, ?b0i, ?c0n, ?b3m, ?a9s, ?b9p, ?c0o, ?b6r, ?c0p, ?c0q, ?b1k, ?a5w, ?b6s, ?h2g, ?i1m, ?i1n, ?y_bool, ?i1o, ?c8g, ?i1p, ?h2i, ?i1q, ?g3e, ?d4r, ?i1r, ?g3f, ?i1s, ?d4s, ?d4t, ?a7v, ?a7w, ?a7y, ?a7z, ?c8h, ?c2h, ?c8i, ?c2i, ?c5p, ?c5q, ?d4u, ?d4v, ?c0r, ?c0s, ?c5r, ?c5s, ?g3g, ?g3h, ?d4w, ?d4y, ?c0t, ?c0u, ?d4z, ?b3z, ?b0n, ?b4g, ?b4h, ?b0o, ?b4i⟩ ?ld_READERS ?kd_READERS ?ne_READERS
  case g2v | g2w | f5u | g2x | g2y | g2z | f5v | f5w | d3w | f5y | d3y | c7m | d3z | f0j | d4g | d4h | h1z | g3a | f0k | d4i | c0i | c0j | d0j | c0k | d0k | h2a | c4m | d0l | c4n | d0m | c4o | f0l | d4j | f0m | f0n | f0o | c4p | d4k | f0p | d4l | f0q | d0n | d4m | f0r | d0o | d4n | c4q | d4o | d0p | d0q | d0r | d0s | d0t | b6n | d4p | h6w | d4s | a7v | a7y | c8h => dsimp only; k_is
  case c8i | c5p | d4u | c0r | c5r | g3g | d4w | c0t | d4z | b3z | b0n | b4g | b4h | b0o | b4i => dsimp only; k_is
  case h2b | b3r | a8j | b3s | b3t | b3u | a8k | b8k | b9n | a0r => refine' ⟨?_, ?_, ?_, ?_⟩ <;> ((try dsimp only); k_is)
  case d2t | c7n | c4r | c4s | c2m | c7o | c4t | c7p | c4u | c7q | c4v | c2n | c4w | c2o | a8l | a7s | c1p | b8l | c7r | c1q | a8q | b6w | b6y | b8m | b6z | b7z => (dsimp only; refine' ⟨?a, ?l, ?c⟩; (case a => k_is); (case l => k_is); (case c => k_is))
  case a2z | a2q | a3g | a3h | a2r | a1s | a0y | a3i | a3j | a3k | a3l | a1p | a1t | a2j | a4l | a3u | a3n | a5u | a5v | a0i | a0l | a0k | a0m => dsimp only; unfold a1n; k_is
  case h2c | g3b | h2d | h2e | h2f | g3c | g3d | f0s | f5z => (dsimp only; refine' ⟨?a, ?l, ?c, ?k⟩; (case a => k_is); (case l => k_is); (case c => k_is); (case k => k_is))
  case b6o | b3l | b9o | c3k | c3l | b6p | g0g | d4q | c7s | c3m | a2h | a8r | c1r | c4y | c4z | c1s | c1t | b6q | c5g | c5h | c5i | c5j | c5k | c5l | a8s | c0l | f4k | b3v | c1u | b8n | c1v | a6p | a5l | b1j | a3o | c7t | c3n | c7u | c7v | c7w | b3w | c3o | c7y | c3p | c1w | b8o | b7g | c7z | c1y | a9r | b8p | c5m | c1z | c5n | c5o | b7h | b8q | b8r | c2g | b8s => (dsimp only; refine' a1g ?l ?c ?k; (try dsimp only); (case l => k_is); (case c => k_is); (case k => k_is))
  case b3y | c0m | c3q | b0i | c0n | b3m | a9s | b9p | c0o | b6r | c0p | c0q | b1k | a5w | b6s | h2g => (dsimp only; refine' a1g ?l ?c ?k; (try dsimp only); (case l => k_is); (case c => k_is); (case k => k_is))
  case i1m | i1n | y_bool | i1o | c8g | i1p | h2i | i1q | g3e | d4r | i1r | g3f | i1s | ld_READERS => k_is
  case d4t | a7w | a7z | c2h | c2i | c5q | d4v | c0s | c5s | g3h | d4y | c0u => exact ⟨_, rfl⟩
  (case kd_READERS => k_keys)
  (case ne_READERS => decide)
