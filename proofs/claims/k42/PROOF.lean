import PyProof.Rows.All
import Wide.All
import OpenK.AllK
import Wide.FinOn
import Lean
import PyProof.EqAt
import PyProof.EqKinds
import PyProof.TupleCall
import PySem.Challenge.RW_mixbench_k42_whole_parts_change_places
set_option Elab.async false
set_option linter.all false
set_option maxRecDepth 100000
namespace L2
open PySem PySem.Spec PyProof.Rows
noncomputable abbrev Key := Sum Int Str
noncomputable def h5n : Key -> Value -> Bool
 | .inl k, v => Value.isInt k v
 | .inr x, v => Value.isStrOf x v
noncomputable def keyH (w : World) : Key -> Int
 | .inl k => hashInt k
 | .inr x => hashStr w x
theorem a5h : ∀ {k : Key} {v : Value}, h5n k v = true -> (∃ i t, k = Sum.inl i /\ v = Value.int i t) \/ (∃ x t, k = Sum.inr x /\ v = Value.str x t)
 | .inl i, v, h => by
  obtain ⟨t, e⟩ := Value.isInt_shape (k := i) (v := v) h
  exact .inl ⟨i, t, rfl, e⟩
 | .inr x, v, h => by
  obtain ⟨t, e⟩ := Value.isStrOf_shape (x := x) (v := v) h
  exact .inr ⟨x, t, rfl, e⟩
theorem h5o (a b : Int) : decide ((Sum.inl a : Key) = Sum.inl b) = (a == b) := by
 by_cases e : a = b
 ·subst e; simp
 ·have h : ¬ (Sum.inl a : Key) = Sum.inl b := fun q => e (Sum.inl.inj q)
  rw [decide_eq_false h]
  exact (beq_eq_false_iff_ne.mpr e).symm
theorem h5p (a b : Str) : decide ((Sum.inr a : Key) = Sum.inr b) = decide (a = b) := by
 by_cases e : a = b
 ·subst e; simp
 ·have h : ¬ (Sum.inr a : Key) = Sum.inr b := fun q => e (Sum.inr.inj q)
  rw [decide_eq_false h, decide_eq_false e]
theorem h5q (a : Int) (b : Str) : decide ((Sum.inl a : Key) = Sum.inr b) = false := decide_eq_false (fun q => nomatch q)
theorem h5r (a : Str) (b : Int) : decide ((Sum.inr a : Key) = Sum.inl b) = false := decide_eq_false (fun q => nomatch q)
noncomputable def g2z (prog : Program) (w : World) : PySem.KeyKind prog w Key where
 is := h5n
 hash := keyH w
 inj := fun v a b ha hb => by
  rcases a5h ha with ⟨i, t, rfl, rfl⟩ | ⟨x, t, rfl, rfl⟩
  ·rcases a5h hb with ⟨j, u, rfl, e⟩ | ⟨y, u, rfl, e⟩
   ·injection e with e1 _; rw [e1]
   ·exact nomatch e
  ·rcases a5h hb with ⟨j, u, rfl, e⟩ | ⟨y, u, rfl, e⟩
   ·exact nomatch e
   ·injection e with e1 _; rw [e1]
 byValue := fun k v h => by
  rcases a5h h with ⟨i, t, rfl, rfl⟩ | ⟨x, t, rfl, rfl⟩ <;> rfl
 pyHash := fun hv h => by
  rcases a5h hv with ⟨i, t, rfl, rfl⟩ | ⟨x, t, rfl, rfl⟩
  ·exact wpAny_pyHash_int h
  ·exact wpAny_pyHash_str h
 eqBool := fun hu hv h => by
  rcases a5h hu with ⟨i, t, rfl, rfl⟩ | ⟨x, t, rfl, rfl⟩
  ·rcases a5h hv with ⟨j, u, rfl, rfl⟩ | ⟨y, u, rfl, rfl⟩
   ·rw [h5o] at h; exact wpAny_eqBool_int h
   ·rw [h5q] at h; exact SeqAt.EqAt.int_str i t y u _ _ _ _ h
  ·rcases a5h hv with ⟨j, u, rfl, rfl⟩ | ⟨y, u, rfl, rfl⟩
   ·rw [h5r] at h; exact SeqAt.EqAt.str_int x t j u _ _ _ _ h
   ·rw [h5p] at h; exact wpAny_eqBool_str h
 «strs» := fun k x t v h => by
  rcases a5h h with ⟨i, u, rfl, e⟩ | ⟨y, u, rfl, e⟩
  ·exact nomatch e
  ·injection e with e1 _
   subst e1
   cases v <;> rfl
end L2
namespace L2
open PySem PySem.Spec PyProof.Rows
inductive V where
 | non | bl (b : Bool) | int (i : Int) | str (x : Str) | byt (b : Array UInt8) | flt (b : UInt64) | ref (a : Addr) | ty (n : String)
 deriving DecidableEq
noncomputable def RelV : V -> Value -> Prop
 | .non, u => u = Value.none
 | .bl b, u => u = Value.bool b
 | .int i, u => ∃ t, u = Value.int i t
 | .str x, u => ∃ t, u = Value.str x t
 | .byt b, u => ∃ t, u = Value.bytes b t
 | .flt b, u => ∃ t, u = Value.float b t
 | .ref a, u => u = Value.ref a
 | .ty n, u => u = Value.type n
noncomputable abbrev Vals : List V -> List Value -> Prop := Paired RelV
theorem Vals.length {xs : List V} {us : List Value} (r : Vals xs us) : xs.length = us.length := Paired.length r
theorem Vals.get : ∀ {xs : List V} {us : List Value} {i : Nat} {x : V}, Vals xs us -> xs[i]? = some x -> ∃ u, us[i]? = some u /\ RelV x u
 | _, _, _, _, .nil, e => by simp at e
 | _, _, 0, _, .cons r _, e => by simp at e; subst e; exact ⟨_, rfl, r⟩
 | _, _, i + 1, x, .cons _ t, e => by
  obtain ⟨u, h1, h2⟩ := Vals.get (i := i) (x := x) t (by simpa using e)
  exact ⟨u, by simpa using h1, h2⟩
theorem Vals.set {x : V} {u : Value} (r : RelV x u) : ∀ {xs : List V} {us : List Value} (i : Nat), Vals xs us -> Vals (xs.set i x) (us.set i u)
 | _, _, _, .nil => .nil
 | _, _, 0, .cons _ t => .cons r t
 | _, _, i + 1, .cons q t => .cons q (Vals.set r i t)
theorem Vals.append : ∀ {xs ys : List V} {us ws : List Value}, Vals xs us -> Vals ys ws -> Vals (xs ++ ys) (us ++ ws)
 | _, _, _, _, .nil, s => s
 | _, _, _, _, .cons r t, s => .cons r (Vals.append t s)
theorem Vals.take : ∀ {xs : List V} {us : List Value} (n : Nat), Vals xs us -> Vals (xs.take n) (us.take n)
 | _, _, 0, _ => .nil
 | _, _, _ + 1, .nil => .nil
 | _, _, n + 1, .cons r t => .cons r (Vals.take n t)
theorem Vals.drop : ∀ {xs : List V} {us : List Value} (n : Nat), Vals xs us -> Vals (xs.drop n) (us.drop n)
 | _, _, 0, r => r
 | _, _, _ + 1, .nil => .nil
 | _, _, n + 1, .cons _ t => Vals.drop n t
theorem Vals.none_of : ∀ {xs : List V} {us : List Value} {i : Nat}, Vals xs us -> xs[i]? = none -> us[i]? = none := fun {xs us i} r e => by
 have h1 := r.length
 have h2 : xs.length <= i := List.getElem?_eq_none_iff.mp e
 exact List.getElem?_eq_none_iff.mpr (by omega)
noncomputable def f8q : Option V -> Option Value -> Prop
 | some v, some u => RelV v u
 | none, none => True
 | _, _ => False
noncomputable def KV {κ : Type} : List (κ × V) -> List (κ × Value) -> Prop := Paired fun (p : κ × V) (q : κ × Value) => p.1 = q.1 /\ RelV p.2 q.2
noncomputable def kV : Key -> V
 | .inl i => .int i
 | .inr x => .str x
inductive HO where
 /-- a list -/
 | lst (xs : List V)
 /-- a tuple (never changes) -/
 | tup (xs : List V)
 /-- a dict whose keys are ints and texts; one whose keys are tuples of ints and texts (the empty one is both) -/
 | dK (kvs : List (Key × V)) | dT (kvs : List (List Key × V))
 /-- a set of ints: its members, its size -/
 | set (S : Int -> Bool) (n : Nat)
 /-- an instance of the class at C, its dict at dx, its attributes -/
 | ins (C dx : Addr) (fs : List (Str × V))
 /-- the dict of the instance at x -/
 | own (x : Addr)
 /-- the dict of an exception -/
 | xd (fs : List (Str × V))
 /-- a bound method, f of x -/
 | met (f x : Addr)
 /-- a range object lo, lo + 1, .. below hi -/
 | rng (lo hi : Int)
 /-- a thing that is known to the object (the script; a dict while a loop walks it): read, never written while it is so -/
 | frz (o : Obj) (u : HO)
 /-- a code object's table -/
 | tbl (ps : Array Value)
 /-- any other thing, by what is true of its one object (a def of one's own: SetO a S n := HO.ext fun h => ..) -/
 | ext (φ : Heap -> Prop)
noncomputable abbrev Hp := Addr -> Option HO
noncomputable def upd (H : Hp) (a : Addr) (o : HO) : Hp := fun b => if b = a then some o else H b
theorem a6j {H : Hp} {a : Addr} {o : HO} : upd H a o a = some o := by unfold upd; rw [if_pos rfl]
theorem a3m {H : Hp} {a b : Addr} {o : HO} (h : b ≠ a) : upd H a o b = H b := by unfold upd; rw [if_neg h]
theorem a3s {H : Hp} {a b : Addr} {o : HO} (h : H a = some o) (h' : H b = none) : a ≠ b := by
 intro e; subst e; rw [h] at h'; cases h'
section
variable (P : Program) (w : World)
noncomputable def b4y (H : Hp) (h : Heap) (a : Addr) : HO -> Prop
 | .lst xs => xs.length ≤ sizeLine ∧ ∃ (its : List Value) (n : Nat), Vals xs its ∧ h.get? a = some { cls := .type "list", data := .seq its.toArray n }
 | .tup xs => xs.length <= sizeLine /\ ∃ its : List Value, Vals xs its /\ IsTup h a its.toArray
 | .dK kvs => kvs.length <= sizeLine /\ (a == sysModules) = false /\ ∃ vs, KV kvs vs /\ h.DictOf (g2z P w) a vs
 | .dT kvs => kvs.length <= sizeLine /\ (a == sysModules) = false /\ ∃ xs : List (List Key × Addr × Value),
   Paired (fun (p : List Key × V) (q : List Key × Addr × Value) => p.1 = q.1 /\ H q.2.1 = some (.tup (p.1.map kV)) /\ RelV p.2 q.2.2) kvs xs /\
   ∃ o es ep, h.get? a = some o /\ o.ExactDict /\ o.data = .dict es ep /\ es.toList = xs.map (entryOfKey (tupleKind (g2z P w))) /\ (xs.map (·.1)).Nodup
 | .set S n => h.SetOf (intKind P w) a S n
 | .ins C dx fs => H dx = some (.own a) /\ fs.length <= 1000 /\ dx ≠ a /\ h.get? a = some (PySem.W.instObj C dx) /\
   ∃ mA, h.Ns1 dx mA /\ (∀ f, f8q (fs.lookup f) (mA f)) /\ PySem.Within mA (fs.map (·.1))
 | .own _ => ∃ o, h.get? a = some o
 | .xd fs => ∃ mA, h.Ns1 a mA /\ ∀ f, f8q (fs.lookup f) (mA f)
 | .rng lo hi => ∃ t u v, h.get? a = some { cls := .type "range", data := .fields #[.int lo t, .int hi u, .int 1 v] }
 | .frz o u => h.get? a = some o /\ b4y H h a u
 | .tbl ps => h.get? a = some { cls := .none, data := .fields ps }
 | .met f x => h.get? a = some (PySem.W.methodObj (.ref f) (.ref x))
 | .ext φ => φ h /\ (∃ o, h.get? a = some o) /\ ∀ h1 h2 : Heap, φ h1 -> (∀ o, h1.get? a = some o -> h2.get? a = some o) -> φ h2
noncomputable def HOk (H : Hp) (h : Heap) : Prop := ∀ a o, H a = some o -> b4y P w H h a o
end
section
variable {P : Program} {w : World} {H H' : Hp} {h h' : Heap} {a : Addr} {o : HO}
theorem b4y.lt (x : b4y P w H h a o) : a < h.objs.size := by
 cases o with
 | lst xs => obtain ⟨_, _, _, _, e⟩ := x; exact Heap.lt_size e
 | tup xs => obtain ⟨_, _, _, p⟩ := x; exact p.lt
 | dK kvs => obtain ⟨_, _, _, _, o, _, _, e, _⟩ := x; exact Heap.lt_size e
 | dT kvs => obtain ⟨_, _, _, _, o, _, _, e, _⟩ := x; exact Heap.lt_size e
 | set S n => obtain ⟨o, _, _, _, e, _⟩ := x; exact Heap.lt_size e
 | ins C dx fs => obtain ⟨_, _, _, e, _⟩ := x; exact Heap.lt_size e
 | own y => obtain ⟨_, e⟩ := x; exact Heap.lt_size e
 | xd fs => obtain ⟨_, ⟨_, _, _, e, _⟩, _⟩ := x; exact Heap.lt_size e
 | rng lo hi => obtain ⟨_, _, _, e⟩ := x; exact Heap.lt_size e
 | frz ob u => obtain ⟨e, _⟩ := x; exact Heap.lt_size e
 | tbl ps => exact Heap.lt_size (show h.get? a = some _ from x)
 | met f y => exact Heap.lt_size (show h.get? a = some _ from x)
 | ext φ => obtain ⟨_, ⟨_, e⟩, _⟩ := x; exact Heap.lt_size e
theorem Paired.i1g {α β : Type} {F G : α -> β -> Prop} : ∀ {l₁ : List α} {l₂ : List β}, Paired F l₁ l₂ -> (∀ a b, F a b -> G a b) -> Paired G l₁ l₂
 | _, _, .nil, _ => .nil
 | _, _, .cons r t, f => .cons (f _ _ r) (Paired.i1g t f)
theorem b4y.stay (x : b4y P w H h a o) (k : ∀ b u, (b = a \/ H b = some (.own a)) -> h.get? b = some u -> h'.get? b = some u)
  (ho : ∀ b, H b = some (.own a) -> H' b = some (.own a)) (ht : ∀ b xs, H b = some (.tup xs) -> H' b = some (.tup xs)) : b4y P w H' h' a o := by
 induction o with
 | lst xs => obtain ⟨z, its, n, r, e⟩ := x; exact ⟨z, its, n, r, k _ _ (.inl rfl) e⟩
 | tup xs => obtain ⟨z, its, r, ob, e, c⟩ := x; exact ⟨z, its, r, ob, k _ _ (.inl rfl) e, c⟩
 | dK kvs => obtain ⟨z, y, vs, r, ob, es, ep, e, c⟩ := x; exact ⟨z, y, vs, r, ob, es, ep, k _ _ (.inl rfl) e, c⟩
 | dT kvs =>
  obtain ⟨z, y, xs, r, ob, es, ep, e, c⟩ := x
  exact ⟨z, y, xs, Paired.i1g r fun p q z => ⟨z.1, ht _ _ z.2.1, z.2.2⟩, ob, es, ep, k _ _ (.inl rfl) e, c⟩
 | set S n => obtain ⟨ob, es, ep, t, e, c⟩ := x; exact ⟨ob, es, ep, t, k _ _ (.inl rfl) e, c⟩
 | ins C dx fs =>
  obtain ⟨d, z, ne, e, mA, ⟨od, es, ep, e2, c⟩, r⟩ := x
  exact ⟨ho _ d, z, ne, k _ _ (.inl rfl) e, mA, ⟨od, es, ep, k _ _ (.inr d) e2, c⟩, r⟩
 | own y => obtain ⟨ob, e⟩ := x; exact ⟨ob, k _ _ (.inl rfl) e⟩
 | xd fs => obtain ⟨mA, ⟨od, es, ep, e, c⟩, r⟩ := x; exact ⟨mA, ⟨od, es, ep, k _ _ (.inl rfl) e, c⟩, r⟩
 | rng lo hi => obtain ⟨t, u, v, e⟩ := x; exact ⟨t, u, v, k _ _ (.inl rfl) e⟩
 | frz ob u ih => obtain ⟨e, q⟩ := x; exact ⟨k _ _ (.inl rfl) e, ih q⟩
 | tbl ps =>
  have e : h.get? a = some { cls := .none, data := .fields ps } := x
  show h'.get? a = some { cls := .none, data := .fields ps }
  exact k a _ (.inl rfl) e
 | met f y =>
  have e : h.get? a = some (PySem.W.methodObj (.ref f) (.ref y)) := x
  show h'.get? a = some (PySem.W.methodObj (.ref f) (.ref y))
  exact k a _ (.inl rfl) e
 | ext φ => obtain ⟨p, ⟨o, e⟩, st⟩ := x; exact ⟨st _ _ p fun o q => k _ _ (.inl rfl) q, ⟨o, k _ _ (.inl rfl) e⟩, st⟩
theorem HOk.lt (x : HOk P w H h) (e : H a = some o) : a < h.objs.size := (x a o e).lt
theorem HOk.fresh (x : HOk P w H h) (e : h.objs.size <= a) : H a = none := by
 cases q : H a with
 | none => rfl
 | some u => exact absurd (Nat.lt_of_lt_of_le (x.lt q) e) (Nat.lt_irrefl _)
theorem HOk.kept (x : HOk P w H h) (k : ∀ b u, h.get? b = some u -> h'.get? b = some u) : HOk P w H h' := fun a o e =>
 (x a o e).stay (fun b u _ q => k b u q) (fun _ q => q) fun _ _ q => q
theorem HOk.laid (x : HOk P w H h) (k : ∀ b u, h.get? b = some u -> h'.get? b = some u) (hp : h.objs.size <= a) (new : b4y P w (upd H a o) h' a o) : HOk P w (upd H a o) h' := fun b u e => by
 have hn := x.fresh hp
 by_cases hb : b = a
 ·subst hb; rw [a6j] at e; cases e; exact new
 ·rw [a3m hb] at e
  exact (x b u e).stay (fun c v _ q => k c v q) (fun c q => by rw [a3m (a3s q hn)]; exact q) fun c xs q => by rw [a3m (a3s q hn)]; exact q
end
noncomputable def Rd (H : Hp) (a : Addr) (u : HO) : Prop := H a = some u \/ ∃ o, H a = some (.frz o u)
theorem Rd.of {H : Hp} {a : Addr} {u : HO} (h : H a = some u) : Rd H a u := .inl h
theorem Rd.ok {P : Program} {w : World} {H : Hp} {h : Heap} {a : Addr} {u : HO} (r : Rd H a u) (x : HOk P w H h) : b4y P w H h a u := by
 rcases r with r | ⟨o, r⟩
 ·exact x a u r
 ·obtain ⟨_, q⟩ := x a _ r
  exact q
noncomputable def Mut : Option HO -> Prop
 | some (.lst _) => True
 | some (.dK _) => True
 | some (.dT _) => True
 | some (.set _ _) => True
 | some (.ins _ _ _) => True
 | some (.ext _) => True
 | _ => False
section
variable {P : Program} {w : World} {H : Hp} {h h' : Heap} {x e : Addr} {o' : HO}
theorem HOk.write (ok : HOk P w H h) (mu : Mut (H x)) (he : e = x \/ H e = some (.own x)) (k : ∀ b u, b ≠ e -> h.get? b = some u -> h'.get? b = some u) (heo : ∃ u, h'.get? e = some u)
  (new : b4y P w (upd H x o') h' x o') : HOk P w (upd H x o') h' := fun b u q => by
 have i3e : ∀ c y, H c = some (.own y) -> c ≠ x := fun c y r z => by subst z; rw [r] at mu; exact mu
 have ntup : ∀ c xs, H c = some (.tup xs) -> c ≠ x := fun c xs r z => by subst z; rw [r] at mu; exact mu
 by_cases hb : b = x
 ·subst hb; rw [a6j] at q; cases q; exact new
 ·rw [a3m hb] at q
  by_cases hbe : b = e
  ·have q' : H b = some (.own x) := by
    rcases he with z | z
    ·exact absurd (hbe.trans z) hb
    ·rw [hbe]; exact z
   rw [q] at q'; cases q'
   obtain ⟨v, hv⟩ := heo
   exact ⟨v, by rw [hbe]; exact hv⟩
  ·refine (ok b u q).stay (fun c v hc r => k c v ?_ r) (fun c r => by rw [a3m (i3e c b r)]; exact r) fun c xs r => by rw [a3m (ntup c xs r)]; exact r
   rcases hc with rfl | hc
   ·exact hbe
   ·rintro rfl
    rcases he with z | z
    ·exact i3e c b hc z
    ·rw [hc] at z; cases z; exact hb rfl
end
structure Un (fs ex : List Addr) (H H' : Hp) (h h' : Heap) : Prop where
 keep : ∀ b o, h.get? b = some o -> H b = none -> b ∉ fs -> b ∉ ex -> h'.get? b = some o
 slot : ∀ b o, h.get? b = some o -> H b = none -> b ∈ fs -> b ∉ ex -> ∃ sl, h'.get? b = some { o with slots := sl }
 free : ∀ b o, h.get? b = some o -> H b = none -> b ∉ ex -> H' b = none
 there : ∀ b o, h.get? b = some o -> b ∉ ex -> ∃ o', h'.get? b = some o'
 tups : ∀ b xs, H b = some (.tup xs) -> H' b = some (.tup xs)
 f6h : ∀ b o u, H b = some (.frz o u) -> H' b = some (.frz o u)
 f8r : ∀ b ps, H b = some (.tbl ps) -> ∃ more, H' b = some (.tbl (ps ++ more))
section
variable {fs fs' ex ex' : List Addr} {H H1 H2 : Hp} {h h1 h2 h' : Heap} {a x e : Addr} {o : HO}
theorem Un.any (u : Un fs ex H H1 h h1) {b : Addr} {ob : Obj} (q : h.get? b = some ob) (n : H b = none) (hx : b ∉ ex) : ∃ sl, h1.get? b = some { ob with slots := sl } := by
 by_cases hb : b ∈ fs
 ·exact u.slot b ob q n hb hx
 ·exact ⟨ob.slots, u.keep b ob q n hb hx⟩
theorem Un.trans (a : Un fs ex H H1 h h1) (b : Un fs ex H1 H2 h1 h2) : Un fs ex H H2 h h2 where
 keep := fun c ob q n hc hx => b.keep c ob (a.keep c ob q n hc hx) (a.free c ob q n hx) hc hx
 slot := fun c ob q n hc hx => by
  obtain ⟨sl, e1⟩ := a.slot c ob q n hc hx
  obtain ⟨sl', e2⟩ := b.slot c _ e1 (a.free c ob q n hx) hc hx
  exact ⟨sl', e2⟩
 free := fun c ob q n hx => by
  obtain ⟨o', e1⟩ := a.there c ob q hx
  exact b.free c o' e1 (a.free c ob q n hx) hx
 there := fun c ob q hx => by
  obtain ⟨o', e1⟩ := a.there c ob q hx
  exact b.there c o' e1 hx
 tups := fun c xs q => b.tups c xs (a.tups c xs q)
 f6h := fun c ob xs q => b.f6h c ob xs (a.f6h c ob xs q)
 f8r := fun c ps q => by
  obtain ⟨m1, e1⟩ := a.f8r c ps q
  obtain ⟨m2, e2⟩ := b.f8r c _ e1
  exact ⟨m1 ++ m2, by rw [e2, Array.append_assoc]⟩
theorem Un.kept (k : ∀ b u, h.get? b = some u -> h'.get? b = some u) : Un fs ex H H h h' :=
 ⟨fun b ob q _ _ _ => k b ob q, fun b ob q _ _ _ => ⟨ob.slots, k b ob q⟩, fun _ _ _ n _ => n, fun b ob q _ => ⟨ob, k b ob q⟩, fun _ _ q => q, fun _ _ _ q => q, fun _ ps q => ⟨#[], by rw [q]; simp⟩⟩
theorem Un.refl : Un fs ex H H h h := Un.kept fun _ _ q => q
theorem Un.laid (k : ∀ b u, h.get? b = some u -> h'.get? b = some u) (hp : h.objs.size <= a) (hn : H a = none) : Un fs ex H (upd H a o) h h' where
 keep := fun b u q _ _ _ => k b u q
 slot := fun b u q _ _ _ => ⟨u.slots, k b u q⟩
 free := fun b u q n _ => by rw [a3m (Nat.ne_of_lt (Nat.lt_of_lt_of_le (Heap.lt_size q) hp))]; exact n
 there := fun b u q _ => ⟨u, k b u q⟩
 tups := fun b xs q => by rw [a3m (a3s q hn)]; exact q
 f6h := fun b u xs q => by rw [a3m (a3s q hn)]; exact q
 f8r := fun b ps q => ⟨#[], by rw [a3m (a3s q hn), q]; simp⟩
theorem Un.write (mu : Mut (H x)) (he : e = x \/ H e = some (.own x)) (k : ∀ b u, b ≠ e -> h.get? b = some u -> h'.get? b = some u) (heo : ∃ u, h'.get? e = some u) : Un fs ex H (upd H x o) h h' := by
 have hx : ∀ b, H b = none -> b ≠ x := fun b n z => by subst z; rw [n] at mu; exact mu
 have hb : ∀ b, H b = none -> b ≠ e := fun b n z => by
  subst z
  rcases he with r | r
  ·exact hx b n r
  ·rw [n] at r; cases r
 have hm : ∀ b u, H b = some u -> ¬ Mut (some u) -> b ≠ x := fun b u q nm z => by subst z; rw [q] at mu; exact nm mu
 refine ⟨fun b u q n _ _ => k b u (hb b n) q, fun b u q n _ _ => ⟨u.slots, k b u (hb b n) q⟩, fun b u q n _ => by rw [a3m (hx b n)]; exact n, fun b u q _ => ?_,
  fun b xs q => by rw [a3m (hm b _ q fun z => z)]; exact q, fun b u xs q => by rw [a3m (hm b _ q fun z => z)]; exact q, fun b ps q => ⟨#[], by rw [a3m (hm b _ q fun z => z), q]; simp⟩⟩
 by_cases hbe : b = e
 ·subst hbe; exact heo
 ·exact ⟨u, k b u hbe q⟩
theorem Un.mono (u : Un fs ex H H1 h h1) (hs : ∀ b ∈ fs, b ∈ fs') (hx : ∀ b ∈ ex, b ∈ ex') : Un fs' ex' H H1 h h1 :=
 ⟨fun b ob q n hb he => u.keep b ob q n (fun z => hb (hs b z)) fun z => he (hx b z), fun _ _ q n _ he => u.any q n fun z => he (hx _ z), fun b ob q n he => u.free b ob q n fun z => he (hx b z), fun b ob q he => u.there b ob q fun z => he (hx b z), u.tups, u.f6h, u.f8r⟩
end
noncomputable def trk (h : Heap) (H : Hp) : List Addr := (List.range h.objs.size).filter fun a => (H a).isSome
noncomputable def g7o (h : Heap) (H : Hp) : Heap := PySem.W.hideAll h (trk h H)
theorem g3a (h : Heap) (H : Hp) : (g7o h H).objs.size = h.objs.size := PySem.W.hideAll_size _ _
theorem g7p {h : Heap} {H : Hp} {b : Addr} {o : Obj} (e : h.get? b = some o) (n : H b = none) : (g7o h H).get? b = some o :=
 PySem.W.hideAll_get _ e fun hm => by
  have q : (H b).isSome = true := (List.mem_filter.mp hm).2
  rw [n] at q; simp at q
theorem h2j {h : Heap} {H : Hp} {b : Addr} {o : Obj} (e : (g7o h H).get? b = some o) : h.get? b = some o /\ H b = none := by
 have e' : h.get? b = some o := PySem.W.of_hideAll (trk h H) e
 refine ⟨e', ?_⟩
 cases q : H b with
 | none => rfl
 | some x =>
  have hm : b ∈ trk h H := List.mem_filter.mpr ⟨List.mem_range.mpr (Heap.lt_size e'), by simp [q]⟩
  have z : (g7o h H).get? b = none := PySem.W.hideAll_none (trk h H) hm
  rw [z] at e; cases e
noncomputable def h2l (g h : Heap) (L : Addr) : List (Addr × Obj) := (List.range h.objs.size).filterMap fun a => if a = L \/ (g.get? a).isSome = true then none else (h.get? a).map fun o => (a, o)
noncomputable def rest (g h : Heap) (L d : Addr) : List (Addr × Obj) := (h2l g h L).filter fun p => decide (p.1 ≠ d)
end L2
namespace L2
open PySem PySem.Spec PyProof.Rows
structure Mod (K : PySem.W.Frag) (mg : Str -> Option Value) (base : Heap) : Prop where
 kin : K.In base
 glob : base.Ns mainGlobals mg
 blt : ∃ mb, base.Ns builtinsNs mb ∧ ∀ x : Str, x ≠ "__name__" → mb x = bootBuiltins x
 nolimit : base.NoLimit
/-- the context: a def's body (or a comprehension's block) running. base: fixed through the whole law; s₀, H₀: the entry; outer: the frames whose slots others may change (a def's callers); stack: all frames that run;
  ex: iterators that were made ahead of the entry and are walked here (a comprehension's); fn: the names whose cells were made at the entry (a def: all; a comprehension's block: its own); calm: not within an except suite; pn: pins that every state bears; xe: what is wanted of an exception that leaves the code -/
structure Cx where
 prog : Program
 w : World
 K : PySem.W.Frag
 mg : Str -> Option Value
 base : Heap
 A : Around
 N : List Str
 s₀ : Shared
 H₀ : Hp
 env : Env
 outer : List Env
 stack : List Env
 ex : List Addr
 fn : Str -> Bool
 calm : Bool
 pn : List (Addr × Obj)
 xe : Value -> Shared -> Prop
noncomputable def frs (l : List Env) : List Addr := l.filterMap (·.frame)
noncomputable abbrev Cx.fs (X : Cx) : List Addr := frs X.outer
noncomputable def Vis (sc : Scope) (x : Str) : Prop := sc.names.lookup x = some .local \/ sc.names.lookup x = some .cell \/ sc.names.lookup x = some .free
noncomputable def Loc (sc : Scope) (x : Str) : Prop := sc.names.lookup x = some .local \/ sc.names.lookup x = some .cell
noncomputable def Look (env : Env) (h : Heap) (m : Str -> Option Value) (x : Str) (u : Value) : Prop :=
 (env.kindOf x = some .local /\ m x = some u) \/ ((env.kindOf x = some .cell \/ env.kindOf x = some .free) /\ ∃ c, env.cells.lookup x = some c /\ h.IsCell c (some u))
structure Cx.Ok (X : Cx) : Prop where
 mod : Mod X.K X.mg X.base
 kind : X.env.scope.kind = .function
 glob : X.env.globals = mainGlobals
 blt : X.env.builtins = builtinsNs
 above : X.s₀.heap.objs.size <= X.env.locals
 inj : ∀ x y c, X.env.cells.lookup x = some c -> X.env.cells.lookup y = some c -> x = y
 has : ∀ x, (X.env.kindOf x = some .cell \/ X.env.kindOf x = some .free) -> ∃ c, X.env.cells.lookup x = some c
 cab : ∀ x c, X.fn x = true -> X.env.cells.lookup x = some c -> X.s₀.heap.objs.size <= c
 hd : X.calm = true -> X.A.handled = none
 frames : X.A.frames = some X.stack
 stk : X.stack = X.outer \/ (X.stack = X.env :: X.outer /\ X.env.frame = some X.env.locals)
 exf : ∀ b ∈ X.ex, b ≠ X.env.locals /\ ∀ x c, X.env.cells.lookup x = some c -> c ≠ b
 bs : ∀ b o, X.base.get? b = some o -> X.s₀.heap.get? b = some o /\ X.H₀ b = none
 bsz : X.base.objs.size <= X.s₀.heap.objs.size
 h5h : ∀ b o, X.base.get? b = some o -> b ∉ X.ex
 h5s : ∀ b ∈ X.ex, b ∉ X.fs
 f8s : X.s₀.heap.FunFrames X.base X.outer
 frf : ∀ b ∈ X.fs, X.H₀ b = none
structure Inv (X : Cx) (pins : List (Addr × Obj)) (σ : List (Option V)) (H : Hp) (s : Shared) : Prop where
 ok : X.Ok
 os : s.os = X.s₀.os
 bare : AllBare s.gens
 base : Un X.fs X.ex X.H₀ H X.s₀.heap s.heap
 loc : ∃ m, s.heap.Ns X.env.locals m /\ ∀ (i : Nat) (x : Str) (v : V), X.N[i]? = some x -> σ[i]? = some (some v) -> Vis X.env.scope x -> ∃ u, RelV v u /\ Look X.env s.heap m x u
 cell : ∀ x c, X.env.cells.lookup x = some c -> ∃ v, s.heap.IsCell c v
 free : H X.env.locals = none
 c9v : ∀ x c, X.env.cells.lookup x = some c -> H c = none
 pin : ∀ p ∈ X.pn ++ pins, s.heap.get? p.1 = some p.2 /\ H p.1 = none /\ p.1 ≠ X.env.locals /\ p.1 ∉ X.fs /\ ∀ v, p.2.data ≠ .cell v
 hok : HOk X.prog X.w H s.heap
 len : σ.length = X.N.length
section
variable {X : Cx} {pins : List (Addr × Obj)} {σ : List (Option V)} {H H' : Hp} {s : Shared} {h' : Heap}
theorem Cx.Ok.nofr (ok : X.Ok) {b : Addr} {o : Obj} (e : X.base.get? b = some o) : b ∉ X.fs := fun hb => by
 have := (ok.f8s.mem hb).1
 rw [e] at this; cases this
theorem Inv.bs (I : Inv X pins σ H s) : ∀ b o, X.base.get? b = some o -> s.heap.get? b = some o /\ H b = none := fun b o e =>
 ⟨I.base.keep b o (I.ok.bs b o e).1 (I.ok.bs b o e).2 (I.ok.nofr e) (I.ok.h5h b o e), I.base.free b o (I.ok.bs b o e).1 (I.ok.bs b o e).2 (I.ok.h5h b o e)⟩
theorem Inv.bk (I : Inv X pins σ H s) : ∀ b o, X.base.get? b = some o -> s.heap.get? b = some o := fun b o e => (I.bs b o e).1
theorem Inv.mod (I : Inv X pins σ H s) : Mod X.K X.mg X.base := I.ok.mod
theorem Inv.kIn (I : Inv X pins σ H s) : X.K.In s.heap := I.ok.mod.kin.keeps I.bk
theorem Inv.nolimit (I : Inv X pins σ H s) : s.heap.NoLimit := I.ok.mod.nolimit.keeps I.bk
theorem Inv.fr (I : Inv X pins σ H s) : ∃ m, Fr X.base X.env.locals s.heap m :=
 let ⟨m, hn, _⟩ := I.loc
 ⟨m, hn, I.bk, Nat.le_trans I.ok.bsz I.ok.above⟩
theorem Inv.lt (I : Inv X pins σ H s) : X.env.locals < s.heap.objs.size := let ⟨_, hn, _⟩ := I.loc; hn.lt
theorem Inv.sz (I : Inv X pins σ H s) : X.s₀.heap.objs.size <= s.heap.objs.size := Nat.le_trans I.ok.above (Nat.le_of_lt I.lt)
theorem Inv.nofs (I : Inv X pins σ H s) {a : Addr} (h : s.heap.objs.size <= a) : a ∉ X.fs := fun hb => by
 obtain ⟨_, o, ho, _⟩ := I.ok.f8s.mem hb
 exact absurd (Nat.lt_of_lt_of_le (Heap.lt_size ho) (Nat.le_trans I.sz h)) (Nat.lt_irrefl _)
theorem Inv.cne (I : Inv X pins σ H s) : ∀ x c, X.env.cells.lookup x = some c -> c ≠ X.env.locals := fun x c e z => by
 obtain ⟨v, o, ho, hd⟩ := I.cell x c e
 obtain ⟨m, ⟨o', es, ep, ho', hd', _⟩, _⟩ := I.loc
 rw [z, ho'] at ho; cases ho; rw [hd'] at hd; cases hd
theorem Inv.f8s (I : Inv X pins σ H s) : s.heap.FunFrames X.base X.outer := by
 have all : ∀ (l : List Env), (∀ b ∈ frs l, b ∈ X.fs) -> X.s₀.heap.FunFrames X.base l -> s.heap.FunFrames X.base l := by
  intro l
  induction l with
  | nil => intro _ _; trivial
  | cons env r ih =>
   intro hs hl
   obtain ⟨hk, ⟨L, o, hf, hn, ho, hd⟩, hr⟩ := hl
   have hL : L ∈ X.fs := hs L (by unfold frs; rw [List.filterMap_cons, hf]; exact List.mem_cons_self)
   obtain ⟨sl, e⟩ := I.base.slot L o ho (I.ok.frf L hL) hL fun z => I.ok.h5s L z hL
   exact ⟨hk, ⟨L, _, hf, hn, e, hd⟩, ih (fun b hb => hs b (by unfold frs; rw [List.filterMap_cons, hf]; exact List.mem_cons_of_mem _ hb)) hr⟩
 exact all X.outer (fun _ hb => hb) I.ok.f8s
theorem Inv.stack (I : Inv X pins σ H s) : s.heap.FunFrames X.base X.stack := by
 rcases I.ok.stk with e | ⟨e, hf⟩
 ·rw [e]; exact I.f8s
 ·rw [e]
  obtain ⟨m, hn, _⟩ := I.loc
  refine .cons (by rw [I.ok.kind]; decide) hf hn ?_ I.f8s
  exact Heap.get?_none_of_le (Nat.le_trans I.ok.bsz I.ok.above)
theorem Inv.f8t (I : Inv X pins σ H s) : ∀ b ∈ frs X.stack, b ∈ X.env.locals :: X.fs := fun b hb => by
 rcases I.ok.stk with e | ⟨e, hf⟩
 ·rw [e] at hb; exact List.mem_cons_of_mem _ hb
 ·rw [e] at hb
  unfold frs at hb
  rw [List.filterMap_cons, hf] at hb
  exact hb
theorem Inv.g3b (I : Inv X pins σ H s) : ∀ b ∈ frs X.stack, H b = none := fun b hb => by
 rcases List.mem_cons.mp (I.f8t b hb) with e | hb
 ·rw [e]; exact I.free
 ·obtain ⟨_, o, ho, _⟩ := I.ok.f8s.mem hb
  exact I.base.free b o ho (I.ok.frf b hb) fun z => I.ok.h5s b z hb
theorem Inv.step {g' : Array GenState} {t' : Nat} {d' : Drawn} {ch : List Addr} (I : Inv X pins σ H s)
  (hch : ∀ b ∈ ch, (b ∈ X.ex \/ X.s₀.heap.objs.size <= b) /\ b ≠ X.env.locals /\ (∀ x c, X.env.cells.lookup x = some c -> c ≠ b) /\ ∀ p ∈ X.pn ++ pins, p.1 ≠ b)
  (keep : ∀ b o, b ≠ X.env.locals -> b ∉ X.fs -> b ∉ ch -> s.heap.get? b = some o -> H b = none -> h'.get? b = some o)
  (slot : ∀ b o, b ≠ X.env.locals -> b ∈ X.fs -> b ∉ ch -> s.heap.get? b = some o -> H b = none -> ∃ sl, h'.get? b = some { o with slots := sl }) (free : ∀ b o, b ∉ ch -> s.heap.get? b = some o -> H b = none -> H' b = none)
  (there : ∀ b o, b ∉ ch -> s.heap.get? b = some o -> ∃ o', h'.get? b = some o')
  (tups : ∀ b xs, H b = some (.tup xs) -> H' b = some (.tup xs)) (f6h : ∀ b o u, H b = some (.frz o u) -> H' b = some (.frz o u)) (f8r : ∀ b ps, H b = some (.tbl ps) -> ∃ more, H' b = some (.tbl (ps ++ more)))
  (ns : ∀ m, s.heap.Ns X.env.locals m -> h'.Ns X.env.locals m) (hok : HOk X.prog X.w H' h') (hg : AllBare g') :
  Inv X pins σ H' { s with heap := h', gens := g', drawn := d', toks := t' } := by
 have neL : ∀ b o, X.s₀.heap.get? b = some o -> b ≠ X.env.locals := fun b o e => Nat.ne_of_lt (Nat.lt_of_lt_of_le (Heap.lt_size e) I.ok.above)
 have neC : ∀ b o, X.s₀.heap.get? b = some o -> b ∉ X.ex -> b ∉ ch := fun b o e hx hb => by
  rcases (hch b hb).1 with z | z
  ·exact hx z
  ·exact absurd (Nat.lt_of_lt_of_le (Heap.lt_size e) z) (Nat.lt_irrefl _)
 have cellK : ∀ x c, X.env.cells.lookup x = some c -> ∀ v, s.heap.IsCell c v -> h'.IsCell c v := fun x c e v ⟨o, ho, hd⟩ => by
  have nch : c ∉ ch := fun z => (hch c z).2.2.1 x c e rfl
  by_cases hc : c ∈ X.fs
  ·obtain ⟨sl, q⟩ := slot c o (I.cne x c e) hc nch ho (I.c9v x c e)
   exact ⟨_, q, hd⟩
  ·exact ⟨o, keep c o (I.cne x c e) hc nch ho (I.c9v x c e), hd⟩
 refine ⟨I.ok, I.os, hg, ⟨fun b o e n hb hx => ?_, fun b o e n hb hx => ?_, fun b o e n hx => ?_, fun b o e hx => ?_, fun b xs e => tups b xs (I.base.tups b xs e), fun b o xs e => f6h b o xs (I.base.f6h b o xs e), fun b ps e => ?_⟩, ?_, fun x c e => ?_, ?_, fun x c e => ?_, fun p hp => ?_, hok, I.len⟩
 ·exact keep b o (neL b o e) hb (neC b o e hx) (I.base.keep b o e n hb hx) (I.base.free b o e n hx)
 ·obtain ⟨sl, e1⟩ := I.base.slot b o e n hb hx
  obtain ⟨sl', e2⟩ := slot b _ (neL b o e) hb (neC b o e hx) e1 (I.base.free b o e n hx)
  exact ⟨sl', e2⟩
 ·obtain ⟨o', e1⟩ := I.base.there b o e hx
  exact free b o' (neC b o e hx) e1 (I.base.free b o e n hx)
 ·obtain ⟨o', e1⟩ := I.base.there b o e hx
  exact there b o' (neC b o e hx) e1
 ·obtain ⟨m1, e1⟩ := I.base.f8r b ps e
  obtain ⟨m2, e2⟩ := f8r b _ e1
  exact ⟨m1 ++ m2, by rw [e2, Array.append_assoc]⟩
 ·obtain ⟨m, hn, hl⟩ := I.loc
  refine ⟨m, ns m hn, fun i x v e1 e2 e3 => ?_⟩
  obtain ⟨u, r, l⟩ := hl i x v e1 e2 e3
  refine ⟨u, r, ?_⟩
  rcases l with l | ⟨k, c, e, z⟩
  ·exact .inl l
  ·exact .inr ⟨k, c, e, cellK x c e _ z⟩
 ·obtain ⟨v, z⟩ := I.cell x c e
  exact ⟨v, cellK x c e v z⟩
 ·obtain ⟨m, ⟨o, _, _, ho, _⟩, _⟩ := I.loc
  exact free _ o (fun z => (hch _ z).2.1 rfl) ho I.free
 ·obtain ⟨v, o, ho, hd⟩ := I.cell x c e
  exact free c o (fun z => (hch c z).2.2.1 x c e rfl) ho (I.c9v x c e)
 ·obtain ⟨e, n, ne, nf, d⟩ := I.pin p hp
  have nch : p.1 ∉ ch := fun z => (hch p.1 z).2.2.2 p hp rfl
  exact ⟨keep p.1 p.2 ne nf nch e n, free p.1 p.2 nch e n, ne, nf, d⟩
theorem Inv.un {t' : Nat} (I : Inv X pins σ H s) (u : Un X.fs [] H H' s.heap h') (hok : HOk X.prog X.w H' h') : Inv X pins σ H' { s with heap := h', toks := t' } := by
 obtain ⟨m, ⟨o, es, ep, ho, r⟩, _⟩ := id I.loc
 obtain ⟨sl, hL⟩ := u.any ho I.free (by simp)
 exact I.step (g' := s.gens) (d' := s.drawn) (ch := []) (fun _ z => nomatch z) (fun b o _ hb _ e n => u.keep b o e n hb (by simp)) (fun b o _ hb _ e n => u.slot b o e n hb (by simp)) (fun b o _ e n => u.free b o e n (by simp)) (fun b o _ e => u.there b o e (by simp)) u.tups u.f6h u.f8r (fun m' hm => by
  obtain ⟨o', es', ep', ho', r'⟩ := hm
  rw [ho] at ho'; cases ho'
  exact ⟨_, es', ep', hL, r'⟩) hok I.bare
theorem Inv.call {g' : Array GenState} {t' : Nat} {d' : Drawn} {ch : List Addr} (I : Inv X pins σ H s) (u : Un (frs X.stack) ch H H' s.heap h') (hok : HOk X.prog X.w H' h') (hg : AllBare g')
  (hch : ∀ b ∈ ch, (b ∈ X.ex \/ X.s₀.heap.objs.size <= b) /\ b ≠ X.env.locals /\ (∀ x c, X.env.cells.lookup x = some c -> c ≠ b) /\ ∀ p ∈ X.pn ++ pins, p.1 ≠ b) :
  Inv X pins σ H' { s with heap := h', gens := g', drawn := d', toks := t' } := by
 obtain ⟨m, ⟨o, es, ep, ho, r⟩, _⟩ := id I.loc
 obtain ⟨sl, hL⟩ := u.any ho I.free fun z => (hch _ z).2.1 rfl
 exact I.step (ch := ch) hch (fun b o hL hb hc e n => u.keep b o e n (fun z => (List.mem_cons.mp (I.f8t b z)).elim hL hb) hc) (fun b o _ _ hc e n => u.any e n hc) (fun b o hc e n => u.free b o e n hc) (fun b o hc e => u.there b o e hc) u.tups u.f6h u.f8r (fun m' hm => by
  obtain ⟨o', es', ep', ho', r'⟩ := hm
  rw [ho] at ho'; cases ho'
  exact ⟨_, es', ep', hL, r'⟩) hok hg
theorem Inv.turned {t' : Nat} {it : Addr} (I : Inv X pins σ H s) (k : ∀ b o, b ≠ it -> s.heap.get? b = some o -> h'.get? b = some o) (hn : H it = none) (hL : it ≠ X.env.locals)
  (h1 : it ∈ X.ex \/ X.s₀.heap.objs.size <= it) (h2 : ∀ x c, X.env.cells.lookup x = some c -> c ≠ it) (h3 : ∀ p ∈ X.pn ++ pins, p.1 ≠ it) : Inv X pins σ H { s with heap := h', toks := t' } := by
 have nit : ∀ b u, H b = some u -> b ≠ it := fun b u e z => by rw [z, hn] at e; cases e
 refine I.step (g' := s.gens) (d' := s.drawn) (ch := [it]) (fun b hb => ?_) (fun b o _ _ hc e _ => k b o (fun z => hc (by simp [z])) e) (fun b o _ _ hc e _ => ⟨o.slots, k b o (fun z => hc (by simp [z])) e⟩) (fun _ _ _ _ n => n)
  (fun b o hc e => ⟨o, k b o (fun z => hc (by simp [z])) e⟩) (fun _ _ e => e) (fun _ _ _ e => e) (fun b ps e => ⟨#[], by rw [e]; simp⟩) (fun m hm => ?_) (fun b u e => ?_) I.bare
 ·have e : b = it := by simpa using hb
  subst e
  exact ⟨h1, hL, h2, h3⟩
 ·obtain ⟨o, es, ep, ho, r⟩ := hm
  exact ⟨o, es, ep, k _ o (Ne.symm hL) ho, r⟩
 ·refine (I.hok b u e).stay (fun c v hc q => k c v ?_ q) (fun _ q => q) fun _ _ q => q
  rcases hc with z | z
  ·rw [z]; exact nit b u e
  ·exact nit c _ z
theorem Inv.tok (I : Inv X pins σ H s) (t : Nat) : Inv X pins σ H { s with toks := t } := I.un (h' := s.heap) (t' := t) Un.refl I.hok
theorem Inv.kept {t' : Nat} (I : Inv X pins σ H s) (k : ∀ b u, s.heap.get? b = some u -> h'.get? b = some u) : Inv X pins σ H { s with heap := h', toks := t' } := I.un (Un.kept k) (I.hok.kept k)
theorem Inv.laid {a : Addr} {o : HO} {t' : Nat} (I : Inv X pins σ H s) (k : ∀ b u, s.heap.get? b = some u -> h'.get? b = some u) (hp : s.heap.objs.size <= a) (new : b4y X.prog X.w (upd H a o) h' a o) :
  Inv X pins σ (upd H a o) { s with heap := h', toks := t' } := I.un (Un.laid k hp (I.hok.fresh hp)) (I.hok.laid k hp new)
theorem Inv.write {x e : Addr} {o : HO} {t' : Nat} (I : Inv X pins σ H s) (mu : Mut (H x)) (he : e = x \/ H e = some (.own x)) (k : ∀ b u, b ≠ e -> s.heap.get? b = some u -> h'.get? b = some u) (heo : ∃ u, h'.get? e = some u)
  (new : b4y X.prog X.w (upd H x o) h' x o) : Inv X pins σ (upd H x o) { s with heap := h', toks := t' } := I.un (Un.write mu he k heo) (I.hok.write mu he k heo new)
theorem Inv.weak {σ' : List (Option V)} (I : Inv X pins σ H s) (hl : σ'.length = σ.length) (w : ∀ (i : Nat) v, σ'[i]? = some (some v) -> σ[i]? = some (some v)) : Inv X pins σ' H s :=
 ⟨I.ok, I.os, I.bare, I.base, let ⟨m, hn, hl'⟩ := I.loc; ⟨m, hn, fun i x v e1 e2 e3 => hl' i x v e1 (w i v e2) e3⟩, I.cell, I.free, I.c9v, I.pin, I.hok, hl.trans I.len⟩
theorem Inv.g3c {pins' : List (Addr × Obj)} (I : Inv X pins σ H s) (h : ∀ p ∈ pins', s.heap.get? p.1 = some p.2 /\ H p.1 = none /\ p.1 ≠ X.env.locals /\ p.1 ∉ X.fs /\ ∀ v, p.2.data ≠ .cell v) : Inv X pins' σ H s :=
 ⟨I.ok, I.os, I.bare, I.base, I.loc, I.cell, I.free, I.c9v, fun p hp => (List.mem_append.mp hp).elim (fun z => I.pin p (List.mem_append_left _ z)) (h p), I.hok, I.len⟩
theorem f8u {N : List Str} (hN : N.Nodup) {i j : Nat} {x : Str} (a : N[i]? = some x) (b : N[j]? = some x) : i = j := by
 obtain ⟨h1, e1⟩ := List.getElem?_eq_some_iff.mp a
 obtain ⟨h2, e2⟩ := List.getElem?_eq_some_iff.mp b
 exact (List.getElem_inj hN).mp (e1.trans e2.symm)
theorem f2t {M : Model} {A : Around} {E : Value -> Shared -> Prop} {i : Nat} {x : Str} {v : V} {u : Value} {Q : Unit -> Shared -> Prop} (I : Inv X pins σ H s) (hN : X.N.Nodup) (hi : X.N[i]? = some x) (hx : Loc X.env.scope x) (r : RelV v u)
  (h : ∀ s', Inv X pins (σ.set i (some v)) H s' -> (∃ a, Heap.SameBut a s.heap s'.heap /\ (a = X.env.locals \/ X.env.cells.lookup x = some a)) -> Q () s') (hf : X.fn x = true \/ X.env.scope.names.lookup x = some .local := by first | exact .inl rfl | exact .inr rfl | assumption) : wpAny M A (storeName X.env x u) Q E s := by
 obtain ⟨m, hn, hl⟩ := id I.loc
 have hcls : (X.env.scope.kind == .class || (X.env.scope.kind == .module && X.env.locals != X.env.globals)) = false := by rw [I.ok.kind]; rfl
 have hiσ : i < σ.length := by rw [I.len]; exact (List.getElem?_eq_some_iff.mp hi).1
 have cne := I.cne
 have tracked : ∀ {a : Addr} {h' : Heap}, (∃ o, s.heap.get? a = some o /\ H a = none) -> Heap.SameBut a s.heap h' -> HOk X.prog X.w H h' := fun {a h'} ha hs b ob e => by
  obtain ⟨_, _, hfree⟩ := ha
  refine (I.hok b ob e).stay (fun c w' hc q => (hs.2 c ?_).trans q) (fun _ q => q) fun _ _ q => q
  rintro rfl
  rcases hc with rfl | hc
  ·rw [hfree] at e; cases e
  ·rw [hfree] at hc; cases hc
 rcases hx with hk | hk
 ·refine wpAny_storeName_local hk hn (fun h' hn' hs => ?_) hcls
  obtain ⟨oL, _, _, hoL, _⟩ := id hn
  refine h _ ⟨I.ok, I.os, I.bare, ⟨fun b o e n hb hx => ?_, fun b o e n hb hx => ?_, I.base.free, fun b o e hx => ?_, I.base.tups, I.base.f6h, I.base.f8r⟩, ⟨_, hn', fun j y v' e1 e2 e3 => ?_⟩, fun y c e => ?_, I.free, I.c9v, fun p hp => ?_, tracked ⟨oL, hoL, I.free⟩ hs, by simpa using I.len⟩ ⟨_, hs, .inl rfl⟩
  ·exact (hs.2 b (Nat.ne_of_lt (Nat.lt_of_lt_of_le (Heap.lt_size e) I.ok.above))).trans (I.base.keep b o e n hb hx)
  ·obtain ⟨sl, e1⟩ := I.base.slot b o e n hb hx
   exact ⟨sl, (hs.2 b (Nat.ne_of_lt (Nat.lt_of_lt_of_le (Heap.lt_size e) I.ok.above))).trans e1⟩
  ·obtain ⟨o', e1⟩ := I.base.there b o e hx
   exact ⟨o', (hs.2 b (Nat.ne_of_lt (Nat.lt_of_lt_of_le (Heap.lt_size e) I.ok.above))).trans e1⟩
  ·by_cases hj : j = i
   ·subst hj
    rw [hi] at e1; cases e1
    rw [List.getElem?_set_self hiσ] at e2
    cases e2
    exact ⟨u, r, .inl ⟨hk, by simp⟩⟩
   ·rw [List.getElem?_set_ne (Ne.symm hj)] at e2
    obtain ⟨u', r', q⟩ := hl j y v' e1 e2 e3
    refine ⟨u', r', ?_⟩
    rcases q with ⟨k, e⟩ | ⟨k, c, e, z⟩
    ·refine .inl ⟨k, ?_⟩
     have : y ≠ x := fun e => hj (f8u hN e1 (e ▸ hi))
     simp [this, e]
    ·exact .inr ⟨k, c, e, z.sameBut hs (cne y c e)⟩
  ·obtain ⟨w', z⟩ := I.cell y c e
   exact ⟨w', z.sameBut hs (cne y c e)⟩
  ·obtain ⟨e, n, ne, nf, d⟩ := I.pin p hp
   exact ⟨(hs.2 p.1 ne).trans e, n, ne, nf, d⟩
 ·have hfn : X.fn x = true := by
   rcases hf with z | z
   ·exact z
   ·rw [z] at hk; cases hk
  obtain ⟨c, hc⟩ := I.ok.has x (.inl hk)
  obtain ⟨w', z⟩ := I.cell x c hc
  refine wpAny_storeName_cell I.ok.kind hk hc z (fun h' hc' hs => ?_)
  obtain ⟨oc, hoc, hocd⟩ := id z
  refine h { s with heap := h' } ⟨I.ok, I.os, I.bare, ⟨fun b o e n hb hx => ?_, fun b o e n hb hx => ?_, I.base.free, fun b o e hx => ?_, I.base.tups, I.base.f6h, I.base.f8r⟩, ⟨m, hn.sameBut hs (Ne.symm (cne x c hc)), fun j y v' e1 e2 e3 => ?_⟩, fun y c' e => ?_, I.free, I.c9v, fun p hp => ?_, tracked ⟨oc, hoc, I.c9v x c hc⟩ hs, by simpa using I.len⟩ ⟨c, hs, .inr hc⟩
  ·exact (hs.2 b (Nat.ne_of_lt (Nat.lt_of_lt_of_le (Heap.lt_size e) (I.ok.cab x c hfn hc)))).trans (I.base.keep b o e n hb hx)
  ·obtain ⟨sl, e1⟩ := I.base.slot b o e n hb hx
   exact ⟨sl, (hs.2 b (Nat.ne_of_lt (Nat.lt_of_lt_of_le (Heap.lt_size e) (I.ok.cab x c hfn hc)))).trans e1⟩
  ·obtain ⟨o', e1⟩ := I.base.there b o e hx
   exact ⟨o', (hs.2 b (Nat.ne_of_lt (Nat.lt_of_lt_of_le (Heap.lt_size e) (I.ok.cab x c hfn hc)))).trans e1⟩
  ·by_cases hj : j = i
   ·subst hj
    rw [hi] at e1; cases e1
    rw [List.getElem?_set_self hiσ] at e2
    cases e2
    exact ⟨u, r, .inr ⟨.inl hk, c, hc, hc'⟩⟩
   ·rw [List.getElem?_set_ne (Ne.symm hj)] at e2
    obtain ⟨u', r', q⟩ := hl j y v' e1 e2 e3
    refine ⟨u', r', ?_⟩
    rcases q with q | ⟨k, c', e, z'⟩
    ·exact .inl q
    ·refine .inr ⟨k, c', e, z'.sameBut hs ?_⟩
     rintro rfl
     exact hj (f8u hN e1 (I.ok.inj _ _ _ e hc ▸ hi))
  ·by_cases hcc : c' = c
   ·subst hcc; exact ⟨_, hc'⟩
   ·obtain ⟨w2, z2⟩ := I.cell y c' e
    exact ⟨w2, z2.sameBut hs hcc⟩
  ·obtain ⟨e, n, ne, nf, d⟩ := I.pin p hp
   refine ⟨(hs.2 p.1 ?_).trans e, n, ne, nf, d⟩
   intro q
   rw [q, hoc] at e
   have q' : oc = p.2 := Option.some.inj e
   exact d w' (by rw [<- q']; exact hocd)
theorem f8v {M : Model} {A : Around} {E : Value -> Shared -> Prop} {i : Nat} {x : Str} {v : V} {u : Value} {Q : Unit -> Shared -> Prop} (I : Inv X pins σ H s) (hN : X.N.Nodup) (hi : X.N[i]? = some x) (hx : Loc X.env.scope x) (r : RelV v u)
  (h : ∀ s', Inv X pins (σ.set i (some v)) H s' -> Q () s') (hf : X.fn x = true \/ X.env.scope.names.lookup x = some .local := by first | exact .inl rfl | exact .inr rfl | assumption) : wpAny M A (storeName X.env x u) Q E s :=
 f2t I hN hi hx r (fun s' I' _ => h s' I') hf
theorem Inv.call' {s' : Shared} {ch : List Addr} (I : Inv X pins σ H s) (ho : s'.os = s.os) (u : Un (frs X.stack) ch H H' s.heap s'.heap) (hok : HOk X.prog X.w H' s'.heap) (hg : AllBare s'.gens)
  (hch : ∀ b ∈ ch, (b ∈ X.ex \/ X.s₀.heap.objs.size <= b) /\ b ≠ X.env.locals /\ (∀ x c, X.env.cells.lookup x = some c -> c ≠ b) /\ ∀ p ∈ X.pn ++ pins, p.1 ≠ b) : Inv X pins σ H' s' := by
 obtain ⟨h', g', d', t', o'⟩ := s'
 have e : o' = s.os := ho
 subst e
 exact I.call (g' := g') (t' := t') (d' := d') u hok hg hch
end
noncomputable abbrev XK := Value -> Option Addr -> Hp -> Prop
noncomputable abbrev St := List (Option V)
noncomputable abbrev VK := V -> Hp -> Prop
noncomputable abbrev TE := St -> Hp -> VK -> Prop
noncomputable abbrev TT := St -> Hp -> (Bool -> Hp -> Prop) -> Prop
noncomputable abbrev TA := St -> Hp -> (List V -> Hp -> Prop) -> Prop
structure Ends where
 nx : St -> Hp -> Prop
 rt : VK
 bk : St -> Hp -> Prop := fun _ _ => False
 ct : St -> Hp -> Prop := fun _ _ => False
noncomputable abbrev TS := Ends -> St -> Hp -> Prop
noncomputable def EP (X : Cx) (pins : List (Addr × Obj)) (σ : St) (Q : VK) (u : Value) (s' : Shared) : Prop := ∃ v H', Inv X pins σ H' s' /\ RelV v u /\ Q v H'
noncomputable def TP (X : Cx) (pins : List (Addr × Obj)) (σ : St) (Q : Bool -> Hp -> Prop) (b : Bool) (s' : Shared) : Prop := ∃ H', Inv X pins σ H' s' /\ Q b H'
noncomputable def AP (X : Cx) (pins : List (Addr × Obj)) (σ : St) (Q : List V -> Hp -> Prop) (us : List Value) (s' : Shared) : Prop := ∃ vs H', Inv X pins σ H' s' /\ Vals vs us /\ Q vs H'
noncomputable def SP (X : Cx) (pins : List (Addr × Obj)) (D : Ends) (f : Flow) (s' : Shared) : Prop :=
 match f with
 | .next => ∃ σ' H', Inv X pins σ' H' s' /\ D.nx σ' H'
 | .brk => ∃ σ' H', Inv X pins σ' H' s' /\ D.bk σ' H'
 | .cont => ∃ σ' H', Inv X pins σ' H' s' /\ D.ct σ' H'
 | .ret u => ∃ v σ' H', Inv X pins σ' H' s' /\ RelV v u /\ D.rt v H'
noncomputable def PE (X : Cx) (e : Expr) (t : TE) : Prop :=
 ∀ (pins : List (Addr × Obj)) (s : Shared) (σ : St) (H : Hp) (Q : VK), Inv X pins σ H s -> t σ H Q -> wpAny (model X.prog X.w) X.A (eval e X.env) (EP X pins σ Q) X.xe s
noncomputable def PT (X : Cx) (e : Expr) (t : TT) : Prop :=
 ∀ (pins : List (Addr × Obj)) (s : Shared) (σ : St) (H : Hp) (Q : Bool -> Hp -> Prop), Inv X pins σ H s -> t σ H Q -> wpAny (model X.prog X.w) X.A (isTrue e X.env (eval e X.env)) (TP X pins σ Q) X.xe s
noncomputable def PW (X : Cx) (e : Expr) (t : TT) : Prop :=
 ∀ (whole : Sem Value) (pins : List (Addr × Obj)) (s : Shared) (σ : St) (H : Hp) (Q : Bool -> Hp -> Prop), Inv X pins σ H s -> t σ H Q -> wpAny (model X.prog X.w) X.A (isTrue e X.env whole) (TP X pins σ Q) X.xe s
theorem PW.pt {X : Cx} {e : Expr} {t : TT} (h : PW X e t) : PT X e t := h _
noncomputable def PA (X : Cx) (es : List Expr) (t : TA) : Prop :=
 ∀ (pos : Pos) (pins : List (Addr × Obj)) (s : Shared) (σ : St) (H : Hp) (Q : List V -> Hp -> Prop), Inv X pins σ H s -> t σ H Q -> wpAny (model X.prog X.w) X.A (spliced (backTo pos (starEach es X.env))) (AP X pins σ Q) X.xe s
noncomputable def PS (X : Cx) (st : Stmt) (t : TS) : Prop :=
 ∀ (pins : List (Addr × Obj)) (s : Shared) (σ : St) (H : Hp) (D : Ends), Inv X pins σ H s -> t D σ H -> wpAny (model X.prog X.w) X.A (exec st X.env) (SP X pins D) X.xe s
noncomputable def PSs (X : Cx) (st : List Stmt) (t : TS) : Prop :=
 ∀ (pins : List (Addr × Obj)) (s : Shared) (σ : St) (H : Hp) (D : Ends), Inv X pins σ H s -> t D σ H -> wpAny (model X.prog X.w) X.A (execs st X.env) (SP X pins D) X.xe s
theorem thn {α : Type} {t : Sem α} {Q Q' : α -> Shared -> Prop} {M : Model} {A : Around} {E : Value -> Shared -> Prop} {s : Shared} (h : wpAny M A t Q E s) (hQ : ∀ a s, Q a s -> Q' a s) : wpAny M A t Q' E s := wpAny_mono h hQ fun _ _ x => x
end L2
namespace L2
open PySem PySem.Spec PyProof.Rows
section
variable {X : Cx}
noncomputable def tVar (i : Nat) : TE := fun σ H Q => ∃ v, σ[i]? = some (some v) /\ Q v H
noncomputable def tC (v : V) : TE := fun _ H Q => Q v H
theorem h5t {i : Nat} {x : Str} {pos : Pos} (hN : X.N[i]? = some x) (hv : Vis X.env.scope x) (hd : (x == ("__debug__" : Str)) = false := by decide) (hcd : (x == ("__classdict__" : Str)) = false := by decide) : PE X (.Name x pos) (tVar i) := by
 intro pins s σ H Q I h
 obtain ⟨v, e, h⟩ := h
 obtain ⟨m, hn, hl⟩ := I.loc
 obtain ⟨u, r, l⟩ := hl i x v hN e hv
 have fin : EP X pins σ Q u s := ⟨v, H, I, r, h⟩
 rcases l with ⟨hk, hm⟩ | ⟨hk, c, hc, hcell⟩
 ·exact wpAny_Name (wpAny_loadName_local I.ok.kind hk hn hm fin) hd
 ·rcases hk with hk | hk
  ·exact wpAny_Name (wpAny_loadName_cell I.ok.kind hk hc hcell fin) hd
  ·exact wpAny_Name (wpAny_loadName_free I.ok.kind hk hc hcell fin hcd) hd
theorem a0l {i j pos} : PE X (.Constant (.int i) j pos) (tC (.int i)) := fun _ _ _ H _ I h => wpAny_Constant_int ⟨.int i, H, I.tok _, ⟨_, rfl⟩, h⟩
theorem g0n {b j pos} : PE X (.Constant (.bool b) j pos) (tC (.bl b)) := fun _ _ _ H _ I h => Constant_bool ⟨.bl b, H, I, rfl, h⟩
theorem c6p {j pos} : PE X (.Constant .none j pos) (tC .non) := fun _ _ _ H _ I h => Constant_none ⟨.non, H, I, rfl, h⟩
theorem b4z {x j pos} : PE X (.Constant (.str x) j pos) (tC (.str x)) := fun _ _ _ H _ I h => Calls.Constant_str ⟨.str x, H, I.tok _, ⟨_, rfl⟩, h⟩
noncomputable def Gl (X : Cx) (x : Str) : Prop := X.env.kindOf x = some .globalImplicit
theorem f6i {E : Value -> Shared -> Prop} {pins : List (Addr × Obj)} {s : Shared} {σ : St} {H : Hp} {x : Str} {u : Value} {pos : Pos} {Q : Value -> Shared -> Prop} (I : Inv X pins σ H s) (hg : Gl X x) (hm : X.mg x = some u) (h : Q u s)
  (hd : (x == ("__debug__" : Str)) = false := by decide) : wpAny (model X.prog X.w) X.A (eval (.Name x pos) X.env) Q E s :=
 Calls.Name_function_global I.ok.kind hg (Calls.loadGlobal_global (by rw [I.ok.glob]; exact I.mod.glob.keeps I.bk) hm h) hd
theorem d1y {E : Value -> Shared -> Prop} {pins : List (Addr × Obj)} {s : Shared} {σ : St} {H : Hp} {x : Str} {u : Value} {pos : Pos} {Q : Value -> Shared -> Prop} (I : Inv X pins σ H s) (hg : Gl X x) (hm : X.mg x = none) (hv : bootBuiltins x = some u) (h : Q u s)
  (hn : x ≠ "__name__" := by decide) (hd : (x == ("__debug__" : Str)) = false := by decide) : wpAny (model X.prog X.w) X.A (eval (.Name x pos) X.env) Q E s := by
 obtain ⟨mb, h1, h2⟩ := I.mod.blt
 exact Calls.Name_function_global I.ok.kind hg (Calls.loadGlobal_builtin (by rw [I.ok.glob]; exact I.mod.glob.keeps I.bk) hm (by rw [I.ok.blt]; exact h1.keeps I.bk) ((h2 x hn).trans hv) h) hd
theorem a9u {x : Str} {v : V} {u : Value} {pos : Pos} (hg : Gl X x) (hm : X.mg x = some u) (r : RelV v u) (hd : (x == ("__debug__" : Str)) = false := by decide) : PE X (.Name x pos) (tC v) :=
 fun _ _ _ H _ I h => f6i I hg hm ⟨v, H, I, r, h⟩ hd
theorem c0j {x : Str} {v : V} {u : Value} {pos : Pos} (hg : Gl X x) (hm : X.mg x = none) (hv : bootBuiltins x = some u) (r : RelV v u) (hn : x ≠ "__name__" := by decide) (hd : (x == ("__debug__" : Str)) = false := by decide) : PE X (.Name x pos) (tC v) :=
 fun _ _ _ H _ I h => d1y I hg hm hv ⟨v, H, I, r, h⟩ hn hd
noncomputable def t2I (ta tb : TE) (k : Int -> Int -> Hp -> Prop) : St -> Hp -> Prop := fun σ H => ta σ H fun x H1 => tb σ H1 fun y H2 => ∃ i j, x = .int i /\ y = .int j /\ k i j H2
noncomputable def tAdd (ta tb : TE) : TE := fun σ H Q => t2I ta tb (fun i j H2 => Q (.int (i + j)) H2) σ H
noncomputable def tSub (ta tb : TE) : TE := fun σ H Q => t2I ta tb (fun i j H2 => Q (.int (i - j)) H2) σ H
noncomputable def tMul (ta tb : TE) : TE := fun σ H Q => t2I ta tb (fun i j H2 => (-(2 ^ 64) < i /\ i < 2 ^ 64) /\ Q (.int (i * j)) H2) σ H
variable {a b : Expr} {ta tb : TE} {pos : Pos}
noncomputable def PC (X : Cx) (op : CmpOp) (a b : Expr) (t : TE) : Prop :=
 ∀ (pins : List (Addr × Obj)) (s : Shared) (σ : St) (H : Hp) (Q : VK), Inv X pins σ H s -> t σ H Q ->
  wpAny (model X.prog X.w) X.A (eval a X.env) (fun v s₁ => wpAny (model X.prog X.w) X.A (eval b X.env) (fun u s₂ => wpAny (model X.prog X.w) X.A (compareOp op v u) (EP X pins σ Q) X.xe s₂) X.xe s₁) X.xe s
noncomputable def h5i (p : Int -> Int -> Bool) (ta tb : TE) : TE := fun σ H Q => t2I ta tb (fun i j H2 => Q (.bl (p i j)) H2) σ H
noncomputable abbrev tLt : TE -> TE -> TE := h5i fun i j => decide (i < j)
noncomputable abbrev tLe : TE -> TE -> TE := h5i fun i j => decide (i <= j)
noncomputable abbrev tGt : TE -> TE -> TE := h5i fun i j => decide (j < i)
noncomputable abbrev tGe : TE -> TE -> TE := h5i fun i j => decide (j <= i)
noncomputable abbrev tEqI : TE -> TE -> TE := h5i fun i j => decide (i = j)
noncomputable abbrev tNeI : TE -> TE -> TE := h5i fun i j => !decide (i = j)
noncomputable def tIsN (ta : TE) : TE := fun σ H Q => ta σ H fun x H1 => Q (.bl (decide (x = .non))) H1
noncomputable def tNotN (ta : TE) : TE := fun σ H Q => ta σ H fun x H1 => Q (.bl (!decide (x = .non))) H1
noncomputable def tB (t : TE) : TT := fun σ H Q => t σ H fun x H1 => ∃ c, x = .bl c /\ Q c H1
theorem h5u {e : Expr} {t : TE} (h : PE X e t) (he : ∀ whole, isTrue e X.env whole = (do let v <- whole; standAt e.pos; holding [v] (truthy v)) := by intro _; rfl) : PT X e (tB t) := by
 intro pins s σ H Q I hw
 refine isTrue_plain (thn (h pins s σ H _ I hw) fun v s1 ⟨x, H1, I1, r1, q1⟩ => ?_) (he _)
 obtain ⟨d, rfl, q⟩ := q1
 cases r1
 exact wpAny_truthy_bool ⟨H1, I1, q⟩
variable {tA tB' : TT} {rest : List Expr}
noncomputable def i3f (t u : TT) : TT := fun σ H Q => t σ H fun c H1 => if c = true then u σ H1 Q else Q false H1
noncomputable def tOr (t u : TT) : TT := fun σ H Q => t σ H fun c H1 => if c = true then Q true H1 else u σ H1 Q
noncomputable def i3g (t : TT) : TT := fun σ H Q => t σ H fun c H1 => Q (!c) H1
theorem pw_and1 (ha : PT X a tA) : PW X (.BoolOp .And [a] pos) tA := by
 intro wh pins s σ H Q I h
 refine isTrue_and (thn (ha pins s σ H Q I h) fun c s1 e => ?_)
 cases c with
 | true => exact isTrue_and_nil e
 | false => exact e
theorem pw_or1 (ha : PT X a tA) : PW X (.BoolOp .Or [a] pos) tA := by
 intro wh pins s σ H Q I h
 refine isTrue_or (thn (ha pins s σ H Q I h) fun c s1 e => ?_)
 cases c with
 | false => exact isTrue_or_nil e
 | true => exact e
theorem pw_and (ha : PT X a tA) (hb : PW X (.BoolOp .And (b :: rest) pos) tB') : PW X (.BoolOp .And (a :: b :: rest) pos) (i3f tA tB') := by
 intro wh pins s σ H Q I h
 refine isTrue_and (thn (ha pins s σ H _ I h) fun c s1 ⟨H1, I1, q1⟩ => ?_)
 cases c with
 | true => exact hb wh pins s1 σ H1 Q I1 q1
 | false => exact ⟨H1, I1, q1⟩
theorem pw_or (ha : PT X a tA) (hb : PW X (.BoolOp .Or (b :: rest) pos) tB') : PW X (.BoolOp .Or (a :: b :: rest) pos) (tOr tA tB') := by
 intro wh pins s σ H Q I h
 refine isTrue_or (thn (ha pins s σ H _ I h) fun c s1 ⟨H1, I1, q1⟩ => ?_)
 cases c with
 | true => exact ⟨H1, I1, q1⟩
 | false => exact hb wh pins s1 σ H1 Q I1 q1
theorem b8w (ha : PT X a tA) : PT X (.UnaryOp .Not a pos) (i3g tA) := by
 intro pins s σ H Q I h
 exact isTrue_not (ha pins s σ H (fun c H1 => Q (!c) H1) I h)
noncomputable def h5v (ta tb : TE) : TE := fun σ H Q => ta σ H fun x H1 => ∃ c, x = .bl c /\ if c = true then tb σ H1 Q else Q (.bl false) H1
noncomputable def tOrV (ta tb : TE) : TE := fun σ H Q => ta σ H fun x H1 => ∃ c, x = .bl c /\ if c = true then Q (.bl true) H1 else tb σ H1 Q
noncomputable def h5w (ta : TE) : TE := fun σ H Q => ta σ H fun x H1 => ∃ c, x = .bl c /\ Q (.bl (!c)) H1
theorem h0e {op} {t : TE} (h : PE X a t) : PE X (.BoolOp op [a] pos) t := fun pins s σ H Q I hw => BoolOp_one (h pins s σ H Q I hw)
theorem h5x (ha : PE X a ta) (hb : PE X (.BoolOp .And (b :: rest) pos) tb) : PE X (.BoolOp .And (a :: b :: rest) pos) (h5v ta tb) := by
 intro pins s σ H Q I h
 refine BoolOp_and (thn (ha pins s σ H _ I h) fun v s1 ⟨x, H1, I1, r1, q1⟩ => ?_)
 obtain ⟨c, rfl, q1⟩ := q1
 cases r1
 refine wpAny_truthy_bool ?_
 cases c with
 | true => exact hb pins s1 σ H1 Q I1 q1
 | false => exact ⟨.bl false, H1, I1, rfl, q1⟩
theorem h5y (ha : PE X a ta) : PE X (.UnaryOp .Not a pos) (h5w ta) := by
 intro pins s σ H Q I h
 refine UnaryOp_ (thn (ha pins s σ H _ I h) fun v s1 ⟨x, H1, I1, r1, q1⟩ => ?_)
 obtain ⟨c, rfl, q1⟩ := q1
 cases r1
 exact not_of (wpAny_truthy_bool ⟨.bl (!c), H1, I1, rfl, q1⟩)
noncomputable def tIf (t : TT) (ta tb : TE) : TE := fun σ H Q => t σ H fun c H1 => if c = true then ta σ H1 Q else tb σ H1 Q
theorem d9y {c : Expr} (hc : PT X c tA) (ha : PE X a ta) (hb : PE X b tb) : PE X (.IfExp c a b pos) (tIf tA ta tb) := by
 intro pins s σ H Q I h
 refine wpAny_IfExp (thn (hc pins s σ H _ I h) fun d s1 ⟨H1, I1, q1⟩ => ?_)
 cases d with
 | true => exact ha pins s1 σ H1 Q I1 q1
 | false => exact hb pins s1 σ H1 Q I1 q1
end
end L2
namespace L2
open PySem PySem.Spec PyProof.Rows
noncomputable def SqL (K : PySem.W.Frag) (H : Hp) (a : Addr) (xs : List V) : Prop :=
 Rd H a (.lst xs) \/
  ∃ (o : Obj) (its : Array Value) (n : Nat), K.lookup a = some o ∧ o.cls = .type "list" ∧ o.dict = none ∧ o.data = .seq its n ∧ its.size ≤ sizeLine ∧ Vals xs its.toList
noncomputable def SqT (K : PySem.W.Frag) (H : Hp) (a : Addr) (xs : List V) : Prop :=
 Rd H a (.tup xs) \/
  ∃ (o : Obj) (its : Array Value) (n : Nat), K.lookup a = some o ∧ o.cls = .type "tuple" ∧ o.data = .seq its n ∧ its.size ≤ sizeLine ∧ Vals xs its.toList
noncomputable def absV : Value -> Option V
 | .none => some .non
 | .bool b => some (.bl b)
 | .int i _ => some (.int i)
 | .str x _ => some (.str x)
 | .bytes b _ => some (.byt b)
 | .float b _ => some (.flt b)
 | .ref a => some (.ref a)
 | .type n => some (.ty n)
 | _ => none
theorem RelV.abs {x : V} {u : Value} (r : RelV x u) : absV u = some x := by
 cases x with
 | non => cases r; rfl
 | bl _ => cases r; rfl
 | int _ => obtain ⟨t, rfl⟩ := r; rfl
 | str _ => obtain ⟨t, rfl⟩ := r; rfl
 | byt _ => obtain ⟨t, rfl⟩ := r; rfl
 | flt _ => obtain ⟨t, rfl⟩ := r; rfl
 | ref _ => cases r; rfl
 | ty _ => cases r; rfl
theorem RelV.inj {x y : V} {u : Value} (r : RelV x u) (q : RelV y u) : x = y := Option.some.inj (r.abs.symm.trans q.abs)
theorem Vals.inj : ∀ {xs ys : List V} {us : List Value}, Vals xs us -> Vals ys us -> xs = ys
 | _, _, _, .nil, .nil => rfl
 | _, _, _, .cons r t, .cons r' t' => by rw [r.inj r', Vals.inj t t']
section
variable {X : Cx} {pins : List (Addr × Obj)} {σ : St} {H : Hp} {s : Shared} {a : Addr} {xs ys : List V}
theorem SqL.of {K : PySem.W.Frag} (h : H a = some (.lst xs)) : SqL K H a xs := .inl (.inl h)
theorem SqT.of {K : PySem.W.Frag} (h : H a = some (.tup xs)) : SqT K H a xs := .inl (.inl h)
theorem Inv.list (I : Inv X pins σ H s) (h : SqL X.K H a xs) : ∃ its : List Value, Vals xs its /\ PlainL s.heap a its.toArray /\ xs.length <= sizeLine := by
 rcases h with h | ⟨o, its, n, hk, hc, hd, hs, hz, r⟩
 ·obtain ⟨z, its, n, r, e⟩ := h.ok I.hok
  exact ⟨its, r, ⟨_, n, e, rfl, rfl, rfl⟩, z⟩
 ·refine ⟨its.toList, r, ⟨o, n, I.kIn a o hk, hc, hd, by simpa using hs⟩, ?_⟩
  have e := r.length
  simp only [Array.length_toList] at e
  omega
theorem Inv.tuple (I : Inv X pins σ H s) (h : SqT X.K H a xs) : ∃ its : List Value, Vals xs its /\ IsTup s.heap a its.toArray /\ xs.length <= sizeLine := by
 rcases h with h | ⟨o, its, n, hk, hc, hs, hz, r⟩
 ·obtain ⟨z, its, r, p⟩ := h.ok I.hok
  exact ⟨its, r, p, z⟩
 ·refine ⟨its.toList, r, ⟨o, I.kIn a o hk, hc, n, by simpa using hs⟩, ?_⟩
  have e := r.length
  simp only [Array.length_toList] at e
  omega
theorem Inv.f8w (I : Inv X pins σ H s) (h : SqL X.K H a xs) (h' : SqL X.K H a ys) : xs = ys := by
 obtain ⟨its, r, ⟨o, n, e, _, _, d⟩, _⟩ := I.list h
 obtain ⟨its', r', ⟨o', n', e', _, _, d'⟩, _⟩ := I.list h'
 rw [e] at e'; cases e'
 rw [d] at d'
 injection d' with d1 _
 have : its = its' := by simpa using congrArg Array.toList d1
 subst this
 exact r.inj r'
theorem Inv.f2u (I : Inv X pins σ H s) (h : SqT X.K H a xs) (h' : SqT X.K H a ys) : xs = ys := by
 obtain ⟨its, r, ⟨o, e, _, n, d⟩, _⟩ := I.tuple h
 obtain ⟨its', r', ⟨o', e', _, n', d'⟩, _⟩ := I.tuple h'
 rw [e] at e'; cases e'
 rw [d] at d'
 injection d' with d1 _
 have : its = its' := by simpa using congrArg Array.toList d1
 subst this
 exact r.inj r'
end
noncomputable abbrev Cx.wish (X : Cx) (E : Value -> Shared -> Prop) : Cx := { X with xe := E }
noncomputable abbrev Cx.nox (X : Cx) : Cx := X.wish fun _ _ => False
theorem Cx.Ok.wish {X : Cx} (ok : X.Ok) (E : Value -> Shared -> Prop) : (X.wish E).Ok :=
 ⟨ok.mod, ok.kind, ok.glob, ok.blt, ok.above, ok.inj, ok.has, ok.cab, ok.hd, ok.frames, ok.stk, ok.exf, ok.bs, ok.bsz, ok.h5h, ok.h5s, ok.f8s, ok.frf⟩
theorem Cx.Ok.b6m {X : Cx} {E : Value -> Shared -> Prop} (ok : (X.wish E).Ok) : X.Ok :=
 ⟨ok.mod, ok.kind, ok.glob, ok.blt, ok.above, ok.inj, ok.has, ok.cab, ok.hd, ok.frames, ok.stk, ok.exf, ok.bs, ok.bsz, ok.h5h, ok.h5s, ok.f8s, ok.frf⟩
section
variable {X : Cx} {pins : List (Addr × Obj)} {σ : St} {H : Hp} {s : Shared} {E : Value -> Shared -> Prop}
theorem Inv.wish (I : Inv X pins σ H s) (E : Value -> Shared -> Prop) : Inv (X.wish E) pins σ H s := ⟨I.ok.wish E, I.os, I.bare, I.base, I.loc, I.cell, I.free, I.c9v, I.pin, I.hok, I.len⟩
theorem Inv.b6m (I : Inv (X.wish E) pins σ H s) : Inv X pins σ H s := ⟨I.ok.b6m, I.os, I.bare, I.base, I.loc, I.cell, I.free, I.c9v, I.pin, I.hok, I.len⟩
theorem SP.b6m {D : Ends} {f : Flow} {s' : Shared} (h : SP (X.wish E) pins D f s') : SP X pins D f s' := by
 cases f with
 | next => obtain ⟨σ', H', I, q⟩ := h; exact ⟨σ', H', I.b6m, q⟩
 | brk => obtain ⟨σ', H', I, q⟩ := h; exact ⟨σ', H', I.b6m, q⟩
 | cont => obtain ⟨σ', H', I, q⟩ := h; exact ⟨σ', H', I.b6m, q⟩
 | ret u => obtain ⟨v, σ', H', I, r, q⟩ := h; exact ⟨v, σ', H', I.b6m, r, q⟩
theorem PE.nox {e : Expr} {t : TE} (h : PE X.nox e t) : PE X e t := fun pins s σ H Q I hw =>
 wpAny_mono (h pins s σ H Q (I.wish _) hw) (fun _ _ ⟨v, H', I', r, q⟩ => ⟨v, H', I'.b6m, r, q⟩) fun _ _ z => False.elim z
theorem PT.nox {e : Expr} {t : TT} (h : PT X.nox e t) : PT X e t := fun pins s σ H Q I hw =>
 wpAny_mono (h pins s σ H Q (I.wish _) hw) (fun _ _ ⟨H', I', q⟩ => ⟨H', I'.b6m, q⟩) fun _ _ z => False.elim z
theorem PSs.nox {st : List Stmt} {t : TS} (h : PSs X.nox st t) : PSs X st t := fun pins s σ H D I hw =>
 wpAny_mono (h pins s σ H D (I.wish _) hw) (fun _ _ q => q.b6m) fun _ _ z => False.elim z
end
section
variable {X : Cx} {st : Stmt} {rest : List Stmt} {t u : TS} {e : Expr} {te : TE} {pos : Pos}
noncomputable def h5z : TS := fun D σ H => D.nx σ H
noncomputable def i3h (t u : TS) : TS := fun D σ H => t { D with nx := u D } σ H
theorem a2g : PSs X [] h5z := fun _ _ σ H _ I h => wpAny_execs_nil ⟨σ, H, I, h⟩
theorem a0k (h1 : PS X st t) (h2 : PSs X rest u) : PSs X (st :: rest) (i3h t u) := by
 intro pins s σ H D I h
 refine wpAny_execs_cons (thn (h1 pins s σ H { D with nx := u D } I h) fun f s1 q => ?_)
 cases f with
 | next =>
  obtain ⟨σ', H', I', q⟩ := q
  exact h2 pins s1 σ' H' D I' q
 | ret v => exact q
 | brk => exact q
 | cont => exact q
theorem a0m (h1 : PS X st t) : PSs X [st] t := by
 intro pins s σ H D I h
 refine wpAny_execs_cons (thn (h1 pins s σ H D I h) fun f s1 q => ?_)
 cases f with
 | next => exact wpAny_execs_nil q
 | ret v => exact q
 | brk => exact q
 | cont => exact q
noncomputable def i3i : TS := fun D σ H => D.bk σ H
noncomputable def tCont : TS := fun D σ H => D.ct σ H
theorem Inv.quiet {pins : List (Addr × Obj)} {σ : St} {H : Hp} {s : Shared} (I : Inv X pins σ H s) : interactive X.env = false := by simp [interactive, I.ok.kind]
noncomputable def h6a (te : TE) : TS := fun D σ H => te σ H fun _ H1 => D.nx σ H1
theorem c3j (he : PE X e te) (hs : swapsWith e none pos.line X.env = pure false := by rfl) : PS X (.Expr e pos) (h6a te) := by
 intro pins s σ H D I h
 exact wpAny_Expr_any (thn (he pins s σ H _ I h) fun v s1 ⟨x, H1, I1, r1, q1⟩ => ⟨σ, H1, I1, q1⟩) I.quiet hs
noncomputable def i3j (te : TE) : TS := fun D σ H => te σ H D.rt
theorem a1h (he : PE X e te) : PS X (.Return (some e) pos) (i3j te) := by
 intro pins s σ H D I h
 exact wpAny_Return_some (thn (he pins s σ H _ I h) fun v s1 ⟨x, H1, I1, r1, q1⟩ => ⟨x, σ, H1, I1, r1, q1⟩)
noncomputable def i1h : TS := fun D _ H => D.rt .non H
noncomputable def i3k (c : TT) (t u : TS) : TS := fun D σ H => c σ H fun b H1 => if b = true then t D σ H1 else u D σ H1
theorem a8h {c : Expr} {a b : List Stmt} {tc : TT} (hc : PT X c tc) (ha : PSs X a t) (hb : PSs X b u) : PS X (.If c a b pos) (i3k tc t u) := by
 intro pins s σ H D I h
 refine wpAny_If (thn (hc pins s σ H _ I h) fun d s1 ⟨H1, I1, q1⟩ => ?_)
 cases d with
 | true => exact ha pins s1 σ H1 D I1 q1
 | false => exact hb pins s1 σ H1 D I1 q1
noncomputable def h0f : TS := fun _ _ _ => False
theorem a6k : PS X st h0f := fun _ _ _ _ _ _ h => h.elim
end
noncomputable abbrev TG := V -> St -> Hp -> (St -> Hp -> Prop) -> Prop
noncomputable abbrev TGs := List V -> St -> Hp -> (St -> Hp -> Prop) -> Prop
noncomputable def PG (X : Cx) (target : Expr) (t : TG) : Prop :=
 ∀ (pins : List (Addr × Obj)) (s : Shared) (σ : St) (H : Hp) (v : V) (u : Value) (Q : St -> Hp -> Prop), Inv X pins σ H s -> RelV v u -> t v σ H Q ->
  wpAny (model X.prog X.w) X.A (assign target X.env u) (fun _ s' => ∃ σ' H', Inv X pins σ' H' s' /\ Q σ' H') X.xe s
noncomputable def PGs (X : Cx) (ts : List Expr) (t : TGs) : Prop :=
 ∀ (pins : List (Addr × Obj)) (s : Shared) (σ : St) (H : Hp) (vs : List V) (us : List Value) (Q : St -> Hp -> Prop), Inv X pins σ H s -> Vals vs us -> t vs σ H Q ->
  wpAny (model X.prog X.w) X.A (assignInOrder ((assignEach ts X.env).map (·.2)) us) (fun _ s' => ∃ σ' H', Inv X pins σ' H' s' /\ Q σ' H') X.xe s
noncomputable abbrev i1i := V -> V -> V -> Hp -> (Hp -> Prop) -> Prop
noncomputable def PSet (X : Cx) (t : i1i) : Prop :=
 ∀ (pins : List (Addr × Obj)) (s : Shared) (σ : St) (H : Hp) (o i v : V) (ov iv u : Value) (Q : Hp -> Prop), Inv X pins σ H s -> RelV o ov -> RelV i iv -> RelV v u -> t o i v H Q ->
  wpAny (model X.prog X.w) X.A (setItem ov iv u) (fun _ s' => ∃ H', Inv X pins σ H' s' /\ Q H') X.xe s
noncomputable abbrev TIp := V -> V -> Hp -> VK -> Prop
noncomputable def PIp (X : Cx) (op : Operator) (t : TIp) : Prop :=
 ∀ (pins : List (Addr × Obj)) (s : Shared) (σ : St) (H : Hp) (x y : V) (v u : Value) (Q : VK), Inv X pins σ H s -> RelV x v -> RelV y u -> t x y H Q ->
  wpAny (model X.prog X.w) X.A (inplaceOp op v u) (EP X pins σ Q) X.xe s
section
variable {X : Cx} {pos : Pos}
noncomputable def g7q (i : Nat) : TG := fun v σ H Q => Q (σ.set i (some v)) H
theorem b0w {i : Nat} {x : Str} (hN : X.N.Nodup) (hi : X.N[i]? = some x) (hx : Loc X.env.scope x) (hf : X.fn x = true \/ X.env.scope.names.lookup x = some .local := by first | exact .inl rfl | exact .inr rfl | assumption) : PG X (.Name x pos) (g7q i) := by
 intro pins s σ H v u Q I r h
 exact wpAny_assign_Name (f8v I hN hi hx r (fun s' I' => ⟨_, H, I', h⟩) hf)
noncomputable def gNil : TGs := fun vs σ H Q => vs = [] /\ Q σ H
noncomputable def i1j (t : TG) (u : TGs) : TGs := fun vs σ H Q => ∃ v r, vs = v :: r /\ t v σ H fun σ' H' => u r σ' H' Q
theorem h2m : PGs X [] gNil := by
 intro pins s σ H vs us Q I r h
 obtain ⟨e, h⟩ := h
 subst e
 cases r
 exact assignInOrder_nil ⟨σ, H, I, h⟩
theorem g7r {e : Expr} {es : List Expr} {t : TG} {u : TGs} (h1 : PG X e t) (h2 : PGs X es u)
  (hs : (assignEach (e :: es) X.env).map (·.2) = assign e X.env :: (assignEach es X.env).map (·.2) := by rfl) : PGs X (e :: es) (i1j t u) := by
 intro pins s σ H vs us Q I r h
 obtain ⟨v, vr, e1, h⟩ := h
 subst e1
 cases r with
 | cons r rr =>
  rw [hs]
  refine assignInOrder_cons (thn (h1 pins s σ H _ _ _ I r h) fun _ s1 ⟨σ1, H1, I1, q1⟩ => ?_)
  exact h2 pins s1 σ1 H1 _ _ Q I1 rr q1
noncomputable def gTup (K : PySem.W.Frag) (n : Nat) (t : TGs) : TG := fun v σ H Q => ∃ a xs, v = .ref a /\ SqT K H a xs /\ xs.length = n /\ t xs σ H Q
theorem h6b {es : List Expr} {k : Nat} {t : TGs} {n : Nat} (hc : X.calm = true) (h : PGs X es t)
  (hn : (assignEach es X.env).length = n := by rfl) (hst : (assignEach es X.env).findIdx? (·.1) = none := by rfl) : PG X (.Tuple es k pos) (gTup X.K n t) := by
 intro pins s σ H v u Q I r hw
 obtain ⟨a, xs, e1, hq, hl, hw⟩ := hw
 subst e1
 cases r
 obtain ⟨its, rv, ht, hz⟩ := I.tuple hq
 refine assign_Tuple_tuple (I.ok.hd hc) ht (by simp [hn, <- hl, rv.length]) hst fun h' hx => ?_
 have I1 : Inv X pins σ H { s with heap := h' } := I.kept (t' := s.toks) fun b o e => hx b o (Nat.ne_of_lt (Heap.lt_size e)) e
 exact h pins _ σ H xs _ Q I1 (by simpa using rv) hw
noncomputable def gSub (to ti : TE) (t : i1i) : TG := fun v σ H Q => to σ H fun o H1 => ti σ H1 fun i H2 => t o i v H2 fun H3 => Q σ H3
noncomputable def i1k (te : TE) (g : TG) : TS := fun D σ H => te σ H fun x H1 => g x σ H1 D.nx
theorem a1o {i : Nat} {x : Str} {e : Expr} {te : TE} {pos' : Pos} (hN : X.N.Nodup) (hi : X.N[i]? = some x) (hx : Loc X.env.scope x) (he : PE X e te) (hs : swapsWith e (some (.Name x pos')) pos.line X.env = pure false := by rfl) (hf : X.fn x = true \/ X.env.scope.names.lookup x = some .local := by first | exact .inl rfl | exact .inr rfl | assumption) :
  PS X (.Assign [.Name x pos'] e pos) (i1k te (g7q i)) := by
 intro pins s σ H D I h
 refine wpAny_Assign_Name (thn (he pins s σ H _ I h) fun v s1 ⟨y, H1, I1, r1, q1⟩ => ?_) hs
 exact f8v I1 hN hi hx r1 (fun s2 I2 => ⟨_, H1, I2, q1⟩) hf
noncomputable def tPar (i j : Nat) (ta : TA) : TS := fun D σ H => ta σ H fun vs H1 => ∃ v w, vs = [v, w] /\ D.nx ((σ.set i (some v)).set j (some w)) H1
noncomputable def tAug (i : Nat) (te : TE) (ti : TIp) : TS := fun D σ H => ∃ x, σ[i]? = some (some x) /\ te σ H fun y H1 => ti x y H1 fun z H2 => D.nx (σ.set i (some z)) H2
noncomputable def tAugS (to ti te : TE) (tget : V -> V -> Hp -> VK -> Prop) (tip : TIp) (tset : i1i) : TS := fun D σ H => to σ H fun o H1 => ti σ H1 fun i H2 => tget o i H2 fun x H3 => te σ H3 fun y H4 => tip x y H4 fun z H5 => tset o i z H5 fun H6 => D.nx σ H6
noncomputable def PGet (X : Cx) (t : V -> V -> Hp -> VK -> Prop) : Prop :=
 ∀ (pins : List (Addr × Obj)) (s : Shared) (σ : St) (H : Hp) (o i : V) (ov iv : Value) (Q : VK), Inv X pins σ H s -> RelV o ov -> RelV i iv -> t o i H Q ->
  wpAny (model X.prog X.w) X.A (getItem ov iv) (EP X pins σ Q) X.xe s
noncomputable def ipI (f : Int -> Int -> Int) : TIp := fun x y H Q => ∃ i j, x = .int i /\ y = .int j /\ Q (.int (f i j)) H
end
section
variable {X : Cx} {pos : Pos}
noncomputable def i3l (c : TT) (tb : TS) : TS := fun D σ H => ∃ W : Nat -> St -> Hp -> Prop, (∃ m, W m σ H) /\ ∀ m σ H, W m σ H ->
 c σ H fun b H1 => if b = true then ∃ N : St -> Hp -> Prop, (∀ σ' H', N σ' H' -> ∃ m', m' < m /\ W m' σ' H') /\ tb { D with nx := N, ct := N, bk := D.nx } σ H1 else D.nx σ H1
end
structure It where
 go : Nat -> Hp -> Prop
 yld : Nat -> Hp -> V -> Hp -> Prop
 stop : Nat -> Hp -> Prop
noncomputable def g0o (X : Cx) (pins : List (Addr × Obj)) (H : Hp) (b : Addr) : Prop :=
 H b = none /\ b ≠ X.env.locals /\ b ∉ X.fs /\ (b ∈ X.ex \/ X.s₀.heap.objs.size <= b) /\ (∀ x c, X.env.cells.lookup x = some c -> c ≠ b) /\ ∀ p ∈ X.pn ++ pins, p.1 ≠ b
theorem Inv.h2n {X : Cx} {pins : List (Addr × Obj)} {σ : St} {H H' : Hp} {s : Shared} {b : Addr} (I : Inv X pins σ H s) (hb : s.heap.objs.size <= b) (hn : H' b = none) : g0o X pins H' b := by
 refine ⟨hn, Nat.ne_of_gt (Nat.lt_of_lt_of_le I.lt hb), I.nofs hb, .inr (Nat.le_trans I.sz hb), fun x c e z => ?_, fun p hp z => ?_⟩
 ·obtain ⟨v, q⟩ := I.cell x c e
  exact absurd (Nat.lt_of_lt_of_le q.lt (by rw [z]; exact hb)) (Nat.lt_irrefl _)
 ·exact absurd (Nat.lt_of_lt_of_le (Heap.lt_size (I.pin p hp).1) (by rw [z]; exact hb)) (Nat.lt_irrefl _)
structure Turn (P : Program) (w : World) (K : PySem.W.Frag) (tg : Expr) (J : It) (fp : List Addr) (it : Addr) (tn : Nat -> Heap -> Prop) : Prop where
 mem : it ∈ fp
 obj : ∀ i h, tn i h -> ∀ b ∈ fp, ∃ o, h.get? b = some o /\ ∀ v, o.data ≠ .cell v
 keep : ∀ i h h', tn i h -> (∀ b ∈ fp, ∀ o, h.get? b = some o -> h'.get? b = some o) -> tn i h'
 item : ∀ (X : Cx), X.prog = P -> X.w = w -> X.K = K -> X.calm = true -> ∀ (i : Nat) (pins : List (Addr × Obj)) (s : Shared) (σ : St) (H : Hp) (E : Value -> Shared -> Prop), Inv X pins σ H s -> (∀ b ∈ fp, g0o X pins H b) -> tn i s.heap -> J.go i H ->
  wpAny (model P w) X.A (pyNext (.ref it)) (fun r s1 => ∃ u, r = some u /\
   wpAny (model P w) X.A (letOwnedTupleGo tg (.ref it) u) (fun _ s2 => ∃ x H', Inv X pins σ H' s2 /\ RelV x u /\ J.yld i H x H' /\ tn (i + 1) s2.heap /\ ∀ b ∈ fp, H' b = none) E s1) E s
 done : ∀ (X : Cx), X.prog = P -> X.w = w -> X.K = K -> X.calm = true -> ∀ (i : Nat) (pins : List (Addr × Obj)) (s : Shared) (σ : St) (H : Hp) (E : Value -> Shared -> Prop), Inv X pins σ H s -> (∀ b ∈ fp, g0o X pins H b) -> tn i s.heap -> J.stop i H ->
  wpAny (model P w) X.A (pyNext (.ref it)) (fun r s1 => r = none /\ Inv X pins σ H s1) E s
 self : ∀ (A : Around) (i : Nat) (s : Shared) (Q : Value -> Shared -> Prop) (E : Value -> Shared -> Prop), tn i s.heap -> Q (.ref it) s -> wpAny (model P w) A (pyIter (.ref it)) Q E s
noncomputable abbrev TI := St -> Hp -> (It -> Hp -> Prop) -> Prop
noncomputable def PIE (X : Cx) (pins : List (Addr × Obj)) (σ : St) (tg : Expr) (R : It -> Hp -> Prop) (itv : Value) (s2 : Shared) : Prop :=
 ∃ (it : Addr) (fp : List Addr) (tn : Nat -> Heap -> Prop) (J : It) (H' : Hp), itv = .ref it /\ Inv X pins σ H' s2 /\ Turn X.prog X.w X.K tg J fp it tn /\ tn 0 s2.heap /\ (∀ b ∈ fp, g0o X pins H' b) /\ R J H'
noncomputable def PI (X : Cx) (tg iter : Expr) (wi : TI) : Prop :=
 ∀ (pins : List (Addr × Obj)) (s : Shared) (σ : St) (H : Hp) (R : It -> Hp -> Prop), Inv X pins σ H s -> wi σ H R ->
  wpAny (model X.prog X.w) X.A (eval iter X.env) (fun v s1 => wpAny (model X.prog X.w) X.A (pyIter v) (PIE X pins σ tg R) X.xe s1) X.xe s
theorem g7s {M : Model} {A : Around} {E : Value -> Shared -> Prop} {s : Shared} {tg : Expr} {it : Addr} {u : Value} {o : Obj} {n : String} {vs : Array Value} {Q : Unit -> Shared -> Prop} (ho : s.heap.get? it = some o) (hc : o.cls = .type n) (hd : o.data = .fields vs)
  (hn : ["enumerate", "zip", "dict_itemiterator", "dict_reverseitemiterator", "odict_iterator", "itertools.zip_longest", "itertools.pairwise"].contains n = false) (hQ : Q () s) : wpAny M A (letOwnedTupleGo tg (.ref it) u) Q E s := by
 unfold letOwnedTupleGo
 cases tg <;> first
  | exact wpAny_pure hQ
  | (cases u <;> first
    | exact wpAny_pure hQ
    | (refine wpAny_bind (wpAny_load ho ?_)
       rw [hc, hd]
       show wpAny M A (if (["enumerate", "zip", "dict_itemiterator", "dict_reverseitemiterator", "odict_iterator", "itertools.zip_longest", "itertools.pairwise"].contains n && vs[0]? == some (rawInt _)) = true then _ else _) Q E s
       rw [if_neg (by intro h; rw [hn, Bool.false_and] at h; cases h)]
       exact wpAny_pure hQ))
noncomputable def Itl (K : PySem.W.Frag) (a : Addr) : It :=
 ⟨fun i H => ∃ xs x, SqL K H a xs /\ xs[i]? = some x, fun i H x H' => H' = H /\ ∀ xs, SqL K H a xs -> xs[i]? = some x, fun i H => ∃ xs, SqL K H a xs /\ xs.length <= i⟩
noncomputable def Itt (K : PySem.W.Frag) (a : Addr) : It :=
 ⟨fun i H => ∃ xs x, SqT K H a xs /\ xs[i]? = some x, fun i H x H' => H' = H /\ ∀ xs, SqT K H a xs -> xs[i]? = some x, fun i H => ∃ xs, SqT K H a xs /\ xs.length <= i⟩
noncomputable def Itr (lo : Int) (n : Nat) : It := ⟨fun i _ => i < n, fun i H x H' => H' = H /\ x = .int (lo + i), fun i _ => n <= i⟩
theorem g3d {P : Program} {w : World} {K : PySem.W.Frag} {tg : Expr} (a it : Addr) : Turn P w K tg (Itl K a) [it] it (fun i h => h.IsListIter it a i) where
 mem := by simp
 obj := fun i h st b hb => by
  have e : b = it := by simpa using hb
  subst e
  obtain ⟨o, e, c, d⟩ := st
  exact ⟨o, e, fun v z => by rw [d] at z; cases z⟩
 keep := fun i h h' st k => st.at fun o e => k it (by simp) o e
 item := by
  intro X hP hw hK hc i pins s σ H E I hf st hg
  subst hP hw hK
  obtain ⟨xs, x, hq, hx⟩ := hg
  obtain ⟨its, rv, p, hz⟩ := I.list hq
  obtain ⟨u, hu, ru⟩ := rv.get hx
  obtain ⟨f0, f1, f2, f3, f4, f5⟩ := hf it (by simp)
  refine wpAny_pyNext_list_item st p.isList (x := u) (by simpa using hu) fun h' st' sb => ?_
  have I1 : Inv X pins σ H { s with heap := h' } := I.turned (t' := s.toks) (fun b o hb e => (sb.2 b hb).trans e) f0 f1 f3 f4 f5
  obtain ⟨o, e, c, d⟩ := id st'
  exact ⟨u, rfl, g7s (s := { s with heap := h' }) e c d (by decide) ⟨x, H, I1, ru, ⟨rfl, fun ys hy => by rw [I.f8w hy hq]; exact hx⟩, st', fun b hb => (hf b hb).1⟩⟩
 done := by
  intro X hP hw hK hc i pins s σ H E I hf st hg
  subst hP hw hK
  obtain ⟨xs, hq, hx⟩ := hg
  obtain ⟨its, rv, p, hz⟩ := I.list hq
  obtain ⟨f0, f1, f2, f3, f4, f5⟩ := hf it (by simp)
  have hl := rv.length
  exact wpAny_pyNext_list_end (I.ok.hd hc) st p.isList (by simp; omega) fun h' eb => ⟨rfl, I.turned (t' := s.toks) (fun b o hb e => eb b o hb e) f0 f1 f3 f4 f5⟩
 self := fun _ _ _ _ _ st h => wpAny_pyIter_listiter st h
theorem g0p {P : Program} {w : World} {K : PySem.W.Frag} {tg : Expr} (a it : Addr) : Turn P w K tg (Itt K a) [it] it (fun i h => h.IsTupleIter it a i) where
 mem := by simp
 obj := fun i h st b hb => by
  have e : b = it := by simpa using hb
  subst e
  obtain ⟨o, e, c, d⟩ := st
  exact ⟨o, e, fun v z => by rw [d] at z; cases z⟩
 keep := fun i h h' st k => st.at fun o e => k it (by simp) o e
 item := by
  intro X hP hw hK hc i pins s σ H E I hf st hg
  subst hP hw hK
  obtain ⟨xs, x, hq, hx⟩ := hg
  obtain ⟨its, rv, p, hz⟩ := I.tuple hq
  obtain ⟨u, hu, ru⟩ := rv.get hx
  obtain ⟨f0, f1, f2, f3, f4, f5⟩ := hf it (by simp)
  refine wpAny_pyNext_tuple_item st (show s.heap.IsTuple a its.toArray from p) (x := u) (by simpa using hu) fun h' st' sb => ?_
  have I1 : Inv X pins σ H { s with heap := h' } := I.turned (t' := s.toks) (fun b o hb e => (sb.2 b hb).trans e) f0 f1 f3 f4 f5
  obtain ⟨o, e, c, d⟩ := id st'
  exact ⟨u, rfl, g7s (s := { s with heap := h' }) e c d (by decide) ⟨x, H, I1, ru, ⟨rfl, fun ys hy => by rw [I.f2u hy hq]; exact hx⟩, st', fun b hb => (hf b hb).1⟩⟩
 done := by
  intro X hP hw hK hc i pins s σ H E I hf st hg
  subst hP hw hK
  obtain ⟨xs, hq, hx⟩ := hg
  obtain ⟨its, rv, p, hz⟩ := I.tuple hq
  obtain ⟨f0, f1, f2, f3, f4, f5⟩ := hf it (by simp)
  have hl := rv.length
  exact wpAny_pyNext_tuple_end (I.ok.hd hc) st (show s.heap.IsTuple a its.toArray from p) (by simp; omega) fun h' eb => ⟨rfl, I.turned (t' := s.toks) (fun b o hb e => eb b o hb e) f0 f1 f3 f4 f5⟩
 self := fun _ _ _ _ _ st h => wpAny_pyIter_tupleiter st h
theorem g0q {P : Program} {w : World} {K : PySem.W.Frag} {tg : Expr} (it : Addr) (lo : Int) (n : Nat) : Turn P w K tg (Itr lo n) [it] it (fun i h => IsRangeIter h it (lo + (i : Nat) * 1) ((n : Int) - (i : Nat)) 1) where
 mem := by simp
 obj := fun i h st b hb => by
  have e : b = it := by simpa using hb
  subst e
  exact ⟨_, st, fun v z => by
   have z' : Data.fields _ = Data.cell v := z
   cases z'⟩
 keep := fun i h h' st k => k it (by simp) _ st
 item := by
  intro X hP hw hK hc i pins s σ H E I hf st hg
  subst hP hw hK
  obtain ⟨f0, f1, f2, f3, f4, f5⟩ := hf it (by simp)
  have W := Walks.range (prog := X.prog) (w := X.w) (I.ok.hd hc) it lo 1 n
  refine W.item i s _ _ hg st fun v h' tk hv st' kk => ?_
  obtain ⟨t, rfl⟩ := hv
  have I1 : Inv X pins σ H { s with heap := h', toks := tk } := I.turned (fun b o hb e => kk b o (by simpa using hb) e) f0 f1 f3 f4 f5
  refine ⟨_, rfl, g7s (s := { s with heap := h', toks := tk }) (n := "range_iterator") st' rfl rfl (by decide) ⟨.int (lo + i), H, I1, ⟨t, ?_⟩, ⟨rfl, rfl⟩, st', fun b hb => (hf b hb).1⟩⟩
  rw [Int.mul_one]
 done := by
  intro X hP hw hK hc i pins s σ H E I hf st hg
  subst hP hw hK
  obtain ⟨f0, f1, f2, f3, f4, f5⟩ := hf it (by simp)
  exact wpAny_pyNext_range_end (I.ok.hd hc) st (by have : n <= i := hg; omega) fun h' eb => ⟨rfl, I.turned (t' := s.toks) (fun b o hb e => eb b o hb e) f0 f1 f3 f4 f5⟩
 self := fun _ _ _ _ _ st h => wpAny_pyIter_rangeiter st h
end L2
namespace L2
open PySem PySem.Spec PyProof.Rows
section
variable {X : Cx} {tg : Expr}
noncomputable def h6c (K : PySem.W.Frag) (tl : TE) : TI := fun σ H R => tl σ H fun x H1 => ∃ a, x = .ref a /\ (∃ xs, SqL K H1 a xs) /\ R (Itl K a) H1
noncomputable def iTup (K : PySem.W.Frag) (tl : TE) : TI := fun σ H R => tl σ H fun x H1 => ∃ a, x = .ref a /\ (∃ xs, SqT K H1 a xs) /\ R (Itt K a) H1
theorem h2o {l : Expr} {tl : TE} (hl : PE X l tl) : PI X tg l (h6c X.K tl) := by
 intro pins s σ H R I h
 refine thn (hl pins s σ H _ I h) fun v s1 ⟨x, H1, I1, r1, q1⟩ => ?_
 obtain ⟨a, e, ⟨xs, hq⟩, q⟩ := q1
 subst e
 cases r1
 obtain ⟨its, rv, p, hz⟩ := I1.list hq
 refine wpAny_pyIter_list p.isList ?_
 refine ⟨s1.heap.objs.size, [s1.heap.objs.size], _, _, H1, rfl, I1.kept (t' := s1.toks) fun b o e => Heap.get?_push_of_some _ e, g3d a _, ⟨_, Heap.get?_push_size _ rfl, rfl, rfl⟩, fun b hb => ?_, q⟩
 have e : b = s1.heap.objs.size := by simpa using hb
 subst e
 exact I1.h2n (Nat.le_refl _) (I1.hok.fresh (Nat.le_refl _))
theorem f8y {pins : List (Addr × Obj)} {σ : St} {H : Hp} {s : Shared} {R : It -> Hp -> Prop} {E : Value -> Shared -> Prop} {lo hi : Int} {t u v : Tok} {tk : Nat} (I : Inv X pins σ H s) (h1 : -(2 ^ 62) <= lo) (h2 : lo < 2 ^ 62) (h3 : -(2 ^ 62) <= hi) (h4 : hi < 2 ^ 62)
  (q : R (Itr lo (hi - lo).toNat) H) : wpAny (model X.prog X.w) X.A (pyIter (.ref s.heap.objs.size)) (PIE X pins σ tg R) E { s with heap := s.heap.push { cls := .type "range", data := .fields #[.int lo t, .int hi u, .int 1 v] }, toks := tk } := by
 refine wpAny_pyIter_range (IsRange.new ..) (small_one h1 h2 h3 h4) ?_
 have I1 : Inv X pins σ H { s with heap := s.heap.push { cls := .type "range", data := .fields #[.int lo t, .int hi u, .int 1 v] }, toks := tk } := I.kept fun b o e => Heap.get?_push_of_some _ e
 refine ⟨(s.heap.push { cls := .type "range", data := .fields #[.int lo t, .int hi u, .int 1 v] }).objs.size, [(s.heap.push { cls := .type "range", data := .fields #[.int lo t, .int hi u, .int 1 v] }).objs.size], _, _, H, rfl,
  I1.kept (t' := tk) fun b o e => Heap.get?_push_of_some _ e, g0q _ lo (hi - lo).toNat, ?_, fun b hb => ?_, q⟩
 ·have e1 : lo + ((0 : Nat) : Int) * 1 = lo := by simp
  have e2 : (((hi - lo).toNat : Nat) : Int) - ((0 : Nat) : Int) = Builtin.Range.rangeSize lo hi 1 := by rw [rangeSize_one]; split <;> omega
  show IsRangeIter _ _ (lo + ((0 : Nat) : Int) * 1) ((((hi - lo).toNat : Nat) : Int) - ((0 : Nat) : Int)) 1
  rw [e1, e2]
  exact Heap.get?_push_size _ rfl
 ·have e : b = (s.heap.push { cls := .type "range", data := .fields #[.int lo t, .int hi u, .int 1 v] }).objs.size := by simpa using hb
  subst e
  exact I1.h2n (Nat.le_refl _) (I1.hok.fresh (Nat.le_refl _))
noncomputable def h6d (ta : TA) : TI := fun σ H R => ta σ H fun vs H1 => ∃ j : Int, vs = [.int j] /\ -(2 ^ 62) <= j /\ j < 2 ^ 62 /\ R (Itr 0 j.toNat) H1
noncomputable def h6e (ta : TA) : TI := fun σ H R => ta σ H fun vs H1 => ∃ i j : Int, vs = [.int i, .int j] /\ (-(2 ^ 62) <= i /\ i < 2 ^ 62 /\ -(2 ^ 62) <= j /\ j < 2 ^ 62) /\ R (Itr i (j - i).toNat) H1
theorem g3e {a : Expr} {ta : TA} {p pos : Pos} (hg : Gl X "range") (hm : X.mg "range" = none) (ha : PA X [a] ta) (hs : starEach [a] X.env = [(false, eval a X.env)] := by rfl) : PI X tg (.Call (.Name "range" p) [a] [] pos) (h6d ta) := by
 intro pins s σ H R I h
 refine Call_ (d1y I hg hm boot_range (PyProof.Rows.callWith_type1 (thn (ha pos pins s σ H _ I h) fun us s1 ⟨vs, H1, I1, r1, q1⟩ => ?_) hs rfl))
 obtain ⟨j, e, q1, q2, q⟩ := q1
 subst e
 cases r1 with
 | cons r rr =>
  cases rr
  obtain ⟨t, rfl⟩ := r
  exact call_range_1 (f8y I1 (by omega) (by omega) q1 q2 (by simpa using q))
theorem g3f {a b : Expr} {ta : TA} {p pos : Pos} (hg : Gl X "range") (hm : X.mg "range" = none) (ha : PA X [a, b] ta) (hs : starEach [a, b] X.env = [(false, eval a X.env), (false, eval b X.env)] := by rfl) (hs2 : starEach [b] X.env = [(false, eval b X.env)] := by rfl) :
  PI X tg (.Call (.Name "range" p) [a, b] [] pos) (h6e ta) := by
 intro pins s σ H R I h
 refine Call_ (d1y I hg hm boot_range (PyProof.Rows.callWith_type1 (thn (ha pos pins s σ H _ I h) fun us s1 ⟨vs, H1, I1, r1, q1⟩ => ?_) (by rw [hs, hs2]) (by rw [hs2]; rfl)))
 obtain ⟨i, j, e, ⟨q1, q2, q3, q4⟩, q⟩ := q1
 subst e
 cases r1 with
 | cons r rr =>
  cases rr with
  | cons r' rr =>
   cases rr
   obtain ⟨t, rfl⟩ := r
   obtain ⟨t', rfl⟩ := r'
   exact call_range_2 (f8y I1 q1 q2 q3 q4 q)
noncomputable def tFor (wi : TI) (g : TG) (tb : TS) : TS := fun D σ H => wi σ H fun J H1 => ∃ W : Nat -> Nat -> St -> Hp -> Prop, (∃ m, W 0 m σ H1) /\ ∀ i m σ H, W i m σ H ->
 (J.stop i H /\ D.nx σ H) \/ (J.go i H /\ ∃ N : St -> Hp -> Prop, (∀ σ' H', N σ' H' -> ∃ m', m' < m /\ W (i + 1) m' σ' H') /\ ∀ x H', J.yld i H x H' -> g x σ H' fun σ2 H2 => tb { D with nx := N, ct := N, bk := D.nx } σ2 H2)
noncomputable def f2v (fp : List Addr) (h : Heap) : List (Addr × Obj) := fp.filterMap fun b => (h.get? b).map fun o => (b, o)
theorem c5y {fp : List Addr} {h : Heap} {b : Addr} {o : Obj} (hb : b ∈ fp) (e : h.get? b = some o) : (b, o) ∈ f2v fp h := List.mem_filterMap.mpr ⟨b, hb, by rw [e]; rfl⟩
theorem g3g {fp : List Addr} {h : Heap} {p : Addr × Obj} (hp : p ∈ f2v fp h) : p.1 ∈ fp /\ h.get? p.1 = some p.2 := by
 obtain ⟨b, hb, e⟩ := List.mem_filterMap.mp hp
 cases q : h.get? b with
 | none => rw [q] at e; cases e
 | some o =>
  rw [q] at e
  have e' : (b, o) = p := Option.some.inj e
  subst e'
  exact ⟨hb, q⟩
theorem Inv.pinned {pins : List (Addr × Obj)} {σ : St} {H : Hp} {s : Shared} {fp : List Addr} (I : Inv X pins σ H s) (hf : ∀ b ∈ fp, g0o X pins H b) (ho : ∀ b ∈ fp, ∃ o, s.heap.get? b = some o /\ ∀ v, o.data ≠ .cell v) : Inv X (pins ++ f2v fp s.heap) σ H s :=
 I.g3c fun p hp => (List.mem_append.mp hp).elim (fun z => I.pin p (List.mem_append_right _ z)) fun z => by
  obtain ⟨hb, e⟩ := g3g z
  obtain ⟨f0, f1, f2, _⟩ := hf p.1 hb
  obtain ⟨o, e', d⟩ := ho p.1 hb
  rw [e] at e'; cases e'
  exact ⟨e, f0, f1, f2, d⟩
theorem Inv.d2z {pins pl : List (Addr × Obj)} {σ : St} {H : Hp} {s : Shared} (I : Inv X (pins ++ pl) σ H s) : Inv X pins σ H s := I.g3c fun p hp => I.pin p (List.mem_append_right _ (List.mem_append_left _ hp))
theorem h6f {iter : Expr} {body : List Stmt} {wi : TI} {g : TG} {tb : TS} {pos : Pos} (hp : PassesOwn (model X.prog X.w) X.A X.env X.xe) (hc : X.calm = true) (hi : PI X tg iter wi) (hg : PG X tg g) (hb : PSs X body tb)
  (hs : ∀ x, foldedSetIterable iter X.env x = pure x := by intro _; rfl) : PS X (.For tg iter body [] pos) (tFor wi g tb) := by
 intro pins s σ H D I h
 refine wpAny_For (thn (hi pins s σ H _ I h) fun v s1 h1 => thn h1 fun itv s2 h2 => ?_) hs
 obtain ⟨it, fp, tn, J, H2, e, I2, T, st2, f2, W, ⟨m0, w0⟩, turn⟩ := h2
 subst e
 -- what stays true of the iterator's objects through the loop
 have stat : ∀ {H' : Hp}, (∀ b ∈ fp, H' b = none) -> ∀ b ∈ fp, g0o X pins H' b := fun hn b hb => ⟨hn b hb, (f2 b hb).2⟩
 refine codeAny_forLoop_any (fun n s' => ∃ i σ' H', Inv X pins σ' H' s' /\ tn i s'.heap /\ (∀ b ∈ fp, H' b = none) /\ W i n σ' H') ?_ m0 ⟨0, σ, H2, I2, st2, fun b hb => (f2 b hb).1, w0⟩
 rintro n s3 ⟨i, σ3, H3, I3, st3, fr3, w3⟩
 rcases turn i n σ3 H3 w3 with ⟨stop, qn⟩ | ⟨go, N, hN, step⟩
 ·refine wpAny_passesOwn hp (thn (T.done X rfl rfl rfl hc i pins s3 σ3 H3 X.xe I3 (stat fr3) st3 stop) fun r s4 ⟨hr, I4⟩ => ?_)
  subst hr
  exact wpAny_execs_nil ⟨σ3, H3, I4, qn⟩
 ·refine wpAny_passesOwn hp (thn (T.item X rfl rfl rfl hc i pins s3 σ3 H3 X.xe I3 (stat fr3) st3 go) fun r s4 ⟨u, hr, h4⟩ => ?_)
  subst hr
  refine wpAny_passesOwn hp (thn h4 fun _ s5 ⟨x, H5, I5, r5, y5, st5, fr5⟩ => ?_)
  have I5' := I5.pinned (stat fr5) (T.obj _ _ st5)
  refine wpAny_passesOwn hp (thn (hg _ s5 σ3 H5 x u _ I5' r5 (step x H5 y5)) fun _ s6 ⟨σ6, H6, I6, q6⟩ => ?_)
  refine wpAny_passesOwn hp (thn (hb _ s6 σ6 H6 _ I6 q6) fun f s7 q7 => ?_)
  have again : ∀ {σ7 : St} {H7 : Hp}, Inv X (pins ++ f2v fp s5.heap) σ7 H7 s7 -> N σ7 H7 -> ∃ m, m < n /\ ∃ i σ' H', Inv X pins σ' H' s7 /\ tn i s7.heap /\ (∀ b ∈ fp, H' b = none) /\ W i m σ' H' := fun {σ7 H7} I7 n7 => by
   obtain ⟨m', hm, w7⟩ := hN σ7 H7 n7
   refine ⟨m', hm, i + 1, σ7, H7, I7.d2z, T.keep _ _ _ st5 fun b hb o e => (I7.pin (b, o) (List.mem_append_right _ (List.mem_append_right _ (c5y hb e)))).1, fun b hb => ?_, w7⟩
   obtain ⟨o, e, d⟩ := T.obj _ _ st5 b hb
   exact (I7.pin (b, o) (List.mem_append_right _ (List.mem_append_right _ (c5y hb e)))).2.1
  cases f with
  | next => obtain ⟨σ7, H7, I7, n7⟩ := q7; exact again I7 n7
  | cont => obtain ⟨σ7, H7, I7, n7⟩ := q7; exact again I7 n7
  | brk => obtain ⟨σ7, H7, I7, q7⟩ := q7; exact ⟨σ7, H7, I7.d2z, q7⟩
  | ret v => obtain ⟨x7, σ7, H7, I7, r7, q7⟩ := q7; exact ⟨x7, σ7, H7, I7.d2z, r7, q7⟩
end
theorem g7t {K : PySem.W.Frag} {a : Addr} {xs : List V} {g : TG} {tb : TS} {D : Ends} {σ : St} {H : Hp} (Pv : Nat -> St -> Hp -> Prop) (h0 : Pv 0 σ H) (hl : ∀ i σ H, i <= xs.length -> Pv i σ H -> SqL K H a xs)
  (hs : ∀ i x σ H, xs[i]? = some x -> Pv i σ H -> g x σ H fun σ2 H2 => tb { D with nx := Pv (i + 1), ct := Pv (i + 1), bk := D.nx } σ2 H2) (hd : ∀ σ H, Pv xs.length σ H -> D.nx σ H) :
  ∃ W : Nat -> Nat -> St -> Hp -> Prop, (∃ m, W 0 m σ H) /\ ∀ i m σ H, W i m σ H ->
   ((Itl K a).stop i H /\ D.nx σ H) \/ ((Itl K a).go i H /\ ∃ N : St -> Hp -> Prop, (∀ σ' H', N σ' H' -> ∃ m', m' < m /\ W (i + 1) m' σ' H') /\ ∀ x H', (Itl K a).yld i H x H' -> g x σ H' fun σ2 H2 => tb { D with nx := N, ct := N, bk := D.nx } σ2 H2) := by
 refine ⟨fun i m σ H => m = xs.length - i /\ i <= xs.length /\ Pv i σ H, ⟨xs.length, by simp, Nat.zero_le _, h0⟩, ?_⟩
 rintro i m σ H ⟨rfl, hi, p⟩
 have q := hl i σ H hi p
 by_cases hlt : i < xs.length
 ·refine .inr ⟨⟨xs, xs[i], q, by simp [hlt]⟩, Pv (i + 1), fun σ' H' p' => ⟨xs.length - (i + 1), by omega, rfl, hlt, p'⟩, fun x H' y => ?_⟩
  obtain ⟨e, y⟩ := y
  subst e
  exact hs i x σ _ (y xs q) p
 ·have e : i = xs.length := by omega
  subst e
  exact .inl ⟨⟨xs, q, Nat.le_refl _⟩, hd σ H p⟩
theorem g3h {lo : Int} {n : Nat} {g : TG} {tb : TS} {D : Ends} {σ : St} {H : Hp} (Pv : Nat -> St -> Hp -> Prop) (h0 : Pv 0 σ H)
  (hs : ∀ i σ H, i < n -> Pv i σ H -> g (.int (lo + i)) σ H fun σ2 H2 => tb { D with nx := Pv (i + 1), ct := Pv (i + 1), bk := D.nx } σ2 H2) (hd : ∀ σ H, Pv n σ H -> D.nx σ H) :
  ∃ W : Nat -> Nat -> St -> Hp -> Prop, (∃ m, W 0 m σ H) /\ ∀ i m σ H, W i m σ H ->
   ((Itr lo n).stop i H /\ D.nx σ H) \/ ((Itr lo n).go i H /\ ∃ N : St -> Hp -> Prop, (∀ σ' H', N σ' H' -> ∃ m', m' < m /\ W (i + 1) m' σ' H') /\ ∀ x H', (Itr lo n).yld i H x H' -> g x σ H' fun σ2 H2 => tb { D with nx := N, ct := N, bk := D.nx } σ2 H2) := by
 refine ⟨fun i m σ H => m = n - i /\ i <= n /\ Pv i σ H, ⟨n, by simp, Nat.zero_le _, h0⟩, ?_⟩
 rintro i m σ H ⟨rfl, hi, p⟩
 by_cases hlt : i < n
 ·refine .inr ⟨hlt, Pv (i + 1), fun σ' H' p' => ⟨n - (i + 1), by omega, rfl, hlt, p'⟩, fun x H' y => ?_⟩
  obtain ⟨e, y⟩ := y
  subst e y
  exact hs i σ _ hlt p
 ·have e : i = n := by omega
  subst e
  exact .inl ⟨Nat.le_refl _, hd σ H p⟩
end L2
namespace L2
open PySem PySem.Spec PyProof.Rows
noncomputable abbrev R2 := V -> V -> Hp -> VK -> Prop
noncomputable def OpR (X : Cx) (f : Value -> Value -> Sem Value) (r : R2) : Prop :=
 ∀ (pins : List (Addr × Obj)) (s : Shared) (σ : St) (H : Hp) (x y : V) (v u : Value) (Q : VK), Inv X pins σ H s -> RelV x v -> RelV y u -> r x y H Q ->
  wpAny (model X.prog X.w) X.A (f v u) (EP X pins σ Q) X.xe s
noncomputable def UnR (X : Cx) (f : Value -> Sem Value) (r : V -> Hp -> VK -> Prop) : Prop :=
 ∀ (pins : List (Addr × Obj)) (s : Shared) (σ : St) (H : Hp) (x : V) (v : Value) (Q : VK), Inv X pins σ H s -> RelV x v -> r x H Q ->
  wpAny (model X.prog X.w) X.A (f v) (EP X pins σ Q) X.xe s
noncomputable def a8i (X : Cx) (f : Value) (r : List V -> Hp -> VK -> Prop) : Prop :=
 ∀ (pins : List (Addr × Obj)) (s : Shared) (σ : St) (H : Hp) (xs : List V) (us : List Value) (Q : VK), Inv X pins σ H s -> Vals xs us -> r xs H Q ->
  wpAny (model X.prog X.w) X.A (call f us) (EP X pins σ Q) X.xe s
noncomputable def TruR (X : Cx) (r : V -> Hp -> (Bool -> Hp -> Prop) -> Prop) : Prop :=
 ∀ (pins : List (Addr × Obj)) (s : Shared) (σ : St) (H : Hp) (x : V) (v : Value) (Q : Bool -> Hp -> Prop), Inv X pins σ H s -> RelV x v -> r x H Q ->
  wpAny (model X.prog X.w) X.A (truthy v) (TP X pins σ Q) X.xe s
noncomputable def tOp (r : R2) (ta tb : TE) : TE := fun σ H Q => ta σ H fun x H1 => tb σ H1 fun y H2 => r x y H2 Q
noncomputable def tUn (r : V -> Hp -> VK -> Prop) (ta : TE) : TE := fun σ H Q => ta σ H fun x H1 => r x H1 Q
noncomputable def rI (C : Int -> Int -> Prop) (g : Int -> Int -> V) : R2 := fun x y H Q => ∃ i j, x = .int i /\ y = .int j /\ C i j /\ Q (g i j) H
noncomputable def rI0 (g : Int -> Int -> V) : R2 := fun x y H Q => ∃ i j, x = .int i /\ y = .int j /\ Q (g i j) H
noncomputable def rU (g : Int -> V) : V -> Hp -> VK -> Prop := fun x H Q => ∃ i, x = .int i /\ Q (g i) H
section
variable {X : Cx} {a b c : Expr} {ta tb tc : TE} {pos : Pos}
theorem i1l (ha : PE X a ta) (hb : PE X b tb) {pins : List (Addr × Obj)} {s : Shared} {σ : St} {H : Hp} {R : V -> V -> Hp -> Prop} (I : Inv X pins σ H s)
  (h : ta σ H fun x H1 => tb σ H1 fun y H2 => R x y H2) {Q : Value -> Shared -> Prop} {f : Value -> Value -> Sem Value}
  (hf : ∀ v u s2 x y H2, Inv X pins σ H2 s2 -> RelV x v -> RelV y u -> R x y H2 -> wpAny (model X.prog X.w) X.A (f v u) Q X.xe s2) :
  wpAny (model X.prog X.w) X.A (eval a X.env) (fun v s₁ => wpAny (model X.prog X.w) X.A (eval b X.env) (fun u s₂ => wpAny (model X.prog X.w) X.A (f v u) Q X.xe s₂) X.xe s₁) X.xe s := by
 refine thn (ha pins s σ H _ I h) fun v s1 ⟨x, H1, I1, r1, q1⟩ => ?_
 refine thn (hb pins s1 σ H1 _ I1 q1) fun u s2 ⟨y, H2, I2, r2, q2⟩ => ?_
 exact hf v u s2 x y H2 I2 r1 r2 q2
theorem a1j {op : Operator} {r : R2} (ho : OpR X (binaryOp op) r) (ha : PE X a ta) (hb : PE X b tb) : PE X (.BinOp a op b pos) (tOp r ta tb) := by
 intro pins s σ H Q I h
 exact wpAny_BinOp (i1l ha hb I h fun v u s2 x y H2 I2 rx ry q => ho pins s2 σ H2 x y v u Q I2 rx ry q)
theorem h6g {op : UnaryOp} {r : V -> Hp -> VK -> Prop} (ho : UnR X (unaryOp op) r) (ha : PE X a ta) : PE X (.UnaryOp op a pos) (tUn r ta) := by
 intro pins s σ H Q I h
 exact UnaryOp_ (thn (ha pins s σ H _ I h) fun v s1 ⟨x, H1, I1, r1, q1⟩ => ho pins s1 σ H1 x v Q I1 r1 q1)
theorem opI {f : Value -> Value -> Sem Value} {C : Int -> Int -> Prop} {g : Int -> Int -> Int}
  (rule : ∀ (i j : Int) (t u : Tok) (s : Shared) (Q : Value -> Shared -> Prop) (E : Value -> Shared -> Prop), C i j -> Q (.int (g i j) s.toks) { s with toks := s.toks + 1 } -> wpAny (model X.prog X.w) X.A (f (.int i t) (.int j u)) Q E s) :
  OpR X f (rI C fun i j => .int (g i j)) := by
 intro pins s σ H x y v u Q I rx ry h
 obtain ⟨i, j, rfl, rfl, hc, q⟩ := h
 obtain ⟨t, rfl⟩ := rx
 obtain ⟨t', rfl⟩ := ry
 exact rule i j t t' s _ _ hc ⟨.int (g i j), H, I.tok _, ⟨_, rfl⟩, q⟩
theorem i3m {f : Value -> Value -> Sem Value} {g : Int -> Int -> Int}
  (rule : ∀ (i j : Int) (t u : Tok) (s : Shared) (Q : Value -> Shared -> Prop) (E : Value -> Shared -> Prop), Q (.int (g i j) s.toks) { s with toks := s.toks + 1 } -> wpAny (model X.prog X.w) X.A (f (.int i t) (.int j u)) Q E s) :
  OpR X f (rI0 fun i j => .int (g i j)) := by
 intro pins s σ H x y v u Q I rx ry h
 obtain ⟨i, j, rfl, rfl, q⟩ := h
 obtain ⟨t, rfl⟩ := rx
 obtain ⟨t', rfl⟩ := ry
 exact rule i j t t' s _ _ ⟨.int (g i j), H, I.tok _, ⟨_, rfl⟩, q⟩
theorem i0w {f : Value -> Value -> Sem Value} {g : Int -> Int -> Bool}
  (rule : ∀ (i j : Int) (t u : Tok) (s : Shared) (Q : Value -> Shared -> Prop) (E : Value -> Shared -> Prop), Q (.bool (g i j)) s -> wpAny (model X.prog X.w) X.A (f (.int i t) (.int j u)) Q E s) :
  OpR X f (rI0 fun i j => .bl (g i j)) := by
 intro pins s σ H x y v u Q I rx ry h
 obtain ⟨i, j, rfl, rfl, q⟩ := h
 obtain ⟨t, rfl⟩ := rx
 obtain ⟨t', rfl⟩ := ry
 exact rule i j t t' s _ _ ⟨.bl (g i j), H, I, rfl, q⟩
noncomputable def CDiv (i j : Int) : Prop := 0 < j /\ j < 1073741824
noncomputable def CDivN (i j : Int) : Prop := j ≠ 0 /\ j.natAbs < 1073741824
noncomputable def i1m (i j : Int) : Prop := 0 <= j /\ j <= 1000000 /\ i.natAbs < 2 ^ 64
noncomputable def i3n (i j : Int) : Prop := (-(2 ^ 64) < i /\ i < 2 ^ 64) \/ (-(2 ^ 64) < j /\ j < 2 ^ 64)
theorem i3n.ok {i j : Int} (h : i3n i j) : IntMulOk i j := by
 rcases h with ⟨h1, h2⟩ | ⟨h1, h2⟩
 ·exact .of_left (intBits_le_64 h1 h2)
 ·exact .of_right (intBits_le_64 h1 h2)
theorem h6h : OpR X (binaryOp .Add) (rI0 fun i j => .int (i + j)) := i3m fun _ _ _ _ _ _ _ q => add_int q
theorem h6i : OpR X (binaryOp .Sub) (rI0 fun i j => .int (i - j)) := i3m fun _ _ _ _ _ _ _ q => sub_int q
theorem h2p : OpR X (binaryOp .Mod) (rI (fun _ j => j ≠ 0) fun i j => .int (i.fmod j)) := opI fun _ _ _ _ _ _ _ hc q => mod_int' hc q
theorem h6j : OpR X (binaryOp .Pow) (rI i1m fun i j => .int (i ^ j.toNat)) := opI fun _ _ _ _ _ _ _ hc q => pow_int_small hc.1 hc.2.1 hc.2.2 q
theorem unI {f : Value -> Sem Value} {g : Int -> Int}
  (rule : ∀ (i : Int) (t : Tok) (s : Shared) (Q : Value -> Shared -> Prop) (E : Value -> Shared -> Prop), Q (.int (g i) s.toks) { s with toks := s.toks + 1 } -> wpAny (model X.prog X.w) X.A (f (.int i t)) Q E s) :
  UnR X f (rU fun i => .int (g i)) := by
 intro pins s σ H x v Q I rx h
 obtain ⟨i, rfl, q⟩ := h
 obtain ⟨t, rfl⟩ := rx
 exact rule i t s _ _ ⟨.int (g i), H, I.tok _, ⟨_, rfl⟩, q⟩
theorem h6k : UnR X (unaryOp .USub) (rU fun i => .int (-i)) := unI fun _ _ _ _ _ q => neg_int q
end
noncomputable def g3i : V -> V -> Bool
 | .non, .non => true | .non, .int _ => true | .int _, .non => true | .non, .bl _ => true | .bl _, .non => true | .non, .str _ => true | .str _, .non => true
 | .int _, .int _ => true | .bl _, .bl _ => true | .str _, .str _ => true | .byt _, .byt _ => true
 | .int _, .str _ => true | .str _, .int _ => true | .bl _, .str _ => true | .str _, .bl _ => true
 | _, _ => false
noncomputable def rEq : R2 := fun x y H Q => g3i x y = true /\ Q (.bl (decide (x = y))) H
noncomputable def rNe : R2 := fun x y H Q => g3i x y = true /\ Q (.bl (!decide (x = y))) H
theorem g3j {i j : Int} : decide (V.int i = V.int j) = (i == j) := by
 rw [Bool.eq_iff_iff]
 simp
theorem h0g {i j : Bool} : decide (V.bl i = V.bl j) = (i == j) := by
 rw [Bool.eq_iff_iff]
 simp
theorem g3k {i j : Str} : decide (V.str i = V.str j) = (i == j) := by
 rw [Bool.eq_iff_iff]
 simp
theorem g3l {i j : Array UInt8} : decide (V.byt i = V.byt j) = (i.toList == j.toList) := by
 rw [Bool.eq_iff_iff]
 cases i
 cases j
 simp
section
variable {X : Cx} {a b c : Expr} {ta tb tc : TE} {pos : Pos}
theorem a3n {pins : List (Addr × Obj)} {σ : St} {H : Hp} {s : Shared} {Q : VK} {k k' : Bool} (I : Inv X pins σ H s) (q : Q (.bl k) H) (e : k = k') : EP X pins σ Q (.bool k') s := by
 subst e
 exact ⟨.bl k, H, I, rfl, q⟩
theorem i1n : OpR X (compareOp .Eq) rEq := by
 intro pins s σ H x y v u Q I rx ry h
 obtain ⟨hs, q⟩ := h
 cases x with
 | non =>
  cases rx
  cases y with
  | non => cases ry; exact PySem.EqNone.eq_none_none (a3n I q (by simp))
  | bl j => cases ry; exact PySem.EqNone.eq_none_bool (a3n I q (by simp))
  | int j => obtain ⟨t', rfl⟩ := ry; exact PySem.EqNone.eq_none_int (a3n I q (by simp))
  | str j => obtain ⟨t', rfl⟩ := ry; exact PySem.EqNone.eq_none_str (a3n I q (by simp))
  | _ => exact absurd (show false = true from hs) Bool.false_ne_true
 | bl i =>
  cases rx
  cases y with
  | non => cases ry; exact PySem.EqNone.eq_bool_none (a3n I q (by simp))
  | bl j => cases ry; exact eq_bool (a3n I q h0g)
  | str j => obtain ⟨t', rfl⟩ := ry; exact PySem.EqMixed.eq_bool_str (a3n I q (by simp))
  | _ => exact absurd (show false = true from hs) Bool.false_ne_true
 | int i =>
  obtain ⟨t, rfl⟩ := rx
  cases y with
  | non => cases ry; exact PySem.EqNone.eq_int_none (a3n I q (by simp))
  | int j => obtain ⟨t', rfl⟩ := ry; exact eq_int (a3n I q g3j)
  | str j => obtain ⟨t', rfl⟩ := ry; exact PySem.EqMixed.eq_int_str (a3n I q (by simp))
  | _ => exact absurd (show false = true from hs) Bool.false_ne_true
 | str i =>
  obtain ⟨t, rfl⟩ := rx
  cases y with
  | non => cases ry; exact PySem.EqNone.eq_str_none (a3n I q (by simp))
  | bl j => cases ry; exact PySem.EqMixed.eq_str_bool (a3n I q (by simp))
  | int j => obtain ⟨t', rfl⟩ := ry; exact PySem.EqMixed.eq_str_int (a3n I q (by simp))
  | str j => obtain ⟨t', rfl⟩ := ry; exact eq_str (a3n I q g3k)
  | _ => exact absurd (show false = true from hs) Bool.false_ne_true
 | byt i =>
  obtain ⟨t, rfl⟩ := rx
  cases y with
  | byt j => obtain ⟨t', rfl⟩ := ry; exact PySem.W.eq_bytes (a3n I q g3l)
  | _ => exact absurd (show false = true from hs) Bool.false_ne_true
 | _ => cases y <;> exact absurd (show false = true from hs) Bool.false_ne_true
theorem i1o : OpR X (compareOp .NotEq) rNe := by
 intro pins s σ H x y v u Q I rx ry h
 obtain ⟨hs, q⟩ := h
 cases x with
 | non =>
  cases rx
  cases y with
  | non => cases ry; exact PySem.EqNone.ne_none_none (a3n I q (by simp))
  | bl j => cases ry; exact PySem.EqNone.ne_none_bool (a3n I q (by simp))
  | int j => obtain ⟨t', rfl⟩ := ry; exact PySem.EqNone.ne_none_int (a3n I q (by simp))
  | str j => obtain ⟨t', rfl⟩ := ry; exact PySem.EqNone.ne_none_str (a3n I q (by simp))
  | _ => exact absurd (show false = true from hs) Bool.false_ne_true
 | bl i =>
  cases rx
  cases y with
  | non => cases ry; exact PySem.EqNone.ne_bool_none (a3n I q (by simp))
  | bl j => cases ry; exact ne_bool (a3n I q (congrArg not h0g))
  | str j => obtain ⟨t', rfl⟩ := ry; exact PySem.EqMixed.ne_bool_str (a3n I q (by simp))
  | _ => exact absurd (show false = true from hs) Bool.false_ne_true
 | int i =>
  obtain ⟨t, rfl⟩ := rx
  cases y with
  | non => cases ry; exact PySem.EqNone.ne_int_none (a3n I q (by simp))
  | int j => obtain ⟨t', rfl⟩ := ry; exact ne_int (a3n I q (congrArg not g3j))
  | str j => obtain ⟨t', rfl⟩ := ry; exact PySem.EqMixed.ne_int_str (a3n I q (by simp))
  | _ => exact absurd (show false = true from hs) Bool.false_ne_true
 | str i =>
  obtain ⟨t, rfl⟩ := rx
  cases y with
  | non => cases ry; exact PySem.EqNone.ne_str_none (a3n I q (by simp))
  | bl j => cases ry; exact PySem.EqMixed.ne_str_bool (a3n I q (by simp))
  | int j => obtain ⟨t', rfl⟩ := ry; exact PySem.EqMixed.ne_str_int (a3n I q (by simp))
  | str j => obtain ⟨t', rfl⟩ := ry; exact ne_str (a3n I q (congrArg not g3k))
  | _ => exact absurd (show false = true from hs) Bool.false_ne_true
 | byt i =>
  obtain ⟨t, rfl⟩ := rx
  cases y with
  | byt j => obtain ⟨t', rfl⟩ := ry; exact PySem.W.ne_bytes (a3n I q (congrArg not g3l))
  | _ => exact absurd (show false = true from hs) Bool.false_ne_true
 | _ => cases y <;> exact absurd (show false = true from hs) Bool.false_ne_true
theorem i1p : OpR X (compareOp .Lt) (rI0 fun i j => .bl (decide (i < j))) := i0w fun _ _ _ _ _ _ _ q => lt_int q
theorem i1q : OpR X (compareOp .LtE) (rI0 fun i j => .bl (decide (i <= j))) := i0w fun _ _ _ _ _ _ _ q => le_int q
theorem i1r : OpR X (compareOp .Gt) (rI0 fun i j => .bl (decide (j < i))) := i0w fun _ _ _ _ _ _ _ q => gt_int q
theorem i1s : OpR X (compareOp .GtE) (rI0 fun i j => .bl (decide (j <= i))) := i0w fun _ _ _ _ _ _ _ q => ge_int q
theorem g3m : OpR X (compareOp .In) (fun x y H Q => ∃ i j, x = .str i /\ y = .str j /\ Q (.bl (!(Builtin.Str.occurrences j i 0 j.length 1).isEmpty)) H) := by
 intro pins s σ H x y v u Q I rx ry h
 obtain ⟨i, j, rfl, rfl, q⟩ := h
 obtain ⟨t, rfl⟩ := rx
 obtain ⟨t', rfl⟩ := ry
 exact in_str (a3n I q rfl)
theorem g3n : OpR X (compareOp .Is) (fun x y H Q => y = .non /\ Q (.bl (decide (x = .non))) H) := by
 intro pins s σ H x y v u Q I rx ry h
 obtain ⟨rfl, q⟩ := h
 cases ry
 refine is_none_gen (a3n I q ?_)
 cases x <;> first
  | (cases rx; rfl)
  | (obtain ⟨t, rfl⟩ := rx; rfl)
noncomputable def isObj : HO -> Bool
 | .lst _ => true
 | .ins _ _ _ => true
 | _ => false
theorem OpR.or {f : Value -> Value -> Sem Value} {r r' : R2} (h : OpR X f r) (h' : OpR X f r') : OpR X f (fun x y H Q => r x y H Q \/ r' x y H Q) := by
 intro pins s σ H x y v u Q I rx ry q
 rcases q with q | q
 ·exact h pins s σ H x y v u Q I rx ry q
 ·exact h' pins s σ H x y v u Q I rx ry q
theorem a3k (b : Expr) {op : CmpOp} (h : op ≠ .In := by decide) (h2 : op ≠ .NotIn := by decide) : behindInMarks op b = false := by
 have e1 : (op == CmpOp.In) = false := by cases op <;> first | rfl | exact absurd rfl h
 have e2 : (op == CmpOp.NotIn) = false := by cases op <;> first | rfl | exact absurd rfl h2
 cases b <;> simp [behindInMarks, e1, e2]
theorem f6j {op : CmpOp} {r : R2} (ho : OpR X (compareOp op) r) (ha : PE X a ta) (hb : PE X b tb) (hm : behindInMarks op b = false) : PE X (.Compare a [op] [b] pos) (tOp r ta tb) := by
 intro pins s σ H Q I h
 exact wpAny_Compare1 (i1l ha hb I h fun v u s2 x y H2 I2 rx ry q => ho pins s2 σ H2 x y v u Q I2 rx ry q) hm
noncomputable def h6l (t : TE) : TT := fun σ H Q => t σ H fun x H' => ∃ k, x = .bl k /\ Q k H'
theorem h2q {op : CmpOp} {r : R2} (ho : OpR X (compareOp op) r) (ha : PE X a ta) (hb : PE X b tb) (hm : behindInMarks op b = false) : PT X (.Compare a [op] [b] pos) (h6l (tOp r ta tb)) := by
 intro pins s σ H Q I h
 refine wpAny_isTrue_Compare1 (thn (ha pins s σ H _ I h) fun v s1 ⟨x, H1, I1, r1, q1⟩ => thn (hb pins s1 σ H1 _ I1 q1) fun u s2 ⟨y, H2, I2, r2, q2⟩ =>
  thn (ho pins s2 σ H2 x y v u _ I2 r1 r2 q2) fun c s3 ⟨z, H3, I3, r3, k, e, q3⟩ => ?_) hm
 subst e
 cases r3
 exact wpAny_truthy_bool ⟨H3, I3, q3⟩
noncomputable def i3o (r r' : R2) (ta tb tc : TE) : TE := fun σ H Q => ta σ H fun x H1 => tb σ H1 fun y H2 => r x y H2 fun z H3 => ∃ k, z = .bl k /\
 (if k = true then tc σ H3 fun w' H4 => r' y w' H4 Q else Q (.bl false) H3)
noncomputable def TruV (K : PySem.W.Frag) (x : V) (H : Hp) (k : Bool) : Prop :=
 match x with
 | .non => k = false
 | .bl b => k = b
 | .int i => k = (i != 0)
 | .str y => y.length <= sizeLine /\ k = ((y.length : Int) != 0)
 | .byt y => y.size <= sizeLine /\ k = ((y.size : Int) != 0)
 | .ref p => (∃ xs, SqL K H p xs /\ k = !xs.isEmpty) \/ (∃ xs, SqT K H p xs /\ k = !xs.isEmpty) \/ ∃ kvs, H p = some (.dK kvs) /\ k = !kvs.isEmpty
 | _ => False
theorem f2w : (sizeLine : Nat) < 2 ^ 63 := by rw [sizeLine_eq]; decide
theorem g0r : OpR X (binaryOp .Add) (fun x y H Q => ∃ i j, x = .str i /\ y = .str j /\ i.length + j.length <= sizeLine /\ Q (.str (i ++ j)) H) := by
 intro pins s σ H x y v u Q I rx ry h
 obtain ⟨i, j, rfl, rfl, hz, q⟩ := h
 obtain ⟨t, rfl⟩ := rx
 obtain ⟨t', rfl⟩ := ry
 exact add_str (fun t' tk => ⟨.str (i ++ j), H, I.tok _, ⟨_, rfl⟩, q⟩) hz
noncomputable def i0x (b : Expr) : Prop := ∀ o i, subscripted b false o i = operate [o, i] (getItem o i)
theorem vals1 {x : V} {us : List Value} (r : Vals [x] us) : ∃ u, us = [u] /\ RelV x u := by
 cases r with
 | cons r1 r2 => cases r2; exact ⟨_, rfl, r1⟩
theorem vals2 {x y : V} {us : List Value} (r : Vals [x, y] us) : ∃ u w', us = [u, w'] /\ RelV x u /\ RelV y w' := by
 cases r with
 | cons r1 r2 =>
  cases r2 with
  | cons r3 r4 => cases r4; exact ⟨_, _, rfl, r1, r3⟩
theorem g7u : a8i X (.builtin "abs") (fun xs H Q => ∃ i, xs = [.int i] ∧ Q (.int (if i < 0 then -i else i)) H) := by
 intro pins s σ H xs us Q I r h
 obtain ⟨i, rfl, q⟩ := h
 obtain ⟨u, rfl, t, rfl⟩ := vals1 r
 exact call_abs_int fun u tk => ⟨.int (if i < 0 then -i else i), H, I.tok _, ⟨_, rfl⟩, q⟩
theorem g3o (hc : X.calm = true) : a8i X (.builtin "max") (fun xs H Q => ∃ i j, xs = [.int i, .int j] ∧ Q (.int (if j > i then j else i)) H) := by
 intro pins s σ H xs us Q I r h
 obtain ⟨i, j, rfl, q⟩ := h
 obtain ⟨u, w', rfl, ⟨t, rfl⟩, ⟨t', rfl⟩⟩ := vals2 r
 refine max_two_ints (I.ok.hd hc) fun h' tk k => ⟨_, H, I.kept k, ?_, q⟩
 by_cases hj : j > i
 ·rw [if_pos hj, if_pos hj]; exact ⟨_, rfl⟩
 ·rw [if_neg hj, if_neg hj]; exact ⟨_, rfl⟩
theorem g3p (hc : X.calm = true) : a8i X (.builtin "min") (fun xs H Q => ∃ i j, xs = [.int i, .int j] ∧ Q (.int (if j < i then j else i)) H) := by
 intro pins s σ H xs us Q I r h
 obtain ⟨i, j, rfl, q⟩ := h
 obtain ⟨u, w', rfl, ⟨t, rfl⟩, ⟨t', rfl⟩⟩ := vals2 r
 refine min_two_ints (I.ok.hd hc) fun h' tk k => ⟨_, H, I.kept k, ?_, q⟩
 by_cases hj : j < i
 ·rw [if_pos hj, if_pos hj]; exact ⟨_, rfl⟩
 ·rw [if_neg hj, if_neg hj]; exact ⟨_, rfl⟩
theorem f2y : a8i X (.type "int") (fun xs H Q => (∃ i, xs = [.int i] ∧ Q (.int i) H) ∨ ∃ k, xs = [.bl k] ∧ Q (.int (if k then 1 else 0)) H) := by
 intro pins s σ H xs us Q I r h
 rcases h with ⟨i, rfl, q⟩ | ⟨k, rfl, q⟩
 ·obtain ⟨u, rfl, t, rfl⟩ := vals1 r
  exact call_int_int ⟨.int i, H, I, ⟨_, rfl⟩, q⟩
 ·obtain ⟨u, rfl, r1⟩ := vals1 r
  cases r1
  exact call_int_bool ⟨.int (if k then 1 else 0), H, I.tok _, ⟨_, rfl⟩, q⟩
theorem f2z : a8i X (.type "str") (fun xs H Q => ∃ i, xs = [.int i] ∧ i.natAbs.log2 < 1920 ∧ Q (.str (toString i)) H) := by
 intro pins s σ H xs us Q I r h
 obtain ⟨i, rfl, hz, q⟩ := h
 obtain ⟨u, rfl, t, rfl⟩ := vals1 r
 exact PySem.P.str_of_int hz ⟨.str _, H, I.tok _, ⟨_, rfl⟩, q⟩
noncomputable def LenV (K : PySem.W.Frag) (x : V) (H : Hp) (n : Nat) : Prop :=
 match x with
 | .str y => y.length <= sizeLine /\ n = y.length
 | .byt y => y.size <= sizeLine /\ n = y.size
 | .ref p => (∃ xs, SqL K H p xs /\ n = xs.length) \/ ∃ xs, SqT K H p xs /\ n = xs.length
 | _ => False
end
end L2
namespace L2
open PySem PySem.Spec PyProof.Rows
structure h2r (h : Heap) (x dx C : Addr) (mA : Str -> Option Value) : Prop where
 obj : h.get? x = some (PySem.W.instObj C dx)
 ns : h.Ns1 dx mA
 ne : dx ≠ x
theorem g3q {h : Heap} {dx : Addr} {mA : Str -> Option Value} (n : h.Ns1 dx mA) : ∃ od, h.get? dx = some od /\ ∀ name, PySem.W.lookIn name od = some (mA name) := by
 obtain ⟨o, es, ep, ho, hd, hk, _, hm⟩ := n
 refine ⟨o, ho, fun name => ?_⟩
 have e := hm name
 unfold nsFind findBy at e
 rw [<- Array.find?_toList] at e
 unfold PySem.W.lookIn
 rw [hd]
 dsimp only
 split
 ·rename_i y q
  rw [q] at e
  exact congrArg some e
 ·rename_i q
  rw [q] at e
  have a : es.toList.any (·.refKey) = false := by
   rw [List.any_eq_false]
   intro y hy
   obtain ⟨z, t, hkey⟩ := hk y (Array.mem_toList_iff.mp hy)
   simp [DictEntry.refKey, hkey]
  have a' : ¬ es.toList.any (·.refKey) = true := by rw [a]; exact Bool.false_ne_true
  rw [if_neg a']
  exact congrArg some e
theorem h2r.look {h : Heap} {x dx C : Addr} {mA : Str -> Option Value} (I : h2r h x dx C mA) : ∃ od, PySem.W.InstAt h x (PySem.W.instObj C dx) C (some od) /\ ∀ name, PySem.W.lookIn name od = some (mA name) :=
 let ⟨od, ho, hl⟩ := g3q I.ns
 ⟨od, ⟨I.obj, rfl, rfl, ho⟩, hl⟩
section
variable {prog : Program} {w : World} {A : Around} {E : Value -> Shared -> Prop} {s : Shared} {K : PySem.W.Frag} {x dx C f : Addr} {mA : Str -> Option Value} {name : Str} {v : Value}
theorem get_map {expr : Bool} {Q : Value -> Shared -> Prop} (X : K.In s.heap) (I : h2r s.heap x dx C mA) (hg : PySem.W.plainGet K C name = true) (hh : PySem.W.hasDictIn K C = true)
  (ha : PySem.W.findIn K (.ref C) name = some none) (hv : mA name = some v) (hv' : PySem.W.handedIn v = true) (h : Q v { s with toks := s.toks + 1 }) :
  wpAny (model prog w) A (getAttr (.ref x) name expr) Q E s := by
 obtain ⟨od, J, hl⟩ := I.look
 exact PySem.W.get_value X J (PySem.W.plainGet_of hg).1 (PySem.W.findObj_own hh ha rfl (by rw [hl, hv])) hv' h
theorem g7v {pl : Sem Bool} {Q : Value × List Value -> Shared -> Prop} (X : K.In s.heap) (I : h2r s.heap x dx C mA) (hg : PySem.W.plainGet K C name = true)
  (hf : PySem.W.findIn K (.ref C) name = some (some (.ref f))) (ht : PySem.W.isFn K (.ref f) = true) (hv : mA name = none) (h : Q (.ref f, [.ref x]) s) :
  wpAny (model prog w) A (getMethod (.ref x) name pl) Q E s := by
 obtain ⟨od, J, hl⟩ := I.look
 exact PySem.W.method_fn X J (PySem.W.plainGet_of hg).1 (PySem.W.plainGet_of hg).2 hf (beq_iff_eq.mp ht) (by show (PySem.W.lookIn name od).map (·.isSome) = some false; rw [hl, hv]; rfl) h
theorem h2t {ns : List Str} {Q : Unit -> Shared -> Prop} (X : K.In s.heap) (I : h2r s.heap x dx C mA)
  (hs : PySem.W.findIn K (.ref C) "__setattr__" = some (some (.builtin "object.__setattr__"))) (hp : PySem.W.plainOver K C = true) (ht : PySem.W.takerIn K C name = some none) (hh : PySem.W.hasDictIn K C = true)
  (hw : PySem.Within mA ns) (hsz : ns.length <= sizeLine)
  (h : ∀ h', h2r h' x dx C (fun y => if y = name then some v else mA y) -> Heap.SameBut dx s.heap h' -> Q () { s with heap := h', toks := s.toks + 2 }) :
  wpAny (model prog w) A (setAttr (.ref x) name v) Q E s := by
 obtain ⟨od, J, hl⟩ := I.look
 refine PySem.W.set_plain X J hs (PySem.W.osa_open (s := { s with toks := s.toks + 1 }) (r := none) X J hp ht fun b => ?_)
 obtain ⟨cd, hc, hd'⟩ := PySem.W.any_some hh
 have hx : s.heap.get? x = some ⟨.ref C, some dx, .plain, #[]⟩ := I.obj
 refine wpAny_bind (wpAny_pure (wpAny_bind (wpAny_bind (wpAny_loadPart hx (wpAny_bind (PySem.W.Looks.here (s := { s with toks := s.toks + 1 }) (PySem.W.looks_clsIn X hc) ?_))))))
 rw [hd']
 refine wpAny_pure (a := some dx) (wpAny_bind (wpAny_pure (wpAny_bind ?_)))
 refine wpAny_nsSet1 (s := { s with toks := s.toks + 1 }) I.ns fun h' hn2 hs2 => ?_
 obtain ⟨oD, esD, epD, hoD, hdD, hcD⟩ := hn2.count (PySem.Within.cons name v hw)
 refine wpAny_bind (wpAny_lookBehind hoD (by rw [hdD]; exact pastItsLine_dict (Nat.le_trans hcD (by rw [List.length_cons]; omega))) ?_)
 exact wpAny_pure (h _ ⟨(hs2.2 _ (Ne.symm I.ne)).trans I.obj, hn2, I.ne⟩ hs2)
theorem g7w {R : Result -> Shared -> Prop} {vs : List Value} {kw : List (Str × Value)} (X : K.In s.heap) (hm : PySem.W.makesIn K C = true)
  (hi : PySem.W.findIn K (.ref C) "__init__" = some (some (.ref f))) (hf : PySem.W.typeIn K (.ref f) = some (.type "function"))
  (h : codeAny (model prog w) (A.under (.builtin "type.__call__" ⟨.ref C :: vs, kw⟩)) (.call (.ref f) ⟨.ref (s.heap.objs.size + 1) :: vs, kw⟩) (PySem.W.InitBack (s.heap.objs.size + 1) R)
   { s with heap := (s.heap.push PySem.W.emptyDict).push (PySem.W.instObj C s.heap.objs.size) }) :
  codeAny (model prog w) A (.call (.ref C) ⟨vs, kw⟩) R s := by
 obtain ⟨hh, g, d, t, os⟩ := s
 exact PySem.W.make_core (PySem.W.makes_of X hm) (PySem.W.looks_findIn X hi) (fun self => PySem.W.bind_fn X self hf) (.inl rfl) h
end
noncomputable def d2q (f : Str) (v : V) : List (Str × V) -> List (Str × V)
 | [] => [(f, v)]
 | (g, x) :: r => if g = f then (g, v) :: r else (g, x) :: d2q f v r
theorem d3j (f g : Str) (v : V) : ∀ fs : List (Str × V), (d2q f v fs).lookup g = if g = f then some v else fs.lookup g
 | [] => by
  show List.lookup g [(f, v)] = _
  by_cases h : g = f
  ·have hb : (g == f) = true := beq_iff_eq.mpr h
   simp only [List.lookup, hb, if_pos h]
  ·have hb : (g == f) = false := beq_eq_false_iff_ne.mpr h
   simp only [List.lookup, hb, if_neg h]
 | (k, x) :: r => by
  have ih := d3j f g v r
  rw [show d2q f v ((k, x) :: r) = (if k = f then (k, v) :: r else (k, x) :: d2q f v r) from rfl]
  by_cases hk : k = f
  ·rw [if_pos hk]
   by_cases h : g = k
   ·have hb : (g == k) = true := beq_iff_eq.mpr h
    simp only [List.lookup, hb, if_pos (h.trans hk)]
   ·have hb : (g == k) = false := beq_eq_false_iff_ne.mpr h
    simp only [List.lookup, hb, if_neg (fun e : g = f => h (e.trans hk.symm))]
  ·rw [if_neg hk]
   by_cases h : g = k
   ·have hb : (g == k) = true := beq_iff_eq.mpr h
    simp only [List.lookup, hb, if_neg (fun e : g = f => hk (h.symm.trans e))]
   ·have hb : (g == k) = false := beq_eq_false_iff_ne.mpr h
    simp only [List.lookup, hb]
    exact ih
theorem d3k (f : Str) (v : V) : ∀ fs : List (Str × V), f ∈ (d2q f v fs).map (·.1) /\ ∀ g, g ∈ fs.map (·.1) -> g ∈ (d2q f v fs).map (·.1)
 | [] => ⟨by simp [d2q], fun g h => by simp at h⟩
 | (k, x) :: r => by
  obtain ⟨i1, i2⟩ := d3k f v r
  rw [show d2q f v ((k, x) :: r) = (if k = f then (k, v) :: r else (k, x) :: d2q f v r) from rfl]
  by_cases hk : k = f
  ·rw [if_pos hk]
   subst hk
   exact ⟨by simp, fun g h => by simpa using h⟩
  ·rw [if_neg hk]
   refine ⟨?_, fun g h => ?_⟩
   ·rw [List.map_cons]
    exact List.mem_cons_of_mem _ i1
   ·rw [List.map_cons] at h ⊢
    rcases List.mem_cons.mp h with e | e
    ·exact List.mem_cons.mpr (.inl e)
    ·exact List.mem_cons_of_mem _ (i2 g e)
theorem d3l (f : Str) (v : V) : ∀ fs : List (Str × V), (d2q f v fs).length <= fs.length + 1
 | [] => by simp [d2q]
 | (k, x) :: r => by
  have ih := d3l f v r
  rw [show d2q f v ((k, x) :: r) = (if k = f then (k, v) :: r else (k, x) :: d2q f v r) from rfl]
  by_cases hk : k = f
  ·rw [if_pos hk, List.length_cons, List.length_cons]; omega
  ·rw [if_neg hk, List.length_cons, List.length_cons]; omega
theorem f8q.some_of {v : V} {o : Option Value} (r : f8q (some v) o) : ∃ u, o = some u /\ RelV v u := by
 cases o with
 | none => exact (show False from r).elim
 | some u => exact ⟨u, rfl, r⟩
theorem f8q.none_of {o : Option Value} (r : f8q none o) : o = none := by
 cases o with
 | none => rfl
 | some u => exact (show False from r).elim
theorem g3r {v : V} {u : Value} (r : RelV v u) : PySem.W.handedIn u = true := by
 cases v with
 | non => cases (show u = Value.none from r); rfl
 | bl b => cases (show u = Value.bool b from r); rfl
 | int i => obtain ⟨t, e⟩ := (show ∃ t, u = Value.int i t from r); cases e; rfl
 | str x => obtain ⟨t, e⟩ := (show ∃ t, u = Value.str x t from r); cases e; rfl
 | byt b => obtain ⟨t, e⟩ := (show ∃ t, u = Value.bytes b t from r); cases e; rfl
 | flt b => obtain ⟨t, e⟩ := (show ∃ t, u = Value.float b t from r); cases e; rfl
 | ref a => cases (show u = Value.ref a from r); rfl
 | ty n => cases (show u = Value.type n from r); rfl
section
variable {P : Program} {w : World} {H H' : Hp} {h h' : Heap} {a C dx : Addr} {fs fs' : List (Str × V)}
theorem d9z (hok : HOk P w H h) (e : H a = some (.ins C dx fs)) : ∃ mA, h2r h a dx C mA /\ (∀ f, f8q (fs.lookup f) (mA f)) /\ PySem.Within mA (fs.map (·.1)) /\ fs.length <= 1000 /\ H dx = some (.own a) := by
 obtain ⟨d, z, ne, ob, mA, n, r, q⟩ := (show b4y P w H h a (.ins C dx fs) from hok a _ e)
 exact ⟨mA, ⟨ob, n, ne⟩, r, q, z, d⟩
end
structure Cls (K : PySem.W.Frag) (C : Addr) : Prop where
 pg : PySem.W.plainGet K C Str.empty = true
 hd : PySem.W.hasDictIn K C = true
 po : PySem.W.plainOver K C = true
 sa : PySem.W.findIn K (.ref C) "__setattr__" = some (some (.builtin "object.__setattr__"))
theorem Cls.get {K : PySem.W.Frag} {C : Addr} (c : Cls K C) (f : Str) : PySem.W.plainGet K C f = true := c.pg
noncomputable def a6m (K : PySem.W.Frag) (C : Addr) (f : Str) : Prop := PySem.W.findIn K (.ref C) f = some none
theorem a6m.taker {K : PySem.W.Frag} {C : Addr} {f : Str} (n : a6m K C f) : PySem.W.takerIn K C f = some none := by
 unfold PySem.W.takerIn
 rw [show PySem.W.findIn K (.ref C) f = some none from n]
 rfl
structure Con (K : PySem.W.Frag) (C : Addr) (f : Str) (v : V) (u : Value) : Prop where
 at_ : PySem.W.findIn K (.ref C) f = some (some u)
 rel : RelV v u
 get : PySem.W.specialIn K u "__get__" = some none
 cp : PySem.W.copiedNames.contains f = false
structure Meth (K : PySem.W.Frag) (C : Addr) (m : Str) (f : Addr) : Prop where
 at_ : PySem.W.findIn K (.ref C) m = some (some (.ref f))
 fn : PySem.W.isFn K (.ref f) = true
 kp : PySem.W.keepIn K (.ref f) = true
section
variable {X : Cx} {pins : List (Addr × Obj)} {σ : St} {H : Hp} {s : Shared} {a C dx : Addr} {fs : List (Str × V)} {f : Str} {v : V} {A : Around} {E : Value -> Shared -> Prop}
theorem g0s {b : Bool} {Q : Value -> Shared -> Prop} (I : Inv X pins σ H s) (e : H a = some (.ins C dx fs)) (c : Cls X.K C) (n : a6m X.K C f) (l : fs.lookup f = some v)
  (h : ∀ u s', Inv X pins σ H s' -> RelV v u -> Q u s') : wpAny (model X.prog X.w) A (getAttr (.ref a) f b) Q E s := by
 obtain ⟨mA, O, r, _, _, _⟩ := d9z I.hok e
 obtain ⟨u, hu, ru⟩ := f8q.some_of (v := v) (o := mA f) (by rw [<- l]; exact r f)
 exact get_map I.kIn O (c.get f) c.hd n hu (g3r ru) (h u _ (I.tok _) ru)
theorem d8w {m : Str} {g : Addr} {pl : Sem Bool} {Q : Value × List Value -> Shared -> Prop} (I : Inv X pins σ H s) (e : H a = some (.ins C dx fs)) (c : Cls X.K C) (k : Meth X.K C m g) (l : fs.lookup m = none)
  (h : Q (.ref g, [.ref a]) s) : wpAny (model X.prog X.w) A (getMethod (.ref a) m pl) Q E s := by
 obtain ⟨mA, O, r, _, _, _⟩ := d9z I.hok e
 have hn : mA m = none := f8q.none_of (by rw [<- l]; exact r m)
 exact g7v I.kIn O (c.get m) k.at_ k.fn hn h
theorem g0t {y : V} {u : Value} {Q : Unit -> Shared -> Prop} (I : Inv X pins σ H s) (e : H a = some (.ins C dx fs)) (c : Cls X.K C) (n : a6m X.K C f) (hl : fs.length < 1000) (ry : RelV y u)
  (h : ∀ s', Inv X pins σ (upd H a (.ins C dx (d2q f y fs))) s' -> Q () s') : wpAny (model X.prog X.w) A (setAttr (.ref a) f u) Q E s := by
 obtain ⟨mA, O, r, wi, _, ho⟩ := d9z I.hok e
 have hz : (fs.map (·.1)).length <= sizeLine := by rw [List.length_map, sizeLine_eq]; omega
 refine h2t I.kIn O c.sa c.po n.taker c.hd wi hz fun h' O' sb => h _ ?_
 have hd : ∃ o, h'.get? dx = some o := let ⟨o, _, _, e', _⟩ := O'.ns; ⟨o, e'⟩
 refine I.write (x := a) (e := dx) (by rw [e]; exact True.intro) (.inr ho) (fun b q hb z => (sb.2 b hb).trans z) hd ?_
 refine ⟨by rw [a3m O.ne]; exact ho, ?_, O.ne, O'.obj, _, O'.ns, fun g => ?_, fun g hg => ?_⟩
 ·have := d3l f y fs; omega
 ·show f8q ((d2q f y fs).lookup g) (if g = f then some u else mA g)
  rw [d3j]
  by_cases q : g = f
  ·rw [if_pos q, if_pos q]; exact ry
  ·rw [if_neg q, if_neg q]; exact r g
 ·by_cases q : g = f
  ·rw [q]; exact (d3k f y fs).1
  ·refine (d3k f y fs).2 g (wi g fun z => hg ?_)
   show (if g = f then some u else mA g) = none
   rw [if_neg q]; exact z
theorem Inv.made (I : Inv X pins σ H s) : Inv X pins σ (upd (upd H s.heap.objs.size (.own (s.heap.objs.size + 1))) (s.heap.objs.size + 1) (.ins C s.heap.objs.size []))
  { s with heap := (s.heap.push PySem.W.emptyDict).push (PySem.W.instObj C s.heap.objs.size) } := by
 have e1 : (s.heap.push PySem.W.emptyDict).get? s.heap.objs.size = some PySem.W.emptyDict := Heap.get?_push_size s.heap rfl
 have e2 : ((s.heap.push PySem.W.emptyDict).push (PySem.W.instObj C s.heap.objs.size)).get? (s.heap.objs.size + 1) = some (PySem.W.instObj C s.heap.objs.size) := by
  have := Heap.get?_push_size (s.heap.push PySem.W.emptyDict) (o := PySem.W.instObj C s.heap.objs.size) rfl
  rwa [Heap.size_push] at this
 have e3 : (s.heap.push PySem.W.emptyDict).Ns s.heap.objs.size (fun _ => none) := ⟨PySem.W.emptyDict, #[], _, e1, rfl, (fun e he => absurd he (by simp)), fun _ => rfl⟩
 have I1 := I.laid (a := s.heap.objs.size) (o := .own (s.heap.objs.size + 1)) (h' := s.heap.push PySem.W.emptyDict) (t' := s.toks) (fun b u q => Heap.get?_push_of_some _ q) (Nat.le_refl _) ⟨_, e1⟩
 refine I1.laid (a := s.heap.objs.size + 1) (o := .ins C s.heap.objs.size []) (t' := s.toks) (fun b u q => Heap.get?_push_of_some _ q) (Nat.le_of_eq (Heap.size_push _ _)) ?_
 have ne : s.heap.objs.size ≠ s.heap.objs.size + 1 := Nat.ne_of_lt (Nat.lt_succ_self _)
 refine ⟨by rw [a3m ne, a6j], Nat.zero_le _, ne, e2, fun _ => none, (Heap.Ns1.of_empty e3).at fun o q => Heap.get?_push_of_some _ q, fun _ => True.intro, fun y hy => absurd rfl hy⟩
theorem h2u {prog : Program} {w : World} {env : Env} {e : Expr} {f : Str} {pos : Pos} {s : Shared} {Q : Value -> Shared -> Prop} (hb : attributeBase e f env (eval e env) = eval e env)
  (h : wpAny (model prog w) A (eval e env) (fun o s₁ => wpAny (model prog w) A (getAttr o f true) Q E s₁) E s) : wpAny (model prog w) A (eval (.Attribute e f pos) env) Q E s :=
 Attribute_any_ h (by rw [arm_eval_Attribute, hb])
end
noncomputable def i3p (K : PySem.W.Frag) (ta : TE) (f : Str) : TE := fun σ H Q => ta σ H fun x H1 => ∃ a C dx fs v, x = .ref a /\ H1 a = some (.ins C dx fs) /\ Cls K C /\ a6m K C f /\ fs.lookup f = some v /\ Q v H1
noncomputable def tCon (K : PySem.W.Frag) (ta : TE) (f : Str) : TE := fun σ H Q => ta σ H fun x H1 => ∃ a C dx fs v u, x = .ref a /\ H1 a = some (.ins C dx fs) /\ Cls K C /\ Con K C f v u /\ fs.lookup f = none /\ Q v H1
noncomputable def sFld (K : PySem.W.Frag) (ta tv : TE) (f : Str) : TS := fun D σ H => tv σ H fun y H1 => ta σ H1 fun x H2 => ∃ a C dx fs, x = .ref a /\ H2 a = some (.ins C dx fs) /\ Cls K C /\ a6m K C f /\ fs.length < 1000 /\
 D.nx σ (upd H2 a (.ins C dx (d2q f y fs)))
noncomputable def InOp (X : Cx) (op : Operator) (rd : V -> V -> Hp -> VK -> Prop) : Prop :=
 ∀ (pins : List (Addr × Obj)) (s : Shared) (σ : St) (H : Hp) (x y : V) (u v : Value) (Q : VK), Inv X pins σ H s -> RelV x u -> RelV y v -> rd x y H Q -> wpAny (model X.prog X.w) X.A (inplaceOp op u v) (EP X pins σ Q) X.xe s
noncomputable def i1t (K : PySem.W.Frag) (ta tv : TE) (rd : V -> V -> Hp -> VK -> Prop) (f : Str) : TS := fun D σ H => ta σ H fun x H1 => ∃ a C dx fs v, x = .ref a /\ H1 a = some (.ins C dx fs) /\ Cls K C /\ a6m K C f /\ fs.lookup f = some v /\
 tv σ H1 fun y H2 => rd v y H2 fun z H3 => ∃ dx' fs', H3 a = some (.ins C dx' fs') /\ fs'.length < 1000 /\ D.nx σ (upd H3 a (.ins C dx' (d2q f z fs')))
section
variable {X : Cx} {o e value : Expr} {f : Str} {pos pos' tpos : Pos} {ta tv : TE}
theorem h6m (he : PE X e ta) (hb : attributeBase e f X.env (eval e X.env) = eval e X.env) : PE X (.Attribute e f pos) (i3p X.K ta f) := by
 intro pins s σ H Q I h
 refine h2u hb (thn (he pins s σ H _ I h) fun u s1 ⟨x, H1, I1, rx, a, C, dx, fs, v, ex, ea, c, n, l, q⟩ => ?_)
 subst ex
 obtain rfl : u = Value.ref a := rx
 exact g0s I1 ea c n l fun u' s2 I2 ru => ⟨v, H1, I2, ru, q⟩
noncomputable def rAdd : V -> V -> Hp -> VK -> Prop := fun x y H Q => ∃ i j, x = .int i /\ y = .int j /\ Q (.int (i + j)) H
noncomputable def rSub : V -> V -> Hp -> VK -> Prop := fun x y H Q => ∃ i j, x = .int i /\ y = .int j /\ Q (.int (i - j)) H
end
section
variable {X : Cx} {pins : List (Addr × Obj)} {σ : St} {H : Hp} {s : Shared} {A : Around} {E : Value -> Shared -> Prop} {Q : Value -> Shared -> Prop} {c : Value} {b : Bool}
inductive g0u (K : PySem.W.Frag) (H : Hp) : V -> Value -> Prop where
 | non : g0u K H .non (.type "NoneType")
 | bl (x : Bool) : g0u K H (.bl x) (.type "bool")
 | int (i : Int) : g0u K H (.int i) (.type "int")
 | str (x : Str) : g0u K H (.str x) (.type "str")
 | flt (x : UInt64) : g0u K H (.flt x) (.type "float")
 | lst {a : Addr} {xs : List V} (e : H a = some (.lst xs)) : g0u K H (.ref a) (.type "list")
 | frz {a : Addr} {o : Obj} {xs : List V} (e : H a = some (.frz o (.lst xs))) : g0u K H (.ref a) (.type "list")
 | tup {a : Addr} {xs : List V} (e : H a = some (.tup xs)) : g0u K H (.ref a) (.type "tuple")
 | dK {a : Addr} {kvs : List (Key × V)} (e : H a = some (.dK kvs)) : g0u K H (.ref a) (.type "dict")
 | dT {a : Addr} {kvs : List (List Key × V)} (e : H a = some (.dT kvs)) : g0u K H (.ref a) (.type "dict")
 | ins {a C dx : Addr} {fs : List (Str × V)} (e : H a = some (.ins C dx fs)) (cl : Cls K C) (ha : PySem.W.findIn K (.ref C) "__class__" = some (some (.builtin "object.__class__")))
   (hn : PySem.W.specialIn K (.builtin "object.__class__") "__get__" = some (some (.builtin "getset_descriptor.__get__"))) (htk : PySem.W.takesIn K (.builtin "object.__class__") = some true)
   (hm : PySem.W.mroIn K C (.type "object") = some true) : g0u K H (.ref a) (.ref C)
theorem g3s {x : V} {u t : Value} (I : Inv X pins σ H s) (rx : RelV x u) (ty : g0u X.K H x t) (e : PySem.W.kitOne X.K t c = some b) (h : ∀ tk, Q (.bool b) { s with toks := tk }) :
  wpAny (model X.prog X.w) A (call (.builtin "isinstance") [u, c]) Q E s := by
 cases ty with
 | non => cases (show u = Value.none from rx); exact PySem.W.kia_one PySem.W.kitx_none I.kIn True.intro e (fun z => nomatch z) h
 | bl y => cases (show u = Value.bool y from rx); exact PySem.W.kia_one PySem.W.kitx_bool I.kIn True.intro e (fun z => nomatch z) h
 | int i => obtain ⟨t, q⟩ := (show ∃ t, u = Value.int i t from rx); cases q; exact PySem.W.kia_one PySem.W.kitx_int I.kIn True.intro e (fun z => nomatch z) h
 | str y => obtain ⟨t, q⟩ := (show ∃ t, u = Value.str y t from rx); cases q; exact PySem.W.kia_one PySem.W.kitx_str I.kIn True.intro e (fun z => nomatch z) h
 | flt y => obtain ⟨t, q⟩ := (show ∃ t, u = Value.float y t from rx); cases q; exact PySem.W.kia_one PySem.W.kitx_float I.kIn True.intro e (fun z => nomatch z) h
 | @lst a xs ea =>
  cases (show u = Value.ref a from rx)
  obtain ⟨_, _, n, _, h1⟩ := (show b4y X.prog X.w H s.heap a (.lst xs) from I.hok a _ ea)
  exact PySem.W.kia_one PySem.W.kitx_list I.kIn ⟨_, h1, rfl⟩ e (fun z => nomatch z) h
 | @frz a ob xs ea =>
  cases (show u = Value.ref a from rx)
  obtain ⟨_, _, _, n, _, h1⟩ := (show b4y X.prog X.w H s.heap a (.frz ob (.lst xs)) from I.hok a _ ea)
  exact PySem.W.kia_one PySem.W.kitx_list I.kIn ⟨_, h1, rfl⟩ e (fun z => nomatch z) h
 | @tup a xs ea =>
  cases (show u = Value.ref a from rx)
  obtain ⟨_, _, _, p⟩ := (show b4y X.prog X.w H s.heap a (.tup xs) from I.hok a _ ea)
  obtain ⟨o, h1, h2, _⟩ := p
  exact PySem.W.kia_one PySem.W.kitx_tuple I.kIn ⟨o, h1, h2⟩ e (fun z => nomatch z) h
 | @dK a kvs ea =>
  cases (show u = Value.ref a from rx)
  obtain ⟨_, _, vs, _, p⟩ := (show b4y X.prog X.w H s.heap a (.dK kvs) from I.hok a _ ea)
  obtain ⟨o, es, ep, h1, h2, _⟩ := p
  exact PySem.W.kia_one PySem.W.kitx_dict I.kIn ⟨o, h1, h2.1⟩ e (fun z => nomatch z) h
 | @dT a kvs ea =>
  cases (show u = Value.ref a from rx)
  obtain ⟨_, _, xs, _, o, es, ep, h1, h2, _⟩ := (show b4y X.prog X.w H s.heap a (.dT kvs) from I.hok a _ ea)
  exact PySem.W.kia_one PySem.W.kitx_dict I.kIn ⟨o, h1, h2.1⟩ e (fun z => nomatch z) h
 | @ins a C dx fs ea cl ha hn htk hm =>
  cases (show u = Value.ref a from rx)
  obtain ⟨mA, O, _⟩ := d9z I.hok ea
  obtain ⟨od, J, _⟩ := O.look
  exact PySem.W.kia_one (PySem.W.kitx_own (cl.get _) cl.hd ha hn htk hm) I.kIn J e (fun z => nomatch z) h
end
end L2
namespace L2
open PySem PySem.Spec PyProof.Rows
structure a2q (k : Nat) (A : Around) : Prop where
 hd : A.handled = none
 dp : A.depth + 3 * k + 5 < recursionLimit
 un : A.units + 16 * k + 200 < cLine
theorem a2q.mono {j k : Nat} {A : Around} (r : a2q k A) (h : j <= k) : a2q j A := ⟨r.hd, by have := r.dp; omega, by have := r.un; omega⟩
theorem a2q.deeper {k : Nat} {A : Around} (r : a2q (k + 1) A) (env : Env) : a2q k (A.deeper env) :=
 ⟨r.hd, by have := r.dp; show A.depth + 1 + 3 * k + 5 < _; omega, by have := r.un; show A.units + 3 + 16 * k + 200 < _; omega⟩
theorem a2q.in1 {k : Nat} {A : Around} (r : a2q (k + 1) A) : a2q k A.in1 :=
 ⟨r.hd, by have := r.dp; show A.depth + 3 * k + 5 < _; omega, by have := r.un; show A.units + 1 + 16 * k + 200 < _; omega⟩
theorem g0v {A : Around} {C : Addr} {us : List Value} {kw : List (Str × Value)} : (A.under (.builtin "type.__call__" ⟨.ref C :: us, kw⟩)).depth = A.depth + 1 := by
 first | rfl | simp [Around.under, Code.weight, Code.isCreation, Code.isGuard, Code.isCaller, Code.frames, Code.isFrame, guardIds]
theorem g0w {A : Around} {C : Addr} {us : List Value} {kw : List (Str × Value)} : (A.under (.builtin "type.__call__" ⟨.ref C :: us, kw⟩)).units = A.units + 1 := by
 first | rfl | simp [Around.under, Code.cUnits, Code.frames, Code.isFrame]
theorem a2q.make {k : Nat} {A : Around} (r : a2q (k + 1) A) (C : Addr) (us : List Value) (kw : List (Str × Value)) : a2q k (A.under (.builtin "type.__call__" ⟨.ref C :: us, kw⟩)) :=
 ⟨r.hd, by have := r.dp; rw [g0v]; omega, by have := r.un; rw [g0w]; omega⟩
theorem a2q.depth {k : Nat} {A : Around} (r : a2q k A) : A.depth < recursionLimit := by have := r.dp; omega
theorem a2q.units {k : Nat} {A : Around} (r : a2q k A) : A.units + 64 < cLine := by have := r.un; omega
noncomputable def f0g : TA := fun _ H Q => Q [] H
noncomputable def h6n (ta : TE) (tr : TA) : TA := fun σ H Q => ta σ H fun x H1 => tr σ H1 fun xs H2 => Q (x :: xs) H2
section
variable {X : Cx} {e : Expr} {es : List Expr} {te : TE} {t : TA} {pos : Pos}
theorem a0i : PA X [] f0g := fun _ _ _ _ H Q I h => Calls.spliced_nil ⟨[], H, I, .nil, h⟩
theorem a0g (ha : PE X e te) (hr : PA X es t) (hs : starEach (e :: es) X.env = (false, eval e X.env) :: starEach es X.env := by rfl) : PA X (e :: es) (h6n te t) := by
 intro pos pins s σ H Q I h
 rw [hs]
 show wpAny _ _ (spliced ((false, eval e X.env) :: backTo pos (starEach es X.env))) _ _ s
 refine Calls.spliced_cons (thn (ha pins s σ H _ I h) fun u s1 ⟨x, H1, I1, r1, q1⟩ => ?_)
 exact thn (hr pos pins s1 σ H1 _ I1 q1) fun us s2 ⟨xs, H2, I2, r2, q2⟩ => ⟨x :: xs, H2, I2, .cons r1 r2, q2⟩
noncomputable def tTup (t : TA) : TE := fun σ H Q => t σ H fun xs H1 => xs.length <= sizeLine /\ ∀ p, H1 p = none -> Q (.ref p) (upd H1 p (.tup xs))
noncomputable def tLst (t : TA) : TE := fun σ H Q => t σ H fun xs H1 => xs.length <= sizeLine /\ ∀ p, H1 p = none -> Q (.ref p) (upd H1 p (.lst xs))
end
noncomputable abbrev Sp := List V -> Hp -> VK -> XK -> Prop
noncomputable abbrev CXT := List Env -> Hp -> Shared -> XK -> Value -> Shared -> Prop
structure g3t (P : Program) (w : World) (K : PySem.W.Frag) (mg : Str -> Option Value) (base : Heap) (A : Around) (outer : List Env) (s : Shared) (H : Hp) : Prop where
 frames : A.frames = some outer
 mod : Mod K mg base
 bs : ∀ b o, base.get? b = some o -> s.heap.get? b = some o /\ H b = none
 bsz : base.objs.size <= s.heap.objs.size
 f8s : s.heap.FunFrames base outer
 frf : ∀ b ∈ frs outer, H b = none
 hok : HOk P w H s.heap
 bare : AllBare s.gens
noncomputable def CE (outer : List Env) (P : Program) (w : World) (H : Hp) (s : Shared) (Q : VK) (u : Value) (s' : Shared) : Prop :=
 ∃ v H', s'.os = s.os /\ AllBare s'.gens /\ Un (frs outer) [] H H' s.heap s'.heap /\ HOk P w H' s'.heap /\ RelV v u /\ Q v H'
noncomputable def CR (CX : CXT) (outer : List Env) (P : Program) (w : World) (H : Hp) (s : Shared) (Q : VK) (E : XK) (r : Result) (s' : Shared) : Prop :=
 match r with
 | .ok (.ret u) => CE outer P w H s Q u s'
 | .ok _ => False
 | .error e => CX outer H s E e s'
structure a1p (P : Program) (w : World) (K : PySem.W.Frag) (mg : Str -> Option Value) (base : Heap) (CX : CXT) (k : Nat) (f : Addr) (fd : FuncData) (ps : List Str) (sp : Sp) : Prop where
 len : ∀ vs H Q E, sp vs H Q E -> vs.length = ps.length
 run : ∀ (A : Around) (outer : List Env) (s : Shared) (H : Hp) (args : Args) (us : List Value) (vs : List V) (Q : VK) (E : XK), a2q k A -> g3t P w K mg base A outer s H -> BindsTo s fd args (ps.zip us) -> Vals vs us -> sp vs H Q E ->
  codeAny (model P w) A (.call (.ref f) args) (CR CX outer P w H s Q E) s
theorem a1p.mono {P : Program} {w : World} {K : PySem.W.Frag} {mg : Str -> Option Value} {base : Heap} {CX : CXT} {j k : Nat} {f : Addr} {fd : FuncData} {ps : List Str} {sp : Sp} (F : a1p P w K mg base CX j f fd ps sp) (h : j <= k) :
  a1p P w K mg base CX k f fd ps sp := ⟨F.len, fun A outer s H args us vs Q E hr => F.run A outer s H args us vs Q E (hr.mono h)⟩
theorem g3t.make {P : Program} {w : World} {K : PySem.W.Frag} {mg : Str -> Option Value} {base : Heap} {A : Around} {outer : List Env} {s : Shared} {H : Hp} (e : g3t P w K mg base A outer s H) (C : Addr) (us : List Value) (kw : List (Str × Value)) :
  g3t P w K mg base (A.under (.builtin "type.__call__" ⟨.ref C :: us, kw⟩)) outer s H := ⟨by first | exact e.frames | (simpa [Around.under, Code.envs, Code.isFrame, pushEnvs] using e.frames), e.mod, e.bs, e.bsz, e.f8s, e.frf, e.hok, e.bare⟩
theorem g3t.in1 {P : Program} {w : World} {K : PySem.W.Frag} {mg : Str -> Option Value} {base : Heap} {A : Around} {outer : List Env} {s : Shared} {H : Hp} (e : g3t P w K mg base A outer s H) :
  g3t P w K mg base A.in1 outer s H := ⟨e.frames, e.mod, e.bs, e.bsz, e.f8s, e.frf, e.hok, e.bare⟩
section
variable {X : Cx} {pins : List (Addr × Obj)} {σ : St} {H : Hp} {s s' : Shared}
theorem Inv.env0 (I : Inv X pins σ H s) : g3t X.prog X.w X.K X.mg X.base X.A X.stack s H :=
 ⟨I.ok.frames, I.ok.mod, I.bs, Nat.le_trans I.ok.bsz I.sz, I.stack, I.g3b, I.hok, I.bare⟩
theorem Inv.after {Q : VK} {u : Value} (I : Inv X pins σ H s) (h : CE X.stack X.prog X.w H s Q u s') : EP X pins σ Q u s' := by
 obtain ⟨v, H', os, bare, un, hok, r, q⟩ := h
 obtain ⟨hh, g, d, t, os'⟩ := s'
 obtain rfl : os' = s.os := os
 exact ⟨v, H', I.call (h' := hh) (g' := g) (d' := d) (t' := t) (ch := []) un hok bare (fun b z => absurd z (by simp)), r, q⟩
end
noncomputable def h2v (sp : Sp) (dvs : List V) (E : XK) (t : TA) : TE := fun σ H Q => t σ H fun vs H1 => sp (vs ++ dvs) H1 Q E
noncomputable def tMeth (C : Addr) (m : Str) (sp : Sp) (dvs : List V) (E : XK) (ta : TE) (t : TA) : TE := fun σ H Q => ta σ H fun x H1 => ∃ a dx fs, x = .ref a /\ H1 a = some (.ins C dx fs) /\ fs.lookup m = none /\
 t σ H1 fun vs H2 => sp (x :: (vs ++ dvs)) H2 Q E
noncomputable def tMake (C : Addr) (sp : Sp) (dvs : List V) (E : XK) (t : TA) : TE := fun σ H Q => t σ H fun vs H1 => ∀ x dx, H1 x = none -> H1 dx = none -> dx ≠ x ->
 sp (.ref x :: (vs ++ dvs)) (upd (upd H1 dx (.own x)) x (.ins C dx [])) (fun v H2 => v = .non /\ Q (.ref x) H2) E
noncomputable def Binds (K : PySem.W.Frag) (fd : FuncData) (ps : List Str) (ds : List Value) : Prop :=
 ∀ (s : Shared) (us : List Value), K.In s.heap -> (us ++ ds).length = ps.length -> BindsTo s fd ⟨us, []⟩ (ps.zip (us ++ ds))
theorem Binds.all {K : PySem.W.Frag} {fd : FuncData} {ps : List Str} (h : ∀ us : List Value, us.length = ps.length -> bindArgs fd ⟨us, []⟩ = pure (ps.zip us)) : Binds K fd ps [] := fun s us _ hl => by
 rw [List.append_nil] at hl ⊢
 exact .of_eq (h us hl)
noncomputable def Passes (CX : CXT) (X : Cx) (E : XK) : Prop := ∀ (pins : List (Addr × Obj)) (σ : St) (H : Hp) (s : Shared) (e : Value) (s' : Shared), Inv X pins σ H s -> CX X.stack H s E e s' -> X.xe e s'
section
variable {X : Cx} {CX : CXT} {k : Nat} {f C : Addr} {fd : FuncData} {ps : List Str} {sp : Sp} {dvs : List V} {ds : List Value} {E : XK} {x m : Str} {p pos apos : Pos} {e o : Expr} {es : List Expr} {ta : TE} {t : TA}
theorem f8z {pins : List (Addr × Obj)} {σ : St} {H : Hp} {s : Shared} {Q : VK} {us : List Value} {vs : List V} (F : a1p X.prog X.w X.K X.mg X.base CX k f fd ps sp) (hr : a2q k X.A) (hb : Binds X.K fd ps ds) (hd : Vals dvs ds) (hx : Passes CX X E)
  (I : Inv X pins σ H s) (r : Vals vs us) (h : sp (vs ++ dvs) H Q E) : wpAny (model X.prog X.w) X.A (call (.ref f) us) (EP X pins σ Q) X.xe s := by
 have r2 : Vals (vs ++ dvs) (us ++ ds) := r.append hd
 have hl : (us ++ ds).length = ps.length := by rw [<- r2.length]; exact F.len _ _ _ _ h
 refine wpAny_call (codeAny_mono (F.run X.A X.stack s H ⟨us, []⟩ (us ++ ds) (vs ++ dvs) Q E hr I.env0 (hb s us I.kIn hl) r2 h) fun r s' hq => ?_)
 cases r with
 | error e => exact hx pins σ H s e s' I hq
 | ok fl =>
  cases fl with
  | ret u => exact I.after hq
  | next => exact False.elim hq
  | brk => exact False.elim hq
  | cont => exact False.elim hq
theorem a0u (F : a1p X.prog X.w X.K X.mg X.base CX k f fd ps sp) (hr : a2q k X.A) (hg : Gl X x) (hm : X.mg x = some (.ref f)) (hk : PySem.W.keepIn X.K (.ref f) = true) (hb : Binds X.K fd ps ds) (hd : Vals dvs ds) (hx : Passes CX X E)
  (ha : PA X (e :: es) t) (hdb : (x == ("__debug__" : Str)) = false := by decide) (he : starEach (e :: es) X.env = (false, eval e X.env) :: starEach es X.env := by rfl) (hpl : (backTo pos (starEach es X.env)).any (·.1) = false := by rfl) :
  PE X (.Call (.Name x p) (e :: es) [] pos) (h2v sp dvs E t) := by
 intro pins s σ H Q I h
 refine wpAny_Call_Name_kw (f6i I hg hm ?_ hdb)
 refine PySem.W.callWith_K (h₀ := X.base) I.ok.mod.kin hk (thn (ha pos pins s σ H _ I h) fun us s1 ⟨vs, H1, I1, r, q⟩ => ⟨I1.kIn, ?_⟩) he hpl
 exact f8z F hr hb hd hx I1 r q
structure Mk (K : PySem.W.Frag) (C f : Addr) : Prop where
 makes : PySem.W.makesIn K C = true
 init : PySem.W.findIn K (.ref C) "__init__" = some (some (.ref f))
 fn : PySem.W.isFn K (.ref f) = true
 kp : PySem.W.keepIn K (.ref C) = true
theorem g7x {pins : List (Addr × Obj)} {σ : St} {H : Hp} {s : Shared} {Q : VK} {us : List Value} {vs : List V} (M : Mk X.K C f) (F : a1p X.prog X.w X.K X.mg X.base CX k f fd ps sp) (hr : a2q (k + 1) X.A) (hb : Binds X.K fd ps ds) (hd : Vals dvs ds)
  (hx : Passes CX X E) (I : Inv X pins σ H s) (r : Vals vs us)
  (h : ∀ x dx, H x = none -> H dx = none -> dx ≠ x -> sp (.ref x :: (vs ++ dvs)) (upd (upd H dx (.own x)) x (.ins C dx [])) (fun v H2 => v = .non /\ Q (.ref x) H2) E) :
  wpAny (model X.prog X.w) X.A (call (.ref C) us) (EP X pins σ Q) X.xe s := by
 have hq := h (s.heap.objs.size + 1) s.heap.objs.size (I.hok.fresh (Nat.le_succ _)) (I.hok.fresh (Nat.le_refl _)) (Nat.ne_of_lt (Nat.lt_succ_self _))
 have I2 := Inv.made (C := C) I
 have r2 : Vals (V.ref (s.heap.objs.size + 1) :: (vs ++ dvs)) (Value.ref (s.heap.objs.size + 1) :: (us ++ ds)) := .cons rfl (r.append hd)
 have hl : (Value.ref (s.heap.objs.size + 1) :: us ++ ds).length = ps.length := by
  have e := r2.length
  rw [F.len _ _ _ _ hq] at e
  exact e.symm
 refine wpAny_call (g7w (f := f) I.kIn M.makes M.init (beq_iff_eq.mp M.fn) (codeAny_mono (F.run _ X.stack _ _ ⟨Value.ref (s.heap.objs.size + 1) :: us, []⟩ (Value.ref (s.heap.objs.size + 1) :: (us ++ ds)) _ _ E (hr.make C us [])
  (I2.env0.make C us []) (hb _ (Value.ref (s.heap.objs.size + 1) :: us) I2.kIn hl) r2 hq) fun r s' hq' => ?_))
 cases r with
 | error e => exact hx pins σ _ _ e s' I2 hq'
 | ok fl =>
  cases fl with
  | ret u =>
   obtain ⟨v, H', I3, rv, ev, q3⟩ := I2.after hq'
   subst ev
   exact ⟨rv, ⟨V.ref (s.heap.objs.size + 1), H', I3, rfl, q3⟩⟩
  | next => exact False.elim hq'
  | brk => exact False.elim hq'
  | cont => exact False.elim hq'
end
noncomputable def PK (X : Cx) (kws : List Keyword) (t : TA) : Prop :=
 ∀ (pos : Pos) (pins : List (Addr × Obj)) (s : Shared) (σ : St) (H : Hp) (Q : List V -> Hp -> Prop), Inv X pins σ H s -> t σ H Q -> wpAny (model X.prog X.w) X.A (evalAll ((backToKw pos (keywordEach kws X.env)).map (·.2))) (AP X pins σ Q) X.xe s
section
variable {X : Cx} {CX : CXT} {k : Nat} {f C : Addr} {fd : FuncData} {ps ks : List Str} {sp : Sp} {E : XK} {x m : Str} {p pos apos kpos : Pos} {e o : Expr} {es : List Expr} {kws : List Keyword} {te ta : TE} {t tk : TA} {nm : Option Str}
structure i3q (K : PySem.W.Frag) (fd : FuncData) (ps ks : List Str) (g : List Value -> List Value -> List Value) (gV : List V -> List V -> List V) : Prop where
 to : ∀ (s : Shared) (us ws : List Value), K.In s.heap -> (g us ws).length = ps.length -> BindsTo s fd ⟨us, ks.zip ws⟩ (ps.zip (g us ws))
 rel : ∀ {vs : List V} {us : List Value} {zs : List V} {ws : List Value}, Vals vs us -> Vals zs ws -> Vals (gV vs zs) (g us ws)
noncomputable def i3r (sp : Sp) (gV : List V -> List V -> List V) (E : XK) (t tk : TA) : TE := fun σ H Q => t σ H fun vs H1 => tk σ H1 fun zs H2 => sp (gV vs zs) H2 Q E
variable {g : List Value -> List Value -> List Value} {gV : List V -> List V -> List V}
end
structure a0r (N P : List Str) (sc : Scope) : Prop where
 kind : sc.kind = .function
 co : sc.isCoroutine = false
 gen : sc.isGenerator = false
 nd : N.Nodup
 pre : N.take P.length = P
 par : ∀ x ∈ P, sc.names.lookup x = some .local \/ sc.names.lookup x = some .cell
 h6o : ∀ y ∈ sc.names, y.2 ≠ .free
theorem f3g {kindOf : Str -> Option NameKind} {x : Str} : ∀ {binds : List (Str × Value)} {m : Str -> Option Value}, (∀ v, (x, v) ∉ binds) -> bindL kindOf binds m x = m x
 | [], _, _ => rfl
 | (n, v) :: r, m, h => by
  unfold bindL
  rw [f3g fun w hw => h w (List.mem_cons_of_mem _ hw)]
  split
  ·have : x ≠ n := by rintro rfl; exact h v List.mem_cons_self
   simp [this]
  ·rfl
theorem f3h {kindOf : Str -> Option NameKind} {x : Str} : ∀ {binds : List (Str × Value)} {m : Str -> Option Value}, (∀ v, (x, v) ∉ binds) -> bindC kindOf binds m x = m x
 | [], _, _ => rfl
 | (n, v) :: r, m, h => by
  unfold bindC
  rw [f3h fun w hw => h w (List.mem_cons_of_mem _ hw)]
  split
  ·rfl
  ·have : x ≠ n := by rintro rfl; exact h v List.mem_cons_self
   simp [this]
theorem f3i {kindOf : Str -> Option NameKind} {x : Str} {v : Value} : ∀ {P : List Str} {vs : List Value} {i : Nat} {m : Str -> Option Value}, P.Nodup -> P[i]? = some x -> vs[i]? = some v -> kindOf x = some .local ->
  bindL kindOf (P.zip vs) m x = some v
 | [], _, _, _, _, h, _, _ => by simp at h
 | _ :: _, [], _, _, _, _, h, _ => by simp at h
 | p :: P, w :: vs, 0, m, nd, h1, h2, hk => by
  simp at h1 h2; subst h1; subst h2
  show bindL kindOf ((p, w) :: P.zip vs) m p = _
  unfold bindL
  rw [f3g fun v hv => (List.nodup_cons.mp nd).1 (List.of_mem_zip hv).1, if_pos hk]
  simp
 | p :: P, w :: vs, i + 1, m, nd, h1, h2, hk => by
  show bindL kindOf ((p, w) :: P.zip vs) m x = _
  unfold bindL
  exact f3i (i := i) (List.nodup_cons.mp nd).2 (by simpa using h1) (by simpa using h2) hk
theorem f3j {kindOf : Str -> Option NameKind} {x : Str} {v : Value} : ∀ {P : List Str} {vs : List Value} {i : Nat} {m : Str -> Option Value}, P.Nodup -> P[i]? = some x -> vs[i]? = some v -> kindOf x ≠ some .local ->
  bindC kindOf (P.zip vs) m x = some v
 | [], _, _, _, _, h, _, _ => by simp at h
 | _ :: _, [], _, _, _, _, h, _ => by simp at h
 | p :: P, w :: vs, 0, m, nd, h1, h2, hk => by
  simp at h1 h2; subst h1; subst h2
  show bindC kindOf ((p, w) :: P.zip vs) m p = _
  unfold bindC
  rw [f3h fun v hv => (List.nodup_cons.mp nd).1 (List.of_mem_zip hv).1, if_neg hk]
  simp
 | p :: P, w :: vs, i + 1, m, nd, h1, h2, hk => by
  show bindC kindOf ((p, w) :: P.zip vs) m x = _
  unfold bindC
  exact f3j (i := i) (List.nodup_cons.mp nd).2 (by simpa using h1) (by simpa using h2) hk
noncomputable def start (N : List Str) (vs : List V) : St := vs.map some ++ List.replicate (N.length - vs.length) none
noncomputable def h0h (CX : CXT) (P : Program) (w : World) (K : PySem.W.Frag) (mg : Str -> Option Value) (base : Heap) (N : List Str) (qual : Str) (scope : Scope) (f : Addr) (cd : Value) (A : Around) (outer : List Env) (s : Shared) (H : Hp) (E : XK) : Cx where
 prog := P
 w := w
 K := K
 mg := mg
 base := base
 A := A.deeper (envOfC qual scope s.heap.objs.size f cd)
 N := N
 s₀ := s
 H₀ := H
 env := envOfC qual scope s.heap.objs.size f cd
 outer := outer
 stack := envOfC qual scope s.heap.objs.size f cd :: outer
 ex := []
 calm := true
 fn := fun _ => true
 pn := []
 xe := fun e s' => wpAny (model P w) (A.deeper (envOfC qual scope s.heap.objs.size f cd)) (leaving (envOfC qual scope s.heap.objs.size f cd) e) (fun _ s'' => CX outer H s E e s'') (fun e' s'' => CX outer H s E e' s'') s'
theorem f9g {sc : Scope} {n : Nat} {x : Str} (h : sc.names.lookup x = some .cell) : ∃ c, (cellsFrom n sc.names []).lookup x = some c := by
 have q := PySem.W.cellsFrom_some sc.names n [] (.inl h)
 exact Option.isSome_iff_exists.mp q
theorem g3u {CX : CXT} {P : Program} {w : World} {K : PySem.W.Frag} {mg : Str -> Option Value} {base : Heap} {N ps : List Str} {qual : Str} {scope : Scope} {f : Addr} {cd : Value} {A : Around} {outer : List Env} {s s1 : Shared} {H : Hp} {E : XK} {us : List Value} {vs : List V}
  (S : a0r N ps scope) (hd : A.handled = none) (e0 : g3t P w K mg base A outer s H) (hl : vs.length = ps.length) (r : Vals vs us)
  (x : InCallC s s.heap.objs.size (bindL (envOfC qual scope s.heap.objs.size f cd).kindOf (ps.zip us) fun _ => none) (cellsFrom (s.heap.objs.size + 1) scope.names []) (bindC (envOfC qual scope s.heap.objs.size f cd).kindOf (ps.zip us) fun _ => none) s1) :
  Inv (h0h CX P w K mg base N qual scope f cd A outer s H E) [] (start N vs) H s1 := by
 have hpl : ps.length <= N.length := by have := congrArg List.length S.pre; rw [List.length_take] at this; omega
 obtain ⟨h1, tk, rfl, hk⟩ := x.done
 have noA : ∀ b : Addr, b ∉ (h0h CX P w K mg base N qual scope f cd A outer s H E).ex := fun b z => absurd (show b ∈ ([] : List Addr) from z) (by simp)
 refine ⟨⟨e0.mod, S.kind, rfl, rfl, Nat.le_refl _, fun y z c h1 h2 => ?_, fun y hy => ?_, fun y c _ h => ?_, fun _ => hd, Around.frames_deeper e0.frames, .inr ⟨rfl, rfl⟩, fun b z => absurd z (noA b), e0.bs, e0.bsz, fun b _ _ => noA b, fun b z => absurd z (noA b), e0.f8s, e0.frf⟩,
  rfl, e0.bare, Un.kept hk, ⟨_, x.toInCall.ns, fun i y v h1 h2 h3 => ?_⟩, fun y c h => ⟨_, x.cell y c h⟩, e0.hok.fresh (Nat.le_refl _), fun y c h => ?_, fun p hp => absurd (show p ∈ ([] : List (Addr × Obj)) from hp) (by simp), e0.hok.kept hk, ?_⟩
 ·exact name_of_addr x.apart (PySem.mem_of_lookup h1) (PySem.mem_of_lookup h2)
 ·have hy : scope.names.lookup y = some .cell \/ scope.names.lookup y = some .free := hy
  rcases hy with hy | hy
  ·exact f9g hy
  ·exact absurd rfl (S.h6o _ (PySem.mem_of_lookup hy))
 ·exact Nat.le_of_lt (x.above y c (PySem.mem_of_lookup h))
 ·have hi : i < vs.length := by
   unfold start at h2
   by_cases hi : i < vs.length
   ·exact hi
   ·rw [List.getElem?_append_right (by simpa using hi)] at h2
    rw [List.getElem?_replicate] at h2
    split at h2 <;> cases h2
  have ha : vs[i]? = some v := by
   unfold start at h2
   rw [List.getElem?_append_left (by simpa using hi), List.getElem?_map] at h2
   cases e : vs[i]? with
   | none => rw [e] at h2; cases h2
   | some a => rw [e] at h2; cases h2; rfl
  obtain ⟨u, hu, rv⟩ := r.get ha
  have hp : ps[i]? = some y := by
   rw [<- S.pre, List.getElem?_take_of_lt (by omega)]; exact h1
  have ndP : ps.Nodup := by rw [<- S.pre]; exact S.nd.sublist (List.take_sublist _ _)
  refine ⟨u, rv, ?_⟩
  rcases S.par y (List.mem_of_getElem? hp) with k | k
  ·exact .inl ⟨k, f3i ndP hp hu k⟩
  ·obtain ⟨c, e⟩ := f9g (n := s.heap.objs.size + 1) k
   refine .inr ⟨.inl k, c, e, ?_⟩
   have q := x.cell y c e
   rw [f3j ndP hp hu (by show scope.names.lookup y ≠ _; rw [k]; decide)] at q
   exact q
 ·exact e0.hok.fresh (Nat.le_of_lt (x.above y c (PySem.mem_of_lookup h)))
 ·unfold start
  show _ = N.length
  rw [List.length_append, List.length_map, List.length_replicate]
  omega
theorem i1u {CX : CXT} {P : Program} {w : World} {K : PySem.W.Frag} {mg : Str -> Option Value} {base : Heap} {k : Nat} {f : Addr} {name qual : Str} {params : Arguments} {body : List Stmt} {scope : Scope} {dV kV doc pm cdv ct oc : Value} {an od : Option Addr}
  {osl : Array (Option Value)} {N ps : List Str} {sp : Sp} (lk : K.lookup f = some ⟨oc, od, .func (PySem.W.fnOf name qual params body scope dV kV doc pm an cdv ct), osl⟩) (hcd : PySem.W.codeIn K cdv qual = true) (S : a0r N ps scope)
  (len : ∀ vs H Q E, sp vs H Q E -> vs.length = ps.length)
  (hbody : ∀ (A : Around) (outer : List Env) (s : Shared) (H : Hp) (vs : List V) (Q : VK) (E : XK), a2q k (A.deeper (envOfC qual scope s.heap.objs.size f cdv)) -> sp vs H Q E ->
   ∃ t, PSs (h0h CX P w K mg base N qual scope f cdv A outer s H E) body t /\ t { nx := fun _ H' => Q .non H', rt := Q } (start N vs) H) :
  a1p P w K mg base CX (k + 1) f (PySem.W.fnOf name qual params body scope dV kV doc pm an cdv ct) ps sp := by
 refine ⟨len, fun A outer s H args us vs Q E hr e0 hb r hsp => ?_⟩
 have hl := len _ _ _ _ hsp
 have KX : K.In s.heap := e0.mod.kin.keeps fun b o e => (e0.bs b o e).1
 have lim : s.heap.NoLimit := e0.mod.nolimit.keeps fun b o e => (e0.bs b o e).1
 have hkind : ∀ y ∈ ps.zip us, scope.names.lookup y.1 = some .local \/ (scope.names.lookup y.1 = some .cell /\ ((cellsFrom (s.heap.objs.size + 1) scope.names []).lookup y.1).isSome = true) := fun ⟨n, v⟩ hy => by
  rcases S.par n (List.of_mem_zip hy).1 with q | q
  ·exact .inl q
  ·exact .inr ⟨q, PySem.W.cellsFrom_some _ _ _ (.inl q)⟩
 refine codeAny_call_function hr.depth (KX _ _ lk) rfl S.co S.gen rfl (PySem.W.codeRec_of KX hcd) (hb _ _ _ _ ?_)
 refine wpAny_newFunctionEnv_cells S.kind hkind fun env he s1 x => ?_
 subst he
 refine ⟨lim.keeps x.toInCall.keep, codeAny_func ?_⟩
 obtain ⟨t, ht, hq⟩ := hbody A outer s H vs Q E (hr.deeper _) hsp
 have I : Inv (h0h CX P w K mg base N qual scope f cdv A outer s H E) [] (start N vs) H s1 := g3u S hr.hd e0 hl r x
 refine wpAny_mono (ht [] s1 (start N vs) H _ I hq) (fun fl s' hs => ?_) fun e s' hs => hs
 have fin : ∀ {σ' : St} {H' : Hp} {v : V} {u : Value}, Inv (h0h CX P w K mg base N qual scope f cdv A outer s H E) [] σ' H' s' -> RelV v u -> Q v H' -> CE outer P w H s Q u s' :=
  fun {σ' H' v u} J rv q => ⟨v, H', J.os, J.bare, J.base, J.hok, rv, q⟩
 cases fl with
 | ret u =>
  obtain ⟨v, σ', H', J, rv, q⟩ := hs
  exact fin J rv q
 | next =>
  obtain ⟨σ', H', J, q⟩ := hs
  exact fin (v := V.non) (u := Value.none) J rfl q
 | brk =>
  obtain ⟨_, _, _, q⟩ := hs
  exact False.elim q
 | cont =>
  obtain ⟨_, _, _, q⟩ := hs
  exact False.elim q
end L2
namespace L2
open PySem PySem.Spec PyProof.Rows
section
variable {X : Cx} {x : Str} {p pos : Pos} {e : Expr} {es : List Expr} {t : TA} {id T : String} {r : List V -> Hp -> VK -> Prop}
noncomputable def tCB (r : List V -> Hp -> VK -> Prop) (t : TA) : TE := fun σ H Q => t σ H fun vs H1 => r vs H1 Q
theorem a1l (hc : a8i X (.builtin id) r) (hg : Gl X x) (hm : X.mg x = none) (hv : bootBuiltins x = some (.builtin id)) (ha : PA X (e :: es) t) (hn : x ≠ "__name__" := by decide) (hdb : (x == ("__debug__" : Str)) = false := by decide)
  (he : starEach (e :: es) X.env = (false, eval e X.env) :: starEach es X.env := by rfl) (hpl : (backTo pos (starEach es X.env)).any (·.1) = false := by rfl) : PE X (.Call (.Name x p) (e :: es) [] pos) (tCB r t) := by
 intro pins s σ H Q I h
 refine wpAny_Call_Name_kw (d1y I hg hm hv ?_ hn hdb)
 exact PyProof.Rows.callWith_builtin1 (thn (ha pos pins s σ H _ I h) fun us s1 ⟨vs, H1, I1, r1, q1⟩ => hc pins s1 σ H1 vs us Q I1 r1 q1) he hpl
theorem a2i (hc : a8i X (.type T) r) (hg : Gl X x) (hm : X.mg x = none) (hv : bootBuiltins x = some (.type T)) (ha : PA X (e :: es) t) (hn : x ≠ "__name__" := by decide) (hdb : (x == ("__debug__" : Str)) = false := by decide)
  (he : starEach (e :: es) X.env = (false, eval e X.env) :: starEach es X.env := by rfl) (hpl : (backTo pos (starEach es X.env)).any (·.1) = false := by rfl) : PE X (.Call (.Name x p) (e :: es) [] pos) (tCB r t) := by
 intro pins s σ H Q I h
 refine wpAny_Call_Name_kw (d1y I hg hm hv ?_ hn hdb)
 exact PyProof.Rows.callWith_type1 (thn (ha pos pins s σ H _ I h) fun us s1 ⟨vs, H1, I1, r1, q1⟩ => hc pins s1 σ H1 vs us Q I1 r1 q1) he hpl
end
end L2
namespace HT
open PySem PyProof.Rows
noncomputable def lexLt : List Int -> List Int -> Bool
 | [], [] => false
 | [], _ :: _ => true
 | _ :: _, [] => false
 | x :: xs, y :: ys => if x = y then lexLt xs ys else decide (x < y)
section
open PySem.SeqAt
open PySem.AutoSeq1 (wpAny_loadPart')
open PySem.MeetsSeq PySem.MeetsSeq2 PySem.MeetsSeq3
end
section
variable {prog : Program} {w : World} {A : Around} {E : Value -> Shared -> Prop} {s : Shared}
noncomputable def sIx (n d : Nat) : Option Int -> Nat
 | none => d
 | some v => if v < 0 then (v + (n : Int)).toNat else min v.toNat n
theorem f9h (n d : Nat) : sIx n d none = d := rfl
theorem g3v (n d k : Nat) : sIx n d (some (k : Int)) = min k n := by
 show (if (k : Int) < 0 then ((k : Int) + (n : Int)).toNat else min (k : Int).toNat n) = min k n
 rw [if_neg (by omega), Int.toNat_natCast]
end
end HT
namespace L2
open PySem PySem.Spec PyProof.Rows
noncomputable abbrev TO := St -> Hp -> (Option Int -> Hp -> Prop) -> Prop
noncomputable def PO (X : Cx) (e : Option Expr) (t : TO) : Prop :=
 ∀ (pins : List (Addr × Obj)) (s : Shared) (σ : St) (H : Hp) (Q : Option Int -> Hp -> Prop), Inv X pins σ H s -> t σ H Q ->
  wpAny (model X.prog X.w) X.A (evalPart e X.env) (fun u s' => ∃ o H', Inv X pins σ H' s' /\ IsPart u o /\ Q o H') X.xe s
noncomputable def g3w : TO := fun _ H Q => Q none H
noncomputable def h6p (t : TE) : TO := fun σ H Q => t σ H fun x H1 => ∃ i, x = .int i /\ Q (some i) H1
theorem intsAre_of {ns : List Int} : ∀ {us : List Value}, Vals (ns.map V.int) us -> IntsAre us ns := by
 induction ns with
 | nil => intro us r; rw [List.map_nil] at r; cases r; exact .nil
 | cons n ns ih =>
  intro us r
  rw [List.map_cons] at r
  cases r with
  | cons r1 r2 =>
   obtain ⟨t, e⟩ := r1
   subst e
   exact .cons n t (ih r2)
section
variable {X : Cx} {e : Expr} {te : TE} {lo hi : Option Expr} {tl th : TO} {pos p2 : Pos}
theorem b7p : PO X none g3w := by
 intro pins s σ H Q I h
 rw [evalPart_none]
 exact wpAny_pure ⟨none, H, I, .none, h⟩
theorem h2w (h : PE X e te) : PO X (some e) (h6p te) := by
 intro pins s σ H Q I hw
 rw [evalPart_some]
 refine thn (h pins s σ H _ I hw) fun u s1 ⟨x, H1, I1, r1, q1⟩ => ?_
 obtain ⟨i, rfl, q⟩ := q1
 obtain ⟨t, rfl⟩ := r1
 exact ⟨some i, H1, I1, .int i t, q⟩
noncomputable def SlR (X : Cx) (r : V -> Option Int -> Option Int -> Hp -> VK -> Prop) : Prop :=
 ∀ (pins : List (Addr × Obj)) (s : Shared) (σ : St) (H : Hp) (x : V) (v vl vu : Value) (lo hi : Option Int) (sl : Addr) (Q : VK), Inv X pins σ H s -> RelV x v -> s.heap.IsSliceOf sl vl vu .none -> IsPart vl lo -> IsPart vu hi -> r x lo hi H Q ->
  ∃ T id, typeLookup (.type T) "__getitem__" = pure (some (.builtin id)) ∧ s.TypeIs v T ∧ wpAny (model X.prog X.w) X.A (getItem v (.ref sl)) (EP X pins σ Q) X.xe s
theorem SlR.or {r r' : V -> Option Int -> Option Int -> Hp -> VK -> Prop} (h : SlR X r) (h' : SlR X r') : SlR X (fun x lo hi H Q => r x lo hi H Q \/ r' x lo hi H Q) := by
 intro pins s σ H x v vl vu lo hi sl Q I rx hs pl pu q
 rcases q with q | q
 ·exact h pins s σ H x v vl vu lo hi sl Q I rx hs pl pu q
 ·exact h' pins s σ H x v vl vu lo hi sl Q I rx hs pl pu q
noncomputable def tSl (r : V -> Option Int -> Option Int -> Hp -> VK -> Prop) (te : TE) (tl th : TO) : TE := fun σ H Q => te σ H fun x H1 => tl σ H1 fun l H2 => th σ H2 fun u H3 => r x l u H3 Q
theorem a9v {r : V -> Option Int -> Option Int -> Hp -> VK -> Prop} (hr : SlR X r) (he : PE X e te) (hl : PO X lo tl) (hu : PO X hi th) : PE X (.Subscript e (.Slice lo hi none p2) pos) (tSl r te tl th) := by
 intro pins s σ H Q I h
 refine Subscript_ (thn (he pins s σ H _ I h) fun v s1 ⟨x, H1, I1, r1, q1⟩ => ?_)
 refine wpAny_Slice (thn (hl pins s1 σ H1 _ I1 q1) fun vl s2 ⟨l, H2, I2, pl, q2⟩ => thn (hu pins s2 σ H2 _ I2 q2) fun vu s3 ⟨u, H3, I3, pu, q3⟩ => ?_)
 rw [evalPart_none]
 refine wpAny_pure ?_
 have I4 : Inv X pins σ H3 { s3 with heap := s3.heap.push { cls := .type "slice", data := .fields #[vl, vu, .none] } } := I3.kept (t' := s3.toks) fun b ob q => Heap.get?_push_of_some _ q
 obtain ⟨T, id, hT, ht, hg⟩ := hr pins { s3 with heap := s3.heap.push { cls := .type "slice", data := .fields #[vl, vu, .none] } } σ H3 x v vl vu l u s3.heap.objs.size Q I4 r1 (Heap.IsSliceOf.new ..) pl pu q3
 show wpAny (model X.prog X.w) X.A (subscriptTail e (.Slice lo hi none p2) v (.ref s3.heap.objs.size)) (EP X pins σ Q) X.xe { s3 with heap := s3.heap.push { cls := .type "slice", data := .fields #[vl, vu, .none] } }
 exact tail_any (ops := [.ref s3.heap.objs.size, v]) ht hT hg (by with_unfolding_all rfl)
noncomputable def f3k (xs : List V) (lo hi : Option Int) : List V := (xs.drop (HT.sIx xs.length 0 lo)).take (HT.sIx xs.length xs.length hi - HT.sIx xs.length 0 lo)
theorem f6k (xs : List V) (lo hi : Option Int) : (f3k xs lo hi).length <= xs.length := by
 unfold f3k
 rw [List.length_take, List.length_drop]
 omega
noncomputable def rSlT (K : PySem.W.Frag) : V -> Option Int -> Option Int -> Hp -> VK -> Prop := fun x lo hi H Q => ∃ a xs, x = .ref a /\ SqT K H a xs /\
 ¬ (HT.sIx xs.length 0 lo = 0 /\ HT.sIx xs.length xs.length hi = xs.length) /\ ∀ p, H p = none -> Q (.ref p) (upd H p (.tup (f3k xs lo hi)))
noncomputable def rLtT (K : PySem.W.Frag) : R2 := fun x y H Q => ∃ a b ns ms, x = .ref a /\ y = .ref b /\ SqT K H a (ns.map V.int) /\ SqT K H b (ms.map V.int) /\ Q (.bl (HT.lexLt ns ms)) H
noncomputable def rCatT (K : PySem.W.Frag) : R2 := fun x y H Q => ∃ a b xs ys, x = .ref a /\ y = .ref b /\ SqT K H a xs /\ SqT K H b ys /\ xs ≠ [] /\ xs.length + ys.length <= sizeLine /\
 (ys = [] -> Q (.ref a) H) /\ (ys ≠ [] -> ∀ p, H p = none -> Q (.ref p) (upd H p (.tup (xs ++ ys))))
end
end L2
namespace L2
open PySem PySem.Spec PyProof.Rows
noncomputable def ixN (n : Nat) (i : Int) : Option Nat := if 0 <= i then (if i < n then some i.toNat else none) else if -(n : Int) <= i then some (i + n).toNat else none
noncomputable def atI {α : Type} (xs : List α) (i : Int) : Option α := (ixN xs.length i).bind fun j => xs[j]?
theorem h2x {n : Nat} {i : Int} {j : Nat} (h : ixN n i = some j) : seqIndex? i n = some j /\ j < n /\ -(n : Int) <= i /\ i < n := by
 unfold ixN at h
 by_cases h0 : 0 <= i
 ·rw [if_pos h0] at h
  by_cases h1 : i < n
  ·rw [if_pos h1] at h
   have e : i.toNat = j := Option.some.inj h
   exact ⟨by rw [seqIndex_of h0 h1, e], by omega, by omega, h1⟩
  ·rw [if_neg h1] at h; cases h
 ·rw [if_neg h0] at h
  by_cases h1 : -(n : Int) <= i
  ·rw [if_pos h1] at h
   have e : (i + n).toNat = j := Option.some.inj h
   exact ⟨by rw [seqIndex_neg (by omega) h1, e], by omega, h1, by omega⟩
  ·rw [if_neg h1] at h; cases h
theorem f6l {α : Type} {xs : List α} {i : Int} {v : α} (h : atI xs i = some v) : ∃ j, seqIndex? i xs.length = some j /\ xs[j]? = some v /\ j < xs.length /\ -(xs.length : Int) <= i /\ i < xs.length := by
 unfold atI at h
 cases e : ixN xs.length i with
 | none => rw [e] at h; cases h
 | some j =>
  rw [e] at h
  obtain ⟨h1, h2, h3, h4⟩ := h2x e
  exact ⟨j, h1, h, h2, h3, h4⟩
theorem c9w {α : Type} {xs : List α} {j : Nat} {v : α} (h : xs[j]? = some v) : atI xs (j : Int) = some v := by
 have hj : j < xs.length := (List.getElem?_eq_some_iff.mp h).1
 have e : ixN xs.length (j : Int) = some j := by
  unfold ixN
  rw [if_pos (by omega), if_pos (by omega)]; simp
 unfold atI; rw [e]; exact h
noncomputable def h2y (b : Expr) : Prop := ∀ o i, subscripted b false o i = operate [o, i] (getItem o i)
noncomputable def IxR (X : Cx) (r : R2) : Prop :=
 ∀ (value slice : Expr) (pins : List (Addr × Obj)) (s : Shared) (σ : St) (H : Hp) (x y : V) (v u : Value) (Q : VK), Inv X pins σ H s -> RelV x v -> RelV y u -> r x y H Q ->
  subscripted slice false v u = operate [v, u] (getItem v u) -> wpAny (model X.prog X.w) X.A (subscriptTail value slice v u) (EP X pins σ Q) X.xe s
noncomputable def MtR (X : Cx) (id : String) (r : V -> List V -> Hp -> VK -> Prop) : Prop :=
 ∀ (pins : List (Addr × Obj)) (s : Shared) (σ : St) (H : Hp) (x : V) (xs : List V) (v : Value) (us : List Value) (Q : VK), Inv X pins σ H s -> RelV x v -> Vals xs us -> r x xs H Q ->
  wpAny (model X.prog X.w) X.A (call (.builtin id) (v :: us)) (EP X pins σ Q) X.xe s
section
variable {X : Cx} {a b : Expr} {ta tb : TE} {pos : Pos}
theorem IxR.or {r r' : R2} (h : IxR X r) (h' : IxR X r') : IxR X (fun x y H Q => r x y H Q \/ r' x y H Q) := by
 intro value slice pins s σ H x y v u Q I rx ry q hs
 rcases q with q | q
 ·exact h value slice pins s σ H x y v u Q I rx ry q hs
 ·exact h' value slice pins s σ H x y v u Q I rx ry q hs
theorem MtR.or {id : String} {r r' : V -> List V -> Hp -> VK -> Prop} (h : MtR X id r) (h' : MtR X id r') : MtR X id (fun x xs H Q => r x xs H Q \/ r' x xs H Q) := by
 intro pins s σ H x xs v us Q I rx rs q
 rcases q with q | q
 ·exact h pins s σ H x xs v us Q I rx rs q
 ·exact h' pins s σ H x xs v us Q I rx rs q
theorem a1s {r : R2} (hr : IxR X r) (ha : PE X a ta) (hb : PE X b tb) (hs : h2y b) : PE X (.Subscript a b pos) (tOp r ta tb) := by
 intro pins s σ H Q I h
 exact Subscript_ (i1l ha hb I h fun v u s2 x y H2 I2 rx ry q => hr a b pins s2 σ H2 x y v u Q I2 rx ry q (hs _ _))
noncomputable def i3s (K : PySem.W.Frag) : R2 := fun x y H Q => ∃ p xs i v, x = .ref p /\ y = .int i /\ SqL K H p xs /\ atI xs i = some v /\ Q v H
noncomputable def i3t (K : PySem.W.Frag) : R2 := fun x y H Q => ∃ p xs i v, x = .ref p /\ y = .int i /\ SqT K H p xs /\ atI xs i = some v /\ Q v H
noncomputable def i3u : R2 := fun x y H Q => ∃ z i c, x = .str z /\ y = .int i /\ z.length <= sizeLine /\ atI z.cps.toList i = some c /\ Q (.str ⟨#[c]⟩) H
theorem g3x : IxR X (i3s X.K) := by
 intro value slice pins s σ H x y v u Q I rx ry h hs
 obtain ⟨p, xs, i, z, rfl, rfl, hq, he, q⟩ := h
 cases rx
 obtain ⟨t, rfl⟩ := ry
 obtain ⟨its, r, pl, hz⟩ := I.list hq
 obtain ⟨j, h1, h2, h3, h4, h5⟩ := f6l he
 obtain ⟨w, ew, rw'⟩ := r.get h2
 have hl := r.length
 have hn := f2w
 have fin : EP X pins σ Q w s := ⟨z, H, I, rw', q⟩
 by_cases h0 : 0 <= i
 ·have hj : i.toNat = j := by
   rw [seqIndex_of h0 h5] at h1
   exact Option.some.inj h1
  exact item_listR pl.isList h0 (by omega) (by rw [hj]; simpa using ew) fin hs
 ·have hj : (i + (its.toArray.size : Int)).toNat = j := by
   rw [seqIndex_neg (by omega) h4] at h1
   rw [List.size_toArray, <- hl]
   exact Option.some.inj h1
  exact subscriptTail_builtinR (x := w) pl.isList.typeIs slot_list_getitem.lookup
   (wpAny_getItem_list_neg (Q := fun r s' => r = w /\ EP X pins σ Q r s') pl.isList (by omega) (by rw [List.size_toArray] <;> omega) (by omega) (by rw [hj]; simpa using ew) ⟨rfl, fin⟩) hs
theorem h6q : IxR X (i3t X.K) := by
 intro value slice pins s σ H x y v u Q I rx ry h hs
 obtain ⟨p, xs, i, z, rfl, rfl, hq, he, q⟩ := h
 cases rx
 obtain ⟨t, rfl⟩ := ry
 obtain ⟨its, r, pl, hz⟩ := I.tuple hq
 obtain ⟨j, h1, h2, h3, h4, h5⟩ := f6l he
 obtain ⟨w, ew, rw'⟩ := r.get h2
 have hl := r.length
 have hn := f2w
 have fin : EP X pins σ Q w s := ⟨z, H, I, rw', q⟩
 exact subscriptTail_builtinR (x := w) pl.typeIs slot_tuple_getitem.lookup
  (getItem_tuple (j := j) (Q := fun r s' => r = w /\ EP X pins σ Q r s') pl (by omega) (by omega) (by rw [List.size_toArray, <- hl]; exact h1) (by simpa using ew) ⟨rfl, fin⟩) hs
theorem h6r : IxR X i3u := by
 intro value slice pins s σ H x y v u Q I rx ry h hs
 obtain ⟨z, i, c, rfl, rfl, hz, he, q⟩ := h
 obtain ⟨t, rfl⟩ := rx
 obtain ⟨t', rfl⟩ := ry
 obtain ⟨j, h1, h2, h3, h4, h5⟩ := f6l he
 have hl : z.cps.toList.length = z.length := by simp [Str.length]
 rw [hl] at h1 h4 h5
 have hn := f2w
 exact tail_any (typeIs_str s z t) slot_str_getitem.lookup (getItem_str (c := c) (by
  have e1 : decide (i < -(2 ^ 63 : Int)) = false := decide_eq_false (by omega)
  have e2 : decide (i ≥ 2 ^ 63) = false := decide_eq_false (by omega)
  rw [e1, e2, Bool.or_false]) (by rw [h1]; simpa using h2) ⟨.str ⟨#[c]⟩, H, I.tok _, ⟨_, rfl⟩, q⟩) hs
noncomputable def rIx (K : PySem.W.Frag) : R2 := fun x y H Q => i3s K x y H Q \/ i3t K x y H Q \/ i3u x y H Q
theorem Inv.lst {pins : List (Addr × Obj)} {σ : St} {H : Hp} {s : Shared} {p : Addr} {xs : List V} (I : Inv X pins σ H s) (h : H p = some (.lst xs)) :
  ∃ (its : List Value) (n : Nat), Vals xs its ∧ s.heap.get? p = some { cls := .type "list", data := .seq its.toArray n } ∧ xs.length ≤ sizeLine := by
 obtain ⟨z, its, n, r, e⟩ := I.hok p _ h
 exact ⟨its, n, r, e, z⟩
noncomputable def rSetL : V -> V -> V -> Hp -> (Hp -> Prop) -> Prop := fun o i v H Q => ∃ p xs k j, o = .ref p /\ i = .int k /\ H p = some (.lst xs) /\ ixN xs.length k = some j /\ Q (upd H p (.lst (xs.set j v)))
theorem f3l (lo hi : Option Int) (n : Nat) : (sliceBounds lo hi none n).1 = ((HT.sIx n 0 lo : Nat) : Int) /\ (sliceBounds lo hi none n).2.1 = ((HT.sIx n n hi : Nat) : Int) /\ (sliceBounds lo hi none n).2.2 = 1 := by
 refine ⟨?_, ?_, rfl⟩
 ·cases lo with
  | none => simp [sliceBounds, HT.sIx]
  | some i =>
   simp only [sliceBounds, HT.sIx, Option.getD_none, show (1 : Int) > 0 by decide, if_true]
   by_cases h : i < 0
   ·simp only [h, if_true] <;> omega
   ·simp only [h, if_false] <;> omega
 ·cases hi with
  | none => simp [sliceBounds, HT.sIx]
  | some i =>
   simp only [sliceBounds, HT.sIx, Option.getD_none, show (1 : Int) > 0 by decide, if_true]
   by_cases h : i < 0
   ·simp only [h, if_true] <;> omega
   ·simp only [h, if_false] <;> omega
theorem f0h (its : List Value) (lo hi : Option Int) : slicePick its.toArray lo hi none = ((its.drop (HT.sIx its.length 0 lo)).take (HT.sIx its.length its.length hi - HT.sIx its.length 0 lo)).toArray := by
 obtain ⟨h1, h2, h3⟩ := f3l lo hi its.toArray.size
 unfold slicePick
 rw [h1, h2, h3]
 simp only [sliceRange_one, pick_run, List.size_toArray] <;> rfl
noncomputable def rSlL (K : PySem.W.Frag) : V -> Option Int -> Option Int -> Hp -> VK -> Prop := fun x lo hi H Q => ∃ a xs, x = .ref a /\ SqL K H a xs /\ ∀ p, H p = none -> Q (.ref p) (upd H p (.lst (f3k xs lo hi)))
theorem g3y : SlR X (rSlL X.K) := by
 intro pins s σ H x v vl vu lo hi sl Q I rx hs pl pu h
 obtain ⟨a, xs, rfl, hx, q⟩ := h
 cases rx
 obtain ⟨its, r, ht, hz⟩ := I.list hx
 have hlen := r.length
 refine ⟨"list", _, slot_list_getitem.lookup, ht.isList.typeIs, ?_⟩
 refine wpAny_getItem_list_slice ht.isList hs pl pu .none (by simp) ?_ (by rw [List.size_toArray] <;> omega)
 rw [f0h, <- hlen]
 refine ⟨.ref s.heap.objs.size, _, I.laid (t' := s.toks) (o := .lst (f3k xs lo hi)) (fun b ob q => Heap.get?_push_of_some _ q) (Nat.le_refl _) ?_, rfl, q _ (I.hok.fresh (Nat.le_refl _))⟩
 exact ⟨Nat.le_trans (f6k xs lo hi) hz, _, 0, (r.drop (HT.sIx xs.length 0 lo)).take (HT.sIx xs.length xs.length hi - HT.sIx xs.length 0 lo), Heap.get?_push_size _ rfl⟩
noncomputable def b7q : V -> Bool
 | .non => true
 | .bl _ => true
 | .int _ => true
 | .str _ => true
 | _ => false
noncomputable def eqV : V -> V -> Bool
 | .non, .non => true
 | .bl a, .bl b => a == b
 | .bl a, .int b => (if a then 1 else 0) == b
 | .int a, .bl b => a == (if b then 1 else 0)
 | .int a, .int b => a == b
 | .str a, .str b => a == b
 | _, _ => false
theorem h6s {A : Around} {s : Shared} {y x : V} {u v : Value} (ry : RelV y u) (rx : RelV x v) (fy : b7q y = true) (fx : b7q x = true) : SeqAt.EqAt A s u v (eqV y x) := by
 cases y with
 | non =>
  cases ry
  cases x with
  | non => cases rx; exact SeqAt.EqAt.same _
  | bl b => cases rx; exact SeqAt.EqAt.none_bool b
  | int b => obtain ⟨t, rfl⟩ := rx; exact SeqAt.EqAt.none_int b t
  | str b => obtain ⟨t, rfl⟩ := rx; exact SeqAt.EqAt.none_str b t
  | _ => exact absurd (show false = true from fx) Bool.false_ne_true
 | bl a =>
  cases ry
  cases x with
  | non => cases rx; exact SeqAt.EqAt.bool_none a
  | bl b => cases rx; exact SeqAt.EqAt.bool_bool a b
  | int b => obtain ⟨t, rfl⟩ := rx; exact SeqAt.EqAt.bool_int a b t
  | str b => obtain ⟨t, rfl⟩ := rx; exact SeqAt.EqAt.bool_str a b t
  | _ => exact absurd (show false = true from fx) Bool.false_ne_true
 | int a =>
  obtain ⟨t', rfl⟩ := ry
  cases x with
  | non => cases rx; exact SeqAt.EqAt.int_none a t'
  | bl b => cases rx; exact SeqAt.EqAt.int_bool a t' b
  | int b => obtain ⟨t, rfl⟩ := rx; exact SeqAt.EqAt.int_int a t' b t
  | str b => obtain ⟨t, rfl⟩ := rx; exact SeqAt.EqAt.int_str a t' b t
  | _ => exact absurd (show false = true from fx) Bool.false_ne_true
 | str a =>
  obtain ⟨t', rfl⟩ := ry
  cases x with
  | non => cases rx; exact SeqAt.EqAt.str_none a t'
  | bl b => cases rx; exact SeqAt.EqAt.str_bool a t' b
  | int b => obtain ⟨t, rfl⟩ := rx; exact SeqAt.EqAt.str_int a t' b t
  | str b => obtain ⟨t, rfl⟩ := rx; exact SeqAt.EqAt.str_str a t' b t
  | _ => exact absurd (show false = true from fx) Bool.false_ne_true
 | _ => exact absurd (show false = true from fy) Bool.false_ne_true
noncomputable def eqU (x : V) (u : Value) : Bool := match u with
 | .none => eqV .non x
 | .bool b => eqV (.bl b) x
 | .int i _ => eqV (.int i) x
 | .str z _ => eqV (.str z) x
 | _ => false
theorem h0i {x y : V} {u : Value} (r : RelV y u) (f : b7q y = true) : eqU x u = eqV y x := by
 cases y with
 | non => cases r; rfl
 | bl b => cases r; rfl
 | int i => obtain ⟨t, rfl⟩ := r; rfl
 | str z => obtain ⟨t, rfl⟩ := r; rfl
 | _ => exact absurd (show false = true from f) Bool.false_ne_true
theorem d3m {x : V} : ∀ {xs : List V} {us : List Value}, Vals xs us -> xs.all b7q = true -> us.any (eqU x) = xs.any fun y => eqV y x
 | _, _, .nil, _ => rfl
 | y :: xs, u :: us, .cons r t, f => by
  rw [List.all_cons, Bool.and_eq_true] at f
  rw [List.any_cons, List.any_cons, h0i r f.1, d3m t f.2]
theorem c8r {A : Around} {s : Shared} {x : V} {v : Value} (rx : RelV x v) (fx : b7q x = true) : ∀ {xs : List V} {us : List Value}, Vals xs us -> xs.all b7q = true -> ∀ u ∈ us, SeqAt.EqAt A s u v (eqU x u)
 | _, _, .nil, _ => fun u hu => by cases hu
 | y :: xs, u :: us, .cons r t, f => fun u' hu => by
  rw [List.all_cons, Bool.and_eq_true] at f
  rcases List.mem_cons.mp hu with rfl | hu
  ·rw [h0i r f.1]; exact h6s r rx f.1 fx
  ·exact c8r rx fx t f.2 u' hu
noncomputable def inV (x : V) (xs : List V) : Bool := xs.any fun y => eqV y x
noncomputable def rIn (K : PySem.W.Frag) (neg : Bool) : R2 := fun x y H Q => ∃ p xs, y = .ref p /\ (SqL K H p xs \/ SqT K H p xs) /\ b7q x = true /\ xs.all b7q = true /\ Q (.bl (if neg then !inV x xs else inV x xs)) H
theorem f3m : OpR X (compareOp .In) (rIn X.K false) := by
 intro pins s σ H x y v u Q I rx ry h
 obtain ⟨p, xs, rfl, hq, fx, fs, q⟩ := h
 cases ry
 rcases hq with hq | hq
 ·obtain ⟨its, r, pl, hz⟩ := I.list hq
  refine SeqAt.in_listAt (eqU x) pl.isList (fun w hw => c8r rx fx r fs w (by simpa using hw)) ⟨.bl _, H, I, rfl, ?_⟩
  rw [show its.toArray.any (eqU x) = its.any (eqU x) by simp, d3m r fs]
  exact q
 ·obtain ⟨its, r, pl, hz⟩ := I.tuple hq
  refine SeqAt.in_tupleAt (eqU x) pl (fun w hw => c8r rx fx r fs w (by simpa using hw)) ⟨.bl _, H, I, rfl, ?_⟩
  rw [show its.toArray.any (eqU x) = its.any (eqU x) by simp, d3m r fs]
  exact q
theorem d1z : OpR X (compareOp .NotIn) (rIn X.K true) := by
 intro pins s σ H x y v u Q I rx ry h
 obtain ⟨p, xs, rfl, hq, fx, fs, q⟩ := h
 cases ry
 rcases hq with hq | hq
 ·obtain ⟨its, r, pl, hz⟩ := I.list hq
  refine SeqAt.notIn_listAt (eqU x) pl.isList (fun w hw => c8r rx fx r fs w (by simpa using hw)) ⟨.bl _, H, I, rfl, ?_⟩
  rw [show its.toArray.any (eqU x) = its.any (eqU x) by simp, d3m r fs]
  exact q
 ·obtain ⟨its, r, pl, hz⟩ := I.tuple hq
  refine SeqAt.notIn_tupleAt (eqU x) pl (fun w hw => c8r rx fx r fs w (by simpa using hw)) ⟨.bl _, H, I, rfl, ?_⟩
  rw [show its.toArray.any (eqU x) = its.any (eqU x) by simp, d3m r fs]
  exact q
theorem f3n : OpR X (compareOp .NotIn) (fun x y H Q => ∃ i j, x = .str i /\ y = .str j /\ Q (.bl (!(!(Builtin.Str.occurrences j i 0 j.length 1).isEmpty))) H) := by
 intro pins s σ H x y v u Q I rx ry h
 obtain ⟨i, j, rfl, rfl, q⟩ := h
 obtain ⟨t, rfl⟩ := rx
 obtain ⟨t', rfl⟩ := ry
 exact notIn_str ⟨.bl _, H, I, rfl, q⟩
theorem c3k : a8i X (.builtin "len") (fun xs H Q => ∃ p ys, xs = [.ref p] ∧ (SqL X.K H p ys ∨ SqT X.K H p ys) ∧ Q (.int ys.length) H) := by
 intro pins s σ H xs us Q I r h
 obtain ⟨p, ys, rfl, hq, q⟩ := h
 obtain ⟨u, rfl, rx⟩ := vals1 r
 cases rx
 have hn := f2w
 rcases hq with hq | hq
 ·obtain ⟨its, r', pl, hz⟩ := I.list hq
  have hlen := r'.length
  exact Calls.call_len_list pl.isList (by simp only [List.size_toArray] <;> omega) ⟨.int ys.length, H, I.tok _, ⟨s.toks + 1, by rw [List.size_toArray, hlen]⟩, q⟩
 ·obtain ⟨its, r', pl, hz⟩ := I.tuple hq
  have hlen := r'.length
  exact len_tuple pl (by simp only [List.size_toArray] <;> omega) ⟨.int ys.length, H, I.tok _, ⟨s.toks + 1, by rw [List.size_toArray, hlen]⟩, q⟩
theorem f3o : a8i X (.builtin "len") (fun xs H Q => ∃ z, xs = [.str z] ∧ z.length ≤ sizeLine ∧ Q (.int z.length) H) := by
 intro pins s σ H xs us Q I r h
 obtain ⟨z, rfl, hz, q⟩ := h
 obtain ⟨u, rfl, t, rfl⟩ := vals1 r
 have hn := f2w
 exact len_str (by omega) ⟨.int z.length, H, I.tok _, ⟨_, rfl⟩, q⟩
theorem a8i.or {f : Value} {r r' : List V -> Hp -> VK -> Prop} (h : a8i X f r) (h' : a8i X f r') : a8i X f (fun xs H Q => r xs H Q \/ r' xs H Q) := by
 intro pins s σ H xs us Q I rs q
 rcases q with q | q
 ·exact h pins s σ H xs us Q I rs q
 ·exact h' pins s σ H xs us Q I rs q
theorem f3p : a8i X (.type "list") (fun xs H Q => ∃ p ys, xs = [.ref p] ∧ (SqL X.K H p ys ∨ SqT X.K H p ys) ∧ ∀ l, H l = none → Q (.ref l) (upd H l (.lst ys))) := by
 intro pins s σ H xs us Q I r h
 obtain ⟨p, ys, rfl, hq, q⟩ := h
 obtain ⟨u, rfl, rx⟩ := vals1 r
 cases rx
 have fin : ∀ (its : List Value), Vals ys its -> ys.length <= sizeLine -> ∀ (h' : Heap) (c' : Nat), (∀ b o', s.heap.get? b = some o' -> h'.get? b = some o') ->
   h'.get? s.heap.objs.size = some { cls := .type "list", dict := none, data := .seq its.toArray c', slots := #[] } → EP X pins σ Q (.ref s.heap.objs.size) { s with heap := h' } := fun its r' hz h' c' kp e =>
  ⟨.ref s.heap.objs.size, _, I.laid (t' := s.toks) kp (Nat.le_refl _) (show b4y X.prog X.w _ h' _ (.lst ys) from ⟨hz, its, c', r', e⟩), rfl, q _ (I.hok.fresh (Nat.le_refl _))⟩
 rcases hq with hq | hq
 ·obtain ⟨its, r', pl, hz⟩ := I.list hq
  have hlen := r'.length
  obtain ⟨o, ho, hc, n, hd⟩ := pl.isList
  exact call_list_seq p (.inl rfl) ho hc hd (fun h' c' kp e => fin its r' hz h' c' kp e) (by simp only [List.size_toArray] <;> omega)
 ·obtain ⟨its, r', pl, hz⟩ := I.tuple hq
  have hlen := r'.length
  obtain ⟨o, ho, hc, n, hd⟩ := pl
  exact call_list_seq p (.inr rfl) ho hc hd (fun h' c' kp e => fin its r' hz h' c' kp e) (by simp only [List.size_toArray] <;> omega)
theorem f0i : a8i X (.type "tuple") (fun xs H Q => ∃ p ys, xs = [.ref p] ∧ ((SqL X.K H p ys ∧ ∀ l, H l = none → Q (.ref l) (upd H l (.tup ys))) ∨ (SqT X.K H p ys ∧ Q (.ref p) H))) := by
 intro pins s σ H xs us Q I r h
 obtain ⟨p, ys, rfl, h⟩ := h
 obtain ⟨u, rfl, rx⟩ := vals1 r
 cases rx
 rcases h with ⟨hq, q⟩ | ⟨hq, q⟩
 ·obtain ⟨its, r', pl, hz⟩ := I.list hq
  have hlen := r'.length
  refine call_tuple_list pl.isList (fun h' kp => ?_) (by simp only [List.size_toArray] <;> omega)
  have I1 : Inv X pins σ H { s with heap := h' } := I.kept (t' := s.toks) kp
  have I2 : Inv X pins σ (upd H h'.objs.size (.tup ys)) { s with heap := h'.push { cls := .type "tuple", data := .seq its.toArray } } :=
   I1.laid (t' := s.toks) (fun b o e => Heap.get?_push_of_some _ e) (Nat.le_refl _) (show b4y X.prog X.w _ _ _ (.tup ys) from ⟨hz, its, r', IsTup.new _ _⟩)
  exact ⟨.ref h'.objs.size, _, I2, rfl, q _ (I1.hok.fresh (Nat.le_refl _))⟩
 ·obtain ⟨its, r', pl, hz⟩ := I.tuple hq
  exact call_tuple_same pl ⟨.ref p, H, I, rfl, q⟩
noncomputable def tyV (K : PySem.W.Frag) (T : String) (x : V) (H : Hp) : Prop := match x with
 | .str _ => T = "str"
 | .int _ => T = "int"
 | .ref p => (T = "list" ∧ ∃ xs, SqL K H p xs) ∨ (T = "tuple" ∧ ∃ o, K.lookup p = some o ∧ o.cls = .type "tuple" ∧ o.dict = none) ∨
   (T = "dict" ∧ ((∃ kvs, H p = some (.dK kvs)) ∨ ∃ kvs, H p = some (.dT kvs))) ∨ (T = "set" ∧ ∃ S n, H p = some (.set S n))
 | _ => False
theorem h6t {pins : List (Addr × Obj)} {σ : St} {H : Hp} {s : Shared} {T : String} {x : V} {v : Value} (I : Inv X pins σ H s) (r : RelV x v) (ty : tyV X.K T x H) :
  s.TypeIs v T /\ ∀ a, v = .ref a -> ∃ ob, s.heap.get? a = some ob /\ ob.dict = none := by
 cases x with
 | str z =>
  obtain ⟨t, rfl⟩ := r
  cases (show T = "str" from ty)
  exact ⟨typeIs_str s z t, fun _ e => nomatch e⟩
 | int i =>
  obtain ⟨t, rfl⟩ := r
  cases (show T = "int" from ty)
  exact ⟨typeIs_int s i t, fun _ e => nomatch e⟩
 | ref p =>
  cases r
  rcases ty with ⟨rfl, xs, hq⟩ | ⟨rfl, o, hk, hc, hd⟩ | ⟨rfl, hk⟩ | ⟨rfl, S, n, hk⟩
  ·obtain ⟨its, _, pl, _⟩ := I.list hq
   refine ⟨pl.isList.typeIs, fun a e => ?_⟩
   cases e
   obtain ⟨o, n, e, c, hd, _⟩ := pl
   exact ⟨o, e, hd⟩
  ·refine ⟨⟨o, I.kIn p o hk, hc⟩, fun a e => ?_⟩
   cases e
   exact ⟨o, I.kIn _ o hk, hd⟩
  ·have z : ∃ o, s.heap.get? p = some o /\ o.ExactDict := by
    rcases hk with ⟨kvs, hk⟩ | ⟨kvs, hk⟩
    ·obtain ⟨_, _, _, _, o, _, _, e, ex, _⟩ := I.hok p _ hk
     exact ⟨o, e, ex⟩
    ·obtain ⟨_, _, _, _, o, _, _, e, ex, _⟩ := I.hok p _ hk
     exact ⟨o, e, ex⟩
   obtain ⟨o, e, ex⟩ := z
   refine ⟨⟨o, e, ex.1⟩, fun a e2 => ?_⟩
   cases e2
   exact ⟨o, e, ex.2.1⟩
  ·obtain ⟨o, _, _, _, e, ex, _⟩ := I.hok p _ hk
   refine ⟨⟨o, e, ex.1⟩, fun a e2 => ?_⟩
   cases e2
   exact ⟨o, e, ex.2.1⟩
 | _ => exact False.elim ty
noncomputable def tBM0 (K : PySem.W.Frag) (T : String) (r : V -> List V -> Hp -> VK -> Prop) (to : TE) : TE := fun σ H Q => to σ H fun x H1 => tyV K T x H1 /\ r x [] H1 Q
noncomputable def tBM (K : PySem.W.Frag) (T : String) (r : V -> List V -> Hp -> VK -> Prop) (to : TE) (t : TA) : TE := fun σ H Q => to σ H fun x H1 => tyV K T x H1 /\ t σ H1 fun xs H2 => r x xs H2 Q
variable {o e : Expr} {es : List Expr} {to : TE} {t : TA} {name : Str} {apos cpos : Pos} {T id : String} {r : V -> List V -> Hp -> VK -> Prop}
/- xs.append(e), list.index on a module's tuple .. are MtR facts of 06m -/
end
end L2
namespace L2
open PySem PySem.Spec PyProof.Rows
noncomputable def MtM (X : Cx) (id : String) (r : V -> List V -> Hp -> VK -> Prop) : Prop :=
 ∀ (pins : List (Addr × Obj)) (s : Shared) (σ : St) (H : Hp) (x : V) (xs : List V) (v : Value) (us : List Value) (Q : VK), Inv X pins σ H s -> RelV x v -> Vals xs us -> r x xs H Q ->
  wpAny (model X.prog X.w) X.A (call (.builtin id) (v :: us)) (EP X pins σ Q) X.xe s
theorem Vals.one : ∀ {x : V} {us : List Value}, Vals [x] us -> ∃ u, us = [u] /\ RelV x u
 | _, _, .cons r .nil => ⟨_, rfl, r⟩
theorem Vals.two : ∀ {x y : V} {us : List Value}, Vals [x, y] us -> ∃ u v, us = [u, v] /\ RelV x u /\ RelV y v
 | _, _, _, .cons r (.cons q .nil) => ⟨_, _, rfl, r, q⟩
theorem Vals.zero : ∀ {us : List Value}, Vals [] us -> us = []
 | _, .nil => rfl
theorem Vals.dropLast {xs : List V} {us : List Value} (h : Vals xs us) : Vals xs.dropLast us.dropLast := by
 induction h with
 | nil => exact .nil
 | cons r t ih =>
  cases t with
  | nil => exact .nil
  | cons q t' => exact .cons r ih
theorem Vals.eraseIdx : ∀ {xs : List V} {us : List Value} (i : Nat), Vals xs us -> Vals (xs.eraseIdx i) (us.eraseIdx i)
 | _, _, _, .nil => .nil
 | _, _, 0, .cons _ t => t
 | _, _, i + 1, .cons r t => .cons r (Vals.eraseIdx i t)
theorem Vals.reverse {xs : List V} {us : List Value} (h : Vals xs us) : Vals xs.reverse us.reverse := by
 induction h with
 | nil => exact .nil
 | cons r t ih => rw [List.reverse_cons, List.reverse_cons]; exact Vals.append ih (.cons r .nil)
theorem Vals.rep {xs : List V} {us : List Value} (h : Vals xs us) : ∀ k : Nat, Vals (List.replicate k xs).flatten (List.replicate k us).flatten
 | 0 => .nil
 | k + 1 => by
  rw [List.replicate_succ, List.replicate_succ, List.flatten_cons, List.flatten_cons]
  exact Vals.append h (Vals.rep h k)
theorem g0x {α : Type} (l : List α) : l.eraseIdx (l.length - 1) = l.dropLast := by
 induction l with
 | nil => rfl
 | cons a r ih =>
  cases r with
  | nil => rfl
  | cons b r =>
   have e : (a :: b :: r).length - 1 = ((b :: r).length - 1) + 1 := by
    have h1 : (a :: b :: r).length = r.length + 2 := rfl
    have h2 : (b :: r).length = r.length + 1 := rfl
    omega
   rw [e, List.eraseIdx_cons_succ, ih]
   all_goals rfl
theorem f3q {α : Type} : ∀ (l : List α) (i : Nat), (l.eraseIdx i).length <= l.length
 | [], _ => Nat.le_refl _
 | _ :: _, 0 => Nat.le_succ _
 | _ :: r, i + 1 => Nat.succ_le_succ (f3q r i)
theorem foldl_rep (its : List Value) : ∀ (k : Nat) (acc : List Value),
  List.foldl (fun x1 x2 => x1 ++ x2) acc.toArray (List.replicate k its.toArray) = (acc ++ (List.replicate k its).flatten).toArray
 | 0, acc => by simp
 | k + 1, acc => by
  have e : acc.toArray ++ its.toArray = (acc ++ its).toArray := by simp
  have e2 : (acc ++ its) ++ (List.replicate k its).flatten = acc ++ (List.replicate (k + 1) its).flatten := by
   rw [List.replicate_succ, List.flatten_cons, List.append_assoc]
  rw [<- e2, <- foldl_rep its k (acc ++ its), <- e, List.replicate_succ, List.foldl_cons]
section
variable {X : Cx} {pins : List (Addr × Obj)} {σ : St} {H : Hp} {s : Shared} {l b : Addr} {xs ys zs : List V}
theorem Inv.i1v {its its' : List Value} {n : Nat} {f : Array Value -> Array Value} {t' : Nat} (I : Inv X pins σ H s) (hH : H l = some (.lst xs))
  (e : s.heap.get? l = some { cls := .type "list", data := .seq its.toArray n }) (hf : f its.toArray = its'.toArray) (hv : Vals ys its') (hz : ys.length ≤ sizeLine) :
  Inv X pins σ (upd H l (.lst ys)) { s with heap := s.heap.update l (Obj.mapSeq f), toks := t' } := by
 have q := PySem.IsL.update e f
 rw [hf] at q
 refine I.write (x := l) (e := l) (by rw [hH]; exact trivial) (.inl rfl) (fun b' u hb hu => (Heap.get?_update_other s.heap (Obj.mapSeq f) (Ne.symm hb)).trans hu) ⟨_, q⟩ ?_
 exact ⟨hz, its', _, hv, q⟩
theorem Inv.i3v {its : List Value} {t' : Nat} (I : Inv X pins σ H s) (hv : Vals ys its) (hz : ys.length <= sizeLine) :
  Inv X pins σ (upd H s.heap.objs.size (.lst ys)) { s with heap := s.heap.push { cls := .type "list", data := .seq its.toArray }, toks := t' } :=
 I.laid (fun _ _ q => Heap.get?_push_of_some _ q) (Nat.le_refl _) ⟨hz, its, 0, hv, Heap.get?_push_size _ rfl⟩
theorem Inv.fresh (I : Inv X pins σ H s) : H s.heap.objs.size = none := I.hok.fresh (Nat.le_refl _)
theorem Inv.h2z (I : Inv X pins σ H s) (hH : H l = some (.lst xs)) : xs.length ≤ sizeLine ∧ ∃ (its : List Value) (n : Nat), Vals xs its ∧ xs.length = its.length ∧ s.heap.get? l = some { cls := .type "list", data := .seq its.toArray n } := by
 obtain ⟨z, its, n, r, e⟩ := I.hok l _ hH
 exact ⟨z, its, n, r, r.length, e⟩
theorem g7y {n : Nat} (h : n <= sizeLine) : Builtin.List.listTooLong n = false := by
 unfold Builtin.List.listTooLong
 exact decide_eq_false (by omega)
end
section
variable {X : Cx}
noncomputable def g3z : V -> List V -> Hp -> VK -> Prop := fun x vs H Q => ∃ l xs y, x = .ref l /\ vs = [y] /\ H l = some (.lst xs) /\ xs.length < sizeLine /\ Q .non (upd H l (.lst (xs ++ [y])))
theorem f3r : MtM X "list.append" g3z := by
 intro pins s σ H x vs v us Q I rx rv h
 obtain ⟨l, xs, y, rfl, rfl, hH, hz, q⟩ := h
 cases rx
 obtain ⟨u, rfl, ru⟩ := rv.one
 obtain ⟨z, its, n, r, hl, e⟩ := I.h2z hH
 refine call_meets F.slot_list_append ⟨_, e, rfl⟩ F.entry_list_append (F.args_list_append_2 _ _) (PySem.list_append l its.toArray n u (by rw [List.size_toArray]; omega)) ⟨e, ?_⟩
 refine ⟨.non, _, I.i1v (its' := its ++ [u]) hH e (by simp) (r.append (.cons ru .nil)) ?_, rfl, q⟩
 rw [List.length_append, List.length_singleton]
 omega
noncomputable def i1w : V -> List V -> Hp -> VK -> Prop := fun x vs H Q => ∃ l b xs zs, x = .ref l /\ vs = [.ref b] /\ H l = some (.lst xs) /\ H b = some (.lst zs) /\ xs.length + zs.length <= sizeLine /\ Q .non (upd H l (.lst (xs ++ zs)))
noncomputable def rPop : V -> List V -> Hp -> VK -> Prop := fun x vs H Q => ∃ l xs y, x = .ref l /\ vs = [] /\ H l = some (.lst xs) /\ xs[xs.length - 1]? = some y /\ Q y (upd H l (.lst xs.dropLast))
theorem h6u : MtM X "list.pop" rPop := by
 intro pins s σ H x vs v us Q I rx rv h
 obtain ⟨l, xs, y, rfl, rfl, hH, hy, q⟩ := h
 cases rx
 have hus := rv.zero
 subst hus
 obtain ⟨z, its, n, r, hl, e⟩ := I.h2z hH
 obtain ⟨u, hu, ru⟩ := r.get hy
 have hy' : its.toArray[its.toArray.size - 1]? = some u := by
  show its.toArray[its.length - 1]? = some u
  rw [<- Array.getElem?_toList, <- hl]
  exact hu
 refine call_meets F.slot_list_pop ⟨_, e, rfl⟩ F.entry_list_pop (F.args_list_pop_1 _) (MeetsSeq.list_pop_last l its.toArray n u hy' (by rw [List.size_toArray]; omega)) ⟨e, ?_⟩
 refine ⟨y, _, I.i1v (its' := its.dropLast) hH e ?_ r.dropLast ?_, ru, q⟩
 ·show its.toArray.eraseIdxIfInBounds (its.toArray.size - 1) = its.dropLast.toArray
  rw [List.size_toArray, List.eraseIdxIfInBounds_toArray, g0x]
 ·rw [List.length_dropLast]
  omega
noncomputable def h6v : V -> List V -> Hp -> VK -> Prop := fun x vs H Q => ∃ l xs i k y, x = .ref l /\ vs = [.int i] /\ H l = some (.lst xs) /\ -(2 ^ 63) <= i /\ i < 2 ^ 63 /\ seqIndex? i xs.length = some k /\ xs[k]? = some y /\ Q y (upd H l (.lst (xs.eraseIdx k)))
theorem g7z : MtM X "list.pop" h6v := by
 intro pins s σ H x vs v us Q I rx rv h
 obtain ⟨l, xs, i, k, y, rfl, rfl, hH, h1, h2, hk, hy, q⟩ := h
 cases rx
 obtain ⟨u, rfl, ru⟩ := rv.one
 obtain ⟨t, rfl⟩ := ru
 obtain ⟨z, its, n, r, hl, e⟩ := I.h2z hH
 obtain ⟨w, hw, rw'⟩ := r.get hy
 refine call_meets F.slot_list_pop ⟨_, e, rfl⟩ F.entry_list_pop (F.args_list_pop_2 _ _)
  (MeetsSeq.list_pop_at l its.toArray n i t k w (fitsIndex_both h1 h2) (by rw [List.size_toArray, <- hl]; exact hk) (by rw [<- Array.getElem?_toList]; exact hw) (by rw [List.size_toArray]; omega)) ⟨e, ?_⟩
 refine ⟨y, _, I.i1v (its' := its.eraseIdx k) hH e ?_ (r.eraseIdx k) ?_, rw', q⟩
 ·show its.toArray.eraseIdxIfInBounds k = (its.eraseIdx k).toArray
  rw [List.eraseIdxIfInBounds_toArray]
 ·have := f3q xs k
  omega
noncomputable def i0y : V -> List V -> Hp -> VK -> Prop := fun x vs H Q => ∃ l xs, x = .ref l /\ vs = [] /\ H l = some (.lst xs) /\ Q .non (upd H l (.lst xs.reverse))
noncomputable def i3w : V -> List V -> Hp -> VK -> Prop := fun x vs H Q => ∃ l xs, x = .ref l /\ vs = [] /\ H l = some (.lst xs) /\ Q .non (upd H l (.lst []))
noncomputable def rCat : R2 := fun x y H Q => ∃ l b xs zs, x = .ref l /\ y = .ref b /\ H l = some (.lst xs) /\ H b = some (.lst zs) /\ xs.length + zs.length <= sizeLine /\ ∀ p, H p = none -> Q (.ref p) (upd H p (.lst (xs ++ zs)))
theorem h6w : OpR X (binaryOp .Add) rCat := by
 intro pins s σ H x y v u Q I rx ry h
 obtain ⟨l, b, xs, zs, rfl, rfl, hH, hB, hz, q⟩ := h
 cases rx
 cases ry
 obtain ⟨z, its, n, r, hl, e⟩ := I.h2z hH
 obtain ⟨z2, its2, n2, r2, hl2, e2⟩ := I.h2z hB
 refine PySem.P.add_list e e2 ?_ (by rw [List.size_toArray, List.size_toArray]; omega)
 have ea : its.toArray ++ its2.toArray = (its ++ its2).toArray := by simp
 rw [ea]
 exact ⟨.ref _, _, I.i3v (t' := s.toks) (r.append r2) (by rw [List.length_append]; omega), rfl, q _ I.fresh⟩
noncomputable def rRep : R2 := fun x y H Q => ∃ l k xs, x = .ref l /\ y = .int k /\ H l = some (.lst xs) /\ -(2 ^ 63) <= k /\ k < 2 ^ 63 /\ xs.length * k.toNat <= sizeLine /\
 ∀ p, H p = none -> Q (.ref p) (upd H p (.lst (List.replicate k.toNat xs).flatten))
theorem len_rep {α : Type} (xs : List α) (k : Nat) : (List.replicate k xs).flatten.length = k * xs.length := by
 induction k with
 | zero => simp
 | succ k ih => rw [List.replicate_succ, List.flatten_cons, List.length_append, ih, Nat.succ_mul, Nat.add_comm]
theorem h6x : OpR X (binaryOp .Mult) rRep := by
 intro pins s σ H x y v u Q I rx ry h
 obtain ⟨l, k, xs, rfl, rfl, hH, h1, h2, hz, q⟩ := h
 cases rx
 obtain ⟨t, rfl⟩ := ry
 obtain ⟨z, its, n, r, hl, e⟩ := I.h2z hH
 have hlen : its.toArray.size * k.toNat <= sizeLine := by rw [List.size_toArray, <- hl]; exact hz
 have hcap : ¬ its.toArray.size * k.toNat > (2 ^ 63 - 1) / 8 := by
  have : (sizeLine : Nat) <= (2 ^ 63 - 1) / 8 := by decide
  omega
 have hfit : ¬ (!Builtin.List.listFitsIndex k) = true := by
  rw [fitsIndex_both h1 h2]
  exact Bool.false_ne_true
 have i1x : ¬ Builtin.List.listTooLong (its.toArray.size * k.toNat) = true := by
  rw [g7y hlen]
  exact Bool.false_ne_true
 have hnew : List.foldl (fun x1 x2 => x1 ++ x2) #[] (List.replicate (if its.toArray.isEmpty = true then 0 else k.toNat) its.toArray) = (List.replicate k.toNat its).flatten.toArray := by
  have f0 : ∀ m : Nat, List.foldl (fun x1 x2 => x1 ++ x2) #[] (List.replicate m its.toArray) = (List.replicate m its).flatten.toArray := fun m => by
   have := foldl_rep its m []
   rw [List.nil_append] at this
   exact this
  rw [f0]
  cases its with
  | nil => simp
  | cons a r' => rw [if_neg (by simp)]
 refine wpAny_binaryOp_repeat_ref (T := "list") (U := "int") (by decide) ⟨_, e, rfl⟩ (fun s' => typeIs_int s' k t) noFill_list_mul F.fills_int_mul F.slot_int_rmul repeat_list F.slot_int_index.lookup
  (call_meets F.slot_int_rmul (typeIs_int s k t) F.entry_int_rmul (F.args_int_rmul_2 _ _) (int___rmul___int_list k t l its.toArray n)
   ⟨e, rfl, ⟨_, e, rfl⟩, call_meets F.slot_list_mul ⟨_, e, rfl⟩ F.entry_list_mul (F.args_list_mul_2 _ _) (AutoListH.list___mul___list_int_3 l its.toArray n k t hfit hcap i1x) ⟨e, ?_⟩⟩)
 rw [hnew]
 exact ⟨.ref _, _, I.i3v (t' := s.toks) (r.rep k.toNat) (by rw [len_rep, Nat.mul_comm]; exact hz), rfl, q _ I.fresh⟩
end
section
variable {prog : Program} {w : World} {A : Around} {E : Value -> Shared -> Prop} {s : Shared}
end
section
variable {X : Cx}
end
end L2
namespace Att
open PySem PySem.W PySem.Calls PyProof.Rows
theorem d3n {P : Params} {h : Heap} : ∀ (ns : List Int) (vs : List Value), WellAll P h vs (ns.map WData.int) -> IntsAre vs ns := by
 intro ns
 induction ns with
 | nil =>
  intro vs w
  rw [List.map_nil] at w
  cases w
  exact .nil
 | cons n ns ih =>
  intro vs w
  rw [List.map_cons] at w
  cases w with
  | cons a b =>
   cases a
   exact .cons _ _ (ih _ b)
theorem g4a {l : OpenLaw} {n : Nat} (hn : l.most = some n) {P : Params} {h : Heap} {args : List WData} {vals : List Value}
  (hpre : l.row.toRowW.claim.pre args = true) (hwl : WellAll P h vals args) :
  ∃ a vs ns, vals = [Value.ref a] ∧ args = [WData.list (ns.map WData.int)] ∧ h.get? a = some { cls := .type "list", data := .seq vs.toArray } ∧ IntsAre vs ns ∧ ns.length ≤ n := by
 have hsh : WShape.hasAll [] args [.list .int] = true := (pre_splitW hpre).1
 have hc : l.pre.holds [] { args := args } = true := (pre_splitW hpre).2
 obtain ⟨d, r, rfl, h1, h2⟩ := hasAllW_cons hsh
 obtain rfl := hasAllW_nil h2
 obtain ⟨xs, rfl, h3⟩ := hasW_list h1
 obtain ⟨ns, rfl⟩ := items_int h3
 have hlen : ns.length <= n := by
  unfold OpenLaw.pre at hc
  have h4 : (WTm.not (.lt (.lit (.int (n : Int))) (.len (.arg 0)))).holds [] { args := [.list (ns.map .int)] } = true := by
   have h4 := (holds_andW hc).1
   rw [hn] at h4
   exact h4
  have h5 := condW_of h4 (w_not (w_lt w_lit (w_len_list (w_arg rfl))))
  rw [List.length_map] at h5
  refine Nat.le_of_not_lt fun q => ?_
  have q' : (n : Int) < ((ns.length : Nat) : Int) := by omega
  first
   | (rw [decide_eq_true q'] at h5; exact absurd h5 (by decide))
   | (simp at h5; omega)
 cases hwl with
 | cons w1 w2 =>
  cases w2
  cases w1 with
  | list ho hall => exact ⟨_, _, ns, rfl, rfl, ho, d3n ns _ hall, hlen⟩
theorem g4b (l : OpenLaw) (args : List WData) : l.row.toRowW.claim.post args (.bool true) args = true :=
 postW_of (r := l.row.toRowW) (X := (true == true))
  (show WShape.has [] (.bool true) .bool = true by first | rfl | decide | simp [WShape.has, WShape.arms, WShape.armsAll])
  (show (WTm.eq .res (.lit (.bool true))).value [] { args := args, res := some (.bool true), after := args } = some (.bool (true == true)) from w_eq_bool (w_res rfl) w_lit) rfl
section
variable {prog : Program} {w : World} {A : Around} {E : Value -> Shared -> Prop} {s : Shared} {K : Frag}
noncomputable def i3x (h : Heap) : Heap := { h with objs := #[] }
noncomputable def ledger (h : Heap) (L d : Addr) : List (Addr × Obj) := (List.range h.objs.size).filterMap fun a => if a = L \/ a = d then none else (h.get? a).map fun o => (a, o)
end
end Att
namespace L2
open PySem PySem.Spec PyProof.Rows
theorem f3s : ∀ {vs : List Value} {ns : List Int}, IntsAre vs ns -> Vals (ns.map V.int) vs
 | _, _, .nil => .nil
 | _, _, .cons n t h => .cons ⟨t, rfl⟩ (f3s h)
noncomputable def Only (H : Hp) : Prop := ∀ b, H b = none \/ ∃ o xs, H b = some (.frz o (.lst xs))
theorem g8a {P : Program} {w : World} {K : PySem.W.Frag} {mg mb : Str -> Option Value} {CX : CXT} {k : Nat} {fa a : Addr} {fd : FuncData} {x : Str} {sp : Sp} {s₁ : Shared} {vs : List Value} {ns : List Int}
  (KX : K.In s₁.heap) (hns : s₁.heap.Ns mainGlobals mg) (hb : s₁.heap.Ns builtinsNs mb) (hbb : ∀ x : Str, x ≠ "__name__" → mb x = bootBuiltins x) (hlim : s₁.heap.NoLimit) (hg : s₁.gens = #[])
  (ha : s₁.heap.get? a = some { cls := .type "list", data := .seq vs.toArray }) (hi : IntsAre vs ns) (hl : ns.length ≤ sizeLine) (hr : a2q k callerA)
  (F : ∀ base : Heap, K.In base -> base.Ns mainGlobals mg -> a1p P w K mg base CX k fa fd [x] sp) (hbind : ∀ (s : Shared) (u : Value), BindsTo s fd ⟨[u], []⟩ [(x, u)])
  (hsp : ∀ H : Hp, Only H -> SqL K H a (ns.map V.int) -> sp [.ref a] H (fun v _ => v = .bl true) fun _ _ _ => False)
  (hCX : ∀ H e s', CX [] H s₁ (fun _ _ _ => False) e s' -> False) :
  codeAny (model P w) callerA (.call (.ref fa) ⟨[.ref a], []⟩) (fun r s' => r = .ok (.ret (.bool true)) /\ OldK s₁.heap s'.heap /\ s'.os = s₁.os /\ AllBare s'.gens) s₁ := by
 have rv := f3s hi
 have lenV := hi.length
 -- from an abstract heap in which nothing but the script may be tracked
 have core : ∀ H : Hp, Only H -> SqL K H a (ns.map V.int) -> HOk P w H s₁.heap -> (∀ b, H b ≠ none -> b = a) -> (H a ≠ none -> K.lookup a = none) ->
   codeAny (model P w) callerA (.call (.ref fa) ⟨[.ref a], []⟩) (fun r s' => r = .ok (.ret (.bool true)) /\ OldK s₁.heap s'.heap /\ s'.os = s₁.os /\ AllBare s'.gens) s₁ := by
  intro H hO hS hok hA hK
  have g4c : ∀ {b : Addr} {o : Obj}, s₁.heap.get? b = some o -> H b = none -> (g7o s₁.heap H).get? b = some o := fun e n => g7p e n
  have noA : ∀ {b : Addr} {o : Obj} {es : Array DictEntry} {ep : Nat}, s₁.heap.get? b = some o -> o.data = .dict es ep -> H b = none := fun {b o es ep} e d => by
   cases q : H b with
   | none => rfl
   | some u =>
    have e' : b = a := hA b (by rw [q]; simp)
    subst e'
    rw [ha] at e; cases e
    have d' : Data.seq vs.toArray _ = Data.dict es ep := d
    cases d'
  have nsK : ∀ {b : Addr} {m : Str -> Option Value}, s₁.heap.Ns b m -> (g7o s₁.heap H).Ns b m := fun {b m} ⟨o, es, ep, e, d, r⟩ => ⟨o, es, ep, g4c e (noA e d), d, r⟩
  have hKb : K.In (g7o s₁.heap H) := fun b o e => g4c (KX b o e) (by
   cases q : H b with
   | none => rfl
   | some u =>
    have e' : b = a := hA b (by rw [q]; simp)
    subst e'
    rw [hK (by rw [q]; simp)] at e; cases e)
  have hM : Mod K mg (g7o s₁.heap H) := ⟨hKb, nsK hns, ⟨mb, nsK hb, hbb⟩, let ⟨mc, h1, h2⟩ := hlim; ⟨mc, nsK h1, h2⟩⟩
  have e0 : g3t P w K mg (g7o s₁.heap H) callerA [] s₁ H := ⟨rfl, hM, fun b o e => h2j e, Nat.le_of_eq (g3a _ _), trivial, fun b hb => absurd (show b ∈ ([] : List Addr) from hb) (by simp), hok, .of_eq hg⟩
  refine codeAny_mono ((F _ hKb (nsK hns)).run callerA [] s₁ H ⟨[.ref a], []⟩ [.ref a] [.ref a] _ _ hr e0 (hbind s₁ (.ref a)) (.cons rfl .nil) (hsp H hO hS)) fun r s' h => ?_
  cases r with
  | error e => exact (hCX H e s' h).elim
  | ok fl =>
   cases fl with
   | next => exact False.elim h
   | brk => exact False.elim h
   | cont => exact False.elim h
   | ret u =>
    obtain ⟨v, H', os, bare, un, hok', r', q⟩ := h
    have q' : v = .bl true := q
    subst q'
    obtain rfl : u = Value.bool true := r'
    refine ⟨rfl, OldK.of_keep fun b o e => ?_, os, bare⟩
    cases q : H b with
    | none => exact un.keep b o e q (by intro z; exact absurd (show b ∈ ([] : List Addr) from z) (by simp)) (by simp)
    | some u =>
     rcases hO b with z | ⟨ob, xs, z⟩
     ·rw [q] at z; cases z
     ·have z2 := un.f6h b ob _ z
      obtain ⟨e1, _⟩ := hok b _ z
      obtain ⟨e2, _⟩ := hok' b _ z2
      rw [e] at e1; cases e1
      exact e2
 cases hk : K.lookup a with
 | some o =>
  -- the script is one of the module's own objects
  have e := KX a o hk
  rw [ha] at e
  cases e
  refine core (fun _ => none) (fun _ => .inl rfl) (.inr ⟨_, vs.toArray, _, hk, rfl, rfl, rfl, by rw [List.size_toArray, lenV]; exact hl, by simpa using rv⟩) (fun b u z => by have z' : (none : Option HO) = some u := z; cases z') (fun b z => absurd rfl z) fun z => absurd rfl z
 | none =>
  refine core (fun b => if b = a then some (.frz { cls := .type "list", data := .seq vs.toArray } (.lst (ns.map V.int))) else none) (fun b => ?_) (.inl (.inr ⟨{ cls := .type "list", data := .seq vs.toArray }, if_pos rfl⟩)) (fun b u z => ?_) (fun b z => ?_) fun _ => hk
  ·by_cases hb : b = a
   ·exact .inr ⟨_, _, if_pos hb⟩
   ·exact .inl (if_neg hb)
  ·by_cases hb : b = a
   ·have z' := (if_pos hb).symm.trans z
    cases z'
    subst hb
    exact ⟨ha, by rw [List.length_map]; exact hl, vs, _, rv, ha⟩
   ·have z' := (if_neg hb).symm.trans z
    cases z'
  ·by_cases hb : b = a
   ·exact hb
   ·exact absurd (if_neg hb) z
end L2
namespace L2
open PySem PySem.Spec PyProof.Rows
noncomputable abbrev KOf {K : PySem.W.Frag} {h : Heap} (_ : K.In h) : PySem.W.Frag := K
end L2
/- THE LAST THEOREM (shape; LID, My.* are yours):
  My.Adr: a structure of the addresses that your layer names (classes, functions); My.Txt K t: a structure (Prop) of the equations over K;
  My.txt_mk : {K} {implicit addresses ..} (e1 : nsIn K mainGlobals "law" = some (some (.ref f))) (e2 : K.lookup f = some ⟨oc, od, .func (fnOf "law" "law" params body scope dV kV doc pm an cdv ct), sl⟩) (e3 : codeIn K cdv "law" = true) .. : ∃ t, My.Txt K t
(the tactic k_is has no namespace: write k_is) -/
namespace L2
open PySem PySem.Spec PyProof.Rows
noncomputable def inClass (s : Stmt) (j : Nat) : Stmt := match s with
 | .ClassDef _ _ _ body _ _ _ _ _ _ _ => body.getD j (.Pass ⟨0, 0, 0, 0⟩)
 | _ => .Pass ⟨0, 0, 0, 0⟩
noncomputable def a0q (s : Stmt) : Arguments := match s with
 | .FunctionDef _ a _ _ _ _ _ _ _ _ => a
 | _ => { posonlyargs := [], args := [], vararg := none, kwonlyargs := [], kw_defaults := [], kwarg := none, defaults := [] }
noncomputable def a0p (s : Stmt) : List Stmt := match s with
 | .FunctionDef _ _ b _ _ _ _ _ _ _ => b
 | _ => []
noncomputable def a0h (s : Stmt) : Scope := match s with
 | .FunctionDef _ _ _ _ _ _ sc _ _ _ => sc
 | _ => { kind := .function, names := [], isGenerator := false, isCoroutine := false }
noncomputable abbrev CX0 : CXT := fun _ _ _ _ _ _ => False
noncomputable abbrev E0 : XK := fun _ _ _ => False
theorem a1k {X : Cx} : Passes CX0 X E0 := fun _ _ _ _ _ _ _ h => h.elim
structure Fun (K : PySem.W.Frag) (x qual : Str) (st : Stmt) (f : Addr) (fd : FuncData) : Prop where
 ex : ∃ (oc : Value) (od : Option Addr) (kV doc pm : Value) (an : Option Addr) (cdv ct : Value) (osl : Array (Option Value)),
  fd = PySem.W.fnOf x qual (a0q st) (a0p st) (a0h st) .none kV doc pm an cdv ct /\ K.lookup f = some ⟨oc, od, .func fd, osl⟩ /\ PySem.W.codeIn K cdv qual = true
 kp : PySem.W.keepIn K (.ref f) = true
section
variable {P : Program} {w : World} {K : PySem.W.Frag} {mg : Str -> Option Value} {base : Heap}
theorem Fun.ok {x qual : Str} {st : Stmt} {f : Addr} {fd : FuncData} {N ps : List Str} {k : Nat} {sp : Sp} (F : Fun K x qual st f fd) (S : a0r N ps (a0h st)) (len : ∀ vs H Q E, sp vs H Q E -> vs.length = ps.length)
  (hbody : ∀ (cdv : Value) (A : Around) (outer : List Env) (s : Shared) (H : Hp) (vs : List V) (Q : VK) (E : XK), a2q k (A.deeper (envOfC qual (a0h st) s.heap.objs.size f cdv)) -> sp vs H Q E ->
   ∃ t, PSs (h0h CX0 P w K mg base N qual (a0h st) f cdv A outer s H E).nox (a0p st) t /\ t { nx := fun _ H' => Q .non H', rt := Q } (start N vs) H) : a1p P w K mg base CX0 (k + 1) f fd ps sp := by
 obtain ⟨oc, od, kV, doc, pm, an, cdv, ct, osl, rfl, lk, hcd⟩ := F.ex
 refine i1u lk hcd S len fun A outer s H vs Q E hr hsp => ?_
 obtain ⟨t, h, q⟩ := hbody cdv A outer s H vs Q E hr hsp
 exact ⟨t, h.nox, q⟩
theorem Fun.binds {x qual : Str} {st : Stmt} {f : Addr} {fd : FuncData} {ps : List Str} (F : Fun K x qual st f fd)
  (h : ∀ (kV doc pm : Value) (an : Option Addr) (cdv ct : Value) (us : List Value), us.length = ps.length -> bindArgs (PySem.W.fnOf x qual (a0q st) (a0p st) (a0h st) .none kV doc pm an cdv ct) ⟨us, []⟩ = pure (ps.zip us)) : Binds K fd ps [] := by
 obtain ⟨oc, od, kV, doc, pm, an, cdv, ct, osl, rfl, lk, hcd⟩ := F.ex
 exact .all (h kV doc pm an cdv ct)
theorem a1m {x qual : Str} {st : Stmt} {f : Addr} {oc : Value} {od an : Option Addr} {osl : Array (Option Value)} {kV doc pm cdv ct : Value} (l : K.lookup f = some ⟨oc, od, .func (PySem.W.fnOf x qual (a0q st) (a0p st) (a0h st) .none kV doc pm an cdv ct), osl⟩)
  (c : PySem.W.codeIn K cdv qual = true) (k : PySem.W.keepIn K (.ref f) = true) : Fun K x qual st f (PySem.W.fnOf x qual (a0q st) (a0p st) (a0h st) .none kV doc pm an cdv ct) := ⟨⟨oc, od, kV, doc, pm, an, cdv, ct, osl, rfl, l, c⟩, k⟩
end
section
variable {X : Cx}
end
noncomputable def Same (H H' : Hp) : Prop := ∀ b o, H b = some o -> H' b = some o
theorem Same.refl (H : Hp) : Same H H := fun _ _ h => h
theorem Same.trans {H H1 H2 : Hp} (a : Same H H1) (b : Same H1 H2) : Same H H2 := fun c o h => b c o (a c o h)
theorem Same.free {H H' : Hp} (e : Same H H') {l : Addr} (h : H' l = Option.none) : H l = Option.none := by
 cases q : H l with
 | none => rfl
 | some o =>
  rw [e l o q] at h
  cases h
theorem Same.seq {K : PySem.W.Frag} {H H' : Hp} {a : Addr} {xs : List V} (e : Same H H') (h : SqL K H a xs) : SqL K H' a xs := by
 rcases h with (h | ⟨o, h⟩) | h
 ·exact .inl (.inl (e _ _ h))
 ·exact .inl (.inr ⟨o, e _ _ h⟩)
 ·exact .inr h
end L2
namespace L2
open PySem PySem.Spec PyProof.Rows
section
variable {κ : Type} [DecidableEq κ]
noncomputable def f6m (kvs : List (κ × V)) (k : κ) : Option V := (kvs.find? fun kv => decide (kv.1 = k)).map (·.2)
noncomputable def putK (kvs : List (κ × V)) (k : κ) (v : V) : List (κ × V) :=
 if (kvs.any fun kv => decide (kv.1 = k)) = true then kvs.map (fun kv => if kv.1 = k then (kv.1, v) else kv) else kvs ++ [(k, v)]
noncomputable def g4d (kvs : List (κ × V)) (k : κ) : List (κ × V) := kvs.filter fun kv => decide (kv.1 ≠ k)
theorem f9i {p : κ × V} {r : List (κ × V)} {k : κ} (e : p.1 = k) : f6m (p :: r) k = some p.2 := by simp [f6m, List.find?_cons, e]
theorem f9j {p : κ × V} {r : List (κ × V)} {k : κ} (e : ¬ p.1 = k) : f6m (p :: r) k = f6m r k := by simp [f6m, List.find?_cons, e]
theorem f8q.getD {o : Option V} {u : Option Value} {d : V} {d' : Value} (r : f8q o u) (rd : RelV d d') : RelV (o.getD d) (u.getD d') := by
 cases o with
 | none => cases u with
  | none => exact rd
  | some _ => exact (show False from r).elim
 | some _ => cases u with
  | none => exact (show False from r).elim
  | some _ => exact r
theorem KV.val {kvs : List (κ × V)} {vs : List (κ × Value)} (r : KV kvs vs) (k : κ) : f8q (f6m kvs k) (valueAt vs k) := by
 unfold KV at r
 induction r with
 | nil => exact True.intro
 | @cons p q ps qs h t ih =>
  obtain ⟨h1, h2⟩ := h
  by_cases e : p.1 = k
  ·have e' : q.1 = k := h1.symm.trans e
   have b : valueAt (q :: qs) k = some q.2 := by simp [valueAt, List.find?_cons, e']
   rw [f9i e, b]; exact h2
  ·have e' : ¬ q.1 = k := fun z => e (h1.trans z)
   have b : valueAt (q :: qs) k = valueAt qs k := by simp [valueAt, List.find?_cons, e']
   rw [f9j e, b]; exact ih
theorem KV.any {kvs : List (κ × V)} {vs : List (κ × Value)} (r : KV kvs vs) (k : κ) : (kvs.any fun kv => decide (kv.1 = k)) = vs.any fun kv => decide (kv.1 = k) := by
 unfold KV at r
 induction r with
 | nil => rfl
 | cons h t ih => rw [List.any_cons, List.any_cons, ih, h.1]
theorem KV.drop {kvs : List (κ × V)} {vs : List (κ × Value)} (r : KV kvs vs) (k : κ) : KV (g4d kvs k) (without vs k) := by
 unfold KV at r ⊢
 unfold g4d without
 induction r with
 | nil => exact .nil
 | @cons p q ps qs h t ih =>
  obtain ⟨h1, h2⟩ := h
  rw [List.filter_cons, List.filter_cons]
  by_cases e : p.1 = k
  ·have a : ¬ decide (p.1 ≠ k) = true := by simp [e]
   have b : ¬ decide (q.1 ≠ k) = true := by simp [h1.symm.trans e]
   rw [if_neg a, if_neg b]; exact ih
  ·have e' : ¬ q.1 = k := fun z => e (h1.trans z)
   have a : decide (p.1 ≠ k) = true := by simp [e]
   have b : decide (q.1 ≠ k) = true := by simp [e']
   rw [if_pos a, if_pos b]; exact .cons ⟨h1, h2⟩ ih
theorem KV.keys {kvs : List (κ × V)} {vs : List (κ × Value)} (r : KV kvs vs) : kvs.map (·.1) = vs.map (·.1) := by
 unfold KV at r
 induction r with
 | nil => rfl
 | cons h t ih => rw [List.map_cons, List.map_cons, ih, h.1]
theorem KV.length {kvs : List (κ × V)} {vs : List (κ × Value)} (r : KV kvs vs) : kvs.length = vs.length := Paired.length r
end
noncomputable abbrev KT (H : Hp) : List (List Key × V) -> List (List Key × Addr × Value) -> Prop := Paired fun p q => p.1 = q.1 /\ H q.2.1 = some (.tup (p.1.map kV)) /\ RelV p.2 q.2.2
theorem KT.val {H : Hp} {kvs : List (List Key × V)} {xs : List (List Key × Addr × Value)} (r : KT H kvs xs) (k : List Key) : f8q (f6m kvs k) ((atKey xs k).map (·.2)) := by
 induction r with
 | nil => exact True.intro
 | @cons p q ps qs h t ih =>
  obtain ⟨h1, _, h2⟩ := h
  by_cases e : p.1 = k
  ·have e' : q.1 = k := h1.symm.trans e
   have b : atKey (q :: qs) k = some q.2 := by simp [atKey, List.find?_cons, e']
   rw [f9i e, b]; exact h2
  ·have e' : ¬ q.1 = k := fun z => e (h1.trans z)
   have b : atKey (q :: qs) k = atKey qs k := by simp [atKey, List.find?_cons, e']
   rw [f9j e, b]; exact ih
theorem KT.keeps {H H' : Hp} {kvs : List (List Key × V)} {xs : List (List Key × Addr × Value)} (r : KT H kvs xs) (ht : ∀ b ys, H b = some (.tup ys) -> H' b = some (.tup ys)) : KT H' kvs xs :=
 Paired.i1g r fun _ _ z => ⟨z.1, ht _ _ z.2.1, z.2.2⟩
section
variable {P : Program} {w : World} {H : Hp} {h : Heap} {a : Addr}
end
noncomputable def g7f (H : Hp) (a : Addr) (y : V) (r : Option V) : Prop :=
 (∃ kvs k, Rd H a (.dK kvs) /\ y = kV k /\ r = f6m kvs k) \/ ∃ kvs k b, Rd H a (.dT kvs) /\ y = .ref b /\ H b = some (.tup (k.map kV)) /\ r = f6m kvs k
noncomputable def h5j (H : Hp) (a : Addr) (y v : V) (H' : Hp) : Prop :=
 (∃ kvs k, H a = some (.dK kvs) /\ y = kV k /\ kvs.length < sizeLine /\ H' = upd H a (.dK (putK kvs k v))) \/
 ∃ kvs k b, H a = some (.dT kvs) /\ y = .ref b /\ H b = some (.tup (k.map kV)) /\ kvs.length < sizeLine /\ H' = upd H a (.dT (putK kvs k v))
theorem g7f.k {H : Hp} {a : Addr} {kvs : List (Key × V)} {k : Key} (e : H a = some (.dK kvs)) : g7f H a (kV k) (f6m kvs k) := .inl ⟨kvs, k, .inl e, rfl, rfl⟩
theorem g7f.t {H : Hp} {a b : Addr} {kvs : List (List Key × V)} {k : List Key} (e : H a = some (.dT kvs)) (eb : H b = some (.tup (k.map kV))) : g7f H a (.ref b) (f6m kvs k) := .inr ⟨kvs, k, b, .inl e, rfl, eb, rfl⟩
theorem h5j.k {H : Hp} {a : Addr} {kvs : List (Key × V)} {k : Key} {v : V} (e : H a = some (.dK kvs)) (hl : kvs.length < sizeLine) : h5j H a (kV k) v (upd H a (.dK (putK kvs k v))) := .inl ⟨kvs, k, e, rfl, hl, rfl⟩
theorem h5j.t {H : Hp} {a b : Addr} {kvs : List (List Key × V)} {k : List Key} {v : V} (e : H a = some (.dT kvs)) (eb : H b = some (.tup (k.map kV))) (hl : kvs.length < sizeLine) :
  h5j H a (.ref b) v (upd H a (.dT (putK kvs k v))) := .inr ⟨kvs, k, b, e, rfl, eb, hl, rfl⟩
section
variable {X : Cx} {pins : List (Addr × Obj)} {σ : St} {H : Hp} {s : Shared} {a : Addr} {y v : V} {u r : Value} {o : Option V} {A : Around} {E : Value -> Shared -> Prop}
end
section
variable {X : Cx} {pins : List (Addr × Obj)} {σ : St} {H : Hp} {s : Shared} {a : Addr} {kvs : List (Key × V)} {k : Key} {u : Value} {A : Around} {E : Value -> Shared -> Prop}
end
noncomputable def NoSl (i : Expr) : Prop := ∀ ov iv, subscripted i false ov iv = operate [ov, iv] (getItem ov iv)
noncomputable def tDGet (td ty : TE) : TE := fun σ H Q => td σ H fun x H1 => ty σ H1 fun y H2 => ∃ a v, x = .ref a /\ g7f H2 a y (some v) /\ Q v H2
noncomputable def tDIn (ty td : TE) : TE := fun σ H Q => ty σ H fun y H1 => td σ H1 fun x H2 => ∃ a o, x = .ref a /\ g7f H2 a y o /\ Q (.bl o.isSome) H2
noncomputable def i1y (ty td : TE) : TE := fun σ H Q => ty σ H fun y H1 => td σ H1 fun x H2 => ∃ a o, x = .ref a /\ g7f H2 a y o /\ Q (.bl (!o.isSome)) H2
noncomputable def sDPut (td ty tv : TE) : TS := fun D σ H => tv σ H fun v H1 => td σ H1 fun x H2 => ty σ H2 fun y H3 => ∃ a H4, x = .ref a /\ h5j H3 a y v H4 /\ D.nx σ H4
noncomputable def sDAug (td ty tv : TE) (rd : V -> V -> Hp -> VK -> Prop) : TS := fun D σ H => td σ H fun x H1 => ty σ H1 fun y H2 => ∃ a v, x = .ref a /\ g7f H2 a y (some v) /\
 tv σ H2 fun y2 H3 => rd v y2 H3 fun z H4 => ∃ H5, h5j H4 a y z H5 /\ D.nx σ H5
noncomputable def sDDel (td ty : TE) : TS := fun D σ H => td σ H fun x H1 => ty σ H1 fun y H2 => ∃ a kvs k, x = .ref a /\ H2 a = some (.dK kvs) /\ y = kV k /\ (f6m kvs k).isSome = true /\ D.nx σ (upd H2 a (.dK (g4d kvs k)))
section
variable {X : Cx} {o i e value : Expr} {pos pos' tpos : Pos} {td ty tv : TE}
end
noncomputable def i3y : TE := fun _ H Q => ∀ p, H p = none -> Q (.ref p) (upd H p (.dK []))
noncomputable def i3z : TE := fun _ H Q => ∀ p, H p = none -> Q (.ref p) (upd H p (.dT []))
section
variable {X : Cx} {pos : Pos}
end
noncomputable def g4e : List (TE × TE) -> St -> Hp -> (List (V × V) -> Hp -> Prop) -> Prop
 | [], _, H, Q => Q [] H
 | (tk, tv) :: r, σ, H, Q => tk σ H fun x H1 => tv σ H1 fun y H2 => g4e r σ H2 fun ps H3 => Q ((x, y) :: ps) H3
noncomputable abbrev VV : List (V × V) -> List (Value × Value) -> Prop := Paired fun p q => RelV p.1 q.1 /\ RelV p.2 q.2
noncomputable def PPs (X : Cx) (pos : Pos) (keys : List (Option Expr)) (values : List Expr) (trs : List (TE × TE)) : Prop :=
 ∀ (pins : List (Addr × Obj)) (s : Shared) (σ : St) (H : Hp) (Q : List (V × V) -> Hp -> Prop), Inv X pins σ H s -> g4e trs σ H Q ->
  wpAny (model X.prog X.w) X.A (evalPairs (pairTrees keys values X.env pos)) (fun vs s' => ∃ ps H', Inv X pins σ H' s' /\ VV ps vs /\ Q ps H') X.xe s
noncomputable def h6y (kvs more : List (Key × V)) : List (Key × V) := more.foldl (fun acc kv => putK acc kv.1 kv.2) kvs
noncomputable def tDisp (trs : List (TE × TE)) : TE := fun σ H Q => ∀ p, H p = none -> g4e trs σ (upd H p (.dK [])) fun ps H2 => H2 p = some (.dK []) /\ ∃ kvs : List (Key × V), ps = kvs.map (fun kv => (kV kv.1, kv.2)) /\ kvs.length <= 15 /\ Q (.ref p) (upd H2 p (.dK (h6y [] kvs)))
structure M1 (X : Cx) (o : Expr) (m : Str) (apos : Pos) (e : Expr) (cpos : Pos) : Prop where
 base : attributeBase o m X.env (eval o X.env) = eval o X.env
 few : ((backTo cpos (starEach [e] X.env)).all (fun x => !x.1) && (backToKw cpos (keywordEach [] X.env)).all (fun x => x.1.isSome)
  && decide (([e] : List Expr).length + ([] : List Keyword).length + (if ([] : List Keyword).isEmpty then 0 else 1) < 30)) = true
 line : (apos.endLine == cpos.line) = true
 trees : backTo cpos (starEach [e] X.env) = [(false, eval e X.env)]
structure M2 (X : Cx) (o : Expr) (m : Str) (apos : Pos) (e f : Expr) (cpos : Pos) : Prop where
 base : attributeBase o m X.env (eval o X.env) = eval o X.env
 few : ((backTo cpos (starEach [e, f] X.env)).all (fun x => !x.1) && (backToKw cpos (keywordEach [] X.env)).all (fun x => x.1.isSome)
  && decide (([e, f] : List Expr).length + ([] : List Keyword).length + (if ([] : List Keyword).isEmpty then 0 else 1) < 30)) = true
 line : (apos.endLine == cpos.line) = true
 trees : backTo cpos (starEach [e, f] X.env) = [(false, eval e X.env), (false, eval f X.env)]
noncomputable def IsD (H : Hp) (a : Addr) : Prop := (∃ kvs, Rd H a (.dK kvs)) \/ ∃ kvs, Rd H a (.dT kvs)
section
variable {X : Cx} {pins : List (Addr × Obj)} {σ : St} {H : Hp} {s : Shared} {a : Addr} {y d : V} {u r : Value} {o : Option V} {A : Around} {E : Value -> Shared -> Prop}
end
noncomputable def i4a (td ty : TE) : TE := fun σ H Q => td σ H fun x H1 => ∃ a, x = .ref a /\ IsD H1 a /\ ty σ H1 fun y H2 => ∃ o, g7f H2 a y o /\ Q (o.getD .non) H2
noncomputable def i4b (td ty tx : TE) : TE := fun σ H Q => td σ H fun x H1 => ∃ a, x = .ref a /\ IsD H1 a /\ ty σ H1 fun y H2 => tx σ H2 fun z H3 => ∃ o, g7f H3 a y o /\ Q (o.getD z) H3
noncomputable def i4c (td ty : TE) : TE := fun σ H Q => td σ H fun x H1 => ∃ a, x = .ref a /\ IsD H1 a /\ ty σ H1 fun y H2 => ∃ kvs k v, H2 a = some (.dK kvs) /\ y = kV k /\ f6m kvs k = some v /\ Q v (upd H2 a (.dK (g4d kvs k)))
noncomputable def i4d (td ty tx : TE) : TE := fun σ H Q => td σ H fun x H1 => ∃ a, x = .ref a /\ IsD H1 a /\ ty σ H1 fun y H2 => tx σ H2 fun z H3 => ∃ kvs k, H3 a = some (.dK kvs) /\ y = kV k /\
 (∀ v, f6m kvs k = some v -> Q v (upd H3 a (.dK (g4d kvs k)))) /\ (f6m kvs k = none -> Q z H3)
section
variable {X : Cx} {o e f : Expr} {apos cpos : Pos} {td ty tx : TE}
end
section
variable {X : Cx} {pins : List (Addr × Obj)} {σ : St} {H : Hp} {s : Shared} {a : Addr} {kvs : List (Key × V)} {A : Around} {E : Value -> Shared -> Prop}
end
section
variable {X : Cx} {pins : List (Addr × Obj)} {σ : St} {H : Hp} {s : Shared} {a : Addr} {y : V} {u : Value} {A : Around} {E : Value -> Shared -> Prop}
end
section
variable {X : Cx}
end
section
variable {κ : Type} [DecidableEq κ]
end
end L2
namespace L2
open PySem PySem.Spec PyProof.Rows
open PySem.Builtin.Int (intBits)
section
variable {X : Cx} {a b c : Expr} {ta tb tc : TE} {pos : Pos}
theorem h3a : OpR X (binaryOp .Mult) (rI IntMulOk fun i j => .int (i * j)) := opI fun _ _ _ _ _ _ _ hc q => mul_int q hc
noncomputable def CFd (i j : Int) : Prop := j ≠ 0 /\ intBits j <= 9000
theorem f6n {j : Int} (h : j ≠ 0) (hb : intBits j <= 9000) : j.natAbs.log2 < 9000 := by
 have h1 := intBits_le_iff.mp hb
 exact (Nat.log2_lt (by omega)).mpr h1
theorem g8b : OpR X (binaryOp .FloorDiv) (rI CFd fun i j => .int (i.fdiv j)) := opI fun i j _ _ _ _ _ hc q =>
 floordiv_int hc.1 q (.inl (PyProof.noPylong_of_log2 (f6n hc.1 hc.2)))
noncomputable def CDv (i j : Int) : Prop := 0 < j /\ intBits j <= 9000
inductive Ty where
 | non | bl | int | str | lst | tup | dct
 deriving DecidableEq
noncomputable def Ty.nm : Ty -> String
 | .non => "NoneType" | .bl => "bool" | .int => "int" | .str => "str" | .lst => "list" | .tup => "tuple" | .dct => "dict"
noncomputable def h0j (H : Hp) : V -> Option Ty
 | .non => some .non
 | .bl _ => some .bl
 | .int _ => some .int
 | .str _ => some .str
 | .ref a => match H a with
  | some (.lst _) => some .lst
  | some (.frz _ (.lst _)) => some .lst
  | some (.tup _) => some .tup
  | some (.dK _) => some .dct
  | some (.dT _) => some .dct
  | _ => none
 | _ => none
noncomputable def g4f (t T : Ty) : Bool := decide (t = T) || (decide (t = .bl) && decide (T = .int))
theorem h3b {K : PySem.W.Frag} {H : Hp} {x : V} {t : Ty} (h : h0j H x = some t) : g0u K H x (.type t.nm) := by
 cases x with
 | non => cases h; exact .non
 | bl b => cases h; exact .bl b
 | int i => cases h; exact .int i
 | str s => cases h; exact .str s
 | byt b => cases h
 | flt b => cases h
 | ty n => cases h
 | ref a =>
  unfold h0j at h
  cases e : H a with
  | none => simp [e] at h
  | some o =>
   cases o with
   | lst xs => simp [e] at h; subst h; exact .lst e
   | tup xs => simp [e] at h; subst h; exact .tup e
   | dK kvs => simp [e] at h; subst h; exact .dK e
   | dT kvs => simp [e] at h; subst h; exact .dT e
   | frz ob u =>
    cases u with
    | lst xs => simp [e] at h; subst h; exact .frz e
    | _ => simp [e] at h
   | _ => simp [e] at h
theorem h6z {K : PySem.W.Frag} (t T : Ty) : PySem.W.kitOne K (.type t.nm) (.type T.nm) = some (g4f t T) := by
 cases t <;> cases T <;> rfl
noncomputable def i4e (T : Ty) : List V -> Hp -> VK -> Prop := fun xs H Q => match xs with
 | [x, .ty n] => n = T.nm /\ ∃ t, h0j H x = some t /\ Q (.bl (g4f t T)) H
 | _ => False
theorem b3n (T : Ty) : a8i X (.builtin "isinstance") (i4e T) := by
 intro pins s σ H xs us Q I r h
 match xs, r, h with
 | [x, .ty n], r, h =>
  obtain ⟨rfl, t, ht, q⟩ := h
  obtain ⟨u, v, rfl, r1, r2⟩ := vals2 r
  cases (show v = Value.type T.nm from r2)
  exact g3s I r1 (h3b ht) (h6z t T) fun tk => ⟨.bl _, H, I.tok tk, rfl, q⟩
mutual
inductive f0j (K : PySem.W.Frag) (H : Hp) : V -> PyData -> Prop
 | non : f0j K H .non .none
 | bl (b : Bool) : f0j K H (.bl b) (.bool b)
 | int (i : Int) : f0j K H (.int i) (.int i)
 | str (x : Str) : f0j K H (.str x) (.str x)
 | lst {a : Addr} {xs : List V} {ds : List PyData} : SqL K H a xs -> c3l K H xs ds -> f0j K H (.ref a) (.list ds)
 | tup {a : Addr} {xs : List V} {ds : List PyData} : SqT K H a xs -> c3l K H xs ds -> f0j K H (.ref a) (.tuple ds)
inductive c3l (K : PySem.W.Frag) (H : Hp) : List V -> List PyData -> Prop
 | nil : c3l K H [] []
 | cons {x : V} {xs : List V} {d : PyData} {ds : List PyData} : f0j K H x d -> c3l K H xs ds -> c3l K H (x :: xs) (d :: ds)
end
section
variable {pins : List (Addr × Obj)} {σ : St} {H : Hp} {s : Shared}
mutual
theorem Inv.reads (I : Inv X pins σ H s) : ∀ {v : V} {d : PyData} {u : Value}, f0j X.K H v d -> RelV v u -> ∃ as, Reads s.heap u d as
 | _, _, _, .non, r => by cases (show _ = Value.none from r); exact ⟨_, .none⟩
 | _, _, _, .bl b, r => by cases (show _ = Value.bool b from r); exact ⟨_, .bool b⟩
 | _, _, _, .int i, r => by obtain ⟨t, rfl⟩ := r; exact ⟨_, .int i t⟩
 | _, _, _, .str x, r => by obtain ⟨t, rfl⟩ := r; exact ⟨_, .str x t⟩
 | _, _, _, .lst (a := a) hs ha, r => by
  cases (show _ = Value.ref a from r)
  obtain ⟨its, rv, ⟨o, n, e, c, _, dd⟩, _⟩ := I.list hs
  obtain ⟨as, q⟩ := Inv.readsAll I ha rv
  exact ⟨_, .list e c dd (by simpa using q)⟩
 | _, _, _, .tup (a := a) hs ha, r => by
  cases (show _ = Value.ref a from r)
  obtain ⟨its, rv, ⟨o, e, c, n, dd⟩, _⟩ := I.tuple hs
  obtain ⟨as, q⟩ := Inv.readsAll I ha rv
  exact ⟨_, .tuple e c dd (by simpa using q)⟩
theorem Inv.readsAll (I : Inv X pins σ H s) : ∀ {vs : List V} {ds : List PyData} {us : List Value}, c3l X.K H vs ds -> Vals vs us -> ∃ as, ReadsAll s.heap us ds as
 | _, _, _, .nil, .nil => ⟨_, .nil⟩
 | _, _, _, .cons h t, .cons r q => by
  obtain ⟨as, x⟩ := Inv.reads I h r
  obtain ⟨bs, y⟩ := Inv.readsAll I t q
  exact ⟨_, .cons x y⟩
end
end
noncomputable def i0z (K : PySem.W.Frag) : R2 := fun x y H Q => ∃ d e, f0j K H x d /\ f0j K H y e /\ SeqAt.shaped d = true /\ SeqAt.shaped e = true /\ Q (.bl (PyData.eqv d e)) H
noncomputable def i1a (K : PySem.W.Frag) : R2 := fun x y H Q => ∃ d e, f0j K H x d /\ f0j K H y e /\ SeqAt.shaped d = true /\ SeqAt.shaped e = true /\ Q (.bl (!PyData.eqv d e)) H
theorem h7a (hu : X.A.units + 64 < cLine) : OpR X (compareOp .Eq) (i0z X.K) := by
 intro pins s σ H x y v u Q I rx ry h
 obtain ⟨d, e, hd, he, sd, se, q⟩ := h
 obtain ⟨as, ra⟩ := I.reads hd rx
 obtain ⟨bs, rb⟩ := I.reads he ry
 exact eq_dataH ra rb sd se hu ⟨.bl _, H, I, rfl, q⟩
theorem h7b (hu : X.A.units + 64 < cLine) : OpR X (compareOp .NotEq) (i1a X.K) := by
 intro pins s σ H x y v u Q I rx ry h
 obtain ⟨d, e, hd, he, sd, se, q⟩ := h
 obtain ⟨as, ra⟩ := I.reads hd rx
 obtain ⟨bs, rb⟩ := I.reads he ry
 exact ne_dataH ra rb sd se hu ⟨.bl _, H, I, rfl, q⟩
end
noncomputable def i4f (lo c : Int) (n : Nat) : It := ⟨fun i _ => i < n, fun i H x H' => H' = H /\ x = .int (lo + i * c), fun i _ => n <= i⟩
noncomputable def i1b (lo hi c : Int) : Nat := (Builtin.Range.rangeSize lo hi c).toNat
theorem i1c {lo hi c : Int} (hc : 0 < c) : i1b lo hi c = if lo < hi then ((hi - lo - 1) / c + 1).toNat else 0 := by
 unfold i1b Builtin.Range.rangeSize
 rw [if_pos (show c > 0 from hc)]
 split <;> rfl
section
variable {X : Cx} {tg : Expr}
noncomputable def iRng3 (ta : TA) : TI := fun σ H R => ta σ H fun vs H1 => ∃ i j c : Int, vs = [.int i, .int j, .int c] /\ (0 <= i /\ i < 2 ^ 32 /\ 0 <= j /\ j < 2 ^ 32 /\ 0 < c /\ c < 2 ^ 30) /\ R (i4f i c (i1b i j c)) H1
end
noncomputable def h7c (J : It) (g : TG) (tb : TS) (D : Ends) (σ : St) (H : Hp) : Prop := ∃ W : Nat -> Nat -> St -> Hp -> Prop, (∃ m, W 0 m σ H) /\ ∀ i m σ H, W i m σ H ->
 (J.stop i H /\ D.nx σ H) \/ (J.go i H /\ ∃ N : St -> Hp -> Prop, (∀ σ' H', N σ' H' -> ∃ m', m' < m /\ W (i + 1) m' σ' H') /\ ∀ x H', J.yld i H x H' -> g x σ H' fun σ2 H2 => tb { D with nx := N, ct := N, bk := D.nx } σ2 H2)
noncomputable def h7d (wi : TI) (g : TG) (tb : TS) : TS := fun D σ H => wi σ H fun J H1 => h7c J g tb D σ H1
theorem b7r {X : Cx} {tg iter : Expr} {body : List Stmt} {wi : TI} {g : TG} {tb : TS} {pos : Pos} (hp : PassesOwn (model X.prog X.w) X.A X.env X.xe) (hc : X.calm = true) (hi : PI X tg iter wi) (hg : PG X tg g) (hb : PSs X body tb)
  (hs : ∀ x, foldedSetIterable iter X.env x = pure x := by intro _; rfl) : PS X (.For tg iter body [] pos) (h7d wi g tb) := h6f hp hc hi hg hb hs
theorem c3m {K : PySem.W.Frag} {a : Addr} {xs : List V} {g : TG} {tb : TS} {D : Ends} {σ : St} {H : Hp} (Pv : Nat -> St -> Hp -> Prop) (h0 : Pv 0 σ H) (hl : ∀ i σ H, i <= xs.length -> Pv i σ H -> SqL K H a xs)
  (hs : ∀ i x σ H, xs[i]? = some x -> Pv i σ H -> g x σ H fun σ2 H2 => tb { D with nx := Pv (i + 1), ct := Pv (i + 1), bk := D.nx } σ2 H2) (hd : ∀ σ H, Pv xs.length σ H -> D.nx σ H) : h7c (Itl K a) g tb D σ H := g7t Pv h0 hl hs hd
theorem d8y {lo : Int} {n : Nat} {g : TG} {tb : TS} {D : Ends} {σ : St} {H : Hp} (Pv : Nat -> St -> Hp -> Prop) (h0 : Pv 0 σ H)
  (hs : ∀ i σ H, i < n -> Pv i σ H -> g (.int (lo + i)) σ H fun σ2 H2 => tb { D with nx := Pv (i + 1), ct := Pv (i + 1), bk := D.nx } σ2 H2) (hd : ∀ σ H, Pv n σ H -> D.nx σ H) : h7c (Itr lo n) g tb D σ H := g3h Pv h0 hs hd
noncomputable def h0k (c : TT) (tb : TS) (D : Ends) (σ : St) (H : Hp) : Prop := ∃ W : Nat -> St -> Hp -> Prop, (∃ m, W m σ H) /\ ∀ m σ H, W m σ H ->
 c σ H fun b H1 => if b = true then tb { D with nx := fun σ' H' => ∃ m', m' < m /\ W m' σ' H', ct := fun σ' H' => ∃ m', m' < m /\ W m' σ' H', bk := D.nx } σ H1 else D.nx σ H1
noncomputable def g4g (c : TT) (tb : TS) : TS := fun D σ H => h0k c tb D σ H
theorem d3o {X : Cx} {c : Expr} {body : List Stmt} {tc : TT} {tb : TS} {pos : Pos} (hp : PassesOwn (model X.prog X.w) X.A X.env X.xe) (hc : PT X c tc) (hb : PSs X body tb) : PS X (.While c body [] pos) (g4g tc tb) := by
 intro pins s σ H D I h
 obtain ⟨W, ⟨m0, w0⟩, turn⟩ := h
 refine wpAny_While (codeAny_whileLoop (fun n s' => ∃ σ' H', Inv X pins σ' H' s' /\ W n σ' H') ?_ m0 ⟨σ, H, I, w0⟩)
 rintro n s1 ⟨σ1, H1, I1, w1⟩
 refine wpAny_passesOwn hp (thn (hc pins s1 σ1 H1 _ I1 (turn n σ1 H1 w1)) fun b s2 ⟨H2, I2, q2⟩ => ?_)
 cases b with
 | true =>
  rw [if_pos rfl]
  refine wpAny_passesOwn hp (thn (hb pins s2 σ1 H2 _ I2 q2) fun f s3 q3 => ?_)
  cases f with
  | next =>
   obtain ⟨σ3, H3, I3, m', hm, w3⟩ := q3
   exact ⟨m', hm, σ3, H3, I3, w3⟩
  | cont =>
   obtain ⟨σ3, H3, I3, m', hm, w3⟩ := q3
   exact ⟨m', hm, σ3, H3, I3, w3⟩
  | brk => exact q3
  | ret v => exact q3
 | false =>
  rw [if_neg Bool.false_ne_true]
  exact wpAny_execs_nil ⟨σ1, H2, I2, q2⟩
theorem d3p {c : TT} {tb : TS} {D : Ends} {σ : St} {H : Hp} (Pv : Nat -> St -> Hp -> Prop) (m0 : Nat) (h0 : Pv m0 σ H)
  (hs : ∀ m σ H, Pv m σ H -> c σ H fun b H1 => if b = true then tb { D with nx := fun σ' H' => ∃ m', m' < m /\ Pv m' σ' H', ct := fun σ' H' => ∃ m', m' < m /\ Pv m' σ' H', bk := D.nx } σ H1 else D.nx σ H1) : h0k c tb D σ H :=
 ⟨Pv, ⟨m0, h0⟩, hs⟩
end L2
namespace Att
open PySem PySem.W PySem.Calls PyProof.Rows
open PySem.Builtin.Int (intBits)
theorem f6o {ns : List Int} (h : WData.layableAll [WData.list (ns.map WData.int)] = true) : ∀ n ∈ ns, intBits n <= 1048576 := by
 intro n hn
 have h1 := layableW_arg h _ (List.mem_singleton.mpr rfl)
 have h2 := layableW_item h1 (WData.int n) (List.mem_map.mpr ⟨n, hn, rfl⟩)
 have h3 := (layableW_iff.mp h2).2.2
 exact h3
theorem f3t {l : OpenLaw} {n : Nat} {q : Program} {loose : List Str} {XP : (Str -> Option Value) -> Heap -> Prop} {YP : World -> Heap -> Prop} {d : DefRec}
  (hn : l.most = some n) (hdf : d.params.defaults = [])
  (call : ∀ (w : World) (s₀ s₁ : Shared) (mg mb : Str -> Option Value) (fa : Addr) (o : Obj) (pm cd doc : Value) (a : Addr) (vs : List Value) (ns : List Int),
   Ground q loose [] XP w s₀ mg mb s₁.heap -> YP w s₁.heap ->
   s₁.heap.get? fa = some o -> o.data = .func (docDef d.name d.params d.body d.scope pm cd doc) -> s₁.heap.CodeRec cd d.name -> mg d.name = some (.ref fa) ->
   s₁.heap.get? a = some { cls := .type "list", data := .seq vs.toArray } → IntsAre vs ns → ns.length ≤ n → (∀ x ∈ ns, intBits x ≤ 1048576) → s₁.gens = #[] →
   codeAny (model l.prog w) callerA (.call (.ref fa) ⟨[.ref a], []⟩) (fun r s' => r = .ok (.ret (.bool true)) /\ OldK s₁.heap s'.heap /\ s'.os = s₁.os /\ AllBare s'.gens) s₁) :
  WalkO q loose XP YP l.row.toRowW d [] (fun f vs => PySem.call f vs) := by
 intro w s₀ s₁ mg mb G Y fa o pm cd doc dV kV ho hd hcd hD hmg hg args vals as hpre hlay hrd hwl hlo
 obtain rfl : dV = .none := Dflts.none hD hdf
 obtain rfl : kV = .none := Dflts.noKw hD
 obtain ⟨a, vs, ns, rfl, rfl, hobj, hints, hlen⟩ := g4a hn hpre hwl
 refine enter_call (codeAny_mono (call w s₀ s₁ mg mb fa o pm cd doc a vs ns G Y ho (fd_plain hd) hcd hmg hobj hints hlen (f6o hlay) hg) fun r s' hq => ?_)
 obtain ⟨rfl, h2, h3, h4⟩ := hq
 exact ⟨.inl ⟨.bool true, .bool true, [], rfl, fun _ => rfl, .bool true, g4b l _, fun _ => ⟨List.Pairwise.nil, fun _ hm => (nomatch hm)⟩⟩, h2, h3, h4⟩
end Att
namespace L2
open PySem PySem.Spec PyProof.Rows
open PySem.Builtin.Int (intBits)
noncomputable def f6p (n : Nat) (K : PySem.W.Frag) : Sp := fun vs H Q _ => ∃ (a : Addr) (ns : List Int), vs = [.ref a] /\ SqL K H a (ns.map V.int) /\ ns.length <= n /\ (∀ x ∈ ns, intBits x <= 1048576) /\ Only H /\ ∀ H', Q (.bl true) H'
theorem g8c {l : PySem.W.OpenLaw} {k : Nat} {q : Program} {loose : List Str} {XP : (Str -> Option Value) -> Heap -> Prop} {YP : World -> Heap -> Prop} {d : DefRec} {K : Params -> PySem.W.Frag} {CX : World -> CXT} {x : Str}
  (hn : l.most = some 63) (hdf : d.params.defaults = []) (hr : a2q k callerA)
  (hY : ∀ (w : World) (h : Heap), YP w h -> (K w.params).In h)
  (F : ∀ (w : World) (mg : Str -> Option Value) (fa : Addr) (h : Heap), (K w.params).In h -> h.Ns mainGlobals mg -> mg d.name = some (.ref fa) ->
   ∃ fd : FuncData, (∀ (s : Shared) (u : Value), BindsTo s fd ⟨[u], []⟩ [(x, u)]) /\
    ∀ base : Heap, (K w.params).In base -> base.Ns mainGlobals mg -> a1p l.prog w (K w.params) mg base (CX w) k fa fd [x] (f6p 63 (K w.params)))
  (hCX : ∀ (w : World) (H : Hp) (s : Shared) (e : Value) (s' : Shared), CX w [] H s (fun _ _ _ => False) e s' -> False) :
  PySem.W.WalkO q loose XP YP l.row.toRowW d [] (fun f vs => PySem.call f vs) := by
 refine Att.f3t hn hdf fun w s₀ s₁ mg mb fa o pm cd doc a vs ns G Y ho hd hcd hmg hobj hints hlen hbits hg => ?_
 have KX := hY w _ Y
 obtain ⟨fd, hb, hF⟩ := F w mg fa _ KX G.T.g hmg
 exact g8a KX G.T.g G.T.b G.T.builtins G.T.nolimit hg hobj hints (Nat.le_trans hlen (by decide)) hr hF hb (fun H hO hS => ⟨a, ns, rfl, hS, hlen, hbits, hO, fun _ => rfl⟩) fun H e s' => hCX w H s₁ e s'
end L2
namespace L2
open PySem PySem.Spec PyProof.Rows
theorem Same.upd {H : Hp} {p : Addr} {o : HO} (h : H p = none) : Same H (upd H p o) := fun b u e => by
 rw [a3m (a3s e h)]; exact e
structure Tag {α : Type} (a : α) : Type where
noncomputable def New (H : Hp) (o : HO) (Q : VK) (_ : Tag Q) : Prop := ∀ p H1, H p = none -> Same H H1 -> H1 p = some o -> Q (.ref p) H1
noncomputable def All (C : V -> Hp -> Prop) (Q : VK) (_ : Tag C) (_ : Tag Q) : Prop := ∀ v H1, C v H1 -> Q v H1
theorem New.raw {H : Hp} {o : HO} {Q : VK} {t : Tag Q} (h : New H o Q t) : ∀ p, H p = none -> Q (.ref p) (L2.upd H p o) := fun p e => h p _ e (Same.upd e) a6j
theorem h7e {CX : CXT} {P : Program} {w : World} {K : PySem.W.Frag} {mg : Str -> Option Value} {base : Heap} {N : List Str} {qual : Str} {scope : Scope} {f : Addr} {cd : Value} {A : Around} {outer : List Env} {s : Shared} {H : Hp} {E : XK} : (h0h CX P w K mg base N qual scope f cd A outer s H E).K = K := rfl
section
variable {X : Cx} {es : List Expr} {t : TA} {pos : Pos}
noncomputable def h7f (t : TA) : TE := fun σ H Q => t σ H fun xs H1 => xs.length <= sizeLine /\ New H1 (.tup xs) Q ⟨⟩
noncomputable def h7g (t : TA) : TE := fun σ H Q => t σ H fun xs H1 => xs.length <= sizeLine /\ New H1 (.lst xs) Q ⟨⟩
end
section
variable {X : Cx} {a b c : Expr} {ta tb tc : TE} {pos : Pos}
noncomputable def h7h : R2 := fun x y H Q => match x, y with
 | .int i, .int j => Q (.int (i + j)) H
 | .str u, .str v => u.length + v.length <= sizeLine /\ Q (.str (u ++ v)) H
 | .ref l, .ref b => ∃ xs zs, H l = some (.lst xs) /\ H b = some (.lst zs) /\ xs.length + zs.length <= sizeLine /\ New H (.lst (xs ++ zs)) Q ⟨⟩
 | _, _ => False
theorem a2l : OpR X (binaryOp .Add) h7h := by
 intro pins s σ H x y v u Q I rx ry h
 cases x <;> cases y <;> first
  | exact False.elim h
  | exact h6h pins s σ H _ _ v u Q I rx ry ⟨_, _, rfl, rfl, h⟩
  | exact g0r pins s σ H _ _ v u Q I rx ry ⟨_, _, rfl, rfl, h.1, h.2⟩
  | (obtain ⟨xs, zs, h1, h2, h3, h4⟩ := h
     exact h6w pins s σ H _ _ v u Q I rx ry ⟨_, _, _, _, rfl, rfl, h1, h2, h3, h4.raw⟩)
noncomputable def h7i : R2 := fun x y H Q => match x, y with
 | .int i, .int j => IntMulOk i j /\ Q (.int (i * j)) H
 | .ref l, .int k => ∃ xs, H l = some (.lst xs) /\ -(2 ^ 63) <= k /\ k < 2 ^ 63 /\ xs.length * k.toNat <= sizeLine /\ New H (.lst (List.replicate k.toNat xs).flatten) Q ⟨⟩
 | _, _ => False
theorem a4o : OpR X (binaryOp .Mult) h7i := by
 intro pins s σ H x y v u Q I rx ry h
 cases x <;> cases y <;> first
  | exact False.elim h
  | exact h3a pins s σ H _ _ v u Q I rx ry ⟨_, _, rfl, rfl, h.1, h.2⟩
  | (obtain ⟨xs, h1, h2, h3, h4, h5⟩ := h
     exact h6x pins s σ H _ _ v u Q I rx ry ⟨_, _, _, rfl, rfl, h1, h2, h3, h4, h5.raw⟩)
noncomputable def i2a (K : PySem.W.Frag) : R2 := fun x y H Q => if g3i x y = true then Q (.bl (decide (x = y))) H else i0z K x y H Q
noncomputable def i2b (K : PySem.W.Frag) : R2 := fun x y H Q => if g3i x y = true then Q (.bl (!decide (x = y))) H else i1a K x y H Q
theorem d2g (hu : X.A.units + 64 < cLine) : OpR X (compareOp .Eq) (i2a X.K) := by
 intro pins s σ H x y v u Q I rx ry h
 unfold i2a at h
 by_cases hs : g3i x y = true
 ·rw [if_pos hs] at h
  exact i1n pins s σ H x y v u Q I rx ry ⟨hs, h⟩
 ·rw [if_neg hs] at h
  exact h7a hu pins s σ H x y v u Q I rx ry h
theorem c3n (hu : X.A.units + 64 < cLine) : OpR X (compareOp .NotEq) (i2b X.K) := by
 intro pins s σ H x y v u Q I rx ry h
 unfold i2b at h
 by_cases hs : g3i x y = true
 ·rw [if_pos hs] at h
  exact i1o pins s σ H x y v u Q I rx ry ⟨hs, h⟩
 ·rw [if_neg hs] at h
  exact h7b hu pins s σ H x y v u Q I rx ry h
noncomputable def i4g : R2 := fun x y H Q => match x, y with
 | .ref p, .int i => (match H p with
  | some (.tup xs) => ∃ v, atI xs i = some v /\ Q v H
  | some (.lst xs) => ∃ v, atI xs i = some v /\ Q v H
  | _ => False)
 | .str z, .int i => ∃ c, z.length <= sizeLine /\ atI z.cps.toList i = some c /\ Q (.str ⟨#[c]⟩) H
 | _, _ => False
theorem a6n : IxR X i4g := by
 intro value slice pins s σ H x y v u Q I rx ry h hs
 cases x with
 | ref p =>
  cases y with
  | int i =>
   have h' : (match H p with
    | some (.tup xs) => ∃ v, atI xs i = some v /\ Q v H
    | some (.lst xs) => ∃ v, atI xs i = some v /\ Q v H
    | _ => False) := h
   split at h'
   ·rename_i xs e
    obtain ⟨z, h2, h3⟩ := h'
    exact h6q value slice pins s σ H _ _ v u Q I rx ry ⟨_, xs, _, z, rfl, rfl, SqT.of e, h2, h3⟩ hs
   ·rename_i xs e
    obtain ⟨z, h2, h3⟩ := h'
    exact g3x value slice pins s σ H _ _ v u Q I rx ry ⟨_, xs, _, z, rfl, rfl, SqL.of e, h2, h3⟩ hs
   ·exact h'.elim
  | _ => exact False.elim h
 | str z =>
  cases y with
  | int i =>
   obtain ⟨c, h1, h2, h3⟩ := h
   exact h6r value slice pins s σ H _ _ v u Q I rx ry ⟨_, _, c, rfl, rfl, h1, h2, h3⟩ hs
  | _ => exact False.elim h
 | _ => exact False.elim h
noncomputable def i4h : V -> Option Int -> Option Int -> Hp -> VK -> Prop := fun x lo hi H Q => match x with
 | .ref a => (match H a with
  | some (.lst xs) => New H (.lst (f3k xs lo hi)) Q ⟨⟩
  | _ => False)
 | _ => False
theorem sl_M : SlR X i4h := by
 intro pins s σ H x v vl vu lo hi sl Q I rx hs pl pu h
 cases x with
 | ref a =>
  have h' : (match H a with
   | some (.lst xs) => New H (.lst (f3k xs lo hi)) Q ⟨⟩
   | _ => False) := h
  split at h'
  ·rename_i xs e
   exact g3y pins s σ H _ v vl vu lo hi sl Q I rx hs pl pu ⟨_, xs, rfl, SqL.of e, h'.raw⟩
  ·exact h'.elim
 | _ => exact False.elim h
noncomputable def rSlK (K : PySem.W.Frag) : V -> Option Int -> Option Int -> Hp -> VK -> Prop := fun x lo hi H Q => ∃ a xs, x = .ref a /\ SqL K H a xs /\ New H (.lst (f3k xs lo hi)) Q ⟨⟩
theorem sl_K : SlR X (rSlK X.K) := by
 intro pins s σ H x v vl vu lo hi sl Q I rx hs pl pu h
 obtain ⟨a, xs, e, h1, h2⟩ := h
 exact g3y pins s σ H _ v vl vu lo hi sl Q I rx hs pl pu ⟨a, xs, e, h1, h2.raw⟩
noncomputable def h7j : List V -> Hp -> VK -> Prop := fun xs H Q => match xs with
 | [.ref p] => (match H p with
  | some (.lst ys) => Q (.int ys.length) H
  | some (.tup ys) => Q (.int ys.length) H
  | _ => False)
 | [.str z] => z.length <= sizeLine /\ Q (.int z.length) H
 | _ => False
theorem a2m : a8i X (.builtin "len") h7j := by
 intro pins s σ H xs us Q I r h
 match xs, r, h with
 | [.ref p], r, h =>
  have h' : (match H p with
   | some (.lst ys) => Q (.int ys.length) H
   | some (.tup ys) => Q (.int ys.length) H
   | _ => False) := h
  split at h'
  ·rename_i ys e
   exact c3k pins s σ H _ us Q I r ⟨p, ys, rfl, .inl (SqL.of e), h'⟩
  ·rename_i ys e
   exact c3k pins s σ H _ us Q I r ⟨p, ys, rfl, .inr (SqT.of e), h'⟩
  ·exact h'.elim
 | [.str z], r, h => exact f3o pins s σ H _ us Q I r ⟨z, rfl, h.1, h.2⟩
theorem g4h : a8i X (.builtin "len") (fun xs H Q => ∃ p ys, xs = [.ref p] ∧ SqL X.K H p ys ∧ Q (.int ys.length) H) := by
 intro pins s σ H xs us Q I r h
 obtain ⟨p, ys, e, h1, h2⟩ := h
 exact c3k pins s σ H _ us Q I r ⟨p, ys, e, .inl h1, h2⟩
theorem h3c {i j : Int} : g3i (.int i) (.int j) = true := rfl
theorem h3d {i j : Str} : g3i (.str i) (.str j) = true := rfl
theorem h3e {i j : Bool} : g3i (.bl i) (.bl j) = true := rfl
theorem h3f : g3i .non .non = true := rfl
theorem h3g {i j : Addr} : g3i (.ref i) (.ref j) = false := rfl
theorem h7k {H : Hp} {i : Int} : h0j H (.int i) = some .int := rfl
theorem h7l {H : Hp} {i : Str} : h0j H (.str i) = some .str := rfl
theorem h7m {H : Hp} {i : Bool} : h0j H (.bl i) = some .bl := rfl
theorem h7n {H : Hp} : h0j H .non = some .non := rfl
theorem h7o {H : Hp} {a : Addr} : h0j H (.ref a) = (match H a with
  | some (.lst _) => some .lst
  | some (.frz _ (.lst _)) => some .lst
  | some (.tup _) => some .tup
  | some (.dK _) => some .dct
  | some (.dT _) => some .dct
  | _ => none) := rfl
theorem two_line : 2 <= sizeLine := by decide
theorem h0l {α : Type} {x : α} {xs : List α} : atI (x :: xs) 0 = some x := c9w (j := 0) rfl
theorem h0m {α : Type} {x y : α} {xs : List α} : atI (x :: y :: xs) 1 = some y := c9w (j := 1) rfl
theorem h0n {α : Type} {x y z : α} {xs : List α} : atI (x :: y :: z :: xs) 2 = some z := c9w (j := 2) rfl
theorem h0o {α : Type} {x y z u : α} {xs : List α} : atI (x :: y :: z :: u :: xs) 3 = some u := c9w (j := 3) rfl
theorem f3u {p q A B : Prop} [Decidable p] [Decidable q] : (if p then (if q then A else B) else B) = (if p /\ q then A else B) := by
 by_cases hp : p <;> by_cases hq : q <;> simp [hp, hq]
theorem f6q {p q A B : Prop} [Decidable p] [Decidable q] : (if p then A else (if q then A else B)) = (if p \/ q then A else B) := by
 by_cases hp : p <;> by_cases hq : q <;> simp [hp, hq]
end
section
variable {X : Cx} {es : List Expr} {t : TA} {pos : Pos}
noncomputable def MonoA (t : TA) : Prop := ∀ σ H (Q Q' : List V -> Hp -> Prop), (∀ v H1, Q v H1 -> Q' v H1) -> t σ H Q -> t σ H Q'
theorem PA.weak {t : TA} (h : PA X es t) {u : TA} (q : ∀ σ H (Q : List V -> Hp -> Prop), u σ H Q -> t σ H Q) : PA X es u := fun pos pins s σ H Q I hu => h pos pins s σ H Q I (q σ H Q hu)
theorem a9w {x1} (h : PA X es t) : PE X (.Tuple es x1 pos) (h7f t) := by
 intro pins s σ H Q I hq
 refine wpAny_Tuple_spliced (thn (h pos pins s σ H _ I hq) fun us s1 ⟨xs, H1, I1, r, z, q⟩ => ⟨by rw [<- r.length]; exact z, ?_⟩)
 have hf : H1 s1.heap.objs.size = none := I1.hok.fresh (Nat.le_refl _)
 refine ⟨.ref s1.heap.objs.size, upd H1 s1.heap.objs.size (.tup xs), I1.laid (t' := s1.toks) (fun b u e => Heap.get?_push_of_some _ e) (Nat.le_refl _) ?_, rfl, q.raw _ hf⟩
 exact ⟨z, us, r, ⟨_, Heap.get?_push_size _ rfl, rfl, _, rfl⟩⟩
theorem c3o (h : PA X es t) : PE X (.List es pos) (h7g t) := by
 intro pins s σ H Q I hq
 refine wpAny_List_spliced (thn (h pos pins s σ H _ I hq) fun us s1 ⟨xs, H1, I1, r, z, q⟩ => ⟨by rw [<- r.length]; exact z, ?_⟩)
 have hf : H1 s1.heap.objs.size = none := I1.hok.fresh (Nat.le_refl _)
 refine ⟨.ref s1.heap.objs.size, upd H1 s1.heap.objs.size (.lst xs), I1.laid (t' := s1.toks) (fun b u e => Heap.get?_push_of_some _ e) (Nat.le_refl _) ?_, rfl, q.raw _ hf⟩
 exact ⟨z, us, 0, r, Heap.get?_push_size _ rfl⟩
theorem g0y : a8i X (.type "list") (fun xs H Q => ∃ p ys, xs = [.ref p] ∧ (SqL X.K H p ys ∨ SqT X.K H p ys) ∧ New H (.lst ys) Q ⟨⟩) := by
 intro pins s σ H xs us Q I r h
 obtain ⟨p, ys, e, h1, h2⟩ := h
 exact f3p pins s σ H xs us Q I r ⟨p, ys, e, h1, h2.raw⟩
end
theorem Same.tup {K : PySem.W.Frag} {H H' : Hp} {a : Addr} {xs : List V} (e : Same H H') (h : SqT K H a xs) : SqT K H' a xs := by
 rcases h with (h | ⟨o, h⟩) | h
 ·exact .inl (.inl (e _ _ h))
 ·exact .inl (.inr ⟨o, e _ _ h⟩)
 ·exact .inr h
end L2
namespace L2
open PySem PySem.Spec PyProof.Rows
open PySem.Builtin.Int (intBits)
section
variable {X : Cx} {e a b c : Expr} {es rest : List Expr} {pos : Pos} {tg iter : Expr}
theorem PE.weak {t u : TE} (h : PE X e t) (q : ∀ σ H Q, u σ H Q -> t σ H Q) : PE X e u := fun pins s σ H Q I hu => h pins s σ H Q I (q σ H Q hu)
theorem PT.weak {t u : TT} (h : PT X e t) (q : ∀ σ H Q, u σ H Q -> t σ H Q) : PT X e u := fun pins s σ H Q I hu => h pins s σ H Q I (q σ H Q hu)
theorem PI.weak {t u : TI} (h : PI X tg iter t) (q : ∀ σ H Q, u σ H Q -> t σ H Q) : PI X tg iter u := fun pins s σ H Q I hu => h pins s σ H Q I (q σ H Q hu)
theorem OpR.weak {f : Value -> Value -> Sem Value} {r r' : R2} (h : OpR X f r) (q : ∀ x y H Q, r' x y H Q -> r x y H Q) : OpR X f r' := fun pins s σ H x y v u Q I rx ry hr => h pins s σ H x y v u Q I rx ry (q x y H Q hr)
theorem UnR.weak {f : Value -> Sem Value} {r r' : V -> Hp -> VK -> Prop} (h : UnR X f r) (q : ∀ x H Q, r' x H Q -> r x H Q) : UnR X f r' := fun pins s σ H x v Q I rx hr => h pins s σ H x v Q I rx (q x H Q hr)
theorem a8i.weak {f : Value} {r r' : List V -> Hp -> VK -> Prop} (h : a8i X f r) (q : ∀ xs H Q, r' xs H Q -> r xs H Q) : a8i X f r' := fun pins s σ H xs us Q I rx hr => h pins s σ H xs us Q I rx (q xs H Q hr)
theorem IxR.weak {r r' : R2} (h : IxR X r) (q : ∀ x y H Q, r' x y H Q -> r x y H Q) : IxR X r' := fun value slice pins s σ H x y v u Q I rx ry hr hs => h value slice pins s σ H x y v u Q I rx ry (q x y H Q hr) hs
noncomputable def b3g (i : Nat) : TE := fun σ H Q => match σ[i]? with
 | some (some v) => Q v H
 | _ => False
theorem pvF (i : Nat) {x : Str} {pos : Pos} (hN : X.N[i]? = some x := by rfl) (hv : Vis X.env.scope x := by first | exact Or.inl rfl | exact Or.inr (Or.inl rfl) | exact Or.inr (Or.inr rfl)) (hd : (x == ("__debug__" : Str)) = false := by decide)
  (hcd : (x == ("__classdict__" : Str)) = false := by decide) : PE X (.Name x pos) (b3g i) := (h5t hN hv hd hcd).weak fun σ H Q h => by
 unfold b3g at h
 split at h
 ·rename_i v e
  exact ⟨v, e, h⟩
 ·exact h.elim
noncomputable def rIF (C : Int -> Int -> Prop) (g : Int -> Int -> V) : R2 := fun x y H Q => match x, y with
 | .int i, .int j => C i j /\ Q (g i j) H
 | _, _ => False
noncomputable def h3h (g : Int -> Int -> V) : R2 := fun x y H Q => match x, y with
 | .int i, .int j => Q (g i j) H
 | _, _ => False
theorem g4i {C : Int -> Int -> Prop} {g : Int -> Int -> V} : ∀ x y H Q, rIF C g x y H Q -> rI C g x y H Q := fun x y H Q h => by
 cases x <;> cases y <;> first | exact False.elim h | exact ⟨_, _, rfl, rfl, h⟩
theorem d3q {g : Int -> Int -> V} : ∀ x y H Q, h3h g x y H Q -> rI0 g x y H Q := fun x y H Q h => by
 cases x <;> cases y <;> first | exact False.elim h | exact ⟨_, _, rfl, rfl, h⟩
theorem d3r : OpR X (binaryOp .Sub) (h3h fun i j => .int (i - j)) := h6i.weak d3q
theorem a7t : OpR X (binaryOp .FloorDiv) (rIF CFd fun i j => .int (i.fdiv j)) := g8b.weak g4i
theorem a7s : OpR X (binaryOp .Mod) (rIF (fun _ j => j ≠ 0) fun i j => .int (i.fmod j)) := h2p.weak g4i
theorem d3s : OpR X (binaryOp .Pow) (rIF i1m fun i j => .int (i ^ j.toNat)) := h6j.weak g4i
theorem of_lt : OpR X (compareOp .Lt) (h3h fun i j => .bl (decide (i < j))) := i1p.weak d3q
theorem of_le : OpR X (compareOp .LtE) (h3h fun i j => .bl (decide (i <= j))) := i1q.weak d3q
theorem f6r : OpR X (compareOp .Gt) (h3h fun i j => .bl (decide (j < i))) := i1r.weak d3q
theorem i2c : OpR X (compareOp .GtE) (h3h fun i j => .bl (decide (j <= i))) := i1s.weak d3q
noncomputable def rUF (g : Int -> V) : V -> Hp -> VK -> Prop := fun x H Q => match x with
 | .int i => Q (g i) H
 | _ => False
theorem h0p : UnR X (unaryOp .USub) (rUF fun i => .int (-i)) := h6k.weak fun x H Q h => by
 cases x <;> first | exact False.elim h | exact ⟨_, rfl, h⟩
noncomputable def tBF (t : TE) : TT := fun σ H Q => t σ H fun x H1 => match x with
 | .bl k => Q k H1
 | _ => False
theorem a1u {op : CmpOp} {r : R2} {ta tb : TE} (ho : OpR X (compareOp op) r) (ha : PE X a ta) (hb : PE X b tb) (hm : behindInMarks op b = false) : PT X (.Compare a [op] [b] pos) (tBF (tOp r ta tb)) := by
 intro pins s σ H Q I h
 refine (h2q (ho.weak (r' := fun x y H Q => r x y H Q) fun _ _ _ _ z => z) ha hb hm) pins s σ H _ I ?_
 unfold h6l
 exact h |> fun h => by
  unfold tBF at h
  have e : (fun (x : V) (H1 : Hp) => match x with | .bl k => Q k H1 | _ => False) = fun x H1 => ∃ k, x = V.bl k /\ Q k H1 := by
   funext x H1
   cases x <;> simp
  rw [e] at h
  exact h
theorem a7u {t : TE} (h : PE X e t) (he : ∀ whole, isTrue e X.env whole = (do let v <- whole; standAt e.pos; holding [v] (truthy v)) := by intro _; rfl) : PT X e (tBF t) := by
 intro pins s σ H Q I hw
 refine (h5u h he) pins s σ H _ I ?_
 unfold tB
 unfold tBF at hw
 have e : (fun (x : V) (H1 : Hp) => match x with | .bl k => Q k H1 | _ => False) = fun x H1 => ∃ k, x = V.bl k /\ Q k H1 := by
  funext x H1
  cases x <;> simp
 rw [e] at hw
 exact hw
noncomputable def h3i (ta tb : TE) : TE := fun σ H Q => ta σ H fun x H1 => match x with
 | .bl c => if c = true then tb σ H1 Q else Q (.bl false) H1
 | _ => False
noncomputable def tOrF (ta tb : TE) : TE := fun σ H Q => ta σ H fun x H1 => match x with
 | .bl c => if c = true then Q (.bl true) H1 else tb σ H1 Q
 | _ => False
noncomputable def h3j (ta : TE) : TE := fun σ H Q => ta σ H fun x H1 => match x with
 | .bl c => Q (.bl (!c)) H1
 | _ => False
theorem g4j {ta tb : TE} (ha : PE X a ta) (hb : PE X (.BoolOp .And (b :: rest) pos) tb) : PE X (.BoolOp .And (a :: b :: rest) pos) (h3i ta tb) := by
 intro pins s σ H Q I h
 refine (h5x ha hb) pins s σ H Q I ?_
 unfold h5v
 unfold h3i at h
 have e : (fun (x : V) (H1 : Hp) => match x with | .bl c => (if c = true then tb σ H1 Q else Q (.bl false) H1) | _ => False) = fun x H1 => ∃ c, x = V.bl c /\ if c = true then tb σ H1 Q else Q (.bl false) H1 := by
  funext x H1
  cases x <;> simp
 rw [e] at h
 exact h
theorem g4k {ta : TE} (ha : PE X a ta) : PE X (.UnaryOp .Not a pos) (h3j ta) := by
 intro pins s σ H Q I h
 refine (h5y ha) pins s σ H Q I ?_
 unfold h5w
 unfold h3j at h
 have e : (fun (x : V) (H1 : Hp) => match x with | .bl c => Q (.bl (!c)) H1 | _ => False) = fun x H1 => ∃ c, x = V.bl c /\ Q (.bl (!c)) H1 := by
  funext x H1
  cases x <;> simp
 rw [e] at h
 exact h
noncomputable def g4l (ta : TA) : TI := fun σ H R => ta σ H fun vs H1 => match vs with
 | [.int j] => -(2 ^ 62) <= j /\ j < 2 ^ 62 /\ R (Itr 0 j.toNat) H1
 | _ => False
noncomputable def g4m (ta : TA) : TI := fun σ H R => ta σ H fun vs H1 => match vs with
 | [.int i, .int j] => (-(2 ^ 62) <= i /\ i < 2 ^ 62 /\ -(2 ^ 62) <= j /\ j < 2 ^ 62) /\ R (Itr i (j - i).toNat) H1
 | _ => False
noncomputable def h7p (ta : TA) : TI := fun σ H R => ta σ H fun vs H1 => match vs with
 | [.int i, .int j, .int c] => (0 <= i /\ i < 2 ^ 32 /\ 0 <= j /\ j < 2 ^ 32 /\ 0 < c /\ c < 2 ^ 30) /\ R (i4f i c (i1b i j c)) H1
 | _ => False
theorem b8y {ta : TA} {p pos : Pos} (hg : Gl X "range") (hm : X.mg "range" = none) (ha : PA X [a] ta) (hs : starEach [a] X.env = [(false, eval a X.env)] := by rfl) : PI X tg (.Call (.Name "range" p) [a] [] pos) (g4l ta) := by
 refine (g3e hg hm ha hs).weak fun σ H R h => ?_
 unfold h6d
 unfold g4l at h
 have e : (fun (vs : List V) (H1 : Hp) => (match vs with | [.int j] => -(2 ^ 62) <= j /\ j < 2 ^ 62 /\ R (Itr 0 j.toNat) H1 | _ => False : Prop)) = fun vs H1 => ∃ j : Int, vs = [.int j] /\ -(2 ^ 62) <= j /\ j < 2 ^ 62 /\ R (Itr 0 j.toNat) H1 := by
  funext vs H1
  refine propext ⟨fun z => ?_, fun ⟨j, e, z⟩ => by subst e; exact z⟩
  match vs, z with
  | [.int j], z => exact ⟨j, rfl, z⟩
 rw [e] at h
 exact h
theorem g0z {ta : TA} {p pos : Pos} (hg : Gl X "range") (hm : X.mg "range" = none) (ha : PA X [a, b] ta) (hs : starEach [a, b] X.env = [(false, eval a X.env), (false, eval b X.env)] := by rfl) (hs2 : starEach [b] X.env = [(false, eval b X.env)] := by rfl) :
  PI X tg (.Call (.Name "range" p) [a, b] [] pos) (g4m ta) := by
 refine (g3f hg hm ha hs hs2).weak fun σ H R h => ?_
 unfold h6e
 unfold g4m at h
 have e : (fun (vs : List V) (H1 : Hp) => match vs with | [.int i, .int j] => (-(2 ^ 62) <= i /\ i < 2 ^ 62 /\ -(2 ^ 62) <= j /\ j < 2 ^ 62) /\ R (Itr i (j - i).toNat) H1 | _ => False) = fun vs H1 => ∃ i j : Int, vs = [.int i, .int j] /\ (-(2 ^ 62) <= i /\ i < 2 ^ 62 /\ -(2 ^ 62) <= j /\ j < 2 ^ 62) /\ R (Itr i (j - i).toNat) H1 := by
  funext vs H1
  refine propext ⟨fun z => ?_, fun ⟨i, j, e, z⟩ => by subst e; exact z⟩
  match vs, z with
  | [.int i, .int j], z => exact ⟨i, j, rfl, z⟩
 rw [e] at h
 exact h
noncomputable def g4n (K : PySem.W.Frag) (tl : TE) : TI := fun σ H R => tl σ H fun x H1 => match x with
 | .ref a => (∃ xs, SqL K H1 a xs) /\ R (Itl K a) H1
 | _ => False
theorem b2m {l : Expr} {tl : TE} (hl : PE X l tl) : PI X tg l (g4n X.K tl) := (h2o hl).weak fun σ H R h => by
 unfold h6c
 unfold g4n at h
 have e : (fun (x : V) (H1 : Hp) => match x with | .ref a => (∃ xs, SqL X.K H1 a xs) /\ R (Itl X.K a) H1 | _ => False) = fun x H1 => ∃ a, x = .ref a /\ (∃ xs, SqL X.K H1 a xs) /\ R (Itl X.K a) H1 := by
  funext x H1
  cases x <;> simp
 rw [e] at h
 exact h
noncomputable def h7q (K : PySem.W.Frag) : R2 := fun x y H Q => match x, y with
 | .ref p, .int i => ∃ ns : List Int, SqL K H p (ns.map V.int) /\ 0 <= i /\ i < ns.length /\ Q (.int (ns.getD i.toNat 0)) H
 | _, _ => False
theorem g8d {ns : List Int} {i : Int} (h0 : 0 <= i) (h1 : i < ns.length) : atI (ns.map V.int) i = some (.int (ns.getD i.toNat 0)) := by
 obtain ⟨j, rfl⟩ := Int.eq_ofNat_of_zero_le h0
 refine c9w ?_
 have hj : j < ns.length := by omega
 rw [List.getElem?_map, List.getElem?_eq_getElem hj, List.getD_eq_getElem?_getD, Int.toNat_natCast, List.getElem?_eq_getElem hj]
 rfl
theorem ix_S : IxR X (h7q X.K) := g3x.weak fun x y H Q h => by
 cases x with
 | ref p =>
  cases y with
  | int i =>
   obtain ⟨ns, h1, h2, h3, h4⟩ := h
   exact ⟨p, _, i, _, rfl, rfl, h1, g8d h2 h3, h4⟩
  | _ => exact False.elim h
 | _ => exact False.elim h
noncomputable def h7r (K : PySem.W.Frag) : List V -> Hp -> VK -> Prop := fun xs H Q => match xs with
 | [.ref p] => ∃ ys, SqL K H p ys /\ Q (.int ys.length) H
 | _ => False
theorem g1a : a8i X (.builtin "len") (h7r X.K) := g4h.weak fun xs H Q h => by
 match xs, h with
 | [.ref p], ⟨ys, h1, h2⟩ => exact ⟨p, ys, rfl, h1, h2⟩
noncomputable def h7s (K : PySem.W.Frag) : V -> Option Int -> Option Int -> Hp -> VK -> Prop := fun x lo hi H Q => match x with
 | .ref a => ∃ xs, SqL K H a xs /\ New H (.lst (f3k xs lo hi)) Q ⟨⟩
 | _ => False
theorem i2d : SlR X (h7s X.K) := by
 intro pins s σ H x v vl vu lo hi sl Q I rx hs pl pu h
 cases x <;> first
  | exact False.elim h
  | (obtain ⟨xs, h1, h2⟩ := h
     exact sl_K pins s σ H _ v vl vu lo hi sl Q I rx hs pl pu ⟨_, xs, rfl, h1, h2⟩)
noncomputable def g4o (t : TE) : TO := fun σ H Q => t σ H fun x H1 => match x with
 | .int i => Q (some i) H1
 | _ => False
theorem a7y {te : TE} (h : PE X e te) : PO X (some e) (g4o te) := by
 intro pins s σ H Q I hw
 refine (h2w h) pins s σ H Q I ?_
 unfold h6p
 unfold g4o at hw
 have e : (fun (x : V) (H1 : Hp) => match x with | .int i => Q (some i) H1 | _ => False) = fun x H1 => ∃ i, x = V.int i /\ Q (some i) H1 := by
  funext x H1
  cases x <;> simp
 rw [e] at hw
 exact hw
noncomputable def i4i : List V -> Hp -> VK -> Prop := fun xs H Q => match xs with
 | [.int i] => Q (.int i.natAbs) H
 | _ => False
theorem b5g : a8i X (.builtin "abs") i4i := g7u.weak fun xs H Q h => by
 match xs, h with
 | [.int i], h =>
  refine ⟨i, rfl, ?_⟩
  have e : (if i < 0 then -i else i) = (i.natAbs : Int) := by split <;> omega
  rw [e]
  exact h
noncomputable def i4j : List V -> Hp -> VK -> Prop := fun xs H Q => match xs with
 | [.int i, .int j] => Q (.int (min i j)) H
 | _ => False
noncomputable def i4k : List V -> Hp -> VK -> Prop := fun xs H Q => match xs with
 | [.int i, .int j] => Q (.int (max i j)) H
 | _ => False
theorem g4p (hc : X.calm = true) : a8i X (.builtin "min") i4j := (g3p hc).weak fun xs H Q h => by
 match xs, h with
 | [.int i, .int j], h =>
  refine ⟨i, j, rfl, ?_⟩
  have e : (if j < i then j else i) = min i j := by split <;> omega
  rw [e]
  exact h
theorem g4q (hc : X.calm = true) : a8i X (.builtin "max") i4k := (g3o hc).weak fun xs H Q h => by
 match xs, h with
 | [.int i, .int j], h =>
  refine ⟨i, j, rfl, ?_⟩
  have e : (if j > i then j else i) = max i j := by split <;> omega
  rw [e]
  exact h
noncomputable def h0q (K : PySem.W.Frag) : List V -> Hp -> VK -> Prop := fun xs H Q => match xs with
 | [.ref p] => (match H p with
  | some (.lst ys) => New H (.lst ys) Q ⟨⟩
  | some (.tup ys) => New H (.lst ys) Q ⟨⟩
  | _ => False)
 | _ => False
theorem a8u : a8i X (.type "list") (h0q X.K) := g0y.weak fun xs H Q h => by
 match xs, h with
 | [.ref p], h =>
  have h' : (match H p with
   | some (.lst ys) => New H (.lst ys) Q ⟨⟩
   | some (.tup ys) => New H (.lst ys) Q ⟨⟩
   | _ => False) := h
  split at h'
  ·rename_i ys e
   exact ⟨p, ys, rfl, .inl (SqL.of e), h'⟩
  ·rename_i ys e
   exact ⟨p, ys, rfl, .inr (SqT.of e), h'⟩
  ·exact h'.elim
theorem h7t {α : Type} {x : α} {xs : List α} {p : α -> Prop} : (∃ v, atI (x :: xs) 0 = some v /\ p v) = p x := by
 rw [h0l]; simp
theorem h7u {α : Type} {x y : α} {xs : List α} {p : α -> Prop} : (∃ v, atI (x :: y :: xs) 1 = some v /\ p v) = p y := by
 rw [h0m]; simp
theorem h7v {α : Type} {x y z : α} {xs : List α} {p : α -> Prop} : (∃ v, atI (x :: y :: z :: xs) 2 = some v /\ p v) = p z := by
 rw [h0n]; simp
theorem h7w {α : Type} {x y z u : α} {xs : List α} {p : α -> Prop} : (∃ v, atI (x :: y :: z :: u :: xs) 3 = some v /\ p v) = p u := by
 rw [h0o]; simp
end
end L2
namespace L2
open PySem PySem.Spec PyProof.Rows PySem.W
theorem g1b (ns : List Int) : kqdPs (ns.map Dat.int) = ns.map PyData.int := by
 induction ns with
 | nil => rfl
 | cons n ns ih => simp only [List.map_cons, kqdPs, kqdP, ih]
theorem c8s {n : Nat} {d : Dat} (h : kqdOk n d = true) (hn : n <= 64) : SeqAt.shaped (kqdP d) = true := by
 have l := kqd_lay n d h
 unfold SeqAt.shaped
 rw [l.1, Bool.true_and]
 exact decide_eq_true (Nat.le_trans l.2 hn)
theorem h0r {n k : Nat} {d e : Dat} (hd : kqdOk n d = true) (he : kqdOk k e = true) {c : Bool} (hc : c = true ↔ d = e) : PyData.eqv (kqdP d) (kqdP e) = c := by
 have q := kqd_eqv n d e k hd he
 cases c with
 | true => exact q.mpr (hc.mp rfl)
 | false => exact Bool.eq_false_iff.mpr fun z => absurd (hc.mpr (q.mp z)) Bool.false_ne_true
theorem h7x {K : PySem.W.Frag} {H : Hp} {x y : V} {d e : Dat} {n k : Nat} {c : Bool} {Q : VK} (hd : f0j K H x (kqdP d)) (he : f0j K H y (kqdP e)) (kd : kqdOk n d = true) (ke : kqdOk k e = true) (hn : n <= 64) (hk : k <= 64) (hc : c = true ↔ d = e) (q : Q (.bl c) H) : i0z K x y H Q :=
 ⟨_, _, hd, he, c8s kd hn, c8s ke hk, by rw [h0r kd ke hc]; exact q⟩
theorem h7y {K : PySem.W.Frag} {H : Hp} {x y : V} {d e : Dat} {n k : Nat} {c : Bool} {Q : VK} (hd : f0j K H x (kqdP d)) (he : f0j K H y (kqdP e)) (kd : kqdOk n d = true) (ke : kqdOk k e = true) (hn : n <= 64) (hk : k <= 64) (hc : c = true ↔ d = e) (q : Q (.bl (!c)) H) : i1a K x y H Q :=
 ⟨_, _, hd, he, c8s kd hn, c8s ke hk, by rw [h0r kd ke hc]; exact q⟩
theorem f3v {K : PySem.W.Frag} {H : Hp} : ∀ ns : List Int, c3l K H (ns.map V.int) (ns.map PyData.int)
 | [] => .nil
 | n :: ns => .cons (.int n) (f3v ns)
theorem g4r {K : PySem.W.Frag} {H : Hp} {p : Addr} {ns : List Int} (h : SqT K H p (ns.map V.int)) : f0j K H (.ref p) (kqdP (.tuple (ns.map .int))) := by
 rw [kqdP, g1b]
 exact .tup h (f3v ns)
theorem h3k {ns : List Int} (k : Nat) : (ns.map Dat.int).all (kqdOk k) = true := by
 induction ns with
 | nil => rfl
 | cons n ns ih => rw [List.map_cons, List.all_cons, ih, Bool.and_true]; cases k <;> rfl
end L2
namespace L2
open PySem PySem.Spec PyProof.Rows
open PySem.Builtin.Int (intBits)
noncomputable def tCut (t u : TS) : TS := fun D σ H => ∃ Mid : St -> Hp -> Prop, t { D with nx := Mid } σ H /\ ∀ σ' H', Mid σ' H' -> u D σ' H'
theorem b5h {X : Cx} {st : Stmt} {rest : List Stmt} {t u : TS} (h1 : PS X st t) (h2 : PSs X rest u) : PSs X (st :: rest) (tCut t u) := by
 intro pins s σ H D I h
 obtain ⟨Mid, h, hm⟩ := h
 refine wpAny_execs_cons (thn (h1 pins s σ H { D with nx := Mid } I h) fun f s1 q => ?_)
 cases f with
 | next =>
  obtain ⟨σ', H', I', q⟩ := q
  exact h2 pins s1 σ' H' D I' (hm σ' H' q)
 | ret v => exact q
 | brk => exact q
 | cont => exact q
theorem g4s {ns : List Int} {n : Nat} (h : ∀ x ∈ ns, intBits x <= n) (k : Nat) : intBits (ns.getD k 0) <= n := by
 rw [List.getD_eq_getElem?_getD]
 cases e : ns[k]? with
 | none => exact Nat.zero_le _
 | some x => exact h x (List.mem_of_getElem? e)
end L2
namespace L2
open PySem PySem.Spec PyProof.Rows
theorem c9y {env : Env} : ∀ (names : List (Str × NameKind)) (acc : List (Str × Addr)), (∀ y, (y, NameKind.free) ∈ names -> ∃ c, env.cells.lookup y = some c) ->
  ∃ cl, (forIn names acc (fun (x : Str × NameKind) (cs : List (Str × Addr)) => (if x.2 == NameKind.free then (do let c <- cellOf env x.1; pure (ForInStep.yield ((x.1, c) :: cs))) else pure (ForInStep.yield cs) : Sem (ForInStep (List (Str × Addr)))))) = pure cl /\
   (∀ y c, cl.lookup y = some c -> acc.lookup y = some c \/ ((y, NameKind.free) ∈ names /\ env.cells.lookup y = some c)) /\
   (∀ y, (y, NameKind.free) ∈ names -> cl.lookup y = env.cells.lookup y) /\ (∀ y, (∀ k, (y, k) ∈ names -> k ≠ NameKind.free) -> cl.lookup y = acc.lookup y)
 | [], acc, _ => ⟨acc, rfl, fun y c h => .inl h, fun y h => (nomatch h), fun y _ => rfl⟩
 | (n, k) :: r, acc, h => by
  by_cases hk : k = NameKind.free
  ·subst hk
   obtain ⟨c, hc⟩ := h n List.mem_cons_self
   obtain ⟨cl, h1, h2, h3, h4⟩ := c9y r ((n, c) :: acc) fun y hy => h y (List.mem_cons_of_mem _ hy)
   have e : cellOf env n = pure c := by unfold cellOf; rw [hc]
   refine ⟨cl, ?_, fun y d hd => ?_, fun y hy => ?_, fun y hy => ?_⟩
   ·rw [List.forIn_cons]
    simp only [beq_self_eq_true, if_true, e, pure_bind]
    exact h1
   ·rcases h2 y d hd with z | ⟨z1, z2⟩
    ·rw [List.lookup_cons] at z
     by_cases hy : y = n
     ·subst hy
      simp only [beq_self_eq_true] at z
      cases z
      exact .inr ⟨List.mem_cons_self, hc⟩
     ·have : (y == n) = false := by simpa using hy
      rw [this] at z
      exact .inl z
    ·exact .inr ⟨List.mem_cons_of_mem _ z1, z2⟩
   ·by_cases hr : (y, NameKind.free) ∈ r
    ·exact h3 y hr
    ·rcases List.mem_cons.mp hy with z | z
     ·cases z
      by_cases hq : ∃ k, (n, k) ∈ r /\ k = NameKind.free
      ·obtain ⟨k, z, rfl⟩ := hq
       exact absurd z hr
      ·rw [h4 n fun k hk e => hq ⟨k, hk, e⟩, List.lookup_cons]
       simp only [beq_self_eq_true]
       exact hc.symm
     ·exact absurd z hr
   ·have hn : y ≠ n := fun e => by
     subst e
     exact hy _ List.mem_cons_self rfl
    rw [h4 y fun k hk => hy k (List.mem_cons_of_mem _ hk), List.lookup_cons]
    have : (y == n) = false := by simpa using hn
    rw [this]
  ·obtain ⟨cl, h1, h2, h3, h4⟩ := c9y r acc fun y hy => h y (List.mem_cons_of_mem _ hy)
   have hb : (k == NameKind.free) = false := by simpa using hk
   refine ⟨cl, ?_, fun y d hd => ?_, fun y hy => ?_, fun y hy => h4 y fun k hk => hy k (List.mem_cons_of_mem _ hk)⟩
   ·rw [List.forIn_cons]
    simp only [hb, Bool.false_eq_true, if_false, pure_bind]
    exact h1
   ·rcases h2 y d hd with z | ⟨z1, z2⟩
    ·exact .inl z
    ·exact .inr ⟨List.mem_cons_of_mem _ z1, z2⟩
   ·rcases List.mem_cons.mp hy with z | z
    ·cases z
     exact absurd rfl hk
    ·exact h3 y z
theorem d8z {env : Env} {sc : Scope} (h : ∀ y, (y, NameKind.free) ∈ sc.names -> ∃ c, env.cells.lookup y = some c) :
  ∃ cl, closureFor sc env = pure cl /\ (∀ y c, cl.lookup y = some c -> (y, NameKind.free) ∈ sc.names /\ env.cells.lookup y = some c) /\ (∀ y, (y, NameKind.free) ∈ sc.names -> cl.lookup y = env.cells.lookup y) := by
 obtain ⟨cl, h1, h2, h3, _⟩ := c9y (env := env) sc.names [] h
 refine ⟨cl, ?_, fun y c hy => (h2 y c hy).elim (fun z => nomatch z) id, h3⟩
 unfold closureFor
 show (forIn sc.names [] _ >>= fun cs => pure cs) = pure cl
 rw [bind_pure]
 exact h1
end L2
namespace L2
open PySem PySem.Spec PyProof.Rows
noncomputable def mask (x : Str) (N : List Str) : List Str := N.map fun y => if y = x then "" else y
noncomputable def b8z (X : Cx) (scope : Scope) (cl : List (Str × Addr)) (C : Addr) (s₃ : Shared) (H₃ : Hp) (fp : List Addr) (x : Str) : Cx where
 prog := X.prog
 w := X.w
 K := X.K
 mg := X.mg
 base := X.base
 A := X.A
 N := x :: mask x X.N
 s₀ := s₃
 H₀ := H₃
 env := compEnvC scope cl C X.env
 outer := X.stack
 stack := X.stack
 ex := fp
 fn := fun _ => false
 calm := X.calm
 pn := []
 xe := fun _ _ => False
noncomputable def a6i (D : Addr) (H H' : Hp) : Prop := ∀ b o, b ≠ D -> H b = some o -> H' b = some o
theorem a6i.upd {D : Addr} {H : Hp} {o : HO} : a6i D H (upd H D o) := fun b u hb e => by rw [a3m hb]; exact e
noncomputable def f0k (J : It) (te : TE) (D : Addr) (σ : St) (H : Hp) (Q : VK) (_ : Tag Q) : Prop := ∃ (n : Nat) (W : Nat -> List V -> Hp -> Prop), W 0 [] H /\ ∀ i ys H, i <= n -> W i ys H -> H D = some (.lst ys) /\
 ((J.stop i H /\ Q (.ref D) H) \/ (i < n /\ J.go i H /\ ys.length < sizeLine /\ ∀ x H', J.yld i H x H' -> te (some x :: σ) H' fun y H2 => H2 D = some (.lst ys) /\
  ∀ H3, a6i D H2 H3 -> H3 D = some (.lst (ys ++ [y])) -> W (i + 1) (ys ++ [y]) H3))
noncomputable def h3l (wi : TI) (te : TE) : TE := fun σ H Q => wi σ H fun J H1 => ∀ D H2, H1 D = none -> Same H1 H2 -> H2 D = some (.lst []) -> f0k J te D σ H2 Q ⟨⟩
theorem c5z {env : Env} {x : Str} : ∀ (names : List (Str × NameKind)) (k : NameKind), (names.map fun (n, k) => if (k == NameKind.free && env.scope.kind == .function && env.kindOf n == some .cell) then (n, NameKind.cell) else (n, k)).lookup x = some k ->
  (names.lookup x = some k) \/ (k = .cell /\ names.lookup x = some .free)
 | [], k, e => by cases e
 | (n, q) :: r, k, e => by
  rw [List.map_cons] at e
  dsimp only at e
  rw [List.lookup_cons]
  cases hx : (x == n) with
  | true =>
   by_cases hc : (q == NameKind.free && env.scope.kind == .function && env.kindOf n == some .cell) = true
   ·rw [if_pos hc, List.lookup_cons, hx] at e
    have : q = .free := by
     simp only [Bool.and_eq_true, beq_iff_eq] at hc
     exact hc.1.1
    subst this
    cases e
    exact .inr ⟨rfl, rfl⟩
   ·rw [if_neg hc, List.lookup_cons, hx] at e
    exact .inl e
  | false =>
   have e' : (r.map fun (n, k) => if (k == NameKind.free && env.scope.kind == .function && env.kindOf n == some .cell) then (n, NameKind.cell) else (n, k)).lookup x = some k := by
    by_cases hc : (q == NameKind.free && env.scope.kind == .function && env.kindOf n == some .cell) = true
    ·rw [if_pos hc, List.lookup_cons, hx] at e
     exact e
    ·rw [if_neg hc, List.lookup_cons, hx] at e
     exact e
   exact c5z r k e'
theorem c6q {env : Env} {sc : Scope} {x : Str} (h : (relabel sc env).names.lookup x = some .cell \/ (relabel sc env).names.lookup x = some .free) : (x, NameKind.free) ∈ sc.names \/ (x, NameKind.cell) ∈ sc.names := by
 rcases h with h | h
 ·rcases c5z sc.names _ h with z | ⟨_, z⟩
  ·exact .inr (PySem.mem_of_lookup z)
  ·exact .inl (PySem.mem_of_lookup z)
 ·rcases c5z sc.names _ h with z | ⟨z, _⟩
  ·exact .inl (PySem.mem_of_lookup z)
  ·cases z
structure c3p (X : Cx) (scope : Scope) (x : Str) : Prop where
 kind : scope.kind = .function
 f9k : ∀ y ∈ scope.names, y.2 ≠ .cell
 loc : ∀ y ∈ scope.names, y.2 = .local -> scope.names.lookup y.1 = some .local
 own : scope.names.lookup x = some .local
 free : ∀ y ∈ scope.names, y.2 = .free -> X.env.kindOf y.1 = some .cell \/ X.env.kindOf y.1 = some .free
 nd : (x :: mask x X.N).Nodup
 noe : ∀ y ∈ scope.names, y.1 ≠ ""
 vis : ∀ y ∈ mask x X.N, scope.names.lookup y ≠ some .local
section
variable {X : Cx} {scope : Scope} {x : Str} {cl : List (Str × Addr)} {pins : List (Addr × Obj)} {σ : St} {H : Hp} {s s₄ : Shared} {fp : List Addr}
theorem Inv.comp (S : c3p X scope x) (I : Inv X pins σ H s) (hcl : ∀ y c, cl.lookup y = some c -> (y, NameKind.free) ∈ scope.names /\ X.env.cells.lookup y = some c) (hcl2 : ∀ y, (y, NameKind.free) ∈ scope.names -> cl.lookup y = X.env.cells.lookup y)
  (hfp : ∀ b ∈ fp, g0o X pins H b) (hlt : ∀ b ∈ fp, b < s.heap.objs.size) {m : Str -> Option Value} (hns : s₄.heap.Ns s.heap.objs.size m) (hk : ∀ b o, s.heap.get? b = some o -> s₄.heap.get? b = some o) (hos : s₄.os = s.os) (hg : s₄.gens = s.gens) :
  Inv (b8z X scope cl s.heap.objs.size s H fp x) [] (none :: σ) H s₄ := by
 have below : ∀ {b : Addr} {o : Obj}, s.heap.get? b = some o -> b ≠ s.heap.objs.size := fun e => Nat.ne_of_lt (Heap.lt_size e)
 refine ⟨⟨I.ok.mod, ?_, I.ok.glob, I.ok.blt, Nat.le_refl _, fun y z c h1 h2 => I.ok.inj y z c (hcl y c h1).2 (hcl z c h2).2, fun y hy => ?_, (fun y c h => nomatch h), I.ok.hd, I.ok.frames, .inl rfl, fun b hb => ⟨Nat.ne_of_lt (hlt b hb), fun y c e => (hfp b hb).2.2.2.2.1 y c (hcl y c e).2⟩,
  fun b o e => I.bs b o e, Nat.le_trans I.ok.bsz I.sz, fun b o e hb => ?_, fun b hb hf => ?_, I.stack, I.g3b⟩,
  hos, by rw [hg]; exact I.bare, Un.kept hk, ⟨m, hns, fun i y v h1 h2 h3 => ?_⟩, fun y c e => ?_, I.hok.fresh (Nat.le_refl _), fun y c e => I.c9v y c (hcl y c e).2, fun p hp => absurd (show p ∈ ([] : List (Addr × Obj)) from hp) (by simp), I.hok.kept hk, by show (none :: σ).length = (x :: mask x X.N).length; rw [List.length_cons, List.length_cons, mask, List.length_map, I.len]⟩
 ·exact S.kind
 ·rcases c6q (env := X.env) (sc := scope) (x := y) hy with z | z
  ·obtain ⟨c, hc⟩ := I.ok.has y (S.free _ z rfl)
   exact ⟨c, (hcl2 y z).trans hc⟩
  ·exact absurd rfl (S.f9k _ z)
 ·rcases (hfp b hb).2.2.2.1 with z | z
  ·exact I.ok.h5h b o e z
  ·exact absurd (Nat.lt_of_lt_of_le (Heap.lt_size (I.ok.bs b o e).1) z) (Nat.lt_irrefl _)
 ·rcases List.mem_cons.mp (I.f8t b hf) with z | z
  ·exact (hfp b hb).2.1 z
  ·exact (hfp b hb).2.2.1 z
 ·cases i with
  | zero => cases h2
  | succ i =>
   have h1m : (mask x X.N)[i]? = some y := by simpa [b8z] using h1
   have h2' : σ[i]? = some (some v) := by simpa using h2
   have hyN : y ∈ mask x X.N := List.mem_of_getElem? h1m
   have hc : (relabel scope X.env).names.lookup y = some .cell \/ (relabel scope X.env).names.lookup y = some .free := by
    rcases h3 with z | z | z
    ·exfalso
     rcases c5z (env := X.env) scope.names _ z with q | ⟨q, _⟩
     ·exact S.vis y hyN q
     ·cases q
    ·exact .inl z
    ·exact .inr z
   have hfr : (y, NameKind.free) ∈ scope.names := by
    rcases c6q hc with z | z
    ·exact z
    ·exact absurd rfl (S.f9k _ z)
   have h1' : X.N[i]? = some y := by
    rw [mask, List.getElem?_map] at h1m
    obtain ⟨z, hz, e⟩ := Option.map_eq_some_iff.mp h1m
    by_cases hzx : z = x
    ·rw [if_pos hzx] at e
     exact absurd e.symm (S.noe _ hfr)
    ·rw [if_neg hzx] at e
     rw [hz, e]
   obtain ⟨mX, hnX, hl⟩ := I.loc
   have hk2 := S.free _ hfr rfl
   have hvis : Vis X.env.scope y := by
    rcases hk2 with z | z
    ·exact .inr (.inl z)
    ·exact .inr (.inr z)
   obtain ⟨u, ru, lk⟩ := hl i y v h1' h2' hvis
   refine ⟨u, ru, .inr ⟨hc, ?_⟩⟩
   rcases lk with ⟨z, _⟩ | ⟨_, c, ec, o, ho, hd⟩
   ·rcases hk2 with q | q
    ·rw [q] at z; cases z
    ·rw [q] at z; cases z
   ·exact ⟨c, (hcl2 y hfr).trans ec, o, hk c o ho, hd⟩
 ·obtain ⟨v, o, ho, hd⟩ := I.cell y c (hcl y c e).2
  exact ⟨v, o, hk c o ho, hd⟩
theorem Inv.h7z {σ' : St} {H' : Hp} {s' : Shared} {h' : Heap} (I : Inv X pins σ H s) (hfp : ∀ b ∈ fp, g0o X pins H b) (J : Inv (b8z X scope cl s.heap.objs.size s H fp x) [] σ' H' s') (hs : Heap.SameBut s.heap.objs.size s'.heap h') :
  Inv X pins σ H' { s' with heap := h' } := by
 have ne : ∀ {b : Addr} {o : Obj}, s.heap.get? b = some o -> b ≠ s.heap.objs.size := fun e => Nat.ne_of_lt (Heap.lt_size e)
 have u := J.base
 have u' : Un (frs X.stack) fp H H' s.heap h' := ⟨fun b o e n hb hx => hs.extBut b o (ne e) (u.keep b o e n hb hx), fun b o e n hb hx => (u.slot b o e n hb hx).elim fun sl q => ⟨sl, hs.extBut b _ (ne e) q⟩, u.free,
  fun b o e hx => (u.there b o e hx).elim fun o' q => ⟨o', hs.extBut b o' (ne e) q⟩, u.tups, u.f6h, u.f8r⟩
 have nC : ∀ {b : Addr} {o : HO}, H' b = some o -> b ≠ s.heap.objs.size := fun {b o} e z => by
  have f : H' s.heap.objs.size = none := J.free
  rw [z, f] at e; cases e
 have ok : HOk X.prog X.w H' h' := fun b o e => (J.hok b o e).stay (fun c v hc q => hs.extBut c v (by
  rcases hc with z | z
  ·rw [z]; exact nC e
  ·exact nC z) q) (fun _ q => q) fun _ _ q => q
 exact I.call' (s' := { s' with heap := h' }) (ch := fp) J.os u' ok J.bare fun b hb => ⟨(hfp b hb).2.2.2.1, (hfp b hb).2.1, (hfp b hb).2.2.2.2.1, (hfp b hb).2.2.2.2.2⟩
end
end L2
namespace L2
open PySem PySem.Spec PyProof.Rows
section
variable {X : Cx} {scope : Scope} {x : Str} {pins : List (Addr × Obj)} {σ : St} {elt iter : Expr} {px pos : Pos} {wi : TI} {te : TE}
theorem d9g {s₂ : Shared} {H1 : Hp} {it : Addr} {fp : List Addr} {tn : Nat -> Heap -> Prop} {J : It} {Q : VK} {RR : Value -> Addr -> Result -> Shared -> Prop} {E : Value -> Shared -> Prop} {cl : List (Str × Addr)}
  (S : c3p X scope x) (hc : X.calm = true) (he : ∀ cl C s₃ H₃ fp, PE (b8z X scope cl C s₃ H₃ fp x) elt te)
  (hcl : ∀ y c, cl.lookup y = some c -> (y, NameKind.free) ∈ scope.names /\ X.env.cells.lookup y = some c) (hcl2 : ∀ y, (y, NameKind.free) ∈ scope.names -> cl.lookup y = X.env.cells.lookup y)
  (I2 : Inv X pins σ H1 s₂) (T : Turn X.prog X.w X.K (.Name x px) J fp it tn) (st2 : tn 0 s₂.heap) (f2 : ∀ b ∈ fp, g0o X pins H1 b) (h : ∀ D H2, H1 D = none -> Same H1 H2 -> H2 D = some (.lst []) -> f0k J te D σ H2 Q ⟨⟩)
  (hRR : ∀ (D C : Addr) (s' : Shared) (H' : Hp), (∃ m, s'.heap.Ns C m) -> (∀ h' , Heap.SameBut C s'.heap h' -> Inv X pins σ H' { s' with heap := h' }) -> g0o X pins H' C -> Q (.ref D) H' -> RR (.ref D) C (.ok .next) s') :
  wpAny (model X.prog X.w) X.A (newList []) (fun acc s₃ => wpAny (model X.prog X.w) X.A (newFunctionEnv scope X.env.globals cl [] X.env.qual none .none (some X.env)) (fun cenv s₄ =>
   codeAny (model X.prog X.w) X.A (.compStart (.ListComp elt [⟨.Name x px, iter, [], 0⟩] scope pos) 0 (.ref it) acc { cenv with scope := relabel scope X.env }) (RR acc cenv.locals) s₄) E s₃) E s₂ := by
 have hfr : H1 s₂.heap.objs.size = none := I2.hok.fresh (Nat.le_refl _)
 have hCW := h s₂.heap.objs.size _ hfr (Same.upd hfr) a6j
 refine wpAny_newObj_type ?_
 have I3 : Inv X pins σ (upd H1 s₂.heap.objs.size (.lst [])) { s₂ with heap := s₂.heap.push { cls := .type "list", data := .seq ([] : List Value).toArray }, toks := s₂.toks } :=
  I2.laid (t' := s₂.toks) (fun b u e => Heap.get?_push_of_some _ e) (Nat.le_refl _) ⟨Nat.zero_le _, [], 0, .nil, Heap.get?_push_size _ rfl⟩
 have nD : ∀ b ∈ fp, b ≠ s₂.heap.objs.size := fun b hb => by
  obtain ⟨o, e, _⟩ := T.obj 0 _ st2 b hb
  exact Nat.ne_of_lt (Heap.lt_size e)
 have f3 : ∀ b ∈ fp, g0o X pins (upd H1 s₂.heap.objs.size (.lst [])) b := fun b hb => ⟨by rw [a3m (nD b hb)]; exact (f2 b hb).1, (f2 b hb).2⟩
 generalize hH3 : upd H1 s₂.heap.objs.size (.lst []) = H3 at *
 have st3 : tn 0 (s₂.heap.push { cls := .type "list", data := .seq ([] : List Value).toArray }) := T.keep _ _ _ st2 fun b _ o e => Heap.get?_push_of_some _ e
 have i2e : ∀ b ∈ fp, b < (s₂.heap.push { cls := .type "list", data := .seq ([] : List Value).toArray }).objs.size := fun b hb => by
  obtain ⟨o, e, _⟩ := T.obj 0 _ st3 b hb
  exact Heap.lt_size e
 show wpAny (model X.prog X.w) X.A (newFunctionEnv scope X.env.globals cl [] X.env.qual none .none (some X.env)) _ E { s₂ with heap := s₂.heap.push { cls := .type "list", data := .seq ([] : List Value).toArray }, toks := s₂.toks }
 generalize hs3 : ({ s₂ with heap := s₂.heap.push { cls := .type "list", data := .seq ([] : List Value).toArray }, toks := s₂.toks } : Shared) = s₃ at *
 have eh : s₃.heap = s₂.heap.push { cls := .type "list", data := .seq ([] : List Value).toArray } := by rw [← hs3]
 rw [<- eh] at st3 i2e
 generalize s₂.heap.objs.size = D at *
 refine wpAny_newFunctionEnv S.f9k (by intro y hy; simp at hy) (fun h₁ hns₁ hsb₁ => ?_) S.kind
 have hk1 : ∀ b o, s₃.heap.get? b = some o -> h₁.get? b = some o := fun b o e => hsb₁.extBut b o (Nat.ne_of_lt (Heap.lt_size e)) (Heap.get?_push_of_some _ e)
 have J0 : Inv (b8z X scope cl s₃.heap.objs.size s₃ H3 fp x) [] (none :: σ) H3 { s₃ with heap := h₁, toks := s₃.toks + ([] : List (Str × Value)).length } := I3.comp S hcl hcl2 f3 i2e hns₁ hk1 rfl rfl
 obtain ⟨n0, W, w0, turn⟩ := hCW
 have loop : codeAny (model X.prog X.w) X.A (.compLoop (.ListComp elt [⟨.Name x px, iter, [], 0⟩] scope pos) 0 (.ref it) (.ref D) (compEnvC scope cl s₃.heap.objs.size X.env)) (RR (.ref D) s₃.heap.objs.size) { s₃ with heap := h₁, toks := s₃.toks + ([] : List (Str × Value)).length } := by
  refine codeAny_loop rfl (fun n s' => ∃ i ys o H', Inv (b8z X scope cl s₃.heap.objs.size s₃ H3 fp x) [] (o :: σ) H' s' /\ tn i s'.heap /\ (∀ b ∈ fp, H' b = none) /\ W i ys H' /\ i <= n0 /\ n = n0 - i) (fun n s5 hI => ?_) n0
   ⟨0, [], none, H3, J0, T.keep _ _ _ st3 (fun b _ o e => hk1 b o e), fun b hb => (f3 b hb).1, w0, Nat.zero_le _, rfl⟩
  obtain ⟨i, ys, o5, H5, I5, st5, fr5, w5, hin, hnn⟩ := hI
  have stat : ∀ {H' : Hp}, (∀ b ∈ fp, H' b = none) -> ∀ b ∈ fp, g0o (b8z X scope cl s₃.heap.objs.size s₃ H3 fp x) [] H' b := fun hn b hb =>
   ⟨hn b hb, Nat.ne_of_lt (i2e b hb), fun z => (List.mem_cons.mp (I3.f8t b z)).elim (fun q => (f3 b hb).2.1 q) fun q => (f3 b hb).2.2.1 q, .inl hb, fun y c e => (f3 b hb).2.2.2.2.1 y c (hcl y c e).2, fun p hp => absurd (show p ∈ ([] : List (Addr × Obj)) from hp) (by simp)⟩
  show wpAny _ X.A ((compTurn (.ListComp elt [⟨.Name x px, iter, [], 0⟩] scope pos) 0 (.ref it) (.ref D) (compEnvC scope cl s₃.heap.objs.size X.env)).onRaise (fun x => do noteFrame x (compEnvC scope cl s₃.heap.objs.size X.env); theTreesLotGoes x)) _ _ s5
  refine wpAny_noted ?_
  rw [compTurn_list1]
  refine wpAny_bind (wpAny_standAt (wpAny_bind ?_))
  obtain ⟨hD5, alt⟩ := turn i ys H5 hin w5
  rcases alt with ⟨stop, q⟩ | ⟨hlt, go, hsz, step⟩
  ·refine wpAny_mono (T.done (b8z X scope cl s₃.heap.objs.size s₃ H3 fp x) rfl rfl rfl hc i [] s5 _ H5 _ I5 (stat fr5) st5 stop) (fun r s6 ⟨hr, I6⟩ => ?_) fun _ _ z => z
   subst hr
   refine wpAny_pure ?_
   obtain ⟨m6, hn6, _⟩ := I6.loc
   exact hRR D s₃.heap.objs.size s6 H5 ⟨m6, hn6⟩ (fun h' hs' => I3.h7z f3 I6 hs') (I3.h2n (Nat.le_refl _) I6.free) q
  ·refine wpAny_mono (T.item (b8z X scope cl s₃.heap.objs.size s₃ H3 fp x) rfl rfl rfl hc i [] s5 _ H5 _ I5 (stat fr5) st5 go) (fun r s6 ⟨u, hr, h6⟩ => ?_) fun _ _ z => z
   subst hr
   refine wpAny_bind (wpAny_mono h6 (fun _ s7 ⟨v, H7, I7, r7, y7, st7, fr7⟩ => ?_) fun _ _ z => z)
   have I7' := I7.pinned (stat fr7) (T.obj _ _ st7)
   have G := b0w (X := b8z X scope cl s₃.heap.objs.size s₃ H3 fp x) (pos := px) (i := 0) (x := x) S.nd rfl (.inl (lookup_relabel_local S.own)) (.inr (lookup_relabel_local S.own))
   refine wpAny_bind (wpAny_mono (G _ s7 _ H7 v u (fun σ' H' => σ' = some v :: σ /\ H' = H7) I7' r7 ⟨rfl, rfl⟩) (fun _ s8 hs8 => ?_) fun _ _ z => False.elim z)
   obtain ⟨σ8, H8, I8, rfl, rfl⟩ := hs8
   refine wpAny_bind (wpAny_bind (wpAny_mono (he cl s₃.heap.objs.size s₃ H3 fp _ s8 _ _ _ I8 (step v H8 y7)) (fun yv s9 hs9 => ?_) fun _ _ z => False.elim z))
   obtain ⟨y, H9, I9, r9, hD9, k9⟩ := hs9
   refine wpAny_bind (wpAny_mono (f3r (X := b8z X scope cl s₃.heap.objs.size s₃ H3 fp x) _ s9 _ H9 (.ref D) [y] (.ref D) [yv] (fun _ H' => H' = upd H9 D (.lst (ys ++ [y]))) I9 rfl (.cons r9 .nil) ⟨D, ys, y, rfl, rfl, hD9, hsz, rfl⟩) (fun _ sA hsA => ?_) fun _ _ z => False.elim z)
   obtain ⟨_, HA, IA, _, rfl⟩ := hsA
   refine wpAny_pure ?_
   have wA := k9 _ a6i.upd a6j
   refine wpAny_pure ⟨rfl, n0 - (i + 1), by omega, i + 1, ys ++ [y], some v, _, IA.d2z (pins := []) (pl := f2v fp s7.heap), T.keep _ _ _ st7 (fun b hb o e => (IA.pin (b, o) (List.mem_append_right _ (List.mem_append_right _ (c5y hb e)))).1), fun b hb => ?_, wA, hlt, rfl⟩
   obtain ⟨o, e, d⟩ := T.obj _ _ st7 b hb
   exact (IA.pin (b, o) (List.mem_append_right _ (List.mem_append_right _ (c5y hb e)))).2.1
 exact codeAny_compStart_list loop (T.self _ 0 _ _ _ (T.keep _ _ _ st3 fun b _ o e => hk1 b o e) loop)
theorem c9z (hi : PI X (.Name x px) iter wi) (he : ∀ cl C s₃ H₃ fp, PE (b8z X scope cl C s₃ H₃ fp x) elt te) (S : c3p X scope x) (hc : X.calm = true)
  (hs : ∀ x, foldedSetIterable iter X.env x = pure x := by intro _; rfl) : PE X (.ListComp elt [⟨.Name x px, iter, [], 0⟩] scope pos) (h3l wi te) := by
 intro pins s σ H Q I h
 obtain ⟨cl, hclos, hcl, hcl2⟩ := d8z (env := X.env) (sc := scope) fun y hy => I.ok.has y (S.free _ hy rfl)
 rw [eval_ListComp]
 refine wpAny_comprehension_free (use := none) rfl hs hclos S.kind S.loc ?_
 refine thn (hi pins s σ H _ I h) fun v s1 h1 => thn h1 fun itv s2 h2 => ?_
 obtain ⟨it, fp, tn, J, H2, e, I2, T, st2, f2, hW⟩ := h2
 subst e
 exact d9g (RR := fun acc C => compPost (model X.prog X.w) X.A X.xe none (EP X pins σ Q) acc C) S hc he hcl hcl2 I2 T st2 f2 hW fun D C s' H' hm hI _ hq =>
  hm.elim fun m hn => ⟨m, hn, fun h' hs' => ⟨.ref D, H', hI h' hs', rfl, hq⟩⟩
theorem f0l {i : Nat} {y : Str} {py spos : Pos} (hN : X.N.Nodup) (hyi : X.N[i]? = some y) (hy : X.env.scope.names.lookup y = some .local) (hi : PI X (.Name x px) iter wi) (he : ∀ cl C s₃ H₃ fp, PE (b8z X scope cl C s₃ H₃ fp x) elt te) (S : c3p X scope x) (hc : X.calm = true)
  (hsw : swapsWith (.ListComp elt [⟨.Name x px, iter, [], 0⟩] scope pos) (some (.Name y py)) spos.line X.env = pure true := by rfl)
  (hs : ∀ x, foldedSetIterable iter X.env x = pure x := by intro _; rfl) : PS X (.Assign [.Name y py] (.ListComp elt [⟨.Name x px, iter, [], 0⟩] scope pos) spos) (i1k (h3l wi te) (g7q i)) := by
 intro pins s σ H D I h
 obtain ⟨cl, hclos, hcl, hcl2⟩ := d8z (env := X.env) (sc := scope) fun y hy => I.ok.has y (S.free _ hy rfl)
 rw [exec_Assign_Name_used _ _ _ _ hsw]
 refine wpAny_bind (wpAny_standAt (wpAny_bind ?_))
 show wpAny _ X.A (do let _ <- comprehension (.ListComp elt [⟨.Name x px, iter, [], 0⟩] scope pos) scope X.env _ (newList []) false (eval iter X.env) (some (assign (.Name y py) X.env))) _ _ s
 refine wpAny_bind (wpAny_mono (wpAny_comprehension_free (use := some (assign (.Name y py) X.env)) (Q := fun _ s' => SP X pins D .next s') rfl hs hclos S.kind S.loc ?_) (fun _ s' hq => wpAny_pure (wpAny_pure hq)) fun _ _ e => e)
 refine thn (hi pins s σ H _ I h) fun v s1 h1 => thn h1 fun itv s2 h2 => ?_
 obtain ⟨it, fp, tn, J, H2, e, I2, T, st2, f2, hW⟩ := h2
 subst e
 refine d9g (Q := fun v H' => D.nx (σ.set i (some v)) H') (RR := fun acc C => compPost (model X.prog X.w) X.A X.xe (some (assign (.Name y py) X.env)) (fun _ s' => SP X pins D .next s') acc C) S hc he hcl hcl2 I2 T st2 f2 hW fun L C s' H' hm hI hfp hq => ?_
 obtain ⟨m, hn⟩ := hm
 have I' : Inv X pins σ H' s' := hI s'.heap (Heap.SameBut.refl ..)
 show wpAny _ X.A (assign (.Name y py) X.env (.ref L)) _ _ s'
 refine wpAny_assign_Name (f2t (v := .ref L) I' hN hyi (.inl hy) rfl (fun s'' I'' hsb => ?_) (.inr hy))
 obtain ⟨a, hsame, ha⟩ := hsb
 have nea : C ≠ a := by
  rcases ha with z | z
  ·rw [z]; exact hfp.2.1
  ·exact fun q => hfp.2.2.2.2.1 y a z q.symm
 refine ⟨m, hn.sameBut hsame nea, fun h' hs' => ⟨_, H', I''.turned (t' := s''.toks) (it := C) (fun b o hb e => hs'.extBut b o hb e) hfp.1 hfp.2.1 hfp.2.2.2.1 hfp.2.2.2.2.1 hfp.2.2.2.2.2, hq⟩⟩
end
theorem c6g {K : PySem.W.Frag} {a D : Addr} {xs : List V} {te : TE} {σ : St} {H : Hp} {Q : VK} (Pv : Nat -> List V -> Hp -> Prop) (h0 : Pv 0 [] H) (hsz : xs.length <= sizeLine)
  (hD : ∀ i ys H, i <= xs.length -> Pv i ys H -> H D = some (.lst ys) /\ SqL K H a xs /\ ys.length = i)
  (hs : ∀ i x ys H, xs[i]? = some x -> Pv i ys H -> te (some x :: σ) H fun y H2 => H2 D = some (.lst ys) /\ ∀ H3, a6i D H2 H3 -> H3 D = some (.lst (ys ++ [y])) -> Pv (i + 1) (ys ++ [y]) H3)
  (hd : ∀ ys H, Pv xs.length ys H -> Q (.ref D) H) : f0k (Itl K a) te D σ H Q ⟨⟩ := by
 refine ⟨xs.length, Pv, h0, fun i ys H hi p => ?_⟩
 obtain ⟨e1, e2, e3⟩ := hD i ys H hi p
 refine ⟨e1, ?_⟩
 by_cases hlt : i < xs.length
 ·refine .inr ⟨hlt, ⟨xs, xs[i], e2, by simp [hlt]⟩, by omega, fun x H' y => ?_⟩
  obtain ⟨e, y⟩ := y
  subst e
  exact hs i x ys _ (y xs e2) p
 ·have e : i = xs.length := by omega
  subst e
  exact .inl ⟨⟨xs, e2, Nat.le_refl _⟩, hd ys H p⟩
theorem d3t {D : Addr} {lo : Int} {n : Nat} {te : TE} {σ : St} {H : Hp} {Q : VK} (Pv : Nat -> List V -> Hp -> Prop) (h0 : Pv 0 [] H) (hsz : n <= sizeLine)
  (hD : ∀ i ys H, i <= n -> Pv i ys H -> H D = some (.lst ys) /\ ys.length = i)
  (hs : ∀ i ys H, i < n -> Pv i ys H -> te (some (.int (lo + i)) :: σ) H fun y H2 => H2 D = some (.lst ys) /\ ∀ H3, a6i D H2 H3 -> H3 D = some (.lst (ys ++ [y])) -> Pv (i + 1) (ys ++ [y]) H3)
  (hd : ∀ ys H, Pv n ys H -> Q (.ref D) H) : f0k (Itr lo n) te D σ H Q ⟨⟩ := by
 refine ⟨n, Pv, h0, fun i ys H hi p => ?_⟩
 obtain ⟨e1, e3⟩ := hD i ys H hi p
 refine ⟨e1, ?_⟩
 by_cases hlt : i < n
 ·refine .inr ⟨hlt, hlt, by omega, fun x H' y => ?_⟩
  obtain ⟨e, y⟩ := y
  subst e y
  exact hs i ys _ hlt p
 ·have e : i = n := by omega
  subst e
  exact .inl ⟨Nat.le_refl _, hd ys H p⟩
theorem Same.step {D : Addr} {H0 H H' : Hp} (S : Same H0 H) (n : H0 D = none) (s : a6i D H H') : Same H0 H' := fun b o e => s b o (a3s e n) (S b o e)
theorem f3w {K : PySem.W.Frag} {a D : Addr} {xs : List V} {te : TE} {σ : St} {H0 H : Hp} {Q : VK} (g : V -> V) (n0 : H0 D = none) (S : Same H0 H) (hD : H D = some (.lst [])) (hS : SqL K H0 a xs) (hsz : xs.length <= sizeLine)
  (hs : ∀ (i : Nat) x H' (Q' : VK), xs[i]? = some x -> Same H0 H' -> Q' (g x) H' -> te (some x :: σ) H' Q') (q : ∀ H', Same H0 H' -> H' D = some (.lst (xs.map g)) -> Q (.ref D) H') : f0k (Itl K a) te D σ H Q ⟨⟩ := by
 refine c6g (fun i ys H' => Same H0 H' /\ H' D = some (.lst ys) /\ ys = (xs.take i).map g) ⟨S, hD, by simp⟩ hsz (fun i ys H' hi p => ?_) (fun i x ys H' hx p => ?_) (fun ys H' p => ?_)
 ·refine ⟨p.2.1, p.1.seq hS, ?_⟩
  rw [p.2.2, List.length_map, List.length_take]
  omega
 ·refine hs i x H' _ hx p.1 ⟨p.2.1, fun H3 s3 h3 => ⟨p.1.step n0 s3, h3, ?_⟩⟩
  have hi : i < xs.length := (List.getElem?_eq_some_iff.mp hx).1
  rw [p.2.2, List.take_add_one, hx, List.map_append]
  rfl
 ·refine q H' p.1 ?_
  rw [p.2.1, p.2.2, List.take_length]
theorem d0g {D : Addr} {lo : Int} {n : Nat} {te : TE} {σ : St} {H0 H : Hp} {Q : VK} (g : Nat -> V) (n0 : H0 D = none) (S : Same H0 H) (hD : H D = some (.lst [])) (hsz : n <= sizeLine)
  (hs : ∀ (i : Nat) H' (Q' : VK), i < n -> Same H0 H' -> Q' (g i) H' -> te (some (.int (lo + i)) :: σ) H' Q') (q : ∀ H', Same H0 H' -> H' D = some (.lst ((List.range n).map g)) -> Q (.ref D) H') : f0k (Itr lo n) te D σ H Q ⟨⟩ := by
 refine d3t (fun i ys H' => Same H0 H' /\ H' D = some (.lst ys) /\ ys = (List.range i).map g) ⟨S, hD, by simp⟩ hsz (fun i ys H' hi p => ?_) (fun i ys H' hx p => ?_) (fun ys H' p => ?_)
 ·refine ⟨p.2.1, ?_⟩
  rw [p.2.2, List.length_map, List.length_range]
 ·refine hs i H' _ hx p.1 ⟨p.2.1, fun H3 s3 h3 => ⟨p.1.step n0 s3, h3, ?_⟩⟩
  rw [p.2.2, List.range_succ, List.map_append]
  rfl
 ·refine q H' p.1 ?_
  rw [p.2.1, p.2.2]
noncomputable def h0s (sc scope : Scope) (x : Str) (N : List Str) : Bool :=
 (scope.kind == .function) && scope.names.all (fun y => y.2 != .cell) && scope.names.all (fun y => y.2 != .local || scope.names.lookup y.1 == some .local) && (scope.names.lookup x == some .local) &&
 scope.names.all (fun y => y.2 != .free || (sc.names.lookup y.1 == some .cell || sc.names.lookup y.1 == some .free)) && decide ((x :: mask x N).Nodup) && scope.names.all (fun y => y.1 != "") && (mask x N).all (fun y => scope.names.lookup y != some .local)
theorem d7l {X : Cx} {sc scope : Scope} {x : Str} {N : List Str} (hsc : X.env.scope = sc) (hN : X.N = N) (h : h0s sc scope x N = true) : c3p X scope x := by
 subst hN hsc
 unfold h0s at h
 simp only [Bool.and_eq_true, List.all_eq_true, beq_iff_eq, Bool.or_eq_true, bne_iff_ne, ne_eq, decide_eq_true_eq] at h
 obtain ⟨⟨⟨⟨⟨⟨⟨h1, h2⟩, h3⟩, h4⟩, h5⟩, h6⟩, h7⟩, h8⟩ := h
 exact ⟨h1, h2, fun y hy e => (h3 y hy).resolve_left fun z => z e, h4, fun y hy e => (h5 y hy).resolve_left fun z => z e, h6, h7, h8⟩
end L2
namespace L2
open PySem PySem.Spec PyProof.Rows
noncomputable def h8a : V -> Hp -> Bool := fun x H => match x with
 | .ref l => (match H l with
  | some (.lst _) => true
  | _ => false)
 | _ => false
noncomputable def h0t : V -> Hp -> Bool := fun x _ => match x with
 | .str _ => true
 | _ => false
theorem c8t {K : PySem.W.Frag} : ∀ x H, h8a x H = true → tyV K "list" x H := fun x H h => by
 cases x with
 | ref l =>
  have h' : (match H l with
   | some (.lst _) => true
   | _ => false) = true := h
  split at h'
  ·rename_i xs e
   exact .inl ⟨rfl, xs, SqL.of e⟩
  ·cases h'
 | _ => cases h
theorem c8u {K : PySem.W.Frag} : ∀ x H, h0t x H = true → tyV K "str" x H := fun x H h => by
 cases x with
 | str z => exact rfl
 | _ => cases h
noncomputable def i4l (chk : V -> Hp -> Bool) (r : V -> List V -> Hp -> VK -> Prop) (to : TE) (t : TA) : TE := fun σ H Q => to σ H fun x H1 => chk x H1 = true /\ t σ H1 fun xs H2 => r x xs H2 Q
section
variable {X : Cx} {o e : Expr} {es : List Expr} {to : TE} {t : TA} {name : Str} {apos cpos : Pos} {T id : String} {r r' : V -> List V -> Hp -> VK -> Prop} {chk : V -> Hp -> Bool}
theorem MtR.weak (h : MtR X id r) (q : ∀ x xs H Q, r' x xs H Q -> r x xs H Q) : MtR X id r' := fun pins s σ H x xs v us Q I rx rs hr => h pins s σ H x xs v us Q I rx rs (q x xs H Q hr)
theorem c8v (hchk : ∀ x H, chk x H = true → tyV X.K T x H) (pa : PlainAttrs T) (slot : Slot T name id) (hty : typeOf (.builtin id) = pure (.type "method_descriptor")) (hm : MtR X id r) (ho : PE X o to) (ha : PA X (e :: es) t)
  (hbase : attributeBase o name X.env (eval o X.env) = eval o X.env := by rfl)
  (hfew : ((backTo cpos (starEach (e :: es) X.env)).all (fun x => !x.1) && (backToKw cpos (keywordEach [] X.env)).all (fun x => x.1.isSome)
   && decide ((e :: es).length + ([] : List Keyword).length + (if ([] : List Keyword).isEmpty then 0 else 1) < 30)) = true := by rfl)
  (hline : (apos.endLine == cpos.line) = true := by rfl) (hs : starEach (e :: es) X.env = (false, eval e X.env) :: starEach es X.env := by rfl) (hplain : (backTo cpos (starEach es X.env)).any (·.1) = false := by rfl) :
  PE X (.Call (.Attribute o name apos) (e :: es) [] cpos) (i4l chk r to t) := by
 intro pins s σ H Q I h
 refine wpAny_Call_method_late hbase hfew hline rfl (thn (ho pins s σ H _ I h) fun v s1 ⟨x, H1, I1, r1, ty, q1⟩ => ?_)
 obtain ⟨h1, h2⟩ := h6t I1 r1 (hchk x H1 ty)
 refine ⟨T, id, pa, slot, hty, h1, h2, ?_⟩
 have hA := ha cpos pins s1 σ H1 _ I1 q1
 rw [hs] at hA ⊢
 refine Calls.callWith_builtin (by show (false || (backTo cpos (starEach es X.env)).any (·.1)) = false; rw [hplain] <;> rfl) (Calls.evalArgs_plain ?_)
 exact thn hA fun us s2 ⟨vs, H2, I2, r2, q2⟩ => hm pins s2 σ H2 x vs v us Q I2 r1 r2 q2
noncomputable def h8b : V -> List V -> Hp -> VK -> Prop := fun x vs H Q => match x, vs with
 | .ref l, [y] => (match H l with
  | some (.lst xs) => xs.length < sizeLine /\ All (fun v H1 => v = .non /\ a6i l H H1 /\ H1 l = some (.lst (xs ++ [y]))) Q ⟨⟩ ⟨⟩
  | _ => False)
 | _, _ => False
theorem c6h : MtR X "list.append" h8b := MtR.weak (r := g3z) f3r fun x vs H Q h => by
 match x, vs, h with
 | .ref l, [y], h =>
  have h' : (match H l with
   | some (.lst xs) => xs.length < sizeLine /\ All (fun v H1 => v = .non /\ a6i l H H1 /\ H1 l = some (.lst (xs ++ [y]))) Q ⟨⟩ ⟨⟩
   | _ => False) := h
  split at h'
  ·rename_i xs e
   exact ⟨l, xs, y, rfl, rfl, e, h'.1, h'.2 _ _ ⟨rfl, a6i.upd, a6j⟩⟩
  ·exact h'.elim
end
noncomputable def f3y {α : Type} (xs : List α) (lo hi : Option Int) : List α := (xs.drop (HT.sIx xs.length 0 lo)).take (HT.sIx xs.length xs.length hi - HT.sIx xs.length 0 lo)
theorem g8e {α β : Type} (f : α -> β) (xs : List α) (lo hi : Option Int) : f3y (xs.map f) lo hi = (f3y xs lo hi).map f := by
 unfold f3y
 rw [List.length_map, List.map_take, List.map_drop]
theorem b9g (ns : List Int) (lo hi : Option Int) : f3k (ns.map V.int) lo hi = (f3y ns lo hi).map V.int := g8e V.int ns lo hi
theorem g8f {α : Type} {xs : List α} {lo hi : Option Int} {x : α} (h : x ∈ f3y xs lo hi) : x ∈ xs := List.mem_of_mem_drop (List.mem_of_mem_take h)
theorem g8g {α : Type} (xs : List α) (lo hi : Option Int) : (f3y xs lo hi).length <= xs.length := by
 unfold f3y
 rw [List.length_take, List.length_drop]
 omega
theorem b2t {α : Type} (xs : List α) (a : Nat) : f3y xs (some (a : Int)) none = xs.drop a := by
 unfold f3y
 rw [HT.g3v, HT.f9h]
 by_cases h : a <= xs.length
 ·rw [Nat.min_eq_left h, List.take_of_length_le (by rw [List.length_drop] <;> exact Nat.le_refl _)]
 ·rw [Nat.min_eq_right (by omega), List.drop_length, List.drop_of_length_le (by omega)]
  simp
theorem g4t {α : Type} (xs : List α) (a : Nat) : f3y xs none (some (a : Int)) = xs.take a := by
 unfold f3y
 rw [HT.g3v, HT.f9h, List.drop_zero, Nat.sub_zero]
 by_cases h : a <= xs.length
 ·rw [Nat.min_eq_left h]
 ·rw [Nat.min_eq_right (by omega), List.take_length, List.take_of_length_le (by omega)]
end L2
namespace L2
theorem f0m (F : Nat -> St -> Hp -> Prop) : ∃ Pv : Nat -> St -> Hp -> Prop, (∀ i σ H, F i σ H -> Pv i σ H) /\ ∀ i σ H, Pv i σ H -> F i σ H := ⟨F, fun _ _ _ h => h, fun _ _ _ h => h⟩
theorem g8h (F : St -> Hp -> Prop) : ∃ Pv : St -> Hp -> Prop, (∀ σ H, F σ H -> Pv σ H) /\ ∀ σ H, Pv σ H -> F σ H := ⟨F, fun _ _ h => h, fun _ _ h => h⟩
end L2
namespace L2
open PySem PySem.Spec PyProof.Rows
open PySem.Builtin.Int (intBits)
section
variable {X : Cx}
noncomputable def h8c : List V -> Hp -> VK -> Prop := fun xs H Q => match xs with
 | [.ref p] => (match H p with
  | some (.lst ys) => ∃ ns : List Int, ys = ns.map V.int /\ Q (.int ns.sum) H
  | _ => False)
 | _ => False
theorem f3z (hc : X.calm = true) : a8i X (.builtin "sum") h8c := by
 intro pins s σ H xs us Q I r h
 match xs, r, h with
 | [.ref p], r, h =>
  have h' : (match H p with
   | some (.lst ys) => ∃ ns : List Int, ys = ns.map V.int /\ Q (.int ns.sum) H
   | _ => False) := h
  split at h'
  ·rename_i ys e
   obtain ⟨ns, rfl, q⟩ := h'
   obtain ⟨u, rfl, ru⟩ := vals1 r
   cases (show u = Value.ref p from ru)
   obtain ⟨its, rv, ⟨o, n, e1, c1, d1, dd⟩, _⟩ := I.list (SqL.of e)
   have hi : IntsAre its ns := intsAre_of rv
   obtain ⟨xs, hx⟩ := hi.allInts.items
   have hn := hi.numsOf
   have hl : s.heap.IsList p (intItems xs) := ⟨o, e1, c1, n, by rw [<- hx]; exact dd⟩
   have hs : ns = xs.toList.map (·.1) := by
    rw [<- nums_intItems, <- hx]
    exact hn.symm
   refine sum_intListG (I.ok.hd hc) hl fun h' tk t' hk => ⟨.int ns.sum, H, I.kept hk, ⟨t', ?_⟩, q⟩
   rw [preSum_eq, List.take_of_length_le (by simp), hs]
  ·exact h'.elim
end
noncomputable def h0u (g : TG) (tb : TS) (D : Ends) : Nat -> Int -> St -> Hp -> Prop
 | 0, _, σ, H => D.nx σ H
 | k + 1, x, σ, H => g (.int x) σ H fun σ2 H2 => tb { D with nx := h0u g tb D k (x + 1), ct := h0u g tb D k (x + 1), bk := D.nx } σ2 H2
noncomputable def Stop (p : Prop) (_ : Tag p) : Prop := p
theorem Stop.go {p : Prop} {t : Tag p} (h : p) : Stop p t := h
noncomputable def h8d (t u : TS) : TS := fun D σ H => t { D with nx := fun σ' H' => Stop (u D σ' H') ⟨⟩ } σ H
noncomputable def Hs (H : Hp) (fs : List (Addr × HO)) : Prop := (fs.map (·.1)).Nodup /\ ∀ p ∈ fs, H p.1 = some p.2
noncomputable def HsC (H : Hp) : List (Addr × HO) -> Prop
 | [] => True
 | (a, o) :: r => H a = some o ∧ HsC H r
theorem Hs.nil {H : Hp} : Hs H [] := ⟨List.nodup_nil, fun _ h => nomatch h⟩
theorem Hs.same {H H' : Hp} {fs : List (Addr × HO)} (F : Hs H fs) (S : Same H H') : Hs H' fs := ⟨F.1, fun p hp => S _ _ (F.2 p hp)⟩
theorem Hs.fresh {H : Hp} {fs : List (Addr × HO)} {a : Addr} (F : Hs H fs) (n : H a = none) : a ∉ fs.map (·.1) := fun h => by
 obtain ⟨p, hp, e⟩ := List.mem_map.mp h
 have := F.2 p hp
 rw [e, n] at this
 cases this
theorem Hs.new {H H' : Hp} {fs : List (Addr × HO)} {a : Addr} {o : HO} (F : Hs H fs) (n : H a = none) (S : Same H H') (h : H' a = some o) : Hs H' ((a, o) :: fs) := by
 refine ⟨?_, fun p hp => ?_⟩
 ·rw [List.map_cons, List.nodup_cons]
  exact ⟨F.fresh n, F.1⟩
 ·rcases List.mem_cons.mp hp with rfl | hp
  ·exact h
  ·exact S _ _ (F.2 p hp)
theorem Hs.get {H : Hp} : ∀ {fs : List (Addr × HO)}, Hs H fs -> HsC H fs
 | [], _ => trivial
 | (a, o) :: r, F => ⟨F.2 (a, o) List.mem_cons_self, Hs.get ⟨(List.nodup_cons.mp F.1).2, fun p hp => F.2 p (List.mem_cons_of_mem _ hp)⟩⟩
theorem Hs.drop {H : Hp} {l r : List (Addr × HO)} (F : Hs H (l ++ r)) : Hs H r := ⟨(List.nodup_append.mp (by rw [<- List.map_append]; exact F.1)).2.1, fun p hp => F.2 p (List.mem_append_right _ hp)⟩
theorem f4g {ns : List Int} {i : Nat} (h : i < ns.length) : atI (ns.map V.int) (i : Int) = some (.int (ns.getD i 0)) := by
 refine c9w ?_
 rw [List.getElem?_map, List.getElem?_eq_getElem h, List.getD_eq_getElem?_getD, List.getElem?_eq_getElem h]
 rfl
noncomputable def g7g (H : Hp) (cs : List Addr) (bs : List (List Int)) : Prop := cs.length = bs.length /\ ∀ (i : Nat) c b, cs[i]? = some c -> bs[i]? = some b -> H c = some (.lst (b.map V.int))
theorem g7g.same {H H' : Hp} {cs : List Addr} {bs : List (List Int)} (h : g7g H cs bs) (s : Same H H') : g7g H' cs bs := ⟨h.1, fun i c b e1 e2 => s _ _ (h.2 i c b e1 e2)⟩
theorem g7g.get {H : Hp} {cs : List Addr} {bs : List (List Int)} (h : g7g H cs bs) {i : Nat} {c : Addr} (e : cs[i]? = some c) : ∃ b, bs[i]? = some b /\ H c = some (.lst (b.map V.int)) := by
 have hi : i < cs.length := (List.getElem?_eq_some_iff.mp e).1
 have hb : i < bs.length := by rw [<- h.1]; exact hi
 exact ⟨bs[i], by simp [hb], h.2 i c _ e (by simp [hb])⟩
theorem g7g.snoc {H : Hp} {cs : List Addr} {bs : List (List Int)} {c : Addr} {b : List Int} (h : g7g H cs bs) (hc : H c = some (.lst (b.map V.int))) : g7g H (cs ++ [c]) (bs ++ [b]) := by
 refine ⟨by rw [List.length_append, List.length_append, h.1]; rfl, fun i c' b' e1 e2 => ?_⟩
 by_cases hi : i < cs.length
 ·rw [List.getElem?_append_left hi] at e1
  rw [List.getElem?_append_left (by rw [<- h.1]; exact hi)] at e2
  exact h.2 i c' b' e1 e2
 ·rw [List.getElem?_append_right (by omega)] at e1
  rw [List.getElem?_append_right (by rw [<- h.1]; omega)] at e2
  rw [<- h.1] at e2
  cases hz : i - cs.length with
  | zero =>
   rw [hz] at e1 e2
   simp at e1 e2
   subst e1 e2
   exact hc
  | succ n =>
   rw [hz] at e1
   simp at e1
noncomputable def dB (bs : List (List Int)) : PySem.W.Dat := .list (bs.map fun b => .list (b.map .int))
theorem g7g.two {H : Hp} {a b : Addr} {x y : List Int} (ha : H a = some (.lst (x.map V.int))) (hb : H b = some (.lst (y.map V.int))) : g7g H [a, b] [x, y] := by
 refine ⟨rfl, fun i c d e1 e2 => ?_⟩
 match i, e1, e2 with
 | 0, e1, e2 => cases e1; cases e2; exact ha
 | 1, e1, e2 => cases e1; cases e2; exact hb
 | i + 2, e1, e2 => simp at e1
noncomputable def f9l (H : Hp) (xs : List V) (v : V) (H' : Hp) : Prop := ∃ b, v = .ref b /\ H b = none /\ Same H H' /\ H' b = some (.lst xs)
noncomputable def b5i (H : Hp) (xs : List V) (v : V) (H' : Hp) : Prop := ∃ b, v = .ref b /\ H b = none /\ Same H H' /\ H' b = some (.tup xs)
noncomputable def d0h (q : Rat) : List V := [.int q.num, .int (q.den : Nat)]
end L2
namespace L2
open PySem PySem.Spec PyProof.Rows
noncomputable def CXE (P : Program) (w : World) : CXT := fun outer H s E e s' => ∃ (a : Addr) (C a0 : Value) (B : Heap) (H' : Hp), e = .ref a /\ Heap.FlyingW B outer a C a0 s'.heap /\ s'.os = s.os /\ AllBare s'.gens /\
 (∀ h', B.StaysIn h' -> s'.heap.UpToSlots h' -> Un (frs outer) [] H H' s.heap h' /\ HOk P w H' h') /\ H' a = none /\ s.heap.get? a = none /\ E C none H'
theorem b4y.obj {P : Program} {w : World} {H : Hp} {h : Heap} {a : Addr} {o : HO} (x : b4y P w H h a o) : ∃ u, h.get? a = some u := by
 cases o with
 | lst xs => obtain ⟨_, _, _, _, e⟩ := x; exact ⟨_, e⟩
 | tup xs => obtain ⟨_, _, _, ob, e, _⟩ := x; exact ⟨_, e⟩
 | dK kvs => obtain ⟨_, _, _, _, o, _, _, e, _⟩ := x; exact ⟨_, e⟩
 | dT kvs => obtain ⟨_, _, _, _, o, _, _, e, _⟩ := x; exact ⟨_, e⟩
 | set S n => obtain ⟨o, _, _, _, e, _⟩ := x; exact ⟨_, e⟩
 | ins C dx fs => obtain ⟨_, _, _, e, _⟩ := x; exact ⟨_, e⟩
 | own y => obtain ⟨_, e⟩ := x; exact ⟨_, e⟩
 | xd fs => obtain ⟨_, ⟨_, _, _, e, _⟩, _⟩ := x; exact ⟨_, e⟩
 | rng lo hi => obtain ⟨_, _, _, e⟩ := x; exact ⟨_, e⟩
 | frz ob u => obtain ⟨e, _⟩ := x; exact ⟨_, e⟩
 | tbl ps => exact ⟨_, (show h.get? a = some _ from x)⟩
 | met f y => exact ⟨_, (show h.get? a = some _ from x)⟩
 | ext φ => obtain ⟨_, ⟨_, e⟩, _⟩ := x; exact ⟨_, e⟩
section
variable {X : Cx} {pins : List (Addr × Obj)} {σ : St} {H : Hp} {s : Shared}
theorem Inv.caught {H' : Hp} {s' : Shared} {h' : Heap} {t' : Nat} (I : Inv X pins σ H s) (os : s'.os = s.os) (bare : AllBare s'.gens) (u : Un (frs X.stack) [] H H' s.heap h') (hok : HOk X.prog X.w H' h') : Inv X pins σ H' { s' with heap := h', toks := t' } := by
 obtain ⟨hh, g, d, t, os'⟩ := s'
 obtain rfl : os' = s.os := os
 exact Inv.call (s := s) (h' := h') (g' := g) (d' := d) (t' := t') (ch := []) I u hok bare (fun b z => absurd z (by simp))
theorem Inv.track {a : Addr} {o : HO} (I : Inv X pins σ H s) (h1 : X.s₀.heap.get? a = none) (h2 : a ≠ X.env.locals) (h3 : ∀ x c, X.env.cells.lookup x = some c -> c ≠ a) (h4 : ∀ p ∈ X.pn ++ pins, p.1 ≠ a) (hH : H a = none)
  (new : b4y X.prog X.w (upd H a o) s.heap a o) : Inv X pins σ (upd H a o) s := by
 refine ⟨I.ok, I.os, I.bare, ⟨I.base.keep, I.base.slot, fun b u q n hx => ?_, I.base.there, fun b xs q => ?_, fun b u xs q => ?_, fun b ps q => ?_⟩, I.loc, I.cell, ?_, fun x c e => ?_, fun p hp => ?_, fun b u e => ?_, I.len⟩
 ·rw [a3m (fun z => by rw [z, h1] at q; cases q)]
  exact I.base.free b u q n hx
 ·have z := I.base.tups b xs q
  rw [a3m (a3s z hH)]
  exact z
 ·have z := I.base.f6h b u xs q
  rw [a3m (a3s z hH)]
  exact z
 ·obtain ⟨m, z⟩ := I.base.f8r b ps q
  exact ⟨m, by rw [a3m (a3s z hH)]; exact z⟩
 ·rw [a3m h2.symm]
  exact I.free
 ·rw [a3m (h3 x c e)]
  exact I.c9v x c e
 ·obtain ⟨e, n, ne, nf, d⟩ := I.pin p hp
  exact ⟨e, by rw [a3m (h4 p hp)]; exact n, ne, nf, d⟩
 ·by_cases hb : b = a
  ·subst hb
   rw [a6j] at e
   cases e
   exact new
  ·rw [a3m hb] at e
   exact (I.hok b u e).stay (fun _ _ _ q => q) (fun c q => by rw [a3m (a3s q hH)]; exact q) fun c xs q => by rw [a3m (a3s q hH)]; exact q
noncomputable def i4m (X : Cx) (E : XK) : Prop := ∀ (pins : List (Addr × Obj)) (σ : St) (H : Hp) (s : Shared) (e C : Addr) (args : List Value) (h' : Heap), Inv X pins σ H s -> Heap.MadeExcOf s.heap h' e (.ref C) args -> E (.ref C) none H -> X.xe (.ref e) { s with heap := h' }
end
section
variable {P : Program} {w : World} {K : PySem.W.Frag} {mg : Str -> Option Value} {base : Heap} {N : List Str} {qual : Str} {scope : Scope} {f : Addr} {cd : Value} {A : Around} {outer : List Env} {s : Shared} {H : Hp} {E : XK}
end
theorem a1p.or {P : Program} {w : World} {K : PySem.W.Frag} {mg : Str -> Option Value} {base : Heap} {k : Nat} {f : Addr} {fd : FuncData} {ps : List Str} {sp sp' : Sp} (F : a1p P w K mg base CX0 k f fd ps sp) (G : a1p P w K mg base (CXE P w) k f fd ps sp') :
  a1p P w K mg base (CXE P w) k f fd ps (fun vs H Q E => sp vs H Q E \/ sp' vs H Q E) := by
 refine ⟨fun vs H Q E h => h.elim (F.len vs H Q E) (G.len vs H Q E), fun A outer s H args us vs Q E hr e0 hb hv h => ?_⟩
 rcases h with h | h
 ·refine codeAny_mono (F.run A outer s H args us vs Q E hr e0 hb hv h) fun r s' q => ?_
  cases r with
  | error e => exact False.elim q
  | ok fl => cases fl <;> exact q
 ·exact G.run A outer s H args us vs Q E hr e0 hb hv h
noncomputable abbrev vE : List Value := [.type "ValueError", .type "Exception", .type "BaseException", .type "object"]
structure Exc (K : PySem.W.Frag) (C : Addr) : Prop where
 ok : PySem.W.excIn K C vE "ValueError.__new__" = true
section
variable {X : Cx} {e₀ : Expr} {rest : List Expr} {t : TA} {x : Str} {C : Addr} {E : XK} {np cpos pos : Pos}
noncomputable def h8e (C : Addr) (E : XK) (t : TA) : TS := fun _ σ H => t σ H fun vs H1 => vs.length <= sizeLine /\ E (.ref C) none H1
end
structure i4n (K : PySem.W.Frag) (C : Addr) : Prop where
 ga : PySem.W.findIn K (.ref C) "__getattribute__" = some (some (.builtin "BaseException.__getattribute__"))
 cl : PySem.W.findIn K (.ref C) "__class__" = some (some (.builtin "object.__class__"))
 ng : PySem.W.findIn K (.ref C) "__getattr__" = some none
 so : PySem.W.subIn K (.ref C) (.type "object") = some true
 sb : PySem.W.subIn K (.ref C) (.type "BaseException") = some true
 ty : PySem.W.typeIn K (.ref C) = some (.type "type")
 ic : PySem.W.isClsIn K C = true
 ss : PySem.W.subIn K (.ref C) (.ref C) = some true
section
variable {prog : Program} {w : World} {A : Around} {E : Value -> Shared -> Prop} {h : Heap} {g : Array GenState} {d : Drawn} {t : Nat} {os : OsState} {a C : Addr} {o : Obj} {K : PySem.W.Frag}
end
noncomputable def i2f (a : Addr) (C : Value) : HO := .ext fun h => ∃ o, h.get? a = some o /\ o.cls = C
section
variable {X : Cx}
noncomputable def rIsX (K : PySem.W.Frag) : List V -> Hp -> VK -> Prop := fun xs H Q => match xs with
 | [.non, .ref D] => (∃ b, PySem.W.kitOne K (.type "NoneType") (.ref D) = some b ∧ Q (.bl b) H)
 | [.ref a, .ref D] => ∃ C b, H a = some (i2f a (.ref C)) /\ i4n K C /\ PySem.W.kitOne K (.ref C) (.ref D) = some b /\ Q (.bl b) H
 | [.ref a, .ty n] => ∃ C b, H a = some (i2f a (.ref C)) /\ i4n K C /\ PySem.W.kitOne K (.ref C) (.type n) = some b /\ Q (.bl b) H
 | [.non, .ty n] => (∃ b, PySem.W.kitOne K (.type "NoneType") (.type n) = some b ∧ Q (.bl b) H)
 | _ => False
end
noncomputable def XPo (X : Cx) (pins : List (Addr × Obj)) (σ : St) (E : XK) (e : Value) (s' : Shared) : Prop := ∃ H1 s1, Inv X pins σ H1 s1 /\ CXE X.prog X.w X.stack H1 s1 E e s'
noncomputable def PEX (X : Cx) (e : Expr) (t : TE) (E : XK) : Prop :=
 ∀ (pins : List (Addr × Obj)) (s : Shared) (σ : St) (H : Hp) (Q : VK), Inv X pins σ H s -> t σ H Q -> wpAny (model X.prog X.w) X.A (eval e X.env) (EP X pins σ Q) (XPo X pins σ E) s
noncomputable def PSX (X : Cx) (st : Stmt) (t : TS) (E : XK) : Prop :=
 ∀ (pins : List (Addr × Obj)) (s : Shared) (σ : St) (H : Hp) (D : Ends), Inv X pins σ H s -> t D σ H -> wpAny (model X.prog X.w) X.A (exec st X.env) (SP X pins D) (XPo X pins σ E) s
section
variable {X : Cx} {k : Nat} {f C : Addr} {fd : FuncData} {ps : List Str} {sp : Sp} {dvs : List V} {ds : List Value} {E : XK} {x m : Str} {p pos apos : Pos} {e o : Expr} {es : List Expr} {ta : TE} {t : TA}
end
section
variable {X : Cx} {pins : List (Addr × Obj)} {σ : St} {H : Hp} {s : Shared}
noncomputable abbrev Cx.held (X : Cx) (e : Addr) : Cx := { X with A := X.A.mark (some (.ref e)), calm := false, xe := fun _ _ => False }
theorem Inv.held (I : Inv X pins σ H s) (e : Addr) : Inv (X.held e) pins σ H s :=
 ⟨⟨I.ok.mod, I.ok.kind, I.ok.glob, I.ok.blt, I.ok.above, I.ok.inj, I.ok.has, I.ok.cab, fun h => Bool.noConfusion h, I.ok.frames, I.ok.stk, I.ok.exf, I.ok.bs, I.ok.bsz, I.ok.h5h, I.ok.h5s, I.ok.f8s, I.ok.frf⟩, I.os, I.bare, I.base, I.loc, I.cell, I.free, I.c9v, I.pin, I.hok, I.len⟩
end
noncomputable def hAs (K : PySem.W.Frag) (D : Addr) (i : Nat) (th : TS) (Dn : Ends) (σ : St) : XK := fun C _ H' => ∃ c, C = .ref c /\ PySem.W.subIn K (.ref c) (.ref D) = some true /\
 ∀ e H2, H' e = none -> Same H' H2 -> H2 e = some (i2f e (.ref c)) -> th { nx := fun σ2 H3 => Dn.nx (σ2.set i none) H3, rt := Dn.rt, bk := fun σ2 H3 => Dn.bk (σ2.set i none) H3, ct := fun σ2 H3 => Dn.ct (σ2.set i none) H3 } (σ.set i (some (.ref e))) H2
noncomputable def h8f (K : PySem.W.Frag) (D : Addr) (i : Nat) (tb : XK -> TS) (th : TS) : TS := fun Dn σ H => tb (hAs K D i th Dn σ) Dn σ H
section
variable {X : Cx} {D : Addr} {dn n : Str} {i : Nat} {st b₀ : Stmt} {suite : List Stmt} {tb : XK -> TS} {th : TS} {np hpos pos : Pos}
end
noncomputable def h8g : TE := fun _ H Q => New H (.dK []) Q ⟨⟩
end L2
namespace L2
open PySem PySem.Spec PyProof.Rows
section
variable {X : Cx} {tg : Expr}
noncomputable def h8h (g : Str -> Str -> V) : V -> List V -> Hp -> VK -> Prop := fun x vs H Q => match x, vs with
 | .str z, [.str y] => Q (g z y) H
 | _, _ => False
theorem c8w : MtR X "str.startswith" (h8h fun z y => .bl (Txt.startswith z y)) := by
 intro pins s σ H x xs v us Q I rx rs h
 match x, xs, h with
 | .str z, [.str y], q =>
  obtain ⟨t, rfl⟩ := rx
  obtain ⟨u, rfl, t', rfl⟩ := vals1 rs
  exact call_gives F.slot_str_startswith (typeIs_str _ _ _) F.entry_str_startswith (F.args_str_startswith_2 _ _) (gives_str_startswith z y t t') ⟨.bl (Txt.startswith z y), H, I, rfl, q⟩
noncomputable def Its (x : Str) : It := ⟨fun i _ => i < x.cps.size, fun i H v H' => H' = H /\ ∃ c, x.cps[i]? = some c /\ v = .str ⟨#[c]⟩, fun i _ => i = x.cps.size⟩
theorem g8i {P : Program} {w : World} {K : PySem.W.Frag} (it : Addr) (x : Str) (t : Tok) {n : String} (hn : ["enumerate", "zip", "dict_itemiterator", "dict_reverseitemiterator", "odict_iterator", "itertools.zip_longest", "itertools.pairwise"].contains n = false)
  (W : ∀ A' : Around, A'.handled = none -> Walks P w A' it [it] [it] x.cps.size (SignAt x) (fun i h => h.IsStrIter it n x t i))
  (S : ∀ (A : Around) (i : Nat) (s : Shared) (Q : Value -> Shared -> Prop) (E : Value -> Shared -> Prop), s.heap.IsStrIter it n x t i -> Q (.ref it) s -> wpAny (model P w) A (pyIter (.ref it)) Q E s) : Turn P w K tg (Its x) [it] it (fun i h => h.IsStrIter it n x t i) where
 mem := by simp
 obj := fun i h st b hb => by
  have e : b = it := by simpa using hb
  subst e
  obtain ⟨o, e, c, d⟩ := st
  exact ⟨o, e, fun v z => by rw [d] at z; cases z⟩
 keep := fun i h h' st k => let ⟨o, ho, r⟩ := st; ⟨o, k it (by simp) o ho, r⟩
 item := by
  intro X hP hw hK hc i pins s σ H E I hf st hg
  subst hP hw hK
  obtain ⟨f0, f1, f2, f3, f4, f5⟩ := hf it (by simp)
  refine (W _ (I.ok.hd hc)).item i s _ _ hg st fun v h' tk hv st' kk => ?_
  obtain ⟨c, u, hc', rfl⟩ := hv
  have I1 : Inv X pins σ H { s with heap := h', toks := tk } := I.turned (fun b o hb e => kk b o (by simpa using hb) e) f0 f1 f3 f4 f5
  obtain ⟨o, e1, c1, d1⟩ := id st'
  exact ⟨_, rfl, g7s (s := { s with heap := h', toks := tk }) e1 c1 d1 hn ⟨.str ⟨#[c]⟩, H, I1, ⟨u, rfl⟩, ⟨rfl, c, hc', rfl⟩, st', fun b hb => (hf b hb).1⟩⟩
 done := by
  intro X hP hw hK hc i pins s σ H E I hf st hg
  subst hP hw hK
  obtain ⟨f0, f1, f2, f3, f4, f5⟩ := hf it (by simp)
  have hi : i = x.cps.size := hg
  subst hi
  exact (W _ (I.ok.hd hc)).done s _ _ st fun h' tk kk => ⟨rfl, I.turned (t' := tk) (fun b o hb e => kk b o (by simpa using hb) e) f0 f1 f3 f4 f5⟩
 self := S
noncomputable def i4o (tl : TE) : TI := fun σ H R => tl σ H fun x H1 => match x with
 | .str z => R (Its z) H1
 | _ => False
theorem h8i {l : Expr} {tl : TE} (hl : PE X l tl) : PI X tg l (i4o tl) := by
 intro pins s σ H R I h
 refine thn (hl pins s σ H _ I h) fun v s1 ⟨x, H1, I1, r1, q1⟩ => ?_
 cases x with
 | str z =>
  obtain ⟨t, rfl⟩ := r1
  have fin : ∀ (o : Obj) (n : String), ["enumerate", "zip", "dict_itemiterator", "dict_reverseitemiterator", "odict_iterator", "itertools.zip_longest", "itertools.pairwise"].contains n = false → (s1.heap.push o).IsStrIter s1.heap.objs.size n z t 0 →
    (∀ A' : Around, A'.handled = none -> Walks X.prog X.w A' s1.heap.objs.size [s1.heap.objs.size] [s1.heap.objs.size] z.cps.size (SignAt z) (fun i h => h.IsStrIter s1.heap.objs.size n z t i)) ->
    (∀ (A : Around) (i : Nat) (s : Shared) (Q : Value -> Shared -> Prop) (E : Value -> Shared -> Prop), s.heap.IsStrIter s1.heap.objs.size n z t i -> Q (.ref s1.heap.objs.size) s -> wpAny (model X.prog X.w) A (pyIter (.ref s1.heap.objs.size)) Q E s) ->
    PIE X pins σ tg R (.ref s1.heap.objs.size) { s1 with heap := s1.heap.push o } := fun o n hn st W S => by
   refine ⟨s1.heap.objs.size, [s1.heap.objs.size], _, _, H1, rfl, I1.kept (t' := s1.toks) fun b o e => Heap.get?_push_of_some _ e, g8i _ z t hn W S, st, fun b hb => ?_, q1⟩
   have e : b = s1.heap.objs.size := by simpa using hb
   subst e
   exact I1.h2n (Nat.le_refl _) (I1.hok.fresh (Nat.le_refl _))
  cases ha : z.cps.all (· < 128)
  ·exact wpAny_pyIter_wide ha (fin _ "str_iterator" (by decide) ⟨_, Heap.get?_push_size _ rfl, rfl, rfl⟩ (fun A' hA => Walks.strWide hA _ z t) fun _ _ _ _ _ st hQ => wpAny_pyIter_striter_wide st hQ)
  ·exact wpAny_pyIter_ascii ha (fin _ "str_ascii_iterator" (by decide) ⟨_, Heap.get?_push_size _ rfl, rfl, rfl⟩ (fun A' hA => Walks.strAscii hA _ z t) fun _ _ _ _ _ st hQ => wpAny_pyIter_striter_ascii st hQ)
 | _ => exact False.elim q1
theorem g8j {x : Str} {g : TG} {tb : TS} {D : Ends} {σ : St} {H : Hp} (Pv : Nat -> St -> Hp -> Prop) (h0 : Pv 0 σ H)
  (hs : ∀ i c σ H, x.cps[i]? = some c -> Pv i σ H -> g (.str ⟨#[c]⟩) σ H fun σ2 H2 => tb { D with nx := Pv (i + 1), ct := Pv (i + 1), bk := D.nx } σ2 H2) (hd : ∀ σ H, Pv x.cps.size σ H -> D.nx σ H) : h7c (Its x) g tb D σ H := by
 refine ⟨fun i m σ H => m = x.cps.size - i /\ i <= x.cps.size /\ Pv i σ H, ⟨x.cps.size, by simp, Nat.zero_le _, h0⟩, ?_⟩
 rintro i m σ H ⟨rfl, hi, p⟩
 by_cases hlt : i < x.cps.size
 ·refine .inr ⟨hlt, Pv (i + 1), fun σ' H' p' => ⟨x.cps.size - (i + 1), by omega, rfl, hlt, p'⟩, fun v H' y => ?_⟩
  obtain ⟨e, c, hc, e2⟩ := y
  subst e e2
  exact hs i c σ _ hc p
 ·have e : i = x.cps.size := by omega
  subst e
  exact .inl ⟨rfl, hd σ H p⟩
noncomputable def i4p : V -> Option Int -> Option Int -> Hp -> VK -> Prop := fun x lo hi H Q => match x with
 | .ref a => (match H a with
  | some (.lst xs) => New H (.lst (f3k xs lo hi)) Q ⟨⟩
  | _ => False)
 | .str z => z.length <= sizeLine /\ Q (.str (Txt.slice z lo hi)) H
 | _ => False
theorem g7h : SlR X i4p := by
 intro pins s σ H x v vl vu lo hi sl Q I rx hs pl pu h
 cases x with
 | ref a => exact sl_M pins s σ H _ v vl vu lo hi sl Q I rx hs pl pu h
 | str z =>
  obtain ⟨t, rfl⟩ := rx
  obtain ⟨hz, q⟩ := h
  have fin : ∀ t' k, EP X pins σ Q (.str (Txt.slice z lo hi) t') { s with toks := k } := fun t' k => ⟨.str _, H, I.tok k, ⟨_, rfl⟩, q⟩
  refine ⟨"str", _, F.slot_str_getitem.lookup, typeIs_str _ _ _, ?_⟩
  cases pl with
  | none =>
   cases pu with
   | none => exact wpAny_getItem_str_slice (l := none) (u := none) (st := none) hs rfl (post_val_or_str ⟨Nat.le_trans (Txt.slice_le z _ _) hz, fin⟩)
   | int j uj => exact wpAny_getItem_str_slice (l := none) (u := some (j, uj)) (st := none) hs rfl (post_val_or_str ⟨Nat.le_trans (Txt.slice_le z _ _) hz, fin⟩)
  | int i ui =>
   cases pu with
   | none => exact wpAny_getItem_str_slice (l := some (i, ui)) (u := none) (st := none) hs rfl (post_val_or_str ⟨Nat.le_trans (Txt.slice_le z _ _) hz, fin⟩)
   | int j uj => exact wpAny_getItem_str_slice (l := some (i, ui)) (u := some (j, uj)) (st := none) hs rfl (post_val_or_str ⟨Nat.le_trans (Txt.slice_le z _ _) hz, fin⟩)
 | _ => exact False.elim h
noncomputable def h8j : List V -> Hp -> VK -> Prop := fun xs H Q => match xs with
 | [.int i] => Q (.int i) H
 | [.bl k] => Q (.int (if k then 1 else 0)) H
 | [.str z] => ∃ n, PySem.intText? z = some n /\ z.length <= 640 /\ Q (.int n) H
 | _ => False
theorem c8y : a8i X (.type "int") h8j := by
 intro pins s σ H xs us Q I r h
 match xs, r, h with
 | [.int i], r, q => exact f2y pins s σ H _ us Q I r (.inl ⟨i, rfl, q⟩)
 | [.bl k], r, q => exact f2y pins s σ H _ us Q I r (.inr ⟨k, rfl, q⟩)
 | [.str z], r, ⟨n, hn, hl, q⟩ =>
  obtain ⟨u, rfl, t, rfl⟩ := vals1 r
  exact PySem.W.KIN.call_text hn hl ⟨.int n, H, I.tok _, ⟨_, rfl⟩, q⟩
noncomputable def h8k : List V -> Hp -> VK -> Prop := fun xs H Q => match xs with
 | [.int i] => i.natAbs.log2 < 1920 /\ Q (.str (toString i)) H
 | _ => False
theorem b9h : a8i X (.type "str") h8k := f2z.weak fun xs H Q h => by
 match xs, h with
 | [.int i], ⟨a, b⟩ => exact ⟨i, rfl, a, b⟩
noncomputable def i4q (te : TE) : TE := fun σ H Q => te σ H fun x H1 => match x with
 | .int i => i.natAbs.log2 < 1920 /\ Q (.str (toString i)) H1
 | .str y => y.length <= sizeLine /\ Q (.str y) H1
 | _ => False
theorem h0v {e : Expr} {te : TE} {pos : Pos} (he : PE X e te) : PE X (.FormattedValue e (-1) none pos) (i4q te) := by
 intro pins s σ H Q I h
 refine wpAny_FormattedValue_plain (thn (he pins s σ H _ I h) fun v s1 ⟨x, H1, I1, r1, q1⟩ => ?_)
 cases x with
 | int i =>
  obtain ⟨t, rfl⟩ := r1
  exact wpAny_formatField_int q1.1 ⟨.str (toString i), H1, I1.tok _, ⟨_, rfl⟩, q1.2⟩
 | str y =>
  obtain ⟨t, rfl⟩ := r1
  exact wpAny_formatField_str (hx := q1.1) ⟨.str y, H1, I1, ⟨_, rfl⟩, q1.2⟩ ⟨.str y, H1, I1.tok _, ⟨_, rfl⟩, q1.2⟩
 | _ => exact False.elim q1
noncomputable abbrev TJ := Str -> St -> Hp -> (Str -> Hp -> Prop) -> Prop
noncomputable def PJ (X : Cx) (es : List Expr) (t : TJ) : Prop := ∀ (pins : List (Addr × Obj)) (acc : Str) (s : Shared) (σ : St) (H : Hp) (Q : Str -> Hp -> Prop) (Q' : Str -> Shared -> Prop), Inv X pins σ H s -> t acc σ H Q -> (∀ out H1 s1, Inv X pins σ H1 s1 -> Q out H1 -> Q' out s1) ->
 Joins (model X.prog X.w) X.A X.xe (evalEach es X.env) acc Q' s
noncomputable def h8l : TJ := fun acc _ H Q => Q acc H
noncomputable def h0w (te : TE) (tr : TJ) : TJ := fun acc σ H Q => te σ H fun x H1 => match x with
 | .str y => acc.length + y.length <= sizeLine /\ tr (acc ++ y) σ H1 Q
 | _ => False
theorem h8m : PJ X [] h8l := fun pins acc s σ H Q Q' I h k => k acc H s I h
theorem f6s {e : Expr} {es : List Expr} {te : TE} {tr : TJ} (he : PE X e te) (hr : PJ X es tr) (hs : evalEach (e :: es) X.env = eval e X.env :: evalEach es X.env := by rfl) : PJ X (e :: es) (h0w te tr) := by
 intro pins acc s σ H Q Q' I h k
 rw [hs]
 refine thn (he pins s σ H _ I h) fun v s1 ⟨x, H1, I1, r1, q1⟩ => ?_
 cases x with
 | str y =>
  obtain ⟨t, rfl⟩ := r1
  exact ⟨y, t, rfl, by rw [strLen_append]; exact q1.1, hr pins (acc ++ y) s1 σ H1 Q Q' I1 q1.2 k⟩
 | _ => exact False.elim q1
noncomputable def h8n (tj : TJ) : TE := fun σ H Q => tj Str.empty σ H fun out H1 => out.length <= sizeLine /\ Q (.str out) H1
theorem g4u {e₁ e₂ : Expr} {es : List Expr} {tj : TJ} {pos : Pos} (h : PJ X (e₁ :: e₂ :: es) tj) : PE X (.JoinedStr (e₁ :: e₂ :: es) pos) (h8n tj) := by
 intro pins s σ H Q I hq
 exact wpAny_JoinedStr (h pins Str.empty s σ H _ _ I hq fun out H1 s1 I1 q => ⟨q.1, .str out, H1, I1.tok _, ⟨_, rfl⟩, q.2⟩)
noncomputable def b5j (x y : Str) : List Str := if (decide (x.length < y.length) || decide (Builtin.Str.strKind x < Builtin.Str.strKind y)) = true then [x] else if (Builtin.Str.occurrences x y 0 x.length (x.length + 1)).isEmpty = true then [x] else Builtin.Str.partsBetween x (Builtin.Str.occurrences x y 0 x.length (x.length + 1)) y.length
noncomputable def h0x : V -> List V -> Hp -> VK -> Prop := fun x vs H Q => match x, vs with
 | .str z, [.str y] => (y.length == 0) = false /\ z.length <= sizeLine /\ (b5j z y).length <= sizeLine /\ New H (.lst ((b5j z y).map V.str)) Q ⟨⟩
 | _, _ => False
theorem f4h : ∀ (l : List Str) (k : Nat), Vals (l.map V.str) (strsFrom k l)
 | [], _ => .nil
 | x :: l, k => .cons ⟨_, rfl⟩ (f4h l (k + 1))
theorem f9m : MtR X "str.split" h0x := by
 intro pins s σ H x xs v us Q I rx rs h
 match x, xs, h with
 | .str z, [.str y], ⟨hy, hz, hn, q⟩ =>
  obtain ⟨t, rfl⟩ := rx
  obtain ⟨u, rfl, t', rfl⟩ := vals1 rs
  have fr : H s.heap.objs.size = none := I.hok.fresh (Nat.le_refl _)
  have itself : b5j z y = [z] → EP X pins σ Q (.ref s.heap.objs.size) { s with heap := s.heap.push { cls := .type "list", data := .seq [Value.str z t].toArray } } := fun e => by
   rw [e] at q
   exact ⟨.ref _, _, I.laid (o := .lst ([z].map V.str)) (t' := s.toks) (fun b u e => Heap.get?_push_of_some _ e) (Nat.le_refl _) ⟨show 1 <= sizeLine by decide, [Value.str z t], 0, .cons ⟨t, rfl⟩ .nil, Heap.get?_push_size _ rfl⟩, rfl, q.raw _ fr⟩
  by_cases h1 : (decide (z.length < y.length) || decide (Builtin.Str.strKind z < Builtin.Str.strKind y)) = true
  ·exact call_meets F.slot_str_split (typeIs_str _ _ _) F.entry_str_split (F.args_str_split_2 _ _) (meets_str_split_cannot_occur z y t t' h1) (itself (by unfold b5j; rw [if_pos h1]))
  ·have h1' := Bool.eq_false_iff.mpr h1
   by_cases h2 : (Builtin.Str.occurrences z y 0 z.length (z.length + 1)).isEmpty = true
   ·exact call_meets F.slot_str_split (typeIs_str _ _ _) F.entry_str_split (F.args_str_split_2 _ _) (meets_str_split_not_found z y t t' h1' hy h2) (itself (by unfold b5j; rw [if_neg h1, if_pos h2]))
   ·have h2' := Bool.eq_false_iff.mpr h2
    have e : b5j z y = Builtin.Str.partsBetween z (Builtin.Str.occurrences z y 0 z.length (z.length + 1)) y.length := by unfold b5j; rw [if_neg h1, if_neg h2]
    refine call_meets F.slot_str_split (typeIs_str _ _ _) F.entry_str_split (F.args_str_split_2 _ _) (meets_str_split_sep z y t t' h1' hy h2' hz (by rw [<- e]; exact hn)) ?_
    rw [<- e]
    refine ⟨.ref _, _, I.laid (o := .lst ((b5j z y).map V.str)) (t' := s.toks + (b5j z y).length) (fun b u e => Heap.get?_push_of_some _ e) (Nat.le_refl _) ⟨by rw [List.length_map]; exact hn, strsFrom s.toks (b5j z y), 0, f4h _ _, Heap.get?_push_size _ rfl⟩, rfl, q.raw _ fr⟩
noncomputable def h8o (z y : Str) : Bool := !(Builtin.Str.occurrences z y 0 z.length 1).isEmpty
noncomputable def i2g (neg : Bool) : R2 := fun x y H Q => match y with
 | .str z => (match x with
  | .str y => Q (.bl (h8o z y != neg)) H
  | _ => False)
 | .ref p => (match H p with
  | some (.lst xs) => b7q x = true /\ xs.all b7q = true /\ Q (.bl (inV x xs != neg)) H
  | some (.tup xs) => b7q x = true /\ xs.all b7q = true /\ Q (.bl (inV x xs != neg)) H
  | _ => False)
 | _ => False
theorem h8p : OpR X (compareOp .In) (i2g false) := by
 intro pins s σ H x y v u Q I rx ry h
 cases y with
 | str z =>
  cases x with
  | str y =>
   have h : Q (.bl (h8o z y != false)) H := h
   rw [Bool.bne_false] at h
   exact g3m pins s σ H _ _ v u Q I rx ry ⟨y, z, rfl, rfl, h⟩
  | _ => exact False.elim h
 | ref p =>
  have h : (match H p with
   | some (.lst xs) => b7q x = true /\ xs.all b7q = true /\ Q (.bl (inV x xs != false)) H
   | some (.tup xs) => b7q x = true /\ xs.all b7q = true /\ Q (.bl (inV x xs != false)) H
   | _ => False) := h
  split at h
  ·rename_i xs e
   rw [Bool.bne_false] at h
   exact f3m pins s σ H _ _ v u Q I rx ry ⟨p, xs, rfl, .inl (SqL.of e), h.1, h.2.1, by simpa using h.2.2⟩
  ·rename_i xs e
   rw [Bool.bne_false] at h
   exact f3m pins s σ H _ _ v u Q I rx ry ⟨p, xs, rfl, .inr (SqT.of e), h.1, h.2.1, by simpa using h.2.2⟩
  ·exact h.elim
 | _ => exact False.elim h
theorem g4v : OpR X (compareOp .NotIn) (i2g true) := by
 intro pins s σ H x y v u Q I rx ry h
 cases y with
 | str z =>
  cases x with
  | str y =>
   have h : Q (.bl (h8o z y != true)) H := h
   rw [Bool.bne_true] at h
   exact f3n pins s σ H _ _ v u Q I rx ry ⟨y, z, rfl, rfl, h⟩
  | _ => exact False.elim h
 | ref p =>
  have h : (match H p with
   | some (.lst xs) => b7q x = true /\ xs.all b7q = true /\ Q (.bl (inV x xs != true)) H
   | some (.tup xs) => b7q x = true /\ xs.all b7q = true /\ Q (.bl (inV x xs != true)) H
   | _ => False) := h
  split at h
  ·rename_i xs e
   rw [Bool.bne_true] at h
   exact d1z pins s σ H _ _ v u Q I rx ry ⟨p, xs, rfl, .inl (SqL.of e), h.1, h.2.1, by simpa using h.2.2⟩
  ·rename_i xs e
   rw [Bool.bne_true] at h
   exact d1z pins s σ H _ _ v u Q I rx ry ⟨p, xs, rfl, .inr (SqT.of e), h.1, h.2.1, by simpa using h.2.2⟩
  ·exact h.elim
 | _ => exact False.elim h
end
end L2
namespace L2
open PySem PySem.Spec PyProof.Rows
noncomputable def Wr (H : Hp) (a : Addr) (o : HO) (k : Hp -> Prop) (_ : Tag k) : Prop := ∀ H1, a6i a H H1 -> H1 a = some o -> k H1
section
variable {X : Cx} {e o value : Expr} {f m x : Str} {pos pos' apos : Pos} {ta tv : TE} {t : TA} {C : Addr} {es : List Expr}
noncomputable def h3m (K : PySem.W.Frag) (ta : TE) (f : Str) : TE := fun σ H Q => ta σ H fun x H1 => match x with
 | .ref a => (match H1 a with
  | some (.ins C dx fs) => Cls K C /\ a6m K C f /\ (match fs.lookup f with
   | some v => Q v H1
   | none => False)
  | _ => False)
 | _ => False
theorem a2n (he : PE X e ta) (hb : attributeBase e f X.env (eval e X.env) = eval e X.env) : PE X (.Attribute e f pos) (h3m X.K ta f) := by
 intro pins s σ H Q I h
 refine (h6m he hb) pins s σ H Q I ?_
 unfold i3p
 unfold h3m at h
 have q : (fun (x : V) (H1 : Hp) => (match x with
   | .ref a => (match H1 a with
    | some (.ins C dx fs) => Cls X.K C /\ a6m X.K C f /\ (match fs.lookup f with
     | some v => Q v H1
     | none => False)
    | _ => False)
   | _ => False : Prop)) = fun x H1 => ∃ a C dx fs v, x = .ref a /\ H1 a = some (.ins C dx fs) /\ Cls X.K C /\ a6m X.K C f /\ fs.lookup f = some v /\ Q v H1 := by
  funext x H1
  refine propext ⟨fun z => ?_, fun ⟨a, C, dx, fs, v, e1, e2, c, n, l, q⟩ => ?_⟩
  ·cases x with
   | ref a =>
    dsimp only at z
    split at z
    ·rename_i C dx fs e1
     obtain ⟨c, n, z⟩ := z
     split at z
     ·rename_i v e2
      exact ⟨a, C, dx, fs, v, rfl, e1, c, n, e2, z⟩
     ·exact z.elim
    ·exact z.elim
   | _ => exact False.elim z
  ·subst e1
   dsimp only
   rw [e2]
   dsimp only
   rw [l]
   exact ⟨c, n, q⟩
 rw [q] at h
 exact h
noncomputable def h8q (K : PySem.W.Frag) (ta tv : TE) (f : Str) : TS := fun D σ H => tv σ H fun y H1 => ta σ H1 fun x H2 => match x with
 | .ref a => (match H2 a with
  | some (.ins C dx fs) => Cls K C /\ a6m K C f /\ fs.length < 1000 /\ Wr H2 a (.ins C dx (d2q f y fs)) (D.nx σ) ⟨⟩
  | _ => False)
 | _ => False
theorem b3h (ha : PE X o ta) (hv : PE X value tv) (hs : swapsWith value (some (.Attribute o f pos')) pos.line X.env = pure false) : PS X (.Assign [.Attribute o f pos'] value pos) (h8q X.K ta tv f) := by
 intro pins s σ H D I h
 refine plainObj_wpAny_Assign_Attribute (thn (hv pins s σ H _ I h) fun u s1 ⟨y, H1, I1, ry, q⟩ => thn (ha pins s1 σ H1 _ I1 q) fun ov s2 ⟨x, H2, I2, rx, z⟩ => ?_) hs
 cases x with
 | ref a =>
  obtain rfl : ov = Value.ref a := rx
  dsimp only at z
  split at z
  ·rename_i C dx fs e1
   obtain ⟨c, n, l, k⟩ := z
   exact g0t I2 e1 c n l ry fun s3 I3 => ⟨σ, _, I3, k _ a6i.upd a6j⟩
  ·exact z.elim
 | _ => exact False.elim z
end
noncomputable def a5t (C : Addr) (m : Str) (sp : Sp) (dvs : List V) (E : XK) (ta : TE) (t : TA) : TE := fun σ H Q => ta σ H fun x H1 => match x with
 | .ref a => (match H1 a with
  | some (.ins C' dx fs) => C' = C /\ fs.lookup m = none /\ t σ H1 fun vs H2 => sp (x :: (vs ++ dvs)) H2 Q E
  | _ => False)
 | _ => False
section
variable {X : Cx} {CX : CXT} {k : Nat} {f C : Addr} {fd : FuncData} {ps : List Str} {sp : Sp} {dvs : List V} {ds : List Value} {E : XK} {x m : Str} {p pos apos : Pos} {e o : Expr} {es : List Expr} {ta : TE} {t : TA}
theorem c8z {pl : Sem Bool} (he : PE X o ta) (c : Cls X.K C) (hm : Meth X.K C m f) (F : a1p X.prog X.w X.K X.mg X.base CX k f fd ps sp) (hr : a2q k X.A) (hb : Binds X.K fd ps ds) (hd : Vals dvs ds) (hx : Passes CX X E) (ha : PA X (e :: es) t)
  (hst : starEach (e :: es) X.env = (false, eval e X.env) :: starEach es X.env := by rfl) (hpl : (backTo pos (starEach es X.env)).any (·.1) = false := by rfl)
  (ht : eval (.Call (.Attribute o m apos) (e :: es) [] pos) X.env = (do
   let ov <- eval o X.env
   standAt apos.atName
   let (f, first) <- holding [ov] (getMethod ov m pl)
   callWith pos f first (backTo pos (starEach (e :: es) X.env)) (backToKw pos (keywordEach [] X.env))) := by rfl) :
  PE X (.Call (.Attribute o m apos) (e :: es) [] pos) (a5t C m sp dvs E ta t) := by
 intro pins s σ H Q I h
 refine PySem.W.methodCall_KW (pl := pl) (thn (he pins s σ H _ I h) fun u s1 ⟨x, H1, I1, rx, z⟩ => ?_) ht
 cases x with
 | ref a =>
  obtain rfl : u = Value.ref a := rx
  dsimp only at z
  split at z
  ·rename_i C' dx fs ea
   obtain ⟨rfl, l, q⟩ := z
   refine d8w I1 ea c hm l ?_
   refine PySem.W.callWith_K (first := [.ref a]) (h₀ := X.base) I.ok.mod.kin hm.kp (thn (ha pos pins s1 σ H1 _ I1 q) fun us s2 ⟨vs, H2, I2, r, q2⟩ => ⟨I2.kIn, ?_⟩) hst hpl
   exact f8z (us := .ref a :: us) (vs := .ref a :: vs) F hr hb hd hx I2 (.cons rfl r) q2
  ·exact z.elim
 | _ => exact False.elim z
theorem a1t {pl : Sem Bool} (he : PE X o ta) (c : Cls X.K C) (hm : Meth X.K C m f) (F : a1p X.prog X.w X.K X.mg X.base CX k f fd ps sp) (hr : a2q k X.A) (hb : Binds X.K fd ps ds) (hd : Vals dvs ds) (hx : Passes CX X E)
  (ht : eval (.Call (.Attribute o m apos) [] [] pos) X.env = (do
   let ov <- eval o X.env
   standAt apos.atName
   let (f, first) <- holding [ov] (getMethod ov m pl)
   callWith pos f first (backTo pos (starEach [] X.env)) (backToKw pos (keywordEach [] X.env))) := by rfl) :
  PE X (.Call (.Attribute o m apos) [] [] pos) (a5t C m sp dvs E ta f0g) := by
 intro pins s σ H Q I h
 refine PySem.W.methodCall_KW (pl := pl) (thn (he pins s σ H _ I h) fun u s1 ⟨x, H1, I1, rx, z⟩ => ?_) ht
 cases x with
 | ref a =>
  obtain rfl : u = Value.ref a := rx
  dsimp only at z
  split at z
  ·rename_i C' dx fs ea
   obtain ⟨rfl, l, q⟩ := z
   refine d8w I1 ea c hm l ?_
   exact PySem.W.callWith_K0 (first := [.ref a]) I1.kIn hm.kp (f8z (us := [.ref a]) (vs := [.ref a]) F hr hb hd hx I1 (.cons rfl .nil) q)
  ·exact z.elim
 | _ => exact False.elim z
noncomputable def i2h (H : Hp) (C : Addr) (k : Addr -> Hp -> Prop) (_ : Tag k) : Prop := ∀ x dx H1, H x = none -> H dx = none -> dx ≠ x -> Same H H1 -> H1 dx = some (.own x) -> H1 x = some (.ins C dx []) -> k x H1
noncomputable def h8r (x : Addr) (Q : VK) : VK := fun v H2 => v = .non /\ Q (.ref x) H2
theorem asNew {x : Addr} {Q : VK} {H2 : Hp} {v : V} : h8r x Q v H2 = (v = .non /\ Q (.ref x) H2) := rfl
noncomputable def h0y (C : Addr) (sp : Sp) (dvs : List V) (E : XK) (t : TA) : TE := fun σ H Q => t σ H fun vs H1 => i2h H1 C (fun x H2 => sp (.ref x :: (vs ++ dvs)) H2 (h8r x Q) E) ⟨⟩
theorem i2h.raw {H : Hp} {C : Addr} {k : Addr -> Hp -> Prop} {t : Tag k} (h : i2h H C k t) : ∀ x dx, H x = none -> H dx = none -> dx ≠ x -> k x (upd (upd H dx (.own x)) x (.ins C dx [])) := fun x dx ex ed ne =>
 h x dx _ ex ed ne ((Same.upd ed).trans (Same.upd (by rw [a3m ne.symm]; exact ex))) (by rw [a3m ne]; exact a6j) a6j
theorem c6i (M : Mk X.K C f) (F : a1p X.prog X.w X.K X.mg X.base CX k f fd ps sp) (hr : a2q (k + 1) X.A) (hg : Gl X x) (hm : X.mg x = some (.ref C)) (hb : Binds X.K fd ps ds) (hd : Vals dvs ds) (hx : Passes CX X E)
  (ha : PA X (e :: es) t) (hdb : (x == ("__debug__" : Str)) = false := by decide) (he : starEach (e :: es) X.env = (false, eval e X.env) :: starEach es X.env := by rfl) (hpl : (backTo pos (starEach es X.env)).any (·.1) = false := by rfl) :
  PE X (.Call (.Name x p) (e :: es) [] pos) (h0y C sp dvs E t) := by
 intro pins s σ H Q I h
 refine wpAny_Call_Name_kw (f6i I hg hm ?_ hdb)
 refine PySem.W.callWith_K (h₀ := X.base) I.ok.mod.kin M.kp (thn (ha pos pins s σ H _ I h) fun us s1 ⟨vs, H1, I1, r, q⟩ => ⟨I1.kIn, ?_⟩) he hpl
 exact g7x M F hr hb hd hx I1 r q.raw
end
noncomputable def g8k (K : PySem.W.Frag) (ta tv : TE) (rd : V -> V -> Hp -> VK -> Prop) (f : Str) : TS := fun D σ H => ta σ H fun x H1 => match x with
 | .ref a => (match H1 a with
  | some (.ins C dx fs) => Cls K C /\ a6m K C f /\ (match fs.lookup f with
   | some v => tv σ H1 fun y H2 => rd v y H2 fun z H3 => (match H3 a with
    | some (.ins C' dx' fs') => C' = C /\ fs'.length < 1000 /\ Wr H3 a (.ins C dx' (d2q f z fs')) (D.nx σ) ⟨⟩
    | _ => False)
   | none => False)
  | _ => False)
 | _ => False
section
variable {X : Cx} {o e value : Expr} {f : Str} {pos pos' tpos : Pos} {ta tv : TE}
end
noncomputable def rInF (g : Int -> Int -> Int) : V -> V -> Hp -> VK -> Prop := fun x y H Q => match x, y with
 | .int i, .int j => Q (.int (g i j)) H
 | _, _ => False
noncomputable def i2i (i : Nat) (te : TE) (ti : TIp) : TS := fun D σ H => match σ[i]? with
 | some (some x) => te σ H fun y H1 => ti x y H1 fun z H2 => D.nx (σ.set i (some z)) H2
 | _ => False
section
variable {X : Cx} {pos : Pos}
end
theorem lookup_same {f : Str} {v : V} {r : List (Str × V)} : List.lookup f ((f, v) :: r) = some v := by rw [List.lookup_cons, beq_self_eq_true]
theorem g4w {f : Str} {v x : V} {r : List (Str × V)} : d2q f v ((f, x) :: r) = (f, v) :: r := by rw [d2q, if_pos rfl]
theorem g8l {f : Str} {v : V} : d2q f v [] = [(f, v)] := rfl
theorem f4i {f g : Str} {v : V} {r : List (Str × V)} (h : (f == g) = false) : List.lookup f ((g, v) :: r) = r.lookup f := by rw [List.lookup_cons, h]
theorem g1c {f g : Str} {v x : V} {r : List (Str × V)} (h : (f == g) = false) : d2q f v ((g, x) :: r) = (g, x) :: d2q f v r := by rw [d2q, if_neg fun e => by rw [e, beq_self_eq_true] at h; exact Bool.noConfusion h]
theorem i2j {X : Cx} : X.nox.K = X.K := rfl
end L2
namespace L2
open PySem PySem.Spec PyProof.Rows
structure c6v (k : Nat) (A : Around) : Prop where
 dp : A.depth + 3 * k + 5 < recursionLimit
 un : A.units + 16 * k + 200 < cLine
theorem a2q.h {k : Nat} {A : Around} (r : a2q k A) : c6v k A := ⟨r.dp, r.un⟩
theorem c6v.mono {j k : Nat} {A : Around} (r : c6v k A) (h : j <= k) : c6v j A := ⟨by have := r.dp; omega, by have := r.un; omega⟩
theorem c6v.deeper {k : Nat} {A : Around} (r : c6v (k + 1) A) (env : Env) : c6v k (A.deeper env) :=
 ⟨by have := r.dp; show A.depth + 1 + 3 * k + 5 < _; omega, by have := r.un; show A.units + 3 + 16 * k + 200 < _; omega⟩
theorem c6v.units {k : Nat} {A : Around} (r : c6v k A) : A.units + 64 < cLine := by have := r.un; omega
theorem c6v.calm {k : Nat} {A : Around} (r : c6v k A) : a2q k { A with handled := none } := ⟨rfl, r.dp, r.un⟩
structure h8s (P : Program) (w : World) (K : PySem.W.Frag) (mg : Str -> Option Value) (base : Heap) (k : Nat) (f : Addr) (fd : FuncData) (ps : List Str) (sp : Sp) : Prop where
 len : ∀ vs H Q E, sp vs H Q E -> vs.length = ps.length
 run : ∀ (A : Around) (outer : List Env) (s : Shared) (H : Hp) (args : Args) (us : List Value) (vs : List V) (Q : VK) (E : XK), c6v k A -> g3t P w K mg base A outer s H -> BindsTo s fd args (ps.zip us) -> Vals vs us -> sp vs H Q E ->
  codeAny (model P w) A (.call (.ref f) args) (CR CX0 outer P w H s Q E) s
theorem h8s.ok {P : Program} {w : World} {K : PySem.W.Frag} {mg : Str -> Option Value} {base : Heap} {k : Nat} {f : Addr} {fd : FuncData} {ps : List Str} {sp : Sp} (F : h8s P w K mg base k f fd ps sp) : a1p P w K mg base CX0 k f fd ps sp :=
 ⟨F.len, fun A outer s H args us vs Q E hr => F.run A outer s H args us vs Q E hr.h⟩
noncomputable abbrev cxOfH (P : Program) (w : World) (K : PySem.W.Frag) (mg : Str -> Option Value) (base : Heap) (N : List Str) (qual : Str) (scope : Scope) (f : Addr) (cd : Value) (A : Around) (outer : List Env) (s : Shared) (H : Hp) (E : XK) : Cx := { h0h CX0 P w K mg base N qual scope f cd A outer s H E with calm := false, xe := fun _ _ => False }
section
variable {X : Cx} {k : Nat} {f : Addr} {fd : FuncData} {ps : List Str} {sp : Sp} {dvs : List V} {ds : List Value} {x : Str} {p pos : Pos} {e : Expr} {es : List Expr} {t : TA}
end
theorem c6v.mark {k : Nat} {A : Around} (r : c6v k A) (h : Option Value) : c6v k (A.mark h) := ⟨r.dp, r.un⟩
end L2
namespace L2
open PySem PySem.Spec PyProof.Rows
open PySem.Builtin.Str (occurrences subAt partsBetween strSub)
noncomputable abbrev sg (x : Str) : List Nat := x.cps.toList
theorem b6n {x y : Str} (h : sg x = sg y) : x = y := Str.ext' (by
 have := congrArg List.toArray h
 simpa using this)
theorem a2t (x y : Str) : sg (x ++ y) = sg x ++ sg y := by unfold sg; rw [Str.cps_append]; simp
theorem c3q (x : Str) : (sg x).length = x.length := by simp [Str.length]
theorem h0z {x : Str} {c i : Nat} : StrLaws.At x ⟨#[c]⟩ x.length i ↔ (sg x)[i]? = some c := StrLaws.subAt_one x c i
theorem d3u {c : Nat} : (⟨#[c]⟩ : Str).length = 1 := rfl
theorem h1a (x : Str) (i j : Nat) : sg (strSub x i j) = ((sg x).drop i).take (j - i) := StrLaws.strSub_toList x i j
theorem g8m {x : Str} {c : Nat} {a b : List Nat} (hk : c < 128) (h : sg x = a ++ c :: b) (ha : c ∉ a) (hb : c ∉ b) : b5j x ⟨#[c]⟩ = [⟨a.toArray⟩, ⟨b.toArray⟩] := by
 have hl : x.length = a.length + (b.length + 1) := by rw [<- c3q, h]; simp
 have k1 : ¬ ((decide (x.length < (⟨#[c]⟩ : Str).length) || decide (Builtin.Str.strKind x < Builtin.Str.strKind ⟨#[c]⟩)) = true) := by
  have e : Builtin.Str.strKind ⟨#[c]⟩ = 1 := by
   unfold Builtin.Str.strKind
   rw [if_pos (by simp; omega)]
  have g : 1 <= Builtin.Str.strKind x := by
   unfold Builtin.Str.strKind
   split
   ·decide
   ·split <;> decide
  rw [e, d3u]
  simp only [Bool.or_eq_true, decide_eq_true_eq]
  omega
 have only : ∀ i, StrLaws.At x ⟨#[c]⟩ x.length i -> i = a.length := by
  intro i hi
  have hi := h0z.mp hi
  rw [h] at hi
  rcases Nat.lt_trichotomy i a.length with q | q | q
  ·rw [List.getElem?_append_left q] at hi
   exact absurd (List.mem_of_getElem? hi) ha
  ·exact q
  ·rw [List.getElem?_append_right (Nat.le_of_lt q)] at hi
   obtain ⟨j, hj⟩ : ∃ j, i - a.length = j + 1 := ⟨i - a.length - 1, by omega⟩
   rw [hj, List.getElem?_cons_succ] at hi
   exact absurd (List.mem_of_getElem? hi) hb
 have there : StrLaws.At x ⟨#[c]⟩ x.length a.length := h0z.mpr (by rw [h, List.getElem?_append_right (Nat.le_refl _), Nat.sub_self]; rfl)
 obtain ⟨f, ch⟩ := StrLaws.occ_chain x ⟨#[c]⟩ (x.length + 1)
 have ho : occurrences x ⟨#[c]⟩ 0 x.length (x.length + 1) = [a.length] := by
  rcases StrLaws.occ_head x ⟨#[c]⟩ (x.length + 1) (by omega) with ⟨h0, hn⟩ | ⟨i, r, h0, hi, hn⟩
  ·exact absurd there (hn _)
  ·rw [h0] at ch ⊢
   have e := only i hi
   subst e
   cases r with
   | nil => rfl
   | cons j r =>
    obtain ⟨_, _, q1, q2, _⟩ := ch
    have := only j q2
    rw [d3u] at q1
    omega
 unfold b5j
 rw [if_neg k1, ho, if_neg (by simp)]
 simp only [partsBetween, List.map_cons, List.map_nil, List.cons_append, List.nil_append, List.zip_cons_cons, List.zip_nil_right, List.cons.injEq, and_true]
 constructor
 ·refine b6n ?_
  rw [h1a, h]
  simp
 ·refine b6n ?_
  rw [h1a, d3u, h, hl]
  have e : (a ++ c :: b).drop (a.length + 1) = b := by rw [List.drop_append]; simp
  rw [e, List.take_of_length_le (by omega)]
open PySem.NumText (AllDigits digitsVal digitsVal_snoc)
noncomputable def dg (n : Nat) : List Nat := (Nat.toDigits 10 n).map Char.toNat
theorem f9n (n : Nat) : digitsVal (dg n) = n := PySem.W.KIN.val_back n
theorem f6t {n : Nat} (h : n < 10) : dg n = [n + 48] := by
 have : ∀ d, d < 10 -> dg d = [d + 48] := by decide
 exact this n h
theorem d3v {m c : Nat} (hm : 0 < m) (hc : c < 10) : dg (10 * m + c) = dg m ++ [c + 48] := by
 have t : Nat.toDigits 10 m ++ Nat.toDigits 10 c = Nat.toDigits 10 (10 * m + c) := Nat.toDigits_append_toDigits (by decide) hm hc
 unfold dg
 rw [<- t, List.map_append]
 have := f6t hc
 unfold dg at this
 rw [this]
theorem g4x (n : Nat) : dg n ≠ [] := by
 by_cases h : n < 10
 ·rw [f6t h]; simp
 ·have e : n = 10 * (n / 10) + n % 10 := by omega
  rw [e, d3v (by omega) (by omega)]
  simp
theorem c6r (n : Nat) : AllDigits (dg n) := by
 induction n using Nat.strongRecOn with
 | _ n ih =>
  by_cases h : n < 10
  ·rw [f6t h]
   intro c hc
   simp at hc
   omega
  ·have e : n = 10 * (n / 10) + n % 10 := by omega
   rw [e, d3v (by omega) (by omega)]
   intro c hc
   rcases List.mem_append.mp hc with q | q
   ·exact ih (n / 10) (by omega) c q
   ·simp at q
    omega
theorem h3n {n : Nat} (h : 0 < n) : ∃ c r, dg n = c :: r /\ c ≠ 48 := by
 induction n using Nat.strongRecOn with
 | _ n ih =>
  by_cases q : n < 10
  ·exact ⟨n + 48, [], f6t q, by omega⟩
  ·obtain ⟨c, r, e, hc⟩ := ih (n / 10) (by omega) (by omega)
   have e2 : n = 10 * (n / 10) + n % 10 := by omega
   refine ⟨c, r ++ [n % 10 + 48], ?_, hc⟩
   conv => lhs; rw [e2]
   rw [d3v (by omega) (by omega), e]
   rfl
noncomputable def Canon (ds : List Nat) : Prop := AllDigits ds /\ ds ≠ [] /\ ∀ r, ds = 48 :: r -> r = []
theorem h1b : ∀ {ds : List Nat}, AllDigits ds -> digitsVal ds < 10 ^ ds.length := by
 intro ds
 generalize hn : ds.length = n
 induction n generalizing ds with
 | zero => intro _; rw [List.length_eq_zero_iff.mp hn]; decide
 | succ n ih =>
  intro hd
  have hne : ds ≠ [] := fun e => by rw [e] at hn; cases hn
  have e : ds = ds.dropLast ++ [ds.getLast hne] := (List.dropLast_concat_getLast hne).symm
  generalize ds.dropLast = cs at e
  generalize ds.getLast hne = c at e
  subst e
  have hc := hd c (by simp)
  have := ih (ds := cs) (by simp at hn; exact hn) fun d hd' => hd d (by simp [hd'])
  rw [digitsVal_snoc, Nat.pow_succ]
  omega
noncomputable def txt (t : Int) : List Nat := if t < 0 then 45 :: dg t.natAbs else dg t.natAbs
theorem c9g (t : Int) : sg (Str.ofString (toString t)) = txt t := by
 unfold txt
 match t with
 | .ofNat m => exact PySem.W.KIN.signs_num m
 | .negSucc m =>
  rw [if_pos (Int.negSucc_lt_zero m)]
  unfold sg
  rw [signs_ofString]
  show (("-" ++ Nat.repr (m + 1)).toList.map Char.toNat) = _
  rw [String.toList_append, List.map_append, Nat.toList_repr]
  rfl
theorem d0i {x : Str} {t : Int} (h : sg x = txt t) (hl : x.length <= 4300) : PySem.intText? x = some t := by
 unfold txt at h
 split at h
 ·rename_i ht
  have := intText_neg h (c6r _) (g4x _) hl
  rw [f9n] at this
  rw [this]
  congr 1
  omega
 ·rename_i ht
  have := intText_digits (x := x) (by rw [show x.cps.toList = sg x from rfl, h]; exact c6r _) (by rw [show x.cps.toList = sg x from rfl, h]; exact g4x _) hl
  rw [show x.cps.toList = sg x from rfl, h, f9n] at this
  rw [this]
  congr 1
  omega
theorem h8t (n : Nat) : (dg n).length <= n.log2 + 1 := by
 induction n using Nat.strongRecOn with
 | _ n ih =>
  by_cases h : n < 10
  ·rw [f6t h]; simp
  ·have e : n = 10 * (n / 10) + n % 10 := by omega
   have i := ih (n / 10) (by omega)
   have k : (n / 10).log2 + 1 <= n.log2 := by
    rw [Nat.le_log2 (by omega), Nat.pow_succ]
    have := Nat.log2_self_le (n := n / 10) (by omega)
    omega
   have z := d3v (m := n / 10) (c := n % 10) (by omega) (by omega)
   rw [<- e] at z
   rw [z]
   rw [List.length_append]
   simp only [List.length_cons, List.length_nil]
   omega
theorem f6u (t : Int) : (txt t).length <= t.natAbs.log2 + 2 := by
 have := h8t t.natAbs
 unfold txt
 split
 ·rw [List.length_cons]; omega
 ·omega
noncomputable def h1c (t b : Int) : List Nat := txt t ++ 47 :: txt b
structure Good (x : List Nat) (t b : Int) : Prop where
 eq : x = h1c t b
 pos : 0 < b
 low : Int.gcd t b = 1
 l1 : (dg t.natAbs).length <= 9
 l2 : (dg b.natAbs).length <= 9
noncomputable def g4y (l : List Nat) : Bool := l.all (fun c => decide (48 <= c) && decide (c <= 57)) && !l.isEmpty
theorem f0n {l : List Nat} : g4y l = true ↔ AllDigits l /\ l ≠ [] := by
 unfold g4y AllDigits
 simp
theorem h3o (c : Nat) : h8o "0123456789" ⟨#[c]⟩ = (decide (48 ≤ c) && decide (c ≤ 57)) := by
 unfold h8o
 rw [StrLaws.found_one]
 have e : (Str.ofString "0123456789").cps.toList = [48, 49, 50, 51, 52, 53, 54, 55, 56, 57] := by decide +kernel
 rw [e]
 by_cases h : 48 <= c /\ c <= 57
 ·rw [show (decide (48 <= c) && decide (c <= 57)) = true by simp [h]]
  rw [decide_eq_true_eq]
  simp
  omega
 ·rw [show (decide (48 <= c) && decide (c <= 57)) = false by simp; omega]
  rw [decide_eq_false_iff_not]
  simp
  omega
theorem d9h {t : Int} {c : Nat} (h1 : c ≠ 45) (h2 : c < 48 \/ 57 < c) : c ∉ txt t := by
 unfold txt
 intro h
 split at h
 ·rcases List.mem_cons.mp h with q | q
  ·exact h1 q
  ·have := c6r _ c q; omega
 ·have := c6r _ c h; omega
theorem h8u (t : Int) : (txt t).length <= (dg t.natAbs).length + 1 := by
 unfold txt
 split
 ·rw [List.length_cons]; exact Nat.le_refl _
 ·exact Nat.le_succ _
theorem h1e (x : Str) (c : Nat) : Txt.startswith x ⟨#[c]⟩ = decide ((sg x)[0]? = some c) := by
 unfold Txt.startswith
 rw [Bool.eq_iff_iff, Bool.and_eq_true, decide_eq_true_eq, decide_eq_true_eq]
 exact StrLaws.subAt_one x c 0
theorem h8v {x : Str} {t : Int} (h : sg x = txt t) : Txt.startswith x ⟨#[45]⟩ = decide (t < 0) := by
 rw [h1e, h]
 unfold txt
 split
 ·rename_i q
  simp [q]
 ·rename_i q
  rw [decide_eq_false q, decide_eq_false_iff_not]
  intro e
  have := c6r _ 45 (List.mem_of_getElem? e)
  omega
theorem h3p {x : Str} {i : Nat} (h : i <= x.length) : sg (Txt.slice x (some (i : Int)) none) = (sg x).drop i := by
 rw [slice_from_eq (b := (x.length : Int)) (by omega) (by omega) rfl]
 simp only [sg, Int.toNat_natCast]
 rw [List.take_of_length_le]
 rw [List.length_drop]
 have := c3q x
 unfold sg at this
 omega
end L2
namespace L2
open PySem PySem.Spec PyProof.Rows
section
variable {X : Cx}
noncomputable def h3q (K : PySem.W.Frag) : List V -> Hp -> VK -> Prop := fun xs H Q => match xs with
 | [.ref p] => (match H p with
  | some (.lst ys) => New H (.tup ys) Q ⟨⟩
  | some (.tup ys) => Q (.ref p) H
  | _ => False)
 | _ => False
theorem f4j : a8i X (.type "tuple") (h3q X.K) := f0i.weak fun xs H Q h => by
 match xs, h with
 | [.ref p], h =>
  unfold h3q at h
  dsimp only at h
  split at h
  ·rename_i ys e
   exact ⟨p, ys, rfl, .inl ⟨SqL.of e, h.raw⟩⟩
  ·rename_i ys e
   exact ⟨p, ys, rfl, .inr ⟨SqT.of e, h⟩⟩
  ·exact h.elim
end
section
variable {X : Cx}
structure InsQ (K : PySem.W.Frag) (C : Addr) : Prop where
 ha : PySem.W.findIn K (.ref C) "__class__" = some (some (.builtin "object.__class__"))
 hn : PySem.W.specialIn K (.builtin "object.__class__") "__get__" = some (some (.builtin "getset_descriptor.__get__"))
 htk : PySem.W.takesIn K (.builtin "object.__class__") = some true
 hm : PySem.W.mroIn K C (.type "object") = some true
noncomputable def rIsI (K : PySem.W.Frag) : List V -> Hp -> VK -> Prop := fun xs H Q => match xs with
 | [.ref a, .ref D] => (match H a with
  | some (.ins C dx fs) => Cls K C /\ InsQ K C /\ (match PySem.W.kitOne K (.ref C) (.ref D) with
   | some b => Q (.bl b) H
   | none => False)
  | _ => False)
 | _ => False
end
section
variable {X : Cx} {pos : Pos}
noncomputable def h3r : List V -> Hp -> VK -> Prop := fun xs H Q => match xs with
 | [.int i, .int j] => (0 < j /\ j < 1073741824) /\ New H (.tup [.int (i / j), .int (i % j)]) Q ⟨⟩
 | _ => False
noncomputable def h3s : TGs := fun vs σ H Q => match vs with
 | [] => Q σ H
 | _ => False
noncomputable def g4z (t : TG) (u : TGs) : TGs := fun vs σ H Q => match vs with
 | v :: r => t v σ H fun σ' H' => u r σ' H' Q
 | _ => False
noncomputable def h3t (n : Nat) (t : TGs) : TG := fun v σ H Q => match v with
 | .ref a => (match H a with
  | some (.tup xs) => xs.length = n /\ t xs σ H Q
  | _ => False)
 | _ => False
theorem f9o : PGs X [] h3s := by
 intro pins s σ H vs us Q I r h
 refine h2m pins s σ H vs us Q I r ?_
 unfold h3s at h
 split at h
 ·exact ⟨rfl, h⟩
 ·exact h.elim
theorem c9h {e : Expr} {es : List Expr} {t : TG} {u : TGs} (h1 : PG X e t) (h2 : PGs X es u)
  (hs : (assignEach (e :: es) X.env).map (·.2) = assign e X.env :: (assignEach es X.env).map (·.2) := by rfl) : PGs X (e :: es) (g4z t u) := by
 intro pins s σ H vs us Q I r h
 refine g7r h1 h2 hs pins s σ H vs us Q I r ?_
 unfold g4z at h
 split at h
 ·exact ⟨_, _, rfl, h⟩
 ·exact h.elim
theorem g5a {es : List Expr} {k : Nat} {t : TGs} {n : Nat} (hc : X.calm = true) (h : PGs X es t)
  (hn : (assignEach es X.env).length = n := by rfl) (hst : (assignEach es X.env).findIdx? (·.1) = none := by rfl) : PG X (.Tuple es k pos) (h3t n t) := by
 intro pins s σ H v u Q I r hw
 refine h6b hc h hn hst pins s σ H v u Q I r ?_
 unfold h3t at hw
 cases v with
 | ref a =>
  dsimp only at hw
  split at hw
  ·rename_i xs e
   exact ⟨a, xs, rfl, SqT.of e, hw.1, hw.2⟩
  ·exact hw.elim
 | _ => exact False.elim hw
end
end L2
namespace L2
open PySem PySem.Spec PyProof.Rows
noncomputable def h8w (J : It) (tc : TT) (te : TE) (D : Addr) (σ : St) (H : Hp) (Q : VK) (_ : Tag Q) : Prop := ∃ (n : Nat) (W : Nat -> List V -> Hp -> Prop), W 0 [] H /\ ∀ i ys H, i <= n -> W i ys H -> H D = some (.lst ys) /\
 ((J.stop i H /\ Q (.ref D) H) \/ (i < n /\ J.go i H /\ ys.length < sizeLine /\ ∀ x H', J.yld i H x H' -> tc (some x :: σ) H' fun b H1 =>
  if b = true then te (some x :: σ) H1 fun y H2 => H2 D = some (.lst ys) /\ ∀ H3, a6i D H2 H3 -> H3 D = some (.lst (ys ++ [y])) -> W (i + 1) (ys ++ [y]) H3
  else W (i + 1) ys H1))
noncomputable def i4r (wi : TI) (tc : TT) (te : TE) : TE := fun σ H Q => wi σ H fun J H1 => ∀ D H2, H1 D = none -> Same H1 H2 -> H2 D = some (.lst []) -> h8w J tc te D σ H2 Q ⟨⟩
section
variable {X : Cx} {scope : Scope} {x : Str} {pins : List (Addr × Obj)} {σ : St} {elt iter cnd : Expr} {px pos : Pos} {wi : TI} {te : TE} {tc : TT}
end
section
variable {X : Cx} {k : Nat} {f C : Addr} {fd : FuncData} {ps : List Str} {sp : Sp} {dvs : List V} {ds : List Value} {E : XK} {x m : Str} {p pos apos : Pos} {e o : Expr} {es : List Expr} {ta : TE} {t : TA}
end
end L2
namespace L2
open PySem PySem.Spec PyProof.Rows
noncomputable def rSl3 : V -> Option Int -> Hp -> VK -> Prop := fun x st H Q => match x with
 | .ref a => (match H a with
  | some (.lst xs) => st ≠ some 0 /\ ∀ ys : List V, ys.length <= xs.length -> (∀ y ∈ ys, y ∈ xs) -> New H (.lst ys) Q ⟨⟩
  | _ => False)
 | _ => False
noncomputable def tSl3 (te : TE) (tl th ts : TO) : TE := fun σ H Q => te σ H fun x H1 => tl σ H1 fun _ H2 => th σ H2 fun _ H3 => ts σ H3 fun st H4 => rSl3 x st H4 Q
section
variable {X : Cx}
noncomputable def i4s (lo : Int) (n : Nat) : List V := (List.range n).map fun i : Nat => V.int (lo + (i : Int))
noncomputable def i4t (ta : TA) : TE := fun σ H Q => ta σ H fun vs H1 => match vs with
 | [.int j] => (-1000000 <= j /\ j <= 1000000) /\ New H1 (.lst (i4s 0 j.toNat)) Q ⟨⟩
 | _ => False
noncomputable def i4u (ta : TA) : TE := fun σ H Q => ta σ H fun vs H1 => match vs with
 | [.int i, .int j] => (-1000000 <= i /\ i <= 1000000 /\ -1000000 <= j /\ j <= 1000000) /\ New H1 (.lst (i4s i (j - i).toNat)) Q ⟨⟩
 | _ => False
theorem g1d : typeLookup (.type "list_reverseiterator") "__len__" = pure none := by rw [typeLookup_type, builtinLookup_eq_fast]; kernel_rfl
theorem g8n : typeLookup (.type "list_reverseiterator") "__length_hint__" = pure (some (.builtin "list_reverseiterator.__length_hint__")) := by rw [typeLookup_type, builtinLookup_eq_fast]; kernel_rfl
theorem g8o : isSubtype (.type "list_reverseiterator") (.type "list_reverseiterator") = pure true := by rw [isSubtype_type]; kernel_rfl
theorem f0o {prog : Program} {w : World} {A : Around} {E : Value -> Shared -> Prop} {s : Shared} {Q : Value -> Shared -> Prop} {I l : Addr} {items : Array Value} (hh : A.handled = none) (hne : l ≠ I) (hit : s.heap.IsRevIter I l ((items.size : Int) - 1)) (hl : s.heap.IsList l items) (hn : items.size <= sizeLine)
  (hQ : ∀ h' tk acc c, (∀ b o, b ≠ I → s.heap.get? b = some o → h'.get? b = some o) → h'.get? s.heap.objs.size = some { cls := .type "list", dict := none, data := .seq acc c, slots := #[] } → ItemsOf (fun i v => items[items.size - 1 - i]? = some v) acc items.size → Q (.ref s.heap.objs.size) { s with heap := h', toks := tk }) :
  wpAny (model prog w) A (call (.type "list") [.ref I]) Q E s := by
 refine callType_codes (Q₁ := fun obj s₁ => obj = .ref s.heap.objs.size ∧ s₁ = { s with heap := s.heap.push { cls := .type "list", data := .seq #[] } }) F.called_list (F.typeCall_list_1 _) F.entry_list_init
  (code_list_new _ ⟨rfl, rfl⟩) fun obj s₁ h₁ => ?_
 obtain ⟨rfl, rfl⟩ := h₁
 have hS : (s.heap.push { cls := .type "list", data := .seq #[] }).get? s.heap.objs.size = some { cls := .type "list", data := .seq #[] } := Heap.get?_push_size _ rfl
 have hIlt : I < s.heap.objs.size := by obtain ⟨o, e, _⟩ := hit; exact Heap.lt_size e
 have hllt : l < s.heap.objs.size := by obtain ⟨o, e, _⟩ := hl; exact Heap.lt_size e
 refine ⟨⟨_, hS, rfl⟩, F.args_list_init_2 _ _, ?_⟩
 have hit1 : (s.heap.push { cls := .type "list", data := .seq #[] }).IsRevIter I l ((items.size : Int) - 1) := hit.at fun o e => Heap.get?_push_of_some _ e
 have hl1 : (s.heap.push { cls := .type "list", data := .seq #[] }).IsList l items := hl.at fun o e => Heap.get?_push_of_some _ e
 have hk0 : ∀ b o, s.heap.get? b = some o → (s.heap.push { cls := .type "list", data := .seq #[] }).get? b = some o := fun b o e => Heap.get?_push_of_some _ e
 generalize hp : s.heap.push { cls := .type "list", data := .seq #[] } = h1 at *
 generalize hSg : s.heap.objs.size = S at *
 have hSI : S ≠ I := Nat.ne_of_gt hIlt
 have hSl : S ≠ l := Nat.ne_of_gt hllt
 show wpAny _ _ (do let old <- Builtin.List.listItems (.ref S); Builtin.List.listUpdate (.ref S) (fun _ => #[]); letGo old.toList.reverse; Builtin.List.listExtendWith (.ref S) (.ref I) .none) _ _ _
 refine wpAny_bind ?_
 unfold Builtin.List.listItems
 refine wpAny_bind (wpAny_seqItems hS rfl (wpAny_pure ?_))
 show wpAny _ _ (updateSeq S (fun _ => #[]) >>= fun _ => letGo (#[] : Array Value).toList.reverse >>= fun _ => Builtin.List.listExtendWith (.ref S) (.ref I) .none) _ _ _
 refine wpAny_bind (wpAny_updateSeq hS rfl ?_)
 have hS₂ := Heap.get?_update_self (Obj.mapSeq (fun _ => (#[] : Array Value))) hS rfl
 have oth : ∀ b o, b ≠ S -> h1.get? b = some o -> (h1.update S (Obj.mapSeq (fun _ => (#[] : Array Value)))).get? b = some o := fun b o hb e => (Heap.get?_update_other _ _ (Ne.symm hb)).trans e
 refine wpAny_bind (wpAny_letGo ?_)
 have hit2 : (h1.update S (Obj.mapSeq (fun _ => (#[] : Array Value)))).IsRevIter I l ((items.size : Int) - 1) := hit1.at fun o e => oth I o hSI.symm e
 have hl2 : (h1.update S (Obj.mapSeq (fun _ => (#[] : Array Value)))).IsList l items := hl1.at fun o e => oth l o hSl.symm e
 generalize h1.update S (Obj.mapSeq (fun _ => (#[] : Array Value))) = h2 at *
 have hT : ({ s with heap := h2 } : Shared).TypeIs (.ref I) "list_reverseiterator" := Heap.IsRevIter.typeIs (s := { s with heap := h2 }) hit2
 unfold Builtin.List.listExtendWith
 refine wpAny_bind (wpAny_typeOf hT ?_)
 have e1 : Builtin.List.listSameRef (.ref S) (.ref I) = false := by simp [Builtin.List.listSameRef, hSI]
 have e2 : (Value.type "list_reverseiterator" == Value.type "list") = false := by decide
 have e3 : (Value.type "list_reverseiterator" == Value.type "tuple") = false := by decide
 simp only [e1, e2, e3, Bool.or_false, Bool.false_eq_true, if_false]
 refine wpAny_bind (wpAny_pyIter_revIter (s := { s with heap := h2 }) hit2 ?_)
 refine wpAny_bind (wpAny_holding ?_)
 unfold Builtin.List.listLengthHint
 refine wpAny_bind (wpAny_specialOf hT g1d ?_)
 show wpAny _ _ (specialOf (Value.ref I) (Str.ofString "__length_hint__") >>= _) _ _ _
 refine wpAny_bind (wpAny_specialOf hT g8n ?_)
 generalize hid : ("list_reverseiterator.__length_hint__" : String) = id0
 dsimp only
 rw [show splitId id0 = some ("list_reverseiterator", "__length_hint__") from by subst hid; decide +kernel]
 subst hid
 refine wpAny_bind (wpAny_isInstance (T := "list_reverseiterator") (b := true) hT g8o ?_)
 refine wpAny_ite_split (fun hab => absurd hab (by decide)) (fun _ => ?_)
 refine wpAny_ite_split (fun _ => ?_) (fun hab => absurd (by decide +kernel) hab)
 refine wpAny_ite_split (fun hab => absurd hab (by decide +kernel)) (fun _ => ?_)
 refine wpAny_pure ?_
 refine wpAny_ite_split (fun hab => absurd hab (by decide +kernel)) (fun _ => ?_)
 have W := (Walks.listRev (prog := prog) (w := w) (A := A.in1.in1) hh I l hne items).toS
 refine wpAny_pure ⟨plainId_quiet F.plain_extend_loop _, codeAny_extend_loopS W hn S (by simp [hSI, hSl]) .none items.size 0 _ #[] _ rfl (Nat.zero_le _) ⟨Nat.zero_le _, by simpa using hit2, hl2⟩ hS₂ (ItemsOf.nil _) fun s' acc c hm hS' hacc => ?_⟩
 rw [Moved.eq_with hm]
 refine ⟨rfl, hQ s'.heap s'.toks acc c (fun b o hb e => hm.heap b o ?_ (oth b o ?_ (hk0 b o e))) hS' hacc⟩
 ·have z : b < s.heap.objs.size := Heap.lt_size e
  rw [hSg] at z
  intro hmem
  rcases List.mem_cons.mp hmem with q | q
  ·exact Nat.ne_of_lt z q
  ·exact hb (List.mem_singleton.mp q)
 ·have z : b < s.heap.objs.size := Heap.lt_size e
  rw [hSg] at z
  exact Nat.ne_of_lt z
end
noncomputable def h8x (ta : TE) : TE := fun σ H Q => ta σ H fun x H1 => match x with
 | .ref a => (match H1 a with
  | some (.lst xs) => New H1 (.lst xs.reverse) Q ⟨⟩
  | _ => False)
 | _ => False
theorem g8p {xs : List V} {its : List Value} {acc : Array Value} (r : Vals xs its) (h : ItemsOf (fun i v => its.toArray[its.toArray.size - 1 - i]? = some v) acc its.toArray.size) : Vals xs.reverse acc.toList := by
 have e : acc.toList = its.reverse := by
  obtain ⟨h1, h2⟩ := h
  replace h1 : acc.size = its.length := by simpa using h1
  replace h2 : ∀ j v, acc[j]? = some v -> its[its.length - 1 - j]? = some v := fun j v hj => by simpa using h2 j v hj
  apply List.ext_getElem?
  intro i
  by_cases hi : i < acc.size
  ·have z := h2 i acc[i] (by simp [hi])
   rw [List.getElem?_reverse (by omega)]
   rw [z]
   simp [hi]
  ·rw [List.getElem?_eq_none (by simp; omega), List.getElem?_eq_none (by simp; omega)]
 rw [e]
 have key : ∀ {xs : List V} {us : List Value}, Vals xs us -> Vals xs.reverse us.reverse := fun {xs us} r => by
  induction r with
  | nil => exact .nil
  | cons r t ih => rw [List.reverse_cons, List.reverse_cons]; exact Vals.append ih (.cons r .nil)
 exact key r
theorem h3u {X : Cx} {a : Expr} {ta : TE} {p p2 pos pos2 : Pos} (hgl : Gl X "list") (hml : X.mg "list" = none) (hg : Gl X "reversed") (hm : X.mg "reversed" = none) (hc : X.calm = true) (ha : PE X a ta) (hs : starEach [a] X.env = [(false, eval a X.env)] := by rfl)
  (hs2 : starEach [.Call (.Name "reversed" p2) [a] [] pos2] X.env = [(false, eval (.Call (.Name "reversed" p2) [a] [] pos2) X.env)] := by rfl) : PE X (.Call (.Name "list" p) [.Call (.Name "reversed" p2) [a] [] pos2] [] pos) (h8x ta) := by
 intro pins s σ H Q I h
 refine Call_ (d1y I hgl hml boot_list (PyProof.Rows.callWith_type1 ?_ hs2 rfl))
 rw [hs2]
 show wpAny _ _ (spliced [(false, eval (.Call (.Name "reversed" p2) [a] [] pos2) X.env)]) _ _ s
 refine Calls.spliced_cons (Call_ (d1y I hg hm boot_reversed (PyProof.Rows.callWith_type1 ?_ hs rfl)))
 rw [hs]
 show wpAny _ _ (spliced [(false, eval a X.env)]) _ _ s
 refine Calls.spliced_cons (thn (ha pins s σ H _ I h) fun u s1 ⟨x, H1, I1, r1, q1⟩ => Calls.spliced_nil ?_)
 cases x with
 | ref l =>
  cases r1
  have q1' : (match H1 l with
   | some (.lst xs) => New H1 (.lst xs.reverse) Q ⟨⟩
   | _ => False) := q1
  split at q1'
  ·rename_i xs e
   obtain ⟨its, n, rv, ho, hz⟩ := I1.lst e
   have hl : s1.heap.IsList l its.toArray := ⟨_, ho, rfl, n, rfl⟩
   have hlt : l < s1.heap.objs.size := Heap.lt_size ho
   refine call_reversed_list hl (Calls.spliced_nil ?_)
   have I2 : Inv X pins σ H1 { s1 with heap := s1.heap.push (revObj l ((its.toArray.size : Int) - 1)) } := I1.kept (t' := s1.toks) fun b o e => Heap.get?_push_of_some _ e
   have hlen := rv.length
   refine f0o (I1.ok.hd hc) (Nat.ne_of_lt hlt) (show (s1.heap.push (revObj l ((its.toArray.size : Int) - 1))).IsRevIter s1.heap.objs.size l ((its.toArray.size : Int) - 1) from ⟨_, Heap.get?_push_size _ rfl, rfl, rfl⟩) (hl.push _) (by rw [List.size_toArray]; omega) fun h' tk acc c hk hS hi' => ?_
   have e1 : (s1.heap.push (revObj l ((its.toArray.size : Int) - 1))).objs.size = s1.heap.objs.size + 1 := Heap.size_push ..
   have I3 : Inv X pins σ (upd H1 (s1.heap.objs.size + 1) (.lst xs.reverse)) { s1 with heap := h', toks := tk } := I1.laid (t' := tk) (fun b o e => hk b o (Nat.ne_of_lt (Heap.lt_size e)) (Heap.get?_push_of_some _ e)) (Nat.le_succ _) ⟨by rw [List.length_reverse]; exact hz, acc.toList, c, g8p rv hi', by rw [<- e1]; simpa using hS⟩
   have q2 := q1'.raw (s1.heap.objs.size + 1) (I1.hok.fresh (Nat.le_succ _))
   rw [<- e1] at I3 q2
   exact ⟨.ref _, _, I3, rfl, q2⟩
  ·exact q1'.elim
 | _ => exact False.elim q1
noncomputable def maxD (d : Int) : List Int -> Int
 | [] => d
 | n :: ns => ns.foldl max n
section
variable {prog : Program} {w : World} {A : Around} {E : Value -> Shared -> Prop} {s : Shared}
end
noncomputable def i2k : List V -> List V -> Hp -> VK -> Prop := fun vs zs H Q => match vs, zs with
 | [.ref p], [.int d] => (match H p with
  | some (.lst xs) => ∃ ns : List Int, xs = ns.map V.int /\ Q (.int (maxD d ns)) H
  | _ => False)
 | _, _ => False
noncomputable def tMaxD (t tk : TA) : TE := fun σ H Q => t σ H fun vs H1 => tk σ H1 fun zs H2 => i2k vs zs H2 Q
noncomputable def i2l : V -> V -> V -> Hp -> (Hp -> Prop) -> Prop := fun o i v H Q => match o, i with
 | .ref p, .int k => (match H p with
  | some (.lst xs) => (0 <= k /\ k < xs.length) /\ ∀ H1, a6i p H H1 -> H1 p = some (.lst (xs.set k.toNat v)) -> Q H1
  | _ => False)
 | _, _ => False
theorem g8q {K : PySem.W.Frag} {a D : Addr} {xs : List V} {te : TE} {σ : St} {H0 H : Hp} {Q : VK} (zs : List V) (hz : zs.length = xs.length) (n0 : H0 D = none) (S : Same H0 H) (hD : H D = some (.lst [])) (hS : SqL K H0 a xs) (hsz : xs.length <= sizeLine)
  (hs : ∀ (i : Nat) x z H' (Q' : VK), xs[i]? = some x -> zs[i]? = some z -> Same H0 H' -> Q' z H' -> te (some x :: σ) H' Q') (q : ∀ H', Same H0 H' -> H' D = some (.lst zs) -> Q (.ref D) H') : f0k (Itl K a) te D σ H Q ⟨⟩ := by
 refine c6g (fun i ys H' => Same H0 H' /\ H' D = some (.lst ys) /\ ys = zs.take i) ⟨S, hD, by simp⟩ hsz (fun i ys H' hi p => ?_) (fun i x ys H' hx p => ?_) (fun ys H' p => ?_)
 ·refine ⟨p.2.1, p.1.seq hS, ?_⟩
  rw [p.2.2, List.length_take]
  omega
 ·have hi : i < zs.length := by rw [hz]; exact (List.getElem?_eq_some_iff.mp hx).1
  have hzi : zs[i]? = some zs[i] := List.getElem?_eq_getElem hi
  refine hs i x _ H' _ hx hzi p.1 ⟨p.2.1, fun H3 s3 h3 => ⟨p.1.step n0 s3, h3, ?_⟩⟩
  rw [p.2.2, List.take_add_one, hzi]
  rfl
 ·refine q H' p.1 ?_
  rw [p.2.1, p.2.2, <- hz, List.take_length]
end L2
namespace L2
open PySem PySem.Spec PyProof.Rows
section
variable {X : Cx} {pins : List (Addr × Obj)} {σ : St} {H : Hp} {s : Shared}
theorem Inv.g5b {t' : Nat} {h' : Heap} {fp : List Addr} (I : Inv X pins σ H s) (k : ∀ b o, b ∉ fp -> s.heap.get? b = some o -> h'.get? b = some o) (hf : ∀ b ∈ fp, g0o X pins H b) : Inv X pins σ H { s with heap := h', toks := t' } := by
 have nit : ∀ b u, H b = some u -> b ∉ fp := fun b u e z => by rw [(hf b z).1] at e; cases e
 refine I.call' (s' := { s with heap := h', toks := t' }) (ch := fp) rfl ⟨fun b o e n hb hx => k b o hx e, fun b o e n hb hx => ⟨o.slots, k b o hx e⟩, fun _ _ _ n _ => n, fun b o e hx => ⟨o, k b o hx e⟩, fun _ _ q => q, fun _ _ _ q => q, fun _ ps q => ⟨#[], by rw [q]; simp⟩⟩ ?_ I.bare fun b hb => ⟨(hf b hb).2.2.2.1, (hf b hb).2.1, (hf b hb).2.2.2.2.1, (hf b hb).2.2.2.2.2⟩
 intro b u e
 refine (I.hok b u e).stay (fun c v hc q => k c v ?_ q) (fun _ q => q) fun _ _ q => q
 rcases hc with z | z
 ·rw [z]; exact nit b u e
 ·exact nit c _ z
end
noncomputable def ItB (b : Bool) (h : Heap) (it l : Addr) (i : Nat) : Prop := ∃ o, h.get? it = some o ∧ o.cls = .type (cond b "list_iterator" "tuple_iterator") ∧ o.data = .fields #[.ref l, .int i 0]
noncomputable def SqB (b : Bool) (h : Heap) (l : Addr) (items : Array Value) : Prop := ∃ o, h.get? l = some o ∧ o.cls = .type (cond b "list" "tuple") ∧ ∃ n, o.data = .seq items n
theorem ItB.at {b : Bool} {h h' : Heap} {it l : Addr} {i : Nat} (x : ItB b h it l i) (k : ∀ o, h.get? it = some o -> h'.get? it = some o) : ItB b h' it l i := let ⟨o, e, r⟩ := x; ⟨o, k o e, r⟩
theorem SqB.at {b : Bool} {h h' : Heap} {l : Addr} {items : Array Value} (x : SqB b h l items) (k : ∀ o, h.get? l = some o -> h'.get? l = some o) : SqB b h' l items := let ⟨o, e, r⟩ := x; ⟨o, k o e, r⟩
section
variable {prog : Program} {w : World} {A : Around} {E : Value -> Shared -> Prop} {s : Shared}
theorem f6v {it t : Addr} {i : Nat} {items : Array Value} {x : Value} {Q : Value -> Shared -> Prop} (hit : s.heap.IsTupleIter it t i) (ht : s.heap.IsTuple t items) (hx : items[i]? = some x)
  (hQ : ∀ h', h'.IsTupleIter it t (i + 1) -> Heap.SameBut it s.heap h' -> Q x { s with heap := h' }) : wpAny (model prog w) A (Builtin.SmallTypes.nextOf (.ref it)) Q E s := by
 obtain ⟨o, ho, hc, hd⟩ := id hit
 obtain ⟨ol, hol, _, nl, hdl⟩ := ht
 unfold Builtin.SmallTypes.nextOf
 refine wpAny_bind (wpAny_callSpecial?_slot (name := Str.ofString "__next__") hit.typeIs F.slot_tuple_iterator_next
  (wpAny_call_entry F.slot_tuple_iterator_next hit.typeIs F.entry_tuple_iterator_next ?_ (F.args_tuple_iterator_next_1 _)))
 show wpAny _ _ (field (.ref it) 0 >>= _) _ _ s
 refine wpAny_bind (wpAny_field ho hd (x := .ref t) rfl ?_)
 show wpAny _ _ (if (Value.ref t == Value.none) = true then _ else _) _ _ s
 rw [if_neg (show ¬ ((Value.ref t == Value.none) = true) from Bool.false_ne_true)]
 show wpAny _ _ (field (.ref it) 1 >>= _) _ _ s
 refine wpAny_bind (wpAny_field ho hd (x := .int i 0) rfl ?_)
 show wpAny _ _ (seqItems? (.ref t) >>= _) _ _ s
 refine wpAny_bind (wpAny_seqItems hol hdl ?_)
 simp only [Int.toNat_natCast, hx]
 refine wpAny_bind (wpAny_setField ho hd (by simp) (wpAny_pure ⟨x, rfl, wpAny_pure (hQ _ ?_ (Heap.SameBut.update ..))⟩))
 exact ⟨_, Heap.get?_update_self _ ho (Obj.isFreed_of_fields (Obj.data_mapFields hd _)), (Obj.cls_mapFields ..).trans hc, by
  rw [Obj.data_mapFields hd]; simp [rawInt]⟩
theorem g1e {it t : Addr} {i : Nat} {items : Array Value} {Q : Value -> Shared -> Prop} (hh : A.handled = none) (hit : s.heap.IsTupleIter it t i) (ht : s.heap.IsTuple t items) (hx : items[i]? = none)
  (hE : ∀ h' e, Heap.ExtBut it s.heap h' → (∃ o, h'.get? e = some o ∧ o.cls = .type "StopIteration") → E (.ref e) { s with heap := h' }) : wpAny (model prog w) A (Builtin.SmallTypes.nextOf (.ref it)) Q E s := by
 obtain ⟨o, ho, hc, hd⟩ := id hit
 obtain ⟨ol, hol, _, nl, hdl⟩ := ht
 unfold Builtin.SmallTypes.nextOf
 refine wpAny_bind (wpAny_callSpecial?_slot (name := Str.ofString "__next__") hit.typeIs F.slot_tuple_iterator_next
  (wpAny_call_entry F.slot_tuple_iterator_next hit.typeIs F.entry_tuple_iterator_next ?_ (F.args_tuple_iterator_next_1 _)))
 show wpAny _ _ (field (.ref it) 0 >>= _) _ _ s
 refine wpAny_bind (wpAny_field ho hd (x := .ref t) rfl ?_)
 show wpAny _ _ (if (Value.ref t == Value.none) = true then _ else _) _ _ s
 rw [if_neg (show ¬ ((Value.ref t == Value.none) = true) from Bool.false_ne_true)]
 show wpAny _ _ (field (.ref it) 1 >>= _) _ _ s
 refine wpAny_bind (wpAny_field ho hd (x := .int i 0) rfl ?_)
 show wpAny _ _ (seqItems? (.ref t) >>= _) _ _ s
 refine wpAny_bind (wpAny_seqItems hol hdl ?_)
 simp only [Int.toNat_natCast, hx]
 refine wpAny_bind (wpAny_rule (wpAny_bind (wpAny_setField ho hd (by simp) ?_)))
 show wpAny _ _ (newExc (.type "StopIteration") [] >>= _) _ _ _
 refine wpAny_bind ?_
 simp only [newExc, newTuple]
 refine wpAny_bind (wpAny_newObj_type ?_ (by size_fits))
 refine wpAny_bind (m := firstArgMember _ _) (wpAny_of_eq (a := Value.none) (by first | rfl | (simp only [firstArgMember]; rfl)) ?_)
 refine wpAny_newObj_type ?_ (by size_fits)
 simp only [raiseNew]
 refine wpAny_bind (wpAny_handled ?_)
 first | rw [show A.in1.handled = none from hh] | rw [hh]
 refine wpAny_bind (wpAny_pure (wpAny_throw ?_))
 exact hE _ _ (((Heap.SameBut.update ..).extBut.push _).push _) ⟨_, Heap.get?_push_size _ rfl, rfl⟩
theorem f6w {b : Bool} {it l : Addr} {i : Nat} {items : Array Value} {x : Value} {Q : Value -> Shared -> Prop} (hit : ItB b s.heap it l i) (hl : SqB b s.heap l items) (hx : items[i]? = some x)
  (hQ : ∀ h', ItB b h' it l (i + 1) -> Heap.SameBut it s.heap h' -> Q x { s with heap := h' }) : wpAny (model prog w) A (Builtin.SmallTypes.nextOf (.ref it)) Q E s := by
 cases b with
 | true => exact wpAny_nextOf_list_item hit hl hx hQ
 | false => exact f6v hit hl hx hQ
theorem h1f {b : Bool} {it l : Addr} {i : Nat} {items : Array Value} {Q : Value -> Shared -> Prop} (hh : A.handled = none) (hit : ItB b s.heap it l i) (hl : SqB b s.heap l items) (hx : items[i]? = none)
  (hE : ∀ h' e, Heap.ExtBut it s.heap h' → (∃ o, h'.get? e = some o ∧ o.cls = .type "StopIteration") → E (.ref e) { s with heap := h' }) : wpAny (model prog w) A (Builtin.SmallTypes.nextOf (.ref it)) Q E s := by
 cases b with
 | true => exact wpAny_nextOf_list_end hh hit hl hx hE
 | false => exact g1e hh hit hl hx hE
noncomputable def itO (b : Bool) (l : Addr) : Obj := { cls := .type (cond b "list_iterator" "tuple_iterator"), data := .fields #[.ref l, .int 0 0] }
theorem h8y {b : Bool} {l : Addr} {items : Array Value} {Q : Value -> Shared -> Prop} (hl : SqB b s.heap l items) (hQ : Q (.ref s.heap.objs.size) { s with heap := s.heap.push (itO b l) }) : wpAny (model prog w) A (pyIter (.ref l)) Q E s := by
 cases b with
 | true => exact wpAny_pyIter_list hl hQ
 | false => exact wpAny_pyIter_tuple hl hQ
theorem g5c {b1 b2 : Bool} {z TI TO i1 i2 l1 l2 : Addr} {k : Nat} {xs ys : Array Value} {x y a b : Value} {Q : Option Value -> Shared -> Prop} (D : ZipApart z TI TO i1 i2 l1 l2)
  (hz : IsZip s.heap z TI TO .none) (hTI : IsPair s.heap TI (.ref i1) (.ref i2)) (hTO : IsPair s.heap TO a b)
  (h1 : ItB b1 s.heap i1 l1 k) (h2 : ItB b2 s.heap i2 l2 k) (hl1 : SqB b1 s.heap l1 xs) (hl2 : SqB b2 s.heap l2 ys) (hx : xs[k]? = some x) (hy : ys[k]? = some y)
  (hQ : ∀ h', IsZip h' z TI TO (rawInt s.heap.objs.size) -> IsPair h' TO x y -> ItB b1 h' i1 l1 (k + 1) -> ItB b2 h' i2 l2 (k + 1) -> IsPair h' s.heap.objs.size x y ->
   (∀ c o, c ≠ z -> c ≠ TO -> c ≠ i1 -> c ≠ i2 -> s.heap.get? c = some o -> h'.get? c = some o) -> Q (some (.ref s.heap.objs.size)) { s with heap := h' }) :
  wpAny (model prog w) A (pyNext (.ref z)) Q E s := by
 have hT : s.TypeIs (.ref z) "zip" := ⟨_, hz, rfl⟩
 unfold pyNext
 refine wpAny_bind (wpAny_attempt (wpAny_callSpecial?_slot (name := Str.ofString "__next__") hT F.slot_zip_next (wpAny_call_entry F.slot_zip_next hT F.entry_zip_next ?_ (F.args_zip_next_1 _))))
 show wpAny _ _ (field (.ref z) 2 >>= _) _ _ _
 refine wpAny_bind (wpAny_field hz rfl (x := .bool false) rfl ?_)
 show wpAny _ _ (field (.ref z) 3 >>= _) _ _ _
 refine wpAny_bind (wpAny_field hz rfl (x := .ref TI) rfl ?_)
 refine wpAny_bind (wpAny_seqItems hTI rfl ?_)
 show wpAny _ _ (Builtin.SmallTypes.ownedTupleIsFree (.ref z) >>= _) _ _ _
 refine wpAny_bind ?_
 unfold Builtin.SmallTypes.ownedTupleIsFree
 refine wpAny_bind (wpAny_field hz rfl (x := .none) rfl (wpAny_pure ?_))
 simp only [if_true]
 refine wpAny_bind (wpAny_rule ?_)
 refine wpAny_bind (wpAny_field hz rfl (x := .ref TO) rfl ?_)
 refine wpAny_bind (wpAny_setField_rec hz (by simp) fun g1 hz1 s1 => ?_)
 replace hz1 : IsZip g1 z TI TO .ellipsis := hz1
 refine wpAny_bind ?_
 simp only [List.zipIdx_cons, List.zipIdx_nil, List.forIn_cons, List.forIn_nil]
 refine wpAny_bind (wpAny_bind (wpAny_onRaise ?_))
 show wpAny _ _ (Builtin.SmallTypes.nextOf (.ref i1) >>= _) _ _ _
 refine wpAny_bind (f6w (h1.at fun o e => s1.extBut _ _ D.i1z e) (hl1.at fun o e => s1.extBut _ _ D.l1z e) hx fun g2 h12 s2 => wpAny_pure ?_)
 have h8z : IsPair g2 TO a b := s2.extBut _ _ D.TOi1 (s1.extBut _ _ D.TOz hTO)
 refine wpAny_bind (wpAny_seqItems h8z rfl ?_)
 refine wpAny_bind (wpAny_updateSeq_pair h8z fun g3 hTO3 s3 => ?_)
 replace hTO3 : IsPair g3 TO x b := hTO3
 refine wpAny_bind (wpAny_letGo (wpAny_pure ?_))
 refine wpAny_bind (wpAny_bind (wpAny_onRaise ?_))
 show wpAny _ _ (Builtin.SmallTypes.nextOf (.ref i2) >>= _) _ _ _
 refine wpAny_bind (f6w (h2.at fun o e => s3.extBut _ _ D.TOi2.symm (s2.extBut _ _ D.i12.symm (s1.extBut _ _ D.i2z e))) (hl2.at fun o e => s3.extBut _ _ D.l2TO (s2.extBut _ _ D.l2i1 (s1.extBut _ _ D.l2z e))) hy fun g4 h24 s4 => wpAny_pure ?_)
 have i4v : IsPair g4 TO x b := s4.extBut _ _ D.TOi2 hTO3
 refine wpAny_bind (wpAny_seqItems i4v rfl ?_)
 refine wpAny_bind (wpAny_updateSeq_pair i4v fun g5 hTO5 s5 => ?_)
 replace hTO5 : IsPair g5 TO x y := hTO5
 refine wpAny_bind (wpAny_letGo (wpAny_pure (wpAny_pure ?_)))
 refine wpAny_bind (wpAny_seqItems hTO5 rfl ?_)
 refine wpAny_bind (wpAny_newTuple ?_)
 have hsz : g5.objs.size = s.heap.objs.size := by rw [s5.1, s4.1, s3.1, s2.1, s1.1]
 have hz5 : IsZip g5 z TI TO .ellipsis := s5.extBut _ _ D.TOz.symm (s4.extBut _ _ D.i2z.symm (s3.extBut _ _ D.TOz.symm (s2.extBut _ _ D.i1z.symm hz1)))
 have h15 : ItB b1 g5 i1 l1 (k + 1) := h12.at fun o e => s5.extBut _ _ D.TOi1.symm (s4.extBut _ _ D.i12 (s3.extBut _ _ D.TOi1.symm e))
 have h25 : ItB b2 g5 i2 l2 (k + 1) := h24.at fun o e => s5.extBut _ _ D.TOi2.symm e
 have hzlt : z < g5.objs.size := Heap.lt_size hz5
 show wpAny _ _ (Builtin.SmallTypes.ownedTupleHandOut (.ref z) (.ref g5.objs.size) >>= _) _ _ _
 refine wpAny_bind ?_
 unfold Builtin.SmallTypes.ownedTupleHandOut
 have hz6 : IsZip (g5.push { cls := .type "tuple", data := .seq #[x, y] }) z TI TO .ellipsis := Heap.get?_push_of_some _ hz5
 refine wpAny_bind (wpAny_setField_rec hz6 (by simp) fun g7 hz7 s7 => ?_)
 replace hz7 : IsZip g7 z TI TO (rawInt g5.objs.size) := hz7
 refine wpAny_setField_rec hz7 (by simp) fun g8 hz8 s8 => ?_
 replace hz8 : IsZip g8 z TI TO (rawInt g5.objs.size) := hz8
 have up : ∀ c o, c ≠ z -> g5.get? c = some o -> g8.get? c = some o := fun c o c1 e => s8.extBut _ _ c1 (s7.extBut _ _ c1 (Heap.get?_push_of_some _ e))
 have hT8 : IsPair g8 g5.objs.size x y := s8.extBut _ _ (Nat.ne_of_gt hzlt) (s7.extBut _ _ (Nat.ne_of_gt hzlt) (Heap.get?_push_size _ rfl))
 rw [hsz] at hz8 hT8
 refine wpAny_pure ⟨_, rfl, wpAny_pure ?_⟩
 show Q (some (.ref g5.objs.size)) _
 rw [hsz]
 exact hQ g8 hz8 (up _ _ D.TOz hTO5) (h15.at fun o e => up _ o D.i1z e) (h25.at fun o e => up _ o D.i2z e) hT8 fun c o c1 c2 c3 c4 e =>
  up c o c1 (s5.extBut _ _ c2 (s4.extBut _ _ c4 (s3.extBut _ _ c2 (s2.extBut _ _ c3 (s1.extBut _ _ c1 e)))))
theorem g8r {b1 b2 : Bool} {z TI TO i1 i2 l1 l2 : Addr} {k : Nat} {xs ys : Array Value} {a b : Value} {Q : Option Value -> Shared -> Prop} (hh : A.handled = none) (D : ZipApart z TI TO i1 i2 l1 l2)
  (hz : IsZip s.heap z TI TO .none) (hTI : IsPair s.heap TI (.ref i1) (.ref i2)) (hTO : IsPair s.heap TO a b)
  (h1 : ItB b1 s.heap i1 l1 k) (h2 : ItB b2 s.heap i2 l2 k) (hl1 : SqB b1 s.heap l1 xs) (hl2 : SqB b2 s.heap l2 ys) (hend : xs[k]? = none \/ ys[k]? = none)
  (hQ : ∀ h', (∀ c o, c ≠ z -> c ≠ TO -> c ≠ i1 -> c ≠ i2 -> s.heap.get? c = some o -> h'.get? c = some o) -> Q none { s with heap := h' }) : wpAny (model prog w) A (pyNext (.ref z)) Q E s := by
 have hT : s.TypeIs (.ref z) "zip" := ⟨_, hz, rfl⟩
 unfold pyNext
 have fin : ∀ (h' : Heap) (e : Addr), (∀ c o, c ≠ z → c ≠ TO → c ≠ i1 → c ≠ i2 → s.heap.get? c = some o → h'.get? c = some o) → (∃ o, h'.get? e = some o ∧ o.cls = .type "StopIteration") →
   wpAny (model prog w) A (isInstance (.ref e) (.type "StopIteration") >>= fun b => if b = true then pure none else throw (.ref e)) Q E { s with heap := h' } := fun h' e hk he => by
  obtain ⟨o, ho, hc⟩ := he
  refine wpAny_bind (wpAny_isInstance (T := "StopIteration") (b := true) ⟨o, ho, hc⟩ isSubtype_stop ?_)
  exact wpAny_pure (hQ _ hk)
 refine wpAny_bind (wpAny_attempt (wpAny_callSpecial?_slot (name := Str.ofString "__next__") hT F.slot_zip_next (wpAny_call_entry F.slot_zip_next hT F.entry_zip_next ?_ (F.args_zip_next_1 _))))
 show wpAny _ _ (field (.ref z) 2 >>= _) _ _ _
 refine wpAny_bind (wpAny_field hz rfl (x := .bool false) rfl ?_)
 show wpAny _ _ (field (.ref z) 3 >>= _) _ _ _
 refine wpAny_bind (wpAny_field hz rfl (x := .ref TI) rfl ?_)
 refine wpAny_bind (wpAny_seqItems hTI rfl ?_)
 show wpAny _ _ (Builtin.SmallTypes.ownedTupleIsFree (.ref z) >>= _) _ _ _
 refine wpAny_bind ?_
 unfold Builtin.SmallTypes.ownedTupleIsFree
 refine wpAny_bind (wpAny_field hz rfl (x := .none) rfl (wpAny_pure ?_))
 simp only [if_true]
 refine wpAny_bind (wpAny_rule ?_)
 refine wpAny_bind (wpAny_field hz rfl (x := .ref TO) rfl ?_)
 refine wpAny_bind (wpAny_setField_rec hz (by simp) fun g1 hz1 s1 => ?_)
 replace hz1 : IsZip g1 z TI TO .ellipsis := hz1
 refine wpAny_bind ?_
 simp only [List.zipIdx_cons, List.zipIdx_nil, List.forIn_cons, List.forIn_nil]
 refine wpAny_bind (wpAny_bind (wpAny_onRaise ?_))
 show wpAny _ _ (Builtin.SmallTypes.nextOf (.ref i1) >>= _) _ _ _
 cases hx : xs[k]? with
 | none =>
  refine wpAny_bind (h1f hh (h1.at fun o e => s1.extBut _ _ D.i1z e) (hl1.at fun o e => s1.extBut _ _ D.l1z e) hx fun g2 e s2 he => ?_)
  obtain ⟨oe, hoe, hce⟩ := he
  have hz2 : IsZip g2 z TI TO .ellipsis := s2 _ _ D.i1z.symm hz1
  have hez : e ≠ z := fun x => by subst x; rw [hz2] at hoe; cases hoe; simp at hce
  exact wpAny_setField_rec hz2 (by simp) fun g3 _ s3 => fin g3 e (fun c o c1 _ c3 _ x => s3.extBut _ _ c1 (s2 _ _ c3 (s1.extBut _ _ c1 x))) ⟨oe, s3.extBut _ _ hez hoe, hce⟩
 | some x =>
  have hy : ys[k]? = none := by
   rcases hend with h | h
   ·rw [hx] at h; cases h
   ·exact h
  refine wpAny_bind (f6w (h1.at fun o e => s1.extBut _ _ D.i1z e) (hl1.at fun o e => s1.extBut _ _ D.l1z e) hx fun g2 h12 s2 => wpAny_pure ?_)
  have h8z : IsPair g2 TO a b := s2.extBut _ _ D.TOi1 (s1.extBut _ _ D.TOz hTO)
  refine wpAny_bind (wpAny_seqItems h8z rfl ?_)
  refine wpAny_bind (wpAny_updateSeq_pair h8z fun g3 hTO3 s3 => ?_)
  refine wpAny_bind (wpAny_letGo (wpAny_pure ?_))
  refine wpAny_bind (wpAny_bind (wpAny_onRaise ?_))
  show wpAny _ _ (Builtin.SmallTypes.nextOf (.ref i2) >>= _) _ _ _
  refine wpAny_bind (h1f hh (h2.at fun o e => s3.extBut _ _ D.TOi2.symm (s2.extBut _ _ D.i12.symm (s1.extBut _ _ D.i2z e))) (hl2.at fun o e => s3.extBut _ _ D.l2TO (s2.extBut _ _ D.l2i1 (s1.extBut _ _ D.l2z e))) hy fun g4 e s4 he => ?_)
  obtain ⟨oe, hoe, hce⟩ := he
  have hz4 : IsZip g4 z TI TO .ellipsis := s4 _ _ D.i2z.symm (s3.extBut _ _ D.TOz.symm (s2.extBut _ _ D.i1z.symm hz1))
  have hez : e ≠ z := fun x => by subst x; rw [hz4] at hoe; cases hoe; simp at hce
  exact wpAny_setField_rec hz4 (by simp) fun g5 _ s5 => fin g5 e (fun c o c1 c2 c3 c4 x => s5.extBut _ _ c1 (s4 _ _ c4 (s3.extBut _ _ c2 (s2.extBut _ _ c3 (s1.extBut _ _ c1 x))))) ⟨oe, s5.extBut _ _ hez hoe, hce⟩
noncomputable abbrev zB1 (b1 : Bool) (h : Heap) (l1 : Addr) : Heap := h.push (itO b1 l1)
noncomputable abbrev zB2 (b1 b2 : Bool) (h : Heap) (l1 l2 : Addr) : Heap := (zB1 b1 h l1).push (itO b2 l2)
noncomputable abbrev zB3 (b1 b2 : Bool) (h : Heap) (l1 l2 : Addr) : Heap := (zB2 b1 b2 h l1 l2).push { cls := .type "tuple", data := .seq #[.ref h.objs.size, .ref (zB1 b1 h l1).objs.size] }
noncomputable abbrev zB4 (b1 b2 : Bool) (h : Heap) (l1 l2 : Addr) : Heap := (zB3 b1 b2 h l1 l2).push { cls := .type "tuple", data := .seq #[.none, .none] }
noncomputable abbrev zB5 (b1 b2 : Bool) (h : Heap) (l1 l2 : Addr) : Heap := (zB4 b1 b2 h l1 l2).push { cls := .type "zip", data := .fields #[.none, .bool false, .bool false, .ref (zB2 b1 b2 h l1 l2).objs.size, .ref (zB3 b1 b2 h l1 l2).objs.size] }
theorem g1f (b1 b2 : Bool) (l1 l2 : Addr) (xs ys : Array Value) :
  Meets (Builtin.«zip.__new__» ⟨[.type "zip", .ref l1, .ref l2], []⟩) (fun _ R s => SqB b1 s.heap l1 xs ∧ SqB b2 s.heap l2 ys ∧
   R (.ok (.ret (.ref (zB4 b1 b2 s.heap l1 l2).objs.size))) { s with heap := zB5 b1 b2 s.heap l1 l2 }) :=
 .of_wp fun prog w A R s h => by
  obtain ⟨hp, g, d, tk, os⟩ := s; obtain ⟨hl1, hl2, h⟩ := h
  have hsub := sub_zip
  have hL1 : SqB b1 (Shared.heap ⟨hp, g, d, tk, os⟩) l1 xs := hl1
  have hL2 : SqB b2 (Shared.heap ⟨hp.push (itO b1 l1), g, d, tk, os⟩) l2 ys := hl2.at fun o e => Heap.get?_push_of_some _ e
  wp_walk using h8y hL1, h8y hL2
  exact ⟨_, rfl, h⟩
theorem g8s {b1 b2 : Bool} {l1 l2 : Addr} {xs ys : Array Value} {Q : Value -> Shared -> Prop} (hl1 : SqB b1 s.heap l1 xs) (hl2 : SqB b2 s.heap l2 ys)
  (h : ∀ h', IsZip h' (s.heap.objs.size + 4) (s.heap.objs.size + 2) (s.heap.objs.size + 3) .none -> IsPair h' (s.heap.objs.size + 2) (.ref s.heap.objs.size) (.ref (s.heap.objs.size + 1)) ->
   IsPair h' (s.heap.objs.size + 3) .none .none -> ItB b1 h' s.heap.objs.size l1 0 -> ItB b2 h' (s.heap.objs.size + 1) l2 0 ->
   (∀ c o, s.heap.get? c = some o -> h'.get? c = some o) -> Q (.ref (s.heap.objs.size + 4)) { s with heap := h' }) :
  wpAny (model prog w) A (call (.type "zip") [.ref l1, .ref l2]) Q E s := by
 refine callType_new F.called_zip (by decide) (F.typeCall_zip_2 _ _) (F.newCall_zip_2 _ _) (fun obj => F.args_object_init_3 obj _ _) F.entry_zip_new
  (g1f b1 b2 l1 l2 xs ys) ⟨hl1, hl2, ?_⟩
 have z1 : (zB1 b1 s.heap l1).objs.size = s.heap.objs.size + 1 := Heap.size_push ..
 have z2 : (zB2 b1 b2 s.heap l1 l2).objs.size = s.heap.objs.size + 2 := by rw [Heap.size_push, z1]
 have z3 : (zB3 b1 b2 s.heap l1 l2).objs.size = s.heap.objs.size + 3 := by rw [Heap.size_push, z2]
 have z4 : (zB4 b1 b2 s.heap l1 l2).objs.size = s.heap.objs.size + 4 := by rw [Heap.size_push, z3]
 have g5 : (zB5 b1 b2 s.heap l1 l2).get? (zB4 b1 b2 s.heap l1 l2).objs.size = some _ := Heap.get?_push_size _ rfl
 have g4 : (zB5 b1 b2 s.heap l1 l2).get? (zB3 b1 b2 s.heap l1 l2).objs.size = some _ := Heap.get?_push_of_some _ (Heap.get?_push_size _ rfl)
 have g3 : (zB5 b1 b2 s.heap l1 l2).get? (zB2 b1 b2 s.heap l1 l2).objs.size = some _ := Heap.get?_push_of_some _ (Heap.get?_push_of_some _ (Heap.get?_push_size _ rfl))
 have g2 : (zB5 b1 b2 s.heap l1 l2).get? (zB1 b1 s.heap l1).objs.size = some (itO b2 l2) := Heap.get?_push_of_some _ (Heap.get?_push_of_some _ (Heap.get?_push_of_some _ (Heap.get?_push_size _ rfl)))
 have g1 : (zB5 b1 b2 s.heap l1 l2).get? s.heap.objs.size = some (itO b1 l1) := Heap.get?_push_of_some _ (Heap.get?_push_of_some _ (Heap.get?_push_of_some _ (Heap.get?_push_of_some _ (Heap.get?_push_size _ rfl))))
 show _ /\ _
 rw [z2, z3, z4] at g5
 rw [z1, z2] at g3
 rw [z3] at g4
 rw [z1] at g2
 rw [z4]
 exact ⟨⟨_, g5, rfl⟩, h _ g5 g3 g4 ⟨_, g1, rfl, rfl⟩ ⟨_, g2, rfl, rfl⟩ fun c o x =>
  Heap.get?_push_of_some _ (Heap.get?_push_of_some _ (Heap.get?_push_of_some _ (Heap.get?_push_of_some _ (Heap.get?_push_of_some _ x))))⟩
end
noncomputable def SqK (b : Bool) (K : PySem.W.Frag) (H : Hp) (l : Addr) (xs : List V) : Prop := match b with
 | true => SqL K H l xs
 | false => SqT K H l xs
theorem Inv.h5k {X : Cx} {pins : List (Addr × Obj)} {σ : St} {H : Hp} {s : Shared} {b : Bool} {l : Addr} {xs : List V} (I : Inv X pins σ H s) (h : SqK b X.K H l xs) : ∃ its : List Value, Vals xs its /\ SqB b s.heap l its.toArray /\ xs.length <= sizeLine := by
 cases b with
 | true =>
  obtain ⟨its, r, p, z⟩ := I.list h
  exact ⟨its, r, p.isList, z⟩
 | false =>
  obtain ⟨its, r, p, z⟩ := I.tuple h
  exact ⟨its, r, p, z⟩
theorem Inv.f9p {X : Cx} {pins : List (Addr × Obj)} {σ : St} {H : Hp} {s : Shared} {b : Bool} {l : Addr} {xs ys : List V} (I : Inv X pins σ H s) (h : SqK b X.K H l xs) (h' : SqK b X.K H l ys) : xs = ys := by
 cases b with
 | true => exact I.f8w h h'
 | false => exact I.f2u h h'
noncomputable def Itz (K : PySem.W.Frag) (b1 b2 : Bool) (l1 l2 : Addr) : It :=
 ⟨fun i H => ∃ xs ys x y, SqK b1 K H l1 xs /\ SqK b2 K H l2 ys /\ xs[i]? = some x /\ ys[i]? = some y,
  fun i H v H' => ∃ p x y, v = .ref p ∧ H p = none ∧ H' = upd H p (.tup [x, y]) ∧ (∀ xs, SqK b1 K H l1 xs → xs[i]? = some x) ∧ ∀ ys, SqK b2 K H l2 ys → ys[i]? = some y,
  fun i H => ∃ xs ys, SqK b1 K H l1 xs ∧ SqK b2 K H l2 ys ∧ (xs.length ≤ i ∨ ys.length ≤ i)⟩
theorem g8t {P : Program} {w : World} {K : PySem.W.Frag} {elts : List Expr} {kk : Nat} {tpos : Pos} {b1 b2 : Bool} {z TI TO i1 i2 l1 l2 : Addr} (D : ZipApart z TI TO i1 i2 l1 l2) :
  Turn P w K (.Tuple elts kk tpos) (Itz K b1 b2 l1 l2) [z, TI, TO, i1, i2] z (fun i h => IsZip h z TI TO .none /\ IsPair h TI (.ref i1) (.ref i2) /\ (∃ a b, IsPair h TO a b) /\ ItB b1 h i1 l1 i /\ ItB b2 h i2 l2 i) where
 mem := by simp
 obj := fun i h st b hb => by
  obtain ⟨hz, hTI, ⟨a, c, hTO⟩, ⟨o1, e1, _, d1⟩, ⟨o2, e2, _, d2⟩⟩ := st
  simp only [List.mem_cons, List.not_mem_nil, or_false] at hb
  rcases hb with rfl | rfl | rfl | rfl | rfl
  ·exact ⟨_, hz, fun v z => by cases z⟩
  ·exact ⟨_, hTI, fun v z => by cases z⟩
  ·exact ⟨_, hTO, fun v z => by cases z⟩
  ·exact ⟨_, e1, fun v z => by rw [d1] at z; cases z⟩
  ·exact ⟨_, e2, fun v z => by rw [d2] at z; cases z⟩
 keep := fun i h h' st k => by
  obtain ⟨hz, hTI, ⟨a, c, hTO⟩, h1, h2⟩ := st
  exact ⟨k z (by simp) _ hz, k TI (by simp) _ hTI, ⟨a, c, k TO (by simp) _ hTO⟩, h1.at fun o e => k i1 (by simp) o e, h2.at fun o e => k i2 (by simp) o e⟩
 item := by
  intro X hP hw hK hc i pins s σ H E I hf st hg
  subst hP hw hK
  obtain ⟨xs, ys, x, y, hq1, hq2, hx, hy⟩ := hg
  obtain ⟨us, r1, p1, _⟩ := I.h5k hq1
  obtain ⟨ws, r2, p2, _⟩ := I.h5k hq2
  obtain ⟨u, hu, ru⟩ := r1.get hx
  obtain ⟨v, hv, rv⟩ := r2.get hy
  obtain ⟨hz, hTI, ⟨a, b, hTO⟩, h1, h2⟩ := st
  refine g5c D hz hTI hTO h1 h2 p1 p2 (x := u) (y := v) (by simpa using hu) (by simpa using hv) fun h' z' TO' h1' h2' pT kk' => ?_
  refine ⟨.ref s.heap.objs.size, rfl, wpAny_letOwnedTupleGo_zip (s := { s with heap := h' }) z' fun h'' z'' sb => ?_⟩
  replace sb : Heap.SameBut z h' h'' := sb
  have k2 : ∀ c o, c ∉ [z, TI, TO, i1, i2] -> s.heap.get? c = some o -> h''.get? c = some o := fun c o hc e => by
   simp only [List.mem_cons, List.not_mem_nil, or_false, not_or] at hc
   exact sb.extBut _ _ hc.1 (kk' c o hc.1 hc.2.2.1 hc.2.2.2.1 hc.2.2.2.2 e)
  have I1 : Inv X pins σ H { s with heap := h'' } := I.g5b (t' := s.toks) k2 hf
  have zlt : z < s.heap.objs.size := Heap.lt_size hz
  have pT2 : IsPair h'' s.heap.objs.size u v := sb.extBut _ _ (Nat.ne_of_gt zlt) pT
  have fo := I.h2n (b := s.heap.objs.size) (Nat.le_refl _) (I.hok.fresh (Nat.le_refl _))
  have nT : H s.heap.objs.size = none := I.hok.fresh (Nat.le_refl _)
  have I2 : Inv X pins σ (upd H s.heap.objs.size (.tup [x, y])) { s with heap := h'' } := by
   refine I1.track ?_ fo.2.1 fo.2.2.2.2.1 fo.2.2.2.2.2 nT ⟨two_line, [u, v], .cons ru (.cons rv .nil), ⟨_, pT2, rfl, 0, rfl⟩⟩
   cases q : X.s₀.heap.get? s.heap.objs.size with
   | none => rfl
   | some o => exact absurd (Nat.lt_of_lt_of_le (Heap.lt_size q) I.sz) (Nat.lt_irrefl _)
  have ne : ∀ b ∈ [z, TI, TO, i1, i2], b ≠ s.heap.objs.size := fun b hb e => by
   have lt : b < s.heap.objs.size := by
    simp only [List.mem_cons, List.not_mem_nil, or_false] at hb
    rcases hb with rfl | rfl | rfl | rfl | rfl
    ·exact zlt
    ·exact Heap.lt_size hTI
    ·exact Heap.lt_size hTO
    ·obtain ⟨_, e, _⟩ := h1; exact Heap.lt_size e
    ·obtain ⟨_, e, _⟩ := h2; exact Heap.lt_size e
   exact Nat.ne_of_lt lt e
  refine ⟨.ref s.heap.objs.size, _, I2, rfl, ⟨_, x, y, rfl, nT, rfl, fun xs' h => by rw [I.f9p h hq1]; exact hx, fun ys' h => by rw [I.f9p h hq2]; exact hy⟩,
   ⟨z'', sb.extBut _ _ D.TIz (kk' _ _ D.TIz D.TITO D.TIi1 D.TIi2 hTI), ⟨_, _, sb.extBut _ _ D.TOz TO'⟩, h1'.at fun o e => sb.extBut _ _ D.i1z e, h2'.at fun o e => sb.extBut _ _ D.i2z e⟩, fun b hb => by rw [a3m (ne b hb)]; exact (hf b hb).1⟩
 done := by
  intro X hP hw hK hc i pins s σ H E I hf st hg
  subst hP hw hK
  obtain ⟨xs, ys, hq1, hq2, hle⟩ := hg
  obtain ⟨us, r1, p1, _⟩ := I.h5k hq1
  obtain ⟨ws, r2, p2, _⟩ := I.h5k hq2
  obtain ⟨hz, hTI, ⟨a, b, hTO⟩, h1, h2⟩ := st
  have l1' := r1.length
  have l2' := r2.length
  refine g8r (I.ok.hd hc) D hz hTI hTO h1 h2 p1 p2 (by rcases hle with h | h <;> simp <;> omega) fun h' kk' => ⟨rfl, I.g5b (t' := s.toks) (fun c o hc e => ?_) hf⟩
  simp only [List.mem_cons, List.not_mem_nil, or_false, not_or] at hc
  exact kk' c o hc.1 hc.2.2.1 hc.2.2.2.1 hc.2.2.2.2 e
 self := fun _ _ _ _ _ st h => wpAny_pyIter_zip st.1 h
noncomputable def h9a (K : PySem.W.Frag) (ta : TA) : TI := fun σ H R => ta σ H fun vs H1 => match vs with
 | [.ref l1, .ref l2] => (match H1 l1, H1 l2 with
  | some (.lst _), some (.lst _) => R (Itz K true true l1 l2) H1
  | some (.lst _), some (.tup _) => R (Itz K true false l1 l2) H1
  | some (.tup _), some (.lst _) => R (Itz K false true l1 l2) H1
  | some (.tup _), some (.tup _) => R (Itz K false false l1 l2) H1
  | _, _ => False)
 | _ => False
theorem h1g {X : Cx} {elts : List Expr} {kk : Nat} {tpos : Pos} {a b : Expr} {ta : TA} {p pos : Pos} (hg : Gl X "zip") (hm : X.mg "zip" = none) (ha : PA X [a, b] ta) (hs : starEach [a, b] X.env = [(false, eval a X.env), (false, eval b X.env)] := by rfl) (hs2 : starEach [b] X.env = [(false, eval b X.env)] := by rfl) :
  PI X (.Tuple elts kk tpos) (.Call (.Name "zip" p) [a, b] [] pos) (h9a X.K ta) := by
 intro pins s σ H R I h
 refine Call_ (d1y I hg hm boot_zip (PyProof.Rows.callWith_type1 (thn (ha pos pins s σ H _ I h) fun us s1 ⟨vs, H1, I1, r1, q1⟩ => ?_) (by rw [hs, hs2]) (by rw [hs2]; rfl)))
 match vs, q1 with
 | [.ref l1, .ref l2], q1 =>
  obtain ⟨u, u', e0, e, e'⟩ := r1.two
  cases e
  cases e'
  subst e0
  have q : ∃ (b1 b2 : Bool) (xs ys : List V), SqK b1 X.K H1 l1 xs /\ SqK b2 X.K H1 l2 ys /\ R (Itz X.K b1 b2 l1 l2) H1 := by
   have q1' : (match H1 l1, H1 l2 with
    | some (.lst _), some (.lst _) => R (Itz X.K true true l1 l2) H1
    | some (.lst _), some (.tup _) => R (Itz X.K true false l1 l2) H1
    | some (.tup _), some (.lst _) => R (Itz X.K false true l1 l2) H1
    | some (.tup _), some (.tup _) => R (Itz X.K false false l1 l2) H1
    | _, _ => False) := q1
   split at q1'
   ·rename_i e1 e2
    exact ⟨true, true, _, _, SqL.of e1, SqL.of e2, q1'⟩
   ·rename_i e1 e2
    exact ⟨true, false, _, _, SqL.of e1, SqT.of e2, q1'⟩
   ·rename_i e1 e2
    exact ⟨false, true, _, _, SqT.of e1, SqL.of e2, q1'⟩
   ·rename_i e1 e2
    exact ⟨false, false, _, _, SqT.of e1, SqT.of e2, q1'⟩
   ·exact q1'.elim
  obtain ⟨b1, b2, xs, ys, hq1, hq2, q⟩ := q
  obtain ⟨us, rr1, p1, _⟩ := I1.h5k hq1
  obtain ⟨ws, rr2, p2, _⟩ := I1.h5k hq2
  have L1 : l1 < s1.heap.objs.size := by obtain ⟨_, e, _⟩ := p1; exact Heap.lt_size e
  have L2 : l2 < s1.heap.objs.size := by obtain ⟨_, e, _⟩ := p2; exact Heap.lt_size e
  refine g8s p1 p2 fun h' hz hTI hTO h1 h2 hk => ?_
  refine wpAny_pyIter_zip (s := { s1 with heap := h' }) hz ?_
  have D : ZipApart (s1.heap.objs.size + 4) (s1.heap.objs.size + 2) (s1.heap.objs.size + 3) s1.heap.objs.size (s1.heap.objs.size + 1) l1 l2 := by
   generalize s1.heap.objs.size = n at L1 L2
   replace L1 : Nat.lt l1 n := L1
   replace L2 : Nat.lt l2 n := L2
   constructor <;> (intro e; have : (n : Nat) = n := rfl; simp only [Nat.lt_eq] at L1 L2; first | (have e' : (_ : Nat) = _ := e; omega))
  refine ⟨_, [s1.heap.objs.size + 4, s1.heap.objs.size + 2, s1.heap.objs.size + 3, s1.heap.objs.size, s1.heap.objs.size + 1], _, _, H1, rfl, I1.kept (t' := s1.toks) hk, g8t D, ⟨hz, hTI, ⟨_, _, hTO⟩, h1, h2⟩, fun b hb => ?_, q⟩
  have hb' : s1.heap.objs.size <= b := by
   simp only [List.mem_cons, List.not_mem_nil, or_false] at hb
   rcases hb with rfl | rfl | rfl | rfl | rfl
   ·exact Nat.le_add_right _ _
   ·exact Nat.le_add_right _ _
   ·exact Nat.le_add_right _ _
   ·exact Nat.le_refl _
   ·exact Nat.le_add_right _ _
  exact I1.h2n hb' (I1.hok.fresh hb')
theorem f9q {K : PySem.W.Frag} {b1 b2 : Bool} {l1 l2 : Addr} {xs ys : List V} {g : TG} {tb : TS} {D : Ends} {σ : St} {H : Hp} (Pv : Nat -> St -> Hp -> Prop) (h0 : Pv 0 σ H) (hl : ∀ i σ H, Pv i σ H -> SqK b1 K H l1 xs /\ SqK b2 K H l2 ys)
  (hs : ∀ i x y σ H p H', xs[i]? = some x -> ys[i]? = some y -> Pv i σ H -> H p = none -> Same H H' -> H' p = some (.tup [x, y]) -> g (.ref p) σ H' fun σ2 H2 => tb { D with nx := Pv (i + 1), ct := Pv (i + 1), bk := D.nx } σ2 H2)
  (hd : ∀ σ H, Pv (min xs.length ys.length) σ H -> D.nx σ H) : h7c (Itz K b1 b2 l1 l2) g tb D σ H := by
 refine ⟨fun i m σ H => m = min xs.length ys.length - i /\ i <= min xs.length ys.length /\ Pv i σ H, ⟨min xs.length ys.length, by simp, Nat.zero_le _, h0⟩, ?_⟩
 rintro i m σ H ⟨rfl, hi, p⟩
 obtain ⟨e1, e2⟩ := hl i σ H p
 by_cases hlt : i < min xs.length ys.length
 ·have hx : xs[i]? = some (xs[i]'(by omega)) := List.getElem?_eq_getElem _
  have hy : ys[i]? = some (ys[i]'(by omega)) := List.getElem?_eq_getElem _
  refine .inr ⟨⟨xs, ys, _, _, e1, e2, hx, hy⟩, Pv (i + 1), fun σ' H' p' => ⟨min xs.length ys.length - (i + 1), by omega, rfl, hlt, p'⟩, fun v H' y => ?_⟩
  obtain ⟨q, x, y, rfl, nq, rfl, k1, k2⟩ := y
  exact hs i x y σ H q _ (k1 _ e1) (k2 _ e2) p nq (Same.upd nq) a6j
 ·have e : i = min xs.length ys.length := by omega
  subst e
  exact .inl ⟨⟨xs, ys, e1, e2, by omega⟩, hd σ H p⟩
end L2
namespace L2
open PySem PySem.Spec PyProof.Rows
noncomputable def i2m (X : Cx) (scope : Scope) (cl : List (Str × Addr)) (C : Addr) (s₃ : Shared) (H₃ : Hp) (fp : List Addr) (x y : Str) : Cx where
 prog := X.prog
 w := X.w
 K := X.K
 mg := X.mg
 base := X.base
 A := X.A
 N := x :: y :: X.N
 s₀ := s₃
 H₀ := H₃
 env := compEnvC scope cl C X.env
 outer := X.stack
 stack := X.stack
 ex := fp
 fn := fun _ => false
 calm := X.calm
 pn := []
 xe := fun _ _ => False
structure h5l (X : Cx) (scope : Scope) (x y : Str) : Prop where
 kind : scope.kind = .function
 f9k : ∀ y ∈ scope.names, y.2 ≠ .cell
 loc : ∀ y ∈ scope.names, y.2 = .local -> scope.names.lookup y.1 = some .local
 own : scope.names.lookup x = some .local
 own2 : scope.names.lookup y = some .local
 free : ∀ y ∈ scope.names, y.2 = .free -> X.env.kindOf y.1 = some .cell \/ X.env.kindOf y.1 = some .free
 nd : (x :: y :: X.N).Nodup
 vis : ∀ y ∈ X.N, scope.names.lookup y ≠ some .local
noncomputable def h9b (J : It) (te : TE) (D : Addr) (σ : St) (H : Hp) (Q : VK) (_ : Tag Q) : Prop := ∃ (n : Nat) (W : Nat -> List V -> Hp -> Prop), W 0 [] H /\ ∀ i ys H, i <= n -> W i ys H -> H D = some (.lst ys) /\
 ((J.stop i H /\ Q (.ref D) H) \/ (i < n /\ J.go i H /\ ys.length < sizeLine /\ ∀ x H', J.yld i H x H' -> ∃ p u v, x = .ref p /\ H' p = some (.tup [u, v]) /\ te (some u :: some v :: σ) H' fun y H2 => H2 D = some (.lst ys) /\
  ∀ H3, a6i D H2 H3 -> H3 D = some (.lst (ys ++ [y])) -> W (i + 1) (ys ++ [y]) H3))
noncomputable def h9c (wi : TI) (te : TE) : TE := fun σ H Q => wi σ H fun J H1 => ∀ D H2, H1 D = none -> Same H1 H2 -> H2 D = some (.lst []) -> h9b J te D σ H2 Q ⟨⟩
section
variable {X : Cx} {scope : Scope} {x y : Str} {cl : List (Str × Addr)} {pins : List (Addr × Obj)} {σ : St} {H : Hp} {s s₄ : Shared} {fp : List Addr}
end
section
variable {X : Cx} {scope : Scope} {x y : Str} {pins : List (Addr × Obj)} {σ : St} {elt iter : Expr} {px py tpos pos : Pos} {kk : Nat} {wi : TI} {te : TE}
end
noncomputable def i2n (sc scope : Scope) (x y : Str) (N : List Str) : Bool :=
 (scope.kind == .function) && scope.names.all (fun y => y.2 != .cell) && scope.names.all (fun y => y.2 != .local || scope.names.lookup y.1 == some .local) && (scope.names.lookup x == some .local) && (scope.names.lookup y == some .local) &&
 scope.names.all (fun y => y.2 != .free || (sc.names.lookup y.1 == some .cell || sc.names.lookup y.1 == some .free)) && decide ((x :: y :: N).Nodup) && N.all (fun y => scope.names.lookup y != some .local)
end L2
namespace L2
open PySem PySem.Spec PyProof.Rows
noncomputable def h9d (K : PySem.W.Frag) (tl : TE) : TI := fun σ H R => tl σ H fun x H1 => match x with
 | .ref a => (match H1 a with
  | some (.tup _) => R (Itt K a) H1
  | _ => False)
 | _ => False
theorem h3v {X : Cx} {tg l : Expr} {tl : TE} (hl : PE X l tl) : PI X tg l (h9d X.K tl) := by
 intro pins s σ H R I h
 refine thn (hl pins s σ H _ I h) fun v s1 ⟨x, H1, I1, r1, q1⟩ => ?_
 cases x with
 | ref a =>
  have q' : (match H1 a with
   | some (.tup _) => R (Itt X.K a) H1
   | _ => False) := q1
  split at q'
  ·rename_i xs e
   cases r1
   obtain ⟨its, rv, p, hz⟩ := I1.tuple (SqT.of e)
   refine wpAny_pyIter_tuple (show s1.heap.IsTuple a its.toArray from p) ?_
   refine ⟨s1.heap.objs.size, [s1.heap.objs.size], _, _, H1, rfl, I1.kept (t' := s1.toks) fun b o e => Heap.get?_push_of_some _ e, g0p a _, ⟨_, Heap.get?_push_size _ rfl, rfl, rfl⟩, fun b hb => ?_, q'⟩
   have e : b = s1.heap.objs.size := by simpa using hb
   subst e
   exact I1.h2n (Nat.le_refl _) (I1.hok.fresh (Nat.le_refl _))
  ·exact q'.elim
 | _ => exact False.elim q1
noncomputable def rSlG : V -> Option Int -> Option Int -> Hp -> VK -> Prop := fun x lo hi H Q => match x with
 | .ref a => (match H a with
  | some (.lst xs) => New H (.lst (f3k xs lo hi)) Q ⟨⟩
  | some (.tup xs) => ¬ (HT.sIx xs.length 0 lo = 0 /\ HT.sIx xs.length xs.length hi = xs.length) /\ New H (.tup (f3k xs lo hi)) Q ⟨⟩
  | _ => False)
 | _ => False
theorem g5d {K : PySem.W.Frag} {a D : Addr} {xs : List V} {te : TE} {σ : St} {H : Hp} {Q : VK} (Pv : Nat -> List V -> Hp -> Prop) (h0 : Pv 0 [] H) (hsz : xs.length <= sizeLine)
  (hD : ∀ i ys H, i <= xs.length -> Pv i ys H -> H D = some (.lst ys) /\ SqT K H a xs /\ ys.length = i)
  (hs : ∀ i x ys H, xs[i]? = some x -> Pv i ys H -> te (some x :: σ) H fun y H2 => H2 D = some (.lst ys) /\ ∀ H3, a6i D H2 H3 -> H3 D = some (.lst (ys ++ [y])) -> Pv (i + 1) (ys ++ [y]) H3)
  (hd : ∀ ys H, Pv xs.length ys H -> Q (.ref D) H) : f0k (Itt K a) te D σ H Q ⟨⟩ := by
 refine ⟨xs.length, Pv, h0, fun i ys H hi p => ?_⟩
 obtain ⟨e1, e2, e3⟩ := hD i ys H hi p
 refine ⟨e1, ?_⟩
 by_cases hlt : i < xs.length
 ·refine .inr ⟨hlt, ⟨xs, xs[i], e2, by simp [hlt]⟩, by omega, fun x H' y => ?_⟩
  obtain ⟨e, y⟩ := y
  subst e
  exact hs i x ys _ (y xs e2) p
 ·have e : i = xs.length := by omega
  subst e
  exact .inl ⟨⟨xs, e2, Nat.le_refl _⟩, hd ys H p⟩
theorem g1g {K : PySem.W.Frag} {a D : Addr} {xs : List V} {te : TE} {σ : St} {H0 H : Hp} {Q : VK} (g : V -> V) (n0 : H0 D = none) (S : Same H0 H) (hD : H D = some (.lst [])) (hS : H0 a = some (.tup xs)) (hsz : xs.length <= sizeLine)
  (hs : ∀ (i : Nat) x H' (Q' : VK), xs[i]? = some x -> Same H0 H' -> Q' (g x) H' -> te (some x :: σ) H' Q') (q : ∀ H', Same H0 H' -> H' D = some (.lst (xs.map g)) -> Q (.ref D) H') : f0k (Itt K a) te D σ H Q ⟨⟩ := by
 refine g5d (fun i ys H' => Same H0 H' /\ H' D = some (.lst ys) /\ ys = (xs.take i).map g) ⟨S, hD, by simp⟩ hsz (fun i ys H' hi p => ?_) (fun i x ys H' hx p => ?_) (fun ys H' p => ?_)
 ·refine ⟨p.2.1, SqT.of (p.1 _ _ hS), ?_⟩
  rw [p.2.2, List.length_map, List.length_take]
  omega
 ·refine hs i x H' _ hx p.1 ⟨p.2.1, fun H3 s3 h3 => ⟨p.1.step n0 s3, h3, ?_⟩⟩
  have hi : i < xs.length := (List.getElem?_eq_some_iff.mp hx).1
  rw [p.2.2, List.take_add_one, hx, List.map_append]
  rfl
 ·refine q H' p.1 ?_
  rw [p.2.1, p.2.2, List.take_length]
end L2
namespace L2
open PySem PySem.Spec PyProof.Rows
section
variable {prog : Program} {w : World} {A : Around} {E : Value -> Shared -> Prop} {s : Shared}
end
section
variable {prog : Program} {w : World} {A : Around} {E : Value -> Shared -> Prop} {s : Shared}
end
noncomputable def Ite (K : PySem.W.Frag) (l : Addr) (n : Int) : It :=
 ⟨fun i H => ∃ xs x, SqL K H l xs /\ xs[i]? = some x,
  fun i H v H' => ∃ p x, v = .ref p ∧ H p = none ∧ H' = upd H p (.tup [.int (n + (i : Int)), x]) ∧ ∀ xs, SqL K H l xs → xs[i]? = some x,
  fun i H => ∃ xs, SqL K H l xs ∧ xs.length ≤ i⟩
end L2
namespace L2
open PySem PySem.Spec PyProof.Rows
section
variable {M : Model} {A : Around} {E : Value -> Shared -> Prop} {s : Shared} {env : Env}
end
noncomputable def i4w (K : PySem.W.Frag) (t tk : TA) : TI := fun σ H R => t σ H fun vs H1 => tk σ H1 fun zs H2 => match vs, zs with
 | [.ref l], [.int n] => (match H2 l with
  | some (.lst _) => -(2 ^ 62) <= n /\ n < 2 ^ 62 /\ R (Ite K l n) H2
  | _ => False)
 | _, _ => False
end L2
namespace L2
open PySem PySem.Spec PyProof.Rows
noncomputable def tBM0F (chk : V -> Hp -> Bool) (r : V -> List V -> Hp -> VK -> Prop) (to : TE) : TE := fun σ H Q => to σ H fun x H1 => chk x H1 = true /\ r x [] H1 Q
section
variable {X : Cx} {o : Expr} {to : TE} {name : Str} {apos cpos : Pos} {T id : String} {r : V -> List V -> Hp -> VK -> Prop} {chk : V -> Hp -> Bool}
noncomputable def rClrF : V -> List V -> Hp -> VK -> Prop := fun x vs H Q => match x, vs with
 | .ref l, [] => (match H l with
  | some (.lst _) => All (fun v H1 => v = .non /\ a6i l H H1 /\ H1 l = some (.lst [])) Q ⟨⟩ ⟨⟩
  | _ => False)
 | _, _ => False
noncomputable def i4x : V -> List V -> Hp -> VK -> Prop := fun x vs H Q => match x, vs with
 | .str z, [.ref l] => (match H l with
  | some (.lst xs) => ∃ ys : List Str, xs = ys.map V.str /\ JoinOk z ys = true /\ Q (.str (Txt.join z ys)) H
  | _ => False)
 | _, _ => False
end
end L2
namespace L2
open PySem PySem.Spec PyProof.Rows
structure i2o (K : PySem.W.Frag) (w : World) (d : Addr) : Prop where
 lk : ∃ es n, K.lookup d = some ⟨.type "dict", none, .dict es n, #[]⟩ ∧ PySem.W.KeysLit w.params es.toList
 ns : (d == sysModules) = false
noncomputable def i4y (K : PySem.W.Frag) (w : World) (neg : Bool) : R2 := fun x y H Q => match x, y with
 | .str z, .ref d => i2o K w d /\ ∃ r, PySem.W.nsIn K d z = some r /\ Q (.bl (r.isSome != neg)) H
 | _, _ => False
section
variable {X : Cx}
theorem g5e {K : PySem.W.Frag} {w : World} (eK : X.K = K) (eW : X.w = w) : OpR X (compareOp .NotIn) (i4y K w true) := by
 subst eK eW
 intro pins s σ H x y v u Q I rx ry h
 match x, y, h with
 | .str z, .ref d, ⟨⟨⟨es, n, hl, hk⟩, hn⟩, r, e, q⟩ =>
  obtain ⟨t, rfl⟩ := rx
  cases ry
  refine wpAny_notIn_of (PySem.strKind_is X.prog X.w z t) hn (PySem.W.mapOf_K (prog := X.prog) I.kIn hl (hk)) ?_
  rw [PySem.W.find_K hl e]
  rw [Bool.bne_true] at q
  exact ⟨.bl (!r.isSome), H, I.tok _, rfl, q⟩
noncomputable def i4z (K : PySem.W.Frag) (w : World) : R2 := fun x y H Q => match x, y with
 | .ref d, .str z => i2o K w d /\ ∃ f, PySem.W.nsIn K d z = some (some (.ref f)) /\ Q (.ref f) H
 | _, _ => False
theorem i1d {K : PySem.W.Frag} {w : World} (eK : X.K = K) (eW : X.w = w) : IxR X (i4z K w) := by
 subst eK eW
 intro value slice pins s σ H x y v u Q I rx ry h hs
 match x, y, h with
 | .ref d, .str z, ⟨⟨⟨es, n, hl, hk⟩, hn⟩, f, e, q⟩ =>
  obtain ⟨t, rfl⟩ := ry
  cases rx
  have hm := PySem.W.mapOf_K (prog := X.prog) (w := X.w) I.kIn hl (hk)
  exact tail_any hm.typeIs slot_dict_getitem.lookup (wpAny_getItem_of (PySem.strKind_is X.prog X.w z t) hm (PySem.W.find_K hl e) ⟨.ref f, H, I.tok _, rfl, q⟩) hs
noncomputable def h1h (f : Addr) (sp : Sp) (dvs : List V) (E : XK) (tg : TE) (t : TA) : TE := fun σ H Q => tg σ H fun x H1 => x = .ref f /\ h2v sp dvs E t σ H1 Q
theorem d3g {CX : CXT} {k : Nat} {f : Addr} {fd : FuncData} {ps : List Str} {sp : Sp} {ds : List Value} {dvs : List V} {E : XK} {g e : Expr} {es : List Expr} {tg : TE} {t : TA} {pos : Pos} (F : a1p X.prog X.w X.K X.mg X.base CX k f fd ps sp) (hr : a2q k X.A) (hk : PySem.W.keepIn X.K (.ref f) = true) (hb : Binds X.K fd ps ds) (hd : Vals dvs ds) (hx : Passes CX X E)
  (hg : PE X g tg) (ha : PA X (e :: es) t) (he : starEach (e :: es) X.env = (false, eval e X.env) :: starEach es X.env := by rfl) (hpl : (backTo pos (starEach es X.env)).any (·.1) = false := by rfl)
  (hc : eval (.Call g (e :: es) [] pos) X.env = (do callWith pos (<- eval g X.env) [] (backTo pos (starEach (e :: es) X.env)) (backToKw pos (keywordEach [] X.env))) := by rfl) :
  PE X (.Call g (e :: es) [] pos) (h1h f sp dvs E tg t) := by
 intro pins s σ H Q I h
 refine Call_ (thn (hg pins s σ H _ I h) fun v s1 ⟨x, H1, I1, r1, ex, q1⟩ => ?_) hc
 subst ex
 cases r1
 refine PySem.W.callWith_K (h₀ := X.base) I1.ok.mod.kin hk (thn (ha pos pins s1 σ H1 _ I1 q1) fun us s2 ⟨vs, H2, I2, r, q⟩ => ⟨I2.kIn, ?_⟩) he hpl
 exact f8z F hr hb hd hx I2 r q
theorem SP.i2p {pins : List (Addr × Obj)} {D : Ends} {f : Flow} {s : Shared} (h : SP X.nox pins D f s) : SP X pins D f s := by
 cases f with
 | next => obtain ⟨a, b, c, d⟩ := h; exact ⟨a, b, c.b6m, d⟩
 | brk => obtain ⟨a, b, c, d⟩ := h; exact ⟨a, b, c.b6m, d⟩
 | cont => obtain ⟨a, b, c, d⟩ := h; exact ⟨a, b, c.b6m, d⟩
 | ret u => obtain ⟨v, a, b, c, d⟩ := h; exact ⟨v, a, b, c.b6m, d⟩
theorem h3w {st : Stmt} {h₀ : ExceptHandler} {hs : List ExceptHandler} {tb : TS} {pos : Pos} (hb : PS X.nox st tb) : PS X (.Try [st] (h₀ :: hs) [] [] pos) tb := by
 intro pins s σ H Dn I h
 refine wpAny_Try_except (wpAny_execs_cons (wpAny_mono (hb pins s σ H Dn (I.wish _) h) (fun f s1 q => ?_) fun e s1 z => False.elim z))
 have q' := SP.i2p q
 cases f with
 | next => exact wpAny_execs_nil (wpAny_execs_nil q')
 | ret v => exact q'
 | brk => exact q'
 | cont => exact q'
end
end L2
namespace L2
open PySem PySem.Spec PyProof.Rows
theorem f9r {c : Nat} : ∀ {a a' b b' : List Nat}, a ++ c :: b = a' ++ c :: b' -> c ∉ a -> c ∉ a' -> a = a' /\ b = b'
 | [], [], _, _, h, _, _ => by simpa using h
 | [], d :: a', _, _, h, _, h2 => by
  rw [List.nil_append, List.cons_append, List.cons.injEq] at h
  exact absurd (by rw [h.1]; exact List.mem_cons_self) h2
 | d :: a, [], _, _, h, h1, _ => by
  rw [List.nil_append, List.cons_append, List.cons.injEq] at h
  exact absurd (by rw [h.1]; exact List.mem_cons_self) h1
 | d :: a, d' :: a', _, _, h, h1, h2 => by
  rw [List.cons_append, List.cons_append, List.cons.injEq] at h
  obtain ⟨e1, e2⟩ := f9r h.2 (fun q => h1 (List.mem_cons_of_mem _ q)) (fun q => h2 (List.mem_cons_of_mem _ q))
  exact ⟨by rw [h.1, e1], e2⟩
theorem a9y (c : Nat) (p q : Str) (r : List Str) : sg (Str.join ⟨#[c]⟩ (p :: q :: r)) = sg p ++ c :: sg (Str.join ⟨#[c]⟩ (q :: r)) := by
 show sg (p ++ ⟨#[c]⟩ ++ Str.join ⟨#[c]⟩ (q :: r)) = _
 rw [a2t, a2t, List.append_assoc]
 rfl
theorem f4k {c : Nat} : ∀ {ps qs : List Str}, ps ≠ [] -> qs ≠ [] -> (∀ p ∈ ps, c ∉ sg p) -> (∀ q ∈ qs, c ∉ sg q) -> sg (Str.join ⟨#[c]⟩ ps) = sg (Str.join ⟨#[c]⟩ qs) -> ps = qs
 | [], _, h, _, _, _, _ => absurd rfl h
 | _ :: _, [], _, h, _, _, _ => absurd rfl h
 | [p], [q], _, _, _, _, e => by
  rw [b6n (show sg p = sg q from e)]
 | [p], q :: q' :: qs, _, _, fp, _, e => by
  rw [a9y] at e
  exact absurd (by rw [show sg p = _ from e]; simp) (fp p (List.mem_cons_self ..))
 | p :: p' :: ps, [q], _, _, _, fq, e => by
  rw [a9y] at e
  exact absurd (by rw [show sg q = _ from e.symm]; simp) (fq q (List.mem_cons_self ..))
 | p :: p' :: ps, q :: q' :: qs, _, _, fp, fq, e => by
  rw [a9y, a9y] at e
  obtain ⟨e1, e2⟩ := f9r e (fp p (List.mem_cons_self ..)) (fq q (List.mem_cons_self ..))
  rw [b6n e1, f4k (by simp) (by simp) (fun x hx => fp x (List.mem_cons_of_mem _ hx)) (fun x hx => fq x (List.mem_cons_of_mem _ hx)) e2]
theorem g5f (x y : Str) : b5j x y = Txt.split x y := rfl
theorem g8u (x y : Str) : Txt.split x y ≠ [] := by
 unfold Txt.split
 split
 ·simp
 ·split
  ·simp
  ·rw [StrLaws.partsBetween_eq]
   obtain ⟨p, r, e⟩ := StrLaws.partsFrom_ne x y.length 0 (Builtin.Str.occurrences x y 0 x.length (x.length + 1))
   rw [e]
   simp
theorem g1h {x : Str} {c : Nat} {ps : List Str} (hn : ps ≠ []) (hf : ∀ p ∈ ps, c ∉ sg p) (h : sg x = sg (Str.join ⟨#[c]⟩ ps)) : b5j x ⟨#[c]⟩ = ps := by
 rw [g5f]
 refine f4k (c := c) (g8u _ _) hn (fun p hp => StrLaws.split_free x c p hp) hf ?_
 rw [StrLaws.join_split, h]
end L2
namespace L2
open PySem PySem.Spec PyProof.Rows
noncomputable def a7v (t t' : TE) : TE := fun σ H Q => t σ H Q \/ t' σ H Q
theorem a1y {X : Cx} {e : Expr} {t t' : TE} (h : PE X e t) (h' : PE X e t') : PE X e (a7v t t') := fun pins s σ H Q I z => z.elim (h pins s σ H Q I) (h' pins s σ H Q I)
theorem g8v : ∀ (k n : Nat), n < 10 ^ (k + 1) -> (dg n).length <= k + 1
 | 0, n, h => by
  rw [f6t (by omega)]
  exact Nat.le_refl _
 | k + 1, n, h => by
  rcases Nat.lt_or_ge n 10 with z | z
  ·rw [f6t z, List.length_singleton]
   omega
  ·have e : n = 10 * (n / 10) + n % 10 := by omega
   rw [e, d3v (by omega) (by omega), List.length_append, List.length_singleton]
   have := g8v k (n / 10) (by rw [Nat.pow_succ] at h; omega)
   omega
open PySem.Builtin.Int (intBits)
noncomputable def fW (x : Rat) : Str := Str.empty ++ Str.ofString (toString x.num) ++ Str.ofString "/" ++ Str.ofString (toString (x.den : Int))
noncomputable def cW (c : Int × Rat) : Str := Str.empty ++ Str.ofString (toString c.1) ++ Str.ofString "=" ++ fW c.2
noncomputable def nW (n : Nat) : Str := Str.ofString (toString (n : Int))
noncomputable def YOk (y : Rat) : Prop := y.num.natAbs <= 1000 /\ y.den <= 1000
inductive Dt where
 | gain (y : Rat)
 | delay (n : Nat)
 | echo (y : Rat) (n t : Nat)
 | back (y : Rat) (n : Nat)
 | hall (y : Rat) (n : Nat)
 | swell (cs : List (Int × Rat))
noncomputable def Dt.kd : Dt -> Nat
 | .gain _ => 0
 | .delay _ => 1
 | .echo .. => 2
 | .back .. => 3
 | .hall .. => 4
 | .swell _ => 5
noncomputable def Dt.kind : Dt -> Str
 | .gain _ => Str.ofString "gain"
 | .delay _ => Str.ofString "delay"
 | .echo .. => Str.ofString "echo"
 | .back .. => Str.ofString "back"
 | .hall .. => Str.ofString "hall"
 | .swell _ => Str.ofString "swell"
noncomputable def Dt.vals : Dt -> List Str
 | .gain y => [fW y]
 | .delay n => [nW n]
 | .echo y n t => [fW y, nW n, nW t]
 | .back y n => [fW y, nW n]
 | .hall y n => [fW y, nW n]
 | .swell cs => [Str.join ⟨#[44]⟩ (cs.map cW)]
noncomputable def Dt.word (d : Dt) : Str := Str.join ⟨#[58]⟩ (d.kind :: d.vals)
noncomputable def h9e (cs : List (Int × Rat)) : Prop := (∀ c ∈ cs, 0 <= c.1 /\ c.1 <= 100000 /\ YOk c.2) /\ (∀ (i : Nat) c d, cs[i]? = some c -> cs[i + 1]? = some d -> c.1 < d.1) /\ 1 <= cs.length /\ cs.length <= 12
noncomputable def Dt.ok : Dt -> Prop
 | .gain y => YOk y
 | .delay n => n <= 1000
 | .echo y n t => YOk y /\ 1 <= n /\ n <= 1000 /\ t <= 16
 | .back y n => YOk y /\ 1 <= n /\ n <= 1000
 | .hall y n => YOk y /\ (y.num.natAbs : Int) < y.den /\ 1 <= n /\ n <= 1000
 | .swell cs => h9e cs
theorem d9i {t : Int} {n : Nat} (h : t.natAbs < 2 ^ n) (hn : 1 <= n) : t.natAbs.log2 < n := by
 rcases Nat.eq_zero_or_pos t.natAbs with z | z
 ·rw [z]
  show Nat.log2 0 < n
  have : Nat.log2 0 = 0 := by decide
  omega
 ·rw [Nat.log2_lt (by omega)]
  exact h
theorem d0j {t : Int} {n : Nat} (h : t.natAbs < 2 ^ n) (hn : 1 <= n) : (Str.ofString (toString t)).length <= n + 1 := by
 have e : (Str.ofString (toString t)).length = (txt t).length := by rw [<- c3q, c9g]
 have := f6u t
 have := d9i h hn
 omega
theorem f9s {n : Nat} (h : n < 2 ^ 20) : (nW n).length <= 21 := d0j (t := (n : Int)) (n := 20) (by omega) (by decide)
theorem YOk.b {y : Rat} (h : YOk y) : intBits y.num <= 10 /\ intBits (y.den : Int) <= 10 := ⟨intBits_le_iff.mpr (Nat.lt_of_le_of_lt h.1 (by decide)), intBits_le_iff.mpr (Nat.lt_of_le_of_lt (show (y.den : Int).natAbs <= 1000 from h.2) (by decide))⟩
theorem f4l {x : Rat} (h1 : intBits x.num <= 10) (h2 : intBits (x.den : Int) <= 10) : (fW x).length <= 23 := by
 have a := d0j (intBits_le_iff.mp h1) (by decide)
 have b := d0j (intBits_le_iff.mp h2) (by decide)
 have e0 : Str.empty.length = 0 := rfl
 have e1 : (Str.ofString "/").length = 1 := by decide +kernel
 unfold fW
 simp only [strLen_append, e0, e1]
 omega
theorem h9f {c : Int × Rat} (h0 : c.1.natAbs < 2 ^ 20) (h1 : intBits c.2.num <= 10) (h2 : intBits (c.2.den : Int) <= 10) : (cW c).length <= 45 := by
 have a := d0j h0 (by decide)
 have b := f4l h1 h2
 have e0 : Str.empty.length = 0 := rfl
 have e1 : (Str.ofString "=").length = 1 := by decide +kernel
 unfold cW
 simp only [strLen_append, e0, e1]
 omega
theorem g8w (n : Nat) : sg (nW n) = txt (n : Int) := c9g _
theorem h9g (y : Rat) : sg (fW y) = h1c y.num (y.den : Int) := by
 unfold fW h1c
 rw [a2t, a2t, a2t, c9g, c9g]
 have e4 : sg Str.empty = [] := rfl
 have e5 : sg (Str.ofString "/") = [47] := by decide +kernel
 rw [e4, e5]
 simp
theorem i2q (c : Int × Rat) : sg (cW c) = txt c.1 ++ 61 :: sg (fW c.2) := by
 unfold cW
 rw [a2t, a2t, a2t, c9g]
 have e4 : sg Str.empty = [] := rfl
 have e5 : sg (Str.ofString "=") = [61] := by decide +kernel
 rw [e4, e5]
 simp
theorem h3x {y : Rat} (h : YOk y) : Good (sg (fW y)) y.num (y.den : Int) := by
 have dp := y.den_pos
 refine ⟨h9g y, by omega, y.reduced, ?_, ?_⟩
 ·exact g8v 8 _ (Nat.lt_of_le_of_lt h.1 (by decide))
 ·exact g8v 8 _ (Nat.lt_of_le_of_lt (show (y.den : Int).natAbs <= 1000 from h.2) (by decide))
theorem g5g {c : Nat} (h1 : c ≠ 45) (h2 : 57 < c) (y : Rat) : c ∉ sg (fW y) := by
 rw [h9g]
 unfold h1c
 intro h
 rcases List.mem_append.mp h with z | z
 ·exact d9h h1 (.inr h2) z
 ·rcases List.mem_cons.mp z with z | z
  ·omega
  ·exact d9h h1 (.inr h2) z
theorem g5h {c : Nat} (h1 : c ≠ 45) (h2 : c < 48 \/ 57 < c) (n : Nat) : c ∉ sg (nW n) := by
 rw [g8w]
 exact d9h h1 h2
theorem h3y (c : Int × Rat) : 58 ∉ sg (cW c) := by
 rw [i2q]
 intro h
 rcases List.mem_append.mp h with z | z
 ·exact d9h (by decide) (.inr (by decide)) z
 ·rcases List.mem_cons.mp z with z | z
  ·omega
  ·exact g5g (by decide) (by decide) _ z
theorem g5i {c k : Nat} (hk : c ≠ k) : ∀ {ps : List Str}, (∀ p ∈ ps, c ∉ sg p) -> c ∉ sg (Str.join ⟨#[k]⟩ ps)
 | [], _ => by
  show c ∉ ([] : List Nat)
  simp
 | [p], h => h p (List.mem_cons_self ..)
 | p :: q :: r, h => by
  rw [a9y]
  intro z
  rcases List.mem_append.mp z with z | z
  ·exact h p (List.mem_cons_self ..) z
  ·rcases List.mem_cons.mp z with z | z
   ·exact hk z
   ·exact g5i hk (fun x hx => h x (List.mem_cons_of_mem _ hx)) z
theorem f4m {b : Nat} : ∀ {l : List Nat}, (∀ x ∈ l, x <= b) -> l.sum <= l.length * b
 | [], _ => Nat.zero_le _
 | x :: l, h => by
  have i := f4m (l := l) fun y hy => h y (List.mem_cons_of_mem _ hy)
  have := h x (List.mem_cons_self ..)
  rw [List.sum_cons, List.length_cons, Nat.succ_mul]
  omega
theorem f9t {z : Str} {ps : List Str} {n : Nat} (h : ∀ p ∈ ps, p.length <= n) : (Str.join z ps).length <= ps.length * n + ps.length * z.length := by
 have a := StrLaws.join_length_le z ps
 have b := f4m (b := n) (l := ps.map (·.length)) fun x hx => by
  obtain ⟨y, hy, rfl⟩ := List.mem_map.mp hx
  exact h y hy
 rw [List.length_map] at b
 have c : (ps.length - 1) * z.length <= ps.length * z.length := Nat.mul_le_mul_right _ (Nat.sub_le _ _)
 omega
theorem h9e.len {cs : List (Int × Rat)} (h : h9e cs) : ∀ c ∈ cs, (cW c).length <= 45 := fun c hc => by
 obtain ⟨a, b, y⟩ := h.1 c hc
 exact h9f (by omega) y.b.1 y.b.2
theorem h9e.jlen {cs : List (Int × Rat)} (h : h9e cs) : (Str.join ⟨#[44]⟩ (cs.map cW)).length <= 600 := by
 have a := f9t (z := ⟨#[44]⟩) (ps := cs.map cW) (n := 45) fun p hp => by
  obtain ⟨c, hc, rfl⟩ := List.mem_map.mp hp
  exact h.len c hc
 rw [List.length_map, d3u] at a
 have := h.2.2.2
 omega
theorem Dt.free {d : Dt} : ∀ p ∈ d.kind :: d.vals, 58 ∉ sg p := by
 cases d <;> intro p hp <;> simp only [Dt.kind, Dt.vals, List.mem_cons, List.not_mem_nil, or_false] at hp
 case gain => rcases hp with rfl | rfl; decide +kernel; exact g5g (by decide) (by decide) _
 case delay => rcases hp with rfl | rfl; decide +kernel; exact g5h (by decide) (.inr (by decide)) _
 case echo => rcases hp with rfl | rfl | rfl | rfl; decide +kernel; exact g5g (by decide) (by decide) _; exact g5h (by decide) (.inr (by decide)) _; exact g5h (by decide) (.inr (by decide)) _
 case back => rcases hp with rfl | rfl | rfl; decide +kernel; exact g5g (by decide) (by decide) _; exact g5h (by decide) (.inr (by decide)) _
 case hall => rcases hp with rfl | rfl | rfl; decide +kernel; exact g5g (by decide) (by decide) _; exact g5h (by decide) (.inr (by decide)) _
 case swell cs =>
  rcases hp with rfl | rfl
  ·decide +kernel
  ·refine g5i (by decide) fun p hp => ?_
   obtain ⟨c, _, rfl⟩ := List.mem_map.mp hp
   exact h3y c
theorem Dt.vlen {d : Dt} (h : d.ok) : ∀ p ∈ d.kind :: d.vals, p.length <= 600 := by
 have k1 : (Str.ofString "gain").length = 4 := by decide +kernel
 have k2 : (Str.ofString "delay").length = 5 := by decide +kernel
 have k3 : (Str.ofString "echo").length = 4 := by decide +kernel
 have k4 : (Str.ofString "back").length = 4 := by decide +kernel
 have k5 : (Str.ofString "hall").length = 4 := by decide +kernel
 have k6 : (Str.ofString "swell").length = 5 := by decide +kernel
 have f : ∀ {y : Rat}, YOk y -> (fW y).length <= 600 := fun h => Nat.le_trans (f4l h.b.1 h.b.2) (by decide)
 have g : ∀ {n : Nat}, n <= 1000 -> (nW n).length <= 600 := fun h => Nat.le_trans (f9s (Nat.lt_of_le_of_lt h (by decide))) (by decide)
 cases d <;> intro p hp <;> simp only [Dt.kind, Dt.vals, List.mem_cons, List.not_mem_nil, or_false] at hp
 case gain => rcases hp with rfl | rfl; omega; exact f h
 case delay => rcases hp with rfl | rfl; omega; exact g h
 case echo => rcases hp with rfl | rfl | rfl | rfl; omega; exact f h.1; exact g h.2.2.1; exact g (Nat.le_trans h.2.2.2 (by decide))
 case back => rcases hp with rfl | rfl | rfl; omega; exact f h.1; exact g h.2.2
 case hall => rcases hp with rfl | rfl | rfl; omega; exact f h.1; exact g h.2.2.2
 case swell cs => rcases hp with rfl | rfl; omega; exact h.jlen
theorem Dt.vn {d : Dt} : d.vals.length <= 3 := by
 cases d <;> simp [Dt.vals]
theorem Dt.wlen {d : Dt} (h : d.ok) : d.word.length <= 4000 := by
 have a := f9t (z := ⟨#[58]⟩) (d.vlen h)
 have b := d.vn
 rw [List.length_cons, d3u] at a
 unfold Dt.word
 omega
theorem Dt.split (d : Dt) : b5j d.word ⟨#[58]⟩ = d.kind :: d.vals := g1h (by simp) d.free rfl
theorem g1i (z p : Str) : Str.join z [p] = p := rfl
theorem g1j : sg Str.empty = [] := rfl
theorem h9h : sg (Str.ofString "gain:") = sg (Str.ofString "gain") ++ [58] := by decide +kernel
theorem h3z : sg (Str.ofString "delay:") = sg (Str.ofString "delay") ++ [58] := by decide +kernel
theorem h9i : sg (Str.ofString "echo:") = sg (Str.ofString "echo") ++ [58] := by decide +kernel
theorem h9j : sg (Str.ofString "back:") = sg (Str.ofString "back") ++ [58] := by decide +kernel
theorem h9k : sg (Str.ofString "hall:") = sg (Str.ofString "hall") ++ [58] := by decide +kernel
theorem h4a : sg (Str.ofString "swell:") = sg (Str.ofString "swell") ++ [58] := by decide +kernel
theorem g1k : sg (Str.ofString ":") = [58] := by decide +kernel
theorem i2r : Str.ofString "," = ⟨#[44]⟩ := by decide +kernel
theorem i2s : Str.ofString ":" = ⟨#[58]⟩ := by decide +kernel
theorem h1i (y : Rat) : Str.empty ++ Str.ofString "gain:" ++ fW y = (Dt.gain y).word := b6n (by
 simp only [Dt.word, Dt.kind, Dt.vals, a2t, a9y, g1i, g1j, h9h, g1k, List.nil_append, List.append_assoc, List.singleton_append, List.cons_append])
theorem g5j (n : Nat) : Str.empty ++ Str.ofString "delay:" ++ nW n = (Dt.delay n).word := b6n (by
 simp only [Dt.word, Dt.kind, Dt.vals, a2t, a9y, g1i, g1j, h3z, g1k, List.nil_append, List.append_assoc, List.singleton_append, List.cons_append])
theorem h1j (y : Rat) (n t : Nat) : Str.empty ++ Str.ofString "echo:" ++ fW y ++ Str.ofString ":" ++ nW n ++ Str.ofString ":" ++ nW t = (Dt.echo y n t).word := b6n (by
 simp only [Dt.word, Dt.kind, Dt.vals, a2t, a9y, g1i, g1j, h9i, g1k, List.nil_append, List.append_assoc, List.singleton_append, List.cons_append])
theorem h1l (y : Rat) (n : Nat) : Str.empty ++ Str.ofString "back:" ++ fW y ++ Str.ofString ":" ++ nW n = (Dt.back y n).word := b6n (by
 simp only [Dt.word, Dt.kind, Dt.vals, a2t, a9y, g1i, g1j, h9j, g1k, List.nil_append, List.append_assoc, List.singleton_append, List.cons_append])
theorem i5a (y : Rat) (n : Nat) : Str.empty ++ Str.ofString "hall:" ++ fW y ++ Str.ofString ":" ++ nW n = (Dt.hall y n).word := b6n (by
 simp only [Dt.word, Dt.kind, Dt.vals, a2t, a9y, g1i, g1j, h9k, g1k, List.nil_append, List.append_assoc, List.singleton_append, List.cons_append])
theorem i2t (z : Str) (ps : List Str) : Txt.join z ps = Str.join z ps := by
 show Builtin.Str.glued _ _ = _
 rw [StrLaws.glued_eq_join]
theorem i2u (cs : List (Int × Rat)) : Str.empty ++ Str.ofString "swell:" ++ Txt.join (Str.ofString ",") (cs.map cW) = (Dt.swell cs).word := b6n (by
 rw [i2t, i2r]
 simp only [Dt.word, Dt.kind, Dt.vals, a2t, a9y, g1i, g1j, h4a, g1k, List.nil_append, List.append_assoc, List.singleton_append, List.cons_append])
end L2
namespace L2
open PySem PySem.Spec PyProof.Rows
section
variable {X : Cx}
noncomputable def rInsF : V -> List V -> Hp -> VK -> Prop := fun x vs H Q => match x, vs with
 | .ref l, [.int i, y] => (match H l with
  | some (.lst xs) => 0 <= i /\ i < 1000000 /\ xs.length < sizeLine /\ All (fun v H1 => v = .non /\ a6i l H H1 /\ H1 l = some (.lst (xs.take i.toNat ++ y :: xs.drop i.toNat))) Q ⟨⟩ ⟨⟩
  | _ => False)
 | _, _ => False
noncomputable def h9l : V -> List V -> Hp -> VK -> Prop := fun x vs H Q => match x, vs with
 | .ref l, [.int i] => (match H l with
  | some (.lst xs) => 0 <= i /\ i < (xs.length : Int) /\ All (fun v H1 => xs[i.toNat]? = some v /\ a6i l H H1 /\ H1 l = some (.lst (xs.eraseIdx i.toNat))) Q ⟨⟩ ⟨⟩
  | _ => False)
 | .ref l, [] => (match H l with
  | some (.lst xs) => 0 < xs.length /\ All (fun v H1 => xs[xs.length - 1]? = some v /\ a6i l H H1 /\ H1 l = some (.lst xs.dropLast)) Q ⟨⟩ ⟨⟩
  | _ => False)
 | _, _ => False
theorem h4b : MtR X "list.pop" h9l := by
 intro pins s σ H x vs v us Q I rx rv h
 match x, vs, h with
 | .ref l, [.int i], h =>
  have h' : (match H l with
   | some (.lst xs) => 0 <= i /\ i < (xs.length : Int) /\ All (fun v H1 => xs[i.toNat]? = some v /\ a6i l H H1 /\ H1 l = some (.lst (xs.eraseIdx i.toNat))) Q ⟨⟩ ⟨⟩
   | _ => False) := h
  split at h'
  ·rename_i xs hH
   obtain ⟨i0, i1, q⟩ := h'
   obtain ⟨z, its, n, r, hl, e⟩ := I.h2z hH
   have hs : sizeLine = 16777216 := sizeLine_eq
   have hx : xs[i.toNat]? = some (xs[i.toNat]'(by omega)) := List.getElem?_eq_getElem _
   refine g7z pins s σ H _ _ v us Q I rx rv ⟨l, xs, i, i.toNat, xs[i.toNat]'(by omega), rfl, rfl, hH, by omega, by omega, ?_, hx, q _ _ ⟨hx, a6i.upd, a6j⟩⟩
   unfold seqIndex?
   simp only
   rw [if_neg (show ¬ i < 0 by omega)]
   rw [if_pos (by rw [Bool.and_eq_true, decide_eq_true_eq, decide_eq_true_eq]; omega)]
  ·exact h'.elim
 | .ref l, [], h =>
  have h' : (match H l with
   | some (.lst xs) => 0 < xs.length /\ All (fun v H1 => xs[xs.length - 1]? = some v /\ a6i l H H1 /\ H1 l = some (.lst xs.dropLast)) Q ⟨⟩ ⟨⟩
   | _ => False) := h
  split at h'
  ·rename_i xs hH
   obtain ⟨i0, q⟩ := h'
   have hx : xs[xs.length - 1]? = some (xs[xs.length - 1]'(by omega)) := List.getElem?_eq_getElem _
   exact h6u pins s σ H _ _ v us Q I rx rv ⟨l, xs, _, rfl, rfl, hH, hx, q _ _ ⟨hx, a6i.upd, a6j⟩⟩
  ·exact h'.elim
end
end L2
namespace L2
open PySem PySem.Spec PyProof.Rows PySem.W
theorem c9i (s : String) : PyData.strOk (Str.ofString s) = true := by
 rw [Str.ofString_eq_toList]
 unfold PyData.strOk
 show (List.toArray (s.toList.map Char.toNat)).all _ = true
 rw [List.all_toArray, List.all_eq_true]
 intro c hc
 obtain ⟨x, _, rfl⟩ := List.mem_map.mp hc
 rw [decide_eq_true_eq]
 have := x.valid
 unfold UInt32.isValidChar Nat.isValidChar at this
 show x.val.toNat < 1114112
 omega
theorem b2u {x y : Str} (h1 : PyData.strOk x = true) (h2 : PyData.strOk y = true) : PyData.strOk (x ++ y) = true := by
 unfold PyData.strOk at *
 show (x.cps ++ y.cps).all _ = true
 rw [Array.all_append, h1, h2]
 rfl
theorem f4n {K : PySem.W.Frag} {H : Hp} : ∀ ss : List Str, c3l K H (ss.map V.str) (kqdPs (ss.map Dat.str))
 | [] => .nil
 | n :: ns => .cons (.str n) (f4n ns)
theorem f6y {ns ms : List Str} : ns.map Dat.str = ms.map Dat.str ↔ ns = ms := by
 induction ns generalizing ms with
 | nil => cases ms <;> simp
 | cons n ns ih => cases ms <;> simp [ih]
theorem f9u {ss : List Str} (h : ∀ s ∈ ss, PyData.strOk s = true) : kqdOk 1 (.list (ss.map .str)) = true := by
 show (ss.map Dat.str).all (kqdOk 0) = true
 rw [List.all_eq_true]
 intro d hd
 obtain ⟨s, hs, rfl⟩ := List.mem_map.mp hd
 exact h s hs
theorem f4o {K : PySem.W.Frag} {H : Hp} {p : Addr} {ss : List Str} (h : SqL K H p (ss.map V.str)) : f0j K H (.ref p) (kqdP (.list (ss.map .str))) := by
 rw [kqdP]
 exact .lst h (f4n ss)
theorem g8x {K : PySem.W.Frag} {H : Hp} {p q : Addr} {ns ms : List Str} {Q : VK} (hp : SqL K H p (ns.map V.str)) (hq : SqL K H q (ms.map V.str)) (h1 : ∀ s ∈ ns, PyData.strOk s = true) (h2 : ∀ s ∈ ms, PyData.strOk s = true) (h : Q (.bl (!decide (ns = ms))) H) : i1a K (.ref p) (.ref q) H Q :=
 h7y (f4o hp) (f4o hq) (f9u h1) (f9u h2) (by decide) (by decide) (by rw [decide_eq_true_eq, Dat.list.injEq, f6y]) h
theorem h4d {K : PySem.W.Frag} {H : Hp} {p q pw qw : Addr} {a b : Int} {ws : List Int} {Q : VK} (hp : SqT K H p [.int a, .ref pw, .int b]) (hq : SqT K H q [.int a, .ref qw, .int b]) (hpw : SqT K H pw (ws.map V.int)) (hqw : SqT K H qw (ws.map V.int)) (h : Q (.bl true) H) : i0z K (.ref p) (.ref q) H Q := by
 have d : ∀ {p pw}, SqT K H p [.int a, .ref pw, .int b] -> SqT K H pw (ws.map V.int) -> f0j K H (.ref p) (kqdP (.tuple [.int a, .tuple (ws.map .int), .int b])) := fun h1 h2 => by
  rw [kqdP]
  exact .tup h1 (.cons (.int a) (.cons (g4r h2) (.cons (.int b) .nil)))
 have k : kqdOk 2 (.tuple [.int a, .tuple (ws.map .int), .int b]) = true := by
  show (true && ((ws.map Dat.int).all (kqdOk 0) && (true && true))) = true
  rw [h3k]
  rfl
 exact h7x (c := true) (d hp hpw) (d hq hqw) k k (by decide) (by decide) ⟨fun _ => rfl, fun _ => rfl⟩ h
theorem f4p : PyData.strOk Str.empty = true := by decide +kernel
theorem h4e (x : Rat) : PyData.strOk (fW x) = true := by
 unfold fW
 exact b2u (b2u (b2u f4p (c9i _)) (c9i _)) (c9i _)
theorem h4f {d : Dt} (h : d.kd < 4) : PyData.strOk d.word = true := by
 cases d with
 | gain y => rw [<- h1i]; exact b2u (b2u f4p (c9i _)) (h4e _)
 | delay n => rw [<- g5j]; exact b2u (b2u f4p (c9i _)) (c9i _)
 | echo y n t => rw [<- h1j]; exact b2u (b2u (b2u (b2u (b2u (b2u f4p (c9i _)) (h4e _)) (c9i _)) (c9i _)) (c9i _)) (c9i _)
 | back y n => rw [<- h1l]; exact b2u (b2u (b2u (b2u f4p (c9i _)) (h4e _)) (c9i _)) (c9i _)
 | hall y n => exact absurd h (by simp [Dt.kd])
 | swell cs => exact absurd h (by simp [Dt.kd])
end L2
set_option maxHeartbeats 4000000
namespace My
open PySem PySem.Spec PyProof.Rows L2
open PySem.Builtin.Int (intBits)
noncomputable def top (i : Nat) : Stmt := PySem.Challenge.pw_mixbench_k42_whole_parts_change_places.main.body.getD i (.Pass ⟨0, 0, 0, 0⟩)
noncomputable abbrev b4j : Stmt := (top 9)
noncomputable abbrev a8v : Stmt := (top 10)
noncomputable abbrev b4k : Stmt := (top 11)
noncomputable abbrev b9i : Stmt := (top 14)
noncomputable abbrev b4l : Stmt := (top 16)
noncomputable abbrev d9j : Stmt := (top 17)
noncomputable abbrev d0k : Stmt := (top 18)
noncomputable abbrev b9j : Stmt := (top 19)
noncomputable abbrev a4p : Stmt := (top 21)
noncomputable abbrev a4q : Stmt := (top 22)
noncomputable abbrev a6o : Stmt := (top 24)
noncomputable abbrev a8j : Stmt := (top 25)
noncomputable abbrev b5k : Stmt := (top 27)
noncomputable abbrev b9k : Stmt := (top 28)
noncomputable abbrev a8w : Stmt := (inClass (top 29) 0)
noncomputable abbrev a8y : Stmt := (inClass (top 29) 1)
noncomputable abbrev a8z : Stmt := (inClass (top 29) 2)
noncomputable abbrev a6z : Stmt := (inClass (top 29) 3)
noncomputable abbrev b0y : Stmt := (inClass (top 30) 0)
noncomputable abbrev a9g : Stmt := (inClass (top 30) 1)
noncomputable abbrev a5v : Stmt := (inClass (top 30) 2)
noncomputable abbrev a7g : Stmt := (inClass (top 30) 3)
noncomputable abbrev a9h : Stmt := (inClass (top 31) 0)
noncomputable abbrev a4r : Stmt := (inClass (top 31) 1)
noncomputable abbrev a7h : Stmt := (inClass (top 31) 2)
noncomputable abbrev b0z : Stmt := (top 33)
noncomputable abbrev a8k : Stmt := (inClass (top 35) 0)
noncomputable abbrev a9i : Stmt := (inClass (top 35) 1)
noncomputable abbrev a5w : Stmt := (inClass (top 35) 2)
noncomputable abbrev a9j : Stmt := (inClass (top 35) 3)
noncomputable abbrev a5i : Stmt := (inClass (top 35) 4)
noncomputable abbrev b1g : Stmt := (inClass (top 36) 0)
noncomputable abbrev a9k : Stmt := (inClass (top 36) 1)
noncomputable abbrev a5y : Stmt := (inClass (top 36) 2)
noncomputable abbrev a9l : Stmt := (inClass (top 36) 3)
noncomputable abbrev a7i : Stmt := (inClass (top 36) 4)
noncomputable abbrev b1h : Stmt := (top 51)
noncomputable abbrev a7j : Stmt := (top 52)
noncomputable abbrev b1i : Stmt := (top 53)
noncomputable abbrev a7k : Stmt := (top 54)
noncomputable abbrev b9l : Stmt := (top 55)
noncomputable abbrev b4m : Stmt := (top 56)
noncomputable abbrev b9m : Stmt := (top 57)
noncomputable abbrev b9n : Stmt := (top 58)
noncomputable abbrev b9o : Stmt := (top 63)
noncomputable abbrev b1j : Stmt := (top 66)
noncomputable abbrev a6p : Stmt := (inClass (top 67) 0)
noncomputable abbrev a4s : Stmt := (inClass (top 67) 1)
noncomputable abbrev a7l : Stmt := (inClass (top 67) 2)
noncomputable abbrev a5z : Stmt := (inClass (top 67) 3)
noncomputable abbrev a5j : Stmt := (inClass (top 67) 4)
noncomputable abbrev a7m : Stmt := (top 69)
noncomputable abbrev b1k : Stmt := (top 70)
noncomputable abbrev a7n : Stmt := (top 71)
noncomputable abbrev b4n : Stmt := (top 72)
noncomputable abbrev b4o : Stmt := (top 73)
noncomputable abbrev b4p : Stmt := (top 74)
noncomputable abbrev b1l : Stmt := (top 75)
noncomputable abbrev a7o : Stmt := (top 76)
noncomputable abbrev b4q : Stmt := (top 77)
noncomputable abbrev b4r : Stmt := (top 78)
noncomputable abbrev f4q : Stmt := (top 79)
theorem f6z : a0r ["value"] ["value"] (a0h b4j) := ⟨rfl, rfl, rfl, by decide +kernel, rfl, by decide +kernel, by decide +kernel⟩
theorem c9j : a0r ["text", "sign"] ["text"] (a0h a8v) := ⟨rfl, rfl, rfl, by decide +kernel, rfl, by decide +kernel, by decide +kernel⟩
theorem f7g : a0r ["text"] ["text"] (a0h b4k) := ⟨rfl, rfl, rfl, by decide +kernel, rfl, by decide +kernel, by decide +kernel⟩
theorem b4s : a0r ["one", "other", "left", "right", "rest"] ["one", "other"] (a0h b9i) := ⟨rfl, rfl, rfl, by decide +kernel, rfl, by decide +kernel, by decide +kernel⟩
theorem c6w : a0r ["top", "bottom", "by"] ["top", "bottom"] (a0h b4l) := ⟨rfl, rfl, rfl, by decide +kernel, rfl, by decide +kernel, by decide +kernel⟩
theorem h4g : a0r ["one", "other"] ["one", "other"] (a0h d9j) := ⟨rfl, rfl, rfl, by decide +kernel, rfl, by decide +kernel, by decide +kernel⟩
theorem g8y : a0r ["one", "other"] ["one", "other"] (a0h d0k) := ⟨rfl, rfl, rfl, by decide +kernel, rfl, by decide +kernel, by decide +kernel⟩
theorem g1l : a0r ["one"] ["one"] (a0h b9j) := ⟨rfl, rfl, rfl, by decide +kernel, rfl, by decide +kernel, by decide +kernel⟩
theorem b3i : a0r ["one", "top", "bottom"] ["one"] (a0h a4p) := ⟨rfl, rfl, rfl, by decide +kernel, rfl, by decide +kernel, by decide +kernel⟩
theorem a5u : a0r ["text", "halves", "top", "number", "one"] ["text"] (a0h a4q) := ⟨rfl, rfl, rfl, by decide +kernel, rfl, by decide +kernel, by decide +kernel⟩
theorem c0k : a0r ["one", "other", "shared", "both"] ["one", "other"] (a0h a6o) := ⟨rfl, rfl, rfl, by decide +kernel, rfl, by decide +kernel, by decide +kernel⟩
theorem f4r : a0r ["row", "by"] ["row", "by"] (a0h a8j) := ⟨rfl, rfl, rfl, by decide +kernel, rfl, by decide +kernel, by decide +kernel⟩
theorem g1m : a0r ["known", "start", "many"] ["known", "start", "many"] (a0h b5k) := ⟨rfl, rfl, rfl, by decide +kernel, rfl, by decide +kernel, by decide +kernel⟩
theorem g1n : a0r ["known", "many"] ["known", "many"] (a0h b9k) := ⟨rfl, rfl, rfl, by decide +kernel, rfl, by decide +kernel, by decide +kernel⟩
theorem f0p : a0r ["self"] ["self"] (a0h a8w) := ⟨rfl, rfl, rfl, by decide +kernel, rfl, by decide +kernel, by decide +kernel⟩
theorem f0q : a0r ["self"] ["self"] (a0h a8y) := ⟨rfl, rfl, rfl, by decide +kernel, rfl, by decide +kernel, by decide +kernel⟩
theorem f0r : a0r ["self"] ["self"] (a0h a8z) := ⟨rfl, rfl, rfl, by decide +kernel, rfl, by decide +kernel, by decide +kernel⟩
theorem d7m : a0r ["self"] ["self"] (a0h a6z) := ⟨rfl, rfl, rfl, by decide +kernel, rfl, by decide +kernel, by decide +kernel⟩
theorem f4s : a0r ["self", "gain"] ["self", "gain"] (a0h b0y) := ⟨rfl, rfl, rfl, by decide +kernel, rfl, by decide +kernel, by decide +kernel⟩
theorem f0s : a0r ["self"] ["self"] (a0h a9g) := ⟨rfl, rfl, rfl, by decide +kernel, rfl, by decide +kernel, by decide +kernel⟩
theorem d3w : a0r ["self", "state", "tops", "bottom"] ["self", "state", "tops", "bottom"] (a0h a5v) := ⟨rfl, rfl, rfl, by decide +kernel, rfl, by decide +kernel, by decide +kernel⟩
theorem d7n : a0r ["self"] ["self"] (a0h a7g) := ⟨rfl, rfl, rfl, by decide +kernel, rfl, by decide +kernel, by decide +kernel⟩
theorem f0t : a0r ["self", "many"] ["self", "many"] (a0h a9h) := ⟨rfl, rfl, rfl, by decide +kernel, rfl, by decide +kernel, by decide +kernel⟩
theorem c3g : a0r ["self", "state", "tops", "bottom", "known"] ["self", "state", "tops", "bottom"] (a0h a4r) := ⟨rfl, rfl, rfl, by decide +kernel, rfl, by decide +kernel, by decide +kernel⟩
theorem d7o : a0r ["self"] ["self"] (a0h a7h) := ⟨rfl, rfl, rfl, by decide +kernel, rfl, by decide +kernel, by decide +kernel⟩
theorem c3r : a0r ["number", "most", "powers", "turn"] ["number", "most"] (a0h b0z) := ⟨rfl, rfl, rfl, by decide +kernel, rfl, by decide +kernel, by decide +kernel⟩
theorem c3s : a0r ["self", "gain", "many", "turns", "tops", "bottoms"] ["self", "gain", "many", "turns"] (a0h a8k) := ⟨rfl, rfl, rfl, by decide +kernel, rfl, by decide +kernel, by decide +kernel⟩
theorem f0u : a0r ["self"] ["self"] (a0h a9i) := ⟨rfl, rfl, rfl, by decide +kernel, rfl, by decide +kernel, by decide +kernel⟩
theorem a4t : a0r ["self", "state", "tops", "bottom", "known", "out", "turn", "heard"] ["self", "state", "tops", "bottom"] (a0h a5w) := ⟨rfl, rfl, rfl, by decide +kernel, rfl, by decide +kernel, by decide +kernel⟩
theorem c9k : a0r ["self"] ["self"] (a0h a9j) := ⟨rfl, rfl, rfl, by decide +kernel, rfl, by decide +kernel, by decide +kernel⟩
theorem d7p : a0r ["self"] ["self"] (a0h a5i) := ⟨rfl, rfl, rfl, by decide +kernel, rfl, by decide +kernel, by decide +kernel⟩
theorem f4t : a0r ["self", "gain", "many"] ["self", "gain", "many"] (a0h b1g) := ⟨rfl, rfl, rfl, by decide +kernel, rfl, by decide +kernel, by decide +kernel⟩
theorem f0v : a0r ["self"] ["self"] (a0h a9k) := ⟨rfl, rfl, rfl, by decide +kernel, rfl, by decide +kernel, by decide +kernel⟩
theorem a9z : a0r ["self", "state", "tops", "bottom", "known", "heard", "out"] ["self", "state", "tops", "bottom"] (a0h a5y) := ⟨rfl, rfl, rfl, by decide +kernel, rfl, by decide +kernel, by decide +kernel⟩
theorem f0w : a0r ["self"] ["self"] (a0h a9l) := ⟨rfl, rfl, rfl, by decide +kernel, rfl, by decide +kernel, by decide +kernel⟩
theorem d7q : a0r ["self"] ["self"] (a0h a7i) := ⟨rfl, rfl, rfl, by decide +kernel, rfl, by decide +kernel, by decide +kernel⟩
theorem d2h : a0r ["text", "gain"] ["text"] (a0h b1h) := ⟨rfl, rfl, rfl, by decide +kernel, rfl, by decide +kernel, by decide +kernel⟩
theorem c6s : a0r ["text", "least", "most", "number"] ["text", "least", "most"] (a0h a7j) := ⟨rfl, rfl, rfl, by decide +kernel, rfl, by decide +kernel, by decide +kernel⟩
theorem f4u : a0r ["text"] ["text"] (a0h b1i) := ⟨rfl, rfl, rfl, by decide +kernel, rfl, by decide +kernel, by decide +kernel⟩
theorem d7r : a0r ["values", "count"] ["values", "count"] (a0h a7k) := ⟨rfl, rfl, rfl, by decide +kernel, rfl, by decide +kernel, by decide +kernel⟩
theorem g1o : a0r ["values"] ["values"] (a0h b9l) := ⟨rfl, rfl, rfl, by decide +kernel, rfl, by decide +kernel, by decide +kernel⟩
theorem f7h : a0r ["values"] ["values"] (a0h b4m) := ⟨rfl, rfl, rfl, by decide +kernel, rfl, by decide +kernel, by decide +kernel⟩
theorem g1p : a0r ["values"] ["values"] (a0h b9m) := ⟨rfl, rfl, rfl, by decide +kernel, rfl, by decide +kernel, by decide +kernel⟩
theorem g1q : a0r ["values"] ["values"] (a0h b9n) := ⟨rfl, rfl, rfl, by decide +kernel, rfl, by decide +kernel, by decide +kernel⟩
theorem d9k : a0r ["word", "values"] ["word"] (a0h b9o) := ⟨rfl, rfl, rfl, by decide +kernel, rfl, by decide +kernel, by decide +kernel⟩
theorem f7i : a0r ["words"] ["words"] (a0h b1j) := ⟨rfl, rfl, rfl, by decide +kernel, rfl, by decide +kernel, by decide +kernel⟩
theorem f0y : a0r ["self", "words"] ["self", "words"] (a0h a6p) := ⟨rfl, rfl, rfl, by decide +kernel, rfl, by decide +kernel, by decide +kernel⟩
theorem a3l : a0r ["self", "tops", "bottom", "row", "states", "part", "state", "told"] ["self", "tops", "bottom"] (a0h a4s) := ⟨rfl, rfl, rfl, by decide +kernel, rfl, by decide +kernel, by decide +kernel⟩
theorem b2n : a0r ["self", "product", "part"] ["self"] (a0h a7l) := ⟨rfl, rfl, rfl, by decide +kernel, rfl, by decide +kernel, by decide +kernel⟩
theorem b0g : a0r ["self", "product", "part"] ["self"] (a0h a5z) := ⟨rfl, rfl, rfl, by decide +kernel, rfl, by decide +kernel, by decide +kernel⟩
theorem c6t : a0r ["self", "reaches"] ["self"] (a0h a5j) := ⟨rfl, rfl, rfl, by decide +kernel, rfl, by decide +kernel, by decide +kernel⟩
theorem d7s : a0r ["_law_script", "_law_k"] ["_law_script", "_law_k"] (a0h a7m) := ⟨rfl, rfl, rfl, by decide +kernel, rfl, by decide +kernel, by decide +kernel⟩
theorem f4v : a0r ["_law_found"] ["_law_found"] (a0h b1k) := ⟨rfl, rfl, rfl, by decide +kernel, rfl, by decide +kernel, by decide +kernel⟩
theorem a6g : a0r ["_law_one", "_law_other", "_law_rest"] ["_law_one", "_law_other"] (a0h a7n) := ⟨rfl, rfl, rfl, by decide +kernel, rfl, by decide +kernel, by decide +kernel⟩
theorem b1m : a0r ["_law_mixed", "_law_great", "_law_top", "_law_bottom", "_law_by"] ["_law_mixed", "_law_great"] (a0h b4n) := ⟨rfl, rfl, rfl, by decide +kernel, rfl, by decide +kernel, by decide +kernel⟩
theorem c0l : a0r ["_law_cell", "_law_great", "_law_mixed", "_law_many", "_law_pick"] ["_law_cell", "_law_great"] (a0h b4o) := ⟨rfl, rfl, rfl, by decide +kernel, rfl, by decide +kernel, by decide +kernel⟩
theorem f7j : a0r ["_law_cell"] ["_law_cell"] (a0h b4p) := ⟨rfl, rfl, rfl, by decide +kernel, rfl, by decide +kernel, by decide +kernel⟩
theorem b6o : a0r ["_law_words", "_law_pick", "_law_some", "_law_told_here"] ["_law_words", "_law_pick"] (a0h b1l) := ⟨rfl, rfl, rfl, by decide +kernel, rfl, by decide +kernel, by decide +kernel⟩
theorem a6h : a0r ["_law_words", "_law_row", "_law_bottom", "_law_at", "_law_chain", "_law_joined", "_law_block", "_law_found", "_law_top"] ["_law_words", "_law_row", "_law_bottom", "_law_at"] (a0h a7o) := ⟨rfl, rfl, rfl, by decide +kernel, rfl, by decide +kernel, by decide +kernel⟩
theorem c6y : a0r ["_law_one", "_law_other", "_law_here", "_law_there"] ["_law_one", "_law_other"] (a0h b4q) := ⟨rfl, rfl, rfl, by decide +kernel, rfl, by decide +kernel, by decide +kernel⟩
theorem d3y : a0r ["_law_words", "_law_chain"] ["_law_words"] (a0h b4r) := ⟨rfl, rfl, rfl, by decide +kernel, rfl, by decide +kernel, by decide +kernel⟩
theorem c9l : a0r ["_law_script", "_law_head", "_law_great", "_law_words", "_law_other", "_law_row", "_law_bottom", "_law_many", "_law_one"] ["_law_script"] (a0h f4q) := ⟨rfl, rfl, rfl, by decide +kernel, rfl, by decide +kernel, by decide +kernel⟩
set_option genInjectivity false in
structure Ad where
 b1n : Addr
 c6z : FuncData
 a6q : Addr
 c0m : FuncData
 b1o : Addr
 c7g : FuncData
 b5l : Addr
 d0l : FuncData
 b1p : Addr
 c7h : FuncData
 d3z : Addr
 f7k : FuncData
 c7i : Addr
 f0z : FuncData
 b5m : Addr
 d0m : FuncData
 a3p : Addr
 b3j : FuncData
 a3q : Addr
 b3k : FuncData
 a6r : Addr
 c0n : FuncData
 a8l : Addr
 c3t : FuncData
 b5n : Addr
 d0n : FuncData
 b5o : Addr
 d0o : FuncData
 a3h : Addr
 c0o : FuncData
 a1n : Addr
 c0p : FuncData
 a3i : Addr
 c0q : FuncData
 a2o : Addr
 b7s : FuncData
 a6s : Addr
 c3u : FuncData
 a3u : Addr
 b3o : FuncData
 a2y : Addr
 b0h : FuncData
 a3v : Addr
 b7t : FuncData
 a4y : Addr
 c0r : FuncData
 a2p : Addr
 a7z : FuncData
 a3w : Addr
 b7u : FuncData
 a8m : Addr
 c3v : FuncData
 a6t : Addr
 c3w : FuncData
 a3y : Addr
 b3p : FuncData
 a2z : Addr
 b0i : FuncData
 a3z : Addr
 b3q : FuncData
 a4g : Addr
 b7v : FuncData
 a6u : Addr
 c3y : FuncData
 a4h : Addr
 b3r : FuncData
 a3g : Addr
 b0j : FuncData
 a4z : Addr
 c0s : FuncData
 a4i : Addr
 b7w : FuncData
 a8n : Addr
 c3z : FuncData
 a5k : Addr
 b7y : FuncData
 a8o : Addr
 c4g : FuncData
 a5l : Addr
 b7z : FuncData
 b0k : Addr
 d0p : FuncData
 a7p : Addr
 c7j : FuncData
 b0l : Addr
 d0q : FuncData
 b0m : Addr
 d0r : FuncData
 b5p : Addr
 d0s : FuncData
 b1q : Addr
 c7k : FuncData
 a5g : Addr
 c0t : FuncData
 a3j : Addr
 b3l : FuncData
 a4j : Addr
 b8g : FuncData
 a3o : Addr
 b5q : FuncData
 a4k : Addr
 b8h : FuncData
 a5m : Addr
 b8i : FuncData
 a8p : Addr
 c4h : FuncData
 a5n : Addr
 b8j : FuncData
 b1r : Addr
 c7l : FuncData
 b1s : Addr
 c7m : FuncData
 b1t : Addr
 c7n : FuncData
 a8q : Addr
 c4i : FuncData
 a5o : Addr
 b8k : FuncData
 b1u : Addr
 c7o : FuncData
 b1v : Addr
 c7p : FuncData
 f7l : Addr
 g5k : FuncData
 b3m : Addr
 a1z : Addr
 a1q : Addr
 a1r : Addr
 a1v : Addr
 a2w : Addr
 f4w : Value
 b2v : Value
 b2w : Value
 d4g : Value
 d4h : Value
 d2i : Value
 d2j : Value
 a2j : Addr
 wd : World
structure Tx (K : PySem.W.Frag) (mg : Str -> Option Value) (A : Ad) : Prop where
 b4t : Fun K "is_whole" "is_whole" b4j A.b1n A.c6z
 c6j : Binds K A.c6z ["value"] []
 d9l : mg "is_whole" = some (.ref A.b1n)
 a9m : Fun K "is_figures" "is_figures" a8v A.a6q A.c0m
 b6p : Binds K A.c0m ["text"] []
 d2k : mg "is_figures" = some (.ref A.a6q)
 b9p : Fun K "whole_of" "whole_of" b4k A.b1o A.c7g
 d0t : Binds K A.c7g ["text"] []
 g1r : mg "whole_of" = some (.ref A.b1o)
 c4j : Fun K "divisor" "divisor" b9i A.b5l A.d0l
 d4i : Binds K A.d0l ["one", "other"] []
 g5l : mg "divisor" = some (.ref A.b5l)
 a9n : Fun K "fraction" "fraction" b4l A.b1p A.c7h
 b4u : Binds K A.c7h ["top", "bottom"] []
 c6k : mg "fraction" = some (.ref A.b1p)
 f4y : Fun K "plus" "plus" d9j A.d3z A.f7k
 g5m : Binds K A.f7k ["one", "other"] []
 h9m : mg "plus" = some (.ref A.d3z)
 d4j : Fun K "times" "times" d0k A.c7i A.f0z
 f7m : Binds K A.f0z ["one", "other"] []
 h4h : mg "times" = some (.ref A.c7i)
 b9q : Fun K "size_of" "size_of" b9j A.b5m A.d0m
 c9m : Binds K A.d0m ["one"] []
 f4z : mg "size_of" = some (.ref A.b5m)
 a6v : Fun K "fraction_text" "fraction_text" a4p A.a3p A.b3j
 b5r : Binds K A.b3j ["one"] []
 d4k : mg "fraction_text" = some (.ref A.a3p)
 a6w : Fun K "read_fraction" "read_fraction" a4q A.a3q A.b3k
 b5s : Binds K A.b3k ["text"] []
 d4l : mg "read_fraction" = some (.ref A.a3q)
 a9o : Fun K "added_rows" "added_rows" a6o A.a6r A.c0n
 b6q : Binds K A.c0n ["one", "other"] []
 d2l : mg "added_rows" = some (.ref A.a6r)
 a6y : Fun K "times_row" "times_row" a8j A.a8l A.c3t
 b1w : Binds K A.c3t ["row", "by"] []
 c0u : mg "times_row" = some (.ref A.a8l)
 b5t : Fun K "delayed" "delayed" b5k A.b5n A.d0n
 c4k : Binds K A.d0n ["known", "start", "many"] []
 d4m : mg "delayed" = some (.ref A.b5n)
 b5u : Fun K "last_of" "last_of" b9k A.b5o A.d0o
 c4l : Binds K A.d0o ["known", "many"] []
 d4n : mg "last_of" = some (.ref A.b5o)
 b6r : Fun K "grain" "Part.grain" a8w A.a3h A.c0o
 b6s : Binds K A.c0o ["self"] []
 b6t : Fun K "fresh" "Part.fresh" a8y A.a1n A.c0p
 a9p : Binds K A.c0p ["self"] []
 b6u : Fun K "reach" "Part.reach" a8z A.a3i A.c0q
 c4m : Binds K A.c0q ["self"] []
 b3s : Fun K "weight" "Part.weight" a6z A.a2o A.b7s
 c0v : Binds K A.b7s ["self"] []
 c0w : Fun K "__init__" "Gain.__init__" b0y A.a6s A.c3u
 c7q : Binds K A.c3u ["self", "gain"] []
 b6v : Fun K "grain" "Gain.grain" a9g A.a3u A.b3o
 b6w : Binds K A.b3o ["self"] []
 b2o : Fun K "through" "Gain.through" a5v A.a2y A.b0h
 b8l : Binds K A.b0h ["self", "state", "tops", "bottom"] []
 b3t : Fun K "weight" "Gain.weight" a7g A.a3v A.b7t
 c0y : Binds K A.b7t ["self"] []
 b6y : Fun K "__init__" "Delay.__init__" a9h A.a4y A.c0r
 c4n : Binds K A.c0r ["self", "many"] []
 b0n : Fun K "through" "Delay.through" a4r A.a2p A.a7z
 b5v : Binds K A.a7z ["self", "state", "tops", "bottom"] []
 b3u : Fun K "reach" "Delay.reach" a7h A.a3w A.b7u
 c0z : Binds K A.b7u ["self"] []
 b1y : Fun K "powers_of" "powers_of" b0z A.a8m A.c3v
 c1g : Binds K A.c3v ["number", "most"] []
 d4o : mg "powers_of" = some (.ref A.a8m)
 c1h : Fun K "__init__" "Echo.__init__" a8k A.a6t A.c3w
 c7r : Binds K A.c3w ["self", "gain", "many", "turns"] []
 b6z : Fun K "grain" "Echo.grain" a9i A.a3y A.b3p
 b7g : Binds K A.b3p ["self"] []
 b2p : Fun K "through" "Echo.through" a5w A.a2z A.b0i
 b8m : Binds K A.b0i ["self", "state", "tops", "bottom"] []
 b2y : Fun K "reach" "Echo.reach" a9j A.a3z A.b3q
 b7h : Binds K A.b3q ["self"] []
 b3v : Fun K "weight" "Echo.weight" a5i A.a4g A.b7v
 c1i : Binds K A.b7v ["self"] []
 c1j : Fun K "__init__" "Back.__init__" b1g A.a6u A.c3y
 c7s : Binds K A.c3y ["self", "gain", "many"] []
 b7i : Fun K "grain" "Back.grain" a9k A.a4h A.b3r
 b7j : Binds K A.b3r ["self"] []
 b2q : Fun K "through" "Back.through" a5y A.a3g A.b0j
 b8n : Binds K A.b0j ["self", "state", "tops", "bottom"] []
 b7k : Fun K "reach" "Back.reach" a9l A.a4z A.c0s
 c4o : Binds K A.c0s ["self"] []
 b3w : Fun K "weight" "Back.weight" a7i A.a4i A.b7w
 c1k : Binds K A.b7w ["self"] []
 a8r : Fun K "read_gain" "read_gain" b1h A.a8n A.c3z
 b5w : Binds K A.c3z ["text"] []
 c7t : mg "read_gain" = some (.ref A.a8n)
 a5p : Fun K "read_number" "read_number" a7j A.a5k A.b7y
 b0o : Binds K A.b7y ["text", "least", "most"] []
 c1l : mg "read_number" = some (.ref A.a5k)
 b1z : Fun K "read_many" "read_many" b1i A.a8o A.c4g
 c1m : Binds K A.c4g ["text"] []
 d4p : mg "read_many" = some (.ref A.a8o)
 a4l : Fun K "check_count" "check_count" a7k A.a5l A.b7z
 a7q : Binds K A.b7z ["values", "count"] []
 b3y : mg "check_count" = some (.ref A.a5l)
 c4p : Fun K "gain_of" "gain_of" b9l A.b0k A.d0p
 d4q : Binds K A.d0p ["values"] []
 h9n : mg "gain_of" = some (.ref A.b0k)
 b9r : Fun K "delay_of" "delay_of" b4m A.a7p A.c7j
 d0u : Binds K A.c7j ["values"] []
 h5m : mg "delay_of" = some (.ref A.a7p)
 c4q : Fun K "echo_of" "echo_of" b9m A.b0l A.d0q
 d4r : Binds K A.d0q ["values"] []
 h9o : mg "echo_of" = some (.ref A.b0l)
 c4r : Fun K "back_of" "back_of" b9n A.b0m A.d0r
 d4s : Binds K A.d0r ["values"] []
 h9p : mg "back_of" = some (.ref A.b0m)
 c4s : Fun K "part_of" "part_of" b9o A.b5p A.d0s
 d4t : Binds K A.d0s ["word"] []
 g5n : mg "part_of" = some (.ref A.b5p)
 b9s : Fun K "parts_of" "parts_of" b1j A.b1q A.c7k
 d0v : Binds K A.c7k ["words"] []
 g1s : mg "parts_of" = some (.ref A.b1q)
 b7l : Fun K "__init__" "Chain.__init__" a6p A.a5g A.c0t
 b7m : Binds K A.c0t ["self", "words"] []
 b0p : Fun K "through" "Chain.through" a4s A.a3j A.b3l
 b5y : Binds K A.b3l ["self", "tops", "bottom"] []
 b3z : Fun K "grain" "Chain.grain" a7l A.a4j A.b8g
 c1n : Binds K A.b8g ["self"] []
 b2r : Fun K "weight" "Chain.weight" a5z A.a3o A.b5q
 b8o : Binds K A.b5q ["self"] []
 b4g : Fun K "reach" "Chain.reach" a5j A.a4k A.b8h
 c1o : Binds K A.b8h ["self"] []
 a5q : Fun K "_law_cell_at" "_law_cell_at" a7m A.a5m A.b8i
 b0q : Binds K A.b8i ["_law_script", "_law_k"] []
 c1p : mg "_law_cell_at" = some (.ref A.a5m)
 b2g : Fun K "_law_whole" "_law_whole" b1k A.a8p A.c4h
 c1q : Binds K A.c4h ["_law_found"] []
 d4u : mg "_law_whole" = some (.ref A.a8p)
 b0r : Fun K "_law_divisor" "_law_divisor" a7n A.a5n A.b8j
 c1r : Binds K A.b8j ["_law_one", "_law_other"] []
 f1g : mg "_law_divisor" = some (.ref A.a5n)
 b2h : Fun K "_law_gain" "_law_gain" b4n A.b1r A.c7l
 b9t : Binds K A.c7l ["_law_mixed", "_law_great"] []
 d0w : mg "_law_gain" = some (.ref A.b1r)
 b9u : Fun K "_law_word" "_law_word" b4o A.b1s A.c7m
 d0y : Binds K A.c7m ["_law_cell", "_law_great"] []
 g1t : mg "_law_word" = some (.ref A.b1s)
 b9v : Fun K "_law_tone" "_law_tone" b4p A.b1t A.c7n
 d0z : Binds K A.c7n ["_law_cell"] []
 g1u : mg "_law_tone" = some (.ref A.b1t)
 b5z : Fun K "_law_about" "_law_about" b1l A.a8q A.c4i
 c7u : Binds K A.c4i ["_law_words", "_law_pick"] []
 f7n : mg "_law_about" = some (.ref A.a8q)
 a5r : Fun K "_law_through" "_law_through" a7o A.a5o A.b8k
 b0s : Binds K A.b8k ["_law_words", "_law_row", "_law_bottom", "_law_at"] []
 c1s : mg "_law_through" = some (.ref A.a5o)
 b4v : Fun K "_law_same" "_law_same" b4q A.b1u A.c7o
 c6l : Binds K A.c7o ["_law_one", "_law_other"] []
 d9m : mg "_law_same" = some (.ref A.b1u)
 b4w : Fun K "_law_told" "_law_told" b4r A.b1v A.c7p
 c6m : Binds K A.c7p ["_law_words"] []
 d9n : mg "_law_told" = some (.ref A.b1v)
 g8z : Fun K "law" "law" f4q A.f7l A.g5k
 h9q : Binds K A.g5k ["_law_script"] []
 m_law : mg "law" = some (.ref A.f7l)
 d4v : mg "abs" = none
 d9o : mg "bool" = none
 d7t : mg "int" = none
 a2k : mg "isinstance" = none
 b4h : mg "len" = none
 b6g : mg "list" = none
 g5o : mg "max" = none
 g5p : mg "min" = none
 b8p : mg "range" = none
 b9w : mg "reversed" = none
 d2r : mg "str" = none
 g1v : mg "sum" = none
 c7v : mg "tuple" = none
 g1w : mg "zip" = none
 f1h : mg "Part" = some (.ref A.b3m)
 d4w : mg "Gain" = some (.ref A.a1z)
 c9n : mg "Delay" = some (.ref A.a1q)
 d4y : mg "Echo" = some (.ref A.a1r)
 d4z : mg "Back" = some (.ref A.a1v)
 c6n : mg "Chain" = some (.ref A.a2w)
 i2v : Cls K A.b3m
 g9a : Meth K A.b3m "grain" A.a3h
 g9b : Meth K A.b3m "fresh" A.a1n
 g9c : Meth K A.b3m "reach" A.a3i
 g7i : Meth K A.b3m "weight" A.a2o
 a2r : Cls K A.a1z
 a0w : a6m K A.a1z "gain"
 h9r : Mk K A.a1z A.a6s
 c9o : Meth K A.a1z "grain" A.a3u
 d5g : Meth K A.a1z "through" A.a2y
 d7u : Meth K A.a1z "weight" A.a3v
 f1i : Meth K A.a1z "fresh" A.a1n
 f1j : Meth K A.a1z "reach" A.a3i
 a1w : Cls K A.a1q
 a0v : a6m K A.a1q "many"
 h4i : Mk K A.a1q A.a4y
 d2s : Meth K A.a1q "through" A.a2p
 d7v : Meth K A.a1q "reach" A.a3w
 c6u : Meth K A.a1q "grain" A.a3h
 d7w : Meth K A.a1q "fresh" A.a1n
 d5h : Meth K A.a1q "weight" A.a2o
 a2h : Cls K A.a1r
 a0s : a6m K A.a1r "gain"
 a0t : a6m K A.a1r "many"
 a0o : a6m K A.a1r "turns"
 a0n : a6m K A.a1r "factors"
 a0j : a6m K A.a1r "factor_bottom"
 h9s : Mk K A.a1r A.a6t
 c9p : Meth K A.a1r "grain" A.a3y
 d5i : Meth K A.a1r "through" A.a2z
 c9q : Meth K A.a1r "reach" A.a3z
 d7y : Meth K A.a1r "weight" A.a4g
 f1k : Meth K A.a1r "fresh" A.a1n
 a2s : Cls K A.a1v
 a0y : a6m K A.a1v "gain"
 a0z : a6m K A.a1v "many"
 h9t : Mk K A.a1v A.a6u
 c9r : Meth K A.a1v "grain" A.a4h
 d5j : Meth K A.a1v "through" A.a3g
 f1l : Meth K A.a1v "reach" A.a4z
 d7z : Meth K A.a1v "weight" A.a4i
 f1m : Meth K A.a1v "fresh" A.a1n
 a3r : Cls K A.a2w
 a1i : a6m K A.a2w "parts"
 a1g : a6m K A.a2w "states"
 g5q : Mk K A.a2w A.a5g
 d2t : Meth K A.a2w "through" A.a3j
 d8g : Meth K A.a2w "grain" A.a4j
 d5k : Meth K A.a2w "weight" A.a3o
 d8h : Meth K A.a2w "reach" A.a4k
 b9y : mg "FIGURES" = some A.f4w
 g1x : RelV (.str "0123456789") A.f4w
 a2u : mg "MOST_FIGURES_wholes" = some A.b2v
 c3h : RelV (.int 13) A.b2v
 a2v : mg "MOST_FIGURES_ratios" = some A.b2w
 c3i : RelV (.int 9) A.b2w
 a9q : mg "MOST_GAIN" = some A.d4g
 d2m : RelV (.int 1000) A.d4g
 a9r : mg "MOST_MANY" = some A.d4h
 d2n : RelV (.int 1000) A.d4h
 b0t : mg "MOST_TURNS" = some A.d2i
 f1n : RelV (.int 16) A.d2i
 b0u : mg "MOST_PARTS" = some A.d2j
 f1o : RelV (.int 8) A.d2j
 a7r : mg "READERS" = some (.ref A.a2j)
 g1y : i2o K A.wd A.a2j
 a4u : PySem.W.nsIn K A.a2j "gain" = some (some (.ref A.b0k))
 a3t : PySem.W.nsIn K A.a2j "delay" = some (some (.ref A.a7p))
 a4v : PySem.W.nsIn K A.a2j "echo" = some (some (.ref A.b0l))
 a4w : PySem.W.nsIn K A.a2j "back" = some (some (.ref A.b0m))
theorem nq0 : (("__init__" : Str) == ("gain" : Str)) = false := by decide +kernel
theorem nq1 : (("grain" : Str) == ("gain" : Str)) = false := by decide +kernel
theorem nq2 : (("through" : Str) == ("gain" : Str)) = false := by decide +kernel
theorem nq3 : (("weight" : Str) == ("gain" : Str)) = false := by decide +kernel
theorem nq4 : (("fresh" : Str) == ("gain" : Str)) = false := by decide +kernel
theorem nq5 : (("reach" : Str) == ("gain" : Str)) = false := by decide +kernel
theorem nq6 : (("__init__" : Str) == ("many" : Str)) = false := by decide +kernel
theorem nq7 : (("through" : Str) == ("many" : Str)) = false := by decide +kernel
theorem nq8 : (("reach" : Str) == ("many" : Str)) = false := by decide +kernel
theorem nq9 : (("grain" : Str) == ("many" : Str)) = false := by decide +kernel
theorem nq10 : (("fresh" : Str) == ("many" : Str)) = false := by decide +kernel
theorem nq11 : (("weight" : Str) == ("many" : Str)) = false := by decide +kernel
theorem nq12 : (("gain" : Str) == ("many" : Str)) = false := by decide +kernel
theorem nq13 : (("gain" : Str) == ("turns" : Str)) = false := by decide +kernel
theorem nq14 : (("gain" : Str) == ("factors" : Str)) = false := by decide +kernel
theorem nq15 : (("gain" : Str) == ("factor_bottom" : Str)) = false := by decide +kernel
theorem nq16 : (("many" : Str) == ("gain" : Str)) = false := by decide +kernel
theorem nq17 : (("many" : Str) == ("turns" : Str)) = false := by decide +kernel
theorem nq18 : (("many" : Str) == ("factors" : Str)) = false := by decide +kernel
theorem nq19 : (("many" : Str) == ("factor_bottom" : Str)) = false := by decide +kernel
theorem nq20 : (("turns" : Str) == ("gain" : Str)) = false := by decide +kernel
theorem nq21 : (("turns" : Str) == ("many" : Str)) = false := by decide +kernel
theorem nq22 : (("turns" : Str) == ("factors" : Str)) = false := by decide +kernel
theorem nq23 : (("turns" : Str) == ("factor_bottom" : Str)) = false := by decide +kernel
theorem nq24 : (("factors" : Str) == ("gain" : Str)) = false := by decide +kernel
theorem nq25 : (("factors" : Str) == ("many" : Str)) = false := by decide +kernel
theorem nq26 : (("factors" : Str) == ("turns" : Str)) = false := by decide +kernel
theorem nq27 : (("factors" : Str) == ("factor_bottom" : Str)) = false := by decide +kernel
theorem nq28 : (("factor_bottom" : Str) == ("gain" : Str)) = false := by decide +kernel
theorem nq29 : (("factor_bottom" : Str) == ("many" : Str)) = false := by decide +kernel
theorem nq30 : (("factor_bottom" : Str) == ("turns" : Str)) = false := by decide +kernel
theorem nq31 : (("factor_bottom" : Str) == ("factors" : Str)) = false := by decide +kernel
theorem nq32 : (("__init__" : Str) == ("turns" : Str)) = false := by decide +kernel
theorem nq33 : (("__init__" : Str) == ("factors" : Str)) = false := by decide +kernel
theorem nq34 : (("__init__" : Str) == ("factor_bottom" : Str)) = false := by decide +kernel
theorem nq35 : (("grain" : Str) == ("turns" : Str)) = false := by decide +kernel
theorem nq36 : (("grain" : Str) == ("factors" : Str)) = false := by decide +kernel
theorem nq37 : (("grain" : Str) == ("factor_bottom" : Str)) = false := by decide +kernel
theorem nq38 : (("through" : Str) == ("turns" : Str)) = false := by decide +kernel
theorem nq39 : (("through" : Str) == ("factors" : Str)) = false := by decide +kernel
theorem nq40 : (("through" : Str) == ("factor_bottom" : Str)) = false := by decide +kernel
theorem nq41 : (("reach" : Str) == ("turns" : Str)) = false := by decide +kernel
theorem nq42 : (("reach" : Str) == ("factors" : Str)) = false := by decide +kernel
theorem nq43 : (("reach" : Str) == ("factor_bottom" : Str)) = false := by decide +kernel
theorem nq44 : (("weight" : Str) == ("turns" : Str)) = false := by decide +kernel
theorem nq45 : (("weight" : Str) == ("factors" : Str)) = false := by decide +kernel
theorem nq46 : (("weight" : Str) == ("factor_bottom" : Str)) = false := by decide +kernel
theorem nq47 : (("fresh" : Str) == ("turns" : Str)) = false := by decide +kernel
theorem nq48 : (("fresh" : Str) == ("factors" : Str)) = false := by decide +kernel
theorem nq49 : (("fresh" : Str) == ("factor_bottom" : Str)) = false := by decide +kernel
theorem nq50 : (("parts" : Str) == ("states" : Str)) = false := by decide +kernel
theorem nq51 : (("states" : Str) == ("parts" : Str)) = false := by decide +kernel
theorem nq52 : (("__init__" : Str) == ("parts" : Str)) = false := by decide +kernel
theorem nq53 : (("__init__" : Str) == ("states" : Str)) = false := by decide +kernel
theorem nq54 : (("through" : Str) == ("parts" : Str)) = false := by decide +kernel
theorem nq55 : (("through" : Str) == ("states" : Str)) = false := by decide +kernel
theorem nq56 : (("grain" : Str) == ("parts" : Str)) = false := by decide +kernel
theorem nq57 : (("grain" : Str) == ("states" : Str)) = false := by decide +kernel
theorem nq58 : (("weight" : Str) == ("parts" : Str)) = false := by decide +kernel
theorem nq59 : (("weight" : Str) == ("states" : Str)) = false := by decide +kernel
theorem nq60 : (("reach" : Str) == ("parts" : Str)) = false := by decide +kernel
theorem nq61 : (("reach" : Str) == ("states" : Str)) = false := by decide +kernel
seal PE PT PA PS PSs PI PO PW PG PGs PEX PSX
local macro_rules | `(tactic| walk_at "bits") => `(tactic| first | with_reducible assumption | exact intBits_le_64 (by omega) (by omega) | exact (intBits_le_iff (m := 250)).mpr (by decide) | ((with_reducible apply intBits_mul_le) <;> walk_at "bits") | ((with_reducible apply intBits_add_le) <;> walk_at "bits") | ((with_reducible apply intBits_sub_le) <;> walk_at "bits") | ((with_reducible apply intBits_neg_le) <;> walk_at "bits") | ((with_reducible apply intBits_natAbs_le) <;> walk_at "bits") | ((with_reducible apply intBits_fdiv_le) <;> walk_at "bits") | ((with_reducible apply intBits_fmod_le) <;> walk_at "bits"))
local macro_rules | `(tactic| walk_at "mul") => `(tactic| first | exact IntMulOk.of_right (intBits_le_64 (by omega) (by omega)) | exact IntMulOk.of_left (intBits_le_64 (by omega) (by omega)) | ((with_reducible apply IntMulOk.of_le) <;> first | walk_at "bits" | decide))
local macro_rules | `(tactic| walk_at "le") => `(tactic| ((with_reducible apply Nat.le_trans) <;> first | walk_at "bits" | decide))
variable {P : Program} {w : World} {K : PySem.W.Frag} {mg : Str -> Option Value} {base : Heap} {A : Ad}
noncomputable def h4j : Sp := fun vs H Q _ => match vs with | [.int a, .int b] => Q (.int (Int.gcd a b)) H | _ => False
noncomputable def h9u : Sp := fun vs H Q _ => match vs with | [.int _] => Q (.bl true) H | _ => False
noncomputable def h1n : Sp := fun vs H Q _ => match vs with
 | [.int t, .int b] => b ≠ 0 /\ intBits t <= 4000 /\ intBits b <= 4000 /\ All (b5i H (d0h (Rat.divInt t b))) Q ⟨⟩ ⟨⟩
 | _ => False
noncomputable def h9v : Sp := fun vs H Q _ => match vs with | [.str x] => Q (.bl (g4y (sg x))) H | _ => False
noncomputable def g5r : Sp := fun vs H Q _ => match vs with | [.ref p] => ∃ t b : Int, H p = some (.tup [.int t, .int b]) /\ t.natAbs.log2 < 1920 /\ b.natAbs.log2 < 1920 /\ (∀ y : Str, sg y = h1c t b -> Q (.str y) H) | _ => False
noncomputable def h1o : Sp := fun vs H Q _ => match vs with | [.str x] => ∃ t b, Good (sg x) t b /\ All (b5i H [.int t, .int b]) Q ⟨⟩ ⟨⟩ | _ => False
noncomputable def h9w : Sp := fun vs H Q _ => match vs with
 | [.str x] => ∃ n : Nat, sg x = txt (n : Int) /\ n < 10 ^ 9 /\ Q (.int n) H
 | _ => False
noncomputable def Two (H : Hp) (p q : Addr) (x y : Rat) : Prop := H p = some (.tup (d0h x)) /\ H q = some (.tup (d0h y)) /\ intBits x.num <= 900 /\ intBits (x.den : Int) <= 900 /\ intBits y.num <= 900 /\ intBits (y.den : Int) <= 900
noncomputable def h1p : Sp := fun vs H Q _ => match vs with
 | [.ref p, .ref q] => ∃ x y : Rat, Two H p q x y /\ All (b5i H (d0h (x + y))) Q ⟨⟩ ⟨⟩
 | _ => False
noncomputable def h1q : Sp := fun vs H Q _ => match vs with
 | [.ref p, .ref q] => ∃ x y : Rat, Two H p q x y /\ All (b5i H (d0h (x * y))) Q ⟨⟩ ⟨⟩
 | _ => False
noncomputable def h1r : Sp := fun vs H Q _ => match vs with
 | [.ref p] => ∃ x : Rat, H p = some (.tup (d0h x)) /\ All (b5i H (d0h (Rat.abs x))) Q ⟨⟩ ⟨⟩
 | _ => False
noncomputable def g7j (ns ms : List Int) : List Int := (List.range (max ns.length ms.length)).map fun k => ns.getD k 0 + ms.getD k 0
noncomputable def i2w (ns ms : List Int) : List Int := ((List.range (min ns.length ms.length)).map fun k => ns.getD k 0 + ms.getD k 0) ++ ns.drop (min ns.length ms.length) ++ ms.drop (min ns.length ms.length)
noncomputable def h9x : Sp := fun vs H Q _ => match vs with
 | [.ref p, .ref q] => ∃ ns ms : List Int, H p = some (.lst (ns.map V.int)) /\ H q = some (.lst (ms.map V.int)) /\ ns.length <= 1000000 /\ ms.length <= 1000000 /\ All (f9l H ((g7j ns ms).map V.int)) Q ⟨⟩ ⟨⟩
 | _ => False
noncomputable def g5s : Sp := fun vs H Q _ => match vs with
 | [.ref p, .int b] => ∃ ns : List Int, H p = some (.lst (ns.map V.int)) /\ (∀ n ∈ ns, IntMulOk n b) /\ ns.length <= 1000000 /\ All (f9l H ((ns.map (· * b)).map V.int)) Q ⟨⟩ ⟨⟩
 | _ => False
noncomputable def f6g (ns : List Int) (st n : Nat) : List Int := (List.range (ns.length - st)).map fun i => if n <= st + i then ns.getD (st + i - n) 0 else 0
noncomputable def f5g : Sp := fun vs H Q _ => match vs with
 | [.ref k, .int st, .int n] => ∃ (ns : List Int) (s m : Nat), H k = some (.lst (ns.map V.int)) /\ st = s /\ n = m /\ s <= ns.length /\ ns.length <= 1000000 /\ All (f9l H ((f6g ns s m).map V.int)) Q ⟨⟩ ⟨⟩
 | _ => False
noncomputable def h1s : Sp := fun vs H Q _ => match vs with
 | [.ref k, .int n] => ∃ (ns : List Int) (m : Nat), H k = some (.lst (ns.map V.int)) /\ n = m /\ ns.length <= 1000000 /\ All (b5i H ((ns.drop (ns.length - m)).map V.int)) Q ⟨⟩ ⟨⟩
 | _ => False
noncomputable def g5t (n : Int) (m : Nat) : List Int := (List.range (m + 1)).map fun j => n ^ j
noncomputable def h9y : Sp := fun vs H Q _ => match vs with
 | [.int n, .int t] => ∃ m : Nat, t = m /\ m <= 16 /\ intBits n <= 10 /\ All (f9l H ((g5t n m).map V.int)) Q ⟨⟩ ⟨⟩
 | _ => False
noncomputable def g7k (p q : Int) (t j : Nat) : Int := p ^ j * q ^ (t - j)
noncomputable def d8i (p q : Int) (t : Nat) : List Int := (List.range (t + 1)).map (g7k p q t)
noncomputable def ecF (gt fa : Addr) (n t : Nat) (q : Int) : List (Str × V) := [("gain", .ref gt), ("many", .int n), ("turns", .int t), ("factors", .ref fa), ("factor_bottom", .int (q ^ t))]
noncomputable def IsE (C : Addr) (H : Hp) (o : Addr) (p q : Int) (n t : Nat) : Prop := ∃ dx gt fa, H o = some (.ins C dx (ecF gt fa n t q)) /\ H gt = some (.tup [.int p, .int q]) /\ H fa = some (.tup ((d8i p q t).map V.int))
noncomputable def g5u (C : Addr) : Sp := fun vs H Q _ => match vs with
 | [.ref o, .ref gt, .int n, .int t] => ∃ (dx : Addr) (m tt : Nat) (p q : Int), n = m /\ t = tt /\ tt <= 16 /\ intBits p <= 10 /\ intBits q <= 10 /\ H gt = some (.tup [.int p, .int q]) /\ H o = some (.ins C dx []) /\
   (∀ (fa : Addr) (H1 : Hp), a6i o H H1 -> H fa = none -> H1 o = some (.ins C dx (ecF gt fa m tt q)) -> H1 fa = some (.tup ((d8i p q tt).map V.int)) -> Q .non H1)
 | _ => False
noncomputable def f9v (C : Addr) : Sp := fun vs H Q _ => match vs with
 | [.ref o] => ∃ p q n t, IsE C H o p q n t /\ Q (.int (q ^ t)) H
 | _ => False
noncomputable def f9w (C : Addr) : Sp := fun vs H Q _ => match vs with
 | [.ref o] => ∃ p q n t, IsE C H o p q n t /\ n <= 1000000 /\ Q (.int (((n * t : Nat)) : Int)) H
 | _ => False
noncomputable def g7l (kn : List Int) (st n : Nat) (p q : Int) (t : Nat) : Nat -> List Int
 | 0 => []
 | j + 1 => g7j (g7l kn st n p q t j) ((f6g kn st (j * n)).map (· * g7k p q t j))
noncomputable def h1t (C : Addr) : Sp := fun vs H Q _ => match vs with
 | [.ref o, .ref st, .ref x, .int _] => ∃ (p q : Int) (n t : Nat) (zs xs : List Int), IsE C H o p q n t /\ H st = some (.tup (zs.map V.int)) /\ H x = some (.lst (xs.map V.int)) /\ zs.length <= 100000 /\ xs.length <= 100000 /\ n <= 1000000 /\ t <= 16 /\ intBits p <= 10 /\ intBits q <= 10 /\ (∀ y ∈ zs ++ xs, intBits y <= 1000000) /\
   (∀ (r ou s2 : Addr) (H1 : Hp), Same H H1 -> H r = none -> H ou = none -> H1 r = some (.tup [.ref ou, .ref s2]) -> H1 ou = some (.lst ((g7l (zs ++ xs) zs.length n p q t (t + 1)).map V.int)) -> H1 s2 = some (.tup (((zs ++ xs).drop ((zs ++ xs).length - n * t)).map V.int)) -> Q (.ref r) H1)
 | _ => False
noncomputable def g2y (X : Nat -> Int) (p q : Int) (t : Nat) : Nat -> Int
 | 0 => 0
 | j + 1 => g2y X p q t j + X j * g7k p q t j
noncomputable def horn (X : Nat -> Int) (p q : Int) (t : Nat) : Nat -> Int
 | 0 => 0
 | j + 1 => (horn X p q t j + X (t - j) * q ^ j) * p
noncomputable def g5v (C : Addr) : Sp := fun vs H Q _ => match vs with
 | [.ref o, .ref gt] => ∃ dx, H o = some (.ins C dx []) ∧ (∀ H1, a6i o H H1 → H1 o = some (.ins C dx [("gain", .ref gt)]) → Q .non H1)
 | _ => False
noncomputable def f9y (C : Addr) : Sp := fun vs H Q _ => match vs with
 | [.ref o, .int n] => ∃ dx, H o = some (.ins C dx []) ∧ (∀ H1, a6i o H H1 → H1 o = some (.ins C dx [("many", .int n)]) → Q .non H1)
 | _ => False
noncomputable def g5w (C : Addr) : Sp := fun vs H Q _ => match vs with
 | [.ref o, .ref gt, .int n] => ∃ dx, H o = some (.ins C dx []) ∧ (∀ H1, a6i o H H1 → H1 o = some (.ins C dx [("gain", .ref gt), ("many", .int n)]) → Q .non H1)
 | _ => False
noncomputable def clsOf (A : Ad) : Dt -> Addr
 | .gain _ => A.a1z
 | .delay _ => A.a1q
 | .echo .. => A.a1r
 | _ => A.a1v
noncomputable def gnF (g : Addr) : List (Str × V) := [("gain", .ref g)]
noncomputable def dlF (n : Nat) : List (Str × V) := [("many", .int n)]
noncomputable def bkF (g : Addr) (n : Nat) : List (Str × V) := [("gain", .ref g), ("many", .int n)]
noncomputable def i1e (H : Hp) (fs : List (Str × V)) : Dt -> Prop
 | .gain y => ∃ g, fs = gnF g /\ H g = some (.tup (d0h y))
 | .delay n => fs = dlF n
 | .echo y n t => ∃ g fa, fs = ecF g fa n t (y.den : Int) /\ H g = some (.tup (d0h y)) /\ H fa = some (.tup ((d8i y.num (y.den : Int) t).map V.int))
 | .back y n => ∃ g, fs = bkF g n /\ H g = some (.tup (d0h y))
 | _ => False
noncomputable def IsP (A : Ad) (H : Hp) (o : Addr) (d : Dt) : Prop := ∃ dx fs, H o = some (.ins (clsOf A d) dx fs) /\ i1e H fs d
noncomputable def d1g : Sp := fun vs H Q _ => match vs with
 | [.ref o] => All (b5i H []) Q ⟨⟩ ⟨⟩
 | _ => False
noncomputable def IsG (C : Addr) (H : Hp) (o : Addr) (p q : Int) : Prop := ∃ dx gt, H o = some (.ins C dx [("gain", .ref gt)]) ∧ H gt = some (.tup [.int p, .int q])
noncomputable def f9z (C : Addr) : Sp := fun vs H Q _ => match vs with
 | [.ref o] => ∃ p q, IsG C H o p q /\ Q (.int q) H
 | _ => False
noncomputable def h1u (C : Addr) : Sp := fun vs H Q _ => match vs with
 | [.ref o, .ref st, .ref x, .int _] => ∃ (p q : Int) (xs : List Int), IsG C H o p q /\ H x = some (.lst (xs.map V.int)) /\ xs.length <= 100000 /\ (∀ y ∈ xs, IntMulOk y p) /\
   (∀ (r ou s2 : Addr) (H1 : Hp), Same H H1 -> H r = none -> H ou = none -> H1 r = some (.tup [.ref ou, .ref s2]) -> H1 ou = some (.lst ((xs.map (· * p)).map V.int)) -> Q (.ref r) H1)
 | _ => False
noncomputable def IsD (C : Addr) (H : Hp) (o : Addr) (n : Nat) : Prop := ∃ dx, H o = some (.ins C dx [("many", .int n)])
noncomputable def f1p : Sp := fun vs H Q _ => match vs with
 | [.ref o] => Q (.int 1) H
 | _ => False
noncomputable def h1v (C : Addr) : Sp := fun vs H Q _ => match vs with
 | [.ref o, .ref st, .ref x, .int _] => ∃ (n : Nat) (zs xs : List Int), IsD C H o n /\ H st = some (.tup (zs.map V.int)) /\ H x = some (.lst (xs.map V.int)) /\ zs.length <= 100000 /\ xs.length <= 100000 /\
   (∀ (r ou s2 : Addr) (H1 : Hp), Same H H1 -> H r = none -> H ou = none -> H1 r = some (.tup [.ref ou, .ref s2]) -> H1 ou = some (.lst ((f6g (zs ++ xs) zs.length n).map V.int)) -> H1 s2 = some (.tup (((zs ++ xs).drop ((zs ++ xs).length - n)).map V.int)) -> Q (.ref r) H1)
 | _ => False
noncomputable def g0a (C : Addr) : Sp := fun vs H Q _ => match vs with
 | [.ref o] => ∃ dx gt n p q, H o = some (.ins C dx (bkF gt n)) /\ H gt = some (.tup [.int p, .int q]) /\ Q (.int q) H
 | _ => False
noncomputable def h1w (C : Addr) : Sp := fun vs H Q _ => match vs with
 | [.ref o, .ref st, .ref x, .int _] => ∃ dx gt n p q zs xs, H o = some (.ins C dx (bkF gt n)) /\ H gt = some (.tup [.int p, .int q]) /\ H st = some (.tup (zs.map V.int)) /\ H x = some (.lst (xs.map V.int)) /\ zs.length <= 100000 /\ xs.length <= 100000 /\ (∀ y ∈ zs, IntMulOk y (-p)) /\ (∀ y ∈ xs, IntMulOk y (-p)) /\ (∀ y ∈ xs, IntMulOk y q) /\ IntMulOk 0 (-p) /\
   (∀ (r ou s2 : Addr) (H1 : Hp), Same H H1 -> H r = none -> H ou = none -> H s2 = none -> H1 r = some (.tup [.ref ou, .ref s2]) -> H1 ou = some (.lst ((g7j (xs.map (· * q)) ((f6g (zs ++ xs) zs.length n).map (· * (-p)))).map V.int)) -> H1 s2 = some (.tup (((zs ++ xs).drop ((zs ++ xs).length - n)).map V.int)) -> Q (.ref r) H1)
 | _ => False
noncomputable def h1x (C : Addr) (H : Hp) (o : Addr) (v : V) (x : Rat) : Prop := ∃ (dx gt : Addr) (y : Rat), H o = some (.ins C dx [("gain", .ref gt)]) ∧ H gt = some (.tup (d0h y)) ∧ v = .int 0 ∧ x = Rat.abs y
noncomputable def g5x (C : Addr) (H : Hp) (o : Addr) (v : V) (x : Rat) : Prop := ∃ (dx : Addr) (n : Int), H o = some (.ins C dx [("many", .int n)]) ∧ v = .int n ∧ x = 1
noncomputable def h1y (C : Addr) (H : Hp) (o : Addr) (v : V) (x : Rat) : Prop := ∃ (p q : Int) (n t : Nat), IsE C H o p q n t /\ n <= 1000 /\ t <= 16 /\ 1 <= q /\ intBits p <= 10 /\ intBits q <= 10 /\ v = .int ((n * t : Nat) : Int) /\ x = Rat.divInt ((d8i p q t).map fun f => (f.natAbs : Int)).sum (q ^ t)
noncomputable def h1z (C : Addr) (H : Hp) (o : Addr) (v : V) (x : Rat) : Prop := ∃ (dx gt : Addr) (n : Int) (y : Rat), H o = some (.ins C dx [("gain", .ref gt), ("many", .int n)]) ∧ H gt = some (.tup (d0h y)) ∧ intBits y.num ≤ 10 ∧ intBits (y.den : Int) ≤ 10 ∧ v = .int n ∧ x = 1 + Rat.abs y
noncomputable def d5l (C : Addr) : Sp := fun vs H Q _ => match vs with
 | [.ref o] => ∃ v x, h1x C H o v x /\ Q v H
 | _ => False
noncomputable def d5m (C : Addr) : Sp := fun vs H Q _ => match vs with
 | [.ref o] => ∃ v x, h1x C H o v x /\ All (b5i H (d0h x)) Q ⟨⟩ ⟨⟩
 | _ => False
noncomputable def d1h (C : Addr) : Sp := fun vs H Q _ => match vs with
 | [.ref o] => ∃ v x, g5x C H o v x /\ Q v H
 | _ => False
noncomputable def d1i (C : Addr) : Sp := fun vs H Q _ => match vs with
 | [.ref o] => ∃ v x, g5x C H o v x /\ All (b5i H (d0h x)) Q ⟨⟩ ⟨⟩
 | _ => False
noncomputable def d5n (C : Addr) : Sp := fun vs H Q _ => match vs with
 | [.ref o] => ∃ v x, h1y C H o v x /\ Q v H
 | _ => False
noncomputable def d5o (C : Addr) : Sp := fun vs H Q _ => match vs with
 | [.ref o] => ∃ v x, h1y C H o v x /\ All (b5i H (d0h x)) Q ⟨⟩ ⟨⟩
 | _ => False
noncomputable def d5p (C : Addr) : Sp := fun vs H Q _ => match vs with
 | [.ref o] => ∃ v x, h1z C H o v x /\ Q v H
 | _ => False
noncomputable def d5q (C : Addr) : Sp := fun vs H Q _ => match vs with
 | [.ref o] => ∃ v x, h1z C H o v x /\ All (b5i H (d0h x)) Q ⟨⟩ ⟨⟩
 | _ => False
noncomputable def d5r (xs : List Int) (i : Int) : Int := if i < 0 then 0 else xs.getD i.toNat 0
noncomputable def g7m : Dt -> List (Int × Nat)
 | .gain y => [(y.num, 0)]
 | .delay n => [(1, n)]
 | .echo y n t => (List.range (t + 1)).map fun m => (g7k y.num (y.den : Int) t m, m * n)
 | .back y n => [((y.den : Int), 0), (-y.num, n)]
 | _ => []
noncomputable def tap (L : List (Int × Nat)) (X : Int -> Int) (i : Int) : Int := (L.map fun c => c.1 * X (i - (c.2 : Int))).sum
noncomputable def outs (d : Dt) (xs ys : List Int) : List Int := (List.range ys.length).map fun i => tap (g7m d) (d5r (xs ++ ys)) ((xs.length + i : Nat) : Int)
noncomputable def b2j : Dt -> Int
 | .gain y => y.den
 | .echo y _ t => (y.den : Int) ^ t
 | .back y _ => y.den
 | _ => 1
noncomputable def StV (H : Hp) (xs : List Int) (st : V) : Dt -> Prop
 | .gain _ => ∃ p, st = V.ref p
 | .delay n => ∃ p, st = V.ref p /\ H p = some (.tup ((xs.drop (xs.length - n)).map V.int))
 | .echo _ n t => ∃ p, st = V.ref p /\ H p = some (.tup ((xs.drop (xs.length - n * t)).map V.int))
 | .back _ n => ∃ p, st = V.ref p /\ H p = some (.tup ((xs.drop (xs.length - n)).map V.int))
 | _ => False
noncomputable def d8j (A : Ad) (k : Nat) : Sp := fun vs H Q _ => match vs with
 | [.ref o, st, .ref l, .int _] => ∃ (d : Dt) (xs ys : List Int), d.kd = k /\ IsP A H o d /\ d.ok /\ StV H xs st d /\ H l = some (.lst (ys.map V.int)) /\ xs.length <= 40000 /\ ys.length <= 40000 /\ (∀ y ∈ xs ++ ys, intBits y <= 100000) /\
   (∀ r ou st' H1, Same H H1 -> H r = none -> H ou = none -> H1 r = some (.tup [.ref ou, st']) -> H1 ou = some (.lst ((outs d xs ys).map V.int)) -> StV H1 (xs ++ ys) st' d -> Q (.ref r) H1)
 | _ => False
noncomputable def f7o (A : Ad) (k : Nat) : Sp := fun vs H Q _ => match vs with
 | [.ref o] => ∃ (d : Dt), d.kd = k /\ IsP A H o d /\ Q (.int (b2j d)) H
 | _ => False
noncomputable def i5b : Sp := fun vs H Q _ => match vs with
 | [.str x] => ∃ y : Rat, x = fW y /\ YOk y /\ All (b5i H (d0h y)) Q ⟨⟩ ⟨⟩
 | _ => False
noncomputable def i5c : Sp := fun vs H Q _ => match vs with
 | [.str x, .int a, .int b] => ∃ n : Nat, sg x = txt (n : Int) /\ n < 10 ^ 9 /\ a <= n /\ (n : Int) <= b /\ Q (.int n) H
 | _ => False
noncomputable def i5d : Sp := fun vs H Q _ => match vs with
 | [.str x] => ∃ n : Nat, x = nW n /\ 1 <= n /\ n <= 1000 /\ Q (.int n) H
 | _ => False
noncomputable def i5e : Sp := fun vs H Q _ => match vs with
 | [.ref l, .int c] => ∃ xs, H l = some (.lst xs) /\ (xs.length : Int) = c /\ Q .non H
 | _ => False
noncomputable def h9z (A : Ad) (k : Nat) : Sp := fun vs H Q _ => match vs with
 | [.ref l] => ∃ d : Dt, d.kd = k /\ d.ok /\ H l = some (.lst (d.vals.map V.str)) /\ (∀ o H1, H o = none -> Same H H1 -> IsP A H1 o d -> Q (.ref o) H1)
 | _ => False
noncomputable def h2a (A : Ad) : Sp := fun vs H Q _ => match vs with
 | [.str x] => ∃ d : Dt, d.ok /\ d.kd < 4 /\ x = d.word /\ (∀ o H1, H o = none -> Same H H1 -> IsP A H1 o d -> Q (.ref o) H1)
 | _ => False
noncomputable def run (ds : List Dt) (xs : List Int) : List Int := ds.foldl (fun r d => outs d [] r) xs
noncomputable def blk : List Dt -> List Int -> List Int -> List Int
 | [], _, b => b
 | d :: ds, a, b => blk ds (outs d [] a) (outs d a b)
noncomputable def a9s (b : Int) (ds : List Dt) : Int := ds.foldl (fun b d => b * b2j d) b
noncomputable def g1z (A : Ad) (H : Hp) (os : List Addr) (ds : List Dt) : Prop := os.length = ds.length /\ ∀ (i : Nat) o d, os[i]? = some o -> ds[i]? = some d -> IsP A H o d
noncomputable def Sts (H : Hp) (ds : List Dt) (sts : List V) (xs : List Int) : Prop := sts.length = ds.length /\ ∀ (i : Nat) st d, sts[i]? = some st -> ds[i]? = some d -> StV H (run (ds.take i) xs) st d
noncomputable def chF (pl sl : Addr) : List (Str × V) := [("parts", .ref pl), ("states", .ref sl)]
noncomputable def ch1 (pl : V) : List (Str × V) := [("parts", pl)]
noncomputable def ChS (A : Ad) (H : Hp) (o : Addr) (ds : List Dt) (xs : List Int) : Prop := ∃ dx pl sl os sts, H o = some (.ins A.a2w dx (chF pl sl)) /\ H pl = some (.lst (os.map V.ref)) /\ H sl = some (.lst sts) /\ g1z A H os ds /\ Sts H ds sts xs
noncomputable def Lk (H : Hp) (D : Addr) : Prop := (∀ ts, H D ≠ some (.tup ts)) /\ ∀ c dx fs, H D = some (.ins c dx fs) -> (fs = [] \/ (∃ pl : V, fs = ch1 pl) \/ ∃ pl sl, fs = chF pl sl)
noncomputable def i0a (A : Ad) : Sp := fun vs H Q _ => match vs with
 | [.ref l] => ∃ ds : List Dt, H l = some (.lst (ds.map fun d => V.str d.word)) /\ ds.length <= 8 /\ (∀ d ∈ ds, d.ok /\ d.kd < 4) /\ (∀ p os H1, H p = none -> Same H H1 -> H1 p = some (.lst (os.map V.ref)) -> g1z A H1 os ds -> Q (.ref p) H1)
 | _ => False
noncomputable def g5y (A : Ad) : Sp := fun vs H Q _ => match vs with
 | [.ref o, .ref l] => ∃ (dx : Addr) (ds : List Dt), H o = some (.ins A.a2w dx []) /\ H l = some (.lst (ds.map fun d => V.str d.word)) /\ ds.length <= 8 /\ (∀ d ∈ ds, d.ok /\ d.kd < 4) /\ (∀ H1, a6i o H H1 -> ChS A H1 o ds [] -> Q .non H1)
 | _ => False
noncomputable def ChX (A : Ad) (H : Hp) (o : Addr) (ds : List Dt) (xs : List Int) (Z : Addr) : Prop := ∃ dx pl sl os sts, H o = some (.ins A.a2w dx (chF pl sl)) /\ H pl = some (.lst (os.map V.ref)) /\ H sl = some (.lst sts) /\ g1z A H os ds /\ Sts H ds sts xs /\ pl ≠ Z /\ sl ≠ Z /\ o ≠ Z
noncomputable def h2b (A : Ad) : Sp := fun vs H Q _ => match vs with
 | [.ref o, .ref l, .int b] => ∃ (ds : List Dt) (xs ys : List Int) (Z : Addr), ChX A H o ds xs Z /\ (∃ u, H Z = some u) /\ H l = some (.lst (ys.map V.int)) /\ ds.length <= 8 /\ (∀ d ∈ ds, d.ok) /\ xs.length <= 10000 /\ ys.length <= 10000 /\ intBits b <= 64 /\ (∀ y ∈ xs ++ ys, intBits y <= 64) /\
   (∀ rr lo H1, a6i o H H1 -> H rr = none -> H lo = none -> H1 rr = some (.tup [.ref lo, .int (a9s b ds)]) -> H1 lo = some (.lst ((blk ds xs ys).map V.int)) -> ChX A H1 o ds (xs ++ ys) Z -> Q (.ref rr) H1)
 | _ => False
noncomputable def a6l : Dt -> Rat
 | .gain y => Rat.abs y
 | .echo y _ t => Rat.divInt ((d8i y.num (y.den : Int) t).map fun f => (f.natAbs : Int)).sum ((y.den : Int) ^ t)
 | .back y _ => 1 + Rat.abs y
 | _ => 1
noncomputable def reachOf : Dt -> Int
 | .delay n => n
 | .echo _ n t => ((n * t : Nat) : Int)
 | .back _ n => n
 | _ => 0
noncomputable def Few : Dt -> Prop
 | .echo _ _ t => t <= 4
 | _ => True
noncomputable def wts (ds : List Dt) : Rat := ds.foldl (fun x d => x * a6l d) 1
noncomputable def i0b (ds : List Dt) : Int := (ds.map reachOf).sum
noncomputable def i0c (A : Ad) : Sp := fun vs H Q _ => match vs with
 | [.ref o] => ∃ (ds : List Dt) (xs : List Int), ChS A H o ds xs /\ ds.length <= 8 /\ (∀ d ∈ ds, d.ok) /\ Q (.int (a9s 1 ds)) H
 | _ => False
noncomputable def i0d (A : Ad) : Sp := fun vs H Q _ => match vs with
 | [.ref o] => ∃ (ds : List Dt) (xs : List Int), ChS A H o ds xs /\ ds.length <= 8 /\ (∀ d ∈ ds, d.ok /\ Few d) /\ All (b5i H (d0h (wts ds))) Q ⟨⟩ ⟨⟩
 | _ => False
noncomputable def i0e (A : Ad) : Sp := fun vs H Q _ => match vs with
 | [.ref o] => ∃ (ds : List Dt) (xs : List Int), ChS A H o ds xs /\ ds.length <= 8 /\ (∀ d ∈ ds, d.ok) /\ (∀ H1, Same H H1 -> Q (.int (i0b ds)) H1)
 | _ => False
noncomputable def i0f (ds : List Dt) (X : Int -> Int) : Int -> Int := ds.foldl (fun X d => tap (g7m d) X) X
noncomputable def h2c (K : PySem.W.Frag) : Sp := fun vs H Q _ => match vs with | [.ref a, .int k] => ∃ ns : List Int, SqL K H a (ns.map V.int) /\ 0 <= k /\ Q (.int (ns.getD k.toNat 0)) H | _ => False
noncomputable def g5z : Sp := fun vs H Q _ => match vs with | [.int _] => Q (.bl true) H | _ => False
noncomputable def g7n (c : Int) : Int := if ((c * 48271).fmod 999983).fmod 4 = 1 then 0 else (c * 618033988749894848204587).fmod 2000000000001 - 1000000000000
noncomputable def g6a : Sp := fun vs H Q _ => match vs with | [.int c] => intBits c <= 1100000 /\ Q (.int (g7n c)) H | _ => False
noncomputable def g6b : Sp := fun vs H Q _ => match vs with
 | [.int m, .bl _] => (∀ (y : Rat), YOk y -> Q (.str (fW y)) H)
 | _ => False
noncomputable def g6c : Sp := fun vs H Q _ => match vs with
 | [.int c, .bl _] => intBits c <= 1100000 /\ (∀ (d : Dt), d.ok -> d.kd < 4 -> Few d -> Q (.str d.word) H)
 | _ => False
noncomputable def g6d : Sp := fun vs H Q _ => match vs with
 | [.ref l, .int p] => ∃ ds : List Dt, H l = some (.lst (ds.map fun d => V.str d.word)) /\ ds.length <= 8 /\ (∀ d ∈ ds, d.kd < 4) /\ (∀ (ds' : List Dt) lo H1, ds'.Perm ds -> H lo = none -> Same H H1 -> H1 lo = some (.lst (ds'.map fun d => V.str d.word)) -> Q (.ref lo) H1)
 | _ => False
noncomputable def Prs (H : Hp) (ps : List Addr) (fs : List Int) (G : Int) : Prop := ps.length = fs.length /\ ∀ (i : Nat) p, ps[i]? = some p -> H p = some (.tup [.int (fs.getD i 0), .int G])
noncomputable def h2d : Sp := fun vs H Q _ => match vs with
 | [.ref l, .ref r] => ∃ (ps qs : List Addr) (fs : List Int) (G : Int), H l = some (.lst (ps.map V.ref)) /\ H r = some (.lst (qs.map V.ref)) /\ Prs H ps fs G /\ Prs H qs fs G /\ fs.length <= 1000 /\ (∀ z ∈ fs, intBits z <= 4000) /\ intBits G <= 4000 /\ (∀ H1, Same H H1 -> Q (.bl true) H1)
 | _ => False
noncomputable def h2e (A : Ad) : Sp := fun vs H Q _ => match vs with
 | [.ref l] => ∃ ds : List Dt, H l = some (.lst (ds.map fun d => V.str d.word)) /\ ds.length <= 8 /\ (∀ d ∈ ds, d.ok /\ d.kd < 4 /\ Few d) /\ (∀ p pw H1, Same H H1 -> H1 p = some (.tup [.int (a9s 1 ds), .ref pw, .int (i0b ds)]) -> H1 pw = some (.tup (d0h (wts ds))) -> Q (.ref p) H1)
 | _ => False
noncomputable def h2f (A : Ad) : Sp := fun vs H Q _ => match vs with
 | [.ref lw, .ref lr, .int b, .int k] => ∃ (ds : List Dt) (row : List Int) (n : Nat), H lw = some (.lst (ds.map fun d => V.str d.word)) /\ ds.length <= 8 /\ (∀ d ∈ ds, d.ok /\ d.kd < 4) /\ H lr = some (.lst (row.map V.int)) /\ row.length <= 1000 /\ (∀ z ∈ row, intBits z <= 64) /\ 1 <= b /\ b <= 9 /\ k = n /\ n <= row.length /\
   (∀ lo ps H1, Same H H1 -> H1 lo = some (.lst (ps.map V.ref)) -> Prs H1 ps (run ds row) (a9s b ds) -> Q (.ref lo) H1)
 | _ => False
local macro_rules | `(tactic| walk_at $s:str) => do
 unless s.getString == "rd" || s.getString == "rd*" do Lean.Macro.throwUnsupported
 let z <- `(Lean.Parser.Tactic.simpLemma| true_and)
 let y <- `(Lean.Parser.Tactic.simpStar| *)
 let x : Lean.TSyntax [`Lean.Parser.Tactic.simpStar, `Lean.Parser.Tactic.simpErase, `Lean.Parser.Tactic.simpLemma] := if s.getString == "rd" then ⟨z.raw⟩ else ⟨y.raw⟩
 `(tactic| simp (config := { maxSteps := 1000000, dsimp := false }) only [$x, ↓h4j, ↓h9u, ↓h1n, ↓h9v, ↓g5r, ↓h1o, ↓h9w, ↓h1p, ↓h1q, ↓h1r, ↓h9x, ↓g5s, ↓f5g, ↓h1s, ↓h9y, ↓g5u, ↓f9v, ↓f9w, ↓h1t, ↓g5v, ↓f9y, ↓g5w, ↓d1g, ↓f9z, ↓h1u, ↓f1p, ↓h1v, ↓g0a, ↓h1w, ↓d5l, ↓d5m, ↓d1h, ↓d1i, ↓d5n, ↓d5o, ↓d5p, ↓d5q, ↓d8j, ↓f7o, ↓i5b, ↓i5c, ↓i5d, ↓i5e, ↓h9z, ↓h2a, ↓i0a, ↓g5y, ↓h2b, ↓i0c, ↓i0d, ↓i0e, ↓h2c, ↓g5z, ↓g6a, ↓g6b, ↓g6c, ↓g6d, ↓h2d, ↓h2e, ↓h2f, i2j, ↓h8h, ↓i4o, ↓i4p, ↓h8j, ↓h8k, ↓i4q, ↓h8l, ↓h0w, ↓h8n, ↓h0x, ↓i2g, Bool.bne_false, Bool.bne_true, ↓h9d, ↓rSlG, ↓h9a, ↓h9c, i2j, ↓gSub, ↓i2l, ↓h1h, ↓i4z, ↓i4y, ↓h9l, i2j, ↓h3m, ↓h8q, ↓g8k, ↓a5t, ↓h0y, asNew, ↓rInF, ↓i2i, ↓h3q, ↓rIsI, ↓h3r, ↓h3s, ↓g4z, ↓h3t, lookup_same, f4i, g4w, g1c, g8l, List.lookup_nil, nq0, nq1, nq2, nq3, nq4, nq5, nq6, nq7, nq8, nq9, nq10, nq11, nq12, nq13, nq14, nq15, nq16, nq17, nq18, nq19, nq20, nq21, nq22, nq23, nq24, nq25, nq26, nq27, nq28, nq29, nq30, nq31, nq32, nq33, nq34, nq35, nq36, nq37, nq38, nq39, nq40, nq41, nq42, nq43, nq44, nq45, nq46, nq47, nq48, nq49, nq50, nq51, nq52, nq53, nq54, nq55, nq56, nq57, nq58, nq59, nq60, nq61, ↓i3h, ↓i1k, ↓b3g, ↓tC, ↓g7q, ↓tOp, ↓tUn, ↓i3k, ↓i3j, ↓i1h, ↓h5z, ↓tCB, ↓h6n, ↓f0g, ↓h7f, ↓h7g, ↓h2v, ↓i3f, ↓tOr, ↓i3g, ↓tBF, ↓h3i, ↓tOrF, ↓h3j, ↓h6a, ↓tIf, ↓h7d, ↓g4g, ↓g4l, ↓g4m, ↓h7p, ↓g4n, ↓tSl, ↓g3w, ↓g4o, ↓rIF, ↓h3h, ↓rUF, ↓h7h, ↓h7i, ↓i2a, ↓i2b, ↓i4g, ↓i4h, ↓h7j, ↓h7r, ↓h7s, ↓h7q, ↓i4e, ↓i4i, ↓i4j, ↓i4k, ↓h0q, ↓h8c, ↓h3l, ↓i4l, ↓h8b, ↓h8a, ↓h0t, ↓h7t, ↓h7u, ↓h7v, ↓h7w, ↓h0f, ↓h8g, ↓h8d, ↓h8e, ↓h8f, ↓hAs, ↓L2.start, h7k, h7l, h7m, h7n, h7o, g4f, Ty.nm, i1m, h7e, h0l, h0m, h0n, h0o, f3u, f6q, List.map_cons, List.map_nil, List.length_cons, List.length_nil, List.length_map, List.replicate, List.cons_append, List.nil_append, List.append_nil, List.getElem?_cons_zero, List.getElem?_cons_succ, List.set_cons_zero, List.set_cons_succ, Option.some.injEq, exists_eq_left', exists_eq_left, exists_and_left, V.int.injEq, V.bl.injEq, V.str.injEq, V.ref.injEq, V.ty.injEq, Value.ref.injEq, List.cons.injEq, HO.lst.injEq, HO.tup.injEq, Int.zero_add, List.length_append, and_true, true_and, h3c, h3d, h3e, h3f, h3g, two_line, if_true, reduceCtorEq, if_false, Bool.false_eq_true, decide_eq_true_eq, decide_eq_false_iff_not, decide_true, decide_false, Bool.or_true, Bool.true_or, Bool.or_false, Bool.false_or, Bool.and_true, Bool.true_and, Bool.and_false, Bool.false_and, or_false, false_or, Nat.zero_add, Nat.reduceAdd, Nat.reduceSub, exists_const, false_and, and_false, Bool.not_true, Bool.not_false, Bool.not_eq_true', ne_eq, not_true_eq_false, not_false_eq_true, Int.reduceEq, Int.reduceNe, Int.reduceLT, Int.reduceLE, Int.reducePow, Int.reduceMul, Int.reduceAdd, Int.reduceSub, Int.reduceNeg, Int.reduceToNat, Nat.reducePow, Nat.reduceLT, Nat.reduceLeDiff])
theorem g0b {l r : Int} (hl : 0 <= l) (hr : 0 < r) : Int.gcd r (l.fmod r) = Int.gcd l r := by
 rw [Int.fmod_eq_emod_of_nonneg _ (by omega)]
 obtain ⟨x, rfl⟩ := Int.eq_ofNat_of_zero_le hl
 obtain ⟨y, rfl⟩ := Int.eq_ofNat_of_zero_le (by omega : 0 <= r)
 rw [<- Int.natCast_emod, Int.gcd_natCast_natCast, Int.gcd_natCast_natCast, Nat.gcd_comm x y, Nat.gcd_rec y x, Nat.gcd_comm]
theorem g6e {l r : Int} (hl : 0 <= l) (hr : 0 < r) : 0 <= l.fmod r /\ l.fmod r < r := by
 rw [Int.fmod_eq_emod_of_nonneg _ (by omega)]
 exact ⟨Int.emod_nonneg _ (by omega), Int.emod_lt_of_pos _ hr⟩
theorem b9z (a : Int) {b : Int} (hb : 0 < b) : 0 <= a.fmod b /\ a.fmod b < b := by
 rw [Int.fmod_eq_emod_of_nonneg _ (by omega)]
 exact ⟨Int.emod_nonneg _ (by omega), Int.emod_lt_of_pos _ hb⟩
theorem f1q (a b : Int) : Int.gcd (a.natAbs : Int) (b.natAbs : Int) = Int.gcd a b := by
 rw [Int.gcd_natCast_natCast]; rfl
theorem gcd_zero {l : Int} (hl : 0 <= l) : ((Int.gcd l 0 : Nat) : Int) = l := by
 rw [Int.gcd_zero_right]; omega
theorem g9d {a b : Int} {n : Nat} (h : a ≠ 0) (ha : intBits a <= n) : intBits (Int.gcd a b : Int) <= n := by
 refine intBits_le_of_natAbs ?_ ha
 rw [Int.natAbs_natCast]
 exact Nat.le_of_dvd (by omega) (Nat.gcd_dvd_left _ _)
theorem c1t {a g : Int} (hg : 0 < g) (h : g ∣ a) : (a.fdiv g).natAbs = a.natAbs / g.natAbs := by
 rw [Int.fdiv_eq_ediv_of_nonneg _ (by omega)]
 obtain ⟨k, rfl⟩ := h
 rw [Int.mul_ediv_cancel_left _ (by omega), Int.natAbs_mul, Nat.mul_div_cancel_left _ (by omega)]
theorem g9e {a b : Int} (h : ¬ (a = 0 /\ b = 0)) : ((Int.gcd (a.fdiv (Int.gcd a b : Int)) (b.fdiv (Int.gcd a b : Int)) : Nat) : Int) = 1 := by
 have hp : 0 < Int.gcd a b := by
  rw [Int.gcd_pos_iff]
  omega
 have e : Int.gcd (a.fdiv (Int.gcd a b : Int)) (b.fdiv (Int.gcd a b : Int)) = 1 := by
  show Nat.gcd _ _ = 1
  rw [c1t (by omega) (Int.gcd_dvd_left a b), c1t (by omega) (Int.gcd_dvd_right a b), Int.natAbs_natCast]
  exact Nat.coprime_div_gcd_div_gcd hp
 rw [e]
 rfl
theorem i0g {t b : Int} (hb : b ≠ 0) : t.fdiv (if b < 0 then -(Int.gcd t b : Int) else (Int.gcd t b : Int)) = (Rat.divInt t b).num := by
 rw [Rat.num_divInt, Int.gcd_comm b t]
 have hp : 0 < Int.gcd t b := Int.gcd_pos_of_ne_zero_right t hb
 obtain ⟨k, hk⟩ : (Int.gcd t b : Int) ∣ t := Int.gcd_dvd_left t b
 generalize hg : (Int.gcd t b : Int) = g at *
 have hg0 : 0 < g := by omega
 by_cases h : b < 0
 ·rw [if_pos h, Int.sign_eq_neg_one_of_neg h, hk]
  rw [show g * k = (-g) * (-k) by grind, Int.mul_fdiv_cancel_left _ (by omega), show -1 * (-g * -k) = g * (-k) by grind, Int.mul_ediv_cancel_left _ (by omega)]
 ·rw [if_neg h, Int.sign_eq_one_of_pos (by omega), hk, Int.mul_fdiv_cancel_left _ (by omega), Int.one_mul, Int.mul_ediv_cancel_left _ (by omega)]
theorem i0h {t b : Int} (hb : b ≠ 0) : b.fdiv (if b < 0 then -(Int.gcd t b : Int) else (Int.gcd t b : Int)) = ((Rat.divInt t b).den : Int) := by
 rw [Rat.den_divInt, if_neg hb, Int.gcd_comm b t]
 have hp : 0 < Int.gcd t b := Int.gcd_pos_of_ne_zero_right t hb
 obtain ⟨k, hk⟩ : (Int.gcd t b : Int) ∣ b := Int.gcd_dvd_right t b
 rw [Int.natCast_ediv]
 generalize hg : (Int.gcd t b : Int) = g at *
 have hg0 : 0 < g := by omega
 by_cases h : b < 0
 ·have e : ((b.natAbs : Nat) : Int) = -b := by omega
  rw [if_pos h, e, hk, show g * k = (-g) * (-k) by grind, Int.mul_fdiv_cancel_left _ (by omega), show -(-g * -k) = g * (-k) by grind, Int.mul_ediv_cancel_left _ (by omega)]
 ·have e : ((b.natAbs : Nat) : Int) = b := by omega
  rw [if_neg h, e, hk, Int.mul_fdiv_cancel_left _ (by omega), Int.mul_ediv_cancel_left _ (by omega)]
theorem g0c (q r : Rat) : Rat.divInt (q.num * (r.den : Int) + r.num * (q.den : Int)) ((q.den : Int) * (r.den : Int)) = q + r := by
 conv => rhs; rw [<- Rat.num_divInt_den q, <- Rat.num_divInt_den r]
 rw [Rat.divInt_add_divInt _ _ (by have := q.den_pos; omega) (by have := r.den_pos; omega)]
theorem f5h (q r : Rat) : Rat.divInt (q.num * r.num) ((q.den : Int) * (r.den : Int)) = q * r := by
 conv => rhs; rw [<- Rat.num_divInt_den q, <- Rat.num_divInt_den r]
 rw [Rat.divInt_mul_divInt]
theorem f1r (q : Rat) : (Rat.abs q).num = q.num.natAbs := by
 unfold Rat.abs
 split
 ·rename_i h
  have := Rat.num_nonneg.mpr h
  omega
 ·rename_i h
  have : ¬ 0 <= q.num := fun z => h (Rat.num_nonneg.mp z)
  show -q.num = _
  omega
theorem f1s (q : Rat) : (Rat.abs q).den = q.den := by
 unfold Rat.abs
 split <;> rfl
theorem i0i {t b : Int} (hb : b ≠ 0) : (Rat.divInt t b).num.natAbs <= t.natAbs := by
 rw [Rat.num_divInt]
 have e : (b.sign * t).natAbs = t.natAbs := by
  rw [Int.natAbs_mul, Int.natAbs_sign_of_ne_zero hb, Nat.one_mul]
 rw [<- e]
 exact Int.natAbs_ediv_le_natAbs _ _
theorem i0j {t b : Int} (hb : b ≠ 0) : (Rat.divInt t b).den <= b.natAbs := by
 rw [Rat.den_divInt, if_neg hb]
 exact Nat.div_le_self _ _
theorem g2a (T : Tx K mg A) : a1p P A.wd K mg base CX0 1 A.b5l A.d0l ["one", "other"] h4j := by
 refine T.c4j.ok b4s (fun vs H Q E h => ?_) (fun cdv A' outer s H vs Q E hr h => ?_)
 ·match vs, h with
  | [.int a, .int b], _ => rfl
 ·match vs, h with
  | [.int a, .int b], q =>
  have q : Q (.int (Int.gcd a b)) H := q
  have hu := hr.units
  refine ⟨_, (a0k (a1o (i := 2) b4s.nd rfl (Or.inl rfl) (a1l b5g (by rfl) T.d4v boot_abs (a0g (pvF 0) a0i)))
   (a0k (a1o (i := 3) b4s.nd rfl (Or.inl rfl) (a1l b5g (by rfl) T.d4v boot_abs (a0g (pvF 1) a0i)))
   (a0k (d3o PassesOwn.never (a1u (c3n hu) (pvF 3) a0l (a3k _))
   (a0k (a1o (i := 4) b4s.nd rfl (Or.inl rfl) (a1j a7s (pvF 2) (pvF 3)))
   (a0k (a1o (i := 2) b4s.nd rfl (Or.inl rfl) (pvF 3))
   (a0m (a1o (i := 3) b4s.nd rfl (Or.inl rfl) (pvF 4))))))
   (a0m (a1h (pvF 2)))))), ?_⟩
  walk_at "rd"
  refine d3p (fun m σ H1 => ∃ l r z, σ = [some (.int a), some (.int b), some (.int l), some (.int r), z] /\ H1 = H /\ 0 <= l /\ 0 <= r /\ m = r.toNat /\ Int.gcd l r = Int.gcd a b) _
   ⟨_, _, _, rfl, rfl, by omega, by omega, rfl, f1q a b⟩ ?_
  rintro m σ H1 ⟨l, r, z, rfl, rfl, hl, hr', rfl, hg⟩
  walk_at "rd"
  split
  ·rename_i h
   have hp : 0 < r := by omega
   have f := g6e hl hp
   exact ⟨h, _, (by omega : (l.fmod r).toNat < r.toNat), _, _, _, ⟨rfl, rfl, rfl⟩, hr', f.1, rfl, (g0b hl hp).trans hg⟩
  ·rename_i h
   obtain rfl : r = 0 := by omega
   rw [<- hg, gcd_zero hl] at q
   exact q
theorem f1t {t b : Int} {n : Nat} (hb : b ≠ 0) (h : intBits t <= n) : intBits (Rat.divInt t b).num <= n := intBits_le_of_natAbs (i0i hb) h
theorem f1u {t b : Int} {n : Nat} (hb : b ≠ 0) (h : intBits b <= n) : intBits ((Rat.divInt t b).den : Int) <= n := by
 refine intBits_le_of_natAbs ?_ h
 rw [Int.natAbs_natCast]
 exact i0j hb
theorem f7p (T : Tx K mg A) : a1p P A.wd K mg base CX0 1 A.b1n A.c6z ["value"] h9u := by
 refine T.b4t.ok f6z (fun vs H Q E h => ?_) (fun cdv A' outer s H vs Q E hr h => ?_)
 ·match vs, h with
  | [.int i], _ => rfl
 ·match vs, h with
  | [.int i], q =>
  have hu := hr.units
  refine ⟨_, (a0m (a1h (g4j (a1l (b3n .int) (by rfl) T.a2k boot_isinstance (a0g (pvF 0) (a0g (c0j (v := .ty "int") (u := .type "int") (by rfl) T.d7t rfl rfl) a0i))) (h0e (g4k (a1l (b3n .bl) (by rfl) T.a2k boot_isinstance (a0g (pvF 0) (a0g (c0j (v := .ty "bool") (u := .type "bool") (by rfl) T.d9o rfl rfl) a0i)))))))), ?_⟩
  walk_at "rd"
  exact q
theorem c1u (T : Tx K mg A) : a1p P A.wd K mg base CX0 2 A.b1p A.c7h ["top", "bottom"] h1n := by
 have d9p : a1p P A.wd K mg base CX0 1 _ _ _ _ := f7p T
 have g6f : a1p P A.wd K mg base CX0 1 _ _ _ _ := g2a T
 refine T.a9n.ok c6w (fun vs H Q E h => ?_) (fun cdv A' outer s H vs Q E hr h => ?_)
 ·match vs, h with
  | [.int t, .int b], _ => rfl
 ·match vs, h with
  | [.int t, .int b], ⟨hb, h1, h2, k⟩ =>
  have hu := hr.units
  have d5s : a2q 1 _ := hr.mono (by decide)
  have g2b : a2q 1 _ := hr.mono (by decide)
  refine ⟨_, (a0k (a8h (pw_or (b8w (a7u (a0u d9p d5s (by rfl) T.d9l T.b4t.kp T.c6j .nil a1k (a0g (pvF 0) a0i)))) (pw_or1 (b8w (a7u (a0u d9p d5s (by rfl) T.d9l T.b4t.kp T.c6j .nil a1k (a0g (pvF 1) a0i)))))).pt
   (a0m a6k)
   a2g)
   (a0k (a8h (a1u (d2g hu) (pvF 1) a0l (a3k _))
   (a0m a6k)
   a2g)
   (a0k (a1o (i := 2) c6w.nd rfl (Or.inl rfl) (a0u g6f g2b (by rfl) T.g5l T.c4j.kp T.d4i .nil a1k (a0g (pvF 0) (a0g (pvF 1) a0i))))
   (b5h (a8h (a1u of_lt (pvF 1) a0l (a3k _))
   (a0m (a1o (i := 2) c6w.nd rfl (Or.inl rfl) (h6g h0p (pvF 2))))
   a2g)
   (a0m (a1h (a9w (a0g (a1j a7t (pvF 0) (pvF 2)) (a0g (a1j a7t (pvF 1) (pvF 2)) a0i))))))))), ?_⟩
  walk_at "rd"
  rw [if_neg hb]
  refine ⟨fun σ' H' => σ' = [some (.int t), some (.int b), some (.int (if b < 0 then -(Int.gcd t b : Int) else (Int.gcd t b : Int)))] /\ H' = H, ?_, ?_⟩
  ·walk_at "rd"
   split
   ·rfl
   ·rfl
  ·rintro σ' H' ⟨rfl, rfl⟩
   have hg : intBits (Int.gcd t b : Int) <= 4000 := by
    rw [Int.gcd_comm]
    exact g9d hb h2
   have hp : 0 < Int.gcd t b := Int.gcd_pos_of_ne_zero_right t hb
   have hc : CFd t (if b < 0 then -(Int.gcd t b : Int) else (Int.gcd t b : Int)) := by
    split
    ·exact ⟨by omega, Nat.le_trans (intBits_neg_le hg) (by decide)⟩
    ·exact ⟨by omega, Nat.le_trans hg (by decide)⟩
   walk_at "rd"
   refine ⟨hc, hc, fun p H1 n1 S1 h1 => k _ _ ⟨p, rfl, n1, S1, ?_⟩⟩
   rw [h1, i0g hb, i0h hb]
   rfl
theorem f5i {n : Nat} (h : n < 10 ^ 9) : n.log2 < 1920 := by
 rcases Nat.eq_zero_or_pos n with z | z
 ·rw [z]; decide
 ·rw [Nat.log2_lt (by omega)]
  exact Nat.lt_of_lt_of_le h (Nat.le_trans (by decide : 10 ^ 9 <= 2 ^ 30) (Nat.pow_le_pow_right (by decide) (by decide)))
theorem d9q {t : Int} (h : t.natAbs < 10 ^ 9) : intBits t <= 4000 := by
 refine Nat.le_trans (intBits_le_iff.mpr (Nat.lt_of_lt_of_le h (by decide : 10 ^ 9 <= 2 ^ 30))) (by decide)
theorem d9r (T : Tx K mg A) : a1p P A.wd K mg base CX0 1 A.a6q A.c0m ["text"] h9v := by
 refine T.a9m.ok c9j (fun vs H Q E h => ?_) (fun cdv A' outer s H vs Q E hr h => ?_)
 ·match vs, h with
  | [.str x], _ => rfl
 ·match vs, h with
  | [.str x], q =>
  have q : Q (.bl (g4y (sg x))) H := q
  have hu := hr.units
  refine ⟨_, (a0k (b7r PassesOwn.never rfl (h8i (pvF 0)) (b0w (i := 1) c9j.nd rfl (Or.inl rfl))
   (a0m (a8h (a1u g4v (pvF 1) (a9u (v := .str "0123456789") (by rfl) T.b9y T.g1x) (by rfl))
   (a0m (a1h g0n))
   a2g)))
   (a0m (a1h (f6j (c3n hu) (pvF 0) b4z (a3k _))))), ?_⟩
  walk_at "rd"
  refine g8j (fun i σ H1 => H1 = H /\ (∃ z, σ = [some (.str x), z]) /\ ((sg x).take i).all (fun c => decide (48 <= c) && decide (c <= 57)) = true) ⟨rfl, ⟨_, rfl⟩, rfl⟩ ?_ ?_
  ·rintro i c σ H1 hc ⟨rfl, ⟨z, rfl⟩, ha⟩
   walk_at "rd"
   have hc' : (sg x)[i]? = some c := by
    unfold sg
    rw [Array.getElem?_toList]
    exact hc
   rw [h3o]
   split
   ·rename_i hb
    have : g4y (sg x) = false := by
     unfold g4y
     rw [show (sg x).all (fun c => decide (48 <= c) && decide (c <= 57)) = false from ?_, Bool.false_and]
     rw [List.all_eq_false]
     exact ⟨c, List.mem_of_getElem? hc', by rw [hb]; decide⟩
    rw [this] at q
    exact q
   ·rename_i hb
    refine ⟨⟨_, rfl⟩, ?_⟩
    rw [List.take_add_one, hc', List.all_append, ha]
    simpa using hb
  ·rintro σ H1 ⟨rfl, ⟨z, rfl⟩, ha⟩
   walk_at "rd"
   have hl : x.cps.size = (sg x).length := by simp
   rw [hl, List.take_length] at ha
   have e : g4y (sg x) = !decide (x = Str.ofString "") := by
    unfold g4y
    rw [ha, Bool.true_and]
    congr 1
    rw [Bool.eq_iff_iff, decide_eq_true_eq, List.isEmpty_iff]
    exact ⟨fun h => b6n (h.trans (by decide +kernel)), fun h => by rw [h]; decide +kernel⟩
   rw [e] at q
   exact q
theorem g9f (T : Tx K mg A) : a1p P A.wd K mg base CX0 1 A.a3p A.b3j ["one"] g5r := by
 refine T.a6v.ok b3i (fun vs H Q E h => ?_) (fun cdv A' outer s H vs Q E hr h => ?_)
 ·match vs, h with
  | [.ref p], _ => rfl
 ·match vs, h with
  | [.ref p], ⟨t, b, hp, l1, l2, q⟩ =>
  have hu := hr.units
  refine ⟨_, (a0k (a1o (i := 1) b3i.nd rfl (Or.inl rfl) (a1s a6n (pvF 0) a0l (fun _ _ => rfl)))
   (a0k (a1o (i := 2) b3i.nd rfl (Or.inl rfl) (a1s a6n (pvF 0) a0l (fun _ _ => rfl)))
   (a0m (a1h (g4u (f6s (h0v (pvF 1)) (f6s b4z (f6s (h0v (pvF 2)) h8m)))))))), ?_⟩
  walk_at "rd*"
  have e0 : Str.empty.length = 0 := rfl
  have e1 : (Str.ofString "/").length = 1 := by decide +kernel
  have e2 : (Str.ofString (toString t)).length = (txt t).length := by rw [<- c3q, c9g]
  have e3 : (Str.ofString (toString b)).length = (txt b).length := by rw [<- c3q, c9g]
  have f2 := f6u t
  have f3 := f6u b
  have hs : sizeLine = 16777216 := sizeLine_eq
  simp only [strLen_append, e0, e1, e2, e3]
  refine ⟨by omega, by omega, by omega, by omega, q _ ?_⟩
  rw [a2t, a2t, a2t, c9g, c9g]
  unfold h1c
  have e4 : sg Str.empty = [] := rfl
  have e5 : sg (Str.ofString "/") = [47] := by decide +kernel
  rw [e4, e5]
  simp
theorem h4k (T : Tx K mg A) : a1p P A.wd K mg base CX0 3 A.a3q A.b3k ["text"] h1o := by
 have c4t : a1p P A.wd K mg base CX0 1 _ _ _ _ := d9r T
 have d5t : a1p P A.wd K mg base CX0 1 _ _ _ _ := g9f T
 have b2k : a1p P A.wd K mg base CX0 2 _ _ _ _ := c1u T
 refine T.a6w.ok a5u (fun vs H Q E h => ?_) (fun cdv A' outer s H vs Q E hr h => ?_)
 ·match vs, h with
  | [.str x], _ => rfl
 ·match vs, h with
  | [.str x], ⟨t, b, g, k⟩ =>
  have hu := hr.units
  have c1v : a2q 1 _ := hr.mono (by decide)
  have d2u : a2q 1 _ := hr.mono (by decide)
  have a8s : a2q 2 _ := hr.mono (by decide)
  obtain ⟨hx, hb, hg, l1, l2⟩ := g
  have hb0 : b ≠ 0 := by omega
  have tb : txt b = dg b.natAbs := if_neg (by omega)
  have sl : Str.ofString "/" = ⟨#[47]⟩ := by decide +kernel
  have mi : Str.ofString "-" = ⟨#[45]⟩ := by decide +kernel
  have sp := g8m (x := x) (c := 47) (by decide) hx (d9h (by decide) (by decide)) (d9h (by decide) (by decide))
  have hs : sizeLine = 16777216 := sizeLine_eq
  have q1 := h8u t
  have xl : x.length = (txt t).length + ((txt b).length + 1) := by rw [<- c3q, hx]; simp [h1c]
  rw [tb] at xl
  obtain ⟨h0, e0⟩ : ∃ h0 : Str, h0 = ⟨(txt t).toArray⟩ := ⟨_, rfl⟩
  obtain ⟨h1, e1⟩ : ∃ h1 : Str, h1 = ⟨(txt b).toArray⟩ := ⟨_, rfl⟩
  have s0 : sg h0 = txt t := by rw [e0]
  have s1 : sg h1 = txt b := by rw [e1]
  have n0 : h0.length = (txt t).length := by rw [<- c3q, s0]
  have n1 : h1.length = (txt b).length := by rw [<- c3q, s1]
  rw [<- e0, <- e1] at sp
  have sw := h8v s0
  have i0 := d0i s0 (by omega)
  have i1 := d0i s1 (by rw [tb] at n1; omega)
  have r0 : Rat.divInt t b = ⟨t, b.toNat, by omega, by
   show Nat.gcd t.natAbs b.toNat = 1
   rw [<- hg]
   unfold Int.gcd
   congr 1
   omega⟩ := by
   rw [Rat.mk_eq_divInt]
   congr 1
   omega
  refine ⟨_, (a0k (a8h (b8w (a7u (a1l (b3n .str) (by rfl) T.a2k boot_isinstance (a0g (pvF 0) (a0g (c0j (v := .ty "str") (u := .type "str") (by rfl) T.d2r rfl rfl) a0i)))))
   (a0m a6k)
   a2g)
   (a0k (a1o (i := 1) a5u.nd rfl (Or.inl rfl) (c8v c8u PySem.F.plainAttrs_str PySem.F.slot_str_split PySem.F.type_str_split f9m (pvF 0) (a0g b4z a0i)))
   (a0k (a8h (a1u (c3n hu) (a1l a2m (by rfl) T.b4h boot_len (a0g (pvF 1) a0i)) a0l (a3k _))
   (a0m a6k)
   a2g)
   (b5h (a1o (i := 2) a5u.nd rfl (Or.inl rfl) (d9y (a7u (c8v c8u PySem.F.plainAttrs_str PySem.F.slot_str_startswith PySem.F.type_str_startswith c8w (a1s a6n (pvF 1) a0l (fun _ _ => rfl)) (a0g b4z a0i))) (a9v g7h (a1s a6n (pvF 1) a0l (fun _ _ => rfl)) (a7y a0l) b7p) (a1s a6n (pvF 1) a0l (fun _ _ => rfl))))
   (a0k (b7r PassesOwn.never rfl (b2m (c3o (a0g (pvF 2) (a0g (a1s a6n (pvF 1) a0l (fun _ _ => rfl)) a0i)))) (b0w (i := 3) a5u.nd rfl (Or.inl rfl))
   (a0m (a8h (pw_or (b8w (a7u (a0u c4t c1v (by rfl) T.d2k T.a9m.kp T.b6p .nil a1k (a0g (pvF 3) a0i)))) (pw_or1 (a1u f6r (a1l a2m (by rfl) T.b4h boot_len (a0g (pvF 3) a0i)) (a9u (v := .int 9) (by rfl) T.a2v T.c3i) (a3k _)))).pt
   (a0m a6k)
   a2g)))
   (a0k (a8h (a1u (d2g hu) (a2i c8y (by rfl) T.d7t boot_int (a0g (a1s a6n (pvF 1) a0l (fun _ _ => rfl)) a0i)) a0l (a3k _))
   (a0m a6k)
   a2g)
   (a0k (a1o (i := 4) a5u.nd rfl (Or.inl rfl) (a0u b2k a8s (by rfl) T.c6k T.a9n.kp T.b4u .nil a1k (a0g (a2i c8y (by rfl) T.d7t boot_int (a0g (a1s a6n (pvF 1) a0l (fun _ _ => rfl)) a0i)) (a0g (a2i c8y (by rfl) T.d7t boot_int (a0g (a1s a6n (pvF 1) a0l (fun _ _ => rfl)) a0i)) a0i))))
   (a0k (a8h (a1u (c3n hu) (a0u d5t d2u (by rfl) T.d4k T.a6v.kp T.b5r .nil a1k (a0g (pvF 4) a0i)) (pvF 0) (a3k _))
   (a0m a6k)
   a2g)
   (a0m (a1h (pvF 4))))))))))), ?_⟩
  rw [sl, mi]
  have hx' : id (sg x = h1c t b) := hx
  clear e0 e1 hx sl mi
  have d1 : ((⟨#[47]⟩ : Str).length == 0) = false := rfl
  have d2 : x.length <= sizeLine := by omega
  have d3 : 2 <= sizeLine := by omega
  have d4 : h0.length <= sizeLine := by omega
  have d5 : h1.length <= sizeLine := by rw [tb] at n1; omega
  have N0 : h0.length <= 10 := by omega
  have N1 : h1.length <= 9 := by rw [tb] at n1; omega
  clear xl n0 n1 q1 hs
  walk_at "rd*"
  intro p H1 n1' S1 h1'
  walk_at "rd*"
  rw [if_neg (by decide)]
  refine ⟨fun σ' H' => ∃ top : Str, sg top = dg t.natAbs /\ σ' = [some (.str x), some (.ref p), some (.str top), none, none] /\ H' = H1, ?_, ?_⟩
  ·walk_at "rd*"
   split
   ·rename_i ht
    have z := h3p (x := h0) (i := 1) (by
     rw [<- c3q, s0]
     unfold txt
     rw [if_pos ht]
     simp)
    rw [show ((1 : Nat) : Int) = 1 from rfl] at z
    refine ⟨_, ?_, rfl⟩
    rw [z, s0]
    unfold txt
    rw [if_pos ht]
    rfl
   ·rename_i ht
    refine ⟨_, ?_, rfl⟩
    rw [s0]
    unfold txt
    rw [if_neg ht]
  ·rintro σ' H' ⟨top, st, rfl, rfl⟩
   walk_at "rd*"
   intro q H2 n2 S2 h2
   walk_at "rd*"
   have hp2 := S2 _ _ h1'
   refine ⟨⟨_, SqL.of h2⟩, ?_⟩
   have f0 : g4y (sg top) = true := by rw [st]; exact f0n.mpr ⟨c6r _, g4x _⟩
   have f1 : g4y (sg h1) = true := by rw [s1, tb]; exact f0n.mpr ⟨c6r _, g4x _⟩
   have m0 : top.length <= 9 := by rw [<- c3q, st]; exact l1
   have m1 : top.length <= sizeLine := Nat.le_trans m0 (by decide)
   refine c3m (xs := [.str top, .str h1]) (fun i σ H' => H' = H2 /\ ∃ z, σ = [some (.str x), some (.ref p), some (.str top), z, none]) ⟨rfl, _, rfl⟩ (fun i σ H' _ h => by rw [h.1]; exact SqL.of h2) ?_ ?_
   ·rintro i v σ H' hv ⟨rfl, z, rfl⟩
    match i, hv with
    | 0, hv =>
     cases hv
     walk_at "rd*"
     rw [st] at f0
     rw [f0, if_neg (by simp; omega)]
     exact ⟨_, rfl⟩
    | 1, hv =>
     cases hv
     walk_at "rd*"
     rw [s1, tb] at f1
     rw [f1, if_neg (by simp; omega)]
     exact ⟨_, rfl⟩
    | i + 2, hv => cases hv
   ·rintro σ H' ⟨rfl, z, rfl⟩
    walk_at "rd*"
    have v1 : t.natAbs < 10 ^ 9 := by
     have := h1b (c6r t.natAbs)
     rw [f9n] at this
     exact Nat.lt_of_lt_of_le this (Nat.pow_le_pow_right (by decide) l1)
    have v2 : b.natAbs < 10 ^ 9 := by
     have := h1b (c6r b.natAbs)
     rw [f9n] at this
     exact Nat.lt_of_lt_of_le this (Nat.pow_le_pow_right (by decide) l2)
    have g1 : t.natAbs.log2 < 1920 := f5i v1
    have g2 : b.natAbs.log2 < 1920 := f5i v2
    refine ⟨by omega, by omega, by omega, d9q v1, d9q v2, ?_⟩
    rw [r0]
    rintro _ H3 ⟨o, rfl, n3, S3, h3⟩
    replace h3 : H3 o = some (.tup [.int t, .int b]) := by
     rw [h3]
     unfold d0h
     show some (HO.tup [V.int t, V.int ((b.toNat : Nat) : Int)]) = _
     rw [Int.toNat_of_nonneg (by omega)]
    walk_at "rd*"
    refine ⟨t, b, ⟨rfl, rfl⟩, g1, g2, fun y hy => ?_⟩
    rw [if_neg (not_not_intro (b6n (hy.trans hx'.symm)))]
    refine k _ _ ⟨o, rfl, ?_, fun c u e => S3 _ _ (S2 _ _ (S1 _ _ e)), h3⟩
    cases e : H o with
    | none => rfl
    | some u =>
     have := S2 _ _ (S1 _ _ e)
     rw [n3] at this
     cases this
theorem g6g {x : Str} {n : Nat} (h : sg x = txt (n : Int)) : (Txt.startswith x ⟨#[48]⟩ && !decide (x = (⟨#[48]⟩ : Str))) = false := by
 have e : txt (n : Int) = dg n := if_neg (by omega)
 rw [e] at h
 rcases Nat.eq_zero_or_pos n with z | z
 ·subst z
  have : x = ⟨#[48]⟩ := b6n (by rw [h]; rfl)
  rw [this]
  simp
 ·obtain ⟨c, r, e1, e2⟩ := h3n z
  rw [h1e, h, e1]
  simp [e2]
theorem i0k (T : Tx K mg A) : a1p P A.wd K mg base CX0 2 A.b1o A.c7g ["text"] h9w := by
 have c4t : a1p P A.wd K mg base CX0 1 _ _ _ _ := d9r T
 refine T.b9p.ok f7g (fun vs H Q E h => ?_) (fun cdv A' outer s H vs Q E hr h => ?_)
 ·match vs, h with
  | [.str x], _ => rfl
 ·match vs, h with
  | [.str x], ⟨n, hx, hn, q⟩ =>
  have hu := hr.units
  have c1v : a2q 1 _ := hr.mono (by decide)
  have sl : Str.ofString "0" = ⟨#[48]⟩ := by decide +kernel
  refine ⟨_, (a0k (a8h (pw_or (b8w (a7u (a0u c4t c1v (by rfl) T.d2k T.a9m.kp T.b6p .nil a1k (a0g (pvF 0) a0i)))) (pw_or1 (a1u f6r (a1l a2m (by rfl) T.b4h boot_len (a0g (pvF 0) a0i)) (a9u (v := .int 13) (by rfl) T.a2u T.c3h) (a3k _)))).pt
   (a0m (a1h c6p))
   a2g)
   (a0k (a8h (pw_and (a7u (c8v c8u PySem.F.plainAttrs_str PySem.F.slot_str_startswith PySem.F.type_str_startswith c8w (pvF 0) (a0g b4z a0i))) (pw_and1 (a1u (c3n hu) (pvF 0) b4z (a3k _)))).pt
   (a0m (a1h c6p))
   a2g)
   (a0m (a1h (a2i c8y (by rfl) T.d7t boot_int (a0g (pvF 0) a0i)))))), ?_⟩
  rw [sl]
  walk_at "rd*"
  have e : txt (n : Int) = dg n := if_neg (by omega)
  have f : g4y (txt (n : Int)) = true := by rw [e]; exact f0n.mpr ⟨c6r _, g4x _⟩
  have lx : x.length <= 11 := by
   rw [<- c3q, hx, e]
   have a := g8v 8 n (by omega)
   omega
  have sw := g6g hx
  have hs : sizeLine = 16777216 := sizeLine_eq
  rw [f, if_neg (by decide)]
  refine ⟨by omega, ?_⟩
  rw [if_neg ?_]
  ·exact ⟨_, d0i hx (by omega), by omega, q⟩
  ·rintro (z | ⟨z1, z2⟩)
   ·omega
   ·rw [z1, Bool.true_and] at sw
    simp [z2] at sw
theorem h2g (x : Rat) : (x.den : Int) ≠ 0 := by
 have := x.den_pos
 omega
theorem f1v (x y : Rat) : (x.den : Int) * (y.den : Int) ≠ 0 := Int.mul_ne_zero (h2g x) (h2g y)
theorem h4l (T : Tx K mg A) : a1p P A.wd K mg base CX0 3 A.d3z A.f7k ["one", "other"] h1p := by
 have b2k : a1p P A.wd K mg base CX0 2 _ _ _ _ := c1u T
 refine T.f4y.ok h4g (fun vs H Q E h => ?_) (fun cdv A' outer s H vs Q E hr h => ?_)
 ·match vs, h with
  | [.ref p, .ref q], _ => rfl
 ·match vs, h with
  | [.ref p, .ref q], ⟨x, y, ⟨hp, hq, b1, b2, b3, b4⟩, k⟩ =>
  have hu := hr.units
  have a8s : a2q 2 _ := hr.mono (by decide)
  unfold d0h at hp hq
  refine ⟨_, (a0m (a1h (a0u b2k a8s (by rfl) T.c6k T.a9n.kp T.b4u .nil a1k (a0g (a1j a2l (a1j a4o (a1s a6n (pvF 0) a0l (fun _ _ => rfl)) (a1s a6n (pvF 1) a0l (fun _ _ => rfl))) (a1j a4o (a1s a6n (pvF 1) a0l (fun _ _ => rfl)) (a1s a6n (pvF 0) a0l (fun _ _ => rfl)))) (a0g (a1j a4o (a1s a6n (pvF 0) a0l (fun _ _ => rfl)) (a1s a6n (pvF 1) a0l (fun _ _ => rfl))) a0i))))), ?_⟩
  walk_at "rd*"
  refine ⟨by walk_at "mul", by walk_at "mul", by walk_at "mul", f1v x y, by walk_at "le", by walk_at "le", ?_⟩
  rw [g0c]
  exact k
theorem h4m (T : Tx K mg A) : a1p P A.wd K mg base CX0 3 A.c7i A.f0z ["one", "other"] h1q := by
 have b2k : a1p P A.wd K mg base CX0 2 _ _ _ _ := c1u T
 refine T.d4j.ok g8y (fun vs H Q E h => ?_) (fun cdv A' outer s H vs Q E hr h => ?_)
 ·match vs, h with
  | [.ref p, .ref q], _ => rfl
 ·match vs, h with
  | [.ref p, .ref q], ⟨x, y, ⟨hp, hq, b1, b2, b3, b4⟩, k⟩ =>
  have hu := hr.units
  have a8s : a2q 2 _ := hr.mono (by decide)
  unfold d0h at hp hq
  refine ⟨_, (a0m (a1h (a0u b2k a8s (by rfl) T.c6k T.a9n.kp T.b4u .nil a1k (a0g (a1j a4o (a1s a6n (pvF 0) a0l (fun _ _ => rfl)) (a1s a6n (pvF 1) a0l (fun _ _ => rfl))) (a0g (a1j a4o (a1s a6n (pvF 0) a0l (fun _ _ => rfl)) (a1s a6n (pvF 1) a0l (fun _ _ => rfl))) a0i))))), ?_⟩
  walk_at "rd*"
  refine ⟨by walk_at "mul", by walk_at "mul", f1v x y, by walk_at "le", by walk_at "le", ?_⟩
  rw [f5h]
  exact k
theorem g6h (T : Tx K mg A) : a1p P A.wd K mg base CX0 1 A.b5m A.d0m ["one"] h1r := by
 refine T.b9q.ok g1l (fun vs H Q E h => ?_) (fun cdv A' outer s H vs Q E hr h => ?_)
 ·match vs, h with
  | [.ref p], _ => rfl
 ·match vs, h with
  | [.ref p], ⟨x, hp, k⟩ =>
  have hu := hr.units
  unfold d0h at hp
  refine ⟨_, (a0m (a1h (a9w (a0g (a1l b5g (by rfl) T.d4v boot_abs (a0g (a1s a6n (pvF 0) a0l (fun _ _ => rfl)) a0i)) (a0g (a1s a6n (pvF 0) a0l (fun _ _ => rfl)) a0i))))), ?_⟩
  walk_at "rd*"
  intro b H1 n1 S1 h1
  refine k _ _ ⟨b, rfl, n1, S1, ?_⟩
  rw [h1]
  unfold d0h
  rw [f1r, f1s]
theorem g6i {x y : Rat} {a b c d : Nat} (h1 : intBits x.num <= a) (h2 : intBits (x.den : Int) <= b) (h3 : intBits y.num <= c) (h4 : intBits (y.den : Int) <= d) : intBits (x * y).num <= a + c /\ intBits ((x * y).den : Int) <= b + d := by
 rw [<- f5h]
 have ne : (x.den : Int) * (y.den : Int) ≠ 0 := f1v x y
 exact ⟨f1t ne (intBits_mul_le h1 h3), f1u ne (intBits_mul_le h2 h4)⟩
theorem g2c {x y : Rat} {a : Nat} (h1 : intBits x.num <= a) (h2 : intBits (x.den : Int) <= a) (h3 : intBits y.num <= a) (h4 : intBits (y.den : Int) <= a) : intBits (x + y).num <= a + a + 1 /\ intBits ((x + y).den : Int) <= a + a := by
 rw [<- g0c]
 have ne : (x.den : Int) * (y.den : Int) ≠ 0 := f1v x y
 refine ⟨f1t ne ?_, f1u ne (intBits_mul_le h2 h4)⟩
 have := intBits_add_le (intBits_mul_le h1 h4) (intBits_mul_le h3 h2)
 omega
theorem g9g {x : Rat} {a : Nat} (h : intBits x.num <= a) : intBits (Rat.abs x).num <= a := by
 rw [f1r]
 exact intBits_natAbs_le h
theorem f1w (ns ms : List Int) : (g7j ns ms).length = max ns.length ms.length := by unfold g7j; simp
theorem g0d {ns ms : List Int} {i : Nat} (h : i < max ns.length ms.length) : (g7j ns ms).getD i 0 = ns.getD i 0 + ms.getD i 0 := by
 unfold g7j
 rw [List.getD_eq_getElem?_getD, List.getElem?_map, List.getElem?_range h]
 rfl
theorem h4n (ns ms : List Int) : i2w ns ms = g7j ns ms := by
 apply List.ext_getElem?
 intro i
 unfold i2w g7j
 rw [List.getElem?_map]
 by_cases h1 : i < min ns.length ms.length
 ·rw [List.append_assoc, List.getElem?_append_left (by simp; omega), List.getElem?_map, List.getElem?_range h1, List.getElem?_range (by omega)]
 ·rw [List.append_assoc, List.getElem?_append_right (by simp; omega), List.length_map, List.length_range]
  by_cases h2 : i < max ns.length ms.length
  ·rw [List.getElem?_range h2]
   show _ = some (ns.getD i 0 + ms.getD i 0)
   by_cases h3 : ns.length <= ms.length
   ·rw [Nat.min_eq_left h3, List.drop_of_length_le (Nat.le_refl _), List.nil_append, List.getElem?_drop, List.getD_eq_getElem?_getD, List.getD_eq_getElem?_getD, List.getElem?_eq_none (l := ns) (by omega), show ns.length + (i - ns.length) = i by omega, List.getElem?_eq_getElem (by omega)]
    simp
   ·rw [Nat.min_eq_right (by omega), List.drop_of_length_le (l := ms) (Nat.le_refl _), List.append_nil, List.getElem?_drop, List.getD_eq_getElem?_getD, List.getD_eq_getElem?_getD, List.getElem?_eq_none (l := ms) (by omega), show ms.length + (i - ms.length) = i by omega, List.getElem?_eq_getElem (by omega)]
    simp
  ·rw [List.getElem?_eq_none (by simp; omega), List.getElem?_eq_none (by simp; omega)]
   rfl
theorem g0e (T : Tx K mg A) : a1p P A.wd K mg base CX0 1 A.a6r A.c0n ["one", "other"] h9x := by
 refine T.a9o.ok c0k (fun vs H Q E h => ?_) (fun cdv A' outer s H vs Q E hr h => ?_)
 ·match vs, h with
  | [.ref p, .ref q], _ => rfl
 ·match vs, h with
  | [.ref p, .ref q], ⟨ns, ms, hp, hq, hl1, hl2, k⟩ =>
  have hu := hr.units
  refine ⟨_, (a0k (a1o (i := 2) c0k.nd rfl (Or.inl rfl) (a1l (g4p rfl) (by rfl) T.g5p boot_min (a0g (a1l a2m (by rfl) T.b4h boot_len (a0g (pvF 0) a0i)) (a0g (a1l a2m (by rfl) T.b4h boot_len (a0g (pvF 1) a0i)) a0i))))
   (a0k (f0l (i := 3) c0k.nd rfl rfl (b8y (by rfl) T.b8p (a0g (pvF 2) a0i)) (fun _ _ _ _ _ => (a1j a2l (a1s a6n (pvF 1) (pvF 0) (fun _ _ => rfl)) (a1s a6n (pvF 2) (pvF 0) (fun _ _ => rfl)))) (d7l (sc := a0h a6o) (N := ["one", "other", "shared", "both"]) rfl rfl (by decide +kernel)) rfl)
   (a0m (a1h (a1j a2l (a1j a2l (pvF 3) (a9v g7h (pvF 0) (a7y (pvF 2)) b7p)) (a9v g7h (pvF 1) (a7y (pvF 2)) b7p)))))), ?_⟩
  walk_at "rd*"
  refine ⟨by omega, by omega, fun D H2 n2 S2 h2 => ?_⟩
  have hmn : (min (ns.length : Int) (ms.length : Int)).toNat = min ns.length ms.length := by omega
  rw [hmn]
  refine d0g (fun i => .int (ns.getD i 0 + ms.getD i 0)) n2 S2 h2 (by rw [sizeLine_eq]; omega) ?_ ?_
  ·intro i H' Q' hi S' q'
   have hp' := S' _ _ hp
   have hq' := S' _ _ hq
   have e1 := f4g (ns := ns) (i := i) (by omega)
   have e2 := f4g (ns := ms) (i := i) (by omega)
   walk_at "rd*"
  intro H3 S3 h3
  have e3 : (List.range (min ns.length ms.length)).map (fun i => V.int (ns.getD i 0 + ms.getD i 0)) = ((List.range (min ns.length ms.length)).map fun i => ns.getD i 0 + ms.getD i 0).map V.int := by
   rw [List.map_map]
   rfl
  rw [e3] at h3
  have hp3 := S3 _ _ hp
  have hq3 := S3 _ _ hq
  walk_at "rd*"
  intro c H4 n4 S4 h4
  rw [show min (ns.length : Int) (ms.length : Int) = ((min ns.length ms.length : Nat) : Int) by omega, b9g, b2t] at h4
  have h34 := S4 _ _ h3
  walk_at "rd*"
  refine ⟨by rw [sizeLine_eq]; simp; omega, fun d H5 n5 S5 h5 => ?_⟩
  have hq5 := S5 _ _ (S4 _ _ hq3)
  walk_at "rd*"
  intro e H6 n6 S6 h6
  rw [show min (ns.length : Int) (ms.length : Int) = ((min ns.length ms.length : Nat) : Int) by omega, b9g, b2t] at h6
  have h56 := S6 _ _ h5
  walk_at "rd*"
  refine ⟨by rw [sizeLine_eq]; simp; omega, fun f H7 n7 S7 h7 => ?_⟩
  have S07 : Same H H6 := S3.trans (S4.trans (S5.trans S6))
  refine k _ _ ⟨f, rfl, S07.free n7, S07.trans S7, ?_⟩
  rw [h7, <- h4n]
  unfold i2w
  simp only [List.map_append]
theorem c6o (ns : List Int) (b : Int) (i : Nat) : (ns.map (· * b)).getD i 0 = ns.getD i 0 * b := by
 rw [List.getD_eq_getElem?_getD, List.getD_eq_getElem?_getD, List.getElem?_map]
 cases ns[i]? with
 | none => exact (Int.zero_mul b).symm
 | some x => rfl
theorem f1y (T : Tx K mg A) : a1p P A.wd K mg base CX0 1 A.a8l A.c3t ["row", "by"] g5s := by
 refine T.a6y.ok f4r (fun vs H Q E h => ?_) (fun cdv A' outer s H vs Q E hr h => ?_)
 ·match vs, h with
  | [.ref p, .int b], _ => rfl
 ·match vs, h with
  | [.ref p, .int b], ⟨ns, hp, hb, hl, k⟩ =>
  have hu := hr.units
  refine ⟨_, (a0m (a1h (c9z (b2m (pvF 0)) (fun _ _ _ _ _ => (a1j a4o (pvF 0) (pvF 2))) (d7l (sc := a0h a8j) (N := ["row", "by"]) rfl rfl (by decide +kernel)) rfl))), ?_⟩
  walk_at "rd"
  refine ⟨⟨_, SqL.of hp⟩, fun D H2 n2 S2 h2 => ?_⟩
  refine f3w (fun v => match v with | .int c => .int (c * b) | v => v) n2 S2 h2 (SqL.of hp) (by rw [List.length_map, sizeLine_eq]; omega) ?_ ?_
  ·intro i x H' Q' hx S' q'
   rw [List.getElem?_map] at hx
   obtain ⟨c, hc, rfl⟩ := Option.map_eq_some_iff.mp hx
   walk_at "rd"
   exact ⟨hb c (List.mem_of_getElem? hc), q'⟩
  intro H3 S3 h3
  refine k _ _ ⟨D, rfl, n2, S3, ?_⟩
  rw [h3, List.map_map, List.map_map]
  rfl
theorem b2s (ns : List Int) (st n : Nat) : (f6g ns st n).length = ns.length - st := by unfold f6g; simp
theorem c9s {ns : List Int} {st n i : Nat} (h : i < ns.length - st) : (f6g ns st n).getD i 0 = if n <= st + i then ns.getD (st + i - n) 0 else 0 := by
 unfold f6g
 rw [List.getD_eq_getElem?_getD, List.getElem?_map, List.getElem?_range h]
 rfl
theorem g0f {ns : List Int} {st n : Nat} {x : Int} (h : x ∈ f6g ns st n) : x ∈ ns \/ x = 0 := by
 unfold f6g at h
 obtain ⟨i, hi, rfl⟩ := List.mem_map.mp h
 split
 ·by_cases h2 : st + i - n < ns.length
  ·exact .inl (getD_mem h2)
  ·rw [List.getD_eq_getElem?_getD, List.getElem?_eq_none (by omega)]
   exact .inr rfl
 ·exact .inr rfl
theorem d1j (T : Tx K mg A) : a1p P A.wd K mg base CX0 1 A.b5n A.d0n ["known", "start", "many"] f5g := by
 refine T.b5t.ok g1m (fun vs H Q E h => ?_) (fun cdv A' outer s H vs Q E hr h => ?_)
 ·match vs, h with
  | [.ref k, .int st, .int n], _ => rfl
 ·match vs, h with
  | [.ref k, .int st, .int n], ⟨ns, s, m, hk, e1, e2, hs, hl, q⟩ =>
  subst e1 e2
  have hu := hr.units
  refine ⟨_, (a0m (a1h (c9z (g0z (by rfl) T.b8p (a0g (pvF 1) (a0g (a1l a2m (by rfl) T.b4h boot_len (a0g (pvF 0) a0i)) a0i))) (fun _ _ _ _ _ => (d9y (a1u i2c (pvF 0) (pvF 3) (a3k _)) (a1s a6n (pvF 1) (a1j d3r (pvF 0) (pvF 3)) (fun _ _ => rfl)) a0l)) (d7l (sc := a0h b5k) (N := ["known", "start", "many"]) rfl rfl (by decide +kernel)) rfl))), ?_⟩
  walk_at "rd*"
  refine ⟨by omega, fun D H2 n2 S2 h2 => ?_⟩
  have hmn : ((ns.length : Int) - (s : Int)).toNat = ns.length - s := by omega
  rw [hmn]
  refine d0g (fun i => .int (if m <= s + i then ns.getD (s + i - m) 0 else 0)) n2 S2 h2 (by rw [sizeLine_eq]; omega) ?_ ?_
  ·intro i H' Q' hi S' q'
   have hk' := S' _ _ hk
   walk_at "rd*"
   split
   ·rename_i h
    rw [if_pos (by omega)] at q'
    refine ⟨_, ?_, q'⟩
    rw [show (s : Int) + (i : Int) - (m : Int) = ((s + i - m : Nat) : Int) by omega]
    exact f4g (by omega)
   ·rename_i h
    rw [if_neg (by omega)] at q'
    exact q'
  intro H3 S3 h3
  refine q _ _ ⟨D, rfl, n2, S3, ?_⟩
  rw [h3]
  unfold f6g
  rw [List.map_map]
  rfl
theorem f7q (T : Tx K mg A) : a1p P A.wd K mg base CX0 1 A.b5o A.d0o ["known", "many"] h1s := by
 refine T.b5u.ok g1n (fun vs H Q E h => ?_) (fun cdv A' outer s H vs Q E hr h => ?_)
 ·match vs, h with
  | [.ref k, .int n], _ => rfl
 ·match vs, h with
  | [.ref k, .int n], ⟨ns, m, hk, e1, hl, q⟩ =>
  subst e1
  have hu := hr.units
  refine ⟨_, (a0m (a1h (a2i f4j (by rfl) T.c7v boot_tuple (a0g (a9v g7h (pvF 0) (a7y (a1l (g4q rfl) (by rfl) T.g5o boot_max (a0g a0l (a0g (a1j d3r (a1l a2m (by rfl) T.b4h boot_len (a0g (pvF 0) a0i)) (pvF 1)) a0i)))) b7p) a0i)))), ?_⟩
  walk_at "rd*"
  intro l H1 n1 S1 h1
  rw [show max 0 ((ns.length : Int) - (m : Int)) = ((ns.length - m : Nat) : Int) by omega, b9g, b2t] at h1
  walk_at "rd*"
  intro t H2 n2 S2 h2
  exact q _ _ ⟨t, rfl, S1.free n2, S1.trans S2, h2⟩
theorem d3h (n : Int) (m : Nat) : (g5t n m).length = m + 1 := by unfold g5t; simp
theorem f1z {n : Int} {m i : Nat} (h : i < m + 1) : (g5t n m).getD i 0 = n ^ i := by
 unfold g5t
 rw [List.getD_eq_getElem?_getD, List.getElem?_map, List.getElem?_range h]
 rfl
theorem a8g {n : Int} (h : intBits n <= 10) : ∀ j : Nat, intBits (n ^ j) <= 1 + 10 * j
 | 0 => by rw [Int.pow_zero]; decide
 | j + 1 => by
  rw [Int.pow_succ]
  exact Nat.le_trans (intBits_mul_le (a8g h j) h) (by omega)
theorem i0l (T : Tx K mg A) : a1p P A.wd K mg base CX0 1 A.a8m A.c3v ["number", "most"] h9y := by
 refine T.b1y.ok c3r (fun vs H Q E h => ?_) (fun cdv A' outer s H vs Q E hr h => ?_)
 ·match vs, h with
  | [.int n, .int t], _ => rfl
 ·match vs, h with
  | [.int n, .int t], ⟨m, e, hm, hb, k⟩ =>
  subst e
  have hu := hr.units
  refine ⟨_, (a0k (a1o (i := 2) c3r.nd rfl (Or.inl rfl) (c3o (a0g a0l a0i)))
   (a0k (b7r PassesOwn.never rfl (b8y (by rfl) T.b8p (a0g (pvF 1) a0i)) (b0w (i := 3) c3r.nd rfl (Or.inl rfl))
   (a0m (c3j (c8v c8t PySem.F.plainAttrs_list PySem.F.slot_list_append PySem.F.type_list_append c6h (pvF 2) (a0g (a1j a4o (a1s a6n (pvF 2) (pvF 3) (fun _ _ => rfl)) (pvF 0)) a0i)))))
   (a0m (a1h (pvF 2))))), ?_⟩
  walk_at "rd"
  refine ⟨by decide, ?_⟩
  intro l H1 n1 S1 h1
  walk_at "rd*"
  refine ⟨by omega, by omega, ?_⟩
  rw [Int.toNat_natCast]
  obtain ⟨Pv, pin, pout⟩ := f0m (fun i σ H' => ∃ v3 : Option V, σ = [some (.int n), some (.int m), some (.ref l), v3] /\ Same H H' /\ H' l = some (.lst ((g5t n i).map V.int)))
  refine d8y (lo := 0) Pv (pin _ _ _ ⟨_, rfl, S1, by rw [h1]; show _ = some (HO.lst [V.int (n ^ 0)]); rw [Int.pow_zero]⟩) ?_ ?_
  ·intro i σ H2 hi hp
   obtain ⟨v3, rfl, S2, h2⟩ := pout _ _ _ hp
   have e1 := f4g (ns := g5t n i) (i := i) (by rw [d3h]; omega)
   rw [f1z (by omega)] at e1
   have pl := d3h n i
   clear h1 hp
   walk_at "rd*"
   refine ⟨IntMulOk.of_right (Nat.le_trans hb (by decide)), by rw [sizeLine_eq]; omega, ?_⟩
   rintro _ H3 ⟨rfl, B3, h3⟩
   refine pin _ _ _ ⟨_, rfl, S2.step n1 B3, ?_⟩
   rw [h3]
   unfold g5t
   rw [List.range_succ (n := i + 1), List.map_append, List.map_append]
   show _ = some (HO.lst (_ ++ [V.int (n ^ (i + 1))]))
   rw [Int.pow_succ]
  ·intro σ H2 hp
   obtain ⟨v3, rfl, S2, h2⟩ := pout _ _ _ hp
   walk_at "rd"
   exact k _ _ ⟨l, rfl, n1, S2, h2⟩
theorem f2g (p q : Int) (t : Nat) : (d8i p q t).length = t + 1 := by unfold d8i; simp
theorem g9h {p q : Int} {t i : Nat} (h : i < t + 1) : (d8i p q t).getD i 0 = g7k p q t i := by
 unfold d8i
 rw [List.getD_eq_getElem?_getD, List.getElem?_map, List.getElem?_range h]
 rfl
theorem IsE.same {C : Addr} {H H' : Hp} {o : Addr} {p q : Int} {n t : Nat} (h : IsE C H o p q n t) (S : Same H H') : IsE C H' o p q n t := by
 obtain ⟨dx, gt, fa, h1, h2, h3⟩ := h
 exact ⟨dx, gt, fa, S _ _ h1, S _ _ h2, S _ _ h3⟩
theorem g9i (T : Tx K mg A) : a1p P A.wd K mg base CX0 2 A.a6t A.c3w ["self", "gain", "many", "turns"] (g5u A.a1r) := by
 have d5u : a1p P A.wd K mg base CX0 1 _ _ _ _ := i0l T
 have a2h := T.a2h
 have a0s := T.a0s
 have a0t := T.a0t
 have a0o := T.a0o
 have a0n := T.a0n
 have a0j := T.a0j
 refine T.c1h.ok c3s (fun vs H Q E h => ?_) (fun cdv A' outer s H vs Q E hr h => ?_)
 ·match vs, h with
  | [.ref o, .ref gt, .int n, .int t], _ => rfl
 ·match vs, h with
  | [.ref o, .ref gt, .int n, .int t], ⟨dx, m, tt, p, q, e1, e2, ht, bp, bq, hg, ho, k⟩ =>
  subst e1 e2
  have hu := hr.units
  have d2o : a2q 1 _ := hr.mono (by decide)
  have gto : gt ≠ o := fun e => by rw [e, ho] at hg; cases hg
  refine ⟨_, (a0k (b3h (pvF 0) (pvF 1) rfl)
   (a0k (b3h (pvF 0) (pvF 2) rfl)
   (a0k (b3h (pvF 0) (pvF 3) rfl)
   (a0k (a1o (i := 4) c3s.nd rfl (Or.inr rfl) (a0u d5u d2o (by rfl) T.d4o T.b1y.kp T.c1g .nil a1k (a0g (a1s a6n (pvF 1) a0l (fun _ _ => rfl)) (a0g (pvF 3) a0i))))
   (a0k (a1o (i := 5) c3s.nd rfl (Or.inr rfl) (a0u d5u d2o (by rfl) T.d4o T.b1y.kp T.c1g .nil a1k (a0g (a1s a6n (pvF 1) a0l (fun _ _ => rfl)) (a0g (pvF 3) a0i))))
   (a0k (b3h (pvF 0) (a2i f4j (by rfl) T.c7v boot_tuple (a0g (c9z (b8y (by rfl) T.b8p (a0g (a1j a2l (pvF 3) a0l) a0i)) (fun _ _ _ _ _ => (a1j a4o (a1s a6n (pvF 5) (pvF 0) (fun _ _ => rfl)) (a1s a6n (pvF 6) (a1j d3r (pvF 4) (pvF 0)) (fun _ _ => rfl)))) (d7l (sc := a0h a8k) (N := ["self", "gain", "many", "turns", "tops", "bottoms"]) rfl rfl (by decide +kernel)) rfl) a0i)) rfl)
   (a0m (b3h (pvF 0) (a1s a6n (pvF 5) (pvF 3) (fun _ _ => rfl)) rfl)))))))), ?_⟩
  walk_at "rd*"
  intro H1 B1 h1
  walk_at "rd*"
  intro H2 B2 h2
  walk_at "rd*"
  intro H3 B3 h3
  have hg3 := B3 _ _ gto (B2 _ _ gto (B1 _ _ gto hg))
  walk_at "rd*"
  refine ⟨tt, rfl, ht, ?_⟩
  rintro _ H4 ⟨l4, rfl, n4, S4, h4⟩
  have hg4 := S4 _ _ hg3
  walk_at "rd*"
  refine ⟨tt, rfl, ht, ?_⟩
  rintro _ H5 ⟨l5, rfl, n5, S5, h5⟩
  have h45 := S5 _ _ h4
  have h35 := S5 _ _ (S4 _ _ h3)
  have pl1 := d3h p tt
  have pl2 := d3h q tt
  clear h4 hg4 hg3
  walk_at "rd*"
  refine ⟨by omega, by omega, fun D H6 n6 S6 h6 => ?_⟩
  rw [show ((tt : Int) + 1).toNat = tt + 1 by omega]
  refine d0g (fun i => .int (g7k p q tt i)) n6 S6 h6 (by rw [sizeLine_eq]; omega) ?_ ?_
  ·intro i H' Q' hi S' q'
   have h4' := S' _ _ h45
   have h5' := S' _ _ h5
   have e1 := f4g (ns := g5t p tt) (i := i) (by omega)
   have e2 := f4g (ns := g5t q tt) (i := tt - i) (by omega)
   rw [f1z (by omega)] at e1 e2
   rw [show ((tt - i : Nat) : Int) = (tt : Int) - (i : Int) by omega] at e2
   clear h45 h35 h5 hg ho h1 h2 h3 pl1 pl2
   walk_at "rd*"
   exact ⟨IntMulOk.of_le (a8g bp i) (a8g bq (tt - i)) (by omega), q'⟩
  intro H7 S7 h7
  have e7 : (List.range (tt + 1)).map (fun i => V.int (g7k p q tt i)) = (d8i p q tt).map V.int := by
   unfold d8i
   rw [List.map_map]
   rfl
  rw [e7] at h7
  walk_at "rd*"
  intro fa H8 n8 S8 h8
  have h38 := S8 _ _ (S7 _ _ h35)
  have h58 := S8 _ _ (S7 _ _ h5)
  have e2 := f4g (ns := g5t q tt) (i := tt) (by omega)
  rw [f1z (by omega)] at e2
  clear h45 h35 h5 h7 e7
  walk_at "rd*"
  intro H9 B9 h9
  have l5o : l5 ≠ o := fun e => by
   rw [e, h38] at h58
   cases h58
  have h59 := B9 _ _ l5o h58
  clear h38 h58
  walk_at "rd*"
  intro H10 B10 h10
  have S38 : Same H3 H8 := S4.trans (S5.trans (S7.trans S8))
  have fao : fa ≠ o := fun e => by
   have := S38 _ _ h3
   rw [e] at h8
   rw [h8] at this
   cases this
  refine k fa H10 (fun b u hb e => B10 _ _ hb (B9 _ _ hb (S38 _ _ (B3 _ _ hb (B2 _ _ hb (B1 _ _ hb e)))))) ?_ h10 (B10 _ _ fao (B9 _ _ fao h8))
  cases hn : H fa with
  | none => rfl
  | some u =>
   exfalso
   have := (S4.trans (S5.trans S7)) _ _ (B3 _ _ fao (B2 _ _ fao (B1 _ _ fao hn)))
   rw [this] at n8
   cases n8
theorem g6j (T : Tx K mg A) : a1p P A.wd K mg base CX0 1 A.a3y A.b3p ["self"] (f9v A.a1r) := by
 have a2h := T.a2h
 have a0s := T.a0s
 have a0t := T.a0t
 have a0o := T.a0o
 have a0n := T.a0n
 have a0j := T.a0j
 refine T.b6z.ok f0u (fun vs H Q E h => ?_) (fun cdv A' outer s H vs Q E hr h => ?_)
 ·match vs, h with
  | [.ref o], _ => rfl
 ·match vs, h with
  | [.ref o], ⟨p, q, n, t, ⟨dx, gt, fa, ho, hg, hf⟩, k⟩ =>
  have hu := hr.units
  unfold ecF at ho
  refine ⟨_, (a0m (a1h (a2n (pvF 0) rfl))), ?_⟩
  walk_at "rd*"
theorem g6k (T : Tx K mg A) : a1p P A.wd K mg base CX0 1 A.a3z A.b3q ["self"] (f9w A.a1r) := by
 have a2h := T.a2h
 have a0s := T.a0s
 have a0t := T.a0t
 have a0o := T.a0o
 have a0n := T.a0n
 have a0j := T.a0j
 refine T.b2y.ok c9k (fun vs H Q E h => ?_) (fun cdv A' outer s H vs Q E hr h => ?_)
 ·match vs, h with
  | [.ref o], _ => rfl
 ·match vs, h with
  | [.ref o], ⟨p, q, n, t, ⟨dx, gt, fa, ho, hg, hf⟩, hn, k⟩ =>
  have hu := hr.units
  unfold ecF at ho
  refine ⟨_, (a0m (a1h (a1j a4o (a2n (pvF 0) rfl) (a2n (pvF 0) rfl)))), ?_⟩
  walk_at "rd*"
  exact ⟨IntMulOk.of_left (intBits_le_64 (by omega) (by omega)), by rw [<- Int.natCast_mul]; exact k⟩
theorem f7r (kn : List Int) (st n : Nat) (p q : Int) (t : Nat) : ∀ j, (g7l kn st n p q t j).length <= kn.length - st
 | 0 => Nat.zero_le _
 | j + 1 => by
  have := f7r kn st n p q t j
  rw [g7l, f1w, List.length_map, b2s]
  omega
theorem g9j (kn : List Int) (st n : Nat) (p q : Int) (t j : Nat) : (g7l kn st n p q t (j + 1)).length = kn.length - st := by
 have := f7r kn st n p q t j
 rw [g7l, f1w, List.length_map, b2s]
 omega
theorem f5j {p q : Int} (bp : intBits p <= 10) (bq : intBits q <= 10) {t j : Nat} (ht : t <= 16) (hj : j <= t) : intBits (g7k p q t j) <= 170 :=
 Nat.le_trans (intBits_mul_le (a8g bp j) (a8g bq (t - j))) (by omega)
theorem h4o (T : Tx K mg A) : a1p P A.wd K mg base CX0 2 A.a2z A.b0i ["self", "state", "tops", "bottom"] (h1t A.a1r) := by
 have c4u : a1p P A.wd K mg base CX0 1 _ _ _ _ := d1j T
 have c4v : a1p P A.wd K mg base CX0 1 _ _ _ _ := f7q T
 have c4w : a1p P A.wd K mg base CX0 1 _ _ _ _ := g0e T
 have b2l : a1p P A.wd K mg base CX0 1 _ _ _ _ := f1y T
 have c4y : a1p P A.wd K mg base CX0 1 _ _ _ _ := g6k T
 have a2h := T.a2h
 have a0s := T.a0s
 have a0t := T.a0t
 have a0o := T.a0o
 have a0n := T.a0n
 have a0j := T.a0j
 refine T.b2p.ok a4t (fun vs H Q E h => ?_) (fun cdv A' outer s H vs Q E hr h => ?_)
 ·match vs, h with
  | [.ref o, .ref st, .ref x, .int _], _ => rfl
 ·match vs, h with
  | [.ref o, .ref st, .ref x, .int bt], ⟨p, q, n, t, zs, xs, is, hz, hx, lz, lx, hn, ht, bp, bq, by0, k⟩ =>
  have hu := hr.units
  have c0g : a2q 1 _ := hr.mono (by decide)
  have c0h : a2q 1 _ := hr.mono (by decide)
  have c1w : a2q 1 _ := hr.mono (by decide)
  have a9t : a2q 1 _ := hr.mono (by decide)
  have c1y : a2q 1 _ := hr.mono (by decide)
  have is0 := is
  obtain ⟨dx, gt, fa, ho, hg, hf⟩ := is
  unfold ecF at ho
  refine ⟨_, (a0k (a1o (i := 4) a4t.nd rfl (Or.inl rfl) (a1j a2l (a2i a8u (by rfl) T.b6g boot_list (a0g (pvF 1) a0i)) (pvF 2)))
   (a0k (a1o (i := 5) a4t.nd rfl (Or.inl rfl) (c3o a0i))
   (a0k (b7r PassesOwn.never rfl (b8y (by rfl) T.b8p (a0g (a1j a2l (a2n (pvF 0) rfl) a0l) a0i)) (b0w (i := 6) a4t.nd rfl (Or.inl rfl))
   (a0k (a1o (i := 7) a4t.nd rfl (Or.inl rfl) (a0u c4u c0g (by rfl) T.d4m T.b5t.kp T.c4k .nil a1k (a0g (pvF 4) (a0g (a1l a2m (by rfl) T.b4h boot_len (a0g (pvF 1) a0i)) (a0g (a1j a4o (pvF 6) (a2n (pvF 0) rfl)) a0i)))))
   (a0m (a1o (i := 5) a4t.nd rfl (Or.inl rfl) (a0u c4w c1w (by rfl) T.d2l T.a9o.kp T.b6q .nil a1k (a0g (pvF 5) (a0g (a0u b2l a9t (by rfl) T.c0u T.a6y.kp T.b1w .nil a1k (a0g (pvF 7) (a0g (a1s a6n (a2n (pvF 0) rfl) (pvF 6) (fun _ _ => rfl)) a0i))) a0i)))))))
   (a0m (a1h (a9w (a0g (pvF 5) (a0g (a0u c4v c0h (by rfl) T.d4n T.b5u.kp T.c4l .nil a1k (a0g (pvF 4) (a0g (a1t (pvF 0) T.a2h T.c9q c4y c1y T.b7h .nil a1k) a0i))) a0i)))))))), ?_⟩
  walk_at "rd*"
  intro l1 H1 n1 S1 h1
  have hx1 := S1 _ _ hx
  walk_at "rd*"
  refine ⟨by rw [sizeLine_eq]; omega, ?_⟩
  intro kn H2 n2 S2 h2
  rw [<- List.map_append] at h2
  have S02 : Same H H2 := S1.trans S2
  clear h1 hx1
  walk_at "rd*"
  refine ⟨Nat.zero_le _, ?_⟩
  intro o0 H3 n3 S3 h3
  have S03 := S02.trans S3
  have h23 := S3 _ _ h2
  have ho3 := S03 _ _ ho
  clear h2
  walk_at "rd*"
  refine ⟨by omega, by omega, ?_⟩
  rw [show ((t : Int) + 1).toNat = t + 1 by omega]
  obtain ⟨Pv, pin, pout⟩ := f0m (fun j σ H' => ∃ (ou : Addr) (v6 v7 : Option V), σ = [some (.ref o), some (.ref st), some (.ref x), some (.int bt), some (.ref kn), some (.ref ou), v6, v7] /\ Same H2 H' /\ H' kn = some (.lst ((zs ++ xs).map V.int)) /\ H2 ou = none /\ H' ou = some (.lst ((g7l (zs ++ xs) zs.length n p q t j).map V.int)))
  refine d8y (lo := 0) Pv (pin _ _ _ ⟨o0, _, _, rfl, S3, h23, n3, h3⟩) ?_ ?_
  ·intro j σ H4 hj hp
   obtain ⟨ou, v6, v7, rfl, S4, hk4, nou, hou⟩ := pout _ _ _ hp
   have S04 := S02.trans S4
   have ho4 := S04 _ _ ho
   have hz4 := S04 _ _ hz
   have hf4 := S04 _ _ hf
   have e1 := f4g (ns := d8i p q t) (i := j) (by rw [f2g]; omega)
   rw [g9h (by omega)] at e1
   have fb := f5j bp bq (t := t) (j := j) ht (by omega)
   clear h23 ho3 h3 hp ho hz hf hx hg
   walk_at "rd*"
   refine ⟨IntMulOk.of_left (intBits_le_64 (by omega) (by omega)), zs ++ xs, rfl, zs.length, rfl, j * n, (Int.natCast_mul j n).symm, by simp, by simp; omega, ?_⟩
   rintro _ H5 ⟨hd, rfl, n5, S5, h5⟩
   have ho5 := S5 _ _ ho4
   have hf5 := S5 _ _ hf4
   have dl := b2s (zs ++ xs) zs.length (j * n)
   clear ho4 hf4 hz4
   walk_at "rd*"
   refine ⟨_, rfl, ?_, by rw [dl]; simp; omega, ?_⟩
   ·intro y hy
    rcases g0f hy with h | h
    ·exact IntMulOk.of_le (by0 y h) fb (by decide)
    ·rw [h]; exact IntMulOk.of_left (by decide)
   rintro _ H6 ⟨l6, rfl, n6, S6, h6⟩
   have hou6 := S6 _ _ (S5 _ _ hou)
   have el := f7r (zs ++ xs) zs.length n p q t j
   rw [List.length_append] at el
   walk_at "rd*"
   refine ⟨_, rfl, _, rfl, by omega, by rw [List.length_map, dl]; simp; omega, ?_⟩
   rintro _ H7 ⟨ou', rfl, n7, S7, h7⟩
   have S47 := S5.trans (S6.trans S7)
   exact pin _ _ _ ⟨ou', _, _, rfl, S4.trans S47, S47 _ _ hk4, (S4.trans (S5.trans S6)).free n7, h7⟩
  ·intro σ H4 hp
   obtain ⟨ou, v6, v7, rfl, S4, hk4, nou, hou⟩ := pout _ _ _ hp
   have S04 := S02.trans S4
   have ho4 := S04 _ _ ho
   have is4 := is0.same S04
   clear h23 ho3 h3 hp ho hz hf hx hg is0
   walk_at "rd*"
   refine ⟨p, q, n, t, is4, hn, zs ++ xs, rfl, n * t, rfl, by simp; omega, ?_⟩
   rintro _ H5 ⟨s2, rfl, n5, S5, h5⟩
   walk_at "rd*"
   intro r H6 n6 S6 h6
   exact k r ou s2 H6 (S04.trans (S5.trans S6)) ((S04.trans S5).free n6) (S02.free nou) h6 (S6 _ _ (S5 _ _ hou)) (S6 _ _ h5)
theorem g0g {kn : List Int} {st n : Nat} {p q : Int} {t i : Nat} (h : i < kn.length - st) : ∀ j, (g7l kn st n p q t j).getD i 0 = g2y (fun m => (f6g kn st (m * n)).getD i 0) p q t j
 | 0 => rfl
 | j + 1 => by
  rw [g7l, g0d (by rw [List.length_map, b2s]; omega), c6o, g0g h j, g2y]
theorem g9k (T : Tx K mg A) : a1p P A.wd K mg base CX0 1 A.a6s A.c3u ["self", "gain"] (g5v A.a1z) := by
 have a2r := T.a2r
 have a0w := T.a0w
 refine T.c0w.ok f4s (fun vs H Q E h => ?_) (fun cdv A' outer s H vs Q E hr h => ?_)
 ·match vs, h with
  | [.ref o, .ref gt], _ => rfl
 ·match vs, h with
  | [.ref o, .ref gt], ⟨dx, ho, k⟩ =>
  have hu := hr.units
  refine ⟨_, (a0m (b3h (pvF 0) (pvF 1) rfl)), ?_⟩
  walk_at "rd*"
  intro H1 B1 h1
  exact k H1 B1 h1
theorem g6l (T : Tx K mg A) : a1p P A.wd K mg base CX0 1 A.a4y A.c0r ["self", "many"] (f9y A.a1q) := by
 have a1w := T.a1w
 have a0v := T.a0v
 refine T.b6y.ok f0t (fun vs H Q E h => ?_) (fun cdv A' outer s H vs Q E hr h => ?_)
 ·match vs, h with
  | [.ref o, .int n], _ => rfl
 ·match vs, h with
  | [.ref o, .int n], ⟨dx, ho, k⟩ =>
  have hu := hr.units
  refine ⟨_, (a0m (b3h (pvF 0) (pvF 1) rfl)), ?_⟩
  walk_at "rd*"
  intro H1 B1 h1
  exact k H1 B1 h1
theorem g9l (T : Tx K mg A) : a1p P A.wd K mg base CX0 1 A.a6u A.c3y ["self", "gain", "many"] (g5w A.a1v) := by
 have a2s := T.a2s
 have a0y := T.a0y
 have a0z := T.a0z
 refine T.c1j.ok f4t (fun vs H Q E h => ?_) (fun cdv A' outer s H vs Q E hr h => ?_)
 ·match vs, h with
  | [.ref o, .ref gt, .int n], _ => rfl
 ·match vs, h with
  | [.ref o, .ref gt, .int n], ⟨dx, ho, k⟩ =>
  have hu := hr.units
  refine ⟨_, (a0k (b3h (pvF 0) (pvF 1) rfl)
   (a0m (b3h (pvF 0) (pvF 2) rfl))), ?_⟩
  walk_at "rd*"
  intro H1 B1 h1
  walk_at "rd*"
  intro H2 B2 h2
  exact k H2 (fun b u hb e => B2 _ _ hb (B1 _ _ hb e)) h2
theorem i1e.same {H H' : Hp} {fs : List (Str × V)} {d : Dt} (h : i1e H fs d) (S : Same H H') : i1e H' fs d := by
 cases d with
 | gain y => obtain ⟨g, e, h1⟩ := h; exact ⟨g, e, S _ _ h1⟩
 | delay n => exact h
 | echo y n t => obtain ⟨g, fa, e, h1, h2⟩ := h; exact ⟨g, fa, e, S _ _ h1, S _ _ h2⟩
 | back y n => obtain ⟨g, e, h1⟩ := h; exact ⟨g, e, S _ _ h1⟩
 | _ => exact h.elim
theorem IsP.same {A : Ad} {H H' : Hp} {o : Addr} {d : Dt} (h : IsP A H o d) (S : Same H H') : IsP A H' o d := by
 obtain ⟨dx, fs, h1, h2⟩ := h
 exact ⟨dx, fs, S _ _ h1, h2.same S⟩
theorem g9m (T : Tx K mg A) : a1p P A.wd K mg base CX0 1 A.a1n A.c0p ["self"] d1g := by
 refine T.b6t.ok f0q (fun vs H Q E h => ?_) (fun cdv A' outer s H vs Q E hr h => ?_)
 ·match vs, h with
  | [.ref o], _ => rfl
 ·match vs, h with
  | [.ref o], k =>
  have hu := hr.units
  refine ⟨_, (a0m (a1h (a9w a0i))), ?_⟩
  walk_at "rd"
  refine ⟨Nat.zero_le _, fun t H1 n1 S1 h1 => k _ _ ⟨t, rfl, n1, S1, h1⟩⟩
theorem IsG.same {C : Addr} {H H' : Hp} {o : Addr} {p q : Int} (h : IsG C H o p q) (S : Same H H') : IsG C H' o p q := by
 obtain ⟨dx, gt, h1, h2⟩ := h
 exact ⟨dx, gt, S _ _ h1, S _ _ h2⟩
theorem g6m (T : Tx K mg A) : a1p P A.wd K mg base CX0 1 A.a3u A.b3o ["self"] (f9z A.a1z) := by
 have a2r := T.a2r
 have a0w := T.a0w
 refine T.b6v.ok f0s (fun vs H Q E h => ?_) (fun cdv A' outer s H vs Q E hr h => ?_)
 ·match vs, h with
  | [.ref o], _ => rfl
 ·match vs, h with
  | [.ref o], ⟨p, q, ⟨dx, gt, ho, hg⟩, k⟩ =>
  have hu := hr.units
  refine ⟨_, (a0m (a1h (a1s a6n (a2n (pvF 0) rfl) a0l (fun _ _ => rfl)))), ?_⟩
  walk_at "rd*"
theorem h4p (T : Tx K mg A) : a1p P A.wd K mg base CX0 2 A.a2y A.b0h ["self", "state", "tops", "bottom"] (h1u A.a1z) := by
 have b2l : a1p P A.wd K mg base CX0 1 _ _ _ _ := f1y T
 have a2r := T.a2r
 have a0w := T.a0w
 refine T.b2o.ok d3w (fun vs H Q E h => ?_) (fun cdv A' outer s H vs Q E hr h => ?_)
 ·match vs, h with
  | [.ref o, .ref st, .ref x, .int _], _ => rfl
 ·match vs, h with
  | [.ref o, .ref st, .ref x, .int bt], ⟨p, q, xs, ⟨dx, gt, ho, hg⟩, hx, lx, mx, k⟩ =>
  have hu := hr.units
  have a9t : a2q 1 _ := hr.mono (by decide)
  refine ⟨_, (a0m (a1h (a9w (a0g (a0u b2l a9t (by rfl) T.c0u T.a6y.kp T.b1w .nil a1k (a0g (pvF 2) (a0g (a1s a6n (a2n (pvF 0) rfl) a0l (fun _ _ => rfl)) a0i))) (a0g (pvF 1) a0i))))), ?_⟩
  walk_at "rd*"
  refine ⟨xs, rfl, mx, by omega, ?_⟩
  rintro _ H1 ⟨ou, rfl, n1, S1, h1⟩
  walk_at "rd*"
  intro r H2 n2 S2 h2
  exact k r ou st H2 (S1.trans S2) (S1.free n2) n1 h2 (S2 _ _ h1)
theorem IsD.same {C : Addr} {H H' : Hp} {o : Addr} {n : Nat} (h : IsD C H o n) (S : Same H H') : IsD C H' o n := by
 obtain ⟨dx, h1⟩ := h
 exact ⟨dx, S _ _ h1⟩
theorem f5k (T : Tx K mg A) : a1p P A.wd K mg base CX0 1 A.a3h A.c0o ["self"] f1p := by
 refine T.b6r.ok f0p (fun vs H Q E h => ?_) (fun cdv A' outer s H vs Q E hr h => ?_)
 ·match vs, h with
  | [.ref o], _ => rfl
 ·match vs, h with
  | [.ref o], k =>
  have hu := hr.units
  refine ⟨_, (a0m (a1h a0l)), ?_⟩
  walk_at "rd"
  exact k
theorem h4q (T : Tx K mg A) : a1p P A.wd K mg base CX0 2 A.a2p A.a7z ["self", "state", "tops", "bottom"] (h1v A.a1q) := by
 have c4u : a1p P A.wd K mg base CX0 1 _ _ _ _ := d1j T
 have c4v : a1p P A.wd K mg base CX0 1 _ _ _ _ := f7q T
 have a1w := T.a1w
 have a0v := T.a0v
 refine T.b0n.ok c3g (fun vs H Q E h => ?_) (fun cdv A' outer s H vs Q E hr h => ?_)
 ·match vs, h with
  | [.ref o, .ref st, .ref x, .int _], _ => rfl
 ·match vs, h with
  | [.ref o, .ref st, .ref x, .int bt], ⟨n, zs, xs, ⟨dx, ho⟩, hz, hx, lz, lx, k⟩ =>
  have hu := hr.units
  have c0g : a2q 1 _ := hr.mono (by decide)
  have c0h : a2q 1 _ := hr.mono (by decide)
  refine ⟨_, (a0k (a1o (i := 4) c3g.nd rfl (Or.inl rfl) (a1j a2l (a2i a8u (by rfl) T.b6g boot_list (a0g (pvF 1) a0i)) (pvF 2)))
   (a0m (a1h (a9w (a0g (a0u c4u c0g (by rfl) T.d4m T.b5t.kp T.c4k .nil a1k (a0g (pvF 4) (a0g (a1l a2m (by rfl) T.b4h boot_len (a0g (pvF 1) a0i)) (a0g (a2n (pvF 0) rfl) a0i)))) (a0g (a0u c4v c0h (by rfl) T.d4n T.b5u.kp T.c4l .nil a1k (a0g (pvF 4) (a0g (a2n (pvF 0) rfl) a0i))) a0i)))))), ?_⟩
  walk_at "rd*"
  intro l1 H1 n1 S1 h1
  have hx1 := S1 _ _ hx
  walk_at "rd*"
  refine ⟨by rw [sizeLine_eq]; omega, ?_⟩
  intro kn H2 n2 S2 h2
  rw [<- List.map_append] at h2
  have S02 : Same H H2 := S1.trans S2
  have ho2 := S02 _ _ ho
  have hz2 := S02 _ _ hz
  clear h1 hx1
  walk_at "rd*"
  refine ⟨zs ++ xs, rfl, zs.length, rfl, n, rfl, by simp, by simp; omega, ?_⟩
  rintro _ H3 ⟨ou, rfl, n3, S3, h3⟩
  have ho3 := S3 _ _ ho2
  have h23 := S3 _ _ h2
  clear h2 ho2 hz2
  walk_at "rd*"
  refine ⟨zs ++ xs, rfl, n, rfl, by simp; omega, ?_⟩
  rintro _ H4 ⟨s2, rfl, n4, S4, h4⟩
  walk_at "rd*"
  intro r H5 n5 S5 h5
  exact k r ou s2 H5 (S02.trans (S3.trans (S4.trans S5))) ((S02.trans (S3.trans S4)).free n5) (S02.free n3) h5 (S5 _ _ (S4 _ _ h3)) (S5 _ _ h4)
theorem g6n (T : Tx K mg A) : a1p P A.wd K mg base CX0 1 A.a4h A.b3r ["self"] (g0a A.a1v) := by
 have a2s := T.a2s
 have a0y := T.a0y
 have a0z := T.a0z
 refine T.b7i.ok f0v (fun vs H Q E h => ?_) (fun cdv A' outer s H vs Q E hr h => ?_)
 ·match vs, h with
  | [.ref o], _ => rfl
 ·match vs, h with
  | [.ref o], ⟨dx, gt, n, p, q, ho, hg, k⟩ =>
  have hu := hr.units
  unfold bkF at ho
  refine ⟨_, (a0m (a1h (a1s a6n (a2n (pvF 0) rfl) a0l (fun _ _ => rfl)))), ?_⟩
  walk_at "rd*"
theorem h4r (T : Tx K mg A) : a1p P A.wd K mg base CX0 2 A.a3g A.b0j ["self", "state", "tops", "bottom"] (h1w A.a1v) := by
 have c4u : a1p P A.wd K mg base CX0 1 _ _ _ _ := d1j T
 have c4v : a1p P A.wd K mg base CX0 1 _ _ _ _ := f7q T
 have c4w : a1p P A.wd K mg base CX0 1 _ _ _ _ := g0e T
 have b2l : a1p P A.wd K mg base CX0 1 _ _ _ _ := f1y T
 have a2s := T.a2s
 have a0y := T.a0y
 have a0z := T.a0z
 refine T.b2q.ok a9z (fun vs H Q E h => ?_) (fun cdv A' outer s H vs Q E hr h => ?_)
 ·match vs, h with
  | [.ref o, .ref st, .ref x, .int _], _ => rfl
 ·match vs, h with
  | [.ref o, .ref st, .ref x, .int bt], ⟨dx, gt, n, p, q, zs, xs, ho, hg, hz, hx, lz, lx, mz, mx, mq, m0, k⟩ =>
  have hu := hr.units
  have c0g : a2q 1 _ := hr.mono (by decide)
  have c0h : a2q 1 _ := hr.mono (by decide)
  have c1w : a2q 1 _ := hr.mono (by decide)
  have a9t : a2q 1 _ := hr.mono (by decide)
  unfold bkF at ho
  refine ⟨_, (a0k (a1o (i := 4) a9z.nd rfl (Or.inl rfl) (a1j a2l (a2i a8u (by rfl) T.b6g boot_list (a0g (pvF 1) a0i)) (pvF 2)))
   (a0k (a1o (i := 5) a9z.nd rfl (Or.inl rfl) (a0u c4u c0g (by rfl) T.d4m T.b5t.kp T.c4k .nil a1k (a0g (pvF 4) (a0g (a1l a2m (by rfl) T.b4h boot_len (a0g (pvF 1) a0i)) (a0g (a2n (pvF 0) rfl) a0i)))))
   (a0k (a1o (i := 6) a9z.nd rfl (Or.inl rfl) (a0u c4w c1w (by rfl) T.d2l T.a9o.kp T.b6q .nil a1k (a0g (a0u b2l a9t (by rfl) T.c0u T.a6y.kp T.b1w .nil a1k (a0g (pvF 2) (a0g (a1s a6n (a2n (pvF 0) rfl) a0l (fun _ _ => rfl)) a0i))) (a0g (a0u b2l a9t (by rfl) T.c0u T.a6y.kp T.b1w .nil a1k (a0g (pvF 5) (a0g (h6g h0p (a1s a6n (a2n (pvF 0) rfl) a0l (fun _ _ => rfl))) a0i))) a0i))))
   (a0m (a1h (a9w (a0g (pvF 6) (a0g (a0u c4v c0h (by rfl) T.d4n T.b5u.kp T.c4l .nil a1k (a0g (pvF 4) (a0g (a2n (pvF 0) rfl) a0i))) a0i)))))))), ?_⟩
  walk_at "rd*"
  intro l1 H1 n1 S1 h1
  have hx1 := S1 _ _ hx
  walk_at "rd*"
  refine ⟨by rw [sizeLine_eq]; omega, ?_⟩
  intro kn H2 n2 S2 h2
  rw [<- List.map_append] at h2
  have S02 : Same H H2 := S1.trans S2
  have ho2 := S02 _ _ ho
  have hz2 := S02 _ _ hz
  clear h1 hx1
  walk_at "rd*"
  refine ⟨zs ++ xs, rfl, zs.length, rfl, n, rfl, by simp, by simp; omega, ?_⟩
  rintro _ H3 ⟨hd, rfl, n3, S3, h3⟩
  have S03 := S02.trans S3
  have ho3 := S03 _ _ ho
  have hg3 := S03 _ _ hg
  have hx3 := S03 _ _ hx
  have h23 := S3 _ _ h2
  clear h2 ho2 hz2
  walk_at "rd*"
  refine ⟨xs, rfl, mq, by omega, ?_⟩
  rintro _ H4 ⟨t4, rfl, n4, S4, h4⟩
  have ho4 := S4 _ _ ho3
  have hg4 := S4 _ _ hg3
  have h34 := S4 _ _ h3
  clear ho3 hg3 hx3
  walk_at "rd*"
  have dl := b2s (zs ++ xs) zs.length n
  refine ⟨_, rfl, ?_, by rw [dl]; simp; omega, ?_⟩
  ·intro y hy
   rcases g0f hy with h | h
   ·rcases List.mem_append.mp h with h | h
    ·exact mz y h
    ·exact mx y h
   ·rw [h]; exact m0
  rintro _ H5 ⟨t5, rfl, n5, S5, h5⟩
  have h45 := S5 _ _ h4
  walk_at "rd*"
  refine ⟨_, rfl, _, rfl, by simp; omega, by rw [List.length_map, dl]; simp; omega, ?_⟩
  rintro _ H6 ⟨ou, rfl, n6, S6, h6⟩
  have S36 : Same H3 H6 := (S4.trans S5).trans S6
  have ho6 := S36 _ _ (S03 _ _ ho)
  have h26 := S36 _ _ h23
  clear h4 h45 ho4 hg4 h34 h5 h3
  walk_at "rd*"
  refine ⟨zs ++ xs, rfl, n, rfl, by simp; omega, ?_⟩
  rintro _ H7 ⟨s2, rfl, n7, S7, h7⟩
  walk_at "rd*"
  intro r H8 n8 S8 h8
  have S06 := S03.trans S36
  exact k r ou s2 H8 (S06.trans (S7.trans S8)) ((S06.trans S7).free n8) ((S03.trans (S4.trans S5)).free n6) (S06.free n7) h8 (S8 _ _ (S7 _ _ h6)) (S8 _ _ h7)
theorem g2d (T : Tx K mg A) : a1p P A.wd K mg base CX0 1 A.a3i A.c0q ["self"] (d5l A.a1z) := by
 have a2r := T.a2r
 have a0w := T.a0w
 refine T.b6u.ok f0r (fun vs H Q E h => ?_) (fun cdv A' outer s H vs Q E hr h => ?_)
 ·match vs, h with
  | [.ref o], _ => rfl
 ·match vs, h with
  | [.ref o], ⟨v, x, ⟨dx, gt, y, ho, hg, ev, ex⟩, k⟩ =>
  have hu := hr.units
  subst ev ex
  refine ⟨_, (a0m (a1h a0l)), ?_⟩
  walk_at "rd"
  exact k
theorem g2e (T : Tx K mg A) : a1p P A.wd K mg base CX0 2 A.a3v A.b7t ["self"] (d5m A.a1z) := by
 have d5v : a1p P A.wd K mg base CX0 1 _ _ _ _ := g6h T
 have a2r := T.a2r
 have a0w := T.a0w
 refine T.b3t.ok d7n (fun vs H Q E h => ?_) (fun cdv A' outer s H vs Q E hr h => ?_)
 ·match vs, h with
  | [.ref o], _ => rfl
 ·match vs, h with
  | [.ref o], ⟨v, x, ⟨dx, gt, y, ho, hg, ev, ex⟩, k⟩ =>
  have hu := hr.units
  subst ev ex
  have d1k : a2q 1 _ := hr.mono (by decide)
  refine ⟨_, (a0m (a1h (a0u d5v d1k (by rfl) T.f4z T.b9q.kp T.c9m .nil a1k (a0g (a2n (pvF 0) rfl) a0i)))), ?_⟩
  walk_at "rd*"
  exact ⟨y, rfl, k⟩
theorem f7s (T : Tx K mg A) : a1p P A.wd K mg base CX0 1 A.a3w A.b7u ["self"] (d1h A.a1q) := by
 have a1w := T.a1w
 have a0v := T.a0v
 refine T.b3u.ok d7o (fun vs H Q E h => ?_) (fun cdv A' outer s H vs Q E hr h => ?_)
 ·match vs, h with
  | [.ref o], _ => rfl
 ·match vs, h with
  | [.ref o], ⟨v, x, ⟨dx, n, ho, ev, ex⟩, k⟩ =>
  have hu := hr.units
  subst ev ex
  refine ⟨_, (a0m (a1h (a2n (pvF 0) rfl))), ?_⟩
  walk_at "rd*"
theorem f7t (T : Tx K mg A) : a1p P A.wd K mg base CX0 1 A.a2o A.b7s ["self"] (d1i A.a1q) := by
 have a1w := T.a1w
 have a0v := T.a0v
 refine T.b3s.ok d7m (fun vs H Q E h => ?_) (fun cdv A' outer s H vs Q E hr h => ?_)
 ·match vs, h with
  | [.ref o], _ => rfl
 ·match vs, h with
  | [.ref o], ⟨v, x, ⟨dx, n, ho, ev, ex⟩, k⟩ =>
  have hu := hr.units
  subst ev ex
  refine ⟨_, (a0m (a1h (a9w (a0g a0l (a0g a0l a0i))))), ?_⟩
  walk_at "rd"
  intro b H1 n1 S1 h1
  exact k _ _ ⟨b, rfl, n1, S1, h1⟩
theorem g2f (T : Tx K mg A) : a1p P A.wd K mg base CX0 1 A.a4z A.c0s ["self"] (d5p A.a1v) := by
 have a2s := T.a2s
 have a0y := T.a0y
 have a0z := T.a0z
 refine T.b7k.ok f0w (fun vs H Q E h => ?_) (fun cdv A' outer s H vs Q E hr h => ?_)
 ·match vs, h with
  | [.ref o], _ => rfl
 ·match vs, h with
  | [.ref o], ⟨v, x, ⟨dx, gt, n, y, ho, hg, b1, b2, ev, ex⟩, k⟩ =>
  have hu := hr.units
  subst ev ex
  refine ⟨_, (a0m (a1h (a2n (pvF 0) rfl))), ?_⟩
  walk_at "rd*"
theorem g2g (T : Tx K mg A) : a1p P A.wd K mg base CX0 4 A.a4i A.b7w ["self"] (d5q A.a1v) := by
 have d5v : a1p P A.wd K mg base CX0 1 _ _ _ _ := g6h T
 have i0m : a1p P A.wd K mg base CX0 3 _ _ _ _ := h4l T
 have a2s := T.a2s
 have a0y := T.a0y
 have a0z := T.a0z
 refine T.b3w.ok d7q (fun vs H Q E h => ?_) (fun cdv A' outer s H vs Q E hr h => ?_)
 ·match vs, h with
  | [.ref o], _ => rfl
 ·match vs, h with
  | [.ref o], ⟨v, x, ⟨dx, gt, n, y, ho, hg, b1, b2, ev, ex⟩, k⟩ =>
  have hu := hr.units
  subst ev ex
  have d1k : a2q 1 _ := hr.mono (by decide)
  have h4s : a2q 3 _ := hr.mono (by decide)
  refine ⟨_, (a0m (a1h (a0u i0m h4s (by rfl) T.h9m T.f4y.kp T.g5m .nil a1k (a0g (a9w (a0g a0l (a0g a0l a0i))) (a0g (a0u d5v d1k (by rfl) T.f4z T.b9q.kp T.c9m .nil a1k (a0g (a2n (pvF 0) rfl) a0i)) a0i))))), ?_⟩
  walk_at "rd*"
  intro u H1 n1 S1 h1
  have ho1 := S1 _ _ ho
  have hg1 := S1 _ _ hg
  have h1' : H1 u = some (.tup (d0h 1)) := h1
  have ab := g9g b1
  clear ho hg h1
  walk_at "rd*"
  refine ⟨y, rfl, ?_⟩
  rintro _ H2 ⟨z2, rfl, n2, S2, h2⟩
  walk_at "rd"
  refine ⟨1, Rat.abs y, ⟨S2 _ _ h1', h2, by decide, by decide, by omega, by rw [f1s]; omega⟩, ?_⟩
  rintro _ H3 ⟨z3, rfl, n3, S3, h3⟩
  exact k _ _ ⟨z3, rfl, (S1.trans S2).free n3, S1.trans (S2.trans S3), h3⟩
theorem g2h (T : Tx K mg A) : a1p P A.wd K mg base CX0 1 A.a3z A.b3q ["self"] (d5n A.a1r) := by
 have a2h := T.a2h
 have a0s := T.a0s
 have a0t := T.a0t
 have a0o := T.a0o
 have a0n := T.a0n
 have a0j := T.a0j
 refine T.b2y.ok c9k (fun vs H Q E h => ?_) (fun cdv A' outer s H vs Q E hr h => ?_)
 ·match vs, h with
  | [.ref o], _ => rfl
 ·match vs, h with
  | [.ref o], ⟨v, x, ⟨p, q, n, t, ⟨dx, gt, fa, ho, hg, hf⟩, nl, tl, q1, bp, bq, ev, ex⟩, k⟩ =>
  have hu := hr.units
  subst ev ex
  unfold ecF at ho
  refine ⟨_, (a0m (a1h (a1j a4o (a2n (pvF 0) rfl) (a2n (pvF 0) rfl)))), ?_⟩
  walk_at "rd*"
  exact ⟨IntMulOk.of_left (intBits_le_64 (by omega) (by omega)), by rw [<- Int.natCast_mul]; exact k⟩
theorem g6o {p q : Int} (bp : intBits p <= 10) (bq : intBits q <= 10) {t : Nat} (ht : t <= 16) : ∀ f ∈ d8i p q t, intBits f <= 170 := fun f hf => by
 unfold d8i at hf
 obtain ⟨j, hj, rfl⟩ := List.mem_map.mp hf
 have : j < t + 1 := by simpa using hj
 exact Nat.le_trans (intBits_mul_le (a8g bp j) (a8g bq (t - j))) (by omega)
theorem d5w {a : Nat} : ∀ {fs : List Int}, (∀ f ∈ fs, intBits f <= a) -> intBits fs.sum <= a + fs.length
 | [], _ => by
  show intBits 0 <= _
  exact Nat.zero_le _
 | f :: fs, h => by
  have i := d5w (fs := fs) fun g hg => h g (List.mem_cons_of_mem _ hg)
  have h1 := h f (List.mem_cons_self ..)
  rw [List.sum_cons, List.length_cons]
  have := intBits_add_le (Nat.le_trans h1 (Nat.le_add_right a fs.length)) i
  omega
theorem g2i (T : Tx K mg A) : a1p P A.wd K mg base CX0 3 A.a4g A.b7v ["self"] (d5o A.a1r) := by
 have b2k : a1p P A.wd K mg base CX0 2 _ _ _ _ := c1u T
 have a2h := T.a2h
 have a0s := T.a0s
 have a0t := T.a0t
 have a0o := T.a0o
 have a0n := T.a0n
 have a0j := T.a0j
 refine T.b3v.ok d7p (fun vs H Q E h => ?_) (fun cdv A' outer s H vs Q E hr h => ?_)
 ·match vs, h with
  | [.ref o], _ => rfl
 ·match vs, h with
  | [.ref o], ⟨v, x, ⟨p, q, n, t, ⟨dx, gt, fa, ho, hg, hf⟩, nl, tl, q1, bp, bq, ev, ex⟩, k⟩ =>
  have hu := hr.units
  subst ev ex
  have a8s : a2q 2 _ := hr.mono (by decide)
  unfold ecF at ho
  have fl := f2g p q t
  refine ⟨_, (a0m (a1h (a0u b2k a8s (by rfl) T.c6k T.a9n.kp T.b4u .nil a1k (a0g (a1l (f3z rfl) (by rfl) T.g1v boot_sum (a0g (c9z (h3v (a2n (pvF 0) rfl)) (fun _ _ _ _ _ => (a1l b5g (by rfl) T.d4v boot_abs (a0g (pvF 0) a0i))) (d7l (sc := a0h a5i) (N := ["self"]) rfl rfl (by decide +kernel)) rfl) a0i)) (a0g (a2n (pvF 0) rfl) a0i))))), ?_⟩
  walk_at "rd*"
  refine fun D H1 n1 S1 h1 => ?_
  refine g1g (fun v => match v with | .int c => .int (c.natAbs : Int) | v => v) n1 S1 h1 hf (by rw [List.length_map, fl, sizeLine_eq]; omega) ?_ ?_
  ·intro i x H' Q' hx S' q'
   rw [List.getElem?_map] at hx
   obtain ⟨c, hc, rfl⟩ := Option.map_eq_some_iff.mp hx
   walk_at "rd"
   exact q'
  intro H2 S2 h2
  have e2 : ((d8i p q t).map V.int).map (fun v : V => match v with | .int c => V.int (c.natAbs : Int) | v => v) = ((d8i p q t).map fun f => (f.natAbs : Int)).map V.int := by
   rw [List.map_map, List.map_map]
   rfl
  rw [e2] at h2
  have ho2 := S2 _ _ ho
  have pq : intBits (q ^ t) <= 170 := Nat.le_trans (a8g bq t) (by omega)
  have qp : 0 < q ^ t := Int.pow_pos (by omega)
  have sb : intBits ((d8i p q t).map fun f => (f.natAbs : Int)).sum <= 170 + ((d8i p q t).map fun f => (f.natAbs : Int)).length := d5w fun f hf => by
   obtain ⟨g, hg, rfl⟩ := List.mem_map.mp hf
   exact intBits_natAbs_le (g6o bp bq tl g hg)
  rw [List.length_map, fl] at sb
  clear ho hg hf h1 e2
  walk_at "rd*"
  refine ⟨_, rfl, by omega, by omega, by omega, ?_⟩
  rintro _ H3 ⟨z3, rfl, n3, S3, h3⟩
  exact k _ _ ⟨z3, rfl, S2.free n3, S2.trans S3, h3⟩
theorem h4t {a b : List Int} (hl : a.length = b.length) (h : ∀ i, i < a.length -> a.getD i 0 = b.getD i 0) : a = b := by
 apply List.ext_getElem?
 intro i
 by_cases hi : i < a.length
 ·have := h i hi
  rw [List.getD_eq_getElem?_getD, List.getD_eq_getElem?_getD, List.getElem?_eq_getElem hi, List.getElem?_eq_getElem (by omega)] at this
  rw [List.getElem?_eq_getElem hi, List.getElem?_eq_getElem (by omega)]
  simpa using this
 ·rw [List.getElem?_eq_none (by omega), List.getElem?_eq_none (by omega)]
theorem c9t (a b : List Int) (i : Nat) : (a ++ b).getD i 0 = if i < a.length then a.getD i 0 else b.getD (i - a.length) 0 := by
 rw [List.getD_eq_getElem?_getD]
 split
 ·rename_i h
  rw [List.getElem?_append_left h, <- List.getD_eq_getElem?_getD]
 ·rename_i h
  rw [List.getElem?_append_right (by omega), <- List.getD_eq_getElem?_getD]
theorem g6p (a : List Int) (k i : Nat) : (a.drop k).getD i 0 = a.getD (k + i) 0 := by
 rw [List.getD_eq_getElem?_getD, List.getElem?_drop, <- List.getD_eq_getElem?_getD]
theorem g0h {xs ys : List Int} {k : Nat} (h : k <= xs.length) : xs.drop k ++ ys = (xs ++ ys).drop k := (List.drop_append_of_le_length h).symm
theorem d5y {xs ys : List Int} {N k : Nat} (hk : k <= N) : f6g (xs.drop (xs.length - N) ++ ys) (xs.drop (xs.length - N)).length k = f6g (xs ++ ys) xs.length k := by
 refine h4t (by rw [b2s, b2s]; simp) fun i hi => ?_
 rw [b2s, List.length_append] at hi
 rw [c9s (by rw [List.length_append]; omega), c9s (by rw [List.length_append]; omega), g0h (by omega), List.length_drop, g6p]
 by_cases h1 : k <= xs.length + i
 ·by_cases h2 : N <= xs.length
  ·rw [if_pos h1, if_pos (by omega)]
   congr 1
   omega
  ·have e : xs.length - N = 0 := by omega
   rw [e, if_pos h1, if_pos (by omega)]
   congr 1
   omega
 ·rw [if_neg h1, if_neg (by omega)]
theorem d5z (xs ys : List Int) (N : Nat) : (xs.drop (xs.length - N) ++ ys).drop ((xs.drop (xs.length - N) ++ ys).length - N) = (xs ++ ys).drop ((xs ++ ys).length - N) := by
 rw [g0h (by omega), List.drop_drop, List.length_drop, List.length_append]
 congr 1
 omega
theorem StV.same {H H' : Hp} {xs : List Int} {st : V} {d : Dt} (h : StV H xs st d) (Z : Same H H') : StV H' xs st d := by
 cases d with
 | gain y => exact h
 | delay n => obtain ⟨p, e, h⟩ := h; exact ⟨p, e, Z _ _ h⟩
 | echo y n t => obtain ⟨p, e, h⟩ := h; exact ⟨p, e, Z _ _ h⟩
 | back y n => obtain ⟨p, e, h⟩ := h; exact ⟨p, e, Z _ _ h⟩
 | _ => exact h.elim
theorem a4m (d : Dt) (xs ys : List Int) : (outs d xs ys).length = ys.length := by unfold outs; simp
theorem b7n {d : Dt} {xs ys : List Int} {i : Nat} (h : i < ys.length) : (outs d xs ys).getD i 0 = tap (g7m d) (d5r (xs ++ ys)) ((xs.length + i : Nat) : Int) := by
 unfold outs
 rw [List.getD_eq_getElem?_getD, List.getElem?_map, List.getElem?_range h]
 rfl
theorem d6g (xs : List Int) (i n : Nat) : d5r xs ((i : Int) - (n : Int)) = if n <= i then xs.getD (i - n) 0 else 0 := by
 unfold d5r
 by_cases h : n <= i
 ·rw [if_neg (by omega), if_pos h]
  congr 1
  omega
 ·rw [if_pos (by omega), if_neg h]
theorem getD_at (xs ys : List Int) (i : Nat) : (xs ++ ys).getD (xs.length + i) 0 = ys.getD i 0 := by
 rw [c9t, if_neg (by omega)]
 congr 1
 omega
theorem d9s {X Y : Nat -> Int} {p q : Int} {t : Nat} : ∀ {j : Nat}, (∀ m, m < j -> X m = Y m) -> g2y X p q t j = g2y Y p q t j
 | 0, _ => rfl
 | j + 1, h => by rw [g2y, g2y, d9s (fun m hm => h m (by omega)), h j (by omega)]
theorem d6h (p q : Int) (t n : Nat) (X : Int -> Int) (j : Int) : ∀ k, tap ((List.range k).map fun m => (g7k p q t m, m * n)) X j = g2y (fun m => X (j - ((m * n : Nat) : Int))) p q t k
 | 0 => rfl
 | k + 1 => by
  rw [List.range_succ, List.map_append, g2y, <- d6h p q t n X j k]
  unfold tap
  rw [List.map_append, List.sum_append]
  congr 1
  show _ * _ + 0 = _
  rw [Int.add_zero, Int.mul_comm]
theorem g6q (y : Rat) (xs ys : List Int) : outs (.gain y) xs ys = ys.map (· * y.num) := by
 refine h4t (by rw [a4m, List.length_map]) fun i hi => ?_
 rw [a4m] at hi
 rw [b7n hi, c6o]
 show y.num * d5r (xs ++ ys) (((xs.length + i : Nat) : Int) - ((0 : Nat) : Int)) + 0 = _
 rw [Int.add_zero, d6g, if_pos (Nat.zero_le _), Nat.sub_zero, getD_at, Int.mul_comm]
theorem g2j (n : Nat) (xs ys : List Int) : outs (.delay n) xs ys = f6g (xs ++ ys) xs.length n := by
 refine h4t (by rw [a4m, b2s, List.length_append]; omega) fun i hi => ?_
 rw [a4m] at hi
 rw [b7n hi, c9s (by rw [List.length_append]; omega)]
 show 1 * d5r (xs ++ ys) (((xs.length + i : Nat) : Int) - (n : Int)) + 0 = _
 rw [Int.add_zero, Int.one_mul, d6g]
theorem g6r (y : Rat) (n t : Nat) (xs ys : List Int) : outs (.echo y n t) xs ys = g7l (xs.drop (xs.length - n * t) ++ ys) (xs.drop (xs.length - n * t)).length n y.num y.den t (t + 1) := by
 refine h4t (by rw [a4m, g9j, List.length_append]; omega) fun i hi => ?_
 rw [a4m] at hi
 rw [b7n hi, g0g (by rw [List.length_append]; omega)]
 show tap ((List.range (t + 1)).map _) _ _ = _
 rw [d6h]
 refine d9s fun m hm => ?_
 have le : m * n <= n * t := by
  rw [Nat.mul_comm n t]
  exact Nat.mul_le_mul_right n (by omega)
 rw [d5y le, c9s (by rw [List.length_append]; omega), d6g]
theorem g6s (y : Rat) (n : Nat) (xs ys : List Int) : outs (.back y n) xs ys = g7j (ys.map (· * (y.den : Int))) ((f6g (xs ++ ys) xs.length n).map (· * (-y.num))) := by
 refine h4t (by rw [a4m, f1w, List.length_map, List.length_map, b2s, List.length_append]; omega) fun i hi => ?_
 rw [a4m] at hi
 rw [b7n hi, g0d (by rw [List.length_map]; omega), c6o, c6o, c9s (by rw [List.length_append]; omega)]
 show (y.den : Int) * d5r (xs ++ ys) (((xs.length + i : Nat) : Int) - ((0 : Nat) : Int)) + (-y.num * d5r (xs ++ ys) (((xs.length + i : Nat) : Int) - (n : Int)) + 0) = _
 rw [d6g, d6g, if_pos (Nat.zero_le _), Nat.sub_zero, getD_at, Int.add_zero, Int.mul_comm, Int.mul_comm (-y.num)]
theorem h4u {xs ys : List Int} {i : Int} (h : i < (xs.length : Int)) : d5r (xs ++ ys) i = d5r xs i := by
 unfold d5r
 split
 ·rfl
 ·rw [c9t, if_pos (by omega)]
theorem f5l {L : List (Int × Nat)} {X Y : Int -> Int} {i : Int} (h : ∀ j, j <= i -> X j = Y j) : tap L X i = tap L Y i := by
 unfold tap
 congr 1
 refine List.map_congr_left fun c _ => ?_
 rw [h _ (by omega)]
theorem g9n (d : Dt) (xs ys zs : List Int) : outs d xs (ys ++ zs) = outs d xs ys ++ outs d (xs ++ ys) zs := by
 refine h4t (by rw [List.length_append, a4m, a4m, a4m, List.length_append]) fun i hi => ?_
 rw [a4m, List.length_append] at hi
 rw [b7n (by rw [List.length_append]; exact hi), c9t, a4m]
 split
 ·rename_i h
  rw [b7n h, <- List.append_assoc]
  exact f5l fun j hj => h4u (by rw [List.length_append]; omega)
 ·rename_i h
  rw [b7n (by omega), <- List.append_assoc, List.length_append]
  congr 2
  omega
theorem c7w {k : Nat} {f : Addr} {fd : FuncData} {ps : List Str} {sp sp' : Sp} (F : a1p P A.wd K mg base CX0 k f fd ps sp) (h : ∀ vs H Q E, sp' vs H Q E -> sp vs H Q E) : a1p P A.wd K mg base CX0 k f fd ps sp' :=
 ⟨fun vs H Q E z => F.len vs H Q E (h _ _ _ _ z), fun A outer s H args us vs Q E hr e0 hb hv z => F.run A outer s H args us vs Q E hr e0 hb hv (h _ _ _ _ z)⟩
theorem g6t (T : Tx K mg A) : a1p P A.wd K mg base CX0 2 A.a2y A.b0h ["self", "state", "tops", "bottom"] (d8j A 0) := c7w (h4p T) fun vs H Q E h => by
 match vs, h with
 | [.ref o, st, .ref l, .int b], ⟨d, xs, ys, hk, hp, ok, hst, hl, lx, ly, by0, q⟩ =>
  cases d with
  | gain y =>
   obtain ⟨p, rfl⟩ := hst
   obtain ⟨dx, _, ho, g, rfl, hg⟩ := hp
   have yb := YOk.b ok
   exact ⟨y.num, y.den, ys, ⟨dx, g, ho, hg⟩, hl, by omega, fun z hz => IntMulOk.of_right (by omega), fun r ou s2 H1 S1 nr no h1 h2 => q r ou _ H1 S1 nr no h1 (by rw [h2, g6q]) ⟨s2, rfl⟩⟩
  | _ => simp [Dt.kd] at hk
theorem g2k (T : Tx K mg A) : a1p P A.wd K mg base CX0 2 A.a2p A.a7z ["self", "state", "tops", "bottom"] (d8j A 1) := c7w (h4q T) fun vs H Q E h => by
 match vs, h with
 | [.ref o, st, .ref l, .int b], ⟨d, xs, ys, hk, hp, ok, hst, hl, lx, ly, by0, q⟩ =>
  cases d with
  | delay n =>
   obtain ⟨p, rfl, hs⟩ := hst
   obtain ⟨dx, _, ho, rfl⟩ := hp
   exact ⟨n, _, ys, ⟨dx, ho⟩, hs, hl, by rw [List.length_drop]; omega, by omega, fun r ou s2 H1 S1 nr no h1 h2 h3 => q r ou _ H1 S1 nr no h1 (by rw [h2, g2j, d5y (Nat.le_refl _)]) ⟨s2, rfl, by rw [h3, d5z]⟩⟩
  | _ => simp [Dt.kd] at hk
theorem g6u (T : Tx K mg A) : a1p P A.wd K mg base CX0 2 A.a2z A.b0i ["self", "state", "tops", "bottom"] (d8j A 2) := c7w (h4o T) fun vs H Q E h => by
 match vs, h with
 | [.ref o, st, .ref l, .int b], ⟨d, xs, ys, hk, hp, ok, hst, hl, lx, ly, by0, q⟩ =>
  cases d with
  | echo y n t =>
   obtain ⟨p, rfl, hs⟩ := hst
   obtain ⟨dx, _, ho, g, fa, rfl, hg, hf⟩ := hp
   obtain ⟨oy, n1, n2, t2⟩ := ok
   have yb := oy.b
   refine ⟨y.num, y.den, n, t, _, ys, ⟨dx, g, fa, ho, hg, hf⟩, hs, hl, by rw [List.length_drop]; omega, by omega, by omega, t2, yb.1, yb.2, fun z hz => ?_, fun r ou s2 H1 S1 nr no h1 h2 h3 => q r ou _ H1 S1 nr no h1 (by rw [h2, g6r]) ⟨s2, rfl, by rw [h3, d5z]⟩⟩
   refine Nat.le_trans (by0 z ?_) (by decide)
   rcases List.mem_append.mp hz with h | h
   ·exact List.mem_append_left _ (List.mem_of_mem_drop h)
   ·exact List.mem_append_right _ h
  | _ => simp [Dt.kd] at hk
theorem g6v (T : Tx K mg A) : a1p P A.wd K mg base CX0 2 A.a3g A.b0j ["self", "state", "tops", "bottom"] (d8j A 3) := c7w (h4r T) fun vs H Q E h => by
 match vs, h with
 | [.ref o, st, .ref l, .int b], ⟨d, xs, ys, hk, hp, ok, hst, hl, lx, ly, by0, q⟩ =>
  cases d with
  | back y n =>
   obtain ⟨p, rfl, hs⟩ := hst
   obtain ⟨dx, _, ho, g, rfl, hg⟩ := hp
   obtain ⟨oy, n1, n2⟩ := ok
   have yb := oy.b
   have nb := intBits_neg_le yb.1
   exact ⟨dx, g, n, y.num, y.den, _, ys, ho, hg, hs, hl, by rw [List.length_drop]; omega, by omega, fun z hz => IntMulOk.of_right (by omega), fun z hz => IntMulOk.of_right (by omega), fun z hz => IntMulOk.of_right (by omega), IntMulOk.of_left (by decide), fun r ou s2 H1 S1 nr no n2' h1 h2 h3 => q r ou _ H1 S1 nr no h1 (by rw [h2, g6s, d5y (Nat.le_refl _)]) ⟨s2, rfl, by rw [h3, d5z]⟩⟩
  | _ => simp [Dt.kd] at hk
theorem f5m (T : Tx K mg A) : a1p P A.wd K mg base CX0 1 A.a3u A.b3o ["self"] (f7o A 0) := c7w (g6m T) fun vs H Q E h => by
 match vs, h with
 | [.ref o], ⟨d, hk, hp, q⟩ =>
  cases d with
  | gain y =>
   obtain ⟨dx, _, ho, g, rfl, hg⟩ := hp
   exact ⟨y.num, y.den, ⟨dx, g, ho, hg⟩, q⟩
  | _ => simp [Dt.kd] at hk
theorem f5n (T : Tx K mg A) : a1p P A.wd K mg base CX0 1 A.a3y A.b3p ["self"] (f7o A 2) := c7w (g6j T) fun vs H Q E h => by
 match vs, h with
 | [.ref o], ⟨d, hk, hp, q⟩ =>
  cases d with
  | echo y n t =>
   obtain ⟨dx, _, ho, g, fa, rfl, hg, hf⟩ := hp
   exact ⟨y.num, y.den, n, t, ⟨dx, g, fa, ho, hg, hf⟩, q⟩
  | _ => simp [Dt.kd] at hk
theorem f5o (T : Tx K mg A) : a1p P A.wd K mg base CX0 1 A.a4h A.b3r ["self"] (f7o A 3) := c7w (g6n T) fun vs H Q E h => by
 match vs, h with
 | [.ref o], ⟨d, hk, hp, q⟩ =>
  cases d with
  | back y n =>
   obtain ⟨dx, _, ho, g, rfl, hg⟩ := hp
   exact ⟨dx, g, n, y.num, y.den, ho, hg, q⟩
  | _ => simp [Dt.kd] at hk
theorem g9o {d : Dt} (hk : d.kd < 4) {H : Hp} {p : Addr} (h : H p = some (.tup [])) : StV H [] (.ref p) d := by
 cases d with
 | gain => exact ⟨p, rfl⟩
 | delay => exact ⟨p, rfl, by rw [List.drop_nil]; exact h⟩
 | echo => exact ⟨p, rfl, by rw [List.drop_nil]; exact h⟩
 | back => exact ⟨p, rfl, by rw [List.drop_nil]; exact h⟩
 | hall => exact absurd hk (by simp [Dt.kd])
 | swell => exact absurd hk (by simp [Dt.kd])
theorem IsP.kd4 {A : Ad} {H : Hp} {o : Addr} {d : Dt} (h : IsP A H o d) : d.kd < 4 := by
 obtain ⟨_, _, _, h⟩ := h
 cases d with
 | gain => simp [Dt.kd]
 | delay => simp [Dt.kd]
 | echo => simp [Dt.kd]
 | back => simp [Dt.kd]
 | _ => exact h.elim
theorem h4v (T : Tx K mg A) : a1p P A.wd K mg base CX0 4 A.a8n A.c3z ["text"] i5b := by
 have d6i : a1p P A.wd K mg base CX0 3 _ _ _ _ := h4k T
 refine T.a8r.ok d2h (fun vs H Q E h => ?_) (fun cdv A' outer s H vs Q E hr h => ?_)
 ·match vs, h with
  | [.str x], _ => rfl
 ·match vs, h with
  | [.str x], ⟨y, hx, oy, k⟩ =>
  subst hx
  have hu := hr.units
  have d2v : a2q 3 _ := hr.mono (by decide)
  refine ⟨_, (a0k (h3w (a1o (i := 1) d2h.nd rfl (Or.inl rfl) (a0u d6i d2v (by rfl) T.d4l T.a6w.kp T.b5s .nil a1k (a0g (pvF 0) a0i))))
   (a0k (a8h (pw_or (a1u f6r (a1l b5g (by rfl) T.d4v boot_abs (a0g (a1s a6n (pvF 1) a0l (fun _ _ => rfl)) a0i)) (a9u (v := .int 1000) (by rfl) T.a9q T.d2m) (a3k _)) (pw_or1 (a1u f6r (a1s a6n (pvF 1) a0l (fun _ _ => rfl)) (a9u (v := .int 1000) (by rfl) T.a9q T.d2m) (a3k _)))).pt
   (a0m a6k)
   a2g)
   (a0m (a1h (pvF 1))))), ?_⟩
  walk_at "rd"
  refine ⟨y.num, (y.den : Int), h3x oy, ?_⟩
  rintro _ H1 ⟨o, rfl, n1, S1, h1⟩
  have y1 : ¬ 1000 < (y.num.natAbs : Int) := by have := oy.1; omega
  have y2 : ¬ 1000 < (y.den : Int) := by have := oy.2; omega
  walk_at "rd*"
  exact k _ _ ⟨o, rfl, n1, S1, h1⟩
theorem h4w (T : Tx K mg A) : a1p P A.wd K mg base CX0 3 A.a5k A.b7y ["text", "least", "most"] i5c := by
 have g2l : a1p P A.wd K mg base CX0 2 _ _ _ _ := i0k T
 refine T.a5p.ok c6s (fun vs H Q E h => ?_) (fun cdv A' outer s H vs Q E hr h => ?_)
 ·match vs, h with
  | [.str x, .int a, .int b], _ => rfl
 ·match vs, h with
  | [.str x, .int a, .int b], ⟨n, hx, hn, h1, h2, q⟩ =>
  have hu := hr.units
  have f7u : a2q 2 _ := hr.mono (by decide)
  refine ⟨_, (a0k (a1o (i := 3) c6s.nd rfl (Or.inl rfl) (a0u g2l f7u (by rfl) T.g1r T.b9p.kp T.d0t .nil a1k (a0g (pvF 0) a0i)))
   (a0k (a8h (pw_or (a1u g3n (pvF 3) c6p (a3k _)) (pw_or (a1u of_lt (pvF 3) (pvF 1) (a3k _)) (pw_or1 (a1u f6r (pvF 3) (pvF 2) (a3k _))))).pt
   (a0m a6k)
   a2g)
   (a0m (a1h (pvF 3))))), ?_⟩
  walk_at "rd"
  refine ⟨n, hx, hn, ?_⟩
  have z1 : ¬ (n : Int) < a := by omega
  have z2 : ¬ b < (n : Int) := by omega
  walk_at "rd*"
theorem i0n (T : Tx K mg A) : a1p P A.wd K mg base CX0 4 A.a8o A.c4g ["text"] i5d := by
 have b0v : a1p P A.wd K mg base CX0 3 _ _ _ _ := h4w T
 refine T.b1z.ok f4u (fun vs H Q E h => ?_) (fun cdv A' outer s H vs Q E hr h => ?_)
 ·match vs, h with
  | [.str x], _ => rfl
 ·match vs, h with
  | [.str x], ⟨n, hx, n1, n2, q⟩ =>
  subst hx
  have hu := hr.units
  have a7w : a2q 3 _ := hr.mono (by decide)
  refine ⟨_, (a0m (a1h (a0u b0v a7w (by rfl) T.c1l T.a5p.kp T.b0o .nil a1k (a0g (pvF 0) (a0g a0l (a0g (a9u (v := .int 1000) (by rfl) T.a9r T.d2n) a0i)))))), ?_⟩
  walk_at "rd"
  exact ⟨n, g8w n, by omega, by omega, by omega, q⟩
theorem g9p (T : Tx K mg A) : a1p P A.wd K mg base CX0 1 A.a5l A.b7z ["values", "count"] i5e := by
 refine T.a4l.ok d7r (fun vs H Q E h => ?_) (fun cdv A' outer s H vs Q E hr h => ?_)
 ·match vs, h with
  | [.ref l, .int c], _ => rfl
 ·match vs, h with
  | [.ref l, .int c], ⟨xs, hl, e, q⟩ =>
  have hu := hr.units
  refine ⟨_, (a0m (a8h (a1u (c3n hu) (a1l a2m (by rfl) T.b4h boot_len (a0g (pvF 0) a0i)) (pvF 1) (a3k _))
   (a0m a6k)
   a2g)), ?_⟩
  walk_at "rd*"
theorem g2m (T : Tx K mg A) : a1p P A.wd K mg base CX0 6 A.b0k A.d0p ["values"] (h9z A 0) := by
 have a5s : a1p P A.wd K mg base CX0 1 _ _ _ _ := g9p T
 have b6h : a1p P A.wd K mg base CX0 4 _ _ _ _ := h4v T
 have f7v : a1p P A.wd K mg base CX0 1 _ _ _ _ := g9k T
 have a2r := T.a2r
 have a0w := T.a0w
 refine T.c4p.ok g1o (fun vs H Q E h => ?_) (fun cdv A' outer s H vs Q E hr h => ?_)
 ·match vs, h with
  | [.ref l], _ => rfl
 ·match vs, h with
  | [.ref l], ⟨d, hk, ok, hl, q⟩ =>
  cases d with
  | gain y =>
   have hu := hr.units
   have a4n : a2q 1 _ := hr.mono (by decide)
   have b2z : a2q 4 _ := hr.mono (by decide)
   have f5p : a2q 2 _ := hr.mono (by decide)
   replace hl : H l = some (.lst [.str (fW y)]) := hl
   refine ⟨_, (a0k (c3j (a0u a5s a4n (by rfl) T.b3y T.a4l.kp T.a7q .nil a1k (a0g (pvF 0) (a0g a0l a0i))))
   (a0m (a1h (c6i T.h9r f7v f5p (by rfl) T.d4w T.c7q .nil a1k (a0g (a0u b6h b2z (by rfl) T.c7t T.a8r.kp T.b5w .nil a1k (a0g (a1s a6n (pvF 0) a0l (fun _ _ => rfl)) a0i)) a0i))))), ?_⟩
   walk_at "rd"
   refine ⟨_, hl, rfl, ?_⟩
   walk_at "rd*"
   refine ⟨y, rfl, ok, ?_⟩
   rintro _ H1 ⟨g, rfl, n1, S1, h1⟩
   walk_at "rd"
   intro x dx H2 n2 n3 nx S2 hdx hx
   refine ⟨dx, hx, fun H3 B3 h3 => ?_⟩
   rw [asNew]
   refine ⟨rfl, ?_⟩
   have gx : g ≠ x := fun e => by rw [e] at h1; rw [h1] at n2; cases n2
   refine q x H3 (S1.free n2) (fun b u e => B3 _ _ (fun z => by rw [z] at e; rw [S1 _ _ e] at n2; cases n2) (S2 _ _ (S1 _ _ e))) ⟨dx, _, h3, g, rfl, B3 _ _ gx (S2 _ _ h1)⟩
  | _ => simp [Dt.kd] at hk
theorem f7w (T : Tx K mg A) : a1p P A.wd K mg base CX0 6 A.a7p A.c7j ["values"] (h9z A 1) := by
 have a5s : a1p P A.wd K mg base CX0 1 _ _ _ _ := g9p T
 have b0v : a1p P A.wd K mg base CX0 3 _ _ _ _ := h4w T
 have f5q : a1p P A.wd K mg base CX0 1 _ _ _ _ := g6l T
 have a1w := T.a1w
 have a0v := T.a0v
 refine T.b9r.ok f7h (fun vs H Q E h => ?_) (fun cdv A' outer s H vs Q E hr h => ?_)
 ·match vs, h with
  | [.ref l], _ => rfl
 ·match vs, h with
  | [.ref l], ⟨d, hk, ok, hl, q⟩ =>
  cases d with
  | delay n =>
   have hu := hr.units
   have a4n : a2q 1 _ := hr.mono (by decide)
   have a7w : a2q 3 _ := hr.mono (by decide)
   have f2h : a2q 2 _ := hr.mono (by decide)
   have ok : n <= 1000 := ok
   replace hl : H l = some (.lst [.str (nW n)]) := hl
   refine ⟨_, (a0k (c3j (a0u a5s a4n (by rfl) T.b3y T.a4l.kp T.a7q .nil a1k (a0g (pvF 0) (a0g a0l a0i))))
   (a0m (a1h (c6i T.h4i f5q f2h (by rfl) T.c9n T.c4n .nil a1k (a0g (a0u b0v a7w (by rfl) T.c1l T.a5p.kp T.b0o .nil a1k (a0g (a1s a6n (pvF 0) a0l (fun _ _ => rfl)) (a0g a0l (a0g (a9u (v := .int 1000) (by rfl) T.a9r T.d2n) a0i)))) a0i))))), ?_⟩
   walk_at "rd"
   refine ⟨_, hl, rfl, ?_⟩
   walk_at "rd*"
   refine ⟨n, g8w n, by omega, by omega, by omega, ?_⟩
   intro x dx H2 n2 n3 nx S2 hdx hx
   refine ⟨dx, hx, fun H3 B3 h3 => ?_⟩
   rw [asNew]
   refine ⟨rfl, ?_⟩
   exact q x H3 n2 (fun b u e => B3 _ _ (fun z => by rw [z] at e; rw [e] at n2; cases n2) (S2 _ _ e)) ⟨dx, _, h3, rfl⟩
  | _ => simp [Dt.kd] at hk
theorem g2n (T : Tx K mg A) : a1p P A.wd K mg base CX0 6 A.b0l A.d0q ["values"] (h9z A 2) := by
 have a5s : a1p P A.wd K mg base CX0 1 _ _ _ _ := g9p T
 have b6h : a1p P A.wd K mg base CX0 4 _ _ _ _ := h4v T
 have c7y : a1p P A.wd K mg base CX0 4 _ _ _ _ := i0n T
 have b0v : a1p P A.wd K mg base CX0 3 _ _ _ _ := h4w T
 have f7y : a1p P A.wd K mg base CX0 2 _ _ _ _ := g9i T
 have a2h := T.a2h
 have a0s := T.a0s
 have a0t := T.a0t
 have a0o := T.a0o
 have a0n := T.a0n
 have a0j := T.a0j
 refine T.c4q.ok g1p (fun vs H Q E h => ?_) (fun cdv A' outer s H vs Q E hr h => ?_)
 ·match vs, h with
  | [.ref l], _ => rfl
 ·match vs, h with
  | [.ref l], ⟨d, hk, ok, hl, q⟩ =>
  cases d with
  | echo y n t =>
   have hu := hr.units
   have a4n : a2q 1 _ := hr.mono (by decide)
   have b2z : a2q 4 _ := hr.mono (by decide)
   have c4z : a2q 4 _ := hr.mono (by decide)
   have a7w : a2q 3 _ := hr.mono (by decide)
   have f5r : a2q 3 _ := hr.mono (by decide)
   obtain ⟨oy, na, nb, tb⟩ := ok
   replace hl : H l = some (.lst [.str (fW y), .str (nW n), .str (nW t)]) := hl
   refine ⟨_, (a0k (c3j (a0u a5s a4n (by rfl) T.b3y T.a4l.kp T.a7q .nil a1k (a0g (pvF 0) (a0g a0l a0i))))
   (a0m (a1h (c6i T.h9s f7y f5r (by rfl) T.d4y T.c7r .nil a1k (a0g (a0u b6h b2z (by rfl) T.c7t T.a8r.kp T.b5w .nil a1k (a0g (a1s a6n (pvF 0) a0l (fun _ _ => rfl)) a0i)) (a0g (a0u c7y c4z (by rfl) T.d4p T.b1z.kp T.c1m .nil a1k (a0g (a1s a6n (pvF 0) a0l (fun _ _ => rfl)) a0i)) (a0g (a0u b0v a7w (by rfl) T.c1l T.a5p.kp T.b0o .nil a1k (a0g (a1s a6n (pvF 0) a0l (fun _ _ => rfl)) (a0g a0l (a0g (a9u (v := .int 16) (by rfl) T.b0t T.f1n) a0i)))) a0i))))))), ?_⟩
   walk_at "rd"
   refine ⟨_, hl, rfl, ?_⟩
   walk_at "rd*"
   refine ⟨y, rfl, oy, ?_⟩
   rintro _ H1 ⟨g, rfl, n1, S1, h1⟩
   have hl1 := S1 _ _ hl
   clear hl
   walk_at "rd*"
   refine ⟨n, rfl, na, nb, t, g8w t, by omega, by omega, by omega, ?_⟩
   intro x dx H2 n2 n3 nx S2 hdx hx
   refine ⟨dx, n, t, y.num, (y.den : Int), rfl, rfl, tb, oy.b.1, oy.b.2, S2 _ _ h1, hx, fun fa H3 B3 nf h3 hf => ?_⟩
   rw [asNew]
   refine ⟨rfl, ?_⟩
   have gx : g ≠ x := fun e => by rw [e] at h1; rw [h1] at n2; cases n2
   exact q x H3 (S1.free n2) (fun b u e => B3 _ _ (fun z => by rw [z] at e; rw [S1 _ _ e] at n2; cases n2) (S2 _ _ (S1 _ _ e))) ⟨dx, _, h3, g, fa, rfl, B3 _ _ gx (S2 _ _ h1), hf⟩
  | _ => simp [Dt.kd] at hk
theorem g2o (T : Tx K mg A) : a1p P A.wd K mg base CX0 6 A.b0m A.d0r ["values"] (h9z A 3) := by
 have a5s : a1p P A.wd K mg base CX0 1 _ _ _ _ := g9p T
 have b6h : a1p P A.wd K mg base CX0 4 _ _ _ _ := h4v T
 have c7y : a1p P A.wd K mg base CX0 4 _ _ _ _ := i0n T
 have f7z : a1p P A.wd K mg base CX0 1 _ _ _ _ := g9l T
 have a2s := T.a2s
 have a0y := T.a0y
 have a0z := T.a0z
 refine T.c4r.ok g1q (fun vs H Q E h => ?_) (fun cdv A' outer s H vs Q E hr h => ?_)
 ·match vs, h with
  | [.ref l], _ => rfl
 ·match vs, h with
  | [.ref l], ⟨d, hk, ok, hl, q⟩ =>
  cases d with
  | back y n =>
   have hu := hr.units
   have a4n : a2q 1 _ := hr.mono (by decide)
   have b2z : a2q 4 _ := hr.mono (by decide)
   have c4z : a2q 4 _ := hr.mono (by decide)
   have f5s : a2q 2 _ := hr.mono (by decide)
   obtain ⟨oy, na, nb⟩ := ok
   replace hl : H l = some (.lst [.str (fW y), .str (nW n)]) := hl
   refine ⟨_, (a0k (c3j (a0u a5s a4n (by rfl) T.b3y T.a4l.kp T.a7q .nil a1k (a0g (pvF 0) (a0g a0l a0i))))
   (a0m (a1h (c6i T.h9t f7z f5s (by rfl) T.d4z T.c7s .nil a1k (a0g (a0u b6h b2z (by rfl) T.c7t T.a8r.kp T.b5w .nil a1k (a0g (a1s a6n (pvF 0) a0l (fun _ _ => rfl)) a0i)) (a0g (a0u c7y c4z (by rfl) T.d4p T.b1z.kp T.c1m .nil a1k (a0g (a1s a6n (pvF 0) a0l (fun _ _ => rfl)) a0i)) a0i)))))), ?_⟩
   walk_at "rd"
   refine ⟨_, hl, rfl, ?_⟩
   walk_at "rd*"
   refine ⟨y, rfl, oy, ?_⟩
   rintro _ H1 ⟨g, rfl, n1, S1, h1⟩
   have hl1 := S1 _ _ hl
   clear hl
   walk_at "rd*"
   refine ⟨n, rfl, na, nb, ?_⟩
   intro x dx H2 n2 n3 nx S2 hdx hx
   refine ⟨dx, hx, fun H3 B3 h3 => ?_⟩
   rw [asNew]
   refine ⟨rfl, ?_⟩
   have gx : g ≠ x := fun e => by rw [e] at h1; rw [h1] at n2; cases n2
   exact q x H3 (S1.free n2) (fun b u e => B3 _ _ (fun z => by rw [z] at e; rw [S1 _ _ e] at n2; cases n2) (S2 _ _ (S1 _ _ e))) ⟨dx, _, h3, g, rfl, B3 _ _ gx (S2 _ _ h1)⟩
  | _ => simp [Dt.kd] at hk
theorem h4x (T : Tx K mg A) : a1p P A.wd K mg base CX0 8 A.b5p A.d0s ["word"] (h2a A) := by
 have g6w : a1p P A.wd K mg base CX0 6 _ _ _ _ := g2m T
 have g2p : a1p P A.wd K mg base CX0 6 _ _ _ _ := f7w T
 have g6x : a1p P A.wd K mg base CX0 6 _ _ _ _ := g2n T
 have g6y : a1p P A.wd K mg base CX0 6 _ _ _ _ := g2o T
 refine T.c4s.ok d9k (fun vs H Q E h => ?_) (fun cdv A' outer s H vs Q E hr h => ?_)
 ·match vs, h with
  | [.str x], _ => rfl
 ·match vs, h with
  | [.str x], ⟨d, ok, k4, hx, q⟩ =>
  subst hx
  have hu := hr.units
  have g2q : a2q 6 _ := hr.mono (by decide)
  have f8g : a2q 6 _ := hr.mono (by decide)
  have g2r : a2q 6 _ := hr.mono (by decide)
  have g2s : a2q 6 _ := hr.mono (by decide)
  have dk := T.g1y
  have sp := d.split
  have wl := d.wlen ok
  have vn := d.vn
  have hs : sizeLine = 16777216 := sizeLine_eq
  have d1 : ((⟨#[58]⟩ : Str).length == 0) = false := rfl
  obtain ⟨f, hf⟩ : ∃ f, PySem.W.nsIn K A.a2j d.kind = some (some (.ref f)) := by
   cases d with
   | gain => exact ⟨_, T.a4u⟩
   | delay => exact ⟨_, T.a3t⟩
   | echo => exact ⟨_, T.a4v⟩
   | back => exact ⟨_, T.a4w⟩
   | hall => exact absurd k4 (by simp [Dt.kd])
   | swell => exact absurd k4 (by simp [Dt.kd])
  refine ⟨_, (a0k (a8h (b8w (a7u (a1l (b3n .str) (by rfl) T.a2k boot_isinstance (a0g (pvF 0) (a0g (c0j (v := .ty "str") (u := .type "str") (by rfl) T.d2r rfl rfl) a0i)))))
   (a0m a6k)
   a2g)
   (a0k (a1o (i := 1) d9k.nd rfl (Or.inl rfl) (c8v c8u PySem.F.plainAttrs_str PySem.F.slot_str_split PySem.F.type_str_split f9m (pvF 0) (a0g b4z a0i)))
   (a0k (a8h (a1u (g5e (K := K) (w := A.wd) (by rfl) (by rfl)) (a1s a6n (pvF 1) a0l (fun _ _ => rfl)) (a9u (v := .ref A.a2j) (by rfl) T.a7r rfl) (by rfl))
   (a0m a6k)
   a2g)
   (a0m (a1h (a1y (d3g g6w g2q T.c4p.kp T.d4q .nil a1k (a1s (i1d (K := K) (w := A.wd) (by rfl) (by rfl)) (a9u (v := .ref A.a2j) (by rfl) T.a7r rfl) (a1s a6n (pvF 1) a0l (fun _ _ => rfl)) (fun _ _ => rfl)) (a0g (a9v g7h (pvF 1) (a7y a0l) b7p) a0i)) (a1y (d3g g2p f8g T.b9r.kp T.d0u .nil a1k (a1s (i1d (K := K) (w := A.wd) (by rfl) (by rfl)) (a9u (v := .ref A.a2j) (by rfl) T.a7r rfl) (a1s a6n (pvF 1) a0l (fun _ _ => rfl)) (fun _ _ => rfl)) (a0g (a9v g7h (pvF 1) (a7y a0l) b7p) a0i)) (a1y (d3g g6x g2r T.c4q.kp T.d4r .nil a1k (a1s (i1d (K := K) (w := A.wd) (by rfl) (by rfl)) (a9u (v := .ref A.a2j) (by rfl) T.a7r rfl) (a1s a6n (pvF 1) a0l (fun _ _ => rfl)) (fun _ _ => rfl)) (a0g (a9v g7h (pvF 1) (a7y a0l) b7p) a0i)) (d3g g6y g2s T.c4r.kp T.d4s .nil a1k (a1s (i1d (K := K) (w := A.wd) (by rfl) (by rfl)) (a9u (v := .ref A.a2j) (by rfl) T.a7r rfl) (a1s a6n (pvF 1) a0l (fun _ _ => rfl)) (fun _ _ => rfl)) (a0g (a9v g7h (pvF 1) (a7y a0l) b7p) a0i)))))))))), ?_⟩
  rw [i2s]
  walk_at "rd*"
  refine ⟨by omega, by omega, fun l H1 n1 S1 h1 => ?_⟩
  clear sp wl
  walk_at "rd*"
  clear hf
  cases d with
  | gain y =>
   refine Or.inl ?_
   have rd := T.a4u
   have q1 := ok
   clear ok
   replace h1 : H1 l = some (.lst [.str (Str.ofString "gain"), .str (fW y)]) := h1
   walk_at "rd*"
   refine fun m H2 n2 S2 h2 => ?_
   have e2 : f3k [V.str (Str.ofString "gain"), V.str (fW y)] (some 1) none = (Dt.gain y).vals.map V.str := by
    show f3y _ (some ((1 : Nat) : Int)) none = _
    rw [b2t]
    rfl
   rw [e2] at h2
   walk_at "rd"
   exact ⟨_, rfl, q1, h2, fun o H3 n3 S3 hp => q o H3 ((S1.trans S2).free n3) (S1.trans (S2.trans S3)) hp⟩
  | delay n =>
   refine Or.inr (Or.inl ?_)
   have rd := T.a3t
   have q1 := ok
   clear ok
   replace h1 : H1 l = some (.lst [.str (Str.ofString "delay"), .str (nW n)]) := h1
   walk_at "rd*"
   refine fun m H2 n2 S2 h2 => ?_
   have e2 : f3k [V.str (Str.ofString "delay"), V.str (nW n)] (some 1) none = (Dt.delay n).vals.map V.str := by
    show f3y _ (some ((1 : Nat) : Int)) none = _
    rw [b2t]
    rfl
   rw [e2] at h2
   walk_at "rd"
   exact ⟨_, rfl, q1, h2, fun o H3 n3 S3 hp => q o H3 ((S1.trans S2).free n3) (S1.trans (S2.trans S3)) hp⟩
  | echo y n t =>
   refine Or.inr (Or.inr (Or.inl ?_))
   have rd := T.a4v
   have q1 := ok
   clear ok
   replace h1 : H1 l = some (.lst [.str (Str.ofString "echo"), .str (fW y), .str (nW n), .str (nW t)]) := h1
   walk_at "rd*"
   refine fun m H2 n2 S2 h2 => ?_
   have e2 : f3k [V.str (Str.ofString "echo"), V.str (fW y), V.str (nW n), V.str (nW t)] (some 1) none = (Dt.echo y n t).vals.map V.str := by
    show f3y _ (some ((1 : Nat) : Int)) none = _
    rw [b2t]
    rfl
   rw [e2] at h2
   walk_at "rd"
   exact ⟨_, rfl, q1, h2, fun o H3 n3 S3 hp => q o H3 ((S1.trans S2).free n3) (S1.trans (S2.trans S3)) hp⟩
  | back y n =>
   refine Or.inr (Or.inr (Or.inr ?_))
   have rd := T.a4w
   have q1 := ok
   clear ok
   replace h1 : H1 l = some (.lst [.str (Str.ofString "back"), .str (fW y), .str (nW n)]) := h1
   walk_at "rd*"
   refine fun m H2 n2 S2 h2 => ?_
   have e2 : f3k [V.str (Str.ofString "back"), V.str (fW y), V.str (nW n)] (some 1) none = (Dt.back y n).vals.map V.str := by
    show f3y _ (some ((1 : Nat) : Int)) none = _
    rw [b2t]
    rfl
   rw [e2] at h2
   walk_at "rd"
   exact ⟨_, rfl, q1, h2, fun o H3 n3 S3 hp => q o H3 ((S1.trans S2).free n3) (S1.trans (S2.trans S3)) hp⟩
  | hall y n => exact absurd k4 (by simp [Dt.kd])
  | swell cs => exact absurd k4 (by simp [Dt.kd])
theorem a8t {C o : Addr} {i : Nat} {m : Str} {sp : Sp} {E : XK} {t : TA} {σ : L2.St} {H : Hp} {Q : VK} {dx : Addr} {fs : List (Str × V)} (hσ : σ[i]? = some (some (.ref o))) (ho : H o = some (.ins C dx fs)) (hl : fs.lookup m = none) (ht : t σ H fun vs H2 => sp (.ref o :: (vs ++ [])) H2 Q E) : a5t C m sp [] E (b3g i) t σ H Q := by
 simp only [a5t, b3g, hσ, ho]
 exact ⟨trivial, hl, ht⟩
theorem thr4 {σ : L2.St} {i : Nat} {o : Addr} {H : Hp} {d : Dt} {Q : VK} {E : XK} {t : TA} (hσ : σ[i]? = some (some (.ref o))) (hd : IsP A H o d) (ht : t σ H fun vs H2 => d8j A d.kd (.ref o :: (vs ++ [])) H2 Q E) :
  a7v (a5t A.a1z "through" (d8j A 0) [] E (b3g i) t) (a7v (a5t A.a1q "through" (d8j A 1) [] E (b3g i) t) (a7v (a5t A.a1r "through" (d8j A 2) [] E (b3g i) t) (a5t A.a1v "through" (d8j A 3) [] E (b3g i) t))) σ H Q := by
 cases d with
 | gain y =>
  obtain ⟨dx, _, ho, g, rfl, hg⟩ := hd
  refine .inl ?_
  replace ho : H o = some (.ins A.a1z dx [("gain", .ref g)]) := ho
  exact a8t hσ ho (by walk_at "rd") ht
 | delay n =>
  obtain ⟨dx, _, ho, rfl⟩ := hd
  refine .inr (.inl ?_)
  replace ho : H o = some (.ins A.a1q dx [("many", .int n)]) := ho
  exact a8t hσ ho (by walk_at "rd") ht
 | echo y n t' =>
  obtain ⟨dx, _, ho, g, fa, rfl, hg, hf⟩ := hd
  refine .inr (.inr (.inl ?_))
  replace ho : H o = some (.ins A.a1r dx (ecF g fa n t' (y.den : Int))) := ho
  unfold ecF at ho
  exact a8t hσ ho (by walk_at "rd") ht
 | back y n =>
  obtain ⟨dx, _, ho, g, rfl, hg⟩ := hd
  refine .inr (.inr (.inr ?_))
  replace ho : H o = some (.ins A.a1v dx [("gain", .ref g), ("many", .int n)]) := ho
  exact a8t hσ ho (by walk_at "rd") ht
 | _ => obtain ⟨_, _, _, z⟩ := hd; exact z.elim
theorem fr4 {σ : L2.St} {i : Nat} {o : Addr} {H : Hp} {d : Dt} {Q : VK} {E : XK} (hσ : σ[i]? = some (some (.ref o))) (hd : IsP A H o d) (q : ∀ st H1, Same H H1 -> StV H1 [] st d -> Q st H1) :
  a7v (a5t A.a1z "fresh" d1g [] E (b3g i) f0g) (a7v (a5t A.a1q "fresh" d1g [] E (b3g i) f0g) (a7v (a5t A.a1r "fresh" d1g [] E (b3g i) f0g) (a5t A.a1v "fresh" d1g [] E (b3g i) f0g))) σ H Q := by
 have k4 := hd.kd4
 have fin : All (b5i H []) Q ⟨⟩ ⟨⟩ := by
  rintro _ H1 ⟨p, rfl, n1, S1, h1⟩
  exact q _ H1 S1 (g9o k4 h1)
 clear k4
 cases d with
 | gain y =>
  obtain ⟨dx, _, ho, g, rfl, hg⟩ := hd
  refine .inl ?_
  replace ho : H o = some (.ins A.a1z dx [("gain", .ref g)]) := ho
  walk_at "rd*"
 | delay n =>
  obtain ⟨dx, _, ho, rfl⟩ := hd
  refine .inr (.inl ?_)
  replace ho : H o = some (.ins A.a1q dx [("many", .int n)]) := ho
  walk_at "rd*"
 | echo y n t' =>
  obtain ⟨dx, _, ho, g, fa, rfl, hg, hf⟩ := hd
  refine .inr (.inr (.inl ?_))
  replace ho : H o = some (.ins A.a1r dx (ecF g fa n t' (y.den : Int))) := ho
  unfold ecF at ho
  walk_at "rd*"
 | back y n =>
  obtain ⟨dx, _, ho, g, rfl, hg⟩ := hd
  refine .inr (.inr (.inr ?_))
  replace ho : H o = some (.ins A.a1v dx [("gain", .ref g), ("many", .int n)]) := ho
  walk_at "rd*"
 | _ => obtain ⟨_, _, _, z⟩ := hd; exact z.elim
theorem gr4 {σ : L2.St} {i : Nat} {o : Addr} {H : Hp} {d : Dt} {Q : VK} {E : XK} (hσ : σ[i]? = some (some (.ref o))) (hd : IsP A H o d) (q : Q (.int (b2j d)) H) :
  a7v (a5t A.a1z "grain" (f7o A 0) [] E (b3g i) f0g) (a7v (a5t A.a1q "grain" f1p [] E (b3g i) f0g) (a7v (a5t A.a1r "grain" (f7o A 2) [] E (b3g i) f0g) (a5t A.a1v "grain" (f7o A 3) [] E (b3g i) f0g))) σ H Q := by
 have z := hd
 cases d with
 | gain y =>
  obtain ⟨dx, _, ho, g, rfl, hg⟩ := hd
  refine .inl ?_
  replace ho : H o = some (.ins A.a1z dx [("gain", .ref g)]) := ho
  exact a8t hσ ho (by walk_at "rd") ⟨_, rfl, z, q⟩
 | delay n =>
  obtain ⟨dx, _, ho, rfl⟩ := hd
  refine .inr (.inl ?_)
  replace ho : H o = some (.ins A.a1q dx [("many", .int n)]) := ho
  walk_at "rd*"
  exact q
 | echo y n t' =>
  obtain ⟨dx, _, ho, g, fa, rfl, hg, hf⟩ := hd
  refine .inr (.inr (.inl ?_))
  replace ho : H o = some (.ins A.a1r dx (ecF g fa n t' (y.den : Int))) := ho
  unfold ecF at ho
  exact a8t hσ ho (by walk_at "rd") ⟨_, rfl, z, q⟩
 | back y n =>
  obtain ⟨dx, _, ho, g, rfl, hg⟩ := hd
  refine .inr (.inr (.inr ?_))
  replace ho : H o = some (.ins A.a1v dx [("gain", .ref g), ("many", .int n)]) := ho
  exact a8t hσ ho (by walk_at "rd") ⟨_, rfl, z, q⟩
 | _ => obtain ⟨_, _, _, z⟩ := hd; exact z.elim
theorem c7z : ∀ (ds : List Dt) (xs : List Int), (run ds xs).length = xs.length
 | [], xs => rfl
 | d :: ds, xs => (c7z ds (outs d [] xs)).trans (a4m d [] xs)
theorem f8h : ∀ (ds : List Dt) (a b : List Int), (blk ds a b).length = b.length
 | [], a, b => rfl
 | d :: ds, a, b => (f8h ds _ _).trans (a4m d a b)
theorem f2i : ∀ (ds : List Dt) (a b : List Int), run ds (a ++ b) = run ds a ++ blk ds a b
 | [], a, b => rfl
 | d :: ds, a, b => by
  show run ds (outs d [] (a ++ b)) = run ds (outs d [] a) ++ blk ds (outs d [] a) (outs d a b)
  rw [g9n, List.nil_append, f2i ds]
theorem g0i : ∀ (ds : List Dt) (d : Dt) (a b : List Int), blk (ds ++ [d]) a b = outs d (run ds a) (blk ds a b)
 | [], d, a, b => rfl
 | e :: ds, d, a, b => g0i ds d _ _
theorem d6j (b : Int) (ds : List Dt) (d : Dt) : a9s b (ds ++ [d]) = a9s b ds * b2j d := by
 unfold a9s
 rw [List.foldl_append]
 rfl
theorem d9t {X : Nat -> Int} {p q : Int} {t B : Nat} (bp : intBits p <= 10) (bq : intBits q <= 10) (ht : t <= 16) (hX : ∀ m, intBits (X m) <= B) : ∀ j, j <= t + 1 -> intBits (g2y X p q t j) <= B + 176 + j
 | 0, _ => by rw [g2y]; exact Nat.le_trans (by decide : intBits 0 <= 1) (by omega)
 | j + 1, h => by
  rw [g2y]
  have h1 := d9t bp bq ht hX j (by omega)
  have h2 : intBits (X j * g7k p q t j) <= B + 176 + j := Nat.le_trans (intBits_mul_le (hX j) (f5j bp bq ht (by omega))) (by omega)
  exact Nat.le_trans (intBits_add_le h1 h2) (by omega)
theorem g9q {d : Dt} {X : Int -> Int} {B : Nat} (ok : d.ok) (hX : ∀ i, intBits (X i) <= B) (i : Int) : intBits (tap (g7m d) X i) <= B + 200 := by
 have z0 : intBits 0 <= B + 30 := Nat.le_trans (by decide : intBits 0 <= 1) (by omega)
 cases d with
 | gain y =>
  have yb := YOk.b ok
  show intBits (y.num * X (i - ((0 : Nat) : Int)) + 0) <= _
  rw [Int.add_zero]
  exact Nat.le_trans (intBits_mul_le yb.1 (hX _)) (by omega)
 | delay n =>
  show intBits (1 * X (i - (n : Int)) + 0) <= _
  rw [Int.add_zero, Int.one_mul]
  exact Nat.le_trans (hX _) (by omega)
 | echo y n t =>
  have yb := YOk.b ok.1
  have ht := ok.2.2.2
  show intBits (tap ((List.range (t + 1)).map _) X i) <= _
  rw [d6h]
  exact Nat.le_trans (d9t yb.1 yb.2 ht (fun m => hX _) (t + 1) (Nat.le_refl _)) (by omega)
 | back y n =>
  have yb := YOk.b ok.1
  show intBits ((y.den : Int) * X (i - ((0 : Nat) : Int)) + (-y.num * X (i - (n : Int)) + 0)) <= _
  rw [Int.add_zero]
  have h1 : intBits ((y.den : Int) * X (i - ((0 : Nat) : Int))) <= 10 + B := intBits_mul_le yb.2 (hX _)
  have h2 : intBits (-y.num * X (i - (n : Int))) <= 10 + B := intBits_mul_le (intBits_neg_le yb.1) (hX _)
  exact Nat.le_trans (intBits_add_le h1 h2) (by omega)
 | hall y n => exact Nat.le_trans z0 (by omega)
 | swell cs => exact Nat.le_trans z0 (by omega)
theorem g9r {xs : List Int} {B : Nat} (h : ∀ y ∈ xs, intBits y <= B) (B1 : 1 <= B) (i : Int) : intBits (d5r xs i) <= B := by
 unfold d5r
 have z0 : intBits 0 <= B := Nat.le_trans (by decide : intBits 0 <= 1) B1
 split
 ·exact z0
 ·rw [List.getD_eq_getElem?_getD]
  cases e : xs[i.toNat]? with
  | none => exact z0
  | some y => exact h y (List.mem_of_getElem? e)
theorem d3i : ∀ {ds : List Dt} {xs : List Int} {B : Nat}, 1 <= B -> (∀ d ∈ ds, d.ok) -> (∀ y ∈ xs, intBits y <= B) -> ∀ y ∈ run ds xs, intBits y <= B + 200 * ds.length
 | [], xs, B, _, _, h, y, hy => by
  have := h y hy
  omega
 | d :: ds, xs, B, B1, ok, h, y, hy => by
  have := d3i (ds := ds) (xs := outs d [] xs) (B := B + 200) (by omega) (fun d hd => ok d (List.mem_cons_of_mem _ hd)) (fun y hy => by
   unfold outs at hy
   obtain ⟨i, _, rfl⟩ := List.mem_map.mp hy
   exact g9q (ok d List.mem_cons_self) (g9r h B1) _) y hy
  rw [List.length_cons]
  omega
theorem d1l {d : Dt} (ok : d.ok) : intBits (b2j d) <= 161 := by
 cases d with
 | gain y => exact Nat.le_trans (YOk.b ok).2 (by decide)
 | echo y n t => exact Nat.le_trans (a8g (YOk.b ok.1).2 t) (by have := ok.2.2.2; omega)
 | back y n => exact Nat.le_trans (YOk.b ok.1).2 (by decide)
 | _ => show intBits 1 <= 161; decide
theorem c1z : ∀ {ds : List Dt} {b : Int} {B : Nat}, (∀ d ∈ ds, d.ok) -> intBits b <= B -> intBits (a9s b ds) <= B + 161 * ds.length
 | [], b, B, _, h => by
  show intBits b <= _
  omega
 | d :: ds, b, B, ok, h => by
  have := c1z (ds := ds) (b := b * b2j d) (B := B + 161) (fun d hd => ok d (List.mem_cons_of_mem _ hd)) (intBits_mul_le h (d1l (ok d List.mem_cons_self)))
  rw [List.length_cons]
  show intBits (a9s (b * b2j d) ds) <= _
  omega
theorem g1z.same {A : Ad} {H H' : Hp} {os : List Addr} {ds : List Dt} (h : g1z A H os ds) (S : Same H H') : g1z A H' os ds := ⟨h.1, fun i o d e1 e2 => (h.2 i o d e1 e2).same S⟩
theorem Sts.same {H H' : Hp} {ds : List Dt} {sts : List V} {xs : List Int} (h : Sts H ds sts xs) (S : Same H H') : Sts H' ds sts xs := ⟨h.1, fun i o d e1 e2 => (h.2 i o d e1 e2).same S⟩
theorem ChS.same {A : Ad} {H H' : Hp} {o : Addr} {ds : List Dt} {xs : List Int} (h : ChS A H o ds xs) (S : Same H H') : ChS A H' o ds xs := by
 obtain ⟨dx, pl, sl, os, sts, h1, h2, h3, h4, h5⟩ := h
 exact ⟨dx, pl, sl, os, sts, S _ _ h1, S _ _ h2, S _ _ h3, h4.same S, h5.same S⟩
theorem Lk.lst {H : Hp} {D : Addr} {ys : List V} (h : H D = some (.lst ys)) : Lk H D := ⟨fun ts e => (by rw [h] at e; cases e), fun c dx fs e => (by rw [h] at e; cases e)⟩
theorem Lk.ins {H : Hp} {D : Addr} {c dx : Addr} {fs : List (Str × V)} (h : H D = some (.ins c dx fs)) (hf : fs = [] \/ (∃ pl : V, fs = ch1 pl) \/ ∃ pl sl, fs = chF pl sl) : Lk H D := ⟨fun ts e => (by rw [h] at e; cases e), fun c dx fs e => (by rw [h] at e; cases e; exact hf)⟩
theorem StV.c0i {D : Addr} {H H' : Hp} {xs : List Int} {st : V} {d : Dt} (h : StV H xs st d) (hD : Lk H D) (Z : a6i D H H') : StV H' xs st d := by
 have ne : ∀ {p : Addr} {ts : List V}, H p = some (.tup ts) -> H' p = some (.tup ts) := fun hp => Z _ _ (fun e => by rw [e] at hp; exact hD.1 _ hp) hp
 cases d with
 | gain y => exact h
 | delay n => obtain ⟨p, e, h⟩ := h; exact ⟨p, e, ne h⟩
 | echo y n t => obtain ⟨p, e, h⟩ := h; exact ⟨p, e, ne h⟩
 | back y n => obtain ⟨p, e, h⟩ := h; exact ⟨p, e, ne h⟩
 | _ => exact h.elim
theorem IsP.c0i {A : Ad} {D : Addr} {H H' : Hp} {o : Addr} {d : Dt} (h : IsP A H o d) (hD : Lk H D) (Z : a6i D H H') : IsP A H' o d := by
 have ne : ∀ {p : Addr} {ts : List V}, H p = some (.tup ts) -> H' p = some (.tup ts) := fun hp => Z _ _ (fun e => by rw [e] at hp; exact hD.1 _ hp) hp
 obtain ⟨dx, fs, h1, h2⟩ := h
 refine ⟨dx, fs, Z _ _ (fun e => ?_) h1, ?_⟩
 ·rw [e] at h1
  have np : ∀ {n : Str} {v : V} {r : List (Str × V)}, fs = (n, v) :: r → n ≠ ("parts" : Str) → False := fun e1 hn => by
   rcases hD.2 _ _ _ h1 with z | ⟨pl, z⟩ | ⟨pl, sl, z⟩ <;> rw [z] at e1
   ·cases e1
   ·injection e1 with e1 _
    injection e1 with e1 _
    exact hn e1.symm
   ·injection e1 with e1 _
    injection e1 with e1 _
    exact hn e1.symm
  cases d with
  | gain y => obtain ⟨g, e, _⟩ := h2; exact np e (by decide +kernel)
  | delay n => exact np h2 (by decide +kernel)
  | echo y n t => obtain ⟨g, fa, e, _⟩ := h2; exact np e (by decide +kernel)
  | back y n => obtain ⟨g, e, _⟩ := h2; exact np e (by decide +kernel)
  | _ => exact h2.elim
 ·cases d with
  | gain y => obtain ⟨g, e, h1⟩ := h2; exact ⟨g, e, ne h1⟩
  | delay n => exact h2
  | echo y n t => obtain ⟨g, fa, e, h1, h2⟩ := h2; exact ⟨g, fa, e, ne h1, ne h2⟩
  | back y n => obtain ⟨g, e, h1⟩ := h2; exact ⟨g, e, ne h1⟩
  | _ => exact h2.elim
theorem g1z.c0i {A : Ad} {D : Addr} {H H' : Hp} {os : List Addr} {ds : List Dt} (h : g1z A H os ds) (hD : Lk H D) (Z : a6i D H H') : g1z A H' os ds := ⟨h.1, fun i o d e1 e2 => (h.2 i o d e1 e2).c0i hD Z⟩
theorem Sts.snoc {H : Hp} {ds : List Dt} {d : Dt} {sts : List V} {st : V} {xs : List Int} (h : Sts H ds sts xs) (hs : StV H (run ds xs) st d) : Sts H (ds ++ [d]) (sts ++ [st]) xs := by
 obtain ⟨hl, h⟩ := h
 refine ⟨by rw [List.length_append, List.length_append, hl]; rfl, fun i s e h1 h2 => ?_⟩
 rcases Nat.lt_or_ge i ds.length with z | z
 ·rw [List.getElem?_append_left (by omega)] at h1
  rw [List.getElem?_append_left z] at h2
  rw [List.take_append_of_le_length (by omega)]
  exact h i s e h1 h2
 ·have hi := (List.getElem?_eq_some_iff.mp h2).1
  rw [List.length_append, List.length_singleton] at hi
  obtain rfl : i = ds.length := by omega
  rw [<- hl, List.getElem?_concat_length] at h1
  rw [List.getElem?_concat_length] at h2
  cases h1
  cases h2
  rw [List.take_append_of_le_length (Nat.le_refl _), List.take_length]
  exact hs
theorem Sts.c0i {D : Addr} {H H' : Hp} {ds : List Dt} {sts : List V} {xs : List Int} (h : Sts H ds sts xs) (hD : Lk H D) (Z : a6i D H H') : Sts H' ds sts xs := ⟨h.1, fun i o d e1 e2 => (h.2 i o d e1 e2).c0i hD Z⟩
theorem g1z.snoc {A : Ad} {H : Hp} {os : List Addr} {ds : List Dt} {o : Addr} {d : Dt} (h : g1z A H os ds) (hp : IsP A H o d) : g1z A H (os ++ [o]) (ds ++ [d]) := by
 obtain ⟨hl, h⟩ := h
 refine ⟨by rw [List.length_append, List.length_append, hl]; rfl, fun i s e h1 h2 => ?_⟩
 rcases Nat.lt_or_ge i ds.length with z | z
 ·rw [List.getElem?_append_left (by omega)] at h1
  rw [List.getElem?_append_left z] at h2
  exact h i s e h1 h2
 ·have hi := (List.getElem?_eq_some_iff.mp h2).1
  rw [List.length_append, List.length_singleton] at hi
  obtain rfl : i = ds.length := by omega
  rw [<- hl, List.getElem?_concat_length] at h1
  rw [List.getElem?_concat_length] at h2
  cases h1
  cases h2
  exact hp
theorem i0o (T : Tx K mg A) : a1p P A.wd K mg base CX0 9 A.b1q A.c7k ["words"] (i0a A) := by
 have g6z : a1p P A.wd K mg base CX0 8 _ _ _ _ := h4x T
 refine T.b9s.ok f7i (fun vs H Q E h => ?_) (fun cdv A' outer s H vs Q E hr h => ?_)
 ·match vs, h with
  | [.ref l], _ => rfl
 ·match vs, h with
  | [.ref l], ⟨ds, hl, l8, ok, q⟩ =>
  have hu := hr.units
  have g2t : a2q 8 _ := hr.mono (by decide)
  have hs : sizeLine = 16777216 := sizeLine_eq
  have z1 : ¬ (8 : Int) < (ds.length : Int) := by omega
  refine ⟨_, (a0k (a8h (b8w (a7u (a1l (b3n .lst) (by rfl) T.a2k boot_isinstance (a0g (pvF 0) (a0g (c0j (v := .ty "list") (u := .type "list") (by rfl) T.b6g rfl rfl) a0i)))))
   (a0m a6k)
   a2g)
   (a0k (a8h (a1u f6r (a1l a2m (by rfl) T.b4h boot_len (a0g (pvF 0) a0i)) (a9u (v := .int 8) (by rfl) T.b0u T.f1o) (a3k _))
   (a0m a6k)
   a2g)
   (a0m (a1h (c9z (b2m (pvF 0)) (fun _ _ _ _ _ => (a0u g6z g2t (by rfl) T.g5n T.c4s.kp T.d4t .nil a1k (a0g (pvF 0) a0i))) (d7l (sc := a0h b1j) (N := ["words"]) rfl rfl (by decide +kernel)) rfl))))), ?_⟩
  walk_at "rd*"
  refine ⟨⟨_, SqL.of hl⟩, fun D H2 n2 S2 h2 => ?_⟩
  refine c6g (xs := ds.map fun d => V.str d.word) (fun i ys H' => Same H H' /\ H' D = some (.lst ys) /\ ∃ os, ys = os.map V.ref /\ g1z A H' os (ds.take i)) ⟨S2, h2, [], rfl, by rw [List.take_zero]; exact ⟨rfl, fun i o d e => by simp at e⟩⟩ (by rw [List.length_map, hs]; omega) ?_ ?_ ?_
  ·intro i ys H' hi ⟨S', h', os, e, R⟩
   rw [List.length_map] at hi
   exact ⟨h', SqL.of (S' _ _ hl), by rw [e, List.length_map, R.1, List.length_take]; omega⟩
  ·intro i x ys H' hx ⟨S', h', os, e, R⟩
   rw [List.getElem?_map] at hx
   obtain ⟨d, hd, rfl⟩ := Option.map_eq_some_iff.mp hx
   obtain ⟨o1, o2⟩ := ok d (List.mem_of_getElem? hd)
   walk_at "rd"
   refine ⟨d, o1, o2, rfl, fun o H3 n3 S3 hp => ⟨S3 _ _ h', fun H4 B4 h4 => ⟨(S'.trans S3).step n2 B4, h4, os ++ [o], by rw [e, List.map_append]; rfl, ?_⟩⟩⟩
   rw [List.take_add_one, hd]
   exact ((R.same S3).snoc hp).c0i (Lk.lst (S3 _ _ h')) B4
  ·intro ys H3 ⟨S3, h3, os, e, R⟩
   rw [List.length_map, List.take_length] at R
   subst e
   exact q D os H3 n2 S3 h3 R
theorem f8i : ∀ (ds : List Dt), run ds [] = []
 | [] => rfl
 | d :: ds => f8i ds
theorem g0j (T : Tx K mg A) : a1p P A.wd K mg base CX0 10 A.a5g A.c0t ["self", "words"] (g5y A) := by
 have g2u : a1p P A.wd K mg base CX0 9 _ _ _ _ := i0o T
 have b7o : a1p P A.wd K mg base CX0 1 _ _ _ _ := g9m T
 have a3r := T.a3r
 have a1i := T.a1i
 have a1g := T.a1g
 have a2r := T.a2r
 have a0w := T.a0w
 have a1w := T.a1w
 have a0v := T.a0v
 have a2h := T.a2h
 have a0s := T.a0s
 have a0t := T.a0t
 have a0o := T.a0o
 have a0n := T.a0n
 have a0j := T.a0j
 have a2s := T.a2s
 have a0y := T.a0y
 have a0z := T.a0z
 refine T.b7l.ok f0y (fun vs H Q E h => ?_) (fun cdv A' outer s H vs Q E hr h => ?_)
 ·match vs, h with
  | [.ref o, .ref l], _ => rfl
 ·match vs, h with
  | [.ref o, .ref l], ⟨dx, ds, ho, hl, l8, ok, q⟩ =>
  have hu := hr.units
  have f8j : a2q 9 _ := hr.mono (by decide)
  have b4i : a2q 1 _ := hr.mono (by decide)
  have hs : sizeLine = 16777216 := sizeLine_eq
  refine ⟨_, (a0k (b3h (pvF 0) (a0u g2u f8j (by rfl) T.g1s T.b9s.kp T.d0v .nil a1k (a0g (pvF 1) a0i)) rfl)
   (a0m (b3h (pvF 0) (c9z (b2m (a2n (pvF 0) rfl)) (fun _ _ _ _ _ => (a1y (a1t (pvF 0) T.a2r T.f1i b7o b4i T.a9p .nil a1k) (a1y (a1t (pvF 0) T.a1w T.d7w b7o b4i T.a9p .nil a1k) (a1y (a1t (pvF 0) T.a2h T.f1k b7o b4i T.a9p .nil a1k) (a1t (pvF 0) T.a2s T.f1m b7o b4i T.a9p .nil a1k))))) (d7l (sc := a0h a6p) (N := ["self", "words"]) rfl rfl (by decide +kernel)) rfl) rfl))), ?_⟩
  walk_at "rd"
  refine ⟨ds, hl, l8, ok, fun pl os H1 np S1 hpl R => ?_⟩
  have ho1 := S1 _ _ ho
  walk_at "rd*"
  intro H2 B2 h2
  have no : o ≠ pl := fun e => by rw [<- e, ho] at np; cases np
  have Lo : Lk H1 o := Lk.ins ho1 (.inl rfl)
  have i1f := B2 _ _ no.symm hpl
  have R2 := R.c0i Lo B2
  clear hpl R ho ho1
  walk_at "rd*"
  refine ⟨⟨_, SqL.of i1f⟩, fun D H3 n3 S3 h3 => ?_⟩
  have ol := R2.1
  refine c6g (xs := os.map V.ref) (fun i ys H' => Same H2 H' /\ H' D = some (.lst ys) /\ Sts H' (ds.take i) ys []) ⟨S3, h3, rfl, fun i o d e => by simp at e⟩ (by rw [List.length_map, hs]; omega) ?_ ?_ ?_
  ·intro i ys H' hi ⟨S', h', R'⟩
   rw [List.length_map] at hi
   exact ⟨h', SqL.of (S' _ _ i1f), by rw [R'.1, List.length_take]; omega⟩
  ·intro i x ys H' hx ⟨S', h', R'⟩
   rw [List.getElem?_map] at hx
   obtain ⟨oi, hoi, rfl⟩ := Option.map_eq_some_iff.mp hx
   have hi := (List.getElem?_eq_some_iff.mp hoi).1
   have hd : ds[i]? = some (ds[i]'(by omega)) := List.getElem?_eq_getElem _
   have hp := (R2.2 i _ _ hoi hd).same S'
   generalize ds[i]'(by omega) = d at hd hp
   try walk_at "rd"
   refine fr4 rfl hp fun st H5 S5 hst => ⟨S5 _ _ h', fun H6 B6 h6 => ⟨(S'.trans S5).step n3 B6, h6, ?_⟩⟩
   rw [List.take_add_one, hd]
   exact ((R'.same S5).snoc (by rw [f8i]; exact hst)).c0i (Lk.lst (S5 _ _ h')) B6
  ·intro ys H4 ⟨S4, h4, R4⟩
   rw [List.length_map, ol, List.take_length] at R4
   have ho4 := S4 _ _ h2
   have i2x := S4 _ _ i1f
   have L4 : Lk H4 o := Lk.ins ho4 (.inr (.inl ⟨_, rfl⟩))
   have nd : o ≠ D := fun e => by rw [<- e, h2] at n3; cases n3
   clear h2 h3 i1f
   walk_at "rd*"
   intro H5 B5 h5
   exact q H5 (fun z u hz e => B5 _ _ hz (S4 _ _ (B2 _ _ hz (S1 _ _ e)))) ⟨dx, pl, D, os, ys, h5, B5 _ _ no.symm i2x, B5 _ _ nd.symm h4, (R2.same S4).c0i L4 B5, R4.c0i L4 B5⟩
theorem ChX.same {A : Ad} {H H' : Hp} {o Z : Addr} {ds : List Dt} {xs : List Int} (h : ChX A H o ds xs Z) (S : Same H H') : ChX A H' o ds xs Z := by
 obtain ⟨dx, pl, sl, os, sts, h1, h2, h3, h4, h5, h6⟩ := h
 exact ⟨dx, pl, sl, os, sts, S _ _ h1, S _ _ h2, S _ _ h3, h4.same S, h5.same S, h6⟩
theorem ChX.c0i {A : Ad} {H H' : Hp} {o Z : Addr} {ds : List Dt} {xs : List Int} (h : ChX A H o ds xs Z) (hZ : Lk H Z) (B : a6i Z H H') : ChX A H' o ds xs Z := by
 obtain ⟨dx, pl, sl, os, sts, h1, h2, h3, h4, h5, h6, h7, h8⟩ := h
 exact ⟨dx, pl, sl, os, sts, B _ _ h8 h1, B _ _ h6 h2, B _ _ h7 h3, h4.c0i hZ B, h5.c0i hZ B, h6, h7, h8⟩
theorem ChS.x {A : Ad} {H : Hp} {o Z : Addr} {ds : List Dt} {xs : List Int} (h : ChS A H o ds xs) (hZ : H Z = none) : ChX A H o ds xs Z := by
 obtain ⟨dx, pl, sl, os, sts, h1, h2, h3, h4, h5⟩ := h
 exact ⟨dx, pl, sl, os, sts, h1, h2, h3, h4, h5, fun e => (by rw [e, hZ] at h2; cases h2), fun e => (by rw [e, hZ] at h3; cases h3), fun e => (by rw [e, hZ] at h1; cases h1)⟩
theorem h4y (T : Tx K mg A) : a1p P A.wd K mg base CX0 3 A.a3j A.b3l ["self", "tops", "bottom"] (h2b A) := by
 have d8k : a1p P A.wd K mg base CX0 2 _ _ _ _ := g6t T
 have d6k : a1p P A.wd K mg base CX0 2 _ _ _ _ := g2k T
 have d8l : a1p P A.wd K mg base CX0 2 _ _ _ _ := g6u T
 have d8m : a1p P A.wd K mg base CX0 2 _ _ _ _ := g6v T
 have c5g : a1p P A.wd K mg base CX0 1 _ _ _ _ := f5k T
 have c5h : a1p P A.wd K mg base CX0 1 _ _ _ _ := f5m T
 have c5i : a1p P A.wd K mg base CX0 1 _ _ _ _ := f5n T
 have c5j : a1p P A.wd K mg base CX0 1 _ _ _ _ := f5o T
 have a3r := T.a3r
 have a1i := T.a1i
 have a1g := T.a1g
 have a2r := T.a2r
 have a0w := T.a0w
 have a1w := T.a1w
 have a0v := T.a0v
 have a2h := T.a2h
 have a0s := T.a0s
 have a0t := T.a0t
 have a0o := T.a0o
 have a0n := T.a0n
 have a0j := T.a0j
 have a2s := T.a2s
 have a0y := T.a0y
 have a0z := T.a0z
 refine T.b0p.ok a3l (fun vs H Q E h => ?_) (fun cdv A' outer s H vs Q E hr h => ?_)
 ·match vs, h with
  | [.ref o, .ref l, .int b], _ => rfl
 ·match vs, h with
  | [.ref o, .ref l, .int b], ⟨ds, xs, ys, Z, ⟨dx, pl, sl, os, sts, ho, hpl, hsl, R, ST, npZ, nsZ, noZ⟩, ⟨uZ, hZ⟩, hl, l8, ok, lx, ly, bb, hb, q⟩ =>
  have hu := hr.units
  have d6l : a2q 2 _ := hr.mono (by decide)
  have d2w : a2q 2 _ := hr.mono (by decide)
  have d6m : a2q 2 _ := hr.mono (by decide)
  have d6n : a2q 2 _ := hr.mono (by decide)
  have c2g : a2q 1 _ := hr.mono (by decide)
  have c2h : a2q 1 _ := hr.mono (by decide)
  have c2i : a2q 1 _ := hr.mono (by decide)
  have c2j : a2q 1 _ := hr.mono (by decide)
  unfold chF at ho
  refine ⟨_, (a0k (a1o (i := 3) a3l.nd rfl (Or.inl rfl) (a9w (a0g (a2i a8u (by rfl) T.b6g boot_list (a0g (pvF 1) a0i)) (a0g (pvF 2) a0i))))
   (a0k (a1o (i := 4) a3l.nd rfl (Or.inl rfl) (c3o a0i))
   (a0k (b7r PassesOwn.never rfl (h1g (by rfl) T.g1w (a0g (a2n (pvF 0) rfl) (a0g (a2n (pvF 0) rfl) a0i))) (g5a (n := 2) rfl (c9h (b0w (i := 5) a3l.nd rfl (Or.inl rfl)) (c9h (b0w (i := 6) a3l.nd rfl (Or.inl rfl)) f9o)))
   (a0k (a1o (i := 7) a3l.nd rfl (Or.inl rfl) (a1y (c8z (pvF 5) T.a2r T.d5g d8k d6l T.b8l .nil a1k (a0g (pvF 6) (a0g (a1s a6n (pvF 3) a0l (fun _ _ => rfl)) (a0g (a1s a6n (pvF 3) a0l (fun _ _ => rfl)) a0i)))) (a1y (c8z (pvF 5) T.a1w T.d2s d6k d2w T.b5v .nil a1k (a0g (pvF 6) (a0g (a1s a6n (pvF 3) a0l (fun _ _ => rfl)) (a0g (a1s a6n (pvF 3) a0l (fun _ _ => rfl)) a0i)))) (a1y (c8z (pvF 5) T.a2h T.d5i d8l d6m T.b8m .nil a1k (a0g (pvF 6) (a0g (a1s a6n (pvF 3) a0l (fun _ _ => rfl)) (a0g (a1s a6n (pvF 3) a0l (fun _ _ => rfl)) a0i)))) (c8z (pvF 5) T.a2s T.d5j d8m d6n T.b8n .nil a1k (a0g (pvF 6) (a0g (a1s a6n (pvF 3) a0l (fun _ _ => rfl)) (a0g (a1s a6n (pvF 3) a0l (fun _ _ => rfl)) a0i))))))))
   (a0k (a1o (i := 3) a3l.nd rfl (Or.inl rfl) (a9w (a0g (a1s a6n (pvF 7) a0l (fun _ _ => rfl)) (a0g (a1j a4o (a1s a6n (pvF 3) a0l (fun _ _ => rfl)) (a1y (a1t (pvF 5) T.a2r T.c9o c5h c2h T.b6w .nil a1k) (a1y (a1t (pvF 5) T.a1w T.c6u c5g c2g T.b6s .nil a1k) (a1y (a1t (pvF 5) T.a2h T.c9p c5i c2i T.b7g .nil a1k) (a1t (pvF 5) T.a2s T.c9r c5j c2j T.b7j .nil a1k))))) a0i))))
   (a0m (c3j (c8v c8t PySem.F.plainAttrs_list PySem.F.slot_list_append PySem.F.type_list_append c6h (pvF 4) (a0g (a1s a6n (pvF 7) a0l (fun _ _ => rfl)) a0i)))))))
   (a0k (b3h (pvF 0) (pvF 4) rfl)
   (a0m (a1h (pvF 3))))))), ?_⟩
  walk_at "rd*"
  refine fun l1 H1 n1 S1 h1 => ?_
  walk_at "rd"
  refine fun r2 H2 n2 S2 h2 => ?_
  walk_at "rd"
  refine ⟨by decide, fun D H3 n3 S3 h3 => ?_⟩
  have S02 := S1.trans S2
  have S03 := S02.trans S3
  have ho3 := S03 _ _ ho
  have i5f := S03 _ _ hpl
  have i5g := S03 _ _ hsl
  walk_at "rd*"
  have ol := R.1
  have sl' := ST.1
  have nl : l1 ≠ D := fun e => by rw [<- e, S2 _ _ h1] at n3; cases n3
  have h13 := S3 _ _ (S2 _ _ h1)
  have h23 := S3 _ _ h2
  have bl := d3i (ds := ds) (xs := xs ++ ys) (B := 64) (by decide)
  obtain ⟨Pv, pin, pout⟩ := f0m (fun i σ H' => ∃ (rr lo : Addr) (sts' : List V) (v5 v6 v7 : Option V), σ = [some (.ref o), some (.ref l), some (.int b), some (.ref rr), some (.ref D), v5, v6, v7] /\ Same H2 H' /\ H' rr = some (.tup [.ref lo, .int (a9s b (ds.take i))]) /\ H' lo = some (.lst ((blk (ds.take i) xs ys).map V.int)) /\ lo ≠ D /\ H rr = none /\ H lo = none /\ H' D = some (.lst sts') /\ Sts H' (ds.take i) sts' (xs ++ ys))
  refine f9q (xs := os.map V.ref) (ys := sts) Pv (pin _ _ _ ⟨_, _, [], _, _, _, rfl, S3, h23, h13, nl, S1.free n2, n1, h3, rfl, fun i o d e => by simp at e⟩) ?_ ?_ ?_
  ·intro i σ H4 hp
   obtain ⟨rr, lo, sts', v5, v6, v7, rfl, S4, _⟩ := pout _ _ _ hp
   exact ⟨SqL.of (S4 _ _ (S02 _ _ hpl)), SqL.of (S4 _ _ (S02 _ _ hsl))⟩
  ·intro i x y σ H4 p H5 hx hy hp np S5 h5
   obtain ⟨rr, lo, sts', v5, v6, v7, rfl, S4, hrr, hlo, nlo, fr, fl, hD, R4⟩ := pout _ _ _ hp
   rw [List.getElem?_map] at hx
   obtain ⟨oi, hoi, rfl⟩ := Option.map_eq_some_iff.mp hx
   have hi := (List.getElem?_eq_some_iff.mp hoi).1
   have hd : ds[i]? = some (ds[i]'(by omega)) := List.getElem?_eq_getElem _
   have hp := R.2 i _ _ hoi hd
   have hst := ST.2 i _ _ hy hd
   have okd := ok _ (List.mem_of_getElem? hd)
   have et : ds.take (i + 1) = ds.take i ++ [ds[i]'(by omega)] := by rw [List.take_add_one, hd]; rfl
   generalize ds[i]'(by omega) = d at hd hp hst okd et
   have S05 := S02.trans (S4.trans S5)
   have i5h := S5 _ _ hrr
   have hlo5 := S5 _ _ hlo
   have hp5 := hp.same S05
   have i5i := hst.same S05
   clear hp hst hrr hlo h13 h23 h2 h1 ho3 i5f i5g
   walk_at "rd*"
   refine thr4 (by rfl) hp5 ?_
   walk_at "rd*"
   have bt : ∀ z ∈ run (ds.take i) xs ++ blk (ds.take i) xs ys, intBits z <= 100000 := by
    rw [<- f2i]
    intro z hz
    have h1 := d3i (ds := ds.take i) (xs := xs ++ ys) (B := 64) (by decide) (fun d hd => ok d (List.mem_of_mem_take hd)) hb z hz
    have h2 : (ds.take i).length <= 8 := by rw [List.length_take]; omega
    omega
   refine ⟨d, rfl, hp5, okd, _, i5i, _, rfl, by rw [c7z]; omega, by rw [f8h]; omega, bt, fun r ou st' H6 S6 nr no h6 ho6 hst6 => ?_⟩
   have hrr6 := S6 _ _ i5h
   have hp6 := hp5.same S6
   have nou : ou ≠ D := fun e => by rw [e, S5 _ _ hD] at no; cases no
   clear i5h hlo5 hp5 i5i bt
   walk_at "rd*"
   refine gr4 (by rfl) hp6 ?_
   walk_at "rd*"
   have gb := c1z (ds := ds.take i) (b := b) (B := 64) (fun d hd => ok d (List.mem_of_mem_take hd)) bb
   have tl : (ds.take i).length <= 8 := by rw [List.length_take]; omega
   refine ⟨IntMulOk.of_le (Nat.le_trans gb (by omega : _ <= 64 + 161 * 8)) (d1l okd) (by decide), fun r7 H7 n7 S7 h7 => ?_⟩
   have h67 := S7 _ _ h6
   have hD7 := S7 _ _ (S6 _ _ (S5 _ _ hD))
   have R7 := ((R4.same S5).same S6).same S7
   clear h6 hrr6 hp6
   have sl7 := R7.1
   walk_at "rd*"
   refine ⟨by rw [sizeLine_eq]; omega, ?_⟩
   rintro _ H8 ⟨rfl, B8, h8⟩
   have nr7 : r7 ≠ D := fun e => by rw [e, S6 _ _ (S5 _ _ hD)] at n7; cases n7
   refine pin _ _ _ ⟨r7, ou, sts' ++ [st'], _, _, _, rfl, (S4.trans (S5.trans (S6.trans S7))).step n3 B8, ?_, ?_, nou, (S05.trans S6).free n7, S05.free no, h8, ?_⟩
   ·rw [et, d6j]
    exact B8 _ _ nr7 h7
   ·rw [et, g0i]
    exact B8 _ _ nou (S7 _ _ ho6)
   ·rw [et]
    refine (R7.snoc ?_).c0i (Lk.lst hD7) B8
    rw [f2i]
    exact hst6.same S7
  ·intro σ H4 hp
   obtain ⟨rr, lo, sts', v5, v6, v7, rfl, S4, hrr, hlo, nlo, fr, fl, hD, R4⟩ := pout _ _ _ hp
   rw [List.length_map, ol, sl', Nat.min_self, List.take_length] at R4 hrr hlo
   have S04 := S02.trans S4
   have ho4 := S04 _ _ ho
   have i2x := S04 _ _ hpl
   have L4 : Lk H4 o := Lk.ins ho4 (.inr (.inr ⟨_, _, rfl⟩))
   have nDZ : D ≠ Z := fun e => by rw [e, S02 _ _ hZ] at n3; cases n3
   have nD : D ≠ o := fun e => by rw [e, S02 _ _ ho] at n3; cases n3
   have npl : pl ≠ o := fun e => by rw [e, ho] at hpl; cases hpl
   have nrr : rr ≠ o := fun e => by rw [e, ho] at fr; cases fr
   have nlo2 : lo ≠ o := fun e => by rw [e, ho] at fl; cases fl
   clear ho3 i5f i5g h13 h23 h1 h2 h3
   walk_at "rd*"
   intro H5 B5 h5
   try walk_at "rd*"
   exact q rr lo H5 (fun z u hz e => B5 _ _ hz (S04 _ _ e)) fr fl (B5 _ _ nrr hrr) (B5 _ _ nlo2 hlo) ⟨dx, pl, D, os, sts', h5, B5 _ _ npl i2x, B5 _ _ nD hD, (R.same S04).c0i L4 B5, R4.c0i L4 B5, npZ, nDZ, noZ⟩
theorem wg4 {σ : L2.St} {i : Nat} {o : Addr} {H : Hp} {d : Dt} {Q : VK} {E : XK} (hσ : σ[i]? = some (some (.ref o))) (hd : IsP A H o d) (ok : d.ok) (q : All (b5i H (d0h (a6l d))) Q ⟨⟩ ⟨⟩) :
  a7v (a5t A.a1z "weight" (d5m A.a1z) [] E (b3g i) f0g) (a7v (a5t A.a1q "weight" (d1i A.a1q) [] E (b3g i) f0g) (a7v (a5t A.a1r "weight" (d5o A.a1r) [] E (b3g i) f0g) (a5t A.a1v "weight" (d5q A.a1v) [] E (b3g i) f0g))) σ H Q := by
 cases d with
 | gain y =>
  obtain ⟨dx, _, ho, g, rfl, hg⟩ := hd
  refine .inl ?_
  replace ho : H o = some (.ins A.a1z dx [("gain", .ref g)]) := ho
  exact a8t hσ ho (by walk_at "rd") ⟨_, _, ⟨dx, g, y, ho, hg, rfl, rfl⟩, q⟩
 | delay n =>
  obtain ⟨dx, _, ho, rfl⟩ := hd
  refine .inr (.inl ?_)
  replace ho : H o = some (.ins A.a1q dx [("many", .int n)]) := ho
  exact a8t hσ ho (by walk_at "rd") ⟨_, _, ⟨dx, n, ho, rfl, rfl⟩, q⟩
 | echo y n t' =>
  obtain ⟨dx, _, ho, g, fa, rfl, hg, hf⟩ := hd
  refine .inr (.inr (.inl ?_))
  have z := ho
  replace ho : H o = some (.ins A.a1r dx (ecF g fa n t' (y.den : Int))) := ho
  unfold ecF at ho
  have dp : 1 <= (y.den : Int) := by have := y.den_pos; omega
  exact a8t hσ ho (by walk_at "rd") ⟨_, _, ⟨y.num, y.den, n, t', ⟨dx, g, fa, z, hg, hf⟩, ok.2.2.1, ok.2.2.2, dp, ok.1.b.1, ok.1.b.2, rfl, rfl⟩, q⟩
 | back y n =>
  obtain ⟨dx, _, ho, g, rfl, hg⟩ := hd
  refine .inr (.inr (.inr ?_))
  replace ho : H o = some (.ins A.a1v dx [("gain", .ref g), ("many", .int n)]) := ho
  exact a8t hσ ho (by walk_at "rd") ⟨_, _, ⟨dx, g, n, y, ho, hg, ok.1.b.1, ok.1.b.2, rfl, rfl⟩, q⟩
 | _ => obtain ⟨_, _, _, z⟩ := hd; exact z.elim
theorem rc4 {σ : L2.St} {i : Nat} {o : Addr} {H : Hp} {d : Dt} {Q : VK} {E : XK} (hσ : σ[i]? = some (some (.ref o))) (hd : IsP A H o d) (ok : d.ok) (q : Q (.int (reachOf d)) H) :
  a7v (a5t A.a1z "reach" (d5l A.a1z) [] E (b3g i) f0g) (a7v (a5t A.a1q "reach" (d1h A.a1q) [] E (b3g i) f0g) (a7v (a5t A.a1r "reach" (d5n A.a1r) [] E (b3g i) f0g) (a5t A.a1v "reach" (d5p A.a1v) [] E (b3g i) f0g))) σ H Q := by
 cases d with
 | gain y =>
  obtain ⟨dx, _, ho, g, rfl, hg⟩ := hd
  refine .inl ?_
  replace ho : H o = some (.ins A.a1z dx [("gain", .ref g)]) := ho
  exact a8t hσ ho (by walk_at "rd") ⟨_, _, ⟨dx, g, y, ho, hg, rfl, rfl⟩, q⟩
 | delay n =>
  obtain ⟨dx, _, ho, rfl⟩ := hd
  refine .inr (.inl ?_)
  replace ho : H o = some (.ins A.a1q dx [("many", .int n)]) := ho
  exact a8t hσ ho (by walk_at "rd") ⟨_, _, ⟨dx, n, ho, rfl, rfl⟩, q⟩
 | echo y n t' =>
  obtain ⟨dx, _, ho, g, fa, rfl, hg, hf⟩ := hd
  refine .inr (.inr (.inl ?_))
  have z := ho
  replace ho : H o = some (.ins A.a1r dx (ecF g fa n t' (y.den : Int))) := ho
  unfold ecF at ho
  have dp : 1 <= (y.den : Int) := by have := y.den_pos; omega
  exact a8t hσ ho (by walk_at "rd") ⟨_, _, ⟨y.num, y.den, n, t', ⟨dx, g, fa, z, hg, hf⟩, ok.2.2.1, ok.2.2.2, dp, ok.1.b.1, ok.1.b.2, rfl, rfl⟩, q⟩
 | back y n =>
  obtain ⟨dx, _, ho, g, rfl, hg⟩ := hd
  refine .inr (.inr (.inr ?_))
  replace ho : H o = some (.ins A.a1v dx [("gain", .ref g), ("many", .int n)]) := ho
  exact a8t hσ ho (by walk_at "rd") ⟨_, _, ⟨dx, g, n, y, ho, hg, ok.1.b.1, ok.1.b.2, rfl, rfl⟩, q⟩
 | _ => obtain ⟨_, _, _, z⟩ := hd; exact z.elim
theorem d6o {d : Dt} (ok : d.ok) (fw : Few d) : intBits (a6l d).num <= 60 /\ intBits ((a6l d).den : Int) <= 60 := by
 cases d with
 | gain y =>
  have yb := YOk.b ok
  show intBits (Rat.abs y).num <= 60 /\ intBits ((Rat.abs y).den : Int) <= 60
  rw [f1r, f1s]
  exact ⟨Nat.le_trans (intBits_natAbs_le yb.1) (by decide), Nat.le_trans yb.2 (by decide)⟩
 | echo y n t =>
  have yb := YOk.b ok.1
  have t4 : t <= 4 := fw
  have dp : 0 < (y.den : Int) ^ t := Int.pow_pos (by have := y.den_pos; omega)
  have fl := f2g y.num (y.den : Int) t
  have sb : intBits ((d8i y.num (y.den : Int) t).map fun f => (f.natAbs : Int)).sum <= 42 + ((d8i y.num (y.den : Int) t).map fun f => (f.natAbs : Int)).length := d5w fun f hf => by
   obtain ⟨g, hg, rfl⟩ := List.mem_map.mp hf
   unfold d8i at hg
   obtain ⟨j, hj, rfl⟩ := List.mem_map.mp hg
   rw [List.mem_range] at hj
   exact intBits_natAbs_le (Nat.le_trans (intBits_mul_le (a8g yb.1 j) (a8g yb.2 (t - j))) (by omega))
  rw [List.length_map, fl] at sb
  exact ⟨f1t (by omega) (by omega), f1u (by omega) (Nat.le_trans (a8g yb.2 t) (by omega))⟩
 | back y n =>
  have yb := YOk.b ok.1
  have ab : intBits (Rat.abs y).num <= 10 := by rw [f1r]; exact intBits_natAbs_le yb.1
  have ad : intBits ((Rat.abs y).den : Int) <= 10 := by rw [f1s]; exact yb.2
  have := g2c (x := 1) (y := Rat.abs y) (a := 10) (by decide) (by decide) ab ad
  exact ⟨Nat.le_trans this.1 (by decide), Nat.le_trans this.2 (by decide)⟩
 | _ => exact ⟨by show intBits 1 <= 60; decide, by show intBits 1 <= 60; decide⟩
theorem i0p (T : Tx K mg A) : a1p P A.wd K mg base CX0 2 A.a4j A.b8g ["self"] (i0c A) := by
 have c5g : a1p P A.wd K mg base CX0 1 _ _ _ _ := f5k T
 have c5h : a1p P A.wd K mg base CX0 1 _ _ _ _ := f5m T
 have c5i : a1p P A.wd K mg base CX0 1 _ _ _ _ := f5n T
 have c5j : a1p P A.wd K mg base CX0 1 _ _ _ _ := f5o T
 have a3r := T.a3r
 have a1i := T.a1i
 have a1g := T.a1g
 have a2r := T.a2r
 have a0w := T.a0w
 have a1w := T.a1w
 have a0v := T.a0v
 have a2h := T.a2h
 have a0s := T.a0s
 have a0t := T.a0t
 have a0o := T.a0o
 have a0n := T.a0n
 have a0j := T.a0j
 have a2s := T.a2s
 have a0y := T.a0y
 have a0z := T.a0z
 refine T.b3z.ok b2n (fun vs H Q E h => ?_) (fun cdv A' outer s H vs Q E hr h => ?_)
 ·match vs, h with
  | [.ref o], _ => rfl
 ·match vs, h with
  | [.ref o], ⟨ds, xs, ⟨dx, pl, sl, os, sts, ho, hpl, hsl, R, ST⟩, l8, ok, q⟩ =>
  have hu := hr.units
  have c2g : a2q 1 _ := hr.mono (by decide)
  have c2h : a2q 1 _ := hr.mono (by decide)
  have c2i : a2q 1 _ := hr.mono (by decide)
  have c2j : a2q 1 _ := hr.mono (by decide)
  unfold chF at ho
  have ol := R.1
  refine ⟨_, (a0k (a1o (i := 1) b2n.nd rfl (Or.inl rfl) a0l)
   (a0k (b7r PassesOwn.never rfl (b2m (a2n (pvF 0) rfl)) (b0w (i := 2) b2n.nd rfl (Or.inl rfl))
   (a0m (a1o (i := 1) b2n.nd rfl (Or.inl rfl) (a1j a4o (pvF 1) (a1y (a1t (pvF 2) T.a2r T.c9o c5h c2h T.b6w .nil a1k) (a1y (a1t (pvF 2) T.a1w T.c6u c5g c2g T.b6s .nil a1k) (a1y (a1t (pvF 2) T.a2h T.c9p c5i c2i T.b7g .nil a1k) (a1t (pvF 2) T.a2s T.c9r c5j c2j T.b7j .nil a1k))))))))
   (a0m (a1h (pvF 1))))), ?_⟩
  walk_at "rd*"
  refine ⟨⟨_, SqL.of hpl⟩, ?_⟩
  obtain ⟨Pv, pin, pout⟩ := f0m (fun i σ H' => ∃ v : Option V, σ = [some (.ref o), some (.int (a9s 1 (ds.take i))), v] /\ H' = H)
  refine c3m (xs := os.map V.ref) Pv (pin _ _ _ ⟨_, rfl, rfl⟩) ?_ ?_ ?_
  ·intro i σ H2 hi hp
   obtain ⟨v, rfl, rfl⟩ := pout _ _ _ hp
   exact SqL.of hpl
  ·intro i v σ H2 hv hp
   rw [List.getElem?_map] at hv
   obtain ⟨oi, hoi, rfl⟩ := Option.map_eq_some_iff.mp hv
   obtain ⟨v, rfl, rfl⟩ := pout _ _ _ hp
   have hi := (List.getElem?_eq_some_iff.mp hoi).1
   have hd : ds[i]? = some (ds[i]'(by omega)) := List.getElem?_eq_getElem _
   have hp := R.2 i _ _ hoi hd
   have okd := ok _ (List.mem_of_getElem? hd)
   have et : ds.take (i + 1) = ds.take i ++ [ds[i]'(by omega)] := by rw [List.take_add_one, hd]; rfl
   generalize ds[i]'(by omega) = d at hd hp okd et
   walk_at "rd"
   refine gr4 (by rfl) hp ?_
   walk_at "rd"
   have gb := c1z (ds := ds.take i) (b := 1) (B := 64) (fun d hd => ok d (List.mem_of_mem_take hd)) (by decide)
   have tl : (ds.take i).length <= 8 := by rw [List.length_take]; omega
   refine ⟨IntMulOk.of_le (Nat.le_trans gb (by omega : _ <= 64 + 161 * 8)) (d1l okd) (by decide), pin _ _ _ ⟨some (.ref oi), by rw [et, d6j], rfl⟩⟩
  ·intro σ H2 hp
   obtain ⟨v, rfl, rfl⟩ := pout _ _ _ hp
   rw [List.length_map, ol, List.take_length]
   walk_at "rd"
   exact q
theorem g0k (ds : List Dt) (d : Dt) : wts (ds ++ [d]) = wts ds * a6l d := by
 unfold wts
 rw [List.foldl_append]
 rfl
theorem g0l : ∀ (k : Nat) (ds : List Dt), ds.length = k -> (∀ d ∈ ds, d.ok /\ Few d) -> intBits (wts ds).num <= 1 + 60 * k /\ intBits ((wts ds).den : Int) <= 1 + 60 * k
 | 0, ds, h, _ => by
  obtain rfl := List.eq_nil_of_length_eq_zero h
  exact ⟨by decide, by decide⟩
 | k + 1, ds, h, ok => by
  have hne : ds ≠ [] := fun e => by rw [e] at h; cases h
  have e := List.dropLast_concat_getLast hne
  rw [<- e, g0k]
  have hl : ds.dropLast.length = k := by rw [List.length_dropLast]; omega
  have ih := g0l k ds.dropLast hl fun d hd => ok d (List.dropLast_subset _ hd)
  have hw := d6o (ok _ (List.getLast_mem hne)).1 (ok _ (List.getLast_mem hne)).2
  have := g6i ih.1 ih.2 hw.1 hw.2
  exact ⟨Nat.le_trans this.1 (by omega), Nat.le_trans this.2 (by omega)⟩
theorem i0q (T : Tx K mg A) : a1p P A.wd K mg base CX0 5 A.a3o A.b5q ["self"] (i0d A) := by
 have h4z : a1p P A.wd K mg base CX0 3 _ _ _ _ := h4m T
 have f2j : a1p P A.wd K mg base CX0 1 _ _ _ _ := f7t T
 have f2k : a1p P A.wd K mg base CX0 2 _ _ _ _ := g2e T
 have f2l : a1p P A.wd K mg base CX0 3 _ _ _ _ := g2i T
 have f2m : a1p P A.wd K mg base CX0 4 _ _ _ _ := g2g T
 have a3r := T.a3r
 have a1i := T.a1i
 have a1g := T.a1g
 have a2r := T.a2r
 have a0w := T.a0w
 have a1w := T.a1w
 have a0v := T.a0v
 have a2h := T.a2h
 have a0s := T.a0s
 have a0t := T.a0t
 have a0o := T.a0o
 have a0n := T.a0n
 have a0j := T.a0j
 have a2s := T.a2s
 have a0y := T.a0y
 have a0z := T.a0z
 refine T.b2r.ok b0g (fun vs H Q E h => ?_) (fun cdv A' outer s H vs Q E hr h => ?_)
 ·match vs, h with
  | [.ref o], _ => rfl
 ·match vs, h with
  | [.ref o], ⟨ds, xs, ⟨dx, pl, sl, os, sts, ho, hpl, hsl, R, ST⟩, l8, ok, q⟩ =>
  have hu := hr.units
  have g9s : a2q 3 _ := hr.mono (by decide)
  have d8n : a2q 1 _ := hr.mono (by decide)
  have d8o : a2q 2 _ := hr.mono (by decide)
  have d8p : a2q 3 _ := hr.mono (by decide)
  have d8q : a2q 4 _ := hr.mono (by decide)
  unfold chF at ho
  have ol := R.1
  refine ⟨_, (a0k (a1o (i := 1) b0g.nd rfl (Or.inl rfl) (a9w (a0g a0l (a0g a0l a0i))))
   (a0k (b7r PassesOwn.never rfl (b2m (a2n (pvF 0) rfl)) (b0w (i := 2) b0g.nd rfl (Or.inl rfl))
   (a0m (a1o (i := 1) b0g.nd rfl (Or.inl rfl) (a0u h4z g9s (by rfl) T.h4h T.d4j.kp T.f7m .nil a1k (a0g (pvF 1) (a0g (a1y (a1t (pvF 2) T.a2r T.d7u f2k d8o T.c0y .nil a1k) (a1y (a1t (pvF 2) T.a1w T.d5h f2j d8n T.c0v .nil a1k) (a1y (a1t (pvF 2) T.a2h T.d7y f2l d8p T.c1i .nil a1k) (a1t (pvF 2) T.a2s T.d7z f2m d8q T.c1k .nil a1k)))) a0i))))))
   (a0m (a1h (pvF 1))))), ?_⟩
  walk_at "rd"
  refine fun u H1 n1 S1 h1 => ?_
  have ho1 := S1 _ _ ho
  have hpl1 := S1 _ _ hpl
  walk_at "rd*"
  refine ⟨⟨_, SqL.of hpl1⟩, ?_⟩
  obtain ⟨Pv, pin, pout⟩ := f0m (fun i σ H' => ∃ (r : Addr) (v : Option V), σ = [some (.ref o), some (.ref r), v] /\ Same H H' /\ H r = none /\ H' r = some (.tup (d0h (wts (ds.take i)))))
  refine c3m (xs := os.map V.ref) Pv (pin _ _ _ ⟨_, _, rfl, S1, n1, h1⟩) ?_ ?_ ?_
  ·intro i σ H2 hi hp
   obtain ⟨r, v, rfl, S2, _⟩ := pout _ _ _ hp
   exact SqL.of (S2 _ _ hpl)
  ·intro i v σ H2 hv hp
   rw [List.getElem?_map] at hv
   obtain ⟨oi, hoi, rfl⟩ := Option.map_eq_some_iff.mp hv
   obtain ⟨r, v, rfl, S2, nr, h2⟩ := pout _ _ _ hp
   have hi := (List.getElem?_eq_some_iff.mp hoi).1
   have hd : ds[i]? = some (ds[i]'(by omega)) := List.getElem?_eq_getElem _
   have hp := (R.2 i _ _ hoi hd).same S2
   have okd := ok _ (List.mem_of_getElem? hd)
   have et : ds.take (i + 1) = ds.take i ++ [ds[i]'(by omega)] := by rw [List.take_add_one, hd]; rfl
   generalize ds[i]'(by omega) = d at hd hp okd et
   walk_at "rd"
   refine wg4 (by rfl) hp okd.1 ?_
   rintro _ H3 ⟨w3, rfl, n3, S3, h3⟩
   have tl : (ds.take i).length <= 8 := by rw [List.length_take]; omega
   have wb := g0l _ (ds.take i) rfl fun d hd => ok d (List.mem_of_mem_take hd)
   have wd := d6o okd.1 okd.2
   walk_at "rd"
   refine ⟨_, _, ⟨S3 _ _ h2, h3, by omega, by omega, by omega, by omega⟩, ?_⟩
   rintro _ H4 ⟨w4, rfl, n4, S4, h4⟩
   refine pin _ _ _ ⟨w4, _, rfl, S2.trans (S3.trans S4), (S2.trans S3).free n4, ?_⟩
   rw [et, g0k]
   exact h4
  ·intro σ H2 hp
   obtain ⟨r, v, rfl, S2, nr, h2⟩ := pout _ _ _ hp
   rw [List.length_map, ol, List.take_length] at h2
   walk_at "rd"
   exact q _ _ ⟨r, rfl, nr, S2, h2⟩
theorem i0r (T : Tx K mg A) : a1p P A.wd K mg base CX0 2 A.a4k A.b8h ["self"] (i0e A) := by
 have f5t : a1p P A.wd K mg base CX0 1 _ _ _ _ := g2d T
 have f2n : a1p P A.wd K mg base CX0 1 _ _ _ _ := f7s T
 have c4y : a1p P A.wd K mg base CX0 1 _ _ _ _ := g2h T
 have f5u : a1p P A.wd K mg base CX0 1 _ _ _ _ := g2f T
 have a3r := T.a3r
 have a1i := T.a1i
 have a1g := T.a1g
 have a2r := T.a2r
 have a0w := T.a0w
 have a1w := T.a1w
 have a0v := T.a0v
 have a2h := T.a2h
 have a0s := T.a0s
 have a0t := T.a0t
 have a0o := T.a0o
 have a0n := T.a0n
 have a0j := T.a0j
 have a2s := T.a2s
 have a0y := T.a0y
 have a0z := T.a0z
 refine T.b4g.ok c6t (fun vs H Q E h => ?_) (fun cdv A' outer s H vs Q E hr h => ?_)
 ·match vs, h with
  | [.ref o], _ => rfl
 ·match vs, h with
  | [.ref o], ⟨ds, xs, ⟨dx, pl, sl, os, sts, ho, hpl, hsl, R, ST⟩, l8, ok, q⟩ =>
  have hu := hr.units
  have f2o : a2q 1 _ := hr.mono (by decide)
  have d8r : a2q 1 _ := hr.mono (by decide)
  have c1y : a2q 1 _ := hr.mono (by decide)
  have f2p : a2q 1 _ := hr.mono (by decide)
  unfold chF at ho
  have ol := R.1
  refine ⟨_, (a0k (f0l (i := 1) c6t.nd rfl rfl (b2m (a2n (pvF 0) rfl)) (fun _ _ _ _ _ => (a1y (a1t (pvF 0) T.a2r T.f1j f5t f2o T.c4m .nil a1k) (a1y (a1t (pvF 0) T.a1w T.d7v f2n d8r T.c0z .nil a1k) (a1y (a1t (pvF 0) T.a2h T.c9q c4y c1y T.b7h .nil a1k) (a1t (pvF 0) T.a2s T.f1l f5u f2p T.c4o .nil a1k))))) (d7l (sc := a0h a5j) (N := ["self", "reaches"]) rfl rfl (by decide +kernel)) rfl)
   (a0m (a1h (d9y (a1u h8p c6p (pvF 1) (by rfl)) c6p (a1l (f3z rfl) (by rfl) T.g1v boot_sum (a0g (pvF 1) a0i)))))), ?_⟩
  walk_at "rd*"
  refine ⟨⟨_, SqL.of hpl⟩, fun D H1 n1 S1 h1 => ?_⟩
  refine g8q ((ds.map reachOf).map V.int) (by rw [List.length_map, List.length_map, List.length_map, ol]) n1 S1 h1 (SqL.of hpl) (by rw [List.length_map, sizeLine_eq]; omega) ?_ ?_
  ·intro i x z H' Q' hx hz SS q'
   rw [List.getElem?_map] at hx
   obtain ⟨oi, hoi, rfl⟩ := Option.map_eq_some_iff.mp hx
   rw [List.getElem?_map, List.getElem?_map] at hz
   obtain ⟨rz, hw, rfl⟩ := Option.map_eq_some_iff.mp hz
   obtain ⟨d, hd, rfl⟩ := Option.map_eq_some_iff.mp hw
   try walk_at "rd"
   exact rc4 (by rfl) ((R.2 i _ _ hoi hd).same SS) (ok _ (List.mem_of_getElem? hd)) q'
  intro H2 S2 h2
  have fl : ((ds.map reachOf).map V.int).all b7q = true := by
   rw [List.all_eq_true]
   intro v hv
   obtain ⟨n, _, rfl⟩ := List.mem_map.mp hv
   rfl
  have ni : inV V.non ((ds.map reachOf).map V.int) = false := by
   unfold inV
   rw [List.any_eq_false]
   intro v hv
   obtain ⟨n, _, rfl⟩ := List.mem_map.mp hv
   exact Bool.false_ne_true
  walk_at "rd*"
  exact ⟨rfl, _, rfl, q H2 S2⟩
theorem c9u (c : Int × Nat) (L : List (Int × Nat)) (X : Int -> Int) (i : Int) : tap (c :: L) X i = c.1 * X (i - (c.2 : Int)) + tap L X i := by
 unfold tap
 rw [List.map_cons, List.sum_cons]
theorem h5a (L : List (Int × Nat)) (k s : Int) (X Y : Int -> Int) (i : Int) : tap L (fun j => k * X (j - s) + Y j) i = k * tap L X (i - s) + tap L Y i := by
 induction L with
 | nil => show (0 : Int) = k * 0 + 0; rw [Int.mul_zero]; rfl
 | cons c L ih =>
  rw [c9u, c9u, c9u, ih]
  rw [show i - s - (c.2 : Int) = i - (c.2 : Int) - s by omega]
  grind
theorem g9t (L M : List (Int × Nat)) (X : Int -> Int) : tap L (tap M X) = tap M (tap L X) := by
 funext i
 induction L generalizing i with
 | nil =>
  show (0 : Int) = tap M (fun _ => 0) i
  unfold tap
  induction M with
  | nil => rfl
  | cons c M ih => rw [List.map_cons, List.sum_cons, <- ih]; simp
 | cons c L ih =>
  rw [c9u, ih, <- h5a]
  congr 1
theorem g7a {xs : List Int} {i : Int} (h : i < 0) : d5r xs i = 0 := if_pos h
theorem g9u {L : List (Int × Nat)} {X : Int -> Int} {i : Int} (h : ∀ j, j <= i -> X j = 0) : tap L X i = 0 := by
 induction L with
 | nil => rfl
 | cons c L ih => rw [c9u, ih, h _ (by omega), Int.mul_zero]; rfl
theorem g9v (d : Dt) (xs : List Int) {i : Int} (hi : i < (xs.length : Int)) : d5r (outs d [] xs) i = tap (g7m d) (d5r xs) i := by
 rcases (by omega : i < 0 \/ 0 <= i) with h | h
 ·rw [g7a h, g9u fun j hj => g7a (by omega)]
 ·obtain ⟨k, rfl⟩ : ∃ k : Nat, i = k := ⟨i.toNat, by omega⟩
  rw [d5r, if_neg (by omega), Int.toNat_natCast, b7n (by omega), List.nil_append, List.length_nil, Nat.zero_add]
theorem f8k : ∀ (ds : List Dt) (xs : List Int) (X : Int -> Int), (∀ i, i < (xs.length : Int) -> d5r xs i = X i) -> ∀ i, i < (xs.length : Int) -> d5r (run ds xs) i = i0f ds X i
 | [], xs, X, h, i, hi => h i hi
 | d :: ds, xs, X, h, i, hi => by
  refine f8k ds (outs d [] xs) (tap (g7m d) X) (fun j hj => ?_) i (by rw [a4m]; exact hi)
  rw [a4m] at hj
  rw [g9v d xs hj]
  exact f5l fun k hk => h k (by omega)
theorem h2i {xs : List Int} {k : Nat} : d5r xs (k : Int) = xs.getD k 0 := by
 unfold d5r
 rw [if_neg (by omega), Int.toNat_natCast]
theorem i0s {p q : Int} (h : 1 <= q) (g : Int.gcd p q = 1) : ∃ y : Rat, y.num = p /\ (y.den : Int) = q := by
 refine ⟨⟨p, q.toNat, by omega, ?_⟩, rfl, ?_⟩
 ·show Nat.gcd p.natAbs q.toNat = 1
  rw [show q.toNat = q.natAbs by omega]
  exact g
 ·show ((q.toNat : Nat) : Int) = q
  omega
theorem f5v {t b g : Int} (hg : 0 < g) (h1 : g ∣ t) (h2 : g ∣ b) (h : (t.natAbs : Int) < b) : ((t.fdiv g).natAbs : Int) < b.fdiv g := by
 obtain ⟨x, rfl⟩ := h1
 obtain ⟨y, rfl⟩ := h2
 rw [Int.mul_fdiv_cancel_left _ (by omega), Int.mul_fdiv_cancel_left _ (by omega)]
 rw [Int.natAbs_mul] at h
 have e : ((g.natAbs * x.natAbs : Nat) : Int) = g * (x.natAbs : Int) := by rw [Int.natCast_mul]; congr 1; omega
 rw [e] at h
 exact Int.lt_of_mul_lt_mul_left h (by omega)
theorem d6p {a g : Int} (ha : 0 < a) (hg : 0 < g) (h : g ∣ a) : 0 < a.fdiv g := by
 obtain ⟨z, rfl⟩ := h
 rw [Int.mul_fdiv_cancel_left _ (by omega)]
 rcases Int.lt_or_le 0 z with h | h
 ·exact h
 ·exfalso
  have := Int.mul_nonpos_of_nonneg_of_nonpos (a := g) (by omega) h
  omega
theorem g7b {t b : Int} (t1 : t.natAbs <= 1000) (b1 : 1 <= b) (b2 : b <= 1000) : 0 < Int.gcd (t.natAbs : Int) b /\ CFd t (Int.gcd (t.natAbs : Int) b : Int) /\ CFd b (Int.gcd (t.natAbs : Int) b : Int) /\
  ∃ y : Rat, YOk y /\ y.num = t.fdiv (Int.gcd (t.natAbs : Int) b : Int) /\ (y.den : Int) = b.fdiv (Int.gcd (t.natAbs : Int) b : Int) /\ ((t.natAbs : Int) < b -> (y.num.natAbs : Int) < y.den) := by
 have gp : 0 < Int.gcd (t.natAbs : Int) b := Int.gcd_pos_of_ne_zero_right _ (by omega)
 have gl : (Int.gcd (t.natAbs : Int) b : Int) <= b := Int.le_of_dvd (by omega) (Int.gcd_dvd_right _ _)
 have gd : (Int.gcd (t.natAbs : Int) b : Int) ∣ t := by
  have := Int.gcd_dvd_left (t.natAbs : Int) b
  exact Int.dvd_natAbs.mp this
 have gd2 : (Int.gcd (t.natAbs : Int) b : Int) ∣ b := Int.gcd_dvd_right _ _
 have ge : Int.gcd (t.natAbs : Int) b = Int.gcd t b := by
  have := f1q t b
  rw [<- this, show ((b.natAbs : Nat) : Int) = b by omega]
 have cf : CFd t (Int.gcd (t.natAbs : Int) b : Int) := ⟨by omega, Nat.le_trans (intBits_le_64 (by omega) (by omega)) (by decide)⟩
 have q1 := c1t (a := t) (g := (Int.gcd (t.natAbs : Int) b : Int)) (by omega) gd
 have q2 := c1t (a := b) (g := (Int.gcd (t.natAbs : Int) b : Int)) (by omega) gd2
 have q3 : 0 < b.fdiv (Int.gcd (t.natAbs : Int) b : Int) := d6p (by omega) (by omega) gd2
 have q4 : Int.gcd (t.fdiv (Int.gcd (t.natAbs : Int) b : Int)) (b.fdiv (Int.gcd (t.natAbs : Int) b : Int)) = 1 := by
  rw [ge]
  have := g9e (a := t) (b := b) (by omega)
  omega
 have d1 : t.natAbs / (Int.gcd (t.natAbs : Int) b : Int).natAbs <= t.natAbs := Nat.div_le_self _ _
 have d2 : b.natAbs / (Int.gcd (t.natAbs : Int) b : Int).natAbs <= b.natAbs := Nat.div_le_self _ _
 obtain ⟨y, y1, y2⟩ := i0s (by omega : 1 <= b.fdiv (Int.gcd (t.natAbs : Int) b : Int)) q4
 refine ⟨gp, cf, ⟨cf.1, cf.2⟩, y, ⟨by rw [y1]; omega, by omega⟩, y1, y2, fun z => ?_⟩
 rw [y1, y2]
 exact f5v (by omega) gd gd2 z
theorem h5b (T : Tx K mg A) : a1p P A.wd K mg base CX0 1 A.a5m A.b8i ["_law_script", "_law_k"] (h2c K) := by
 refine T.a5q.ok d7s (fun vs H Q E h => ?_) (fun cdv A' outer s H vs Q E hr h => ?_)
 ·match vs, h with
  | [.ref a, .int k], _ => rfl
 ·match vs, h with
  | [.ref a, .int k], ⟨ns, hS, hk, q⟩ =>
  have hu := hr.units
  refine ⟨_, (a0k (a8h (a1u of_lt (pvF 1) (a1l g1a (by rfl) T.b4h boot_len (a0g (pvF 0) a0i)) (a3k _))
   (a0m (a1h (a1s ix_S (pvF 0) (pvF 1) (fun _ _ => rfl))))
   a2g)
   (a0m (a1h a0l))), ?_⟩
  walk_at "rd"
  refine ⟨_, hS, ?_⟩
  rw [List.length_map]
  split
  ·rename_i h
   exact ⟨_, hS, hk, h, q⟩
  ·rename_i h
   obtain ⟨j, rfl⟩ := Int.eq_ofNat_of_zero_le hk
   rw [List.getD_eq_getElem?_getD, List.getElem?_eq_none (by omega)] at q
   exact q
theorem g9w (T : Tx K mg A) : a1p P A.wd K mg base CX0 1 A.a8p A.c4h ["_law_found"] g5z := by
 refine T.b2g.ok f4v (fun vs H Q E h => ?_) (fun cdv A' outer s H vs Q E hr h => ?_)
 ·match vs, h with
  | [.int i], _ => rfl
 ·match vs, h with
  | [.int i], q =>
  have hu := hr.units
  refine ⟨_, (a0m (a1h (g4j (a1l (b3n .int) (by rfl) T.a2k boot_isinstance (a0g (pvF 0) (a0g (c0j (v := .ty "int") (u := .type "int") (by rfl) T.d7t rfl rfl) a0i))) (h0e (g4k (a1l (b3n .bl) (by rfl) T.a2k boot_isinstance (a0g (pvF 0) (a0g (c0j (v := .ty "bool") (u := .type "bool") (by rfl) T.d9o rfl rfl) a0i)))))))), ?_⟩
  walk_at "rd"
  exact q
theorem f8l (T : Tx K mg A) : a1p P A.wd K mg base CX0 1 A.a5n A.b8j ["_law_one", "_law_other"] h4j := by
 refine T.b0r.ok a6g (fun vs H Q E h => ?_) (fun cdv A' outer s H vs Q E hr h => ?_)
 ·match vs, h with
  | [.int a, .int b], _ => rfl
 ·match vs, h with
  | [.int a, .int b], q =>
  have q : Q (.int (Int.gcd a b)) H := q
  have hu := hr.units
  refine ⟨_, (a0k (a1o (i := 0) a6g.nd rfl (Or.inl rfl) (a1l b5g (by rfl) T.d4v boot_abs (a0g (pvF 0) a0i)))
   (a0k (a1o (i := 1) a6g.nd rfl (Or.inl rfl) (a1l b5g (by rfl) T.d4v boot_abs (a0g (pvF 1) a0i)))
   (a0k (d3o PassesOwn.never (a1u f6r (pvF 1) a0l (a3k _))
   (a0k (a1o (i := 2) a6g.nd rfl (Or.inl rfl) (a1j a7s (pvF 0) (pvF 1)))
   (a0k (a1o (i := 0) a6g.nd rfl (Or.inl rfl) (pvF 1))
   (a0m (a1o (i := 1) a6g.nd rfl (Or.inl rfl) (pvF 2))))))
   (a0m (a1h (pvF 0)))))), ?_⟩
  walk_at "rd"
  refine d3p (fun m σ H1 => ∃ l r z, σ = [some (.int l), some (.int r), z] /\ H1 = H /\ 0 <= l /\ 0 <= r /\ m = r.toNat /\ Int.gcd l r = Int.gcd a b) _
   ⟨_, _, _, rfl, rfl, by omega, by omega, rfl, f1q a b⟩ ?_
  rintro m σ H1 ⟨l, r, z, rfl, rfl, hl, hr', rfl, hg⟩
  walk_at "rd"
  split
  ·rename_i h
   have hp : 0 < r := by omega
   have f := g6e hl hp
   exact ⟨by omega, _, (by omega : (l.fmod r).toNat < r.toNat), _, _, _, ⟨rfl, rfl, rfl⟩, hr', f.1, rfl, (g0b hl hp).trans hg⟩
  ·rename_i h
   obtain rfl : r = 0 := by omega
   rw [<- hg, gcd_zero hl] at q
   exact q
theorem d6q (x : Str) : Str.empty ++ x = x := b6n (by rw [a2t]; rfl)
theorem i0t (y : Rat) : Str.ofString "gain:" ++ fW y = (Dt.gain y).word := by rw [← h1i, d6q]
theorem h5c (n : Nat) : Str.ofString "delay:" ++ nW n = (Dt.delay n).word := by rw [← g5j, d6q]
theorem i0u (y : Rat) (n t : Nat) : Str.ofString "echo:" ++ fW y ++ Str.ofString ":" ++ nW n ++ Str.ofString ":" ++ nW t = (Dt.echo y n t).word := by rw [← h1j, d6q]
theorem g9x (c : Int) : -1000000000000 <= g7n c /\ g7n c <= 1000000000000 := by
 unfold g7n
 split
 ·omega
 ·have := b9z (c * 618033988749894848204587) (b := 2000000000001) (by decide)
  omega
theorem g9y (T : Tx K mg A) : a1p P A.wd K mg base CX0 1 A.b1t A.c7n ["_law_cell"] g6a := by
 refine T.b9v.ok f7j (fun vs H Q E h => ?_) (fun cdv A' outer s H vs Q E hr h => ?_)
 ·match vs, h with
  | [.int c], _ => rfl
 ·match vs, h with
  | [.int c], ⟨hc, q⟩ =>
  have hu := hr.units
  refine ⟨_, (a0k (a8h (a1u (d2g hu) (a1j a7s (a1j a7s (a1j a4o (pvF 0) a0l) a0l) a0l) a0l (a3k _))
   (a0m (a1h a0l))
   a2g)
   (a0m (a1h (a1j d3r (a1j a7s (a1j a4o (pvF 0) a0l) (a1j a2l (a1j a4o a0l (a1j d3s a0l a0l)) a0l)) (a1j d3s a0l a0l))))), ?_⟩
  walk_at "rd"
  unfold g7n at q
  refine ⟨by walk_at "mul", ?_⟩
  split
  ·rename_i h
   rw [if_pos h] at q
   exact q
  ·rename_i h
   rw [if_neg h] at q
   refine ⟨by walk_at "mul", by decide, by walk_at "mul", by decide, q⟩
theorem g9z (T : Tx K mg A) : a1p P A.wd K mg base CX0 2 A.b1r A.c7l ["_law_mixed", "_law_great"] g6b := by
 have f2q : a1p P A.wd K mg base CX0 1 _ _ _ _ := f8l T
 refine T.b2h.ok b1m (fun vs H Q E h => ?_) (fun cdv A' outer s H vs Q E hr h => ?_)
 ·match vs, h with
  | [.int m, .bl hh], _ => rfl
 ·match vs, h with
  | [.int M, .bl g], k =>
  have hu := hr.units
  have d8s : a2q 1 _ := hr.mono (by decide)
  have hs : sizeLine = 16777216 := sizeLine_eq
  refine ⟨_, (a0k (a1o (i := 2) b1m.nd rfl (Or.inl rfl) (a1j d3r (a1j a7s (pvF 0) a0l) a0l))
   (a0k (a1o (i := 3) b1m.nd rfl (Or.inl rfl) (a1j a2l a0l (a1j a7s (a1j a7t (pvF 0) a0l) a0l)))
   (b5h (a8h (a7u (pvF 1))
   (a0k (a1o (i := 2) b1m.nd rfl (Or.inl rfl) (a1j d3r (a1j a7s (pvF 0) a0l) a0l))
   (a0m (a1o (i := 3) b1m.nd rfl (Or.inl rfl) (a1j a2l a0l (a1j a7s (a1j a7t (pvF 0) a0l) a0l)))))
   a2g)
   (a0k (a1o (i := 4) b1m.nd rfl (Or.inl rfl) (a0u f2q d8s (by rfl) T.f1g T.b0r.kp T.c1r .nil a1k (a0g (pvF 2) (a0g (pvF 3) a0i))))
   (a0m (a1h (a1j a2l (a1j a2l (a2i b9h (by rfl) T.d2r boot_str (a0g (a1j a7t (pvF 2) (pvF 4)) a0i)) b4z) (a2i b9h (by rfl) T.d2r boot_str (a0g (a1j a7t (pvF 3) (pvF 4)) a0i))))))))), ?_⟩
  have f1 := b9z M (b := 2001) (by decide)
  have f2 := b9z (M.fdiv 2001) (b := 1000) (by decide)
  have f3 := b9z M (b := 9) (by decide)
  have f4 := b9z (M.fdiv 9) (b := 4) (by decide)
  walk_at "rd"
  obtain ⟨Mid, pin, pout⟩ := g8h (fun σ' H1 => ∃ t b : Int, σ' = [some (.int M), some (.bl g), some (.int t), some (.int b), none] /\ H1 = H /\ t.natAbs <= 1000 /\ 1 <= b /\ b <= 1000)
  refine ⟨⟨by decide, by decide⟩, Mid, ?_, ?_⟩
  ·walk_at "rd"
   split
   ·exact ⟨⟨by decide, by decide⟩, pin _ _ ⟨_, _, rfl, rfl, by omega, by omega, by omega⟩⟩
   ·exact pin _ _ ⟨_, _, rfl, rfl, by omega, by omega, by omega⟩
  intro σ' H1 hm2
  obtain ⟨t, b, rfl, rfl, t1, b1, b2⟩ := pout _ _ hm2
  obtain ⟨gp, cf1, cf2, y, oy, y1, y2, yl⟩ := g7b t1 b1 b2
  have ge : Int.gcd (t.natAbs : Int) b = Int.gcd t b := by
   have := f1q t b
   rw [<- this, show ((b.natAbs : Nat) : Int) = b by omega]
  rw [ge] at cf1 cf2 y1 y2
  have q := k y oy
  have g1 := d9i (intBits_le_iff.mp oy.b.1) (by decide)
  have g2 := d9i (intBits_le_iff.mp oy.b.2) (by decide)
  have a := d0j (intBits_le_iff.mp oy.b.1) (by decide)
  have c := d0j (intBits_le_iff.mp oy.b.2) (by decide)
  have e1 : (Str.ofString "/").length = 1 := by decide +kernel
  unfold fW at q
  rw [d6q] at q
  rw [y1] at q a g1
  rw [y2] at q c g2
  walk_at "rd"
  refine ⟨cf1, by omega, by omega, cf2, by omega, by rw [strLen_append]; omega, q⟩
theorem h0a (T : Tx K mg A) : a1p P A.wd K mg base CX0 3 A.b1s A.c7m ["_law_cell", "_law_great"] g6c := by
 have d1m : a1p P A.wd K mg base CX0 2 _ _ _ _ := g9z T
 refine T.b9u.ok c0l (fun vs H Q E h => ?_) (fun cdv A' outer s H vs Q E hr h => ?_)
 ·match vs, h with
  | [.int c, .bl g], _ => rfl
 ·match vs, h with
  | [.int c, .bl g], ⟨hc, k⟩ =>
  have hu := hr.units
  have c8g : a2q 2 _ := hr.mono (by decide)
  have hs : sizeLine = 16777216 := sizeLine_eq
  refine ⟨_, (b5h (a1o (i := 2) c0l.nd rfl (Or.inl rfl) (a1j a7t (a1j a7s (a1j a4o (pvF 0) a0l) (a1j a2l (a1j d3s a0l a0l) a0l)) (a1j d3s a0l a0l)))
   (b5h (a1o (i := 3) c0l.nd rfl (Or.inl rfl) (a1j a2l a0l (a1j a7s (a1j a7t (pvF 2) (a1j d3s a0l a0l)) a0l)))
   (a0k (a1o (i := 4) c0l.nd rfl (Or.inl rfl) (a1j a7s (a1j a7t (pvF 2) (a1j d3s a0l a0l)) a0l))
   (a0k (a8h (a1u (d2g hu) (pvF 4) a0l (a3k _))
   (a0m (a1h (a1j a2l b4z (a0u d1m c8g (by rfl) T.d0w T.b2h.kp T.b9t .nil a1k (a0g (pvF 2) (a0g (pvF 1) a0i))))))
   a2g)
   (a0k (a8h (a1u (d2g hu) (pvF 4) a0l (a3k _))
   (a0m (a1h (a1j a2l b4z (a2i b9h (by rfl) T.d2r boot_str (a0g (a1j d3r (pvF 3) a0l) a0i)))))
   a2g)
   (a0k (a8h (a1u (d2g hu) (pvF 4) a0l (a3k _))
   (a0m (a1h (a1j a2l (a1j a2l (a1j a2l (a1j a2l (a1j a2l b4z (a0u d1m c8g (by rfl) T.d0w T.b2h.kp T.b9t .nil a1k (a0g (pvF 2) (a0g (pvF 1) a0i)))) b4z) (a2i b9h (by rfl) T.d2r boot_str (a0g (pvF 3) a0i))) b4z) (a2i b9h (by rfl) T.d2r boot_str (a0g (a1j a7s (a1j a7t (pvF 2) (a1j d3s a0l a0l)) a0l) a0i)))))
   a2g)
   (a0m (a1h (a1j a2l (a1j a2l (a1j a2l b4z (a0u d1m c8g (by rfl) T.d0w T.b2h.kp T.b9t .nil a1k (a0g (pvF 2) (a0g (pvF 1) a0i)))) b4z) (a2i b9h (by rfl) T.d2r boot_str (a0g (pvF 3) a0i))))))))))), ?_⟩
  obtain ⟨Mid, min', mout⟩ := g8h (fun σ' H' => ∃ M : Int, σ' = [some (.int c), some (.bl g), some (.int M), none, none] /\ H' = H)
  refine ⟨Mid, ?_, ?_⟩
  ·walk_at "rd"
   exact ⟨by walk_at "mul", by decide, by decide, ⟨by decide, by decide⟩, min' _ _ ⟨_, rfl, rfl⟩⟩
  intro σ' H' hm
  obtain ⟨M, rfl, rfl⟩ := mout _ _ hm
  clear hm min' mout
  have f9 := b9z (M.fdiv 1000000000) (b := 9) (by decide)
  have f4 := b9z (M.fdiv 1000000000000) (b := 4) (by decide)
  have f5 := b9z (M.fdiv 10000000) (b := 5) (by decide)
  obtain ⟨Mid1, in1, out1⟩ := g8h (fun σ' H1 => ∃ n : Nat, σ' = [some (.int c), some (.bl g), some (.int M), some (.int n), none] /\ H1 = H' /\ 1 <= n /\ n <= 9)
  refine ⟨Mid1, ?_, ?_⟩
  ·walk_at "rd"
   exact ⟨by decide, ⟨by decide, by decide⟩, in1 _ _ ⟨(1 + (M.fdiv 1000000000).fmod 9).toNat, by rw [Int.toNat_of_nonneg (by omega)], rfl, by omega, by omega⟩⟩
  intro σ1 H1 hm1
  obtain ⟨n, rfl, rfl, n1, n9⟩ := out1 _ _ hm1
  clear hm1 in1 out1 f9
  have nl := f9s (n := n) (by omega)
  have g0 := d9i (t := (n : Int)) (n := 20) (by omega) (by decide)
  have c0 : (Str.ofString ":").length = 1 := by decide +kernel
  unfold nW at nl
  walk_at "rd"
  refine ⟨by decide, ⟨by decide, by decide⟩, ?_⟩
  have c1 : (Str.ofString "gain:").length = 5 := by decide +kernel
  have c2 : (Str.ofString "delay:").length = 6 := by decide +kernel
  have c3 : (Str.ofString "echo:").length = 5 := by decide +kernel
  have c4 : (Str.ofString "back:").length = 5 := by decide +kernel
  split
  ·intro y oy
   have fl := f4l oy.b.1 oy.b.2
   refine ⟨by omega, ?_⟩
   rw [i0t]
   exact k _ oy (by simp [Dt.kd]) trivial
  split
  ·have em : (n : Int) - 1 = ((n - 1 : Nat) : Int) := by omega
   have nl2 := f9s (n := n - 1) (by omega)
   have g2 := d9i (t := ((n - 1 : Nat) : Int)) (n := 20) (by omega) (by decide)
   have v := h5c (n - 1)
   unfold nW at nl2 v
   rw [em]
   refine ⟨by omega, by omega, ?_⟩
   rw [v]
   exact k (.delay (n - 1)) (show n - 1 <= 1000 by omega) (by simp [Dt.kd]) trivial
  split
  ·intro y oy
   have fl := f4l oy.b.1 oy.b.2
   obtain ⟨t, et⟩ : ∃ t : Nat, (M.fdiv 10000000).fmod 5 = (t : Int) := ⟨((M.fdiv 10000000).fmod 5).toNat, by omega⟩
   have tl := f9s (n := t) (by omega)
   have g2 := d9i (t := (t : Int)) (n := 20) (by omega) (by decide)
   have v := i0u y n t
   unfold nW at tl v
   rw [et]
   simp only [strLen_append]
   refine ⟨by omega, by omega, by omega, by omega, by omega, by decide, ⟨by decide, by decide⟩, by omega, by omega, ?_⟩
   rw [v]
   exact k (.echo y n t) ⟨oy, by omega, by omega, by omega⟩ (by simp [Dt.kd]) (show t <= 4 by omega)
  ·intro y oy
   have fl := f4l oy.b.1 oy.b.2
   have v : Str.ofString "back:" ++ fW y ++ Str.ofString ":" ++ nW n = (Dt.back y n).word := by rw [← h1l, d6q]
   unfold nW at v
   simp only [strLen_append]
   refine ⟨by omega, by omega, by omega, by omega, ?_⟩
   rw [v]
   exact k (.back y n) ⟨oy, by omega, by omega⟩ (by simp [Dt.kd]) trivial
theorem f5w {α β : Type} (f : α -> β) : ∀ (l : List α) (j : Nat), (l.map f).eraseIdx j = (l.eraseIdx j).map f
 | [], _ => rfl
 | _ :: _, 0 => rfl
 | a :: l, j + 1 => by
  show f a :: (l.map f).eraseIdx j = f a :: (l.eraseIdx j).map f
  rw [f5w f l j]
theorem f5y {α : Type} : ∀ (l : List α) (j : Nat) (h : j < l.length), (l[j] :: l.eraseIdx j).Perm l
 | [], j, h => by cases h
 | a :: l, 0, _ => .refl _
 | a :: l, j + 1, h => by
  show (l[j]'(Nat.lt_of_succ_lt_succ h) :: a :: l.eraseIdx j).Perm (a :: l)
  exact (List.Perm.swap _ _ _).trans (.cons a (f5y l j (Nat.lt_of_succ_lt_succ h)))
theorem g7c {ds ds' : List Dt} (h : ds.Perm ds') : ∀ X, i0f ds X = i0f ds' X := by
 induction h with
 | nil => exact fun X => rfl
 | cons d _ ih => exact fun X => ih _
 | swap a b l =>
  intro X
  show i0f l (tap (g7m a) (tap (g7m b) X)) = i0f l (tap (g7m b) (tap (g7m a) X))
  rw [g9t]
 | trans _ _ i1 i2 => exact fun X => (i1 X).trans (i2 X)
theorem c8h {ds ds' : List Dt} (h : ds.Perm ds') : ∀ b, a9s b ds = a9s b ds' := by
 induction h with
 | nil => exact fun X => rfl
 | cons d _ ih => exact fun X => ih _
 | swap x y l =>
  intro b
  show a9s (b * b2j y * b2j x) l = a9s (b * b2j x * b2j y) l
  rw [Int.mul_right_comm]
 | trans _ _ i1 i2 => exact fun X => (i1 X).trans (i2 X)
theorem h0b {ds ds' : List Dt} (h : ds.Perm ds') : ∀ x : Rat, ds.foldl (fun x d => x * a6l d) x = ds'.foldl (fun x d => x * a6l d) x := by
 induction h with
 | nil => exact fun X => rfl
 | cons d _ ih => exact fun X => ih _
 | swap x y l =>
  intro b
  show l.foldl (fun x d => x * a6l d) (b * a6l y * a6l x) = l.foldl (fun x d => x * a6l d) (b * a6l x * a6l y)
  rw [Rat.mul_assoc, Rat.mul_comm (a6l y), <- Rat.mul_assoc]
 | trans _ _ i1 i2 => exact fun X => (i1 X).trans (i2 X)
theorem g7d {ds ds' : List Dt} (h : ds.Perm ds') : i0b ds = i0b ds' := by
 unfold i0b
 induction h with
 | nil => rfl
 | cons d _ ih => rw [List.map_cons, List.map_cons, List.sum_cons, List.sum_cons, ih]
 | swap x y l => simp only [List.map_cons, List.sum_cons]; omega
 | trans _ _ i1 i2 => exact i1.trans i2
theorem g0m {ds ds' : List Dt} (h : ds.Perm ds') (xs : List Int) : run ds xs = run ds' xs := by
 refine h4t (by rw [c7z, c7z]) fun i hi => ?_
 rw [c7z] at hi
 rw [<- h2i, <- h2i, f8k ds xs (d5r xs) (fun _ _ => rfl) _ (by omega), f8k ds' xs (d5r xs) (fun _ _ => rfl) _ (by omega), g7c h]
theorem g2v (ds : List Dt) : (ds.map fun d => V.str d.word) = (ds.map Dt.word).map V.str := by rw [List.map_map]; rfl
theorem h0c {ds : List Dt} (h : ∀ d ∈ ds, d.kd < 4) : ∀ s ∈ ds.map Dt.word, PyData.strOk s = true := fun s hs => by
 obtain ⟨d, hd, rfl⟩ := List.mem_map.mp hs
 exact h4f (h d hd)
theorem h0d (T : Tx K mg A) : a1p P A.wd K mg base CX0 1 A.a8q A.c4i ["_law_words", "_law_pick"] g6d := by
 refine T.b5z.ok b6o (fun vs H Q E h => ?_) (fun cdv A' outer s H vs Q E hr h => ?_)
 ·match vs, h with
  | [.ref l, .int p], _ => rfl
 ·match vs, h with
  | [.ref l, .int p], ⟨ds, hl, l8, ok, k⟩ =>
  have hu := hr.units
  have hs : sizeLine = 16777216 := sizeLine_eq
  refine ⟨_, (a0k (a1o (i := 2) b6o.nd rfl (Or.inl rfl) (a2i a8u (by rfl) T.b6g boot_list (a0g (pvF 0) a0i)))
   (a0k (a1o (i := 3) b6o.nd rfl (Or.inl rfl) (c3o a0i))
   (a0k (d3o PassesOwn.never (a1u (c3n hu) (pvF 2) (c3o a0i) (a3k _))
   (a0k (c3j (c8v c8t PySem.F.plainAttrs_list PySem.F.slot_list_append PySem.F.type_list_append c6h (pvF 3) (a0g (c8v c8t PySem.F.plainAttrs_list PySem.F.slot_list_pop PySem.F.type_list_pop h4b (pvF 2) (a0g (a1j a7s (pvF 1) (a1l a2m (by rfl) T.b4h boot_len (a0g (pvF 2) a0i))) a0i)) a0i)))
   (a0m (a1o (i := 1) b6o.nd rfl (Or.inl rfl) (a1j a7t (pvF 1) a0l)))))
   (a0m (a1h (pvF 3)))))), ?_⟩
  walk_at "rd*"
  refine fun l1 H1 n1 S1 h1 => ?_
  walk_at "rd"
  refine ⟨by omega, fun l2 H2 n2 S2 h2 => ?_⟩
  have h12 := S2 _ _ h1
  have ne : l1 ≠ l2 := fun e => by rw [<- e, h1] at n2; cases n2
  obtain ⟨Pv, pin, pout⟩ := f0m (fun m σ H' => ∃ (rs ts : List Dt) (u : Int), σ = [some (.ref l), some (.int u), some (.ref l1), some (.ref l2)] /\ Same H H' /\ H' l1 = some (.lst (rs.map fun d => V.str d.word)) /\ H' l2 = some (.lst (ts.map fun d => V.str d.word)) /\ (ts ++ rs).Perm ds /\ m = rs.length)
  refine d3p Pv _ (pin _ _ _ ⟨ds, [], p, rfl, S1.trans S2, h12, h2, .refl _, rfl⟩) ?_
  intro m σ H3 hp
  obtain ⟨rs, ts, u, rfl, S3, hl1, hl2, pm, em⟩ := pout _ _ _ hp
  clear hp h1 h2 h12
  have pl := pm.length_eq
  rw [List.length_append] at pl
  walk_at "rd"
  refine ⟨by omega, fun l4 H4 n4 S4 h4 => ?_⟩
  have i2y := S4 _ _ hl1
  have i3a := S4 _ _ hl2
  have okr : ∀ d ∈ rs, d.kd < 4 := fun d hd => ok d (pm.mem_iff.mp (List.mem_append_right _ hd))
  have sq1 := SqL.of (K := K) i2y
  rw [g2v] at sq1
  walk_at "rd"
  refine g8x (ms := []) sq1 (SqL.of h4) (h0c okr) (fun s hs => by cases hs) ?_
  clear hl1 hl2
  cases rs with
  | nil =>
   rw [show (!decide (([] : List Dt).map Dt.word = ([] : List Str))) = false from rfl]
   walk_at "rd"
   rw [List.append_nil] at pm
   exact k ts l2 H4 pm (S1.free n2) (S3.trans S4) i3a
  | cons r0 rs0 =>
   obtain ⟨rs, ers⟩ : ∃ rs, r0 :: rs0 = rs := ⟨_, rfl⟩
   have rne : rs.map Dt.word ≠ [] := by rw [<- ers]; exact fun e => by cases e
   have rl : 0 < rs.length := by rw [<- ers]; exact Nat.succ_pos _
   rw [ers] at i2y pm em pl ⊢
   rw [decide_eq_false rne]
   walk_at "rd*"
   have fr := b9z u (b := (rs.length : Int)) (by omega)
   obtain ⟨j, ej⟩ : ∃ j : Nat, u.fmod (rs.length : Int) = j := ⟨(u.fmod (rs.length : Int)).toNat, by omega⟩
   have hj : j < rs.length := by omega
   refine ⟨by omega, fr.1, fr.2, ?_⟩
   rintro v H5 ⟨hv, B5, h5⟩
   rw [List.length_map, ej, Int.toNat_natCast] at hv h5
   rw [List.getElem?_map, List.getElem?_eq_getElem hj] at hv
   cases hv
   have hl25 := B5 _ _ ne.symm i3a
   have pe := f5y rs j hj
   have el : (rs.eraseIdx j).length = rs.length - 1 := List.length_eraseIdx_of_lt hj
   rw [f5w] at h5
   clear i2y i3a h4 sq1
   walk_at "rd*"
   refine ⟨by omega, ?_⟩
   rintro _ H6 ⟨rfl, B6, h6⟩
   walk_at "rd"
   refine ⟨⟨by decide, by decide⟩, rs.length - 1, by omega, pin _ _ _ ⟨rs.eraseIdx j, ts ++ [rs[j]], _, rfl, ((S3.trans S4).step n1 B5).step (S1.free n2) B6, B6 _ _ ne h5, ?_, ?_, el.symm⟩⟩
   ·rw [h6, List.map_append]
    rfl
   ·rw [List.append_assoc]
    exact (List.Perm.append_left ts pe).trans pm
theorem Prs.same {H H' : Hp} {ps : List Addr} {fs : List Int} {G : Int} (h : Prs H ps fs G) (S : Same H H') : Prs H' ps fs G := ⟨h.1, fun i p e => S _ _ (h.2 i p e)⟩
theorem Prs.c0i {D : Addr} {H H' : Hp} {ps : List Addr} {fs : List Int} {G : Int} (h : Prs H ps fs G) (hD : Lk H D) (Z : a6i D H H') : Prs H' ps fs G := ⟨h.1, fun i p e => Z _ _ (fun e2 => hD.1 _ (by rw [<- e2]; exact h.2 i p e)) (h.2 i p e)⟩
theorem Prs.snoc {H : Hp} {ps : List Addr} {fs : List Int} {G f : Int} {p : Addr} (h : Prs H ps fs G) (hp : H p = some (.tup [.int f, .int G])) : Prs H (ps ++ [p]) (fs ++ [f]) G := by
 obtain ⟨hl, h⟩ := h
 refine ⟨by rw [List.length_append, List.length_append, hl]; rfl, fun i q e => ?_⟩
 have hi := (List.getElem?_eq_some_iff.mp e).1
 rw [List.length_append, List.length_singleton] at hi
 rcases Nat.lt_or_ge i ps.length with z | z
 ·rw [List.getElem?_append_left z] at e
  rw [c9t, if_pos (by omega)]
  exact h i q e
 ·obtain rfl : i = ps.length := by omega
  rw [List.getElem?_concat_length] at e
  cases e
  rw [c9t, if_neg (by omega), hl, Nat.sub_self]
  exact hp
theorem h5d (T : Tx K mg A) : a1p P A.wd K mg base CX0 1 A.b1u A.c7o ["_law_one", "_law_other"] h2d := by
 refine T.b4v.ok c6y (fun vs H Q E h => ?_) (fun cdv A' outer s H vs Q E hr h => ?_)
 ·match vs, h with
  | [.ref l, .ref r], _ => rfl
 ·match vs, h with
  | [.ref l, .ref r], ⟨ps, qs, fs, G, hl, hr', R1, R2, f1, bf, bG, q⟩ =>
  have hu := hr.units
  have le : ((ps.length : Nat) : Int) = ((qs.length : Nat) : Int) := by rw [R1.1, R2.1]
  refine ⟨_, (a0k (a8h (pw_or (a1u g3n (pvF 0) c6p (a3k _)) (pw_or (a1u g3n (pvF 1) c6p (a3k _)) (pw_or1 (a1u (c3n hu) (a1l a2m (by rfl) T.b4h boot_len (a0g (pvF 0) a0i)) (a1l a2m (by rfl) T.b4h boot_len (a0g (pvF 1) a0i)) (a3k _))))).pt
   (a0m (a1h g0n))
   a2g)
   (a0k (b7r PassesOwn.never rfl (h1g (by rfl) T.g1w (a0g (pvF 0) (a0g (pvF 1) a0i))) (g5a (n := 2) rfl (c9h (b0w (i := 2) c6y.nd rfl (Or.inl rfl)) (c9h (b0w (i := 3) c6y.nd rfl (Or.inl rfl)) f9o)))
   (a0m (a8h (a1u (c3n hu) (a1j a4o (a1s a6n (pvF 2) a0l (fun _ _ => rfl)) (a1s a6n (pvF 3) a0l (fun _ _ => rfl))) (a1j a4o (a1s a6n (pvF 3) a0l (fun _ _ => rfl)) (a1s a6n (pvF 2) a0l (fun _ _ => rfl))) (a3k _))
   (a0m (a1h g0n))
   a2g)))
   (a0m (a1h g0n)))), ?_⟩
  walk_at "rd*"
  obtain ⟨Pv, pin, pout⟩ := f0m (fun i σ H' => ∃ v2 v3 : Option V, σ = [some (.ref l), some (.ref r), v2, v3] /\ Same H H')
  refine f9q (xs := ps.map V.ref) (ys := qs.map V.ref) Pv (pin _ _ _ ⟨_, _, rfl, Same.refl _⟩) ?_ ?_ ?_
  ·intro i σ H1 hp
   obtain ⟨v2, v3, rfl, S1⟩ := pout _ _ _ hp
   exact ⟨SqL.of (S1 _ _ hl), SqL.of (S1 _ _ hr')⟩
  ·intro i x y σ H1 p H2 hx hy hp np S2 h2
   obtain ⟨v2, v3, rfl, S1⟩ := pout _ _ _ hp
   rw [List.getElem?_map] at hx hy
   obtain ⟨pa, hpa, rfl⟩ := Option.map_eq_some_iff.mp hx
   obtain ⟨pb, hpb, rfl⟩ := Option.map_eq_some_iff.mp hy
   have ha := S2 _ _ (S1 _ _ (R1.2 i pa hpa))
   have hb := S2 _ _ (S1 _ _ (R2.2 i pb hpb))
   have hi := (List.getElem?_eq_some_iff.mp hpa).1
   have fb : intBits (fs.getD i 0) <= 4000 := bf _ (getD_mem (by have := R1.1; omega))
   have im : IntMulOk (fs.getD i 0) G := IntMulOk.of_le fb bG (by decide)
   clear hl hr' hx hy
   walk_at "rd*"
   exact pin _ _ _ ⟨_, _, rfl, S1.trans S2⟩
  ·intro σ H1 hp
   obtain ⟨v2, v3, rfl, S1⟩ := pout _ _ _ hp
   walk_at "rd"
   exact q H1 S1
theorem h5e (T : Tx K mg A) : a1p P A.wd K mg base CX0 12 A.b1v A.c7p ["_law_words"] (h2e A) := by
 have c5k : a1p P A.wd K mg base CX0 10 _ _ _ _ := g0j T
 have f2r : a1p P A.wd K mg base CX0 2 _ _ _ _ := i0p T
 have d8t : a1p P A.wd K mg base CX0 5 _ _ _ _ := i0q T
 have f2s : a1p P A.wd K mg base CX0 2 _ _ _ _ := i0r T
 have a3r := T.a3r
 have a1i := T.a1i
 have a1g := T.a1g
 refine T.b4w.ok d3y (fun vs H Q E h => ?_) (fun cdv A' outer s H vs Q E hr h => ?_)
 ·match vs, h with
  | [.ref l], _ => rfl
 ·match vs, h with
  | [.ref l], ⟨ds, hl, l8, ok, q⟩ =>
  have hu := hr.units
  have c2k : a2q 11 _ := hr.mono (by decide)
  have d8u : a2q 2 _ := hr.mono (by decide)
  have d6r : a2q 5 _ := hr.mono (by decide)
  have d8v : a2q 2 _ := hr.mono (by decide)
  refine ⟨_, (a0k (a1o (i := 1) d3y.nd rfl (Or.inl rfl) (c6i T.g5q c5k c2k (by rfl) T.c6n T.b7m .nil a1k (a0g (a2i a8u (by rfl) T.b6g boot_list (a0g (pvF 0) a0i)) a0i)))
   (a0m (a1h (a9w (a0g (a1t (pvF 1) T.a3r T.d8g f2r d8u T.c1n .nil a1k) (a0g (a1t (pvF 1) T.a3r T.d5k d8t d6r T.b8o .nil a1k) (a0g (a1t (pvF 1) T.a3r T.d8h f2s d8v T.c1o .nil a1k) a0i))))))), ?_⟩
  walk_at "rd*"
  refine fun l1 H1 n1 S1 h1 => ?_
  walk_at "rd"
  intro x dx H2 n2 n2' nx S2 hdx hx
  refine ⟨dx, ds, hx, S2 _ _ h1, l8, fun d hd => ⟨(ok d hd).1, (ok d hd).2.1⟩, fun H3 B3 ch => ?_⟩
  rw [asNew]
  refine ⟨rfl, ?_⟩
  have S03 : Same H H3 := fun z u e => B3 _ _ (fun ze => by rw [ze] at e; rw [S1 _ _ e] at n2; cases n2) (S2 _ _ (S1 _ _ e))
  obtain ⟨dx', pl, sl, os, sts, ho, hrest⟩ := id ch
  unfold chF at ho
  have okd : ∀ d ∈ ds, d.ok := fun d hd => (ok d hd).1
  clear h1
  walk_at "rd*"
  refine ⟨ds, [], ch, l8, okd, ds, [], ch, l8, fun d hd => ⟨(ok d hd).1, (ok d hd).2.2⟩, ?_⟩
  rintro _ H4 ⟨pw, rfl, n4, S4, h4⟩
  have ho4 := S4 _ _ ho
  clear ho
  walk_at "rd*"
  refine ⟨ds, [], ch.same S4, l8, okd, fun H5 S5 => ?_⟩
  try walk_at "rd"
  refine ⟨by rw [sizeLine_eq]; decide, fun p H6 n6 S6 h6 => q p pw H6 (S03.trans (S4.trans (S5.trans S6))) h6 (S6 _ _ (S5 _ _ h4))⟩
theorem d9u : ∀ {ds : List Dt} {b : Int}, 1 <= b -> 1 <= a9s b ds
 | [], _, h => h
 | d :: ds, b, h => by
  refine d9u (ds := ds) (b := b * b2j d) ?_
  have g : 0 < b2j d := by
   cases d with
   | gain y => show 0 < (y.den : Int); have := y.den_pos; omega
   | echo y n t => exact Int.pow_pos (by have := y.den_pos; omega)
   | back y n => show 0 < (y.den : Int); have := y.den_pos; omega
   | _ => show (0 : Int) < 1; decide
  exact Int.mul_pos (by omega) g
theorem h5f (T : Tx K mg A) : a1p P A.wd K mg base CX0 12 A.a5o A.b8k ["_law_words", "_law_row", "_law_bottom", "_law_at"] (h2f A) := by
 have c5k : a1p P A.wd K mg base CX0 10 _ _ _ _ := g0j T
 have d6s : a1p P A.wd K mg base CX0 3 _ _ _ _ := h4y T
 have d6t : a1p P A.wd K mg base CX0 1 _ _ _ _ := g9w T
 have a3r := T.a3r
 have a1i := T.a1i
 have a1g := T.a1g
 refine T.a5r.ok a6h (fun vs H Q E h => ?_) (fun cdv A' outer s H vs Q E hr h => ?_)
 ·match vs, h with
  | [.ref lw, .ref lr, .int b, .int k], _ => rfl
 ·match vs, h with
  | [.ref lw, .ref lr, .int b, .int k], ⟨ds, row, n, hlw, l8, ok, hlr, rl, br, b1, b9, ek, nl, q⟩ =>
  subst ek
  have hu := hr.units
  have c2k : a2q 11 _ := hr.mono (by decide)
  have d2y : a2q 3 _ := hr.mono (by decide)
  have d2p : a2q 1 _ := hr.mono (by decide)
  have hs : sizeLine = 16777216 := sizeLine_eq
  have okd : ∀ d ∈ ds, d.ok := fun d hd => (ok d hd).1
  have gp := d9u (ds := ds) b1
  have gp' : ¬ a9s b ds < 1 := by omega
  have bb : intBits b <= 64 := intBits_le_64 (by omega) (by omega)
  refine ⟨_, (a0k (a1o (i := 4) a6h.nd rfl (Or.inl rfl) (c6i T.g5q c5k c2k (by rfl) T.c6n T.b7m .nil a1k (a0g (a2i a8u (by rfl) T.b6g boot_list (a0g (pvF 0) a0i)) a0i)))
   (b5h (a1o (i := 5) a6h.nd rfl (Or.inl rfl) (c3o a0i))
   (a0k (b7r PassesOwn.never rfl (b2m (c3o (a0g (a9v g7h (pvF 1) b7p (a7y (pvF 3))) (a0g (a9v g7h (pvF 1) (a7y (pvF 3)) b7p) a0i)))) (b0w (i := 6) a6h.nd rfl (Or.inl rfl))
   (a0k (a1o (i := 7) a6h.nd rfl (Or.inl rfl) (c8z (pvF 4) T.a3r T.d2t d6s d2y T.b5y .nil a1k (a0g (a2i a8u (by rfl) T.b6g boot_list (a0g (pvF 6) a0i)) (a0g (pvF 2) a0i))))
   (a0k (a8h (pw_or (b8w (a7u (a1l (b3n .tup) (by rfl) T.a2k boot_isinstance (a0g (pvF 7) (a0g (c0j (v := .ty "tuple") (u := .type "tuple") (by rfl) T.c7v rfl rfl) a0i))))) (pw_or (a1u (c3n hu) (a1l a2m (by rfl) T.b4h boot_len (a0g (pvF 7) a0i)) a0l (a3k _)) (pw_or1 (b8w (a7u (a1l (b3n .lst) (by rfl) T.a2k boot_isinstance (a0g (a1s a6n (pvF 7) a0l (fun _ _ => rfl)) (a0g (c0j (v := .ty "list") (u := .type "list") (by rfl) T.b6g rfl rfl) a0i)))))))).pt
   (a0m (a1h c6p))
   a2g)
   (a0k (a8h (pw_or (b8w (a7u (a0u d6t d2p (by rfl) T.d4u T.b2g.kp T.c1q .nil a1k (a0g (a1s a6n (pvF 7) a0l (fun _ _ => rfl)) a0i)))) (pw_or (a1u of_lt (a1s a6n (pvF 7) a0l (fun _ _ => rfl)) a0l (a3k _)) (pw_or1 (a1u (c3n hu) (a1l a2m (by rfl) T.b4h boot_len (a0g (a1s a6n (pvF 7) a0l (fun _ _ => rfl)) a0i)) (a1l a2m (by rfl) T.b4h boot_len (a0g (pvF 6) a0i)) (a3k _))))).pt
   (a0m (a1h c6p))
   a2g)
   (a0m (b7r PassesOwn.never rfl (b2m (a1s a6n (pvF 7) a0l (fun _ _ => rfl))) (b0w (i := 8) a6h.nd rfl (Or.inl rfl))
   (a0k (a8h (b8w (a7u (a0u d6t d2p (by rfl) T.d4u T.b2g.kp T.c1q .nil a1k (a0g (pvF 8) a0i))))
   (a0m (a1h c6p))
   a2g)
   (a0m (c3j (c8v c8t PySem.F.plainAttrs_list PySem.F.slot_list_append PySem.F.type_list_append c6h (pvF 5) (a0g (a9w (a0g (pvF 8) (a0g (a1s a6n (pvF 7) a0l (fun _ _ => rfl)) a0i))) a0i)))))))))))
   (a0m (a1h (pvF 5)))))), ?_⟩
  walk_at "rd*"
  refine fun l1 H1 n1 S1 h1 => ?_
  walk_at "rd"
  intro o dx H2 n2 n2' nx S2 hdx hx
  refine ⟨dx, ds, hx, S2 _ _ h1, l8, ok, fun H3 B3 ch => ?_⟩
  rw [asNew]
  refine ⟨rfl, ?_⟩
  have S03 : Same H H3 := fun z u e => B3 _ _ (fun ze => by rw [ze] at e; rw [S1 _ _ e] at n2; cases n2) (S2 _ _ (S1 _ _ e))
  have no : H o = none := S1.free n2
  obtain ⟨Mid, min', mout⟩ := g8h (fun σ' H' => ∃ D : Addr, σ' = [some (.ref lw), some (.ref lr), some (.int b), some (.int n), some (.ref o), some (.ref D), none, none, none] /\ Same H3 H' /\ H3 D = none /\ H' D = some (.lst []))
  refine ⟨Mid, ?_, ?_⟩
  ·walk_at "rd"
   exact ⟨by omega, fun D H4 n4 S4 h4 => min' _ _ ⟨D, rfl, S4, n4, h4⟩⟩
  clear h1 hx
  intro σ4 H4 hm4
  obtain ⟨D, rfl, S4, nD, hD⟩ := mout _ _ hm4
  clear hm4 min' mout
  have ch4 := (ch.x nD).same S4
  have hr4 := S4 _ _ (S03 _ _ hlr)
  have S04 := S03.trans S4
  obtain ⟨uo, hco⟩ : ∃ u, H4 o = some u := by
   obtain ⟨_, _, _, _, _, hc, _⟩ := ch4
   exact ⟨_, hc⟩
  have nDo : D ≠ o := fun e => by
   obtain ⟨_, _, _, _, _, _, _, _, _, _, _, _, hc⟩ := ch4
   exact hc e.symm
  have nHD : H D = none := S03.free nD
  clear ch
  walk_at "rd*"
  refine fun l5 H5 n5 S5 h5 => ?_
  rw [b9g, g4t] at h5
  have hr5 := S5 _ _ hr4
  clear hr4
  walk_at "rd*"
  refine fun l6 H6 n6 S6 h6 => ?_
  rw [b9g, b2t] at h6
  walk_at "rd"
  refine fun lb H7 n7 S7 hlb => ?_
  try walk_at "rd"
  refine ⟨⟨_, SqL.of hlb⟩, ?_⟩
  have S47 := S5.trans (S6.trans S7)
  have h57 := S7 _ _ (S6 _ _ h5)
  have h67 := S7 _ _ h6
  have hD7 := S47 _ _ hD
  have ch7 := ch4.same S47
  have d5 : l5 ≠ D := fun e => by rw [e, hD] at n5; cases n5
  have d6 : l6 ≠ D := fun e => by rw [e, S5 _ _ hD] at n6; cases n6
  have d7 : lb ≠ D := fun e => by rw [e, S6 _ _ (S5 _ _ hD)] at n7; cases n7
  have o5 : l5 ≠ o := fun e => by rw [e, hco] at n5; cases n5
  have o6 : l6 ≠ o := fun e => by rw [e, S5 _ _ hco] at n6; cases n6
  have o7 : lb ≠ o := fun e => by rw [e, S6 _ _ (S5 _ _ hco)] at n7; cases n7
  obtain ⟨hst, est⟩ : ∃ hst : Nat -> List Int, hst = fun i => if i = 0 then [] else if i = 1 then row.take n else row := ⟨_, rfl⟩
  have e0 : hst 0 = [] := by rw [est]; rfl
  have e1 : hst 1 = row.take n := by rw [est]; rfl
  have e2 : hst 2 = row := by rw [est]; rfl
  obtain ⟨Pv, pin, pout⟩ := f0m (fun i σ H' => ∃ (ps : List Addr) (v6 v7 v8 : Option V), σ = [some (.ref lw), some (.ref lr), some (.int b), some (.int n), some (.ref o), some (.ref D), v6, v7, v8] /\ Same H H' /\ H' l5 = some (.lst ((row.take n).map V.int)) /\ H' l6 = some (.lst ((row.drop n).map V.int)) /\ H' lb = some (.lst [.ref l5, .ref l6]) /\ H' D = some (.lst (ps.map V.ref)) /\ Prs H' ps (run ds (hst i)) (a9s b ds) /\ ChX A H' o ds (hst i) D)
  refine c3m (xs := [.ref l5, .ref l6]) Pv (pin _ _ _ ⟨[], _, _, _, rfl, S04.trans S47, h57, h67, hlb, hD7, ?_, ?_⟩) ?_ ?_ ?_
  ·rw [e0, f8i]
   exact ⟨rfl, fun i p e => by simp at e⟩
  ·rw [e0]
   exact ch7
  ·intro i σ H8 hi hp
   obtain ⟨ps, v6, v7, v8, rfl, S8, _, _, hlb8, _⟩ := pout _ _ _ hp
   exact SqL.of hlb8
  ·intro i v σ H8 hv hp
   obtain ⟨ps, v6, v7, v8, rfl, S8, h58, h68, hlb8, hD8, R8, ch8⟩ := pout _ _ _ hp
   obtain ⟨lk, y, rfl, hlk, ey, nkD, nko, yl, al⟩ : ∃ lk y, v = .ref lk /\ H8 lk = some (.lst (y.map V.int)) /\ hst (i + 1) = hst i ++ y /\ lk ≠ D /\ lk ≠ o /\ y.length <= 1000 /\ (hst i).length <= 1000 := by
    match i, hv with
    | 0, hv =>
     cases hv
     exact ⟨l5, _, rfl, h58, by rw [e0, e1]; rfl, d5, o5, by rw [List.length_take]; omega, by rw [e0]; decide⟩
    | 1, hv =>
     cases hv
     exact ⟨l6, _, rfl, h68, by rw [e1, e2, List.take_append_drop], d6, o6, by rw [List.length_drop]; omega, by rw [e1, List.length_take]; omega⟩
    | i + 2, hv => simp at hv
   have bz : ∀ z ∈ hst i ++ y, intBits z <= 64 := fun z hz => by
    rw [<- ey] at hz
    refine br z ?_
    match i, hz with
    | 0, hz => rw [e1] at hz; exact List.mem_of_mem_take hz
    | 1, hz => rw [e2] at hz; exact hz
    | i + 2, hz => rw [est] at hz; exact hz
   obtain ⟨a, ea⟩ : ∃ a, hst i = a := ⟨_, rfl⟩
   rw [ea] at ey bz al R8 ch8
   clear hv hp hD7 h57 h67 h5 h6 hlb ch7 hr5 hD
   obtain ⟨dx', pl', sl', os', sts', ho', hrest'⟩ := id ch8
   unfold chF at ho'
   walk_at "rd*"
   refine fun l9 H9 n9 S9 h9 => ?_
   have i5j := S9 _ _ hlk
   walk_at "rd"
   refine ⟨ds, a, y, D, ch8.same S9, ⟨_, S9 _ _ hD8⟩, h9, l8, okd, by omega, by omega, bb, bz, fun rr lo H10 B10 nrr nlo hrr hlo ch10 => ?_⟩
   have hD9 := S9 _ _ hD8
   have i3b := B10 _ _ nko i5j
   have i3c := B10 _ _ nDo hD9
   have bl := f8h ds a y
   have ble : ((blk ds a y).length : Int) = (y.length : Int) := by rw [bl]
   have nrD : rr ≠ D := fun e => by rw [e, hD9] at nrr; cases nrr
   have nlD : lo ≠ D := fun e => by rw [e, hD9] at nlo; cases nlo
   clear i5j hlk h9 ho'
   walk_at "rd*"
   rw [if_neg (by decide)]
   refine ⟨⟨_, SqL.of hlo⟩, ?_⟩
   have Lo : Lk H9 o := by
    obtain ⟨_, _, _, _, _, hc, _⟩ := ch8.same S9
    exact Lk.ins hc (.inr (.inr ⟨_, _, rfl⟩))
   have R10 : Prs H10 ps (run ds a) (a9s b ds) := (R8.same S9).c0i Lo B10
   obtain ⟨Pw, win, wout⟩ := f0m (fun j σ H' => ∃ (qs : List Addr) (v8 : Option V), σ = [some (.ref lw), some (.ref lr), some (.int b), some (.int n), some (.ref o), some (.ref D), some (.ref lk), some (.ref rr), v8] /\ a6i D H10 H' /\ H' D = some (.lst (qs.map V.ref)) /\ Prs H' qs (run ds a ++ (blk ds a y).take j) (a9s b ds))
   refine c3m (xs := (blk ds a y).map V.int) Pw (win _ _ _ ⟨ps, _, rfl, fun _ _ _ e => e, i3c, by rw [List.take_zero, List.append_nil]; exact R10⟩) ?_ ?_ ?_
   ·intro j σ H11 hj hp
    obtain ⟨qs, v8', rfl, B11, _⟩ := wout _ _ _ hp
    exact SqL.of (B11 _ _ nlD hlo)
   ·intro j v σ H11 hv hp
    rw [List.getElem?_map] at hv
    obtain ⟨z, hz, rfl⟩ := Option.map_eq_some_iff.mp hv
    obtain ⟨qs, v8', rfl, B11, hD11, R11⟩ := wout _ _ _ hp
    have hrr11 := B11 _ _ nrD hrr
    have ql := R11.1
    rw [List.length_append, c7z, List.length_take] at ql
    clear hp hv hrr hlo i3c i3b
    walk_at "rd*"
    refine fun p H12 n12 S12 h12 => ?_
    have hD12 := S12 _ _ hD11
    walk_at "rd*"
    refine ⟨by omega, ?_⟩
    rintro _ H13 ⟨rfl, B13, h13⟩
    refine win _ _ _ ⟨qs ++ [p], _, rfl, fun z u hz e => B13 _ _ hz (S12 _ _ (B11 _ _ hz e)), by rw [h13, List.map_append]; rfl, ?_⟩
    rw [List.take_add_one, hz, <- List.append_assoc]
    exact ((R11.same S12).snoc h12).c0i (Lk.lst hD12) B13
   ·intro σ H11 hp
    obtain ⟨qs, v8', rfl, B11, hD11, R11⟩ := wout _ _ _ hp
    rw [List.length_map, List.take_length, <- f2i, <- ey] at R11
    rw [<- ey] at ch10
    refine pin _ _ _ ⟨qs, _, _, _, rfl, (((S8.trans S9).step no B10).step nHD B11), B11 _ _ d5 (B10 _ _ o5 (S9 _ _ h58)), B11 _ _ d6 (B10 _ _ o6 (S9 _ _ h68)), B11 _ _ d7 (B10 _ _ o7 (S9 _ _ hlb8)), hD11, R11, ch10.c0i (Lk.lst i3c) B11⟩
  ·intro σ H8 hp
   obtain ⟨ps, v6, v7, v8, rfl, S8, h58, h68, hlb8, hD8, R8, ch8⟩ := pout _ _ _ hp
   rw [show [V.ref l5, V.ref l6].length = 2 from rfl, e2] at R8
   walk_at "rd"
   exact q D ps H8 S8 hD8 R8
theorem i0v (T : Tx K mg A) : a1p P A.wd K mg base CX0 13 A.f7l A.g5k ["_law_script"] (f6p 63 K) := by
 have c2l : a1p P A.wd K mg base CX0 1 _ _ _ _ := h5b T
 have g2w : a1p P A.wd K mg base CX0 3 _ _ _ _ := h0a T
 have f8m : a1p P A.wd K mg base CX0 1 _ _ _ _ := h0d T
 have g2x : a1p P A.wd K mg base CX0 1 _ _ _ _ := g9y T
 have c2m : a1p P A.wd K mg base CX0 12 _ _ _ _ := h5f T
 have d9v : a1p P A.wd K mg base CX0 1 _ _ _ _ := h5d T
 have d9w : a1p P A.wd K mg base CX0 12 _ _ _ _ := h5e T
 refine T.g8z.ok c9l (fun vs H Q E h => ?_) (fun cdv A' outer s H vs Q E hr h => ?_)
 ·obtain ⟨a, ns, rfl, _⟩ := h
  rfl
 ·obtain ⟨a, ns, rfl, hS, hl, hbit, hO, q⟩ := h
  have hu := hr.units
  have b8q : a2q 1 _ := hr.mono (by decide)
  have f8n : a2q 3 _ := hr.mono (by decide)
  have f5z : a2q 1 _ := hr.mono (by decide)
  have f8o : a2q 1 _ := hr.mono (by decide)
  have b8r : a2q 12 _ := hr.mono (by decide)
  have d6u : a2q 1 _ := hr.mono (by decide)
  have d6v : a2q 12 _ := hr.mono (by decide)
  have hs : sizeLine = 16777216 := sizeLine_eq
  have bc : ∀ k : Nat, intBits (ns.getD k 0) <= 1100000 := fun k => Nat.le_trans (g4s hbit k) (by decide)
  refine ⟨_, (b5h (a1o (i := 1) c9l.nd rfl (Or.inl rfl) (a1j a7s (a1j a4o (a0u c2l b8q (by rfl) T.c1p T.a5q.kp T.b0q .nil a1k (a0g (pvF 0) (a0g a0l a0i))) a0l) a0l))
   (a0k (a1o (i := 2) c9l.nd rfl (Or.inr rfl) (f6j (d2g hu) (a1j a7s (a1j a7t (pvF 1) a0l) a0l) a0l (a3k _)))
   (b5h (f0l (i := 3) c9l.nd rfl rfl (b8y (by rfl) T.b8p (a0g (a1j a2l a0l (a1j a7s (pvF 1) a0l)) a0i)) (fun _ _ _ _ _ => (a0u g2w f8n (by rfl) T.g1t T.b9u.kp T.d0y .nil a1k (a0g (a0u c2l b8q (by rfl) T.c1p T.a5q.kp T.b0q .nil a1k (a0g (pvF 1) (a0g (a1j a2l a0l (pvF 0)) a0i))) (a0g (pvF 3) a0i)))) (d7l (sc := a0h f4q) (N := ["_law_script", "_law_head", "_law_great", "_law_words", "_law_other", "_law_row", "_law_bottom", "_law_many", "_law_one"]) rfl rfl (by decide +kernel)) rfl)
   (b5h (a1o (i := 4) c9l.nd rfl (Or.inl rfl) (a0u f8m f5z (by rfl) T.f7n T.b5z.kp T.c7u .nil a1k (a0g (pvF 3) (a0g (a1j a7s (a1j a7t (pvF 1) a0l) a0l) a0i))))
   (b5h (f0l (i := 5) c9l.nd rfl rfl (b2m (a9v i2d (pvF 0) (a7y a0l) (a7y a0l))) (fun _ _ _ _ _ => (a0u g2x f8o (by rfl) T.g1u T.b9v.kp T.d0z .nil a1k (a0g (pvF 0) a0i))) (d7l (sc := a0h f4q) (N := ["_law_script", "_law_head", "_law_great", "_law_words", "_law_other", "_law_row", "_law_bottom", "_law_many", "_law_one"]) rfl rfl (by decide +kernel)) rfl)
   (a0k (a1o (i := 6) c9l.nd rfl (Or.inl rfl) (a1j a2l a0l (a1j a7s (a0u c2l b8q (by rfl) T.c1p T.a5q.kp T.b0q .nil a1k (a0g (pvF 0) (a0g a0l a0i))) a0l)))
   (b5h (a1o (i := 7) c9l.nd rfl (Or.inl rfl) (a1j a2l (a1l a2m (by rfl) T.b4h boot_len (a0g (pvF 5) a0i)) a0l))
   (a0k (a1o (i := 8) c9l.nd rfl (Or.inl rfl) (a0u c2m b8r (by rfl) T.c1s T.a5r.kp T.b0s .nil a1k (a0g (pvF 3) (a0g (pvF 5) (a0g (pvF 6) (a0g (a1j a7s (a1j a7t (pvF 1) a0l) (pvF 7)) a0i))))))
   (a0k (a8h (b8w (a7u (a0u d9v d6u (by rfl) T.d9m T.b4v.kp T.c6l .nil a1k (a0g (pvF 8) (a0g (a0u c2m b8r (by rfl) T.c1s T.a5r.kp T.b0s .nil a1k (a0g (pvF 4) (a0g (pvF 5) (a0g (pvF 6) (a0g (a1j a7s (a1j a7t (pvF 1) a0l) (pvF 7)) a0i))))) a0i)))))
   (a0m (a1h g0n))
   a2g)
   (a0k (a8h (b8w (a7u (a0u d9v d6u (by rfl) T.d9m T.b4v.kp T.c6l .nil a1k (a0g (pvF 8) (a0g (a0u c2m b8r (by rfl) T.c1s T.a5r.kp T.b0s .nil a1k (a0g (h3u (by rfl) T.b6g (by rfl) T.b9w rfl (pvF 3)) (a0g (pvF 5) (a0g (pvF 6) (a0g (a1j a7s (a1j a7t (pvF 1) a0l) (pvF 7)) a0i))))) a0i)))))
   (a0m (a1h g0n))
   a2g)
   (a0m (a1h (f6j (d2g hu) (a0u d9w d6v (by rfl) T.d9n T.b4w.kp T.c6m .nil a1k (a0g (pvF 3) a0i)) (a0u d9w d6v (by rfl) T.d9n T.b4w.kp T.c6m .nil a1k (a0g (pvF 4) a0i)) (a3k _)))))))))))))), ?_⟩
  obtain ⟨Mid0, in0, out0⟩ := g8h (fun σ' H' => ∃ hd : Int, σ' = [some (.ref a), some (.int hd), none, none, none, none, none, none, none] /\ H' = H /\ 0 <= hd /\ hd < 999979)
  refine ⟨Mid0, ?_, ?_⟩
  ·walk_at "rd"
   have f := b9z (ns.getD 0 0 * 16807) (b := 999979) (by decide)
   exact ⟨ns, hS, IntMulOk.of_right (by decide), in0 _ _ ⟨_, rfl, rfl, f.1, f.2⟩⟩
  intro σ0 H0 hm0
  obtain ⟨hd, rfl, rfl, hd0, hd1⟩ := out0 _ _ hm0
  clear hm0 in0 out0
  have f6 := b9z hd (b := 6) (by decide)
  walk_at "rd"
  obtain ⟨Mid2, in2, out2⟩ := g8h (fun σ' H' => ∃ (lw : Addr) (ds : List Dt) (g : Bool), σ' = [some (.ref a), some (.int hd), some (.bl g), some (.ref lw), none, none, none, none, none] /\ Same H0 H' /\ H' lw = some (.lst (ds.map fun d => V.str d.word)) /\ ds.length <= 6 /\ (∀ d ∈ ds, d.ok /\ d.kd < 4 /\ Few d))
  refine ⟨⟨by decide, by decide⟩, Mid2, ?_, ?_⟩
  ·walk_at "rd"
   refine ⟨by omega, by omega, fun D H2 n2 S2 h2 => ?_⟩
   refine d3t (fun i ys H' => Same H0 H' /\ H' D = some (.lst ys) /\ ∃ ds : List Dt, ys = ds.map (fun d => V.str d.word) /\ ds.length = i /\ ∀ d ∈ ds, d.ok /\ d.kd < 4 /\ Few d) ⟨S2, h2, [], rfl, rfl, fun d hd => by cases hd⟩ (by omega) ?_ ?_ ?_
   ·intro i ys H' hi ⟨S', h', ds, e, el, ok⟩
    exact ⟨h', by rw [e, List.length_map, el]⟩
   ·intro i ys H' hi ⟨S', h', ds, e, el, ok⟩
    walk_at "rd"
    refine ⟨ns, S'.seq hS, by omega, bc _, fun d o1 o2 o3 => ⟨h', fun H4 B4 h4 => ⟨S'.step n2 B4, h4, ds ++ [d], by rw [e, List.map_append]; rfl, by rw [List.length_append, el]; rfl, fun d' hd' => ?_⟩⟩⟩
    rcases List.mem_append.mp hd' with h | h
    ·exact ok d' h
    ·obtain rfl := List.mem_singleton.mp h
     exact ⟨o1, o2, o3⟩
   ·intro ys H3 ⟨S3, h3, ds, e, el, ok⟩
    subst e
    try walk_at "rd"
    exact in2 _ _ ⟨D, ds, _, rfl, S3, h3, by omega, ok⟩
  intro σ2 H2 hm2
  obtain ⟨lw, ds, g, rfl, S2, hlw, dl, ok⟩ := out2 _ _ hm2
  clear hm2 in2 out2 f6
  have hS2 := S2.seq hS
  obtain ⟨Mid3, in3, out3⟩ := g8h (fun σ' H' => ∃ (l3 : Addr) (es : List Dt), σ' = [some (.ref a), some (.int hd), some (.bl g), some (.ref lw), some (.ref l3), none, none, none, none] /\ Same H2 H' /\ H' l3 = some (.lst (es.map fun d => V.str d.word)) /\ es.Perm ds)
  refine ⟨Mid3, ?_, ?_⟩
  ·walk_at "rd"
   exact ⟨⟨by decide, by decide⟩, ds, hlw, by omega, fun d hd => (ok d hd).2.1, fun es lo H3 pm n3 S3 h3 => in3 _ _ ⟨lo, es, rfl, S3, h3, pm⟩⟩
  intro σ3 H3 hm3
  obtain ⟨l3, es, rfl, S3, hl3, pm⟩ := out3 _ _ hm3
  clear hm3 in3 out3
  have hS3 := S3.seq hS2
  have i5k := S3 _ _ hlw
  have oke : ∀ d ∈ es, d.ok /\ d.kd < 4 /\ Few d := fun d hd => ok d (pm.mem_iff.mp hd)
  have el := pm.length_eq
  clear hlw
  obtain ⟨Mid4, in4, out4⟩ := g8h (fun σ' H' => ∃ (D : Addr) (row : List Int), σ' = [some (.ref a), some (.int hd), some (.bl g), some (.ref lw), some (.ref l3), some (.ref D), none, none, none] /\ Same H3 H' /\ H' D = some (.lst (row.map V.int)) /\ row.length <= 63 /\ (∀ z ∈ row, intBits z <= 64))
  refine ⟨Mid4, ?_, ?_⟩
  ·walk_at "rd"
   refine ⟨_, hS3, fun p9 H9 n9 S9 h9 => ?_⟩
   rw [b9g] at h9
   have hmem : ∀ x ∈ f3y ns (some 8) (some 71), intBits x <= 1100000 := fun x hx => Nat.le_trans (hbit x (g8f hx)) (by decide)
   have ml := g8g ns (some 8) (some 71)
   generalize f3y ns (some 8) (some 71) = ms at h9 hmem ml
   walk_at "rd"
   refine ⟨⟨_, SqL.of h9⟩, fun D H10 n10 S10 h10 => ?_⟩
   refine f3w (fun v => match v with | .int c => .int (g7n c) | v => v) n10 S10 h10 (SqL.of h9) (by rw [List.length_map, sizeLine_eq]; omega) ?_ ?_
   ·intro i x H' Q' hx S' q'
    rw [List.getElem?_map] at hx
    obtain ⟨c, hc, rfl⟩ := Option.map_eq_some_iff.mp hx
    have bx := hmem c (List.mem_of_getElem? hc)
    try walk_at "rd"
    exact ⟨bx, q'⟩
   intro H11 S11 h11
   have e11 : (ms.map V.int).map (fun v : V => match v with | .int c => V.int (g7n c) | v => v) = (ms.map g7n).map V.int := by
    rw [List.map_map, List.map_map]
    rfl
   rw [e11] at h11
   have tb : ∀ x ∈ ms.map g7n, intBits x <= 64 := fun x hx => by
    obtain ⟨c, _, rfl⟩ := List.mem_map.mp hx
    have := g9x c
    exact intBits_le_64 (by omega) (by omega)
   try walk_at "rd"
   exact in4 _ _ ⟨D, ms.map g7n, rfl, S9.trans S11, h11, by rw [List.length_map]; omega, tb⟩
  intro σ4 H4 hm4
  obtain ⟨D, row, rfl, S4, hD, rl, tb⟩ := out4 _ _ hm4
  clear hm4 in4 out4
  have hS4 := S4.seq hS3
  have i3d := S4 _ _ i5k
  have i5l := S4 _ _ hl3
  clear i5k hl3
  walk_at "rd"
  refine ⟨ns, hS4, ?_⟩
  have f9 := b9z (ns.getD 1 0) (b := 9) (by decide)
  obtain ⟨b, eb⟩ : ∃ b : Int, 1 + (ns.getD 1 0).fmod 9 = b := ⟨_, rfl⟩
  rw [eb]
  have b1 : 1 <= b := by omega
  have b9 : b <= 9 := by omega
  obtain ⟨Mid6, in6, out6⟩ := g8h (fun σ' H' => σ' = [some (.ref a), some (.int hd), some (.bl g), some (.ref lw), some (.ref l3), some (.ref D), some (.int b), some (.int ((row.length + 1 : Nat) : Int)), none] /\ H' = H4)
  refine ⟨Mid6, ?_, ?_⟩
  ·walk_at "rd*"
   exact in6 _ _ ⟨rfl, rfl⟩
  intro σ6 H6 hm6
  obtain ⟨rfl, rfl⟩ := out6 _ _ hm6
  clear hm6 in6 out6 f9 eb
  have fm := fun c : Int => b9z (hd.fdiv c) (b := ((row.length + 1 : Nat) : Int)) (by omega)
  have ok2 : ∀ d ∈ ds, d.ok /\ d.kd < 4 := fun d hd => ⟨(ok d hd).1, (ok d hd).2.1⟩
  have ok3 : ∀ d ∈ es, d.ok /\ d.kd < 4 := fun d hd => ⟨(oke d hd).1, (oke d hd).2.1⟩
  have okr : ∀ d ∈ ds.reverse, d.ok /\ d.kd < 4 := fun d hd => ok2 d (List.mem_reverse.mp hd)
  have tn : ∀ c : Int, (hd.fdiv c).fmod ((row.length + 1 : Nat) : Int) = (((hd.fdiv c).fmod ((row.length + 1 : Nat) : Int)).toNat : Int) := fun c => by rw [Int.toNat_of_nonneg (fm c).1]
  have tl : ∀ c : Int, ((hd.fdiv c).fmod ((row.length + 1 : Nat) : Int)).toNat <= row.length := fun c => by have := fm c; omega
  have rb := d3i (ds := ds) (xs := row) (B := 64) (by decide) (fun d hd => (ok d hd).1) tb
  have gb := c1z (ds := ds) (b := b) (B := 64) (fun d hd => (ok d hd).1) (intBits_le_64 (by omega) (by omega))
  have rb' : ∀ z ∈ run ds row, intBits z <= 4000 := fun z hz => by have := rb z hz; omega
  have rll : (run ds row).length <= 1000 := by rw [c7z]; omega
  walk_at "rd"
  refine ⟨⟨by decide, by decide⟩, by omega, ds, i3d, by omega, ok2, row, hD, by omega, tb, b1, b9, _, tn 7, tl 7, fun lo1 ps1 H7 S7 h7 R7 => ?_⟩
  refine ⟨⟨by decide, by decide⟩, by omega, es, S7 _ _ i5l, by omega, ok3, row, S7 _ _ hD, by omega, tb, b1, b9, _, tn 11, tl 11, fun lo2 ps2 H8 S8 h8 R8 => ?_⟩
  rw [g0m pm, c8h pm] at R8
  refine ⟨_, S8 _ _ h7, _, h8, _, _, R7.same S8, R8, rll, rb', by omega, fun H9 S9 => ?_⟩
  have S69 := S7.trans (S8.trans S9)
  have hlw9 := S69 _ _ i3d
  unfold h8x
  walk_at "rd*"
  refine fun l10 H10 n10 S10 h10 => ?_
  rw [<- List.map_reverse] at h10
  have pr := List.reverse_perm ds
  refine ⟨⟨by decide, by decide⟩, by omega, ds.reverse, h10, by rw [List.length_reverse]; omega, okr, row, S10 _ _ (S69 _ _ hD), by omega, tb, b1, b9, _, tn 13, tl 13, fun lo3 ps3 H11 S11 h11 R11 => ?_⟩
  rw [g0m pr, c8h pr] at R11
  have i5m := S9.trans (S10.trans S11)
  refine ⟨_, i5m _ _ (S8 _ _ h7), _, h11, _, _, (R7.same S8).same i5m, R11, rll, rb', by omega, fun H12 S12 => ?_⟩
  have i5n := S69.trans (S10.trans (S11.trans S12))
  refine ⟨ds, i5n _ _ i3d, by omega, ok, fun p pw H13 S13 h13 hw13 => ?_⟩
  refine ⟨es, S13 _ _ (i5n _ _ i5l), by omega, oke, fun p2 pw2 H14 S14 h14 hw14 => ?_⟩
  have ew : wts es = wts ds := h0b pm 1
  rw [c8h pm, g7d pm] at h14
  rw [ew] at hw14
  try walk_at "rd"
  refine h4d (ws := [(wts ds).num, ((wts ds).den : Int)]) (SqT.of (S14 _ _ h13)) (SqT.of h14) (SqT.of (S14 _ _ hw13)) (SqT.of hw14) ?_
  exact q _
theorem all_mk {l : PySem.W.OpenLaw} {w : World} {K : PySem.W.Frag} {h : Heap} {mg : Str → Option Value} {fa : Addr} (X : K.In h) (G : h.Ns mainGlobals mg) (hfa : mg "law" = some (.ref fa))
  {b3m a1z a1q a1r a1v a2w : Addr}
  (f1h : PySem.W.nsIn K mainGlobals "Part" = some (some (.ref b3m)))
  (d4w : PySem.W.nsIn K mainGlobals "Gain" = some (some (.ref a1z)))
  (c9n : PySem.W.nsIn K mainGlobals "Delay" = some (some (.ref a1q)))
  (d4y : PySem.W.nsIn K mainGlobals "Echo" = some (some (.ref a1r)))
  (d4z : PySem.W.nsIn K mainGlobals "Back" = some (some (.ref a1v)))
  (c6n : PySem.W.nsIn K mainGlobals "Chain" = some (some (.ref a2w)))
  {b1n : Addr} {od_is_whole an_is_whole : Option Addr} {sl_is_whole : Array (Option Value)} {oc_is_whole kV_is_whole dc_is_whole pm_is_whole cd_is_whole ct_is_whole : Value}
  (a_is_whole : PySem.W.nsIn K mainGlobals "is_whole" = some (some (.ref b1n))) (l_is_whole : K.lookup b1n = some ⟨oc_is_whole, od_is_whole, .func (PySem.W.fnOf "is_whole" "is_whole" (a0q b4j) (a0p b4j) (a0h b4j) .none kV_is_whole dc_is_whole pm_is_whole an_is_whole cd_is_whole ct_is_whole), sl_is_whole⟩) (d1n : PySem.W.codeIn K cd_is_whole "is_whole" = true) (k_is_whole : PySem.W.keepIn K (.ref b1n) = true)
  {a6q : Addr} {od_is_figures an_is_figures : Option Addr} {sl_is_figures : Array (Option Value)} {oc_is_figures kV_is_figures dc_is_figures pm_is_figures cd_is_figures ct_is_figures : Value}
  (a_is_figures : PySem.W.nsIn K mainGlobals "is_figures" = some (some (.ref a6q))) (l_is_figures : K.lookup a6q = some ⟨oc_is_figures, od_is_figures, .func (PySem.W.fnOf "is_figures" "is_figures" (a0q a8v) (a0p a8v) (a0h a8v) .none kV_is_figures dc_is_figures pm_is_figures an_is_figures cd_is_figures ct_is_figures), sl_is_figures⟩) (c5l : PySem.W.codeIn K cd_is_figures "is_figures" = true) (k_is_figures : PySem.W.keepIn K (.ref a6q) = true)
  {b1o : Addr} {od_whole_of an_whole_of : Option Addr} {sl_whole_of : Array (Option Value)} {oc_whole_of kV_whole_of dc_whole_of pm_whole_of cd_whole_of ct_whole_of : Value}
  (a_whole_of : PySem.W.nsIn K mainGlobals "whole_of" = some (some (.ref b1o))) (l_whole_of : K.lookup b1o = some ⟨oc_whole_of, od_whole_of, .func (PySem.W.fnOf "whole_of" "whole_of" (a0q b4k) (a0p b4k) (a0h b4k) .none kV_whole_of dc_whole_of pm_whole_of an_whole_of cd_whole_of ct_whole_of), sl_whole_of⟩) (d1o : PySem.W.codeIn K cd_whole_of "whole_of" = true) (k_whole_of : PySem.W.keepIn K (.ref b1o) = true)
  {b5l : Addr} {od_divisor an_divisor : Option Addr} {sl_divisor : Array (Option Value)} {oc_divisor kV_divisor dc_divisor pm_divisor cd_divisor ct_divisor : Value}
  (a_divisor : PySem.W.nsIn K mainGlobals "divisor" = some (some (.ref b5l))) (l_divisor : K.lookup b5l = some ⟨oc_divisor, od_divisor, .func (PySem.W.fnOf "divisor" "divisor" (a0q b9i) (a0p b9i) (a0h b9i) .none kV_divisor dc_divisor pm_divisor an_divisor cd_divisor ct_divisor), sl_divisor⟩) (d6w : PySem.W.codeIn K cd_divisor "divisor" = true) (k_divisor : PySem.W.keepIn K (.ref b5l) = true)
  {b1p : Addr} {od_fraction an_fraction : Option Addr} {sl_fraction : Array (Option Value)} {oc_fraction kV_fraction dc_fraction pm_fraction cd_fraction ct_fraction : Value}
  (a_fraction : PySem.W.nsIn K mainGlobals "fraction" = some (some (.ref b1p))) (l_fraction : K.lookup b1p = some ⟨oc_fraction, od_fraction, .func (PySem.W.fnOf "fraction" "fraction" (a0q b4l) (a0p b4l) (a0h b4l) .none kV_fraction dc_fraction pm_fraction an_fraction cd_fraction ct_fraction), sl_fraction⟩) (d1p : PySem.W.codeIn K cd_fraction "fraction" = true) (k_fraction : PySem.W.keepIn K (.ref b1p) = true)
  {d3z : Addr} {od_plus an_plus : Option Addr} {sl_plus : Array (Option Value)} {oc_plus kV_plus dc_plus pm_plus cd_plus ct_plus : Value}
  (a_plus : PySem.W.nsIn K mainGlobals "plus" = some (some (.ref d3z))) (l_plus : K.lookup d3z = some ⟨oc_plus, od_plus, .func (PySem.W.fnOf "plus" "plus" (a0q d9j) (a0p d9j) (a0h d9j) .none kV_plus dc_plus pm_plus an_plus cd_plus ct_plus), sl_plus⟩) (g7e : PySem.W.codeIn K cd_plus "plus" = true) (k_plus : PySem.W.keepIn K (.ref d3z) = true)
  {c7i : Addr} {od_times an_times : Option Addr} {sl_times : Array (Option Value)} {oc_times kV_times dc_times pm_times cd_times ct_times : Value}
  (a_times : PySem.W.nsIn K mainGlobals "times" = some (some (.ref c7i))) (l_times : K.lookup c7i = some ⟨oc_times, od_times, .func (PySem.W.fnOf "times" "times" (a0q d0k) (a0p d0k) (a0h d0k) .none kV_times dc_times pm_times an_times cd_times ct_times), sl_times⟩) (f8p : PySem.W.codeIn K cd_times "times" = true) (k_times : PySem.W.keepIn K (.ref c7i) = true)
  {b5m : Addr} {od_size_of an_size_of : Option Addr} {sl_size_of : Array (Option Value)} {oc_size_of kV_size_of dc_size_of pm_size_of cd_size_of ct_size_of : Value}
  (a_size_of : PySem.W.nsIn K mainGlobals "size_of" = some (some (.ref b5m))) (l_size_of : K.lookup b5m = some ⟨oc_size_of, od_size_of, .func (PySem.W.fnOf "size_of" "size_of" (a0q b9j) (a0p b9j) (a0h b9j) .none kV_size_of dc_size_of pm_size_of an_size_of cd_size_of ct_size_of), sl_size_of⟩) (d6y : PySem.W.codeIn K cd_size_of "size_of" = true) (k_size_of : PySem.W.keepIn K (.ref b5m) = true)
  {a3p : Addr} {od_fraction_text an_fraction_text : Option Addr} {sl_fraction_text : Array (Option Value)} {oc_fraction_text kV_fraction_text dc_fraction_text pm_fraction_text cd_fraction_text ct_fraction_text : Value}
  (a_fraction_text : PySem.W.nsIn K mainGlobals "fraction_text" = some (some (.ref a3p))) (l_fraction_text : K.lookup a3p = some ⟨oc_fraction_text, od_fraction_text, .func (PySem.W.fnOf "fraction_text" "fraction_text" (a0q a4p) (a0p a4p) (a0h a4p) .none kV_fraction_text dc_fraction_text pm_fraction_text an_fraction_text cd_fraction_text ct_fraction_text), sl_fraction_text⟩) (b6i : PySem.W.codeIn K cd_fraction_text "fraction_text" = true) (k_fraction_text : PySem.W.keepIn K (.ref a3p) = true)
  {a3q : Addr} {od_read_fraction an_read_fraction : Option Addr} {sl_read_fraction : Array (Option Value)} {oc_read_fraction kV_read_fraction dc_read_fraction pm_read_fraction cd_read_fraction ct_read_fraction : Value}
  (a_read_fraction : PySem.W.nsIn K mainGlobals "read_fraction" = some (some (.ref a3q))) (l_read_fraction : K.lookup a3q = some ⟨oc_read_fraction, od_read_fraction, .func (PySem.W.fnOf "read_fraction" "read_fraction" (a0q a4q) (a0p a4q) (a0h a4q) .none kV_read_fraction dc_read_fraction pm_read_fraction an_read_fraction cd_read_fraction ct_read_fraction), sl_read_fraction⟩) (b6j : PySem.W.codeIn K cd_read_fraction "read_fraction" = true) (k_read_fraction : PySem.W.keepIn K (.ref a3q) = true)
  {a6r : Addr} {od_added_rows an_added_rows : Option Addr} {sl_added_rows : Array (Option Value)} {oc_added_rows kV_added_rows dc_added_rows pm_added_rows cd_added_rows ct_added_rows : Value}
  (a_added_rows : PySem.W.nsIn K mainGlobals "added_rows" = some (some (.ref a6r))) (l_added_rows : K.lookup a6r = some ⟨oc_added_rows, od_added_rows, .func (PySem.W.fnOf "added_rows" "added_rows" (a0q a6o) (a0p a6o) (a0h a6o) .none kV_added_rows dc_added_rows pm_added_rows an_added_rows cd_added_rows ct_added_rows), sl_added_rows⟩) (c5m : PySem.W.codeIn K cd_added_rows "added_rows" = true) (k_added_rows : PySem.W.keepIn K (.ref a6r) = true)
  {a8l : Addr} {od_times_row an_times_row : Option Addr} {sl_times_row : Array (Option Value)} {oc_times_row kV_times_row dc_times_row pm_times_row cd_times_row ct_times_row : Value}
  (a_times_row : PySem.W.nsIn K mainGlobals "times_row" = some (some (.ref a8l))) (l_times_row : K.lookup a8l = some ⟨oc_times_row, od_times_row, .func (PySem.W.fnOf "times_row" "times_row" (a0q a8j) (a0p a8j) (a0h a8j) .none kV_times_row dc_times_row pm_times_row an_times_row cd_times_row ct_times_row), sl_times_row⟩) (c8i : PySem.W.codeIn K cd_times_row "times_row" = true) (k_times_row : PySem.W.keepIn K (.ref a8l) = true)
  {b5n : Addr} {od_delayed an_delayed : Option Addr} {sl_delayed : Array (Option Value)} {oc_delayed kV_delayed dc_delayed pm_delayed cd_delayed ct_delayed : Value}
  (a_delayed : PySem.W.nsIn K mainGlobals "delayed" = some (some (.ref b5n))) (l_delayed : K.lookup b5n = some ⟨oc_delayed, od_delayed, .func (PySem.W.fnOf "delayed" "delayed" (a0q b5k) (a0p b5k) (a0h b5k) .none kV_delayed dc_delayed pm_delayed an_delayed cd_delayed ct_delayed), sl_delayed⟩) (d6z : PySem.W.codeIn K cd_delayed "delayed" = true) (k_delayed : PySem.W.keepIn K (.ref b5n) = true)
  {b5o : Addr} {od_last_of an_last_of : Option Addr} {sl_last_of : Array (Option Value)} {oc_last_of kV_last_of dc_last_of pm_last_of cd_last_of ct_last_of : Value}
  (a_last_of : PySem.W.nsIn K mainGlobals "last_of" = some (some (.ref b5o))) (l_last_of : K.lookup b5o = some ⟨oc_last_of, od_last_of, .func (PySem.W.fnOf "last_of" "last_of" (a0q b9k) (a0p b9k) (a0h b9k) .none kV_last_of dc_last_of pm_last_of an_last_of cd_last_of ct_last_of), sl_last_of⟩) (d7g : PySem.W.codeIn K cd_last_of "last_of" = true) (k_last_of : PySem.W.keepIn K (.ref b5o) = true)
  {a3h : Addr} {od_Part_grain an_Part_grain : Option Addr} {sl_Part_grain : Array (Option Value)} {oc_Part_grain kV_Part_grain dc_Part_grain pm_Part_grain cd_Part_grain ct_Part_grain : Value}
  (a_Part_grain : PySem.W.findIn K (.ref b3m) "grain" = some (some (.ref a3h))) (l_Part_grain : K.lookup a3h = some ⟨oc_Part_grain, od_Part_grain, .func (PySem.W.fnOf "grain" "Part.grain" (a0q a8w) (a0p a8w) (a0h a8w) .none kV_Part_grain dc_Part_grain pm_Part_grain an_Part_grain cd_Part_grain ct_Part_grain), sl_Part_grain⟩) (c5n : PySem.W.codeIn K cd_Part_grain "Part.grain" = true) (k_Part_grain : PySem.W.keepIn K (.ref a3h) = true)
  {a1n : Addr} {od_Part_fresh an_Part_fresh : Option Addr} {sl_Part_fresh : Array (Option Value)} {oc_Part_fresh kV_Part_fresh dc_Part_fresh pm_Part_fresh cd_Part_fresh ct_Part_fresh : Value}
  (a_Part_fresh : PySem.W.findIn K (.ref b3m) "fresh" = some (some (.ref a1n))) (l_Part_fresh : K.lookup a1n = some ⟨oc_Part_fresh, od_Part_fresh, .func (PySem.W.fnOf "fresh" "Part.fresh" (a0q a8y) (a0p a8y) (a0h a8y) .none kV_Part_fresh dc_Part_fresh pm_Part_fresh an_Part_fresh cd_Part_fresh ct_Part_fresh), sl_Part_fresh⟩) (c5o : PySem.W.codeIn K cd_Part_fresh "Part.fresh" = true) (k_Part_fresh : PySem.W.keepIn K (.ref a1n) = true)
  {a3i : Addr} {od_Part_reach an_Part_reach : Option Addr} {sl_Part_reach : Array (Option Value)} {oc_Part_reach kV_Part_reach dc_Part_reach pm_Part_reach cd_Part_reach ct_Part_reach : Value}
  (a_Part_reach : PySem.W.findIn K (.ref b3m) "reach" = some (some (.ref a3i))) (l_Part_reach : K.lookup a3i = some ⟨oc_Part_reach, od_Part_reach, .func (PySem.W.fnOf "reach" "Part.reach" (a0q a8z) (a0p a8z) (a0h a8z) .none kV_Part_reach dc_Part_reach pm_Part_reach an_Part_reach cd_Part_reach ct_Part_reach), sl_Part_reach⟩) (c5p : PySem.W.codeIn K cd_Part_reach "Part.reach" = true) (k_Part_reach : PySem.W.keepIn K (.ref a3i) = true)
  {a2o : Addr} {od_Part_weight an_Part_weight : Option Addr} {sl_Part_weight : Array (Option Value)} {oc_Part_weight kV_Part_weight dc_Part_weight pm_Part_weight cd_Part_weight ct_Part_weight : Value}
  (a_Part_weight : PySem.W.findIn K (.ref b3m) "weight" = some (some (.ref a2o))) (l_Part_weight : K.lookup a2o = some ⟨oc_Part_weight, od_Part_weight, .func (PySem.W.fnOf "weight" "Part.weight" (a0q a6z) (a0p a6z) (a0h a6z) .none kV_Part_weight dc_Part_weight pm_Part_weight an_Part_weight cd_Part_weight ct_Part_weight), sl_Part_weight⟩) (c2n : PySem.W.codeIn K cd_Part_weight "Part.weight" = true) (k_Part_weight : PySem.W.keepIn K (.ref a2o) = true)
  {a6s : Addr} {od_Gain_init an_Gain_init : Option Addr} {sl_Gain_init : Array (Option Value)} {oc_Gain_init kV_Gain_init dc_Gain_init pm_Gain_init cd_Gain_init ct_Gain_init : Value}
  (a_Gain_init : PySem.W.findIn K (.ref a1z) "__init__" = some (some (.ref a6s))) (l_Gain_init : K.lookup a6s = some ⟨oc_Gain_init, od_Gain_init, .func (PySem.W.fnOf "__init__" "Gain.__init__" (a0q b0y) (a0p b0y) (a0h b0y) .none kV_Gain_init dc_Gain_init pm_Gain_init an_Gain_init cd_Gain_init ct_Gain_init), sl_Gain_init⟩) (c8j : PySem.W.codeIn K cd_Gain_init "Gain.__init__" = true) (k_Gain_init : PySem.W.keepIn K (.ref a6s) = true)
  {a3u : Addr} {od_Gain_grain an_Gain_grain : Option Addr} {sl_Gain_grain : Array (Option Value)} {oc_Gain_grain kV_Gain_grain dc_Gain_grain pm_Gain_grain cd_Gain_grain ct_Gain_grain : Value}
  (a_Gain_grain : PySem.W.findIn K (.ref a1z) "grain" = some (some (.ref a3u))) (l_Gain_grain : K.lookup a3u = some ⟨oc_Gain_grain, od_Gain_grain, .func (PySem.W.fnOf "grain" "Gain.grain" (a0q a9g) (a0p a9g) (a0h a9g) .none kV_Gain_grain dc_Gain_grain pm_Gain_grain an_Gain_grain cd_Gain_grain ct_Gain_grain), sl_Gain_grain⟩) (c5q : PySem.W.codeIn K cd_Gain_grain "Gain.grain" = true) (k_Gain_grain : PySem.W.keepIn K (.ref a3u) = true)
  {a2y : Addr} {od_Gain_through an_Gain_through : Option Addr} {sl_Gain_through : Array (Option Value)} {oc_Gain_through kV_Gain_through dc_Gain_through pm_Gain_through cd_Gain_through ct_Gain_through : Value}
  (a_Gain_through : PySem.W.findIn K (.ref a1z) "through" = some (some (.ref a2y))) (l_Gain_through : K.lookup a2y = some ⟨oc_Gain_through, od_Gain_through, .func (PySem.W.fnOf "through" "Gain.through" (a0q a5v) (a0p a5v) (a0h a5v) .none kV_Gain_through dc_Gain_through pm_Gain_through an_Gain_through cd_Gain_through ct_Gain_through), sl_Gain_through⟩) (b8s : PySem.W.codeIn K cd_Gain_through "Gain.through" = true) (k_Gain_through : PySem.W.keepIn K (.ref a2y) = true)
  {a3v : Addr} {od_Gain_weight an_Gain_weight : Option Addr} {sl_Gain_weight : Array (Option Value)} {oc_Gain_weight kV_Gain_weight dc_Gain_weight pm_Gain_weight cd_Gain_weight ct_Gain_weight : Value}
  (a_Gain_weight : PySem.W.findIn K (.ref a1z) "weight" = some (some (.ref a3v))) (l_Gain_weight : K.lookup a3v = some ⟨oc_Gain_weight, od_Gain_weight, .func (PySem.W.fnOf "weight" "Gain.weight" (a0q a7g) (a0p a7g) (a0h a7g) .none kV_Gain_weight dc_Gain_weight pm_Gain_weight an_Gain_weight cd_Gain_weight ct_Gain_weight), sl_Gain_weight⟩) (c2o : PySem.W.codeIn K cd_Gain_weight "Gain.weight" = true) (k_Gain_weight : PySem.W.keepIn K (.ref a3v) = true)
  {a4y : Addr} {od_Delay_init an_Delay_init : Option Addr} {sl_Delay_init : Array (Option Value)} {oc_Delay_init kV_Delay_init dc_Delay_init pm_Delay_init cd_Delay_init ct_Delay_init : Value}
  (a_Delay_init : PySem.W.findIn K (.ref a1q) "__init__" = some (some (.ref a4y))) (l_Delay_init : K.lookup a4y = some ⟨oc_Delay_init, od_Delay_init, .func (PySem.W.fnOf "__init__" "Delay.__init__" (a0q a9h) (a0p a9h) (a0h a9h) .none kV_Delay_init dc_Delay_init pm_Delay_init an_Delay_init cd_Delay_init ct_Delay_init), sl_Delay_init⟩) (c5r : PySem.W.codeIn K cd_Delay_init "Delay.__init__" = true) (k_Delay_init : PySem.W.keepIn K (.ref a4y) = true)
  {a2p : Addr} {od_Delay_through an_Delay_through : Option Addr} {sl_Delay_through : Array (Option Value)} {oc_Delay_through kV_Delay_through dc_Delay_through pm_Delay_through cd_Delay_through ct_Delay_through : Value}
  (a_Delay_through : PySem.W.findIn K (.ref a1q) "through" = some (some (.ref a2p))) (l_Delay_through : K.lookup a2p = some ⟨oc_Delay_through, od_Delay_through, .func (PySem.W.fnOf "through" "Delay.through" (a0q a4r) (a0p a4r) (a0h a4r) .none kV_Delay_through dc_Delay_through pm_Delay_through an_Delay_through cd_Delay_through ct_Delay_through), sl_Delay_through⟩) (b6k : PySem.W.codeIn K cd_Delay_through "Delay.through" = true) (k_Delay_through : PySem.W.keepIn K (.ref a2p) = true)
  {a3w : Addr} {od_Delay_reach an_Delay_reach : Option Addr} {sl_Delay_reach : Array (Option Value)} {oc_Delay_reach kV_Delay_reach dc_Delay_reach pm_Delay_reach cd_Delay_reach ct_Delay_reach : Value}
  (a_Delay_reach : PySem.W.findIn K (.ref a1q) "reach" = some (some (.ref a3w))) (l_Delay_reach : K.lookup a3w = some ⟨oc_Delay_reach, od_Delay_reach, .func (PySem.W.fnOf "reach" "Delay.reach" (a0q a7h) (a0p a7h) (a0h a7h) .none kV_Delay_reach dc_Delay_reach pm_Delay_reach an_Delay_reach cd_Delay_reach ct_Delay_reach), sl_Delay_reach⟩) (c2p : PySem.W.codeIn K cd_Delay_reach "Delay.reach" = true) (k_Delay_reach : PySem.W.keepIn K (.ref a3w) = true)
  {a8m : Addr} {od_powers_of an_powers_of : Option Addr} {sl_powers_of : Array (Option Value)} {oc_powers_of kV_powers_of dc_powers_of pm_powers_of cd_powers_of ct_powers_of : Value}
  (a_powers_of : PySem.W.nsIn K mainGlobals "powers_of" = some (some (.ref a8m))) (l_powers_of : K.lookup a8m = some ⟨oc_powers_of, od_powers_of, .func (PySem.W.fnOf "powers_of" "powers_of" (a0q b0z) (a0p b0z) (a0h b0z) .none kV_powers_of dc_powers_of pm_powers_of an_powers_of cd_powers_of ct_powers_of), sl_powers_of⟩) (c8k : PySem.W.codeIn K cd_powers_of "powers_of" = true) (k_powers_of : PySem.W.keepIn K (.ref a8m) = true)
  {a6t : Addr} {od_Echo_init an_Echo_init : Option Addr} {sl_Echo_init : Array (Option Value)} {oc_Echo_init kV_Echo_init dc_Echo_init pm_Echo_init cd_Echo_init ct_Echo_init : Value}
  (a_Echo_init : PySem.W.findIn K (.ref a1r) "__init__" = some (some (.ref a6t))) (l_Echo_init : K.lookup a6t = some ⟨oc_Echo_init, od_Echo_init, .func (PySem.W.fnOf "__init__" "Echo.__init__" (a0q a8k) (a0p a8k) (a0h a8k) .none kV_Echo_init dc_Echo_init pm_Echo_init an_Echo_init cd_Echo_init ct_Echo_init), sl_Echo_init⟩) (c8l : PySem.W.codeIn K cd_Echo_init "Echo.__init__" = true) (k_Echo_init : PySem.W.keepIn K (.ref a6t) = true)
  {a3y : Addr} {od_Echo_grain an_Echo_grain : Option Addr} {sl_Echo_grain : Array (Option Value)} {oc_Echo_grain kV_Echo_grain dc_Echo_grain pm_Echo_grain cd_Echo_grain ct_Echo_grain : Value}
  (a_Echo_grain : PySem.W.findIn K (.ref a1r) "grain" = some (some (.ref a3y))) (l_Echo_grain : K.lookup a3y = some ⟨oc_Echo_grain, od_Echo_grain, .func (PySem.W.fnOf "grain" "Echo.grain" (a0q a9i) (a0p a9i) (a0h a9i) .none kV_Echo_grain dc_Echo_grain pm_Echo_grain an_Echo_grain cd_Echo_grain ct_Echo_grain), sl_Echo_grain⟩) (c5s : PySem.W.codeIn K cd_Echo_grain "Echo.grain" = true) (k_Echo_grain : PySem.W.keepIn K (.ref a3y) = true)
  {a2z : Addr} {od_Echo_through an_Echo_through : Option Addr} {sl_Echo_through : Array (Option Value)} {oc_Echo_through kV_Echo_through dc_Echo_through pm_Echo_through cd_Echo_through ct_Echo_through : Value}
  (a_Echo_through : PySem.W.findIn K (.ref a1r) "through" = some (some (.ref a2z))) (l_Echo_through : K.lookup a2z = some ⟨oc_Echo_through, od_Echo_through, .func (PySem.W.fnOf "through" "Echo.through" (a0q a5w) (a0p a5w) (a0h a5w) .none kV_Echo_through dc_Echo_through pm_Echo_through an_Echo_through cd_Echo_through ct_Echo_through), sl_Echo_through⟩) (b8t : PySem.W.codeIn K cd_Echo_through "Echo.through" = true) (k_Echo_through : PySem.W.keepIn K (.ref a2z) = true)
  {a3z : Addr} {od_Echo_reach an_Echo_reach : Option Addr} {sl_Echo_reach : Array (Option Value)} {oc_Echo_reach kV_Echo_reach dc_Echo_reach pm_Echo_reach cd_Echo_reach ct_Echo_reach : Value}
  (a_Echo_reach : PySem.W.findIn K (.ref a1r) "reach" = some (some (.ref a3z))) (l_Echo_reach : K.lookup a3z = some ⟨oc_Echo_reach, od_Echo_reach, .func (PySem.W.fnOf "reach" "Echo.reach" (a0q a9j) (a0p a9j) (a0h a9j) .none kV_Echo_reach dc_Echo_reach pm_Echo_reach an_Echo_reach cd_Echo_reach ct_Echo_reach), sl_Echo_reach⟩) (c5t : PySem.W.codeIn K cd_Echo_reach "Echo.reach" = true) (k_Echo_reach : PySem.W.keepIn K (.ref a3z) = true)
  {a4g : Addr} {od_Echo_weight an_Echo_weight : Option Addr} {sl_Echo_weight : Array (Option Value)} {oc_Echo_weight kV_Echo_weight dc_Echo_weight pm_Echo_weight cd_Echo_weight ct_Echo_weight : Value}
  (a_Echo_weight : PySem.W.findIn K (.ref a1r) "weight" = some (some (.ref a4g))) (l_Echo_weight : K.lookup a4g = some ⟨oc_Echo_weight, od_Echo_weight, .func (PySem.W.fnOf "weight" "Echo.weight" (a0q a5i) (a0p a5i) (a0h a5i) .none kV_Echo_weight dc_Echo_weight pm_Echo_weight an_Echo_weight cd_Echo_weight ct_Echo_weight), sl_Echo_weight⟩) (c2q : PySem.W.codeIn K cd_Echo_weight "Echo.weight" = true) (k_Echo_weight : PySem.W.keepIn K (.ref a4g) = true)
  {a6u : Addr} {od_Back_init an_Back_init : Option Addr} {sl_Back_init : Array (Option Value)} {oc_Back_init kV_Back_init dc_Back_init pm_Back_init cd_Back_init ct_Back_init : Value}
  (a_Back_init : PySem.W.findIn K (.ref a1v) "__init__" = some (some (.ref a6u))) (l_Back_init : K.lookup a6u = some ⟨oc_Back_init, od_Back_init, .func (PySem.W.fnOf "__init__" "Back.__init__" (a0q b1g) (a0p b1g) (a0h b1g) .none kV_Back_init dc_Back_init pm_Back_init an_Back_init cd_Back_init ct_Back_init), sl_Back_init⟩) (c8m : PySem.W.codeIn K cd_Back_init "Back.__init__" = true) (k_Back_init : PySem.W.keepIn K (.ref a6u) = true)
  {a4h : Addr} {od_Back_grain an_Back_grain : Option Addr} {sl_Back_grain : Array (Option Value)} {oc_Back_grain kV_Back_grain dc_Back_grain pm_Back_grain cd_Back_grain ct_Back_grain : Value}
  (a_Back_grain : PySem.W.findIn K (.ref a1v) "grain" = some (some (.ref a4h))) (l_Back_grain : K.lookup a4h = some ⟨oc_Back_grain, od_Back_grain, .func (PySem.W.fnOf "grain" "Back.grain" (a0q a9k) (a0p a9k) (a0h a9k) .none kV_Back_grain dc_Back_grain pm_Back_grain an_Back_grain cd_Back_grain ct_Back_grain), sl_Back_grain⟩) (c5u : PySem.W.codeIn K cd_Back_grain "Back.grain" = true) (k_Back_grain : PySem.W.keepIn K (.ref a4h) = true)
  {a3g : Addr} {od_Back_through an_Back_through : Option Addr} {sl_Back_through : Array (Option Value)} {oc_Back_through kV_Back_through dc_Back_through pm_Back_through cd_Back_through ct_Back_through : Value}
  (a_Back_through : PySem.W.findIn K (.ref a1v) "through" = some (some (.ref a3g))) (l_Back_through : K.lookup a3g = some ⟨oc_Back_through, od_Back_through, .func (PySem.W.fnOf "through" "Back.through" (a0q a5y) (a0p a5y) (a0h a5y) .none kV_Back_through dc_Back_through pm_Back_through an_Back_through cd_Back_through ct_Back_through), sl_Back_through⟩) (b8u : PySem.W.codeIn K cd_Back_through "Back.through" = true) (k_Back_through : PySem.W.keepIn K (.ref a3g) = true)
  {a4z : Addr} {od_Back_reach an_Back_reach : Option Addr} {sl_Back_reach : Array (Option Value)} {oc_Back_reach kV_Back_reach dc_Back_reach pm_Back_reach cd_Back_reach ct_Back_reach : Value}
  (a_Back_reach : PySem.W.findIn K (.ref a1v) "reach" = some (some (.ref a4z))) (l_Back_reach : K.lookup a4z = some ⟨oc_Back_reach, od_Back_reach, .func (PySem.W.fnOf "reach" "Back.reach" (a0q a9l) (a0p a9l) (a0h a9l) .none kV_Back_reach dc_Back_reach pm_Back_reach an_Back_reach cd_Back_reach ct_Back_reach), sl_Back_reach⟩) (c5v : PySem.W.codeIn K cd_Back_reach "Back.reach" = true) (k_Back_reach : PySem.W.keepIn K (.ref a4z) = true)
  {a4i : Addr} {od_Back_weight an_Back_weight : Option Addr} {sl_Back_weight : Array (Option Value)} {oc_Back_weight kV_Back_weight dc_Back_weight pm_Back_weight cd_Back_weight ct_Back_weight : Value}
  (a_Back_weight : PySem.W.findIn K (.ref a1v) "weight" = some (some (.ref a4i))) (l_Back_weight : K.lookup a4i = some ⟨oc_Back_weight, od_Back_weight, .func (PySem.W.fnOf "weight" "Back.weight" (a0q a7i) (a0p a7i) (a0h a7i) .none kV_Back_weight dc_Back_weight pm_Back_weight an_Back_weight cd_Back_weight ct_Back_weight), sl_Back_weight⟩) (c2r : PySem.W.codeIn K cd_Back_weight "Back.weight" = true) (k_Back_weight : PySem.W.keepIn K (.ref a4i) = true)
  {a8n : Addr} {od_read_gain an_read_gain : Option Addr} {sl_read_gain : Array (Option Value)} {oc_read_gain kV_read_gain dc_read_gain pm_read_gain cd_read_gain ct_read_gain : Value}
  (a_read_gain : PySem.W.nsIn K mainGlobals "read_gain" = some (some (.ref a8n))) (l_read_gain : K.lookup a8n = some ⟨oc_read_gain, od_read_gain, .func (PySem.W.fnOf "read_gain" "read_gain" (a0q b1h) (a0p b1h) (a0h b1h) .none kV_read_gain dc_read_gain pm_read_gain an_read_gain cd_read_gain ct_read_gain), sl_read_gain⟩) (c8n : PySem.W.codeIn K cd_read_gain "read_gain" = true) (k_read_gain : PySem.W.keepIn K (.ref a8n) = true)
  {a5k : Addr} {od_read_number an_read_number : Option Addr} {sl_read_number : Array (Option Value)} {oc_read_number kV_read_number dc_read_number pm_read_number cd_read_number ct_read_number : Value}
  (a_read_number : PySem.W.nsIn K mainGlobals "read_number" = some (some (.ref a5k))) (l_read_number : K.lookup a5k = some ⟨oc_read_number, od_read_number, .func (PySem.W.fnOf "read_number" "read_number" (a0q a7j) (a0p a7j) (a0h a7j) .none kV_read_number dc_read_number pm_read_number an_read_number cd_read_number ct_read_number), sl_read_number⟩) (c2s : PySem.W.codeIn K cd_read_number "read_number" = true) (k_read_number : PySem.W.keepIn K (.ref a5k) = true)
  {a8o : Addr} {od_read_many an_read_many : Option Addr} {sl_read_many : Array (Option Value)} {oc_read_many kV_read_many dc_read_many pm_read_many cd_read_many ct_read_many : Value}
  (a_read_many : PySem.W.nsIn K mainGlobals "read_many" = some (some (.ref a8o))) (l_read_many : K.lookup a8o = some ⟨oc_read_many, od_read_many, .func (PySem.W.fnOf "read_many" "read_many" (a0q b1i) (a0p b1i) (a0h b1i) .none kV_read_many dc_read_many pm_read_many an_read_many cd_read_many ct_read_many), sl_read_many⟩) (c8o : PySem.W.codeIn K cd_read_many "read_many" = true) (k_read_many : PySem.W.keepIn K (.ref a8o) = true)
  {a5l : Addr} {od_check_count an_check_count : Option Addr} {sl_check_count : Array (Option Value)} {oc_check_count kV_check_count dc_check_count pm_check_count cd_check_count ct_check_count : Value}
  (a_check_count : PySem.W.nsIn K mainGlobals "check_count" = some (some (.ref a5l))) (l_check_count : K.lookup a5l = some ⟨oc_check_count, od_check_count, .func (PySem.W.fnOf "check_count" "check_count" (a0q a7k) (a0p a7k) (a0h a7k) .none kV_check_count dc_check_count pm_check_count an_check_count cd_check_count ct_check_count), sl_check_count⟩) (c2t : PySem.W.codeIn K cd_check_count "check_count" = true) (k_check_count : PySem.W.keepIn K (.ref a5l) = true)
  {b0k : Addr} {od_gain_of an_gain_of : Option Addr} {sl_gain_of : Array (Option Value)} {oc_gain_of kV_gain_of dc_gain_of pm_gain_of cd_gain_of ct_gain_of : Value}
  (a_gain_of : PySem.W.nsIn K mainGlobals "gain_of" = some (some (.ref b0k))) (l_gain_of : K.lookup b0k = some ⟨oc_gain_of, od_gain_of, .func (PySem.W.fnOf "gain_of" "gain_of" (a0q b9l) (a0p b9l) (a0h b9l) .none kV_gain_of dc_gain_of pm_gain_of an_gain_of cd_gain_of ct_gain_of), sl_gain_of⟩) (d7h : PySem.W.codeIn K cd_gain_of "gain_of" = true) (k_gain_of : PySem.W.keepIn K (.ref b0k) = true)
  {a7p : Addr} {od_delay_of an_delay_of : Option Addr} {sl_delay_of : Array (Option Value)} {oc_delay_of kV_delay_of dc_delay_of pm_delay_of cd_delay_of ct_delay_of : Value}
  (a_delay_of : PySem.W.nsIn K mainGlobals "delay_of" = some (some (.ref a7p))) (l_delay_of : K.lookup a7p = some ⟨oc_delay_of, od_delay_of, .func (PySem.W.fnOf "delay_of" "delay_of" (a0q b4m) (a0p b4m) (a0h b4m) .none kV_delay_of dc_delay_of pm_delay_of an_delay_of cd_delay_of ct_delay_of), sl_delay_of⟩) (d1q : PySem.W.codeIn K cd_delay_of "delay_of" = true) (k_delay_of : PySem.W.keepIn K (.ref a7p) = true)
  {b0l : Addr} {od_echo_of an_echo_of : Option Addr} {sl_echo_of : Array (Option Value)} {oc_echo_of kV_echo_of dc_echo_of pm_echo_of cd_echo_of ct_echo_of : Value}
  (a_echo_of : PySem.W.nsIn K mainGlobals "echo_of" = some (some (.ref b0l))) (l_echo_of : K.lookup b0l = some ⟨oc_echo_of, od_echo_of, .func (PySem.W.fnOf "echo_of" "echo_of" (a0q b9m) (a0p b9m) (a0h b9m) .none kV_echo_of dc_echo_of pm_echo_of an_echo_of cd_echo_of ct_echo_of), sl_echo_of⟩) (d7i : PySem.W.codeIn K cd_echo_of "echo_of" = true) (k_echo_of : PySem.W.keepIn K (.ref b0l) = true)
  {b0m : Addr} {od_back_of an_back_of : Option Addr} {sl_back_of : Array (Option Value)} {oc_back_of kV_back_of dc_back_of pm_back_of cd_back_of ct_back_of : Value}
  (a_back_of : PySem.W.nsIn K mainGlobals "back_of" = some (some (.ref b0m))) (l_back_of : K.lookup b0m = some ⟨oc_back_of, od_back_of, .func (PySem.W.fnOf "back_of" "back_of" (a0q b9n) (a0p b9n) (a0h b9n) .none kV_back_of dc_back_of pm_back_of an_back_of cd_back_of ct_back_of), sl_back_of⟩) (d7j : PySem.W.codeIn K cd_back_of "back_of" = true) (k_back_of : PySem.W.keepIn K (.ref b0m) = true)
  {b5p : Addr} {od_part_of an_part_of : Option Addr} {sl_part_of : Array (Option Value)} {oc_part_of kV_part_of dc_part_of pm_part_of cd_part_of ct_part_of : Value}
  (a_part_of : PySem.W.nsIn K mainGlobals "part_of" = some (some (.ref b5p))) (l_part_of : K.lookup b5p = some ⟨oc_part_of, od_part_of, .func (PySem.W.fnOf "part_of" "part_of" (a0q b9o) (a0p b9o) (a0h b9o) .none kV_part_of dc_part_of pm_part_of an_part_of cd_part_of ct_part_of), sl_part_of⟩) (d7k : PySem.W.codeIn K cd_part_of "part_of" = true) (k_part_of : PySem.W.keepIn K (.ref b5p) = true)
  {b1q : Addr} {od_parts_of an_parts_of : Option Addr} {sl_parts_of : Array (Option Value)} {oc_parts_of kV_parts_of dc_parts_of pm_parts_of cd_parts_of ct_parts_of : Value}
  (a_parts_of : PySem.W.nsIn K mainGlobals "parts_of" = some (some (.ref b1q))) (l_parts_of : K.lookup b1q = some ⟨oc_parts_of, od_parts_of, .func (PySem.W.fnOf "parts_of" "parts_of" (a0q b1j) (a0p b1j) (a0h b1j) .none kV_parts_of dc_parts_of pm_parts_of an_parts_of cd_parts_of ct_parts_of), sl_parts_of⟩) (d1r : PySem.W.codeIn K cd_parts_of "parts_of" = true) (k_parts_of : PySem.W.keepIn K (.ref b1q) = true)
  {a5g : Addr} {od_Chain_init an_Chain_init : Option Addr} {sl_Chain_init : Array (Option Value)} {oc_Chain_init kV_Chain_init dc_Chain_init pm_Chain_init cd_Chain_init ct_Chain_init : Value}
  (a_Chain_init : PySem.W.findIn K (.ref a2w) "__init__" = some (some (.ref a5g))) (l_Chain_init : K.lookup a5g = some ⟨oc_Chain_init, od_Chain_init, .func (PySem.W.fnOf "__init__" "Chain.__init__" (a0q a6p) (a0p a6p) (a0h a6p) .none kV_Chain_init dc_Chain_init pm_Chain_init an_Chain_init cd_Chain_init ct_Chain_init), sl_Chain_init⟩) (c5w : PySem.W.codeIn K cd_Chain_init "Chain.__init__" = true) (k_Chain_init : PySem.W.keepIn K (.ref a5g) = true)
  {a3j : Addr} {od_Chain_through an_Chain_through : Option Addr} {sl_Chain_through : Array (Option Value)} {oc_Chain_through kV_Chain_through dc_Chain_through pm_Chain_through cd_Chain_through ct_Chain_through : Value}
  (a_Chain_through : PySem.W.findIn K (.ref a2w) "through" = some (some (.ref a3j))) (l_Chain_through : K.lookup a3j = some ⟨oc_Chain_through, od_Chain_through, .func (PySem.W.fnOf "through" "Chain.through" (a0q a4s) (a0p a4s) (a0h a4s) .none kV_Chain_through dc_Chain_through pm_Chain_through an_Chain_through cd_Chain_through ct_Chain_through), sl_Chain_through⟩) (b6l : PySem.W.codeIn K cd_Chain_through "Chain.through" = true) (k_Chain_through : PySem.W.keepIn K (.ref a3j) = true)
  {a4j : Addr} {od_Chain_grain an_Chain_grain : Option Addr} {sl_Chain_grain : Array (Option Value)} {oc_Chain_grain kV_Chain_grain dc_Chain_grain pm_Chain_grain cd_Chain_grain ct_Chain_grain : Value}
  (a_Chain_grain : PySem.W.findIn K (.ref a2w) "grain" = some (some (.ref a4j))) (l_Chain_grain : K.lookup a4j = some ⟨oc_Chain_grain, od_Chain_grain, .func (PySem.W.fnOf "grain" "Chain.grain" (a0q a7l) (a0p a7l) (a0h a7l) .none kV_Chain_grain dc_Chain_grain pm_Chain_grain an_Chain_grain cd_Chain_grain ct_Chain_grain), sl_Chain_grain⟩) (c2u : PySem.W.codeIn K cd_Chain_grain "Chain.grain" = true) (k_Chain_grain : PySem.W.keepIn K (.ref a4j) = true)
  {a3o : Addr} {od_Chain_weight an_Chain_weight : Option Addr} {sl_Chain_weight : Array (Option Value)} {oc_Chain_weight kV_Chain_weight dc_Chain_weight pm_Chain_weight cd_Chain_weight ct_Chain_weight : Value}
  (a_Chain_weight : PySem.W.findIn K (.ref a2w) "weight" = some (some (.ref a3o))) (l_Chain_weight : K.lookup a3o = some ⟨oc_Chain_weight, od_Chain_weight, .func (PySem.W.fnOf "weight" "Chain.weight" (a0q a5z) (a0p a5z) (a0h a5z) .none kV_Chain_weight dc_Chain_weight pm_Chain_weight an_Chain_weight cd_Chain_weight ct_Chain_weight), sl_Chain_weight⟩) (b8v : PySem.W.codeIn K cd_Chain_weight "Chain.weight" = true) (k_Chain_weight : PySem.W.keepIn K (.ref a3o) = true)
  {a4k : Addr} {od_Chain_reach an_Chain_reach : Option Addr} {sl_Chain_reach : Array (Option Value)} {oc_Chain_reach kV_Chain_reach dc_Chain_reach pm_Chain_reach cd_Chain_reach ct_Chain_reach : Value}
  (a_Chain_reach : PySem.W.findIn K (.ref a2w) "reach" = some (some (.ref a4k))) (l_Chain_reach : K.lookup a4k = some ⟨oc_Chain_reach, od_Chain_reach, .func (PySem.W.fnOf "reach" "Chain.reach" (a0q a5j) (a0p a5j) (a0h a5j) .none kV_Chain_reach dc_Chain_reach pm_Chain_reach an_Chain_reach cd_Chain_reach ct_Chain_reach), sl_Chain_reach⟩) (c2v : PySem.W.codeIn K cd_Chain_reach "Chain.reach" = true) (k_Chain_reach : PySem.W.keepIn K (.ref a4k) = true)
  {a5m : Addr} {od_law_cell_at an_law_cell_at : Option Addr} {sl_law_cell_at : Array (Option Value)} {oc_law_cell_at kV_law_cell_at dc_law_cell_at pm_law_cell_at cd_law_cell_at ct_law_cell_at : Value}
  (a_law_cell_at : PySem.W.nsIn K mainGlobals "_law_cell_at" = some (some (.ref a5m))) (l_law_cell_at : K.lookup a5m = some ⟨oc_law_cell_at, od_law_cell_at, .func (PySem.W.fnOf "_law_cell_at" "_law_cell_at" (a0q a7m) (a0p a7m) (a0h a7m) .none kV_law_cell_at dc_law_cell_at pm_law_cell_at an_law_cell_at cd_law_cell_at ct_law_cell_at), sl_law_cell_at⟩) (c2w : PySem.W.codeIn K cd_law_cell_at "_law_cell_at" = true) (k_law_cell_at : PySem.W.keepIn K (.ref a5m) = true)
  {a8p : Addr} {od_law_whole an_law_whole : Option Addr} {sl_law_whole : Array (Option Value)} {oc_law_whole kV_law_whole dc_law_whole pm_law_whole cd_law_whole ct_law_whole : Value}
  (a_law_whole : PySem.W.nsIn K mainGlobals "_law_whole" = some (some (.ref a8p))) (l_law_whole : K.lookup a8p = some ⟨oc_law_whole, od_law_whole, .func (PySem.W.fnOf "_law_whole" "_law_whole" (a0q b1k) (a0p b1k) (a0h b1k) .none kV_law_whole dc_law_whole pm_law_whole an_law_whole cd_law_whole ct_law_whole), sl_law_whole⟩) (c8p : PySem.W.codeIn K cd_law_whole "_law_whole" = true) (k_law_whole : PySem.W.keepIn K (.ref a8p) = true)
  {a5n : Addr} {od_law_divisor an_law_divisor : Option Addr} {sl_law_divisor : Array (Option Value)} {oc_law_divisor kV_law_divisor dc_law_divisor pm_law_divisor cd_law_divisor ct_law_divisor : Value}
  (a_law_divisor : PySem.W.nsIn K mainGlobals "_law_divisor" = some (some (.ref a5n))) (l_law_divisor : K.lookup a5n = some ⟨oc_law_divisor, od_law_divisor, .func (PySem.W.fnOf "_law_divisor" "_law_divisor" (a0q a7n) (a0p a7n) (a0h a7n) .none kV_law_divisor dc_law_divisor pm_law_divisor an_law_divisor cd_law_divisor ct_law_divisor), sl_law_divisor⟩) (c2y : PySem.W.codeIn K cd_law_divisor "_law_divisor" = true) (k_law_divisor : PySem.W.keepIn K (.ref a5n) = true)
  {b1r : Addr} {od_law_gain an_law_gain : Option Addr} {sl_law_gain : Array (Option Value)} {oc_law_gain kV_law_gain dc_law_gain pm_law_gain cd_law_gain ct_law_gain : Value}
  (a_law_gain : PySem.W.nsIn K mainGlobals "_law_gain" = some (some (.ref b1r))) (l_law_gain : K.lookup b1r = some ⟨oc_law_gain, od_law_gain, .func (PySem.W.fnOf "_law_gain" "_law_gain" (a0q b4n) (a0p b4n) (a0h b4n) .none kV_law_gain dc_law_gain pm_law_gain an_law_gain cd_law_gain ct_law_gain), sl_law_gain⟩) (d1s : PySem.W.codeIn K cd_law_gain "_law_gain" = true) (k_law_gain : PySem.W.keepIn K (.ref b1r) = true)
  {b1s : Addr} {od_law_word an_law_word : Option Addr} {sl_law_word : Array (Option Value)} {oc_law_word kV_law_word dc_law_word pm_law_word cd_law_word ct_law_word : Value}
  (a_law_word : PySem.W.nsIn K mainGlobals "_law_word" = some (some (.ref b1s))) (l_law_word : K.lookup b1s = some ⟨oc_law_word, od_law_word, .func (PySem.W.fnOf "_law_word" "_law_word" (a0q b4o) (a0p b4o) (a0h b4o) .none kV_law_word dc_law_word pm_law_word an_law_word cd_law_word ct_law_word), sl_law_word⟩) (d1t : PySem.W.codeIn K cd_law_word "_law_word" = true) (k_law_word : PySem.W.keepIn K (.ref b1s) = true)
  {b1t : Addr} {od_law_tone an_law_tone : Option Addr} {sl_law_tone : Array (Option Value)} {oc_law_tone kV_law_tone dc_law_tone pm_law_tone cd_law_tone ct_law_tone : Value}
  (a_law_tone : PySem.W.nsIn K mainGlobals "_law_tone" = some (some (.ref b1t))) (l_law_tone : K.lookup b1t = some ⟨oc_law_tone, od_law_tone, .func (PySem.W.fnOf "_law_tone" "_law_tone" (a0q b4p) (a0p b4p) (a0h b4p) .none kV_law_tone dc_law_tone pm_law_tone an_law_tone cd_law_tone ct_law_tone), sl_law_tone⟩) (d1u : PySem.W.codeIn K cd_law_tone "_law_tone" = true) (k_law_tone : PySem.W.keepIn K (.ref b1t) = true)
  {a8q : Addr} {od_law_about an_law_about : Option Addr} {sl_law_about : Array (Option Value)} {oc_law_about kV_law_about dc_law_about pm_law_about cd_law_about ct_law_about : Value}
  (a_law_about : PySem.W.nsIn K mainGlobals "_law_about" = some (some (.ref a8q))) (l_law_about : K.lookup a8q = some ⟨oc_law_about, od_law_about, .func (PySem.W.fnOf "_law_about" "_law_about" (a0q b1l) (a0p b1l) (a0h b1l) .none kV_law_about dc_law_about pm_law_about an_law_about cd_law_about ct_law_about), sl_law_about⟩) (c8q : PySem.W.codeIn K cd_law_about "_law_about" = true) (k_law_about : PySem.W.keepIn K (.ref a8q) = true)
  {a5o : Addr} {od_law_through an_law_through : Option Addr} {sl_law_through : Array (Option Value)} {oc_law_through kV_law_through dc_law_through pm_law_through cd_law_through ct_law_through : Value}
  (a_law_through : PySem.W.nsIn K mainGlobals "_law_through" = some (some (.ref a5o))) (l_law_through : K.lookup a5o = some ⟨oc_law_through, od_law_through, .func (PySem.W.fnOf "_law_through" "_law_through" (a0q a7o) (a0p a7o) (a0h a7o) .none kV_law_through dc_law_through pm_law_through an_law_through cd_law_through ct_law_through), sl_law_through⟩) (c2z : PySem.W.codeIn K cd_law_through "_law_through" = true) (k_law_through : PySem.W.keepIn K (.ref a5o) = true)
  {b1u : Addr} {od_law_same an_law_same : Option Addr} {sl_law_same : Array (Option Value)} {oc_law_same kV_law_same dc_law_same pm_law_same cd_law_same ct_law_same : Value}
  (a_law_same : PySem.W.nsIn K mainGlobals "_law_same" = some (some (.ref b1u))) (l_law_same : K.lookup b1u = some ⟨oc_law_same, od_law_same, .func (PySem.W.fnOf "_law_same" "_law_same" (a0q b4q) (a0p b4q) (a0h b4q) .none kV_law_same dc_law_same pm_law_same an_law_same cd_law_same ct_law_same), sl_law_same⟩) (d1v : PySem.W.codeIn K cd_law_same "_law_same" = true) (k_law_same : PySem.W.keepIn K (.ref b1u) = true)
  {b1v : Addr} {od_law_told an_law_told : Option Addr} {sl_law_told : Array (Option Value)} {oc_law_told kV_law_told dc_law_told pm_law_told cd_law_told ct_law_told : Value}
  (a_law_told : PySem.W.nsIn K mainGlobals "_law_told" = some (some (.ref b1v))) (l_law_told : K.lookup b1v = some ⟨oc_law_told, od_law_told, .func (PySem.W.fnOf "_law_told" "_law_told" (a0q b4r) (a0p b4r) (a0h b4r) .none kV_law_told dc_law_told pm_law_told an_law_told cd_law_told ct_law_told), sl_law_told⟩) (d1w : PySem.W.codeIn K cd_law_told "_law_told" = true) (k_law_told : PySem.W.keepIn K (.ref b1v) = true)
  {f7l : Addr} {od_law an_law : Option Addr} {sl_law : Array (Option Value)} {oc_law kV_law dc_law pm_law cd_law ct_law : Value}
  (a_law : PySem.W.nsIn K mainGlobals "law" = some (some (.ref f7l))) (l_law : K.lookup f7l = some ⟨oc_law, od_law, .func (PySem.W.fnOf "law" "law" (a0q f4q) (a0p f4q) (a0h f4q) .none kV_law dc_law pm_law an_law cd_law ct_law), sl_law⟩) (h5g : PySem.W.codeIn K cd_law "law" = true) (k_law : PySem.W.keepIn K (.ref f7l) = true)
  (d4v : PySem.W.nsIn K mainGlobals "abs" = some none)
  (d9o : PySem.W.nsIn K mainGlobals "bool" = some none)
  (d7t : PySem.W.nsIn K mainGlobals "int" = some none)
  (a2k : PySem.W.nsIn K mainGlobals "isinstance" = some none)
  (b4h : PySem.W.nsIn K mainGlobals "len" = some none)
  (b6g : PySem.W.nsIn K mainGlobals "list" = some none)
  (g5o : PySem.W.nsIn K mainGlobals "max" = some none)
  (g5p : PySem.W.nsIn K mainGlobals "min" = some none)
  (b8p : PySem.W.nsIn K mainGlobals "range" = some none)
  (b9w : PySem.W.nsIn K mainGlobals "reversed" = some none)
  (d2r : PySem.W.nsIn K mainGlobals "str" = some none)
  (g1v : PySem.W.nsIn K mainGlobals "sum" = some none)
  (c7v : PySem.W.nsIn K mainGlobals "tuple" = some none)
  (g1w : PySem.W.nsIn K mainGlobals "zip" = some none)
  {t_FIGURES : Tok}
  {t_MOST_FIGURES_wholes : Tok}
  {t_MOST_FIGURES_ratios : Tok}
  {t_MOST_GAIN : Tok}
  {t_MOST_MANY : Tok}
  {t_MOST_TURNS : Tok}
  {t_MOST_PARTS : Tok}
  {a2j : Addr} {es_READERS : Array DictEntry} {n_READERS : Nat}
  (cl_Part_pg : PySem.W.plainGet K b3m Str.empty = true)
  (cl_Part_hd : PySem.W.hasDictIn K b3m = true)
  (cl_Part_po : PySem.W.plainOver K b3m = true)
  (cl_Part_sa : PySem.W.findIn K (.ref b3m) "__setattr__" = some (some (.builtin "object.__setattr__")))
  (me_Part_grain_fn : PySem.W.isFn K (.ref a3h) = true)
  (me_Part_fresh_fn : PySem.W.isFn K (.ref a1n) = true)
  (me_Part_reach_fn : PySem.W.isFn K (.ref a3i) = true)
  (me_Part_weight_fn : PySem.W.isFn K (.ref a2o) = true)
  (cl_Gain_pg : PySem.W.plainGet K a1z Str.empty = true)
  (cl_Gain_hd : PySem.W.hasDictIn K a1z = true)
  (cl_Gain_po : PySem.W.plainOver K a1z = true)
  (cl_Gain_sa : PySem.W.findIn K (.ref a1z) "__setattr__" = some (some (.builtin "object.__setattr__")))
  (a0w : PySem.W.findIn K (.ref a1z) "gain" = some none)
  (me_Gain___init___fn : PySem.W.isFn K (.ref a6s) = true)
  (mk_Gain_ma : PySem.W.makesIn K a1z = true)
  (mk_Gain_kp : PySem.W.keepIn K (.ref a1z) = true)
  (me_Gain_grain_fn : PySem.W.isFn K (.ref a3u) = true)
  (me_Gain_through_fn : PySem.W.isFn K (.ref a2y) = true)
  (me_Gain_weight_fn : PySem.W.isFn K (.ref a3v) = true)
  (me_Gain_fresh_at : PySem.W.findIn K (.ref a1z) "fresh" = some (some (.ref a1n)))
  (me_Gain_fresh_fn : PySem.W.isFn K (.ref a1n) = true)
  (me_Gain_reach_at : PySem.W.findIn K (.ref a1z) "reach" = some (some (.ref a3i)))
  (me_Gain_reach_fn : PySem.W.isFn K (.ref a3i) = true)
  (cl_Delay_pg : PySem.W.plainGet K a1q Str.empty = true)
  (cl_Delay_hd : PySem.W.hasDictIn K a1q = true)
  (cl_Delay_po : PySem.W.plainOver K a1q = true)
  (cl_Delay_sa : PySem.W.findIn K (.ref a1q) "__setattr__" = some (some (.builtin "object.__setattr__")))
  (a0v : PySem.W.findIn K (.ref a1q) "many" = some none)
  (me_Delay___init___fn : PySem.W.isFn K (.ref a4y) = true)
  (mk_Delay_ma : PySem.W.makesIn K a1q = true)
  (mk_Delay_kp : PySem.W.keepIn K (.ref a1q) = true)
  (me_Delay_through_fn : PySem.W.isFn K (.ref a2p) = true)
  (me_Delay_reach_fn : PySem.W.isFn K (.ref a3w) = true)
  (me_Delay_grain_at : PySem.W.findIn K (.ref a1q) "grain" = some (some (.ref a3h)))
  (me_Delay_grain_fn : PySem.W.isFn K (.ref a3h) = true)
  (me_Delay_fresh_at : PySem.W.findIn K (.ref a1q) "fresh" = some (some (.ref a1n)))
  (me_Delay_fresh_fn : PySem.W.isFn K (.ref a1n) = true)
  (me_Delay_weight_at : PySem.W.findIn K (.ref a1q) "weight" = some (some (.ref a2o)))
  (me_Delay_weight_fn : PySem.W.isFn K (.ref a2o) = true)
  (cl_Echo_pg : PySem.W.plainGet K a1r Str.empty = true)
  (cl_Echo_hd : PySem.W.hasDictIn K a1r = true)
  (cl_Echo_po : PySem.W.plainOver K a1r = true)
  (cl_Echo_sa : PySem.W.findIn K (.ref a1r) "__setattr__" = some (some (.builtin "object.__setattr__")))
  (a0s : PySem.W.findIn K (.ref a1r) "gain" = some none)
  (a0t : PySem.W.findIn K (.ref a1r) "many" = some none)
  (a0o : PySem.W.findIn K (.ref a1r) "turns" = some none)
  (a0n : PySem.W.findIn K (.ref a1r) "factors" = some none)
  (a0j : PySem.W.findIn K (.ref a1r) "factor_bottom" = some none)
  (me_Echo___init___fn : PySem.W.isFn K (.ref a6t) = true)
  (mk_Echo_ma : PySem.W.makesIn K a1r = true)
  (mk_Echo_kp : PySem.W.keepIn K (.ref a1r) = true)
  (me_Echo_grain_fn : PySem.W.isFn K (.ref a3y) = true)
  (me_Echo_through_fn : PySem.W.isFn K (.ref a2z) = true)
  (me_Echo_reach_fn : PySem.W.isFn K (.ref a3z) = true)
  (me_Echo_weight_fn : PySem.W.isFn K (.ref a4g) = true)
  (me_Echo_fresh_at : PySem.W.findIn K (.ref a1r) "fresh" = some (some (.ref a1n)))
  (me_Echo_fresh_fn : PySem.W.isFn K (.ref a1n) = true)
  (cl_Back_pg : PySem.W.plainGet K a1v Str.empty = true)
  (cl_Back_hd : PySem.W.hasDictIn K a1v = true)
  (cl_Back_po : PySem.W.plainOver K a1v = true)
  (cl_Back_sa : PySem.W.findIn K (.ref a1v) "__setattr__" = some (some (.builtin "object.__setattr__")))
  (a0y : PySem.W.findIn K (.ref a1v) "gain" = some none)
  (a0z : PySem.W.findIn K (.ref a1v) "many" = some none)
  (me_Back___init___fn : PySem.W.isFn K (.ref a6u) = true)
  (mk_Back_ma : PySem.W.makesIn K a1v = true)
  (mk_Back_kp : PySem.W.keepIn K (.ref a1v) = true)
  (me_Back_grain_fn : PySem.W.isFn K (.ref a4h) = true)
  (me_Back_through_fn : PySem.W.isFn K (.ref a3g) = true)
  (me_Back_reach_fn : PySem.W.isFn K (.ref a4z) = true)
  (me_Back_weight_fn : PySem.W.isFn K (.ref a4i) = true)
  (me_Back_fresh_at : PySem.W.findIn K (.ref a1v) "fresh" = some (some (.ref a1n)))
  (me_Back_fresh_fn : PySem.W.isFn K (.ref a1n) = true)
  (cl_Chain_pg : PySem.W.plainGet K a2w Str.empty = true)
  (cl_Chain_hd : PySem.W.hasDictIn K a2w = true)
  (cl_Chain_po : PySem.W.plainOver K a2w = true)
  (cl_Chain_sa : PySem.W.findIn K (.ref a2w) "__setattr__" = some (some (.builtin "object.__setattr__")))
  (a1i : PySem.W.findIn K (.ref a2w) "parts" = some none)
  (a1g : PySem.W.findIn K (.ref a2w) "states" = some none)
  (me_Chain___init___fn : PySem.W.isFn K (.ref a5g) = true)
  (mk_Chain_ma : PySem.W.makesIn K a2w = true)
  (mk_Chain_kp : PySem.W.keepIn K (.ref a2w) = true)
  (me_Chain_through_fn : PySem.W.isFn K (.ref a3j) = true)
  (me_Chain_grain_fn : PySem.W.isFn K (.ref a4j) = true)
  (me_Chain_weight_fn : PySem.W.isFn K (.ref a3o) = true)
  (me_Chain_reach_fn : PySem.W.isFn K (.ref a4k) = true)
  (b9y : PySem.W.nsIn K mainGlobals "FIGURES" = some (some (.str "0123456789" t_FIGURES)))
  (a2u : PySem.W.nsIn K mainGlobals "MOST_FIGURES_wholes" = some (some (.int 13 t_MOST_FIGURES_wholes)))
  (a2v : PySem.W.nsIn K mainGlobals "MOST_FIGURES_ratios" = some (some (.int 9 t_MOST_FIGURES_ratios)))
  (a9q : PySem.W.nsIn K mainGlobals "MOST_GAIN" = some (some (.int 1000 t_MOST_GAIN)))
  (a9r : PySem.W.nsIn K mainGlobals "MOST_MANY" = some (some (.int 1000 t_MOST_MANY)))
  (b0t : PySem.W.nsIn K mainGlobals "MOST_TURNS" = some (some (.int 16 t_MOST_TURNS)))
  (b0u : PySem.W.nsIn K mainGlobals "MOST_PARTS" = some (some (.int 8 t_MOST_PARTS)))
  (a7r : PySem.W.nsIn K mainGlobals "READERS" = some (some (.ref a2j)))
  (ld_READERS : K.lookup a2j = some ⟨.type "dict", none, .dict es_READERS n_READERS, #[]⟩)
  (kd_READERS : PySem.W.KeysLit w.params es_READERS.toList)
  (nd_READERS : (a2j == sysModules) = false)
  (a4u : PySem.W.nsIn K a2j "gain" = some (some (.ref b0k)))
  (a3t : PySem.W.nsIn K a2j "delay" = some (some (.ref a7p)))
  (a4v : PySem.W.nsIn K a2j "echo" = some (some (.ref b0l)))
  (a4w : PySem.W.nsIn K a2j "back" = some (some (.ref b0m)))
  : ∃ fd : FuncData, (∀ (s : Shared) (v : Value), BindsTo s fd ⟨[v], []⟩ [("_law_script", v)]) ∧ ∀ base : Heap, K.In base → base.Ns mainGlobals mg → a1p l.prog w K mg base CX0 13 fa fd ["_law_script"] (f6p 63 K) := by
 have e := hfa.symm.trans (PySem.W.mg_of X G a_law)
 cases e
 have b4t := a1m (st := b4j) l_is_whole d1n k_is_whole
 have c6j := b4t.binds (ps := ["value"]) fun _ _ _ _ _ _ us hl => match us, hl with | [_], _ => rfl
 have a9m := a1m (st := a8v) l_is_figures c5l k_is_figures
 have b6p := a9m.binds (ps := ["text"]) fun _ _ _ _ _ _ us hl => match us, hl with | [_], _ => rfl
 have b9p := a1m (st := b4k) l_whole_of d1o k_whole_of
 have d0t := b9p.binds (ps := ["text"]) fun _ _ _ _ _ _ us hl => match us, hl with | [_], _ => rfl
 have c4j := a1m (st := b9i) l_divisor d6w k_divisor
 have d4i := c4j.binds (ps := ["one", "other"]) fun _ _ _ _ _ _ us hl => match us, hl with | [_, _], _ => rfl
 have a9n := a1m (st := b4l) l_fraction d1p k_fraction
 have b4u := a9n.binds (ps := ["top", "bottom"]) fun _ _ _ _ _ _ us hl => match us, hl with | [_, _], _ => rfl
 have f4y := a1m (st := d9j) l_plus g7e k_plus
 have g5m := f4y.binds (ps := ["one", "other"]) fun _ _ _ _ _ _ us hl => match us, hl with | [_, _], _ => rfl
 have d4j := a1m (st := d0k) l_times f8p k_times
 have f7m := d4j.binds (ps := ["one", "other"]) fun _ _ _ _ _ _ us hl => match us, hl with | [_, _], _ => rfl
 have b9q := a1m (st := b9j) l_size_of d6y k_size_of
 have c9m := b9q.binds (ps := ["one"]) fun _ _ _ _ _ _ us hl => match us, hl with | [_], _ => rfl
 have a6v := a1m (st := a4p) l_fraction_text b6i k_fraction_text
 have b5r := a6v.binds (ps := ["one"]) fun _ _ _ _ _ _ us hl => match us, hl with | [_], _ => rfl
 have a6w := a1m (st := a4q) l_read_fraction b6j k_read_fraction
 have b5s := a6w.binds (ps := ["text"]) fun _ _ _ _ _ _ us hl => match us, hl with | [_], _ => rfl
 have a9o := a1m (st := a6o) l_added_rows c5m k_added_rows
 have b6q := a9o.binds (ps := ["one", "other"]) fun _ _ _ _ _ _ us hl => match us, hl with | [_, _], _ => rfl
 have a6y := a1m (st := a8j) l_times_row c8i k_times_row
 have b1w := a6y.binds (ps := ["row", "by"]) fun _ _ _ _ _ _ us hl => match us, hl with | [_, _], _ => rfl
 have b5t := a1m (st := b5k) l_delayed d6z k_delayed
 have c4k := b5t.binds (ps := ["known", "start", "many"]) fun _ _ _ _ _ _ us hl => match us, hl with | [_, _, _], _ => rfl
 have b5u := a1m (st := b9k) l_last_of d7g k_last_of
 have c4l := b5u.binds (ps := ["known", "many"]) fun _ _ _ _ _ _ us hl => match us, hl with | [_, _], _ => rfl
 have b6r := a1m (st := a8w) l_Part_grain c5n k_Part_grain
 have b6s := b6r.binds (ps := ["self"]) fun _ _ _ _ _ _ us hl => match us, hl with | [_], _ => rfl
 have b6t := a1m (st := a8y) l_Part_fresh c5o k_Part_fresh
 have a9p := b6t.binds (ps := ["self"]) fun _ _ _ _ _ _ us hl => match us, hl with | [_], _ => rfl
 have b6u := a1m (st := a8z) l_Part_reach c5p k_Part_reach
 have c4m := b6u.binds (ps := ["self"]) fun _ _ _ _ _ _ us hl => match us, hl with | [_], _ => rfl
 have b3s := a1m (st := a6z) l_Part_weight c2n k_Part_weight
 have c0v := b3s.binds (ps := ["self"]) fun _ _ _ _ _ _ us hl => match us, hl with | [_], _ => rfl
 have c0w := a1m (st := b0y) l_Gain_init c8j k_Gain_init
 have c7q := c0w.binds (ps := ["self", "gain"]) fun _ _ _ _ _ _ us hl => match us, hl with | [_, _], _ => rfl
 have b6v := a1m (st := a9g) l_Gain_grain c5q k_Gain_grain
 have b6w := b6v.binds (ps := ["self"]) fun _ _ _ _ _ _ us hl => match us, hl with | [_], _ => rfl
 have b2o := a1m (st := a5v) l_Gain_through b8s k_Gain_through
 have b8l := b2o.binds (ps := ["self", "state", "tops", "bottom"]) fun _ _ _ _ _ _ us hl => match us, hl with | [_, _, _, _], _ => rfl
 have b3t := a1m (st := a7g) l_Gain_weight c2o k_Gain_weight
 have c0y := b3t.binds (ps := ["self"]) fun _ _ _ _ _ _ us hl => match us, hl with | [_], _ => rfl
 have b6y := a1m (st := a9h) l_Delay_init c5r k_Delay_init
 have c4n := b6y.binds (ps := ["self", "many"]) fun _ _ _ _ _ _ us hl => match us, hl with | [_, _], _ => rfl
 have b0n := a1m (st := a4r) l_Delay_through b6k k_Delay_through
 have b5v := b0n.binds (ps := ["self", "state", "tops", "bottom"]) fun _ _ _ _ _ _ us hl => match us, hl with | [_, _, _, _], _ => rfl
 have b3u := a1m (st := a7h) l_Delay_reach c2p k_Delay_reach
 have c0z := b3u.binds (ps := ["self"]) fun _ _ _ _ _ _ us hl => match us, hl with | [_], _ => rfl
 have b1y := a1m (st := b0z) l_powers_of c8k k_powers_of
 have c1g := b1y.binds (ps := ["number", "most"]) fun _ _ _ _ _ _ us hl => match us, hl with | [_, _], _ => rfl
 have c1h := a1m (st := a8k) l_Echo_init c8l k_Echo_init
 have c7r := c1h.binds (ps := ["self", "gain", "many", "turns"]) fun _ _ _ _ _ _ us hl => match us, hl with | [_, _, _, _], _ => rfl
 have b6z := a1m (st := a9i) l_Echo_grain c5s k_Echo_grain
 have b7g := b6z.binds (ps := ["self"]) fun _ _ _ _ _ _ us hl => match us, hl with | [_], _ => rfl
 have b2p := a1m (st := a5w) l_Echo_through b8t k_Echo_through
 have b8m := b2p.binds (ps := ["self", "state", "tops", "bottom"]) fun _ _ _ _ _ _ us hl => match us, hl with | [_, _, _, _], _ => rfl
 have b2y := a1m (st := a9j) l_Echo_reach c5t k_Echo_reach
 have b7h := b2y.binds (ps := ["self"]) fun _ _ _ _ _ _ us hl => match us, hl with | [_], _ => rfl
 have b3v := a1m (st := a5i) l_Echo_weight c2q k_Echo_weight
 have c1i := b3v.binds (ps := ["self"]) fun _ _ _ _ _ _ us hl => match us, hl with | [_], _ => rfl
 have c1j := a1m (st := b1g) l_Back_init c8m k_Back_init
 have c7s := c1j.binds (ps := ["self", "gain", "many"]) fun _ _ _ _ _ _ us hl => match us, hl with | [_, _, _], _ => rfl
 have b7i := a1m (st := a9k) l_Back_grain c5u k_Back_grain
 have b7j := b7i.binds (ps := ["self"]) fun _ _ _ _ _ _ us hl => match us, hl with | [_], _ => rfl
 have b2q := a1m (st := a5y) l_Back_through b8u k_Back_through
 have b8n := b2q.binds (ps := ["self", "state", "tops", "bottom"]) fun _ _ _ _ _ _ us hl => match us, hl with | [_, _, _, _], _ => rfl
 have b7k := a1m (st := a9l) l_Back_reach c5v k_Back_reach
 have c4o := b7k.binds (ps := ["self"]) fun _ _ _ _ _ _ us hl => match us, hl with | [_], _ => rfl
 have b3w := a1m (st := a7i) l_Back_weight c2r k_Back_weight
 have c1k := b3w.binds (ps := ["self"]) fun _ _ _ _ _ _ us hl => match us, hl with | [_], _ => rfl
 have a8r := a1m (st := b1h) l_read_gain c8n k_read_gain
 have b5w := a8r.binds (ps := ["text"]) fun _ _ _ _ _ _ us hl => match us, hl with | [_], _ => rfl
 have a5p := a1m (st := a7j) l_read_number c2s k_read_number
 have b0o := a5p.binds (ps := ["text", "least", "most"]) fun _ _ _ _ _ _ us hl => match us, hl with | [_, _, _], _ => rfl
 have b1z := a1m (st := b1i) l_read_many c8o k_read_many
 have c1m := b1z.binds (ps := ["text"]) fun _ _ _ _ _ _ us hl => match us, hl with | [_], _ => rfl
 have a4l := a1m (st := a7k) l_check_count c2t k_check_count
 have a7q := a4l.binds (ps := ["values", "count"]) fun _ _ _ _ _ _ us hl => match us, hl with | [_, _], _ => rfl
 have c4p := a1m (st := b9l) l_gain_of d7h k_gain_of
 have d4q := c4p.binds (ps := ["values"]) fun _ _ _ _ _ _ us hl => match us, hl with | [_], _ => rfl
 have b9r := a1m (st := b4m) l_delay_of d1q k_delay_of
 have d0u := b9r.binds (ps := ["values"]) fun _ _ _ _ _ _ us hl => match us, hl with | [_], _ => rfl
 have c4q := a1m (st := b9m) l_echo_of d7i k_echo_of
 have d4r := c4q.binds (ps := ["values"]) fun _ _ _ _ _ _ us hl => match us, hl with | [_], _ => rfl
 have c4r := a1m (st := b9n) l_back_of d7j k_back_of
 have d4s := c4r.binds (ps := ["values"]) fun _ _ _ _ _ _ us hl => match us, hl with | [_], _ => rfl
 have c4s := a1m (st := b9o) l_part_of d7k k_part_of
 have d4t := c4s.binds (ps := ["word"]) fun _ _ _ _ _ _ us hl => match us, hl with | [_], _ => rfl
 have b9s := a1m (st := b1j) l_parts_of d1r k_parts_of
 have d0v := b9s.binds (ps := ["words"]) fun _ _ _ _ _ _ us hl => match us, hl with | [_], _ => rfl
 have b7l := a1m (st := a6p) l_Chain_init c5w k_Chain_init
 have b7m := b7l.binds (ps := ["self", "words"]) fun _ _ _ _ _ _ us hl => match us, hl with | [_, _], _ => rfl
 have b0p := a1m (st := a4s) l_Chain_through b6l k_Chain_through
 have b5y := b0p.binds (ps := ["self", "tops", "bottom"]) fun _ _ _ _ _ _ us hl => match us, hl with | [_, _, _], _ => rfl
 have b3z := a1m (st := a7l) l_Chain_grain c2u k_Chain_grain
 have c1n := b3z.binds (ps := ["self"]) fun _ _ _ _ _ _ us hl => match us, hl with | [_], _ => rfl
 have b2r := a1m (st := a5z) l_Chain_weight b8v k_Chain_weight
 have b8o := b2r.binds (ps := ["self"]) fun _ _ _ _ _ _ us hl => match us, hl with | [_], _ => rfl
 have b4g := a1m (st := a5j) l_Chain_reach c2v k_Chain_reach
 have c1o := b4g.binds (ps := ["self"]) fun _ _ _ _ _ _ us hl => match us, hl with | [_], _ => rfl
 have a5q := a1m (st := a7m) l_law_cell_at c2w k_law_cell_at
 have b0q := a5q.binds (ps := ["_law_script", "_law_k"]) fun _ _ _ _ _ _ us hl => match us, hl with | [_, _], _ => rfl
 have b2g := a1m (st := b1k) l_law_whole c8p k_law_whole
 have c1q := b2g.binds (ps := ["_law_found"]) fun _ _ _ _ _ _ us hl => match us, hl with | [_], _ => rfl
 have b0r := a1m (st := a7n) l_law_divisor c2y k_law_divisor
 have c1r := b0r.binds (ps := ["_law_one", "_law_other"]) fun _ _ _ _ _ _ us hl => match us, hl with | [_, _], _ => rfl
 have b2h := a1m (st := b4n) l_law_gain d1s k_law_gain
 have b9t := b2h.binds (ps := ["_law_mixed", "_law_great"]) fun _ _ _ _ _ _ us hl => match us, hl with | [_, _], _ => rfl
 have b9u := a1m (st := b4o) l_law_word d1t k_law_word
 have d0y := b9u.binds (ps := ["_law_cell", "_law_great"]) fun _ _ _ _ _ _ us hl => match us, hl with | [_, _], _ => rfl
 have b9v := a1m (st := b4p) l_law_tone d1u k_law_tone
 have d0z := b9v.binds (ps := ["_law_cell"]) fun _ _ _ _ _ _ us hl => match us, hl with | [_], _ => rfl
 have b5z := a1m (st := b1l) l_law_about c8q k_law_about
 have c7u := b5z.binds (ps := ["_law_words", "_law_pick"]) fun _ _ _ _ _ _ us hl => match us, hl with | [_, _], _ => rfl
 have a5r := a1m (st := a7o) l_law_through c2z k_law_through
 have b0s := a5r.binds (ps := ["_law_words", "_law_row", "_law_bottom", "_law_at"]) fun _ _ _ _ _ _ us hl => match us, hl with | [_, _, _, _], _ => rfl
 have b4v := a1m (st := b4q) l_law_same d1v k_law_same
 have c6l := b4v.binds (ps := ["_law_one", "_law_other"]) fun _ _ _ _ _ _ us hl => match us, hl with | [_, _], _ => rfl
 have b4w := a1m (st := b4r) l_law_told d1w k_law_told
 have c6m := b4w.binds (ps := ["_law_words"]) fun _ _ _ _ _ _ us hl => match us, hl with | [_], _ => rfl
 have g8z := a1m (st := f4q) l_law h5g k_law
 have h9q := g8z.binds (ps := ["_law_script"]) fun _ _ _ _ _ _ us hl => match us, hl with | [_], _ => rfl
 have T : Tx K mg ⟨_, _, _, _, _, _, _, _, _, _, _, _, _, _, _, _, _, _, _, _, _, _, _, _, _, _, _, _, _, _, _, _, _, _, _, _, _, _, _, _, _, _, _, _, _, _, _, _, _, _, _, _, _, _, _, _, _, _, _, _, _, _, _, _, _, _, _, _, _, _, _, _, _, _, _, _, _, _, _, _, _, _, _, _, _, _, _, _, _, _, _, _, _, _, _, _, _, _, _, _, _, _, _, _, _, _, _, _, _, _, _, _, _, _, _, _, _, _, _, _, _, _, _, _, _, _, _, _, _, _, _, _, _, _, _, _, _, _, w⟩ := ⟨b4t, c6j, PySem.W.mg_of X G a_is_whole, a9m, b6p, PySem.W.mg_of X G a_is_figures, b9p, d0t, PySem.W.mg_of X G a_whole_of, c4j, d4i, PySem.W.mg_of X G a_divisor, a9n, b4u, PySem.W.mg_of X G a_fraction, f4y, g5m, PySem.W.mg_of X G a_plus, d4j, f7m, PySem.W.mg_of X G a_times, b9q, c9m, PySem.W.mg_of X G a_size_of, a6v, b5r, PySem.W.mg_of X G a_fraction_text, a6w, b5s, PySem.W.mg_of X G a_read_fraction, a9o, b6q, PySem.W.mg_of X G a_added_rows, a6y, b1w, PySem.W.mg_of X G a_times_row, b5t, c4k, PySem.W.mg_of X G a_delayed, b5u, c4l, PySem.W.mg_of X G a_last_of, b6r, b6s, b6t, a9p, b6u, c4m, b3s, c0v, c0w, c7q, b6v, b6w, b2o, b8l, b3t, c0y, b6y, c4n, b0n, b5v, b3u, c0z, b1y, c1g, PySem.W.mg_of X G a_powers_of, c1h, c7r, b6z, b7g, b2p, b8m, b2y, b7h, b3v, c1i, c1j, c7s, b7i, b7j, b2q, b8n, b7k, c4o, b3w, c1k, a8r, b5w, PySem.W.mg_of X G a_read_gain, a5p, b0o, PySem.W.mg_of X G a_read_number, b1z, c1m, PySem.W.mg_of X G a_read_many, a4l, a7q, PySem.W.mg_of X G a_check_count, c4p, d4q, PySem.W.mg_of X G a_gain_of, b9r, d0u, PySem.W.mg_of X G a_delay_of, c4q, d4r, PySem.W.mg_of X G a_echo_of, c4r, d4s, PySem.W.mg_of X G a_back_of, c4s, d4t, PySem.W.mg_of X G a_part_of, b9s, d0v, PySem.W.mg_of X G a_parts_of, b7l, b7m, b0p, b5y, b3z, c1n, b2r, b8o, b4g, c1o, a5q, b0q, PySem.W.mg_of X G a_law_cell_at, b2g, c1q, PySem.W.mg_of X G a_law_whole, b0r, c1r, PySem.W.mg_of X G a_law_divisor, b2h, b9t, PySem.W.mg_of X G a_law_gain, b9u, d0y, PySem.W.mg_of X G a_law_word, b9v, d0z, PySem.W.mg_of X G a_law_tone, b5z, c7u, PySem.W.mg_of X G a_law_about, a5r, b0s, PySem.W.mg_of X G a_law_through, b4v, c6l, PySem.W.mg_of X G a_law_same, b4w, c6m, PySem.W.mg_of X G a_law_told, g8z, h9q, PySem.W.mg_of X G a_law, PySem.W.mg_none_of X G d4v, PySem.W.mg_none_of X G d9o, PySem.W.mg_none_of X G d7t, PySem.W.mg_none_of X G a2k, PySem.W.mg_none_of X G b4h, PySem.W.mg_none_of X G b6g, PySem.W.mg_none_of X G g5o, PySem.W.mg_none_of X G g5p, PySem.W.mg_none_of X G b8p, PySem.W.mg_none_of X G b9w, PySem.W.mg_none_of X G d2r, PySem.W.mg_none_of X G g1v, PySem.W.mg_none_of X G c7v, PySem.W.mg_none_of X G g1w, PySem.W.mg_of X G f1h, PySem.W.mg_of X G d4w, PySem.W.mg_of X G c9n, PySem.W.mg_of X G d4y, PySem.W.mg_of X G d4z, PySem.W.mg_of X G c6n, ⟨cl_Part_pg, cl_Part_hd, cl_Part_po, cl_Part_sa⟩, ⟨a_Part_grain, me_Part_grain_fn, k_Part_grain⟩, ⟨a_Part_fresh, me_Part_fresh_fn, k_Part_fresh⟩, ⟨a_Part_reach, me_Part_reach_fn, k_Part_reach⟩, ⟨a_Part_weight, me_Part_weight_fn, k_Part_weight⟩, ⟨cl_Gain_pg, cl_Gain_hd, cl_Gain_po, cl_Gain_sa⟩, a0w, ⟨mk_Gain_ma, a_Gain_init, me_Gain___init___fn, mk_Gain_kp⟩, ⟨a_Gain_grain, me_Gain_grain_fn, k_Gain_grain⟩, ⟨a_Gain_through, me_Gain_through_fn, k_Gain_through⟩, ⟨a_Gain_weight, me_Gain_weight_fn, k_Gain_weight⟩, ⟨me_Gain_fresh_at, me_Gain_fresh_fn, k_Part_fresh⟩, ⟨me_Gain_reach_at, me_Gain_reach_fn, k_Part_reach⟩, ⟨cl_Delay_pg, cl_Delay_hd, cl_Delay_po, cl_Delay_sa⟩, a0v, ⟨mk_Delay_ma, a_Delay_init, me_Delay___init___fn, mk_Delay_kp⟩, ⟨a_Delay_through, me_Delay_through_fn, k_Delay_through⟩, ⟨a_Delay_reach, me_Delay_reach_fn, k_Delay_reach⟩, ⟨me_Delay_grain_at, me_Delay_grain_fn, k_Part_grain⟩, ⟨me_Delay_fresh_at, me_Delay_fresh_fn, k_Part_fresh⟩, ⟨me_Delay_weight_at, me_Delay_weight_fn, k_Part_weight⟩, ⟨cl_Echo_pg, cl_Echo_hd, cl_Echo_po, cl_Echo_sa⟩, a0s, a0t, a0o, a0n, a0j, ⟨mk_Echo_ma, a_Echo_init, me_Echo___init___fn, mk_Echo_kp⟩, ⟨a_Echo_grain, me_Echo_grain_fn, k_Echo_grain⟩, ⟨a_Echo_through, me_Echo_through_fn, k_Echo_through⟩, ⟨a_Echo_reach, me_Echo_reach_fn, k_Echo_reach⟩, ⟨a_Echo_weight, me_Echo_weight_fn, k_Echo_weight⟩, ⟨me_Echo_fresh_at, me_Echo_fresh_fn, k_Part_fresh⟩, ⟨cl_Back_pg, cl_Back_hd, cl_Back_po, cl_Back_sa⟩, a0y, a0z, ⟨mk_Back_ma, a_Back_init, me_Back___init___fn, mk_Back_kp⟩, ⟨a_Back_grain, me_Back_grain_fn, k_Back_grain⟩, ⟨a_Back_through, me_Back_through_fn, k_Back_through⟩, ⟨a_Back_reach, me_Back_reach_fn, k_Back_reach⟩, ⟨a_Back_weight, me_Back_weight_fn, k_Back_weight⟩, ⟨me_Back_fresh_at, me_Back_fresh_fn, k_Part_fresh⟩, ⟨cl_Chain_pg, cl_Chain_hd, cl_Chain_po, cl_Chain_sa⟩, a1i, a1g, ⟨mk_Chain_ma, a_Chain_init, me_Chain___init___fn, mk_Chain_kp⟩, ⟨a_Chain_through, me_Chain_through_fn, k_Chain_through⟩, ⟨a_Chain_grain, me_Chain_grain_fn, k_Chain_grain⟩, ⟨a_Chain_weight, me_Chain_weight_fn, k_Chain_weight⟩, ⟨a_Chain_reach, me_Chain_reach_fn, k_Chain_reach⟩, PySem.W.mg_of X G b9y, ⟨_, rfl⟩, PySem.W.mg_of X G a2u, ⟨_, rfl⟩, PySem.W.mg_of X G a2v, ⟨_, rfl⟩, PySem.W.mg_of X G a9q, ⟨_, rfl⟩, PySem.W.mg_of X G a9r, ⟨_, rfl⟩, PySem.W.mg_of X G b0t, ⟨_, rfl⟩, PySem.W.mg_of X G b0u, ⟨_, rfl⟩, PySem.W.mg_of X G a7r, ⟨⟨_, _, ld_READERS, kd_READERS⟩, nd_READERS⟩, a4u, a3t, a4v, a4w⟩
 exact ⟨_, fun s v => .of_eq rfl, fun base _ _ => i0v T⟩
end My
namespace PySem.W.Fast
theorem tw3825937643405253621:True:=trivial
theorem tw13091518585967899557:True:=trivial
theorem tw9286046119218019758:True:=trivial
theorem tw1922747457631314926:True:=trivial
theorem tw13758723049333681834:True:=trivial
theorem tw14664766359990685774:True:=trivial
theorem tw14676932387429623981:True:=trivial
theorem tw3930367038559043705:True:=trivial
theorem tw2143368841829984029:True:=trivial
theorem tw7239680430142105683:True:=trivial
theorem tw5954764007465978793:True:=trivial
theorem tw15174128100977888646:True:=trivial
theorem tw4319436027085182630:True:=trivial
theorem tw11105985397661697615:True:=trivial
theorem tw18250341012986883178:True:=trivial
theorem tw9594439482935866959:True:=trivial
theorem tw13312712757308391197:True:=trivial
theorem tw7673541298436441326:True:=trivial
theorem tw16094460243291261652:True:=trivial
theorem tw2584977541813377751:True:=trivial
theorem tw14166319705840186134:True:=trivial
theorem tw11369223888088380788:True:=trivial
theorem tw3680183964809217776:True:=trivial
theorem tw1321402140709607620:True:=trivial
theorem tw9910124044150796773:True:=trivial
theorem tw4595830372701103661:True:=trivial
theorem tw6524239565918575869:True:=trivial
theorem tw11977370547089939540:True:=trivial
theorem tw11400647507603490671:True:=trivial
theorem tw14641839475128650056:True:=trivial
theorem tw10869416771782234936:True:=trivial
theorem tw12081248541329974121:True:=trivial
theorem tw2610917738636031454:True:=trivial
theorem tw4825572945147492255:True:=trivial
theorem tw14569703004356123914:True:=trivial
theorem tw379749260190179752:True:=trivial
theorem tw1574496807849909542:True:=trivial
theorem tw11239953206788896052:True:=trivial
theorem tw6270951849524133215:True:=trivial
theorem tw15852491290810769657:True:=trivial
theorem tw10042088370525680354:True:=trivial
theorem tw5122092645890670235:True:=trivial
theorem tw8317302643781313347:True:=trivial
theorem tw8674681918730311674:True:=trivial
theorem tw2111828484414678902:True:=trivial
theorem tw2171819549975477649:True:=trivial
theorem tw1456352390082561787:True:=trivial
theorem tw10174220585459502106:True:=trivial
theorem tw13492836769608064320:True:=trivial
theorem tw8124050569003404587:True:=trivial
theorem tw14986160149859580700:True:=trivial
theorem tw2637741127552349737:True:=trivial
theorem tw1897642352790196:True:=trivial
theorem tw10451011769067968722:True:=trivial
theorem tw2997317349078931313:True:=trivial
theorem tw8181469377960168207:True:=trivial
theorem tw7452188058637566622:True:=trivial
theorem tw9389418374379996130:True:=trivial
theorem tw5050377536216719969:True:=trivial
theorem tw16815871444717473268:True:=trivial
theorem tw14391313317662516887:True:=trivial
theorem tw13106681532754004781:True:=trivial
theorem tw7204780854710508124:True:=trivial
theorem tw2287127165326143565:True:=trivial
theorem tw6858734718076420941:True:=trivial
theorem tw15809156716285654659:True:=trivial
theorem tw8624314223009642597:True:=trivial
theorem tw2209644448259269850:True:=trivial
theorem tw8501012179284152728:True:=trivial
theorem tw13624942786884103712:True:=trivial
theorem tw10261566290452097441:True:=trivial
theorem tw2495801469294660392:True:=trivial
theorem tw10937216707265642545:True:=trivial
theorem tw1333355051315393759:True:=trivial
theorem tw5545167938258534575:True:=trivial
theorem tw10783553598772691736:True:=trivial
theorem tw1741494583562600025:True:=trivial
theorem tw7029288883625203260:True:=trivial
theorem tw12844215918254766275:True:=trivial
theorem tw3045992393091005499:True:=trivial
theorem tw12029807313299778147:True:=trivial
theorem tw3281471670737354801:True:=trivial
theorem tw121506337642660022:True:=trivial
theorem tw9535367144245321944:True:=trivial
theorem tw15873179699552167610:True:=trivial
theorem tw12484293172541309883:True:=trivial
theorem tw10452999929519487169:True:=trivial
theorem tw11154913704522584793:True:=trivial
theorem tw17055310988198513539:True:=trivial
theorem tw6638287641116892537:True:=trivial
theorem tw2613293817687280967:True:=trivial
theorem tw1392274185325359255:True:=trivial
theorem tw9021750430787210442:True:=trivial
theorem tw14051882637858771412:True:=trivial
theorem tw1910581811676050136:True:=trivial
theorem tw1584326834153274779:True:=trivial
theorem tw10598205020783009692:True:=trivial
theorem tw528372877937932740:True:=trivial
theorem tw5523541756418277731:True:=trivial
theorem tw17996521603328233267:True:=trivial
theorem tw5129930819439482265:True:=trivial
theorem tw2541056561623235015:True:=trivial
theorem tw7109997655468343878:True:=trivial
theorem tw12680149694412556387:True:=trivial
theorem tw15240848919738509446:True:=trivial
theorem tw4657688742559000218:True:=trivial
theorem tw10777075137932785631:True:=trivial
theorem tw14309889221050935269:True:=trivial
theorem tw630698469648945327:True:=trivial
theorem tw7520070675230783643:True:=trivial
theorem tw12160907476614863919:True:=trivial
theorem tw3424829708053052737:True:=trivial
theorem tw4211356056685805713:True:=trivial
theorem tw15439526652803840398:True:=trivial
theorem tw13081285603370614339:True:=trivial
theorem tw11697999816335284333:True:=trivial
theorem tw6895609927597449606:True:=trivial
theorem tw15886371876499236132:True:=trivial
theorem tw6453615088098399984:True:=trivial
theorem tw9426262217752938097:True:=trivial
theorem tw2019391500151354729:True:=trivial
theorem tw14797646020483684737:True:=trivial
theorem tw149784813274896825:True:=trivial
theorem tw17532160940210682219:True:=trivial
theorem tw8367940103913733812:True:=trivial
theorem tw8656190486207406880:True:=trivial
theorem tw1996085290969464282:True:=trivial
theorem tw17145032587984269810:True:=trivial
theorem tw12794988932100829066:True:=trivial
theorem tw14090844602149451994:True:=trivial
theorem tw16293375291167263269:True:=trivial
theorem tw15143789919014035621:True:=trivial
theorem tw12841969210533224711:True:=trivial
theorem tw14889879290611531257:True:=trivial
theorem tw6192363379094056109:True:=trivial
theorem tw13349066867585574058:True:=trivial
theorem tw4904510448146396090:True:=trivial
theorem tw3146666148562912052:True:=trivial
theorem tw9607436485532374762:True:=trivial
theorem tw12351599509872380765:True:=trivial
theorem tw14362030452868438770:True:=trivial
theorem tw2978137928616343497:True:=trivial
theorem tw6158713824218399558:True:=trivial
theorem tw16767161413546212686:True:=trivial
theorem tw4236476557804891568:True:=trivial
theorem tw15131825368686323564:True:=trivial
theorem tw3379601715619336423:True:=trivial
theorem tw4308263575727816461:True:=trivial
theorem tw1038573679050816431:True:=trivial
theorem tw17435181919560212195:True:=trivial
theorem tw2733025122734230549:True:=trivial
theorem tw13373101505515541563:True:=trivial
theorem tw10206427503972992914:True:=trivial
theorem tw4445940342529506199:True:=trivial
theorem tw10658683305114269130:True:=trivial
theorem tw3456748275887903553:True:=trivial
theorem tw8605940010289838316:True:=trivial
theorem tw8488953578296610923:True:=trivial
theorem tw15144455674443173150:True:=trivial
theorem tw6045247379555715842:True:=trivial
theorem tw18105898874284301186:True:=trivial
theorem tw4491294841191131441:True:=trivial
theorem tw11030362628599249364:True:=trivial
theorem tw12607541583480807912:True:=trivial
theorem tw2723281776589801230:True:=trivial
theorem tw10981326182767892627:True:=trivial
theorem tw14125258547031877394:True:=trivial
theorem tw7878279249790709090:True:=trivial
theorem tw2474697940644661622:True:=trivial
theorem tw9268431560796816435:True:=trivial
theorem tw11577517477124222285:True:=trivial
theorem tw2114235951228236814:True:=trivial
theorem tw12946669519284213187:True:=trivial
theorem tw8839555780162137900:True:=trivial
theorem tw13276916856028125658:True:=trivial
theorem tw10564137456993277324:True:=trivial
theorem tw17292605305857276987:True:=trivial
theorem tw15707198140787671395:True:=trivial
theorem tw9522295927038227229:True:=trivial
theorem tw6396249876273128215:True:=trivial
theorem tw16274647086144479542:True:=trivial
theorem tw11454192767950951956:True:=trivial
theorem tw12793135693039389214:True:=trivial
theorem tw13732000071213785456:True:=trivial
theorem tw17303095636262779452:True:=trivial
theorem tw1962126137843131485:True:=trivial
theorem tw17697225271158830365:True:=trivial
theorem tw4203821344286979860:True:=trivial
theorem tw14925989767522832712:True:=trivial
theorem tw4349075233354090032:True:=trivial
theorem tw605439953882992630:True:=trivial
theorem tw18405133461637049994:True:=trivial
theorem tw7010962399016860887:True:=trivial
theorem tw4861749528750494685:True:=trivial
theorem tw14817604377075671790:True:=trivial
theorem tw426951267827590000:True:=trivial
theorem tw5471204424293370304:True:=trivial
theorem tw7432204603457705088:True:=trivial
theorem tw2151439240220607663:True:=trivial
theorem tw9491856571264829060:True:=trivial
theorem tw725918541452788913:True:=trivial
theorem tw2515924038333335429:True:=trivial
theorem tw2770644858092758678:True:=trivial
theorem tw4038964164337030466:True:=trivial
theorem tw11483642743935263197:True:=trivial
theorem tw17194732853602803598:True:=trivial
theorem tw7660979444952694187:True:=trivial
theorem tw5827170436344891898:True:=trivial
theorem tw12387239759168811087:True:=trivial
theorem tw2910899285896794001:True:=trivial
theorem tw4627972201496147170:True:=trivial
theorem tw16601314288138636357:True:=trivial
theorem tw7247360818122471668:True:=trivial
theorem tw16909303900479675255:True:=trivial
theorem tw6527562380808604284:True:=trivial
theorem tw9041219944892663058:True:=trivial
theorem tw16760025158251697543:True:=trivial
theorem tw8448398823360529228:True:=trivial
theorem tw6078163158201548330:True:=trivial
theorem tw6330135658196974346:True:=trivial
theorem tw5381132718636168567:True:=trivial
theorem tw12263772541272563524:True:=trivial
theorem tw13571904620541310853:True:=trivial
theorem tw11791735438732574703:True:=trivial
theorem tw14965005059947743524:True:=trivial
theorem tw252288984711273971:True:=trivial
theorem tw17431885195901478635:True:=trivial
theorem tw17807970385736844627:True:=trivial
theorem tw13969739004625941893:True:=trivial
theorem tw7389583323294590430:True:=trivial
theorem tw12221847614344169282:True:=trivial
theorem tw8605761659007501471:True:=trivial
theorem tw4496906730050642779:True:=trivial
theorem tw12179650051390910787:True:=trivial
theorem tw10525476018294016155:True:=trivial
theorem tw905989078263971886:True:=trivial
theorem tw12922072038044315868:True:=trivial
theorem tw15908265850704371227:True:=trivial
theorem tw14844868538955862994:True:=trivial
theorem tw2468780574052664025:True:=trivial
theorem tw1657639490746365458:True:=trivial
theorem tw4817668398054927776:True:=trivial
theorem tw9731431814196595139:True:=trivial
theorem tw13755117012429258829:True:=trivial
theorem tw3603307161221391600:True:=trivial
theorem tw134062536753451705:True:=trivial
theorem tw7361803441208598323:True:=trivial
theorem tw2591795098023669159:True:=trivial
theorem tw1599206774051257179:True:=trivial
theorem tw12810502896147998893:True:=trivial
theorem tw8930036391714673701:True:=trivial
theorem tw10556815912695572323:True:=trivial
theorem tw15151833290204748656:True:=trivial
theorem tw14553866418955242495:True:=trivial
theorem tw4723830126045199805:True:=trivial
theorem tw16522504589013083554:True:=trivial
theorem tw9529939906744304381:True:=trivial
theorem tw9547890690671237329:True:=trivial
theorem tw6152007195124872032:True:=trivial
theorem tw1468639348904178734:True:=trivial
theorem tw15012298870128461363:True:=trivial
theorem tw5994398596051031118:True:=trivial
theorem tw11321654034214389533:True:=trivial
theorem tw4898671195467695101:True:=trivial
theorem tw4541687141051035264:True:=trivial
theorem tw11443316093128037123:True:=trivial
theorem tw11887949919846073580:True:=trivial
theorem tw14285528578695430490:True:=trivial
theorem tw9115063099868626042:True:=trivial
theorem tw2461536467537267060:True:=trivial
theorem tw2075542858678871290:True:=trivial
theorem tw9508658136456205382:True:=trivial
theorem tw13601017458948250281:True:=trivial
theorem tw637601330569597881:True:=trivial
theorem tw7997500709596210524:True:=trivial
theorem tw804457592052103131:True:=trivial
theorem tw13841982929636730060:True:=trivial
theorem tw17132550061580637830:True:=trivial
theorem tw8251455313776322421:True:=trivial
theorem tw14026814464436498184:True:=trivial
theorem tw2099891597664031133:True:=trivial
theorem tw8593714245751079801:True:=trivial
theorem tw8763218170955372335:True:=trivial
theorem tw17385009599610569528:True:=trivial
theorem tw1845799074334574881:True:=trivial
theorem tw10887928094570552504:True:=trivial
theorem tw14592212779992885036:True:=trivial
theorem tw16562346952487807287:True:=trivial
theorem tw5618543293054969623:True:=trivial
theorem tw2825930333477894793:True:=trivial
theorem tw8363758677478813900:True:=trivial
theorem tw12939419404266175813:True:=trivial
theorem tw13942980324635262350:True:=trivial
theorem tw14344132487322007071:True:=trivial
theorem tw4800302950357355251:True:=trivial
theorem tw8059083363712647856:True:=trivial
theorem tw14400725947975128347:True:=trivial
theorem tw11043832570580950952:True:=trivial
theorem tw12463110083363610226:True:=trivial
theorem tw4741899553907712046:True:=trivial
theorem tw9436059259893253957:True:=trivial
theorem tw17471869517814643960:True:=trivial
theorem tw7855041728709089068:True:=trivial
theorem tw6381899182040259473:True:=trivial
theorem tw1020710017492157072:True:=trivial
theorem tw6310708256614644014:True:=trivial
theorem tw15853198488422350752:True:=trivial
theorem tw7660340654215333926:True:=trivial
theorem tw11111110431705622114:True:=trivial
theorem tw3786728749040799182:True:=trivial
theorem tw5312846739145963185:True:=trivial
theorem tw7097413013343141825:True:=trivial
theorem tw17632440116919933644:True:=trivial
theorem tw9961020239715891136:True:=trivial
theorem tw501242261027124675:True:=trivial
theorem tw15805915142804288380:True:=trivial
theorem tw15137184453542529357:True:=trivial
theorem tw2783954638221438588:True:=trivial
theorem tw1328013603875377032:True:=trivial
theorem tw4718445384643061059:True:=trivial
theorem tw17969693896051090931:True:=trivial
theorem tw13135280429587477120:True:=trivial
theorem tw16037576670715338572:True:=trivial
theorem tw13703672686052127605:True:=trivial
theorem tw16000828147393373515:True:=trivial
theorem tw6707346937903021720:True:=trivial
theorem tw13856456782691757892:True:=trivial
theorem tw7987015570264642016:True:=trivial
theorem tw12348289385209473530:True:=trivial
theorem tw250619968222986897:True:=trivial
theorem tw12797065026657321786:True:=trivial
theorem tw13122453770289932253:True:=trivial
theorem tw1951425981732812431:True:=trivial
theorem tw16467884277927081773:True:=trivial
theorem tw16579484057367461577:True:=trivial
theorem tw13278733409917004136:True:=trivial
theorem tw12939842063238699423:True:=trivial
theorem tw15193200562727965989:True:=trivial
theorem tw4909322020073822987:True:=trivial
theorem tw17235494477015643105:True:=trivial
theorem tw1752943388754070185:True:=trivial
theorem tw8332074914095584844:True:=trivial
theorem tw13608341597574770818:True:=trivial
theorem tw8813541632175326866:True:=trivial
theorem tw12272263937225661124:True:=trivial
theorem tw10161799449410407614:True:=trivial
theorem tw10713451790310235668:True:=trivial
theorem tw4535487832721345187:True:=trivial
theorem tw1597850382304250420:True:=trivial
theorem tw1589411377328950307:True:=trivial
theorem tw5043397506571276338:True:=trivial
theorem tw7469658533036207219:True:=trivial
theorem tw4632736646779895119:True:=trivial
theorem tw12102055454018295811:True:=trivial
theorem tw18359889539710278494:True:=trivial
theorem tw6074678037353365571:True:=trivial
theorem tw14424926847943885240:True:=trivial
theorem tw6956412133926291792:True:=trivial
theorem tw7284396873523049096:True:=trivial
theorem tw1677044101079104650:True:=trivial
theorem tw6697974002439816382:True:=trivial
theorem tw2195218252261411286:True:=trivial
theorem tw15963234105034374621:True:=trivial
theorem tw1568562844778036067:True:=trivial
theorem tw9467767768620534614:True:=trivial
theorem tw10620527866841756416:True:=trivial
theorem tw1351311006206801127:True:=trivial
theorem tw7135251663234029668:True:=trivial
theorem tw9941246264638230539:True:=trivial
theorem tw16747470323998019654:True:=trivial
theorem tw6907344226555131603:True:=trivial
theorem tw1586200352004876171:True:=trivial
theorem tw2988737703114815290:True:=trivial
theorem tw10852915781273335392:True:=trivial
theorem tw17192451061752938693:True:=trivial
theorem tw9260055919801024074:True:=trivial
theorem tw14179383618883023506:True:=trivial
theorem tw15119852190016949331:True:=trivial
theorem tw8234213636155633624:True:=trivial
theorem tw14244621027097716611:True:=trivial
theorem tw1002739411753452671:True:=trivial
theorem tw2785745511897851133:True:=trivial
theorem tw11941270946371379025:True:=trivial
theorem tw15550874328836114463:True:=trivial
theorem tw16649806194552936596:True:=trivial
theorem tw2981957482913750728:True:=trivial
theorem tw15338061123242104553:True:=trivial
theorem tw15905773727889927477:True:=trivial
theorem tw3856552392883669108:True:=trivial
theorem tw4633795615136052049:True:=trivial
theorem tw12513347385907695964:True:=trivial
theorem tw5031218537963461352:True:=trivial
theorem tw13044534909416848747:True:=trivial
theorem tw8051835358425924890:True:=trivial
theorem tw11694536238058509425:True:=trivial
theorem tw6162021260538022339:True:=trivial
theorem tw439439327687726204:True:=trivial
theorem tw15147406668162102513:True:=trivial
theorem tw12296576547135182632:True:=trivial
theorem tw2852440651919300159:True:=trivial
end PySem.W.Fast
open PySem PySem.W PyProof.Rows
set_option maxRecDepth 100000 in
set_option maxHeartbeats 0 in
theorem PySem.Challenge.cw_mixbench_k42_whole_parts_change_places_holds : PySem.Challenge.rw_mixbench_k42_whole_parts_change_places.Holds := by
 w_on; o_law; k_head; (case hw => w_witness2)
 k_fill
 refine L2.g8c (l := PySem.Challenge.rw_mixbench_k42_whole_parts_change_places) (k := 13) (x := "_law_script") (CX := fun _ => L2.CX0) rfl rfl ⟨rfl, by decide, by decide⟩ (fun w h Y => PySem.W.kIn_of Y) ?F (fun _ _ _ _ _ z => z)
 case F =>
  intro w mg fa h KX G hmg
  refine' My.all_mk KX G hmg ?f1h ?d4w ?c9n ?d4y ?d4z ?c6n ?a_is_whole ?l_is_whole ?d1n ?k_is_whole ?a_is_figures ?l_is_figures ?c5l ?k_is_figures ?a_whole_of ?l_whole_of ?d1o ?k_whole_of ?a_divisor ?l_divisor ?d6w ?k_divisor ?a_fraction ?l_fraction ?d1p ?k_fraction ?a_plus ?l_plus ?g7e ?k_plus ?a_times ?l_times ?f8p ?k_times ?a_size_of ?l_size_of ?d6y ?k_size_of ?a_fraction_text ?l_fraction_text ?b6i ?k_fraction_text ?a_read_fraction ?l_read_fraction ?b6j ?k_read_fraction ?a_added_rows ?l_added_rows ?c5m ?k_added_rows ?a_times_row ?l_times_row ?c8i ?k_times_row ?a_delayed ?l_delayed ?d6z ?k_delayed ?a_last_of ?l_last_of ?d7g ?k_last_of ?a_Part_grain ?l_Part_grain ?c5n ?k_Part_grain ?a_Part_fresh ?l_Part_fresh ?c5o ?k_Part_fresh ?a_Part_reach ?l_Part_reach ?c5p ?k_Part_reach ?a_Part_weight ?l_Part_weight ?c2n ?k_Part_weight ?a_Gain_init ?l_Gain_init ?c8j ?k_Gain_init ?a_Gain_grain ?l_Gain_grain ?c5q ?k_Gain_grain ?a_Gain_through ?l_Gain_through ?b8s ?k_Gain_through ?a_Gain_weight ?l_Gain_weight ?c2o ?k_Gain_weight ?a_Delay_init ?l_Delay_init ?c5r ?k_Delay_init ?a_Delay_through ?l_Delay_through ?b6k ?k_Delay_through ?a_Delay_reach ?l_Delay_reach ?c2p ?k_Delay_reach ?a_powers_of ?l_powers_of ?c8k ?k_powers_of ?a_Echo_init ?l_Echo_init ?c8l ?k_Echo_init ?a_Echo_grain ?l_Echo_grain ?c5s ?k_Echo_grain ?a_Echo_through ?l_Echo_through ?b8t ?k_Echo_through ?a_Echo_reach ?l_Echo_reach ?c5t ?k_Echo_reach ?a_Echo_weight ?l_Echo_weight ?c2q ?k_Echo_weight ?a_Back_init ?l_Back_init ?c8m ?k_Back_init ?a_Back_grain ?l_Back_grain ?c5u ?k_Back_grain ?a_Back_through ?l_Back_through ?b8u ?k_Back_through ?a_Back_reach ?l_Back_reach ?c5v ?k_Back_reach ?a_Back_weight ?l_Back_weight ?c2r ?k_Back_weight ?a_read_gain ?l_read_gain ?c8n ?k_read_gain ?a_read_number ?l_read_number ?c2s ?k_read_number ?a_read_many ?l_read_many ?c8o ?k_read_many ?a_check_count ?l_check_count ?c2t ?k_check_count ?a_gain_of ?l_gain_of ?d7h ?k_gain_of ?a_delay_of ?l_delay_of ?d1q ?k_delay_of ?a_echo_of ?l_echo_of ?d7i ?k_echo_of ?a_back_of ?l_back_of ?d7j ?k_back_of ?a_part_of ?l_part_of ?d7k ?k_part_of ?a_parts_of ?l_parts_of ?d1r ?k_parts_of ?a_Chain_init ?l_Chain_init ?c5w ?k_Chain_init ?a_Chain_through ?l_Chain_through ?b6l ?k_Chain_through ?a_Chain_grain ?l_Chain_grain ?c2u ?k_Chain_grain ?a_Chain_weight ?l_Chain_weight ?b8v ?k_Chain_weight ?a_Chain_reach ?l_Chain_reach ?c2v ?k_Chain_reach ?a_law_cell_at ?l_law_cell_at ?c2w ?k_law_cell_at ?a_law_whole ?l_law_whole ?c8p ?k_law_whole ?a_law_divisor ?l_law_divisor ?c2y ?k_law_divisor ?a_law_gain ?l_law_gain ?d1s ?k_law_gain ?a_law_word ?l_law_word ?d1t ?k_law_word ?a_law_tone ?l_law_tone ?d1u ?k_law_tone ?a_law_about ?l_law_about ?c8q ?k_law_about ?a_law_through ?l_law_through ?c2z ?k_law_through ?a_law_same ?l_law_same ?d1v ?k_law_same ?a_law_told ?l_law_told ?d1w ?k_law_told ?a_law ?l_law ?h5g ?k_law ?d4v ?d9o ?d7t ?a2k ?b4h ?b6g ?g5o ?g5p ?b8p ?b9w ?d2r ?g1v ?c7v ?g1w ?cl_Part_pg ?cl_Part_hd ?cl_Part_po ?cl_Part_sa ?me_Part_grain_fn ?me_Part_fresh_fn ?me_Part_reach_fn ?me_Part_weight_fn ?cl_Gain_pg ?cl_Gain_hd ?cl_Gain_po ?cl_Gain_sa ?a0w ?me_Gain___init___fn ?mk_Gain_ma ?mk_Gain_kp ?me_Gain_grain_fn ?me_Gain_through_fn ?me_Gain_weight_fn ?me_Gain_fresh_at ?me_Gain_fresh_fn ?me_Gain_reach_at ?me_Gain_reach_fn ?cl_Delay_pg ?cl_Delay_hd ?cl_Delay_po ?cl_Delay_sa ?a0v ?me_Delay___init___fn ?mk_Delay_ma ?mk_Delay_kp ?me_Delay_through_fn ?me_Delay_reach_fn ?me_Delay_grain_at ?me_Delay_grain_fn ?me_Delay_fresh_at ?me_Delay_fresh_fn ?me_Delay_weight_at ?me_Delay_weight_fn ?cl_Echo_pg ?cl_Echo_hd ?cl_Echo_po ?cl_Echo_sa ?a0s ?a0t ?a0o ?a0n ?a0j ?me_Echo___init___fn ?mk_Echo_ma ?mk_Echo_kp ?me_Echo_grain_fn ?me_Echo_through_fn ?me_Echo_reach_fn ?me_Echo_weight_fn ?me_Echo_fresh_at ?me_Echo_fresh_fn ?cl_Back_pg ?cl_Back_hd ?cl_Back_po ?cl_Back_sa ?a0y ?a0z ?me_Back___init___fn ?mk_Back_ma ?mk_Back_kp ?me_Back_grain_fn ?me_Back_through_fn ?me_Back_reach_fn ?me_Back_weight_fn ?me_Back_fresh_at ?me_Back_fresh_fn ?cl_Chain_pg ?cl_Chain_hd ?cl_Chain_po ?cl_Chain_sa ?a1i ?a1g ?me_Chain___init___fn ?mk_Chain_ma ?mk_Chain_kp ?me_Chain_through_fn ?me_Chain_grain_fn ?me_Chain_weight_fn ?me_Chain_reach_fn ?b9y ?a2u ?a2v ?a9q ?a9r ?b0t ?b0u ?a7r ?ld_READERS ?kd_READERS ?nd_READERS ?a4u ?a3t ?a4v ?a4w
  (case f1h => k_is)
  (case d4w => k_is)
  (case c9n => k_is)
  (case d4y => k_is)
  (case d4z => k_is)
  (case c6n => k_is)
  (case a_is_whole => k_is)
  (case l_is_whole => k_is)
  (case d1n => k_is)
  (case k_is_whole => k_is)
  (case a_is_figures => k_is)
  (case l_is_figures => k_is)
  (case c5l => k_is)
  (case k_is_figures => k_is)
  (case a_whole_of => k_is)
  (case l_whole_of => k_is)
  (case d1o => k_is)
  (case k_whole_of => k_is)
  (case a_divisor => k_is)
  (case l_divisor => k_is)
  (case d6w => k_is)
  (case k_divisor => k_is)
  (case a_fraction => k_is)
  (case l_fraction => k_is)
  (case d1p => k_is)
  (case k_fraction => k_is)
  (case a_plus => k_is)
  (case l_plus => k_is)
  (case g7e => k_is)
  (case k_plus => k_is)
  (case a_times => k_is)
  (case l_times => k_is)
  (case f8p => k_is)
  (case k_times => k_is)
  (case a_size_of => k_is)
  (case l_size_of => k_is)
  (case d6y => k_is)
  (case k_size_of => k_is)
  (case a_fraction_text => k_is)
  (case l_fraction_text => k_is)
  (case b6i => k_is)
  (case k_fraction_text => k_is)
  (case a_read_fraction => k_is)
  (case l_read_fraction => k_is)
  (case b6j => k_is)
  (case k_read_fraction => k_is)
  (case a_added_rows => k_is)
  (case l_added_rows => k_is)
  (case c5m => k_is)
  (case k_added_rows => k_is)
  (case a_times_row => k_is)
  (case l_times_row => k_is)
  (case c8i => k_is)
  (case k_times_row => k_is)
  (case a_delayed => k_is)
  (case l_delayed => k_is)
  (case d6z => k_is)
  (case k_delayed => k_is)
  (case a_last_of => k_is)
  (case l_last_of => k_is)
  (case d7g => k_is)
  (case k_last_of => k_is)
  (case a_Part_grain => k_is)
  (case l_Part_grain => k_is)
  (case c5n => k_is)
  (case k_Part_grain => k_is)
  (case a_Part_fresh => k_is)
  (case l_Part_fresh => k_is)
  (case c5o => k_is)
  (case k_Part_fresh => k_is)
  (case a_Part_reach => k_is)
  (case l_Part_reach => k_is)
  (case c5p => k_is)
  (case k_Part_reach => k_is)
  (case a_Part_weight => k_is)
  (case l_Part_weight => k_is)
  (case c2n => k_is)
  (case k_Part_weight => k_is)
  (case a_Gain_init => k_is)
  (case l_Gain_init => k_is)
  (case c8j => k_is)
  (case k_Gain_init => k_is)
  (case a_Gain_grain => k_is)
  (case l_Gain_grain => k_is)
  (case c5q => k_is)
  (case k_Gain_grain => k_is)
  (case a_Gain_through => k_is)
  (case l_Gain_through => k_is)
  (case b8s => k_is)
  (case k_Gain_through => k_is)
  (case a_Gain_weight => k_is)
  (case l_Gain_weight => k_is)
  (case c2o => k_is)
  (case k_Gain_weight => k_is)
  (case a_Delay_init => k_is)
  (case l_Delay_init => k_is)
  (case c5r => k_is)
  (case k_Delay_init => k_is)
  (case a_Delay_through => k_is)
  (case l_Delay_through => k_is)
  (case b6k => k_is)
  (case k_Delay_through => k_is)
  (case a_Delay_reach => k_is)
  (case l_Delay_reach => k_is)
  (case c2p => k_is)
  (case k_Delay_reach => k_is)
  (case a_powers_of => k_is)
  (case l_powers_of => k_is)
  (case c8k => k_is)
  (case k_powers_of => k_is)
  (case a_Echo_init => k_is)
  (case l_Echo_init => k_is)
  (case c8l => k_is)
  (case k_Echo_init => k_is)
  (case a_Echo_grain => k_is)
  (case l_Echo_grain => k_is)
  (case c5s => k_is)
  (case k_Echo_grain => k_is)
  (case a_Echo_through => k_is)
  (case l_Echo_through => k_is)
  (case b8t => k_is)
  (case k_Echo_through => k_is)
  (case a_Echo_reach => k_is)
  (case l_Echo_reach => k_is)
  (case c5t => k_is)
  (case k_Echo_reach => k_is)
  (case a_Echo_weight => k_is)
  (case l_Echo_weight => k_is)
  (case c2q => k_is)
  (case k_Echo_weight => k_is)
  (case a_Back_init => k_is)
  (case l_Back_init => k_is)
  (case c8m => k_is)
  (case k_Back_init => k_is)
  (case a_Back_grain => k_is)
  (case l_Back_grain => k_is)
  (case c5u => k_is)
  (case k_Back_grain => k_is)
  (case a_Back_through => k_is)
  (case l_Back_through => k_is)
  (case b8u => k_is)
  (case k_Back_through => k_is)
  (case a_Back_reach => k_is)
  (case l_Back_reach => k_is)
  (case c5v => k_is)
  (case k_Back_reach => k_is)
  (case a_Back_weight => k_is)
  (case l_Back_weight => k_is)
  (case c2r => k_is)
  (case k_Back_weight => k_is)
  (case a_read_gain => k_is)
  (case l_read_gain => k_is)
  (case c8n => k_is)
  (case k_read_gain => k_is)
  (case a_read_number => k_is)
  (case l_read_number => k_is)
  (case c2s => k_is)
  (case k_read_number => k_is)
  (case a_read_many => k_is)
  (case l_read_many => k_is)
  (case c8o => k_is)
  (case k_read_many => k_is)
  (case a_check_count => k_is)
  (case l_check_count => k_is)
  (case c2t => k_is)
  (case k_check_count => k_is)
  (case a_gain_of => k_is)
  (case l_gain_of => k_is)
  (case d7h => k_is)
  (case k_gain_of => k_is)
  (case a_delay_of => k_is)
  (case l_delay_of => k_is)
  (case d1q => k_is)
  (case k_delay_of => k_is)
  (case a_echo_of => k_is)
  (case l_echo_of => k_is)
  (case d7i => k_is)
  (case k_echo_of => k_is)
  (case a_back_of => k_is)
  (case l_back_of => k_is)
  (case d7j => k_is)
  (case k_back_of => k_is)
  (case a_part_of => k_is)
  (case l_part_of => k_is)
  (case d7k => k_is)
  (case k_part_of => k_is)
  (case a_parts_of => k_is)
  (case l_parts_of => k_is)
  (case d1r => k_is)
  (case k_parts_of => k_is)
  (case a_Chain_init => k_is)
  (case l_Chain_init => k_is)
  (case c5w => k_is)
  (case k_Chain_init => k_is)
  (case a_Chain_through => k_is)
  (case l_Chain_through => k_is)
  (case b6l => k_is)
  (case k_Chain_through => k_is)
  (case a_Chain_grain => k_is)
  (case l_Chain_grain => k_is)
  (case c2u => k_is)
  (case k_Chain_grain => k_is)
  (case a_Chain_weight => k_is)
  (case l_Chain_weight => k_is)
  (case b8v => k_is)
  (case k_Chain_weight => k_is)
  (case a_Chain_reach => k_is)
  (case l_Chain_reach => k_is)
  (case c2v => k_is)
  (case k_Chain_reach => k_is)
  (case a_law_cell_at => k_is)
  (case l_law_cell_at => k_is)
  (case c2w => k_is)
  (case k_law_cell_at => k_is)
  (case a_law_whole => k_is)
  (case l_law_whole => k_is)
  (case c8p => k_is)
  (case k_law_whole => k_is)
  (case a_law_divisor => k_is)
  (case l_law_divisor => k_is)
  (case c2y => k_is)
  (case k_law_divisor => k_is)
  (case a_law_gain => k_is)
  (case l_law_gain => k_is)
  (case d1s => k_is)
  (case k_law_gain => k_is)
  (case a_law_word => k_is)
  (case l_law_word => k_is)
  (case d1t => k_is)
  (case k_law_word => k_is)
  (case a_law_tone => k_is)
  (case l_law_tone => k_is)
  (case d1u => k_is)
  (case k_law_tone => k_is)
  (case a_law_about => k_is)
  (case l_law_about => k_is)
  (case c8q => k_is)
  (case k_law_about => k_is)
  (case a_law_through => k_is)
  (case l_law_through => k_is)
  (case c2z => k_is)
  (case k_law_through => k_is)
  (case a_law_same => k_is)
  (case l_law_same => k_is)
  (case d1v => k_is)
  (case k_law_same => k_is)
  (case a_law_told => k_is)
  (case l_law_told => k_is)
  (case d1w => k_is)
  (case k_law_told => k_is)
  (case a_law => k_is)
  (case l_law => k_is)
  (case h5g => k_is)
  (case k_law => k_is)
  (case d4v => k_is)
  (case d9o => k_is)
  (case d7t => k_is)
  (case a2k => k_is)
  (case b4h => k_is)
  (case b6g => k_is)
  (case g5o => k_is)
  (case g5p => k_is)
  (case b8p => k_is)
  (case b9w => k_is)
  (case d2r => k_is)
  (case g1v => k_is)
  (case c7v => k_is)
  (case g1w => k_is)
  (case cl_Part_pg => k_is)
  (case cl_Part_hd => k_is)
  (case cl_Part_po => k_is)
  (case cl_Part_sa => k_is)
  (case me_Part_grain_fn => k_is)
  (case me_Part_fresh_fn => k_is)
  (case me_Part_reach_fn => k_is)
  (case me_Part_weight_fn => k_is)
  (case cl_Gain_pg => k_is)
  (case cl_Gain_hd => k_is)
  (case cl_Gain_po => k_is)
  (case cl_Gain_sa => k_is)
  (case a0w => k_is)
  (case me_Gain___init___fn => k_is)
  (case mk_Gain_ma => k_is)
  (case mk_Gain_kp => k_is)
  (case me_Gain_grain_fn => k_is)
  (case me_Gain_through_fn => k_is)
  (case me_Gain_weight_fn => k_is)
  (case me_Gain_fresh_at => k_is)
  (case me_Gain_fresh_fn => k_is)
  (case me_Gain_reach_at => k_is)
  (case me_Gain_reach_fn => k_is)
  (case cl_Delay_pg => k_is)
  (case cl_Delay_hd => k_is)
  (case cl_Delay_po => k_is)
  (case cl_Delay_sa => k_is)
  (case a0v => k_is)
  (case me_Delay___init___fn => k_is)
  (case mk_Delay_ma => k_is)
  (case mk_Delay_kp => k_is)
  (case me_Delay_through_fn => k_is)
  (case me_Delay_reach_fn => k_is)
  (case me_Delay_grain_at => k_is)
  (case me_Delay_grain_fn => k_is)
  (case me_Delay_fresh_at => k_is)
  (case me_Delay_fresh_fn => k_is)
  (case me_Delay_weight_at => k_is)
  (case me_Delay_weight_fn => k_is)
  (case cl_Echo_pg => k_is)
  (case cl_Echo_hd => k_is)
  (case cl_Echo_po => k_is)
  (case cl_Echo_sa => k_is)
  (case a0s => k_is)
  (case a0t => k_is)
  (case a0o => k_is)
  (case a0n => k_is)
  (case a0j => k_is)
  (case me_Echo___init___fn => k_is)
  (case mk_Echo_ma => k_is)
  (case mk_Echo_kp => k_is)
  (case me_Echo_grain_fn => k_is)
  (case me_Echo_through_fn => k_is)
  (case me_Echo_reach_fn => k_is)
  (case me_Echo_weight_fn => k_is)
  (case me_Echo_fresh_at => k_is)
  (case me_Echo_fresh_fn => k_is)
  (case cl_Back_pg => k_is)
  (case cl_Back_hd => k_is)
  (case cl_Back_po => k_is)
  (case cl_Back_sa => k_is)
  (case a0y => k_is)
  (case a0z => k_is)
  (case me_Back___init___fn => k_is)
  (case mk_Back_ma => k_is)
  (case mk_Back_kp => k_is)
  (case me_Back_grain_fn => k_is)
  (case me_Back_through_fn => k_is)
  (case me_Back_reach_fn => k_is)
  (case me_Back_weight_fn => k_is)
  (case me_Back_fresh_at => k_is)
  (case me_Back_fresh_fn => k_is)
  (case cl_Chain_pg => k_is)
  (case cl_Chain_hd => k_is)
  (case cl_Chain_po => k_is)
  (case cl_Chain_sa => k_is)
  (case a1i => k_is)
  (case a1g => k_is)
  (case me_Chain___init___fn => k_is)
  (case mk_Chain_ma => k_is)
  (case mk_Chain_kp => k_is)
  (case me_Chain_through_fn => k_is)
  (case me_Chain_grain_fn => k_is)
  (case me_Chain_weight_fn => k_is)
  (case me_Chain_reach_fn => k_is)
  (case b9y => k_is)
  (case a2u => k_is)
  (case a2v => k_is)
  (case a9q => k_is)
  (case a9r => k_is)
  (case b0t => k_is)
  (case b0u => k_is)
  (case a7r => k_is)
  (case ld_READERS => k_is)
  (case kd_READERS => k_keys)
  (case nd_READERS => decide)
  (case a4u => k_is)
  (case a3t => k_is)
  (case a4v => k_is)
  (case a4w => k_is)
