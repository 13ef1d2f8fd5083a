import PyProof.Rows.All
import Wide.All
import OpenK.AllK
import Wide.FinOn
import Lean
import PyProof.EqAt
import PyProof.EqKinds
import PyProof.TupleCall
import PySem.Challenge.RW_mixbench_k43_whole_taken_back
set_option Elab.async false
set_option linter.all false
set_option maxRecDepth 100000
namespace L2
open PySem PySem.Spec PyProof.Rows
noncomputable abbrev Key := Sum Int Str
noncomputable def g7f : Key -> Value -> Bool
 | .inl k, v => Value.isInt k v
 | .inr x, v => Value.isStrOf x v
noncomputable def keyH (w : World) : Key -> Int
 | .inl k => hashInt k
 | .inr x => hashStr w x
theorem a4m : ∀ {k : Key} {v : Value}, g7f k v = true -> (∃ i t, k = Sum.inl i /\ v = Value.int i t) \/ (∃ x t, k = Sum.inr x /\ v = Value.str x t)
 | .inl i, v, h => by
  obtain ⟨t, e⟩ := Value.isInt_shape (k := i) (v := v) h
  exact .inl ⟨i, t, rfl, e⟩
 | .inr x, v, h => by
  obtain ⟨t, e⟩ := Value.isStrOf_shape (x := x) (v := v) h
  exact .inr ⟨x, t, rfl, e⟩
theorem g7g (a b : Int) : decide ((Sum.inl a : Key) = Sum.inl b) = (a == b) := by
 by_cases e : a = b
 ·subst e; simp
 ·have h : ¬ (Sum.inl a : Key) = Sum.inl b := fun q => e (Sum.inl.inj q)
  rw [decide_eq_false h]
  exact (beq_eq_false_iff_ne.mpr e).symm
theorem g7h (a b : Str) : decide ((Sum.inr a : Key) = Sum.inr b) = decide (a = b) := by
 by_cases e : a = b
 ·subst e; simp
 ·have h : ¬ (Sum.inr a : Key) = Sum.inr b := fun q => e (Sum.inr.inj q)
  rw [decide_eq_false h, decide_eq_false e]
theorem g7i (a : Int) (b : Str) : decide ((Sum.inl a : Key) = Sum.inr b) = false := decide_eq_false (fun q => nomatch q)
theorem g7j (a : Str) (b : Int) : decide ((Sum.inr a : Key) = Sum.inl b) = false := decide_eq_false (fun q => nomatch q)
noncomputable def f4r (prog : Program) (w : World) : PySem.KeyKind prog w Key where
 is := g7f
 hash := keyH w
 inj := fun v a b ha hb => by
  rcases a4m ha with ⟨i, t, rfl, rfl⟩ | ⟨x, t, rfl, rfl⟩
  ·rcases a4m hb with ⟨j, u, rfl, e⟩ | ⟨y, u, rfl, e⟩
   ·injection e with e1 _; rw [e1]
   ·exact nomatch e
  ·rcases a4m hb with ⟨j, u, rfl, e⟩ | ⟨y, u, rfl, e⟩
   ·exact nomatch e
   ·injection e with e1 _; rw [e1]
 byValue := fun k v h => by
  rcases a4m h with ⟨i, t, rfl, rfl⟩ | ⟨x, t, rfl, rfl⟩ <;> rfl
 pyHash := fun hv h => by
  rcases a4m hv with ⟨i, t, rfl, rfl⟩ | ⟨x, t, rfl, rfl⟩
  ·exact wpAny_pyHash_int h
  ·exact wpAny_pyHash_str h
 eqBool := fun hu hv h => by
  rcases a4m hu with ⟨i, t, rfl, rfl⟩ | ⟨x, t, rfl, rfl⟩
  ·rcases a4m hv with ⟨j, u, rfl, rfl⟩ | ⟨y, u, rfl, rfl⟩
   ·rw [g7g] at h; exact wpAny_eqBool_int h
   ·rw [g7i] at h; exact SeqAt.EqAt.int_str i t y u _ _ _ _ h
  ·rcases a4m hv with ⟨j, u, rfl, rfl⟩ | ⟨y, u, rfl, rfl⟩
   ·rw [g7j] at h; exact SeqAt.EqAt.str_int x t j u _ _ _ _ h
   ·rw [g7h] at h; exact wpAny_eqBool_str h
 «strs» := fun k x t v h => by
  rcases a4m h with ⟨i, u, rfl, e⟩ | ⟨y, u, rfl, e⟩
  ·exact nomatch e
  ·injection e with e1 _
   subst e1
   cases v <;> rfl
end L2
namespace L2
open PySem PySem.Spec PyProof.Rows
inductive V where
 | non | bl (b : Bool) | int (i : Int) | str (x : Str) | byt (b : Array UInt8) | flt (b : UInt64) | ref (a : Addr) | ty (n : String)
 deriving DecidableEq
noncomputable def RelV : V -> Value -> Prop
 | .non, u => u = Value.none
 | .bl b, u => u = Value.bool b
 | .int i, u => ∃ t, u = Value.int i t
 | .str x, u => ∃ t, u = Value.str x t
 | .byt b, u => ∃ t, u = Value.bytes b t
 | .flt b, u => ∃ t, u = Value.float b t
 | .ref a, u => u = Value.ref a
 | .ty n, u => u = Value.type n
noncomputable abbrev Vals : List V -> List Value -> Prop := Paired RelV
theorem Vals.length {xs : List V} {us : List Value} (r : Vals xs us) : xs.length = us.length := Paired.length r
theorem Vals.get : ∀ {xs : List V} {us : List Value} {i : Nat} {x : V}, Vals xs us -> xs[i]? = some x -> ∃ u, us[i]? = some u /\ RelV x u
 | _, _, _, _, .nil, e => by simp at e
 | _, _, 0, _, .cons r _, e => by simp at e; subst e; exact ⟨_, rfl, r⟩
 | _, _, i + 1, x, .cons _ t, e => by
  obtain ⟨u, h1, h2⟩ := Vals.get (i := i) (x := x) t (by simpa using e)
  exact ⟨u, by simpa using h1, h2⟩
theorem Vals.set {x : V} {u : Value} (r : RelV x u) : ∀ {xs : List V} {us : List Value} (i : Nat), Vals xs us -> Vals (xs.set i x) (us.set i u)
 | _, _, _, .nil => .nil
 | _, _, 0, .cons _ t => .cons r t
 | _, _, i + 1, .cons q t => .cons q (Vals.set r i t)
theorem Vals.append : ∀ {xs ys : List V} {us ws : List Value}, Vals xs us -> Vals ys ws -> Vals (xs ++ ys) (us ++ ws)
 | _, _, _, _, .nil, s => s
 | _, _, _, _, .cons r t, s => .cons r (Vals.append t s)
theorem Vals.take : ∀ {xs : List V} {us : List Value} (n : Nat), Vals xs us -> Vals (xs.take n) (us.take n)
 | _, _, 0, _ => .nil
 | _, _, _ + 1, .nil => .nil
 | _, _, n + 1, .cons r t => .cons r (Vals.take n t)
theorem Vals.drop : ∀ {xs : List V} {us : List Value} (n : Nat), Vals xs us -> Vals (xs.drop n) (us.drop n)
 | _, _, 0, r => r
 | _, _, _ + 1, .nil => .nil
 | _, _, n + 1, .cons _ t => Vals.drop n t
theorem Vals.none_of : ∀ {xs : List V} {us : List Value} {i : Nat}, Vals xs us -> xs[i]? = none -> us[i]? = none := fun {xs us i} r e => by
 have h1 := r.length
 have h2 : xs.length <= i := List.getElem?_eq_none_iff.mp e
 exact List.getElem?_eq_none_iff.mpr (by omega)
noncomputable def f4n : Option V -> Option Value -> Prop
 | some v, some u => RelV v u
 | none, none => True
 | _, _ => False
noncomputable def KV {κ : Type} : List (κ × V) -> List (κ × Value) -> Prop := Paired fun (p : κ × V) (q : κ × Value) => p.1 = q.1 /\ RelV p.2 q.2
noncomputable def kV : Key -> V
 | .inl i => .int i
 | .inr x => .str x
inductive HO where
 /-- a list -/
 | lst (xs : List V)
 /-- a tuple (never changes) -/
 | tup (xs : List V)
 /-- a dict whose keys are ints and texts; one whose keys are tuples of ints and texts (the empty one is both) -/
 | dK (kvs : List (Key × V)) | dT (kvs : List (List Key × V))
 /-- a set of ints: its members, its size -/
 | set (S : Int -> Bool) (n : Nat)
 /-- an instance of the class at C, its dict at dx, its attributes -/
 | ins (C dx : Addr) (fs : List (Str × V))
 /-- the dict of the instance at x -/
 | own (x : Addr)
 /-- the dict of an exception -/
 | xd (fs : List (Str × V))
 /-- a bound method, f of x -/
 | met (f x : Addr)
 /-- a range object lo, lo + 1, .. below hi -/
 | rng (lo hi : Int)
 /-- a thing that is known to the object (the script; a dict while a loop walks it): read, never written while it is so -/
 | frz (o : Obj) (u : HO)
 /-- a code object's table -/
 | tbl (ps : Array Value)
 /-- any other thing, by what is true of its one object (a def of one's own: SetO a S n := HO.ext fun h => ..) -/
 | ext (φ : Heap -> Prop)
noncomputable abbrev Hp := Addr -> Option HO
noncomputable def upd (H : Hp) (a : Addr) (o : HO) : Hp := fun b => if b = a then some o else H b
theorem a6g {H : Hp} {a : Addr} {o : HO} : upd H a o a = some o := by unfold upd; rw [if_pos rfl]
theorem a2u {H : Hp} {a b : Addr} {o : HO} (h : b ≠ a) : upd H a o b = H b := by unfold upd; rw [if_neg h]
theorem a3i {H : Hp} {a b : Addr} {o : HO} (h : H a = some o) (h' : H b = none) : a ≠ b := by
 intro e; subst e; rw [h] at h'; cases h'
section
variable (P : Program) (w : World)
noncomputable def b2u (H : Hp) (h : Heap) (a : Addr) : HO -> Prop
 | .lst xs => xs.length ≤ sizeLine ∧ ∃ (its : List Value) (n : Nat), Vals xs its ∧ h.get? a = some { cls := .type "list", data := .seq its.toArray n }
 | .tup xs => xs.length <= sizeLine /\ ∃ its : List Value, Vals xs its /\ IsTup h a its.toArray
 | .dK kvs => kvs.length <= sizeLine /\ (a == sysModules) = false /\ ∃ vs, KV kvs vs /\ h.DictOf (f4r P w) a vs
 | .dT kvs => kvs.length <= sizeLine /\ (a == sysModules) = false /\ ∃ xs : List (List Key × Addr × Value),
   Paired (fun (p : List Key × V) (q : List Key × Addr × Value) => p.1 = q.1 /\ H q.2.1 = some (.tup (p.1.map kV)) /\ RelV p.2 q.2.2) kvs xs /\
   ∃ o es ep, h.get? a = some o /\ o.ExactDict /\ o.data = .dict es ep /\ es.toList = xs.map (entryOfKey (tupleKind (f4r P w))) /\ (xs.map (·.1)).Nodup
 | .set S n => h.SetOf (intKind P w) a S n
 | .ins C dx fs => H dx = some (.own a) /\ fs.length <= 1000 /\ dx ≠ a /\ h.get? a = some (PySem.W.instObj C dx) /\
   ∃ mA, h.Ns1 dx mA /\ (∀ f, f4n (fs.lookup f) (mA f)) /\ PySem.Within mA (fs.map (·.1))
 | .own _ => ∃ o, h.get? a = some o
 | .xd fs => ∃ mA, h.Ns1 a mA /\ ∀ f, f4n (fs.lookup f) (mA f)
 | .rng lo hi => ∃ t u v, h.get? a = some { cls := .type "range", data := .fields #[.int lo t, .int hi u, .int 1 v] }
 | .frz o u => h.get? a = some o /\ b2u H h a u
 | .tbl ps => h.get? a = some { cls := .none, data := .fields ps }
 | .met f x => h.get? a = some (PySem.W.methodObj (.ref f) (.ref x))
 | .ext φ => φ h /\ (∃ o, h.get? a = some o) /\ ∀ h1 h2 : Heap, φ h1 -> (∀ o, h1.get? a = some o -> h2.get? a = some o) -> φ h2
noncomputable def HOk (H : Hp) (h : Heap) : Prop := ∀ a o, H a = some o -> b2u P w H h a o
end
section
variable {P : Program} {w : World} {H H' : Hp} {h h' : Heap} {a : Addr} {o : HO}
theorem b2u.lt (x : b2u P w H h a o) : a < h.objs.size := by
 cases o with
 | lst xs => obtain ⟨_, _, _, _, e⟩ := x; exact Heap.lt_size e
 | tup xs => obtain ⟨_, _, _, p⟩ := x; exact p.lt
 | dK kvs => obtain ⟨_, _, _, _, o, _, _, e, _⟩ := x; exact Heap.lt_size e
 | dT kvs => obtain ⟨_, _, _, _, o, _, _, e, _⟩ := x; exact Heap.lt_size e
 | set S n => obtain ⟨o, _, _, _, e, _⟩ := x; exact Heap.lt_size e
 | ins C dx fs => obtain ⟨_, _, _, e, _⟩ := x; exact Heap.lt_size e
 | own y => obtain ⟨_, e⟩ := x; exact Heap.lt_size e
 | xd fs => obtain ⟨_, ⟨_, _, _, e, _⟩, _⟩ := x; exact Heap.lt_size e
 | rng lo hi => obtain ⟨_, _, _, e⟩ := x; exact Heap.lt_size e
 | frz ob u => obtain ⟨e, _⟩ := x; exact Heap.lt_size e
 | tbl ps => exact Heap.lt_size (show h.get? a = some _ from x)
 | met f y => exact Heap.lt_size (show h.get? a = some _ from x)
 | ext φ => obtain ⟨_, ⟨_, e⟩, _⟩ := x; exact Heap.lt_size e
theorem Paired.h3d {α β : Type} {F G : α -> β -> Prop} : ∀ {l₁ : List α} {l₂ : List β}, Paired F l₁ l₂ -> (∀ a b, F a b -> G a b) -> Paired G l₁ l₂
 | _, _, .nil, _ => .nil
 | _, _, .cons r t, f => .cons (f _ _ r) (Paired.h3d t f)
theorem b2u.stay (x : b2u P w H h a o) (k : ∀ b u, (b = a \/ H b = some (.own a)) -> h.get? b = some u -> h'.get? b = some u)
  (ho : ∀ b, H b = some (.own a) -> H' b = some (.own a)) (ht : ∀ b xs, H b = some (.tup xs) -> H' b = some (.tup xs)) : b2u P w H' h' a o := by
 induction o with
 | lst xs => obtain ⟨z, its, n, r, e⟩ := x; exact ⟨z, its, n, r, k _ _ (.inl rfl) e⟩
 | tup xs => obtain ⟨z, its, r, ob, e, c⟩ := x; exact ⟨z, its, r, ob, k _ _ (.inl rfl) e, c⟩
 | dK kvs => obtain ⟨z, y, vs, r, ob, es, ep, e, c⟩ := x; exact ⟨z, y, vs, r, ob, es, ep, k _ _ (.inl rfl) e, c⟩
 | dT kvs =>
  obtain ⟨z, y, xs, r, ob, es, ep, e, c⟩ := x
  exact ⟨z, y, xs, Paired.h3d r fun p q z => ⟨z.1, ht _ _ z.2.1, z.2.2⟩, ob, es, ep, k _ _ (.inl rfl) e, c⟩
 | set S n => obtain ⟨ob, es, ep, t, e, c⟩ := x; exact ⟨ob, es, ep, t, k _ _ (.inl rfl) e, c⟩
 | ins C dx fs =>
  obtain ⟨d, z, ne, e, mA, ⟨od, es, ep, e2, c⟩, r⟩ := x
  exact ⟨ho _ d, z, ne, k _ _ (.inl rfl) e, mA, ⟨od, es, ep, k _ _ (.inr d) e2, c⟩, r⟩
 | own y => obtain ⟨ob, e⟩ := x; exact ⟨ob, k _ _ (.inl rfl) e⟩
 | xd fs => obtain ⟨mA, ⟨od, es, ep, e, c⟩, r⟩ := x; exact ⟨mA, ⟨od, es, ep, k _ _ (.inl rfl) e, c⟩, r⟩
 | rng lo hi => obtain ⟨t, u, v, e⟩ := x; exact ⟨t, u, v, k _ _ (.inl rfl) e⟩
 | frz ob u ih => obtain ⟨e, q⟩ := x; exact ⟨k _ _ (.inl rfl) e, ih q⟩
 | tbl ps =>
  have e : h.get? a = some { cls := .none, data := .fields ps } := x
  show h'.get? a = some { cls := .none, data := .fields ps }
  exact k a _ (.inl rfl) e
 | met f y =>
  have e : h.get? a = some (PySem.W.methodObj (.ref f) (.ref y)) := x
  show h'.get? a = some (PySem.W.methodObj (.ref f) (.ref y))
  exact k a _ (.inl rfl) e
 | ext φ => obtain ⟨p, ⟨o, e⟩, st⟩ := x; exact ⟨st _ _ p fun o q => k _ _ (.inl rfl) q, ⟨o, k _ _ (.inl rfl) e⟩, st⟩
theorem HOk.lt (x : HOk P w H h) (e : H a = some o) : a < h.objs.size := (x a o e).lt
theorem HOk.fresh (x : HOk P w H h) (e : h.objs.size <= a) : H a = none := by
 cases q : H a with
 | none => rfl
 | some u => exact absurd (Nat.lt_of_lt_of_le (x.lt q) e) (Nat.lt_irrefl _)
theorem HOk.kept (x : HOk P w H h) (k : ∀ b u, h.get? b = some u -> h'.get? b = some u) : HOk P w H h' := fun a o e =>
 (x a o e).stay (fun b u _ q => k b u q) (fun _ q => q) fun _ _ q => q
theorem HOk.laid (x : HOk P w H h) (k : ∀ b u, h.get? b = some u -> h'.get? b = some u) (hp : h.objs.size <= a) (new : b2u P w (upd H a o) h' a o) : HOk P w (upd H a o) h' := fun b u e => by
 have hn := x.fresh hp
 by_cases hb : b = a
 ·subst hb; rw [a6g] at e; cases e; exact new
 ·rw [a2u hb] at e
  exact (x b u e).stay (fun c v _ q => k c v q) (fun c q => by rw [a2u (a3i q hn)]; exact q) fun c xs q => by rw [a2u (a3i q hn)]; exact q
end
noncomputable def Rd (H : Hp) (a : Addr) (u : HO) : Prop := H a = some u \/ ∃ o, H a = some (.frz o u)
theorem Rd.of {H : Hp} {a : Addr} {u : HO} (h : H a = some u) : Rd H a u := .inl h
theorem Rd.ok {P : Program} {w : World} {H : Hp} {h : Heap} {a : Addr} {u : HO} (r : Rd H a u) (x : HOk P w H h) : b2u P w H h a u := by
 rcases r with r | ⟨o, r⟩
 ·exact x a u r
 ·obtain ⟨_, q⟩ := x a _ r
  exact q
noncomputable def Mut : Option HO -> Prop
 | some (.lst _) => True
 | some (.dK _) => True
 | some (.dT _) => True
 | some (.set _ _) => True
 | some (.ins _ _ _) => True
 | some (.ext _) => True
 | _ => False
section
variable {P : Program} {w : World} {H : Hp} {h h' : Heap} {x e : Addr} {o' : HO}
theorem HOk.write (ok : HOk P w H h) (mu : Mut (H x)) (he : e = x \/ H e = some (.own x)) (k : ∀ b u, b ≠ e -> h.get? b = some u -> h'.get? b = some u) (heo : ∃ u, h'.get? e = some u)
  (new : b2u P w (upd H x o') h' x o') : HOk P w (upd H x o') h' := fun b u q => by
 have h5f : ∀ c y, H c = some (.own y) -> c ≠ x := fun c y r z => by subst z; rw [r] at mu; exact mu
 have ntup : ∀ c xs, H c = some (.tup xs) -> c ≠ x := fun c xs r z => by subst z; rw [r] at mu; exact mu
 by_cases hb : b = x
 ·subst hb; rw [a6g] at q; cases q; exact new
 ·rw [a2u hb] at q
  by_cases hbe : b = e
  ·have q' : H b = some (.own x) := by
    rcases he with z | z
    ·exact absurd (hbe.trans z) hb
    ·rw [hbe]; exact z
   rw [q] at q'; cases q'
   obtain ⟨v, hv⟩ := heo
   exact ⟨v, by rw [hbe]; exact hv⟩
  ·refine (ok b u q).stay (fun c v hc r => k c v ?_ r) (fun c r => by rw [a2u (h5f c b r)]; exact r) fun c xs r => by rw [a2u (ntup c xs r)]; exact r
   rcases hc with rfl | hc
   ·exact hbe
   ·rintro rfl
    rcases he with z | z
    ·exact h5f c b hc z
    ·rw [hc] at z; cases z; exact hb rfl
end
structure Un (fs ex : List Addr) (H H' : Hp) (h h' : Heap) : Prop where
 keep : ∀ b o, h.get? b = some o -> H b = none -> b ∉ fs -> b ∉ ex -> h'.get? b = some o
 slot : ∀ b o, h.get? b = some o -> H b = none -> b ∈ fs -> b ∉ ex -> ∃ sl, h'.get? b = some { o with slots := sl }
 free : ∀ b o, h.get? b = some o -> H b = none -> b ∉ ex -> H' b = none
 there : ∀ b o, h.get? b = some o -> b ∉ ex -> ∃ o', h'.get? b = some o'
 tups : ∀ b xs, H b = some (.tup xs) -> H' b = some (.tup xs)
 d7p : ∀ b o u, H b = some (.frz o u) -> H' b = some (.frz o u)
 d9w : ∀ b ps, H b = some (.tbl ps) -> ∃ more, H' b = some (.tbl (ps ++ more))
section
variable {fs fs' ex ex' : List Addr} {H H1 H2 : Hp} {h h1 h2 h' : Heap} {a x e : Addr} {o : HO}
theorem Un.any (u : Un fs ex H H1 h h1) {b : Addr} {ob : Obj} (q : h.get? b = some ob) (n : H b = none) (hx : b ∉ ex) : ∃ sl, h1.get? b = some { ob with slots := sl } := by
 by_cases hb : b ∈ fs
 ·exact u.slot b ob q n hb hx
 ·exact ⟨ob.slots, u.keep b ob q n hb hx⟩
theorem Un.trans (a : Un fs ex H H1 h h1) (b : Un fs ex H1 H2 h1 h2) : Un fs ex H H2 h h2 where
 keep := fun c ob q n hc hx => b.keep c ob (a.keep c ob q n hc hx) (a.free c ob q n hx) hc hx
 slot := fun c ob q n hc hx => by
  obtain ⟨sl, e1⟩ := a.slot c ob q n hc hx
  obtain ⟨sl', e2⟩ := b.slot c _ e1 (a.free c ob q n hx) hc hx
  exact ⟨sl', e2⟩
 free := fun c ob q n hx => by
  obtain ⟨o', e1⟩ := a.there c ob q hx
  exact b.free c o' e1 (a.free c ob q n hx) hx
 there := fun c ob q hx => by
  obtain ⟨o', e1⟩ := a.there c ob q hx
  exact b.there c o' e1 hx
 tups := fun c xs q => b.tups c xs (a.tups c xs q)
 d7p := fun c ob xs q => b.d7p c ob xs (a.d7p c ob xs q)
 d9w := fun c ps q => by
  obtain ⟨m1, e1⟩ := a.d9w c ps q
  obtain ⟨m2, e2⟩ := b.d9w c _ e1
  exact ⟨m1 ++ m2, by rw [e2, Array.append_assoc]⟩
theorem Un.kept (k : ∀ b u, h.get? b = some u -> h'.get? b = some u) : Un fs ex H H h h' :=
 ⟨fun b ob q _ _ _ => k b ob q, fun b ob q _ _ _ => ⟨ob.slots, k b ob q⟩, fun _ _ _ n _ => n, fun b ob q _ => ⟨ob, k b ob q⟩, fun _ _ q => q, fun _ _ _ q => q, fun _ ps q => ⟨#[], by rw [q]; simp⟩⟩
theorem Un.refl : Un fs ex H H h h := Un.kept fun _ _ q => q
theorem Un.laid (k : ∀ b u, h.get? b = some u -> h'.get? b = some u) (hp : h.objs.size <= a) (hn : H a = none) : Un fs ex H (upd H a o) h h' where
 keep := fun b u q _ _ _ => k b u q
 slot := fun b u q _ _ _ => ⟨u.slots, k b u q⟩
 free := fun b u q n _ => by rw [a2u (Nat.ne_of_lt (Nat.lt_of_lt_of_le (Heap.lt_size q) hp))]; exact n
 there := fun b u q _ => ⟨u, k b u q⟩
 tups := fun b xs q => by rw [a2u (a3i q hn)]; exact q
 d7p := fun b u xs q => by rw [a2u (a3i q hn)]; exact q
 d9w := fun b ps q => ⟨#[], by rw [a2u (a3i q hn), q]; simp⟩
theorem Un.write (mu : Mut (H x)) (he : e = x \/ H e = some (.own x)) (k : ∀ b u, b ≠ e -> h.get? b = some u -> h'.get? b = some u) (heo : ∃ u, h'.get? e = some u) : Un fs ex H (upd H x o) h h' := by
 have hx : ∀ b, H b = none -> b ≠ x := fun b n z => by subst z; rw [n] at mu; exact mu
 have hb : ∀ b, H b = none -> b ≠ e := fun b n z => by
  subst z
  rcases he with r | r
  ·exact hx b n r
  ·rw [n] at r; cases r
 have hm : ∀ b u, H b = some u -> ¬ Mut (some u) -> b ≠ x := fun b u q nm z => by subst z; rw [q] at mu; exact nm mu
 refine ⟨fun b u q n _ _ => k b u (hb b n) q, fun b u q n _ _ => ⟨u.slots, k b u (hb b n) q⟩, fun b u q n _ => by rw [a2u (hx b n)]; exact n, fun b u q _ => ?_,
  fun b xs q => by rw [a2u (hm b _ q fun z => z)]; exact q, fun b u xs q => by rw [a2u (hm b _ q fun z => z)]; exact q, fun b ps q => ⟨#[], by rw [a2u (hm b _ q fun z => z), q]; simp⟩⟩
 by_cases hbe : b = e
 ·subst hbe; exact heo
 ·exact ⟨u, k b u hbe q⟩
theorem Un.mono (u : Un fs ex H H1 h h1) (hs : ∀ b ∈ fs, b ∈ fs') (hx : ∀ b ∈ ex, b ∈ ex') : Un fs' ex' H H1 h h1 :=
 ⟨fun b ob q n hb he => u.keep b ob q n (fun z => hb (hs b z)) fun z => he (hx b z), fun _ _ q n _ he => u.any q n fun z => he (hx _ z), fun b ob q n he => u.free b ob q n fun z => he (hx b z), fun b ob q he => u.there b ob q fun z => he (hx b z), u.tups, u.d7p, u.d9w⟩
end
noncomputable def trk (h : Heap) (H : Hp) : List Addr := (List.range h.objs.size).filter fun a => (H a).isSome
noncomputable def g0r (h : Heap) (H : Hp) : Heap := PySem.W.hideAll h (trk h H)
theorem f4s (h : Heap) (H : Hp) : (g0r h H).objs.size = h.objs.size := PySem.W.hideAll_size _ _
theorem g0s {h : Heap} {H : Hp} {b : Addr} {o : Obj} (e : h.get? b = some o) (n : H b = none) : (g0r h H).get? b = some o :=
 PySem.W.hideAll_get _ e fun hm => by
  have q : (H b).isSome = true := (List.mem_filter.mp hm).2
  rw [n] at q; simp at q
theorem g4m {h : Heap} {H : Hp} {b : Addr} {o : Obj} (e : (g0r h H).get? b = some o) : h.get? b = some o /\ H b = none := by
 have e' : h.get? b = some o := PySem.W.of_hideAll (trk h H) e
 refine ⟨e', ?_⟩
 cases q : H b with
 | none => rfl
 | some x =>
  have hm : b ∈ trk h H := List.mem_filter.mpr ⟨List.mem_range.mpr (Heap.lt_size e'), by simp [q]⟩
  have z : (g0r h H).get? b = none := PySem.W.hideAll_none (trk h H) hm
  rw [z] at e; cases e
noncomputable def g4n (g h : Heap) (L : Addr) : List (Addr × Obj) := (List.range h.objs.size).filterMap fun a => if a = L \/ (g.get? a).isSome = true then none else (h.get? a).map fun o => (a, o)
noncomputable def rest (g h : Heap) (L d : Addr) : List (Addr × Obj) := (g4n g h L).filter fun p => decide (p.1 ≠ d)
end L2
namespace L2
open PySem PySem.Spec PyProof.Rows
structure Mod (K : PySem.W.Frag) (mg : Str -> Option Value) (base : Heap) : Prop where
 kin : K.In base
 glob : base.Ns mainGlobals mg
 blt : ∃ mb, base.Ns builtinsNs mb ∧ ∀ x : Str, x ≠ "__name__" → mb x = bootBuiltins x
 nolimit : base.NoLimit
/-- the context: a def's body (or a comprehension's block) running. base: fixed through the whole law; s₀, H₀: the entry; outer: the frames whose slots others may change (a def's callers); stack: all frames that run;
  ex: iterators that were made ahead of the entry and are walked here (a comprehension's); fn: the names whose cells were made at the entry (a def: all; a comprehension's block: its own); calm: not within an except suite; pn: pins that every state bears; xe: what is wanted of an exception that leaves the code -/
structure Cx where
 prog : Program
 w : World
 K : PySem.W.Frag
 mg : Str -> Option Value
 base : Heap
 A : Around
 N : List Str
 s₀ : Shared
 H₀ : Hp
 env : Env
 outer : List Env
 stack : List Env
 ex : List Addr
 fn : Str -> Bool
 calm : Bool
 pn : List (Addr × Obj)
 xe : Value -> Shared -> Prop
noncomputable def frs (l : List Env) : List Addr := l.filterMap (·.frame)
noncomputable abbrev Cx.fs (X : Cx) : List Addr := frs X.outer
noncomputable def Vis (sc : Scope) (x : Str) : Prop := sc.names.lookup x = some .local \/ sc.names.lookup x = some .cell \/ sc.names.lookup x = some .free
noncomputable def Loc (sc : Scope) (x : Str) : Prop := sc.names.lookup x = some .local \/ sc.names.lookup x = some .cell
noncomputable def Look (env : Env) (h : Heap) (m : Str -> Option Value) (x : Str) (u : Value) : Prop :=
 (env.kindOf x = some .local /\ m x = some u) \/ ((env.kindOf x = some .cell \/ env.kindOf x = some .free) /\ ∃ c, env.cells.lookup x = some c /\ h.IsCell c (some u))
structure Cx.Ok (X : Cx) : Prop where
 mod : Mod X.K X.mg X.base
 kind : X.env.scope.kind = .function
 glob : X.env.globals = mainGlobals
 blt : X.env.builtins = builtinsNs
 above : X.s₀.heap.objs.size <= X.env.locals
 inj : ∀ x y c, X.env.cells.lookup x = some c -> X.env.cells.lookup y = some c -> x = y
 has : ∀ x, (X.env.kindOf x = some .cell \/ X.env.kindOf x = some .free) -> ∃ c, X.env.cells.lookup x = some c
 cab : ∀ x c, X.fn x = true -> X.env.cells.lookup x = some c -> X.s₀.heap.objs.size <= c
 hd : X.calm = true -> X.A.handled = none
 frames : X.A.frames = some X.stack
 stk : X.stack = X.outer \/ (X.stack = X.env :: X.outer /\ X.env.frame = some X.env.locals)
 exf : ∀ b ∈ X.ex, b ≠ X.env.locals /\ ∀ x c, X.env.cells.lookup x = some c -> c ≠ b
 bs : ∀ b o, X.base.get? b = some o -> X.s₀.heap.get? b = some o /\ X.H₀ b = none
 bsz : X.base.objs.size <= X.s₀.heap.objs.size
 g6x : ∀ b o, X.base.get? b = some o -> b ∉ X.ex
 g7k : ∀ b ∈ X.ex, b ∉ X.fs
 d9y : X.s₀.heap.FunFrames X.base X.outer
 frf : ∀ b ∈ X.fs, X.H₀ b = none
structure Inv (X : Cx) (pins : List (Addr × Obj)) (σ : List (Option V)) (H : Hp) (s : Shared) : Prop where
 ok : X.Ok
 os : s.os = X.s₀.os
 bare : AllBare s.gens
 base : Un X.fs X.ex X.H₀ H X.s₀.heap s.heap
 loc : ∃ m, s.heap.Ns X.env.locals m /\ ∀ (i : Nat) (x : Str) (v : V), X.N[i]? = some x -> σ[i]? = some (some v) -> Vis X.env.scope x -> ∃ u, RelV v u /\ Look X.env s.heap m x u
 cell : ∀ x c, X.env.cells.lookup x = some c -> ∃ v, s.heap.IsCell c v
 free : H X.env.locals = none
 c4o : ∀ x c, X.env.cells.lookup x = some c -> H c = none
 pin : ∀ p ∈ X.pn ++ pins, s.heap.get? p.1 = some p.2 /\ H p.1 = none /\ p.1 ≠ X.env.locals /\ p.1 ∉ X.fs /\ ∀ v, p.2.data ≠ .cell v
 hok : HOk X.prog X.w H s.heap
 len : σ.length = X.N.length
section
variable {X : Cx} {pins : List (Addr × Obj)} {σ : List (Option V)} {H H' : Hp} {s : Shared} {h' : Heap}
theorem Cx.Ok.nofr (ok : X.Ok) {b : Addr} {o : Obj} (e : X.base.get? b = some o) : b ∉ X.fs := fun hb => by
 have := (ok.d9y.mem hb).1
 rw [e] at this; cases this
theorem Inv.bs (I : Inv X pins σ H s) : ∀ b o, X.base.get? b = some o -> s.heap.get? b = some o /\ H b = none := fun b o e =>
 ⟨I.base.keep b o (I.ok.bs b o e).1 (I.ok.bs b o e).2 (I.ok.nofr e) (I.ok.g6x b o e), I.base.free b o (I.ok.bs b o e).1 (I.ok.bs b o e).2 (I.ok.g6x b o e)⟩
theorem Inv.bk (I : Inv X pins σ H s) : ∀ b o, X.base.get? b = some o -> s.heap.get? b = some o := fun b o e => (I.bs b o e).1
theorem Inv.mod (I : Inv X pins σ H s) : Mod X.K X.mg X.base := I.ok.mod
theorem Inv.kIn (I : Inv X pins σ H s) : X.K.In s.heap := I.ok.mod.kin.keeps I.bk
theorem Inv.nolimit (I : Inv X pins σ H s) : s.heap.NoLimit := I.ok.mod.nolimit.keeps I.bk
theorem Inv.fr (I : Inv X pins σ H s) : ∃ m, Fr X.base X.env.locals s.heap m :=
 let ⟨m, hn, _⟩ := I.loc
 ⟨m, hn, I.bk, Nat.le_trans I.ok.bsz I.ok.above⟩
theorem Inv.lt (I : Inv X pins σ H s) : X.env.locals < s.heap.objs.size := let ⟨_, hn, _⟩ := I.loc; hn.lt
theorem Inv.sz (I : Inv X pins σ H s) : X.s₀.heap.objs.size <= s.heap.objs.size := Nat.le_trans I.ok.above (Nat.le_of_lt I.lt)
theorem Inv.nofs (I : Inv X pins σ H s) {a : Addr} (h : s.heap.objs.size <= a) : a ∉ X.fs := fun hb => by
 obtain ⟨_, o, ho, _⟩ := I.ok.d9y.mem hb
 exact absurd (Nat.lt_of_lt_of_le (Heap.lt_size ho) (Nat.le_trans I.sz h)) (Nat.lt_irrefl _)
theorem Inv.cne (I : Inv X pins σ H s) : ∀ x c, X.env.cells.lookup x = some c -> c ≠ X.env.locals := fun x c e z => by
 obtain ⟨v, o, ho, hd⟩ := I.cell x c e
 obtain ⟨m, ⟨o', es, ep, ho', hd', _⟩, _⟩ := I.loc
 rw [z, ho'] at ho; cases ho; rw [hd'] at hd; cases hd
theorem Inv.d9y (I : Inv X pins σ H s) : s.heap.FunFrames X.base X.outer := by
 have all : ∀ (l : List Env), (∀ b ∈ frs l, b ∈ X.fs) -> X.s₀.heap.FunFrames X.base l -> s.heap.FunFrames X.base l := by
  intro l
  induction l with
  | nil => intro _ _; trivial
  | cons env r ih =>
   intro hs hl
   obtain ⟨hk, ⟨L, o, hf, hn, ho, hd⟩, hr⟩ := hl
   have hL : L ∈ X.fs := hs L (by unfold frs; rw [List.filterMap_cons, hf]; exact List.mem_cons_self)
   obtain ⟨sl, e⟩ := I.base.slot L o ho (I.ok.frf L hL) hL fun z => I.ok.g7k L z hL
   exact ⟨hk, ⟨L, _, hf, hn, e, hd⟩, ih (fun b hb => hs b (by unfold frs; rw [List.filterMap_cons, hf]; exact List.mem_cons_of_mem _ hb)) hr⟩
 exact all X.outer (fun _ hb => hb) I.ok.d9y
theorem Inv.stack (I : Inv X pins σ H s) : s.heap.FunFrames X.base X.stack := by
 rcases I.ok.stk with e | ⟨e, hf⟩
 ·rw [e]; exact I.d9y
 ·rw [e]
  obtain ⟨m, hn, _⟩ := I.loc
  refine .cons (by rw [I.ok.kind]; decide) hf hn ?_ I.d9y
  exact Heap.get?_none_of_le (Nat.le_trans I.ok.bsz I.ok.above)
theorem Inv.d9z (I : Inv X pins σ H s) : ∀ b ∈ frs X.stack, b ∈ X.env.locals :: X.fs := fun b hb => by
 rcases I.ok.stk with e | ⟨e, hf⟩
 ·rw [e] at hb; exact List.mem_cons_of_mem _ hb
 ·rw [e] at hb
  unfold frs at hb
  rw [List.filterMap_cons, hf] at hb
  exact hb
theorem Inv.f4t (I : Inv X pins σ H s) : ∀ b ∈ frs X.stack, H b = none := fun b hb => by
 rcases List.mem_cons.mp (I.d9z b hb) with e | hb
 ·rw [e]; exact I.free
 ·obtain ⟨_, o, ho, _⟩ := I.ok.d9y.mem hb
  exact I.base.free b o ho (I.ok.frf b hb) fun z => I.ok.g7k b z hb
theorem Inv.step {g' : Array GenState} {t' : Nat} {d' : Drawn} {ch : List Addr} (I : Inv X pins σ H s)
  (hch : ∀ b ∈ ch, (b ∈ X.ex \/ X.s₀.heap.objs.size <= b) /\ b ≠ X.env.locals /\ (∀ x c, X.env.cells.lookup x = some c -> c ≠ b) /\ ∀ p ∈ X.pn ++ pins, p.1 ≠ b)
  (keep : ∀ b o, b ≠ X.env.locals -> b ∉ X.fs -> b ∉ ch -> s.heap.get? b = some o -> H b = none -> h'.get? b = some o)
  (slot : ∀ b o, b ≠ X.env.locals -> b ∈ X.fs -> b ∉ ch -> s.heap.get? b = some o -> H b = none -> ∃ sl, h'.get? b = some { o with slots := sl }) (free : ∀ b o, b ∉ ch -> s.heap.get? b = some o -> H b = none -> H' b = none)
  (there : ∀ b o, b ∉ ch -> s.heap.get? b = some o -> ∃ o', h'.get? b = some o')
  (tups : ∀ b xs, H b = some (.tup xs) -> H' b = some (.tup xs)) (d7p : ∀ b o u, H b = some (.frz o u) -> H' b = some (.frz o u)) (d9w : ∀ b ps, H b = some (.tbl ps) -> ∃ more, H' b = some (.tbl (ps ++ more)))
  (ns : ∀ m, s.heap.Ns X.env.locals m -> h'.Ns X.env.locals m) (hok : HOk X.prog X.w H' h') (hg : AllBare g') :
  Inv X pins σ H' { s with heap := h', gens := g', drawn := d', toks := t' } := by
 have neL : ∀ b o, X.s₀.heap.get? b = some o -> b ≠ X.env.locals := fun b o e => Nat.ne_of_lt (Nat.lt_of_lt_of_le (Heap.lt_size e) I.ok.above)
 have neC : ∀ b o, X.s₀.heap.get? b = some o -> b ∉ X.ex -> b ∉ ch := fun b o e hx hb => by
  rcases (hch b hb).1 with z | z
  ·exact hx z
  ·exact absurd (Nat.lt_of_lt_of_le (Heap.lt_size e) z) (Nat.lt_irrefl _)
 have cellK : ∀ x c, X.env.cells.lookup x = some c -> ∀ v, s.heap.IsCell c v -> h'.IsCell c v := fun x c e v ⟨o, ho, hd⟩ => by
  have nch : c ∉ ch := fun z => (hch c z).2.2.1 x c e rfl
  by_cases hc : c ∈ X.fs
  ·obtain ⟨sl, q⟩ := slot c o (I.cne x c e) hc nch ho (I.c4o x c e)
   exact ⟨_, q, hd⟩
  ·exact ⟨o, keep c o (I.cne x c e) hc nch ho (I.c4o x c e), hd⟩
 refine ⟨I.ok, I.os, hg, ⟨fun b o e n hb hx => ?_, fun b o e n hb hx => ?_, fun b o e n hx => ?_, fun b o e hx => ?_, fun b xs e => tups b xs (I.base.tups b xs e), fun b o xs e => d7p b o xs (I.base.d7p b o xs e), fun b ps e => ?_⟩, ?_, fun x c e => ?_, ?_, fun x c e => ?_, fun p hp => ?_, hok, I.len⟩
 ·exact keep b o (neL b o e) hb (neC b o e hx) (I.base.keep b o e n hb hx) (I.base.free b o e n hx)
 ·obtain ⟨sl, e1⟩ := I.base.slot b o e n hb hx
  obtain ⟨sl', e2⟩ := slot b _ (neL b o e) hb (neC b o e hx) e1 (I.base.free b o e n hx)
  exact ⟨sl', e2⟩
 ·obtain ⟨o', e1⟩ := I.base.there b o e hx
  exact free b o' (neC b o e hx) e1 (I.base.free b o e n hx)
 ·obtain ⟨o', e1⟩ := I.base.there b o e hx
  exact there b o' (neC b o e hx) e1
 ·obtain ⟨m1, e1⟩ := I.base.d9w b ps e
  obtain ⟨m2, e2⟩ := d9w b _ e1
  exact ⟨m1 ++ m2, by rw [e2, Array.append_assoc]⟩
 ·obtain ⟨m, hn, hl⟩ := I.loc
  refine ⟨m, ns m hn, fun i x v e1 e2 e3 => ?_⟩
  obtain ⟨u, r, l⟩ := hl i x v e1 e2 e3
  refine ⟨u, r, ?_⟩
  rcases l with l | ⟨k, c, e, z⟩
  ·exact .inl l
  ·exact .inr ⟨k, c, e, cellK x c e _ z⟩
 ·obtain ⟨v, z⟩ := I.cell x c e
  exact ⟨v, cellK x c e v z⟩
 ·obtain ⟨m, ⟨o, _, _, ho, _⟩, _⟩ := I.loc
  exact free _ o (fun z => (hch _ z).2.1 rfl) ho I.free
 ·obtain ⟨v, o, ho, hd⟩ := I.cell x c e
  exact free c o (fun z => (hch c z).2.2.1 x c e rfl) ho (I.c4o x c e)
 ·obtain ⟨e, n, ne, nf, d⟩ := I.pin p hp
  have nch : p.1 ∉ ch := fun z => (hch p.1 z).2.2.2 p hp rfl
  exact ⟨keep p.1 p.2 ne nf nch e n, free p.1 p.2 nch e n, ne, nf, d⟩
theorem Inv.un {t' : Nat} (I : Inv X pins σ H s) (u : Un X.fs [] H H' s.heap h') (hok : HOk X.prog X.w H' h') : Inv X pins σ H' { s with heap := h', toks := t' } := by
 obtain ⟨m, ⟨o, es, ep, ho, r⟩, _⟩ := id I.loc
 obtain ⟨sl, hL⟩ := u.any ho I.free (by simp)
 exact I.step (g' := s.gens) (d' := s.drawn) (ch := []) (fun _ z => nomatch z) (fun b o _ hb _ e n => u.keep b o e n hb (by simp)) (fun b o _ hb _ e n => u.slot b o e n hb (by simp)) (fun b o _ e n => u.free b o e n (by simp)) (fun b o _ e => u.there b o e (by simp)) u.tups u.d7p u.d9w (fun m' hm => by
  obtain ⟨o', es', ep', ho', r'⟩ := hm
  rw [ho] at ho'; cases ho'
  exact ⟨_, es', ep', hL, r'⟩) hok I.bare
theorem Inv.call {g' : Array GenState} {t' : Nat} {d' : Drawn} {ch : List Addr} (I : Inv X pins σ H s) (u : Un (frs X.stack) ch H H' s.heap h') (hok : HOk X.prog X.w H' h') (hg : AllBare g')
  (hch : ∀ b ∈ ch, (b ∈ X.ex \/ X.s₀.heap.objs.size <= b) /\ b ≠ X.env.locals /\ (∀ x c, X.env.cells.lookup x = some c -> c ≠ b) /\ ∀ p ∈ X.pn ++ pins, p.1 ≠ b) :
  Inv X pins σ H' { s with heap := h', gens := g', drawn := d', toks := t' } := by
 obtain ⟨m, ⟨o, es, ep, ho, r⟩, _⟩ := id I.loc
 obtain ⟨sl, hL⟩ := u.any ho I.free fun z => (hch _ z).2.1 rfl
 exact I.step (ch := ch) hch (fun b o hL hb hc e n => u.keep b o e n (fun z => (List.mem_cons.mp (I.d9z b z)).elim hL hb) hc) (fun b o _ _ hc e n => u.any e n hc) (fun b o hc e n => u.free b o e n hc) (fun b o hc e => u.there b o e hc) u.tups u.d7p u.d9w (fun m' hm => by
  obtain ⟨o', es', ep', ho', r'⟩ := hm
  rw [ho] at ho'; cases ho'
  exact ⟨_, es', ep', hL, r'⟩) hok hg
theorem Inv.turned {t' : Nat} {it : Addr} (I : Inv X pins σ H s) (k : ∀ b o, b ≠ it -> s.heap.get? b = some o -> h'.get? b = some o) (hn : H it = none) (hL : it ≠ X.env.locals)
  (h1 : it ∈ X.ex \/ X.s₀.heap.objs.size <= it) (h2 : ∀ x c, X.env.cells.lookup x = some c -> c ≠ it) (h3 : ∀ p ∈ X.pn ++ pins, p.1 ≠ it) : Inv X pins σ H { s with heap := h', toks := t' } := by
 have nit : ∀ b u, H b = some u -> b ≠ it := fun b u e z => by rw [z, hn] at e; cases e
 refine I.step (g' := s.gens) (d' := s.drawn) (ch := [it]) (fun b hb => ?_) (fun b o _ _ hc e _ => k b o (fun z => hc (by simp [z])) e) (fun b o _ _ hc e _ => ⟨o.slots, k b o (fun z => hc (by simp [z])) e⟩) (fun _ _ _ _ n => n)
  (fun b o hc e => ⟨o, k b o (fun z => hc (by simp [z])) e⟩) (fun _ _ e => e) (fun _ _ _ e => e) (fun b ps e => ⟨#[], by rw [e]; simp⟩) (fun m hm => ?_) (fun b u e => ?_) I.bare
 ·have e : b = it := by simpa using hb
  subst e
  exact ⟨h1, hL, h2, h3⟩
 ·obtain ⟨o, es, ep, ho, r⟩ := hm
  exact ⟨o, es, ep, k _ o (Ne.symm hL) ho, r⟩
 ·refine (I.hok b u e).stay (fun c v hc q => k c v ?_ q) (fun _ q => q) fun _ _ q => q
  rcases hc with z | z
  ·rw [z]; exact nit b u e
  ·exact nit c _ z
theorem Inv.tok (I : Inv X pins σ H s) (t : Nat) : Inv X pins σ H { s with toks := t } := I.un (h' := s.heap) (t' := t) Un.refl I.hok
theorem Inv.kept {t' : Nat} (I : Inv X pins σ H s) (k : ∀ b u, s.heap.get? b = some u -> h'.get? b = some u) : Inv X pins σ H { s with heap := h', toks := t' } := I.un (Un.kept k) (I.hok.kept k)
theorem Inv.laid {a : Addr} {o : HO} {t' : Nat} (I : Inv X pins σ H s) (k : ∀ b u, s.heap.get? b = some u -> h'.get? b = some u) (hp : s.heap.objs.size <= a) (new : b2u X.prog X.w (upd H a o) h' a o) :
  Inv X pins σ (upd H a o) { s with heap := h', toks := t' } := I.un (Un.laid k hp (I.hok.fresh hp)) (I.hok.laid k hp new)
theorem Inv.write {x e : Addr} {o : HO} {t' : Nat} (I : Inv X pins σ H s) (mu : Mut (H x)) (he : e = x \/ H e = some (.own x)) (k : ∀ b u, b ≠ e -> s.heap.get? b = some u -> h'.get? b = some u) (heo : ∃ u, h'.get? e = some u)
  (new : b2u X.prog X.w (upd H x o) h' x o) : Inv X pins σ (upd H x o) { s with heap := h', toks := t' } := I.un (Un.write mu he k heo) (I.hok.write mu he k heo new)
theorem Inv.weak {σ' : List (Option V)} (I : Inv X pins σ H s) (hl : σ'.length = σ.length) (w : ∀ (i : Nat) v, σ'[i]? = some (some v) -> σ[i]? = some (some v)) : Inv X pins σ' H s :=
 ⟨I.ok, I.os, I.bare, I.base, let ⟨m, hn, hl'⟩ := I.loc; ⟨m, hn, fun i x v e1 e2 e3 => hl' i x v e1 (w i v e2) e3⟩, I.cell, I.free, I.c4o, I.pin, I.hok, hl.trans I.len⟩
theorem Inv.f4u {pins' : List (Addr × Obj)} (I : Inv X pins σ H s) (h : ∀ p ∈ pins', s.heap.get? p.1 = some p.2 /\ H p.1 = none /\ p.1 ≠ X.env.locals /\ p.1 ∉ X.fs /\ ∀ v, p.2.data ≠ .cell v) : Inv X pins' σ H s :=
 ⟨I.ok, I.os, I.bare, I.base, I.loc, I.cell, I.free, I.c4o, fun p hp => (List.mem_append.mp hp).elim (fun z => I.pin p (List.mem_append_left _ z)) (h p), I.hok, I.len⟩
theorem f0g {N : List Str} (hN : N.Nodup) {i j : Nat} {x : Str} (a : N[i]? = some x) (b : N[j]? = some x) : i = j := by
 obtain ⟨h1, e1⟩ := List.getElem?_eq_some_iff.mp a
 obtain ⟨h2, e2⟩ := List.getElem?_eq_some_iff.mp b
 exact (List.getElem_inj hN).mp (e1.trans e2.symm)
theorem d4p {M : Model} {A : Around} {E : Value -> Shared -> Prop} {i : Nat} {x : Str} {v : V} {u : Value} {Q : Unit -> Shared -> Prop} (I : Inv X pins σ H s) (hN : X.N.Nodup) (hi : X.N[i]? = some x) (hx : Loc X.env.scope x) (r : RelV v u)
  (h : ∀ s', Inv X pins (σ.set i (some v)) H s' -> (∃ a, Heap.SameBut a s.heap s'.heap /\ (a = X.env.locals \/ X.env.cells.lookup x = some a)) -> Q () s') (hf : X.fn x = true \/ X.env.scope.names.lookup x = some .local := by first | exact .inl rfl | exact .inr rfl | assumption) : wpAny M A (storeName X.env x u) Q E s := by
 obtain ⟨m, hn, hl⟩ := id I.loc
 have hcls : (X.env.scope.kind == .class || (X.env.scope.kind == .module && X.env.locals != X.env.globals)) = false := by rw [I.ok.kind]; rfl
 have hiσ : i < σ.length := by rw [I.len]; exact (List.getElem?_eq_some_iff.mp hi).1
 have cne := I.cne
 have tracked : ∀ {a : Addr} {h' : Heap}, (∃ o, s.heap.get? a = some o /\ H a = none) -> Heap.SameBut a s.heap h' -> HOk X.prog X.w H h' := fun {a h'} ha hs b ob e => by
  obtain ⟨_, _, hfree⟩ := ha
  refine (I.hok b ob e).stay (fun c w' hc q => (hs.2 c ?_).trans q) (fun _ q => q) fun _ _ q => q
  rintro rfl
  rcases hc with rfl | hc
  ·rw [hfree] at e; cases e
  ·rw [hfree] at hc; cases hc
 rcases hx with hk | hk
 ·refine wpAny_storeName_local hk hn (fun h' hn' hs => ?_) hcls
  obtain ⟨oL, _, _, hoL, _⟩ := id hn
  refine h _ ⟨I.ok, I.os, I.bare, ⟨fun b o e n hb hx => ?_, fun b o e n hb hx => ?_, I.base.free, fun b o e hx => ?_, I.base.tups, I.base.d7p, I.base.d9w⟩, ⟨_, hn', fun j y v' e1 e2 e3 => ?_⟩, fun y c e => ?_, I.free, I.c4o, fun p hp => ?_, tracked ⟨oL, hoL, I.free⟩ hs, by simpa using I.len⟩ ⟨_, hs, .inl rfl⟩
  ·exact (hs.2 b (Nat.ne_of_lt (Nat.lt_of_lt_of_le (Heap.lt_size e) I.ok.above))).trans (I.base.keep b o e n hb hx)
  ·obtain ⟨sl, e1⟩ := I.base.slot b o e n hb hx
   exact ⟨sl, (hs.2 b (Nat.ne_of_lt (Nat.lt_of_lt_of_le (Heap.lt_size e) I.ok.above))).trans e1⟩
  ·obtain ⟨o', e1⟩ := I.base.there b o e hx
   exact ⟨o', (hs.2 b (Nat.ne_of_lt (Nat.lt_of_lt_of_le (Heap.lt_size e) I.ok.above))).trans e1⟩
  ·by_cases hj : j = i
   ·subst hj
    rw [hi] at e1; cases e1
    rw [List.getElem?_set_self hiσ] at e2
    cases e2
    exact ⟨u, r, .inl ⟨hk, by simp⟩⟩
   ·rw [List.getElem?_set_ne (Ne.symm hj)] at e2
    obtain ⟨u', r', q⟩ := hl j y v' e1 e2 e3
    refine ⟨u', r', ?_⟩
    rcases q with ⟨k, e⟩ | ⟨k, c, e, z⟩
    ·refine .inl ⟨k, ?_⟩
     have : y ≠ x := fun e => hj (f0g hN e1 (e ▸ hi))
     simp [this, e]
    ·exact .inr ⟨k, c, e, z.sameBut hs (cne y c e)⟩
  ·obtain ⟨w', z⟩ := I.cell y c e
   exact ⟨w', z.sameBut hs (cne y c e)⟩
  ·obtain ⟨e, n, ne, nf, d⟩ := I.pin p hp
   exact ⟨(hs.2 p.1 ne).trans e, n, ne, nf, d⟩
 ·have hfn : X.fn x = true := by
   rcases hf with z | z
   ·exact z
   ·rw [z] at hk; cases hk
  obtain ⟨c, hc⟩ := I.ok.has x (.inl hk)
  obtain ⟨w', z⟩ := I.cell x c hc
  refine wpAny_storeName_cell I.ok.kind hk hc z (fun h' hc' hs => ?_)
  obtain ⟨oc, hoc, hocd⟩ := id z
  refine h { s with heap := h' } ⟨I.ok, I.os, I.bare, ⟨fun b o e n hb hx => ?_, fun b o e n hb hx => ?_, I.base.free, fun b o e hx => ?_, I.base.tups, I.base.d7p, I.base.d9w⟩, ⟨m, hn.sameBut hs (Ne.symm (cne x c hc)), fun j y v' e1 e2 e3 => ?_⟩, fun y c' e => ?_, I.free, I.c4o, fun p hp => ?_, tracked ⟨oc, hoc, I.c4o x c hc⟩ hs, by simpa using I.len⟩ ⟨c, hs, .inr hc⟩
  ·exact (hs.2 b (Nat.ne_of_lt (Nat.lt_of_lt_of_le (Heap.lt_size e) (I.ok.cab x c hfn hc)))).trans (I.base.keep b o e n hb hx)
  ·obtain ⟨sl, e1⟩ := I.base.slot b o e n hb hx
   exact ⟨sl, (hs.2 b (Nat.ne_of_lt (Nat.lt_of_lt_of_le (Heap.lt_size e) (I.ok.cab x c hfn hc)))).trans e1⟩
  ·obtain ⟨o', e1⟩ := I.base.there b o e hx
   exact ⟨o', (hs.2 b (Nat.ne_of_lt (Nat.lt_of_lt_of_le (Heap.lt_size e) (I.ok.cab x c hfn hc)))).trans e1⟩
  ·by_cases hj : j = i
   ·subst hj
    rw [hi] at e1; cases e1
    rw [List.getElem?_set_self hiσ] at e2
    cases e2
    exact ⟨u, r, .inr ⟨.inl hk, c, hc, hc'⟩⟩
   ·rw [List.getElem?_set_ne (Ne.symm hj)] at e2
    obtain ⟨u', r', q⟩ := hl j y v' e1 e2 e3
    refine ⟨u', r', ?_⟩
    rcases q with q | ⟨k, c', e, z'⟩
    ·exact .inl q
    ·refine .inr ⟨k, c', e, z'.sameBut hs ?_⟩
     rintro rfl
     exact hj (f0g hN e1 (I.ok.inj _ _ _ e hc ▸ hi))
  ·by_cases hcc : c' = c
   ·subst hcc; exact ⟨_, hc'⟩
   ·obtain ⟨w2, z2⟩ := I.cell y c' e
    exact ⟨w2, z2.sameBut hs hcc⟩
  ·obtain ⟨e, n, ne, nf, d⟩ := I.pin p hp
   refine ⟨(hs.2 p.1 ?_).trans e, n, ne, nf, d⟩
   intro q
   rw [q, hoc] at e
   have q' : oc = p.2 := Option.some.inj e
   exact d w' (by rw [<- q']; exact hocd)
theorem f0h {M : Model} {A : Around} {E : Value -> Shared -> Prop} {i : Nat} {x : Str} {v : V} {u : Value} {Q : Unit -> Shared -> Prop} (I : Inv X pins σ H s) (hN : X.N.Nodup) (hi : X.N[i]? = some x) (hx : Loc X.env.scope x) (r : RelV v u)
  (h : ∀ s', Inv X pins (σ.set i (some v)) H s' -> Q () s') (hf : X.fn x = true \/ X.env.scope.names.lookup x = some .local := by first | exact .inl rfl | exact .inr rfl | assumption) : wpAny M A (storeName X.env x u) Q E s :=
 d4p I hN hi hx r (fun s' I' _ => h s' I') hf
theorem Inv.call' {s' : Shared} {ch : List Addr} (I : Inv X pins σ H s) (ho : s'.os = s.os) (u : Un (frs X.stack) ch H H' s.heap s'.heap) (hok : HOk X.prog X.w H' s'.heap) (hg : AllBare s'.gens)
  (hch : ∀ b ∈ ch, (b ∈ X.ex \/ X.s₀.heap.objs.size <= b) /\ b ≠ X.env.locals /\ (∀ x c, X.env.cells.lookup x = some c -> c ≠ b) /\ ∀ p ∈ X.pn ++ pins, p.1 ≠ b) : Inv X pins σ H' s' := by
 obtain ⟨h', g', d', t', o'⟩ := s'
 have e : o' = s.os := ho
 subst e
 exact I.call (g' := g') (t' := t') (d' := d') u hok hg hch
end
noncomputable abbrev XK := Value -> Option Addr -> Hp -> Prop
noncomputable abbrev St := List (Option V)
noncomputable abbrev VK := V -> Hp -> Prop
noncomputable abbrev TE := St -> Hp -> VK -> Prop
noncomputable abbrev TT := St -> Hp -> (Bool -> Hp -> Prop) -> Prop
noncomputable abbrev TA := St -> Hp -> (List V -> Hp -> Prop) -> Prop
structure Ends where
 nx : St -> Hp -> Prop
 rt : VK
 bk : St -> Hp -> Prop := fun _ _ => False
 ct : St -> Hp -> Prop := fun _ _ => False
noncomputable abbrev TS := Ends -> St -> Hp -> Prop
noncomputable def EP (X : Cx) (pins : List (Addr × Obj)) (σ : St) (Q : VK) (u : Value) (s' : Shared) : Prop := ∃ v H', Inv X pins σ H' s' /\ RelV v u /\ Q v H'
noncomputable def TP (X : Cx) (pins : List (Addr × Obj)) (σ : St) (Q : Bool -> Hp -> Prop) (b : Bool) (s' : Shared) : Prop := ∃ H', Inv X pins σ H' s' /\ Q b H'
noncomputable def AP (X : Cx) (pins : List (Addr × Obj)) (σ : St) (Q : List V -> Hp -> Prop) (us : List Value) (s' : Shared) : Prop := ∃ vs H', Inv X pins σ H' s' /\ Vals vs us /\ Q vs H'
noncomputable def SP (X : Cx) (pins : List (Addr × Obj)) (D : Ends) (f : Flow) (s' : Shared) : Prop :=
 match f with
 | .next => ∃ σ' H', Inv X pins σ' H' s' /\ D.nx σ' H'
 | .brk => ∃ σ' H', Inv X pins σ' H' s' /\ D.bk σ' H'
 | .cont => ∃ σ' H', Inv X pins σ' H' s' /\ D.ct σ' H'
 | .ret u => ∃ v σ' H', Inv X pins σ' H' s' /\ RelV v u /\ D.rt v H'
noncomputable def PE (X : Cx) (e : Expr) (t : TE) : Prop :=
 ∀ (pins : List (Addr × Obj)) (s : Shared) (σ : St) (H : Hp) (Q : VK), Inv X pins σ H s -> t σ H Q -> wpAny (model X.prog X.w) X.A (eval e X.env) (EP X pins σ Q) X.xe s
noncomputable def PT (X : Cx) (e : Expr) (t : TT) : Prop :=
 ∀ (pins : List (Addr × Obj)) (s : Shared) (σ : St) (H : Hp) (Q : Bool -> Hp -> Prop), Inv X pins σ H s -> t σ H Q -> wpAny (model X.prog X.w) X.A (isTrue e X.env (eval e X.env)) (TP X pins σ Q) X.xe s
noncomputable def PW (X : Cx) (e : Expr) (t : TT) : Prop :=
 ∀ (whole : Sem Value) (pins : List (Addr × Obj)) (s : Shared) (σ : St) (H : Hp) (Q : Bool -> Hp -> Prop), Inv X pins σ H s -> t σ H Q -> wpAny (model X.prog X.w) X.A (isTrue e X.env whole) (TP X pins σ Q) X.xe s
theorem PW.pt {X : Cx} {e : Expr} {t : TT} (h : PW X e t) : PT X e t := h _
noncomputable def PA (X : Cx) (es : List Expr) (t : TA) : Prop :=
 ∀ (pos : Pos) (pins : List (Addr × Obj)) (s : Shared) (σ : St) (H : Hp) (Q : List V -> Hp -> Prop), Inv X pins σ H s -> t σ H Q -> wpAny (model X.prog X.w) X.A (spliced (backTo pos (starEach es X.env))) (AP X pins σ Q) X.xe s
noncomputable def PS (X : Cx) (st : Stmt) (t : TS) : Prop :=
 ∀ (pins : List (Addr × Obj)) (s : Shared) (σ : St) (H : Hp) (D : Ends), Inv X pins σ H s -> t D σ H -> wpAny (model X.prog X.w) X.A (exec st X.env) (SP X pins D) X.xe s
noncomputable def PSs (X : Cx) (st : List Stmt) (t : TS) : Prop :=
 ∀ (pins : List (Addr × Obj)) (s : Shared) (σ : St) (H : Hp) (D : Ends), Inv X pins σ H s -> t D σ H -> wpAny (model X.prog X.w) X.A (execs st X.env) (SP X pins D) X.xe s
theorem thn {α : Type} {t : Sem α} {Q Q' : α -> Shared -> Prop} {M : Model} {A : Around} {E : Value -> Shared -> Prop} {s : Shared} (h : wpAny M A t Q E s) (hQ : ∀ a s, Q a s -> Q' a s) : wpAny M A t Q' E s := wpAny_mono h hQ fun _ _ x => x
end L2
namespace L2
open PySem PySem.Spec PyProof.Rows
section
variable {X : Cx}
noncomputable def tVar (i : Nat) : TE := fun σ H Q => ∃ v, σ[i]? = some (some v) /\ Q v H
noncomputable def tC (v : V) : TE := fun _ H Q => Q v H
theorem g7l {i : Nat} {x : Str} {pos : Pos} (hN : X.N[i]? = some x) (hv : Vis X.env.scope x) (hd : (x == ("__debug__" : Str)) = false := by decide) (hcd : (x == ("__classdict__" : Str)) = false := by decide) : PE X (.Name x pos) (tVar i) := by
 intro pins s σ H Q I h
 obtain ⟨v, e, h⟩ := h
 obtain ⟨m, hn, hl⟩ := I.loc
 obtain ⟨u, r, l⟩ := hl i x v hN e hv
 have fin : EP X pins σ Q u s := ⟨v, H, I, r, h⟩
 rcases l with ⟨hk, hm⟩ | ⟨hk, c, hc, hcell⟩
 ·exact wpAny_Name (wpAny_loadName_local I.ok.kind hk hn hm fin) hd
 ·rcases hk with hk | hk
  ·exact wpAny_Name (wpAny_loadName_cell I.ok.kind hk hc hcell fin) hd
  ·exact wpAny_Name (wpAny_loadName_free I.ok.kind hk hc hcell fin hcd) hd
theorem a0k {i j pos} : PE X (.Constant (.int i) j pos) (tC (.int i)) := fun _ _ _ H _ I h => wpAny_Constant_int ⟨.int i, H, I.tok _, ⟨_, rfl⟩, h⟩
theorem d7q {b j pos} : PE X (.Constant (.bool b) j pos) (tC (.bl b)) := fun _ _ _ H _ I h => Constant_bool ⟨.bl b, H, I, rfl, h⟩
theorem f4v {j pos} : PE X (.Constant .none j pos) (tC .non) := fun _ _ _ H _ I h => Constant_none ⟨.non, H, I, rfl, h⟩
theorem b2v {x j pos} : PE X (.Constant (.str x) j pos) (tC (.str x)) := fun _ _ _ H _ I h => Calls.Constant_str ⟨.str x, H, I.tok _, ⟨_, rfl⟩, h⟩
noncomputable def Gl (X : Cx) (x : Str) : Prop := X.env.kindOf x = some .globalImplicit
theorem d7r {E : Value -> Shared -> Prop} {pins : List (Addr × Obj)} {s : Shared} {σ : St} {H : Hp} {x : Str} {u : Value} {pos : Pos} {Q : Value -> Shared -> Prop} (I : Inv X pins σ H s) (hg : Gl X x) (hm : X.mg x = some u) (h : Q u s)
  (hd : (x == ("__debug__" : Str)) = false := by decide) : wpAny (model X.prog X.w) X.A (eval (.Name x pos) X.env) Q E s :=
 Calls.Name_function_global I.ok.kind hg (Calls.loadGlobal_global (by rw [I.ok.glob]; exact I.mod.glob.keeps I.bk) hm h) hd
theorem d1j {E : Value -> Shared -> Prop} {pins : List (Addr × Obj)} {s : Shared} {σ : St} {H : Hp} {x : Str} {u : Value} {pos : Pos} {Q : Value -> Shared -> Prop} (I : Inv X pins σ H s) (hg : Gl X x) (hm : X.mg x = none) (hv : bootBuiltins x = some u) (h : Q u s)
  (hn : x ≠ "__name__" := by decide) (hd : (x == ("__debug__" : Str)) = false := by decide) : wpAny (model X.prog X.w) X.A (eval (.Name x pos) X.env) Q E s := by
 obtain ⟨mb, h1, h2⟩ := I.mod.blt
 exact Calls.Name_function_global I.ok.kind hg (Calls.loadGlobal_builtin (by rw [I.ok.glob]; exact I.mod.glob.keeps I.bk) hm (by rw [I.ok.blt]; exact h1.keeps I.bk) ((h2 x hn).trans hv) h) hd
theorem a8q {x : Str} {v : V} {u : Value} {pos : Pos} (hg : Gl X x) (hm : X.mg x = some u) (r : RelV v u) (hd : (x == ("__debug__" : Str)) = false := by decide) : PE X (.Name x pos) (tC v) :=
 fun _ _ _ H _ I h => d7r I hg hm ⟨v, H, I, r, h⟩ hd
theorem b6s {x : Str} {v : V} {u : Value} {pos : Pos} (hg : Gl X x) (hm : X.mg x = none) (hv : bootBuiltins x = some u) (r : RelV v u) (hn : x ≠ "__name__" := by decide) (hd : (x == ("__debug__" : Str)) = false := by decide) : PE X (.Name x pos) (tC v) :=
 fun _ _ _ H _ I h => d1j I hg hm hv ⟨v, H, I, r, h⟩ hn hd
noncomputable def t2I (ta tb : TE) (k : Int -> Int -> Hp -> Prop) : St -> Hp -> Prop := fun σ H => ta σ H fun x H1 => tb σ H1 fun y H2 => ∃ i j, x = .int i /\ y = .int j /\ k i j H2
noncomputable def tAdd (ta tb : TE) : TE := fun σ H Q => t2I ta tb (fun i j H2 => Q (.int (i + j)) H2) σ H
noncomputable def tSub (ta tb : TE) : TE := fun σ H Q => t2I ta tb (fun i j H2 => Q (.int (i - j)) H2) σ H
noncomputable def tMul (ta tb : TE) : TE := fun σ H Q => t2I ta tb (fun i j H2 => (-(2 ^ 64) < i /\ i < 2 ^ 64) /\ Q (.int (i * j)) H2) σ H
variable {a b : Expr} {ta tb : TE} {pos : Pos}
noncomputable def PC (X : Cx) (op : CmpOp) (a b : Expr) (t : TE) : Prop :=
 ∀ (pins : List (Addr × Obj)) (s : Shared) (σ : St) (H : Hp) (Q : VK), Inv X pins σ H s -> t σ H Q ->
  wpAny (model X.prog X.w) X.A (eval a X.env) (fun v s₁ => wpAny (model X.prog X.w) X.A (eval b X.env) (fun u s₂ => wpAny (model X.prog X.w) X.A (compareOp op v u) (EP X pins σ Q) X.xe s₂) X.xe s₁) X.xe s
noncomputable def g6y (p : Int -> Int -> Bool) (ta tb : TE) : TE := fun σ H Q => t2I ta tb (fun i j H2 => Q (.bl (p i j)) H2) σ H
noncomputable abbrev tLt : TE -> TE -> TE := g6y fun i j => decide (i < j)
noncomputable abbrev tLe : TE -> TE -> TE := g6y fun i j => decide (i <= j)
noncomputable abbrev tGt : TE -> TE -> TE := g6y fun i j => decide (j < i)
noncomputable abbrev tGe : TE -> TE -> TE := g6y fun i j => decide (j <= i)
noncomputable abbrev tEqI : TE -> TE -> TE := g6y fun i j => decide (i = j)
noncomputable abbrev tNeI : TE -> TE -> TE := g6y fun i j => !decide (i = j)
noncomputable def tIsN (ta : TE) : TE := fun σ H Q => ta σ H fun x H1 => Q (.bl (decide (x = .non))) H1
noncomputable def tNotN (ta : TE) : TE := fun σ H Q => ta σ H fun x H1 => Q (.bl (!decide (x = .non))) H1
noncomputable def tB (t : TE) : TT := fun σ H Q => t σ H fun x H1 => ∃ c, x = .bl c /\ Q c H1
theorem g7m {e : Expr} {t : TE} (h : PE X e t) (he : ∀ whole, isTrue e X.env whole = (do let v <- whole; standAt e.pos; holding [v] (truthy v)) := by intro _; rfl) : PT X e (tB t) := by
 intro pins s σ H Q I hw
 refine isTrue_plain (thn (h pins s σ H _ I hw) fun v s1 ⟨x, H1, I1, r1, q1⟩ => ?_) (he _)
 obtain ⟨d, rfl, q⟩ := q1
 cases r1
 exact wpAny_truthy_bool ⟨H1, I1, q⟩
variable {tA tB' : TT} {rest : List Expr}
noncomputable def h5g (t u : TT) : TT := fun σ H Q => t σ H fun c H1 => if c = true then u σ H1 Q else Q false H1
noncomputable def tOr (t u : TT) : TT := fun σ H Q => t σ H fun c H1 => if c = true then Q true H1 else u σ H1 Q
noncomputable def h5h (t : TT) : TT := fun σ H Q => t σ H fun c H1 => Q (!c) H1
theorem pw_and1 (ha : PT X a tA) : PW X (.BoolOp .And [a] pos) tA := by
 intro wh pins s σ H Q I h
 refine isTrue_and (thn (ha pins s σ H Q I h) fun c s1 e => ?_)
 cases c with
 | true => exact isTrue_and_nil e
 | false => exact e
theorem pw_or1 (ha : PT X a tA) : PW X (.BoolOp .Or [a] pos) tA := by
 intro wh pins s σ H Q I h
 refine isTrue_or (thn (ha pins s σ H Q I h) fun c s1 e => ?_)
 cases c with
 | false => exact isTrue_or_nil e
 | true => exact e
theorem pw_and (ha : PT X a tA) (hb : PW X (.BoolOp .And (b :: rest) pos) tB') : PW X (.BoolOp .And (a :: b :: rest) pos) (h5g tA tB') := by
 intro wh pins s σ H Q I h
 refine isTrue_and (thn (ha pins s σ H _ I h) fun c s1 ⟨H1, I1, q1⟩ => ?_)
 cases c with
 | true => exact hb wh pins s1 σ H1 Q I1 q1
 | false => exact ⟨H1, I1, q1⟩
theorem pw_or (ha : PT X a tA) (hb : PW X (.BoolOp .Or (b :: rest) pos) tB') : PW X (.BoolOp .Or (a :: b :: rest) pos) (tOr tA tB') := by
 intro wh pins s σ H Q I h
 refine isTrue_or (thn (ha pins s σ H _ I h) fun c s1 ⟨H1, I1, q1⟩ => ?_)
 cases c with
 | true => exact ⟨H1, I1, q1⟩
 | false => exact hb wh pins s1 σ H1 Q I1 q1
theorem b8l (ha : PT X a tA) : PT X (.UnaryOp .Not a pos) (h5h tA) := by
 intro pins s σ H Q I h
 exact isTrue_not (ha pins s σ H (fun c H1 => Q (!c) H1) I h)
noncomputable def g7n (ta tb : TE) : TE := fun σ H Q => ta σ H fun x H1 => ∃ c, x = .bl c /\ if c = true then tb σ H1 Q else Q (.bl false) H1
noncomputable def tOrV (ta tb : TE) : TE := fun σ H Q => ta σ H fun x H1 => ∃ c, x = .bl c /\ if c = true then Q (.bl true) H1 else tb σ H1 Q
noncomputable def g7o (ta : TE) : TE := fun σ H Q => ta σ H fun x H1 => ∃ c, x = .bl c /\ Q (.bl (!c)) H1
theorem g3a {op} {t : TE} (h : PE X a t) : PE X (.BoolOp op [a] pos) t := fun pins s σ H Q I hw => BoolOp_one (h pins s σ H Q I hw)
theorem g7p (ha : PE X a ta) (hb : PE X (.BoolOp .And (b :: rest) pos) tb) : PE X (.BoolOp .And (a :: b :: rest) pos) (g7n ta tb) := by
 intro pins s σ H Q I h
 refine BoolOp_and (thn (ha pins s σ H _ I h) fun v s1 ⟨x, H1, I1, r1, q1⟩ => ?_)
 obtain ⟨c, rfl, q1⟩ := q1
 cases r1
 refine wpAny_truthy_bool ?_
 cases c with
 | true => exact hb pins s1 σ H1 Q I1 q1
 | false => exact ⟨.bl false, H1, I1, rfl, q1⟩
theorem g7q (ha : PE X a ta) : PE X (.UnaryOp .Not a pos) (g7o ta) := by
 intro pins s σ H Q I h
 refine UnaryOp_ (thn (ha pins s σ H _ I h) fun v s1 ⟨x, H1, I1, r1, q1⟩ => ?_)
 obtain ⟨c, rfl, q1⟩ := q1
 cases r1
 exact not_of (wpAny_truthy_bool ⟨.bl (!c), H1, I1, rfl, q1⟩)
noncomputable def tIf (t : TT) (ta tb : TE) : TE := fun σ H Q => t σ H fun c H1 => if c = true then ta σ H1 Q else tb σ H1 Q
theorem f0i {c : Expr} (hc : PT X c tA) (ha : PE X a ta) (hb : PE X b tb) : PE X (.IfExp c a b pos) (tIf tA ta tb) := by
 intro pins s σ H Q I h
 refine wpAny_IfExp (thn (hc pins s σ H _ I h) fun d s1 ⟨H1, I1, q1⟩ => ?_)
 cases d with
 | true => exact ha pins s1 σ H1 Q I1 q1
 | false => exact hb pins s1 σ H1 Q I1 q1
end
end L2
namespace L2
open PySem PySem.Spec PyProof.Rows
noncomputable def SqL (K : PySem.W.Frag) (H : Hp) (a : Addr) (xs : List V) : Prop :=
 Rd H a (.lst xs) \/
  ∃ (o : Obj) (its : Array Value) (n : Nat), K.lookup a = some o ∧ o.cls = .type "list" ∧ o.dict = none ∧ o.data = .seq its n ∧ its.size ≤ sizeLine ∧ Vals xs its.toList
noncomputable def SqT (K : PySem.W.Frag) (H : Hp) (a : Addr) (xs : List V) : Prop :=
 Rd H a (.tup xs) \/
  ∃ (o : Obj) (its : Array Value) (n : Nat), K.lookup a = some o ∧ o.cls = .type "tuple" ∧ o.data = .seq its n ∧ its.size ≤ sizeLine ∧ Vals xs its.toList
noncomputable def absV : Value -> Option V
 | .none => some .non
 | .bool b => some (.bl b)
 | .int i _ => some (.int i)
 | .str x _ => some (.str x)
 | .bytes b _ => some (.byt b)
 | .float b _ => some (.flt b)
 | .ref a => some (.ref a)
 | .type n => some (.ty n)
 | _ => none
theorem RelV.abs {x : V} {u : Value} (r : RelV x u) : absV u = some x := by
 cases x with
 | non => cases r; rfl
 | bl _ => cases r; rfl
 | int _ => obtain ⟨t, rfl⟩ := r; rfl
 | str _ => obtain ⟨t, rfl⟩ := r; rfl
 | byt _ => obtain ⟨t, rfl⟩ := r; rfl
 | flt _ => obtain ⟨t, rfl⟩ := r; rfl
 | ref _ => cases r; rfl
 | ty _ => cases r; rfl
theorem RelV.inj {x y : V} {u : Value} (r : RelV x u) (q : RelV y u) : x = y := Option.some.inj (r.abs.symm.trans q.abs)
theorem Vals.inj : ∀ {xs ys : List V} {us : List Value}, Vals xs us -> Vals ys us -> xs = ys
 | _, _, _, .nil, .nil => rfl
 | _, _, _, .cons r t, .cons r' t' => by rw [r.inj r', Vals.inj t t']
section
variable {X : Cx} {pins : List (Addr × Obj)} {σ : St} {H : Hp} {s : Shared} {a : Addr} {xs ys : List V}
theorem SqL.of {K : PySem.W.Frag} (h : H a = some (.lst xs)) : SqL K H a xs := .inl (.inl h)
theorem SqT.of {K : PySem.W.Frag} (h : H a = some (.tup xs)) : SqT K H a xs := .inl (.inl h)
theorem Inv.list (I : Inv X pins σ H s) (h : SqL X.K H a xs) : ∃ its : List Value, Vals xs its /\ PlainL s.heap a its.toArray /\ xs.length <= sizeLine := by
 rcases h with h | ⟨o, its, n, hk, hc, hd, hs, hz, r⟩
 ·obtain ⟨z, its, n, r, e⟩ := h.ok I.hok
  exact ⟨its, r, ⟨_, n, e, rfl, rfl, rfl⟩, z⟩
 ·refine ⟨its.toList, r, ⟨o, n, I.kIn a o hk, hc, hd, by simpa using hs⟩, ?_⟩
  have e := r.length
  simp only [Array.length_toList] at e
  omega
theorem Inv.tuple (I : Inv X pins σ H s) (h : SqT X.K H a xs) : ∃ its : List Value, Vals xs its /\ IsTup s.heap a its.toArray /\ xs.length <= sizeLine := by
 rcases h with h | ⟨o, its, n, hk, hc, hs, hz, r⟩
 ·obtain ⟨z, its, r, p⟩ := h.ok I.hok
  exact ⟨its, r, p, z⟩
 ·refine ⟨its.toList, r, ⟨o, I.kIn a o hk, hc, n, by simpa using hs⟩, ?_⟩
  have e := r.length
  simp only [Array.length_toList] at e
  omega
theorem Inv.f0j (I : Inv X pins σ H s) (h : SqL X.K H a xs) (h' : SqL X.K H a ys) : xs = ys := by
 obtain ⟨its, r, ⟨o, n, e, _, _, d⟩, _⟩ := I.list h
 obtain ⟨its', r', ⟨o', n', e', _, _, d'⟩, _⟩ := I.list h'
 rw [e] at e'; cases e'
 rw [d] at d'
 injection d' with d1 _
 have : its = its' := by simpa using congrArg Array.toList d1
 subst this
 exact r.inj r'
theorem Inv.f4w (I : Inv X pins σ H s) (h : SqT X.K H a xs) (h' : SqT X.K H a ys) : xs = ys := by
 obtain ⟨its, r, ⟨o, e, _, n, d⟩, _⟩ := I.tuple h
 obtain ⟨its', r', ⟨o', e', _, n', d'⟩, _⟩ := I.tuple h'
 rw [e] at e'; cases e'
 rw [d] at d'
 injection d' with d1 _
 have : its = its' := by simpa using congrArg Array.toList d1
 subst this
 exact r.inj r'
end
noncomputable abbrev Cx.wish (X : Cx) (E : Value -> Shared -> Prop) : Cx := { X with xe := E }
noncomputable abbrev Cx.nox (X : Cx) : Cx := X.wish fun _ _ => False
theorem Cx.Ok.wish {X : Cx} (ok : X.Ok) (E : Value -> Shared -> Prop) : (X.wish E).Ok :=
 ⟨ok.mod, ok.kind, ok.glob, ok.blt, ok.above, ok.inj, ok.has, ok.cab, ok.hd, ok.frames, ok.stk, ok.exf, ok.bs, ok.bsz, ok.g6x, ok.g7k, ok.d9y, ok.frf⟩
theorem Cx.Ok.b4h {X : Cx} {E : Value -> Shared -> Prop} (ok : (X.wish E).Ok) : X.Ok :=
 ⟨ok.mod, ok.kind, ok.glob, ok.blt, ok.above, ok.inj, ok.has, ok.cab, ok.hd, ok.frames, ok.stk, ok.exf, ok.bs, ok.bsz, ok.g6x, ok.g7k, ok.d9y, ok.frf⟩
section
variable {X : Cx} {pins : List (Addr × Obj)} {σ : St} {H : Hp} {s : Shared} {E : Value -> Shared -> Prop}
theorem Inv.wish (I : Inv X pins σ H s) (E : Value -> Shared -> Prop) : Inv (X.wish E) pins σ H s := ⟨I.ok.wish E, I.os, I.bare, I.base, I.loc, I.cell, I.free, I.c4o, I.pin, I.hok, I.len⟩
theorem Inv.b4h (I : Inv (X.wish E) pins σ H s) : Inv X pins σ H s := ⟨I.ok.b4h, I.os, I.bare, I.base, I.loc, I.cell, I.free, I.c4o, I.pin, I.hok, I.len⟩
theorem SP.b4h {D : Ends} {f : Flow} {s' : Shared} (h : SP (X.wish E) pins D f s') : SP X pins D f s' := by
 cases f with
 | next => obtain ⟨σ', H', I, q⟩ := h; exact ⟨σ', H', I.b4h, q⟩
 | brk => obtain ⟨σ', H', I, q⟩ := h; exact ⟨σ', H', I.b4h, q⟩
 | cont => obtain ⟨σ', H', I, q⟩ := h; exact ⟨σ', H', I.b4h, q⟩
 | ret u => obtain ⟨v, σ', H', I, r, q⟩ := h; exact ⟨v, σ', H', I.b4h, r, q⟩
theorem PE.nox {e : Expr} {t : TE} (h : PE X.nox e t) : PE X e t := fun pins s σ H Q I hw =>
 wpAny_mono (h pins s σ H Q (I.wish _) hw) (fun _ _ ⟨v, H', I', r, q⟩ => ⟨v, H', I'.b4h, r, q⟩) fun _ _ z => False.elim z
theorem PT.nox {e : Expr} {t : TT} (h : PT X.nox e t) : PT X e t := fun pins s σ H Q I hw =>
 wpAny_mono (h pins s σ H Q (I.wish _) hw) (fun _ _ ⟨H', I', q⟩ => ⟨H', I'.b4h, q⟩) fun _ _ z => False.elim z
theorem PSs.nox {st : List Stmt} {t : TS} (h : PSs X.nox st t) : PSs X st t := fun pins s σ H D I hw =>
 wpAny_mono (h pins s σ H D (I.wish _) hw) (fun _ _ q => q.b4h) fun _ _ z => False.elim z
end
section
variable {X : Cx} {st : Stmt} {rest : List Stmt} {t u : TS} {e : Expr} {te : TE} {pos : Pos}
noncomputable def g7r : TS := fun D σ H => D.nx σ H
noncomputable def h5i (t u : TS) : TS := fun D σ H => t { D with nx := u D } σ H
theorem a2g : PSs X [] g7r := fun _ _ σ H _ I h => wpAny_execs_nil ⟨σ, H, I, h⟩
theorem a0i (h1 : PS X st t) (h2 : PSs X rest u) : PSs X (st :: rest) (h5i t u) := by
 intro pins s σ H D I h
 refine wpAny_execs_cons (thn (h1 pins s σ H { D with nx := u D } I h) fun f s1 q => ?_)
 cases f with
 | next =>
  obtain ⟨σ', H', I', q⟩ := q
  exact h2 pins s1 σ' H' D I' q
 | ret v => exact q
 | brk => exact q
 | cont => exact q
theorem a0l (h1 : PS X st t) : PSs X [st] t := by
 intro pins s σ H D I h
 refine wpAny_execs_cons (thn (h1 pins s σ H D I h) fun f s1 q => ?_)
 cases f with
 | next => exact wpAny_execs_nil q
 | ret v => exact q
 | brk => exact q
 | cont => exact q
noncomputable def h5j : TS := fun D σ H => D.bk σ H
noncomputable def tCont : TS := fun D σ H => D.ct σ H
theorem Inv.quiet {pins : List (Addr × Obj)} {σ : St} {H : Hp} {s : Shared} (I : Inv X pins σ H s) : interactive X.env = false := by simp [interactive, I.ok.kind]
noncomputable def g7s (te : TE) : TS := fun D σ H => te σ H fun _ H1 => D.nx σ H1
theorem b6t (he : PE X e te) (hs : swapsWith e none pos.line X.env = pure false := by rfl) : PS X (.Expr e pos) (g7s te) := by
 intro pins s σ H D I h
 exact wpAny_Expr_any (thn (he pins s σ H _ I h) fun v s1 ⟨x, H1, I1, r1, q1⟩ => ⟨σ, H1, I1, q1⟩) I.quiet hs
noncomputable def h5k (te : TE) : TS := fun D σ H => te σ H D.rt
theorem a1h (he : PE X e te) : PS X (.Return (some e) pos) (h5k te) := by
 intro pins s σ H D I h
 exact wpAny_Return_some (thn (he pins s σ H _ I h) fun v s1 ⟨x, H1, I1, r1, q1⟩ => ⟨x, σ, H1, I1, r1, q1⟩)
noncomputable def h3e : TS := fun D _ H => D.rt .non H
noncomputable def h5l (c : TT) (t u : TS) : TS := fun D σ H => c σ H fun b H1 => if b = true then t D σ H1 else u D σ H1
theorem a9s {c : Expr} {a b : List Stmt} {tc : TT} (hc : PT X c tc) (ha : PSs X a t) (hb : PSs X b u) : PS X (.If c a b pos) (h5l tc t u) := by
 intro pins s σ H D I h
 refine wpAny_If (thn (hc pins s σ H _ I h) fun d s1 ⟨H1, I1, q1⟩ => ?_)
 cases d with
 | true => exact ha pins s1 σ H1 D I1 q1
 | false => exact hb pins s1 σ H1 D I1 q1
noncomputable def g3b : TS := fun _ _ _ => False
theorem a5m : PS X st g3b := fun _ _ _ _ _ _ h => h.elim
end
noncomputable abbrev TG := V -> St -> Hp -> (St -> Hp -> Prop) -> Prop
noncomputable abbrev TGs := List V -> St -> Hp -> (St -> Hp -> Prop) -> Prop
noncomputable def PG (X : Cx) (target : Expr) (t : TG) : Prop :=
 ∀ (pins : List (Addr × Obj)) (s : Shared) (σ : St) (H : Hp) (v : V) (u : Value) (Q : St -> Hp -> Prop), Inv X pins σ H s -> RelV v u -> t v σ H Q ->
  wpAny (model X.prog X.w) X.A (assign target X.env u) (fun _ s' => ∃ σ' H', Inv X pins σ' H' s' /\ Q σ' H') X.xe s
noncomputable def PGs (X : Cx) (ts : List Expr) (t : TGs) : Prop :=
 ∀ (pins : List (Addr × Obj)) (s : Shared) (σ : St) (H : Hp) (vs : List V) (us : List Value) (Q : St -> Hp -> Prop), Inv X pins σ H s -> Vals vs us -> t vs σ H Q ->
  wpAny (model X.prog X.w) X.A (assignInOrder ((assignEach ts X.env).map (·.2)) us) (fun _ s' => ∃ σ' H', Inv X pins σ' H' s' /\ Q σ' H') X.xe s
noncomputable abbrev h3f := V -> V -> V -> Hp -> (Hp -> Prop) -> Prop
noncomputable def PSet (X : Cx) (t : h3f) : Prop :=
 ∀ (pins : List (Addr × Obj)) (s : Shared) (σ : St) (H : Hp) (o i v : V) (ov iv u : Value) (Q : Hp -> Prop), Inv X pins σ H s -> RelV o ov -> RelV i iv -> RelV v u -> t o i v H Q ->
  wpAny (model X.prog X.w) X.A (setItem ov iv u) (fun _ s' => ∃ H', Inv X pins σ H' s' /\ Q H') X.xe s
noncomputable abbrev TIp := V -> V -> Hp -> VK -> Prop
noncomputable def PIp (X : Cx) (op : Operator) (t : TIp) : Prop :=
 ∀ (pins : List (Addr × Obj)) (s : Shared) (σ : St) (H : Hp) (x y : V) (v u : Value) (Q : VK), Inv X pins σ H s -> RelV x v -> RelV y u -> t x y H Q ->
  wpAny (model X.prog X.w) X.A (inplaceOp op v u) (EP X pins σ Q) X.xe s
section
variable {X : Cx} {pos : Pos}
noncomputable def g0t (i : Nat) : TG := fun v σ H Q => Q (σ.set i (some v)) H
theorem a6v {i : Nat} {x : Str} (hN : X.N.Nodup) (hi : X.N[i]? = some x) (hx : Loc X.env.scope x) (hf : X.fn x = true \/ X.env.scope.names.lookup x = some .local := by first | exact .inl rfl | exact .inr rfl | assumption) : PG X (.Name x pos) (g0t i) := by
 intro pins s σ H v u Q I r h
 exact wpAny_assign_Name (f0h I hN hi hx r (fun s' I' => ⟨_, H, I', h⟩) hf)
noncomputable def gNil : TGs := fun vs σ H Q => vs = [] /\ Q σ H
noncomputable def h3g (t : TG) (u : TGs) : TGs := fun vs σ H Q => ∃ v r, vs = v :: r /\ t v σ H fun σ' H' => u r σ' H' Q
theorem g4o : PGs X [] gNil := by
 intro pins s σ H vs us Q I r h
 obtain ⟨e, h⟩ := h
 subst e
 cases r
 exact assignInOrder_nil ⟨σ, H, I, h⟩
theorem g0u {e : Expr} {es : List Expr} {t : TG} {u : TGs} (h1 : PG X e t) (h2 : PGs X es u)
  (hs : (assignEach (e :: es) X.env).map (·.2) = assign e X.env :: (assignEach es X.env).map (·.2) := by rfl) : PGs X (e :: es) (h3g t u) := by
 intro pins s σ H vs us Q I r h
 obtain ⟨v, vr, e1, h⟩ := h
 subst e1
 cases r with
 | cons r rr =>
  rw [hs]
  refine assignInOrder_cons (thn (h1 pins s σ H _ _ _ I r h) fun _ s1 ⟨σ1, H1, I1, q1⟩ => ?_)
  exact h2 pins s1 σ1 H1 _ _ Q I1 rr q1
noncomputable def gTup (K : PySem.W.Frag) (n : Nat) (t : TGs) : TG := fun v σ H Q => ∃ a xs, v = .ref a /\ SqT K H a xs /\ xs.length = n /\ t xs σ H Q
theorem g7t {es : List Expr} {k : Nat} {t : TGs} {n : Nat} (hc : X.calm = true) (h : PGs X es t)
  (hn : (assignEach es X.env).length = n := by rfl) (hst : (assignEach es X.env).findIdx? (·.1) = none := by rfl) : PG X (.Tuple es k pos) (gTup X.K n t) := by
 intro pins s σ H v u Q I r hw
 obtain ⟨a, xs, e1, hq, hl, hw⟩ := hw
 subst e1
 cases r
 obtain ⟨its, rv, ht, hz⟩ := I.tuple hq
 refine assign_Tuple_tuple (I.ok.hd hc) ht (by simp [hn, <- hl, rv.length]) hst fun h' hx => ?_
 have I1 : Inv X pins σ H { s with heap := h' } := I.kept (t' := s.toks) fun b o e => hx b o (Nat.ne_of_lt (Heap.lt_size e)) e
 exact h pins _ σ H xs _ Q I1 (by simpa using rv) hw
noncomputable def gSub (to ti : TE) (t : h3f) : TG := fun v σ H Q => to σ H fun o H1 => ti σ H1 fun i H2 => t o i v H2 fun H3 => Q σ H3
noncomputable def h2r (te : TE) (g : TG) : TS := fun D σ H => te σ H fun x H1 => g x σ H1 D.nx
theorem g7u {tg e : Expr} {te : TE} {g : TG} (he : PE X e te) (hg : PG X tg g) (hs : swapsWithSole [tg] e pos.line X.env = pure false := by rfl) (hw : swappedStores [tg] e X.env = pure none := by rfl)
  (h1 : (assignEach [tg] X.env).map (·.2) = [assign tg X.env] := by rfl) : PS X (.Assign [tg] e pos) (h2r te g) := by
 intro pins s σ H D I h
 refine wpAny_Assign_stores (thn (he pins s σ H _ I h) fun v s1 ⟨x, H1, I1, r1, q1⟩ => ?_) hs hw
 rw [h1]
 exact thn (hg pins s1 σ H1 x v _ I1 r1 q1) fun _ s2 q => q
theorem a0t {i : Nat} {x : Str} {e : Expr} {te : TE} {pos' : Pos} (hN : X.N.Nodup) (hi : X.N[i]? = some x) (hx : Loc X.env.scope x) (he : PE X e te) (hs : swapsWith e (some (.Name x pos')) pos.line X.env = pure false := by rfl) (hf : X.fn x = true \/ X.env.scope.names.lookup x = some .local := by first | exact .inl rfl | exact .inr rfl | assumption) :
  PS X (.Assign [.Name x pos'] e pos) (h2r te (g0t i)) := by
 intro pins s σ H D I h
 refine wpAny_Assign_Name (thn (he pins s σ H _ I h) fun v s1 ⟨y, H1, I1, r1, q1⟩ => ?_) hs
 exact f0h I1 hN hi hx r1 (fun s2 I2 => ⟨_, H1, I2, q1⟩) hf
noncomputable def tPar (i j : Nat) (ta : TA) : TS := fun D σ H => ta σ H fun vs H1 => ∃ v w, vs = [v, w] /\ D.nx ((σ.set i (some v)).set j (some w)) H1
noncomputable def tAug (i : Nat) (te : TE) (ti : TIp) : TS := fun D σ H => ∃ x, σ[i]? = some (some x) /\ te σ H fun y H1 => ti x y H1 fun z H2 => D.nx (σ.set i (some z)) H2
noncomputable def tAugS (to ti te : TE) (tget : V -> V -> Hp -> VK -> Prop) (tip : TIp) (tset : h3f) : TS := fun D σ H => to σ H fun o H1 => ti σ H1 fun i H2 => tget o i H2 fun x H3 => te σ H3 fun y H4 => tip x y H4 fun z H5 => tset o i z H5 fun H6 => D.nx σ H6
noncomputable def PGet (X : Cx) (t : V -> V -> Hp -> VK -> Prop) : Prop :=
 ∀ (pins : List (Addr × Obj)) (s : Shared) (σ : St) (H : Hp) (o i : V) (ov iv : Value) (Q : VK), Inv X pins σ H s -> RelV o ov -> RelV i iv -> t o i H Q ->
  wpAny (model X.prog X.w) X.A (getItem ov iv) (EP X pins σ Q) X.xe s
noncomputable def ipI (f : Int -> Int -> Int) : TIp := fun x y H Q => ∃ i j, x = .int i /\ y = .int j /\ Q (.int (f i j)) H
end
section
variable {X : Cx} {pos : Pos}
noncomputable def h5m (c : TT) (tb : TS) : TS := fun D σ H => ∃ W : Nat -> St -> Hp -> Prop, (∃ m, W m σ H) /\ ∀ m σ H, W m σ H ->
 c σ H fun b H1 => if b = true then ∃ N : St -> Hp -> Prop, (∀ σ' H', N σ' H' -> ∃ m', m' < m /\ W m' σ' H') /\ tb { D with nx := N, ct := N, bk := D.nx } σ H1 else D.nx σ H1
end
structure It where
 go : Nat -> Hp -> Prop
 yld : Nat -> Hp -> V -> Hp -> Prop
 stop : Nat -> Hp -> Prop
noncomputable def f1v (X : Cx) (pins : List (Addr × Obj)) (H : Hp) (b : Addr) : Prop :=
 H b = none /\ b ≠ X.env.locals /\ b ∉ X.fs /\ (b ∈ X.ex \/ X.s₀.heap.objs.size <= b) /\ (∀ x c, X.env.cells.lookup x = some c -> c ≠ b) /\ ∀ p ∈ X.pn ++ pins, p.1 ≠ b
theorem Inv.g6z {X : Cx} {pins : List (Addr × Obj)} {σ : St} {H H' : Hp} {s : Shared} {b : Addr} (I : Inv X pins σ H s) (hb : s.heap.objs.size <= b) (hn : H' b = none) : f1v X pins H' b := by
 refine ⟨hn, Nat.ne_of_gt (Nat.lt_of_lt_of_le I.lt hb), I.nofs hb, .inr (Nat.le_trans I.sz hb), fun x c e z => ?_, fun p hp z => ?_⟩
 ·obtain ⟨v, q⟩ := I.cell x c e
  exact absurd (Nat.lt_of_lt_of_le q.lt (by rw [z]; exact hb)) (Nat.lt_irrefl _)
 ·exact absurd (Nat.lt_of_lt_of_le (Heap.lt_size (I.pin p hp).1) (by rw [z]; exact hb)) (Nat.lt_irrefl _)
structure Turn (P : Program) (w : World) (K : PySem.W.Frag) (tg : Expr) (J : It) (fp : List Addr) (it : Addr) (tn : Nat -> Heap -> Prop) : Prop where
 mem : it ∈ fp
 obj : ∀ i h, tn i h -> ∀ b ∈ fp, ∃ o, h.get? b = some o /\ ∀ v, o.data ≠ .cell v
 keep : ∀ i h h', tn i h -> (∀ b ∈ fp, ∀ o, h.get? b = some o -> h'.get? b = some o) -> tn i h'
 item : ∀ (X : Cx), X.prog = P -> X.w = w -> X.K = K -> X.calm = true -> ∀ (i : Nat) (pins : List (Addr × Obj)) (s : Shared) (σ : St) (H : Hp) (E : Value -> Shared -> Prop), Inv X pins σ H s -> (∀ b ∈ fp, f1v X pins H b) -> tn i s.heap -> J.go i H ->
  wpAny (model P w) X.A (pyNext (.ref it)) (fun r s1 => ∃ u, r = some u /\
   wpAny (model P w) X.A (letOwnedTupleGo tg (.ref it) u) (fun _ s2 => ∃ x H', Inv X pins σ H' s2 /\ RelV x u /\ J.yld i H x H' /\ tn (i + 1) s2.heap /\ ∀ b ∈ fp, H' b = none) E s1) E s
 done : ∀ (X : Cx), X.prog = P -> X.w = w -> X.K = K -> X.calm = true -> ∀ (i : Nat) (pins : List (Addr × Obj)) (s : Shared) (σ : St) (H : Hp) (E : Value -> Shared -> Prop), Inv X pins σ H s -> (∀ b ∈ fp, f1v X pins H b) -> tn i s.heap -> J.stop i H ->
  wpAny (model P w) X.A (pyNext (.ref it)) (fun r s1 => r = none /\ Inv X pins σ H s1) E s
 self : ∀ (A : Around) (i : Nat) (s : Shared) (Q : Value -> Shared -> Prop) (E : Value -> Shared -> Prop), tn i s.heap -> Q (.ref it) s -> wpAny (model P w) A (pyIter (.ref it)) Q E s
noncomputable abbrev TI := St -> Hp -> (It -> Hp -> Prop) -> Prop
noncomputable def PIE (X : Cx) (pins : List (Addr × Obj)) (σ : St) (tg : Expr) (R : It -> Hp -> Prop) (itv : Value) (s2 : Shared) : Prop :=
 ∃ (it : Addr) (fp : List Addr) (tn : Nat -> Heap -> Prop) (J : It) (H' : Hp), itv = .ref it /\ Inv X pins σ H' s2 /\ Turn X.prog X.w X.K tg J fp it tn /\ tn 0 s2.heap /\ (∀ b ∈ fp, f1v X pins H' b) /\ R J H'
noncomputable def PI (X : Cx) (tg iter : Expr) (wi : TI) : Prop :=
 ∀ (pins : List (Addr × Obj)) (s : Shared) (σ : St) (H : Hp) (R : It -> Hp -> Prop), Inv X pins σ H s -> wi σ H R ->
  wpAny (model X.prog X.w) X.A (eval iter X.env) (fun v s1 => wpAny (model X.prog X.w) X.A (pyIter v) (PIE X pins σ tg R) X.xe s1) X.xe s
theorem g4p {M : Model} {A : Around} {E : Value -> Shared -> Prop} {s : Shared} {tg : Expr} {it : Addr} {u : Value} {o : Obj} {n : String} {vs : Array Value} {Q : Unit -> Shared -> Prop} (ho : s.heap.get? it = some o) (hc : o.cls = .type n) (hd : o.data = .fields vs)
  (hn : ["enumerate", "zip", "dict_itemiterator", "dict_reverseitemiterator", "odict_iterator", "itertools.zip_longest", "itertools.pairwise"].contains n = false) (hQ : Q () s) : wpAny M A (letOwnedTupleGo tg (.ref it) u) Q E s := by
 unfold letOwnedTupleGo
 cases tg <;> first
  | exact wpAny_pure hQ
  | (cases u <;> first
    | exact wpAny_pure hQ
    | (refine wpAny_bind (wpAny_load ho ?_)
       rw [hc, hd]
       show wpAny M A (if (["enumerate", "zip", "dict_itemiterator", "dict_reverseitemiterator", "odict_iterator", "itertools.zip_longest", "itertools.pairwise"].contains n && vs[0]? == some (rawInt _)) = true then _ else _) Q E s
       rw [if_neg (by intro h; rw [hn, Bool.false_and] at h; cases h)]
       exact wpAny_pure hQ))
noncomputable def Itl (K : PySem.W.Frag) (a : Addr) : It :=
 ⟨fun i H => ∃ xs x, SqL K H a xs /\ xs[i]? = some x, fun i H x H' => H' = H /\ ∀ xs, SqL K H a xs -> xs[i]? = some x, fun i H => ∃ xs, SqL K H a xs /\ xs.length <= i⟩
noncomputable def Itt (K : PySem.W.Frag) (a : Addr) : It :=
 ⟨fun i H => ∃ xs x, SqT K H a xs /\ xs[i]? = some x, fun i H x H' => H' = H /\ ∀ xs, SqT K H a xs -> xs[i]? = some x, fun i H => ∃ xs, SqT K H a xs /\ xs.length <= i⟩
noncomputable def Itr (lo : Int) (n : Nat) : It := ⟨fun i _ => i < n, fun i H x H' => H' = H /\ x = .int (lo + i), fun i _ => n <= i⟩
theorem f4y {P : Program} {w : World} {K : PySem.W.Frag} {tg : Expr} (a it : Addr) : Turn P w K tg (Itl K a) [it] it (fun i h => h.IsListIter it a i) where
 mem := by simp
 obj := fun i h st b hb => by
  have e : b = it := by simpa using hb
  subst e
  obtain ⟨o, e, c, d⟩ := st
  exact ⟨o, e, fun v z => by rw [d] at z; cases z⟩
 keep := fun i h h' st k => st.at fun o e => k it (by simp) o e
 item := by
  intro X hP hw hK hc i pins s σ H E I hf st hg
  subst hP hw hK
  obtain ⟨xs, x, hq, hx⟩ := hg
  obtain ⟨its, rv, p, hz⟩ := I.list hq
  obtain ⟨u, hu, ru⟩ := rv.get hx
  obtain ⟨f0, f1, f2, f3, f4, f5⟩ := hf it (by simp)
  refine wpAny_pyNext_list_item st p.isList (x := u) (by simpa using hu) fun h' st' sb => ?_
  have I1 : Inv X pins σ H { s with heap := h' } := I.turned (t' := s.toks) (fun b o hb e => (sb.2 b hb).trans e) f0 f1 f3 f4 f5
  obtain ⟨o, e, c, d⟩ := id st'
  exact ⟨u, rfl, g4p (s := { s with heap := h' }) e c d (by decide) ⟨x, H, I1, ru, ⟨rfl, fun ys hy => by rw [I.f0j hy hq]; exact hx⟩, st', fun b hb => (hf b hb).1⟩⟩
 done := by
  intro X hP hw hK hc i pins s σ H E I hf st hg
  subst hP hw hK
  obtain ⟨xs, hq, hx⟩ := hg
  obtain ⟨its, rv, p, hz⟩ := I.list hq
  obtain ⟨f0, f1, f2, f3, f4, f5⟩ := hf it (by simp)
  have hl := rv.length
  exact wpAny_pyNext_list_end (I.ok.hd hc) st p.isList (by simp; omega) fun h' eb => ⟨rfl, I.turned (t' := s.toks) (fun b o hb e => eb b o hb e) f0 f1 f3 f4 f5⟩
 self := fun _ _ _ _ _ st h => wpAny_pyIter_listiter st h
theorem f1w {P : Program} {w : World} {K : PySem.W.Frag} {tg : Expr} (it : Addr) (lo : Int) (n : Nat) : Turn P w K tg (Itr lo n) [it] it (fun i h => IsRangeIter h it (lo + (i : Nat) * 1) ((n : Int) - (i : Nat)) 1) where
 mem := by simp
 obj := fun i h st b hb => by
  have e : b = it := by simpa using hb
  subst e
  exact ⟨_, st, fun v z => by
   have z' : Data.fields _ = Data.cell v := z
   cases z'⟩
 keep := fun i h h' st k => k it (by simp) _ st
 item := by
  intro X hP hw hK hc i pins s σ H E I hf st hg
  subst hP hw hK
  obtain ⟨f0, f1, f2, f3, f4, f5⟩ := hf it (by simp)
  have W := Walks.range (prog := X.prog) (w := X.w) (I.ok.hd hc) it lo 1 n
  refine W.item i s _ _ hg st fun v h' tk hv st' kk => ?_
  obtain ⟨t, rfl⟩ := hv
  have I1 : Inv X pins σ H { s with heap := h', toks := tk } := I.turned (fun b o hb e => kk b o (by simpa using hb) e) f0 f1 f3 f4 f5
  refine ⟨_, rfl, g4p (s := { s with heap := h', toks := tk }) (n := "range_iterator") st' rfl rfl (by decide) ⟨.int (lo + i), H, I1, ⟨t, ?_⟩, ⟨rfl, rfl⟩, st', fun b hb => (hf b hb).1⟩⟩
  rw [Int.mul_one]
 done := by
  intro X hP hw hK hc i pins s σ H E I hf st hg
  subst hP hw hK
  obtain ⟨f0, f1, f2, f3, f4, f5⟩ := hf it (by simp)
  exact wpAny_pyNext_range_end (I.ok.hd hc) st (by have : n <= i := hg; omega) fun h' eb => ⟨rfl, I.turned (t' := s.toks) (fun b o hb e => eb b o hb e) f0 f1 f3 f4 f5⟩
 self := fun _ _ _ _ _ st h => wpAny_pyIter_rangeiter st h
end L2
namespace L2
open PySem PySem.Spec PyProof.Rows
section
variable {X : Cx} {tg : Expr}
noncomputable def g7v (K : PySem.W.Frag) (tl : TE) : TI := fun σ H R => tl σ H fun x H1 => ∃ a, x = .ref a /\ (∃ xs, SqL K H1 a xs) /\ R (Itl K a) H1
noncomputable def iTup (K : PySem.W.Frag) (tl : TE) : TI := fun σ H R => tl σ H fun x H1 => ∃ a, x = .ref a /\ (∃ xs, SqT K H1 a xs) /\ R (Itt K a) H1
theorem g4q {l : Expr} {tl : TE} (hl : PE X l tl) : PI X tg l (g7v X.K tl) := by
 intro pins s σ H R I h
 refine thn (hl pins s σ H _ I h) fun v s1 ⟨x, H1, I1, r1, q1⟩ => ?_
 obtain ⟨a, e, ⟨xs, hq⟩, q⟩ := q1
 subst e
 cases r1
 obtain ⟨its, rv, p, hz⟩ := I1.list hq
 refine wpAny_pyIter_list p.isList ?_
 refine ⟨s1.heap.objs.size, [s1.heap.objs.size], _, _, H1, rfl, I1.kept (t' := s1.toks) fun b o e => Heap.get?_push_of_some _ e, f4y a _, ⟨_, Heap.get?_push_size _ rfl, rfl, rfl⟩, fun b hb => ?_, q⟩
 have e : b = s1.heap.objs.size := by simpa using hb
 subst e
 exact I1.g6z (Nat.le_refl _) (I1.hok.fresh (Nat.le_refl _))
theorem f0k {pins : List (Addr × Obj)} {σ : St} {H : Hp} {s : Shared} {R : It -> Hp -> Prop} {E : Value -> Shared -> Prop} {lo hi : Int} {t u v : Tok} {tk : Nat} (I : Inv X pins σ H s) (h1 : -(2 ^ 62) <= lo) (h2 : lo < 2 ^ 62) (h3 : -(2 ^ 62) <= hi) (h4 : hi < 2 ^ 62)
  (q : R (Itr lo (hi - lo).toNat) H) : wpAny (model X.prog X.w) X.A (pyIter (.ref s.heap.objs.size)) (PIE X pins σ tg R) E { s with heap := s.heap.push { cls := .type "range", data := .fields #[.int lo t, .int hi u, .int 1 v] }, toks := tk } := by
 refine wpAny_pyIter_range (IsRange.new ..) (small_one h1 h2 h3 h4) ?_
 have I1 : Inv X pins σ H { s with heap := s.heap.push { cls := .type "range", data := .fields #[.int lo t, .int hi u, .int 1 v] }, toks := tk } := I.kept fun b o e => Heap.get?_push_of_some _ e
 refine ⟨(s.heap.push { cls := .type "range", data := .fields #[.int lo t, .int hi u, .int 1 v] }).objs.size, [(s.heap.push { cls := .type "range", data := .fields #[.int lo t, .int hi u, .int 1 v] }).objs.size], _, _, H, rfl,
  I1.kept (t' := tk) fun b o e => Heap.get?_push_of_some _ e, f1w _ lo (hi - lo).toNat, ?_, fun b hb => ?_, q⟩
 ·have e1 : lo + ((0 : Nat) : Int) * 1 = lo := by simp
  have e2 : (((hi - lo).toNat : Nat) : Int) - ((0 : Nat) : Int) = Builtin.Range.rangeSize lo hi 1 := by rw [rangeSize_one]; split <;> omega
  show IsRangeIter _ _ (lo + ((0 : Nat) : Int) * 1) ((((hi - lo).toNat : Nat) : Int) - ((0 : Nat) : Int)) 1
  rw [e1, e2]
  exact Heap.get?_push_size _ rfl
 ·have e : b = (s.heap.push { cls := .type "range", data := .fields #[.int lo t, .int hi u, .int 1 v] }).objs.size := by simpa using hb
  subst e
  exact I1.g6z (Nat.le_refl _) (I1.hok.fresh (Nat.le_refl _))
noncomputable def g7w (ta : TA) : TI := fun σ H R => ta σ H fun vs H1 => ∃ j : Int, vs = [.int j] /\ -(2 ^ 62) <= j /\ j < 2 ^ 62 /\ R (Itr 0 j.toNat) H1
noncomputable def g7x (ta : TA) : TI := fun σ H R => ta σ H fun vs H1 => ∃ i j : Int, vs = [.int i, .int j] /\ (-(2 ^ 62) <= i /\ i < 2 ^ 62 /\ -(2 ^ 62) <= j /\ j < 2 ^ 62) /\ R (Itr i (j - i).toNat) H1
theorem f4z {a : Expr} {ta : TA} {p pos : Pos} (hg : Gl X "range") (hm : X.mg "range" = none) (ha : PA X [a] ta) (hs : starEach [a] X.env = [(false, eval a X.env)] := by rfl) : PI X tg (.Call (.Name "range" p) [a] [] pos) (g7w ta) := by
 intro pins s σ H R I h
 refine Call_ (d1j I hg hm boot_range (PyProof.Rows.callWith_type1 (thn (ha pos pins s σ H _ I h) fun us s1 ⟨vs, H1, I1, r1, q1⟩ => ?_) hs rfl))
 obtain ⟨j, e, q1, q2, q⟩ := q1
 subst e
 cases r1 with
 | cons r rr =>
  cases rr
  obtain ⟨t, rfl⟩ := r
  exact call_range_1 (f0k I1 (by omega) (by omega) q1 q2 (by simpa using q))
theorem f5g {a b : Expr} {ta : TA} {p pos : Pos} (hg : Gl X "range") (hm : X.mg "range" = none) (ha : PA X [a, b] ta) (hs : starEach [a, b] X.env = [(false, eval a X.env), (false, eval b X.env)] := by rfl) (hs2 : starEach [b] X.env = [(false, eval b X.env)] := by rfl) :
  PI X tg (.Call (.Name "range" p) [a, b] [] pos) (g7x ta) := by
 intro pins s σ H R I h
 refine Call_ (d1j I hg hm boot_range (PyProof.Rows.callWith_type1 (thn (ha pos pins s σ H _ I h) fun us s1 ⟨vs, H1, I1, r1, q1⟩ => ?_) (by rw [hs, hs2]) (by rw [hs2]; rfl)))
 obtain ⟨i, j, e, ⟨q1, q2, q3, q4⟩, q⟩ := q1
 subst e
 cases r1 with
 | cons r rr =>
  cases rr with
  | cons r' rr =>
   cases rr
   obtain ⟨t, rfl⟩ := r
   obtain ⟨t', rfl⟩ := r'
   exact call_range_2 (f0k I1 q1 q2 q3 q4 q)
noncomputable def tFor (wi : TI) (g : TG) (tb : TS) : TS := fun D σ H => wi σ H fun J H1 => ∃ W : Nat -> Nat -> St -> Hp -> Prop, (∃ m, W 0 m σ H1) /\ ∀ i m σ H, W i m σ H ->
 (J.stop i H /\ D.nx σ H) \/ (J.go i H /\ ∃ N : St -> Hp -> Prop, (∀ σ' H', N σ' H' -> ∃ m', m' < m /\ W (i + 1) m' σ' H') /\ ∀ x H', J.yld i H x H' -> g x σ H' fun σ2 H2 => tb { D with nx := N, ct := N, bk := D.nx } σ2 H2)
noncomputable def d4q (fp : List Addr) (h : Heap) : List (Addr × Obj) := fp.filterMap fun b => (h.get? b).map fun o => (b, o)
theorem c1l {fp : List Addr} {h : Heap} {b : Addr} {o : Obj} (hb : b ∈ fp) (e : h.get? b = some o) : (b, o) ∈ d4q fp h := List.mem_filterMap.mpr ⟨b, hb, by rw [e]; rfl⟩
theorem f5h {fp : List Addr} {h : Heap} {p : Addr × Obj} (hp : p ∈ d4q fp h) : p.1 ∈ fp /\ h.get? p.1 = some p.2 := by
 obtain ⟨b, hb, e⟩ := List.mem_filterMap.mp hp
 cases q : h.get? b with
 | none => rw [q] at e; cases e
 | some o =>
  rw [q] at e
  have e' : (b, o) = p := Option.some.inj e
  subst e'
  exact ⟨hb, q⟩
theorem Inv.pinned {pins : List (Addr × Obj)} {σ : St} {H : Hp} {s : Shared} {fp : List Addr} (I : Inv X pins σ H s) (hf : ∀ b ∈ fp, f1v X pins H b) (ho : ∀ b ∈ fp, ∃ o, s.heap.get? b = some o /\ ∀ v, o.data ≠ .cell v) : Inv X (pins ++ d4q fp s.heap) σ H s :=
 I.f4u fun p hp => (List.mem_append.mp hp).elim (fun z => I.pin p (List.mem_append_right _ z)) fun z => by
  obtain ⟨hb, e⟩ := f5h z
  obtain ⟨f0, f1, f2, _⟩ := hf p.1 hb
  obtain ⟨o, e', d⟩ := ho p.1 hb
  rw [e] at e'; cases e'
  exact ⟨e, f0, f1, f2, d⟩
theorem Inv.c7j {pins pl : List (Addr × Obj)} {σ : St} {H : Hp} {s : Shared} (I : Inv X (pins ++ pl) σ H s) : Inv X pins σ H s := I.f4u fun p hp => I.pin p (List.mem_append_right _ (List.mem_append_left _ hp))
theorem g7y {iter : Expr} {body : List Stmt} {wi : TI} {g : TG} {tb : TS} {pos : Pos} (hp : PassesOwn (model X.prog X.w) X.A X.env X.xe) (hc : X.calm = true) (hi : PI X tg iter wi) (hg : PG X tg g) (hb : PSs X body tb)
  (hs : ∀ x, foldedSetIterable iter X.env x = pure x := by intro _; rfl) : PS X (.For tg iter body [] pos) (tFor wi g tb) := by
 intro pins s σ H D I h
 refine wpAny_For (thn (hi pins s σ H _ I h) fun v s1 h1 => thn h1 fun itv s2 h2 => ?_) hs
 obtain ⟨it, fp, tn, J, H2, e, I2, T, st2, f2, W, ⟨m0, w0⟩, turn⟩ := h2
 subst e
 -- what stays true of the iterator's objects through the loop
 have stat : ∀ {H' : Hp}, (∀ b ∈ fp, H' b = none) -> ∀ b ∈ fp, f1v X pins H' b := fun hn b hb => ⟨hn b hb, (f2 b hb).2⟩
 refine codeAny_forLoop_any (fun n s' => ∃ i σ' H', Inv X pins σ' H' s' /\ tn i s'.heap /\ (∀ b ∈ fp, H' b = none) /\ W i n σ' H') ?_ m0 ⟨0, σ, H2, I2, st2, fun b hb => (f2 b hb).1, w0⟩
 rintro n s3 ⟨i, σ3, H3, I3, st3, fr3, w3⟩
 rcases turn i n σ3 H3 w3 with ⟨stop, qn⟩ | ⟨go, N, hN, step⟩
 ·refine wpAny_passesOwn hp (thn (T.done X rfl rfl rfl hc i pins s3 σ3 H3 X.xe I3 (stat fr3) st3 stop) fun r s4 ⟨hr, I4⟩ => ?_)
  subst hr
  exact wpAny_execs_nil ⟨σ3, H3, I4, qn⟩
 ·refine wpAny_passesOwn hp (thn (T.item X rfl rfl rfl hc i pins s3 σ3 H3 X.xe I3 (stat fr3) st3 go) fun r s4 ⟨u, hr, h4⟩ => ?_)
  subst hr
  refine wpAny_passesOwn hp (thn h4 fun _ s5 ⟨x, H5, I5, r5, y5, st5, fr5⟩ => ?_)
  have I5' := I5.pinned (stat fr5) (T.obj _ _ st5)
  refine wpAny_passesOwn hp (thn (hg _ s5 σ3 H5 x u _ I5' r5 (step x H5 y5)) fun _ s6 ⟨σ6, H6, I6, q6⟩ => ?_)
  refine wpAny_passesOwn hp (thn (hb _ s6 σ6 H6 _ I6 q6) fun f s7 q7 => ?_)
  have again : ∀ {σ7 : St} {H7 : Hp}, Inv X (pins ++ d4q fp s5.heap) σ7 H7 s7 -> N σ7 H7 -> ∃ m, m < n /\ ∃ i σ' H', Inv X pins σ' H' s7 /\ tn i s7.heap /\ (∀ b ∈ fp, H' b = none) /\ W i m σ' H' := fun {σ7 H7} I7 n7 => by
   obtain ⟨m', hm, w7⟩ := hN σ7 H7 n7
   refine ⟨m', hm, i + 1, σ7, H7, I7.c7j, T.keep _ _ _ st5 fun b hb o e => (I7.pin (b, o) (List.mem_append_right _ (List.mem_append_right _ (c1l hb e)))).1, fun b hb => ?_, w7⟩
   obtain ⟨o, e, d⟩ := T.obj _ _ st5 b hb
   exact (I7.pin (b, o) (List.mem_append_right _ (List.mem_append_right _ (c1l hb e)))).2.1
  cases f with
  | next => obtain ⟨σ7, H7, I7, n7⟩ := q7; exact again I7 n7
  | cont => obtain ⟨σ7, H7, I7, n7⟩ := q7; exact again I7 n7
  | brk => obtain ⟨σ7, H7, I7, q7⟩ := q7; exact ⟨σ7, H7, I7.c7j, q7⟩
  | ret v => obtain ⟨x7, σ7, H7, I7, r7, q7⟩ := q7; exact ⟨x7, σ7, H7, I7.c7j, r7, q7⟩
end
theorem g0v {K : PySem.W.Frag} {a : Addr} {xs : List V} {g : TG} {tb : TS} {D : Ends} {σ : St} {H : Hp} (Pv : Nat -> St -> Hp -> Prop) (h0 : Pv 0 σ H) (hl : ∀ i σ H, i <= xs.length -> Pv i σ H -> SqL K H a xs)
  (hs : ∀ i x σ H, xs[i]? = some x -> Pv i σ H -> g x σ H fun σ2 H2 => tb { D with nx := Pv (i + 1), ct := Pv (i + 1), bk := D.nx } σ2 H2) (hd : ∀ σ H, Pv xs.length σ H -> D.nx σ H) :
  ∃ W : Nat -> Nat -> St -> Hp -> Prop, (∃ m, W 0 m σ H) /\ ∀ i m σ H, W i m σ H ->
   ((Itl K a).stop i H /\ D.nx σ H) \/ ((Itl K a).go i H /\ ∃ N : St -> Hp -> Prop, (∀ σ' H', N σ' H' -> ∃ m', m' < m /\ W (i + 1) m' σ' H') /\ ∀ x H', (Itl K a).yld i H x H' -> g x σ H' fun σ2 H2 => tb { D with nx := N, ct := N, bk := D.nx } σ2 H2) := by
 refine ⟨fun i m σ H => m = xs.length - i /\ i <= xs.length /\ Pv i σ H, ⟨xs.length, by simp, Nat.zero_le _, h0⟩, ?_⟩
 rintro i m σ H ⟨rfl, hi, p⟩
 have q := hl i σ H hi p
 by_cases hlt : i < xs.length
 ·refine .inr ⟨⟨xs, xs[i], q, by simp [hlt]⟩, Pv (i + 1), fun σ' H' p' => ⟨xs.length - (i + 1), by omega, rfl, hlt, p'⟩, fun x H' y => ?_⟩
  obtain ⟨e, y⟩ := y
  subst e
  exact hs i x σ _ (y xs q) p
 ·have e : i = xs.length := by omega
  subst e
  exact .inl ⟨⟨xs, q, Nat.le_refl _⟩, hd σ H p⟩
theorem f5i {lo : Int} {n : Nat} {g : TG} {tb : TS} {D : Ends} {σ : St} {H : Hp} (Pv : Nat -> St -> Hp -> Prop) (h0 : Pv 0 σ H)
  (hs : ∀ i σ H, i < n -> Pv i σ H -> g (.int (lo + i)) σ H fun σ2 H2 => tb { D with nx := Pv (i + 1), ct := Pv (i + 1), bk := D.nx } σ2 H2) (hd : ∀ σ H, Pv n σ H -> D.nx σ H) :
  ∃ W : Nat -> Nat -> St -> Hp -> Prop, (∃ m, W 0 m σ H) /\ ∀ i m σ H, W i m σ H ->
   ((Itr lo n).stop i H /\ D.nx σ H) \/ ((Itr lo n).go i H /\ ∃ N : St -> Hp -> Prop, (∀ σ' H', N σ' H' -> ∃ m', m' < m /\ W (i + 1) m' σ' H') /\ ∀ x H', (Itr lo n).yld i H x H' -> g x σ H' fun σ2 H2 => tb { D with nx := N, ct := N, bk := D.nx } σ2 H2) := by
 refine ⟨fun i m σ H => m = n - i /\ i <= n /\ Pv i σ H, ⟨n, by simp, Nat.zero_le _, h0⟩, ?_⟩
 rintro i m σ H ⟨rfl, hi, p⟩
 by_cases hlt : i < n
 ·refine .inr ⟨hlt, Pv (i + 1), fun σ' H' p' => ⟨n - (i + 1), by omega, rfl, hlt, p'⟩, fun x H' y => ?_⟩
  obtain ⟨e, y⟩ := y
  subst e y
  exact hs i σ _ hlt p
 ·have e : i = n := by omega
  subst e
  exact .inl ⟨Nat.le_refl _, hd σ H p⟩
end L2
namespace L2
open PySem PySem.Spec PyProof.Rows
noncomputable abbrev R2 := V -> V -> Hp -> VK -> Prop
noncomputable def OpR (X : Cx) (f : Value -> Value -> Sem Value) (r : R2) : Prop :=
 ∀ (pins : List (Addr × Obj)) (s : Shared) (σ : St) (H : Hp) (x y : V) (v u : Value) (Q : VK), Inv X pins σ H s -> RelV x v -> RelV y u -> r x y H Q ->
  wpAny (model X.prog X.w) X.A (f v u) (EP X pins σ Q) X.xe s
noncomputable def UnR (X : Cx) (f : Value -> Sem Value) (r : V -> Hp -> VK -> Prop) : Prop :=
 ∀ (pins : List (Addr × Obj)) (s : Shared) (σ : St) (H : Hp) (x : V) (v : Value) (Q : VK), Inv X pins σ H s -> RelV x v -> r x H Q ->
  wpAny (model X.prog X.w) X.A (f v) (EP X pins σ Q) X.xe s
noncomputable def a8p (X : Cx) (f : Value) (r : List V -> Hp -> VK -> Prop) : Prop :=
 ∀ (pins : List (Addr × Obj)) (s : Shared) (σ : St) (H : Hp) (xs : List V) (us : List Value) (Q : VK), Inv X pins σ H s -> Vals xs us -> r xs H Q ->
  wpAny (model X.prog X.w) X.A (call f us) (EP X pins σ Q) X.xe s
noncomputable def TruR (X : Cx) (r : V -> Hp -> (Bool -> Hp -> Prop) -> Prop) : Prop :=
 ∀ (pins : List (Addr × Obj)) (s : Shared) (σ : St) (H : Hp) (x : V) (v : Value) (Q : Bool -> Hp -> Prop), Inv X pins σ H s -> RelV x v -> r x H Q ->
  wpAny (model X.prog X.w) X.A (truthy v) (TP X pins σ Q) X.xe s
noncomputable def tOp (r : R2) (ta tb : TE) : TE := fun σ H Q => ta σ H fun x H1 => tb σ H1 fun y H2 => r x y H2 Q
noncomputable def tUn (r : V -> Hp -> VK -> Prop) (ta : TE) : TE := fun σ H Q => ta σ H fun x H1 => r x H1 Q
noncomputable def rI (C : Int -> Int -> Prop) (g : Int -> Int -> V) : R2 := fun x y H Q => ∃ i j, x = .int i /\ y = .int j /\ C i j /\ Q (g i j) H
noncomputable def rI0 (g : Int -> Int -> V) : R2 := fun x y H Q => ∃ i j, x = .int i /\ y = .int j /\ Q (g i j) H
noncomputable def rU (g : Int -> V) : V -> Hp -> VK -> Prop := fun x H Q => ∃ i, x = .int i /\ Q (g i) H
section
variable {X : Cx} {a b c : Expr} {ta tb tc : TE} {pos : Pos}
theorem h3h (ha : PE X a ta) (hb : PE X b tb) {pins : List (Addr × Obj)} {s : Shared} {σ : St} {H : Hp} {R : V -> V -> Hp -> Prop} (I : Inv X pins σ H s)
  (h : ta σ H fun x H1 => tb σ H1 fun y H2 => R x y H2) {Q : Value -> Shared -> Prop} {f : Value -> Value -> Sem Value}
  (hf : ∀ v u s2 x y H2, Inv X pins σ H2 s2 -> RelV x v -> RelV y u -> R x y H2 -> wpAny (model X.prog X.w) X.A (f v u) Q X.xe s2) :
  wpAny (model X.prog X.w) X.A (eval a X.env) (fun v s₁ => wpAny (model X.prog X.w) X.A (eval b X.env) (fun u s₂ => wpAny (model X.prog X.w) X.A (f v u) Q X.xe s₂) X.xe s₁) X.xe s := by
 refine thn (ha pins s σ H _ I h) fun v s1 ⟨x, H1, I1, r1, q1⟩ => ?_
 refine thn (hb pins s1 σ H1 _ I1 q1) fun u s2 ⟨y, H2, I2, r2, q2⟩ => ?_
 exact hf v u s2 x y H2 I2 r1 r2 q2
theorem a0s {op : Operator} {r : R2} (ho : OpR X (binaryOp op) r) (ha : PE X a ta) (hb : PE X b tb) : PE X (.BinOp a op b pos) (tOp r ta tb) := by
 intro pins s σ H Q I h
 exact wpAny_BinOp (h3h ha hb I h fun v u s2 x y H2 I2 rx ry q => ho pins s2 σ H2 x y v u Q I2 rx ry q)
theorem g7z {op : UnaryOp} {r : V -> Hp -> VK -> Prop} (ho : UnR X (unaryOp op) r) (ha : PE X a ta) : PE X (.UnaryOp op a pos) (tUn r ta) := by
 intro pins s σ H Q I h
 exact UnaryOp_ (thn (ha pins s σ H _ I h) fun v s1 ⟨x, H1, I1, r1, q1⟩ => ho pins s1 σ H1 x v Q I1 r1 q1)
theorem opI {f : Value -> Value -> Sem Value} {C : Int -> Int -> Prop} {g : Int -> Int -> Int}
  (rule : ∀ (i j : Int) (t u : Tok) (s : Shared) (Q : Value -> Shared -> Prop) (E : Value -> Shared -> Prop), C i j -> Q (.int (g i j) s.toks) { s with toks := s.toks + 1 } -> wpAny (model X.prog X.w) X.A (f (.int i t) (.int j u)) Q E s) :
  OpR X f (rI C fun i j => .int (g i j)) := by
 intro pins s σ H x y v u Q I rx ry h
 obtain ⟨i, j, rfl, rfl, hc, q⟩ := h
 obtain ⟨t, rfl⟩ := rx
 obtain ⟨t', rfl⟩ := ry
 exact rule i j t t' s _ _ hc ⟨.int (g i j), H, I.tok _, ⟨_, rfl⟩, q⟩
theorem h5n {f : Value -> Value -> Sem Value} {g : Int -> Int -> Int}
  (rule : ∀ (i j : Int) (t u : Tok) (s : Shared) (Q : Value -> Shared -> Prop) (E : Value -> Shared -> Prop), Q (.int (g i j) s.toks) { s with toks := s.toks + 1 } -> wpAny (model X.prog X.w) X.A (f (.int i t) (.int j u)) Q E s) :
  OpR X f (rI0 fun i j => .int (g i j)) := by
 intro pins s σ H x y v u Q I rx ry h
 obtain ⟨i, j, rfl, rfl, q⟩ := h
 obtain ⟨t, rfl⟩ := rx
 obtain ⟨t', rfl⟩ := ry
 exact rule i j t t' s _ _ ⟨.int (g i j), H, I.tok _, ⟨_, rfl⟩, q⟩
theorem h2t {f : Value -> Value -> Sem Value} {g : Int -> Int -> Bool}
  (rule : ∀ (i j : Int) (t u : Tok) (s : Shared) (Q : Value -> Shared -> Prop) (E : Value -> Shared -> Prop), Q (.bool (g i j)) s -> wpAny (model X.prog X.w) X.A (f (.int i t) (.int j u)) Q E s) :
  OpR X f (rI0 fun i j => .bl (g i j)) := by
 intro pins s σ H x y v u Q I rx ry h
 obtain ⟨i, j, rfl, rfl, q⟩ := h
 obtain ⟨t, rfl⟩ := rx
 obtain ⟨t', rfl⟩ := ry
 exact rule i j t t' s _ _ ⟨.bl (g i j), H, I, rfl, q⟩
noncomputable def CDiv (i j : Int) : Prop := 0 < j /\ j < 1073741824
noncomputable def CDivN (i j : Int) : Prop := j ≠ 0 /\ j.natAbs < 1073741824
noncomputable def h3i (i j : Int) : Prop := 0 <= j /\ j <= 1000000 /\ i.natAbs < 2 ^ 64
noncomputable def h5o (i j : Int) : Prop := (-(2 ^ 64) < i /\ i < 2 ^ 64) \/ (-(2 ^ 64) < j /\ j < 2 ^ 64)
theorem h5o.ok {i j : Int} (h : h5o i j) : IntMulOk i j := by
 rcases h with ⟨h1, h2⟩ | ⟨h1, h2⟩
 ·exact .of_left (intBits_le_64 h1 h2)
 ·exact .of_right (intBits_le_64 h1 h2)
theorem g8a : OpR X (binaryOp .Add) (rI0 fun i j => .int (i + j)) := h5n fun _ _ _ _ _ _ _ q => add_int q
theorem g8b : OpR X (binaryOp .Sub) (rI0 fun i j => .int (i - j)) := h5n fun _ _ _ _ _ _ _ q => sub_int q
theorem g4r : OpR X (binaryOp .Mod) (rI (fun _ j => j ≠ 0) fun i j => .int (i.fmod j)) := opI fun _ _ _ _ _ _ _ hc q => mod_int' hc q
theorem g8c : OpR X (binaryOp .Pow) (rI h3i fun i j => .int (i ^ j.toNat)) := opI fun _ _ _ _ _ _ _ hc q => pow_int_small hc.1 hc.2.1 hc.2.2 q
theorem unI {f : Value -> Sem Value} {g : Int -> Int}
  (rule : ∀ (i : Int) (t : Tok) (s : Shared) (Q : Value -> Shared -> Prop) (E : Value -> Shared -> Prop), Q (.int (g i) s.toks) { s with toks := s.toks + 1 } -> wpAny (model X.prog X.w) X.A (f (.int i t)) Q E s) :
  UnR X f (rU fun i => .int (g i)) := by
 intro pins s σ H x v Q I rx h
 obtain ⟨i, rfl, q⟩ := h
 obtain ⟨t, rfl⟩ := rx
 exact rule i t s _ _ ⟨.int (g i), H, I.tok _, ⟨_, rfl⟩, q⟩
theorem g8d : UnR X (unaryOp .USub) (rU fun i => .int (-i)) := unI fun _ _ _ _ _ q => neg_int q
end
noncomputable def f5j : V -> V -> Bool
 | .non, .non => true | .non, .int _ => true | .int _, .non => true | .non, .bl _ => true | .bl _, .non => true | .non, .str _ => true | .str _, .non => true
 | .int _, .int _ => true | .bl _, .bl _ => true | .str _, .str _ => true | .byt _, .byt _ => true
 | .int _, .str _ => true | .str _, .int _ => true | .bl _, .str _ => true | .str _, .bl _ => true
 | _, _ => false
noncomputable def rEq : R2 := fun x y H Q => f5j x y = true /\ Q (.bl (decide (x = y))) H
noncomputable def rNe : R2 := fun x y H Q => f5j x y = true /\ Q (.bl (!decide (x = y))) H
theorem f5k {i j : Int} : decide (V.int i = V.int j) = (i == j) := by
 rw [Bool.eq_iff_iff]
 simp
theorem g3c {i j : Bool} : decide (V.bl i = V.bl j) = (i == j) := by
 rw [Bool.eq_iff_iff]
 simp
theorem f5l {i j : Str} : decide (V.str i = V.str j) = (i == j) := by
 rw [Bool.eq_iff_iff]
 simp
theorem f5m {i j : Array UInt8} : decide (V.byt i = V.byt j) = (i.toList == j.toList) := by
 rw [Bool.eq_iff_iff]
 cases i
 cases j
 simp
section
variable {X : Cx} {a b c : Expr} {ta tb tc : TE} {pos : Pos}
theorem a2w {pins : List (Addr × Obj)} {σ : St} {H : Hp} {s : Shared} {Q : VK} {k k' : Bool} (I : Inv X pins σ H s) (q : Q (.bl k) H) (e : k = k') : EP X pins σ Q (.bool k') s := by
 subst e
 exact ⟨.bl k, H, I, rfl, q⟩
theorem h3j : OpR X (compareOp .Eq) rEq := by
 intro pins s σ H x y v u Q I rx ry h
 obtain ⟨hs, q⟩ := h
 cases x with
 | non =>
  cases rx
  cases y with
  | non => cases ry; exact PySem.EqNone.eq_none_none (a2w I q (by simp))
  | bl j => cases ry; exact PySem.EqNone.eq_none_bool (a2w I q (by simp))
  | int j => obtain ⟨t', rfl⟩ := ry; exact PySem.EqNone.eq_none_int (a2w I q (by simp))
  | str j => obtain ⟨t', rfl⟩ := ry; exact PySem.EqNone.eq_none_str (a2w I q (by simp))
  | _ => exact absurd (show false = true from hs) Bool.false_ne_true
 | bl i =>
  cases rx
  cases y with
  | non => cases ry; exact PySem.EqNone.eq_bool_none (a2w I q (by simp))
  | bl j => cases ry; exact eq_bool (a2w I q g3c)
  | str j => obtain ⟨t', rfl⟩ := ry; exact PySem.EqMixed.eq_bool_str (a2w I q (by simp))
  | _ => exact absurd (show false = true from hs) Bool.false_ne_true
 | int i =>
  obtain ⟨t, rfl⟩ := rx
  cases y with
  | non => cases ry; exact PySem.EqNone.eq_int_none (a2w I q (by simp))
  | int j => obtain ⟨t', rfl⟩ := ry; exact eq_int (a2w I q f5k)
  | str j => obtain ⟨t', rfl⟩ := ry; exact PySem.EqMixed.eq_int_str (a2w I q (by simp))
  | _ => exact absurd (show false = true from hs) Bool.false_ne_true
 | str i =>
  obtain ⟨t, rfl⟩ := rx
  cases y with
  | non => cases ry; exact PySem.EqNone.eq_str_none (a2w I q (by simp))
  | bl j => cases ry; exact PySem.EqMixed.eq_str_bool (a2w I q (by simp))
  | int j => obtain ⟨t', rfl⟩ := ry; exact PySem.EqMixed.eq_str_int (a2w I q (by simp))
  | str j => obtain ⟨t', rfl⟩ := ry; exact eq_str (a2w I q f5l)
  | _ => exact absurd (show false = true from hs) Bool.false_ne_true
 | byt i =>
  obtain ⟨t, rfl⟩ := rx
  cases y with
  | byt j => obtain ⟨t', rfl⟩ := ry; exact PySem.W.eq_bytes (a2w I q f5m)
  | _ => exact absurd (show false = true from hs) Bool.false_ne_true
 | _ => cases y <;> exact absurd (show false = true from hs) Bool.false_ne_true
theorem h3k : OpR X (compareOp .NotEq) rNe := by
 intro pins s σ H x y v u Q I rx ry h
 obtain ⟨hs, q⟩ := h
 cases x with
 | non =>
  cases rx
  cases y with
  | non => cases ry; exact PySem.EqNone.ne_none_none (a2w I q (by simp))
  | bl j => cases ry; exact PySem.EqNone.ne_none_bool (a2w I q (by simp))
  | int j => obtain ⟨t', rfl⟩ := ry; exact PySem.EqNone.ne_none_int (a2w I q (by simp))
  | str j => obtain ⟨t', rfl⟩ := ry; exact PySem.EqNone.ne_none_str (a2w I q (by simp))
  | _ => exact absurd (show false = true from hs) Bool.false_ne_true
 | bl i =>
  cases rx
  cases y with
  | non => cases ry; exact PySem.EqNone.ne_bool_none (a2w I q (by simp))
  | bl j => cases ry; exact ne_bool (a2w I q (congrArg not g3c))
  | str j => obtain ⟨t', rfl⟩ := ry; exact PySem.EqMixed.ne_bool_str (a2w I q (by simp))
  | _ => exact absurd (show false = true from hs) Bool.false_ne_true
 | int i =>
  obtain ⟨t, rfl⟩ := rx
  cases y with
  | non => cases ry; exact PySem.EqNone.ne_int_none (a2w I q (by simp))
  | int j => obtain ⟨t', rfl⟩ := ry; exact ne_int (a2w I q (congrArg not f5k))
  | str j => obtain ⟨t', rfl⟩ := ry; exact PySem.EqMixed.ne_int_str (a2w I q (by simp))
  | _ => exact absurd (show false = true from hs) Bool.false_ne_true
 | str i =>
  obtain ⟨t, rfl⟩ := rx
  cases y with
  | non => cases ry; exact PySem.EqNone.ne_str_none (a2w I q (by simp))
  | bl j => cases ry; exact PySem.EqMixed.ne_str_bool (a2w I q (by simp))
  | int j => obtain ⟨t', rfl⟩ := ry; exact PySem.EqMixed.ne_str_int (a2w I q (by simp))
  | str j => obtain ⟨t', rfl⟩ := ry; exact ne_str (a2w I q (congrArg not f5l))
  | _ => exact absurd (show false = true from hs) Bool.false_ne_true
 | byt i =>
  obtain ⟨t, rfl⟩ := rx
  cases y with
  | byt j => obtain ⟨t', rfl⟩ := ry; exact PySem.W.ne_bytes (a2w I q (congrArg not f5m))
  | _ => exact absurd (show false = true from hs) Bool.false_ne_true
 | _ => cases y <;> exact absurd (show false = true from hs) Bool.false_ne_true
theorem h3l : OpR X (compareOp .Lt) (rI0 fun i j => .bl (decide (i < j))) := h2t fun _ _ _ _ _ _ _ q => lt_int q
theorem h3m : OpR X (compareOp .LtE) (rI0 fun i j => .bl (decide (i <= j))) := h2t fun _ _ _ _ _ _ _ q => le_int q
theorem h3n : OpR X (compareOp .Gt) (rI0 fun i j => .bl (decide (j < i))) := h2t fun _ _ _ _ _ _ _ q => gt_int q
theorem h3o : OpR X (compareOp .GtE) (rI0 fun i j => .bl (decide (j <= i))) := h2t fun _ _ _ _ _ _ _ q => ge_int q
theorem g8e : OpR X (compareOp .Is) (fun x y H Q => y = .non /\ Q (.bl (decide (x = .non))) H) := by
 intro pins s σ H x y v u Q I rx ry h
 obtain ⟨rfl, q⟩ := h
 cases ry
 refine is_none_gen (a2w I q ?_)
 cases x <;> first
  | (cases rx; rfl)
  | (obtain ⟨t, rfl⟩ := rx; rfl)
noncomputable def isObj : HO -> Bool
 | .lst _ => true
 | .ins _ _ _ => true
 | _ => false
theorem OpR.or {f : Value -> Value -> Sem Value} {r r' : R2} (h : OpR X f r) (h' : OpR X f r') : OpR X f (fun x y H Q => r x y H Q \/ r' x y H Q) := by
 intro pins s σ H x y v u Q I rx ry q
 rcases q with q | q
 ·exact h pins s σ H x y v u Q I rx ry q
 ·exact h' pins s σ H x y v u Q I rx ry q
theorem a3r (b : Expr) {op : CmpOp} (h : op ≠ .In := by decide) (h2 : op ≠ .NotIn := by decide) : behindInMarks op b = false := by
 have e1 : (op == CmpOp.In) = false := by cases op <;> first | rfl | exact absurd rfl h
 have e2 : (op == CmpOp.NotIn) = false := by cases op <;> first | rfl | exact absurd rfl h2
 cases b <;> simp [behindInMarks, e1, e2]
theorem f5n {op : CmpOp} {r : R2} (ho : OpR X (compareOp op) r) (ha : PE X a ta) (hb : PE X b tb) (hm : behindInMarks op b = false) : PE X (.Compare a [op] [b] pos) (tOp r ta tb) := by
 intro pins s σ H Q I h
 exact wpAny_Compare1 (h3h ha hb I h fun v u s2 x y H2 I2 rx ry q => ho pins s2 σ H2 x y v u Q I2 rx ry q) hm
noncomputable def g8f (t : TE) : TT := fun σ H Q => t σ H fun x H' => ∃ k, x = .bl k /\ Q k H'
theorem g4s {op : CmpOp} {r : R2} (ho : OpR X (compareOp op) r) (ha : PE X a ta) (hb : PE X b tb) (hm : behindInMarks op b = false) : PT X (.Compare a [op] [b] pos) (g8f (tOp r ta tb)) := by
 intro pins s σ H Q I h
 refine wpAny_isTrue_Compare1 (thn (ha pins s σ H _ I h) fun v s1 ⟨x, H1, I1, r1, q1⟩ => thn (hb pins s1 σ H1 _ I1 q1) fun u s2 ⟨y, H2, I2, r2, q2⟩ =>
  thn (ho pins s2 σ H2 x y v u _ I2 r1 r2 q2) fun c s3 ⟨z, H3, I3, r3, k, e, q3⟩ => ?_) hm
 subst e
 cases r3
 exact wpAny_truthy_bool ⟨H3, I3, q3⟩
noncomputable def h5p (r r' : R2) (ta tb tc : TE) : TE := fun σ H Q => ta σ H fun x H1 => tb σ H1 fun y H2 => r x y H2 fun z H3 => ∃ k, z = .bl k /\
 (if k = true then tc σ H3 fun w' H4 => r' y w' H4 Q else Q (.bl false) H3)
noncomputable def TruV (K : PySem.W.Frag) (x : V) (H : Hp) (k : Bool) : Prop :=
 match x with
 | .non => k = false
 | .bl b => k = b
 | .int i => k = (i != 0)
 | .str y => y.length <= sizeLine /\ k = ((y.length : Int) != 0)
 | .byt y => y.size <= sizeLine /\ k = ((y.size : Int) != 0)
 | .ref p => (∃ xs, SqL K H p xs /\ k = !xs.isEmpty) \/ (∃ xs, SqT K H p xs /\ k = !xs.isEmpty) \/ ∃ kvs, H p = some (.dK kvs) /\ k = !kvs.isEmpty
 | _ => False
theorem d4r : (sizeLine : Nat) < 2 ^ 63 := by rw [sizeLine_eq]; decide
theorem f1y : OpR X (binaryOp .Add) (fun x y H Q => ∃ i j, x = .str i /\ y = .str j /\ i.length + j.length <= sizeLine /\ Q (.str (i ++ j)) H) := by
 intro pins s σ H x y v u Q I rx ry h
 obtain ⟨i, j, rfl, rfl, hz, q⟩ := h
 obtain ⟨t, rfl⟩ := rx
 obtain ⟨t', rfl⟩ := ry
 exact add_str (fun t' tk => ⟨.str (i ++ j), H, I.tok _, ⟨_, rfl⟩, q⟩) hz
noncomputable def h2u (b : Expr) : Prop := ∀ o i, subscripted b false o i = operate [o, i] (getItem o i)
theorem vals1 {x : V} {us : List Value} (r : Vals [x] us) : ∃ u, us = [u] /\ RelV x u := by
 cases r with
 | cons r1 r2 => cases r2; exact ⟨_, rfl, r1⟩
theorem vals2 {x y : V} {us : List Value} (r : Vals [x, y] us) : ∃ u w', us = [u, w'] /\ RelV x u /\ RelV y w' := by
 cases r with
 | cons r1 r2 =>
  cases r2 with
  | cons r3 r4 => cases r4; exact ⟨_, _, rfl, r1, r3⟩
theorem g0w : a8p X (.builtin "abs") (fun xs H Q => ∃ i, xs = [.int i] ∧ Q (.int (if i < 0 then -i else i)) H) := by
 intro pins s σ H xs us Q I r h
 obtain ⟨i, rfl, q⟩ := h
 obtain ⟨u, rfl, t, rfl⟩ := vals1 r
 exact call_abs_int fun u tk => ⟨.int (if i < 0 then -i else i), H, I.tok _, ⟨_, rfl⟩, q⟩
theorem f5o (hc : X.calm = true) : a8p X (.builtin "max") (fun xs H Q => ∃ i j, xs = [.int i, .int j] ∧ Q (.int (if j > i then j else i)) H) := by
 intro pins s σ H xs us Q I r h
 obtain ⟨i, j, rfl, q⟩ := h
 obtain ⟨u, w', rfl, ⟨t, rfl⟩, ⟨t', rfl⟩⟩ := vals2 r
 refine max_two_ints (I.ok.hd hc) fun h' tk k => ⟨_, H, I.kept k, ?_, q⟩
 by_cases hj : j > i
 ·rw [if_pos hj, if_pos hj]; exact ⟨_, rfl⟩
 ·rw [if_neg hj, if_neg hj]; exact ⟨_, rfl⟩
theorem f5p (hc : X.calm = true) : a8p X (.builtin "min") (fun xs H Q => ∃ i j, xs = [.int i, .int j] ∧ Q (.int (if j < i then j else i)) H) := by
 intro pins s σ H xs us Q I r h
 obtain ⟨i, j, rfl, q⟩ := h
 obtain ⟨u, w', rfl, ⟨t, rfl⟩, ⟨t', rfl⟩⟩ := vals2 r
 refine min_two_ints (I.ok.hd hc) fun h' tk k => ⟨_, H, I.kept k, ?_, q⟩
 by_cases hj : j < i
 ·rw [if_pos hj, if_pos hj]; exact ⟨_, rfl⟩
 ·rw [if_neg hj, if_neg hj]; exact ⟨_, rfl⟩
theorem d4s : a8p X (.type "int") (fun xs H Q => (∃ i, xs = [.int i] ∧ Q (.int i) H) ∨ ∃ k, xs = [.bl k] ∧ Q (.int (if k then 1 else 0)) H) := by
 intro pins s σ H xs us Q I r h
 rcases h with ⟨i, rfl, q⟩ | ⟨k, rfl, q⟩
 ·obtain ⟨u, rfl, t, rfl⟩ := vals1 r
  exact call_int_int ⟨.int i, H, I, ⟨_, rfl⟩, q⟩
 ·obtain ⟨u, rfl, r1⟩ := vals1 r
  cases r1
  exact call_int_bool ⟨.int (if k then 1 else 0), H, I.tok _, ⟨_, rfl⟩, q⟩
theorem d4t : a8p X (.type "str") (fun xs H Q => ∃ i, xs = [.int i] ∧ i.natAbs.log2 < 1920 ∧ Q (.str (toString i)) H) := by
 intro pins s σ H xs us Q I r h
 obtain ⟨i, rfl, hz, q⟩ := h
 obtain ⟨u, rfl, t, rfl⟩ := vals1 r
 exact PySem.P.str_of_int hz ⟨.str _, H, I.tok _, ⟨_, rfl⟩, q⟩
noncomputable def LenV (K : PySem.W.Frag) (x : V) (H : Hp) (n : Nat) : Prop :=
 match x with
 | .str y => y.length <= sizeLine /\ n = y.length
 | .byt y => y.size <= sizeLine /\ n = y.size
 | .ref p => (∃ xs, SqL K H p xs /\ n = xs.length) \/ ∃ xs, SqT K H p xs /\ n = xs.length
 | _ => False
end
end L2
namespace L2
open PySem PySem.Spec PyProof.Rows
structure g4t (h : Heap) (x dx C : Addr) (mA : Str -> Option Value) : Prop where
 obj : h.get? x = some (PySem.W.instObj C dx)
 ns : h.Ns1 dx mA
 ne : dx ≠ x
theorem f5q {h : Heap} {dx : Addr} {mA : Str -> Option Value} (n : h.Ns1 dx mA) : ∃ od, h.get? dx = some od /\ ∀ name, PySem.W.lookIn name od = some (mA name) := by
 obtain ⟨o, es, ep, ho, hd, hk, _, hm⟩ := n
 refine ⟨o, ho, fun name => ?_⟩
 have e := hm name
 unfold nsFind findBy at e
 rw [<- Array.find?_toList] at e
 unfold PySem.W.lookIn
 rw [hd]
 dsimp only
 split
 ·rename_i y q
  rw [q] at e
  exact congrArg some e
 ·rename_i q
  rw [q] at e
  have a : es.toList.any (·.refKey) = false := by
   rw [List.any_eq_false]
   intro y hy
   obtain ⟨z, t, hkey⟩ := hk y (Array.mem_toList_iff.mp hy)
   simp [DictEntry.refKey, hkey]
  have a' : ¬ es.toList.any (·.refKey) = true := by rw [a]; exact Bool.false_ne_true
  rw [if_neg a']
  exact congrArg some e
theorem g4t.look {h : Heap} {x dx C : Addr} {mA : Str -> Option Value} (I : g4t h x dx C mA) : ∃ od, PySem.W.InstAt h x (PySem.W.instObj C dx) C (some od) /\ ∀ name, PySem.W.lookIn name od = some (mA name) :=
 let ⟨od, ho, hl⟩ := f5q I.ns
 ⟨od, ⟨I.obj, rfl, rfl, ho⟩, hl⟩
section
variable {prog : Program} {w : World} {A : Around} {E : Value -> Shared -> Prop} {s : Shared} {K : PySem.W.Frag} {x dx C f : Addr} {mA : Str -> Option Value} {name : Str} {v : Value}
theorem get_map {expr : Bool} {Q : Value -> Shared -> Prop} (X : K.In s.heap) (I : g4t s.heap x dx C mA) (hg : PySem.W.plainGet K C name = true) (hh : PySem.W.hasDictIn K C = true)
  (ha : PySem.W.findIn K (.ref C) name = some none) (hv : mA name = some v) (hv' : PySem.W.handedIn v = true) (h : Q v { s with toks := s.toks + 1 }) :
  wpAny (model prog w) A (getAttr (.ref x) name expr) Q E s := by
 obtain ⟨od, J, hl⟩ := I.look
 exact PySem.W.get_value X J (PySem.W.plainGet_of hg).1 (PySem.W.findObj_own hh ha rfl (by rw [hl, hv])) hv' h
theorem g0x {pl : Sem Bool} {Q : Value × List Value -> Shared -> Prop} (X : K.In s.heap) (I : g4t s.heap x dx C mA) (hg : PySem.W.plainGet K C name = true)
  (hf : PySem.W.findIn K (.ref C) name = some (some (.ref f))) (ht : PySem.W.isFn K (.ref f) = true) (hv : mA name = none) (h : Q (.ref f, [.ref x]) s) :
  wpAny (model prog w) A (getMethod (.ref x) name pl) Q E s := by
 obtain ⟨od, J, hl⟩ := I.look
 exact PySem.W.method_fn X J (PySem.W.plainGet_of hg).1 (PySem.W.plainGet_of hg).2 hf (beq_iff_eq.mp ht) (by show (PySem.W.lookIn name od).map (·.isSome) = some false; rw [hl, hv]; rfl) h
theorem g4u {ns : List Str} {Q : Unit -> Shared -> Prop} (X : K.In s.heap) (I : g4t s.heap x dx C mA)
  (hs : PySem.W.findIn K (.ref C) "__setattr__" = some (some (.builtin "object.__setattr__"))) (hp : PySem.W.plainOver K C = true) (ht : PySem.W.takerIn K C name = some none) (hh : PySem.W.hasDictIn K C = true)
  (hw : PySem.Within mA ns) (hsz : ns.length <= sizeLine)
  (h : ∀ h', g4t h' x dx C (fun y => if y = name then some v else mA y) -> Heap.SameBut dx s.heap h' -> Q () { s with heap := h', toks := s.toks + 2 }) :
  wpAny (model prog w) A (setAttr (.ref x) name v) Q E s := by
 obtain ⟨od, J, hl⟩ := I.look
 refine PySem.W.set_plain X J hs (PySem.W.osa_open (s := { s with toks := s.toks + 1 }) (r := none) X J hp ht fun b => ?_)
 obtain ⟨cd, hc, hd'⟩ := PySem.W.any_some hh
 have hx : s.heap.get? x = some ⟨.ref C, some dx, .plain, #[]⟩ := I.obj
 refine wpAny_bind (wpAny_pure (wpAny_bind (wpAny_bind (wpAny_loadPart hx (wpAny_bind (PySem.W.Looks.here (s := { s with toks := s.toks + 1 }) (PySem.W.looks_clsIn X hc) ?_))))))
 rw [hd']
 refine wpAny_pure (a := some dx) (wpAny_bind (wpAny_pure (wpAny_bind ?_)))
 refine wpAny_nsSet1 (s := { s with toks := s.toks + 1 }) I.ns fun h' hn2 hs2 => ?_
 obtain ⟨oD, esD, epD, hoD, hdD, hcD⟩ := hn2.count (PySem.Within.cons name v hw)
 refine wpAny_bind (wpAny_lookBehind hoD (by rw [hdD]; exact pastItsLine_dict (Nat.le_trans hcD (by rw [List.length_cons]; omega))) ?_)
 exact wpAny_pure (h _ ⟨(hs2.2 _ (Ne.symm I.ne)).trans I.obj, hn2, I.ne⟩ hs2)
theorem g0y {R : Result -> Shared -> Prop} {vs : List Value} {kw : List (Str × Value)} (X : K.In s.heap) (hm : PySem.W.makesIn K C = true)
  (hi : PySem.W.findIn K (.ref C) "__init__" = some (some (.ref f))) (hf : PySem.W.typeIn K (.ref f) = some (.type "function"))
  (h : codeAny (model prog w) (A.under (.builtin "type.__call__" ⟨.ref C :: vs, kw⟩)) (.call (.ref f) ⟨.ref (s.heap.objs.size + 1) :: vs, kw⟩) (PySem.W.InitBack (s.heap.objs.size + 1) R)
   { s with heap := (s.heap.push PySem.W.emptyDict).push (PySem.W.instObj C s.heap.objs.size) }) :
  codeAny (model prog w) A (.call (.ref C) ⟨vs, kw⟩) R s := by
 obtain ⟨hh, g, d, t, os⟩ := s
 exact PySem.W.make_core (PySem.W.makes_of X hm) (PySem.W.looks_findIn X hi) (fun self => PySem.W.bind_fn X self hf) (.inl rfl) h
end
noncomputable def c6w (f : Str) (v : V) : List (Str × V) -> List (Str × V)
 | [] => [(f, v)]
 | (g, x) :: r => if g = f then (g, v) :: r else (g, x) :: c6w f v r
theorem c7n (f g : Str) (v : V) : ∀ fs : List (Str × V), (c6w f v fs).lookup g = if g = f then some v else fs.lookup g
 | [] => by
  show List.lookup g [(f, v)] = _
  by_cases h : g = f
  ·have hb : (g == f) = true := beq_iff_eq.mpr h
   simp only [List.lookup, hb, if_pos h]
  ·have hb : (g == f) = false := beq_eq_false_iff_ne.mpr h
   simp only [List.lookup, hb, if_neg h]
 | (k, x) :: r => by
  have ih := c7n f g v r
  rw [show c6w f v ((k, x) :: r) = (if k = f then (k, v) :: r else (k, x) :: c6w f v r) from rfl]
  by_cases hk : k = f
  ·rw [if_pos hk]
   by_cases h : g = k
   ·have hb : (g == k) = true := beq_iff_eq.mpr h
    simp only [List.lookup, hb, if_pos (h.trans hk)]
   ·have hb : (g == k) = false := beq_eq_false_iff_ne.mpr h
    simp only [List.lookup, hb, if_neg (fun e : g = f => h (e.trans hk.symm))]
  ·rw [if_neg hk]
   by_cases h : g = k
   ·have hb : (g == k) = true := beq_iff_eq.mpr h
    simp only [List.lookup, hb, if_neg (fun e : g = f => hk (h.symm.trans e))]
   ·have hb : (g == k) = false := beq_eq_false_iff_ne.mpr h
    simp only [List.lookup, hb]
    exact ih
theorem c7o (f : Str) (v : V) : ∀ fs : List (Str × V), f ∈ (c6w f v fs).map (·.1) /\ ∀ g, g ∈ fs.map (·.1) -> g ∈ (c6w f v fs).map (·.1)
 | [] => ⟨by simp [c6w], fun g h => by simp at h⟩
 | (k, x) :: r => by
  obtain ⟨i1, i2⟩ := c7o f v r
  rw [show c6w f v ((k, x) :: r) = (if k = f then (k, v) :: r else (k, x) :: c6w f v r) from rfl]
  by_cases hk : k = f
  ·rw [if_pos hk]
   subst hk
   exact ⟨by simp, fun g h => by simpa using h⟩
  ·rw [if_neg hk]
   refine ⟨?_, fun g h => ?_⟩
   ·rw [List.map_cons]
    exact List.mem_cons_of_mem _ i1
   ·rw [List.map_cons] at h ⊢
    rcases List.mem_cons.mp h with e | e
    ·exact List.mem_cons.mpr (.inl e)
    ·exact List.mem_cons_of_mem _ (i2 g e)
theorem c7p (f : Str) (v : V) : ∀ fs : List (Str × V), (c6w f v fs).length <= fs.length + 1
 | [] => by simp [c6w]
 | (k, x) :: r => by
  have ih := c7p f v r
  rw [show c6w f v ((k, x) :: r) = (if k = f then (k, v) :: r else (k, x) :: c6w f v r) from rfl]
  by_cases hk : k = f
  ·rw [if_pos hk, List.length_cons, List.length_cons]; omega
  ·rw [if_neg hk, List.length_cons, List.length_cons]; omega
theorem f4n.some_of {v : V} {o : Option Value} (r : f4n (some v) o) : ∃ u, o = some u /\ RelV v u := by
 cases o with
 | none => exact (show False from r).elim
 | some u => exact ⟨u, rfl, r⟩
theorem f4n.none_of {o : Option Value} (r : f4n none o) : o = none := by
 cases o with
 | none => rfl
 | some u => exact (show False from r).elim
theorem f5r {v : V} {u : Value} (r : RelV v u) : PySem.W.handedIn u = true := by
 cases v with
 | non => cases (show u = Value.none from r); rfl
 | bl b => cases (show u = Value.bool b from r); rfl
 | int i => obtain ⟨t, e⟩ := (show ∃ t, u = Value.int i t from r); cases e; rfl
 | str x => obtain ⟨t, e⟩ := (show ∃ t, u = Value.str x t from r); cases e; rfl
 | byt b => obtain ⟨t, e⟩ := (show ∃ t, u = Value.bytes b t from r); cases e; rfl
 | flt b => obtain ⟨t, e⟩ := (show ∃ t, u = Value.float b t from r); cases e; rfl
 | ref a => cases (show u = Value.ref a from r); rfl
 | ty n => cases (show u = Value.type n from r); rfl
section
variable {P : Program} {w : World} {H H' : Hp} {h h' : Heap} {a C dx : Addr} {fs fs' : List (Str × V)}
theorem d2n (hok : HOk P w H h) (e : H a = some (.ins C dx fs)) : ∃ mA, g4t h a dx C mA /\ (∀ f, f4n (fs.lookup f) (mA f)) /\ PySem.Within mA (fs.map (·.1)) /\ fs.length <= 1000 /\ H dx = some (.own a) := by
 obtain ⟨d, z, ne, ob, mA, n, r, q⟩ := (show b2u P w H h a (.ins C dx fs) from hok a _ e)
 exact ⟨mA, ⟨ob, n, ne⟩, r, q, z, d⟩
end
structure Cls (K : PySem.W.Frag) (C : Addr) : Prop where
 pg : PySem.W.plainGet K C Str.empty = true
 hd : PySem.W.hasDictIn K C = true
 po : PySem.W.plainOver K C = true
 sa : PySem.W.findIn K (.ref C) "__setattr__" = some (some (.builtin "object.__setattr__"))
theorem Cls.get {K : PySem.W.Frag} {C : Addr} (c : Cls K C) (f : Str) : PySem.W.plainGet K C f = true := c.pg
noncomputable def a5o (K : PySem.W.Frag) (C : Addr) (f : Str) : Prop := PySem.W.findIn K (.ref C) f = some none
theorem a5o.taker {K : PySem.W.Frag} {C : Addr} {f : Str} (n : a5o K C f) : PySem.W.takerIn K C f = some none := by
 unfold PySem.W.takerIn
 rw [show PySem.W.findIn K (.ref C) f = some none from n]
 rfl
structure Con (K : PySem.W.Frag) (C : Addr) (f : Str) (v : V) (u : Value) : Prop where
 at_ : PySem.W.findIn K (.ref C) f = some (some u)
 rel : RelV v u
 get : PySem.W.specialIn K u "__get__" = some none
 cp : PySem.W.copiedNames.contains f = false
structure Meth (K : PySem.W.Frag) (C : Addr) (m : Str) (f : Addr) : Prop where
 at_ : PySem.W.findIn K (.ref C) m = some (some (.ref f))
 fn : PySem.W.isFn K (.ref f) = true
 kp : PySem.W.keepIn K (.ref f) = true
section
variable {X : Cx} {pins : List (Addr × Obj)} {σ : St} {H : Hp} {s : Shared} {a C dx : Addr} {fs : List (Str × V)} {f : Str} {v : V} {A : Around} {E : Value -> Shared -> Prop}
theorem f1z {b : Bool} {Q : Value -> Shared -> Prop} (I : Inv X pins σ H s) (e : H a = some (.ins C dx fs)) (c : Cls X.K C) (n : a5o X.K C f) (l : fs.lookup f = some v)
  (h : ∀ u s', Inv X pins σ H s' -> RelV v u -> Q u s') : wpAny (model X.prog X.w) A (getAttr (.ref a) f b) Q E s := by
 obtain ⟨mA, O, r, _, _, _⟩ := d2n I.hok e
 obtain ⟨u, hu, ru⟩ := f4n.some_of (v := v) (o := mA f) (by rw [<- l]; exact r f)
 exact get_map I.kIn O (c.get f) c.hd n hu (f5r ru) (h u _ (I.tok _) ru)
theorem d1k {m : Str} {g : Addr} {pl : Sem Bool} {Q : Value × List Value -> Shared -> Prop} (I : Inv X pins σ H s) (e : H a = some (.ins C dx fs)) (c : Cls X.K C) (k : Meth X.K C m g) (l : fs.lookup m = none)
  (h : Q (.ref g, [.ref a]) s) : wpAny (model X.prog X.w) A (getMethod (.ref a) m pl) Q E s := by
 obtain ⟨mA, O, r, _, _, _⟩ := d2n I.hok e
 have hn : mA m = none := f4n.none_of (by rw [<- l]; exact r m)
 exact g0x I.kIn O (c.get m) k.at_ k.fn hn h
theorem f2g {y : V} {u : Value} {Q : Unit -> Shared -> Prop} (I : Inv X pins σ H s) (e : H a = some (.ins C dx fs)) (c : Cls X.K C) (n : a5o X.K C f) (hl : fs.length < 1000) (ry : RelV y u)
  (h : ∀ s', Inv X pins σ (upd H a (.ins C dx (c6w f y fs))) s' -> Q () s') : wpAny (model X.prog X.w) A (setAttr (.ref a) f u) Q E s := by
 obtain ⟨mA, O, r, wi, _, ho⟩ := d2n I.hok e
 have hz : (fs.map (·.1)).length <= sizeLine := by rw [List.length_map, sizeLine_eq]; omega
 refine g4u I.kIn O c.sa c.po n.taker c.hd wi hz fun h' O' sb => h _ ?_
 have hd : ∃ o, h'.get? dx = some o := let ⟨o, _, _, e', _⟩ := O'.ns; ⟨o, e'⟩
 refine I.write (x := a) (e := dx) (by rw [e]; exact True.intro) (.inr ho) (fun b q hb z => (sb.2 b hb).trans z) hd ?_
 refine ⟨by rw [a2u O.ne]; exact ho, ?_, O.ne, O'.obj, _, O'.ns, fun g => ?_, fun g hg => ?_⟩
 ·have := c7p f y fs; omega
 ·show f4n ((c6w f y fs).lookup g) (if g = f then some u else mA g)
  rw [c7n]
  by_cases q : g = f
  ·rw [if_pos q, if_pos q]; exact ry
  ·rw [if_neg q, if_neg q]; exact r g
 ·by_cases q : g = f
  ·rw [q]; exact (c7o f y fs).1
  ·refine (c7o f y fs).2 g (wi g fun z => hg ?_)
   show (if g = f then some u else mA g) = none
   rw [if_neg q]; exact z
theorem Inv.made (I : Inv X pins σ H s) : Inv X pins σ (upd (upd H s.heap.objs.size (.own (s.heap.objs.size + 1))) (s.heap.objs.size + 1) (.ins C s.heap.objs.size []))
  { s with heap := (s.heap.push PySem.W.emptyDict).push (PySem.W.instObj C s.heap.objs.size) } := by
 have e1 : (s.heap.push PySem.W.emptyDict).get? s.heap.objs.size = some PySem.W.emptyDict := Heap.get?_push_size s.heap rfl
 have e2 : ((s.heap.push PySem.W.emptyDict).push (PySem.W.instObj C s.heap.objs.size)).get? (s.heap.objs.size + 1) = some (PySem.W.instObj C s.heap.objs.size) := by
  have := Heap.get?_push_size (s.heap.push PySem.W.emptyDict) (o := PySem.W.instObj C s.heap.objs.size) rfl
  rwa [Heap.size_push] at this
 have e3 : (s.heap.push PySem.W.emptyDict).Ns s.heap.objs.size (fun _ => none) := ⟨PySem.W.emptyDict, #[], _, e1, rfl, (fun e he => absurd he (by simp)), fun _ => rfl⟩
 have I1 := I.laid (a := s.heap.objs.size) (o := .own (s.heap.objs.size + 1)) (h' := s.heap.push PySem.W.emptyDict) (t' := s.toks) (fun b u q => Heap.get?_push_of_some _ q) (Nat.le_refl _) ⟨_, e1⟩
 refine I1.laid (a := s.heap.objs.size + 1) (o := .ins C s.heap.objs.size []) (t' := s.toks) (fun b u q => Heap.get?_push_of_some _ q) (Nat.le_of_eq (Heap.size_push _ _)) ?_
 have ne : s.heap.objs.size ≠ s.heap.objs.size + 1 := Nat.ne_of_lt (Nat.lt_succ_self _)
 refine ⟨by rw [a2u ne, a6g], Nat.zero_le _, ne, e2, fun _ => none, (Heap.Ns1.of_empty e3).at fun o q => Heap.get?_push_of_some _ q, fun _ => True.intro, fun y hy => absurd rfl hy⟩
theorem g4v {prog : Program} {w : World} {env : Env} {e : Expr} {f : Str} {pos : Pos} {s : Shared} {Q : Value -> Shared -> Prop} (hb : attributeBase e f env (eval e env) = eval e env)
  (h : wpAny (model prog w) A (eval e env) (fun o s₁ => wpAny (model prog w) A (getAttr o f true) Q E s₁) E s) : wpAny (model prog w) A (eval (.Attribute e f pos) env) Q E s :=
 Attribute_any_ h (by rw [arm_eval_Attribute, hb])
end
noncomputable def h5q (K : PySem.W.Frag) (ta : TE) (f : Str) : TE := fun σ H Q => ta σ H fun x H1 => ∃ a C dx fs v, x = .ref a /\ H1 a = some (.ins C dx fs) /\ Cls K C /\ a5o K C f /\ fs.lookup f = some v /\ Q v H1
noncomputable def tCon (K : PySem.W.Frag) (ta : TE) (f : Str) : TE := fun σ H Q => ta σ H fun x H1 => ∃ a C dx fs v u, x = .ref a /\ H1 a = some (.ins C dx fs) /\ Cls K C /\ Con K C f v u /\ fs.lookup f = none /\ Q v H1
noncomputable def sFld (K : PySem.W.Frag) (ta tv : TE) (f : Str) : TS := fun D σ H => tv σ H fun y H1 => ta σ H1 fun x H2 => ∃ a C dx fs, x = .ref a /\ H2 a = some (.ins C dx fs) /\ Cls K C /\ a5o K C f /\ fs.length < 1000 /\
 D.nx σ (upd H2 a (.ins C dx (c6w f y fs)))
noncomputable def InOp (X : Cx) (op : Operator) (rd : V -> V -> Hp -> VK -> Prop) : Prop :=
 ∀ (pins : List (Addr × Obj)) (s : Shared) (σ : St) (H : Hp) (x y : V) (u v : Value) (Q : VK), Inv X pins σ H s -> RelV x u -> RelV y v -> rd x y H Q -> wpAny (model X.prog X.w) X.A (inplaceOp op u v) (EP X pins σ Q) X.xe s
noncomputable def h3p (K : PySem.W.Frag) (ta tv : TE) (rd : V -> V -> Hp -> VK -> Prop) (f : Str) : TS := fun D σ H => ta σ H fun x H1 => ∃ a C dx fs v, x = .ref a /\ H1 a = some (.ins C dx fs) /\ Cls K C /\ a5o K C f /\ fs.lookup f = some v /\
 tv σ H1 fun y H2 => rd v y H2 fun z H3 => ∃ dx' fs', H3 a = some (.ins C dx' fs') /\ fs'.length < 1000 /\ D.nx σ (upd H3 a (.ins C dx' (c6w f z fs')))
section
variable {X : Cx} {o e value : Expr} {f : Str} {pos pos' tpos : Pos} {ta tv : TE}
theorem g8g (he : PE X e ta) (hb : attributeBase e f X.env (eval e X.env) = eval e X.env) : PE X (.Attribute e f pos) (h5q X.K ta f) := by
 intro pins s σ H Q I h
 refine g4v hb (thn (he pins s σ H _ I h) fun u s1 ⟨x, H1, I1, rx, a, C, dx, fs, v, ex, ea, c, n, l, q⟩ => ?_)
 subst ex
 obtain rfl : u = Value.ref a := rx
 exact f1z I1 ea c n l fun u' s2 I2 ru => ⟨v, H1, I2, ru, q⟩
noncomputable def rAdd : V -> V -> Hp -> VK -> Prop := fun x y H Q => ∃ i j, x = .int i /\ y = .int j /\ Q (.int (i + j)) H
noncomputable def rSub : V -> V -> Hp -> VK -> Prop := fun x y H Q => ∃ i j, x = .int i /\ y = .int j /\ Q (.int (i - j)) H
end
section
variable {X : Cx} {pins : List (Addr × Obj)} {σ : St} {H : Hp} {s : Shared} {A : Around} {E : Value -> Shared -> Prop} {Q : Value -> Shared -> Prop} {c : Value} {b : Bool}
inductive f2h (K : PySem.W.Frag) (H : Hp) : V -> Value -> Prop where
 | non : f2h K H .non (.type "NoneType")
 | bl (x : Bool) : f2h K H (.bl x) (.type "bool")
 | int (i : Int) : f2h K H (.int i) (.type "int")
 | str (x : Str) : f2h K H (.str x) (.type "str")
 | flt (x : UInt64) : f2h K H (.flt x) (.type "float")
 | lst {a : Addr} {xs : List V} (e : H a = some (.lst xs)) : f2h K H (.ref a) (.type "list")
 | frz {a : Addr} {o : Obj} {xs : List V} (e : H a = some (.frz o (.lst xs))) : f2h K H (.ref a) (.type "list")
 | tup {a : Addr} {xs : List V} (e : H a = some (.tup xs)) : f2h K H (.ref a) (.type "tuple")
 | dK {a : Addr} {kvs : List (Key × V)} (e : H a = some (.dK kvs)) : f2h K H (.ref a) (.type "dict")
 | dT {a : Addr} {kvs : List (List Key × V)} (e : H a = some (.dT kvs)) : f2h K H (.ref a) (.type "dict")
 | ins {a C dx : Addr} {fs : List (Str × V)} (e : H a = some (.ins C dx fs)) (cl : Cls K C) (ha : PySem.W.findIn K (.ref C) "__class__" = some (some (.builtin "object.__class__")))
   (hn : PySem.W.specialIn K (.builtin "object.__class__") "__get__" = some (some (.builtin "getset_descriptor.__get__"))) (htk : PySem.W.takesIn K (.builtin "object.__class__") = some true)
   (hm : PySem.W.mroIn K C (.type "object") = some true) : f2h K H (.ref a) (.ref C)
theorem f5s {x : V} {u t : Value} (I : Inv X pins σ H s) (rx : RelV x u) (ty : f2h X.K H x t) (e : PySem.W.kitOne X.K t c = some b) (h : ∀ tk, Q (.bool b) { s with toks := tk }) :
  wpAny (model X.prog X.w) A (call (.builtin "isinstance") [u, c]) Q E s := by
 cases ty with
 | non => cases (show u = Value.none from rx); exact PySem.W.kia_one PySem.W.kitx_none I.kIn True.intro e (fun z => nomatch z) h
 | bl y => cases (show u = Value.bool y from rx); exact PySem.W.kia_one PySem.W.kitx_bool I.kIn True.intro e (fun z => nomatch z) h
 | int i => obtain ⟨t, q⟩ := (show ∃ t, u = Value.int i t from rx); cases q; exact PySem.W.kia_one PySem.W.kitx_int I.kIn True.intro e (fun z => nomatch z) h
 | str y => obtain ⟨t, q⟩ := (show ∃ t, u = Value.str y t from rx); cases q; exact PySem.W.kia_one PySem.W.kitx_str I.kIn True.intro e (fun z => nomatch z) h
 | flt y => obtain ⟨t, q⟩ := (show ∃ t, u = Value.float y t from rx); cases q; exact PySem.W.kia_one PySem.W.kitx_float I.kIn True.intro e (fun z => nomatch z) h
 | @lst a xs ea =>
  cases (show u = Value.ref a from rx)
  obtain ⟨_, _, n, _, h1⟩ := (show b2u X.prog X.w H s.heap a (.lst xs) from I.hok a _ ea)
  exact PySem.W.kia_one PySem.W.kitx_list I.kIn ⟨_, h1, rfl⟩ e (fun z => nomatch z) h
 | @frz a ob xs ea =>
  cases (show u = Value.ref a from rx)
  obtain ⟨_, _, _, n, _, h1⟩ := (show b2u X.prog X.w H s.heap a (.frz ob (.lst xs)) from I.hok a _ ea)
  exact PySem.W.kia_one PySem.W.kitx_list I.kIn ⟨_, h1, rfl⟩ e (fun z => nomatch z) h
 | @tup a xs ea =>
  cases (show u = Value.ref a from rx)
  obtain ⟨_, _, _, p⟩ := (show b2u X.prog X.w H s.heap a (.tup xs) from I.hok a _ ea)
  obtain ⟨o, h1, h2, _⟩ := p
  exact PySem.W.kia_one PySem.W.kitx_tuple I.kIn ⟨o, h1, h2⟩ e (fun z => nomatch z) h
 | @dK a kvs ea =>
  cases (show u = Value.ref a from rx)
  obtain ⟨_, _, vs, _, p⟩ := (show b2u X.prog X.w H s.heap a (.dK kvs) from I.hok a _ ea)
  obtain ⟨o, es, ep, h1, h2, _⟩ := p
  exact PySem.W.kia_one PySem.W.kitx_dict I.kIn ⟨o, h1, h2.1⟩ e (fun z => nomatch z) h
 | @dT a kvs ea =>
  cases (show u = Value.ref a from rx)
  obtain ⟨_, _, xs, _, o, es, ep, h1, h2, _⟩ := (show b2u X.prog X.w H s.heap a (.dT kvs) from I.hok a _ ea)
  exact PySem.W.kia_one PySem.W.kitx_dict I.kIn ⟨o, h1, h2.1⟩ e (fun z => nomatch z) h
 | @ins a C dx fs ea cl ha hn htk hm =>
  cases (show u = Value.ref a from rx)
  obtain ⟨mA, O, _⟩ := d2n I.hok ea
  obtain ⟨od, J, _⟩ := O.look
  exact PySem.W.kia_one (PySem.W.kitx_own (cl.get _) cl.hd ha hn htk hm) I.kIn J e (fun z => nomatch z) h
end
end L2
namespace L2
open PySem PySem.Spec PyProof.Rows
structure a2y (k : Nat) (A : Around) : Prop where
 hd : A.handled = none
 dp : A.depth + 3 * k + 5 < recursionLimit
 un : A.units + 16 * k + 200 < cLine
theorem a2y.mono {j k : Nat} {A : Around} (r : a2y k A) (h : j <= k) : a2y j A := ⟨r.hd, by have := r.dp; omega, by have := r.un; omega⟩
theorem a2y.deeper {k : Nat} {A : Around} (r : a2y (k + 1) A) (env : Env) : a2y k (A.deeper env) :=
 ⟨r.hd, by have := r.dp; show A.depth + 1 + 3 * k + 5 < _; omega, by have := r.un; show A.units + 3 + 16 * k + 200 < _; omega⟩
theorem a2y.in1 {k : Nat} {A : Around} (r : a2y (k + 1) A) : a2y k A.in1 :=
 ⟨r.hd, by have := r.dp; show A.depth + 3 * k + 5 < _; omega, by have := r.un; show A.units + 1 + 16 * k + 200 < _; omega⟩
theorem f2i {A : Around} {C : Addr} {us : List Value} {kw : List (Str × Value)} : (A.under (.builtin "type.__call__" ⟨.ref C :: us, kw⟩)).depth = A.depth + 1 := by
 first | rfl | simp [Around.under, Code.weight, Code.isCreation, Code.isGuard, Code.isCaller, Code.frames, Code.isFrame, guardIds]
theorem f2j {A : Around} {C : Addr} {us : List Value} {kw : List (Str × Value)} : (A.under (.builtin "type.__call__" ⟨.ref C :: us, kw⟩)).units = A.units + 1 := by
 first | rfl | simp [Around.under, Code.cUnits, Code.frames, Code.isFrame]
theorem a2y.make {k : Nat} {A : Around} (r : a2y (k + 1) A) (C : Addr) (us : List Value) (kw : List (Str × Value)) : a2y k (A.under (.builtin "type.__call__" ⟨.ref C :: us, kw⟩)) :=
 ⟨r.hd, by have := r.dp; rw [f2i]; omega, by have := r.un; rw [f2j]; omega⟩
theorem a2y.depth {k : Nat} {A : Around} (r : a2y k A) : A.depth < recursionLimit := by have := r.dp; omega
theorem a2y.units {k : Nat} {A : Around} (r : a2y k A) : A.units + 64 < cLine := by have := r.un; omega
noncomputable def f5t : TA := fun _ H Q => Q [] H
noncomputable def g8h (ta : TE) (tr : TA) : TA := fun σ H Q => ta σ H fun x H1 => tr σ H1 fun xs H2 => Q (x :: xs) H2
section
variable {X : Cx} {e : Expr} {es : List Expr} {te : TE} {t : TA} {pos : Pos}
theorem a0j : PA X [] f5t := fun _ _ _ _ H Q I h => Calls.spliced_nil ⟨[], H, I, .nil, h⟩
theorem a0g (ha : PE X e te) (hr : PA X es t) (hs : starEach (e :: es) X.env = (false, eval e X.env) :: starEach es X.env := by rfl) : PA X (e :: es) (g8h te t) := by
 intro pos pins s σ H Q I h
 rw [hs]
 show wpAny _ _ (spliced ((false, eval e X.env) :: backTo pos (starEach es X.env))) _ _ s
 refine Calls.spliced_cons (thn (ha pins s σ H _ I h) fun u s1 ⟨x, H1, I1, r1, q1⟩ => ?_)
 exact thn (hr pos pins s1 σ H1 _ I1 q1) fun us s2 ⟨xs, H2, I2, r2, q2⟩ => ⟨x :: xs, H2, I2, .cons r1 r2, q2⟩
noncomputable def tTup (t : TA) : TE := fun σ H Q => t σ H fun xs H1 => xs.length <= sizeLine /\ ∀ p, H1 p = none -> Q (.ref p) (upd H1 p (.tup xs))
noncomputable def tLst (t : TA) : TE := fun σ H Q => t σ H fun xs H1 => xs.length <= sizeLine /\ ∀ p, H1 p = none -> Q (.ref p) (upd H1 p (.lst xs))
end
noncomputable abbrev Sp := List V -> Hp -> VK -> XK -> Prop
noncomputable abbrev CXT := List Env -> Hp -> Shared -> XK -> Value -> Shared -> Prop
structure f5u (P : Program) (w : World) (K : PySem.W.Frag) (mg : Str -> Option Value) (base : Heap) (A : Around) (outer : List Env) (s : Shared) (H : Hp) : Prop where
 frames : A.frames = some outer
 mod : Mod K mg base
 bs : ∀ b o, base.get? b = some o -> s.heap.get? b = some o /\ H b = none
 bsz : base.objs.size <= s.heap.objs.size
 d9y : s.heap.FunFrames base outer
 frf : ∀ b ∈ frs outer, H b = none
 hok : HOk P w H s.heap
 bare : AllBare s.gens
noncomputable def CE (outer : List Env) (P : Program) (w : World) (H : Hp) (s : Shared) (Q : VK) (u : Value) (s' : Shared) : Prop :=
 ∃ v H', s'.os = s.os /\ AllBare s'.gens /\ Un (frs outer) [] H H' s.heap s'.heap /\ HOk P w H' s'.heap /\ RelV v u /\ Q v H'
noncomputable def CR (CX : CXT) (outer : List Env) (P : Program) (w : World) (H : Hp) (s : Shared) (Q : VK) (E : XK) (r : Result) (s' : Shared) : Prop :=
 match r with
 | .ok (.ret u) => CE outer P w H s Q u s'
 | .ok _ => False
 | .error e => CX outer H s E e s'
structure a1n (P : Program) (w : World) (K : PySem.W.Frag) (mg : Str -> Option Value) (base : Heap) (CX : CXT) (k : Nat) (f : Addr) (fd : FuncData) (ps : List Str) (sp : Sp) : Prop where
 len : ∀ vs H Q E, sp vs H Q E -> vs.length = ps.length
 run : ∀ (A : Around) (outer : List Env) (s : Shared) (H : Hp) (args : Args) (us : List Value) (vs : List V) (Q : VK) (E : XK), a2y k A -> f5u P w K mg base A outer s H -> BindsTo s fd args (ps.zip us) -> Vals vs us -> sp vs H Q E ->
  codeAny (model P w) A (.call (.ref f) args) (CR CX outer P w H s Q E) s
theorem a1n.mono {P : Program} {w : World} {K : PySem.W.Frag} {mg : Str -> Option Value} {base : Heap} {CX : CXT} {j k : Nat} {f : Addr} {fd : FuncData} {ps : List Str} {sp : Sp} (F : a1n P w K mg base CX j f fd ps sp) (h : j <= k) :
  a1n P w K mg base CX k f fd ps sp := ⟨F.len, fun A outer s H args us vs Q E hr => F.run A outer s H args us vs Q E (hr.mono h)⟩
theorem f5u.make {P : Program} {w : World} {K : PySem.W.Frag} {mg : Str -> Option Value} {base : Heap} {A : Around} {outer : List Env} {s : Shared} {H : Hp} (e : f5u P w K mg base A outer s H) (C : Addr) (us : List Value) (kw : List (Str × Value)) :
  f5u P w K mg base (A.under (.builtin "type.__call__" ⟨.ref C :: us, kw⟩)) outer s H := ⟨by first | exact e.frames | (simpa [Around.under, Code.envs, Code.isFrame, pushEnvs] using e.frames), e.mod, e.bs, e.bsz, e.d9y, e.frf, e.hok, e.bare⟩
theorem f5u.in1 {P : Program} {w : World} {K : PySem.W.Frag} {mg : Str -> Option Value} {base : Heap} {A : Around} {outer : List Env} {s : Shared} {H : Hp} (e : f5u P w K mg base A outer s H) :
  f5u P w K mg base A.in1 outer s H := ⟨e.frames, e.mod, e.bs, e.bsz, e.d9y, e.frf, e.hok, e.bare⟩
section
variable {X : Cx} {pins : List (Addr × Obj)} {σ : St} {H : Hp} {s s' : Shared}
theorem Inv.env0 (I : Inv X pins σ H s) : f5u X.prog X.w X.K X.mg X.base X.A X.stack s H :=
 ⟨I.ok.frames, I.ok.mod, I.bs, Nat.le_trans I.ok.bsz I.sz, I.stack, I.f4t, I.hok, I.bare⟩
theorem Inv.after {Q : VK} {u : Value} (I : Inv X pins σ H s) (h : CE X.stack X.prog X.w H s Q u s') : EP X pins σ Q u s' := by
 obtain ⟨v, H', os, bare, un, hok, r, q⟩ := h
 obtain ⟨hh, g, d, t, os'⟩ := s'
 obtain rfl : os' = s.os := os
 exact ⟨v, H', I.call (h' := hh) (g' := g) (d' := d) (t' := t) (ch := []) un hok bare (fun b z => absurd z (by simp)), r, q⟩
end
noncomputable def g4w (sp : Sp) (dvs : List V) (E : XK) (t : TA) : TE := fun σ H Q => t σ H fun vs H1 => sp (vs ++ dvs) H1 Q E
noncomputable def tMeth (C : Addr) (m : Str) (sp : Sp) (dvs : List V) (E : XK) (ta : TE) (t : TA) : TE := fun σ H Q => ta σ H fun x H1 => ∃ a dx fs, x = .ref a /\ H1 a = some (.ins C dx fs) /\ fs.lookup m = none /\
 t σ H1 fun vs H2 => sp (x :: (vs ++ dvs)) H2 Q E
noncomputable def tMake (C : Addr) (sp : Sp) (dvs : List V) (E : XK) (t : TA) : TE := fun σ H Q => t σ H fun vs H1 => ∀ x dx, H1 x = none -> H1 dx = none -> dx ≠ x ->
 sp (.ref x :: (vs ++ dvs)) (upd (upd H1 dx (.own x)) x (.ins C dx [])) (fun v H2 => v = .non /\ Q (.ref x) H2) E
noncomputable def Binds (K : PySem.W.Frag) (fd : FuncData) (ps : List Str) (ds : List Value) : Prop :=
 ∀ (s : Shared) (us : List Value), K.In s.heap -> (us ++ ds).length = ps.length -> BindsTo s fd ⟨us, []⟩ (ps.zip (us ++ ds))
theorem Binds.all {K : PySem.W.Frag} {fd : FuncData} {ps : List Str} (h : ∀ us : List Value, us.length = ps.length -> bindArgs fd ⟨us, []⟩ = pure (ps.zip us)) : Binds K fd ps [] := fun s us _ hl => by
 rw [List.append_nil] at hl ⊢
 exact .of_eq (h us hl)
noncomputable def Passes (CX : CXT) (X : Cx) (E : XK) : Prop := ∀ (pins : List (Addr × Obj)) (σ : St) (H : Hp) (s : Shared) (e : Value) (s' : Shared), Inv X pins σ H s -> CX X.stack H s E e s' -> X.xe e s'
section
variable {X : Cx} {CX : CXT} {k : Nat} {f C : Addr} {fd : FuncData} {ps : List Str} {sp : Sp} {dvs : List V} {ds : List Value} {E : XK} {x m : Str} {p pos apos : Pos} {e o : Expr} {es : List Expr} {ta : TE} {t : TA}
theorem f0l {pins : List (Addr × Obj)} {σ : St} {H : Hp} {s : Shared} {Q : VK} {us : List Value} {vs : List V} (F : a1n X.prog X.w X.K X.mg X.base CX k f fd ps sp) (hr : a2y k X.A) (hb : Binds X.K fd ps ds) (hd : Vals dvs ds) (hx : Passes CX X E)
  (I : Inv X pins σ H s) (r : Vals vs us) (h : sp (vs ++ dvs) H Q E) : wpAny (model X.prog X.w) X.A (call (.ref f) us) (EP X pins σ Q) X.xe s := by
 have r2 : Vals (vs ++ dvs) (us ++ ds) := r.append hd
 have hl : (us ++ ds).length = ps.length := by rw [<- r2.length]; exact F.len _ _ _ _ h
 refine wpAny_call (codeAny_mono (F.run X.A X.stack s H ⟨us, []⟩ (us ++ ds) (vs ++ dvs) Q E hr I.env0 (hb s us I.kIn hl) r2 h) fun r s' hq => ?_)
 cases r with
 | error e => exact hx pins σ H s e s' I hq
 | ok fl =>
  cases fl with
  | ret u => exact I.after hq
  | next => exact False.elim hq
  | brk => exact False.elim hq
  | cont => exact False.elim hq
theorem a0n (F : a1n X.prog X.w X.K X.mg X.base CX k f fd ps sp) (hr : a2y k X.A) (hg : Gl X x) (hm : X.mg x = some (.ref f)) (hk : PySem.W.keepIn X.K (.ref f) = true) (hb : Binds X.K fd ps ds) (hd : Vals dvs ds) (hx : Passes CX X E)
  (ha : PA X (e :: es) t) (hdb : (x == ("__debug__" : Str)) = false := by decide) (he : starEach (e :: es) X.env = (false, eval e X.env) :: starEach es X.env := by rfl) (hpl : (backTo pos (starEach es X.env)).any (·.1) = false := by rfl) :
  PE X (.Call (.Name x p) (e :: es) [] pos) (g4w sp dvs E t) := by
 intro pins s σ H Q I h
 refine wpAny_Call_Name_kw (d7r I hg hm ?_ hdb)
 refine PySem.W.callWith_K (h₀ := X.base) I.ok.mod.kin hk (thn (ha pos pins s σ H _ I h) fun us s1 ⟨vs, H1, I1, r, q⟩ => ⟨I1.kIn, ?_⟩) he hpl
 exact f0l F hr hb hd hx I1 r q
structure Mk (K : PySem.W.Frag) (C f : Addr) : Prop where
 makes : PySem.W.makesIn K C = true
 init : PySem.W.findIn K (.ref C) "__init__" = some (some (.ref f))
 fn : PySem.W.isFn K (.ref f) = true
 kp : PySem.W.keepIn K (.ref C) = true
theorem g0z {pins : List (Addr × Obj)} {σ : St} {H : Hp} {s : Shared} {Q : VK} {us : List Value} {vs : List V} (M : Mk X.K C f) (F : a1n X.prog X.w X.K X.mg X.base CX k f fd ps sp) (hr : a2y (k + 1) X.A) (hb : Binds X.K fd ps ds) (hd : Vals dvs ds)
  (hx : Passes CX X E) (I : Inv X pins σ H s) (r : Vals vs us)
  (h : ∀ x dx, H x = none -> H dx = none -> dx ≠ x -> sp (.ref x :: (vs ++ dvs)) (upd (upd H dx (.own x)) x (.ins C dx [])) (fun v H2 => v = .non /\ Q (.ref x) H2) E) :
  wpAny (model X.prog X.w) X.A (call (.ref C) us) (EP X pins σ Q) X.xe s := by
 have hq := h (s.heap.objs.size + 1) s.heap.objs.size (I.hok.fresh (Nat.le_succ _)) (I.hok.fresh (Nat.le_refl _)) (Nat.ne_of_lt (Nat.lt_succ_self _))
 have I2 := Inv.made (C := C) I
 have r2 : Vals (V.ref (s.heap.objs.size + 1) :: (vs ++ dvs)) (Value.ref (s.heap.objs.size + 1) :: (us ++ ds)) := .cons rfl (r.append hd)
 have hl : (Value.ref (s.heap.objs.size + 1) :: us ++ ds).length = ps.length := by
  have e := r2.length
  rw [F.len _ _ _ _ hq] at e
  exact e.symm
 refine wpAny_call (g0y (f := f) I.kIn M.makes M.init (beq_iff_eq.mp M.fn) (codeAny_mono (F.run _ X.stack _ _ ⟨Value.ref (s.heap.objs.size + 1) :: us, []⟩ (Value.ref (s.heap.objs.size + 1) :: (us ++ ds)) _ _ E (hr.make C us [])
  (I2.env0.make C us []) (hb _ (Value.ref (s.heap.objs.size + 1) :: us) I2.kIn hl) r2 hq) fun r s' hq' => ?_))
 cases r with
 | error e => exact hx pins σ _ _ e s' I2 hq'
 | ok fl =>
  cases fl with
  | ret u =>
   obtain ⟨v, H', I3, rv, ev, q3⟩ := I2.after hq'
   subst ev
   exact ⟨rv, ⟨V.ref (s.heap.objs.size + 1), H', I3, rfl, q3⟩⟩
  | next => exact False.elim hq'
  | brk => exact False.elim hq'
  | cont => exact False.elim hq'
end
noncomputable def PK (X : Cx) (kws : List Keyword) (t : TA) : Prop :=
 ∀ (pos : Pos) (pins : List (Addr × Obj)) (s : Shared) (σ : St) (H : Hp) (Q : List V -> Hp -> Prop), Inv X pins σ H s -> t σ H Q -> wpAny (model X.prog X.w) X.A (evalAll ((backToKw pos (keywordEach kws X.env)).map (·.2))) (AP X pins σ Q) X.xe s
section
variable {X : Cx} {CX : CXT} {k : Nat} {f C : Addr} {fd : FuncData} {ps ks : List Str} {sp : Sp} {E : XK} {x m : Str} {p pos apos kpos : Pos} {e o : Expr} {es : List Expr} {kws : List Keyword} {te ta : TE} {t tk : TA} {nm : Option Str}
structure h5r (K : PySem.W.Frag) (fd : FuncData) (ps ks : List Str) (g : List Value -> List Value -> List Value) (gV : List V -> List V -> List V) : Prop where
 to : ∀ (s : Shared) (us ws : List Value), K.In s.heap -> (g us ws).length = ps.length -> BindsTo s fd ⟨us, ks.zip ws⟩ (ps.zip (g us ws))
 rel : ∀ {vs : List V} {us : List Value} {zs : List V} {ws : List Value}, Vals vs us -> Vals zs ws -> Vals (gV vs zs) (g us ws)
noncomputable def h5s (sp : Sp) (gV : List V -> List V -> List V) (E : XK) (t tk : TA) : TE := fun σ H Q => t σ H fun vs H1 => tk σ H1 fun zs H2 => sp (gV vs zs) H2 Q E
variable {g : List Value -> List Value -> List Value} {gV : List V -> List V -> List V}
end
structure a0r (N P : List Str) (sc : Scope) : Prop where
 kind : sc.kind = .function
 co : sc.isCoroutine = false
 gen : sc.isGenerator = false
 nd : N.Nodup
 pre : N.take P.length = P
 par : ∀ x ∈ P, sc.names.lookup x = some .local \/ sc.names.lookup x = some .cell
 g8i : ∀ y ∈ sc.names, y.2 ≠ .free
theorem d4u {kindOf : Str -> Option NameKind} {x : Str} : ∀ {binds : List (Str × Value)} {m : Str -> Option Value}, (∀ v, (x, v) ∉ binds) -> bindL kindOf binds m x = m x
 | [], _, _ => rfl
 | (n, v) :: r, m, h => by
  unfold bindL
  rw [d4u fun w hw => h w (List.mem_cons_of_mem _ hw)]
  split
  ·have : x ≠ n := by rintro rfl; exact h v List.mem_cons_self
   simp [this]
  ·rfl
theorem d4v {kindOf : Str -> Option NameKind} {x : Str} : ∀ {binds : List (Str × Value)} {m : Str -> Option Value}, (∀ v, (x, v) ∉ binds) -> bindC kindOf binds m x = m x
 | [], _, _ => rfl
 | (n, v) :: r, m, h => by
  unfold bindC
  rw [d4v fun w hw => h w (List.mem_cons_of_mem _ hw)]
  split
  ·rfl
  ·have : x ≠ n := by rintro rfl; exact h v List.mem_cons_self
   simp [this]
theorem d4w {kindOf : Str -> Option NameKind} {x : Str} {v : Value} : ∀ {P : List Str} {vs : List Value} {i : Nat} {m : Str -> Option Value}, P.Nodup -> P[i]? = some x -> vs[i]? = some v -> kindOf x = some .local ->
  bindL kindOf (P.zip vs) m x = some v
 | [], _, _, _, _, h, _, _ => by simp at h
 | _ :: _, [], _, _, _, _, h, _ => by simp at h
 | p :: P, w :: vs, 0, m, nd, h1, h2, hk => by
  simp at h1 h2; subst h1; subst h2
  show bindL kindOf ((p, w) :: P.zip vs) m p = _
  unfold bindL
  rw [d4u fun v hv => (List.nodup_cons.mp nd).1 (List.of_mem_zip hv).1, if_pos hk]
  simp
 | p :: P, w :: vs, i + 1, m, nd, h1, h2, hk => by
  show bindL kindOf ((p, w) :: P.zip vs) m x = _
  unfold bindL
  exact d4w (i := i) (List.nodup_cons.mp nd).2 (by simpa using h1) (by simpa using h2) hk
theorem d4y {kindOf : Str -> Option NameKind} {x : Str} {v : Value} : ∀ {P : List Str} {vs : List Value} {i : Nat} {m : Str -> Option Value}, P.Nodup -> P[i]? = some x -> vs[i]? = some v -> kindOf x ≠ some .local ->
  bindC kindOf (P.zip vs) m x = some v
 | [], _, _, _, _, h, _, _ => by simp at h
 | _ :: _, [], _, _, _, _, h, _ => by simp at h
 | p :: P, w :: vs, 0, m, nd, h1, h2, hk => by
  simp at h1 h2; subst h1; subst h2
  show bindC kindOf ((p, w) :: P.zip vs) m p = _
  unfold bindC
  rw [d4v fun v hv => (List.nodup_cons.mp nd).1 (List.of_mem_zip hv).1, if_neg hk]
  simp
 | p :: P, w :: vs, i + 1, m, nd, h1, h2, hk => by
  show bindC kindOf ((p, w) :: P.zip vs) m x = _
  unfold bindC
  exact d4y (i := i) (List.nodup_cons.mp nd).2 (by simpa using h1) (by simpa using h2) hk
noncomputable def start (N : List Str) (vs : List V) : St := vs.map some ++ List.replicate (N.length - vs.length) none
noncomputable def g3d (CX : CXT) (P : Program) (w : World) (K : PySem.W.Frag) (mg : Str -> Option Value) (base : Heap) (N : List Str) (qual : Str) (scope : Scope) (f : Addr) (cd : Value) (A : Around) (outer : List Env) (s : Shared) (H : Hp) (E : XK) : Cx where
 prog := P
 w := w
 K := K
 mg := mg
 base := base
 A := A.deeper (envOfC qual scope s.heap.objs.size f cd)
 N := N
 s₀ := s
 H₀ := H
 env := envOfC qual scope s.heap.objs.size f cd
 outer := outer
 stack := envOfC qual scope s.heap.objs.size f cd :: outer
 ex := []
 calm := true
 fn := fun _ => true
 pn := []
 xe := fun e s' => wpAny (model P w) (A.deeper (envOfC qual scope s.heap.objs.size f cd)) (leaving (envOfC qual scope s.heap.objs.size f cd) e) (fun _ s'' => CX outer H s E e s'') (fun e' s'' => CX outer H s E e' s'') s'
theorem f0m {sc : Scope} {n : Nat} {x : Str} (h : sc.names.lookup x = some .cell) : ∃ c, (cellsFrom n sc.names []).lookup x = some c := by
 have q := PySem.W.cellsFrom_some sc.names n [] (.inl h)
 exact Option.isSome_iff_exists.mp q
theorem f5v {CX : CXT} {P : Program} {w : World} {K : PySem.W.Frag} {mg : Str -> Option Value} {base : Heap} {N ps : List Str} {qual : Str} {scope : Scope} {f : Addr} {cd : Value} {A : Around} {outer : List Env} {s s1 : Shared} {H : Hp} {E : XK} {us : List Value} {vs : List V}
  (S : a0r N ps scope) (hd : A.handled = none) (e0 : f5u P w K mg base A outer s H) (hl : vs.length = ps.length) (r : Vals vs us)
  (x : InCallC s s.heap.objs.size (bindL (envOfC qual scope s.heap.objs.size f cd).kindOf (ps.zip us) fun _ => none) (cellsFrom (s.heap.objs.size + 1) scope.names []) (bindC (envOfC qual scope s.heap.objs.size f cd).kindOf (ps.zip us) fun _ => none) s1) :
  Inv (g3d CX P w K mg base N qual scope f cd A outer s H E) [] (start N vs) H s1 := by
 have hpl : ps.length <= N.length := by have := congrArg List.length S.pre; rw [List.length_take] at this; omega
 obtain ⟨h1, tk, rfl, hk⟩ := x.done
 have noA : ∀ b : Addr, b ∉ (g3d CX P w K mg base N qual scope f cd A outer s H E).ex := fun b z => absurd (show b ∈ ([] : List Addr) from z) (by simp)
 refine ⟨⟨e0.mod, S.kind, rfl, rfl, Nat.le_refl _, fun y z c h1 h2 => ?_, fun y hy => ?_, fun y c _ h => ?_, fun _ => hd, Around.frames_deeper e0.frames, .inr ⟨rfl, rfl⟩, fun b z => absurd z (noA b), e0.bs, e0.bsz, fun b _ _ => noA b, fun b z => absurd z (noA b), e0.d9y, e0.frf⟩,
  rfl, e0.bare, Un.kept hk, ⟨_, x.toInCall.ns, fun i y v h1 h2 h3 => ?_⟩, fun y c h => ⟨_, x.cell y c h⟩, e0.hok.fresh (Nat.le_refl _), fun y c h => ?_, fun p hp => absurd (show p ∈ ([] : List (Addr × Obj)) from hp) (by simp), e0.hok.kept hk, ?_⟩
 ·exact name_of_addr x.apart (PySem.mem_of_lookup h1) (PySem.mem_of_lookup h2)
 ·have hy : scope.names.lookup y = some .cell \/ scope.names.lookup y = some .free := hy
  rcases hy with hy | hy
  ·exact f0m hy
  ·exact absurd rfl (S.g8i _ (PySem.mem_of_lookup hy))
 ·exact Nat.le_of_lt (x.above y c (PySem.mem_of_lookup h))
 ·have hi : i < vs.length := by
   unfold start at h2
   by_cases hi : i < vs.length
   ·exact hi
   ·rw [List.getElem?_append_right (by simpa using hi)] at h2
    rw [List.getElem?_replicate] at h2
    split at h2 <;> cases h2
  have ha : vs[i]? = some v := by
   unfold start at h2
   rw [List.getElem?_append_left (by simpa using hi), List.getElem?_map] at h2
   cases e : vs[i]? with
   | none => rw [e] at h2; cases h2
   | some a => rw [e] at h2; cases h2; rfl
  obtain ⟨u, hu, rv⟩ := r.get ha
  have hp : ps[i]? = some y := by
   rw [<- S.pre, List.getElem?_take_of_lt (by omega)]; exact h1
  have ndP : ps.Nodup := by rw [<- S.pre]; exact S.nd.sublist (List.take_sublist _ _)
  refine ⟨u, rv, ?_⟩
  rcases S.par y (List.mem_of_getElem? hp) with k | k
  ·exact .inl ⟨k, d4w ndP hp hu k⟩
  ·obtain ⟨c, e⟩ := f0m (n := s.heap.objs.size + 1) k
   refine .inr ⟨.inl k, c, e, ?_⟩
   have q := x.cell y c e
   rw [d4y ndP hp hu (by show scope.names.lookup y ≠ _; rw [k]; decide)] at q
   exact q
 ·exact e0.hok.fresh (Nat.le_of_lt (x.above y c (PySem.mem_of_lookup h)))
 ·unfold start
  show _ = N.length
  rw [List.length_append, List.length_map, List.length_replicate]
  omega
theorem h3q {CX : CXT} {P : Program} {w : World} {K : PySem.W.Frag} {mg : Str -> Option Value} {base : Heap} {k : Nat} {f : Addr} {name qual : Str} {params : Arguments} {body : List Stmt} {scope : Scope} {dV kV doc pm cdv ct oc : Value} {an od : Option Addr}
  {osl : Array (Option Value)} {N ps : List Str} {sp : Sp} (lk : K.lookup f = some ⟨oc, od, .func (PySem.W.fnOf name qual params body scope dV kV doc pm an cdv ct), osl⟩) (hcd : PySem.W.codeIn K cdv qual = true) (S : a0r N ps scope)
  (len : ∀ vs H Q E, sp vs H Q E -> vs.length = ps.length)
  (hbody : ∀ (A : Around) (outer : List Env) (s : Shared) (H : Hp) (vs : List V) (Q : VK) (E : XK), a2y k (A.deeper (envOfC qual scope s.heap.objs.size f cdv)) -> sp vs H Q E ->
   ∃ t, PSs (g3d CX P w K mg base N qual scope f cdv A outer s H E) body t /\ t { nx := fun _ H' => Q .non H', rt := Q } (start N vs) H) :
  a1n P w K mg base CX (k + 1) f (PySem.W.fnOf name qual params body scope dV kV doc pm an cdv ct) ps sp := by
 refine ⟨len, fun A outer s H args us vs Q E hr e0 hb r hsp => ?_⟩
 have hl := len _ _ _ _ hsp
 have KX : K.In s.heap := e0.mod.kin.keeps fun b o e => (e0.bs b o e).1
 have lim : s.heap.NoLimit := e0.mod.nolimit.keeps fun b o e => (e0.bs b o e).1
 have hkind : ∀ y ∈ ps.zip us, scope.names.lookup y.1 = some .local \/ (scope.names.lookup y.1 = some .cell /\ ((cellsFrom (s.heap.objs.size + 1) scope.names []).lookup y.1).isSome = true) := fun ⟨n, v⟩ hy => by
  rcases S.par n (List.of_mem_zip hy).1 with q | q
  ·exact .inl q
  ·exact .inr ⟨q, PySem.W.cellsFrom_some _ _ _ (.inl q)⟩
 refine codeAny_call_function hr.depth (KX _ _ lk) rfl S.co S.gen rfl (PySem.W.codeRec_of KX hcd) (hb _ _ _ _ ?_)
 refine wpAny_newFunctionEnv_cells S.kind hkind fun env he s1 x => ?_
 subst he
 refine ⟨lim.keeps x.toInCall.keep, codeAny_func ?_⟩
 obtain ⟨t, ht, hq⟩ := hbody A outer s H vs Q E (hr.deeper _) hsp
 have I : Inv (g3d CX P w K mg base N qual scope f cdv A outer s H E) [] (start N vs) H s1 := f5v S hr.hd e0 hl r x
 refine wpAny_mono (ht [] s1 (start N vs) H _ I hq) (fun fl s' hs => ?_) fun e s' hs => hs
 have fin : ∀ {σ' : St} {H' : Hp} {v : V} {u : Value}, Inv (g3d CX P w K mg base N qual scope f cdv A outer s H E) [] σ' H' s' -> RelV v u -> Q v H' -> CE outer P w H s Q u s' :=
  fun {σ' H' v u} J rv q => ⟨v, H', J.os, J.bare, J.base, J.hok, rv, q⟩
 cases fl with
 | ret u =>
  obtain ⟨v, σ', H', J, rv, q⟩ := hs
  exact fin J rv q
 | next =>
  obtain ⟨σ', H', J, q⟩ := hs
  exact fin (v := V.non) (u := Value.none) J rfl q
 | brk =>
  obtain ⟨_, _, _, q⟩ := hs
  exact False.elim q
 | cont =>
  obtain ⟨_, _, _, q⟩ := hs
  exact False.elim q
end L2
namespace L2
open PySem PySem.Spec PyProof.Rows
section
variable {X : Cx} {x : Str} {p pos : Pos} {e : Expr} {es : List Expr} {t : TA} {id T : String} {r : List V -> Hp -> VK -> Prop}
noncomputable def tCB (r : List V -> Hp -> VK -> Prop) (t : TA) : TE := fun σ H Q => t σ H fun vs H1 => r vs H1 Q
theorem a0w (hc : a8p X (.builtin id) r) (hg : Gl X x) (hm : X.mg x = none) (hv : bootBuiltins x = some (.builtin id)) (ha : PA X (e :: es) t) (hn : x ≠ "__name__" := by decide) (hdb : (x == ("__debug__" : Str)) = false := by decide)
  (he : starEach (e :: es) X.env = (false, eval e X.env) :: starEach es X.env := by rfl) (hpl : (backTo pos (starEach es X.env)).any (·.1) = false := by rfl) : PE X (.Call (.Name x p) (e :: es) [] pos) (tCB r t) := by
 intro pins s σ H Q I h
 refine wpAny_Call_Name_kw (d1j I hg hm hv ?_ hn hdb)
 exact PyProof.Rows.callWith_builtin1 (thn (ha pos pins s σ H _ I h) fun us s1 ⟨vs, H1, I1, r1, q1⟩ => hc pins s1 σ H1 vs us Q I1 r1 q1) he hpl
theorem a2s (hc : a8p X (.type T) r) (hg : Gl X x) (hm : X.mg x = none) (hv : bootBuiltins x = some (.type T)) (ha : PA X (e :: es) t) (hn : x ≠ "__name__" := by decide) (hdb : (x == ("__debug__" : Str)) = false := by decide)
  (he : starEach (e :: es) X.env = (false, eval e X.env) :: starEach es X.env := by rfl) (hpl : (backTo pos (starEach es X.env)).any (·.1) = false := by rfl) : PE X (.Call (.Name x p) (e :: es) [] pos) (tCB r t) := by
 intro pins s σ H Q I h
 refine wpAny_Call_Name_kw (d1j I hg hm hv ?_ hn hdb)
 exact PyProof.Rows.callWith_type1 (thn (ha pos pins s σ H _ I h) fun us s1 ⟨vs, H1, I1, r1, q1⟩ => hc pins s1 σ H1 vs us Q I1 r1 q1) he hpl
end
end L2
namespace HT
open PySem PyProof.Rows
noncomputable def lexLt : List Int -> List Int -> Bool
 | [], [] => false
 | [], _ :: _ => true
 | _ :: _, [] => false
 | x :: xs, y :: ys => if x = y then lexLt xs ys else decide (x < y)
section
open PySem.SeqAt
open PySem.AutoSeq1 (wpAny_loadPart')
open PySem.MeetsSeq PySem.MeetsSeq2 PySem.MeetsSeq3
end
section
variable {prog : Program} {w : World} {A : Around} {E : Value -> Shared -> Prop} {s : Shared}
noncomputable def sIx (n d : Nat) : Option Int -> Nat
 | none => d
 | some v => if v < 0 then (v + (n : Int)).toNat else min v.toNat n
theorem f0n (n d : Nat) : sIx n d none = d := rfl
theorem f5w (n d k : Nat) : sIx n d (some (k : Int)) = min k n := by
 show (if (k : Int) < 0 then ((k : Int) + (n : Int)).toNat else min (k : Int).toNat n) = min k n
 rw [if_neg (by omega), Int.toNat_natCast]
end
end HT
namespace L2
open PySem PySem.Spec PyProof.Rows
noncomputable abbrev TO := St -> Hp -> (Option Int -> Hp -> Prop) -> Prop
noncomputable def PO (X : Cx) (e : Option Expr) (t : TO) : Prop :=
 ∀ (pins : List (Addr × Obj)) (s : Shared) (σ : St) (H : Hp) (Q : Option Int -> Hp -> Prop), Inv X pins σ H s -> t σ H Q ->
  wpAny (model X.prog X.w) X.A (evalPart e X.env) (fun u s' => ∃ o H', Inv X pins σ H' s' /\ IsPart u o /\ Q o H') X.xe s
noncomputable def f5y : TO := fun _ H Q => Q none H
noncomputable def g8j (t : TE) : TO := fun σ H Q => t σ H fun x H1 => ∃ i, x = .int i /\ Q (some i) H1
section
variable {X : Cx} {e : Expr} {te : TE} {lo hi : Option Expr} {tl th : TO} {pos p2 : Pos}
theorem b1p : PO X none f5y := by
 intro pins s σ H Q I h
 rw [evalPart_none]
 exact wpAny_pure ⟨none, H, I, .none, h⟩
theorem g4x (h : PE X e te) : PO X (some e) (g8j te) := by
 intro pins s σ H Q I hw
 rw [evalPart_some]
 refine thn (h pins s σ H _ I hw) fun u s1 ⟨x, H1, I1, r1, q1⟩ => ?_
 obtain ⟨i, rfl, q⟩ := q1
 obtain ⟨t, rfl⟩ := r1
 exact ⟨some i, H1, I1, .int i t, q⟩
noncomputable def SlR (X : Cx) (r : V -> Option Int -> Option Int -> Hp -> VK -> Prop) : Prop :=
 ∀ (pins : List (Addr × Obj)) (s : Shared) (σ : St) (H : Hp) (x : V) (v vl vu : Value) (lo hi : Option Int) (sl : Addr) (Q : VK), Inv X pins σ H s -> RelV x v -> s.heap.IsSliceOf sl vl vu .none -> IsPart vl lo -> IsPart vu hi -> r x lo hi H Q ->
  ∃ T id, typeLookup (.type T) "__getitem__" = pure (some (.builtin id)) ∧ s.TypeIs v T ∧ wpAny (model X.prog X.w) X.A (getItem v (.ref sl)) (EP X pins σ Q) X.xe s
theorem SlR.or {r r' : V -> Option Int -> Option Int -> Hp -> VK -> Prop} (h : SlR X r) (h' : SlR X r') : SlR X (fun x lo hi H Q => r x lo hi H Q \/ r' x lo hi H Q) := by
 intro pins s σ H x v vl vu lo hi sl Q I rx hs pl pu q
 rcases q with q | q
 ·exact h pins s σ H x v vl vu lo hi sl Q I rx hs pl pu q
 ·exact h' pins s σ H x v vl vu lo hi sl Q I rx hs pl pu q
noncomputable def tSl (r : V -> Option Int -> Option Int -> Hp -> VK -> Prop) (te : TE) (tl th : TO) : TE := fun σ H Q => te σ H fun x H1 => tl σ H1 fun l H2 => th σ H2 fun u H3 => r x l u H3 Q
theorem a6h {r : V -> Option Int -> Option Int -> Hp -> VK -> Prop} (hr : SlR X r) (he : PE X e te) (hl : PO X lo tl) (hu : PO X hi th) : PE X (.Subscript e (.Slice lo hi none p2) pos) (tSl r te tl th) := by
 intro pins s σ H Q I h
 refine Subscript_ (thn (he pins s σ H _ I h) fun v s1 ⟨x, H1, I1, r1, q1⟩ => ?_)
 refine wpAny_Slice (thn (hl pins s1 σ H1 _ I1 q1) fun vl s2 ⟨l, H2, I2, pl, q2⟩ => thn (hu pins s2 σ H2 _ I2 q2) fun vu s3 ⟨u, H3, I3, pu, q3⟩ => ?_)
 rw [evalPart_none]
 refine wpAny_pure ?_
 have I4 : Inv X pins σ H3 { s3 with heap := s3.heap.push { cls := .type "slice", data := .fields #[vl, vu, .none] } } := I3.kept (t' := s3.toks) fun b ob q => Heap.get?_push_of_some _ q
 obtain ⟨T, id, hT, ht, hg⟩ := hr pins { s3 with heap := s3.heap.push { cls := .type "slice", data := .fields #[vl, vu, .none] } } σ H3 x v vl vu l u s3.heap.objs.size Q I4 r1 (Heap.IsSliceOf.new ..) pl pu q3
 show wpAny (model X.prog X.w) X.A (subscriptTail e (.Slice lo hi none p2) v (.ref s3.heap.objs.size)) (EP X pins σ Q) X.xe { s3 with heap := s3.heap.push { cls := .type "slice", data := .fields #[vl, vu, .none] } }
 exact tail_any (ops := [.ref s3.heap.objs.size, v]) ht hT hg (by with_unfolding_all rfl)
noncomputable def d4z (xs : List V) (lo hi : Option Int) : List V := (xs.drop (HT.sIx xs.length 0 lo)).take (HT.sIx xs.length xs.length hi - HT.sIx xs.length 0 lo)
theorem d7s (xs : List V) (lo hi : Option Int) : (d4z xs lo hi).length <= xs.length := by
 unfold d4z
 rw [List.length_take, List.length_drop]
 omega
noncomputable def rSlT (K : PySem.W.Frag) : V -> Option Int -> Option Int -> Hp -> VK -> Prop := fun x lo hi H Q => ∃ a xs, x = .ref a /\ SqT K H a xs /\
 ¬ (HT.sIx xs.length 0 lo = 0 /\ HT.sIx xs.length xs.length hi = xs.length) /\ ∀ p, H p = none -> Q (.ref p) (upd H p (.tup (d4z xs lo hi)))
noncomputable def rLtT (K : PySem.W.Frag) : R2 := fun x y H Q => ∃ a b ns ms, x = .ref a /\ y = .ref b /\ SqT K H a (ns.map V.int) /\ SqT K H b (ms.map V.int) /\ Q (.bl (HT.lexLt ns ms)) H
noncomputable def rCatT (K : PySem.W.Frag) : R2 := fun x y H Q => ∃ a b xs ys, x = .ref a /\ y = .ref b /\ SqT K H a xs /\ SqT K H b ys /\ xs ≠ [] /\ xs.length + ys.length <= sizeLine /\
 (ys = [] -> Q (.ref a) H) /\ (ys ≠ [] -> ∀ p, H p = none -> Q (.ref p) (upd H p (.tup (xs ++ ys))))
end
end L2
namespace L2
open PySem PySem.Spec PyProof.Rows
noncomputable def ixN (n : Nat) (i : Int) : Option Nat := if 0 <= i then (if i < n then some i.toNat else none) else if -(n : Int) <= i then some (i + n).toNat else none
noncomputable def atI {α : Type} (xs : List α) (i : Int) : Option α := (ixN xs.length i).bind fun j => xs[j]?
theorem g4y {n : Nat} {i : Int} {j : Nat} (h : ixN n i = some j) : seqIndex? i n = some j /\ j < n /\ -(n : Int) <= i /\ i < n := by
 unfold ixN at h
 by_cases h0 : 0 <= i
 ·rw [if_pos h0] at h
  by_cases h1 : i < n
  ·rw [if_pos h1] at h
   have e : i.toNat = j := Option.some.inj h
   exact ⟨by rw [seqIndex_of h0 h1, e], by omega, by omega, h1⟩
  ·rw [if_neg h1] at h; cases h
 ·rw [if_neg h0] at h
  by_cases h1 : -(n : Int) <= i
  ·rw [if_pos h1] at h
   have e : (i + n).toNat = j := Option.some.inj h
   exact ⟨by rw [seqIndex_neg (by omega) h1, e], by omega, h1, by omega⟩
  ·rw [if_neg h1] at h; cases h
theorem d7t {α : Type} {xs : List α} {i : Int} {v : α} (h : atI xs i = some v) : ∃ j, seqIndex? i xs.length = some j /\ xs[j]? = some v /\ j < xs.length /\ -(xs.length : Int) <= i /\ i < xs.length := by
 unfold atI at h
 cases e : ixN xs.length i with
 | none => rw [e] at h; cases h
 | some j =>
  rw [e] at h
  obtain ⟨h1, h2, h3, h4⟩ := g4y e
  exact ⟨j, h1, h, h2, h3, h4⟩
theorem c4p {α : Type} {xs : List α} {j : Nat} {v : α} (h : xs[j]? = some v) : atI xs (j : Int) = some v := by
 have hj : j < xs.length := (List.getElem?_eq_some_iff.mp h).1
 have e : ixN xs.length (j : Int) = some j := by
  unfold ixN
  rw [if_pos (by omega), if_pos (by omega)]; simp
 unfold atI; rw [e]; exact h
noncomputable def g4z (b : Expr) : Prop := ∀ o i, subscripted b false o i = operate [o, i] (getItem o i)
noncomputable def IxR (X : Cx) (r : R2) : Prop :=
 ∀ (value slice : Expr) (pins : List (Addr × Obj)) (s : Shared) (σ : St) (H : Hp) (x y : V) (v u : Value) (Q : VK), Inv X pins σ H s -> RelV x v -> RelV y u -> r x y H Q ->
  subscripted slice false v u = operate [v, u] (getItem v u) -> wpAny (model X.prog X.w) X.A (subscriptTail value slice v u) (EP X pins σ Q) X.xe s
noncomputable def MtR (X : Cx) (id : String) (r : V -> List V -> Hp -> VK -> Prop) : Prop :=
 ∀ (pins : List (Addr × Obj)) (s : Shared) (σ : St) (H : Hp) (x : V) (xs : List V) (v : Value) (us : List Value) (Q : VK), Inv X pins σ H s -> RelV x v -> Vals xs us -> r x xs H Q ->
  wpAny (model X.prog X.w) X.A (call (.builtin id) (v :: us)) (EP X pins σ Q) X.xe s
section
variable {X : Cx} {a b : Expr} {ta tb : TE} {pos : Pos}
theorem IxR.or {r r' : R2} (h : IxR X r) (h' : IxR X r') : IxR X (fun x y H Q => r x y H Q \/ r' x y H Q) := by
 intro value slice pins s σ H x y v u Q I rx ry q hs
 rcases q with q | q
 ·exact h value slice pins s σ H x y v u Q I rx ry q hs
 ·exact h' value slice pins s σ H x y v u Q I rx ry q hs
theorem MtR.or {id : String} {r r' : V -> List V -> Hp -> VK -> Prop} (h : MtR X id r) (h' : MtR X id r') : MtR X id (fun x xs H Q => r x xs H Q \/ r' x xs H Q) := by
 intro pins s σ H x xs v us Q I rx rs q
 rcases q with q | q
 ·exact h pins s σ H x xs v us Q I rx rs q
 ·exact h' pins s σ H x xs v us Q I rx rs q
theorem a1o {r : R2} (hr : IxR X r) (ha : PE X a ta) (hb : PE X b tb) (hs : g4z b) : PE X (.Subscript a b pos) (tOp r ta tb) := by
 intro pins s σ H Q I h
 exact Subscript_ (h3h ha hb I h fun v u s2 x y H2 I2 rx ry q => hr a b pins s2 σ H2 x y v u Q I2 rx ry q (hs _ _))
noncomputable def h5t (K : PySem.W.Frag) : R2 := fun x y H Q => ∃ p xs i v, x = .ref p /\ y = .int i /\ SqL K H p xs /\ atI xs i = some v /\ Q v H
noncomputable def h5u (K : PySem.W.Frag) : R2 := fun x y H Q => ∃ p xs i v, x = .ref p /\ y = .int i /\ SqT K H p xs /\ atI xs i = some v /\ Q v H
noncomputable def h5v : R2 := fun x y H Q => ∃ z i c, x = .str z /\ y = .int i /\ z.length <= sizeLine /\ atI z.cps.toList i = some c /\ Q (.str ⟨#[c]⟩) H
theorem f5z : IxR X (h5t X.K) := by
 intro value slice pins s σ H x y v u Q I rx ry h hs
 obtain ⟨p, xs, i, z, rfl, rfl, hq, he, q⟩ := h
 cases rx
 obtain ⟨t, rfl⟩ := ry
 obtain ⟨its, r, pl, hz⟩ := I.list hq
 obtain ⟨j, h1, h2, h3, h4, h5⟩ := d7t he
 obtain ⟨w, ew, rw'⟩ := r.get h2
 have hl := r.length
 have hn := d4r
 have fin : EP X pins σ Q w s := ⟨z, H, I, rw', q⟩
 by_cases h0 : 0 <= i
 ·have hj : i.toNat = j := by
   rw [seqIndex_of h0 h5] at h1
   exact Option.some.inj h1
  exact item_listR pl.isList h0 (by omega) (by rw [hj]; simpa using ew) fin hs
 ·have hj : (i + (its.toArray.size : Int)).toNat = j := by
   rw [seqIndex_neg (by omega) h4] at h1
   rw [List.size_toArray, <- hl]
   exact Option.some.inj h1
  exact subscriptTail_builtinR (x := w) pl.isList.typeIs slot_list_getitem.lookup
   (wpAny_getItem_list_neg (Q := fun r s' => r = w /\ EP X pins σ Q r s') pl.isList (by omega) (by rw [List.size_toArray] <;> omega) (by omega) (by rw [hj]; simpa using ew) ⟨rfl, fin⟩) hs
theorem g8k : IxR X (h5u X.K) := by
 intro value slice pins s σ H x y v u Q I rx ry h hs
 obtain ⟨p, xs, i, z, rfl, rfl, hq, he, q⟩ := h
 cases rx
 obtain ⟨t, rfl⟩ := ry
 obtain ⟨its, r, pl, hz⟩ := I.tuple hq
 obtain ⟨j, h1, h2, h3, h4, h5⟩ := d7t he
 obtain ⟨w, ew, rw'⟩ := r.get h2
 have hl := r.length
 have hn := d4r
 have fin : EP X pins σ Q w s := ⟨z, H, I, rw', q⟩
 exact subscriptTail_builtinR (x := w) pl.typeIs slot_tuple_getitem.lookup
  (getItem_tuple (j := j) (Q := fun r s' => r = w /\ EP X pins σ Q r s') pl (by omega) (by omega) (by rw [List.size_toArray, <- hl]; exact h1) (by simpa using ew) ⟨rfl, fin⟩) hs
theorem g8l : IxR X h5v := by
 intro value slice pins s σ H x y v u Q I rx ry h hs
 obtain ⟨z, i, c, rfl, rfl, hz, he, q⟩ := h
 obtain ⟨t, rfl⟩ := rx
 obtain ⟨t', rfl⟩ := ry
 obtain ⟨j, h1, h2, h3, h4, h5⟩ := d7t he
 have hl : z.cps.toList.length = z.length := by simp [Str.length]
 rw [hl] at h1 h4 h5
 have hn := d4r
 exact tail_any (typeIs_str s z t) slot_str_getitem.lookup (getItem_str (c := c) (by
  have e1 : decide (i < -(2 ^ 63 : Int)) = false := decide_eq_false (by omega)
  have e2 : decide (i ≥ 2 ^ 63) = false := decide_eq_false (by omega)
  rw [e1, e2, Bool.or_false]) (by rw [h1]; simpa using h2) ⟨.str ⟨#[c]⟩, H, I.tok _, ⟨_, rfl⟩, q⟩) hs
noncomputable def rIx (K : PySem.W.Frag) : R2 := fun x y H Q => h5t K x y H Q \/ h5u K x y H Q \/ h5v x y H Q
theorem Inv.lst {pins : List (Addr × Obj)} {σ : St} {H : Hp} {s : Shared} {p : Addr} {xs : List V} (I : Inv X pins σ H s) (h : H p = some (.lst xs)) :
  ∃ (its : List Value) (n : Nat), Vals xs its ∧ s.heap.get? p = some { cls := .type "list", data := .seq its.toArray n } ∧ xs.length ≤ sizeLine := by
 obtain ⟨z, its, n, r, e⟩ := I.hok p _ h
 exact ⟨its, n, r, e, z⟩
noncomputable def rSetL : V -> V -> V -> Hp -> (Hp -> Prop) -> Prop := fun o i v H Q => ∃ p xs k j, o = .ref p /\ i = .int k /\ H p = some (.lst xs) /\ ixN xs.length k = some j /\ Q (upd H p (.lst (xs.set j v)))
theorem d5g (lo hi : Option Int) (n : Nat) : (sliceBounds lo hi none n).1 = ((HT.sIx n 0 lo : Nat) : Int) /\ (sliceBounds lo hi none n).2.1 = ((HT.sIx n n hi : Nat) : Int) /\ (sliceBounds lo hi none n).2.2 = 1 := by
 refine ⟨?_, ?_, rfl⟩
 ·cases lo with
  | none => simp [sliceBounds, HT.sIx]
  | some i =>
   simp only [sliceBounds, HT.sIx, Option.getD_none, show (1 : Int) > 0 by decide, if_true]
   by_cases h : i < 0
   ·simp only [h, if_true] <;> omega
   ·simp only [h, if_false] <;> omega
 ·cases hi with
  | none => simp [sliceBounds, HT.sIx]
  | some i =>
   simp only [sliceBounds, HT.sIx, Option.getD_none, show (1 : Int) > 0 by decide, if_true]
   by_cases h : i < 0
   ·simp only [h, if_true] <;> omega
   ·simp only [h, if_false] <;> omega
theorem d2o (its : List Value) (lo hi : Option Int) : slicePick its.toArray lo hi none = ((its.drop (HT.sIx its.length 0 lo)).take (HT.sIx its.length its.length hi - HT.sIx its.length 0 lo)).toArray := by
 obtain ⟨h1, h2, h3⟩ := d5g lo hi its.toArray.size
 unfold slicePick
 rw [h1, h2, h3]
 simp only [sliceRange_one, pick_run, List.size_toArray] <;> rfl
noncomputable def rSlL (K : PySem.W.Frag) : V -> Option Int -> Option Int -> Hp -> VK -> Prop := fun x lo hi H Q => ∃ a xs, x = .ref a /\ SqL K H a xs /\ ∀ p, H p = none -> Q (.ref p) (upd H p (.lst (d4z xs lo hi)))
theorem f6g : SlR X (rSlL X.K) := by
 intro pins s σ H x v vl vu lo hi sl Q I rx hs pl pu h
 obtain ⟨a, xs, rfl, hx, q⟩ := h
 cases rx
 obtain ⟨its, r, ht, hz⟩ := I.list hx
 have hlen := r.length
 refine ⟨"list", _, slot_list_getitem.lookup, ht.isList.typeIs, ?_⟩
 refine wpAny_getItem_list_slice ht.isList hs pl pu .none (by simp) ?_ (by rw [List.size_toArray] <;> omega)
 rw [d2o, <- hlen]
 refine ⟨.ref s.heap.objs.size, _, I.laid (t' := s.toks) (o := .lst (d4z xs lo hi)) (fun b ob q => Heap.get?_push_of_some _ q) (Nat.le_refl _) ?_, rfl, q _ (I.hok.fresh (Nat.le_refl _))⟩
 exact ⟨Nat.le_trans (d7s xs lo hi) hz, _, 0, (r.drop (HT.sIx xs.length 0 lo)).take (HT.sIx xs.length xs.length hi - HT.sIx xs.length 0 lo), Heap.get?_push_size _ rfl⟩
noncomputable def c1t : V -> Bool
 | .non => true
 | .bl _ => true
 | .int _ => true
 | .str _ => true
 | _ => false
noncomputable def eqV : V -> V -> Bool
 | .non, .non => true
 | .bl a, .bl b => a == b
 | .bl a, .int b => (if a then 1 else 0) == b
 | .int a, .bl b => a == (if b then 1 else 0)
 | .int a, .int b => a == b
 | .str a, .str b => a == b
 | _, _ => false
theorem g8m {A : Around} {s : Shared} {y x : V} {u v : Value} (ry : RelV y u) (rx : RelV x v) (fy : c1t y = true) (fx : c1t x = true) : SeqAt.EqAt A s u v (eqV y x) := by
 cases y with
 | non =>
  cases ry
  cases x with
  | non => cases rx; exact SeqAt.EqAt.same _
  | bl b => cases rx; exact SeqAt.EqAt.none_bool b
  | int b => obtain ⟨t, rfl⟩ := rx; exact SeqAt.EqAt.none_int b t
  | str b => obtain ⟨t, rfl⟩ := rx; exact SeqAt.EqAt.none_str b t
  | _ => exact absurd (show false = true from fx) Bool.false_ne_true
 | bl a =>
  cases ry
  cases x with
  | non => cases rx; exact SeqAt.EqAt.bool_none a
  | bl b => cases rx; exact SeqAt.EqAt.bool_bool a b
  | int b => obtain ⟨t, rfl⟩ := rx; exact SeqAt.EqAt.bool_int a b t
  | str b => obtain ⟨t, rfl⟩ := rx; exact SeqAt.EqAt.bool_str a b t
  | _ => exact absurd (show false = true from fx) Bool.false_ne_true
 | int a =>
  obtain ⟨t', rfl⟩ := ry
  cases x with
  | non => cases rx; exact SeqAt.EqAt.int_none a t'
  | bl b => cases rx; exact SeqAt.EqAt.int_bool a t' b
  | int b => obtain ⟨t, rfl⟩ := rx; exact SeqAt.EqAt.int_int a t' b t
  | str b => obtain ⟨t, rfl⟩ := rx; exact SeqAt.EqAt.int_str a t' b t
  | _ => exact absurd (show false = true from fx) Bool.false_ne_true
 | str a =>
  obtain ⟨t', rfl⟩ := ry
  cases x with
  | non => cases rx; exact SeqAt.EqAt.str_none a t'
  | bl b => cases rx; exact SeqAt.EqAt.str_bool a t' b
  | int b => obtain ⟨t, rfl⟩ := rx; exact SeqAt.EqAt.str_int a t' b t
  | str b => obtain ⟨t, rfl⟩ := rx; exact SeqAt.EqAt.str_str a t' b t
  | _ => exact absurd (show false = true from fx) Bool.false_ne_true
 | _ => exact absurd (show false = true from fy) Bool.false_ne_true
noncomputable def eqU (x : V) (u : Value) : Bool := match u with
 | .none => eqV .non x
 | .bool b => eqV (.bl b) x
 | .int i _ => eqV (.int i) x
 | .str z _ => eqV (.str z) x
 | _ => false
theorem g3e {x y : V} {u : Value} (r : RelV y u) (f : c1t y = true) : eqU x u = eqV y x := by
 cases y with
 | non => cases r; rfl
 | bl b => cases r; rfl
 | int i => obtain ⟨t, rfl⟩ := r; rfl
 | str z => obtain ⟨t, rfl⟩ := r; rfl
 | _ => exact absurd (show false = true from f) Bool.false_ne_true
theorem d7u {x : V} : ∀ {xs : List V} {us : List Value}, Vals xs us -> xs.all c1t = true -> us.any (eqU x) = xs.any fun y => eqV y x
 | _, _, .nil, _ => rfl
 | y :: xs, u :: us, .cons r t, f => by
  rw [List.all_cons, Bool.and_eq_true] at f
  rw [List.any_cons, List.any_cons, g3e r f.1, d7u t f.2]
theorem d2p {A : Around} {s : Shared} {x : V} {v : Value} (rx : RelV x v) (fx : c1t x = true) : ∀ {xs : List V} {us : List Value}, Vals xs us -> xs.all c1t = true -> ∀ u ∈ us, SeqAt.EqAt A s u v (eqU x u)
 | _, _, .nil, _ => fun u hu => by cases hu
 | y :: xs, u :: us, .cons r t, f => fun u' hu => by
  rw [List.all_cons, Bool.and_eq_true] at f
  rcases List.mem_cons.mp hu with rfl | hu
  ·rw [g3e r f.1]; exact g8m r rx f.1 fx
  ·exact d2p rx fx t f.2 u' hu
noncomputable def inV (x : V) (xs : List V) : Bool := xs.any fun y => eqV y x
noncomputable def rIn (K : PySem.W.Frag) (neg : Bool) : R2 := fun x y H Q => ∃ p xs, y = .ref p /\ (SqL K H p xs \/ SqT K H p xs) /\ c1t x = true /\ xs.all c1t = true /\ Q (.bl (if neg then !inV x xs else inV x xs)) H
theorem c6j : OpR X (compareOp .NotIn) (rIn X.K true) := by
 intro pins s σ H x y v u Q I rx ry h
 obtain ⟨p, xs, rfl, hq, fx, fs, q⟩ := h
 cases ry
 rcases hq with hq | hq
 ·obtain ⟨its, r, pl, hz⟩ := I.list hq
  refine SeqAt.notIn_listAt (eqU x) pl.isList (fun w hw => d2p rx fx r fs w (by simpa using hw)) ⟨.bl _, H, I, rfl, ?_⟩
  rw [show its.toArray.any (eqU x) = its.any (eqU x) by simp, d7u r fs]
  exact q
 ·obtain ⟨its, r, pl, hz⟩ := I.tuple hq
  refine SeqAt.notIn_tupleAt (eqU x) pl (fun w hw => d2p rx fx r fs w (by simpa using hw)) ⟨.bl _, H, I, rfl, ?_⟩
  rw [show its.toArray.any (eqU x) = its.any (eqU x) by simp, d7u r fs]
  exact q
theorem d5h : OpR X (compareOp .NotIn) (fun x y H Q => ∃ i j, x = .str i /\ y = .str j /\ Q (.bl (!(!(Builtin.Str.occurrences j i 0 j.length 1).isEmpty))) H) := by
 intro pins s σ H x y v u Q I rx ry h
 obtain ⟨i, j, rfl, rfl, q⟩ := h
 obtain ⟨t, rfl⟩ := rx
 obtain ⟨t', rfl⟩ := ry
 exact notIn_str ⟨.bl _, H, I, rfl, q⟩
theorem b8t : a8p X (.builtin "len") (fun xs H Q => ∃ p ys, xs = [.ref p] ∧ (SqL X.K H p ys ∨ SqT X.K H p ys) ∧ Q (.int ys.length) H) := by
 intro pins s σ H xs us Q I r h
 obtain ⟨p, ys, rfl, hq, q⟩ := h
 obtain ⟨u, rfl, rx⟩ := vals1 r
 cases rx
 have hn := d4r
 rcases hq with hq | hq
 ·obtain ⟨its, r', pl, hz⟩ := I.list hq
  have hlen := r'.length
  exact Calls.call_len_list pl.isList (by simp only [List.size_toArray] <;> omega) ⟨.int ys.length, H, I.tok _, ⟨s.toks + 1, by rw [List.size_toArray, hlen]⟩, q⟩
 ·obtain ⟨its, r', pl, hz⟩ := I.tuple hq
  have hlen := r'.length
  exact len_tuple pl (by simp only [List.size_toArray] <;> omega) ⟨.int ys.length, H, I.tok _, ⟨s.toks + 1, by rw [List.size_toArray, hlen]⟩, q⟩
theorem d5i : a8p X (.builtin "len") (fun xs H Q => ∃ z, xs = [.str z] ∧ z.length ≤ sizeLine ∧ Q (.int z.length) H) := by
 intro pins s σ H xs us Q I r h
 obtain ⟨z, rfl, hz, q⟩ := h
 obtain ⟨u, rfl, t, rfl⟩ := vals1 r
 have hn := d4r
 exact len_str (by omega) ⟨.int z.length, H, I.tok _, ⟨_, rfl⟩, q⟩
theorem a8p.or {f : Value} {r r' : List V -> Hp -> VK -> Prop} (h : a8p X f r) (h' : a8p X f r') : a8p X f (fun xs H Q => r xs H Q \/ r' xs H Q) := by
 intro pins s σ H xs us Q I rs q
 rcases q with q | q
 ·exact h pins s σ H xs us Q I rs q
 ·exact h' pins s σ H xs us Q I rs q
theorem d5j : a8p X (.type "list") (fun xs H Q => ∃ p ys, xs = [.ref p] ∧ (SqL X.K H p ys ∨ SqT X.K H p ys) ∧ ∀ l, H l = none → Q (.ref l) (upd H l (.lst ys))) := by
 intro pins s σ H xs us Q I r h
 obtain ⟨p, ys, rfl, hq, q⟩ := h
 obtain ⟨u, rfl, rx⟩ := vals1 r
 cases rx
 have fin : ∀ (its : List Value), Vals ys its -> ys.length <= sizeLine -> ∀ (h' : Heap) (c' : Nat), (∀ b o', s.heap.get? b = some o' -> h'.get? b = some o') ->
   h'.get? s.heap.objs.size = some { cls := .type "list", dict := none, data := .seq its.toArray c', slots := #[] } → EP X pins σ Q (.ref s.heap.objs.size) { s with heap := h' } := fun its r' hz h' c' kp e =>
  ⟨.ref s.heap.objs.size, _, I.laid (t' := s.toks) kp (Nat.le_refl _) (show b2u X.prog X.w _ h' _ (.lst ys) from ⟨hz, its, c', r', e⟩), rfl, q _ (I.hok.fresh (Nat.le_refl _))⟩
 rcases hq with hq | hq
 ·obtain ⟨its, r', pl, hz⟩ := I.list hq
  have hlen := r'.length
  obtain ⟨o, ho, hc, n, hd⟩ := pl.isList
  exact call_list_seq p (.inl rfl) ho hc hd (fun h' c' kp e => fin its r' hz h' c' kp e) (by simp only [List.size_toArray] <;> omega)
 ·obtain ⟨its, r', pl, hz⟩ := I.tuple hq
  have hlen := r'.length
  obtain ⟨o, ho, hc, n, hd⟩ := pl
  exact call_list_seq p (.inr rfl) ho hc hd (fun h' c' kp e => fin its r' hz h' c' kp e) (by simp only [List.size_toArray] <;> omega)
theorem d2q : a8p X (.type "tuple") (fun xs H Q => ∃ p ys, xs = [.ref p] ∧ ((SqL X.K H p ys ∧ ∀ l, H l = none → Q (.ref l) (upd H l (.tup ys))) ∨ (SqT X.K H p ys ∧ Q (.ref p) H))) := by
 intro pins s σ H xs us Q I r h
 obtain ⟨p, ys, rfl, h⟩ := h
 obtain ⟨u, rfl, rx⟩ := vals1 r
 cases rx
 rcases h with ⟨hq, q⟩ | ⟨hq, q⟩
 ·obtain ⟨its, r', pl, hz⟩ := I.list hq
  have hlen := r'.length
  refine call_tuple_list pl.isList (fun h' kp => ?_) (by simp only [List.size_toArray] <;> omega)
  have I1 : Inv X pins σ H { s with heap := h' } := I.kept (t' := s.toks) kp
  have I2 : Inv X pins σ (upd H h'.objs.size (.tup ys)) { s with heap := h'.push { cls := .type "tuple", data := .seq its.toArray } } :=
   I1.laid (t' := s.toks) (fun b o e => Heap.get?_push_of_some _ e) (Nat.le_refl _) (show b2u X.prog X.w _ _ _ (.tup ys) from ⟨hz, its, r', IsTup.new _ _⟩)
  exact ⟨.ref h'.objs.size, _, I2, rfl, q _ (I1.hok.fresh (Nat.le_refl _))⟩
 ·obtain ⟨its, r', pl, hz⟩ := I.tuple hq
  exact call_tuple_same pl ⟨.ref p, H, I, rfl, q⟩
noncomputable def tyV (K : PySem.W.Frag) (T : String) (x : V) (H : Hp) : Prop := match x with
 | .str _ => T = "str"
 | .int _ => T = "int"
 | .ref p => (T = "list" ∧ ∃ xs, SqL K H p xs) ∨ (T = "tuple" ∧ ∃ o, K.lookup p = some o ∧ o.cls = .type "tuple" ∧ o.dict = none) ∨
   (T = "dict" ∧ ((∃ kvs, H p = some (.dK kvs)) ∨ ∃ kvs, H p = some (.dT kvs))) ∨ (T = "set" ∧ ∃ S n, H p = some (.set S n))
 | _ => False
theorem g8n {pins : List (Addr × Obj)} {σ : St} {H : Hp} {s : Shared} {T : String} {x : V} {v : Value} (I : Inv X pins σ H s) (r : RelV x v) (ty : tyV X.K T x H) :
  s.TypeIs v T /\ ∀ a, v = .ref a -> ∃ ob, s.heap.get? a = some ob /\ ob.dict = none := by
 cases x with
 | str z =>
  obtain ⟨t, rfl⟩ := r
  cases (show T = "str" from ty)
  exact ⟨typeIs_str s z t, fun _ e => nomatch e⟩
 | int i =>
  obtain ⟨t, rfl⟩ := r
  cases (show T = "int" from ty)
  exact ⟨typeIs_int s i t, fun _ e => nomatch e⟩
 | ref p =>
  cases r
  rcases ty with ⟨rfl, xs, hq⟩ | ⟨rfl, o, hk, hc, hd⟩ | ⟨rfl, hk⟩ | ⟨rfl, S, n, hk⟩
  ·obtain ⟨its, _, pl, _⟩ := I.list hq
   refine ⟨pl.isList.typeIs, fun a e => ?_⟩
   cases e
   obtain ⟨o, n, e, c, hd, _⟩ := pl
   exact ⟨o, e, hd⟩
  ·refine ⟨⟨o, I.kIn p o hk, hc⟩, fun a e => ?_⟩
   cases e
   exact ⟨o, I.kIn _ o hk, hd⟩
  ·have z : ∃ o, s.heap.get? p = some o /\ o.ExactDict := by
    rcases hk with ⟨kvs, hk⟩ | ⟨kvs, hk⟩
    ·obtain ⟨_, _, _, _, o, _, _, e, ex, _⟩ := I.hok p _ hk
     exact ⟨o, e, ex⟩
    ·obtain ⟨_, _, _, _, o, _, _, e, ex, _⟩ := I.hok p _ hk
     exact ⟨o, e, ex⟩
   obtain ⟨o, e, ex⟩ := z
   refine ⟨⟨o, e, ex.1⟩, fun a e2 => ?_⟩
   cases e2
   exact ⟨o, e, ex.2.1⟩
  ·obtain ⟨o, _, _, _, e, ex, _⟩ := I.hok p _ hk
   refine ⟨⟨o, e, ex.1⟩, fun a e2 => ?_⟩
   cases e2
   exact ⟨o, e, ex.2.1⟩
 | _ => exact False.elim ty
noncomputable def tBM0 (K : PySem.W.Frag) (T : String) (r : V -> List V -> Hp -> VK -> Prop) (to : TE) : TE := fun σ H Q => to σ H fun x H1 => tyV K T x H1 /\ r x [] H1 Q
noncomputable def tBM (K : PySem.W.Frag) (T : String) (r : V -> List V -> Hp -> VK -> Prop) (to : TE) (t : TA) : TE := fun σ H Q => to σ H fun x H1 => tyV K T x H1 /\ t σ H1 fun xs H2 => r x xs H2 Q
variable {o e : Expr} {es : List Expr} {to : TE} {t : TA} {name : Str} {apos cpos : Pos} {T id : String} {r : V -> List V -> Hp -> VK -> Prop}
/- xs.append(e), list.index on a module's tuple .. are MtR facts of 06m -/
end
end L2
namespace L2
open PySem PySem.Spec PyProof.Rows
noncomputable def MtM (X : Cx) (id : String) (r : V -> List V -> Hp -> VK -> Prop) : Prop :=
 ∀ (pins : List (Addr × Obj)) (s : Shared) (σ : St) (H : Hp) (x : V) (xs : List V) (v : Value) (us : List Value) (Q : VK), Inv X pins σ H s -> RelV x v -> Vals xs us -> r x xs H Q ->
  wpAny (model X.prog X.w) X.A (call (.builtin id) (v :: us)) (EP X pins σ Q) X.xe s
theorem Vals.one : ∀ {x : V} {us : List Value}, Vals [x] us -> ∃ u, us = [u] /\ RelV x u
 | _, _, .cons r .nil => ⟨_, rfl, r⟩
theorem Vals.two : ∀ {x y : V} {us : List Value}, Vals [x, y] us -> ∃ u v, us = [u, v] /\ RelV x u /\ RelV y v
 | _, _, _, .cons r (.cons q .nil) => ⟨_, _, rfl, r, q⟩
theorem Vals.zero : ∀ {us : List Value}, Vals [] us -> us = []
 | _, .nil => rfl
theorem Vals.dropLast {xs : List V} {us : List Value} (h : Vals xs us) : Vals xs.dropLast us.dropLast := by
 induction h with
 | nil => exact .nil
 | cons r t ih =>
  cases t with
  | nil => exact .nil
  | cons q t' => exact .cons r ih
theorem Vals.eraseIdx : ∀ {xs : List V} {us : List Value} (i : Nat), Vals xs us -> Vals (xs.eraseIdx i) (us.eraseIdx i)
 | _, _, _, .nil => .nil
 | _, _, 0, .cons _ t => t
 | _, _, i + 1, .cons r t => .cons r (Vals.eraseIdx i t)
theorem Vals.reverse {xs : List V} {us : List Value} (h : Vals xs us) : Vals xs.reverse us.reverse := by
 induction h with
 | nil => exact .nil
 | cons r t ih => rw [List.reverse_cons, List.reverse_cons]; exact Vals.append ih (.cons r .nil)
theorem Vals.rep {xs : List V} {us : List Value} (h : Vals xs us) : ∀ k : Nat, Vals (List.replicate k xs).flatten (List.replicate k us).flatten
 | 0 => .nil
 | k + 1 => by
  rw [List.replicate_succ, List.replicate_succ, List.flatten_cons, List.flatten_cons]
  exact Vals.append h (Vals.rep h k)
theorem foldl_rep (its : List Value) : ∀ (k : Nat) (acc : List Value),
  List.foldl (fun x1 x2 => x1 ++ x2) acc.toArray (List.replicate k its.toArray) = (acc ++ (List.replicate k its).flatten).toArray
 | 0, acc => by simp
 | k + 1, acc => by
  have e : acc.toArray ++ its.toArray = (acc ++ its).toArray := by simp
  have e2 : (acc ++ its) ++ (List.replicate k its).flatten = acc ++ (List.replicate (k + 1) its).flatten := by
   rw [List.replicate_succ, List.flatten_cons, List.append_assoc]
  rw [<- e2, <- foldl_rep its k (acc ++ its), <- e, List.replicate_succ, List.foldl_cons]
section
variable {X : Cx} {pins : List (Addr × Obj)} {σ : St} {H : Hp} {s : Shared} {l b : Addr} {xs ys zs : List V}
theorem Inv.h5w {its its' : List Value} {n : Nat} {f : Array Value -> Array Value} {t' : Nat} (I : Inv X pins σ H s) (hH : H l = some (.lst xs))
  (e : s.heap.get? l = some { cls := .type "list", data := .seq its.toArray n }) (hf : f its.toArray = its'.toArray) (hv : Vals ys its') (hz : ys.length ≤ sizeLine) :
  Inv X pins σ (upd H l (.lst ys)) { s with heap := s.heap.update l (Obj.mapSeq f), toks := t' } := by
 have q := PySem.IsL.update e f
 rw [hf] at q
 refine I.write (x := l) (e := l) (by rw [hH]; exact trivial) (.inl rfl) (fun b' u hb hu => (Heap.get?_update_other s.heap (Obj.mapSeq f) (Ne.symm hb)).trans hu) ⟨_, q⟩ ?_
 exact ⟨hz, its', _, hv, q⟩
theorem Inv.h5x {its : List Value} {t' : Nat} (I : Inv X pins σ H s) (hv : Vals ys its) (hz : ys.length <= sizeLine) :
  Inv X pins σ (upd H s.heap.objs.size (.lst ys)) { s with heap := s.heap.push { cls := .type "list", data := .seq its.toArray }, toks := t' } :=
 I.laid (fun _ _ q => Heap.get?_push_of_some _ q) (Nat.le_refl _) ⟨hz, its, 0, hv, Heap.get?_push_size _ rfl⟩
theorem Inv.fresh (I : Inv X pins σ H s) : H s.heap.objs.size = none := I.hok.fresh (Nat.le_refl _)
theorem Inv.g8o (I : Inv X pins σ H s) (hH : H l = some (.lst xs)) : xs.length ≤ sizeLine ∧ ∃ (its : List Value) (n : Nat), Vals xs its ∧ xs.length = its.length ∧ s.heap.get? l = some { cls := .type "list", data := .seq its.toArray n } := by
 obtain ⟨z, its, n, r, e⟩ := I.hok l _ hH
 exact ⟨z, its, n, r, r.length, e⟩
theorem g1a {n : Nat} (h : n <= sizeLine) : Builtin.List.listTooLong n = false := by
 unfold Builtin.List.listTooLong
 exact decide_eq_false (by omega)
end
section
variable {X : Cx}
noncomputable def f6h : V -> List V -> Hp -> VK -> Prop := fun x vs H Q => ∃ l xs y, x = .ref l /\ vs = [y] /\ H l = some (.lst xs) /\ xs.length < sizeLine /\ Q .non (upd H l (.lst (xs ++ [y])))
theorem d5k : MtM X "list.append" f6h := by
 intro pins s σ H x vs v us Q I rx rv h
 obtain ⟨l, xs, y, rfl, rfl, hH, hz, q⟩ := h
 cases rx
 obtain ⟨u, rfl, ru⟩ := rv.one
 obtain ⟨z, its, n, r, hl, e⟩ := I.g8o hH
 refine call_meets F.slot_list_append ⟨_, e, rfl⟩ F.entry_list_append (F.args_list_append_2 _ _) (PySem.list_append l its.toArray n u (by rw [List.size_toArray]; omega)) ⟨e, ?_⟩
 refine ⟨.non, _, I.h5w (its' := its ++ [u]) hH e (by simp) (r.append (.cons ru .nil)) ?_, rfl, q⟩
 rw [List.length_append, List.length_singleton]
 omega
noncomputable def h3r : V -> List V -> Hp -> VK -> Prop := fun x vs H Q => ∃ l b xs zs, x = .ref l /\ vs = [.ref b] /\ H l = some (.lst xs) /\ H b = some (.lst zs) /\ xs.length + zs.length <= sizeLine /\ Q .non (upd H l (.lst (xs ++ zs)))
noncomputable def rPop : V -> List V -> Hp -> VK -> Prop := fun x vs H Q => ∃ l xs y, x = .ref l /\ vs = [] /\ H l = some (.lst xs) /\ xs[xs.length - 1]? = some y /\ Q y (upd H l (.lst xs.dropLast))
noncomputable def h5y : V -> List V -> Hp -> VK -> Prop := fun x vs H Q => ∃ l xs i k y, x = .ref l /\ vs = [.int i] /\ H l = some (.lst xs) /\ -(2 ^ 63) <= i /\ i < 2 ^ 63 /\ seqIndex? i xs.length = some k /\ xs[k]? = some y /\ Q y (upd H l (.lst (xs.eraseIdx k)))
noncomputable def h2v : V -> List V -> Hp -> VK -> Prop := fun x vs H Q => ∃ l xs, x = .ref l /\ vs = [] /\ H l = some (.lst xs) /\ Q .non (upd H l (.lst xs.reverse))
noncomputable def h5z : V -> List V -> Hp -> VK -> Prop := fun x vs H Q => ∃ l xs, x = .ref l /\ vs = [] /\ H l = some (.lst xs) /\ Q .non (upd H l (.lst []))
noncomputable def rCat : R2 := fun x y H Q => ∃ l b xs zs, x = .ref l /\ y = .ref b /\ H l = some (.lst xs) /\ H b = some (.lst zs) /\ xs.length + zs.length <= sizeLine /\ ∀ p, H p = none -> Q (.ref p) (upd H p (.lst (xs ++ zs)))
theorem g8p : OpR X (binaryOp .Add) rCat := by
 intro pins s σ H x y v u Q I rx ry h
 obtain ⟨l, b, xs, zs, rfl, rfl, hH, hB, hz, q⟩ := h
 cases rx
 cases ry
 obtain ⟨z, its, n, r, hl, e⟩ := I.g8o hH
 obtain ⟨z2, its2, n2, r2, hl2, e2⟩ := I.g8o hB
 refine PySem.P.add_list e e2 ?_ (by rw [List.size_toArray, List.size_toArray]; omega)
 have ea : its.toArray ++ its2.toArray = (its ++ its2).toArray := by simp
 rw [ea]
 exact ⟨.ref _, _, I.h5x (t' := s.toks) (r.append r2) (by rw [List.length_append]; omega), rfl, q _ I.fresh⟩
noncomputable def rRep : R2 := fun x y H Q => ∃ l k xs, x = .ref l /\ y = .int k /\ H l = some (.lst xs) /\ -(2 ^ 63) <= k /\ k < 2 ^ 63 /\ xs.length * k.toNat <= sizeLine /\
 ∀ p, H p = none -> Q (.ref p) (upd H p (.lst (List.replicate k.toNat xs).flatten))
theorem len_rep {α : Type} (xs : List α) (k : Nat) : (List.replicate k xs).flatten.length = k * xs.length := by
 induction k with
 | zero => simp
 | succ k ih => rw [List.replicate_succ, List.flatten_cons, List.length_append, ih, Nat.succ_mul, Nat.add_comm]
theorem g8q : OpR X (binaryOp .Mult) rRep := by
 intro pins s σ H x y v u Q I rx ry h
 obtain ⟨l, k, xs, rfl, rfl, hH, h1, h2, hz, q⟩ := h
 cases rx
 obtain ⟨t, rfl⟩ := ry
 obtain ⟨z, its, n, r, hl, e⟩ := I.g8o hH
 have hlen : its.toArray.size * k.toNat <= sizeLine := by rw [List.size_toArray, <- hl]; exact hz
 have hcap : ¬ its.toArray.size * k.toNat > (2 ^ 63 - 1) / 8 := by
  have : (sizeLine : Nat) <= (2 ^ 63 - 1) / 8 := by decide
  omega
 have hfit : ¬ (!Builtin.List.listFitsIndex k) = true := by
  rw [fitsIndex_both h1 h2]
  exact Bool.false_ne_true
 have h3s : ¬ Builtin.List.listTooLong (its.toArray.size * k.toNat) = true := by
  rw [g1a hlen]
  exact Bool.false_ne_true
 have hnew : List.foldl (fun x1 x2 => x1 ++ x2) #[] (List.replicate (if its.toArray.isEmpty = true then 0 else k.toNat) its.toArray) = (List.replicate k.toNat its).flatten.toArray := by
  have f0 : ∀ m : Nat, List.foldl (fun x1 x2 => x1 ++ x2) #[] (List.replicate m its.toArray) = (List.replicate m its).flatten.toArray := fun m => by
   have := foldl_rep its m []
   rw [List.nil_append] at this
   exact this
  rw [f0]
  cases its with
  | nil => simp
  | cons a r' => rw [if_neg (by simp)]
 refine wpAny_binaryOp_repeat_ref (T := "list") (U := "int") (by decide) ⟨_, e, rfl⟩ (fun s' => typeIs_int s' k t) noFill_list_mul F.fills_int_mul F.slot_int_rmul repeat_list F.slot_int_index.lookup
  (call_meets F.slot_int_rmul (typeIs_int s k t) F.entry_int_rmul (F.args_int_rmul_2 _ _) (int___rmul___int_list k t l its.toArray n)
   ⟨e, rfl, ⟨_, e, rfl⟩, call_meets F.slot_list_mul ⟨_, e, rfl⟩ F.entry_list_mul (F.args_list_mul_2 _ _) (AutoListH.list___mul___list_int_3 l its.toArray n k t hfit hcap h3s) ⟨e, ?_⟩⟩)
 rw [hnew]
 exact ⟨.ref _, _, I.h5x (t' := s.toks) (r.rep k.toNat) (by rw [len_rep, Nat.mul_comm]; exact hz), rfl, q _ I.fresh⟩
end
section
variable {prog : Program} {w : World} {A : Around} {E : Value -> Shared -> Prop} {s : Shared}
end
section
variable {X : Cx}
end
end L2
namespace Att
open PySem PySem.W PySem.Calls PyProof.Rows
theorem c7q {P : Params} {h : Heap} : ∀ (ns : List Int) (vs : List Value), WellAll P h vs (ns.map WData.int) -> IntsAre vs ns := by
 intro ns
 induction ns with
 | nil =>
  intro vs w
  rw [List.map_nil] at w
  cases w
  exact .nil
 | cons n ns ih =>
  intro vs w
  rw [List.map_cons] at w
  cases w with
  | cons a b =>
   cases a
   exact .cons _ _ (ih _ b)
theorem f6i {l : OpenLaw} {n : Nat} (hn : l.most = some n) {P : Params} {h : Heap} {args : List WData} {vals : List Value}
  (hpre : l.row.toRowW.claim.pre args = true) (hwl : WellAll P h vals args) :
  ∃ a vs ns, vals = [Value.ref a] ∧ args = [WData.list (ns.map WData.int)] ∧ h.get? a = some { cls := .type "list", data := .seq vs.toArray } ∧ IntsAre vs ns ∧ ns.length ≤ n := by
 have hsh : WShape.hasAll [] args [.list .int] = true := (pre_splitW hpre).1
 have hc : l.pre.holds [] { args := args } = true := (pre_splitW hpre).2
 obtain ⟨d, r, rfl, h1, h2⟩ := hasAllW_cons hsh
 obtain rfl := hasAllW_nil h2
 obtain ⟨xs, rfl, h3⟩ := hasW_list h1
 obtain ⟨ns, rfl⟩ := items_int h3
 have hlen : ns.length <= n := by
  unfold OpenLaw.pre at hc
  have h4 : (WTm.not (.lt (.lit (.int (n : Int))) (.len (.arg 0)))).holds [] { args := [.list (ns.map .int)] } = true := by
   have h4 := (holds_andW hc).1
   rw [hn] at h4
   exact h4
  have h5 := condW_of h4 (w_not (w_lt w_lit (w_len_list (w_arg rfl))))
  rw [List.length_map] at h5
  refine Nat.le_of_not_lt fun q => ?_
  have q' : (n : Int) < ((ns.length : Nat) : Int) := by omega
  first
   | (rw [decide_eq_true q'] at h5; exact absurd h5 (by decide))
   | (simp at h5; omega)
 cases hwl with
 | cons w1 w2 =>
  cases w2
  cases w1 with
  | list ho hall => exact ⟨_, _, ns, rfl, rfl, ho, c7q ns _ hall, hlen⟩
theorem f6j (l : OpenLaw) (args : List WData) : l.row.toRowW.claim.post args (.bool true) args = true :=
 postW_of (r := l.row.toRowW) (X := (true == true))
  (show WShape.has [] (.bool true) .bool = true by first | rfl | decide | simp [WShape.has, WShape.arms, WShape.armsAll])
  (show (WTm.eq .res (.lit (.bool true))).value [] { args := args, res := some (.bool true), after := args } = some (.bool (true == true)) from w_eq_bool (w_res rfl) w_lit) rfl
section
variable {prog : Program} {w : World} {A : Around} {E : Value -> Shared -> Prop} {s : Shared} {K : Frag}
noncomputable def h6a (h : Heap) : Heap := { h with objs := #[] }
noncomputable def ledger (h : Heap) (L d : Addr) : List (Addr × Obj) := (List.range h.objs.size).filterMap fun a => if a = L \/ a = d then none else (h.get? a).map fun o => (a, o)
end
end Att
namespace L2
open PySem PySem.Spec PyProof.Rows
theorem d5l : ∀ {vs : List Value} {ns : List Int}, IntsAre vs ns -> Vals (ns.map V.int) vs
 | _, _, .nil => .nil
 | _, _, .cons n t h => .cons ⟨t, rfl⟩ (d5l h)
noncomputable def Only (H : Hp) : Prop := ∀ b, H b = none \/ ∃ o xs, H b = some (.frz o (.lst xs))
theorem g1b {P : Program} {w : World} {K : PySem.W.Frag} {mg mb : Str -> Option Value} {CX : CXT} {k : Nat} {fa a : Addr} {fd : FuncData} {x : Str} {sp : Sp} {s₁ : Shared} {vs : List Value} {ns : List Int}
  (KX : K.In s₁.heap) (hns : s₁.heap.Ns mainGlobals mg) (hb : s₁.heap.Ns builtinsNs mb) (hbb : ∀ x : Str, x ≠ "__name__" → mb x = bootBuiltins x) (hlim : s₁.heap.NoLimit) (hg : s₁.gens = #[])
  (ha : s₁.heap.get? a = some { cls := .type "list", data := .seq vs.toArray }) (hi : IntsAre vs ns) (hl : ns.length ≤ sizeLine) (hr : a2y k callerA)
  (F : ∀ base : Heap, K.In base -> base.Ns mainGlobals mg -> a1n P w K mg base CX k fa fd [x] sp) (hbind : ∀ (s : Shared) (u : Value), BindsTo s fd ⟨[u], []⟩ [(x, u)])
  (hsp : ∀ H : Hp, Only H -> SqL K H a (ns.map V.int) -> sp [.ref a] H (fun v _ => v = .bl true) fun _ _ _ => False)
  (hCX : ∀ H e s', CX [] H s₁ (fun _ _ _ => False) e s' -> False) :
  codeAny (model P w) callerA (.call (.ref fa) ⟨[.ref a], []⟩) (fun r s' => r = .ok (.ret (.bool true)) /\ OldK s₁.heap s'.heap /\ s'.os = s₁.os /\ AllBare s'.gens) s₁ := by
 have rv := d5l hi
 have lenV := hi.length
 -- from an abstract heap in which nothing but the script may be tracked
 have core : ∀ H : Hp, Only H -> SqL K H a (ns.map V.int) -> HOk P w H s₁.heap -> (∀ b, H b ≠ none -> b = a) -> (H a ≠ none -> K.lookup a = none) ->
   codeAny (model P w) callerA (.call (.ref fa) ⟨[.ref a], []⟩) (fun r s' => r = .ok (.ret (.bool true)) /\ OldK s₁.heap s'.heap /\ s'.os = s₁.os /\ AllBare s'.gens) s₁ := by
  intro H hO hS hok hA hK
  have f6k : ∀ {b : Addr} {o : Obj}, s₁.heap.get? b = some o -> H b = none -> (g0r s₁.heap H).get? b = some o := fun e n => g0s e n
  have noA : ∀ {b : Addr} {o : Obj} {es : Array DictEntry} {ep : Nat}, s₁.heap.get? b = some o -> o.data = .dict es ep -> H b = none := fun {b o es ep} e d => by
   cases q : H b with
   | none => rfl
   | some u =>
    have e' : b = a := hA b (by rw [q]; simp)
    subst e'
    rw [ha] at e; cases e
    have d' : Data.seq vs.toArray _ = Data.dict es ep := d
    cases d'
  have nsK : ∀ {b : Addr} {m : Str -> Option Value}, s₁.heap.Ns b m -> (g0r s₁.heap H).Ns b m := fun {b m} ⟨o, es, ep, e, d, r⟩ => ⟨o, es, ep, f6k e (noA e d), d, r⟩
  have hKb : K.In (g0r s₁.heap H) := fun b o e => f6k (KX b o e) (by
   cases q : H b with
   | none => rfl
   | some u =>
    have e' : b = a := hA b (by rw [q]; simp)
    subst e'
    rw [hK (by rw [q]; simp)] at e; cases e)
  have hM : Mod K mg (g0r s₁.heap H) := ⟨hKb, nsK hns, ⟨mb, nsK hb, hbb⟩, let ⟨mc, h1, h2⟩ := hlim; ⟨mc, nsK h1, h2⟩⟩
  have e0 : f5u P w K mg (g0r s₁.heap H) callerA [] s₁ H := ⟨rfl, hM, fun b o e => g4m e, Nat.le_of_eq (f4s _ _), trivial, fun b hb => absurd (show b ∈ ([] : List Addr) from hb) (by simp), hok, .of_eq hg⟩
  refine codeAny_mono ((F _ hKb (nsK hns)).run callerA [] s₁ H ⟨[.ref a], []⟩ [.ref a] [.ref a] _ _ hr e0 (hbind s₁ (.ref a)) (.cons rfl .nil) (hsp H hO hS)) fun r s' h => ?_
  cases r with
  | error e => exact (hCX H e s' h).elim
  | ok fl =>
   cases fl with
   | next => exact False.elim h
   | brk => exact False.elim h
   | cont => exact False.elim h
   | ret u =>
    obtain ⟨v, H', os, bare, un, hok', r', q⟩ := h
    have q' : v = .bl true := q
    subst q'
    obtain rfl : u = Value.bool true := r'
    refine ⟨rfl, OldK.of_keep fun b o e => ?_, os, bare⟩
    cases q : H b with
    | none => exact un.keep b o e q (by intro z; exact absurd (show b ∈ ([] : List Addr) from z) (by simp)) (by simp)
    | some u =>
     rcases hO b with z | ⟨ob, xs, z⟩
     ·rw [q] at z; cases z
     ·have z2 := un.d7p b ob _ z
      obtain ⟨e1, _⟩ := hok b _ z
      obtain ⟨e2, _⟩ := hok' b _ z2
      rw [e] at e1; cases e1
      exact e2
 cases hk : K.lookup a with
 | some o =>
  -- the script is one of the module's own objects
  have e := KX a o hk
  rw [ha] at e
  cases e
  refine core (fun _ => none) (fun _ => .inl rfl) (.inr ⟨_, vs.toArray, _, hk, rfl, rfl, rfl, by rw [List.size_toArray, lenV]; exact hl, by simpa using rv⟩) (fun b u z => by have z' : (none : Option HO) = some u := z; cases z') (fun b z => absurd rfl z) fun z => absurd rfl z
 | none =>
  refine core (fun b => if b = a then some (.frz { cls := .type "list", data := .seq vs.toArray } (.lst (ns.map V.int))) else none) (fun b => ?_) (.inl (.inr ⟨{ cls := .type "list", data := .seq vs.toArray }, if_pos rfl⟩)) (fun b u z => ?_) (fun b z => ?_) fun _ => hk
  ·by_cases hb : b = a
   ·exact .inr ⟨_, _, if_pos hb⟩
   ·exact .inl (if_neg hb)
  ·by_cases hb : b = a
   ·have z' := (if_pos hb).symm.trans z
    cases z'
    subst hb
    exact ⟨ha, by rw [List.length_map]; exact hl, vs, _, rv, ha⟩
   ·have z' := (if_neg hb).symm.trans z
    cases z'
  ·by_cases hb : b = a
   ·exact hb
   ·exact absurd (if_neg hb) z
end L2
namespace L2
open PySem PySem.Spec PyProof.Rows
noncomputable abbrev KOf {K : PySem.W.Frag} {h : Heap} (_ : K.In h) : PySem.W.Frag := K
end L2
/- THE LAST THEOREM (shape; LID, My.* are yours):
  My.Adr: a structure of the addresses that your layer names (classes, functions); My.Txt K t: a structure (Prop) of the equations over K;
  My.txt_mk : {K} {implicit addresses ..} (e1 : nsIn K mainGlobals "law" = some (some (.ref f))) (e2 : K.lookup f = some ⟨oc, od, .func (fnOf "law" "law" params body scope dV kV doc pm an cdv ct), sl⟩) (e3 : codeIn K cdv "law" = true) .. : ∃ t, My.Txt K t
(the tactic k_is has no namespace: write k_is) -/
namespace L2
open PySem PySem.Spec PyProof.Rows
noncomputable def inClass (s : Stmt) (j : Nat) : Stmt := match s with
 | .ClassDef _ _ _ body _ _ _ _ _ _ _ => body.getD j (.Pass ⟨0, 0, 0, 0⟩)
 | _ => .Pass ⟨0, 0, 0, 0⟩
noncomputable def a0q (s : Stmt) : Arguments := match s with
 | .FunctionDef _ a _ _ _ _ _ _ _ _ => a
 | _ => { posonlyargs := [], args := [], vararg := none, kwonlyargs := [], kw_defaults := [], kwarg := none, defaults := [] }
noncomputable def a0p (s : Stmt) : List Stmt := match s with
 | .FunctionDef _ _ b _ _ _ _ _ _ _ => b
 | _ => []
noncomputable def a0h (s : Stmt) : Scope := match s with
 | .FunctionDef _ _ _ _ _ _ sc _ _ _ => sc
 | _ => { kind := .function, names := [], isGenerator := false, isCoroutine := false }
noncomputable abbrev CX0 : CXT := fun _ _ _ _ _ _ => False
noncomputable abbrev E0 : XK := fun _ _ _ => False
theorem a1g {X : Cx} : Passes CX0 X E0 := fun _ _ _ _ _ _ _ h => h.elim
structure Fun (K : PySem.W.Frag) (x qual : Str) (st : Stmt) (f : Addr) (fd : FuncData) : Prop where
 ex : ∃ (oc : Value) (od : Option Addr) (kV doc pm : Value) (an : Option Addr) (cdv ct : Value) (osl : Array (Option Value)),
  fd = PySem.W.fnOf x qual (a0q st) (a0p st) (a0h st) .none kV doc pm an cdv ct /\ K.lookup f = some ⟨oc, od, .func fd, osl⟩ /\ PySem.W.codeIn K cdv qual = true
 kp : PySem.W.keepIn K (.ref f) = true
section
variable {P : Program} {w : World} {K : PySem.W.Frag} {mg : Str -> Option Value} {base : Heap}
theorem Fun.ok {x qual : Str} {st : Stmt} {f : Addr} {fd : FuncData} {N ps : List Str} {k : Nat} {sp : Sp} (F : Fun K x qual st f fd) (S : a0r N ps (a0h st)) (len : ∀ vs H Q E, sp vs H Q E -> vs.length = ps.length)
  (hbody : ∀ (cdv : Value) (A : Around) (outer : List Env) (s : Shared) (H : Hp) (vs : List V) (Q : VK) (E : XK), a2y k (A.deeper (envOfC qual (a0h st) s.heap.objs.size f cdv)) -> sp vs H Q E ->
   ∃ t, PSs (g3d CX0 P w K mg base N qual (a0h st) f cdv A outer s H E).nox (a0p st) t /\ t { nx := fun _ H' => Q .non H', rt := Q } (start N vs) H) : a1n P w K mg base CX0 (k + 1) f fd ps sp := by
 obtain ⟨oc, od, kV, doc, pm, an, cdv, ct, osl, rfl, lk, hcd⟩ := F.ex
 refine h3q lk hcd S len fun A outer s H vs Q E hr hsp => ?_
 obtain ⟨t, h, q⟩ := hbody cdv A outer s H vs Q E hr hsp
 exact ⟨t, h.nox, q⟩
theorem Fun.binds {x qual : Str} {st : Stmt} {f : Addr} {fd : FuncData} {ps : List Str} (F : Fun K x qual st f fd)
  (h : ∀ (kV doc pm : Value) (an : Option Addr) (cdv ct : Value) (us : List Value), us.length = ps.length -> bindArgs (PySem.W.fnOf x qual (a0q st) (a0p st) (a0h st) .none kV doc pm an cdv ct) ⟨us, []⟩ = pure (ps.zip us)) : Binds K fd ps [] := by
 obtain ⟨oc, od, kV, doc, pm, an, cdv, ct, osl, rfl, lk, hcd⟩ := F.ex
 exact .all (h kV doc pm an cdv ct)
theorem a1l {x qual : Str} {st : Stmt} {f : Addr} {oc : Value} {od an : Option Addr} {osl : Array (Option Value)} {kV doc pm cdv ct : Value} (l : K.lookup f = some ⟨oc, od, .func (PySem.W.fnOf x qual (a0q st) (a0p st) (a0h st) .none kV doc pm an cdv ct), osl⟩)
  (c : PySem.W.codeIn K cdv qual = true) (k : PySem.W.keepIn K (.ref f) = true) : Fun K x qual st f (PySem.W.fnOf x qual (a0q st) (a0p st) (a0h st) .none kV doc pm an cdv ct) := ⟨⟨oc, od, kV, doc, pm, an, cdv, ct, osl, rfl, l, c⟩, k⟩
end
section
variable {X : Cx}
end
noncomputable def Same (H H' : Hp) : Prop := ∀ b o, H b = some o -> H' b = some o
theorem Same.refl (H : Hp) : Same H H := fun _ _ h => h
theorem Same.trans {H H1 H2 : Hp} (a : Same H H1) (b : Same H1 H2) : Same H H2 := fun c o h => b c o (a c o h)
theorem Same.free {H H' : Hp} (e : Same H H') {l : Addr} (h : H' l = Option.none) : H l = Option.none := by
 cases q : H l with
 | none => rfl
 | some o =>
  rw [e l o q] at h
  cases h
theorem Same.seq {K : PySem.W.Frag} {H H' : Hp} {a : Addr} {xs : List V} (e : Same H H') (h : SqL K H a xs) : SqL K H' a xs := by
 rcases h with (h | ⟨o, h⟩) | h
 ·exact .inl (.inl (e _ _ h))
 ·exact .inl (.inr ⟨o, e _ _ h⟩)
 ·exact .inr h
end L2
namespace L2
open PySem PySem.Spec PyProof.Rows
section
variable {κ : Type} [DecidableEq κ]
noncomputable def g3f (kvs : List (κ × V)) (k : κ) : Option V := (kvs.find? fun kv => decide (kv.1 = k)).map (·.2)
noncomputable def putK (kvs : List (κ × V)) (k : κ) (v : V) : List (κ × V) :=
 if (kvs.any fun kv => decide (kv.1 = k)) = true then kvs.map (fun kv => if kv.1 = k then (kv.1, v) else kv) else kvs ++ [(k, v)]
noncomputable def f6l (kvs : List (κ × V)) (k : κ) : List (κ × V) := kvs.filter fun kv => decide (kv.1 ≠ k)
theorem f4n.getD {o : Option V} {u : Option Value} {d : V} {d' : Value} (r : f4n o u) (rd : RelV d d') : RelV (o.getD d) (u.getD d') := by
 cases o with
 | none => cases u with
  | none => exact rd
  | some _ => exact (show False from r).elim
 | some _ => cases u with
  | none => exact (show False from r).elim
  | some _ => exact r
theorem KV.any {kvs : List (κ × V)} {vs : List (κ × Value)} (r : KV kvs vs) (k : κ) : (kvs.any fun kv => decide (kv.1 = k)) = vs.any fun kv => decide (kv.1 = k) := by
 unfold KV at r
 induction r with
 | nil => rfl
 | cons h t ih => rw [List.any_cons, List.any_cons, ih, h.1]
theorem KV.drop {kvs : List (κ × V)} {vs : List (κ × Value)} (r : KV kvs vs) (k : κ) : KV (f6l kvs k) (without vs k) := by
 unfold KV at r ⊢
 unfold f6l without
 induction r with
 | nil => exact .nil
 | @cons p q ps qs h t ih =>
  obtain ⟨h1, h2⟩ := h
  rw [List.filter_cons, List.filter_cons]
  by_cases e : p.1 = k
  ·have a : ¬ decide (p.1 ≠ k) = true := by simp [e]
   have b : ¬ decide (q.1 ≠ k) = true := by simp [h1.symm.trans e]
   rw [if_neg a, if_neg b]; exact ih
  ·have e' : ¬ q.1 = k := fun z => e (h1.trans z)
   have a : decide (p.1 ≠ k) = true := by simp [e]
   have b : decide (q.1 ≠ k) = true := by simp [e']
   rw [if_pos a, if_pos b]; exact .cons ⟨h1, h2⟩ ih
theorem KV.keys {kvs : List (κ × V)} {vs : List (κ × Value)} (r : KV kvs vs) : kvs.map (·.1) = vs.map (·.1) := by
 unfold KV at r
 induction r with
 | nil => rfl
 | cons h t ih => rw [List.map_cons, List.map_cons, ih, h.1]
theorem KV.length {kvs : List (κ × V)} {vs : List (κ × Value)} (r : KV kvs vs) : kvs.length = vs.length := Paired.length r
end
noncomputable abbrev KT (H : Hp) : List (List Key × V) -> List (List Key × Addr × Value) -> Prop := Paired fun p q => p.1 = q.1 /\ H q.2.1 = some (.tup (p.1.map kV)) /\ RelV p.2 q.2.2
theorem KT.keeps {H H' : Hp} {kvs : List (List Key × V)} {xs : List (List Key × Addr × Value)} (r : KT H kvs xs) (ht : ∀ b ys, H b = some (.tup ys) -> H' b = some (.tup ys)) : KT H' kvs xs :=
 Paired.h3d r fun _ _ z => ⟨z.1, ht _ _ z.2.1, z.2.2⟩
section
variable {P : Program} {w : World} {H : Hp} {h : Heap} {a : Addr}
end
noncomputable def g0m (H : Hp) (a : Addr) (y : V) (r : Option V) : Prop :=
 (∃ kvs k, Rd H a (.dK kvs) /\ y = kV k /\ r = g3f kvs k) \/ ∃ kvs k b, Rd H a (.dT kvs) /\ y = .ref b /\ H b = some (.tup (k.map kV)) /\ r = g3f kvs k
noncomputable def g7a (H : Hp) (a : Addr) (y v : V) (H' : Hp) : Prop :=
 (∃ kvs k, H a = some (.dK kvs) /\ y = kV k /\ kvs.length < sizeLine /\ H' = upd H a (.dK (putK kvs k v))) \/
 ∃ kvs k b, H a = some (.dT kvs) /\ y = .ref b /\ H b = some (.tup (k.map kV)) /\ kvs.length < sizeLine /\ H' = upd H a (.dT (putK kvs k v))
theorem g0m.k {H : Hp} {a : Addr} {kvs : List (Key × V)} {k : Key} (e : H a = some (.dK kvs)) : g0m H a (kV k) (g3f kvs k) := .inl ⟨kvs, k, .inl e, rfl, rfl⟩
theorem g0m.t {H : Hp} {a b : Addr} {kvs : List (List Key × V)} {k : List Key} (e : H a = some (.dT kvs)) (eb : H b = some (.tup (k.map kV))) : g0m H a (.ref b) (g3f kvs k) := .inr ⟨kvs, k, b, .inl e, rfl, eb, rfl⟩
theorem g7a.k {H : Hp} {a : Addr} {kvs : List (Key × V)} {k : Key} {v : V} (e : H a = some (.dK kvs)) (hl : kvs.length < sizeLine) : g7a H a (kV k) v (upd H a (.dK (putK kvs k v))) := .inl ⟨kvs, k, e, rfl, hl, rfl⟩
theorem g7a.t {H : Hp} {a b : Addr} {kvs : List (List Key × V)} {k : List Key} {v : V} (e : H a = some (.dT kvs)) (eb : H b = some (.tup (k.map kV))) (hl : kvs.length < sizeLine) :
  g7a H a (.ref b) v (upd H a (.dT (putK kvs k v))) := .inr ⟨kvs, k, b, e, rfl, eb, hl, rfl⟩
section
variable {X : Cx} {pins : List (Addr × Obj)} {σ : St} {H : Hp} {s : Shared} {a : Addr} {y v : V} {u r : Value} {o : Option V} {A : Around} {E : Value -> Shared -> Prop}
end
section
variable {X : Cx} {pins : List (Addr × Obj)} {σ : St} {H : Hp} {s : Shared} {a : Addr} {kvs : List (Key × V)} {k : Key} {u : Value} {A : Around} {E : Value -> Shared -> Prop}
end
noncomputable def NoSl (i : Expr) : Prop := ∀ ov iv, subscripted i false ov iv = operate [ov, iv] (getItem ov iv)
noncomputable def tDGet (td ty : TE) : TE := fun σ H Q => td σ H fun x H1 => ty σ H1 fun y H2 => ∃ a v, x = .ref a /\ g0m H2 a y (some v) /\ Q v H2
noncomputable def tDIn (ty td : TE) : TE := fun σ H Q => ty σ H fun y H1 => td σ H1 fun x H2 => ∃ a o, x = .ref a /\ g0m H2 a y o /\ Q (.bl o.isSome) H2
noncomputable def h3t (ty td : TE) : TE := fun σ H Q => ty σ H fun y H1 => td σ H1 fun x H2 => ∃ a o, x = .ref a /\ g0m H2 a y o /\ Q (.bl (!o.isSome)) H2
noncomputable def sDPut (td ty tv : TE) : TS := fun D σ H => tv σ H fun v H1 => td σ H1 fun x H2 => ty σ H2 fun y H3 => ∃ a H4, x = .ref a /\ g7a H3 a y v H4 /\ D.nx σ H4
noncomputable def sDAug (td ty tv : TE) (rd : V -> V -> Hp -> VK -> Prop) : TS := fun D σ H => td σ H fun x H1 => ty σ H1 fun y H2 => ∃ a v, x = .ref a /\ g0m H2 a y (some v) /\
 tv σ H2 fun y2 H3 => rd v y2 H3 fun z H4 => ∃ H5, g7a H4 a y z H5 /\ D.nx σ H5
noncomputable def sDDel (td ty : TE) : TS := fun D σ H => td σ H fun x H1 => ty σ H1 fun y H2 => ∃ a kvs k, x = .ref a /\ H2 a = some (.dK kvs) /\ y = kV k /\ (g3f kvs k).isSome = true /\ D.nx σ (upd H2 a (.dK (f6l kvs k)))
section
variable {X : Cx} {o i e value : Expr} {pos pos' tpos : Pos} {td ty tv : TE}
end
noncomputable def h6b : TE := fun _ H Q => ∀ p, H p = none -> Q (.ref p) (upd H p (.dK []))
noncomputable def h6c : TE := fun _ H Q => ∀ p, H p = none -> Q (.ref p) (upd H p (.dT []))
section
variable {X : Cx} {pos : Pos}
end
noncomputable def f6m : List (TE × TE) -> St -> Hp -> (List (V × V) -> Hp -> Prop) -> Prop
 | [], _, H, Q => Q [] H
 | (tk, tv) :: r, σ, H, Q => tk σ H fun x H1 => tv σ H1 fun y H2 => f6m r σ H2 fun ps H3 => Q ((x, y) :: ps) H3
noncomputable abbrev VV : List (V × V) -> List (Value × Value) -> Prop := Paired fun p q => RelV p.1 q.1 /\ RelV p.2 q.2
noncomputable def PPs (X : Cx) (pos : Pos) (keys : List (Option Expr)) (values : List Expr) (trs : List (TE × TE)) : Prop :=
 ∀ (pins : List (Addr × Obj)) (s : Shared) (σ : St) (H : Hp) (Q : List (V × V) -> Hp -> Prop), Inv X pins σ H s -> f6m trs σ H Q ->
  wpAny (model X.prog X.w) X.A (evalPairs (pairTrees keys values X.env pos)) (fun vs s' => ∃ ps H', Inv X pins σ H' s' /\ VV ps vs /\ Q ps H') X.xe s
noncomputable def g8r (kvs more : List (Key × V)) : List (Key × V) := more.foldl (fun acc kv => putK acc kv.1 kv.2) kvs
noncomputable def tDisp (trs : List (TE × TE)) : TE := fun σ H Q => ∀ p, H p = none -> f6m trs σ (upd H p (.dK [])) fun ps H2 => H2 p = some (.dK []) /\ ∃ kvs : List (Key × V), ps = kvs.map (fun kv => (kV kv.1, kv.2)) /\ kvs.length <= 15 /\ Q (.ref p) (upd H2 p (.dK (g8r [] kvs)))
structure M1 (X : Cx) (o : Expr) (m : Str) (apos : Pos) (e : Expr) (cpos : Pos) : Prop where
 base : attributeBase o m X.env (eval o X.env) = eval o X.env
 few : ((backTo cpos (starEach [e] X.env)).all (fun x => !x.1) && (backToKw cpos (keywordEach [] X.env)).all (fun x => x.1.isSome)
  && decide (([e] : List Expr).length + ([] : List Keyword).length + (if ([] : List Keyword).isEmpty then 0 else 1) < 30)) = true
 line : (apos.endLine == cpos.line) = true
 trees : backTo cpos (starEach [e] X.env) = [(false, eval e X.env)]
structure M2 (X : Cx) (o : Expr) (m : Str) (apos : Pos) (e f : Expr) (cpos : Pos) : Prop where
 base : attributeBase o m X.env (eval o X.env) = eval o X.env
 few : ((backTo cpos (starEach [e, f] X.env)).all (fun x => !x.1) && (backToKw cpos (keywordEach [] X.env)).all (fun x => x.1.isSome)
  && decide (([e, f] : List Expr).length + ([] : List Keyword).length + (if ([] : List Keyword).isEmpty then 0 else 1) < 30)) = true
 line : (apos.endLine == cpos.line) = true
 trees : backTo cpos (starEach [e, f] X.env) = [(false, eval e X.env), (false, eval f X.env)]
noncomputable def IsD (H : Hp) (a : Addr) : Prop := (∃ kvs, Rd H a (.dK kvs)) \/ ∃ kvs, Rd H a (.dT kvs)
section
variable {X : Cx} {pins : List (Addr × Obj)} {σ : St} {H : Hp} {s : Shared} {a : Addr} {y d : V} {u r : Value} {o : Option V} {A : Around} {E : Value -> Shared -> Prop}
end
noncomputable def h6d (td ty : TE) : TE := fun σ H Q => td σ H fun x H1 => ∃ a, x = .ref a /\ IsD H1 a /\ ty σ H1 fun y H2 => ∃ o, g0m H2 a y o /\ Q (o.getD .non) H2
noncomputable def h6e (td ty tx : TE) : TE := fun σ H Q => td σ H fun x H1 => ∃ a, x = .ref a /\ IsD H1 a /\ ty σ H1 fun y H2 => tx σ H2 fun z H3 => ∃ o, g0m H3 a y o /\ Q (o.getD z) H3
noncomputable def h6f (td ty : TE) : TE := fun σ H Q => td σ H fun x H1 => ∃ a, x = .ref a /\ IsD H1 a /\ ty σ H1 fun y H2 => ∃ kvs k v, H2 a = some (.dK kvs) /\ y = kV k /\ g3f kvs k = some v /\ Q v (upd H2 a (.dK (f6l kvs k)))
noncomputable def h6g (td ty tx : TE) : TE := fun σ H Q => td σ H fun x H1 => ∃ a, x = .ref a /\ IsD H1 a /\ ty σ H1 fun y H2 => tx σ H2 fun z H3 => ∃ kvs k, H3 a = some (.dK kvs) /\ y = kV k /\
 (∀ v, g3f kvs k = some v -> Q v (upd H3 a (.dK (f6l kvs k)))) /\ (g3f kvs k = none -> Q z H3)
section
variable {X : Cx} {o e f : Expr} {apos cpos : Pos} {td ty tx : TE}
end
section
variable {X : Cx} {pins : List (Addr × Obj)} {σ : St} {H : Hp} {s : Shared} {a : Addr} {kvs : List (Key × V)} {A : Around} {E : Value -> Shared -> Prop}
end
section
variable {X : Cx} {pins : List (Addr × Obj)} {σ : St} {H : Hp} {s : Shared} {a : Addr} {y : V} {u : Value} {A : Around} {E : Value -> Shared -> Prop}
end
section
variable {X : Cx}
end
section
variable {κ : Type} [DecidableEq κ]
end
end L2
namespace L2
open PySem PySem.Spec PyProof.Rows
open PySem.Builtin.Int (intBits)
section
variable {X : Cx} {a b c : Expr} {ta tb tc : TE} {pos : Pos}
theorem g5a : OpR X (binaryOp .Mult) (rI IntMulOk fun i j => .int (i * j)) := opI fun _ _ _ _ _ _ _ hc q => mul_int q hc
noncomputable def CFd (i j : Int) : Prop := j ≠ 0 /\ intBits j <= 9000
theorem d7v {j : Int} (h : j ≠ 0) (hb : intBits j <= 9000) : j.natAbs.log2 < 9000 := by
 have h1 := intBits_le_iff.mp hb
 exact (Nat.log2_lt (by omega)).mpr h1
theorem g1c : OpR X (binaryOp .FloorDiv) (rI CFd fun i j => .int (i.fdiv j)) := opI fun i j _ _ _ _ _ hc q =>
 floordiv_int hc.1 q (.inl (PyProof.noPylong_of_log2 (d7v hc.1 hc.2)))
noncomputable def CDv (i j : Int) : Prop := 0 < j /\ intBits j <= 9000
inductive Ty where
 | non | bl | int | str | lst | tup | dct
 deriving DecidableEq
noncomputable def Ty.nm : Ty -> String
 | .non => "NoneType" | .bl => "bool" | .int => "int" | .str => "str" | .lst => "list" | .tup => "tuple" | .dct => "dict"
noncomputable def g3g (H : Hp) : V -> Option Ty
 | .non => some .non
 | .bl _ => some .bl
 | .int _ => some .int
 | .str _ => some .str
 | .ref a => match H a with
  | some (.lst _) => some .lst
  | some (.frz _ (.lst _)) => some .lst
  | some (.tup _) => some .tup
  | some (.dK _) => some .dct
  | some (.dT _) => some .dct
  | _ => none
 | _ => none
noncomputable def f6n (t T : Ty) : Bool := decide (t = T) || (decide (t = .bl) && decide (T = .int))
theorem g5b {K : PySem.W.Frag} {H : Hp} {x : V} {t : Ty} (h : g3g H x = some t) : f2h K H x (.type t.nm) := by
 cases x with
 | non => cases h; exact .non
 | bl b => cases h; exact .bl b
 | int i => cases h; exact .int i
 | str s => cases h; exact .str s
 | byt b => cases h
 | flt b => cases h
 | ty n => cases h
 | ref a =>
  unfold g3g at h
  cases e : H a with
  | none => simp [e] at h
  | some o =>
   cases o with
   | lst xs => simp [e] at h; subst h; exact .lst e
   | tup xs => simp [e] at h; subst h; exact .tup e
   | dK kvs => simp [e] at h; subst h; exact .dK e
   | dT kvs => simp [e] at h; subst h; exact .dT e
   | frz ob u =>
    cases u with
    | lst xs => simp [e] at h; subst h; exact .frz e
    | _ => simp [e] at h
   | _ => simp [e] at h
theorem g8s {K : PySem.W.Frag} (t T : Ty) : PySem.W.kitOne K (.type t.nm) (.type T.nm) = some (f6n t T) := by
 cases t <;> cases T <;> rfl
noncomputable def h6h (T : Ty) : List V -> Hp -> VK -> Prop := fun xs H Q => match xs with
 | [x, .ty n] => n = T.nm /\ ∃ t, g3g H x = some t /\ Q (.bl (f6n t T)) H
 | _ => False
theorem b1w (T : Ty) : a8p X (.builtin "isinstance") (h6h T) := by
 intro pins s σ H xs us Q I r h
 match xs, r, h with
 | [x, .ty n], r, h =>
  obtain ⟨rfl, t, ht, q⟩ := h
  obtain ⟨u, v, rfl, r1, r2⟩ := vals2 r
  cases (show v = Value.type T.nm from r2)
  exact f5s I r1 (g5b ht) (g8s t T) fun tk => ⟨.bl _, H, I.tok tk, rfl, q⟩
mutual
inductive f4o (K : PySem.W.Frag) (H : Hp) : V -> PyData -> Prop
 | non : f4o K H .non .none
 | bl (b : Bool) : f4o K H (.bl b) (.bool b)
 | int (i : Int) : f4o K H (.int i) (.int i)
 | str (x : Str) : f4o K H (.str x) (.str x)
 | lst {a : Addr} {xs : List V} {ds : List PyData} : SqL K H a xs -> c4q K H xs ds -> f4o K H (.ref a) (.list ds)
 | tup {a : Addr} {xs : List V} {ds : List PyData} : SqT K H a xs -> c4q K H xs ds -> f4o K H (.ref a) (.tuple ds)
inductive c4q (K : PySem.W.Frag) (H : Hp) : List V -> List PyData -> Prop
 | nil : c4q K H [] []
 | cons {x : V} {xs : List V} {d : PyData} {ds : List PyData} : f4o K H x d -> c4q K H xs ds -> c4q K H (x :: xs) (d :: ds)
end
section
variable {pins : List (Addr × Obj)} {σ : St} {H : Hp} {s : Shared}
mutual
theorem Inv.reads (I : Inv X pins σ H s) : ∀ {v : V} {d : PyData} {u : Value}, f4o X.K H v d -> RelV v u -> ∃ as, Reads s.heap u d as
 | _, _, _, .non, r => by cases (show _ = Value.none from r); exact ⟨_, .none⟩
 | _, _, _, .bl b, r => by cases (show _ = Value.bool b from r); exact ⟨_, .bool b⟩
 | _, _, _, .int i, r => by obtain ⟨t, rfl⟩ := r; exact ⟨_, .int i t⟩
 | _, _, _, .str x, r => by obtain ⟨t, rfl⟩ := r; exact ⟨_, .str x t⟩
 | _, _, _, .lst (a := a) hs ha, r => by
  cases (show _ = Value.ref a from r)
  obtain ⟨its, rv, ⟨o, n, e, c, _, dd⟩, _⟩ := I.list hs
  obtain ⟨as, q⟩ := Inv.readsAll I ha rv
  exact ⟨_, .list e c dd (by simpa using q)⟩
 | _, _, _, .tup (a := a) hs ha, r => by
  cases (show _ = Value.ref a from r)
  obtain ⟨its, rv, ⟨o, e, c, n, dd⟩, _⟩ := I.tuple hs
  obtain ⟨as, q⟩ := Inv.readsAll I ha rv
  exact ⟨_, .tuple e c dd (by simpa using q)⟩
theorem Inv.readsAll (I : Inv X pins σ H s) : ∀ {vs : List V} {ds : List PyData} {us : List Value}, c4q X.K H vs ds -> Vals vs us -> ∃ as, ReadsAll s.heap us ds as
 | _, _, _, .nil, .nil => ⟨_, .nil⟩
 | _, _, _, .cons h t, .cons r q => by
  obtain ⟨as, x⟩ := Inv.reads I h r
  obtain ⟨bs, y⟩ := Inv.readsAll I t q
  exact ⟨_, .cons x y⟩
end
end
noncomputable def h6i (K : PySem.W.Frag) : R2 := fun x y H Q => ∃ d e, f4o K H x d /\ f4o K H y e /\ SeqAt.shaped d = true /\ SeqAt.shaped e = true /\ Q (.bl (PyData.eqv d e)) H
noncomputable def h6j (K : PySem.W.Frag) : R2 := fun x y H Q => ∃ d e, f4o K H x d /\ f4o K H y e /\ SeqAt.shaped d = true /\ SeqAt.shaped e = true /\ Q (.bl (!PyData.eqv d e)) H
theorem g8t (hu : X.A.units + 64 < cLine) : OpR X (compareOp .Eq) (h6i X.K) := by
 intro pins s σ H x y v u Q I rx ry h
 obtain ⟨d, e, hd, he, sd, se, q⟩ := h
 obtain ⟨as, ra⟩ := I.reads hd rx
 obtain ⟨bs, rb⟩ := I.reads he ry
 exact eq_dataH ra rb sd se hu ⟨.bl _, H, I, rfl, q⟩
theorem g8u (hu : X.A.units + 64 < cLine) : OpR X (compareOp .NotEq) (h6j X.K) := by
 intro pins s σ H x y v u Q I rx ry h
 obtain ⟨d, e, hd, he, sd, se, q⟩ := h
 obtain ⟨as, ra⟩ := I.reads hd rx
 obtain ⟨bs, rb⟩ := I.reads he ry
 exact ne_dataH ra rb sd se hu ⟨.bl _, H, I, rfl, q⟩
end
noncomputable def h6k (lo c : Int) (n : Nat) : It := ⟨fun i _ => i < n, fun i H x H' => H' = H /\ x = .int (lo + i * c), fun i _ => n <= i⟩
noncomputable def h2w (lo hi c : Int) : Nat := (Builtin.Range.rangeSize lo hi c).toNat
theorem h2x {lo hi c : Int} (hc : 0 < c) : h2w lo hi c = if lo < hi then ((hi - lo - 1) / c + 1).toNat else 0 := by
 unfold h2w Builtin.Range.rangeSize
 rw [if_pos (show c > 0 from hc)]
 split <;> rfl
section
variable {X : Cx} {tg : Expr}
noncomputable def iRng3 (ta : TA) : TI := fun σ H R => ta σ H fun vs H1 => ∃ i j c : Int, vs = [.int i, .int j, .int c] /\ (0 <= i /\ i < 2 ^ 32 /\ 0 <= j /\ j < 2 ^ 32 /\ 0 < c /\ c < 2 ^ 30) /\ R (h6k i c (h2w i j c)) H1
end
noncomputable def g8v (J : It) (g : TG) (tb : TS) (D : Ends) (σ : St) (H : Hp) : Prop := ∃ W : Nat -> Nat -> St -> Hp -> Prop, (∃ m, W 0 m σ H) /\ ∀ i m σ H, W i m σ H ->
 (J.stop i H /\ D.nx σ H) \/ (J.go i H /\ ∃ N : St -> Hp -> Prop, (∀ σ' H', N σ' H' -> ∃ m', m' < m /\ W (i + 1) m' σ' H') /\ ∀ x H', J.yld i H x H' -> g x σ H' fun σ2 H2 => tb { D with nx := N, ct := N, bk := D.nx } σ2 H2)
noncomputable def g8w (wi : TI) (g : TG) (tb : TS) : TS := fun D σ H => wi σ H fun J H1 => g8v J g tb D σ H1
theorem c1z {X : Cx} {tg iter : Expr} {body : List Stmt} {wi : TI} {g : TG} {tb : TS} {pos : Pos} (hp : PassesOwn (model X.prog X.w) X.A X.env X.xe) (hc : X.calm = true) (hi : PI X tg iter wi) (hg : PG X tg g) (hb : PSs X body tb)
  (hs : ∀ x, foldedSetIterable iter X.env x = pure x := by intro _; rfl) : PS X (.For tg iter body [] pos) (g8w wi g tb) := g7y hp hc hi hg hb hs
theorem f6o {K : PySem.W.Frag} {a : Addr} {xs : List V} {g : TG} {tb : TS} {D : Ends} {σ : St} {H : Hp} (Pv : Nat -> St -> Hp -> Prop) (h0 : Pv 0 σ H) (hl : ∀ i σ H, i <= xs.length -> Pv i σ H -> SqL K H a xs)
  (hs : ∀ i x σ H, xs[i]? = some x -> Pv i σ H -> g x σ H fun σ2 H2 => tb { D with nx := Pv (i + 1), ct := Pv (i + 1), bk := D.nx } σ2 H2) (hd : ∀ σ H, Pv xs.length σ H -> D.nx σ H) : g8v (Itl K a) g tb D σ H := g0v Pv h0 hl hs hd
theorem c1m {lo : Int} {n : Nat} {g : TG} {tb : TS} {D : Ends} {σ : St} {H : Hp} (Pv : Nat -> St -> Hp -> Prop) (h0 : Pv 0 σ H)
  (hs : ∀ i σ H, i < n -> Pv i σ H -> g (.int (lo + i)) σ H fun σ2 H2 => tb { D with nx := Pv (i + 1), ct := Pv (i + 1), bk := D.nx } σ2 H2) (hd : ∀ σ H, Pv n σ H -> D.nx σ H) : g8v (Itr lo n) g tb D σ H := f5i Pv h0 hs hd
noncomputable def g3h (c : TT) (tb : TS) (D : Ends) (σ : St) (H : Hp) : Prop := ∃ W : Nat -> St -> Hp -> Prop, (∃ m, W m σ H) /\ ∀ m σ H, W m σ H ->
 c σ H fun b H1 => if b = true then tb { D with nx := fun σ' H' => ∃ m', m' < m /\ W m' σ' H', ct := fun σ' H' => ∃ m', m' < m /\ W m' σ' H', bk := D.nx } σ H1 else D.nx σ H1
noncomputable def f6p (c : TT) (tb : TS) : TS := fun D σ H => g3h c tb D σ H
theorem d5m {X : Cx} {c : Expr} {body : List Stmt} {tc : TT} {tb : TS} {pos : Pos} (hp : PassesOwn (model X.prog X.w) X.A X.env X.xe) (hc : PT X c tc) (hb : PSs X body tb) : PS X (.While c body [] pos) (f6p tc tb) := by
 intro pins s σ H D I h
 obtain ⟨W, ⟨m0, w0⟩, turn⟩ := h
 refine wpAny_While (codeAny_whileLoop (fun n s' => ∃ σ' H', Inv X pins σ' H' s' /\ W n σ' H') ?_ m0 ⟨σ, H, I, w0⟩)
 rintro n s1 ⟨σ1, H1, I1, w1⟩
 refine wpAny_passesOwn hp (thn (hc pins s1 σ1 H1 _ I1 (turn n σ1 H1 w1)) fun b s2 ⟨H2, I2, q2⟩ => ?_)
 cases b with
 | true =>
  rw [if_pos rfl]
  refine wpAny_passesOwn hp (thn (hb pins s2 σ1 H2 _ I2 q2) fun f s3 q3 => ?_)
  cases f with
  | next =>
   obtain ⟨σ3, H3, I3, m', hm, w3⟩ := q3
   exact ⟨m', hm, σ3, H3, I3, w3⟩
  | cont =>
   obtain ⟨σ3, H3, I3, m', hm, w3⟩ := q3
   exact ⟨m', hm, σ3, H3, I3, w3⟩
  | brk => exact q3
  | ret v => exact q3
 | false =>
  rw [if_neg Bool.false_ne_true]
  exact wpAny_execs_nil ⟨σ1, H2, I2, q2⟩
theorem d5n {c : TT} {tb : TS} {D : Ends} {σ : St} {H : Hp} (Pv : Nat -> St -> Hp -> Prop) (m0 : Nat) (h0 : Pv m0 σ H)
  (hs : ∀ m σ H, Pv m σ H -> c σ H fun b H1 => if b = true then tb { D with nx := fun σ' H' => ∃ m', m' < m /\ Pv m' σ' H', ct := fun σ' H' => ∃ m', m' < m /\ Pv m' σ' H', bk := D.nx } σ H1 else D.nx σ H1) : g3h c tb D σ H :=
 ⟨Pv, ⟨m0, h0⟩, hs⟩
end L2
namespace Att
open PySem PySem.W PySem.Calls PyProof.Rows
open PySem.Builtin.Int (intBits)
theorem d7w {ns : List Int} (h : WData.layableAll [WData.list (ns.map WData.int)] = true) : ∀ n ∈ ns, intBits n <= 1048576 := by
 intro n hn
 have h1 := layableW_arg h _ (List.mem_singleton.mpr rfl)
 have h2 := layableW_item h1 (WData.int n) (List.mem_map.mpr ⟨n, hn, rfl⟩)
 have h3 := (layableW_iff.mp h2).2.2
 exact h3
theorem d5o {l : OpenLaw} {n : Nat} {q : Program} {loose : List Str} {XP : (Str -> Option Value) -> Heap -> Prop} {YP : World -> Heap -> Prop} {d : DefRec}
  (hn : l.most = some n) (hdf : d.params.defaults = [])
  (call : ∀ (w : World) (s₀ s₁ : Shared) (mg mb : Str -> Option Value) (fa : Addr) (o : Obj) (pm cd doc : Value) (a : Addr) (vs : List Value) (ns : List Int),
   Ground q loose [] XP w s₀ mg mb s₁.heap -> YP w s₁.heap ->
   s₁.heap.get? fa = some o -> o.data = .func (docDef d.name d.params d.body d.scope pm cd doc) -> s₁.heap.CodeRec cd d.name -> mg d.name = some (.ref fa) ->
   s₁.heap.get? a = some { cls := .type "list", data := .seq vs.toArray } → IntsAre vs ns → ns.length ≤ n → (∀ x ∈ ns, intBits x ≤ 1048576) → s₁.gens = #[] →
   codeAny (model l.prog w) callerA (.call (.ref fa) ⟨[.ref a], []⟩) (fun r s' => r = .ok (.ret (.bool true)) /\ OldK s₁.heap s'.heap /\ s'.os = s₁.os /\ AllBare s'.gens) s₁) :
  WalkO q loose XP YP l.row.toRowW d [] (fun f vs => PySem.call f vs) := by
 intro w s₀ s₁ mg mb G Y fa o pm cd doc dV kV ho hd hcd hD hmg hg args vals as hpre hlay hrd hwl hlo
 obtain rfl : dV = .none := Dflts.none hD hdf
 obtain rfl : kV = .none := Dflts.noKw hD
 obtain ⟨a, vs, ns, rfl, rfl, hobj, hints, hlen⟩ := f6i hn hpre hwl
 refine enter_call (codeAny_mono (call w s₀ s₁ mg mb fa o pm cd doc a vs ns G Y ho (fd_plain hd) hcd hmg hobj hints hlen (d7w hlay) hg) fun r s' hq => ?_)
 obtain ⟨rfl, h2, h3, h4⟩ := hq
 exact ⟨.inl ⟨.bool true, .bool true, [], rfl, fun _ => rfl, .bool true, f6j l _, fun _ => ⟨List.Pairwise.nil, fun _ hm => (nomatch hm)⟩⟩, h2, h3, h4⟩
end Att
namespace L2
open PySem PySem.Spec PyProof.Rows
open PySem.Builtin.Int (intBits)
noncomputable def d7y (n : Nat) (K : PySem.W.Frag) : Sp := fun vs H Q _ => ∃ (a : Addr) (ns : List Int), vs = [.ref a] /\ SqL K H a (ns.map V.int) /\ ns.length <= n /\ (∀ x ∈ ns, intBits x <= 1048576) /\ Only H /\ ∀ H', Q (.bl true) H'
theorem g1d {l : PySem.W.OpenLaw} {k : Nat} {q : Program} {loose : List Str} {XP : (Str -> Option Value) -> Heap -> Prop} {YP : World -> Heap -> Prop} {d : DefRec} {K : Params -> PySem.W.Frag} {CX : World -> CXT} {x : Str}
  (hn : l.most = some 63) (hdf : d.params.defaults = []) (hr : a2y k callerA)
  (hY : ∀ (w : World) (h : Heap), YP w h -> (K w.params).In h)
  (F : ∀ (w : World) (mg : Str -> Option Value) (fa : Addr) (h : Heap), (K w.params).In h -> h.Ns mainGlobals mg -> mg d.name = some (.ref fa) ->
   ∃ fd : FuncData, (∀ (s : Shared) (u : Value), BindsTo s fd ⟨[u], []⟩ [(x, u)]) /\
    ∀ base : Heap, (K w.params).In base -> base.Ns mainGlobals mg -> a1n l.prog w (K w.params) mg base (CX w) k fa fd [x] (d7y 63 (K w.params)))
  (hCX : ∀ (w : World) (H : Hp) (s : Shared) (e : Value) (s' : Shared), CX w [] H s (fun _ _ _ => False) e s' -> False) :
  PySem.W.WalkO q loose XP YP l.row.toRowW d [] (fun f vs => PySem.call f vs) := by
 refine Att.d5o hn hdf fun w s₀ s₁ mg mb fa o pm cd doc a vs ns G Y ho hd hcd hmg hobj hints hlen hbits hg => ?_
 have KX := hY w _ Y
 obtain ⟨fd, hb, hF⟩ := F w mg fa _ KX G.T.g hmg
 exact g1b KX G.T.g G.T.b G.T.builtins G.T.nolimit hg hobj hints (Nat.le_trans hlen (by decide)) hr hF hb (fun H hO hS => ⟨a, ns, rfl, hS, hlen, hbits, hO, fun _ => rfl⟩) fun H e s' => hCX w H s₁ e s'
end L2
namespace L2
open PySem PySem.Spec PyProof.Rows
theorem Same.upd {H : Hp} {p : Addr} {o : HO} (h : H p = none) : Same H (upd H p o) := fun b u e => by
 rw [a2u (a3i e h)]; exact e
structure Tag {α : Type} (a : α) : Type where
noncomputable def New (H : Hp) (o : HO) (Q : VK) (_ : Tag Q) : Prop := ∀ p H1, H p = none -> Same H H1 -> H1 p = some o -> Q (.ref p) H1
noncomputable def All (C : V -> Hp -> Prop) (Q : VK) (_ : Tag C) (_ : Tag Q) : Prop := ∀ v H1, C v H1 -> Q v H1
theorem New.raw {H : Hp} {o : HO} {Q : VK} {t : Tag Q} (h : New H o Q t) : ∀ p, H p = none -> Q (.ref p) (L2.upd H p o) := fun p e => h p _ e (Same.upd e) a6g
theorem g8x {CX : CXT} {P : Program} {w : World} {K : PySem.W.Frag} {mg : Str -> Option Value} {base : Heap} {N : List Str} {qual : Str} {scope : Scope} {f : Addr} {cd : Value} {A : Around} {outer : List Env} {s : Shared} {H : Hp} {E : XK} : (g3d CX P w K mg base N qual scope f cd A outer s H E).K = K := rfl
section
variable {X : Cx} {es : List Expr} {t : TA} {pos : Pos}
noncomputable def g8y (t : TA) : TE := fun σ H Q => t σ H fun xs H1 => xs.length <= sizeLine /\ New H1 (.tup xs) Q ⟨⟩
noncomputable def g8z (t : TA) : TE := fun σ H Q => t σ H fun xs H1 => xs.length <= sizeLine /\ New H1 (.lst xs) Q ⟨⟩
end
section
variable {X : Cx} {a b c : Expr} {ta tb tc : TE} {pos : Pos}
noncomputable def g9a : R2 := fun x y H Q => match x, y with
 | .int i, .int j => Q (.int (i + j)) H
 | .str u, .str v => u.length + v.length <= sizeLine /\ Q (.str (u ++ v)) H
 | .ref l, .ref b => ∃ xs zs, H l = some (.lst xs) /\ H b = some (.lst zs) /\ xs.length + zs.length <= sizeLine /\ New H (.lst (xs ++ zs)) Q ⟨⟩
 | _, _ => False
theorem a1p : OpR X (binaryOp .Add) g9a := by
 intro pins s σ H x y v u Q I rx ry h
 cases x <;> cases y <;> first
  | exact False.elim h
  | exact g8a pins s σ H _ _ v u Q I rx ry ⟨_, _, rfl, rfl, h⟩
  | exact f1y pins s σ H _ _ v u Q I rx ry ⟨_, _, rfl, rfl, h.1, h.2⟩
  | (obtain ⟨xs, zs, h1, h2, h3, h4⟩ := h
     exact g8p pins s σ H _ _ v u Q I rx ry ⟨_, _, _, _, rfl, rfl, h1, h2, h3, h4.raw⟩)
noncomputable def g9b : R2 := fun x y H Q => match x, y with
 | .int i, .int j => IntMulOk i j /\ Q (.int (i * j)) H
 | .ref l, .int k => ∃ xs, H l = some (.lst xs) /\ -(2 ^ 63) <= k /\ k < 2 ^ 63 /\ xs.length * k.toNat <= sizeLine /\ New H (.lst (List.replicate k.toNat xs).flatten) Q ⟨⟩
 | _, _ => False
theorem a3s : OpR X (binaryOp .Mult) g9b := by
 intro pins s σ H x y v u Q I rx ry h
 cases x <;> cases y <;> first
  | exact False.elim h
  | exact g5a pins s σ H _ _ v u Q I rx ry ⟨_, _, rfl, rfl, h.1, h.2⟩
  | (obtain ⟨xs, h1, h2, h3, h4, h5⟩ := h
     exact g8q pins s σ H _ _ v u Q I rx ry ⟨_, _, _, rfl, rfl, h1, h2, h3, h4, h5.raw⟩)
noncomputable def h3u (K : PySem.W.Frag) : R2 := fun x y H Q => if f5j x y = true then Q (.bl (decide (x = y))) H else h6i K x y H Q
noncomputable def h3v (K : PySem.W.Frag) : R2 := fun x y H Q => if f5j x y = true then Q (.bl (!decide (x = y))) H else h6j K x y H Q
theorem d5p (hu : X.A.units + 64 < cLine) : OpR X (compareOp .Eq) (h3u X.K) := by
 intro pins s σ H x y v u Q I rx ry h
 unfold h3u at h
 by_cases hs : f5j x y = true
 ·rw [if_pos hs] at h
  exact h3j pins s σ H x y v u Q I rx ry ⟨hs, h⟩
 ·rw [if_neg hs] at h
  exact g8t hu pins s σ H x y v u Q I rx ry h
theorem c3r (hu : X.A.units + 64 < cLine) : OpR X (compareOp .NotEq) (h3v X.K) := by
 intro pins s σ H x y v u Q I rx ry h
 unfold h3v at h
 by_cases hs : f5j x y = true
 ·rw [if_pos hs] at h
  exact h3k pins s σ H x y v u Q I rx ry ⟨hs, h⟩
 ·rw [if_neg hs] at h
  exact g8u hu pins s σ H x y v u Q I rx ry h
noncomputable def h6l : R2 := fun x y H Q => match x, y with
 | .ref p, .int i => (match H p with
  | some (.tup xs) => ∃ v, atI xs i = some v /\ Q v H
  | some (.lst xs) => ∃ v, atI xs i = some v /\ Q v H
  | _ => False)
 | .str z, .int i => ∃ c, z.length <= sizeLine /\ atI z.cps.toList i = some c /\ Q (.str ⟨#[c]⟩) H
 | _, _ => False
theorem a6s : IxR X h6l := by
 intro value slice pins s σ H x y v u Q I rx ry h hs
 cases x with
 | ref p =>
  cases y with
  | int i =>
   have h' : (match H p with
    | some (.tup xs) => ∃ v, atI xs i = some v /\ Q v H
    | some (.lst xs) => ∃ v, atI xs i = some v /\ Q v H
    | _ => False) := h
   split at h'
   ·rename_i xs e
    obtain ⟨z, h2, h3⟩ := h'
    exact g8k value slice pins s σ H _ _ v u Q I rx ry ⟨_, xs, _, z, rfl, rfl, SqT.of e, h2, h3⟩ hs
   ·rename_i xs e
    obtain ⟨z, h2, h3⟩ := h'
    exact f5z value slice pins s σ H _ _ v u Q I rx ry ⟨_, xs, _, z, rfl, rfl, SqL.of e, h2, h3⟩ hs
   ·exact h'.elim
  | _ => exact False.elim h
 | str z =>
  cases y with
  | int i =>
   obtain ⟨c, h1, h2, h3⟩ := h
   exact g8l value slice pins s σ H _ _ v u Q I rx ry ⟨_, _, c, rfl, rfl, h1, h2, h3⟩ hs
  | _ => exact False.elim h
 | _ => exact False.elim h
noncomputable def h6m : V -> Option Int -> Option Int -> Hp -> VK -> Prop := fun x lo hi H Q => match x with
 | .ref a => (match H a with
  | some (.lst xs) => New H (.lst (d4z xs lo hi)) Q ⟨⟩
  | _ => False)
 | _ => False
theorem sl_M : SlR X h6m := by
 intro pins s σ H x v vl vu lo hi sl Q I rx hs pl pu h
 cases x with
 | ref a =>
  have h' : (match H a with
   | some (.lst xs) => New H (.lst (d4z xs lo hi)) Q ⟨⟩
   | _ => False) := h
  split at h'
  ·rename_i xs e
   exact f6g pins s σ H _ v vl vu lo hi sl Q I rx hs pl pu ⟨_, xs, rfl, SqL.of e, h'.raw⟩
  ·exact h'.elim
 | _ => exact False.elim h
noncomputable def rSlK (K : PySem.W.Frag) : V -> Option Int -> Option Int -> Hp -> VK -> Prop := fun x lo hi H Q => ∃ a xs, x = .ref a /\ SqL K H a xs /\ New H (.lst (d4z xs lo hi)) Q ⟨⟩
theorem sl_K : SlR X (rSlK X.K) := by
 intro pins s σ H x v vl vu lo hi sl Q I rx hs pl pu h
 obtain ⟨a, xs, e, h1, h2⟩ := h
 exact f6g pins s σ H _ v vl vu lo hi sl Q I rx hs pl pu ⟨a, xs, e, h1, h2.raw⟩
noncomputable def g9c : List V -> Hp -> VK -> Prop := fun xs H Q => match xs with
 | [.ref p] => (match H p with
  | some (.lst ys) => Q (.int ys.length) H
  | some (.tup ys) => Q (.int ys.length) H
  | _ => False)
 | [.str z] => z.length <= sizeLine /\ Q (.int z.length) H
 | _ => False
theorem a2o : a8p X (.builtin "len") g9c := by
 intro pins s σ H xs us Q I r h
 match xs, r, h with
 | [.ref p], r, h =>
  have h' : (match H p with
   | some (.lst ys) => Q (.int ys.length) H
   | some (.tup ys) => Q (.int ys.length) H
   | _ => False) := h
  split at h'
  ·rename_i ys e
   exact b8t pins s σ H _ us Q I r ⟨p, ys, rfl, .inl (SqL.of e), h'⟩
  ·rename_i ys e
   exact b8t pins s σ H _ us Q I r ⟨p, ys, rfl, .inr (SqT.of e), h'⟩
  ·exact h'.elim
 | [.str z], r, h => exact d5i pins s σ H _ us Q I r ⟨z, rfl, h.1, h.2⟩
theorem f6q : a8p X (.builtin "len") (fun xs H Q => ∃ p ys, xs = [.ref p] ∧ SqL X.K H p ys ∧ Q (.int ys.length) H) := by
 intro pins s σ H xs us Q I r h
 obtain ⟨p, ys, e, h1, h2⟩ := h
 exact b8t pins s σ H _ us Q I r ⟨p, ys, e, .inl h1, h2⟩
theorem g5c {i j : Int} : f5j (.int i) (.int j) = true := rfl
theorem g5d {i j : Str} : f5j (.str i) (.str j) = true := rfl
theorem g5e {i j : Bool} : f5j (.bl i) (.bl j) = true := rfl
theorem g5f : f5j .non .non = true := rfl
theorem g5g {i j : Addr} : f5j (.ref i) (.ref j) = false := rfl
theorem g9d {H : Hp} {i : Int} : g3g H (.int i) = some .int := rfl
theorem g9e {H : Hp} {i : Str} : g3g H (.str i) = some .str := rfl
theorem g9f {H : Hp} {i : Bool} : g3g H (.bl i) = some .bl := rfl
theorem g9g {H : Hp} : g3g H .non = some .non := rfl
theorem g9h {H : Hp} {a : Addr} : g3g H (.ref a) = (match H a with
  | some (.lst _) => some .lst
  | some (.frz _ (.lst _)) => some .lst
  | some (.tup _) => some .tup
  | some (.dK _) => some .dct
  | some (.dT _) => some .dct
  | _ => none) := rfl
theorem two_line : 2 <= sizeLine := by decide
theorem g3i {α : Type} {x : α} {xs : List α} : atI (x :: xs) 0 = some x := c4p (j := 0) rfl
theorem g3j {α : Type} {x y : α} {xs : List α} : atI (x :: y :: xs) 1 = some y := c4p (j := 1) rfl
theorem g3k {α : Type} {x y z : α} {xs : List α} : atI (x :: y :: z :: xs) 2 = some z := c4p (j := 2) rfl
theorem g3l {α : Type} {x y z u : α} {xs : List α} : atI (x :: y :: z :: u :: xs) 3 = some u := c4p (j := 3) rfl
theorem d5q {p q A B : Prop} [Decidable p] [Decidable q] : (if p then (if q then A else B) else B) = (if p /\ q then A else B) := by
 by_cases hp : p <;> by_cases hq : q <;> simp [hp, hq]
theorem d7z {p q A B : Prop} [Decidable p] [Decidable q] : (if p then A else (if q then A else B)) = (if p \/ q then A else B) := by
 by_cases hp : p <;> by_cases hq : q <;> simp [hp, hq]
end
section
variable {X : Cx} {es : List Expr} {t : TA} {pos : Pos}
noncomputable def MonoA (t : TA) : Prop := ∀ σ H (Q Q' : List V -> Hp -> Prop), (∀ v H1, Q v H1 -> Q' v H1) -> t σ H Q -> t σ H Q'
theorem PA.weak {t : TA} (h : PA X es t) {u : TA} (q : ∀ σ H (Q : List V -> Hp -> Prop), u σ H Q -> t σ H Q) : PA X es u := fun pos pins s σ H Q I hu => h pos pins s σ H Q I (q σ H Q hu)
theorem b4z {x1} (h : PA X es t) : PE X (.Tuple es x1 pos) (g8y t) := by
 intro pins s σ H Q I hq
 refine wpAny_Tuple_spliced (thn (h pos pins s σ H _ I hq) fun us s1 ⟨xs, H1, I1, r, z, q⟩ => ⟨by rw [<- r.length]; exact z, ?_⟩)
 have hf : H1 s1.heap.objs.size = none := I1.hok.fresh (Nat.le_refl _)
 refine ⟨.ref s1.heap.objs.size, upd H1 s1.heap.objs.size (.tup xs), I1.laid (t' := s1.toks) (fun b u e => Heap.get?_push_of_some _ e) (Nat.le_refl _) ?_, rfl, q.raw _ hf⟩
 exact ⟨z, us, r, ⟨_, Heap.get?_push_size _ rfl, rfl, _, rfl⟩⟩
theorem c7r (h : PA X es t) : PE X (.List es pos) (g8z t) := by
 intro pins s σ H Q I hq
 refine wpAny_List_spliced (thn (h pos pins s σ H _ I hq) fun us s1 ⟨xs, H1, I1, r, z, q⟩ => ⟨by rw [<- r.length]; exact z, ?_⟩)
 have hf : H1 s1.heap.objs.size = none := I1.hok.fresh (Nat.le_refl _)
 refine ⟨.ref s1.heap.objs.size, upd H1 s1.heap.objs.size (.lst xs), I1.laid (t' := s1.toks) (fun b u e => Heap.get?_push_of_some _ e) (Nat.le_refl _) ?_, rfl, q.raw _ hf⟩
 exact ⟨z, us, 0, r, Heap.get?_push_size _ rfl⟩
theorem f2k : a8p X (.type "list") (fun xs H Q => ∃ p ys, xs = [.ref p] ∧ (SqL X.K H p ys ∨ SqT X.K H p ys) ∧ New H (.lst ys) Q ⟨⟩) := by
 intro pins s σ H xs us Q I r h
 obtain ⟨p, ys, e, h1, h2⟩ := h
 exact d5j pins s σ H xs us Q I r ⟨p, ys, e, h1, h2.raw⟩
end
theorem Same.tup {K : PySem.W.Frag} {H H' : Hp} {a : Addr} {xs : List V} (e : Same H H') (h : SqT K H a xs) : SqT K H' a xs := by
 rcases h with (h | ⟨o, h⟩) | h
 ·exact .inl (.inl (e _ _ h))
 ·exact .inl (.inr ⟨o, e _ _ h⟩)
 ·exact .inr h
end L2
namespace L2
open PySem PySem.Spec PyProof.Rows
open PySem.Builtin.Int (intBits)
section
variable {X : Cx} {e a b c : Expr} {es rest : List Expr} {pos : Pos} {tg iter : Expr}
theorem PE.weak {t u : TE} (h : PE X e t) (q : ∀ σ H Q, u σ H Q -> t σ H Q) : PE X e u := fun pins s σ H Q I hu => h pins s σ H Q I (q σ H Q hu)
theorem PT.weak {t u : TT} (h : PT X e t) (q : ∀ σ H Q, u σ H Q -> t σ H Q) : PT X e u := fun pins s σ H Q I hu => h pins s σ H Q I (q σ H Q hu)
theorem PI.weak {t u : TI} (h : PI X tg iter t) (q : ∀ σ H Q, u σ H Q -> t σ H Q) : PI X tg iter u := fun pins s σ H Q I hu => h pins s σ H Q I (q σ H Q hu)
theorem OpR.weak {f : Value -> Value -> Sem Value} {r r' : R2} (h : OpR X f r) (q : ∀ x y H Q, r' x y H Q -> r x y H Q) : OpR X f r' := fun pins s σ H x y v u Q I rx ry hr => h pins s σ H x y v u Q I rx ry (q x y H Q hr)
theorem UnR.weak {f : Value -> Sem Value} {r r' : V -> Hp -> VK -> Prop} (h : UnR X f r) (q : ∀ x H Q, r' x H Q -> r x H Q) : UnR X f r' := fun pins s σ H x v Q I rx hr => h pins s σ H x v Q I rx (q x H Q hr)
theorem a8p.weak {f : Value} {r r' : List V -> Hp -> VK -> Prop} (h : a8p X f r) (q : ∀ xs H Q, r' xs H Q -> r xs H Q) : a8p X f r' := fun pins s σ H xs us Q I rx hr => h pins s σ H xs us Q I rx (q xs H Q hr)
theorem IxR.weak {r r' : R2} (h : IxR X r) (q : ∀ x y H Q, r' x y H Q -> r x y H Q) : IxR X r' := fun value slice pins s σ H x y v u Q I rx ry hr hs => h value slice pins s σ H x y v u Q I rx ry (q x y H Q hr) hs
noncomputable def b8u (i : Nat) : TE := fun σ H Q => match σ[i]? with
 | some (some v) => Q v H
 | _ => False
theorem pvF (i : Nat) {x : Str} {pos : Pos} (hN : X.N[i]? = some x := by rfl) (hv : Vis X.env.scope x := by first | exact Or.inl rfl | exact Or.inr (Or.inl rfl) | exact Or.inr (Or.inr rfl)) (hd : (x == ("__debug__" : Str)) = false := by decide)
  (hcd : (x == ("__classdict__" : Str)) = false := by decide) : PE X (.Name x pos) (b8u i) := (g7l hN hv hd hcd).weak fun σ H Q h => by
 unfold b8u at h
 split at h
 ·rename_i v e
  exact ⟨v, e, h⟩
 ·exact h.elim
noncomputable def rIF (C : Int -> Int -> Prop) (g : Int -> Int -> V) : R2 := fun x y H Q => match x, y with
 | .int i, .int j => C i j /\ Q (g i j) H
 | _, _ => False
noncomputable def g5h (g : Int -> Int -> V) : R2 := fun x y H Q => match x, y with
 | .int i, .int j => Q (g i j) H
 | _, _ => False
theorem f6r {C : Int -> Int -> Prop} {g : Int -> Int -> V} : ∀ x y H Q, rIF C g x y H Q -> rI C g x y H Q := fun x y H Q h => by
 cases x <;> cases y <;> first | exact False.elim h | exact ⟨_, _, rfl, rfl, h⟩
theorem c7s {g : Int -> Int -> V} : ∀ x y H Q, g5h g x y H Q -> rI0 g x y H Q := fun x y H Q h => by
 cases x <;> cases y <;> first | exact False.elim h | exact ⟨_, _, rfl, rfl, h⟩
theorem c3s : OpR X (binaryOp .Sub) (g5h fun i j => .int (i - j)) := g8b.weak c7s
theorem a8r : OpR X (binaryOp .FloorDiv) (rIF CFd fun i j => .int (i.fdiv j)) := g1c.weak f6r
theorem a6r : OpR X (binaryOp .Mod) (rIF (fun _ j => j ≠ 0) fun i j => .int (i.fmod j)) := g4r.weak f6r
theorem f0o : OpR X (binaryOp .Pow) (rIF h3i fun i j => .int (i ^ j.toNat)) := g8c.weak f6r
theorem of_lt : OpR X (compareOp .Lt) (g5h fun i j => .bl (decide (i < j))) := h3l.weak c7s
theorem of_le : OpR X (compareOp .LtE) (g5h fun i j => .bl (decide (i <= j))) := h3m.weak c7s
theorem d8g : OpR X (compareOp .Gt) (g5h fun i j => .bl (decide (j < i))) := h3n.weak c7s
theorem h3w : OpR X (compareOp .GtE) (g5h fun i j => .bl (decide (j <= i))) := h3o.weak c7s
noncomputable def rUF (g : Int -> V) : V -> Hp -> VK -> Prop := fun x H Q => match x with
 | .int i => Q (g i) H
 | _ => False
theorem g3m : UnR X (unaryOp .USub) (rUF fun i => .int (-i)) := g8d.weak fun x H Q h => by
 cases x <;> first | exact False.elim h | exact ⟨_, rfl, h⟩
noncomputable def tBF (t : TE) : TT := fun σ H Q => t σ H fun x H1 => match x with
 | .bl k => Q k H1
 | _ => False
theorem a2h {op : CmpOp} {r : R2} {ta tb : TE} (ho : OpR X (compareOp op) r) (ha : PE X a ta) (hb : PE X b tb) (hm : behindInMarks op b = false) : PT X (.Compare a [op] [b] pos) (tBF (tOp r ta tb)) := by
 intro pins s σ H Q I h
 refine (g4s (ho.weak (r' := fun x y H Q => r x y H Q) fun _ _ _ _ z => z) ha hb hm) pins s σ H _ I ?_
 unfold g8f
 exact h |> fun h => by
  unfold tBF at h
  have e : (fun (x : V) (H1 : Hp) => match x with | .bl k => Q k H1 | _ => False) = fun x H1 => ∃ k, x = V.bl k /\ Q k H1 := by
   funext x H1
   cases x <;> simp
  rw [e] at h
  exact h
theorem a6w {t : TE} (h : PE X e t) (he : ∀ whole, isTrue e X.env whole = (do let v <- whole; standAt e.pos; holding [v] (truthy v)) := by intro _; rfl) : PT X e (tBF t) := by
 intro pins s σ H Q I hw
 refine (g7m h he) pins s σ H _ I ?_
 unfold tB
 unfold tBF at hw
 have e : (fun (x : V) (H1 : Hp) => match x with | .bl k => Q k H1 | _ => False) = fun x H1 => ∃ k, x = V.bl k /\ Q k H1 := by
  funext x H1
  cases x <;> simp
 rw [e] at hw
 exact hw
noncomputable def g5i (ta tb : TE) : TE := fun σ H Q => ta σ H fun x H1 => match x with
 | .bl c => if c = true then tb σ H1 Q else Q (.bl false) H1
 | _ => False
noncomputable def tOrF (ta tb : TE) : TE := fun σ H Q => ta σ H fun x H1 => match x with
 | .bl c => if c = true then Q (.bl true) H1 else tb σ H1 Q
 | _ => False
noncomputable def g5j (ta : TE) : TE := fun σ H Q => ta σ H fun x H1 => match x with
 | .bl c => Q (.bl (!c)) H1
 | _ => False
theorem f6s {ta tb : TE} (ha : PE X a ta) (hb : PE X (.BoolOp .And (b :: rest) pos) tb) : PE X (.BoolOp .And (a :: b :: rest) pos) (g5i ta tb) := by
 intro pins s σ H Q I h
 refine (g7p ha hb) pins s σ H Q I ?_
 unfold g7n
 unfold g5i at h
 have e : (fun (x : V) (H1 : Hp) => match x with | .bl c => (if c = true then tb σ H1 Q else Q (.bl false) H1) | _ => False) = fun x H1 => ∃ c, x = V.bl c /\ if c = true then tb σ H1 Q else Q (.bl false) H1 := by
  funext x H1
  cases x <;> simp
 rw [e] at h
 exact h
theorem f6t {ta : TE} (ha : PE X a ta) : PE X (.UnaryOp .Not a pos) (g5j ta) := by
 intro pins s σ H Q I h
 refine (g7q ha) pins s σ H Q I ?_
 unfold g7o
 unfold g5j at h
 have e : (fun (x : V) (H1 : Hp) => match x with | .bl c => Q (.bl (!c)) H1 | _ => False) = fun x H1 => ∃ c, x = V.bl c /\ Q (.bl (!c)) H1 := by
  funext x H1
  cases x <;> simp
 rw [e] at h
 exact h
noncomputable def f6u (ta : TA) : TI := fun σ H R => ta σ H fun vs H1 => match vs with
 | [.int j] => -(2 ^ 62) <= j /\ j < 2 ^ 62 /\ R (Itr 0 j.toNat) H1
 | _ => False
noncomputable def f6v (ta : TA) : TI := fun σ H R => ta σ H fun vs H1 => match vs with
 | [.int i, .int j] => (-(2 ^ 62) <= i /\ i < 2 ^ 62 /\ -(2 ^ 62) <= j /\ j < 2 ^ 62) /\ R (Itr i (j - i).toNat) H1
 | _ => False
noncomputable def g9i (ta : TA) : TI := fun σ H R => ta σ H fun vs H1 => match vs with
 | [.int i, .int j, .int c] => (0 <= i /\ i < 2 ^ 32 /\ 0 <= j /\ j < 2 ^ 32 /\ 0 < c /\ c < 2 ^ 30) /\ R (h6k i c (h2w i j c)) H1
 | _ => False
theorem b2k {ta : TA} {p pos : Pos} (hg : Gl X "range") (hm : X.mg "range" = none) (ha : PA X [a] ta) (hs : starEach [a] X.env = [(false, eval a X.env)] := by rfl) : PI X tg (.Call (.Name "range" p) [a] [] pos) (f6u ta) := by
 refine (f4z hg hm ha hs).weak fun σ H R h => ?_
 unfold g7w
 unfold f6u at h
 have e : (fun (vs : List V) (H1 : Hp) => (match vs with | [.int j] => -(2 ^ 62) <= j /\ j < 2 ^ 62 /\ R (Itr 0 j.toNat) H1 | _ => False : Prop)) = fun vs H1 => ∃ j : Int, vs = [.int j] /\ -(2 ^ 62) <= j /\ j < 2 ^ 62 /\ R (Itr 0 j.toNat) H1 := by
  funext vs H1
  refine propext ⟨fun z => ?_, fun ⟨j, e, z⟩ => by subst e; exact z⟩
  match vs, z with
  | [.int j], z => exact ⟨j, rfl, z⟩
 rw [e] at h
 exact h
theorem f2l {ta : TA} {p pos : Pos} (hg : Gl X "range") (hm : X.mg "range" = none) (ha : PA X [a, b] ta) (hs : starEach [a, b] X.env = [(false, eval a X.env), (false, eval b X.env)] := by rfl) (hs2 : starEach [b] X.env = [(false, eval b X.env)] := by rfl) :
  PI X tg (.Call (.Name "range" p) [a, b] [] pos) (f6v ta) := by
 refine (f5g hg hm ha hs hs2).weak fun σ H R h => ?_
 unfold g7x
 unfold f6v at h
 have e : (fun (vs : List V) (H1 : Hp) => match vs with | [.int i, .int j] => (-(2 ^ 62) <= i /\ i < 2 ^ 62 /\ -(2 ^ 62) <= j /\ j < 2 ^ 62) /\ R (Itr i (j - i).toNat) H1 | _ => False) = fun vs H1 => ∃ i j : Int, vs = [.int i, .int j] /\ (-(2 ^ 62) <= i /\ i < 2 ^ 62 /\ -(2 ^ 62) <= j /\ j < 2 ^ 62) /\ R (Itr i (j - i).toNat) H1 := by
  funext vs H1
  refine propext ⟨fun z => ?_, fun ⟨i, j, e, z⟩ => by subst e; exact z⟩
  match vs, z with
  | [.int i, .int j], z => exact ⟨i, j, rfl, z⟩
 rw [e] at h
 exact h
noncomputable def f6w (K : PySem.W.Frag) (tl : TE) : TI := fun σ H R => tl σ H fun x H1 => match x with
 | .ref a => (∃ xs, SqL K H1 a xs) /\ R (Itl K a) H1
 | _ => False
theorem c3t {l : Expr} {tl : TE} (hl : PE X l tl) : PI X tg l (f6w X.K tl) := (g4q hl).weak fun σ H R h => by
 unfold g7v
 unfold f6w at h
 have e : (fun (x : V) (H1 : Hp) => match x with | .ref a => (∃ xs, SqL X.K H1 a xs) /\ R (Itl X.K a) H1 | _ => False) = fun x H1 => ∃ a, x = .ref a /\ (∃ xs, SqL X.K H1 a xs) /\ R (Itl X.K a) H1 := by
  funext x H1
  cases x <;> simp
 rw [e] at h
 exact h
noncomputable def g9j (K : PySem.W.Frag) : R2 := fun x y H Q => match x, y with
 | .ref p, .int i => ∃ ns : List Int, SqL K H p (ns.map V.int) /\ 0 <= i /\ i < ns.length /\ Q (.int (ns.getD i.toNat 0)) H
 | _, _ => False
theorem g1e {ns : List Int} {i : Int} (h0 : 0 <= i) (h1 : i < ns.length) : atI (ns.map V.int) i = some (.int (ns.getD i.toNat 0)) := by
 obtain ⟨j, rfl⟩ := Int.eq_ofNat_of_zero_le h0
 refine c4p ?_
 have hj : j < ns.length := by omega
 rw [List.getElem?_map, List.getElem?_eq_getElem hj, List.getD_eq_getElem?_getD, Int.toNat_natCast, List.getElem?_eq_getElem hj]
 rfl
theorem ix_S : IxR X (g9j X.K) := f5z.weak fun x y H Q h => by
 cases x with
 | ref p =>
  cases y with
  | int i =>
   obtain ⟨ns, h1, h2, h3, h4⟩ := h
   exact ⟨p, _, i, _, rfl, rfl, h1, g1e h2 h3, h4⟩
  | _ => exact False.elim h
 | _ => exact False.elim h
noncomputable def g9k (K : PySem.W.Frag) : List V -> Hp -> VK -> Prop := fun xs H Q => match xs with
 | [.ref p] => ∃ ys, SqL K H p ys /\ Q (.int ys.length) H
 | _ => False
theorem f2m : a8p X (.builtin "len") (g9k X.K) := f6q.weak fun xs H Q h => by
 match xs, h with
 | [.ref p], ⟨ys, h1, h2⟩ => exact ⟨p, ys, rfl, h1, h2⟩
noncomputable def g9l (K : PySem.W.Frag) : V -> Option Int -> Option Int -> Hp -> VK -> Prop := fun x lo hi H Q => match x with
 | .ref a => ∃ xs, SqL K H a xs /\ New H (.lst (d4z xs lo hi)) Q ⟨⟩
 | _ => False
theorem h3x : SlR X (g9l X.K) := by
 intro pins s σ H x v vl vu lo hi sl Q I rx hs pl pu h
 cases x <;> first
  | exact False.elim h
  | (obtain ⟨xs, h1, h2⟩ := h
     exact sl_K pins s σ H _ v vl vu lo hi sl Q I rx hs pl pu ⟨_, xs, rfl, h1, h2⟩)
noncomputable def f6y (t : TE) : TO := fun σ H Q => t σ H fun x H1 => match x with
 | .int i => Q (some i) H1
 | _ => False
theorem a5n {te : TE} (h : PE X e te) : PO X (some e) (f6y te) := by
 intro pins s σ H Q I hw
 refine (g4x h) pins s σ H Q I ?_
 unfold g8j
 unfold f6y at hw
 have e : (fun (x : V) (H1 : Hp) => match x with | .int i => Q (some i) H1 | _ => False) = fun x H1 => ∃ i, x = V.int i /\ Q (some i) H1 := by
  funext x H1
  cases x <;> simp
 rw [e] at hw
 exact hw
noncomputable def h6n : List V -> Hp -> VK -> Prop := fun xs H Q => match xs with
 | [.int i] => Q (.int i.natAbs) H
 | _ => False
theorem b8v : a8p X (.builtin "abs") h6n := g0w.weak fun xs H Q h => by
 match xs, h with
 | [.int i], h =>
  refine ⟨i, rfl, ?_⟩
  have e : (if i < 0 then -i else i) = (i.natAbs : Int) := by split <;> omega
  rw [e]
  exact h
noncomputable def h6o : List V -> Hp -> VK -> Prop := fun xs H Q => match xs with
 | [.int i, .int j] => Q (.int (min i j)) H
 | _ => False
noncomputable def h6p : List V -> Hp -> VK -> Prop := fun xs H Q => match xs with
 | [.int i, .int j] => Q (.int (max i j)) H
 | _ => False
theorem f6z (hc : X.calm = true) : a8p X (.builtin "min") h6o := (f5p hc).weak fun xs H Q h => by
 match xs, h with
 | [.int i, .int j], h =>
  refine ⟨i, j, rfl, ?_⟩
  have e : (if j < i then j else i) = min i j := by split <;> omega
  rw [e]
  exact h
theorem f7g (hc : X.calm = true) : a8p X (.builtin "max") h6p := (f5o hc).weak fun xs H Q h => by
 match xs, h with
 | [.int i, .int j], h =>
  refine ⟨i, j, rfl, ?_⟩
  have e : (if j > i then j else i) = max i j := by split <;> omega
  rw [e]
  exact h
noncomputable def g3n (K : PySem.W.Frag) : List V -> Hp -> VK -> Prop := fun xs H Q => match xs with
 | [.ref p] => (match H p with
  | some (.lst ys) => New H (.lst ys) Q ⟨⟩
  | some (.tup ys) => New H (.lst ys) Q ⟨⟩
  | _ => False)
 | _ => False
theorem c1n : a8p X (.type "list") (g3n X.K) := f2k.weak fun xs H Q h => by
 match xs, h with
 | [.ref p], h =>
  have h' : (match H p with
   | some (.lst ys) => New H (.lst ys) Q ⟨⟩
   | some (.tup ys) => New H (.lst ys) Q ⟨⟩
   | _ => False) := h
  split at h'
  ·rename_i ys e
   exact ⟨p, ys, rfl, .inl (SqL.of e), h'⟩
  ·rename_i ys e
   exact ⟨p, ys, rfl, .inr (SqT.of e), h'⟩
  ·exact h'.elim
theorem g9m {α : Type} {x : α} {xs : List α} {p : α -> Prop} : (∃ v, atI (x :: xs) 0 = some v /\ p v) = p x := by
 rw [g3i]; simp
theorem g9n {α : Type} {x y : α} {xs : List α} {p : α -> Prop} : (∃ v, atI (x :: y :: xs) 1 = some v /\ p v) = p y := by
 rw [g3j]; simp
theorem g9o {α : Type} {x y z : α} {xs : List α} {p : α -> Prop} : (∃ v, atI (x :: y :: z :: xs) 2 = some v /\ p v) = p z := by
 rw [g3k]; simp
theorem g9p {α : Type} {x y z u : α} {xs : List α} {p : α -> Prop} : (∃ v, atI (x :: y :: z :: u :: xs) 3 = some v /\ p v) = p u := by
 rw [g3l]; simp
end
end L2
namespace L2
open PySem PySem.Spec PyProof.Rows PySem.W
end L2
namespace L2
open PySem PySem.Spec PyProof.Rows
open PySem.Builtin.Int (intBits)
noncomputable def tCut (t u : TS) : TS := fun D σ H => ∃ Mid : St -> Hp -> Prop, t { D with nx := Mid } σ H /\ ∀ σ' H', Mid σ' H' -> u D σ' H'
theorem b2w {X : Cx} {st : Stmt} {rest : List Stmt} {t u : TS} (h1 : PS X st t) (h2 : PSs X rest u) : PSs X (st :: rest) (tCut t u) := by
 intro pins s σ H D I h
 obtain ⟨Mid, h, hm⟩ := h
 refine wpAny_execs_cons (thn (h1 pins s σ H { D with nx := Mid } I h) fun f s1 q => ?_)
 cases f with
 | next =>
  obtain ⟨σ', H', I', q⟩ := q
  exact h2 pins s1 σ' H' D I' (hm σ' H' q)
 | ret v => exact q
 | brk => exact q
 | cont => exact q
theorem f7h {ns : List Int} {n : Nat} (h : ∀ x ∈ ns, intBits x <= n) (k : Nat) : intBits (ns.getD k 0) <= n := by
 rw [List.getD_eq_getElem?_getD]
 cases e : ns[k]? with
 | none => exact Nat.zero_le _
 | some x => exact h x (List.mem_of_getElem? e)
end L2
namespace L2
open PySem PySem.Spec PyProof.Rows
theorem c4r {env : Env} : ∀ (names : List (Str × NameKind)) (acc : List (Str × Addr)), (∀ y, (y, NameKind.free) ∈ names -> ∃ c, env.cells.lookup y = some c) ->
  ∃ cl, (forIn names acc (fun (x : Str × NameKind) (cs : List (Str × Addr)) => (if x.2 == NameKind.free then (do let c <- cellOf env x.1; pure (ForInStep.yield ((x.1, c) :: cs))) else pure (ForInStep.yield cs) : Sem (ForInStep (List (Str × Addr)))))) = pure cl /\
   (∀ y c, cl.lookup y = some c -> acc.lookup y = some c \/ ((y, NameKind.free) ∈ names /\ env.cells.lookup y = some c)) /\
   (∀ y, (y, NameKind.free) ∈ names -> cl.lookup y = env.cells.lookup y) /\ (∀ y, (∀ k, (y, k) ∈ names -> k ≠ NameKind.free) -> cl.lookup y = acc.lookup y)
 | [], acc, _ => ⟨acc, rfl, fun y c h => .inl h, fun y h => (nomatch h), fun y _ => rfl⟩
 | (n, k) :: r, acc, h => by
  by_cases hk : k = NameKind.free
  ·subst hk
   obtain ⟨c, hc⟩ := h n List.mem_cons_self
   obtain ⟨cl, h1, h2, h3, h4⟩ := c4r r ((n, c) :: acc) fun y hy => h y (List.mem_cons_of_mem _ hy)
   have e : cellOf env n = pure c := by unfold cellOf; rw [hc]
   refine ⟨cl, ?_, fun y d hd => ?_, fun y hy => ?_, fun y hy => ?_⟩
   ·rw [List.forIn_cons]
    simp only [beq_self_eq_true, if_true, e, pure_bind]
    exact h1
   ·rcases h2 y d hd with z | ⟨z1, z2⟩
    ·rw [List.lookup_cons] at z
     by_cases hy : y = n
     ·subst hy
      simp only [beq_self_eq_true] at z
      cases z
      exact .inr ⟨List.mem_cons_self, hc⟩
     ·have : (y == n) = false := by simpa using hy
      rw [this] at z
      exact .inl z
    ·exact .inr ⟨List.mem_cons_of_mem _ z1, z2⟩
   ·by_cases hr : (y, NameKind.free) ∈ r
    ·exact h3 y hr
    ·rcases List.mem_cons.mp hy with z | z
     ·cases z
      by_cases hq : ∃ k, (n, k) ∈ r /\ k = NameKind.free
      ·obtain ⟨k, z, rfl⟩ := hq
       exact absurd z hr
      ·rw [h4 n fun k hk e => hq ⟨k, hk, e⟩, List.lookup_cons]
       simp only [beq_self_eq_true]
       exact hc.symm
     ·exact absurd z hr
   ·have hn : y ≠ n := fun e => by
     subst e
     exact hy _ List.mem_cons_self rfl
    rw [h4 y fun k hk => hy k (List.mem_cons_of_mem _ hk), List.lookup_cons]
    have : (y == n) = false := by simpa using hn
    rw [this]
  ·obtain ⟨cl, h1, h2, h3, h4⟩ := c4r r acc fun y hy => h y (List.mem_cons_of_mem _ hy)
   have hb : (k == NameKind.free) = false := by simpa using hk
   refine ⟨cl, ?_, fun y d hd => ?_, fun y hy => ?_, fun y hy => h4 y fun k hk => hy k (List.mem_cons_of_mem _ hk)⟩
   ·rw [List.forIn_cons]
    simp only [hb, Bool.false_eq_true, if_false, pure_bind]
    exact h1
   ·rcases h2 y d hd with z | ⟨z1, z2⟩
    ·exact .inl z
    ·exact .inr ⟨List.mem_cons_of_mem _ z1, z2⟩
   ·rcases List.mem_cons.mp hy with z | z
    ·cases z
     exact absurd rfl hk
    ·exact h3 y z
theorem d1l {env : Env} {sc : Scope} (h : ∀ y, (y, NameKind.free) ∈ sc.names -> ∃ c, env.cells.lookup y = some c) :
  ∃ cl, closureFor sc env = pure cl /\ (∀ y c, cl.lookup y = some c -> (y, NameKind.free) ∈ sc.names /\ env.cells.lookup y = some c) /\ (∀ y, (y, NameKind.free) ∈ sc.names -> cl.lookup y = env.cells.lookup y) := by
 obtain ⟨cl, h1, h2, h3, _⟩ := c4r (env := env) sc.names [] h
 refine ⟨cl, ?_, fun y c hy => (h2 y c hy).elim (fun z => nomatch z) id, h3⟩
 unfold closureFor
 show (forIn sc.names [] _ >>= fun cs => pure cs) = pure cl
 rw [bind_pure]
 exact h1
end L2
namespace L2
open PySem PySem.Spec PyProof.Rows
noncomputable def mask (x : Str) (N : List Str) : List Str := N.map fun y => if y = x then "" else y
noncomputable def b5t (X : Cx) (scope : Scope) (cl : List (Str × Addr)) (C : Addr) (s₃ : Shared) (H₃ : Hp) (fp : List Addr) (x : Str) : Cx where
 prog := X.prog
 w := X.w
 K := X.K
 mg := X.mg
 base := X.base
 A := X.A
 N := x :: mask x X.N
 s₀ := s₃
 H₀ := H₃
 env := compEnvC scope cl C X.env
 outer := X.stack
 stack := X.stack
 ex := fp
 fn := fun _ => false
 calm := X.calm
 pn := []
 xe := fun _ _ => False
noncomputable def a6y (D : Addr) (H H' : Hp) : Prop := ∀ b o, b ≠ D -> H b = some o -> H' b = some o
theorem a6y.upd {D : Addr} {H : Hp} {o : HO} : a6y D H (upd H D o) := fun b u hb e => by rw [a2u hb]; exact e
noncomputable def f2n (J : It) (te : TE) (D : Addr) (σ : St) (H : Hp) (Q : VK) (_ : Tag Q) : Prop := ∃ (n : Nat) (W : Nat -> List V -> Hp -> Prop), W 0 [] H /\ ∀ i ys H, i <= n -> W i ys H -> H D = some (.lst ys) /\
 ((J.stop i H /\ Q (.ref D) H) \/ (i < n /\ J.go i H /\ ys.length < sizeLine /\ ∀ x H', J.yld i H x H' -> te (some x :: σ) H' fun y H2 => H2 D = some (.lst ys) /\
  ∀ H3, a6y D H2 H3 -> H3 D = some (.lst (ys ++ [y])) -> W (i + 1) (ys ++ [y]) H3))
noncomputable def g5k (wi : TI) (te : TE) : TE := fun σ H Q => wi σ H fun J H1 => ∀ D H2, H1 D = none -> Same H1 H2 -> H2 D = some (.lst []) -> f2n J te D σ H2 Q ⟨⟩
theorem c1o {env : Env} {x : Str} : ∀ (names : List (Str × NameKind)) (k : NameKind), (names.map fun (n, k) => if (k == NameKind.free && env.scope.kind == .function && env.kindOf n == some .cell) then (n, NameKind.cell) else (n, k)).lookup x = some k ->
  (names.lookup x = some k) \/ (k = .cell /\ names.lookup x = some .free)
 | [], k, e => by cases e
 | (n, q) :: r, k, e => by
  rw [List.map_cons] at e
  dsimp only at e
  rw [List.lookup_cons]
  cases hx : (x == n) with
  | true =>
   by_cases hc : (q == NameKind.free && env.scope.kind == .function && env.kindOf n == some .cell) = true
   ·rw [if_pos hc, List.lookup_cons, hx] at e
    have : q = .free := by
     simp only [Bool.and_eq_true, beq_iff_eq] at hc
     exact hc.1.1
    subst this
    cases e
    exact .inr ⟨rfl, rfl⟩
   ·rw [if_neg hc, List.lookup_cons, hx] at e
    exact .inl e
  | false =>
   have e' : (r.map fun (n, k) => if (k == NameKind.free && env.scope.kind == .function && env.kindOf n == some .cell) then (n, NameKind.cell) else (n, k)).lookup x = some k := by
    by_cases hc : (q == NameKind.free && env.scope.kind == .function && env.kindOf n == some .cell) = true
    ·rw [if_pos hc, List.lookup_cons, hx] at e
     exact e
    ·rw [if_neg hc, List.lookup_cons, hx] at e
     exact e
   exact c1o r k e'
theorem c1u {env : Env} {sc : Scope} {x : Str} (h : (relabel sc env).names.lookup x = some .cell \/ (relabel sc env).names.lookup x = some .free) : (x, NameKind.free) ∈ sc.names \/ (x, NameKind.cell) ∈ sc.names := by
 rcases h with h | h
 ·rcases c1o sc.names _ h with z | ⟨_, z⟩
  ·exact .inr (PySem.mem_of_lookup z)
  ·exact .inl (PySem.mem_of_lookup z)
 ·rcases c1o sc.names _ h with z | ⟨z, _⟩
  ·exact .inl (PySem.mem_of_lookup z)
  ·cases z
structure b8w (X : Cx) (scope : Scope) (x : Str) : Prop where
 kind : scope.kind = .function
 f0p : ∀ y ∈ scope.names, y.2 ≠ .cell
 loc : ∀ y ∈ scope.names, y.2 = .local -> scope.names.lookup y.1 = some .local
 own : scope.names.lookup x = some .local
 free : ∀ y ∈ scope.names, y.2 = .free -> X.env.kindOf y.1 = some .cell \/ X.env.kindOf y.1 = some .free
 nd : (x :: mask x X.N).Nodup
 noe : ∀ y ∈ scope.names, y.1 ≠ ""
 vis : ∀ y ∈ mask x X.N, scope.names.lookup y ≠ some .local
section
variable {X : Cx} {scope : Scope} {x : Str} {cl : List (Str × Addr)} {pins : List (Addr × Obj)} {σ : St} {H : Hp} {s s₄ : Shared} {fp : List Addr}
theorem Inv.comp (S : b8w X scope x) (I : Inv X pins σ H s) (hcl : ∀ y c, cl.lookup y = some c -> (y, NameKind.free) ∈ scope.names /\ X.env.cells.lookup y = some c) (hcl2 : ∀ y, (y, NameKind.free) ∈ scope.names -> cl.lookup y = X.env.cells.lookup y)
  (hfp : ∀ b ∈ fp, f1v X pins H b) (hlt : ∀ b ∈ fp, b < s.heap.objs.size) {m : Str -> Option Value} (hns : s₄.heap.Ns s.heap.objs.size m) (hk : ∀ b o, s.heap.get? b = some o -> s₄.heap.get? b = some o) (hos : s₄.os = s.os) (hg : s₄.gens = s.gens) :
  Inv (b5t X scope cl s.heap.objs.size s H fp x) [] (none :: σ) H s₄ := by
 have below : ∀ {b : Addr} {o : Obj}, s.heap.get? b = some o -> b ≠ s.heap.objs.size := fun e => Nat.ne_of_lt (Heap.lt_size e)
 refine ⟨⟨I.ok.mod, ?_, I.ok.glob, I.ok.blt, Nat.le_refl _, fun y z c h1 h2 => I.ok.inj y z c (hcl y c h1).2 (hcl z c h2).2, fun y hy => ?_, (fun y c h => nomatch h), I.ok.hd, I.ok.frames, .inl rfl, fun b hb => ⟨Nat.ne_of_lt (hlt b hb), fun y c e => (hfp b hb).2.2.2.2.1 y c (hcl y c e).2⟩,
  fun b o e => I.bs b o e, Nat.le_trans I.ok.bsz I.sz, fun b o e hb => ?_, fun b hb hf => ?_, I.stack, I.f4t⟩,
  hos, by rw [hg]; exact I.bare, Un.kept hk, ⟨m, hns, fun i y v h1 h2 h3 => ?_⟩, fun y c e => ?_, I.hok.fresh (Nat.le_refl _), fun y c e => I.c4o y c (hcl y c e).2, fun p hp => absurd (show p ∈ ([] : List (Addr × Obj)) from hp) (by simp), I.hok.kept hk, by show (none :: σ).length = (x :: mask x X.N).length; rw [List.length_cons, List.length_cons, mask, List.length_map, I.len]⟩
 ·exact S.kind
 ·rcases c1u (env := X.env) (sc := scope) (x := y) hy with z | z
  ·obtain ⟨c, hc⟩ := I.ok.has y (S.free _ z rfl)
   exact ⟨c, (hcl2 y z).trans hc⟩
  ·exact absurd rfl (S.f0p _ z)
 ·rcases (hfp b hb).2.2.2.1 with z | z
  ·exact I.ok.g6x b o e z
  ·exact absurd (Nat.lt_of_lt_of_le (Heap.lt_size (I.ok.bs b o e).1) z) (Nat.lt_irrefl _)
 ·rcases List.mem_cons.mp (I.d9z b hf) with z | z
  ·exact (hfp b hb).2.1 z
  ·exact (hfp b hb).2.2.1 z
 ·cases i with
  | zero => cases h2
  | succ i =>
   have h1m : (mask x X.N)[i]? = some y := by simpa [b5t] using h1
   have h2' : σ[i]? = some (some v) := by simpa using h2
   have hyN : y ∈ mask x X.N := List.mem_of_getElem? h1m
   have hc : (relabel scope X.env).names.lookup y = some .cell \/ (relabel scope X.env).names.lookup y = some .free := by
    rcases h3 with z | z | z
    ·exfalso
     rcases c1o (env := X.env) scope.names _ z with q | ⟨q, _⟩
     ·exact S.vis y hyN q
     ·cases q
    ·exact .inl z
    ·exact .inr z
   have hfr : (y, NameKind.free) ∈ scope.names := by
    rcases c1u hc with z | z
    ·exact z
    ·exact absurd rfl (S.f0p _ z)
   have h1' : X.N[i]? = some y := by
    rw [mask, List.getElem?_map] at h1m
    obtain ⟨z, hz, e⟩ := Option.map_eq_some_iff.mp h1m
    by_cases hzx : z = x
    ·rw [if_pos hzx] at e
     exact absurd e.symm (S.noe _ hfr)
    ·rw [if_neg hzx] at e
     rw [hz, e]
   obtain ⟨mX, hnX, hl⟩ := I.loc
   have hk2 := S.free _ hfr rfl
   have hvis : Vis X.env.scope y := by
    rcases hk2 with z | z
    ·exact .inr (.inl z)
    ·exact .inr (.inr z)
   obtain ⟨u, ru, lk⟩ := hl i y v h1' h2' hvis
   refine ⟨u, ru, .inr ⟨hc, ?_⟩⟩
   rcases lk with ⟨z, _⟩ | ⟨_, c, ec, o, ho, hd⟩
   ·rcases hk2 with q | q
    ·rw [q] at z; cases z
    ·rw [q] at z; cases z
   ·exact ⟨c, (hcl2 y hfr).trans ec, o, hk c o ho, hd⟩
 ·obtain ⟨v, o, ho, hd⟩ := I.cell y c (hcl y c e).2
  exact ⟨v, o, hk c o ho, hd⟩
theorem Inv.g9q {σ' : St} {H' : Hp} {s' : Shared} {h' : Heap} (I : Inv X pins σ H s) (hfp : ∀ b ∈ fp, f1v X pins H b) (J : Inv (b5t X scope cl s.heap.objs.size s H fp x) [] σ' H' s') (hs : Heap.SameBut s.heap.objs.size s'.heap h') :
  Inv X pins σ H' { s' with heap := h' } := by
 have ne : ∀ {b : Addr} {o : Obj}, s.heap.get? b = some o -> b ≠ s.heap.objs.size := fun e => Nat.ne_of_lt (Heap.lt_size e)
 have u := J.base
 have u' : Un (frs X.stack) fp H H' s.heap h' := ⟨fun b o e n hb hx => hs.extBut b o (ne e) (u.keep b o e n hb hx), fun b o e n hb hx => (u.slot b o e n hb hx).elim fun sl q => ⟨sl, hs.extBut b _ (ne e) q⟩, u.free,
  fun b o e hx => (u.there b o e hx).elim fun o' q => ⟨o', hs.extBut b o' (ne e) q⟩, u.tups, u.d7p, u.d9w⟩
 have nC : ∀ {b : Addr} {o : HO}, H' b = some o -> b ≠ s.heap.objs.size := fun {b o} e z => by
  have f : H' s.heap.objs.size = none := J.free
  rw [z, f] at e; cases e
 have ok : HOk X.prog X.w H' h' := fun b o e => (J.hok b o e).stay (fun c v hc q => hs.extBut c v (by
  rcases hc with z | z
  ·rw [z]; exact nC e
  ·exact nC z) q) (fun _ q => q) fun _ _ q => q
 exact I.call' (s' := { s' with heap := h' }) (ch := fp) J.os u' ok J.bare fun b hb => ⟨(hfp b hb).2.2.2.1, (hfp b hb).2.1, (hfp b hb).2.2.2.2.1, (hfp b hb).2.2.2.2.2⟩
end
end L2
namespace L2
open PySem PySem.Spec PyProof.Rows
section
variable {X : Cx} {scope : Scope} {x : Str} {pins : List (Addr × Obj)} {σ : St} {elt iter : Expr} {px pos : Pos} {wi : TI} {te : TE}
theorem d1m {s₂ : Shared} {H1 : Hp} {it : Addr} {fp : List Addr} {tn : Nat -> Heap -> Prop} {J : It} {Q : VK} {RR : Value -> Addr -> Result -> Shared -> Prop} {E : Value -> Shared -> Prop} {cl : List (Str × Addr)}
  (S : b8w X scope x) (hc : X.calm = true) (he : ∀ cl C s₃ H₃ fp, PE (b5t X scope cl C s₃ H₃ fp x) elt te)
  (hcl : ∀ y c, cl.lookup y = some c -> (y, NameKind.free) ∈ scope.names /\ X.env.cells.lookup y = some c) (hcl2 : ∀ y, (y, NameKind.free) ∈ scope.names -> cl.lookup y = X.env.cells.lookup y)
  (I2 : Inv X pins σ H1 s₂) (T : Turn X.prog X.w X.K (.Name x px) J fp it tn) (st2 : tn 0 s₂.heap) (f2 : ∀ b ∈ fp, f1v X pins H1 b) (h : ∀ D H2, H1 D = none -> Same H1 H2 -> H2 D = some (.lst []) -> f2n J te D σ H2 Q ⟨⟩)
  (hRR : ∀ (D C : Addr) (s' : Shared) (H' : Hp), (∃ m, s'.heap.Ns C m) -> (∀ h' , Heap.SameBut C s'.heap h' -> Inv X pins σ H' { s' with heap := h' }) -> f1v X pins H' C -> Q (.ref D) H' -> RR (.ref D) C (.ok .next) s') :
  wpAny (model X.prog X.w) X.A (newList []) (fun acc s₃ => wpAny (model X.prog X.w) X.A (newFunctionEnv scope X.env.globals cl [] X.env.qual none .none (some X.env)) (fun cenv s₄ =>
   codeAny (model X.prog X.w) X.A (.compStart (.ListComp elt [⟨.Name x px, iter, [], 0⟩] scope pos) 0 (.ref it) acc { cenv with scope := relabel scope X.env }) (RR acc cenv.locals) s₄) E s₃) E s₂ := by
 have hfr : H1 s₂.heap.objs.size = none := I2.hok.fresh (Nat.le_refl _)
 have hCW := h s₂.heap.objs.size _ hfr (Same.upd hfr) a6g
 refine wpAny_newObj_type ?_
 have I3 : Inv X pins σ (upd H1 s₂.heap.objs.size (.lst [])) { s₂ with heap := s₂.heap.push { cls := .type "list", data := .seq ([] : List Value).toArray }, toks := s₂.toks } :=
  I2.laid (t' := s₂.toks) (fun b u e => Heap.get?_push_of_some _ e) (Nat.le_refl _) ⟨Nat.zero_le _, [], 0, .nil, Heap.get?_push_size _ rfl⟩
 have nD : ∀ b ∈ fp, b ≠ s₂.heap.objs.size := fun b hb => by
  obtain ⟨o, e, _⟩ := T.obj 0 _ st2 b hb
  exact Nat.ne_of_lt (Heap.lt_size e)
 have f3 : ∀ b ∈ fp, f1v X pins (upd H1 s₂.heap.objs.size (.lst [])) b := fun b hb => ⟨by rw [a2u (nD b hb)]; exact (f2 b hb).1, (f2 b hb).2⟩
 generalize hH3 : upd H1 s₂.heap.objs.size (.lst []) = H3 at *
 have st3 : tn 0 (s₂.heap.push { cls := .type "list", data := .seq ([] : List Value).toArray }) := T.keep _ _ _ st2 fun b _ o e => Heap.get?_push_of_some _ e
 have h3y : ∀ b ∈ fp, b < (s₂.heap.push { cls := .type "list", data := .seq ([] : List Value).toArray }).objs.size := fun b hb => by
  obtain ⟨o, e, _⟩ := T.obj 0 _ st3 b hb
  exact Heap.lt_size e
 show wpAny (model X.prog X.w) X.A (newFunctionEnv scope X.env.globals cl [] X.env.qual none .none (some X.env)) _ E { s₂ with heap := s₂.heap.push { cls := .type "list", data := .seq ([] : List Value).toArray }, toks := s₂.toks }
 generalize hs3 : ({ s₂ with heap := s₂.heap.push { cls := .type "list", data := .seq ([] : List Value).toArray }, toks := s₂.toks } : Shared) = s₃ at *
 have eh : s₃.heap = s₂.heap.push { cls := .type "list", data := .seq ([] : List Value).toArray } := by rw [← hs3]
 rw [<- eh] at st3 h3y
 generalize s₂.heap.objs.size = D at *
 refine wpAny_newFunctionEnv S.f0p (by intro y hy; simp at hy) (fun h₁ hns₁ hsb₁ => ?_) S.kind
 have hk1 : ∀ b o, s₃.heap.get? b = some o -> h₁.get? b = some o := fun b o e => hsb₁.extBut b o (Nat.ne_of_lt (Heap.lt_size e)) (Heap.get?_push_of_some _ e)
 have J0 : Inv (b5t X scope cl s₃.heap.objs.size s₃ H3 fp x) [] (none :: σ) H3 { s₃ with heap := h₁, toks := s₃.toks + ([] : List (Str × Value)).length } := I3.comp S hcl hcl2 f3 h3y hns₁ hk1 rfl rfl
 obtain ⟨n0, W, w0, turn⟩ := hCW
 have loop : codeAny (model X.prog X.w) X.A (.compLoop (.ListComp elt [⟨.Name x px, iter, [], 0⟩] scope pos) 0 (.ref it) (.ref D) (compEnvC scope cl s₃.heap.objs.size X.env)) (RR (.ref D) s₃.heap.objs.size) { s₃ with heap := h₁, toks := s₃.toks + ([] : List (Str × Value)).length } := by
  refine codeAny_loop rfl (fun n s' => ∃ i ys o H', Inv (b5t X scope cl s₃.heap.objs.size s₃ H3 fp x) [] (o :: σ) H' s' /\ tn i s'.heap /\ (∀ b ∈ fp, H' b = none) /\ W i ys H' /\ i <= n0 /\ n = n0 - i) (fun n s5 hI => ?_) n0
   ⟨0, [], none, H3, J0, T.keep _ _ _ st3 (fun b _ o e => hk1 b o e), fun b hb => (f3 b hb).1, w0, Nat.zero_le _, rfl⟩
  obtain ⟨i, ys, o5, H5, I5, st5, fr5, w5, hin, hnn⟩ := hI
  have stat : ∀ {H' : Hp}, (∀ b ∈ fp, H' b = none) -> ∀ b ∈ fp, f1v (b5t X scope cl s₃.heap.objs.size s₃ H3 fp x) [] H' b := fun hn b hb =>
   ⟨hn b hb, Nat.ne_of_lt (h3y b hb), fun z => (List.mem_cons.mp (I3.d9z b z)).elim (fun q => (f3 b hb).2.1 q) fun q => (f3 b hb).2.2.1 q, .inl hb, fun y c e => (f3 b hb).2.2.2.2.1 y c (hcl y c e).2, fun p hp => absurd (show p ∈ ([] : List (Addr × Obj)) from hp) (by simp)⟩
  show wpAny _ X.A ((compTurn (.ListComp elt [⟨.Name x px, iter, [], 0⟩] scope pos) 0 (.ref it) (.ref D) (compEnvC scope cl s₃.heap.objs.size X.env)).onRaise (fun x => do noteFrame x (compEnvC scope cl s₃.heap.objs.size X.env); theTreesLotGoes x)) _ _ s5
  refine wpAny_noted ?_
  rw [compTurn_list1]
  refine wpAny_bind (wpAny_standAt (wpAny_bind ?_))
  obtain ⟨hD5, alt⟩ := turn i ys H5 hin w5
  rcases alt with ⟨stop, q⟩ | ⟨hlt, go, hsz, step⟩
  ·refine wpAny_mono (T.done (b5t X scope cl s₃.heap.objs.size s₃ H3 fp x) rfl rfl rfl hc i [] s5 _ H5 _ I5 (stat fr5) st5 stop) (fun r s6 ⟨hr, I6⟩ => ?_) fun _ _ z => z
   subst hr
   refine wpAny_pure ?_
   obtain ⟨m6, hn6, _⟩ := I6.loc
   exact hRR D s₃.heap.objs.size s6 H5 ⟨m6, hn6⟩ (fun h' hs' => I3.g9q f3 I6 hs') (I3.g6z (Nat.le_refl _) I6.free) q
  ·refine wpAny_mono (T.item (b5t X scope cl s₃.heap.objs.size s₃ H3 fp x) rfl rfl rfl hc i [] s5 _ H5 _ I5 (stat fr5) st5 go) (fun r s6 ⟨u, hr, h6⟩ => ?_) fun _ _ z => z
   subst hr
   refine wpAny_bind (wpAny_mono h6 (fun _ s7 ⟨v, H7, I7, r7, y7, st7, fr7⟩ => ?_) fun _ _ z => z)
   have I7' := I7.pinned (stat fr7) (T.obj _ _ st7)
   have G := a6v (X := b5t X scope cl s₃.heap.objs.size s₃ H3 fp x) (pos := px) (i := 0) (x := x) S.nd rfl (.inl (lookup_relabel_local S.own)) (.inr (lookup_relabel_local S.own))
   refine wpAny_bind (wpAny_mono (G _ s7 _ H7 v u (fun σ' H' => σ' = some v :: σ /\ H' = H7) I7' r7 ⟨rfl, rfl⟩) (fun _ s8 hs8 => ?_) fun _ _ z => False.elim z)
   obtain ⟨σ8, H8, I8, rfl, rfl⟩ := hs8
   refine wpAny_bind (wpAny_bind (wpAny_mono (he cl s₃.heap.objs.size s₃ H3 fp _ s8 _ _ _ I8 (step v H8 y7)) (fun yv s9 hs9 => ?_) fun _ _ z => False.elim z))
   obtain ⟨y, H9, I9, r9, hD9, k9⟩ := hs9
   refine wpAny_bind (wpAny_mono (d5k (X := b5t X scope cl s₃.heap.objs.size s₃ H3 fp x) _ s9 _ H9 (.ref D) [y] (.ref D) [yv] (fun _ H' => H' = upd H9 D (.lst (ys ++ [y]))) I9 rfl (.cons r9 .nil) ⟨D, ys, y, rfl, rfl, hD9, hsz, rfl⟩) (fun _ sA hsA => ?_) fun _ _ z => False.elim z)
   obtain ⟨_, HA, IA, _, rfl⟩ := hsA
   refine wpAny_pure ?_
   have wA := k9 _ a6y.upd a6g
   refine wpAny_pure ⟨rfl, n0 - (i + 1), by omega, i + 1, ys ++ [y], some v, _, IA.c7j (pins := []) (pl := d4q fp s7.heap), T.keep _ _ _ st7 (fun b hb o e => (IA.pin (b, o) (List.mem_append_right _ (List.mem_append_right _ (c1l hb e)))).1), fun b hb => ?_, wA, hlt, rfl⟩
   obtain ⟨o, e, d⟩ := T.obj _ _ st7 b hb
   exact (IA.pin (b, o) (List.mem_append_right _ (List.mem_append_right _ (c1l hb e)))).2.1
 exact codeAny_compStart_list loop (T.self _ 0 _ _ _ (T.keep _ _ _ st3 fun b _ o e => hk1 b o e) loop)
theorem c7t (hi : PI X (.Name x px) iter wi) (he : ∀ cl C s₃ H₃ fp, PE (b5t X scope cl C s₃ H₃ fp x) elt te) (S : b8w X scope x) (hc : X.calm = true)
  (hs : ∀ x, foldedSetIterable iter X.env x = pure x := by intro _; rfl) : PE X (.ListComp elt [⟨.Name x px, iter, [], 0⟩] scope pos) (g5k wi te) := by
 intro pins s σ H Q I h
 obtain ⟨cl, hclos, hcl, hcl2⟩ := d1l (env := X.env) (sc := scope) fun y hy => I.ok.has y (S.free _ hy rfl)
 rw [eval_ListComp]
 refine wpAny_comprehension_free (use := none) rfl hs hclos S.kind S.loc ?_
 refine thn (hi pins s σ H _ I h) fun v s1 h1 => thn h1 fun itv s2 h2 => ?_
 obtain ⟨it, fp, tn, J, H2, e, I2, T, st2, f2, hW⟩ := h2
 subst e
 exact d1m (RR := fun acc C => compPost (model X.prog X.w) X.A X.xe none (EP X pins σ Q) acc C) S hc he hcl hcl2 I2 T st2 f2 hW fun D C s' H' hm hI _ hq =>
  hm.elim fun m hn => ⟨m, hn, fun h' hs' => ⟨.ref D, H', hI h' hs', rfl, hq⟩⟩
theorem f7i {i : Nat} {y : Str} {py spos : Pos} (hN : X.N.Nodup) (hyi : X.N[i]? = some y) (hy : X.env.scope.names.lookup y = some .local) (hi : PI X (.Name x px) iter wi) (he : ∀ cl C s₃ H₃ fp, PE (b5t X scope cl C s₃ H₃ fp x) elt te) (S : b8w X scope x) (hc : X.calm = true)
  (hsw : swapsWith (.ListComp elt [⟨.Name x px, iter, [], 0⟩] scope pos) (some (.Name y py)) spos.line X.env = pure true := by rfl)
  (hs : ∀ x, foldedSetIterable iter X.env x = pure x := by intro _; rfl) : PS X (.Assign [.Name y py] (.ListComp elt [⟨.Name x px, iter, [], 0⟩] scope pos) spos) (h2r (g5k wi te) (g0t i)) := by
 intro pins s σ H D I h
 obtain ⟨cl, hclos, hcl, hcl2⟩ := d1l (env := X.env) (sc := scope) fun y hy => I.ok.has y (S.free _ hy rfl)
 rw [exec_Assign_Name_used _ _ _ _ hsw]
 refine wpAny_bind (wpAny_standAt (wpAny_bind ?_))
 show wpAny _ X.A (do let _ <- comprehension (.ListComp elt [⟨.Name x px, iter, [], 0⟩] scope pos) scope X.env _ (newList []) false (eval iter X.env) (some (assign (.Name y py) X.env))) _ _ s
 refine wpAny_bind (wpAny_mono (wpAny_comprehension_free (use := some (assign (.Name y py) X.env)) (Q := fun _ s' => SP X pins D .next s') rfl hs hclos S.kind S.loc ?_) (fun _ s' hq => wpAny_pure (wpAny_pure hq)) fun _ _ e => e)
 refine thn (hi pins s σ H _ I h) fun v s1 h1 => thn h1 fun itv s2 h2 => ?_
 obtain ⟨it, fp, tn, J, H2, e, I2, T, st2, f2, hW⟩ := h2
 subst e
 refine d1m (Q := fun v H' => D.nx (σ.set i (some v)) H') (RR := fun acc C => compPost (model X.prog X.w) X.A X.xe (some (assign (.Name y py) X.env)) (fun _ s' => SP X pins D .next s') acc C) S hc he hcl hcl2 I2 T st2 f2 hW fun L C s' H' hm hI hfp hq => ?_
 obtain ⟨m, hn⟩ := hm
 have I' : Inv X pins σ H' s' := hI s'.heap (Heap.SameBut.refl ..)
 show wpAny _ X.A (assign (.Name y py) X.env (.ref L)) _ _ s'
 refine wpAny_assign_Name (d4p (v := .ref L) I' hN hyi (.inl hy) rfl (fun s'' I'' hsb => ?_) (.inr hy))
 obtain ⟨a, hsame, ha⟩ := hsb
 have nea : C ≠ a := by
  rcases ha with z | z
  ·rw [z]; exact hfp.2.1
  ·exact fun q => hfp.2.2.2.2.1 y a z q.symm
 refine ⟨m, hn.sameBut hsame nea, fun h' hs' => ⟨_, H', I''.turned (t' := s''.toks) (it := C) (fun b o hb e => hs'.extBut b o hb e) hfp.1 hfp.2.1 hfp.2.2.2.1 hfp.2.2.2.2.1 hfp.2.2.2.2.2, hq⟩⟩
end
theorem c4s {K : PySem.W.Frag} {a D : Addr} {xs : List V} {te : TE} {σ : St} {H : Hp} {Q : VK} (Pv : Nat -> List V -> Hp -> Prop) (h0 : Pv 0 [] H) (hsz : xs.length <= sizeLine)
  (hD : ∀ i ys H, i <= xs.length -> Pv i ys H -> H D = some (.lst ys) /\ SqL K H a xs /\ ys.length = i)
  (hs : ∀ i x ys H, xs[i]? = some x -> Pv i ys H -> te (some x :: σ) H fun y H2 => H2 D = some (.lst ys) /\ ∀ H3, a6y D H2 H3 -> H3 D = some (.lst (ys ++ [y])) -> Pv (i + 1) (ys ++ [y]) H3)
  (hd : ∀ ys H, Pv xs.length ys H -> Q (.ref D) H) : f2n (Itl K a) te D σ H Q ⟨⟩ := by
 refine ⟨xs.length, Pv, h0, fun i ys H hi p => ?_⟩
 obtain ⟨e1, e2, e3⟩ := hD i ys H hi p
 refine ⟨e1, ?_⟩
 by_cases hlt : i < xs.length
 ·refine .inr ⟨hlt, ⟨xs, xs[i], e2, by simp [hlt]⟩, by omega, fun x H' y => ?_⟩
  obtain ⟨e, y⟩ := y
  subst e
  exact hs i x ys _ (y xs e2) p
 ·have e : i = xs.length := by omega
  subst e
  exact .inl ⟨⟨xs, e2, Nat.le_refl _⟩, hd ys H p⟩
theorem d8h {D : Addr} {lo : Int} {n : Nat} {te : TE} {σ : St} {H : Hp} {Q : VK} (Pv : Nat -> List V -> Hp -> Prop) (h0 : Pv 0 [] H) (hsz : n <= sizeLine)
  (hD : ∀ i ys H, i <= n -> Pv i ys H -> H D = some (.lst ys) /\ ys.length = i)
  (hs : ∀ i ys H, i < n -> Pv i ys H -> te (some (.int (lo + i)) :: σ) H fun y H2 => H2 D = some (.lst ys) /\ ∀ H3, a6y D H2 H3 -> H3 D = some (.lst (ys ++ [y])) -> Pv (i + 1) (ys ++ [y]) H3)
  (hd : ∀ ys H, Pv n ys H -> Q (.ref D) H) : f2n (Itr lo n) te D σ H Q ⟨⟩ := by
 refine ⟨n, Pv, h0, fun i ys H hi p => ?_⟩
 obtain ⟨e1, e3⟩ := hD i ys H hi p
 refine ⟨e1, ?_⟩
 by_cases hlt : i < n
 ·refine .inr ⟨hlt, hlt, by omega, fun x H' y => ?_⟩
  obtain ⟨e, y⟩ := y
  subst e y
  exact hs i ys _ hlt p
 ·have e : i = n := by omega
  subst e
  exact .inl ⟨Nat.le_refl _, hd ys H p⟩
theorem Same.step {D : Addr} {H0 H H' : Hp} (S : Same H0 H) (n : H0 D = none) (s : a6y D H H') : Same H0 H' := fun b o e => s b o (a3i e n) (S b o e)
theorem d5r {K : PySem.W.Frag} {a D : Addr} {xs : List V} {te : TE} {σ : St} {H0 H : Hp} {Q : VK} (g : V -> V) (n0 : H0 D = none) (S : Same H0 H) (hD : H D = some (.lst [])) (hS : SqL K H0 a xs) (hsz : xs.length <= sizeLine)
  (hs : ∀ (i : Nat) x H' (Q' : VK), xs[i]? = some x -> Same H0 H' -> Q' (g x) H' -> te (some x :: σ) H' Q') (q : ∀ H', Same H0 H' -> H' D = some (.lst (xs.map g)) -> Q (.ref D) H') : f2n (Itl K a) te D σ H Q ⟨⟩ := by
 refine c4s (fun i ys H' => Same H0 H' /\ H' D = some (.lst ys) /\ ys = (xs.take i).map g) ⟨S, hD, by simp⟩ hsz (fun i ys H' hi p => ?_) (fun i x ys H' hx p => ?_) (fun ys H' p => ?_)
 ·refine ⟨p.2.1, p.1.seq hS, ?_⟩
  rw [p.2.2, List.length_map, List.length_take]
  omega
 ·refine hs i x H' _ hx p.1 ⟨p.2.1, fun H3 s3 h3 => ⟨p.1.step n0 s3, h3, ?_⟩⟩
  have hi : i < xs.length := (List.getElem?_eq_some_iff.mp hx).1
  rw [p.2.2, List.take_add_one, hx, List.map_append]
  rfl
 ·refine q H' p.1 ?_
  rw [p.2.1, p.2.2, List.take_length]
theorem c4t {D : Addr} {lo : Int} {n : Nat} {te : TE} {σ : St} {H0 H : Hp} {Q : VK} (g : Nat -> V) (n0 : H0 D = none) (S : Same H0 H) (hD : H D = some (.lst [])) (hsz : n <= sizeLine)
  (hs : ∀ (i : Nat) H' (Q' : VK), i < n -> Same H0 H' -> Q' (g i) H' -> te (some (.int (lo + i)) :: σ) H' Q') (q : ∀ H', Same H0 H' -> H' D = some (.lst ((List.range n).map g)) -> Q (.ref D) H') : f2n (Itr lo n) te D σ H Q ⟨⟩ := by
 refine d8h (fun i ys H' => Same H0 H' /\ H' D = some (.lst ys) /\ ys = (List.range i).map g) ⟨S, hD, by simp⟩ hsz (fun i ys H' hi p => ?_) (fun i ys H' hx p => ?_) (fun ys H' p => ?_)
 ·refine ⟨p.2.1, ?_⟩
  rw [p.2.2, List.length_map, List.length_range]
 ·refine hs i H' _ hx p.1 ⟨p.2.1, fun H3 s3 h3 => ⟨p.1.step n0 s3, h3, ?_⟩⟩
  rw [p.2.2, List.range_succ, List.map_append]
  rfl
 ·refine q H' p.1 ?_
  rw [p.2.1, p.2.2]
noncomputable def g3o (sc scope : Scope) (x : Str) (N : List Str) : Bool :=
 (scope.kind == .function) && scope.names.all (fun y => y.2 != .cell) && scope.names.all (fun y => y.2 != .local || scope.names.lookup y.1 == some .local) && (scope.names.lookup x == some .local) &&
 scope.names.all (fun y => y.2 != .free || (sc.names.lookup y.1 == some .cell || sc.names.lookup y.1 == some .free)) && decide ((x :: mask x N).Nodup) && scope.names.all (fun y => y.1 != "") && (mask x N).all (fun y => scope.names.lookup y != some .local)
theorem d8i {X : Cx} {sc scope : Scope} {x : Str} {N : List Str} (hsc : X.env.scope = sc) (hN : X.N = N) (h : g3o sc scope x N = true) : b8w X scope x := by
 subst hN hsc
 unfold g3o at h
 simp only [Bool.and_eq_true, List.all_eq_true, beq_iff_eq, Bool.or_eq_true, bne_iff_ne, ne_eq, decide_eq_true_eq] at h
 obtain ⟨⟨⟨⟨⟨⟨⟨h1, h2⟩, h3⟩, h4⟩, h5⟩, h6⟩, h7⟩, h8⟩ := h
 exact ⟨h1, h2, fun y hy e => (h3 y hy).resolve_left fun z => z e, h4, fun y hy e => (h5 y hy).resolve_left fun z => z e, h6, h7, h8⟩
end L2
namespace L2
open PySem PySem.Spec PyProof.Rows
noncomputable def g9r : V -> Hp -> Bool := fun x H => match x with
 | .ref l => (match H l with
  | some (.lst _) => true
  | _ => false)
 | _ => false
noncomputable def g3p : V -> Hp -> Bool := fun x _ => match x with
 | .str _ => true
 | _ => false
theorem c3u {K : PySem.W.Frag} : ∀ x H, g9r x H = true → tyV K "list" x H := fun x H h => by
 cases x with
 | ref l =>
  have h' : (match H l with
   | some (.lst _) => true
   | _ => false) = true := h
  split at h'
  ·rename_i xs e
   exact .inl ⟨rfl, xs, SqL.of e⟩
  ·cases h'
 | _ => cases h
theorem c3v {K : PySem.W.Frag} : ∀ x H, g3p x H = true → tyV K "str" x H := fun x H h => by
 cases x with
 | str z => exact rfl
 | _ => cases h
noncomputable def h6q (chk : V -> Hp -> Bool) (r : V -> List V -> Hp -> VK -> Prop) (to : TE) (t : TA) : TE := fun σ H Q => to σ H fun x H1 => chk x H1 = true /\ t σ H1 fun xs H2 => r x xs H2 Q
section
variable {X : Cx} {o e : Expr} {es : List Expr} {to : TE} {t : TA} {name : Str} {apos cpos : Pos} {T id : String} {r r' : V -> List V -> Hp -> VK -> Prop} {chk : V -> Hp -> Bool}
theorem MtR.weak (h : MtR X id r) (q : ∀ x xs H Q, r' x xs H Q -> r x xs H Q) : MtR X id r' := fun pins s σ H x xs v us Q I rx rs hr => h pins s σ H x xs v us Q I rx rs (q x xs H Q hr)
theorem c3w (hchk : ∀ x H, chk x H = true → tyV X.K T x H) (pa : PlainAttrs T) (slot : Slot T name id) (hty : typeOf (.builtin id) = pure (.type "method_descriptor")) (hm : MtR X id r) (ho : PE X o to) (ha : PA X (e :: es) t)
  (hbase : attributeBase o name X.env (eval o X.env) = eval o X.env := by rfl)
  (hfew : ((backTo cpos (starEach (e :: es) X.env)).all (fun x => !x.1) && (backToKw cpos (keywordEach [] X.env)).all (fun x => x.1.isSome)
   && decide ((e :: es).length + ([] : List Keyword).length + (if ([] : List Keyword).isEmpty then 0 else 1) < 30)) = true := by rfl)
  (hline : (apos.endLine == cpos.line) = true := by rfl) (hs : starEach (e :: es) X.env = (false, eval e X.env) :: starEach es X.env := by rfl) (hplain : (backTo cpos (starEach es X.env)).any (·.1) = false := by rfl) :
  PE X (.Call (.Attribute o name apos) (e :: es) [] cpos) (h6q chk r to t) := by
 intro pins s σ H Q I h
 refine wpAny_Call_method_late hbase hfew hline rfl (thn (ho pins s σ H _ I h) fun v s1 ⟨x, H1, I1, r1, ty, q1⟩ => ?_)
 obtain ⟨h1, h2⟩ := g8n I1 r1 (hchk x H1 ty)
 refine ⟨T, id, pa, slot, hty, h1, h2, ?_⟩
 have hA := ha cpos pins s1 σ H1 _ I1 q1
 rw [hs] at hA ⊢
 refine Calls.callWith_builtin (by show (false || (backTo cpos (starEach es X.env)).any (·.1)) = false; rw [hplain] <;> rfl) (Calls.evalArgs_plain ?_)
 exact thn hA fun us s2 ⟨vs, H2, I2, r2, q2⟩ => hm pins s2 σ H2 x vs v us Q I2 r1 r2 q2
noncomputable def g9s : V -> List V -> Hp -> VK -> Prop := fun x vs H Q => match x, vs with
 | .ref l, [y] => (match H l with
  | some (.lst xs) => xs.length < sizeLine /\ All (fun v H1 => v = .non /\ a6y l H H1 /\ H1 l = some (.lst (xs ++ [y]))) Q ⟨⟩ ⟨⟩
  | _ => False)
 | _, _ => False
theorem c4u : MtR X "list.append" g9s := MtR.weak (r := f6h) d5k fun x vs H Q h => by
 match x, vs, h with
 | .ref l, [y], h =>
  have h' : (match H l with
   | some (.lst xs) => xs.length < sizeLine /\ All (fun v H1 => v = .non /\ a6y l H H1 /\ H1 l = some (.lst (xs ++ [y]))) Q ⟨⟩ ⟨⟩
   | _ => False) := h
  split at h'
  ·rename_i xs e
   exact ⟨l, xs, y, rfl, rfl, e, h'.1, h'.2 _ _ ⟨rfl, a6y.upd, a6g⟩⟩
  ·exact h'.elim
end
noncomputable def d5s {α : Type} (xs : List α) (lo hi : Option Int) : List α := (xs.drop (HT.sIx xs.length 0 lo)).take (HT.sIx xs.length xs.length hi - HT.sIx xs.length 0 lo)
theorem g1f {α β : Type} (f : α -> β) (xs : List α) (lo hi : Option Int) : d5s (xs.map f) lo hi = (d5s xs lo hi).map f := by
 unfold d5s
 rw [List.length_map, List.map_take, List.map_drop]
theorem b1i (ns : List Int) (lo hi : Option Int) : d4z (ns.map V.int) lo hi = (d5s ns lo hi).map V.int := g1f V.int ns lo hi
theorem g1g {α : Type} {xs : List α} {lo hi : Option Int} {x : α} (h : x ∈ d5s xs lo hi) : x ∈ xs := List.mem_of_mem_drop (List.mem_of_mem_take h)
theorem g1h {α : Type} (xs : List α) (lo hi : Option Int) : (d5s xs lo hi).length <= xs.length := by
 unfold d5s
 rw [List.length_take, List.length_drop]
 omega
theorem a8s {α : Type} (xs : List α) (a : Nat) : d5s xs (some (a : Int)) none = xs.drop a := by
 unfold d5s
 rw [HT.f5w, HT.f0n]
 by_cases h : a <= xs.length
 ·rw [Nat.min_eq_left h, List.take_of_length_le (by rw [List.length_drop] <;> exact Nat.le_refl _)]
 ·rw [Nat.min_eq_right (by omega), List.drop_length, List.drop_of_length_le (by omega)]
  simp
theorem d5t {α : Type} (xs : List α) (a : Nat) : d5s xs none (some (a : Int)) = xs.take a := by
 unfold d5s
 rw [HT.f5w, HT.f0n, List.drop_zero, Nat.sub_zero]
 by_cases h : a <= xs.length
 ·rw [Nat.min_eq_left h]
 ·rw [Nat.min_eq_right (by omega), List.take_length, List.take_of_length_le (by omega)]
end L2
namespace L2
theorem f7j (F : Nat -> St -> Hp -> Prop) : ∃ Pv : Nat -> St -> Hp -> Prop, (∀ i σ H, F i σ H -> Pv i σ H) /\ ∀ i σ H, Pv i σ H -> F i σ H := ⟨F, fun _ _ _ h => h, fun _ _ _ h => h⟩
theorem g1i (F : St -> Hp -> Prop) : ∃ Pv : St -> Hp -> Prop, (∀ σ H, F σ H -> Pv σ H) /\ ∀ σ H, Pv σ H -> F σ H := ⟨F, fun _ _ h => h, fun _ _ h => h⟩
end L2
namespace L2
open PySem PySem.Spec PyProof.Rows
open PySem.Builtin.Int (intBits)
section
variable {X : Cx}
noncomputable def h3z : List V -> Hp -> VK -> Prop := fun xs H Q => match xs with
 | [.ref p] => (match H p with
  | some (.lst ys) => ∃ ns : List Int, ys = ns.map V.int /\ Q (.int ns.sum) H
  | _ => False)
 | _ => False
end
noncomputable def g3q (g : TG) (tb : TS) (D : Ends) : Nat -> Int -> St -> Hp -> Prop
 | 0, _, σ, H => D.nx σ H
 | k + 1, x, σ, H => g (.int x) σ H fun σ2 H2 => tb { D with nx := g3q g tb D k (x + 1), ct := g3q g tb D k (x + 1), bk := D.nx } σ2 H2
noncomputable def Stop (p : Prop) (_ : Tag p) : Prop := p
theorem Stop.go {p : Prop} {t : Tag p} (h : p) : Stop p t := h
noncomputable def g9t (t u : TS) : TS := fun D σ H => t { D with nx := fun σ' H' => Stop (u D σ' H') ⟨⟩ } σ H
noncomputable def Hs (H : Hp) (fs : List (Addr × HO)) : Prop := (fs.map (·.1)).Nodup /\ ∀ p ∈ fs, H p.1 = some p.2
noncomputable def HsC (H : Hp) : List (Addr × HO) -> Prop
 | [] => True
 | (a, o) :: r => H a = some o ∧ HsC H r
theorem Hs.nil {H : Hp} : Hs H [] := ⟨List.nodup_nil, fun _ h => nomatch h⟩
theorem Hs.same {H H' : Hp} {fs : List (Addr × HO)} (F : Hs H fs) (S : Same H H') : Hs H' fs := ⟨F.1, fun p hp => S _ _ (F.2 p hp)⟩
theorem Hs.fresh {H : Hp} {fs : List (Addr × HO)} {a : Addr} (F : Hs H fs) (n : H a = none) : a ∉ fs.map (·.1) := fun h => by
 obtain ⟨p, hp, e⟩ := List.mem_map.mp h
 have := F.2 p hp
 rw [e, n] at this
 cases this
theorem Hs.new {H H' : Hp} {fs : List (Addr × HO)} {a : Addr} {o : HO} (F : Hs H fs) (n : H a = none) (S : Same H H') (h : H' a = some o) : Hs H' ((a, o) :: fs) := by
 refine ⟨?_, fun p hp => ?_⟩
 ·rw [List.map_cons, List.nodup_cons]
  exact ⟨F.fresh n, F.1⟩
 ·rcases List.mem_cons.mp hp with rfl | hp
  ·exact h
  ·exact S _ _ (F.2 p hp)
theorem Hs.get {H : Hp} : ∀ {fs : List (Addr × HO)}, Hs H fs -> HsC H fs
 | [], _ => trivial
 | (a, o) :: r, F => ⟨F.2 (a, o) List.mem_cons_self, Hs.get ⟨(List.nodup_cons.mp F.1).2, fun p hp => F.2 p (List.mem_cons_of_mem _ hp)⟩⟩
theorem Hs.drop {H : Hp} {l r : List (Addr × HO)} (F : Hs H (l ++ r)) : Hs H r := ⟨(List.nodup_append.mp (by rw [<- List.map_append]; exact F.1)).2.1, fun p hp => F.2 p (List.mem_append_right _ hp)⟩
theorem d0q {ns : List Int} {i : Nat} (h : i < ns.length) : atI (ns.map V.int) (i : Int) = some (.int (ns.getD i 0)) := by
 refine c4p ?_
 rw [List.getElem?_map, List.getElem?_eq_getElem h, List.getD_eq_getElem?_getD, List.getElem?_eq_getElem h]
 rfl
noncomputable def g0n (H : Hp) (cs : List Addr) (bs : List (List Int)) : Prop := cs.length = bs.length /\ ∀ (i : Nat) c b, cs[i]? = some c -> bs[i]? = some b -> H c = some (.lst (b.map V.int))
theorem g0n.same {H H' : Hp} {cs : List Addr} {bs : List (List Int)} (h : g0n H cs bs) (s : Same H H') : g0n H' cs bs := ⟨h.1, fun i c b e1 e2 => s _ _ (h.2 i c b e1 e2)⟩
theorem g0n.get {H : Hp} {cs : List Addr} {bs : List (List Int)} (h : g0n H cs bs) {i : Nat} {c : Addr} (e : cs[i]? = some c) : ∃ b, bs[i]? = some b /\ H c = some (.lst (b.map V.int)) := by
 have hi : i < cs.length := (List.getElem?_eq_some_iff.mp e).1
 have hb : i < bs.length := by rw [<- h.1]; exact hi
 exact ⟨bs[i], by simp [hb], h.2 i c _ e (by simp [hb])⟩
theorem g0n.snoc {H : Hp} {cs : List Addr} {bs : List (List Int)} {c : Addr} {b : List Int} (h : g0n H cs bs) (hc : H c = some (.lst (b.map V.int))) : g0n H (cs ++ [c]) (bs ++ [b]) := by
 refine ⟨by rw [List.length_append, List.length_append, h.1]; rfl, fun i c' b' e1 e2 => ?_⟩
 by_cases hi : i < cs.length
 ·rw [List.getElem?_append_left hi] at e1
  rw [List.getElem?_append_left (by rw [<- h.1]; exact hi)] at e2
  exact h.2 i c' b' e1 e2
 ·rw [List.getElem?_append_right (by omega)] at e1
  rw [List.getElem?_append_right (by rw [<- h.1]; omega)] at e2
  rw [<- h.1] at e2
  cases hz : i - cs.length with
  | zero =>
   rw [hz] at e1 e2
   simp at e1 e2
   subst e1 e2
   exact hc
  | succ n =>
   rw [hz] at e1
   simp at e1
noncomputable def dB (bs : List (List Int)) : PySem.W.Dat := .list (bs.map fun b => .list (b.map .int))
theorem g0n.two {H : Hp} {a b : Addr} {x y : List Int} (ha : H a = some (.lst (x.map V.int))) (hb : H b = some (.lst (y.map V.int))) : g0n H [a, b] [x, y] := by
 refine ⟨rfl, fun i c d e1 e2 => ?_⟩
 match i, e1, e2 with
 | 0, e1, e2 => cases e1; cases e2; exact ha
 | 1, e1, e2 => cases e1; cases e2; exact hb
 | i + 2, e1, e2 => simp at e1
noncomputable def f0q (H : Hp) (xs : List V) (v : V) (H' : Hp) : Prop := ∃ b, v = .ref b /\ H b = none /\ Same H H' /\ H' b = some (.lst xs)
noncomputable def d1n (H : Hp) (xs : List V) (v : V) (H' : Hp) : Prop := ∃ b, v = .ref b /\ H b = none /\ Same H H' /\ H' b = some (.tup xs)
noncomputable def d8j (q : Rat) : List V := [.int q.num, .int (q.den : Nat)]
end L2
namespace L2
open PySem PySem.Spec PyProof.Rows
noncomputable def CXE (P : Program) (w : World) : CXT := fun outer H s E e s' => ∃ (a : Addr) (C a0 : Value) (B : Heap) (H' : Hp), e = .ref a /\ Heap.FlyingW B outer a C a0 s'.heap /\ s'.os = s.os /\ AllBare s'.gens /\
 (∀ h', B.StaysIn h' -> s'.heap.UpToSlots h' -> Un (frs outer) [] H H' s.heap h' /\ HOk P w H' h') /\ H' a = none /\ s.heap.get? a = none /\ E C none H'
theorem b2u.obj {P : Program} {w : World} {H : Hp} {h : Heap} {a : Addr} {o : HO} (x : b2u P w H h a o) : ∃ u, h.get? a = some u := by
 cases o with
 | lst xs => obtain ⟨_, _, _, _, e⟩ := x; exact ⟨_, e⟩
 | tup xs => obtain ⟨_, _, _, ob, e, _⟩ := x; exact ⟨_, e⟩
 | dK kvs => obtain ⟨_, _, _, _, o, _, _, e, _⟩ := x; exact ⟨_, e⟩
 | dT kvs => obtain ⟨_, _, _, _, o, _, _, e, _⟩ := x; exact ⟨_, e⟩
 | set S n => obtain ⟨o, _, _, _, e, _⟩ := x; exact ⟨_, e⟩
 | ins C dx fs => obtain ⟨_, _, _, e, _⟩ := x; exact ⟨_, e⟩
 | own y => obtain ⟨_, e⟩ := x; exact ⟨_, e⟩
 | xd fs => obtain ⟨_, ⟨_, _, _, e, _⟩, _⟩ := x; exact ⟨_, e⟩
 | rng lo hi => obtain ⟨_, _, _, e⟩ := x; exact ⟨_, e⟩
 | frz ob u => obtain ⟨e, _⟩ := x; exact ⟨_, e⟩
 | tbl ps => exact ⟨_, (show h.get? a = some _ from x)⟩
 | met f y => exact ⟨_, (show h.get? a = some _ from x)⟩
 | ext φ => obtain ⟨_, ⟨_, e⟩, _⟩ := x; exact ⟨_, e⟩
section
variable {X : Cx} {pins : List (Addr × Obj)} {σ : St} {H : Hp} {s : Shared}
theorem Inv.caught {H' : Hp} {s' : Shared} {h' : Heap} {t' : Nat} (I : Inv X pins σ H s) (os : s'.os = s.os) (bare : AllBare s'.gens) (u : Un (frs X.stack) [] H H' s.heap h') (hok : HOk X.prog X.w H' h') : Inv X pins σ H' { s' with heap := h', toks := t' } := by
 obtain ⟨hh, g, d, t, os'⟩ := s'
 obtain rfl : os' = s.os := os
 exact Inv.call (s := s) (h' := h') (g' := g) (d' := d) (t' := t') (ch := []) I u hok bare (fun b z => absurd z (by simp))
theorem Inv.track {a : Addr} {o : HO} (I : Inv X pins σ H s) (h1 : X.s₀.heap.get? a = none) (h2 : a ≠ X.env.locals) (h3 : ∀ x c, X.env.cells.lookup x = some c -> c ≠ a) (h4 : ∀ p ∈ X.pn ++ pins, p.1 ≠ a) (hH : H a = none)
  (new : b2u X.prog X.w (upd H a o) s.heap a o) : Inv X pins σ (upd H a o) s := by
 refine ⟨I.ok, I.os, I.bare, ⟨I.base.keep, I.base.slot, fun b u q n hx => ?_, I.base.there, fun b xs q => ?_, fun b u xs q => ?_, fun b ps q => ?_⟩, I.loc, I.cell, ?_, fun x c e => ?_, fun p hp => ?_, fun b u e => ?_, I.len⟩
 ·rw [a2u (fun z => by rw [z, h1] at q; cases q)]
  exact I.base.free b u q n hx
 ·have z := I.base.tups b xs q
  rw [a2u (a3i z hH)]
  exact z
 ·have z := I.base.d7p b u xs q
  rw [a2u (a3i z hH)]
  exact z
 ·obtain ⟨m, z⟩ := I.base.d9w b ps q
  exact ⟨m, by rw [a2u (a3i z hH)]; exact z⟩
 ·rw [a2u h2.symm]
  exact I.free
 ·rw [a2u (h3 x c e)]
  exact I.c4o x c e
 ·obtain ⟨e, n, ne, nf, d⟩ := I.pin p hp
  exact ⟨e, by rw [a2u (h4 p hp)]; exact n, ne, nf, d⟩
 ·by_cases hb : b = a
  ·subst hb
   rw [a6g] at e
   cases e
   exact new
  ·rw [a2u hb] at e
   exact (I.hok b u e).stay (fun _ _ _ q => q) (fun c q => by rw [a2u (a3i q hH)]; exact q) fun c xs q => by rw [a2u (a3i q hH)]; exact q
noncomputable def h6r (X : Cx) (E : XK) : Prop := ∀ (pins : List (Addr × Obj)) (σ : St) (H : Hp) (s : Shared) (e C : Addr) (args : List Value) (h' : Heap), Inv X pins σ H s -> Heap.MadeExcOf s.heap h' e (.ref C) args -> E (.ref C) none H -> X.xe (.ref e) { s with heap := h' }
end
section
variable {P : Program} {w : World} {K : PySem.W.Frag} {mg : Str -> Option Value} {base : Heap} {N : List Str} {qual : Str} {scope : Scope} {f : Addr} {cd : Value} {A : Around} {outer : List Env} {s : Shared} {H : Hp} {E : XK}
end
theorem a1n.or {P : Program} {w : World} {K : PySem.W.Frag} {mg : Str -> Option Value} {base : Heap} {k : Nat} {f : Addr} {fd : FuncData} {ps : List Str} {sp sp' : Sp} (F : a1n P w K mg base CX0 k f fd ps sp) (G : a1n P w K mg base (CXE P w) k f fd ps sp') :
  a1n P w K mg base (CXE P w) k f fd ps (fun vs H Q E => sp vs H Q E \/ sp' vs H Q E) := by
 refine ⟨fun vs H Q E h => h.elim (F.len vs H Q E) (G.len vs H Q E), fun A outer s H args us vs Q E hr e0 hb hv h => ?_⟩
 rcases h with h | h
 ·refine codeAny_mono (F.run A outer s H args us vs Q E hr e0 hb hv h) fun r s' q => ?_
  cases r with
  | error e => exact False.elim q
  | ok fl => cases fl <;> exact q
 ·exact G.run A outer s H args us vs Q E hr e0 hb hv h
noncomputable abbrev vE : List Value := [.type "ValueError", .type "Exception", .type "BaseException", .type "object"]
structure Exc (K : PySem.W.Frag) (C : Addr) : Prop where
 ok : PySem.W.excIn K C vE "ValueError.__new__" = true
section
variable {X : Cx} {e₀ : Expr} {rest : List Expr} {t : TA} {x : Str} {C : Addr} {E : XK} {np cpos pos : Pos}
noncomputable def g9u (C : Addr) (E : XK) (t : TA) : TS := fun _ σ H => t σ H fun vs H1 => vs.length <= sizeLine /\ E (.ref C) none H1
end
structure h6s (K : PySem.W.Frag) (C : Addr) : Prop where
 ga : PySem.W.findIn K (.ref C) "__getattribute__" = some (some (.builtin "BaseException.__getattribute__"))
 cl : PySem.W.findIn K (.ref C) "__class__" = some (some (.builtin "object.__class__"))
 ng : PySem.W.findIn K (.ref C) "__getattr__" = some none
 so : PySem.W.subIn K (.ref C) (.type "object") = some true
 sb : PySem.W.subIn K (.ref C) (.type "BaseException") = some true
 ty : PySem.W.typeIn K (.ref C) = some (.type "type")
 ic : PySem.W.isClsIn K C = true
 ss : PySem.W.subIn K (.ref C) (.ref C) = some true
section
variable {prog : Program} {w : World} {A : Around} {E : Value -> Shared -> Prop} {h : Heap} {g : Array GenState} {d : Drawn} {t : Nat} {os : OsState} {a C : Addr} {o : Obj} {K : PySem.W.Frag}
end
noncomputable def h4a (a : Addr) (C : Value) : HO := .ext fun h => ∃ o, h.get? a = some o /\ o.cls = C
section
variable {X : Cx}
noncomputable def rIsX (K : PySem.W.Frag) : List V -> Hp -> VK -> Prop := fun xs H Q => match xs with
 | [.non, .ref D] => (∃ b, PySem.W.kitOne K (.type "NoneType") (.ref D) = some b ∧ Q (.bl b) H)
 | [.ref a, .ref D] => ∃ C b, H a = some (h4a a (.ref C)) /\ h6s K C /\ PySem.W.kitOne K (.ref C) (.ref D) = some b /\ Q (.bl b) H
 | [.ref a, .ty n] => ∃ C b, H a = some (h4a a (.ref C)) /\ h6s K C /\ PySem.W.kitOne K (.ref C) (.type n) = some b /\ Q (.bl b) H
 | [.non, .ty n] => (∃ b, PySem.W.kitOne K (.type "NoneType") (.type n) = some b ∧ Q (.bl b) H)
 | _ => False
end
noncomputable def XPo (X : Cx) (pins : List (Addr × Obj)) (σ : St) (E : XK) (e : Value) (s' : Shared) : Prop := ∃ H1 s1, Inv X pins σ H1 s1 /\ CXE X.prog X.w X.stack H1 s1 E e s'
noncomputable def PEX (X : Cx) (e : Expr) (t : TE) (E : XK) : Prop :=
 ∀ (pins : List (Addr × Obj)) (s : Shared) (σ : St) (H : Hp) (Q : VK), Inv X pins σ H s -> t σ H Q -> wpAny (model X.prog X.w) X.A (eval e X.env) (EP X pins σ Q) (XPo X pins σ E) s
noncomputable def PSX (X : Cx) (st : Stmt) (t : TS) (E : XK) : Prop :=
 ∀ (pins : List (Addr × Obj)) (s : Shared) (σ : St) (H : Hp) (D : Ends), Inv X pins σ H s -> t D σ H -> wpAny (model X.prog X.w) X.A (exec st X.env) (SP X pins D) (XPo X pins σ E) s
section
variable {X : Cx} {k : Nat} {f C : Addr} {fd : FuncData} {ps : List Str} {sp : Sp} {dvs : List V} {ds : List Value} {E : XK} {x m : Str} {p pos apos : Pos} {e o : Expr} {es : List Expr} {ta : TE} {t : TA}
end
section
variable {X : Cx} {pins : List (Addr × Obj)} {σ : St} {H : Hp} {s : Shared}
noncomputable abbrev Cx.held (X : Cx) (e : Addr) : Cx := { X with A := X.A.mark (some (.ref e)), calm := false, xe := fun _ _ => False }
theorem Inv.held (I : Inv X pins σ H s) (e : Addr) : Inv (X.held e) pins σ H s :=
 ⟨⟨I.ok.mod, I.ok.kind, I.ok.glob, I.ok.blt, I.ok.above, I.ok.inj, I.ok.has, I.ok.cab, fun h => Bool.noConfusion h, I.ok.frames, I.ok.stk, I.ok.exf, I.ok.bs, I.ok.bsz, I.ok.g6x, I.ok.g7k, I.ok.d9y, I.ok.frf⟩, I.os, I.bare, I.base, I.loc, I.cell, I.free, I.c4o, I.pin, I.hok, I.len⟩
end
noncomputable def hAs (K : PySem.W.Frag) (D : Addr) (i : Nat) (th : TS) (Dn : Ends) (σ : St) : XK := fun C _ H' => ∃ c, C = .ref c /\ PySem.W.subIn K (.ref c) (.ref D) = some true /\
 ∀ e H2, H' e = none -> Same H' H2 -> H2 e = some (h4a e (.ref c)) -> th { nx := fun σ2 H3 => Dn.nx (σ2.set i none) H3, rt := Dn.rt, bk := fun σ2 H3 => Dn.bk (σ2.set i none) H3, ct := fun σ2 H3 => Dn.ct (σ2.set i none) H3 } (σ.set i (some (.ref e))) H2
noncomputable def g9v (K : PySem.W.Frag) (D : Addr) (i : Nat) (tb : XK -> TS) (th : TS) : TS := fun Dn σ H => tb (hAs K D i th Dn σ) Dn σ H
section
variable {X : Cx} {D : Addr} {dn n : Str} {i : Nat} {st b₀ : Stmt} {suite : List Stmt} {tb : XK -> TS} {th : TS} {np hpos pos : Pos}
end
noncomputable def g9w : TE := fun _ H Q => New H (.dK []) Q ⟨⟩
end L2
namespace L2
open PySem PySem.Spec PyProof.Rows
section
variable {X : Cx} {tg : Expr}
noncomputable def g9x (g : Str -> Str -> V) : V -> List V -> Hp -> VK -> Prop := fun x vs H Q => match x, vs with
 | .str z, [.str y] => Q (g z y) H
 | _, _ => False
theorem c3y : MtR X "str.startswith" (g9x fun z y => .bl (Txt.startswith z y)) := by
 intro pins s σ H x xs v us Q I rx rs h
 match x, xs, h with
 | .str z, [.str y], q =>
  obtain ⟨t, rfl⟩ := rx
  obtain ⟨u, rfl, t', rfl⟩ := vals1 rs
  exact call_gives F.slot_str_startswith (typeIs_str _ _ _) F.entry_str_startswith (F.args_str_startswith_2 _ _) (gives_str_startswith z y t t') ⟨.bl (Txt.startswith z y), H, I, rfl, q⟩
noncomputable def Its (x : Str) : It := ⟨fun i _ => i < x.cps.size, fun i H v H' => H' = H /\ ∃ c, x.cps[i]? = some c /\ v = .str ⟨#[c]⟩, fun i _ => i = x.cps.size⟩
theorem g1j {P : Program} {w : World} {K : PySem.W.Frag} (it : Addr) (x : Str) (t : Tok) {n : String} (hn : ["enumerate", "zip", "dict_itemiterator", "dict_reverseitemiterator", "odict_iterator", "itertools.zip_longest", "itertools.pairwise"].contains n = false)
  (W : ∀ A' : Around, A'.handled = none -> Walks P w A' it [it] [it] x.cps.size (SignAt x) (fun i h => h.IsStrIter it n x t i))
  (S : ∀ (A : Around) (i : Nat) (s : Shared) (Q : Value -> Shared -> Prop) (E : Value -> Shared -> Prop), s.heap.IsStrIter it n x t i -> Q (.ref it) s -> wpAny (model P w) A (pyIter (.ref it)) Q E s) : Turn P w K tg (Its x) [it] it (fun i h => h.IsStrIter it n x t i) where
 mem := by simp
 obj := fun i h st b hb => by
  have e : b = it := by simpa using hb
  subst e
  obtain ⟨o, e, c, d⟩ := st
  exact ⟨o, e, fun v z => by rw [d] at z; cases z⟩
 keep := fun i h h' st k => let ⟨o, ho, r⟩ := st; ⟨o, k it (by simp) o ho, r⟩
 item := by
  intro X hP hw hK hc i pins s σ H E I hf st hg
  subst hP hw hK
  obtain ⟨f0, f1, f2, f3, f4, f5⟩ := hf it (by simp)
  refine (W _ (I.ok.hd hc)).item i s _ _ hg st fun v h' tk hv st' kk => ?_
  obtain ⟨c, u, hc', rfl⟩ := hv
  have I1 : Inv X pins σ H { s with heap := h', toks := tk } := I.turned (fun b o hb e => kk b o (by simpa using hb) e) f0 f1 f3 f4 f5
  obtain ⟨o, e1, c1, d1⟩ := id st'
  exact ⟨_, rfl, g4p (s := { s with heap := h', toks := tk }) e1 c1 d1 hn ⟨.str ⟨#[c]⟩, H, I1, ⟨u, rfl⟩, ⟨rfl, c, hc', rfl⟩, st', fun b hb => (hf b hb).1⟩⟩
 done := by
  intro X hP hw hK hc i pins s σ H E I hf st hg
  subst hP hw hK
  obtain ⟨f0, f1, f2, f3, f4, f5⟩ := hf it (by simp)
  have hi : i = x.cps.size := hg
  subst hi
  exact (W _ (I.ok.hd hc)).done s _ _ st fun h' tk kk => ⟨rfl, I.turned (t' := tk) (fun b o hb e => kk b o (by simpa using hb) e) f0 f1 f3 f4 f5⟩
 self := S
noncomputable def h6t (tl : TE) : TI := fun σ H R => tl σ H fun x H1 => match x with
 | .str z => R (Its z) H1
 | _ => False
theorem g9y {l : Expr} {tl : TE} (hl : PE X l tl) : PI X tg l (h6t tl) := by
 intro pins s σ H R I h
 refine thn (hl pins s σ H _ I h) fun v s1 ⟨x, H1, I1, r1, q1⟩ => ?_
 cases x with
 | str z =>
  obtain ⟨t, rfl⟩ := r1
  have fin : ∀ (o : Obj) (n : String), ["enumerate", "zip", "dict_itemiterator", "dict_reverseitemiterator", "odict_iterator", "itertools.zip_longest", "itertools.pairwise"].contains n = false → (s1.heap.push o).IsStrIter s1.heap.objs.size n z t 0 →
    (∀ A' : Around, A'.handled = none -> Walks X.prog X.w A' s1.heap.objs.size [s1.heap.objs.size] [s1.heap.objs.size] z.cps.size (SignAt z) (fun i h => h.IsStrIter s1.heap.objs.size n z t i)) ->
    (∀ (A : Around) (i : Nat) (s : Shared) (Q : Value -> Shared -> Prop) (E : Value -> Shared -> Prop), s.heap.IsStrIter s1.heap.objs.size n z t i -> Q (.ref s1.heap.objs.size) s -> wpAny (model X.prog X.w) A (pyIter (.ref s1.heap.objs.size)) Q E s) ->
    PIE X pins σ tg R (.ref s1.heap.objs.size) { s1 with heap := s1.heap.push o } := fun o n hn st W S => by
   refine ⟨s1.heap.objs.size, [s1.heap.objs.size], _, _, H1, rfl, I1.kept (t' := s1.toks) fun b o e => Heap.get?_push_of_some _ e, g1j _ z t hn W S, st, fun b hb => ?_, q1⟩
   have e : b = s1.heap.objs.size := by simpa using hb
   subst e
   exact I1.g6z (Nat.le_refl _) (I1.hok.fresh (Nat.le_refl _))
  cases ha : z.cps.all (· < 128)
  ·exact wpAny_pyIter_wide ha (fin _ "str_iterator" (by decide) ⟨_, Heap.get?_push_size _ rfl, rfl, rfl⟩ (fun A' hA => Walks.strWide hA _ z t) fun _ _ _ _ _ st hQ => wpAny_pyIter_striter_wide st hQ)
  ·exact wpAny_pyIter_ascii ha (fin _ "str_ascii_iterator" (by decide) ⟨_, Heap.get?_push_size _ rfl, rfl, rfl⟩ (fun A' hA => Walks.strAscii hA _ z t) fun _ _ _ _ _ st hQ => wpAny_pyIter_striter_ascii st hQ)
 | _ => exact False.elim q1
theorem g1k {x : Str} {g : TG} {tb : TS} {D : Ends} {σ : St} {H : Hp} (Pv : Nat -> St -> Hp -> Prop) (h0 : Pv 0 σ H)
  (hs : ∀ i c σ H, x.cps[i]? = some c -> Pv i σ H -> g (.str ⟨#[c]⟩) σ H fun σ2 H2 => tb { D with nx := Pv (i + 1), ct := Pv (i + 1), bk := D.nx } σ2 H2) (hd : ∀ σ H, Pv x.cps.size σ H -> D.nx σ H) : g8v (Its x) g tb D σ H := by
 refine ⟨fun i m σ H => m = x.cps.size - i /\ i <= x.cps.size /\ Pv i σ H, ⟨x.cps.size, by simp, Nat.zero_le _, h0⟩, ?_⟩
 rintro i m σ H ⟨rfl, hi, p⟩
 by_cases hlt : i < x.cps.size
 ·refine .inr ⟨hlt, Pv (i + 1), fun σ' H' p' => ⟨x.cps.size - (i + 1), by omega, rfl, hlt, p'⟩, fun v H' y => ?_⟩
  obtain ⟨e, c, hc, e2⟩ := y
  subst e e2
  exact hs i c σ _ hc p
 ·have e : i = x.cps.size := by omega
  subst e
  exact .inl ⟨rfl, hd σ H p⟩
noncomputable def h6u : V -> Option Int -> Option Int -> Hp -> VK -> Prop := fun x lo hi H Q => match x with
 | .ref a => (match H a with
  | some (.lst xs) => New H (.lst (d4z xs lo hi)) Q ⟨⟩
  | _ => False)
 | .str z => z.length <= sizeLine /\ Q (.str (Txt.slice z lo hi)) H
 | _ => False
theorem f4p : SlR X h6u := by
 intro pins s σ H x v vl vu lo hi sl Q I rx hs pl pu h
 cases x with
 | ref a => exact sl_M pins s σ H _ v vl vu lo hi sl Q I rx hs pl pu h
 | str z =>
  obtain ⟨t, rfl⟩ := rx
  obtain ⟨hz, q⟩ := h
  have fin : ∀ t' k, EP X pins σ Q (.str (Txt.slice z lo hi) t') { s with toks := k } := fun t' k => ⟨.str _, H, I.tok k, ⟨_, rfl⟩, q⟩
  refine ⟨"str", _, F.slot_str_getitem.lookup, typeIs_str _ _ _, ?_⟩
  cases pl with
  | none =>
   cases pu with
   | none => exact wpAny_getItem_str_slice (l := none) (u := none) (st := none) hs rfl (post_val_or_str ⟨Nat.le_trans (Txt.slice_le z _ _) hz, fin⟩)
   | int j uj => exact wpAny_getItem_str_slice (l := none) (u := some (j, uj)) (st := none) hs rfl (post_val_or_str ⟨Nat.le_trans (Txt.slice_le z _ _) hz, fin⟩)
  | int i ui =>
   cases pu with
   | none => exact wpAny_getItem_str_slice (l := some (i, ui)) (u := none) (st := none) hs rfl (post_val_or_str ⟨Nat.le_trans (Txt.slice_le z _ _) hz, fin⟩)
   | int j uj => exact wpAny_getItem_str_slice (l := some (i, ui)) (u := some (j, uj)) (st := none) hs rfl (post_val_or_str ⟨Nat.le_trans (Txt.slice_le z _ _) hz, fin⟩)
 | _ => exact False.elim h
noncomputable def g9z : List V -> Hp -> VK -> Prop := fun xs H Q => match xs with
 | [.int i] => Q (.int i) H
 | [.bl k] => Q (.int (if k then 1 else 0)) H
 | [.str z] => ∃ n, PySem.intText? z = some n /\ z.length <= 640 /\ Q (.int n) H
 | _ => False
theorem c3z : a8p X (.type "int") g9z := by
 intro pins s σ H xs us Q I r h
 match xs, r, h with
 | [.int i], r, q => exact d4s pins s σ H _ us Q I r (.inl ⟨i, rfl, q⟩)
 | [.bl k], r, q => exact d4s pins s σ H _ us Q I r (.inr ⟨k, rfl, q⟩)
 | [.str z], r, ⟨n, hn, hl, q⟩ =>
  obtain ⟨u, rfl, t, rfl⟩ := vals1 r
  exact PySem.W.KIN.call_text hn hl ⟨.int n, H, I.tok _, ⟨_, rfl⟩, q⟩
noncomputable def h0a : List V -> Hp -> VK -> Prop := fun xs H Q => match xs with
 | [.int i] => i.natAbs.log2 < 1920 /\ Q (.str (toString i)) H
 | _ => False
theorem b5u : a8p X (.type "str") h0a := d4t.weak fun xs H Q h => by
 match xs, h with
 | [.int i], ⟨a, b⟩ => exact ⟨i, rfl, a, b⟩
noncomputable def h6v (te : TE) : TE := fun σ H Q => te σ H fun x H1 => match x with
 | .int i => i.natAbs.log2 < 1920 /\ Q (.str (toString i)) H1
 | .str y => y.length <= sizeLine /\ Q (.str y) H1
 | _ => False
theorem g3r {e : Expr} {te : TE} {pos : Pos} (he : PE X e te) : PE X (.FormattedValue e (-1) none pos) (h6v te) := by
 intro pins s σ H Q I h
 refine wpAny_FormattedValue_plain (thn (he pins s σ H _ I h) fun v s1 ⟨x, H1, I1, r1, q1⟩ => ?_)
 cases x with
 | int i =>
  obtain ⟨t, rfl⟩ := r1
  exact wpAny_formatField_int q1.1 ⟨.str (toString i), H1, I1.tok _, ⟨_, rfl⟩, q1.2⟩
 | str y =>
  obtain ⟨t, rfl⟩ := r1
  exact wpAny_formatField_str (hx := q1.1) ⟨.str y, H1, I1, ⟨_, rfl⟩, q1.2⟩ ⟨.str y, H1, I1.tok _, ⟨_, rfl⟩, q1.2⟩
 | _ => exact False.elim q1
noncomputable abbrev TJ := Str -> St -> Hp -> (Str -> Hp -> Prop) -> Prop
noncomputable def PJ (X : Cx) (es : List Expr) (t : TJ) : Prop := ∀ (pins : List (Addr × Obj)) (acc : Str) (s : Shared) (σ : St) (H : Hp) (Q : Str -> Hp -> Prop) (Q' : Str -> Shared -> Prop), Inv X pins σ H s -> t acc σ H Q -> (∀ out H1 s1, Inv X pins σ H1 s1 -> Q out H1 -> Q' out s1) ->
 Joins (model X.prog X.w) X.A X.xe (evalEach es X.env) acc Q' s
noncomputable def h0b : TJ := fun acc _ H Q => Q acc H
noncomputable def g3s (te : TE) (tr : TJ) : TJ := fun acc σ H Q => te σ H fun x H1 => match x with
 | .str y => acc.length + y.length <= sizeLine /\ tr (acc ++ y) σ H1 Q
 | _ => False
theorem h0c : PJ X [] h0b := fun pins acc s σ H Q Q' I h k => k acc H s I h
theorem d8k {e : Expr} {es : List Expr} {te : TE} {tr : TJ} (he : PE X e te) (hr : PJ X es tr) (hs : evalEach (e :: es) X.env = eval e X.env :: evalEach es X.env := by rfl) : PJ X (e :: es) (g3s te tr) := by
 intro pins acc s σ H Q Q' I h k
 rw [hs]
 refine thn (he pins s σ H _ I h) fun v s1 ⟨x, H1, I1, r1, q1⟩ => ?_
 cases x with
 | str y =>
  obtain ⟨t, rfl⟩ := r1
  exact ⟨y, t, rfl, by rw [strLen_append]; exact q1.1, hr pins (acc ++ y) s1 σ H1 Q Q' I1 q1.2 k⟩
 | _ => exact False.elim q1
noncomputable def h0d (tj : TJ) : TE := fun σ H Q => tj Str.empty σ H fun out H1 => out.length <= sizeLine /\ Q (.str out) H1
theorem f7k {e₁ e₂ : Expr} {es : List Expr} {tj : TJ} {pos : Pos} (h : PJ X (e₁ :: e₂ :: es) tj) : PE X (.JoinedStr (e₁ :: e₂ :: es) pos) (h0d tj) := by
 intro pins s σ H Q I hq
 exact wpAny_JoinedStr (h pins Str.empty s σ H _ _ I hq fun out H1 s1 I1 q => ⟨q.1, .str out, H1, I1.tok _, ⟨_, rfl⟩, q.2⟩)
noncomputable def b2y (x y : Str) : List Str := if (decide (x.length < y.length) || decide (Builtin.Str.strKind x < Builtin.Str.strKind y)) = true then [x] else if (Builtin.Str.occurrences x y 0 x.length (x.length + 1)).isEmpty = true then [x] else Builtin.Str.partsBetween x (Builtin.Str.occurrences x y 0 x.length (x.length + 1)) y.length
noncomputable def g3t : V -> List V -> Hp -> VK -> Prop := fun x vs H Q => match x, vs with
 | .str z, [.str y] => (y.length == 0) = false /\ z.length <= sizeLine /\ (b2y z y).length <= sizeLine /\ New H (.lst ((b2y z y).map V.str)) Q ⟨⟩
 | _, _ => False
theorem d5u : ∀ (l : List Str) (k : Nat), Vals (l.map V.str) (strsFrom k l)
 | [], _ => .nil
 | x :: l, k => .cons ⟨_, rfl⟩ (d5u l (k + 1))
theorem f0r : MtR X "str.split" g3t := by
 intro pins s σ H x xs v us Q I rx rs h
 match x, xs, h with
 | .str z, [.str y], ⟨hy, hz, hn, q⟩ =>
  obtain ⟨t, rfl⟩ := rx
  obtain ⟨u, rfl, t', rfl⟩ := vals1 rs
  have fr : H s.heap.objs.size = none := I.hok.fresh (Nat.le_refl _)
  have itself : b2y z y = [z] → EP X pins σ Q (.ref s.heap.objs.size) { s with heap := s.heap.push { cls := .type "list", data := .seq [Value.str z t].toArray } } := fun e => by
   rw [e] at q
   exact ⟨.ref _, _, I.laid (o := .lst ([z].map V.str)) (t' := s.toks) (fun b u e => Heap.get?_push_of_some _ e) (Nat.le_refl _) ⟨show 1 <= sizeLine by decide, [Value.str z t], 0, .cons ⟨t, rfl⟩ .nil, Heap.get?_push_size _ rfl⟩, rfl, q.raw _ fr⟩
  by_cases h1 : (decide (z.length < y.length) || decide (Builtin.Str.strKind z < Builtin.Str.strKind y)) = true
  ·exact call_meets F.slot_str_split (typeIs_str _ _ _) F.entry_str_split (F.args_str_split_2 _ _) (meets_str_split_cannot_occur z y t t' h1) (itself (by unfold b2y; rw [if_pos h1]))
  ·have h1' := Bool.eq_false_iff.mpr h1
   by_cases h2 : (Builtin.Str.occurrences z y 0 z.length (z.length + 1)).isEmpty = true
   ·exact call_meets F.slot_str_split (typeIs_str _ _ _) F.entry_str_split (F.args_str_split_2 _ _) (meets_str_split_not_found z y t t' h1' hy h2) (itself (by unfold b2y; rw [if_neg h1, if_pos h2]))
   ·have h2' := Bool.eq_false_iff.mpr h2
    have e : b2y z y = Builtin.Str.partsBetween z (Builtin.Str.occurrences z y 0 z.length (z.length + 1)) y.length := by unfold b2y; rw [if_neg h1, if_neg h2]
    refine call_meets F.slot_str_split (typeIs_str _ _ _) F.entry_str_split (F.args_str_split_2 _ _) (meets_str_split_sep z y t t' h1' hy h2' hz (by rw [<- e]; exact hn)) ?_
    rw [<- e]
    refine ⟨.ref _, _, I.laid (o := .lst ((b2y z y).map V.str)) (t' := s.toks + (b2y z y).length) (fun b u e => Heap.get?_push_of_some _ e) (Nat.le_refl _) ⟨by rw [List.length_map]; exact hn, strsFrom s.toks (b2y z y), 0, d5u _ _, Heap.get?_push_size _ rfl⟩, rfl, q.raw _ fr⟩
noncomputable def h2y (z y : Str) : Bool := !(Builtin.Str.occurrences z y 0 z.length 1).isEmpty
noncomputable def h6w (neg : Bool) : R2 := fun x y H Q => match y with
 | .str z => (match x with
  | .str y => Q (.bl (h2y z y != neg)) H
  | _ => False)
 | .ref p => (match H p with
  | some (.lst xs) => c1t x = true /\ xs.all c1t = true /\ Q (.bl (inV x xs != neg)) H
  | some (.tup xs) => c1t x = true /\ xs.all c1t = true /\ Q (.bl (inV x xs != neg)) H
  | _ => False)
 | _ => False
theorem f7l : OpR X (compareOp .NotIn) (h6w true) := by
 intro pins s σ H x y v u Q I rx ry h
 cases y with
 | str z =>
  cases x with
  | str y =>
   have h : Q (.bl (h2y z y != true)) H := h
   rw [Bool.bne_true] at h
   exact d5h pins s σ H _ _ v u Q I rx ry ⟨y, z, rfl, rfl, h⟩
  | _ => exact False.elim h
 | ref p =>
  have h : (match H p with
   | some (.lst xs) => c1t x = true /\ xs.all c1t = true /\ Q (.bl (inV x xs != true)) H
   | some (.tup xs) => c1t x = true /\ xs.all c1t = true /\ Q (.bl (inV x xs != true)) H
   | _ => False) := h
  split at h
  ·rename_i xs e
   rw [Bool.bne_true] at h
   exact c6j pins s σ H _ _ v u Q I rx ry ⟨p, xs, rfl, .inl (SqL.of e), h.1, h.2.1, by simpa using h.2.2⟩
  ·rename_i xs e
   rw [Bool.bne_true] at h
   exact c6j pins s σ H _ _ v u Q I rx ry ⟨p, xs, rfl, .inr (SqT.of e), h.1, h.2.1, by simpa using h.2.2⟩
  ·exact h.elim
 | _ => exact False.elim h
end
end L2
namespace L2
open PySem PySem.Spec PyProof.Rows
noncomputable def Wr (H : Hp) (a : Addr) (o : HO) (k : Hp -> Prop) (_ : Tag k) : Prop := ∀ H1, a6y a H H1 -> H1 a = some o -> k H1
section
variable {X : Cx} {e o value : Expr} {f m x : Str} {pos pos' apos : Pos} {ta tv : TE} {t : TA} {C : Addr} {es : List Expr}
noncomputable def g5l (K : PySem.W.Frag) (ta : TE) (f : Str) : TE := fun σ H Q => ta σ H fun x H1 => match x with
 | .ref a => (match H1 a with
  | some (.ins C dx fs) => Cls K C /\ a5o K C f /\ (match fs.lookup f with
   | some v => Q v H1
   | none => False)
  | _ => False)
 | _ => False
theorem a5k (he : PE X e ta) (hb : attributeBase e f X.env (eval e X.env) = eval e X.env) : PE X (.Attribute e f pos) (g5l X.K ta f) := by
 intro pins s σ H Q I h
 refine (g8g he hb) pins s σ H Q I ?_
 unfold h5q
 unfold g5l at h
 have q : (fun (x : V) (H1 : Hp) => (match x with
   | .ref a => (match H1 a with
    | some (.ins C dx fs) => Cls X.K C /\ a5o X.K C f /\ (match fs.lookup f with
     | some v => Q v H1
     | none => False)
    | _ => False)
   | _ => False : Prop)) = fun x H1 => ∃ a C dx fs v, x = .ref a /\ H1 a = some (.ins C dx fs) /\ Cls X.K C /\ a5o X.K C f /\ fs.lookup f = some v /\ Q v H1 := by
  funext x H1
  refine propext ⟨fun z => ?_, fun ⟨a, C, dx, fs, v, e1, e2, c, n, l, q⟩ => ?_⟩
  ·cases x with
   | ref a =>
    dsimp only at z
    split at z
    ·rename_i C dx fs e1
     obtain ⟨c, n, z⟩ := z
     split at z
     ·rename_i v e2
      exact ⟨a, C, dx, fs, v, rfl, e1, c, n, e2, z⟩
     ·exact z.elim
    ·exact z.elim
   | _ => exact False.elim z
  ·subst e1
   dsimp only
   rw [e2]
   dsimp only
   rw [l]
   exact ⟨c, n, q⟩
 rw [q] at h
 exact h
noncomputable def h0e (K : PySem.W.Frag) (ta tv : TE) (f : Str) : TS := fun D σ H => tv σ H fun y H1 => ta σ H1 fun x H2 => match x with
 | .ref a => (match H2 a with
  | some (.ins C dx fs) => Cls K C /\ a5o K C f /\ fs.length < 1000 /\ Wr H2 a (.ins C dx (c6w f y fs)) (D.nx σ) ⟨⟩
  | _ => False)
 | _ => False
theorem b1q (ha : PE X o ta) (hv : PE X value tv) (hs : swapsWith value (some (.Attribute o f pos')) pos.line X.env = pure false) : PS X (.Assign [.Attribute o f pos'] value pos) (h0e X.K ta tv f) := by
 intro pins s σ H D I h
 refine plainObj_wpAny_Assign_Attribute (thn (hv pins s σ H _ I h) fun u s1 ⟨y, H1, I1, ry, q⟩ => thn (ha pins s1 σ H1 _ I1 q) fun ov s2 ⟨x, H2, I2, rx, z⟩ => ?_) hs
 cases x with
 | ref a =>
  obtain rfl : ov = Value.ref a := rx
  dsimp only at z
  split at z
  ·rename_i C dx fs e1
   obtain ⟨c, n, l, k⟩ := z
   exact f2g I2 e1 c n l ry fun s3 I3 => ⟨σ, _, I3, k _ a6y.upd a6g⟩
  ·exact z.elim
 | _ => exact False.elim z
end
noncomputable def b1j (C : Addr) (m : Str) (sp : Sp) (dvs : List V) (E : XK) (ta : TE) (t : TA) : TE := fun σ H Q => ta σ H fun x H1 => match x with
 | .ref a => (match H1 a with
  | some (.ins C' dx fs) => C' = C /\ fs.lookup m = none /\ t σ H1 fun vs H2 => sp (x :: (vs ++ dvs)) H2 Q E
  | _ => False)
 | _ => False
section
variable {X : Cx} {CX : CXT} {k : Nat} {f C : Addr} {fd : FuncData} {ps : List Str} {sp : Sp} {dvs : List V} {ds : List Value} {E : XK} {x m : Str} {p pos apos : Pos} {e o : Expr} {es : List Expr} {ta : TE} {t : TA}
theorem c1p {pl : Sem Bool} (he : PE X o ta) (c : Cls X.K C) (hm : Meth X.K C m f) (F : a1n X.prog X.w X.K X.mg X.base CX k f fd ps sp) (hr : a2y k X.A) (hb : Binds X.K fd ps ds) (hd : Vals dvs ds) (hx : Passes CX X E) (ha : PA X (e :: es) t)
  (hst : starEach (e :: es) X.env = (false, eval e X.env) :: starEach es X.env := by rfl) (hpl : (backTo pos (starEach es X.env)).any (·.1) = false := by rfl)
  (ht : eval (.Call (.Attribute o m apos) (e :: es) [] pos) X.env = (do
   let ov <- eval o X.env
   standAt apos.atName
   let (f, first) <- holding [ov] (getMethod ov m pl)
   callWith pos f first (backTo pos (starEach (e :: es) X.env)) (backToKw pos (keywordEach [] X.env))) := by rfl) :
  PE X (.Call (.Attribute o m apos) (e :: es) [] pos) (b1j C m sp dvs E ta t) := by
 intro pins s σ H Q I h
 refine PySem.W.methodCall_KW (pl := pl) (thn (he pins s σ H _ I h) fun u s1 ⟨x, H1, I1, rx, z⟩ => ?_) ht
 cases x with
 | ref a =>
  obtain rfl : u = Value.ref a := rx
  dsimp only at z
  split at z
  ·rename_i C' dx fs ea
   obtain ⟨rfl, l, q⟩ := z
   refine d1k I1 ea c hm l ?_
   refine PySem.W.callWith_K (first := [.ref a]) (h₀ := X.base) I.ok.mod.kin hm.kp (thn (ha pos pins s1 σ H1 _ I1 q) fun us s2 ⟨vs, H2, I2, r, q2⟩ => ⟨I2.kIn, ?_⟩) hst hpl
   exact f0l (us := .ref a :: us) (vs := .ref a :: vs) F hr hb hd hx I2 (.cons rfl r) q2
  ·exact z.elim
 | _ => exact False.elim z
theorem a8t {pl : Sem Bool} (he : PE X o ta) (c : Cls X.K C) (hm : Meth X.K C m f) (F : a1n X.prog X.w X.K X.mg X.base CX k f fd ps sp) (hr : a2y k X.A) (hb : Binds X.K fd ps ds) (hd : Vals dvs ds) (hx : Passes CX X E)
  (ht : eval (.Call (.Attribute o m apos) [] [] pos) X.env = (do
   let ov <- eval o X.env
   standAt apos.atName
   let (f, first) <- holding [ov] (getMethod ov m pl)
   callWith pos f first (backTo pos (starEach [] X.env)) (backToKw pos (keywordEach [] X.env))) := by rfl) :
  PE X (.Call (.Attribute o m apos) [] [] pos) (b1j C m sp dvs E ta f5t) := by
 intro pins s σ H Q I h
 refine PySem.W.methodCall_KW (pl := pl) (thn (he pins s σ H _ I h) fun u s1 ⟨x, H1, I1, rx, z⟩ => ?_) ht
 cases x with
 | ref a =>
  obtain rfl : u = Value.ref a := rx
  dsimp only at z
  split at z
  ·rename_i C' dx fs ea
   obtain ⟨rfl, l, q⟩ := z
   refine d1k I1 ea c hm l ?_
   exact PySem.W.callWith_K0 (first := [.ref a]) I1.kIn hm.kp (f0l (us := [.ref a]) (vs := [.ref a]) F hr hb hd hx I1 (.cons rfl .nil) q)
  ·exact z.elim
 | _ => exact False.elim z
noncomputable def h4b (H : Hp) (C : Addr) (k : Addr -> Hp -> Prop) (_ : Tag k) : Prop := ∀ x dx H1, H x = none -> H dx = none -> dx ≠ x -> Same H H1 -> H1 dx = some (.own x) -> H1 x = some (.ins C dx []) -> k x H1
noncomputable def h0f (x : Addr) (Q : VK) : VK := fun v H2 => v = .non /\ Q (.ref x) H2
theorem asNew {x : Addr} {Q : VK} {H2 : Hp} {v : V} : h0f x Q v H2 = (v = .non /\ Q (.ref x) H2) := rfl
noncomputable def g3u (C : Addr) (sp : Sp) (dvs : List V) (E : XK) (t : TA) : TE := fun σ H Q => t σ H fun vs H1 => h4b H1 C (fun x H2 => sp (.ref x :: (vs ++ dvs)) H2 (h0f x Q) E) ⟨⟩
theorem h4b.raw {H : Hp} {C : Addr} {k : Addr -> Hp -> Prop} {t : Tag k} (h : h4b H C k t) : ∀ x dx, H x = none -> H dx = none -> dx ≠ x -> k x (upd (upd H dx (.own x)) x (.ins C dx [])) := fun x dx ex ed ne =>
 h x dx _ ex ed ne ((Same.upd ed).trans (Same.upd (by rw [a2u ne.symm]; exact ex))) (by rw [a2u ne]; exact a6g) a6g
theorem c4g (M : Mk X.K C f) (F : a1n X.prog X.w X.K X.mg X.base CX k f fd ps sp) (hr : a2y (k + 1) X.A) (hg : Gl X x) (hm : X.mg x = some (.ref C)) (hb : Binds X.K fd ps ds) (hd : Vals dvs ds) (hx : Passes CX X E)
  (ha : PA X (e :: es) t) (hdb : (x == ("__debug__" : Str)) = false := by decide) (he : starEach (e :: es) X.env = (false, eval e X.env) :: starEach es X.env := by rfl) (hpl : (backTo pos (starEach es X.env)).any (·.1) = false := by rfl) :
  PE X (.Call (.Name x p) (e :: es) [] pos) (g3u C sp dvs E t) := by
 intro pins s σ H Q I h
 refine wpAny_Call_Name_kw (d7r I hg hm ?_ hdb)
 refine PySem.W.callWith_K (h₀ := X.base) I.ok.mod.kin M.kp (thn (ha pos pins s σ H _ I h) fun us s1 ⟨vs, H1, I1, r, q⟩ => ⟨I1.kIn, ?_⟩) he hpl
 exact g0z M F hr hb hd hx I1 r q.raw
end
noncomputable def g1l (K : PySem.W.Frag) (ta tv : TE) (rd : V -> V -> Hp -> VK -> Prop) (f : Str) : TS := fun D σ H => ta σ H fun x H1 => match x with
 | .ref a => (match H1 a with
  | some (.ins C dx fs) => Cls K C /\ a5o K C f /\ (match fs.lookup f with
   | some v => tv σ H1 fun y H2 => rd v y H2 fun z H3 => (match H3 a with
    | some (.ins C' dx' fs') => C' = C /\ fs'.length < 1000 /\ Wr H3 a (.ins C dx' (c6w f z fs')) (D.nx σ) ⟨⟩
    | _ => False)
   | none => False)
  | _ => False)
 | _ => False
section
variable {X : Cx} {o e value : Expr} {f : Str} {pos pos' tpos : Pos} {ta tv : TE}
end
noncomputable def rInF (g : Int -> Int -> Int) : V -> V -> Hp -> VK -> Prop := fun x y H Q => match x, y with
 | .int i, .int j => Q (.int (g i j)) H
 | _, _ => False
noncomputable def h4d (i : Nat) (te : TE) (ti : TIp) : TS := fun D σ H => match σ[i]? with
 | some (some x) => te σ H fun y H1 => ti x y H1 fun z H2 => D.nx (σ.set i (some z)) H2
 | _ => False
section
variable {X : Cx} {pos : Pos}
end
theorem lookup_same {f : Str} {v : V} {r : List (Str × V)} : List.lookup f ((f, v) :: r) = some v := by rw [List.lookup_cons, beq_self_eq_true]
theorem f7m {f : Str} {v x : V} {r : List (Str × V)} : c6w f v ((f, x) :: r) = (f, v) :: r := by rw [c6w, if_pos rfl]
theorem g1m {f : Str} {v : V} : c6w f v [] = [(f, v)] := rfl
theorem d5v {f g : Str} {v : V} {r : List (Str × V)} (h : (f == g) = false) : List.lookup f ((g, v) :: r) = r.lookup f := by rw [List.lookup_cons, h]
theorem f2o {f g : Str} {v x : V} {r : List (Str × V)} (h : (f == g) = false) : c6w f v ((g, x) :: r) = (g, x) :: c6w f v r := by rw [c6w, if_neg fun e => by rw [e, beq_self_eq_true] at h; exact Bool.noConfusion h]
theorem h4e {X : Cx} : X.nox.K = X.K := rfl
end L2
namespace L2
open PySem PySem.Spec PyProof.Rows
structure c2g (k : Nat) (A : Around) : Prop where
 dp : A.depth + 3 * k + 5 < recursionLimit
 un : A.units + 16 * k + 200 < cLine
theorem a2y.h {k : Nat} {A : Around} (r : a2y k A) : c2g k A := ⟨r.dp, r.un⟩
theorem c2g.mono {j k : Nat} {A : Around} (r : c2g k A) (h : j <= k) : c2g j A := ⟨by have := r.dp; omega, by have := r.un; omega⟩
theorem c2g.deeper {k : Nat} {A : Around} (r : c2g (k + 1) A) (env : Env) : c2g k (A.deeper env) :=
 ⟨by have := r.dp; show A.depth + 1 + 3 * k + 5 < _; omega, by have := r.un; show A.units + 3 + 16 * k + 200 < _; omega⟩
theorem c2g.units {k : Nat} {A : Around} (r : c2g k A) : A.units + 64 < cLine := by have := r.un; omega
theorem c2g.calm {k : Nat} {A : Around} (r : c2g k A) : a2y k { A with handled := none } := ⟨rfl, r.dp, r.un⟩
structure h0g (P : Program) (w : World) (K : PySem.W.Frag) (mg : Str -> Option Value) (base : Heap) (k : Nat) (f : Addr) (fd : FuncData) (ps : List Str) (sp : Sp) : Prop where
 len : ∀ vs H Q E, sp vs H Q E -> vs.length = ps.length
 run : ∀ (A : Around) (outer : List Env) (s : Shared) (H : Hp) (args : Args) (us : List Value) (vs : List V) (Q : VK) (E : XK), c2g k A -> f5u P w K mg base A outer s H -> BindsTo s fd args (ps.zip us) -> Vals vs us -> sp vs H Q E ->
  codeAny (model P w) A (.call (.ref f) args) (CR CX0 outer P w H s Q E) s
theorem h0g.ok {P : Program} {w : World} {K : PySem.W.Frag} {mg : Str -> Option Value} {base : Heap} {k : Nat} {f : Addr} {fd : FuncData} {ps : List Str} {sp : Sp} (F : h0g P w K mg base k f fd ps sp) : a1n P w K mg base CX0 k f fd ps sp :=
 ⟨F.len, fun A outer s H args us vs Q E hr => F.run A outer s H args us vs Q E hr.h⟩
noncomputable abbrev cxOfH (P : Program) (w : World) (K : PySem.W.Frag) (mg : Str -> Option Value) (base : Heap) (N : List Str) (qual : Str) (scope : Scope) (f : Addr) (cd : Value) (A : Around) (outer : List Env) (s : Shared) (H : Hp) (E : XK) : Cx := { g3d CX0 P w K mg base N qual scope f cd A outer s H E with calm := false, xe := fun _ _ => False }
section
variable {X : Cx} {k : Nat} {f : Addr} {fd : FuncData} {ps : List Str} {sp : Sp} {dvs : List V} {ds : List Value} {x : Str} {p pos : Pos} {e : Expr} {es : List Expr} {t : TA}
end
theorem c2g.mark {k : Nat} {A : Around} (r : c2g k A) (h : Option Value) : c2g k (A.mark h) := ⟨r.dp, r.un⟩
end L2
namespace L2
open PySem PySem.Spec PyProof.Rows
open PySem.Builtin.Str (occurrences subAt partsBetween strSub)
noncomputable abbrev sg (x : Str) : List Nat := x.cps.toList
theorem b4i {x y : Str} (h : sg x = sg y) : x = y := Str.ext' (by
 have := congrArg List.toArray h
 simpa using this)
theorem a2i (x y : Str) : sg (x ++ y) = sg x ++ sg y := by unfold sg; rw [Str.cps_append]; simp
theorem b8y (x : Str) : (sg x).length = x.length := by simp [Str.length]
theorem g3v {x : Str} {c i : Nat} : StrLaws.At x ⟨#[c]⟩ x.length i ↔ (sg x)[i]? = some c := StrLaws.subAt_one x c i
theorem c7u {c : Nat} : (⟨#[c]⟩ : Str).length = 1 := rfl
theorem g3w (x : Str) (i j : Nat) : sg (strSub x i j) = ((sg x).drop i).take (j - i) := StrLaws.strSub_toList x i j
theorem g1n {x : Str} {c : Nat} {a b : List Nat} (hk : c < 128) (h : sg x = a ++ c :: b) (ha : c ∉ a) (hb : c ∉ b) : b2y x ⟨#[c]⟩ = [⟨a.toArray⟩, ⟨b.toArray⟩] := by
 have hl : x.length = a.length + (b.length + 1) := by rw [<- b8y, h]; simp
 have k1 : ¬ ((decide (x.length < (⟨#[c]⟩ : Str).length) || decide (Builtin.Str.strKind x < Builtin.Str.strKind ⟨#[c]⟩)) = true) := by
  have e : Builtin.Str.strKind ⟨#[c]⟩ = 1 := by
   unfold Builtin.Str.strKind
   rw [if_pos (by simp; omega)]
  have g : 1 <= Builtin.Str.strKind x := by
   unfold Builtin.Str.strKind
   split
   ·decide
   ·split <;> decide
  rw [e, c7u]
  simp only [Bool.or_eq_true, decide_eq_true_eq]
  omega
 have only : ∀ i, StrLaws.At x ⟨#[c]⟩ x.length i -> i = a.length := by
  intro i hi
  have hi := g3v.mp hi
  rw [h] at hi
  rcases Nat.lt_trichotomy i a.length with q | q | q
  ·rw [List.getElem?_append_left q] at hi
   exact absurd (List.mem_of_getElem? hi) ha
  ·exact q
  ·rw [List.getElem?_append_right (Nat.le_of_lt q)] at hi
   obtain ⟨j, hj⟩ : ∃ j, i - a.length = j + 1 := ⟨i - a.length - 1, by omega⟩
   rw [hj, List.getElem?_cons_succ] at hi
   exact absurd (List.mem_of_getElem? hi) hb
 have there : StrLaws.At x ⟨#[c]⟩ x.length a.length := g3v.mpr (by rw [h, List.getElem?_append_right (Nat.le_refl _), Nat.sub_self]; rfl)
 obtain ⟨f, ch⟩ := StrLaws.occ_chain x ⟨#[c]⟩ (x.length + 1)
 have ho : occurrences x ⟨#[c]⟩ 0 x.length (x.length + 1) = [a.length] := by
  rcases StrLaws.occ_head x ⟨#[c]⟩ (x.length + 1) (by omega) with ⟨h0, hn⟩ | ⟨i, r, h0, hi, hn⟩
  ·exact absurd there (hn _)
  ·rw [h0] at ch ⊢
   have e := only i hi
   subst e
   cases r with
   | nil => rfl
   | cons j r =>
    obtain ⟨_, _, q1, q2, _⟩ := ch
    have := only j q2
    rw [c7u] at q1
    omega
 unfold b2y
 rw [if_neg k1, ho, if_neg (by simp)]
 simp only [partsBetween, List.map_cons, List.map_nil, List.cons_append, List.nil_append, List.zip_cons_cons, List.zip_nil_right, List.cons.injEq, and_true]
 constructor
 ·refine b4i ?_
  rw [g3w, h]
  simp
 ·refine b4i ?_
  rw [g3w, c7u, h, hl]
  have e : (a ++ c :: b).drop (a.length + 1) = b := by rw [List.drop_append]; simp
  rw [e, List.take_of_length_le (by omega)]
open PySem.NumText (AllDigits digitsVal digitsVal_snoc)
noncomputable def dg (n : Nat) : List Nat := (Nat.toDigits 10 n).map Char.toNat
theorem f0s (n : Nat) : digitsVal (dg n) = n := PySem.W.KIN.val_back n
theorem d8l {n : Nat} (h : n < 10) : dg n = [n + 48] := by
 have : ∀ d, d < 10 -> dg d = [d + 48] := by decide
 exact this n h
theorem c7v {m c : Nat} (hm : 0 < m) (hc : c < 10) : dg (10 * m + c) = dg m ++ [c + 48] := by
 have t : Nat.toDigits 10 m ++ Nat.toDigits 10 c = Nat.toDigits 10 (10 * m + c) := Nat.toDigits_append_toDigits (by decide) hm hc
 unfold dg
 rw [<- t, List.map_append]
 have := d8l hc
 unfold dg at this
 rw [this]
theorem f7n (n : Nat) : dg n ≠ [] := by
 by_cases h : n < 10
 ·rw [d8l h]; simp
 ·have e : n = 10 * (n / 10) + n % 10 := by omega
  rw [e, c7v (by omega) (by omega)]
  simp
theorem c1v (n : Nat) : AllDigits (dg n) := by
 induction n using Nat.strongRecOn with
 | _ n ih =>
  by_cases h : n < 10
  ·rw [d8l h]
   intro c hc
   simp at hc
   omega
  ·have e : n = 10 * (n / 10) + n % 10 := by omega
   rw [e, c7v (by omega) (by omega)]
   intro c hc
   rcases List.mem_append.mp hc with q | q
   ·exact ih (n / 10) (by omega) c q
   ·simp at q
    omega
theorem g5m {n : Nat} (h : 0 < n) : ∃ c r, dg n = c :: r /\ c ≠ 48 := by
 induction n using Nat.strongRecOn with
 | _ n ih =>
  by_cases q : n < 10
  ·exact ⟨n + 48, [], d8l q, by omega⟩
  ·obtain ⟨c, r, e, hc⟩ := ih (n / 10) (by omega) (by omega)
   have e2 : n = 10 * (n / 10) + n % 10 := by omega
   refine ⟨c, r ++ [n % 10 + 48], ?_, hc⟩
   conv => lhs; rw [e2]
   rw [c7v (by omega) (by omega), e]
   rfl
noncomputable def Canon (ds : List Nat) : Prop := AllDigits ds /\ ds ≠ [] /\ ∀ r, ds = 48 :: r -> r = []
theorem g3x : ∀ {ds : List Nat}, AllDigits ds -> digitsVal ds < 10 ^ ds.length := by
 intro ds
 generalize hn : ds.length = n
 induction n generalizing ds with
 | zero => intro _; rw [List.length_eq_zero_iff.mp hn]; decide
 | succ n ih =>
  intro hd
  have hne : ds ≠ [] := fun e => by rw [e] at hn; cases hn
  have e : ds = ds.dropLast ++ [ds.getLast hne] := (List.dropLast_concat_getLast hne).symm
  generalize ds.dropLast = cs at e
  generalize ds.getLast hne = c at e
  subst e
  have hc := hd c (by simp)
  have := ih (ds := cs) (by simp at hn; exact hn) fun d hd' => hd d (by simp [hd'])
  rw [digitsVal_snoc, Nat.pow_succ]
  omega
noncomputable def txt (t : Int) : List Nat := if t < 0 then 45 :: dg t.natAbs else dg t.natAbs
theorem c4h (t : Int) : sg (Str.ofString (toString t)) = txt t := by
 unfold txt
 match t with
 | .ofNat m => exact PySem.W.KIN.signs_num m
 | .negSucc m =>
  rw [if_pos (Int.negSucc_lt_zero m)]
  unfold sg
  rw [signs_ofString]
  show (("-" ++ Nat.repr (m + 1)).toList.map Char.toNat) = _
  rw [String.toList_append, List.map_append, Nat.toList_repr]
  rfl
theorem c4v {x : Str} {t : Int} (h : sg x = txt t) (hl : x.length <= 4300) : PySem.intText? x = some t := by
 unfold txt at h
 split at h
 ·rename_i ht
  have := intText_neg h (c1v _) (f7n _) hl
  rw [f0s] at this
  rw [this]
  congr 1
  omega
 ·rename_i ht
  have := intText_digits (x := x) (by rw [show x.cps.toList = sg x from rfl, h]; exact c1v _) (by rw [show x.cps.toList = sg x from rfl, h]; exact f7n _) hl
  rw [show x.cps.toList = sg x from rfl, h, f0s] at this
  rw [this]
  congr 1
  omega
theorem h0h (n : Nat) : (dg n).length <= n.log2 + 1 := by
 induction n using Nat.strongRecOn with
 | _ n ih =>
  by_cases h : n < 10
  ·rw [d8l h]; simp
  ·have e : n = 10 * (n / 10) + n % 10 := by omega
   have i := ih (n / 10) (by omega)
   have k : (n / 10).log2 + 1 <= n.log2 := by
    rw [Nat.le_log2 (by omega), Nat.pow_succ]
    have := Nat.log2_self_le (n := n / 10) (by omega)
    omega
   have z := c7v (m := n / 10) (c := n % 10) (by omega) (by omega)
   rw [<- e] at z
   rw [z]
   rw [List.length_append]
   simp only [List.length_cons, List.length_nil]
   omega
theorem d8m (t : Int) : (txt t).length <= t.natAbs.log2 + 2 := by
 have := h0h t.natAbs
 unfold txt
 split
 ·rw [List.length_cons]; omega
 ·omega
noncomputable def g3y (t b : Int) : List Nat := txt t ++ 47 :: txt b
structure Good (x : List Nat) (t b : Int) : Prop where
 eq : x = g3y t b
 pos : 0 < b
 low : Int.gcd t b = 1
 l1 : (dg t.natAbs).length <= 9
 l2 : (dg b.natAbs).length <= 9
noncomputable def f7o (l : List Nat) : Bool := l.all (fun c => decide (48 <= c) && decide (c <= 57)) && !l.isEmpty
theorem d2r {l : List Nat} : f7o l = true ↔ AllDigits l /\ l ≠ [] := by
 unfold f7o AllDigits
 simp
theorem g5n (c : Nat) : h2y "0123456789" ⟨#[c]⟩ = (decide (48 ≤ c) && decide (c ≤ 57)) := by
 unfold h2y
 rw [StrLaws.found_one]
 have e : (Str.ofString "0123456789").cps.toList = [48, 49, 50, 51, 52, 53, 54, 55, 56, 57] := by decide +kernel
 rw [e]
 by_cases h : 48 <= c /\ c <= 57
 ·rw [show (decide (48 <= c) && decide (c <= 57)) = true by simp [h]]
  rw [decide_eq_true_eq]
  simp
  omega
 ·rw [show (decide (48 <= c) && decide (c <= 57)) = false by simp; omega]
  rw [decide_eq_false_iff_not]
  simp
  omega
theorem d1o {t : Int} {c : Nat} (h1 : c ≠ 45) (h2 : c < 48 \/ 57 < c) : c ∉ txt t := by
 unfold txt
 intro h
 split at h
 ·rcases List.mem_cons.mp h with q | q
  ·exact h1 q
  ·have := c1v _ c q; omega
 ·have := c1v _ c h; omega
theorem h0i (t : Int) : (txt t).length <= (dg t.natAbs).length + 1 := by
 unfold txt
 split
 ·rw [List.length_cons]; exact Nat.le_refl _
 ·exact Nat.le_succ _
theorem g3z (x : Str) (c : Nat) : Txt.startswith x ⟨#[c]⟩ = decide ((sg x)[0]? = some c) := by
 unfold Txt.startswith
 rw [Bool.eq_iff_iff, Bool.and_eq_true, decide_eq_true_eq, decide_eq_true_eq]
 exact StrLaws.subAt_one x c 0
theorem h0j {x : Str} {t : Int} (h : sg x = txt t) : Txt.startswith x ⟨#[45]⟩ = decide (t < 0) := by
 rw [g3z, h]
 unfold txt
 split
 ·rename_i q
  simp [q]
 ·rename_i q
  rw [decide_eq_false q, decide_eq_false_iff_not]
  intro e
  have := c1v _ 45 (List.mem_of_getElem? e)
  omega
theorem g5o {x : Str} {i : Nat} (h : i <= x.length) : sg (Txt.slice x (some (i : Int)) none) = (sg x).drop i := by
 rw [slice_from_eq (b := (x.length : Int)) (by omega) (by omega) rfl]
 simp only [sg, Int.toNat_natCast]
 rw [List.take_of_length_le]
 rw [List.length_drop]
 have := b8y x
 unfold sg at this
 omega
end L2
namespace L2
open PySem PySem.Spec PyProof.Rows
section
variable {X : Cx}
noncomputable def g5p (K : PySem.W.Frag) : List V -> Hp -> VK -> Prop := fun xs H Q => match xs with
 | [.ref p] => (match H p with
  | some (.lst ys) => New H (.tup ys) Q ⟨⟩
  | some (.tup ys) => Q (.ref p) H
  | _ => False)
 | _ => False
theorem d5w : a8p X (.type "tuple") (g5p X.K) := d2q.weak fun xs H Q h => by
 match xs, h with
 | [.ref p], h =>
  unfold g5p at h
  dsimp only at h
  split at h
  ·rename_i ys e
   exact ⟨p, ys, rfl, .inl ⟨SqL.of e, h.raw⟩⟩
  ·rename_i ys e
   exact ⟨p, ys, rfl, .inr ⟨SqT.of e, h⟩⟩
  ·exact h.elim
end
section
variable {X : Cx}
structure InsQ (K : PySem.W.Frag) (C : Addr) : Prop where
 ha : PySem.W.findIn K (.ref C) "__class__" = some (some (.builtin "object.__class__"))
 hn : PySem.W.specialIn K (.builtin "object.__class__") "__get__" = some (some (.builtin "getset_descriptor.__get__"))
 htk : PySem.W.takesIn K (.builtin "object.__class__") = some true
 hm : PySem.W.mroIn K C (.type "object") = some true
noncomputable def rIsI (K : PySem.W.Frag) : List V -> Hp -> VK -> Prop := fun xs H Q => match xs with
 | [.ref a, .ref D] => (match H a with
  | some (.ins C dx fs) => Cls K C /\ InsQ K C /\ (match PySem.W.kitOne K (.ref C) (.ref D) with
   | some b => Q (.bl b) H
   | none => False)
  | _ => False)
 | _ => False
end
section
variable {X : Cx} {pos : Pos}
noncomputable def g5q : List V -> Hp -> VK -> Prop := fun xs H Q => match xs with
 | [.int i, .int j] => (0 < j /\ j < 1073741824) /\ New H (.tup [.int (i / j), .int (i % j)]) Q ⟨⟩
 | _ => False
noncomputable def g5r : TGs := fun vs σ H Q => match vs with
 | [] => Q σ H
 | _ => False
noncomputable def f7p (t : TG) (u : TGs) : TGs := fun vs σ H Q => match vs with
 | v :: r => t v σ H fun σ' H' => u r σ' H' Q
 | _ => False
noncomputable def g5s (n : Nat) (t : TGs) : TG := fun v σ H Q => match v with
 | .ref a => (match H a with
  | some (.tup xs) => xs.length = n /\ t xs σ H Q
  | _ => False)
 | _ => False
theorem f0t : PGs X [] g5r := by
 intro pins s σ H vs us Q I r h
 refine g4o pins s σ H vs us Q I r ?_
 unfold g5r at h
 split at h
 ·exact ⟨rfl, h⟩
 ·exact h.elim
theorem b1k {e : Expr} {es : List Expr} {t : TG} {u : TGs} (h1 : PG X e t) (h2 : PGs X es u)
  (hs : (assignEach (e :: es) X.env).map (·.2) = assign e X.env :: (assignEach es X.env).map (·.2) := by rfl) : PGs X (e :: es) (f7p t u) := by
 intro pins s σ H vs us Q I r h
 refine g0u h1 h2 hs pins s σ H vs us Q I r ?_
 unfold f7p at h
 split at h
 ·exact ⟨_, _, rfl, h⟩
 ·exact h.elim
theorem f7q {es : List Expr} {k : Nat} {t : TGs} {n : Nat} (hc : X.calm = true) (h : PGs X es t)
  (hn : (assignEach es X.env).length = n := by rfl) (hst : (assignEach es X.env).findIdx? (·.1) = none := by rfl) : PG X (.Tuple es k pos) (g5s n t) := by
 intro pins s σ H v u Q I r hw
 refine g7t hc h hn hst pins s σ H v u Q I r ?_
 unfold g5s at hw
 cases v with
 | ref a =>
  dsimp only at hw
  split at hw
  ·rename_i xs e
   exact ⟨a, xs, rfl, SqT.of e, hw.1, hw.2⟩
  ·exact hw.elim
 | _ => exact False.elim hw
end
end L2
namespace L2
open PySem PySem.Spec PyProof.Rows
noncomputable def h0k (J : It) (tc : TT) (te : TE) (D : Addr) (σ : St) (H : Hp) (Q : VK) (_ : Tag Q) : Prop := ∃ (n : Nat) (W : Nat -> List V -> Hp -> Prop), W 0 [] H /\ ∀ i ys H, i <= n -> W i ys H -> H D = some (.lst ys) /\
 ((J.stop i H /\ Q (.ref D) H) \/ (i < n /\ J.go i H /\ ys.length < sizeLine /\ ∀ x H', J.yld i H x H' -> tc (some x :: σ) H' fun b H1 =>
  if b = true then te (some x :: σ) H1 fun y H2 => H2 D = some (.lst ys) /\ ∀ H3, a6y D H2 H3 -> H3 D = some (.lst (ys ++ [y])) -> W (i + 1) (ys ++ [y]) H3
  else W (i + 1) ys H1))
noncomputable def h6x (wi : TI) (tc : TT) (te : TE) : TE := fun σ H Q => wi σ H fun J H1 => ∀ D H2, H1 D = none -> Same H1 H2 -> H2 D = some (.lst []) -> h0k J tc te D σ H2 Q ⟨⟩
section
variable {X : Cx} {scope : Scope} {x : Str} {pins : List (Addr × Obj)} {σ : St} {elt iter cnd : Expr} {px pos : Pos} {wi : TI} {te : TE} {tc : TT}
end
section
variable {X : Cx} {k : Nat} {f C : Addr} {fd : FuncData} {ps : List Str} {sp : Sp} {dvs : List V} {ds : List Value} {E : XK} {x m : Str} {p pos apos : Pos} {e o : Expr} {es : List Expr} {ta : TE} {t : TA}
end
end L2
namespace L2
open PySem PySem.Spec PyProof.Rows
noncomputable def rSl3 : V -> Option Int -> Hp -> VK -> Prop := fun x st H Q => match x with
 | .ref a => (match H a with
  | some (.lst xs) => st ≠ some 0 /\ ∀ ys : List V, ys.length <= xs.length -> (∀ y ∈ ys, y ∈ xs) -> New H (.lst ys) Q ⟨⟩
  | _ => False)
 | _ => False
noncomputable def tSl3 (te : TE) (tl th ts : TO) : TE := fun σ H Q => te σ H fun x H1 => tl σ H1 fun _ H2 => th σ H2 fun _ H3 => ts σ H3 fun st H4 => rSl3 x st H4 Q
section
variable {X : Cx}
noncomputable def h6y (lo : Int) (n : Nat) : List V := (List.range n).map fun i : Nat => V.int (lo + (i : Int))
noncomputable def h6z (ta : TA) : TE := fun σ H Q => ta σ H fun vs H1 => match vs with
 | [.int j] => (-1000000 <= j /\ j <= 1000000) /\ New H1 (.lst (h6y 0 j.toNat)) Q ⟨⟩
 | _ => False
noncomputable def h7a (ta : TA) : TE := fun σ H Q => ta σ H fun vs H1 => match vs with
 | [.int i, .int j] => (-1000000 <= i /\ i <= 1000000 /\ -1000000 <= j /\ j <= 1000000) /\ New H1 (.lst (h6y i (j - i).toNat)) Q ⟨⟩
 | _ => False
end
noncomputable def tLRev (ta : TE) : TE := fun σ H Q => ta σ H fun x H1 => match x with
 | .ref a => (match H1 a with
  | some (.lst xs) => New H1 (.lst xs.reverse) Q ⟨⟩
  | _ => False)
 | _ => False
noncomputable def maxD (d : Int) : List Int -> Int
 | [] => d
 | n :: ns => ns.foldl max n
section
variable {prog : Program} {w : World} {A : Around} {E : Value -> Shared -> Prop} {s : Shared}
end
noncomputable def h4f : List V -> List V -> Hp -> VK -> Prop := fun vs zs H Q => match vs, zs with
 | [.ref p], [.int d] => (match H p with
  | some (.lst xs) => ∃ ns : List Int, xs = ns.map V.int /\ Q (.int (maxD d ns)) H
  | _ => False)
 | _, _ => False
noncomputable def tMaxD (t tk : TA) : TE := fun σ H Q => t σ H fun vs H1 => tk σ H1 fun zs H2 => h4f vs zs H2 Q
noncomputable def h4g : V -> V -> V -> Hp -> (Hp -> Prop) -> Prop := fun o i v H Q => match o, i with
 | .ref p, .int k => (match H p with
  | some (.lst xs) => (0 <= k /\ k < xs.length) /\ ∀ H1, a6y p H H1 -> H1 p = some (.lst (xs.set k.toNat v)) -> Q H1
  | _ => False)
 | _, _ => False
end L2
namespace L2
open PySem PySem.Spec PyProof.Rows
section
variable {X : Cx} {pins : List (Addr × Obj)} {σ : St} {H : Hp} {s : Shared}
theorem Inv.f7r {t' : Nat} {h' : Heap} {fp : List Addr} (I : Inv X pins σ H s) (k : ∀ b o, b ∉ fp -> s.heap.get? b = some o -> h'.get? b = some o) (hf : ∀ b ∈ fp, f1v X pins H b) : Inv X pins σ H { s with heap := h', toks := t' } := by
 have nit : ∀ b u, H b = some u -> b ∉ fp := fun b u e z => by rw [(hf b z).1] at e; cases e
 refine I.call' (s' := { s with heap := h', toks := t' }) (ch := fp) rfl ⟨fun b o e n hb hx => k b o hx e, fun b o e n hb hx => ⟨o.slots, k b o hx e⟩, fun _ _ _ n _ => n, fun b o e hx => ⟨o, k b o hx e⟩, fun _ _ q => q, fun _ _ _ q => q, fun _ ps q => ⟨#[], by rw [q]; simp⟩⟩ ?_ I.bare fun b hb => ⟨(hf b hb).2.2.2.1, (hf b hb).2.1, (hf b hb).2.2.2.2.1, (hf b hb).2.2.2.2.2⟩
 intro b u e
 refine (I.hok b u e).stay (fun c v hc q => k c v ?_ q) (fun _ q => q) fun _ _ q => q
 rcases hc with z | z
 ·rw [z]; exact nit b u e
 ·exact nit c _ z
end
noncomputable def ItB (b : Bool) (h : Heap) (it l : Addr) (i : Nat) : Prop := ∃ o, h.get? it = some o ∧ o.cls = .type (cond b "list_iterator" "tuple_iterator") ∧ o.data = .fields #[.ref l, .int i 0]
noncomputable def SqB (b : Bool) (h : Heap) (l : Addr) (items : Array Value) : Prop := ∃ o, h.get? l = some o ∧ o.cls = .type (cond b "list" "tuple") ∧ ∃ n, o.data = .seq items n
theorem ItB.at {b : Bool} {h h' : Heap} {it l : Addr} {i : Nat} (x : ItB b h it l i) (k : ∀ o, h.get? it = some o -> h'.get? it = some o) : ItB b h' it l i := let ⟨o, e, r⟩ := x; ⟨o, k o e, r⟩
theorem SqB.at {b : Bool} {h h' : Heap} {l : Addr} {items : Array Value} (x : SqB b h l items) (k : ∀ o, h.get? l = some o -> h'.get? l = some o) : SqB b h' l items := let ⟨o, e, r⟩ := x; ⟨o, k o e, r⟩
section
variable {prog : Program} {w : World} {A : Around} {E : Value -> Shared -> Prop} {s : Shared}
theorem d8n {it t : Addr} {i : Nat} {items : Array Value} {x : Value} {Q : Value -> Shared -> Prop} (hit : s.heap.IsTupleIter it t i) (ht : s.heap.IsTuple t items) (hx : items[i]? = some x)
  (hQ : ∀ h', h'.IsTupleIter it t (i + 1) -> Heap.SameBut it s.heap h' -> Q x { s with heap := h' }) : wpAny (model prog w) A (Builtin.SmallTypes.nextOf (.ref it)) Q E s := by
 obtain ⟨o, ho, hc, hd⟩ := id hit
 obtain ⟨ol, hol, _, nl, hdl⟩ := ht
 unfold Builtin.SmallTypes.nextOf
 refine wpAny_bind (wpAny_callSpecial?_slot (name := Str.ofString "__next__") hit.typeIs F.slot_tuple_iterator_next
  (wpAny_call_entry F.slot_tuple_iterator_next hit.typeIs F.entry_tuple_iterator_next ?_ (F.args_tuple_iterator_next_1 _)))
 show wpAny _ _ (field (.ref it) 0 >>= _) _ _ s
 refine wpAny_bind (wpAny_field ho hd (x := .ref t) rfl ?_)
 show wpAny _ _ (if (Value.ref t == Value.none) = true then _ else _) _ _ s
 rw [if_neg (show ¬ ((Value.ref t == Value.none) = true) from Bool.false_ne_true)]
 show wpAny _ _ (field (.ref it) 1 >>= _) _ _ s
 refine wpAny_bind (wpAny_field ho hd (x := .int i 0) rfl ?_)
 show wpAny _ _ (seqItems? (.ref t) >>= _) _ _ s
 refine wpAny_bind (wpAny_seqItems hol hdl ?_)
 simp only [Int.toNat_natCast, hx]
 refine wpAny_bind (wpAny_setField ho hd (by simp) (wpAny_pure ⟨x, rfl, wpAny_pure (hQ _ ?_ (Heap.SameBut.update ..))⟩))
 exact ⟨_, Heap.get?_update_self _ ho (Obj.isFreed_of_fields (Obj.data_mapFields hd _)), (Obj.cls_mapFields ..).trans hc, by
  rw [Obj.data_mapFields hd]; simp [rawInt]⟩
theorem f2p {it t : Addr} {i : Nat} {items : Array Value} {Q : Value -> Shared -> Prop} (hh : A.handled = none) (hit : s.heap.IsTupleIter it t i) (ht : s.heap.IsTuple t items) (hx : items[i]? = none)
  (hE : ∀ h' e, Heap.ExtBut it s.heap h' → (∃ o, h'.get? e = some o ∧ o.cls = .type "StopIteration") → E (.ref e) { s with heap := h' }) : wpAny (model prog w) A (Builtin.SmallTypes.nextOf (.ref it)) Q E s := by
 obtain ⟨o, ho, hc, hd⟩ := id hit
 obtain ⟨ol, hol, _, nl, hdl⟩ := ht
 unfold Builtin.SmallTypes.nextOf
 refine wpAny_bind (wpAny_callSpecial?_slot (name := Str.ofString "__next__") hit.typeIs F.slot_tuple_iterator_next
  (wpAny_call_entry F.slot_tuple_iterator_next hit.typeIs F.entry_tuple_iterator_next ?_ (F.args_tuple_iterator_next_1 _)))
 show wpAny _ _ (field (.ref it) 0 >>= _) _ _ s
 refine wpAny_bind (wpAny_field ho hd (x := .ref t) rfl ?_)
 show wpAny _ _ (if (Value.ref t == Value.none) = true then _ else _) _ _ s
 rw [if_neg (show ¬ ((Value.ref t == Value.none) = true) from Bool.false_ne_true)]
 show wpAny _ _ (field (.ref it) 1 >>= _) _ _ s
 refine wpAny_bind (wpAny_field ho hd (x := .int i 0) rfl ?_)
 show wpAny _ _ (seqItems? (.ref t) >>= _) _ _ s
 refine wpAny_bind (wpAny_seqItems hol hdl ?_)
 simp only [Int.toNat_natCast, hx]
 refine wpAny_bind (wpAny_rule (wpAny_bind (wpAny_setField ho hd (by simp) ?_)))
 show wpAny _ _ (newExc (.type "StopIteration") [] >>= _) _ _ _
 refine wpAny_bind ?_
 simp only [newExc, newTuple]
 refine wpAny_bind (wpAny_newObj_type ?_ (by size_fits))
 refine wpAny_bind (m := firstArgMember _ _) (wpAny_of_eq (a := Value.none) (by first | rfl | (simp only [firstArgMember]; rfl)) ?_)
 refine wpAny_newObj_type ?_ (by size_fits)
 simp only [raiseNew]
 refine wpAny_bind (wpAny_handled ?_)
 first | rw [show A.in1.handled = none from hh] | rw [hh]
 refine wpAny_bind (wpAny_pure (wpAny_throw ?_))
 exact hE _ _ (((Heap.SameBut.update ..).extBut.push _).push _) ⟨_, Heap.get?_push_size _ rfl, rfl⟩
theorem d8o {b : Bool} {it l : Addr} {i : Nat} {items : Array Value} {x : Value} {Q : Value -> Shared -> Prop} (hit : ItB b s.heap it l i) (hl : SqB b s.heap l items) (hx : items[i]? = some x)
  (hQ : ∀ h', ItB b h' it l (i + 1) -> Heap.SameBut it s.heap h' -> Q x { s with heap := h' }) : wpAny (model prog w) A (Builtin.SmallTypes.nextOf (.ref it)) Q E s := by
 cases b with
 | true => exact wpAny_nextOf_list_item hit hl hx hQ
 | false => exact d8n hit hl hx hQ
theorem g4a {b : Bool} {it l : Addr} {i : Nat} {items : Array Value} {Q : Value -> Shared -> Prop} (hh : A.handled = none) (hit : ItB b s.heap it l i) (hl : SqB b s.heap l items) (hx : items[i]? = none)
  (hE : ∀ h' e, Heap.ExtBut it s.heap h' → (∃ o, h'.get? e = some o ∧ o.cls = .type "StopIteration") → E (.ref e) { s with heap := h' }) : wpAny (model prog w) A (Builtin.SmallTypes.nextOf (.ref it)) Q E s := by
 cases b with
 | true => exact wpAny_nextOf_list_end hh hit hl hx hE
 | false => exact f2p hh hit hl hx hE
noncomputable def itO (b : Bool) (l : Addr) : Obj := { cls := .type (cond b "list_iterator" "tuple_iterator"), data := .fields #[.ref l, .int 0 0] }
theorem h0l {b : Bool} {l : Addr} {items : Array Value} {Q : Value -> Shared -> Prop} (hl : SqB b s.heap l items) (hQ : Q (.ref s.heap.objs.size) { s with heap := s.heap.push (itO b l) }) : wpAny (model prog w) A (pyIter (.ref l)) Q E s := by
 cases b with
 | true => exact wpAny_pyIter_list hl hQ
 | false => exact wpAny_pyIter_tuple hl hQ
theorem f7s {b1 b2 : Bool} {z TI TO i1 i2 l1 l2 : Addr} {k : Nat} {xs ys : Array Value} {x y a b : Value} {Q : Option Value -> Shared -> Prop} (D : ZipApart z TI TO i1 i2 l1 l2)
  (hz : IsZip s.heap z TI TO .none) (hTI : IsPair s.heap TI (.ref i1) (.ref i2)) (hTO : IsPair s.heap TO a b)
  (h1 : ItB b1 s.heap i1 l1 k) (h2 : ItB b2 s.heap i2 l2 k) (hl1 : SqB b1 s.heap l1 xs) (hl2 : SqB b2 s.heap l2 ys) (hx : xs[k]? = some x) (hy : ys[k]? = some y)
  (hQ : ∀ h', IsZip h' z TI TO (rawInt s.heap.objs.size) -> IsPair h' TO x y -> ItB b1 h' i1 l1 (k + 1) -> ItB b2 h' i2 l2 (k + 1) -> IsPair h' s.heap.objs.size x y ->
   (∀ c o, c ≠ z -> c ≠ TO -> c ≠ i1 -> c ≠ i2 -> s.heap.get? c = some o -> h'.get? c = some o) -> Q (some (.ref s.heap.objs.size)) { s with heap := h' }) :
  wpAny (model prog w) A (pyNext (.ref z)) Q E s := by
 have hT : s.TypeIs (.ref z) "zip" := ⟨_, hz, rfl⟩
 unfold pyNext
 refine wpAny_bind (wpAny_attempt (wpAny_callSpecial?_slot (name := Str.ofString "__next__") hT F.slot_zip_next (wpAny_call_entry F.slot_zip_next hT F.entry_zip_next ?_ (F.args_zip_next_1 _))))
 show wpAny _ _ (field (.ref z) 2 >>= _) _ _ _
 refine wpAny_bind (wpAny_field hz rfl (x := .bool false) rfl ?_)
 show wpAny _ _ (field (.ref z) 3 >>= _) _ _ _
 refine wpAny_bind (wpAny_field hz rfl (x := .ref TI) rfl ?_)
 refine wpAny_bind (wpAny_seqItems hTI rfl ?_)
 show wpAny _ _ (Builtin.SmallTypes.ownedTupleIsFree (.ref z) >>= _) _ _ _
 refine wpAny_bind ?_
 unfold Builtin.SmallTypes.ownedTupleIsFree
 refine wpAny_bind (wpAny_field hz rfl (x := .none) rfl (wpAny_pure ?_))
 simp only [if_true]
 refine wpAny_bind (wpAny_rule ?_)
 refine wpAny_bind (wpAny_field hz rfl (x := .ref TO) rfl ?_)
 refine wpAny_bind (wpAny_setField_rec hz (by simp) fun g1 hz1 s1 => ?_)
 replace hz1 : IsZip g1 z TI TO .ellipsis := hz1
 refine wpAny_bind ?_
 simp only [List.zipIdx_cons, List.zipIdx_nil, List.forIn_cons, List.forIn_nil]
 refine wpAny_bind (wpAny_bind (wpAny_onRaise ?_))
 show wpAny _ _ (Builtin.SmallTypes.nextOf (.ref i1) >>= _) _ _ _
 refine wpAny_bind (d8o (h1.at fun o e => s1.extBut _ _ D.i1z e) (hl1.at fun o e => s1.extBut _ _ D.l1z e) hx fun g2 h12 s2 => wpAny_pure ?_)
 have h0m : IsPair g2 TO a b := s2.extBut _ _ D.TOi1 (s1.extBut _ _ D.TOz hTO)
 refine wpAny_bind (wpAny_seqItems h0m rfl ?_)
 refine wpAny_bind (wpAny_updateSeq_pair h0m fun g3 hTO3 s3 => ?_)
 replace hTO3 : IsPair g3 TO x b := hTO3
 refine wpAny_bind (wpAny_letGo (wpAny_pure ?_))
 refine wpAny_bind (wpAny_bind (wpAny_onRaise ?_))
 show wpAny _ _ (Builtin.SmallTypes.nextOf (.ref i2) >>= _) _ _ _
 refine wpAny_bind (d8o (h2.at fun o e => s3.extBut _ _ D.TOi2.symm (s2.extBut _ _ D.i12.symm (s1.extBut _ _ D.i2z e))) (hl2.at fun o e => s3.extBut _ _ D.l2TO (s2.extBut _ _ D.l2i1 (s1.extBut _ _ D.l2z e))) hy fun g4 h24 s4 => wpAny_pure ?_)
 have h7b : IsPair g4 TO x b := s4.extBut _ _ D.TOi2 hTO3
 refine wpAny_bind (wpAny_seqItems h7b rfl ?_)
 refine wpAny_bind (wpAny_updateSeq_pair h7b fun g5 hTO5 s5 => ?_)
 replace hTO5 : IsPair g5 TO x y := hTO5
 refine wpAny_bind (wpAny_letGo (wpAny_pure (wpAny_pure ?_)))
 refine wpAny_bind (wpAny_seqItems hTO5 rfl ?_)
 refine wpAny_bind (wpAny_newTuple ?_)
 have hsz : g5.objs.size = s.heap.objs.size := by rw [s5.1, s4.1, s3.1, s2.1, s1.1]
 have hz5 : IsZip g5 z TI TO .ellipsis := s5.extBut _ _ D.TOz.symm (s4.extBut _ _ D.i2z.symm (s3.extBut _ _ D.TOz.symm (s2.extBut _ _ D.i1z.symm hz1)))
 have h15 : ItB b1 g5 i1 l1 (k + 1) := h12.at fun o e => s5.extBut _ _ D.TOi1.symm (s4.extBut _ _ D.i12 (s3.extBut _ _ D.TOi1.symm e))
 have h25 : ItB b2 g5 i2 l2 (k + 1) := h24.at fun o e => s5.extBut _ _ D.TOi2.symm e
 have hzlt : z < g5.objs.size := Heap.lt_size hz5
 show wpAny _ _ (Builtin.SmallTypes.ownedTupleHandOut (.ref z) (.ref g5.objs.size) >>= _) _ _ _
 refine wpAny_bind ?_
 unfold Builtin.SmallTypes.ownedTupleHandOut
 have hz6 : IsZip (g5.push { cls := .type "tuple", data := .seq #[x, y] }) z TI TO .ellipsis := Heap.get?_push_of_some _ hz5
 refine wpAny_bind (wpAny_setField_rec hz6 (by simp) fun g7 hz7 s7 => ?_)
 replace hz7 : IsZip g7 z TI TO (rawInt g5.objs.size) := hz7
 refine wpAny_setField_rec hz7 (by simp) fun g8 hz8 s8 => ?_
 replace hz8 : IsZip g8 z TI TO (rawInt g5.objs.size) := hz8
 have up : ∀ c o, c ≠ z -> g5.get? c = some o -> g8.get? c = some o := fun c o c1 e => s8.extBut _ _ c1 (s7.extBut _ _ c1 (Heap.get?_push_of_some _ e))
 have hT8 : IsPair g8 g5.objs.size x y := s8.extBut _ _ (Nat.ne_of_gt hzlt) (s7.extBut _ _ (Nat.ne_of_gt hzlt) (Heap.get?_push_size _ rfl))
 rw [hsz] at hz8 hT8
 refine wpAny_pure ⟨_, rfl, wpAny_pure ?_⟩
 show Q (some (.ref g5.objs.size)) _
 rw [hsz]
 exact hQ g8 hz8 (up _ _ D.TOz hTO5) (h15.at fun o e => up _ o D.i1z e) (h25.at fun o e => up _ o D.i2z e) hT8 fun c o c1 c2 c3 c4 e =>
  up c o c1 (s5.extBut _ _ c2 (s4.extBut _ _ c4 (s3.extBut _ _ c2 (s2.extBut _ _ c3 (s1.extBut _ _ c1 e)))))
theorem g1o {b1 b2 : Bool} {z TI TO i1 i2 l1 l2 : Addr} {k : Nat} {xs ys : Array Value} {a b : Value} {Q : Option Value -> Shared -> Prop} (hh : A.handled = none) (D : ZipApart z TI TO i1 i2 l1 l2)
  (hz : IsZip s.heap z TI TO .none) (hTI : IsPair s.heap TI (.ref i1) (.ref i2)) (hTO : IsPair s.heap TO a b)
  (h1 : ItB b1 s.heap i1 l1 k) (h2 : ItB b2 s.heap i2 l2 k) (hl1 : SqB b1 s.heap l1 xs) (hl2 : SqB b2 s.heap l2 ys) (hend : xs[k]? = none \/ ys[k]? = none)
  (hQ : ∀ h', (∀ c o, c ≠ z -> c ≠ TO -> c ≠ i1 -> c ≠ i2 -> s.heap.get? c = some o -> h'.get? c = some o) -> Q none { s with heap := h' }) : wpAny (model prog w) A (pyNext (.ref z)) Q E s := by
 have hT : s.TypeIs (.ref z) "zip" := ⟨_, hz, rfl⟩
 unfold pyNext
 have fin : ∀ (h' : Heap) (e : Addr), (∀ c o, c ≠ z → c ≠ TO → c ≠ i1 → c ≠ i2 → s.heap.get? c = some o → h'.get? c = some o) → (∃ o, h'.get? e = some o ∧ o.cls = .type "StopIteration") →
   wpAny (model prog w) A (isInstance (.ref e) (.type "StopIteration") >>= fun b => if b = true then pure none else throw (.ref e)) Q E { s with heap := h' } := fun h' e hk he => by
  obtain ⟨o, ho, hc⟩ := he
  refine wpAny_bind (wpAny_isInstance (T := "StopIteration") (b := true) ⟨o, ho, hc⟩ isSubtype_stop ?_)
  exact wpAny_pure (hQ _ hk)
 refine wpAny_bind (wpAny_attempt (wpAny_callSpecial?_slot (name := Str.ofString "__next__") hT F.slot_zip_next (wpAny_call_entry F.slot_zip_next hT F.entry_zip_next ?_ (F.args_zip_next_1 _))))
 show wpAny _ _ (field (.ref z) 2 >>= _) _ _ _
 refine wpAny_bind (wpAny_field hz rfl (x := .bool false) rfl ?_)
 show wpAny _ _ (field (.ref z) 3 >>= _) _ _ _
 refine wpAny_bind (wpAny_field hz rfl (x := .ref TI) rfl ?_)
 refine wpAny_bind (wpAny_seqItems hTI rfl ?_)
 show wpAny _ _ (Builtin.SmallTypes.ownedTupleIsFree (.ref z) >>= _) _ _ _
 refine wpAny_bind ?_
 unfold Builtin.SmallTypes.ownedTupleIsFree
 refine wpAny_bind (wpAny_field hz rfl (x := .none) rfl (wpAny_pure ?_))
 simp only [if_true]
 refine wpAny_bind (wpAny_rule ?_)
 refine wpAny_bind (wpAny_field hz rfl (x := .ref TO) rfl ?_)
 refine wpAny_bind (wpAny_setField_rec hz (by simp) fun g1 hz1 s1 => ?_)
 replace hz1 : IsZip g1 z TI TO .ellipsis := hz1
 refine wpAny_bind ?_
 simp only [List.zipIdx_cons, List.zipIdx_nil, List.forIn_cons, List.forIn_nil]
 refine wpAny_bind (wpAny_bind (wpAny_onRaise ?_))
 show wpAny _ _ (Builtin.SmallTypes.nextOf (.ref i1) >>= _) _ _ _
 cases hx : xs[k]? with
 | none =>
  refine wpAny_bind (g4a hh (h1.at fun o e => s1.extBut _ _ D.i1z e) (hl1.at fun o e => s1.extBut _ _ D.l1z e) hx fun g2 e s2 he => ?_)
  obtain ⟨oe, hoe, hce⟩ := he
  have hz2 : IsZip g2 z TI TO .ellipsis := s2 _ _ D.i1z.symm hz1
  have hez : e ≠ z := fun x => by subst x; rw [hz2] at hoe; cases hoe; simp at hce
  exact wpAny_setField_rec hz2 (by simp) fun g3 _ s3 => fin g3 e (fun c o c1 _ c3 _ x => s3.extBut _ _ c1 (s2 _ _ c3 (s1.extBut _ _ c1 x))) ⟨oe, s3.extBut _ _ hez hoe, hce⟩
 | some x =>
  have hy : ys[k]? = none := by
   rcases hend with h | h
   ·rw [hx] at h; cases h
   ·exact h
  refine wpAny_bind (d8o (h1.at fun o e => s1.extBut _ _ D.i1z e) (hl1.at fun o e => s1.extBut _ _ D.l1z e) hx fun g2 h12 s2 => wpAny_pure ?_)
  have h0m : IsPair g2 TO a b := s2.extBut _ _ D.TOi1 (s1.extBut _ _ D.TOz hTO)
  refine wpAny_bind (wpAny_seqItems h0m rfl ?_)
  refine wpAny_bind (wpAny_updateSeq_pair h0m fun g3 hTO3 s3 => ?_)
  refine wpAny_bind (wpAny_letGo (wpAny_pure ?_))
  refine wpAny_bind (wpAny_bind (wpAny_onRaise ?_))
  show wpAny _ _ (Builtin.SmallTypes.nextOf (.ref i2) >>= _) _ _ _
  refine wpAny_bind (g4a hh (h2.at fun o e => s3.extBut _ _ D.TOi2.symm (s2.extBut _ _ D.i12.symm (s1.extBut _ _ D.i2z e))) (hl2.at fun o e => s3.extBut _ _ D.l2TO (s2.extBut _ _ D.l2i1 (s1.extBut _ _ D.l2z e))) hy fun g4 e s4 he => ?_)
  obtain ⟨oe, hoe, hce⟩ := he
  have hz4 : IsZip g4 z TI TO .ellipsis := s4 _ _ D.i2z.symm (s3.extBut _ _ D.TOz.symm (s2.extBut _ _ D.i1z.symm hz1))
  have hez : e ≠ z := fun x => by subst x; rw [hz4] at hoe; cases hoe; simp at hce
  exact wpAny_setField_rec hz4 (by simp) fun g5 _ s5 => fin g5 e (fun c o c1 c2 c3 c4 x => s5.extBut _ _ c1 (s4 _ _ c4 (s3.extBut _ _ c2 (s2.extBut _ _ c3 (s1.extBut _ _ c1 x))))) ⟨oe, s5.extBut _ _ hez hoe, hce⟩
noncomputable abbrev zB1 (b1 : Bool) (h : Heap) (l1 : Addr) : Heap := h.push (itO b1 l1)
noncomputable abbrev zB2 (b1 b2 : Bool) (h : Heap) (l1 l2 : Addr) : Heap := (zB1 b1 h l1).push (itO b2 l2)
noncomputable abbrev zB3 (b1 b2 : Bool) (h : Heap) (l1 l2 : Addr) : Heap := (zB2 b1 b2 h l1 l2).push { cls := .type "tuple", data := .seq #[.ref h.objs.size, .ref (zB1 b1 h l1).objs.size] }
noncomputable abbrev zB4 (b1 b2 : Bool) (h : Heap) (l1 l2 : Addr) : Heap := (zB3 b1 b2 h l1 l2).push { cls := .type "tuple", data := .seq #[.none, .none] }
noncomputable abbrev zB5 (b1 b2 : Bool) (h : Heap) (l1 l2 : Addr) : Heap := (zB4 b1 b2 h l1 l2).push { cls := .type "zip", data := .fields #[.none, .bool false, .bool false, .ref (zB2 b1 b2 h l1 l2).objs.size, .ref (zB3 b1 b2 h l1 l2).objs.size] }
theorem f2q (b1 b2 : Bool) (l1 l2 : Addr) (xs ys : Array Value) :
  Meets (Builtin.«zip.__new__» ⟨[.type "zip", .ref l1, .ref l2], []⟩) (fun _ R s => SqB b1 s.heap l1 xs ∧ SqB b2 s.heap l2 ys ∧
   R (.ok (.ret (.ref (zB4 b1 b2 s.heap l1 l2).objs.size))) { s with heap := zB5 b1 b2 s.heap l1 l2 }) :=
 .of_wp fun prog w A R s h => by
  obtain ⟨hp, g, d, tk, os⟩ := s; obtain ⟨hl1, hl2, h⟩ := h
  have hsub := sub_zip
  have hL1 : SqB b1 (Shared.heap ⟨hp, g, d, tk, os⟩) l1 xs := hl1
  have hL2 : SqB b2 (Shared.heap ⟨hp.push (itO b1 l1), g, d, tk, os⟩) l2 ys := hl2.at fun o e => Heap.get?_push_of_some _ e
  wp_walk using h0l hL1, h0l hL2
  exact ⟨_, rfl, h⟩
theorem g1p {b1 b2 : Bool} {l1 l2 : Addr} {xs ys : Array Value} {Q : Value -> Shared -> Prop} (hl1 : SqB b1 s.heap l1 xs) (hl2 : SqB b2 s.heap l2 ys)
  (h : ∀ h', IsZip h' (s.heap.objs.size + 4) (s.heap.objs.size + 2) (s.heap.objs.size + 3) .none -> IsPair h' (s.heap.objs.size + 2) (.ref s.heap.objs.size) (.ref (s.heap.objs.size + 1)) ->
   IsPair h' (s.heap.objs.size + 3) .none .none -> ItB b1 h' s.heap.objs.size l1 0 -> ItB b2 h' (s.heap.objs.size + 1) l2 0 ->
   (∀ c o, s.heap.get? c = some o -> h'.get? c = some o) -> Q (.ref (s.heap.objs.size + 4)) { s with heap := h' }) :
  wpAny (model prog w) A (call (.type "zip") [.ref l1, .ref l2]) Q E s := by
 refine callType_new F.called_zip (by decide) (F.typeCall_zip_2 _ _) (F.newCall_zip_2 _ _) (fun obj => F.args_object_init_3 obj _ _) F.entry_zip_new
  (f2q b1 b2 l1 l2 xs ys) ⟨hl1, hl2, ?_⟩
 have z1 : (zB1 b1 s.heap l1).objs.size = s.heap.objs.size + 1 := Heap.size_push ..
 have z2 : (zB2 b1 b2 s.heap l1 l2).objs.size = s.heap.objs.size + 2 := by rw [Heap.size_push, z1]
 have z3 : (zB3 b1 b2 s.heap l1 l2).objs.size = s.heap.objs.size + 3 := by rw [Heap.size_push, z2]
 have z4 : (zB4 b1 b2 s.heap l1 l2).objs.size = s.heap.objs.size + 4 := by rw [Heap.size_push, z3]
 have g5 : (zB5 b1 b2 s.heap l1 l2).get? (zB4 b1 b2 s.heap l1 l2).objs.size = some _ := Heap.get?_push_size _ rfl
 have g4 : (zB5 b1 b2 s.heap l1 l2).get? (zB3 b1 b2 s.heap l1 l2).objs.size = some _ := Heap.get?_push_of_some _ (Heap.get?_push_size _ rfl)
 have g3 : (zB5 b1 b2 s.heap l1 l2).get? (zB2 b1 b2 s.heap l1 l2).objs.size = some _ := Heap.get?_push_of_some _ (Heap.get?_push_of_some _ (Heap.get?_push_size _ rfl))
 have g2 : (zB5 b1 b2 s.heap l1 l2).get? (zB1 b1 s.heap l1).objs.size = some (itO b2 l2) := Heap.get?_push_of_some _ (Heap.get?_push_of_some _ (Heap.get?_push_of_some _ (Heap.get?_push_size _ rfl)))
 have g1 : (zB5 b1 b2 s.heap l1 l2).get? s.heap.objs.size = some (itO b1 l1) := Heap.get?_push_of_some _ (Heap.get?_push_of_some _ (Heap.get?_push_of_some _ (Heap.get?_push_of_some _ (Heap.get?_push_size _ rfl))))
 show _ /\ _
 rw [z2, z3, z4] at g5
 rw [z1, z2] at g3
 rw [z3] at g4
 rw [z1] at g2
 rw [z4]
 exact ⟨⟨_, g5, rfl⟩, h _ g5 g3 g4 ⟨_, g1, rfl, rfl⟩ ⟨_, g2, rfl, rfl⟩ fun c o x =>
  Heap.get?_push_of_some _ (Heap.get?_push_of_some _ (Heap.get?_push_of_some _ (Heap.get?_push_of_some _ (Heap.get?_push_of_some _ x))))⟩
end
noncomputable def SqK (b : Bool) (K : PySem.W.Frag) (H : Hp) (l : Addr) (xs : List V) : Prop := match b with
 | true => SqL K H l xs
 | false => SqT K H l xs
theorem Inv.g7b {X : Cx} {pins : List (Addr × Obj)} {σ : St} {H : Hp} {s : Shared} {b : Bool} {l : Addr} {xs : List V} (I : Inv X pins σ H s) (h : SqK b X.K H l xs) : ∃ its : List Value, Vals xs its /\ SqB b s.heap l its.toArray /\ xs.length <= sizeLine := by
 cases b with
 | true =>
  obtain ⟨its, r, p, z⟩ := I.list h
  exact ⟨its, r, p.isList, z⟩
 | false =>
  obtain ⟨its, r, p, z⟩ := I.tuple h
  exact ⟨its, r, p, z⟩
theorem Inv.f0u {X : Cx} {pins : List (Addr × Obj)} {σ : St} {H : Hp} {s : Shared} {b : Bool} {l : Addr} {xs ys : List V} (I : Inv X pins σ H s) (h : SqK b X.K H l xs) (h' : SqK b X.K H l ys) : xs = ys := by
 cases b with
 | true => exact I.f0j h h'
 | false => exact I.f4w h h'
noncomputable def Itz (K : PySem.W.Frag) (b1 b2 : Bool) (l1 l2 : Addr) : It :=
 ⟨fun i H => ∃ xs ys x y, SqK b1 K H l1 xs /\ SqK b2 K H l2 ys /\ xs[i]? = some x /\ ys[i]? = some y,
  fun i H v H' => ∃ p x y, v = .ref p ∧ H p = none ∧ H' = upd H p (.tup [x, y]) ∧ (∀ xs, SqK b1 K H l1 xs → xs[i]? = some x) ∧ ∀ ys, SqK b2 K H l2 ys → ys[i]? = some y,
  fun i H => ∃ xs ys, SqK b1 K H l1 xs ∧ SqK b2 K H l2 ys ∧ (xs.length ≤ i ∨ ys.length ≤ i)⟩
theorem g1q {P : Program} {w : World} {K : PySem.W.Frag} {elts : List Expr} {kk : Nat} {tpos : Pos} {b1 b2 : Bool} {z TI TO i1 i2 l1 l2 : Addr} (D : ZipApart z TI TO i1 i2 l1 l2) :
  Turn P w K (.Tuple elts kk tpos) (Itz K b1 b2 l1 l2) [z, TI, TO, i1, i2] z (fun i h => IsZip h z TI TO .none /\ IsPair h TI (.ref i1) (.ref i2) /\ (∃ a b, IsPair h TO a b) /\ ItB b1 h i1 l1 i /\ ItB b2 h i2 l2 i) where
 mem := by simp
 obj := fun i h st b hb => by
  obtain ⟨hz, hTI, ⟨a, c, hTO⟩, ⟨o1, e1, _, d1⟩, ⟨o2, e2, _, d2⟩⟩ := st
  simp only [List.mem_cons, List.not_mem_nil, or_false] at hb
  rcases hb with rfl | rfl | rfl | rfl | rfl
  ·exact ⟨_, hz, fun v z => by cases z⟩
  ·exact ⟨_, hTI, fun v z => by cases z⟩
  ·exact ⟨_, hTO, fun v z => by cases z⟩
  ·exact ⟨_, e1, fun v z => by rw [d1] at z; cases z⟩
  ·exact ⟨_, e2, fun v z => by rw [d2] at z; cases z⟩
 keep := fun i h h' st k => by
  obtain ⟨hz, hTI, ⟨a, c, hTO⟩, h1, h2⟩ := st
  exact ⟨k z (by simp) _ hz, k TI (by simp) _ hTI, ⟨a, c, k TO (by simp) _ hTO⟩, h1.at fun o e => k i1 (by simp) o e, h2.at fun o e => k i2 (by simp) o e⟩
 item := by
  intro X hP hw hK hc i pins s σ H E I hf st hg
  subst hP hw hK
  obtain ⟨xs, ys, x, y, hq1, hq2, hx, hy⟩ := hg
  obtain ⟨us, r1, p1, _⟩ := I.g7b hq1
  obtain ⟨ws, r2, p2, _⟩ := I.g7b hq2
  obtain ⟨u, hu, ru⟩ := r1.get hx
  obtain ⟨v, hv, rv⟩ := r2.get hy
  obtain ⟨hz, hTI, ⟨a, b, hTO⟩, h1, h2⟩ := st
  refine f7s D hz hTI hTO h1 h2 p1 p2 (x := u) (y := v) (by simpa using hu) (by simpa using hv) fun h' z' TO' h1' h2' pT kk' => ?_
  refine ⟨.ref s.heap.objs.size, rfl, wpAny_letOwnedTupleGo_zip (s := { s with heap := h' }) z' fun h'' z'' sb => ?_⟩
  replace sb : Heap.SameBut z h' h'' := sb
  have k2 : ∀ c o, c ∉ [z, TI, TO, i1, i2] -> s.heap.get? c = some o -> h''.get? c = some o := fun c o hc e => by
   simp only [List.mem_cons, List.not_mem_nil, or_false, not_or] at hc
   exact sb.extBut _ _ hc.1 (kk' c o hc.1 hc.2.2.1 hc.2.2.2.1 hc.2.2.2.2 e)
  have I1 : Inv X pins σ H { s with heap := h'' } := I.f7r (t' := s.toks) k2 hf
  have zlt : z < s.heap.objs.size := Heap.lt_size hz
  have pT2 : IsPair h'' s.heap.objs.size u v := sb.extBut _ _ (Nat.ne_of_gt zlt) pT
  have fo := I.g6z (b := s.heap.objs.size) (Nat.le_refl _) (I.hok.fresh (Nat.le_refl _))
  have nT : H s.heap.objs.size = none := I.hok.fresh (Nat.le_refl _)
  have I2 : Inv X pins σ (upd H s.heap.objs.size (.tup [x, y])) { s with heap := h'' } := by
   refine I1.track ?_ fo.2.1 fo.2.2.2.2.1 fo.2.2.2.2.2 nT ⟨two_line, [u, v], .cons ru (.cons rv .nil), ⟨_, pT2, rfl, 0, rfl⟩⟩
   cases q : X.s₀.heap.get? s.heap.objs.size with
   | none => rfl
   | some o => exact absurd (Nat.lt_of_lt_of_le (Heap.lt_size q) I.sz) (Nat.lt_irrefl _)
  have ne : ∀ b ∈ [z, TI, TO, i1, i2], b ≠ s.heap.objs.size := fun b hb e => by
   have lt : b < s.heap.objs.size := by
    simp only [List.mem_cons, List.not_mem_nil, or_false] at hb
    rcases hb with rfl | rfl | rfl | rfl | rfl
    ·exact zlt
    ·exact Heap.lt_size hTI
    ·exact Heap.lt_size hTO
    ·obtain ⟨_, e, _⟩ := h1; exact Heap.lt_size e
    ·obtain ⟨_, e, _⟩ := h2; exact Heap.lt_size e
   exact Nat.ne_of_lt lt e
  refine ⟨.ref s.heap.objs.size, _, I2, rfl, ⟨_, x, y, rfl, nT, rfl, fun xs' h => by rw [I.f0u h hq1]; exact hx, fun ys' h => by rw [I.f0u h hq2]; exact hy⟩,
   ⟨z'', sb.extBut _ _ D.TIz (kk' _ _ D.TIz D.TITO D.TIi1 D.TIi2 hTI), ⟨_, _, sb.extBut _ _ D.TOz TO'⟩, h1'.at fun o e => sb.extBut _ _ D.i1z e, h2'.at fun o e => sb.extBut _ _ D.i2z e⟩, fun b hb => by rw [a2u (ne b hb)]; exact (hf b hb).1⟩
 done := by
  intro X hP hw hK hc i pins s σ H E I hf st hg
  subst hP hw hK
  obtain ⟨xs, ys, hq1, hq2, hle⟩ := hg
  obtain ⟨us, r1, p1, _⟩ := I.g7b hq1
  obtain ⟨ws, r2, p2, _⟩ := I.g7b hq2
  obtain ⟨hz, hTI, ⟨a, b, hTO⟩, h1, h2⟩ := st
  have l1' := r1.length
  have l2' := r2.length
  refine g1o (I.ok.hd hc) D hz hTI hTO h1 h2 p1 p2 (by rcases hle with h | h <;> simp <;> omega) fun h' kk' => ⟨rfl, I.f7r (t' := s.toks) (fun c o hc e => ?_) hf⟩
  simp only [List.mem_cons, List.not_mem_nil, or_false, not_or] at hc
  exact kk' c o hc.1 hc.2.2.1 hc.2.2.2.1 hc.2.2.2.2 e
 self := fun _ _ _ _ _ st h => wpAny_pyIter_zip st.1 h
noncomputable def h0n (K : PySem.W.Frag) (ta : TA) : TI := fun σ H R => ta σ H fun vs H1 => match vs with
 | [.ref l1, .ref l2] => (match H1 l1, H1 l2 with
  | some (.lst _), some (.lst _) => R (Itz K true true l1 l2) H1
  | some (.lst _), some (.tup _) => R (Itz K true false l1 l2) H1
  | some (.tup _), some (.lst _) => R (Itz K false true l1 l2) H1
  | some (.tup _), some (.tup _) => R (Itz K false false l1 l2) H1
  | _, _ => False)
 | _ => False
theorem h0o {X : Cx} {elts : List Expr} {kk : Nat} {tpos : Pos} {a b : Expr} {ta : TA} {p pos : Pos} (hg : Gl X "zip") (hm : X.mg "zip" = none) (ha : PA X [a, b] ta) (hs : starEach [a, b] X.env = [(false, eval a X.env), (false, eval b X.env)] := by rfl) (hs2 : starEach [b] X.env = [(false, eval b X.env)] := by rfl) :
  PI X (.Tuple elts kk tpos) (.Call (.Name "zip" p) [a, b] [] pos) (h0n X.K ta) := by
 intro pins s σ H R I h
 refine Call_ (d1j I hg hm boot_zip (PyProof.Rows.callWith_type1 (thn (ha pos pins s σ H _ I h) fun us s1 ⟨vs, H1, I1, r1, q1⟩ => ?_) (by rw [hs, hs2]) (by rw [hs2]; rfl)))
 match vs, q1 with
 | [.ref l1, .ref l2], q1 =>
  obtain ⟨u, u', e0, e, e'⟩ := r1.two
  cases e
  cases e'
  subst e0
  have q : ∃ (b1 b2 : Bool) (xs ys : List V), SqK b1 X.K H1 l1 xs /\ SqK b2 X.K H1 l2 ys /\ R (Itz X.K b1 b2 l1 l2) H1 := by
   have q1' : (match H1 l1, H1 l2 with
    | some (.lst _), some (.lst _) => R (Itz X.K true true l1 l2) H1
    | some (.lst _), some (.tup _) => R (Itz X.K true false l1 l2) H1
    | some (.tup _), some (.lst _) => R (Itz X.K false true l1 l2) H1
    | some (.tup _), some (.tup _) => R (Itz X.K false false l1 l2) H1
    | _, _ => False) := q1
   split at q1'
   ·rename_i e1 e2
    exact ⟨true, true, _, _, SqL.of e1, SqL.of e2, q1'⟩
   ·rename_i e1 e2
    exact ⟨true, false, _, _, SqL.of e1, SqT.of e2, q1'⟩
   ·rename_i e1 e2
    exact ⟨false, true, _, _, SqT.of e1, SqL.of e2, q1'⟩
   ·rename_i e1 e2
    exact ⟨false, false, _, _, SqT.of e1, SqT.of e2, q1'⟩
   ·exact q1'.elim
  obtain ⟨b1, b2, xs, ys, hq1, hq2, q⟩ := q
  obtain ⟨us, rr1, p1, _⟩ := I1.g7b hq1
  obtain ⟨ws, rr2, p2, _⟩ := I1.g7b hq2
  have L1 : l1 < s1.heap.objs.size := by obtain ⟨_, e, _⟩ := p1; exact Heap.lt_size e
  have L2 : l2 < s1.heap.objs.size := by obtain ⟨_, e, _⟩ := p2; exact Heap.lt_size e
  refine g1p p1 p2 fun h' hz hTI hTO h1 h2 hk => ?_
  refine wpAny_pyIter_zip (s := { s1 with heap := h' }) hz ?_
  have D : ZipApart (s1.heap.objs.size + 4) (s1.heap.objs.size + 2) (s1.heap.objs.size + 3) s1.heap.objs.size (s1.heap.objs.size + 1) l1 l2 := by
   generalize s1.heap.objs.size = n at L1 L2
   replace L1 : Nat.lt l1 n := L1
   replace L2 : Nat.lt l2 n := L2
   constructor <;> (intro e; have : (n : Nat) = n := rfl; simp only [Nat.lt_eq] at L1 L2; first | (have e' : (_ : Nat) = _ := e; omega))
  refine ⟨_, [s1.heap.objs.size + 4, s1.heap.objs.size + 2, s1.heap.objs.size + 3, s1.heap.objs.size, s1.heap.objs.size + 1], _, _, H1, rfl, I1.kept (t' := s1.toks) hk, g1q D, ⟨hz, hTI, ⟨_, _, hTO⟩, h1, h2⟩, fun b hb => ?_, q⟩
  have hb' : s1.heap.objs.size <= b := by
   simp only [List.mem_cons, List.not_mem_nil, or_false] at hb
   rcases hb with rfl | rfl | rfl | rfl | rfl
   ·exact Nat.le_add_right _ _
   ·exact Nat.le_add_right _ _
   ·exact Nat.le_add_right _ _
   ·exact Nat.le_refl _
   ·exact Nat.le_add_right _ _
  exact I1.g6z hb' (I1.hok.fresh hb')
theorem g1r {K : PySem.W.Frag} {b1 b2 : Bool} {l1 l2 : Addr} {xs ys : List V} {g : TG} {tb : TS} {D : Ends} {σ : St} {H : Hp} (Pv : Nat -> St -> Hp -> Prop) (h0 : Pv 0 σ H) (hl : ∀ i σ H, Pv i σ H -> SqK b1 K H l1 xs /\ SqK b2 K H l2 ys)
  (hs : ∀ i x y σ H p H', xs[i]? = some x -> ys[i]? = some y -> Pv i σ H -> H p = none -> Same H H' -> H' p = some (.tup [x, y]) -> g (.ref p) σ H' fun σ2 H2 => tb { D with nx := Pv (i + 1), ct := Pv (i + 1), bk := D.nx } σ2 H2)
  (hd : ∀ σ H, Pv (min xs.length ys.length) σ H -> D.nx σ H) : g8v (Itz K b1 b2 l1 l2) g tb D σ H := by
 refine ⟨fun i m σ H => m = min xs.length ys.length - i /\ i <= min xs.length ys.length /\ Pv i σ H, ⟨min xs.length ys.length, by simp, Nat.zero_le _, h0⟩, ?_⟩
 rintro i m σ H ⟨rfl, hi, p⟩
 obtain ⟨e1, e2⟩ := hl i σ H p
 by_cases hlt : i < min xs.length ys.length
 ·have hx : xs[i]? = some (xs[i]'(by omega)) := List.getElem?_eq_getElem _
  have hy : ys[i]? = some (ys[i]'(by omega)) := List.getElem?_eq_getElem _
  refine .inr ⟨⟨xs, ys, _, _, e1, e2, hx, hy⟩, Pv (i + 1), fun σ' H' p' => ⟨min xs.length ys.length - (i + 1), by omega, rfl, hlt, p'⟩, fun v H' y => ?_⟩
  obtain ⟨q, x, y, rfl, nq, rfl, k1, k2⟩ := y
  exact hs i x y σ H q _ (k1 _ e1) (k2 _ e2) p nq (Same.upd nq) a6g
 ·have e : i = min xs.length ys.length := by omega
  subst e
  exact .inl ⟨⟨xs, ys, e1, e2, by omega⟩, hd σ H p⟩
end L2
namespace L2
open PySem PySem.Spec PyProof.Rows
noncomputable def h4h (X : Cx) (scope : Scope) (cl : List (Str × Addr)) (C : Addr) (s₃ : Shared) (H₃ : Hp) (fp : List Addr) (x y : Str) : Cx where
 prog := X.prog
 w := X.w
 K := X.K
 mg := X.mg
 base := X.base
 A := X.A
 N := x :: y :: X.N
 s₀ := s₃
 H₀ := H₃
 env := compEnvC scope cl C X.env
 outer := X.stack
 stack := X.stack
 ex := fp
 fn := fun _ => false
 calm := X.calm
 pn := []
 xe := fun _ _ => False
structure g7c (X : Cx) (scope : Scope) (x y : Str) : Prop where
 kind : scope.kind = .function
 f0p : ∀ y ∈ scope.names, y.2 ≠ .cell
 loc : ∀ y ∈ scope.names, y.2 = .local -> scope.names.lookup y.1 = some .local
 own : scope.names.lookup x = some .local
 own2 : scope.names.lookup y = some .local
 free : ∀ y ∈ scope.names, y.2 = .free -> X.env.kindOf y.1 = some .cell \/ X.env.kindOf y.1 = some .free
 nd : (x :: y :: X.N).Nodup
 vis : ∀ y ∈ X.N, scope.names.lookup y ≠ some .local
noncomputable def h0p (J : It) (te : TE) (D : Addr) (σ : St) (H : Hp) (Q : VK) (_ : Tag Q) : Prop := ∃ (n : Nat) (W : Nat -> List V -> Hp -> Prop), W 0 [] H /\ ∀ i ys H, i <= n -> W i ys H -> H D = some (.lst ys) /\
 ((J.stop i H /\ Q (.ref D) H) \/ (i < n /\ J.go i H /\ ys.length < sizeLine /\ ∀ x H', J.yld i H x H' -> ∃ p u v, x = .ref p /\ H' p = some (.tup [u, v]) /\ te (some u :: some v :: σ) H' fun y H2 => H2 D = some (.lst ys) /\
  ∀ H3, a6y D H2 H3 -> H3 D = some (.lst (ys ++ [y])) -> W (i + 1) (ys ++ [y]) H3))
noncomputable def h7c (wi : TI) (te : TE) : TE := fun σ H Q => wi σ H fun J H1 => ∀ D H2, H1 D = none -> Same H1 H2 -> H2 D = some (.lst []) -> h0p J te D σ H2 Q ⟨⟩
section
variable {X : Cx} {scope : Scope} {x y : Str} {cl : List (Str × Addr)} {pins : List (Addr × Obj)} {σ : St} {H : Hp} {s s₄ : Shared} {fp : List Addr}
end
section
variable {X : Cx} {scope : Scope} {x y : Str} {pins : List (Addr × Obj)} {σ : St} {elt iter : Expr} {px py tpos pos : Pos} {kk : Nat} {wi : TI} {te : TE}
end
noncomputable def h4i (sc scope : Scope) (x y : Str) (N : List Str) : Bool :=
 (scope.kind == .function) && scope.names.all (fun y => y.2 != .cell) && scope.names.all (fun y => y.2 != .local || scope.names.lookup y.1 == some .local) && (scope.names.lookup x == some .local) && (scope.names.lookup y == some .local) &&
 scope.names.all (fun y => y.2 != .free || (sc.names.lookup y.1 == some .cell || sc.names.lookup y.1 == some .free)) && decide ((x :: y :: N).Nodup) && N.all (fun y => scope.names.lookup y != some .local)
end L2
namespace L2
open PySem PySem.Spec PyProof.Rows
noncomputable def iTupF (K : PySem.W.Frag) (tl : TE) : TI := fun σ H R => tl σ H fun x H1 => match x with
 | .ref a => (match H1 a with
  | some (.tup _) => R (Itt K a) H1
  | _ => False)
 | _ => False
noncomputable def rSlG : V -> Option Int -> Option Int -> Hp -> VK -> Prop := fun x lo hi H Q => match x with
 | .ref a => (match H a with
  | some (.lst xs) => New H (.lst (d4z xs lo hi)) Q ⟨⟩
  | some (.tup xs) => ¬ (HT.sIx xs.length 0 lo = 0 /\ HT.sIx xs.length xs.length hi = xs.length) /\ New H (.tup (d4z xs lo hi)) Q ⟨⟩
  | _ => False)
 | _ => False
end L2
namespace L2
open PySem PySem.Spec PyProof.Rows
section
variable {prog : Program} {w : World} {A : Around} {E : Value -> Shared -> Prop} {s : Shared}
end
section
variable {prog : Program} {w : World} {A : Around} {E : Value -> Shared -> Prop} {s : Shared}
end
noncomputable def Ite (K : PySem.W.Frag) (l : Addr) (n : Int) : It :=
 ⟨fun i H => ∃ xs x, SqL K H l xs /\ xs[i]? = some x,
  fun i H v H' => ∃ p x, v = .ref p ∧ H p = none ∧ H' = upd H p (.tup [.int (n + (i : Int)), x]) ∧ ∀ xs, SqL K H l xs → xs[i]? = some x,
  fun i H => ∃ xs, SqL K H l xs ∧ xs.length ≤ i⟩
end L2
namespace L2
open PySem PySem.Spec PyProof.Rows
section
variable {M : Model} {A : Around} {E : Value -> Shared -> Prop} {s : Shared} {env : Env}
end
noncomputable def h7d (K : PySem.W.Frag) (t tk : TA) : TI := fun σ H R => t σ H fun vs H1 => tk σ H1 fun zs H2 => match vs, zs with
 | [.ref l], [.int n] => (match H2 l with
  | some (.lst _) => -(2 ^ 62) <= n /\ n < 2 ^ 62 /\ R (Ite K l n) H2
  | _ => False)
 | _, _ => False
end L2
namespace L2
open PySem PySem.Spec PyProof.Rows
noncomputable def tBM0F (chk : V -> Hp -> Bool) (r : V -> List V -> Hp -> VK -> Prop) (to : TE) : TE := fun σ H Q => to σ H fun x H1 => chk x H1 = true /\ r x [] H1 Q
section
variable {X : Cx} {o : Expr} {to : TE} {name : Str} {apos cpos : Pos} {T id : String} {r : V -> List V -> Hp -> VK -> Prop} {chk : V -> Hp -> Bool}
noncomputable def rClrF : V -> List V -> Hp -> VK -> Prop := fun x vs H Q => match x, vs with
 | .ref l, [] => (match H l with
  | some (.lst _) => All (fun v H1 => v = .non /\ a6y l H H1 /\ H1 l = some (.lst [])) Q ⟨⟩ ⟨⟩
  | _ => False)
 | _, _ => False
noncomputable def h7e : V -> List V -> Hp -> VK -> Prop := fun x vs H Q => match x, vs with
 | .str z, [.ref l] => (match H l with
  | some (.lst xs) => ∃ ys : List Str, xs = ys.map V.str /\ JoinOk z ys = true /\ Q (.str (Txt.join z ys)) H
  | _ => False)
 | _, _ => False
end
end L2
namespace L2
open PySem PySem.Spec PyProof.Rows
structure h4j (K : PySem.W.Frag) (w : World) (d : Addr) : Prop where
 lk : ∃ es n, K.lookup d = some ⟨.type "dict", none, .dict es n, #[]⟩ ∧ PySem.W.KeysLit w.params es.toList
 ns : (d == sysModules) = false
noncomputable def h7f (K : PySem.W.Frag) (w : World) (neg : Bool) : R2 := fun x y H Q => match x, y with
 | .str z, .ref d => h4j K w d /\ ∃ r, PySem.W.nsIn K d z = some r /\ Q (.bl (r.isSome != neg)) H
 | _, _ => False
section
variable {X : Cx}
theorem f7t {K : PySem.W.Frag} {w : World} (eK : X.K = K) (eW : X.w = w) : OpR X (compareOp .NotIn) (h7f K w true) := by
 subst eK eW
 intro pins s σ H x y v u Q I rx ry h
 match x, y, h with
 | .str z, .ref d, ⟨⟨⟨es, n, hl, hk⟩, hn⟩, r, e, q⟩ =>
  obtain ⟨t, rfl⟩ := rx
  cases ry
  refine wpAny_notIn_of (PySem.strKind_is X.prog X.w z t) hn (PySem.W.mapOf_K (prog := X.prog) I.kIn hl (hk)) ?_
  rw [PySem.W.find_K hl e]
  rw [Bool.bne_true] at q
  exact ⟨.bl (!r.isSome), H, I.tok _, rfl, q⟩
noncomputable def h7g (K : PySem.W.Frag) (w : World) : R2 := fun x y H Q => match x, y with
 | .ref d, .str z => h4j K w d /\ ∃ f, PySem.W.nsIn K d z = some (some (.ref f)) /\ Q (.ref f) H
 | _, _ => False
theorem h2z {K : PySem.W.Frag} {w : World} (eK : X.K = K) (eW : X.w = w) : IxR X (h7g K w) := by
 subst eK eW
 intro value slice pins s σ H x y v u Q I rx ry h hs
 match x, y, h with
 | .ref d, .str z, ⟨⟨⟨es, n, hl, hk⟩, hn⟩, f, e, q⟩ =>
  obtain ⟨t, rfl⟩ := ry
  cases rx
  have hm := PySem.W.mapOf_K (prog := X.prog) (w := X.w) I.kIn hl (hk)
  exact tail_any hm.typeIs slot_dict_getitem.lookup (wpAny_getItem_of (PySem.strKind_is X.prog X.w z t) hm (PySem.W.find_K hl e) ⟨.ref f, H, I.tok _, rfl, q⟩) hs
noncomputable def g4b (f : Addr) (sp : Sp) (dvs : List V) (E : XK) (tg : TE) (t : TA) : TE := fun σ H Q => tg σ H fun x H1 => x = .ref f /\ g4w sp dvs E t σ H1 Q
theorem c7k {CX : CXT} {k : Nat} {f : Addr} {fd : FuncData} {ps : List Str} {sp : Sp} {ds : List Value} {dvs : List V} {E : XK} {g e : Expr} {es : List Expr} {tg : TE} {t : TA} {pos : Pos} (F : a1n X.prog X.w X.K X.mg X.base CX k f fd ps sp) (hr : a2y k X.A) (hk : PySem.W.keepIn X.K (.ref f) = true) (hb : Binds X.K fd ps ds) (hd : Vals dvs ds) (hx : Passes CX X E)
  (hg : PE X g tg) (ha : PA X (e :: es) t) (he : starEach (e :: es) X.env = (false, eval e X.env) :: starEach es X.env := by rfl) (hpl : (backTo pos (starEach es X.env)).any (·.1) = false := by rfl)
  (hc : eval (.Call g (e :: es) [] pos) X.env = (do callWith pos (<- eval g X.env) [] (backTo pos (starEach (e :: es) X.env)) (backToKw pos (keywordEach [] X.env))) := by rfl) :
  PE X (.Call g (e :: es) [] pos) (g4b f sp dvs E tg t) := by
 intro pins s σ H Q I h
 refine Call_ (thn (hg pins s σ H _ I h) fun v s1 ⟨x, H1, I1, r1, ex, q1⟩ => ?_) hc
 subst ex
 cases r1
 refine PySem.W.callWith_K (h₀ := X.base) I1.ok.mod.kin hk (thn (ha pos pins s1 σ H1 _ I1 q1) fun us s2 ⟨vs, H2, I2, r, q⟩ => ⟨I2.kIn, ?_⟩) he hpl
 exact f0l F hr hb hd hx I2 r q
theorem SP.h4k {pins : List (Addr × Obj)} {D : Ends} {f : Flow} {s : Shared} (h : SP X.nox pins D f s) : SP X pins D f s := by
 cases f with
 | next => obtain ⟨a, b, c, d⟩ := h; exact ⟨a, b, c.b4h, d⟩
 | brk => obtain ⟨a, b, c, d⟩ := h; exact ⟨a, b, c.b4h, d⟩
 | cont => obtain ⟨a, b, c, d⟩ := h; exact ⟨a, b, c.b4h, d⟩
 | ret u => obtain ⟨v, a, b, c, d⟩ := h; exact ⟨v, a, b, c.b4h, d⟩
theorem g5t {st : Stmt} {h₀ : ExceptHandler} {hs : List ExceptHandler} {tb : TS} {pos : Pos} (hb : PS X.nox st tb) : PS X (.Try [st] (h₀ :: hs) [] [] pos) tb := by
 intro pins s σ H Dn I h
 refine wpAny_Try_except (wpAny_execs_cons (wpAny_mono (hb pins s σ H Dn (I.wish _) h) (fun f s1 q => ?_) fun e s1 z => False.elim z))
 have q' := SP.h4k q
 cases f with
 | next => exact wpAny_execs_nil (wpAny_execs_nil q')
 | ret v => exact q'
 | brk => exact q'
 | cont => exact q'
end
end L2
namespace L2
open PySem PySem.Spec PyProof.Rows
theorem f0v {c : Nat} : ∀ {a a' b b' : List Nat}, a ++ c :: b = a' ++ c :: b' -> c ∉ a -> c ∉ a' -> a = a' /\ b = b'
 | [], [], _, _, h, _, _ => by simpa using h
 | [], d :: a', _, _, h, _, h2 => by
  rw [List.nil_append, List.cons_append, List.cons.injEq] at h
  exact absurd (by rw [h.1]; exact List.mem_cons_self) h2
 | d :: a, [], _, _, h, h1, _ => by
  rw [List.nil_append, List.cons_append, List.cons.injEq] at h
  exact absurd (by rw [h.1]; exact List.mem_cons_self) h1
 | d :: a, d' :: a', _, _, h, h1, h2 => by
  rw [List.cons_append, List.cons_append, List.cons.injEq] at h
  obtain ⟨e1, e2⟩ := f0v h.2 (fun q => h1 (List.mem_cons_of_mem _ q)) (fun q => h2 (List.mem_cons_of_mem _ q))
  exact ⟨by rw [h.1, e1], e2⟩
theorem a8u (c : Nat) (p q : Str) (r : List Str) : sg (Str.join ⟨#[c]⟩ (p :: q :: r)) = sg p ++ c :: sg (Str.join ⟨#[c]⟩ (q :: r)) := by
 show sg (p ++ ⟨#[c]⟩ ++ Str.join ⟨#[c]⟩ (q :: r)) = _
 rw [a2i, a2i, List.append_assoc]
 rfl
theorem d5y {c : Nat} : ∀ {ps qs : List Str}, ps ≠ [] -> qs ≠ [] -> (∀ p ∈ ps, c ∉ sg p) -> (∀ q ∈ qs, c ∉ sg q) -> sg (Str.join ⟨#[c]⟩ ps) = sg (Str.join ⟨#[c]⟩ qs) -> ps = qs
 | [], _, h, _, _, _, _ => absurd rfl h
 | _ :: _, [], _, h, _, _, _ => absurd rfl h
 | [p], [q], _, _, _, _, e => by
  rw [b4i (show sg p = sg q from e)]
 | [p], q :: q' :: qs, _, _, fp, _, e => by
  rw [a8u] at e
  exact absurd (by rw [show sg p = _ from e]; simp) (fp p (List.mem_cons_self ..))
 | p :: p' :: ps, [q], _, _, _, fq, e => by
  rw [a8u] at e
  exact absurd (by rw [show sg q = _ from e.symm]; simp) (fq q (List.mem_cons_self ..))
 | p :: p' :: ps, q :: q' :: qs, _, _, fp, fq, e => by
  rw [a8u, a8u] at e
  obtain ⟨e1, e2⟩ := f0v e (fp p (List.mem_cons_self ..)) (fq q (List.mem_cons_self ..))
  rw [b4i e1, d5y (by simp) (by simp) (fun x hx => fp x (List.mem_cons_of_mem _ hx)) (fun x hx => fq x (List.mem_cons_of_mem _ hx)) e2]
theorem f7u (x y : Str) : b2y x y = Txt.split x y := rfl
theorem g1s (x y : Str) : Txt.split x y ≠ [] := by
 unfold Txt.split
 split
 ·simp
 ·split
  ·simp
  ·rw [StrLaws.partsBetween_eq]
   obtain ⟨p, r, e⟩ := StrLaws.partsFrom_ne x y.length 0 (Builtin.Str.occurrences x y 0 x.length (x.length + 1))
   rw [e]
   simp
theorem f2r {x : Str} {c : Nat} {ps : List Str} (hn : ps ≠ []) (hf : ∀ p ∈ ps, c ∉ sg p) (h : sg x = sg (Str.join ⟨#[c]⟩ ps)) : b2y x ⟨#[c]⟩ = ps := by
 rw [f7u]
 refine d5y (c := c) (g1s _ _) hn (fun p hp => StrLaws.split_free x c p hp) hf ?_
 rw [StrLaws.join_split, h]
end L2
namespace L2
open PySem PySem.Spec PyProof.Rows
noncomputable def b5g (t t' : TE) : TE := fun σ H Q => t σ H Q \/ t' σ H Q
theorem a4y {X : Cx} {e : Expr} {t t' : TE} (h : PE X e t) (h' : PE X e t') : PE X e (b5g t t') := fun pins s σ H Q I z => z.elim (h pins s σ H Q I) (h' pins s σ H Q I)
theorem g1t : ∀ (k n : Nat), n < 10 ^ (k + 1) -> (dg n).length <= k + 1
 | 0, n, h => by
  rw [d8l (by omega)]
  exact Nat.le_refl _
 | k + 1, n, h => by
  rcases Nat.lt_or_ge n 10 with z | z
  ·rw [d8l z, List.length_singleton]
   omega
  ·have e : n = 10 * (n / 10) + n % 10 := by omega
   rw [e, c7v (by omega) (by omega), List.length_append, List.length_singleton]
   have := g1t k (n / 10) (by rw [Nat.pow_succ] at h; omega)
   omega
open PySem.Builtin.Int (intBits)
noncomputable def fW (x : Rat) : Str := Str.empty ++ Str.ofString (toString x.num) ++ Str.ofString "/" ++ Str.ofString (toString (x.den : Int))
noncomputable def cW (c : Int × Rat) : Str := Str.empty ++ Str.ofString (toString c.1) ++ Str.ofString "=" ++ fW c.2
noncomputable def nW (n : Nat) : Str := Str.ofString (toString (n : Int))
noncomputable def YOk (y : Rat) : Prop := y.num.natAbs <= 1000 /\ y.den <= 1000
inductive Dt where
 | gain (y : Rat)
 | delay (n : Nat)
 | echo (y : Rat) (n t : Nat)
 | back (y : Rat) (n : Nat)
 | hall (y : Rat) (n : Nat)
 | swell (cs : List (Int × Rat))
noncomputable def Dt.kd : Dt -> Nat
 | .gain _ => 0
 | .delay _ => 1
 | .echo .. => 2
 | .back .. => 3
 | .hall .. => 4
 | .swell _ => 5
noncomputable def Dt.kind : Dt -> Str
 | .gain _ => Str.ofString "gain"
 | .delay _ => Str.ofString "delay"
 | .echo .. => Str.ofString "echo"
 | .back .. => Str.ofString "back"
 | .hall .. => Str.ofString "hall"
 | .swell _ => Str.ofString "swell"
noncomputable def Dt.vals : Dt -> List Str
 | .gain y => [fW y]
 | .delay n => [nW n]
 | .echo y n t => [fW y, nW n, nW t]
 | .back y n => [fW y, nW n]
 | .hall y n => [fW y, nW n]
 | .swell cs => [Str.join ⟨#[44]⟩ (cs.map cW)]
noncomputable def Dt.word (d : Dt) : Str := Str.join ⟨#[58]⟩ (d.kind :: d.vals)
noncomputable def h0q (cs : List (Int × Rat)) : Prop := (∀ c ∈ cs, 0 <= c.1 /\ c.1 <= 100000 /\ YOk c.2) /\ (∀ (i : Nat) c d, cs[i]? = some c -> cs[i + 1]? = some d -> c.1 < d.1) /\ 1 <= cs.length /\ cs.length <= 12
noncomputable def Dt.ok : Dt -> Prop
 | .gain y => YOk y
 | .delay n => n <= 1000
 | .echo y n t => YOk y /\ 1 <= n /\ n <= 1000 /\ t <= 16
 | .back y n => YOk y /\ 1 <= n /\ n <= 1000
 | .hall y n => YOk y /\ (y.num.natAbs : Int) < y.den /\ 1 <= n /\ n <= 1000
 | .swell cs => h0q cs
theorem d1p {t : Int} {n : Nat} (h : t.natAbs < 2 ^ n) (hn : 1 <= n) : t.natAbs.log2 < n := by
 rcases Nat.eq_zero_or_pos t.natAbs with z | z
 ·rw [z]
  show Nat.log2 0 < n
  have : Nat.log2 0 = 0 := by decide
  omega
 ·rw [Nat.log2_lt (by omega)]
  exact h
theorem c4w {t : Int} {n : Nat} (h : t.natAbs < 2 ^ n) (hn : 1 <= n) : (Str.ofString (toString t)).length <= n + 1 := by
 have e : (Str.ofString (toString t)).length = (txt t).length := by rw [<- b8y, c4h]
 have := d8m t
 have := d1p h hn
 omega
theorem f0w {n : Nat} (h : n < 2 ^ 20) : (nW n).length <= 21 := c4w (t := (n : Int)) (n := 20) (by omega) (by decide)
theorem YOk.b {y : Rat} (h : YOk y) : intBits y.num <= 10 /\ intBits (y.den : Int) <= 10 := ⟨intBits_le_iff.mpr (Nat.lt_of_le_of_lt h.1 (by decide)), intBits_le_iff.mpr (Nat.lt_of_le_of_lt (show (y.den : Int).natAbs <= 1000 from h.2) (by decide))⟩
theorem f0y {x : Rat} (h1 : intBits x.num <= 10) (h2 : intBits (x.den : Int) <= 10) : (fW x).length <= 23 := by
 have a := c4w (intBits_le_iff.mp h1) (by decide)
 have b := c4w (intBits_le_iff.mp h2) (by decide)
 have e0 : Str.empty.length = 0 := rfl
 have e1 : (Str.ofString "/").length = 1 := by decide +kernel
 unfold fW
 simp only [strLen_append, e0, e1]
 omega
theorem h0r {c : Int × Rat} (h0 : c.1.natAbs < 2 ^ 20) (h1 : intBits c.2.num <= 10) (h2 : intBits (c.2.den : Int) <= 10) : (cW c).length <= 45 := by
 have a := c4w h0 (by decide)
 have b := f0y h1 h2
 have e0 : Str.empty.length = 0 := rfl
 have e1 : (Str.ofString "=").length = 1 := by decide +kernel
 unfold cW
 simp only [strLen_append, e0, e1]
 omega
theorem g1u (n : Nat) : sg (nW n) = txt (n : Int) := c4h _
theorem h0s (y : Rat) : sg (fW y) = g3y y.num (y.den : Int) := by
 unfold fW g3y
 rw [a2i, a2i, a2i, c4h, c4h]
 have e4 : sg Str.empty = [] := rfl
 have e5 : sg (Str.ofString "/") = [47] := by decide +kernel
 rw [e4, e5]
 simp
theorem h4l (c : Int × Rat) : sg (cW c) = txt c.1 ++ 61 :: sg (fW c.2) := by
 unfold cW
 rw [a2i, a2i, a2i, c4h]
 have e4 : sg Str.empty = [] := rfl
 have e5 : sg (Str.ofString "=") = [61] := by decide +kernel
 rw [e4, e5]
 simp
theorem g5u {y : Rat} (h : YOk y) : Good (sg (fW y)) y.num (y.den : Int) := by
 have dp := y.den_pos
 refine ⟨h0s y, by omega, y.reduced, ?_, ?_⟩
 ·exact g1t 8 _ (Nat.lt_of_le_of_lt h.1 (by decide))
 ·exact g1t 8 _ (Nat.lt_of_le_of_lt (show (y.den : Int).natAbs <= 1000 from h.2) (by decide))
theorem f7v {c : Nat} (h1 : c ≠ 45) (h2 : 57 < c) (y : Rat) : c ∉ sg (fW y) := by
 rw [h0s]
 unfold g3y
 intro h
 rcases List.mem_append.mp h with z | z
 ·exact d1o h1 (.inr h2) z
 ·rcases List.mem_cons.mp z with z | z
  ·omega
  ·exact d1o h1 (.inr h2) z
theorem f7w {c : Nat} (h1 : c ≠ 45) (h2 : c < 48 \/ 57 < c) (n : Nat) : c ∉ sg (nW n) := by
 rw [g1u]
 exact d1o h1 h2
theorem g5v (c : Int × Rat) : 58 ∉ sg (cW c) := by
 rw [h4l]
 intro h
 rcases List.mem_append.mp h with z | z
 ·exact d1o (by decide) (.inr (by decide)) z
 ·rcases List.mem_cons.mp z with z | z
  ·omega
  ·exact f7v (by decide) (by decide) _ z
theorem f7y {c k : Nat} (hk : c ≠ k) : ∀ {ps : List Str}, (∀ p ∈ ps, c ∉ sg p) -> c ∉ sg (Str.join ⟨#[k]⟩ ps)
 | [], _ => by
  show c ∉ ([] : List Nat)
  simp
 | [p], h => h p (List.mem_cons_self ..)
 | p :: q :: r, h => by
  rw [a8u]
  intro z
  rcases List.mem_append.mp z with z | z
  ·exact h p (List.mem_cons_self ..) z
  ·rcases List.mem_cons.mp z with z | z
   ·exact hk z
   ·exact f7y hk (fun x hx => h x (List.mem_cons_of_mem _ hx)) z
theorem d5z {b : Nat} : ∀ {l : List Nat}, (∀ x ∈ l, x <= b) -> l.sum <= l.length * b
 | [], _ => Nat.zero_le _
 | x :: l, h => by
  have i := d5z (l := l) fun y hy => h y (List.mem_cons_of_mem _ hy)
  have := h x (List.mem_cons_self ..)
  rw [List.sum_cons, List.length_cons, Nat.succ_mul]
  omega
theorem f0z {z : Str} {ps : List Str} {n : Nat} (h : ∀ p ∈ ps, p.length <= n) : (Str.join z ps).length <= ps.length * n + ps.length * z.length := by
 have a := StrLaws.join_length_le z ps
 have b := d5z (b := n) (l := ps.map (·.length)) fun x hx => by
  obtain ⟨y, hy, rfl⟩ := List.mem_map.mp hx
  exact h y hy
 rw [List.length_map] at b
 have c : (ps.length - 1) * z.length <= ps.length * z.length := Nat.mul_le_mul_right _ (Nat.sub_le _ _)
 omega
theorem h0q.len {cs : List (Int × Rat)} (h : h0q cs) : ∀ c ∈ cs, (cW c).length <= 45 := fun c hc => by
 obtain ⟨a, b, y⟩ := h.1 c hc
 exact h0r (by omega) y.b.1 y.b.2
theorem h0q.jlen {cs : List (Int × Rat)} (h : h0q cs) : (Str.join ⟨#[44]⟩ (cs.map cW)).length <= 600 := by
 have a := f0z (z := ⟨#[44]⟩) (ps := cs.map cW) (n := 45) fun p hp => by
  obtain ⟨c, hc, rfl⟩ := List.mem_map.mp hp
  exact h.len c hc
 rw [List.length_map, c7u] at a
 have := h.2.2.2
 omega
theorem Dt.free {d : Dt} : ∀ p ∈ d.kind :: d.vals, 58 ∉ sg p := by
 cases d <;> intro p hp <;> simp only [Dt.kind, Dt.vals, List.mem_cons, List.not_mem_nil, or_false] at hp
 case gain => rcases hp with rfl | rfl; decide +kernel; exact f7v (by decide) (by decide) _
 case delay => rcases hp with rfl | rfl; decide +kernel; exact f7w (by decide) (.inr (by decide)) _
 case echo => rcases hp with rfl | rfl | rfl | rfl; decide +kernel; exact f7v (by decide) (by decide) _; exact f7w (by decide) (.inr (by decide)) _; exact f7w (by decide) (.inr (by decide)) _
 case back => rcases hp with rfl | rfl | rfl; decide +kernel; exact f7v (by decide) (by decide) _; exact f7w (by decide) (.inr (by decide)) _
 case hall => rcases hp with rfl | rfl | rfl; decide +kernel; exact f7v (by decide) (by decide) _; exact f7w (by decide) (.inr (by decide)) _
 case swell cs =>
  rcases hp with rfl | rfl
  ·decide +kernel
  ·refine f7y (by decide) fun p hp => ?_
   obtain ⟨c, _, rfl⟩ := List.mem_map.mp hp
   exact g5v c
theorem Dt.vlen {d : Dt} (h : d.ok) : ∀ p ∈ d.kind :: d.vals, p.length <= 600 := by
 have k1 : (Str.ofString "gain").length = 4 := by decide +kernel
 have k2 : (Str.ofString "delay").length = 5 := by decide +kernel
 have k3 : (Str.ofString "echo").length = 4 := by decide +kernel
 have k4 : (Str.ofString "back").length = 4 := by decide +kernel
 have k5 : (Str.ofString "hall").length = 4 := by decide +kernel
 have k6 : (Str.ofString "swell").length = 5 := by decide +kernel
 have f : ∀ {y : Rat}, YOk y -> (fW y).length <= 600 := fun h => Nat.le_trans (f0y h.b.1 h.b.2) (by decide)
 have g : ∀ {n : Nat}, n <= 1000 -> (nW n).length <= 600 := fun h => Nat.le_trans (f0w (Nat.lt_of_le_of_lt h (by decide))) (by decide)
 cases d <;> intro p hp <;> simp only [Dt.kind, Dt.vals, List.mem_cons, List.not_mem_nil, or_false] at hp
 case gain => rcases hp with rfl | rfl; omega; exact f h
 case delay => rcases hp with rfl | rfl; omega; exact g h
 case echo => rcases hp with rfl | rfl | rfl | rfl; omega; exact f h.1; exact g h.2.2.1; exact g (Nat.le_trans h.2.2.2 (by decide))
 case back => rcases hp with rfl | rfl | rfl; omega; exact f h.1; exact g h.2.2
 case hall => rcases hp with rfl | rfl | rfl; omega; exact f h.1; exact g h.2.2.2
 case swell cs => rcases hp with rfl | rfl; omega; exact h.jlen
theorem Dt.vn {d : Dt} : d.vals.length <= 3 := by
 cases d <;> simp [Dt.vals]
theorem Dt.wlen {d : Dt} (h : d.ok) : d.word.length <= 4000 := by
 have a := f0z (z := ⟨#[58]⟩) (d.vlen h)
 have b := d.vn
 rw [List.length_cons, c7u] at a
 unfold Dt.word
 omega
theorem Dt.split (d : Dt) : b2y d.word ⟨#[58]⟩ = d.kind :: d.vals := f2r (by simp) d.free rfl
theorem f2s (z p : Str) : Str.join z [p] = p := rfl
theorem f2t : sg Str.empty = [] := rfl
theorem h0t : sg (Str.ofString "gain:") = sg (Str.ofString "gain") ++ [58] := by decide +kernel
theorem g5w : sg (Str.ofString "delay:") = sg (Str.ofString "delay") ++ [58] := by decide +kernel
theorem h0u : sg (Str.ofString "echo:") = sg (Str.ofString "echo") ++ [58] := by decide +kernel
theorem h0v : sg (Str.ofString "back:") = sg (Str.ofString "back") ++ [58] := by decide +kernel
theorem h0w : sg (Str.ofString "hall:") = sg (Str.ofString "hall") ++ [58] := by decide +kernel
theorem g5x : sg (Str.ofString "swell:") = sg (Str.ofString "swell") ++ [58] := by decide +kernel
theorem f2u : sg (Str.ofString ":") = [58] := by decide +kernel
theorem h4m : Str.ofString "," = ⟨#[44]⟩ := by decide +kernel
theorem h4n : Str.ofString ":" = ⟨#[58]⟩ := by decide +kernel
theorem h0x (y : Rat) : Str.empty ++ Str.ofString "gain:" ++ fW y = (Dt.gain y).word := b4i (by
 simp only [Dt.word, Dt.kind, Dt.vals, a2i, a8u, f2s, f2t, h0t, f2u, List.nil_append, List.append_assoc, List.singleton_append, List.cons_append])
theorem g5y (n : Nat) : Str.empty ++ Str.ofString "delay:" ++ nW n = (Dt.delay n).word := b4i (by
 simp only [Dt.word, Dt.kind, Dt.vals, a2i, a8u, f2s, f2t, g5w, f2u, List.nil_append, List.append_assoc, List.singleton_append, List.cons_append])
theorem h0y (y : Rat) (n t : Nat) : Str.empty ++ Str.ofString "echo:" ++ fW y ++ Str.ofString ":" ++ nW n ++ Str.ofString ":" ++ nW t = (Dt.echo y n t).word := b4i (by
 simp only [Dt.word, Dt.kind, Dt.vals, a2i, a8u, f2s, f2t, h0u, f2u, List.nil_append, List.append_assoc, List.singleton_append, List.cons_append])
theorem h0z (y : Rat) (n : Nat) : Str.empty ++ Str.ofString "back:" ++ fW y ++ Str.ofString ":" ++ nW n = (Dt.back y n).word := b4i (by
 simp only [Dt.word, Dt.kind, Dt.vals, a2i, a8u, f2s, f2t, h0v, f2u, List.nil_append, List.append_assoc, List.singleton_append, List.cons_append])
theorem h7h (y : Rat) (n : Nat) : Str.empty ++ Str.ofString "hall:" ++ fW y ++ Str.ofString ":" ++ nW n = (Dt.hall y n).word := b4i (by
 simp only [Dt.word, Dt.kind, Dt.vals, a2i, a8u, f2s, f2t, h0w, f2u, List.nil_append, List.append_assoc, List.singleton_append, List.cons_append])
theorem h4o (z : Str) (ps : List Str) : Txt.join z ps = Str.join z ps := by
 show Builtin.Str.glued _ _ = _
 rw [StrLaws.glued_eq_join]
theorem h4p (cs : List (Int × Rat)) : Str.empty ++ Str.ofString "swell:" ++ Txt.join (Str.ofString ",") (cs.map cW) = (Dt.swell cs).word := b4i (by
 rw [h4o, h4m]
 simp only [Dt.word, Dt.kind, Dt.vals, a2i, a8u, f2s, f2t, g5x, f2u, List.nil_append, List.append_assoc, List.singleton_append, List.cons_append])
end L2
namespace L2
open PySem PySem.Spec PyProof.Rows
section
variable {X : Cx}
noncomputable def h1a : V -> List V -> Hp -> VK -> Prop := fun x vs H Q => match x, vs with
 | .ref l, [.int i, y] => (match H l with
  | some (.lst xs) => 0 <= i /\ i < 1000000 /\ xs.length < sizeLine /\ All (fun v H1 => v = .non /\ a6y l H H1 /\ H1 l = some (.lst (xs.take i.toNat ++ y :: xs.drop i.toNat))) Q ⟨⟩ ⟨⟩
  | _ => False)
 | _, _ => False
theorem d1q : MtR X "list.insert" h1a := by
 intro pins s σ H x vs v us Q I rx rv h
 match x, vs, h with
 | .ref l, [.int i, y], h =>
  have h' : (match H l with
   | some (.lst xs) => 0 <= i /\ i < 1000000 /\ xs.length < sizeLine /\ All (fun v H1 => v = .non /\ a6y l H H1 /\ H1 l = some (.lst (xs.take i.toNat ++ y :: xs.drop i.toNat))) Q ⟨⟩ ⟨⟩
   | _ => False) := h
  split at h'
  ·rename_i xs hH
   obtain ⟨i0, i1, hz, q⟩ := h'
   cases rx
   obtain ⟨u, u2, rfl, ru, ru2⟩ := rv.two
   obtain ⟨t, rfl⟩ := ru
   obtain ⟨z, its, n, r, hl, e⟩ := I.g8o hH
   have hf : Builtin.List.listFitsIndex i = true := fitsIndex_both (by omega) (by omega)
   refine call_meets F.slot_list_insert ⟨_, e, rfl⟩ F.entry_list_insert (F.args_list_insert_3 _ _ _) (PySem.AutoSeq1.list_insert_list_int_val_1 l its.toArray n i t u2 (by simp [hf]) (by rw [List.size_toArray]; omega)) ⟨e, ?_⟩
   refine ⟨.non, _, I.h5w (its' := its.take i.toNat ++ u2 :: its.drop i.toNat) hH e ?_ ((r.take _).append (.cons ru2 (r.drop _))) ?_, rfl, q _ _ ⟨rfl, a6y.upd, a6g⟩⟩
   ·have hk : (if i < 0 then (i + ((its.toArray.size : Nat) : Int)).toNat else min i.toNat its.toArray.size) = min i.toNat its.length := by
     rw [if_neg (by omega), List.size_toArray]
    show (its.toArray.extract 0 (if i < 0 then (i + ((its.toArray.size : Nat) : Int)).toNat else min i.toNat its.toArray.size)).push u2 ++ its.toArray.extract (if i < 0 then (i + ((its.toArray.size : Nat) : Int)).toNat else min i.toNat its.toArray.size) = _
    rw [hk]
    apply Array.ext'
    rcases Nat.le_total i.toNat its.length with hle | hle
    ·rw [Nat.min_eq_left hle]
     simp
     exact List.take_of_length_le (by rw [List.length_drop]; omega)
    ·rw [Nat.min_eq_right hle, List.take_of_length_le hle, List.drop_of_length_le hle]
     simp
   ·rw [List.length_append, List.length_cons, List.length_take, List.length_drop]
    omega
  ·exact h'.elim
noncomputable def rPopF : V -> List V -> Hp -> VK -> Prop := fun x vs H Q => match x, vs with
 | .ref l, [.int i] => (match H l with
  | some (.lst xs) => 0 <= i /\ i < (xs.length : Int) /\ All (fun v H1 => xs[i.toNat]? = some v /\ a6y l H H1 /\ H1 l = some (.lst (xs.eraseIdx i.toNat))) Q ⟨⟩ ⟨⟩
  | _ => False)
 | .ref l, [] => (match H l with
  | some (.lst xs) => 0 < xs.length /\ All (fun v H1 => xs[xs.length - 1]? = some v /\ a6y l H H1 /\ H1 l = some (.lst xs.dropLast)) Q ⟨⟩ ⟨⟩
  | _ => False)
 | _, _ => False
end
end L2
set_option maxHeartbeats 4000000
namespace My
open PySem PySem.Spec PyProof.Rows L2
open PySem.Builtin.Int (intBits)
noncomputable def top (i : Nat) : Stmt := PySem.Challenge.pw_mixbench_k43_whole_taken_back.main.body.getD i (.Pass ⟨0, 0, 0, 0⟩)
noncomputable abbrev b2l : Stmt := (top 9)
noncomputable abbrev a7t : Stmt := (top 10)
noncomputable abbrev b2m : Stmt := (top 11)
noncomputable abbrev b5v : Stmt := (top 14)
noncomputable abbrev b2n : Stmt := (top 16)
noncomputable abbrev a3t : Stmt := (top 21)
noncomputable abbrev a3u : Stmt := (top 22)
noncomputable abbrev a5p : Stmt := (top 24)
noncomputable abbrev a6z : Stmt := (top 25)
noncomputable abbrev b2z : Stmt := (top 27)
noncomputable abbrev b5w : Stmt := (top 28)
noncomputable abbrev a7u : Stmt := (inClass (top 29) 0)
noncomputable abbrev a7v : Stmt := (inClass (top 29) 1)
noncomputable abbrev a9t : Stmt := (inClass (top 30) 0)
noncomputable abbrev a7w : Stmt := (inClass (top 30) 1)
noncomputable abbrev a5g : Stmt := (inClass (top 30) 2)
noncomputable abbrev a7y : Stmt := (inClass (top 31) 0)
noncomputable abbrev a3v : Stmt := (inClass (top 31) 1)
noncomputable abbrev a9u : Stmt := (top 33)
noncomputable abbrev a7g : Stmt := (inClass (top 35) 0)
noncomputable abbrev a7z : Stmt := (inClass (top 35) 1)
noncomputable abbrev a5h : Stmt := (inClass (top 35) 2)
noncomputable abbrev a8g : Stmt := (inClass (top 35) 3)
noncomputable abbrev a9v : Stmt := (inClass (top 36) 0)
noncomputable abbrev a8h : Stmt := (inClass (top 36) 1)
noncomputable abbrev a5i : Stmt := (inClass (top 36) 2)
noncomputable abbrev a9w : Stmt := (top 51)
noncomputable abbrev a6i : Stmt := (top 52)
noncomputable abbrev a9y : Stmt := (top 53)
noncomputable abbrev a6j : Stmt := (top 54)
noncomputable abbrev b5y : Stmt := (top 55)
noncomputable abbrev b2o : Stmt := (top 56)
noncomputable abbrev b5z : Stmt := (top 57)
noncomputable abbrev b6g : Stmt := (top 58)
noncomputable abbrev b6h : Stmt := (top 63)
noncomputable abbrev a9z : Stmt := (top 66)
noncomputable abbrev a5q : Stmt := (inClass (top 67) 0)
noncomputable abbrev a3w : Stmt := (inClass (top 67) 1)
noncomputable abbrev a6k : Stmt := (top 69)
noncomputable abbrev b0g : Stmt := (top 70)
noncomputable abbrev a6l : Stmt := (top 71)
noncomputable abbrev b2p : Stmt := (top 72)
noncomputable abbrev b2q : Stmt := (top 73)
noncomputable abbrev a6m : Stmt := (top 74)
noncomputable abbrev b0h : Stmt := (top 75)
noncomputable abbrev b0i : Stmt := (top 76)
noncomputable abbrev b6i : Stmt := (top 77)
noncomputable abbrev b0j : Stmt := (top 78)
noncomputable abbrev d8p : Stmt := (top 79)
theorem d8q : a0r ["value"] ["value"] (a0h b2l) := ⟨rfl, rfl, rfl, by decide +kernel, rfl, by decide +kernel, by decide +kernel⟩
theorem c4i : a0r ["text", "sign"] ["text"] (a0h a7t) := ⟨rfl, rfl, rfl, by decide +kernel, rfl, by decide +kernel, by decide +kernel⟩
theorem d8r : a0r ["text"] ["text"] (a0h b2m) := ⟨rfl, rfl, rfl, by decide +kernel, rfl, by decide +kernel, by decide +kernel⟩
theorem b2r : a0r ["one", "other", "left", "right", "rest"] ["one", "other"] (a0h b5v) := ⟨rfl, rfl, rfl, by decide +kernel, rfl, by decide +kernel, by decide +kernel⟩
theorem c2h : a0r ["top", "bottom", "by"] ["top", "bottom"] (a0h b2n) := ⟨rfl, rfl, rfl, by decide +kernel, rfl, by decide +kernel, by decide +kernel⟩
theorem b1r : a0r ["one", "top", "bottom"] ["one"] (a0h a3t) := ⟨rfl, rfl, rfl, by decide +kernel, rfl, by decide +kernel, by decide +kernel⟩
theorem a4z : a0r ["text", "halves", "top", "number", "one"] ["text"] (a0h a3u) := ⟨rfl, rfl, rfl, by decide +kernel, rfl, by decide +kernel, by decide +kernel⟩
theorem b6u : a0r ["one", "other", "shared", "both"] ["one", "other"] (a0h a5p) := ⟨rfl, rfl, rfl, by decide +kernel, rfl, by decide +kernel, by decide +kernel⟩
theorem d6g : a0r ["row", "by"] ["row", "by"] (a0h a6z) := ⟨rfl, rfl, rfl, by decide +kernel, rfl, by decide +kernel, by decide +kernel⟩
theorem f2v : a0r ["known", "start", "many"] ["known", "start", "many"] (a0h b2z) := ⟨rfl, rfl, rfl, by decide +kernel, rfl, by decide +kernel, by decide +kernel⟩
theorem f2w : a0r ["known", "many"] ["known", "many"] (a0h b5w) := ⟨rfl, rfl, rfl, by decide +kernel, rfl, by decide +kernel, by decide +kernel⟩
theorem d2s : a0r ["self"] ["self"] (a0h a7u) := ⟨rfl, rfl, rfl, by decide +kernel, rfl, by decide +kernel, by decide +kernel⟩
theorem d2t : a0r ["self"] ["self"] (a0h a7v) := ⟨rfl, rfl, rfl, by decide +kernel, rfl, by decide +kernel, by decide +kernel⟩
theorem d6h : a0r ["self", "gain"] ["self", "gain"] (a0h a9t) := ⟨rfl, rfl, rfl, by decide +kernel, rfl, by decide +kernel, by decide +kernel⟩
theorem d2u : a0r ["self"] ["self"] (a0h a7w) := ⟨rfl, rfl, rfl, by decide +kernel, rfl, by decide +kernel, by decide +kernel⟩
theorem c7w : a0r ["self", "state", "tops", "bottom"] ["self", "state", "tops", "bottom"] (a0h a5g) := ⟨rfl, rfl, rfl, by decide +kernel, rfl, by decide +kernel, by decide +kernel⟩
theorem d2v : a0r ["self", "many"] ["self", "many"] (a0h a7y) := ⟨rfl, rfl, rfl, by decide +kernel, rfl, by decide +kernel, by decide +kernel⟩
theorem b8m : a0r ["self", "state", "tops", "bottom", "known"] ["self", "state", "tops", "bottom"] (a0h a3v) := ⟨rfl, rfl, rfl, by decide +kernel, rfl, by decide +kernel, by decide +kernel⟩
theorem b8z : a0r ["number", "most", "powers", "turn"] ["number", "most"] (a0h a9u) := ⟨rfl, rfl, rfl, by decide +kernel, rfl, by decide +kernel, by decide +kernel⟩
theorem b9g : a0r ["self", "gain", "many", "turns", "tops", "bottoms"] ["self", "gain", "many", "turns"] (a0h a7g) := ⟨rfl, rfl, rfl, by decide +kernel, rfl, by decide +kernel, by decide +kernel⟩
theorem d2w : a0r ["self"] ["self"] (a0h a7z) := ⟨rfl, rfl, rfl, by decide +kernel, rfl, by decide +kernel, by decide +kernel⟩
theorem a3y : a0r ["self", "state", "tops", "bottom", "known", "out", "turn", "heard"] ["self", "state", "tops", "bottom"] (a0h a5h) := ⟨rfl, rfl, rfl, by decide +kernel, rfl, by decide +kernel, by decide +kernel⟩
theorem d2y : a0r ["self"] ["self"] (a0h a8g) := ⟨rfl, rfl, rfl, by decide +kernel, rfl, by decide +kernel, by decide +kernel⟩
theorem d6i : a0r ["self", "gain", "many"] ["self", "gain", "many"] (a0h a9v) := ⟨rfl, rfl, rfl, by decide +kernel, rfl, by decide +kernel, by decide +kernel⟩
theorem d2z : a0r ["self"] ["self"] (a0h a8h) := ⟨rfl, rfl, rfl, by decide +kernel, rfl, by decide +kernel, by decide +kernel⟩
theorem a8v : a0r ["self", "state", "tops", "bottom", "known", "heard", "out"] ["self", "state", "tops", "bottom"] (a0h a5i) := ⟨rfl, rfl, rfl, by decide +kernel, rfl, by decide +kernel, by decide +kernel⟩
theorem c6k : a0r ["text", "gain"] ["text"] (a0h a9w) := ⟨rfl, rfl, rfl, by decide +kernel, rfl, by decide +kernel, by decide +kernel⟩
theorem c1w : a0r ["text", "least", "most", "number"] ["text", "least", "most"] (a0h a6i) := ⟨rfl, rfl, rfl, by decide +kernel, rfl, by decide +kernel, by decide +kernel⟩
theorem d6j : a0r ["text"] ["text"] (a0h a9y) := ⟨rfl, rfl, rfl, by decide +kernel, rfl, by decide +kernel, by decide +kernel⟩
theorem d0r : a0r ["values", "count"] ["values", "count"] (a0h a6j) := ⟨rfl, rfl, rfl, by decide +kernel, rfl, by decide +kernel, by decide +kernel⟩
theorem f2y : a0r ["values"] ["values"] (a0h b5y) := ⟨rfl, rfl, rfl, by decide +kernel, rfl, by decide +kernel, by decide +kernel⟩
theorem d8s : a0r ["values"] ["values"] (a0h b2o) := ⟨rfl, rfl, rfl, by decide +kernel, rfl, by decide +kernel, by decide +kernel⟩
theorem f2z : a0r ["values"] ["values"] (a0h b5z) := ⟨rfl, rfl, rfl, by decide +kernel, rfl, by decide +kernel, by decide +kernel⟩
theorem f3g : a0r ["values"] ["values"] (a0h b6g) := ⟨rfl, rfl, rfl, by decide +kernel, rfl, by decide +kernel, by decide +kernel⟩
theorem d1r : a0r ["word", "values"] ["word"] (a0h b6h) := ⟨rfl, rfl, rfl, by decide +kernel, rfl, by decide +kernel, by decide +kernel⟩
theorem d8t : a0r ["words"] ["words"] (a0h a9z) := ⟨rfl, rfl, rfl, by decide +kernel, rfl, by decide +kernel, by decide +kernel⟩
theorem d3g : a0r ["self", "words"] ["self", "words"] (a0h a5q) := ⟨rfl, rfl, rfl, by decide +kernel, rfl, by decide +kernel, by decide +kernel⟩
theorem a2r : a0r ["self", "tops", "bottom", "row", "states", "part", "state", "told"] ["self", "tops", "bottom"] (a0h a3w) := ⟨rfl, rfl, rfl, by decide +kernel, rfl, by decide +kernel, by decide +kernel⟩
theorem d0s : a0r ["_law_script", "_law_k"] ["_law_script", "_law_k"] (a0h a6k) := ⟨rfl, rfl, rfl, by decide +kernel, rfl, by decide +kernel, by decide +kernel⟩
theorem d6k : a0r ["_law_found"] ["_law_found"] (a0h b0g) := ⟨rfl, rfl, rfl, by decide +kernel, rfl, by decide +kernel, by decide +kernel⟩
theorem a5j : a0r ["_law_one", "_law_other", "_law_rest"] ["_law_one", "_law_other"] (a0h a6l) := ⟨rfl, rfl, rfl, by decide +kernel, rfl, by decide +kernel, by decide +kernel⟩
theorem a7h : a0r ["_law_cell", "_law_great", "_law_mixed", "_law_top", "_law_bottom", "_law_by"] ["_law_cell", "_law_great"] (a0h b2p) := ⟨rfl, rfl, rfl, by decide +kernel, rfl, by decide +kernel, by decide +kernel⟩
theorem d8u : a0r ["_law_cell"] ["_law_cell"] (a0h b2q) := ⟨rfl, rfl, rfl, by decide +kernel, rfl, by decide +kernel, by decide +kernel⟩
theorem d0t : a0r ["_law_gain_here"] ["_law_gain_here"] (a0h a6m) := ⟨rfl, rfl, rfl, by decide +kernel, rfl, by decide +kernel, by decide +kernel⟩
theorem b4j : a0r ["_law_number", "_law_many", "_law_found", "_law_k"] ["_law_number", "_law_many"] (a0h b0h) := ⟨rfl, rfl, rfl, by decide +kernel, rfl, by decide +kernel, by decide +kernel⟩
theorem c6l : a0r ["_law_gain_here", "_law_more", "_law_many", "_law_turns", "_law_far", "_law_pick", "_law_words_here"] ["_law_gain_here", "_law_more", "_law_many", "_law_turns", "_law_far", "_law_pick"] (a0h b0i) := ⟨rfl, rfl, rfl, by decide +kernel, rfl, by decide +kernel, by decide +kernel⟩
theorem f3h : a0r ["_law_row", "_law_at"] ["_law_row", "_law_at"] (a0h b6i) := ⟨rfl, rfl, rfl, by decide +kernel, rfl, by decide +kernel, by decide +kernel⟩
theorem a1r : a0r ["_law_found", "_law_block", "_law_row", "_law_start", "_law_told", "_law_gain_here", "_law_more", "_law_many", "_law_turns", "_law_far", "_law_bottom", "_law_up", "_law_down", "_law_k", "_law_at", "_law_due_here", "_law_left"] ["_law_found", "_law_block", "_law_row", "_law_start", "_law_told"] (a0h b0j) := ⟨rfl, rfl, rfl, by decide +kernel, rfl, by decide +kernel, by decide +kernel⟩
theorem b1l : a0r ["_law_script", "_law_head", "_law_great", "_law_gain_here", "_law_more", "_law_many", "_law_turns", "_law_far", "_law_bottom", "_law_row", "_law_at", "_law_told", "_law_words_here", "_law_chain", "_law_found"] ["_law_script"] (a0h d8p) := ⟨rfl, rfl, rfl, by decide +kernel, rfl, by decide +kernel, by decide +kernel⟩
set_option genInjectivity false in
structure Ad where
 b0k : Addr
 c2i : FuncData
 a5r : Addr
 b6v : FuncData
 b0l : Addr
 c2j : FuncData
 b3g : Addr
 c4y : FuncData
 b0m : Addr
 c2k : FuncData
 a2z : Addr
 b1s : FuncData
 a3g : Addr
 b1t : FuncData
 a5s : Addr
 b6w : FuncData
 a7i : Addr
 b9h : FuncData
 b3h : Addr
 c4z : FuncData
 b3i : Addr
 c5g : FuncData
 a2p : Addr
 b6y : FuncData
 a0v : Addr
 b6z : FuncData
 a5t : Addr
 b9i : FuncData
 a3k : Addr
 b1y : FuncData
 a2l : Addr
 a8w : FuncData
 a4j : Addr
 b7g : FuncData
 a1w : Addr
 a6u : FuncData
 a7j : Addr
 b9j : FuncData
 a5u : Addr
 b9k : FuncData
 a3l : Addr
 b1z : FuncData
 a2m : Addr
 a8y : FuncData
 a4k : Addr
 b7h : FuncData
 a5v : Addr
 b9l : FuncData
 a3m : Addr
 b2g : FuncData
 a2n : Addr
 a8z : FuncData
 a7k : Addr
 b9m : FuncData
 a4n : Addr
 b5h : FuncData
 a7l : Addr
 b9n : FuncData
 a4o : Addr
 b5i : FuncData
 a9g : Addr
 c5h : FuncData
 a6n : Addr
 c2l : FuncData
 a9h : Addr
 c5i : FuncData
 a9i : Addr
 c5j : FuncData
 b3j : Addr
 c5k : FuncData
 b0n : Addr
 c2m : FuncData
 a4l : Addr
 b7i : FuncData
 a2q : Addr
 b1u : FuncData
 a4p : Addr
 b5j : FuncData
 a7m : Addr
 b9o : FuncData
 a4q : Addr
 b5k : FuncData
 b0o : Addr
 c2n : FuncData
 b0p : Addr
 c2o : FuncData
 a4r : Addr
 b5l : FuncData
 a7n : Addr
 b9p : FuncData
 a7o : Addr
 b9q : FuncData
 b3k : Addr
 c5l : FuncData
 a7p : Addr
 b9r : FuncData
 d8v : Addr
 f7z : FuncData
 b8n : Addr
 a3h : Addr
 a1y : Addr
 a1s : Addr
 a2v : Addr
 a3z : Addr
 d6l : Value
 b1m : Value
 b1n : Value
 c7y : Value
 c7z : Value
 c6m : Value
 c6n : Value
 a1t : Addr
 wd : World
structure Tx (K : PySem.W.Frag) (mg : Str -> Option Value) (A : Ad) : Prop where
 b2s : Fun K "is_whole" "is_whole" b2l A.b0k A.c2i
 c1q : Binds K A.c2i ["value"] []
 d1s : mg "is_whole" = some (.ref A.b0k)
 a8i : Fun K "is_figures" "is_figures" a7t A.a5r A.b6v
 b4k : Binds K A.b6v ["text"] []
 c6o : mg "is_figures" = some (.ref A.a5r)
 b6j : Fun K "whole_of" "whole_of" b2m A.b0l A.c2j
 c5m : Binds K A.c2j ["text"] []
 f3i : mg "whole_of" = some (.ref A.b0l)
 b9s : Fun K "divisor" "divisor" b5v A.b3g A.c4y
 c8g : Binds K A.c4y ["one", "other"] []
 f8g : mg "divisor" = some (.ref A.b3g)
 b6k : Fun K "fraction" "fraction" b2n A.b0m A.c2k
 c5n : Binds K A.c2k ["top", "bottom"] []
 f3j : mg "fraction" = some (.ref A.b0m)
 a5w : Fun K "fraction_text" "fraction_text" a3t A.a2z A.b1s
 b3l : Binds K A.b1s ["one"] []
 c8h : mg "fraction_text" = some (.ref A.a2z)
 a5y : Fun K "read_fraction" "read_fraction" a3u A.a3g A.b1t
 b3m : Binds K A.b1t ["text"] []
 c8i : mg "read_fraction" = some (.ref A.a3g)
 a8j : Fun K "added_rows" "added_rows" a5p A.a5s A.b6w
 b4l : Binds K A.b6w ["one", "other"] []
 c6p : mg "added_rows" = some (.ref A.a5s)
 a5z : Fun K "times_row" "times_row" a6z A.a7i A.b9h
 b0q : Binds K A.b9h ["row", "by"] []
 b7j : mg "times_row" = some (.ref A.a7i)
 b3n : Fun K "delayed" "delayed" b2z A.b3h A.c4z
 b9t : Binds K A.c4z ["known", "start", "many"] []
 c8j : mg "delayed" = some (.ref A.b3h)
 b3o : Fun K "last_of" "last_of" b5w A.b3i A.c5g
 b9u : Binds K A.c5g ["known", "many"] []
 c8k : mg "last_of" = some (.ref A.b3i)
 b4m : Fun K "grain" "Part.grain" a7u A.a2p A.b6y
 b9v : Binds K A.b6y ["self"] []
 b4n : Fun K "fresh" "Part.fresh" a7v A.a0v A.b6z
 a8k : Binds K A.b6z ["self"] []
 b7k : Fun K "__init__" "Gain.__init__" a9t A.a5t A.b9i
 c2p : Binds K A.b9i ["self", "gain"] []
 b4o : Fun K "grain" "Gain.grain" a7w A.a3k A.b1y
 b9w : Binds K A.b1y ["self"] []
 b0y : Fun K "through" "Gain.through" a5g A.a2l A.a8w
 b5m : Binds K A.a8w ["self", "state", "tops", "bottom"] []
 b4p : Fun K "__init__" "Delay.__init__" a7y A.a4j A.b7g
 b9y : Binds K A.b7g ["self", "many"] []
 a9j : Fun K "through" "Delay.through" a3v A.a1w A.a6u
 b3p : Binds K A.a6u ["self", "state", "tops", "bottom"] []
 b0r : Fun K "powers_of" "powers_of" a9u A.a7j A.b9j
 b7l : Binds K A.b9j ["number", "most"] []
 c8l : mg "powers_of" = some (.ref A.a7j)
 b7m : Fun K "__init__" "Echo.__init__" a7g A.a5u A.b9k
 c2q : Binds K A.b9k ["self", "gain", "many", "turns"] []
 b4q : Fun K "grain" "Echo.grain" a7z A.a3l A.b1z
 b9z : Binds K A.b1z ["self"] []
 b0z : Fun K "through" "Echo.through" a5h A.a2m A.a8y
 b5n : Binds K A.a8y ["self", "state", "tops", "bottom"] []
 b4r : Fun K "reach" "Echo.reach" a8g A.a4k A.b7h
 c0g : Binds K A.b7h ["self"] []
 b7n : Fun K "__init__" "Back.__init__" a9v A.a5v A.b9l
 c2r : Binds K A.b9l ["self", "gain", "many"] []
 b4s : Fun K "grain" "Back.grain" a8h A.a3m A.b2g
 c0h : Binds K A.b2g ["self"] []
 b1g : Fun K "through" "Back.through" a5i A.a2n A.a8z
 b5o : Binds K A.a8z ["self", "state", "tops", "bottom"] []
 a7q : Fun K "read_gain" "read_gain" a9w A.a7k A.b9m
 b3q : Binds K A.b9m ["text"] []
 c2s : mg "read_gain" = some (.ref A.a7k)
 a4s : Fun K "read_number" "read_number" a6i A.a4n A.b5h
 a9k : Binds K A.b5h ["text", "least", "most"] []
 b7o : mg "read_number" = some (.ref A.a4n)
 b0s : Fun K "read_many" "read_many" a9y A.a7l A.b9n
 b7p : Binds K A.b9n ["text"] []
 c8m : mg "read_many" = some (.ref A.a7l)
 a3n : Fun K "check_count" "check_count" a6j A.a4o A.b5i
 a6o : Binds K A.b5i ["values", "count"] []
 b2h : mg "check_count" = some (.ref A.a4o)
 c0i : Fun K "gain_of" "gain_of" b5y A.a9g A.c5h
 c8n : Binds K A.c5h ["values"] []
 h1b : mg "gain_of" = some (.ref A.a9g)
 b6l : Fun K "delay_of" "delay_of" b2o A.a6n A.c2l
 c5o : Binds K A.c2l ["values"] []
 g7d : mg "delay_of" = some (.ref A.a6n)
 c0j : Fun K "echo_of" "echo_of" b5z A.a9h A.c5i
 c8o : Binds K A.c5i ["values"] []
 h1c : mg "echo_of" = some (.ref A.a9h)
 c0k : Fun K "back_of" "back_of" b6g A.a9i A.c5j
 c8p : Binds K A.c5j ["values"] []
 h1e : mg "back_of" = some (.ref A.a9i)
 c0l : Fun K "part_of" "part_of" b6h A.b3j A.c5k
 c8q : Binds K A.c5k ["word"] []
 f8h : mg "part_of" = some (.ref A.b3j)
 b6m : Fun K "parts_of" "parts_of" a9z A.b0n A.c2m
 c5p : Binds K A.c2m ["words"] []
 f3k : mg "parts_of" = some (.ref A.b0n)
 b4t : Fun K "__init__" "Chain.__init__" a5q A.a4l A.b7i
 c0m : Binds K A.b7i ["self", "words"] []
 a9l : Fun K "through" "Chain.through" a3w A.a2q A.b1u
 a9m : Binds K A.b1u ["self", "tops", "bottom"] []
 a1z : Fun K "_law_cell_at" "_law_cell_at" a6k A.a4p A.b5j
 a2t : Binds K A.b5j ["_law_script", "_law_k"] []
 a4t : mg "_law_cell_at" = some (.ref A.a4p)
 b0t : Fun K "_law_whole" "_law_whole" b0g A.a7m A.b9o
 b7q : Binds K A.b9o ["_law_found"] []
 c8r : mg "_law_whole" = some (.ref A.a7m)
 a9n : Fun K "_law_divisor" "_law_divisor" a6l A.a4q A.b5k
 b7r : Binds K A.b5k ["_law_one", "_law_other"] []
 d3h : mg "_law_divisor" = some (.ref A.a4q)
 b2t : Fun K "_law_gain" "_law_gain" b2p A.b0o A.c2n
 c1r : Binds K A.c2n ["_law_cell", "_law_great"] []
 d1t : mg "_law_gain" = some (.ref A.b0o)
 b6n : Fun K "_law_tone" "_law_tone" b2q A.b0p A.c2o
 c5q : Binds K A.c2o ["_law_cell"] []
 f3l : mg "_law_tone" = some (.ref A.b0p)
 a4u : Fun K "_law_written" "_law_written" a6m A.a4r A.b5l
 a9o : Binds K A.b5l ["_law_gain_here"] []
 b7s : mg "_law_written" = some (.ref A.a4r)
 b0u : Fun K "_law_power" "_law_power" b0h A.a7n A.b9p
 b7t : Binds K A.b9p ["_law_number", "_law_many"] []
 c8s : mg "_law_power" = some (.ref A.a7n)
 b3r : Fun K "_law_words" "_law_words" b0i A.a7o A.b9q
 c2t : Binds K A.b9q ["_law_gain_here", "_law_more", "_law_many", "_law_turns", "_law_far", "_law_pick"] []
 d8w : mg "_law_words" = some (.ref A.a7o)
 b6o : Fun K "_law_due" "_law_due" b6i A.b3k A.c5l
 c4j : Binds K A.c5l ["_law_row", "_law_at"] []
 d6m : mg "_law_due" = some (.ref A.b3k)
 b0v : Fun K "_law_right" "_law_right" b0j A.a7p A.b9r
 b7u : Binds K A.b9r ["_law_found", "_law_block", "_law_row", "_law_start", "_law_told"] []
 c8t : mg "_law_right" = some (.ref A.a7p)
 g1v : Fun K "law" "law" d8p A.d8v A.f7z
 h1f : Binds K A.f7z ["_law_script"] []
 m_law : mg "law" = some (.ref A.d8v)
 d3i : mg "abs" = none
 d1u : mg "bool" = none
 d0u : mg "int" = none
 a1u : mg "isinstance" = none
 b4g : mg "len" = none
 c1y : mg "list" = none
 f8i : mg "max" = none
 f8j : mg "min" = none
 b3s : mg "range" = none
 c6y : mg "str" = none
 c2u : mg "tuple" = none
 f8k : mg "zip" = none
 d3j : mg "Part" = some (.ref A.b8n)
 c8u : mg "Gain" = some (.ref A.a3h)
 c4k : mg "Delay" = some (.ref A.a1y)
 c8v : mg "Echo" = some (.ref A.a1s)
 c8w : mg "Back" = some (.ref A.a2v)
 c4l : mg "Chain" = some (.ref A.a3z)
 h4q : Cls K A.b8n
 g1w : Meth K A.b8n "grain" A.a2p
 g1x : Meth K A.b8n "fresh" A.a0v
 a7r : Cls K A.a3h
 a1i : a5o K A.a3h "gain"
 h1g : Mk K A.a3h A.a5t
 d3k : Meth K A.a3h "grain" A.a3k
 c8y : Meth K A.a3h "through" A.a2l
 d3l : Meth K A.a3h "fresh" A.a0v
 a6p : Cls K A.a1y
 a1m : a5o K A.a1y "many"
 g5z : Mk K A.a1y A.a4j
 c6z : Meth K A.a1y "through" A.a1w
 d0v : Meth K A.a1y "grain" A.a2p
 d0w : Meth K A.a1y "fresh" A.a0v
 a5l : Cls K A.a1s
 a0y : a5o K A.a1s "gain"
 a0z : a5o K A.a1s "many"
 a0u : a5o K A.a1s "turns"
 a0o : a5o K A.a1s "factors"
 a0m : a5o K A.a1s "factor_bottom"
 h1h : Mk K A.a1s A.a5u
 d3m : Meth K A.a1s "grain" A.a3l
 c8z : Meth K A.a1s "through" A.a2m
 d3n : Meth K A.a1s "reach" A.a4k
 d3o : Meth K A.a1s "fresh" A.a0v
 a7s : Cls K A.a2v
 a1j : a5o K A.a2v "gain"
 a1k : a5o K A.a2v "many"
 h1i : Mk K A.a2v A.a5v
 d3p : Meth K A.a2v "grain" A.a3m
 c9g : Meth K A.a2v "through" A.a2n
 d3q : Meth K A.a2v "fresh" A.a0v
 b4u : Cls K A.a3z
 a1v : a5o K A.a3z "parts"
 a1q : a5o K A.a3z "states"
 g6a : Mk K A.a3z A.a4l
 b8o : Meth K A.a3z "through" A.a2q
 b6p : mg "FIGURES" = some A.d6l
 f3m : RelV (.str "0123456789") A.d6l
 a2j : mg "MOST_FIGURES_wholes" = some A.b1m
 b8r : RelV (.int 13) A.b1m
 a2k : mg "MOST_FIGURES_ratios" = some A.b1n
 b8s : RelV (.int 9) A.b1n
 a8l : mg "MOST_GAIN" = some A.c7y
 c6q : RelV (.int 1000) A.c7y
 a8m : mg "MOST_MANY" = some A.c7z
 c6r : RelV (.int 1000) A.c7z
 a9p : mg "MOST_TURNS" = some A.c6m
 d3r : RelV (.int 16) A.c6m
 a9q : mg "MOST_PARTS" = some A.c6n
 d3s : RelV (.int 8) A.c6n
 a6q : mg "READERS" = some (.ref A.a1t)
 f3n : h4j K A.wd A.a1t
 a4g : PySem.W.nsIn K A.a1t "gain" = some (some (.ref A.a9g))
 a3j : PySem.W.nsIn K A.a1t "delay" = some (some (.ref A.a6n))
 a4h : PySem.W.nsIn K A.a1t "echo" = some (some (.ref A.a9h))
 a4i : PySem.W.nsIn K A.a1t "back" = some (some (.ref A.a9i))
theorem nq0 : (("__init__" : Str) == ("gain" : Str)) = false := by decide +kernel
theorem nq1 : (("grain" : Str) == ("gain" : Str)) = false := by decide +kernel
theorem nq2 : (("through" : Str) == ("gain" : Str)) = false := by decide +kernel
theorem nq3 : (("fresh" : Str) == ("gain" : Str)) = false := by decide +kernel
theorem nq4 : (("reach" : Str) == ("gain" : Str)) = false := by decide +kernel
theorem nq5 : (("__init__" : Str) == ("many" : Str)) = false := by decide +kernel
theorem nq6 : (("through" : Str) == ("many" : Str)) = false := by decide +kernel
theorem nq7 : (("reach" : Str) == ("many" : Str)) = false := by decide +kernel
theorem nq8 : (("grain" : Str) == ("many" : Str)) = false := by decide +kernel
theorem nq9 : (("fresh" : Str) == ("many" : Str)) = false := by decide +kernel
theorem nq10 : (("gain" : Str) == ("many" : Str)) = false := by decide +kernel
theorem nq11 : (("gain" : Str) == ("turns" : Str)) = false := by decide +kernel
theorem nq12 : (("gain" : Str) == ("factors" : Str)) = false := by decide +kernel
theorem nq13 : (("gain" : Str) == ("factor_bottom" : Str)) = false := by decide +kernel
theorem nq14 : (("many" : Str) == ("gain" : Str)) = false := by decide +kernel
theorem nq15 : (("many" : Str) == ("turns" : Str)) = false := by decide +kernel
theorem nq16 : (("many" : Str) == ("factors" : Str)) = false := by decide +kernel
theorem nq17 : (("many" : Str) == ("factor_bottom" : Str)) = false := by decide +kernel
theorem nq18 : (("turns" : Str) == ("gain" : Str)) = false := by decide +kernel
theorem nq19 : (("turns" : Str) == ("many" : Str)) = false := by decide +kernel
theorem nq20 : (("turns" : Str) == ("factors" : Str)) = false := by decide +kernel
theorem nq21 : (("turns" : Str) == ("factor_bottom" : Str)) = false := by decide +kernel
theorem nq22 : (("factors" : Str) == ("gain" : Str)) = false := by decide +kernel
theorem nq23 : (("factors" : Str) == ("many" : Str)) = false := by decide +kernel
theorem nq24 : (("factors" : Str) == ("turns" : Str)) = false := by decide +kernel
theorem nq25 : (("factors" : Str) == ("factor_bottom" : Str)) = false := by decide +kernel
theorem nq26 : (("factor_bottom" : Str) == ("gain" : Str)) = false := by decide +kernel
theorem nq27 : (("factor_bottom" : Str) == ("many" : Str)) = false := by decide +kernel
theorem nq28 : (("factor_bottom" : Str) == ("turns" : Str)) = false := by decide +kernel
theorem nq29 : (("factor_bottom" : Str) == ("factors" : Str)) = false := by decide +kernel
theorem nq30 : (("__init__" : Str) == ("turns" : Str)) = false := by decide +kernel
theorem nq31 : (("__init__" : Str) == ("factors" : Str)) = false := by decide +kernel
theorem nq32 : (("__init__" : Str) == ("factor_bottom" : Str)) = false := by decide +kernel
theorem nq33 : (("grain" : Str) == ("turns" : Str)) = false := by decide +kernel
theorem nq34 : (("grain" : Str) == ("factors" : Str)) = false := by decide +kernel
theorem nq35 : (("grain" : Str) == ("factor_bottom" : Str)) = false := by decide +kernel
theorem nq36 : (("through" : Str) == ("turns" : Str)) = false := by decide +kernel
theorem nq37 : (("through" : Str) == ("factors" : Str)) = false := by decide +kernel
theorem nq38 : (("through" : Str) == ("factor_bottom" : Str)) = false := by decide +kernel
theorem nq39 : (("reach" : Str) == ("turns" : Str)) = false := by decide +kernel
theorem nq40 : (("reach" : Str) == ("factors" : Str)) = false := by decide +kernel
theorem nq41 : (("reach" : Str) == ("factor_bottom" : Str)) = false := by decide +kernel
theorem nq42 : (("fresh" : Str) == ("turns" : Str)) = false := by decide +kernel
theorem nq43 : (("fresh" : Str) == ("factors" : Str)) = false := by decide +kernel
theorem nq44 : (("fresh" : Str) == ("factor_bottom" : Str)) = false := by decide +kernel
theorem nq45 : (("parts" : Str) == ("states" : Str)) = false := by decide +kernel
theorem nq46 : (("states" : Str) == ("parts" : Str)) = false := by decide +kernel
theorem nq47 : (("__init__" : Str) == ("parts" : Str)) = false := by decide +kernel
theorem nq48 : (("__init__" : Str) == ("states" : Str)) = false := by decide +kernel
theorem nq49 : (("through" : Str) == ("parts" : Str)) = false := by decide +kernel
theorem nq50 : (("through" : Str) == ("states" : Str)) = false := by decide +kernel
theorem nq51 : (("grain" : Str) == ("parts" : Str)) = false := by decide +kernel
theorem nq52 : (("grain" : Str) == ("states" : Str)) = false := by decide +kernel
theorem nq53 : (("reach" : Str) == ("parts" : Str)) = false := by decide +kernel
theorem nq54 : (("reach" : Str) == ("states" : Str)) = false := by decide +kernel
seal PE PT PA PS PSs PI PO PW PG PGs PEX PSX
local macro_rules | `(tactic| walk_at "bits") => `(tactic| first | with_reducible assumption | exact intBits_le_64 (by omega) (by omega) | exact (intBits_le_iff (m := 250)).mpr (by decide) | ((with_reducible apply intBits_mul_le) <;> walk_at "bits") | ((with_reducible apply intBits_add_le) <;> walk_at "bits") | ((with_reducible apply intBits_sub_le) <;> walk_at "bits") | ((with_reducible apply intBits_neg_le) <;> walk_at "bits") | ((with_reducible apply intBits_natAbs_le) <;> walk_at "bits") | ((with_reducible apply intBits_fdiv_le) <;> walk_at "bits") | ((with_reducible apply intBits_fmod_le) <;> walk_at "bits"))
local macro_rules | `(tactic| walk_at "mul") => `(tactic| first | exact IntMulOk.of_right (intBits_le_64 (by omega) (by omega)) | exact IntMulOk.of_left (intBits_le_64 (by omega) (by omega)) | ((with_reducible apply IntMulOk.of_le) <;> first | walk_at "bits" | decide))
local macro_rules | `(tactic| walk_at "le") => `(tactic| ((with_reducible apply Nat.le_trans) <;> first | walk_at "bits" | decide))
variable {P : Program} {w : World} {K : PySem.W.Frag} {mg : Str -> Option Value} {base : Heap} {A : Ad}
noncomputable def g6b : Sp := fun vs H Q _ => match vs with | [.int a, .int b] => Q (.int (Int.gcd a b)) H | _ => False
noncomputable def h1j : Sp := fun vs H Q _ => match vs with | [.int _] => Q (.bl true) H | _ => False
noncomputable def g4c : Sp := fun vs H Q _ => match vs with
 | [.int t, .int b] => b ≠ 0 /\ intBits t <= 4000 /\ intBits b <= 4000 /\ All (d1n H (d8j (Rat.divInt t b))) Q ⟨⟩ ⟨⟩
 | _ => False
noncomputable def h1l : Sp := fun vs H Q _ => match vs with | [.str x] => Q (.bl (f7o (sg x))) H | _ => False
noncomputable def f8l : Sp := fun vs H Q _ => match vs with | [.ref p] => ∃ t b : Int, H p = some (.tup [.int t, .int b]) /\ t.natAbs.log2 < 1920 /\ b.natAbs.log2 < 1920 /\ (∀ y : Str, sg y = g3y t b -> Q (.str y) H) | _ => False
noncomputable def g4d : Sp := fun vs H Q _ => match vs with | [.str x] => ∃ t b, Good (sg x) t b /\ All (d1n H [.int t, .int b]) Q ⟨⟩ ⟨⟩ | _ => False
noncomputable def h1n : Sp := fun vs H Q _ => match vs with
 | [.str x] => ∃ n : Nat, sg x = txt (n : Int) /\ n < 10 ^ 9 /\ Q (.int n) H
 | _ => False
noncomputable def g0o (ns ms : List Int) : List Int := (List.range (max ns.length ms.length)).map fun k => ns.getD k 0 + ms.getD k 0
noncomputable def h4r (ns ms : List Int) : List Int := ((List.range (min ns.length ms.length)).map fun k => ns.getD k 0 + ms.getD k 0) ++ ns.drop (min ns.length ms.length) ++ ms.drop (min ns.length ms.length)
noncomputable def h1o : Sp := fun vs H Q _ => match vs with
 | [.ref p, .ref q] => ∃ ns ms : List Int, H p = some (.lst (ns.map V.int)) /\ H q = some (.lst (ms.map V.int)) /\ ns.length <= 1000000 /\ ms.length <= 1000000 /\ All (f0q H ((g0o ns ms).map V.int)) Q ⟨⟩ ⟨⟩
 | _ => False
noncomputable def f8m : Sp := fun vs H Q _ => match vs with
 | [.ref p, .int b] => ∃ ns : List Int, H p = some (.lst (ns.map V.int)) /\ (∀ n ∈ ns, IntMulOk n b) /\ ns.length <= 1000000 /\ All (f0q H ((ns.map (· * b)).map V.int)) Q ⟨⟩ ⟨⟩
 | _ => False
noncomputable def d7o (ns : List Int) (st n : Nat) : List Int := (List.range (ns.length - st)).map fun i => if n <= st + i then ns.getD (st + i - n) 0 else 0
noncomputable def d6n : Sp := fun vs H Q _ => match vs with
 | [.ref k, .int st, .int n] => ∃ (ns : List Int) (s m : Nat), H k = some (.lst (ns.map V.int)) /\ st = s /\ n = m /\ s <= ns.length /\ ns.length <= 1000000 /\ All (f0q H ((d7o ns s m).map V.int)) Q ⟨⟩ ⟨⟩
 | _ => False
noncomputable def g4e : Sp := fun vs H Q _ => match vs with
 | [.ref k, .int n] => ∃ (ns : List Int) (m : Nat), H k = some (.lst (ns.map V.int)) /\ n = m /\ ns.length <= 1000000 /\ All (d1n H ((ns.drop (ns.length - m)).map V.int)) Q ⟨⟩ ⟨⟩
 | _ => False
noncomputable def f8n (n : Int) (m : Nat) : List Int := (List.range (m + 1)).map fun j => n ^ j
noncomputable def h1p : Sp := fun vs H Q _ => match vs with
 | [.int n, .int t] => ∃ m : Nat, t = m /\ m <= 16 /\ intBits n <= 10 /\ All (f0q H ((f8n n m).map V.int)) Q ⟨⟩ ⟨⟩
 | _ => False
noncomputable def f8o (p q : Int) (t j : Nat) : Int := p ^ j * q ^ (t - j)
noncomputable def g0p (p q : Int) (t : Nat) : List Int := (List.range (t + 1)).map (f8o p q t)
noncomputable def ecF (gt fa : Addr) (n t : Nat) (q : Int) : List (Str × V) := [("gain", .ref gt), ("many", .int n), ("turns", .int t), ("factors", .ref fa), ("factor_bottom", .int (q ^ t))]
noncomputable def IsE (C : Addr) (H : Hp) (o : Addr) (p q : Int) (n t : Nat) : Prop := ∃ dx gt fa, H o = some (.ins C dx (ecF gt fa n t q)) /\ H gt = some (.tup [.int p, .int q]) /\ H fa = some (.tup ((g0p p q t).map V.int))
noncomputable def f8p (C : Addr) : Sp := fun vs H Q _ => match vs with
 | [.ref o, .ref gt, .int n, .int t] => ∃ (dx : Addr) (m tt : Nat) (p q : Int), n = m /\ t = tt /\ tt <= 16 /\ intBits p <= 10 /\ intBits q <= 10 /\ H gt = some (.tup [.int p, .int q]) /\ H o = some (.ins C dx []) /\
   (∀ (fa : Addr) (H1 : Hp), a6y o H H1 -> H fa = none -> H1 o = some (.ins C dx (ecF gt fa m tt q)) -> H1 fa = some (.tup ((g0p p q tt).map V.int)) -> Q .non H1)
 | _ => False
noncomputable def f1g (C : Addr) : Sp := fun vs H Q _ => match vs with
 | [.ref o] => ∃ p q n t, IsE C H o p q n t /\ Q (.int (q ^ t)) H
 | _ => False
noncomputable def f1h (C : Addr) : Sp := fun vs H Q _ => match vs with
 | [.ref o] => ∃ p q n t, IsE C H o p q n t /\ n <= 1000000 /\ Q (.int (((n * t : Nat)) : Int)) H
 | _ => False
noncomputable def g0q (kn : List Int) (st n : Nat) (p q : Int) (t : Nat) : Nat -> List Int
 | 0 => []
 | j + 1 => g0o (g0q kn st n p q t j) ((d7o kn st (j * n)).map (· * f8o p q t j))
noncomputable def g4f (C : Addr) : Sp := fun vs H Q _ => match vs with
 | [.ref o, .ref st, .ref x, .int _] => ∃ (p q : Int) (n t : Nat) (zs xs : List Int), IsE C H o p q n t /\ H st = some (.tup (zs.map V.int)) /\ H x = some (.lst (xs.map V.int)) /\ zs.length <= 100000 /\ xs.length <= 100000 /\ n <= 1000000 /\ t <= 16 /\ intBits p <= 10 /\ intBits q <= 10 /\ (∀ y ∈ zs ++ xs, intBits y <= 1000000) /\
   (∀ (r ou s2 : Addr) (H1 : Hp), Same H H1 -> H r = none -> H ou = none -> H1 r = some (.tup [.ref ou, .ref s2]) -> H1 ou = some (.lst ((g0q (zs ++ xs) zs.length n p q t (t + 1)).map V.int)) -> H1 s2 = some (.tup (((zs ++ xs).drop ((zs ++ xs).length - n * t)).map V.int)) -> Q (.ref r) H1)
 | _ => False
noncomputable def d1v (X : Nat -> Int) (p q : Int) (t : Nat) : Nat -> Int
 | 0 => 0
 | j + 1 => d1v X p q t j + X j * f8o p q t j
noncomputable def horn (X : Nat -> Int) (p q : Int) (t : Nat) : Nat -> Int
 | 0 => 0
 | j + 1 => (horn X p q t j + X (t - j) * q ^ j) * p
noncomputable def f8q (C : Addr) : Sp := fun vs H Q _ => match vs with
 | [.ref o, .ref gt] => ∃ dx, H o = some (.ins C dx []) ∧ (∀ H1, a6y o H H1 → H1 o = some (.ins C dx [("gain", .ref gt)]) → Q .non H1)
 | _ => False
noncomputable def f1i (C : Addr) : Sp := fun vs H Q _ => match vs with
 | [.ref o, .int n] => ∃ dx, H o = some (.ins C dx []) ∧ (∀ H1, a6y o H H1 → H1 o = some (.ins C dx [("many", .int n)]) → Q .non H1)
 | _ => False
noncomputable def f8r (C : Addr) : Sp := fun vs H Q _ => match vs with
 | [.ref o, .ref gt, .int n] => ∃ dx, H o = some (.ins C dx []) ∧ (∀ H1, a6y o H H1 → H1 o = some (.ins C dx [("gain", .ref gt), ("many", .int n)]) → Q .non H1)
 | _ => False
noncomputable def clsOf (A : Ad) : Dt -> Addr
 | .gain _ => A.a3h
 | .delay _ => A.a1y
 | .echo .. => A.a1s
 | _ => A.a2v
noncomputable def gnF (g : Addr) : List (Str × V) := [("gain", .ref g)]
noncomputable def dlF (n : Nat) : List (Str × V) := [("many", .int n)]
noncomputable def bkF (g : Addr) (n : Nat) : List (Str × V) := [("gain", .ref g), ("many", .int n)]
noncomputable def h3a (H : Hp) (fs : List (Str × V)) : Dt -> Prop
 | .gain y => ∃ g, fs = gnF g /\ H g = some (.tup (d8j y))
 | .delay n => fs = dlF n
 | .echo y n t => ∃ g fa, fs = ecF g fa n t (y.den : Int) /\ H g = some (.tup (d8j y)) /\ H fa = some (.tup ((g0p y.num (y.den : Int) t).map V.int))
 | .back y n => ∃ g, fs = bkF g n /\ H g = some (.tup (d8j y))
 | _ => False
noncomputable def IsP (A : Ad) (H : Hp) (o : Addr) (d : Dt) : Prop := ∃ dx fs, H o = some (.ins (clsOf A d) dx fs) /\ h3a H fs d
noncomputable def c5r : Sp := fun vs H Q _ => match vs with
 | [.ref o] => All (d1n H []) Q ⟨⟩ ⟨⟩
 | _ => False
noncomputable def IsG (C : Addr) (H : Hp) (o : Addr) (p q : Int) : Prop := ∃ dx gt, H o = some (.ins C dx [("gain", .ref gt)]) ∧ H gt = some (.tup [.int p, .int q])
noncomputable def f1j (C : Addr) : Sp := fun vs H Q _ => match vs with
 | [.ref o] => ∃ p q, IsG C H o p q /\ Q (.int q) H
 | _ => False
noncomputable def g4g (C : Addr) : Sp := fun vs H Q _ => match vs with
 | [.ref o, .ref st, .ref x, .int _] => ∃ (p q : Int) (xs : List Int), IsG C H o p q /\ H x = some (.lst (xs.map V.int)) /\ xs.length <= 100000 /\ (∀ y ∈ xs, IntMulOk y p) /\
   (∀ (r ou s2 : Addr) (H1 : Hp), Same H H1 -> H r = none -> H ou = none -> H1 r = some (.tup [.ref ou, .ref s2]) -> H1 ou = some (.lst ((xs.map (· * p)).map V.int)) -> Q (.ref r) H1)
 | _ => False
noncomputable def IsD (C : Addr) (H : Hp) (o : Addr) (n : Nat) : Prop := ∃ dx, H o = some (.ins C dx [("many", .int n)])
noncomputable def d3t : Sp := fun vs H Q _ => match vs with
 | [.ref o] => Q (.int 1) H
 | _ => False
noncomputable def g4h (C : Addr) : Sp := fun vs H Q _ => match vs with
 | [.ref o, .ref st, .ref x, .int _] => ∃ (n : Nat) (zs xs : List Int), IsD C H o n /\ H st = some (.tup (zs.map V.int)) /\ H x = some (.lst (xs.map V.int)) /\ zs.length <= 100000 /\ xs.length <= 100000 /\
   (∀ (r ou s2 : Addr) (H1 : Hp), Same H H1 -> H r = none -> H ou = none -> H1 r = some (.tup [.ref ou, .ref s2]) -> H1 ou = some (.lst ((d7o (zs ++ xs) zs.length n).map V.int)) -> H1 s2 = some (.tup (((zs ++ xs).drop ((zs ++ xs).length - n)).map V.int)) -> Q (.ref r) H1)
 | _ => False
noncomputable def f1k (C : Addr) : Sp := fun vs H Q _ => match vs with
 | [.ref o] => ∃ dx gt n p q, H o = some (.ins C dx (bkF gt n)) /\ H gt = some (.tup [.int p, .int q]) /\ Q (.int q) H
 | _ => False
noncomputable def g4i (C : Addr) : Sp := fun vs H Q _ => match vs with
 | [.ref o, .ref st, .ref x, .int _] => ∃ dx gt n p q zs xs, H o = some (.ins C dx (bkF gt n)) /\ H gt = some (.tup [.int p, .int q]) /\ H st = some (.tup (zs.map V.int)) /\ H x = some (.lst (xs.map V.int)) /\ zs.length <= 100000 /\ xs.length <= 100000 /\ (∀ y ∈ zs, IntMulOk y (-p)) /\ (∀ y ∈ xs, IntMulOk y (-p)) /\ (∀ y ∈ xs, IntMulOk y q) /\ IntMulOk 0 (-p) /\
   (∀ (r ou s2 : Addr) (H1 : Hp), Same H H1 -> H r = none -> H ou = none -> H s2 = none -> H1 r = some (.tup [.ref ou, .ref s2]) -> H1 ou = some (.lst ((g0o (xs.map (· * q)) ((d7o (zs ++ xs) zs.length n).map (· * (-p)))).map V.int)) -> H1 s2 = some (.tup (((zs ++ xs).drop ((zs ++ xs).length - n)).map V.int)) -> Q (.ref r) H1)
 | _ => False
noncomputable def b8p (xs : List Int) (i : Int) : Int := if i < 0 then 0 else xs.getD i.toNat 0
noncomputable def d1w : Dt -> List (Int × Nat)
 | .gain y => [(y.num, 0)]
 | .delay n => [(1, n)]
 | .echo y n t => (List.range (t + 1)).map fun m => (f8o y.num (y.den : Int) t m, m * n)
 | .back y n => [((y.den : Int), 0), (-y.num, n)]
 | _ => []
noncomputable def tap (L : List (Int × Nat)) (X : Int -> Int) (i : Int) : Int := (L.map fun c => c.1 * X (i - (c.2 : Int))).sum
noncomputable def outs (d : Dt) (xs ys : List Int) : List Int := (List.range ys.length).map fun i => tap (d1w d) (b8p (xs ++ ys)) ((xs.length + i : Nat) : Int)
noncomputable def b3t : Dt -> Int
 | .gain y => y.den
 | .echo y _ t => (y.den : Int) ^ t
 | .back y _ => y.den
 | _ => 1
noncomputable def StV (H : Hp) (xs : List Int) (st : V) : Dt -> Prop
 | .gain _ => ∃ p, st = V.ref p
 | .delay n => ∃ p, st = V.ref p /\ H p = some (.tup ((xs.drop (xs.length - n)).map V.int))
 | .echo _ n t => ∃ p, st = V.ref p /\ H p = some (.tup ((xs.drop (xs.length - n * t)).map V.int))
 | .back _ n => ∃ p, st = V.ref p /\ H p = some (.tup ((xs.drop (xs.length - n)).map V.int))
 | _ => False
noncomputable def d0y (A : Ad) (k : Nat) : Sp := fun vs H Q _ => match vs with
 | [.ref o, st, .ref l, .int _] => ∃ (d : Dt) (xs ys : List Int), d.kd = k /\ IsP A H o d /\ d.ok /\ StV H xs st d /\ H l = some (.lst (ys.map V.int)) /\ xs.length <= 40000 /\ ys.length <= 40000 /\ (∀ y ∈ xs ++ ys, intBits y <= 100000) /\
   (∀ r ou st' H1, Same H H1 -> H r = none -> H ou = none -> H1 r = some (.tup [.ref ou, st']) -> H1 ou = some (.lst ((outs d xs ys).map V.int)) -> StV H1 (xs ++ ys) st' d -> Q (.ref r) H1)
 | _ => False
noncomputable def d8y (A : Ad) (k : Nat) : Sp := fun vs H Q _ => match vs with
 | [.ref o] => ∃ (d : Dt), d.kd = k /\ IsP A H o d /\ Q (.int (b3t d)) H
 | _ => False
noncomputable def h7i : Sp := fun vs H Q _ => match vs with
 | [.str x] => ∃ y : Rat, x = fW y /\ YOk y /\ All (d1n H (d8j y)) Q ⟨⟩ ⟨⟩
 | _ => False
noncomputable def h7j : Sp := fun vs H Q _ => match vs with
 | [.str x, .int a, .int b] => ∃ n : Nat, sg x = txt (n : Int) /\ n < 10 ^ 9 /\ a <= n /\ (n : Int) <= b /\ Q (.int n) H
 | _ => False
noncomputable def h7k : Sp := fun vs H Q _ => match vs with
 | [.str x] => ∃ n : Nat, x = nW n /\ 1 <= n /\ n <= 1000 /\ Q (.int n) H
 | _ => False
noncomputable def h7l : Sp := fun vs H Q _ => match vs with
 | [.ref l, .int c] => ∃ xs, H l = some (.lst xs) /\ (xs.length : Int) = c /\ Q .non H
 | _ => False
noncomputable def h1q (A : Ad) (k : Nat) : Sp := fun vs H Q _ => match vs with
 | [.ref l] => ∃ d : Dt, d.kd = k /\ d.ok /\ H l = some (.lst (d.vals.map V.str)) /\ (∀ o H1, H o = none -> Same H H1 -> IsP A H1 o d -> Q (.ref o) H1)
 | _ => False
noncomputable def g4j (A : Ad) : Sp := fun vs H Q _ => match vs with
 | [.str x] => ∃ d : Dt, d.ok /\ d.kd < 4 /\ x = d.word /\ (∀ o H1, H o = none -> Same H H1 -> IsP A H1 o d -> Q (.ref o) H1)
 | _ => False
noncomputable def run (ds : List Dt) (xs : List Int) : List Int := ds.foldl (fun r d => outs d [] r) xs
noncomputable def blk : List Dt -> List Int -> List Int -> List Int
 | [], _, b => b
 | d :: ds, a, b => blk ds (outs d [] a) (outs d a b)
noncomputable def a8n (b : Int) (ds : List Dt) : Int := ds.foldl (fun b d => b * b3t d) b
noncomputable def f4q (A : Ad) (H : Hp) (os : List Addr) (ds : List Dt) : Prop := os.length = ds.length /\ ∀ (i : Nat) o d, os[i]? = some o -> ds[i]? = some d -> IsP A H o d
noncomputable def Sts (H : Hp) (ds : List Dt) (sts : List V) (xs : List Int) : Prop := sts.length = ds.length /\ ∀ (i : Nat) st d, sts[i]? = some st -> ds[i]? = some d -> StV H (run (ds.take i) xs) st d
noncomputable def chF (pl sl : Addr) : List (Str × V) := [("parts", .ref pl), ("states", .ref sl)]
noncomputable def ch1 (pl : V) : List (Str × V) := [("parts", pl)]
noncomputable def ChS (A : Ad) (H : Hp) (o : Addr) (ds : List Dt) (xs : List Int) : Prop := ∃ dx pl sl os sts, H o = some (.ins A.a3z dx (chF pl sl)) /\ H pl = some (.lst (os.map V.ref)) /\ H sl = some (.lst sts) /\ f4q A H os ds /\ Sts H ds sts xs
noncomputable def Lk (H : Hp) (D : Addr) : Prop := (∀ ts, H D ≠ some (.tup ts)) /\ ∀ c dx fs, H D = some (.ins c dx fs) -> (fs = [] \/ (∃ pl : V, fs = ch1 pl) \/ ∃ pl sl, fs = chF pl sl)
noncomputable def h1r (A : Ad) : Sp := fun vs H Q _ => match vs with
 | [.ref l] => ∃ ds : List Dt, H l = some (.lst (ds.map fun d => V.str d.word)) /\ ds.length <= 8 /\ (∀ d ∈ ds, d.ok /\ d.kd < 4) /\ (∀ p os H1, H p = none -> Same H H1 -> H1 p = some (.lst (os.map V.ref)) -> f4q A H1 os ds -> Q (.ref p) H1)
 | _ => False
noncomputable def f8s (A : Ad) : Sp := fun vs H Q _ => match vs with
 | [.ref o, .ref l] => ∃ (dx : Addr) (ds : List Dt), H o = some (.ins A.a3z dx []) /\ H l = some (.lst (ds.map fun d => V.str d.word)) /\ ds.length <= 8 /\ (∀ d ∈ ds, d.ok /\ d.kd < 4) /\ (∀ H1, a6y o H H1 -> ChS A H1 o ds [] -> Q .non H1)
 | _ => False
noncomputable def g4k (A : Ad) : Sp := fun vs H Q _ => match vs with
 | [.ref o, .ref l, .int b] => ∃ (ds : List Dt) (xs ys : List Int), ChS A H o ds xs /\ H l = some (.lst (ys.map V.int)) /\ ds.length <= 8 /\ (∀ d ∈ ds, d.ok) /\ xs.length <= 10000 /\ ys.length <= 10000 /\ intBits b <= 64 /\ (∀ y ∈ xs ++ ys, intBits y <= 64) /\
   (∀ rr lo H1, a6y o H H1 -> H rr = none -> H lo = none -> H1 rr = some (.tup [.ref lo, .int (a8n b ds)]) -> H1 lo = some (.lst ((blk ds xs ys).map V.int)) -> ChS A H1 o ds (xs ++ ys) -> Q (.ref rr) H1)
 | _ => False
noncomputable def g4l (K : PySem.W.Frag) : Sp := fun vs H Q _ => match vs with | [.ref a, .int k] => ∃ ns : List Int, SqL K H a (ns.map V.int) /\ 0 <= k /\ Q (.int (ns.getD k.toNat 0)) H | _ => False
noncomputable def f8t : Sp := fun vs H Q _ => match vs with | [.int _] => Q (.bl true) H | _ => False
noncomputable def f8u : Sp := fun vs H Q _ => match vs with
 | [.int c, .bl _] => intBits c <= 1100000 /\ (∀ (y : Rat) p H1, YOk y -> H p = none -> Same H H1 -> H1 p = some (.tup (d8j y)) -> Q (.ref p) H1)
 | _ => False
noncomputable def f8v (c : Int) : Int := if ((c * 48271).fmod 999983).fmod 4 = 1 then 0 else (c * 618033988749894848204587).fmod 2000000000001 - 1000000000000
noncomputable def f8w : Sp := fun vs H Q _ => match vs with | [.int c] => intBits c <= 1100000 /\ Q (.int (f8v c)) H | _ => False
noncomputable def d6o : Sp := fun vs H Q _ => match vs with
 | [.ref p] => ∃ y : Rat, H p = some (.tup (d8j y)) /\ YOk y /\ Q (.str (fW y)) H
 | _ => False
noncomputable def f8y : Sp := fun vs H Q _ => match vs with
 | [.int n, .int k] => ∃ m : Nat, k = m /\ m <= 20 /\ intBits n <= 10 /\ Q (.int (n ^ m)) H
 | _ => False
noncomputable def d0p (ds : List Dt) (i : Nat) (d : Dt) : List Dt := ds.take i ++ d :: ds.drop i
noncomputable def f8z : Sp := fun vs H Q _ => match vs with
 | [.ref pg, .ref pm, .int n, .int t, .int f, .int u] => ∃ (y m : Rat) (n' t' f' : Nat), H pg = some (.tup (d8j y)) /\ H pm = some (.tup (d8j m)) /\ YOk y /\ YOk m /\ n = n' /\ t = t' /\ f = f' /\ n' <= 1000 /\ t' <= 1000 /\ f' <= 1000 /\ 0 <= u /\
   (∀ (i j : Nat) l H1, H l = none -> Same H H1 -> H1 l = some (.lst ((d0p (d0p [.echo y n' t', .back y n'] i (.gain m)) j (.delay f')).map fun d => V.str d.word)) -> Q (.ref l) H1)
 | _ => False
noncomputable def h1s : Sp := fun vs H Q _ => match vs with
 | [.ref l, .int i] => ∃ xs : List Int, H l = some (.lst (xs.map V.int)) /\ i < (xs.length : Int) /\ Q (.int (b8p xs i)) H
 | _ => False
noncomputable def f3o (ds : List Dt) (X : Int -> Int) : Int -> Int := ds.foldl (fun X d => tap (d1w d) X) X
noncomputable def f9g : Sp := fun vs H Q _ => match vs with
 | [.ref r, .ref bl, .ref rw, .int st, .ref tl] => ∃ (lo pg pm : Addr) (G b : Int) (fs bs row : List Int) (y m : Rat) (s n t far : Nat), H r = some (.tup [.ref lo, .int G]) /\ H lo = some (.lst (fs.map V.int)) /\ H bl = some (.lst (bs.map V.int)) /\ fs.length = bs.length /\ H rw = some (.lst (row.map V.int)) /\ st = s /\ s + fs.length <= row.length /\ row.length <= 10000 /\ H tl = some (.tup [.ref pg, .ref pm, .int n, .int t, .int far, .int b]) /\ H pg = some (.tup (d8j y)) /\ H pm = some (.tup (d8j m)) /\ YOk y /\ YOk m /\ n <= 1000 /\ t <= 16 /\ far <= 1000 /\ 1 <= G /\ intBits G <= 2000 /\ intBits b <= 64 /\ (∀ z ∈ fs, intBits z <= 2000) /\ (∀ z ∈ row, intBits z <= 64) /\
   (∀ k : Nat, k < fs.length -> fs.getD k 0 * b * (y.den : Int) ^ (t + 1) * (m.den : Int) = m.num * (b8p row (((s + k : Nat) : Int) - far) * (y.den : Int) ^ (t + 1) - y.num ^ (t + 1) * b8p row (((s + k : Nat) : Int) - far - (((t + 1) * n : Nat) : Int))) * G) /\ Q (.bl true) H
 | _ => False
local macro_rules | `(tactic| walk_at $s:str) => do
 unless s.getString == "rd" || s.getString == "rd*" do Lean.Macro.throwUnsupported
 let z <- `(Lean.Parser.Tactic.simpLemma| true_and)
 let y <- `(Lean.Parser.Tactic.simpStar| *)
 let x : Lean.TSyntax [`Lean.Parser.Tactic.simpStar, `Lean.Parser.Tactic.simpErase, `Lean.Parser.Tactic.simpLemma] := if s.getString == "rd" then ⟨z.raw⟩ else ⟨y.raw⟩
 `(tactic| simp (config := { maxSteps := 1000000, dsimp := false }) only [$x, ↓g6b, ↓h1j, ↓g4c, ↓h1l, ↓f8l, ↓g4d, ↓h1n, ↓h1o, ↓f8m, ↓d6n, ↓g4e, ↓h1p, ↓f8p, ↓f1g, ↓f1h, ↓g4f, ↓f8q, ↓f1i, ↓f8r, ↓c5r, ↓f1j, ↓g4g, ↓d3t, ↓g4h, ↓f1k, ↓g4i, ↓d0y, ↓d8y, ↓h7i, ↓h7j, ↓h7k, ↓h7l, ↓h1q, ↓g4j, ↓h1r, ↓f8s, ↓g4k, ↓g4l, ↓f8t, ↓f8u, ↓f8w, ↓d6o, ↓f8y, ↓f8z, ↓h1s, ↓f9g, h4e, ↓g9x, ↓h6t, ↓h6u, ↓g9z, ↓h0a, ↓h6v, ↓h0b, ↓g3s, ↓h0d, ↓g3t, ↓h6w, Bool.bne_false, Bool.bne_true, h4e, ↓gSub, ↓h4g, ↓g4b, ↓h7g, ↓h7f, ↓h1a, ↓h0n, h4e, ↓g5l, ↓h0e, ↓g1l, ↓b1j, ↓g3u, asNew, ↓rInF, ↓h4d, ↓g5p, ↓rIsI, ↓g5q, ↓g5r, ↓f7p, ↓g5s, lookup_same, d5v, f7m, f2o, g1m, List.lookup_nil, nq0, nq1, nq2, nq3, nq4, nq5, nq6, nq7, nq8, nq9, nq10, nq11, nq12, nq13, nq14, nq15, nq16, nq17, nq18, nq19, nq20, nq21, nq22, nq23, nq24, nq25, nq26, nq27, nq28, nq29, nq30, nq31, nq32, nq33, nq34, nq35, nq36, nq37, nq38, nq39, nq40, nq41, nq42, nq43, nq44, nq45, nq46, nq47, nq48, nq49, nq50, nq51, nq52, nq53, nq54, ↓h5i, ↓h2r, ↓b8u, ↓tC, ↓g0t, ↓tOp, ↓tUn, ↓h5l, ↓h5k, ↓h3e, ↓g7r, ↓tCB, ↓g8h, ↓f5t, ↓g8y, ↓g8z, ↓g4w, ↓h5g, ↓tOr, ↓h5h, ↓tBF, ↓g5i, ↓tOrF, ↓g5j, ↓g7s, ↓tIf, ↓g8w, ↓f6p, ↓f6u, ↓f6v, ↓g9i, ↓f6w, ↓tSl, ↓f5y, ↓f6y, ↓rIF, ↓g5h, ↓rUF, ↓g9a, ↓g9b, ↓h3u, ↓h3v, ↓h6l, ↓h6m, ↓g9c, ↓g9k, ↓g9l, ↓g9j, ↓h6h, ↓h6n, ↓h6o, ↓h6p, ↓g3n, ↓h3z, ↓g5k, ↓h6q, ↓g9s, ↓g9r, ↓g3p, ↓g9m, ↓g9n, ↓g9o, ↓g9p, ↓g3b, ↓g9w, ↓g9t, ↓g9u, ↓g9v, ↓hAs, ↓L2.start, g9d, g9e, g9f, g9g, g9h, f6n, Ty.nm, h3i, g8x, g3i, g3j, g3k, g3l, d5q, d7z, List.map_cons, List.map_nil, List.length_cons, List.length_nil, List.length_map, List.replicate, List.cons_append, List.nil_append, List.append_nil, List.getElem?_cons_zero, List.getElem?_cons_succ, List.set_cons_zero, List.set_cons_succ, Option.some.injEq, exists_eq_left', exists_eq_left, exists_and_left, V.int.injEq, V.bl.injEq, V.str.injEq, V.ref.injEq, V.ty.injEq, Value.ref.injEq, List.cons.injEq, HO.lst.injEq, HO.tup.injEq, Int.zero_add, List.length_append, and_true, true_and, g5c, g5d, g5e, g5f, g5g, two_line, if_true, reduceCtorEq, if_false, Bool.false_eq_true, decide_eq_true_eq, decide_eq_false_iff_not, decide_true, decide_false, Bool.or_true, Bool.true_or, Bool.or_false, Bool.false_or, Bool.and_true, Bool.true_and, Bool.and_false, Bool.false_and, or_false, false_or, Nat.zero_add, Nat.reduceAdd, Nat.reduceSub, exists_const, false_and, and_false, Bool.not_true, Bool.not_false, Bool.not_eq_true', ne_eq, not_true_eq_false, not_false_eq_true, Int.reduceEq, Int.reduceNe, Int.reduceLT, Int.reduceLE, Int.reducePow, Int.reduceMul, Int.reduceAdd, Int.reduceSub, Int.reduceNeg, Int.reduceToNat, Nat.reducePow, Nat.reduceLT, Nat.reduceLeDiff])
theorem f1l {l r : Int} (hl : 0 <= l) (hr : 0 < r) : Int.gcd r (l.fmod r) = Int.gcd l r := by
 rw [Int.fmod_eq_emod_of_nonneg _ (by omega)]
 obtain ⟨x, rfl⟩ := Int.eq_ofNat_of_zero_le hl
 obtain ⟨y, rfl⟩ := Int.eq_ofNat_of_zero_le (by omega : 0 <= r)
 rw [<- Int.natCast_emod, Int.gcd_natCast_natCast, Int.gcd_natCast_natCast, Nat.gcd_comm x y, Nat.gcd_rec y x, Nat.gcd_comm]
theorem f9h {l r : Int} (hl : 0 <= l) (hr : 0 < r) : 0 <= l.fmod r /\ l.fmod r < r := by
 rw [Int.fmod_eq_emod_of_nonneg _ (by omega)]
 exact ⟨Int.emod_nonneg _ (by omega), Int.emod_lt_of_pos _ hr⟩
theorem b1v (a : Int) {b : Int} (hb : 0 < b) : 0 <= a.fmod b /\ a.fmod b < b := by
 rw [Int.fmod_eq_emod_of_nonneg _ (by omega)]
 exact ⟨Int.emod_nonneg _ (by omega), Int.emod_lt_of_pos _ hb⟩
theorem d3u (a b : Int) : Int.gcd (a.natAbs : Int) (b.natAbs : Int) = Int.gcd a b := by
 rw [Int.gcd_natCast_natCast]; rfl
theorem gcd_zero {l : Int} (hl : 0 <= l) : ((Int.gcd l 0 : Nat) : Int) = l := by
 rw [Int.gcd_zero_right]; omega
theorem g1y {a b : Int} {n : Nat} (h : a ≠ 0) (ha : intBits a <= n) : intBits (Int.gcd a b : Int) <= n := by
 refine intBits_le_of_natAbs ?_ ha
 rw [Int.natAbs_natCast]
 exact Nat.le_of_dvd (by omega) (Nat.gcd_dvd_left _ _)
theorem b7v {a g : Int} (hg : 0 < g) (h : g ∣ a) : (a.fdiv g).natAbs = a.natAbs / g.natAbs := by
 rw [Int.fdiv_eq_ediv_of_nonneg _ (by omega)]
 obtain ⟨k, rfl⟩ := h
 rw [Int.mul_ediv_cancel_left _ (by omega), Int.natAbs_mul, Nat.mul_div_cancel_left _ (by omega)]
theorem g1z {a b : Int} (h : ¬ (a = 0 /\ b = 0)) : ((Int.gcd (a.fdiv (Int.gcd a b : Int)) (b.fdiv (Int.gcd a b : Int)) : Nat) : Int) = 1 := by
 have hp : 0 < Int.gcd a b := by
  rw [Int.gcd_pos_iff]
  omega
 have e : Int.gcd (a.fdiv (Int.gcd a b : Int)) (b.fdiv (Int.gcd a b : Int)) = 1 := by
  show Nat.gcd _ _ = 1
  rw [b7v (by omega) (Int.gcd_dvd_left a b), b7v (by omega) (Int.gcd_dvd_right a b), Int.natAbs_natCast]
  exact Nat.coprime_div_gcd_div_gcd hp
 rw [e]
 rfl
theorem h1t {t b : Int} (hb : b ≠ 0) : t.fdiv (if b < 0 then -(Int.gcd t b : Int) else (Int.gcd t b : Int)) = (Rat.divInt t b).num := by
 rw [Rat.num_divInt, Int.gcd_comm b t]
 have hp : 0 < Int.gcd t b := Int.gcd_pos_of_ne_zero_right t hb
 obtain ⟨k, hk⟩ : (Int.gcd t b : Int) ∣ t := Int.gcd_dvd_left t b
 generalize hg : (Int.gcd t b : Int) = g at *
 have hg0 : 0 < g := by omega
 by_cases h : b < 0
 ·rw [if_pos h, Int.sign_eq_neg_one_of_neg h, hk]
  rw [show g * k = (-g) * (-k) by grind, Int.mul_fdiv_cancel_left _ (by omega), show -1 * (-g * -k) = g * (-k) by grind, Int.mul_ediv_cancel_left _ (by omega)]
 ·rw [if_neg h, Int.sign_eq_one_of_pos (by omega), hk, Int.mul_fdiv_cancel_left _ (by omega), Int.one_mul, Int.mul_ediv_cancel_left _ (by omega)]
theorem h1u {t b : Int} (hb : b ≠ 0) : b.fdiv (if b < 0 then -(Int.gcd t b : Int) else (Int.gcd t b : Int)) = ((Rat.divInt t b).den : Int) := by
 rw [Rat.den_divInt, if_neg hb, Int.gcd_comm b t]
 have hp : 0 < Int.gcd t b := Int.gcd_pos_of_ne_zero_right t hb
 obtain ⟨k, hk⟩ : (Int.gcd t b : Int) ∣ b := Int.gcd_dvd_right t b
 rw [Int.natCast_ediv]
 generalize hg : (Int.gcd t b : Int) = g at *
 have hg0 : 0 < g := by omega
 by_cases h : b < 0
 ·have e : ((b.natAbs : Nat) : Int) = -b := by omega
  rw [if_pos h, e, hk, show g * k = (-g) * (-k) by grind, Int.mul_fdiv_cancel_left _ (by omega), show -(-g * -k) = g * (-k) by grind, Int.mul_ediv_cancel_left _ (by omega)]
 ·have e : ((b.natAbs : Nat) : Int) = b := by omega
  rw [if_neg h, e, hk, Int.mul_fdiv_cancel_left _ (by omega), Int.mul_ediv_cancel_left _ (by omega)]
theorem f3p (T : Tx K mg A) : a1n P A.wd K mg base CX0 1 A.b3g A.c4y ["one", "other"] g6b := by
 refine T.b9s.ok b2r (fun vs H Q E h => ?_) (fun cdv A' outer s H vs Q E hr h => ?_)
 ·match vs, h with
  | [.int a, .int b], _ => rfl
 ·match vs, h with
  | [.int a, .int b], q =>
  have q : Q (.int (Int.gcd a b)) H := q
  have hu := hr.units
  refine ⟨_, (a0i (a0t (i := 2) b2r.nd rfl (Or.inl rfl) (a0w b8v (by rfl) T.d3i boot_abs (a0g (pvF 0) a0j)))
   (a0i (a0t (i := 3) b2r.nd rfl (Or.inl rfl) (a0w b8v (by rfl) T.d3i boot_abs (a0g (pvF 1) a0j)))
   (a0i (d5m PassesOwn.never (a2h (c3r hu) (pvF 3) a0k (a3r _))
   (a0i (a0t (i := 4) b2r.nd rfl (Or.inl rfl) (a0s a6r (pvF 2) (pvF 3)))
   (a0i (a0t (i := 2) b2r.nd rfl (Or.inl rfl) (pvF 3))
   (a0l (a0t (i := 3) b2r.nd rfl (Or.inl rfl) (pvF 4))))))
   (a0l (a1h (pvF 2)))))), ?_⟩
  walk_at "rd"
  refine d5n (fun m σ H1 => ∃ l r z, σ = [some (.int a), some (.int b), some (.int l), some (.int r), z] /\ H1 = H /\ 0 <= l /\ 0 <= r /\ m = r.toNat /\ Int.gcd l r = Int.gcd a b) _
   ⟨_, _, _, rfl, rfl, by omega, by omega, rfl, d3u a b⟩ ?_
  rintro m σ H1 ⟨l, r, z, rfl, rfl, hl, hr', rfl, hg⟩
  walk_at "rd"
  split
  ·rename_i h
   have hp : 0 < r := by omega
   have f := f9h hl hp
   exact ⟨h, _, (by omega : (l.fmod r).toNat < r.toNat), _, _, _, ⟨rfl, rfl, rfl⟩, hr', f.1, rfl, (f1l hl hp).trans hg⟩
  ·rename_i h
   obtain rfl : r = 0 := by omega
   rw [<- hg, gcd_zero hl] at q
   exact q
theorem d8z (T : Tx K mg A) : a1n P A.wd K mg base CX0 1 A.b0k A.c2i ["value"] h1j := by
 refine T.b2s.ok d8q (fun vs H Q E h => ?_) (fun cdv A' outer s H vs Q E hr h => ?_)
 ·match vs, h with
  | [.int i], _ => rfl
 ·match vs, h with
  | [.int i], q =>
  have hu := hr.units
  refine ⟨_, (a0l (a1h (f6s (a0w (b1w .int) (by rfl) T.a1u boot_isinstance (a0g (pvF 0) (a0g (b6s (v := .ty "int") (u := .type "int") (by rfl) T.d0u rfl rfl) a0j))) (g3a (f6t (a0w (b1w .bl) (by rfl) T.a1u boot_isinstance (a0g (pvF 0) (a0g (b6s (v := .ty "bool") (u := .type "bool") (by rfl) T.d1u rfl rfl) a0j)))))))), ?_⟩
  walk_at "rd"
  exact q
theorem d9g (T : Tx K mg A) : a1n P A.wd K mg base CX0 2 A.b0m A.c2k ["top", "bottom"] g4c := by
 have d1y : a1n P A.wd K mg base CX0 1 _ _ _ _ := d8z T
 have f9i : a1n P A.wd K mg base CX0 1 _ _ _ _ := f3p T
 refine T.b6k.ok c2h (fun vs H Q E h => ?_) (fun cdv A' outer s H vs Q E hr h => ?_)
 ·match vs, h with
  | [.int t, .int b], _ => rfl
 ·match vs, h with
  | [.int t, .int b], ⟨hb, h1, h2, k⟩ =>
  have hu := hr.units
  have c9h : a2y 1 _ := hr.mono (by decide)
  have f3q : a2y 1 _ := hr.mono (by decide)
  refine ⟨_, (a0i (a9s (pw_or (b8l (a6w (a0n d1y c9h (by rfl) T.d1s T.b2s.kp T.c1q .nil a1g (a0g (pvF 0) a0j)))) (pw_or1 (b8l (a6w (a0n d1y c9h (by rfl) T.d1s T.b2s.kp T.c1q .nil a1g (a0g (pvF 1) a0j)))))).pt
   (a0l a5m)
   a2g)
   (a0i (a9s (a2h (d5p hu) (pvF 1) a0k (a3r _))
   (a0l a5m)
   a2g)
   (a0i (a0t (i := 2) c2h.nd rfl (Or.inl rfl) (a0n f9i f3q (by rfl) T.f8g T.b9s.kp T.c8g .nil a1g (a0g (pvF 0) (a0g (pvF 1) a0j))))
   (b2w (a9s (a2h of_lt (pvF 1) a0k (a3r _))
   (a0l (a0t (i := 2) c2h.nd rfl (Or.inl rfl) (g7z g3m (pvF 2))))
   a2g)
   (a0l (a1h (b4z (a0g (a0s a8r (pvF 0) (pvF 2)) (a0g (a0s a8r (pvF 1) (pvF 2)) a0j))))))))), ?_⟩
  walk_at "rd"
  rw [if_neg hb]
  refine ⟨fun σ' H' => σ' = [some (.int t), some (.int b), some (.int (if b < 0 then -(Int.gcd t b : Int) else (Int.gcd t b : Int)))] /\ H' = H, ?_, ?_⟩
  ·walk_at "rd"
   split
   ·rfl
   ·rfl
  ·rintro σ' H' ⟨rfl, rfl⟩
   have hg : intBits (Int.gcd t b : Int) <= 4000 := by
    rw [Int.gcd_comm]
    exact g1y hb h2
   have hp : 0 < Int.gcd t b := Int.gcd_pos_of_ne_zero_right t hb
   have hc : CFd t (if b < 0 then -(Int.gcd t b : Int) else (Int.gcd t b : Int)) := by
    split
    ·exact ⟨by omega, Nat.le_trans (intBits_neg_le hg) (by decide)⟩
    ·exact ⟨by omega, Nat.le_trans hg (by decide)⟩
   walk_at "rd"
   refine ⟨hc, hc, fun p H1 n1 S1 h1 => k _ _ ⟨p, rfl, n1, S1, ?_⟩⟩
   rw [h1, h1t hb, h1u hb]
   rfl
theorem d6p {n : Nat} (h : n < 10 ^ 9) : n.log2 < 1920 := by
 rcases Nat.eq_zero_or_pos n with z | z
 ·rw [z]; decide
 ·rw [Nat.log2_lt (by omega)]
  exact Nat.lt_of_lt_of_le h (Nat.le_trans (by decide : 10 ^ 9 <= 2 ^ 30) (Nat.pow_le_pow_right (by decide) (by decide)))
theorem d1z {t : Int} (h : t.natAbs < 10 ^ 9) : intBits t <= 4000 := by
 refine Nat.le_trans (intBits_le_iff.mpr (Nat.lt_of_lt_of_le h (by decide : 10 ^ 9 <= 2 ^ 30))) (by decide)
theorem d2g (T : Tx K mg A) : a1n P A.wd K mg base CX0 1 A.a5r A.b6v ["text"] h1l := by
 refine T.a8i.ok c4i (fun vs H Q E h => ?_) (fun cdv A' outer s H vs Q E hr h => ?_)
 ·match vs, h with
  | [.str x], _ => rfl
 ·match vs, h with
  | [.str x], q =>
  have q : Q (.bl (f7o (sg x))) H := q
  have hu := hr.units
  refine ⟨_, (a0i (c1z PassesOwn.never rfl (g9y (pvF 0)) (a6v (i := 1) c4i.nd rfl (Or.inl rfl))
   (a0l (a9s (a2h f7l (pvF 1) (a8q (v := .str "0123456789") (by rfl) T.b6p T.f3m) (by rfl))
   (a0l (a1h d7q))
   a2g)))
   (a0l (a1h (f5n (c3r hu) (pvF 0) b2v (a3r _))))), ?_⟩
  walk_at "rd"
  refine g1k (fun i σ H1 => H1 = H /\ (∃ z, σ = [some (.str x), z]) /\ ((sg x).take i).all (fun c => decide (48 <= c) && decide (c <= 57)) = true) ⟨rfl, ⟨_, rfl⟩, rfl⟩ ?_ ?_
  ·rintro i c σ H1 hc ⟨rfl, ⟨z, rfl⟩, ha⟩
   walk_at "rd"
   have hc' : (sg x)[i]? = some c := by
    unfold sg
    rw [Array.getElem?_toList]
    exact hc
   rw [g5n]
   split
   ·rename_i hb
    have : f7o (sg x) = false := by
     unfold f7o
     rw [show (sg x).all (fun c => decide (48 <= c) && decide (c <= 57)) = false from ?_, Bool.false_and]
     rw [List.all_eq_false]
     exact ⟨c, List.mem_of_getElem? hc', by rw [hb]; decide⟩
    rw [this] at q
    exact q
   ·rename_i hb
    refine ⟨⟨_, rfl⟩, ?_⟩
    rw [List.take_add_one, hc', List.all_append, ha]
    simpa using hb
  ·rintro σ H1 ⟨rfl, ⟨z, rfl⟩, ha⟩
   walk_at "rd"
   have hl : x.cps.size = (sg x).length := by simp
   rw [hl, List.take_length] at ha
   have e : f7o (sg x) = !decide (x = Str.ofString "") := by
    unfold f7o
    rw [ha, Bool.true_and]
    congr 1
    rw [Bool.eq_iff_iff, decide_eq_true_eq, List.isEmpty_iff]
    exact ⟨fun h => b4i (h.trans (by decide +kernel)), fun h => by rw [h]; decide +kernel⟩
   rw [e] at q
   exact q
theorem g2a (T : Tx K mg A) : a1n P A.wd K mg base CX0 1 A.a2z A.b1s ["one"] f8l := by
 refine T.a5w.ok b1r (fun vs H Q E h => ?_) (fun cdv A' outer s H vs Q E hr h => ?_)
 ·match vs, h with
  | [.ref p], _ => rfl
 ·match vs, h with
  | [.ref p], ⟨t, b, hp, l1, l2, q⟩ =>
  have hu := hr.units
  refine ⟨_, (a0i (a0t (i := 1) b1r.nd rfl (Or.inl rfl) (a1o a6s (pvF 0) a0k (fun _ _ => rfl)))
   (a0i (a0t (i := 2) b1r.nd rfl (Or.inl rfl) (a1o a6s (pvF 0) a0k (fun _ _ => rfl)))
   (a0l (a1h (f7k (d8k (g3r (pvF 1)) (d8k b2v (d8k (g3r (pvF 2)) h0c)))))))), ?_⟩
  walk_at "rd*"
  have e0 : Str.empty.length = 0 := rfl
  have e1 : (Str.ofString "/").length = 1 := by decide +kernel
  have e2 : (Str.ofString (toString t)).length = (txt t).length := by rw [<- b8y, c4h]
  have e3 : (Str.ofString (toString b)).length = (txt b).length := by rw [<- b8y, c4h]
  have f2 := d8m t
  have f3 := d8m b
  have hs : sizeLine = 16777216 := sizeLine_eq
  simp only [strLen_append, e0, e1, e2, e3]
  refine ⟨by omega, by omega, by omega, by omega, q _ ?_⟩
  rw [a2i, a2i, a2i, c4h, c4h]
  unfold g3y
  have e4 : sg Str.empty = [] := rfl
  have e5 : sg (Str.ofString "/") = [47] := by decide +kernel
  rw [e4, e5]
  simp
theorem g6c (T : Tx K mg A) : a1n P A.wd K mg base CX0 3 A.a3g A.b1t ["text"] g4d := by
 have c0n : a1n P A.wd K mg base CX0 1 _ _ _ _ := d2g T
 have c9i : a1n P A.wd K mg base CX0 1 _ _ _ _ := g2a T
 have f3r : a1n P A.wd K mg base CX0 2 _ _ _ _ := d9g T
 refine T.a5y.ok a4z (fun vs H Q E h => ?_) (fun cdv A' outer s H vs Q E hr h => ?_)
 ·match vs, h with
  | [.str x], _ => rfl
 ·match vs, h with
  | [.str x], ⟨t, b, g, k⟩ =>
  have hu := hr.units
  have b7w : a2y 1 _ := hr.mono (by decide)
  have c7g : a2y 1 _ := hr.mono (by decide)
  have d9h : a2y 2 _ := hr.mono (by decide)
  obtain ⟨hx, hb, hg, l1, l2⟩ := g
  have hb0 : b ≠ 0 := by omega
  have tb : txt b = dg b.natAbs := if_neg (by omega)
  have sl : Str.ofString "/" = ⟨#[47]⟩ := by decide +kernel
  have mi : Str.ofString "-" = ⟨#[45]⟩ := by decide +kernel
  have sp := g1n (x := x) (c := 47) (by decide) hx (d1o (by decide) (by decide)) (d1o (by decide) (by decide))
  have hs : sizeLine = 16777216 := sizeLine_eq
  have q1 := h0i t
  have xl : x.length = (txt t).length + ((txt b).length + 1) := by rw [<- b8y, hx]; simp [g3y]
  rw [tb] at xl
  obtain ⟨h0, e0⟩ : ∃ h0 : Str, h0 = ⟨(txt t).toArray⟩ := ⟨_, rfl⟩
  obtain ⟨h1, e1⟩ : ∃ h1 : Str, h1 = ⟨(txt b).toArray⟩ := ⟨_, rfl⟩
  have s0 : sg h0 = txt t := by rw [e0]
  have s1 : sg h1 = txt b := by rw [e1]
  have n0 : h0.length = (txt t).length := by rw [<- b8y, s0]
  have n1 : h1.length = (txt b).length := by rw [<- b8y, s1]
  rw [<- e0, <- e1] at sp
  have sw := h0j s0
  have i0 := c4v s0 (by omega)
  have i1 := c4v s1 (by rw [tb] at n1; omega)
  have r0 : Rat.divInt t b = ⟨t, b.toNat, by omega, by
   show Nat.gcd t.natAbs b.toNat = 1
   rw [<- hg]
   unfold Int.gcd
   congr 1
   omega⟩ := by
   rw [Rat.mk_eq_divInt]
   congr 1
   omega
  refine ⟨_, (a0i (a9s (b8l (a6w (a0w (b1w .str) (by rfl) T.a1u boot_isinstance (a0g (pvF 0) (a0g (b6s (v := .ty "str") (u := .type "str") (by rfl) T.c6y rfl rfl) a0j)))))
   (a0l a5m)
   a2g)
   (a0i (a0t (i := 1) a4z.nd rfl (Or.inl rfl) (c3w c3v PySem.F.plainAttrs_str PySem.F.slot_str_split PySem.F.type_str_split f0r (pvF 0) (a0g b2v a0j)))
   (a0i (a9s (a2h (c3r hu) (a0w a2o (by rfl) T.b4g boot_len (a0g (pvF 1) a0j)) a0k (a3r _))
   (a0l a5m)
   a2g)
   (b2w (a0t (i := 2) a4z.nd rfl (Or.inl rfl) (f0i (a6w (c3w c3v PySem.F.plainAttrs_str PySem.F.slot_str_startswith PySem.F.type_str_startswith c3y (a1o a6s (pvF 1) a0k (fun _ _ => rfl)) (a0g b2v a0j))) (a6h f4p (a1o a6s (pvF 1) a0k (fun _ _ => rfl)) (a5n a0k) b1p) (a1o a6s (pvF 1) a0k (fun _ _ => rfl))))
   (a0i (c1z PassesOwn.never rfl (c3t (c7r (a0g (pvF 2) (a0g (a1o a6s (pvF 1) a0k (fun _ _ => rfl)) a0j)))) (a6v (i := 3) a4z.nd rfl (Or.inl rfl))
   (a0l (a9s (pw_or (b8l (a6w (a0n c0n b7w (by rfl) T.c6o T.a8i.kp T.b4k .nil a1g (a0g (pvF 3) a0j)))) (pw_or1 (a2h d8g (a0w a2o (by rfl) T.b4g boot_len (a0g (pvF 3) a0j)) (a8q (v := .int 9) (by rfl) T.a2k T.b8s) (a3r _)))).pt
   (a0l a5m)
   a2g)))
   (a0i (a9s (a2h (d5p hu) (a2s c3z (by rfl) T.d0u boot_int (a0g (a1o a6s (pvF 1) a0k (fun _ _ => rfl)) a0j)) a0k (a3r _))
   (a0l a5m)
   a2g)
   (a0i (a0t (i := 4) a4z.nd rfl (Or.inl rfl) (a0n f3r d9h (by rfl) T.f3j T.b6k.kp T.c5n .nil a1g (a0g (a2s c3z (by rfl) T.d0u boot_int (a0g (a1o a6s (pvF 1) a0k (fun _ _ => rfl)) a0j)) (a0g (a2s c3z (by rfl) T.d0u boot_int (a0g (a1o a6s (pvF 1) a0k (fun _ _ => rfl)) a0j)) a0j))))
   (a0i (a9s (a2h (c3r hu) (a0n c9i c7g (by rfl) T.c8h T.a5w.kp T.b3l .nil a1g (a0g (pvF 4) a0j)) (pvF 0) (a3r _))
   (a0l a5m)
   a2g)
   (a0l (a1h (pvF 4))))))))))), ?_⟩
  rw [sl, mi]
  have hx' : id (sg x = g3y t b) := hx
  clear e0 e1 hx sl mi
  have d1 : ((⟨#[47]⟩ : Str).length == 0) = false := rfl
  have d2 : x.length <= sizeLine := by omega
  have d3 : 2 <= sizeLine := by omega
  have d4 : h0.length <= sizeLine := by omega
  have d5 : h1.length <= sizeLine := by rw [tb] at n1; omega
  have N0 : h0.length <= 10 := by omega
  have N1 : h1.length <= 9 := by rw [tb] at n1; omega
  clear xl n0 n1 q1 hs
  walk_at "rd*"
  intro p H1 n1' S1 h1'
  walk_at "rd*"
  rw [if_neg (by decide)]
  refine ⟨fun σ' H' => ∃ top : Str, sg top = dg t.natAbs /\ σ' = [some (.str x), some (.ref p), some (.str top), none, none] /\ H' = H1, ?_, ?_⟩
  ·walk_at "rd*"
   split
   ·rename_i ht
    have z := g5o (x := h0) (i := 1) (by
     rw [<- b8y, s0]
     unfold txt
     rw [if_pos ht]
     simp)
    rw [show ((1 : Nat) : Int) = 1 from rfl] at z
    refine ⟨_, ?_, rfl⟩
    rw [z, s0]
    unfold txt
    rw [if_pos ht]
    rfl
   ·rename_i ht
    refine ⟨_, ?_, rfl⟩
    rw [s0]
    unfold txt
    rw [if_neg ht]
  ·rintro σ' H' ⟨top, st, rfl, rfl⟩
   walk_at "rd*"
   intro q H2 n2 S2 h2
   walk_at "rd*"
   have hp2 := S2 _ _ h1'
   refine ⟨⟨_, SqL.of h2⟩, ?_⟩
   have f0 : f7o (sg top) = true := by rw [st]; exact d2r.mpr ⟨c1v _, f7n _⟩
   have f1 : f7o (sg h1) = true := by rw [s1, tb]; exact d2r.mpr ⟨c1v _, f7n _⟩
   have m0 : top.length <= 9 := by rw [<- b8y, st]; exact l1
   have m1 : top.length <= sizeLine := Nat.le_trans m0 (by decide)
   refine f6o (xs := [.str top, .str h1]) (fun i σ H' => H' = H2 /\ ∃ z, σ = [some (.str x), some (.ref p), some (.str top), z, none]) ⟨rfl, _, rfl⟩ (fun i σ H' _ h => by rw [h.1]; exact SqL.of h2) ?_ ?_
   ·rintro i v σ H' hv ⟨rfl, z, rfl⟩
    match i, hv with
    | 0, hv =>
     cases hv
     walk_at "rd*"
     rw [st] at f0
     rw [f0, if_neg (by simp; omega)]
     exact ⟨_, rfl⟩
    | 1, hv =>
     cases hv
     walk_at "rd*"
     rw [s1, tb] at f1
     rw [f1, if_neg (by simp; omega)]
     exact ⟨_, rfl⟩
    | i + 2, hv => cases hv
   ·rintro σ H' ⟨rfl, z, rfl⟩
    walk_at "rd*"
    have v1 : t.natAbs < 10 ^ 9 := by
     have := g3x (c1v t.natAbs)
     rw [f0s] at this
     exact Nat.lt_of_lt_of_le this (Nat.pow_le_pow_right (by decide) l1)
    have v2 : b.natAbs < 10 ^ 9 := by
     have := g3x (c1v b.natAbs)
     rw [f0s] at this
     exact Nat.lt_of_lt_of_le this (Nat.pow_le_pow_right (by decide) l2)
    have g1 : t.natAbs.log2 < 1920 := d6p v1
    have g2 : b.natAbs.log2 < 1920 := d6p v2
    refine ⟨by omega, by omega, by omega, d1z v1, d1z v2, ?_⟩
    rw [r0]
    rintro _ H3 ⟨o, rfl, n3, S3, h3⟩
    replace h3 : H3 o = some (.tup [.int t, .int b]) := by
     rw [h3]
     unfold d8j
     show some (HO.tup [V.int t, V.int ((b.toNat : Nat) : Int)]) = _
     rw [Int.toNat_of_nonneg (by omega)]
    walk_at "rd*"
    refine ⟨t, b, ⟨rfl, rfl⟩, g1, g2, fun y hy => ?_⟩
    rw [if_neg (not_not_intro (b4i (hy.trans hx'.symm)))]
    refine k _ _ ⟨o, rfl, ?_, fun c u e => S3 _ _ (S2 _ _ (S1 _ _ e)), h3⟩
    cases e : H o with
    | none => rfl
    | some u =>
     have := S2 _ _ (S1 _ _ e)
     rw [n3] at this
     cases this
theorem f9j {x : Str} {n : Nat} (h : sg x = txt (n : Int)) : (Txt.startswith x ⟨#[48]⟩ && !decide (x = (⟨#[48]⟩ : Str))) = false := by
 have e : txt (n : Int) = dg n := if_neg (by omega)
 rw [e] at h
 rcases Nat.eq_zero_or_pos n with z | z
 ·subst z
  have : x = ⟨#[48]⟩ := b4i (by rw [h]; rfl)
  rw [this]
  simp
 ·obtain ⟨c, r, e1, e2⟩ := g5m z
  rw [g3z, h, e1]
  simp [e2]
theorem h1v (T : Tx K mg A) : a1n P A.wd K mg base CX0 2 A.b0l A.c2j ["text"] h1n := by
 have c0n : a1n P A.wd K mg base CX0 1 _ _ _ _ := d2g T
 refine T.b6j.ok d8r (fun vs H Q E h => ?_) (fun cdv A' outer s H vs Q E hr h => ?_)
 ·match vs, h with
  | [.str x], _ => rfl
 ·match vs, h with
  | [.str x], ⟨n, hx, hn, q⟩ =>
  have hu := hr.units
  have b7w : a2y 1 _ := hr.mono (by decide)
  have sl : Str.ofString "0" = ⟨#[48]⟩ := by decide +kernel
  refine ⟨_, (a0i (a9s (pw_or (b8l (a6w (a0n c0n b7w (by rfl) T.c6o T.a8i.kp T.b4k .nil a1g (a0g (pvF 0) a0j)))) (pw_or1 (a2h d8g (a0w a2o (by rfl) T.b4g boot_len (a0g (pvF 0) a0j)) (a8q (v := .int 13) (by rfl) T.a2j T.b8r) (a3r _)))).pt
   (a0l (a1h f4v))
   a2g)
   (a0i (a9s (pw_and (a6w (c3w c3v PySem.F.plainAttrs_str PySem.F.slot_str_startswith PySem.F.type_str_startswith c3y (pvF 0) (a0g b2v a0j))) (pw_and1 (a2h (c3r hu) (pvF 0) b2v (a3r _)))).pt
   (a0l (a1h f4v))
   a2g)
   (a0l (a1h (a2s c3z (by rfl) T.d0u boot_int (a0g (pvF 0) a0j)))))), ?_⟩
  rw [sl]
  walk_at "rd*"
  have e : txt (n : Int) = dg n := if_neg (by omega)
  have f : f7o (txt (n : Int)) = true := by rw [e]; exact d2r.mpr ⟨c1v _, f7n _⟩
  have lx : x.length <= 11 := by
   rw [<- b8y, hx, e]
   have a := g1t 8 n (by omega)
   omega
  have sw := f9j hx
  have hs : sizeLine = 16777216 := sizeLine_eq
  rw [f, if_neg (by decide)]
  refine ⟨by omega, ?_⟩
  rw [if_neg ?_]
  ·exact ⟨_, c4v hx (by omega), by omega, q⟩
  ·rintro (z | ⟨z1, z2⟩)
   ·omega
   ·rw [z1, Bool.true_and] at sw
    simp [z2] at sw
theorem d3v (ns ms : List Int) : (g0o ns ms).length = max ns.length ms.length := by unfold g0o; simp
theorem f1m {ns ms : List Int} {i : Nat} (h : i < max ns.length ms.length) : (g0o ns ms).getD i 0 = ns.getD i 0 + ms.getD i 0 := by
 unfold g0o
 rw [List.getD_eq_getElem?_getD, List.getElem?_map, List.getElem?_range h]
 rfl
theorem g6d (ns ms : List Int) : h4r ns ms = g0o ns ms := by
 apply List.ext_getElem?
 intro i
 unfold h4r g0o
 rw [List.getElem?_map]
 by_cases h1 : i < min ns.length ms.length
 ·rw [List.append_assoc, List.getElem?_append_left (by simp; omega), List.getElem?_map, List.getElem?_range h1, List.getElem?_range (by omega)]
 ·rw [List.append_assoc, List.getElem?_append_right (by simp; omega), List.length_map, List.length_range]
  by_cases h2 : i < max ns.length ms.length
  ·rw [List.getElem?_range h2]
   show _ = some (ns.getD i 0 + ms.getD i 0)
   by_cases h3 : ns.length <= ms.length
   ·rw [Nat.min_eq_left h3, List.drop_of_length_le (Nat.le_refl _), List.nil_append, List.getElem?_drop, List.getD_eq_getElem?_getD, List.getD_eq_getElem?_getD, List.getElem?_eq_none (l := ns) (by omega), show ns.length + (i - ns.length) = i by omega, List.getElem?_eq_getElem (by omega)]
    simp
   ·rw [Nat.min_eq_right (by omega), List.drop_of_length_le (l := ms) (Nat.le_refl _), List.append_nil, List.getElem?_drop, List.getD_eq_getElem?_getD, List.getD_eq_getElem?_getD, List.getElem?_eq_none (l := ms) (by omega), show ms.length + (i - ms.length) = i by omega, List.getElem?_eq_getElem (by omega)]
    simp
  ·rw [List.getElem?_eq_none (by simp; omega), List.getElem?_eq_none (by simp; omega)]
   rfl
theorem f1n (T : Tx K mg A) : a1n P A.wd K mg base CX0 1 A.a5s A.b6w ["one", "other"] h1o := by
 refine T.a8j.ok b6u (fun vs H Q E h => ?_) (fun cdv A' outer s H vs Q E hr h => ?_)
 ·match vs, h with
  | [.ref p, .ref q], _ => rfl
 ·match vs, h with
  | [.ref p, .ref q], ⟨ns, ms, hp, hq, hl1, hl2, k⟩ =>
  have hu := hr.units
  refine ⟨_, (a0i (a0t (i := 2) b6u.nd rfl (Or.inl rfl) (a0w (f6z rfl) (by rfl) T.f8j boot_min (a0g (a0w a2o (by rfl) T.b4g boot_len (a0g (pvF 0) a0j)) (a0g (a0w a2o (by rfl) T.b4g boot_len (a0g (pvF 1) a0j)) a0j))))
   (a0i (f7i (i := 3) b6u.nd rfl rfl (b2k (by rfl) T.b3s (a0g (pvF 2) a0j)) (fun _ _ _ _ _ => (a0s a1p (a1o a6s (pvF 1) (pvF 0) (fun _ _ => rfl)) (a1o a6s (pvF 2) (pvF 0) (fun _ _ => rfl)))) (d8i (sc := a0h a5p) (N := ["one", "other", "shared", "both"]) rfl rfl (by decide +kernel)) rfl)
   (a0l (a1h (a0s a1p (a0s a1p (pvF 3) (a6h f4p (pvF 0) (a5n (pvF 2)) b1p)) (a6h f4p (pvF 1) (a5n (pvF 2)) b1p)))))), ?_⟩
  walk_at "rd*"
  refine ⟨by omega, by omega, fun D H2 n2 S2 h2 => ?_⟩
  have hmn : (min (ns.length : Int) (ms.length : Int)).toNat = min ns.length ms.length := by omega
  rw [hmn]
  refine c4t (fun i => .int (ns.getD i 0 + ms.getD i 0)) n2 S2 h2 (by rw [sizeLine_eq]; omega) ?_ ?_
  ·intro i H' Q' hi S' q'
   have hp' := S' _ _ hp
   have hq' := S' _ _ hq
   have e1 := d0q (ns := ns) (i := i) (by omega)
   have e2 := d0q (ns := ms) (i := i) (by omega)
   walk_at "rd*"
  intro H3 S3 h3
  have e3 : (List.range (min ns.length ms.length)).map (fun i => V.int (ns.getD i 0 + ms.getD i 0)) = ((List.range (min ns.length ms.length)).map fun i => ns.getD i 0 + ms.getD i 0).map V.int := by
   rw [List.map_map]
   rfl
  rw [e3] at h3
  have hp3 := S3 _ _ hp
  have hq3 := S3 _ _ hq
  walk_at "rd*"
  intro c H4 n4 S4 h4
  rw [show min (ns.length : Int) (ms.length : Int) = ((min ns.length ms.length : Nat) : Int) by omega, b1i, a8s] at h4
  have h34 := S4 _ _ h3
  walk_at "rd*"
  refine ⟨by rw [sizeLine_eq]; simp; omega, fun d H5 n5 S5 h5 => ?_⟩
  have hq5 := S5 _ _ (S4 _ _ hq3)
  walk_at "rd*"
  intro e H6 n6 S6 h6
  rw [show min (ns.length : Int) (ms.length : Int) = ((min ns.length ms.length : Nat) : Int) by omega, b1i, a8s] at h6
  have h56 := S6 _ _ h5
  walk_at "rd*"
  refine ⟨by rw [sizeLine_eq]; simp; omega, fun f H7 n7 S7 h7 => ?_⟩
  have S07 : Same H H6 := S3.trans (S4.trans (S5.trans S6))
  refine k _ _ ⟨f, rfl, S07.free n7, S07.trans S7, ?_⟩
  rw [h7, <- g6d]
  unfold h4r
  simp only [List.map_append]
theorem c1s (ns : List Int) (b : Int) (i : Nat) : (ns.map (· * b)).getD i 0 = ns.getD i 0 * b := by
 rw [List.getD_eq_getElem?_getD, List.getD_eq_getElem?_getD, List.getElem?_map]
 cases ns[i]? with
 | none => exact (Int.zero_mul b).symm
 | some x => rfl
theorem d3w (T : Tx K mg A) : a1n P A.wd K mg base CX0 1 A.a7i A.b9h ["row", "by"] f8m := by
 refine T.a5z.ok d6g (fun vs H Q E h => ?_) (fun cdv A' outer s H vs Q E hr h => ?_)
 ·match vs, h with
  | [.ref p, .int b], _ => rfl
 ·match vs, h with
  | [.ref p, .int b], ⟨ns, hp, hb, hl, k⟩ =>
  have hu := hr.units
  refine ⟨_, (a0l (a1h (c7t (c3t (pvF 0)) (fun _ _ _ _ _ => (a0s a3s (pvF 0) (pvF 2))) (d8i (sc := a0h a6z) (N := ["row", "by"]) rfl rfl (by decide +kernel)) rfl))), ?_⟩
  walk_at "rd"
  refine ⟨⟨_, SqL.of hp⟩, fun D H2 n2 S2 h2 => ?_⟩
  refine d5r (fun v => match v with | .int c => .int (c * b) | v => v) n2 S2 h2 (SqL.of hp) (by rw [List.length_map, sizeLine_eq]; omega) ?_ ?_
  ·intro i x H' Q' hx S' q'
   rw [List.getElem?_map] at hx
   obtain ⟨c, hc, rfl⟩ := Option.map_eq_some_iff.mp hx
   walk_at "rd"
   exact ⟨hb c (List.mem_of_getElem? hc), q'⟩
  intro H3 S3 h3
  refine k _ _ ⟨D, rfl, n2, S3, ?_⟩
  rw [h3, List.map_map, List.map_map]
  rfl
theorem b1h (ns : List Int) (st n : Nat) : (d7o ns st n).length = ns.length - st := by unfold d7o; simp
theorem c4m {ns : List Int} {st n i : Nat} (h : i < ns.length - st) : (d7o ns st n).getD i 0 = if n <= st + i then ns.getD (st + i - n) 0 else 0 := by
 unfold d7o
 rw [List.getD_eq_getElem?_getD, List.getElem?_map, List.getElem?_range h]
 rfl
theorem f1o {ns : List Int} {st n : Nat} {x : Int} (h : x ∈ d7o ns st n) : x ∈ ns \/ x = 0 := by
 unfold d7o at h
 obtain ⟨i, hi, rfl⟩ := List.mem_map.mp h
 split
 ·by_cases h2 : st + i - n < ns.length
  ·exact .inl (getD_mem h2)
  ·rw [List.getD_eq_getElem?_getD, List.getElem?_eq_none (by omega)]
   exact .inr rfl
 ·exact .inr rfl
theorem c5s (T : Tx K mg A) : a1n P A.wd K mg base CX0 1 A.b3h A.c4z ["known", "start", "many"] d6n := by
 refine T.b3n.ok f2v (fun vs H Q E h => ?_) (fun cdv A' outer s H vs Q E hr h => ?_)
 ·match vs, h with
  | [.ref k, .int st, .int n], _ => rfl
 ·match vs, h with
  | [.ref k, .int st, .int n], ⟨ns, s, m, hk, e1, e2, hs, hl, q⟩ =>
  subst e1 e2
  have hu := hr.units
  refine ⟨_, (a0l (a1h (c7t (f2l (by rfl) T.b3s (a0g (pvF 1) (a0g (a0w a2o (by rfl) T.b4g boot_len (a0g (pvF 0) a0j)) a0j))) (fun _ _ _ _ _ => (f0i (a2h h3w (pvF 0) (pvF 3) (a3r _)) (a1o a6s (pvF 1) (a0s c3s (pvF 0) (pvF 3)) (fun _ _ => rfl)) a0k)) (d8i (sc := a0h b2z) (N := ["known", "start", "many"]) rfl rfl (by decide +kernel)) rfl))), ?_⟩
  walk_at "rd*"
  refine ⟨by omega, fun D H2 n2 S2 h2 => ?_⟩
  have hmn : ((ns.length : Int) - (s : Int)).toNat = ns.length - s := by omega
  rw [hmn]
  refine c4t (fun i => .int (if m <= s + i then ns.getD (s + i - m) 0 else 0)) n2 S2 h2 (by rw [sizeLine_eq]; omega) ?_ ?_
  ·intro i H' Q' hi S' q'
   have hk' := S' _ _ hk
   walk_at "rd*"
   split
   ·rename_i h
    rw [if_pos (by omega)] at q'
    refine ⟨_, ?_, q'⟩
    rw [show (s : Int) + (i : Int) - (m : Int) = ((s + i - m : Nat) : Int) by omega]
    exact d0q (by omega)
   ·rename_i h
    rw [if_neg (by omega)] at q'
    exact q'
  intro H3 S3 h3
  refine q _ _ ⟨D, rfl, n2, S3, ?_⟩
  rw [h3]
  unfold d7o
  rw [List.map_map]
  rfl
theorem d9i (T : Tx K mg A) : a1n P A.wd K mg base CX0 1 A.b3i A.c5g ["known", "many"] g4e := by
 refine T.b3o.ok f2w (fun vs H Q E h => ?_) (fun cdv A' outer s H vs Q E hr h => ?_)
 ·match vs, h with
  | [.ref k, .int n], _ => rfl
 ·match vs, h with
  | [.ref k, .int n], ⟨ns, m, hk, e1, hl, q⟩ =>
  subst e1
  have hu := hr.units
  refine ⟨_, (a0l (a1h (a2s d5w (by rfl) T.c2u boot_tuple (a0g (a6h f4p (pvF 0) (a5n (a0w (f7g rfl) (by rfl) T.f8i boot_max (a0g a0k (a0g (a0s c3s (a0w a2o (by rfl) T.b4g boot_len (a0g (pvF 0) a0j)) (pvF 1)) a0j)))) b1p) a0j)))), ?_⟩
  walk_at "rd*"
  intro l H1 n1 S1 h1
  rw [show max 0 ((ns.length : Int) - (m : Int)) = ((ns.length - m : Nat) : Int) by omega, b1i, a8s] at h1
  walk_at "rd*"
  intro t H2 n2 S2 h2
  exact q _ _ ⟨t, rfl, S1.free n2, S1.trans S2, h2⟩
theorem c7l (n : Int) (m : Nat) : (f8n n m).length = m + 1 := by unfold f8n; simp
theorem d3y {n : Int} {m i : Nat} (h : i < m + 1) : (f8n n m).getD i 0 = n ^ i := by
 unfold f8n
 rw [List.getD_eq_getElem?_getD, List.getElem?_map, List.getElem?_range h]
 rfl
theorem b4v {n : Int} (h : intBits n <= 10) : ∀ j : Nat, intBits (n ^ j) <= 1 + 10 * j
 | 0 => by rw [Int.pow_zero]; decide
 | j + 1 => by
  rw [Int.pow_succ]
  exact Nat.le_trans (intBits_mul_le (b4v h j) h) (by omega)
theorem h1w (T : Tx K mg A) : a1n P A.wd K mg base CX0 1 A.a7j A.b9j ["number", "most"] h1p := by
 refine T.b0r.ok b8z (fun vs H Q E h => ?_) (fun cdv A' outer s H vs Q E hr h => ?_)
 ·match vs, h with
  | [.int n, .int t], _ => rfl
 ·match vs, h with
  | [.int n, .int t], ⟨m, e, hm, hb, k⟩ =>
  subst e
  have hu := hr.units
  refine ⟨_, (a0i (a0t (i := 2) b8z.nd rfl (Or.inl rfl) (c7r (a0g a0k a0j)))
   (a0i (c1z PassesOwn.never rfl (b2k (by rfl) T.b3s (a0g (pvF 1) a0j)) (a6v (i := 3) b8z.nd rfl (Or.inl rfl))
   (a0l (b6t (c3w c3u PySem.F.plainAttrs_list PySem.F.slot_list_append PySem.F.type_list_append c4u (pvF 2) (a0g (a0s a3s (a1o a6s (pvF 2) (pvF 3) (fun _ _ => rfl)) (pvF 0)) a0j)))))
   (a0l (a1h (pvF 2))))), ?_⟩
  walk_at "rd"
  refine ⟨by decide, ?_⟩
  intro l H1 n1 S1 h1
  walk_at "rd*"
  refine ⟨by omega, by omega, ?_⟩
  rw [Int.toNat_natCast]
  obtain ⟨Pv, pin, pout⟩ := f7j (fun i σ H' => ∃ v3 : Option V, σ = [some (.int n), some (.int m), some (.ref l), v3] /\ Same H H' /\ H' l = some (.lst ((f8n n i).map V.int)))
  refine c1m (lo := 0) Pv (pin _ _ _ ⟨_, rfl, S1, by rw [h1]; show _ = some (HO.lst [V.int (n ^ 0)]); rw [Int.pow_zero]⟩) ?_ ?_
  ·intro i σ H2 hi hp
   obtain ⟨v3, rfl, S2, h2⟩ := pout _ _ _ hp
   have e1 := d0q (ns := f8n n i) (i := i) (by rw [c7l]; omega)
   rw [d3y (by omega)] at e1
   have pl := c7l n i
   clear h1 hp
   walk_at "rd*"
   refine ⟨IntMulOk.of_right (Nat.le_trans hb (by decide)), by rw [sizeLine_eq]; omega, ?_⟩
   rintro _ H3 ⟨rfl, B3, h3⟩
   refine pin _ _ _ ⟨_, rfl, S2.step n1 B3, ?_⟩
   rw [h3]
   unfold f8n
   rw [List.range_succ (n := i + 1), List.map_append, List.map_append]
   show _ = some (HO.lst (_ ++ [V.int (n ^ (i + 1))]))
   rw [Int.pow_succ]
  ·intro σ H2 hp
   obtain ⟨v3, rfl, S2, h2⟩ := pout _ _ _ hp
   walk_at "rd"
   exact k _ _ ⟨l, rfl, n1, S2, h2⟩
theorem g2b (p q : Int) (t : Nat) : (g0p p q t).length = t + 1 := by unfold g0p; simp
theorem g2c {p q : Int} {t i : Nat} (h : i < t + 1) : (g0p p q t).getD i 0 = f8o p q t i := by
 unfold g0p
 rw [List.getD_eq_getElem?_getD, List.getElem?_map, List.getElem?_range h]
 rfl
theorem IsE.same {C : Addr} {H H' : Hp} {o : Addr} {p q : Int} {n t : Nat} (h : IsE C H o p q n t) (S : Same H H') : IsE C H' o p q n t := by
 obtain ⟨dx, gt, fa, h1, h2, h3⟩ := h
 exact ⟨dx, gt, fa, S _ _ h1, S _ _ h2, S _ _ h3⟩
theorem g2d (T : Tx K mg A) : a1n P A.wd K mg base CX0 2 A.a5u A.b9k ["self", "gain", "many", "turns"] (f8p A.a1s) := by
 have c9j : a1n P A.wd K mg base CX0 1 _ _ _ _ := h1w T
 have a5l := T.a5l
 have a0y := T.a0y
 have a0z := T.a0z
 have a0u := T.a0u
 have a0o := T.a0o
 have a0m := T.a0m
 refine T.b7m.ok b9g (fun vs H Q E h => ?_) (fun cdv A' outer s H vs Q E hr h => ?_)
 ·match vs, h with
  | [.ref o, .ref gt, .int n, .int t], _ => rfl
 ·match vs, h with
  | [.ref o, .ref gt, .int n, .int t], ⟨dx, m, tt, p, q, e1, e2, ht, bp, bq, hg, ho, k⟩ =>
  subst e1 e2
  have hu := hr.units
  have c6s : a2y 1 _ := hr.mono (by decide)
  have gto : gt ≠ o := fun e => by rw [e, ho] at hg; cases hg
  refine ⟨_, (a0i (b1q (pvF 0) (pvF 1) rfl)
   (a0i (b1q (pvF 0) (pvF 2) rfl)
   (a0i (b1q (pvF 0) (pvF 3) rfl)
   (a0i (a0t (i := 4) b9g.nd rfl (Or.inr rfl) (a0n c9j c6s (by rfl) T.c8l T.b0r.kp T.b7l .nil a1g (a0g (a1o a6s (pvF 1) a0k (fun _ _ => rfl)) (a0g (pvF 3) a0j))))
   (a0i (a0t (i := 5) b9g.nd rfl (Or.inr rfl) (a0n c9j c6s (by rfl) T.c8l T.b0r.kp T.b7l .nil a1g (a0g (a1o a6s (pvF 1) a0k (fun _ _ => rfl)) (a0g (pvF 3) a0j))))
   (a0i (b1q (pvF 0) (a2s d5w (by rfl) T.c2u boot_tuple (a0g (c7t (b2k (by rfl) T.b3s (a0g (a0s a1p (pvF 3) a0k) a0j)) (fun _ _ _ _ _ => (a0s a3s (a1o a6s (pvF 5) (pvF 0) (fun _ _ => rfl)) (a1o a6s (pvF 6) (a0s c3s (pvF 4) (pvF 0)) (fun _ _ => rfl)))) (d8i (sc := a0h a7g) (N := ["self", "gain", "many", "turns", "tops", "bottoms"]) rfl rfl (by decide +kernel)) rfl) a0j)) rfl)
   (a0l (b1q (pvF 0) (a1o a6s (pvF 5) (pvF 3) (fun _ _ => rfl)) rfl)))))))), ?_⟩
  walk_at "rd*"
  intro H1 B1 h1
  walk_at "rd*"
  intro H2 B2 h2
  walk_at "rd*"
  intro H3 B3 h3
  have hg3 := B3 _ _ gto (B2 _ _ gto (B1 _ _ gto hg))
  walk_at "rd*"
  refine ⟨tt, rfl, ht, ?_⟩
  rintro _ H4 ⟨l4, rfl, n4, S4, h4⟩
  have hg4 := S4 _ _ hg3
  walk_at "rd*"
  refine ⟨tt, rfl, ht, ?_⟩
  rintro _ H5 ⟨l5, rfl, n5, S5, h5⟩
  have h45 := S5 _ _ h4
  have h35 := S5 _ _ (S4 _ _ h3)
  have pl1 := c7l p tt
  have pl2 := c7l q tt
  clear h4 hg4 hg3
  walk_at "rd*"
  refine ⟨by omega, by omega, fun D H6 n6 S6 h6 => ?_⟩
  rw [show ((tt : Int) + 1).toNat = tt + 1 by omega]
  refine c4t (fun i => .int (f8o p q tt i)) n6 S6 h6 (by rw [sizeLine_eq]; omega) ?_ ?_
  ·intro i H' Q' hi S' q'
   have h4' := S' _ _ h45
   have h5' := S' _ _ h5
   have e1 := d0q (ns := f8n p tt) (i := i) (by omega)
   have e2 := d0q (ns := f8n q tt) (i := tt - i) (by omega)
   rw [d3y (by omega)] at e1 e2
   rw [show ((tt - i : Nat) : Int) = (tt : Int) - (i : Int) by omega] at e2
   clear h45 h35 h5 hg ho h1 h2 h3 pl1 pl2
   walk_at "rd*"
   exact ⟨IntMulOk.of_le (b4v bp i) (b4v bq (tt - i)) (by omega), q'⟩
  intro H7 S7 h7
  have e7 : (List.range (tt + 1)).map (fun i => V.int (f8o p q tt i)) = (g0p p q tt).map V.int := by
   unfold g0p
   rw [List.map_map]
   rfl
  rw [e7] at h7
  walk_at "rd*"
  intro fa H8 n8 S8 h8
  have h38 := S8 _ _ (S7 _ _ h35)
  have h58 := S8 _ _ (S7 _ _ h5)
  have e2 := d0q (ns := f8n q tt) (i := tt) (by omega)
  rw [d3y (by omega)] at e2
  clear h45 h35 h5 h7 e7
  walk_at "rd*"
  intro H9 B9 h9
  have l5o : l5 ≠ o := fun e => by
   rw [e, h38] at h58
   cases h58
  have h59 := B9 _ _ l5o h58
  clear h38 h58
  walk_at "rd*"
  intro H10 B10 h10
  have S38 : Same H3 H8 := S4.trans (S5.trans (S7.trans S8))
  have fao : fa ≠ o := fun e => by
   have := S38 _ _ h3
   rw [e] at h8
   rw [h8] at this
   cases this
  refine k fa H10 (fun b u hb e => B10 _ _ hb (B9 _ _ hb (S38 _ _ (B3 _ _ hb (B2 _ _ hb (B1 _ _ hb e)))))) ?_ h10 (B10 _ _ fao (B9 _ _ fao h8))
  cases hn : H fa with
  | none => rfl
  | some u =>
   exfalso
   have := (S4.trans (S5.trans S7)) _ _ (B3 _ _ fao (B2 _ _ fao (B1 _ _ fao hn)))
   rw [this] at n8
   cases n8
theorem f9k (T : Tx K mg A) : a1n P A.wd K mg base CX0 1 A.a3l A.b1z ["self"] (f1g A.a1s) := by
 have a5l := T.a5l
 have a0y := T.a0y
 have a0z := T.a0z
 have a0u := T.a0u
 have a0o := T.a0o
 have a0m := T.a0m
 refine T.b4q.ok d2w (fun vs H Q E h => ?_) (fun cdv A' outer s H vs Q E hr h => ?_)
 ·match vs, h with
  | [.ref o], _ => rfl
 ·match vs, h with
  | [.ref o], ⟨p, q, n, t, ⟨dx, gt, fa, ho, hg, hf⟩, k⟩ =>
  have hu := hr.units
  unfold ecF at ho
  refine ⟨_, (a0l (a1h (a5k (pvF 0) rfl))), ?_⟩
  walk_at "rd*"
theorem f9l (T : Tx K mg A) : a1n P A.wd K mg base CX0 1 A.a4k A.b7h ["self"] (f1h A.a1s) := by
 have a5l := T.a5l
 have a0y := T.a0y
 have a0z := T.a0z
 have a0u := T.a0u
 have a0o := T.a0o
 have a0m := T.a0m
 refine T.b4r.ok d2y (fun vs H Q E h => ?_) (fun cdv A' outer s H vs Q E hr h => ?_)
 ·match vs, h with
  | [.ref o], _ => rfl
 ·match vs, h with
  | [.ref o], ⟨p, q, n, t, ⟨dx, gt, fa, ho, hg, hf⟩, hn, k⟩ =>
  have hu := hr.units
  unfold ecF at ho
  refine ⟨_, (a0l (a1h (a0s a3s (a5k (pvF 0) rfl) (a5k (pvF 0) rfl)))), ?_⟩
  walk_at "rd*"
  exact ⟨IntMulOk.of_left (intBits_le_64 (by omega) (by omega)), by rw [<- Int.natCast_mul]; exact k⟩
theorem d9j (kn : List Int) (st n : Nat) (p q : Int) (t : Nat) : ∀ j, (g0q kn st n p q t j).length <= kn.length - st
 | 0 => Nat.zero_le _
 | j + 1 => by
  have := d9j kn st n p q t j
  rw [g0q, d3v, List.length_map, b1h]
  omega
theorem g2e (kn : List Int) (st n : Nat) (p q : Int) (t j : Nat) : (g0q kn st n p q t (j + 1)).length = kn.length - st := by
 have := d9j kn st n p q t j
 rw [g0q, d3v, List.length_map, b1h]
 omega
theorem d6q {p q : Int} (bp : intBits p <= 10) (bq : intBits q <= 10) {t j : Nat} (ht : t <= 16) (hj : j <= t) : intBits (f8o p q t j) <= 170 :=
 Nat.le_trans (intBits_mul_le (b4v bp j) (b4v bq (t - j))) (by omega)
theorem g6e (T : Tx K mg A) : a1n P A.wd K mg base CX0 2 A.a2m A.a8y ["self", "state", "tops", "bottom"] (g4f A.a1s) := by
 have c0o : a1n P A.wd K mg base CX0 1 _ _ _ _ := c5s T
 have c0p : a1n P A.wd K mg base CX0 1 _ _ _ _ := d9i T
 have c0q : a1n P A.wd K mg base CX0 1 _ _ _ _ := f1n T
 have b0w : a1n P A.wd K mg base CX0 1 _ _ _ _ := d3w T
 have d6r : a1n P A.wd K mg base CX0 1 _ _ _ _ := f9l T
 have a5l := T.a5l
 have a0y := T.a0y
 have a0z := T.a0z
 have a0u := T.a0u
 have a0o := T.a0o
 have a0m := T.a0m
 refine T.b0z.ok a3y (fun vs H Q E h => ?_) (fun cdv A' outer s H vs Q E hr h => ?_)
 ·match vs, h with
  | [.ref o, .ref st, .ref x, .int _], _ => rfl
 ·match vs, h with
  | [.ref o, .ref st, .ref x, .int bt], ⟨p, q, n, t, zs, xs, is, hz, hx, lz, lx, hn, ht, bp, bq, by0, k⟩ =>
  have hu := hr.units
  have b6q : a2y 1 _ := hr.mono (by decide)
  have b6r : a2y 1 _ := hr.mono (by decide)
  have b7y : a2y 1 _ := hr.mono (by decide)
  have a8o : a2y 1 _ := hr.mono (by decide)
  have d3z : a2y 1 _ := hr.mono (by decide)
  have is0 := is
  obtain ⟨dx, gt, fa, ho, hg, hf⟩ := is
  unfold ecF at ho
  refine ⟨_, (a0i (a0t (i := 4) a3y.nd rfl (Or.inl rfl) (a0s a1p (a2s c1n (by rfl) T.c1y boot_list (a0g (pvF 1) a0j)) (pvF 2)))
   (a0i (a0t (i := 5) a3y.nd rfl (Or.inl rfl) (c7r a0j))
   (a0i (c1z PassesOwn.never rfl (b2k (by rfl) T.b3s (a0g (a0s a1p (a5k (pvF 0) rfl) a0k) a0j)) (a6v (i := 6) a3y.nd rfl (Or.inl rfl))
   (a0i (a0t (i := 7) a3y.nd rfl (Or.inl rfl) (a0n c0o b6q (by rfl) T.c8j T.b3n.kp T.b9t .nil a1g (a0g (pvF 4) (a0g (a0w a2o (by rfl) T.b4g boot_len (a0g (pvF 1) a0j)) (a0g (a0s a3s (pvF 6) (a5k (pvF 0) rfl)) a0j)))))
   (a0l (a0t (i := 5) a3y.nd rfl (Or.inl rfl) (a0n c0q b7y (by rfl) T.c6p T.a8j.kp T.b4l .nil a1g (a0g (pvF 5) (a0g (a0n b0w a8o (by rfl) T.b7j T.a5z.kp T.b0q .nil a1g (a0g (pvF 7) (a0g (a1o a6s (a5k (pvF 0) rfl) (pvF 6) (fun _ _ => rfl)) a0j))) a0j)))))))
   (a0l (a1h (b4z (a0g (pvF 5) (a0g (a0n c0p b6r (by rfl) T.c8k T.b3o.kp T.b9u .nil a1g (a0g (pvF 4) (a0g (a8t (pvF 0) T.a5l T.d3n d6r d3z T.c0g .nil a1g) a0j))) a0j)))))))), ?_⟩
  walk_at "rd*"
  intro l1 H1 n1 S1 h1
  have hx1 := S1 _ _ hx
  walk_at "rd*"
  refine ⟨by rw [sizeLine_eq]; omega, ?_⟩
  intro kn H2 n2 S2 h2
  rw [<- List.map_append] at h2
  have S02 : Same H H2 := S1.trans S2
  clear h1 hx1
  walk_at "rd*"
  refine ⟨Nat.zero_le _, ?_⟩
  intro o0 H3 n3 S3 h3
  have S03 := S02.trans S3
  have h23 := S3 _ _ h2
  have ho3 := S03 _ _ ho
  clear h2
  walk_at "rd*"
  refine ⟨by omega, by omega, ?_⟩
  rw [show ((t : Int) + 1).toNat = t + 1 by omega]
  obtain ⟨Pv, pin, pout⟩ := f7j (fun j σ H' => ∃ (ou : Addr) (v6 v7 : Option V), σ = [some (.ref o), some (.ref st), some (.ref x), some (.int bt), some (.ref kn), some (.ref ou), v6, v7] /\ Same H2 H' /\ H' kn = some (.lst ((zs ++ xs).map V.int)) /\ H2 ou = none /\ H' ou = some (.lst ((g0q (zs ++ xs) zs.length n p q t j).map V.int)))
  refine c1m (lo := 0) Pv (pin _ _ _ ⟨o0, _, _, rfl, S3, h23, n3, h3⟩) ?_ ?_
  ·intro j σ H4 hj hp
   obtain ⟨ou, v6, v7, rfl, S4, hk4, nou, hou⟩ := pout _ _ _ hp
   have S04 := S02.trans S4
   have ho4 := S04 _ _ ho
   have hz4 := S04 _ _ hz
   have hf4 := S04 _ _ hf
   have e1 := d0q (ns := g0p p q t) (i := j) (by rw [g2b]; omega)
   rw [g2c (by omega)] at e1
   have fb := d6q bp bq (t := t) (j := j) ht (by omega)
   clear h23 ho3 h3 hp ho hz hf hx hg
   walk_at "rd*"
   refine ⟨IntMulOk.of_left (intBits_le_64 (by omega) (by omega)), zs ++ xs, rfl, zs.length, rfl, j * n, (Int.natCast_mul j n).symm, by simp, by simp; omega, ?_⟩
   rintro _ H5 ⟨hd, rfl, n5, S5, h5⟩
   have ho5 := S5 _ _ ho4
   have hf5 := S5 _ _ hf4
   have dl := b1h (zs ++ xs) zs.length (j * n)
   clear ho4 hf4 hz4
   walk_at "rd*"
   refine ⟨_, rfl, ?_, by rw [dl]; simp; omega, ?_⟩
   ·intro y hy
    rcases f1o hy with h | h
    ·exact IntMulOk.of_le (by0 y h) fb (by decide)
    ·rw [h]; exact IntMulOk.of_left (by decide)
   rintro _ H6 ⟨l6, rfl, n6, S6, h6⟩
   have hou6 := S6 _ _ (S5 _ _ hou)
   have el := d9j (zs ++ xs) zs.length n p q t j
   rw [List.length_append] at el
   walk_at "rd*"
   refine ⟨_, rfl, _, rfl, by omega, by rw [List.length_map, dl]; simp; omega, ?_⟩
   rintro _ H7 ⟨ou', rfl, n7, S7, h7⟩
   have S47 := S5.trans (S6.trans S7)
   exact pin _ _ _ ⟨ou', _, _, rfl, S4.trans S47, S47 _ _ hk4, (S4.trans (S5.trans S6)).free n7, h7⟩
  ·intro σ H4 hp
   obtain ⟨ou, v6, v7, rfl, S4, hk4, nou, hou⟩ := pout _ _ _ hp
   have S04 := S02.trans S4
   have ho4 := S04 _ _ ho
   have is4 := is0.same S04
   clear h23 ho3 h3 hp ho hz hf hx hg is0
   walk_at "rd*"
   refine ⟨p, q, n, t, is4, hn, zs ++ xs, rfl, n * t, rfl, by simp; omega, ?_⟩
   rintro _ H5 ⟨s2, rfl, n5, S5, h5⟩
   walk_at "rd*"
   intro r H6 n6 S6 h6
   exact k r ou s2 H6 (S04.trans (S5.trans S6)) ((S04.trans S5).free n6) (S02.free nou) h6 (S6 _ _ (S5 _ _ hou)) (S6 _ _ h5)
theorem f1p {kn : List Int} {st n : Nat} {p q : Int} {t i : Nat} (h : i < kn.length - st) : ∀ j, (g0q kn st n p q t j).getD i 0 = d1v (fun m => (d7o kn st (m * n)).getD i 0) p q t j
 | 0 => rfl
 | j + 1 => by
  rw [g0q, f1m (by rw [List.length_map, b1h]; omega), c1s, f1p h j, d1v]
theorem g2f (T : Tx K mg A) : a1n P A.wd K mg base CX0 1 A.a5t A.b9i ["self", "gain"] (f8q A.a3h) := by
 have a7r := T.a7r
 have a1i := T.a1i
 refine T.b7k.ok d6h (fun vs H Q E h => ?_) (fun cdv A' outer s H vs Q E hr h => ?_)
 ·match vs, h with
  | [.ref o, .ref gt], _ => rfl
 ·match vs, h with
  | [.ref o, .ref gt], ⟨dx, ho, k⟩ =>
  have hu := hr.units
  refine ⟨_, (a0l (b1q (pvF 0) (pvF 1) rfl)), ?_⟩
  walk_at "rd*"
  intro H1 B1 h1
  exact k H1 B1 h1
theorem f9m (T : Tx K mg A) : a1n P A.wd K mg base CX0 1 A.a4j A.b7g ["self", "many"] (f1i A.a1y) := by
 have a6p := T.a6p
 have a1m := T.a1m
 refine T.b4p.ok d2v (fun vs H Q E h => ?_) (fun cdv A' outer s H vs Q E hr h => ?_)
 ·match vs, h with
  | [.ref o, .int n], _ => rfl
 ·match vs, h with
  | [.ref o, .int n], ⟨dx, ho, k⟩ =>
  have hu := hr.units
  refine ⟨_, (a0l (b1q (pvF 0) (pvF 1) rfl)), ?_⟩
  walk_at "rd*"
  intro H1 B1 h1
  exact k H1 B1 h1
theorem g2g (T : Tx K mg A) : a1n P A.wd K mg base CX0 1 A.a5v A.b9l ["self", "gain", "many"] (f8r A.a2v) := by
 have a7s := T.a7s
 have a1j := T.a1j
 have a1k := T.a1k
 refine T.b7n.ok d6i (fun vs H Q E h => ?_) (fun cdv A' outer s H vs Q E hr h => ?_)
 ·match vs, h with
  | [.ref o, .ref gt, .int n], _ => rfl
 ·match vs, h with
  | [.ref o, .ref gt, .int n], ⟨dx, ho, k⟩ =>
  have hu := hr.units
  refine ⟨_, (a0i (b1q (pvF 0) (pvF 1) rfl)
   (a0l (b1q (pvF 0) (pvF 2) rfl))), ?_⟩
  walk_at "rd*"
  intro H1 B1 h1
  walk_at "rd*"
  intro H2 B2 h2
  exact k H2 (fun b u hb e => B2 _ _ hb (B1 _ _ hb e)) h2
theorem h3a.same {H H' : Hp} {fs : List (Str × V)} {d : Dt} (h : h3a H fs d) (S : Same H H') : h3a H' fs d := by
 cases d with
 | gain y => obtain ⟨g, e, h1⟩ := h; exact ⟨g, e, S _ _ h1⟩
 | delay n => exact h
 | echo y n t => obtain ⟨g, fa, e, h1, h2⟩ := h; exact ⟨g, fa, e, S _ _ h1, S _ _ h2⟩
 | back y n => obtain ⟨g, e, h1⟩ := h; exact ⟨g, e, S _ _ h1⟩
 | _ => exact h.elim
theorem IsP.same {A : Ad} {H H' : Hp} {o : Addr} {d : Dt} (h : IsP A H o d) (S : Same H H') : IsP A H' o d := by
 obtain ⟨dx, fs, h1, h2⟩ := h
 exact ⟨dx, fs, S _ _ h1, h2.same S⟩
theorem g2h (T : Tx K mg A) : a1n P A.wd K mg base CX0 1 A.a0v A.b6z ["self"] c5r := by
 refine T.b4n.ok d2t (fun vs H Q E h => ?_) (fun cdv A' outer s H vs Q E hr h => ?_)
 ·match vs, h with
  | [.ref o], _ => rfl
 ·match vs, h with
  | [.ref o], k =>
  have hu := hr.units
  refine ⟨_, (a0l (a1h (b4z a0j))), ?_⟩
  walk_at "rd"
  refine ⟨Nat.zero_le _, fun t H1 n1 S1 h1 => k _ _ ⟨t, rfl, n1, S1, h1⟩⟩
theorem IsG.same {C : Addr} {H H' : Hp} {o : Addr} {p q : Int} (h : IsG C H o p q) (S : Same H H') : IsG C H' o p q := by
 obtain ⟨dx, gt, h1, h2⟩ := h
 exact ⟨dx, gt, S _ _ h1, S _ _ h2⟩
theorem f9n (T : Tx K mg A) : a1n P A.wd K mg base CX0 1 A.a3k A.b1y ["self"] (f1j A.a3h) := by
 have a7r := T.a7r
 have a1i := T.a1i
 refine T.b4o.ok d2u (fun vs H Q E h => ?_) (fun cdv A' outer s H vs Q E hr h => ?_)
 ·match vs, h with
  | [.ref o], _ => rfl
 ·match vs, h with
  | [.ref o], ⟨p, q, ⟨dx, gt, ho, hg⟩, k⟩ =>
  have hu := hr.units
  refine ⟨_, (a0l (a1h (a1o a6s (a5k (pvF 0) rfl) a0k (fun _ _ => rfl)))), ?_⟩
  walk_at "rd*"
theorem g6f (T : Tx K mg A) : a1n P A.wd K mg base CX0 2 A.a2l A.a8w ["self", "state", "tops", "bottom"] (g4g A.a3h) := by
 have b0w : a1n P A.wd K mg base CX0 1 _ _ _ _ := d3w T
 have a7r := T.a7r
 have a1i := T.a1i
 refine T.b0y.ok c7w (fun vs H Q E h => ?_) (fun cdv A' outer s H vs Q E hr h => ?_)
 ·match vs, h with
  | [.ref o, .ref st, .ref x, .int _], _ => rfl
 ·match vs, h with
  | [.ref o, .ref st, .ref x, .int bt], ⟨p, q, xs, ⟨dx, gt, ho, hg⟩, hx, lx, mx, k⟩ =>
  have hu := hr.units
  have a8o : a2y 1 _ := hr.mono (by decide)
  refine ⟨_, (a0l (a1h (b4z (a0g (a0n b0w a8o (by rfl) T.b7j T.a5z.kp T.b0q .nil a1g (a0g (pvF 2) (a0g (a1o a6s (a5k (pvF 0) rfl) a0k (fun _ _ => rfl)) a0j))) (a0g (pvF 1) a0j))))), ?_⟩
  walk_at "rd*"
  refine ⟨xs, rfl, mx, by omega, ?_⟩
  rintro _ H1 ⟨ou, rfl, n1, S1, h1⟩
  walk_at "rd*"
  intro r H2 n2 S2 h2
  exact k r ou st H2 (S1.trans S2) (S1.free n2) n1 h2 (S2 _ _ h1)
theorem IsD.same {C : Addr} {H H' : Hp} {o : Addr} {n : Nat} (h : IsD C H o n) (S : Same H H') : IsD C H' o n := by
 obtain ⟨dx, h1⟩ := h
 exact ⟨dx, S _ _ h1⟩
theorem f9o (T : Tx K mg A) : a1n P A.wd K mg base CX0 1 A.a2p A.b6y ["self"] d3t := by
 refine T.b4m.ok d2s (fun vs H Q E h => ?_) (fun cdv A' outer s H vs Q E hr h => ?_)
 ·match vs, h with
  | [.ref o], _ => rfl
 ·match vs, h with
  | [.ref o], k =>
  have hu := hr.units
  refine ⟨_, (a0l (a1h a0k)), ?_⟩
  walk_at "rd"
  exact k
theorem g6g (T : Tx K mg A) : a1n P A.wd K mg base CX0 2 A.a1w A.a6u ["self", "state", "tops", "bottom"] (g4h A.a1y) := by
 have c0o : a1n P A.wd K mg base CX0 1 _ _ _ _ := c5s T
 have c0p : a1n P A.wd K mg base CX0 1 _ _ _ _ := d9i T
 have a6p := T.a6p
 have a1m := T.a1m
 refine T.a9j.ok b8m (fun vs H Q E h => ?_) (fun cdv A' outer s H vs Q E hr h => ?_)
 ·match vs, h with
  | [.ref o, .ref st, .ref x, .int _], _ => rfl
 ·match vs, h with
  | [.ref o, .ref st, .ref x, .int bt], ⟨n, zs, xs, ⟨dx, ho⟩, hz, hx, lz, lx, k⟩ =>
  have hu := hr.units
  have b6q : a2y 1 _ := hr.mono (by decide)
  have b6r : a2y 1 _ := hr.mono (by decide)
  refine ⟨_, (a0i (a0t (i := 4) b8m.nd rfl (Or.inl rfl) (a0s a1p (a2s c1n (by rfl) T.c1y boot_list (a0g (pvF 1) a0j)) (pvF 2)))
   (a0l (a1h (b4z (a0g (a0n c0o b6q (by rfl) T.c8j T.b3n.kp T.b9t .nil a1g (a0g (pvF 4) (a0g (a0w a2o (by rfl) T.b4g boot_len (a0g (pvF 1) a0j)) (a0g (a5k (pvF 0) rfl) a0j)))) (a0g (a0n c0p b6r (by rfl) T.c8k T.b3o.kp T.b9u .nil a1g (a0g (pvF 4) (a0g (a5k (pvF 0) rfl) a0j))) a0j)))))), ?_⟩
  walk_at "rd*"
  intro l1 H1 n1 S1 h1
  have hx1 := S1 _ _ hx
  walk_at "rd*"
  refine ⟨by rw [sizeLine_eq]; omega, ?_⟩
  intro kn H2 n2 S2 h2
  rw [<- List.map_append] at h2
  have S02 : Same H H2 := S1.trans S2
  have ho2 := S02 _ _ ho
  have hz2 := S02 _ _ hz
  clear h1 hx1
  walk_at "rd*"
  refine ⟨zs ++ xs, rfl, zs.length, rfl, n, rfl, by simp, by simp; omega, ?_⟩
  rintro _ H3 ⟨ou, rfl, n3, S3, h3⟩
  have ho3 := S3 _ _ ho2
  have h23 := S3 _ _ h2
  clear h2 ho2 hz2
  walk_at "rd*"
  refine ⟨zs ++ xs, rfl, n, rfl, by simp; omega, ?_⟩
  rintro _ H4 ⟨s2, rfl, n4, S4, h4⟩
  walk_at "rd*"
  intro r H5 n5 S5 h5
  exact k r ou s2 H5 (S02.trans (S3.trans (S4.trans S5))) ((S02.trans (S3.trans S4)).free n5) (S02.free n3) h5 (S5 _ _ (S4 _ _ h3)) (S5 _ _ h4)
theorem f9p (T : Tx K mg A) : a1n P A.wd K mg base CX0 1 A.a3m A.b2g ["self"] (f1k A.a2v) := by
 have a7s := T.a7s
 have a1j := T.a1j
 have a1k := T.a1k
 refine T.b4s.ok d2z (fun vs H Q E h => ?_) (fun cdv A' outer s H vs Q E hr h => ?_)
 ·match vs, h with
  | [.ref o], _ => rfl
 ·match vs, h with
  | [.ref o], ⟨dx, gt, n, p, q, ho, hg, k⟩ =>
  have hu := hr.units
  unfold bkF at ho
  refine ⟨_, (a0l (a1h (a1o a6s (a5k (pvF 0) rfl) a0k (fun _ _ => rfl)))), ?_⟩
  walk_at "rd*"
theorem g6h (T : Tx K mg A) : a1n P A.wd K mg base CX0 2 A.a2n A.a8z ["self", "state", "tops", "bottom"] (g4i A.a2v) := by
 have c0o : a1n P A.wd K mg base CX0 1 _ _ _ _ := c5s T
 have c0p : a1n P A.wd K mg base CX0 1 _ _ _ _ := d9i T
 have c0q : a1n P A.wd K mg base CX0 1 _ _ _ _ := f1n T
 have b0w : a1n P A.wd K mg base CX0 1 _ _ _ _ := d3w T
 have a7s := T.a7s
 have a1j := T.a1j
 have a1k := T.a1k
 refine T.b1g.ok a8v (fun vs H Q E h => ?_) (fun cdv A' outer s H vs Q E hr h => ?_)
 ·match vs, h with
  | [.ref o, .ref st, .ref x, .int _], _ => rfl
 ·match vs, h with
  | [.ref o, .ref st, .ref x, .int bt], ⟨dx, gt, n, p, q, zs, xs, ho, hg, hz, hx, lz, lx, mz, mx, mq, m0, k⟩ =>
  have hu := hr.units
  have b6q : a2y 1 _ := hr.mono (by decide)
  have b6r : a2y 1 _ := hr.mono (by decide)
  have b7y : a2y 1 _ := hr.mono (by decide)
  have a8o : a2y 1 _ := hr.mono (by decide)
  unfold bkF at ho
  refine ⟨_, (a0i (a0t (i := 4) a8v.nd rfl (Or.inl rfl) (a0s a1p (a2s c1n (by rfl) T.c1y boot_list (a0g (pvF 1) a0j)) (pvF 2)))
   (a0i (a0t (i := 5) a8v.nd rfl (Or.inl rfl) (a0n c0o b6q (by rfl) T.c8j T.b3n.kp T.b9t .nil a1g (a0g (pvF 4) (a0g (a0w a2o (by rfl) T.b4g boot_len (a0g (pvF 1) a0j)) (a0g (a5k (pvF 0) rfl) a0j)))))
   (a0i (a0t (i := 6) a8v.nd rfl (Or.inl rfl) (a0n c0q b7y (by rfl) T.c6p T.a8j.kp T.b4l .nil a1g (a0g (a0n b0w a8o (by rfl) T.b7j T.a5z.kp T.b0q .nil a1g (a0g (pvF 2) (a0g (a1o a6s (a5k (pvF 0) rfl) a0k (fun _ _ => rfl)) a0j))) (a0g (a0n b0w a8o (by rfl) T.b7j T.a5z.kp T.b0q .nil a1g (a0g (pvF 5) (a0g (g7z g3m (a1o a6s (a5k (pvF 0) rfl) a0k (fun _ _ => rfl))) a0j))) a0j))))
   (a0l (a1h (b4z (a0g (pvF 6) (a0g (a0n c0p b6r (by rfl) T.c8k T.b3o.kp T.b9u .nil a1g (a0g (pvF 4) (a0g (a5k (pvF 0) rfl) a0j))) a0j)))))))), ?_⟩
  walk_at "rd*"
  intro l1 H1 n1 S1 h1
  have hx1 := S1 _ _ hx
  walk_at "rd*"
  refine ⟨by rw [sizeLine_eq]; omega, ?_⟩
  intro kn H2 n2 S2 h2
  rw [<- List.map_append] at h2
  have S02 : Same H H2 := S1.trans S2
  have ho2 := S02 _ _ ho
  have hz2 := S02 _ _ hz
  clear h1 hx1
  walk_at "rd*"
  refine ⟨zs ++ xs, rfl, zs.length, rfl, n, rfl, by simp, by simp; omega, ?_⟩
  rintro _ H3 ⟨hd, rfl, n3, S3, h3⟩
  have S03 := S02.trans S3
  have ho3 := S03 _ _ ho
  have hg3 := S03 _ _ hg
  have hx3 := S03 _ _ hx
  have h23 := S3 _ _ h2
  clear h2 ho2 hz2
  walk_at "rd*"
  refine ⟨xs, rfl, mq, by omega, ?_⟩
  rintro _ H4 ⟨t4, rfl, n4, S4, h4⟩
  have ho4 := S4 _ _ ho3
  have hg4 := S4 _ _ hg3
  have h34 := S4 _ _ h3
  clear ho3 hg3 hx3
  walk_at "rd*"
  have dl := b1h (zs ++ xs) zs.length n
  refine ⟨_, rfl, ?_, by rw [dl]; simp; omega, ?_⟩
  ·intro y hy
   rcases f1o hy with h | h
   ·rcases List.mem_append.mp h with h | h
    ·exact mz y h
    ·exact mx y h
   ·rw [h]; exact m0
  rintro _ H5 ⟨t5, rfl, n5, S5, h5⟩
  have h45 := S5 _ _ h4
  walk_at "rd*"
  refine ⟨_, rfl, _, rfl, by simp; omega, by rw [List.length_map, dl]; simp; omega, ?_⟩
  rintro _ H6 ⟨ou, rfl, n6, S6, h6⟩
  have S36 : Same H3 H6 := (S4.trans S5).trans S6
  have ho6 := S36 _ _ (S03 _ _ ho)
  have h26 := S36 _ _ h23
  clear h4 h45 ho4 hg4 h34 h5 h3
  walk_at "rd*"
  refine ⟨zs ++ xs, rfl, n, rfl, by simp; omega, ?_⟩
  rintro _ H7 ⟨s2, rfl, n7, S7, h7⟩
  walk_at "rd*"
  intro r H8 n8 S8 h8
  have S06 := S03.trans S36
  exact k r ou s2 H8 (S06.trans (S7.trans S8)) ((S06.trans S7).free n8) ((S03.trans (S4.trans S5)).free n6) (S06.free n7) h8 (S8 _ _ (S7 _ _ h6)) (S8 _ _ h7)
theorem g7e {a b : List Int} (hl : a.length = b.length) (h : ∀ i, i < a.length -> a.getD i 0 = b.getD i 0) : a = b := by
 apply List.ext_getElem?
 intro i
 by_cases hi : i < a.length
 ·have := h i hi
  rw [List.getD_eq_getElem?_getD, List.getD_eq_getElem?_getD, List.getElem?_eq_getElem hi, List.getElem?_eq_getElem (by omega)] at this
  rw [List.getElem?_eq_getElem hi, List.getElem?_eq_getElem (by omega)]
  simpa using this
 ·rw [List.getElem?_eq_none (by omega), List.getElem?_eq_none (by omega)]
theorem d4g (a b : List Int) (i : Nat) : (a ++ b).getD i 0 = if i < a.length then a.getD i 0 else b.getD (i - a.length) 0 := by
 rw [List.getD_eq_getElem?_getD]
 split
 ·rename_i h
  rw [List.getElem?_append_left h, <- List.getD_eq_getElem?_getD]
 ·rename_i h
  rw [List.getElem?_append_right (by omega), <- List.getD_eq_getElem?_getD]
theorem f9q (a : List Int) (k i : Nat) : (a.drop k).getD i 0 = a.getD (k + i) 0 := by
 rw [List.getD_eq_getElem?_getD, List.getElem?_drop, <- List.getD_eq_getElem?_getD]
theorem f1q {xs ys : List Int} {k : Nat} (h : k <= xs.length) : xs.drop k ++ ys = (xs ++ ys).drop k := (List.drop_append_of_le_length h).symm
theorem c9k {xs ys : List Int} {N k : Nat} (hk : k <= N) : d7o (xs.drop (xs.length - N) ++ ys) (xs.drop (xs.length - N)).length k = d7o (xs ++ ys) xs.length k := by
 refine g7e (by rw [b1h, b1h]; simp) fun i hi => ?_
 rw [b1h, List.length_append] at hi
 rw [c4m (by rw [List.length_append]; omega), c4m (by rw [List.length_append]; omega), f1q (by omega), List.length_drop, f9q]
 by_cases h1 : k <= xs.length + i
 ·by_cases h2 : N <= xs.length
  ·rw [if_pos h1, if_pos (by omega)]
   congr 1
   omega
  ·have e : xs.length - N = 0 := by omega
   rw [e, if_pos h1, if_pos (by omega)]
   congr 1
   omega
 ·rw [if_neg h1, if_neg (by omega)]
theorem c9l (xs ys : List Int) (N : Nat) : (xs.drop (xs.length - N) ++ ys).drop ((xs.drop (xs.length - N) ++ ys).length - N) = (xs ++ ys).drop ((xs ++ ys).length - N) := by
 rw [f1q (by omega), List.drop_drop, List.length_drop, List.length_append]
 congr 1
 omega
theorem StV.same {H H' : Hp} {xs : List Int} {st : V} {d : Dt} (h : StV H xs st d) (Z : Same H H') : StV H' xs st d := by
 cases d with
 | gain y => exact h
 | delay n => obtain ⟨p, e, h⟩ := h; exact ⟨p, e, Z _ _ h⟩
 | echo y n t => obtain ⟨p, e, h⟩ := h; exact ⟨p, e, Z _ _ h⟩
 | back y n => obtain ⟨p, e, h⟩ := h; exact ⟨p, e, Z _ _ h⟩
 | _ => exact h.elim
theorem a3o (d : Dt) (xs ys : List Int) : (outs d xs ys).length = ys.length := by unfold outs; simp
theorem b4w {d : Dt} {xs ys : List Int} {i : Nat} (h : i < ys.length) : (outs d xs ys).getD i 0 = tap (d1w d) (b8p (xs ++ ys)) ((xs.length + i : Nat) : Int) := by
 unfold outs
 rw [List.getD_eq_getElem?_getD, List.getElem?_map, List.getElem?_range h]
 rfl
theorem c9m (xs : List Int) (i n : Nat) : b8p xs ((i : Int) - (n : Int)) = if n <= i then xs.getD (i - n) 0 else 0 := by
 unfold b8p
 by_cases h : n <= i
 ·rw [if_neg (by omega), if_pos h]
  congr 1
  omega
 ·rw [if_pos (by omega), if_neg h]
theorem getD_at (xs ys : List Int) (i : Nat) : (xs ++ ys).getD (xs.length + i) 0 = ys.getD i 0 := by
 rw [d4g, if_neg (by omega)]
 congr 1
 omega
theorem d2h {X Y : Nat -> Int} {p q : Int} {t : Nat} : ∀ {j : Nat}, (∀ m, m < j -> X m = Y m) -> d1v X p q t j = d1v Y p q t j
 | 0, _ => rfl
 | j + 1, h => by rw [d1v, d1v, d2h (fun m hm => h m (by omega)), h j (by omega)]
theorem c0r (p q : Int) (t n : Nat) (X : Int -> Int) (j : Int) : ∀ k, tap ((List.range k).map fun m => (f8o p q t m, m * n)) X j = d1v (fun m => X (j - ((m * n : Nat) : Int))) p q t k
 | 0 => rfl
 | k + 1 => by
  rw [List.range_succ, List.map_append, d1v, <- c0r p q t n X j k]
  unfold tap
  rw [List.map_append, List.sum_append]
  congr 1
  show _ * _ + 0 = _
  rw [Int.add_zero, Int.mul_comm]
theorem f9r (y : Rat) (xs ys : List Int) : outs (.gain y) xs ys = ys.map (· * y.num) := by
 refine g7e (by rw [a3o, List.length_map]) fun i hi => ?_
 rw [a3o] at hi
 rw [b4w hi, c1s]
 show y.num * b8p (xs ++ ys) (((xs.length + i : Nat) : Int) - ((0 : Nat) : Int)) + 0 = _
 rw [Int.add_zero, c9m, if_pos (Nat.zero_le _), Nat.sub_zero, getD_at, Int.mul_comm]
theorem f3s (n : Nat) (xs ys : List Int) : outs (.delay n) xs ys = d7o (xs ++ ys) xs.length n := by
 refine g7e (by rw [a3o, b1h, List.length_append]; omega) fun i hi => ?_
 rw [a3o] at hi
 rw [b4w hi, c4m (by rw [List.length_append]; omega)]
 show 1 * b8p (xs ++ ys) (((xs.length + i : Nat) : Int) - (n : Int)) + 0 = _
 rw [Int.add_zero, Int.one_mul, c9m]
theorem f9s (y : Rat) (n t : Nat) (xs ys : List Int) : outs (.echo y n t) xs ys = g0q (xs.drop (xs.length - n * t) ++ ys) (xs.drop (xs.length - n * t)).length n y.num y.den t (t + 1) := by
 refine g7e (by rw [a3o, g2e, List.length_append]; omega) fun i hi => ?_
 rw [a3o] at hi
 rw [b4w hi, f1p (by rw [List.length_append]; omega)]
 show tap ((List.range (t + 1)).map _) _ _ = _
 rw [c0r]
 refine d2h fun m hm => ?_
 have le : m * n <= n * t := by
  rw [Nat.mul_comm n t]
  exact Nat.mul_le_mul_right n (by omega)
 rw [c9k le, c4m (by rw [List.length_append]; omega), c9m]
theorem f9t (y : Rat) (n : Nat) (xs ys : List Int) : outs (.back y n) xs ys = g0o (ys.map (· * (y.den : Int))) ((d7o (xs ++ ys) xs.length n).map (· * (-y.num))) := by
 refine g7e (by rw [a3o, d3v, List.length_map, List.length_map, b1h, List.length_append]; omega) fun i hi => ?_
 rw [a3o] at hi
 rw [b4w hi, f1m (by rw [List.length_map]; omega), c1s, c1s, c4m (by rw [List.length_append]; omega)]
 show (y.den : Int) * b8p (xs ++ ys) (((xs.length + i : Nat) : Int) - ((0 : Nat) : Int)) + (-y.num * b8p (xs ++ ys) (((xs.length + i : Nat) : Int) - (n : Int)) + 0) = _
 rw [c9m, c9m, if_pos (Nat.zero_le _), Nat.sub_zero, getD_at, Int.add_zero, Int.mul_comm, Int.mul_comm (-y.num)]
theorem f9u {xs ys : List Int} {i : Int} (h : i < (xs.length : Int)) : b8p (xs ++ ys) i = b8p xs i := by
 unfold b8p
 split
 ·rfl
 ·rw [d4g, if_pos (by omega)]
theorem d6s {L : List (Int × Nat)} {X Y : Int -> Int} {i : Int} (h : ∀ j, j <= i -> X j = Y j) : tap L X i = tap L Y i := by
 unfold tap
 congr 1
 refine List.map_congr_left fun c _ => ?_
 rw [h _ (by omega)]
theorem g2i (d : Dt) (xs ys zs : List Int) : outs d xs (ys ++ zs) = outs d xs ys ++ outs d (xs ++ ys) zs := by
 refine g7e (by rw [List.length_append, a3o, a3o, a3o, List.length_append]) fun i hi => ?_
 rw [a3o, List.length_append] at hi
 rw [b4w (by rw [List.length_append]; exact hi), d4g, a3o]
 split
 ·rename_i h
  rw [b4w h, <- List.append_assoc]
  exact d6s fun j hj => f9u (by rw [List.length_append]; omega)
 ·rename_i h
  rw [b4w (by omega), <- List.append_assoc, List.length_append]
  congr 2
  omega
theorem c2v {k : Nat} {f : Addr} {fd : FuncData} {ps : List Str} {sp sp' : Sp} (F : a1n P A.wd K mg base CX0 k f fd ps sp) (h : ∀ vs H Q E, sp' vs H Q E -> sp vs H Q E) : a1n P A.wd K mg base CX0 k f fd ps sp' :=
 ⟨fun vs H Q E z => F.len vs H Q E (h _ _ _ _ z), fun A outer s H args us vs Q E hr e0 hb hv z => F.run A outer s H args us vs Q E hr e0 hb hv (h _ _ _ _ z)⟩
theorem f9v (T : Tx K mg A) : a1n P A.wd K mg base CX0 2 A.a2l A.a8w ["self", "state", "tops", "bottom"] (d0y A 0) := c2v (g6f T) fun vs H Q E h => by
 match vs, h with
 | [.ref o, st, .ref l, .int b], ⟨d, xs, ys, hk, hp, ok, hst, hl, lx, ly, by0, q⟩ =>
  cases d with
  | gain y =>
   obtain ⟨p, rfl⟩ := hst
   obtain ⟨dx, _, ho, g, rfl, hg⟩ := hp
   have yb := YOk.b ok
   exact ⟨y.num, y.den, ys, ⟨dx, g, ho, hg⟩, hl, by omega, fun z hz => IntMulOk.of_right (by omega), fun r ou s2 H1 S1 nr no h1 h2 => q r ou _ H1 S1 nr no h1 (by rw [h2, f9r]) ⟨s2, rfl⟩⟩
  | _ => simp [Dt.kd] at hk
theorem f3t (T : Tx K mg A) : a1n P A.wd K mg base CX0 2 A.a1w A.a6u ["self", "state", "tops", "bottom"] (d0y A 1) := c2v (g6g T) fun vs H Q E h => by
 match vs, h with
 | [.ref o, st, .ref l, .int b], ⟨d, xs, ys, hk, hp, ok, hst, hl, lx, ly, by0, q⟩ =>
  cases d with
  | delay n =>
   obtain ⟨p, rfl, hs⟩ := hst
   obtain ⟨dx, _, ho, rfl⟩ := hp
   exact ⟨n, _, ys, ⟨dx, ho⟩, hs, hl, by rw [List.length_drop]; omega, by omega, fun r ou s2 H1 S1 nr no h1 h2 h3 => q r ou _ H1 S1 nr no h1 (by rw [h2, f3s, c9k (Nat.le_refl _)]) ⟨s2, rfl, by rw [h3, c9l]⟩⟩
  | _ => simp [Dt.kd] at hk
theorem f9w (T : Tx K mg A) : a1n P A.wd K mg base CX0 2 A.a2m A.a8y ["self", "state", "tops", "bottom"] (d0y A 2) := c2v (g6e T) fun vs H Q E h => by
 match vs, h with
 | [.ref o, st, .ref l, .int b], ⟨d, xs, ys, hk, hp, ok, hst, hl, lx, ly, by0, q⟩ =>
  cases d with
  | echo y n t =>
   obtain ⟨p, rfl, hs⟩ := hst
   obtain ⟨dx, _, ho, g, fa, rfl, hg, hf⟩ := hp
   obtain ⟨oy, n1, n2, t2⟩ := ok
   have yb := oy.b
   refine ⟨y.num, y.den, n, t, _, ys, ⟨dx, g, fa, ho, hg, hf⟩, hs, hl, by rw [List.length_drop]; omega, by omega, by omega, t2, yb.1, yb.2, fun z hz => ?_, fun r ou s2 H1 S1 nr no h1 h2 h3 => q r ou _ H1 S1 nr no h1 (by rw [h2, f9s]) ⟨s2, rfl, by rw [h3, c9l]⟩⟩
   refine Nat.le_trans (by0 z ?_) (by decide)
   rcases List.mem_append.mp hz with h | h
   ·exact List.mem_append_left _ (List.mem_of_mem_drop h)
   ·exact List.mem_append_right _ h
  | _ => simp [Dt.kd] at hk
theorem f9y (T : Tx K mg A) : a1n P A.wd K mg base CX0 2 A.a2n A.a8z ["self", "state", "tops", "bottom"] (d0y A 3) := c2v (g6h T) fun vs H Q E h => by
 match vs, h with
 | [.ref o, st, .ref l, .int b], ⟨d, xs, ys, hk, hp, ok, hst, hl, lx, ly, by0, q⟩ =>
  cases d with
  | back y n =>
   obtain ⟨p, rfl, hs⟩ := hst
   obtain ⟨dx, _, ho, g, rfl, hg⟩ := hp
   obtain ⟨oy, n1, n2⟩ := ok
   have yb := oy.b
   have nb := intBits_neg_le yb.1
   exact ⟨dx, g, n, y.num, y.den, _, ys, ho, hg, hs, hl, by rw [List.length_drop]; omega, by omega, fun z hz => IntMulOk.of_right (by omega), fun z hz => IntMulOk.of_right (by omega), fun z hz => IntMulOk.of_right (by omega), IntMulOk.of_left (by decide), fun r ou s2 H1 S1 nr no n2' h1 h2 h3 => q r ou _ H1 S1 nr no h1 (by rw [h2, f9t, c9k (Nat.le_refl _)]) ⟨s2, rfl, by rw [h3, c9l]⟩⟩
  | _ => simp [Dt.kd] at hk
theorem f9z (T : Tx K mg A) : a1n P A.wd K mg base CX0 1 A.a3k A.b1y ["self"] (d8y A 0) := c2v (f9n T) fun vs H Q E h => by
 match vs, h with
 | [.ref o], ⟨d, hk, hp, q⟩ =>
  cases d with
  | gain y =>
   obtain ⟨dx, _, ho, g, rfl, hg⟩ := hp
   exact ⟨y.num, y.den, ⟨dx, g, ho, hg⟩, q⟩
  | _ => simp [Dt.kd] at hk
theorem g0a (T : Tx K mg A) : a1n P A.wd K mg base CX0 1 A.a3l A.b1z ["self"] (d8y A 2) := c2v (f9k T) fun vs H Q E h => by
 match vs, h with
 | [.ref o], ⟨d, hk, hp, q⟩ =>
  cases d with
  | echo y n t =>
   obtain ⟨dx, _, ho, g, fa, rfl, hg, hf⟩ := hp
   exact ⟨y.num, y.den, n, t, ⟨dx, g, fa, ho, hg, hf⟩, q⟩
  | _ => simp [Dt.kd] at hk
theorem g0b (T : Tx K mg A) : a1n P A.wd K mg base CX0 1 A.a3m A.b2g ["self"] (d8y A 3) := c2v (f9p T) fun vs H Q E h => by
 match vs, h with
 | [.ref o], ⟨d, hk, hp, q⟩ =>
  cases d with
  | back y n =>
   obtain ⟨dx, _, ho, g, rfl, hg⟩ := hp
   exact ⟨dx, g, n, y.num, y.den, ho, hg, q⟩
  | _ => simp [Dt.kd] at hk
theorem g2j {d : Dt} (hk : d.kd < 4) {H : Hp} {p : Addr} (h : H p = some (.tup [])) : StV H [] (.ref p) d := by
 cases d with
 | gain => exact ⟨p, rfl⟩
 | delay => exact ⟨p, rfl, by rw [List.drop_nil]; exact h⟩
 | echo => exact ⟨p, rfl, by rw [List.drop_nil]; exact h⟩
 | back => exact ⟨p, rfl, by rw [List.drop_nil]; exact h⟩
 | hall => exact absurd hk (by simp [Dt.kd])
 | swell => exact absurd hk (by simp [Dt.kd])
theorem IsP.kd4 {A : Ad} {H : Hp} {o : Addr} {d : Dt} (h : IsP A H o d) : d.kd < 4 := by
 obtain ⟨_, _, _, h⟩ := h
 cases d with
 | gain => simp [Dt.kd]
 | delay => simp [Dt.kd]
 | echo => simp [Dt.kd]
 | back => simp [Dt.kd]
 | _ => exact h.elim
theorem g6i (T : Tx K mg A) : a1n P A.wd K mg base CX0 4 A.a7k A.b9m ["text"] h7i := by
 have c9n : a1n P A.wd K mg base CX0 3 _ _ _ _ := g6c T
 refine T.a7q.ok c6k (fun vs H Q E h => ?_) (fun cdv A' outer s H vs Q E hr h => ?_)
 ·match vs, h with
  | [.str x], _ => rfl
 ·match vs, h with
  | [.str x], ⟨y, hx, oy, k⟩ =>
  subst hx
  have hu := hr.units
  have c7h : a2y 3 _ := hr.mono (by decide)
  refine ⟨_, (a0i (g5t (a0t (i := 1) c6k.nd rfl (Or.inl rfl) (a0n c9n c7h (by rfl) T.c8i T.a5y.kp T.b3m .nil a1g (a0g (pvF 0) a0j))))
   (a0i (a9s (pw_or (a2h d8g (a0w b8v (by rfl) T.d3i boot_abs (a0g (a1o a6s (pvF 1) a0k (fun _ _ => rfl)) a0j)) (a8q (v := .int 1000) (by rfl) T.a8l T.c6q) (a3r _)) (pw_or1 (a2h d8g (a1o a6s (pvF 1) a0k (fun _ _ => rfl)) (a8q (v := .int 1000) (by rfl) T.a8l T.c6q) (a3r _)))).pt
   (a0l a5m)
   a2g)
   (a0l (a1h (pvF 1))))), ?_⟩
  walk_at "rd"
  refine ⟨y.num, (y.den : Int), g5u oy, ?_⟩
  rintro _ H1 ⟨o, rfl, n1, S1, h1⟩
  have y1 : ¬ 1000 < (y.num.natAbs : Int) := by have := oy.1; omega
  have y2 : ¬ 1000 < (y.den : Int) := by have := oy.2; omega
  walk_at "rd*"
  exact k _ _ ⟨o, rfl, n1, S1, h1⟩
theorem g6j (T : Tx K mg A) : a1n P A.wd K mg base CX0 3 A.a4n A.b5h ["text", "least", "most"] h7j := by
 have f3u : a1n P A.wd K mg base CX0 2 _ _ _ _ := h1v T
 refine T.a4s.ok c1w (fun vs H Q E h => ?_) (fun cdv A' outer s H vs Q E hr h => ?_)
 ·match vs, h with
  | [.str x, .int a, .int b], _ => rfl
 ·match vs, h with
  | [.str x, .int a, .int b], ⟨n, hx, hn, h1, h2, q⟩ =>
  have hu := hr.units
  have d9k : a2y 2 _ := hr.mono (by decide)
  refine ⟨_, (a0i (a0t (i := 3) c1w.nd rfl (Or.inl rfl) (a0n f3u d9k (by rfl) T.f3i T.b6j.kp T.c5m .nil a1g (a0g (pvF 0) a0j)))
   (a0i (a9s (pw_or (a2h g8e (pvF 3) f4v (a3r _)) (pw_or (a2h of_lt (pvF 3) (pvF 1) (a3r _)) (pw_or1 (a2h d8g (pvF 3) (pvF 2) (a3r _))))).pt
   (a0l a5m)
   a2g)
   (a0l (a1h (pvF 3))))), ?_⟩
  walk_at "rd"
  refine ⟨n, hx, hn, ?_⟩
  have z1 : ¬ (n : Int) < a := by omega
  have z2 : ¬ b < (n : Int) := by omega
  walk_at "rd*"
theorem h1x (T : Tx K mg A) : a1n P A.wd K mg base CX0 4 A.a7l A.b9n ["text"] h7k := by
 have a9r : a1n P A.wd K mg base CX0 3 _ _ _ _ := g6j T
 refine T.b0s.ok d6j (fun vs H Q E h => ?_) (fun cdv A' outer s H vs Q E hr h => ?_)
 ·match vs, h with
  | [.str x], _ => rfl
 ·match vs, h with
  | [.str x], ⟨n, hx, n1, n2, q⟩ =>
  subst hx
  have hu := hr.units
  have a6t : a2y 3 _ := hr.mono (by decide)
  refine ⟨_, (a0l (a1h (a0n a9r a6t (by rfl) T.b7o T.a4s.kp T.a9k .nil a1g (a0g (pvF 0) (a0g a0k (a0g (a8q (v := .int 1000) (by rfl) T.a8m T.c6r) a0j)))))), ?_⟩
  walk_at "rd"
  exact ⟨n, g1u n, by omega, by omega, by omega, q⟩
theorem g2k (T : Tx K mg A) : a1n P A.wd K mg base CX0 1 A.a4o A.b5i ["values", "count"] h7l := by
 refine T.a3n.ok d0r (fun vs H Q E h => ?_) (fun cdv A' outer s H vs Q E hr h => ?_)
 ·match vs, h with
  | [.ref l, .int c], _ => rfl
 ·match vs, h with
  | [.ref l, .int c], ⟨xs, hl, e, q⟩ =>
  have hu := hr.units
  refine ⟨_, (a0l (a9s (a2h (c3r hu) (a0w a2o (by rfl) T.b4g boot_len (a0g (pvF 0) a0j)) (pvF 1) (a3r _))
   (a0l a5m)
   a2g)), ?_⟩
  walk_at "rd*"
theorem f3v (T : Tx K mg A) : a1n P A.wd K mg base CX0 6 A.a9g A.c5h ["values"] (h1q A 0) := by
 have a4v : a1n P A.wd K mg base CX0 1 _ _ _ _ := g2k T
 have b3u : a1n P A.wd K mg base CX0 4 _ _ _ _ := g6i T
 have d9l : a1n P A.wd K mg base CX0 1 _ _ _ _ := g2f T
 have a7r := T.a7r
 have a1i := T.a1i
 refine T.c0i.ok f2y (fun vs H Q E h => ?_) (fun cdv A' outer s H vs Q E hr h => ?_)
 ·match vs, h with
  | [.ref l], _ => rfl
 ·match vs, h with
  | [.ref l], ⟨d, hk, ok, hl, q⟩ =>
  cases d with
  | gain y =>
   have hu := hr.units
   have a3p : a2y 1 _ := hr.mono (by decide)
   have b1o : a2y 4 _ := hr.mono (by decide)
   have d6t : a2y 2 _ := hr.mono (by decide)
   replace hl : H l = some (.lst [.str (fW y)]) := hl
   refine ⟨_, (a0i (b6t (a0n a4v a3p (by rfl) T.b2h T.a3n.kp T.a6o .nil a1g (a0g (pvF 0) (a0g a0k a0j))))
   (a0l (a1h (c4g T.h1g d9l d6t (by rfl) T.c8u T.c2p .nil a1g (a0g (a0n b3u b1o (by rfl) T.c2s T.a7q.kp T.b3q .nil a1g (a0g (a1o a6s (pvF 0) a0k (fun _ _ => rfl)) a0j)) a0j))))), ?_⟩
   walk_at "rd"
   refine ⟨_, hl, rfl, ?_⟩
   walk_at "rd*"
   refine ⟨y, rfl, ok, ?_⟩
   rintro _ H1 ⟨g, rfl, n1, S1, h1⟩
   walk_at "rd"
   intro x dx H2 n2 n3 nx S2 hdx hx
   refine ⟨dx, hx, fun H3 B3 h3 => ?_⟩
   rw [asNew]
   refine ⟨rfl, ?_⟩
   have gx : g ≠ x := fun e => by rw [e] at h1; rw [h1] at n2; cases n2
   refine q x H3 (S1.free n2) (fun b u e => B3 _ _ (fun z => by rw [z] at e; rw [S1 _ _ e] at n2; cases n2) (S2 _ _ (S1 _ _ e))) ⟨dx, _, h3, g, rfl, B3 _ _ gx (S2 _ _ h1)⟩
  | _ => simp [Dt.kd] at hk
theorem d9m (T : Tx K mg A) : a1n P A.wd K mg base CX0 6 A.a6n A.c2l ["values"] (h1q A 1) := by
 have a4v : a1n P A.wd K mg base CX0 1 _ _ _ _ := g2k T
 have a9r : a1n P A.wd K mg base CX0 3 _ _ _ _ := g6j T
 have d6u : a1n P A.wd K mg base CX0 1 _ _ _ _ := f9m T
 have a6p := T.a6p
 have a1m := T.a1m
 refine T.b6l.ok d8s (fun vs H Q E h => ?_) (fun cdv A' outer s H vs Q E hr h => ?_)
 ·match vs, h with
  | [.ref l], _ => rfl
 ·match vs, h with
  | [.ref l], ⟨d, hk, ok, hl, q⟩ =>
  cases d with
  | delay n =>
   have hu := hr.units
   have a3p : a2y 1 _ := hr.mono (by decide)
   have a6t : a2y 3 _ := hr.mono (by decide)
   have d4h : a2y 2 _ := hr.mono (by decide)
   have ok : n <= 1000 := ok
   replace hl : H l = some (.lst [.str (nW n)]) := hl
   refine ⟨_, (a0i (b6t (a0n a4v a3p (by rfl) T.b2h T.a3n.kp T.a6o .nil a1g (a0g (pvF 0) (a0g a0k a0j))))
   (a0l (a1h (c4g T.g5z d6u d4h (by rfl) T.c4k T.b9y .nil a1g (a0g (a0n a9r a6t (by rfl) T.b7o T.a4s.kp T.a9k .nil a1g (a0g (a1o a6s (pvF 0) a0k (fun _ _ => rfl)) (a0g a0k (a0g (a8q (v := .int 1000) (by rfl) T.a8m T.c6r) a0j)))) a0j))))), ?_⟩
   walk_at "rd"
   refine ⟨_, hl, rfl, ?_⟩
   walk_at "rd*"
   refine ⟨n, g1u n, by omega, by omega, by omega, ?_⟩
   intro x dx H2 n2 n3 nx S2 hdx hx
   refine ⟨dx, hx, fun H3 B3 h3 => ?_⟩
   rw [asNew]
   refine ⟨rfl, ?_⟩
   exact q x H3 n2 (fun b u e => B3 _ _ (fun z => by rw [z] at e; rw [e] at n2; cases n2) (S2 _ _ e)) ⟨dx, _, h3, rfl⟩
  | _ => simp [Dt.kd] at hk
theorem f3w (T : Tx K mg A) : a1n P A.wd K mg base CX0 6 A.a9h A.c5i ["values"] (h1q A 2) := by
 have a4v : a1n P A.wd K mg base CX0 1 _ _ _ _ := g2k T
 have b3u : a1n P A.wd K mg base CX0 4 _ _ _ _ := g6i T
 have c2w : a1n P A.wd K mg base CX0 4 _ _ _ _ := h1x T
 have a9r : a1n P A.wd K mg base CX0 3 _ _ _ _ := g6j T
 have d9n : a1n P A.wd K mg base CX0 2 _ _ _ _ := g2d T
 have a5l := T.a5l
 have a0y := T.a0y
 have a0z := T.a0z
 have a0u := T.a0u
 have a0o := T.a0o
 have a0m := T.a0m
 refine T.c0j.ok f2z (fun vs H Q E h => ?_) (fun cdv A' outer s H vs Q E hr h => ?_)
 ·match vs, h with
  | [.ref l], _ => rfl
 ·match vs, h with
  | [.ref l], ⟨d, hk, ok, hl, q⟩ =>
  cases d with
  | echo y n t =>
   have hu := hr.units
   have a3p : a2y 1 _ := hr.mono (by decide)
   have b1o : a2y 4 _ := hr.mono (by decide)
   have c0s : a2y 4 _ := hr.mono (by decide)
   have a6t : a2y 3 _ := hr.mono (by decide)
   have d6v : a2y 3 _ := hr.mono (by decide)
   obtain ⟨oy, na, nb, tb⟩ := ok
   replace hl : H l = some (.lst [.str (fW y), .str (nW n), .str (nW t)]) := hl
   refine ⟨_, (a0i (b6t (a0n a4v a3p (by rfl) T.b2h T.a3n.kp T.a6o .nil a1g (a0g (pvF 0) (a0g a0k a0j))))
   (a0l (a1h (c4g T.h1h d9n d6v (by rfl) T.c8v T.c2q .nil a1g (a0g (a0n b3u b1o (by rfl) T.c2s T.a7q.kp T.b3q .nil a1g (a0g (a1o a6s (pvF 0) a0k (fun _ _ => rfl)) a0j)) (a0g (a0n c2w c0s (by rfl) T.c8m T.b0s.kp T.b7p .nil a1g (a0g (a1o a6s (pvF 0) a0k (fun _ _ => rfl)) a0j)) (a0g (a0n a9r a6t (by rfl) T.b7o T.a4s.kp T.a9k .nil a1g (a0g (a1o a6s (pvF 0) a0k (fun _ _ => rfl)) (a0g a0k (a0g (a8q (v := .int 16) (by rfl) T.a9p T.d3r) a0j)))) a0j))))))), ?_⟩
   walk_at "rd"
   refine ⟨_, hl, rfl, ?_⟩
   walk_at "rd*"
   refine ⟨y, rfl, oy, ?_⟩
   rintro _ H1 ⟨g, rfl, n1, S1, h1⟩
   have hl1 := S1 _ _ hl
   clear hl
   walk_at "rd*"
   refine ⟨n, rfl, na, nb, t, g1u t, by omega, by omega, by omega, ?_⟩
   intro x dx H2 n2 n3 nx S2 hdx hx
   refine ⟨dx, n, t, y.num, (y.den : Int), rfl, rfl, tb, oy.b.1, oy.b.2, S2 _ _ h1, hx, fun fa H3 B3 nf h3 hf => ?_⟩
   rw [asNew]
   refine ⟨rfl, ?_⟩
   have gx : g ≠ x := fun e => by rw [e] at h1; rw [h1] at n2; cases n2
   exact q x H3 (S1.free n2) (fun b u e => B3 _ _ (fun z => by rw [z] at e; rw [S1 _ _ e] at n2; cases n2) (S2 _ _ (S1 _ _ e))) ⟨dx, _, h3, g, fa, rfl, B3 _ _ gx (S2 _ _ h1), hf⟩
  | _ => simp [Dt.kd] at hk
theorem f3y (T : Tx K mg A) : a1n P A.wd K mg base CX0 6 A.a9i A.c5j ["values"] (h1q A 3) := by
 have a4v : a1n P A.wd K mg base CX0 1 _ _ _ _ := g2k T
 have b3u : a1n P A.wd K mg base CX0 4 _ _ _ _ := g6i T
 have c2w : a1n P A.wd K mg base CX0 4 _ _ _ _ := h1x T
 have d9o : a1n P A.wd K mg base CX0 1 _ _ _ _ := g2g T
 have a7s := T.a7s
 have a1j := T.a1j
 have a1k := T.a1k
 refine T.c0k.ok f3g (fun vs H Q E h => ?_) (fun cdv A' outer s H vs Q E hr h => ?_)
 ·match vs, h with
  | [.ref l], _ => rfl
 ·match vs, h with
  | [.ref l], ⟨d, hk, ok, hl, q⟩ =>
  cases d with
  | back y n =>
   have hu := hr.units
   have a3p : a2y 1 _ := hr.mono (by decide)
   have b1o : a2y 4 _ := hr.mono (by decide)
   have c0s : a2y 4 _ := hr.mono (by decide)
   have d6w : a2y 2 _ := hr.mono (by decide)
   obtain ⟨oy, na, nb⟩ := ok
   replace hl : H l = some (.lst [.str (fW y), .str (nW n)]) := hl
   refine ⟨_, (a0i (b6t (a0n a4v a3p (by rfl) T.b2h T.a3n.kp T.a6o .nil a1g (a0g (pvF 0) (a0g a0k a0j))))
   (a0l (a1h (c4g T.h1i d9o d6w (by rfl) T.c8w T.c2r .nil a1g (a0g (a0n b3u b1o (by rfl) T.c2s T.a7q.kp T.b3q .nil a1g (a0g (a1o a6s (pvF 0) a0k (fun _ _ => rfl)) a0j)) (a0g (a0n c2w c0s (by rfl) T.c8m T.b0s.kp T.b7p .nil a1g (a0g (a1o a6s (pvF 0) a0k (fun _ _ => rfl)) a0j)) a0j)))))), ?_⟩
   walk_at "rd"
   refine ⟨_, hl, rfl, ?_⟩
   walk_at "rd*"
   refine ⟨y, rfl, oy, ?_⟩
   rintro _ H1 ⟨g, rfl, n1, S1, h1⟩
   have hl1 := S1 _ _ hl
   clear hl
   walk_at "rd*"
   refine ⟨n, rfl, na, nb, ?_⟩
   intro x dx H2 n2 n3 nx S2 hdx hx
   refine ⟨dx, hx, fun H3 B3 h3 => ?_⟩
   rw [asNew]
   refine ⟨rfl, ?_⟩
   have gx : g ≠ x := fun e => by rw [e] at h1; rw [h1] at n2; cases n2
   exact q x H3 (S1.free n2) (fun b u e => B3 _ _ (fun z => by rw [z] at e; rw [S1 _ _ e] at n2; cases n2) (S2 _ _ (S1 _ _ e))) ⟨dx, _, h3, g, rfl, B3 _ _ gx (S2 _ _ h1)⟩
  | _ => simp [Dt.kd] at hk
theorem g6k (T : Tx K mg A) : a1n P A.wd K mg base CX0 8 A.b3j A.c5k ["word"] (g4j A) := by
 have g0c : a1n P A.wd K mg base CX0 6 _ _ _ _ := f3v T
 have f3z : a1n P A.wd K mg base CX0 6 _ _ _ _ := d9m T
 have g0d : a1n P A.wd K mg base CX0 6 _ _ _ _ := f3w T
 have g0e : a1n P A.wd K mg base CX0 6 _ _ _ _ := f3y T
 refine T.c0l.ok d1r (fun vs H Q E h => ?_) (fun cdv A' outer s H vs Q E hr h => ?_)
 ·match vs, h with
  | [.str x], _ => rfl
 ·match vs, h with
  | [.str x], ⟨d, ok, k4, hx, q⟩ =>
  subst hx
  have hu := hr.units
  have f4g : a2y 6 _ := hr.mono (by decide)
  have d9p : a2y 6 _ := hr.mono (by decide)
  have f4h : a2y 6 _ := hr.mono (by decide)
  have f4i : a2y 6 _ := hr.mono (by decide)
  have dk := T.f3n
  have sp := d.split
  have wl := d.wlen ok
  have vn := d.vn
  have hs : sizeLine = 16777216 := sizeLine_eq
  have d1 : ((⟨#[58]⟩ : Str).length == 0) = false := rfl
  obtain ⟨f, hf⟩ : ∃ f, PySem.W.nsIn K A.a1t d.kind = some (some (.ref f)) := by
   cases d with
   | gain => exact ⟨_, T.a4g⟩
   | delay => exact ⟨_, T.a3j⟩
   | echo => exact ⟨_, T.a4h⟩
   | back => exact ⟨_, T.a4i⟩
   | hall => exact absurd k4 (by simp [Dt.kd])
   | swell => exact absurd k4 (by simp [Dt.kd])
  refine ⟨_, (a0i (a9s (b8l (a6w (a0w (b1w .str) (by rfl) T.a1u boot_isinstance (a0g (pvF 0) (a0g (b6s (v := .ty "str") (u := .type "str") (by rfl) T.c6y rfl rfl) a0j)))))
   (a0l a5m)
   a2g)
   (a0i (a0t (i := 1) d1r.nd rfl (Or.inl rfl) (c3w c3v PySem.F.plainAttrs_str PySem.F.slot_str_split PySem.F.type_str_split f0r (pvF 0) (a0g b2v a0j)))
   (a0i (a9s (a2h (f7t (K := K) (w := A.wd) (by rfl) (by rfl)) (a1o a6s (pvF 1) a0k (fun _ _ => rfl)) (a8q (v := .ref A.a1t) (by rfl) T.a6q rfl) (by rfl))
   (a0l a5m)
   a2g)
   (a0l (a1h (a4y (c7k g0c f4g T.c0i.kp T.c8n .nil a1g (a1o (h2z (K := K) (w := A.wd) (by rfl) (by rfl)) (a8q (v := .ref A.a1t) (by rfl) T.a6q rfl) (a1o a6s (pvF 1) a0k (fun _ _ => rfl)) (fun _ _ => rfl)) (a0g (a6h f4p (pvF 1) (a5n a0k) b1p) a0j)) (a4y (c7k f3z d9p T.b6l.kp T.c5o .nil a1g (a1o (h2z (K := K) (w := A.wd) (by rfl) (by rfl)) (a8q (v := .ref A.a1t) (by rfl) T.a6q rfl) (a1o a6s (pvF 1) a0k (fun _ _ => rfl)) (fun _ _ => rfl)) (a0g (a6h f4p (pvF 1) (a5n a0k) b1p) a0j)) (a4y (c7k g0d f4h T.c0j.kp T.c8o .nil a1g (a1o (h2z (K := K) (w := A.wd) (by rfl) (by rfl)) (a8q (v := .ref A.a1t) (by rfl) T.a6q rfl) (a1o a6s (pvF 1) a0k (fun _ _ => rfl)) (fun _ _ => rfl)) (a0g (a6h f4p (pvF 1) (a5n a0k) b1p) a0j)) (c7k g0e f4i T.c0k.kp T.c8p .nil a1g (a1o (h2z (K := K) (w := A.wd) (by rfl) (by rfl)) (a8q (v := .ref A.a1t) (by rfl) T.a6q rfl) (a1o a6s (pvF 1) a0k (fun _ _ => rfl)) (fun _ _ => rfl)) (a0g (a6h f4p (pvF 1) (a5n a0k) b1p) a0j)))))))))), ?_⟩
  rw [h4n]
  walk_at "rd*"
  refine ⟨by omega, by omega, fun l H1 n1 S1 h1 => ?_⟩
  clear sp wl
  walk_at "rd*"
  clear hf
  cases d with
  | gain y =>
   refine Or.inl ?_
   have rd := T.a4g
   have q1 := ok
   clear ok
   replace h1 : H1 l = some (.lst [.str (Str.ofString "gain"), .str (fW y)]) := h1
   walk_at "rd*"
   refine fun m H2 n2 S2 h2 => ?_
   have e2 : d4z [V.str (Str.ofString "gain"), V.str (fW y)] (some 1) none = (Dt.gain y).vals.map V.str := by
    show d5s _ (some ((1 : Nat) : Int)) none = _
    rw [a8s]
    rfl
   rw [e2] at h2
   walk_at "rd"
   exact ⟨_, rfl, q1, h2, fun o H3 n3 S3 hp => q o H3 ((S1.trans S2).free n3) (S1.trans (S2.trans S3)) hp⟩
  | delay n =>
   refine Or.inr (Or.inl ?_)
   have rd := T.a3j
   have q1 := ok
   clear ok
   replace h1 : H1 l = some (.lst [.str (Str.ofString "delay"), .str (nW n)]) := h1
   walk_at "rd*"
   refine fun m H2 n2 S2 h2 => ?_
   have e2 : d4z [V.str (Str.ofString "delay"), V.str (nW n)] (some 1) none = (Dt.delay n).vals.map V.str := by
    show d5s _ (some ((1 : Nat) : Int)) none = _
    rw [a8s]
    rfl
   rw [e2] at h2
   walk_at "rd"
   exact ⟨_, rfl, q1, h2, fun o H3 n3 S3 hp => q o H3 ((S1.trans S2).free n3) (S1.trans (S2.trans S3)) hp⟩
  | echo y n t =>
   refine Or.inr (Or.inr (Or.inl ?_))
   have rd := T.a4h
   have q1 := ok
   clear ok
   replace h1 : H1 l = some (.lst [.str (Str.ofString "echo"), .str (fW y), .str (nW n), .str (nW t)]) := h1
   walk_at "rd*"
   refine fun m H2 n2 S2 h2 => ?_
   have e2 : d4z [V.str (Str.ofString "echo"), V.str (fW y), V.str (nW n), V.str (nW t)] (some 1) none = (Dt.echo y n t).vals.map V.str := by
    show d5s _ (some ((1 : Nat) : Int)) none = _
    rw [a8s]
    rfl
   rw [e2] at h2
   walk_at "rd"
   exact ⟨_, rfl, q1, h2, fun o H3 n3 S3 hp => q o H3 ((S1.trans S2).free n3) (S1.trans (S2.trans S3)) hp⟩
  | back y n =>
   refine Or.inr (Or.inr (Or.inr ?_))
   have rd := T.a4i
   have q1 := ok
   clear ok
   replace h1 : H1 l = some (.lst [.str (Str.ofString "back"), .str (fW y), .str (nW n)]) := h1
   walk_at "rd*"
   refine fun m H2 n2 S2 h2 => ?_
   have e2 : d4z [V.str (Str.ofString "back"), V.str (fW y), V.str (nW n)] (some 1) none = (Dt.back y n).vals.map V.str := by
    show d5s _ (some ((1 : Nat) : Int)) none = _
    rw [a8s]
    rfl
   rw [e2] at h2
   walk_at "rd"
   exact ⟨_, rfl, q1, h2, fun o H3 n3 S3 hp => q o H3 ((S1.trans S2).free n3) (S1.trans (S2.trans S3)) hp⟩
  | hall y n => exact absurd k4 (by simp [Dt.kd])
  | swell cs => exact absurd k4 (by simp [Dt.kd])
theorem c2y {C o : Addr} {i : Nat} {m : Str} {sp : Sp} {E : XK} {t : TA} {σ : L2.St} {H : Hp} {Q : VK} {dx : Addr} {fs : List (Str × V)} (hσ : σ[i]? = some (some (.ref o))) (ho : H o = some (.ins C dx fs)) (hl : fs.lookup m = none) (ht : t σ H fun vs H2 => sp (.ref o :: (vs ++ [])) H2 Q E) : b1j C m sp [] E (b8u i) t σ H Q := by
 simp only [b1j, b8u, hσ, ho]
 exact ⟨trivial, hl, ht⟩
theorem thr4 {σ : L2.St} {i : Nat} {o : Addr} {H : Hp} {d : Dt} {Q : VK} {E : XK} {t : TA} (hσ : σ[i]? = some (some (.ref o))) (hd : IsP A H o d) (ht : t σ H fun vs H2 => d0y A d.kd (.ref o :: (vs ++ [])) H2 Q E) :
  b5g (b1j A.a3h "through" (d0y A 0) [] E (b8u i) t) (b5g (b1j A.a1y "through" (d0y A 1) [] E (b8u i) t) (b5g (b1j A.a1s "through" (d0y A 2) [] E (b8u i) t) (b1j A.a2v "through" (d0y A 3) [] E (b8u i) t))) σ H Q := by
 cases d with
 | gain y =>
  obtain ⟨dx, _, ho, g, rfl, hg⟩ := hd
  refine .inl ?_
  replace ho : H o = some (.ins A.a3h dx [("gain", .ref g)]) := ho
  exact c2y hσ ho (by walk_at "rd") ht
 | delay n =>
  obtain ⟨dx, _, ho, rfl⟩ := hd
  refine .inr (.inl ?_)
  replace ho : H o = some (.ins A.a1y dx [("many", .int n)]) := ho
  exact c2y hσ ho (by walk_at "rd") ht
 | echo y n t' =>
  obtain ⟨dx, _, ho, g, fa, rfl, hg, hf⟩ := hd
  refine .inr (.inr (.inl ?_))
  replace ho : H o = some (.ins A.a1s dx (ecF g fa n t' (y.den : Int))) := ho
  unfold ecF at ho
  exact c2y hσ ho (by walk_at "rd") ht
 | back y n =>
  obtain ⟨dx, _, ho, g, rfl, hg⟩ := hd
  refine .inr (.inr (.inr ?_))
  replace ho : H o = some (.ins A.a2v dx [("gain", .ref g), ("many", .int n)]) := ho
  exact c2y hσ ho (by walk_at "rd") ht
 | _ => obtain ⟨_, _, _, z⟩ := hd; exact z.elim
theorem fr4 {σ : L2.St} {i : Nat} {o : Addr} {H : Hp} {d : Dt} {Q : VK} {E : XK} (hσ : σ[i]? = some (some (.ref o))) (hd : IsP A H o d) (q : ∀ st H1, Same H H1 -> StV H1 [] st d -> Q st H1) :
  b5g (b1j A.a3h "fresh" c5r [] E (b8u i) f5t) (b5g (b1j A.a1y "fresh" c5r [] E (b8u i) f5t) (b5g (b1j A.a1s "fresh" c5r [] E (b8u i) f5t) (b1j A.a2v "fresh" c5r [] E (b8u i) f5t))) σ H Q := by
 have k4 := hd.kd4
 have fin : All (d1n H []) Q ⟨⟩ ⟨⟩ := by
  rintro _ H1 ⟨p, rfl, n1, S1, h1⟩
  exact q _ H1 S1 (g2j k4 h1)
 clear k4
 cases d with
 | gain y =>
  obtain ⟨dx, _, ho, g, rfl, hg⟩ := hd
  refine .inl ?_
  replace ho : H o = some (.ins A.a3h dx [("gain", .ref g)]) := ho
  walk_at "rd*"
 | delay n =>
  obtain ⟨dx, _, ho, rfl⟩ := hd
  refine .inr (.inl ?_)
  replace ho : H o = some (.ins A.a1y dx [("many", .int n)]) := ho
  walk_at "rd*"
 | echo y n t' =>
  obtain ⟨dx, _, ho, g, fa, rfl, hg, hf⟩ := hd
  refine .inr (.inr (.inl ?_))
  replace ho : H o = some (.ins A.a1s dx (ecF g fa n t' (y.den : Int))) := ho
  unfold ecF at ho
  walk_at "rd*"
 | back y n =>
  obtain ⟨dx, _, ho, g, rfl, hg⟩ := hd
  refine .inr (.inr (.inr ?_))
  replace ho : H o = some (.ins A.a2v dx [("gain", .ref g), ("many", .int n)]) := ho
  walk_at "rd*"
 | _ => obtain ⟨_, _, _, z⟩ := hd; exact z.elim
theorem gr4 {σ : L2.St} {i : Nat} {o : Addr} {H : Hp} {d : Dt} {Q : VK} {E : XK} (hσ : σ[i]? = some (some (.ref o))) (hd : IsP A H o d) (q : Q (.int (b3t d)) H) :
  b5g (b1j A.a3h "grain" (d8y A 0) [] E (b8u i) f5t) (b5g (b1j A.a1y "grain" d3t [] E (b8u i) f5t) (b5g (b1j A.a1s "grain" (d8y A 2) [] E (b8u i) f5t) (b1j A.a2v "grain" (d8y A 3) [] E (b8u i) f5t))) σ H Q := by
 have z := hd
 cases d with
 | gain y =>
  obtain ⟨dx, _, ho, g, rfl, hg⟩ := hd
  refine .inl ?_
  replace ho : H o = some (.ins A.a3h dx [("gain", .ref g)]) := ho
  exact c2y hσ ho (by walk_at "rd") ⟨_, rfl, z, q⟩
 | delay n =>
  obtain ⟨dx, _, ho, rfl⟩ := hd
  refine .inr (.inl ?_)
  replace ho : H o = some (.ins A.a1y dx [("many", .int n)]) := ho
  walk_at "rd*"
  exact q
 | echo y n t' =>
  obtain ⟨dx, _, ho, g, fa, rfl, hg, hf⟩ := hd
  refine .inr (.inr (.inl ?_))
  replace ho : H o = some (.ins A.a1s dx (ecF g fa n t' (y.den : Int))) := ho
  unfold ecF at ho
  exact c2y hσ ho (by walk_at "rd") ⟨_, rfl, z, q⟩
 | back y n =>
  obtain ⟨dx, _, ho, g, rfl, hg⟩ := hd
  refine .inr (.inr (.inr ?_))
  replace ho : H o = some (.ins A.a2v dx [("gain", .ref g), ("many", .int n)]) := ho
  exact c2y hσ ho (by walk_at "rd") ⟨_, rfl, z, q⟩
 | _ => obtain ⟨_, _, _, z⟩ := hd; exact z.elim
theorem d9q : ∀ (ds : List Dt) (xs : List Int), (run ds xs).length = xs.length
 | [], xs => rfl
 | d :: ds, xs => (d9q ds (outs d [] xs)).trans (a3o d [] xs)
theorem c5t : ∀ (ds : List Dt) (a b : List Int), (blk ds a b).length = b.length
 | [], a, b => rfl
 | d :: ds, a, b => (c5t ds _ _).trans (a3o d a b)
theorem c9o : ∀ (ds : List Dt) (a b : List Int), run ds (a ++ b) = run ds a ++ blk ds a b
 | [], a, b => rfl
 | d :: ds, a, b => by
  show run ds (outs d [] (a ++ b)) = run ds (outs d [] a) ++ blk ds (outs d [] a) (outs d a b)
  rw [g2i, List.nil_append, c9o ds]
theorem f1r : ∀ (ds : List Dt) (d : Dt) (a b : List Int), blk (ds ++ [d]) a b = outs d (run ds a) (blk ds a b)
 | [], d, a, b => rfl
 | e :: ds, d, a, b => f1r ds d _ _
theorem d9r (b : Int) (ds : List Dt) (d : Dt) : a8n b (ds ++ [d]) = a8n b ds * b3t d := by
 unfold a8n
 rw [List.foldl_append]
 rfl
theorem d2i {X : Nat -> Int} {p q : Int} {t B : Nat} (bp : intBits p <= 10) (bq : intBits q <= 10) (ht : t <= 16) (hX : ∀ m, intBits (X m) <= B) : ∀ j, j <= t + 1 -> intBits (d1v X p q t j) <= B + 176 + j
 | 0, _ => by rw [d1v]; exact Nat.le_trans (by decide : intBits 0 <= 1) (by omega)
 | j + 1, h => by
  rw [d1v]
  have h1 := d2i bp bq ht hX j (by omega)
  have h2 : intBits (X j * f8o p q t j) <= B + 176 + j := Nat.le_trans (intBits_mul_le (hX j) (d6q bp bq ht (by omega))) (by omega)
  exact Nat.le_trans (intBits_add_le h1 h2) (by omega)
theorem g2l {d : Dt} {X : Int -> Int} {B : Nat} (ok : d.ok) (hX : ∀ i, intBits (X i) <= B) (i : Int) : intBits (tap (d1w d) X i) <= B + 200 := by
 have z0 : intBits 0 <= B + 30 := Nat.le_trans (by decide : intBits 0 <= 1) (by omega)
 cases d with
 | gain y =>
  have yb := YOk.b ok
  show intBits (y.num * X (i - ((0 : Nat) : Int)) + 0) <= _
  rw [Int.add_zero]
  exact Nat.le_trans (intBits_mul_le yb.1 (hX _)) (by omega)
 | delay n =>
  show intBits (1 * X (i - (n : Int)) + 0) <= _
  rw [Int.add_zero, Int.one_mul]
  exact Nat.le_trans (hX _) (by omega)
 | echo y n t =>
  have yb := YOk.b ok.1
  have ht := ok.2.2.2
  show intBits (tap ((List.range (t + 1)).map _) X i) <= _
  rw [c0r]
  exact Nat.le_trans (d2i yb.1 yb.2 ht (fun m => hX _) (t + 1) (Nat.le_refl _)) (by omega)
 | back y n =>
  have yb := YOk.b ok.1
  show intBits ((y.den : Int) * X (i - ((0 : Nat) : Int)) + (-y.num * X (i - (n : Int)) + 0)) <= _
  rw [Int.add_zero]
  have h1 : intBits ((y.den : Int) * X (i - ((0 : Nat) : Int))) <= 10 + B := intBits_mul_le yb.2 (hX _)
  have h2 : intBits (-y.num * X (i - (n : Int))) <= 10 + B := intBits_mul_le (intBits_neg_le yb.1) (hX _)
  exact Nat.le_trans (intBits_add_le h1 h2) (by omega)
 | hall y n => exact Nat.le_trans z0 (by omega)
 | swell cs => exact Nat.le_trans z0 (by omega)
theorem d4i {xs : List Int} {B : Nat} (h : ∀ y ∈ xs, intBits y <= B) (B1 : 1 <= B) (i : Int) : intBits (b8p xs i) <= B := by
 unfold b8p
 have z0 : intBits 0 <= B := Nat.le_trans (by decide : intBits 0 <= 1) B1
 split
 ·exact z0
 ·rw [List.getD_eq_getElem?_getD]
  cases e : xs[i.toNat]? with
  | none => exact z0
  | some y => exact h y (List.mem_of_getElem? e)
theorem c7m : ∀ {ds : List Dt} {xs : List Int} {B : Nat}, 1 <= B -> (∀ d ∈ ds, d.ok) -> (∀ y ∈ xs, intBits y <= B) -> ∀ y ∈ run ds xs, intBits y <= B + 200 * ds.length
 | [], xs, B, _, _, h, y, hy => by
  have := h y hy
  omega
 | d :: ds, xs, B, B1, ok, h, y, hy => by
  have := c7m (ds := ds) (xs := outs d [] xs) (B := B + 200) (by omega) (fun d hd => ok d (List.mem_cons_of_mem _ hd)) (fun y hy => by
   unfold outs at hy
   obtain ⟨i, _, rfl⟩ := List.mem_map.mp hy
   exact g2l (ok d List.mem_cons_self) (d4i h B1) _) y hy
  rw [List.length_cons]
  omega
theorem d2j {d : Dt} (ok : d.ok) : intBits (b3t d) <= 161 := by
 cases d with
 | gain y => exact Nat.le_trans (YOk.b ok).2 (by decide)
 | echo y n t => exact Nat.le_trans (b4v (YOk.b ok.1).2 t) (by have := ok.2.2.2; omega)
 | back y n => exact Nat.le_trans (YOk.b ok.1).2 (by decide)
 | _ => show intBits 1 <= 161; decide
theorem c2z : ∀ {ds : List Dt} {b : Int} {B : Nat}, (∀ d ∈ ds, d.ok) -> intBits b <= B -> intBits (a8n b ds) <= B + 161 * ds.length
 | [], b, B, _, h => by
  show intBits b <= _
  omega
 | d :: ds, b, B, ok, h => by
  have := c2z (ds := ds) (b := b * b3t d) (B := B + 161) (fun d hd => ok d (List.mem_cons_of_mem _ hd)) (intBits_mul_le h (d2j (ok d List.mem_cons_self)))
  rw [List.length_cons]
  show intBits (a8n (b * b3t d) ds) <= _
  omega
theorem f4q.same {A : Ad} {H H' : Hp} {os : List Addr} {ds : List Dt} (h : f4q A H os ds) (S : Same H H') : f4q A H' os ds := ⟨h.1, fun i o d e1 e2 => (h.2 i o d e1 e2).same S⟩
theorem Sts.same {H H' : Hp} {ds : List Dt} {sts : List V} {xs : List Int} (h : Sts H ds sts xs) (S : Same H H') : Sts H' ds sts xs := ⟨h.1, fun i o d e1 e2 => (h.2 i o d e1 e2).same S⟩
theorem ChS.same {A : Ad} {H H' : Hp} {o : Addr} {ds : List Dt} {xs : List Int} (h : ChS A H o ds xs) (S : Same H H') : ChS A H' o ds xs := by
 obtain ⟨dx, pl, sl, os, sts, h1, h2, h3, h4, h5⟩ := h
 exact ⟨dx, pl, sl, os, sts, S _ _ h1, S _ _ h2, S _ _ h3, h4.same S, h5.same S⟩
theorem Lk.lst {H : Hp} {D : Addr} {ys : List V} (h : H D = some (.lst ys)) : Lk H D := ⟨fun ts e => (by rw [h] at e; cases e), fun c dx fs e => (by rw [h] at e; cases e)⟩
theorem Lk.ins {H : Hp} {D : Addr} {c dx : Addr} {fs : List (Str × V)} (h : H D = some (.ins c dx fs)) (hf : fs = [] \/ (∃ pl : V, fs = ch1 pl) \/ ∃ pl sl, fs = chF pl sl) : Lk H D := ⟨fun ts e => (by rw [h] at e; cases e), fun c dx fs e => (by rw [h] at e; cases e; exact hf)⟩
theorem StV.c5u {D : Addr} {H H' : Hp} {xs : List Int} {st : V} {d : Dt} (h : StV H xs st d) (hD : Lk H D) (Z : a6y D H H') : StV H' xs st d := by
 have ne : ∀ {p : Addr} {ts : List V}, H p = some (.tup ts) -> H' p = some (.tup ts) := fun hp => Z _ _ (fun e => by rw [e] at hp; exact hD.1 _ hp) hp
 cases d with
 | gain y => exact h
 | delay n => obtain ⟨p, e, h⟩ := h; exact ⟨p, e, ne h⟩
 | echo y n t => obtain ⟨p, e, h⟩ := h; exact ⟨p, e, ne h⟩
 | back y n => obtain ⟨p, e, h⟩ := h; exact ⟨p, e, ne h⟩
 | _ => exact h.elim
theorem IsP.c5u {A : Ad} {D : Addr} {H H' : Hp} {o : Addr} {d : Dt} (h : IsP A H o d) (hD : Lk H D) (Z : a6y D H H') : IsP A H' o d := by
 have ne : ∀ {p : Addr} {ts : List V}, H p = some (.tup ts) -> H' p = some (.tup ts) := fun hp => Z _ _ (fun e => by rw [e] at hp; exact hD.1 _ hp) hp
 obtain ⟨dx, fs, h1, h2⟩ := h
 refine ⟨dx, fs, Z _ _ (fun e => ?_) h1, ?_⟩
 ·rw [e] at h1
  have np : ∀ {n : Str} {v : V} {r : List (Str × V)}, fs = (n, v) :: r → n ≠ ("parts" : Str) → False := fun e1 hn => by
   rcases hD.2 _ _ _ h1 with z | ⟨pl, z⟩ | ⟨pl, sl, z⟩ <;> rw [z] at e1
   ·cases e1
   ·injection e1 with e1 _
    injection e1 with e1 _
    exact hn e1.symm
   ·injection e1 with e1 _
    injection e1 with e1 _
    exact hn e1.symm
  cases d with
  | gain y => obtain ⟨g, e, _⟩ := h2; exact np e (by decide +kernel)
  | delay n => exact np h2 (by decide +kernel)
  | echo y n t => obtain ⟨g, fa, e, _⟩ := h2; exact np e (by decide +kernel)
  | back y n => obtain ⟨g, e, _⟩ := h2; exact np e (by decide +kernel)
  | _ => exact h2.elim
 ·cases d with
  | gain y => obtain ⟨g, e, h1⟩ := h2; exact ⟨g, e, ne h1⟩
  | delay n => exact h2
  | echo y n t => obtain ⟨g, fa, e, h1, h2⟩ := h2; exact ⟨g, fa, e, ne h1, ne h2⟩
  | back y n => obtain ⟨g, e, h1⟩ := h2; exact ⟨g, e, ne h1⟩
  | _ => exact h2.elim
theorem f4q.c5u {A : Ad} {D : Addr} {H H' : Hp} {os : List Addr} {ds : List Dt} (h : f4q A H os ds) (hD : Lk H D) (Z : a6y D H H') : f4q A H' os ds := ⟨h.1, fun i o d e1 e2 => (h.2 i o d e1 e2).c5u hD Z⟩
theorem Sts.snoc {H : Hp} {ds : List Dt} {d : Dt} {sts : List V} {st : V} {xs : List Int} (h : Sts H ds sts xs) (hs : StV H (run ds xs) st d) : Sts H (ds ++ [d]) (sts ++ [st]) xs := by
 obtain ⟨hl, h⟩ := h
 refine ⟨by rw [List.length_append, List.length_append, hl]; rfl, fun i s e h1 h2 => ?_⟩
 rcases Nat.lt_or_ge i ds.length with z | z
 ·rw [List.getElem?_append_left (by omega)] at h1
  rw [List.getElem?_append_left z] at h2
  rw [List.take_append_of_le_length (by omega)]
  exact h i s e h1 h2
 ·have hi := (List.getElem?_eq_some_iff.mp h2).1
  rw [List.length_append, List.length_singleton] at hi
  obtain rfl : i = ds.length := by omega
  rw [<- hl, List.getElem?_concat_length] at h1
  rw [List.getElem?_concat_length] at h2
  cases h1
  cases h2
  rw [List.take_append_of_le_length (Nat.le_refl _), List.take_length]
  exact hs
theorem Sts.c5u {D : Addr} {H H' : Hp} {ds : List Dt} {sts : List V} {xs : List Int} (h : Sts H ds sts xs) (hD : Lk H D) (Z : a6y D H H') : Sts H' ds sts xs := ⟨h.1, fun i o d e1 e2 => (h.2 i o d e1 e2).c5u hD Z⟩
theorem f4q.snoc {A : Ad} {H : Hp} {os : List Addr} {ds : List Dt} {o : Addr} {d : Dt} (h : f4q A H os ds) (hp : IsP A H o d) : f4q A H (os ++ [o]) (ds ++ [d]) := by
 obtain ⟨hl, h⟩ := h
 refine ⟨by rw [List.length_append, List.length_append, hl]; rfl, fun i s e h1 h2 => ?_⟩
 rcases Nat.lt_or_ge i ds.length with z | z
 ·rw [List.getElem?_append_left (by omega)] at h1
  rw [List.getElem?_append_left z] at h2
  exact h i s e h1 h2
 ·have hi := (List.getElem?_eq_some_iff.mp h2).1
  rw [List.length_append, List.length_singleton] at hi
  obtain rfl : i = ds.length := by omega
  rw [<- hl, List.getElem?_concat_length] at h1
  rw [List.getElem?_concat_length] at h2
  cases h1
  cases h2
  exact hp
theorem h1y (T : Tx K mg A) : a1n P A.wd K mg base CX0 9 A.b0n A.c2m ["words"] (h1r A) := by
 have g0f : a1n P A.wd K mg base CX0 8 _ _ _ _ := g6k T
 refine T.b6m.ok d8t (fun vs H Q E h => ?_) (fun cdv A' outer s H vs Q E hr h => ?_)
 ·match vs, h with
  | [.ref l], _ => rfl
 ·match vs, h with
  | [.ref l], ⟨ds, hl, l8, ok, q⟩ =>
  have hu := hr.units
  have f4j : a2y 8 _ := hr.mono (by decide)
  have hs : sizeLine = 16777216 := sizeLine_eq
  have z1 : ¬ (8 : Int) < (ds.length : Int) := by omega
  refine ⟨_, (a0i (a9s (b8l (a6w (a0w (b1w .lst) (by rfl) T.a1u boot_isinstance (a0g (pvF 0) (a0g (b6s (v := .ty "list") (u := .type "list") (by rfl) T.c1y rfl rfl) a0j)))))
   (a0l a5m)
   a2g)
   (a0i (a9s (a2h d8g (a0w a2o (by rfl) T.b4g boot_len (a0g (pvF 0) a0j)) (a8q (v := .int 8) (by rfl) T.a9q T.d3s) (a3r _))
   (a0l a5m)
   a2g)
   (a0l (a1h (c7t (c3t (pvF 0)) (fun _ _ _ _ _ => (a0n g0f f4j (by rfl) T.f8h T.c0l.kp T.c8q .nil a1g (a0g (pvF 0) a0j))) (d8i (sc := a0h a9z) (N := ["words"]) rfl rfl (by decide +kernel)) rfl))))), ?_⟩
  walk_at "rd*"
  refine ⟨⟨_, SqL.of hl⟩, fun D H2 n2 S2 h2 => ?_⟩
  refine c4s (xs := ds.map fun d => V.str d.word) (fun i ys H' => Same H H' /\ H' D = some (.lst ys) /\ ∃ os, ys = os.map V.ref /\ f4q A H' os (ds.take i)) ⟨S2, h2, [], rfl, by rw [List.take_zero]; exact ⟨rfl, fun i o d e => by simp at e⟩⟩ (by rw [List.length_map, hs]; omega) ?_ ?_ ?_
  ·intro i ys H' hi ⟨S', h', os, e, R⟩
   rw [List.length_map] at hi
   exact ⟨h', SqL.of (S' _ _ hl), by rw [e, List.length_map, R.1, List.length_take]; omega⟩
  ·intro i x ys H' hx ⟨S', h', os, e, R⟩
   rw [List.getElem?_map] at hx
   obtain ⟨d, hd, rfl⟩ := Option.map_eq_some_iff.mp hx
   obtain ⟨o1, o2⟩ := ok d (List.mem_of_getElem? hd)
   walk_at "rd"
   refine ⟨d, o1, o2, rfl, fun o H3 n3 S3 hp => ⟨S3 _ _ h', fun H4 B4 h4 => ⟨(S'.trans S3).step n2 B4, h4, os ++ [o], by rw [e, List.map_append]; rfl, ?_⟩⟩⟩
   rw [List.take_add_one, hd]
   exact ((R.same S3).snoc hp).c5u (Lk.lst (S3 _ _ h')) B4
  ·intro ys H3 ⟨S3, h3, os, e, R⟩
   rw [List.length_map, List.take_length] at R
   subst e
   exact q D os H3 n2 S3 h3 R
theorem g0g : ∀ (ds : List Dt), run ds [] = []
 | [] => rfl
 | d :: ds => g0g ds
theorem g2m (T : Tx K mg A) : a1n P A.wd K mg base CX0 10 A.a4l A.b7i ["self", "words"] (f8s A) := by
 have f4k : a1n P A.wd K mg base CX0 9 _ _ _ _ := h1y T
 have b4y : a1n P A.wd K mg base CX0 1 _ _ _ _ := g2h T
 have b4u := T.b4u
 have a1v := T.a1v
 have a1q := T.a1q
 have a7r := T.a7r
 have a1i := T.a1i
 have a6p := T.a6p
 have a1m := T.a1m
 have a5l := T.a5l
 have a0y := T.a0y
 have a0z := T.a0z
 have a0u := T.a0u
 have a0o := T.a0o
 have a0m := T.a0m
 have a7s := T.a7s
 have a1j := T.a1j
 have a1k := T.a1k
 refine T.b4t.ok d3g (fun vs H Q E h => ?_) (fun cdv A' outer s H vs Q E hr h => ?_)
 ·match vs, h with
  | [.ref o, .ref l], _ => rfl
 ·match vs, h with
  | [.ref o, .ref l], ⟨dx, ds, ho, hl, l8, ok, q⟩ =>
  have hu := hr.units
  have d9s : a2y 9 _ := hr.mono (by decide)
  have b2j : a2y 1 _ := hr.mono (by decide)
  have hs : sizeLine = 16777216 := sizeLine_eq
  refine ⟨_, (a0i (b1q (pvF 0) (a0n f4k d9s (by rfl) T.f3k T.b6m.kp T.c5p .nil a1g (a0g (pvF 1) a0j)) rfl)
   (a0l (b1q (pvF 0) (c7t (c3t (a5k (pvF 0) rfl)) (fun _ _ _ _ _ => (a4y (a8t (pvF 0) T.a7r T.d3l b4y b2j T.a8k .nil a1g) (a4y (a8t (pvF 0) T.a6p T.d0w b4y b2j T.a8k .nil a1g) (a4y (a8t (pvF 0) T.a5l T.d3o b4y b2j T.a8k .nil a1g) (a8t (pvF 0) T.a7s T.d3q b4y b2j T.a8k .nil a1g))))) (d8i (sc := a0h a5q) (N := ["self", "words"]) rfl rfl (by decide +kernel)) rfl) rfl))), ?_⟩
  walk_at "rd"
  refine ⟨ds, hl, l8, ok, fun pl os H1 np S1 hpl R => ?_⟩
  have ho1 := S1 _ _ ho
  walk_at "rd*"
  intro H2 B2 h2
  have no : o ≠ pl := fun e => by rw [<- e, ho] at np; cases np
  have Lo : Lk H1 o := Lk.ins ho1 (.inl rfl)
  have h3b := B2 _ _ no.symm hpl
  have R2 := R.c5u Lo B2
  clear hpl R ho ho1
  walk_at "rd*"
  refine ⟨⟨_, SqL.of h3b⟩, fun D H3 n3 S3 h3 => ?_⟩
  have ol := R2.1
  refine c4s (xs := os.map V.ref) (fun i ys H' => Same H2 H' /\ H' D = some (.lst ys) /\ Sts H' (ds.take i) ys []) ⟨S3, h3, rfl, fun i o d e => by simp at e⟩ (by rw [List.length_map, hs]; omega) ?_ ?_ ?_
  ·intro i ys H' hi ⟨S', h', R'⟩
   rw [List.length_map] at hi
   exact ⟨h', SqL.of (S' _ _ h3b), by rw [R'.1, List.length_take]; omega⟩
  ·intro i x ys H' hx ⟨S', h', R'⟩
   rw [List.getElem?_map] at hx
   obtain ⟨oi, hoi, rfl⟩ := Option.map_eq_some_iff.mp hx
   have hi := (List.getElem?_eq_some_iff.mp hoi).1
   have hd : ds[i]? = some (ds[i]'(by omega)) := List.getElem?_eq_getElem _
   have hp := (R2.2 i _ _ hoi hd).same S'
   generalize ds[i]'(by omega) = d at hd hp
   try walk_at "rd"
   refine fr4 rfl hp fun st H5 S5 hst => ⟨S5 _ _ h', fun H6 B6 h6 => ⟨(S'.trans S5).step n3 B6, h6, ?_⟩⟩
   rw [List.take_add_one, hd]
   exact ((R'.same S5).snoc (by rw [g0g]; exact hst)).c5u (Lk.lst (S5 _ _ h')) B6
  ·intro ys H4 ⟨S4, h4, R4⟩
   rw [List.length_map, ol, List.take_length] at R4
   have ho4 := S4 _ _ h2
   have h4s := S4 _ _ h3b
   have L4 : Lk H4 o := Lk.ins ho4 (.inr (.inl ⟨_, rfl⟩))
   have nd : o ≠ D := fun e => by rw [<- e, h2] at n3; cases n3
   clear h2 h3 h3b
   walk_at "rd*"
   intro H5 B5 h5
   exact q H5 (fun z u hz e => B5 _ _ hz (S4 _ _ (B2 _ _ hz (S1 _ _ e)))) ⟨dx, pl, D, os, ys, h5, B5 _ _ no.symm h4s, B5 _ _ nd.symm h4, (R2.same S4).c5u L4 B5, R4.c5u L4 B5⟩
theorem g6l (T : Tx K mg A) : a1n P A.wd K mg base CX0 3 A.a2q A.b1u ["self", "tops", "bottom"] (g4k A) := by
 have d0z : a1n P A.wd K mg base CX0 2 _ _ _ _ := f9v T
 have c9p : a1n P A.wd K mg base CX0 2 _ _ _ _ := f3t T
 have d1g : a1n P A.wd K mg base CX0 2 _ _ _ _ := f9w T
 have d1h : a1n P A.wd K mg base CX0 2 _ _ _ _ := f9y T
 have d6y : a1n P A.wd K mg base CX0 1 _ _ _ _ := f9o T
 have d6z : a1n P A.wd K mg base CX0 1 _ _ _ _ := f9z T
 have d7g : a1n P A.wd K mg base CX0 1 _ _ _ _ := g0a T
 have d7h : a1n P A.wd K mg base CX0 1 _ _ _ _ := g0b T
 have b4u := T.b4u
 have a1v := T.a1v
 have a1q := T.a1q
 have a7r := T.a7r
 have a1i := T.a1i
 have a6p := T.a6p
 have a1m := T.a1m
 have a5l := T.a5l
 have a0y := T.a0y
 have a0z := T.a0z
 have a0u := T.a0u
 have a0o := T.a0o
 have a0m := T.a0m
 have a7s := T.a7s
 have a1j := T.a1j
 have a1k := T.a1k
 refine T.a9l.ok a2r (fun vs H Q E h => ?_) (fun cdv A' outer s H vs Q E hr h => ?_)
 ·match vs, h with
  | [.ref o, .ref l, .int b], _ => rfl
 ·match vs, h with
  | [.ref o, .ref l, .int b], ⟨ds, xs, ys, ⟨dx, pl, sl, os, sts, ho, hpl, hsl, R, ST⟩, hl, l8, ok, lx, ly, bb, hb, q⟩ =>
  have hu := hr.units
  have c9q : a2y 2 _ := hr.mono (by decide)
  have c7i : a2y 2 _ := hr.mono (by decide)
  have c9r : a2y 2 _ := hr.mono (by decide)
  have c9s : a2y 2 _ := hr.mono (by decide)
  have d4j : a2y 1 _ := hr.mono (by decide)
  have d4k : a2y 1 _ := hr.mono (by decide)
  have d4l : a2y 1 _ := hr.mono (by decide)
  have d4m : a2y 1 _ := hr.mono (by decide)
  unfold chF at ho
  refine ⟨_, (a0i (a0t (i := 3) a2r.nd rfl (Or.inl rfl) (b4z (a0g (a2s c1n (by rfl) T.c1y boot_list (a0g (pvF 1) a0j)) (a0g (pvF 2) a0j))))
   (a0i (a0t (i := 4) a2r.nd rfl (Or.inl rfl) (c7r a0j))
   (a0i (c1z PassesOwn.never rfl (h0o (by rfl) T.f8k (a0g (a5k (pvF 0) rfl) (a0g (a5k (pvF 0) rfl) a0j))) (f7q (n := 2) rfl (b1k (a6v (i := 5) a2r.nd rfl (Or.inl rfl)) (b1k (a6v (i := 6) a2r.nd rfl (Or.inl rfl)) f0t)))
   (a0i (a0t (i := 7) a2r.nd rfl (Or.inl rfl) (a4y (c1p (pvF 5) T.a7r T.c8y d0z c9q T.b5m .nil a1g (a0g (pvF 6) (a0g (a1o a6s (pvF 3) a0k (fun _ _ => rfl)) (a0g (a1o a6s (pvF 3) a0k (fun _ _ => rfl)) a0j)))) (a4y (c1p (pvF 5) T.a6p T.c6z c9p c7i T.b3p .nil a1g (a0g (pvF 6) (a0g (a1o a6s (pvF 3) a0k (fun _ _ => rfl)) (a0g (a1o a6s (pvF 3) a0k (fun _ _ => rfl)) a0j)))) (a4y (c1p (pvF 5) T.a5l T.c8z d1g c9r T.b5n .nil a1g (a0g (pvF 6) (a0g (a1o a6s (pvF 3) a0k (fun _ _ => rfl)) (a0g (a1o a6s (pvF 3) a0k (fun _ _ => rfl)) a0j)))) (c1p (pvF 5) T.a7s T.c9g d1h c9s T.b5o .nil a1g (a0g (pvF 6) (a0g (a1o a6s (pvF 3) a0k (fun _ _ => rfl)) (a0g (a1o a6s (pvF 3) a0k (fun _ _ => rfl)) a0j))))))))
   (a0i (a0t (i := 3) a2r.nd rfl (Or.inl rfl) (b4z (a0g (a1o a6s (pvF 7) a0k (fun _ _ => rfl)) (a0g (a0s a3s (a1o a6s (pvF 3) a0k (fun _ _ => rfl)) (a4y (a8t (pvF 5) T.a7r T.d3k d6z d4k T.b9w .nil a1g) (a4y (a8t (pvF 5) T.a6p T.d0v d6y d4j T.b9v .nil a1g) (a4y (a8t (pvF 5) T.a5l T.d3m d7g d4l T.b9z .nil a1g) (a8t (pvF 5) T.a7s T.d3p d7h d4m T.c0h .nil a1g))))) a0j))))
   (a0l (b6t (c3w c3u PySem.F.plainAttrs_list PySem.F.slot_list_append PySem.F.type_list_append c4u (pvF 4) (a0g (a1o a6s (pvF 7) a0k (fun _ _ => rfl)) a0j)))))))
   (a0i (b1q (pvF 0) (pvF 4) rfl)
   (a0l (a1h (pvF 3))))))), ?_⟩
  walk_at "rd*"
  refine fun l1 H1 n1 S1 h1 => ?_
  walk_at "rd"
  refine fun r2 H2 n2 S2 h2 => ?_
  walk_at "rd"
  refine ⟨by decide, fun D H3 n3 S3 h3 => ?_⟩
  have S02 := S1.trans S2
  have S03 := S02.trans S3
  have ho3 := S03 _ _ ho
  have h7m := S03 _ _ hpl
  have h7n := S03 _ _ hsl
  walk_at "rd*"
  have ol := R.1
  have sl' := ST.1
  have nl : l1 ≠ D := fun e => by rw [<- e, S2 _ _ h1] at n3; cases n3
  have h13 := S3 _ _ (S2 _ _ h1)
  have h23 := S3 _ _ h2
  have bl := c7m (ds := ds) (xs := xs ++ ys) (B := 64) (by decide)
  obtain ⟨Pv, pin, pout⟩ := f7j (fun i σ H' => ∃ (rr lo : Addr) (sts' : List V) (v5 v6 v7 : Option V), σ = [some (.ref o), some (.ref l), some (.int b), some (.ref rr), some (.ref D), v5, v6, v7] /\ Same H2 H' /\ H' rr = some (.tup [.ref lo, .int (a8n b (ds.take i))]) /\ H' lo = some (.lst ((blk (ds.take i) xs ys).map V.int)) /\ lo ≠ D /\ H rr = none /\ H lo = none /\ H' D = some (.lst sts') /\ Sts H' (ds.take i) sts' (xs ++ ys))
  refine g1r (xs := os.map V.ref) (ys := sts) Pv (pin _ _ _ ⟨_, _, [], _, _, _, rfl, S3, h23, h13, nl, S1.free n2, n1, h3, rfl, fun i o d e => by simp at e⟩) ?_ ?_ ?_
  ·intro i σ H4 hp
   obtain ⟨rr, lo, sts', v5, v6, v7, rfl, S4, _⟩ := pout _ _ _ hp
   exact ⟨SqL.of (S4 _ _ (S02 _ _ hpl)), SqL.of (S4 _ _ (S02 _ _ hsl))⟩
  ·intro i x y σ H4 p H5 hx hy hp np S5 h5
   obtain ⟨rr, lo, sts', v5, v6, v7, rfl, S4, hrr, hlo, nlo, fr, fl, hD, R4⟩ := pout _ _ _ hp
   rw [List.getElem?_map] at hx
   obtain ⟨oi, hoi, rfl⟩ := Option.map_eq_some_iff.mp hx
   have hi := (List.getElem?_eq_some_iff.mp hoi).1
   have hd : ds[i]? = some (ds[i]'(by omega)) := List.getElem?_eq_getElem _
   have hp := R.2 i _ _ hoi hd
   have hst := ST.2 i _ _ hy hd
   have okd := ok _ (List.mem_of_getElem? hd)
   have et : ds.take (i + 1) = ds.take i ++ [ds[i]'(by omega)] := by rw [List.take_add_one, hd]; rfl
   generalize ds[i]'(by omega) = d at hd hp hst okd et
   have S05 := S02.trans (S4.trans S5)
   have h7o := S5 _ _ hrr
   have hlo5 := S5 _ _ hlo
   have hp5 := hp.same S05
   have h7p := hst.same S05
   clear hp hst hrr hlo h13 h23 h2 h1 ho3 h7m h7n
   walk_at "rd*"
   refine thr4 (by rfl) hp5 ?_
   walk_at "rd*"
   have bt : ∀ z ∈ run (ds.take i) xs ++ blk (ds.take i) xs ys, intBits z <= 100000 := by
    rw [<- c9o]
    intro z hz
    have h1 := c7m (ds := ds.take i) (xs := xs ++ ys) (B := 64) (by decide) (fun d hd => ok d (List.mem_of_mem_take hd)) hb z hz
    have h2 : (ds.take i).length <= 8 := by rw [List.length_take]; omega
    omega
   refine ⟨d, rfl, hp5, okd, _, h7p, _, rfl, by rw [d9q]; omega, by rw [c5t]; omega, bt, fun r ou st' H6 S6 nr no h6 ho6 hst6 => ?_⟩
   have hrr6 := S6 _ _ h7o
   have hp6 := hp5.same S6
   have nou : ou ≠ D := fun e => by rw [e, S5 _ _ hD] at no; cases no
   clear h7o hlo5 hp5 h7p bt
   walk_at "rd*"
   refine gr4 (by rfl) hp6 ?_
   walk_at "rd*"
   have gb := c2z (ds := ds.take i) (b := b) (B := 64) (fun d hd => ok d (List.mem_of_mem_take hd)) bb
   have tl : (ds.take i).length <= 8 := by rw [List.length_take]; omega
   refine ⟨IntMulOk.of_le (Nat.le_trans gb (by omega : _ <= 64 + 161 * 8)) (d2j okd) (by decide), fun r7 H7 n7 S7 h7 => ?_⟩
   have h67 := S7 _ _ h6
   have hD7 := S7 _ _ (S6 _ _ (S5 _ _ hD))
   have R7 := ((R4.same S5).same S6).same S7
   clear h6 hrr6 hp6
   have sl7 := R7.1
   walk_at "rd*"
   refine ⟨by rw [sizeLine_eq]; omega, ?_⟩
   rintro _ H8 ⟨rfl, B8, h8⟩
   have nr7 : r7 ≠ D := fun e => by rw [e, S6 _ _ (S5 _ _ hD)] at n7; cases n7
   refine pin _ _ _ ⟨r7, ou, sts' ++ [st'], _, _, _, rfl, (S4.trans (S5.trans (S6.trans S7))).step n3 B8, ?_, ?_, nou, (S05.trans S6).free n7, S05.free no, h8, ?_⟩
   ·rw [et, d9r]
    exact B8 _ _ nr7 h7
   ·rw [et, f1r]
    exact B8 _ _ nou (S7 _ _ ho6)
   ·rw [et]
    refine (R7.snoc ?_).c5u (Lk.lst hD7) B8
    rw [c9o]
    exact hst6.same S7
  ·intro σ H4 hp
   obtain ⟨rr, lo, sts', v5, v6, v7, rfl, S4, hrr, hlo, nlo, fr, fl, hD, R4⟩ := pout _ _ _ hp
   rw [List.length_map, ol, sl', Nat.min_self, List.take_length] at R4 hrr hlo
   have S04 := S02.trans S4
   have ho4 := S04 _ _ ho
   have h4s := S04 _ _ hpl
   have L4 : Lk H4 o := Lk.ins ho4 (.inr (.inr ⟨_, _, rfl⟩))
   have nD : D ≠ o := fun e => by rw [e, S02 _ _ ho] at n3; cases n3
   have npl : pl ≠ o := fun e => by rw [e, ho] at hpl; cases hpl
   have nrr : rr ≠ o := fun e => by rw [e, ho] at fr; cases fr
   have h7q : lo ≠ o := fun e => by rw [e, ho] at fl; cases fl
   clear ho3 h7m h7n h13 h23 h1 h2 h3
   walk_at "rd*"
   intro H5 B5 h5
   try walk_at "rd*"
   exact q rr lo H5 (fun z u hz e => B5 _ _ hz (S04 _ _ e)) fr fl (B5 _ _ nrr hrr) (B5 _ _ h7q hlo) ⟨dx, pl, D, os, sts', h5, B5 _ _ npl h4s, B5 _ _ nD hD, (R.same S04).c5u L4 B5, R4.c5u L4 B5⟩
theorem h1z {p q : Int} (h : 1 <= q) (g : Int.gcd p q = 1) : ∃ y : Rat, y.num = p /\ (y.den : Int) = q := by
 refine ⟨⟨p, q.toNat, by omega, ?_⟩, rfl, ?_⟩
 ·show Nat.gcd p.natAbs q.toNat = 1
  rw [show q.toNat = q.natAbs by omega]
  exact g
 ·show ((q.toNat : Nat) : Int) = q
  omega
theorem d7i {t b g : Int} (hg : 0 < g) (h1 : g ∣ t) (h2 : g ∣ b) (h : (t.natAbs : Int) < b) : ((t.fdiv g).natAbs : Int) < b.fdiv g := by
 obtain ⟨x, rfl⟩ := h1
 obtain ⟨y, rfl⟩ := h2
 rw [Int.mul_fdiv_cancel_left _ (by omega), Int.mul_fdiv_cancel_left _ (by omega)]
 rw [Int.natAbs_mul] at h
 have e : ((g.natAbs * x.natAbs : Nat) : Int) = g * (x.natAbs : Int) := by rw [Int.natCast_mul]; congr 1; omega
 rw [e] at h
 exact Int.lt_of_mul_lt_mul_left h (by omega)
theorem c9t {a g : Int} (ha : 0 < a) (hg : 0 < g) (h : g ∣ a) : 0 < a.fdiv g := by
 obtain ⟨z, rfl⟩ := h
 rw [Int.mul_fdiv_cancel_left _ (by omega)]
 rcases Int.lt_or_le 0 z with h | h
 ·exact h
 ·exfalso
  have := Int.mul_nonpos_of_nonneg_of_nonpos (a := g) (by omega) h
  omega
theorem g0h {t b : Int} (t1 : t.natAbs <= 1000) (b1 : 1 <= b) (b2 : b <= 1000) : 0 < Int.gcd (t.natAbs : Int) b /\ CFd t (Int.gcd (t.natAbs : Int) b : Int) /\ CFd b (Int.gcd (t.natAbs : Int) b : Int) /\
  ∃ y : Rat, YOk y /\ y.num = t.fdiv (Int.gcd (t.natAbs : Int) b : Int) /\ (y.den : Int) = b.fdiv (Int.gcd (t.natAbs : Int) b : Int) /\ ((t.natAbs : Int) < b -> (y.num.natAbs : Int) < y.den) := by
 have gp : 0 < Int.gcd (t.natAbs : Int) b := Int.gcd_pos_of_ne_zero_right _ (by omega)
 have gl : (Int.gcd (t.natAbs : Int) b : Int) <= b := Int.le_of_dvd (by omega) (Int.gcd_dvd_right _ _)
 have gd : (Int.gcd (t.natAbs : Int) b : Int) ∣ t := by
  have := Int.gcd_dvd_left (t.natAbs : Int) b
  exact Int.dvd_natAbs.mp this
 have gd2 : (Int.gcd (t.natAbs : Int) b : Int) ∣ b := Int.gcd_dvd_right _ _
 have ge : Int.gcd (t.natAbs : Int) b = Int.gcd t b := by
  have := d3u t b
  rw [<- this, show ((b.natAbs : Nat) : Int) = b by omega]
 have cf : CFd t (Int.gcd (t.natAbs : Int) b : Int) := ⟨by omega, Nat.le_trans (intBits_le_64 (by omega) (by omega)) (by decide)⟩
 have q1 := b7v (a := t) (g := (Int.gcd (t.natAbs : Int) b : Int)) (by omega) gd
 have q2 := b7v (a := b) (g := (Int.gcd (t.natAbs : Int) b : Int)) (by omega) gd2
 have q3 : 0 < b.fdiv (Int.gcd (t.natAbs : Int) b : Int) := c9t (by omega) (by omega) gd2
 have q4 : Int.gcd (t.fdiv (Int.gcd (t.natAbs : Int) b : Int)) (b.fdiv (Int.gcd (t.natAbs : Int) b : Int)) = 1 := by
  rw [ge]
  have := g1z (a := t) (b := b) (by omega)
  omega
 have d1 : t.natAbs / (Int.gcd (t.natAbs : Int) b : Int).natAbs <= t.natAbs := Nat.div_le_self _ _
 have d2 : b.natAbs / (Int.gcd (t.natAbs : Int) b : Int).natAbs <= b.natAbs := Nat.div_le_self _ _
 obtain ⟨y, y1, y2⟩ := h1z (by omega : 1 <= b.fdiv (Int.gcd (t.natAbs : Int) b : Int)) q4
 refine ⟨gp, cf, ⟨cf.1, cf.2⟩, y, ⟨by rw [y1]; omega, by omega⟩, y1, y2, fun z => ?_⟩
 rw [y1, y2]
 exact d7i (by omega) gd gd2 z
theorem g6m (T : Tx K mg A) : a1n P A.wd K mg base CX0 1 A.a4p A.b5j ["_law_script", "_law_k"] (g4l K) := by
 refine T.a1z.ok d0s (fun vs H Q E h => ?_) (fun cdv A' outer s H vs Q E hr h => ?_)
 ·match vs, h with
  | [.ref a, .int k], _ => rfl
 ·match vs, h with
  | [.ref a, .int k], ⟨ns, hS, hk, q⟩ =>
  have hu := hr.units
  refine ⟨_, (a0i (a9s (a2h of_lt (pvF 1) (a0w f2m (by rfl) T.b4g boot_len (a0g (pvF 0) a0j)) (a3r _))
   (a0l (a1h (a1o ix_S (pvF 0) (pvF 1) (fun _ _ => rfl))))
   a2g)
   (a0l (a1h a0k))), ?_⟩
  walk_at "rd"
  refine ⟨_, hS, ?_⟩
  rw [List.length_map]
  split
  ·rename_i h
   exact ⟨_, hS, hk, h, q⟩
  ·rename_i h
   obtain ⟨j, rfl⟩ := Int.eq_ofNat_of_zero_le hk
   rw [List.getD_eq_getElem?_getD, List.getElem?_eq_none (by omega)] at q
   exact q
theorem g2n (T : Tx K mg A) : a1n P A.wd K mg base CX0 1 A.a7m A.b9o ["_law_found"] f8t := by
 refine T.b0t.ok d6k (fun vs H Q E h => ?_) (fun cdv A' outer s H vs Q E hr h => ?_)
 ·match vs, h with
  | [.int i], _ => rfl
 ·match vs, h with
  | [.int i], q =>
  have hu := hr.units
  refine ⟨_, (a0l (a1h (f6s (a0w (b1w .int) (by rfl) T.a1u boot_isinstance (a0g (pvF 0) (a0g (b6s (v := .ty "int") (u := .type "int") (by rfl) T.d0u rfl rfl) a0j))) (g3a (f6t (a0w (b1w .bl) (by rfl) T.a1u boot_isinstance (a0g (pvF 0) (a0g (b6s (v := .ty "bool") (u := .type "bool") (by rfl) T.d1u rfl rfl) a0j)))))))), ?_⟩
  walk_at "rd"
  exact q
theorem d9t (T : Tx K mg A) : a1n P A.wd K mg base CX0 1 A.a4q A.b5k ["_law_one", "_law_other"] g6b := by
 refine T.a9n.ok a5j (fun vs H Q E h => ?_) (fun cdv A' outer s H vs Q E hr h => ?_)
 ·match vs, h with
  | [.int a, .int b], _ => rfl
 ·match vs, h with
  | [.int a, .int b], q =>
  have q : Q (.int (Int.gcd a b)) H := q
  have hu := hr.units
  refine ⟨_, (a0i (a0t (i := 0) a5j.nd rfl (Or.inl rfl) (a0w b8v (by rfl) T.d3i boot_abs (a0g (pvF 0) a0j)))
   (a0i (a0t (i := 1) a5j.nd rfl (Or.inl rfl) (a0w b8v (by rfl) T.d3i boot_abs (a0g (pvF 1) a0j)))
   (a0i (d5m PassesOwn.never (a2h d8g (pvF 1) a0k (a3r _))
   (a0i (a0t (i := 2) a5j.nd rfl (Or.inl rfl) (a0s a6r (pvF 0) (pvF 1)))
   (a0i (a0t (i := 0) a5j.nd rfl (Or.inl rfl) (pvF 1))
   (a0l (a0t (i := 1) a5j.nd rfl (Or.inl rfl) (pvF 2))))))
   (a0l (a1h (pvF 0)))))), ?_⟩
  walk_at "rd"
  refine d5n (fun m σ H1 => ∃ l r z, σ = [some (.int l), some (.int r), z] /\ H1 = H /\ 0 <= l /\ 0 <= r /\ m = r.toNat /\ Int.gcd l r = Int.gcd a b) _
   ⟨_, _, _, rfl, rfl, by omega, by omega, rfl, d3u a b⟩ ?_
  rintro m σ H1 ⟨l, r, z, rfl, rfl, hl, hr', rfl, hg⟩
  walk_at "rd"
  split
  ·rename_i h
   have hp : 0 < r := by omega
   have f := f9h hl hp
   exact ⟨by omega, _, (by omega : (l.fmod r).toNat < r.toNat), _, _, _, ⟨rfl, rfl, rfl⟩, hr', f.1, rfl, (f1l hl hp).trans hg⟩
  ·rename_i h
   obtain rfl : r = 0 := by omega
   rw [<- hg, gcd_zero hl] at q
   exact q
theorem g2o (T : Tx K mg A) : a1n P A.wd K mg base CX0 2 A.b0o A.c2n ["_law_cell", "_law_great"] f8u := by
 have d4n : a1n P A.wd K mg base CX0 1 _ _ _ _ := d9t T
 refine T.b2t.ok a7h (fun vs H Q E h => ?_) (fun cdv A' outer s H vs Q E hr h => ?_)
 ·match vs, h with
  | [.int c, .bl g], _ => rfl
 ·match vs, h with
  | [.int c, .bl g], ⟨hc, k⟩ =>
  have hu := hr.units
  have d1i : a2y 1 _ := hr.mono (by decide)
  refine ⟨_, (b2w (a0t (i := 2) a7h.nd rfl (Or.inl rfl) (a0s a8r (a0s a6r (a0s a3s (pvF 0) a0k) (a0s a1p (a0s f0o a0k a0k) a0k)) (a0s f0o a0k a0k)))
   (a0i (a0t (i := 3) a7h.nd rfl (Or.inl rfl) (a0s c3s (a0s a6r (pvF 2) a0k) a0k))
   (a0i (a0t (i := 4) a7h.nd rfl (Or.inl rfl) (a0s a1p a0k (a0s a6r (a0s a8r (pvF 2) a0k) a0k)))
   (b2w (a9s (a6w (pvF 1))
   (a0i (a0t (i := 3) a7h.nd rfl (Or.inl rfl) (a0s c3s (a0s a6r (pvF 2) a0k) a0k))
   (a0l (a0t (i := 4) a7h.nd rfl (Or.inl rfl) (a0s a1p a0k (a0s a6r (a0s a8r (pvF 2) a0k) a0k)))))
   a2g)
   (a0i (a0t (i := 5) a7h.nd rfl (Or.inl rfl) (a0n d4n d1i (by rfl) T.d3h T.a9n.kp T.b7r .nil a1g (a0g (pvF 3) (a0g (pvF 4) a0j))))
   (a0l (a1h (b4z (a0g (a0s a8r (pvF 3) (pvF 5)) (a0g (a0s a8r (pvF 4) (pvF 5)) a0j)))))))))), ?_⟩
  have fM := b1v (c * 618033988749894848204587) (b := 1000000000000000000000007) (by decide)
  obtain ⟨Mid, min', mout⟩ := g1i (fun σ' H' => ∃ M : Int, σ' = [some (.int c), some (.bl g), some (.int M), none, none, none] /\ H' = H)
  refine ⟨Mid, ?_, ?_⟩
  ·walk_at "rd"
   exact ⟨by walk_at "mul", by decide, by decide, ⟨by decide, by decide⟩, min' _ _ ⟨_, rfl, rfl⟩⟩
  clear fM
  intro σ' H' hm
  obtain ⟨M, rfl, rfl⟩ := mout _ _ hm
  have f1 := b1v M (b := 2001) (by decide)
  have f2 := b1v (M.fdiv 2001) (b := 1000) (by decide)
  have f3 := b1v M (b := 9) (by decide)
  have f4 := b1v (M.fdiv 9) (b := 4) (by decide)
  walk_at "rd"
  obtain ⟨Mid, pin, pout⟩ := g1i (fun σ' H1 => ∃ t b : Int, σ' = [some (.int c), some (.bl g), some (.int M), some (.int t), some (.int b), none] /\ H1 = H' /\ t.natAbs <= 1000 /\ 1 <= b /\ b <= 1000)
  refine ⟨⟨by decide, by decide⟩, Mid, ?_, ?_⟩
  ·walk_at "rd"
   split
   ·exact ⟨⟨by decide, by decide⟩, pin _ _ ⟨_, _, rfl, rfl, by omega, by omega, by omega⟩⟩
   ·exact pin _ _ ⟨_, _, rfl, rfl, by omega, by omega, by omega⟩
  intro σ' H1 hm2
  obtain ⟨t, b, rfl, rfl, t1, b1, b2⟩ := pout _ _ hm2
  obtain ⟨gp, cf1, cf2, y, oy, y1, y2, yl⟩ := g0h t1 b1 b2
  have ge : Int.gcd (t.natAbs : Int) b = Int.gcd t b := by
   have := d3u t b
   rw [<- this, show ((b.natAbs : Nat) : Int) = b by omega]
  rw [ge] at cf1 cf2 y1 y2
  walk_at "rd"
  refine ⟨cf1, cf2, fun p H2 n2 S2 h2 => ?_⟩
  rw [<- y1, <- y2] at h2
  exact k y p H2 oy n2 S2 h2
theorem g2p (c : Int) : -1000000000000 <= f8v c /\ f8v c <= 1000000000000 := by
 unfold f8v
 split
 ·omega
 ·have := b1v (c * 618033988749894848204587) (b := 2000000000001) (by decide)
  omega
theorem g2q (T : Tx K mg A) : a1n P A.wd K mg base CX0 1 A.b0p A.c2o ["_law_cell"] f8w := by
 refine T.b6n.ok d8u (fun vs H Q E h => ?_) (fun cdv A' outer s H vs Q E hr h => ?_)
 ·match vs, h with
  | [.int c], _ => rfl
 ·match vs, h with
  | [.int c], ⟨hc, q⟩ =>
  have hu := hr.units
  refine ⟨_, (a0i (a9s (a2h (d5p hu) (a0s a6r (a0s a6r (a0s a3s (pvF 0) a0k) a0k) a0k) a0k (a3r _))
   (a0l (a1h a0k))
   a2g)
   (a0l (a1h (a0s c3s (a0s a6r (a0s a3s (pvF 0) a0k) (a0s a1p (a0s a3s a0k (a0s f0o a0k a0k)) a0k)) (a0s f0o a0k a0k))))), ?_⟩
  walk_at "rd"
  unfold f8v at q
  refine ⟨by walk_at "mul", ?_⟩
  split
  ·rename_i h
   rw [if_pos h] at q
   exact q
  ·rename_i h
   rw [if_neg h] at q
   refine ⟨by walk_at "mul", by decide, by walk_at "mul", by decide, q⟩
theorem c9u (x : Str) : Str.empty ++ x = x := b4i (by rw [a2i]; rfl)
theorem h2a (y : Rat) : Str.ofString "gain:" ++ fW y = (Dt.gain y).word := by rw [← h0x, c9u]
theorem g6n (n : Nat) : Str.ofString "delay:" ++ nW n = (Dt.delay n).word := by rw [← g5y, c9u]
theorem h2b (y : Rat) (n t : Nat) : Str.ofString "echo:" ++ fW y ++ Str.ofString ":" ++ nW n ++ Str.ofString ":" ++ nW t = (Dt.echo y n t).word := by rw [← h0y, c9u]
theorem f4l (T : Tx K mg A) : a1n P A.wd K mg base CX0 1 A.a4r A.b5l ["_law_gain_here"] d6o := by
 refine T.a4u.ok d0t (fun vs H Q E h => ?_) (fun cdv A' outer s H vs Q E hr h => ?_)
 ·match vs, h with
  | [.ref p], _ => rfl
 ·match vs, h with
  | [.ref p], ⟨y, hp, oy, q⟩ =>
  have hu := hr.units
  have hs : sizeLine = 16777216 := sizeLine_eq
  unfold d8j at hp
  refine ⟨_, (a0l (a1h (a0s a1p (a0s a1p (a2s b5u (by rfl) T.c6y boot_str (a0g (a1o a6s (pvF 0) a0k (fun _ _ => rfl)) a0j)) b2v) (a2s b5u (by rfl) T.c6y boot_str (a0g (a1o a6s (pvF 0) a0k (fun _ _ => rfl)) a0j))))), ?_⟩
  have g1 := d1p (intBits_le_iff.mp oy.b.1) (by decide)
  have g2 := d1p (intBits_le_iff.mp oy.b.2) (by decide)
  have a := c4w (intBits_le_iff.mp oy.b.1) (by decide)
  have c := c4w (intBits_le_iff.mp oy.b.2) (by decide)
  have e1 : (Str.ofString "/").length = 1 := by decide +kernel
  unfold fW at q
  rw [c9u] at q
  walk_at "rd*"
  refine ⟨by omega, by omega, by omega, by rw [strLen_append]; omega⟩
theorem g2r (T : Tx K mg A) : a1n P A.wd K mg base CX0 1 A.a7n A.b9p ["_law_number", "_law_many"] f8y := by
 refine T.b0u.ok b4j (fun vs H Q E h => ?_) (fun cdv A' outer s H vs Q E hr h => ?_)
 ·match vs, h with
  | [.int n, .int k], _ => rfl
 ·match vs, h with
  | [.int n, .int k], ⟨m, hk, m20, bn, q⟩ =>
  have hu := hr.units
  subst hk
  refine ⟨_, (a0i (a0t (i := 2) b4j.nd rfl (Or.inl rfl) a0k)
   (a0i (c1z PassesOwn.never rfl (b2k (by rfl) T.b3s (a0g (pvF 1) a0j)) (a6v (i := 3) b4j.nd rfl (Or.inl rfl))
   (a0l (a0t (i := 2) b4j.nd rfl (Or.inl rfl) (a0s a3s (pvF 2) (pvF 0)))))
   (a0l (a1h (pvF 2))))), ?_⟩
  walk_at "rd"
  refine ⟨by omega, by omega, ?_⟩
  rw [Int.toNat_natCast]
  obtain ⟨Pv, pin, pout⟩ := f7j (fun i σ H' => ∃ v : Option V, σ = [some (.int n), some (.int (m : Int)), some (.int (n ^ i)), v] /\ H' = H)
  refine c1m (n := m) Pv (pin _ _ _ ⟨none, by rw [Int.pow_zero], rfl⟩) ?_ ?_
  ·intro i σ H1 hi hp
   obtain ⟨v, rfl, rfl⟩ := pout _ _ _ hp
   walk_at "rd"
   refine ⟨IntMulOk.of_right (Nat.le_trans bn (by decide)), pin _ _ _ ⟨_, by rw [Int.pow_succ], rfl⟩⟩
  ·intro σ H1 hp
   obtain ⟨v, rfl, rfl⟩ := pout _ _ _ hp
   walk_at "rd"
   exact q
theorem g2s (T : Tx K mg A) : a1n P A.wd K mg base CX0 2 A.a7o A.b9q ["_law_gain_here", "_law_more", "_law_many", "_law_turns", "_law_far", "_law_pick"] f8z := by
 have b7z : a1n P A.wd K mg base CX0 1 _ _ _ _ := f4l T
 refine T.b3r.ok c6l (fun vs H Q E h => ?_) (fun cdv A' outer s H vs Q E hr h => ?_)
 ·match vs, h with
  | [.ref pg, .ref pm, .int n, .int t, .int f, .int u], _ => rfl
 ·match vs, h with
  | [.ref pg, .ref pm, .int n, .int t, .int f, .int u], ⟨y, m, n', t', f', hg, hm, oy, om, en, et, ef, n1, t1, f1, u0, k⟩ =>
  have hu := hr.units
  have b5p : a2y 1 _ := hr.mono (by decide)
  subst en et ef
  have hs : sizeLine = 16777216 := sizeLine_eq
  refine ⟨_, (a0i (a0t (i := 6) c6l.nd rfl (Or.inl rfl) (c7r (a0g (a0s a1p (a0s a1p (a0s a1p (a0s a1p (a0s a1p b2v (a0n b7z b5p (by rfl) T.b7s T.a4u.kp T.a9o .nil a1g (a0g (pvF 0) a0j))) b2v) (a2s b5u (by rfl) T.c6y boot_str (a0g (pvF 2) a0j))) b2v) (a2s b5u (by rfl) T.c6y boot_str (a0g (pvF 3) a0j))) a0j)))
   (a0i (b6t (c3w c3u PySem.F.plainAttrs_list PySem.F.slot_list_append PySem.F.type_list_append c4u (pvF 6) (a0g (a0s a1p (a0s a1p (a0s a1p b2v (a0n b7z b5p (by rfl) T.b7s T.a4u.kp T.a9o .nil a1g (a0g (pvF 0) a0j))) b2v) (a2s b5u (by rfl) T.c6y boot_str (a0g (pvF 2) a0j))) a0j)))
   (a0i (b6t (c3w c3u PySem.F.plainAttrs_list PySem.F.slot_list_insert PySem.F.type_list_insert d1q (pvF 6) (a0g (a0s a6r (pvF 5) a0k) (a0g (a0s a1p b2v (a0n b7z b5p (by rfl) T.b7s T.a4u.kp T.a9o .nil a1g (a0g (pvF 1) a0j))) a0j))))
   (a0i (b6t (c3w c3u PySem.F.plainAttrs_list PySem.F.slot_list_insert PySem.F.type_list_insert d1q (pvF 6) (a0g (a0s a6r (a0s a8r (pvF 5) a0k) a0k) (a0g (a0s a1p b2v (a2s b5u (by rfl) T.c6y boot_str (a0g (pvF 4) a0j))) a0j))))
   (a0l (a1h (pvF 6))))))), ?_⟩
  walk_at "rd"
  refine ⟨y, hg, oy, ?_⟩
  have fl := f0y oy.b.1 oy.b.2
  have ml := f0y om.b.1 om.b.2
  have nl := f0w (n := n') (by omega)
  have tl := f0w (n := t') (by omega)
  have ll := f0w (n := f') (by omega)
  have g0 := d1p (t := (n' : Int)) (n := 20) (by omega) (by decide)
  have g1 := d1p (t := (t' : Int)) (n := 20) (by omega) (by decide)
  have g2 := d1p (t := (f' : Int)) (n := 20) (by omega) (by decide)
  have c0 : (Str.ofString ":").length = 1 := by decide +kernel
  have c1 : (Str.ofString "echo:").length = 5 := by decide +kernel
  have c2 : (Str.ofString "back:").length = 5 := by decide +kernel
  have c3 : (Str.ofString "gain:").length = 5 := by decide +kernel
  have c4 : (Str.ofString "delay:").length = 6 := by decide +kernel
  have v1 := h2b y n' t'
  have v2 : Str.ofString "back:" ++ fW y ++ Str.ofString ":" ++ nW n' = (Dt.back y n').word := by rw [← h0z, c9u]
  have v3 := h2a m
  have v4 := g6n f'
  unfold nW at nl tl ll v1 v2 v4
  simp only [strLen_append]
  refine ⟨by omega, by omega, by omega, by omega, by omega, by omega, by omega, by omega, fun l H1 nl1 S1 h1 => ?_⟩
  rw [v1] at h1
  have hg1 := S1 _ _ hg
  walk_at "rd*"
  refine ⟨y, rfl, oy, ?_⟩
  simp only [strLen_append]
  refine ⟨by omega, by omega, by omega, by omega, ?_⟩
  rintro _ H2 ⟨rfl, B2, h2⟩
  rw [v2] at h2
  have nl2 : pm ≠ l := fun e => by rw [<- e, hm] at nl1; cases nl1
  have hm2 := B2 _ _ nl2 (S1 _ _ hm)
  have f3 := b1v u (b := 3) (by decide)
  have f4 := b1v (u.fdiv 3) (b := 4) (by decide)
  obtain ⟨i, ei⟩ : ∃ i : Nat, u.fmod 3 = (i : Int) := ⟨(u.fmod 3).toNat, by omega⟩
  obtain ⟨j, ej⟩ : ∃ j : Nat, (u.fdiv 3).fmod 4 = (j : Int) := ⟨((u.fdiv 3).fmod 4).toNat, by omega⟩
  clear h1 hg1
  walk_at "rd*"
  refine ⟨m, rfl, om, by omega, by omega, by omega, ?_⟩
  rintro _ H3 ⟨rfl, B3, h3⟩
  rw [v3] at h3
  have h3' : H3 l = some (.lst ((d0p [.echo y n' t', .back y n'] (u.fmod 3).toNat (.gain m)).map fun d => V.str d.word)) := by
   rw [h3]
   unfold d0p
   rw [List.map_append, List.map_cons, List.map_take, List.map_drop]
   rfl
  have k' := k (u.fmod 3).toNat
  obtain ⟨L1, e1⟩ : ∃ L, d0p [.echo y n' t', .back y n'] (u.fmod 3).toNat (.gain m) = L := ⟨_, rfl⟩
  have ll1 : L1.length = 3 := by
   rw [<- e1]
   unfold d0p
   simp
   omega
  rw [e1] at h3' k'
  clear h2 h3 hm2 k
  walk_at "rd*"
  refine ⟨⟨by decide, by decide⟩, by omega, by omega, by omega, by omega, ?_⟩
  rintro _ H4 ⟨rfl, B4, h4⟩
  rw [v4] at h4
  walk_at "rd"
  refine k' ((u.fdiv 3).fmod 4).toNat l H4 nl1 (((S1.step nl1 B2).step nl1 B3).step nl1 B4) ?_
  rw [h4]
  unfold d0p
  rw [List.map_append, List.map_cons, List.map_take, List.map_drop]
theorem h2c (T : Tx K mg A) : a1n P A.wd K mg base CX0 1 A.b3k A.c5l ["_law_row", "_law_at"] h1s := by
 refine T.b6o.ok f3h (fun vs H Q E h => ?_) (fun cdv A' outer s H vs Q E hr h => ?_)
 ·match vs, h with
  | [.ref l, .int i], _ => rfl
 ·match vs, h with
  | [.ref l, .int i], ⟨xs, hl, hi, q⟩ =>
  have hu := hr.units
  unfold b8p at q
  refine ⟨_, (a0i (a9s (a2h of_lt (pvF 1) a0k (a3r _))
   (a0l (a1h a0k))
   a2g)
   (a0l (a1h (a1o a6s (pvF 0) (pvF 1) (fun _ _ => rfl))))), ?_⟩
  walk_at "rd*"
  split
  ·rename_i h
   rw [if_pos h] at q
   exact q
  ·rename_i h
   rw [if_neg h] at q
   obtain ⟨j, rfl⟩ : ∃ j : Nat, i = j := ⟨i.toNat, by omega⟩
   exact ⟨_, d0q (by omega), q⟩
theorem c4n (c : Int × Nat) (L : List (Int × Nat)) (X : Int -> Int) (i : Int) : tap (c :: L) X i = c.1 * X (i - (c.2 : Int)) + tap L X i := by
 unfold tap
 rw [List.map_cons, List.sum_cons]
theorem g6o (L : List (Int × Nat)) (k s : Int) (X Y : Int -> Int) (i : Int) : tap L (fun j => k * X (j - s) + Y j) i = k * tap L X (i - s) + tap L Y i := by
 induction L with
 | nil => show (0 : Int) = k * 0 + 0; rw [Int.mul_zero]; rfl
 | cons c L ih =>
  rw [c4n, c4n, c4n, ih]
  rw [show i - s - (c.2 : Int) = i - (c.2 : Int) - s by omega]
  grind
theorem g2t (L M : List (Int × Nat)) (X : Int -> Int) : tap L (tap M X) = tap M (tap L X) := by
 funext i
 induction L generalizing i with
 | nil =>
  show (0 : Int) = tap M (fun _ => 0) i
  unfold tap
  induction M with
  | nil => rfl
  | cons c M ih => rw [List.map_cons, List.sum_cons, <- ih]; simp
 | cons c L ih =>
  rw [c4n, ih, <- g6o]
  congr 1
theorem d7j (d : Dt) : ∀ (ds : List Dt) (X : Int -> Int), f3o ds (tap (d1w d) X) = tap (d1w d) (f3o ds X)
 | [], X => rfl
 | e :: ds, X => by
  show f3o ds (tap (d1w e) (tap (d1w d) X)) = tap (d1w d) (f3o ds (tap (d1w e) X))
  rw [g2t, d7j d ds]
theorem f1s (ds : List Dt) (i : Nat) (d : Dt) (X : Int -> Int) : f3o (ds.take i ++ d :: ds.drop i) X = tap (d1w d) (f3o ds X) := by
 unfold f3o
 rw [List.foldl_append, List.foldl_cons]
 have h := d7j d (ds.drop i) (f3o (ds.take i) X)
 unfold f3o at h
 rw [h]
 congr 1
 conv => rhs; rw [<- List.take_append_drop i ds, List.foldl_append]
theorem c9v (c : Int) : ∀ (ds : List Dt) (b : Int), a8n (b * c) ds = a8n b ds * c
 | [], b => rfl
 | e :: ds, b => by
  show a8n (b * c * b3t e) ds = a8n (b * b3t e) ds * c
  rw [<- c9v c ds, Int.mul_right_comm]
theorem d2k (ds : List Dt) (i : Nat) (d : Dt) (b : Int) : a8n b (ds.take i ++ d :: ds.drop i) = a8n b ds * b3t d := by
 unfold a8n
 rw [List.foldl_append, List.foldl_cons]
 have h := c9v (b3t d) (ds.drop i) (a8n b (ds.take i))
 unfold a8n at h
 rw [h]
 congr 1
 conv => rhs; rw [<- List.take_append_drop i ds, List.foldl_append]
theorem g0i {xs : List Int} {i : Int} (h : i < 0) : b8p xs i = 0 := if_pos h
theorem g2u {L : List (Int × Nat)} {X : Int -> Int} {i : Int} (h : ∀ j, j <= i -> X j = 0) : tap L X i = 0 := by
 induction L with
 | nil => rfl
 | cons c L ih => rw [c4n, ih, h _ (by omega), Int.mul_zero]; rfl
theorem g2v (d : Dt) (xs : List Int) {i : Int} (hi : i < (xs.length : Int)) : b8p (outs d [] xs) i = tap (d1w d) (b8p xs) i := by
 rcases (by omega : i < 0 \/ 0 <= i) with h | h
 ·rw [g0i h, g2u fun j hj => g0i (by omega)]
 ·obtain ⟨k, rfl⟩ : ∃ k : Nat, i = k := ⟨i.toNat, by omega⟩
  rw [b8p, if_neg (by omega), Int.toNat_natCast, b4w (by omega), List.nil_append, List.length_nil, Nat.zero_add]
theorem g0j : ∀ (ds : List Dt) (xs : List Int) (X : Int -> Int), (∀ i, i < (xs.length : Int) -> b8p xs i = X i) -> ∀ i, i < (xs.length : Int) -> b8p (run ds xs) i = f3o ds X i
 | [], xs, X, h, i, hi => h i hi
 | d :: ds, xs, X, h, i, hi => by
  refine g0j ds (outs d [] xs) (tap (d1w d) X) (fun j hj => ?_) i (by rw [a3o]; exact hi)
  rw [a3o] at hj
  rw [g2v d xs hj]
  exact d6s fun k hk => h k (by omega)
theorem h2d {xs : List Int} {k : Nat} : b8p xs (k : Int) = xs.getD k 0 := by
 unfold b8p
 rw [if_neg (by omega), Int.toNat_natCast]
theorem g0k (n : Nat) (X : Int -> Int) (i : Int) : tap (d1w (.delay n)) X i = X (i - n) := by
 show 1 * X (i - (n : Int)) + 0 = _
 rw [Int.one_mul, Int.add_zero]
theorem g2w (y : Rat) (X : Int -> Int) (i : Int) : tap (d1w (.gain y)) X i = y.num * X i := by
 show y.num * X (i - ((0 : Nat) : Int)) + 0 = _
 rw [Int.add_zero, show i - ((0 : Nat) : Int) = i by omega]
theorem g2x (y : Rat) (n : Nat) (X : Int -> Int) (i : Int) : tap (d1w (.back y n)) X i = (y.den : Int) * X i - y.num * X (i - n) := by
 show (y.den : Int) * X (i - ((0 : Nat) : Int)) + (-y.num * X (i - (n : Int)) + 0) = _
 rw [Int.add_zero, show i - ((0 : Nat) : Int) = i by omega, Int.neg_mul]
 omega
theorem d7k (p q : Int) (t n : Nat) (X : Int -> Int) (i : Int) : ∀ j, j <= t + 1 -> q * d1v (fun m => X (i - ((m * n : Nat) : Int))) p q t j - p * d1v (fun m => X (i - (n : Int) - ((m * n : Nat) : Int))) p q t j = if j = 0 then 0 else q ^ (t + 1) * X i - p ^ j * q ^ (t + 1 - j) * X (i - ((j * n : Nat) : Int))
 | 0, _ => by
  rw [if_pos rfl, d1v, d1v]
  omega
 | j + 1, h => by
  have ih := d7k p q t n X i j (by omega)
  rw [if_neg (by omega), d1v, d1v]
  have e1 : i - (n : Int) - ((j * n : Nat) : Int) = i - (((j + 1) * n : Nat) : Int) := by
   rw [Nat.succ_mul]
   omega
  rw [e1]
  unfold f8o
  have e2 : t + 1 - (j + 1) = t - j := by omega
  rw [e2]
  generalize hA : d1v (fun m => X (i - ((m * n : Nat) : Int))) p q t j = SA at ih ⊢
  generalize hB : d1v (fun m => X (i - (n : Int) - ((m * n : Nat) : Int))) p q t j = SB at ih ⊢
  have e3 : t + 1 - j = (t - j) + 1 := by omega
  rw [e3] at ih
  by_cases hj : j = 0
  ·subst hj
   rw [if_pos rfl] at ih
   rw [Nat.zero_mul, show i - ((0 : Nat) : Int) = i by omega, Int.pow_succ q t]
   generalize X i = x0
   generalize X (i - (((0 + 1) * n : Nat) : Int)) = x1
   rw [Nat.sub_zero]
   generalize q ^ t = qt
   rw [Int.pow_zero, show (0 : Nat) + 1 = 1 from rfl, Int.pow_succ, Int.pow_zero]
   grind
  ·rw [if_neg hj] at ih
   generalize X (i - ((j * n : Nat) : Int)) = x0 at ih ⊢
   generalize X (i - (((j + 1) * n : Nat) : Int)) = x1
   generalize q ^ (t + 1) * X i = z at ih ⊢
   rw [Int.pow_succ p j]
   rw [Int.pow_succ q (t - j)] at ih
   generalize p ^ j = pj at ih ⊢
   generalize q ^ (t - j) = qt at ih ⊢
   grind
theorem g0l (y : Rat) (n t : Nat) (X : Int -> Int) (i : Int) : tap (d1w (.back y n)) (tap (d1w (.echo y n t)) X) i = (y.den : Int) ^ (t + 1) * X i - y.num ^ (t + 1) * X (i - (((t + 1) * n : Nat) : Int)) := by
 rw [g2x]
 show (y.den : Int) * tap ((List.range (t + 1)).map _) X i - y.num * tap ((List.range (t + 1)).map _) X (i - n) = _
 rw [c0r, c0r, d7k y.num (y.den : Int) t n X i (t + 1) (Nat.le_refl _), if_neg (by omega), Nat.sub_self, Int.pow_zero, Int.mul_one]
theorem h2e (y m : Rat) (n t f i j : Nat) (X : Int -> Int) (k : Int) : f3o (d0p (d0p [.echo y n t, .back y n] i (.gain m)) j (.delay f)) X k = m.num * ((y.den : Int) ^ (t + 1) * X (k - f) - y.num ^ (t + 1) * X (k - f - (((t + 1) * n : Nat) : Int))) := by
 unfold d0p
 rw [f1s, f1s, g0k, g2w]
 show m.num * tap (d1w (.back y n)) (tap (d1w (.echo y n t)) X) (k - f) = _
 rw [g0l]
theorem g2y (y m : Rat) (n t f i j : Nat) (b : Int) : a8n b (d0p (d0p [.echo y n t, .back y n] i (.gain m)) j (.delay f)) = b * (y.den : Int) ^ (t + 1) * (m.den : Int) := by
 unfold d0p
 rw [d2k, d2k]
 show b * (y.den : Int) ^ t * (y.den : Int) * (m.den : Int) * 1 = _
 rw [Int.mul_one, Int.pow_succ, Int.mul_assoc b]
theorem g2z (T : Tx K mg A) : a1n P A.wd K mg base CX0 2 A.a7p A.b9r ["_law_found", "_law_block", "_law_row", "_law_start", "_law_told"] f9g := by
 have c9w : a1n P A.wd K mg base CX0 1 _ _ _ _ := g2n T
 have c9y : a1n P A.wd K mg base CX0 1 _ _ _ _ := g2r T
 have d7l : a1n P A.wd K mg base CX0 1 _ _ _ _ := h2c T
 refine T.b0v.ok a1r (fun vs H Q E h => ?_) (fun cdv A' outer s H vs Q E hr h => ?_)
 ·match vs, h with
  | [.ref r, .ref bl, .ref rw, .int st, .ref tl], _ => rfl
 ·match vs, h with
  | [.ref r, .ref bl, .ref rw, .int st, .ref tl], ⟨lo, pg, pm, G, b, fs, bs, row, y, m, s0, n, t, far, hr', hlo, hbl, lf, hrw, es, sl, rl, htl, hg, hm, oy, om, n1, t1, f1, G1, bG, bb, bf, br, eq, q⟩ =>
  subst es
  have hu := hr.units
  have c6t : a2y 1 _ := hr.mono (by decide)
  have c6u : a2y 1 _ := hr.mono (by decide)
  have d2l : a2y 1 _ := hr.mono (by decide)
  unfold d8j at hg hm
  have G1' : ¬ G < 1 := by omega
  have le : ((fs.length : Nat) : Int) = ((bs.length : Nat) : Int) := by rw [lf]
  refine ⟨_, (a0i (g7u (pvF 4) (f7q (n := 6) rfl (b1k (a6v (i := 5) a1r.nd rfl (Or.inl rfl)) (b1k (a6v (i := 6) a1r.nd rfl (Or.inl rfl)) (b1k (a6v (i := 7) a1r.nd rfl (Or.inl rfl)) (b1k (a6v (i := 8) a1r.nd rfl (Or.inl rfl)) (b1k (a6v (i := 9) a1r.nd rfl (Or.inl rfl)) (b1k (a6v (i := 10) a1r.nd rfl (Or.inl rfl)) f0t))))))))
   (a0i (a9s (pw_or (b8l (a6w (a0w (b1w .tup) (by rfl) T.a1u boot_isinstance (a0g (pvF 0) (a0g (b6s (v := .ty "tuple") (u := .type "tuple") (by rfl) T.c2u rfl rfl) a0j))))) (pw_or (a2h (c3r hu) (a0w a2o (by rfl) T.b4g boot_len (a0g (pvF 0) a0j)) a0k (a3r _)) (pw_or1 (b8l (a6w (a0w (b1w .lst) (by rfl) T.a1u boot_isinstance (a0g (a1o a6s (pvF 0) a0k (fun _ _ => rfl)) (a0g (b6s (v := .ty "list") (u := .type "list") (by rfl) T.c1y rfl rfl) a0j)))))))).pt
   (a0l (a1h d7q))
   a2g)
   (a0i (a9s (pw_or (b8l (a6w (a0n c9w c6t (by rfl) T.c8r T.b0t.kp T.b7q .nil a1g (a0g (a1o a6s (pvF 0) a0k (fun _ _ => rfl)) a0j)))) (pw_or (a2h of_lt (a1o a6s (pvF 0) a0k (fun _ _ => rfl)) a0k (a3r _)) (pw_or1 (a2h (c3r hu) (a0w a2o (by rfl) T.b4g boot_len (a0g (a1o a6s (pvF 0) a0k (fun _ _ => rfl)) a0j)) (a0w a2o (by rfl) T.b4g boot_len (a0g (pvF 1) a0j)) (a3r _))))).pt
   (a0l (a1h d7q))
   a2g)
   (a0i (a0t (i := 11) a1r.nd rfl (Or.inl rfl) (a0n c9y c6u (by rfl) T.c8s T.b0u.kp T.b7t .nil a1g (a0g (a1o a6s (pvF 5) a0k (fun _ _ => rfl)) (a0g (a0s a1p (pvF 8) a0k) a0j))))
   (b2w (a0t (i := 12) a1r.nd rfl (Or.inl rfl) (a0n c9y c6u (by rfl) T.c8s T.b0u.kp T.b7t .nil a1g (a0g (a1o a6s (pvF 5) a0k (fun _ _ => rfl)) (a0g (a0s a1p (pvF 8) a0k) a0j))))
   (a0i (c1z PassesOwn.never rfl (b2k (by rfl) T.b3s (a0g (a0w a2o (by rfl) T.b4g boot_len (a0g (pvF 1) a0j)) a0j)) (a6v (i := 13) a1r.nd rfl (Or.inl rfl))
   (a0i (a0t (i := 14) a1r.nd rfl (Or.inl rfl) (a0s c3s (a0s a1p (pvF 3) (pvF 13)) (pvF 9)))
   (a0i (a0t (i := 15) a1r.nd rfl (Or.inl rfl) (a0s c3s (a0s a3s (a0n d7l d2l (by rfl) T.d6m T.b6o.kp T.c4j .nil a1g (a0g (pvF 2) (a0g (pvF 14) a0j))) (pvF 12)) (a0s a3s (pvF 11) (a0n d7l d2l (by rfl) T.d6m T.b6o.kp T.c4j .nil a1g (a0g (pvF 2) (a0g (a0s c3s (pvF 14) (a0s a3s (a0s a1p (pvF 8) a0k) (pvF 7))) a0j))))))
   (a0i (a9s (b8l (a6w (a0n c9w c6t (by rfl) T.c8r T.b0t.kp T.b7q .nil a1g (a0g (a1o a6s (a1o a6s (pvF 0) a0k (fun _ _ => rfl)) (pvF 13) (fun _ _ => rfl)) a0j))))
   (a0l (a1h d7q))
   a2g)
   (a0i (a0t (i := 16) a1r.nd rfl (Or.inl rfl) (a0s a3s (a0s a3s (a0s a3s (a1o a6s (a1o a6s (pvF 0) a0k (fun _ _ => rfl)) (pvF 13) (fun _ _ => rfl)) (pvF 10)) (pvF 12)) (a1o a6s (pvF 6) a0k (fun _ _ => rfl))))
   (a0l (a9s (a2h (c3r hu) (pvF 16) (a0s a3s (a0s a3s (a1o a6s (pvF 6) a0k (fun _ _ => rfl)) (pvF 15)) (a1o a6s (pvF 0) a0k (fun _ _ => rfl))) (a3r _))
   (a0l (a1h d7q))
   a2g)))))))
   (a0l (a1h d7q)))))))), ?_⟩
  walk_at "rd*"
  rw [if_neg (by decide)]
  refine ⟨t + 1, by omega, by omega, oy.b.1, ?_⟩
  obtain ⟨Mid, min', mout⟩ := g1i (fun σ' H' => σ' = [some (.ref r), some (.ref bl), some (.ref rw), some (.int s0), some (.ref tl), some (.ref pg), some (.ref pm), some (.int n), some (.int t), some (.int far), some (.int b), some (.int (y.num ^ (t + 1))), some (.int ((y.den : Int) ^ (t + 1))), none, none, none, none] /\ H' = H)
  refine ⟨Mid, ?_, ?_⟩
  ·walk_at "rd*"
   refine ⟨t + 1, by omega, by omega, oy.b.2, min' _ _ ⟨rfl, rfl⟩⟩
  intro σ' H' hmid
  obtain ⟨rfl, rfl⟩ := mout _ _ hmid
  clear hmid min' mout
  have bu : intBits (y.num ^ (t + 1)) <= 1 + 10 * 17 := Nat.le_trans (b4v oy.b.1 (t + 1)) (by omega)
  have bd : intBits ((y.den : Int) ^ (t + 1)) <= 1 + 10 * 17 := Nat.le_trans (b4v oy.b.2 (t + 1)) (by omega)
  obtain ⟨up, eu⟩ : ∃ z, y.num ^ (t + 1) = z := ⟨_, rfl⟩
  obtain ⟨dn, ed⟩ : ∃ z, (y.den : Int) ^ (t + 1) = z := ⟨_, rfl⟩
  rw [eu] at bu eq ⊢
  rw [ed] at bd eq ⊢
  walk_at "rd*"
  obtain ⟨Pv, pin, pout⟩ := f7j (fun i σ H1 => ∃ (v13 v14 v15 v16 : Option V), σ = [some (.ref r), some (.ref bl), some (.ref rw), some (.int s0), some (.ref tl), some (.ref pg), some (.ref pm), some (.int n), some (.int t), some (.int far), some (.int b), some (.int up), some (.int dn), v13, v14, v15, v16] /\ H1 = H')
  refine ⟨by omega, by omega, ?_⟩
  rw [Int.toNat_natCast]
  refine c1m (n := bs.length) Pv (pin _ _ _ ⟨_, _, _, _, rfl, rfl⟩) ?_ ?_
  ·intro i σ H1 hi hp
   obtain ⟨v13, v14, v15, v16, rfl, rfl⟩ := pout _ _ _ hp
   have ei := eq i (by omega)
   have ea : (s0 : Int) + (i : Int) - (far : Int) = ((s0 + i : Nat) : Int) - (far : Int) := by omega
   have et : ((t : Int) + 1) * (n : Int) = (((t + 1) * n : Nat) : Int) := by rw [Int.natCast_mul]; rfl
   rw [Int.zero_add]
   walk_at "rd*"
   have at' := d0q (ns := fs) (i := i) (by omega)
   have fb : intBits (fs.getD i 0) <= 2000 := bf _ (getD_mem (by omega))
   have s1 := d4i br (by decide) (((s0 + i : Nat) : Int) - far)
   have s2 := d4i br (by decide) (((s0 + i : Nat) : Int) - far - (((t + 1) * n : Nat) : Int))
   have p1 := intBits_mul_le fb bb
   have p2 := intBits_mul_le p1 bd
   have p3 : intBits (b8p row (((s0 + i : Nat) : Int) - far) * dn - up * b8p row (((s0 + i : Nat) : Int) - far - (((t + 1) * n : Nat) : Int))) <= 300 := Nat.le_trans (intBits_sub_le (intBits_mul_le s1 bd) (Nat.le_trans (intBits_mul_le bu s2) (by decide : 1 + 10 * 17 + 64 <= 64 + (1 + 10 * 17)))) (by decide)
   refine ⟨row, rfl, by omega, IntMulOk.of_le s1 bd (by decide), IntMulOk.of_left (intBits_le_64 (by omega) (by omega)), row, rfl, by omega, IntMulOk.of_le bu s2 (by decide), _, at', _, at', IntMulOk.of_right bb, IntMulOk.of_le p1 bd (by decide), IntMulOk.of_right (Nat.le_trans om.b.2 (by decide)), IntMulOk.of_left (Nat.le_trans om.b.1 (by decide)), IntMulOk.of_le (intBits_mul_le om.b.1 p3) bG (by decide), ?_⟩
   rw [if_neg (not_not_intro ei)]
   exact pin _ _ _ ⟨_, _, _, _, rfl, rfl⟩
  ·intro σ H1 hp
   obtain ⟨v13, v14, v15, v16, rfl, rfl⟩ := pout _ _ _ hp
   walk_at "rd"
   exact q
theorem f1t (ds : List Dt) (i : Nat) (d : Dt) : (d0p ds i d).length = ds.length + 1 := by
 unfold d0p
 rw [List.length_append, List.length_cons, List.length_take, List.length_drop]
 omega
theorem f1u {ds : List Dt} {i : Nat} {d e : Dt} (h : d ∈ d0p ds i e) : d = e \/ d ∈ ds := by
 rcases List.mem_append.mp h with h | h
 ·exact .inr (List.mem_of_mem_take h)
 ·rcases List.mem_cons.mp h with h | h
  ·exact .inl h
  ·exact .inr (List.mem_of_mem_drop h)
theorem g6p {ds : List Dt} {xs ys : List Int} {X : Int -> Int} (h : ∀ i : Int, i < ((xs ++ ys).length : Int) -> b8p (xs ++ ys) i = X i) {i : Nat} (hi : i < ys.length) : (blk ds xs ys).getD i 0 = f3o ds X ((xs.length + i : Nat) : Int) := by
 rw [<- g0j ds (xs ++ ys) X h _ (by rw [List.length_append]; omega), h2d, c9o, <- d9q ds xs, getD_at]
theorem h7r {ds : List Dt} {y m : Rat} {n t f : Nat} {b : Int} {xs ys row : List Int} (co : ∀ (X : Int -> Int) (k : Int), f3o ds X k = m.num * ((y.den : Int) ^ (t + 1) * X (k - f) - y.num ^ (t + 1) * X (k - f - (((t + 1) * n : Nat) : Int)))) (cg : ∀ b : Int, a8n b ds = b * (y.den : Int) ^ (t + 1) * (m.den : Int))
  (hx : ∀ i : Int, i < ((xs ++ ys).length : Int) -> b8p (xs ++ ys) i = b8p row i) (i : Nat) (hi : i < ys.length) : (blk ds xs ys).getD i 0 * b * (y.den : Int) ^ (t + 1) * (m.den : Int) = m.num * (b8p row (((xs.length + i : Nat) : Int) - f) * (y.den : Int) ^ (t + 1) - y.num ^ (t + 1) * b8p row (((xs.length + i : Nat) : Int) - f - (((t + 1) * n : Nat) : Int))) * a8n b ds := by
 rw [g6p hx hi, co, cg]
 generalize b8p row (((xs.length + i : Nat) : Int) - f) = x1
 generalize b8p row (((xs.length + i : Nat) : Int) - f - (((t + 1) * n : Nat) : Int)) = x2
 generalize (y.den : Int) ^ (t + 1) = dn
 generalize y.num ^ (t + 1) = up
 grind
theorem h2f (T : Tx K mg A) : a1n P A.wd K mg base CX0 12 A.d8v A.f7z ["_law_script"] (d7y 63 K) := by
 have a4w : a1n P A.wd K mg base CX0 1 _ _ _ _ := g6m T
 have d2m : a1n P A.wd K mg base CX0 2 _ _ _ _ := g2o T
 have f4m : a1n P A.wd K mg base CX0 1 _ _ _ _ := g2q T
 have d9u : a1n P A.wd K mg base CX0 2 _ _ _ _ := g2s T
 have c9z : a1n P A.wd K mg base CX0 2 _ _ _ _ := g2z T
 have d7m : a1n P A.wd K mg base CX0 10 _ _ _ _ := g2m T
 have c0t : a1n P A.wd K mg base CX0 3 _ _ _ _ := g6l T
 have b4u := T.b4u
 have a1v := T.a1v
 have a1q := T.a1q
 refine T.g1v.ok b1l (fun vs H Q E h => ?_) (fun cdv A' outer s H vs Q E hr h => ?_)
 ·obtain ⟨a, ns, rfl, _⟩ := h
  rfl
 ·obtain ⟨a, ns, rfl, hS, hl, hbit, hO, q⟩ := h
  have hu := hr.units
  have a3q : a2y 1 _ := hr.mono (by decide)
  have d0g : a2y 2 _ := hr.mono (by decide)
  have d9v : a2y 1 _ := hr.mono (by decide)
  have d7n : a2y 2 _ := hr.mono (by decide)
  have c6v : a2y 2 _ := hr.mono (by decide)
  have d4o : a2y 11 _ := hr.mono (by decide)
  have b8q : a2y 3 _ := hr.mono (by decide)
  have hs : sizeLine = 16777216 := sizeLine_eq
  have bc : ∀ k : Nat, intBits (ns.getD k 0) <= 1100000 := fun k => Nat.le_trans (f7h hbit k) (by decide)
  refine ⟨_, (b2w (a0t (i := 1) b1l.nd rfl (Or.inl rfl) (a0s a6r (a0s a3s (a0n a4w a3q (by rfl) T.a4t T.a1z.kp T.a2t .nil a1g (a0g (pvF 0) (a0g a0k a0j))) a0k) a0k))
   (a0i (a0t (i := 2) b1l.nd rfl (Or.inl rfl) (f5n (d5p hu) (a0s a6r (pvF 1) a0k) a0k (a3r _)))
   (a0i (a0t (i := 3) b1l.nd rfl (Or.inl rfl) (a0n d2m d0g (by rfl) T.d1t T.b2t.kp T.c1r .nil a1g (a0g (a0n a4w a3q (by rfl) T.a4t T.a1z.kp T.a2t .nil a1g (a0g (pvF 0) (a0g a0k a0j))) (a0g (pvF 2) a0j))))
   (b2w (a0t (i := 4) b1l.nd rfl (Or.inl rfl) (a0n d2m d0g (by rfl) T.d1t T.b2t.kp T.c1r .nil a1g (a0g (a0n a4w a3q (by rfl) T.a4t T.a1z.kp T.a2t .nil a1g (a0g (pvF 0) (a0g a0k a0j))) (a0g (pvF 2) a0j))))
   (a0i (a0t (i := 5) b1l.nd rfl (Or.inl rfl) (a0s a1p a0k (a0s a6r (a0s a8r (pvF 1) a0k) a0k)))
   (b2w (a9s (a2h (d5p hu) (a0s a6r (a0s a8r (pvF 1) a0k) a0k) a0k (a3r _))
   (a0l (a0t (i := 5) b1l.nd rfl (Or.inl rfl) (a0s a1p a0k (a0s a6r (a0s a8r (pvF 1) a0k) a0k))))
   a2g)
   (a0i (a0t (i := 6) b1l.nd rfl (Or.inl rfl) (a0s a6r (a0n a4w a3q (by rfl) T.a4t T.a1z.kp T.a2t .nil a1g (a0g (pvF 0) (a0g a0k a0j))) a0k))
   (a0i (a0t (i := 7) b1l.nd rfl (Or.inl rfl) (a0s a6r (a0s a8r (a0n a4w a3q (by rfl) T.a4t T.a1z.kp T.a2t .nil a1g (a0g (pvF 0) (a0g a0k a0j))) a0k) a0k))
   (b2w (a0t (i := 8) b1l.nd rfl (Or.inl rfl) (a0s a1p a0k (a0s a6r (a0n a4w a3q (by rfl) T.a4t T.a1z.kp T.a2t .nil a1g (a0g (pvF 0) (a0g a0k a0j))) a0k)))
   (a0i (f7i (i := 9) b1l.nd rfl rfl (c3t (a6h h3x (pvF 0) (a5n a0k) (a5n a0k))) (fun _ _ _ _ _ => (a0n f4m d9v (by rfl) T.f3l T.b6n.kp T.c5q .nil a1g (a0g (pvF 0) a0j))) (d8i (sc := a0h d8p) (N := ["_law_script", "_law_head", "_law_great", "_law_gain_here", "_law_more", "_law_many", "_law_turns", "_law_far", "_law_bottom", "_law_row", "_law_at", "_law_told", "_law_words_here", "_law_chain", "_law_found"]) rfl rfl (by decide +kernel)) rfl)
   (b2w (a0t (i := 10) b1l.nd rfl (Or.inl rfl) (a0s a6r (a0s a8r (a0n a4w a3q (by rfl) T.a4t T.a1z.kp T.a2t .nil a1g (a0g (pvF 0) (a0g a0k a0j))) a0k) (a0s a1p (a0w a2o (by rfl) T.b4g boot_len (a0g (pvF 9) a0j)) a0k)))
   (a0i (a0t (i := 11) b1l.nd rfl (Or.inl rfl) (b4z (a0g (pvF 3) (a0g (pvF 4) (a0g (pvF 5) (a0g (pvF 6) (a0g (pvF 7) (a0g (pvF 8) a0j))))))))
   (a0i (a0t (i := 12) b1l.nd rfl (Or.inl rfl) (a0n d9u d7n (by rfl) T.d8w T.b3r.kp T.c2t .nil a1g (a0g (pvF 3) (a0g (pvF 4) (a0g (pvF 5) (a0g (pvF 6) (a0g (pvF 7) (a0g (a0s a6r (a0s a8r (pvF 1) a0k) a0k) a0j))))))))
   (b2w (a0t (i := 13) b1l.nd rfl (Or.inl rfl) (c4g T.g6a d7m d4o (by rfl) T.c4l T.c0m .nil a1g (a0g (pvF 12) a0j)))
   (a0i (a0t (i := 14) b1l.nd rfl (Or.inl rfl) (c1p (pvF 13) T.b4u T.b8o c0t b8q T.a9m .nil a1g (a0g (a6h f4p (pvF 9) b1p (a5n (pvF 10))) (a0g (pvF 8) a0j))))
   (a0i (a9s (b8l (a6w (a0n c9z c6v (by rfl) T.c8t T.b0v.kp T.b7u .nil a1g (a0g (pvF 14) (a0g (a6h f4p (pvF 9) b1p (a5n (pvF 10))) (a0g (pvF 9) (a0g a0k (a0g (pvF 11) a0j))))))))
   (a0l (a1h d7q))
   a2g)
   (a0i (a0t (i := 14) b1l.nd rfl (Or.inl rfl) (c1p (pvF 13) T.b4u T.b8o c0t b8q T.a9m .nil a1g (a0g (a6h f4p (pvF 9) (a5n (pvF 10)) b1p) (a0g (pvF 8) a0j))))
   (a0l (a1h (a0n c9z c6v (by rfl) T.c8t T.b0v.kp T.b7u .nil a1g (a0g (pvF 14) (a0g (a6h f4p (pvF 9) (a5n (pvF 10)) b1p) (a0g (pvF 9) (a0g (pvF 10) (a0g (pvF 11) a0j))))))))))))))))))))))))), ?_⟩
  obtain ⟨Mid0, in0, out0⟩ := g1i (fun σ' H' => ∃ hd : Int, σ' = [some (.ref a), some (.int hd), none, none, none, none, none, none, none, none, none, none, none, none, none] /\ H' = H /\ 0 <= hd /\ hd < 999979)
  refine ⟨Mid0, ?_, ?_⟩
  ·walk_at "rd"
   have f := b1v (ns.getD 0 0 * 16807) (b := 999979) (by decide)
   exact ⟨ns, hS, IntMulOk.of_right (by decide), in0 _ _ ⟨_, rfl, rfl, f.1, f.2⟩⟩
  intro σ0 H0 hm0
  obtain ⟨hd, rfl, rfl, hd0, hd1⟩ := out0 _ _ hm0
  clear hm0 in0 out0
  walk_at "rd"
  refine ⟨ns, hS, bc 2, fun y pg H1 oy n1 S1 h1 => ?_⟩
  obtain ⟨Mid3, in3, out3⟩ := g1i (fun σ' H' => ∃ (pm : Addr) (m : Rat) (g : Bool), σ' = [some (.ref a), some (.int hd), some (.bl g), some (.ref pg), some (.ref pm), none, none, none, none, none, none, none, none, none, none] /\ Same H1 H' /\ H' pm = some (.tup (d8j m)) /\ YOk m)
  refine ⟨Mid3, ?_, ?_⟩
  ·walk_at "rd"
   exact ⟨ns, S1.seq hS, bc 3, fun m pm H2 om n2 S2 h2 => in3 _ _ ⟨pm, m, _, rfl, S2, h2, om⟩⟩
  intro σ3 H3 hm3
  obtain ⟨pm, m, g, rfl, S3, hpm, om⟩ := out3 _ _ hm3
  clear hm3 in3 out3
  have hpg := S3 _ _ h1
  have S03 := S1.trans S3
  have f9 := b1v (hd.fdiv 3) (b := 9) (by decide)
  have f60 := b1v (hd.fdiv 162) (b := 60) (by decide)
  walk_at "rd"
  obtain ⟨Mid5, in5, out5⟩ := g1i (fun σ' H' => ∃ n : Nat, σ' = [some (.ref a), some (.int hd), some (.bl g), some (.ref pg), some (.ref pm), some (.int n), none, none, none, none, none, none, none, none, none] /\ H' = H3 /\ 1 <= n /\ n <= 60)
  refine ⟨⟨by decide, by decide⟩, Mid5, ?_, ?_⟩
  ·walk_at "rd"
   refine ⟨⟨by decide, by decide⟩, ?_⟩
   split
   ·exact ⟨⟨by decide, by decide⟩, in5 _ _ ⟨(1 + (hd.fdiv 162).fmod 60).toNat, by rw [Int.toNat_of_nonneg (by omega)], rfl, by omega, by omega⟩⟩
   ·exact in5 _ _ ⟨(1 + (hd.fdiv 3).fmod 9).toNat, by rw [Int.toNat_of_nonneg (by omega)], rfl, by omega, by omega⟩
  intro σ5 H5 hm5
  obtain ⟨n, rfl, rfl, n1', n2'⟩ := out5 _ _ hm5
  clear hm5 in5 out5 f9 f60
  walk_at "rd"
  have hS5 := S03.seq hS
  refine ⟨ns, hS5, ns, hS5, ⟨by decide, by decide⟩, ?_⟩
  have f17 := b1v (ns.getD 1 0) (b := 17) (by decide)
  have f6 := b1v ((ns.getD 1 0).fdiv 17) (b := 6) (by decide)
  have f9 := b1v (ns.getD 4 0) (b := 9) (by decide)
  obtain ⟨Mid8, in8, out8⟩ := g1i (fun σ' H' => ∃ (t f : Nat) (b : Int), σ' = [some (.ref a), some (.int hd), some (.bl g), some (.ref pg), some (.ref pm), some (.int n), some (.int t), some (.int f), some (.int b), none, none, none, none, none, none] /\ H' = H5 /\ t <= 16 /\ f <= 5 /\ 1 <= b /\ b <= 9)
  refine ⟨Mid8, ?_, ?_⟩
  ·walk_at "rd"
   exact ⟨ns, hS5, in8 _ _ ⟨((ns.getD 1 0).fmod 17).toNat, (((ns.getD 1 0).fdiv 17).fmod 6).toNat, _, by rw [Int.toNat_of_nonneg (by omega), Int.toNat_of_nonneg (by omega)], rfl, by omega, by omega, by omega, by omega⟩⟩
  intro σ8 H8 hm8
  obtain ⟨t, f, b, rfl, rfl, t16, f5, b1, b9⟩ := out8 _ _ hm8
  clear hm8 in8 out8 f17 f6 f9
  walk_at "rd"
  refine ⟨_, hS5, fun p9 H9 n9 S9 h9 => ?_⟩
  rw [b1i] at h9
  have hmem : ∀ x ∈ d5s ns (some 5) (some 68), intBits x <= 1100000 := fun x hx => Nat.le_trans (hbit x (g1g hx)) (by decide)
  have ml := g1h ns (some 5) (some 68)
  generalize d5s ns (some 5) (some 68) = ms at h9 hmem ml
  walk_at "rd"
  refine ⟨⟨_, SqL.of h9⟩, fun D H10 n10 S10 h10 => ?_⟩
  refine d5r (fun v => match v with | .int c => .int (f8v c) | v => v) n10 S10 h10 (SqL.of h9) (by rw [List.length_map, sizeLine_eq]; omega) ?_ ?_
  ·intro i x H' Q' hx S' q'
   rw [List.getElem?_map] at hx
   obtain ⟨c, hc, rfl⟩ := Option.map_eq_some_iff.mp hx
   have bx := hmem c (List.mem_of_getElem? hc)
   try walk_at "rd"
   exact ⟨bx, q'⟩
  intro H11 S11 h11
  have e11 : (ms.map V.int).map (fun v : V => match v with | .int c => V.int (f8v c) | v => v) = (ms.map f8v).map V.int := by
   rw [List.map_map, List.map_map]
   rfl
  rw [e11] at h11
  have tb : ∀ x ∈ ms.map f8v, intBits x <= 64 := fun x hx => by
   obtain ⟨c, _, rfl⟩ := List.mem_map.mp hx
   have := g2p c
   exact intBits_le_64 (by omega) (by omega)
  have tl : (ms.map f8v).length <= 63 := by rw [List.length_map]; omega
  generalize ms.map f8v = row at h11 tb tl
  clear h9 h10 e11 hmem
  have h4t : Same H8 H11 := S9.trans S11
  have g6q := h4t _ _ hpg
  have g6r := h4t _ _ hpm
  have fr := b1v ((ns.getD 4 0).fdiv 9) (b := (row.length : Int) + 1) (by omega)
  obtain ⟨Mid10, in10, out10⟩ := g1i (fun σ' H' => ∃ k : Nat, σ' = [some (.ref a), some (.int hd), some (.bl g), some (.ref pg), some (.ref pm), some (.int n), some (.int t), some (.int f), some (.int b), some (.ref D), some (.int k), none, none, none, none] /\ H' = H11 /\ k <= row.length)
  refine ⟨Mid10, ?_, ?_⟩
  ·walk_at "rd*"
   exact ⟨ns, (S03.trans h4t).seq hS, ⟨by decide, by decide⟩, by omega, in10 _ _ ⟨(((ns.getD 4 0).fdiv 9).fmod ((row.length : Int) + 1)).toNat, by rw [Int.toNat_of_nonneg fr.1], rfl, by omega⟩⟩
  intro σ12 H12 hm12
  obtain ⟨k, rfl, rfl, kl⟩ := out10 _ _ hm12
  clear hm12 in10 out10 fr
  walk_at "rd"
  refine ⟨by omega, fun p13 H13 n13 S13 h13 => ?_⟩
  have f12 := b1v (hd.fdiv 10) (b := 12) (by decide)
  walk_at "rd"
  refine ⟨⟨by decide, by decide⟩, y, S13 _ _ g6q, m, S13 _ _ g6r, oy, om, n, rfl, t, rfl, f, rfl, by omega, by omega, by omega, f12.1, fun i j lw H14 n14 S14 h14 => ?_⟩
  have co := h2e y m n t f i j
  have cg := g2y y m n t f i j
  have dl : (d0p (d0p [.echo y n t, .back y n] i (.gain m)) j (.delay f)).length <= 8 := by
   rw [f1t, f1t]
   show 2 + 1 + 1 <= 8
   decide
  have dok : ∀ d ∈ d0p (d0p [.echo y n t, .back y n] i (.gain m)) j (.delay f), d.ok /\ d.kd < 4 := fun d hd => by
   rcases f1u hd with rfl | hd
   ·exact ⟨show f <= 1000 by omega, by simp [Dt.kd]⟩
   rcases f1u hd with rfl | hd
   ·exact ⟨om, by simp [Dt.kd]⟩
   rcases List.mem_cons.mp hd with rfl | hd
   ·exact ⟨⟨oy, by omega, by omega, by omega⟩, by simp [Dt.kd]⟩
   rcases List.mem_cons.mp hd with rfl | hd
   ·exact ⟨⟨oy, by omega, by omega⟩, by simp [Dt.kd]⟩
   ·cases hd
  generalize d0p (d0p [.echo y n t, .back y n] i (.gain m)) j (.delay f) = ds at h14 co cg dl dok
  have h4u := S13.trans S14
  have h4v := h4u _ _ h11
  have h4w := S14 _ _ h13
  have g6s := h4u _ _ g6q
  have g6t := h4u _ _ g6r
  clear h11 h13 g6q g6r hpg hpm h1
  obtain ⟨Mid13, in13, out13⟩ := g1i (fun σ' H' => ∃ o : Addr, σ' = [some (.ref a), some (.int hd), some (.bl g), some (.ref pg), some (.ref pm), some (.int n), some (.int t), some (.int f), some (.int b), some (.ref D), some (.int k), some (.ref p13), some (.ref lw), some (.ref o), none] /\ Same H14 H' /\ H14 o = none /\ ChS A H' o ds [])
  refine ⟨Mid13, ?_, ?_⟩
  ·walk_at "rd"
   intro x dx H15 n15 n15' nx S15 hdx hx
   refine ⟨dx, ds, hx, S15 _ _ h14, dl, dok, fun H16 B16 ch => ?_⟩
   rw [asNew]
   refine ⟨rfl, in13 _ _ ⟨x, rfl, fun z u e => B16 _ _ (fun ze => by rw [ze] at e; rw [e] at n15; cases n15) (S15 _ _ e), n15, ch⟩⟩
  intro σ17 H17 hm17
  obtain ⟨o, rfl, S17, no, ch⟩ := out13 _ _ hm17
  clear hm17 in13 out13
  have h7s := S17 _ _ h4v
  have h7t := S17 _ _ h4w
  have h2g := S17 _ _ g6s
  have h2i := S17 _ _ g6t
  have nD : D ≠ o := fun e => by rw [<- e, h4v] at no; cases no
  have nt : p13 ≠ o := fun e => by rw [<- e, h4w] at no; cases no
  have ng : pg ≠ o := fun e => by rw [<- e, g6s] at no; cases no
  have nm : pm ≠ o := fun e => by rw [<- e, g6t] at no; cases no
  clear h4v h4w g6s g6t h14
  obtain ⟨dx, pl, sl, os, sts, ho, hrest⟩ := id ch
  unfold chF at ho
  walk_at "rd*"
  refine fun l18 H18 n18 S18 h18 => ?_
  rw [b1i, d5t] at h18
  have h2j : intBits b <= 64 := intBits_le_64 (by omega) (by omega)
  have h3c : ∀ d ∈ ds, d.ok := fun d hd => (dok d hd).1
  have h7u := ch.same S18
  have h7v : 1 <= a8n b ds := by
   rw [cg]
   have p1 : 0 < (y.den : Int) ^ (t + 1) := Int.pow_pos (by have := y.den_pos; omega)
   have p2 : 0 < (m.den : Int) := by have := m.den_pos; omega
   exact Int.mul_pos (Int.mul_pos (by omega) p1) p2
  have gbit := c2z (b := b) (B := 64) h3c h2j
  have h7w : ∀ {xs ys : List Int}, (∀ z ∈ xs ++ ys, intBits z <= 64) -> ∀ z ∈ blk ds xs ys, intBits z <= 2000 := fun h z hz => by
   have := c7m (ds := ds) (by decide) h3c h z (by rw [c9o]; exact List.mem_append_right _ hz)
   omega
  walk_at "rd"
  have tkl : (row.take k).length = k := by rw [List.length_take]; omega
  refine ⟨ds, [], h7u, row.take k, h18, dl, h3c, by decide, by omega, h2j, fun z hz => tb z (List.mem_of_mem_take hz), fun rr lo H19 B19 nrr nlo hrr hlo ch19 => ?_⟩
  have h7x := B19 _ _ nD (S18 _ _ h7s)
  have h7y := B19 _ _ nt (S18 _ _ h7t)
  have h2l := B19 _ _ ng (S18 _ _ h2g)
  have h2m := B19 _ _ nm (S18 _ _ h2i)
  clear h7s h7t h2g h2i h18 ho
  walk_at "rd*"
  refine fun l20 H20 n20 S20 h20 => ?_
  rw [b1i, d5t] at h20
  have h4x := S20 _ _ h7x
  have h4y := S20 _ _ h7y
  have g6u := S20 _ _ h2l
  have g6v := S20 _ _ h2m
  have h2n := S20 _ _ hrr
  have h2o := S20 _ _ hlo
  clear h7x h7y h2l h2m hrr hlo
  walk_at "rd"
  have e0 : ∀ j : Int, j < (([] ++ row.take k : List Int).length : Int) -> b8p ([] ++ row.take k) j = b8p row j := fun j hj => by
   rw [List.nil_append] at hj ⊢
   conv => rhs; rw [<- List.take_append_drop k row]
   exact (f9u hj).symm
  have q0 : ∀ i : Nat, i < (blk ds [] (row.take k)).length -> _ := fun i hi => h7r co cg (b := b) e0 i (by rw [c5t] at hi; exact hi)
  have bl0 := c5t ds [] (row.take k)
  refine ⟨lo, pg, pm, _, h2n, b, _, h2o, _, h20, bl0, row, h4x, y, m, 0, rfl, by omega, by omega, n, t, f, h4y, g6u, g6v, oy, om, by omega, t16, by omega, h7v, by omega, h2j, h7w (fun z hz => tb z (List.mem_of_mem_take hz)), tb, q0, ?_⟩
  have h4z := ch19.same S20
  obtain ⟨dx', pl', sl', os', sts', ho', hrest'⟩ := id h4z
  unfold chF at ho'
  clear h2n h2o h20 ch19 h7u ch
  walk_at "rd*"
  refine fun l21 H21 n21 S21 h21 => ?_
  rw [b1i, a8s] at h21
  have h5a := h4z.same S21
  rw [List.nil_append] at h5a
  have tdl : (row.drop k).length = row.length - k := List.length_drop
  walk_at "rd"
  refine ⟨ds, row.take k, h5a, row.drop k, h21, dl, h3c, by omega, by omega, h2j, fun z hz => tb z (by rw [List.take_append_drop] at hz; exact hz), fun rr2 lo2 H22 B22 nrr2 h7q hrr2 hlo2 ch22 => ?_⟩
  have h7z := B22 _ _ nD (S21 _ _ h4x)
  have h8a := B22 _ _ nt (S21 _ _ h4y)
  have h2p := B22 _ _ ng (S21 _ _ g6u)
  have h2q := B22 _ _ nm (S21 _ _ g6v)
  clear h4x h4y g6u g6v h21 ho' h4z h5a ch22
  walk_at "rd*"
  refine fun l23 H23 n23 S23 h23 => ?_
  rw [b1i, a8s] at h23
  have hD23 := S23 _ _ h7z
  have ht23 := S23 _ _ h8a
  have h5b := S23 _ _ h2p
  have h5c := S23 _ _ h2q
  have h5d := S23 _ _ hrr2
  have h5e := S23 _ _ hlo2
  clear h7z h8a h2p h2q hrr2 hlo2
  have e1 : ∀ j : Int, j < ((row.take k ++ row.drop k : List Int).length : Int) -> b8p (row.take k ++ row.drop k) j = b8p row j := fun j hj => by
   rw [List.take_append_drop]
  have q1 : ∀ i : Nat, i < (blk ds (row.take k) (row.drop k)).length -> _ := fun i hi => h7r co cg (b := b) e1 i (by rw [c5t] at hi; exact hi)
  rw [tkl] at q1
  have bl1 := c5t ds (row.take k) (row.drop k)
  walk_at "rd"
  refine ⟨lo2, pg, pm, _, h5d, b, _, h5e, _, h23, bl1, row, hD23, y, m, k, rfl, by omega, by omega, n, t, f, ht23, h5b, h5c, oy, om, by omega, t16, by omega, h7v, by omega, h2j, h7w (fun z hz => tb z (by rw [List.take_append_drop] at hz; exact hz)), tb, q1, ?_⟩
  exact q _
theorem all_mk {l : PySem.W.OpenLaw} {w : World} {K : PySem.W.Frag} {h : Heap} {mg : Str → Option Value} {fa : Addr} (X : K.In h) (G : h.Ns mainGlobals mg) (hfa : mg "law" = some (.ref fa))
  {b8n a3h a1y a1s a2v a3z : Addr}
  (d3j : PySem.W.nsIn K mainGlobals "Part" = some (some (.ref b8n)))
  (c8u : PySem.W.nsIn K mainGlobals "Gain" = some (some (.ref a3h)))
  (c4k : PySem.W.nsIn K mainGlobals "Delay" = some (some (.ref a1y)))
  (c8v : PySem.W.nsIn K mainGlobals "Echo" = some (some (.ref a1s)))
  (c8w : PySem.W.nsIn K mainGlobals "Back" = some (some (.ref a2v)))
  (c4l : PySem.W.nsIn K mainGlobals "Chain" = some (some (.ref a3z)))
  {b0k : Addr} {od_is_whole an_is_whole : Option Addr} {sl_is_whole : Array (Option Value)} {oc_is_whole kV_is_whole dc_is_whole pm_is_whole cd_is_whole ct_is_whole : Value}
  (a_is_whole : PySem.W.nsIn K mainGlobals "is_whole" = some (some (.ref b0k))) (l_is_whole : K.lookup b0k = some ⟨oc_is_whole, od_is_whole, .func (PySem.W.fnOf "is_whole" "is_whole" (a0q b2l) (a0p b2l) (a0h b2l) .none kV_is_whole dc_is_whole pm_is_whole an_is_whole cd_is_whole ct_is_whole), sl_is_whole⟩) (c5v : PySem.W.codeIn K cd_is_whole "is_whole" = true) (k_is_whole : PySem.W.keepIn K (.ref b0k) = true)
  {a5r : Addr} {od_is_figures an_is_figures : Option Addr} {sl_is_figures : Array (Option Value)} {oc_is_figures kV_is_figures dc_is_figures pm_is_figures cd_is_figures ct_is_figures : Value}
  (a_is_figures : PySem.W.nsIn K mainGlobals "is_figures" = some (some (.ref a5r))) (l_is_figures : K.lookup a5r = some ⟨oc_is_figures, od_is_figures, .func (PySem.W.fnOf "is_figures" "is_figures" (a0q a7t) (a0p a7t) (a0h a7t) .none kV_is_figures dc_is_figures pm_is_figures an_is_figures cd_is_figures ct_is_figures), sl_is_figures⟩) (c0u : PySem.W.codeIn K cd_is_figures "is_figures" = true) (k_is_figures : PySem.W.keepIn K (.ref a5r) = true)
  {b0l : Addr} {od_whole_of an_whole_of : Option Addr} {sl_whole_of : Array (Option Value)} {oc_whole_of kV_whole_of dc_whole_of pm_whole_of cd_whole_of ct_whole_of : Value}
  (a_whole_of : PySem.W.nsIn K mainGlobals "whole_of" = some (some (.ref b0l))) (l_whole_of : K.lookup b0l = some ⟨oc_whole_of, od_whole_of, .func (PySem.W.fnOf "whole_of" "whole_of" (a0q b2m) (a0p b2m) (a0h b2m) .none kV_whole_of dc_whole_of pm_whole_of an_whole_of cd_whole_of ct_whole_of), sl_whole_of⟩) (c5w : PySem.W.codeIn K cd_whole_of "whole_of" = true) (k_whole_of : PySem.W.keepIn K (.ref b0l) = true)
  {b3g : Addr} {od_divisor an_divisor : Option Addr} {sl_divisor : Array (Option Value)} {oc_divisor kV_divisor dc_divisor pm_divisor cd_divisor ct_divisor : Value}
  (a_divisor : PySem.W.nsIn K mainGlobals "divisor" = some (some (.ref b3g))) (l_divisor : K.lookup b3g = some ⟨oc_divisor, od_divisor, .func (PySem.W.fnOf "divisor" "divisor" (a0q b5v) (a0p b5v) (a0h b5v) .none kV_divisor dc_divisor pm_divisor an_divisor cd_divisor ct_divisor), sl_divisor⟩) (d0h : PySem.W.codeIn K cd_divisor "divisor" = true) (k_divisor : PySem.W.keepIn K (.ref b3g) = true)
  {b0m : Addr} {od_fraction an_fraction : Option Addr} {sl_fraction : Array (Option Value)} {oc_fraction kV_fraction dc_fraction pm_fraction cd_fraction ct_fraction : Value}
  (a_fraction : PySem.W.nsIn K mainGlobals "fraction" = some (some (.ref b0m))) (l_fraction : K.lookup b0m = some ⟨oc_fraction, od_fraction, .func (PySem.W.fnOf "fraction" "fraction" (a0q b2n) (a0p b2n) (a0h b2n) .none kV_fraction dc_fraction pm_fraction an_fraction cd_fraction ct_fraction), sl_fraction⟩) (c5y : PySem.W.codeIn K cd_fraction "fraction" = true) (k_fraction : PySem.W.keepIn K (.ref b0m) = true)
  {a2z : Addr} {od_fraction_text an_fraction_text : Option Addr} {sl_fraction_text : Array (Option Value)} {oc_fraction_text kV_fraction_text dc_fraction_text pm_fraction_text cd_fraction_text ct_fraction_text : Value}
  (a_fraction_text : PySem.W.nsIn K mainGlobals "fraction_text" = some (some (.ref a2z))) (l_fraction_text : K.lookup a2z = some ⟨oc_fraction_text, od_fraction_text, .func (PySem.W.fnOf "fraction_text" "fraction_text" (a0q a3t) (a0p a3t) (a0h a3t) .none kV_fraction_text dc_fraction_text pm_fraction_text an_fraction_text cd_fraction_text ct_fraction_text), sl_fraction_text⟩) (b3v : PySem.W.codeIn K cd_fraction_text "fraction_text" = true) (k_fraction_text : PySem.W.keepIn K (.ref a2z) = true)
  {a3g : Addr} {od_read_fraction an_read_fraction : Option Addr} {sl_read_fraction : Array (Option Value)} {oc_read_fraction kV_read_fraction dc_read_fraction pm_read_fraction cd_read_fraction ct_read_fraction : Value}
  (a_read_fraction : PySem.W.nsIn K mainGlobals "read_fraction" = some (some (.ref a3g))) (l_read_fraction : K.lookup a3g = some ⟨oc_read_fraction, od_read_fraction, .func (PySem.W.fnOf "read_fraction" "read_fraction" (a0q a3u) (a0p a3u) (a0h a3u) .none kV_read_fraction dc_read_fraction pm_read_fraction an_read_fraction cd_read_fraction ct_read_fraction), sl_read_fraction⟩) (b3w : PySem.W.codeIn K cd_read_fraction "read_fraction" = true) (k_read_fraction : PySem.W.keepIn K (.ref a3g) = true)
  {a5s : Addr} {od_added_rows an_added_rows : Option Addr} {sl_added_rows : Array (Option Value)} {oc_added_rows kV_added_rows dc_added_rows pm_added_rows cd_added_rows ct_added_rows : Value}
  (a_added_rows : PySem.W.nsIn K mainGlobals "added_rows" = some (some (.ref a5s))) (l_added_rows : K.lookup a5s = some ⟨oc_added_rows, od_added_rows, .func (PySem.W.fnOf "added_rows" "added_rows" (a0q a5p) (a0p a5p) (a0h a5p) .none kV_added_rows dc_added_rows pm_added_rows an_added_rows cd_added_rows ct_added_rows), sl_added_rows⟩) (c0v : PySem.W.codeIn K cd_added_rows "added_rows" = true) (k_added_rows : PySem.W.keepIn K (.ref a5s) = true)
  {a7i : Addr} {od_times_row an_times_row : Option Addr} {sl_times_row : Array (Option Value)} {oc_times_row kV_times_row dc_times_row pm_times_row cd_times_row ct_times_row : Value}
  (a_times_row : PySem.W.nsIn K mainGlobals "times_row" = some (some (.ref a7i))) (l_times_row : K.lookup a7i = some ⟨oc_times_row, od_times_row, .func (PySem.W.fnOf "times_row" "times_row" (a0q a6z) (a0p a6z) (a0h a6z) .none kV_times_row dc_times_row pm_times_row an_times_row cd_times_row ct_times_row), sl_times_row⟩) (c3g : PySem.W.codeIn K cd_times_row "times_row" = true) (k_times_row : PySem.W.keepIn K (.ref a7i) = true)
  {b3h : Addr} {od_delayed an_delayed : Option Addr} {sl_delayed : Array (Option Value)} {oc_delayed kV_delayed dc_delayed pm_delayed cd_delayed ct_delayed : Value}
  (a_delayed : PySem.W.nsIn K mainGlobals "delayed" = some (some (.ref b3h))) (l_delayed : K.lookup b3h = some ⟨oc_delayed, od_delayed, .func (PySem.W.fnOf "delayed" "delayed" (a0q b2z) (a0p b2z) (a0h b2z) .none kV_delayed dc_delayed pm_delayed an_delayed cd_delayed ct_delayed), sl_delayed⟩) (d0i : PySem.W.codeIn K cd_delayed "delayed" = true) (k_delayed : PySem.W.keepIn K (.ref b3h) = true)
  {b3i : Addr} {od_last_of an_last_of : Option Addr} {sl_last_of : Array (Option Value)} {oc_last_of kV_last_of dc_last_of pm_last_of cd_last_of ct_last_of : Value}
  (a_last_of : PySem.W.nsIn K mainGlobals "last_of" = some (some (.ref b3i))) (l_last_of : K.lookup b3i = some ⟨oc_last_of, od_last_of, .func (PySem.W.fnOf "last_of" "last_of" (a0q b5w) (a0p b5w) (a0h b5w) .none kV_last_of dc_last_of pm_last_of an_last_of cd_last_of ct_last_of), sl_last_of⟩) (d0j : PySem.W.codeIn K cd_last_of "last_of" = true) (k_last_of : PySem.W.keepIn K (.ref b3i) = true)
  {a2p : Addr} {od_Part_grain an_Part_grain : Option Addr} {sl_Part_grain : Array (Option Value)} {oc_Part_grain kV_Part_grain dc_Part_grain pm_Part_grain cd_Part_grain ct_Part_grain : Value}
  (a_Part_grain : PySem.W.findIn K (.ref b8n) "grain" = some (some (.ref a2p))) (l_Part_grain : K.lookup a2p = some ⟨oc_Part_grain, od_Part_grain, .func (PySem.W.fnOf "grain" "Part.grain" (a0q a7u) (a0p a7u) (a0h a7u) .none kV_Part_grain dc_Part_grain pm_Part_grain an_Part_grain cd_Part_grain ct_Part_grain), sl_Part_grain⟩) (c0w : PySem.W.codeIn K cd_Part_grain "Part.grain" = true) (k_Part_grain : PySem.W.keepIn K (.ref a2p) = true)
  {a0v : Addr} {od_Part_fresh an_Part_fresh : Option Addr} {sl_Part_fresh : Array (Option Value)} {oc_Part_fresh kV_Part_fresh dc_Part_fresh pm_Part_fresh cd_Part_fresh ct_Part_fresh : Value}
  (a_Part_fresh : PySem.W.findIn K (.ref b8n) "fresh" = some (some (.ref a0v))) (l_Part_fresh : K.lookup a0v = some ⟨oc_Part_fresh, od_Part_fresh, .func (PySem.W.fnOf "fresh" "Part.fresh" (a0q a7v) (a0p a7v) (a0h a7v) .none kV_Part_fresh dc_Part_fresh pm_Part_fresh an_Part_fresh cd_Part_fresh ct_Part_fresh), sl_Part_fresh⟩) (c0y : PySem.W.codeIn K cd_Part_fresh "Part.fresh" = true) (k_Part_fresh : PySem.W.keepIn K (.ref a0v) = true)
  {a5t : Addr} {od_Gain_init an_Gain_init : Option Addr} {sl_Gain_init : Array (Option Value)} {oc_Gain_init kV_Gain_init dc_Gain_init pm_Gain_init cd_Gain_init ct_Gain_init : Value}
  (a_Gain_init : PySem.W.findIn K (.ref a3h) "__init__" = some (some (.ref a5t))) (l_Gain_init : K.lookup a5t = some ⟨oc_Gain_init, od_Gain_init, .func (PySem.W.fnOf "__init__" "Gain.__init__" (a0q a9t) (a0p a9t) (a0h a9t) .none kV_Gain_init dc_Gain_init pm_Gain_init an_Gain_init cd_Gain_init ct_Gain_init), sl_Gain_init⟩) (c3h : PySem.W.codeIn K cd_Gain_init "Gain.__init__" = true) (k_Gain_init : PySem.W.keepIn K (.ref a5t) = true)
  {a3k : Addr} {od_Gain_grain an_Gain_grain : Option Addr} {sl_Gain_grain : Array (Option Value)} {oc_Gain_grain kV_Gain_grain dc_Gain_grain pm_Gain_grain cd_Gain_grain ct_Gain_grain : Value}
  (a_Gain_grain : PySem.W.findIn K (.ref a3h) "grain" = some (some (.ref a3k))) (l_Gain_grain : K.lookup a3k = some ⟨oc_Gain_grain, od_Gain_grain, .func (PySem.W.fnOf "grain" "Gain.grain" (a0q a7w) (a0p a7w) (a0h a7w) .none kV_Gain_grain dc_Gain_grain pm_Gain_grain an_Gain_grain cd_Gain_grain ct_Gain_grain), sl_Gain_grain⟩) (c0z : PySem.W.codeIn K cd_Gain_grain "Gain.grain" = true) (k_Gain_grain : PySem.W.keepIn K (.ref a3k) = true)
  {a2l : Addr} {od_Gain_through an_Gain_through : Option Addr} {sl_Gain_through : Array (Option Value)} {oc_Gain_through kV_Gain_through dc_Gain_through pm_Gain_through cd_Gain_through ct_Gain_through : Value}
  (a_Gain_through : PySem.W.findIn K (.ref a3h) "through" = some (some (.ref a2l))) (l_Gain_through : K.lookup a2l = some ⟨oc_Gain_through, od_Gain_through, .func (PySem.W.fnOf "through" "Gain.through" (a0q a5g) (a0p a5g) (a0h a5g) .none kV_Gain_through dc_Gain_through pm_Gain_through an_Gain_through cd_Gain_through ct_Gain_through), sl_Gain_through⟩) (b5q : PySem.W.codeIn K cd_Gain_through "Gain.through" = true) (k_Gain_through : PySem.W.keepIn K (.ref a2l) = true)
  {a4j : Addr} {od_Delay_init an_Delay_init : Option Addr} {sl_Delay_init : Array (Option Value)} {oc_Delay_init kV_Delay_init dc_Delay_init pm_Delay_init cd_Delay_init ct_Delay_init : Value}
  (a_Delay_init : PySem.W.findIn K (.ref a1y) "__init__" = some (some (.ref a4j))) (l_Delay_init : K.lookup a4j = some ⟨oc_Delay_init, od_Delay_init, .func (PySem.W.fnOf "__init__" "Delay.__init__" (a0q a7y) (a0p a7y) (a0h a7y) .none kV_Delay_init dc_Delay_init pm_Delay_init an_Delay_init cd_Delay_init ct_Delay_init), sl_Delay_init⟩) (c1g : PySem.W.codeIn K cd_Delay_init "Delay.__init__" = true) (k_Delay_init : PySem.W.keepIn K (.ref a4j) = true)
  {a1w : Addr} {od_Delay_through an_Delay_through : Option Addr} {sl_Delay_through : Array (Option Value)} {oc_Delay_through kV_Delay_through dc_Delay_through pm_Delay_through cd_Delay_through ct_Delay_through : Value}
  (a_Delay_through : PySem.W.findIn K (.ref a1y) "through" = some (some (.ref a1w))) (l_Delay_through : K.lookup a1w = some ⟨oc_Delay_through, od_Delay_through, .func (PySem.W.fnOf "through" "Delay.through" (a0q a3v) (a0p a3v) (a0h a3v) .none kV_Delay_through dc_Delay_through pm_Delay_through an_Delay_through cd_Delay_through ct_Delay_through), sl_Delay_through⟩) (b3y : PySem.W.codeIn K cd_Delay_through "Delay.through" = true) (k_Delay_through : PySem.W.keepIn K (.ref a1w) = true)
  {a7j : Addr} {od_powers_of an_powers_of : Option Addr} {sl_powers_of : Array (Option Value)} {oc_powers_of kV_powers_of dc_powers_of pm_powers_of cd_powers_of ct_powers_of : Value}
  (a_powers_of : PySem.W.nsIn K mainGlobals "powers_of" = some (some (.ref a7j))) (l_powers_of : K.lookup a7j = some ⟨oc_powers_of, od_powers_of, .func (PySem.W.fnOf "powers_of" "powers_of" (a0q a9u) (a0p a9u) (a0h a9u) .none kV_powers_of dc_powers_of pm_powers_of an_powers_of cd_powers_of ct_powers_of), sl_powers_of⟩) (c3i : PySem.W.codeIn K cd_powers_of "powers_of" = true) (k_powers_of : PySem.W.keepIn K (.ref a7j) = true)
  {a5u : Addr} {od_Echo_init an_Echo_init : Option Addr} {sl_Echo_init : Array (Option Value)} {oc_Echo_init kV_Echo_init dc_Echo_init pm_Echo_init cd_Echo_init ct_Echo_init : Value}
  (a_Echo_init : PySem.W.findIn K (.ref a1s) "__init__" = some (some (.ref a5u))) (l_Echo_init : K.lookup a5u = some ⟨oc_Echo_init, od_Echo_init, .func (PySem.W.fnOf "__init__" "Echo.__init__" (a0q a7g) (a0p a7g) (a0h a7g) .none kV_Echo_init dc_Echo_init pm_Echo_init an_Echo_init cd_Echo_init ct_Echo_init), sl_Echo_init⟩) (c3j : PySem.W.codeIn K cd_Echo_init "Echo.__init__" = true) (k_Echo_init : PySem.W.keepIn K (.ref a5u) = true)
  {a3l : Addr} {od_Echo_grain an_Echo_grain : Option Addr} {sl_Echo_grain : Array (Option Value)} {oc_Echo_grain kV_Echo_grain dc_Echo_grain pm_Echo_grain cd_Echo_grain ct_Echo_grain : Value}
  (a_Echo_grain : PySem.W.findIn K (.ref a1s) "grain" = some (some (.ref a3l))) (l_Echo_grain : K.lookup a3l = some ⟨oc_Echo_grain, od_Echo_grain, .func (PySem.W.fnOf "grain" "Echo.grain" (a0q a7z) (a0p a7z) (a0h a7z) .none kV_Echo_grain dc_Echo_grain pm_Echo_grain an_Echo_grain cd_Echo_grain ct_Echo_grain), sl_Echo_grain⟩) (c1h : PySem.W.codeIn K cd_Echo_grain "Echo.grain" = true) (k_Echo_grain : PySem.W.keepIn K (.ref a3l) = true)
  {a2m : Addr} {od_Echo_through an_Echo_through : Option Addr} {sl_Echo_through : Array (Option Value)} {oc_Echo_through kV_Echo_through dc_Echo_through pm_Echo_through cd_Echo_through ct_Echo_through : Value}
  (a_Echo_through : PySem.W.findIn K (.ref a1s) "through" = some (some (.ref a2m))) (l_Echo_through : K.lookup a2m = some ⟨oc_Echo_through, od_Echo_through, .func (PySem.W.fnOf "through" "Echo.through" (a0q a5h) (a0p a5h) (a0h a5h) .none kV_Echo_through dc_Echo_through pm_Echo_through an_Echo_through cd_Echo_through ct_Echo_through), sl_Echo_through⟩) (b5r : PySem.W.codeIn K cd_Echo_through "Echo.through" = true) (k_Echo_through : PySem.W.keepIn K (.ref a2m) = true)
  {a4k : Addr} {od_Echo_reach an_Echo_reach : Option Addr} {sl_Echo_reach : Array (Option Value)} {oc_Echo_reach kV_Echo_reach dc_Echo_reach pm_Echo_reach cd_Echo_reach ct_Echo_reach : Value}
  (a_Echo_reach : PySem.W.findIn K (.ref a1s) "reach" = some (some (.ref a4k))) (l_Echo_reach : K.lookup a4k = some ⟨oc_Echo_reach, od_Echo_reach, .func (PySem.W.fnOf "reach" "Echo.reach" (a0q a8g) (a0p a8g) (a0h a8g) .none kV_Echo_reach dc_Echo_reach pm_Echo_reach an_Echo_reach cd_Echo_reach ct_Echo_reach), sl_Echo_reach⟩) (c1i : PySem.W.codeIn K cd_Echo_reach "Echo.reach" = true) (k_Echo_reach : PySem.W.keepIn K (.ref a4k) = true)
  {a5v : Addr} {od_Back_init an_Back_init : Option Addr} {sl_Back_init : Array (Option Value)} {oc_Back_init kV_Back_init dc_Back_init pm_Back_init cd_Back_init ct_Back_init : Value}
  (a_Back_init : PySem.W.findIn K (.ref a2v) "__init__" = some (some (.ref a5v))) (l_Back_init : K.lookup a5v = some ⟨oc_Back_init, od_Back_init, .func (PySem.W.fnOf "__init__" "Back.__init__" (a0q a9v) (a0p a9v) (a0h a9v) .none kV_Back_init dc_Back_init pm_Back_init an_Back_init cd_Back_init ct_Back_init), sl_Back_init⟩) (c3k : PySem.W.codeIn K cd_Back_init "Back.__init__" = true) (k_Back_init : PySem.W.keepIn K (.ref a5v) = true)
  {a3m : Addr} {od_Back_grain an_Back_grain : Option Addr} {sl_Back_grain : Array (Option Value)} {oc_Back_grain kV_Back_grain dc_Back_grain pm_Back_grain cd_Back_grain ct_Back_grain : Value}
  (a_Back_grain : PySem.W.findIn K (.ref a2v) "grain" = some (some (.ref a3m))) (l_Back_grain : K.lookup a3m = some ⟨oc_Back_grain, od_Back_grain, .func (PySem.W.fnOf "grain" "Back.grain" (a0q a8h) (a0p a8h) (a0h a8h) .none kV_Back_grain dc_Back_grain pm_Back_grain an_Back_grain cd_Back_grain ct_Back_grain), sl_Back_grain⟩) (c1j : PySem.W.codeIn K cd_Back_grain "Back.grain" = true) (k_Back_grain : PySem.W.keepIn K (.ref a3m) = true)
  {a2n : Addr} {od_Back_through an_Back_through : Option Addr} {sl_Back_through : Array (Option Value)} {oc_Back_through kV_Back_through dc_Back_through pm_Back_through cd_Back_through ct_Back_through : Value}
  (a_Back_through : PySem.W.findIn K (.ref a2v) "through" = some (some (.ref a2n))) (l_Back_through : K.lookup a2n = some ⟨oc_Back_through, od_Back_through, .func (PySem.W.fnOf "through" "Back.through" (a0q a5i) (a0p a5i) (a0h a5i) .none kV_Back_through dc_Back_through pm_Back_through an_Back_through cd_Back_through ct_Back_through), sl_Back_through⟩) (b5s : PySem.W.codeIn K cd_Back_through "Back.through" = true) (k_Back_through : PySem.W.keepIn K (.ref a2n) = true)
  {a7k : Addr} {od_read_gain an_read_gain : Option Addr} {sl_read_gain : Array (Option Value)} {oc_read_gain kV_read_gain dc_read_gain pm_read_gain cd_read_gain ct_read_gain : Value}
  (a_read_gain : PySem.W.nsIn K mainGlobals "read_gain" = some (some (.ref a7k))) (l_read_gain : K.lookup a7k = some ⟨oc_read_gain, od_read_gain, .func (PySem.W.fnOf "read_gain" "read_gain" (a0q a9w) (a0p a9w) (a0h a9w) .none kV_read_gain dc_read_gain pm_read_gain an_read_gain cd_read_gain ct_read_gain), sl_read_gain⟩) (c3l : PySem.W.codeIn K cd_read_gain "read_gain" = true) (k_read_gain : PySem.W.keepIn K (.ref a7k) = true)
  {a4n : Addr} {od_read_number an_read_number : Option Addr} {sl_read_number : Array (Option Value)} {oc_read_number kV_read_number dc_read_number pm_read_number cd_read_number ct_read_number : Value}
  (a_read_number : PySem.W.nsIn K mainGlobals "read_number" = some (some (.ref a4n))) (l_read_number : K.lookup a4n = some ⟨oc_read_number, od_read_number, .func (PySem.W.fnOf "read_number" "read_number" (a0q a6i) (a0p a6i) (a0h a6i) .none kV_read_number dc_read_number pm_read_number an_read_number cd_read_number ct_read_number), sl_read_number⟩) (b8g : PySem.W.codeIn K cd_read_number "read_number" = true) (k_read_number : PySem.W.keepIn K (.ref a4n) = true)
  {a7l : Addr} {od_read_many an_read_many : Option Addr} {sl_read_many : Array (Option Value)} {oc_read_many kV_read_many dc_read_many pm_read_many cd_read_many ct_read_many : Value}
  (a_read_many : PySem.W.nsIn K mainGlobals "read_many" = some (some (.ref a7l))) (l_read_many : K.lookup a7l = some ⟨oc_read_many, od_read_many, .func (PySem.W.fnOf "read_many" "read_many" (a0q a9y) (a0p a9y) (a0h a9y) .none kV_read_many dc_read_many pm_read_many an_read_many cd_read_many ct_read_many), sl_read_many⟩) (c3m : PySem.W.codeIn K cd_read_many "read_many" = true) (k_read_many : PySem.W.keepIn K (.ref a7l) = true)
  {a4o : Addr} {od_check_count an_check_count : Option Addr} {sl_check_count : Array (Option Value)} {oc_check_count kV_check_count dc_check_count pm_check_count cd_check_count ct_check_count : Value}
  (a_check_count : PySem.W.nsIn K mainGlobals "check_count" = some (some (.ref a4o))) (l_check_count : K.lookup a4o = some ⟨oc_check_count, od_check_count, .func (PySem.W.fnOf "check_count" "check_count" (a0q a6j) (a0p a6j) (a0h a6j) .none kV_check_count dc_check_count pm_check_count an_check_count cd_check_count ct_check_count), sl_check_count⟩) (b8h : PySem.W.codeIn K cd_check_count "check_count" = true) (k_check_count : PySem.W.keepIn K (.ref a4o) = true)
  {a9g : Addr} {od_gain_of an_gain_of : Option Addr} {sl_gain_of : Array (Option Value)} {oc_gain_of kV_gain_of dc_gain_of pm_gain_of cd_gain_of ct_gain_of : Value}
  (a_gain_of : PySem.W.nsIn K mainGlobals "gain_of" = some (some (.ref a9g))) (l_gain_of : K.lookup a9g = some ⟨oc_gain_of, od_gain_of, .func (PySem.W.fnOf "gain_of" "gain_of" (a0q b5y) (a0p b5y) (a0h b5y) .none kV_gain_of dc_gain_of pm_gain_of an_gain_of cd_gain_of ct_gain_of), sl_gain_of⟩) (d0k : PySem.W.codeIn K cd_gain_of "gain_of" = true) (k_gain_of : PySem.W.keepIn K (.ref a9g) = true)
  {a6n : Addr} {od_delay_of an_delay_of : Option Addr} {sl_delay_of : Array (Option Value)} {oc_delay_of kV_delay_of dc_delay_of pm_delay_of cd_delay_of ct_delay_of : Value}
  (a_delay_of : PySem.W.nsIn K mainGlobals "delay_of" = some (some (.ref a6n))) (l_delay_of : K.lookup a6n = some ⟨oc_delay_of, od_delay_of, .func (PySem.W.fnOf "delay_of" "delay_of" (a0q b2o) (a0p b2o) (a0h b2o) .none kV_delay_of dc_delay_of pm_delay_of an_delay_of cd_delay_of ct_delay_of), sl_delay_of⟩) (c5z : PySem.W.codeIn K cd_delay_of "delay_of" = true) (k_delay_of : PySem.W.keepIn K (.ref a6n) = true)
  {a9h : Addr} {od_echo_of an_echo_of : Option Addr} {sl_echo_of : Array (Option Value)} {oc_echo_of kV_echo_of dc_echo_of pm_echo_of cd_echo_of ct_echo_of : Value}
  (a_echo_of : PySem.W.nsIn K mainGlobals "echo_of" = some (some (.ref a9h))) (l_echo_of : K.lookup a9h = some ⟨oc_echo_of, od_echo_of, .func (PySem.W.fnOf "echo_of" "echo_of" (a0q b5z) (a0p b5z) (a0h b5z) .none kV_echo_of dc_echo_of pm_echo_of an_echo_of cd_echo_of ct_echo_of), sl_echo_of⟩) (d0l : PySem.W.codeIn K cd_echo_of "echo_of" = true) (k_echo_of : PySem.W.keepIn K (.ref a9h) = true)
  {a9i : Addr} {od_back_of an_back_of : Option Addr} {sl_back_of : Array (Option Value)} {oc_back_of kV_back_of dc_back_of pm_back_of cd_back_of ct_back_of : Value}
  (a_back_of : PySem.W.nsIn K mainGlobals "back_of" = some (some (.ref a9i))) (l_back_of : K.lookup a9i = some ⟨oc_back_of, od_back_of, .func (PySem.W.fnOf "back_of" "back_of" (a0q b6g) (a0p b6g) (a0h b6g) .none kV_back_of dc_back_of pm_back_of an_back_of cd_back_of ct_back_of), sl_back_of⟩) (d0m : PySem.W.codeIn K cd_back_of "back_of" = true) (k_back_of : PySem.W.keepIn K (.ref a9i) = true)
  {b3j : Addr} {od_part_of an_part_of : Option Addr} {sl_part_of : Array (Option Value)} {oc_part_of kV_part_of dc_part_of pm_part_of cd_part_of ct_part_of : Value}
  (a_part_of : PySem.W.nsIn K mainGlobals "part_of" = some (some (.ref b3j))) (l_part_of : K.lookup b3j = some ⟨oc_part_of, od_part_of, .func (PySem.W.fnOf "part_of" "part_of" (a0q b6h) (a0p b6h) (a0h b6h) .none kV_part_of dc_part_of pm_part_of an_part_of cd_part_of ct_part_of), sl_part_of⟩) (d0n : PySem.W.codeIn K cd_part_of "part_of" = true) (k_part_of : PySem.W.keepIn K (.ref b3j) = true)
  {b0n : Addr} {od_parts_of an_parts_of : Option Addr} {sl_parts_of : Array (Option Value)} {oc_parts_of kV_parts_of dc_parts_of pm_parts_of cd_parts_of ct_parts_of : Value}
  (a_parts_of : PySem.W.nsIn K mainGlobals "parts_of" = some (some (.ref b0n))) (l_parts_of : K.lookup b0n = some ⟨oc_parts_of, od_parts_of, .func (PySem.W.fnOf "parts_of" "parts_of" (a0q a9z) (a0p a9z) (a0h a9z) .none kV_parts_of dc_parts_of pm_parts_of an_parts_of cd_parts_of ct_parts_of), sl_parts_of⟩) (c6g : PySem.W.codeIn K cd_parts_of "parts_of" = true) (k_parts_of : PySem.W.keepIn K (.ref b0n) = true)
  {a4l : Addr} {od_Chain_init an_Chain_init : Option Addr} {sl_Chain_init : Array (Option Value)} {oc_Chain_init kV_Chain_init dc_Chain_init pm_Chain_init cd_Chain_init ct_Chain_init : Value}
  (a_Chain_init : PySem.W.findIn K (.ref a3z) "__init__" = some (some (.ref a4l))) (l_Chain_init : K.lookup a4l = some ⟨oc_Chain_init, od_Chain_init, .func (PySem.W.fnOf "__init__" "Chain.__init__" (a0q a5q) (a0p a5q) (a0h a5q) .none kV_Chain_init dc_Chain_init pm_Chain_init an_Chain_init cd_Chain_init ct_Chain_init), sl_Chain_init⟩) (c1k : PySem.W.codeIn K cd_Chain_init "Chain.__init__" = true) (k_Chain_init : PySem.W.keepIn K (.ref a4l) = true)
  {a2q : Addr} {od_Chain_through an_Chain_through : Option Addr} {sl_Chain_through : Array (Option Value)} {oc_Chain_through kV_Chain_through dc_Chain_through pm_Chain_through cd_Chain_through ct_Chain_through : Value}
  (a_Chain_through : PySem.W.findIn K (.ref a3z) "through" = some (some (.ref a2q))) (l_Chain_through : K.lookup a2q = some ⟨oc_Chain_through, od_Chain_through, .func (PySem.W.fnOf "through" "Chain.through" (a0q a3w) (a0p a3w) (a0h a3w) .none kV_Chain_through dc_Chain_through pm_Chain_through an_Chain_through cd_Chain_through ct_Chain_through), sl_Chain_through⟩) (b3z : PySem.W.codeIn K cd_Chain_through "Chain.through" = true) (k_Chain_through : PySem.W.keepIn K (.ref a2q) = true)
  {a4p : Addr} {od_law_cell_at an_law_cell_at : Option Addr} {sl_law_cell_at : Array (Option Value)} {oc_law_cell_at kV_law_cell_at dc_law_cell_at pm_law_cell_at cd_law_cell_at ct_law_cell_at : Value}
  (a_law_cell_at : PySem.W.nsIn K mainGlobals "_law_cell_at" = some (some (.ref a4p))) (l_law_cell_at : K.lookup a4p = some ⟨oc_law_cell_at, od_law_cell_at, .func (PySem.W.fnOf "_law_cell_at" "_law_cell_at" (a0q a6k) (a0p a6k) (a0h a6k) .none kV_law_cell_at dc_law_cell_at pm_law_cell_at an_law_cell_at cd_law_cell_at ct_law_cell_at), sl_law_cell_at⟩) (b8i : PySem.W.codeIn K cd_law_cell_at "_law_cell_at" = true) (k_law_cell_at : PySem.W.keepIn K (.ref a4p) = true)
  {a7m : Addr} {od_law_whole an_law_whole : Option Addr} {sl_law_whole : Array (Option Value)} {oc_law_whole kV_law_whole dc_law_whole pm_law_whole cd_law_whole ct_law_whole : Value}
  (a_law_whole : PySem.W.nsIn K mainGlobals "_law_whole" = some (some (.ref a7m))) (l_law_whole : K.lookup a7m = some ⟨oc_law_whole, od_law_whole, .func (PySem.W.fnOf "_law_whole" "_law_whole" (a0q b0g) (a0p b0g) (a0h b0g) .none kV_law_whole dc_law_whole pm_law_whole an_law_whole cd_law_whole ct_law_whole), sl_law_whole⟩) (c3n : PySem.W.codeIn K cd_law_whole "_law_whole" = true) (k_law_whole : PySem.W.keepIn K (.ref a7m) = true)
  {a4q : Addr} {od_law_divisor an_law_divisor : Option Addr} {sl_law_divisor : Array (Option Value)} {oc_law_divisor kV_law_divisor dc_law_divisor pm_law_divisor cd_law_divisor ct_law_divisor : Value}
  (a_law_divisor : PySem.W.nsIn K mainGlobals "_law_divisor" = some (some (.ref a4q))) (l_law_divisor : K.lookup a4q = some ⟨oc_law_divisor, od_law_divisor, .func (PySem.W.fnOf "_law_divisor" "_law_divisor" (a0q a6l) (a0p a6l) (a0h a6l) .none kV_law_divisor dc_law_divisor pm_law_divisor an_law_divisor cd_law_divisor ct_law_divisor), sl_law_divisor⟩) (b8j : PySem.W.codeIn K cd_law_divisor "_law_divisor" = true) (k_law_divisor : PySem.W.keepIn K (.ref a4q) = true)
  {b0o : Addr} {od_law_gain an_law_gain : Option Addr} {sl_law_gain : Array (Option Value)} {oc_law_gain kV_law_gain dc_law_gain pm_law_gain cd_law_gain ct_law_gain : Value}
  (a_law_gain : PySem.W.nsIn K mainGlobals "_law_gain" = some (some (.ref b0o))) (l_law_gain : K.lookup b0o = some ⟨oc_law_gain, od_law_gain, .func (PySem.W.fnOf "_law_gain" "_law_gain" (a0q b2p) (a0p b2p) (a0h b2p) .none kV_law_gain dc_law_gain pm_law_gain an_law_gain cd_law_gain ct_law_gain), sl_law_gain⟩) (c6h : PySem.W.codeIn K cd_law_gain "_law_gain" = true) (k_law_gain : PySem.W.keepIn K (.ref b0o) = true)
  {b0p : Addr} {od_law_tone an_law_tone : Option Addr} {sl_law_tone : Array (Option Value)} {oc_law_tone kV_law_tone dc_law_tone pm_law_tone cd_law_tone ct_law_tone : Value}
  (a_law_tone : PySem.W.nsIn K mainGlobals "_law_tone" = some (some (.ref b0p))) (l_law_tone : K.lookup b0p = some ⟨oc_law_tone, od_law_tone, .func (PySem.W.fnOf "_law_tone" "_law_tone" (a0q b2q) (a0p b2q) (a0h b2q) .none kV_law_tone dc_law_tone pm_law_tone an_law_tone cd_law_tone ct_law_tone), sl_law_tone⟩) (c6i : PySem.W.codeIn K cd_law_tone "_law_tone" = true) (k_law_tone : PySem.W.keepIn K (.ref b0p) = true)
  {a4r : Addr} {od_law_written an_law_written : Option Addr} {sl_law_written : Array (Option Value)} {oc_law_written kV_law_written dc_law_written pm_law_written cd_law_written ct_law_written : Value}
  (a_law_written : PySem.W.nsIn K mainGlobals "_law_written" = some (some (.ref a4r))) (l_law_written : K.lookup a4r = some ⟨oc_law_written, od_law_written, .func (PySem.W.fnOf "_law_written" "_law_written" (a0q a6m) (a0p a6m) (a0h a6m) .none kV_law_written dc_law_written pm_law_written an_law_written cd_law_written ct_law_written), sl_law_written⟩) (b8k : PySem.W.codeIn K cd_law_written "_law_written" = true) (k_law_written : PySem.W.keepIn K (.ref a4r) = true)
  {a7n : Addr} {od_law_power an_law_power : Option Addr} {sl_law_power : Array (Option Value)} {oc_law_power kV_law_power dc_law_power pm_law_power cd_law_power ct_law_power : Value}
  (a_law_power : PySem.W.nsIn K mainGlobals "_law_power" = some (some (.ref a7n))) (l_law_power : K.lookup a7n = some ⟨oc_law_power, od_law_power, .func (PySem.W.fnOf "_law_power" "_law_power" (a0q b0h) (a0p b0h) (a0h b0h) .none kV_law_power dc_law_power pm_law_power an_law_power cd_law_power ct_law_power), sl_law_power⟩) (c3o : PySem.W.codeIn K cd_law_power "_law_power" = true) (k_law_power : PySem.W.keepIn K (.ref a7n) = true)
  {a7o : Addr} {od_law_words an_law_words : Option Addr} {sl_law_words : Array (Option Value)} {oc_law_words kV_law_words dc_law_words pm_law_words cd_law_words ct_law_words : Value}
  (a_law_words : PySem.W.nsIn K mainGlobals "_law_words" = some (some (.ref a7o))) (l_law_words : K.lookup a7o = some ⟨oc_law_words, od_law_words, .func (PySem.W.fnOf "_law_words" "_law_words" (a0q b0i) (a0p b0i) (a0h b0i) .none kV_law_words dc_law_words pm_law_words an_law_words cd_law_words ct_law_words), sl_law_words⟩) (c3p : PySem.W.codeIn K cd_law_words "_law_words" = true) (k_law_words : PySem.W.keepIn K (.ref a7o) = true)
  {b3k : Addr} {od_law_due an_law_due : Option Addr} {sl_law_due : Array (Option Value)} {oc_law_due kV_law_due dc_law_due pm_law_due cd_law_due ct_law_due : Value}
  (a_law_due : PySem.W.nsIn K mainGlobals "_law_due" = some (some (.ref b3k))) (l_law_due : K.lookup b3k = some ⟨oc_law_due, od_law_due, .func (PySem.W.fnOf "_law_due" "_law_due" (a0q b6i) (a0p b6i) (a0h b6i) .none kV_law_due dc_law_due pm_law_due an_law_due cd_law_due ct_law_due), sl_law_due⟩) (d0o : PySem.W.codeIn K cd_law_due "_law_due" = true) (k_law_due : PySem.W.keepIn K (.ref b3k) = true)
  {a7p : Addr} {od_law_right an_law_right : Option Addr} {sl_law_right : Array (Option Value)} {oc_law_right kV_law_right dc_law_right pm_law_right cd_law_right ct_law_right : Value}
  (a_law_right : PySem.W.nsIn K mainGlobals "_law_right" = some (some (.ref a7p))) (l_law_right : K.lookup a7p = some ⟨oc_law_right, od_law_right, .func (PySem.W.fnOf "_law_right" "_law_right" (a0q b0j) (a0p b0j) (a0h b0j) .none kV_law_right dc_law_right pm_law_right an_law_right cd_law_right ct_law_right), sl_law_right⟩) (c3q : PySem.W.codeIn K cd_law_right "_law_right" = true) (k_law_right : PySem.W.keepIn K (.ref a7p) = true)
  {d8v : Addr} {od_law an_law : Option Addr} {sl_law : Array (Option Value)} {oc_law kV_law dc_law pm_law cd_law ct_law : Value}
  (a_law : PySem.W.nsIn K mainGlobals "law" = some (some (.ref d8v))) (l_law : K.lookup d8v = some ⟨oc_law, od_law, .func (PySem.W.fnOf "law" "law" (a0q d8p) (a0p d8p) (a0h d8p) .none kV_law dc_law pm_law an_law cd_law ct_law), sl_law⟩) (g6w : PySem.W.codeIn K cd_law "law" = true) (k_law : PySem.W.keepIn K (.ref d8v) = true)
  (d3i : PySem.W.nsIn K mainGlobals "abs" = some none)
  (d1u : PySem.W.nsIn K mainGlobals "bool" = some none)
  (d0u : PySem.W.nsIn K mainGlobals "int" = some none)
  (a1u : PySem.W.nsIn K mainGlobals "isinstance" = some none)
  (b4g : PySem.W.nsIn K mainGlobals "len" = some none)
  (c1y : PySem.W.nsIn K mainGlobals "list" = some none)
  (f8i : PySem.W.nsIn K mainGlobals "max" = some none)
  (f8j : PySem.W.nsIn K mainGlobals "min" = some none)
  (b3s : PySem.W.nsIn K mainGlobals "range" = some none)
  (c6y : PySem.W.nsIn K mainGlobals "str" = some none)
  (c2u : PySem.W.nsIn K mainGlobals "tuple" = some none)
  (f8k : PySem.W.nsIn K mainGlobals "zip" = some none)
  {t_FIGURES : Tok}
  {t_MOST_FIGURES_wholes : Tok}
  {t_MOST_FIGURES_ratios : Tok}
  {t_MOST_GAIN : Tok}
  {t_MOST_MANY : Tok}
  {t_MOST_TURNS : Tok}
  {t_MOST_PARTS : Tok}
  {a1t : Addr} {es_READERS : Array DictEntry} {n_READERS : Nat}
  (cl_Part_pg : PySem.W.plainGet K b8n Str.empty = true)
  (cl_Part_hd : PySem.W.hasDictIn K b8n = true)
  (cl_Part_po : PySem.W.plainOver K b8n = true)
  (cl_Part_sa : PySem.W.findIn K (.ref b8n) "__setattr__" = some (some (.builtin "object.__setattr__")))
  (me_Part_grain_fn : PySem.W.isFn K (.ref a2p) = true)
  (me_Part_fresh_fn : PySem.W.isFn K (.ref a0v) = true)
  (cl_Gain_pg : PySem.W.plainGet K a3h Str.empty = true)
  (cl_Gain_hd : PySem.W.hasDictIn K a3h = true)
  (cl_Gain_po : PySem.W.plainOver K a3h = true)
  (cl_Gain_sa : PySem.W.findIn K (.ref a3h) "__setattr__" = some (some (.builtin "object.__setattr__")))
  (a1i : PySem.W.findIn K (.ref a3h) "gain" = some none)
  (me_Gain___init___fn : PySem.W.isFn K (.ref a5t) = true)
  (mk_Gain_ma : PySem.W.makesIn K a3h = true)
  (mk_Gain_kp : PySem.W.keepIn K (.ref a3h) = true)
  (me_Gain_grain_fn : PySem.W.isFn K (.ref a3k) = true)
  (me_Gain_through_fn : PySem.W.isFn K (.ref a2l) = true)
  (me_Gain_fresh_at : PySem.W.findIn K (.ref a3h) "fresh" = some (some (.ref a0v)))
  (me_Gain_fresh_fn : PySem.W.isFn K (.ref a0v) = true)
  (cl_Delay_pg : PySem.W.plainGet K a1y Str.empty = true)
  (cl_Delay_hd : PySem.W.hasDictIn K a1y = true)
  (cl_Delay_po : PySem.W.plainOver K a1y = true)
  (cl_Delay_sa : PySem.W.findIn K (.ref a1y) "__setattr__" = some (some (.builtin "object.__setattr__")))
  (a1m : PySem.W.findIn K (.ref a1y) "many" = some none)
  (me_Delay___init___fn : PySem.W.isFn K (.ref a4j) = true)
  (mk_Delay_ma : PySem.W.makesIn K a1y = true)
  (mk_Delay_kp : PySem.W.keepIn K (.ref a1y) = true)
  (me_Delay_through_fn : PySem.W.isFn K (.ref a1w) = true)
  (me_Delay_grain_at : PySem.W.findIn K (.ref a1y) "grain" = some (some (.ref a2p)))
  (me_Delay_grain_fn : PySem.W.isFn K (.ref a2p) = true)
  (me_Delay_fresh_at : PySem.W.findIn K (.ref a1y) "fresh" = some (some (.ref a0v)))
  (me_Delay_fresh_fn : PySem.W.isFn K (.ref a0v) = true)
  (cl_Echo_pg : PySem.W.plainGet K a1s Str.empty = true)
  (cl_Echo_hd : PySem.W.hasDictIn K a1s = true)
  (cl_Echo_po : PySem.W.plainOver K a1s = true)
  (cl_Echo_sa : PySem.W.findIn K (.ref a1s) "__setattr__" = some (some (.builtin "object.__setattr__")))
  (a0y : PySem.W.findIn K (.ref a1s) "gain" = some none)
  (a0z : PySem.W.findIn K (.ref a1s) "many" = some none)
  (a0u : PySem.W.findIn K (.ref a1s) "turns" = some none)
  (a0o : PySem.W.findIn K (.ref a1s) "factors" = some none)
  (a0m : PySem.W.findIn K (.ref a1s) "factor_bottom" = some none)
  (me_Echo___init___fn : PySem.W.isFn K (.ref a5u) = true)
  (mk_Echo_ma : PySem.W.makesIn K a1s = true)
  (mk_Echo_kp : PySem.W.keepIn K (.ref a1s) = true)
  (me_Echo_grain_fn : PySem.W.isFn K (.ref a3l) = true)
  (me_Echo_through_fn : PySem.W.isFn K (.ref a2m) = true)
  (me_Echo_reach_fn : PySem.W.isFn K (.ref a4k) = true)
  (me_Echo_fresh_at : PySem.W.findIn K (.ref a1s) "fresh" = some (some (.ref a0v)))
  (me_Echo_fresh_fn : PySem.W.isFn K (.ref a0v) = true)
  (cl_Back_pg : PySem.W.plainGet K a2v Str.empty = true)
  (cl_Back_hd : PySem.W.hasDictIn K a2v = true)
  (cl_Back_po : PySem.W.plainOver K a2v = true)
  (cl_Back_sa : PySem.W.findIn K (.ref a2v) "__setattr__" = some (some (.builtin "object.__setattr__")))
  (a1j : PySem.W.findIn K (.ref a2v) "gain" = some none)
  (a1k : PySem.W.findIn K (.ref a2v) "many" = some none)
  (me_Back___init___fn : PySem.W.isFn K (.ref a5v) = true)
  (mk_Back_ma : PySem.W.makesIn K a2v = true)
  (mk_Back_kp : PySem.W.keepIn K (.ref a2v) = true)
  (me_Back_grain_fn : PySem.W.isFn K (.ref a3m) = true)
  (me_Back_through_fn : PySem.W.isFn K (.ref a2n) = true)
  (me_Back_fresh_at : PySem.W.findIn K (.ref a2v) "fresh" = some (some (.ref a0v)))
  (me_Back_fresh_fn : PySem.W.isFn K (.ref a0v) = true)
  (cl_Chain_pg : PySem.W.plainGet K a3z Str.empty = true)
  (cl_Chain_hd : PySem.W.hasDictIn K a3z = true)
  (cl_Chain_po : PySem.W.plainOver K a3z = true)
  (cl_Chain_sa : PySem.W.findIn K (.ref a3z) "__setattr__" = some (some (.builtin "object.__setattr__")))
  (a1v : PySem.W.findIn K (.ref a3z) "parts" = some none)
  (a1q : PySem.W.findIn K (.ref a3z) "states" = some none)
  (me_Chain___init___fn : PySem.W.isFn K (.ref a4l) = true)
  (mk_Chain_ma : PySem.W.makesIn K a3z = true)
  (mk_Chain_kp : PySem.W.keepIn K (.ref a3z) = true)
  (me_Chain_through_fn : PySem.W.isFn K (.ref a2q) = true)
  (b6p : PySem.W.nsIn K mainGlobals "FIGURES" = some (some (.str "0123456789" t_FIGURES)))
  (a2j : PySem.W.nsIn K mainGlobals "MOST_FIGURES_wholes" = some (some (.int 13 t_MOST_FIGURES_wholes)))
  (a2k : PySem.W.nsIn K mainGlobals "MOST_FIGURES_ratios" = some (some (.int 9 t_MOST_FIGURES_ratios)))
  (a8l : PySem.W.nsIn K mainGlobals "MOST_GAIN" = some (some (.int 1000 t_MOST_GAIN)))
  (a8m : PySem.W.nsIn K mainGlobals "MOST_MANY" = some (some (.int 1000 t_MOST_MANY)))
  (a9p : PySem.W.nsIn K mainGlobals "MOST_TURNS" = some (some (.int 16 t_MOST_TURNS)))
  (a9q : PySem.W.nsIn K mainGlobals "MOST_PARTS" = some (some (.int 8 t_MOST_PARTS)))
  (a6q : PySem.W.nsIn K mainGlobals "READERS" = some (some (.ref a1t)))
  (ld_READERS : K.lookup a1t = some ⟨.type "dict", none, .dict es_READERS n_READERS, #[]⟩)
  (kd_READERS : PySem.W.KeysLit w.params es_READERS.toList)
  (nd_READERS : (a1t == sysModules) = false)
  (a4g : PySem.W.nsIn K a1t "gain" = some (some (.ref a9g)))
  (a3j : PySem.W.nsIn K a1t "delay" = some (some (.ref a6n)))
  (a4h : PySem.W.nsIn K a1t "echo" = some (some (.ref a9h)))
  (a4i : PySem.W.nsIn K a1t "back" = some (some (.ref a9i)))
  : ∃ fd : FuncData, (∀ (s : Shared) (v : Value), BindsTo s fd ⟨[v], []⟩ [("_law_script", v)]) ∧ ∀ base : Heap, K.In base → base.Ns mainGlobals mg → a1n l.prog w K mg base CX0 12 fa fd ["_law_script"] (d7y 63 K) := by
 have e := hfa.symm.trans (PySem.W.mg_of X G a_law)
 cases e
 have b2s := a1l (st := b2l) l_is_whole c5v k_is_whole
 have c1q := b2s.binds (ps := ["value"]) fun _ _ _ _ _ _ us hl => match us, hl with | [_], _ => rfl
 have a8i := a1l (st := a7t) l_is_figures c0u k_is_figures
 have b4k := a8i.binds (ps := ["text"]) fun _ _ _ _ _ _ us hl => match us, hl with | [_], _ => rfl
 have b6j := a1l (st := b2m) l_whole_of c5w k_whole_of
 have c5m := b6j.binds (ps := ["text"]) fun _ _ _ _ _ _ us hl => match us, hl with | [_], _ => rfl
 have b9s := a1l (st := b5v) l_divisor d0h k_divisor
 have c8g := b9s.binds (ps := ["one", "other"]) fun _ _ _ _ _ _ us hl => match us, hl with | [_, _], _ => rfl
 have b6k := a1l (st := b2n) l_fraction c5y k_fraction
 have c5n := b6k.binds (ps := ["top", "bottom"]) fun _ _ _ _ _ _ us hl => match us, hl with | [_, _], _ => rfl
 have a5w := a1l (st := a3t) l_fraction_text b3v k_fraction_text
 have b3l := a5w.binds (ps := ["one"]) fun _ _ _ _ _ _ us hl => match us, hl with | [_], _ => rfl
 have a5y := a1l (st := a3u) l_read_fraction b3w k_read_fraction
 have b3m := a5y.binds (ps := ["text"]) fun _ _ _ _ _ _ us hl => match us, hl with | [_], _ => rfl
 have a8j := a1l (st := a5p) l_added_rows c0v k_added_rows
 have b4l := a8j.binds (ps := ["one", "other"]) fun _ _ _ _ _ _ us hl => match us, hl with | [_, _], _ => rfl
 have a5z := a1l (st := a6z) l_times_row c3g k_times_row
 have b0q := a5z.binds (ps := ["row", "by"]) fun _ _ _ _ _ _ us hl => match us, hl with | [_, _], _ => rfl
 have b3n := a1l (st := b2z) l_delayed d0i k_delayed
 have b9t := b3n.binds (ps := ["known", "start", "many"]) fun _ _ _ _ _ _ us hl => match us, hl with | [_, _, _], _ => rfl
 have b3o := a1l (st := b5w) l_last_of d0j k_last_of
 have b9u := b3o.binds (ps := ["known", "many"]) fun _ _ _ _ _ _ us hl => match us, hl with | [_, _], _ => rfl
 have b4m := a1l (st := a7u) l_Part_grain c0w k_Part_grain
 have b9v := b4m.binds (ps := ["self"]) fun _ _ _ _ _ _ us hl => match us, hl with | [_], _ => rfl
 have b4n := a1l (st := a7v) l_Part_fresh c0y k_Part_fresh
 have a8k := b4n.binds (ps := ["self"]) fun _ _ _ _ _ _ us hl => match us, hl with | [_], _ => rfl
 have b7k := a1l (st := a9t) l_Gain_init c3h k_Gain_init
 have c2p := b7k.binds (ps := ["self", "gain"]) fun _ _ _ _ _ _ us hl => match us, hl with | [_, _], _ => rfl
 have b4o := a1l (st := a7w) l_Gain_grain c0z k_Gain_grain
 have b9w := b4o.binds (ps := ["self"]) fun _ _ _ _ _ _ us hl => match us, hl with | [_], _ => rfl
 have b0y := a1l (st := a5g) l_Gain_through b5q k_Gain_through
 have b5m := b0y.binds (ps := ["self", "state", "tops", "bottom"]) fun _ _ _ _ _ _ us hl => match us, hl with | [_, _, _, _], _ => rfl
 have b4p := a1l (st := a7y) l_Delay_init c1g k_Delay_init
 have b9y := b4p.binds (ps := ["self", "many"]) fun _ _ _ _ _ _ us hl => match us, hl with | [_, _], _ => rfl
 have a9j := a1l (st := a3v) l_Delay_through b3y k_Delay_through
 have b3p := a9j.binds (ps := ["self", "state", "tops", "bottom"]) fun _ _ _ _ _ _ us hl => match us, hl with | [_, _, _, _], _ => rfl
 have b0r := a1l (st := a9u) l_powers_of c3i k_powers_of
 have b7l := b0r.binds (ps := ["number", "most"]) fun _ _ _ _ _ _ us hl => match us, hl with | [_, _], _ => rfl
 have b7m := a1l (st := a7g) l_Echo_init c3j k_Echo_init
 have c2q := b7m.binds (ps := ["self", "gain", "many", "turns"]) fun _ _ _ _ _ _ us hl => match us, hl with | [_, _, _, _], _ => rfl
 have b4q := a1l (st := a7z) l_Echo_grain c1h k_Echo_grain
 have b9z := b4q.binds (ps := ["self"]) fun _ _ _ _ _ _ us hl => match us, hl with | [_], _ => rfl
 have b0z := a1l (st := a5h) l_Echo_through b5r k_Echo_through
 have b5n := b0z.binds (ps := ["self", "state", "tops", "bottom"]) fun _ _ _ _ _ _ us hl => match us, hl with | [_, _, _, _], _ => rfl
 have b4r := a1l (st := a8g) l_Echo_reach c1i k_Echo_reach
 have c0g := b4r.binds (ps := ["self"]) fun _ _ _ _ _ _ us hl => match us, hl with | [_], _ => rfl
 have b7n := a1l (st := a9v) l_Back_init c3k k_Back_init
 have c2r := b7n.binds (ps := ["self", "gain", "many"]) fun _ _ _ _ _ _ us hl => match us, hl with | [_, _, _], _ => rfl
 have b4s := a1l (st := a8h) l_Back_grain c1j k_Back_grain
 have c0h := b4s.binds (ps := ["self"]) fun _ _ _ _ _ _ us hl => match us, hl with | [_], _ => rfl
 have b1g := a1l (st := a5i) l_Back_through b5s k_Back_through
 have b5o := b1g.binds (ps := ["self", "state", "tops", "bottom"]) fun _ _ _ _ _ _ us hl => match us, hl with | [_, _, _, _], _ => rfl
 have a7q := a1l (st := a9w) l_read_gain c3l k_read_gain
 have b3q := a7q.binds (ps := ["text"]) fun _ _ _ _ _ _ us hl => match us, hl with | [_], _ => rfl
 have a4s := a1l (st := a6i) l_read_number b8g k_read_number
 have a9k := a4s.binds (ps := ["text", "least", "most"]) fun _ _ _ _ _ _ us hl => match us, hl with | [_, _, _], _ => rfl
 have b0s := a1l (st := a9y) l_read_many c3m k_read_many
 have b7p := b0s.binds (ps := ["text"]) fun _ _ _ _ _ _ us hl => match us, hl with | [_], _ => rfl
 have a3n := a1l (st := a6j) l_check_count b8h k_check_count
 have a6o := a3n.binds (ps := ["values", "count"]) fun _ _ _ _ _ _ us hl => match us, hl with | [_, _], _ => rfl
 have c0i := a1l (st := b5y) l_gain_of d0k k_gain_of
 have c8n := c0i.binds (ps := ["values"]) fun _ _ _ _ _ _ us hl => match us, hl with | [_], _ => rfl
 have b6l := a1l (st := b2o) l_delay_of c5z k_delay_of
 have c5o := b6l.binds (ps := ["values"]) fun _ _ _ _ _ _ us hl => match us, hl with | [_], _ => rfl
 have c0j := a1l (st := b5z) l_echo_of d0l k_echo_of
 have c8o := c0j.binds (ps := ["values"]) fun _ _ _ _ _ _ us hl => match us, hl with | [_], _ => rfl
 have c0k := a1l (st := b6g) l_back_of d0m k_back_of
 have c8p := c0k.binds (ps := ["values"]) fun _ _ _ _ _ _ us hl => match us, hl with | [_], _ => rfl
 have c0l := a1l (st := b6h) l_part_of d0n k_part_of
 have c8q := c0l.binds (ps := ["word"]) fun _ _ _ _ _ _ us hl => match us, hl with | [_], _ => rfl
 have b6m := a1l (st := a9z) l_parts_of c6g k_parts_of
 have c5p := b6m.binds (ps := ["words"]) fun _ _ _ _ _ _ us hl => match us, hl with | [_], _ => rfl
 have b4t := a1l (st := a5q) l_Chain_init c1k k_Chain_init
 have c0m := b4t.binds (ps := ["self", "words"]) fun _ _ _ _ _ _ us hl => match us, hl with | [_, _], _ => rfl
 have a9l := a1l (st := a3w) l_Chain_through b3z k_Chain_through
 have a9m := a9l.binds (ps := ["self", "tops", "bottom"]) fun _ _ _ _ _ _ us hl => match us, hl with | [_, _, _], _ => rfl
 have a1z := a1l (st := a6k) l_law_cell_at b8i k_law_cell_at
 have a2t := a1z.binds (ps := ["_law_script", "_law_k"]) fun _ _ _ _ _ _ us hl => match us, hl with | [_, _], _ => rfl
 have b0t := a1l (st := b0g) l_law_whole c3n k_law_whole
 have b7q := b0t.binds (ps := ["_law_found"]) fun _ _ _ _ _ _ us hl => match us, hl with | [_], _ => rfl
 have a9n := a1l (st := a6l) l_law_divisor b8j k_law_divisor
 have b7r := a9n.binds (ps := ["_law_one", "_law_other"]) fun _ _ _ _ _ _ us hl => match us, hl with | [_, _], _ => rfl
 have b2t := a1l (st := b2p) l_law_gain c6h k_law_gain
 have c1r := b2t.binds (ps := ["_law_cell", "_law_great"]) fun _ _ _ _ _ _ us hl => match us, hl with | [_, _], _ => rfl
 have b6n := a1l (st := b2q) l_law_tone c6i k_law_tone
 have c5q := b6n.binds (ps := ["_law_cell"]) fun _ _ _ _ _ _ us hl => match us, hl with | [_], _ => rfl
 have a4u := a1l (st := a6m) l_law_written b8k k_law_written
 have a9o := a4u.binds (ps := ["_law_gain_here"]) fun _ _ _ _ _ _ us hl => match us, hl with | [_], _ => rfl
 have b0u := a1l (st := b0h) l_law_power c3o k_law_power
 have b7t := b0u.binds (ps := ["_law_number", "_law_many"]) fun _ _ _ _ _ _ us hl => match us, hl with | [_, _], _ => rfl
 have b3r := a1l (st := b0i) l_law_words c3p k_law_words
 have c2t := b3r.binds (ps := ["_law_gain_here", "_law_more", "_law_many", "_law_turns", "_law_far", "_law_pick"]) fun _ _ _ _ _ _ us hl => match us, hl with | [_, _, _, _, _, _], _ => rfl
 have b6o := a1l (st := b6i) l_law_due d0o k_law_due
 have c4j := b6o.binds (ps := ["_law_row", "_law_at"]) fun _ _ _ _ _ _ us hl => match us, hl with | [_, _], _ => rfl
 have b0v := a1l (st := b0j) l_law_right c3q k_law_right
 have b7u := b0v.binds (ps := ["_law_found", "_law_block", "_law_row", "_law_start", "_law_told"]) fun _ _ _ _ _ _ us hl => match us, hl with | [_, _, _, _, _], _ => rfl
 have g1v := a1l (st := d8p) l_law g6w k_law
 have h1f := g1v.binds (ps := ["_law_script"]) fun _ _ _ _ _ _ us hl => match us, hl with | [_], _ => rfl
 have T : Tx K mg ⟨_, _, _, _, _, _, _, _, _, _, _, _, _, _, _, _, _, _, _, _, _, _, _, _, _, _, _, _, _, _, _, _, _, _, _, _, _, _, _, _, _, _, _, _, _, _, _, _, _, _, _, _, _, _, _, _, _, _, _, _, _, _, _, _, _, _, _, _, _, _, _, _, _, _, _, _, _, _, _, _, _, _, _, _, _, _, _, _, _, _, _, _, _, _, _, _, _, _, _, _, _, _, _, _, _, _, _, _, _, _, _, _, w⟩ := ⟨b2s, c1q, PySem.W.mg_of X G a_is_whole, a8i, b4k, PySem.W.mg_of X G a_is_figures, b6j, c5m, PySem.W.mg_of X G a_whole_of, b9s, c8g, PySem.W.mg_of X G a_divisor, b6k, c5n, PySem.W.mg_of X G a_fraction, a5w, b3l, PySem.W.mg_of X G a_fraction_text, a5y, b3m, PySem.W.mg_of X G a_read_fraction, a8j, b4l, PySem.W.mg_of X G a_added_rows, a5z, b0q, PySem.W.mg_of X G a_times_row, b3n, b9t, PySem.W.mg_of X G a_delayed, b3o, b9u, PySem.W.mg_of X G a_last_of, b4m, b9v, b4n, a8k, b7k, c2p, b4o, b9w, b0y, b5m, b4p, b9y, a9j, b3p, b0r, b7l, PySem.W.mg_of X G a_powers_of, b7m, c2q, b4q, b9z, b0z, b5n, b4r, c0g, b7n, c2r, b4s, c0h, b1g, b5o, a7q, b3q, PySem.W.mg_of X G a_read_gain, a4s, a9k, PySem.W.mg_of X G a_read_number, b0s, b7p, PySem.W.mg_of X G a_read_many, a3n, a6o, PySem.W.mg_of X G a_check_count, c0i, c8n, PySem.W.mg_of X G a_gain_of, b6l, c5o, PySem.W.mg_of X G a_delay_of, c0j, c8o, PySem.W.mg_of X G a_echo_of, c0k, c8p, PySem.W.mg_of X G a_back_of, c0l, c8q, PySem.W.mg_of X G a_part_of, b6m, c5p, PySem.W.mg_of X G a_parts_of, b4t, c0m, a9l, a9m, a1z, a2t, PySem.W.mg_of X G a_law_cell_at, b0t, b7q, PySem.W.mg_of X G a_law_whole, a9n, b7r, PySem.W.mg_of X G a_law_divisor, b2t, c1r, PySem.W.mg_of X G a_law_gain, b6n, c5q, PySem.W.mg_of X G a_law_tone, a4u, a9o, PySem.W.mg_of X G a_law_written, b0u, b7t, PySem.W.mg_of X G a_law_power, b3r, c2t, PySem.W.mg_of X G a_law_words, b6o, c4j, PySem.W.mg_of X G a_law_due, b0v, b7u, PySem.W.mg_of X G a_law_right, g1v, h1f, PySem.W.mg_of X G a_law, PySem.W.mg_none_of X G d3i, PySem.W.mg_none_of X G d1u, PySem.W.mg_none_of X G d0u, PySem.W.mg_none_of X G a1u, PySem.W.mg_none_of X G b4g, PySem.W.mg_none_of X G c1y, PySem.W.mg_none_of X G f8i, PySem.W.mg_none_of X G f8j, PySem.W.mg_none_of X G b3s, PySem.W.mg_none_of X G c6y, PySem.W.mg_none_of X G c2u, PySem.W.mg_none_of X G f8k, PySem.W.mg_of X G d3j, PySem.W.mg_of X G c8u, PySem.W.mg_of X G c4k, PySem.W.mg_of X G c8v, PySem.W.mg_of X G c8w, PySem.W.mg_of X G c4l, ⟨cl_Part_pg, cl_Part_hd, cl_Part_po, cl_Part_sa⟩, ⟨a_Part_grain, me_Part_grain_fn, k_Part_grain⟩, ⟨a_Part_fresh, me_Part_fresh_fn, k_Part_fresh⟩, ⟨cl_Gain_pg, cl_Gain_hd, cl_Gain_po, cl_Gain_sa⟩, a1i, ⟨mk_Gain_ma, a_Gain_init, me_Gain___init___fn, mk_Gain_kp⟩, ⟨a_Gain_grain, me_Gain_grain_fn, k_Gain_grain⟩, ⟨a_Gain_through, me_Gain_through_fn, k_Gain_through⟩, ⟨me_Gain_fresh_at, me_Gain_fresh_fn, k_Part_fresh⟩, ⟨cl_Delay_pg, cl_Delay_hd, cl_Delay_po, cl_Delay_sa⟩, a1m, ⟨mk_Delay_ma, a_Delay_init, me_Delay___init___fn, mk_Delay_kp⟩, ⟨a_Delay_through, me_Delay_through_fn, k_Delay_through⟩, ⟨me_Delay_grain_at, me_Delay_grain_fn, k_Part_grain⟩, ⟨me_Delay_fresh_at, me_Delay_fresh_fn, k_Part_fresh⟩, ⟨cl_Echo_pg, cl_Echo_hd, cl_Echo_po, cl_Echo_sa⟩, a0y, a0z, a0u, a0o, a0m, ⟨mk_Echo_ma, a_Echo_init, me_Echo___init___fn, mk_Echo_kp⟩, ⟨a_Echo_grain, me_Echo_grain_fn, k_Echo_grain⟩, ⟨a_Echo_through, me_Echo_through_fn, k_Echo_through⟩, ⟨a_Echo_reach, me_Echo_reach_fn, k_Echo_reach⟩, ⟨me_Echo_fresh_at, me_Echo_fresh_fn, k_Part_fresh⟩, ⟨cl_Back_pg, cl_Back_hd, cl_Back_po, cl_Back_sa⟩, a1j, a1k, ⟨mk_Back_ma, a_Back_init, me_Back___init___fn, mk_Back_kp⟩, ⟨a_Back_grain, me_Back_grain_fn, k_Back_grain⟩, ⟨a_Back_through, me_Back_through_fn, k_Back_through⟩, ⟨me_Back_fresh_at, me_Back_fresh_fn, k_Part_fresh⟩, ⟨cl_Chain_pg, cl_Chain_hd, cl_Chain_po, cl_Chain_sa⟩, a1v, a1q, ⟨mk_Chain_ma, a_Chain_init, me_Chain___init___fn, mk_Chain_kp⟩, ⟨a_Chain_through, me_Chain_through_fn, k_Chain_through⟩, PySem.W.mg_of X G b6p, ⟨_, rfl⟩, PySem.W.mg_of X G a2j, ⟨_, rfl⟩, PySem.W.mg_of X G a2k, ⟨_, rfl⟩, PySem.W.mg_of X G a8l, ⟨_, rfl⟩, PySem.W.mg_of X G a8m, ⟨_, rfl⟩, PySem.W.mg_of X G a9p, ⟨_, rfl⟩, PySem.W.mg_of X G a9q, ⟨_, rfl⟩, PySem.W.mg_of X G a6q, ⟨⟨_, _, ld_READERS, kd_READERS⟩, nd_READERS⟩, a4g, a3j, a4h, a4i⟩
 exact ⟨_, fun s v => .of_eq rfl, fun base _ _ => h2f T⟩
end My
namespace PySem.W.Fast
theorem tw15655571006559911642:True:=trivial
theorem tw4515408007456637496:True:=trivial
theorem tw17768507407676144850:True:=trivial
theorem tw16598980225741133614:True:=trivial
theorem tw1272328484196285480:True:=trivial
theorem tw14966240182140938950:True:=trivial
theorem tw7069837409495105049:True:=trivial
theorem tw14174515001782831966:True:=trivial
theorem tw4751007244361365486:True:=trivial
theorem tw12664244051273218903:True:=trivial
theorem tw18050102335254901632:True:=trivial
theorem tw6452214730601976547:True:=trivial
theorem tw12177055619851079502:True:=trivial
theorem tw1927164255247722331:True:=trivial
theorem tw17617728031538996246:True:=trivial
theorem tw18018526244860942171:True:=trivial
theorem tw2683237846328813625:True:=trivial
theorem tw11784648951815670418:True:=trivial
theorem tw4112269177134298834:True:=trivial
theorem tw6715723581668602547:True:=trivial
theorem tw10925630254059280211:True:=trivial
theorem tw2407640588310251960:True:=trivial
theorem tw6200537954780743520:True:=trivial
theorem tw8887340415029520797:True:=trivial
theorem tw5719962097532757362:True:=trivial
theorem tw16515499939443715839:True:=trivial
theorem tw580093098147561305:True:=trivial
theorem tw15081036131024743896:True:=trivial
theorem tw1791826225371760679:True:=trivial
theorem tw9370865559184804452:True:=trivial
theorem tw15911182965600625157:True:=trivial
theorem tw18078311738758748397:True:=trivial
theorem tw7357340262089534691:True:=trivial
theorem tw9058793678723038877:True:=trivial
theorem tw15441784915820132676:True:=trivial
theorem tw9600158729579349000:True:=trivial
theorem tw3679627320323438823:True:=trivial
theorem tw12152409719333371226:True:=trivial
theorem tw1045419005421174520:True:=trivial
theorem tw11220927280359981408:True:=trivial
theorem tw5081597831801745757:True:=trivial
theorem tw17240618650603721768:True:=trivial
theorem tw7400306333686706846:True:=trivial
theorem tw5715040933373259535:True:=trivial
theorem tw12442450870340175241:True:=trivial
theorem tw9278891718026270598:True:=trivial
theorem tw10217140011718387978:True:=trivial
theorem tw16743304413202270661:True:=trivial
theorem tw16265003230163672239:True:=trivial
theorem tw18173355462056758886:True:=trivial
theorem tw12370351604385065038:True:=trivial
theorem tw7642518793045807405:True:=trivial
theorem tw15100206836358419576:True:=trivial
theorem tw10242487803139529065:True:=trivial
theorem tw4751001058024342261:True:=trivial
theorem tw10751360211705985354:True:=trivial
theorem tw17410301092467164874:True:=trivial
theorem tw274525422666842542:True:=trivial
theorem tw10791098721041116396:True:=trivial
theorem tw1080079743101775845:True:=trivial
theorem tw7286086742353954360:True:=trivial
theorem tw6052975512462646547:True:=trivial
theorem tw1973556864540738203:True:=trivial
theorem tw295310818091473826:True:=trivial
theorem tw3493364035661410057:True:=trivial
theorem tw11232355133581618215:True:=trivial
theorem tw12273776974555384841:True:=trivial
theorem tw2164229413124325954:True:=trivial
theorem tw16226949912883372692:True:=trivial
theorem tw17222637040857129126:True:=trivial
theorem tw15598854553811779359:True:=trivial
theorem tw8441506562250999989:True:=trivial
theorem tw16381139779354765373:True:=trivial
theorem tw14347898004315572344:True:=trivial
theorem tw6688692943742812923:True:=trivial
theorem tw10110876414171479060:True:=trivial
theorem tw11322312807499351095:True:=trivial
theorem tw1280281703067655394:True:=trivial
theorem tw15478287418187411355:True:=trivial
theorem tw17210975505201962095:True:=trivial
theorem tw6327833588970574658:True:=trivial
theorem tw15919497927860872997:True:=trivial
theorem tw13870512244553443109:True:=trivial
theorem tw2350556265558377440:True:=trivial
theorem tw13765040807951055503:True:=trivial
theorem tw17549518205895732683:True:=trivial
theorem tw14246708095423811221:True:=trivial
theorem tw1927353772827746279:True:=trivial
theorem tw10775851402118140912:True:=trivial
theorem tw12247789908105075015:True:=trivial
theorem tw5982575703994733331:True:=trivial
theorem tw5486166313488266237:True:=trivial
theorem tw14106411250817232310:True:=trivial
theorem tw12746123287857468244:True:=trivial
theorem tw12527144384522474438:True:=trivial
theorem tw14954846752213462888:True:=trivial
theorem tw15241537386252662501:True:=trivial
theorem tw16016109876805483101:True:=trivial
theorem tw14991773573693122531:True:=trivial
theorem tw4192400322261629383:True:=trivial
theorem tw1729479487617208640:True:=trivial
theorem tw3048572120274287431:True:=trivial
theorem tw13130439468470921446:True:=trivial
theorem tw5396834554424172401:True:=trivial
theorem tw11715722631522200647:True:=trivial
theorem tw8145755328301108504:True:=trivial
theorem tw5450317418502704980:True:=trivial
theorem tw13530647218171886781:True:=trivial
theorem tw159761886186825063:True:=trivial
theorem tw2530208016161863837:True:=trivial
theorem tw13346030699097342884:True:=trivial
theorem tw16063867803666020370:True:=trivial
theorem tw1223168192289955555:True:=trivial
theorem tw8905315975965078820:True:=trivial
theorem tw16812115829458749165:True:=trivial
theorem tw18379592799769726266:True:=trivial
theorem tw9443171353955524415:True:=trivial
theorem tw14991813668372880396:True:=trivial
theorem tw3765098669637611942:True:=trivial
theorem tw3020047998493993237:True:=trivial
theorem tw3620953472371906038:True:=trivial
theorem tw7636583241233314976:True:=trivial
theorem tw6183393663564121856:True:=trivial
theorem tw13668388763587633760:True:=trivial
theorem tw14170751685802123029:True:=trivial
theorem tw8555220590243524967:True:=trivial
theorem tw3122472390405770985:True:=trivial
theorem tw6678482343915928774:True:=trivial
theorem tw3182375421824938706:True:=trivial
theorem tw9484054160321917176:True:=trivial
theorem tw1517256696706623878:True:=trivial
theorem tw15614205761215984615:True:=trivial
theorem tw5401645904013494926:True:=trivial
theorem tw12230079808481895821:True:=trivial
theorem tw17471862871595983418:True:=trivial
theorem tw6201500738061027524:True:=trivial
theorem tw8024532154201756028:True:=trivial
theorem tw14200637073374189385:True:=trivial
theorem tw510957484767160459:True:=trivial
theorem tw5474866168066907534:True:=trivial
theorem tw846958989719654907:True:=trivial
theorem tw405506311851656150:True:=trivial
theorem tw8024878079022640294:True:=trivial
theorem tw4144169929933077998:True:=trivial
theorem tw8036065236293882289:True:=trivial
theorem tw10098107391553341153:True:=trivial
theorem tw6344793299470460630:True:=trivial
theorem tw14794038007028882576:True:=trivial
theorem tw2577576158414987954:True:=trivial
theorem tw15439336976019851774:True:=trivial
theorem tw6999311324089627685:True:=trivial
theorem tw18132384222565258033:True:=trivial
theorem tw6050107522180846450:True:=trivial
theorem tw13959672535786969191:True:=trivial
theorem tw5913806775044139543:True:=trivial
theorem tw2241746246543493486:True:=trivial
theorem tw11112804601057971862:True:=trivial
theorem tw17312517363444669650:True:=trivial
theorem tw3460173447467738873:True:=trivial
theorem tw13688622658603752562:True:=trivial
theorem tw3159298832192759361:True:=trivial
theorem tw54393818333862657:True:=trivial
theorem tw10087968912394540454:True:=trivial
theorem tw12382233996487944797:True:=trivial
theorem tw7012639813721775215:True:=trivial
theorem tw4715407955833171015:True:=trivial
theorem tw8848893615048030040:True:=trivial
theorem tw2846093138215131072:True:=trivial
theorem tw9283619016416973251:True:=trivial
theorem tw15618445368652966168:True:=trivial
theorem tw3311936644619863650:True:=trivial
theorem tw950237706768613613:True:=trivial
theorem tw10827226003008907196:True:=trivial
theorem tw11606550304389009949:True:=trivial
theorem tw10231849157176783423:True:=trivial
theorem tw8937935103779189305:True:=trivial
theorem tw7880438285821177083:True:=trivial
theorem tw9693439926816092131:True:=trivial
theorem tw678084207339738506:True:=trivial
theorem tw17458304998432407798:True:=trivial
theorem tw15395816707872368083:True:=trivial
theorem tw13117420637247287582:True:=trivial
theorem tw9756124817957041017:True:=trivial
theorem tw3872659365956988050:True:=trivial
theorem tw17711138465049863612:True:=trivial
theorem tw15574576697327896330:True:=trivial
theorem tw18366088042328006395:True:=trivial
theorem tw16537978423247969133:True:=trivial
theorem tw2986139129570686:True:=trivial
theorem tw18320625435356939520:True:=trivial
theorem tw7200637091059220202:True:=trivial
theorem tw8377253570646276085:True:=trivial
theorem tw7942781501068524094:True:=trivial
theorem tw8257127344026633727:True:=trivial
theorem tw13826517856636587514:True:=trivial
theorem tw17108762616516351941:True:=trivial
theorem tw16350150441980462865:True:=trivial
theorem tw13772674813139030174:True:=trivial
theorem tw10823817026271211537:True:=trivial
theorem tw8597323141556016185:True:=trivial
theorem tw12720228425428419471:True:=trivial
theorem tw17166093706060156412:True:=trivial
theorem tw13358280770171518640:True:=trivial
theorem tw4883176200029686638:True:=trivial
theorem tw768298079203208483:True:=trivial
theorem tw8010938354447143448:True:=trivial
theorem tw10944506930622781668:True:=trivial
theorem tw17278086349585626486:True:=trivial
theorem tw2654876260410180090:True:=trivial
theorem tw13517166177932203240:True:=trivial
theorem tw5288371853713709762:True:=trivial
theorem tw13228813366072822943:True:=trivial
theorem tw8574786567486006649:True:=trivial
theorem tw7567627885144981764:True:=trivial
theorem tw1270715649345163068:True:=trivial
theorem tw1154609009869427546:True:=trivial
theorem tw4327886967321644484:True:=trivial
theorem tw16435047297369777617:True:=trivial
theorem tw3204046687786230715:True:=trivial
theorem tw5877944610998627293:True:=trivial
theorem tw9623989362153377719:True:=trivial
theorem tw974398718101858877:True:=trivial
theorem tw13415810708479212735:True:=trivial
theorem tw17833230771653660176:True:=trivial
theorem tw47328118292383697:True:=trivial
theorem tw11387579252363968267:True:=trivial
theorem tw13318915476846018466:True:=trivial
theorem tw14320598180056172606:True:=trivial
theorem tw5463159875642624591:True:=trivial
theorem tw7283403052965817768:True:=trivial
theorem tw9310316192181525545:True:=trivial
theorem tw11887311671324048140:True:=trivial
theorem tw4057734793415375503:True:=trivial
theorem tw17748006593488952667:True:=trivial
theorem tw12028149478223144061:True:=trivial
theorem tw1574110797313131630:True:=trivial
theorem tw6445202414475953542:True:=trivial
theorem tw15439303786537810151:True:=trivial
theorem tw3789414642541298402:True:=trivial
theorem tw6073213320933499433:True:=trivial
theorem tw3042373488347390961:True:=trivial
theorem tw3283657593200353283:True:=trivial
theorem tw6485152477252072015:True:=trivial
theorem tw13472215007985428905:True:=trivial
theorem tw14411976324814620977:True:=trivial
theorem tw16052582291685688903:True:=trivial
theorem tw3866518056351460796:True:=trivial
theorem tw4725671919813494287:True:=trivial
theorem tw10471400008546882655:True:=trivial
theorem tw16317999865279001725:True:=trivial
theorem tw1909511231959140920:True:=trivial
theorem tw17351902553913663454:True:=trivial
theorem tw15811313339296840025:True:=trivial
theorem tw17230189233117884037:True:=trivial
theorem tw9322317565897934643:True:=trivial
theorem tw10728436651579071314:True:=trivial
theorem tw13036743073476316467:True:=trivial
theorem tw13618588891796527922:True:=trivial
theorem tw6022504242487017529:True:=trivial
theorem tw11640587725668208217:True:=trivial
theorem tw3453761544706093228:True:=trivial
theorem tw3363759331990335655:True:=trivial
theorem tw451689952372095270:True:=trivial
theorem tw17770512255471035712:True:=trivial
theorem tw13974998896347460614:True:=trivial
theorem tw13098828972467488009:True:=trivial
theorem tw2306565522592609143:True:=trivial
theorem tw8040280623979667464:True:=trivial
theorem tw11612064726395857622:True:=trivial
theorem tw11809992749337763974:True:=trivial
theorem tw10781971202173836391:True:=trivial
theorem tw10173909614658518266:True:=trivial
theorem tw11876665803796908119:True:=trivial
theorem tw12681190690286872679:True:=trivial
theorem tw7577429580806828563:True:=trivial
theorem tw3299465574601728429:True:=trivial
theorem tw4513671977718237903:True:=trivial
theorem tw16052626121496775744:True:=trivial
theorem tw13373433951897661178:True:=trivial
theorem tw1190433646587764719:True:=trivial
theorem tw2867888650254079457:True:=trivial
theorem tw15324957250601575507:True:=trivial
theorem tw2015703776803373435:True:=trivial
theorem tw7788295599723684316:True:=trivial
theorem tw15874955176872476494:True:=trivial
theorem tw1739544518620951805:True:=trivial
theorem tw15824317858286914676:True:=trivial
theorem tw1002162571573563561:True:=trivial
theorem tw16272773012686228080:True:=trivial
theorem tw2995303349078094637:True:=trivial
theorem tw7689589493838691576:True:=trivial
theorem tw17686411909240300237:True:=trivial
theorem tw8577555898407038560:True:=trivial
theorem tw12815661210395027068:True:=trivial
theorem tw14705368061519689911:True:=trivial
theorem tw12773774137244405583:True:=trivial
theorem tw3588344770335169327:True:=trivial
theorem tw5747974103074778511:True:=trivial
theorem tw9632183471689010315:True:=trivial
theorem tw3776355543249039004:True:=trivial
theorem tw15114915361779536398:True:=trivial
theorem tw5854330370136743745:True:=trivial
theorem tw7622063101560633952:True:=trivial
theorem tw2674770248419748927:True:=trivial
theorem tw12690717109692385180:True:=trivial
theorem tw7739244404198639697:True:=trivial
theorem tw1580148000273322862:True:=trivial
theorem tw18422067993262841682:True:=trivial
theorem tw2609722814300918018:True:=trivial
theorem tw8633959555658902706:True:=trivial
theorem tw1009992758820422510:True:=trivial
theorem tw7239374799405183737:True:=trivial
theorem tw17995663069082615189:True:=trivial
theorem tw5843788208900462130:True:=trivial
theorem tw12642563454548084209:True:=trivial
theorem tw969357520154281836:True:=trivial
theorem tw1585850753628114151:True:=trivial
theorem tw11987250022325158060:True:=trivial
theorem tw6070649843683402916:True:=trivial
theorem tw12468440206887324726:True:=trivial
theorem tw10238873657838009008:True:=trivial
theorem tw12165752003547317852:True:=trivial
theorem tw6898420475541681376:True:=trivial
theorem tw10418708238966868449:True:=trivial
theorem tw13791602628528384916:True:=trivial
theorem tw17920109253470936541:True:=trivial
theorem tw16872498780790222922:True:=trivial
theorem tw17940556594421928332:True:=trivial
theorem tw6822161157801455801:True:=trivial
theorem tw2509473290750673099:True:=trivial
theorem tw18017469910834200441:True:=trivial
theorem tw15160676270165815460:True:=trivial
theorem tw10808876467543355433:True:=trivial
theorem tw12217887320494531099:True:=trivial
theorem tw6908080059229892697:True:=trivial
theorem tw10016892281325583163:True:=trivial
theorem tw14867888396868244491:True:=trivial
theorem tw13473364400523437134:True:=trivial
theorem tw8039352818169302863:True:=trivial
theorem tw15609376247903242399:True:=trivial
theorem tw12751187279705136347:True:=trivial
theorem tw5077701158714562321:True:=trivial
theorem tw5179413657508271072:True:=trivial
theorem tw3618400445644433646:True:=trivial
theorem tw5291117922848617026:True:=trivial
theorem tw3358670924936651880:True:=trivial
theorem tw14575193945311067349:True:=trivial
theorem tw6929896667802174215:True:=trivial
theorem tw1957477944926127090:True:=trivial
theorem tw2013818721766611117:True:=trivial
theorem tw2195108583745708994:True:=trivial
theorem tw6587949089148311360:True:=trivial
theorem tw17155379596060341878:True:=trivial
theorem tw6851601756563228251:True:=trivial
theorem tw9562023671187323883:True:=trivial
theorem tw2222528221497644971:True:=trivial
theorem tw13180171177808513708:True:=trivial
theorem tw11026133299762459942:True:=trivial
theorem tw9581040396013175004:True:=trivial
theorem tw14998780220202853530:True:=trivial
theorem tw17521835585403169604:True:=trivial
theorem tw3407342443033049004:True:=trivial
theorem tw10252736651314414890:True:=trivial
theorem tw11854329164044419355:True:=trivial
theorem tw10923821177635258954:True:=trivial
theorem tw16344479569571925503:True:=trivial
theorem tw8270274051480796825:True:=trivial
theorem tw1318794672271234592:True:=trivial
theorem tw7802743388219597872:True:=trivial
theorem tw6910672255879773599:True:=trivial
theorem tw16491201605663854879:True:=trivial
theorem tw8432009568725325894:True:=trivial
theorem tw11956066636499323084:True:=trivial
theorem tw7524801082948085352:True:=trivial
theorem tw13236581739274270429:True:=trivial
theorem tw8983348864801422831:True:=trivial
theorem tw13446684345082935127:True:=trivial
theorem tw4126605431645059668:True:=trivial
theorem tw6090462513223601621:True:=trivial
theorem tw6715271701520439129:True:=trivial
theorem tw11919218944917806341:True:=trivial
theorem tw16906468722751562068:True:=trivial
theorem tw8170371959626001026:True:=trivial
theorem tw9858865539601619864:True:=trivial
theorem tw2171961061083353197:True:=trivial
theorem tw10683673936171944197:True:=trivial
theorem tw314700764440854712:True:=trivial
theorem tw8413333222042040865:True:=trivial
theorem tw5689916924545527248:True:=trivial
theorem tw1678186665749516016:True:=trivial
theorem tw1507367273478388543:True:=trivial
theorem tw16944214547960562123:True:=trivial
theorem tw6394312963733416165:True:=trivial
theorem tw1288343409893186437:True:=trivial
theorem tw15244097508366474186:True:=trivial
theorem tw2308887583898600661:True:=trivial
theorem tw18435642356109404164:True:=trivial
theorem tw505976884201517875:True:=trivial
theorem tw9186415408228133995:True:=trivial
theorem tw17730886819780226694:True:=trivial
end PySem.W.Fast
open PySem PySem.W PyProof.Rows
set_option maxRecDepth 100000 in
set_option maxHeartbeats 0 in
theorem PySem.Challenge.cw_mixbench_k43_whole_taken_back_holds : PySem.Challenge.rw_mixbench_k43_whole_taken_back.Holds := by
 w_on; o_law; k_head; (case hw => w_witness2)
 k_fill
 refine L2.g1d (l := PySem.Challenge.rw_mixbench_k43_whole_taken_back) (k := 12) (x := "_law_script") (CX := fun _ => L2.CX0) rfl rfl ⟨rfl, by decide, by decide⟩ (fun w h Y => PySem.W.kIn_of Y) ?F (fun _ _ _ _ _ z => z)
 case F =>
  intro w mg fa h KX G hmg
  refine' My.all_mk KX G hmg ?d3j ?c8u ?c4k ?c8v ?c8w ?c4l ?a_is_whole ?l_is_whole ?c5v ?k_is_whole ?a_is_figures ?l_is_figures ?c0u ?k_is_figures ?a_whole_of ?l_whole_of ?c5w ?k_whole_of ?a_divisor ?l_divisor ?d0h ?k_divisor ?a_fraction ?l_fraction ?c5y ?k_fraction ?a_fraction_text ?l_fraction_text ?b3v ?k_fraction_text ?a_read_fraction ?l_read_fraction ?b3w ?k_read_fraction ?a_added_rows ?l_added_rows ?c0v ?k_added_rows ?a_times_row ?l_times_row ?c3g ?k_times_row ?a_delayed ?l_delayed ?d0i ?k_delayed ?a_last_of ?l_last_of ?d0j ?k_last_of ?a_Part_grain ?l_Part_grain ?c0w ?k_Part_grain ?a_Part_fresh ?l_Part_fresh ?c0y ?k_Part_fresh ?a_Gain_init ?l_Gain_init ?c3h ?k_Gain_init ?a_Gain_grain ?l_Gain_grain ?c0z ?k_Gain_grain ?a_Gain_through ?l_Gain_through ?b5q ?k_Gain_through ?a_Delay_init ?l_Delay_init ?c1g ?k_Delay_init ?a_Delay_through ?l_Delay_through ?b3y ?k_Delay_through ?a_powers_of ?l_powers_of ?c3i ?k_powers_of ?a_Echo_init ?l_Echo_init ?c3j ?k_Echo_init ?a_Echo_grain ?l_Echo_grain ?c1h ?k_Echo_grain ?a_Echo_through ?l_Echo_through ?b5r ?k_Echo_through ?a_Echo_reach ?l_Echo_reach ?c1i ?k_Echo_reach ?a_Back_init ?l_Back_init ?c3k ?k_Back_init ?a_Back_grain ?l_Back_grain ?c1j ?k_Back_grain ?a_Back_through ?l_Back_through ?b5s ?k_Back_through ?a_read_gain ?l_read_gain ?c3l ?k_read_gain ?a_read_number ?l_read_number ?b8g ?k_read_number ?a_read_many ?l_read_many ?c3m ?k_read_many ?a_check_count ?l_check_count ?b8h ?k_check_count ?a_gain_of ?l_gain_of ?d0k ?k_gain_of ?a_delay_of ?l_delay_of ?c5z ?k_delay_of ?a_echo_of ?l_echo_of ?d0l ?k_echo_of ?a_back_of ?l_back_of ?d0m ?k_back_of ?a_part_of ?l_part_of ?d0n ?k_part_of ?a_parts_of ?l_parts_of ?c6g ?k_parts_of ?a_Chain_init ?l_Chain_init ?c1k ?k_Chain_init ?a_Chain_through ?l_Chain_through ?b3z ?k_Chain_through ?a_law_cell_at ?l_law_cell_at ?b8i ?k_law_cell_at ?a_law_whole ?l_law_whole ?c3n ?k_law_whole ?a_law_divisor ?l_law_divisor ?b8j ?k_law_divisor ?a_law_gain ?l_law_gain ?c6h ?k_law_gain ?a_law_tone ?l_law_tone ?c6i ?k_law_tone ?a_law_written ?l_law_written ?b8k ?k_law_written ?a_law_power ?l_law_power ?c3o ?k_law_power ?a_law_words ?l_law_words ?c3p ?k_law_words ?a_law_due ?l_law_due ?d0o ?k_law_due ?a_law_right ?l_law_right ?c3q ?k_law_right ?a_law ?l_law ?g6w ?k_law ?d3i ?d1u ?d0u ?a1u ?b4g ?c1y ?f8i ?f8j ?b3s ?c6y ?c2u ?f8k ?cl_Part_pg ?cl_Part_hd ?cl_Part_po ?cl_Part_sa ?me_Part_grain_fn ?me_Part_fresh_fn ?cl_Gain_pg ?cl_Gain_hd ?cl_Gain_po ?cl_Gain_sa ?a1i ?me_Gain___init___fn ?mk_Gain_ma ?mk_Gain_kp ?me_Gain_grain_fn ?me_Gain_through_fn ?me_Gain_fresh_at ?me_Gain_fresh_fn ?cl_Delay_pg ?cl_Delay_hd ?cl_Delay_po ?cl_Delay_sa ?a1m ?me_Delay___init___fn ?mk_Delay_ma ?mk_Delay_kp ?me_Delay_through_fn ?me_Delay_grain_at ?me_Delay_grain_fn ?me_Delay_fresh_at ?me_Delay_fresh_fn ?cl_Echo_pg ?cl_Echo_hd ?cl_Echo_po ?cl_Echo_sa ?a0y ?a0z ?a0u ?a0o ?a0m ?me_Echo___init___fn ?mk_Echo_ma ?mk_Echo_kp ?me_Echo_grain_fn ?me_Echo_through_fn ?me_Echo_reach_fn ?me_Echo_fresh_at ?me_Echo_fresh_fn ?cl_Back_pg ?cl_Back_hd ?cl_Back_po ?cl_Back_sa ?a1j ?a1k ?me_Back___init___fn ?mk_Back_ma ?mk_Back_kp ?me_Back_grain_fn ?me_Back_through_fn ?me_Back_fresh_at ?me_Back_fresh_fn ?cl_Chain_pg ?cl_Chain_hd ?cl_Chain_po ?cl_Chain_sa ?a1v ?a1q ?me_Chain___init___fn ?mk_Chain_ma ?mk_Chain_kp ?me_Chain_through_fn ?b6p ?a2j ?a2k ?a8l ?a8m ?a9p ?a9q ?a6q ?ld_READERS ?kd_READERS ?nd_READERS ?a4g ?a3j ?a4h ?a4i
  (case d3j => k_is)
  (case c8u => k_is)
  (case c4k => k_is)
  (case c8v => k_is)
  (case c8w => k_is)
  (case c4l => k_is)
  (case a_is_whole => k_is)
  (case l_is_whole => k_is)
  (case c5v => k_is)
  (case k_is_whole => k_is)
  (case a_is_figures => k_is)
  (case l_is_figures => k_is)
  (case c0u => k_is)
  (case k_is_figures => k_is)
  (case a_whole_of => k_is)
  (case l_whole_of => k_is)
  (case c5w => k_is)
  (case k_whole_of => k_is)
  (case a_divisor => k_is)
  (case l_divisor => k_is)
  (case d0h => k_is)
  (case k_divisor => k_is)
  (case a_fraction => k_is)
  (case l_fraction => k_is)
  (case c5y => k_is)
  (case k_fraction => k_is)
  (case a_fraction_text => k_is)
  (case l_fraction_text => k_is)
  (case b3v => k_is)
  (case k_fraction_text => k_is)
  (case a_read_fraction => k_is)
  (case l_read_fraction => k_is)
  (case b3w => k_is)
  (case k_read_fraction => k_is)
  (case a_added_rows => k_is)
  (case l_added_rows => k_is)
  (case c0v => k_is)
  (case k_added_rows => k_is)
  (case a_times_row => k_is)
  (case l_times_row => k_is)
  (case c3g => k_is)
  (case k_times_row => k_is)
  (case a_delayed => k_is)
  (case l_delayed => k_is)
  (case d0i => k_is)
  (case k_delayed => k_is)
  (case a_last_of => k_is)
  (case l_last_of => k_is)
  (case d0j => k_is)
  (case k_last_of => k_is)
  (case a_Part_grain => k_is)
  (case l_Part_grain => k_is)
  (case c0w => k_is)
  (case k_Part_grain => k_is)
  (case a_Part_fresh => k_is)
  (case l_Part_fresh => k_is)
  (case c0y => k_is)
  (case k_Part_fresh => k_is)
  (case a_Gain_init => k_is)
  (case l_Gain_init => k_is)
  (case c3h => k_is)
  (case k_Gain_init => k_is)
  (case a_Gain_grain => k_is)
  (case l_Gain_grain => k_is)
  (case c0z => k_is)
  (case k_Gain_grain => k_is)
  (case a_Gain_through => k_is)
  (case l_Gain_through => k_is)
  (case b5q => k_is)
  (case k_Gain_through => k_is)
  (case a_Delay_init => k_is)
  (case l_Delay_init => k_is)
  (case c1g => k_is)
  (case k_Delay_init => k_is)
  (case a_Delay_through => k_is)
  (case l_Delay_through => k_is)
  (case b3y => k_is)
  (case k_Delay_through => k_is)
  (case a_powers_of => k_is)
  (case l_powers_of => k_is)
  (case c3i => k_is)
  (case k_powers_of => k_is)
  (case a_Echo_init => k_is)
  (case l_Echo_init => k_is)
  (case c3j => k_is)
  (case k_Echo_init => k_is)
  (case a_Echo_grain => k_is)
  (case l_Echo_grain => k_is)
  (case c1h => k_is)
  (case k_Echo_grain => k_is)
  (case a_Echo_through => k_is)
  (case l_Echo_through => k_is)
  (case b5r => k_is)
  (case k_Echo_through => k_is)
  (case a_Echo_reach => k_is)
  (case l_Echo_reach => k_is)
  (case c1i => k_is)
  (case k_Echo_reach => k_is)
  (case a_Back_init => k_is)
  (case l_Back_init => k_is)
  (case c3k => k_is)
  (case k_Back_init => k_is)
  (case a_Back_grain => k_is)
  (case l_Back_grain => k_is)
  (case c1j => k_is)
  (case k_Back_grain => k_is)
  (case a_Back_through => k_is)
  (case l_Back_through => k_is)
  (case b5s => k_is)
  (case k_Back_through => k_is)
  (case a_read_gain => k_is)
  (case l_read_gain => k_is)
  (case c3l => k_is)
  (case k_read_gain => k_is)
  (case a_read_number => k_is)
  (case l_read_number => k_is)
  (case b8g => k_is)
  (case k_read_number => k_is)
  (case a_read_many => k_is)
  (case l_read_many => k_is)
  (case c3m => k_is)
  (case k_read_many => k_is)
  (case a_check_count => k_is)
  (case l_check_count => k_is)
  (case b8h => k_is)
  (case k_check_count => k_is)
  (case a_gain_of => k_is)
  (case l_gain_of => k_is)
  (case d0k => k_is)
  (case k_gain_of => k_is)
  (case a_delay_of => k_is)
  (case l_delay_of => k_is)
  (case c5z => k_is)
  (case k_delay_of => k_is)
  (case a_echo_of => k_is)
  (case l_echo_of => k_is)
  (case d0l => k_is)
  (case k_echo_of => k_is)
  (case a_back_of => k_is)
  (case l_back_of => k_is)
  (case d0m => k_is)
  (case k_back_of => k_is)
  (case a_part_of => k_is)
  (case l_part_of => k_is)
  (case d0n => k_is)
  (case k_part_of => k_is)
  (case a_parts_of => k_is)
  (case l_parts_of => k_is)
  (case c6g => k_is)
  (case k_parts_of => k_is)
  (case a_Chain_init => k_is)
  (case l_Chain_init => k_is)
  (case c1k => k_is)
  (case k_Chain_init => k_is)
  (case a_Chain_through => k_is)
  (case l_Chain_through => k_is)
  (case b3z => k_is)
  (case k_Chain_through => k_is)
  (case a_law_cell_at => k_is)
  (case l_law_cell_at => k_is)
  (case b8i => k_is)
  (case k_law_cell_at => k_is)
  (case a_law_whole => k_is)
  (case l_law_whole => k_is)
  (case c3n => k_is)
  (case k_law_whole => k_is)
  (case a_law_divisor => k_is)
  (case l_law_divisor => k_is)
  (case b8j => k_is)
  (case k_law_divisor => k_is)
  (case a_law_gain => k_is)
  (case l_law_gain => k_is)
  (case c6h => k_is)
  (case k_law_gain => k_is)
  (case a_law_tone => k_is)
  (case l_law_tone => k_is)
  (case c6i => k_is)
  (case k_law_tone => k_is)
  (case a_law_written => k_is)
  (case l_law_written => k_is)
  (case b8k => k_is)
  (case k_law_written => k_is)
  (case a_law_power => k_is)
  (case l_law_power => k_is)
  (case c3o => k_is)
  (case k_law_power => k_is)
  (case a_law_words => k_is)
  (case l_law_words => k_is)
  (case c3p => k_is)
  (case k_law_words => k_is)
  (case a_law_due => k_is)
  (case l_law_due => k_is)
  (case d0o => k_is)
  (case k_law_due => k_is)
  (case a_law_right => k_is)
  (case l_law_right => k_is)
  (case c3q => k_is)
  (case k_law_right => k_is)
  (case a_law => k_is)
  (case l_law => k_is)
  (case g6w => k_is)
  (case k_law => k_is)
  (case d3i => k_is)
  (case d1u => k_is)
  (case d0u => k_is)
  (case a1u => k_is)
  (case b4g => k_is)
  (case c1y => k_is)
  (case f8i => k_is)
  (case f8j => k_is)
  (case b3s => k_is)
  (case c6y => k_is)
  (case c2u => k_is)
  (case f8k => k_is)
  (case cl_Part_pg => k_is)
  (case cl_Part_hd => k_is)
  (case cl_Part_po => k_is)
  (case cl_Part_sa => k_is)
  (case me_Part_grain_fn => k_is)
  (case me_Part_fresh_fn => k_is)
  (case cl_Gain_pg => k_is)
  (case cl_Gain_hd => k_is)
  (case cl_Gain_po => k_is)
  (case cl_Gain_sa => k_is)
  (case a1i => k_is)
  (case me_Gain___init___fn => k_is)
  (case mk_Gain_ma => k_is)
  (case mk_Gain_kp => k_is)
  (case me_Gain_grain_fn => k_is)
  (case me_Gain_through_fn => k_is)
  (case me_Gain_fresh_at => k_is)
  (case me_Gain_fresh_fn => k_is)
  (case cl_Delay_pg => k_is)
  (case cl_Delay_hd => k_is)
  (case cl_Delay_po => k_is)
  (case cl_Delay_sa => k_is)
  (case a1m => k_is)
  (case me_Delay___init___fn => k_is)
  (case mk_Delay_ma => k_is)
  (case mk_Delay_kp => k_is)
  (case me_Delay_through_fn => k_is)
  (case me_Delay_grain_at => k_is)
  (case me_Delay_grain_fn => k_is)
  (case me_Delay_fresh_at => k_is)
  (case me_Delay_fresh_fn => k_is)
  (case cl_Echo_pg => k_is)
  (case cl_Echo_hd => k_is)
  (case cl_Echo_po => k_is)
  (case cl_Echo_sa => k_is)
  (case a0y => k_is)
  (case a0z => k_is)
  (case a0u => k_is)
  (case a0o => k_is)
  (case a0m => k_is)
  (case me_Echo___init___fn => k_is)
  (case mk_Echo_ma => k_is)
  (case mk_Echo_kp => k_is)
  (case me_Echo_grain_fn => k_is)
  (case me_Echo_through_fn => k_is)
  (case me_Echo_reach_fn => k_is)
  (case me_Echo_fresh_at => k_is)
  (case me_Echo_fresh_fn => k_is)
  (case cl_Back_pg => k_is)
  (case cl_Back_hd => k_is)
  (case cl_Back_po => k_is)
  (case cl_Back_sa => k_is)
  (case a1j => k_is)
  (case a1k => k_is)
  (case me_Back___init___fn => k_is)
  (case mk_Back_ma => k_is)
  (case mk_Back_kp => k_is)
  (case me_Back_grain_fn => k_is)
  (case me_Back_through_fn => k_is)
  (case me_Back_fresh_at => k_is)
  (case me_Back_fresh_fn => k_is)
  (case cl_Chain_pg => k_is)
  (case cl_Chain_hd => k_is)
  (case cl_Chain_po => k_is)
  (case cl_Chain_sa => k_is)
  (case a1v => k_is)
  (case a1q => k_is)
  (case me_Chain___init___fn => k_is)
  (case mk_Chain_ma => k_is)
  (case mk_Chain_kp => k_is)
  (case me_Chain_through_fn => k_is)
  (case b6p => k_is)
  (case a2j => k_is)
  (case a2k => k_is)
  (case a8l => k_is)
  (case a8m => k_is)
  (case a9p => k_is)
  (case a9q => k_is)
  (case a6q => k_is)
  (case ld_READERS => k_is)
  (case kd_READERS => k_keys)
  (case nd_READERS => decide)
  (case a4g => k_is)
  (case a3j => k_is)
  (case a4h => k_is)
  (case a4i => k_is)
