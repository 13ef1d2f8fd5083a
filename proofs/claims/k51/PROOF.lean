import PyProof.Rows.All
import Wide.All
import OpenK.AllK
import Wide.FinOn
import Lean
import PyProof.EqAt
import PyProof.EqKinds
import PyProof.TupleCall
import PySem.Challenge.RW_mixbench_k51_what_was_told
set_option Elab.async false
set_option linter.all false
set_option maxRecDepth 100000
namespace L2
open PySem PySem.Spec PyProof.Rows
noncomputable abbrev Key := Sum Int Str
noncomputable def j1h : Key -> Value -> Bool
 | .inl k, v => Value.isInt k v
 | .inr x, v => Value.isStrOf x v
noncomputable def keyH (w : World) : Key -> Int
 | .inl k => hashInt k
 | .inr x => hashStr w x
theorem a6w : ∀ {k : Key} {v : Value}, j1h k v = true -> (∃ i t, k = Sum.inl i /\ v = Value.int i t) \/ (∃ x t, k = Sum.inr x /\ v = Value.str x t)
 | .inl i, v, h => by
  obtain ⟨t, e⟩ := Value.isInt_shape (k := i) (v := v) h
  exact .inl ⟨i, t, rfl, e⟩
 | .inr x, v, h => by
  obtain ⟨t, e⟩ := Value.isStrOf_shape (x := x) (v := v) h
  exact .inr ⟨x, t, rfl, e⟩
theorem j6j (i : Int) (t : Tok) : j1h (.inl i) (.int i t) = true := by simp [j1h, Value.isInt]
theorem j6k (x : Str) (t : Tok) : j1h (.inr x) (.str x t) = true := by simp [j1h, Value.isStrOf]
theorem k9y (a b : Int) : decide ((Sum.inl a : Key) = Sum.inl b) = (a == b) := by
 by_cases e : a = b
 ·subst e; simp
 ·have h : ¬ (Sum.inl a : Key) = Sum.inl b := fun q => e (Sum.inl.inj q)
  rw [decide_eq_false h]
  exact (beq_eq_false_iff_ne.mpr e).symm
theorem k9z (a b : Str) : decide ((Sum.inr a : Key) = Sum.inr b) = decide (a = b) := by
 by_cases e : a = b
 ·subst e; simp
 ·have h : ¬ (Sum.inr a : Key) = Sum.inr b := fun q => e (Sum.inr.inj q)
  rw [decide_eq_false h, decide_eq_false e]
theorem l0a (a : Int) (b : Str) : decide ((Sum.inl a : Key) = Sum.inr b) = false := decide_eq_false (fun q => nomatch q)
theorem l0b (a : Str) (b : Int) : decide ((Sum.inr a : Key) = Sum.inl b) = false := decide_eq_false (fun q => nomatch q)
noncomputable def b0o (prog : Program) (w : World) : PySem.KeyKind prog w Key where
 is := j1h
 hash := keyH w
 inj := fun v a b ha hb => by
  rcases a6w ha with ⟨i, t, rfl, rfl⟩ | ⟨x, t, rfl, rfl⟩
  ·rcases a6w hb with ⟨j, u, rfl, e⟩ | ⟨y, u, rfl, e⟩
   ·injection e with e1 _; rw [e1]
   ·exact nomatch e
  ·rcases a6w hb with ⟨j, u, rfl, e⟩ | ⟨y, u, rfl, e⟩
   ·exact nomatch e
   ·injection e with e1 _; rw [e1]
 byValue := fun k v h => by
  rcases a6w h with ⟨i, t, rfl, rfl⟩ | ⟨x, t, rfl, rfl⟩ <;> rfl
 pyHash := fun hv h => by
  rcases a6w hv with ⟨i, t, rfl, rfl⟩ | ⟨x, t, rfl, rfl⟩
  ·exact wpAny_pyHash_int h
  ·exact wpAny_pyHash_str h
 eqBool := fun hu hv h => by
  rcases a6w hu with ⟨i, t, rfl, rfl⟩ | ⟨x, t, rfl, rfl⟩
  ·rcases a6w hv with ⟨j, u, rfl, rfl⟩ | ⟨y, u, rfl, rfl⟩
   ·rw [k9y] at h; exact wpAny_eqBool_int h
   ·rw [l0a] at h; exact SeqAt.EqAt.int_str i t y u _ _ _ _ h
  ·rcases a6w hv with ⟨j, u, rfl, rfl⟩ | ⟨y, u, rfl, rfl⟩
   ·rw [l0b] at h; exact SeqAt.EqAt.str_int x t j u _ _ _ _ h
   ·rw [k9z] at h; exact wpAny_eqBool_str h
 «strs» := fun k x t v h => by
  rcases a6w h with ⟨i, u, rfl, e⟩ | ⟨y, u, rfl, e⟩
  ·exact nomatch e
  ·injection e with e1 _
   subst e1
   cases v <;> rfl
theorem i3q (prog : Program) (w : World) (i : Int) (t : Tok) : (b0o prog w).is (.inl i) (.int i t) = true := j6j i t
theorem i3r (prog : Program) (w : World) (x : Str) (t : Tok) : (b0o prog w).is (.inr x) (.str x t) = true := j6k x t
end L2
namespace L2
open PySem PySem.Spec PyProof.Rows
inductive V where
 | non | bl (b : Bool) | int (i : Int) | str (x : Str) | byt (b : Array UInt8) | flt (b : UInt64) | ref (a : Addr) | ty (n : String)
 deriving DecidableEq
noncomputable def RelV : V -> Value -> Prop
 | .non, u => u = Value.none
 | .bl b, u => u = Value.bool b
 | .int i, u => ∃ t, u = Value.int i t
 | .str x, u => ∃ t, u = Value.str x t
 | .byt b, u => ∃ t, u = Value.bytes b t
 | .flt b, u => ∃ t, u = Value.float b t
 | .ref a, u => u = Value.ref a
 | .ty n, u => u = Value.type n
noncomputable abbrev Vals : List V -> List Value -> Prop := Paired RelV
theorem Vals.length {xs : List V} {us : List Value} (r : Vals xs us) : xs.length = us.length := Paired.length r
theorem Vals.get : ∀ {xs : List V} {us : List Value} {i : Nat} {x : V}, Vals xs us -> xs[i]? = some x -> ∃ u, us[i]? = some u /\ RelV x u
 | _, _, _, _, .nil, e => by simp at e
 | _, _, 0, _, .cons r _, e => by simp at e; subst e; exact ⟨_, rfl, r⟩
 | _, _, i + 1, x, .cons _ t, e => by
  obtain ⟨u, h1, h2⟩ := Vals.get (i := i) (x := x) t (by simpa using e)
  exact ⟨u, by simpa using h1, h2⟩
theorem Vals.set {x : V} {u : Value} (r : RelV x u) : ∀ {xs : List V} {us : List Value} (i : Nat), Vals xs us -> Vals (xs.set i x) (us.set i u)
 | _, _, _, .nil => .nil
 | _, _, 0, .cons _ t => .cons r t
 | _, _, i + 1, .cons q t => .cons q (Vals.set r i t)
theorem Vals.append : ∀ {xs ys : List V} {us ws : List Value}, Vals xs us -> Vals ys ws -> Vals (xs ++ ys) (us ++ ws)
 | _, _, _, _, .nil, s => s
 | _, _, _, _, .cons r t, s => .cons r (Vals.append t s)
theorem Vals.take : ∀ {xs : List V} {us : List Value} (n : Nat), Vals xs us -> Vals (xs.take n) (us.take n)
 | _, _, 0, _ => .nil
 | _, _, _ + 1, .nil => .nil
 | _, _, n + 1, .cons r t => .cons r (Vals.take n t)
theorem Vals.drop : ∀ {xs : List V} {us : List Value} (n : Nat), Vals xs us -> Vals (xs.drop n) (us.drop n)
 | _, _, 0, r => r
 | _, _, _ + 1, .nil => .nil
 | _, _, n + 1, .cons _ t => Vals.drop n t
theorem Vals.none_of : ∀ {xs : List V} {us : List Value} {i : Nat}, Vals xs us -> xs[i]? = none -> us[i]? = none := fun {xs us i} r e => by
 have h1 := r.length
 have h2 : xs.length <= i := List.getElem?_eq_none_iff.mp e
 exact List.getElem?_eq_none_iff.mpr (by omega)
noncomputable def h4k : Option V -> Option Value -> Prop
 | some v, some u => RelV v u
 | none, none => True
 | _, _ => False
noncomputable def KV {κ : Type} : List (κ × V) -> List (κ × Value) -> Prop := Paired fun (p : κ × V) (q : κ × Value) => p.1 = q.1 /\ RelV p.2 q.2
noncomputable def kV : Key -> V
 | .inl i => .int i
 | .inr x => .str x
inductive HO where
 /-- a list -/
 | lst (xs : List V)
 /-- a tuple (never changes) -/
 | tup (xs : List V)
 /-- a dict whose keys are ints and texts; one whose keys are tuples of ints and texts (the empty one is both) -/
 | dK (kvs : List (Key × V)) | dT (kvs : List (List Key × V))
 /-- a set of ints: its members, its size -/
 | set (S : Int -> Bool) (n : Nat)
 /-- an instance of the class at C, its dict at dx, its attributes -/
 | ins (C dx : Addr) (fs : List (Str × V))
 /-- the dict of the instance at x -/
 | own (x : Addr)
 /-- the dict of an exception -/
 | xd (fs : List (Str × V))
 /-- a bound method, f of x -/
 | met (f x : Addr)
 /-- a range object lo, lo + 1, .. below hi -/
 | rng (lo hi : Int)
 /-- a thing that is known to the object (the script; a dict while a loop walks it): read, never written while it is so -/
 | frz (o : Obj) (u : HO)
 /-- a code object's table -/
 | tbl (ps : Array Value)
 /-- any other thing, by what is true of its one object (a def of one's own: SetO a S n := HO.ext fun h => ..) -/
 | ext (φ : Heap -> Prop)
noncomputable abbrev Hp := Addr -> Option HO
noncomputable def upd (H : Hp) (a : Addr) (o : HO) : Hp := fun b => if b = a then some o else H b
theorem a3i {H : Hp} {a : Addr} {o : HO} : upd H a o a = some o := by unfold upd; rw [if_pos rfl]
theorem a3u {H : Hp} {a b : Addr} {o : HO} (h : b ≠ a) : upd H a o b = H b := by unfold upd; rw [if_neg h]
theorem l5v {H : Hp} {a b : Addr} {o u : HO} (h : H a = some o) (h' : H b = some u) (d : o ≠ u) : a ≠ b := by
 intro e; subst e; rw [h] at h'; exact d (Option.some.inj h')
theorem a5g {H : Hp} {a b : Addr} {o : HO} (h : H a = some o) (h' : H b = none) : a ≠ b := by
 intro e; subst e; rw [h] at h'; cases h'
section
variable (P : Program) (w : World)
noncomputable def b1z (H : Hp) (h : Heap) (a : Addr) : HO -> Prop
 | .lst xs => xs.length ≤ sizeLine ∧ ∃ (its : List Value) (n : Nat), Vals xs its ∧ h.get? a = some { cls := .type "list", data := .seq its.toArray n }
 | .tup xs => xs.length <= sizeLine /\ ∃ its : List Value, Vals xs its /\ IsTup h a its.toArray
 | .dK kvs => kvs.length <= sizeLine /\ (a == sysModules) = false /\ ∃ vs, KV kvs vs /\ h.DictOf (b0o P w) a vs
 | .dT kvs => kvs.length <= sizeLine /\ (a == sysModules) = false /\ ∃ xs : List (List Key × Addr × Value),
   Paired (fun (p : List Key × V) (q : List Key × Addr × Value) => p.1 = q.1 /\ H q.2.1 = some (.tup (p.1.map kV)) /\ RelV p.2 q.2.2) kvs xs /\
   ∃ o es ep, h.get? a = some o /\ o.ExactDict /\ o.data = .dict es ep /\ es.toList = xs.map (entryOfKey (tupleKind (b0o P w))) /\ (xs.map (·.1)).Nodup
 | .set S n => h.SetOf (intKind P w) a S n
 | .ins C dx fs => H dx = some (.own a) /\ fs.length <= 1000 /\ dx ≠ a /\ h.get? a = some (PySem.W.instObj C dx) /\
   ∃ mA, h.Ns1 dx mA /\ (∀ f, h4k (fs.lookup f) (mA f)) /\ PySem.Within mA (fs.map (·.1))
 | .own _ => ∃ o, h.get? a = some o
 | .xd fs => ∃ mA, h.Ns1 a mA /\ ∀ f, h4k (fs.lookup f) (mA f)
 | .rng lo hi => ∃ t u v, h.get? a = some { cls := .type "range", data := .fields #[.int lo t, .int hi u, .int 1 v] }
 | .frz o u => h.get? a = some o /\ b1z H h a u
 | .tbl ps => h.get? a = some { cls := .none, data := .fields ps }
 | .met f x => h.get? a = some (PySem.W.methodObj (.ref f) (.ref x))
 | .ext φ => φ h /\ (∃ o, h.get? a = some o) /\ ∀ h1 h2 : Heap, φ h1 -> (∀ o, h1.get? a = some o -> h2.get? a = some o) -> φ h2
noncomputable def HOk (H : Hp) (h : Heap) : Prop := ∀ a o, H a = some o -> b1z P w H h a o
end
section
variable {P : Program} {w : World} {H H' : Hp} {h h' : Heap} {a : Addr} {o : HO}
theorem b1z.lt (x : b1z P w H h a o) : a < h.objs.size := by
 cases o with
 | lst xs => obtain ⟨_, _, _, _, e⟩ := x; exact Heap.lt_size e
 | tup xs => obtain ⟨_, _, _, p⟩ := x; exact p.lt
 | dK kvs => obtain ⟨_, _, _, _, o, _, _, e, _⟩ := x; exact Heap.lt_size e
 | dT kvs => obtain ⟨_, _, _, _, o, _, _, e, _⟩ := x; exact Heap.lt_size e
 | set S n => obtain ⟨o, _, _, _, e, _⟩ := x; exact Heap.lt_size e
 | ins C dx fs => obtain ⟨_, _, _, e, _⟩ := x; exact Heap.lt_size e
 | own y => obtain ⟨_, e⟩ := x; exact Heap.lt_size e
 | xd fs => obtain ⟨_, ⟨_, _, _, e, _⟩, _⟩ := x; exact Heap.lt_size e
 | rng lo hi => obtain ⟨_, _, _, e⟩ := x; exact Heap.lt_size e
 | frz ob u => obtain ⟨e, _⟩ := x; exact Heap.lt_size e
 | tbl ps => exact Heap.lt_size (show h.get? a = some _ from x)
 | met f y => exact Heap.lt_size (show h.get? a = some _ from x)
 | ext φ => obtain ⟨_, ⟨_, e⟩, _⟩ := x; exact Heap.lt_size e
theorem Paired.l5w {α β : Type} {F G : α -> β -> Prop} : ∀ {l₁ : List α} {l₂ : List β}, Paired F l₁ l₂ -> (∀ a b, F a b -> G a b) -> Paired G l₁ l₂
 | _, _, .nil, _ => .nil
 | _, _, .cons r t, f => .cons (f _ _ r) (Paired.l5w t f)
theorem b1z.stay (x : b1z P w H h a o) (k : ∀ b u, (b = a \/ H b = some (.own a)) -> h.get? b = some u -> h'.get? b = some u)
  (ho : ∀ b, H b = some (.own a) -> H' b = some (.own a)) (ht : ∀ b xs, H b = some (.tup xs) -> H' b = some (.tup xs)) : b1z P w H' h' a o := by
 induction o with
 | lst xs => obtain ⟨z, its, n, r, e⟩ := x; exact ⟨z, its, n, r, k _ _ (.inl rfl) e⟩
 | tup xs => obtain ⟨z, its, r, ob, e, c⟩ := x; exact ⟨z, its, r, ob, k _ _ (.inl rfl) e, c⟩
 | dK kvs => obtain ⟨z, y, vs, r, ob, es, ep, e, c⟩ := x; exact ⟨z, y, vs, r, ob, es, ep, k _ _ (.inl rfl) e, c⟩
 | dT kvs =>
  obtain ⟨z, y, xs, r, ob, es, ep, e, c⟩ := x
  exact ⟨z, y, xs, Paired.l5w r fun p q z => ⟨z.1, ht _ _ z.2.1, z.2.2⟩, ob, es, ep, k _ _ (.inl rfl) e, c⟩
 | set S n => obtain ⟨ob, es, ep, t, e, c⟩ := x; exact ⟨ob, es, ep, t, k _ _ (.inl rfl) e, c⟩
 | ins C dx fs =>
  obtain ⟨d, z, ne, e, mA, ⟨od, es, ep, e2, c⟩, r⟩ := x
  exact ⟨ho _ d, z, ne, k _ _ (.inl rfl) e, mA, ⟨od, es, ep, k _ _ (.inr d) e2, c⟩, r⟩
 | own y => obtain ⟨ob, e⟩ := x; exact ⟨ob, k _ _ (.inl rfl) e⟩
 | xd fs => obtain ⟨mA, ⟨od, es, ep, e, c⟩, r⟩ := x; exact ⟨mA, ⟨od, es, ep, k _ _ (.inl rfl) e, c⟩, r⟩
 | rng lo hi => obtain ⟨t, u, v, e⟩ := x; exact ⟨t, u, v, k _ _ (.inl rfl) e⟩
 | frz ob u ih => obtain ⟨e, q⟩ := x; exact ⟨k _ _ (.inl rfl) e, ih q⟩
 | tbl ps =>
  have e : h.get? a = some { cls := .none, data := .fields ps } := x
  show h'.get? a = some { cls := .none, data := .fields ps }
  exact k a _ (.inl rfl) e
 | met f y =>
  have e : h.get? a = some (PySem.W.methodObj (.ref f) (.ref y)) := x
  show h'.get? a = some (PySem.W.methodObj (.ref f) (.ref y))
  exact k a _ (.inl rfl) e
 | ext φ => obtain ⟨p, ⟨o, e⟩, st⟩ := x; exact ⟨st _ _ p fun o q => k _ _ (.inl rfl) q, ⟨o, k _ _ (.inl rfl) e⟩, st⟩
theorem HOk.lt (x : HOk P w H h) (e : H a = some o) : a < h.objs.size := (x a o e).lt
theorem HOk.fresh (x : HOk P w H h) (e : h.objs.size <= a) : H a = none := by
 cases q : H a with
 | none => rfl
 | some u => exact absurd (Nat.lt_of_lt_of_le (x.lt q) e) (Nat.lt_irrefl _)
theorem HOk.kept (x : HOk P w H h) (k : ∀ b u, h.get? b = some u -> h'.get? b = some u) : HOk P w H h' := fun a o e =>
 (x a o e).stay (fun b u _ q => k b u q) (fun _ q => q) fun _ _ q => q
theorem HOk.laid (x : HOk P w H h) (k : ∀ b u, h.get? b = some u -> h'.get? b = some u) (hp : h.objs.size <= a) (new : b1z P w (upd H a o) h' a o) : HOk P w (upd H a o) h' := fun b u e => by
 have hn := x.fresh hp
 by_cases hb : b = a
 ·subst hb; rw [a3i] at e; cases e; exact new
 ·rw [a3u hb] at e
  exact (x b u e).stay (fun c v _ q => k c v q) (fun c q => by rw [a3u (a5g q hn)]; exact q) fun c xs q => by rw [a3u (a5g q hn)]; exact q
end
noncomputable def Rd (H : Hp) (a : Addr) (u : HO) : Prop := H a = some u \/ ∃ o, H a = some (.frz o u)
theorem Rd.of {H : Hp} {a : Addr} {u : HO} (h : H a = some u) : Rd H a u := .inl h
theorem Rd.ok {P : Program} {w : World} {H : Hp} {h : Heap} {a : Addr} {u : HO} (r : Rd H a u) (x : HOk P w H h) : b1z P w H h a u := by
 rcases r with r | ⟨o, r⟩
 ·exact x a u r
 ·obtain ⟨_, q⟩ := x a _ r
  exact q
noncomputable def Mut : Option HO -> Prop
 | some (.lst _) => True
 | some (.dK _) => True
 | some (.dT _) => True
 | some (.set _ _) => True
 | some (.ins _ _ _) => True
 | some (.ext _) => True
 | _ => False
section
variable {P : Program} {w : World} {H : Hp} {h h' : Heap} {x e : Addr} {o' : HO}
theorem HOk.write (ok : HOk P w H h) (mu : Mut (H x)) (he : e = x \/ H e = some (.own x)) (k : ∀ b u, b ≠ e -> h.get? b = some u -> h'.get? b = some u) (heo : ∃ u, h'.get? e = some u)
  (new : b1z P w (upd H x o') h' x o') : HOk P w (upd H x o') h' := fun b u q => by
 have l9c : ∀ c y, H c = some (.own y) -> c ≠ x := fun c y r z => by subst z; rw [r] at mu; exact mu
 have ntup : ∀ c xs, H c = some (.tup xs) -> c ≠ x := fun c xs r z => by subst z; rw [r] at mu; exact mu
 by_cases hb : b = x
 ·subst hb; rw [a3i] at q; cases q; exact new
 ·rw [a3u hb] at q
  by_cases hbe : b = e
  ·have q' : H b = some (.own x) := by
    rcases he with z | z
    ·exact absurd (hbe.trans z) hb
    ·rw [hbe]; exact z
   rw [q] at q'; cases q'
   obtain ⟨v, hv⟩ := heo
   exact ⟨v, by rw [hbe]; exact hv⟩
  ·refine (ok b u q).stay (fun c v hc r => k c v ?_ r) (fun c r => by rw [a3u (l9c c b r)]; exact r) fun c xs r => by rw [a3u (ntup c xs r)]; exact r
   rcases hc with rfl | hc
   ·exact hbe
   ·rintro rfl
    rcases he with z | z
    ·exact l9c c b hc z
    ·rw [hc] at z; cases z; exact hb rfl
end
structure Un (fs ex : List Addr) (H H' : Hp) (h h' : Heap) : Prop where
 keep : ∀ b o, h.get? b = some o -> H b = none -> b ∉ fs -> b ∉ ex -> h'.get? b = some o
 slot : ∀ b o, h.get? b = some o -> H b = none -> b ∈ fs -> b ∉ ex -> ∃ sl, h'.get? b = some { o with slots := sl }
 free : ∀ b o, h.get? b = some o -> H b = none -> b ∉ ex -> H' b = none
 there : ∀ b o, h.get? b = some o -> b ∉ ex -> ∃ o', h'.get? b = some o'
 tups : ∀ b xs, H b = some (.tup xs) -> H' b = some (.tup xs)
 i3o : ∀ b o u, H b = some (.frz o u) -> H' b = some (.frz o u)
 i3s : ∀ b ps, H b = some (.tbl ps) -> ∃ more, H' b = some (.tbl (ps ++ more))
section
variable {fs fs' ex ex' : List Addr} {H H1 H2 : Hp} {h h1 h2 h' : Heap} {a x e : Addr} {o : HO}
theorem Un.any (u : Un fs ex H H1 h h1) {b : Addr} {ob : Obj} (q : h.get? b = some ob) (n : H b = none) (hx : b ∉ ex) : ∃ sl, h1.get? b = some { ob with slots := sl } := by
 by_cases hb : b ∈ fs
 ·exact u.slot b ob q n hb hx
 ·exact ⟨ob.slots, u.keep b ob q n hb hx⟩
theorem Un.trans (a : Un fs ex H H1 h h1) (b : Un fs ex H1 H2 h1 h2) : Un fs ex H H2 h h2 where
 keep := fun c ob q n hc hx => b.keep c ob (a.keep c ob q n hc hx) (a.free c ob q n hx) hc hx
 slot := fun c ob q n hc hx => by
  obtain ⟨sl, e1⟩ := a.slot c ob q n hc hx
  obtain ⟨sl', e2⟩ := b.slot c _ e1 (a.free c ob q n hx) hc hx
  exact ⟨sl', e2⟩
 free := fun c ob q n hx => by
  obtain ⟨o', e1⟩ := a.there c ob q hx
  exact b.free c o' e1 (a.free c ob q n hx) hx
 there := fun c ob q hx => by
  obtain ⟨o', e1⟩ := a.there c ob q hx
  exact b.there c o' e1 hx
 tups := fun c xs q => b.tups c xs (a.tups c xs q)
 i3o := fun c ob xs q => b.i3o c ob xs (a.i3o c ob xs q)
 i3s := fun c ps q => by
  obtain ⟨m1, e1⟩ := a.i3s c ps q
  obtain ⟨m2, e2⟩ := b.i3s c _ e1
  exact ⟨m1 ++ m2, by rw [e2, Array.append_assoc]⟩
theorem Un.kept (k : ∀ b u, h.get? b = some u -> h'.get? b = some u) : Un fs ex H H h h' :=
 ⟨fun b ob q _ _ _ => k b ob q, fun b ob q _ _ _ => ⟨ob.slots, k b ob q⟩, fun _ _ _ n _ => n, fun b ob q _ => ⟨ob, k b ob q⟩, fun _ _ q => q, fun _ _ _ q => q, fun _ ps q => ⟨#[], by rw [q]; simp⟩⟩
theorem Un.refl : Un fs ex H H h h := Un.kept fun _ _ q => q
theorem Un.laid (k : ∀ b u, h.get? b = some u -> h'.get? b = some u) (hp : h.objs.size <= a) (hn : H a = none) : Un fs ex H (upd H a o) h h' where
 keep := fun b u q _ _ _ => k b u q
 slot := fun b u q _ _ _ => ⟨u.slots, k b u q⟩
 free := fun b u q n _ => by rw [a3u (Nat.ne_of_lt (Nat.lt_of_lt_of_le (Heap.lt_size q) hp))]; exact n
 there := fun b u q _ => ⟨u, k b u q⟩
 tups := fun b xs q => by rw [a3u (a5g q hn)]; exact q
 i3o := fun b u xs q => by rw [a3u (a5g q hn)]; exact q
 i3s := fun b ps q => ⟨#[], by rw [a3u (a5g q hn), q]; simp⟩
theorem Un.write (mu : Mut (H x)) (he : e = x \/ H e = some (.own x)) (k : ∀ b u, b ≠ e -> h.get? b = some u -> h'.get? b = some u) (heo : ∃ u, h'.get? e = some u) : Un fs ex H (upd H x o) h h' := by
 have hx : ∀ b, H b = none -> b ≠ x := fun b n z => by subst z; rw [n] at mu; exact mu
 have hb : ∀ b, H b = none -> b ≠ e := fun b n z => by
  subst z
  rcases he with r | r
  ·exact hx b n r
  ·rw [n] at r; cases r
 have hm : ∀ b u, H b = some u -> ¬ Mut (some u) -> b ≠ x := fun b u q nm z => by subst z; rw [q] at mu; exact nm mu
 refine ⟨fun b u q n _ _ => k b u (hb b n) q, fun b u q n _ _ => ⟨u.slots, k b u (hb b n) q⟩, fun b u q n _ => by rw [a3u (hx b n)]; exact n, fun b u q _ => ?_,
  fun b xs q => by rw [a3u (hm b _ q fun z => z)]; exact q, fun b u xs q => by rw [a3u (hm b _ q fun z => z)]; exact q, fun b ps q => ⟨#[], by rw [a3u (hm b _ q fun z => z), q]; simp⟩⟩
 by_cases hbe : b = e
 ·subst hbe; exact heo
 ·exact ⟨u, k b u hbe q⟩
theorem Un.mono (u : Un fs ex H H1 h h1) (hs : ∀ b ∈ fs, b ∈ fs') (hx : ∀ b ∈ ex, b ∈ ex') : Un fs' ex' H H1 h h1 :=
 ⟨fun b ob q n hb he => u.keep b ob q n (fun z => hb (hs b z)) fun z => he (hx b z), fun _ _ q n _ he => u.any q n fun z => he (hx _ z), fun b ob q n he => u.free b ob q n fun z => he (hx b z), fun b ob q he => u.there b ob q fun z => he (hx b z), u.tups, u.i3o, u.i3s⟩
end
noncomputable def trk (h : Heap) (H : Hp) : List Addr := (List.range h.objs.size).filter fun a => (H a).isSome
noncomputable def k0w (h : Heap) (H : Hp) : Heap := PySem.W.hideAll h (trk h H)
theorem j6l (h : Heap) (H : Hp) : (k0w h H).objs.size = h.objs.size := PySem.W.hideAll_size _ _
theorem k0x {h : Heap} {H : Hp} {b : Addr} {o : Obj} (e : h.get? b = some o) (n : H b = none) : (k0w h H).get? b = some o :=
 PySem.W.hideAll_get _ e fun hm => by
  have q : (H b).isSome = true := (List.mem_filter.mp hm).2
  rw [n] at q; simp at q
theorem k5q {h : Heap} {H : Hp} {b : Addr} {o : Obj} (e : (k0w h H).get? b = some o) : h.get? b = some o /\ H b = none := by
 have e' : h.get? b = some o := PySem.W.of_hideAll (trk h H) e
 refine ⟨e', ?_⟩
 cases q : H b with
 | none => rfl
 | some x =>
  have hm : b ∈ trk h H := List.mem_filter.mpr ⟨List.mem_range.mpr (Heap.lt_size e'), by simp [q]⟩
  have z : (k0w h H).get? b = none := PySem.W.hideAll_none (trk h H) hm
  rw [z] at e; cases e
noncomputable def k5r (g h : Heap) (L : Addr) : List (Addr × Obj) := (List.range h.objs.size).filterMap fun a => if a = L \/ (g.get? a).isSome = true then none else (h.get? a).map fun o => (a, o)
noncomputable def rest (g h : Heap) (L d : Addr) : List (Addr × Obj) := (k5r g h L).filter fun p => decide (p.1 ≠ d)
end L2
namespace L2
open PySem PySem.Spec PyProof.Rows
structure Mod (K : PySem.W.Frag) (mg : Str -> Option Value) (base : Heap) : Prop where
 kin : K.In base
 glob : base.Ns mainGlobals mg
 blt : ∃ mb, base.Ns builtinsNs mb ∧ ∀ x : Str, x ≠ "__name__" → mb x = bootBuiltins x
 nolimit : base.NoLimit
/-- the context: a def's body (or a comprehension's block) running. base: fixed through the whole law; s₀, H₀: the entry; outer: the frames whose slots others may change (a def's callers); stack: all frames that run;
  ex: iterators that were made ahead of the entry and are walked here (a comprehension's); fn: the names whose cells were made at the entry (a def: all; a comprehension's block: its own); calm: not within an except suite; pn: pins that every state bears; xe: what is wanted of an exception that leaves the code -/
structure Cx where
 prog : Program
 w : World
 K : PySem.W.Frag
 mg : Str -> Option Value
 base : Heap
 A : Around
 N : List Str
 s₀ : Shared
 H₀ : Hp
 env : Env
 outer : List Env
 stack : List Env
 ex : List Addr
 fn : Str -> Bool
 calm : Bool
 pn : List (Addr × Obj)
 xe : Value -> Shared -> Prop
noncomputable def frs (l : List Env) : List Addr := l.filterMap (·.frame)
noncomputable abbrev Cx.fs (X : Cx) : List Addr := frs X.outer
noncomputable def Vis (sc : Scope) (x : Str) : Prop := sc.names.lookup x = some .local \/ sc.names.lookup x = some .cell \/ sc.names.lookup x = some .free
noncomputable def Loc (sc : Scope) (x : Str) : Prop := sc.names.lookup x = some .local \/ sc.names.lookup x = some .cell
noncomputable def Look (env : Env) (h : Heap) (m : Str -> Option Value) (x : Str) (u : Value) : Prop :=
 (env.kindOf x = some .local /\ m x = some u) \/ ((env.kindOf x = some .cell \/ env.kindOf x = some .free) /\ ∃ c, env.cells.lookup x = some c /\ h.IsCell c (some u))
structure Cx.Ok (X : Cx) : Prop where
 mod : Mod X.K X.mg X.base
 kind : X.env.scope.kind = .function
 glob : X.env.globals = mainGlobals
 blt : X.env.builtins = builtinsNs
 above : X.s₀.heap.objs.size <= X.env.locals
 inj : ∀ x y c, X.env.cells.lookup x = some c -> X.env.cells.lookup y = some c -> x = y
 has : ∀ x, (X.env.kindOf x = some .cell \/ X.env.kindOf x = some .free) -> ∃ c, X.env.cells.lookup x = some c
 cab : ∀ x c, X.fn x = true -> X.env.cells.lookup x = some c -> X.s₀.heap.objs.size <= c
 hd : X.calm = true -> X.A.handled = none
 frames : X.A.frames = some X.stack
 stk : X.stack = X.outer \/ (X.stack = X.env :: X.outer /\ X.env.frame = some X.env.locals)
 exf : ∀ b ∈ X.ex, b ≠ X.env.locals /\ ∀ x c, X.env.cells.lookup x = some c -> c ≠ b
 bs : ∀ b o, X.base.get? b = some o -> X.s₀.heap.get? b = some o /\ X.H₀ b = none
 bsz : X.base.objs.size <= X.s₀.heap.objs.size
 k5s : ∀ b o, X.base.get? b = some o -> b ∉ X.ex
 l0c : ∀ b ∈ X.ex, b ∉ X.fs
 j0d : X.s₀.heap.FunFrames X.base X.outer
 frf : ∀ b ∈ X.fs, X.H₀ b = none
structure Inv (X : Cx) (pins : List (Addr × Obj)) (σ : List (Option V)) (H : Hp) (s : Shared) : Prop where
 ok : X.Ok
 os : s.os = X.s₀.os
 bare : AllBare s.gens
 base : Un X.fs X.ex X.H₀ H X.s₀.heap s.heap
 loc : ∃ m, s.heap.Ns X.env.locals m /\ ∀ (i : Nat) (x : Str) (v : V), X.N[i]? = some x -> σ[i]? = some (some v) -> Vis X.env.scope x -> ∃ u, RelV v u /\ Look X.env s.heap m x u
 cell : ∀ x c, X.env.cells.lookup x = some c -> ∃ v, s.heap.IsCell c v
 free : H X.env.locals = none
 f0n : ∀ x c, X.env.cells.lookup x = some c -> H c = none
 pin : ∀ p ∈ X.pn ++ pins, s.heap.get? p.1 = some p.2 /\ H p.1 = none /\ p.1 ≠ X.env.locals /\ p.1 ∉ X.fs /\ ∀ v, p.2.data ≠ .cell v
 hok : HOk X.prog X.w H s.heap
 len : σ.length = X.N.length
section
variable {X : Cx} {pins : List (Addr × Obj)} {σ : List (Option V)} {H H' : Hp} {s : Shared} {h' : Heap}
theorem Cx.Ok.nofr (ok : X.Ok) {b : Addr} {o : Obj} (e : X.base.get? b = some o) : b ∉ X.fs := fun hb => by
 have := (ok.j0d.mem hb).1
 rw [e] at this; cases this
theorem Inv.bs (I : Inv X pins σ H s) : ∀ b o, X.base.get? b = some o -> s.heap.get? b = some o /\ H b = none := fun b o e =>
 ⟨I.base.keep b o (I.ok.bs b o e).1 (I.ok.bs b o e).2 (I.ok.nofr e) (I.ok.k5s b o e), I.base.free b o (I.ok.bs b o e).1 (I.ok.bs b o e).2 (I.ok.k5s b o e)⟩
theorem Inv.bk (I : Inv X pins σ H s) : ∀ b o, X.base.get? b = some o -> s.heap.get? b = some o := fun b o e => (I.bs b o e).1
theorem Inv.mod (I : Inv X pins σ H s) : Mod X.K X.mg X.base := I.ok.mod
theorem Inv.kIn (I : Inv X pins σ H s) : X.K.In s.heap := I.ok.mod.kin.keeps I.bk
theorem Inv.nolimit (I : Inv X pins σ H s) : s.heap.NoLimit := I.ok.mod.nolimit.keeps I.bk
theorem Inv.fr (I : Inv X pins σ H s) : ∃ m, Fr X.base X.env.locals s.heap m :=
 let ⟨m, hn, _⟩ := I.loc
 ⟨m, hn, I.bk, Nat.le_trans I.ok.bsz I.ok.above⟩
theorem Inv.lt (I : Inv X pins σ H s) : X.env.locals < s.heap.objs.size := let ⟨_, hn, _⟩ := I.loc; hn.lt
theorem Inv.sz (I : Inv X pins σ H s) : X.s₀.heap.objs.size <= s.heap.objs.size := Nat.le_trans I.ok.above (Nat.le_of_lt I.lt)
theorem Inv.nofs (I : Inv X pins σ H s) {a : Addr} (h : s.heap.objs.size <= a) : a ∉ X.fs := fun hb => by
 obtain ⟨_, o, ho, _⟩ := I.ok.j0d.mem hb
 exact absurd (Nat.lt_of_lt_of_le (Heap.lt_size ho) (Nat.le_trans I.sz h)) (Nat.lt_irrefl _)
theorem Inv.cne (I : Inv X pins σ H s) : ∀ x c, X.env.cells.lookup x = some c -> c ≠ X.env.locals := fun x c e z => by
 obtain ⟨v, o, ho, hd⟩ := I.cell x c e
 obtain ⟨m, ⟨o', es, ep, ho', hd', _⟩, _⟩ := I.loc
 rw [z, ho'] at ho; cases ho; rw [hd'] at hd; cases hd
theorem Inv.j0d (I : Inv X pins σ H s) : s.heap.FunFrames X.base X.outer := by
 have all : ∀ (l : List Env), (∀ b ∈ frs l, b ∈ X.fs) -> X.s₀.heap.FunFrames X.base l -> s.heap.FunFrames X.base l := by
  intro l
  induction l with
  | nil => intro _ _; trivial
  | cons env r ih =>
   intro hs hl
   obtain ⟨hk, ⟨L, o, hf, hn, ho, hd⟩, hr⟩ := hl
   have hL : L ∈ X.fs := hs L (by unfold frs; rw [List.filterMap_cons, hf]; exact List.mem_cons_self)
   obtain ⟨sl, e⟩ := I.base.slot L o ho (I.ok.frf L hL) hL fun z => I.ok.l0c L z hL
   exact ⟨hk, ⟨L, _, hf, hn, e, hd⟩, ih (fun b hb => hs b (by unfold frs; rw [List.filterMap_cons, hf]; exact List.mem_cons_of_mem _ hb)) hr⟩
 exact all X.outer (fun _ hb => hb) I.ok.j0d
theorem Inv.stack (I : Inv X pins σ H s) : s.heap.FunFrames X.base X.stack := by
 rcases I.ok.stk with e | ⟨e, hf⟩
 ·rw [e]; exact I.j0d
 ·rw [e]
  obtain ⟨m, hn, _⟩ := I.loc
  refine .cons (by rw [I.ok.kind]; decide) hf hn ?_ I.j0d
  exact Heap.get?_none_of_le (Nat.le_trans I.ok.bsz I.ok.above)
theorem Inv.f9w (I : Inv X pins σ H s) : ∀ b ∈ frs X.stack, b ∈ X.env.locals :: X.fs := fun b hb => by
 rcases I.ok.stk with e | ⟨e, hf⟩
 ·rw [e] at hb; exact List.mem_cons_of_mem _ hb
 ·rw [e] at hb
  unfold frs at hb
  rw [List.filterMap_cons, hf] at hb
  exact hb
theorem Inv.i3t (I : Inv X pins σ H s) : ∀ b ∈ frs X.stack, H b = none := fun b hb => by
 rcases List.mem_cons.mp (I.f9w b hb) with e | hb
 ·rw [e]; exact I.free
 ·obtain ⟨_, o, ho, _⟩ := I.ok.j0d.mem hb
  exact I.base.free b o ho (I.ok.frf b hb) fun z => I.ok.l0c b z hb
theorem Inv.step {g' : Array GenState} {t' : Nat} {d' : Drawn} {ch : List Addr} (I : Inv X pins σ H s)
  (hch : ∀ b ∈ ch, (b ∈ X.ex \/ X.s₀.heap.objs.size <= b) /\ b ≠ X.env.locals /\ (∀ x c, X.env.cells.lookup x = some c -> c ≠ b) /\ ∀ p ∈ X.pn ++ pins, p.1 ≠ b)
  (keep : ∀ b o, b ≠ X.env.locals -> b ∉ X.fs -> b ∉ ch -> s.heap.get? b = some o -> H b = none -> h'.get? b = some o)
  (slot : ∀ b o, b ≠ X.env.locals -> b ∈ X.fs -> b ∉ ch -> s.heap.get? b = some o -> H b = none -> ∃ sl, h'.get? b = some { o with slots := sl }) (free : ∀ b o, b ∉ ch -> s.heap.get? b = some o -> H b = none -> H' b = none)
  (there : ∀ b o, b ∉ ch -> s.heap.get? b = some o -> ∃ o', h'.get? b = some o')
  (tups : ∀ b xs, H b = some (.tup xs) -> H' b = some (.tup xs)) (i3o : ∀ b o u, H b = some (.frz o u) -> H' b = some (.frz o u)) (i3s : ∀ b ps, H b = some (.tbl ps) -> ∃ more, H' b = some (.tbl (ps ++ more)))
  (ns : ∀ m, s.heap.Ns X.env.locals m -> h'.Ns X.env.locals m) (hok : HOk X.prog X.w H' h') (hg : AllBare g') :
  Inv X pins σ H' { s with heap := h', gens := g', drawn := d', toks := t' } := by
 have neL : ∀ b o, X.s₀.heap.get? b = some o -> b ≠ X.env.locals := fun b o e => Nat.ne_of_lt (Nat.lt_of_lt_of_le (Heap.lt_size e) I.ok.above)
 have neC : ∀ b o, X.s₀.heap.get? b = some o -> b ∉ X.ex -> b ∉ ch := fun b o e hx hb => by
  rcases (hch b hb).1 with z | z
  ·exact hx z
  ·exact absurd (Nat.lt_of_lt_of_le (Heap.lt_size e) z) (Nat.lt_irrefl _)
 have cellK : ∀ x c, X.env.cells.lookup x = some c -> ∀ v, s.heap.IsCell c v -> h'.IsCell c v := fun x c e v ⟨o, ho, hd⟩ => by
  have nch : c ∉ ch := fun z => (hch c z).2.2.1 x c e rfl
  by_cases hc : c ∈ X.fs
  ·obtain ⟨sl, q⟩ := slot c o (I.cne x c e) hc nch ho (I.f0n x c e)
   exact ⟨_, q, hd⟩
  ·exact ⟨o, keep c o (I.cne x c e) hc nch ho (I.f0n x c e), hd⟩
 refine ⟨I.ok, I.os, hg, ⟨fun b o e n hb hx => ?_, fun b o e n hb hx => ?_, fun b o e n hx => ?_, fun b o e hx => ?_, fun b xs e => tups b xs (I.base.tups b xs e), fun b o xs e => i3o b o xs (I.base.i3o b o xs e), fun b ps e => ?_⟩, ?_, fun x c e => ?_, ?_, fun x c e => ?_, fun p hp => ?_, hok, I.len⟩
 ·exact keep b o (neL b o e) hb (neC b o e hx) (I.base.keep b o e n hb hx) (I.base.free b o e n hx)
 ·obtain ⟨sl, e1⟩ := I.base.slot b o e n hb hx
  obtain ⟨sl', e2⟩ := slot b _ (neL b o e) hb (neC b o e hx) e1 (I.base.free b o e n hx)
  exact ⟨sl', e2⟩
 ·obtain ⟨o', e1⟩ := I.base.there b o e hx
  exact free b o' (neC b o e hx) e1 (I.base.free b o e n hx)
 ·obtain ⟨o', e1⟩ := I.base.there b o e hx
  exact there b o' (neC b o e hx) e1
 ·obtain ⟨m1, e1⟩ := I.base.i3s b ps e
  obtain ⟨m2, e2⟩ := i3s b _ e1
  exact ⟨m1 ++ m2, by rw [e2, Array.append_assoc]⟩
 ·obtain ⟨m, hn, hl⟩ := I.loc
  refine ⟨m, ns m hn, fun i x v e1 e2 e3 => ?_⟩
  obtain ⟨u, r, l⟩ := hl i x v e1 e2 e3
  refine ⟨u, r, ?_⟩
  rcases l with l | ⟨k, c, e, z⟩
  ·exact .inl l
  ·exact .inr ⟨k, c, e, cellK x c e _ z⟩
 ·obtain ⟨v, z⟩ := I.cell x c e
  exact ⟨v, cellK x c e v z⟩
 ·obtain ⟨m, ⟨o, _, _, ho, _⟩, _⟩ := I.loc
  exact free _ o (fun z => (hch _ z).2.1 rfl) ho I.free
 ·obtain ⟨v, o, ho, hd⟩ := I.cell x c e
  exact free c o (fun z => (hch c z).2.2.1 x c e rfl) ho (I.f0n x c e)
 ·obtain ⟨e, n, ne, nf, d⟩ := I.pin p hp
  have nch : p.1 ∉ ch := fun z => (hch p.1 z).2.2.2 p hp rfl
  exact ⟨keep p.1 p.2 ne nf nch e n, free p.1 p.2 nch e n, ne, nf, d⟩
theorem Inv.un {t' : Nat} (I : Inv X pins σ H s) (u : Un X.fs [] H H' s.heap h') (hok : HOk X.prog X.w H' h') : Inv X pins σ H' { s with heap := h', toks := t' } := by
 obtain ⟨m, ⟨o, es, ep, ho, r⟩, _⟩ := id I.loc
 obtain ⟨sl, hL⟩ := u.any ho I.free (by simp)
 exact I.step (g' := s.gens) (d' := s.drawn) (ch := []) (fun _ z => nomatch z) (fun b o _ hb _ e n => u.keep b o e n hb (by simp)) (fun b o _ hb _ e n => u.slot b o e n hb (by simp)) (fun b o _ e n => u.free b o e n (by simp)) (fun b o _ e => u.there b o e (by simp)) u.tups u.i3o u.i3s (fun m' hm => by
  obtain ⟨o', es', ep', ho', r'⟩ := hm
  rw [ho] at ho'; cases ho'
  exact ⟨_, es', ep', hL, r'⟩) hok I.bare
theorem Inv.call {g' : Array GenState} {t' : Nat} {d' : Drawn} {ch : List Addr} (I : Inv X pins σ H s) (u : Un (frs X.stack) ch H H' s.heap h') (hok : HOk X.prog X.w H' h') (hg : AllBare g')
  (hch : ∀ b ∈ ch, (b ∈ X.ex \/ X.s₀.heap.objs.size <= b) /\ b ≠ X.env.locals /\ (∀ x c, X.env.cells.lookup x = some c -> c ≠ b) /\ ∀ p ∈ X.pn ++ pins, p.1 ≠ b) :
  Inv X pins σ H' { s with heap := h', gens := g', drawn := d', toks := t' } := by
 obtain ⟨m, ⟨o, es, ep, ho, r⟩, _⟩ := id I.loc
 obtain ⟨sl, hL⟩ := u.any ho I.free fun z => (hch _ z).2.1 rfl
 exact I.step (ch := ch) hch (fun b o hL hb hc e n => u.keep b o e n (fun z => (List.mem_cons.mp (I.f9w b z)).elim hL hb) hc) (fun b o _ _ hc e n => u.any e n hc) (fun b o hc e n => u.free b o e n hc) (fun b o hc e => u.there b o e hc) u.tups u.i3o u.i3s (fun m' hm => by
  obtain ⟨o', es', ep', ho', r'⟩ := hm
  rw [ho] at ho'; cases ho'
  exact ⟨_, es', ep', hL, r'⟩) hok hg
theorem Inv.turned {t' : Nat} {it : Addr} (I : Inv X pins σ H s) (k : ∀ b o, b ≠ it -> s.heap.get? b = some o -> h'.get? b = some o) (hn : H it = none) (hL : it ≠ X.env.locals)
  (h1 : it ∈ X.ex \/ X.s₀.heap.objs.size <= it) (h2 : ∀ x c, X.env.cells.lookup x = some c -> c ≠ it) (h3 : ∀ p ∈ X.pn ++ pins, p.1 ≠ it) : Inv X pins σ H { s with heap := h', toks := t' } := by
 have nit : ∀ b u, H b = some u -> b ≠ it := fun b u e z => by rw [z, hn] at e; cases e
 refine I.step (g' := s.gens) (d' := s.drawn) (ch := [it]) (fun b hb => ?_) (fun b o _ _ hc e _ => k b o (fun z => hc (by simp [z])) e) (fun b o _ _ hc e _ => ⟨o.slots, k b o (fun z => hc (by simp [z])) e⟩) (fun _ _ _ _ n => n)
  (fun b o hc e => ⟨o, k b o (fun z => hc (by simp [z])) e⟩) (fun _ _ e => e) (fun _ _ _ e => e) (fun b ps e => ⟨#[], by rw [e]; simp⟩) (fun m hm => ?_) (fun b u e => ?_) I.bare
 ·have e : b = it := by simpa using hb
  subst e
  exact ⟨h1, hL, h2, h3⟩
 ·obtain ⟨o, es, ep, ho, r⟩ := hm
  exact ⟨o, es, ep, k _ o (Ne.symm hL) ho, r⟩
 ·refine (I.hok b u e).stay (fun c v hc q => k c v ?_ q) (fun _ q => q) fun _ _ q => q
  rcases hc with z | z
  ·rw [z]; exact nit b u e
  ·exact nit c _ z
theorem Inv.tok (I : Inv X pins σ H s) (t : Nat) : Inv X pins σ H { s with toks := t } := I.un (h' := s.heap) (t' := t) Un.refl I.hok
theorem Inv.kept {t' : Nat} (I : Inv X pins σ H s) (k : ∀ b u, s.heap.get? b = some u -> h'.get? b = some u) : Inv X pins σ H { s with heap := h', toks := t' } := I.un (Un.kept k) (I.hok.kept k)
theorem Inv.laid {a : Addr} {o : HO} {t' : Nat} (I : Inv X pins σ H s) (k : ∀ b u, s.heap.get? b = some u -> h'.get? b = some u) (hp : s.heap.objs.size <= a) (new : b1z X.prog X.w (upd H a o) h' a o) :
  Inv X pins σ (upd H a o) { s with heap := h', toks := t' } := I.un (Un.laid k hp (I.hok.fresh hp)) (I.hok.laid k hp new)
theorem Inv.write {x e : Addr} {o : HO} {t' : Nat} (I : Inv X pins σ H s) (mu : Mut (H x)) (he : e = x \/ H e = some (.own x)) (k : ∀ b u, b ≠ e -> s.heap.get? b = some u -> h'.get? b = some u) (heo : ∃ u, h'.get? e = some u)
  (new : b1z X.prog X.w (upd H x o) h' x o) : Inv X pins σ (upd H x o) { s with heap := h', toks := t' } := I.un (Un.write mu he k heo) (I.hok.write mu he k heo new)
theorem Inv.weak {σ' : List (Option V)} (I : Inv X pins σ H s) (hl : σ'.length = σ.length) (w : ∀ (i : Nat) v, σ'[i]? = some (some v) -> σ[i]? = some (some v)) : Inv X pins σ' H s :=
 ⟨I.ok, I.os, I.bare, I.base, let ⟨m, hn, hl'⟩ := I.loc; ⟨m, hn, fun i x v e1 e2 e3 => hl' i x v e1 (w i v e2) e3⟩, I.cell, I.free, I.f0n, I.pin, I.hok, hl.trans I.len⟩
theorem Inv.j6m {pins' : List (Addr × Obj)} (I : Inv X pins σ H s) (h : ∀ p ∈ pins', s.heap.get? p.1 = some p.2 /\ H p.1 = none /\ p.1 ≠ X.env.locals /\ p.1 ∉ X.fs /\ ∀ v, p.2.data ≠ .cell v) : Inv X pins' σ H s :=
 ⟨I.ok, I.os, I.bare, I.base, I.loc, I.cell, I.free, I.f0n, fun p hp => (List.mem_append.mp hp).elim (fun z => I.pin p (List.mem_append_left _ z)) (h p), I.hok, I.len⟩
theorem f9p {N : List Str} (hN : N.Nodup) {i j : Nat} {x : Str} (a : N[i]? = some x) (b : N[j]? = some x) : i = j := by
 obtain ⟨h1, e1⟩ := List.getElem?_eq_some_iff.mp a
 obtain ⟨h2, e2⟩ := List.getElem?_eq_some_iff.mp b
 exact (List.getElem_inj hN).mp (e1.trans e2.symm)
theorem f9y {M : Model} {A : Around} {E : Value -> Shared -> Prop} {i : Nat} {x : Str} {v : V} {u : Value} {Q : Unit -> Shared -> Prop} (I : Inv X pins σ H s) (hN : X.N.Nodup) (hi : X.N[i]? = some x) (hx : Loc X.env.scope x) (r : RelV v u)
  (h : ∀ s', Inv X pins (σ.set i (some v)) H s' -> (∃ a, Heap.SameBut a s.heap s'.heap /\ (a = X.env.locals \/ X.env.cells.lookup x = some a)) -> Q () s') (hf : X.fn x = true \/ X.env.scope.names.lookup x = some .local := by first | exact .inl rfl | exact .inr rfl | assumption) : wpAny M A (storeName X.env x u) Q E s := by
 obtain ⟨m, hn, hl⟩ := id I.loc
 have hcls : (X.env.scope.kind == .class || (X.env.scope.kind == .module && X.env.locals != X.env.globals)) = false := by rw [I.ok.kind]; rfl
 have hiσ : i < σ.length := by rw [I.len]; exact (List.getElem?_eq_some_iff.mp hi).1
 have cne := I.cne
 have tracked : ∀ {a : Addr} {h' : Heap}, (∃ o, s.heap.get? a = some o /\ H a = none) -> Heap.SameBut a s.heap h' -> HOk X.prog X.w H h' := fun {a h'} ha hs b ob e => by
  obtain ⟨_, _, hfree⟩ := ha
  refine (I.hok b ob e).stay (fun c w' hc q => (hs.2 c ?_).trans q) (fun _ q => q) fun _ _ q => q
  rintro rfl
  rcases hc with rfl | hc
  ·rw [hfree] at e; cases e
  ·rw [hfree] at hc; cases hc
 rcases hx with hk | hk
 ·refine wpAny_storeName_local hk hn (fun h' hn' hs => ?_) hcls
  obtain ⟨oL, _, _, hoL, _⟩ := id hn
  refine h _ ⟨I.ok, I.os, I.bare, ⟨fun b o e n hb hx => ?_, fun b o e n hb hx => ?_, I.base.free, fun b o e hx => ?_, I.base.tups, I.base.i3o, I.base.i3s⟩, ⟨_, hn', fun j y v' e1 e2 e3 => ?_⟩, fun y c e => ?_, I.free, I.f0n, fun p hp => ?_, tracked ⟨oL, hoL, I.free⟩ hs, by simpa using I.len⟩ ⟨_, hs, .inl rfl⟩
  ·exact (hs.2 b (Nat.ne_of_lt (Nat.lt_of_lt_of_le (Heap.lt_size e) I.ok.above))).trans (I.base.keep b o e n hb hx)
  ·obtain ⟨sl, e1⟩ := I.base.slot b o e n hb hx
   exact ⟨sl, (hs.2 b (Nat.ne_of_lt (Nat.lt_of_lt_of_le (Heap.lt_size e) I.ok.above))).trans e1⟩
  ·obtain ⟨o', e1⟩ := I.base.there b o e hx
   exact ⟨o', (hs.2 b (Nat.ne_of_lt (Nat.lt_of_lt_of_le (Heap.lt_size e) I.ok.above))).trans e1⟩
  ·by_cases hj : j = i
   ·subst hj
    rw [hi] at e1; cases e1
    rw [List.getElem?_set_self hiσ] at e2
    cases e2
    exact ⟨u, r, .inl ⟨hk, by simp⟩⟩
   ·rw [List.getElem?_set_ne (Ne.symm hj)] at e2
    obtain ⟨u', r', q⟩ := hl j y v' e1 e2 e3
    refine ⟨u', r', ?_⟩
    rcases q with ⟨k, e⟩ | ⟨k, c, e, z⟩
    ·refine .inl ⟨k, ?_⟩
     have : y ≠ x := fun e => hj (f9p hN e1 (e ▸ hi))
     simp [this, e]
    ·exact .inr ⟨k, c, e, z.sameBut hs (cne y c e)⟩
  ·obtain ⟨w', z⟩ := I.cell y c e
   exact ⟨w', z.sameBut hs (cne y c e)⟩
  ·obtain ⟨e, n, ne, nf, d⟩ := I.pin p hp
   exact ⟨(hs.2 p.1 ne).trans e, n, ne, nf, d⟩
 ·have hfn : X.fn x = true := by
   rcases hf with z | z
   ·exact z
   ·rw [z] at hk; cases hk
  obtain ⟨c, hc⟩ := I.ok.has x (.inl hk)
  obtain ⟨w', z⟩ := I.cell x c hc
  refine wpAny_storeName_cell I.ok.kind hk hc z (fun h' hc' hs => ?_)
  obtain ⟨oc, hoc, hocd⟩ := id z
  refine h { s with heap := h' } ⟨I.ok, I.os, I.bare, ⟨fun b o e n hb hx => ?_, fun b o e n hb hx => ?_, I.base.free, fun b o e hx => ?_, I.base.tups, I.base.i3o, I.base.i3s⟩, ⟨m, hn.sameBut hs (Ne.symm (cne x c hc)), fun j y v' e1 e2 e3 => ?_⟩, fun y c' e => ?_, I.free, I.f0n, fun p hp => ?_, tracked ⟨oc, hoc, I.f0n x c hc⟩ hs, by simpa using I.len⟩ ⟨c, hs, .inr hc⟩
  ·exact (hs.2 b (Nat.ne_of_lt (Nat.lt_of_lt_of_le (Heap.lt_size e) (I.ok.cab x c hfn hc)))).trans (I.base.keep b o e n hb hx)
  ·obtain ⟨sl, e1⟩ := I.base.slot b o e n hb hx
   exact ⟨sl, (hs.2 b (Nat.ne_of_lt (Nat.lt_of_lt_of_le (Heap.lt_size e) (I.ok.cab x c hfn hc)))).trans e1⟩
  ·obtain ⟨o', e1⟩ := I.base.there b o e hx
   exact ⟨o', (hs.2 b (Nat.ne_of_lt (Nat.lt_of_lt_of_le (Heap.lt_size e) (I.ok.cab x c hfn hc)))).trans e1⟩
  ·by_cases hj : j = i
   ·subst hj
    rw [hi] at e1; cases e1
    rw [List.getElem?_set_self hiσ] at e2
    cases e2
    exact ⟨u, r, .inr ⟨.inl hk, c, hc, hc'⟩⟩
   ·rw [List.getElem?_set_ne (Ne.symm hj)] at e2
    obtain ⟨u', r', q⟩ := hl j y v' e1 e2 e3
    refine ⟨u', r', ?_⟩
    rcases q with q | ⟨k, c', e, z'⟩
    ·exact .inl q
    ·refine .inr ⟨k, c', e, z'.sameBut hs ?_⟩
     rintro rfl
     exact hj (f9p hN e1 (I.ok.inj _ _ _ e hc ▸ hi))
  ·by_cases hcc : c' = c
   ·subst hcc; exact ⟨_, hc'⟩
   ·obtain ⟨w2, z2⟩ := I.cell y c' e
    exact ⟨w2, z2.sameBut hs hcc⟩
  ·obtain ⟨e, n, ne, nf, d⟩ := I.pin p hp
   refine ⟨(hs.2 p.1 ?_).trans e, n, ne, nf, d⟩
   intro q
   rw [q, hoc] at e
   have q' : oc = p.2 := Option.some.inj e
   exact d w' (by rw [<- q']; exact hocd)
theorem j0e {M : Model} {A : Around} {E : Value -> Shared -> Prop} {i : Nat} {x : Str} {v : V} {u : Value} {Q : Unit -> Shared -> Prop} (I : Inv X pins σ H s) (hN : X.N.Nodup) (hi : X.N[i]? = some x) (hx : Loc X.env.scope x) (r : RelV v u)
  (h : ∀ s', Inv X pins (σ.set i (some v)) H s' -> Q () s') (hf : X.fn x = true \/ X.env.scope.names.lookup x = some .local := by first | exact .inl rfl | exact .inr rfl | assumption) : wpAny M A (storeName X.env x u) Q E s :=
 f9y I hN hi hx r (fun s' I' _ => h s' I') hf
theorem Inv.call' {s' : Shared} {ch : List Addr} (I : Inv X pins σ H s) (ho : s'.os = s.os) (u : Un (frs X.stack) ch H H' s.heap s'.heap) (hok : HOk X.prog X.w H' s'.heap) (hg : AllBare s'.gens)
  (hch : ∀ b ∈ ch, (b ∈ X.ex \/ X.s₀.heap.objs.size <= b) /\ b ≠ X.env.locals /\ (∀ x c, X.env.cells.lookup x = some c -> c ≠ b) /\ ∀ p ∈ X.pn ++ pins, p.1 ≠ b) : Inv X pins σ H' s' := by
 obtain ⟨h', g', d', t', o'⟩ := s'
 have e : o' = s.os := ho
 subst e
 exact I.call (g' := g') (t' := t') (d' := d') u hok hg hch
end
noncomputable abbrev XK := Value -> Option Addr -> Hp -> Prop
noncomputable abbrev St := List (Option V)
noncomputable abbrev VK := V -> Hp -> Prop
noncomputable abbrev TE := St -> Hp -> VK -> Prop
noncomputable abbrev TT := St -> Hp -> (Bool -> Hp -> Prop) -> Prop
noncomputable abbrev TA := St -> Hp -> (List V -> Hp -> Prop) -> Prop
structure Ends where
 nx : St -> Hp -> Prop
 rt : VK
 bk : St -> Hp -> Prop := fun _ _ => False
 ct : St -> Hp -> Prop := fun _ _ => False
noncomputable abbrev TS := Ends -> St -> Hp -> Prop
noncomputable def EP (X : Cx) (pins : List (Addr × Obj)) (σ : St) (Q : VK) (u : Value) (s' : Shared) : Prop := ∃ v H', Inv X pins σ H' s' /\ RelV v u /\ Q v H'
noncomputable def TP (X : Cx) (pins : List (Addr × Obj)) (σ : St) (Q : Bool -> Hp -> Prop) (b : Bool) (s' : Shared) : Prop := ∃ H', Inv X pins σ H' s' /\ Q b H'
noncomputable def AP (X : Cx) (pins : List (Addr × Obj)) (σ : St) (Q : List V -> Hp -> Prop) (us : List Value) (s' : Shared) : Prop := ∃ vs H', Inv X pins σ H' s' /\ Vals vs us /\ Q vs H'
noncomputable def SP (X : Cx) (pins : List (Addr × Obj)) (D : Ends) (f : Flow) (s' : Shared) : Prop :=
 match f with
 | .next => ∃ σ' H', Inv X pins σ' H' s' /\ D.nx σ' H'
 | .brk => ∃ σ' H', Inv X pins σ' H' s' /\ D.bk σ' H'
 | .cont => ∃ σ' H', Inv X pins σ' H' s' /\ D.ct σ' H'
 | .ret u => ∃ v σ' H', Inv X pins σ' H' s' /\ RelV v u /\ D.rt v H'
noncomputable def PE (X : Cx) (e : Expr) (t : TE) : Prop :=
 ∀ (pins : List (Addr × Obj)) (s : Shared) (σ : St) (H : Hp) (Q : VK), Inv X pins σ H s -> t σ H Q -> wpAny (model X.prog X.w) X.A (eval e X.env) (EP X pins σ Q) X.xe s
noncomputable def PT (X : Cx) (e : Expr) (t : TT) : Prop :=
 ∀ (pins : List (Addr × Obj)) (s : Shared) (σ : St) (H : Hp) (Q : Bool -> Hp -> Prop), Inv X pins σ H s -> t σ H Q -> wpAny (model X.prog X.w) X.A (isTrue e X.env (eval e X.env)) (TP X pins σ Q) X.xe s
noncomputable def PW (X : Cx) (e : Expr) (t : TT) : Prop :=
 ∀ (whole : Sem Value) (pins : List (Addr × Obj)) (s : Shared) (σ : St) (H : Hp) (Q : Bool -> Hp -> Prop), Inv X pins σ H s -> t σ H Q -> wpAny (model X.prog X.w) X.A (isTrue e X.env whole) (TP X pins σ Q) X.xe s
theorem PW.pt {X : Cx} {e : Expr} {t : TT} (h : PW X e t) : PT X e t := h _
noncomputable def PA (X : Cx) (es : List Expr) (t : TA) : Prop :=
 ∀ (pos : Pos) (pins : List (Addr × Obj)) (s : Shared) (σ : St) (H : Hp) (Q : List V -> Hp -> Prop), Inv X pins σ H s -> t σ H Q -> wpAny (model X.prog X.w) X.A (spliced (backTo pos (starEach es X.env))) (AP X pins σ Q) X.xe s
noncomputable def PS (X : Cx) (st : Stmt) (t : TS) : Prop :=
 ∀ (pins : List (Addr × Obj)) (s : Shared) (σ : St) (H : Hp) (D : Ends), Inv X pins σ H s -> t D σ H -> wpAny (model X.prog X.w) X.A (exec st X.env) (SP X pins D) X.xe s
noncomputable def PSs (X : Cx) (st : List Stmt) (t : TS) : Prop :=
 ∀ (pins : List (Addr × Obj)) (s : Shared) (σ : St) (H : Hp) (D : Ends), Inv X pins σ H s -> t D σ H -> wpAny (model X.prog X.w) X.A (execs st X.env) (SP X pins D) X.xe s
theorem thn {α : Type} {t : Sem α} {Q Q' : α -> Shared -> Prop} {M : Model} {A : Around} {E : Value -> Shared -> Prop} {s : Shared} (h : wpAny M A t Q E s) (hQ : ∀ a s, Q a s -> Q' a s) : wpAny M A t Q' E s := wpAny_mono h hQ fun _ _ x => x
end L2
namespace L2
open PySem PySem.Spec PyProof.Rows
section
variable {X : Cx}
noncomputable def tVar (i : Nat) : TE := fun σ H Q => ∃ v, σ[i]? = some (some v) /\ Q v H
noncomputable def tC (v : V) : TE := fun _ H Q => Q v H
theorem l0d {i : Nat} {x : Str} {pos : Pos} (hN : X.N[i]? = some x) (hv : Vis X.env.scope x) (hd : (x == ("__debug__" : Str)) = false := by decide) (hcd : (x == ("__classdict__" : Str)) = false := by decide) : PE X (.Name x pos) (tVar i) := by
 intro pins s σ H Q I h
 obtain ⟨v, e, h⟩ := h
 obtain ⟨m, hn, hl⟩ := I.loc
 obtain ⟨u, r, l⟩ := hl i x v hN e hv
 have fin : EP X pins σ Q u s := ⟨v, H, I, r, h⟩
 rcases l with ⟨hk, hm⟩ | ⟨hk, c, hc, hcell⟩
 ·exact wpAny_Name (wpAny_loadName_local I.ok.kind hk hn hm fin) hd
 ·rcases hk with hk | hk
  ·exact wpAny_Name (wpAny_loadName_cell I.ok.kind hk hc hcell fin) hd
  ·exact wpAny_Name (wpAny_loadName_free I.ok.kind hk hc hcell fin hcd) hd
theorem a0l {i j pos} : PE X (.Constant (.int i) j pos) (tC (.int i)) := fun _ _ _ H _ I h => wpAny_Constant_int ⟨.int i, H, I.tok _, ⟨_, rfl⟩, h⟩
theorem d4s {b j pos} : PE X (.Constant (.bool b) j pos) (tC (.bl b)) := fun _ _ _ H _ I h => Constant_bool ⟨.bl b, H, I, rfl, h⟩
theorem f9z {j pos} : PE X (.Constant .none j pos) (tC .non) := fun _ _ _ H _ I h => Constant_none ⟨.non, H, I, rfl, h⟩
theorem a3s {x j pos} : PE X (.Constant (.str x) j pos) (tC (.str x)) := fun _ _ _ H _ I h => Calls.Constant_str ⟨.str x, H, I.tok _, ⟨_, rfl⟩, h⟩
noncomputable def Gl (X : Cx) (x : Str) : Prop := X.env.kindOf x = some .globalImplicit
theorem g9b {E : Value -> Shared -> Prop} {pins : List (Addr × Obj)} {s : Shared} {σ : St} {H : Hp} {x : Str} {u : Value} {pos : Pos} {Q : Value -> Shared -> Prop} (I : Inv X pins σ H s) (hg : Gl X x) (hm : X.mg x = some u) (h : Q u s)
  (hd : (x == ("__debug__" : Str)) = false := by decide) : wpAny (model X.prog X.w) X.A (eval (.Name x pos) X.env) Q E s :=
 Calls.Name_function_global I.ok.kind hg (Calls.loadGlobal_global (by rw [I.ok.glob]; exact I.mod.glob.keeps I.bk) hm h) hd
theorem h4o {E : Value -> Shared -> Prop} {pins : List (Addr × Obj)} {s : Shared} {σ : St} {H : Hp} {x : Str} {u : Value} {pos : Pos} {Q : Value -> Shared -> Prop} (I : Inv X pins σ H s) (hg : Gl X x) (hm : X.mg x = none) (hv : bootBuiltins x = some u) (h : Q u s)
  (hn : x ≠ "__name__" := by decide) (hd : (x == ("__debug__" : Str)) = false := by decide) : wpAny (model X.prog X.w) X.A (eval (.Name x pos) X.env) Q E s := by
 obtain ⟨mb, h1, h2⟩ := I.mod.blt
 exact Calls.Name_function_global I.ok.kind hg (Calls.loadGlobal_builtin (by rw [I.ok.glob]; exact I.mod.glob.keeps I.bk) hm (by rw [I.ok.blt]; exact h1.keeps I.bk) ((h2 x hn).trans hv) h) hd
theorem a5v {x : Str} {v : V} {u : Value} {pos : Pos} (hg : Gl X x) (hm : X.mg x = some u) (r : RelV v u) (hd : (x == ("__debug__" : Str)) = false := by decide) : PE X (.Name x pos) (tC v) :=
 fun _ _ _ H _ I h => g9b I hg hm ⟨v, H, I, r, h⟩ hd
theorem b6g {x : Str} {v : V} {u : Value} {pos : Pos} (hg : Gl X x) (hm : X.mg x = none) (hv : bootBuiltins x = some u) (r : RelV v u) (hn : x ≠ "__name__" := by decide) (hd : (x == ("__debug__" : Str)) = false := by decide) : PE X (.Name x pos) (tC v) :=
 fun _ _ _ H _ I h => h4o I hg hm hv ⟨v, H, I, r, h⟩ hn hd
variable {a b : Expr} {ta tb : TE} {pos : Pos}
noncomputable def PC (X : Cx) (op : CmpOp) (a b : Expr) (t : TE) : Prop :=
 ∀ (pins : List (Addr × Obj)) (s : Shared) (σ : St) (H : Hp) (Q : VK), Inv X pins σ H s -> t σ H Q ->
  wpAny (model X.prog X.w) X.A (eval a X.env) (fun v s₁ => wpAny (model X.prog X.w) X.A (eval b X.env) (fun u s₂ => wpAny (model X.prog X.w) X.A (compareOp op v u) (EP X pins σ Q) X.xe s₂) X.xe s₁) X.xe s
theorem k0y (b : Expr) {op : CmpOp} (h : op ≠ .In) (h2 : op ≠ .NotIn) : behindInMarks op b = false := by
 have e1 : (op == CmpOp.In) = false := by cases op <;> first | rfl | exact absurd rfl h
 have e2 : (op == CmpOp.NotIn) = false := by cases op <;> first | rfl | exact absurd rfl h2
 cases b <;> simp [behindInMarks, e1, e2]
noncomputable def tB (t : TE) : TT := fun σ H Q => t σ H fun x H1 => ∃ c, x = .bl c /\ Q c H1
theorem l0e {op : CmpOp} {t : TE} (h : PC X op a b t) (h1 : behindInMarks op b = false := by first | exact k0y _ (by decide) (by decide) | rfl) : PT X (.Compare a [op] [b] pos) (tB t) := by
 intro pins s σ H Q I hw
 refine wpAny_isTrue_Compare1 (thn (h pins s σ H _ I hw) fun v s1 h1 => thn h1 fun u s2 h2 => thn h2 fun c s3 ⟨x, H1, I1, r1, q1⟩ => ?_) h1
 obtain ⟨d, rfl, q⟩ := q1
 cases r1
 exact wpAny_truthy_bool ⟨H1, I1, q⟩
theorem l0f {e : Expr} {t : TE} (h : PE X e t) (he : ∀ whole, isTrue e X.env whole = (do let v <- whole; standAt e.pos; holding [v] (truthy v)) := by intro _; rfl) : PT X e (tB t) := by
 intro pins s σ H Q I hw
 refine isTrue_plain (thn (h pins s σ H _ I hw) fun v s1 ⟨x, H1, I1, r1, q1⟩ => ?_) (he _)
 obtain ⟨d, rfl, q⟩ := q1
 cases r1
 exact wpAny_truthy_bool ⟨H1, I1, q⟩
variable {tA tB' : TT} {rest : List Expr}
noncomputable def tAnd (t u : TT) : TT := fun σ H Q => t σ H fun c H1 => if c = true then u σ H1 Q else Q false H1
noncomputable def tOr (t u : TT) : TT := fun σ H Q => t σ H fun c H1 => if c = true then Q true H1 else u σ H1 Q
noncomputable def tNot (t : TT) : TT := fun σ H Q => t σ H fun c H1 => Q (!c) H1
theorem pw_and1 (ha : PT X a tA) : PW X (.BoolOp .And [a] pos) tA := by
 intro wh pins s σ H Q I h
 refine isTrue_and (thn (ha pins s σ H Q I h) fun c s1 e => ?_)
 cases c with
 | true => exact isTrue_and_nil e
 | false => exact e
theorem pw_or1 (ha : PT X a tA) : PW X (.BoolOp .Or [a] pos) tA := by
 intro wh pins s σ H Q I h
 refine isTrue_or (thn (ha pins s σ H Q I h) fun c s1 e => ?_)
 cases c with
 | false => exact isTrue_or_nil e
 | true => exact e
theorem pw_and (ha : PT X a tA) (hb : PW X (.BoolOp .And (b :: rest) pos) tB') : PW X (.BoolOp .And (a :: b :: rest) pos) (tAnd tA tB') := by
 intro wh pins s σ H Q I h
 refine isTrue_and (thn (ha pins s σ H _ I h) fun c s1 ⟨H1, I1, q1⟩ => ?_)
 cases c with
 | true => exact hb wh pins s1 σ H1 Q I1 q1
 | false => exact ⟨H1, I1, q1⟩
theorem pw_or (ha : PT X a tA) (hb : PW X (.BoolOp .Or (b :: rest) pos) tB') : PW X (.BoolOp .Or (a :: b :: rest) pos) (tOr tA tB') := by
 intro wh pins s σ H Q I h
 refine isTrue_or (thn (ha pins s σ H _ I h) fun c s1 ⟨H1, I1, q1⟩ => ?_)
 cases c with
 | true => exact ⟨H1, I1, q1⟩
 | false => exact hb wh pins s1 σ H1 Q I1 q1
theorem b2z (ha : PT X a tA) : PT X (.UnaryOp .Not a pos) (tNot tA) := by
 intro pins s σ H Q I h
 exact isTrue_not (ha pins s σ H (fun c H1 => Q (!c) H1) I h)
noncomputable def l0g (ta tb : TE) : TE := fun σ H Q => ta σ H fun x H1 => ∃ c, x = .bl c /\ if c = true then tb σ H1 Q else Q (.bl false) H1
noncomputable def l0h (ta : TE) : TE := fun σ H Q => ta σ H fun x H1 => ∃ c, x = .bl c /\ Q (.bl (!c)) H1
theorem j6n {op} {t : TE} (h : PE X a t) : PE X (.BoolOp op [a] pos) t := fun pins s σ H Q I hw => BoolOp_one (h pins s σ H Q I hw)
theorem l0i (ha : PE X a ta) (hb : PE X (.BoolOp .And (b :: rest) pos) tb) : PE X (.BoolOp .And (a :: b :: rest) pos) (l0g ta tb) := by
 intro pins s σ H Q I h
 refine BoolOp_and (thn (ha pins s σ H _ I h) fun v s1 ⟨x, H1, I1, r1, q1⟩ => ?_)
 obtain ⟨c, rfl, q1⟩ := q1
 cases r1
 refine wpAny_truthy_bool ?_
 cases c with
 | true => exact hb pins s1 σ H1 Q I1 q1
 | false => exact ⟨.bl false, H1, I1, rfl, q1⟩
theorem l0j (ha : PE X a ta) : PE X (.UnaryOp .Not a pos) (l0h ta) := by
 intro pins s σ H Q I h
 refine UnaryOp_ (thn (ha pins s σ H _ I h) fun v s1 ⟨x, H1, I1, r1, q1⟩ => ?_)
 obtain ⟨c, rfl, q1⟩ := q1
 cases r1
 exact not_of (wpAny_truthy_bool ⟨.bl (!c), H1, I1, rfl, q1⟩)
noncomputable def tIf (t : TT) (ta tb : TE) : TE := fun σ H Q => t σ H fun c H1 => if c = true then ta σ H1 Q else tb σ H1 Q
theorem k0z {c : Expr} (hc : PT X c tA) (ha : PE X a ta) (hb : PE X b tb) : PE X (.IfExp c a b pos) (tIf tA ta tb) := by
 intro pins s σ H Q I h
 refine wpAny_IfExp (thn (hc pins s σ H _ I h) fun d s1 ⟨H1, I1, q1⟩ => ?_)
 cases d with
 | true => exact ha pins s1 σ H1 Q I1 q1
 | false => exact hb pins s1 σ H1 Q I1 q1
end
end L2
namespace L2
open PySem PySem.Spec PyProof.Rows
noncomputable def SqL (K : PySem.W.Frag) (H : Hp) (a : Addr) (xs : List V) : Prop :=
 Rd H a (.lst xs) \/
  ∃ (o : Obj) (its : Array Value) (n : Nat), K.lookup a = some o ∧ o.cls = .type "list" ∧ o.dict = none ∧ o.data = .seq its n ∧ its.size ≤ sizeLine ∧ Vals xs its.toList
noncomputable def SqT (K : PySem.W.Frag) (H : Hp) (a : Addr) (xs : List V) : Prop :=
 Rd H a (.tup xs) \/
  ∃ (o : Obj) (its : Array Value) (n : Nat), K.lookup a = some o ∧ o.cls = .type "tuple" ∧ o.data = .seq its n ∧ its.size ≤ sizeLine ∧ Vals xs its.toList
noncomputable def absV : Value -> Option V
 | .none => some .non
 | .bool b => some (.bl b)
 | .int i _ => some (.int i)
 | .str x _ => some (.str x)
 | .bytes b _ => some (.byt b)
 | .float b _ => some (.flt b)
 | .ref a => some (.ref a)
 | .type n => some (.ty n)
 | _ => none
theorem RelV.abs {x : V} {u : Value} (r : RelV x u) : absV u = some x := by
 cases x with
 | non => cases r; rfl
 | bl _ => cases r; rfl
 | int _ => obtain ⟨t, rfl⟩ := r; rfl
 | str _ => obtain ⟨t, rfl⟩ := r; rfl
 | byt _ => obtain ⟨t, rfl⟩ := r; rfl
 | flt _ => obtain ⟨t, rfl⟩ := r; rfl
 | ref _ => cases r; rfl
 | ty _ => cases r; rfl
theorem RelV.inj {x y : V} {u : Value} (r : RelV x u) (q : RelV y u) : x = y := Option.some.inj (r.abs.symm.trans q.abs)
theorem Vals.inj : ∀ {xs ys : List V} {us : List Value}, Vals xs us -> Vals ys us -> xs = ys
 | _, _, _, .nil, .nil => rfl
 | _, _, _, .cons r t, .cons r' t' => by rw [r.inj r', Vals.inj t t']
section
variable {X : Cx} {pins : List (Addr × Obj)} {σ : St} {H : Hp} {s : Shared} {a : Addr} {xs ys : List V}
theorem SqL.of {K : PySem.W.Frag} (h : H a = some (.lst xs)) : SqL K H a xs := .inl (.inl h)
theorem SqT.of {K : PySem.W.Frag} (h : H a = some (.tup xs)) : SqT K H a xs := .inl (.inl h)
theorem Inv.list (I : Inv X pins σ H s) (h : SqL X.K H a xs) : ∃ its : List Value, Vals xs its /\ PlainL s.heap a its.toArray /\ xs.length <= sizeLine := by
 rcases h with h | ⟨o, its, n, hk, hc, hd, hs, hz, r⟩
 ·obtain ⟨z, its, n, r, e⟩ := h.ok I.hok
  exact ⟨its, r, ⟨_, n, e, rfl, rfl, rfl⟩, z⟩
 ·refine ⟨its.toList, r, ⟨o, n, I.kIn a o hk, hc, hd, by simpa using hs⟩, ?_⟩
  have e := r.length
  simp only [Array.length_toList] at e
  omega
theorem Inv.tuple (I : Inv X pins σ H s) (h : SqT X.K H a xs) : ∃ its : List Value, Vals xs its /\ IsTup s.heap a its.toArray /\ xs.length <= sizeLine := by
 rcases h with h | ⟨o, its, n, hk, hc, hs, hz, r⟩
 ·obtain ⟨z, its, r, p⟩ := h.ok I.hok
  exact ⟨its, r, p, z⟩
 ·refine ⟨its.toList, r, ⟨o, I.kIn a o hk, hc, n, by simpa using hs⟩, ?_⟩
  have e := r.length
  simp only [Array.length_toList] at e
  omega
theorem Inv.j0f (I : Inv X pins σ H s) (h : SqL X.K H a xs) (h' : SqL X.K H a ys) : xs = ys := by
 obtain ⟨its, r, ⟨o, n, e, _, _, d⟩, _⟩ := I.list h
 obtain ⟨its', r', ⟨o', n', e', _, _, d'⟩, _⟩ := I.list h'
 rw [e] at e'; cases e'
 rw [d] at d'
 injection d' with d1 _
 have : its = its' := by simpa using congrArg Array.toList d1
 subst this
 exact r.inj r'
theorem Inv.h4p (I : Inv X pins σ H s) (h : SqT X.K H a xs) (h' : SqT X.K H a ys) : xs = ys := by
 obtain ⟨its, r, ⟨o, e, _, n, d⟩, _⟩ := I.tuple h
 obtain ⟨its', r', ⟨o', e', _, n', d'⟩, _⟩ := I.tuple h'
 rw [e] at e'; cases e'
 rw [d] at d'
 injection d' with d1 _
 have : its = its' := by simpa using congrArg Array.toList d1
 subst this
 exact r.inj r'
end
noncomputable abbrev Cx.wish (X : Cx) (E : Value -> Shared -> Prop) : Cx := { X with xe := E }
noncomputable abbrev Cx.nox (X : Cx) : Cx := X.wish fun _ _ => False
theorem Cx.Ok.wish {X : Cx} (ok : X.Ok) (E : Value -> Shared -> Prop) : (X.wish E).Ok :=
 ⟨ok.mod, ok.kind, ok.glob, ok.blt, ok.above, ok.inj, ok.has, ok.cab, ok.hd, ok.frames, ok.stk, ok.exf, ok.bs, ok.bsz, ok.k5s, ok.l0c, ok.j0d, ok.frf⟩
theorem Cx.Ok.b9u {X : Cx} {E : Value -> Shared -> Prop} (ok : (X.wish E).Ok) : X.Ok :=
 ⟨ok.mod, ok.kind, ok.glob, ok.blt, ok.above, ok.inj, ok.has, ok.cab, ok.hd, ok.frames, ok.stk, ok.exf, ok.bs, ok.bsz, ok.k5s, ok.l0c, ok.j0d, ok.frf⟩
section
variable {X : Cx} {pins : List (Addr × Obj)} {σ : St} {H : Hp} {s : Shared} {E : Value -> Shared -> Prop}
theorem Inv.wish (I : Inv X pins σ H s) (E : Value -> Shared -> Prop) : Inv (X.wish E) pins σ H s := ⟨I.ok.wish E, I.os, I.bare, I.base, I.loc, I.cell, I.free, I.f0n, I.pin, I.hok, I.len⟩
theorem Inv.b9u (I : Inv (X.wish E) pins σ H s) : Inv X pins σ H s := ⟨I.ok.b9u, I.os, I.bare, I.base, I.loc, I.cell, I.free, I.f0n, I.pin, I.hok, I.len⟩
theorem SP.b9u {D : Ends} {f : Flow} {s' : Shared} (h : SP (X.wish E) pins D f s') : SP X pins D f s' := by
 cases f with
 | next => obtain ⟨σ', H', I, q⟩ := h; exact ⟨σ', H', I.b9u, q⟩
 | brk => obtain ⟨σ', H', I, q⟩ := h; exact ⟨σ', H', I.b9u, q⟩
 | cont => obtain ⟨σ', H', I, q⟩ := h; exact ⟨σ', H', I.b9u, q⟩
 | ret u => obtain ⟨v, σ', H', I, r, q⟩ := h; exact ⟨v, σ', H', I.b9u, r, q⟩
theorem PE.nox {e : Expr} {t : TE} (h : PE X.nox e t) : PE X e t := fun pins s σ H Q I hw =>
 wpAny_mono (h pins s σ H Q (I.wish _) hw) (fun _ _ ⟨v, H', I', r, q⟩ => ⟨v, H', I'.b9u, r, q⟩) fun _ _ z => False.elim z
theorem PT.nox {e : Expr} {t : TT} (h : PT X.nox e t) : PT X e t := fun pins s σ H Q I hw =>
 wpAny_mono (h pins s σ H Q (I.wish _) hw) (fun _ _ ⟨H', I', q⟩ => ⟨H', I'.b9u, q⟩) fun _ _ z => False.elim z
theorem PSs.nox {st : List Stmt} {t : TS} (h : PSs X.nox st t) : PSs X st t := fun pins s σ H D I hw =>
 wpAny_mono (h pins s σ H D (I.wish _) hw) (fun _ _ q => q.b9u) fun _ _ z => False.elim z
end
section
variable {X : Cx} {st : Stmt} {rest : List Stmt} {t u : TS} {e : Expr} {te : TE} {pos : Pos}
noncomputable def l5x : TS := fun D σ H => D.nx σ H
noncomputable def tSeq (t u : TS) : TS := fun D σ H => t { D with nx := u D } σ H
theorem a1j : PSs X [] l5x := fun _ _ σ H _ I h => wpAny_execs_nil ⟨σ, H, I, h⟩
theorem a0i (h1 : PS X st t) (h2 : PSs X rest u) : PSs X (st :: rest) (tSeq t u) := by
 intro pins s σ H D I h
 refine wpAny_execs_cons (thn (h1 pins s σ H { D with nx := u D } I h) fun f s1 q => ?_)
 cases f with
 | next =>
  obtain ⟨σ', H', I', q⟩ := q
  exact h2 pins s1 σ' H' D I' q
 | ret v => exact q
 | brk => exact q
 | cont => exact q
theorem a0m (h1 : PS X st t) : PSs X [st] t := by
 intro pins s σ H D I h
 refine wpAny_execs_cons (thn (h1 pins s σ H D I h) fun f s1 q => ?_)
 cases f with
 | next => exact wpAny_execs_nil q
 | ret v => exact q
 | brk => exact q
 | cont => exact q
theorem Inv.quiet {pins : List (Addr × Obj)} {σ : St} {H : Hp} {s : Shared} (I : Inv X pins σ H s) : interactive X.env = false := by simp [interactive, I.ok.kind]
noncomputable def l5y (te : TE) : TS := fun D σ H => te σ H fun _ H1 => D.nx σ H1
theorem a3n (he : PE X e te) (hs : swapsWith e none pos.line X.env = pure false := by rfl) : PS X (.Expr e pos) (l5y te) := by
 intro pins s σ H D I h
 exact wpAny_Expr_any (thn (he pins s σ H _ I h) fun v s1 ⟨x, H1, I1, r1, q1⟩ => ⟨σ, H1, I1, q1⟩) I.quiet hs
noncomputable def tRet (te : TE) : TS := fun D σ H => te σ H D.rt
theorem a0z (he : PE X e te) : PS X (.Return (some e) pos) (tRet te) := by
 intro pins s σ H D I h
 exact wpAny_Return_some (thn (he pins s σ H _ I h) fun v s1 ⟨x, H1, I1, r1, q1⟩ => ⟨x, σ, H1, I1, r1, q1⟩)
noncomputable def tRetN : TS := fun D _ H => D.rt .non H
noncomputable def tIfS (c : TT) (t u : TS) : TS := fun D σ H => c σ H fun b H1 => if b = true then t D σ H1 else u D σ H1
theorem a4j {c : Expr} {a b : List Stmt} {tc : TT} (hc : PT X c tc) (ha : PSs X a t) (hb : PSs X b u) : PS X (.If c a b pos) (tIfS tc t u) := by
 intro pins s σ H D I h
 refine wpAny_If (thn (hc pins s σ H _ I h) fun d s1 ⟨H1, I1, q1⟩ => ?_)
 cases d with
 | true => exact ha pins s1 σ H1 D I1 q1
 | false => exact hb pins s1 σ H1 D I1 q1
noncomputable def l0k : TS := fun _ _ _ => False
theorem a2k : PS X st l0k := fun _ _ _ _ _ _ h => h.elim
end
noncomputable abbrev TG := V -> St -> Hp -> (St -> Hp -> Prop) -> Prop
noncomputable abbrev TGs := List V -> St -> Hp -> (St -> Hp -> Prop) -> Prop
noncomputable def PG (X : Cx) (target : Expr) (t : TG) : Prop :=
 ∀ (pins : List (Addr × Obj)) (s : Shared) (σ : St) (H : Hp) (v : V) (u : Value) (Q : St -> Hp -> Prop), Inv X pins σ H s -> RelV v u -> t v σ H Q ->
  wpAny (model X.prog X.w) X.A (assign target X.env u) (fun _ s' => ∃ σ' H', Inv X pins σ' H' s' /\ Q σ' H') X.xe s
noncomputable def PGs (X : Cx) (ts : List Expr) (t : TGs) : Prop :=
 ∀ (pins : List (Addr × Obj)) (s : Shared) (σ : St) (H : Hp) (vs : List V) (us : List Value) (Q : St -> Hp -> Prop), Inv X pins σ H s -> Vals vs us -> t vs σ H Q ->
  wpAny (model X.prog X.w) X.A (assignInOrder ((assignEach ts X.env).map (·.2)) us) (fun _ s' => ∃ σ' H', Inv X pins σ' H' s' /\ Q σ' H') X.xe s
noncomputable abbrev TSet := V -> V -> V -> Hp -> (Hp -> Prop) -> Prop
noncomputable abbrev TIp := V -> V -> Hp -> VK -> Prop
section
variable {X : Cx} {pos : Pos}
noncomputable def k1a (i : Nat) : TG := fun v σ H Q => Q (σ.set i (some v)) H
theorem a3v {i : Nat} {x : Str} (hN : X.N.Nodup) (hi : X.N[i]? = some x) (hx : Loc X.env.scope x) (hf : X.fn x = true \/ X.env.scope.names.lookup x = some .local := by first | exact .inl rfl | exact .inr rfl | assumption) : PG X (.Name x pos) (k1a i) := by
 intro pins s σ H v u Q I r h
 exact wpAny_assign_Name (j0e I hN hi hx r (fun s' I' => ⟨_, H, I', h⟩) hf)
noncomputable def gNil : TGs := fun vs σ H Q => vs = [] /\ Q σ H
noncomputable def l5z (t : TG) (u : TGs) : TGs := fun vs σ H Q => ∃ v r, vs = v :: r /\ t v σ H fun σ' H' => u r σ' H' Q
theorem j6o : PGs X [] gNil := by
 intro pins s σ H vs us Q I r h
 obtain ⟨e, h⟩ := h
 subst e
 cases r
 exact assignInOrder_nil ⟨σ, H, I, h⟩
theorem g9c {e : Expr} {es : List Expr} {t : TG} {u : TGs} (h1 : PG X e t) (h2 : PGs X es u)
  (hs : (assignEach (e :: es) X.env).map (·.2) = assign e X.env :: (assignEach es X.env).map (·.2) := by rfl) : PGs X (e :: es) (l5z t u) := by
 intro pins s σ H vs us Q I r h
 obtain ⟨v, vr, e1, h⟩ := h
 subst e1
 cases r with
 | cons r rr =>
  rw [hs]
  refine assignInOrder_cons (thn (h1 pins s σ H _ _ _ I r h) fun _ s1 ⟨σ1, H1, I1, q1⟩ => ?_)
  exact h2 pins s1 σ1 H1 _ _ Q I1 rr q1
noncomputable def gTup (K : PySem.W.Frag) (n : Nat) (t : TGs) : TG := fun v σ H Q => ∃ a xs, v = .ref a /\ SqT K H a xs /\ xs.length = n /\ t xs σ H Q
theorem k4c {es : List Expr} {k : Nat} {t : TGs} {n : Nat} (hc : X.calm = true) (h : PGs X es t)
  (hn : (assignEach es X.env).length = n := by rfl) (hst : (assignEach es X.env).findIdx? (·.1) = none := by rfl) : PG X (.Tuple es k pos) (gTup X.K n t) := by
 intro pins s σ H v u Q I r hw
 obtain ⟨a, xs, e1, hq, hl, hw⟩ := hw
 subst e1
 cases r
 obtain ⟨its, rv, ht, hz⟩ := I.tuple hq
 refine assign_Tuple_tuple (I.ok.hd hc) ht (by simp [hn, <- hl, rv.length]) hst fun h' hx => ?_
 have I1 : Inv X pins σ H { s with heap := h' } := I.kept (t' := s.toks) fun b o e => hx b o (Nat.ne_of_lt (Heap.lt_size e)) e
 exact h pins _ σ H xs _ Q I1 (by simpa using rv) hw
noncomputable def gSub (to ti : TE) (t : TSet) : TG := fun v σ H Q => to σ H fun o H1 => ti σ H1 fun i H2 => t o i v H2 fun H3 => Q σ H3
noncomputable def l6a (te : TE) (g : TG) : TS := fun D σ H => te σ H fun x H1 => g x σ H1 D.nx
theorem a1i {i : Nat} {x : Str} {e : Expr} {te : TE} {pos' : Pos} (hN : X.N.Nodup) (hi : X.N[i]? = some x) (hx : Loc X.env.scope x) (he : PE X e te) (hs : swapsWith e (some (.Name x pos')) pos.line X.env = pure false := by rfl) (hf : X.fn x = true \/ X.env.scope.names.lookup x = some .local := by first | exact .inl rfl | exact .inr rfl | assumption) :
  PS X (.Assign [.Name x pos'] e pos) (l6a te (k1a i)) := by
 intro pins s σ H D I h
 refine wpAny_Assign_Name (thn (he pins s σ H _ I h) fun v s1 ⟨y, H1, I1, r1, q1⟩ => ?_) hs
 exact j0e I1 hN hi hx r1 (fun s2 I2 => ⟨_, H1, I2, q1⟩) hf
end
section
variable {X : Cx} {pos : Pos}
end
structure It where
 go : Nat -> Hp -> Prop
 yld : Nat -> Hp -> V -> Hp -> Prop
 stop : Nat -> Hp -> Prop
noncomputable def g0a (X : Cx) (pins : List (Addr × Obj)) (H : Hp) (b : Addr) : Prop :=
 H b = none /\ b ≠ X.env.locals /\ b ∉ X.fs /\ (b ∈ X.ex \/ X.s₀.heap.objs.size <= b) /\ (∀ x c, X.env.cells.lookup x = some c -> c ≠ b) /\ ∀ p ∈ X.pn ++ pins, p.1 ≠ b
theorem Inv.k1b {X : Cx} {pins : List (Addr × Obj)} {σ : St} {H H' : Hp} {s : Shared} {b : Addr} (I : Inv X pins σ H s) (hb : s.heap.objs.size <= b) (hn : H' b = none) : g0a X pins H' b := by
 refine ⟨hn, Nat.ne_of_gt (Nat.lt_of_lt_of_le I.lt hb), I.nofs hb, .inr (Nat.le_trans I.sz hb), fun x c e z => ?_, fun p hp z => ?_⟩
 ·obtain ⟨v, q⟩ := I.cell x c e
  exact absurd (Nat.lt_of_lt_of_le q.lt (by rw [z]; exact hb)) (Nat.lt_irrefl _)
 ·exact absurd (Nat.lt_of_lt_of_le (Heap.lt_size (I.pin p hp).1) (by rw [z]; exact hb)) (Nat.lt_irrefl _)
structure Turn (P : Program) (w : World) (K : PySem.W.Frag) (tg : Expr) (J : It) (fp : List Addr) (it : Addr) (tn : Nat -> Heap -> Prop) : Prop where
 mem : it ∈ fp
 obj : ∀ i h, tn i h -> ∀ b ∈ fp, ∃ o, h.get? b = some o /\ ∀ v, o.data ≠ .cell v
 keep : ∀ i h h', tn i h -> (∀ b ∈ fp, ∀ o, h.get? b = some o -> h'.get? b = some o) -> tn i h'
 item : ∀ (X : Cx), X.prog = P -> X.w = w -> X.K = K -> X.calm = true -> ∀ (i : Nat) (pins : List (Addr × Obj)) (s : Shared) (σ : St) (H : Hp) (E : Value -> Shared -> Prop), Inv X pins σ H s -> (∀ b ∈ fp, g0a X pins H b) -> tn i s.heap -> J.go i H ->
  wpAny (model P w) X.A (pyNext (.ref it)) (fun r s1 => ∃ u, r = some u /\
   wpAny (model P w) X.A (letOwnedTupleGo tg (.ref it) u) (fun _ s2 => ∃ x H', Inv X pins σ H' s2 /\ RelV x u /\ J.yld i H x H' /\ tn (i + 1) s2.heap /\ ∀ b ∈ fp, H' b = none) E s1) E s
 done : ∀ (X : Cx), X.prog = P -> X.w = w -> X.K = K -> X.calm = true -> ∀ (i : Nat) (pins : List (Addr × Obj)) (s : Shared) (σ : St) (H : Hp) (E : Value -> Shared -> Prop), Inv X pins σ H s -> (∀ b ∈ fp, g0a X pins H b) -> tn i s.heap -> J.stop i H ->
  wpAny (model P w) X.A (pyNext (.ref it)) (fun r s1 => r = none /\ Inv X pins σ H s1) E s
 self : ∀ (A : Around) (i : Nat) (s : Shared) (Q : Value -> Shared -> Prop) (E : Value -> Shared -> Prop), tn i s.heap -> Q (.ref it) s -> wpAny (model P w) A (pyIter (.ref it)) Q E s
noncomputable abbrev TI := St -> Hp -> (It -> Hp -> Prop) -> Prop
noncomputable def PIE (X : Cx) (pins : List (Addr × Obj)) (σ : St) (tg : Expr) (R : It -> Hp -> Prop) (itv : Value) (s2 : Shared) : Prop :=
 ∃ (it : Addr) (fp : List Addr) (tn : Nat -> Heap -> Prop) (J : It) (H' : Hp), itv = .ref it /\ Inv X pins σ H' s2 /\ Turn X.prog X.w X.K tg J fp it tn /\ tn 0 s2.heap /\ (∀ b ∈ fp, g0a X pins H' b) /\ R J H'
noncomputable def PI (X : Cx) (tg iter : Expr) (wi : TI) : Prop :=
 ∀ (pins : List (Addr × Obj)) (s : Shared) (σ : St) (H : Hp) (R : It -> Hp -> Prop), Inv X pins σ H s -> wi σ H R ->
  wpAny (model X.prog X.w) X.A (eval iter X.env) (fun v s1 => wpAny (model X.prog X.w) X.A (pyIter v) (PIE X pins σ tg R) X.xe s1) X.xe s
theorem k1c {M : Model} {A : Around} {E : Value -> Shared -> Prop} {s : Shared} {tg : Expr} {it : Addr} {u : Value} {o : Obj} {n : String} {vs : Array Value} {Q : Unit -> Shared -> Prop} (ho : s.heap.get? it = some o) (hc : o.cls = .type n) (hd : o.data = .fields vs)
  (hn : ["enumerate", "zip", "dict_itemiterator", "dict_reverseitemiterator", "odict_iterator", "itertools.zip_longest", "itertools.pairwise"].contains n = false) (hQ : Q () s) : wpAny M A (letOwnedTupleGo tg (.ref it) u) Q E s := by
 unfold letOwnedTupleGo
 cases tg <;> first
  | exact wpAny_pure hQ
  | (cases u <;> first
    | exact wpAny_pure hQ
    | (refine wpAny_bind (wpAny_load ho ?_)
       rw [hc, hd]
       show wpAny M A (if (["enumerate", "zip", "dict_itemiterator", "dict_reverseitemiterator", "odict_iterator", "itertools.zip_longest", "itertools.pairwise"].contains n && vs[0]? == some (rawInt _)) = true then _ else _) Q E s
       rw [if_neg (by intro h; rw [hn, Bool.false_and] at h; cases h)]
       exact wpAny_pure hQ))
noncomputable def Itl (K : PySem.W.Frag) (a : Addr) : It :=
 ⟨fun i H => ∃ xs x, SqL K H a xs /\ xs[i]? = some x, fun i H x H' => H' = H /\ ∀ xs, SqL K H a xs -> xs[i]? = some x, fun i H => ∃ xs, SqL K H a xs /\ xs.length <= i⟩
noncomputable def Itt (K : PySem.W.Frag) (a : Addr) : It :=
 ⟨fun i H => ∃ xs x, SqT K H a xs /\ xs[i]? = some x, fun i H x H' => H' = H /\ ∀ xs, SqT K H a xs -> xs[i]? = some x, fun i H => ∃ xs, SqT K H a xs /\ xs.length <= i⟩
noncomputable def Itr (lo : Int) (n : Nat) : It := ⟨fun i _ => i < n, fun i H x H' => H' = H /\ x = .int (lo + i), fun i _ => n <= i⟩
theorem j6p {P : Program} {w : World} {K : PySem.W.Frag} {tg : Expr} (a it : Addr) : Turn P w K tg (Itl K a) [it] it (fun i h => h.IsListIter it a i) where
 mem := by simp
 obj := fun i h st b hb => by
  have e : b = it := by simpa using hb
  subst e
  obtain ⟨o, e, c, d⟩ := st
  exact ⟨o, e, fun v z => by rw [d] at z; cases z⟩
 keep := fun i h h' st k => st.at fun o e => k it (by simp) o e
 item := by
  intro X hP hw hK hc i pins s σ H E I hf st hg
  subst hP hw hK
  obtain ⟨xs, x, hq, hx⟩ := hg
  obtain ⟨its, rv, p, hz⟩ := I.list hq
  obtain ⟨u, hu, ru⟩ := rv.get hx
  obtain ⟨f0, f1, f2, f3, f4, f5⟩ := hf it (by simp)
  refine wpAny_pyNext_list_item st p.isList (x := u) (by simpa using hu) fun h' st' sb => ?_
  have I1 : Inv X pins σ H { s with heap := h' } := I.turned (t' := s.toks) (fun b o hb e => (sb.2 b hb).trans e) f0 f1 f3 f4 f5
  obtain ⟨o, e, c, d⟩ := id st'
  exact ⟨u, rfl, k1c (s := { s with heap := h' }) e c d (by decide) ⟨x, H, I1, ru, ⟨rfl, fun ys hy => by rw [I.j0f hy hq]; exact hx⟩, st', fun b hb => (hf b hb).1⟩⟩
 done := by
  intro X hP hw hK hc i pins s σ H E I hf st hg
  subst hP hw hK
  obtain ⟨xs, hq, hx⟩ := hg
  obtain ⟨its, rv, p, hz⟩ := I.list hq
  obtain ⟨f0, f1, f2, f3, f4, f5⟩ := hf it (by simp)
  have hl := rv.length
  exact wpAny_pyNext_list_end (I.ok.hd hc) st p.isList (by simp; omega) fun h' eb => ⟨rfl, I.turned (t' := s.toks) (fun b o hb e => eb b o hb e) f0 f1 f3 f4 f5⟩
 self := fun _ _ _ _ _ st h => wpAny_pyIter_listiter st h
theorem j1i {P : Program} {w : World} {K : PySem.W.Frag} {tg : Expr} (a it : Addr) : Turn P w K tg (Itt K a) [it] it (fun i h => h.IsTupleIter it a i) where
 mem := by simp
 obj := fun i h st b hb => by
  have e : b = it := by simpa using hb
  subst e
  obtain ⟨o, e, c, d⟩ := st
  exact ⟨o, e, fun v z => by rw [d] at z; cases z⟩
 keep := fun i h h' st k => st.at fun o e => k it (by simp) o e
 item := by
  intro X hP hw hK hc i pins s σ H E I hf st hg
  subst hP hw hK
  obtain ⟨xs, x, hq, hx⟩ := hg
  obtain ⟨its, rv, p, hz⟩ := I.tuple hq
  obtain ⟨u, hu, ru⟩ := rv.get hx
  obtain ⟨f0, f1, f2, f3, f4, f5⟩ := hf it (by simp)
  refine wpAny_pyNext_tuple_item st (show s.heap.IsTuple a its.toArray from p) (x := u) (by simpa using hu) fun h' st' sb => ?_
  have I1 : Inv X pins σ H { s with heap := h' } := I.turned (t' := s.toks) (fun b o hb e => (sb.2 b hb).trans e) f0 f1 f3 f4 f5
  obtain ⟨o, e, c, d⟩ := id st'
  exact ⟨u, rfl, k1c (s := { s with heap := h' }) e c d (by decide) ⟨x, H, I1, ru, ⟨rfl, fun ys hy => by rw [I.h4p hy hq]; exact hx⟩, st', fun b hb => (hf b hb).1⟩⟩
 done := by
  intro X hP hw hK hc i pins s σ H E I hf st hg
  subst hP hw hK
  obtain ⟨xs, hq, hx⟩ := hg
  obtain ⟨its, rv, p, hz⟩ := I.tuple hq
  obtain ⟨f0, f1, f2, f3, f4, f5⟩ := hf it (by simp)
  have hl := rv.length
  exact wpAny_pyNext_tuple_end (I.ok.hd hc) st (show s.heap.IsTuple a its.toArray from p) (by simp; omega) fun h' eb => ⟨rfl, I.turned (t' := s.toks) (fun b o hb e => eb b o hb e) f0 f1 f3 f4 f5⟩
 self := fun _ _ _ _ _ st h => wpAny_pyIter_tupleiter st h
theorem j1j {P : Program} {w : World} {K : PySem.W.Frag} {tg : Expr} (it : Addr) (lo : Int) (n : Nat) : Turn P w K tg (Itr lo n) [it] it (fun i h => IsRangeIter h it (lo + (i : Nat) * 1) ((n : Int) - (i : Nat)) 1) where
 mem := by simp
 obj := fun i h st b hb => by
  have e : b = it := by simpa using hb
  subst e
  exact ⟨_, st, fun v z => by
   have z' : Data.fields _ = Data.cell v := z
   cases z'⟩
 keep := fun i h h' st k => k it (by simp) _ st
 item := by
  intro X hP hw hK hc i pins s σ H E I hf st hg
  subst hP hw hK
  obtain ⟨f0, f1, f2, f3, f4, f5⟩ := hf it (by simp)
  have W := Walks.range (prog := X.prog) (w := X.w) (I.ok.hd hc) it lo 1 n
  refine W.item i s _ _ hg st fun v h' tk hv st' kk => ?_
  obtain ⟨t, rfl⟩ := hv
  have I1 : Inv X pins σ H { s with heap := h', toks := tk } := I.turned (fun b o hb e => kk b o (by simpa using hb) e) f0 f1 f3 f4 f5
  refine ⟨_, rfl, k1c (s := { s with heap := h', toks := tk }) (n := "range_iterator") st' rfl rfl (by decide) ⟨.int (lo + i), H, I1, ⟨t, ?_⟩, ⟨rfl, rfl⟩, st', fun b hb => (hf b hb).1⟩⟩
  rw [Int.mul_one]
 done := by
  intro X hP hw hK hc i pins s σ H E I hf st hg
  subst hP hw hK
  obtain ⟨f0, f1, f2, f3, f4, f5⟩ := hf it (by simp)
  exact wpAny_pyNext_range_end (I.ok.hd hc) st (by have : n <= i := hg; omega) fun h' eb => ⟨rfl, I.turned (t' := s.toks) (fun b o hb e => eb b o hb e) f0 f1 f3 f4 f5⟩
 self := fun _ _ _ _ _ st h => wpAny_pyIter_rangeiter st h
end L2
namespace L2
open PySem PySem.Spec PyProof.Rows
section
variable {X : Cx} {tg : Expr}
noncomputable def l0l (K : PySem.W.Frag) (tl : TE) : TI := fun σ H R => tl σ H fun x H1 => ∃ a, x = .ref a /\ (∃ xs, SqL K H1 a xs) /\ R (Itl K a) H1
theorem k5t {l : Expr} {tl : TE} (hl : PE X l tl) : PI X tg l (l0l X.K tl) := by
 intro pins s σ H R I h
 refine thn (hl pins s σ H _ I h) fun v s1 ⟨x, H1, I1, r1, q1⟩ => ?_
 obtain ⟨a, e, ⟨xs, hq⟩, q⟩ := q1
 subst e
 cases r1
 obtain ⟨its, rv, p, hz⟩ := I1.list hq
 refine wpAny_pyIter_list p.isList ?_
 refine ⟨s1.heap.objs.size, [s1.heap.objs.size], _, _, H1, rfl, I1.kept (t' := s1.toks) fun b o e => Heap.get?_push_of_some _ e, j6p a _, ⟨_, Heap.get?_push_size _ rfl, rfl, rfl⟩, fun b hb => ?_, q⟩
 have e : b = s1.heap.objs.size := by simpa using hb
 subst e
 exact I1.k1b (Nat.le_refl _) (I1.hok.fresh (Nat.le_refl _))
theorem k1d {pins : List (Addr × Obj)} {σ : St} {H : Hp} {s : Shared} {R : It -> Hp -> Prop} {E : Value -> Shared -> Prop} {lo hi : Int} {t u v : Tok} {tk : Nat} (I : Inv X pins σ H s) (h1 : -(2 ^ 62) <= lo) (h2 : lo < 2 ^ 62) (h3 : -(2 ^ 62) <= hi) (h4 : hi < 2 ^ 62)
  (q : R (Itr lo (hi - lo).toNat) H) : wpAny (model X.prog X.w) X.A (pyIter (.ref s.heap.objs.size)) (PIE X pins σ tg R) E { s with heap := s.heap.push { cls := .type "range", data := .fields #[.int lo t, .int hi u, .int 1 v] }, toks := tk } := by
 refine wpAny_pyIter_range (IsRange.new ..) (small_one h1 h2 h3 h4) ?_
 have I1 : Inv X pins σ H { s with heap := s.heap.push { cls := .type "range", data := .fields #[.int lo t, .int hi u, .int 1 v] }, toks := tk } := I.kept fun b o e => Heap.get?_push_of_some _ e
 refine ⟨(s.heap.push { cls := .type "range", data := .fields #[.int lo t, .int hi u, .int 1 v] }).objs.size, [(s.heap.push { cls := .type "range", data := .fields #[.int lo t, .int hi u, .int 1 v] }).objs.size], _, _, H, rfl,
  I1.kept (t' := tk) fun b o e => Heap.get?_push_of_some _ e, j1j _ lo (hi - lo).toNat, ?_, fun b hb => ?_, q⟩
 ·have e1 : lo + ((0 : Nat) : Int) * 1 = lo := by simp
  have e2 : (((hi - lo).toNat : Nat) : Int) - ((0 : Nat) : Int) = Builtin.Range.rangeSize lo hi 1 := by rw [rangeSize_one]; split <;> omega
  show IsRangeIter _ _ (lo + ((0 : Nat) : Int) * 1) ((((hi - lo).toNat : Nat) : Int) - ((0 : Nat) : Int)) 1
  rw [e1, e2]
  exact Heap.get?_push_size _ rfl
 ·have e : b = (s.heap.push { cls := .type "range", data := .fields #[.int lo t, .int hi u, .int 1 v] }).objs.size := by simpa using hb
  subst e
  exact I1.k1b (Nat.le_refl _) (I1.hok.fresh (Nat.le_refl _))
noncomputable def l0m (ta : TA) : TI := fun σ H R => ta σ H fun vs H1 => ∃ j : Int, vs = [.int j] /\ -(2 ^ 62) <= j /\ j < 2 ^ 62 /\ R (Itr 0 j.toNat) H1
theorem j6q {a : Expr} {ta : TA} {p pos : Pos} (hg : Gl X "range") (hm : X.mg "range" = none) (ha : PA X [a] ta) (hs : starEach [a] X.env = [(false, eval a X.env)] := by rfl) : PI X tg (.Call (.Name "range" p) [a] [] pos) (l0m ta) := by
 intro pins s σ H R I h
 refine Call_ (h4o I hg hm boot_range (PyProof.Rows.callWith_type1 (thn (ha pos pins s σ H _ I h) fun us s1 ⟨vs, H1, I1, r1, q1⟩ => ?_) hs rfl))
 obtain ⟨j, e, q1, q2, q⟩ := q1
 subst e
 cases r1 with
 | cons r rr =>
  cases rr
  obtain ⟨t, rfl⟩ := r
  exact call_range_1 (k1d I1 (by omega) (by omega) q1 q2 (by simpa using q))
noncomputable def tFor (wi : TI) (g : TG) (tb : TS) : TS := fun D σ H => wi σ H fun J H1 => ∃ W : Nat -> Nat -> St -> Hp -> Prop, (∃ m, W 0 m σ H1) /\ ∀ i m σ H, W i m σ H ->
 (J.stop i H /\ D.nx σ H) \/ (J.go i H /\ ∃ N : St -> Hp -> Prop, (∀ σ' H', N σ' H' -> ∃ m', m' < m /\ W (i + 1) m' σ' H') /\ ∀ x H', J.yld i H x H' -> g x σ H' fun σ2 H2 => tb { D with nx := N, ct := N, bk := D.nx } σ2 H2)
noncomputable def f6h (fp : List Addr) (h : Heap) : List (Addr × Obj) := fp.filterMap fun b => (h.get? b).map fun o => (b, o)
theorem a7q {fp : List Addr} {h : Heap} {b : Addr} {o : Obj} (hb : b ∈ fp) (e : h.get? b = some o) : (b, o) ∈ f6h fp h := List.mem_filterMap.mpr ⟨b, hb, by rw [e]; rfl⟩
theorem j6r {fp : List Addr} {h : Heap} {p : Addr × Obj} (hp : p ∈ f6h fp h) : p.1 ∈ fp /\ h.get? p.1 = some p.2 := by
 obtain ⟨b, hb, e⟩ := List.mem_filterMap.mp hp
 cases q : h.get? b with
 | none => rw [q] at e; cases e
 | some o =>
  rw [q] at e
  have e' : (b, o) = p := Option.some.inj e
  subst e'
  exact ⟨hb, q⟩
theorem Inv.pinned {pins : List (Addr × Obj)} {σ : St} {H : Hp} {s : Shared} {fp : List Addr} (I : Inv X pins σ H s) (hf : ∀ b ∈ fp, g0a X pins H b) (ho : ∀ b ∈ fp, ∃ o, s.heap.get? b = some o /\ ∀ v, o.data ≠ .cell v) : Inv X (pins ++ f6h fp s.heap) σ H s :=
 I.j6m fun p hp => (List.mem_append.mp hp).elim (fun z => I.pin p (List.mem_append_right _ z)) fun z => by
  obtain ⟨hb, e⟩ := j6r z
  obtain ⟨f0, f1, f2, _⟩ := hf p.1 hb
  obtain ⟨o, e', d⟩ := ho p.1 hb
  rw [e] at e'; cases e'
  exact ⟨e, f0, f1, f2, d⟩
theorem Inv.c3q {pins pl : List (Addr × Obj)} {σ : St} {H : Hp} {s : Shared} (I : Inv X (pins ++ pl) σ H s) : Inv X pins σ H s := I.j6m fun p hp => I.pin p (List.mem_append_right _ (List.mem_append_left _ hp))
theorem l0n {iter : Expr} {body : List Stmt} {wi : TI} {g : TG} {tb : TS} {pos : Pos} (hp : PassesOwn (model X.prog X.w) X.A X.env X.xe) (hc : X.calm = true) (hi : PI X tg iter wi) (hg : PG X tg g) (hb : PSs X body tb)
  (hs : ∀ x, foldedSetIterable iter X.env x = pure x := by intro _; rfl) : PS X (.For tg iter body [] pos) (tFor wi g tb) := by
 intro pins s σ H D I h
 refine wpAny_For (thn (hi pins s σ H _ I h) fun v s1 h1 => thn h1 fun itv s2 h2 => ?_) hs
 obtain ⟨it, fp, tn, J, H2, e, I2, T, st2, f2, W, ⟨m0, w0⟩, turn⟩ := h2
 subst e
 -- what stays true of the iterator's objects through the loop
 have stat : ∀ {H' : Hp}, (∀ b ∈ fp, H' b = none) -> ∀ b ∈ fp, g0a X pins H' b := fun hn b hb => ⟨hn b hb, (f2 b hb).2⟩
 refine codeAny_forLoop_any (fun n s' => ∃ i σ' H', Inv X pins σ' H' s' /\ tn i s'.heap /\ (∀ b ∈ fp, H' b = none) /\ W i n σ' H') ?_ m0 ⟨0, σ, H2, I2, st2, fun b hb => (f2 b hb).1, w0⟩
 rintro n s3 ⟨i, σ3, H3, I3, st3, fr3, w3⟩
 rcases turn i n σ3 H3 w3 with ⟨stop, qn⟩ | ⟨go, N, hN, step⟩
 ·refine wpAny_passesOwn hp (thn (T.done X rfl rfl rfl hc i pins s3 σ3 H3 X.xe I3 (stat fr3) st3 stop) fun r s4 ⟨hr, I4⟩ => ?_)
  subst hr
  exact wpAny_execs_nil ⟨σ3, H3, I4, qn⟩
 ·refine wpAny_passesOwn hp (thn (T.item X rfl rfl rfl hc i pins s3 σ3 H3 X.xe I3 (stat fr3) st3 go) fun r s4 ⟨u, hr, h4⟩ => ?_)
  subst hr
  refine wpAny_passesOwn hp (thn h4 fun _ s5 ⟨x, H5, I5, r5, y5, st5, fr5⟩ => ?_)
  have I5' := I5.pinned (stat fr5) (T.obj _ _ st5)
  refine wpAny_passesOwn hp (thn (hg _ s5 σ3 H5 x u _ I5' r5 (step x H5 y5)) fun _ s6 ⟨σ6, H6, I6, q6⟩ => ?_)
  refine wpAny_passesOwn hp (thn (hb _ s6 σ6 H6 _ I6 q6) fun f s7 q7 => ?_)
  have again : ∀ {σ7 : St} {H7 : Hp}, Inv X (pins ++ f6h fp s5.heap) σ7 H7 s7 -> N σ7 H7 -> ∃ m, m < n /\ ∃ i σ' H', Inv X pins σ' H' s7 /\ tn i s7.heap /\ (∀ b ∈ fp, H' b = none) /\ W i m σ' H' := fun {σ7 H7} I7 n7 => by
   obtain ⟨m', hm, w7⟩ := hN σ7 H7 n7
   refine ⟨m', hm, i + 1, σ7, H7, I7.c3q, T.keep _ _ _ st5 fun b hb o e => (I7.pin (b, o) (List.mem_append_right _ (List.mem_append_right _ (a7q hb e)))).1, fun b hb => ?_, w7⟩
   obtain ⟨o, e, d⟩ := T.obj _ _ st5 b hb
   exact (I7.pin (b, o) (List.mem_append_right _ (List.mem_append_right _ (a7q hb e)))).2.1
  cases f with
  | next => obtain ⟨σ7, H7, I7, n7⟩ := q7; exact again I7 n7
  | cont => obtain ⟨σ7, H7, I7, n7⟩ := q7; exact again I7 n7
  | brk => obtain ⟨σ7, H7, I7, q7⟩ := q7; exact ⟨σ7, H7, I7.c3q, q7⟩
  | ret v => obtain ⟨x7, σ7, H7, I7, r7, q7⟩ := q7; exact ⟨x7, σ7, H7, I7.c3q, r7, q7⟩
end
theorem k1e {K : PySem.W.Frag} {a : Addr} {xs : List V} {g : TG} {tb : TS} {D : Ends} {σ : St} {H : Hp} (Pv : Nat -> St -> Hp -> Prop) (h0 : Pv 0 σ H) (hl : ∀ i σ H, i <= xs.length -> Pv i σ H -> SqL K H a xs)
  (hs : ∀ i x σ H, xs[i]? = some x -> Pv i σ H -> g x σ H fun σ2 H2 => tb { D with nx := Pv (i + 1), ct := Pv (i + 1), bk := D.nx } σ2 H2) (hd : ∀ σ H, Pv xs.length σ H -> D.nx σ H) :
  ∃ W : Nat -> Nat -> St -> Hp -> Prop, (∃ m, W 0 m σ H) /\ ∀ i m σ H, W i m σ H ->
   ((Itl K a).stop i H /\ D.nx σ H) \/ ((Itl K a).go i H /\ ∃ N : St -> Hp -> Prop, (∀ σ' H', N σ' H' -> ∃ m', m' < m /\ W (i + 1) m' σ' H') /\ ∀ x H', (Itl K a).yld i H x H' -> g x σ H' fun σ2 H2 => tb { D with nx := N, ct := N, bk := D.nx } σ2 H2) := by
 refine ⟨fun i m σ H => m = xs.length - i /\ i <= xs.length /\ Pv i σ H, ⟨xs.length, by simp, Nat.zero_le _, h0⟩, ?_⟩
 rintro i m σ H ⟨rfl, hi, p⟩
 have q := hl i σ H hi p
 by_cases hlt : i < xs.length
 ·refine .inr ⟨⟨xs, xs[i], q, by simp [hlt]⟩, Pv (i + 1), fun σ' H' p' => ⟨xs.length - (i + 1), by omega, rfl, hlt, p'⟩, fun x H' y => ?_⟩
  obtain ⟨e, y⟩ := y
  subst e
  exact hs i x σ _ (y xs q) p
 ·have e : i = xs.length := by omega
  subst e
  exact .inl ⟨⟨xs, q, Nat.le_refl _⟩, hd σ H p⟩
theorem j6s {lo : Int} {n : Nat} {g : TG} {tb : TS} {D : Ends} {σ : St} {H : Hp} (Pv : Nat -> St -> Hp -> Prop) (h0 : Pv 0 σ H)
  (hs : ∀ i σ H, i < n -> Pv i σ H -> g (.int (lo + i)) σ H fun σ2 H2 => tb { D with nx := Pv (i + 1), ct := Pv (i + 1), bk := D.nx } σ2 H2) (hd : ∀ σ H, Pv n σ H -> D.nx σ H) :
  ∃ W : Nat -> Nat -> St -> Hp -> Prop, (∃ m, W 0 m σ H) /\ ∀ i m σ H, W i m σ H ->
   ((Itr lo n).stop i H /\ D.nx σ H) \/ ((Itr lo n).go i H /\ ∃ N : St -> Hp -> Prop, (∀ σ' H', N σ' H' -> ∃ m', m' < m /\ W (i + 1) m' σ' H') /\ ∀ x H', (Itr lo n).yld i H x H' -> g x σ H' fun σ2 H2 => tb { D with nx := N, ct := N, bk := D.nx } σ2 H2) := by
 refine ⟨fun i m σ H => m = n - i /\ i <= n /\ Pv i σ H, ⟨n, by simp, Nat.zero_le _, h0⟩, ?_⟩
 rintro i m σ H ⟨rfl, hi, p⟩
 by_cases hlt : i < n
 ·refine .inr ⟨hlt, Pv (i + 1), fun σ' H' p' => ⟨n - (i + 1), by omega, rfl, hlt, p'⟩, fun x H' y => ?_⟩
  obtain ⟨e, y⟩ := y
  subst e y
  exact hs i σ _ hlt p
 ·have e : i = n := by omega
  subst e
  exact .inl ⟨Nat.le_refl _, hd σ H p⟩
end L2
namespace L2
open PySem PySem.Spec PyProof.Rows
noncomputable abbrev R2 := V -> V -> Hp -> VK -> Prop
noncomputable def OpR (X : Cx) (f : Value -> Value -> Sem Value) (r : R2) : Prop :=
 ∀ (pins : List (Addr × Obj)) (s : Shared) (σ : St) (H : Hp) (x y : V) (v u : Value) (Q : VK), Inv X pins σ H s -> RelV x v -> RelV y u -> r x y H Q ->
  wpAny (model X.prog X.w) X.A (f v u) (EP X pins σ Q) X.xe s
noncomputable def UnR (X : Cx) (f : Value -> Sem Value) (r : V -> Hp -> VK -> Prop) : Prop :=
 ∀ (pins : List (Addr × Obj)) (s : Shared) (σ : St) (H : Hp) (x : V) (v : Value) (Q : VK), Inv X pins σ H s -> RelV x v -> r x H Q ->
  wpAny (model X.prog X.w) X.A (f v) (EP X pins σ Q) X.xe s
noncomputable def b6h (X : Cx) (f : Value) (r : List V -> Hp -> VK -> Prop) : Prop :=
 ∀ (pins : List (Addr × Obj)) (s : Shared) (σ : St) (H : Hp) (xs : List V) (us : List Value) (Q : VK), Inv X pins σ H s -> Vals xs us -> r xs H Q ->
  wpAny (model X.prog X.w) X.A (call f us) (EP X pins σ Q) X.xe s
noncomputable def tOp (r : R2) (ta tb : TE) : TE := fun σ H Q => ta σ H fun x H1 => tb σ H1 fun y H2 => r x y H2 Q
noncomputable def tUn (r : V -> Hp -> VK -> Prop) (ta : TE) : TE := fun σ H Q => ta σ H fun x H1 => r x H1 Q
noncomputable def rI (C : Int -> Int -> Prop) (g : Int -> Int -> V) : R2 := fun x y H Q => ∃ i j, x = .int i /\ y = .int j /\ C i j /\ Q (g i j) H
noncomputable def rI0 (g : Int -> Int -> V) : R2 := fun x y H Q => ∃ i j, x = .int i /\ y = .int j /\ Q (g i j) H
noncomputable def rU (g : Int -> V) : V -> Hp -> VK -> Prop := fun x H Q => ∃ i, x = .int i /\ Q (g i) H
section
variable {X : Cx} {a b c : Expr} {ta tb tc : TE} {pos : Pos}
theorem l6b (ha : PE X a ta) (hb : PE X b tb) {pins : List (Addr × Obj)} {s : Shared} {σ : St} {H : Hp} {R : V -> V -> Hp -> Prop} (I : Inv X pins σ H s)
  (h : ta σ H fun x H1 => tb σ H1 fun y H2 => R x y H2) {Q : Value -> Shared -> Prop} {f : Value -> Value -> Sem Value}
  (hf : ∀ v u s2 x y H2, Inv X pins σ H2 s2 -> RelV x v -> RelV y u -> R x y H2 -> wpAny (model X.prog X.w) X.A (f v u) Q X.xe s2) :
  wpAny (model X.prog X.w) X.A (eval a X.env) (fun v s₁ => wpAny (model X.prog X.w) X.A (eval b X.env) (fun u s₂ => wpAny (model X.prog X.w) X.A (f v u) Q X.xe s₂) X.xe s₁) X.xe s := by
 refine thn (ha pins s σ H _ I h) fun v s1 ⟨x, H1, I1, r1, q1⟩ => ?_
 refine thn (hb pins s1 σ H1 _ I1 q1) fun u s2 ⟨y, H2, I2, r2, q2⟩ => ?_
 exact hf v u s2 x y H2 I2 r1 r2 q2
theorem a2y {op : Operator} {r : R2} (ho : OpR X (binaryOp op) r) (ha : PE X a ta) (hb : PE X b tb) : PE X (.BinOp a op b pos) (tOp r ta tb) := by
 intro pins s σ H Q I h
 exact wpAny_BinOp (l6b ha hb I h fun v u s2 x y H2 I2 rx ry q => ho pins s2 σ H2 x y v u Q I2 rx ry q)
theorem l0o {op : UnaryOp} {r : V -> Hp -> VK -> Prop} (ho : UnR X (unaryOp op) r) (ha : PE X a ta) : PE X (.UnaryOp op a pos) (tUn r ta) := by
 intro pins s σ H Q I h
 exact UnaryOp_ (thn (ha pins s σ H _ I h) fun v s1 ⟨x, H1, I1, r1, q1⟩ => ho pins s1 σ H1 x v Q I1 r1 q1)
theorem opI {f : Value -> Value -> Sem Value} {C : Int -> Int -> Prop} {g : Int -> Int -> Int}
  (rule : ∀ (i j : Int) (t u : Tok) (s : Shared) (Q : Value -> Shared -> Prop) (E : Value -> Shared -> Prop), C i j -> Q (.int (g i j) s.toks) { s with toks := s.toks + 1 } -> wpAny (model X.prog X.w) X.A (f (.int i t) (.int j u)) Q E s) :
  OpR X f (rI C fun i j => .int (g i j)) := by
 intro pins s σ H x y v u Q I rx ry h
 obtain ⟨i, j, rfl, rfl, hc, q⟩ := h
 obtain ⟨t, rfl⟩ := rx
 obtain ⟨t', rfl⟩ := ry
 exact rule i j t t' s _ _ hc ⟨.int (g i j), H, I.tok _, ⟨_, rfl⟩, q⟩
theorem l9d {f : Value -> Value -> Sem Value} {g : Int -> Int -> Int}
  (rule : ∀ (i j : Int) (t u : Tok) (s : Shared) (Q : Value -> Shared -> Prop) (E : Value -> Shared -> Prop), Q (.int (g i j) s.toks) { s with toks := s.toks + 1 } -> wpAny (model X.prog X.w) X.A (f (.int i t) (.int j u)) Q E s) :
  OpR X f (rI0 fun i j => .int (g i j)) := by
 intro pins s σ H x y v u Q I rx ry h
 obtain ⟨i, j, rfl, rfl, q⟩ := h
 obtain ⟨t, rfl⟩ := rx
 obtain ⟨t', rfl⟩ := ry
 exact rule i j t t' s _ _ ⟨.int (g i j), H, I.tok _, ⟨_, rfl⟩, q⟩
theorem l5f {f : Value -> Value -> Sem Value} {g : Int -> Int -> Bool}
  (rule : ∀ (i j : Int) (t u : Tok) (s : Shared) (Q : Value -> Shared -> Prop) (E : Value -> Shared -> Prop), Q (.bool (g i j)) s -> wpAny (model X.prog X.w) X.A (f (.int i t) (.int j u)) Q E s) :
  OpR X f (rI0 fun i j => .bl (g i j)) := by
 intro pins s σ H x y v u Q I rx ry h
 obtain ⟨i, j, rfl, rfl, q⟩ := h
 obtain ⟨t, rfl⟩ := rx
 obtain ⟨t', rfl⟩ := ry
 exact rule i j t t' s _ _ ⟨.bl (g i j), H, I, rfl, q⟩
noncomputable def l9e (i j : Int) : Prop := 0 <= j /\ j <= 1000000 /\ i.natAbs < 2 ^ 64
noncomputable def l9f (i j : Int) : Prop := (-(2 ^ 64) < i /\ i < 2 ^ 64) \/ (-(2 ^ 64) < j /\ j < 2 ^ 64)
theorem l9f.ok {i j : Int} (h : l9f i j) : IntMulOk i j := by
 rcases h with ⟨h1, h2⟩ | ⟨h1, h2⟩
 ·exact .of_left (intBits_le_64 h1 h2)
 ·exact .of_right (intBits_le_64 h1 h2)
theorem l0p : OpR X (binaryOp .Add) (rI0 fun i j => .int (i + j)) := l9d fun _ _ _ _ _ _ _ q => add_int q
theorem l0q : OpR X (binaryOp .Sub) (rI0 fun i j => .int (i - j)) := l9d fun _ _ _ _ _ _ _ q => sub_int q
theorem k5u : OpR X (binaryOp .Mod) (rI (fun _ j => j ≠ 0) fun i j => .int (i.fmod j)) := opI fun _ _ _ _ _ _ _ hc q => mod_int' hc q
theorem l0r : OpR X (binaryOp .Pow) (rI l9e fun i j => .int (i ^ j.toNat)) := opI fun _ _ _ _ _ _ _ hc q => pow_int_small hc.1 hc.2.1 hc.2.2 q
theorem unI {f : Value -> Sem Value} {g : Int -> Int}
  (rule : ∀ (i : Int) (t : Tok) (s : Shared) (Q : Value -> Shared -> Prop) (E : Value -> Shared -> Prop), Q (.int (g i) s.toks) { s with toks := s.toks + 1 } -> wpAny (model X.prog X.w) X.A (f (.int i t)) Q E s) :
  UnR X f (rU fun i => .int (g i)) := by
 intro pins s σ H x v Q I rx h
 obtain ⟨i, rfl, q⟩ := h
 obtain ⟨t, rfl⟩ := rx
 exact rule i t s _ _ ⟨.int (g i), H, I.tok _, ⟨_, rfl⟩, q⟩
theorem l0s : UnR X (unaryOp .USub) (rU fun i => .int (-i)) := unI fun _ _ _ _ _ q => neg_int q
end
noncomputable def j6t : V -> V -> Bool
 | .non, .non => true | .non, .int _ => true | .int _, .non => true | .non, .bl _ => true | .bl _, .non => true | .non, .str _ => true | .str _, .non => true
 | .int _, .int _ => true | .bl _, .bl _ => true | .str _, .str _ => true | .byt _, .byt _ => true
 | .int _, .str _ => true | .str _, .int _ => true | .bl _, .str _ => true | .str _, .bl _ => true
 | _, _ => false
noncomputable def rEq : R2 := fun x y H Q => j6t x y = true /\ Q (.bl (decide (x = y))) H
noncomputable def rNe : R2 := fun x y H Q => j6t x y = true /\ Q (.bl (!decide (x = y))) H
theorem j6u {i j : Int} : decide (V.int i = V.int j) = (i == j) := by
 rw [Bool.eq_iff_iff]
 simp
theorem k4d {i j : Bool} : decide (V.bl i = V.bl j) = (i == j) := by
 rw [Bool.eq_iff_iff]
 simp
theorem j6v {i j : Str} : decide (V.str i = V.str j) = (i == j) := by
 rw [Bool.eq_iff_iff]
 simp
theorem j6w {i j : Array UInt8} : decide (V.byt i = V.byt j) = (i.toList == j.toList) := by
 rw [Bool.eq_iff_iff]
 cases i
 cases j
 simp
section
variable {X : Cx} {a b c : Expr} {ta tb tc : TE} {pos : Pos}
theorem a4k {pins : List (Addr × Obj)} {σ : St} {H : Hp} {s : Shared} {Q : VK} {k k' : Bool} (I : Inv X pins σ H s) (q : Q (.bl k) H) (e : k = k') : EP X pins σ Q (.bool k') s := by
 subst e
 exact ⟨.bl k, H, I, rfl, q⟩
theorem l6c : OpR X (compareOp .Eq) rEq := by
 intro pins s σ H x y v u Q I rx ry h
 obtain ⟨hs, q⟩ := h
 cases x with
 | non =>
  cases rx
  cases y with
  | non => cases ry; exact PySem.EqNone.eq_none_none (a4k I q (by simp))
  | bl j => cases ry; exact PySem.EqNone.eq_none_bool (a4k I q (by simp))
  | int j => obtain ⟨t', rfl⟩ := ry; exact PySem.EqNone.eq_none_int (a4k I q (by simp))
  | str j => obtain ⟨t', rfl⟩ := ry; exact PySem.EqNone.eq_none_str (a4k I q (by simp))
  | _ => exact absurd (show false = true from hs) Bool.false_ne_true
 | bl i =>
  cases rx
  cases y with
  | non => cases ry; exact PySem.EqNone.eq_bool_none (a4k I q (by simp))
  | bl j => cases ry; exact eq_bool (a4k I q k4d)
  | str j => obtain ⟨t', rfl⟩ := ry; exact PySem.EqMixed.eq_bool_str (a4k I q (by simp))
  | _ => exact absurd (show false = true from hs) Bool.false_ne_true
 | int i =>
  obtain ⟨t, rfl⟩ := rx
  cases y with
  | non => cases ry; exact PySem.EqNone.eq_int_none (a4k I q (by simp))
  | int j => obtain ⟨t', rfl⟩ := ry; exact eq_int (a4k I q j6u)
  | str j => obtain ⟨t', rfl⟩ := ry; exact PySem.EqMixed.eq_int_str (a4k I q (by simp))
  | _ => exact absurd (show false = true from hs) Bool.false_ne_true
 | str i =>
  obtain ⟨t, rfl⟩ := rx
  cases y with
  | non => cases ry; exact PySem.EqNone.eq_str_none (a4k I q (by simp))
  | bl j => cases ry; exact PySem.EqMixed.eq_str_bool (a4k I q (by simp))
  | int j => obtain ⟨t', rfl⟩ := ry; exact PySem.EqMixed.eq_str_int (a4k I q (by simp))
  | str j => obtain ⟨t', rfl⟩ := ry; exact eq_str (a4k I q j6v)
  | _ => exact absurd (show false = true from hs) Bool.false_ne_true
 | byt i =>
  obtain ⟨t, rfl⟩ := rx
  cases y with
  | byt j => obtain ⟨t', rfl⟩ := ry; exact PySem.W.eq_bytes (a4k I q j6w)
  | _ => exact absurd (show false = true from hs) Bool.false_ne_true
 | _ => cases y <;> exact absurd (show false = true from hs) Bool.false_ne_true
theorem l6d : OpR X (compareOp .NotEq) rNe := by
 intro pins s σ H x y v u Q I rx ry h
 obtain ⟨hs, q⟩ := h
 cases x with
 | non =>
  cases rx
  cases y with
  | non => cases ry; exact PySem.EqNone.ne_none_none (a4k I q (by simp))
  | bl j => cases ry; exact PySem.EqNone.ne_none_bool (a4k I q (by simp))
  | int j => obtain ⟨t', rfl⟩ := ry; exact PySem.EqNone.ne_none_int (a4k I q (by simp))
  | str j => obtain ⟨t', rfl⟩ := ry; exact PySem.EqNone.ne_none_str (a4k I q (by simp))
  | _ => exact absurd (show false = true from hs) Bool.false_ne_true
 | bl i =>
  cases rx
  cases y with
  | non => cases ry; exact PySem.EqNone.ne_bool_none (a4k I q (by simp))
  | bl j => cases ry; exact ne_bool (a4k I q (congrArg not k4d))
  | str j => obtain ⟨t', rfl⟩ := ry; exact PySem.EqMixed.ne_bool_str (a4k I q (by simp))
  | _ => exact absurd (show false = true from hs) Bool.false_ne_true
 | int i =>
  obtain ⟨t, rfl⟩ := rx
  cases y with
  | non => cases ry; exact PySem.EqNone.ne_int_none (a4k I q (by simp))
  | int j => obtain ⟨t', rfl⟩ := ry; exact ne_int (a4k I q (congrArg not j6u))
  | str j => obtain ⟨t', rfl⟩ := ry; exact PySem.EqMixed.ne_int_str (a4k I q (by simp))
  | _ => exact absurd (show false = true from hs) Bool.false_ne_true
 | str i =>
  obtain ⟨t, rfl⟩ := rx
  cases y with
  | non => cases ry; exact PySem.EqNone.ne_str_none (a4k I q (by simp))
  | bl j => cases ry; exact PySem.EqMixed.ne_str_bool (a4k I q (by simp))
  | int j => obtain ⟨t', rfl⟩ := ry; exact PySem.EqMixed.ne_str_int (a4k I q (by simp))
  | str j => obtain ⟨t', rfl⟩ := ry; exact ne_str (a4k I q (congrArg not j6v))
  | _ => exact absurd (show false = true from hs) Bool.false_ne_true
 | byt i =>
  obtain ⟨t, rfl⟩ := rx
  cases y with
  | byt j => obtain ⟨t', rfl⟩ := ry; exact PySem.W.ne_bytes (a4k I q (congrArg not j6w))
  | _ => exact absurd (show false = true from hs) Bool.false_ne_true
 | _ => cases y <;> exact absurd (show false = true from hs) Bool.false_ne_true
theorem l6e : OpR X (compareOp .Lt) (rI0 fun i j => .bl (decide (i < j))) := l5f fun _ _ _ _ _ _ _ q => lt_int q
theorem l6f : OpR X (compareOp .LtE) (rI0 fun i j => .bl (decide (i <= j))) := l5f fun _ _ _ _ _ _ _ q => le_int q
theorem l6g : OpR X (compareOp .Gt) (rI0 fun i j => .bl (decide (j < i))) := l5f fun _ _ _ _ _ _ _ q => gt_int q
theorem l6h : OpR X (compareOp .GtE) (rI0 fun i j => .bl (decide (j <= i))) := l5f fun _ _ _ _ _ _ _ q => ge_int q
theorem j6x : OpR X (compareOp .In) (fun x y H Q => ∃ i j, x = .str i /\ y = .str j /\ Q (.bl (!(Builtin.Str.occurrences j i 0 j.length 1).isEmpty)) H) := by
 intro pins s σ H x y v u Q I rx ry h
 obtain ⟨i, j, rfl, rfl, q⟩ := h
 obtain ⟨t, rfl⟩ := rx
 obtain ⟨t', rfl⟩ := ry
 exact in_str (a4k I q rfl)
theorem j0g : OpR X (compareOp .Is) (fun x y H Q => y = .non /\ Q (.bl (decide (x = .non))) H) := by
 intro pins s σ H x y v u Q I rx ry h
 obtain ⟨rfl, q⟩ := h
 cases ry
 refine is_none_gen (a4k I q ?_)
 cases x <;> first
  | (cases rx; rfl)
  | (obtain ⟨t, rfl⟩ := rx; rfl)
theorem k5v : OpR X (compareOp .IsNot) (fun x y H Q => y = .non /\ Q (.bl (!decide (x = .non))) H) := by
 intro pins s σ H x y v u Q I rx ry h
 obtain ⟨rfl, q⟩ := h
 cases ry
 refine isnot_none_gen (a4k I q ?_)
 cases x <;> first
  | (cases rx; rfl)
  | (obtain ⟨t, rfl⟩ := rx; rfl)
theorem OpR.or {f : Value -> Value -> Sem Value} {r r' : R2} (h : OpR X f r) (h' : OpR X f r') : OpR X f (fun x y H Q => r x y H Q \/ r' x y H Q) := by
 intro pins s σ H x y v u Q I rx ry q
 rcases q with q | q
 ·exact h pins s σ H x y v u Q I rx ry q
 ·exact h' pins s σ H x y v u Q I rx ry q
theorem a1r (b : Expr) {op : CmpOp} (h : op ≠ .In := by decide) (h2 : op ≠ .NotIn := by decide) : behindInMarks op b = false := by
 have e1 : (op == CmpOp.In) = false := by cases op <;> first | rfl | exact absurd rfl h
 have e2 : (op == CmpOp.NotIn) = false := by cases op <;> first | rfl | exact absurd rfl h2
 cases b <;> simp [behindInMarks, e1, e2]
theorem b6i {op : CmpOp} {r : R2} (ho : OpR X (compareOp op) r) (ha : PE X a ta) (hb : PE X b tb) (hm : behindInMarks op b = false) : PE X (.Compare a [op] [b] pos) (tOp r ta tb) := by
 intro pins s σ H Q I h
 exact wpAny_Compare1 (l6b ha hb I h fun v u s2 x y H2 I2 rx ry q => ho pins s2 σ H2 x y v u Q I2 rx ry q) hm
noncomputable def l0t (t : TE) : TT := fun σ H Q => t σ H fun x H' => ∃ k, x = .bl k /\ Q k H'
theorem k5w {op : CmpOp} {r : R2} (ho : OpR X (compareOp op) r) (ha : PE X a ta) (hb : PE X b tb) (hm : behindInMarks op b = false) : PT X (.Compare a [op] [b] pos) (l0t (tOp r ta tb)) := by
 intro pins s σ H Q I h
 refine wpAny_isTrue_Compare1 (thn (ha pins s σ H _ I h) fun v s1 ⟨x, H1, I1, r1, q1⟩ => thn (hb pins s1 σ H1 _ I1 q1) fun u s2 ⟨y, H2, I2, r2, q2⟩ =>
  thn (ho pins s2 σ H2 x y v u _ I2 r1 r2 q2) fun c s3 ⟨z, H3, I3, r3, k, e, q3⟩ => ?_) hm
 subst e
 cases r3
 exact wpAny_truthy_bool ⟨H3, I3, q3⟩
theorem h4q : (sizeLine : Nat) < 2 ^ 63 := by rw [sizeLine_eq]; decide
theorem j1k : OpR X (binaryOp .Add) (fun x y H Q => ∃ i j, x = .str i /\ y = .str j /\ i.length + j.length <= sizeLine /\ Q (.str (i ++ j)) H) := by
 intro pins s σ H x y v u Q I rx ry h
 obtain ⟨i, j, rfl, rfl, hz, q⟩ := h
 obtain ⟨t, rfl⟩ := rx
 obtain ⟨t', rfl⟩ := ry
 exact add_str (fun t' tk => ⟨.str (i ++ j), H, I.tok _, ⟨_, rfl⟩, q⟩) hz
theorem vals1 {x : V} {us : List Value} (r : Vals [x] us) : ∃ u, us = [u] /\ RelV x u := by
 cases r with
 | cons r1 r2 => cases r2; exact ⟨_, rfl, r1⟩
theorem vals2 {x y : V} {us : List Value} (r : Vals [x, y] us) : ∃ u w', us = [u, w'] /\ RelV x u /\ RelV y w' := by
 cases r with
 | cons r1 r2 =>
  cases r2 with
  | cons r3 r4 => cases r4; exact ⟨_, _, rfl, r1, r3⟩
theorem k1f : b6h X (.builtin "abs") (fun xs H Q => ∃ i, xs = [.int i] ∧ Q (.int (if i < 0 then -i else i)) H) := by
 intro pins s σ H xs us Q I r h
 obtain ⟨i, rfl, q⟩ := h
 obtain ⟨u, rfl, t, rfl⟩ := vals1 r
 exact call_abs_int fun u tk => ⟨.int (if i < 0 then -i else i), H, I.tok _, ⟨_, rfl⟩, q⟩
theorem h4r : b6h X (.type "int") (fun xs H Q => (∃ i, xs = [.int i] ∧ Q (.int i) H) ∨ ∃ k, xs = [.bl k] ∧ Q (.int (if k then 1 else 0)) H) := by
 intro pins s σ H xs us Q I r h
 rcases h with ⟨i, rfl, q⟩ | ⟨k, rfl, q⟩
 ·obtain ⟨u, rfl, t, rfl⟩ := vals1 r
  exact call_int_int ⟨.int i, H, I, ⟨_, rfl⟩, q⟩
 ·obtain ⟨u, rfl, r1⟩ := vals1 r
  cases r1
  exact call_int_bool ⟨.int (if k then 1 else 0), H, I.tok _, ⟨_, rfl⟩, q⟩
end
end L2
namespace L2
open PySem PySem.Spec PyProof.Rows
structure k5x (h : Heap) (x dx C : Addr) (mA : Str -> Option Value) : Prop where
 obj : h.get? x = some (PySem.W.instObj C dx)
 ns : h.Ns1 dx mA
 ne : dx ≠ x
theorem j6y {h : Heap} {dx : Addr} {mA : Str -> Option Value} (n : h.Ns1 dx mA) : ∃ od, h.get? dx = some od /\ ∀ name, PySem.W.lookIn name od = some (mA name) := by
 obtain ⟨o, es, ep, ho, hd, hk, _, hm⟩ := n
 refine ⟨o, ho, fun name => ?_⟩
 have e := hm name
 unfold nsFind findBy at e
 rw [<- Array.find?_toList] at e
 unfold PySem.W.lookIn
 rw [hd]
 dsimp only
 split
 ·rename_i y q
  rw [q] at e
  exact congrArg some e
 ·rename_i q
  rw [q] at e
  have a : es.toList.any (·.refKey) = false := by
   rw [List.any_eq_false]
   intro y hy
   obtain ⟨z, t, hkey⟩ := hk y (Array.mem_toList_iff.mp hy)
   simp [DictEntry.refKey, hkey]
  have a' : ¬ es.toList.any (·.refKey) = true := by rw [a]; exact Bool.false_ne_true
  rw [if_neg a']
  exact congrArg some e
theorem k5x.look {h : Heap} {x dx C : Addr} {mA : Str -> Option Value} (I : k5x h x dx C mA) : ∃ od, PySem.W.InstAt h x (PySem.W.instObj C dx) C (some od) /\ ∀ name, PySem.W.lookIn name od = some (mA name) :=
 let ⟨od, ho, hl⟩ := j6y I.ns
 ⟨od, ⟨I.obj, rfl, rfl, ho⟩, hl⟩
section
variable {prog : Program} {w : World} {A : Around} {E : Value -> Shared -> Prop} {s : Shared} {K : PySem.W.Frag} {x dx C f : Addr} {mA : Str -> Option Value} {name : Str} {v : Value}
theorem get_map {expr : Bool} {Q : Value -> Shared -> Prop} (X : K.In s.heap) (I : k5x s.heap x dx C mA) (hg : PySem.W.plainGet K C name = true) (hh : PySem.W.hasDictIn K C = true)
  (ha : PySem.W.findIn K (.ref C) name = some none) (hv : mA name = some v) (hv' : PySem.W.handedIn v = true) (h : Q v { s with toks := s.toks + 1 }) :
  wpAny (model prog w) A (getAttr (.ref x) name expr) Q E s := by
 obtain ⟨od, J, hl⟩ := I.look
 exact PySem.W.get_value X J (PySem.W.plainGet_of hg).1 (PySem.W.findObj_own hh ha rfl (by rw [hl, hv])) hv' h
theorem k1g {pl : Sem Bool} {Q : Value × List Value -> Shared -> Prop} (X : K.In s.heap) (I : k5x s.heap x dx C mA) (hg : PySem.W.plainGet K C name = true)
  (hf : PySem.W.findIn K (.ref C) name = some (some (.ref f))) (ht : PySem.W.isFn K (.ref f) = true) (hv : mA name = none) (h : Q (.ref f, [.ref x]) s) :
  wpAny (model prog w) A (getMethod (.ref x) name pl) Q E s := by
 obtain ⟨od, J, hl⟩ := I.look
 exact PySem.W.method_fn X J (PySem.W.plainGet_of hg).1 (PySem.W.plainGet_of hg).2 hf (beq_iff_eq.mp ht) (by show (PySem.W.lookIn name od).map (·.isSome) = some false; rw [hl, hv]; rfl) h
theorem k5y {ns : List Str} {Q : Unit -> Shared -> Prop} (X : K.In s.heap) (I : k5x s.heap x dx C mA)
  (hs : PySem.W.findIn K (.ref C) "__setattr__" = some (some (.builtin "object.__setattr__"))) (hp : PySem.W.plainOver K C = true) (ht : PySem.W.takerIn K C name = some none) (hh : PySem.W.hasDictIn K C = true)
  (hw : PySem.Within mA ns) (hsz : ns.length <= sizeLine)
  (h : ∀ h', k5x h' x dx C (fun y => if y = name then some v else mA y) -> Heap.SameBut dx s.heap h' -> Q () { s with heap := h', toks := s.toks + 2 }) :
  wpAny (model prog w) A (setAttr (.ref x) name v) Q E s := by
 obtain ⟨od, J, hl⟩ := I.look
 refine PySem.W.set_plain X J hs (PySem.W.osa_open (s := { s with toks := s.toks + 1 }) (r := none) X J hp ht fun b => ?_)
 obtain ⟨cd, hc, hd'⟩ := PySem.W.any_some hh
 have hx : s.heap.get? x = some ⟨.ref C, some dx, .plain, #[]⟩ := I.obj
 refine wpAny_bind (wpAny_pure (wpAny_bind (wpAny_bind (wpAny_loadPart hx (wpAny_bind (PySem.W.Looks.here (s := { s with toks := s.toks + 1 }) (PySem.W.looks_clsIn X hc) ?_))))))
 rw [hd']
 refine wpAny_pure (a := some dx) (wpAny_bind (wpAny_pure (wpAny_bind ?_)))
 refine wpAny_nsSet1 (s := { s with toks := s.toks + 1 }) I.ns fun h' hn2 hs2 => ?_
 obtain ⟨oD, esD, epD, hoD, hdD, hcD⟩ := hn2.count (PySem.Within.cons name v hw)
 refine wpAny_bind (wpAny_lookBehind hoD (by rw [hdD]; exact pastItsLine_dict (Nat.le_trans hcD (by rw [List.length_cons]; omega))) ?_)
 exact wpAny_pure (h _ ⟨(hs2.2 _ (Ne.symm I.ne)).trans I.obj, hn2, I.ne⟩ hs2)
theorem k1h {R : Result -> Shared -> Prop} {vs : List Value} {kw : List (Str × Value)} (X : K.In s.heap) (hm : PySem.W.makesIn K C = true)
  (hi : PySem.W.findIn K (.ref C) "__init__" = some (some (.ref f))) (hf : PySem.W.typeIn K (.ref f) = some (.type "function"))
  (h : codeAny (model prog w) (A.under (.builtin "type.__call__" ⟨.ref C :: vs, kw⟩)) (.call (.ref f) ⟨.ref (s.heap.objs.size + 1) :: vs, kw⟩) (PySem.W.InitBack (s.heap.objs.size + 1) R)
   { s with heap := (s.heap.push PySem.W.emptyDict).push (PySem.W.instObj C s.heap.objs.size) }) :
  codeAny (model prog w) A (.call (.ref C) ⟨vs, kw⟩) R s := by
 obtain ⟨hh, g, d, t, os⟩ := s
 exact PySem.W.make_core (PySem.W.makes_of X hm) (PySem.W.looks_findIn X hi) (fun self => PySem.W.bind_fn X self hf) (.inl rfl) h
end
noncomputable def g0b (f : Str) (v : V) : List (Str × V) -> List (Str × V)
 | [] => [(f, v)]
 | (g, x) :: r => if g = f then (g, v) :: r else (g, x) :: g0b f v r
theorem g0c (f g : Str) (v : V) : ∀ fs : List (Str × V), (g0b f v fs).lookup g = if g = f then some v else fs.lookup g
 | [] => by
  show List.lookup g [(f, v)] = _
  by_cases h : g = f
  ·have hb : (g == f) = true := beq_iff_eq.mpr h
   simp only [List.lookup, hb, if_pos h]
  ·have hb : (g == f) = false := beq_eq_false_iff_ne.mpr h
   simp only [List.lookup, hb, if_neg h]
 | (k, x) :: r => by
  have ih := g0c f g v r
  rw [show g0b f v ((k, x) :: r) = (if k = f then (k, v) :: r else (k, x) :: g0b f v r) from rfl]
  by_cases hk : k = f
  ·rw [if_pos hk]
   by_cases h : g = k
   ·have hb : (g == k) = true := beq_iff_eq.mpr h
    simp only [List.lookup, hb, if_pos (h.trans hk)]
   ·have hb : (g == k) = false := beq_eq_false_iff_ne.mpr h
    simp only [List.lookup, hb, if_neg (fun e : g = f => h (e.trans hk.symm))]
  ·rw [if_neg hk]
   by_cases h : g = k
   ·have hb : (g == k) = true := beq_iff_eq.mpr h
    simp only [List.lookup, hb, if_neg (fun e : g = f => hk (h.symm.trans e))]
   ·have hb : (g == k) = false := beq_eq_false_iff_ne.mpr h
    simp only [List.lookup, hb]
    exact ih
theorem g0d (f : Str) (v : V) : ∀ fs : List (Str × V), f ∈ (g0b f v fs).map (·.1) /\ ∀ g, g ∈ fs.map (·.1) -> g ∈ (g0b f v fs).map (·.1)
 | [] => ⟨by simp [g0b], fun g h => by simp at h⟩
 | (k, x) :: r => by
  obtain ⟨i1, i2⟩ := g0d f v r
  rw [show g0b f v ((k, x) :: r) = (if k = f then (k, v) :: r else (k, x) :: g0b f v r) from rfl]
  by_cases hk : k = f
  ·rw [if_pos hk]
   subst hk
   exact ⟨by simp, fun g h => by simpa using h⟩
  ·rw [if_neg hk]
   refine ⟨?_, fun g h => ?_⟩
   ·rw [List.map_cons]
    exact List.mem_cons_of_mem _ i1
   ·rw [List.map_cons] at h ⊢
    rcases List.mem_cons.mp h with e | e
    ·exact List.mem_cons.mpr (.inl e)
    ·exact List.mem_cons_of_mem _ (i2 g e)
theorem g0e (f : Str) (v : V) : ∀ fs : List (Str × V), (g0b f v fs).length <= fs.length + 1
 | [] => by simp [g0b]
 | (k, x) :: r => by
  have ih := g0e f v r
  rw [show g0b f v ((k, x) :: r) = (if k = f then (k, v) :: r else (k, x) :: g0b f v r) from rfl]
  by_cases hk : k = f
  ·rw [if_pos hk, List.length_cons, List.length_cons]; omega
  ·rw [if_neg hk, List.length_cons, List.length_cons]; omega
theorem h4k.some_of {v : V} {o : Option Value} (r : h4k (some v) o) : ∃ u, o = some u /\ RelV v u := by
 cases o with
 | none => exact (show False from r).elim
 | some u => exact ⟨u, rfl, r⟩
theorem h4k.none_of {o : Option Value} (r : h4k none o) : o = none := by
 cases o with
 | none => rfl
 | some u => exact (show False from r).elim
theorem j6z {v : V} {u : Value} (r : RelV v u) : PySem.W.handedIn u = true := by
 cases v with
 | non => cases (show u = Value.none from r); rfl
 | bl b => cases (show u = Value.bool b from r); rfl
 | int i => obtain ⟨t, e⟩ := (show ∃ t, u = Value.int i t from r); cases e; rfl
 | str x => obtain ⟨t, e⟩ := (show ∃ t, u = Value.str x t from r); cases e; rfl
 | byt b => obtain ⟨t, e⟩ := (show ∃ t, u = Value.bytes b t from r); cases e; rfl
 | flt b => obtain ⟨t, e⟩ := (show ∃ t, u = Value.float b t from r); cases e; rfl
 | ref a => cases (show u = Value.ref a from r); rfl
 | ty n => cases (show u = Value.type n from r); rfl
section
variable {P : Program} {w : World} {H H' : Hp} {h h' : Heap} {a C dx : Addr} {fs fs' : List (Str × V)}
theorem g9d (hok : HOk P w H h) (e : H a = some (.ins C dx fs)) : ∃ mA, k5x h a dx C mA /\ (∀ f, h4k (fs.lookup f) (mA f)) /\ PySem.Within mA (fs.map (·.1)) /\ fs.length <= 1000 /\ H dx = some (.own a) := by
 obtain ⟨d, z, ne, ob, mA, n, r, q⟩ := (show b1z P w H h a (.ins C dx fs) from hok a _ e)
 exact ⟨mA, ⟨ob, n, ne⟩, r, q, z, d⟩
end
structure Cls (K : PySem.W.Frag) (C : Addr) : Prop where
 pg : PySem.W.plainGet K C Str.empty = true
 hd : PySem.W.hasDictIn K C = true
 po : PySem.W.plainOver K C = true
 sa : PySem.W.findIn K (.ref C) "__setattr__" = some (some (.builtin "object.__setattr__"))
theorem Cls.get {K : PySem.W.Frag} {C : Addr} (c : Cls K C) (f : Str) : PySem.W.plainGet K C f = true := c.pg
noncomputable def a4l (K : PySem.W.Frag) (C : Addr) (f : Str) : Prop := PySem.W.findIn K (.ref C) f = some none
theorem a4l.taker {K : PySem.W.Frag} {C : Addr} {f : Str} (n : a4l K C f) : PySem.W.takerIn K C f = some none := by
 unfold PySem.W.takerIn
 rw [show PySem.W.findIn K (.ref C) f = some none from n]
 rfl
structure Con (K : PySem.W.Frag) (C : Addr) (f : Str) (v : V) (u : Value) : Prop where
 at_ : PySem.W.findIn K (.ref C) f = some (some u)
 rel : RelV v u
 get : PySem.W.specialIn K u "__get__" = some none
 cp : PySem.W.copiedNames.contains f = false
structure Meth (K : PySem.W.Frag) (C : Addr) (m : Str) (f : Addr) : Prop where
 at_ : PySem.W.findIn K (.ref C) m = some (some (.ref f))
 fn : PySem.W.isFn K (.ref f) = true
 kp : PySem.W.keepIn K (.ref f) = true
section
variable {X : Cx} {pins : List (Addr × Obj)} {σ : St} {H : Hp} {s : Shared} {a C dx : Addr} {fs : List (Str × V)} {f : Str} {v : V} {A : Around} {E : Value -> Shared -> Prop}
theorem j1l {b : Bool} {Q : Value -> Shared -> Prop} (I : Inv X pins σ H s) (e : H a = some (.ins C dx fs)) (c : Cls X.K C) (n : a4l X.K C f) (l : fs.lookup f = some v)
  (h : ∀ u s', Inv X pins σ H s' -> RelV v u -> Q u s') : wpAny (model X.prog X.w) A (getAttr (.ref a) f b) Q E s := by
 obtain ⟨mA, O, r, _, _, _⟩ := g9d I.hok e
 obtain ⟨u, hu, ru⟩ := h4k.some_of (v := v) (o := mA f) (by rw [<- l]; exact r f)
 exact get_map I.kIn O (c.get f) c.hd n hu (j6z ru) (h u _ (I.tok _) ru)
theorem g8b {m : Str} {g : Addr} {pl : Sem Bool} {Q : Value × List Value -> Shared -> Prop} (I : Inv X pins σ H s) (e : H a = some (.ins C dx fs)) (c : Cls X.K C) (k : Meth X.K C m g) (l : fs.lookup m = none)
  (h : Q (.ref g, [.ref a]) s) : wpAny (model X.prog X.w) A (getMethod (.ref a) m pl) Q E s := by
 obtain ⟨mA, O, r, _, _, _⟩ := g9d I.hok e
 have hn : mA m = none := h4k.none_of (by rw [<- l]; exact r m)
 exact k1g I.kIn O (c.get m) k.at_ k.fn hn h
theorem j1m {y : V} {u : Value} {Q : Unit -> Shared -> Prop} (I : Inv X pins σ H s) (e : H a = some (.ins C dx fs)) (c : Cls X.K C) (n : a4l X.K C f) (hl : fs.length < 1000) (ry : RelV y u)
  (h : ∀ s', Inv X pins σ (upd H a (.ins C dx (g0b f y fs))) s' -> Q () s') : wpAny (model X.prog X.w) A (setAttr (.ref a) f u) Q E s := by
 obtain ⟨mA, O, r, wi, _, ho⟩ := g9d I.hok e
 have hz : (fs.map (·.1)).length <= sizeLine := by rw [List.length_map, sizeLine_eq]; omega
 refine k5y I.kIn O c.sa c.po n.taker c.hd wi hz fun h' O' sb => h _ ?_
 have hd : ∃ o, h'.get? dx = some o := let ⟨o, _, _, e', _⟩ := O'.ns; ⟨o, e'⟩
 refine I.write (x := a) (e := dx) (by rw [e]; exact True.intro) (.inr ho) (fun b q hb z => (sb.2 b hb).trans z) hd ?_
 refine ⟨by rw [a3u O.ne]; exact ho, ?_, O.ne, O'.obj, _, O'.ns, fun g => ?_, fun g hg => ?_⟩
 ·have := g0e f y fs; omega
 ·show h4k ((g0b f y fs).lookup g) (if g = f then some u else mA g)
  rw [g0c]
  by_cases q : g = f
  ·rw [if_pos q, if_pos q]; exact ry
  ·rw [if_neg q, if_neg q]; exact r g
 ·by_cases q : g = f
  ·rw [q]; exact (g0d f y fs).1
  ·refine (g0d f y fs).2 g (wi g fun z => hg ?_)
   show (if g = f then some u else mA g) = none
   rw [if_neg q]; exact z
theorem Inv.made (I : Inv X pins σ H s) : Inv X pins σ (upd (upd H s.heap.objs.size (.own (s.heap.objs.size + 1))) (s.heap.objs.size + 1) (.ins C s.heap.objs.size []))
  { s with heap := (s.heap.push PySem.W.emptyDict).push (PySem.W.instObj C s.heap.objs.size) } := by
 have e1 : (s.heap.push PySem.W.emptyDict).get? s.heap.objs.size = some PySem.W.emptyDict := Heap.get?_push_size s.heap rfl
 have e2 : ((s.heap.push PySem.W.emptyDict).push (PySem.W.instObj C s.heap.objs.size)).get? (s.heap.objs.size + 1) = some (PySem.W.instObj C s.heap.objs.size) := by
  have := Heap.get?_push_size (s.heap.push PySem.W.emptyDict) (o := PySem.W.instObj C s.heap.objs.size) rfl
  rwa [Heap.size_push] at this
 have e3 : (s.heap.push PySem.W.emptyDict).Ns s.heap.objs.size (fun _ => none) := ⟨PySem.W.emptyDict, #[], _, e1, rfl, (fun e he => absurd he (by simp)), fun _ => rfl⟩
 have I1 := I.laid (a := s.heap.objs.size) (o := .own (s.heap.objs.size + 1)) (h' := s.heap.push PySem.W.emptyDict) (t' := s.toks) (fun b u q => Heap.get?_push_of_some _ q) (Nat.le_refl _) ⟨_, e1⟩
 refine I1.laid (a := s.heap.objs.size + 1) (o := .ins C s.heap.objs.size []) (t' := s.toks) (fun b u q => Heap.get?_push_of_some _ q) (Nat.le_of_eq (Heap.size_push _ _)) ?_
 have ne : s.heap.objs.size ≠ s.heap.objs.size + 1 := Nat.ne_of_lt (Nat.lt_succ_self _)
 refine ⟨by rw [a3u ne, a3i], Nat.zero_le _, ne, e2, fun _ => none, (Heap.Ns1.of_empty e3).at fun o q => Heap.get?_push_of_some _ q, fun _ => True.intro, fun y hy => absurd rfl hy⟩
theorem k5z {prog : Program} {w : World} {env : Env} {e : Expr} {f : Str} {pos : Pos} {s : Shared} {Q : Value -> Shared -> Prop} (hb : attributeBase e f env (eval e env) = eval e env)
  (h : wpAny (model prog w) A (eval e env) (fun o s₁ => wpAny (model prog w) A (getAttr o f true) Q E s₁) E s) : wpAny (model prog w) A (eval (.Attribute e f pos) env) Q E s :=
 Attribute_any_ h (by rw [arm_eval_Attribute, hb])
end
noncomputable def l9g (K : PySem.W.Frag) (ta : TE) (f : Str) : TE := fun σ H Q => ta σ H fun x H1 => ∃ a C dx fs v, x = .ref a /\ H1 a = some (.ins C dx fs) /\ Cls K C /\ a4l K C f /\ fs.lookup f = some v /\ Q v H1
section
variable {X : Cx} {o e value : Expr} {f : Str} {pos pos' tpos : Pos} {ta tv : TE}
theorem l0u (he : PE X e ta) (hb : attributeBase e f X.env (eval e X.env) = eval e X.env) : PE X (.Attribute e f pos) (l9g X.K ta f) := by
 intro pins s σ H Q I h
 refine k5z hb (thn (he pins s σ H _ I h) fun u s1 ⟨x, H1, I1, rx, a, C, dx, fs, v, ex, ea, c, n, l, q⟩ => ?_)
 subst ex
 obtain rfl : u = Value.ref a := rx
 exact j1l I1 ea c n l fun u' s2 I2 ru => ⟨v, H1, I2, ru, q⟩
end
section
variable {X : Cx} {pins : List (Addr × Obj)} {σ : St} {H : Hp} {s : Shared} {A : Around} {E : Value -> Shared -> Prop} {Q : Value -> Shared -> Prop} {c : Value} {b : Bool}
inductive j1n (K : PySem.W.Frag) (H : Hp) : V -> Value -> Prop where
 | non : j1n K H .non (.type "NoneType")
 | bl (x : Bool) : j1n K H (.bl x) (.type "bool")
 | int (i : Int) : j1n K H (.int i) (.type "int")
 | str (x : Str) : j1n K H (.str x) (.type "str")
 | flt (x : UInt64) : j1n K H (.flt x) (.type "float")
 | lst {a : Addr} {xs : List V} (e : H a = some (.lst xs)) : j1n K H (.ref a) (.type "list")
 | frz {a : Addr} {o : Obj} {xs : List V} (e : H a = some (.frz o (.lst xs))) : j1n K H (.ref a) (.type "list")
 | tup {a : Addr} {xs : List V} (e : H a = some (.tup xs)) : j1n K H (.ref a) (.type "tuple")
 | dK {a : Addr} {kvs : List (Key × V)} (e : H a = some (.dK kvs)) : j1n K H (.ref a) (.type "dict")
 | dT {a : Addr} {kvs : List (List Key × V)} (e : H a = some (.dT kvs)) : j1n K H (.ref a) (.type "dict")
 | ins {a C dx : Addr} {fs : List (Str × V)} (e : H a = some (.ins C dx fs)) (cl : Cls K C) (ha : PySem.W.findIn K (.ref C) "__class__" = some (some (.builtin "object.__class__")))
   (hn : PySem.W.specialIn K (.builtin "object.__class__") "__get__" = some (some (.builtin "getset_descriptor.__get__"))) (htk : PySem.W.takesIn K (.builtin "object.__class__") = some true)
   (hm : PySem.W.mroIn K C (.type "object") = some true) : j1n K H (.ref a) (.ref C)
theorem j7a {x : V} {u t : Value} (I : Inv X pins σ H s) (rx : RelV x u) (ty : j1n X.K H x t) (e : PySem.W.kitOne X.K t c = some b) (h : ∀ tk, Q (.bool b) { s with toks := tk }) :
  wpAny (model X.prog X.w) A (call (.builtin "isinstance") [u, c]) Q E s := by
 cases ty with
 | non => cases (show u = Value.none from rx); exact PySem.W.kia_one PySem.W.kitx_none I.kIn True.intro e (fun z => nomatch z) h
 | bl y => cases (show u = Value.bool y from rx); exact PySem.W.kia_one PySem.W.kitx_bool I.kIn True.intro e (fun z => nomatch z) h
 | int i => obtain ⟨t, q⟩ := (show ∃ t, u = Value.int i t from rx); cases q; exact PySem.W.kia_one PySem.W.kitx_int I.kIn True.intro e (fun z => nomatch z) h
 | str y => obtain ⟨t, q⟩ := (show ∃ t, u = Value.str y t from rx); cases q; exact PySem.W.kia_one PySem.W.kitx_str I.kIn True.intro e (fun z => nomatch z) h
 | flt y => obtain ⟨t, q⟩ := (show ∃ t, u = Value.float y t from rx); cases q; exact PySem.W.kia_one PySem.W.kitx_float I.kIn True.intro e (fun z => nomatch z) h
 | @lst a xs ea =>
  cases (show u = Value.ref a from rx)
  obtain ⟨_, _, n, _, h1⟩ := (show b1z X.prog X.w H s.heap a (.lst xs) from I.hok a _ ea)
  exact PySem.W.kia_one PySem.W.kitx_list I.kIn ⟨_, h1, rfl⟩ e (fun z => nomatch z) h
 | @frz a ob xs ea =>
  cases (show u = Value.ref a from rx)
  obtain ⟨_, _, _, n, _, h1⟩ := (show b1z X.prog X.w H s.heap a (.frz ob (.lst xs)) from I.hok a _ ea)
  exact PySem.W.kia_one PySem.W.kitx_list I.kIn ⟨_, h1, rfl⟩ e (fun z => nomatch z) h
 | @tup a xs ea =>
  cases (show u = Value.ref a from rx)
  obtain ⟨_, _, _, p⟩ := (show b1z X.prog X.w H s.heap a (.tup xs) from I.hok a _ ea)
  obtain ⟨o, h1, h2, _⟩ := p
  exact PySem.W.kia_one PySem.W.kitx_tuple I.kIn ⟨o, h1, h2⟩ e (fun z => nomatch z) h
 | @dK a kvs ea =>
  cases (show u = Value.ref a from rx)
  obtain ⟨_, _, vs, _, p⟩ := (show b1z X.prog X.w H s.heap a (.dK kvs) from I.hok a _ ea)
  obtain ⟨o, es, ep, h1, h2, _⟩ := p
  exact PySem.W.kia_one PySem.W.kitx_dict I.kIn ⟨o, h1, h2.1⟩ e (fun z => nomatch z) h
 | @dT a kvs ea =>
  cases (show u = Value.ref a from rx)
  obtain ⟨_, _, xs, _, o, es, ep, h1, h2, _⟩ := (show b1z X.prog X.w H s.heap a (.dT kvs) from I.hok a _ ea)
  exact PySem.W.kia_one PySem.W.kitx_dict I.kIn ⟨o, h1, h2.1⟩ e (fun z => nomatch z) h
 | @ins a C dx fs ea cl ha hn htk hm =>
  cases (show u = Value.ref a from rx)
  obtain ⟨mA, O, _⟩ := g9d I.hok ea
  obtain ⟨od, J, _⟩ := O.look
  exact PySem.W.kia_one (PySem.W.kitx_own (cl.get _) cl.hd ha hn htk hm) I.kIn J e (fun z => nomatch z) h
end
end L2
namespace L2
open PySem PySem.Spec PyProof.Rows
structure a2z (k : Nat) (A : Around) : Prop where
 hd : A.handled = none
 dp : A.depth + 3 * k + 5 < recursionLimit
 un : A.units + 16 * k + 200 < cLine
theorem a2z.mono {j k : Nat} {A : Around} (r : a2z k A) (h : j <= k) : a2z j A := ⟨r.hd, by have := r.dp; omega, by have := r.un; omega⟩
theorem a2z.deeper {k : Nat} {A : Around} (r : a2z (k + 1) A) (env : Env) : a2z k (A.deeper env) :=
 ⟨r.hd, by have := r.dp; show A.depth + 1 + 3 * k + 5 < _; omega, by have := r.un; show A.units + 3 + 16 * k + 200 < _; omega⟩
theorem a2z.in1 {k : Nat} {A : Around} (r : a2z (k + 1) A) : a2z k A.in1 :=
 ⟨r.hd, by have := r.dp; show A.depth + 3 * k + 5 < _; omega, by have := r.un; show A.units + 1 + 16 * k + 200 < _; omega⟩
theorem j1o {A : Around} {C : Addr} {us : List Value} {kw : List (Str × Value)} : (A.under (.builtin "type.__call__" ⟨.ref C :: us, kw⟩)).depth = A.depth + 1 := by
 first | rfl | simp [Around.under, Code.weight, Code.isCreation, Code.isGuard, Code.isCaller, Code.frames, Code.isFrame, guardIds]
theorem j1p {A : Around} {C : Addr} {us : List Value} {kw : List (Str × Value)} : (A.under (.builtin "type.__call__" ⟨.ref C :: us, kw⟩)).units = A.units + 1 := by
 first | rfl | simp [Around.under, Code.cUnits, Code.frames, Code.isFrame]
theorem a2z.make {k : Nat} {A : Around} (r : a2z (k + 1) A) (C : Addr) (us : List Value) (kw : List (Str × Value)) : a2z k (A.under (.builtin "type.__call__" ⟨.ref C :: us, kw⟩)) :=
 ⟨r.hd, by have := r.dp; rw [j1o]; omega, by have := r.un; rw [j1p]; omega⟩
theorem a2z.depth {k : Nat} {A : Around} (r : a2z k A) : A.depth < recursionLimit := by have := r.dp; omega
theorem a2z.units {k : Nat} {A : Around} (r : a2z k A) : A.units + 64 < cLine := by have := r.un; omega
noncomputable def k1i : TA := fun _ H Q => Q [] H
noncomputable def l6i (ta : TE) (tr : TA) : TA := fun σ H Q => ta σ H fun x H1 => tr σ H1 fun xs H2 => Q (x :: xs) H2
section
variable {X : Cx} {e : Expr} {es : List Expr} {te : TE} {t : TA} {pos : Pos}
theorem a0j : PA X [] k1i := fun _ _ _ _ H Q I h => Calls.spliced_nil ⟨[], H, I, .nil, h⟩
theorem a0g (ha : PE X e te) (hr : PA X es t) (hs : starEach (e :: es) X.env = (false, eval e X.env) :: starEach es X.env := by rfl) : PA X (e :: es) (l6i te t) := by
 intro pos pins s σ H Q I h
 rw [hs]
 show wpAny _ _ (spliced ((false, eval e X.env) :: backTo pos (starEach es X.env))) _ _ s
 refine Calls.spliced_cons (thn (ha pins s σ H _ I h) fun u s1 ⟨x, H1, I1, r1, q1⟩ => ?_)
 exact thn (hr pos pins s1 σ H1 _ I1 q1) fun us s2 ⟨xs, H2, I2, r2, q2⟩ => ⟨x :: xs, H2, I2, .cons r1 r2, q2⟩
end
noncomputable abbrev Sp := List V -> Hp -> VK -> XK -> Prop
noncomputable abbrev CXT := List Env -> Hp -> Shared -> XK -> Value -> Shared -> Prop
structure j7b (P : Program) (w : World) (K : PySem.W.Frag) (mg : Str -> Option Value) (base : Heap) (A : Around) (outer : List Env) (s : Shared) (H : Hp) : Prop where
 frames : A.frames = some outer
 mod : Mod K mg base
 bs : ∀ b o, base.get? b = some o -> s.heap.get? b = some o /\ H b = none
 bsz : base.objs.size <= s.heap.objs.size
 j0d : s.heap.FunFrames base outer
 frf : ∀ b ∈ frs outer, H b = none
 hok : HOk P w H s.heap
 bare : AllBare s.gens
noncomputable def CE (outer : List Env) (P : Program) (w : World) (H : Hp) (s : Shared) (Q : VK) (u : Value) (s' : Shared) : Prop :=
 ∃ v H', s'.os = s.os /\ AllBare s'.gens /\ Un (frs outer) [] H H' s.heap s'.heap /\ HOk P w H' s'.heap /\ RelV v u /\ Q v H'
noncomputable def CR (CX : CXT) (outer : List Env) (P : Program) (w : World) (H : Hp) (s : Shared) (Q : VK) (E : XK) (r : Result) (s' : Shared) : Prop :=
 match r with
 | .ok (.ret u) => CE outer P w H s Q u s'
 | .ok _ => False
 | .error e => CX outer H s E e s'
structure a1n (P : Program) (w : World) (K : PySem.W.Frag) (mg : Str -> Option Value) (base : Heap) (CX : CXT) (k : Nat) (f : Addr) (fd : FuncData) (ps : List Str) (sp : Sp) : Prop where
 len : ∀ vs H Q E, sp vs H Q E -> vs.length = ps.length
 run : ∀ (A : Around) (outer : List Env) (s : Shared) (H : Hp) (args : Args) (us : List Value) (vs : List V) (Q : VK) (E : XK), a2z k A -> j7b P w K mg base A outer s H -> BindsTo s fd args (ps.zip us) -> Vals vs us -> sp vs H Q E ->
  codeAny (model P w) A (.call (.ref f) args) (CR CX outer P w H s Q E) s
theorem a1n.mono {P : Program} {w : World} {K : PySem.W.Frag} {mg : Str -> Option Value} {base : Heap} {CX : CXT} {j k : Nat} {f : Addr} {fd : FuncData} {ps : List Str} {sp : Sp} (F : a1n P w K mg base CX j f fd ps sp) (h : j <= k) :
  a1n P w K mg base CX k f fd ps sp := ⟨F.len, fun A outer s H args us vs Q E hr => F.run A outer s H args us vs Q E (hr.mono h)⟩
theorem a1n.imp {P : Program} {w : World} {K : PySem.W.Frag} {mg : Str -> Option Value} {base : Heap} {CX : CXT} {k : Nat} {f : Addr} {fd : FuncData} {ps : List Str} {sp sp' : Sp} (F : a1n P w K mg base CX k f fd ps sp)
  (h : ∀ vs H Q E, sp' vs H Q E -> sp vs H Q E) : a1n P w K mg base CX k f fd ps sp' :=
 ⟨fun vs H Q E q => F.len vs H Q E (h _ _ _ _ q), fun A outer s H args us vs Q E hr he hb hv hs => F.run A outer s H args us vs Q E hr he hb hv (h _ _ _ _ hs)⟩
theorem j7b.make {P : Program} {w : World} {K : PySem.W.Frag} {mg : Str -> Option Value} {base : Heap} {A : Around} {outer : List Env} {s : Shared} {H : Hp} (e : j7b P w K mg base A outer s H) (C : Addr) (us : List Value) (kw : List (Str × Value)) :
  j7b P w K mg base (A.under (.builtin "type.__call__" ⟨.ref C :: us, kw⟩)) outer s H := ⟨by first | exact e.frames | (simpa [Around.under, Code.envs, Code.isFrame, pushEnvs] using e.frames), e.mod, e.bs, e.bsz, e.j0d, e.frf, e.hok, e.bare⟩
theorem j7b.in1 {P : Program} {w : World} {K : PySem.W.Frag} {mg : Str -> Option Value} {base : Heap} {A : Around} {outer : List Env} {s : Shared} {H : Hp} (e : j7b P w K mg base A outer s H) :
  j7b P w K mg base A.in1 outer s H := ⟨e.frames, e.mod, e.bs, e.bsz, e.j0d, e.frf, e.hok, e.bare⟩
section
variable {X : Cx} {pins : List (Addr × Obj)} {σ : St} {H : Hp} {s s' : Shared}
theorem Inv.env0 (I : Inv X pins σ H s) : j7b X.prog X.w X.K X.mg X.base X.A X.stack s H :=
 ⟨I.ok.frames, I.ok.mod, I.bs, Nat.le_trans I.ok.bsz I.sz, I.stack, I.i3t, I.hok, I.bare⟩
theorem Inv.after {Q : VK} {u : Value} (I : Inv X pins σ H s) (h : CE X.stack X.prog X.w H s Q u s') : EP X pins σ Q u s' := by
 obtain ⟨v, H', os, bare, un, hok, r, q⟩ := h
 obtain ⟨hh, g, d, t, os'⟩ := s'
 obtain rfl : os' = s.os := os
 exact ⟨v, H', I.call (h' := hh) (g' := g) (d' := d) (t' := t) (ch := []) un hok bare (fun b z => absurd z (by simp)), r, q⟩
end
noncomputable def l0v (sp : Sp) (dvs : List V) (E : XK) (t : TA) : TE := fun σ H Q => t σ H fun vs H1 => sp (vs ++ dvs) H1 Q E
noncomputable def Binds (K : PySem.W.Frag) (fd : FuncData) (ps : List Str) (ds : List Value) : Prop :=
 ∀ (s : Shared) (us : List Value), K.In s.heap -> (us ++ ds).length = ps.length -> BindsTo s fd ⟨us, []⟩ (ps.zip (us ++ ds))
theorem Binds.all {K : PySem.W.Frag} {fd : FuncData} {ps : List Str} (h : ∀ us : List Value, us.length = ps.length -> bindArgs fd ⟨us, []⟩ = pure (ps.zip us)) : Binds K fd ps [] := fun s us _ hl => by
 rw [List.append_nil] at hl ⊢
 exact .of_eq (h us hl)
noncomputable def Passes (CX : CXT) (X : Cx) (E : XK) : Prop := ∀ (pins : List (Addr × Obj)) (σ : St) (H : Hp) (s : Shared) (e : Value) (s' : Shared), Inv X pins σ H s -> CX X.stack H s E e s' -> X.xe e s'
section
variable {X : Cx} {CX : CXT} {k : Nat} {f C : Addr} {fd : FuncData} {ps : List Str} {sp : Sp} {dvs : List V} {ds : List Value} {E : XK} {x m : Str} {p pos apos : Pos} {e o : Expr} {es : List Expr} {ta : TE} {t : TA}
theorem j0h {pins : List (Addr × Obj)} {σ : St} {H : Hp} {s : Shared} {Q : VK} {us : List Value} {vs : List V} (F : a1n X.prog X.w X.K X.mg X.base CX k f fd ps sp) (hr : a2z k X.A) (hb : Binds X.K fd ps ds) (hd : Vals dvs ds) (hx : Passes CX X E)
  (I : Inv X pins σ H s) (r : Vals vs us) (h : sp (vs ++ dvs) H Q E) : wpAny (model X.prog X.w) X.A (call (.ref f) us) (EP X pins σ Q) X.xe s := by
 have r2 : Vals (vs ++ dvs) (us ++ ds) := r.append hd
 have hl : (us ++ ds).length = ps.length := by rw [<- r2.length]; exact F.len _ _ _ _ h
 refine wpAny_call (codeAny_mono (F.run X.A X.stack s H ⟨us, []⟩ (us ++ ds) (vs ++ dvs) Q E hr I.env0 (hb s us I.kIn hl) r2 h) fun r s' hq => ?_)
 cases r with
 | error e => exact hx pins σ H s e s' I hq
 | ok fl =>
  cases fl with
  | ret u => exact I.after hq
  | next => exact False.elim hq
  | brk => exact False.elim hq
  | cont => exact False.elim hq
theorem a0u (F : a1n X.prog X.w X.K X.mg X.base CX k f fd ps sp) (hr : a2z k X.A) (hg : Gl X x) (hm : X.mg x = some (.ref f)) (hk : PySem.W.keepIn X.K (.ref f) = true) (hb : Binds X.K fd ps ds) (hd : Vals dvs ds) (hx : Passes CX X E)
  (ha : PA X (e :: es) t) (hdb : (x == ("__debug__" : Str)) = false := by decide) (he : starEach (e :: es) X.env = (false, eval e X.env) :: starEach es X.env := by rfl) (hpl : (backTo pos (starEach es X.env)).any (·.1) = false := by rfl) :
  PE X (.Call (.Name x p) (e :: es) [] pos) (l0v sp dvs E t) := by
 intro pins s σ H Q I h
 refine wpAny_Call_Name_kw (g9b I hg hm ?_ hdb)
 refine PySem.W.callWith_K (h₀ := X.base) I.ok.mod.kin hk (thn (ha pos pins s σ H _ I h) fun us s1 ⟨vs, H1, I1, r, q⟩ => ⟨I1.kIn, ?_⟩) he hpl
 exact j0h F hr hb hd hx I1 r q
structure Mk (K : PySem.W.Frag) (C f : Addr) : Prop where
 makes : PySem.W.makesIn K C = true
 init : PySem.W.findIn K (.ref C) "__init__" = some (some (.ref f))
 fn : PySem.W.isFn K (.ref f) = true
 kp : PySem.W.keepIn K (.ref C) = true
theorem j0i {pins : List (Addr × Obj)} {σ : St} {H : Hp} {s : Shared} {Q : VK} {us : List Value} {vs : List V} (M : Mk X.K C f) (F : a1n X.prog X.w X.K X.mg X.base CX k f fd ps sp) (hr : a2z (k + 1) X.A) (hb : Binds X.K fd ps ds) (hd : Vals dvs ds)
  (hx : Passes CX X E) (I : Inv X pins σ H s) (r : Vals vs us)
  (h : ∀ x dx, H x = none -> H dx = none -> dx ≠ x -> sp (.ref x :: (vs ++ dvs)) (upd (upd H dx (.own x)) x (.ins C dx [])) (fun v H2 => v = .non /\ Q (.ref x) H2) E) :
  wpAny (model X.prog X.w) X.A (call (.ref C) us) (EP X pins σ Q) X.xe s := by
 have hq := h (s.heap.objs.size + 1) s.heap.objs.size (I.hok.fresh (Nat.le_succ _)) (I.hok.fresh (Nat.le_refl _)) (Nat.ne_of_lt (Nat.lt_succ_self _))
 have I2 := Inv.made (C := C) I
 have r2 : Vals (V.ref (s.heap.objs.size + 1) :: (vs ++ dvs)) (Value.ref (s.heap.objs.size + 1) :: (us ++ ds)) := .cons rfl (r.append hd)
 have hl : (Value.ref (s.heap.objs.size + 1) :: us ++ ds).length = ps.length := by
  have e := r2.length
  rw [F.len _ _ _ _ hq] at e
  exact e.symm
 refine wpAny_call (k1h (f := f) I.kIn M.makes M.init (beq_iff_eq.mp M.fn) (codeAny_mono (F.run _ X.stack _ _ ⟨Value.ref (s.heap.objs.size + 1) :: us, []⟩ (Value.ref (s.heap.objs.size + 1) :: (us ++ ds)) _ _ E (hr.make C us [])
  (I2.env0.make C us []) (hb _ (Value.ref (s.heap.objs.size + 1) :: us) I2.kIn hl) r2 hq) fun r s' hq' => ?_))
 cases r with
 | error e => exact hx pins σ _ _ e s' I2 hq'
 | ok fl =>
  cases fl with
  | ret u =>
   obtain ⟨v, H', I3, rv, ev, q3⟩ := I2.after hq'
   subst ev
   exact ⟨rv, ⟨V.ref (s.heap.objs.size + 1), H', I3, rfl, q3⟩⟩
  | next => exact False.elim hq'
  | brk => exact False.elim hq'
  | cont => exact False.elim hq'
end
section
variable {X : Cx} {CX : CXT} {k : Nat} {f C : Addr} {fd : FuncData} {ps ks : List Str} {sp : Sp} {E : XK} {x m : Str} {p pos apos kpos : Pos} {e o : Expr} {es : List Expr} {kws : List Keyword} {te ta : TE} {t tk : TA} {nm : Option Str}
structure l9h (K : PySem.W.Frag) (fd : FuncData) (ps ks : List Str) (g : List Value -> List Value -> List Value) (gV : List V -> List V -> List V) : Prop where
 to : ∀ (s : Shared) (us ws : List Value), K.In s.heap -> (g us ws).length = ps.length -> BindsTo s fd ⟨us, ks.zip ws⟩ (ps.zip (g us ws))
 rel : ∀ {vs : List V} {us : List Value} {zs : List V} {ws : List Value}, Vals vs us -> Vals zs ws -> Vals (gV vs zs) (g us ws)
variable {g : List Value -> List Value -> List Value} {gV : List V -> List V -> List V}
end
structure a0s (N P : List Str) (sc : Scope) : Prop where
 kind : sc.kind = .function
 co : sc.isCoroutine = false
 gen : sc.isGenerator = false
 nd : N.Nodup
 pre : N.take P.length = P
 par : ∀ x ∈ P, sc.names.lookup x = some .local \/ sc.names.lookup x = some .cell
 l0w : ∀ y ∈ sc.names, y.2 ≠ .free
theorem h4s {kindOf : Str -> Option NameKind} {x : Str} : ∀ {binds : List (Str × Value)} {m : Str -> Option Value}, (∀ v, (x, v) ∉ binds) -> bindL kindOf binds m x = m x
 | [], _, _ => rfl
 | (n, v) :: r, m, h => by
  unfold bindL
  rw [h4s fun w hw => h w (List.mem_cons_of_mem _ hw)]
  split
  ·have : x ≠ n := by rintro rfl; exact h v List.mem_cons_self
   simp [this]
  ·rfl
theorem h4t {kindOf : Str -> Option NameKind} {x : Str} : ∀ {binds : List (Str × Value)} {m : Str -> Option Value}, (∀ v, (x, v) ∉ binds) -> bindC kindOf binds m x = m x
 | [], _, _ => rfl
 | (n, v) :: r, m, h => by
  unfold bindC
  rw [h4t fun w hw => h w (List.mem_cons_of_mem _ hw)]
  split
  ·rfl
  ·have : x ≠ n := by rintro rfl; exact h v List.mem_cons_self
   simp [this]
theorem h4u {kindOf : Str -> Option NameKind} {x : Str} {v : Value} : ∀ {P : List Str} {vs : List Value} {i : Nat} {m : Str -> Option Value}, P.Nodup -> P[i]? = some x -> vs[i]? = some v -> kindOf x = some .local ->
  bindL kindOf (P.zip vs) m x = some v
 | [], _, _, _, _, h, _, _ => by simp at h
 | _ :: _, [], _, _, _, _, h, _ => by simp at h
 | p :: P, w :: vs, 0, m, nd, h1, h2, hk => by
  simp at h1 h2; subst h1; subst h2
  show bindL kindOf ((p, w) :: P.zip vs) m p = _
  unfold bindL
  rw [h4s fun v hv => (List.nodup_cons.mp nd).1 (List.of_mem_zip hv).1, if_pos hk]
  simp
 | p :: P, w :: vs, i + 1, m, nd, h1, h2, hk => by
  show bindL kindOf ((p, w) :: P.zip vs) m x = _
  unfold bindL
  exact h4u (i := i) (List.nodup_cons.mp nd).2 (by simpa using h1) (by simpa using h2) hk
theorem h4v {kindOf : Str -> Option NameKind} {x : Str} {v : Value} : ∀ {P : List Str} {vs : List Value} {i : Nat} {m : Str -> Option Value}, P.Nodup -> P[i]? = some x -> vs[i]? = some v -> kindOf x ≠ some .local ->
  bindC kindOf (P.zip vs) m x = some v
 | [], _, _, _, _, h, _, _ => by simp at h
 | _ :: _, [], _, _, _, _, h, _ => by simp at h
 | p :: P, w :: vs, 0, m, nd, h1, h2, hk => by
  simp at h1 h2; subst h1; subst h2
  show bindC kindOf ((p, w) :: P.zip vs) m p = _
  unfold bindC
  rw [h4t fun v hv => (List.nodup_cons.mp nd).1 (List.of_mem_zip hv).1, if_neg hk]
  simp
 | p :: P, w :: vs, i + 1, m, nd, h1, h2, hk => by
  show bindC kindOf ((p, w) :: P.zip vs) m x = _
  unfold bindC
  exact h4v (i := i) (List.nodup_cons.mp nd).2 (by simpa using h1) (by simpa using h2) hk
noncomputable def start (N : List Str) (vs : List V) : St := vs.map some ++ List.replicate (N.length - vs.length) none
noncomputable def k6a (CX : CXT) (P : Program) (w : World) (K : PySem.W.Frag) (mg : Str -> Option Value) (base : Heap) (N : List Str) (qual : Str) (scope : Scope) (f : Addr) (cd : Value) (A : Around) (outer : List Env) (s : Shared) (H : Hp) (E : XK) : Cx where
 prog := P
 w := w
 K := K
 mg := mg
 base := base
 A := A.deeper (envOfC qual scope s.heap.objs.size f cd)
 N := N
 s₀ := s
 H₀ := H
 env := envOfC qual scope s.heap.objs.size f cd
 outer := outer
 stack := envOfC qual scope s.heap.objs.size f cd :: outer
 ex := []
 calm := true
 fn := fun _ => true
 pn := []
 xe := fun e s' => wpAny (model P w) (A.deeper (envOfC qual scope s.heap.objs.size f cd)) (leaving (envOfC qual scope s.heap.objs.size f cd) e) (fun _ s'' => CX outer H s E e s'') (fun e' s'' => CX outer H s E e' s'') s'
theorem j0j {sc : Scope} {n : Nat} {x : Str} (h : sc.names.lookup x = some .cell) : ∃ c, (cellsFrom n sc.names []).lookup x = some c := by
 have q := PySem.W.cellsFrom_some sc.names n [] (.inl h)
 exact Option.isSome_iff_exists.mp q
theorem j7c {CX : CXT} {P : Program} {w : World} {K : PySem.W.Frag} {mg : Str -> Option Value} {base : Heap} {N ps : List Str} {qual : Str} {scope : Scope} {f : Addr} {cd : Value} {A : Around} {outer : List Env} {s s1 : Shared} {H : Hp} {E : XK} {us : List Value} {vs : List V}
  (S : a0s N ps scope) (hd : A.handled = none) (e0 : j7b P w K mg base A outer s H) (hl : vs.length = ps.length) (r : Vals vs us)
  (x : InCallC s s.heap.objs.size (bindL (envOfC qual scope s.heap.objs.size f cd).kindOf (ps.zip us) fun _ => none) (cellsFrom (s.heap.objs.size + 1) scope.names []) (bindC (envOfC qual scope s.heap.objs.size f cd).kindOf (ps.zip us) fun _ => none) s1) :
  Inv (k6a CX P w K mg base N qual scope f cd A outer s H E) [] (start N vs) H s1 := by
 have hpl : ps.length <= N.length := by have := congrArg List.length S.pre; rw [List.length_take] at this; omega
 obtain ⟨h1, tk, rfl, hk⟩ := x.done
 have noA : ∀ b : Addr, b ∉ (k6a CX P w K mg base N qual scope f cd A outer s H E).ex := fun b z => absurd (show b ∈ ([] : List Addr) from z) (by simp)
 refine ⟨⟨e0.mod, S.kind, rfl, rfl, Nat.le_refl _, fun y z c h1 h2 => ?_, fun y hy => ?_, fun y c _ h => ?_, fun _ => hd, Around.frames_deeper e0.frames, .inr ⟨rfl, rfl⟩, fun b z => absurd z (noA b), e0.bs, e0.bsz, fun b _ _ => noA b, fun b z => absurd z (noA b), e0.j0d, e0.frf⟩,
  rfl, e0.bare, Un.kept hk, ⟨_, x.toInCall.ns, fun i y v h1 h2 h3 => ?_⟩, fun y c h => ⟨_, x.cell y c h⟩, e0.hok.fresh (Nat.le_refl _), fun y c h => ?_, fun p hp => absurd (show p ∈ ([] : List (Addr × Obj)) from hp) (by simp), e0.hok.kept hk, ?_⟩
 ·exact name_of_addr x.apart (PySem.mem_of_lookup h1) (PySem.mem_of_lookup h2)
 ·have hy : scope.names.lookup y = some .cell \/ scope.names.lookup y = some .free := hy
  rcases hy with hy | hy
  ·exact j0j hy
  ·exact absurd rfl (S.l0w _ (PySem.mem_of_lookup hy))
 ·exact Nat.le_of_lt (x.above y c (PySem.mem_of_lookup h))
 ·have hi : i < vs.length := by
   unfold start at h2
   by_cases hi : i < vs.length
   ·exact hi
   ·rw [List.getElem?_append_right (by simpa using hi)] at h2
    rw [List.getElem?_replicate] at h2
    split at h2 <;> cases h2
  have ha : vs[i]? = some v := by
   unfold start at h2
   rw [List.getElem?_append_left (by simpa using hi), List.getElem?_map] at h2
   cases e : vs[i]? with
   | none => rw [e] at h2; cases h2
   | some a => rw [e] at h2; cases h2; rfl
  obtain ⟨u, hu, rv⟩ := r.get ha
  have hp : ps[i]? = some y := by
   rw [<- S.pre, List.getElem?_take_of_lt (by omega)]; exact h1
  have ndP : ps.Nodup := by rw [<- S.pre]; exact S.nd.sublist (List.take_sublist _ _)
  refine ⟨u, rv, ?_⟩
  rcases S.par y (List.mem_of_getElem? hp) with k | k
  ·exact .inl ⟨k, h4u ndP hp hu k⟩
  ·obtain ⟨c, e⟩ := j0j (n := s.heap.objs.size + 1) k
   refine .inr ⟨.inl k, c, e, ?_⟩
   have q := x.cell y c e
   rw [h4v ndP hp hu (by show scope.names.lookup y ≠ _; rw [k]; decide)] at q
   exact q
 ·exact e0.hok.fresh (Nat.le_of_lt (x.above y c (PySem.mem_of_lookup h)))
 ·unfold start
  show _ = N.length
  rw [List.length_append, List.length_map, List.length_replicate]
  omega
theorem l6j {CX : CXT} {P : Program} {w : World} {K : PySem.W.Frag} {mg : Str -> Option Value} {base : Heap} {k : Nat} {f : Addr} {name qual : Str} {params : Arguments} {body : List Stmt} {scope : Scope} {dV kV doc pm cdv ct oc : Value} {an od : Option Addr}
  {osl : Array (Option Value)} {N ps : List Str} {sp : Sp} (lk : K.lookup f = some ⟨oc, od, .func (PySem.W.fnOf name qual params body scope dV kV doc pm an cdv ct), osl⟩) (hcd : PySem.W.codeIn K cdv qual = true) (S : a0s N ps scope)
  (len : ∀ vs H Q E, sp vs H Q E -> vs.length = ps.length)
  (hbody : ∀ (A : Around) (outer : List Env) (s : Shared) (H : Hp) (vs : List V) (Q : VK) (E : XK), a2z k (A.deeper (envOfC qual scope s.heap.objs.size f cdv)) -> sp vs H Q E ->
   ∃ t, PSs (k6a CX P w K mg base N qual scope f cdv A outer s H E) body t /\ t { nx := fun _ H' => Q .non H', rt := Q } (start N vs) H) :
  a1n P w K mg base CX (k + 1) f (PySem.W.fnOf name qual params body scope dV kV doc pm an cdv ct) ps sp := by
 refine ⟨len, fun A outer s H args us vs Q E hr e0 hb r hsp => ?_⟩
 have hl := len _ _ _ _ hsp
 have KX : K.In s.heap := e0.mod.kin.keeps fun b o e => (e0.bs b o e).1
 have lim : s.heap.NoLimit := e0.mod.nolimit.keeps fun b o e => (e0.bs b o e).1
 have hkind : ∀ y ∈ ps.zip us, scope.names.lookup y.1 = some .local \/ (scope.names.lookup y.1 = some .cell /\ ((cellsFrom (s.heap.objs.size + 1) scope.names []).lookup y.1).isSome = true) := fun ⟨n, v⟩ hy => by
  rcases S.par n (List.of_mem_zip hy).1 with q | q
  ·exact .inl q
  ·exact .inr ⟨q, PySem.W.cellsFrom_some _ _ _ (.inl q)⟩
 refine codeAny_call_function hr.depth (KX _ _ lk) rfl S.co S.gen rfl (PySem.W.codeRec_of KX hcd) (hb _ _ _ _ ?_)
 refine wpAny_newFunctionEnv_cells S.kind hkind fun env he s1 x => ?_
 subst he
 refine ⟨lim.keeps x.toInCall.keep, codeAny_func ?_⟩
 obtain ⟨t, ht, hq⟩ := hbody A outer s H vs Q E (hr.deeper _) hsp
 have I : Inv (k6a CX P w K mg base N qual scope f cdv A outer s H E) [] (start N vs) H s1 := j7c S hr.hd e0 hl r x
 refine wpAny_mono (ht [] s1 (start N vs) H _ I hq) (fun fl s' hs => ?_) fun e s' hs => hs
 have fin : ∀ {σ' : St} {H' : Hp} {v : V} {u : Value}, Inv (k6a CX P w K mg base N qual scope f cdv A outer s H E) [] σ' H' s' -> RelV v u -> Q v H' -> CE outer P w H s Q u s' :=
  fun {σ' H' v u} J rv q => ⟨v, H', J.os, J.bare, J.base, J.hok, rv, q⟩
 cases fl with
 | ret u =>
  obtain ⟨v, σ', H', J, rv, q⟩ := hs
  exact fin J rv q
 | next =>
  obtain ⟨σ', H', J, q⟩ := hs
  exact fin (v := V.non) (u := Value.none) J rfl q
 | brk =>
  obtain ⟨_, _, _, q⟩ := hs
  exact False.elim q
 | cont =>
  obtain ⟨_, _, _, q⟩ := hs
  exact False.elim q
end L2
namespace L2
open PySem PySem.Spec PyProof.Rows
section
variable {X : Cx} {x : Str} {p pos : Pos} {e : Expr} {es : List Expr} {t : TA} {id T : String} {r : List V -> Hp -> VK -> Prop}
noncomputable def tCB (r : List V -> Hp -> VK -> Prop) (t : TA) : TE := fun σ H Q => t σ H fun vs H1 => r vs H1 Q
theorem a1l (hc : b6h X (.builtin id) r) (hg : Gl X x) (hm : X.mg x = none) (hv : bootBuiltins x = some (.builtin id)) (ha : PA X (e :: es) t) (hn : x ≠ "__name__" := by decide) (hdb : (x == ("__debug__" : Str)) = false := by decide)
  (he : starEach (e :: es) X.env = (false, eval e X.env) :: starEach es X.env := by rfl) (hpl : (backTo pos (starEach es X.env)).any (·.1) = false := by rfl) : PE X (.Call (.Name x p) (e :: es) [] pos) (tCB r t) := by
 intro pins s σ H Q I h
 refine wpAny_Call_Name_kw (h4o I hg hm hv ?_ hn hdb)
 exact PyProof.Rows.callWith_builtin1 (thn (ha pos pins s σ H _ I h) fun us s1 ⟨vs, H1, I1, r1, q1⟩ => hc pins s1 σ H1 vs us Q I1 r1 q1) he hpl
theorem a5k (hc : b6h X (.type T) r) (hg : Gl X x) (hm : X.mg x = none) (hv : bootBuiltins x = some (.type T)) (ha : PA X (e :: es) t) (hn : x ≠ "__name__" := by decide) (hdb : (x == ("__debug__" : Str)) = false := by decide)
  (he : starEach (e :: es) X.env = (false, eval e X.env) :: starEach es X.env := by rfl) (hpl : (backTo pos (starEach es X.env)).any (·.1) = false := by rfl) : PE X (.Call (.Name x p) (e :: es) [] pos) (tCB r t) := by
 intro pins s σ H Q I h
 refine wpAny_Call_Name_kw (h4o I hg hm hv ?_ hn hdb)
 exact PyProof.Rows.callWith_type1 (thn (ha pos pins s σ H _ I h) fun us s1 ⟨vs, H1, I1, r1, q1⟩ => hc pins s1 σ H1 vs us Q I1 r1 q1) he hpl
end
end L2
namespace HT
open PySem PyProof.Rows
section
open PySem.SeqAt
open PySem.AutoSeq1 (wpAny_loadPart')
open PySem.MeetsSeq PySem.MeetsSeq2 PySem.MeetsSeq3
end
section
variable {prog : Program} {w : World} {A : Around} {E : Value -> Shared -> Prop} {s : Shared}
noncomputable def sIx (n d : Nat) : Option Int -> Nat
 | none => d
 | some v => if v < 0 then (v + (n : Int)).toNat else min v.toNat n
theorem k1j (n d : Nat) : sIx n d none = d := rfl
theorem g9e (n d k : Nat) : sIx n d (some (k : Int)) = min k n := by
 show (if (k : Int) < 0 then ((k : Int) + (n : Int)).toNat else min (k : Int).toNat n) = min k n
 rw [if_neg (by omega), Int.toNat_natCast]
theorem l0x (n d : Nat) (hd : d <= n) (o : Option Int) : sIx n d o <= n := by
 cases o with
 | none => exact hd
 | some v =>
  show (if v < 0 then (v + (n : Int)).toNat else min v.toNat n) <= n
  by_cases hv : v < 0
  ·rw [if_pos hv]; omega
  ·rw [if_neg hv]; exact Nat.min_le_right _ _
theorem j7d (v : Int) (n d : Nat) : (if v < 0 then max (v + (n : Int)) 0 else min v (n : Int)) = ((sIx n d (some v) : Nat) : Int) := by
 show (if v < 0 then max (v + (n : Int)) 0 else min v (n : Int)) = (((if v < 0 then (v + (n : Int)).toNat else min v.toNat n) : Nat) : Int)
 by_cases hv : v < 0
 ·simp only [if_pos hv]; omega
 ·simp only [if_neg hv]; omega
theorem j1q (lo hi : Option Int) (n : Nat) : Builtin.Slice.sliceAdjust lo hi 1 (n : Int) = (((sIx n 0 lo : Nat) : Int), ((sIx n n hi : Nat) : Int)) := by
 have h1 : ¬ ((1 : Int) < 0) := by omega
 unfold Builtin.Slice.sliceAdjust
 simp only [h1, if_false]
 refine Prod.ext ?_ ?_
 ·cases lo with
  | none => rfl
  | some v => exact j7d v n 0
 ·cases hi with
  | none => rfl
  | some v => exact j7d v n n
theorem j1r (i j : Nat) : Builtin.Slice.slicePlaces (i : Int) (j : Int) 1 = j - i := by
 unfold Builtin.Slice.slicePlaces
 have h1 : (1 : Int) > 0 := by omega
 simp only [h1, if_true, Int.ediv_one]
 split <;> omega
theorem g8c {v : Value} {o : Option Int} {Q : Option Int -> Shared -> Prop} (p : IsPart v o) (h : Q o s) : wpAny (model prog w) A (Builtin.Slice.slicePartIndex v) Q E s := by
 cases p with
 | none => exact slicePart_none h
 | int i t => exact slicePart_int h
theorem f8g {sl : Addr} {vl vu : Value} {lo hi : Option Int} {n : Nat} {Q : Int × Int × Nat -> Shared -> Prop} (hs : s.heap.IsSliceOf sl vl vu .none) (pl : IsPart vl lo) (pu : IsPart vu hi)
  (h : Q (((sIx n 0 lo : Nat) : Int), 1, sIx n n hi - sIx n 0 lo) s) : wpAny (model prog w) A (Builtin.Slice.sliceApplied (.ref sl) (pure (n : Int))) Q E s := by
 obtain ⟨os, hos, hcs, hds⟩ := id hs
 unfold Builtin.Slice.sliceApplied Builtin.Slice.sliceFields
 refine wpAny_bind (wpAny_bind (wpAny_field hos hds (x := vl) rfl (wpAny_bind (wpAny_field hos hds (x := vu) rfl (wpAny_bind (wpAny_field hos hds (x := .none) rfl (wpAny_pure ?_)))))))
 refine wpAny_bind (slicePart_none ?_)
 show wpAny _ _ (if ((1 : Int) == 0) = true then _ else _) _ _ s
 rw [if_neg (by decide)]
 refine wpAny_bind (g8c pl (wpAny_bind (g8c pu (wpAny_bind (wpAny_pure ?_)))))
 show wpAny _ _ (match Builtin.Slice.sliceAdjust lo hi 1 (n : Int) with | (lo, hi) => pure (lo, (1 : Int), Builtin.Slice.slicePlaces lo hi 1)) _ _ s
 rw [j1q lo hi n]
 show wpAny _ _ (pure (((sIx n 0 lo : Nat) : Int), (1 : Int), Builtin.Slice.slicePlaces ((sIx n 0 lo : Nat) : Int) ((sIx n n hi : Nat) : Int) 1)) _ _ s
 rw [j1r]
 exact wpAny_pure h
theorem k1k (xs : Array Value) (i k : Nat) : ((List.range k).filterMap fun (m : Nat) => xs[((i : Int) + (m : Int) * 1).toNat]?).toArray = ((xs.toList.drop i).take k).toArray := by
 have e : (fun (m : Nat) => xs[((i : Int) + (m : Int) * 1).toNat]?) = fun m => xs[i + m]? := by
  funext m
  have : ((i : Int) + (m : Int) * 1).toNat = i + m := by omega
  rw [this]
 rw [e]
 have := pick_run xs i k
 rw [List.filterMap_map] at this
 have e2 : ((fun x => xs[x]?) ∘ fun x => i + x) = fun m => xs[i + m]? := rfl
 rw [e2] at this
 rw [this]
theorem f2q {t sl : Addr} {items : Array Value} {vl vu : Value} {lo hi : Option Int} {Q : Value -> Shared -> Prop} (ht : IsTup s.heap t items) (hs : s.heap.IsSliceOf sl vl vu .none) (pl : IsPart vl lo) (pu : IsPart vu hi)
  (hw : ¬ (sIx items.size 0 lo = 0 /\ sIx items.size items.size hi = items.size))
  (h : Q (.ref s.heap.objs.size) { s with heap := s.heap.push { cls := .type "tuple", data := .seq ((items.toList.drop (sIx items.size 0 lo)).take (sIx items.size items.size hi - sIx items.size 0 lo)).toArray } })
  (hsz : items.size <= sizeLine) : wpAny (model prog w) A (getItem (.ref t) (.ref sl)) Q E s := by
 have k1l : sizeOk (.seq ((items.toList.drop (sIx items.size 0 lo)).take (sIx items.size items.size hi - sIx items.size 0 lo)).toArray) := by
  show ((items.toList.drop (sIx items.size 0 lo)).take (sIx items.size items.size hi - sIx items.size 0 lo)).toArray.size <= sizeLine
  rw [List.size_toArray, List.length_take, List.length_drop, Array.length_toList]
  omega
 have hj : sIx items.size items.size hi <= items.size := l0x _ _ (Nat.le_refl _) hi
 obtain ⟨os, hos, hcs, hds⟩ := id hs
 have hTs : s.TypeIs (.ref sl) "slice" := ⟨os, hos, hcs⟩
 unfold getItem
 try with_reducible refine wpAny_holding ?_
 first | refine wpAny_bind (wpAny_pure ?_) | skip
 refine wpAny_bind (wpAny_sequenceKey ht.typeIs (by decide) ?_)
 refine wpAny_bind (wpAny_callSpecial?_slot (name := Str.ofString "__getitem__") ht.typeIs PyProof.Rows.slot_tuple_getitem
  (wpAny_call_entry PyProof.Rows.slot_tuple_getitem ht.typeIs entry_tuple_getitem ?_ (args_tuple_getitem _ _)))
 show wpAny _ _ (Builtin.Tuple.tupleItemsOf (.ref t) >>= _) _ _ s
 refine wpAny_bind (tupleItemsOf_ ht ?_)
 refine wpAny_bind (wpAny_typeOf hTs ?_)
 rw [if_pos (by decide)]
 refine wpAny_bind (f8g hs pl pu ?_)
 have hno : ¬ ((((sIx items.size 0 lo : Nat) : Int) == 0 && (1 : Int) == 1 && (sIx items.size items.size hi - sIx items.size 0 lo) == items.size) = true) := by
  intro q
  rw [Bool.and_eq_true, Bool.and_eq_true] at q
  have q1 : ((sIx items.size 0 lo : Nat) : Int) = 0 := eq_of_beq q.1.1
  have q2 : sIx items.size items.size hi - sIx items.size 0 lo = items.size := eq_of_beq q.2
  exact hw ⟨by omega, by omega⟩
 show wpAny _ _ (if (((sIx items.size 0 lo : Nat) : Int) == 0 && (1 : Int) == 1 && (sIx items.size items.size hi - sIx items.size 0 lo) == items.size) = true then _ else _) _ _ s
 rw [if_neg hno, k1k]
 first
  | exact wpAny_bind (m := Builtin.Tuple.tupleExact _) (wpAny_newObj_type (wpAny_pure ⟨_, rfl, wpAny_pure h⟩) k1l)
  | exact wpAny_bind (m := Builtin.Tuple.tupleExact _) (wpAny_newObj_type (wpAny_bind (wpAny_pure (wpAny_pure ⟨_, rfl, wpAny_pure h⟩))) k1l)
  | exact wpAny_bind (wpAny_bind (m := Builtin.Tuple.tupleExact _) (wpAny_newObj_type (wpAny_pure (wpAny_pure ⟨_, rfl, wpAny_pure h⟩)) k1l))
  | exact wpAny_bind (wpAny_bind (m := Builtin.Tuple.tupleExact _) (wpAny_newObj_type (wpAny_pure ⟨_, rfl, wpAny_pure h⟩) k1l))
end
end HT
namespace L2
open PySem PySem.Spec PyProof.Rows
noncomputable abbrev TO := St -> Hp -> (Option Int -> Hp -> Prop) -> Prop
noncomputable def PO (X : Cx) (e : Option Expr) (t : TO) : Prop :=
 ∀ (pins : List (Addr × Obj)) (s : Shared) (σ : St) (H : Hp) (Q : Option Int -> Hp -> Prop), Inv X pins σ H s -> t σ H Q ->
  wpAny (model X.prog X.w) X.A (evalPart e X.env) (fun u s' => ∃ o H', Inv X pins σ H' s' /\ IsPart u o /\ Q o H') X.xe s
noncomputable def k6b : TO := fun _ H Q => Q none H
noncomputable def l0y (t : TE) : TO := fun σ H Q => t σ H fun x H1 => ∃ i, x = .int i /\ Q (some i) H1
section
variable {X : Cx} {e : Expr} {te : TE} {lo hi : Option Expr} {tl th : TO} {pos p2 : Pos}
theorem c3r : PO X none k6b := by
 intro pins s σ H Q I h
 rw [evalPart_none]
 exact wpAny_pure ⟨none, H, I, .none, h⟩
theorem k6c (h : PE X e te) : PO X (some e) (l0y te) := by
 intro pins s σ H Q I hw
 rw [evalPart_some]
 refine thn (h pins s σ H _ I hw) fun u s1 ⟨x, H1, I1, r1, q1⟩ => ?_
 obtain ⟨i, rfl, q⟩ := q1
 obtain ⟨t, rfl⟩ := r1
 exact ⟨some i, H1, I1, .int i t, q⟩
noncomputable def SlR (X : Cx) (r : V -> Option Int -> Option Int -> Hp -> VK -> Prop) : Prop :=
 ∀ (pins : List (Addr × Obj)) (s : Shared) (σ : St) (H : Hp) (x : V) (v vl vu : Value) (lo hi : Option Int) (sl : Addr) (Q : VK), Inv X pins σ H s -> RelV x v -> s.heap.IsSliceOf sl vl vu .none -> IsPart vl lo -> IsPart vu hi -> r x lo hi H Q ->
  ∃ T id, typeLookup (.type T) "__getitem__" = pure (some (.builtin id)) ∧ s.TypeIs v T ∧ wpAny (model X.prog X.w) X.A (getItem v (.ref sl)) (EP X pins σ Q) X.xe s
theorem SlR.or {r r' : V -> Option Int -> Option Int -> Hp -> VK -> Prop} (h : SlR X r) (h' : SlR X r') : SlR X (fun x lo hi H Q => r x lo hi H Q \/ r' x lo hi H Q) := by
 intro pins s σ H x v vl vu lo hi sl Q I rx hs pl pu q
 rcases q with q | q
 ·exact h pins s σ H x v vl vu lo hi sl Q I rx hs pl pu q
 ·exact h' pins s σ H x v vl vu lo hi sl Q I rx hs pl pu q
noncomputable def tSl (r : V -> Option Int -> Option Int -> Hp -> VK -> Prop) (te : TE) (tl th : TO) : TE := fun σ H Q => te σ H fun x H1 => tl σ H1 fun l H2 => th σ H2 fun u H3 => r x l u H3 Q
theorem b5i {r : V -> Option Int -> Option Int -> Hp -> VK -> Prop} (hr : SlR X r) (he : PE X e te) (hl : PO X lo tl) (hu : PO X hi th) : PE X (.Subscript e (.Slice lo hi none p2) pos) (tSl r te tl th) := by
 intro pins s σ H Q I h
 refine Subscript_ (thn (he pins s σ H _ I h) fun v s1 ⟨x, H1, I1, r1, q1⟩ => ?_)
 refine wpAny_Slice (thn (hl pins s1 σ H1 _ I1 q1) fun vl s2 ⟨l, H2, I2, pl, q2⟩ => thn (hu pins s2 σ H2 _ I2 q2) fun vu s3 ⟨u, H3, I3, pu, q3⟩ => ?_)
 rw [evalPart_none]
 refine wpAny_pure ?_
 have I4 : Inv X pins σ H3 { s3 with heap := s3.heap.push { cls := .type "slice", data := .fields #[vl, vu, .none] } } := I3.kept (t' := s3.toks) fun b ob q => Heap.get?_push_of_some _ q
 obtain ⟨T, id, hT, ht, hg⟩ := hr pins { s3 with heap := s3.heap.push { cls := .type "slice", data := .fields #[vl, vu, .none] } } σ H3 x v vl vu l u s3.heap.objs.size Q I4 r1 (Heap.IsSliceOf.new ..) pl pu q3
 show wpAny (model X.prog X.w) X.A (subscriptTail e (.Slice lo hi none p2) v (.ref s3.heap.objs.size)) (EP X pins σ Q) X.xe { s3 with heap := s3.heap.push { cls := .type "slice", data := .fields #[vl, vu, .none] } }
 exact tail_any (ops := [.ref s3.heap.objs.size, v]) ht hT hg (by with_unfolding_all rfl)
noncomputable def f9q (xs : List V) (lo hi : Option Int) : List V := (xs.drop (HT.sIx xs.length 0 lo)).take (HT.sIx xs.length xs.length hi - HT.sIx xs.length 0 lo)
theorem g0f (xs : List V) (lo hi : Option Int) : (f9q xs lo hi).length <= xs.length := by
 unfold f9q
 rw [List.length_take, List.length_drop]
 omega
noncomputable def rSlT (K : PySem.W.Frag) : V -> Option Int -> Option Int -> Hp -> VK -> Prop := fun x lo hi H Q => ∃ a xs, x = .ref a /\ SqT K H a xs /\
 ¬ (HT.sIx xs.length 0 lo = 0 /\ HT.sIx xs.length xs.length hi = xs.length) /\ ∀ p, H p = none -> Q (.ref p) (upd H p (.tup (f9q xs lo hi)))
theorem l0z : SlR X (rSlT X.K) := by
 intro pins s σ H x v vl vu lo hi sl Q I rx hs pl pu h
 obtain ⟨a, xs, rfl, hx, hw, q⟩ := h
 cases rx
 obtain ⟨its, r, ht, hz⟩ := I.tuple hx
 have hlen : its.toArray.size = xs.length := by rw [List.size_toArray]; exact r.length.symm
 refine ⟨"tuple", _, PyProof.Rows.slot_tuple_getitem.lookup, ht.typeIs, ?_⟩
 refine HT.f2q ht hs pl pu (by rw [hlen]; exact hw) ?_ (by rw [hlen]; exact hz)
 rw [hlen]
 refine ⟨.ref s.heap.objs.size, _, I.laid (t' := s.toks) (o := .tup (f9q xs lo hi)) (fun b ob q => Heap.get?_push_of_some _ q) (Nat.le_refl _) ?_, rfl, q _ (I.hok.fresh (Nat.le_refl _))⟩
 exact ⟨Nat.le_trans (g0f xs lo hi) hz, _, (r.drop (HT.sIx xs.length 0 lo)).take (HT.sIx xs.length xs.length hi - HT.sIx xs.length 0 lo), IsTup.new _ _⟩
end
end L2
namespace L2
open PySem PySem.Spec PyProof.Rows
noncomputable def ixN (n : Nat) (i : Int) : Option Nat := if 0 <= i then (if i < n then some i.toNat else none) else if -(n : Int) <= i then some (i + n).toNat else none
noncomputable def atI {α : Type} (xs : List α) (i : Int) : Option α := (ixN xs.length i).bind fun j => xs[j]?
theorem k6d {n : Nat} {i : Int} {j : Nat} (h : ixN n i = some j) : seqIndex? i n = some j /\ j < n /\ -(n : Int) <= i /\ i < n := by
 unfold ixN at h
 by_cases h0 : 0 <= i
 ·rw [if_pos h0] at h
  by_cases h1 : i < n
  ·rw [if_pos h1] at h
   have e : i.toNat = j := Option.some.inj h
   exact ⟨by rw [seqIndex_of h0 h1, e], by omega, by omega, h1⟩
  ·rw [if_neg h1] at h; cases h
 ·rw [if_neg h0] at h
  by_cases h1 : -(n : Int) <= i
  ·rw [if_pos h1] at h
   have e : (i + n).toNat = j := Option.some.inj h
   exact ⟨by rw [seqIndex_neg (by omega) h1, e], by omega, h1, by omega⟩
  ·rw [if_neg h1] at h; cases h
theorem i3u {α : Type} {xs : List α} {i : Int} {v : α} (h : atI xs i = some v) : ∃ j, seqIndex? i xs.length = some j /\ xs[j]? = some v /\ j < xs.length /\ -(xs.length : Int) <= i /\ i < xs.length := by
 unfold atI at h
 cases e : ixN xs.length i with
 | none => rw [e] at h; cases h
 | some j =>
  rw [e] at h
  obtain ⟨h1, h2, h3, h4⟩ := k6d e
  exact ⟨j, h1, h, h2, h3, h4⟩
theorem b2g {α : Type} {xs : List α} {j : Nat} {v : α} (h : xs[j]? = some v) : atI xs (j : Int) = some v := by
 have hj : j < xs.length := (List.getElem?_eq_some_iff.mp h).1
 have e : ixN xs.length (j : Int) = some j := by
  unfold ixN
  rw [if_pos (by omega), if_pos (by omega)]; simp
 unfold atI; rw [e]; exact h
noncomputable def k6e (b : Expr) : Prop := ∀ o i, subscripted b false o i = operate [o, i] (getItem o i)
noncomputable def IxR (X : Cx) (r : R2) : Prop :=
 ∀ (value slice : Expr) (pins : List (Addr × Obj)) (s : Shared) (σ : St) (H : Hp) (x y : V) (v u : Value) (Q : VK), Inv X pins σ H s -> RelV x v -> RelV y u -> r x y H Q ->
  subscripted slice false v u = operate [v, u] (getItem v u) -> wpAny (model X.prog X.w) X.A (subscriptTail value slice v u) (EP X pins σ Q) X.xe s
noncomputable def MtR (X : Cx) (id : String) (r : V -> List V -> Hp -> VK -> Prop) : Prop :=
 ∀ (pins : List (Addr × Obj)) (s : Shared) (σ : St) (H : Hp) (x : V) (xs : List V) (v : Value) (us : List Value) (Q : VK), Inv X pins σ H s -> RelV x v -> Vals xs us -> r x xs H Q ->
  wpAny (model X.prog X.w) X.A (call (.builtin id) (v :: us)) (EP X pins σ Q) X.xe s
section
variable {X : Cx} {a b : Expr} {ta tb : TE} {pos : Pos}
theorem IxR.or {r r' : R2} (h : IxR X r) (h' : IxR X r') : IxR X (fun x y H Q => r x y H Q \/ r' x y H Q) := by
 intro value slice pins s σ H x y v u Q I rx ry q hs
 rcases q with q | q
 ·exact h value slice pins s σ H x y v u Q I rx ry q hs
 ·exact h' value slice pins s σ H x y v u Q I rx ry q hs
theorem MtR.or {id : String} {r r' : V -> List V -> Hp -> VK -> Prop} (h : MtR X id r) (h' : MtR X id r') : MtR X id (fun x xs H Q => r x xs H Q \/ r' x xs H Q) := by
 intro pins s σ H x xs v us Q I rx rs q
 rcases q with q | q
 ·exact h pins s σ H x xs v us Q I rx rs q
 ·exact h' pins s σ H x xs v us Q I rx rs q
theorem a0v {r : R2} (hr : IxR X r) (ha : PE X a ta) (hb : PE X b tb) (hs : k6e b) : PE X (.Subscript a b pos) (tOp r ta tb) := by
 intro pins s σ H Q I h
 exact Subscript_ (l6b ha hb I h fun v u s2 x y H2 I2 rx ry q => hr a b pins s2 σ H2 x y v u Q I2 rx ry q (hs _ _))
noncomputable def rIxL (K : PySem.W.Frag) : R2 := fun x y H Q => ∃ p xs i v, x = .ref p /\ y = .int i /\ SqL K H p xs /\ atI xs i = some v /\ Q v H
noncomputable def rIxT (K : PySem.W.Frag) : R2 := fun x y H Q => ∃ p xs i v, x = .ref p /\ y = .int i /\ SqT K H p xs /\ atI xs i = some v /\ Q v H
noncomputable def rIxS : R2 := fun x y H Q => ∃ z i c, x = .str z /\ y = .int i /\ z.length <= sizeLine /\ atI z.cps.toList i = some c /\ Q (.str ⟨#[c]⟩) H
theorem j7e : IxR X (rIxL X.K) := by
 intro value slice pins s σ H x y v u Q I rx ry h hs
 obtain ⟨p, xs, i, z, rfl, rfl, hq, he, q⟩ := h
 cases rx
 obtain ⟨t, rfl⟩ := ry
 obtain ⟨its, r, pl, hz⟩ := I.list hq
 obtain ⟨j, h1, h2, h3, h4, h5⟩ := i3u he
 obtain ⟨w, ew, rw'⟩ := r.get h2
 have hl := r.length
 have hn := h4q
 have fin : EP X pins σ Q w s := ⟨z, H, I, rw', q⟩
 by_cases h0 : 0 <= i
 ·have hj : i.toNat = j := by
   rw [seqIndex_of h0 h5] at h1
   exact Option.some.inj h1
  exact item_listR pl.isList h0 (by omega) (by rw [hj]; simpa using ew) fin hs
 ·have hj : (i + (its.toArray.size : Int)).toNat = j := by
   rw [seqIndex_neg (by omega) h4] at h1
   rw [List.size_toArray, <- hl]
   exact Option.some.inj h1
  exact subscriptTail_builtinR (x := w) pl.isList.typeIs slot_list_getitem.lookup
   (wpAny_getItem_list_neg (Q := fun r s' => r = w /\ EP X pins σ Q r s') pl.isList (by omega) (by rw [List.size_toArray] <;> omega) (by omega) (by rw [hj]; simpa using ew) ⟨rfl, fin⟩) hs
theorem l1a : IxR X (rIxT X.K) := by
 intro value slice pins s σ H x y v u Q I rx ry h hs
 obtain ⟨p, xs, i, z, rfl, rfl, hq, he, q⟩ := h
 cases rx
 obtain ⟨t, rfl⟩ := ry
 obtain ⟨its, r, pl, hz⟩ := I.tuple hq
 obtain ⟨j, h1, h2, h3, h4, h5⟩ := i3u he
 obtain ⟨w, ew, rw'⟩ := r.get h2
 have hl := r.length
 have hn := h4q
 have fin : EP X pins σ Q w s := ⟨z, H, I, rw', q⟩
 exact subscriptTail_builtinR (x := w) pl.typeIs slot_tuple_getitem.lookup
  (getItem_tuple (j := j) (Q := fun r s' => r = w /\ EP X pins σ Q r s') pl (by omega) (by omega) (by rw [List.size_toArray, <- hl]; exact h1) (by simpa using ew) ⟨rfl, fin⟩) hs
theorem l1b : IxR X rIxS := by
 intro value slice pins s σ H x y v u Q I rx ry h hs
 obtain ⟨z, i, c, rfl, rfl, hz, he, q⟩ := h
 obtain ⟨t, rfl⟩ := rx
 obtain ⟨t', rfl⟩ := ry
 obtain ⟨j, h1, h2, h3, h4, h5⟩ := i3u he
 have hl : z.cps.toList.length = z.length := by simp [Str.length]
 rw [hl] at h1 h4 h5
 have hn := h4q
 exact tail_any (typeIs_str s z t) slot_str_getitem.lookup (getItem_str (c := c) (by
  have e1 : decide (i < -(2 ^ 63 : Int)) = false := decide_eq_false (by omega)
  have e2 : decide (i ≥ 2 ^ 63) = false := decide_eq_false (by omega)
  rw [e1, e2, Bool.or_false]) (by rw [h1]; simpa using h2) ⟨.str ⟨#[c]⟩, H, I.tok _, ⟨_, rfl⟩, q⟩) hs
theorem Inv.lst {pins : List (Addr × Obj)} {σ : St} {H : Hp} {s : Shared} {p : Addr} {xs : List V} (I : Inv X pins σ H s) (h : H p = some (.lst xs)) :
  ∃ (its : List Value) (n : Nat), Vals xs its ∧ s.heap.get? p = some { cls := .type "list", data := .seq its.toArray n } ∧ xs.length ≤ sizeLine := by
 obtain ⟨z, its, n, r, e⟩ := I.hok p _ h
 exact ⟨its, n, r, e, z⟩
theorem h4w (lo hi : Option Int) (n : Nat) : (sliceBounds lo hi none n).1 = ((HT.sIx n 0 lo : Nat) : Int) /\ (sliceBounds lo hi none n).2.1 = ((HT.sIx n n hi : Nat) : Int) /\ (sliceBounds lo hi none n).2.2 = 1 := by
 refine ⟨?_, ?_, rfl⟩
 ·cases lo with
  | none => simp [sliceBounds, HT.sIx]
  | some i =>
   simp only [sliceBounds, HT.sIx, Option.getD_none, show (1 : Int) > 0 by decide, if_true]
   by_cases h : i < 0
   ·simp only [h, if_true] <;> omega
   ·simp only [h, if_false] <;> omega
 ·cases hi with
  | none => simp [sliceBounds, HT.sIx]
  | some i =>
   simp only [sliceBounds, HT.sIx, Option.getD_none, show (1 : Int) > 0 by decide, if_true]
   by_cases h : i < 0
   ·simp only [h, if_true] <;> omega
   ·simp only [h, if_false] <;> omega
theorem g9f (its : List Value) (lo hi : Option Int) : slicePick its.toArray lo hi none = ((its.drop (HT.sIx its.length 0 lo)).take (HT.sIx its.length its.length hi - HT.sIx its.length 0 lo)).toArray := by
 obtain ⟨h1, h2, h3⟩ := h4w lo hi its.toArray.size
 unfold slicePick
 rw [h1, h2, h3]
 simp only [sliceRange_one, pick_run, List.size_toArray] <;> rfl
noncomputable def rSlL (K : PySem.W.Frag) : V -> Option Int -> Option Int -> Hp -> VK -> Prop := fun x lo hi H Q => ∃ a xs, x = .ref a /\ SqL K H a xs /\ ∀ p, H p = none -> Q (.ref p) (upd H p (.lst (f9q xs lo hi)))
theorem i3v : SlR X (rSlL X.K) := by
 intro pins s σ H x v vl vu lo hi sl Q I rx hs pl pu h
 obtain ⟨a, xs, rfl, hx, q⟩ := h
 cases rx
 obtain ⟨its, r, ht, hz⟩ := I.list hx
 have hlen := r.length
 refine ⟨"list", _, slot_list_getitem.lookup, ht.isList.typeIs, ?_⟩
 refine wpAny_getItem_list_slice ht.isList hs pl pu .none (by simp) ?_ (by rw [List.size_toArray] <;> omega)
 rw [g9f, <- hlen]
 refine ⟨.ref s.heap.objs.size, _, I.laid (t' := s.toks) (o := .lst (f9q xs lo hi)) (fun b ob q => Heap.get?_push_of_some _ q) (Nat.le_refl _) ?_, rfl, q _ (I.hok.fresh (Nat.le_refl _))⟩
 exact ⟨Nat.le_trans (g0f xs lo hi) hz, _, 0, (r.drop (HT.sIx xs.length 0 lo)).take (HT.sIx xs.length xs.length hi - HT.sIx xs.length 0 lo), Heap.get?_push_size _ rfl⟩
noncomputable def b9t : V -> Bool
 | .non => true
 | .bl _ => true
 | .int _ => true
 | .str _ => true
 | _ => false
noncomputable def eqV : V -> V -> Bool
 | .non, .non => true
 | .bl a, .bl b => a == b
 | .bl a, .int b => (if a then 1 else 0) == b
 | .int a, .bl b => a == (if b then 1 else 0)
 | .int a, .int b => a == b
 | .str a, .str b => a == b
 | _, _ => false
theorem l1c {A : Around} {s : Shared} {y x : V} {u v : Value} (ry : RelV y u) (rx : RelV x v) (fy : b9t y = true) (fx : b9t x = true) : SeqAt.EqAt A s u v (eqV y x) := by
 cases y with
 | non =>
  cases ry
  cases x with
  | non => cases rx; exact SeqAt.EqAt.same _
  | bl b => cases rx; exact SeqAt.EqAt.none_bool b
  | int b => obtain ⟨t, rfl⟩ := rx; exact SeqAt.EqAt.none_int b t
  | str b => obtain ⟨t, rfl⟩ := rx; exact SeqAt.EqAt.none_str b t
  | _ => exact absurd (show false = true from fx) Bool.false_ne_true
 | bl a =>
  cases ry
  cases x with
  | non => cases rx; exact SeqAt.EqAt.bool_none a
  | bl b => cases rx; exact SeqAt.EqAt.bool_bool a b
  | int b => obtain ⟨t, rfl⟩ := rx; exact SeqAt.EqAt.bool_int a b t
  | str b => obtain ⟨t, rfl⟩ := rx; exact SeqAt.EqAt.bool_str a b t
  | _ => exact absurd (show false = true from fx) Bool.false_ne_true
 | int a =>
  obtain ⟨t', rfl⟩ := ry
  cases x with
  | non => cases rx; exact SeqAt.EqAt.int_none a t'
  | bl b => cases rx; exact SeqAt.EqAt.int_bool a t' b
  | int b => obtain ⟨t, rfl⟩ := rx; exact SeqAt.EqAt.int_int a t' b t
  | str b => obtain ⟨t, rfl⟩ := rx; exact SeqAt.EqAt.int_str a t' b t
  | _ => exact absurd (show false = true from fx) Bool.false_ne_true
 | str a =>
  obtain ⟨t', rfl⟩ := ry
  cases x with
  | non => cases rx; exact SeqAt.EqAt.str_none a t'
  | bl b => cases rx; exact SeqAt.EqAt.str_bool a t' b
  | int b => obtain ⟨t, rfl⟩ := rx; exact SeqAt.EqAt.str_int a t' b t
  | str b => obtain ⟨t, rfl⟩ := rx; exact SeqAt.EqAt.str_str a t' b t
  | _ => exact absurd (show false = true from fx) Bool.false_ne_true
 | _ => exact absurd (show false = true from fy) Bool.false_ne_true
noncomputable def eqU (x : V) (u : Value) : Bool := match u with
 | .none => eqV .non x
 | .bool b => eqV (.bl b) x
 | .int i _ => eqV (.int i) x
 | .str z _ => eqV (.str z) x
 | _ => false
theorem k4e {x y : V} {u : Value} (r : RelV y u) (f : b9t y = true) : eqU x u = eqV y x := by
 cases y with
 | non => cases r; rfl
 | bl b => cases r; rfl
 | int i => obtain ⟨t, rfl⟩ := r; rfl
 | str z => obtain ⟨t, rfl⟩ := r; rfl
 | _ => exact absurd (show false = true from f) Bool.false_ne_true
theorem g0g {x : V} : ∀ {xs : List V} {us : List Value}, Vals xs us -> xs.all b9t = true -> us.any (eqU x) = xs.any fun y => eqV y x
 | _, _, .nil, _ => rfl
 | y :: xs, u :: us, .cons r t, f => by
  rw [List.all_cons, Bool.and_eq_true] at f
  rw [List.any_cons, List.any_cons, k4e r f.1, g0g t f.2]
theorem f0o {A : Around} {s : Shared} {x : V} {v : Value} (rx : RelV x v) (fx : b9t x = true) : ∀ {xs : List V} {us : List Value}, Vals xs us -> xs.all b9t = true -> ∀ u ∈ us, SeqAt.EqAt A s u v (eqU x u)
 | _, _, .nil, _ => fun u hu => by cases hu
 | y :: xs, u :: us, .cons r t, f => fun u' hu => by
  rw [List.all_cons, Bool.and_eq_true] at f
  rcases List.mem_cons.mp hu with rfl | hu
  ·rw [k4e r f.1]; exact l1c r rx f.1 fx
  ·exact f0o rx fx t f.2 u' hu
noncomputable def inV (x : V) (xs : List V) : Bool := xs.any fun y => eqV y x
noncomputable def rIn (K : PySem.W.Frag) (neg : Bool) : R2 := fun x y H Q => ∃ p xs, y = .ref p /\ (SqL K H p xs \/ SqT K H p xs) /\ b9t x = true /\ xs.all b9t = true /\ Q (.bl (if neg then !inV x xs else inV x xs)) H
theorem h4x : OpR X (compareOp .In) (rIn X.K false) := by
 intro pins s σ H x y v u Q I rx ry h
 obtain ⟨p, xs, rfl, hq, fx, fs, q⟩ := h
 cases ry
 rcases hq with hq | hq
 ·obtain ⟨its, r, pl, hz⟩ := I.list hq
  refine SeqAt.in_listAt (eqU x) pl.isList (fun w hw => f0o rx fx r fs w (by simpa using hw)) ⟨.bl _, H, I, rfl, ?_⟩
  rw [show its.toArray.any (eqU x) = its.any (eqU x) by simp, g0g r fs]
  exact q
 ·obtain ⟨its, r, pl, hz⟩ := I.tuple hq
  refine SeqAt.in_tupleAt (eqU x) pl (fun w hw => f0o rx fx r fs w (by simpa using hw)) ⟨.bl _, H, I, rfl, ?_⟩
  rw [show its.toArray.any (eqU x) = its.any (eqU x) by simp, g0g r fs]
  exact q
theorem f6i : OpR X (compareOp .NotIn) (rIn X.K true) := by
 intro pins s σ H x y v u Q I rx ry h
 obtain ⟨p, xs, rfl, hq, fx, fs, q⟩ := h
 cases ry
 rcases hq with hq | hq
 ·obtain ⟨its, r, pl, hz⟩ := I.list hq
  refine SeqAt.notIn_listAt (eqU x) pl.isList (fun w hw => f0o rx fx r fs w (by simpa using hw)) ⟨.bl _, H, I, rfl, ?_⟩
  rw [show its.toArray.any (eqU x) = its.any (eqU x) by simp, g0g r fs]
  exact q
 ·obtain ⟨its, r, pl, hz⟩ := I.tuple hq
  refine SeqAt.notIn_tupleAt (eqU x) pl (fun w hw => f0o rx fx r fs w (by simpa using hw)) ⟨.bl _, H, I, rfl, ?_⟩
  rw [show its.toArray.any (eqU x) = its.any (eqU x) by simp, g0g r fs]
  exact q
theorem h4y : OpR X (compareOp .NotIn) (fun x y H Q => ∃ i j, x = .str i /\ y = .str j /\ Q (.bl (!(!(Builtin.Str.occurrences j i 0 j.length 1).isEmpty))) H) := by
 intro pins s σ H x y v u Q I rx ry h
 obtain ⟨i, j, rfl, rfl, q⟩ := h
 obtain ⟨t, rfl⟩ := rx
 obtain ⟨t', rfl⟩ := ry
 exact notIn_str ⟨.bl _, H, I, rfl, q⟩
theorem c8p : b6h X (.builtin "len") (fun xs H Q => ∃ p ys, xs = [.ref p] ∧ (SqL X.K H p ys ∨ SqT X.K H p ys) ∧ Q (.int ys.length) H) := by
 intro pins s σ H xs us Q I r h
 obtain ⟨p, ys, rfl, hq, q⟩ := h
 obtain ⟨u, rfl, rx⟩ := vals1 r
 cases rx
 have hn := h4q
 rcases hq with hq | hq
 ·obtain ⟨its, r', pl, hz⟩ := I.list hq
  have hlen := r'.length
  exact Calls.call_len_list pl.isList (by simp only [List.size_toArray] <;> omega) ⟨.int ys.length, H, I.tok _, ⟨s.toks + 1, by rw [List.size_toArray, hlen]⟩, q⟩
 ·obtain ⟨its, r', pl, hz⟩ := I.tuple hq
  have hlen := r'.length
  exact len_tuple pl (by simp only [List.size_toArray] <;> omega) ⟨.int ys.length, H, I.tok _, ⟨s.toks + 1, by rw [List.size_toArray, hlen]⟩, q⟩
theorem h4z : b6h X (.builtin "len") (fun xs H Q => ∃ z, xs = [.str z] ∧ z.length ≤ sizeLine ∧ Q (.int z.length) H) := by
 intro pins s σ H xs us Q I r h
 obtain ⟨z, rfl, hz, q⟩ := h
 obtain ⟨u, rfl, t, rfl⟩ := vals1 r
 have hn := h4q
 exact len_str (by omega) ⟨.int z.length, H, I.tok _, ⟨_, rfl⟩, q⟩
theorem b6h.or {f : Value} {r r' : List V -> Hp -> VK -> Prop} (h : b6h X f r) (h' : b6h X f r') : b6h X f (fun xs H Q => r xs H Q \/ r' xs H Q) := by
 intro pins s σ H xs us Q I rs q
 rcases q with q | q
 ·exact h pins s σ H xs us Q I rs q
 ·exact h' pins s σ H xs us Q I rs q
theorem h5a : b6h X (.type "list") (fun xs H Q => ∃ p ys, xs = [.ref p] ∧ (SqL X.K H p ys ∨ SqT X.K H p ys) ∧ ∀ l, H l = none → Q (.ref l) (upd H l (.lst ys))) := by
 intro pins s σ H xs us Q I r h
 obtain ⟨p, ys, rfl, hq, q⟩ := h
 obtain ⟨u, rfl, rx⟩ := vals1 r
 cases rx
 have fin : ∀ (its : List Value), Vals ys its -> ys.length <= sizeLine -> ∀ (h' : Heap) (c' : Nat), (∀ b o', s.heap.get? b = some o' -> h'.get? b = some o') ->
   h'.get? s.heap.objs.size = some { cls := .type "list", dict := none, data := .seq its.toArray c', slots := #[] } → EP X pins σ Q (.ref s.heap.objs.size) { s with heap := h' } := fun its r' hz h' c' kp e =>
  ⟨.ref s.heap.objs.size, _, I.laid (t' := s.toks) kp (Nat.le_refl _) (show b1z X.prog X.w _ h' _ (.lst ys) from ⟨hz, its, c', r', e⟩), rfl, q _ (I.hok.fresh (Nat.le_refl _))⟩
 rcases hq with hq | hq
 ·obtain ⟨its, r', pl, hz⟩ := I.list hq
  have hlen := r'.length
  obtain ⟨o, ho, hc, n, hd⟩ := pl.isList
  exact call_list_seq p (.inl rfl) ho hc hd (fun h' c' kp e => fin its r' hz h' c' kp e) (by simp only [List.size_toArray] <;> omega)
 ·obtain ⟨its, r', pl, hz⟩ := I.tuple hq
  have hlen := r'.length
  obtain ⟨o, ho, hc, n, hd⟩ := pl
  exact call_list_seq p (.inr rfl) ho hc hd (fun h' c' kp e => fin its r' hz h' c' kp e) (by simp only [List.size_toArray] <;> omega)
theorem g9g : b6h X (.type "tuple") (fun xs H Q => ∃ p ys, xs = [.ref p] ∧ ((SqL X.K H p ys ∧ ∀ l, H l = none → Q (.ref l) (upd H l (.tup ys))) ∨ (SqT X.K H p ys ∧ Q (.ref p) H))) := by
 intro pins s σ H xs us Q I r h
 obtain ⟨p, ys, rfl, h⟩ := h
 obtain ⟨u, rfl, rx⟩ := vals1 r
 cases rx
 rcases h with ⟨hq, q⟩ | ⟨hq, q⟩
 ·obtain ⟨its, r', pl, hz⟩ := I.list hq
  have hlen := r'.length
  refine call_tuple_list pl.isList (fun h' kp => ?_) (by simp only [List.size_toArray] <;> omega)
  have I1 : Inv X pins σ H { s with heap := h' } := I.kept (t' := s.toks) kp
  have I2 : Inv X pins σ (upd H h'.objs.size (.tup ys)) { s with heap := h'.push { cls := .type "tuple", data := .seq its.toArray } } :=
   I1.laid (t' := s.toks) (fun b o e => Heap.get?_push_of_some _ e) (Nat.le_refl _) (show b1z X.prog X.w _ _ _ (.tup ys) from ⟨hz, its, r', IsTup.new _ _⟩)
  exact ⟨.ref h'.objs.size, _, I2, rfl, q _ (I1.hok.fresh (Nat.le_refl _))⟩
 ·obtain ⟨its, r', pl, hz⟩ := I.tuple hq
  exact call_tuple_same pl ⟨.ref p, H, I, rfl, q⟩
noncomputable def tyV (K : PySem.W.Frag) (T : String) (x : V) (H : Hp) : Prop := match x with
 | .str _ => T = "str"
 | .int _ => T = "int"
 | .ref p => (T = "list" ∧ ∃ xs, SqL K H p xs) ∨ (T = "tuple" ∧ ∃ o, K.lookup p = some o ∧ o.cls = .type "tuple" ∧ o.dict = none) ∨
   (T = "dict" ∧ ((∃ kvs, H p = some (.dK kvs)) ∨ ∃ kvs, H p = some (.dT kvs))) ∨ (T = "set" ∧ ∃ S n, H p = some (.set S n))
 | _ => False
theorem k4f {pins : List (Addr × Obj)} {σ : St} {H : Hp} {s : Shared} {T : String} {x : V} {v : Value} (I : Inv X pins σ H s) (r : RelV x v) (ty : tyV X.K T x H) :
  s.TypeIs v T /\ ∀ a, v = .ref a -> ∃ ob, s.heap.get? a = some ob /\ ob.dict = none := by
 cases x with
 | str z =>
  obtain ⟨t, rfl⟩ := r
  cases (show T = "str" from ty)
  exact ⟨typeIs_str s z t, fun _ e => nomatch e⟩
 | int i =>
  obtain ⟨t, rfl⟩ := r
  cases (show T = "int" from ty)
  exact ⟨typeIs_int s i t, fun _ e => nomatch e⟩
 | ref p =>
  cases r
  rcases ty with ⟨rfl, xs, hq⟩ | ⟨rfl, o, hk, hc, hd⟩ | ⟨rfl, hk⟩ | ⟨rfl, S, n, hk⟩
  ·obtain ⟨its, _, pl, _⟩ := I.list hq
   refine ⟨pl.isList.typeIs, fun a e => ?_⟩
   cases e
   obtain ⟨o, n, e, c, hd, _⟩ := pl
   exact ⟨o, e, hd⟩
  ·refine ⟨⟨o, I.kIn p o hk, hc⟩, fun a e => ?_⟩
   cases e
   exact ⟨o, I.kIn _ o hk, hd⟩
  ·have z : ∃ o, s.heap.get? p = some o /\ o.ExactDict := by
    rcases hk with ⟨kvs, hk⟩ | ⟨kvs, hk⟩
    ·obtain ⟨_, _, _, _, o, _, _, e, ex, _⟩ := I.hok p _ hk
     exact ⟨o, e, ex⟩
    ·obtain ⟨_, _, _, _, o, _, _, e, ex, _⟩ := I.hok p _ hk
     exact ⟨o, e, ex⟩
   obtain ⟨o, e, ex⟩ := z
   refine ⟨⟨o, e, ex.1⟩, fun a e2 => ?_⟩
   cases e2
   exact ⟨o, e, ex.2.1⟩
  ·obtain ⟨o, _, _, _, e, ex, _⟩ := I.hok p _ hk
   refine ⟨⟨o, e, ex.1⟩, fun a e2 => ?_⟩
   cases e2
   exact ⟨o, e, ex.2.1⟩
 | _ => exact False.elim ty
variable {o e : Expr} {es : List Expr} {to : TE} {t : TA} {name : Str} {apos cpos : Pos} {T id : String} {r : V -> List V -> Hp -> VK -> Prop}
/- xs.append(e), list.index on a module's tuple .. are MtR facts of 06m -/
end
end L2
namespace L2
open PySem PySem.Spec PyProof.Rows
noncomputable def MtM (X : Cx) (id : String) (r : V -> List V -> Hp -> VK -> Prop) : Prop :=
 ∀ (pins : List (Addr × Obj)) (s : Shared) (σ : St) (H : Hp) (x : V) (xs : List V) (v : Value) (us : List Value) (Q : VK), Inv X pins σ H s -> RelV x v -> Vals xs us -> r x xs H Q ->
  wpAny (model X.prog X.w) X.A (call (.builtin id) (v :: us)) (EP X pins σ Q) X.xe s
theorem Vals.one : ∀ {x : V} {us : List Value}, Vals [x] us -> ∃ u, us = [u] /\ RelV x u
 | _, _, .cons r .nil => ⟨_, rfl, r⟩
theorem Vals.two : ∀ {x y : V} {us : List Value}, Vals [x, y] us -> ∃ u v, us = [u, v] /\ RelV x u /\ RelV y v
 | _, _, _, .cons r (.cons q .nil) => ⟨_, _, rfl, r, q⟩
theorem Vals.zero : ∀ {us : List Value}, Vals [] us -> us = []
 | _, .nil => rfl
theorem Vals.dropLast {xs : List V} {us : List Value} (h : Vals xs us) : Vals xs.dropLast us.dropLast := by
 induction h with
 | nil => exact .nil
 | cons r t ih =>
  cases t with
  | nil => exact .nil
  | cons q t' => exact .cons r ih
theorem Vals.eraseIdx : ∀ {xs : List V} {us : List Value} (i : Nat), Vals xs us -> Vals (xs.eraseIdx i) (us.eraseIdx i)
 | _, _, _, .nil => .nil
 | _, _, 0, .cons _ t => t
 | _, _, i + 1, .cons r t => .cons r (Vals.eraseIdx i t)
theorem Vals.reverse {xs : List V} {us : List Value} (h : Vals xs us) : Vals xs.reverse us.reverse := by
 induction h with
 | nil => exact .nil
 | cons r t ih => rw [List.reverse_cons, List.reverse_cons]; exact Vals.append ih (.cons r .nil)
theorem Vals.rep {xs : List V} {us : List Value} (h : Vals xs us) : ∀ k : Nat, Vals (List.replicate k xs).flatten (List.replicate k us).flatten
 | 0 => .nil
 | k + 1 => by
  rw [List.replicate_succ, List.replicate_succ, List.flatten_cons, List.flatten_cons]
  exact Vals.append h (Vals.rep h k)
theorem j1s {α : Type} (l : List α) : l.eraseIdx (l.length - 1) = l.dropLast := by
 induction l with
 | nil => rfl
 | cons a r ih =>
  cases r with
  | nil => rfl
  | cons b r =>
   have e : (a :: b :: r).length - 1 = ((b :: r).length - 1) + 1 := by
    have h1 : (a :: b :: r).length = r.length + 2 := rfl
    have h2 : (b :: r).length = r.length + 1 := rfl
    omega
   rw [e, List.eraseIdx_cons_succ, ih]
   all_goals rfl
theorem h5b {α : Type} : ∀ (l : List α) (i : Nat), (l.eraseIdx i).length <= l.length
 | [], _ => Nat.le_refl _
 | _ :: _, 0 => Nat.le_succ _
 | _ :: r, i + 1 => Nat.succ_le_succ (h5b r i)
theorem foldl_rep (its : List Value) : ∀ (k : Nat) (acc : List Value),
  List.foldl (fun x1 x2 => x1 ++ x2) acc.toArray (List.replicate k its.toArray) = (acc ++ (List.replicate k its).flatten).toArray
 | 0, acc => by simp
 | k + 1, acc => by
  have e : acc.toArray ++ its.toArray = (acc ++ its).toArray := by simp
  have e2 : (acc ++ its) ++ (List.replicate k its).flatten = acc ++ (List.replicate (k + 1) its).flatten := by
   rw [List.replicate_succ, List.flatten_cons, List.append_assoc]
  rw [<- e2, <- foldl_rep its k (acc ++ its), <- e, List.replicate_succ, List.foldl_cons]
section
variable {X : Cx} {pins : List (Addr × Obj)} {σ : St} {H : Hp} {s : Shared} {l b : Addr} {xs ys zs : List V}
theorem Inv.l6k {its its' : List Value} {n : Nat} {f : Array Value -> Array Value} {t' : Nat} (I : Inv X pins σ H s) (hH : H l = some (.lst xs))
  (e : s.heap.get? l = some { cls := .type "list", data := .seq its.toArray n }) (hf : f its.toArray = its'.toArray) (hv : Vals ys its') (hz : ys.length ≤ sizeLine) :
  Inv X pins σ (upd H l (.lst ys)) { s with heap := s.heap.update l (Obj.mapSeq f), toks := t' } := by
 have q := PySem.IsL.update e f
 rw [hf] at q
 refine I.write (x := l) (e := l) (by rw [hH]; exact trivial) (.inl rfl) (fun b' u hb hu => (Heap.get?_update_other s.heap (Obj.mapSeq f) (Ne.symm hb)).trans hu) ⟨_, q⟩ ?_
 exact ⟨hz, its', _, hv, q⟩
theorem Inv.l9i {its : List Value} {t' : Nat} (I : Inv X pins σ H s) (hv : Vals ys its) (hz : ys.length <= sizeLine) :
  Inv X pins σ (upd H s.heap.objs.size (.lst ys)) { s with heap := s.heap.push { cls := .type "list", data := .seq its.toArray }, toks := t' } :=
 I.laid (fun _ _ q => Heap.get?_push_of_some _ q) (Nat.le_refl _) ⟨hz, its, 0, hv, Heap.get?_push_size _ rfl⟩
theorem Inv.fresh (I : Inv X pins σ H s) : H s.heap.objs.size = none := I.hok.fresh (Nat.le_refl _)
theorem Inv.k6f (I : Inv X pins σ H s) (hH : H l = some (.lst xs)) : xs.length ≤ sizeLine ∧ ∃ (its : List Value) (n : Nat), Vals xs its ∧ xs.length = its.length ∧ s.heap.get? l = some { cls := .type "list", data := .seq its.toArray n } := by
 obtain ⟨z, its, n, r, e⟩ := I.hok l _ hH
 exact ⟨z, its, n, r, r.length, e⟩
theorem k1m {n : Nat} (h : n <= sizeLine) : Builtin.List.listTooLong n = false := by
 unfold Builtin.List.listTooLong
 exact decide_eq_false (by omega)
end
section
variable {X : Cx}
noncomputable def j7f : V -> List V -> Hp -> VK -> Prop := fun x vs H Q => ∃ l xs y, x = .ref l /\ vs = [y] /\ H l = some (.lst xs) /\ xs.length < sizeLine /\ Q .non (upd H l (.lst (xs ++ [y])))
theorem f0p : MtM X "list.append" j7f := by
 intro pins s σ H x vs v us Q I rx rv h
 obtain ⟨l, xs, y, rfl, rfl, hH, hz, q⟩ := h
 cases rx
 obtain ⟨u, rfl, ru⟩ := rv.one
 obtain ⟨z, its, n, r, hl, e⟩ := I.k6f hH
 refine call_meets F.slot_list_append ⟨_, e, rfl⟩ F.entry_list_append (F.args_list_append_2 _ _) (PySem.list_append l its.toArray n u (by rw [List.size_toArray]; omega)) ⟨e, ?_⟩
 refine ⟨.non, _, I.l6k (its' := its ++ [u]) hH e (by simp) (r.append (.cons ru .nil)) ?_, rfl, q⟩
 rw [List.length_append, List.length_singleton]
 omega
noncomputable def rPop : V -> List V -> Hp -> VK -> Prop := fun x vs H Q => ∃ l xs y, x = .ref l /\ vs = [] /\ H l = some (.lst xs) /\ xs[xs.length - 1]? = some y /\ Q y (upd H l (.lst xs.dropLast))
theorem l1d : MtM X "list.pop" rPop := by
 intro pins s σ H x vs v us Q I rx rv h
 obtain ⟨l, xs, y, rfl, rfl, hH, hy, q⟩ := h
 cases rx
 have hus := rv.zero
 subst hus
 obtain ⟨z, its, n, r, hl, e⟩ := I.k6f hH
 obtain ⟨u, hu, ru⟩ := r.get hy
 have hy' : its.toArray[its.toArray.size - 1]? = some u := by
  show its.toArray[its.length - 1]? = some u
  rw [<- Array.getElem?_toList, <- hl]
  exact hu
 refine call_meets F.slot_list_pop ⟨_, e, rfl⟩ F.entry_list_pop (F.args_list_pop_1 _) (MeetsSeq.list_pop_last l its.toArray n u hy' (by rw [List.size_toArray]; omega)) ⟨e, ?_⟩
 refine ⟨y, _, I.l6k (its' := its.dropLast) hH e ?_ r.dropLast ?_, ru, q⟩
 ·show its.toArray.eraseIdxIfInBounds (its.toArray.size - 1) = its.dropLast.toArray
  rw [List.size_toArray, List.eraseIdxIfInBounds_toArray, j1s]
 ·rw [List.length_dropLast]
  omega
noncomputable def l1e : V -> List V -> Hp -> VK -> Prop := fun x vs H Q => ∃ l xs i k y, x = .ref l /\ vs = [.int i] /\ H l = some (.lst xs) /\ -(2 ^ 63) <= i /\ i < 2 ^ 63 /\ seqIndex? i xs.length = some k /\ xs[k]? = some y /\ Q y (upd H l (.lst (xs.eraseIdx k)))
theorem k1n : MtM X "list.pop" l1e := by
 intro pins s σ H x vs v us Q I rx rv h
 obtain ⟨l, xs, i, k, y, rfl, rfl, hH, h1, h2, hk, hy, q⟩ := h
 cases rx
 obtain ⟨u, rfl, ru⟩ := rv.one
 obtain ⟨t, rfl⟩ := ru
 obtain ⟨z, its, n, r, hl, e⟩ := I.k6f hH
 obtain ⟨w, hw, rw'⟩ := r.get hy
 refine call_meets F.slot_list_pop ⟨_, e, rfl⟩ F.entry_list_pop (F.args_list_pop_2 _ _)
  (MeetsSeq.list_pop_at l its.toArray n i t k w (fitsIndex_both h1 h2) (by rw [List.size_toArray, <- hl]; exact hk) (by rw [<- Array.getElem?_toList]; exact hw) (by rw [List.size_toArray]; omega)) ⟨e, ?_⟩
 refine ⟨y, _, I.l6k (its' := its.eraseIdx k) hH e ?_ (r.eraseIdx k) ?_, rw', q⟩
 ·show its.toArray.eraseIdxIfInBounds k = (its.eraseIdx k).toArray
  rw [List.eraseIdxIfInBounds_toArray]
 ·have := h5b xs k
  omega
noncomputable def rCat : R2 := fun x y H Q => ∃ l b xs zs, x = .ref l /\ y = .ref b /\ H l = some (.lst xs) /\ H b = some (.lst zs) /\ xs.length + zs.length <= sizeLine /\ ∀ p, H p = none -> Q (.ref p) (upd H p (.lst (xs ++ zs)))
theorem l1f : OpR X (binaryOp .Add) rCat := by
 intro pins s σ H x y v u Q I rx ry h
 obtain ⟨l, b, xs, zs, rfl, rfl, hH, hB, hz, q⟩ := h
 cases rx
 cases ry
 obtain ⟨z, its, n, r, hl, e⟩ := I.k6f hH
 obtain ⟨z2, its2, n2, r2, hl2, e2⟩ := I.k6f hB
 refine PySem.P.add_list e e2 ?_ (by rw [List.size_toArray, List.size_toArray]; omega)
 have ea : its.toArray ++ its2.toArray = (its ++ its2).toArray := by simp
 rw [ea]
 exact ⟨.ref _, _, I.l9i (t' := s.toks) (r.append r2) (by rw [List.length_append]; omega), rfl, q _ I.fresh⟩
noncomputable def rRep : R2 := fun x y H Q => ∃ l k xs, x = .ref l /\ y = .int k /\ H l = some (.lst xs) /\ -(2 ^ 63) <= k /\ k < 2 ^ 63 /\ xs.length * k.toNat <= sizeLine /\
 ∀ p, H p = none -> Q (.ref p) (upd H p (.lst (List.replicate k.toNat xs).flatten))
theorem len_rep {α : Type} (xs : List α) (k : Nat) : (List.replicate k xs).flatten.length = k * xs.length := by
 induction k with
 | zero => simp
 | succ k ih => rw [List.replicate_succ, List.flatten_cons, List.length_append, ih, Nat.succ_mul, Nat.add_comm]
theorem l1g : OpR X (binaryOp .Mult) rRep := by
 intro pins s σ H x y v u Q I rx ry h
 obtain ⟨l, k, xs, rfl, rfl, hH, h1, h2, hz, q⟩ := h
 cases rx
 obtain ⟨t, rfl⟩ := ry
 obtain ⟨z, its, n, r, hl, e⟩ := I.k6f hH
 have hlen : its.toArray.size * k.toNat <= sizeLine := by rw [List.size_toArray, <- hl]; exact hz
 have hcap : ¬ its.toArray.size * k.toNat > (2 ^ 63 - 1) / 8 := by
  have : (sizeLine : Nat) <= (2 ^ 63 - 1) / 8 := by decide
  omega
 have hfit : ¬ (!Builtin.List.listFitsIndex k) = true := by
  rw [fitsIndex_both h1 h2]
  exact Bool.false_ne_true
 have l6l : ¬ Builtin.List.listTooLong (its.toArray.size * k.toNat) = true := by
  rw [k1m hlen]
  exact Bool.false_ne_true
 have hnew : List.foldl (fun x1 x2 => x1 ++ x2) #[] (List.replicate (if its.toArray.isEmpty = true then 0 else k.toNat) its.toArray) = (List.replicate k.toNat its).flatten.toArray := by
  have f0 : ∀ m : Nat, List.foldl (fun x1 x2 => x1 ++ x2) #[] (List.replicate m its.toArray) = (List.replicate m its).flatten.toArray := fun m => by
   have := foldl_rep its m []
   rw [List.nil_append] at this
   exact this
  rw [f0]
  cases its with
  | nil => simp
  | cons a r' => rw [if_neg (by simp)]
 refine wpAny_binaryOp_repeat_ref (T := "list") (U := "int") (by decide) ⟨_, e, rfl⟩ (fun s' => typeIs_int s' k t) noFill_list_mul F.fills_int_mul F.slot_int_rmul repeat_list F.slot_int_index.lookup
  (call_meets F.slot_int_rmul (typeIs_int s k t) F.entry_int_rmul (F.args_int_rmul_2 _ _) (int___rmul___int_list k t l its.toArray n)
   ⟨e, rfl, ⟨_, e, rfl⟩, call_meets F.slot_list_mul ⟨_, e, rfl⟩ F.entry_list_mul (F.args_list_mul_2 _ _) (AutoListH.list___mul___list_int_3 l its.toArray n k t hfit hcap l6l) ⟨e, ?_⟩⟩)
 rw [hnew]
 exact ⟨.ref _, _, I.l9i (t' := s.toks) (r.rep k.toNat) (by rw [len_rep, Nat.mul_comm]; exact hz), rfl, q _ I.fresh⟩
end
section
variable {prog : Program} {w : World} {A : Around} {E : Value -> Shared -> Prop} {s : Shared}
end
section
variable {X : Cx}
end
end L2
namespace Att
open PySem PySem.W PySem.Calls PyProof.Rows
theorem g0h {P : Params} {h : Heap} : ∀ (ns : List Int) (vs : List Value), WellAll P h vs (ns.map WData.int) -> IntsAre vs ns := by
 intro ns
 induction ns with
 | nil =>
  intro vs w
  rw [List.map_nil] at w
  cases w
  exact .nil
 | cons n ns ih =>
  intro vs w
  rw [List.map_cons] at w
  cases w with
  | cons a b =>
   cases a
   exact .cons _ _ (ih _ b)
theorem j7g {l : OpenLaw} {n : Nat} (hn : l.most = some n) {P : Params} {h : Heap} {args : List WData} {vals : List Value}
  (hpre : l.row.toRowW.claim.pre args = true) (hwl : WellAll P h vals args) :
  ∃ a vs ns, vals = [Value.ref a] ∧ args = [WData.list (ns.map WData.int)] ∧ h.get? a = some { cls := .type "list", data := .seq vs.toArray } ∧ IntsAre vs ns ∧ ns.length ≤ n := by
 have hsh : WShape.hasAll [] args [.list .int] = true := (pre_splitW hpre).1
 have hc : l.pre.holds [] { args := args } = true := (pre_splitW hpre).2
 obtain ⟨d, r, rfl, h1, h2⟩ := hasAllW_cons hsh
 obtain rfl := hasAllW_nil h2
 obtain ⟨xs, rfl, h3⟩ := hasW_list h1
 obtain ⟨ns, rfl⟩ := items_int h3
 have hlen : ns.length <= n := by
  unfold OpenLaw.pre at hc
  have h4 : (WTm.not (.lt (.lit (.int (n : Int))) (.len (.arg 0)))).holds [] { args := [.list (ns.map .int)] } = true := by
   have h4 := (holds_andW hc).1
   rw [hn] at h4
   exact h4
  have h5 := condW_of h4 (w_not (w_lt w_lit (w_len_list (w_arg rfl))))
  rw [List.length_map] at h5
  refine Nat.le_of_not_lt fun q => ?_
  have q' : (n : Int) < ((ns.length : Nat) : Int) := by omega
  first
   | (rw [decide_eq_true q'] at h5; exact absurd h5 (by decide))
   | (simp at h5; omega)
 cases hwl with
 | cons w1 w2 =>
  cases w2
  cases w1 with
  | list ho hall => exact ⟨_, _, ns, rfl, rfl, ho, g0h ns _ hall, hlen⟩
theorem j7h (l : OpenLaw) (args : List WData) : l.row.toRowW.claim.post args (.bool true) args = true :=
 postW_of (r := l.row.toRowW) (X := (true == true))
  (show WShape.has [] (.bool true) .bool = true by first | rfl | decide | simp [WShape.has, WShape.arms, WShape.armsAll])
  (show (WTm.eq .res (.lit (.bool true))).value [] { args := args, res := some (.bool true), after := args } = some (.bool (true == true)) from w_eq_bool (w_res rfl) w_lit) rfl
section
variable {prog : Program} {w : World} {A : Around} {E : Value -> Shared -> Prop} {s : Shared} {K : Frag}
noncomputable def ledger (h : Heap) (L d : Addr) : List (Addr × Obj) := (List.range h.objs.size).filterMap fun a => if a = L \/ a = d then none else (h.get? a).map fun o => (a, o)
end
end Att
namespace L2
open PySem PySem.Spec PyProof.Rows
theorem h5c : ∀ {vs : List Value} {ns : List Int}, IntsAre vs ns -> Vals (ns.map V.int) vs
 | _, _, .nil => .nil
 | _, _, .cons n t h => .cons ⟨t, rfl⟩ (h5c h)
noncomputable def Only (H : Hp) : Prop := ∀ b, H b = none \/ ∃ o xs, H b = some (.frz o (.lst xs))
theorem k1o {P : Program} {w : World} {K : PySem.W.Frag} {mg mb : Str -> Option Value} {CX : CXT} {k : Nat} {fa a : Addr} {fd : FuncData} {x : Str} {sp : Sp} {s₁ : Shared} {vs : List Value} {ns : List Int}
  (KX : K.In s₁.heap) (hns : s₁.heap.Ns mainGlobals mg) (hb : s₁.heap.Ns builtinsNs mb) (hbb : ∀ x : Str, x ≠ "__name__" → mb x = bootBuiltins x) (hlim : s₁.heap.NoLimit) (hg : s₁.gens = #[])
  (ha : s₁.heap.get? a = some { cls := .type "list", data := .seq vs.toArray }) (hi : IntsAre vs ns) (hl : ns.length ≤ sizeLine) (hr : a2z k callerA)
  (F : ∀ base : Heap, K.In base -> base.Ns mainGlobals mg -> a1n P w K mg base CX k fa fd [x] sp) (hbind : ∀ (s : Shared) (u : Value), BindsTo s fd ⟨[u], []⟩ [(x, u)])
  (hsp : ∀ H : Hp, Only H -> SqL K H a (ns.map V.int) -> sp [.ref a] H (fun v _ => v = .bl true) fun _ _ _ => False)
  (hCX : ∀ H e s', CX [] H s₁ (fun _ _ _ => False) e s' -> False) :
  codeAny (model P w) callerA (.call (.ref fa) ⟨[.ref a], []⟩) (fun r s' => r = .ok (.ret (.bool true)) /\ OldK s₁.heap s'.heap /\ s'.os = s₁.os /\ AllBare s'.gens) s₁ := by
 have rv := h5c hi
 have lenV := hi.length
 -- from an abstract heap in which nothing but the script may be tracked
 have core : ∀ H : Hp, Only H -> SqL K H a (ns.map V.int) -> HOk P w H s₁.heap -> (∀ b, H b ≠ none -> b = a) -> (H a ≠ none -> K.lookup a = none) ->
   codeAny (model P w) callerA (.call (.ref fa) ⟨[.ref a], []⟩) (fun r s' => r = .ok (.ret (.bool true)) /\ OldK s₁.heap s'.heap /\ s'.os = s₁.os /\ AllBare s'.gens) s₁ := by
  intro H hO hS hok hA hK
  have j7i : ∀ {b : Addr} {o : Obj}, s₁.heap.get? b = some o -> H b = none -> (k0w s₁.heap H).get? b = some o := fun e n => k0x e n
  have noA : ∀ {b : Addr} {o : Obj} {es : Array DictEntry} {ep : Nat}, s₁.heap.get? b = some o -> o.data = .dict es ep -> H b = none := fun {b o es ep} e d => by
   cases q : H b with
   | none => rfl
   | some u =>
    have e' : b = a := hA b (by rw [q]; simp)
    subst e'
    rw [ha] at e; cases e
    have d' : Data.seq vs.toArray _ = Data.dict es ep := d
    cases d'
  have nsK : ∀ {b : Addr} {m : Str -> Option Value}, s₁.heap.Ns b m -> (k0w s₁.heap H).Ns b m := fun {b m} ⟨o, es, ep, e, d, r⟩ => ⟨o, es, ep, j7i e (noA e d), d, r⟩
  have hKb : K.In (k0w s₁.heap H) := fun b o e => j7i (KX b o e) (by
   cases q : H b with
   | none => rfl
   | some u =>
    have e' : b = a := hA b (by rw [q]; simp)
    subst e'
    rw [hK (by rw [q]; simp)] at e; cases e)
  have hM : Mod K mg (k0w s₁.heap H) := ⟨hKb, nsK hns, ⟨mb, nsK hb, hbb⟩, let ⟨mc, h1, h2⟩ := hlim; ⟨mc, nsK h1, h2⟩⟩
  have e0 : j7b P w K mg (k0w s₁.heap H) callerA [] s₁ H := ⟨rfl, hM, fun b o e => k5q e, Nat.le_of_eq (j6l _ _), trivial, fun b hb => absurd (show b ∈ ([] : List Addr) from hb) (by simp), hok, .of_eq hg⟩
  refine codeAny_mono ((F _ hKb (nsK hns)).run callerA [] s₁ H ⟨[.ref a], []⟩ [.ref a] [.ref a] _ _ hr e0 (hbind s₁ (.ref a)) (.cons rfl .nil) (hsp H hO hS)) fun r s' h => ?_
  cases r with
  | error e => exact (hCX H e s' h).elim
  | ok fl =>
   cases fl with
   | next => exact False.elim h
   | brk => exact False.elim h
   | cont => exact False.elim h
   | ret u =>
    obtain ⟨v, H', os, bare, un, hok', r', q⟩ := h
    have q' : v = .bl true := q
    subst q'
    obtain rfl : u = Value.bool true := r'
    refine ⟨rfl, OldK.of_keep fun b o e => ?_, os, bare⟩
    cases q : H b with
    | none => exact un.keep b o e q (by intro z; exact absurd (show b ∈ ([] : List Addr) from z) (by simp)) (by simp)
    | some u =>
     rcases hO b with z | ⟨ob, xs, z⟩
     ·rw [q] at z; cases z
     ·have z2 := un.i3o b ob _ z
      obtain ⟨e1, _⟩ := hok b _ z
      obtain ⟨e2, _⟩ := hok' b _ z2
      rw [e] at e1; cases e1
      exact e2
 cases hk : K.lookup a with
 | some o =>
  -- the script is one of the module's own objects
  have e := KX a o hk
  rw [ha] at e
  cases e
  refine core (fun _ => none) (fun _ => .inl rfl) (.inr ⟨_, vs.toArray, _, hk, rfl, rfl, rfl, by rw [List.size_toArray, lenV]; exact hl, by simpa using rv⟩) (fun b u z => by have z' : (none : Option HO) = some u := z; cases z') (fun b z => absurd rfl z) fun z => absurd rfl z
 | none =>
  refine core (fun b => if b = a then some (.frz { cls := .type "list", data := .seq vs.toArray } (.lst (ns.map V.int))) else none) (fun b => ?_) (.inl (.inr ⟨{ cls := .type "list", data := .seq vs.toArray }, if_pos rfl⟩)) (fun b u z => ?_) (fun b z => ?_) fun _ => hk
  ·by_cases hb : b = a
   ·exact .inr ⟨_, _, if_pos hb⟩
   ·exact .inl (if_neg hb)
  ·by_cases hb : b = a
   ·have z' := (if_pos hb).symm.trans z
    cases z'
    subst hb
    exact ⟨ha, by rw [List.length_map]; exact hl, vs, _, rv, ha⟩
   ·have z' := (if_neg hb).symm.trans z
    cases z'
  ·by_cases hb : b = a
   ·exact hb
   ·exact absurd (if_neg hb) z
end L2
namespace L2
open PySem PySem.Spec PyProof.Rows
end L2
/- THE LAST THEOREM (shape; LID, My.* are yours):
  My.Adr: a structure of the addresses that your layer names (classes, functions); My.Txt K t: a structure (Prop) of the equations over K;
  My.txt_mk : {K} {implicit addresses ..} (e1 : nsIn K mainGlobals "law" = some (some (.ref f))) (e2 : K.lookup f = some ⟨oc, od, .func (fnOf "law" "law" params body scope dV kV doc pm an cdv ct), sl⟩) (e3 : codeIn K cdv "law" = true) .. : ∃ t, My.Txt K t
(the tactic k_is has no namespace: write k_is) -/
namespace L2
open PySem PySem.Spec PyProof.Rows
noncomputable def inClass (s : Stmt) (j : Nat) : Stmt := match s with
 | .ClassDef _ _ _ body _ _ _ _ _ _ _ => body.getD j (.Pass ⟨0, 0, 0, 0⟩)
 | _ => .Pass ⟨0, 0, 0, 0⟩
noncomputable def a0r (s : Stmt) : Arguments := match s with
 | .FunctionDef _ a _ _ _ _ _ _ _ _ => a
 | _ => { posonlyargs := [], args := [], vararg := none, kwonlyargs := [], kw_defaults := [], kwarg := none, defaults := [] }
noncomputable def a0q (s : Stmt) : List Stmt := match s with
 | .FunctionDef _ _ b _ _ _ _ _ _ _ => b
 | _ => []
noncomputable def a0h (s : Stmt) : Scope := match s with
 | .FunctionDef _ _ _ _ _ _ sc _ _ _ => sc
 | _ => { kind := .function, names := [], isGenerator := false, isCoroutine := false }
noncomputable abbrev CX0 : CXT := fun _ _ _ _ _ _ => False
noncomputable abbrev E0 : XK := fun _ _ _ => False
theorem a1g {X : Cx} : Passes CX0 X E0 := fun _ _ _ _ _ _ _ h => h.elim
structure Fun (K : PySem.W.Frag) (x qual : Str) (st : Stmt) (f : Addr) (fd : FuncData) : Prop where
 ex : ∃ (oc : Value) (od : Option Addr) (kV doc pm : Value) (an : Option Addr) (cdv ct : Value) (osl : Array (Option Value)),
  fd = PySem.W.fnOf x qual (a0r st) (a0q st) (a0h st) .none kV doc pm an cdv ct /\ K.lookup f = some ⟨oc, od, .func fd, osl⟩ /\ PySem.W.codeIn K cdv qual = true
 kp : PySem.W.keepIn K (.ref f) = true
section
variable {P : Program} {w : World} {K : PySem.W.Frag} {mg : Str -> Option Value} {base : Heap}
theorem Fun.ok {x qual : Str} {st : Stmt} {f : Addr} {fd : FuncData} {N ps : List Str} {k : Nat} {sp : Sp} (F : Fun K x qual st f fd) (S : a0s N ps (a0h st)) (len : ∀ vs H Q E, sp vs H Q E -> vs.length = ps.length)
  (hbody : ∀ (cdv : Value) (A : Around) (outer : List Env) (s : Shared) (H : Hp) (vs : List V) (Q : VK) (E : XK), a2z k (A.deeper (envOfC qual (a0h st) s.heap.objs.size f cdv)) -> sp vs H Q E ->
   ∃ t, PSs (k6a CX0 P w K mg base N qual (a0h st) f cdv A outer s H E).nox (a0q st) t /\ t { nx := fun _ H' => Q .non H', rt := Q } (start N vs) H) : a1n P w K mg base CX0 (k + 1) f fd ps sp := by
 obtain ⟨oc, od, kV, doc, pm, an, cdv, ct, osl, rfl, lk, hcd⟩ := F.ex
 refine l6j lk hcd S len fun A outer s H vs Q E hr hsp => ?_
 obtain ⟨t, h, q⟩ := hbody cdv A outer s H vs Q E hr hsp
 exact ⟨t, h.nox, q⟩
theorem Fun.binds {x qual : Str} {st : Stmt} {f : Addr} {fd : FuncData} {ps : List Str} (F : Fun K x qual st f fd)
  (h : ∀ (kV doc pm : Value) (an : Option Addr) (cdv ct : Value) (us : List Value), us.length = ps.length -> bindArgs (PySem.W.fnOf x qual (a0r st) (a0q st) (a0h st) .none kV doc pm an cdv ct) ⟨us, []⟩ = pure (ps.zip us)) : Binds K fd ps [] := by
 obtain ⟨oc, od, kV, doc, pm, an, cdv, ct, osl, rfl, lk, hcd⟩ := F.ex
 exact .all (h kV doc pm an cdv ct)
theorem a1k {x qual : Str} {st : Stmt} {f : Addr} {oc : Value} {od an : Option Addr} {osl : Array (Option Value)} {kV doc pm cdv ct : Value} (l : K.lookup f = some ⟨oc, od, .func (PySem.W.fnOf x qual (a0r st) (a0q st) (a0h st) .none kV doc pm an cdv ct), osl⟩)
  (c : PySem.W.codeIn K cdv qual = true) (k : PySem.W.keepIn K (.ref f) = true) : Fun K x qual st f (PySem.W.fnOf x qual (a0r st) (a0q st) (a0h st) .none kV doc pm an cdv ct) := ⟨⟨oc, od, kV, doc, pm, an, cdv, ct, osl, rfl, l, c⟩, k⟩
end
section
variable {X : Cx}
end
noncomputable def Same (H H' : Hp) : Prop := ∀ b o, H b = some o -> H' b = some o
theorem Same.refl (H : Hp) : Same H H := fun _ _ h => h
theorem Same.trans {H H1 H2 : Hp} (a : Same H H1) (b : Same H1 H2) : Same H H2 := fun c o h => b c o (a c o h)
theorem Same.free {H H' : Hp} (e : Same H H') {l : Addr} (h : H' l = Option.none) : H l = Option.none := by
 cases q : H l with
 | none => rfl
 | some o =>
  rw [e l o q] at h
  cases h
theorem Same.seq {K : PySem.W.Frag} {H H' : Hp} {a : Addr} {xs : List V} (e : Same H H') (h : SqL K H a xs) : SqL K H' a xs := by
 rcases h with (h | ⟨o, h⟩) | h
 ·exact .inl (.inl (e _ _ h))
 ·exact .inl (.inr ⟨o, e _ _ h⟩)
 ·exact .inr h
end L2
namespace L2
open PySem PySem.Spec PyProof.Rows
section
variable {κ : Type} [DecidableEq κ]
noncomputable def f9r (kvs : List (κ × V)) (k : κ) : Option V := (kvs.find? fun kv => decide (kv.1 = k)).map (·.2)
noncomputable def putK (kvs : List (κ × V)) (k : κ) (v : V) : List (κ × V) :=
 if (kvs.any fun kv => decide (kv.1 = k)) = true then kvs.map (fun kv => if kv.1 = k then (kv.1, v) else kv) else kvs ++ [(k, v)]
noncomputable def l1h (kvs : List (κ × V)) (k : κ) : List (κ × V) := kvs.filter fun kv => decide (kv.1 ≠ k)
theorem f9s {p : κ × V} {r : List (κ × V)} {k : κ} (e : p.1 = k) : f9r (p :: r) k = some p.2 := by simp [f9r, List.find?_cons, e]
theorem f0q {p : κ × V} {r : List (κ × V)} {k : κ} (e : ¬ p.1 = k) : f9r (p :: r) k = f9r r k := by simp [f9r, List.find?_cons, e]
theorem g9h (k : κ) : ∀ kvs : List (κ × V), (kvs.any fun kv => decide (kv.1 = k)) = (f9r kvs k).isSome
 | [] => rfl
 | p :: r => by
  rw [List.any_cons]
  by_cases e : p.1 = k
  ·simp only [f9s e, decide_eq_true e, Bool.true_or, Option.isSome_some]
  ·rw [f0q e, decide_eq_false e, Bool.false_or]; exact g9h k r
theorem d4t (kvs : List (κ × V)) (k : κ) (v : V) : (putK kvs k v).length <= kvs.length + 1 := by
 unfold putK
 split
 ·rw [List.length_map]; omega
 ·rw [List.length_append, List.length_cons, List.length_nil]; omega
theorem k1p {kvs : List (κ × V)} {k : κ} (v : V) (h : f9r kvs k = none) : putK kvs k v = kvs ++ [(k, v)] := by
 unfold putK
 rw [g9h, h]
 exact if_neg (by decide)
theorem h4k.g0i {o : Option V} {u : Option Value} (r : h4k o u) : o.isSome = u.isSome := by
 cases o with
 | none => cases u with
  | none => rfl
  | some _ => exact (show False from r).elim
 | some _ => cases u with
  | none => exact (show False from r).elim
  | some _ => rfl
theorem h4k.getD {o : Option V} {u : Option Value} {d : V} {d' : Value} (r : h4k o u) (rd : RelV d d') : RelV (o.getD d) (u.getD d') := by
 cases o with
 | none => cases u with
  | none => exact rd
  | some _ => exact (show False from r).elim
 | some _ => cases u with
  | none => exact (show False from r).elim
  | some _ => exact r
theorem KV.val {kvs : List (κ × V)} {vs : List (κ × Value)} (r : KV kvs vs) (k : κ) : h4k (f9r kvs k) (valueAt vs k) := by
 unfold KV at r
 induction r with
 | nil => exact True.intro
 | @cons p q ps qs h t ih =>
  obtain ⟨h1, h2⟩ := h
  by_cases e : p.1 = k
  ·have e' : q.1 = k := h1.symm.trans e
   have b : valueAt (q :: qs) k = some q.2 := by simp [valueAt, List.find?_cons, e']
   rw [f9s e, b]; exact h2
  ·have e' : ¬ q.1 = k := fun z => e (h1.trans z)
   have b : valueAt (q :: qs) k = valueAt qs k := by simp [valueAt, List.find?_cons, e']
   rw [f0q e, b]; exact ih
theorem KV.any {kvs : List (κ × V)} {vs : List (κ × Value)} (r : KV kvs vs) (k : κ) : (kvs.any fun kv => decide (kv.1 = k)) = vs.any fun kv => decide (kv.1 = k) := by
 unfold KV at r
 induction r with
 | nil => rfl
 | cons h t ih => rw [List.any_cons, List.any_cons, ih, h.1]
theorem KV.repl {kvs : List (κ × V)} {vs : List (κ × Value)} (r : KV kvs vs) (k : κ) {y : V} {u : Value} (ry : RelV y u) :
  KV (kvs.map fun kv => if kv.1 = k then (kv.1, y) else kv) (vs.map fun kv => if kv.1 = k then (kv.1, u) else kv) := by
 unfold KV at r ⊢
 induction r with
 | nil => exact .nil
 | @cons p q ps qs h t ih =>
  rw [List.map_cons, List.map_cons]
  refine .cons ?_ ih
  obtain ⟨h1, h2⟩ := h
  by_cases e : p.1 = k
  ·rw [if_pos e, if_pos (h1.symm.trans e)]; exact ⟨h1, ry⟩
  ·rw [if_neg e, if_neg (fun z => e (h1.trans z))]; exact ⟨h1, h2⟩
theorem KV.put {kvs : List (κ × V)} {vs : List (κ × Value)} (r : KV kvs vs) (k : κ) {y : V} {u : Value} (ry : RelV y u) : KV (putK kvs k y) (stored vs k u) := by
 unfold putK stored
 rw [r.any k]
 by_cases e : (vs.any fun kv => decide (kv.1 = k)) = true
 ·rw [if_pos e, if_pos e]; exact r.repl k ry
 ·rw [if_neg e, if_neg e]; exact Paired.snoc r ⟨rfl, ry⟩
theorem KV.drop {kvs : List (κ × V)} {vs : List (κ × Value)} (r : KV kvs vs) (k : κ) : KV (l1h kvs k) (without vs k) := by
 unfold KV at r ⊢
 unfold l1h without
 induction r with
 | nil => exact .nil
 | @cons p q ps qs h t ih =>
  obtain ⟨h1, h2⟩ := h
  rw [List.filter_cons, List.filter_cons]
  by_cases e : p.1 = k
  ·have a : ¬ decide (p.1 ≠ k) = true := by simp [e]
   have b : ¬ decide (q.1 ≠ k) = true := by simp [h1.symm.trans e]
   rw [if_neg a, if_neg b]; exact ih
  ·have e' : ¬ q.1 = k := fun z => e (h1.trans z)
   have a : decide (p.1 ≠ k) = true := by simp [e]
   have b : decide (q.1 ≠ k) = true := by simp [e']
   rw [if_pos a, if_pos b]; exact .cons ⟨h1, h2⟩ ih
theorem KV.keys {kvs : List (κ × V)} {vs : List (κ × Value)} (r : KV kvs vs) : kvs.map (·.1) = vs.map (·.1) := by
 unfold KV at r
 induction r with
 | nil => rfl
 | cons h t ih => rw [List.map_cons, List.map_cons, ih, h.1]
theorem KV.length {kvs : List (κ × V)} {vs : List (κ × Value)} (r : KV kvs vs) : kvs.length = vs.length := Paired.length r
end
theorem j7j {P : Program} {w : World} {k : Key} {u : Value} (r : RelV (kV k) u) : (b0o P w).is k u = true := by
 cases k with
 | inl i => obtain ⟨t, e⟩ := (show ∃ t, u = Value.int i t from r); subst e; exact i3q P w i t
 | inr x => obtain ⟨t, e⟩ := (show ∃ t, u = Value.str x t from r); subst e; exact i3r P w x t
theorem h5d {P : Program} {w : World} : ∀ {ks : List Key} {us : List Value}, Vals (ks.map kV) us -> ItemsAre (b0o P w) ks us
 | [], _, r => by rw [List.map_nil] at r; cases r; exact .nil
 | k :: ks, _, r => by
  rw [List.map_cons] at r
  cases r with
  | cons h t => exact .cons (j7j h) (h5d t)
noncomputable abbrev KT (H : Hp) : List (List Key × V) -> List (List Key × Addr × Value) -> Prop := Paired fun p q => p.1 = q.1 /\ H q.2.1 = some (.tup (p.1.map kV)) /\ RelV p.2 q.2.2
theorem KT.val {H : Hp} {kvs : List (List Key × V)} {xs : List (List Key × Addr × Value)} (r : KT H kvs xs) (k : List Key) : h4k (f9r kvs k) ((atKey xs k).map (·.2)) := by
 induction r with
 | nil => exact True.intro
 | @cons p q ps qs h t ih =>
  obtain ⟨h1, _, h2⟩ := h
  by_cases e : p.1 = k
  ·have e' : q.1 = k := h1.symm.trans e
   have b : atKey (q :: qs) k = some q.2 := by simp [atKey, List.find?_cons, e']
   rw [f9s e, b]; exact h2
  ·have e' : ¬ q.1 = k := fun z => e (h1.trans z)
   have b : atKey (q :: qs) k = atKey qs k := by simp [atKey, List.find?_cons, e']
   rw [f0q e, b]; exact ih
theorem KT.repl {H : Hp} {kvs : List (List Key × V)} {xs : List (List Key × Addr × Value)} (r : KT H kvs xs) (k : List Key) {y : V} {u : Value} (ry : RelV y u) :
  KT H (kvs.map fun kv => if kv.1 = k then (kv.1, y) else kv) (xs.map (putAt k u)) := by
 induction r with
 | nil => exact .nil
 | @cons p q ps qs h t ih =>
  rw [List.map_cons, List.map_cons]
  refine .cons ?_ ih
  obtain ⟨h1, h2, h3⟩ := h
  unfold putAt
  by_cases e : p.1 = k
  ·rw [if_pos e, if_pos (h1.symm.trans e)]; exact ⟨h1, h2, ry⟩
  ·rw [if_neg e, if_neg (fun z => e (h1.trans z))]; exact ⟨h1, h2, h3⟩
theorem KT.put {H : Hp} {kvs : List (List Key × V)} {xs : List (List Key × Addr × Value)} (r : KT H kvs xs) (k : List Key) {b : Addr} {y : V} {u : Value} (hb : H b = some (.tup (k.map kV))) (ry : RelV y u) :
  KT H (putK kvs k y) (storedH xs k b u) := by
 have e : (kvs.any fun kv => decide (kv.1 = k)) = (atKey xs k).isSome := by
  rw [g9h, (r.val k).g0i, Option.isSome_map]
 unfold putK storedH
 rw [e]
 by_cases q : (atKey xs k).isSome = true
 ·rw [if_pos q, if_pos q]; exact r.repl k ry
 ·rw [if_neg q, if_neg q]; exact Paired.snoc r ⟨rfl, hb, ry⟩
theorem KT.keeps {H H' : Hp} {kvs : List (List Key × V)} {xs : List (List Key × Addr × Value)} (r : KT H kvs xs) (ht : ∀ b ys, H b = some (.tup ys) -> H' b = some (.tup ys)) : KT H' kvs xs :=
 Paired.l5w r fun _ _ z => ⟨z.1, ht _ _ z.2.1, z.2.2⟩
section
variable {P : Program} {w : World} {H : Hp} {h : Heap} {a : Addr}
theorem l1i {u : HO} (ok : HOk P w H h) (e : Rd H a u) : b1z P w H h a u := e.ok ok
theorem k1q {kvs : List (Key × V)} (ok : HOk P w H h) (e : Rd H a (.dK kvs)) : kvs.length <= sizeLine /\ (a == sysModules) = false /\ ∃ vs, KV kvs vs /\ h.DictOf (b0o P w) a vs :=
 show b1z P w H h a (.dK kvs) from l1i ok e
theorem l1j {kvs : List (Key × V)} (ok : HOk P w H h) (e : H a = some (.dK kvs)) : kvs.length <= sizeLine /\ (a == sysModules) = false /\ ∃ vs, KV kvs vs /\ h.DictOf (b0o P w) a vs := k1q ok (.inl e)
theorem j0k {ks : List Key} (ok : HOk P w H h) (e : H a = some (.tup (ks.map kV))) : (tupleKind (b0o P w)).is h ks a := by
 obtain ⟨_, its, r, o, h1, h2, n, h3⟩ := (show b1z P w H h a (.tup (ks.map kV)) from ok a _ e)
 exact ⟨o, its.toArray, n, h1, h2, h3, by simpa using h5d r⟩
theorem k1r {kvs : List (List Key × V)} (ok : HOk P w H h) (e : Rd H a (.dT kvs)) : kvs.length <= sizeLine /\ (a == sysModules) = false /\
  ∃ xs, KT H kvs xs /\ h.DictOfH (tupleKind (b0o P w)) a xs := by
 obtain ⟨z, y, xs, r, o, es, ep, h1, h2, h3, h4, h5⟩ := (show b1z P w H h a (.dT kvs) from l1i ok e)
 refine ⟨z, y, xs, r, o, es, ep, h1, h2, h3, h4, fun x hx => ?_, h5⟩
 have all : ∀ {l : List (List Key × V)} {m : List (List Key × Addr × Value)}, KT H l m -> ∀ x ∈ m, (tupleKind (b0o P w)).is h x.1 x.2.1 := by
  intro l m q
  induction q with
  | nil => intro x hx; exact nomatch hx
  | @cons p q ps qs hq t ih =>
   intro x hx
   rcases List.mem_cons.mp hx with e | hx
   ·subst e
    exact j0k ok (by rw [<- hq.1]; exact hq.2.1)
   ·exact ih x hx
 exact all r x hx
theorem l6m {kvs : List (List Key × V)} (ok : HOk P w H h) (e : H a = some (.dT kvs)) : kvs.length <= sizeLine /\ (a == sysModules) = false /\
  ∃ xs, KT H kvs xs /\ h.DictOfH (tupleKind (b0o P w)) a xs := k1r ok (.inl e)
end
noncomputable def j7k (H : Hp) (a : Addr) (y : V) (r : Option V) : Prop :=
 (∃ kvs k, Rd H a (.dK kvs) /\ y = kV k /\ r = f9r kvs k) \/ ∃ kvs k b, Rd H a (.dT kvs) /\ y = .ref b /\ H b = some (.tup (k.map kV)) /\ r = f9r kvs k
noncomputable def k9p (H : Hp) (a : Addr) (y v : V) (H' : Hp) : Prop :=
 (∃ kvs k, H a = some (.dK kvs) /\ y = kV k /\ kvs.length < sizeLine /\ H' = upd H a (.dK (putK kvs k v))) \/
 ∃ kvs k b, H a = some (.dT kvs) /\ y = .ref b /\ H b = some (.tup (k.map kV)) /\ kvs.length < sizeLine /\ H' = upd H a (.dT (putK kvs k v))
theorem j7k.k {H : Hp} {a : Addr} {kvs : List (Key × V)} {k : Key} (e : H a = some (.dK kvs)) : j7k H a (kV k) (f9r kvs k) := .inl ⟨kvs, k, .inl e, rfl, rfl⟩
theorem j7k.t {H : Hp} {a b : Addr} {kvs : List (List Key × V)} {k : List Key} (e : H a = some (.dT kvs)) (eb : H b = some (.tup (k.map kV))) : j7k H a (.ref b) (f9r kvs k) := .inr ⟨kvs, k, b, .inl e, rfl, eb, rfl⟩
theorem k9p.k {H : Hp} {a : Addr} {kvs : List (Key × V)} {k : Key} {v : V} (e : H a = some (.dK kvs)) (hl : kvs.length < sizeLine) : k9p H a (kV k) v (upd H a (.dK (putK kvs k v))) := .inl ⟨kvs, k, e, rfl, hl, rfl⟩
theorem k9p.t {H : Hp} {a b : Addr} {kvs : List (List Key × V)} {k : List Key} {v : V} (e : H a = some (.dT kvs)) (eb : H b = some (.tup (k.map kV))) (hl : kvs.length < sizeLine) :
  k9p H a (.ref b) v (upd H a (.dT (putK kvs k v))) := .inr ⟨kvs, k, b, e, rfl, eb, hl, rfl⟩
section
variable {X : Cx} {pins : List (Addr × Obj)} {σ : St} {H : Hp} {s : Shared} {a : Addr} {y v : V} {u r : Value} {o : Option V} {A : Around} {E : Value -> Shared -> Prop}
theorem Inv.big (I : Inv X pins σ H s) : sysModules < s.heap.objs.size := by
 have h : mainGlobals < s.heap.objs.size := (I.mod.glob.keeps I.bk).lt
 exact Nat.lt_trans (by decide) h
theorem j7l {Q : Value -> Shared -> Prop} (hu : A.units + 1 < cLine) (I : Inv X pins σ H s) (g : j7k H a y (some v)) (ry : RelV y u) (h : ∀ w' s', Inv X pins σ H s' -> RelV v w' -> Q w' s') :
  wpAny (model X.prog X.w) A (getItem (.ref a) u) Q E s := by
 rcases g with ⟨kvs, k, e, ey, l⟩ | ⟨kvs, k, b, e, ey, eb, l⟩
 ·subst ey
  obtain ⟨z, hd, vs, rel, dd⟩ := k1q I.hok e
  obtain ⟨w', hw, rw'⟩ := h4k.some_of (v := v) (o := valueAt vs k) (by rw [l]; exact rel.val k)
  exact wpAny_getItem_of (j7j ry) dd.mapOf hw (h w' _ (I.tok _) rw')
 ·subst ey
  cases (show u = Value.ref b from ry)
  obtain ⟨z, hd, xs, rel, dd⟩ := k1r I.hok e
  obtain ⟨w', hw, rw'⟩ := h4k.some_of (v := v) (o := (atKey xs k).map (·.2)) (by rw [l]; exact rel.val k)
  obtain ⟨p, hp, hp2⟩ := Option.map_eq_some_iff.mp hw
  refine wpAny_getItem_heap (tupleKind_room_in1 hu) (j0k I.hok eb) dd hp ?_
  rw [hp2]
  exact h w' _ (I.tok _) rw'
theorem k6g {Q : Value -> Shared -> Prop} (hu : A.units + 1 < cLine) (I : Inv X pins σ H s) (g : j7k H a y o) (ry : RelV y u) (h : ∀ s', Inv X pins σ H s' -> Q (.bool (!o.isSome)) s') :
  wpAny (model X.prog X.w) A (compareOp .NotIn u (.ref a)) Q E s := by
 rcases g with ⟨kvs, k, e, ey, l⟩ | ⟨kvs, k, b, e, ey, eb, l⟩
 ·subst ey
  obtain ⟨z, hd, vs, rel, dd⟩ := k1q I.hok e
  refine wpAny_notIn_of (j7j ry) hd dd.mapOf ?_
  rw [<- (rel.val k).g0i, <- l]
  exact h _ (I.tok _)
 ·subst ey
  cases (show u = Value.ref b from ry)
  obtain ⟨z, hd, xs, rel, dd⟩ := k1r I.hok e
  refine wpAny_notIn_heap (tupleKind_room_in1 hu) (j0k I.hok eb) hd dd ?_
  have q := (rel.val k).g0i
  rw [Option.isSome_map] at q
  rw [<- q, <- l]
  exact h _ (I.tok _)
theorem i3w {h' : Heap} {t' : Nat} {ob : HO} (I : Inv X pins σ H s) (mu : Mut (H a)) (hs : Heap.SameBut a s.heap h') (he : ∃ q, h'.get? a = some q) (new : b1z X.prog X.w (upd H a ob) h' a ob) :
  Inv X pins σ (upd H a ob) { s with heap := h', toks := t' } :=
 I.write (x := a) (e := a) mu (.inl rfl) (fun b q hb z => (hs.2 b hb).trans z) he new
theorem k4g {P : Program} {w : World} {H' : Hp} {h' : Heap} {kvs : List (Key × V)} {vs : List (Key × Value)} (z : kvs.length <= sizeLine) (hd : (a == sysModules) = false) (rel : KV kvs vs) (dd : h'.DictOf (b0o P w) a vs) :
  b1z P w H' h' a (.dK kvs) := ⟨z, hd, vs, rel, dd⟩
theorem j7m {H' : Hp} {Q : Unit -> Shared -> Prop} (hu : A.units + 1 < cLine) (I : Inv X pins σ H s) (g : k9p H a y v H') (ry : RelV y u) (rv : RelV v r) (h : ∀ s', Inv X pins σ H' s' -> Q () s') :
  wpAny (model X.prog X.w) A (setItem (.ref a) u r) Q E s := by
 rcases g with ⟨kvs, k, e, ey, l, eH⟩ | ⟨kvs, k, b, e, ey, eb, l, eH⟩
 ·subst ey eH
  obtain ⟨z, hd, vs, rel, dd⟩ := l1j I.hok e
  have hz : vs.length <= sizeLine := by rw [<- rel.length]; exact z
  have hl : (putK kvs k v).length <= sizeLine := by have := d4t kvs k v; omega
  refine wpAny_setItem_pairs (hsz := hz) (j7j ry) dd fun h' dd' hs => h _ ?_
  have he : ∃ q, h'.get? a = some q := let ⟨q, _, _, hq, _⟩ := dd'; ⟨q, hq⟩
  exact i3w I (by rw [e]; exact True.intro) hs he (k4g hl hd (rel.put k rv) dd')
 ·subst ey eH
  cases (show u = Value.ref b from ry)
  obtain ⟨z, hd, xs, rel, dd⟩ := l6m I.hok e
  have hz : xs.length <= sizeLine := by rw [<- Paired.length rel]; exact z
  have hl : (putK kvs k v).length <= sizeLine := by have := d4t kvs k v; omega
  refine wpAny_setItem_heap (hsz := hz) (tupleKind_room_in1 hu) (j0k I.hok eb) dd fun h' dd' hs => h _ ?_
  obtain ⟨q, es, ep, hq, h2, h3, h4, _, h5⟩ := dd'
  refine i3w I (by rw [e]; exact True.intro) hs ⟨q, hq⟩ ⟨hl, hd, _, (rel.put k eb rv).keeps fun c ys ec => ?_, q, es, ep, hq, h2, h3, h4, h5⟩
  rw [a3u (l5v ec e (fun z => nomatch z))]
  exact ec
end
section
variable {X : Cx} {pins : List (Addr × Obj)} {σ : St} {H : Hp} {s : Shared} {a : Addr} {kvs : List (Key × V)} {k : Key} {u : Value} {A : Around} {E : Value -> Shared -> Prop}
end
noncomputable def l9j (i : Expr) : Prop := ∀ ov iv, subscripted i false ov iv = operate [ov, iv] (getItem ov iv)
theorem k6h {prog : Program} {w : World} {A : Around} {E : Value -> Shared -> Prop} {s : Shared} {env : Env} {value slice : Expr} {pos : Pos} {T id : String} {Q : Value -> Shared -> Prop}
  (hl : typeLookup (.type T) "__getitem__" = pure (some (.builtin id))) (hs : l9j slice)
  (h : wpAny (model prog w) A (eval value env) (fun o s₁ => wpAny (model prog w) A (eval slice env) (fun i s₂ => s₂.TypeIs o T /\ wpAny (model prog w) A (getItem o i) Q E s₂) E s₁) E s) :
  wpAny (model prog w) A (eval (.Subscript value slice pos) env) Q E s := by
 refine Subscript_ (wpAny_mono h (fun o s₁ h₁ => wpAny_mono h₁ (fun i s₂ h₂ => ?_) fun _ _ x => x) fun _ _ x => x)
 obtain ⟨hT, h₂⟩ := h₂
 unfold subscriptTail
 refine wpAny_bind ?_
 rw [getitemInPython_of_ne hT.not_modules]
 refine wpAny_bind (wpAny_specialOf hT hl ?_)
 have fin : wpAny (model prog w) A (subscripted slice false o i) (fun r s₃ => wpAny (model prog w) A (letTemporaryGo value o r >>= fun _ => pure r) Q E s₃) E s₂ := by
  rw [hs o i]
  exact wpAny_operating (wpAny_mono h₂ (fun r s₃ h₃ => wpAny_bind (wpAny_letTemporaryGo (wpAny_pure h₃))) fun _ _ x => x)
 first
  | exact wpAny_pure (wpAny_bind fin)
  | exact wpAny_bind (wpAny_pure (wpAny_bind fin))
  | exact wpAny_bind fin
theorem i3x {X : Cx} {pins : List (Addr × Obj)} {σ : St} {H : Hp} {s : Shared} {a : Addr} {y : V} {o : Option V} (I : Inv X pins σ H s) (g : j7k H a y o) : s.TypeIs (.ref a) "dict" := by
 rcases g with ⟨kvs, k, e, _, _⟩ | ⟨kvs, k, b, e, _, _, _⟩
 ·obtain ⟨_, _, vs, _, dd⟩ := k1q I.hok e
  exact dd.typeIs
 ·obtain ⟨_, _, xs, _, dd⟩ := k1r I.hok e
  exact dd.typeIs
section
variable {X : Cx} {o i e value : Expr} {pos pos' tpos : Pos} {td ty tv : TE}
end
theorem k1s {P : Program} {w : World} {H : Hp} (h : Heap) (hb : sysModules < h.objs.size) : b1z P w H (h.push { cls := .type "dict", data := .dict #[] }) h.objs.size (.dK []) :=
 ⟨Nat.zero_le _, beq_eq_false_iff_ne.mpr (Ne.symm (Nat.ne_of_lt hb)), [], .nil, Heap.DictOf.new h⟩
section
variable {X : Cx} {pos : Pos}
end
noncomputable def k4h : List (TE × TE) -> St -> Hp -> (List (V × V) -> Hp -> Prop) -> Prop
 | [], _, H, Q => Q [] H
 | (tk, tv) :: r, σ, H, Q => tk σ H fun x H1 => tv σ H1 fun y H2 => k4h r σ H2 fun ps H3 => Q ((x, y) :: ps) H3
noncomputable abbrev VV : List (V × V) -> List (Value × Value) -> Prop := Paired fun p q => RelV p.1 q.1 /\ RelV p.2 q.2
noncomputable def PPs (X : Cx) (pos : Pos) (keys : List (Option Expr)) (values : List Expr) (trs : List (TE × TE)) : Prop :=
 ∀ (pins : List (Addr × Obj)) (s : Shared) (σ : St) (H : Hp) (Q : List (V × V) -> Hp -> Prop), Inv X pins σ H s -> k4h trs σ H Q ->
  wpAny (model X.prog X.w) X.A (evalPairs (pairTrees keys values X.env pos)) (fun vs s' => ∃ ps H', Inv X pins σ H' s' /\ VV ps vs /\ Q ps H') X.xe s
theorem k6i {X : Cx} {pos : Pos} : PPs X pos [] [] [] := fun pins s σ H Q I h => pairTrees_nil_walk ⟨[], H, I, .nil, h⟩
theorem k1t {X : Cx} {pos : Pos} {k v : Expr} {ks : List (Option Expr)} {vs : List Expr} {tk tv : TE} {trs : List (TE × TE)} (hk : PE X k tk) (hv : PE X v tv) (hr : PPs X pos ks vs trs) :
  PPs X pos (some k :: ks) (v :: vs) ((tk, tv) :: trs) := fun pins s σ H Q I h =>
 pairTrees_cons_walk (thn (hk pins s σ H _ I h) fun u s1 ⟨x, H1, I1, rx, q1⟩ => thn (hv pins s1 σ H1 _ I1 q1) fun w2 s2 ⟨y, H2, I2, ry, q2⟩ =>
  thn (hr pins s2 σ H2 _ I2 q2) fun ws s3 ⟨ps, H3, I3, rel, q3⟩ => ⟨(x, y) :: ps, H3, I3, .cons ⟨rx, ry⟩ rel, q3⟩)
noncomputable def j0l (kvs more : List (Key × V)) : List (Key × V) := more.foldl (fun acc kv => putK acc kv.1 kv.2) kvs
theorem KV.merge : ∀ {more : List (Key × V)} {rs : List (Key × Value)} {kvs : List (Key × V)} {vs : List (Key × Value)}, KV more rs -> KV kvs vs -> KV (j0l kvs more) (merged vs rs) := by
 intro more rs kvs vs r
 unfold KV at r
 induction r generalizing kvs vs with
 | nil => intro q; exact q
 | @cons p q ps qs h t ih =>
  intro r0
  have e : KV (putK kvs p.1 p.2) (stored vs q.1 q.2) := by
   have := r0.put p.1 h.2
   rw [<- h.1]; exact this
  exact ih e
theorem f0r : ∀ (more kvs : List (Key × V)), (j0l kvs more).length <= kvs.length + more.length
 | [], kvs => by show kvs.length <= kvs.length + 0; omega
 | p :: r, kvs => by
  have h1 := f0r r (putK kvs p.1 p.2)
  have h2 := d4t kvs p.1 p.2
  show (j0l (putK kvs p.1 p.2) r).length <= _
  rw [List.length_cons]; omega
theorem g8d {P : Program} {w : World} : ∀ {kvs : List (Key × V)} {ws : List (Value × Value)}, VV (kvs.map fun kv => (kV kv.1, kv.2)) ws -> ∃ rs, Carries (b0o P w) ws rs /\ KV kvs rs
 | [], _, r => by rw [List.map_nil] at r; cases r; exact ⟨[], True.intro, .nil⟩
 | p :: kvs, _, r => by
  rw [List.map_cons] at r
  cases r with
  | @cons a b as bs h t =>
   obtain ⟨rs, c, q⟩ := g8d (P := P) (w := w) t
   obtain ⟨b1, b2⟩ := b
   exact ⟨(p.1, b2) :: rs, ⟨j7j h.1, rfl, c⟩, .cons ⟨rfl, h.2⟩ q⟩
structure M1 (X : Cx) (o : Expr) (m : Str) (apos : Pos) (e : Expr) (cpos : Pos) : Prop where
 base : attributeBase o m X.env (eval o X.env) = eval o X.env
 few : ((backTo cpos (starEach [e] X.env)).all (fun x => !x.1) && (backToKw cpos (keywordEach [] X.env)).all (fun x => x.1.isSome)
  && decide (([e] : List Expr).length + ([] : List Keyword).length + (if ([] : List Keyword).isEmpty then 0 else 1) < 30)) = true
 line : (apos.endLine == cpos.line) = true
 trees : backTo cpos (starEach [e] X.env) = [(false, eval e X.env)]
structure M2 (X : Cx) (o : Expr) (m : Str) (apos : Pos) (e f : Expr) (cpos : Pos) : Prop where
 base : attributeBase o m X.env (eval o X.env) = eval o X.env
 few : ((backTo cpos (starEach [e, f] X.env)).all (fun x => !x.1) && (backToKw cpos (keywordEach [] X.env)).all (fun x => x.1.isSome)
  && decide (([e, f] : List Expr).length + ([] : List Keyword).length + (if ([] : List Keyword).isEmpty then 0 else 1) < 30)) = true
 line : (apos.endLine == cpos.line) = true
 trees : backTo cpos (starEach [e, f] X.env) = [(false, eval e X.env), (false, eval f X.env)]
section
variable {X : Cx} {pins : List (Addr × Obj)} {σ : St} {H : Hp} {s : Shared} {a : Addr} {y d : V} {u r : Value} {o : Option V} {A : Around} {E : Value -> Shared -> Prop}
end
section
variable {X : Cx} {o e f : Expr} {apos cpos : Pos} {td ty tx : TE}
end
section
variable {X : Cx} {pins : List (Addr × Obj)} {σ : St} {H : Hp} {s : Shared} {a : Addr} {kvs : List (Key × V)} {A : Around} {E : Value -> Shared -> Prop}
end
section
variable {X : Cx} {pins : List (Addr × Obj)} {σ : St} {H : Hp} {s : Shared} {a : Addr} {y : V} {u : Value} {A : Around} {E : Value -> Shared -> Prop}
end
section
variable {X : Cx}
end
section
variable {κ : Type} [DecidableEq κ]
end
end L2
namespace L2
open PySem PySem.Spec PyProof.Rows
open PySem.Builtin.Int (intBits)
section
variable {X : Cx} {a b c : Expr} {ta tb tc : TE} {pos : Pos}
theorem k6j : OpR X (binaryOp .Mult) (rI IntMulOk fun i j => .int (i * j)) := opI fun _ _ _ _ _ _ _ hc q => mul_int q hc
noncomputable def CFd (i j : Int) : Prop := j ≠ 0 /\ intBits j <= 9000
theorem i3y {j : Int} (h : j ≠ 0) (hb : intBits j <= 9000) : j.natAbs.log2 < 9000 := by
 have h1 := intBits_le_iff.mp hb
 exact (Nat.log2_lt (by omega)).mpr h1
theorem k1u : OpR X (binaryOp .FloorDiv) (rI CFd fun i j => .int (i.fdiv j)) := opI fun i j _ _ _ _ _ hc q =>
 floordiv_int hc.1 q (.inl (PyProof.noPylong_of_log2 (i3y hc.1 hc.2)))
inductive Ty where
 | non | bl | int | str | lst | tup | dct
 deriving DecidableEq
noncomputable def Ty.nm : Ty -> String
 | .non => "NoneType" | .bl => "bool" | .int => "int" | .str => "str" | .lst => "list" | .tup => "tuple" | .dct => "dict"
noncomputable def k4i (H : Hp) : V -> Option Ty
 | .non => some .non
 | .bl _ => some .bl
 | .int _ => some .int
 | .str _ => some .str
 | .ref a => match H a with
  | some (.lst _) => some .lst
  | some (.frz _ (.lst _)) => some .lst
  | some (.tup _) => some .tup
  | some (.dK _) => some .dct
  | some (.dT _) => some .dct
  | _ => none
 | _ => none
noncomputable def k4j (t T : Ty) : Bool := decide (t = T) || (decide (t = .bl) && decide (T = .int))
theorem k6k {K : PySem.W.Frag} {H : Hp} {x : V} {t : Ty} (h : k4i H x = some t) : j1n K H x (.type t.nm) := by
 cases x with
 | non => cases h; exact .non
 | bl b => cases h; exact .bl b
 | int i => cases h; exact .int i
 | str s => cases h; exact .str s
 | byt b => cases h
 | flt b => cases h
 | ty n => cases h
 | ref a =>
  unfold k4i at h
  cases e : H a with
  | none => simp [e] at h
  | some o =>
   cases o with
   | lst xs => simp [e] at h; subst h; exact .lst e
   | tup xs => simp [e] at h; subst h; exact .tup e
   | dK kvs => simp [e] at h; subst h; exact .dK e
   | dT kvs => simp [e] at h; subst h; exact .dT e
   | frz ob u =>
    cases u with
    | lst xs => simp [e] at h; subst h; exact .frz e
    | _ => simp [e] at h
   | _ => simp [e] at h
theorem l1k {K : PySem.W.Frag} (t T : Ty) : PySem.W.kitOne K (.type t.nm) (.type T.nm) = some (k4j t T) := by
 cases t <;> cases T <;> rfl
noncomputable def rIsT (T : Ty) : List V -> Hp -> VK -> Prop := fun xs H Q => match xs with
 | [x, .ty n] => n = T.nm /\ ∃ t, k4i H x = some t /\ Q (.bl (k4j t T)) H
 | _ => False
theorem b0i (T : Ty) : b6h X (.builtin "isinstance") (rIsT T) := by
 intro pins s σ H xs us Q I r h
 match xs, r, h with
 | [x, .ty n], r, h =>
  obtain ⟨rfl, t, ht, q⟩ := h
  obtain ⟨u, v, rfl, r1, r2⟩ := vals2 r
  cases (show v = Value.type T.nm from r2)
  exact j7a I r1 (k6k ht) (l1k t T) fun tk => ⟨.bl _, H, I.tok tk, rfl, q⟩
mutual
inductive h4l (K : PySem.W.Frag) (H : Hp) : V -> PyData -> Prop
 | non : h4l K H .non .none
 | bl (b : Bool) : h4l K H (.bl b) (.bool b)
 | int (i : Int) : h4l K H (.int i) (.int i)
 | str (x : Str) : h4l K H (.str x) (.str x)
 | lst {a : Addr} {xs : List V} {ds : List PyData} : SqL K H a xs -> c8q K H xs ds -> h4l K H (.ref a) (.list ds)
 | tup {a : Addr} {xs : List V} {ds : List PyData} : SqT K H a xs -> c8q K H xs ds -> h4l K H (.ref a) (.tuple ds)
inductive c8q (K : PySem.W.Frag) (H : Hp) : List V -> List PyData -> Prop
 | nil : c8q K H [] []
 | cons {x : V} {xs : List V} {d : PyData} {ds : List PyData} : h4l K H x d -> c8q K H xs ds -> c8q K H (x :: xs) (d :: ds)
end
section
variable {pins : List (Addr × Obj)} {σ : St} {H : Hp} {s : Shared}
mutual
theorem Inv.reads (I : Inv X pins σ H s) : ∀ {v : V} {d : PyData} {u : Value}, h4l X.K H v d -> RelV v u -> ∃ as, Reads s.heap u d as
 | _, _, _, .non, r => by cases (show _ = Value.none from r); exact ⟨_, .none⟩
 | _, _, _, .bl b, r => by cases (show _ = Value.bool b from r); exact ⟨_, .bool b⟩
 | _, _, _, .int i, r => by obtain ⟨t, rfl⟩ := r; exact ⟨_, .int i t⟩
 | _, _, _, .str x, r => by obtain ⟨t, rfl⟩ := r; exact ⟨_, .str x t⟩
 | _, _, _, .lst (a := a) hs ha, r => by
  cases (show _ = Value.ref a from r)
  obtain ⟨its, rv, ⟨o, n, e, c, _, dd⟩, _⟩ := I.list hs
  obtain ⟨as, q⟩ := Inv.readsAll I ha rv
  exact ⟨_, .list e c dd (by simpa using q)⟩
 | _, _, _, .tup (a := a) hs ha, r => by
  cases (show _ = Value.ref a from r)
  obtain ⟨its, rv, ⟨o, e, c, n, dd⟩, _⟩ := I.tuple hs
  obtain ⟨as, q⟩ := Inv.readsAll I ha rv
  exact ⟨_, .tuple e c dd (by simpa using q)⟩
theorem Inv.readsAll (I : Inv X pins σ H s) : ∀ {vs : List V} {ds : List PyData} {us : List Value}, c8q X.K H vs ds -> Vals vs us -> ∃ as, ReadsAll s.heap us ds as
 | _, _, _, .nil, .nil => ⟨_, .nil⟩
 | _, _, _, .cons h t, .cons r q => by
  obtain ⟨as, x⟩ := Inv.reads I h r
  obtain ⟨bs, y⟩ := Inv.readsAll I t q
  exact ⟨_, .cons x y⟩
end
end
noncomputable def l5g (K : PySem.W.Frag) : R2 := fun x y H Q => ∃ d e, h4l K H x d /\ h4l K H y e /\ SeqAt.shaped d = true /\ SeqAt.shaped e = true /\ Q (.bl (PyData.eqv d e)) H
noncomputable def l1l (K : PySem.W.Frag) : R2 := fun x y H Q => ∃ d e, h4l K H x d /\ h4l K H y e /\ SeqAt.shaped d = true /\ SeqAt.shaped e = true /\ Q (.bl (!PyData.eqv d e)) H
theorem l1m (hu : X.A.units + 64 < cLine) : OpR X (compareOp .Eq) (l5g X.K) := by
 intro pins s σ H x y v u Q I rx ry h
 obtain ⟨d, e, hd, he, sd, se, q⟩ := h
 obtain ⟨as, ra⟩ := I.reads hd rx
 obtain ⟨bs, rb⟩ := I.reads he ry
 exact eq_dataH ra rb sd se hu ⟨.bl _, H, I, rfl, q⟩
theorem l1n (hu : X.A.units + 64 < cLine) : OpR X (compareOp .NotEq) (l1l X.K) := by
 intro pins s σ H x y v u Q I rx ry h
 obtain ⟨d, e, hd, he, sd, se, q⟩ := h
 obtain ⟨as, ra⟩ := I.reads hd rx
 obtain ⟨bs, rb⟩ := I.reads he ry
 exact ne_dataH ra rb sd se hu ⟨.bl _, H, I, rfl, q⟩
end
noncomputable def Itr3 (lo c : Int) (n : Nat) : It := ⟨fun i _ => i < n, fun i H x H' => H' = H /\ x = .int (lo + i * c), fun i _ => n <= i⟩
noncomputable def l6n (lo hi c : Int) : Nat := (Builtin.Range.rangeSize lo hi c).toNat
theorem l5h {lo hi c : Int} (hc : 0 < c) : l6n lo hi c = if lo < hi then ((hi - lo - 1) / c + 1).toNat else 0 := by
 unfold l6n Builtin.Range.rangeSize
 rw [if_pos (show c > 0 from hc)]
 split <;> rfl
section
variable {X : Cx} {tg : Expr}
end
noncomputable def l1o (J : It) (g : TG) (tb : TS) (D : Ends) (σ : St) (H : Hp) : Prop := ∃ W : Nat -> Nat -> St -> Hp -> Prop, (∃ m, W 0 m σ H) /\ ∀ i m σ H, W i m σ H ->
 (J.stop i H /\ D.nx σ H) \/ (J.go i H /\ ∃ N : St -> Hp -> Prop, (∀ σ' H', N σ' H' -> ∃ m', m' < m /\ W (i + 1) m' σ' H') /\ ∀ x H', J.yld i H x H' -> g x σ H' fun σ2 H2 => tb { D with nx := N, ct := N, bk := D.nx } σ2 H2)
noncomputable def l6o (wi : TI) (g : TG) (tb : TS) : TS := fun D σ H => wi σ H fun J H1 => l1o J g tb D σ H1
theorem a7w {X : Cx} {tg iter : Expr} {body : List Stmt} {wi : TI} {g : TG} {tb : TS} {pos : Pos} (hp : PassesOwn (model X.prog X.w) X.A X.env X.xe) (hc : X.calm = true) (hi : PI X tg iter wi) (hg : PG X tg g) (hb : PSs X body tb)
  (hs : ∀ x, foldedSetIterable iter X.env x = pure x := by intro _; rfl) : PS X (.For tg iter body [] pos) (l6o wi g tb) := l0n hp hc hi hg hb hs
theorem b0g {K : PySem.W.Frag} {a : Addr} {xs : List V} {g : TG} {tb : TS} {D : Ends} {σ : St} {H : Hp} (Pv : Nat -> St -> Hp -> Prop) (h0 : Pv 0 σ H) (hl : ∀ i σ H, i <= xs.length -> Pv i σ H -> SqL K H a xs)
  (hs : ∀ i x σ H, xs[i]? = some x -> Pv i σ H -> g x σ H fun σ2 H2 => tb { D with nx := Pv (i + 1), ct := Pv (i + 1), bk := D.nx } σ2 H2) (hd : ∀ σ H, Pv xs.length σ H -> D.nx σ H) : l1o (Itl K a) g tb D σ H := k1e Pv h0 hl hs hd
theorem d2v {lo : Int} {n : Nat} {g : TG} {tb : TS} {D : Ends} {σ : St} {H : Hp} (Pv : Nat -> St -> Hp -> Prop) (h0 : Pv 0 σ H)
  (hs : ∀ i σ H, i < n -> Pv i σ H -> g (.int (lo + i)) σ H fun σ2 H2 => tb { D with nx := Pv (i + 1), ct := Pv (i + 1), bk := D.nx } σ2 H2) (hd : ∀ σ H, Pv n σ H -> D.nx σ H) : l1o (Itr lo n) g tb D σ H := j6s Pv h0 hs hd
noncomputable def k4k (c : TT) (tb : TS) (D : Ends) (σ : St) (H : Hp) : Prop := ∃ W : Nat -> St -> Hp -> Prop, (∃ m, W m σ H) /\ ∀ m σ H, W m σ H ->
 c σ H fun b H1 => if b = true then tb { D with nx := fun σ' H' => ∃ m', m' < m /\ W m' σ' H', ct := fun σ' H' => ∃ m', m' < m /\ W m' σ' H', bk := D.nx } σ H1 else D.nx σ H1
noncomputable def k6l (c : TT) (tb : TS) : TS := fun D σ H => k4k c tb D σ H
theorem h5e {X : Cx} {c : Expr} {body : List Stmt} {tc : TT} {tb : TS} {pos : Pos} (hp : PassesOwn (model X.prog X.w) X.A X.env X.xe) (hc : PT X c tc) (hb : PSs X body tb) : PS X (.While c body [] pos) (k6l tc tb) := by
 intro pins s σ H D I h
 obtain ⟨W, ⟨m0, w0⟩, turn⟩ := h
 refine wpAny_While (codeAny_whileLoop (fun n s' => ∃ σ' H', Inv X pins σ' H' s' /\ W n σ' H') ?_ m0 ⟨σ, H, I, w0⟩)
 rintro n s1 ⟨σ1, H1, I1, w1⟩
 refine wpAny_passesOwn hp (thn (hc pins s1 σ1 H1 _ I1 (turn n σ1 H1 w1)) fun b s2 ⟨H2, I2, q2⟩ => ?_)
 cases b with
 | true =>
  rw [if_pos rfl]
  refine wpAny_passesOwn hp (thn (hb pins s2 σ1 H2 _ I2 q2) fun f s3 q3 => ?_)
  cases f with
  | next =>
   obtain ⟨σ3, H3, I3, m', hm, w3⟩ := q3
   exact ⟨m', hm, σ3, H3, I3, w3⟩
  | cont =>
   obtain ⟨σ3, H3, I3, m', hm, w3⟩ := q3
   exact ⟨m', hm, σ3, H3, I3, w3⟩
  | brk => exact q3
  | ret v => exact q3
 | false =>
  rw [if_neg Bool.false_ne_true]
  exact wpAny_execs_nil ⟨σ1, H2, I2, q2⟩
theorem h5f {c : TT} {tb : TS} {D : Ends} {σ : St} {H : Hp} (Pv : Nat -> St -> Hp -> Prop) (m0 : Nat) (h0 : Pv m0 σ H)
  (hs : ∀ m σ H, Pv m σ H -> c σ H fun b H1 => if b = true then tb { D with nx := fun σ' H' => ∃ m', m' < m /\ Pv m' σ' H', ct := fun σ' H' => ∃ m', m' < m /\ Pv m' σ' H', bk := D.nx } σ H1 else D.nx σ H1) : k4k c tb D σ H :=
 ⟨Pv, ⟨m0, h0⟩, hs⟩
end L2
namespace Att
open PySem PySem.W PySem.Calls PyProof.Rows
open PySem.Builtin.Int (intBits)
theorem i3z {ns : List Int} (h : WData.layableAll [WData.list (ns.map WData.int)] = true) : ∀ n ∈ ns, intBits n <= 1048576 := by
 intro n hn
 have h1 := layableW_arg h _ (List.mem_singleton.mpr rfl)
 have h2 := layableW_item h1 (WData.int n) (List.mem_map.mpr ⟨n, hn, rfl⟩)
 have h3 := (layableW_iff.mp h2).2.2
 exact h3
theorem h5g {l : OpenLaw} {n : Nat} {q : Program} {loose : List Str} {XP : (Str -> Option Value) -> Heap -> Prop} {YP : World -> Heap -> Prop} {d : DefRec}
  (hn : l.most = some n) (hdf : d.params.defaults = [])
  (call : ∀ (w : World) (s₀ s₁ : Shared) (mg mb : Str -> Option Value) (fa : Addr) (o : Obj) (pm cd doc : Value) (a : Addr) (vs : List Value) (ns : List Int),
   Ground q loose [] XP w s₀ mg mb s₁.heap -> YP w s₁.heap ->
   s₁.heap.get? fa = some o -> o.data = .func (docDef d.name d.params d.body d.scope pm cd doc) -> s₁.heap.CodeRec cd d.name -> mg d.name = some (.ref fa) ->
   s₁.heap.get? a = some { cls := .type "list", data := .seq vs.toArray } → IntsAre vs ns → ns.length ≤ n → (∀ x ∈ ns, intBits x ≤ 1048576) → s₁.gens = #[] →
   codeAny (model l.prog w) callerA (.call (.ref fa) ⟨[.ref a], []⟩) (fun r s' => r = .ok (.ret (.bool true)) /\ OldK s₁.heap s'.heap /\ s'.os = s₁.os /\ AllBare s'.gens) s₁) :
  WalkO q loose XP YP l.row.toRowW d [] (fun f vs => PySem.call f vs) := by
 intro w s₀ s₁ mg mb G Y fa o pm cd doc dV kV ho hd hcd hD hmg hg args vals as hpre hlay hrd hwl hlo
 obtain rfl : dV = .none := Dflts.none hD hdf
 obtain rfl : kV = .none := Dflts.noKw hD
 obtain ⟨a, vs, ns, rfl, rfl, hobj, hints, hlen⟩ := j7g hn hpre hwl
 refine enter_call (codeAny_mono (call w s₀ s₁ mg mb fa o pm cd doc a vs ns G Y ho (fd_plain hd) hcd hmg hobj hints hlen (i3z hlay) hg) fun r s' hq => ?_)
 obtain ⟨rfl, h2, h3, h4⟩ := hq
 exact ⟨.inl ⟨.bool true, .bool true, [], rfl, fun _ => rfl, .bool true, j7h l _, fun _ => ⟨List.Pairwise.nil, fun _ hm => (nomatch hm)⟩⟩, h2, h3, h4⟩
end Att
namespace L2
open PySem PySem.Spec PyProof.Rows
open PySem.Builtin.Int (intBits)
noncomputable def i4a (n : Nat) (K : PySem.W.Frag) : Sp := fun vs H Q _ => ∃ (a : Addr) (ns : List Int), vs = [.ref a] /\ SqL K H a (ns.map V.int) /\ ns.length <= n /\ (∀ x ∈ ns, intBits x <= 1048576) /\ Only H /\ ∀ H', Q (.bl true) H'
theorem k1v {l : PySem.W.OpenLaw} {k : Nat} {q : Program} {loose : List Str} {XP : (Str -> Option Value) -> Heap -> Prop} {YP : World -> Heap -> Prop} {d : DefRec} {K : Params -> PySem.W.Frag} {CX : World -> CXT} {x : Str}
  (hn : l.most = some 63) (hdf : d.params.defaults = []) (hr : a2z k callerA)
  (hY : ∀ (w : World) (h : Heap), YP w h -> (K w.params).In h)
  (F : ∀ (w : World) (mg : Str -> Option Value) (fa : Addr) (h : Heap), (K w.params).In h -> h.Ns mainGlobals mg -> mg d.name = some (.ref fa) ->
   ∃ fd : FuncData, (∀ (s : Shared) (u : Value), BindsTo s fd ⟨[u], []⟩ [(x, u)]) /\
    ∀ base : Heap, (K w.params).In base -> base.Ns mainGlobals mg -> a1n l.prog w (K w.params) mg base (CX w) k fa fd [x] (i4a 63 (K w.params)))
  (hCX : ∀ (w : World) (H : Hp) (s : Shared) (e : Value) (s' : Shared), CX w [] H s (fun _ _ _ => False) e s' -> False) :
  PySem.W.WalkO q loose XP YP l.row.toRowW d [] (fun f vs => PySem.call f vs) := by
 refine Att.h5g hn hdf fun w s₀ s₁ mg mb fa o pm cd doc a vs ns G Y ho hd hcd hmg hobj hints hlen hbits hg => ?_
 have KX := hY w _ Y
 obtain ⟨fd, hb, hF⟩ := F w mg fa _ KX G.T.g hmg
 exact k1o KX G.T.g G.T.b G.T.builtins G.T.nolimit hg hobj hints (Nat.le_trans hlen (by decide)) hr hF hb (fun H hO hS => ⟨a, ns, rfl, hS, hlen, hbits, hO, fun _ => rfl⟩) fun H e s' => hCX w H s₁ e s'
end L2
namespace L2
open PySem PySem.Spec PyProof.Rows
theorem Same.upd {H : Hp} {p : Addr} {o : HO} (h : H p = none) : Same H (upd H p o) := fun b u e => by
 rw [a3u (a5g e h)]; exact e
structure Tag {α : Type} (a : α) : Type where
noncomputable def New (H : Hp) (o : HO) (Q : VK) (_ : Tag Q) : Prop := ∀ p H1, H p = none -> Same H H1 -> H1 p = some o -> Q (.ref p) H1
noncomputable def All (C : V -> Hp -> Prop) (Q : VK) (_ : Tag C) (_ : Tag Q) : Prop := ∀ v H1, C v H1 -> Q v H1
theorem New.raw {H : Hp} {o : HO} {Q : VK} {t : Tag Q} (h : New H o Q t) : ∀ p, H p = none -> Q (.ref p) (L2.upd H p o) := fun p e => h p _ e (Same.upd e) a3i
theorem l9k {CX : CXT} {P : Program} {w : World} {K : PySem.W.Frag} {mg : Str -> Option Value} {base : Heap} {N : List Str} {qual : Str} {scope : Scope} {f : Addr} {cd : Value} {A : Around} {outer : List Env} {s : Shared} {H : Hp} {E : XK} : (k6a CX P w K mg base N qual scope f cd A outer s H E).K = K := rfl
section
variable {X : Cx} {es : List Expr} {t : TA} {pos : Pos}
noncomputable def l6p (t : TA) : TE := fun σ H Q => t σ H fun xs H1 => xs.length <= sizeLine /\ New H1 (.tup xs) Q ⟨⟩
noncomputable def l6q (t : TA) : TE := fun σ H Q => t σ H fun xs H1 => xs.length <= sizeLine /\ New H1 (.lst xs) Q ⟨⟩
end
section
variable {X : Cx} {a b c : Expr} {ta tb tc : TE} {pos : Pos}
noncomputable def l6r : R2 := fun x y H Q => match x, y with
 | .int i, .int j => Q (.int (i + j)) H
 | .str u, .str v => u.length + v.length <= sizeLine /\ Q (.str (u ++ v)) H
 | .ref l, .ref b => ∃ xs zs, H l = some (.lst xs) /\ H b = some (.lst zs) /\ xs.length + zs.length <= sizeLine /\ New H (.lst (xs ++ zs)) Q ⟨⟩
 | _, _ => False
theorem b0p : OpR X (binaryOp .Add) l6r := by
 intro pins s σ H x y v u Q I rx ry h
 cases x <;> cases y <;> first
  | exact False.elim h
  | exact l0p pins s σ H _ _ v u Q I rx ry ⟨_, _, rfl, rfl, h⟩
  | exact j1k pins s σ H _ _ v u Q I rx ry ⟨_, _, rfl, rfl, h.1, h.2⟩
  | (obtain ⟨xs, zs, h1, h2, h3, h4⟩ := h
     exact l1f pins s σ H _ _ v u Q I rx ry ⟨_, _, _, _, rfl, rfl, h1, h2, h3, h4.raw⟩)
noncomputable def l6s : R2 := fun x y H Q => match x, y with
 | .int i, .int j => IntMulOk i j /\ Q (.int (i * j)) H
 | .ref l, .int k => ∃ xs, H l = some (.lst xs) /\ -(2 ^ 63) <= k /\ k < 2 ^ 63 /\ xs.length * k.toNat <= sizeLine /\ New H (.lst (List.replicate k.toNat xs).flatten) Q ⟨⟩
 | _, _ => False
theorem a7y : OpR X (binaryOp .Mult) l6s := by
 intro pins s σ H x y v u Q I rx ry h
 cases x <;> cases y <;> first
  | exact False.elim h
  | exact k6j pins s σ H _ _ v u Q I rx ry ⟨_, _, rfl, rfl, h.1, h.2⟩
  | (obtain ⟨xs, h1, h2, h3, h4, h5⟩ := h
     exact l1g pins s σ H _ _ v u Q I rx ry ⟨_, _, _, rfl, rfl, h1, h2, h3, h4, h5.raw⟩)
noncomputable def l9l (K : PySem.W.Frag) : R2 := fun x y H Q => if j6t x y = true then Q (.bl (decide (x = y))) H else l5g K x y H Q
noncomputable def l9m (K : PySem.W.Frag) : R2 := fun x y H Q => if j6t x y = true then Q (.bl (!decide (x = y))) H else l1l K x y H Q
theorem b7u (hu : X.A.units + 64 < cLine) : OpR X (compareOp .Eq) (l9l X.K) := by
 intro pins s σ H x y v u Q I rx ry h
 unfold l9l at h
 by_cases hs : j6t x y = true
 ·rw [if_pos hs] at h
  exact l6c pins s σ H x y v u Q I rx ry ⟨hs, h⟩
 ·rw [if_neg hs] at h
  exact l1m hu pins s σ H x y v u Q I rx ry h
theorem b3g (hu : X.A.units + 64 < cLine) : OpR X (compareOp .NotEq) (l9m X.K) := by
 intro pins s σ H x y v u Q I rx ry h
 unfold l9m at h
 by_cases hs : j6t x y = true
 ·rw [if_pos hs] at h
  exact l6d pins s σ H x y v u Q I rx ry ⟨hs, h⟩
 ·rw [if_neg hs] at h
  exact l1n hu pins s σ H x y v u Q I rx ry h
noncomputable def rIxM : R2 := fun x y H Q => match x, y with
 | .ref p, .int i => (match H p with
  | some (.tup xs) => ∃ v, atI xs i = some v /\ Q v H
  | some (.lst xs) => ∃ v, atI xs i = some v /\ Q v H
  | _ => False)
 | .str z, .int i => ∃ c, z.length <= sizeLine /\ atI z.cps.toList i = some c /\ Q (.str ⟨#[c]⟩) H
 | _, _ => False
theorem a3j : IxR X rIxM := by
 intro value slice pins s σ H x y v u Q I rx ry h hs
 cases x with
 | ref p =>
  cases y with
  | int i =>
   have h' : (match H p with
    | some (.tup xs) => ∃ v, atI xs i = some v /\ Q v H
    | some (.lst xs) => ∃ v, atI xs i = some v /\ Q v H
    | _ => False) := h
   split at h'
   ·rename_i xs e
    obtain ⟨z, h2, h3⟩ := h'
    exact l1a value slice pins s σ H _ _ v u Q I rx ry ⟨_, xs, _, z, rfl, rfl, SqT.of e, h2, h3⟩ hs
   ·rename_i xs e
    obtain ⟨z, h2, h3⟩ := h'
    exact j7e value slice pins s σ H _ _ v u Q I rx ry ⟨_, xs, _, z, rfl, rfl, SqL.of e, h2, h3⟩ hs
   ·exact h'.elim
  | _ => exact False.elim h
 | str z =>
  cases y with
  | int i =>
   obtain ⟨c, h1, h2, h3⟩ := h
   exact l1b value slice pins s σ H _ _ v u Q I rx ry ⟨_, _, c, rfl, rfl, h1, h2, h3⟩ hs
  | _ => exact False.elim h
 | _ => exact False.elim h
noncomputable def rSlM : V -> Option Int -> Option Int -> Hp -> VK -> Prop := fun x lo hi H Q => match x with
 | .ref a => (match H a with
  | some (.lst xs) => New H (.lst (f9q xs lo hi)) Q ⟨⟩
  | _ => False)
 | _ => False
theorem sl_M : SlR X rSlM := by
 intro pins s σ H x v vl vu lo hi sl Q I rx hs pl pu h
 cases x with
 | ref a =>
  have h' : (match H a with
   | some (.lst xs) => New H (.lst (f9q xs lo hi)) Q ⟨⟩
   | _ => False) := h
  split at h'
  ·rename_i xs e
   exact i3v pins s σ H _ v vl vu lo hi sl Q I rx hs pl pu ⟨_, xs, rfl, SqL.of e, h'.raw⟩
  ·exact h'.elim
 | _ => exact False.elim h
noncomputable def rSlK (K : PySem.W.Frag) : V -> Option Int -> Option Int -> Hp -> VK -> Prop := fun x lo hi H Q => ∃ a xs, x = .ref a /\ SqL K H a xs /\ New H (.lst (f9q xs lo hi)) Q ⟨⟩
theorem sl_K : SlR X (rSlK X.K) := by
 intro pins s σ H x v vl vu lo hi sl Q I rx hs pl pu h
 obtain ⟨a, xs, e, h1, h2⟩ := h
 exact i3v pins s σ H _ v vl vu lo hi sl Q I rx hs pl pu ⟨a, xs, e, h1, h2.raw⟩
noncomputable def l6t : List V -> Hp -> VK -> Prop := fun xs H Q => match xs with
 | [.ref p] => (match H p with
  | some (.lst ys) => Q (.int ys.length) H
  | some (.tup ys) => Q (.int ys.length) H
  | _ => False)
 | [.str z] => z.length <= sizeLine /\ Q (.int z.length) H
 | _ => False
theorem a3p : b6h X (.builtin "len") l6t := by
 intro pins s σ H xs us Q I r h
 match xs, r, h with
 | [.ref p], r, h =>
  have h' : (match H p with
   | some (.lst ys) => Q (.int ys.length) H
   | some (.tup ys) => Q (.int ys.length) H
   | _ => False) := h
  split at h'
  ·rename_i ys e
   exact c8p pins s σ H _ us Q I r ⟨p, ys, rfl, .inl (SqL.of e), h'⟩
  ·rename_i ys e
   exact c8p pins s σ H _ us Q I r ⟨p, ys, rfl, .inr (SqT.of e), h'⟩
  ·exact h'.elim
 | [.str z], r, h => exact h4z pins s σ H _ us Q I r ⟨z, rfl, h.1, h.2⟩
theorem j7n : b6h X (.builtin "len") (fun xs H Q => ∃ p ys, xs = [.ref p] ∧ SqL X.K H p ys ∧ Q (.int ys.length) H) := by
 intro pins s σ H xs us Q I r h
 obtain ⟨p, ys, e, h1, h2⟩ := h
 exact c8p pins s σ H _ us Q I r ⟨p, ys, e, .inl h1, h2⟩
theorem l6u {i j : Int} : j6t (.int i) (.int j) = true := rfl
theorem l6v {i j : Str} : j6t (.str i) (.str j) = true := rfl
theorem l6w {i j : Bool} : j6t (.bl i) (.bl j) = true := rfl
theorem l6x : j6t .non .non = true := rfl
theorem l6y {i j : Addr} : j6t (.ref i) (.ref j) = false := rfl
theorem l9n {H : Hp} {i : Int} : k4i H (.int i) = some .int := rfl
theorem l9o {H : Hp} {i : Str} : k4i H (.str i) = some .str := rfl
theorem l9p {H : Hp} {i : Bool} : k4i H (.bl i) = some .bl := rfl
theorem l9q {H : Hp} : k4i H .non = some .non := rfl
theorem l9r {H : Hp} {a : Addr} : k4i H (.ref a) = (match H a with
  | some (.lst _) => some .lst
  | some (.frz _ (.lst _)) => some .lst
  | some (.tup _) => some .tup
  | some (.dK _) => some .dct
  | some (.dT _) => some .dct
  | _ => none) := rfl
theorem two_line : 2 <= sizeLine := by decide
theorem l1p {α : Type} {x : α} {xs : List α} : atI (x :: xs) 0 = some x := b2g (j := 0) rfl
theorem l1q {α : Type} {x y : α} {xs : List α} : atI (x :: y :: xs) 1 = some y := b2g (j := 1) rfl
theorem l1r {α : Type} {x y z : α} {xs : List α} : atI (x :: y :: z :: xs) 2 = some z := b2g (j := 2) rfl
theorem l1s {α : Type} {x y z u : α} {xs : List α} : atI (x :: y :: z :: u :: xs) 3 = some u := b2g (j := 3) rfl
theorem k4l {p q A B : Prop} [Decidable p] [Decidable q] : (if p then (if q then A else B) else B) = (if p /\ q then A else B) := by
 by_cases hp : p <;> by_cases hq : q <;> simp [hp, hq]
theorem k6m {p q A B : Prop} [Decidable p] [Decidable q] : (if p then A else (if q then A else B)) = (if p \/ q then A else B) := by
 by_cases hp : p <;> by_cases hq : q <;> simp [hp, hq]
end
section
variable {X : Cx} {es : List Expr} {t : TA} {pos : Pos}
theorem PA.weak {t : TA} (h : PA X es t) {u : TA} (q : ∀ σ H (Q : List V -> Hp -> Prop), u σ H Q -> t σ H Q) : PA X es u := fun pos pins s σ H Q I hu => h pos pins s σ H Q I (q σ H Q hu)
theorem a9z {x1} (h : PA X es t) : PE X (.Tuple es x1 pos) (l6p t) := by
 intro pins s σ H Q I hq
 refine wpAny_Tuple_spliced (thn (h pos pins s σ H _ I hq) fun us s1 ⟨xs, H1, I1, r, z, q⟩ => ⟨by rw [<- r.length]; exact z, ?_⟩)
 have hf : H1 s1.heap.objs.size = none := I1.hok.fresh (Nat.le_refl _)
 refine ⟨.ref s1.heap.objs.size, upd H1 s1.heap.objs.size (.tup xs), I1.laid (t' := s1.toks) (fun b u e => Heap.get?_push_of_some _ e) (Nat.le_refl _) ?_, rfl, q.raw _ hf⟩
 exact ⟨z, us, r, ⟨_, Heap.get?_push_size _ rfl, rfl, _, rfl⟩⟩
theorem a2j (h : PA X es t) : PE X (.List es pos) (l6q t) := by
 intro pins s σ H Q I hq
 refine wpAny_List_spliced (thn (h pos pins s σ H _ I hq) fun us s1 ⟨xs, H1, I1, r, z, q⟩ => ⟨by rw [<- r.length]; exact z, ?_⟩)
 have hf : H1 s1.heap.objs.size = none := I1.hok.fresh (Nat.le_refl _)
 refine ⟨.ref s1.heap.objs.size, upd H1 s1.heap.objs.size (.lst xs), I1.laid (t' := s1.toks) (fun b u e => Heap.get?_push_of_some _ e) (Nat.le_refl _) ?_, rfl, q.raw _ hf⟩
 exact ⟨z, us, 0, r, Heap.get?_push_size _ rfl⟩
theorem j1t : b6h X (.type "list") (fun xs H Q => ∃ p ys, xs = [.ref p] ∧ (SqL X.K H p ys ∨ SqT X.K H p ys) ∧ New H (.lst ys) Q ⟨⟩) := by
 intro pins s σ H xs us Q I r h
 obtain ⟨p, ys, e, h1, h2⟩ := h
 exact h5a pins s σ H xs us Q I r ⟨p, ys, e, h1, h2.raw⟩
end
theorem Same.tup {K : PySem.W.Frag} {H H' : Hp} {a : Addr} {xs : List V} (e : Same H H') (h : SqT K H a xs) : SqT K H' a xs := by
 rcases h with (h | ⟨o, h⟩) | h
 ·exact .inl (.inl (e _ _ h))
 ·exact .inl (.inr ⟨o, e _ _ h⟩)
 ·exact .inr h
end L2
namespace L2
open PySem PySem.Spec PyProof.Rows
open PySem.Builtin.Int (intBits)
section
variable {X : Cx} {e a b c : Expr} {es rest : List Expr} {pos : Pos} {tg iter : Expr}
theorem PE.weak {t u : TE} (h : PE X e t) (q : ∀ σ H Q, u σ H Q -> t σ H Q) : PE X e u := fun pins s σ H Q I hu => h pins s σ H Q I (q σ H Q hu)
theorem PT.weak {t u : TT} (h : PT X e t) (q : ∀ σ H Q, u σ H Q -> t σ H Q) : PT X e u := fun pins s σ H Q I hu => h pins s σ H Q I (q σ H Q hu)
theorem PI.weak {t u : TI} (h : PI X tg iter t) (q : ∀ σ H Q, u σ H Q -> t σ H Q) : PI X tg iter u := fun pins s σ H Q I hu => h pins s σ H Q I (q σ H Q hu)
theorem OpR.weak {f : Value -> Value -> Sem Value} {r r' : R2} (h : OpR X f r) (q : ∀ x y H Q, r' x y H Q -> r x y H Q) : OpR X f r' := fun pins s σ H x y v u Q I rx ry hr => h pins s σ H x y v u Q I rx ry (q x y H Q hr)
theorem UnR.weak {f : Value -> Sem Value} {r r' : V -> Hp -> VK -> Prop} (h : UnR X f r) (q : ∀ x H Q, r' x H Q -> r x H Q) : UnR X f r' := fun pins s σ H x v Q I rx hr => h pins s σ H x v Q I rx (q x H Q hr)
theorem b6h.weak {f : Value} {r r' : List V -> Hp -> VK -> Prop} (h : b6h X f r) (q : ∀ xs H Q, r' xs H Q -> r xs H Q) : b6h X f r' := fun pins s σ H xs us Q I rx hr => h pins s σ H xs us Q I rx (q xs H Q hr)
theorem IxR.weak {r r' : R2} (h : IxR X r) (q : ∀ x y H Q, r' x y H Q -> r x y H Q) : IxR X r' := fun value slice pins s σ H x y v u Q I rx ry hr hs => h value slice pins s σ H x y v u Q I rx ry (q x y H Q hr) hs
noncomputable def g4d (i : Nat) : TE := fun σ H Q => match σ[i]? with
 | some (some v) => Q v H
 | _ => False
theorem pvF (i : Nat) {x : Str} {pos : Pos} (hN : X.N[i]? = some x := by rfl) (hv : Vis X.env.scope x := by first | exact Or.inl rfl | exact Or.inr (Or.inl rfl) | exact Or.inr (Or.inr rfl)) (hd : (x == ("__debug__" : Str)) = false := by decide)
  (hcd : (x == ("__classdict__" : Str)) = false := by decide) : PE X (.Name x pos) (g4d i) := (l0d hN hv hd hcd).weak fun σ H Q h => by
 unfold g4d at h
 split at h
 ·rename_i v e
  exact ⟨v, e, h⟩
 ·exact h.elim
noncomputable def rIF (C : Int -> Int -> Prop) (g : Int -> Int -> V) : R2 := fun x y H Q => match x, y with
 | .int i, .int j => C i j /\ Q (g i j) H
 | _, _ => False
noncomputable def k9q (g : Int -> Int -> V) : R2 := fun x y H Q => match x, y with
 | .int i, .int j => Q (g i j) H
 | _, _ => False
theorem j7o {C : Int -> Int -> Prop} {g : Int -> Int -> V} : ∀ x y H Q, rIF C g x y H Q -> rI C g x y H Q := fun x y H Q h => by
 cases x <;> cases y <;> first | exact False.elim h | exact ⟨_, _, rfl, rfl, h⟩
theorem g0j {g : Int -> Int -> V} : ∀ x y H Q, k9q g x y H Q -> rI0 g x y H Q := fun x y H Q h => by
 cases x <;> cases y <;> first | exact False.elim h | exact ⟨_, _, rfl, rfl, h⟩
theorem j7p : OpR X (binaryOp .Sub) (k9q fun i j => .int (i - j)) := l0q.weak g0j
theorem b7v : OpR X (binaryOp .FloorDiv) (rIF CFd fun i j => .int (i.fdiv j)) := k1u.weak j7o
theorem b7w : OpR X (binaryOp .Mod) (rIF (fun _ j => j ≠ 0) fun i j => .int (i.fmod j)) := k5u.weak j7o
theorem j7q : OpR X (binaryOp .Pow) (rIF l9e fun i j => .int (i ^ j.toNat)) := l0r.weak j7o
theorem of_lt : OpR X (compareOp .Lt) (k9q fun i j => .bl (decide (i < j))) := l6e.weak g0j
theorem of_le : OpR X (compareOp .LtE) (k9q fun i j => .bl (decide (i <= j))) := l6f.weak g0j
theorem g4e : OpR X (compareOp .Gt) (k9q fun i j => .bl (decide (j < i))) := l6g.weak g0j
theorem l6z : OpR X (compareOp .GtE) (k9q fun i j => .bl (decide (j <= i))) := l6h.weak g0j
noncomputable def rUF (g : Int -> V) : V -> Hp -> VK -> Prop := fun x H Q => match x with
 | .int i => Q (g i) H
 | _ => False
theorem k4m : UnR X (unaryOp .USub) (rUF fun i => .int (-i)) := l0s.weak fun x H Q h => by
 cases x <;> first | exact False.elim h | exact ⟨_, rfl, h⟩
noncomputable def tBF (t : TE) : TT := fun σ H Q => t σ H fun x H1 => match x with
 | .bl k => Q k H1
 | _ => False
theorem l7a {x : V} {H1 : Hp} {Q : Bool -> Hp -> Prop} (h : match x with | .bl k => Q k H1 | _ => False) : ∃ k, x = .bl k /\ Q k H1 := by
 cases x <;> first | exact False.elim h | exact ⟨_, rfl, h⟩
theorem a0y {op : CmpOp} {r : R2} {ta tb : TE} (ho : OpR X (compareOp op) r) (ha : PE X a ta) (hb : PE X b tb) (hm : behindInMarks op b = false) : PT X (.Compare a [op] [b] pos) (tBF (tOp r ta tb)) := by
 intro pins s σ H Q I h
 refine (k5w (ho.weak (r' := fun x y H Q => r x y H Q) fun _ _ _ _ z => z) ha hb hm) pins s σ H _ I ?_
 unfold l0t
 exact h |> fun h => by
  unfold tBF at h
  have e : (fun (x : V) (H1 : Hp) => match x with | .bl k => Q k H1 | _ => False) = fun x H1 => ∃ k, x = V.bl k /\ Q k H1 := by
   funext x H1
   cases x <;> simp
  rw [e] at h
  exact h
theorem a4y {t : TE} (h : PE X e t) (he : ∀ whole, isTrue e X.env whole = (do let v <- whole; standAt e.pos; holding [v] (truthy v)) := by intro _; rfl) : PT X e (tBF t) := by
 intro pins s σ H Q I hw
 refine (l0f h he) pins s σ H _ I ?_
 unfold tB
 unfold tBF at hw
 have e : (fun (x : V) (H1 : Hp) => match x with | .bl k => Q k H1 | _ => False) = fun x H1 => ∃ k, x = V.bl k /\ Q k H1 := by
  funext x H1
  cases x <;> simp
 rw [e] at hw
 exact hw
noncomputable def l1t (ta tb : TE) : TE := fun σ H Q => ta σ H fun x H1 => match x with
 | .bl c => if c = true then tb σ H1 Q else Q (.bl false) H1
 | _ => False
noncomputable def tOrF (ta tb : TE) : TE := fun σ H Q => ta σ H fun x H1 => match x with
 | .bl c => if c = true then Q (.bl true) H1 else tb σ H1 Q
 | _ => False
noncomputable def l1u (ta : TE) : TE := fun σ H Q => ta σ H fun x H1 => match x with
 | .bl c => Q (.bl (!c)) H1
 | _ => False
theorem i4b {ta tb : TE} (ha : PE X a ta) (hb : PE X (.BoolOp .And (b :: rest) pos) tb) : PE X (.BoolOp .And (a :: b :: rest) pos) (l1t ta tb) := by
 intro pins s σ H Q I h
 refine (l0i ha hb) pins s σ H Q I ?_
 unfold l0g
 unfold l1t at h
 have e : (fun (x : V) (H1 : Hp) => match x with | .bl c => (if c = true then tb σ H1 Q else Q (.bl false) H1) | _ => False) = fun x H1 => ∃ c, x = V.bl c /\ if c = true then tb σ H1 Q else Q (.bl false) H1 := by
  funext x H1
  cases x <;> simp
 rw [e] at h
 exact h
theorem j7r {ta : TE} (ha : PE X a ta) : PE X (.UnaryOp .Not a pos) (l1u ta) := by
 intro pins s σ H Q I h
 refine (l0j ha) pins s σ H Q I ?_
 unfold l0h
 unfold l1u at h
 have e : (fun (x : V) (H1 : Hp) => match x with | .bl c => Q (.bl (!c)) H1 | _ => False) = fun x H1 => ∃ c, x = V.bl c /\ Q (.bl (!c)) H1 := by
  funext x H1
  cases x <;> simp
 rw [e] at h
 exact h
noncomputable def k4n (ta : TA) : TI := fun σ H R => ta σ H fun vs H1 => match vs with
 | [.int j] => -(2 ^ 62) <= j /\ j < 2 ^ 62 /\ R (Itr 0 j.toNat) H1
 | _ => False
noncomputable def l9s (ta : TA) : TI := fun σ H R => ta σ H fun vs H1 => match vs with
 | [.int i, .int j] => (-(2 ^ 62) <= i /\ i < 2 ^ 62 /\ -(2 ^ 62) <= j /\ j < 2 ^ 62) /\ R (Itr i (j - i).toNat) H1
 | _ => False
noncomputable def l9t (ta : TA) : TI := fun σ H R => ta σ H fun vs H1 => match vs with
 | [.int i, .int j, .int c] => (0 <= i /\ i < 2 ^ 32 /\ 0 <= j /\ j < 2 ^ 32 /\ 0 < c /\ c < 2 ^ 30) /\ R (Itr3 i c (l6n i j c)) H1
 | _ => False
theorem b3i {ta : TA} {p pos : Pos} (hg : Gl X "range") (hm : X.mg "range" = none) (ha : PA X [a] ta) (hs : starEach [a] X.env = [(false, eval a X.env)] := by rfl) : PI X tg (.Call (.Name "range" p) [a] [] pos) (k4n ta) := by
 refine (j6q hg hm ha hs).weak fun σ H R h => ?_
 unfold l0m
 unfold k4n at h
 have e : (fun (vs : List V) (H1 : Hp) => (match vs with | [.int j] => -(2 ^ 62) <= j /\ j < 2 ^ 62 /\ R (Itr 0 j.toNat) H1 | _ => False : Prop)) = fun vs H1 => ∃ j : Int, vs = [.int j] /\ -(2 ^ 62) <= j /\ j < 2 ^ 62 /\ R (Itr 0 j.toNat) H1 := by
  funext vs H1
  refine propext ⟨fun z => ?_, fun ⟨j, e, z⟩ => by subst e; exact z⟩
  match vs, z with
  | [.int j], z => exact ⟨j, rfl, z⟩
 rw [e] at h
 exact h
noncomputable def j7s (K : PySem.W.Frag) (tl : TE) : TI := fun σ H R => tl σ H fun x H1 => match x with
 | .ref a => (∃ xs, SqL K H1 a xs) /\ R (Itl K a) H1
 | _ => False
theorem a3o {l : Expr} {tl : TE} (hl : PE X l tl) : PI X tg l (j7s X.K tl) := (k5t hl).weak fun σ H R h => by
 unfold l0l
 unfold j7s at h
 have e : (fun (x : V) (H1 : Hp) => match x with | .ref a => (∃ xs, SqL X.K H1 a xs) /\ R (Itl X.K a) H1 | _ => False) = fun x H1 => ∃ a, x = .ref a /\ (∃ xs, SqL X.K H1 a xs) /\ R (Itl X.K a) H1 := by
  funext x H1
  cases x <;> simp
 rw [e] at h
 exact h
noncomputable def l7b (K : PySem.W.Frag) : R2 := fun x y H Q => match x, y with
 | .ref p, .int i => ∃ ns : List Int, SqL K H p (ns.map V.int) /\ 0 <= i /\ i < ns.length /\ Q (.int (ns.getD i.toNat 0)) H
 | _, _ => False
theorem k1w {ns : List Int} {i : Int} (h0 : 0 <= i) (h1 : i < ns.length) : atI (ns.map V.int) i = some (.int (ns.getD i.toNat 0)) := by
 obtain ⟨j, rfl⟩ := Int.eq_ofNat_of_zero_le h0
 refine b2g ?_
 have hj : j < ns.length := by omega
 rw [List.getElem?_map, List.getElem?_eq_getElem hj, List.getD_eq_getElem?_getD, Int.toNat_natCast, List.getElem?_eq_getElem hj]
 rfl
theorem ix_S : IxR X (l7b X.K) := j7e.weak fun x y H Q h => by
 cases x with
 | ref p =>
  cases y with
  | int i =>
   obtain ⟨ns, h1, h2, h3, h4⟩ := h
   exact ⟨p, _, i, _, rfl, rfl, h1, k1w h2 h3, h4⟩
  | _ => exact False.elim h
 | _ => exact False.elim h
noncomputable def l7c (K : PySem.W.Frag) : List V -> Hp -> VK -> Prop := fun xs H Q => match xs with
 | [.ref p] => ∃ ys, SqL K H p ys /\ Q (.int ys.length) H
 | _ => False
theorem j1u : b6h X (.builtin "len") (l7c X.K) := j7n.weak fun xs H Q h => by
 match xs, h with
 | [.ref p], ⟨ys, h1, h2⟩ => exact ⟨p, ys, rfl, h1, h2⟩
noncomputable def l7d (K : PySem.W.Frag) : V -> Option Int -> Option Int -> Hp -> VK -> Prop := fun x lo hi H Q => match x with
 | .ref a => ∃ xs, SqL K H a xs /\ New H (.lst (f9q xs lo hi)) Q ⟨⟩
 | _ => False
theorem l7e : SlR X (l7d X.K) := by
 intro pins s σ H x v vl vu lo hi sl Q I rx hs pl pu h
 cases x <;> first
  | exact False.elim h
  | (obtain ⟨xs, h1, h2⟩ := h
     exact sl_K pins s σ H _ v vl vu lo hi sl Q I rx hs pl pu ⟨_, xs, rfl, h1, h2⟩)
noncomputable def k4o (t : TE) : TO := fun σ H Q => t σ H fun x H1 => match x with
 | .int i => Q (some i) H1
 | _ => False
theorem b2h {te : TE} (h : PE X e te) : PO X (some e) (k4o te) := by
 intro pins s σ H Q I hw
 refine (k6c h) pins s σ H Q I ?_
 unfold l0y
 unfold k4o at hw
 have e : (fun (x : V) (H1 : Hp) => match x with | .int i => Q (some i) H1 | _ => False) = fun x H1 => ∃ i, x = V.int i /\ Q (some i) H1 := by
  funext x H1
  cases x <;> simp
 rw [e] at hw
 exact hw
noncomputable def rAbs : List V -> Hp -> VK -> Prop := fun xs H Q => match xs with
 | [.int i] => Q (.int i.natAbs) H
 | _ => False
theorem c2h : b6h X (.builtin "abs") rAbs := k1f.weak fun xs H Q h => by
 match xs, h with
 | [.int i], h =>
  refine ⟨i, rfl, ?_⟩
  have e : (if i < 0 then -i else i) = (i.natAbs : Int) := by split <;> omega
  rw [e]
  exact h
noncomputable def rMin : List V -> Hp -> VK -> Prop := fun xs H Q => match xs with
 | [.int i, .int j] => Q (.int (min i j)) H
 | _ => False
noncomputable def rMax : List V -> Hp -> VK -> Prop := fun xs H Q => match xs with
 | [.int i, .int j] => Q (.int (max i j)) H
 | _ => False
noncomputable def l1v (K : PySem.W.Frag) : List V -> Hp -> VK -> Prop := fun xs H Q => match xs with
 | [.ref p] => (match H p with
  | some (.lst ys) => New H (.lst ys) Q ⟨⟩
  | some (.tup ys) => New H (.lst ys) Q ⟨⟩
  | _ => False)
 | _ => False
theorem b7m : b6h X (.type "list") (l1v X.K) := j1t.weak fun xs H Q h => by
 match xs, h with
 | [.ref p], h =>
  have h' : (match H p with
   | some (.lst ys) => New H (.lst ys) Q ⟨⟩
   | some (.tup ys) => New H (.lst ys) Q ⟨⟩
   | _ => False) := h
  split at h'
  ·rename_i ys e
   exact ⟨p, ys, rfl, .inl (SqL.of e), h'⟩
  ·rename_i ys e
   exact ⟨p, ys, rfl, .inr (SqT.of e), h'⟩
  ·exact h'.elim
theorem l9u {α : Type} {x : α} {xs : List α} {p : α -> Prop} : (∃ v, atI (x :: xs) 0 = some v /\ p v) = p x := by
 rw [l1p]; simp
theorem l9v {α : Type} {x y : α} {xs : List α} {p : α -> Prop} : (∃ v, atI (x :: y :: xs) 1 = some v /\ p v) = p y := by
 rw [l1q]; simp
theorem l9w {α : Type} {x y z : α} {xs : List α} {p : α -> Prop} : (∃ v, atI (x :: y :: z :: xs) 2 = some v /\ p v) = p z := by
 rw [l1r]; simp
theorem l9x {α : Type} {x y z u : α} {xs : List α} {p : α -> Prop} : (∃ v, atI (x :: y :: z :: u :: xs) 3 = some v /\ p v) = p u := by
 rw [l1s]; simp
end
end L2
namespace L2
open PySem PySem.Spec PyProof.Rows PySem.W
theorem f0s {n : Nat} {d : Dat} (h : kqdOk n d = true) (hn : n <= 64) : SeqAt.shaped (kqdP d) = true := by
 have l := kqd_lay n d h
 unfold SeqAt.shaped
 rw [l.1, Bool.true_and]
 exact decide_eq_true (Nat.le_trans l.2 hn)
theorem k4p {n k : Nat} {d e : Dat} (hd : kqdOk n d = true) (he : kqdOk k e = true) {c : Bool} (hc : c = true ↔ d = e) : PyData.eqv (kqdP d) (kqdP e) = c := by
 have q := kqd_eqv n d e k hd he
 cases c with
 | true => exact q.mpr (hc.mp rfl)
 | false => exact Bool.eq_false_iff.mpr fun z => absurd (hc.mpr (q.mp z)) Bool.false_ne_true
theorem l1w {K : PySem.W.Frag} {H : Hp} {x y : V} {d e : Dat} {n k : Nat} {c : Bool} {Q : VK} (hd : h4l K H x (kqdP d)) (he : h4l K H y (kqdP e)) (kd : kqdOk n d = true) (ke : kqdOk k e = true) (hn : n <= 64) (hk : k <= 64) (hc : c = true ↔ d = e) (q : Q (.bl c) H) : l5g K x y H Q :=
 ⟨_, _, hd, he, f0s kd hn, f0s ke hk, by rw [k4p kd ke hc]; exact q⟩
theorem k4q {K : PySem.W.Frag} {H : Hp} {x y : V} {d e : Dat} {n k : Nat} {c : Bool} {Q : VK} (hd : h4l K H x (kqdP d)) (he : h4l K H y (kqdP e)) (kd : kqdOk n d = true) (ke : kqdOk k e = true) (hn : n <= 64) (hk : k <= 64) (hc : c = true ↔ d = e) (q : Q (.bl (!c)) H) : l1l K x y H Q :=
 ⟨_, _, hd, he, f0s kd hn, f0s ke hk, by rw [k4p kd ke hc]; exact q⟩
end L2
namespace L2
open PySem PySem.Spec PyProof.Rows
open PySem.Builtin.Int (intBits)
noncomputable def tCut (t u : TS) : TS := fun D σ H => ∃ Mid : St -> Hp -> Prop, t { D with nx := Mid } σ H /\ ∀ σ' H', Mid σ' H' -> u D σ' H'
theorem a7z {X : Cx} {st : Stmt} {rest : List Stmt} {t u : TS} (h1 : PS X st t) (h2 : PSs X rest u) : PSs X (st :: rest) (tCut t u) := by
 intro pins s σ H D I h
 obtain ⟨Mid, h, hm⟩ := h
 refine wpAny_execs_cons (thn (h1 pins s σ H { D with nx := Mid } I h) fun f s1 q => ?_)
 cases f with
 | next =>
  obtain ⟨σ', H', I', q⟩ := q
  exact h2 pins s1 σ' H' D I' (hm σ' H' q)
 | ret v => exact q
 | brk => exact q
 | cont => exact q
theorem j7t {ns : List Int} {n : Nat} (h : ∀ x ∈ ns, intBits x <= n) (k : Nat) : intBits (ns.getD k 0) <= n := by
 rw [List.getD_eq_getElem?_getD]
 cases e : ns[k]? with
 | none => exact Nat.zero_le _
 | some x => exact h x (List.mem_of_getElem? e)
end L2
namespace L2
open PySem PySem.Spec PyProof.Rows
theorem f2r {env : Env} : ∀ (names : List (Str × NameKind)) (acc : List (Str × Addr)), (∀ y, (y, NameKind.free) ∈ names -> ∃ c, env.cells.lookup y = some c) ->
  ∃ cl, (forIn names acc (fun (x : Str × NameKind) (cs : List (Str × Addr)) => (if x.2 == NameKind.free then (do let c <- cellOf env x.1; pure (ForInStep.yield ((x.1, c) :: cs))) else pure (ForInStep.yield cs) : Sem (ForInStep (List (Str × Addr)))))) = pure cl /\
   (∀ y c, cl.lookup y = some c -> acc.lookup y = some c \/ ((y, NameKind.free) ∈ names /\ env.cells.lookup y = some c)) /\
   (∀ y, (y, NameKind.free) ∈ names -> cl.lookup y = env.cells.lookup y) /\ (∀ y, (∀ k, (y, k) ∈ names -> k ≠ NameKind.free) -> cl.lookup y = acc.lookup y)
 | [], acc, _ => ⟨acc, rfl, fun y c h => .inl h, fun y h => (nomatch h), fun y _ => rfl⟩
 | (n, k) :: r, acc, h => by
  by_cases hk : k = NameKind.free
  ·subst hk
   obtain ⟨c, hc⟩ := h n List.mem_cons_self
   obtain ⟨cl, h1, h2, h3, h4⟩ := f2r r ((n, c) :: acc) fun y hy => h y (List.mem_cons_of_mem _ hy)
   have e : cellOf env n = pure c := by unfold cellOf; rw [hc]
   refine ⟨cl, ?_, fun y d hd => ?_, fun y hy => ?_, fun y hy => ?_⟩
   ·rw [List.forIn_cons]
    simp only [beq_self_eq_true, if_true, e, pure_bind]
    exact h1
   ·rcases h2 y d hd with z | ⟨z1, z2⟩
    ·rw [List.lookup_cons] at z
     by_cases hy : y = n
     ·subst hy
      simp only [beq_self_eq_true] at z
      cases z
      exact .inr ⟨List.mem_cons_self, hc⟩
     ·have : (y == n) = false := by simpa using hy
      rw [this] at z
      exact .inl z
    ·exact .inr ⟨List.mem_cons_of_mem _ z1, z2⟩
   ·by_cases hr : (y, NameKind.free) ∈ r
    ·exact h3 y hr
    ·rcases List.mem_cons.mp hy with z | z
     ·cases z
      by_cases hq : ∃ k, (n, k) ∈ r /\ k = NameKind.free
      ·obtain ⟨k, z, rfl⟩ := hq
       exact absurd z hr
      ·rw [h4 n fun k hk e => hq ⟨k, hk, e⟩, List.lookup_cons]
       simp only [beq_self_eq_true]
       exact hc.symm
     ·exact absurd z hr
   ·have hn : y ≠ n := fun e => by
     subst e
     exact hy _ List.mem_cons_self rfl
    rw [h4 y fun k hk => hy k (List.mem_cons_of_mem _ hk), List.lookup_cons]
    have : (y == n) = false := by simpa using hn
    rw [this]
  ·obtain ⟨cl, h1, h2, h3, h4⟩ := f2r r acc fun y hy => h y (List.mem_cons_of_mem _ hy)
   have hb : (k == NameKind.free) = false := by simpa using hk
   refine ⟨cl, ?_, fun y d hd => ?_, fun y hy => ?_, fun y hy => h4 y fun k hk => hy k (List.mem_cons_of_mem _ hk)⟩
   ·rw [List.forIn_cons]
    simp only [hb, Bool.false_eq_true, if_false, pure_bind]
    exact h1
   ·rcases h2 y d hd with z | ⟨z1, z2⟩
    ·exact .inl z
    ·exact .inr ⟨List.mem_cons_of_mem _ z1, z2⟩
   ·rcases List.mem_cons.mp hy with z | z
    ·cases z
     exact absurd rfl hk
    ·exact h3 y z
theorem d2w {env : Env} {sc : Scope} (h : ∀ y, (y, NameKind.free) ∈ sc.names -> ∃ c, env.cells.lookup y = some c) :
  ∃ cl, closureFor sc env = pure cl /\ (∀ y c, cl.lookup y = some c -> (y, NameKind.free) ∈ sc.names /\ env.cells.lookup y = some c) /\ (∀ y, (y, NameKind.free) ∈ sc.names -> cl.lookup y = env.cells.lookup y) := by
 obtain ⟨cl, h1, h2, h3, _⟩ := f2r (env := env) sc.names [] h
 refine ⟨cl, ?_, fun y c hy => (h2 y c hy).elim (fun z => nomatch z) id, h3⟩
 unfold closureFor
 show (forIn sc.names [] _ >>= fun cs => pure cs) = pure cl
 rw [bind_pure]
 exact h1
end L2
namespace L2
open PySem PySem.Spec PyProof.Rows
noncomputable def mask (x : Str) (N : List Str) : List Str := N.map fun y => if y = x then "" else y
noncomputable def a7t (X : Cx) (scope : Scope) (cl : List (Str × Addr)) (C : Addr) (s₃ : Shared) (H₃ : Hp) (fp : List Addr) (x : Str) : Cx where
 prog := X.prog
 w := X.w
 K := X.K
 mg := X.mg
 base := X.base
 A := X.A
 N := x :: mask x X.N
 s₀ := s₃
 H₀ := H₃
 env := compEnvC scope cl C X.env
 outer := X.stack
 stack := X.stack
 ex := fp
 fn := fun _ => false
 calm := X.calm
 pn := []
 xe := fun _ _ => False
noncomputable def a2i (D : Addr) (H H' : Hp) : Prop := ∀ b o, b ≠ D -> H b = some o -> H' b = some o
theorem a2i.upd {D : Addr} {H : Hp} {o : HO} : a2i D H (upd H D o) := fun b u hb e => by rw [a3u hb]; exact e
noncomputable def g4f (J : It) (te : TE) (D : Addr) (σ : St) (H : Hp) (Q : VK) (_ : Tag Q) : Prop := ∃ (n : Nat) (W : Nat -> List V -> Hp -> Prop), W 0 [] H /\ ∀ i ys H, i <= n -> W i ys H -> H D = some (.lst ys) /\
 ((J.stop i H /\ Q (.ref D) H) \/ (i < n /\ J.go i H /\ ys.length < sizeLine /\ ∀ x H', J.yld i H x H' -> te (some x :: σ) H' fun y H2 => H2 D = some (.lst ys) /\
  ∀ H3, a2i D H2 H3 -> H3 D = some (.lst (ys ++ [y])) -> W (i + 1) (ys ++ [y]) H3))
noncomputable def l1x (wi : TI) (te : TE) : TE := fun σ H Q => wi σ H fun J H1 => ∀ D H2, H1 D = none -> Same H1 H2 -> H2 D = some (.lst []) -> g4f J te D σ H2 Q ⟨⟩
theorem c2i {env : Env} {x : Str} : ∀ (names : List (Str × NameKind)) (k : NameKind), (names.map fun (n, k) => if (k == NameKind.free && env.scope.kind == .function && env.kindOf n == some .cell) then (n, NameKind.cell) else (n, k)).lookup x = some k ->
  (names.lookup x = some k) \/ (k = .cell /\ names.lookup x = some .free)
 | [], k, e => by cases e
 | (n, q) :: r, k, e => by
  rw [List.map_cons] at e
  dsimp only at e
  rw [List.lookup_cons]
  cases hx : (x == n) with
  | true =>
   by_cases hc : (q == NameKind.free && env.scope.kind == .function && env.kindOf n == some .cell) = true
   ·rw [if_pos hc, List.lookup_cons, hx] at e
    have : q = .free := by
     simp only [Bool.and_eq_true, beq_iff_eq] at hc
     exact hc.1.1
    subst this
    cases e
    exact .inr ⟨rfl, rfl⟩
   ·rw [if_neg hc, List.lookup_cons, hx] at e
    exact .inl e
  | false =>
   have e' : (r.map fun (n, k) => if (k == NameKind.free && env.scope.kind == .function && env.kindOf n == some .cell) then (n, NameKind.cell) else (n, k)).lookup x = some k := by
    by_cases hc : (q == NameKind.free && env.scope.kind == .function && env.kindOf n == some .cell) = true
    ·rw [if_pos hc, List.lookup_cons, hx] at e
     exact e
    ·rw [if_neg hc, List.lookup_cons, hx] at e
     exact e
   exact c2i r k e'
theorem b5j {env : Env} {sc : Scope} {x : Str} (h : (relabel sc env).names.lookup x = some .cell \/ (relabel sc env).names.lookup x = some .free) : (x, NameKind.free) ∈ sc.names \/ (x, NameKind.cell) ∈ sc.names := by
 rcases h with h | h
 ·rcases c2i sc.names _ h with z | ⟨_, z⟩
  ·exact .inr (PySem.mem_of_lookup z)
  ·exact .inl (PySem.mem_of_lookup z)
 ·rcases c2i sc.names _ h with z | ⟨z, _⟩
  ·exact .inl (PySem.mem_of_lookup z)
  ·cases z
structure b7y (X : Cx) (scope : Scope) (x : Str) : Prop where
 kind : scope.kind = .function
 f6j : ∀ y ∈ scope.names, y.2 ≠ .cell
 loc : ∀ y ∈ scope.names, y.2 = .local -> scope.names.lookup y.1 = some .local
 own : scope.names.lookup x = some .local
 free : ∀ y ∈ scope.names, y.2 = .free -> X.env.kindOf y.1 = some .cell \/ X.env.kindOf y.1 = some .free
 nd : (x :: mask x X.N).Nodup
 noe : ∀ y ∈ scope.names, y.1 ≠ ""
 vis : ∀ y ∈ mask x X.N, scope.names.lookup y ≠ some .local
section
variable {X : Cx} {scope : Scope} {x : Str} {cl : List (Str × Addr)} {pins : List (Addr × Obj)} {σ : St} {H : Hp} {s s₄ : Shared} {fp : List Addr}
theorem Inv.comp (S : b7y X scope x) (I : Inv X pins σ H s) (hcl : ∀ y c, cl.lookup y = some c -> (y, NameKind.free) ∈ scope.names /\ X.env.cells.lookup y = some c) (hcl2 : ∀ y, (y, NameKind.free) ∈ scope.names -> cl.lookup y = X.env.cells.lookup y)
  (hfp : ∀ b ∈ fp, g0a X pins H b) (hlt : ∀ b ∈ fp, b < s.heap.objs.size) {m : Str -> Option Value} (hns : s₄.heap.Ns s.heap.objs.size m) (hk : ∀ b o, s.heap.get? b = some o -> s₄.heap.get? b = some o) (hos : s₄.os = s.os) (hg : s₄.gens = s.gens) :
  Inv (a7t X scope cl s.heap.objs.size s H fp x) [] (none :: σ) H s₄ := by
 have below : ∀ {b : Addr} {o : Obj}, s.heap.get? b = some o -> b ≠ s.heap.objs.size := fun e => Nat.ne_of_lt (Heap.lt_size e)
 refine ⟨⟨I.ok.mod, ?_, I.ok.glob, I.ok.blt, Nat.le_refl _, fun y z c h1 h2 => I.ok.inj y z c (hcl y c h1).2 (hcl z c h2).2, fun y hy => ?_, (fun y c h => nomatch h), I.ok.hd, I.ok.frames, .inl rfl, fun b hb => ⟨Nat.ne_of_lt (hlt b hb), fun y c e => (hfp b hb).2.2.2.2.1 y c (hcl y c e).2⟩,
  fun b o e => I.bs b o e, Nat.le_trans I.ok.bsz I.sz, fun b o e hb => ?_, fun b hb hf => ?_, I.stack, I.i3t⟩,
  hos, by rw [hg]; exact I.bare, Un.kept hk, ⟨m, hns, fun i y v h1 h2 h3 => ?_⟩, fun y c e => ?_, I.hok.fresh (Nat.le_refl _), fun y c e => I.f0n y c (hcl y c e).2, fun p hp => absurd (show p ∈ ([] : List (Addr × Obj)) from hp) (by simp), I.hok.kept hk, by show (none :: σ).length = (x :: mask x X.N).length; rw [List.length_cons, List.length_cons, mask, List.length_map, I.len]⟩
 ·exact S.kind
 ·rcases b5j (env := X.env) (sc := scope) (x := y) hy with z | z
  ·obtain ⟨c, hc⟩ := I.ok.has y (S.free _ z rfl)
   exact ⟨c, (hcl2 y z).trans hc⟩
  ·exact absurd rfl (S.f6j _ z)
 ·rcases (hfp b hb).2.2.2.1 with z | z
  ·exact I.ok.k5s b o e z
  ·exact absurd (Nat.lt_of_lt_of_le (Heap.lt_size (I.ok.bs b o e).1) z) (Nat.lt_irrefl _)
 ·rcases List.mem_cons.mp (I.f9w b hf) with z | z
  ·exact (hfp b hb).2.1 z
  ·exact (hfp b hb).2.2.1 z
 ·cases i with
  | zero => cases h2
  | succ i =>
   have h1m : (mask x X.N)[i]? = some y := by simpa [a7t] using h1
   have h2' : σ[i]? = some (some v) := by simpa using h2
   have hyN : y ∈ mask x X.N := List.mem_of_getElem? h1m
   have hc : (relabel scope X.env).names.lookup y = some .cell \/ (relabel scope X.env).names.lookup y = some .free := by
    rcases h3 with z | z | z
    ·exfalso
     rcases c2i (env := X.env) scope.names _ z with q | ⟨q, _⟩
     ·exact S.vis y hyN q
     ·cases q
    ·exact .inl z
    ·exact .inr z
   have hfr : (y, NameKind.free) ∈ scope.names := by
    rcases b5j hc with z | z
    ·exact z
    ·exact absurd rfl (S.f6j _ z)
   have h1' : X.N[i]? = some y := by
    rw [mask, List.getElem?_map] at h1m
    obtain ⟨z, hz, e⟩ := Option.map_eq_some_iff.mp h1m
    by_cases hzx : z = x
    ·rw [if_pos hzx] at e
     exact absurd e.symm (S.noe _ hfr)
    ·rw [if_neg hzx] at e
     rw [hz, e]
   obtain ⟨mX, hnX, hl⟩ := I.loc
   have hk2 := S.free _ hfr rfl
   have l7f : Vis X.env.scope y := by
    rcases hk2 with z | z
    ·exact .inr (.inl z)
    ·exact .inr (.inr z)
   obtain ⟨u, ru, lk⟩ := hl i y v h1' h2' l7f
   refine ⟨u, ru, .inr ⟨hc, ?_⟩⟩
   rcases lk with ⟨z, _⟩ | ⟨_, c, ec, o, ho, hd⟩
   ·rcases hk2 with q | q
    ·rw [q] at z; cases z
    ·rw [q] at z; cases z
   ·exact ⟨c, (hcl2 y hfr).trans ec, o, hk c o ho, hd⟩
 ·obtain ⟨v, o, ho, hd⟩ := I.cell y c (hcl y c e).2
  exact ⟨v, o, hk c o ho, hd⟩
theorem Inv.k4r {σ' : St} {H' : Hp} {s' : Shared} {h' : Heap} (I : Inv X pins σ H s) (hfp : ∀ b ∈ fp, g0a X pins H b) (J : Inv (a7t X scope cl s.heap.objs.size s H fp x) [] σ' H' s') (hs : Heap.SameBut s.heap.objs.size s'.heap h') :
  Inv X pins σ H' { s' with heap := h' } := by
 have ne : ∀ {b : Addr} {o : Obj}, s.heap.get? b = some o -> b ≠ s.heap.objs.size := fun e => Nat.ne_of_lt (Heap.lt_size e)
 have u := J.base
 have u' : Un (frs X.stack) fp H H' s.heap h' := ⟨fun b o e n hb hx => hs.extBut b o (ne e) (u.keep b o e n hb hx), fun b o e n hb hx => (u.slot b o e n hb hx).elim fun sl q => ⟨sl, hs.extBut b _ (ne e) q⟩, u.free,
  fun b o e hx => (u.there b o e hx).elim fun o' q => ⟨o', hs.extBut b o' (ne e) q⟩, u.tups, u.i3o, u.i3s⟩
 have nC : ∀ {b : Addr} {o : HO}, H' b = some o -> b ≠ s.heap.objs.size := fun {b o} e z => by
  have f : H' s.heap.objs.size = none := J.free
  rw [z, f] at e; cases e
 have ok : HOk X.prog X.w H' h' := fun b o e => (J.hok b o e).stay (fun c v hc q => hs.extBut c v (by
  rcases hc with z | z
  ·rw [z]; exact nC e
  ·exact nC z) q) (fun _ q => q) fun _ _ q => q
 exact I.call' (s' := { s' with heap := h' }) (ch := fp) J.os u' ok J.bare fun b hb => ⟨(hfp b hb).2.2.2.1, (hfp b hb).2.1, (hfp b hb).2.2.2.2.1, (hfp b hb).2.2.2.2.2⟩
end
end L2
namespace L2
open PySem PySem.Spec PyProof.Rows
section
variable {X : Cx} {scope : Scope} {x : Str} {pins : List (Addr × Obj)} {σ : St} {elt iter : Expr} {px pos : Pos} {wi : TI} {te : TE}
theorem g8e {s₂ : Shared} {H1 : Hp} {it : Addr} {fp : List Addr} {tn : Nat -> Heap -> Prop} {J : It} {Q : VK} {RR : Value -> Addr -> Result -> Shared -> Prop} {E : Value -> Shared -> Prop} {cl : List (Str × Addr)}
  (S : b7y X scope x) (hc : X.calm = true) (he : ∀ cl C s₃ H₃ fp, PE (a7t X scope cl C s₃ H₃ fp x) elt te)
  (hcl : ∀ y c, cl.lookup y = some c -> (y, NameKind.free) ∈ scope.names /\ X.env.cells.lookup y = some c) (hcl2 : ∀ y, (y, NameKind.free) ∈ scope.names -> cl.lookup y = X.env.cells.lookup y)
  (I2 : Inv X pins σ H1 s₂) (T : Turn X.prog X.w X.K (.Name x px) J fp it tn) (st2 : tn 0 s₂.heap) (f2 : ∀ b ∈ fp, g0a X pins H1 b) (h : ∀ D H2, H1 D = none -> Same H1 H2 -> H2 D = some (.lst []) -> g4f J te D σ H2 Q ⟨⟩)
  (hRR : ∀ (D C : Addr) (s' : Shared) (H' : Hp), (∃ m, s'.heap.Ns C m) -> (∀ h' , Heap.SameBut C s'.heap h' -> Inv X pins σ H' { s' with heap := h' }) -> g0a X pins H' C -> Q (.ref D) H' -> RR (.ref D) C (.ok .next) s') :
  wpAny (model X.prog X.w) X.A (newList []) (fun acc s₃ => wpAny (model X.prog X.w) X.A (newFunctionEnv scope X.env.globals cl [] X.env.qual none .none (some X.env)) (fun cenv s₄ =>
   codeAny (model X.prog X.w) X.A (.compStart (.ListComp elt [⟨.Name x px, iter, [], 0⟩] scope pos) 0 (.ref it) acc { cenv with scope := relabel scope X.env }) (RR acc cenv.locals) s₄) E s₃) E s₂ := by
 have hfr : H1 s₂.heap.objs.size = none := I2.hok.fresh (Nat.le_refl _)
 have hCW := h s₂.heap.objs.size _ hfr (Same.upd hfr) a3i
 refine wpAny_newObj_type ?_
 have I3 : Inv X pins σ (upd H1 s₂.heap.objs.size (.lst [])) { s₂ with heap := s₂.heap.push { cls := .type "list", data := .seq ([] : List Value).toArray }, toks := s₂.toks } :=
  I2.laid (t' := s₂.toks) (fun b u e => Heap.get?_push_of_some _ e) (Nat.le_refl _) ⟨Nat.zero_le _, [], 0, .nil, Heap.get?_push_size _ rfl⟩
 have nD : ∀ b ∈ fp, b ≠ s₂.heap.objs.size := fun b hb => by
  obtain ⟨o, e, _⟩ := T.obj 0 _ st2 b hb
  exact Nat.ne_of_lt (Heap.lt_size e)
 have f3 : ∀ b ∈ fp, g0a X pins (upd H1 s₂.heap.objs.size (.lst [])) b := fun b hb => ⟨by rw [a3u (nD b hb)]; exact (f2 b hb).1, (f2 b hb).2⟩
 generalize hH3 : upd H1 s₂.heap.objs.size (.lst []) = H3 at *
 have st3 : tn 0 (s₂.heap.push { cls := .type "list", data := .seq ([] : List Value).toArray }) := T.keep _ _ _ st2 fun b _ o e => Heap.get?_push_of_some _ e
 have j7u : ∀ b ∈ fp, b < (s₂.heap.push { cls := .type "list", data := .seq ([] : List Value).toArray }).objs.size := fun b hb => by
  obtain ⟨o, e, _⟩ := T.obj 0 _ st3 b hb
  exact Heap.lt_size e
 show wpAny (model X.prog X.w) X.A (newFunctionEnv scope X.env.globals cl [] X.env.qual none .none (some X.env)) _ E { s₂ with heap := s₂.heap.push { cls := .type "list", data := .seq ([] : List Value).toArray }, toks := s₂.toks }
 generalize hs3 : ({ s₂ with heap := s₂.heap.push { cls := .type "list", data := .seq ([] : List Value).toArray }, toks := s₂.toks } : Shared) = s₃ at *
 have eh : s₃.heap = s₂.heap.push { cls := .type "list", data := .seq ([] : List Value).toArray } := by rw [← hs3]
 rw [<- eh] at st3 j7u
 generalize s₂.heap.objs.size = D at *
 refine wpAny_newFunctionEnv S.f6j (by intro y hy; simp at hy) (fun h₁ hns₁ hsb₁ => ?_) S.kind
 have hk1 : ∀ b o, s₃.heap.get? b = some o -> h₁.get? b = some o := fun b o e => hsb₁.extBut b o (Nat.ne_of_lt (Heap.lt_size e)) (Heap.get?_push_of_some _ e)
 have J0 : Inv (a7t X scope cl s₃.heap.objs.size s₃ H3 fp x) [] (none :: σ) H3 { s₃ with heap := h₁, toks := s₃.toks + ([] : List (Str × Value)).length } := I3.comp S hcl hcl2 f3 j7u hns₁ hk1 rfl rfl
 obtain ⟨n0, W, w0, turn⟩ := hCW
 have loop : codeAny (model X.prog X.w) X.A (.compLoop (.ListComp elt [⟨.Name x px, iter, [], 0⟩] scope pos) 0 (.ref it) (.ref D) (compEnvC scope cl s₃.heap.objs.size X.env)) (RR (.ref D) s₃.heap.objs.size) { s₃ with heap := h₁, toks := s₃.toks + ([] : List (Str × Value)).length } := by
  refine codeAny_loop rfl (fun n s' => ∃ i ys o H', Inv (a7t X scope cl s₃.heap.objs.size s₃ H3 fp x) [] (o :: σ) H' s' /\ tn i s'.heap /\ (∀ b ∈ fp, H' b = none) /\ W i ys H' /\ i <= n0 /\ n = n0 - i) (fun n s5 hI => ?_) n0
   ⟨0, [], none, H3, J0, T.keep _ _ _ st3 (fun b _ o e => hk1 b o e), fun b hb => (f3 b hb).1, w0, Nat.zero_le _, rfl⟩
  obtain ⟨i, ys, o5, H5, I5, st5, fr5, w5, hin, hnn⟩ := hI
  have stat : ∀ {H' : Hp}, (∀ b ∈ fp, H' b = none) -> ∀ b ∈ fp, g0a (a7t X scope cl s₃.heap.objs.size s₃ H3 fp x) [] H' b := fun hn b hb =>
   ⟨hn b hb, Nat.ne_of_lt (j7u b hb), fun z => (List.mem_cons.mp (I3.f9w b z)).elim (fun q => (f3 b hb).2.1 q) fun q => (f3 b hb).2.2.1 q, .inl hb, fun y c e => (f3 b hb).2.2.2.2.1 y c (hcl y c e).2, fun p hp => absurd (show p ∈ ([] : List (Addr × Obj)) from hp) (by simp)⟩
  show wpAny _ X.A ((compTurn (.ListComp elt [⟨.Name x px, iter, [], 0⟩] scope pos) 0 (.ref it) (.ref D) (compEnvC scope cl s₃.heap.objs.size X.env)).onRaise (fun x => do noteFrame x (compEnvC scope cl s₃.heap.objs.size X.env); theTreesLotGoes x)) _ _ s5
  refine wpAny_noted ?_
  rw [compTurn_list1]
  refine wpAny_bind (wpAny_standAt (wpAny_bind ?_))
  obtain ⟨hD5, alt⟩ := turn i ys H5 hin w5
  rcases alt with ⟨stop, q⟩ | ⟨hlt, go, hsz, step⟩
  ·refine wpAny_mono (T.done (a7t X scope cl s₃.heap.objs.size s₃ H3 fp x) rfl rfl rfl hc i [] s5 _ H5 _ I5 (stat fr5) st5 stop) (fun r s6 ⟨hr, I6⟩ => ?_) fun _ _ z => z
   subst hr
   refine wpAny_pure ?_
   obtain ⟨m6, hn6, _⟩ := I6.loc
   exact hRR D s₃.heap.objs.size s6 H5 ⟨m6, hn6⟩ (fun h' hs' => I3.k4r f3 I6 hs') (I3.k1b (Nat.le_refl _) I6.free) q
  ·refine wpAny_mono (T.item (a7t X scope cl s₃.heap.objs.size s₃ H3 fp x) rfl rfl rfl hc i [] s5 _ H5 _ I5 (stat fr5) st5 go) (fun r s6 ⟨u, hr, h6⟩ => ?_) fun _ _ z => z
   subst hr
   refine wpAny_bind (wpAny_mono h6 (fun _ s7 ⟨v, H7, I7, r7, y7, st7, fr7⟩ => ?_) fun _ _ z => z)
   have I7' := I7.pinned (stat fr7) (T.obj _ _ st7)
   have G := a3v (X := a7t X scope cl s₃.heap.objs.size s₃ H3 fp x) (pos := px) (i := 0) (x := x) S.nd rfl (.inl (lookup_relabel_local S.own)) (.inr (lookup_relabel_local S.own))
   refine wpAny_bind (wpAny_mono (G _ s7 _ H7 v u (fun σ' H' => σ' = some v :: σ /\ H' = H7) I7' r7 ⟨rfl, rfl⟩) (fun _ s8 hs8 => ?_) fun _ _ z => False.elim z)
   obtain ⟨σ8, H8, I8, rfl, rfl⟩ := hs8
   refine wpAny_bind (wpAny_bind (wpAny_mono (he cl s₃.heap.objs.size s₃ H3 fp _ s8 _ _ _ I8 (step v H8 y7)) (fun yv s9 hs9 => ?_) fun _ _ z => False.elim z))
   obtain ⟨y, H9, I9, r9, hD9, k9⟩ := hs9
   refine wpAny_bind (wpAny_mono (f0p (X := a7t X scope cl s₃.heap.objs.size s₃ H3 fp x) _ s9 _ H9 (.ref D) [y] (.ref D) [yv] (fun _ H' => H' = upd H9 D (.lst (ys ++ [y]))) I9 rfl (.cons r9 .nil) ⟨D, ys, y, rfl, rfl, hD9, hsz, rfl⟩) (fun _ sA hsA => ?_) fun _ _ z => False.elim z)
   obtain ⟨_, HA, IA, _, rfl⟩ := hsA
   refine wpAny_pure ?_
   have wA := k9 _ a2i.upd a3i
   refine wpAny_pure ⟨rfl, n0 - (i + 1), by omega, i + 1, ys ++ [y], some v, _, IA.c3q (pins := []) (pl := f6h fp s7.heap), T.keep _ _ _ st7 (fun b hb o e => (IA.pin (b, o) (List.mem_append_right _ (List.mem_append_right _ (a7q hb e)))).1), fun b hb => ?_, wA, hlt, rfl⟩
   obtain ⟨o, e, d⟩ := T.obj _ _ st7 b hb
   exact (IA.pin (b, o) (List.mem_append_right _ (List.mem_append_right _ (a7q hb e)))).2.1
 exact codeAny_compStart_list loop (T.self _ 0 _ _ _ (T.keep _ _ _ st3 fun b _ o e => hk1 b o e) loop)
theorem b7z (hi : PI X (.Name x px) iter wi) (he : ∀ cl C s₃ H₃ fp, PE (a7t X scope cl C s₃ H₃ fp x) elt te) (S : b7y X scope x) (hc : X.calm = true)
  (hs : ∀ x, foldedSetIterable iter X.env x = pure x := by intro _; rfl) : PE X (.ListComp elt [⟨.Name x px, iter, [], 0⟩] scope pos) (l1x wi te) := by
 intro pins s σ H Q I h
 obtain ⟨cl, hclos, hcl, hcl2⟩ := d2w (env := X.env) (sc := scope) fun y hy => I.ok.has y (S.free _ hy rfl)
 rw [eval_ListComp]
 refine wpAny_comprehension_free (use := none) rfl hs hclos S.kind S.loc ?_
 refine thn (hi pins s σ H _ I h) fun v s1 h1 => thn h1 fun itv s2 h2 => ?_
 obtain ⟨it, fp, tn, J, H2, e, I2, T, st2, f2, hW⟩ := h2
 subst e
 exact g8e (RR := fun acc C => compPost (model X.prog X.w) X.A X.xe none (EP X pins σ Q) acc C) S hc he hcl hcl2 I2 T st2 f2 hW fun D C s' H' hm hI _ hq =>
  hm.elim fun m hn => ⟨m, hn, fun h' hs' => ⟨.ref D, H', hI h' hs', rfl, hq⟩⟩
theorem i4c {i : Nat} {y : Str} {py spos : Pos} (hN : X.N.Nodup) (hyi : X.N[i]? = some y) (hy : X.env.scope.names.lookup y = some .local) (hi : PI X (.Name x px) iter wi) (he : ∀ cl C s₃ H₃ fp, PE (a7t X scope cl C s₃ H₃ fp x) elt te) (S : b7y X scope x) (hc : X.calm = true)
  (hsw : swapsWith (.ListComp elt [⟨.Name x px, iter, [], 0⟩] scope pos) (some (.Name y py)) spos.line X.env = pure true := by rfl)
  (hs : ∀ x, foldedSetIterable iter X.env x = pure x := by intro _; rfl) : PS X (.Assign [.Name y py] (.ListComp elt [⟨.Name x px, iter, [], 0⟩] scope pos) spos) (l6a (l1x wi te) (k1a i)) := by
 intro pins s σ H D I h
 obtain ⟨cl, hclos, hcl, hcl2⟩ := d2w (env := X.env) (sc := scope) fun y hy => I.ok.has y (S.free _ hy rfl)
 rw [exec_Assign_Name_used _ _ _ _ hsw]
 refine wpAny_bind (wpAny_standAt (wpAny_bind ?_))
 show wpAny _ X.A (do let _ <- comprehension (.ListComp elt [⟨.Name x px, iter, [], 0⟩] scope pos) scope X.env _ (newList []) false (eval iter X.env) (some (assign (.Name y py) X.env))) _ _ s
 refine wpAny_bind (wpAny_mono (wpAny_comprehension_free (use := some (assign (.Name y py) X.env)) (Q := fun _ s' => SP X pins D .next s') rfl hs hclos S.kind S.loc ?_) (fun _ s' hq => wpAny_pure (wpAny_pure hq)) fun _ _ e => e)
 refine thn (hi pins s σ H _ I h) fun v s1 h1 => thn h1 fun itv s2 h2 => ?_
 obtain ⟨it, fp, tn, J, H2, e, I2, T, st2, f2, hW⟩ := h2
 subst e
 refine g8e (Q := fun v H' => D.nx (σ.set i (some v)) H') (RR := fun acc C => compPost (model X.prog X.w) X.A X.xe (some (assign (.Name y py) X.env)) (fun _ s' => SP X pins D .next s') acc C) S hc he hcl hcl2 I2 T st2 f2 hW fun L C s' H' hm hI hfp hq => ?_
 obtain ⟨m, hn⟩ := hm
 have I' : Inv X pins σ H' s' := hI s'.heap (Heap.SameBut.refl ..)
 show wpAny _ X.A (assign (.Name y py) X.env (.ref L)) _ _ s'
 refine wpAny_assign_Name (f9y (v := .ref L) I' hN hyi (.inl hy) rfl (fun s'' I'' hsb => ?_) (.inr hy))
 obtain ⟨a, hsame, ha⟩ := hsb
 have nea : C ≠ a := by
  rcases ha with z | z
  ·rw [z]; exact hfp.2.1
  ·exact fun q => hfp.2.2.2.2.1 y a z q.symm
 refine ⟨m, hn.sameBut hsame nea, fun h' hs' => ⟨_, H', I''.turned (t' := s''.toks) (it := C) (fun b o hb e => hs'.extBut b o hb e) hfp.1 hfp.2.1 hfp.2.2.2.1 hfp.2.2.2.2.1 hfp.2.2.2.2.2, hq⟩⟩
end
theorem b3j {K : PySem.W.Frag} {a D : Addr} {xs : List V} {te : TE} {σ : St} {H : Hp} {Q : VK} (Pv : Nat -> List V -> Hp -> Prop) (h0 : Pv 0 [] H) (hsz : xs.length <= sizeLine)
  (hD : ∀ i ys H, i <= xs.length -> Pv i ys H -> H D = some (.lst ys) /\ SqL K H a xs /\ ys.length = i)
  (hs : ∀ i x ys H, xs[i]? = some x -> Pv i ys H -> te (some x :: σ) H fun y H2 => H2 D = some (.lst ys) /\ ∀ H3, a2i D H2 H3 -> H3 D = some (.lst (ys ++ [y])) -> Pv (i + 1) (ys ++ [y]) H3)
  (hd : ∀ ys H, Pv xs.length ys H -> Q (.ref D) H) : g4f (Itl K a) te D σ H Q ⟨⟩ := by
 refine ⟨xs.length, Pv, h0, fun i ys H hi p => ?_⟩
 obtain ⟨e1, e2, e3⟩ := hD i ys H hi p
 refine ⟨e1, ?_⟩
 by_cases hlt : i < xs.length
 ·refine .inr ⟨hlt, ⟨xs, xs[i], e2, by simp [hlt]⟩, by omega, fun x H' y => ?_⟩
  obtain ⟨e, y⟩ := y
  subst e
  exact hs i x ys _ (y xs e2) p
 ·have e : i = xs.length := by omega
  subst e
  exact .inl ⟨⟨xs, e2, Nat.le_refl _⟩, hd ys H p⟩
theorem d4u {D : Addr} {lo : Int} {n : Nat} {te : TE} {σ : St} {H : Hp} {Q : VK} (Pv : Nat -> List V -> Hp -> Prop) (h0 : Pv 0 [] H) (hsz : n <= sizeLine)
  (hD : ∀ i ys H, i <= n -> Pv i ys H -> H D = some (.lst ys) /\ ys.length = i)
  (hs : ∀ i ys H, i < n -> Pv i ys H -> te (some (.int (lo + i)) :: σ) H fun y H2 => H2 D = some (.lst ys) /\ ∀ H3, a2i D H2 H3 -> H3 D = some (.lst (ys ++ [y])) -> Pv (i + 1) (ys ++ [y]) H3)
  (hd : ∀ ys H, Pv n ys H -> Q (.ref D) H) : g4f (Itr lo n) te D σ H Q ⟨⟩ := by
 refine ⟨n, Pv, h0, fun i ys H hi p => ?_⟩
 obtain ⟨e1, e3⟩ := hD i ys H hi p
 refine ⟨e1, ?_⟩
 by_cases hlt : i < n
 ·refine .inr ⟨hlt, hlt, by omega, fun x H' y => ?_⟩
  obtain ⟨e, y⟩ := y
  subst e y
  exact hs i ys _ hlt p
 ·have e : i = n := by omega
  subst e
  exact .inl ⟨Nat.le_refl _, hd ys H p⟩
theorem Same.step {D : Addr} {H0 H H' : Hp} (S : Same H0 H) (n : H0 D = none) (s : a2i D H H') : Same H0 H' := fun b o e => s b o (a5g e n) (S b o e)
theorem j1v {D : Addr} {lo : Int} {n : Nat} {te : TE} {σ : St} {H0 H : Hp} {Q : VK} (g : Nat -> V) (n0 : H0 D = none) (S : Same H0 H) (hD : H D = some (.lst [])) (hsz : n <= sizeLine)
  (hs : ∀ (i : Nat) H' (Q' : VK), i < n -> Same H0 H' -> Q' (g i) H' -> te (some (.int (lo + i)) :: σ) H' Q') (q : ∀ H', Same H0 H' -> H' D = some (.lst ((List.range n).map g)) -> Q (.ref D) H') : g4f (Itr lo n) te D σ H Q ⟨⟩ := by
 refine d4u (fun i ys H' => Same H0 H' /\ H' D = some (.lst ys) /\ ys = (List.range i).map g) ⟨S, hD, by simp⟩ hsz (fun i ys H' hi p => ?_) (fun i ys H' hx p => ?_) (fun ys H' p => ?_)
 ·refine ⟨p.2.1, ?_⟩
  rw [p.2.2, List.length_map, List.length_range]
 ·refine hs i H' _ hx p.1 ⟨p.2.1, fun H3 s3 h3 => ⟨p.1.step n0 s3, h3, ?_⟩⟩
  rw [p.2.2, List.range_succ, List.map_append]
  rfl
 ·refine q H' p.1 ?_
  rw [p.2.1, p.2.2]
noncomputable def k4s (sc scope : Scope) (x : Str) (N : List Str) : Bool :=
 (scope.kind == .function) && scope.names.all (fun y => y.2 != .cell) && scope.names.all (fun y => y.2 != .local || scope.names.lookup y.1 == some .local) && (scope.names.lookup x == some .local) &&
 scope.names.all (fun y => y.2 != .free || (sc.names.lookup y.1 == some .cell || sc.names.lookup y.1 == some .free)) && decide ((x :: mask x N).Nodup) && scope.names.all (fun y => y.1 != "") && (mask x N).all (fun y => scope.names.lookup y != some .local)
theorem d3k {X : Cx} {sc scope : Scope} {x : Str} {N : List Str} (hsc : X.env.scope = sc) (hN : X.N = N) (h : k4s sc scope x N = true) : b7y X scope x := by
 subst hN hsc
 unfold k4s at h
 simp only [Bool.and_eq_true, List.all_eq_true, beq_iff_eq, Bool.or_eq_true, bne_iff_ne, ne_eq, decide_eq_true_eq] at h
 obtain ⟨⟨⟨⟨⟨⟨⟨h1, h2⟩, h3⟩, h4⟩, h5⟩, h6⟩, h7⟩, h8⟩ := h
 exact ⟨h1, h2, fun y hy e => (h3 y hy).resolve_left fun z => z e, h4, fun y hy e => (h5 y hy).resolve_left fun z => z e, h6, h7, h8⟩
end L2
namespace L2
open PySem PySem.Spec PyProof.Rows
noncomputable def l7g : V -> Hp -> Bool := fun x H => match x with
 | .ref l => (match H l with
  | some (.lst _) => true
  | _ => false)
 | _ => false
noncomputable def l1y : V -> Hp -> Bool := fun x _ => match x with
 | .str _ => true
 | _ => false
theorem a4m {K : PySem.W.Frag} : ∀ x H, l7g x H = true → tyV K "list" x H := fun x H h => by
 cases x with
 | ref l =>
  have h' : (match H l with
   | some (.lst _) => true
   | _ => false) = true := h
  split at h'
  ·rename_i xs e
   exact .inl ⟨rfl, xs, SqL.of e⟩
  ·cases h'
 | _ => cases h
theorem b8g {K : PySem.W.Frag} : ∀ x H, l1y x H = true → tyV K "str" x H := fun x H h => by
 cases x with
 | str z => exact rfl
 | _ => cases h
noncomputable def tBMF (chk : V -> Hp -> Bool) (r : V -> List V -> Hp -> VK -> Prop) (to : TE) (t : TA) : TE := fun σ H Q => to σ H fun x H1 => chk x H1 = true /\ t σ H1 fun xs H2 => r x xs H2 Q
section
variable {X : Cx} {o e : Expr} {es : List Expr} {to : TE} {t : TA} {name : Str} {apos cpos : Pos} {T id : String} {r r' : V -> List V -> Hp -> VK -> Prop} {chk : V -> Hp -> Bool}
theorem MtR.weak (h : MtR X id r) (q : ∀ x xs H Q, r' x xs H Q -> r x xs H Q) : MtR X id r' := fun pins s σ H x xs v us Q I rx rs hr => h pins s σ H x xs v us Q I rx rs (q x xs H Q hr)
theorem a7o (hchk : ∀ x H, chk x H = true → tyV X.K T x H) (pa : PlainAttrs T) (slot : Slot T name id) (hty : typeOf (.builtin id) = pure (.type "method_descriptor")) (hm : MtR X id r) (ho : PE X o to) (ha : PA X (e :: es) t)
  (hbase : attributeBase o name X.env (eval o X.env) = eval o X.env := by rfl)
  (hfew : ((backTo cpos (starEach (e :: es) X.env)).all (fun x => !x.1) && (backToKw cpos (keywordEach [] X.env)).all (fun x => x.1.isSome)
   && decide ((e :: es).length + ([] : List Keyword).length + (if ([] : List Keyword).isEmpty then 0 else 1) < 30)) = true := by rfl)
  (hline : (apos.endLine == cpos.line) = true := by rfl) (hs : starEach (e :: es) X.env = (false, eval e X.env) :: starEach es X.env := by rfl) (hplain : (backTo cpos (starEach es X.env)).any (·.1) = false := by rfl) :
  PE X (.Call (.Attribute o name apos) (e :: es) [] cpos) (tBMF chk r to t) := by
 intro pins s σ H Q I h
 refine wpAny_Call_method_late hbase hfew hline rfl (thn (ho pins s σ H _ I h) fun v s1 ⟨x, H1, I1, r1, ty, q1⟩ => ?_)
 obtain ⟨h1, h2⟩ := k4f I1 r1 (hchk x H1 ty)
 refine ⟨T, id, pa, slot, hty, h1, h2, ?_⟩
 have hA := ha cpos pins s1 σ H1 _ I1 q1
 rw [hs] at hA ⊢
 refine Calls.callWith_builtin (by show (false || (backTo cpos (starEach es X.env)).any (·.1)) = false; rw [hplain] <;> rfl) (Calls.evalArgs_plain ?_)
 exact thn hA fun us s2 ⟨vs, H2, I2, r2, q2⟩ => hm pins s2 σ H2 x vs v us Q I2 r1 r2 q2
noncomputable def l7h : V -> List V -> Hp -> VK -> Prop := fun x vs H Q => match x, vs with
 | .ref l, [y] => (match H l with
  | some (.lst xs) => xs.length < sizeLine /\ All (fun v H1 => v = .non /\ a2i l H H1 /\ H1 l = some (.lst (xs ++ [y]))) Q ⟨⟩ ⟨⟩
  | _ => False)
 | _, _ => False
theorem a2s : MtR X "list.append" l7h := MtR.weak (r := j7f) f0p fun x vs H Q h => by
 match x, vs, h with
 | .ref l, [y], h =>
  have h' : (match H l with
   | some (.lst xs) => xs.length < sizeLine /\ All (fun v H1 => v = .non /\ a2i l H H1 /\ H1 l = some (.lst (xs ++ [y]))) Q ⟨⟩ ⟨⟩
   | _ => False) := h
  split at h'
  ·rename_i xs e
   exact ⟨l, xs, y, rfl, rfl, e, h'.1, h'.2 _ _ ⟨rfl, a2i.upd, a3i⟩⟩
  ·exact h'.elim
end
noncomputable def g8f {α : Type} (xs : List α) (lo hi : Option Int) : List α := (xs.drop (HT.sIx xs.length 0 lo)).take (HT.sIx xs.length xs.length hi - HT.sIx xs.length 0 lo)
theorem k1x {α β : Type} (f : α -> β) (xs : List α) (lo hi : Option Int) : g8f (xs.map f) lo hi = (g8f xs lo hi).map f := by
 unfold g8f
 rw [List.length_map, List.map_take, List.map_drop]
theorem j7v (ns : List Int) (lo hi : Option Int) : f9q (ns.map V.int) lo hi = (g8f ns lo hi).map V.int := k1x V.int ns lo hi
theorem k1y {α : Type} {xs : List α} {lo hi : Option Int} {x : α} (h : x ∈ g8f xs lo hi) : x ∈ xs := List.mem_of_mem_drop (List.mem_of_mem_take h)
theorem b5p {α : Type} (xs : List α) (a : Nat) : g8f xs (some (a : Int)) none = xs.drop a := by
 unfold g8f
 rw [HT.g9e, HT.k1j]
 by_cases h : a <= xs.length
 ·rw [Nat.min_eq_left h, List.take_of_length_le (by rw [List.length_drop] <;> exact Nat.le_refl _)]
 ·rw [Nat.min_eq_right (by omega), List.drop_length, List.drop_of_length_le (by omega)]
  simp
end L2
namespace L2
theorem d3l (F : Nat -> St -> Hp -> Prop) : ∃ Pv : Nat -> St -> Hp -> Prop, (∀ i σ H, F i σ H -> Pv i σ H) /\ ∀ i σ H, Pv i σ H -> F i σ H := ⟨F, fun _ _ _ h => h, fun _ _ _ h => h⟩
theorem i4d (F : St -> Hp -> Prop) : ∃ Pv : St -> Hp -> Prop, (∀ σ H, F σ H -> Pv σ H) /\ ∀ σ H, Pv σ H -> F σ H := ⟨F, fun _ _ h => h, fun _ _ h => h⟩
end L2
namespace L2
open PySem PySem.Spec PyProof.Rows
open PySem.Builtin.Int (intBits)
section
variable {X : Cx}
noncomputable def rSumF : List V -> Hp -> VK -> Prop := fun xs H Q => match xs with
 | [.ref p] => (match H p with
  | some (.lst ys) => ∃ ns : List Int, ys = ns.map V.int /\ Q (.int ns.sum) H
  | _ => False)
 | _ => False
end
noncomputable def Stop (p : Prop) (_ : Tag p) : Prop := p
theorem Stop.go {p : Prop} {t : Tag p} (h : p) : Stop p t := h
noncomputable def l9y (t u : TS) : TS := fun D σ H => t { D with nx := fun σ' H' => Stop (u D σ' H') ⟨⟩ } σ H
noncomputable def Hs (H : Hp) (fs : List (Addr × HO)) : Prop := (fs.map (·.1)).Nodup /\ ∀ p ∈ fs, H p.1 = some p.2
noncomputable def HsC (H : Hp) : List (Addr × HO) -> Prop
 | [] => True
 | (a, o) :: r => H a = some o ∧ HsC H r
theorem Hs.nil {H : Hp} : Hs H [] := ⟨List.nodup_nil, fun _ h => nomatch h⟩
theorem Hs.same {H H' : Hp} {fs : List (Addr × HO)} (F : Hs H fs) (S : Same H H') : Hs H' fs := ⟨F.1, fun p hp => S _ _ (F.2 p hp)⟩
theorem Hs.fresh {H : Hp} {fs : List (Addr × HO)} {a : Addr} (F : Hs H fs) (n : H a = none) : a ∉ fs.map (·.1) := fun h => by
 obtain ⟨p, hp, e⟩ := List.mem_map.mp h
 have := F.2 p hp
 rw [e, n] at this
 cases this
theorem Hs.new {H H' : Hp} {fs : List (Addr × HO)} {a : Addr} {o : HO} (F : Hs H fs) (n : H a = none) (S : Same H H') (h : H' a = some o) : Hs H' ((a, o) :: fs) := by
 refine ⟨?_, fun p hp => ?_⟩
 ·rw [List.map_cons, List.nodup_cons]
  exact ⟨F.fresh n, F.1⟩
 ·rcases List.mem_cons.mp hp with rfl | hp
  ·exact h
  ·exact S _ _ (F.2 p hp)
theorem Hs.put {H H' : Hp} {l r : List (Addr × HO)} {a : Addr} {o o' : HO} (F : Hs H (l ++ (a, o) :: r)) (S : a2i a H H') (h : H' a = some o') : Hs H' (l ++ (a, o') :: r) := by
 have e : (l ++ (a, o') :: r).map (·.1) = (l ++ (a, o) :: r).map (·.1) := by simp
 have nd : ((l ++ (a, o) :: r).map (·.1)).Nodup := F.1
 refine ⟨by rw [e]; exact nd, fun p hp => ?_⟩
 rw [List.map_append, List.map_cons, List.nodup_append] at nd
 have nr := (List.nodup_cons.mp nd.2.1).1
 rcases List.mem_append.mp hp with hp | hp
 ·refine S _ _ (fun z => ?_) (F.2 p (List.mem_append_left _ hp))
  exact nd.2.2 p.1 (List.mem_map.mpr ⟨p, hp, rfl⟩) a List.mem_cons_self z
 ·rcases List.mem_cons.mp hp with rfl | hp
  ·exact h
  ·refine S _ _ (fun z => nr ?_) (F.2 p (List.mem_append_right _ (List.mem_cons_of_mem _ hp)))
   rw [<- z]
   exact List.mem_map.mpr ⟨p, hp, rfl⟩
theorem Hs.get {H : Hp} : ∀ {fs : List (Addr × HO)}, Hs H fs -> HsC H fs
 | [], _ => trivial
 | (a, o) :: r, F => ⟨F.2 (a, o) List.mem_cons_self, Hs.get ⟨(List.nodup_cons.mp F.1).2, fun p hp => F.2 p (List.mem_cons_of_mem _ hp)⟩⟩
theorem Hs.drop {H : Hp} {l r : List (Addr × HO)} (F : Hs H (l ++ r)) : Hs H r := ⟨(List.nodup_append.mp (by rw [<- List.map_append]; exact F.1)).2.1, fun p hp => F.2 p (List.mem_append_right _ hp)⟩
theorem j7w {ns : List Int} {i : Nat} (h : i < ns.length) : atI (ns.map V.int) (i : Int) = some (.int (ns.getD i 0)) := by
 refine b2g ?_
 rw [List.getElem?_map, List.getElem?_eq_getElem h, List.getD_eq_getElem?_getD, List.getElem?_eq_getElem h]
 rfl
noncomputable def j1w (H : Hp) (cs : List Addr) (bs : List (List Int)) : Prop := cs.length = bs.length /\ ∀ (i : Nat) c b, cs[i]? = some c -> bs[i]? = some b -> H c = some (.lst (b.map V.int))
theorem j1w.same {H H' : Hp} {cs : List Addr} {bs : List (List Int)} (h : j1w H cs bs) (s : Same H H') : j1w H' cs bs := ⟨h.1, fun i c b e1 e2 => s _ _ (h.2 i c b e1 e2)⟩
theorem j1w.get {H : Hp} {cs : List Addr} {bs : List (List Int)} (h : j1w H cs bs) {i : Nat} {c : Addr} (e : cs[i]? = some c) : ∃ b, bs[i]? = some b /\ H c = some (.lst (b.map V.int)) := by
 have hi : i < cs.length := (List.getElem?_eq_some_iff.mp e).1
 have hb : i < bs.length := by rw [<- h.1]; exact hi
 exact ⟨bs[i], by simp [hb], h.2 i c _ e (by simp [hb])⟩
theorem j1w.snoc {H : Hp} {cs : List Addr} {bs : List (List Int)} {c : Addr} {b : List Int} (h : j1w H cs bs) (hc : H c = some (.lst (b.map V.int))) : j1w H (cs ++ [c]) (bs ++ [b]) := by
 refine ⟨by rw [List.length_append, List.length_append, h.1]; rfl, fun i c' b' e1 e2 => ?_⟩
 by_cases hi : i < cs.length
 ·rw [List.getElem?_append_left hi] at e1
  rw [List.getElem?_append_left (by rw [<- h.1]; exact hi)] at e2
  exact h.2 i c' b' e1 e2
 ·rw [List.getElem?_append_right (by omega)] at e1
  rw [List.getElem?_append_right (by rw [<- h.1]; omega)] at e2
  rw [<- h.1] at e2
  cases hz : i - cs.length with
  | zero =>
   rw [hz] at e1 e2
   simp at e1 e2
   subst e1 e2
   exact hc
  | succ n =>
   rw [hz] at e1
   simp at e1
theorem j1w.d4v {H H' : Hp} {x : Addr} {cs : List Addr} {bs : List (List Int)} (h : j1w H cs bs) (s : a2i x H H') (hx : x ∉ cs) : j1w H' cs bs :=
 ⟨h.1, fun i c b e1 e2 => s _ _ (fun z => hx (z ▸ List.mem_of_getElem? e1)) (h.2 i c b e1 e2)⟩
theorem j1w.two {H : Hp} {a b : Addr} {x y : List Int} (ha : H a = some (.lst (x.map V.int))) (hb : H b = some (.lst (y.map V.int))) : j1w H [a, b] [x, y] := by
 refine ⟨rfl, fun i c d e1 e2 => ?_⟩
 match i, e1, e2 with
 | 0, e1, e2 => cases e1; cases e2; exact ha
 | 1, e1, e2 => cases e1; cases e2; exact hb
 | i + 2, e1, e2 => simp at e1
noncomputable def h5h (H : Hp) (xs : List V) (v : V) (H' : Hp) : Prop := ∃ b, v = .ref b /\ H b = none /\ Same H H' /\ H' b = some (.lst xs)
noncomputable def g0k (H : Hp) (xs : List V) (v : V) (H' : Hp) : Prop := ∃ b, v = .ref b /\ H b = none /\ Same H H' /\ H' b = some (.tup xs)
noncomputable def c8m (q : Rat) : List V := [.int q.num, .int (q.den : Nat)]
end L2
namespace L2
open PySem PySem.Spec PyProof.Rows
noncomputable def CXE (P : Program) (w : World) : CXT := fun outer H s E e s' => ∃ (a : Addr) (C a0 : Value) (B : Heap) (H' : Hp), e = .ref a /\ Heap.FlyingW B outer a C a0 s'.heap /\ s'.os = s.os /\ AllBare s'.gens /\
 (∀ h', B.StaysIn h' -> s'.heap.UpToSlots h' -> Un (frs outer) [] H H' s.heap h' /\ HOk P w H' h') /\ H' a = none /\ s.heap.get? a = none /\ E C none H'
theorem b1z.obj {P : Program} {w : World} {H : Hp} {h : Heap} {a : Addr} {o : HO} (x : b1z P w H h a o) : ∃ u, h.get? a = some u := by
 cases o with
 | lst xs => obtain ⟨_, _, _, _, e⟩ := x; exact ⟨_, e⟩
 | tup xs => obtain ⟨_, _, _, ob, e, _⟩ := x; exact ⟨_, e⟩
 | dK kvs => obtain ⟨_, _, _, _, o, _, _, e, _⟩ := x; exact ⟨_, e⟩
 | dT kvs => obtain ⟨_, _, _, _, o, _, _, e, _⟩ := x; exact ⟨_, e⟩
 | set S n => obtain ⟨o, _, _, _, e, _⟩ := x; exact ⟨_, e⟩
 | ins C dx fs => obtain ⟨_, _, _, e, _⟩ := x; exact ⟨_, e⟩
 | own y => obtain ⟨_, e⟩ := x; exact ⟨_, e⟩
 | xd fs => obtain ⟨_, ⟨_, _, _, e, _⟩, _⟩ := x; exact ⟨_, e⟩
 | rng lo hi => obtain ⟨_, _, _, e⟩ := x; exact ⟨_, e⟩
 | frz ob u => obtain ⟨e, _⟩ := x; exact ⟨_, e⟩
 | tbl ps => exact ⟨_, (show h.get? a = some _ from x)⟩
 | met f y => exact ⟨_, (show h.get? a = some _ from x)⟩
 | ext φ => obtain ⟨_, ⟨_, e⟩, _⟩ := x; exact ⟨_, e⟩
section
variable {X : Cx} {pins : List (Addr × Obj)} {σ : St} {H : Hp} {s : Shared}
theorem Inv.caught {H' : Hp} {s' : Shared} {h' : Heap} {t' : Nat} (I : Inv X pins σ H s) (os : s'.os = s.os) (bare : AllBare s'.gens) (u : Un (frs X.stack) [] H H' s.heap h') (hok : HOk X.prog X.w H' h') : Inv X pins σ H' { s' with heap := h', toks := t' } := by
 obtain ⟨hh, g, d, t, os'⟩ := s'
 obtain rfl : os' = s.os := os
 exact Inv.call (s := s) (h' := h') (g' := g) (d' := d) (t' := t') (ch := []) I u hok bare (fun b z => absurd z (by simp))
theorem Inv.track {a : Addr} {o : HO} (I : Inv X pins σ H s) (h1 : X.s₀.heap.get? a = none) (h2 : a ≠ X.env.locals) (h3 : ∀ x c, X.env.cells.lookup x = some c -> c ≠ a) (h4 : ∀ p ∈ X.pn ++ pins, p.1 ≠ a) (hH : H a = none)
  (new : b1z X.prog X.w (upd H a o) s.heap a o) : Inv X pins σ (upd H a o) s := by
 refine ⟨I.ok, I.os, I.bare, ⟨I.base.keep, I.base.slot, fun b u q n hx => ?_, I.base.there, fun b xs q => ?_, fun b u xs q => ?_, fun b ps q => ?_⟩, I.loc, I.cell, ?_, fun x c e => ?_, fun p hp => ?_, fun b u e => ?_, I.len⟩
 ·rw [a3u (fun z => by rw [z, h1] at q; cases q)]
  exact I.base.free b u q n hx
 ·have z := I.base.tups b xs q
  rw [a3u (a5g z hH)]
  exact z
 ·have z := I.base.i3o b u xs q
  rw [a3u (a5g z hH)]
  exact z
 ·obtain ⟨m, z⟩ := I.base.i3s b ps q
  exact ⟨m, by rw [a3u (a5g z hH)]; exact z⟩
 ·rw [a3u h2.symm]
  exact I.free
 ·rw [a3u (h3 x c e)]
  exact I.f0n x c e
 ·obtain ⟨e, n, ne, nf, d⟩ := I.pin p hp
  exact ⟨e, by rw [a3u (h4 p hp)]; exact n, ne, nf, d⟩
 ·by_cases hb : b = a
  ·subst hb
   rw [a3i] at e
   cases e
   exact new
  ·rw [a3u hb] at e
   exact (I.hok b u e).stay (fun _ _ _ q => q) (fun c q => by rw [a3u (a5g q hH)]; exact q) fun c xs q => by rw [a3u (a5g q hH)]; exact q
end
section
variable {P : Program} {w : World} {K : PySem.W.Frag} {mg : Str -> Option Value} {base : Heap} {N : List Str} {qual : Str} {scope : Scope} {f : Addr} {cd : Value} {A : Around} {outer : List Env} {s : Shared} {H : Hp} {E : XK}
end
theorem a1n.or {P : Program} {w : World} {K : PySem.W.Frag} {mg : Str -> Option Value} {base : Heap} {k : Nat} {f : Addr} {fd : FuncData} {ps : List Str} {sp sp' : Sp} (F : a1n P w K mg base CX0 k f fd ps sp) (G : a1n P w K mg base (CXE P w) k f fd ps sp') :
  a1n P w K mg base (CXE P w) k f fd ps (fun vs H Q E => sp vs H Q E \/ sp' vs H Q E) := by
 refine ⟨fun vs H Q E h => h.elim (F.len vs H Q E) (G.len vs H Q E), fun A outer s H args us vs Q E hr e0 hb hv h => ?_⟩
 rcases h with h | h
 ·refine codeAny_mono (F.run A outer s H args us vs Q E hr e0 hb hv h) fun r s' q => ?_
  cases r with
  | error e => exact False.elim q
  | ok fl => cases fl <;> exact q
 ·exact G.run A outer s H args us vs Q E hr e0 hb hv h
noncomputable abbrev vE : List Value := [.type "ValueError", .type "Exception", .type "BaseException", .type "object"]
structure Exc (K : PySem.W.Frag) (C : Addr) : Prop where
 ok : PySem.W.excIn K C vE "ValueError.__new__" = true
section
variable {X : Cx} {e₀ : Expr} {rest : List Expr} {t : TA} {x : Str} {C : Addr} {E : XK} {np cpos pos : Pos}
noncomputable def l9z (C : Addr) (E : XK) (t : TA) : TS := fun _ σ H => t σ H fun vs H1 => vs.length <= sizeLine /\ E (.ref C) none H1
end
structure ExcQ (K : PySem.W.Frag) (C : Addr) : Prop where
 ga : PySem.W.findIn K (.ref C) "__getattribute__" = some (some (.builtin "BaseException.__getattribute__"))
 cl : PySem.W.findIn K (.ref C) "__class__" = some (some (.builtin "object.__class__"))
 ng : PySem.W.findIn K (.ref C) "__getattr__" = some none
 so : PySem.W.subIn K (.ref C) (.type "object") = some true
 sb : PySem.W.subIn K (.ref C) (.type "BaseException") = some true
 ty : PySem.W.typeIn K (.ref C) = some (.type "type")
 ic : PySem.W.isClsIn K C = true
 ss : PySem.W.subIn K (.ref C) (.ref C) = some true
section
variable {prog : Program} {w : World} {A : Around} {E : Value -> Shared -> Prop} {h : Heap} {g : Array GenState} {d : Drawn} {t : Nat} {os : OsState} {a C : Addr} {o : Obj} {K : PySem.W.Frag}
end
noncomputable def excO (a : Addr) (C : Value) : HO := .ext fun h => ∃ o, h.get? a = some o /\ o.cls = C
section
variable {X : Cx}
end
noncomputable def XPo (X : Cx) (pins : List (Addr × Obj)) (σ : St) (E : XK) (e : Value) (s' : Shared) : Prop := ∃ H1 s1, Inv X pins σ H1 s1 /\ CXE X.prog X.w X.stack H1 s1 E e s'
noncomputable def PEX (X : Cx) (e : Expr) (t : TE) (E : XK) : Prop :=
 ∀ (pins : List (Addr × Obj)) (s : Shared) (σ : St) (H : Hp) (Q : VK), Inv X pins σ H s -> t σ H Q -> wpAny (model X.prog X.w) X.A (eval e X.env) (EP X pins σ Q) (XPo X pins σ E) s
noncomputable def PSX (X : Cx) (st : Stmt) (t : TS) (E : XK) : Prop :=
 ∀ (pins : List (Addr × Obj)) (s : Shared) (σ : St) (H : Hp) (D : Ends), Inv X pins σ H s -> t D σ H -> wpAny (model X.prog X.w) X.A (exec st X.env) (SP X pins D) (XPo X pins σ E) s
section
variable {X : Cx} {k : Nat} {f C : Addr} {fd : FuncData} {ps : List Str} {sp : Sp} {dvs : List V} {ds : List Value} {E : XK} {x m : Str} {p pos apos : Pos} {e o : Expr} {es : List Expr} {ta : TE} {t : TA}
end
section
variable {X : Cx} {pins : List (Addr × Obj)} {σ : St} {H : Hp} {s : Shared}
noncomputable abbrev Cx.held (X : Cx) (e : Addr) : Cx := { X with A := X.A.mark (some (.ref e)), calm := false, xe := fun _ _ => False }
theorem Inv.held (I : Inv X pins σ H s) (e : Addr) : Inv (X.held e) pins σ H s :=
 ⟨⟨I.ok.mod, I.ok.kind, I.ok.glob, I.ok.blt, I.ok.above, I.ok.inj, I.ok.has, I.ok.cab, fun h => Bool.noConfusion h, I.ok.frames, I.ok.stk, I.ok.exf, I.ok.bs, I.ok.bsz, I.ok.k5s, I.ok.l0c, I.ok.j0d, I.ok.frf⟩, I.os, I.bare, I.base, I.loc, I.cell, I.free, I.f0n, I.pin, I.hok, I.len⟩
end
noncomputable def hAs (K : PySem.W.Frag) (D : Addr) (i : Nat) (th : TS) (Dn : Ends) (σ : St) : XK := fun C _ H' => ∃ c, C = .ref c /\ PySem.W.subIn K (.ref c) (.ref D) = some true /\
 ∀ e H2, H' e = none -> Same H' H2 -> H2 e = some (excO e (.ref c)) -> th { nx := fun σ2 H3 => Dn.nx (σ2.set i none) H3, rt := Dn.rt, bk := fun σ2 H3 => Dn.bk (σ2.set i none) H3, ct := fun σ2 H3 => Dn.ct (σ2.set i none) H3 } (σ.set i (some (.ref e))) H2
noncomputable def m0a (K : PySem.W.Frag) (D : Addr) (i : Nat) (tb : XK -> TS) (th : TS) : TS := fun Dn σ H => tb (hAs K D i th Dn σ) Dn σ H
section
variable {X : Cx} {D : Addr} {dn n : Str} {i : Nat} {st b₀ : Stmt} {suite : List Stmt} {tb : XK -> TS} {th : TS} {np hpos pos : Pos}
end
noncomputable def m0b : TE := fun _ H Q => New H (.dK []) Q ⟨⟩
end L2
namespace L2
open PySem PySem.Spec PyProof.Rows
section
variable {X : Cx} {tg : Expr}
noncomputable def l7i (g : Str -> Str -> V) : V -> List V -> Hp -> VK -> Prop := fun x vs H Q => match x, vs with
 | .str z, [.str y] => Q (g z y) H
 | _, _ => False
theorem f0t : MtR X "str.startswith" (l7i fun z y => .bl (Txt.startswith z y)) := by
 intro pins s σ H x xs v us Q I rx rs h
 match x, xs, h with
 | .str z, [.str y], q =>
  obtain ⟨t, rfl⟩ := rx
  obtain ⟨u, rfl, t', rfl⟩ := vals1 rs
  exact call_gives F.slot_str_startswith (typeIs_str _ _ _) F.entry_str_startswith (F.args_str_startswith_2 _ _) (gives_str_startswith z y t t') ⟨.bl (Txt.startswith z y), H, I, rfl, q⟩
noncomputable def Its (x : Str) : It := ⟨fun i _ => i < x.cps.size, fun i H v H' => H' = H /\ ∃ c, x.cps[i]? = some c /\ v = .str ⟨#[c]⟩, fun i _ => i = x.cps.size⟩
theorem k1z {P : Program} {w : World} {K : PySem.W.Frag} (it : Addr) (x : Str) (t : Tok) {n : String} (hn : ["enumerate", "zip", "dict_itemiterator", "dict_reverseitemiterator", "odict_iterator", "itertools.zip_longest", "itertools.pairwise"].contains n = false)
  (W : ∀ A' : Around, A'.handled = none -> Walks P w A' it [it] [it] x.cps.size (SignAt x) (fun i h => h.IsStrIter it n x t i))
  (S : ∀ (A : Around) (i : Nat) (s : Shared) (Q : Value -> Shared -> Prop) (E : Value -> Shared -> Prop), s.heap.IsStrIter it n x t i -> Q (.ref it) s -> wpAny (model P w) A (pyIter (.ref it)) Q E s) : Turn P w K tg (Its x) [it] it (fun i h => h.IsStrIter it n x t i) where
 mem := by simp
 obj := fun i h st b hb => by
  have e : b = it := by simpa using hb
  subst e
  obtain ⟨o, e, c, d⟩ := st
  exact ⟨o, e, fun v z => by rw [d] at z; cases z⟩
 keep := fun i h h' st k => let ⟨o, ho, r⟩ := st; ⟨o, k it (by simp) o ho, r⟩
 item := by
  intro X hP hw hK hc i pins s σ H E I hf st hg
  subst hP hw hK
  obtain ⟨f0, f1, f2, f3, f4, f5⟩ := hf it (by simp)
  refine (W _ (I.ok.hd hc)).item i s _ _ hg st fun v h' tk hv st' kk => ?_
  obtain ⟨c, u, hc', rfl⟩ := hv
  have I1 : Inv X pins σ H { s with heap := h', toks := tk } := I.turned (fun b o hb e => kk b o (by simpa using hb) e) f0 f1 f3 f4 f5
  obtain ⟨o, e1, c1, d1⟩ := id st'
  exact ⟨_, rfl, k1c (s := { s with heap := h', toks := tk }) e1 c1 d1 hn ⟨.str ⟨#[c]⟩, H, I1, ⟨u, rfl⟩, ⟨rfl, c, hc', rfl⟩, st', fun b hb => (hf b hb).1⟩⟩
 done := by
  intro X hP hw hK hc i pins s σ H E I hf st hg
  subst hP hw hK
  obtain ⟨f0, f1, f2, f3, f4, f5⟩ := hf it (by simp)
  have hi : i = x.cps.size := hg
  subst hi
  exact (W _ (I.ok.hd hc)).done s _ _ st fun h' tk kk => ⟨rfl, I.turned (t' := tk) (fun b o hb e => kk b o (by simpa using hb) e) f0 f1 f3 f4 f5⟩
 self := S
noncomputable def iStr (tl : TE) : TI := fun σ H R => tl σ H fun x H1 => match x with
 | .str z => R (Its z) H1
 | _ => False
theorem k4t {l : Expr} {tl : TE} (hl : PE X l tl) : PI X tg l (iStr tl) := by
 intro pins s σ H R I h
 refine thn (hl pins s σ H _ I h) fun v s1 ⟨x, H1, I1, r1, q1⟩ => ?_
 cases x with
 | str z =>
  obtain ⟨t, rfl⟩ := r1
  have fin : ∀ (o : Obj) (n : String), ["enumerate", "zip", "dict_itemiterator", "dict_reverseitemiterator", "odict_iterator", "itertools.zip_longest", "itertools.pairwise"].contains n = false → (s1.heap.push o).IsStrIter s1.heap.objs.size n z t 0 →
    (∀ A' : Around, A'.handled = none -> Walks X.prog X.w A' s1.heap.objs.size [s1.heap.objs.size] [s1.heap.objs.size] z.cps.size (SignAt z) (fun i h => h.IsStrIter s1.heap.objs.size n z t i)) ->
    (∀ (A : Around) (i : Nat) (s : Shared) (Q : Value -> Shared -> Prop) (E : Value -> Shared -> Prop), s.heap.IsStrIter s1.heap.objs.size n z t i -> Q (.ref s1.heap.objs.size) s -> wpAny (model X.prog X.w) A (pyIter (.ref s1.heap.objs.size)) Q E s) ->
    PIE X pins σ tg R (.ref s1.heap.objs.size) { s1 with heap := s1.heap.push o } := fun o n hn st W S => by
   refine ⟨s1.heap.objs.size, [s1.heap.objs.size], _, _, H1, rfl, I1.kept (t' := s1.toks) fun b o e => Heap.get?_push_of_some _ e, k1z _ z t hn W S, st, fun b hb => ?_, q1⟩
   have e : b = s1.heap.objs.size := by simpa using hb
   subst e
   exact I1.k1b (Nat.le_refl _) (I1.hok.fresh (Nat.le_refl _))
  cases ha : z.cps.all (· < 128)
  ·exact wpAny_pyIter_wide ha (fin _ "str_iterator" (by decide) ⟨_, Heap.get?_push_size _ rfl, rfl, rfl⟩ (fun A' hA => Walks.strWide hA _ z t) fun _ _ _ _ _ st hQ => wpAny_pyIter_striter_wide st hQ)
  ·exact wpAny_pyIter_ascii ha (fin _ "str_ascii_iterator" (by decide) ⟨_, Heap.get?_push_size _ rfl, rfl, rfl⟩ (fun A' hA => Walks.strAscii hA _ z t) fun _ _ _ _ _ st hQ => wpAny_pyIter_striter_ascii st hQ)
 | _ => exact False.elim q1
theorem k2a {x : Str} {g : TG} {tb : TS} {D : Ends} {σ : St} {H : Hp} (Pv : Nat -> St -> Hp -> Prop) (h0 : Pv 0 σ H)
  (hs : ∀ i c σ H, x.cps[i]? = some c -> Pv i σ H -> g (.str ⟨#[c]⟩) σ H fun σ2 H2 => tb { D with nx := Pv (i + 1), ct := Pv (i + 1), bk := D.nx } σ2 H2) (hd : ∀ σ H, Pv x.cps.size σ H -> D.nx σ H) : l1o (Its x) g tb D σ H := by
 refine ⟨fun i m σ H => m = x.cps.size - i /\ i <= x.cps.size /\ Pv i σ H, ⟨x.cps.size, by simp, Nat.zero_le _, h0⟩, ?_⟩
 rintro i m σ H ⟨rfl, hi, p⟩
 by_cases hlt : i < x.cps.size
 ·refine .inr ⟨hlt, Pv (i + 1), fun σ' H' p' => ⟨x.cps.size - (i + 1), by omega, rfl, hlt, p'⟩, fun v H' y => ?_⟩
  obtain ⟨e, c, hc, e2⟩ := y
  subst e e2
  exact hs i c σ _ hc p
 ·have e : i = x.cps.size := by omega
  subst e
  exact .inl ⟨rfl, hd σ H p⟩
noncomputable def rSlA : V -> Option Int -> Option Int -> Hp -> VK -> Prop := fun x lo hi H Q => match x with
 | .ref a => (match H a with
  | some (.lst xs) => New H (.lst (f9q xs lo hi)) Q ⟨⟩
  | _ => False)
 | .str z => z.length <= sizeLine /\ Q (.str (Txt.slice z lo hi)) H
 | _ => False
theorem k6n : SlR X rSlA := by
 intro pins s σ H x v vl vu lo hi sl Q I rx hs pl pu h
 cases x with
 | ref a => exact sl_M pins s σ H _ v vl vu lo hi sl Q I rx hs pl pu h
 | str z =>
  obtain ⟨t, rfl⟩ := rx
  obtain ⟨hz, q⟩ := h
  have fin : ∀ t' k, EP X pins σ Q (.str (Txt.slice z lo hi) t') { s with toks := k } := fun t' k => ⟨.str _, H, I.tok k, ⟨_, rfl⟩, q⟩
  refine ⟨"str", _, F.slot_str_getitem.lookup, typeIs_str _ _ _, ?_⟩
  cases pl with
  | none =>
   cases pu with
   | none => exact wpAny_getItem_str_slice (l := none) (u := none) (st := none) hs rfl (post_val_or_str ⟨Nat.le_trans (Txt.slice_le z _ _) hz, fin⟩)
   | int j uj => exact wpAny_getItem_str_slice (l := none) (u := some (j, uj)) (st := none) hs rfl (post_val_or_str ⟨Nat.le_trans (Txt.slice_le z _ _) hz, fin⟩)
  | int i ui =>
   cases pu with
   | none => exact wpAny_getItem_str_slice (l := some (i, ui)) (u := none) (st := none) hs rfl (post_val_or_str ⟨Nat.le_trans (Txt.slice_le z _ _) hz, fin⟩)
   | int j uj => exact wpAny_getItem_str_slice (l := some (i, ui)) (u := some (j, uj)) (st := none) hs rfl (post_val_or_str ⟨Nat.le_trans (Txt.slice_le z _ _) hz, fin⟩)
 | _ => exact False.elim h
noncomputable def l7j : List V -> Hp -> VK -> Prop := fun xs H Q => match xs with
 | [.int i] => Q (.int i) H
 | [.bl k] => Q (.int (if k then 1 else 0)) H
 | [.str z] => ∃ n, PySem.intText? z = some n /\ z.length <= 640 /\ Q (.int n) H
 | _ => False
theorem c8r : b6h X (.type "int") l7j := by
 intro pins s σ H xs us Q I r h
 match xs, r, h with
 | [.int i], r, q => exact h4r pins s σ H _ us Q I r (.inl ⟨i, rfl, q⟩)
 | [.bl k], r, q => exact h4r pins s σ H _ us Q I r (.inr ⟨k, rfl, q⟩)
 | [.str z], r, ⟨n, hn, hl, q⟩ =>
  obtain ⟨u, rfl, t, rfl⟩ := vals1 r
  exact PySem.W.KIN.call_text hn hl ⟨.int n, H, I.tok _, ⟨_, rfl⟩, q⟩
noncomputable def rStrI : List V -> Hp -> VK -> Prop := fun xs H Q => match xs with
 | [.int i] => i.natAbs.log2 < 1920 /\ Q (.str (toString i)) H
 | _ => False
noncomputable def tFmt (te : TE) : TE := fun σ H Q => te σ H fun x H1 => match x with
 | .int i => i.natAbs.log2 < 1920 /\ Q (.str (toString i)) H1
 | .str y => y.length <= sizeLine /\ Q (.str y) H1
 | _ => False
theorem b6p {e : Expr} {te : TE} {pos : Pos} (he : PE X e te) : PE X (.FormattedValue e (-1) none pos) (tFmt te) := by
 intro pins s σ H Q I h
 refine wpAny_FormattedValue_plain (thn (he pins s σ H _ I h) fun v s1 ⟨x, H1, I1, r1, q1⟩ => ?_)
 cases x with
 | int i =>
  obtain ⟨t, rfl⟩ := r1
  exact wpAny_formatField_int q1.1 ⟨.str (toString i), H1, I1.tok _, ⟨_, rfl⟩, q1.2⟩
 | str y =>
  obtain ⟨t, rfl⟩ := r1
  exact wpAny_formatField_str (hx := q1.1) ⟨.str y, H1, I1, ⟨_, rfl⟩, q1.2⟩ ⟨.str y, H1, I1.tok _, ⟨_, rfl⟩, q1.2⟩
 | _ => exact False.elim q1
noncomputable abbrev TJ := Str -> St -> Hp -> (Str -> Hp -> Prop) -> Prop
noncomputable def PJ (X : Cx) (es : List Expr) (t : TJ) : Prop := ∀ (pins : List (Addr × Obj)) (acc : Str) (s : Shared) (σ : St) (H : Hp) (Q : Str -> Hp -> Prop) (Q' : Str -> Shared -> Prop), Inv X pins σ H s -> t acc σ H Q -> (∀ out H1 s1, Inv X pins σ H1 s1 -> Q out H1 -> Q' out s1) ->
 Joins (model X.prog X.w) X.A X.xe (evalEach es X.env) acc Q' s
noncomputable def l7k : TJ := fun acc _ H Q => Q acc H
noncomputable def l2a (te : TE) (tr : TJ) : TJ := fun acc σ H Q => te σ H fun x H1 => match x with
 | .str y => acc.length + y.length <= sizeLine /\ tr (acc ++ y) σ H1 Q
 | _ => False
theorem f0u : PJ X [] l7k := fun pins acc s σ H Q Q' I h k => k acc H s I h
theorem a3k {e : Expr} {es : List Expr} {te : TE} {tr : TJ} (he : PE X e te) (hr : PJ X es tr) (hs : evalEach (e :: es) X.env = eval e X.env :: evalEach es X.env := by rfl) : PJ X (e :: es) (l2a te tr) := by
 intro pins acc s σ H Q Q' I h k
 rw [hs]
 refine thn (he pins s σ H _ I h) fun v s1 ⟨x, H1, I1, r1, q1⟩ => ?_
 cases x with
 | str y =>
  obtain ⟨t, rfl⟩ := r1
  exact ⟨y, t, rfl, by rw [strLen_append]; exact q1.1, hr pins (acc ++ y) s1 σ H1 Q Q' I1 q1.2 k⟩
 | _ => exact False.elim q1
noncomputable def l7l (tj : TJ) : TE := fun σ H Q => tj Str.empty σ H fun out H1 => out.length <= sizeLine /\ Q (.str out) H1
theorem b2j {e₁ e₂ : Expr} {es : List Expr} {tj : TJ} {pos : Pos} (h : PJ X (e₁ :: e₂ :: es) tj) : PE X (.JoinedStr (e₁ :: e₂ :: es) pos) (l7l tj) := by
 intro pins s σ H Q I hq
 exact wpAny_JoinedStr (h pins Str.empty s σ H _ _ I hq fun out H1 s1 I1 q => ⟨q.1, .str out, H1, I1.tok _, ⟨_, rfl⟩, q.2⟩)
noncomputable def b5q (x y : Str) : List Str := if (decide (x.length < y.length) || decide (Builtin.Str.strKind x < Builtin.Str.strKind y)) = true then [x] else if (Builtin.Str.occurrences x y 0 x.length (x.length + 1)).isEmpty = true then [x] else Builtin.Str.partsBetween x (Builtin.Str.occurrences x y 0 x.length (x.length + 1)) y.length
noncomputable def l2b : V -> List V -> Hp -> VK -> Prop := fun x vs H Q => match x, vs with
 | .str z, [.str y] => (y.length == 0) = false /\ z.length <= sizeLine /\ (b5q z y).length <= sizeLine /\ New H (.lst ((b5q z y).map V.str)) Q ⟨⟩
 | _, _ => False
theorem h5i : ∀ (l : List Str) (k : Nat), Vals (l.map V.str) (strsFrom k l)
 | [], _ => .nil
 | x :: l, k => .cons ⟨_, rfl⟩ (h5i l (k + 1))
theorem f9t : MtR X "str.split" l2b := by
 intro pins s σ H x xs v us Q I rx rs h
 match x, xs, h with
 | .str z, [.str y], ⟨hy, hz, hn, q⟩ =>
  obtain ⟨t, rfl⟩ := rx
  obtain ⟨u, rfl, t', rfl⟩ := vals1 rs
  have fr : H s.heap.objs.size = none := I.hok.fresh (Nat.le_refl _)
  have itself : b5q z y = [z] → EP X pins σ Q (.ref s.heap.objs.size) { s with heap := s.heap.push { cls := .type "list", data := .seq [Value.str z t].toArray } } := fun e => by
   rw [e] at q
   exact ⟨.ref _, _, I.laid (o := .lst ([z].map V.str)) (t' := s.toks) (fun b u e => Heap.get?_push_of_some _ e) (Nat.le_refl _) ⟨show 1 <= sizeLine by decide, [Value.str z t], 0, .cons ⟨t, rfl⟩ .nil, Heap.get?_push_size _ rfl⟩, rfl, q.raw _ fr⟩
  by_cases h1 : (decide (z.length < y.length) || decide (Builtin.Str.strKind z < Builtin.Str.strKind y)) = true
  ·exact call_meets F.slot_str_split (typeIs_str _ _ _) F.entry_str_split (F.args_str_split_2 _ _) (meets_str_split_cannot_occur z y t t' h1) (itself (by unfold b5q; rw [if_pos h1]))
  ·have h1' := Bool.eq_false_iff.mpr h1
   by_cases h2 : (Builtin.Str.occurrences z y 0 z.length (z.length + 1)).isEmpty = true
   ·exact call_meets F.slot_str_split (typeIs_str _ _ _) F.entry_str_split (F.args_str_split_2 _ _) (meets_str_split_not_found z y t t' h1' hy h2) (itself (by unfold b5q; rw [if_neg h1, if_pos h2]))
   ·have h2' := Bool.eq_false_iff.mpr h2
    have e : b5q z y = Builtin.Str.partsBetween z (Builtin.Str.occurrences z y 0 z.length (z.length + 1)) y.length := by unfold b5q; rw [if_neg h1, if_neg h2]
    refine call_meets F.slot_str_split (typeIs_str _ _ _) F.entry_str_split (F.args_str_split_2 _ _) (meets_str_split_sep z y t t' h1' hy h2' hz (by rw [<- e]; exact hn)) ?_
    rw [<- e]
    refine ⟨.ref _, _, I.laid (o := .lst ((b5q z y).map V.str)) (t' := s.toks + (b5q z y).length) (fun b u e => Heap.get?_push_of_some _ e) (Nat.le_refl _) ⟨by rw [List.length_map]; exact hn, strsFrom s.toks (b5q z y), 0, h5i _ _, Heap.get?_push_size _ rfl⟩, rfl, q.raw _ fr⟩
noncomputable def k6o (z y : Str) : Bool := !(Builtin.Str.occurrences z y 0 z.length 1).isEmpty
noncomputable def m0c (neg : Bool) : R2 := fun x y H Q => match y with
 | .str z => (match x with
  | .str y => Q (.bl (k6o z y != neg)) H
  | _ => False)
 | .ref p => (match H p with
  | some (.lst xs) => b9t x = true /\ xs.all b9t = true /\ Q (.bl (inV x xs != neg)) H
  | some (.tup xs) => b9t x = true /\ xs.all b9t = true /\ Q (.bl (inV x xs != neg)) H
  | _ => False)
 | _ => False
theorem g8g : OpR X (compareOp .In) (m0c false) := by
 intro pins s σ H x y v u Q I rx ry h
 cases y with
 | str z =>
  cases x with
  | str y =>
   have h : Q (.bl (k6o z y != false)) H := h
   rw [Bool.bne_false] at h
   exact j6x pins s σ H _ _ v u Q I rx ry ⟨y, z, rfl, rfl, h⟩
  | _ => exact False.elim h
 | ref p =>
  have h : (match H p with
   | some (.lst xs) => b9t x = true /\ xs.all b9t = true /\ Q (.bl (inV x xs != false)) H
   | some (.tup xs) => b9t x = true /\ xs.all b9t = true /\ Q (.bl (inV x xs != false)) H
   | _ => False) := h
  split at h
  ·rename_i xs e
   rw [Bool.bne_false] at h
   exact h4x pins s σ H _ _ v u Q I rx ry ⟨p, xs, rfl, .inl (SqL.of e), h.1, h.2.1, by simpa using h.2.2⟩
  ·rename_i xs e
   rw [Bool.bne_false] at h
   exact h4x pins s σ H _ _ v u Q I rx ry ⟨p, xs, rfl, .inr (SqT.of e), h.1, h.2.1, by simpa using h.2.2⟩
  ·exact h.elim
 | _ => exact False.elim h
theorem b5r : OpR X (compareOp .NotIn) (m0c true) := by
 intro pins s σ H x y v u Q I rx ry h
 cases y with
 | str z =>
  cases x with
  | str y =>
   have h : Q (.bl (k6o z y != true)) H := h
   rw [Bool.bne_true] at h
   exact h4y pins s σ H _ _ v u Q I rx ry ⟨y, z, rfl, rfl, h⟩
  | _ => exact False.elim h
 | ref p =>
  have h : (match H p with
   | some (.lst xs) => b9t x = true /\ xs.all b9t = true /\ Q (.bl (inV x xs != true)) H
   | some (.tup xs) => b9t x = true /\ xs.all b9t = true /\ Q (.bl (inV x xs != true)) H
   | _ => False) := h
  split at h
  ·rename_i xs e
   rw [Bool.bne_true] at h
   exact f6i pins s σ H _ _ v u Q I rx ry ⟨p, xs, rfl, .inl (SqL.of e), h.1, h.2.1, by simpa using h.2.2⟩
  ·rename_i xs e
   rw [Bool.bne_true] at h
   exact f6i pins s σ H _ _ v u Q I rx ry ⟨p, xs, rfl, .inr (SqT.of e), h.1, h.2.1, by simpa using h.2.2⟩
  ·exact h.elim
 | _ => exact False.elim h
end
end L2
namespace L2
open PySem PySem.Spec PyProof.Rows
noncomputable def Wr (H : Hp) (a : Addr) (o : HO) (k : Hp -> Prop) (_ : Tag k) : Prop := ∀ H1, a2i a H H1 -> H1 a = some o -> k H1
section
variable {X : Cx} {e o value : Expr} {f m x : Str} {pos pos' apos : Pos} {ta tv : TE} {t : TA} {C : Addr} {es : List Expr}
noncomputable def k6p (K : PySem.W.Frag) (ta : TE) (f : Str) : TE := fun σ H Q => ta σ H fun x H1 => match x with
 | .ref a => (match H1 a with
  | some (.ins C dx fs) => Cls K C /\ a4l K C f /\ (match fs.lookup f with
   | some v => Q v H1
   | none => False)
  | _ => False)
 | _ => False
theorem a2t (he : PE X e ta) (hb : attributeBase e f X.env (eval e X.env) = eval e X.env) : PE X (.Attribute e f pos) (k6p X.K ta f) := by
 intro pins s σ H Q I h
 refine (l0u he hb) pins s σ H Q I ?_
 unfold l9g
 unfold k6p at h
 have q : (fun (x : V) (H1 : Hp) => (match x with
   | .ref a => (match H1 a with
    | some (.ins C dx fs) => Cls X.K C /\ a4l X.K C f /\ (match fs.lookup f with
     | some v => Q v H1
     | none => False)
    | _ => False)
   | _ => False : Prop)) = fun x H1 => ∃ a C dx fs v, x = .ref a /\ H1 a = some (.ins C dx fs) /\ Cls X.K C /\ a4l X.K C f /\ fs.lookup f = some v /\ Q v H1 := by
  funext x H1
  refine propext ⟨fun z => ?_, fun ⟨a, C, dx, fs, v, e1, e2, c, n, l, q⟩ => ?_⟩
  ·cases x with
   | ref a =>
    dsimp only at z
    split at z
    ·rename_i C dx fs e1
     obtain ⟨c, n, z⟩ := z
     split at z
     ·rename_i v e2
      exact ⟨a, C, dx, fs, v, rfl, e1, c, n, e2, z⟩
     ·exact z.elim
    ·exact z.elim
   | _ => exact False.elim z
  ·subst e1
   dsimp only
   rw [e2]
   dsimp only
   rw [l]
   exact ⟨c, n, q⟩
 rw [q] at h
 exact h
noncomputable def l7m (K : PySem.W.Frag) (ta tv : TE) (f : Str) : TS := fun D σ H => tv σ H fun y H1 => ta σ H1 fun x H2 => match x with
 | .ref a => (match H2 a with
  | some (.ins C dx fs) => Cls K C /\ a4l K C f /\ fs.length < 1000 /\ Wr H2 a (.ins C dx (g0b f y fs)) (D.nx σ) ⟨⟩
  | _ => False)
 | _ => False
theorem a4s (ha : PE X o ta) (hv : PE X value tv) (hs : swapsWith value (some (.Attribute o f pos')) pos.line X.env = pure false) : PS X (.Assign [.Attribute o f pos'] value pos) (l7m X.K ta tv f) := by
 intro pins s σ H D I h
 refine plainObj_wpAny_Assign_Attribute (thn (hv pins s σ H _ I h) fun u s1 ⟨y, H1, I1, ry, q⟩ => thn (ha pins s1 σ H1 _ I1 q) fun ov s2 ⟨x, H2, I2, rx, z⟩ => ?_) hs
 cases x with
 | ref a =>
  obtain rfl : ov = Value.ref a := rx
  dsimp only at z
  split at z
  ·rename_i C dx fs e1
   obtain ⟨c, n, l, k⟩ := z
   exact j1m I2 e1 c n l ry fun s3 I3 => ⟨σ, _, I3, k _ a2i.upd a3i⟩
  ·exact z.elim
 | _ => exact False.elim z
end
noncomputable def d3m (C : Addr) (m : Str) (sp : Sp) (dvs : List V) (E : XK) (ta : TE) (t : TA) : TE := fun σ H Q => ta σ H fun x H1 => match x with
 | .ref a => (match H1 a with
  | some (.ins C' dx fs) => C' = C /\ fs.lookup m = none /\ t σ H1 fun vs H2 => sp (x :: (vs ++ dvs)) H2 Q E
  | _ => False)
 | _ => False
section
variable {X : Cx} {CX : CXT} {k : Nat} {f C : Addr} {fd : FuncData} {ps : List Str} {sp : Sp} {dvs : List V} {ds : List Value} {E : XK} {x m : Str} {p pos apos : Pos} {e o : Expr} {es : List Expr} {ta : TE} {t : TA}
theorem b6q {pl : Sem Bool} (he : PE X o ta) (c : Cls X.K C) (hm : Meth X.K C m f) (F : a1n X.prog X.w X.K X.mg X.base CX k f fd ps sp) (hr : a2z k X.A) (hb : Binds X.K fd ps ds) (hd : Vals dvs ds) (hx : Passes CX X E) (ha : PA X (e :: es) t)
  (hst : starEach (e :: es) X.env = (false, eval e X.env) :: starEach es X.env := by rfl) (hpl : (backTo pos (starEach es X.env)).any (·.1) = false := by rfl)
  (ht : eval (.Call (.Attribute o m apos) (e :: es) [] pos) X.env = (do
   let ov <- eval o X.env
   standAt apos.atName
   let (f, first) <- holding [ov] (getMethod ov m pl)
   callWith pos f first (backTo pos (starEach (e :: es) X.env)) (backToKw pos (keywordEach [] X.env))) := by rfl) :
  PE X (.Call (.Attribute o m apos) (e :: es) [] pos) (d3m C m sp dvs E ta t) := by
 intro pins s σ H Q I h
 refine PySem.W.methodCall_KW (pl := pl) (thn (he pins s σ H _ I h) fun u s1 ⟨x, H1, I1, rx, z⟩ => ?_) ht
 cases x with
 | ref a =>
  obtain rfl : u = Value.ref a := rx
  dsimp only at z
  split at z
  ·rename_i C' dx fs ea
   obtain ⟨rfl, l, q⟩ := z
   refine g8b I1 ea c hm l ?_
   refine PySem.W.callWith_K (first := [.ref a]) (h₀ := X.base) I.ok.mod.kin hm.kp (thn (ha pos pins s1 σ H1 _ I1 q) fun us s2 ⟨vs, H2, I2, r, q2⟩ => ⟨I2.kIn, ?_⟩) hst hpl
   exact j0h (us := .ref a :: us) (vs := .ref a :: vs) F hr hb hd hx I2 (.cons rfl r) q2
  ·exact z.elim
 | _ => exact False.elim z
theorem a2u {pl : Sem Bool} (he : PE X o ta) (c : Cls X.K C) (hm : Meth X.K C m f) (F : a1n X.prog X.w X.K X.mg X.base CX k f fd ps sp) (hr : a2z k X.A) (hb : Binds X.K fd ps ds) (hd : Vals dvs ds) (hx : Passes CX X E)
  (ht : eval (.Call (.Attribute o m apos) [] [] pos) X.env = (do
   let ov <- eval o X.env
   standAt apos.atName
   let (f, first) <- holding [ov] (getMethod ov m pl)
   callWith pos f first (backTo pos (starEach [] X.env)) (backToKw pos (keywordEach [] X.env))) := by rfl) :
  PE X (.Call (.Attribute o m apos) [] [] pos) (d3m C m sp dvs E ta k1i) := by
 intro pins s σ H Q I h
 refine PySem.W.methodCall_KW (pl := pl) (thn (he pins s σ H _ I h) fun u s1 ⟨x, H1, I1, rx, z⟩ => ?_) ht
 cases x with
 | ref a =>
  obtain rfl : u = Value.ref a := rx
  dsimp only at z
  split at z
  ·rename_i C' dx fs ea
   obtain ⟨rfl, l, q⟩ := z
   refine g8b I1 ea c hm l ?_
   exact PySem.W.callWith_K0 (first := [.ref a]) I1.kIn hm.kp (j0h (us := [.ref a]) (vs := [.ref a]) F hr hb hd hx I1 (.cons rfl .nil) q)
  ·exact z.elim
 | _ => exact False.elim z
noncomputable def l5i (H : Hp) (C : Addr) (k : Addr -> Hp -> Prop) (_ : Tag k) : Prop := ∀ x dx H1, H x = none -> H dx = none -> dx ≠ x -> Same H H1 -> H1 dx = some (.own x) -> H1 x = some (.ins C dx []) -> k x H1
noncomputable def l2c (x : Addr) (Q : VK) : VK := fun v H2 => v = .non /\ Q (.ref x) H2
theorem asNew {x : Addr} {Q : VK} {H2 : Hp} {v : V} : l2c x Q v H2 = (v = .non /\ Q (.ref x) H2) := rfl
noncomputable def k4u (C : Addr) (sp : Sp) (dvs : List V) (E : XK) (t : TA) : TE := fun σ H Q => t σ H fun vs H1 => l5i H1 C (fun x H2 => sp (.ref x :: (vs ++ dvs)) H2 (l2c x Q) E) ⟨⟩
theorem l5i.raw {H : Hp} {C : Addr} {k : Addr -> Hp -> Prop} {t : Tag k} (h : l5i H C k t) : ∀ x dx, H x = none -> H dx = none -> dx ≠ x -> k x (upd (upd H dx (.own x)) x (.ins C dx [])) := fun x dx ex ed ne =>
 h x dx _ ex ed ne ((Same.upd ed).trans (Same.upd (by rw [a3u ne.symm]; exact ex))) (by rw [a3u ne]; exact a3i) a3i
theorem b9v (M : Mk X.K C f) (F : a1n X.prog X.w X.K X.mg X.base CX k f fd ps sp) (hr : a2z (k + 1) X.A) (hg : Gl X x) (hm : X.mg x = some (.ref C)) (hb : Binds X.K fd ps ds) (hd : Vals dvs ds) (hx : Passes CX X E)
  (ha : PA X (e :: es) t) (hdb : (x == ("__debug__" : Str)) = false := by decide) (he : starEach (e :: es) X.env = (false, eval e X.env) :: starEach es X.env := by rfl) (hpl : (backTo pos (starEach es X.env)).any (·.1) = false := by rfl) :
  PE X (.Call (.Name x p) (e :: es) [] pos) (k4u C sp dvs E t) := by
 intro pins s σ H Q I h
 refine wpAny_Call_Name_kw (g9b I hg hm ?_ hdb)
 refine PySem.W.callWith_K (h₀ := X.base) I.ok.mod.kin M.kp (thn (ha pos pins s σ H _ I h) fun us s1 ⟨vs, H1, I1, r, q⟩ => ⟨I1.kIn, ?_⟩) he hpl
 exact j0i M F hr hb hd hx I1 r q.raw
theorem h5j (M : Mk X.K C f) (F : a1n X.prog X.w X.K X.mg X.base CX k f fd ps sp) (hr : a2z (k + 1) X.A) (hg : Gl X x) (hm : X.mg x = some (.ref C)) (hb : Binds X.K fd ps ds) (hd : Vals dvs ds) (hx : Passes CX X E)
  (hdb : (x == ("__debug__" : Str)) = false := by decide) : PE X (.Call (.Name x p) [] [] pos) (k4u C sp dvs E k1i) := by
 intro pins s σ H Q I h
 refine wpAny_Call_Name_kw (g9b I hg hm ?_ hdb)
 exact PySem.W.callWith_K0 I.kIn M.kp (j0i (us := []) M F hr hb hd hx I .nil (l5i.raw (t := ⟨⟩) h))
end
noncomputable def l5j (K : PySem.W.Frag) (ta tv : TE) (rd : V -> V -> Hp -> VK -> Prop) (f : Str) : TS := fun D σ H => ta σ H fun x H1 => match x with
 | .ref a => (match H1 a with
  | some (.ins C dx fs) => Cls K C /\ a4l K C f /\ (match fs.lookup f with
   | some v => tv σ H1 fun y H2 => rd v y H2 fun z H3 => (match H3 a with
    | some (.ins C' dx' fs') => C' = C /\ fs'.length < 1000 /\ Wr H3 a (.ins C dx' (g0b f z fs')) (D.nx σ) ⟨⟩
    | _ => False)
   | none => False)
  | _ => False)
 | _ => False
section
variable {X : Cx} {o e value : Expr} {f : Str} {pos pos' tpos : Pos} {ta tv : TE}
end
noncomputable def rInF (g : Int -> Int -> Int) : V -> V -> Hp -> VK -> Prop := fun x y H Q => match x, y with
 | .int i, .int j => Q (.int (g i j)) H
 | _, _ => False
noncomputable def tAugF (i : Nat) (te : TE) (ti : TIp) : TS := fun D σ H => match σ[i]? with
 | some (some x) => te σ H fun y H1 => ti x y H1 fun z H2 => D.nx (σ.set i (some z)) H2
 | _ => False
section
variable {X : Cx} {pos : Pos}
end
theorem lookup_same {f : Str} {v : V} {r : List (Str × V)} : List.lookup f ((f, v) :: r) = some v := by rw [List.lookup_cons, beq_self_eq_true]
theorem l2d {f : Str} {v x : V} {r : List (Str × V)} : g0b f v ((f, x) :: r) = (f, v) :: r := by rw [g0b, if_pos rfl]
theorem l5k {f : Str} {v : V} : g0b f v [] = [(f, v)] := rfl
theorem k4v {f g : Str} {v : V} {r : List (Str × V)} (h : (f == g) = false) : List.lookup f ((g, v) :: r) = r.lookup f := by rw [List.lookup_cons, h]
theorem k9r {f g : Str} {v x : V} {r : List (Str × V)} (h : (f == g) = false) : g0b f v ((g, x) :: r) = (g, x) :: g0b f v r := by rw [g0b, if_neg fun e => by rw [e, beq_self_eq_true] at h; exact Bool.noConfusion h]
theorem noxK {X : Cx} : X.nox.K = X.K := rfl
end L2
namespace L2
open PySem PySem.Spec PyProof.Rows
structure d4w (k : Nat) (A : Around) : Prop where
 dp : A.depth + 3 * k + 5 < recursionLimit
 un : A.units + 16 * k + 200 < cLine
theorem a2z.h {k : Nat} {A : Around} (r : a2z k A) : d4w k A := ⟨r.dp, r.un⟩
theorem d4w.mono {j k : Nat} {A : Around} (r : d4w k A) (h : j <= k) : d4w j A := ⟨by have := r.dp; omega, by have := r.un; omega⟩
theorem d4w.deeper {k : Nat} {A : Around} (r : d4w (k + 1) A) (env : Env) : d4w k (A.deeper env) :=
 ⟨by have := r.dp; show A.depth + 1 + 3 * k + 5 < _; omega, by have := r.un; show A.units + 3 + 16 * k + 200 < _; omega⟩
theorem d4w.units {k : Nat} {A : Around} (r : d4w k A) : A.units + 64 < cLine := by have := r.un; omega
theorem d4w.calm {k : Nat} {A : Around} (r : d4w k A) : a2z k { A with handled := none } := ⟨rfl, r.dp, r.un⟩
structure l2e (P : Program) (w : World) (K : PySem.W.Frag) (mg : Str -> Option Value) (base : Heap) (k : Nat) (f : Addr) (fd : FuncData) (ps : List Str) (sp : Sp) : Prop where
 len : ∀ vs H Q E, sp vs H Q E -> vs.length = ps.length
 run : ∀ (A : Around) (outer : List Env) (s : Shared) (H : Hp) (args : Args) (us : List Value) (vs : List V) (Q : VK) (E : XK), d4w k A -> j7b P w K mg base A outer s H -> BindsTo s fd args (ps.zip us) -> Vals vs us -> sp vs H Q E ->
  codeAny (model P w) A (.call (.ref f) args) (CR CX0 outer P w H s Q E) s
theorem l2e.ok {P : Program} {w : World} {K : PySem.W.Frag} {mg : Str -> Option Value} {base : Heap} {k : Nat} {f : Addr} {fd : FuncData} {ps : List Str} {sp : Sp} (F : l2e P w K mg base k f fd ps sp) : a1n P w K mg base CX0 k f fd ps sp :=
 ⟨F.len, fun A outer s H args us vs Q E hr => F.run A outer s H args us vs Q E hr.h⟩
section
variable {X : Cx} {k : Nat} {f : Addr} {fd : FuncData} {ps : List Str} {sp : Sp} {dvs : List V} {ds : List Value} {x : Str} {p pos : Pos} {e : Expr} {es : List Expr} {t : TA}
end
theorem d4w.mark {k : Nat} {A : Around} (r : d4w k A) (h : Option Value) : d4w k (A.mark h) := ⟨r.dp, r.un⟩
end L2
namespace L2
open PySem PySem.Spec PyProof.Rows
open PySem.Builtin.Str (occurrences subAt partsBetween strSub)
noncomputable abbrev sg (x : Str) : List Nat := x.cps.toList
theorem c2j {x y : Str} (h : sg x = sg y) : x = y := Str.ext' (by
 have := congrArg List.toArray h
 simpa using this)
theorem a3w (x y : Str) : sg (x ++ y) = sg x ++ sg y := by unfold sg; rw [Str.cps_append]; simp
theorem c8s (x : Str) : (sg x).length = x.length := by simp [Str.length]
theorem k4w {x : Str} {c i : Nat} : StrLaws.At x ⟨#[c]⟩ x.length i ↔ (sg x)[i]? = some c := StrLaws.subAt_one x c i
theorem g0l {c : Nat} : (⟨#[c]⟩ : Str).length = 1 := rfl
theorem k4x (x : Str) (i j : Nat) : sg (strSub x i j) = ((sg x).drop i).take (j - i) := StrLaws.strSub_toList x i j
theorem k2b {x : Str} {c : Nat} {a b : List Nat} (hk : c < 128) (h : sg x = a ++ c :: b) (ha : c ∉ a) (hb : c ∉ b) : b5q x ⟨#[c]⟩ = [⟨a.toArray⟩, ⟨b.toArray⟩] := by
 have hl : x.length = a.length + (b.length + 1) := by rw [<- c8s, h]; simp
 have k1 : ¬ ((decide (x.length < (⟨#[c]⟩ : Str).length) || decide (Builtin.Str.strKind x < Builtin.Str.strKind ⟨#[c]⟩)) = true) := by
  have e : Builtin.Str.strKind ⟨#[c]⟩ = 1 := by
   unfold Builtin.Str.strKind
   rw [if_pos (by simp; omega)]
  have g : 1 <= Builtin.Str.strKind x := by
   unfold Builtin.Str.strKind
   split
   ·decide
   ·split <;> decide
  rw [e, g0l]
  simp only [Bool.or_eq_true, decide_eq_true_eq]
  omega
 have only : ∀ i, StrLaws.At x ⟨#[c]⟩ x.length i -> i = a.length := by
  intro i hi
  have hi := k4w.mp hi
  rw [h] at hi
  rcases Nat.lt_trichotomy i a.length with q | q | q
  ·rw [List.getElem?_append_left q] at hi
   exact absurd (List.mem_of_getElem? hi) ha
  ·exact q
  ·rw [List.getElem?_append_right (Nat.le_of_lt q)] at hi
   obtain ⟨j, hj⟩ : ∃ j, i - a.length = j + 1 := ⟨i - a.length - 1, by omega⟩
   rw [hj, List.getElem?_cons_succ] at hi
   exact absurd (List.mem_of_getElem? hi) hb
 have there : StrLaws.At x ⟨#[c]⟩ x.length a.length := k4w.mpr (by rw [h, List.getElem?_append_right (Nat.le_refl _), Nat.sub_self]; rfl)
 obtain ⟨f, ch⟩ := StrLaws.occ_chain x ⟨#[c]⟩ (x.length + 1)
 have ho : occurrences x ⟨#[c]⟩ 0 x.length (x.length + 1) = [a.length] := by
  rcases StrLaws.occ_head x ⟨#[c]⟩ (x.length + 1) (by omega) with ⟨h0, hn⟩ | ⟨i, r, h0, hi, hn⟩
  ·exact absurd there (hn _)
  ·rw [h0] at ch ⊢
   have e := only i hi
   subst e
   cases r with
   | nil => rfl
   | cons j r =>
    obtain ⟨_, _, q1, q2, _⟩ := ch
    have := only j q2
    rw [g0l] at q1
    omega
 unfold b5q
 rw [if_neg k1, ho, if_neg (by simp)]
 simp only [partsBetween, List.map_cons, List.map_nil, List.cons_append, List.nil_append, List.zip_cons_cons, List.zip_nil_right, List.cons.injEq, and_true]
 constructor
 ·refine c2j ?_
  rw [k4x, h]
  simp
 ·refine c2j ?_
  rw [k4x, g0l, h, hl]
  have e : (a ++ c :: b).drop (a.length + 1) = b := by rw [List.drop_append]; simp
  rw [e, List.take_of_length_le (by omega)]
open PySem.NumText (AllDigits digitsVal digitsVal_snoc)
noncomputable def dg (n : Nat) : List Nat := (Nat.toDigits 10 n).map Char.toNat
theorem j0m (n : Nat) : digitsVal (dg n) = n := PySem.W.KIN.val_back n
theorem i4e {n : Nat} (h : n < 10) : dg n = [n + 48] := by
 have : ∀ d, d < 10 -> dg d = [d + 48] := by decide
 exact this n h
theorem g0m {m c : Nat} (hm : 0 < m) (hc : c < 10) : dg (10 * m + c) = dg m ++ [c + 48] := by
 have t : Nat.toDigits 10 m ++ Nat.toDigits 10 c = Nat.toDigits 10 (10 * m + c) := Nat.toDigits_append_toDigits (by decide) hm hc
 unfold dg
 rw [<- t, List.map_append]
 have := i4e hc
 unfold dg at this
 rw [this]
theorem j7x (n : Nat) : dg n ≠ [] := by
 by_cases h : n < 10
 ·rw [i4e h]; simp
 ·have e : n = 10 * (n / 10) + n % 10 := by omega
  rw [e, g0m (by omega) (by omega)]
  simp
theorem d3n (n : Nat) : AllDigits (dg n) := by
 induction n using Nat.strongRecOn with
 | _ n ih =>
  by_cases h : n < 10
  ·rw [i4e h]
   intro c hc
   simp at hc
   omega
  ·have e : n = 10 * (n / 10) + n % 10 := by omega
   rw [e, g0m (by omega) (by omega)]
   intro c hc
   rcases List.mem_append.mp hc with q | q
   ·exact ih (n / 10) (by omega) c q
   ·simp at q
    omega
theorem k6q {n : Nat} (h : 0 < n) : ∃ c r, dg n = c :: r /\ c ≠ 48 := by
 induction n using Nat.strongRecOn with
 | _ n ih =>
  by_cases q : n < 10
  ·exact ⟨n + 48, [], i4e q, by omega⟩
  ·obtain ⟨c, r, e, hc⟩ := ih (n / 10) (by omega) (by omega)
   have e2 : n = 10 * (n / 10) + n % 10 := by omega
   refine ⟨c, r ++ [n % 10 + 48], ?_, hc⟩
   conv => lhs; rw [e2]
   rw [g0m (by omega) (by omega), e]
   rfl
theorem k4y : ∀ {ds : List Nat}, AllDigits ds -> digitsVal ds < 10 ^ ds.length := by
 intro ds
 generalize hn : ds.length = n
 induction n generalizing ds with
 | zero => intro _; rw [List.length_eq_zero_iff.mp hn]; decide
 | succ n ih =>
  intro hd
  have hne : ds ≠ [] := fun e => by rw [e] at hn; cases hn
  have e : ds = ds.dropLast ++ [ds.getLast hne] := (List.dropLast_concat_getLast hne).symm
  generalize ds.dropLast = cs at e
  generalize ds.getLast hne = c at e
  subst e
  have hc := hd c (by simp)
  have := ih (ds := cs) (by simp at hn; exact hn) fun d hd' => hd d (by simp [hd'])
  rw [digitsVal_snoc, Nat.pow_succ]
  omega
noncomputable def txt (t : Int) : List Nat := if t < 0 then 45 :: dg t.natAbs else dg t.natAbs
theorem c8h (t : Int) : sg (Str.ofString (toString t)) = txt t := by
 unfold txt
 match t with
 | .ofNat m => exact PySem.W.KIN.signs_num m
 | .negSucc m =>
  rw [if_pos (Int.negSucc_lt_zero m)]
  unfold sg
  rw [signs_ofString]
  show (("-" ++ Nat.repr (m + 1)).toList.map Char.toNat) = _
  rw [String.toList_append, List.map_append, Nat.toList_repr]
  rfl
theorem f2s {x : Str} {t : Int} (h : sg x = txt t) (hl : x.length <= 4300) : PySem.intText? x = some t := by
 unfold txt at h
 split at h
 ·rename_i ht
  have := intText_neg h (d3n _) (j7x _) hl
  rw [j0m] at this
  rw [this]
  congr 1
  omega
 ·rename_i ht
  have := intText_digits (x := x) (by rw [show x.cps.toList = sg x from rfl, h]; exact d3n _) (by rw [show x.cps.toList = sg x from rfl, h]; exact j7x _) hl
  rw [show x.cps.toList = sg x from rfl, h, j0m] at this
  rw [this]
  congr 1
  omega
theorem l2f (n : Nat) : (dg n).length <= n.log2 + 1 := by
 induction n using Nat.strongRecOn with
 | _ n ih =>
  by_cases h : n < 10
  ·rw [i4e h]; simp
  ·have e : n = 10 * (n / 10) + n % 10 := by omega
   have i := ih (n / 10) (by omega)
   have k : (n / 10).log2 + 1 <= n.log2 := by
    rw [Nat.le_log2 (by omega), Nat.pow_succ]
    have := Nat.log2_self_le (n := n / 10) (by omega)
    omega
   have z := g0m (m := n / 10) (c := n % 10) (by omega) (by omega)
   rw [<- e] at z
   rw [z]
   rw [List.length_append]
   simp only [List.length_cons, List.length_nil]
   omega
theorem i4f (t : Int) : (txt t).length <= t.natAbs.log2 + 2 := by
 have := l2f t.natAbs
 unfold txt
 split
 ·rw [List.length_cons]; omega
 ·omega
noncomputable def k2c (t b : Int) : List Nat := txt t ++ 47 :: txt b
structure Good (x : List Nat) (t b : Int) : Prop where
 eq : x = k2c t b
 pos : 0 < b
 low : Int.gcd t b = 1
 l1 : (dg t.natAbs).length <= 9
 l2 : (dg b.natAbs).length <= 9
noncomputable def j7y (l : List Nat) : Bool := l.all (fun c => decide (48 <= c) && decide (c <= 57)) && !l.isEmpty
theorem g9i {l : List Nat} : j7y l = true ↔ AllDigits l /\ l ≠ [] := by
 unfold j7y AllDigits
 simp
theorem k6r (c : Nat) : k6o "0123456789" ⟨#[c]⟩ = (decide (48 ≤ c) && decide (c ≤ 57)) := by
 unfold k6o
 rw [StrLaws.found_one]
 have e : (Str.ofString "0123456789").cps.toList = [48, 49, 50, 51, 52, 53, 54, 55, 56, 57] := by decide +kernel
 rw [e]
 by_cases h : 48 <= c /\ c <= 57
 ·rw [show (decide (48 <= c) && decide (c <= 57)) = true by simp [h]]
  rw [decide_eq_true_eq]
  simp
  omega
 ·rw [show (decide (48 <= c) && decide (c <= 57)) = false by simp; omega]
  rw [decide_eq_false_iff_not]
  simp
  omega
theorem d3o {t : Int} {c : Nat} (h1 : c ≠ 45) (h2 : c < 48 \/ 57 < c) : c ∉ txt t := by
 unfold txt
 intro h
 split at h
 ·rcases List.mem_cons.mp h with q | q
  ·exact h1 q
  ·have := d3n _ c q; omega
 ·have := d3n _ c h; omega
theorem l2g (t : Int) : (txt t).length <= (dg t.natAbs).length + 1 := by
 unfold txt
 split
 ·rw [List.length_cons]; exact Nat.le_refl _
 ·exact Nat.le_succ _
theorem k4z (x : Str) (c : Nat) : Txt.startswith x ⟨#[c]⟩ = decide ((sg x)[0]? = some c) := by
 unfold Txt.startswith
 rw [Bool.eq_iff_iff, Bool.and_eq_true, decide_eq_true_eq, decide_eq_true_eq]
 exact StrLaws.subAt_one x c 0
theorem l2h {x : Str} {t : Int} (h : sg x = txt t) : Txt.startswith x ⟨#[45]⟩ = decide (t < 0) := by
 rw [k4z, h]
 unfold txt
 split
 ·rename_i q
  simp [q]
 ·rename_i q
  rw [decide_eq_false q, decide_eq_false_iff_not]
  intro e
  have := d3n _ 45 (List.mem_of_getElem? e)
  omega
theorem k6s {x : Str} {i : Nat} (h : i <= x.length) : sg (Txt.slice x (some (i : Int)) none) = (sg x).drop i := by
 rw [slice_from_eq (b := (x.length : Int)) (by omega) (by omega) rfl]
 simp only [sg, Int.toNat_natCast]
 rw [List.take_of_length_le]
 rw [List.length_drop]
 have := c8s x
 unfold sg at this
 omega
end L2
namespace L2
open PySem PySem.Spec PyProof.Rows
section
variable {X : Cx}
noncomputable def l2i (K : PySem.W.Frag) : List V -> Hp -> VK -> Prop := fun xs H Q => match xs with
 | [.ref p] => (match H p with
  | some (.lst ys) => New H (.tup ys) Q ⟨⟩
  | some (.tup ys) => Q (.ref p) H
  | _ => False)
 | _ => False
theorem g0n : b6h X (.type "tuple") (l2i X.K) := g9g.weak fun xs H Q h => by
 match xs, h with
 | [.ref p], h =>
  unfold l2i at h
  dsimp only at h
  split at h
  ·rename_i ys e
   exact ⟨p, ys, rfl, .inl ⟨SqL.of e, h.raw⟩⟩
  ·rename_i ys e
   exact ⟨p, ys, rfl, .inr ⟨SqT.of e, h⟩⟩
  ·exact h.elim
end
section
variable {X : Cx}
structure InsQ (K : PySem.W.Frag) (C : Addr) : Prop where
 ha : PySem.W.findIn K (.ref C) "__class__" = some (some (.builtin "object.__class__"))
 hn : PySem.W.specialIn K (.builtin "object.__class__") "__get__" = some (some (.builtin "getset_descriptor.__get__"))
 htk : PySem.W.takesIn K (.builtin "object.__class__") = some true
 hm : PySem.W.mroIn K C (.type "object") = some true
noncomputable def rIsI (K : PySem.W.Frag) : List V -> Hp -> VK -> Prop := fun xs H Q => match xs with
 | [.ref a, .ref D] => (match H a with
  | some (.ins C dx fs) => Cls K C /\ InsQ K C /\ (match PySem.W.kitOne K (.ref C) (.ref D) with
   | some b => Q (.bl b) H
   | none => False)
  | _ => False)
 | _ => False
end
section
variable {X : Cx} {pos : Pos}
noncomputable def l7n : List V -> Hp -> VK -> Prop := fun xs H Q => match xs with
 | [.int i, .int j] => (0 < j /\ j < 1073741824) /\ New H (.tup [.int (i / j), .int (i % j)]) Q ⟨⟩
 | _ => False
noncomputable def l2j : TGs := fun vs σ H Q => match vs with
 | [] => Q σ H
 | _ => False
noncomputable def k5a (t : TG) (u : TGs) : TGs := fun vs σ H Q => match vs with
 | v :: r => t v σ H fun σ' H' => u r σ' H' Q
 | _ => False
noncomputable def l2k (n : Nat) (t : TGs) : TG := fun v σ H Q => match v with
 | .ref a => (match H a with
  | some (.tup xs) => xs.length = n /\ t xs σ H Q
  | _ => False)
 | _ => False
theorem f9u : PGs X [] l2j := by
 intro pins s σ H vs us Q I r h
 refine j6o pins s σ H vs us Q I r ?_
 unfold l2j at h
 split at h
 ·exact ⟨rfl, h⟩
 ·exact h.elim
theorem b2k {e : Expr} {es : List Expr} {t : TG} {u : TGs} (h1 : PG X e t) (h2 : PGs X es u)
  (hs : (assignEach (e :: es) X.env).map (·.2) = assign e X.env :: (assignEach es X.env).map (·.2) := by rfl) : PGs X (e :: es) (k5a t u) := by
 intro pins s σ H vs us Q I r h
 refine g9c h1 h2 hs pins s σ H vs us Q I r ?_
 unfold k5a at h
 split at h
 ·exact ⟨_, _, rfl, h⟩
 ·exact h.elim
theorem g9j {es : List Expr} {k : Nat} {t : TGs} {n : Nat} (hc : X.calm = true) (h : PGs X es t)
  (hn : (assignEach es X.env).length = n := by rfl) (hst : (assignEach es X.env).findIdx? (·.1) = none := by rfl) : PG X (.Tuple es k pos) (l2k n t) := by
 intro pins s σ H v u Q I r hw
 refine k4c hc h hn hst pins s σ H v u Q I r ?_
 unfold l2k at hw
 cases v with
 | ref a =>
  dsimp only at hw
  split at hw
  ·rename_i xs e
   exact ⟨a, xs, rfl, SqT.of e, hw.1, hw.2⟩
  ·exact hw.elim
 | _ => exact False.elim hw
end
end L2
namespace L2
open PySem PySem.Spec PyProof.Rows
noncomputable def j7z (J : It) (tc : TT) (te : TE) (D : Addr) (σ : St) (H : Hp) (Q : VK) (_ : Tag Q) : Prop := ∃ (n : Nat) (W : Nat -> List V -> Hp -> Prop), W 0 [] H /\ ∀ i ys H, i <= n -> W i ys H -> H D = some (.lst ys) /\
 ((J.stop i H /\ Q (.ref D) H) \/ (i < n /\ J.go i H /\ ys.length < sizeLine /\ ∀ x H', J.yld i H x H' -> tc (some x :: σ) H' fun b H1 =>
  if b = true then te (some x :: σ) H1 fun y H2 => H2 D = some (.lst ys) /\ ∀ H3, a2i D H2 H3 -> H3 D = some (.lst (ys ++ [y])) -> W (i + 1) (ys ++ [y]) H3
  else W (i + 1) ys H1))
noncomputable def l2l (wi : TI) (tc : TT) (te : TE) : TE := fun σ H Q => wi σ H fun J H1 => ∀ D H2, H1 D = none -> Same H1 H2 -> H2 D = some (.lst []) -> j7z J tc te D σ H2 Q ⟨⟩
section
variable {X : Cx} {scope : Scope} {x : Str} {pins : List (Addr × Obj)} {σ : St} {elt iter cnd : Expr} {px pos : Pos} {wi : TI} {te : TE} {tc : TT}
theorem i4g {s₂ : Shared} {H1 : Hp} {it : Addr} {fp : List Addr} {tn : Nat -> Heap -> Prop} {J : It} {Q : VK} {RR : Value -> Addr -> Result -> Shared -> Prop} {E : Value -> Shared -> Prop} {cl : List (Str × Addr)}
  (S : b7y X scope x) (hc : X.calm = true) (hcnd : ∀ cl C s₃ H₃ fp, PT (a7t X scope cl C s₃ H₃ fp x) cnd tc) (he : ∀ cl C s₃ H₃ fp, PE (a7t X scope cl C s₃ H₃ fp x) elt te)
  (hcl : ∀ y c, cl.lookup y = some c -> (y, NameKind.free) ∈ scope.names /\ X.env.cells.lookup y = some c) (hcl2 : ∀ y, (y, NameKind.free) ∈ scope.names -> cl.lookup y = X.env.cells.lookup y)
  (I2 : Inv X pins σ H1 s₂) (T : Turn X.prog X.w X.K (.Name x px) J fp it tn) (st2 : tn 0 s₂.heap) (f2 : ∀ b ∈ fp, g0a X pins H1 b) (h : ∀ D H2, H1 D = none -> Same H1 H2 -> H2 D = some (.lst []) -> j7z J tc te D σ H2 Q ⟨⟩)
  (hRR : ∀ (D C : Addr) (s' : Shared) (H' : Hp), (∃ m, s'.heap.Ns C m) -> (∀ h' , Heap.SameBut C s'.heap h' -> Inv X pins σ H' { s' with heap := h' }) -> g0a X pins H' C -> Q (.ref D) H' -> RR (.ref D) C (.ok .next) s') :
  wpAny (model X.prog X.w) X.A (newList []) (fun acc s₃ => wpAny (model X.prog X.w) X.A (newFunctionEnv scope X.env.globals cl [] X.env.qual none .none (some X.env)) (fun cenv s₄ =>
   codeAny (model X.prog X.w) X.A (.compStart (.ListComp elt [⟨.Name x px, iter, [cnd], 0⟩] scope pos) 0 (.ref it) acc { cenv with scope := relabel scope X.env }) (RR acc cenv.locals) s₄) E s₃) E s₂ := by
 have hfr : H1 s₂.heap.objs.size = none := I2.hok.fresh (Nat.le_refl _)
 have hCW := h s₂.heap.objs.size _ hfr (Same.upd hfr) a3i
 refine wpAny_newObj_type ?_
 have I3 : Inv X pins σ (upd H1 s₂.heap.objs.size (.lst [])) { s₂ with heap := s₂.heap.push { cls := .type "list", data := .seq ([] : List Value).toArray }, toks := s₂.toks } :=
  I2.laid (t' := s₂.toks) (fun b u e => Heap.get?_push_of_some _ e) (Nat.le_refl _) ⟨Nat.zero_le _, [], 0, .nil, Heap.get?_push_size _ rfl⟩
 have nD : ∀ b ∈ fp, b ≠ s₂.heap.objs.size := fun b hb => by
  obtain ⟨o, e, _⟩ := T.obj 0 _ st2 b hb
  exact Nat.ne_of_lt (Heap.lt_size e)
 have f3 : ∀ b ∈ fp, g0a X pins (upd H1 s₂.heap.objs.size (.lst [])) b := fun b hb => ⟨by rw [a3u (nD b hb)]; exact (f2 b hb).1, (f2 b hb).2⟩
 generalize hH3 : upd H1 s₂.heap.objs.size (.lst []) = H3 at *
 have st3 : tn 0 (s₂.heap.push { cls := .type "list", data := .seq ([] : List Value).toArray }) := T.keep _ _ _ st2 fun b _ o e => Heap.get?_push_of_some _ e
 have j7u : ∀ b ∈ fp, b < (s₂.heap.push { cls := .type "list", data := .seq ([] : List Value).toArray }).objs.size := fun b hb => by
  obtain ⟨o, e, _⟩ := T.obj 0 _ st3 b hb
  exact Heap.lt_size e
 show wpAny (model X.prog X.w) X.A (newFunctionEnv scope X.env.globals cl [] X.env.qual none .none (some X.env)) _ E { s₂ with heap := s₂.heap.push { cls := .type "list", data := .seq ([] : List Value).toArray }, toks := s₂.toks }
 generalize hs3 : ({ s₂ with heap := s₂.heap.push { cls := .type "list", data := .seq ([] : List Value).toArray }, toks := s₂.toks } : Shared) = s₃ at *
 have eh : s₃.heap = s₂.heap.push { cls := .type "list", data := .seq ([] : List Value).toArray } := by rw [← hs3]
 rw [<- eh] at st3 j7u
 generalize s₂.heap.objs.size = D at *
 refine wpAny_newFunctionEnv S.f6j (by intro y hy; simp at hy) (fun h₁ hns₁ hsb₁ => ?_) S.kind
 have hk1 : ∀ b o, s₃.heap.get? b = some o -> h₁.get? b = some o := fun b o e => hsb₁.extBut b o (Nat.ne_of_lt (Heap.lt_size e)) (Heap.get?_push_of_some _ e)
 have J0 : Inv (a7t X scope cl s₃.heap.objs.size s₃ H3 fp x) [] (none :: σ) H3 { s₃ with heap := h₁, toks := s₃.toks + ([] : List (Str × Value)).length } := I3.comp S hcl hcl2 f3 j7u hns₁ hk1 rfl rfl
 obtain ⟨n0, W, w0, turn⟩ := hCW
 have loop : codeAny (model X.prog X.w) X.A (.compLoop (.ListComp elt [⟨.Name x px, iter, [cnd], 0⟩] scope pos) 0 (.ref it) (.ref D) (compEnvC scope cl s₃.heap.objs.size X.env)) (RR (.ref D) s₃.heap.objs.size) { s₃ with heap := h₁, toks := s₃.toks + ([] : List (Str × Value)).length } := by
  refine codeAny_loop rfl (fun n s' => ∃ i ys o H', Inv (a7t X scope cl s₃.heap.objs.size s₃ H3 fp x) [] (o :: σ) H' s' /\ tn i s'.heap /\ (∀ b ∈ fp, H' b = none) /\ W i ys H' /\ i <= n0 /\ n = n0 - i) (fun n s5 hI => ?_) n0
   ⟨0, [], none, H3, J0, T.keep _ _ _ st3 (fun b _ o e => hk1 b o e), fun b hb => (f3 b hb).1, w0, Nat.zero_le _, rfl⟩
  obtain ⟨i, ys, o5, H5, I5, st5, fr5, w5, hin, hnn⟩ := hI
  have stat : ∀ {H' : Hp}, (∀ b ∈ fp, H' b = none) -> ∀ b ∈ fp, g0a (a7t X scope cl s₃.heap.objs.size s₃ H3 fp x) [] H' b := fun hn b hb =>
   ⟨hn b hb, Nat.ne_of_lt (j7u b hb), fun z => (List.mem_cons.mp (I3.f9w b z)).elim (fun q => (f3 b hb).2.1 q) fun q => (f3 b hb).2.2.1 q, .inl hb, fun y c e => (f3 b hb).2.2.2.2.1 y c (hcl y c e).2, fun p hp => absurd (show p ∈ ([] : List (Addr × Obj)) from hp) (by simp)⟩
  show wpAny _ X.A ((compTurn (.ListComp elt [⟨.Name x px, iter, [cnd], 0⟩] scope pos) 0 (.ref it) (.ref D) (compEnvC scope cl s₃.heap.objs.size X.env)).onRaise (fun x => do noteFrame x (compEnvC scope cl s₃.heap.objs.size X.env); theTreesLotGoes x)) _ _ s5
  refine wpAny_noted ?_
  rw [compTurn_list]
  refine wpAny_bind (wpAny_standAt (wpAny_bind ?_))
  obtain ⟨hD5, alt⟩ := turn i ys H5 hin w5
  rcases alt with ⟨stop, q⟩ | ⟨hlt, go, hsz, step⟩
  ·refine wpAny_mono (T.done (a7t X scope cl s₃.heap.objs.size s₃ H3 fp x) rfl rfl rfl hc i [] s5 _ H5 _ I5 (stat fr5) st5 stop) (fun r s6 ⟨hr, I6⟩ => ?_) fun _ _ z => z
   subst hr
   refine wpAny_pure ?_
   obtain ⟨m6, hn6, _⟩ := I6.loc
   exact hRR D s₃.heap.objs.size s6 H5 ⟨m6, hn6⟩ (fun h' hs' => I3.k4r f3 I6 hs') (I3.k1b (Nat.le_refl _) I6.free) q
  ·refine wpAny_mono (T.item (a7t X scope cl s₃.heap.objs.size s₃ H3 fp x) rfl rfl rfl hc i [] s5 _ H5 _ I5 (stat fr5) st5 go) (fun r s6 ⟨u, hr, h6⟩ => ?_) fun _ _ z => z
   subst hr
   refine wpAny_bind (wpAny_mono h6 (fun _ s7 ⟨v, H7, I7, r7, y7, st7, fr7⟩ => ?_) fun _ _ z => z)
   have I7' := I7.pinned (stat fr7) (T.obj _ _ st7)
   have G := a3v (X := a7t X scope cl s₃.heap.objs.size s₃ H3 fp x) (pos := px) (i := 0) (x := x) S.nd rfl (.inl (lookup_relabel_local S.own)) (.inr (lookup_relabel_local S.own))
   refine wpAny_bind (wpAny_mono (G _ s7 _ H7 v u (fun σ' H' => σ' = some v :: σ /\ H' = H7) I7' r7 ⟨rfl, rfl⟩) (fun _ s8 hs8 => ?_) fun _ _ z => False.elim z)
   obtain ⟨σ8, H8, I8, rfl, rfl⟩ := hs8
   refine wpAny_bind (wpAny_mono (wpAny_tests_one (hcnd cl s₃.heap.objs.size s₃ H3 fp _ s8 _ _ _ I8 (step v H8 y7))) (fun ok sB hok => ?_) fun _ _ z => False.elim z)
   obtain ⟨HB, IB, qB⟩ := hok
   cases ok with
   | false =>
    have wB : W (i + 1) ys HB := by simpa using qB
    refine wpAny_pure ⟨rfl, n0 - (i + 1), by omega, i + 1, ys, some v, _, IB.c3q (pins := []) (pl := f6h fp s7.heap), T.keep _ _ _ st7 (fun b hb o e => (IB.pin (b, o) (List.mem_append_right _ (a7q hb e))).1), fun b hb => ?_, wB, hlt, rfl⟩
    obtain ⟨o, e, d⟩ := T.obj _ _ st7 b hb
    exact (IB.pin (b, o) (List.mem_append_right _ (a7q hb e))).2.1
   | true =>
   rw [if_pos rfl] at qB
   refine wpAny_bind (wpAny_bind (wpAny_mono (he cl s₃.heap.objs.size s₃ H3 fp _ sB _ _ _ IB qB) (fun yv s9 hs9 => ?_) fun _ _ z => False.elim z))
   obtain ⟨y, H9, I9, r9, hD9, k9⟩ := hs9
   refine wpAny_bind (wpAny_mono (f0p (X := a7t X scope cl s₃.heap.objs.size s₃ H3 fp x) _ s9 _ H9 (.ref D) [y] (.ref D) [yv] (fun _ H' => H' = upd H9 D (.lst (ys ++ [y]))) I9 rfl (.cons r9 .nil) ⟨D, ys, y, rfl, rfl, hD9, hsz, rfl⟩) (fun _ sA hsA => ?_) fun _ _ z => False.elim z)
   obtain ⟨_, HA, IA, _, rfl⟩ := hsA
   refine wpAny_pure ?_
   have wA := k9 _ a2i.upd a3i
   refine wpAny_pure ⟨rfl, n0 - (i + 1), by omega, i + 1, ys ++ [y], some v, _, IA.c3q (pins := []) (pl := f6h fp s7.heap), T.keep _ _ _ st7 (fun b hb o e => (IA.pin (b, o) (List.mem_append_right _ (List.mem_append_right _ (a7q hb e)))).1), fun b hb => ?_, wA, hlt, rfl⟩
   obtain ⟨o, e, d⟩ := T.obj _ _ st7 b hb
   exact (IA.pin (b, o) (List.mem_append_right _ (List.mem_append_right _ (a7q hb e)))).2.1
 exact codeAny_compStart_list loop (T.self _ 0 _ _ _ (T.keep _ _ _ st3 fun b _ o e => hk1 b o e) loop)
theorem j0n {i : Nat} {y : Str} {py spos : Pos} (hN : X.N.Nodup) (hyi : X.N[i]? = some y) (hy : X.env.scope.names.lookup y = some .local) (hi : PI X (.Name x px) iter wi) (hcnd : ∀ cl C s₃ H₃ fp, PT (a7t X scope cl C s₃ H₃ fp x) cnd tc) (he : ∀ cl C s₃ H₃ fp, PE (a7t X scope cl C s₃ H₃ fp x) elt te) (S : b7y X scope x) (hc : X.calm = true)
  (hsw : swapsWith (.ListComp elt [⟨.Name x px, iter, [cnd], 0⟩] scope pos) (some (.Name y py)) spos.line X.env = pure true := by rfl)
  (hs : ∀ x, foldedSetIterable iter X.env x = pure x := by intro _; rfl) : PS X (.Assign [.Name y py] (.ListComp elt [⟨.Name x px, iter, [cnd], 0⟩] scope pos) spos) (l6a (l2l wi tc te) (k1a i)) := by
 intro pins s σ H D I h
 obtain ⟨cl, hclos, hcl, hcl2⟩ := d2w (env := X.env) (sc := scope) fun y hy => I.ok.has y (S.free _ hy rfl)
 rw [exec_Assign_Name_used _ _ _ _ hsw]
 refine wpAny_bind (wpAny_standAt (wpAny_bind ?_))
 show wpAny _ X.A (do let _ <- comprehension (.ListComp elt [⟨.Name x px, iter, [cnd], 0⟩] scope pos) scope X.env _ (newList []) false (eval iter X.env) (some (assign (.Name y py) X.env))) _ _ s
 refine wpAny_bind (wpAny_mono (wpAny_comprehension_free (use := some (assign (.Name y py) X.env)) (Q := fun _ s' => SP X pins D .next s') rfl hs hclos S.kind S.loc ?_) (fun _ s' hq => wpAny_pure (wpAny_pure hq)) fun _ _ e => e)
 refine thn (hi pins s σ H _ I h) fun v s1 h1 => thn h1 fun itv s2 h2 => ?_
 obtain ⟨it, fp, tn, J, H2, e, I2, T, st2, f2, hW⟩ := h2
 subst e
 refine i4g (Q := fun v H' => D.nx (σ.set i (some v)) H') (RR := fun acc C => compPost (model X.prog X.w) X.A X.xe (some (assign (.Name y py) X.env)) (fun _ s' => SP X pins D .next s') acc C) S hc hcnd he hcl hcl2 I2 T st2 f2 hW fun L C s' H' hm hI hfp hq => ?_
 obtain ⟨m, hn⟩ := hm
 have I' : Inv X pins σ H' s' := hI s'.heap (Heap.SameBut.refl ..)
 show wpAny _ X.A (assign (.Name y py) X.env (.ref L)) _ _ s'
 refine wpAny_assign_Name (f9y (v := .ref L) I' hN hyi (.inl hy) rfl (fun s'' I'' hsb => ?_) (.inr hy))
 obtain ⟨a, hsame, ha⟩ := hsb
 have nea : C ≠ a := by
  rcases ha with z | z
  ·rw [z]; exact hfp.2.1
  ·exact fun q => hfp.2.2.2.2.1 y a z q.symm
 refine ⟨m, hn.sameBut hsame nea, fun h' hs' => ⟨_, H', I''.turned (t' := s''.toks) (it := C) (fun b o hb e => hs'.extBut b o hb e) hfp.1 hfp.2.1 hfp.2.2.2.1 hfp.2.2.2.2.1 hfp.2.2.2.2.2, hq⟩⟩
end
section
variable {X : Cx} {k : Nat} {f C : Addr} {fd : FuncData} {ps : List Str} {sp : Sp} {dvs : List V} {ds : List Value} {E : XK} {x m : Str} {p pos apos : Pos} {e o : Expr} {es : List Expr} {ta : TE} {t : TA}
end
end L2
namespace L2
open PySem PySem.Spec PyProof.Rows
noncomputable def rSl3 : V -> Option Int -> Hp -> VK -> Prop := fun x st H Q => match x with
 | .ref a => (match H a with
  | some (.lst xs) => st ≠ some 0 /\ ∀ ys : List V, ys.length <= xs.length -> (∀ y ∈ ys, y ∈ xs) -> New H (.lst ys) Q ⟨⟩
  | _ => False)
 | _ => False
noncomputable def tSl3 (te : TE) (tl th ts : TO) : TE := fun σ H Q => te σ H fun x H1 => tl σ H1 fun _ H2 => th σ H2 fun _ H3 => ts σ H3 fun st H4 => rSl3 x st H4 Q
section
variable {X : Cx}
end
section
variable {prog : Program} {w : World} {A : Around} {E : Value -> Shared -> Prop} {s : Shared}
end
noncomputable def rSetM : V -> V -> V -> Hp -> (Hp -> Prop) -> Prop := fun o i v H Q => match o, i with
 | .ref p, .int k => (match H p with
  | some (.lst xs) => (0 <= k /\ k < xs.length) /\ ∀ H1, a2i p H H1 -> H1 p = some (.lst (xs.set k.toNat v)) -> Q H1
  | _ => False)
 | _, _ => False
theorem g9k {K : PySem.W.Frag} {a D : Addr} {xs : List V} {te : TE} {σ : St} {H0 H : Hp} {Q : VK} (zs : List V) (hz : zs.length = xs.length) (n0 : H0 D = none) (S : Same H0 H) (hD : H D = some (.lst [])) (hS : SqL K H0 a xs) (hsz : xs.length <= sizeLine)
  (hs : ∀ (i : Nat) x z H' (Q' : VK), xs[i]? = some x -> zs[i]? = some z -> Same H0 H' -> Q' z H' -> te (some x :: σ) H' Q') (q : ∀ H', Same H0 H' -> H' D = some (.lst zs) -> Q (.ref D) H') : g4f (Itl K a) te D σ H Q ⟨⟩ := by
 refine b3j (fun i ys H' => Same H0 H' /\ H' D = some (.lst ys) /\ ys = zs.take i) ⟨S, hD, by simp⟩ hsz (fun i ys H' hi p => ?_) (fun i x ys H' hx p => ?_) (fun ys H' p => ?_)
 ·refine ⟨p.2.1, p.1.seq hS, ?_⟩
  rw [p.2.2, List.length_take]
  omega
 ·have hi : i < zs.length := by rw [hz]; exact (List.getElem?_eq_some_iff.mp hx).1
  have hzi : zs[i]? = some zs[i] := List.getElem?_eq_getElem hi
  refine hs i x _ H' _ hx hzi p.1 ⟨p.2.1, fun H3 s3 h3 => ⟨p.1.step n0 s3, h3, ?_⟩⟩
  rw [p.2.2, List.take_add_one, hzi]
  rfl
 ·refine q H' p.1 ?_
  rw [p.2.1, p.2.2, <- hz, List.take_length]
end L2
namespace L2
open PySem PySem.Spec PyProof.Rows
section
variable {X : Cx} {pins : List (Addr × Obj)} {σ : St} {H : Hp} {s : Shared}
theorem Inv.j8a {t' : Nat} {h' : Heap} {fp : List Addr} (I : Inv X pins σ H s) (k : ∀ b o, b ∉ fp -> s.heap.get? b = some o -> h'.get? b = some o) (hf : ∀ b ∈ fp, g0a X pins H b) : Inv X pins σ H { s with heap := h', toks := t' } := by
 have nit : ∀ b u, H b = some u -> b ∉ fp := fun b u e z => by rw [(hf b z).1] at e; cases e
 refine I.call' (s' := { s with heap := h', toks := t' }) (ch := fp) rfl ⟨fun b o e n hb hx => k b o hx e, fun b o e n hb hx => ⟨o.slots, k b o hx e⟩, fun _ _ _ n _ => n, fun b o e hx => ⟨o, k b o hx e⟩, fun _ _ q => q, fun _ _ _ q => q, fun _ ps q => ⟨#[], by rw [q]; simp⟩⟩ ?_ I.bare fun b hb => ⟨(hf b hb).2.2.2.1, (hf b hb).2.1, (hf b hb).2.2.2.2.1, (hf b hb).2.2.2.2.2⟩
 intro b u e
 refine (I.hok b u e).stay (fun c v hc q => k c v ?_ q) (fun _ q => q) fun _ _ q => q
 rcases hc with z | z
 ·rw [z]; exact nit b u e
 ·exact nit c _ z
end
noncomputable def ItB (b : Bool) (h : Heap) (it l : Addr) (i : Nat) : Prop := ∃ o, h.get? it = some o ∧ o.cls = .type (cond b "list_iterator" "tuple_iterator") ∧ o.data = .fields #[.ref l, .int i 0]
noncomputable def SqB (b : Bool) (h : Heap) (l : Addr) (items : Array Value) : Prop := ∃ o, h.get? l = some o ∧ o.cls = .type (cond b "list" "tuple") ∧ ∃ n, o.data = .seq items n
theorem ItB.at {b : Bool} {h h' : Heap} {it l : Addr} {i : Nat} (x : ItB b h it l i) (k : ∀ o, h.get? it = some o -> h'.get? it = some o) : ItB b h' it l i := let ⟨o, e, r⟩ := x; ⟨o, k o e, r⟩
theorem SqB.at {b : Bool} {h h' : Heap} {l : Addr} {items : Array Value} (x : SqB b h l items) (k : ∀ o, h.get? l = some o -> h'.get? l = some o) : SqB b h' l items := let ⟨o, e, r⟩ := x; ⟨o, k o e, r⟩
section
variable {prog : Program} {w : World} {A : Around} {E : Value -> Shared -> Prop} {s : Shared}
theorem i4h {it t : Addr} {i : Nat} {items : Array Value} {x : Value} {Q : Value -> Shared -> Prop} (hit : s.heap.IsTupleIter it t i) (ht : s.heap.IsTuple t items) (hx : items[i]? = some x)
  (hQ : ∀ h', h'.IsTupleIter it t (i + 1) -> Heap.SameBut it s.heap h' -> Q x { s with heap := h' }) : wpAny (model prog w) A (Builtin.SmallTypes.nextOf (.ref it)) Q E s := by
 obtain ⟨o, ho, hc, hd⟩ := id hit
 obtain ⟨ol, hol, _, nl, hdl⟩ := ht
 unfold Builtin.SmallTypes.nextOf
 refine wpAny_bind (wpAny_callSpecial?_slot (name := Str.ofString "__next__") hit.typeIs F.slot_tuple_iterator_next
  (wpAny_call_entry F.slot_tuple_iterator_next hit.typeIs F.entry_tuple_iterator_next ?_ (F.args_tuple_iterator_next_1 _)))
 show wpAny _ _ (field (.ref it) 0 >>= _) _ _ s
 refine wpAny_bind (wpAny_field ho hd (x := .ref t) rfl ?_)
 show wpAny _ _ (if (Value.ref t == Value.none) = true then _ else _) _ _ s
 rw [if_neg (show ¬ ((Value.ref t == Value.none) = true) from Bool.false_ne_true)]
 show wpAny _ _ (field (.ref it) 1 >>= _) _ _ s
 refine wpAny_bind (wpAny_field ho hd (x := .int i 0) rfl ?_)
 show wpAny _ _ (seqItems? (.ref t) >>= _) _ _ s
 refine wpAny_bind (wpAny_seqItems hol hdl ?_)
 simp only [Int.toNat_natCast, hx]
 refine wpAny_bind (wpAny_setField ho hd (by simp) (wpAny_pure ⟨x, rfl, wpAny_pure (hQ _ ?_ (Heap.SameBut.update ..))⟩))
 exact ⟨_, Heap.get?_update_self _ ho (Obj.isFreed_of_fields (Obj.data_mapFields hd _)), (Obj.cls_mapFields ..).trans hc, by
  rw [Obj.data_mapFields hd]; simp [rawInt]⟩
theorem j1x {it t : Addr} {i : Nat} {items : Array Value} {Q : Value -> Shared -> Prop} (hh : A.handled = none) (hit : s.heap.IsTupleIter it t i) (ht : s.heap.IsTuple t items) (hx : items[i]? = none)
  (hE : ∀ h' e, Heap.ExtBut it s.heap h' → (∃ o, h'.get? e = some o ∧ o.cls = .type "StopIteration") → E (.ref e) { s with heap := h' }) : wpAny (model prog w) A (Builtin.SmallTypes.nextOf (.ref it)) Q E s := by
 obtain ⟨o, ho, hc, hd⟩ := id hit
 obtain ⟨ol, hol, _, nl, hdl⟩ := ht
 unfold Builtin.SmallTypes.nextOf
 refine wpAny_bind (wpAny_callSpecial?_slot (name := Str.ofString "__next__") hit.typeIs F.slot_tuple_iterator_next
  (wpAny_call_entry F.slot_tuple_iterator_next hit.typeIs F.entry_tuple_iterator_next ?_ (F.args_tuple_iterator_next_1 _)))
 show wpAny _ _ (field (.ref it) 0 >>= _) _ _ s
 refine wpAny_bind (wpAny_field ho hd (x := .ref t) rfl ?_)
 show wpAny _ _ (if (Value.ref t == Value.none) = true then _ else _) _ _ s
 rw [if_neg (show ¬ ((Value.ref t == Value.none) = true) from Bool.false_ne_true)]
 show wpAny _ _ (field (.ref it) 1 >>= _) _ _ s
 refine wpAny_bind (wpAny_field ho hd (x := .int i 0) rfl ?_)
 show wpAny _ _ (seqItems? (.ref t) >>= _) _ _ s
 refine wpAny_bind (wpAny_seqItems hol hdl ?_)
 simp only [Int.toNat_natCast, hx]
 refine wpAny_bind (wpAny_rule (wpAny_bind (wpAny_setField ho hd (by simp) ?_)))
 show wpAny _ _ (newExc (.type "StopIteration") [] >>= _) _ _ _
 refine wpAny_bind ?_
 simp only [newExc, newTuple]
 refine wpAny_bind (wpAny_newObj_type ?_ (by size_fits))
 refine wpAny_bind (m := firstArgMember _ _) (wpAny_of_eq (a := Value.none) (by first | rfl | (simp only [firstArgMember]; rfl)) ?_)
 refine wpAny_newObj_type ?_ (by size_fits)
 simp only [raiseNew]
 refine wpAny_bind (wpAny_handled ?_)
 first | rw [show A.in1.handled = none from hh] | rw [hh]
 refine wpAny_bind (wpAny_pure (wpAny_throw ?_))
 exact hE _ _ (((Heap.SameBut.update ..).extBut.push _).push _) ⟨_, Heap.get?_push_size _ rfl, rfl⟩
theorem i4i {b : Bool} {it l : Addr} {i : Nat} {items : Array Value} {x : Value} {Q : Value -> Shared -> Prop} (hit : ItB b s.heap it l i) (hl : SqB b s.heap l items) (hx : items[i]? = some x)
  (hQ : ∀ h', ItB b h' it l (i + 1) -> Heap.SameBut it s.heap h' -> Q x { s with heap := h' }) : wpAny (model prog w) A (Builtin.SmallTypes.nextOf (.ref it)) Q E s := by
 cases b with
 | true => exact wpAny_nextOf_list_item hit hl hx hQ
 | false => exact i4h hit hl hx hQ
theorem k5b {b : Bool} {it l : Addr} {i : Nat} {items : Array Value} {Q : Value -> Shared -> Prop} (hh : A.handled = none) (hit : ItB b s.heap it l i) (hl : SqB b s.heap l items) (hx : items[i]? = none)
  (hE : ∀ h' e, Heap.ExtBut it s.heap h' → (∃ o, h'.get? e = some o ∧ o.cls = .type "StopIteration") → E (.ref e) { s with heap := h' }) : wpAny (model prog w) A (Builtin.SmallTypes.nextOf (.ref it)) Q E s := by
 cases b with
 | true => exact wpAny_nextOf_list_end hh hit hl hx hE
 | false => exact j1x hh hit hl hx hE
noncomputable def itO (b : Bool) (l : Addr) : Obj := { cls := .type (cond b "list_iterator" "tuple_iterator"), data := .fields #[.ref l, .int 0 0] }
theorem l2m {b : Bool} {l : Addr} {items : Array Value} {Q : Value -> Shared -> Prop} (hl : SqB b s.heap l items) (hQ : Q (.ref s.heap.objs.size) { s with heap := s.heap.push (itO b l) }) : wpAny (model prog w) A (pyIter (.ref l)) Q E s := by
 cases b with
 | true => exact wpAny_pyIter_list hl hQ
 | false => exact wpAny_pyIter_tuple hl hQ
theorem j8b {b1 b2 : Bool} {z TI TO i1 i2 l1 l2 : Addr} {k : Nat} {xs ys : Array Value} {x y a b : Value} {Q : Option Value -> Shared -> Prop} (D : ZipApart z TI TO i1 i2 l1 l2)
  (hz : IsZip s.heap z TI TO .none) (hTI : IsPair s.heap TI (.ref i1) (.ref i2)) (hTO : IsPair s.heap TO a b)
  (h1 : ItB b1 s.heap i1 l1 k) (h2 : ItB b2 s.heap i2 l2 k) (hl1 : SqB b1 s.heap l1 xs) (hl2 : SqB b2 s.heap l2 ys) (hx : xs[k]? = some x) (hy : ys[k]? = some y)
  (hQ : ∀ h', IsZip h' z TI TO (rawInt s.heap.objs.size) -> IsPair h' TO x y -> ItB b1 h' i1 l1 (k + 1) -> ItB b2 h' i2 l2 (k + 1) -> IsPair h' s.heap.objs.size x y ->
   (∀ c o, c ≠ z -> c ≠ TO -> c ≠ i1 -> c ≠ i2 -> s.heap.get? c = some o -> h'.get? c = some o) -> Q (some (.ref s.heap.objs.size)) { s with heap := h' }) :
  wpAny (model prog w) A (pyNext (.ref z)) Q E s := by
 have hT : s.TypeIs (.ref z) "zip" := ⟨_, hz, rfl⟩
 unfold pyNext
 refine wpAny_bind (wpAny_attempt (wpAny_callSpecial?_slot (name := Str.ofString "__next__") hT F.slot_zip_next (wpAny_call_entry F.slot_zip_next hT F.entry_zip_next ?_ (F.args_zip_next_1 _))))
 show wpAny _ _ (field (.ref z) 2 >>= _) _ _ _
 refine wpAny_bind (wpAny_field hz rfl (x := .bool false) rfl ?_)
 show wpAny _ _ (field (.ref z) 3 >>= _) _ _ _
 refine wpAny_bind (wpAny_field hz rfl (x := .ref TI) rfl ?_)
 refine wpAny_bind (wpAny_seqItems hTI rfl ?_)
 show wpAny _ _ (Builtin.SmallTypes.ownedTupleIsFree (.ref z) >>= _) _ _ _
 refine wpAny_bind ?_
 unfold Builtin.SmallTypes.ownedTupleIsFree
 refine wpAny_bind (wpAny_field hz rfl (x := .none) rfl (wpAny_pure ?_))
 simp only [if_true]
 refine wpAny_bind (wpAny_rule ?_)
 refine wpAny_bind (wpAny_field hz rfl (x := .ref TO) rfl ?_)
 refine wpAny_bind (wpAny_setField_rec hz (by simp) fun g1 hz1 s1 => ?_)
 replace hz1 : IsZip g1 z TI TO .ellipsis := hz1
 refine wpAny_bind ?_
 simp only [List.zipIdx_cons, List.zipIdx_nil, List.forIn_cons, List.forIn_nil]
 refine wpAny_bind (wpAny_bind (wpAny_onRaise ?_))
 show wpAny _ _ (Builtin.SmallTypes.nextOf (.ref i1) >>= _) _ _ _
 refine wpAny_bind (i4i (h1.at fun o e => s1.extBut _ _ D.i1z e) (hl1.at fun o e => s1.extBut _ _ D.l1z e) hx fun g2 h12 s2 => wpAny_pure ?_)
 have l2n : IsPair g2 TO a b := s2.extBut _ _ D.TOi1 (s1.extBut _ _ D.TOz hTO)
 refine wpAny_bind (wpAny_seqItems l2n rfl ?_)
 refine wpAny_bind (wpAny_updateSeq_pair l2n fun g3 hTO3 s3 => ?_)
 replace hTO3 : IsPair g3 TO x b := hTO3
 refine wpAny_bind (wpAny_letGo (wpAny_pure ?_))
 refine wpAny_bind (wpAny_bind (wpAny_onRaise ?_))
 show wpAny _ _ (Builtin.SmallTypes.nextOf (.ref i2) >>= _) _ _ _
 refine wpAny_bind (i4i (h2.at fun o e => s3.extBut _ _ D.TOi2.symm (s2.extBut _ _ D.i12.symm (s1.extBut _ _ D.i2z e))) (hl2.at fun o e => s3.extBut _ _ D.l2TO (s2.extBut _ _ D.l2i1 (s1.extBut _ _ D.l2z e))) hy fun g4 h24 s4 => wpAny_pure ?_)
 have m0d : IsPair g4 TO x b := s4.extBut _ _ D.TOi2 hTO3
 refine wpAny_bind (wpAny_seqItems m0d rfl ?_)
 refine wpAny_bind (wpAny_updateSeq_pair m0d fun g5 hTO5 s5 => ?_)
 replace hTO5 : IsPair g5 TO x y := hTO5
 refine wpAny_bind (wpAny_letGo (wpAny_pure (wpAny_pure ?_)))
 refine wpAny_bind (wpAny_seqItems hTO5 rfl ?_)
 refine wpAny_bind (wpAny_newTuple ?_)
 have hsz : g5.objs.size = s.heap.objs.size := by rw [s5.1, s4.1, s3.1, s2.1, s1.1]
 have hz5 : IsZip g5 z TI TO .ellipsis := s5.extBut _ _ D.TOz.symm (s4.extBut _ _ D.i2z.symm (s3.extBut _ _ D.TOz.symm (s2.extBut _ _ D.i1z.symm hz1)))
 have h15 : ItB b1 g5 i1 l1 (k + 1) := h12.at fun o e => s5.extBut _ _ D.TOi1.symm (s4.extBut _ _ D.i12 (s3.extBut _ _ D.TOi1.symm e))
 have h25 : ItB b2 g5 i2 l2 (k + 1) := h24.at fun o e => s5.extBut _ _ D.TOi2.symm e
 have hzlt : z < g5.objs.size := Heap.lt_size hz5
 show wpAny _ _ (Builtin.SmallTypes.ownedTupleHandOut (.ref z) (.ref g5.objs.size) >>= _) _ _ _
 refine wpAny_bind ?_
 unfold Builtin.SmallTypes.ownedTupleHandOut
 have hz6 : IsZip (g5.push { cls := .type "tuple", data := .seq #[x, y] }) z TI TO .ellipsis := Heap.get?_push_of_some _ hz5
 refine wpAny_bind (wpAny_setField_rec hz6 (by simp) fun g7 hz7 s7 => ?_)
 replace hz7 : IsZip g7 z TI TO (rawInt g5.objs.size) := hz7
 refine wpAny_setField_rec hz7 (by simp) fun g8 hz8 s8 => ?_
 replace hz8 : IsZip g8 z TI TO (rawInt g5.objs.size) := hz8
 have up : ∀ c o, c ≠ z -> g5.get? c = some o -> g8.get? c = some o := fun c o c1 e => s8.extBut _ _ c1 (s7.extBut _ _ c1 (Heap.get?_push_of_some _ e))
 have hT8 : IsPair g8 g5.objs.size x y := s8.extBut _ _ (Nat.ne_of_gt hzlt) (s7.extBut _ _ (Nat.ne_of_gt hzlt) (Heap.get?_push_size _ rfl))
 rw [hsz] at hz8 hT8
 refine wpAny_pure ⟨_, rfl, wpAny_pure ?_⟩
 show Q (some (.ref g5.objs.size)) _
 rw [hsz]
 exact hQ g8 hz8 (up _ _ D.TOz hTO5) (h15.at fun o e => up _ o D.i1z e) (h25.at fun o e => up _ o D.i2z e) hT8 fun c o c1 c2 c3 c4 e =>
  up c o c1 (s5.extBut _ _ c2 (s4.extBut _ _ c4 (s3.extBut _ _ c2 (s2.extBut _ _ c3 (s1.extBut _ _ c1 e)))))
theorem k2d {b1 b2 : Bool} {z TI TO i1 i2 l1 l2 : Addr} {k : Nat} {xs ys : Array Value} {a b : Value} {Q : Option Value -> Shared -> Prop} (hh : A.handled = none) (D : ZipApart z TI TO i1 i2 l1 l2)
  (hz : IsZip s.heap z TI TO .none) (hTI : IsPair s.heap TI (.ref i1) (.ref i2)) (hTO : IsPair s.heap TO a b)
  (h1 : ItB b1 s.heap i1 l1 k) (h2 : ItB b2 s.heap i2 l2 k) (hl1 : SqB b1 s.heap l1 xs) (hl2 : SqB b2 s.heap l2 ys) (hend : xs[k]? = none \/ ys[k]? = none)
  (hQ : ∀ h', (∀ c o, c ≠ z -> c ≠ TO -> c ≠ i1 -> c ≠ i2 -> s.heap.get? c = some o -> h'.get? c = some o) -> Q none { s with heap := h' }) : wpAny (model prog w) A (pyNext (.ref z)) Q E s := by
 have hT : s.TypeIs (.ref z) "zip" := ⟨_, hz, rfl⟩
 unfold pyNext
 have fin : ∀ (h' : Heap) (e : Addr), (∀ c o, c ≠ z → c ≠ TO → c ≠ i1 → c ≠ i2 → s.heap.get? c = some o → h'.get? c = some o) → (∃ o, h'.get? e = some o ∧ o.cls = .type "StopIteration") →
   wpAny (model prog w) A (isInstance (.ref e) (.type "StopIteration") >>= fun b => if b = true then pure none else throw (.ref e)) Q E { s with heap := h' } := fun h' e hk he => by
  obtain ⟨o, ho, hc⟩ := he
  refine wpAny_bind (wpAny_isInstance (T := "StopIteration") (b := true) ⟨o, ho, hc⟩ isSubtype_stop ?_)
  exact wpAny_pure (hQ _ hk)
 refine wpAny_bind (wpAny_attempt (wpAny_callSpecial?_slot (name := Str.ofString "__next__") hT F.slot_zip_next (wpAny_call_entry F.slot_zip_next hT F.entry_zip_next ?_ (F.args_zip_next_1 _))))
 show wpAny _ _ (field (.ref z) 2 >>= _) _ _ _
 refine wpAny_bind (wpAny_field hz rfl (x := .bool false) rfl ?_)
 show wpAny _ _ (field (.ref z) 3 >>= _) _ _ _
 refine wpAny_bind (wpAny_field hz rfl (x := .ref TI) rfl ?_)
 refine wpAny_bind (wpAny_seqItems hTI rfl ?_)
 show wpAny _ _ (Builtin.SmallTypes.ownedTupleIsFree (.ref z) >>= _) _ _ _
 refine wpAny_bind ?_
 unfold Builtin.SmallTypes.ownedTupleIsFree
 refine wpAny_bind (wpAny_field hz rfl (x := .none) rfl (wpAny_pure ?_))
 simp only [if_true]
 refine wpAny_bind (wpAny_rule ?_)
 refine wpAny_bind (wpAny_field hz rfl (x := .ref TO) rfl ?_)
 refine wpAny_bind (wpAny_setField_rec hz (by simp) fun g1 hz1 s1 => ?_)
 replace hz1 : IsZip g1 z TI TO .ellipsis := hz1
 refine wpAny_bind ?_
 simp only [List.zipIdx_cons, List.zipIdx_nil, List.forIn_cons, List.forIn_nil]
 refine wpAny_bind (wpAny_bind (wpAny_onRaise ?_))
 show wpAny _ _ (Builtin.SmallTypes.nextOf (.ref i1) >>= _) _ _ _
 cases hx : xs[k]? with
 | none =>
  refine wpAny_bind (k5b hh (h1.at fun o e => s1.extBut _ _ D.i1z e) (hl1.at fun o e => s1.extBut _ _ D.l1z e) hx fun g2 e s2 he => ?_)
  obtain ⟨oe, hoe, hce⟩ := he
  have hz2 : IsZip g2 z TI TO .ellipsis := s2 _ _ D.i1z.symm hz1
  have hez : e ≠ z := fun x => by subst x; rw [hz2] at hoe; cases hoe; simp at hce
  exact wpAny_setField_rec hz2 (by simp) fun g3 _ s3 => fin g3 e (fun c o c1 _ c3 _ x => s3.extBut _ _ c1 (s2 _ _ c3 (s1.extBut _ _ c1 x))) ⟨oe, s3.extBut _ _ hez hoe, hce⟩
 | some x =>
  have hy : ys[k]? = none := by
   rcases hend with h | h
   ·rw [hx] at h; cases h
   ·exact h
  refine wpAny_bind (i4i (h1.at fun o e => s1.extBut _ _ D.i1z e) (hl1.at fun o e => s1.extBut _ _ D.l1z e) hx fun g2 h12 s2 => wpAny_pure ?_)
  have l2n : IsPair g2 TO a b := s2.extBut _ _ D.TOi1 (s1.extBut _ _ D.TOz hTO)
  refine wpAny_bind (wpAny_seqItems l2n rfl ?_)
  refine wpAny_bind (wpAny_updateSeq_pair l2n fun g3 hTO3 s3 => ?_)
  refine wpAny_bind (wpAny_letGo (wpAny_pure ?_))
  refine wpAny_bind (wpAny_bind (wpAny_onRaise ?_))
  show wpAny _ _ (Builtin.SmallTypes.nextOf (.ref i2) >>= _) _ _ _
  refine wpAny_bind (k5b hh (h2.at fun o e => s3.extBut _ _ D.TOi2.symm (s2.extBut _ _ D.i12.symm (s1.extBut _ _ D.i2z e))) (hl2.at fun o e => s3.extBut _ _ D.l2TO (s2.extBut _ _ D.l2i1 (s1.extBut _ _ D.l2z e))) hy fun g4 e s4 he => ?_)
  obtain ⟨oe, hoe, hce⟩ := he
  have hz4 : IsZip g4 z TI TO .ellipsis := s4 _ _ D.i2z.symm (s3.extBut _ _ D.TOz.symm (s2.extBut _ _ D.i1z.symm hz1))
  have hez : e ≠ z := fun x => by subst x; rw [hz4] at hoe; cases hoe; simp at hce
  exact wpAny_setField_rec hz4 (by simp) fun g5 _ s5 => fin g5 e (fun c o c1 c2 c3 c4 x => s5.extBut _ _ c1 (s4 _ _ c4 (s3.extBut _ _ c2 (s2.extBut _ _ c3 (s1.extBut _ _ c1 x))))) ⟨oe, s5.extBut _ _ hez hoe, hce⟩
noncomputable abbrev zB1 (b1 : Bool) (h : Heap) (l1 : Addr) : Heap := h.push (itO b1 l1)
noncomputable abbrev zB2 (b1 b2 : Bool) (h : Heap) (l1 l2 : Addr) : Heap := (zB1 b1 h l1).push (itO b2 l2)
noncomputable abbrev zB3 (b1 b2 : Bool) (h : Heap) (l1 l2 : Addr) : Heap := (zB2 b1 b2 h l1 l2).push { cls := .type "tuple", data := .seq #[.ref h.objs.size, .ref (zB1 b1 h l1).objs.size] }
noncomputable abbrev zB4 (b1 b2 : Bool) (h : Heap) (l1 l2 : Addr) : Heap := (zB3 b1 b2 h l1 l2).push { cls := .type "tuple", data := .seq #[.none, .none] }
noncomputable abbrev zB5 (b1 b2 : Bool) (h : Heap) (l1 l2 : Addr) : Heap := (zB4 b1 b2 h l1 l2).push { cls := .type "zip", data := .fields #[.none, .bool false, .bool false, .ref (zB2 b1 b2 h l1 l2).objs.size, .ref (zB3 b1 b2 h l1 l2).objs.size] }
theorem j1y (b1 b2 : Bool) (l1 l2 : Addr) (xs ys : Array Value) :
  Meets (Builtin.«zip.__new__» ⟨[.type "zip", .ref l1, .ref l2], []⟩) (fun _ R s => SqB b1 s.heap l1 xs ∧ SqB b2 s.heap l2 ys ∧
   R (.ok (.ret (.ref (zB4 b1 b2 s.heap l1 l2).objs.size))) { s with heap := zB5 b1 b2 s.heap l1 l2 }) :=
 .of_wp fun prog w A R s h => by
  obtain ⟨hp, g, d, tk, os⟩ := s; obtain ⟨hl1, hl2, h⟩ := h
  have hsub := sub_zip
  have hL1 : SqB b1 (Shared.heap ⟨hp, g, d, tk, os⟩) l1 xs := hl1
  have hL2 : SqB b2 (Shared.heap ⟨hp.push (itO b1 l1), g, d, tk, os⟩) l2 ys := hl2.at fun o e => Heap.get?_push_of_some _ e
  wp_walk using l2m hL1, l2m hL2
  exact ⟨_, rfl, h⟩
theorem k2e {b1 b2 : Bool} {l1 l2 : Addr} {xs ys : Array Value} {Q : Value -> Shared -> Prop} (hl1 : SqB b1 s.heap l1 xs) (hl2 : SqB b2 s.heap l2 ys)
  (h : ∀ h', IsZip h' (s.heap.objs.size + 4) (s.heap.objs.size + 2) (s.heap.objs.size + 3) .none -> IsPair h' (s.heap.objs.size + 2) (.ref s.heap.objs.size) (.ref (s.heap.objs.size + 1)) ->
   IsPair h' (s.heap.objs.size + 3) .none .none -> ItB b1 h' s.heap.objs.size l1 0 -> ItB b2 h' (s.heap.objs.size + 1) l2 0 ->
   (∀ c o, s.heap.get? c = some o -> h'.get? c = some o) -> Q (.ref (s.heap.objs.size + 4)) { s with heap := h' }) :
  wpAny (model prog w) A (call (.type "zip") [.ref l1, .ref l2]) Q E s := by
 refine callType_new F.called_zip (by decide) (F.typeCall_zip_2 _ _) (F.newCall_zip_2 _ _) (fun obj => F.args_object_init_3 obj _ _) F.entry_zip_new
  (j1y b1 b2 l1 l2 xs ys) ⟨hl1, hl2, ?_⟩
 have z1 : (zB1 b1 s.heap l1).objs.size = s.heap.objs.size + 1 := Heap.size_push ..
 have z2 : (zB2 b1 b2 s.heap l1 l2).objs.size = s.heap.objs.size + 2 := by rw [Heap.size_push, z1]
 have z3 : (zB3 b1 b2 s.heap l1 l2).objs.size = s.heap.objs.size + 3 := by rw [Heap.size_push, z2]
 have z4 : (zB4 b1 b2 s.heap l1 l2).objs.size = s.heap.objs.size + 4 := by rw [Heap.size_push, z3]
 have g5 : (zB5 b1 b2 s.heap l1 l2).get? (zB4 b1 b2 s.heap l1 l2).objs.size = some _ := Heap.get?_push_size _ rfl
 have g4 : (zB5 b1 b2 s.heap l1 l2).get? (zB3 b1 b2 s.heap l1 l2).objs.size = some _ := Heap.get?_push_of_some _ (Heap.get?_push_size _ rfl)
 have g3 : (zB5 b1 b2 s.heap l1 l2).get? (zB2 b1 b2 s.heap l1 l2).objs.size = some _ := Heap.get?_push_of_some _ (Heap.get?_push_of_some _ (Heap.get?_push_size _ rfl))
 have g2 : (zB5 b1 b2 s.heap l1 l2).get? (zB1 b1 s.heap l1).objs.size = some (itO b2 l2) := Heap.get?_push_of_some _ (Heap.get?_push_of_some _ (Heap.get?_push_of_some _ (Heap.get?_push_size _ rfl)))
 have g1 : (zB5 b1 b2 s.heap l1 l2).get? s.heap.objs.size = some (itO b1 l1) := Heap.get?_push_of_some _ (Heap.get?_push_of_some _ (Heap.get?_push_of_some _ (Heap.get?_push_of_some _ (Heap.get?_push_size _ rfl))))
 show _ /\ _
 rw [z2, z3, z4] at g5
 rw [z1, z2] at g3
 rw [z3] at g4
 rw [z1] at g2
 rw [z4]
 exact ⟨⟨_, g5, rfl⟩, h _ g5 g3 g4 ⟨_, g1, rfl, rfl⟩ ⟨_, g2, rfl, rfl⟩ fun c o x =>
  Heap.get?_push_of_some _ (Heap.get?_push_of_some _ (Heap.get?_push_of_some _ (Heap.get?_push_of_some _ (Heap.get?_push_of_some _ x))))⟩
end
noncomputable def SqK (b : Bool) (K : PySem.W.Frag) (H : Hp) (l : Addr) (xs : List V) : Prop := match b with
 | true => SqL K H l xs
 | false => SqT K H l xs
theorem Inv.k9s {X : Cx} {pins : List (Addr × Obj)} {σ : St} {H : Hp} {s : Shared} {b : Bool} {l : Addr} {xs : List V} (I : Inv X pins σ H s) (h : SqK b X.K H l xs) : ∃ its : List Value, Vals xs its /\ SqB b s.heap l its.toArray /\ xs.length <= sizeLine := by
 cases b with
 | true =>
  obtain ⟨its, r, p, z⟩ := I.list h
  exact ⟨its, r, p.isList, z⟩
 | false =>
  obtain ⟨its, r, p, z⟩ := I.tuple h
  exact ⟨its, r, p, z⟩
theorem Inv.j0o {X : Cx} {pins : List (Addr × Obj)} {σ : St} {H : Hp} {s : Shared} {b : Bool} {l : Addr} {xs ys : List V} (I : Inv X pins σ H s) (h : SqK b X.K H l xs) (h' : SqK b X.K H l ys) : xs = ys := by
 cases b with
 | true => exact I.j0f h h'
 | false => exact I.h4p h h'
noncomputable def Itz (K : PySem.W.Frag) (b1 b2 : Bool) (l1 l2 : Addr) : It :=
 ⟨fun i H => ∃ xs ys x y, SqK b1 K H l1 xs /\ SqK b2 K H l2 ys /\ xs[i]? = some x /\ ys[i]? = some y,
  fun i H v H' => ∃ p x y, v = .ref p ∧ H p = none ∧ H' = upd H p (.tup [x, y]) ∧ (∀ xs, SqK b1 K H l1 xs → xs[i]? = some x) ∧ ∀ ys, SqK b2 K H l2 ys → ys[i]? = some y,
  fun i H => ∃ xs ys, SqK b1 K H l1 xs ∧ SqK b2 K H l2 ys ∧ (xs.length ≤ i ∨ ys.length ≤ i)⟩
theorem k2f {P : Program} {w : World} {K : PySem.W.Frag} {elts : List Expr} {kk : Nat} {tpos : Pos} {b1 b2 : Bool} {z TI TO i1 i2 l1 l2 : Addr} (D : ZipApart z TI TO i1 i2 l1 l2) :
  Turn P w K (.Tuple elts kk tpos) (Itz K b1 b2 l1 l2) [z, TI, TO, i1, i2] z (fun i h => IsZip h z TI TO .none /\ IsPair h TI (.ref i1) (.ref i2) /\ (∃ a b, IsPair h TO a b) /\ ItB b1 h i1 l1 i /\ ItB b2 h i2 l2 i) where
 mem := by simp
 obj := fun i h st b hb => by
  obtain ⟨hz, hTI, ⟨a, c, hTO⟩, ⟨o1, e1, _, d1⟩, ⟨o2, e2, _, d2⟩⟩ := st
  simp only [List.mem_cons, List.not_mem_nil, or_false] at hb
  rcases hb with rfl | rfl | rfl | rfl | rfl
  ·exact ⟨_, hz, fun v z => by cases z⟩
  ·exact ⟨_, hTI, fun v z => by cases z⟩
  ·exact ⟨_, hTO, fun v z => by cases z⟩
  ·exact ⟨_, e1, fun v z => by rw [d1] at z; cases z⟩
  ·exact ⟨_, e2, fun v z => by rw [d2] at z; cases z⟩
 keep := fun i h h' st k => by
  obtain ⟨hz, hTI, ⟨a, c, hTO⟩, h1, h2⟩ := st
  exact ⟨k z (by simp) _ hz, k TI (by simp) _ hTI, ⟨a, c, k TO (by simp) _ hTO⟩, h1.at fun o e => k i1 (by simp) o e, h2.at fun o e => k i2 (by simp) o e⟩
 item := by
  intro X hP hw hK hc i pins s σ H E I hf st hg
  subst hP hw hK
  obtain ⟨xs, ys, x, y, hq1, hq2, hx, hy⟩ := hg
  obtain ⟨us, r1, p1, _⟩ := I.k9s hq1
  obtain ⟨ws, r2, p2, _⟩ := I.k9s hq2
  obtain ⟨u, hu, ru⟩ := r1.get hx
  obtain ⟨v, hv, rv⟩ := r2.get hy
  obtain ⟨hz, hTI, ⟨a, b, hTO⟩, h1, h2⟩ := st
  refine j8b D hz hTI hTO h1 h2 p1 p2 (x := u) (y := v) (by simpa using hu) (by simpa using hv) fun h' z' TO' h1' h2' pT kk' => ?_
  refine ⟨.ref s.heap.objs.size, rfl, wpAny_letOwnedTupleGo_zip (s := { s with heap := h' }) z' fun h'' z'' sb => ?_⟩
  replace sb : Heap.SameBut z h' h'' := sb
  have k2 : ∀ c o, c ∉ [z, TI, TO, i1, i2] -> s.heap.get? c = some o -> h''.get? c = some o := fun c o hc e => by
   simp only [List.mem_cons, List.not_mem_nil, or_false, not_or] at hc
   exact sb.extBut _ _ hc.1 (kk' c o hc.1 hc.2.2.1 hc.2.2.2.1 hc.2.2.2.2 e)
  have I1 : Inv X pins σ H { s with heap := h'' } := I.j8a (t' := s.toks) k2 hf
  have zlt : z < s.heap.objs.size := Heap.lt_size hz
  have pT2 : IsPair h'' s.heap.objs.size u v := sb.extBut _ _ (Nat.ne_of_gt zlt) pT
  have fo := I.k1b (b := s.heap.objs.size) (Nat.le_refl _) (I.hok.fresh (Nat.le_refl _))
  have nT : H s.heap.objs.size = none := I.hok.fresh (Nat.le_refl _)
  have I2 : Inv X pins σ (upd H s.heap.objs.size (.tup [x, y])) { s with heap := h'' } := by
   refine I1.track ?_ fo.2.1 fo.2.2.2.2.1 fo.2.2.2.2.2 nT ⟨two_line, [u, v], .cons ru (.cons rv .nil), ⟨_, pT2, rfl, 0, rfl⟩⟩
   cases q : X.s₀.heap.get? s.heap.objs.size with
   | none => rfl
   | some o => exact absurd (Nat.lt_of_lt_of_le (Heap.lt_size q) I.sz) (Nat.lt_irrefl _)
  have ne : ∀ b ∈ [z, TI, TO, i1, i2], b ≠ s.heap.objs.size := fun b hb e => by
   have lt : b < s.heap.objs.size := by
    simp only [List.mem_cons, List.not_mem_nil, or_false] at hb
    rcases hb with rfl | rfl | rfl | rfl | rfl
    ·exact zlt
    ·exact Heap.lt_size hTI
    ·exact Heap.lt_size hTO
    ·obtain ⟨_, e, _⟩ := h1; exact Heap.lt_size e
    ·obtain ⟨_, e, _⟩ := h2; exact Heap.lt_size e
   exact Nat.ne_of_lt lt e
  refine ⟨.ref s.heap.objs.size, _, I2, rfl, ⟨_, x, y, rfl, nT, rfl, fun xs' h => by rw [I.j0o h hq1]; exact hx, fun ys' h => by rw [I.j0o h hq2]; exact hy⟩,
   ⟨z'', sb.extBut _ _ D.TIz (kk' _ _ D.TIz D.TITO D.TIi1 D.TIi2 hTI), ⟨_, _, sb.extBut _ _ D.TOz TO'⟩, h1'.at fun o e => sb.extBut _ _ D.i1z e, h2'.at fun o e => sb.extBut _ _ D.i2z e⟩, fun b hb => by rw [a3u (ne b hb)]; exact (hf b hb).1⟩
 done := by
  intro X hP hw hK hc i pins s σ H E I hf st hg
  subst hP hw hK
  obtain ⟨xs, ys, hq1, hq2, hle⟩ := hg
  obtain ⟨us, r1, p1, _⟩ := I.k9s hq1
  obtain ⟨ws, r2, p2, _⟩ := I.k9s hq2
  obtain ⟨hz, hTI, ⟨a, b, hTO⟩, h1, h2⟩ := st
  have l1' := r1.length
  have l2' := r2.length
  refine k2d (I.ok.hd hc) D hz hTI hTO h1 h2 p1 p2 (by rcases hle with h | h <;> simp <;> omega) fun h' kk' => ⟨rfl, I.j8a (t' := s.toks) (fun c o hc e => ?_) hf⟩
  simp only [List.mem_cons, List.not_mem_nil, or_false, not_or] at hc
  exact kk' c o hc.1 hc.2.2.1 hc.2.2.2.1 hc.2.2.2.2 e
 self := fun _ _ _ _ _ st h => wpAny_pyIter_zip st.1 h
noncomputable def l7o (K : PySem.W.Frag) (ta : TA) : TI := fun σ H R => ta σ H fun vs H1 => match vs with
 | [.ref l1, .ref l2] => (match H1 l1, H1 l2 with
  | some (.lst _), some (.lst _) => R (Itz K true true l1 l2) H1
  | some (.lst _), some (.tup _) => R (Itz K true false l1 l2) H1
  | some (.tup _), some (.lst _) => R (Itz K false true l1 l2) H1
  | some (.tup _), some (.tup _) => R (Itz K false false l1 l2) H1
  | _, _ => False)
 | _ => False
theorem j8c {X : Cx} {elts : List Expr} {kk : Nat} {tpos : Pos} {a b : Expr} {ta : TA} {p pos : Pos} (hg : Gl X "zip") (hm : X.mg "zip" = none) (ha : PA X [a, b] ta) (hs : starEach [a, b] X.env = [(false, eval a X.env), (false, eval b X.env)] := by rfl) (hs2 : starEach [b] X.env = [(false, eval b X.env)] := by rfl) :
  PI X (.Tuple elts kk tpos) (.Call (.Name "zip" p) [a, b] [] pos) (l7o X.K ta) := by
 intro pins s σ H R I h
 refine Call_ (h4o I hg hm boot_zip (PyProof.Rows.callWith_type1 (thn (ha pos pins s σ H _ I h) fun us s1 ⟨vs, H1, I1, r1, q1⟩ => ?_) (by rw [hs, hs2]) (by rw [hs2]; rfl)))
 match vs, q1 with
 | [.ref l1, .ref l2], q1 =>
  obtain ⟨u, u', e0, e, e'⟩ := r1.two
  cases e
  cases e'
  subst e0
  have q : ∃ (b1 b2 : Bool) (xs ys : List V), SqK b1 X.K H1 l1 xs /\ SqK b2 X.K H1 l2 ys /\ R (Itz X.K b1 b2 l1 l2) H1 := by
   have q1' : (match H1 l1, H1 l2 with
    | some (.lst _), some (.lst _) => R (Itz X.K true true l1 l2) H1
    | some (.lst _), some (.tup _) => R (Itz X.K true false l1 l2) H1
    | some (.tup _), some (.lst _) => R (Itz X.K false true l1 l2) H1
    | some (.tup _), some (.tup _) => R (Itz X.K false false l1 l2) H1
    | _, _ => False) := q1
   split at q1'
   ·rename_i e1 e2
    exact ⟨true, true, _, _, SqL.of e1, SqL.of e2, q1'⟩
   ·rename_i e1 e2
    exact ⟨true, false, _, _, SqL.of e1, SqT.of e2, q1'⟩
   ·rename_i e1 e2
    exact ⟨false, true, _, _, SqT.of e1, SqL.of e2, q1'⟩
   ·rename_i e1 e2
    exact ⟨false, false, _, _, SqT.of e1, SqT.of e2, q1'⟩
   ·exact q1'.elim
  obtain ⟨b1, b2, xs, ys, hq1, hq2, q⟩ := q
  obtain ⟨us, rr1, p1, _⟩ := I1.k9s hq1
  obtain ⟨ws, rr2, p2, _⟩ := I1.k9s hq2
  have L1 : l1 < s1.heap.objs.size := by obtain ⟨_, e, _⟩ := p1; exact Heap.lt_size e
  have L2 : l2 < s1.heap.objs.size := by obtain ⟨_, e, _⟩ := p2; exact Heap.lt_size e
  refine k2e p1 p2 fun h' hz hTI hTO h1 h2 hk => ?_
  refine wpAny_pyIter_zip (s := { s1 with heap := h' }) hz ?_
  have D : ZipApart (s1.heap.objs.size + 4) (s1.heap.objs.size + 2) (s1.heap.objs.size + 3) s1.heap.objs.size (s1.heap.objs.size + 1) l1 l2 := by
   generalize s1.heap.objs.size = n at L1 L2
   replace L1 : Nat.lt l1 n := L1
   replace L2 : Nat.lt l2 n := L2
   constructor <;> (intro e; have : (n : Nat) = n := rfl; simp only [Nat.lt_eq] at L1 L2; first | (have e' : (_ : Nat) = _ := e; omega))
  refine ⟨_, [s1.heap.objs.size + 4, s1.heap.objs.size + 2, s1.heap.objs.size + 3, s1.heap.objs.size, s1.heap.objs.size + 1], _, _, H1, rfl, I1.kept (t' := s1.toks) hk, k2f D, ⟨hz, hTI, ⟨_, _, hTO⟩, h1, h2⟩, fun b hb => ?_, q⟩
  have hb' : s1.heap.objs.size <= b := by
   simp only [List.mem_cons, List.not_mem_nil, or_false] at hb
   rcases hb with rfl | rfl | rfl | rfl | rfl
   ·exact Nat.le_add_right _ _
   ·exact Nat.le_add_right _ _
   ·exact Nat.le_add_right _ _
   ·exact Nat.le_refl _
   ·exact Nat.le_add_right _ _
  exact I1.k1b hb' (I1.hok.fresh hb')
theorem j0p {K : PySem.W.Frag} {b1 b2 : Bool} {l1 l2 : Addr} {xs ys : List V} {g : TG} {tb : TS} {D : Ends} {σ : St} {H : Hp} (Pv : Nat -> St -> Hp -> Prop) (h0 : Pv 0 σ H) (hl : ∀ i σ H, Pv i σ H -> SqK b1 K H l1 xs /\ SqK b2 K H l2 ys)
  (hs : ∀ i x y σ H p H', xs[i]? = some x -> ys[i]? = some y -> Pv i σ H -> H p = none -> Same H H' -> H' p = some (.tup [x, y]) -> g (.ref p) σ H' fun σ2 H2 => tb { D with nx := Pv (i + 1), ct := Pv (i + 1), bk := D.nx } σ2 H2)
  (hd : ∀ σ H, Pv (min xs.length ys.length) σ H -> D.nx σ H) : l1o (Itz K b1 b2 l1 l2) g tb D σ H := by
 refine ⟨fun i m σ H => m = min xs.length ys.length - i /\ i <= min xs.length ys.length /\ Pv i σ H, ⟨min xs.length ys.length, by simp, Nat.zero_le _, h0⟩, ?_⟩
 rintro i m σ H ⟨rfl, hi, p⟩
 obtain ⟨e1, e2⟩ := hl i σ H p
 by_cases hlt : i < min xs.length ys.length
 ·have hx : xs[i]? = some (xs[i]'(by omega)) := List.getElem?_eq_getElem _
  have hy : ys[i]? = some (ys[i]'(by omega)) := List.getElem?_eq_getElem _
  refine .inr ⟨⟨xs, ys, _, _, e1, e2, hx, hy⟩, Pv (i + 1), fun σ' H' p' => ⟨min xs.length ys.length - (i + 1), by omega, rfl, hlt, p'⟩, fun v H' y => ?_⟩
  obtain ⟨q, x, y, rfl, nq, rfl, k1, k2⟩ := y
  exact hs i x y σ H q _ (k1 _ e1) (k2 _ e2) p nq (Same.upd nq) a3i
 ·have e : i = min xs.length ys.length := by omega
  subst e
  exact .inl ⟨⟨xs, ys, e1, e2, by omega⟩, hd σ H p⟩
end L2
namespace L2
open PySem PySem.Spec PyProof.Rows
noncomputable def b2l (X : Cx) (scope : Scope) (cl : List (Str × Addr)) (C : Addr) (s₃ : Shared) (H₃ : Hp) (fp : List Addr) (x y : Str) : Cx where
 prog := X.prog
 w := X.w
 K := X.K
 mg := X.mg
 base := X.base
 A := X.A
 N := x :: y :: X.N
 s₀ := s₃
 H₀ := H₃
 env := compEnvC scope cl C X.env
 outer := X.stack
 stack := X.stack
 ex := fp
 fn := fun _ => false
 calm := X.calm
 pn := []
 xe := fun _ _ => False
structure d2y (X : Cx) (scope : Scope) (x y : Str) : Prop where
 kind : scope.kind = .function
 f6j : ∀ y ∈ scope.names, y.2 ≠ .cell
 loc : ∀ y ∈ scope.names, y.2 = .local -> scope.names.lookup y.1 = some .local
 own : scope.names.lookup x = some .local
 m0e : scope.names.lookup y = some .local
 free : ∀ y ∈ scope.names, y.2 = .free -> X.env.kindOf y.1 = some .cell \/ X.env.kindOf y.1 = some .free
 nd : (x :: y :: X.N).Nodup
 vis : ∀ y ∈ X.N, scope.names.lookup y ≠ some .local
noncomputable def j0q (J : It) (te : TE) (D : Addr) (σ : St) (H : Hp) (Q : VK) (_ : Tag Q) : Prop := ∃ (n : Nat) (W : Nat -> List V -> Hp -> Prop), W 0 [] H /\ ∀ i ys H, i <= n -> W i ys H -> H D = some (.lst ys) /\
 ((J.stop i H /\ Q (.ref D) H) \/ (i < n /\ J.go i H /\ ys.length < sizeLine /\ ∀ x H', J.yld i H x H' -> ∃ p u v, x = .ref p /\ H' p = some (.tup [u, v]) /\ te (some u :: some v :: σ) H' fun y H2 => H2 D = some (.lst ys) /\
  ∀ H3, a2i D H2 H3 -> H3 D = some (.lst (ys ++ [y])) -> W (i + 1) (ys ++ [y]) H3))
noncomputable def l2o (wi : TI) (te : TE) : TE := fun σ H Q => wi σ H fun J H1 => ∀ D H2, H1 D = none -> Same H1 H2 -> H2 D = some (.lst []) -> j0q J te D σ H2 Q ⟨⟩
section
variable {X : Cx} {scope : Scope} {x y : Str} {cl : List (Str × Addr)} {pins : List (Addr × Obj)} {σ : St} {H : Hp} {s s₄ : Shared} {fp : List Addr}
theorem Inv.l7p (S : d2y X scope x y) (I : Inv X pins σ H s) (hcl : ∀ y c, cl.lookup y = some c -> (y, NameKind.free) ∈ scope.names /\ X.env.cells.lookup y = some c) (hcl2 : ∀ y, (y, NameKind.free) ∈ scope.names -> cl.lookup y = X.env.cells.lookup y)
  (hfp : ∀ b ∈ fp, g0a X pins H b) (hlt : ∀ b ∈ fp, b < s.heap.objs.size) {m : Str -> Option Value} (hns : s₄.heap.Ns s.heap.objs.size m) (hk : ∀ b o, s.heap.get? b = some o -> s₄.heap.get? b = some o) (hos : s₄.os = s.os) (hg : s₄.gens = s.gens) :
  Inv (b2l X scope cl s.heap.objs.size s H fp x y) [] (none :: none :: σ) H s₄ := by
 refine ⟨⟨I.ok.mod, ?_, I.ok.glob, I.ok.blt, Nat.le_refl _, fun y z c h1 h2 => I.ok.inj y z c (hcl y c h1).2 (hcl z c h2).2, fun y hy => ?_, (fun y c h => nomatch h), I.ok.hd, I.ok.frames, .inl rfl, fun b hb => ⟨Nat.ne_of_lt (hlt b hb), fun y c e => (hfp b hb).2.2.2.2.1 y c (hcl y c e).2⟩,
  fun b o e => I.bs b o e, Nat.le_trans I.ok.bsz I.sz, fun b o e hb => ?_, fun b hb hf => ?_, I.stack, I.i3t⟩,
  hos, by rw [hg]; exact I.bare, Un.kept hk, ⟨m, hns, fun i y v h1 h2 h3 => ?_⟩, fun y c e => ?_, I.hok.fresh (Nat.le_refl _), fun y c e => I.f0n y c (hcl y c e).2, fun p hp => absurd (show p ∈ ([] : List (Addr × Obj)) from hp) (by simp), I.hok.kept hk, by show (none :: none :: σ).length = (x :: y :: X.N).length; rw [List.length_cons, List.length_cons, List.length_cons, List.length_cons, I.len]⟩
 ·exact S.kind
 ·rcases b5j (env := X.env) (sc := scope) (x := y) hy with z | z
  ·obtain ⟨c, hc⟩ := I.ok.has y (S.free _ z rfl)
   exact ⟨c, (hcl2 y z).trans hc⟩
  ·exact absurd rfl (S.f6j _ z)
 ·rcases (hfp b hb).2.2.2.1 with z | z
  ·exact I.ok.k5s b o e z
  ·exact absurd (Nat.lt_of_lt_of_le (Heap.lt_size (I.ok.bs b o e).1) z) (Nat.lt_irrefl _)
 ·rcases List.mem_cons.mp (I.f9w b hf) with z | z
  ·exact (hfp b hb).2.1 z
  ·exact (hfp b hb).2.2.1 z
 ·match i, h1, h2 with
  | 0, h1, h2 => cases h2
  | 1, h1, h2 => cases h2
  | i + 2, h1, h2 =>
   have h1' : X.N[i]? = some y := by simpa [b2l] using h1
   have h2' : σ[i]? = some (some v) := by simpa using h2
   have hyN : y ∈ X.N := List.mem_of_getElem? h1'
   have hc : (relabel scope X.env).names.lookup y = some .cell \/ (relabel scope X.env).names.lookup y = some .free := by
    rcases h3 with z | z | z
    ·exfalso
     rcases c2i (env := X.env) scope.names _ z with q | ⟨q, _⟩
     ·exact S.vis y hyN q
     ·cases q
    ·exact .inl z
    ·exact .inr z
   have hfr : (y, NameKind.free) ∈ scope.names := by
    rcases b5j hc with z | z
    ·exact z
    ·exact absurd rfl (S.f6j _ z)
   obtain ⟨mX, hnX, hl⟩ := I.loc
   have hk2 := S.free _ hfr rfl
   have l7f : Vis X.env.scope y := by
    rcases hk2 with z | z
    ·exact .inr (.inl z)
    ·exact .inr (.inr z)
   obtain ⟨u, ru, lk⟩ := hl i y v h1' h2' l7f
   refine ⟨u, ru, .inr ⟨hc, ?_⟩⟩
   rcases lk with ⟨z, _⟩ | ⟨_, c, ec, o, ho, hd⟩
   ·rcases hk2 with q | q
    ·rw [q] at z; cases z
    ·rw [q] at z; cases z
   ·exact ⟨c, (hcl2 y hfr).trans ec, o, hk c o ho, hd⟩
 ·obtain ⟨v, o, ho, hd⟩ := I.cell y c (hcl y c e).2
  exact ⟨v, o, hk c o ho, hd⟩
theorem Inv.k6t {σ' : St} {H' : Hp} {s' : Shared} {h' : Heap} (I : Inv X pins σ H s) (hfp : ∀ b ∈ fp, g0a X pins H b) (J : Inv (b2l X scope cl s.heap.objs.size s H fp x y) [] σ' H' s') (hs : Heap.SameBut s.heap.objs.size s'.heap h') :
  Inv X pins σ H' { s' with heap := h' } := by
 have ne : ∀ {b : Addr} {o : Obj}, s.heap.get? b = some o -> b ≠ s.heap.objs.size := fun e => Nat.ne_of_lt (Heap.lt_size e)
 have u := J.base
 have u' : Un (frs X.stack) fp H H' s.heap h' := ⟨fun b o e n hb hx => hs.extBut b o (ne e) (u.keep b o e n hb hx), fun b o e n hb hx => (u.slot b o e n hb hx).elim fun sl q => ⟨sl, hs.extBut b _ (ne e) q⟩, u.free,
  fun b o e hx => (u.there b o e hx).elim fun o' q => ⟨o', hs.extBut b o' (ne e) q⟩, u.tups, u.i3o, u.i3s⟩
 have nC : ∀ {b : Addr} {o : HO}, H' b = some o -> b ≠ s.heap.objs.size := fun {b o} e z => by
  have f : H' s.heap.objs.size = none := J.free
  rw [z, f] at e; cases e
 have ok : HOk X.prog X.w H' h' := fun b o e => (J.hok b o e).stay (fun c v hc q => hs.extBut c v (by
  rcases hc with z | z
  ·rw [z]; exact nC e
  ·exact nC z) q) (fun _ q => q) fun _ _ q => q
 exact I.call' (s' := { s' with heap := h' }) (ch := fp) J.os u' ok J.bare fun b hb => ⟨(hfp b hb).2.2.2.1, (hfp b hb).2.1, (hfp b hb).2.2.2.2.1, (hfp b hb).2.2.2.2.2⟩
end
section
variable {X : Cx} {scope : Scope} {x y : Str} {pins : List (Addr × Obj)} {σ : St} {elt iter : Expr} {px py tpos pos : Pos} {kk : Nat} {wi : TI} {te : TE}
theorem i4j {s₂ : Shared} {H1 : Hp} {it : Addr} {fp : List Addr} {tn : Nat -> Heap -> Prop} {J : It} {Q : VK} {RR : Value -> Addr -> Result -> Shared -> Prop} {E : Value -> Shared -> Prop} {cl : List (Str × Addr)}
  (S : d2y X scope x y) (hc : X.calm = true) (he : ∀ cl C s₃ H₃ fp, PE (b2l X scope cl C s₃ H₃ fp x y) elt te)
  (hcl : ∀ y c, cl.lookup y = some c -> (y, NameKind.free) ∈ scope.names /\ X.env.cells.lookup y = some c) (hcl2 : ∀ y, (y, NameKind.free) ∈ scope.names -> cl.lookup y = X.env.cells.lookup y)
  (I2 : Inv X pins σ H1 s₂) (T : Turn X.prog X.w X.K (.Tuple [.Name x px, .Name y py] kk tpos) J fp it tn) (st2 : tn 0 s₂.heap) (f2 : ∀ b ∈ fp, g0a X pins H1 b) (h : ∀ D H2, H1 D = none -> Same H1 H2 -> H2 D = some (.lst []) -> j0q J te D σ H2 Q ⟨⟩)
  (hRR : ∀ (D C : Addr) (s' : Shared) (H' : Hp), (∃ m, s'.heap.Ns C m) -> (∀ h' , Heap.SameBut C s'.heap h' -> Inv X pins σ H' { s' with heap := h' }) -> g0a X pins H' C -> Q (.ref D) H' -> RR (.ref D) C (.ok .next) s') :
  wpAny (model X.prog X.w) X.A (newList []) (fun acc s₃ => wpAny (model X.prog X.w) X.A (newFunctionEnv scope X.env.globals cl [] X.env.qual none .none (some X.env)) (fun cenv s₄ =>
   codeAny (model X.prog X.w) X.A (.compStart (.ListComp elt [⟨.Tuple [.Name x px, .Name y py] kk tpos, iter, [], 0⟩] scope pos) 0 (.ref it) acc { cenv with scope := relabel scope X.env }) (RR acc cenv.locals) s₄) E s₃) E s₂ := by
 have hfr : H1 s₂.heap.objs.size = none := I2.hok.fresh (Nat.le_refl _)
 have hCW := h s₂.heap.objs.size _ hfr (Same.upd hfr) a3i
 refine wpAny_newObj_type ?_
 have I3 : Inv X pins σ (upd H1 s₂.heap.objs.size (.lst [])) { s₂ with heap := s₂.heap.push { cls := .type "list", data := .seq ([] : List Value).toArray }, toks := s₂.toks } :=
  I2.laid (t' := s₂.toks) (fun b u e => Heap.get?_push_of_some _ e) (Nat.le_refl _) ⟨Nat.zero_le _, [], 0, .nil, Heap.get?_push_size _ rfl⟩
 have nD : ∀ b ∈ fp, b ≠ s₂.heap.objs.size := fun b hb => by
  obtain ⟨o, e, _⟩ := T.obj 0 _ st2 b hb
  exact Nat.ne_of_lt (Heap.lt_size e)
 have f3 : ∀ b ∈ fp, g0a X pins (upd H1 s₂.heap.objs.size (.lst [])) b := fun b hb => ⟨by rw [a3u (nD b hb)]; exact (f2 b hb).1, (f2 b hb).2⟩
 generalize hH3 : upd H1 s₂.heap.objs.size (.lst []) = H3 at *
 have st3 : tn 0 (s₂.heap.push { cls := .type "list", data := .seq ([] : List Value).toArray }) := T.keep _ _ _ st2 fun b _ o e => Heap.get?_push_of_some _ e
 have j7u : ∀ b ∈ fp, b < (s₂.heap.push { cls := .type "list", data := .seq ([] : List Value).toArray }).objs.size := fun b hb => by
  obtain ⟨o, e, _⟩ := T.obj 0 _ st3 b hb
  exact Heap.lt_size e
 show wpAny (model X.prog X.w) X.A (newFunctionEnv scope X.env.globals cl [] X.env.qual none .none (some X.env)) _ E { s₂ with heap := s₂.heap.push { cls := .type "list", data := .seq ([] : List Value).toArray }, toks := s₂.toks }
 generalize hs3 : ({ s₂ with heap := s₂.heap.push { cls := .type "list", data := .seq ([] : List Value).toArray }, toks := s₂.toks } : Shared) = s₃ at *
 have eh : s₃.heap = s₂.heap.push { cls := .type "list", data := .seq ([] : List Value).toArray } := by rw [← hs3]
 rw [<- eh] at st3 j7u
 generalize s₂.heap.objs.size = D at *
 refine wpAny_newFunctionEnv S.f6j (by intro y hy; simp at hy) (fun h₁ hns₁ hsb₁ => ?_) S.kind
 have hk1 : ∀ b o, s₃.heap.get? b = some o -> h₁.get? b = some o := fun b o e => hsb₁.extBut b o (Nat.ne_of_lt (Heap.lt_size e)) (Heap.get?_push_of_some _ e)
 have J0 : Inv (b2l X scope cl s₃.heap.objs.size s₃ H3 fp x y) [] (none :: none :: σ) H3 { s₃ with heap := h₁, toks := s₃.toks + ([] : List (Str × Value)).length } := I3.l7p S hcl hcl2 f3 j7u hns₁ hk1 rfl rfl
 obtain ⟨n0, W, w0, turn⟩ := hCW
 have loop : codeAny (model X.prog X.w) X.A (.compLoop (.ListComp elt [⟨.Tuple [.Name x px, .Name y py] kk tpos, iter, [], 0⟩] scope pos) 0 (.ref it) (.ref D) (compEnvC scope cl s₃.heap.objs.size X.env)) (RR (.ref D) s₃.heap.objs.size) { s₃ with heap := h₁, toks := s₃.toks + ([] : List (Str × Value)).length } := by
  refine codeAny_loop rfl (fun n s' => ∃ i ys o o' H', Inv (b2l X scope cl s₃.heap.objs.size s₃ H3 fp x y) [] (o :: o' :: σ) H' s' /\ tn i s'.heap /\ (∀ b ∈ fp, H' b = none) /\ W i ys H' /\ i <= n0 /\ n = n0 - i) (fun n s5 hI => ?_) n0
   ⟨0, [], none, none, H3, J0, T.keep _ _ _ st3 (fun b _ o e => hk1 b o e), fun b hb => (f3 b hb).1, w0, Nat.zero_le _, rfl⟩
  obtain ⟨i, ys, o5, o5', H5, I5, st5, fr5, w5, hin, hnn⟩ := hI
  have stat : ∀ {H' : Hp}, (∀ b ∈ fp, H' b = none) -> ∀ b ∈ fp, g0a (b2l X scope cl s₃.heap.objs.size s₃ H3 fp x y) [] H' b := fun hn b hb =>
   ⟨hn b hb, Nat.ne_of_lt (j7u b hb), fun z => (List.mem_cons.mp (I3.f9w b z)).elim (fun q => (f3 b hb).2.1 q) fun q => (f3 b hb).2.2.1 q, .inl hb, fun y c e => (f3 b hb).2.2.2.2.1 y c (hcl y c e).2, fun p hp => absurd (show p ∈ ([] : List (Addr × Obj)) from hp) (by simp)⟩
  show wpAny _ X.A ((compTurn (.ListComp elt [⟨.Tuple [.Name x px, .Name y py] kk tpos, iter, [], 0⟩] scope pos) 0 (.ref it) (.ref D) (compEnvC scope cl s₃.heap.objs.size X.env)).onRaise (fun x => do noteFrame x (compEnvC scope cl s₃.heap.objs.size X.env); theTreesLotGoes x)) _ _ s5
  refine wpAny_noted ?_
  rw [compTurn_list1]
  refine wpAny_bind (wpAny_standAt (wpAny_bind ?_))
  obtain ⟨hD5, alt⟩ := turn i ys H5 hin w5
  rcases alt with ⟨stop, q⟩ | ⟨hlt, go, hsz, step⟩
  ·refine wpAny_mono (T.done (b2l X scope cl s₃.heap.objs.size s₃ H3 fp x y) rfl rfl rfl hc i [] s5 _ H5 _ I5 (stat fr5) st5 stop) (fun r s6 ⟨hr, I6⟩ => ?_) fun _ _ z => z
   subst hr
   refine wpAny_pure ?_
   obtain ⟨m6, hn6, _⟩ := I6.loc
   exact hRR D s₃.heap.objs.size s6 H5 ⟨m6, hn6⟩ (fun h' hs' => I3.k6t f3 I6 hs') (I3.k1b (Nat.le_refl _) I6.free) q
  ·refine wpAny_mono (T.item (b2l X scope cl s₃.heap.objs.size s₃ H3 fp x y) rfl rfl rfl hc i [] s5 _ H5 _ I5 (stat fr5) st5 go) (fun r s6 ⟨u, hr, h6⟩ => ?_) fun _ _ z => z
   subst hr
   refine wpAny_bind (wpAny_mono h6 (fun _ s7 ⟨v, H7, I7, r7, y7, st7, fr7⟩ => ?_) fun _ _ z => z)
   have I7' := I7.pinned (stat fr7) (T.obj _ _ st7)
   obtain ⟨p7, u1, u2, e7, t7, step7⟩ := step v H7 y7
   subst e7
   have G1 := a3v (X := b2l X scope cl s₃.heap.objs.size s₃ H3 fp x y) (pos := px) (i := 0) (x := x) S.nd rfl (.inl (lookup_relabel_local S.own)) (.inr (lookup_relabel_local S.own))
   have G2 := a3v (X := b2l X scope cl s₃.heap.objs.size s₃ H3 fp x y) (pos := py) (i := 1) (x := y) S.nd rfl (.inl (lookup_relabel_local S.m0e)) (.inr (lookup_relabel_local S.m0e))
   have G := k4c (X := b2l X scope cl s₃.heap.objs.size s₃ H3 fp x y) (pos := tpos) (k := kk) (n := 2) hc (g9c G1 (g9c G2 j6o)) rfl rfl
   refine wpAny_bind (wpAny_mono (G _ s7 _ H7 (.ref p7) u (fun σ' H' => σ' = some u1 :: some u2 :: σ /\ H' = H7) I7' r7 ⟨p7, [u1, u2], rfl, SqT.of t7, rfl, _, _, rfl, _, _, rfl, rfl, rfl, rfl⟩) (fun _ s8 hs8 => ?_) fun _ _ z => False.elim z)
   obtain ⟨σ8, H8, I8, rfl, rfl⟩ := hs8
   refine wpAny_bind (wpAny_bind (wpAny_mono (he cl s₃.heap.objs.size s₃ H3 fp _ s8 _ _ _ I8 step7) (fun yv s9 hs9 => ?_) fun _ _ z => False.elim z))
   obtain ⟨y', H9, I9, r9, hD9, k9⟩ := hs9
   refine wpAny_bind (wpAny_mono (f0p (X := b2l X scope cl s₃.heap.objs.size s₃ H3 fp x y) _ s9 _ H9 (.ref D) [y'] (.ref D) [yv] (fun _ H' => H' = upd H9 D (.lst (ys ++ [y']))) I9 rfl (.cons r9 .nil) ⟨D, ys, y', rfl, rfl, hD9, hsz, rfl⟩) (fun _ sA hsA => ?_) fun _ _ z => False.elim z)
   obtain ⟨_, HA, IA, _, rfl⟩ := hsA
   refine wpAny_pure ?_
   have wA := k9 _ a2i.upd a3i
   refine wpAny_pure ⟨rfl, n0 - (i + 1), by omega, i + 1, ys ++ [y'], some u1, some u2, _, IA.c3q (pins := []) (pl := f6h fp s7.heap), T.keep _ _ _ st7 (fun b hb o e => (IA.pin (b, o) (List.mem_append_right _ (List.mem_append_right _ (a7q hb e)))).1), fun b hb => ?_, wA, hlt, rfl⟩
   obtain ⟨o, e, d⟩ := T.obj _ _ st7 b hb
   exact (IA.pin (b, o) (List.mem_append_right _ (List.mem_append_right _ (a7q hb e)))).2.1
 exact codeAny_compStart_list loop (T.self _ 0 _ _ _ (T.keep _ _ _ st3 fun b _ o e => hk1 b o e) loop)
theorem j0r (hi : PI X (.Tuple [.Name x px, .Name y py] kk tpos) iter wi) (he : ∀ cl C s₃ H₃ fp, PE (b2l X scope cl C s₃ H₃ fp x y) elt te) (S : d2y X scope x y) (hc : X.calm = true)
  (hs : ∀ x, foldedSetIterable iter X.env x = pure x := by intro _; rfl) : PE X (.ListComp elt [⟨.Tuple [.Name x px, .Name y py] kk tpos, iter, [], 0⟩] scope pos) (l2o wi te) := by
 intro pins s σ H Q I h
 obtain ⟨cl, hclos, hcl, hcl2⟩ := d2w (env := X.env) (sc := scope) fun y hy => I.ok.has y (S.free _ hy rfl)
 rw [eval_ListComp]
 refine wpAny_comprehension_free (use := none) rfl hs hclos S.kind S.loc ?_
 refine thn (hi pins s σ H _ I h) fun v s1 h1 => thn h1 fun itv s2 h2 => ?_
 obtain ⟨it, fp, tn, J, H2, e, I2, T, st2, f2, hW⟩ := h2
 subst e
 exact i4j (RR := fun acc C => compPost (model X.prog X.w) X.A X.xe none (EP X pins σ Q) acc C) S hc he hcl hcl2 I2 T st2 f2 hW fun D C s' H' hm hI _ hq =>
  hm.elim fun m hn => ⟨m, hn, fun h' hs' => ⟨.ref D, H', hI h' hs', rfl, hq⟩⟩
end
noncomputable def j8d (sc scope : Scope) (x y : Str) (N : List Str) : Bool :=
 (scope.kind == .function) && scope.names.all (fun y => y.2 != .cell) && scope.names.all (fun y => y.2 != .local || scope.names.lookup y.1 == some .local) && (scope.names.lookup x == some .local) && (scope.names.lookup y == some .local) &&
 scope.names.all (fun y => y.2 != .free || (sc.names.lookup y.1 == some .cell || sc.names.lookup y.1 == some .free)) && decide ((x :: y :: N).Nodup) && N.all (fun y => scope.names.lookup y != some .local)
theorem k5c {X : Cx} {sc scope : Scope} {x y : Str} {N : List Str} (hsc : X.env.scope = sc) (hN : X.N = N) (h : j8d sc scope x y N = true) : d2y X scope x y := by
 subst hN hsc
 unfold j8d at h
 simp only [Bool.and_eq_true, List.all_eq_true, beq_iff_eq, Bool.or_eq_true, bne_iff_ne, ne_eq, decide_eq_true_eq] at h
 obtain ⟨⟨⟨⟨⟨⟨⟨h1, h2⟩, h3⟩, h4⟩, h5⟩, h6⟩, h7⟩, h8⟩ := h
 exact ⟨h1, h2, fun y hy e => (h3 y hy).resolve_left fun z => z e, h4, h5, fun y hy e => (h6 y hy).resolve_left fun z => z e, h7, h8⟩
theorem j1z {K : PySem.W.Frag} {b1 b2 : Bool} {l1 l2 D : Addr} {xs ys : List V} {te : TE} {σ : St} {H : Hp} {Q : VK} (Pv : Nat -> List V -> Hp -> Prop) (h0 : Pv 0 [] H) (hsz : xs.length <= sizeLine)
  (hD : ∀ i zs H, i <= min xs.length ys.length -> Pv i zs H -> H D = some (.lst zs) /\ SqK b1 K H l1 xs /\ SqK b2 K H l2 ys /\ zs.length = i)
  (hs : ∀ i x y zs H p H', xs[i]? = some x -> ys[i]? = some y -> Pv i zs H -> H p = none -> Same H H' -> H' p = some (.tup [x, y]) -> te (some x :: some y :: σ) H' fun z H2 => H2 D = some (.lst zs) /\ ∀ H3, a2i D H2 H3 -> H3 D = some (.lst (zs ++ [z])) -> Pv (i + 1) (zs ++ [z]) H3)
  (hd : ∀ zs H, Pv (min xs.length ys.length) zs H -> Q (.ref D) H) : j0q (Itz K b1 b2 l1 l2) te D σ H Q ⟨⟩ := by
 refine ⟨min xs.length ys.length, Pv, h0, fun i zs H hi p => ?_⟩
 obtain ⟨e1, e2, e3, e4⟩ := hD i zs H hi p
 refine ⟨e1, ?_⟩
 by_cases hlt : i < min xs.length ys.length
 ·have hx : xs[i]? = some (xs[i]'(by omega)) := List.getElem?_eq_getElem _
  have hy : ys[i]? = some (ys[i]'(by omega)) := List.getElem?_eq_getElem _
  refine .inr ⟨hlt, ⟨xs, ys, _, _, e2, e3, hx, hy⟩, by omega, fun v H' q => ?_⟩
  obtain ⟨q, x, y, rfl, nq, rfl, k1, k2⟩ := q
  exact ⟨q, x, y, rfl, a3i, hs i x y zs H q _ (k1 _ e2) (k2 _ e3) p nq (Same.upd nq) a3i⟩
 ·have e : i = min xs.length ys.length := by omega
  subst e
  exact .inl ⟨⟨xs, ys, e2, e3, by omega⟩, hd zs H p⟩
end L2
namespace L2
open PySem PySem.Spec PyProof.Rows
noncomputable def l7q (K : PySem.W.Frag) (tl : TE) : TI := fun σ H R => tl σ H fun x H1 => match x with
 | .ref a => (match H1 a with
  | some (.tup _) => R (Itt K a) H1
  | _ => False)
 | _ => False
theorem k6u {X : Cx} {tg l : Expr} {tl : TE} (hl : PE X l tl) : PI X tg l (l7q X.K tl) := by
 intro pins s σ H R I h
 refine thn (hl pins s σ H _ I h) fun v s1 ⟨x, H1, I1, r1, q1⟩ => ?_
 cases x with
 | ref a =>
  have q' : (match H1 a with
   | some (.tup _) => R (Itt X.K a) H1
   | _ => False) := q1
  split at q'
  ·rename_i xs e
   cases r1
   obtain ⟨its, rv, p, hz⟩ := I1.tuple (SqT.of e)
   refine wpAny_pyIter_tuple (show s1.heap.IsTuple a its.toArray from p) ?_
   refine ⟨s1.heap.objs.size, [s1.heap.objs.size], _, _, H1, rfl, I1.kept (t' := s1.toks) fun b o e => Heap.get?_push_of_some _ e, j1i a _, ⟨_, Heap.get?_push_size _ rfl, rfl, rfl⟩, fun b hb => ?_, q'⟩
   have e : b = s1.heap.objs.size := by simpa using hb
   subst e
   exact I1.k1b (Nat.le_refl _) (I1.hok.fresh (Nat.le_refl _))
  ·exact q'.elim
 | _ => exact False.elim q1
noncomputable def rSlG : V -> Option Int -> Option Int -> Hp -> VK -> Prop := fun x lo hi H Q => match x with
 | .ref a => (match H a with
  | some (.lst xs) => New H (.lst (f9q xs lo hi)) Q ⟨⟩
  | some (.tup xs) => ¬ (HT.sIx xs.length 0 lo = 0 /\ HT.sIx xs.length xs.length hi = xs.length) /\ New H (.tup (f9q xs lo hi)) Q ⟨⟩
  | _ => False)
 | _ => False
theorem m0f {X : Cx} : SlR X rSlG := by
 intro pins s σ H x v vl vu lo hi sl Q I rx hs pl pu h
 cases x with
 | ref a =>
  have h' : (match H a with
   | some (.lst xs) => New H (.lst (f9q xs lo hi)) Q ⟨⟩
   | some (.tup xs) => ¬ (HT.sIx xs.length 0 lo = 0 /\ HT.sIx xs.length xs.length hi = xs.length) /\ New H (.tup (f9q xs lo hi)) Q ⟨⟩
   | _ => False) := h
  split at h'
  ·rename_i xs e
   exact i3v pins s σ H _ v vl vu lo hi sl Q I rx hs pl pu ⟨_, xs, rfl, SqL.of e, h'.raw⟩
  ·rename_i xs e
   exact l0z pins s σ H _ v vl vu lo hi sl Q I rx hs pl pu ⟨_, xs, rfl, SqT.of e, h'.1, h'.2.raw⟩
  ·exact h'.elim
 | _ => exact False.elim h
theorem j8e {K : PySem.W.Frag} {a D : Addr} {xs : List V} {te : TE} {σ : St} {H : Hp} {Q : VK} (Pv : Nat -> List V -> Hp -> Prop) (h0 : Pv 0 [] H) (hsz : xs.length <= sizeLine)
  (hD : ∀ i ys H, i <= xs.length -> Pv i ys H -> H D = some (.lst ys) /\ SqT K H a xs /\ ys.length = i)
  (hs : ∀ i x ys H, xs[i]? = some x -> Pv i ys H -> te (some x :: σ) H fun y H2 => H2 D = some (.lst ys) /\ ∀ H3, a2i D H2 H3 -> H3 D = some (.lst (ys ++ [y])) -> Pv (i + 1) (ys ++ [y]) H3)
  (hd : ∀ ys H, Pv xs.length ys H -> Q (.ref D) H) : g4f (Itt K a) te D σ H Q ⟨⟩ := by
 refine ⟨xs.length, Pv, h0, fun i ys H hi p => ?_⟩
 obtain ⟨e1, e2, e3⟩ := hD i ys H hi p
 refine ⟨e1, ?_⟩
 by_cases hlt : i < xs.length
 ·refine .inr ⟨hlt, ⟨xs, xs[i], e2, by simp [hlt]⟩, by omega, fun x H' y => ?_⟩
  obtain ⟨e, y⟩ := y
  subst e
  exact hs i x ys _ (y xs e2) p
 ·have e : i = xs.length := by omega
  subst e
  exact .inl ⟨⟨xs, e2, Nat.le_refl _⟩, hd ys H p⟩
theorem j0s {X : Cx} {K : PySem.W.Frag} {e : Expr} {f : Str} {pos : Pos} {ta : TE} (hK : X.K = K) (he : PE X e ta) (hb : attributeBase e f X.env (eval e X.env) = eval e X.env) : PE X (.Attribute e f pos) (k6p K ta f) := hK ▸ a2t he hb
end L2
namespace L2
open PySem PySem.Spec PyProof.Rows
section
variable {prog : Program} {w : World} {A : Around} {E : Value -> Shared -> Prop} {s : Shared}
end
section
variable {prog : Program} {w : World} {A : Around} {E : Value -> Shared -> Prop} {s : Shared}
end
end L2
namespace L2
open PySem PySem.Spec PyProof.Rows
section
variable {M : Model} {A : Around} {E : Value -> Shared -> Prop} {s : Shared} {env : Env}
end
end L2
namespace L2
open PySem PySem.Spec PyProof.Rows
noncomputable def l7r (chk : V -> Hp -> Bool) (r : V -> List V -> Hp -> VK -> Prop) (to : TE) : TE := fun σ H Q => to σ H fun x H1 => chk x H1 = true /\ r x [] H1 Q
section
variable {X : Cx} {o : Expr} {to : TE} {name : Str} {apos cpos : Pos} {T id : String} {r : V -> List V -> Hp -> VK -> Prop} {chk : V -> Hp -> Bool}
theorem k6v (hchk : ∀ x H, chk x H = true → tyV X.K T x H) (pa : PlainAttrs T) (slot : Slot T name id) (hty : typeOf (.builtin id) = pure (.type "method_descriptor")) (hm : MtR X id r) (ho : PE X o to)
  (hbase : attributeBase o name X.env (eval o X.env) = eval o X.env := by rfl) (hline : (apos.endLine == cpos.line) = true := by rfl) : PE X (.Call (.Attribute o name apos) [] [] cpos) (l7r chk r to) := by
 intro pins s σ H Q I h
 refine wpAny_Call_method0_late hbase hline (thn (ho pins s σ H _ I h) fun v s1 ⟨x, H1, I1, r1, ty, q1⟩ => ?_)
 obtain ⟨h1, h2⟩ := k4f I1 r1 (hchk x H1 ty)
 exact ⟨T, id, pa, slot, hty, h1, h2, Calls.callWith_builtin rfl (PySem.evalArgs_none (hm pins s1 σ H1 x [] v [] Q I1 r1 .nil q1))⟩
noncomputable def l2p : V -> List V -> Hp -> VK -> Prop := fun x vs H Q => match x, vs with
 | .str z, [.ref l] => (match H l with
  | some (.lst xs) => ∃ ys : List Str, xs = ys.map V.str /\ JoinOk z ys = true /\ Q (.str (Txt.join z ys)) H
  | _ => False)
 | _, _ => False
theorem g8h : ∀ {ys : List Str} {us : List Value}, Vals (ys.map V.str) us -> ∃ l : List (Str × Tok), us = strValues l /\ l.map (·.1) = ys
 | [], _, h => by
  cases h
  exact ⟨[], rfl, rfl⟩
 | y :: ys, _, h => by
  cases h with
  | cons a b =>
   obtain ⟨t, rfl⟩ := a
   obtain ⟨l, rfl, e⟩ := g8h b
   exact ⟨(y, t) :: l, rfl, by rw [List.map_cons, e]⟩
theorem k2g : MtR X "str.join" l2p := by
 intro pins s σ H x vs v us Q I rx rv h
 match x, vs, h with
 | .str z, [.ref l], h =>
  have h' : (match H l with
   | some (.lst xs) => ∃ ys : List Str, xs = ys.map V.str /\ JoinOk z ys = true /\ Q (.str (Txt.join z ys)) H
   | _ => False) := h
  split at h'
  ·rename_i xs hH
   obtain ⟨ys, rfl, ok, q⟩ := h'
   obtain ⟨t, rfl⟩ := rx
   obtain ⟨u, rfl, ru⟩ := rv.one
   cases ru
   obtain ⟨its, n, r, ho, hz⟩ := I.lst hH
   obtain ⟨lt, rfl, e⟩ := g8h r
   exact SC.join ⟨_, ho, rfl, _, rfl⟩ e ok fun t' k => ⟨.str _, H, I.tok k, ⟨_, rfl⟩, q⟩
  ·exact h'.elim
end
theorem joinOk_of {z : Str} {ys : List Str} {n : Nat} (h : ∀ y ∈ ys, y.length <= n) (hl : ys.length * (n + z.length) <= sizeLine) : JoinOk z ys = true := by
 unfold JoinOk
 have : ∀ (ys : List Str) (a : Nat), (∀ y ∈ ys, y.length <= n) -> ys.foldl (· + ·.length + z.length) a <= a + ys.length * (n + z.length) := by
  intro ys
  induction ys with
  | nil => intro a _; simp
  | cons y ys ih =>
   intro a h
   have i := ih (a + y.length + z.length) fun y hy => h y (List.mem_cons_of_mem _ hy)
   have hy := h y (List.mem_cons_self ..)
   rw [List.foldl_cons, List.length_cons, Nat.succ_mul]
   omega
 have t := this ys 0 h
 rw [List.foldl_toArray]
 unfold Builtin.Str.tooLong
 simp
 omega
end L2
namespace L2
open PySem PySem.Spec PyProof.Rows
structure l7s (K : PySem.W.Frag) (w : World) (d : Addr) : Prop where
 lk : ∃ es n, K.lookup d = some ⟨.type "dict", none, .dict es n, #[]⟩ ∧ PySem.W.KeysLit w.params es.toList
 ns : (d == sysModules) = false
noncomputable def rNiD (K : PySem.W.Frag) (w : World) (neg : Bool) : R2 := fun x y H Q => match x, y with
 | .str z, .ref d => l7s K w d /\ ∃ r, PySem.W.nsIn K d z = some r /\ Q (.bl (r.isSome != neg)) H
 | _, _ => False
section
variable {X : Cx}
theorem j8f {K : PySem.W.Frag} {w : World} (eK : X.K = K) (eW : X.w = w) : OpR X (compareOp .NotIn) (rNiD K w true) := by
 subst eK eW
 intro pins s σ H x y v u Q I rx ry h
 match x, y, h with
 | .str z, .ref d, ⟨⟨⟨es, n, hl, hk⟩, hn⟩, r, e, q⟩ =>
  obtain ⟨t, rfl⟩ := rx
  cases ry
  refine wpAny_notIn_of (PySem.strKind_is X.prog X.w z t) hn (PySem.W.mapOf_K (prog := X.prog) I.kIn hl (hk)) ?_
  rw [PySem.W.find_K hl e]
  rw [Bool.bne_true] at q
  exact ⟨.bl (!r.isSome), H, I.tok _, rfl, q⟩
noncomputable def rIxD (K : PySem.W.Frag) (w : World) : R2 := fun x y H Q => match x, y with
 | .ref d, .str z => l7s K w d /\ ∃ f, PySem.W.nsIn K d z = some (some (.ref f)) /\ Q (.ref f) H
 | _, _ => False
theorem k9t {K : PySem.W.Frag} {w : World} (eK : X.K = K) (eW : X.w = w) : IxR X (rIxD K w) := by
 subst eK eW
 intro value slice pins s σ H x y v u Q I rx ry h hs
 match x, y, h with
 | .ref d, .str z, ⟨⟨⟨es, n, hl, hk⟩, hn⟩, f, e, q⟩ =>
  obtain ⟨t, rfl⟩ := ry
  cases rx
  have hm := PySem.W.mapOf_K (prog := X.prog) (w := X.w) I.kIn hl (hk)
  exact tail_any hm.typeIs slot_dict_getitem.lookup (wpAny_getItem_of (PySem.strKind_is X.prog X.w z t) hm (PySem.W.find_K hl e) ⟨.ref f, H, I.tok _, rfl, q⟩) hs
noncomputable def l2q (f : Addr) (sp : Sp) (dvs : List V) (E : XK) (tg : TE) (t : TA) : TE := fun σ H Q => tg σ H fun x H1 => x = .ref f /\ l0v sp dvs E t σ H1 Q
theorem d2z {CX : CXT} {k : Nat} {f : Addr} {fd : FuncData} {ps : List Str} {sp : Sp} {ds : List Value} {dvs : List V} {E : XK} {g e : Expr} {es : List Expr} {tg : TE} {t : TA} {pos : Pos} (F : a1n X.prog X.w X.K X.mg X.base CX k f fd ps sp) (hr : a2z k X.A) (hk : PySem.W.keepIn X.K (.ref f) = true) (hb : Binds X.K fd ps ds) (hd : Vals dvs ds) (hx : Passes CX X E)
  (hg : PE X g tg) (ha : PA X (e :: es) t) (he : starEach (e :: es) X.env = (false, eval e X.env) :: starEach es X.env := by rfl) (hpl : (backTo pos (starEach es X.env)).any (·.1) = false := by rfl)
  (hc : eval (.Call g (e :: es) [] pos) X.env = (do callWith pos (<- eval g X.env) [] (backTo pos (starEach (e :: es) X.env)) (backToKw pos (keywordEach [] X.env))) := by rfl) :
  PE X (.Call g (e :: es) [] pos) (l2q f sp dvs E tg t) := by
 intro pins s σ H Q I h
 refine Call_ (thn (hg pins s σ H _ I h) fun v s1 ⟨x, H1, I1, r1, ex, q1⟩ => ?_) hc
 subst ex
 cases r1
 refine PySem.W.callWith_K (h₀ := X.base) I1.ok.mod.kin hk (thn (ha pos pins s1 σ H1 _ I1 q1) fun us s2 ⟨vs, H2, I2, r, q⟩ => ⟨I2.kIn, ?_⟩) he hpl
 exact j0h F hr hb hd hx I2 r q
theorem SP.l7t {pins : List (Addr × Obj)} {D : Ends} {f : Flow} {s : Shared} (h : SP X.nox pins D f s) : SP X pins D f s := by
 cases f with
 | next => obtain ⟨a, b, c, d⟩ := h; exact ⟨a, b, c.b9u, d⟩
 | brk => obtain ⟨a, b, c, d⟩ := h; exact ⟨a, b, c.b9u, d⟩
 | cont => obtain ⟨a, b, c, d⟩ := h; exact ⟨a, b, c.b9u, d⟩
 | ret u => obtain ⟨v, a, b, c, d⟩ := h; exact ⟨v, a, b, c.b9u, d⟩
theorem k6w {st : Stmt} {h₀ : ExceptHandler} {hs : List ExceptHandler} {tb : TS} {pos : Pos} (hb : PS X.nox st tb) : PS X (.Try [st] (h₀ :: hs) [] [] pos) tb := by
 intro pins s σ H Dn I h
 refine wpAny_Try_except (wpAny_execs_cons (wpAny_mono (hb pins s σ H Dn (I.wish _) h) (fun f s1 q => ?_) fun e s1 z => False.elim z))
 have q' := SP.l7t q
 cases f with
 | next => exact wpAny_execs_nil (wpAny_execs_nil q')
 | ret v => exact q'
 | brk => exact q'
 | cont => exact q'
end
end L2
namespace L2
open PySem PySem.Spec PyProof.Rows
theorem j0t {c : Nat} : ∀ {a a' b b' : List Nat}, a ++ c :: b = a' ++ c :: b' -> c ∉ a -> c ∉ a' -> a = a' /\ b = b'
 | [], [], _, _, h, _, _ => by simpa using h
 | [], d :: a', _, _, h, _, h2 => by
  rw [List.nil_append, List.cons_append, List.cons.injEq] at h
  exact absurd (by rw [h.1]; exact List.mem_cons_self) h2
 | d :: a, [], _, _, h, h1, _ => by
  rw [List.nil_append, List.cons_append, List.cons.injEq] at h
  exact absurd (by rw [h.1]; exact List.mem_cons_self) h1
 | d :: a, d' :: a', _, _, h, h1, h2 => by
  rw [List.cons_append, List.cons_append, List.cons.injEq] at h
  obtain ⟨e1, e2⟩ := j0t h.2 (fun q => h1 (List.mem_cons_of_mem _ q)) (fun q => h2 (List.mem_cons_of_mem _ q))
  exact ⟨by rw [h.1, e1], e2⟩
theorem b0j (c : Nat) (p q : Str) (r : List Str) : sg (Str.join ⟨#[c]⟩ (p :: q :: r)) = sg p ++ c :: sg (Str.join ⟨#[c]⟩ (q :: r)) := by
 show sg (p ++ ⟨#[c]⟩ ++ Str.join ⟨#[c]⟩ (q :: r)) = _
 rw [a3w, a3w, List.append_assoc]
 rfl
theorem h5k {c : Nat} : ∀ {ps qs : List Str}, ps ≠ [] -> qs ≠ [] -> (∀ p ∈ ps, c ∉ sg p) -> (∀ q ∈ qs, c ∉ sg q) -> sg (Str.join ⟨#[c]⟩ ps) = sg (Str.join ⟨#[c]⟩ qs) -> ps = qs
 | [], _, h, _, _, _, _ => absurd rfl h
 | _ :: _, [], _, h, _, _, _ => absurd rfl h
 | [p], [q], _, _, _, _, e => by
  rw [c2j (show sg p = sg q from e)]
 | [p], q :: q' :: qs, _, _, fp, _, e => by
  rw [b0j] at e
  exact absurd (by rw [show sg p = _ from e]; simp) (fp p (List.mem_cons_self ..))
 | p :: p' :: ps, [q], _, _, _, fq, e => by
  rw [b0j] at e
  exact absurd (by rw [show sg q = _ from e.symm]; simp) (fq q (List.mem_cons_self ..))
 | p :: p' :: ps, q :: q' :: qs, _, _, fp, fq, e => by
  rw [b0j, b0j] at e
  obtain ⟨e1, e2⟩ := j0t e (fp p (List.mem_cons_self ..)) (fq q (List.mem_cons_self ..))
  rw [c2j e1, h5k (by simp) (by simp) (fun x hx => fp x (List.mem_cons_of_mem _ hx)) (fun x hx => fq x (List.mem_cons_of_mem _ hx)) e2]
theorem j8g (x y : Str) : b5q x y = Txt.split x y := rfl
theorem k2h (x y : Str) : Txt.split x y ≠ [] := by
 unfold Txt.split
 split
 ·simp
 ·split
  ·simp
  ·rw [StrLaws.partsBetween_eq]
   obtain ⟨p, r, e⟩ := StrLaws.partsFrom_ne x y.length 0 (Builtin.Str.occurrences x y 0 x.length (x.length + 1))
   rw [e]
   simp
theorem f2t {x : Str} {c : Nat} {ps : List Str} (hn : ps ≠ []) (hf : ∀ p ∈ ps, c ∉ sg p) (h : sg x = sg (Str.join ⟨#[c]⟩ ps)) : b5q x ⟨#[c]⟩ = ps := by
 rw [j8g]
 refine h5k (c := c) (k2h _ _) hn (fun p hp => StrLaws.split_free x c p hp) hf ?_
 rw [StrLaws.join_split, h]
end L2
namespace L2
open PySem PySem.Spec PyProof.Rows
noncomputable def f2u (t t' : TE) : TE := fun σ H Q => t σ H Q \/ t' σ H Q
theorem a4t {X : Cx} {e : Expr} {t t' : TE} (h : PE X e t) (h' : PE X e t') : PE X e (f2u t t') := fun pins s σ H Q I z => z.elim (h pins s σ H Q I) (h' pins s σ H Q I)
theorem k2i : ∀ (k n : Nat), n < 10 ^ (k + 1) -> (dg n).length <= k + 1
 | 0, n, h => by
  rw [i4e (by omega)]
  exact Nat.le_refl _
 | k + 1, n, h => by
  rcases Nat.lt_or_ge n 10 with z | z
  ·rw [i4e z, List.length_singleton]
   omega
  ·have e : n = 10 * (n / 10) + n % 10 := by omega
   rw [e, g0m (by omega) (by omega), List.length_append, List.length_singleton]
   have := k2i k (n / 10) (by rw [Nat.pow_succ] at h; omega)
   omega
theorem i4k {K : PySem.W.Frag} {a D : Addr} {xs : List V} {te : TE} {σ : St} {H : Hp} {Q : VK} (Pv : Nat -> List V -> Hp -> Prop) (h0 : Pv 0 [] H) (hsz : xs.length <= sizeLine)
  (hD : ∀ i ys H, i <= xs.length -> Pv i ys H -> H D = some (.lst ys) /\ SqL K H a xs /\ ys.length = i)
  (hs : ∀ i x ys H, xs[i]? = some x -> Pv i ys H -> ∃ p u v, x = .ref p /\ H p = some (.tup [u, v]) /\ te (some u :: some v :: σ) H fun y H2 => H2 D = some (.lst ys) /\ ∀ H3, a2i D H2 H3 -> H3 D = some (.lst (ys ++ [y])) -> Pv (i + 1) (ys ++ [y]) H3)
  (hd : ∀ ys H, Pv xs.length ys H -> Q (.ref D) H) : j0q (Itl K a) te D σ H Q ⟨⟩ := by
 refine ⟨xs.length, Pv, h0, fun i ys H hi p => ?_⟩
 obtain ⟨e1, e2, e3⟩ := hD i ys H hi p
 refine ⟨e1, ?_⟩
 by_cases hlt : i < xs.length
 ·refine .inr ⟨hlt, ⟨xs, xs[i], e2, by simp [hlt]⟩, by omega, fun x H' y => ?_⟩
  obtain ⟨e, y⟩ := y
  subst e
  exact hs i x ys _ (y xs e2) p
 ·have e : i = xs.length := by omega
  subst e
  exact .inl ⟨⟨xs, e2, Nat.le_refl _⟩, hd ys H p⟩
open PySem.Builtin.Int (intBits)
noncomputable def fW (x : Rat) : Str := Str.empty ++ Str.ofString (toString x.num) ++ Str.ofString "/" ++ Str.ofString (toString (x.den : Int))
noncomputable def cW (c : Int × Rat) : Str := Str.empty ++ Str.ofString (toString c.1) ++ Str.ofString "=" ++ fW c.2
noncomputable def nW (n : Nat) : Str := Str.ofString (toString (n : Int))
noncomputable def YOk (y : Rat) : Prop := y.num.natAbs <= 1000 /\ y.den <= 1000
inductive Dt where
 | gain (y : Rat)
 | delay (n : Nat)
 | echo (y : Rat) (n t : Nat)
 | back (y : Rat) (n : Nat)
 | hall (y : Rat) (n : Nat)
 | swell (cs : List (Int × Rat))
noncomputable def Dt.kd : Dt -> Nat
 | .gain _ => 0
 | .delay _ => 1
 | .echo .. => 2
 | .back .. => 3
 | .hall .. => 4
 | .swell _ => 5
noncomputable def Dt.kind : Dt -> Str
 | .gain _ => Str.ofString "gain"
 | .delay _ => Str.ofString "delay"
 | .echo .. => Str.ofString "echo"
 | .back .. => Str.ofString "back"
 | .hall .. => Str.ofString "hall"
 | .swell _ => Str.ofString "swell"
noncomputable def Dt.vals : Dt -> List Str
 | .gain y => [fW y]
 | .delay n => [nW n]
 | .echo y n t => [fW y, nW n, nW t]
 | .back y n => [fW y, nW n]
 | .hall y n => [fW y, nW n]
 | .swell cs => [Str.join ⟨#[44]⟩ (cs.map cW)]
noncomputable def Dt.word (d : Dt) : Str := Str.join ⟨#[58]⟩ (d.kind :: d.vals)
noncomputable def k0u (cs : List (Int × Rat)) : Prop := (∀ c ∈ cs, 0 <= c.1 /\ c.1 <= 100000 /\ YOk c.2) /\ (∀ (i : Nat) c d, cs[i]? = some c -> cs[i + 1]? = some d -> c.1 < d.1) /\ 1 <= cs.length /\ cs.length <= 12
noncomputable def Dt.ok : Dt -> Prop
 | .gain y => YOk y
 | .delay n => n <= 1000
 | .echo y n t => YOk y /\ 1 <= n /\ n <= 1000 /\ t <= 16
 | .back y n => YOk y /\ 1 <= n /\ n <= 1000
 | .hall y n => YOk y /\ (y.num.natAbs : Int) < y.den /\ 1 <= n /\ n <= 1000
 | .swell cs => k0u cs
theorem f0v {t : Int} {n : Nat} (h : t.natAbs < 2 ^ n) (hn : 1 <= n) : t.natAbs.log2 < n := by
 rcases Nat.eq_zero_or_pos t.natAbs with z | z
 ·rw [z]
  show Nat.log2 0 < n
  have : Nat.log2 0 = 0 := by decide
  omega
 ·rw [Nat.log2_lt (by omega)]
  exact h
theorem d4y {t : Int} {n : Nat} (h : t.natAbs < 2 ^ n) (hn : 1 <= n) : (Str.ofString (toString t)).length <= n + 1 := by
 have e : (Str.ofString (toString t)).length = (txt t).length := by rw [<- c8s, c8h]
 have := i4f t
 have := f0v h hn
 omega
theorem g8i {n : Nat} (h : n < 2 ^ 20) : (nW n).length <= 21 := d4y (t := (n : Int)) (n := 20) (by omega) (by decide)
theorem YOk.b {y : Rat} (h : YOk y) : intBits y.num <= 10 /\ intBits (y.den : Int) <= 10 := ⟨intBits_le_iff.mpr (Nat.lt_of_le_of_lt h.1 (by decide)), intBits_le_iff.mpr (Nat.lt_of_le_of_lt (show (y.den : Int).natAbs <= 1000 from h.2) (by decide))⟩
theorem f6k {x : Rat} (h1 : intBits x.num <= 10) (h2 : intBits (x.den : Int) <= 10) : (fW x).length <= 23 := by
 have a := d4y (intBits_le_iff.mp h1) (by decide)
 have b := d4y (intBits_le_iff.mp h2) (by decide)
 have e0 : Str.empty.length = 0 := rfl
 have e1 : (Str.ofString "/").length = 1 := by decide +kernel
 unfold fW
 simp only [strLen_append, e0, e1]
 omega
theorem k5d {c : Int × Rat} (h0 : c.1.natAbs < 2 ^ 20) (h1 : intBits c.2.num <= 10) (h2 : intBits (c.2.den : Int) <= 10) : (cW c).length <= 45 := by
 have a := d4y h0 (by decide)
 have b := f6k h1 h2
 have e0 : Str.empty.length = 0 := rfl
 have e1 : (Str.ofString "=").length = 1 := by decide +kernel
 unfold cW
 simp only [strLen_append, e0, e1]
 omega
theorem k2j (n : Nat) : sg (nW n) = txt (n : Int) := c8h _
theorem k6x (y : Rat) : sg (fW y) = k2c y.num (y.den : Int) := by
 unfold fW k2c
 rw [a3w, a3w, a3w, c8h, c8h]
 have e4 : sg Str.empty = [] := rfl
 have e5 : sg (Str.ofString "/") = [47] := by decide +kernel
 rw [e4, e5]
 simp
theorem k6y (c : Int × Rat) : sg (cW c) = txt c.1 ++ 61 :: sg (fW c.2) := by
 unfold cW
 rw [a3w, a3w, a3w, c8h]
 have e4 : sg Str.empty = [] := rfl
 have e5 : sg (Str.ofString "=") = [61] := by decide +kernel
 rw [e4, e5]
 simp
theorem k6z {y : Rat} (h : YOk y) : Good (sg (fW y)) y.num (y.den : Int) := by
 have dp := y.den_pos
 refine ⟨k6x y, by omega, y.reduced, ?_, ?_⟩
 ·exact k2i 8 _ (Nat.lt_of_le_of_lt h.1 (by decide))
 ·exact k2i 8 _ (Nat.lt_of_le_of_lt (show (y.den : Int).natAbs <= 1000 from h.2) (by decide))
theorem j2a {c : Nat} (h1 : c ≠ 45) (h2 : 57 < c) (y : Rat) : c ∉ sg (fW y) := by
 rw [k6x]
 unfold k2c
 intro h
 rcases List.mem_append.mp h with z | z
 ·exact d3o h1 (.inr h2) z
 ·rcases List.mem_cons.mp z with z | z
  ·omega
  ·exact d3o h1 (.inr h2) z
theorem j8h {c : Nat} (h1 : c ≠ 45) (h2 : c < 48 \/ 57 < c) (n : Nat) : c ∉ sg (nW n) := by
 rw [k2j]
 exact d3o h1 h2
theorem k7a (y : Rat) : 44 ∉ sg (fW y) := by
 rw [k6x]
 unfold k2c
 intro h
 rcases List.mem_append.mp h with z | z
 ·exact d3o (by decide) (.inl (by decide)) z
 ·rcases List.mem_cons.mp z with z | z
  ·omega
  ·exact d3o (by decide) (.inl (by decide)) z
theorem k7b (c : Int × Rat) : 44 ∉ sg (cW c) := by
 rw [k6y]
 intro h
 rcases List.mem_append.mp h with z | z
 ·exact d3o (by decide) (.inl (by decide)) z
 ·rcases List.mem_cons.mp z with z | z
  ·omega
  ·exact k7a _ z
theorem k7c (c : Int × Rat) : 58 ∉ sg (cW c) := by
 rw [k6y]
 intro h
 rcases List.mem_append.mp h with z | z
 ·exact d3o (by decide) (.inr (by decide)) z
 ·rcases List.mem_cons.mp z with z | z
  ·omega
  ·exact j2a (by decide) (by decide) _ z
theorem j8i {c k : Nat} (hk : c ≠ k) : ∀ {ps : List Str}, (∀ p ∈ ps, c ∉ sg p) -> c ∉ sg (Str.join ⟨#[k]⟩ ps)
 | [], _ => by
  show c ∉ ([] : List Nat)
  simp
 | [p], h => h p (List.mem_cons_self ..)
 | p :: q :: r, h => by
  rw [b0j]
  intro z
  rcases List.mem_append.mp z with z | z
  ·exact h p (List.mem_cons_self ..) z
  ·rcases List.mem_cons.mp z with z | z
   ·exact hk z
   ·exact j8i hk (fun x hx => h x (List.mem_cons_of_mem _ hx)) z
theorem h5l {b : Nat} : ∀ {l : List Nat}, (∀ x ∈ l, x <= b) -> l.sum <= l.length * b
 | [], _ => Nat.zero_le _
 | x :: l, h => by
  have i := h5l (l := l) fun y hy => h y (List.mem_cons_of_mem _ hy)
  have := h x (List.mem_cons_self ..)
  rw [List.sum_cons, List.length_cons, Nat.succ_mul]
  omega
theorem j0u {z : Str} {ps : List Str} {n : Nat} (h : ∀ p ∈ ps, p.length <= n) : (Str.join z ps).length <= ps.length * n + ps.length * z.length := by
 have a := StrLaws.join_length_le z ps
 have b := h5l (b := n) (l := ps.map (·.length)) fun x hx => by
  obtain ⟨y, hy, rfl⟩ := List.mem_map.mp hx
  exact h y hy
 rw [List.length_map] at b
 have c : (ps.length - 1) * z.length <= ps.length * z.length := Nat.mul_le_mul_right _ (Nat.sub_le _ _)
 omega
theorem k0u.len {cs : List (Int × Rat)} (h : k0u cs) : ∀ c ∈ cs, (cW c).length <= 45 := fun c hc => by
 obtain ⟨a, b, y⟩ := h.1 c hc
 exact k5d (by omega) y.b.1 y.b.2
theorem k0u.l7u {cs : List (Int × Rat)} (h : k0u cs) : (Str.join ⟨#[44]⟩ (cs.map cW)).length <= 600 := by
 have a := j0u (z := ⟨#[44]⟩) (ps := cs.map cW) (n := 45) fun p hp => by
  obtain ⟨c, hc, rfl⟩ := List.mem_map.mp hp
  exact h.len c hc
 rw [List.length_map, g0l] at a
 have := h.2.2.2
 omega
theorem Dt.free {d : Dt} : ∀ p ∈ d.kind :: d.vals, 58 ∉ sg p := by
 cases d <;> intro p hp <;> simp only [Dt.kind, Dt.vals, List.mem_cons, List.not_mem_nil, or_false] at hp
 case gain => rcases hp with rfl | rfl; decide +kernel; exact j2a (by decide) (by decide) _
 case delay => rcases hp with rfl | rfl; decide +kernel; exact j8h (by decide) (.inr (by decide)) _
 case echo => rcases hp with rfl | rfl | rfl | rfl; decide +kernel; exact j2a (by decide) (by decide) _; exact j8h (by decide) (.inr (by decide)) _; exact j8h (by decide) (.inr (by decide)) _
 case back => rcases hp with rfl | rfl | rfl; decide +kernel; exact j2a (by decide) (by decide) _; exact j8h (by decide) (.inr (by decide)) _
 case hall => rcases hp with rfl | rfl | rfl; decide +kernel; exact j2a (by decide) (by decide) _; exact j8h (by decide) (.inr (by decide)) _
 case swell cs =>
  rcases hp with rfl | rfl
  ·decide +kernel
  ·refine j8i (by decide) fun p hp => ?_
   obtain ⟨c, _, rfl⟩ := List.mem_map.mp hp
   exact k7c c
theorem Dt.vlen {d : Dt} (h : d.ok) : ∀ p ∈ d.kind :: d.vals, p.length <= 600 := by
 have k1 : (Str.ofString "gain").length = 4 := by decide +kernel
 have k2 : (Str.ofString "delay").length = 5 := by decide +kernel
 have k3 : (Str.ofString "echo").length = 4 := by decide +kernel
 have k4 : (Str.ofString "back").length = 4 := by decide +kernel
 have k5 : (Str.ofString "hall").length = 4 := by decide +kernel
 have k6 : (Str.ofString "swell").length = 5 := by decide +kernel
 have f : ∀ {y : Rat}, YOk y -> (fW y).length <= 600 := fun h => Nat.le_trans (f6k h.b.1 h.b.2) (by decide)
 have g : ∀ {n : Nat}, n <= 1000 -> (nW n).length <= 600 := fun h => Nat.le_trans (g8i (Nat.lt_of_le_of_lt h (by decide))) (by decide)
 cases d <;> intro p hp <;> simp only [Dt.kind, Dt.vals, List.mem_cons, List.not_mem_nil, or_false] at hp
 case gain => rcases hp with rfl | rfl; omega; exact f h
 case delay => rcases hp with rfl | rfl; omega; exact g h
 case echo => rcases hp with rfl | rfl | rfl | rfl; omega; exact f h.1; exact g h.2.2.1; exact g (Nat.le_trans h.2.2.2 (by decide))
 case back => rcases hp with rfl | rfl | rfl; omega; exact f h.1; exact g h.2.2
 case hall => rcases hp with rfl | rfl | rfl; omega; exact f h.1; exact g h.2.2.2
 case swell cs => rcases hp with rfl | rfl; omega; exact h.l7u
theorem Dt.vn {d : Dt} : d.vals.length <= 3 := by
 cases d <;> simp [Dt.vals]
theorem Dt.wlen {d : Dt} (h : d.ok) : d.word.length <= 4000 := by
 have a := j0u (z := ⟨#[58]⟩) (d.vlen h)
 have b := d.vn
 rw [List.length_cons, g0l] at a
 unfold Dt.word
 omega
theorem Dt.split (d : Dt) : b5q d.word ⟨#[58]⟩ = d.kind :: d.vals := f2t (by simp) d.free rfl
theorem g9l {cs : List (Int × Rat)} (h : 1 <= cs.length) : b5q (Str.join ⟨#[44]⟩ (cs.map cW)) ⟨#[44]⟩ = cs.map cW := f2t (by intro z; have := congrArg List.length z; rw [List.length_map, List.length_nil] at this; omega) (fun p hp => by
 obtain ⟨c, _, rfl⟩ := List.mem_map.mp hp
 exact k7b c) rfl
theorem h5m {c : Int × Rat} : b5q (cW c) ⟨#[61]⟩ = [Str.ofString (toString c.1), fW c.2] := f2t (by simp) (fun p hp => by
 rcases List.mem_cons.mp hp with rfl | hp
 ·rw [c8h]
  exact d3o (by decide) (.inr (by decide))
 ·rw [List.mem_singleton.mp hp]
  exact j2a (by decide) (by decide) _) (by rw [b0j, k6y, c8h]; rfl)
theorem j2b (z p : Str) : Str.join z [p] = p := rfl
theorem j2c : sg Str.empty = [] := rfl
theorem l2r : sg (Str.ofString "gain:") = sg (Str.ofString "gain") ++ [58] := by decide +kernel
theorem k7d : sg (Str.ofString "delay:") = sg (Str.ofString "delay") ++ [58] := by decide +kernel
theorem l2s : sg (Str.ofString "echo:") = sg (Str.ofString "echo") ++ [58] := by decide +kernel
theorem l2t : sg (Str.ofString "back:") = sg (Str.ofString "back") ++ [58] := by decide +kernel
theorem l2u : sg (Str.ofString "hall:") = sg (Str.ofString "hall") ++ [58] := by decide +kernel
theorem k7e : sg (Str.ofString "swell:") = sg (Str.ofString "swell") ++ [58] := by decide +kernel
theorem j2d : sg (Str.ofString ":") = [58] := by decide +kernel
theorem k7f : Str.ofString "," = ⟨#[44]⟩ := by decide +kernel
theorem l7v : Str.ofString ":" = ⟨#[58]⟩ := by decide +kernel
theorem l7w : Str.ofString "=" = ⟨#[61]⟩ := by decide +kernel
theorem l2v (y : Rat) : Str.empty ++ Str.ofString "gain:" ++ fW y = (Dt.gain y).word := c2j (by
 simp only [Dt.word, Dt.kind, Dt.vals, a3w, b0j, j2b, j2c, l2r, j2d, List.nil_append, List.append_assoc, List.singleton_append, List.cons_append])
theorem k7g (n : Nat) : Str.empty ++ Str.ofString "delay:" ++ nW n = (Dt.delay n).word := c2j (by
 simp only [Dt.word, Dt.kind, Dt.vals, a3w, b0j, j2b, j2c, k7d, j2d, List.nil_append, List.append_assoc, List.singleton_append, List.cons_append])
theorem l2w (y : Rat) (n t : Nat) : Str.empty ++ Str.ofString "echo:" ++ fW y ++ Str.ofString ":" ++ nW n ++ Str.ofString ":" ++ nW t = (Dt.echo y n t).word := c2j (by
 simp only [Dt.word, Dt.kind, Dt.vals, a3w, b0j, j2b, j2c, l2s, j2d, List.nil_append, List.append_assoc, List.singleton_append, List.cons_append])
theorem l2x (y : Rat) (n : Nat) : Str.empty ++ Str.ofString "back:" ++ fW y ++ Str.ofString ":" ++ nW n = (Dt.back y n).word := c2j (by
 simp only [Dt.word, Dt.kind, Dt.vals, a3w, b0j, j2b, j2c, l2t, j2d, List.nil_append, List.append_assoc, List.singleton_append, List.cons_append])
theorem l2y (y : Rat) (n : Nat) : Str.empty ++ Str.ofString "hall:" ++ fW y ++ Str.ofString ":" ++ nW n = (Dt.hall y n).word := c2j (by
 simp only [Dt.word, Dt.kind, Dt.vals, a3w, b0j, j2b, j2c, l2u, j2d, List.nil_append, List.append_assoc, List.singleton_append, List.cons_append])
theorem l3a (z : Str) (ps : List Str) : Txt.join z ps = Str.join z ps := by
 show Builtin.Str.glued _ _ = _
 rw [StrLaws.glued_eq_join]
theorem k7h (cs : List (Int × Rat)) : Str.empty ++ Str.ofString "swell:" ++ Txt.join (Str.ofString ",") (cs.map cW) = (Dt.swell cs).word := c2j (by
 rw [l3a, k7f]
 simp only [Dt.word, Dt.kind, Dt.vals, a3w, b0j, j2b, j2c, k7e, j2d, List.nil_append, List.append_assoc, List.singleton_append, List.cons_append])
end L2
namespace L2
open PySem PySem.Spec PyProof.Rows
section
variable {X : Cx}
noncomputable def l7x : V -> List V -> Hp -> VK -> Prop := fun x vs H Q => match x, vs with
 | .ref l, [.int i] => (match H l with
  | some (.lst xs) => 0 <= i /\ i < (xs.length : Int) /\ All (fun v H1 => xs[i.toNat]? = some v /\ a2i l H H1 /\ H1 l = some (.lst (xs.eraseIdx i.toNat))) Q ⟨⟩ ⟨⟩
  | _ => False)
 | .ref l, [] => (match H l with
  | some (.lst xs) => 0 < xs.length /\ All (fun v H1 => xs[xs.length - 1]? = some v /\ a2i l H H1 /\ H1 l = some (.lst xs.dropLast)) Q ⟨⟩ ⟨⟩
  | _ => False)
 | _, _ => False
theorem k7i : MtR X "list.pop" l7x := by
 intro pins s σ H x vs v us Q I rx rv h
 match x, vs, h with
 | .ref l, [.int i], h =>
  have h' : (match H l with
   | some (.lst xs) => 0 <= i /\ i < (xs.length : Int) /\ All (fun v H1 => xs[i.toNat]? = some v /\ a2i l H H1 /\ H1 l = some (.lst (xs.eraseIdx i.toNat))) Q ⟨⟩ ⟨⟩
   | _ => False) := h
  split at h'
  ·rename_i xs hH
   obtain ⟨i0, i1, q⟩ := h'
   obtain ⟨z, its, n, r, hl, e⟩ := I.k6f hH
   have hs : sizeLine = 16777216 := sizeLine_eq
   have hx : xs[i.toNat]? = some (xs[i.toNat]'(by omega)) := List.getElem?_eq_getElem _
   refine k1n pins s σ H _ _ v us Q I rx rv ⟨l, xs, i, i.toNat, xs[i.toNat]'(by omega), rfl, rfl, hH, by omega, by omega, ?_, hx, q _ _ ⟨hx, a2i.upd, a3i⟩⟩
   unfold seqIndex?
   simp only
   rw [if_neg (show ¬ i < 0 by omega)]
   rw [if_pos (by rw [Bool.and_eq_true, decide_eq_true_eq, decide_eq_true_eq]; omega)]
  ·exact h'.elim
 | .ref l, [], h =>
  have h' : (match H l with
   | some (.lst xs) => 0 < xs.length /\ All (fun v H1 => xs[xs.length - 1]? = some v /\ a2i l H H1 /\ H1 l = some (.lst xs.dropLast)) Q ⟨⟩ ⟨⟩
   | _ => False) := h
  split at h'
  ·rename_i xs hH
   obtain ⟨i0, q⟩ := h'
   have hx : xs[xs.length - 1]? = some (xs[xs.length - 1]'(by omega)) := List.getElem?_eq_getElem _
   exact l1d pins s σ H _ _ v us Q I rx rv ⟨l, xs, _, rfl, rfl, hH, hx, q _ _ ⟨hx, a2i.upd, a3i⟩⟩
  ·exact h'.elim
end
end L2
namespace L2
open PySem PySem.Spec PyProof.Rows PySem.W
theorem h5n {K : PySem.W.Frag} {H : Hp} : ∀ ss : List Str, c8q K H (ss.map V.str) (kqdPs (ss.map Dat.str))
 | [] => .nil
 | n :: ns => .cons (.str n) (h5n ns)
theorem i4l {ns ms : List Str} : ns.map Dat.str = ms.map Dat.str ↔ ns = ms := by
 induction ns generalizing ms with
 | nil => cases ms <;> simp
 | cons n ns ih => cases ms <;> simp [ih]
theorem j0v {ss : List Str} (h : ∀ s ∈ ss, PyData.strOk s = true) : kqdOk 1 (.list (ss.map .str)) = true := by
 show (ss.map Dat.str).all (kqdOk 0) = true
 rw [List.all_eq_true]
 intro d hd
 obtain ⟨s, hs, rfl⟩ := List.mem_map.mp hd
 exact h s hs
theorem h5o {K : PySem.W.Frag} {H : Hp} {p : Addr} {ss : List Str} (h : SqL K H p (ss.map V.str)) : h4l K H (.ref p) (kqdP (.list (ss.map .str))) := by
 rw [kqdP]
 exact .lst h (h5n ss)
theorem c3s {K : PySem.W.Frag} {H : Hp} {p q : Addr} {ns ms : List Str} {Q : VK} (hp : SqL K H p (ns.map V.str)) (hq : SqL K H q (ms.map V.str)) (h1 : ∀ s ∈ ns, PyData.strOk s = true) (h2 : ∀ s ∈ ms, PyData.strOk s = true) (h : Q (.bl (!decide (ns = ms))) H) : l1l K (.ref p) (.ref q) H Q :=
 k4q (h5o hp) (h5o hq) (j0v h1) (j0v h2) (by decide) (by decide) (by rw [decide_eq_true_eq, Dat.list.injEq, i4l]) h
end L2
namespace L2
open PySem PySem.Spec PyProof.Rows
section
variable {X : Cx}
noncomputable def l7y : List V -> Hp -> VK -> Prop := fun xs H Q => match xs with
 | [.ref p] => (match H p with
  | some (.lst ys) => ∃ bs : List Bool, ys = bs.map V.bl /\ Q (.bl (bs.all id)) H
  | _ => False)
 | _ => False
theorem h5p : ∀ {bs : List Bool} {us : List Value}, Vals (bs.map V.bl) us -> us.length = bs.length /\ ∀ (i : Nat) v, us[i]? = some v -> ∃ b, bs[i]? = some b /\ v = .bool b
 | [], _, h => by cases h; exact ⟨rfl, fun i v e => by simp at e⟩
 | b :: bs, _, h => by
  cases h with
  | cons r t =>
   have ih := h5p t
   refine ⟨by simp [ih.1], fun i v e => ?_⟩
   cases i with
   | zero => simp at e; exact ⟨b, rfl, e.symm.trans r⟩
   | succ i => simp at e; exact ih.2 i v e
theorem j8j (hc : X.calm = true) : b6h X (.builtin "all") l7y := by
 intro pins s σ H xs us Q I r h
 match xs, r, h with
 | [.ref p], r, h =>
  have h' : (match H p with
   | some (.lst ys) => ∃ bs : List Bool, ys = bs.map V.bl /\ Q (.bl (bs.all id)) H
   | _ => False) := h
  split at h'
  ·rename_i ys e
   obtain ⟨bs, rfl, q⟩ := h'
   obtain ⟨u, rfl, ru⟩ := vals1 r
   cases (show u = Value.ref p from ru)
   obtain ⟨its, rv, ⟨o, n, e1, c1, d1, dd⟩, _⟩ := I.list (SqL.of e)
   obtain ⟨hbl, hb⟩ := h5p rv
   have hl : s.heap.IsList p its.toArray := ⟨o, e1, c1, n, dd⟩
   have hlt : p < s.heap.objs.size := Heap.lt_size e1
   refine call_all_walk (wpAny_pyIter_list hl ?_)
   refine ⟨s.heap.objs.size, [s.heap.objs.size, p], [s.heap.objs.size], its.toArray.size, _, _, fun i => (bs[i]?).getD true, rfl, Walks.list (A := X.A.in1) (I.ok.hd hc) _ p (Nat.ne_of_lt hlt) its.toArray,
    ⟨⟨_, Heap.get?_push_size _ rfl, rfl, rfl⟩, hl.push _⟩, fun i v s' Q' E' hP hQ => ?_, fun h' tk hk => ?_⟩
   ·obtain ⟨b, e, rfl⟩ := hb i v (by simpa using hP)
    simp only [e, Option.getD_some] at hQ
    exact wpAny_truthy_bool hQ
   ·have e : ((List.range its.toArray.size).all fun i => (bs[i]?).getD true) = bs.all id := by
     rw [List.size_toArray, hbl]; exact LSm.range_all bs
    rw [e]
    exact ⟨.bl _, H, I.kept (LSm.kept_iter hk), rfl, q⟩
  ·exact h'.elim
end
noncomputable def k7j (J : It) (tc : TT) (te : TE) (D : Addr) (σ : St) (H : Hp) (Q : VK) (_ : Tag Q) : Prop := ∃ (n : Nat) (W : Nat -> List V -> Hp -> Prop), W 0 [] H /\ ∀ i ys H, i <= n -> W i ys H -> H D = some (.lst ys) /\
 ((J.stop i H /\ Q (.ref D) H) \/ (i < n /\ J.go i H /\ ys.length < sizeLine /\ ∀ x H', J.yld i H x H' -> ∃ p u v, x = .ref p /\ H' p = some (.tup [u, v]) /\ tc (some u :: some v :: σ) H' fun b H1 =>
  if b = true then te (some u :: some v :: σ) H1 fun y H2 => H2 D = some (.lst ys) /\ ∀ H3, a2i D H2 H3 -> H3 D = some (.lst (ys ++ [y])) -> W (i + 1) (ys ++ [y]) H3
  else W (i + 1) ys H1))
noncomputable def l7z (wi : TI) (tc : TT) (te : TE) : TE := fun σ H Q => wi σ H fun J H1 => ∀ D H2, H1 D = none -> Same H1 H2 -> H2 D = some (.lst []) -> k7j J tc te D σ H2 Q ⟨⟩
section
variable {X : Cx} {scope : Scope} {x y : Str} {pins : List (Addr × Obj)} {σ : St} {elt iter cnd : Expr} {px py tpos pos : Pos} {kk : Nat} {wi : TI} {te : TE} {tc : TT}
end
end L2
namespace L2
open PySem PySem.Spec PyProof.Rows
theorem hu1 {n : Nat} (h : n + 64 < cLine) : n + 1 < cLine := by omega
noncomputable def kT (k : Str) : Key := .inr k
noncomputable def l3b (x y : V) (H : Hp) (Q : VK) : Prop := match x, y with
 | .ref a, .str k => (match H a with
  | some (.dK kvs) => ∃ v, f9r kvs (kT k) = some v /\ Q v H
  | _ => False)
 | _, _ => False
noncomputable def l3c (neg : Bool) (x y : V) (H : Hp) (Q : VK) : Prop := match x, y with
 | .ref a, .str k => (match H a with
  | some (.dK kvs) => Q (.bl ((f9r kvs (kT k)).isSome != neg)) H
  | _ => False)
 | _, _ => False
theorem k2k {x y : V} {H : Hp} {Q : VK} (h : l3b x y H Q) : ∃ a k kvs v, x = .ref a /\ y = .str k /\ H a = some (.dK kvs) /\ f9r kvs (kT k) = some v /\ Q v H := by
 match x, y, h with
 | .ref a, .str k, h =>
  have h' : (match H a with
   | some (.dK kvs) => ∃ v, f9r kvs (kT k) = some v /\ Q v H
   | _ => False) := h
  split at h'
  ·rename_i kvs e
   obtain ⟨v, e1, q⟩ := h'
   exact ⟨a, k, kvs, v, rfl, rfl, e, e1, q⟩
  ·exact h'.elim
theorem k2l {x y : V} {H : Hp} {Q : VK} {neg : Bool} (h : l3c neg x y H Q) : ∃ a k kvs, x = .ref a /\ y = .str k /\ H a = some (.dK kvs) /\ Q (.bl ((f9r kvs (kT k)).isSome != neg)) H := by
 match x, y, h with
 | .ref a, .str k, h =>
  have h' : (match H a with
   | some (.dK kvs) => Q (.bl ((f9r kvs (kT k)).isSome != neg)) H
   | _ => False) := h
  split at h'
  ·rename_i kvs e
   exact ⟨a, k, kvs, rfl, rfl, e, h'⟩
  ·exact h'.elim
noncomputable def l3d (td ty : TE) : TE := fun σ H Q => td σ H fun x H1 => ty σ H1 fun y H2 => l3b x y H2 Q
noncomputable def k2m (ty td : TE) : TE := fun σ H Q => ty σ H fun y H1 => td σ H1 fun x H2 => l3c true x y H2 Q
noncomputable def l3e (x y v : V) (H : Hp) (Q : Hp -> Prop) : Prop := match x, y with
 | .ref a, .str k => (match H a with
  | some (.dK kvs) => kvs.length < sizeLine /\ ∀ H1, a2i a H H1 -> H1 a = some (.dK (putK kvs (kT k) v)) -> Q H1
  | _ => False)
 | _, _ => False
theorem k2n {x y v : V} {H : Hp} {Q : Hp -> Prop} (h : l3e x y v H Q) : ∃ a k kvs, x = .ref a /\ y = .str k /\ H a = some (.dK kvs) /\ kvs.length < sizeLine /\ ∀ H1, a2i a H H1 -> H1 a = some (.dK (putK kvs (kT k) v)) -> Q H1 := by
 match x, y, h with
 | .ref a, .str k, h =>
  have h' : (match H a with
   | some (.dK kvs) => kvs.length < sizeLine /\ ∀ H1, a2i a H H1 -> H1 a = some (.dK (putK kvs (kT k) v)) -> Q H1
   | _ => False) := h
  split at h'
  ·rename_i kvs e
   exact ⟨a, k, kvs, rfl, rfl, e, h'⟩
  ·exact h'.elim
noncomputable def l3f (td ty tv : TE) : TS := fun D σ H => tv σ H fun v H1 => td σ H1 fun x H2 => ty σ H2 fun y H3 => l3e x y v H3 (D.nx σ)
noncomputable def l3g (tk tv : TE) : TE := fun σ H Q => ∀ p H1, H p = none -> Same H H1 -> H1 p = some (.dK []) -> tk σ H1 fun x H2 => tv σ H2 fun y H3 => ∃ k, x = .str k /\ H3 p = some (.dK []) /\ ∀ H4, a2i p H3 H4 -> H4 p = some (.dK [(kT k, y)]) -> Q (.ref p) H4
section
variable {X : Cx} {o i e value : Expr} {pos pos' tpos : Pos} {td ty tv tk : TE}
theorem j0w (hu : X.A.units + 1 < cLine) (ho : PE X o td) (hi : PE X i ty) (hs : l9j i) : PE X (.Subscript o i pos) (l3d td ty) := by
 intro pins s σ H Q I h
 refine k6h PySem.F.slot_dict_getitem.lookup hs (thn (ho pins s σ H _ I h) fun u s1 ⟨x, H1, I1, rx, q1⟩ => thn (hi pins s1 σ H1 _ I1 q1) fun iv s2 ⟨y, H2, I2, ry, q⟩ => ?_)
 obtain ⟨a, k, kvs, v, ex, ey, e, ev, q2⟩ := k2k q
 subst ex ey
 obtain rfl : u = Value.ref a := rx
 have g : j7k H2 a (kV (kT k)) (some v) := ev ▸ j7k.k e
 exact ⟨i3x I2 g, j7l hu I2 g ry fun w' s3 I3 rw' => ⟨v, H2, I3, rw', q2⟩⟩
theorem j2e (hu : X.A.units + 1 < cLine) (hi : PE X i ty) (ho : PE X o td) : PC X .NotIn i o (k2m ty td) := by
 intro pins s σ H Q I h
 refine thn (hi pins s σ H _ I h) fun iv s1 ⟨y, H1, I1, ry, q1⟩ => thn (ho pins s1 σ H1 _ I1 q1) fun u s2 ⟨x, H2, I2, rx, q⟩ => ?_
 obtain ⟨a, k, kvs, ex, ey, e, q2⟩ := k2l q
 subst ex ey
 obtain rfl : u = Value.ref a := rx
 have g : j7k H2 a (kV (kT k)) (f9r kvs (kT k)) := j7k.k e
 rw [Bool.bne_true] at q2
 exact k6g hu I2 g ry fun s3 I3 => ⟨.bl (!(f9r kvs (kT k)).isSome), H2, I3, rfl, q2⟩
theorem k7k {op : CmpOp} {a b : Expr} {t : TE} (h : PC X op a b t) (h1 : behindInMarks op b = false) : PT X (.Compare a [op] [b] pos) (tBF t) := by
 intro pins s σ H Q I h2
 refine (l0e h h1) pins s σ H _ I ?_
 unfold tB
 unfold tBF at h2
 exact cast (congrArg (t σ H) (funext fun x => funext fun H1 => propext ⟨fun z => l7a z, fun ⟨k, e, q⟩ => by subst e; exact q⟩)) h2
theorem k2o (hu : X.A.units + 1 < cLine) (ho : PE X o td) (hi : PE X i ty) (hv : PE X value tv) (hs : swapsWith value (some (.Subscript o i pos')) pos.line X.env = pure false) :
  PS X (.Assign [.Subscript o i pos'] value pos) (l3f td ty tv) := by
 intro pins s σ H D I h
 refine wpAny_Assign_Subscript (thn (hv pins s σ H _ I h) fun r s1 ⟨v, H1, I1, rv, q1⟩ => thn (ho pins s1 σ H1 _ I1 q1) fun u s2 ⟨x, H2, I2, rx, q2⟩ => thn (hi pins s2 σ H2 _ I2 q2) fun iv s3 ⟨y, H3, I3, ry, q⟩ => ?_) hs
 obtain ⟨a, k, kvs, ex, ey, e, hl, q3⟩ := k2n q
 subst ex ey
 obtain rfl : u = Value.ref a := rx
 exact j7m hu I3 (k9p.k (k := kT k) e hl) ry rv fun s4 I4 => ⟨σ, _, I4, q3 _ a2i.upd a3i⟩
theorem k2p (hk : PE X i tk) (hv : PE X value tv) : PE X (.Dict [some i] [value] pos) (l3g tk tv) := by
 intro pins s σ H Q I q
 have hn := I.hok.fresh (Nat.le_refl s.heap.objs.size)
 have I1 := I.laid (a := s.heap.objs.size) (o := .dK []) (h' := s.heap.push { cls := .type "dict", data := .dict #[] }) (t' := s.toks) (fun _ _ q => Heap.get?_push_of_some _ q) (Nat.le_refl _) (k1s s.heap I.big)
 have h : PPs X pos [some i] [value] [(tk, tv)] := k1t hk hv k6i
 refine wpAny_Dict_walk (knd := b0o X.prog X.w) rfl rfl (by simp) (by simp) (thn (h pins _ σ _ (fun ps H3 => match ps with
  | [(x, y)] => ∃ k, x = .str k /\ H3 s.heap.objs.size = some (.dK []) /\ ∀ H4, a2i s.heap.objs.size H3 H4 -> H4 s.heap.objs.size = some (.dK [(kT k, y)]) -> Q (.ref s.heap.objs.size) H4
  | _ => False) I1 (q s.heap.objs.size _ hn (Same.upd hn) a3i)) fun ws s2 ⟨ps, H2, I2, rel, qp⟩ => ?_)
 match ps, rel, qp with
 | [(x, y)], rel, ⟨k, ex, e, q2⟩ =>
  subst ex
  obtain ⟨rs, c, rk⟩ := g8d (P := X.prog) (w := X.w) (kvs := [(kT k, y)]) rel
  obtain ⟨z, hd, vs0, r0, dd⟩ := l1j I2.hok e
  cases r0
  refine ⟨rs, c, dd, fun h' dd' hs => ⟨.ref s.heap.objs.size, _, ?_, rfl, q2 _ a2i.upd a3i⟩⟩
  have hz : (j0l [] [(kT k, y)]).length <= sizeLine := by
   have h1 := f0r [(kT k, y)] []
   rw [List.length_nil, List.length_singleton] at h1
   rw [sizeLine_eq]; omega
  have he : ∃ q, h'.get? s.heap.objs.size = some q := let ⟨q, _, _, hq, _⟩ := dd'; ⟨q, hq⟩
  exact i3w I2 (by rw [e]; exact True.intro) hs he (k4g hz hd (rk.merge .nil) dd')
end
noncomputable def rSlR : V -> Option Int -> Option Int -> Option Int -> Hp -> VK -> Prop := fun x l u t H Q => match x with
 | .ref a => (match H a with
  | some (.lst xs) => l = none /\ u = none /\ t = some (-1) /\ New H (.lst xs.reverse) Q ⟨⟩
  | _ => False)
 | _ => False
noncomputable def tSl3R (te : TE) (tl th ts : TO) : TE := fun σ H Q => te σ H fun x H1 => tl σ H1 fun l H2 => th σ H2 fun u H3 => ts σ H3 fun st H4 => rSlR x l u st H4 Q
end L2
namespace L2
open PySem PySem.Spec PyProof.Rows PySem.W
mutual
inductive Rp (H : Hp) (N : Addr -> Prop) : V -> Dat -> Prop
 | str (s : Str) : Rp H N (.str s) (.str s)
 | int (n : Int) : Rp H N (.int n) (.int n)
 | lst {p : Addr} {vs : List V} {ds : List Dat} : N p -> H p = some (.lst vs) -> RpL H N vs ds -> Rp H N (.ref p) (.list ds)
 | tup {p : Addr} {vs : List V} {ds : List Dat} : H p = some (.tup vs) -> RpL H N vs ds -> Rp H N (.ref p) (.tuple ds)
inductive RpL (H : Hp) (N : Addr -> Prop) : List V -> List Dat -> Prop
 | nil : RpL H N [] []
 | cons {v : V} {vs : List V} {d : Dat} {ds : List Dat} : Rp H N v d -> RpL H N vs ds -> RpL H N (v :: vs) (d :: ds)
end
theorem j8k {X : Cx} {K : PySem.W.Frag} {tg l : Expr} {tl : TE} (hK : X.K = K) (hl : PE X l tl) : PI X tg l (j7s K tl) := hK ▸ a3o hl
noncomputable def a4q (N : Addr -> Prop) (H H' : Hp) : Prop := ∀ z u, (N z -> ∀ ys, u ≠ .lst ys) -> H z = some u -> H' z = some u
section
variable {H H' : Hp} {N M : Addr -> Prop}
mutual
theorem Rp.go (h1 : ∀ z vs, N z -> H z = some (.lst vs) -> H' z = some (.lst vs) /\ M z) (h2 : ∀ z vs, H z = some (.tup vs) -> H' z = some (.tup vs)) : ∀ {v : V} {d : Dat}, Rp H N v d -> Rp H' M v d
 | _, _, .str s => .str s
 | _, _, .int n => .int n
 | _, _, .lst n h r => .lst (h1 _ _ n h).2 (h1 _ _ n h).1 (RpL.go h1 h2 r)
 | _, _, .tup h r => .tup (h2 _ _ h) (RpL.go h1 h2 r)
theorem RpL.go (h1 : ∀ z vs, N z -> H z = some (.lst vs) -> H' z = some (.lst vs) /\ M z) (h2 : ∀ z vs, H z = some (.tup vs) -> H' z = some (.tup vs)) : ∀ {vs : List V} {ds : List Dat}, RpL H N vs ds -> RpL H' M vs ds
 | _, _, .nil => .nil
 | _, _, .cons h r => .cons (Rp.go h1 h2 h) (RpL.go h1 h2 r)
end
mutual
theorem Rp.deep {K : PySem.W.Frag} : ∀ {v : V} {d : Dat}, Rp H N v d -> h4l K H v (kqdP d)
 | _, _, .str s => by rw [kqdP]; exact .str s
 | _, _, .int n => by rw [kqdP]; exact .int n
 | _, _, .lst n h r => by rw [kqdP]; exact .lst (SqL.of h) (RpL.deep r)
 | _, _, .tup h r => by rw [kqdP]; exact .tup (SqT.of h) (RpL.deep r)
theorem RpL.deep {K : PySem.W.Frag} : ∀ {vs : List V} {ds : List Dat}, RpL H N vs ds -> c8q K H vs (kqdPs ds)
 | _, _, .nil => .nil
 | _, _, .cons h r => .cons (Rp.deep h) (RpL.deep r)
end
theorem live {z : Addr} {u : HO} (e : H z = some u) : H z ≠ none := fun q => by rw [q] at e; cases e
theorem Rp.same {v : V} {d : Dat} (h : Rp H N v d) (S : Same H H') : Rp H' N v d := h.go (fun _ _ n e => ⟨S _ _ e, n⟩) fun _ _ e => S _ _ e
theorem RpL.same {vs : List V} {ds : List Dat} (h : RpL H N vs ds) (S : Same H H') : RpL H' N vs ds := h.go (fun _ _ n e => ⟨S _ _ e, n⟩) fun _ _ e => S _ _ e
theorem Rp.mono {v : V} {d : Dat} (h : Rp H N v d) (hm : ∀ z, N z -> H z ≠ none -> M z) : Rp H M v d := h.go (fun z _ n e => ⟨e, hm z n (live e)⟩) fun _ _ e => e
theorem RpL.mono {vs : List V} {ds : List Dat} (h : RpL H N vs ds) (hm : ∀ z, N z -> H z ≠ none -> M z) : RpL H M vs ds := h.go (fun z _ n e => ⟨e, hm z n (live e)⟩) fun _ _ e => e
theorem RpL.put {D : Addr} {ys : List V} {vs : List V} {ds : List Dat} (h : RpL H N vs ds) (hD : H D = some (.lst ys)) (nD : ¬ N D) (B : a2i D H H') : RpL H' N vs ds :=
 h.go (fun z _ n e => ⟨B _ _ (fun q => nD (by rw [<- q]; exact n)) e, n⟩) fun z _ e => B _ _ (fun q => by rw [q, hD] at e; cases e) e
theorem Rp.put {D : Addr} {ys : List V} {v : V} {d : Dat} (h : Rp H N v d) (hD : H D = some (.lst ys)) (nD : ¬ N D) (B : a2i D H H') : Rp H' N v d :=
 h.go (fun z _ n e => ⟨B _ _ (fun q => nD (by rw [<- q]; exact n)) e, n⟩) fun z _ e => B _ _ (fun q => by rw [q, hD] at e; cases e) e
theorem Rp.over {v : V} {d : Dat} (h : Rp H N v d) (S : a4q M H H') (hd : ∀ z, N z -> H z ≠ none -> ¬ M z) : Rp H' N v d :=
 h.go (fun z _ n e => ⟨S _ _ (fun m => absurd m (hd z n (live e))) e, n⟩) fun z _ e => S _ _ (fun _ ys q => by cases q) e
theorem RpL.over {vs : List V} {ds : List Dat} (h : RpL H N vs ds) (S : a4q M H H') (hd : ∀ z, N z -> H z ≠ none -> ¬ M z) : RpL H' N vs ds :=
 h.go (fun z _ n e => ⟨S _ _ (fun m => absurd m (hd z n (live e))) e, n⟩) fun z _ e => S _ _ (fun _ ys q => by cases q) e
theorem RpL.len : ∀ {vs : List V} {ds : List Dat}, RpL H N vs ds -> vs.length = ds.length
 | _, _, .nil => rfl
 | _, _, .cons _ r => by rw [List.length_cons, List.length_cons, RpL.len r]
theorem RpL.at : ∀ {vs : List V} {ds : List Dat} {i : Nat} {d : Dat}, RpL H N vs ds -> ds[i]? = some d -> ∃ v, vs[i]? = some v /\ Rp H N v d
 | _, _, _, _, .nil, h => by simp at h
 | _, _, 0, _, .cons h r, e => by cases e; exact ⟨_, rfl, h⟩
 | _, _, i + 1, _, .cons h r, e => by
  rw [List.getElem?_cons_succ] at e
  obtain ⟨v, e1, e2⟩ := RpL.at r e
  exact ⟨v, by rw [List.getElem?_cons_succ]; exact e1, e2⟩
theorem RpL.get : ∀ {vs : List V} {ds : List Dat} {i : Nat} {v : V}, RpL H N vs ds -> vs[i]? = some v -> ∃ d, ds[i]? = some d /\ Rp H N v d
 | _, _, _, _, .nil, h => by simp at h
 | _, _, 0, _, .cons h r, e => by cases e; exact ⟨_, rfl, h⟩
 | _, _, i + 1, _, .cons h r, e => by
  rw [List.getElem?_cons_succ] at e
  obtain ⟨v, e1, e2⟩ := RpL.get r e
  exact ⟨v, by rw [List.getElem?_cons_succ]; exact e1, e2⟩
theorem RpL.snoc : ∀ {vs : List V} {ds : List Dat} {v : V} {d : Dat}, RpL H N vs ds -> Rp H N v d -> RpL H N (vs ++ [v]) (ds ++ [d])
 | _, _, _, _, .nil, h => .cons h .nil
 | _, _, _, _, .cons h r, e => .cons h (RpL.snoc r e)
theorem RpL.strs : ∀ ss : List Str, RpL H N (ss.map V.str) (ss.map Dat.str)
 | [] => .nil
 | s :: ss => .cons (.str s) (RpL.strs ss)
theorem RpL.j8l : ∀ {ss : List Str} {vs : List V}, RpL H N vs (ss.map Dat.str) -> vs = ss.map V.str
 | [], _, .nil => rfl
 | s :: ss, _, .cons (.str _) r => by rw [RpL.j8l r]; rfl
theorem Rp.list {v : V} {ds : List Dat} (h : Rp H N v (.list ds)) : ∃ p vs, v = .ref p /\ N p /\ H p = some (.lst vs) /\ RpL H N vs ds := by
 cases h with
 | lst n e r => exact ⟨_, _, rfl, n, e, r⟩
theorem Rp.tuple {v : V} {ds : List Dat} (h : Rp H N v (.tuple ds)) : ∃ p vs, v = .ref p /\ H p = some (.tup vs) /\ RpL H N vs ds := by
 cases h with
 | tup e r => exact ⟨_, _, rfl, e, r⟩
theorem RpL.two {vs : List V} {a b : Dat} (h : RpL H N vs [a, b]) : ∃ x y, vs = [x, y] /\ Rp H N x a /\ Rp H N y b := by
 cases h with
 | cons h1 r => cases r with
  | cons h2 r => cases r; exact ⟨_, _, rfl, h1, h2⟩
theorem RpL.three {vs : List V} {a b c : Dat} (h : RpL H N vs [a, b, c]) : ∃ x y z, vs = [x, y, z] /\ Rp H N x a /\ Rp H N y b /\ Rp H N z c := by
 cases h with
 | cons h1 r =>
  obtain ⟨y, z, rfl, h2, h3⟩ := r.two
  exact ⟨_, y, z, rfl, h1, h2, h3⟩
theorem RpL.four {vs : List V} {a b c d : Dat} (h : RpL H N vs [a, b, c, d]) : ∃ x y z u, vs = [x, y, z, u] /\ Rp H N x a /\ Rp H N y b /\ Rp H N z c /\ Rp H N u d := by
 cases h with
 | cons h1 r =>
  obtain ⟨y, z, u, rfl, h2, h3, h4⟩ := r.three
  exact ⟨_, y, z, u, rfl, h1, h2, h3, h4⟩
theorem Rp.strOf {v : V} {s : Str} (h : Rp H N v (.str s)) : v = .str s := by cases h; rfl
theorem Rp.intOf {v : V} {n : Int} (h : Rp H N v (.int n)) : v = .int n := by cases h; rfl
theorem Rp.eq {K : PySem.W.Frag} {x y : V} {d : Dat} {n : Nat} {Q : VK} (hx : Rp H N x d) (hy : Rp H M y d) (k : kqdOk n d = true) (hn : n <= 64) (q : Q (.bl true) H) : l5g K x y H Q := l1w (c := true) hx.deep hy.deep k k hn hn ⟨fun _ => rfl, fun _ => rfl⟩ q
theorem Rp.ne {K : PySem.W.Frag} {x y : V} {d : Dat} {n : Nat} {Q : VK} (hx : Rp H N x d) (hy : Rp H M y d) (k : kqdOk n d = true) (hn : n <= 64) (q : Q (.bl false) H) : l1l K x y H Q := k4q (c := true) hx.deep hy.deep k k hn hn ⟨fun _ => rfl, fun _ => rfl⟩ q
theorem a4q.of (S : Same H H') : a4q N H H' := fun z u _ e => S _ _ e
theorem a4q.trans {H2 : Hp} (S : a4q N H H') (S2 : a4q N H' H2) : a4q N H H2 := fun z u n e => S2 _ _ n (S _ _ n e)
theorem a4q.one {D : Addr} {ys : List V} (hD : H D = some (.lst ys)) (n : N D) (B : a2i D H H') : a4q N H H' := fun z u h e => B _ _ (fun q => by
 rw [q] at h e
 rw [hD] at e
 cases e
 exact h n _ rfl) e
theorem a4q.mono (S : a4q N H H') (hm : ∀ z, N z -> M z) : a4q M H H' := fun z u h e => S _ _ (fun n => h (hm z n)) e
end
noncomputable abbrev Sd := Str × Str × List Str
structure Pd where
 ts : List Str
 bs : List Str
 es : List Sd
 os : List (Str × Int)
noncomputable def prs (es : List Sd) : List (Str × Str) := es.map fun e => (e.1, e.2.1)
noncomputable def g0o (ss : List Str) : Dat := .list (ss.map .str)
noncomputable def dSd (e : Sd) : Dat := .tuple [.str e.1, .str e.2.1, g0o e.2.2]
noncomputable def dOu (x : Str × Int) : Dat := .tuple [.str x.1, .int x.2]
noncomputable def dPd (p : Pd) : Dat := .list [g0o p.ts, g0o p.bs, .list (p.es.map dSd), .list (p.os.map dOu)]
noncomputable def Nw (N : Addr -> Prop) (t b sd ou : Addr) : Addr -> Prop := fun a => N a /\ a ≠ t /\ a ≠ b /\ a ≠ sd /\ a ≠ ou
structure Fl (H : Hp) (N : Addr -> Prop) (t b sd ou : Addr) (p : Pd) : Prop where
 n : N t /\ N b /\ N sd /\ N ou
 d : t ≠ b /\ t ≠ sd /\ t ≠ ou /\ b ≠ sd /\ b ≠ ou /\ sd ≠ ou
 ht : H t = some (.lst (p.ts.map V.str))
 hb : H b = some (.lst (p.bs.map V.str))
 hs : ∃ us, H sd = some (.lst us) /\ RpL H (Nw N t b sd ou) us (p.es.map dSd)
 ho : ∃ us, H ou = some (.lst us) /\ RpL H (Nw N t b sd ou) us (p.os.map dOu)
section
variable {H H' : Hp} {N M : Addr -> Prop} {t b sd ou : Addr} {p : Pd}
theorem Fl.over (h : Fl H N t b sd ou p) (S : a4q M H H') (hd : ∀ z, N z -> H z ≠ none -> ¬ M z) : Fl H' N t b sd ou p := by
 obtain ⟨n, d, ht, hb, ⟨us, hs, R1⟩, vs, ho, R2⟩ := h
 have k : ∀ {z : Addr} {ys : List V}, N z -> H z = some (.lst ys) -> H' z = some (.lst ys) := fun n e => S _ _ (fun m => absurd m (hd _ n (live e))) e
 exact ⟨n, d, k n.1 ht, k n.2.1 hb, ⟨us, k n.2.2.1 hs, R1.over S fun z hz => hd z hz.1⟩, vs, k n.2.2.2 ho, R2.over S fun z hz => hd z hz.1⟩
theorem Fl.same (h : Fl H N t b sd ou p) (S : Same H H') : Fl H' N t b sd ou p := h.over (M := fun _ => False) (a4q.of S) fun _ _ _ h => h
theorem Fl.mono (h : Fl H N t b sd ou p) (hm : ∀ z, N z -> H z ≠ none -> M z) : Fl H M t b sd ou p := by
 obtain ⟨n, d, ht, hb, ⟨us, hs, R1⟩, vs, ho, R2⟩ := h
 have k : ∀ {z : Addr} {ys : List V}, N z -> H z = some (.lst ys) -> M z := fun n e => hm _ n (live e)
 exact ⟨⟨k n.1 ht, k n.2.1 hb, k n.2.2.1 hs, k n.2.2.2 ho⟩, d, ht, hb, ⟨us, hs, R1.mono fun z hz e => ⟨hm z hz.1 e, hz.2⟩⟩, vs, ho, R2.mono fun z hz e => ⟨hm z hz.1 e, hz.2⟩⟩
theorem Fl.m0g {x : Str} (h : Fl H N t b sd ou p) (h' : H' t = some (.lst (p.ts.map V.str ++ [.str x]))) (B : a2i t H H') : Fl H' N t b sd ou ⟨p.ts ++ [x], p.bs, p.es, p.os⟩ := by
 obtain ⟨n, d, ht, hb, ⟨us, hs, R1⟩, vs, ho, R2⟩ := h
 exact ⟨n, d, by rw [h', List.map_append]; rfl, B _ _ d.1.symm hb, ⟨us, B _ _ d.2.1.symm hs, R1.put ht (fun z => z.2.1 rfl) B⟩, vs, B _ _ d.2.2.1.symm ho, R2.put ht (fun z => z.2.1 rfl) B⟩
theorem Fl.m0h {x : Str} (h : Fl H N t b sd ou p) (h' : H' b = some (.lst (p.bs.map V.str ++ [.str x]))) (B : a2i b H H') : Fl H' N t b sd ou ⟨p.ts, p.bs ++ [x], p.es, p.os⟩ := by
 obtain ⟨n, d, ht, hb, ⟨us, hs, R1⟩, vs, ho, R2⟩ := h
 exact ⟨n, d, B _ _ d.1 ht, by rw [h', List.map_append]; rfl, ⟨us, B _ _ d.2.2.2.1.symm hs, R1.put hb (fun z => z.2.2.1 rfl) B⟩, vs, B _ _ d.2.2.2.2.1.symm ho, R2.put hb (fun z => z.2.2.1 rfl) B⟩
theorem Fl.m0i {e : Sd} {us : List V} {v : V} (h : Fl H N t b sd ou p) (hsd : H sd = some (.lst us)) (r : Rp H (Nw N t b sd ou) v (dSd e)) (h' : H' sd = some (.lst (us ++ [v]))) (B : a2i sd H H') : Fl H' N t b sd ou ⟨p.ts, p.bs, p.es ++ [e], p.os⟩ := by
 obtain ⟨n, d, ht, hb, ⟨us', hs, R1⟩, vs, ho, R2⟩ := h
 rw [hsd] at hs
 cases hs
 refine ⟨n, d, B _ _ d.2.1 ht, B _ _ d.2.2.2.1 hb, ⟨_, h', ?_⟩, vs, B _ _ d.2.2.2.2.2.symm ho, R2.put hsd (fun z => z.2.2.2.1 rfl) B⟩
 rw [List.map_append]
 exact (R1.snoc r).put hsd (fun z => z.2.2.2.1 rfl) B
theorem Fl.m0j {x : Str × Int} {us : List V} {v : V} (h : Fl H N t b sd ou p) (hou : H ou = some (.lst us)) (r : Rp H (Nw N t b sd ou) v (dOu x)) (h' : H' ou = some (.lst (us ++ [v]))) (B : a2i ou H H') : Fl H' N t b sd ou ⟨p.ts, p.bs, p.es, p.os ++ [x]⟩ := by
 obtain ⟨n, d, ht, hb, ⟨vs, hs, R1⟩, us', ho, R2⟩ := h
 rw [hou] at ho
 cases ho
 refine ⟨n, d, B _ _ d.2.2.1 ht, B _ _ d.2.2.2.2.1 hb, ⟨vs, B _ _ d.2.2.2.2.2 hs, R1.put hou (fun z => z.2.2.2.2 rfl) B⟩, _, h', ?_⟩
 rw [List.map_append]
 exact (R2.snoc r).put hou (fun z => z.2.2.2.2 rfl) B
end
noncomputable def Qd (H : Hp) (N : Addr -> Prop) (L : Addr) (p : Pd) : Prop := ∃ t b sd ou, H L = some (.lst [.ref t, .ref b, .ref sd, .ref ou]) /\ N L /\ Fl H (fun a => N a /\ a ≠ L) t b sd ou p
section
variable {H H' : Hp} {N M : Addr -> Prop} {L : Addr} {p : Pd}
theorem Qd.over (h : Qd H N L p) (S : a4q M H H') (hd : ∀ z, N z -> H z ≠ none -> ¬ M z) : Qd H' N L p := by
 obtain ⟨t, b, sd, ou, hL, n, F⟩ := h
 exact ⟨t, b, sd, ou, S _ _ (fun m => absurd m (hd _ n (live hL))) hL, n, F.over S fun z hz => hd z hz.1⟩
theorem Qd.same (h : Qd H N L p) (S : Same H H') : Qd H' N L p := h.over (M := fun _ => False) (a4q.of S) fun _ _ _ h => h
theorem Qd.mono (h : Qd H N L p) (hm : ∀ z, N z -> H z ≠ none -> M z) : Qd H M L p := by
 obtain ⟨t, b, sd, ou, hL, n, F⟩ := h
 exact ⟨t, b, sd, ou, hL, hm _ n (live hL), F.mono fun z hz e => ⟨hm z hz.1 e, hz.2⟩⟩
theorem Qd.rp (h : Qd H N L p) : Rp H N (.ref L) (dPd p) := by
 obtain ⟨t, b, sd, ou, hL, n, F⟩ := h
 obtain ⟨⟨n1, n2, n3, n4⟩, d, ht, hb, ⟨us, hs, R1⟩, vs, ho, R2⟩ := F
 exact .lst n hL (.cons (.lst n1.1 ht (RpL.strs _)) (.cons (.lst n2.1 hb (RpL.strs _)) (.cons (.lst n3.1 hs (R1.mono fun z hz _ => hz.1.1)) (.cons (.lst n4.1 ho (R2.mono fun z hz _ => hz.1.1)) .nil))))
end
theorem RpL.at3 {H : Hp} {N : Addr -> Prop} {us : List V} {es : List Sd} {i : Nat} {v : V} (h : RpL H N us (es.map dSd)) (hv : us[i]? = some v) : ∃ e p lw, es[i]? = some e /\ v = .ref p /\ H p = some (.tup [.str e.1, .str e.2.1, .ref lw]) /\ N lw /\ H lw = some (.lst (e.2.2.map V.str)) := by
 obtain ⟨d, hd, r⟩ := h.get hv
 rw [List.getElem?_map] at hd
 obtain ⟨e, he, rfl⟩ := Option.map_eq_some_iff.mp hd
 obtain ⟨p, vs, rfl, hp, r2⟩ := r.tuple
 obtain ⟨x, y, z, rfl, h1, h2, h3⟩ := r2.three
 cases h1.strOf
 cases h2.strOf
 obtain ⟨lw, ws, rfl, n, hw, r3⟩ := h3.list
 cases r3.j8l
 exact ⟨e, p, lw, he, rfl, hp, n, hw⟩
theorem RpL.at2 {H : Hp} {N : Addr -> Prop} {us : List V} {os : List (Str × Int)} {i : Nat} {v : V} (h : RpL H N us (os.map dOu)) (hv : us[i]? = some v) : ∃ x p, os[i]? = some x /\ v = .ref p /\ H p = some (.tup [.str x.1, .int x.2]) := by
 obtain ⟨d, hd, r⟩ := h.get hv
 rw [List.getElem?_map] at hd
 obtain ⟨e, he, rfl⟩ := Option.map_eq_some_iff.mp hd
 obtain ⟨p, vs, rfl, hp, r2⟩ := r.tuple
 obtain ⟨x, y, rfl, h1, h2⟩ := r2.two
 cases h1.strOf
 cases h2.intOf
 exact ⟨e, p, he, rfl, hp⟩
theorem RpL.j6g {H : Hp} {N : Addr -> Prop} {us : List V} {α : Type} {es : List α} {f : α -> Dat} (h : RpL H N us (es.map f)) : us.length = es.length := by rw [h.len, List.length_map]
theorem g0p {H : Hp} {N M : Addr -> Prop} : ∀ {os : List (Str × Int)} {us : List V}, RpL H N us (os.map dOu) -> RpL H M us (os.map dOu)
 | [], _, .nil => .nil
 | x :: os, _, .cons h r => by
  refine .cons ?_ (g0p r)
  obtain ⟨p, vs, rfl, hp, r2⟩ := h.tuple
  obtain ⟨a, b, rfl, h1, h2⟩ := r2.two
  cases h1.strOf
  cases h2.intOf
  exact .tup hp (.cons (.str _) (.cons (.int _) .nil))
structure l5l (p : Pd) : Prop where
 t : ∀ s ∈ p.ts, PyData.strOk s = true
 b : ∀ s ∈ p.bs, PyData.strOk s = true
 s : ∀ e ∈ p.es, PyData.strOk e.1 = true /\ PyData.strOk e.2.1 = true /\ ∀ x ∈ e.2.2, PyData.strOk x = true
 o : ∀ x ∈ p.os, PyData.strOk x.1 = true
theorem g9m {n : Nat} {ss : List Str} (h : ∀ s ∈ ss, PyData.strOk s = true) : kqdOk (n + 1) (g0o ss) = true := by
 show (ss.map Dat.str).all (kqdOk n) = true
 rw [List.all_eq_true]
 intro d hd
 obtain ⟨s, hs, rfl⟩ := List.mem_map.mp hd
 cases n <;> exact h s hs
theorem l3h {n : Nat} {es : List Sd} (h : ∀ e ∈ es, PyData.strOk e.1 = true /\ PyData.strOk e.2.1 = true /\ ∀ x ∈ e.2.2, PyData.strOk x = true) : kqdOk (n + 3) (.list (es.map dSd)) = true := by
 show (es.map dSd).all (kqdOk (n + 2)) = true
 rw [List.all_eq_true]
 intro d hd
 obtain ⟨e, he, rfl⟩ := List.mem_map.mp hd
 show (PyData.strOk e.1 && (PyData.strOk e.2.1 && (kqdOk (n + 1) (g0o e.2.2) && true))) = true
 rw [(h e he).1, (h e he).2.1, g9m (h e he).2.2]
 rfl
theorem l3i {n : Nat} {os : List (Str × Int)} (h : ∀ x ∈ os, PyData.strOk x.1 = true) : kqdOk (n + 3) (.list (os.map dOu)) = true := by
 show (os.map dOu).all (kqdOk (n + 2)) = true
 rw [List.all_eq_true]
 intro d hd
 obtain ⟨e, he, rfl⟩ := List.mem_map.mp hd
 show (PyData.strOk e.1 && (true && true)) = true
 rw [h e he]
 rfl
theorem l5l.k {p : Pd} (h : l5l p) : kqdOk 4 (dPd p) = true := by
 show (kqdOk 3 (g0o p.ts) && (kqdOk 3 (g0o p.bs) && (kqdOk 3 (.list (p.es.map dSd)) && (kqdOk 3 (.list (p.os.map dOu)) && true)))) = true
 rw [g9m h.t, g9m h.b, l3h h.s, l3i h.o]
 rfl
end L2
set_option maxHeartbeats 4000000
namespace My
open PySem PySem.Spec PyProof.Rows L2
open PySem.Builtin.Int (intBits)
theorem k9u {P : Int -> Prop} {vs : List V} (h : match vs with | [.int x0] => P x0 | _ => False) : ∃ x0, vs = [.int x0] /\ P x0 := by
 match vs, h with
 | [.int x0], h => exact ⟨x0, rfl, h⟩
theorem h5q {P : Int -> Int -> Prop} {vs : List V} (h : match vs with | [.int x0, .int x1] => P x0 x1 | _ => False) : ∃ x0 x1, vs = [.int x0, .int x1] /\ P x0 x1 := by
 match vs, h with
 | [.int x0, .int x1], h => exact ⟨x0, x1, rfl, h⟩
theorem b3h {P : Addr -> Prop} {vs : List V} (h : match vs with | [.ref x0] => P x0 | _ => False) : ∃ x0, vs = [.ref x0] /\ P x0 := by
 match vs, h with
 | [.ref x0], h => exact ⟨x0, rfl, h⟩
theorem l3j {P : Addr -> Bool -> Prop} {vs : List V} (h : match vs with | [.ref x0, .bl x1] => P x0 x1 | _ => False) : ∃ x0 x1, vs = [.ref x0, .bl x1] /\ P x0 x1 := by
 match vs, h with
 | [.ref x0, .bl x1], h => exact ⟨x0, x1, rfl, h⟩
theorem g4g {P : Addr -> Int -> Prop} {vs : List V} (h : match vs with | [.ref x0, .int x1] => P x0 x1 | _ => False) : ∃ x0 x1, vs = [.ref x0, .int x1] /\ P x0 x1 := by
 match vs, h with
 | [.ref x0, .int x1], h => exact ⟨x0, x1, rfl, h⟩
theorem f8h {P : Addr -> Addr -> Prop} {vs : List V} (h : match vs with | [.ref x0, .ref x1] => P x0 x1 | _ => False) : ∃ x0 x1, vs = [.ref x0, .ref x1] /\ P x0 x1 := by
 match vs, h with
 | [.ref x0, .ref x1], h => exact ⟨x0, x1, rfl, h⟩
theorem g8j {P : Addr -> Addr -> Int -> Prop} {vs : List V} (h : match vs with | [.ref x0, .ref x1, .int x2] => P x0 x1 x2 | _ => False) : ∃ x0 x1 x2, vs = [.ref x0, .ref x1, .int x2] /\ P x0 x1 x2 := by
 match vs, h with
 | [.ref x0, .ref x1, .int x2], h => exact ⟨x0, x1, x2, rfl, h⟩
theorem j8m {P : Addr -> Addr -> Int -> Int -> Prop} {vs : List V} (h : match vs with | [.ref x0, .ref x1, .int x2, .int x3] => P x0 x1 x2 x3 | _ => False) : ∃ x0 x1 x2 x3, vs = [.ref x0, .ref x1, .int x2, .int x3] /\ P x0 x1 x2 x3 := by
 match vs, h with
 | [.ref x0, .ref x1, .int x2, .int x3], h => exact ⟨x0, x1, x2, x3, rfl, h⟩
theorem j8n {P : Addr -> Addr -> Addr -> Int -> Prop} {vs : List V} (h : match vs with | [.ref x0, .ref x1, .ref x2, .int x3] => P x0 x1 x2 x3 | _ => False) : ∃ x0 x1 x2 x3, vs = [.ref x0, .ref x1, .ref x2, .int x3] /\ P x0 x1 x2 x3 := by
 match vs, h with
 | [.ref x0, .ref x1, .ref x2, .int x3], h => exact ⟨x0, x1, x2, x3, rfl, h⟩
theorem j2f {P : Addr -> Str -> Prop} {vs : List V} (h : match vs with | [.ref x0, .str x1] => P x0 x1 | _ => False) : ∃ x0 x1, vs = [.ref x0, .str x1] /\ P x0 x1 := by
 match vs, h with
 | [.ref x0, .str x1], h => exact ⟨x0, x1, rfl, h⟩
theorem k5e {P : Addr -> Str -> Int -> Prop} {vs : List V} (h : match vs with | [.ref x0, .str x1, .int x2] => P x0 x1 x2 | _ => False) : ∃ x0 x1 x2, vs = [.ref x0, .str x1, .int x2] /\ P x0 x1 x2 := by
 match vs, h with
 | [.ref x0, .str x1, .int x2], h => exact ⟨x0, x1, x2, rfl, h⟩
theorem j0x {P : Addr -> Str -> Str -> Prop} {vs : List V} (h : match vs with | [.ref x0, .str x1, .str x2] => P x0 x1 x2 | _ => False) : ∃ x0 x1 x2, vs = [.ref x0, .str x1, .str x2] /\ P x0 x1 x2 := by
 match vs, h with
 | [.ref x0, .str x1, .str x2], h => exact ⟨x0, x1, x2, rfl, h⟩
theorem j8o {P : Addr -> Str -> Str -> Addr -> Prop} {vs : List V} (h : match vs with | [.ref x0, .str x1, .str x2, .ref x3] => P x0 x1 x2 x3 | _ => False) : ∃ x0 x1 x2 x3, vs = [.ref x0, .str x1, .str x2, .ref x3] /\ P x0 x1 x2 x3 := by
 match vs, h with
 | [.ref x0, .str x1, .str x2, .ref x3], h => exact ⟨x0, x1, x2, x3, rfl, h⟩
theorem i3p {P : Str -> Prop} {vs : List V} (h : match vs with | [.str x0] => P x0 | _ => False) : ∃ x0, vs = [.str x0] /\ P x0 := by
 match vs, h with
 | [.str x0], h => exact ⟨x0, rfl, h⟩
theorem k5f {P : Str -> Int -> Int -> Prop} {vs : List V} (h : match vs with | [.str x0, .int x1, .int x2] => P x0 x1 x2 | _ => False) : ∃ x0 x1 x2, vs = [.str x0, .int x1, .int x2] /\ P x0 x1 x2 := by
 match vs, h with
 | [.str x0, .int x1, .int x2], h => exact ⟨x0, x1, x2, rfl, h⟩
noncomputable def top (i : Nat) : Stmt := PySem.Challenge.pw_mixbench_k51_what_was_told.main.body.getD i (.Pass ⟨0, 0, 0, 0⟩)
noncomputable abbrev b7n : Stmt := (top 13)
noncomputable abbrev b1m : Stmt := (top 14)
noncomputable abbrev b7o : Stmt := (top 15)
noncomputable abbrev c2k : Stmt := (top 18)
noncomputable abbrev b7p : Stmt := (top 19)
noncomputable abbrev b7q : Stmt := (top 20)
noncomputable abbrev g8k : Stmt := (top 21)
noncomputable abbrev f2v : Stmt := (top 22)
noncomputable abbrev c2l : Stmt := (top 23)
noncomputable abbrev b7r : Stmt := (top 24)
noncomputable abbrev a5y : Stmt := (top 25)
noncomputable abbrev a5z : Stmt := (top 26)
noncomputable abbrev b1n : Stmt := (inClass (top 28) 1)
noncomputable abbrev b3k : Stmt := (inClass (top 29) 0)
noncomputable abbrev b3l : Stmt := (inClass (top 29) 4)
noncomputable abbrev b1o : Stmt := (inClass (top 30) 0)
noncomputable abbrev b1p : Stmt := (inClass (top 30) 3)
noncomputable abbrev b3m : Stmt := (top 32)
noncomputable abbrev b0q : Stmt := (inClass (top 33) 0)
noncomputable abbrev b3n : Stmt := (inClass (top 33) 5)
noncomputable abbrev b3o : Stmt := (inClass (top 34) 0)
noncomputable abbrev b3p : Stmt := (inClass (top 34) 5)
noncomputable abbrev b3q : Stmt := (inClass (top 35) 0)
noncomputable abbrev b3r : Stmt := (inClass (top 35) 4)
noncomputable abbrev a6g : Stmt := (top 37)
noncomputable abbrev b3s : Stmt := (top 39)
noncomputable abbrev g8l : Stmt := (top 40)
noncomputable abbrev a9h : Stmt := (top 41)
noncomputable abbrev a5l : Stmt := (inClass (top 42) 0)
noncomputable abbrev a9i : Stmt := (inClass (top 42) 2)
noncomputable abbrev a8g : Stmt := (inClass (top 42) 8)
noncomputable abbrev b3t : Stmt := (top 49)
noncomputable abbrev a9j : Stmt := (top 50)
noncomputable abbrev b3u : Stmt := (top 51)
noncomputable abbrev a9k : Stmt := (top 52)
noncomputable abbrev c2m : Stmt := (top 53)
noncomputable abbrev b7s : Stmt := (top 54)
noncomputable abbrev c2n : Stmt := (top 55)
noncomputable abbrev c2o : Stmt := (top 56)
noncomputable abbrev c2p : Stmt := (top 57)
noncomputable abbrev a9l : Stmt := (top 58)
noncomputable abbrev b3v : Stmt := (top 59)
noncomputable abbrev c2q : Stmt := (top 61)
noncomputable abbrev b3w : Stmt := (top 64)
noncomputable abbrev a8h : Stmt := (inClass (top 65) 0)
noncomputable abbrev a6y : Stmt := (inClass (top 65) 5)
noncomputable abbrev a7r : Stmt := (inClass (top 68) 0)
noncomputable abbrev b8h : Stmt := (top 72)
noncomputable abbrev b1q : Stmt := (inClass (top 73) 0)
noncomputable abbrev a4r : Stmt := (inClass (top 73) 1)
noncomputable abbrev a9m : Stmt := (inClass (top 73) 2)
noncomputable abbrev b3y : Stmt := (inClass (top 73) 3)
noncomputable abbrev b1r : Stmt := (inClass (top 73) 4)
noncomputable abbrev b3z : Stmt := (inClass (top 73) 5)
noncomputable abbrev b0r : Stmt := (inClass (top 73) 6)
noncomputable abbrev a7s : Stmt := (inClass (top 73) 7)
noncomputable abbrev a9n : Stmt := (inClass (top 73) 8)
noncomputable abbrev a6z : Stmt := (inClass (top 73) 9)
noncomputable abbrev b1s : Stmt := (inClass (top 73) 10)
noncomputable abbrev a9o : Stmt := (top 75)
noncomputable abbrev b4g : Stmt := (top 76)
noncomputable abbrev b0s : Stmt := (top 77)
noncomputable abbrev b4h : Stmt := (top 78)
noncomputable abbrev b4i : Stmt := (top 79)
noncomputable abbrev b4j : Stmt := (top 80)
noncomputable abbrev b4k : Stmt := (top 81)
noncomputable abbrev b1t : Stmt := (top 82)
noncomputable abbrev i4m : Stmt := (top 83)
theorem i4n : a0s ["value"] ["value"] (a0h b7n) := ⟨rfl, rfl, rfl, by decide +kernel, rfl, by decide +kernel, by decide +kernel⟩
theorem f0w : a0s ["text", "sign"] ["text"] (a0h b1m) := ⟨rfl, rfl, rfl, by decide +kernel, rfl, by decide +kernel, by decide +kernel⟩
theorem i4o : a0s ["text"] ["text"] (a0h b7o) := ⟨rfl, rfl, rfl, by decide +kernel, rfl, by decide +kernel, by decide +kernel⟩
theorem b7t : a0s ["one", "other", "left", "right", "rest"] ["one", "other"] (a0h c2k) := ⟨rfl, rfl, rfl, by decide +kernel, rfl, by decide +kernel, by decide +kernel⟩
theorem i4p : a0s ["one", "other"] ["one", "other"] (a0h b7p) := ⟨rfl, rfl, rfl, by decide +kernel, rfl, by decide +kernel, by decide +kernel⟩
theorem d4z : a0s ["top", "bottom", "by"] ["top", "bottom"] (a0h b7q) := ⟨rfl, rfl, rfl, by decide +kernel, rfl, by decide +kernel, by decide +kernel⟩
theorem k7l : a0s ["one", "other"] ["one", "other"] (a0h g8k) := ⟨rfl, rfl, rfl, by decide +kernel, rfl, by decide +kernel, by decide +kernel⟩
theorem k2q : a0s ["one", "other"] ["one", "other"] (a0h f2v) := ⟨rfl, rfl, rfl, by decide +kernel, rfl, by decide +kernel, by decide +kernel⟩
theorem j2g : a0s ["one"] ["one"] (a0h c2l) := ⟨rfl, rfl, rfl, by decide +kernel, rfl, by decide +kernel, by decide +kernel⟩
theorem i4q : a0s ["one", "other"] ["one", "other"] (a0h b7r) := ⟨rfl, rfl, rfl, by decide +kernel, rfl, by decide +kernel, by decide +kernel⟩
theorem a5h : a0s ["one", "top", "bottom"] ["one"] (a0h a5y) := ⟨rfl, rfl, rfl, by decide +kernel, rfl, by decide +kernel, by decide +kernel⟩
theorem a7p : a0s ["text", "halves", "top", "number", "one"] ["text"] (a0h a5z) := ⟨rfl, rfl, rfl, by decide +kernel, rfl, by decide +kernel, by decide +kernel⟩
theorem g9n : a0s ["self"] ["self"] (a0h b1n) := ⟨rfl, rfl, rfl, by decide +kernel, rfl, by decide +kernel, by decide +kernel⟩
theorem h5r : a0s ["self", "gain"] ["self", "gain"] (a0h b3k) := ⟨rfl, rfl, rfl, by decide +kernel, rfl, by decide +kernel, by decide +kernel⟩
theorem f6l : a0s ["self", "gain"] ["self"] (a0h b3l) := ⟨rfl, rfl, rfl, by decide +kernel, rfl, by decide +kernel, by decide +kernel⟩
theorem g9o : a0s ["self", "many"] ["self", "many"] (a0h b1o) := ⟨rfl, rfl, rfl, by decide +kernel, rfl, by decide +kernel, by decide +kernel⟩
theorem f0y : a0s ["self", "many"] ["self"] (a0h b1p) := ⟨rfl, rfl, rfl, by decide +kernel, rfl, by decide +kernel, by decide +kernel⟩
theorem c8t : a0s ["number", "most", "powers", "turn"] ["number", "most"] (a0h b3m) := ⟨rfl, rfl, rfl, by decide +kernel, rfl, by decide +kernel, by decide +kernel⟩
theorem c8u : a0s ["self", "gain", "many", "turns", "tops", "bottoms"] ["self", "gain", "many", "turns"] (a0h b0q) := ⟨rfl, rfl, rfl, by decide +kernel, rfl, by decide +kernel, by decide +kernel⟩
theorem b9w : a0s ["self", "gain", "many", "turns"] ["self"] (a0h b3n) := ⟨rfl, rfl, rfl, by decide +kernel, rfl, by decide +kernel, by decide +kernel⟩
theorem h5s : a0s ["self", "gain", "many"] ["self", "gain", "many"] (a0h b3o) := ⟨rfl, rfl, rfl, by decide +kernel, rfl, by decide +kernel, by decide +kernel⟩
theorem c8v : a0s ["self", "gain", "many"] ["self"] (a0h b3p) := ⟨rfl, rfl, rfl, by decide +kernel, rfl, by decide +kernel, by decide +kernel⟩
theorem h5t : a0s ["self", "gain", "many"] ["self", "gain", "many"] (a0h b3q) := ⟨rfl, rfl, rfl, by decide +kernel, rfl, by decide +kernel, by decide +kernel⟩
theorem c8w : a0s ["self", "gain", "many"] ["self"] (a0h b3r) := ⟨rfl, rfl, rfl, by decide +kernel, rfl, by decide +kernel, by decide +kernel⟩
theorem b0k : a0s ["bottoms", "shared", "bottom"] ["bottoms"] (a0h a6g) := ⟨rfl, rfl, rfl, by decide +kernel, rfl, by decide +kernel, by decide +kernel⟩
theorem b5s : a0s ["corners", "slopes", "left", "right", "rise"] ["corners"] (a0h b3s) := ⟨rfl, rfl, rfl, by decide +kernel, rfl, by decide +kernel, by decide +kernel⟩
theorem k7m : a0s ["one", "bottom"] ["one", "bottom"] (a0h g8l) := ⟨rfl, rfl, rfl, by decide +kernel, rfl, by decide +kernel, by decide +kernel⟩
theorem c1g : a0s ["corner", "at", "gain"] ["corner"] (a0h a9h) := ⟨rfl, rfl, rfl, by decide +kernel, rfl, by decide +kernel, by decide +kernel⟩
theorem f0z : a0s ["self", "corners", "slopes"] ["self", "corners"] (a0h a5l) := ⟨rfl, rfl, rfl, by decide +kernel, rfl, by decide +kernel, by decide +kernel⟩
theorem g4h : a0s ["self"] ["self"] (a0h a9i) := ⟨rfl, rfl, rfl, by decide +kernel, rfl, by decide +kernel, by decide +kernel⟩
theorem f1g : a0s ["self", "corners"] ["self"] (a0h a8g) := ⟨rfl, rfl, rfl, by decide +kernel, rfl, by decide +kernel, by decide +kernel⟩
theorem f6m : a0s ["text", "gain"] ["text"] (a0h b3t) := ⟨rfl, rfl, rfl, by decide +kernel, rfl, by decide +kernel, by decide +kernel⟩
theorem d3p : a0s ["text", "least", "most", "number"] ["text", "least", "most"] (a0h a9j) := ⟨rfl, rfl, rfl, by decide +kernel, rfl, by decide +kernel, by decide +kernel⟩
theorem h5u : a0s ["text"] ["text"] (a0h b3u) := ⟨rfl, rfl, rfl, by decide +kernel, rfl, by decide +kernel, by decide +kernel⟩
theorem g4i : a0s ["values", "count"] ["values", "count"] (a0h a9k) := ⟨rfl, rfl, rfl, by decide +kernel, rfl, by decide +kernel, by decide +kernel⟩
theorem j2h : a0s ["values"] ["values"] (a0h c2m) := ⟨rfl, rfl, rfl, by decide +kernel, rfl, by decide +kernel, by decide +kernel⟩
theorem i4r : a0s ["values"] ["values"] (a0h b7s) := ⟨rfl, rfl, rfl, by decide +kernel, rfl, by decide +kernel, by decide +kernel⟩
theorem j2i : a0s ["values"] ["values"] (a0h c2n) := ⟨rfl, rfl, rfl, by decide +kernel, rfl, by decide +kernel, by decide +kernel⟩
theorem j2j : a0s ["values"] ["values"] (a0h c2o) := ⟨rfl, rfl, rfl, by decide +kernel, rfl, by decide +kernel, by decide +kernel⟩
theorem g8m : a0s ["values", "gain"] ["values"] (a0h c2p) := ⟨rfl, rfl, rfl, by decide +kernel, rfl, by decide +kernel, by decide +kernel⟩
theorem d3q : a0s ["text", "halves"] ["text"] (a0h a9l) := ⟨rfl, rfl, rfl, by decide +kernel, rfl, by decide +kernel, by decide +kernel⟩
theorem c3t : a0s ["values", "corners", "left", "right"] ["values"] (a0h b3v) := ⟨rfl, rfl, rfl, by decide +kernel, rfl, by decide +kernel, by decide +kernel⟩
theorem g8n : a0s ["word", "values"] ["word"] (a0h c2q) := ⟨rfl, rfl, rfl, by decide +kernel, rfl, by decide +kernel, by decide +kernel⟩
theorem i4s : a0s ["words"] ["words"] (a0h b3w) := ⟨rfl, rfl, rfl, by decide +kernel, rfl, by decide +kernel, by decide +kernel⟩
theorem g9p : a0s ["self", "words"] ["self", "words"] (a0h a8h) := ⟨rfl, rfl, rfl, by decide +kernel, rfl, by decide +kernel, by decide +kernel⟩
theorem g4j : a0s ["self"] ["self"] (a0h a6y) := ⟨rfl, rfl, rfl, by decide +kernel, rfl, by decide +kernel, by decide +kernel⟩
theorem g0q : a0s ["self", "greatest"] ["self", "greatest"] (a0h a7r) := ⟨rfl, rfl, rfl, by decide +kernel, rfl, by decide +kernel, by decide +kernel⟩
theorem j2k : a0s ["value"] ["value"] (a0h b8h) := ⟨rfl, rfl, rfl, by decide +kernel, rfl, by decide +kernel, by decide +kernel⟩
theorem g9q : a0s ["self"] ["self"] (a0h b1q) := ⟨rfl, rfl, rfl, by decide +kernel, rfl, by decide +kernel, by decide +kernel⟩
theorem f1h : a0s ["self", "name"] ["self", "name"] (a0h a4r) := ⟨rfl, rfl, rfl, by decide +kernel, rfl, by decide +kernel, by decide +kernel⟩
theorem g4k : a0s ["self", "name"] ["self", "name"] (a0h a9m) := ⟨rfl, rfl, rfl, by decide +kernel, rfl, by decide +kernel, by decide +kernel⟩
theorem h5v : a0s ["self", "name"] ["self", "name"] (a0h b3y) := ⟨rfl, rfl, rfl, by decide +kernel, rfl, by decide +kernel, by decide +kernel⟩
theorem c3u : a0s ["self", "source", "bus", "words", "chain", "ring"] ["self", "source", "bus", "words"] (a0h b1r) := ⟨rfl, rfl, rfl, by decide +kernel, rfl, by decide +kernel, by decide +kernel⟩
theorem b5t : a0s ["self", "start", "end", "ways", "waiting", "source", "send"] ["self", "start", "end"] (a0h b3z) := ⟨rfl, rfl, rfl, by decide +kernel, rfl, by decide +kernel, by decide +kernel⟩
theorem f6n : a0s ["self", "bus", "greatest", "settler"] ["self", "bus", "greatest"] (a0h b0r) := ⟨rfl, rfl, rfl, by decide +kernel, rfl, by decide +kernel, by decide +kernel⟩
theorem g0r : a0s ["self"] ["self"] (a0h a7s) := ⟨rfl, rfl, rfl, by decide +kernel, rfl, by decide +kernel, by decide +kernel⟩
theorem g4l : a0s ["self"] ["self"] (a0h a9n) := ⟨rfl, rfl, rfl, by decide +kernel, rfl, by decide +kernel, by decide +kernel⟩
theorem g4m : a0s ["self"] ["self"] (a0h a6z) := ⟨rfl, rfl, rfl, by decide +kernel, rfl, by decide +kernel, by decide +kernel⟩
theorem g9r : a0s ["self"] ["self"] (a0h b1s) := ⟨rfl, rfl, rfl, by decide +kernel, rfl, by decide +kernel, by decide +kernel⟩
theorem g4n : a0s ["_law_script", "_law_k"] ["_law_script", "_law_k"] (a0h a9o) := ⟨rfl, rfl, rfl, by decide +kernel, rfl, by decide +kernel, by decide +kernel⟩
theorem h5w : a0s ["_law_found"] ["_law_found"] (a0h b4g) := ⟨rfl, rfl, rfl, by decide +kernel, rfl, by decide +kernel, by decide +kernel⟩
theorem a4n : a0s ["_law_cell", "_law_letters", "_law_mixed", "_law_base", "_law_at", "_law_names_here", "_law_k", "_law_name", "_law_j"] ["_law_cell"] (a0h b0s) := ⟨rfl, rfl, rfl, by decide +kernel, rfl, by decide +kernel, by decide +kernel⟩
theorem b9y : a0s ["_law_patch", "_law_turn", "_law_outs", "_law_sends", "_law_buses"] ["_law_patch", "_law_turn"] (a0h b4h) := ⟨rfl, rfl, rfl, by decide +kernel, rfl, by decide +kernel, by decide +kernel⟩
theorem b9z : a0s ["_law_told", "_law_rows", "_law_send_here", "_law_out"] ["_law_told"] (a0h b4i) := ⟨rfl, rfl, rfl, by decide +kernel, rfl, by decide +kernel, by decide +kernel⟩
theorem b1u : a0s ["_law_sends", "_law_first", "_law_last", "_law_reached", "_law_k", "_law_source", "_law_bus", "_law_words"] ["_law_sends", "_law_first", "_law_last"] (a0h b4j) := ⟨rfl, rfl, rfl, by decide +kernel, rfl, by decide +kernel, by decide +kernel⟩
theorem b0t : a0s ["_law_patch", "_law_due", "_law_mixed", "_law_some", "_law_nodes", "_law_source", "_law_bus", "_law_words", "_law_handed"] ["_law_patch", "_law_due", "_law_mixed"] (a0h b4k) := ⟨rfl, rfl, rfl, by decide +kernel, rfl, by decide +kernel, by decide +kernel⟩
theorem c3v : a0s ["_law_patch", "_law_due", "_law_names_here", "_law_mixed", "_law_pick", "_law_spare", "_law_free"] ["_law_patch", "_law_due", "_law_names_here", "_law_mixed"] (a0h b1t) := ⟨rfl, rfl, rfl, by decide +kernel, rfl, by decide +kernel, by decide +kernel⟩
theorem c2r : a0s ["_law_script", "_law_names_here", "_law_patch", "_law_beside", "_law_due", "_law_held", "_law_cell", "_law_mixed", "_law_told", "_law_spoiled", "_law_rows", "_law_copies"] ["_law_script"] (a0h i4m) := ⟨rfl, rfl, rfl, by decide +kernel, rfl, by decide +kernel, by decide +kernel⟩
set_option genInjectivity false in
structure Ad where
 b4l : Addr
 d5g : FuncData
 a8i : Addr
 c3w : FuncData
 b4m : Addr
 d5h : FuncData
 b5u : Addr
 d3g : FuncData
 b4n : Addr
 d5i : FuncData
 b4o : Addr
 d5j : FuncData
 g0s : Addr
 i4t : FuncData
 d5k : Addr
 g9s : FuncData
 b8i : Addr
 f2w : FuncData
 b4p : Addr
 d5l : FuncData
 a3y : Addr
 b0l : FuncData
 a4u : Addr
 b6j : FuncData
 a1h : Addr
 c3y : FuncData
 a8j : Addr
 c8y : FuncData
 a8k : Addr
 c8z : FuncData
 a6o : Addr
 c3z : FuncData
 a6p : Addr
 c4g : FuncData
 b0u : Addr
 c9g : FuncData
 a8l : Addr
 c9h : FuncData
 a8m : Addr
 c9i : FuncData
 a8n : Addr
 c9j : FuncData
 a8o : Addr
 c9k : FuncData
 a8p : Addr
 c9l : FuncData
 a8q : Addr
 c9m : FuncData
 a4v : Addr
 b6k : FuncData
 b0v : Addr
 c9n : FuncData
 g0t : Addr
 i4u : FuncData
 a7g : Addr
 c1h : FuncData
 a6q : Addr
 c4h : FuncData
 a5m : Addr
 c1i : FuncData
 a6r : Addr
 c4i : FuncData
 b0w : Addr
 c9o : FuncData
 a7h : Addr
 c1j : FuncData
 b0y : Addr
 c9p : FuncData
 a7i : Addr
 c1k : FuncData
 b2m : Addr
 f2y : FuncData
 a9p : Addr
 d5m : FuncData
 b2n : Addr
 f2z : FuncData
 b2o : Addr
 f3g : FuncData
 b2p : Addr
 f3h : FuncData
 a7j : Addr
 c1l : FuncData
 a9q : Addr
 d5n : FuncData
 b8j : Addr
 f3i : FuncData
 b4q : Addr
 d5o : FuncData
 a6s : Addr
 c4j : FuncData
 a5n : Addr
 c1m : FuncData
 a4o : Addr
 b8k : FuncData
 b8l : Addr
 f3j : FuncData
 a6t : Addr
 c4k : FuncData
 a3g : Addr
 b2q : FuncData
 a5o : Addr
 c1n : FuncData
 a8r : Addr
 c9q : FuncData
 a6u : Addr
 c4m : FuncData
 a8s : Addr
 c9r : FuncData
 a8t : Addr
 c9s : FuncData
 a4p : Addr
 b8m : FuncData
 a5p : Addr
 c1o : FuncData
 a5q : Addr
 c1p : FuncData
 a6v : Addr
 c4o : FuncData
 a7k : Addr
 c1q : FuncData
 b0z : Addr
 c9t : FuncData
 b1g : Addr
 c9u : FuncData
 b1h : Addr
 c9v : FuncData
 b1i : Addr
 c9w : FuncData
 b1j : Addr
 c9y : FuncData
 b4r : Addr
 d5p : FuncData
 b4s : Addr
 d5q : FuncData
 i4v : Addr
 j8p : FuncData
 d3r : Addr
 a9y : Addr
 a4z : Addr
 a4w : Addr
 a7u : Addr
 a7v : Addr
 a3z : Addr
 a6h : Addr
 a3l : Addr
 a1q : Addr
 h5x : Value
 b5v : Value
 b5w : Value
 g0u : Value
 g0v : Value
 f6o : Value
 h5y : Value
 d3s : Value
 f6p : Value
 k5g : Value
 h5z : Value
 d3t : Value
 a1t : Addr
 wd : World
structure Tx (K : PySem.W.Frag) (mg : Str -> Option Value) (A : Ad) : Prop where
 b4t : Fun K "is_whole" "is_whole" b7n A.b4l A.d5g
 c2s : Binds K A.d5g ["value"] []
 f3k : mg "is_whole" = some (.ref A.b4l)
 b1v : Fun K "is_figures" "is_figures" b1m A.a8i A.c3w
 c0g : Binds K A.c3w ["text"] []
 f6q : mg "is_figures" = some (.ref A.a8i)
 c2t : Fun K "whole_of" "whole_of" b7o A.b4m A.d5h
 f3l : Binds K A.d5h ["text"] []
 j2l : mg "whole_of" = some (.ref A.b4m)
 c2u : Fun K "divisor" "divisor" c2k A.b5u A.d3g
 f1i : Binds K A.d3g ["one", "other"] []
 h6a : mg "divisor" = some (.ref A.b5u)
 c2v : Fun K "multiple" "multiple" b7p A.b4n A.d5i
 f3m : Binds K A.d5i ["one", "other"] []
 j2m : mg "multiple" = some (.ref A.b4n)
 b4u : Fun K "fraction" "fraction" b7q A.b4o A.d5j
 c2w : Binds K A.d5j ["top", "bottom"] []
 f3n : mg "fraction" = some (.ref A.b4o)
 h6b : Fun K "plus" "plus" g8k A.g0s A.i4t
 j8q : Binds K A.i4t ["one", "other"] []
 l3k : mg "plus" = some (.ref A.g0s)
 f3o : Fun K "times" "times" f2v A.d5k A.g9s
 g9t : Binds K A.g9s ["one", "other"] []
 j8r : mg "times" = some (.ref A.d5k)
 c9z : Fun K "size_of" "size_of" c2l A.b8i A.f2w
 g0w : Binds K A.f2w ["one"] []
 j8s : mg "size_of" = some (.ref A.b8i)
 c2y : Fun K "is_under" "is_under" b7r A.b4p A.d5l
 f3p : Binds K A.d5l ["one", "other"] []
 j2n : mg "is_under" = some (.ref A.b4p)
 a1z : Fun K "fraction_text" "fraction_text" a5y A.a3y A.b0l
 a4g : Binds K A.b0l ["one"] []
 a6i : mg "fraction_text" = some (.ref A.a3y)
 a8u : Fun K "read_fraction" "read_fraction" a5z A.a4u A.b6j
 b8n : Binds K A.b6j ["text"] []
 g0x : mg "read_fraction" = some (.ref A.a4u)
 c0h : Fun K "fresh" "Part.fresh" b1n A.a1h A.c3y
 a8v : Binds K A.c3y ["self"] []
 c4p : Fun K "__init__" "Gain.__init__" b3k A.a8j A.c8y
 d5r : Binds K A.c8y ["self", "gain"] []
 c4q : Fun K "word" "Gain.word" b3l A.a8k A.c8z
 d5s : Binds K A.c8z ["self"] []
 c0i : Fun K "__init__" "Delay.__init__" b1o A.a6o A.c3z
 d0g : Binds K A.c3z ["self", "many"] []
 c0j : Fun K "word" "Delay.word" b1p A.a6p A.c4g
 d0h : Binds K A.c4g ["self"] []
 b4v : Fun K "powers_of" "powers_of" b3m A.b0u A.c9g
 c4r : Binds K A.c9g ["number", "most"] []
 g0y : mg "powers_of" = some (.ref A.b0u)
 c4s : Fun K "__init__" "Echo.__init__" b0q A.a8l A.c9h
 d5t : Binds K A.c9h ["self", "gain", "many", "turns"] []
 c4t : Fun K "word" "Echo.word" b3n A.a8m A.c9i
 d5u : Binds K A.c9i ["self"] []
 c4u : Fun K "__init__" "Back.__init__" b3o A.a8n A.c9j
 d5v : Binds K A.c9j ["self", "gain", "many"] []
 c4v : Fun K "word" "Back.word" b3p A.a8o A.c9k
 d5w : Binds K A.c9k ["self"] []
 c4w : Fun K "__init__" "Hall.__init__" b3q A.a8p A.c9l
 d5y : Binds K A.c9l ["self", "gain", "many"] []
 c4y : Fun K "word" "Hall.word" b3r A.a8q A.c9m
 d5z : Binds K A.c9m ["self"] []
 a8w : Fun K "shared_bottom" "shared_bottom" a6g A.a4v A.b6k
 b8o : Binds K A.b6k ["bottoms"] []
 g0z : mg "shared_bottom" = some (.ref A.a4v)
 b8p : Fun K "slopes_of" "slopes_of" b3s A.b0v A.c9n
 d6g : Binds K A.c9n ["corners"] []
 i4w : mg "slopes_of" = some (.ref A.b0v)
 g8o : Fun K "over" "over" g8l A.g0t A.i4u
 j0y : Binds K A.i4u ["one", "bottom"] []
 k5h : mg "over" = some (.ref A.g0t)
 b2r : Fun K "corner_word" "corner_word" a9h A.a7g A.c1h
 c4z : Binds K A.c1h ["corner"] []
 g9u : mg "corner_word" = some (.ref A.a7g)
 c0k : Fun K "__init__" "Swell.__init__" a5l A.a6q A.c4h
 d0i : Binds K A.c4h ["self", "corners"] []
 b6r : Fun K "fresh" "Swell.fresh" a9i A.a5m A.c1i
 c5g : Binds K A.c1i ["self"] []
 c0l : Fun K "word" "Swell.word" a8g A.a6r A.c4i
 d0j : Binds K A.c4i ["self"] []
 a7l : Fun K "read_gain" "read_gain" b3t A.b0w A.c9o
 b1k : Binds K A.c9o ["text"] []
 b8q : mg "read_gain" = some (.ref A.b0w)
 a5r : Fun K "read_number" "read_number" a9j A.a7h A.c1j
 a9r : Binds K A.c1j ["text", "least", "most"] []
 b6s : mg "read_number" = some (.ref A.a7h)
 b1l : Fun K "read_many" "read_many" b3u A.b0y A.c9p
 b8r : Binds K A.c9p ["text"] []
 d6h : mg "read_many" = some (.ref A.b0y)
 a3t : Fun K "check_count" "check_count" a9k A.a7i A.c1k
 a5s : Binds K A.c1k ["values", "count"] []
 a9s : mg "check_count" = some (.ref A.a7i)
 d0k : Fun K "gain_of" "gain_of" c2m A.b2m A.f2y
 g1a : Binds K A.f2y ["values"] []
 l3l : mg "gain_of" = some (.ref A.b2m)
 c2z : Fun K "delay_of" "delay_of" b7s A.a9p A.d5m
 f3q : Binds K A.d5m ["values"] []
 k9v : mg "delay_of" = some (.ref A.a9p)
 d0l : Fun K "echo_of" "echo_of" c2n A.b2n A.f2z
 g1b : Binds K A.f2z ["values"] []
 l3m : mg "echo_of" = some (.ref A.b2n)
 d0m : Fun K "back_of" "back_of" c2o A.b2o A.f3g
 g1c : Binds K A.f3g ["values"] []
 l3n : mg "back_of" = some (.ref A.b2o)
 d0n : Fun K "hall_of" "hall_of" c2p A.b2p A.f3h
 g1d : Binds K A.f3h ["values"] []
 l3p : mg "hall_of" = some (.ref A.b2p)
 b2s : Fun K "read_corner" "read_corner" a9l A.a7j A.c1l
 c5h : Binds K A.c1l ["text"] []
 g9v : mg "read_corner" = some (.ref A.a7j)
 c3g : Fun K "swell_of" "swell_of" b3v A.a9q A.d5n
 f3r : Binds K A.d5n ["values"] []
 k9w : mg "swell_of" = some (.ref A.a9q)
 d0o : Fun K "part_of" "part_of" c2q A.b8j A.f3i
 g1e : Binds K A.f3i ["word"] []
 j8t : mg "part_of" = some (.ref A.b8j)
 c3h : Fun K "parts_of" "parts_of" b3w A.b4q A.d5o
 f3s : Binds K A.d5o ["words"] []
 j2o : mg "parts_of" = some (.ref A.b4q)
 c0m : Fun K "__init__" "Chain.__init__" a8h A.a6s A.c4j
 d0p : Binds K A.c4j ["self", "words"] []
 b6t : Fun K "words" "Chain.words" a6y A.a5n A.c1m
 c5i : Binds K A.c1m ["self"] []
 b5k : Fun K "__init__" "Settler.__init__" a7r A.a4o A.b8k
 c1r : Binds K A.b8k ["self", "greatest"] []
 d0q : Fun K "is_name" "is_name" b8h A.b8l A.f3j
 g1f : Binds K A.f3j ["value"] []
 j8u : mg "is_name" = some (.ref A.b8l)
 c0n : Fun K "__init__" "Patch.__init__" b1q A.a6t A.c4k
 c0o : Binds K A.c4k ["self"] []
 a9t : Fun K "check_new" "Patch.check_new" a4r A.a3g A.b2q
 a9u : Binds K A.b2q ["self", "name"] []
 b6u : Fun K "track" "Patch.track" a9m A.a5o A.c1n
 b6v : Binds K A.c1n ["self", "name"] []
 c5j : Fun K "bus" "Patch.bus" b3y A.a8r A.c9q
 c5k : Binds K A.c9q ["self", "name"] []
 c0p : Fun K "send" "Patch.send" b1r A.a6u A.c4m
 d0r : Binds K A.c4m ["self", "source", "bus", "words"] []
 c5l : Fun K "way" "Patch.way" b3z A.a8s A.c9r
 d6i : Binds K A.c9r ["self", "start", "end"] []
 c5m : Fun K "out" "Patch.out" b0r A.a8t A.c9s
 d6j : Binds K A.c9s ["self", "bus", "greatest"] []
 b5m : Fun K "tracks" "Patch.tracks" a7s A.a4p A.b8m
 b5n : Binds K A.b8m ["self"] []
 b6w : Fun K "buses" "Patch.buses" a9n A.a5p A.c1o
 b6y : Binds K A.c1o ["self"] []
 b6z : Fun K "sends" "Patch.sends" a6z A.a5q A.c1p
 b7g : Binds K A.c1p ["self"] []
 c0q : Fun K "outs" "Patch.outs" b1s A.a6v A.c4o
 c0r : Binds K A.c4o ["self"] []
 b2t : Fun K "_law_cell_at" "_law_cell_at" a9o A.a7k A.c1q
 c5n : Binds K A.c1q ["_law_script", "_law_k"] []
 g9w : mg "_law_cell_at" = some (.ref A.a7k)
 b8s : Fun K "_law_whole" "_law_whole" b4g A.b0z A.c9t
 d6k : Binds K A.c9t ["_law_found"] []
 i4x : mg "_law_whole" = some (.ref A.b0z)
 b8t : Fun K "_law_names" "_law_names" b0s A.b1g A.c9u
 d6l : Binds K A.c9u ["_law_cell"] []
 i4y : mg "_law_names" = some (.ref A.b1g)
 a8y : Fun K "_law_asked" "_law_asked" b4h A.b1h A.c9v
 b4w : Binds K A.c9v ["_law_patch", "_law_turn"] []
 c5o : mg "_law_asked" = some (.ref A.b1h)
 b8u : Fun K "_law_kinds" "_law_kinds" b4i A.b1i A.c9w
 d6m : Binds K A.c9w ["_law_told"] []
 i4z : mg "_law_kinds" = some (.ref A.b1i)
 b8v : Fun K "_law_leads" "_law_leads" b4j A.b1j A.c9y
 d6n : Binds K A.c9y ["_law_sends", "_law_first", "_law_last"] []
 i5a : mg "_law_leads" = some (.ref A.b1j)
 c3i : Fun K "_law_send" "_law_send" b4k A.b4r A.d5p
 f3t : Binds K A.d5p ["_law_patch", "_law_due", "_law_mixed"] []
 j2p : mg "_law_send" = some (.ref A.b4r)
 c3j : Fun K "_law_deed" "_law_deed" b1t A.b4s A.d5q
 f3u : Binds K A.d5q ["_law_patch", "_law_due", "_law_names_here", "_law_mixed"] []
 j2q : mg "_law_deed" = some (.ref A.b4s)
 k2r : Fun K "law" "law" i4m A.i4v A.j8p
 l3q : Binds K A.j8p ["_law_script"] []
 m_law : mg "law" = some (.ref A.i4v)
 g4o : mg "abs" = none
 j8v : mg "all" = none
 g8p : mg "bool" = none
 g1g : mg "int" = none
 a1v : mg "isinstance" = none
 b8w : mg "len" = none
 c3k : mg "list" = none
 b8y : mg "range" = none
 i5b : mg "str" = none
 c5p : mg "tuple" = none
 i5c : mg "zip" = none
 g9x : mg "Part" = some (.ref A.d3r)
 g1h : mg "Gain" = some (.ref A.a9y)
 f1j : mg "Delay" = some (.ref A.a4z)
 g1i : mg "Echo" = some (.ref A.a4w)
 g1j : mg "Back" = some (.ref A.a7u)
 g1k : mg "Hall" = some (.ref A.a7v)
 f1k : mg "Swell" = some (.ref A.a3z)
 f1l : mg "Chain" = some (.ref A.a6h)
 c3l : mg "Settler" = some (.ref A.a3l)
 d3h : mg "Patch" = some (.ref A.a1q)
 l8a : Cls K A.d3r
 k2s : Meth K A.d3r "fresh" A.a1h
 b6l : Cls K A.a9y
 a2l : a4l K A.a9y "gain"
 l3r : Mk K A.a9y A.a8j
 h6c : Meth K A.a9y "word" A.a8k
 g9y : Meth K A.a9y "fresh" A.a1h
 b0m : Cls K A.a4z
 a1w : a4l K A.a4z "many"
 k7n : Mk K A.a4z A.a6o
 g9z : Meth K A.a4z "word" A.a6p
 g4p : Meth K A.a4z "fresh" A.a1h
 b6m : Cls K A.a4w
 a2m : a4l K A.a4w "gain"
 a2n : a4l K A.a4w "many"
 a1y : a4l K A.a4w "turns"
 a1o : a4l K A.a4w "factors"
 a0t : a4l K A.a4w "factor_bottom"
 l3s : Mk K A.a4w A.a8l
 h6d : Meth K A.a4w "word" A.a8m
 h0a : Meth K A.a4w "fresh" A.a1h
 b6n : Cls K A.a7u
 a2o : a4l K A.a7u "gain"
 a2p : a4l K A.a7u "many"
 l3t : Mk K A.a7u A.a8n
 h6e : Meth K A.a7u "word" A.a8o
 h0b : Meth K A.a7u "fresh" A.a1h
 b6o : Cls K A.a7v
 a2q : a4l K A.a7v "gain"
 a2r : a4l K A.a7v "many"
 l3u : Mk K A.a7v A.a8p
 h6f : Meth K A.a7v "word" A.a8q
 h0c : Meth K A.a7v "fresh" A.a1h
 b0n : Cls K A.a3z
 a1m : a4l K A.a3z "corners"
 a1p : a4l K A.a3z "shared"
 a1s : a4l K A.a3z "lines"
 k7o : Mk K A.a3z A.a6q
 g4q : Meth K A.a3z "fresh" A.a5m
 h0d : Meth K A.a3z "word" A.a6r
 c5q : Cls K A.a6h
 a3h : a4l K A.a6h "parts"
 a2v : a4l K A.a6h "states"
 k7p : Mk K A.a6h A.a6s
 g4r : Meth K A.a6h "words" A.a5n
 d3i : Cls K A.a3l
 a2g : a4l K A.a3l "greatest"
 a4h : a4l K A.a3l "cuts"
 a4i : a4l K A.a3l "rest"
 j8w : Mk K A.a3l A.a4o
 a0w : Cls K A.a1q
 a0k : a4l K A.a1q "track_names"
 a0o : a4l K A.a1q "bus_names"
 a0n : a4l K A.a1q "told_sends"
 a0p : a4l K A.a1q "told_outs"
 j8x : Mk K A.a1q A.a6t
 c0s : Meth K A.a1q "check_new" A.a3g
 d3u : Meth K A.a1q "track" A.a5o
 f6r : Meth K A.a1q "bus" A.a8r
 h0e : Meth K A.a1q "send" A.a6u
 h6g : Meth K A.a1q "way" A.a8s
 h6h : Meth K A.a1q "out" A.a8t
 d0s : Meth K A.a1q "tracks" A.a4p
 d3v : Meth K A.a1q "buses" A.a5p
 d3w : Meth K A.a1q "sends" A.a5q
 f1m : Meth K A.a1q "outs" A.a6v
 c3m : mg "FIGURES" = some A.h5x
 j2r : RelV (.str "0123456789") A.h5x
 a3q : mg "MOST_FIGURES_wholes" = some A.b5v
 c8n : RelV (.int 13) A.b5v
 a3r : mg "MOST_FIGURES_ratios" = some A.b5w
 c8o : RelV (.int 9) A.b5w
 b1w : mg "MOST_GAIN" = some A.g0u
 f6s : RelV (.int 1000) A.g0u
 b1y : mg "MOST_MANY" = some A.g0v
 f6t : RelV (.int 1000) A.g0v
 b2u : mg "MOST_TURNS" = some A.f6o
 h0f : RelV (.int 16) A.f6o
 c3n : mg "MOST_AT" = some A.h5y
 j2s : RelV (.int 100000) A.h5y
 a8z : mg "MOST_CORNERS" = some A.d3s
 g1l : RelV (.int 12) A.d3s
 b2v : mg "MOST_PARTS" = some A.f6p
 h0g : RelV (.int 8) A.f6p
 g1m : mg "MOST" = some A.k5g
 k7q : RelV (.int 1000000000000) A.k5g
 c3o : mg "LETTERS" = some A.h5z
 j2t : RelV (.str "abcdefghijklmnopqrstuvwxyz") A.h5z
 a9g : mg "MOST_LETTERS" = some A.d3t
 g1n : RelV (.int 8) A.d3t
 a6j : mg "READERS" = some (.ref A.a1t)
 j2u : l7s K A.wd A.a1t
 a6k : PySem.W.nsIn K A.a1t "gain" = some (some (.ref A.b2m))
 a5i : PySem.W.nsIn K A.a1t "delay" = some (some (.ref A.a9p))
 a6l : PySem.W.nsIn K A.a1t "echo" = some (some (.ref A.b2n))
 a6m : PySem.W.nsIn K A.a1t "back" = some (some (.ref A.b2o))
 a5j : PySem.W.nsIn K A.a1t "swell" = some (some (.ref A.a9q))
 a6n : PySem.W.nsIn K A.a1t "hall" = some (some (.ref A.b2p))
theorem nq0 : (("__init__" : Str) == ("gain" : Str)) = false := by decide +kernel
theorem nq1 : (("word" : Str) == ("gain" : Str)) = false := by decide +kernel
theorem nq2 : (("fresh" : Str) == ("gain" : Str)) = false := by decide +kernel
theorem nq3 : (("__init__" : Str) == ("many" : Str)) = false := by decide +kernel
theorem nq4 : (("word" : Str) == ("many" : Str)) = false := by decide +kernel
theorem nq5 : (("fresh" : Str) == ("many" : Str)) = false := by decide +kernel
theorem nq6 : (("gain" : Str) == ("many" : Str)) = false := by decide +kernel
theorem nq7 : (("gain" : Str) == ("turns" : Str)) = false := by decide +kernel
theorem nq8 : (("gain" : Str) == ("factors" : Str)) = false := by decide +kernel
theorem nq9 : (("gain" : Str) == ("factor_bottom" : Str)) = false := by decide +kernel
theorem nq10 : (("many" : Str) == ("gain" : Str)) = false := by decide +kernel
theorem nq11 : (("many" : Str) == ("turns" : Str)) = false := by decide +kernel
theorem nq12 : (("many" : Str) == ("factors" : Str)) = false := by decide +kernel
theorem nq13 : (("many" : Str) == ("factor_bottom" : Str)) = false := by decide +kernel
theorem nq14 : (("turns" : Str) == ("gain" : Str)) = false := by decide +kernel
theorem nq15 : (("turns" : Str) == ("many" : Str)) = false := by decide +kernel
theorem nq16 : (("turns" : Str) == ("factors" : Str)) = false := by decide +kernel
theorem nq17 : (("turns" : Str) == ("factor_bottom" : Str)) = false := by decide +kernel
theorem nq18 : (("factors" : Str) == ("gain" : Str)) = false := by decide +kernel
theorem nq19 : (("factors" : Str) == ("many" : Str)) = false := by decide +kernel
theorem nq20 : (("factors" : Str) == ("turns" : Str)) = false := by decide +kernel
theorem nq21 : (("factors" : Str) == ("factor_bottom" : Str)) = false := by decide +kernel
theorem nq22 : (("factor_bottom" : Str) == ("gain" : Str)) = false := by decide +kernel
theorem nq23 : (("factor_bottom" : Str) == ("many" : Str)) = false := by decide +kernel
theorem nq24 : (("factor_bottom" : Str) == ("turns" : Str)) = false := by decide +kernel
theorem nq25 : (("factor_bottom" : Str) == ("factors" : Str)) = false := by decide +kernel
theorem nq26 : (("__init__" : Str) == ("turns" : Str)) = false := by decide +kernel
theorem nq27 : (("__init__" : Str) == ("factors" : Str)) = false := by decide +kernel
theorem nq28 : (("__init__" : Str) == ("factor_bottom" : Str)) = false := by decide +kernel
theorem nq29 : (("word" : Str) == ("turns" : Str)) = false := by decide +kernel
theorem nq30 : (("word" : Str) == ("factors" : Str)) = false := by decide +kernel
theorem nq31 : (("word" : Str) == ("factor_bottom" : Str)) = false := by decide +kernel
theorem nq32 : (("fresh" : Str) == ("turns" : Str)) = false := by decide +kernel
theorem nq33 : (("fresh" : Str) == ("factors" : Str)) = false := by decide +kernel
theorem nq34 : (("fresh" : Str) == ("factor_bottom" : Str)) = false := by decide +kernel
theorem nq35 : (("corners" : Str) == ("shared" : Str)) = false := by decide +kernel
theorem nq36 : (("corners" : Str) == ("lines" : Str)) = false := by decide +kernel
theorem nq37 : (("shared" : Str) == ("corners" : Str)) = false := by decide +kernel
theorem nq38 : (("shared" : Str) == ("lines" : Str)) = false := by decide +kernel
theorem nq39 : (("lines" : Str) == ("corners" : Str)) = false := by decide +kernel
theorem nq40 : (("lines" : Str) == ("shared" : Str)) = false := by decide +kernel
theorem nq41 : (("__init__" : Str) == ("corners" : Str)) = false := by decide +kernel
theorem nq42 : (("__init__" : Str) == ("shared" : Str)) = false := by decide +kernel
theorem nq43 : (("__init__" : Str) == ("lines" : Str)) = false := by decide +kernel
theorem nq44 : (("fresh" : Str) == ("corners" : Str)) = false := by decide +kernel
theorem nq45 : (("fresh" : Str) == ("shared" : Str)) = false := by decide +kernel
theorem nq46 : (("fresh" : Str) == ("lines" : Str)) = false := by decide +kernel
theorem nq47 : (("word" : Str) == ("corners" : Str)) = false := by decide +kernel
theorem nq48 : (("word" : Str) == ("shared" : Str)) = false := by decide +kernel
theorem nq49 : (("word" : Str) == ("lines" : Str)) = false := by decide +kernel
theorem nq50 : (("parts" : Str) == ("states" : Str)) = false := by decide +kernel
theorem nq51 : (("states" : Str) == ("parts" : Str)) = false := by decide +kernel
theorem nq52 : (("__init__" : Str) == ("parts" : Str)) = false := by decide +kernel
theorem nq53 : (("__init__" : Str) == ("states" : Str)) = false := by decide +kernel
theorem nq54 : (("words" : Str) == ("parts" : Str)) = false := by decide +kernel
theorem nq55 : (("words" : Str) == ("states" : Str)) = false := by decide +kernel
theorem nq56 : (("greatest" : Str) == ("cuts" : Str)) = false := by decide +kernel
theorem nq57 : (("greatest" : Str) == ("rest" : Str)) = false := by decide +kernel
theorem nq58 : (("cuts" : Str) == ("greatest" : Str)) = false := by decide +kernel
theorem nq59 : (("cuts" : Str) == ("rest" : Str)) = false := by decide +kernel
theorem nq60 : (("rest" : Str) == ("greatest" : Str)) = false := by decide +kernel
theorem nq61 : (("rest" : Str) == ("cuts" : Str)) = false := by decide +kernel
theorem nq62 : (("__init__" : Str) == ("greatest" : Str)) = false := by decide +kernel
theorem nq63 : (("__init__" : Str) == ("cuts" : Str)) = false := by decide +kernel
theorem nq64 : (("__init__" : Str) == ("rest" : Str)) = false := by decide +kernel
theorem nq65 : (("track_names" : Str) == ("bus_names" : Str)) = false := by decide +kernel
theorem nq66 : (("track_names" : Str) == ("told_sends" : Str)) = false := by decide +kernel
theorem nq67 : (("track_names" : Str) == ("told_outs" : Str)) = false := by decide +kernel
theorem nq68 : (("bus_names" : Str) == ("track_names" : Str)) = false := by decide +kernel
theorem nq69 : (("bus_names" : Str) == ("told_sends" : Str)) = false := by decide +kernel
theorem nq70 : (("bus_names" : Str) == ("told_outs" : Str)) = false := by decide +kernel
theorem nq71 : (("told_sends" : Str) == ("track_names" : Str)) = false := by decide +kernel
theorem nq72 : (("told_sends" : Str) == ("bus_names" : Str)) = false := by decide +kernel
theorem nq73 : (("told_sends" : Str) == ("told_outs" : Str)) = false := by decide +kernel
theorem nq74 : (("told_outs" : Str) == ("track_names" : Str)) = false := by decide +kernel
theorem nq75 : (("told_outs" : Str) == ("bus_names" : Str)) = false := by decide +kernel
theorem nq76 : (("told_outs" : Str) == ("told_sends" : Str)) = false := by decide +kernel
theorem nq77 : (("__init__" : Str) == ("track_names" : Str)) = false := by decide +kernel
theorem nq78 : (("__init__" : Str) == ("bus_names" : Str)) = false := by decide +kernel
theorem nq79 : (("__init__" : Str) == ("told_sends" : Str)) = false := by decide +kernel
theorem nq80 : (("__init__" : Str) == ("told_outs" : Str)) = false := by decide +kernel
theorem nq81 : (("check_new" : Str) == ("track_names" : Str)) = false := by decide +kernel
theorem nq82 : (("check_new" : Str) == ("bus_names" : Str)) = false := by decide +kernel
theorem nq83 : (("check_new" : Str) == ("told_sends" : Str)) = false := by decide +kernel
theorem nq84 : (("check_new" : Str) == ("told_outs" : Str)) = false := by decide +kernel
theorem nq85 : (("track" : Str) == ("track_names" : Str)) = false := by decide +kernel
theorem nq86 : (("track" : Str) == ("bus_names" : Str)) = false := by decide +kernel
theorem nq87 : (("track" : Str) == ("told_sends" : Str)) = false := by decide +kernel
theorem nq88 : (("track" : Str) == ("told_outs" : Str)) = false := by decide +kernel
theorem nq89 : (("bus" : Str) == ("track_names" : Str)) = false := by decide +kernel
theorem nq90 : (("bus" : Str) == ("bus_names" : Str)) = false := by decide +kernel
theorem nq91 : (("bus" : Str) == ("told_sends" : Str)) = false := by decide +kernel
theorem nq92 : (("bus" : Str) == ("told_outs" : Str)) = false := by decide +kernel
theorem nq93 : (("send" : Str) == ("track_names" : Str)) = false := by decide +kernel
theorem nq94 : (("send" : Str) == ("bus_names" : Str)) = false := by decide +kernel
theorem nq95 : (("send" : Str) == ("told_sends" : Str)) = false := by decide +kernel
theorem nq96 : (("send" : Str) == ("told_outs" : Str)) = false := by decide +kernel
theorem nq97 : (("way" : Str) == ("track_names" : Str)) = false := by decide +kernel
theorem nq98 : (("way" : Str) == ("bus_names" : Str)) = false := by decide +kernel
theorem nq99 : (("way" : Str) == ("told_sends" : Str)) = false := by decide +kernel
theorem nq100 : (("way" : Str) == ("told_outs" : Str)) = false := by decide +kernel
theorem nq101 : (("out" : Str) == ("track_names" : Str)) = false := by decide +kernel
theorem nq102 : (("out" : Str) == ("bus_names" : Str)) = false := by decide +kernel
theorem nq103 : (("out" : Str) == ("told_sends" : Str)) = false := by decide +kernel
theorem nq104 : (("out" : Str) == ("told_outs" : Str)) = false := by decide +kernel
theorem nq105 : (("tracks" : Str) == ("track_names" : Str)) = false := by decide +kernel
theorem nq106 : (("tracks" : Str) == ("bus_names" : Str)) = false := by decide +kernel
theorem nq107 : (("tracks" : Str) == ("told_sends" : Str)) = false := by decide +kernel
theorem nq108 : (("tracks" : Str) == ("told_outs" : Str)) = false := by decide +kernel
theorem nq109 : (("buses" : Str) == ("track_names" : Str)) = false := by decide +kernel
theorem nq110 : (("buses" : Str) == ("bus_names" : Str)) = false := by decide +kernel
theorem nq111 : (("buses" : Str) == ("told_sends" : Str)) = false := by decide +kernel
theorem nq112 : (("buses" : Str) == ("told_outs" : Str)) = false := by decide +kernel
theorem nq113 : (("sends" : Str) == ("track_names" : Str)) = false := by decide +kernel
theorem nq114 : (("sends" : Str) == ("bus_names" : Str)) = false := by decide +kernel
theorem nq115 : (("sends" : Str) == ("told_sends" : Str)) = false := by decide +kernel
theorem nq116 : (("sends" : Str) == ("told_outs" : Str)) = false := by decide +kernel
theorem nq117 : (("outs" : Str) == ("track_names" : Str)) = false := by decide +kernel
theorem nq118 : (("outs" : Str) == ("bus_names" : Str)) = false := by decide +kernel
theorem nq119 : (("outs" : Str) == ("told_sends" : Str)) = false := by decide +kernel
theorem nq120 : (("outs" : Str) == ("told_outs" : Str)) = false := by decide +kernel
seal PE PT PA PS PSs PI PO PW PG PGs PEX PSX
local macro_rules | `(tactic| walk_at "bits") => `(tactic| first | with_reducible assumption | exact intBits_le_64 (by omega) (by omega) | exact (intBits_le_iff (m := 250)).mpr (by decide) | ((with_reducible apply intBits_mul_le) <;> walk_at "bits") | ((with_reducible apply intBits_add_le) <;> walk_at "bits") | ((with_reducible apply intBits_sub_le) <;> walk_at "bits") | ((with_reducible apply intBits_neg_le) <;> walk_at "bits") | ((with_reducible apply intBits_natAbs_le) <;> walk_at "bits") | ((with_reducible apply intBits_fdiv_le) <;> walk_at "bits") | ((with_reducible apply intBits_fmod_le) <;> walk_at "bits"))
local macro_rules | `(tactic| walk_at "mul") => `(tactic| first | exact IntMulOk.of_right (intBits_le_64 (by omega) (by omega)) | exact IntMulOk.of_left (intBits_le_64 (by omega) (by omega)) | ((with_reducible apply IntMulOk.of_le) <;> first | walk_at "bits" | decide))
local macro_rules | `(tactic| walk_at "le") => `(tactic| ((with_reducible apply Nat.le_trans) <;> first | walk_at "bits" | decide))
variable {P : Program} {w : World} {K : PySem.W.Frag} {mg : Str -> Option Value} {base : Heap} {A : Ad}
noncomputable def stF (g c : Int) (r : Addr) : List (Str × V) := [("greatest", .int g), ("cuts", .int c), ("rest", .ref r)]
noncomputable def k2t : Sp := fun vs H Q _ => match vs with | [.int a, .int b] => Q (.int (Int.gcd a b)) H | _ => False
noncomputable def k7r : Sp := fun vs H Q _ => match vs with | [.int a, .int b] => intBits a <= 4000 /\ intBits b <= 4000 /\ Q (.int (Int.lcm a b)) H | _ => False
noncomputable def k7s : Sp := fun vs H Q _ => match vs with | [.int _] => Q (.bl true) H | _ => False
noncomputable def j8y : Sp := fun vs H Q _ => match vs with
 | [.int t, .int b] => b ≠ 0 /\ intBits t <= 4000 /\ intBits b <= 4000 /\ All (g0k H (c8m (Rat.divInt t b))) Q ⟨⟩ ⟨⟩
 | _ => False
noncomputable def k7t : Sp := fun vs H Q _ => match vs with | [.str x] => Q (.bl (j7y (sg x))) H | _ => False
noncomputable def i5d : Sp := fun vs H Q _ => match vs with | [.ref p] => ∃ t b : Int, H p = some (.tup [.int t, .int b]) /\ t.natAbs.log2 < 1920 /\ b.natAbs.log2 < 1920 /\ (∀ y : Str, sg y = k2c t b -> Q (.str y) H) | _ => False
noncomputable def j8z : Sp := fun vs H Q _ => match vs with | [.str x] => ∃ t b, Good (sg x) t b /\ All (g0k H [.int t, .int b]) Q ⟨⟩ ⟨⟩ | _ => False
noncomputable def k7u : Sp := fun vs H Q _ => match vs with
 | [.str x] => ∃ n : Nat, sg x = txt (n : Int) /\ n < 10 ^ 9 /\ Q (.int n) H
 | _ => False
noncomputable def Two (H : Hp) (p q : Addr) (x y : Rat) : Prop := H p = some (.tup (c8m x)) /\ H q = some (.tup (c8m y)) /\ intBits x.num <= 900 /\ intBits (x.den : Int) <= 900 /\ intBits y.num <= 900 /\ intBits (y.den : Int) <= 900
noncomputable def j9a : Sp := fun vs H Q _ => match vs with
 | [.ref p, .ref q] => ∃ x y : Rat, Two H p q x y /\ All (g0k H (c8m (x + y))) Q ⟨⟩ ⟨⟩
 | _ => False
noncomputable def j9b : Sp := fun vs H Q _ => match vs with
 | [.ref p, .ref q] => ∃ x y : Rat, Two H p q x y /\ All (g0k H (c8m (x * y))) Q ⟨⟩ ⟨⟩
 | _ => False
noncomputable def j9c : Sp := fun vs H Q _ => match vs with
 | [.ref p] => ∃ x : Rat, H p = some (.tup (c8m x)) /\ All (g0k H (c8m (Rat.abs x))) Q ⟨⟩ ⟨⟩
 | _ => False
noncomputable def i5e : Sp := fun vs H Q _ => match vs with
 | [.ref p, .ref q] => ∃ x y : Rat, Two H p q x y /\ Q (.bl (decide (x.num * (y.den : Int) < y.num * (x.den : Int)))) H
 | _ => False
noncomputable def Rts (H : Hp) (qs : List Addr) (ss : List Rat) : Prop := qs.length = ss.length /\ ∀ (i : Nat) q s, qs[i]? = some q -> ss[i]? = some s -> H q = some (.tup (c8m s))
noncomputable def j0z (l : Addr) (H : Hp) (qs : List Addr) (ss : List Rat) : Prop := qs.length = ss.length /\ ∀ (i : Nat) q s, qs[i]? = some q -> ss[i]? = some s -> q ≠ l /\ H q = some (.tup (c8m s))
noncomputable def Crn (H : Hp) (ps : List Addr) (cs : List (Int × Rat)) : Prop := ps.length = cs.length /\ ∀ (i : Nat) p c, ps[i]? = some p -> cs[i]? = some c -> ∃ g, H p = some (.tup [.int c.1, .ref g]) /\ H g = some (.tup (c8m c.2))
noncomputable def k7v (cs : List (Int × Rat)) : Prop := (∀ c ∈ cs, 0 <= c.1 /\ c.1 <= 200000 /\ intBits c.2.num <= 10 /\ intBits (c.2.den : Int) <= 10) /\ ∀ (i : Nat) c d, cs[i]? = some c -> cs[i + 1]? = some d -> c.1 < d.1
noncomputable def j9d (bs : List Int) : Int := bs.foldl (fun o b => (Int.lcm o b : Int)) 1
noncomputable def h0h : Sp := fun vs H Q _ => match vs with
 | [.ref p] => ∃ bs : List Int, H p = some (.lst (bs.map V.int)) /\ (∀ b ∈ bs, 1 <= b /\ intBits b <= 64) /\ bs.length <= 24 /\ Q (.int (j9d bs)) H
 | _ => False
noncomputable def i5f : Sp := fun vs H Q _ => match vs with
 | [.ref p, .int S] => ∃ y : Rat, H p = some (.tup (c8m y)) /\ intBits y.num <= 2000 /\ intBits (y.den : Int) <= 2000 /\ intBits S <= 2000 /\ Q (.int (y.num * S.fdiv y.den)) H
 | _ => False
noncomputable def SlR (cs : List (Int × Rat)) (i : Nat) (s : Rat) : Prop := ∀ c d, cs[i]? = some c -> cs[i + 1]? = some d -> s * ((d.1 - c.1 : Int) : Rat) = d.2 - c.2
noncomputable def h0i : Sp := fun vs H Q _ => match vs with
 | [.ref ct] => ∃ (ps : List Addr) (cs : List (Int × Rat)), H ct = some (.tup (ps.map V.ref)) /\ Crn H ps cs /\ k7v cs /\ 1 <= cs.length /\ cs.length <= 12 /\
   (∀ l H' qs ss, H l = none -> Same H H' -> H' l = some (.lst (List.map V.ref qs)) -> Rts H' qs ss -> ss.length = cs.length -> (∀ s ∈ ss, intBits s.num <= 60 /\ intBits (s.den : Int) <= 60) -> (∀ j s, ss[j]? = some s -> SlR cs j s) -> ss[cs.length - 1]? = some 0 -> Q (.ref l) H')
 | _ => False
noncomputable def j9e (n : Int) (m : Nat) : List Int := (List.range (m + 1)).map fun j => n ^ j
noncomputable def k7w : Sp := fun vs H Q _ => match vs with
 | [.int n, .int t] => ∃ m : Nat, t = m /\ m <= 16 /\ intBits n <= 10 /\ All (h5h H ((j9e n m).map V.int)) Q ⟨⟩ ⟨⟩
 | _ => False
noncomputable def l8b (p q : Int) (t j : Nat) : Int := p ^ j * q ^ (t - j)
noncomputable def l3v (p q : Int) (t : Nat) : List Int := (List.range (t + 1)).map (l8b p q t)
noncomputable def ecF (gt fa : Addr) (n t : Nat) (q : Int) : List (Str × V) := [("gain", .ref gt), ("many", .int n), ("turns", .int t), ("factors", .ref fa), ("factor_bottom", .int (q ^ t))]
noncomputable def IsE (C : Addr) (H : Hp) (o : Addr) (p q : Int) (n t : Nat) : Prop := ∃ dx gt fa, H o = some (.ins C dx (ecF gt fa n t q)) /\ H gt = some (.tup [.int p, .int q]) /\ H fa = some (.tup ((l3v p q t).map V.int))
noncomputable def i5g (C : Addr) : Sp := fun vs H Q _ => match vs with
 | [.ref o, .ref gt, .int n, .int t] => ∃ (dx : Addr) (m tt : Nat) (p q : Int), n = m /\ t = tt /\ tt <= 16 /\ intBits p <= 10 /\ intBits q <= 10 /\ H gt = some (.tup [.int p, .int q]) /\ H o = some (.ins C dx []) /\
   (∀ (fa : Addr) (H1 : Hp), a2i o H H1 -> H fa = none -> H1 o = some (.ins C dx (ecF gt fa m tt q)) -> H1 fa = some (.tup ((l3v p q tt).map V.int)) -> Q .non H1)
 | _ => False
noncomputable def Tps (H : Hp) (qs : List Addr) (vs : List (List V)) : Prop := qs.length = vs.length /\ ∀ (i : Nat) q v, qs[i]? = some q -> vs[i]? = some v -> H q = some (.tup v)
noncomputable def j1a (l : Addr) (H : Hp) (qs : List Addr) (vs : List (List V)) : Prop := qs.length = vs.length /\ ∀ (i : Nat) q v, qs[i]? = some q -> vs[i]? = some v -> q ≠ l /\ H q = some (.tup v)
noncomputable def lnOf (S : Int) (c : Int × Rat) (s : Rat) : Int × Int × Int := (c.1, c.2.num * S.fdiv c.2.den, s.num * S.fdiv s.den)
noncomputable def lnV (l : Int × Int × Int) : List V := [.int l.1, .int l.2.1, .int l.2.2]
noncomputable def SwOk (cs : List (Int × Rat)) (ss : List Rat) (S : Int) : Prop := ss.length = cs.length /\ (∀ j s, ss[j]? = some s -> SlR cs j s) /\ ss[cs.length - 1]? = some 0 /\ 1 <= S /\ intBits S <= 1600 /\ (∀ c ∈ cs, (c.2.den : Int) ∣ S) /\ (∀ s ∈ ss, (s.den : Int) ∣ S) /\ (∀ s ∈ ss, intBits s.num <= 60) /\ intBits S <= 1 + 128 * cs.length
noncomputable def swF (ct ln : Addr) (S : Int) : List (Str × V) := [("corners", .ref ct), ("shared", .int S), ("lines", .ref ln)]
noncomputable def h0j (C : Addr) : Sp := fun vs H Q _ => match vs with
 | [.ref o, .ref l] => ∃ (dx : Addr) (ps : List Addr) (cs : List (Int × Rat)), H o = some (.ins C dx []) /\ H l = some (.lst (ps.map V.ref)) /\ Crn H ps cs /\ k7v cs /\ 1 <= cs.length /\ cs.length <= 12 /\
   (∀ ct ln S ss us H1, a2i o H H1 -> H ct = none -> H1 o = some (.ins C dx (swF ct ln S)) -> H1 ct = some (.tup (ps.map V.ref)) -> H1 ln = some (.tup (us.map V.ref)) -> Tps H1 us ((List.zipWith (lnOf S) cs ss).map lnV) -> SwOk cs ss S -> Q .non H1)
 | _ => False
noncomputable def i5h (C : Addr) : Sp := fun vs H Q _ => match vs with
 | [.ref o, .ref gt] => ∃ dx, H o = some (.ins C dx []) ∧ (∀ H1, a2i o H H1 → H1 o = some (.ins C dx [("gain", .ref gt)]) → Q .non H1)
 | _ => False
noncomputable def h0k (C : Addr) : Sp := fun vs H Q _ => match vs with
 | [.ref o, .int n] => ∃ dx, H o = some (.ins C dx []) ∧ (∀ H1, a2i o H H1 → H1 o = some (.ins C dx [("many", .int n)]) → Q .non H1)
 | _ => False
noncomputable def i5i (C : Addr) : Sp := fun vs H Q _ => match vs with
 | [.ref o, .ref gt, .int n] => ∃ dx, H o = some (.ins C dx []) ∧ (∀ H1, a2i o H H1 → H1 o = some (.ins C dx [("gain", .ref gt), ("many", .int n)]) → Q .non H1)
 | _ => False
noncomputable def i5j (C : Addr) : Sp := fun vs H Q _ => match vs with
 | [.ref o, .ref gt, .int n] => ∃ dx, H o = some (.ins C dx []) ∧ (∀ H1, a2i o H H1 → H1 o = some (.ins C dx [("gain", .ref gt), ("many", .int n)]) → Q .non H1)
 | _ => False
noncomputable def clsOf (A : Ad) : Dt -> Addr
 | .gain _ => A.a9y
 | .delay _ => A.a4z
 | .echo .. => A.a4w
 | .back .. => A.a7u
 | .hall .. => A.a7v
 | .swell _ => A.a3z
noncomputable def gnF (g : Addr) : List (Str × V) := [("gain", .ref g)]
noncomputable def dlF (n : Nat) : List (Str × V) := [("many", .int n)]
noncomputable def bkF (g : Addr) (n : Nat) : List (Str × V) := [("gain", .ref g), ("many", .int n)]
noncomputable def l5m (H : Hp) (fs : List (Str × V)) : Dt -> Prop
 | .gain y => ∃ g, fs = gnF g /\ H g = some (.tup (c8m y))
 | .delay n => fs = dlF n
 | .echo y n t => ∃ g fa, fs = ecF g fa n t (y.den : Int) /\ H g = some (.tup (c8m y)) /\ H fa = some (.tup ((l3v y.num (y.den : Int) t).map V.int))
 | .back y n => ∃ g, fs = bkF g n /\ H g = some (.tup (c8m y))
 | .hall y n => ∃ g, fs = bkF g n /\ H g = some (.tup (c8m y))
 | .swell cs => ∃ ct ln S ss us ps, fs = swF ct ln S /\ H ct = some (.tup (List.map V.ref ps)) /\ H ln = some (.tup (List.map V.ref us)) /\ Tps H us ((List.zipWith (lnOf S) cs ss).map lnV) /\ SwOk cs ss S /\ Crn H ps cs
noncomputable def IsP (A : Ad) (H : Hp) (o : Addr) (d : Dt) : Prop := ∃ dx fs, H o = some (.ins (clsOf A d) dx fs) /\ l5m H fs d
noncomputable def l8c : Sp := fun vs H Q _ => match vs with
 | [.ref p] => ∃ x : Rat, H p = some (.tup (c8m x)) /\ intBits x.num <= 10 /\ intBits (x.den : Int) <= 10 /\ Q (.str (fW x)) H
 | _ => False
noncomputable def l8d : Sp := fun vs H Q _ => match vs with
 | [.ref p] => ∃ (c : Int × Rat) (g : Addr), H p = some (.tup [.int c.1, .ref g]) /\ H g = some (.tup (c8m c.2)) /\ c.1.natAbs < 2 ^ 20 /\ intBits c.2.num <= 10 /\ intBits (c.2.den : Int) <= 10 /\ Q (.str (cW c)) H
 | _ => False
noncomputable def h4m (A : Ad) (k : Nat) : Sp := fun vs H Q _ => match vs with
 | [.ref o] => ∃ d : Dt, d.kd = k /\ IsP A H o d /\ d.ok /\ (∀ H1, Same H H1 -> Q (.str d.word) H1)
 | _ => False
noncomputable def l8e : Sp := fun vs H Q _ => match vs with
 | [.str x] => ∃ y : Rat, x = fW y /\ YOk y /\ All (g0k H (c8m y)) Q ⟨⟩ ⟨⟩
 | _ => False
noncomputable def l8f : Sp := fun vs H Q _ => match vs with
 | [.str x, .int a, .int b] => ∃ n : Nat, sg x = txt (n : Int) /\ n < 10 ^ 9 /\ a <= n /\ (n : Int) <= b /\ Q (.int n) H
 | _ => False
noncomputable def l8g : Sp := fun vs H Q _ => match vs with
 | [.str x] => ∃ n : Nat, x = nW n /\ 1 <= n /\ n <= 1000 /\ Q (.int n) H
 | _ => False
noncomputable def l8h : Sp := fun vs H Q _ => match vs with
 | [.ref l, .int c] => ∃ xs, H l = some (.lst xs) /\ (xs.length : Int) = c /\ Q .non H
 | _ => False
noncomputable def h4n (A : Ad) (k : Nat) : Sp := fun vs H Q _ => match vs with
 | [.ref l] => ∃ d : Dt, d.kd = k /\ d.ok /\ H l = some (.lst (d.vals.map V.str)) /\ (∀ o H1, H o = none -> Same H H1 -> IsP A H1 o d -> Q (.ref o) H1)
 | _ => False
noncomputable def l8i : Sp := fun vs H Q _ => match vs with
 | [.str x] => ∃ c : Int × Rat, x = cW c /\ 0 <= c.1 /\ c.1 <= 100000 /\ YOk c.2 /\ (∀ p g H1, H p = none -> Same H H1 -> H1 p = some (.tup [.int c.1, .ref g]) -> H1 g = some (.tup (c8m c.2)) -> Q (.ref p) H1)
 | _ => False
noncomputable def j9f (A : Ad) : Sp := fun vs H Q _ => match vs with
 | [.str x] => ∃ d : Dt, d.ok /\ x = d.word /\ (∀ o H1, H o = none -> Same H H1 -> IsP A H1 o d -> Q (.ref o) H1)
 | _ => False
noncomputable def f6u (x : Str) : Prop := x.length ≤ 8 ∧ x ≠ Str.ofString "" ∧ ∀ c ∈ x.cps.toList, 97 ≤ c ∧ c ≤ 122
noncomputable def h0l : Sp := fun vs H Q _ => match vs with
 | [.str x] => f6u x /\ (∀ H1, Same H H1 -> Q (.bl true) H1)
 | _ => False
noncomputable def i5k : Sp := fun vs H Q _ => match vs with
 | [.ref o] => All (g0k H []) Q ⟨⟩ ⟨⟩
 | _ => False
noncomputable def j6h (A : Ad) (H : Hp) (os : List Addr) (ds : List Dt) : Prop := os.length = ds.length /\ ∀ (i : Nat) o d, os[i]? = some o -> ds[i]? = some d -> IsP A H o d
noncomputable def k7x (A : Ad) : Sp := fun vs H Q _ => match vs with
 | [.ref l] => ∃ ds : List Dt, H l = some (.lst (ds.map fun d => V.str d.word)) /\ ds.length <= 8 /\ (∀ d ∈ ds, d.ok) /\ (∀ p os H1, H p = none -> (∀ o ∈ os, H o = none) -> Same H H1 -> H1 p = some (.lst (os.map V.ref)) -> j6h A H1 os ds -> Q (.ref p) H1)
 | _ => False
noncomputable def chF (pl sl : Addr) : List (Str × V) := [("parts", .ref pl), ("states", .ref sl)]
noncomputable def ChW (A : Ad) (H : Hp) (o : Addr) (ds : List Dt) : Prop := ∃ dx pl sl os, H o = some (.ins A.a6h dx (chF pl sl)) /\ H pl = some (.lst (os.map V.ref)) /\ j6h A H os ds
noncomputable def g1o : Sp := fun vs H Q _ => match vs with
 | [.ref _] => Q (.int 0) H
 | _ => False
noncomputable def i5l (A : Ad) : Sp := fun vs H Q _ => match vs with
 | [.ref o, .ref l] => ∃ (dx : Addr) (ds : List Dt), H o = some (.ins A.a6h dx []) /\ H l = some (.lst (ds.map fun d => V.str d.word)) /\ ds.length <= 8 /\ (∀ d ∈ ds, d.ok) /\ (∀ H1, a2i o H H1 -> ChW A H1 o ds -> Q .non H1)
 | _ => False
noncomputable def k7y (A : Ad) : Sp := fun vs H Q _ => match vs with
 | [.ref o] => ∃ ds : List Dt, ChW A H o ds /\ ds.length <= 8 /\ (∀ d ∈ ds, d.ok) /\ All (h5h H (ds.map fun d => V.str d.word)) Q ⟨⟩ ⟨⟩
 | _ => False
noncomputable def ptF (t b sd ou : Addr) : List (Str × V) := [("track_names", .ref t), ("bus_names", .ref b), ("told_sends", .ref sd), ("told_outs", .ref ou)]
noncomputable def Eds (H : Hp) (ps : List Addr) (es : List (Str × Str)) : Prop := ps.length = es.length /\ ∀ (i : Nat) p e, ps[i]? = some p -> es[i]? = some e -> ∃ lw : Addr, H p = some (.tup [.str e.1, .str e.2, .ref lw])
noncomputable def k2u (A : Ad) (H : Hp) (o t b sd : Addr) (ts bs : List Str) (es : List (Str × Str)) : Prop := ∃ dx ou ps, H o = some (.ins A.a1q dx (ptF t b sd ou)) /\ H t = some (.lst (ts.map V.str)) /\ H b = some (.lst (bs.map V.str)) /\ H sd = some (.lst (ps.map V.ref)) /\ Eds H ps es /\ t ≠ b /\ t ≠ sd /\ b ≠ sd
noncomputable def k7z (A : Ad) : Sp := fun vs H Q _ => match vs with
 | [.ref o, .str x] => ∃ t b sd ts bs es, k2u A H o t b sd ts bs es /\ f6u x /\ x ∉ ts /\ x ∉ bs /\ (∀ H1, Same H H1 -> Q .non H1)
 | _ => False
noncomputable def c5r (A : Ad) (H : Hp) (N : Addr -> Prop) (o : Addr) (p : Pd) : Prop := ∃ dx t b sd ou, H o = some (.ins A.a1q dx (ptF t b sd ou)) /\ Fl H N t b sd ou p
noncomputable def l8j (A : Ad) : Sp := fun vs H Q _ => match vs with
 | [.ref o] => ∃ dx, H o = some (.ins A.a1q dx []) /\ (∀ H1, a2i o H H1 -> c5r A H1 (fun a => H a = none) o ⟨[], [], [], []⟩ -> Q .non H1)
 | _ => False
noncomputable def k8a (A : Ad) : Sp := fun vs H Q _ => match vs with
 | [.ref o, .str x] => ∃ N p, c5r A H N o p /\ f6u x /\ x ∉ p.ts /\ x ∉ p.bs /\ p.ts.length <= 100 /\ (∀ H1, a4q N H H1 -> c5r A H1 N o ⟨p.ts ++ [x], p.bs, p.es, p.os⟩ -> Q .non H1)
 | _ => False
noncomputable def k8b (A : Ad) : Sp := fun vs H Q _ => match vs with
 | [.ref o, .str x] => ∃ N p, c5r A H N o p /\ f6u x /\ x ∉ p.ts /\ x ∉ p.bs /\ p.bs.length <= 100 /\ (∀ H1, a4q N H H1 -> c5r A H1 N o ⟨p.ts, p.bs ++ [x], p.es, p.os⟩ -> Q .non H1)
 | _ => False
noncomputable def Rch (es : List (Str × Str)) (x y : Str) : Prop := ∀ S : Str -> Prop, S x -> (∀ u v, S u -> (u, v) ∈ es -> S v) -> S y
noncomputable def cnt (es : List (Str × Str)) (ks : List Str) : Nat := (es.filter fun e => decide (e.2 ∉ ks)).length
noncomputable def j6i (H : Hp) (L : Addr) (kvs : List (Key × V)) (ks : List Str) : Prop := kvs.map (·.1) = ks.map kT /\ ∀ kv ∈ kvs, ∃ (l : Addr) (ss : List Str), kv.2 = .ref l /\ l ≠ L /\ H l = some (.lst (ss.map V.str)) /\ ss.length <= kvs.length
noncomputable def k8c (A : Ad) : Sp := fun vs H Q _ => match vs with
 | [.ref o, .str x, .str y] => ∃ t b sd ts bs es, k2u A H o t b sd ts bs es /\ ¬ Rch es x y /\ es.length <= 100 /\ PyData.strOk x = true /\ (∀ e ∈ es, PyData.strOk e.2 = true) /\ All (h5h H []) Q ⟨⟩ ⟨⟩
 | _ => False
noncomputable def j9g (C : Addr) : Sp := fun vs H Q _ => match vs with
 | [.ref o, .int g] => ∃ dx, H o = some (.ins C dx []) /\ 1 <= g /\ g <= 1000000000000 /\ (∀ r H1, H r = none -> a2i o H H1 -> H1 r = some (.tup (c8m 0)) -> H1 o = some (.ins C dx (stF g 0 r)) -> Q .non H1)
 | _ => False
noncomputable def j9h (A : Ad) : Sp := fun vs H Q _ => match vs with
 | [.ref o, .str x, .str y, .ref l] => ∃ (N : Addr -> Prop) (p : Pd) (ds : List Dt), c5r A H N o p /\ H l = some (.lst (ds.map fun d => V.str d.word)) /\ ds.length <= 8 /\ (∀ d ∈ ds, d.ok) /\ (x ∈ p.ts \/ x ∈ p.bs) /\ y ∈ p.bs /\ ¬ Rch (prs p.es) y x /\ p.es.length <= 99 /\ PyData.strOk y = true /\ (∀ e ∈ p.es, PyData.strOk e.2.1 = true) /\ (∀ H1, a4q N H H1 -> c5r A H1 (fun a => N a \/ H a = none) o ⟨p.ts, p.bs, p.es ++ [(x, y, ds.map Dt.word)], p.os⟩ -> Q .non H1)
 | _ => False
noncomputable def k8d (A : Ad) : Sp := fun vs H Q _ => match vs with
 | [.ref o, .str y, .int g] => ∃ (N : Addr -> Prop) (p : Pd), c5r A H N o p /\ y ∈ p.bs /\ (∀ x ∈ p.os, x.1 ≠ y) /\ 1 <= g /\ g <= 1000000000000 /\ p.os.length <= 99 /\ (∀ H1, a4q N H H1 -> c5r A H1 N o ⟨p.ts, p.bs, p.es, p.os ++ [(y, g)]⟩ -> Q .non H1)
 | _ => False
noncomputable def h0m (A : Ad) : Sp := fun vs H Q _ => match vs with
 | [.ref o] => ∃ (N : Addr -> Prop) (p : Pd), c5r A H N o p /\ p.ts.length <= 100 /\ All (h5h H (p.ts.map V.str)) Q ⟨⟩ ⟨⟩
 | _ => False
noncomputable def i5m (A : Ad) : Sp := fun vs H Q _ => match vs with
 | [.ref o] => ∃ (N : Addr -> Prop) (p : Pd), c5r A H N o p /\ p.bs.length <= 100 /\ All (h5h H (p.bs.map V.str)) Q ⟨⟩ ⟨⟩
 | _ => False
noncomputable def j9i (A : Ad) : Sp := fun vs H Q _ => match vs with
 | [.ref o] => ∃ (N : Addr -> Prop) (p : Pd), c5r A H N o p /\ p.os.length <= 100 /\ (∀ l us H1, H l = none -> Same H H1 -> H1 l = some (.lst us) -> RpL H1 (fun a => H a = none /\ a ≠ l) us (p.os.map dOu) -> Q (.ref l) H1)
 | _ => False
noncomputable def i5n (A : Ad) : Sp := fun vs H Q _ => match vs with
 | [.ref o] => ∃ (N : Addr -> Prop) (p : Pd), c5r A H N o p /\ p.es.length <= 100 /\ (∀ e ∈ p.es, e.2.2.length <= 100) /\ (∀ l us H1, H l = none -> Same H H1 -> H1 l = some (.lst us) -> RpL H1 (fun a => H a = none /\ a ≠ l) us (p.es.map dSd) -> Q (.ref l) H1)
 | _ => False
noncomputable def j9j (K : PySem.W.Frag) : Sp := fun vs H Q _ => match vs with | [.ref a, .int k] => ∃ ns : List Int, SqL K H a (ns.map V.int) /\ 0 <= k /\ Q (.int (ns.getD k.toNat 0)) H | _ => False
noncomputable def i5o : Sp := fun vs H Q _ => match vs with | [.int _] => Q (.bl true) H | _ => False
noncomputable def nmC (bl : List Int) (m k j : Nat) : Nat := 97 + ((bl.getD j 0 + (k : Int) * (if j = m then 1 else 0)).fmod 26).toNat
noncomputable def nmS (bl : List Int) (m k n : Nat) : Str := ⟨((List.range n).map (nmC bl m k)).toArray⟩
noncomputable def i5p : Sp := fun vs H Q _ => match vs with
 | [.int c] => intBits c <= 1100000 /\ (∀ (nm : List Str) l H1, nm.length = 12 -> nm.Nodup -> (∀ z ∈ nm, f6u z) -> H l = none -> Same H H1 -> H1 l = some (.lst (nm.map V.str)) -> Q (.ref l) H1)
 | _ => False
noncomputable def l3w (p : Pd) (n : Nat) : Prop := p.ts.length <= n /\ p.bs.length <= n /\ p.es.length <= n /\ p.os.length <= n /\ ∀ e ∈ p.es, e.2.2.length <= 100
noncomputable def i5q (A : Ad) : Sp := fun vs H Q _ => match vs with
 | [.ref o, .bl r] => ∃ (N : Addr -> Prop) (p : Pd), c5r A H N o p /\ l3w p 100 /\ (∀ L H1, Same H H1 -> Qd H1 (fun a => H a = none) L p -> Q (.ref L) H1)
 | _ => False
noncomputable def i5r : Sp := fun vs H Q _ => match vs with
 | [.ref L] => ∃ (N : Addr -> Prop) (p : Pd), Qd H N L p /\ l3w p 100 /\ (∀ H1, Same H H1 -> Q (.bl true) H1)
 | _ => False
noncomputable def i5s : Sp := fun vs H Q _ => match vs with
 | [.ref l, .str x, .str y] => ∃ (N : Addr -> Prop) (us : List V) (es : List Sd), H l = some (.lst us) /\ RpL H N us (es.map dSd) /\ es.length <= 100 /\ (∀ (r : Bool) H1, (r = false -> ¬ Rch (prs es) x y) -> Same H H1 -> Q (.bl r) H1)
 | _ => False
noncomputable def Cls (es : List (Str × Str)) (rs : List Str) : Prop := ∀ u v, u ∈ rs -> (u, v) ∈ es -> v ∈ rs
noncomputable def Jn (A : Ad) (H : Hp) (c : Addr -> Nat) (o L : Addr) (p : Pd) (n : Nat) : Prop := c5r A H (fun z => c z = 1) o p /\ Qd H (fun z => c z = 2) L p /\ l5l p /\ l3w p n
noncomputable def Nx (H : Hp) (c c' : Addr -> Nat) (H1 : Hp) : Prop := (∀ z, H z ≠ none -> c' z = c z) /\ a4q (fun z => c z = 1 \/ c z = 2) H H1
noncomputable def i5t (A : Ad) : Sp := fun vs H Q _ => match vs with
 | [.ref o, .ref L, .int m] => ∃ (c : Addr -> Nat) (p : Pd) (n : Nat), Jn A H c o L p n /\ p.bs ≠ [] /\ n <= 50 /\ (∀ H1 c' p', Nx H c c' H1 -> Jn A H1 c' o L p' (n + 1) -> Q (.bl true) H1)
 | _ => False
noncomputable def j9k (A : Ad) : Sp := fun vs H Q _ => match vs with
 | [.ref o, .ref L, .ref ln, .int m] => ∃ (c : Addr -> Nat) (p : Pd) (n : Nat) (nm : List Str), Jn A H c o L p n /\ H ln = some (.lst (nm.map V.str)) /\ c ln = 0 /\ (∀ z ∈ nm, f6u z) /\ nm.length = 12 /\ n <= 50 /\ (∀ H1 c' p', Nx H c c' H1 -> Jn A H1 c' o L p' (n + 1) -> Q (.bl true) H1)
 | _ => False
noncomputable def wds : List Dt := [.gain (mkRat 1 2), .delay 3, .echo (mkRat (-1) 3) 2 2, .back 2 1, .hall (mkRat 1 2) 4, .swell [(0, 1)], .delay 0, .gain 0]
noncomputable def pvS (q : Str -> Bool) : V -> Bool := fun v => match v with | .str s => q s | _ => false
noncomputable def Hl (H : Hp) (c : Addr -> Nat) (h : Addr) : Prop := ∃ a b d, H h = some (.tup [.ref a, .ref b]) /\ Rp H (fun z => c z = 4) (.ref a) d /\ Rp H (fun z => c z = 4) (.ref b) d /\ PySem.W.kqdOk 4 d = true
local macro_rules | `(tactic| walk_at $s:str) => do
 unless s.getString == "rd" || s.getString == "rd*" do Lean.Macro.throwUnsupported
 let mut ls : Array (Lean.TSyntax [`Lean.Parser.Tactic.simpStar, `Lean.Parser.Tactic.simpErase, `Lean.Parser.Tactic.simpLemma]) := #[]
 if s.getString == "rd*" then
  let y <- `(Lean.Parser.Tactic.simpStar| *)
  ls := ls.push ⟨y.raw⟩
 for n in "k2t k7r k7s j8y k7t i5d j8z k7u j9a j9b j9c i5e h0h i5f h0i k7w i5g h0j i5h h0k i5i i5j l8c l8d h4m l8e l8f l8g l8h h4n l8i j9f h0l i5k k7x g1o i5l k7y k7z l8j k8a k8b k8c j9g j9h k8d h0m i5m j9i i5n j9j i5o i5p i5q i5r i5s i5t j9k l7i iStr rSlA l7j rStrI tFmt l7k l2a l7l l2b m0c tSl3R rSlR l3d k2m l3f l3g l3b l3c l3e l7z l7y l7q rSlG l7o l2o gSub rSetM l2p l2q rIxD rNiD l7x l7r m0c l2l tSl3 rSl3 k6p l7m l5j d3m k4u rInF tAugF l2i rIsI l7n l2j k5a l2k tSeq l6a g4d tC k1a tOp tUn tIfS tRet tRetN l5x tCB l6i k1i l6p l6q l0v tAnd tOr tNot tBF l1t tOrF l1u l5y tIf l6o k6l k4n l9s l9t j7s tSl k6b k4o rIF k9q rUF l6r l6s l9l l9m rIxM rSlM l6t l7c l7d l7b rIsT rAbs rMin rMax l1v rSumF l1x tBMF l7h l7g l1y l9u l9v l9w l9x l0k m0b l9y l9z m0a hAs _root_.L2.start".splitOn " " do
  let i := Lean.mkIdent n.toName
  let y <- `(Lean.Parser.Tactic.simpLemma| ↓$i:ident)
  ls := ls.push ⟨y.raw⟩
 for n in "noxK Bool.bne_false Bool.bne_true noxK noxK asNew lookup_same k4v l2d k9r l5k List.lookup_nil nq0 nq1 nq2 nq3 nq4 nq5 nq6 nq7 nq8 nq9 nq10 nq11 nq12 nq13 nq14 nq15 nq16 nq17 nq18 nq19 nq20 nq21 nq22 nq23 nq24 nq25 nq26 nq27 nq28 nq29 nq30 nq31 nq32 nq33 nq34 nq35 nq36 nq37 nq38 nq39 nq40 nq41 nq42 nq43 nq44 nq45 nq46 nq47 nq48 nq49 nq50 nq51 nq52 nq53 nq54 nq55 nq56 nq57 nq58 nq59 nq60 nq61 nq62 nq63 nq64 nq65 nq66 nq67 nq68 nq69 nq70 nq71 nq72 nq73 nq74 nq75 nq76 nq77 nq78 nq79 nq80 nq81 nq82 nq83 nq84 nq85 nq86 nq87 nq88 nq89 nq90 nq91 nq92 nq93 nq94 nq95 nq96 nq97 nq98 nq99 nq100 nq101 nq102 nq103 nq104 nq105 nq106 nq107 nq108 nq109 nq110 nq111 nq112 nq113 nq114 nq115 nq116 nq117 nq118 nq119 nq120 l9n l9o l9p l9q l9r k4j Ty.nm l9e l9k l1p l1q l1r l1s k4l k6m List.map_cons List.map_nil List.length_cons List.length_nil List.length_map List.replicate List.cons_append List.nil_append List.append_nil List.getElem?_cons_zero List.getElem?_cons_succ List.set_cons_zero List.set_cons_succ Option.some.injEq exists_eq_left' exists_eq_left exists_and_left V.int.injEq V.bl.injEq V.str.injEq V.ref.injEq V.ty.injEq Value.ref.injEq List.cons.injEq HO.lst.injEq HO.tup.injEq Int.zero_add List.length_append and_true true_and l6u l6v l6w l6x l6y two_line if_true reduceCtorEq if_false Bool.false_eq_true decide_eq_true_eq decide_eq_false_iff_not decide_true decide_false Bool.or_true Bool.true_or Bool.or_false Bool.false_or Bool.and_true Bool.true_and Bool.and_false Bool.false_and or_false false_or Nat.zero_add Nat.reduceAdd Nat.reduceSub exists_const false_and and_false Bool.not_true Bool.not_false Bool.not_eq_true' ne_eq not_true_eq_false not_false_eq_true Int.reduceEq Int.reduceNe Int.reduceLT Int.reduceLE Int.reducePow Int.reduceMul Int.reduceAdd Int.reduceSub Int.reduceNeg Int.reduceToNat Nat.reducePow Nat.reduceLT Nat.reduceLeDiff".splitOn " " do
  let i := Lean.mkIdent n.toName
  let y <- `(Lean.Parser.Tactic.simpLemma| $i:ident)
  ls := ls.push ⟨y.raw⟩
 `(tactic| simp (config := { maxSteps := 1000000, dsimp := false }) only [$ls,*])
theorem k2v {l r : Int} (hl : 0 <= l) (hr : 0 < r) : Int.gcd r (l.fmod r) = Int.gcd l r := by
 rw [Int.fmod_eq_emod_of_nonneg _ (by omega)]
 obtain ⟨x, rfl⟩ := Int.eq_ofNat_of_zero_le hl
 obtain ⟨y, rfl⟩ := Int.eq_ofNat_of_zero_le (by omega : 0 <= r)
 rw [<- Int.natCast_emod, Int.gcd_natCast_natCast, Int.gcd_natCast_natCast, Nat.gcd_comm x y, Nat.gcd_rec y x, Nat.gcd_comm]
theorem k8e {l r : Int} (hl : 0 <= l) (hr : 0 < r) : 0 <= l.fmod r /\ l.fmod r < r := by
 rw [Int.fmod_eq_emod_of_nonneg _ (by omega)]
 exact ⟨Int.emod_nonneg _ (by omega), Int.emod_lt_of_pos _ hr⟩
theorem c8i (a : Int) {b : Int} (hb : 0 < b) : 0 <= a.fmod b /\ a.fmod b < b := by
 rw [Int.fmod_eq_emod_of_nonneg _ (by omega)]
 exact ⟨Int.emod_nonneg _ (by omega), Int.emod_lt_of_pos _ hb⟩
theorem k8f (a b : Int) : Int.gcd (a.natAbs : Int) (b.natAbs : Int) = Int.gcd a b := by
 rw [Int.gcd_natCast_natCast]; rfl
theorem gcd_zero {l : Int} (hl : 0 <= l) : ((Int.gcd l 0 : Nat) : Int) = l := by
 rw [Int.gcd_zero_right]; omega
theorem l3x (a b : Int) : (a.natAbs : Int).fdiv (Int.gcd a b : Int) * (b.natAbs : Int) = (Int.lcm a b : Int) := by
 rw [Int.fdiv_eq_ediv_of_nonneg _ (Int.natCast_nonneg _), <- Int.natCast_ediv, <- Int.natCast_mul]
 congr 1
 show a.natAbs / Nat.gcd a.natAbs b.natAbs * b.natAbs = Nat.lcm a.natAbs b.natAbs
 unfold Nat.lcm
 exact Nat.div_mul_right_comm (Nat.gcd_dvd_left _ _) _
theorem lcm_zero {a b : Int} (h : a = 0 \/ b = 0) : Int.lcm a b = 0 := by
 rcases h with rfl | rfl
 ·exact Int.lcm_zero_left _
 ·exact Int.lcm_zero_right _
theorem j1b {a b : Int} {n : Nat} (h : a ≠ 0) (ha : intBits a <= n) : intBits (Int.gcd a b : Int) <= n := by
 refine intBits_le_of_natAbs ?_ ha
 rw [Int.natAbs_natCast]
 exact Nat.le_of_dvd (by omega) (Nat.gcd_dvd_left _ _)
theorem l3y {t b : Int} (hb : b ≠ 0) : t.fdiv (if b < 0 then -(Int.gcd t b : Int) else (Int.gcd t b : Int)) = (Rat.divInt t b).num := by
 rw [Rat.num_divInt, Int.gcd_comm b t]
 have hp : 0 < Int.gcd t b := Int.gcd_pos_of_ne_zero_right t hb
 obtain ⟨k, hk⟩ : (Int.gcd t b : Int) ∣ t := Int.gcd_dvd_left t b
 generalize hg : (Int.gcd t b : Int) = g at *
 have hg0 : 0 < g := by omega
 by_cases h : b < 0
 ·rw [if_pos h, Int.sign_eq_neg_one_of_neg h, hk]
  rw [show g * k = (-g) * (-k) by grind, Int.mul_fdiv_cancel_left _ (by omega), show -1 * (-g * -k) = g * (-k) by grind, Int.mul_ediv_cancel_left _ (by omega)]
 ·rw [if_neg h, Int.sign_eq_one_of_pos (by omega), hk, Int.mul_fdiv_cancel_left _ (by omega), Int.one_mul, Int.mul_ediv_cancel_left _ (by omega)]
theorem l3z {t b : Int} (hb : b ≠ 0) : b.fdiv (if b < 0 then -(Int.gcd t b : Int) else (Int.gcd t b : Int)) = ((Rat.divInt t b).den : Int) := by
 rw [Rat.den_divInt, if_neg hb, Int.gcd_comm b t]
 have hp : 0 < Int.gcd t b := Int.gcd_pos_of_ne_zero_right t hb
 obtain ⟨k, hk⟩ : (Int.gcd t b : Int) ∣ b := Int.gcd_dvd_right t b
 rw [Int.natCast_ediv]
 generalize hg : (Int.gcd t b : Int) = g at *
 have hg0 : 0 < g := by omega
 by_cases h : b < 0
 ·have e : ((b.natAbs : Nat) : Int) = -b := by omega
  rw [if_pos h, e, hk, show g * k = (-g) * (-k) by grind, Int.mul_fdiv_cancel_left _ (by omega), show -(-g * -k) = g * (-k) by grind, Int.mul_ediv_cancel_left _ (by omega)]
 ·have e : ((b.natAbs : Nat) : Int) = b := by omega
  rw [if_neg h, e, hk, Int.mul_fdiv_cancel_left _ (by omega), Int.mul_ediv_cancel_left _ (by omega)]
theorem j1c (q r : Rat) : Rat.divInt (q.num * (r.den : Int) + r.num * (q.den : Int)) ((q.den : Int) * (r.den : Int)) = q + r := by
 conv => rhs; rw [<- Rat.num_divInt_den q, <- Rat.num_divInt_den r]
 rw [Rat.divInt_add_divInt _ _ (by have := q.den_pos; omega) (by have := r.den_pos; omega)]
theorem h6i (q r : Rat) : Rat.divInt (q.num * r.num) ((q.den : Int) * (r.den : Int)) = q * r := by
 conv => rhs; rw [<- Rat.num_divInt_den q, <- Rat.num_divInt_den r]
 rw [Rat.divInt_mul_divInt]
theorem i5u (q : Rat) : (Rat.abs q).num = q.num.natAbs := by
 unfold Rat.abs
 split
 ·rename_i h
  have := Rat.num_nonneg.mpr h
  omega
 ·rename_i h
  have : ¬ 0 <= q.num := fun z => h (Rat.num_nonneg.mp z)
  show -q.num = _
  omega
theorem i5v (q : Rat) : (Rat.abs q).den = q.den := by
 unfold Rat.abs
 split <;> rfl
theorem l4a {t b : Int} (hb : b ≠ 0) : (Rat.divInt t b).num.natAbs <= t.natAbs := by
 rw [Rat.num_divInt]
 have e : (b.sign * t).natAbs = t.natAbs := by
  rw [Int.natAbs_mul, Int.natAbs_sign_of_ne_zero hb, Nat.one_mul]
 rw [<- e]
 exact Int.natAbs_ediv_le_natAbs _ _
theorem l4b {t b : Int} (hb : b ≠ 0) : (Rat.divInt t b).den <= b.natAbs := by
 rw [Rat.den_divInt, if_neg hb]
 exact Nat.div_le_self _ _
theorem g8q (T : Tx K mg A) : a1n P A.wd K mg base CX0 1 A.b5u A.d3g ["one", "other"] k2t := by
 refine T.c2u.ok b7t (fun vs H Q E h => ?_) (fun cdv A' outer s H vs Q E hr h => ?_)
 ·obtain ⟨_, _, rfl, _⟩ := h5q (by unfold k2t at h; exact h)
  rfl
 ·obtain ⟨a, b, rfl, q⟩ := h5q (by unfold k2t at h; exact h)
  have q : Q (.int (Int.gcd a b)) H := q
  have hu := hr.units
  refine ⟨_, (a0i (a1i (i := 2) b7t.nd rfl (Or.inl rfl) (a1l c2h (by rfl) T.g4o boot_abs (a0g (pvF 0) a0j)))
   (a0i (a1i (i := 3) b7t.nd rfl (Or.inl rfl) (a1l c2h (by rfl) T.g4o boot_abs (a0g (pvF 1) a0j)))
   (a0i (h5e PassesOwn.never (a0y (b3g hu) (pvF 3) a0l (a1r _))
   (a0i (a1i (i := 4) b7t.nd rfl (Or.inl rfl) (a2y b7w (pvF 2) (pvF 3)))
   (a0i (a1i (i := 2) b7t.nd rfl (Or.inl rfl) (pvF 3))
   (a0m (a1i (i := 3) b7t.nd rfl (Or.inl rfl) (pvF 4))))))
   (a0m (a0z (pvF 2)))))), ?_⟩
  walk_at "rd"
  refine h5f (fun m σ H1 => ∃ l r z, σ = [some (.int a), some (.int b), some (.int l), some (.int r), z] /\ H1 = H /\ 0 <= l /\ 0 <= r /\ m = r.toNat /\ Int.gcd l r = Int.gcd a b) _
   ⟨_, _, _, rfl, rfl, by omega, by omega, rfl, k8f a b⟩ ?_
  rintro m σ H1 ⟨l, r, z, rfl, rfl, hl, hr', rfl, hg⟩
  walk_at "rd"
  split
  ·rename_i h
   have hp : 0 < r := by omega
   have f := k8e hl hp
   exact ⟨h, _, (by omega : (l.fmod r).toNat < r.toNat), _, _, _, ⟨rfl, rfl, rfl⟩, hr', f.1, rfl, (k2v hl hp).trans hg⟩
  ·rename_i h
   obtain rfl : r = 0 := by omega
   rw [<- hg, gcd_zero hl] at q
   exact q
theorem i5w (T : Tx K mg A) : a1n P A.wd K mg base CX0 2 A.b4n A.d5i ["one", "other"] k7r := by
 have g1p : a1n P A.wd K mg base CX0 1 A.b5u A.d3g ["one", "other"] k2t := g8q T
 refine T.c2v.ok i4p (fun vs H Q E h => ?_) (fun cdv A' outer s H vs Q E hr h => ?_)
 ·obtain ⟨_, _, rfl, _⟩ := h5q (by unfold k7r at h; exact h)
  rfl
 ·obtain ⟨a, b, rfl, ⟨ha, hb, q⟩⟩ := h5q (by unfold k7r at h; exact h)
  have hu := hr.units
  have f3v : a2z 1 _ := hr.mono (by decide)
  refine ⟨_, (a0i (a4j (pw_or (a0y (b7u hu) (pvF 0) a0l (a1r _)) (pw_or1 (a0y (b7u hu) (pvF 1) a0l (a1r _)))).pt
   (a0m (a0z a0l))
   a1j)
   (a0m (a0z (a2y a7y (a2y b7v (a1l c2h (by rfl) T.g4o boot_abs (a0g (pvF 0) a0j)) (a0u g1p f3v (by rfl) T.h6a T.c2u.kp T.f1i .nil a1g (a0g (pvF 0) (a0g (pvF 1) a0j)))) (a1l c2h (by rfl) T.g4o boot_abs (a0g (pvF 1) a0j)))))), ?_⟩
  walk_at "rd"
  split
  ·rename_i h
   rw [lcm_zero h] at q
   exact q
  ·rename_i h
   simp only [not_or] at h
   have hg := j1b (b := b) h.1 ha
   have hn : (Int.gcd a b : Int) ≠ 0 := by
    have := Int.gcd_pos_of_ne_zero_left b h.1
    omega
   refine ⟨⟨hn, Nat.le_trans hg (by decide)⟩, ?_, ?_⟩
   ·exact IntMulOk.of_le (intBits_fdiv_le (intBits_natAbs_le ha)) (intBits_natAbs_le hb) (by decide)
   ·rw [l3x]
    exact q
theorem j1d {t b : Int} {n : Nat} (hb : b ≠ 0) (h : intBits t <= n) : intBits (Rat.divInt t b).num <= n := intBits_le_of_natAbs (l4a hb) h
theorem j1e {t b : Int} {n : Nat} (hb : b ≠ 0) (h : intBits b <= n) : intBits ((Rat.divInt t b).den : Int) <= n := by
 refine intBits_le_of_natAbs ?_ h
 rw [Int.natAbs_natCast]
 exact l4b hb
theorem g1q (T : Tx K mg A) : a1n P A.wd K mg base CX0 1 A.b4l A.d5g ["value"] k7s := by
 refine T.b4t.ok i4n (fun vs H Q E h => ?_) (fun cdv A' outer s H vs Q E hr h => ?_)
 ·obtain ⟨_, rfl, _⟩ := k9u (by unfold k7s at h; exact h)
  rfl
 ·obtain ⟨i, rfl, q⟩ := k9u (by unfold k7s at h; exact h)
  have hu := hr.units
  refine ⟨_, (a0m (a0z (i4b (a1l (b0i .int) (by rfl) T.a1v boot_isinstance (a0g (pvF 0) (a0g (b6g (v := .ty "int") (u := .type "int") (by rfl) T.g1g rfl rfl) a0j))) (j6n (j7r (a1l (b0i .bl) (by rfl) T.a1v boot_isinstance (a0g (pvF 0) (a0g (b6g (v := .ty "bool") (u := .type "bool") (by rfl) T.g8p rfl rfl) a0j)))))))), ?_⟩
  walk_at "rd"
  exact q
theorem d6o (T : Tx K mg A) : a1n P A.wd K mg base CX0 2 A.b4o A.d5j ["top", "bottom"] j8y := by
 have d3j : a1n P A.wd K mg base CX0 1 _ _ _ _ := g1q T
 have g1p : a1n P A.wd K mg base CX0 1 _ _ _ _ := g8q T
 refine T.b4u.ok d4z (fun vs H Q E h => ?_) (fun cdv A' outer s H vs Q E hr h => ?_)
 ·obtain ⟨_, _, rfl, _⟩ := h5q (by unfold j8y at h; exact h)
  rfl
 ·obtain ⟨t, b, rfl, ⟨hb, h1, h2, k⟩⟩ := h5q (by unfold j8y at h; exact h)
  have hu := hr.units
  have c5s : a2z 1 _ := hr.mono (by decide)
  have f3v : a2z 1 _ := hr.mono (by decide)
  refine ⟨_, (a0i (a4j (pw_or (b2z (a4y (a0u d3j c5s (by rfl) T.f3k T.b4t.kp T.c2s .nil a1g (a0g (pvF 0) a0j)))) (pw_or1 (b2z (a4y (a0u d3j c5s (by rfl) T.f3k T.b4t.kp T.c2s .nil a1g (a0g (pvF 1) a0j)))))).pt
   (a0m a2k)
   a1j)
   (a0i (a4j (a0y (b7u hu) (pvF 1) a0l (a1r _))
   (a0m a2k)
   a1j)
   (a0i (a1i (i := 2) d4z.nd rfl (Or.inl rfl) (a0u g1p f3v (by rfl) T.h6a T.c2u.kp T.f1i .nil a1g (a0g (pvF 0) (a0g (pvF 1) a0j))))
   (a7z (a4j (a0y of_lt (pvF 1) a0l (a1r _))
   (a0m (a1i (i := 2) d4z.nd rfl (Or.inl rfl) (l0o k4m (pvF 2))))
   a1j)
   (a0m (a0z (a9z (a0g (a2y b7v (pvF 0) (pvF 2)) (a0g (a2y b7v (pvF 1) (pvF 2)) a0j))))))))), ?_⟩
  walk_at "rd"
  rw [if_neg hb]
  refine ⟨fun σ' H' => σ' = [some (.int t), some (.int b), some (.int (if b < 0 then -(Int.gcd t b : Int) else (Int.gcd t b : Int)))] /\ H' = H, ?_, ?_⟩
  ·walk_at "rd"
   split
   ·rfl
   ·rfl
  ·rintro σ' H' ⟨rfl, rfl⟩
   have hg : intBits (Int.gcd t b : Int) <= 4000 := by
    rw [Int.gcd_comm]
    exact j1b hb h2
   have hp : 0 < Int.gcd t b := Int.gcd_pos_of_ne_zero_right t hb
   have hc : CFd t (if b < 0 then -(Int.gcd t b : Int) else (Int.gcd t b : Int)) := by
    split
    ·exact ⟨by omega, Nat.le_trans (intBits_neg_le hg) (by decide)⟩
    ·exact ⟨by omega, Nat.le_trans hg (by decide)⟩
   walk_at "rd"
   refine ⟨hc, hc, fun p H1 n1 S1 h1 => k _ _ ⟨p, rfl, n1, S1, ?_⟩⟩
   rw [h1, l3y hb, l3z hb]
   rfl
theorem h6j {n : Nat} (h : n < 10 ^ 9) : n.log2 < 1920 := by
 rcases Nat.eq_zero_or_pos n with z | z
 ·rw [z]; decide
 ·rw [Nat.log2_lt (by omega)]
  exact Nat.lt_of_lt_of_le h (Nat.le_trans (by decide : 10 ^ 9 <= 2 ^ 30) (Nat.pow_le_pow_right (by decide) (by decide)))
theorem g8r {t : Int} (h : t.natAbs < 10 ^ 9) : intBits t <= 4000 := by
 refine Nat.le_trans (intBits_le_iff.mpr (Nat.lt_of_lt_of_le h (by decide : 10 ^ 9 <= 2 ^ 30))) (by decide)
theorem g8s (T : Tx K mg A) : a1n P A.wd K mg base CX0 1 A.a8i A.c3w ["text"] k7t := by
 refine T.b1v.ok f0w (fun vs H Q E h => ?_) (fun cdv A' outer s H vs Q E hr h => ?_)
 ·obtain ⟨_, rfl, _⟩ := i3p (by unfold k7t at h; exact h)
  rfl
 ·obtain ⟨x, rfl, q⟩ := i3p (by unfold k7t at h; exact h)
  have q : Q (.bl (j7y (sg x))) H := q
  have hu := hr.units
  refine ⟨_, (a0i (a7w PassesOwn.never rfl (k4t (pvF 0)) (a3v (i := 1) f0w.nd rfl (Or.inl rfl))
   (a0m (a4j (a0y b5r (pvF 1) (a5v (v := .str "0123456789") (by rfl) T.c3m T.j2r) (by rfl))
   (a0m (a0z d4s))
   a1j)))
   (a0m (a0z (b6i (b3g hu) (pvF 0) a3s (a1r _))))), ?_⟩
  walk_at "rd"
  refine k2a (fun i σ H1 => H1 = H /\ (∃ z, σ = [some (.str x), z]) /\ ((sg x).take i).all (fun c => decide (48 <= c) && decide (c <= 57)) = true) ⟨rfl, ⟨_, rfl⟩, rfl⟩ ?_ ?_
  ·rintro i c σ H1 hc ⟨rfl, ⟨z, rfl⟩, ha⟩
   walk_at "rd"
   have hc' : (sg x)[i]? = some c := by
    unfold sg
    rw [Array.getElem?_toList]
    exact hc
   rw [k6r]
   split
   ·rename_i hb
    have : j7y (sg x) = false := by
     unfold j7y
     rw [show (sg x).all (fun c => decide (48 <= c) && decide (c <= 57)) = false from ?_, Bool.false_and]
     rw [List.all_eq_false]
     exact ⟨c, List.mem_of_getElem? hc', by rw [hb]; decide⟩
    rw [this] at q
    exact q
   ·rename_i hb
    refine ⟨⟨_, rfl⟩, ?_⟩
    rw [List.take_add_one, hc', List.all_append, ha]
    simpa using hb
  ·rintro σ H1 ⟨rfl, ⟨z, rfl⟩, ha⟩
   walk_at "rd"
   have hl : x.cps.size = (sg x).length := by simp
   rw [hl, List.take_length] at ha
   have e : j7y (sg x) = !decide (x = Str.ofString "") := by
    unfold j7y
    rw [ha, Bool.true_and]
    congr 1
    rw [Bool.eq_iff_iff, decide_eq_true_eq, List.isEmpty_iff]
    exact ⟨fun h => c2j (h.trans (by decide +kernel)), fun h => by rw [h]; decide +kernel⟩
   rw [e] at q
   exact q
theorem k2w (T : Tx K mg A) : a1n P A.wd K mg base CX0 1 A.a3y A.b0l ["one"] i5d := by
 refine T.a1z.ok a5h (fun vs H Q E h => ?_) (fun cdv A' outer s H vs Q E hr h => ?_)
 ·obtain ⟨_, rfl, _⟩ := b3h (by unfold i5d at h; exact h)
  rfl
 ·obtain ⟨p, rfl, ⟨t, b, hp, l1, l2, q⟩⟩ := b3h (by unfold i5d at h; exact h)
  have hu := hr.units
  refine ⟨_, (a0i (a1i (i := 1) a5h.nd rfl (Or.inl rfl) (a0v a3j (pvF 0) a0l (fun _ _ => rfl)))
   (a0i (a1i (i := 2) a5h.nd rfl (Or.inl rfl) (a0v a3j (pvF 0) a0l (fun _ _ => rfl)))
   (a0m (a0z (b2j (a3k (b6p (pvF 1)) (a3k a3s (a3k (b6p (pvF 2)) f0u)))))))), ?_⟩
  walk_at "rd*"
  have e0 : Str.empty.length = 0 := rfl
  have e1 : (Str.ofString "/").length = 1 := by decide +kernel
  have e2 : (Str.ofString (toString t)).length = (txt t).length := by rw [<- c8s, c8h]
  have e3 : (Str.ofString (toString b)).length = (txt b).length := by rw [<- c8s, c8h]
  have f2 := i4f t
  have f3 := i4f b
  have hs : sizeLine = 16777216 := sizeLine_eq
  simp only [strLen_append, e0, e1, e2, e3]
  refine ⟨by omega, by omega, by omega, by omega, q _ ?_⟩
  rw [a3w, a3w, a3w, c8h, c8h]
  unfold k2c
  have e4 : sg Str.empty = [] := rfl
  have e5 : sg (Str.ofString "/") = [47] := by decide +kernel
  rw [e4, e5]
  simp
theorem k8g (T : Tx K mg A) : a1n P A.wd K mg base CX0 3 A.a4u A.b6j ["text"] j8z := by
 have d0t : a1n P A.wd K mg base CX0 1 _ _ _ _ := g8s T
 have a2h : a1n P A.wd K mg base CX0 1 _ _ _ _ := k2w T
 have c3p : a1n P A.wd K mg base CX0 2 _ _ _ _ := d6o T
 refine T.a8u.ok a7p (fun vs H Q E h => ?_) (fun cdv A' outer s H vs Q E hr h => ?_)
 ·obtain ⟨_, rfl, _⟩ := i3p (by unfold j8z at h; exact h)
  rfl
 ·obtain ⟨x, rfl, ⟨t, b, g, k⟩⟩ := i3p (by unfold j8z at h; exact h)
  have hu := hr.units
  have c5t : a2z 1 _ := hr.mono (by decide)
  have a1u : a2z 1 _ := hr.mono (by decide)
  have b8z : a2z 2 _ := hr.mono (by decide)
  obtain ⟨hx, hb, hg, l1, l2⟩ := g
  have hb0 : b ≠ 0 := by omega
  have tb : txt b = dg b.natAbs := if_neg (by omega)
  have sl : Str.ofString "/" = ⟨#[47]⟩ := by decide +kernel
  have mi : Str.ofString "-" = ⟨#[45]⟩ := by decide +kernel
  have sp := k2b (x := x) (c := 47) (by decide) hx (d3o (by decide) (by decide)) (d3o (by decide) (by decide))
  have hs : sizeLine = 16777216 := sizeLine_eq
  have q1 := l2g t
  have xl : x.length = (txt t).length + ((txt b).length + 1) := by rw [<- c8s, hx]; simp [k2c]
  rw [tb] at xl
  obtain ⟨h0, e0⟩ : ∃ h0 : Str, h0 = ⟨(txt t).toArray⟩ := ⟨_, rfl⟩
  obtain ⟨h1, e1⟩ : ∃ h1 : Str, h1 = ⟨(txt b).toArray⟩ := ⟨_, rfl⟩
  have s0 : sg h0 = txt t := by rw [e0]
  have s1 : sg h1 = txt b := by rw [e1]
  have n0 : h0.length = (txt t).length := by rw [<- c8s, s0]
  have n1 : h1.length = (txt b).length := by rw [<- c8s, s1]
  rw [<- e0, <- e1] at sp
  have sw := l2h s0
  have i0 := f2s s0 (by omega)
  have i1 := f2s s1 (by rw [tb] at n1; omega)
  have r0 : Rat.divInt t b = ⟨t, b.toNat, by omega, by
   show Nat.gcd t.natAbs b.toNat = 1
   rw [<- hg]
   unfold Int.gcd
   congr 1
   omega⟩ := by
   rw [Rat.mk_eq_divInt]
   congr 1
   omega
  refine ⟨_, (a0i (a4j (b2z (a4y (a1l (b0i .str) (by rfl) T.a1v boot_isinstance (a0g (pvF 0) (a0g (b6g (v := .ty "str") (u := .type "str") (by rfl) T.i5b rfl rfl) a0j)))))
   (a0m a2k)
   a1j)
   (a0i (a1i (i := 1) a7p.nd rfl (Or.inl rfl) (a7o b8g PySem.F.plainAttrs_str PySem.F.slot_str_split PySem.F.type_str_split f9t (pvF 0) (a0g a3s a0j)))
   (a0i (a4j (a0y (b3g hu) (a1l a3p (by rfl) T.b8w boot_len (a0g (pvF 1) a0j)) a0l (a1r _))
   (a0m a2k)
   a1j)
   (a7z (a1i (i := 2) a7p.nd rfl (Or.inl rfl) (k0z (a4y (a7o b8g PySem.F.plainAttrs_str PySem.F.slot_str_startswith PySem.F.type_str_startswith f0t (a0v a3j (pvF 1) a0l (fun _ _ => rfl)) (a0g a3s a0j))) (b5i k6n (a0v a3j (pvF 1) a0l (fun _ _ => rfl)) (b2h a0l) c3r) (a0v a3j (pvF 1) a0l (fun _ _ => rfl))))
   (a0i (a7w PassesOwn.never rfl (a3o (a2j (a0g (pvF 2) (a0g (a0v a3j (pvF 1) a0l (fun _ _ => rfl)) a0j)))) (a3v (i := 3) a7p.nd rfl (Or.inl rfl))
   (a0m (a4j (pw_or (b2z (a4y (a0u d0t c5t (by rfl) T.f6q T.b1v.kp T.c0g .nil a1g (a0g (pvF 3) a0j)))) (pw_or1 (a0y g4e (a1l a3p (by rfl) T.b8w boot_len (a0g (pvF 3) a0j)) (a5v (v := .int 9) (by rfl) T.a3r T.c8o) (a1r _)))).pt
   (a0m a2k)
   a1j)))
   (a0i (a4j (a0y (b7u hu) (a5k c8r (by rfl) T.g1g boot_int (a0g (a0v a3j (pvF 1) a0l (fun _ _ => rfl)) a0j)) a0l (a1r _))
   (a0m a2k)
   a1j)
   (a0i (a1i (i := 4) a7p.nd rfl (Or.inl rfl) (a0u c3p b8z (by rfl) T.f3n T.b4u.kp T.c2w .nil a1g (a0g (a5k c8r (by rfl) T.g1g boot_int (a0g (a0v a3j (pvF 1) a0l (fun _ _ => rfl)) a0j)) (a0g (a5k c8r (by rfl) T.g1g boot_int (a0g (a0v a3j (pvF 1) a0l (fun _ _ => rfl)) a0j)) a0j))))
   (a0i (a4j (a0y (b3g hu) (a0u a2h a1u (by rfl) T.a6i T.a1z.kp T.a4g .nil a1g (a0g (pvF 4) a0j)) (pvF 0) (a1r _))
   (a0m a2k)
   a1j)
   (a0m (a0z (pvF 4))))))))))), ?_⟩
  rw [sl, mi]
  have hx' : id (sg x = k2c t b) := hx
  clear e0 e1 hx sl mi
  have d1 : ((⟨#[47]⟩ : Str).length == 0) = false := rfl
  have d2 : x.length <= sizeLine := by omega
  have d3 : 2 <= sizeLine := by omega
  have d4 : h0.length <= sizeLine := by omega
  have d5 : h1.length <= sizeLine := by rw [tb] at n1; omega
  have N0 : h0.length <= 10 := by omega
  have N1 : h1.length <= 9 := by rw [tb] at n1; omega
  clear xl n0 n1 q1 hs
  walk_at "rd*"
  intro p H1 n1' S1 h1'
  walk_at "rd*"
  rw [if_neg (by decide)]
  refine ⟨fun σ' H' => ∃ top : Str, sg top = dg t.natAbs /\ σ' = [some (.str x), some (.ref p), some (.str top), none, none] /\ H' = H1, ?_, ?_⟩
  ·walk_at "rd*"
   split
   ·rename_i ht
    have z := k6s (x := h0) (i := 1) (by
     rw [<- c8s, s0]
     unfold txt
     rw [if_pos ht]
     simp)
    rw [show ((1 : Nat) : Int) = 1 from rfl] at z
    refine ⟨_, ?_, rfl⟩
    rw [z, s0]
    unfold txt
    rw [if_pos ht]
    rfl
   ·rename_i ht
    refine ⟨_, ?_, rfl⟩
    rw [s0]
    unfold txt
    rw [if_neg ht]
  ·rintro σ' H' ⟨top, st, rfl, rfl⟩
   walk_at "rd*"
   intro q H2 n2 S2 h2
   walk_at "rd*"
   have hp2 := S2 _ _ h1'
   refine ⟨⟨_, SqL.of h2⟩, ?_⟩
   have f0 : j7y (sg top) = true := by rw [st]; exact g9i.mpr ⟨d3n _, j7x _⟩
   have f1 : j7y (sg h1) = true := by rw [s1, tb]; exact g9i.mpr ⟨d3n _, j7x _⟩
   have m0 : top.length <= 9 := by rw [<- c8s, st]; exact l1
   have m1 : top.length <= sizeLine := Nat.le_trans m0 (by decide)
   refine b0g (xs := [.str top, .str h1]) (fun i σ H' => H' = H2 /\ ∃ z, σ = [some (.str x), some (.ref p), some (.str top), z, none]) ⟨rfl, _, rfl⟩ (fun i σ H' _ h => by rw [h.1]; exact SqL.of h2) ?_ ?_
   ·rintro i v σ H' hv ⟨rfl, z, rfl⟩
    match i, hv with
    | 0, hv =>
     cases hv
     walk_at "rd*"
     rw [st] at f0
     rw [f0, if_neg (by simp; omega)]
     exact ⟨_, rfl⟩
    | 1, hv =>
     cases hv
     walk_at "rd*"
     rw [s1, tb] at f1
     rw [f1, if_neg (by simp; omega)]
     exact ⟨_, rfl⟩
    | i + 2, hv => cases hv
   ·rintro σ H' ⟨rfl, z, rfl⟩
    walk_at "rd*"
    have v1 : t.natAbs < 10 ^ 9 := by
     have := k4y (d3n t.natAbs)
     rw [j0m] at this
     exact Nat.lt_of_lt_of_le this (Nat.pow_le_pow_right (by decide) l1)
    have v2 : b.natAbs < 10 ^ 9 := by
     have := k4y (d3n b.natAbs)
     rw [j0m] at this
     exact Nat.lt_of_lt_of_le this (Nat.pow_le_pow_right (by decide) l2)
    have g1 : t.natAbs.log2 < 1920 := h6j v1
    have g2 : b.natAbs.log2 < 1920 := h6j v2
    refine ⟨by omega, by omega, by omega, g8r v1, g8r v2, ?_⟩
    rw [r0]
    rintro _ H3 ⟨o, rfl, n3, S3, h3⟩
    replace h3 : H3 o = some (.tup [.int t, .int b]) := by
     rw [h3]
     unfold c8m
     show some (HO.tup [V.int t, V.int ((b.toNat : Nat) : Int)]) = _
     rw [Int.toNat_of_nonneg (by omega)]
    walk_at "rd*"
    refine ⟨t, b, ⟨rfl, rfl⟩, g1, g2, fun y hy => ?_⟩
    rw [if_neg (not_not_intro (c2j (hy.trans hx'.symm)))]
    refine k _ _ ⟨o, rfl, ?_, fun c u e => S3 _ _ (S2 _ _ (S1 _ _ e)), h3⟩
    cases e : H o with
    | none => rfl
    | some u =>
     have := S2 _ _ (S1 _ _ e)
     rw [n3] at this
     cases this
theorem j9l {x : Str} {n : Nat} (h : sg x = txt (n : Int)) : (Txt.startswith x ⟨#[48]⟩ && !decide (x = (⟨#[48]⟩ : Str))) = false := by
 have e : txt (n : Int) = dg n := if_neg (by omega)
 rw [e] at h
 rcases Nat.eq_zero_or_pos n with z | z
 ·subst z
  have : x = ⟨#[48]⟩ := c2j (by rw [h]; rfl)
  rw [this]
  simp
 ·obtain ⟨c, r, e1, e2⟩ := k6q z
  rw [k4z, h, e1]
  simp [e2]
theorem l4c (T : Tx K mg A) : a1n P A.wd K mg base CX0 2 A.b4m A.d5h ["text"] k7u := by
 have d0t : a1n P A.wd K mg base CX0 1 _ _ _ _ := g8s T
 refine T.c2t.ok i4o (fun vs H Q E h => ?_) (fun cdv A' outer s H vs Q E hr h => ?_)
 ·obtain ⟨_, rfl, _⟩ := i3p (by unfold k7u at h; exact h)
  rfl
 ·obtain ⟨x, rfl, ⟨n, hx, hn, q⟩⟩ := i3p (by unfold k7u at h; exact h)
  have hu := hr.units
  have c5t : a2z 1 _ := hr.mono (by decide)
  have sl : Str.ofString "0" = ⟨#[48]⟩ := by decide +kernel
  refine ⟨_, (a0i (a4j (pw_or (b2z (a4y (a0u d0t c5t (by rfl) T.f6q T.b1v.kp T.c0g .nil a1g (a0g (pvF 0) a0j)))) (pw_or1 (a0y g4e (a1l a3p (by rfl) T.b8w boot_len (a0g (pvF 0) a0j)) (a5v (v := .int 13) (by rfl) T.a3q T.c8n) (a1r _)))).pt
   (a0m (a0z f9z))
   a1j)
   (a0i (a4j (pw_and (a4y (a7o b8g PySem.F.plainAttrs_str PySem.F.slot_str_startswith PySem.F.type_str_startswith f0t (pvF 0) (a0g a3s a0j))) (pw_and1 (a0y (b3g hu) (pvF 0) a3s (a1r _)))).pt
   (a0m (a0z f9z))
   a1j)
   (a0m (a0z (a5k c8r (by rfl) T.g1g boot_int (a0g (pvF 0) a0j)))))), ?_⟩
  rw [sl]
  walk_at "rd*"
  have e : txt (n : Int) = dg n := if_neg (by omega)
  have f : j7y (txt (n : Int)) = true := by rw [e]; exact g9i.mpr ⟨d3n _, j7x _⟩
  have lx : x.length <= 11 := by
   rw [<- c8s, hx, e]
   have a := k2i 8 n (by omega)
   omega
  have sw := j9l hx
  have hs : sizeLine = 16777216 := sizeLine_eq
  rw [f, if_neg (by decide)]
  refine ⟨by omega, ?_⟩
  rw [if_neg ?_]
  ·exact ⟨_, f2s hx (by omega), by omega, q⟩
  ·rintro (z | ⟨z1, z2⟩)
   ·omega
   ·rw [z1, Bool.true_and] at sw
    simp [z2] at sw
theorem k5i (x : Rat) : (x.den : Int) ≠ 0 := by
 have := x.den_pos
 omega
theorem h0n (x y : Rat) : (x.den : Int) * (y.den : Int) ≠ 0 := Int.mul_ne_zero (k5i x) (k5i y)
theorem k8h (T : Tx K mg A) : a1n P A.wd K mg base CX0 3 A.g0s A.i4t ["one", "other"] j9a := by
 have c3p : a1n P A.wd K mg base CX0 2 _ _ _ _ := d6o T
 refine T.h6b.ok k7l (fun vs H Q E h => ?_) (fun cdv A' outer s H vs Q E hr h => ?_)
 ·obtain ⟨_, _, rfl, _⟩ := f8h (by unfold j9a at h; exact h)
  rfl
 ·obtain ⟨p, q, rfl, ⟨x, y, ⟨hp, hq, b1, b2, b3, b4⟩, k⟩⟩ := f8h (by unfold j9a at h; exact h)
  have hu := hr.units
  have b8z : a2z 2 _ := hr.mono (by decide)
  unfold c8m at hp hq
  refine ⟨_, (a0m (a0z (a0u c3p b8z (by rfl) T.f3n T.b4u.kp T.c2w .nil a1g (a0g (a2y b0p (a2y a7y (a0v a3j (pvF 0) a0l (fun _ _ => rfl)) (a0v a3j (pvF 1) a0l (fun _ _ => rfl))) (a2y a7y (a0v a3j (pvF 1) a0l (fun _ _ => rfl)) (a0v a3j (pvF 0) a0l (fun _ _ => rfl)))) (a0g (a2y a7y (a0v a3j (pvF 0) a0l (fun _ _ => rfl)) (a0v a3j (pvF 1) a0l (fun _ _ => rfl))) a0j))))), ?_⟩
  walk_at "rd*"
  refine ⟨by walk_at "mul", by walk_at "mul", by walk_at "mul", h0n x y, by walk_at "le", by walk_at "le", ?_⟩
  rw [j1c]
  exact k
theorem k8i (T : Tx K mg A) : a1n P A.wd K mg base CX0 3 A.d5k A.g9s ["one", "other"] j9b := by
 have c3p : a1n P A.wd K mg base CX0 2 _ _ _ _ := d6o T
 refine T.f3o.ok k2q (fun vs H Q E h => ?_) (fun cdv A' outer s H vs Q E hr h => ?_)
 ·obtain ⟨_, _, rfl, _⟩ := f8h (by unfold j9b at h; exact h)
  rfl
 ·obtain ⟨p, q, rfl, ⟨x, y, ⟨hp, hq, b1, b2, b3, b4⟩, k⟩⟩ := f8h (by unfold j9b at h; exact h)
  have hu := hr.units
  have b8z : a2z 2 _ := hr.mono (by decide)
  unfold c8m at hp hq
  refine ⟨_, (a0m (a0z (a0u c3p b8z (by rfl) T.f3n T.b4u.kp T.c2w .nil a1g (a0g (a2y a7y (a0v a3j (pvF 0) a0l (fun _ _ => rfl)) (a0v a3j (pvF 1) a0l (fun _ _ => rfl))) (a0g (a2y a7y (a0v a3j (pvF 0) a0l (fun _ _ => rfl)) (a0v a3j (pvF 1) a0l (fun _ _ => rfl))) a0j))))), ?_⟩
  walk_at "rd*"
  refine ⟨by walk_at "mul", by walk_at "mul", h0n x y, by walk_at "le", by walk_at "le", ?_⟩
  rw [h6i]
  exact k
theorem k8j (T : Tx K mg A) : a1n P A.wd K mg base CX0 1 A.b8i A.f2w ["one"] j9c := by
 refine T.c9z.ok j2g (fun vs H Q E h => ?_) (fun cdv A' outer s H vs Q E hr h => ?_)
 ·obtain ⟨_, rfl, _⟩ := b3h (by unfold j9c at h; exact h)
  rfl
 ·obtain ⟨p, rfl, ⟨x, hp, k⟩⟩ := b3h (by unfold j9c at h; exact h)
  have hu := hr.units
  unfold c8m at hp
  refine ⟨_, (a0m (a0z (a9z (a0g (a1l c2h (by rfl) T.g4o boot_abs (a0g (a0v a3j (pvF 0) a0l (fun _ _ => rfl)) a0j)) (a0g (a0v a3j (pvF 0) a0l (fun _ _ => rfl)) a0j))))), ?_⟩
  walk_at "rd*"
  intro b H1 n1 S1 h1
  refine k _ _ ⟨b, rfl, n1, S1, ?_⟩
  rw [h1]
  unfold c8m
  rw [i5u, i5v]
theorem k2x (T : Tx K mg A) : a1n P A.wd K mg base CX0 1 A.b4p A.d5l ["one", "other"] i5e := by
 refine T.c2y.ok i4q (fun vs H Q E h => ?_) (fun cdv A' outer s H vs Q E hr h => ?_)
 ·obtain ⟨_, _, rfl, _⟩ := f8h (by unfold i5e at h; exact h)
  rfl
 ·obtain ⟨p, q, rfl, ⟨x, y, ⟨hp, hq, b1, b2, b3, b4⟩, k⟩⟩ := f8h (by unfold i5e at h; exact h)
  have hu := hr.units
  unfold c8m at hp hq
  refine ⟨_, (a0m (a0z (b6i of_lt (a2y a7y (a0v a3j (pvF 0) a0l (fun _ _ => rfl)) (a0v a3j (pvF 1) a0l (fun _ _ => rfl))) (a2y a7y (a0v a3j (pvF 1) a0l (fun _ _ => rfl)) (a0v a3j (pvF 0) a0l (fun _ _ => rfl))) (a1r _)))), ?_⟩
  walk_at "rd*"
  exact ⟨by walk_at "mul", by walk_at "mul"⟩
theorem l4d {p q : Int} (h : 1 <= q) (g : Int.gcd p q = 1) : ∃ y : Rat, y.num = p /\ (y.den : Int) = q := by
 refine ⟨⟨p, q.toNat, by omega, ?_⟩, rfl, ?_⟩
 ·show Nat.gcd p.natAbs q.toNat = 1
  rw [show q.toNat = q.natAbs by omega]
  exact g
 ·show ((q.toNat : Nat) : Int) = q
  omega
theorem h6k {x y : Rat} {a b c d : Nat} (h1 : intBits x.num <= a) (h2 : intBits (x.den : Int) <= b) (h3 : intBits y.num <= c) (h4 : intBits (y.den : Int) <= d) : intBits (x * y).num <= a + c /\ intBits ((x * y).den : Int) <= b + d := by
 rw [<- h6i]
 have ne : (x.den : Int) * (y.den : Int) ≠ 0 := h0n x y
 exact ⟨j1d ne (intBits_mul_le h1 h3), j1e ne (intBits_mul_le h2 h4)⟩
theorem j2v {x y : Rat} {a : Nat} (h1 : intBits x.num <= a) (h2 : intBits (x.den : Int) <= a) (h3 : intBits y.num <= a) (h4 : intBits (y.den : Int) <= a) : intBits (x + y).num <= a + a + 1 /\ intBits ((x + y).den : Int) <= a + a := by
 rw [<- j1c]
 have ne : (x.den : Int) * (y.den : Int) ≠ 0 := h0n x y
 refine ⟨j1d ne ?_, j1e ne (intBits_mul_le h2 h4)⟩
 have := intBits_add_le (intBits_mul_le h1 h4) (intBits_mul_le h3 h2)
 omega
theorem j0z.rts {l : Addr} {H : Hp} {qs : List Addr} {ss : List Rat} (h : j0z l H qs ss) : Rts H qs ss := ⟨h.1, fun i q s e1 e2 => (h.2 i q s e1 e2).2⟩
theorem Rts.same {H H' : Hp} {qs : List Addr} {ss : List Rat} (h : Rts H qs ss) (S : Same H H') : Rts H' qs ss := ⟨h.1, fun i q s e1 e2 => S _ _ (h.2 i q s e1 e2)⟩
theorem Rts.d4v {o : Addr} {H H' : Hp} {qs : List Addr} {ss : List Rat} {C dx : Addr} {fs : List (Str × V)} (h : Rts H qs ss) (ho : H o = some (.ins C dx fs)) (S : a2i o H H') : Rts H' qs ss :=
 ⟨h.1, fun i q s e1 e2 => S _ _ (fun z => by have := h.2 i q s e1 e2; rw [z, ho] at this; cases this) (h.2 i q s e1 e2)⟩
theorem j0z.d4v {l : Addr} {H H' : Hp} {qs : List Addr} {ss : List Rat} (h : j0z l H qs ss) (S : a2i l H H') : j0z l H' qs ss := ⟨h.1, fun i q s e1 e2 => ⟨(h.2 i q s e1 e2).1, S _ _ (h.2 i q s e1 e2).1 (h.2 i q s e1 e2).2⟩⟩
theorem j0z.same {l : Addr} {H H' : Hp} {qs : List Addr} {ss : List Rat} (h : j0z l H qs ss) (S : Same H H') : j0z l H' qs ss := h.d4v fun b o _ e => S b o e
theorem j0z.nil {l : Addr} {H : Hp} : j0z l H [] [] := ⟨rfl, fun i q s e => by simp at e⟩
theorem j0z.snoc {l : Addr} {H : Hp} {qs : List Addr} {ss : List Rat} {q : Addr} {s : Rat} (h : j0z l H qs ss) (hl : q ≠ l) (hq : H q = some (.tup (c8m s))) : j0z l H (qs ++ [q]) (ss ++ [s]) := by
 refine ⟨by rw [List.length_append, List.length_append, h.1]; rfl, fun i q' s' e1 e2 => ?_⟩
 by_cases hi : i < qs.length
 ·rw [List.getElem?_append_left hi] at e1
  rw [List.getElem?_append_left (by rw [<- h.1]; exact hi)] at e2
  exact h.2 i q' s' e1 e2
 ·rw [List.getElem?_append_right (by omega)] at e1
  rw [List.getElem?_append_right (by rw [<- h.1]; omega)] at e2
  rw [<- h.1] at e2
  cases hz : i - qs.length with
  | zero =>
   rw [hz] at e1 e2
   simp at e1 e2
   subst e1 e2
   exact ⟨hl, hq⟩
  | succ n =>
   rw [hz] at e1
   simp at e1
theorem Rts.get {H : Hp} {qs : List Addr} {ss : List Rat} (h : Rts H qs ss) {i : Nat} {v : V} (e : (qs.map V.ref)[i]? = some v) : ∃ q s, v = .ref q /\ ss[i]? = some s /\ H q = some (.tup (c8m s)) := by
 rw [List.getElem?_map] at e
 obtain ⟨q, hq, rfl⟩ := Option.map_eq_some_iff.mp e
 have hi : i < qs.length := (List.getElem?_eq_some_iff.mp hq).1
 have hr : ss[i]? = some (ss[i]'(by rw [<- h.1]; exact hi)) := List.getElem?_eq_getElem _
 exact ⟨q, _, rfl, hr, h.2 i q _ hq hr⟩
theorem Crn.same {H H' : Hp} {ps : List Addr} {cs : List (Int × Rat)} (h : Crn H ps cs) (S : Same H H') : Crn H' ps cs := ⟨h.1, fun i p c e1 e2 => (h.2 i p c e1 e2).elim fun g z => ⟨g, S _ _ z.1, S _ _ z.2⟩⟩
theorem Crn.d4v {o : Addr} {H H' : Hp} {ps : List Addr} {cs : List (Int × Rat)} {C dx : Addr} {fs : List (Str × V)} (h : Crn H ps cs) (ho : H o = some (.ins C dx fs)) (S : a2i o H H') : Crn H' ps cs :=
 ⟨h.1, fun i p c e1 e2 => (h.2 i p c e1 e2).elim fun g z => ⟨g, S _ _ (fun e => by have := z.1; rw [e, ho] at this; cases this) z.1, S _ _ (fun e => by have := z.2; rw [e, ho] at this; cases this) z.2⟩⟩
theorem Crn.get {H : Hp} {ps : List Addr} {cs : List (Int × Rat)} (h : Crn H ps cs) {i : Nat} {v : V} (e : (ps.map V.ref)[i]? = some v) : ∃ p c g, v = .ref p /\ cs[i]? = some c /\ H p = some (.tup [.int c.1, .ref g]) /\ H g = some (.tup (c8m c.2)) := by
 rw [List.getElem?_map] at e
 obtain ⟨p, hp, rfl⟩ := Option.map_eq_some_iff.mp e
 have hi : i < ps.length := (List.getElem?_eq_some_iff.mp hp).1
 have hr : cs[i]? = some (cs[i]'(by rw [<- h.1]; exact hi)) := List.getElem?_eq_getElem _
 obtain ⟨g, h1, h2⟩ := h.2 i p _ hp hr
 exact ⟨p, _, g, rfl, hr, h1, h2⟩
theorem h6l (bs : List Int) (b : Int) : j9d (bs ++ [b]) = (Int.lcm (j9d bs) b : Int) := by
 unfold j9d
 rw [List.foldl_append]
 rfl
theorem l8k {α : Type} {p : List α -> Prop} (h0 : p []) (hs : ∀ l x, p l -> p (l ++ [x])) (l : List α) : p l := by
 have : ∀ l : List α, p l.reverse := fun l => by
  induction l with
  | nil => exact h0
  | cons x l ih => rw [List.reverse_cons]; exact hs _ _ ih
 have z := this l.reverse
 rwa [List.reverse_reverse] at z
theorem j9m {a b : Int} {m n : Nat} (h : ¬ (a = 0 /\ b = 0)) (ha : intBits a <= m) (hb : intBits b <= n) : intBits (Int.lcm a b : Int) <= m + n := by
 refine intBits_le_of_natAbs ?_ (intBits_mul_le ha hb)
 have hp : 0 < Int.gcd a b := by
  rw [Int.gcd_pos_iff]
  omega
 rw [Int.natAbs_natCast, Int.natAbs_mul, <- Int.gcd_mul_lcm]
 exact Nat.le_mul_of_pos_left _ hp
theorem j9n (bs : List Int) : (∀ b ∈ bs, 1 <= b /\ intBits b <= 64) -> 1 <= j9d bs /\ (∀ b ∈ bs, b ∣ j9d bs) /\ intBits (j9d bs) <= 1 + 64 * bs.length := by
 induction bs using l8k with
 | h0 => exact fun _ => ⟨by decide, (fun b hb => by cases hb), by decide⟩
 | hs l x ih =>
  intro h
  have i := ih fun b hb => h b (List.mem_append_left _ hb)
  have hx := h x (List.mem_append_right _ (List.mem_singleton.mpr rfl))
  rw [h6l, List.length_append, List.length_singleton]
  have lp : 0 < Int.lcm (j9d l) x := Int.lcm_pos (by omega) (by omega)
  refine ⟨by omega, fun b hb => ?_, Nat.le_trans (j9m (by omega) i.2.2 hx.2) (by omega)⟩
  rcases List.mem_append.mp hb with e | e
  ·exact Int.dvd_trans (i.2.1 b e) (Int.dvd_lcm_left _ _)
  ·rw [List.mem_singleton.mp e]
   exact Int.dvd_lcm_right _ _
theorem j9o (T : Tx K mg A) : a1n P A.wd K mg base CX0 3 A.a4v A.b6k ["bottoms"] h0h := by
 have j2w : a1n P A.wd K mg base CX0 2 _ _ _ _ := i5w T
 refine T.a8w.ok b0k (fun vs H Q E h => ?_) (fun cdv A' outer s H vs Q E hr h => ?_)
 ·obtain ⟨_, rfl, _⟩ := b3h (by unfold h0h at h; exact h)
  rfl
 ·obtain ⟨p, rfl, ⟨bs, hp, O, L, q⟩⟩ := b3h (by unfold h0h at h; exact h)
  have hu := hr.units
  have i5x : a2z 2 _ := hr.mono (by decide)
  refine ⟨_, (a0i (a1i (i := 1) b0k.nd rfl (Or.inl rfl) a0l)
   (a0i (a7w PassesOwn.never rfl (a3o (pvF 0)) (a3v (i := 2) b0k.nd rfl (Or.inl rfl))
   (a0m (a1i (i := 1) b0k.nd rfl (Or.inl rfl) (a0u j2w i5x (by rfl) T.j2m T.c2v.kp T.f3m .nil a1g (a0g (pvF 1) (a0g (pvF 2) a0j))))))
   (a0m (a0z (pvF 1))))), ?_⟩
  walk_at "rd"
  refine ⟨⟨_, SqL.of hp⟩, ?_⟩
  obtain ⟨Pv, pin, pout⟩ := d3l (fun i σ H' => ∃ (v2 : Option V), σ = [some (.ref p), some (.int (j9d (bs.take i))), v2] /\ H' = H)
  refine b0g (xs := bs.map V.int) Pv (pin _ _ _ ⟨_, rfl, rfl⟩) ?_ ?_ ?_
  ·intro i σ H2 hi hp'
   obtain ⟨v2, rfl, rfl⟩ := pout _ _ _ hp'
   exact SqL.of hp
  ·intro i v σ H2 hv hp'
   obtain ⟨v2, rfl, rfl⟩ := pout _ _ _ hp'
   rw [List.getElem?_map] at hv
   obtain ⟨b, hb, rfl⟩ := Option.map_eq_some_iff.mp hv
   have Ob := O b (List.mem_of_getElem? hb)
   have lk := j9n (bs.take i) fun b hb => O b (List.mem_of_mem_take hb)
   have hl : (bs.take i).length <= 24 := by rw [List.length_take]; omega
   have et : bs.take (i + 1) = bs.take i ++ [b] := by rw [List.take_add_one, hb]; rfl
   walk_at "rd"
   refine ⟨by omega, by omega, pin _ _ _ ⟨some (.int b), ?_, rfl⟩⟩
   rw [et, h6l]
  ·intro σ H2 hp'
   obtain ⟨v2, rfl, rfl⟩ := pout _ _ _ hp'
   rw [List.length_map, List.take_of_length_le (Nat.le_refl _)]
   walk_at "rd"
   exact q
theorem k2y (T : Tx K mg A) : a1n P A.wd K mg base CX0 1 A.g0t A.i4u ["one", "bottom"] i5f := by
 refine T.g8o.ok k7m (fun vs H Q E h => ?_) (fun cdv A' outer s H vs Q E hr h => ?_)
 ·obtain ⟨_, _, rfl, _⟩ := g4g (by unfold i5f at h; exact h)
  rfl
 ·obtain ⟨p, S, rfl, ⟨y, hp, b1, b2, b3, q⟩⟩ := g4g (by unfold i5f at h; exact h)
  have hu := hr.units
  unfold c8m at hp
  have dp := y.den_pos
  refine ⟨_, (a0m (a0z (a2y a7y (a0v a3j (pvF 0) a0l (fun _ _ => rfl)) (a2y b7v (pvF 1) (a0v a3j (pvF 0) a0l (fun _ _ => rfl)))))), ?_⟩
  walk_at "rd*"
  exact ⟨⟨by omega, by omega⟩, IntMulOk.of_le b1 (intBits_fdiv_le b3) (by decide)⟩
theorem k8k (a : Rat) : a * ((a.den : Int) : Rat) = (a.num : Rat) := by
 have h : ((a.den : Int) : Rat) ≠ 0 := fun e => by
  have := Rat.intCast_inj.mp (e.trans (by rfl : (0 : Rat) = ((0 : Int) : Rat)))
  have := a.den_pos
  omega
 conv => lhs; lhs; rw [<- Rat.num_divInt_den a]
 rw [Rat.divInt_eq_div, Rat.div_def, Rat.mul_assoc, Rat.inv_mul_cancel _ h, Rat.mul_one]
theorem l4e {iv : Rat} {n : Int} (h1 : iv.num = 1) (h2 : (iv.den : Int) = n) (x : Rat) : x * iv * (n : Rat) = x := by
 rw [<- h2, Rat.mul_assoc, k8k, h1]
 exact Rat.mul_one x
theorem j9p (T : Tx K mg A) : a1n P A.wd K mg base CX0 4 A.b0v A.c9n ["corners"] h0i := by
 have l4f : a1n P A.wd K mg base CX0 3 _ _ _ _ := k8h T
 have j9q : a1n P A.wd K mg base CX0 3 _ _ _ _ := k8i T
 refine T.b8p.ok b5s (fun vs H Q E h => ?_) (fun cdv A' outer s H vs Q E hr h => ?_)
 ·obtain ⟨_, rfl, _⟩ := b3h (by unfold h0i at h; exact h)
  rfl
 ·obtain ⟨ct, rfl, ⟨ps, cs, hct, R, O, L1, L12, k⟩⟩ := b3h (by unfold h0i at h; exact h)
  have hu := hr.units
  have k8l : a2z 3 _ := hr.mono (by decide)
  have j1f : a2z 3 _ := hr.mono (by decide)
  have pl := R.1
  refine ⟨_, (a0i (a1i (i := 1) b5s.nd rfl (Or.inl rfl) (a2j a0j))
   (a0i (a7w PassesOwn.never rfl (j8c (by rfl) T.i5c (a0g (pvF 0) (a0g (b5i m0f (pvF 0) (b2h a0l) c3r) a0j))) (g9j (n := 2) rfl (b2k (a3v (i := 2) b5s.nd rfl (Or.inl rfl)) (b2k (a3v (i := 3) b5s.nd rfl (Or.inl rfl)) f9u)))
   (a0i (a1i (i := 4) b5s.nd rfl (Or.inl rfl) (a0u l4f k8l (by rfl) T.l3k T.h6b.kp T.j8q .nil a1g (a0g (a0v a3j (pvF 3) a0l (fun _ _ => rfl)) (a0g (a0u j9q j1f (by rfl) T.j8r T.f3o.kp T.g9t .nil a1g (a0g (a9z (a0g (l0o k4m a0l) (a0g a0l a0j))) (a0g (a0v a3j (pvF 2) a0l (fun _ _ => rfl)) a0j))) a0j))))
   (a0m (a3n (a7o a4m PySem.F.plainAttrs_list PySem.F.slot_list_append PySem.F.type_list_append a2s (pvF 1) (a0g (a0u j9q j1f (by rfl) T.j8r T.f3o.kp T.g9t .nil a1g (a0g (pvF 4) (a0g (a9z (a0g a0l (a0g (a2y j7p (a0v a3j (pvF 3) a0l (fun _ _ => rfl)) (a0v a3j (pvF 2) a0l (fun _ _ => rfl))) a0j))) a0j))) a0j))))))
   (a0i (a3n (a7o a4m PySem.F.plainAttrs_list PySem.F.slot_list_append PySem.F.type_list_append a2s (pvF 1) (a0g (a9z (a0g a0l (a0g a0l a0j))) a0j)))
   (a0m (a0z (pvF 1)))))), ?_⟩
  walk_at "rd"
  refine ⟨Nat.zero_le _, fun l H1 n1 S1 h1 => ?_⟩
  have m0k := S1 _ _ hct
  walk_at "rd*"
  refine ⟨fun z => ?_, fun c2 H2 n2 S2 h2 => ?_⟩
  ·have := z.1
   rw [show (some (1 : Int)) = some ((1 : Nat) : Int) from rfl, HT.g9e] at this
   omega
  have e2 : f9q (ps.map V.ref) (some 1) none = (ps.drop 1).map V.ref := by
   show g8f (ps.map V.ref) (some ((1 : Nat) : Int)) none = _
   rw [b5p, List.map_drop]
  rw [e2] at h2
  have l4g := S2 _ _ m0k
  have h12 := S2 _ _ h1
  clear m0k h1
  walk_at "rd*"
  obtain ⟨Pv, pin, pout⟩ := d3l (fun i σ H' => ∃ (v2 v3 v4 : Option V) (qs : List Addr) (ss : List Rat), σ = [some (.ref ct), some (.ref l), v2, v3, v4] /\ Same H H' /\ H' c2 = some (.tup ((ps.drop 1).map V.ref)) /\ H' l = some (.lst (qs.map V.ref)) /\ j0z l H' qs ss /\ ss.length = i /\ (∀ s ∈ ss, intBits s.num <= 60 /\ intBits (s.den : Int) <= 60) /\ ∀ j s, ss[j]? = some s -> SlR cs j s)
  refine j0p (xs := ps.map V.ref) (ys := (ps.drop 1).map V.ref) Pv (pin _ _ _ ⟨_, _, _, [], [], rfl, S1.trans S2, h2, h12, .nil, rfl, (fun s hs => by cases hs), (fun j s e => by simp at e)⟩) ?_ ?_ ?_
  ·intro i σ H3 hp
   obtain ⟨v2, v3, v4, qs, ss, rfl, S3, h3, hl3, R3, L3, B3, V3⟩ := pout _ _ _ hp
   exact ⟨SqT.of (S3 _ _ hct), SqT.of h3⟩
  ·intro i x y σ H3 p H4 hx hy hp np S4 h4
   obtain ⟨v2, v3, v4, qs, ss, rfl, S3, h3, hl3, R3, L3, B3, V3⟩ := pout _ _ _ hp
   obtain ⟨pc, c, g, rfl, hc, hpc, hg⟩ := R.get hx
   have hy' : (ps.map V.ref)[i + 1]? = some y := by
    rw [List.map_drop, List.getElem?_drop] at hy
    rwa [Nat.add_comm] at hy
   obtain ⟨pd, d, gd, rfl, hd, hpd, hgd⟩ := R.get hy'
   have Oc := O.1 c (List.mem_of_getElem? hc)
   have Od := O.1 d (List.mem_of_getElem? hd)
   have lt := O.2 i c d hc hd
   have S04 := S3.trans S4
   have hpc4 := S04 _ _ hpc
   have hpd4 := S04 _ _ hpd
   clear l4g h12 h2
   walk_at "rd*"
   refine fun m H5 n5 S5 h5 => ?_
   have S05 := S04.trans S5
   have hpc5 := S05 _ _ hpc
   clear hpc4
   walk_at "rd*"
   refine ⟨-1, c.2, ⟨h5, S05 _ _ hg, by decide, by decide, by omega, by omega⟩, ?_⟩
   rintro _ H6 ⟨t6, rfl, n6, S6, h6⟩
   have S06 := S05.trans S6
   have m1 := h6k (x := -1) (y := c.2) (a := 1) (b := 1) (by decide) (by decide) Oc.2.2.1 Oc.2.2.2
   walk_at "rd"
   refine ⟨d.2, -1 * c.2, ⟨S06 _ _ hgd, h6, by omega, by omega, by omega, by omega⟩, ?_⟩
   rintro _ H7 ⟨t7, rfl, n7, S7, h7⟩
   have S07 := S06.trans S7
   have m2 := j2v (x := d.2) (y := -1 * c.2) (a := 11) (by omega) (by omega) (by omega) (by omega)
   have hpc7 := S07 _ _ hpc
   have hpd7 := S07 _ _ hpd
   have hl7 := S7 _ _ (S6 _ _ (S5 _ _ (S4 _ _ hl3)))
   clear hpd4 hpc5 h5 h4
   walk_at "rd*"
   refine fun u H8 n8 S8 h8 => ?_
   obtain ⟨iv, in1, in2⟩ := l4d (p := 1) (q := d.1 - c.1) (by omega) (by rw [Int.gcd_one_left])
   have h8' : H8 u = some (.tup (c8m iv)) := by rw [h8, <- in1, <- in2]; rfl
   have b1 : intBits iv.num <= 1 := by rw [in1]; decide
   have b2 : intBits (iv.den : Int) <= 20 := by rw [in2]; exact intBits_le_iff.mpr (Nat.lt_of_le_of_lt (by omega : (d.1 - c.1).natAbs <= 200000) (by decide))
   have m3 := h6k (x := d.2 + -1 * c.2) (y := iv) m2.1 m2.2 b1 b2
   walk_at "rd"
   refine ⟨d.2 + -1 * c.2, iv, ⟨S8 _ _ h7, h8', by omega, by omega, by omega, by omega⟩, ?_⟩
   rintro _ H9 ⟨t9, rfl, n9, S9, h9⟩
   have S79 := S8.trans S9
   have hl9 := S79 _ _ hl7
   have tl : t9 ≠ l := fun e => by rw [e, S8 _ _ hl7] at n9; cases n9
   have ql := R3.1
   have hc2l : c2 ≠ l := fun e => by rw [e, hl3] at h3; cases h3
   clear hpc7 hpd7 h8
   walk_at "rd*"
   refine ⟨by rw [sizeLine_eq]; have := (List.getElem?_eq_some_iff.mp hc).1; omega, ?_⟩
   rintro _ H10 ⟨rfl, B10, h10⟩
   have S39 : Same H3 H9 := S4.trans (S5.trans (S6.trans (S7.trans S79)))
   refine pin _ _ _ ⟨_, _, _, qs ++ [t9], ss ++ [(d.2 + -1 * c.2) * iv], rfl, (S3.trans S39).step n1 B10, B10 _ _ hc2l (S39 _ _ h3), by rw [h10, List.map_append]; rfl, ((R3.same S39).snoc tl h9).d4v B10, by rw [List.length_append, L3]; rfl, fun s hs => ?_, fun j s e => ?_⟩
   ·rcases List.mem_append.mp hs with z | z
    ·exact B3 s z
    ·rw [List.mem_singleton.mp z]
     omega
   ·rcases Nat.lt_or_ge j ss.length with hj | hj
    ·rw [List.getElem?_append_left hj] at e
     exact V3 j s e
    ·rw [List.getElem?_append_right hj] at e
     have hj0 : j - ss.length = 0 := by
      rcases Nat.eq_zero_or_pos (j - ss.length) with z | z
      ·exact z
      ·rw [List.getElem?_eq_none (by rw [List.length_singleton]; omega)] at e
       cases e
     rw [hj0] at e
     cases e
     have ji : j = i := by omega
     subst ji
     intro c' d' hc' hd'
     rw [hc] at hc'
     rw [hd] at hd'
     cases hc'
     cases hd'
     rw [l4e in1 in2]
     rw [Rat.sub_eq_add_neg, Rat.neg_mul, Rat.one_mul]
  ·intro σ H3 hp
   obtain ⟨v2, v3, v4, qs, ss, rfl, S3, h3, hl3, R3, L3, B3, V3⟩ := pout _ _ _ hp
   have ql := R3.1
   rw [List.length_map, List.length_map, List.length_drop] at L3
   clear l4g h12 h2
   walk_at "rd*"
   refine fun u H4 n4 S4 h4 => ?_
   have hl4 := S4 _ _ hl3
   have ul : u ≠ l := fun e => by rw [e, hl3] at n4; cases n4
   have h4' : H4 u = some (.tup (c8m 0)) := h4
   walk_at "rd*"
   refine ⟨by rw [sizeLine_eq]; omega, ?_⟩
   rintro _ H5 ⟨rfl, B5, h5⟩
   walk_at "rd"
   refine k l H5 (qs ++ [u]) (ss ++ [0]) n1 ((S3.trans S4).step n1 B5) (by rw [h5, List.map_append]; rfl) (((R3.same S4).snoc ul h4').d4v B5).rts (by rw [List.length_append, List.length_singleton]; omega) (fun s hs => ?_) (fun j s e => ?_) ?_
   ·rcases List.mem_append.mp hs with z | z
    ·exact B3 s z
    ·rw [List.mem_singleton.mp z]
     exact ⟨by decide, by decide⟩
   ·rcases Nat.lt_or_ge j ss.length with hj | hj
    ·rw [List.getElem?_append_left hj] at e
     exact V3 j s e
    ·intro c' d' hc' hd'
     have := (List.getElem?_eq_some_iff.mp hd').1
     omega
   ·rw [List.getElem?_append_right (by omega), show cs.length - 1 - ss.length = 0 by omega]
    rfl
theorem f9v (n : Int) (m : Nat) : (j9e n m).length = m + 1 := by unfold j9e; simp
theorem h0o {n : Int} {m i : Nat} (h : i < m + 1) : (j9e n m).getD i 0 = n ^ i := by
 unfold j9e
 rw [List.getD_eq_getElem?_getD, List.getElem?_map, List.getElem?_range h]
 rfl
theorem h0p {n : Int} (h : intBits n <= 10) : ∀ j : Nat, intBits (n ^ j) <= 1 + 10 * j
 | 0 => by rw [Int.pow_zero]; decide
 | j + 1 => by
  rw [Int.pow_succ]
  exact Nat.le_trans (intBits_mul_le (h0p h j) h) (by omega)
theorem l4h (T : Tx K mg A) : a1n P A.wd K mg base CX0 1 A.b0u A.c9g ["number", "most"] k7w := by
 refine T.b4v.ok c8t (fun vs H Q E h => ?_) (fun cdv A' outer s H vs Q E hr h => ?_)
 ·obtain ⟨_, _, rfl, _⟩ := h5q (by unfold k7w at h; exact h)
  rfl
 ·obtain ⟨n, t, rfl, ⟨m, e, hm, hb, k⟩⟩ := h5q (by unfold k7w at h; exact h)
  subst e
  have hu := hr.units
  refine ⟨_, (a0i (a1i (i := 2) c8t.nd rfl (Or.inl rfl) (a2j (a0g a0l a0j)))
   (a0i (a7w PassesOwn.never rfl (b3i (by rfl) T.b8y (a0g (pvF 1) a0j)) (a3v (i := 3) c8t.nd rfl (Or.inl rfl))
   (a0m (a3n (a7o a4m PySem.F.plainAttrs_list PySem.F.slot_list_append PySem.F.type_list_append a2s (pvF 2) (a0g (a2y a7y (a0v a3j (pvF 2) (pvF 3) (fun _ _ => rfl)) (pvF 0)) a0j)))))
   (a0m (a0z (pvF 2))))), ?_⟩
  walk_at "rd"
  refine ⟨by decide, ?_⟩
  intro l H1 n1 S1 h1
  walk_at "rd*"
  refine ⟨by omega, by omega, ?_⟩
  rw [Int.toNat_natCast]
  obtain ⟨Pv, pin, pout⟩ := d3l (fun i σ H' => ∃ v3 : Option V, σ = [some (.int n), some (.int m), some (.ref l), v3] /\ Same H H' /\ H' l = some (.lst ((j9e n i).map V.int)))
  refine d2v (lo := 0) Pv (pin _ _ _ ⟨_, rfl, S1, by rw [h1]; show _ = some (HO.lst [V.int (n ^ 0)]); rw [Int.pow_zero]⟩) ?_ ?_
  ·intro i σ H2 hi hp
   obtain ⟨v3, rfl, S2, h2⟩ := pout _ _ _ hp
   have e1 := j7w (ns := j9e n i) (i := i) (by rw [f9v]; omega)
   rw [h0o (by omega)] at e1
   have pl := f9v n i
   clear h1 hp
   walk_at "rd*"
   refine ⟨IntMulOk.of_right (Nat.le_trans hb (by decide)), by rw [sizeLine_eq]; omega, ?_⟩
   rintro _ H3 ⟨rfl, B3, h3⟩
   refine pin _ _ _ ⟨_, rfl, S2.step n1 B3, ?_⟩
   rw [h3]
   unfold j9e
   rw [List.range_succ (n := i + 1), List.map_append, List.map_append]
   show _ = some (HO.lst (_ ++ [V.int (n ^ (i + 1))]))
   rw [Int.pow_succ]
  ·intro σ H2 hp
   obtain ⟨v3, rfl, S2, h2⟩ := pout _ _ _ hp
   walk_at "rd"
   exact k _ _ ⟨l, rfl, n1, S2, h2⟩
theorem IsE.same {C : Addr} {H H' : Hp} {o : Addr} {p q : Int} {n t : Nat} (h : IsE C H o p q n t) (S : Same H H') : IsE C H' o p q n t := by
 obtain ⟨dx, gt, fa, h1, h2, h3⟩ := h
 exact ⟨dx, gt, fa, S _ _ h1, S _ _ h2, S _ _ h3⟩
theorem k2z (T : Tx K mg A) : a1n P A.wd K mg base CX0 2 A.a8l A.c9h ["self", "gain", "many", "turns"] (i5g A.a4w) := by
 have g1r : a1n P A.wd K mg base CX0 1 _ _ _ _ := l4h T
 have b6m := T.b6m
 have a2m := T.a2m
 have a2n := T.a2n
 have a1y := T.a1y
 have a1o := T.a1o
 have a0t := T.a0t
 refine T.c4s.ok c8u (fun vs H Q E h => ?_) (fun cdv A' outer s H vs Q E hr h => ?_)
 ·obtain ⟨_, _, _, _, rfl, _⟩ := j8m (by unfold i5g at h; exact h)
  rfl
 ·obtain ⟨o, gt, n, t, rfl, ⟨dx, m, tt, p, q, e1, e2, ht, bp, bq, hg, ho, k⟩⟩ := j8m (by unfold i5g at h; exact h)
  subst e1 e2
  have hu := hr.units
  have f6v : a2z 1 _ := hr.mono (by decide)
  have gto : gt ≠ o := fun e => by rw [e, ho] at hg; cases hg
  refine ⟨_, (a0i (a4s (pvF 0) (pvF 1) rfl)
   (a0i (a4s (pvF 0) (pvF 2) rfl)
   (a0i (a4s (pvF 0) (pvF 3) rfl)
   (a0i (a1i (i := 4) c8u.nd rfl (Or.inr rfl) (a0u g1r f6v (by rfl) T.g0y T.b4v.kp T.c4r .nil a1g (a0g (a0v a3j (pvF 1) a0l (fun _ _ => rfl)) (a0g (pvF 3) a0j))))
   (a0i (a1i (i := 5) c8u.nd rfl (Or.inr rfl) (a0u g1r f6v (by rfl) T.g0y T.b4v.kp T.c4r .nil a1g (a0g (a0v a3j (pvF 1) a0l (fun _ _ => rfl)) (a0g (pvF 3) a0j))))
   (a0i (a4s (pvF 0) (a5k g0n (by rfl) T.c5p boot_tuple (a0g (b7z (b3i (by rfl) T.b8y (a0g (a2y b0p (pvF 3) a0l) a0j)) (fun _ _ _ _ _ => (a2y a7y (a0v a3j (pvF 5) (pvF 0) (fun _ _ => rfl)) (a0v a3j (pvF 6) (a2y j7p (pvF 4) (pvF 0)) (fun _ _ => rfl)))) (d3k (sc := a0h b0q) (N := ["self", "gain", "many", "turns", "tops", "bottoms"]) rfl rfl (by decide +kernel)) rfl) a0j)) rfl)
   (a0m (a4s (pvF 0) (a0v a3j (pvF 5) (pvF 3) (fun _ _ => rfl)) rfl)))))))), ?_⟩
  walk_at "rd*"
  intro H1 B1 h1
  walk_at "rd*"
  intro H2 B2 h2
  walk_at "rd*"
  intro H3 B3 h3
  have hg3 := B3 _ _ gto (B2 _ _ gto (B1 _ _ gto hg))
  walk_at "rd*"
  refine ⟨tt, rfl, ht, ?_⟩
  rintro _ H4 ⟨l4, rfl, n4, S4, h4⟩
  have hg4 := S4 _ _ hg3
  walk_at "rd*"
  refine ⟨tt, rfl, ht, ?_⟩
  rintro _ H5 ⟨l5, rfl, n5, S5, h5⟩
  have h45 := S5 _ _ h4
  have h35 := S5 _ _ (S4 _ _ h3)
  have pl1 := f9v p tt
  have pl2 := f9v q tt
  clear h4 hg4 hg3
  walk_at "rd*"
  refine ⟨by omega, by omega, fun D H6 n6 S6 h6 => ?_⟩
  rw [show ((tt : Int) + 1).toNat = tt + 1 by omega]
  refine j1v (fun i => .int (l8b p q tt i)) n6 S6 h6 (by rw [sizeLine_eq]; omega) ?_ ?_
  ·intro i H' Q' hi S' q'
   have h4' := S' _ _ h45
   have h5' := S' _ _ h5
   have e1 := j7w (ns := j9e p tt) (i := i) (by omega)
   have e2 := j7w (ns := j9e q tt) (i := tt - i) (by omega)
   rw [h0o (by omega)] at e1 e2
   rw [show ((tt - i : Nat) : Int) = (tt : Int) - (i : Int) by omega] at e2
   clear h45 h35 h5 hg ho h1 h2 h3 pl1 pl2
   walk_at "rd*"
   exact ⟨IntMulOk.of_le (h0p bp i) (h0p bq (tt - i)) (by omega), q'⟩
  intro H7 S7 h7
  have e7 : (List.range (tt + 1)).map (fun i => V.int (l8b p q tt i)) = (l3v p q tt).map V.int := by
   unfold l3v
   rw [List.map_map]
   rfl
  rw [e7] at h7
  walk_at "rd*"
  intro fa H8 n8 S8 h8
  have h38 := S8 _ _ (S7 _ _ h35)
  have h58 := S8 _ _ (S7 _ _ h5)
  have e2 := j7w (ns := j9e q tt) (i := tt) (by omega)
  rw [h0o (by omega)] at e2
  clear h45 h35 h5 h7 e7
  walk_at "rd*"
  intro H9 B9 h9
  have l5o : l5 ≠ o := fun e => by
   rw [e, h38] at h58
   cases h58
  have h59 := B9 _ _ l5o h58
  clear h38 h58
  walk_at "rd*"
  intro H10 B10 h10
  have S38 : Same H3 H8 := S4.trans (S5.trans (S7.trans S8))
  have fao : fa ≠ o := fun e => by
   have := S38 _ _ h3
   rw [e] at h8
   rw [h8] at this
   cases this
  refine k fa H10 (fun b u hb e => B10 _ _ hb (B9 _ _ hb (S38 _ _ (B3 _ _ hb (B2 _ _ hb (B1 _ _ hb e)))))) ?_ h10 (B10 _ _ fao (B9 _ _ fao h8))
  cases hn : H fa with
  | none => rfl
  | some u =>
   exfalso
   have := (S4.trans (S5.trans S7)) _ _ (B3 _ _ fao (B2 _ _ fao (B1 _ _ fao hn)))
   rw [this] at n8
   cases n8
theorem j1a.tps {l : Addr} {H : Hp} {qs : List Addr} {vs : List (List V)} (h : j1a l H qs vs) : Tps H qs vs := ⟨h.1, fun i q s e1 e2 => (h.2 i q s e1 e2).2⟩
theorem Tps.same {H H' : Hp} {qs : List Addr} {vs : List (List V)} (h : Tps H qs vs) (S : Same H H') : Tps H' qs vs := ⟨h.1, fun i q s e1 e2 => S _ _ (h.2 i q s e1 e2)⟩
theorem Tps.d4v {o : Addr} {H H' : Hp} {qs : List Addr} {vs : List (List V)} {C dx : Addr} {fs : List (Str × V)} (h : Tps H qs vs) (ho : H o = some (.ins C dx fs)) (S : a2i o H H') : Tps H' qs vs :=
 ⟨h.1, fun i q s e1 e2 => S _ _ (fun z => by have := h.2 i q s e1 e2; rw [z, ho] at this; cases this) (h.2 i q s e1 e2)⟩
theorem j1a.d4v {l : Addr} {H H' : Hp} {qs : List Addr} {vs : List (List V)} (h : j1a l H qs vs) (S : a2i l H H') : j1a l H' qs vs := ⟨h.1, fun i q s e1 e2 => ⟨(h.2 i q s e1 e2).1, S _ _ (h.2 i q s e1 e2).1 (h.2 i q s e1 e2).2⟩⟩
theorem j1a.same {l : Addr} {H H' : Hp} {qs : List Addr} {vs : List (List V)} (h : j1a l H qs vs) (S : Same H H') : j1a l H' qs vs := h.d4v fun b o _ e => S b o e
theorem j1a.nil {l : Addr} {H : Hp} : j1a l H [] [] := ⟨rfl, fun i q s e => by simp at e⟩
theorem j1a.snoc {l : Addr} {H : Hp} {qs : List Addr} {vs : List (List V)} {q : Addr} {v : List V} (h : j1a l H qs vs) (hl : q ≠ l) (hq : H q = some (.tup v)) : j1a l H (qs ++ [q]) (vs ++ [v]) := by
 refine ⟨by rw [List.length_append, List.length_append, h.1]; rfl, fun i q' s' e1 e2 => ?_⟩
 by_cases hi : i < qs.length
 ·rw [List.getElem?_append_left hi] at e1
  rw [List.getElem?_append_left (by rw [<- h.1]; exact hi)] at e2
  exact h.2 i q' s' e1 e2
 ·rw [List.getElem?_append_right (by omega)] at e1
  rw [List.getElem?_append_right (by rw [<- h.1]; omega)] at e2
  rw [<- h.1] at e2
  cases hz : i - qs.length with
  | zero =>
   rw [hz] at e1 e2
   simp at e1 e2
   subst e1 e2
   exact ⟨hl, hq⟩
  | succ n =>
   rw [hz] at e1
   simp at e1
theorem j9r (T : Tx K mg A) : a1n P A.wd K mg base CX0 5 A.a6q A.c4h ["self", "corners"] (h0j A.a3z) := by
 have i5y : a1n P A.wd K mg base CX0 4 _ _ _ _ := j9p T
 have g1s : a1n P A.wd K mg base CX0 3 _ _ _ _ := j9o T
 have k5j : a1n P A.wd K mg base CX0 1 _ _ _ _ := k2y T
 have b0n := T.b0n
 have a1m := T.a1m
 have a1p := T.a1p
 have a1s := T.a1s
 refine T.c0k.ok f0z (fun vs H Q E h => ?_) (fun cdv A' outer s H vs Q E hr h => ?_)
 ·obtain ⟨_, _, rfl, _⟩ := f8h (by unfold h0j at h; exact h)
  rfl
 ·obtain ⟨o, l, rfl, ⟨dx, ps, cs, ho, hl, R, O, L1, L12, k⟩⟩ := f8h (by unfold h0j at h; exact h)
  have hu := hr.units
  have h6m : a2z 4 _ := hr.mono (by decide)
  have f8i : a2z 3 _ := hr.mono (by decide)
  have j9s : a2z 1 _ := hr.mono (by decide)
  have pl := R.1
  have lo : l ≠ o := fun e => by rw [e, ho] at hl; cases hl
  refine ⟨_, (a0i (a4s (pvF 0) (a5k g0n (by rfl) T.c5p boot_tuple (a0g (pvF 1) a0j)) rfl)
   (a0i (a1i (i := 2) f0z.nd rfl (Or.inl rfl) (a0u i5y h6m (by rfl) T.i4w T.b8p.kp T.d6g .nil a1g (a0g (a2t (pvF 0) rfl) a0j)))
   (a0i (a4s (pvF 0) (a0u g1s f8i (by rfl) T.g0z T.a8w.kp T.b8o .nil a1g (a0g (a2y b0p (b7z (a3o (pvF 1)) (fun _ _ _ _ _ => (a0v a3j (a0v a3j (pvF 0) a0l (fun _ _ => rfl)) a0l (fun _ _ => rfl))) (d3k (sc := a0h a5l) (N := ["self", "corners", "slopes"]) rfl rfl (by decide +kernel)) rfl) (b7z (a3o (pvF 2)) (fun _ _ _ _ _ => (a0v a3j (pvF 0) a0l (fun _ _ => rfl))) (d3k (sc := a0h a5l) (N := ["self", "corners", "slopes"]) rfl rfl (by decide +kernel)) rfl)) a0j)) rfl)
   (a0m (a4s (pvF 0) (a5k g0n (by rfl) T.c5p boot_tuple (a0g (j0r (j8c (by rfl) T.i5c (a0g (a2t (pvF 0) rfl) (a0g (pvF 2) a0j))) (fun _ _ _ _ _ => (a9z (a0g (a0v a3j (pvF 0) a0l (fun _ _ => rfl)) (a0g (a0u k5j j9s (by rfl) T.k5h T.g8o.kp T.j0y .nil a1g (a0g (a0v a3j (pvF 0) a0l (fun _ _ => rfl)) (a0g (j0s (K := K) (by rfl) (pvF 2) (by rfl)) a0j))) (a0g (a0u k5j j9s (by rfl) T.k5h T.g8o.kp T.j0y .nil a1g (a0g (pvF 1) (a0g (j0s (K := K) (by rfl) (pvF 2) (by rfl)) a0j))) a0j))))) (k5c (sc := a0h a5l) (N := ["self", "corners", "slopes"]) rfl rfl (by decide +kernel)) rfl) a0j)) rfl))))), ?_⟩
  walk_at "rd*"
  refine fun ct H1 n1 S1 h1 => ?_
  have ho1 := S1 _ _ ho
  walk_at "rd*"
  refine fun H2 B2 h2 => ?_
  have cto : ct ≠ o := fun e => by rw [e, ho] at n1; cases n1
  have l4g := B2 _ _ cto h1
  have hl2 := B2 _ _ lo (S1 _ _ hl)
  have R2 := (R.same S1).d4v ho1 B2
  clear ho1 h1
  walk_at "rd*"
  refine ⟨ps, rfl, cs, R2, O, L1, L12, fun l3 H3 qs ss n3 S3 h3 R3 L3 B3 V3 Z3 => ?_⟩
  have hl3 := S3 _ _ hl2
  have R23 := R2.same S3
  have ho3 := S3 _ _ h2
  have l5n := S3 _ _ l4g
  have ql := R3.1
  clear hl2 l4g h2
  try walk_at "rd"
  refine ⟨⟨_, SqL.of hl3⟩, fun D4 H4 n4 S4 h4 => ?_⟩
  refine g9k (cs.map fun c => V.int (c.2.den : Nat)) (by rw [List.length_map, List.length_map, pl]) n4 S4 h4 (SqL.of hl3) (by rw [List.length_map, pl, sizeLine_eq]; omega) ?_ ?_
  ·intro i x z H' Q' hx hz S' q'
   obtain ⟨p, c, g, rfl, hc, hp, hg⟩ := R23.get hx
   rw [List.getElem?_map, hc] at hz
   cases hz
   have hp' := S' _ _ hp
   have hg' := S' _ _ hg
   unfold c8m at hg'
   clear ho3 l5n hl3 h3 h4 hp hg
   walk_at "rd*"
  intro H5 S5 h5
  have h35 := S5 _ _ h3
  try walk_at "rd"
  refine ⟨⟨_, SqL.of h35⟩, fun D6 H6 n6 S6 h6 => ?_⟩
  have R35 := R3.same S5
  refine g9k (ss.map fun s => V.int (s.den : Nat)) (by rw [List.length_map, List.length_map, ql]) n6 S6 h6 (SqL.of h35) (by rw [List.length_map, ql, sizeLine_eq]; omega) ?_ ?_
  ·intro i x z H' Q' hx hz S' q'
   obtain ⟨p, c, rfl, hc, hp⟩ := R35.get hx
   rw [List.getElem?_map, hc] at hz
   cases hz
   have hp' := S' _ _ hp
   unfold c8m at hp'
   clear ho3 l5n hl3 h3 h4 hp h35 h5 h6
   walk_at "rd*"
  intro H7 S7 h7
  have h57 := S7 _ _ h5
  clear h4 h6 h35
  walk_at "rd*"
  refine ⟨by rw [sizeLine_eq]; omega, fun b8 H8 n8 S8 h8 => ?_⟩
  have e8 : cs.map (fun c => V.int (c.2.den : Nat)) ++ ss.map (fun s => V.int (s.den : Nat)) = ((cs.map fun c => (c.2.den : Int)) ++ ss.map fun s => (s.den : Int)).map V.int := by
   rw [List.map_append, List.map_map, List.map_map]
   rfl
  rw [e8] at h8
  have S38 : Same H3 H8 := S5.trans (S7.trans S8)
  have ho8 := S38 _ _ ho3
  have m0l := S38 _ _ l5n
  have l5p := S38 _ _ h3
  have R8 := R23.same S38
  have Q8 := R3.same S38
  have bk : ∀ b ∈ (cs.map fun c => (c.2.den : Int)) ++ ss.map fun s => (s.den : Int), 1 <= b /\ intBits b <= 64 := fun b hb => by
   rcases List.mem_append.mp hb with z | z
   ·obtain ⟨c, hc, rfl⟩ := List.mem_map.mp z
    have := O.1 c hc
    have := c.2.den_pos
    omega
   ·obtain ⟨s, hs, rfl⟩ := List.mem_map.mp z
    have := B3 s hs
    have := s.den_pos
    omega
  have lk := j9n _ bk
  have dv := lk.2.1
  have ll : ((cs.map fun c => (c.2.den : Int)) ++ ss.map fun s => (s.den : Int)).length = cs.length + ss.length := by simp
  clear h57 h7 h5 ho3 l5n hl3
  walk_at "rd"
  refine ⟨_, h8, bk, by omega, ?_⟩
  rw [ll] at lk
  have hSw : SwOk cs ss (j9d ((cs.map fun c => (c.2.den : Int)) ++ ss.map fun s => (s.den : Int))) := ⟨L3, V3, Z3, lk.1, by omega, fun c hc => dv _ (List.mem_append_left _ (List.mem_map.mpr ⟨c, hc, rfl⟩)), fun s hs => dv _ (List.mem_append_right _ (List.mem_map.mpr ⟨s, hs, rfl⟩)), fun s hs => (B3 s hs).1, by omega⟩
  clear dv
  generalize j9d ((cs.map fun c => (c.2.den : Int)) ++ ss.map fun s => (s.den : Int)) = S at lk hSw
  clear h8
  walk_at "rd*"
  refine fun H9 B9 h9 => ?_
  have l8l := B9 _ _ cto m0l
  have l3o : l3 ≠ o := fun e => by rw [e, ho8] at l5p; cases l5p
  have m0m := B9 _ _ l3o l5p
  have R9 := R8.d4v ho8 B9
  have Q9 := Q8.d4v ho8 B9
  clear ho8 m0l l5p
  walk_at "rd*"
  refine fun D10 H10 n10 S10 h10 => ?_
  refine j1z (xs := ps.map V.ref) (ys := qs.map V.ref) (fun i zs H' => Same H9 H' /\ H' D10 = some (.lst zs) /\ zs.length = i /\ ∃ us, zs = us.map V.ref /\ j1a D10 H' us (((List.zipWith (lnOf S) cs ss).map lnV).take i)) ⟨S10, h10, rfl, [], rfl, .nil⟩ (by rw [List.length_map, pl, sizeLine_eq]; omega) ?_ ?_ ?_
  ·intro i zs H' hi ⟨S', h', zl, _⟩
   exact ⟨h', SqT.of (S' _ _ l8l), SqL.of (S' _ _ m0m), zl⟩
  ·intro i x y zs H' p H'' hx hy ⟨S', h', zl, us, ez, TN⟩ np S'' h''
   obtain ⟨pc, c, g, rfl, hc, hpc, hg⟩ := R9.get hx
   obtain ⟨ps', s', rfl, hs', hps⟩ := Q9.get hy
   have Oc := O.1 c (List.mem_of_getElem? hc)
   have Bs := B3 s' (List.mem_of_getElem? hs')
   have SS := S'.trans S''
   have hpc' := SS _ _ hpc
   have hg' := SS _ _ hg
   have ho' := SS _ _ h9
   have hD' := S'' _ _ h'
   clear l8l m0m h9 h10 hpc hg h' h''
   walk_at "rd*"
   refine ⟨c.2, rfl, by omega, by omega, by omega, s', SS _ _ hps, by omega, by omega, by omega, by decide, fun u H3' n3' S3' h3' => ⟨S3' _ _ hD', fun H4' B4' h4' => ⟨(SS.trans S3').step n10 B4', h4', by rw [List.length_append, zl]; rfl, us ++ [u], by rw [ez, List.map_append]; rfl, ?_⟩⟩⟩
   have uD : u ≠ D10 := fun e => by rw [e, hD'] at n3'; cases n3'
   have et : ((List.zipWith (lnOf S) cs ss).map lnV).take (i + 1) = ((List.zipWith (lnOf S) cs ss).map lnV).take i ++ [lnV (lnOf S c s')] := by
    rw [List.take_add_one, List.getElem?_map, List.getElem?_zipWith, hc, hs']
    rfl
   rw [et]
   exact (((TN.same S'').same S3').snoc uD h3').d4v B4'
  intro zs H11 ⟨S11, h11, zl, us, ez, TN⟩
  have m0n := S11 _ _ h9
  have l4i := S11 _ _ l8l
  clear h10
  walk_at "rd*"
  refine fun ln H12 n12 S12 h12 => ?_
  have m0o := S12 _ _ m0n
  have l8m := S12 _ _ l4i
  clear h11 m0n l4i
  walk_at "rd*"
  refine fun H13 B13 h13 => ?_
  have el : ((List.zipWith (lnOf S) cs ss).map lnV).take (min (ps.map V.ref).length (qs.map V.ref).length) = (List.zipWith (lnOf S) cs ss).map lnV := List.take_of_length_le (by rw [List.length_map, List.length_zipWith, List.length_map, List.length_map, pl, ql]; exact Nat.le_refl _)
  rw [el] at TN
  have lno : ln ≠ o := fun e => by rw [e, m0o] at h12; cases h12
  exact k ct ln S ss us H13 (fun b u hb e => B13 _ _ hb (S12 _ _ (S11 _ _ (B9 _ _ hb (S38 _ _ (S3 _ _ (B2 _ _ hb (S1 _ _ e)))))))) n1 h13 (B13 _ _ cto l8m) (B13 _ _ lno h12) ((TN.tps.same S12).d4v m0o B13) hSw
theorem k3a (T : Tx K mg A) : a1n P A.wd K mg base CX0 1 A.a8j A.c8y ["self", "gain"] (i5h A.a9y) := by
 have b6l := T.b6l
 have a2l := T.a2l
 refine T.c4p.ok h5r (fun vs H Q E h => ?_) (fun cdv A' outer s H vs Q E hr h => ?_)
 ·obtain ⟨_, _, rfl, _⟩ := f8h (by unfold i5h at h; exact h)
  rfl
 ·obtain ⟨o, gt, rfl, ⟨dx, ho, k⟩⟩ := f8h (by unfold i5h at h; exact h)
  have hu := hr.units
  refine ⟨_, (a0m (a4s (pvF 0) (pvF 1) rfl)), ?_⟩
  walk_at "rd*"
  intro H1 B1 h1
  exact k H1 B1 h1
theorem j9t (T : Tx K mg A) : a1n P A.wd K mg base CX0 1 A.a6o A.c3z ["self", "many"] (h0k A.a4z) := by
 have b0m := T.b0m
 have a1w := T.a1w
 refine T.c0i.ok g9o (fun vs H Q E h => ?_) (fun cdv A' outer s H vs Q E hr h => ?_)
 ·obtain ⟨_, _, rfl, _⟩ := g4g (by unfold h0k at h; exact h)
  rfl
 ·obtain ⟨o, n, rfl, ⟨dx, ho, k⟩⟩ := g4g (by unfold h0k at h; exact h)
  have hu := hr.units
  refine ⟨_, (a0m (a4s (pvF 0) (pvF 1) rfl)), ?_⟩
  walk_at "rd*"
  intro H1 B1 h1
  exact k H1 B1 h1
theorem k3b (T : Tx K mg A) : a1n P A.wd K mg base CX0 1 A.a8n A.c9j ["self", "gain", "many"] (i5i A.a7u) := by
 have b6n := T.b6n
 have a2o := T.a2o
 have a2p := T.a2p
 refine T.c4u.ok h5s (fun vs H Q E h => ?_) (fun cdv A' outer s H vs Q E hr h => ?_)
 ·obtain ⟨_, _, _, rfl, _⟩ := g8j (by unfold i5i at h; exact h)
  rfl
 ·obtain ⟨o, gt, n, rfl, ⟨dx, ho, k⟩⟩ := g8j (by unfold i5i at h; exact h)
  have hu := hr.units
  refine ⟨_, (a0i (a4s (pvF 0) (pvF 1) rfl)
   (a0m (a4s (pvF 0) (pvF 2) rfl))), ?_⟩
  walk_at "rd*"
  intro H1 B1 h1
  walk_at "rd*"
  intro H2 B2 h2
  exact k H2 (fun b u hb e => B2 _ _ hb (B1 _ _ hb e)) h2
theorem k3c (T : Tx K mg A) : a1n P A.wd K mg base CX0 1 A.a8p A.c9l ["self", "gain", "many"] (i5j A.a7v) := by
 have b6o := T.b6o
 have a2q := T.a2q
 have a2r := T.a2r
 refine T.c4w.ok h5t (fun vs H Q E h => ?_) (fun cdv A' outer s H vs Q E hr h => ?_)
 ·obtain ⟨_, _, _, rfl, _⟩ := g8j (by unfold i5j at h; exact h)
  rfl
 ·obtain ⟨o, gt, n, rfl, ⟨dx, ho, k⟩⟩ := g8j (by unfold i5j at h; exact h)
  have hu := hr.units
  refine ⟨_, (a0i (a4s (pvF 0) (pvF 1) rfl)
   (a0m (a4s (pvF 0) (pvF 2) rfl))), ?_⟩
  walk_at "rd*"
  intro H1 B1 h1
  walk_at "rd*"
  intro H2 B2 h2
  exact k H2 (fun b u hb e => B2 _ _ hb (B1 _ _ hb e)) h2
theorem l5m.same {H H' : Hp} {fs : List (Str × V)} {d : Dt} (h : l5m H fs d) (S : Same H H') : l5m H' fs d := by
 cases d with
 | gain y => obtain ⟨g, e, h1⟩ := h; exact ⟨g, e, S _ _ h1⟩
 | delay n => exact h
 | echo y n t => obtain ⟨g, fa, e, h1, h2⟩ := h; exact ⟨g, fa, e, S _ _ h1, S _ _ h2⟩
 | back y n => obtain ⟨g, e, h1⟩ := h; exact ⟨g, e, S _ _ h1⟩
 | hall y n => obtain ⟨g, e, h1⟩ := h; exact ⟨g, e, S _ _ h1⟩
 | swell cs => obtain ⟨ct, ln, S', ss, us, ps, e, h1, h2, h3, h4, h5⟩ := h; exact ⟨ct, ln, S', ss, us, ps, e, S _ _ h1, S _ _ h2, h3.same S, h4, h5.same S⟩
theorem IsP.same {A : Ad} {H H' : Hp} {o : Addr} {d : Dt} (h : IsP A H o d) (S : Same H H') : IsP A H' o d := by
 obtain ⟨dx, fs, h1, h2⟩ := h
 exact ⟨dx, fs, S _ _ h1, h2.same S⟩
theorem k0u.crn {cs : List (Int × Rat)} (h : k0u cs) : k7v cs := ⟨fun c hc => ⟨(h.1 c hc).1, Int.le_trans (h.1 c hc).2.1 (by decide), (h.1 c hc).2.2.b.1, (h.1 c hc).2.2.b.2⟩, h.2.1⟩
theorem k3d {x : Rat} {a : Nat} (h : intBits x.num <= a) : intBits (Rat.abs x).num <= a := by
 rw [i5u]
 exact intBits_natAbs_le h
theorem j9u (T : Tx K mg A) : a1n P A.wd K mg base CX0 1 A.a3y A.b0l ["one"] l8c := by
 refine T.a1z.ok a5h (fun vs H Q E h => ?_) (fun cdv A' outer s H vs Q E hr h => ?_)
 ·obtain ⟨_, rfl, _⟩ := b3h (by unfold l8c at h; exact h)
  rfl
 ·obtain ⟨p, rfl, ⟨x, hp, l1, l2, q⟩⟩ := b3h (by unfold l8c at h; exact h)
  have hu := hr.units
  unfold c8m at hp
  have fl := f6k l1 l2
  have g1 := f0v (intBits_le_iff.mp l1) (by decide)
  have g2 := f0v (intBits_le_iff.mp l2) (by decide)
  have a := d4y (intBits_le_iff.mp l1) (by decide)
  have b := d4y (intBits_le_iff.mp l2) (by decide)
  have e0 : Str.empty.length = 0 := rfl
  have e1 : (Str.ofString "/").length = 1 := by decide +kernel
  have hs : sizeLine = 16777216 := sizeLine_eq
  unfold fW at q
  refine ⟨_, (a0i (a1i (i := 1) a5h.nd rfl (Or.inl rfl) (a0v a3j (pvF 0) a0l (fun _ _ => rfl)))
   (a0i (a1i (i := 2) a5h.nd rfl (Or.inl rfl) (a0v a3j (pvF 0) a0l (fun _ _ => rfl)))
   (a0m (a0z (b2j (a3k (b6p (pvF 1)) (a3k a3s (a3k (b6p (pvF 2)) f0u)))))))), ?_⟩
  walk_at "rd*"
  simp only [strLen_append, e0, e1]
  refine ⟨by omega, by omega, by omega, by omega, by omega, by omega⟩
theorem l8n (T : Tx K mg A) : a1n P A.wd K mg base CX0 2 A.a7g A.c1h ["corner"] l8d := by
 have a2h : a1n P A.wd K mg base CX0 1 _ _ _ _ := j9u T
 refine T.b2r.ok c1g (fun vs H Q E h => ?_) (fun cdv A' outer s H vs Q E hr h => ?_)
 ·obtain ⟨_, rfl, _⟩ := b3h (by unfold l8d at h; exact h)
  rfl
 ·obtain ⟨p, rfl, ⟨c, g, hp, hg, l0, l1, l2, q⟩⟩ := b3h (by unfold l8d at h; exact h)
  have hu := hr.units
  have a1u : a2z 1 _ := hr.mono (by decide)
  have g0 := f0v l0 (by decide)
  have a := d4y l0 (by decide)
  have b := f6k l1 l2
  have e0 : Str.empty.length = 0 := rfl
  have e1 : (Str.ofString "=").length = 1 := by decide +kernel
  have hs : sizeLine = 16777216 := sizeLine_eq
  unfold cW at q
  refine ⟨_, (a0i (a1i (i := 1) c1g.nd rfl (Or.inl rfl) (a0v a3j (pvF 0) a0l (fun _ _ => rfl)))
   (a0i (a1i (i := 2) c1g.nd rfl (Or.inl rfl) (a0u a2h a1u (by rfl) T.a6i T.a1z.kp T.a4g .nil a1g (a0g (a0v a3j (pvF 0) a0l (fun _ _ => rfl)) a0j)))
   (a0m (a0z (b2j (a3k (b6p (pvF 1)) (a3k a3s (a3k (b6p (pvF 2)) f0u)))))))), ?_⟩
  walk_at "rd*"
  refine ⟨c.2, rfl, l1, l2, ?_⟩
  simp only [strLen_append, e0, e1]
  exact ⟨by omega, by omega, by omega, by omega, by omega, by omega, q⟩
theorem j9v {K : PySem.W.Frag} {a D : Addr} {xs : List V} {te : TE} {σ : L2.St} {H0 H : Hp} {Q : VK} (zs : List V) (hz : zs.length = xs.length) (n0 : H0 D = none) (S : Same H0 H) (hD : H D = some (.lst [])) (hS : H0 a = some (.tup xs)) (hsz : xs.length <= sizeLine)
  (hs : ∀ (i : Nat) x z H' (Q' : VK), xs[i]? = some x -> zs[i]? = some z -> Same H0 H' -> Q' z H' -> te (some x :: σ) H' Q') (q : ∀ H', Same H0 H' -> H' D = some (.lst zs) -> Q (.ref D) H') : g4f (Itt K a) te D σ H Q ⟨⟩ := by
 refine j8e (fun i ys H' => Same H0 H' /\ H' D = some (.lst ys) /\ ys = zs.take i) ⟨S, hD, by simp⟩ hsz (fun i ys H' hi p => ?_) (fun i x ys H' hx p => ?_) (fun ys H' p => ?_)
 ·refine ⟨p.2.1, SqT.of (p.1 _ _ hS), ?_⟩
  rw [p.2.2, List.length_take]
  omega
 ·have hi : i < zs.length := by rw [hz]; exact (List.getElem?_eq_some_iff.mp hx).1
  have hzi : zs[i]? = some zs[i] := List.getElem?_eq_getElem hi
  refine hs i x _ H' _ hx hzi p.1 ⟨p.2.1, fun H3 s3 h3 => ⟨p.1.step n0 s3, h3, ?_⟩⟩
  rw [p.2.2, List.take_add_one, hzi]
  rfl
 ·refine q H' p.1 ?_
  rw [p.2.1, p.2.2, <- hz, List.take_length]
theorem l8o (T : Tx K mg A) : a1n P A.wd K mg base CX0 2 A.a8k A.c8z ["self"] (h4m A 0) := by
 have a2h : a1n P A.wd K mg base CX0 1 _ _ _ _ := j9u T
 have b6l := T.b6l
 have a2l := T.a2l
 refine T.c4q.ok f6l (fun vs H Q E h => ?_) (fun cdv A' outer s H vs Q E hr h => ?_)
 ·obtain ⟨_, rfl, _⟩ := b3h (by unfold h4m at h; exact h)
  rfl
 ·obtain ⟨o, rfl, ⟨d, hk, hd, ok, q⟩⟩ := b3h (by unfold h4m at h; exact h)
  cases d with
  | gain y =>
   obtain ⟨dx, _, ho, g, rfl, hg⟩ := hd
   have ok : YOk y := ok
   replace ho : H o = some (.ins A.a9y dx [("gain", .ref g)]) := ho
   have hu := hr.units
   have a1u : a2z 1 _ := hr.mono (by decide)
   have a := f6k ok.b.1 ok.b.2
   have e0 : Str.empty.length = 0 := rfl
   have e1 : (Str.ofString "gain:").length = 5 := by decide +kernel
   have hs : sizeLine = 16777216 := sizeLine_eq
   refine ⟨_, (a0i (a1i (i := 1) f6l.nd rfl (Or.inl rfl) (a0u a2h a1u (by rfl) T.a6i T.a1z.kp T.a4g .nil a1g (a0g (a2t (pvF 0) rfl) a0j)))
   (a0m (a0z (b2j (a3k a3s (a3k (b6p (pvF 1)) f0u)))))), ?_⟩
   walk_at "rd*"
   refine ⟨y, rfl, ok.b.1, ok.b.2, ?_⟩
   simp only [strLen_append, e0, e1]
   exact ⟨by omega, by omega, by omega, by rw [l2v]; exact q _ (Same.refl _)⟩
  | _ => simp [Dt.kd] at hk
theorem l8p (T : Tx K mg A) : a1n P A.wd K mg base CX0 1 A.a6p A.c4g ["self"] (h4m A 1) := by
 have b0m := T.b0m
 have a1w := T.a1w
 refine T.c0j.ok f0y (fun vs H Q E h => ?_) (fun cdv A' outer s H vs Q E hr h => ?_)
 ·obtain ⟨_, rfl, _⟩ := b3h (by unfold h4m at h; exact h)
  rfl
 ·obtain ⟨o, rfl, ⟨d, hk, hd, ok, q⟩⟩ := b3h (by unfold h4m at h; exact h)
  cases d with
  | delay n =>
   obtain ⟨dx, _, ho, rfl⟩ := hd
   have ok : n <= 1000 := ok
   replace ho : H o = some (.ins A.a4z dx [("many", .int n)]) := ho
   have hu := hr.units
   have a := g8i (n := n) (Nat.lt_of_le_of_lt ok (by decide))
   have e0 : Str.empty.length = 0 := rfl
   have e1 : (Str.ofString "delay:").length = 6 := by decide +kernel
   have hs : sizeLine = 16777216 := sizeLine_eq
   have g0 := f0v (t := (n : Int)) (n := 20) (by omega) (by decide)
   unfold nW at a
   refine ⟨_, (a0i (a1i (i := 1) f0y.nd rfl (Or.inl rfl) (a2t (pvF 0) rfl))
   (a0m (a0z (b2j (a3k a3s (a3k (b6p (pvF 1)) f0u)))))), ?_⟩
   walk_at "rd*"
   have w := k7g n
   unfold nW at w
   simp only [strLen_append, e0, e1]
   refine ⟨by omega, by omega, by omega, ?_⟩
   rw [w]
   exact q _ (Same.refl _)
  | _ => simp [Dt.kd] at hk
theorem l8q (T : Tx K mg A) : a1n P A.wd K mg base CX0 2 A.a8m A.c9i ["self"] (h4m A 2) := by
 have a2h : a1n P A.wd K mg base CX0 1 _ _ _ _ := j9u T
 have b6m := T.b6m
 have a2m := T.a2m
 have a2n := T.a2n
 have a1y := T.a1y
 have a1o := T.a1o
 have a0t := T.a0t
 refine T.c4t.ok b9w (fun vs H Q E h => ?_) (fun cdv A' outer s H vs Q E hr h => ?_)
 ·obtain ⟨_, rfl, _⟩ := b3h (by unfold h4m at h; exact h)
  rfl
 ·obtain ⟨o, rfl, ⟨d, hk, hd, ok, q⟩⟩ := b3h (by unfold h4m at h; exact h)
  cases d with
  | echo y n t =>
   obtain ⟨dx, _, ho, g, fa, rfl, hg, hf⟩ := hd
   obtain ⟨oy, n1, n2, t2⟩ := ok
   replace ho : H o = some (.ins A.a4w dx (ecF g fa n t (y.den : Int))) := ho
   unfold ecF at ho
   have hu := hr.units
   have a1u : a2z 1 _ := hr.mono (by decide)
   have a := f6k oy.b.1 oy.b.2
   have b := g8i (n := n) (Nat.lt_of_le_of_lt n2 (by decide))
   have c := g8i (n := t) (Nat.lt_of_le_of_lt t2 (by decide))
   have e0 : Str.empty.length = 0 := rfl
   have e1 : (Str.ofString "echo:").length = 5 := by decide +kernel
   have e2 : (Str.ofString ":").length = 1 := by decide +kernel
   have hs : sizeLine = 16777216 := sizeLine_eq
   have g0 := f0v (t := (n : Int)) (n := 20) (by omega) (by decide)
   have g1 := f0v (t := (t : Int)) (n := 20) (by omega) (by decide)
   have w := l2w y n t
   unfold nW at b c w
   refine ⟨_, (a0i (a1i (i := 1) b9w.nd rfl (Or.inl rfl) (a0u a2h a1u (by rfl) T.a6i T.a1z.kp T.a4g .nil a1g (a0g (a2t (pvF 0) rfl) a0j)))
   (a0i (a1i (i := 2) b9w.nd rfl (Or.inl rfl) (a2t (pvF 0) rfl))
   (a0i (a1i (i := 3) b9w.nd rfl (Or.inl rfl) (a2t (pvF 0) rfl))
   (a0m (a0z (b2j (a3k a3s (a3k (b6p (pvF 1)) (a3k a3s (a3k (b6p (pvF 2)) (a3k a3s (a3k (b6p (pvF 3)) f0u)))))))))))), ?_⟩
   walk_at "rd*"
   refine ⟨y, rfl, oy.b.1, oy.b.2, ?_⟩
   simp only [strLen_append, e0, e1, e2]
   refine ⟨by omega, by omega, by omega, by omega, by omega, by omega, by omega, by omega, by omega, ?_⟩
   rw [w]
   exact q _ (Same.refl _)
  | _ => simp [Dt.kd] at hk
theorem l8r (T : Tx K mg A) : a1n P A.wd K mg base CX0 2 A.a8o A.c9k ["self"] (h4m A 3) := by
 have a2h : a1n P A.wd K mg base CX0 1 _ _ _ _ := j9u T
 have b6n := T.b6n
 have a2o := T.a2o
 have a2p := T.a2p
 refine T.c4v.ok c8v (fun vs H Q E h => ?_) (fun cdv A' outer s H vs Q E hr h => ?_)
 ·obtain ⟨_, rfl, _⟩ := b3h (by unfold h4m at h; exact h)
  rfl
 ·obtain ⟨o, rfl, ⟨d, hk, hd, ok, q⟩⟩ := b3h (by unfold h4m at h; exact h)
  cases d with
  | back y n =>
   obtain ⟨dx, _, ho, g, rfl, hg⟩ := hd
   obtain ⟨oy, n1, n2⟩ := ok
   replace ho : H o = some (.ins A.a7u dx [("gain", .ref g), ("many", .int n)]) := ho
   have hu := hr.units
   have a1u : a2z 1 _ := hr.mono (by decide)
   have a := f6k oy.b.1 oy.b.2
   have b := g8i (n := n) (Nat.lt_of_le_of_lt n2 (by decide))
   have e0 : Str.empty.length = 0 := rfl
   have e1 : (Str.ofString "back:").length = 5 := by decide +kernel
   have e2 : (Str.ofString ":").length = 1 := by decide +kernel
   have hs : sizeLine = 16777216 := sizeLine_eq
   have g0 := f0v (t := (n : Int)) (n := 20) (by omega) (by decide)
   have w := l2x y n
   unfold nW at b w
   refine ⟨_, (a0i (a1i (i := 1) c8v.nd rfl (Or.inl rfl) (a0u a2h a1u (by rfl) T.a6i T.a1z.kp T.a4g .nil a1g (a0g (a2t (pvF 0) rfl) a0j)))
   (a0i (a1i (i := 2) c8v.nd rfl (Or.inl rfl) (a2t (pvF 0) rfl))
   (a0m (a0z (b2j (a3k a3s (a3k (b6p (pvF 1)) (a3k a3s (a3k (b6p (pvF 2)) f0u))))))))), ?_⟩
   walk_at "rd*"
   refine ⟨y, rfl, oy.b.1, oy.b.2, ?_⟩
   simp only [strLen_append, e0, e1, e2]
   refine ⟨by omega, by omega, by omega, by omega, by omega, by omega, ?_⟩
   rw [w]
   exact q _ (Same.refl _)
  | _ => simp [Dt.kd] at hk
theorem l8s (T : Tx K mg A) : a1n P A.wd K mg base CX0 2 A.a8q A.c9m ["self"] (h4m A 4) := by
 have a2h : a1n P A.wd K mg base CX0 1 _ _ _ _ := j9u T
 have b6o := T.b6o
 have a2q := T.a2q
 have a2r := T.a2r
 refine T.c4y.ok c8w (fun vs H Q E h => ?_) (fun cdv A' outer s H vs Q E hr h => ?_)
 ·obtain ⟨_, rfl, _⟩ := b3h (by unfold h4m at h; exact h)
  rfl
 ·obtain ⟨o, rfl, ⟨d, hk, hd, ok, q⟩⟩ := b3h (by unfold h4m at h; exact h)
  cases d with
  | hall y n =>
   obtain ⟨dx, _, ho, g, rfl, hg⟩ := hd
   obtain ⟨oy, yl, n1, n2⟩ := ok
   replace ho : H o = some (.ins A.a7v dx [("gain", .ref g), ("many", .int n)]) := ho
   have hu := hr.units
   have a1u : a2z 1 _ := hr.mono (by decide)
   have a := f6k oy.b.1 oy.b.2
   have b := g8i (n := n) (Nat.lt_of_le_of_lt n2 (by decide))
   have e0 : Str.empty.length = 0 := rfl
   have e1 : (Str.ofString "hall:").length = 5 := by decide +kernel
   have e2 : (Str.ofString ":").length = 1 := by decide +kernel
   have hs : sizeLine = 16777216 := sizeLine_eq
   have g0 := f0v (t := (n : Int)) (n := 20) (by omega) (by decide)
   have w := l2y y n
   unfold nW at b w
   clear yl
   refine ⟨_, (a0i (a1i (i := 1) c8w.nd rfl (Or.inl rfl) (a0u a2h a1u (by rfl) T.a6i T.a1z.kp T.a4g .nil a1g (a0g (a2t (pvF 0) rfl) a0j)))
   (a0i (a1i (i := 2) c8w.nd rfl (Or.inl rfl) (a2t (pvF 0) rfl))
   (a0m (a0z (b2j (a3k a3s (a3k (b6p (pvF 1)) (a3k a3s (a3k (b6p (pvF 2)) f0u))))))))), ?_⟩
   walk_at "rd*"
   refine ⟨y, rfl, oy.b.1, oy.b.2, ?_⟩
   simp only [strLen_append, e0, e1, e2]
   refine ⟨by omega, by omega, by omega, by omega, by omega, by omega, ?_⟩
   rw [w]
   exact q _ (Same.refl _)
  | _ => simp [Dt.kd] at hk
theorem l8t (T : Tx K mg A) : a1n P A.wd K mg base CX0 3 A.a6r A.c4i ["self"] (h4m A 5) := by
 have h0q : a1n P A.wd K mg base CX0 2 _ _ _ _ := l8n T
 have b0n := T.b0n
 have a1m := T.a1m
 have a1p := T.a1p
 have a1s := T.a1s
 refine T.c0l.ok f1g (fun vs H Q E h => ?_) (fun cdv A' outer s H vs Q E hr h => ?_)
 ·obtain ⟨_, rfl, _⟩ := b3h (by unfold h4m at h; exact h)
  rfl
 ·obtain ⟨o, rfl, ⟨d, hk, hd, ok, q⟩⟩ := b3h (by unfold h4m at h; exact h)
  cases d with
  | swell cs =>
   obtain ⟨dx, _, ho, ct, ln, S, ss, us, ps, rfl, hct, hln, TP, sok, R⟩ := hd
   have ok : k0u cs := ok
   replace ho : H o = some (.ins A.a3z dx [("corners", .ref ct), ("shared", .int S), ("lines", .ref ln)]) := ho
   have hu := hr.units
   have g4s : a2z 2 _ := hr.mono (by decide)
   have pl := R.1
   have hs : sizeLine = 16777216 := sizeLine_eq
   have cl := ok.len
   have L12 := ok.2.2.2
   have e2 : (Str.ofString ",").length = 1 := by decide +kernel
   have jo : JoinOk (Str.ofString ",") (cs.map cW) = true := joinOk_of (n := 45) (fun y hy => by obtain ⟨c, hc, rfl⟩ := List.mem_map.mp hy; exact cl c hc) (by rw [List.length_map, e2, hs]; omega)
   have jl : (Txt.join (Str.ofString ",") (cs.map cW)).length ≤ 600 := by
    rw [l3a, k7f]
    exact ok.l7u
   have e0 : Str.empty.length = 0 := rfl
   have e1 : (Str.ofString "swell:").length = 6 := by decide +kernel
   refine ⟨_, (a0i (a1i (i := 1) f1g.nd rfl (Or.inl rfl) (a7o b8g PySem.F.plainAttrs_str PySem.F.slot_str_join PySem.F.type_str_join k2g a3s (a0g (b7z (k6u (a2t (pvF 0) rfl)) (fun _ _ _ _ _ => (a0u h0q g4s (by rfl) T.g9u T.b2r.kp T.c4z .nil a1g (a0g (pvF 0) a0j))) (d3k (sc := a0h a8g) (N := ["self", "corners"]) rfl rfl (by decide +kernel)) rfl) a0j)))
   (a0m (a0z (b2j (a3k a3s (a3k (b6p (pvF 1)) f0u)))))), ?_⟩
   walk_at "rd*"
   intro D H2 n2 S2 h2
   refine j9v (cs.map fun c => V.str (cW c)) (by rw [List.length_map, List.length_map, pl]) n2 S2 h2 hct (by rw [List.length_map, pl, hs]; omega) ?_ ?_
   ·intro i x z H' Q' hx hz S' q'
    obtain ⟨p, c, g, rfl, hc, hp, hg⟩ := R.get hx
    rw [List.getElem?_map, hc] at hz
    cases hz
    have hp' := S' _ _ hp
    have hg' := S' _ _ hg
    obtain ⟨o1, o2, oy⟩ := ok.1 c (List.mem_of_getElem? hc)
    clear ho hct hln h2 hp hg
    walk_at "rd*"
    exact ⟨c, g, ⟨rfl, rfl⟩, hg', by omega, oy.b.1, oy.b.2, q'⟩
   intro H3 S3 h3
   clear h2
   walk_at "rd*"
   refine ⟨cs.map cW, by rw [List.map_map]; rfl, jo, by omega, ?_, ?_, ?_⟩
   ·rw [strLen_append, e0, e1]
    omega
   ·rw [strLen_append, strLen_append, e0, e1]
    omega
   ·rw [k7h]
    exact q H3 S3
  | _ => simp [Dt.kd] at hk
theorem j9w (T : Tx K mg A) : a1n P A.wd K mg base CX0 4 A.b0w A.c9o ["text"] l8e := by
 have g1t : a1n P A.wd K mg base CX0 3 _ _ _ _ := k8g T
 refine T.a7l.ok f6m (fun vs H Q E h => ?_) (fun cdv A' outer s H vs Q E hr h => ?_)
 ·obtain ⟨_, rfl, _⟩ := i3p (by unfold l8e at h; exact h)
  rfl
 ·obtain ⟨x, rfl, ⟨y, hx, oy, k⟩⟩ := i3p (by unfold l8e at h; exact h)
  subst hx
  have hu := hr.units
  have f8j : a2z 3 _ := hr.mono (by decide)
  refine ⟨_, (a0i (k6w (a1i (i := 1) f6m.nd rfl (Or.inl rfl) (a0u g1t f8j (by rfl) T.g0x T.a8u.kp T.b8n .nil a1g (a0g (pvF 0) a0j))))
   (a0i (a4j (pw_or (a0y g4e (a1l c2h (by rfl) T.g4o boot_abs (a0g (a0v a3j (pvF 1) a0l (fun _ _ => rfl)) a0j)) (a5v (v := .int 1000) (by rfl) T.b1w T.f6s) (a1r _)) (pw_or1 (a0y g4e (a0v a3j (pvF 1) a0l (fun _ _ => rfl)) (a5v (v := .int 1000) (by rfl) T.b1w T.f6s) (a1r _)))).pt
   (a0m a2k)
   a1j)
   (a0m (a0z (pvF 1))))), ?_⟩
  walk_at "rd"
  refine ⟨y.num, (y.den : Int), k6z oy, ?_⟩
  rintro _ H1 ⟨o, rfl, n1, S1, h1⟩
  have y1 : ¬ 1000 < (y.num.natAbs : Int) := by have := oy.1; omega
  have y2 : ¬ 1000 < (y.den : Int) := by have := oy.2; omega
  walk_at "rd*"
  exact k _ _ ⟨o, rfl, n1, S1, h1⟩
theorem k3e (T : Tx K mg A) : a1n P A.wd K mg base CX0 3 A.a7h A.c1j ["text", "least", "most"] l8f := by
 have j2x : a1n P A.wd K mg base CX0 2 _ _ _ _ := l4c T
 refine T.a5r.ok d3p (fun vs H Q E h => ?_) (fun cdv A' outer s H vs Q E hr h => ?_)
 ·obtain ⟨_, _, _, rfl, _⟩ := k5f (by unfold l8f at h; exact h)
  rfl
 ·obtain ⟨x, a, b, rfl, ⟨n, hx, hn, h1, h2, q⟩⟩ := k5f (by unfold l8f at h; exact h)
  have hu := hr.units
  have i5z : a2z 2 _ := hr.mono (by decide)
  refine ⟨_, (a0i (a1i (i := 3) d3p.nd rfl (Or.inl rfl) (a0u j2x i5z (by rfl) T.j2l T.c2t.kp T.f3l .nil a1g (a0g (pvF 0) a0j)))
   (a0i (a4j (pw_or (a0y j0g (pvF 3) f9z (a1r _)) (pw_or (a0y of_lt (pvF 3) (pvF 1) (a1r _)) (pw_or1 (a0y g4e (pvF 3) (pvF 2) (a1r _))))).pt
   (a0m a2k)
   a1j)
   (a0m (a0z (pvF 3))))), ?_⟩
  walk_at "rd"
  refine ⟨n, hx, hn, ?_⟩
  have z1 : ¬ (n : Int) < a := by omega
  have z2 : ¬ b < (n : Int) := by omega
  walk_at "rd*"
theorem k8m (T : Tx K mg A) : a1n P A.wd K mg base CX0 4 A.b0y A.c9p ["text"] l8g := by
 have a7m : a1n P A.wd K mg base CX0 3 _ _ _ _ := k3e T
 refine T.b1l.ok h5u (fun vs H Q E h => ?_) (fun cdv A' outer s H vs Q E hr h => ?_)
 ·obtain ⟨_, rfl, _⟩ := i3p (by unfold l8g at h; exact h)
  rfl
 ·obtain ⟨x, rfl, ⟨n, hx, n1, n2, q⟩⟩ := i3p (by unfold l8g at h; exact h)
  subst hx
  have hu := hr.units
  have a5w : a2z 3 _ := hr.mono (by decide)
  refine ⟨_, (a0m (a0z (a0u a7m a5w (by rfl) T.b6s T.a5r.kp T.a9r .nil a1g (a0g (pvF 0) (a0g a0l (a0g (a5v (v := .int 1000) (by rfl) T.b1y T.f6t) a0j)))))), ?_⟩
  walk_at "rd"
  exact ⟨n, k2j n, by omega, by omega, by omega, q⟩
theorem j2y (T : Tx K mg A) : a1n P A.wd K mg base CX0 1 A.a7i A.c1k ["values", "count"] l8h := by
 refine T.a3t.ok g4i (fun vs H Q E h => ?_) (fun cdv A' outer s H vs Q E hr h => ?_)
 ·obtain ⟨_, _, rfl, _⟩ := g4g (by unfold l8h at h; exact h)
  rfl
 ·obtain ⟨l, c, rfl, ⟨xs, hl, e, q⟩⟩ := g4g (by unfold l8h at h; exact h)
  have hu := hr.units
  refine ⟨_, (a0m (a4j (a0y (b3g hu) (a1l a3p (by rfl) T.b8w boot_len (a0g (pvF 0) a0j)) (pvF 1) (a1r _))
   (a0m a2k)
   a1j)), ?_⟩
  walk_at "rd*"
theorem j2z (T : Tx K mg A) : a1n P A.wd K mg base CX0 6 A.b2m A.f2y ["values"] (h4n A 0) := by
 have a3m : a1n P A.wd K mg base CX0 1 _ _ _ _ := j2y T
 have a7n : a1n P A.wd K mg base CX0 4 _ _ _ _ := j9w T
 have i6a : a1n P A.wd K mg base CX0 1 _ _ _ _ := k3a T
 have b6l := T.b6l
 have a2l := T.a2l
 refine T.d0k.ok j2h (fun vs H Q E h => ?_) (fun cdv A' outer s H vs Q E hr h => ?_)
 ·obtain ⟨_, rfl, _⟩ := b3h (by unfold h4n at h; exact h)
  rfl
 ·obtain ⟨l, rfl, ⟨d, hk, ok, hl, q⟩⟩ := b3h (by unfold h4n at h; exact h)
  cases d with
  | gain y =>
   have hu := hr.units
   have a2w : a2z 1 _ := hr.mono (by decide)
   have a5t : a2z 4 _ := hr.mono (by decide)
   have h6n : a2z 2 _ := hr.mono (by decide)
   replace hl : H l = some (.lst [.str (fW y)]) := hl
   refine ⟨_, (a0i (a3n (a0u a3m a2w (by rfl) T.a9s T.a3t.kp T.a5s .nil a1g (a0g (pvF 0) (a0g a0l a0j))))
   (a0m (a0z (b9v T.l3r i6a h6n (by rfl) T.g1h T.d5r .nil a1g (a0g (a0u a7n a5t (by rfl) T.b8q T.a7l.kp T.b1k .nil a1g (a0g (a0v a3j (pvF 0) a0l (fun _ _ => rfl)) a0j)) a0j))))), ?_⟩
   walk_at "rd"
   refine ⟨_, hl, rfl, ?_⟩
   walk_at "rd*"
   refine ⟨y, rfl, ok, ?_⟩
   rintro _ H1 ⟨g, rfl, n1, S1, h1⟩
   walk_at "rd"
   intro x dx H2 n2 n3 nx S2 hdx hx
   refine ⟨dx, hx, fun H3 B3 h3 => ?_⟩
   rw [asNew]
   refine ⟨rfl, ?_⟩
   have gx : g ≠ x := fun e => by rw [e] at h1; rw [h1] at n2; cases n2
   refine q x H3 (S1.free n2) (fun b u e => B3 _ _ (fun z => by rw [z] at e; rw [S1 _ _ e] at n2; cases n2) (S2 _ _ (S1 _ _ e))) ⟨dx, _, h3, g, rfl, B3 _ _ gx (S2 _ _ h1)⟩
  | _ => simp [Dt.kd] at hk
theorem i6b (T : Tx K mg A) : a1n P A.wd K mg base CX0 6 A.a9p A.d5m ["values"] (h4n A 1) := by
 have a3m : a1n P A.wd K mg base CX0 1 _ _ _ _ := j2y T
 have a7m : a1n P A.wd K mg base CX0 3 _ _ _ _ := k3e T
 have h6o : a1n P A.wd K mg base CX0 1 _ _ _ _ := j9t T
 have b0m := T.b0m
 have a1w := T.a1w
 refine T.c2z.ok i4r (fun vs H Q E h => ?_) (fun cdv A' outer s H vs Q E hr h => ?_)
 ·obtain ⟨_, rfl, _⟩ := b3h (by unfold h4n at h; exact h)
  rfl
 ·obtain ⟨l, rfl, ⟨d, hk, ok, hl, q⟩⟩ := b3h (by unfold h4n at h; exact h)
  cases d with
  | delay n =>
   have hu := hr.units
   have a2w : a2z 1 _ := hr.mono (by decide)
   have a5w : a2z 3 _ := hr.mono (by decide)
   have h0r : a2z 2 _ := hr.mono (by decide)
   have ok : n <= 1000 := ok
   replace hl : H l = some (.lst [.str (nW n)]) := hl
   refine ⟨_, (a0i (a3n (a0u a3m a2w (by rfl) T.a9s T.a3t.kp T.a5s .nil a1g (a0g (pvF 0) (a0g a0l a0j))))
   (a0m (a0z (b9v T.k7n h6o h0r (by rfl) T.f1j T.d0g .nil a1g (a0g (a0u a7m a5w (by rfl) T.b6s T.a5r.kp T.a9r .nil a1g (a0g (a0v a3j (pvF 0) a0l (fun _ _ => rfl)) (a0g a0l (a0g (a5v (v := .int 1000) (by rfl) T.b1y T.f6t) a0j)))) a0j))))), ?_⟩
   walk_at "rd"
   refine ⟨_, hl, rfl, ?_⟩
   walk_at "rd*"
   refine ⟨n, k2j n, by omega, by omega, by omega, ?_⟩
   intro x dx H2 n2 n3 nx S2 hdx hx
   refine ⟨dx, hx, fun H3 B3 h3 => ?_⟩
   rw [asNew]
   refine ⟨rfl, ?_⟩
   exact q x H3 n2 (fun b u e => B3 _ _ (fun z => by rw [z] at e; rw [e] at n2; cases n2) (S2 _ _ e)) ⟨dx, _, h3, rfl⟩
  | _ => simp [Dt.kd] at hk
theorem j3a (T : Tx K mg A) : a1n P A.wd K mg base CX0 6 A.b2n A.f2z ["values"] (h4n A 2) := by
 have a3m : a1n P A.wd K mg base CX0 1 _ _ _ _ := j2y T
 have a7n : a1n P A.wd K mg base CX0 4 _ _ _ _ := j9w T
 have b9g : a1n P A.wd K mg base CX0 4 _ _ _ _ := k8m T
 have a7m : a1n P A.wd K mg base CX0 3 _ _ _ _ := k3e T
 have i6c : a1n P A.wd K mg base CX0 2 _ _ _ _ := k2z T
 have b6m := T.b6m
 have a2m := T.a2m
 have a2n := T.a2n
 have a1y := T.a1y
 have a1o := T.a1o
 have a0t := T.a0t
 refine T.d0l.ok j2i (fun vs H Q E h => ?_) (fun cdv A' outer s H vs Q E hr h => ?_)
 ·obtain ⟨_, rfl, _⟩ := b3h (by unfold h4n at h; exact h)
  rfl
 ·obtain ⟨l, rfl, ⟨d, hk, ok, hl, q⟩⟩ := b3h (by unfold h4n at h; exact h)
  cases d with
  | echo y n t =>
   have hu := hr.units
   have a2w : a2z 1 _ := hr.mono (by decide)
   have a5t : a2z 4 _ := hr.mono (by decide)
   have b5y : a2z 4 _ := hr.mono (by decide)
   have a5w : a2z 3 _ := hr.mono (by decide)
   have h6p : a2z 3 _ := hr.mono (by decide)
   obtain ⟨oy, na, nb, tb⟩ := ok
   replace hl : H l = some (.lst [.str (fW y), .str (nW n), .str (nW t)]) := hl
   refine ⟨_, (a0i (a3n (a0u a3m a2w (by rfl) T.a9s T.a3t.kp T.a5s .nil a1g (a0g (pvF 0) (a0g a0l a0j))))
   (a0m (a0z (b9v T.l3s i6c h6p (by rfl) T.g1i T.d5t .nil a1g (a0g (a0u a7n a5t (by rfl) T.b8q T.a7l.kp T.b1k .nil a1g (a0g (a0v a3j (pvF 0) a0l (fun _ _ => rfl)) a0j)) (a0g (a0u b9g b5y (by rfl) T.d6h T.b1l.kp T.b8r .nil a1g (a0g (a0v a3j (pvF 0) a0l (fun _ _ => rfl)) a0j)) (a0g (a0u a7m a5w (by rfl) T.b6s T.a5r.kp T.a9r .nil a1g (a0g (a0v a3j (pvF 0) a0l (fun _ _ => rfl)) (a0g a0l (a0g (a5v (v := .int 16) (by rfl) T.b2u T.h0f) a0j)))) a0j))))))), ?_⟩
   walk_at "rd"
   refine ⟨_, hl, rfl, ?_⟩
   walk_at "rd*"
   refine ⟨y, rfl, oy, ?_⟩
   rintro _ H1 ⟨g, rfl, n1, S1, h1⟩
   have hl1 := S1 _ _ hl
   clear hl
   walk_at "rd*"
   refine ⟨n, rfl, na, nb, t, k2j t, by omega, by omega, by omega, ?_⟩
   intro x dx H2 n2 n3 nx S2 hdx hx
   refine ⟨dx, n, t, y.num, (y.den : Int), rfl, rfl, tb, oy.b.1, oy.b.2, S2 _ _ h1, hx, fun fa H3 B3 nf h3 hf => ?_⟩
   rw [asNew]
   refine ⟨rfl, ?_⟩
   have gx : g ≠ x := fun e => by rw [e] at h1; rw [h1] at n2; cases n2
   exact q x H3 (S1.free n2) (fun b u e => B3 _ _ (fun z => by rw [z] at e; rw [S1 _ _ e] at n2; cases n2) (S2 _ _ (S1 _ _ e))) ⟨dx, _, h3, g, fa, rfl, B3 _ _ gx (S2 _ _ h1), hf⟩
  | _ => simp [Dt.kd] at hk
theorem j3b (T : Tx K mg A) : a1n P A.wd K mg base CX0 6 A.b2o A.f3g ["values"] (h4n A 3) := by
 have a3m : a1n P A.wd K mg base CX0 1 _ _ _ _ := j2y T
 have a7n : a1n P A.wd K mg base CX0 4 _ _ _ _ := j9w T
 have b9g : a1n P A.wd K mg base CX0 4 _ _ _ _ := k8m T
 have i6d : a1n P A.wd K mg base CX0 1 _ _ _ _ := k3b T
 have b6n := T.b6n
 have a2o := T.a2o
 have a2p := T.a2p
 refine T.d0m.ok j2j (fun vs H Q E h => ?_) (fun cdv A' outer s H vs Q E hr h => ?_)
 ·obtain ⟨_, rfl, _⟩ := b3h (by unfold h4n at h; exact h)
  rfl
 ·obtain ⟨l, rfl, ⟨d, hk, ok, hl, q⟩⟩ := b3h (by unfold h4n at h; exact h)
  cases d with
  | back y n =>
   have hu := hr.units
   have a2w : a2z 1 _ := hr.mono (by decide)
   have a5t : a2z 4 _ := hr.mono (by decide)
   have b5y : a2z 4 _ := hr.mono (by decide)
   have h6q : a2z 2 _ := hr.mono (by decide)
   obtain ⟨oy, na, nb⟩ := ok
   replace hl : H l = some (.lst [.str (fW y), .str (nW n)]) := hl
   refine ⟨_, (a0i (a3n (a0u a3m a2w (by rfl) T.a9s T.a3t.kp T.a5s .nil a1g (a0g (pvF 0) (a0g a0l a0j))))
   (a0m (a0z (b9v T.l3t i6d h6q (by rfl) T.g1j T.d5v .nil a1g (a0g (a0u a7n a5t (by rfl) T.b8q T.a7l.kp T.b1k .nil a1g (a0g (a0v a3j (pvF 0) a0l (fun _ _ => rfl)) a0j)) (a0g (a0u b9g b5y (by rfl) T.d6h T.b1l.kp T.b8r .nil a1g (a0g (a0v a3j (pvF 0) a0l (fun _ _ => rfl)) a0j)) a0j)))))), ?_⟩
   walk_at "rd"
   refine ⟨_, hl, rfl, ?_⟩
   walk_at "rd*"
   refine ⟨y, rfl, oy, ?_⟩
   rintro _ H1 ⟨g, rfl, n1, S1, h1⟩
   have hl1 := S1 _ _ hl
   clear hl
   walk_at "rd*"
   refine ⟨n, rfl, na, nb, ?_⟩
   intro x dx H2 n2 n3 nx S2 hdx hx
   refine ⟨dx, hx, fun H3 B3 h3 => ?_⟩
   rw [asNew]
   refine ⟨rfl, ?_⟩
   have gx : g ≠ x := fun e => by rw [e] at h1; rw [h1] at n2; cases n2
   exact q x H3 (S1.free n2) (fun b u e => B3 _ _ (fun z => by rw [z] at e; rw [S1 _ _ e] at n2; cases n2) (S2 _ _ (S1 _ _ e))) ⟨dx, _, h3, g, rfl, B3 _ _ gx (S2 _ _ h1)⟩
  | _ => simp [Dt.kd] at hk
theorem j3c (T : Tx K mg A) : a1n P A.wd K mg base CX0 6 A.b2p A.f3h ["values"] (h4n A 4) := by
 have a3m : a1n P A.wd K mg base CX0 1 _ _ _ _ := j2y T
 have a7n : a1n P A.wd K mg base CX0 4 _ _ _ _ := j9w T
 have b9g : a1n P A.wd K mg base CX0 4 _ _ _ _ := k8m T
 have j9x : a1n P A.wd K mg base CX0 1 _ _ _ _ := k8j T
 have j3d : a1n P A.wd K mg base CX0 1 _ _ _ _ := k2x T
 have i6e : a1n P A.wd K mg base CX0 1 _ _ _ _ := k3c T
 have b6o := T.b6o
 have a2q := T.a2q
 have a2r := T.a2r
 refine T.d0n.ok g8m (fun vs H Q E h => ?_) (fun cdv A' outer s H vs Q E hr h => ?_)
 ·obtain ⟨_, rfl, _⟩ := b3h (by unfold h4n at h; exact h)
  rfl
 ·obtain ⟨l, rfl, ⟨d, hk, ok, hl, q⟩⟩ := b3h (by unfold h4n at h; exact h)
  cases d with
  | hall y n =>
   have hu := hr.units
   have a2w : a2z 1 _ := hr.mono (by decide)
   have a5t : a2z 4 _ := hr.mono (by decide)
   have b5y : a2z 4 _ := hr.mono (by decide)
   have j3e : a2z 1 _ := hr.mono (by decide)
   have i6f : a2z 1 _ := hr.mono (by decide)
   have h6r : a2z 2 _ := hr.mono (by decide)
   obtain ⟨oy, yl, na, nb⟩ := ok
   replace hl : H l = some (.lst [.str (fW y), .str (nW n)]) := hl
   refine ⟨_, (a0i (a3n (a0u a3m a2w (by rfl) T.a9s T.a3t.kp T.a5s .nil a1g (a0g (pvF 0) (a0g a0l a0j))))
   (a0i (a1i (i := 1) g8m.nd rfl (Or.inl rfl) (a0u a7n a5t (by rfl) T.b8q T.a7l.kp T.b1k .nil a1g (a0g (a0v a3j (pvF 0) a0l (fun _ _ => rfl)) a0j)))
   (a0i (a4j (b2z (a4y (a0u j3d i6f (by rfl) T.j2n T.c2y.kp T.f3p .nil a1g (a0g (a0u j9x j3e (by rfl) T.j8s T.c9z.kp T.g0w .nil a1g (a0g (pvF 1) a0j)) (a0g (a9z (a0g a0l (a0g a0l a0j))) a0j)))))
   (a0m a2k)
   a1j)
   (a0m (a0z (b9v T.l3u i6e h6r (by rfl) T.g1k T.d5y .nil a1g (a0g (pvF 1) (a0g (a0u b9g b5y (by rfl) T.d6h T.b1l.kp T.b8r .nil a1g (a0g (a0v a3j (pvF 0) a0l (fun _ _ => rfl)) a0j)) a0j)))))))), ?_⟩
   walk_at "rd"
   refine ⟨_, hl, rfl, ?_⟩
   walk_at "rd*"
   refine ⟨y, rfl, oy, ?_⟩
   rintro _ H1 ⟨g, rfl, n1, S1, h1⟩
   have hl1 := S1 _ _ hl
   clear hl
   walk_at "rd"
   refine ⟨y, h1, ?_⟩
   rintro _ H2 ⟨a, rfl, n2, S2, h2⟩
   walk_at "rd"
   refine fun u H3 n3 S3 h3 => ?_
   have h3' : H3 u = some (.tup (c8m 1)) := h3
   have S13 := S2.trans S3
   have b1 := oy.b.1
   have b2 := oy.b.2
   have ab := k3d b1
   have hl3 := S13 _ _ hl1
   clear h3 hl1
   have un : (Rat.abs y).num * ((1 : Rat).den : Int) < (1 : Rat).num * ((Rat.abs y).den : Int) := by
    rw [i5u, i5v]
    show (y.num.natAbs : Int) * 1 < 1 * (y.den : Int)
    omega
   walk_at "rd"
   refine ⟨Rat.abs y, 1, ⟨S3 _ _ h2, h3', by omega, by rw [i5v]; omega, by decide, by decide⟩, ?_⟩
   walk_at "rd*"
   refine ⟨n, rfl, na, nb, ?_⟩
   intro x dx H4 n4 n5 nx S4 hdx hx
   refine ⟨dx, hx, fun H5 B5 h5 => ?_⟩
   rw [asNew]
   refine ⟨rfl, ?_⟩
   have h1' := S13 _ _ h1
   have S03 := S1.trans S13
   have gx : g ≠ x := fun e => by rw [e] at h1'; rw [h1'] at n4; cases n4
   exact q x H5 (S03.free n4) (fun b u e => B5 _ _ (fun z => by rw [z] at e; rw [S03 _ _ e] at n4; cases n4) (S4 _ _ (S03 _ _ e))) ⟨dx, _, h5, g, rfl, B5 _ _ gx (S4 _ _ h1')⟩
  | _ => simp [Dt.kd] at hk
theorem Crn.j3f {l : Addr} {H H' : Hp} {ps : List Addr} {cs : List (Int × Rat)} {xs : List V} (h : Crn H ps cs) (hl : H l = some (.lst xs)) (S : a2i l H H') : Crn H' ps cs :=
 ⟨h.1, fun i p c e1 e2 => (h.2 i p c e1 e2).elim fun g z => ⟨g, S _ _ (fun e => by have := z.1; rw [e, hl] at this; cases this) z.1, S _ _ (fun e => by have := z.2; rw [e, hl] at this; cases this) z.2⟩⟩
theorem Crn.nil {H : Hp} : Crn H [] [] := ⟨rfl, fun i p r e => by simp at e⟩
theorem Crn.snoc {H : Hp} {ps : List Addr} {cs : List (Int × Rat)} {p g : Addr} {a : Int} {y : Rat} (h : Crn H ps cs) (hp : H p = some (.tup [.int a, .ref g])) (hg : H g = some (.tup (c8m y))) : Crn H (ps ++ [p]) (cs ++ [(a, y)]) := by
 refine ⟨by rw [List.length_append, List.length_append, h.1]; rfl, fun i p' c' e1 e2 => ?_⟩
 by_cases hi : i < ps.length
 ·rw [List.getElem?_append_left hi] at e1
  rw [List.getElem?_append_left (by rw [<- h.1]; exact hi)] at e2
  exact h.2 i p' c' e1 e2
 ·rw [List.getElem?_append_right (by omega)] at e1
  rw [List.getElem?_append_right (by rw [<- h.1]; omega)] at e2
  rw [<- h.1] at e2
  cases hz : i - ps.length with
  | zero =>
   rw [hz] at e1 e2
   simp at e1 e2
   subst e1 e2
   exact ⟨g, hp, hg⟩
  | succ n =>
   rw [hz] at e1
   simp at e1
theorem l8u (T : Tx K mg A) : a1n P A.wd K mg base CX0 5 A.a7j A.c1l ["text"] l8i := by
 have a7n : a1n P A.wd K mg base CX0 4 _ _ _ _ := j9w T
 have a7m : a1n P A.wd K mg base CX0 3 _ _ _ _ := k3e T
 refine T.b2s.ok d3q (fun vs H Q E h => ?_) (fun cdv A' outer s H vs Q E hr h => ?_)
 ·obtain ⟨_, rfl, _⟩ := i3p (by unfold l8i at h; exact h)
  rfl
 ·obtain ⟨x, rfl, ⟨c, hx, c0, c1, oy, q⟩⟩ := i3p (by unfold l8i at h; exact h)
  subst hx
  have hu := hr.units
  have a5t : a2z 4 _ := hr.mono (by decide)
  have a5w : a2z 3 _ := hr.mono (by decide)
  have sp := h5m (c := c)
  have cl := k5d (c := c) (by omega) oy.b.1 oy.b.2
  have hs : sizeLine = 16777216 := sizeLine_eq
  have d1 : ((⟨#[61]⟩ : Str).length == 0) = false := rfl
  have d2 : (cW c).length <= sizeLine := by omega
  refine ⟨_, (a0i (a1i (i := 1) d3q.nd rfl (Or.inl rfl) (a7o b8g PySem.F.plainAttrs_str PySem.F.slot_str_split PySem.F.type_str_split f9t (pvF 0) (a0g a3s a0j)))
   (a0i (a4j (a0y (b3g hu) (a1l a3p (by rfl) T.b8w boot_len (a0g (pvF 1) a0j)) a0l (a1r _))
   (a0m a2k)
   a1j)
   (a0m (a0z (a9z (a0g (a0u a7m a5w (by rfl) T.b6s T.a5r.kp T.a9r .nil a1g (a0g (a0v a3j (pvF 1) a0l (fun _ _ => rfl)) (a0g a0l (a0g (a5v (v := .int 100000) (by rfl) T.c3n T.j2s) a0j)))) (a0g (a0u a7n a5t (by rfl) T.b8q T.a7l.kp T.b1k .nil a1g (a0g (a0v a3j (pvF 1) a0l (fun _ _ => rfl)) a0j)) a0j))))))), ?_⟩
  rw [l7w]
  walk_at "rd*"
  refine ⟨by omega, fun l H1 n1 S1 h1 => ?_⟩
  walk_at "rd*"
  have e : ((c.1.toNat : Nat) : Int) = c.1 := Int.toNat_of_nonneg c0
  refine ⟨c.1.toNat, by rw [c8h, e], by omega, by omega, by omega, c.2, rfl, oy, ?_⟩
  rw [e]
  rintro _ H2 ⟨g, rfl, n2, S2, h2⟩
  walk_at "rd"
  intro p H3 n3 S3 h3
  exact q p g H3 ((S1.trans S2).free n3) (S1.trans (S2.trans S3)) h3 (S3 _ _ h2)
theorem i6g (T : Tx K mg A) : a1n P A.wd K mg base CX0 7 A.a9q A.d5n ["values"] (h4n A 5) := by
 have a3m : a1n P A.wd K mg base CX0 1 _ _ _ _ := j2y T
 have h0s : a1n P A.wd K mg base CX0 5 _ _ _ _ := l8u T
 have h6s : a1n P A.wd K mg base CX0 5 _ _ _ _ := j9r T
 have b0n := T.b0n
 have a1m := T.a1m
 have a1p := T.a1p
 have a1s := T.a1s
 refine T.c3g.ok c3t (fun vs H Q E h => ?_) (fun cdv A' outer s H vs Q E hr h => ?_)
 ·obtain ⟨_, rfl, _⟩ := b3h (by unfold h4n at h; exact h)
  rfl
 ·obtain ⟨l, rfl, ⟨d, hk, ok, hl, q⟩⟩ := b3h (by unfold h4n at h; exact h)
  cases d with
  | swell cs =>
   have hu := hr.units
   have a2w : a2z 1 _ := hr.mono (by decide)
   have g4t : a2z 5 _ := hr.mono (by decide)
   have h0t : a2z 6 _ := hr.mono (by decide)
   have ok : k0u cs := ok
   have L1 := ok.2.2.1
   have L12 := ok.2.2.2
   have hs : sizeLine = 16777216 := sizeLine_eq
   have jl := ok.l7u
   have sp := g9l L1
   have d1 : ((⟨#[44]⟩ : Str).length == 0) = false := rfl
   replace hl : H l = some (.lst [.str (Str.join ⟨#[44]⟩ (cs.map cW))]) := hl
   refine ⟨_, (a0i (a3n (a0u a3m a2w (by rfl) T.a9s T.a3t.kp T.a5s .nil a1g (a0g (pvF 0) (a0g a0l a0j))))
   (a0i (i4c (i := 1) c3t.nd rfl rfl (a3o (a7o b8g PySem.F.plainAttrs_str PySem.F.slot_str_split PySem.F.type_str_split f9t (a0v a3j (pvF 0) a0l (fun _ _ => rfl)) (a0g a3s a0j))) (fun _ _ _ _ _ => (a0u h0s g4t (by rfl) T.g9v T.b2s.kp T.c5h .nil a1g (a0g (pvF 0) a0j))) (d3k (sc := a0h b3v) (N := ["values", "corners", "left", "right"]) rfl rfl (by decide +kernel)) rfl)
   (a0i (a4j (a0y g4e (a1l a3p (by rfl) T.b8w boot_len (a0g (pvF 1) a0j)) (a5v (v := .int 12) (by rfl) T.a8z T.g1l) (a1r _))
   (a0m a2k)
   a1j)
   (a0i (a7w PassesOwn.never rfl (j8c (by rfl) T.i5c (a0g (pvF 1) (a0g (b5i m0f (pvF 1) (b2h a0l) c3r) a0j))) (g9j (n := 2) rfl (b2k (a3v (i := 2) c3t.nd rfl (Or.inl rfl)) (b2k (a3v (i := 3) c3t.nd rfl (Or.inl rfl)) f9u)))
   (a0m (a4j (a0y l6z (a0v a3j (pvF 2) a0l (fun _ _ => rfl)) (a0v a3j (pvF 3) a0l (fun _ _ => rfl)) (a1r _))
   (a0m a2k)
   a1j)))
   (a0m (a0z (b9v T.k7o h6s h0t (by rfl) T.f1k T.d0i .nil a1g (a0g (pvF 1) a0j)))))))), ?_⟩
   rw [k7f]
   walk_at "rd"
   refine ⟨_, hl, rfl, ?_⟩
   walk_at "rd*"
   refine ⟨by omega, by omega, fun a H1 n1 S1 h1 => ?_⟩
   walk_at "rd"
   refine ⟨⟨_, SqL.of h1⟩, fun D H2 n2 S2 h2 => ?_⟩
   refine b3j (xs := (cs.map cW).map V.str) (fun i ys H' => Same H1 H' /\ H' D = some (.lst ys) /\ ∃ ps, ys = ps.map V.ref /\ Crn H' ps (cs.take i)) ⟨S2, h2, [], rfl, by rw [List.take_zero]; exact Crn.nil⟩ (by rw [List.length_map, List.length_map, hs]; omega) ?_ ?_ ?_
   ·intro i ys H' hi ⟨S', h', ps, e, R⟩
    rw [List.length_map, List.length_map] at hi
    exact ⟨h', SqL.of (S' _ _ h1), by rw [e, List.length_map, R.1, List.length_take]; omega⟩
   ·intro i x ys H' hx ⟨S', h', ps, e, R⟩
    rw [List.map_map, List.getElem?_map] at hx
    obtain ⟨c, hc, rfl⟩ := Option.map_eq_some_iff.mp hx
    obtain ⟨o1, o2, oy⟩ := ok.1 c (List.mem_of_getElem? hc)
    walk_at "rd"
    refine ⟨c, rfl, o1, o2, oy, fun p g H3 n3 S3 h3 hg => ⟨S3 _ _ h', fun H4 B4 h4 => ⟨(S'.trans S3).step n2 B4, h4, ps ++ [p], by rw [e, List.map_append]; rfl, ?_⟩⟩⟩
    rw [List.take_add_one, hc]
    exact ((R.same S3).snoc h3 hg).j3f (S3 _ _ h') B4
   ·intro ys H3 ⟨S3, h3, ps, e, R⟩
    rw [List.length_map, List.length_map, List.take_length] at R
    subst e
    have pl := R.1
    have ln : ¬ (12 : Int) < (cs.length : Int) := by omega
    clear h2 sp jl
    walk_at "rd*"
    refine fun c2 H4 n4 S4 h4 => ?_
    have e2 : f9q (ps.map V.ref) (some 1) none = (ps.drop 1).map V.ref := by
     show g8f (ps.map V.ref) (some ((1 : Nat) : Int)) none = _
     rw [b5p, List.map_drop]
    rw [e2] at h4
    have h34 := S4 _ _ h3
    clear e2 h3
    walk_at "rd*"
    obtain ⟨Pv, pin, pout⟩ := d3l (fun i σ H' => ∃ (v2 v3 : Option V), σ = [some (.ref l), some (.ref D), v2, v3] /\ Same H4 H')
    refine j0p (xs := ps.map V.ref) (ys := (ps.drop 1).map V.ref) Pv (pin _ _ _ ⟨_, _, rfl, Same.refl _⟩) ?_ ?_ ?_
    ·intro i σ H5 hp
     obtain ⟨v2, v3, rfl, S5⟩ := pout _ _ _ hp
     exact ⟨SqL.of (S5 _ _ h34), SqL.of (S5 _ _ h4)⟩
    ·intro i x y σ H5 p H6 hx hy hp np S6 h6
     obtain ⟨v2, v3, rfl, S5⟩ := pout _ _ _ hp
     obtain ⟨pc, c, g, rfl, hc, hpc, hg⟩ := R.get hx
     have hy' : (ps.map V.ref)[i + 1]? = some y := by
      rw [List.map_drop, List.getElem?_drop] at hy
      rwa [Nat.add_comm] at hy
     obtain ⟨pd, d, gd, rfl, hd, hpd, hgd⟩ := R.get hy'
     have lt := ok.2.1 i c d hc hd
     have nlt : ¬ d.1 <= c.1 := by omega
     have SS := S4.trans (S5.trans S6)
     have hpc' := SS _ _ hpc
     have hpd' := SS _ _ hpd
     clear hpc hpd h34 h4 hg hgd
     walk_at "rd*"
     exact pin _ _ _ ⟨_, _, rfl, S5.trans S6⟩
    ·intro σ H5 hp
     obtain ⟨v2, v3, rfl, S5⟩ := pout _ _ _ hp
     walk_at "rd"
     intro x dx H6 n6 n7 nx S6 hdx hx
     have hl6 := S6 _ _ (S5 _ _ h34)
     have S36 := S4.trans (S5.trans S6)
     have S03 := S1.trans S3
     have S05 := S03.trans (S4.trans S5)
     refine ⟨dx, ps, cs, hx, hl6, R.same S36, k0u.crn ok, L1, L12, fun ct ln S ss us H7 B7 nct h7 hct hln TP sok => ?_⟩
     rw [asNew]
     refine ⟨rfl, q x H7 (S05.free n6) (fun b u e => B7 _ _ (fun z => by rw [z] at e; rw [S05 _ _ e] at n6; cases n6) (S6 _ _ (S05 _ _ e))) ⟨dx, _, h7, ct, ln, S, ss, us, ps, rfl, hct, hln, TP, sok, (R.same S36).d4v hx B7⟩⟩
  | _ => simp [Dt.kd] at hk
theorem k8n (T : Tx K mg A) : a1n P A.wd K mg base CX0 8 A.b8j A.f3i ["word"] (j9f A) := by
 have j9y : a1n P A.wd K mg base CX0 6 _ _ _ _ := j2z T
 have j3g : a1n P A.wd K mg base CX0 6 _ _ _ _ := i6b T
 have j9z : a1n P A.wd K mg base CX0 6 _ _ _ _ := j3a T
 have k0a : a1n P A.wd K mg base CX0 6 _ _ _ _ := j3b T
 have k0b : a1n P A.wd K mg base CX0 6 _ _ _ _ := j3c T
 have j3h : a1n P A.wd K mg base CX0 7 _ _ _ _ := i6g T
 refine T.d0o.ok g8n (fun vs H Q E h => ?_) (fun cdv A' outer s H vs Q E hr h => ?_)
 ·obtain ⟨_, rfl, _⟩ := i3p (by unfold j9f at h; exact h)
  rfl
 ·obtain ⟨x, rfl, ⟨d, ok, hx, q⟩⟩ := i3p (by unfold j9f at h; exact h)
  subst hx
  have hu := hr.units
  have j3i : a2z 6 _ := hr.mono (by decide)
  have i6h : a2z 6 _ := hr.mono (by decide)
  have j3j : a2z 6 _ := hr.mono (by decide)
  have j3k : a2z 6 _ := hr.mono (by decide)
  have j3l : a2z 6 _ := hr.mono (by decide)
  have i6i : a2z 7 _ := hr.mono (by decide)
  have dk := T.j2u
  have sp := d.split
  have wl := d.wlen ok
  have vn := d.vn
  have hs : sizeLine = 16777216 := sizeLine_eq
  have d1 : ((⟨#[58]⟩ : Str).length == 0) = false := rfl
  obtain ⟨f, hf⟩ : ∃ f, PySem.W.nsIn K A.a1t d.kind = some (some (.ref f)) := by
   cases d with
   | gain => exact ⟨_, T.a6k⟩
   | delay => exact ⟨_, T.a5i⟩
   | echo => exact ⟨_, T.a6l⟩
   | back => exact ⟨_, T.a6m⟩
   | hall => exact ⟨_, T.a6n⟩
   | swell => exact ⟨_, T.a5j⟩
  refine ⟨_, (a0i (a4j (b2z (a4y (a1l (b0i .str) (by rfl) T.a1v boot_isinstance (a0g (pvF 0) (a0g (b6g (v := .ty "str") (u := .type "str") (by rfl) T.i5b rfl rfl) a0j)))))
   (a0m a2k)
   a1j)
   (a0i (a1i (i := 1) g8n.nd rfl (Or.inl rfl) (a7o b8g PySem.F.plainAttrs_str PySem.F.slot_str_split PySem.F.type_str_split f9t (pvF 0) (a0g a3s a0j)))
   (a0i (a4j (a0y (j8f (K := K) (w := A.wd) (by rfl) (by rfl)) (a0v a3j (pvF 1) a0l (fun _ _ => rfl)) (a5v (v := .ref A.a1t) (by rfl) T.a6j rfl) (by rfl))
   (a0m a2k)
   a1j)
   (a0m (a0z (a4t (d2z j9y j3i T.d0k.kp T.g1a .nil a1g (a0v (k9t (K := K) (w := A.wd) (by rfl) (by rfl)) (a5v (v := .ref A.a1t) (by rfl) T.a6j rfl) (a0v a3j (pvF 1) a0l (fun _ _ => rfl)) (fun _ _ => rfl)) (a0g (b5i k6n (pvF 1) (b2h a0l) c3r) a0j)) (a4t (d2z j3g i6h T.c2z.kp T.f3q .nil a1g (a0v (k9t (K := K) (w := A.wd) (by rfl) (by rfl)) (a5v (v := .ref A.a1t) (by rfl) T.a6j rfl) (a0v a3j (pvF 1) a0l (fun _ _ => rfl)) (fun _ _ => rfl)) (a0g (b5i k6n (pvF 1) (b2h a0l) c3r) a0j)) (a4t (d2z j9z j3j T.d0l.kp T.g1b .nil a1g (a0v (k9t (K := K) (w := A.wd) (by rfl) (by rfl)) (a5v (v := .ref A.a1t) (by rfl) T.a6j rfl) (a0v a3j (pvF 1) a0l (fun _ _ => rfl)) (fun _ _ => rfl)) (a0g (b5i k6n (pvF 1) (b2h a0l) c3r) a0j)) (a4t (d2z k0a j3k T.d0m.kp T.g1c .nil a1g (a0v (k9t (K := K) (w := A.wd) (by rfl) (by rfl)) (a5v (v := .ref A.a1t) (by rfl) T.a6j rfl) (a0v a3j (pvF 1) a0l (fun _ _ => rfl)) (fun _ _ => rfl)) (a0g (b5i k6n (pvF 1) (b2h a0l) c3r) a0j)) (a4t (d2z k0b j3l T.d0n.kp T.g1d .nil a1g (a0v (k9t (K := K) (w := A.wd) (by rfl) (by rfl)) (a5v (v := .ref A.a1t) (by rfl) T.a6j rfl) (a0v a3j (pvF 1) a0l (fun _ _ => rfl)) (fun _ _ => rfl)) (a0g (b5i k6n (pvF 1) (b2h a0l) c3r) a0j)) (d2z j3h i6i T.c3g.kp T.f3r .nil a1g (a0v (k9t (K := K) (w := A.wd) (by rfl) (by rfl)) (a5v (v := .ref A.a1t) (by rfl) T.a6j rfl) (a0v a3j (pvF 1) a0l (fun _ _ => rfl)) (fun _ _ => rfl)) (a0g (b5i k6n (pvF 1) (b2h a0l) c3r) a0j)))))))))))), ?_⟩
  rw [l7v]
  walk_at "rd*"
  refine ⟨by omega, by omega, fun l H1 n1 S1 h1 => ?_⟩
  clear sp wl
  walk_at "rd*"
  clear hf
  cases d with
  | gain y =>
   refine Or.inl ?_
   have rd := T.a6k
   have q1 := ok
   clear ok
   replace h1 : H1 l = some (.lst [.str (Str.ofString "gain"), .str (fW y)]) := h1
   walk_at "rd*"
   refine fun m H2 n2 S2 h2 => ?_
   have e2 : f9q [V.str (Str.ofString "gain"), V.str (fW y)] (some 1) none = (Dt.gain y).vals.map V.str := by
    show g8f _ (some ((1 : Nat) : Int)) none = _
    rw [b5p]
    rfl
   rw [e2] at h2
   walk_at "rd"
   exact ⟨_, rfl, q1, h2, fun o H3 n3 S3 hp => q o H3 ((S1.trans S2).free n3) (S1.trans (S2.trans S3)) hp⟩
  | delay n =>
   refine Or.inr (Or.inl ?_)
   have rd := T.a5i
   have q1 := ok
   clear ok
   replace h1 : H1 l = some (.lst [.str (Str.ofString "delay"), .str (nW n)]) := h1
   walk_at "rd*"
   refine fun m H2 n2 S2 h2 => ?_
   have e2 : f9q [V.str (Str.ofString "delay"), V.str (nW n)] (some 1) none = (Dt.delay n).vals.map V.str := by
    show g8f _ (some ((1 : Nat) : Int)) none = _
    rw [b5p]
    rfl
   rw [e2] at h2
   walk_at "rd"
   exact ⟨_, rfl, q1, h2, fun o H3 n3 S3 hp => q o H3 ((S1.trans S2).free n3) (S1.trans (S2.trans S3)) hp⟩
  | echo y n t =>
   refine Or.inr (Or.inr (Or.inl ?_))
   have rd := T.a6l
   have q1 := ok
   clear ok
   replace h1 : H1 l = some (.lst [.str (Str.ofString "echo"), .str (fW y), .str (nW n), .str (nW t)]) := h1
   walk_at "rd*"
   refine fun m H2 n2 S2 h2 => ?_
   have e2 : f9q [V.str (Str.ofString "echo"), V.str (fW y), V.str (nW n), V.str (nW t)] (some 1) none = (Dt.echo y n t).vals.map V.str := by
    show g8f _ (some ((1 : Nat) : Int)) none = _
    rw [b5p]
    rfl
   rw [e2] at h2
   walk_at "rd"
   exact ⟨_, rfl, q1, h2, fun o H3 n3 S3 hp => q o H3 ((S1.trans S2).free n3) (S1.trans (S2.trans S3)) hp⟩
  | back y n =>
   refine Or.inr (Or.inr (Or.inr (Or.inl ?_)))
   have rd := T.a6m
   have q1 := ok
   clear ok
   replace h1 : H1 l = some (.lst [.str (Str.ofString "back"), .str (fW y), .str (nW n)]) := h1
   walk_at "rd*"
   refine fun m H2 n2 S2 h2 => ?_
   have e2 : f9q [V.str (Str.ofString "back"), V.str (fW y), V.str (nW n)] (some 1) none = (Dt.back y n).vals.map V.str := by
    show g8f _ (some ((1 : Nat) : Int)) none = _
    rw [b5p]
    rfl
   rw [e2] at h2
   walk_at "rd"
   exact ⟨_, rfl, q1, h2, fun o H3 n3 S3 hp => q o H3 ((S1.trans S2).free n3) (S1.trans (S2.trans S3)) hp⟩
  | hall y n =>
   refine Or.inr (Or.inr (Or.inr (Or.inr (Or.inl ?_))))
   have rd := T.a6n
   have q1 := ok
   clear ok
   replace h1 : H1 l = some (.lst [.str (Str.ofString "hall"), .str (fW y), .str (nW n)]) := h1
   walk_at "rd*"
   refine fun m H2 n2 S2 h2 => ?_
   have e2 : f9q [V.str (Str.ofString "hall"), V.str (fW y), V.str (nW n)] (some 1) none = (Dt.hall y n).vals.map V.str := by
    show g8f _ (some ((1 : Nat) : Int)) none = _
    rw [b5p]
    rfl
   rw [e2] at h2
   walk_at "rd"
   exact ⟨_, rfl, q1, h2, fun o H3 n3 S3 hp => q o H3 ((S1.trans S2).free n3) (S1.trans (S2.trans S3)) hp⟩
  | swell cs =>
   refine Or.inr (Or.inr (Or.inr (Or.inr (Or.inr ?_))))
   have rd := T.a5j
   have q1 := ok
   clear ok
   replace h1 : H1 l = some (.lst [.str (Str.ofString "swell"), .str (Str.join ⟨#[44]⟩ (cs.map cW))]) := h1
   walk_at "rd*"
   refine fun m H2 n2 S2 h2 => ?_
   have e2 : f9q [V.str (Str.ofString "swell"), V.str (Str.join ⟨#[44]⟩ (cs.map cW))] (some 1) none = (Dt.swell cs).vals.map V.str := by
    show g8f _ (some ((1 : Nat) : Int)) none = _
    rw [b5p]
    rfl
   rw [e2] at h2
   walk_at "rd"
   exact ⟨_, rfl, q1, h2, fun o H3 n3 S3 hp => q o H3 ((S1.trans S2).free n3) (S1.trans (S2.trans S3)) hp⟩
theorem k8o {c : Nat} (h1 : 97 ≤ c) (h2 : c ≤ 122) : k6o "abcdefghijklmnopqrstuvwxyz" ⟨#[c]⟩ = true := by
 unfold k6o
 rw [StrLaws.found_one]
 have e : (Str.ofString "abcdefghijklmnopqrstuvwxyz").cps.toList = [97, 98, 99, 100, 101, 102, 103, 104, 105, 106, 107, 108, 109, 110, 111, 112, 113, 114, 115, 116, 117, 118, 119, 120, 121, 122] := by decide +kernel
 rw [e, decide_eq_true_eq]
 simp
 omega
theorem k0c {x : Str} {D : Addr} {te : TE} {σ : L2.St} {H0 H : Hp} {Q : VK} (f : Nat -> V) (n0 : H0 D = none) (S : Same H0 H) (hD : H D = some (.lst [])) (hsz : x.cps.size <= sizeLine)
  (hs : ∀ (i : Nat) c H' (Q' : VK), x.cps[i]? = some c -> Same H0 H' -> Q' (f c) H' -> te (some (.str ⟨#[c]⟩) :: σ) H' Q') (q : ∀ H', Same H0 H' -> H' D = some (.lst (x.cps.toList.map f)) -> Q (.ref D) H') : g4f (Its x) te D σ H Q ⟨⟩ := by
 refine ⟨x.cps.size, fun i ys H' => Same H0 H' /\ H' D = some (.lst ys) /\ ys = (x.cps.toList.take i).map f, ⟨S, hD, by simp⟩, fun i ys H' hi w => ?_⟩
 obtain ⟨S', h', e⟩ := w
 refine ⟨h', ?_⟩
 by_cases hlt : i < x.cps.size
 ·refine .inr ⟨hlt, hlt, by rw [e, List.length_map, List.length_take]; omega, fun v H2 y => ?_⟩
  obtain ⟨e2, c, hc, ev⟩ := y
  subst e2 ev
  refine hs i c _ _ hc S' ⟨h', fun H3 s3 h3 => ⟨S'.step n0 s3, h3, ?_⟩⟩
  have hc' : x.cps.toList[i]? = some c := by rw [Array.getElem?_toList]; exact hc
  rw [List.take_add_one, hc', List.map_append, e]
  rfl
 ·have e3 : i = x.cps.size := by omega
  subst e3
  refine .inl ⟨rfl, q H' S' ?_⟩
  rw [h', e, List.take_of_length_le (by rw [Array.length_toList]; exact Nat.le_refl _)]
theorem k0d (T : Tx K mg A) : a1n P A.wd K mg base CX0 1 A.b8l A.f3j ["value"] h0l := by
 refine T.d0q.ok j2k (fun vs H Q E h => ?_) (fun cdv A' outer s H vs Q E hr h => ?_)
 ·obtain ⟨_, rfl, _⟩ := i3p (by unfold h0l at h; exact h)
  rfl
 ·obtain ⟨x, rfl, ⟨⟨l8, ne, ab⟩, q⟩⟩ := i3p (by unfold h0l at h; exact h)
  have hu := hr.units
  have hs : sizeLine = 16777216 := sizeLine_eq
  have nl : ¬ (8 : Int) < (x.length : Int) := by omega
  have ne' : (x = Str.ofString "") = False := eq_false ne
  have xl : x.length <= 16777216 := by omega
  refine ⟨_, (a0i (a4j (pw_or (b2z (a4y (a1l (b0i .str) (by rfl) T.a1v boot_isinstance (a0g (pvF 0) (a0g (b6g (v := .ty "str") (u := .type "str") (by rfl) T.i5b rfl rfl) a0j))))) (pw_or (a0y (b7u hu) (pvF 0) a3s (a1r _)) (pw_or1 (a0y g4e (a1l a3p (by rfl) T.b8w boot_len (a0g (pvF 0) a0j)) (a5v (v := .int 8) (by rfl) T.a9g T.g1n) (a1r _))))).pt
   (a0m (a0z d4s))
   a1j)
   (a0m (a0z (a1l (j8j rfl) (by rfl) T.j8v boot_all (a0g (b7z (k4t (pvF 0)) (fun _ _ _ _ _ => (b6i g8g (pvF 0) (a5v (v := .str "abcdefghijklmnopqrstuvwxyz") (by rfl) T.c3o T.j2t) (by rfl))) (d3k (sc := a0h b8h) (N := ["value"]) rfl rfl (by decide +kernel)) rfl) a0j))))), ?_⟩
  walk_at "rd*"
  refine fun D H2 n2 S2 h2 => ?_
  refine k0c (fun _ => V.bl true) n2 S2 h2 (show x.length <= sizeLine by omega) ?_ ?_
  ·intro i c H' Q' hc SS q'
   have hm := ab c (by rw [Array.mem_toList_iff]; exact Array.mem_of_getElem? hc)
   have hh := k8o hm.1 hm.2
   walk_at "rd*"
  ·intro H3 S3 h3
   walk_at "rd*"
   refine ⟨x.cps.toList.map fun _ => true, by rw [List.map_map]; rfl, ?_⟩
   rw [show (x.cps.toList.map fun _ => true).all id = true by simp]
   exact q H3 S3
theorem k3f (T : Tx K mg A) : a1n P A.wd K mg base CX0 1 A.a1h A.c3y ["self"] i5k := by
 refine T.c0h.ok g9n (fun vs H Q E h => ?_) (fun cdv A' outer s H vs Q E hr h => ?_)
 ·obtain ⟨_, rfl, _⟩ := b3h (by unfold i5k at h; exact h)
  rfl
 ·obtain ⟨o, rfl, k⟩ := b3h (by unfold i5k at h; exact h)
  have hu := hr.units
  refine ⟨_, (a0m (a0z (a9z a0j))), ?_⟩
  walk_at "rd"
  refine ⟨Nat.zero_le _, fun t H1 n1 S1 h1 => k _ _ ⟨t, rfl, n1, S1, h1⟩⟩
theorem j6h.same {A : Ad} {H H' : Hp} {os : List Addr} {ds : List Dt} (h : j6h A H os ds) (S : Same H H') : j6h A H' os ds := ⟨h.1, fun i o d e1 e2 => (h.2 i o d e1 e2).same S⟩
theorem IsP.keep {A : Ad} {D : Addr} {H H' : Hp} {o : Addr} {d : Dt} (h : IsP A H o d) (no : o ≠ D) (nt : ∀ ts, H D ≠ some (.tup ts)) (B : a2i D H H') : IsP A H' o d := by
 have ne : ∀ {p : Addr} {ts : List V}, H p = some (.tup ts) -> H' p = some (.tup ts) := fun hp => B _ _ (fun e => by rw [e] at hp; exact nt _ hp) hp
 obtain ⟨dx, fs, h1, h2⟩ := h
 refine ⟨dx, fs, B _ _ no h1, ?_⟩
 cases d with
 | gain y => obtain ⟨g, e, h1⟩ := h2; exact ⟨g, e, ne h1⟩
 | delay n => exact h2
 | echo y n t => obtain ⟨g, fa, e, h1, h2⟩ := h2; exact ⟨g, fa, e, ne h1, ne h2⟩
 | back y n => obtain ⟨g, e, h1⟩ := h2; exact ⟨g, e, ne h1⟩
 | hall y n => obtain ⟨g, e, h1⟩ := h2; exact ⟨g, e, ne h1⟩
 | swell cs =>
  obtain ⟨ct, ln, S, ss, us, ps, e, h1, h2, h3, h4, h5⟩ := h2
  exact ⟨ct, ln, S, ss, us, ps, e, ne h1, ne h2, ⟨h3.1, fun i q v e1 e2 => ne (h3.2 i q v e1 e2)⟩, h4, ⟨h5.1, fun i p c e1 e2 => (h5.2 i p c e1 e2).elim fun g z => ⟨g, ne z.1, ne z.2⟩⟩⟩
theorem j6h.keep {A : Ad} {D : Addr} {H H' : Hp} {os : List Addr} {ds : List Dt} (h : j6h A H os ds) (no : ∀ o ∈ os, o ≠ D) (nt : ∀ ts, H D ≠ some (.tup ts)) (B : a2i D H H') : j6h A H' os ds := ⟨h.1, fun i o d e1 e2 => (h.2 i o d e1 e2).keep (no o (List.mem_of_getElem? e1)) nt B⟩
theorem j6h.snoc {A : Ad} {H : Hp} {os : List Addr} {ds : List Dt} {o : Addr} {d : Dt} (h : j6h A H os ds) (hp : IsP A H o d) : j6h A H (os ++ [o]) (ds ++ [d]) := by
 obtain ⟨hl, h⟩ := h
 refine ⟨by rw [List.length_append, List.length_append, hl]; rfl, fun i s e h1 h2 => ?_⟩
 rcases Nat.lt_or_ge i ds.length with z | z
 ·rw [List.getElem?_append_left (by omega)] at h1
  rw [List.getElem?_append_left z] at h2
  exact h i s e h1 h2
 ·have hi := (List.getElem?_eq_some_iff.mp h2).1
  rw [List.length_append, List.length_singleton] at hi
  obtain rfl : i = ds.length := by omega
  rw [<- hl, List.getElem?_concat_length] at h1
  rw [List.getElem?_concat_length] at h2
  cases h1
  cases h2
  exact hp
theorem l4j (T : Tx K mg A) : a1n P A.wd K mg base CX0 9 A.b4q A.d5o ["words"] (k7x A) := by
 have k0f : a1n P A.wd K mg base CX0 8 _ _ _ _ := k8n T
 refine T.c3h.ok i4s (fun vs H Q E h => ?_) (fun cdv A' outer s H vs Q E hr h => ?_)
 ·obtain ⟨_, rfl, _⟩ := b3h (by unfold k7x at h; exact h)
  rfl
 ·obtain ⟨l, rfl, ⟨ds, hl, l8, ok, q⟩⟩ := b3h (by unfold k7x at h; exact h)
  have hu := hr.units
  have j3m : a2z 8 _ := hr.mono (by decide)
  have hs : sizeLine = 16777216 := sizeLine_eq
  have z1 : ¬ (8 : Int) < (ds.length : Int) := by omega
  refine ⟨_, (a0i (a4j (b2z (a4y (a1l (b0i .lst) (by rfl) T.a1v boot_isinstance (a0g (pvF 0) (a0g (b6g (v := .ty "list") (u := .type "list") (by rfl) T.c3k rfl rfl) a0j)))))
   (a0m a2k)
   a1j)
   (a0i (a4j (a0y g4e (a1l a3p (by rfl) T.b8w boot_len (a0g (pvF 0) a0j)) (a5v (v := .int 8) (by rfl) T.b2v T.h0g) (a1r _))
   (a0m a2k)
   a1j)
   (a0m (a0z (b7z (a3o (pvF 0)) (fun _ _ _ _ _ => (a0u k0f j3m (by rfl) T.j8t T.d0o.kp T.g1e .nil a1g (a0g (pvF 0) a0j))) (d3k (sc := a0h b3w) (N := ["words"]) rfl rfl (by decide +kernel)) rfl))))), ?_⟩
  walk_at "rd*"
  refine ⟨⟨_, SqL.of hl⟩, fun D H2 n2 S2 h2 => ?_⟩
  refine b3j (xs := ds.map fun d => V.str d.word) (fun i ys H' => Same H H' /\ H' D = some (.lst ys) /\ ∃ os : List Addr, ys = os.map V.ref /\ (∀ o ∈ os, H o = none /\ o ≠ D) /\ j6h A H' os (ds.take i)) ⟨S2, h2, [], rfl, (fun o ho => by cases ho), rfl, fun i o d e => by simp at e⟩ (by rw [List.length_map, hs]; omega) ?_ ?_ ?_
  ·intro i ys H' hi ⟨S', h', os, e, no, R⟩
   rw [List.length_map] at hi
   exact ⟨h', SqL.of (S' _ _ hl), by rw [e, List.length_map, R.1, List.length_take]; omega⟩
  ·intro i x ys H' hx ⟨S', h', os, e, no, R⟩
   rw [List.getElem?_map] at hx
   obtain ⟨d, hd, rfl⟩ := Option.map_eq_some_iff.mp hx
   have o1 := ok d (List.mem_of_getElem? hd)
   walk_at "rd"
   refine ⟨d, o1, rfl, fun o H3 n3 S3 hp => ?_⟩
   have no3 : ∀ p ∈ os ++ [o], H p = none /\ p ≠ D := fun p hp => by
    rcases List.mem_append.mp hp with h | h
    ·exact no p h
    ·obtain rfl := List.mem_singleton.mp h
     exact ⟨S'.free n3, fun z => by rw [z, h'] at n3; cases n3⟩
   refine ⟨S3 _ _ h', fun H4 B4 h4 => ⟨(S'.trans S3).step n2 B4, h4, os ++ [o], (by rw [e, List.map_append]; rfl), no3, ?_⟩⟩
   rw [List.take_add_one, hd]
   exact ((R.same S3).snoc hp).keep (fun p hp => (no3 p hp).2) (fun ts z => by rw [S3 _ _ h'] at z; cases z) B4
  ·intro ys H3 ⟨S3, h3, os, e, no, R⟩
   rw [List.length_map, List.take_length] at R
   subst e
   exact q D os H3 n2 (fun o ho => (no o ho).1) S3 h3 R
theorem ChW.same {A : Ad} {H H' : Hp} {o : Addr} {ds : List Dt} (h : ChW A H o ds) (S : Same H H') : ChW A H' o ds := by
 obtain ⟨dx, pl, sl, os, h1, h2, h3⟩ := h
 exact ⟨dx, pl, sl, os, S _ _ h1, S _ _ h2, h3.same S⟩
theorem j3n (T : Tx K mg A) : a1n P A.wd K mg base CX0 1 A.a5m A.c1i ["self"] g1o := by
 refine T.b6r.ok g4h (fun vs H Q E h => ?_) (fun cdv A' outer s H vs Q E hr h => ?_)
 ·obtain ⟨_, rfl, _⟩ := b3h (by unfold g1o at h; exact h)
  rfl
 ·obtain ⟨o, rfl, k⟩ := b3h (by unfold g1o at h; exact h)
  have hu := hr.units
  refine ⟨_, (a0m (a0z a0l)), ?_⟩
  walk_at "rd*"
  all_goals exact k
theorem f3w {C o : Addr} {i : Nat} {m : Str} {sp : Sp} {E : XK} {t : TA} {σ : L2.St} {H : Hp} {Q : VK} {dx : Addr} {fs : List (Str × V)} (hσ : σ[i]? = some (some (.ref o))) (ho : H o = some (.ins C dx fs)) (hl : fs.lookup m = none) (ht : t σ H fun vs H2 => sp (.ref o :: (vs ++ [])) H2 Q E) : d3m C m sp [] E (g4d i) t σ H Q := by
 simp only [d3m, g4d, hσ, ho]
 exact ⟨trivial, hl, ht⟩
theorem m0p {σ : L2.St} {i : Nat} {o : Addr} {H : Hp} {d : Dt} {Q : VK} {E : XK} {m : Str} {s0 s1 s2 s3 s4 s5 : Sp} (hσ : σ[i]? = some (some (.ref o))) (hd : IsP A H o d)
  (nm : m ≠ ("gain" : Str) ∧ m ≠ ("many" : Str) ∧ m ≠ ("turns" : Str) ∧ m ≠ ("factors" : Str) ∧ m ≠ ("factor_bottom" : Str) ∧ m ≠ ("corners" : Str) ∧ m ≠ ("shared" : Str) ∧ m ≠ ("lines" : Str))
  (q : (match d with | .gain _ => s0 | .delay _ => s1 | .echo .. => s2 | .back .. => s3 | .hall .. => s4 | .swell _ => s5) [.ref o] H Q E) :
  f2u (d3m A.a9y m s0 [] E (g4d i) k1i) (f2u (d3m A.a4z m s1 [] E (g4d i) k1i) (f2u (d3m A.a4w m s2 [] E (g4d i) k1i) (f2u (d3m A.a7u m s3 [] E (g4d i) k1i) (f2u (d3m A.a7v m s4 [] E (g4d i) k1i) (d3m A.a3z m s5 [] E (g4d i) k1i))))) σ H Q := by
 obtain ⟨m1, m2, m3, m4, m5, m6, m7, m8⟩ := nm
 have b : ∀ {a c : Str}, a ≠ c -> (a == c) = false := fun h => beq_false_of_ne h
 obtain ⟨dx, fs, ho, hf⟩ := hd
 have lk : fs.lookup m = none := by
  cases d with
  | gain y => obtain ⟨g, rfl, _⟩ := hf; simp only [gnF, List.lookup, b m1]
  | delay n => obtain rfl := hf; simp only [dlF, List.lookup, b m2]
  | echo y n t => obtain ⟨g, fa, rfl, _⟩ := hf; simp only [ecF, List.lookup, b m1, b m2, b m3, b m4, b m5]
  | back y n => obtain ⟨g, rfl, _⟩ := hf; simp only [bkF, List.lookup, b m1, b m2]
  | hall y n => obtain ⟨g, rfl, _⟩ := hf; simp only [bkF, List.lookup, b m1, b m2]
  | swell cs => obtain ⟨ct, ln, S, ss, us, ps, rfl, _⟩ := hf; simp only [swF, List.lookup, b m6, b m7, b m8]
 cases d with
 | gain y => exact .inl (f3w hσ ho lk q)
 | delay n => exact .inr (.inl (f3w hσ ho lk q))
 | echo y n t => exact .inr (.inr (.inl (f3w hσ ho lk q)))
 | back y n => exact .inr (.inr (.inr (.inl (f3w hσ ho lk q))))
 | hall y n => exact .inr (.inr (.inr (.inr (.inl (f3w hσ ho lk q)))))
 | swell cs => exact .inr (.inr (.inr (.inr (.inr (f3w hσ ho lk q)))))
theorem k3g (T : Tx K mg A) : a1n P A.wd K mg base CX0 10 A.a6s A.c4j ["self", "words"] (i5l A) := by
 have j3o : a1n P A.wd K mg base CX0 9 _ _ _ _ := l4j T
 have b5z : a1n P A.wd K mg base CX0 1 _ _ _ _ := k3f T
 have h0u : a1n P A.wd K mg base CX0 1 _ _ _ _ := j3n T
 have c5q := T.c5q
 have a3h := T.a3h
 have a2v := T.a2v
 have b6l := T.b6l
 have a2l := T.a2l
 have b0m := T.b0m
 have a1w := T.a1w
 have b6m := T.b6m
 have a2m := T.a2m
 have a2n := T.a2n
 have a1y := T.a1y
 have a1o := T.a1o
 have a0t := T.a0t
 have b6n := T.b6n
 have a2o := T.a2o
 have a2p := T.a2p
 have b6o := T.b6o
 have a2q := T.a2q
 have a2r := T.a2r
 have b0n := T.b0n
 have a1m := T.a1m
 have a1p := T.a1p
 have a1s := T.a1s
 refine T.c0m.ok g9p (fun vs H Q E h => ?_) (fun cdv A' outer s H vs Q E hr h => ?_)
 ·obtain ⟨_, _, rfl, _⟩ := f8h (by unfold i5l at h; exact h)
  rfl
 ·obtain ⟨o, l, rfl, ⟨dx, ds, ho, hl, l8, ok, q⟩⟩ := f8h (by unfold i5l at h; exact h)
  have hu := hr.units
  have i6j : a2z 9 _ := hr.mono (by decide)
  have b2w : a2z 1 _ := hr.mono (by decide)
  have g4u : a2z 1 _ := hr.mono (by decide)
  have hs : sizeLine = 16777216 := sizeLine_eq
  refine ⟨_, (a0i (a4s (pvF 0) (a0u j3o i6j (by rfl) T.j2o T.c3h.kp T.f3s .nil a1g (a0g (pvF 1) a0j)) rfl)
   (a0m (a4s (pvF 0) (b7z (a3o (a2t (pvF 0) rfl)) (fun _ _ _ _ _ => (a4t (a2u (pvF 0) T.b6l T.g9y b5z b2w T.a8v .nil a1g) (a4t (a2u (pvF 0) T.b0m T.g4p b5z b2w T.a8v .nil a1g) (a4t (a2u (pvF 0) T.b6m T.h0a b5z b2w T.a8v .nil a1g) (a4t (a2u (pvF 0) T.b6n T.h0b b5z b2w T.a8v .nil a1g) (a4t (a2u (pvF 0) T.b6o T.h0c b5z b2w T.a8v .nil a1g) (a2u (pvF 0) T.b0n T.g4q h0u g4u T.c5g .nil a1g))))))) (d3k (sc := a0h a8h) (N := ["self", "words"]) rfl rfl (by decide +kernel)) rfl) rfl))), ?_⟩
  walk_at "rd"
  refine ⟨ds, hl, l8, ok, fun pl os H1 np no S1 hpl R => ?_⟩
  have ho1 := S1 _ _ ho
  have noc : ∀ p ∈ os, p ≠ o := fun p hp e => by rw [<- e, no p hp] at ho; cases ho
  walk_at "rd*"
  intro H2 B2 h2
  have nop : o ≠ pl := fun e => by rw [<- e, ho] at np; cases np
  have l5q := B2 _ _ nop.symm hpl
  have R2 := R.keep noc (fun ts z => by rw [ho1] at z; cases z) B2
  clear hpl R ho ho1
  walk_at "rd*"
  refine ⟨⟨_, SqL.of l5q⟩, fun D H3 n3 S3 h3 => ?_⟩
  have ol := R2.1
  refine b3j (xs := os.map V.ref) (fun i ys H' => Same H2 H' /\ H' D = some (.lst ys) /\ ys.length = i) ⟨S3, h3, rfl⟩ (by rw [List.length_map, hs]; omega) ?_ ?_ ?_
  ·intro i ys H' hi ⟨S', h', yl⟩
   exact ⟨h', SqL.of (S' _ _ l5q), yl⟩
  ·intro i x ys H' hx ⟨S', h', yl⟩
   rw [List.getElem?_map] at hx
   obtain ⟨oi, hoi, rfl⟩ := Option.map_eq_some_iff.mp hx
   have hi := (List.getElem?_eq_some_iff.mp hoi).1
   have hd : ds[i]? = some (ds[i]'(by omega)) := List.getElem?_eq_getElem _
   have hp := (R2.2 i _ _ hoi hd).same S'
   generalize ds[i]'(by omega) = d at hd hp
   try walk_at "rd"
   have fin : ∀ (v : V) H5, Same H' H5 -> (H5 D = some (.lst ys) /\ ∀ H6, a2i D H5 H6 -> H6 D = some (.lst (ys ++ [v])) -> Same H2 H6 /\ H6 D = some (.lst (ys ++ [v])) /\ ys.length + 1 = i + 1) := fun v H5 S5 => ⟨S5 _ _ h', fun H6 B6 h6 => ⟨(S'.trans S5).step n3 B6, h6, by rw [yl]⟩⟩
   refine m0p rfl hp (by decide +kernel) ?_
   cases d with
   | swell cs => exact fin _ _ (Same.refl _)
   | _ => exact fun v H5 ⟨p, e, n5, S5, h5⟩ => fin v H5 S5
  ·intro ys H4 ⟨S4, h4, yl⟩
   have ho4 := S4 _ _ h2
   have hpl4 := S4 _ _ l5q
   have R4 := R2.same S4
   clear h2 h3 l5q
   walk_at "rd*"
   intro H5 B5 h5
   exact q H5 (fun z u hz e => B5 _ _ hz (S4 _ _ (B2 _ _ hz (S1 _ _ e)))) ⟨dx, pl, D, os, h5, B5 _ _ nop.symm hpl4, R4.keep noc (fun ts z => by rw [ho4] at z; cases z) B5⟩
theorem k0g {K : PySem.W.Frag} {a D : Addr} {xs : List V} {te : TE} {σ : L2.St} {H0 H : Hp} {Q : VK} (zs : List V) (hz : zs.length = xs.length) (n0 : H0 D = none) (S : Same H0 H) (hD : H D = some (.lst [])) (hS : SqL K H0 a xs) (hsz : xs.length <= sizeLine)
  (hs : ∀ (i : Nat) x z H' (Q' : VK), xs[i]? = some x -> zs[i]? = some z -> Same H0 H' -> (∀ H2, Same H' H2 -> Q' z H2) -> te (some x :: σ) H' Q') (q : ∀ H', Same H0 H' -> H' D = some (.lst zs) -> Q (.ref D) H') : g4f (Itl K a) te D σ H Q ⟨⟩ := by
 refine b3j (fun i ys H' => Same H0 H' /\ H' D = some (.lst ys) /\ ys = zs.take i) ⟨S, hD, by simp⟩ hsz (fun i ys H' hi p => ?_) (fun i x ys H' hx p => ?_) (fun ys H' p => ?_)
 ·refine ⟨p.2.1, p.1.seq hS, ?_⟩
  rw [p.2.2, List.length_take]
  omega
 ·have hi : i < zs.length := by rw [hz]; exact (List.getElem?_eq_some_iff.mp hx).1
  have hzi : zs[i]? = some zs[i] := List.getElem?_eq_getElem hi
  refine hs i x _ H' _ hx hzi p.1 fun H2 S2 => ⟨S2 _ _ p.2.1, fun H3 s3 h3 => ⟨(p.1.trans S2).step n0 s3, h3, ?_⟩⟩
  rw [p.2.2, List.take_add_one, hzi]
  rfl
 ·refine q H' p.1 ?_
  rw [p.2.1, p.2.2, <- hz, List.take_length]
theorem l4k (T : Tx K mg A) : a1n P A.wd K mg base CX0 4 A.a5n A.c1m ["self"] (k7y A) := by
 have i6k : a1n P A.wd K mg base CX0 2 _ _ _ _ := l8o T
 have h6t : a1n P A.wd K mg base CX0 1 _ _ _ _ := l8p T
 have i6l : a1n P A.wd K mg base CX0 2 _ _ _ _ := l8q T
 have i6m : a1n P A.wd K mg base CX0 2 _ _ _ _ := l8r T
 have i6n : a1n P A.wd K mg base CX0 2 _ _ _ _ := l8s T
 have h6u : a1n P A.wd K mg base CX0 3 _ _ _ _ := l8t T
 have c5q := T.c5q
 have a3h := T.a3h
 have a2v := T.a2v
 have b6l := T.b6l
 have a2l := T.a2l
 have b0m := T.b0m
 have a1w := T.a1w
 have b6m := T.b6m
 have a2m := T.a2m
 have a2n := T.a2n
 have a1y := T.a1y
 have a1o := T.a1o
 have a0t := T.a0t
 have b6n := T.b6n
 have a2o := T.a2o
 have a2p := T.a2p
 have b6o := T.b6o
 have a2q := T.a2q
 have a2r := T.a2r
 have b0n := T.b0n
 have a1m := T.a1m
 have a1p := T.a1p
 have a1s := T.a1s
 refine T.b6t.ok g4j (fun vs H Q E h => ?_) (fun cdv A' outer s H vs Q E hr h => ?_)
 ·obtain ⟨_, rfl, _⟩ := b3h (by unfold k7y at h; exact h)
  rfl
 ·obtain ⟨o, rfl, ⟨ds, ⟨dx, pl, sl, os, ho, hpl, R⟩, l8, ok, q⟩⟩ := b3h (by unfold k7y at h; exact h)
  have hu := hr.units
  have h6v : a2z 2 _ := hr.mono (by decide)
  have h0v : a2z 1 _ := hr.mono (by decide)
  have h6w : a2z 2 _ := hr.mono (by decide)
  have h6x : a2z 2 _ := hr.mono (by decide)
  have h6y : a2z 2 _ := hr.mono (by decide)
  have h0w : a2z 3 _ := hr.mono (by decide)
  have hs : sizeLine = 16777216 := sizeLine_eq
  have ol := R.1
  unfold chF at ho
  refine ⟨_, (a0m (a0z (b7z (a3o (a2t (pvF 0) rfl)) (fun _ _ _ _ _ => (a4t (a2u (pvF 0) T.b6l T.h6c i6k h6v T.d5s .nil a1g) (a4t (a2u (pvF 0) T.b0m T.g9z h6t h0v T.d0h .nil a1g) (a4t (a2u (pvF 0) T.b6m T.h6d i6l h6w T.d5u .nil a1g) (a4t (a2u (pvF 0) T.b6n T.h6e i6m h6x T.d5w .nil a1g) (a4t (a2u (pvF 0) T.b6o T.h6f i6n h6y T.d5z .nil a1g) (a2u (pvF 0) T.b0n T.h0d h6u h0w T.d0j .nil a1g))))))) (d3k (sc := a0h a6y) (N := ["self"]) rfl rfl (by decide +kernel)) rfl))), ?_⟩
  walk_at "rd*"
  refine ⟨⟨_, SqL.of hpl⟩, fun D H2 n2 S2 h2 => ?_⟩
  refine k0g (ds.map fun d => V.str d.word) (by rw [List.length_map, List.length_map, ol]) n2 S2 h2 (SqL.of hpl) (by rw [List.length_map, hs]; omega) ?_ ?_
  ·intro i x z H' Q' hx hz S' q'
   rw [List.getElem?_map] at hx hz
   obtain ⟨oi, hoi, rfl⟩ := Option.map_eq_some_iff.mp hx
   obtain ⟨d, hd, rfl⟩ := Option.map_eq_some_iff.mp hz
   have hp := (R.2 i _ _ hoi hd).same S'
   have okd := ok d (List.mem_of_getElem? hd)
   have hi := (List.getElem?_eq_some_iff.mp hoi).1
   try walk_at "rd"
   refine m0p rfl hp (by decide +kernel) ?_
   cases d <;> exact ⟨_, rfl, hp, okd, fun H1 S1 => q' H1 S1⟩
  ·intro H3 S3 h3
   exact q _ _ ⟨D, rfl, n2, S3, h3⟩
theorem Eds.same {H H' : Hp} {ps : List Addr} {es : List (Str × Str)} (h : Eds H ps es) (S : Same H H') : Eds H' ps es := ⟨h.1, fun i p e h1 h2 => (h.2 i p e h1 h2).elim fun lw z => ⟨lw, S _ _ z⟩⟩
theorem Eds.j3f {D : Addr} {H H' : Hp} {ps : List Addr} {es : List (Str × Str)} {ys : List V} (h : Eds H ps es) (hD : H D = some (.lst ys)) (B : a2i D H H') : Eds H' ps es :=
 ⟨h.1, fun i p e h1 h2 => (h.2 i p e h1 h2).elim fun lw z => ⟨lw, B _ _ (fun q => by rw [q, hD] at z; cases z) z⟩⟩
theorem k2u.same {A : Ad} {H H' : Hp} {o t b sd : Addr} {ts bs : List Str} {es : List (Str × Str)} (h : k2u A H o t b sd ts bs es) (S : Same H H') : k2u A H' o t b sd ts bs es := by
 obtain ⟨dx, ou, ps, h1, h2, h3, h4, h5, h6⟩ := h
 exact ⟨dx, ou, ps, S _ _ h1, S _ _ h2, S _ _ h3, S _ _ h4, h5.same S, h6⟩
theorem k2u.other {A : Ad} {D : Addr} {H H' : Hp} {o t b sd : Addr} {ts bs : List Str} {es : List (Str × Str)} {ys : List V} (h : k2u A H o t b sd ts bs es) (hD : H D = some (.lst ys)) (d1 : t ≠ D) (d2 : b ≠ D) (d3 : sd ≠ D) (B : a2i D H H') : k2u A H' o t b sd ts bs es := by
 obtain ⟨dx, ou, ps, h1, h2, h3, h4, h5, h6⟩ := h
 exact ⟨dx, ou, ps, B _ _ (fun q => by rw [q, hD] at h1; cases h1) h1, B _ _ d1 h2, B _ _ d2 h3, B _ _ d3 h4, h5.j3f hD B, h6⟩
theorem a9v (x : Str) : ∀ ts : List Str, inV (.str x) (ts.map V.str) = decide (x ∈ ts)
 | [] => rfl
 | t :: ts => by
  have ih := a9v x ts
  unfold inV at ih ⊢
  rw [List.map_cons, List.any_cons, ih]
  by_cases h : t = x
  ·subst h
   simp [eqV]
  ·have : eqV (.str t) (.str x) = false := by simp [eqV, h]
   rw [this]
   simp
   exact fun e => absurd e.symm h
theorem b0h (ts : List Str) : (ts.map V.str).all b9t = true := by
 rw [List.all_eq_true]
 intro v hv
 obtain ⟨n, _, rfl⟩ := List.mem_map.mp hv
 rfl
theorem k5k (T : Tx K mg A) : a1n P A.wd K mg base CX0 2 A.a3g A.b2q ["self", "name"] (k7z A) := by
 have k0h : a1n P A.wd K mg base CX0 1 _ _ _ _ := k0d T
 have a0w := T.a0w
 have a0k := T.a0k
 have a0o := T.a0o
 have a0n := T.a0n
 have a0p := T.a0p
 refine T.a9t.ok f1h (fun vs H Q E h => ?_) (fun cdv A' outer s H vs Q E hr h => ?_)
 ·obtain ⟨_, _, rfl, _⟩ := j2f (by unfold k7z at h; exact h)
  rfl
 ·obtain ⟨o, x, rfl, ⟨t, b, sd, ts, bs, es, ⟨dx, ou, ps, ho, ht, hb, hsd, hE, d1, d2, d3⟩, nm, nt, nb, q⟩⟩ := j2f (by unfold k7z at h; exact h)
  have hu := hr.units
  have j3p : a2z 1 _ := hr.mono (by decide)
  unfold ptF at ho
  refine ⟨_, (a0i (a4j (b2z (a4y (a0u k0h j3p (by rfl) T.j8u T.d0q.kp T.g1f .nil a1g (a0g (pvF 1) a0j))))
   (a0m a2k)
   a1j)
   (a0m (a4j (pw_or (a0y g8g (pvF 1) (a2t (pvF 0) rfl) (by rfl)) (pw_or1 (a0y g8g (pvF 1) (a2t (pvF 0) rfl) (by rfl)))).pt
   (a0m a2k)
   a1j))), ?_⟩
  walk_at "rd"
  refine ⟨nm, fun H1 S1 => ?_⟩
  have ho1 := S1 _ _ ho
  have ht1 := S1 _ _ ht
  have hb1 := S1 _ _ hb
  have i1 : inV (.str x) (ts.map V.str) = false := by rw [a9v]; exact decide_eq_false nt
  have i2 : inV (.str x) (bs.map V.str) = false := by rw [a9v]; exact decide_eq_false nb
  have f1 := b0h ts
  have f2 := b0h bs
  clear ho ht hb
  walk_at "rd*"
  exact ⟨rfl, rfl⟩
theorem k5l {H : Hp} {N : Addr -> Prop} : ∀ {es : List Sd} {us : List V}, RpL H N us (es.map dSd) -> ∃ ps : List Addr, us = ps.map V.ref /\ Eds H ps (prs es)
 | [], _, .nil => ⟨[], rfl, rfl, fun i p e h => by simp at h⟩
 | e :: es, _, .cons h r => by
  obtain ⟨ps, rfl, hl, hE⟩ := k5l r
  obtain ⟨p, vs, rfl, hp, r2⟩ := h.tuple
  obtain ⟨x, y, z, rfl, h1, h2, h3⟩ := r2.three
  cases h1.strOf
  cases h2.strOf
  obtain ⟨lw, ws, rfl, _⟩ := h3.list
  refine ⟨p :: ps, rfl, by rw [List.length_cons, hl]; rfl, fun i q f e1 e2 => ?_⟩
  cases i with
  | zero => cases e1; cases e2; exact ⟨lw, hp⟩
  | succ i => exact hE i q f e1 e2
theorem c5r.pt {A : Ad} {H : Hp} {N : Addr -> Prop} {o : Addr} {p : Pd} (h : c5r A H N o p) : ∃ t b sd, k2u A H o t b sd p.ts p.bs (prs p.es) := by
 obtain ⟨dx, t, b, sd, ou, ho, n, d, ht, hb, ⟨us, hsd, R⟩, _⟩ := h
 obtain ⟨ps, rfl, hE⟩ := k5l R
 exact ⟨t, b, sd, dx, ou, ps, ho, ht, hb, hsd, hE, d.1, d.2.1, d.2.2.2.1⟩
theorem c5r.over {A : Ad} {H H' : Hp} {N M : Addr -> Prop} {o : Addr} {p : Pd} (h : c5r A H N o p) (S : a4q M H H') (hd : ∀ z, N z -> H z ≠ none -> ¬ M z) : c5r A H' N o p := by
 obtain ⟨dx, t, b, sd, ou, ho, F⟩ := h
 exact ⟨dx, t, b, sd, ou, S _ _ (fun _ ys q => by cases q) ho, F.over S hd⟩
theorem c5r.same {A : Ad} {H H' : Hp} {N : Addr -> Prop} {o : Addr} {p : Pd} (h : c5r A H N o p) (S : Same H H') : c5r A H' N o p := h.over (M := fun _ => False) (a4q.of S) fun _ _ _ h => h
theorem c5r.mono {A : Ad} {H : Hp} {N M : Addr -> Prop} {o : Addr} {p : Pd} (h : c5r A H N o p) (hm : ∀ z, N z -> H z ≠ none -> M z) : c5r A H M o p := by
 obtain ⟨dx, t, b, sd, ou, ho, F⟩ := h
 exact ⟨dx, t, b, sd, ou, ho, F.mono hm⟩
theorem l8v (T : Tx K mg A) : a1n P A.wd K mg base CX0 1 A.a6t A.c4k ["self"] (l8j A) := by
 have a0w := T.a0w
 have a0k := T.a0k
 have a0o := T.a0o
 have a0n := T.a0n
 have a0p := T.a0p
 refine T.c0n.ok g9q (fun vs H Q E h => ?_) (fun cdv A' outer s H vs Q E hr h => ?_)
 ·obtain ⟨_, rfl, _⟩ := b3h (by unfold l8j at h; exact h)
  rfl
 ·obtain ⟨o, rfl, ⟨dx, ho, q⟩⟩ := b3h (by unfold l8j at h; exact h)
  have hu := hr.units
  have hs : sizeLine = 16777216 := sizeLine_eq
  have fr : ∀ {H1 : Hp} {z : Addr}, a2i o H H1 -> H1 z = none -> z ≠ o -> H z = none := fun B n nz => by
   cases e : H _ with
   | none => rfl
   | some u => rw [B _ _ nz e] at n; cases n
  have ap : ∀ {H1 : Hp} {z y : Addr} {u : HO}, H1 z = none -> H1 y = some u -> z ≠ y := fun n e q => by rw [q, e] at n; cases n
  refine ⟨_, (a0i (a4s (pvF 0) (a2j a0j) rfl)
   (a0i (a4s (pvF 0) (a2j a0j) rfl)
   (a0i (a4s (pvF 0) (a2j a0j) rfl)
   (a0m (a4s (pvF 0) (a2j a0j) rfl))))), ?_⟩
  walk_at "rd"
  refine ⟨by omega, fun t H1 n1 S1 h1 => ?_⟩
  have ho1 := S1 _ _ ho
  have ot := ap n1 ho
  walk_at "rd*"
  intro H2 B2 h2
  have h12 := B2 _ _ ot h1
  have B02 : a2i o H H2 := fun z u hz e => B2 _ _ hz (S1 _ _ e)
  clear h1 ho1
  walk_at "rd*"
  refine fun b H3 n3 S3 h3 => ?_
  have ho3 := S3 _ _ h2
  have ob := ap n3 h2
  have tb := ap n3 h12
  have nb := fr B02 n3 ob
  clear h2
  walk_at "rd*"
  intro H4 B4 h4
  have h14 := B4 _ _ ot (S3 _ _ h12)
  have h34 := B4 _ _ ob h3
  have B04 : a2i o H H4 := fun z u hz e => B4 _ _ hz (S3 _ _ (B02 _ _ hz e))
  clear h12 h3 ho3
  walk_at "rd*"
  refine fun sd H5 n5 S5 h5 => ?_
  have ho5 := S5 _ _ h4
  have os := ap n5 h4
  have ts := ap n5 h14
  have bs := ap n5 h34
  have ns := fr B04 n5 os
  clear h4
  walk_at "rd*"
  intro H6 B6 h6
  have h16 := B6 _ _ ot (S5 _ _ h14)
  have h36 := B6 _ _ ob (S5 _ _ h34)
  have h56 := B6 _ _ os h5
  have B06 : a2i o H H6 := fun z u hz e => B6 _ _ hz (S5 _ _ (B04 _ _ hz e))
  clear h14 h34 h5 ho5
  walk_at "rd*"
  refine fun ou H7 n7 S7 h7 => ?_
  have ho7 := S7 _ _ h6
  have oo := ap n7 h6
  have to := ap n7 h16
  have bo := ap n7 h36
  have so := ap n7 h56
  have nu := fr B06 n7 oo
  clear h6
  walk_at "rd*"
  intro H8 B8 h8
  exact q H8 (fun z u hz e => B8 _ _ hz (S7 _ _ (B06 _ _ hz e))) ⟨dx, t, b, sd, ou, h8, ⟨n1, nb, ns, nu⟩, ⟨tb.symm, ts.symm, to.symm, bs.symm, bo.symm, so.symm⟩, B8 _ _ ot (S7 _ _ h16), B8 _ _ ob (S7 _ _ h36), ⟨[], B8 _ _ os (S7 _ _ h56), .nil⟩, [], B8 _ _ oo h7, .nil⟩
theorem k5m (T : Tx K mg A) : a1n P A.wd K mg base CX0 3 A.a5o A.c1n ["self", "name"] (k8a A) := by
 have b4y : a1n P A.wd K mg base CX0 2 _ _ _ _ := k5k T
 have a0w := T.a0w
 have a0k := T.a0k
 have a0o := T.a0o
 have a0n := T.a0n
 have a0p := T.a0p
 refine T.b6u.ok g4k (fun vs H Q E h => ?_) (fun cdv A' outer s H vs Q E hr h => ?_)
 ·obtain ⟨_, _, rfl, _⟩ := j2f (by unfold k8a at h; exact h)
  rfl
 ·obtain ⟨o, x, rfl, ⟨N, p, hP, nm, nt, nb, l1, q⟩⟩ := j2f (by unfold k8a at h; exact h)
  obtain ⟨t', b', sd', hT⟩ := hP.pt
  obtain ⟨dx, t, b, sd, ou, ho, F⟩ := id hP
  have ht := F.ht
  have hb := F.hb
  have hu := hr.units
  have hs : sizeLine = 16777216 := sizeLine_eq
  have b2y : a2z 2 _ := hr.mono (by decide)
  unfold ptF at ho
  refine ⟨_, (a0i (a3n (b6q (pvF 0) T.a0w T.c0s b4y b2y T.a9u .nil a1g (a0g (pvF 1) a0j)))
   (a0m (a3n (a7o a4m PySem.F.plainAttrs_list PySem.F.slot_list_append PySem.F.type_list_append a2s (a2t (pvF 0) rfl) (a0g (pvF 1) a0j))))), ?_⟩
  walk_at "rd*"
  refine ⟨t', b', sd', _, _, _, hT, nt, nb, fun H1 S1 => ?_⟩
  have ho1 := S1 _ _ ho
  have ht1 := S1 _ _ ht
  clear ho ht
  walk_at "rd*"
  refine ⟨by omega, ?_⟩
  rintro _ H2 ⟨rfl, B2, h2⟩
  try walk_at "rd"
  exact q H2 ((a4q.of S1).trans (a4q.one ht1 F.n.1 B2)) ⟨dx, t, b, sd, ou, B2 _ _ (fun e => by rw [e, ht1] at ho1; cases ho1) ho1, (F.same S1).m0g h2 B2⟩
theorem k5n (T : Tx K mg A) : a1n P A.wd K mg base CX0 3 A.a8r A.c9q ["self", "name"] (k8b A) := by
 have b4y : a1n P A.wd K mg base CX0 2 _ _ _ _ := k5k T
 have a0w := T.a0w
 have a0k := T.a0k
 have a0o := T.a0o
 have a0n := T.a0n
 have a0p := T.a0p
 refine T.c5j.ok h5v (fun vs H Q E h => ?_) (fun cdv A' outer s H vs Q E hr h => ?_)
 ·obtain ⟨_, _, rfl, _⟩ := j2f (by unfold k8b at h; exact h)
  rfl
 ·obtain ⟨o, x, rfl, ⟨N, p, hP, nm, nt, nb, l1, q⟩⟩ := j2f (by unfold k8b at h; exact h)
  obtain ⟨t', b', sd', hT⟩ := hP.pt
  obtain ⟨dx, t, b, sd, ou, ho, F⟩ := id hP
  have ht := F.ht
  have hb := F.hb
  have hu := hr.units
  have hs : sizeLine = 16777216 := sizeLine_eq
  have b2y : a2z 2 _ := hr.mono (by decide)
  unfold ptF at ho
  refine ⟨_, (a0i (a3n (b6q (pvF 0) T.a0w T.c0s b4y b2y T.a9u .nil a1g (a0g (pvF 1) a0j)))
   (a0m (a3n (a7o a4m PySem.F.plainAttrs_list PySem.F.slot_list_append PySem.F.type_list_append a2s (a2t (pvF 0) rfl) (a0g (pvF 1) a0j))))), ?_⟩
  walk_at "rd*"
  refine ⟨t', b', sd', _, _, _, hT, nt, nb, fun H1 S1 => ?_⟩
  have ho1 := S1 _ _ ho
  have hb1 := S1 _ _ hb
  clear ho hb
  walk_at "rd*"
  refine ⟨by omega, ?_⟩
  rintro _ H2 ⟨rfl, B2, h2⟩
  try walk_at "rd"
  exact q H2 ((a4q.of S1).trans (a4q.one hb1 F.n.2.1 B2)) ⟨dx, t, b, sd, ou, B2 _ _ (fun e => by rw [e, hb1] at ho1; cases ho1) ho1, (F.same S1).m0h h2 B2⟩
theorem Rch.refl (es : List (Str × Str)) (x : Str) : Rch es x x := fun _ h _ => h
theorem Rch.step {es : List (Str × Str)} {x u v : Str} (h : Rch es x u) (he : (u, v) ∈ es) : Rch es x v := fun S hx hc => hc u v (h S hx hc) he
theorem filter_lt {α : Type} {p q : α -> Bool} : ∀ {l : List α} {a : α}, (∀ x, q x = true -> p x = true) -> a ∈ l -> p a = true -> q a = false -> (l.filter q).length < (l.filter p).length
 | [], _, _, h, _, _ => by cases h
 | x :: l, a, hpq, h, ha, hqa => by
  have le : ∀ l : List α, (l.filter q).length <= (l.filter p).length := fun l => by
   induction l with
   | nil => exact Nat.le_refl _
   | cons y l ih =>
    rw [List.filter_cons, List.filter_cons]
    cases hq : q y with
    | true => rw [if_pos rfl, if_pos (hpq y hq), List.length_cons, List.length_cons]; omega
    | false =>
     rw [if_neg Bool.false_ne_true]
     split
     ·rw [List.length_cons]; omega
     ·exact ih
  rw [List.filter_cons, List.filter_cons]
  rcases List.mem_cons.mp h with e | h
  ·subst e
   rw [if_neg (by rw [hqa]; exact Bool.false_ne_true), if_pos ha, List.length_cons]
   have := le l
   omega
  ·have ih := filter_lt hpq h ha hqa
   cases hq : q x with
   | true => rw [if_pos rfl, if_pos (hpq x hq), List.length_cons, List.length_cons]; omega
   | false =>
    rw [if_neg Bool.false_ne_true]
    split
    ·rw [List.length_cons]; omega
    ·exact ih
theorem k5o {es : List (Str × Str)} {ks : List Str} {e : Str × Str} (he : e ∈ es) (hn : e.2 ∉ ks) : cnt es (ks ++ [e.2]) < cnt es ks := by
 refine filter_lt (fun x hx => ?_) he (by simpa using hn) (by simp)
 simp at hx ⊢
 exact hx.1
theorem g1u : ∀ {kvs : List (Key × V)} {k : Key}, k ∉ kvs.map (·.1) -> f9r kvs k = none
 | [], _, _ => rfl
 | p :: r, k, h => by
  rw [List.map_cons, List.mem_cons, not_or] at h
  rw [f0q (fun e => h.1 e.symm)]
  exact g1u h.2
theorem g1v : ∀ {kvs : List (Key × V)} {k : Key}, k ∈ kvs.map (·.1) -> ∃ v, f9r kvs k = some v /\ (k, v) ∈ kvs
 | [], _, h => by cases h
 | p :: r, k, h => by
  by_cases e : p.1 = k
  ·exact ⟨p.2, f9s e, by rw [<- e]; exact List.mem_cons_self⟩
  ·rw [List.map_cons, List.mem_cons] at h
   obtain ⟨v, h1, h2⟩ := g1v (h.resolve_left fun z => e z.symm)
   exact ⟨v, by rw [f0q e]; exact h1, List.mem_cons_of_mem _ h2⟩
theorem k0i {x : Str} {ks : List Str} : kT x ∈ ks.map kT ↔ x ∈ ks := by
 constructor
 ·intro h
  obtain ⟨y, hy, e⟩ := List.mem_map.mp h
  injection e with e
  rw [<- e]
  exact hy
 ·exact fun h => List.mem_map_of_mem h
theorem j6i.same {H H' : Hp} {L : Addr} {kvs : List (Key × V)} {ks : List Str} (h : j6i H L kvs ks) (S : Same H H') : j6i H' L kvs ks :=
 ⟨h.1, fun kv hkv => (h.2 kv hkv).elim fun l z => z.elim fun ss q => ⟨l, ss, q.1, q.2.1, S _ _ q.2.2.1, q.2.2.2⟩⟩
theorem j6i.j3f {H H' : Hp} {L : Addr} {kvs : List (Key × V)} {ks : List Str} (h : j6i H L kvs ks) (B : a2i L H H') : j6i H' L kvs ks :=
 ⟨h.1, fun kv hkv => (h.2 kv hkv).elim fun l z => z.elim fun ss q => ⟨l, ss, q.1, q.2.1, B _ _ q.2.1 q.2.2.1, q.2.2.2⟩⟩
theorem j6i.put {H H' : Hp} {L W l : Addr} {kvs kvs' : List (Key × V)} {ks : List Str} {z : Str} {ss : List Str} (h : j6i H L kvs ks) (hW : H W = some (.dK kvs')) (hz : z ∉ ks) (hl : H l = some (.lst (ss.map V.str))) (nl : l ≠ L) (sl : ss.length <= kvs.length + 1) (B : a2i W H H') : j6i H' L (putK kvs (kT z) (.ref l)) (ks ++ [z]) /\ (putK kvs (kT z) (.ref l)).length = kvs.length + 1 := by
 have hn : f9r kvs (kT z) = none := g1u (by rw [h.1, k0i]; exact hz)
 have ne : ∀ {p : Addr} {ys : List V}, H p = some (.lst ys) -> p ≠ W := fun e q => by rw [q, hW] at e; cases e
 rw [k1p _ hn]
 refine ⟨⟨by rw [List.map_append, List.map_append, h.1]; rfl, fun kv hkv => ?_⟩, by rw [List.length_append]; rfl⟩
 rw [List.length_append, List.length_singleton]
 rcases List.mem_append.mp hkv with h1 | h1
 ·obtain ⟨l', ss', e1, e2, e3, e4⟩ := h.2 kv h1
  exact ⟨l', ss', e1, e2, B _ _ (ne e3) e3, by omega⟩
 ·obtain rfl := List.mem_singleton.mp h1
  exact ⟨l, ss, rfl, nl, B _ _ (ne hl) hl, sl⟩
theorem l4l (T : Tx K mg A) : a1n P A.wd K mg base CX0 1 A.a8s A.c9r ["self", "start", "end"] (k8c A) := by
 have a0w := T.a0w
 have a0k := T.a0k
 have a0o := T.a0o
 have a0n := T.a0n
 have a0p := T.a0p
 refine T.c5l.ok b5t (fun vs H Q E h => ?_) (fun cdv A' outer s H vs Q E hr h => ?_)
 ·obtain ⟨_, _, _, rfl, _⟩ := j0x (by unfold k8c at h; exact h)
  rfl
 ·obtain ⟨o, x, y, rfl, ⟨t, b, sd, ts, bs, es, hP, nr, e100, okx, oke, q⟩⟩ := j0x (by unfold k8c at h; exact h)
  have hu := hr.units
  have hs : sizeLine = 16777216 := sizeLine_eq
  obtain ⟨dx, ou, ps, ho, ht, hb, hsd, hE, d1, d2, d3⟩ := id hP
  unfold ptF at ho
  have el := hE.1
  refine ⟨_, (a0i (a1i (i := 3) b5t.nd rfl (Or.inl rfl) (k2p (pvF 1) (a2j (a0g (pvF 1) a0j))))
   (a0i (a1i (i := 4) b5t.nd rfl (Or.inl rfl) (a2j (a0g (pvF 1) a0j)))
   (a0i (h5e PassesOwn.never (a0y (b3g hu) (pvF 4) (a2j a0j) (a1r _))
   (a0i (a1i (i := 5) b5t.nd rfl (Or.inl rfl) (k6v a4m PySem.F.plainAttrs_list PySem.F.slot_list_pop PySem.F.type_list_pop k7i (pvF 4)))
   (a0i (a4j (a0y (b7u hu) (pvF 5) (pvF 2) (a1r _))
   (a0m (a0z (j0w (hu1 hu) (pvF 3) (pvF 5) (fun _ _ => rfl))))
   a1j)
   (a0m (a7w PassesOwn.never rfl (a3o (a2t (pvF 0) rfl)) (a3v (i := 6) b5t.nd rfl (Or.inl rfl))
   (a0m (a4j (pw_and (a0y (b7u hu) (a0v a3j (pvF 6) a0l (fun _ _ => rfl)) (pvF 5) (a1r _)) (pw_and1 (k7k (j2e (hu1 hu) (a0v a3j (pvF 6) a0l (fun _ _ => rfl)) (pvF 3)) (by rfl)))).pt
   (a0i (k2o (hu1 hu) (pvF 3) (a0v a3j (pvF 6) a0l (fun _ _ => rfl)) (a2y b0p (j0w (hu1 hu) (pvF 3) (pvF 5) (fun _ _ => rfl)) (a2j (a0g (a0v a3j (pvF 6) a0l (fun _ _ => rfl)) a0j))) rfl)
   (a0m (a3n (a7o a4m PySem.F.plainAttrs_list PySem.F.slot_list_append PySem.F.type_list_append a2s (pvF 4) (a0g (a0v a3j (pvF 6) a0l (fun _ _ => rfl)) a0j)))))
   a1j)))))))
   (a0m (a0z (a2j a0j)))))), ?_⟩
  walk_at "rd"
  refine fun W H1 n1 S1 h1 => ⟨by omega, fun l1 H2 n2 S2 h2 => ⟨x, rfl, S2 _ _ h1, fun H3 B3 h3 => ?_⟩⟩
  have nlW : l1 ≠ W := fun e => by rw [e, h1] at n2; cases n2
  have h23 := B3 _ _ nlW h2
  have S03 : Same H H3 := fun z u e => B3 _ _ (fun q => by rw [q, n1] at e; cases e) (S2 _ _ (S1 _ _ e))
  clear h1 h2
  walk_at "rd"
  refine ⟨by omega, fun L H4 n4 S4 h4 => ?_⟩
  have nWL : W ≠ L := fun e => by rw [<- e, h3] at n4; cases n4
  have nL : H L = none := S03.free n4
  have h34 := S4 _ _ h3
  have h24 := S4 _ _ h23
  have h23' := h23
  clear h3 h23
  obtain ⟨Pv, pin, pout⟩ := d3l (fun m σ H' => ∃ (kvs : List (Key × V)) (ks ws : List Str) (v5 v6 : Option V), σ = [some (.ref o), some (.str x), some (.str y), some (.ref W), some (.ref L), v5, v6] /\ Same H H' /\ H' W = some (.dK kvs) /\ H' L = some (.lst (ws.map V.str)) /\ j6i H' L kvs ks /\ (∀ z ∈ ws, z ∈ ks) /\ (∀ z ∈ ks, Rch es x z /\ PyData.strOk z = true) /\ kvs.length + cnt es ks <= es.length + 1 /\ 2 * cnt es ks + ws.length <= 2 * es.length + 1 /\ m = 2 * cnt es ks + ws.length)
  have nlL : l1 ≠ L := fun e => by rw [<- e, h23'] at n4; cases n4
  have w0 : j6i H4 L [(kT x, .ref l1)] [x] := ⟨rfl, fun kv hkv => by
   obtain rfl := List.mem_singleton.mp hkv
   exact ⟨l1, [x], rfl, nlL, h24, Nat.le_refl _⟩⟩
  have c0 : cnt es [x] <= es.length := List.length_filter_le _ _
  refine h5f Pv _ (pin _ _ _ ⟨_, [x], [x], _, _, rfl, S03.trans S4, h34, h4, w0, fun z hz => hz, fun z hz => by obtain rfl := List.mem_singleton.mp hz; exact ⟨Rch.refl _ _, okx⟩, by rw [List.length_singleton]; omega, by rw [List.length_singleton]; omega, rfl⟩) ?_
  intro m σ H5 hp
  obtain ⟨kvs, ks, ws, v5, v6, rfl, S5, hW, hL, wy, wk, kr, kc, mb, em⟩ := pout _ _ _ hp
  clear hp h4 h34 h24 w0
  walk_at "rd"
  refine ⟨by omega, fun l6 H6 n6 S6 h6 => ?_⟩
  have hW6 := S6 _ _ hW
  have hL6 := S6 _ _ hL
  walk_at "rd"
  refine c3s (ns := ws) (ms := []) (SqL.of hL6) (SqL.of h6) (fun z hz => (kr z (wk z hz)).2) (fun z hz => by cases hz) ?_
  cases ws with
  | nil =>
   rw [show (!decide (([] : List Str) = [])) = false from rfl]
   walk_at "rd"
   refine ⟨by omega, fun l7 H7 n7 S7 h7 => q _ _ ⟨l7, rfl, (S5.trans S6).free n7, S5.trans (S6.trans S7), h7⟩⟩
  | cons w0 wr =>
   obtain ⟨ws, ews⟩ : ∃ ws, w0 :: wr = ws := ⟨_, rfl⟩
   have wne : ws ≠ [] := by rw [<- ews]; exact fun e => by cases e
   have wl : 0 < ws.length := by rw [<- ews]; exact Nat.succ_pos _
   rw [ews] at hL6 wk em mb ⊢
   rw [decide_eq_false wne]
   clear hW hL h6
   walk_at "rd*"
   rintro v H7 ⟨hv, B7, h7⟩
   rw [List.length_map, List.getElem?_map, List.getElem?_eq_getElem (by omega)] at hv
   cases hv
   obtain ⟨sc, esc⟩ : ∃ z, ws[ws.length - 1]'(by omega) = z := ⟨_, rfl⟩
   have scw : sc ∈ ws := by rw [<- esc]; exact List.getElem_mem _
   have sck := wk sc scw
   have ny : sc ≠ y := fun e => nr (by rw [<- e]; exact (kr sc sck).1)
   have ny' : (sc = y) = False := eq_false ny
   rw [esc]
   rw [<- List.map_dropLast] at h7
   have hW7 := B7 _ _ nWL hW6
   have S7' : Same H H7 := (S5.trans S6).step nL B7
   have ho7 := S7' _ _ ho
   have k0v := S7' _ _ hsd
   have wy7 := (wy.same S6).j3f B7
   have dl : ws.dropLast.length = ws.length - 1 := List.length_dropLast
   clear hW6 hL6
   walk_at "rd*"
   refine ⟨⟨_, SqL.of k0v⟩, ?_⟩
   obtain ⟨Pw, win, wout⟩ := d3l (fun i σ H' => ∃ (kv2 : List (Key × V)) (k2 w2 : List Str) (v6 : Option V), σ = [some (.ref o), some (.str x), some (.str y), some (.ref W), some (.ref L), some (.str sc), v6] /\ Same H H' /\ H' W = some (.dK kv2) /\ H' L = some (.lst (w2.map V.str)) /\ j6i H' L kv2 k2 /\ sc ∈ k2 /\ (∀ z ∈ w2, z ∈ k2) /\ (∀ z ∈ k2, Rch es x z /\ PyData.strOk z = true) /\ kv2.length + cnt es k2 <= es.length + 1 /\ 2 * cnt es k2 + w2.length + 1 <= 2 * cnt es ks + ws.length)
   refine b0g (xs := ps.map V.ref) Pw (win _ _ _ ⟨kvs, ks, ws.dropLast, _, rfl, S7', hW7, h7, wy7, sck, fun z hz => wk z (List.dropLast_subset _ hz), kr, kc, by omega⟩) ?_ ?_ ?_
   ·intro i σ H8 hi hp
    obtain ⟨kv2, k2, w2, v6', rfl, S8, _⟩ := wout _ _ _ hp
    exact SqL.of (S8 _ _ hsd)
   ·intro i v σ H8 hv hp
    rw [List.getElem?_map] at hv
    obtain ⟨p, hpi, rfl⟩ := Option.map_eq_some_iff.mp hv
    obtain ⟨kv2, k2, w2, v6', rfl, S8, hW8, hL8, wy8, sk8, wk8, kr8, kc8, em8⟩ := wout _ _ _ hp
    have hi := (List.getElem?_eq_some_iff.mp hpi).1
    have hei : es[i]? = some (es[i]'(by omega)) := List.getElem?_eq_getElem _
    obtain ⟨lw, hpe⟩ := hE.2 i p _ hpi hei
    have me := List.mem_of_getElem? hei
    generalize es[i]'(by omega) = e at hei hpe me
    have hp8 := S8 _ _ hpe
    have iv := g1u (kvs := kv2) (k := kT e.2)
    clear hv hp ho7 k0v hW7 h7
    walk_at "rd*"
    split
    ·rename_i hc
     obtain ⟨v, hv1, hv2⟩ := g1v (kvs := kv2) (k := kT sc) (by rw [wy8.1, k0i]; exact sk8)
     obtain ⟨lv, ss, ev, nlv, hlv, sl⟩ := wy8.2 _ hv2
     replace ev : v = .ref lv := ev
     subst ev
     have hn : e.2 ∉ k2 := fun hm => by
      obtain ⟨u, hu1, _⟩ := g1v (kvs := kv2) (k := kT e.2) (by rw [wy8.1, k0i]; exact hm)
      rw [hu1] at hc
      exact absurd hc.2 (by simp)
     refine ⟨_, hv1, fun l9 H9 n9 S9 h9 => ?_⟩
     have hlv9 := S9 _ _ hlv
     walk_at "rd*"
     refine ⟨by omega, fun l10 H10 n10 S10 h10 => ?_⟩
     have l4m := S9.trans S10
     have m0q := l4m _ _ hW8
     have l5r := l4m _ _ hp8
     have hL10 := l4m _ _ hL8
     have n10L : l10 ≠ L := fun q => by rw [q, S9 _ _ hL8] at n10; cases n10
     clear hW8 hp8 h9 hlv9
     walk_at "rd*"
     refine ⟨by omega, fun H11 B11 h11 => ?_⟩
     have hL11 := B11 _ _ nWL.symm hL10
     have hp11 := B11 _ _ (fun q => by rw [q, m0q] at l5r; cases l5r) l5r
     have m0r := (wy8.same l4m).put (z := e.2) m0q hn (ss := ss ++ [e.2]) (by rw [h10, List.map_append]; rfl) n10L (by rw [List.length_append, List.length_singleton]; omega) B11
     have nHW : H W = none := n1
     clear l5r
     walk_at "rd*"
     refine ⟨by omega, ?_⟩
     rintro _ H12 ⟨rfl, B12, h12⟩
     have cl := k5o me hn
     refine win _ _ _ ⟨_, k2 ++ [e.2], w2 ++ [e.2], _, rfl, ((S8.trans l4m).step nHW B11).step nL B12, B12 _ _ nWL h11, by rw [h12, List.map_append]; rfl, m0r.1.j3f B12, List.mem_append_left _ sk8, fun z hz => ?_, fun z hz => ?_, by rw [m0r.2]; omega, by rw [List.length_append, List.length_singleton]; omega⟩
     ·rcases List.mem_append.mp hz with h | h
      ·exact List.mem_append_left _ (wk8 z h)
      ·exact List.mem_append_right _ h
     ·rcases List.mem_append.mp hz with h | h
      ·exact kr8 z h
      ·obtain rfl := List.mem_singleton.mp h
       exact ⟨(kr8 sc sk8).1.step (by rw [<- hc.1]; exact me), oke _ me⟩
    ·exact win _ _ _ ⟨kv2, k2, w2, _, rfl, S8, hW8, hL8, wy8, sk8, wk8, kr8, kc8, em8⟩
   ·intro σ H8 hp
    obtain ⟨kv2, k2, w2, v6', rfl, S8, hW8, hL8, wy8, sk8, wk8, kr8, kc8, em8⟩ := wout _ _ _ hp
    exact ⟨2 * cnt es k2 + w2.length, by omega, pin _ _ _ ⟨kv2, k2, w2, _, _, rfl, S8, hW8, hL8, wy8, wk8, kr8, kc8, by omega, rfl⟩⟩
theorem k8p (T : Tx K mg A) : a1n P A.wd K mg base CX0 2 A.a4o A.b8k ["self", "greatest"] (j9g A.a3l) := by
 have d3j : a1n P A.wd K mg base CX0 1 _ _ _ _ := g1q T
 have d3i := T.d3i
 have a2g := T.a2g
 have a4h := T.a4h
 have a4i := T.a4i
 refine T.b5k.ok g0q (fun vs H Q E h => ?_) (fun cdv A' outer s H vs Q E hr h => ?_)
 ·obtain ⟨_, _, rfl, _⟩ := g4g (by unfold j9g at h; exact h)
  rfl
 ·obtain ⟨o, g, rfl, ⟨dx, ho, g1, g2, k⟩⟩ := g4g (by unfold j9g at h; exact h)
  have hu := hr.units
  have c5s : a2z 1 _ := hr.mono (by decide)
  refine ⟨_, (a0i (a4j (pw_or (b2z (a4y (a0u d3j c5s (by rfl) T.f3k T.b4t.kp T.c2s .nil a1g (a0g (pvF 1) a0j)))) (pw_or (a0y of_lt (pvF 1) a0l (a1r _)) (pw_or1 (a0y g4e (pvF 1) (a5v (v := .int 1000000000000) (by rfl) T.g1m T.k7q) (a1r _))))).pt
   (a0m a2k)
   a1j)
   (a0i (a4s (pvF 0) (pvF 1) rfl)
   (a0i (a4s (pvF 0) a0l rfl)
   (a0m (a4s (pvF 0) (a9z (a0g a0l (a0g a0l a0j))) rfl))))), ?_⟩
  walk_at "rd*"
  rw [if_neg (by omega)]
  intro H1 B1 h1
  walk_at "rd*"
  intro H2 B2 h2
  walk_at "rd*"
  intro r H3 n3 S3 h3
  have h23 := S3 _ _ h2
  walk_at "rd*"
  intro H4 B4 h4
  have nr : H r = none := by
   cases hn : H r with
   | none => rfl
   | some u =>
    exfalso
    by_cases e : r = o
    ·rw [e, h2] at n3
     cases n3
    ·rw [B2 _ _ e (B1 _ _ e hn)] at n3
     cases n3
  have ro : r ≠ o := fun e => by
   rw [e, h2] at n3
   cases n3
  exact k r H4 nr (fun b u hb e => B4 _ _ hb (S3 _ _ (B2 _ _ hb (B1 _ _ hb e)))) (B4 _ _ ro h3) h4
theorem k8q (T : Tx K mg A) : a1n P A.wd K mg base CX0 12 A.a6u A.c4m ["self", "source", "bus", "words"] (j9h A) := by
 have h6z : a1n P A.wd K mg base CX0 10 _ _ _ _ := k3g T
 have h0x : a1n P A.wd K mg base CX0 4 _ _ _ _ := l4k T
 have i6o : a1n P A.wd K mg base CX0 1 _ _ _ _ := l4l T
 have a0w := T.a0w
 have a0k := T.a0k
 have a0o := T.a0o
 have a0n := T.a0n
 have a0p := T.a0p
 have c5q := T.c5q
 have a3h := T.a3h
 have a2v := T.a2v
 refine T.c0p.ok c3u (fun vs H Q E h => ?_) (fun cdv A' outer s H vs Q E hr h => ?_)
 ·obtain ⟨_, _, _, _, rfl, _⟩ := j8o (by unfold j9h at h; exact h)
  rfl
 ·obtain ⟨o, x, y, l, rfl, ⟨N, p, ds, hP, hl, l8, okd, hx, hy, nr, e99, oky, oke, q⟩⟩ := j8o (by unfold j9h at h; exact h)
  have hu := hr.units
  have hs : sizeLine = 16777216 := sizeLine_eq
  have h0y : a2z 11 _ := hr.mono (by decide)
  have g4v : a2z 4 _ := hr.mono (by decide)
  have h7a : a2z 1 _ := hr.mono (by decide)
  obtain ⟨dx, t, b, sd, ou, ho, F⟩ := id hP
  have ht := F.ht
  have hb := F.hb
  obtain ⟨us, hsd, R1⟩ := F.hs
  have el := R1.j6g
  unfold ptF at ho
  have ft := b0h p.ts
  have fb := b0h p.bs
  have i1 := a9v x p.ts
  have i2 := a9v x p.bs
  have i3 := a9v y p.bs
  refine ⟨_, (a0i (a4j (pw_and (a0y b5r (pvF 1) (a2t (pvF 0) rfl) (by rfl)) (pw_and1 (a0y b5r (pvF 1) (a2t (pvF 0) rfl) (by rfl)))).pt
   (a0m a2k)
   a1j)
   (a0i (a4j (a0y b5r (pvF 2) (a2t (pvF 0) rfl) (by rfl))
   (a0m a2k)
   a1j)
   (a0i (a1i (i := 4) c3u.nd rfl (Or.inl rfl) (b9v T.k7p h6z h0y (by rfl) T.f1l T.d0p .nil a1g (a0g (pvF 3) a0j)))
   (a0i (a1i (i := 5) c3u.nd rfl (Or.inl rfl) (b6q (pvF 0) T.a0w T.h6g i6o h7a T.d6i .nil a1g (a0g (pvF 2) (a0g (pvF 1) a0j))))
   (a0i (a4j (a0y (b3g hu) (pvF 5) (a2j a0j) (a1r _))
   (a0m a2k)
   a1j)
   (a0m (a3n (a7o a4m PySem.F.plainAttrs_list PySem.F.slot_list_append PySem.F.type_list_append a2s (a2t (pvF 0) rfl) (a0g (a9z (a0g (pvF 1) (a0g (pvF 2) (a0g (a2u (pvF 4) T.c5q T.g4r h0x g4v T.c5i .nil a1g) a0j)))) a0j))))))))), ?_⟩
  walk_at "rd*"
  have key : ∀ R : Prop, R -> (if ¬ x ∈ p.ts then b9t (V.str x) = true /\ if ¬ x ∈ p.bs then False else R else R) := fun R hR => by
   split
   ·rename_i h1
    rw [if_neg (not_not_intro (hx.resolve_left h1))]
    exact ⟨rfl, hR⟩
   ·exact hR
  refine ⟨rfl, key _ ⟨rfl, ?_⟩⟩
  intro c cx H2 n2 n2' nx S2 hdx hc
  refine ⟨cx, ds, hc, S2 _ _ hl, l8, okd, fun H3 B3 hC => ?_⟩
  rw [asNew]
  refine ⟨rfl, ?_⟩
  have S03 : Same H H3 := fun z u e => B3 _ _ (fun ze => by rw [ze] at e; rw [e] at n2; cases n2) (S2 _ _ e)
  have ho3 := S03 _ _ ho
  obtain ⟨t', b', sd', hT⟩ := (hP.same S03).pt
  clear hc
  walk_at "rd*"
  refine ⟨t', b', sd', _, _, _, hT, nr, by rw [prs, List.length_map]; omega, (fun e he => ?_), ?_⟩
  ·obtain ⟨z, hz, rfl⟩ := List.mem_map.mp he
   exact oke z hz
  rintro _ H4 ⟨rg, rfl, n4, S4, h4⟩
  clear ho3
  walk_at "rd"
  refine ⟨by omega, fun l5 H5 n5 S5 h5 => ?_⟩
  walk_at "rd"
  refine c3s (ns := []) (ms := []) (SqL.of (S5 _ _ h4)) (SqL.of h5) (fun z hz => by cases hz) (fun z hz => by cases hz) ?_
  rw [show (!decide (([] : List Str) = [])) = false from rfl]
  have S35 := S4.trans S5
  have S05 := S03.trans S35
  have ho5 := S05 _ _ ho
  have m0s := S05 _ _ hsd
  have hC5 := hC.same S35
  obtain ⟨cx', pl', sl', os', hc5, hpl5, R5⟩ := id hC5
  unfold chF at hc5
  clear h4 h5 hC hpl5 R5
  walk_at "rd*"
  refine ⟨ds, hC5, l8, okd, ?_⟩
  rintro _ H6 ⟨lw, rfl, n6, S6, h6⟩
  clear ho5 hc5
  walk_at "rd"
  refine ⟨by omega, fun p7 H7 n7 S7 h7 => ?_⟩
  have S57 := S6.trans S7
  have S07 := S05.trans S57
  have k0v := S57 _ _ m0s
  clear m0s
  walk_at "rd*"
  refine ⟨by omega, ?_⟩
  rintro _ H8 ⟨rfl, B8, h8⟩
  try walk_at "rd"
  have F7 : Fl H7 (fun a => N a \/ H a = none) t b sd ou p := (F.same S07).mono fun z hz _ => .inl hz
  have nlw : H lw = none := S05.free n6
  have ne : ∀ {z : Addr} {u : HO}, H z = some u -> lw ≠ z := fun e q => by rw [<- q, nlw] at e; cases e
  obtain ⟨_, hou, _⟩ := F.ho
  have rr : Rp H7 (Nw (fun a => N a \/ H a = none) t b sd ou) (.ref p7) (dSd (x, y, ds.map Dt.word)) := .tup h7 (.cons (.str _) (.cons (.str _) (.cons (.lst ⟨.inr nlw, ne ht, ne hb, ne hsd, ne hou⟩ (by rw [S7 _ _ h6, List.map_map]; rfl) (RpL.strs _)) .nil)))
  exact q H8 ((a4q.of S07).trans (a4q.one k0v F.n.2.2.1 B8)) ⟨dx, t, b, sd, ou, B8 _ _ (fun e => by rw [<- e, S07 _ _ ho] at k0v; cases k0v) (S07 _ _ ho), F7.m0i k0v rr h8 B8⟩
theorem l4n (T : Tx K mg A) : a1n P A.wd K mg base CX0 4 A.a8t A.c9s ["self", "bus", "greatest"] (k8d A) := by
 have g4w : a1n P A.wd K mg base CX0 2 _ _ _ _ := k8p T
 have a0w := T.a0w
 have a0k := T.a0k
 have a0o := T.a0o
 have a0n := T.a0n
 have a0p := T.a0p
 have d3i := T.d3i
 have a2g := T.a2g
 have a4h := T.a4h
 have a4i := T.a4i
 refine T.c5m.ok f6n (fun vs H Q E h => ?_) (fun cdv A' outer s H vs Q E hr h => ?_)
 ·obtain ⟨_, _, _, rfl, _⟩ := k5e (by unfold k8d at h; exact h)
  rfl
 ·obtain ⟨o, y, g, rfl, ⟨N, p, hP, hy, hn, g1, g2, o99, q⟩⟩ := k5e (by unfold k8d at h; exact h)
  have hu := hr.units
  have hs : sizeLine = 16777216 := sizeLine_eq
  have g1w : a2z 3 _ := hr.mono (by decide)
  obtain ⟨dx, t, b, sd, ou, ho, F⟩ := id hP
  have hb := F.hb
  obtain ⟨us, hou, R2⟩ := F.ho
  have ul := R2.j6g
  unfold ptF at ho
  have fb := b0h p.bs
  have i3 := a9v y p.bs
  refine ⟨_, (a0i (a4j (a0y b5r (pvF 1) (a2t (pvF 0) rfl) (by rfl))
   (a0m a2k)
   a1j)
   (a0i (a4j (a0y g8g (pvF 1) (b7z (a3o (a2t (pvF 0) rfl)) (fun _ _ _ _ _ => (a0v a3j (pvF 0) a0l (fun _ _ => rfl))) (d3k (sc := a0h b0r) (N := ["self", "bus", "greatest", "settler"]) rfl rfl (by decide +kernel)) rfl) (by rfl))
   (a0m a2k)
   a1j)
   (a0i (a1i (i := 3) f6n.nd rfl (Or.inl rfl) (b9v T.j8w g4w g1w (by rfl) T.c3l T.c1r .nil a1g (a0g (pvF 2) a0j)))
   (a0m (a3n (a7o a4m PySem.F.plainAttrs_list PySem.F.slot_list_append PySem.F.type_list_append a2s (a2t (pvF 0) rfl) (a0g (a9z (a0g (pvF 1) (a0g (a2t (pvF 3) rfl) a0j))) a0j))))))), ?_⟩
  walk_at "rd*"
  refine ⟨rfl, ⟨_, SqL.of hou⟩, fun D H2 n2 S2 h2 => ?_⟩
  refine g9k (p.os.map fun x => V.str x.1) (by rw [List.length_map, ul]) n2 S2 h2 (SqL.of hou) (by omega) ?_ ?_
  ·intro i v z H' Q' hx hz S' q'
   obtain ⟨e, pe, he, rfl, hpe⟩ := R2.at2 hx
   rw [List.getElem?_map, he] at hz
   cases hz
   have hp' := S' _ _ hpe
   clear hpe
   walk_at "rd*"
  intro H3 S3 h3
  have ff := b0h (p.os.map (·.1))
  have ii := a9v y (p.os.map (·.1))
  rw [List.map_map] at ff ii
  have ni : y ∉ p.os.map (·.1) := fun hm => by
   obtain ⟨x, hx, e⟩ := List.mem_map.mp hm
   exact hn x hx e
  replace h3 : H3 D = some (.lst (p.os.map (V.str ∘ fun x => x.1))) := h3
  rw [decide_eq_false ni] at ii
  clear h2
  walk_at "rd*"
  refine ⟨rfl, ?_⟩
  intro c cx H4 n4 n4' nx S4 hdx hc
  refine ⟨cx, hc, g1, g2, fun r H5 nr B5 hr5 hc5 => ?_⟩
  rw [asNew]
  refine ⟨rfl, ?_⟩
  have S05 : Same H H5 := fun z u e => B5 _ _ (fun ze => by rw [ze] at e; rw [S3 _ _ e] at n4; cases n4) (S4 _ _ (S3 _ _ e))
  have ho5 := S05 _ _ ho
  have l4o := S05 _ _ hou
  unfold stF at hc5
  clear hc hr5 h3
  walk_at "rd*"
  refine fun p7 H7 n7 S7 h7 => ?_
  have l5s := S7 _ _ l4o
  clear l4o hc5
  walk_at "rd*"
  refine ⟨by omega, ?_⟩
  rintro _ H8 ⟨rfl, B8, h8⟩
  try walk_at "rd"
  have S07 := S05.trans S7
  exact q H8 ((a4q.of S07).trans (a4q.one l5s F.n.2.2.2 B8)) ⟨dx, t, b, sd, ou, B8 _ _ (fun e => by rw [<- e, S07 _ _ ho] at l5s; cases l5s) (S07 _ _ ho), (F.same S07).m0j l5s (.tup h7 (.cons (.str _) (.cons (.int _) .nil))) h8 B8⟩
theorem k0j (T : Tx K mg A) : a1n P A.wd K mg base CX0 1 A.a4p A.b8m ["self"] (h0m A) := by
 have a0w := T.a0w
 have a0k := T.a0k
 have a0o := T.a0o
 have a0n := T.a0n
 have a0p := T.a0p
 refine T.b5m.ok g0r (fun vs H Q E h => ?_) (fun cdv A' outer s H vs Q E hr h => ?_)
 ·obtain ⟨_, rfl, _⟩ := b3h (by unfold h0m at h; exact h)
  rfl
 ·obtain ⟨o, rfl, ⟨N, p, ⟨dx, t, b, sd, ou, ho, F⟩, l1, q⟩⟩ := b3h (by unfold h0m at h; exact h)
  have hu := hr.units
  have hs : sizeLine = 16777216 := sizeLine_eq
  have ht := F.ht
  unfold ptF at ho
  refine ⟨_, (a0m (a0z (a5k b7m (by rfl) T.c3k boot_list (a0g (a2t (pvF 0) rfl) a0j)))), ?_⟩
  walk_at "rd*"
  exact fun l H1 n1 S1 h1 => q _ _ ⟨l, rfl, n1, S1, h1⟩
theorem k3h (T : Tx K mg A) : a1n P A.wd K mg base CX0 1 A.a5p A.c1o ["self"] (i5m A) := by
 have a0w := T.a0w
 have a0k := T.a0k
 have a0o := T.a0o
 have a0n := T.a0n
 have a0p := T.a0p
 refine T.b6w.ok g4l (fun vs H Q E h => ?_) (fun cdv A' outer s H vs Q E hr h => ?_)
 ·obtain ⟨_, rfl, _⟩ := b3h (by unfold i5m at h; exact h)
  rfl
 ·obtain ⟨o, rfl, ⟨N, p, ⟨dx, t, b, sd, ou, ho, F⟩, l1, q⟩⟩ := b3h (by unfold i5m at h; exact h)
  have hu := hr.units
  have hs : sizeLine = 16777216 := sizeLine_eq
  have hb := F.hb
  unfold ptF at ho
  refine ⟨_, (a0m (a0z (a5k b7m (by rfl) T.c3k boot_list (a0g (a2t (pvF 0) rfl) a0j)))), ?_⟩
  walk_at "rd*"
  exact fun l H1 n1 S1 h1 => q _ _ ⟨l, rfl, n1, S1, h1⟩
theorem k8r (T : Tx K mg A) : a1n P A.wd K mg base CX0 1 A.a6v A.c4o ["self"] (j9i A) := by
 have a0w := T.a0w
 have a0k := T.a0k
 have a0o := T.a0o
 have a0n := T.a0n
 have a0p := T.a0p
 refine T.c0q.ok g9r (fun vs H Q E h => ?_) (fun cdv A' outer s H vs Q E hr h => ?_)
 ·obtain ⟨_, rfl, _⟩ := b3h (by unfold j9i at h; exact h)
  rfl
 ·obtain ⟨o, rfl, ⟨N, p, ⟨dx, t, b, sd, ou, ho, F⟩, l1, q⟩⟩ := b3h (by unfold j9i at h; exact h)
  have hu := hr.units
  have hs : sizeLine = 16777216 := sizeLine_eq
  obtain ⟨us, hou, R2⟩ := F.ho
  have ul := R2.j6g
  unfold ptF at ho
  refine ⟨_, (a0m (a0z (a5k b7m (by rfl) T.c3k boot_list (a0g (a2t (pvF 0) rfl) a0j)))), ?_⟩
  walk_at "rd*"
  exact fun l H1 n1 S1 h1 => q l us H1 n1 S1 h1 (g0p (R2.same S1))
theorem k3i (T : Tx K mg A) : a1n P A.wd K mg base CX0 1 A.a5q A.c1p ["self"] (i5n A) := by
 have a0w := T.a0w
 have a0k := T.a0k
 have a0o := T.a0o
 have a0n := T.a0n
 have a0p := T.a0p
 refine T.b6z.ok g4m (fun vs H Q E h => ?_) (fun cdv A' outer s H vs Q E hr h => ?_)
 ·obtain ⟨_, rfl, _⟩ := b3h (by unfold i5n at h; exact h)
  rfl
 ·obtain ⟨o, rfl, ⟨N, p, ⟨dx, t, b, sd, ou, ho, F⟩, l1, l2, q⟩⟩ := b3h (by unfold i5n at h; exact h)
  have hu := hr.units
  have hs : sizeLine = 16777216 := sizeLine_eq
  obtain ⟨us, hsd, R1⟩ := F.hs
  have ul := R1.j6g
  unfold ptF at ho
  refine ⟨_, (a0m (a0z (b7z (a3o (a2t (pvF 0) rfl)) (fun _ _ _ _ _ => (a9z (a0g (a0v a3j (pvF 0) a0l (fun _ _ => rfl)) (a0g (a0v a3j (pvF 0) a0l (fun _ _ => rfl)) (a0g (a5k b7m (by rfl) T.c3k boot_list (a0g (a0v a3j (pvF 0) a0l (fun _ _ => rfl)) a0j)) a0j))))) (d3k (sc := a0h a6z) (N := ["self"]) rfl rfl (by decide +kernel)) rfl))), ?_⟩
  walk_at "rd*"
  refine ⟨⟨_, SqL.of hsd⟩, fun D H2 n2 S2 h2 => ?_⟩
  refine b3j (xs := us) (fun i ys H' => Same H H' /\ H' D = some (.lst ys) /\ RpL H' (fun a => H a = none /\ a ≠ D) ys ((p.es.take i).map dSd)) ⟨S2, h2, .nil⟩ (by omega) ?_ ?_ ?_
  ·intro i ys H' hi ⟨S', h', R'⟩
   refine ⟨h', SqL.of (S' _ _ hsd), ?_⟩
   rw [R'.j6g, List.length_take]
   omega
  ·intro i x ys H' hx ⟨S', h', R'⟩
   obtain ⟨e, pe, lw, he, rfl, hpe, _, hlw⟩ := R1.at3 hx
   have hp' := S' _ _ hpe
   have hw' := S' _ _ hlw
   have wl := l2 e (List.mem_of_getElem? he)
   clear hpe hlw h2 hx
   walk_at "rd*"
   refine fun l4 H4 n4 S4 h4 => ?_
   walk_at "rd*"
   refine fun p5 H5 n5 S5 h5 => ?_
   have S45 := S4.trans S5
   refine ⟨S45 _ _ h', fun H6 B6 h6 => ⟨(S'.trans S45).step n2 B6, h6, ?_⟩⟩
   rw [List.take_add_one, he, List.map_append]
   refine RpL.put (.snoc (R'.same S45) (.tup h5 (.cons (.str _) (.cons (.str _) (.cons (.lst ⟨S'.free n4, fun z => ?_⟩ (S5 _ _ h4) (RpL.strs _)) .nil))))) (S45 _ _ h') (fun z => z.2 rfl) B6
   rw [z, h'] at n4
   cases n4
  ·intro ys H3 ⟨S3, h3, R3⟩
   rw [ul, List.take_length] at R3
   exact q D ys H3 n2 S3 h3 R3
theorem k8s (T : Tx K mg A) : a1n P A.wd K mg base CX0 1 A.a7k A.c1q ["_law_script", "_law_k"] (j9j K) := by
 refine T.b2t.ok g4n (fun vs H Q E h => ?_) (fun cdv A' outer s H vs Q E hr h => ?_)
 ·obtain ⟨_, _, rfl, _⟩ := g4g (by unfold j9j at h; exact h)
  rfl
 ·obtain ⟨a, k, rfl, ⟨ns, hS, hk, q⟩⟩ := g4g (by unfold j9j at h; exact h)
  have hu := hr.units
  refine ⟨_, (a0i (a4j (a0y of_lt (pvF 1) (a1l j1u (by rfl) T.b8w boot_len (a0g (pvF 0) a0j)) (a1r _))
   (a0m (a0z (a0v ix_S (pvF 0) (pvF 1) (fun _ _ => rfl))))
   a1j)
   (a0m (a0z a0l))), ?_⟩
  walk_at "rd"
  refine ⟨_, hS, ?_⟩
  rw [List.length_map]
  split
  ·rename_i h
   exact ⟨_, hS, hk, h, q⟩
  ·rename_i h
   obtain ⟨j, rfl⟩ := Int.eq_ofNat_of_zero_le hk
   rw [List.getD_eq_getElem?_getD, List.getElem?_eq_none (by omega)] at q
   exact q
theorem k3j (T : Tx K mg A) : a1n P A.wd K mg base CX0 1 A.b0z A.c9t ["_law_found"] i5o := by
 refine T.b8s.ok h5w (fun vs H Q E h => ?_) (fun cdv A' outer s H vs Q E hr h => ?_)
 ·obtain ⟨_, rfl, _⟩ := k9u (by unfold i5o at h; exact h)
  rfl
 ·obtain ⟨i, rfl, q⟩ := k9u (by unfold i5o at h; exact h)
  have hu := hr.units
  refine ⟨_, (a0m (a0z (i4b (a1l (b0i .int) (by rfl) T.a1v boot_isinstance (a0g (pvF 0) (a0g (b6g (v := .ty "int") (u := .type "int") (by rfl) T.g1g rfl rfl) a0j))) (j6n (j7r (a1l (b0i .bl) (by rfl) T.a1v boot_isinstance (a0g (pvF 0) (a0g (b6g (v := .ty "bool") (u := .type "bool") (by rfl) T.g8p rfl rfl) a0j)))))))), ?_⟩
  walk_at "rd"
  exact q
theorem l4p {i : Nat} (h : i < 26) : atI (Str.ofString "abcdefghijklmnopqrstuvwxyz").cps.toList (i : Int) = some (97 + i) := by
 have e : (Str.ofString "abcdefghijklmnopqrstuvwxyz").cps.toList = List.range' 97 26 := by decide +kernel
 rw [e]
 refine b2g ?_
 rw [List.getElem?_range' h]
 simp
theorem k3k (bl : List Int) (m k n : Nat) : nmS bl m k n ++ (⟨#[nmC bl m k n]⟩ : Str) = nmS bl m k (n + 1) := by
 unfold nmS
 rw [List.range_succ, List.map_append]
 show (⟨_ ++ _⟩ : Str) = _
 rw [List.map_cons, List.map_nil]
 congr 1
 simp
theorem i6p (bl : List Int) (m k n : Nat) : (nmS bl m k n).length = n := by
 show ((List.range n).map (nmC bl m k)).toArray.size = n
 simp
theorem k8t (bl : List Int) (m k j : Nat) : 97 <= nmC bl m k j /\ nmC bl m k j <= 122 := by
 unfold nmC
 have := c8i (bl.getD j 0 + (k : Int) * (if j = m then 1 else 0)) (b := 26) (by decide)
 omega
theorem k3l {bl : List Int} {m k n : Nat} (h1 : 1 <= n) (h8 : n <= 8) : f6u (nmS bl m k n) := by
 refine ⟨by rw [i6p]; exact h8, fun e => ?_, fun c hc => ?_⟩
 ·have := i6p bl m k n
  rw [e] at this
  have z : (Str.ofString "").length = 0 := by decide +kernel
  omega
 ·have hc' : c ∈ (List.range n).map (nmC bl m k) := by simpa [nmS] using hc
  obtain ⟨j, _, rfl⟩ := List.mem_map.mp hc'
  exact k8t bl m k j
theorem l4q {bl : List Int} {m n k k' : Nat} (hm : m < n) (hk : k < k') (h9 : k' < 12) : nmS bl m k n ≠ nmS bl m k' n := fun e => by
 unfold nmS at e
 injection e with e
 have e2 : (List.range n).map (nmC bl m k) = (List.range n).map (nmC bl m k') := by
  have := congrArg Array.toList e
  simpa using this
 have e3 : ((List.range n).map (nmC bl m k))[m]? = ((List.range n).map (nmC bl m k'))[m]? := by rw [e2]
 rw [List.getElem?_map, List.getElem?_map, List.getElem?_range hm] at e3
 injection e3 with e3
 unfold nmC at e3
 rw [if_pos rfl] at e3
 have b1 := c8i (bl.getD m 0 + (k : Int) * 1) (b := 26) (by decide)
 have b2 := c8i (bl.getD m 0 + (k' : Int) * 1) (b := 26) (by decide)
 rw [Int.fmod_eq_emod_of_nonneg _ (by decide)] at e3 b1 b2
 rw [Int.fmod_eq_emod_of_nonneg _ (by decide)] at e3
 omega
theorem k3m (T : Tx K mg A) : a1n P A.wd K mg base CX0 1 A.b1g A.c9u ["_law_cell"] i5p := by
 refine T.b8t.ok a4n (fun vs H Q E h => ?_) (fun cdv A' outer s H vs Q E hr h => ?_)
 ·obtain ⟨_, rfl, _⟩ := k9u (by unfold i5p at h; exact h)
  rfl
 ·obtain ⟨c, rfl, ⟨hc, q⟩⟩ := k9u (by unfold i5p at h; exact h)
  have hu := hr.units
  have hs : sizeLine = 16777216 := sizeLine_eq
  refine ⟨_, (a0i (a1i (i := 1) a4n.nd rfl (Or.inl rfl) a3s)
   (a7z (a1i (i := 2) a4n.nd rfl (Or.inr rfl) (a2y b7w (a2y a7y (pvF 0) a0l) (a2y b0p (a2y j7q a0l a0l) a0l)))
   (a7z (i4c (i := 3) a4n.nd rfl rfl (b3i (by rfl) T.b8y (a0g (a2y b0p a0l (a2y b7w (pvF 2) a0l)) a0j)) (fun _ _ _ _ _ => (a2y b7w (a2y b7v (pvF 3) (a2y b0p (a2y a7y (pvF 0) (pvF 0)) a0l)) a0l)) (d3k (sc := a0h b0s) (N := ["_law_cell", "_law_letters", "_law_mixed", "_law_base", "_law_at", "_law_names_here", "_law_k", "_law_name", "_law_j"]) rfl rfl (by decide +kernel)) rfl)
   (a7z (a1i (i := 4) a4n.nd rfl (Or.inl rfl) (a2y b7w (a2y b7v (pvF 2) a0l) (a1l a3p (by rfl) T.b8w boot_len (a0g (pvF 3) a0j))))
   (a0i (a1i (i := 5) a4n.nd rfl (Or.inl rfl) (a2j a0j))
   (a0i (a7w PassesOwn.never rfl (b3i (by rfl) T.b8y (a0g a0l a0j)) (a3v (i := 6) a4n.nd rfl (Or.inl rfl))
   (a0i (a1i (i := 7) a4n.nd rfl (Or.inl rfl) a3s)
   (a0i (a7w PassesOwn.never rfl (b3i (by rfl) T.b8y (a0g (a1l a3p (by rfl) T.b8w boot_len (a0g (pvF 3) a0j)) a0j)) (a3v (i := 8) a4n.nd rfl (Or.inl rfl))
   (a0m (a1i (i := 7) a4n.nd rfl (Or.inl rfl) (a2y b0p (pvF 7) (a0v a3j (pvF 1) (a2y b7w (a2y b0p (a0v a3j (pvF 3) (pvF 8) (fun _ _ => rfl)) (a2y a7y (pvF 6) (a5k c8r (by rfl) T.g1g boot_int (a0g (b6i (b7u hu) (pvF 8) (pvF 4) (a1r _)) a0j)))) a0l) (fun _ _ => rfl))))))
   (a0m (a3n (a7o a4m PySem.F.plainAttrs_list PySem.F.slot_list_append PySem.F.type_list_append a2s (pvF 5) (a0g (pvF 7) a0j)))))))
   (a0m (a0z (pvF 5))))))))), ?_⟩
  walk_at "rd"
  have fM := c8i (c * 618033988749894848204587) (b := 1000000000000000000000007) (by decide)
  obtain ⟨Mid1, in1, out1⟩ := i4d (fun σ' H' => ∃ M : Int, σ' = [some (.int c), some (.str (Str.ofString "abcdefghijklmnopqrstuvwxyz")), some (.int M), none, none, none, none, none, none] ∧ H' = H)
  refine ⟨Mid1, ?_, ?_⟩
  ·walk_at "rd"
   exact ⟨by walk_at "mul", by decide, in1 _ _ ⟨_, rfl, rfl⟩⟩
  intro σ1 H1 hm1
  obtain ⟨M, rfl, rfl⟩ := out1 _ _ hm1
  clear hm1 in1 out1 fM
  have f8 := c8i M (b := 8) (by decide)
  obtain ⟨Mid2, in2, out2⟩ := i4d (fun σ' H' => ∃ (D : Addr) (bl : List Int), σ' = [some (.int c), some (.str (Str.ofString "abcdefghijklmnopqrstuvwxyz")), some (.int M), some (.ref D), none, none, none, none, none] ∧ Same H1 H' ∧ H' D = some (.lst (bl.map V.int)) ∧ 1 ≤ bl.length ∧ bl.length ≤ 8)
  refine ⟨Mid2, ?_, ?_⟩
  ·walk_at "rd"
   refine ⟨by omega, by omega, fun D H2 n2 S2 h2 => ?_⟩
   obtain ⟨nn, en⟩ : ∃ nn : Nat, (1 + M.fmod 8).toNat = nn := ⟨_, rfl⟩
   rw [en]
   refine d4u (fun i ys H' => Same H1 H' /\ H' D = some (.lst ys) /\ ∃ bl : List Int, ys = bl.map V.int /\ bl.length = i) ⟨S2, h2, [], rfl, rfl⟩ (by omega) ?_ ?_ ?_
   ·intro i ys H' hi ⟨S', h', bl, e, el⟩
    exact ⟨h', by rw [e, List.length_map, el]⟩
   ·intro i ys H' hi ⟨S', h', bl, e, el⟩
    have ii : i * i <= 7 * 7 := Nat.mul_le_mul (by omega) (by omega)
    have ii' : (i : Int) * (i : Int) = ((i * i : Nat) : Int) := by rw [Int.natCast_mul]
    rw [Int.zero_add]
    walk_at "rd"
    rw [ii']
    refine ⟨IntMulOk.of_left (intBits_le_64 (by omega) (by omega)), ⟨by omega, Nat.le_trans (intBits_le_64 (by omega) (by omega)) (by decide)⟩, h', fun H4 B4 h4 => ⟨S'.step n2 B4, h4, bl ++ [_], by rw [e, List.map_append]; rfl, by rw [List.length_append, el]; rfl⟩⟩
   ·intro ys H3 ⟨S3, h3, bl, e, el⟩
    subst e
    try walk_at "rd"
    exact in2 _ _ ⟨D, bl, rfl, S3, h3, by omega, by omega⟩
  intro σ2 H2 hm2
  obtain ⟨D, bl, rfl, S2, hD, l1, l8⟩ := out2 _ _ hm2
  clear hm2 in2 out2 f8
  obtain ⟨Mid3, in3, out3⟩ := i4d (fun σ' H' => ∃ m : Nat, σ' = [some (.int c), some (.str (Str.ofString "abcdefghijklmnopqrstuvwxyz")), some (.int M), some (.ref D), some (.int m), none, none, none, none] ∧ H' = H2 ∧ m < bl.length)
  have fb := c8i (M.fdiv 1000) (b := (bl.length : Int)) (by omega)
  refine ⟨Mid3, ?_, ?_⟩
  ·walk_at "rd*"
   exact ⟨⟨by decide, by decide⟩, by omega, in3 _ _ ⟨((M.fdiv 1000).fmod (bl.length : Int)).toNat, by rw [Int.toNat_of_nonneg fb.1], rfl, by omega⟩⟩
  intro σ3 H3 hm3
  obtain ⟨m, rfl, rfl, ml⟩ := out3 _ _ hm3
  clear hm3 in3 out3 fb
  walk_at "rd"
  refine ⟨by omega, fun l H4 n4 S4 h4 => ?_⟩
  walk_at "rd"
  obtain ⟨Pv, pin, pout⟩ := d3l (fun k σ H' => ∃ v6 v7 v8 : Option V, σ = [some (.int c), some (.str (Str.ofString "abcdefghijklmnopqrstuvwxyz")), some (.int M), some (.ref D), some (.int m), some (.ref l), v6, v7, v8] ∧ Same H3 H' ∧ H' l = some (.lst (((List.range k).map fun k => nmS bl m k bl.length).map V.str)))
  refine d2v (n := 12) Pv (pin _ _ _ ⟨_, _, _, rfl, S4, h4⟩) ?_ ?_
  ·intro k σ H5 hk hp
   obtain ⟨v6, v7, v8, rfl, S5, h5⟩ := pout _ _ _ hp
   have hD5 := S5 _ _ hD
   rw [Int.zero_add]
   walk_at "rd*"
   refine ⟨by omega, by omega, ?_⟩
   rw [Int.toNat_natCast]
   obtain ⟨Pw, win, wout⟩ := d3l (fun j σ H' => ∃ v8 : Option V, σ = [some (.int c), some (.str (Str.ofString "abcdefghijklmnopqrstuvwxyz")), some (.int M), some (.ref D), some (.int m), some (.ref l), some (.int k), some (.str (nmS bl m k j)), v8] ∧ H' = H5)
   have e0 : Str.ofString "" = nmS bl m k 0 := by
    show Str.ofString "" = ⟨#[]⟩
    decide +kernel
   refine d2v (n := bl.length) Pw (win _ _ _ ⟨_, by rw [<- e0], rfl⟩) ?_ ?_
   ·intro j σ H6 hj hp
    obtain ⟨v8', rfl, rfl⟩ := wout _ _ _ hp
    have at' := j7w (ns := bl) (i := j) hj
    have nl := i6p bl m k j
    rw [Int.zero_add]
    clear hp
    walk_at "rd*"
    have ei : (if (j : Int) = (m : Int) then (1 : Int) else 0) = if j = m then 1 else 0 := by
     by_cases h : j = m
     ·rw [if_pos h, if_pos (by omega)]
     ·rw [if_neg h, if_neg (by omega)]
    rw [ei]
    have fb := c8i (bl.getD j 0 + (k : Int) * (if j = m then 1 else 0)) (b := 26) (by decide)
    obtain ⟨x, ex⟩ : ∃ x : Nat, (bl.getD j 0 + (k : Int) * (if j = m then 1 else 0)).fmod 26 = x := ⟨((bl.getD j 0 + (k : Int) * (if j = m then 1 else 0)).fmod 26).toNat, by omega⟩
    have ec : nmC bl m k j = 97 + x := by
     unfold nmC
     rw [ex, Int.toNat_natCast]
    rw [ex] at fb ⊢
    have ll : (Str.ofString "abcdefghijklmnopqrstuvwxyz").length = 26 := by decide +kernel
    exact ⟨IntMulOk.of_left (intBits_le_64 (by omega) (by omega)), by omega, _, l4p (by omega), by show j + 1 <= _; omega, win _ _ _ ⟨_, by rw [<- ec, k3k], rfl⟩⟩
   ·intro σ H6 hp
    obtain ⟨v8', rfl, rfl⟩ := wout _ _ _ hp
    walk_at "rd*"
    refine ⟨by rw [List.length_range]; omega, ?_⟩
    rintro _ H7 ⟨rfl, B7, h7⟩
    refine pin _ _ _ ⟨_, _, _, rfl, S5.step n4 B7, ?_⟩
    rw [h7, List.range_succ, List.map_append (l₁ := List.range k), List.map_append]
    rfl
  ·intro σ H5 hp
   obtain ⟨v6, v7, v8, rfl, S5, h5⟩ := pout _ _ _ hp
   walk_at "rd"
   refine q _ l H5 (by simp) ?_ (fun z hz => ?_) (S2.free n4) (S2.trans S5) h5
   ·rw [List.Nodup, List.pairwise_map]
    exact List.Pairwise.imp_of_mem (fun {a b} ha hb hab => l4q ml hab (List.mem_range.mp hb)) List.pairwise_lt_range
   ·obtain ⟨k, _, rfl⟩ := List.mem_map.mp hz
    exact k3l l1 l8
theorem k3n (T : Tx K mg A) : a1n P A.wd K mg base CX0 1 A.b1j A.c9y ["_law_sends", "_law_first", "_law_last"] i5s := by
 refine T.b8v.ok b1u (fun vs H Q E h => ?_) (fun cdv A' outer s H vs Q E hr h => ?_)
 ·obtain ⟨_, _, _, rfl, _⟩ := j0x (by unfold i5s at h; exact h)
  rfl
 ·obtain ⟨l, x, y, rfl, ⟨N, us, es, hl, R, e100, q⟩⟩ := j0x (by unfold i5s at h; exact h)
  have hu := hr.units
  have hs : sizeLine = 16777216 := sizeLine_eq
  have el := R.j6g
  have pl : (prs es).length = es.length := by rw [prs, List.length_map]
  refine ⟨_, (a0i (a1i (i := 3) b1u.nd rfl (Or.inl rfl) (a2j (a0g (pvF 1) a0j)))
   (a0i (a7w PassesOwn.never rfl (b3i (by rfl) T.b8y (a0g (a2y b0p (a1l a3p (by rfl) T.b8w boot_len (a0g (pvF 0) a0j)) a0l) a0j)) (a3v (i := 4) b1u.nd rfl (Or.inl rfl))
   (a0m (a7w PassesOwn.never rfl (a3o (pvF 0)) (g9j (n := 3) rfl (b2k (a3v (i := 5) b1u.nd rfl (Or.inl rfl)) (b2k (a3v (i := 6) b1u.nd rfl (Or.inl rfl)) (b2k (a3v (i := 7) b1u.nd rfl (Or.inl rfl)) f9u))))
   (a0m (a4j (pw_and (a0y g8g (pvF 5) (pvF 3) (by rfl)) (pw_and1 (a0y b5r (pvF 6) (pvF 3) (by rfl)))).pt
   (a0m (a3n (a7o a4m PySem.F.plainAttrs_list PySem.F.slot_list_append PySem.F.type_list_append a2s (pvF 3) (a0g (pvF 6) a0j))))
   a1j)))))
   (a0m (a0z (b6i g8g (pvF 2) (pvF 3) (by rfl)))))), ?_⟩
  walk_at "rd"
  refine ⟨by omega, fun D H1 n1 S1 h1 => ?_⟩
  have hl1 := S1 _ _ hl
  walk_at "rd*"
  refine ⟨by omega, by omega, ?_⟩
  rw [show ((es.length : Int) + 1).toNat = es.length + 1 by omega]
  have c0 : cnt (prs es) [x] <= (prs es).length := List.length_filter_le _ _
  obtain ⟨Pv, pin, pout⟩ := d3l (fun k σ H' => ∃ (rs : List Str) (v4 v5 v6 v7 : Option V), σ = [some (.ref l), some (.str x), some (.str y), some (.ref D), v4, v5, v6, v7] /\ Same H H' /\ H' D = some (.lst (rs.map V.str)) /\ x ∈ rs /\ rs.length + cnt (prs es) rs <= es.length + 1 /\ (Cls (prs es) rs \/ cnt (prs es) rs + k <= es.length))
  refine d2v (n := es.length + 1) Pv (pin _ _ _ ⟨[x], _, _, _, _, rfl, S1, h1, List.mem_cons_self, by rw [List.length_singleton]; omega, .inr (by omega)⟩) ?_ ?_
  ·intro k σ H2 hk hp
   obtain ⟨rs, v4, v5, v6, v7, rfl, S2, hD, xr, rc, cl⟩ := pout _ _ _ hp
   clear hp h1 hl1
   have hl2 := S2 _ _ hl
   walk_at "rd*"
   refine ⟨⟨_, SqL.of hl2⟩, ?_⟩
   obtain ⟨Pw, win, wout⟩ := d3l (fun j σ H' => ∃ (r2 : List Str) (v5 v6 v7 : Option V), σ = [some (.ref l), some (.str x), some (.str y), some (.ref D), some (.int (k : Int)), v5, v6, v7] /\ Same H H' /\ H' D = some (.lst (r2.map V.str)) /\ x ∈ r2 /\ r2.length + cnt (prs es) r2 <= es.length + 1 /\ (Cls (prs es) rs -> r2 = rs) /\ ((r2 = rs /\ ∀ (i : Nat) e, i < j -> es[i]? = some e -> e.1 ∈ rs -> e.2.1 ∈ rs) \/ cnt (prs es) r2 + 1 <= cnt (prs es) rs))
   refine b0g (xs := us) Pw (win _ _ _ ⟨rs, _, _, _, rfl, S2, hD, xr, rc, fun _ => rfl, .inl ⟨rfl, fun i e hi => absurd hi (Nat.not_lt_zero _)⟩⟩) ?_ ?_ ?_
   ·intro i σ H3 hi hp
    obtain ⟨r2, v5', v6', v7', rfl, S3, _⟩ := wout _ _ _ hp
    exact SqL.of (S3 _ _ hl)
   ·intro i v σ H3 hv hp
    obtain ⟨r2, v5', v6', v7', rfl, S3, hD3, xr3, rc3, k3, cl3⟩ := wout _ _ _ hp
    obtain ⟨e, pe, lw, he, rfl, hpe, _, _⟩ := R.at3 hv
    have hp3 := S3 _ _ hpe
    have fl := b0h r2
    have i1 := a9v e.1 r2
    have i2 := a9v e.2.1 r2
    have me : (e.1, e.2.1) ∈ prs es := List.mem_map.mpr ⟨e, List.mem_of_getElem? he, rfl⟩
    have rl : r2.length <= 101 := by omega
    clear hv hp hD hl2 hpe
    walk_at "rd*"
    have stay : (e.1 ∈ r2 -> e.2.1 ∈ r2) -> Pw (i + 1) [some (V.ref l), some (V.str x), some (V.str y), some (V.ref D), some (V.int k), some (V.str e.1), some (V.str e.2.1), some (V.ref lw)] H3 := fun hin => win _ _ _ ⟨r2, _, _, _, rfl, S3, hD3, xr3, rc3, k3, cl3.imp (fun ⟨z, c⟩ => ⟨z, fun j f hj hf h1 => by
     rcases Nat.lt_or_ge j i with a | a
     ·exact c j f a hf h1
     ·obtain rfl : j = i := by omega
      rw [he] at hf
      cases hf
      rw [<- z] at h1 ⊢
      exact hin h1⟩) id⟩
    refine ⟨rfl, ?_⟩
    split
    ·rename_i h1
     refine ⟨rfl, ?_⟩
     split
     ·rename_i h2
      refine ⟨by omega, ?_⟩
      rintro _ H4 ⟨rfl, B4, h4⟩
      have clt : cnt (prs es) (r2 ++ [e.2.1]) < cnt (prs es) r2 := k5o me h2
      have ll : (r2 ++ [e.2.1]).length = r2.length + 1 := List.length_append
      refine win _ _ _ ⟨r2 ++ [e.2.1], _, _, _, rfl, S3.step n1 B4, by rw [h4, List.map_append]; rfl, List.mem_append_left _ xr3, by omega, fun z => absurd (z _ _ (by rw [<- k3 z]; exact h1) me) (by rw [<- k3 z]; exact h2), .inr ?_⟩
      rcases cl3 with ⟨rfl, _⟩ | c <;> omega
     ·rename_i h2
      exact stay fun _ => Classical.not_not.mp h2
    ·rename_i h1
     exact stay fun z => absurd z h1
   ·intro σ H3 hp
    obtain ⟨r2, v5', v6', v7', rfl, S3, hD3, xr3, rc3, k3, cl3⟩ := wout _ _ _ hp
    rw [el] at cl3
    refine pin _ _ _ ⟨r2, _, _, _, _, rfl, S3, hD3, xr3, rc3, ?_⟩
    rcases cl with z | z
    ·rw [k3 z]
     exact .inl z
    ·rcases cl3 with ⟨rfl, c⟩ | c
     ·refine .inl fun u v hu hv => ?_
      obtain ⟨e, he, ee⟩ := List.mem_map.mp hv
      cases ee
      obtain ⟨j, hj, ej⟩ := List.getElem_of_mem he
      exact c j e hj (by rw [List.getElem?_eq_getElem hj, ej]) hu
     ·exact .inr (by omega)
  ·intro σ H2 hp
   obtain ⟨rs, v4, v5, v6, v7, rfl, S2, hD, xr, rc, cl⟩ := pout _ _ _ hp
   have iv := a9v y rs
   have fl := b0h rs
   clear h1 hl1
   walk_at "rd*"
   refine ⟨rfl, q _ H2 (fun hf hr => ?_) S2⟩
   have cc : Cls (prs es) rs := cl.resolve_right (by omega)
   exact absurd (hr (· ∈ rs) xr fun u v hu hv => cc u v hu hv) (of_decide_eq_false hf)
theorem k3o (T : Tx K mg A) : a1n P A.wd K mg base CX0 2 A.b1i A.c9w ["_law_told"] i5r := by
 have i6q : a1n P A.wd K mg base CX0 1 _ _ _ _ := k3j T
 refine T.b8u.ok b9z (fun vs H Q E h => ?_) (fun cdv A' outer s H vs Q E hr h => ?_)
 ·obtain ⟨_, rfl, _⟩ := b3h (by unfold i5r at h; exact h)
  rfl
 ·obtain ⟨L, rfl, ⟨N, p, hQ, hp, q⟩⟩ := b3h (by unfold i5r at h; exact h)
  have hu := hr.units
  have hs : sizeLine = 16777216 := sizeLine_eq
  have h7b : a2z 1 _ := hr.mono (by decide)
  obtain ⟨t, b, sd, ou, hL, nL, F⟩ := hQ
  obtain ⟨n, d, ht, hb, ⟨us, hsd, R1⟩, vs, hou, R2⟩ := F
  refine ⟨_, (a0i (a7w PassesOwn.never rfl (a3o (pvF 0)) (a3v (i := 1) b9z.nd rfl (Or.inl rfl))
   (a0m (a4j (b2z (a4y (a1l (b0i .lst) (by rfl) T.a1v boot_isinstance (a0g (pvF 1) (a0g (b6g (v := .ty "list") (u := .type "list") (by rfl) T.c3k rfl rfl) a0j)))))
   (a0m (a0z d4s))
   a1j)))
   (a0i (a7w PassesOwn.never rfl (a3o (a0v a3j (pvF 0) a0l (fun _ _ => rfl))) (a3v (i := 2) b9z.nd rfl (Or.inl rfl))
   (a0m (a4j (pw_or (b2z (a4y (a1l (b0i .tup) (by rfl) T.a1v boot_isinstance (a0g (pvF 2) (a0g (b6g (v := .ty "tuple") (u := .type "tuple") (by rfl) T.c5p rfl rfl) a0j))))) (pw_or (a0y (b3g hu) (a1l a3p (by rfl) T.b8w boot_len (a0g (pvF 2) a0j)) a0l (a1r _)) (pw_or1 (b2z (a4y (a1l (b0i .lst) (by rfl) T.a1v boot_isinstance (a0g (a0v a3j (pvF 2) a0l (fun _ _ => rfl)) (a0g (b6g (v := .ty "list") (u := .type "list") (by rfl) T.c3k rfl rfl) a0j)))))))).pt
   (a0m (a0z d4s))
   a1j)))
   (a0i (a7w PassesOwn.never rfl (a3o (a0v a3j (pvF 0) a0l (fun _ _ => rfl))) (a3v (i := 3) b9z.nd rfl (Or.inl rfl))
   (a0m (a4j (pw_or (b2z (a4y (a1l (b0i .tup) (by rfl) T.a1v boot_isinstance (a0g (pvF 3) (a0g (b6g (v := .ty "tuple") (u := .type "tuple") (by rfl) T.c5p rfl rfl) a0j))))) (pw_or (a0y (b3g hu) (a1l a3p (by rfl) T.b8w boot_len (a0g (pvF 3) a0j)) a0l (a1r _)) (pw_or1 (b2z (a4y (a0u i6q h7b (by rfl) T.i4x T.b8s.kp T.d6k .nil a1g (a0g (a0v a3j (pvF 3) a0l (fun _ _ => rfl)) a0j))))))).pt
   (a0m (a0z d4s))
   a1j)))
   (a0m (a0z d4s))))), ?_⟩
  walk_at "rd*"
  refine ⟨⟨_, SqL.of hL⟩, ?_⟩
  have al : ∀ (i : Nat) v, [V.ref t, .ref b, .ref sd, .ref ou][i]? = some v -> ∃ a ys, v = .ref a /\ H a = some (.lst ys) := fun i v hv => by
   match i, hv with
   | 0, hv => cases hv; exact ⟨_, _, rfl, ht⟩
   | 1, hv => cases hv; exact ⟨_, _, rfl, hb⟩
   | 2, hv => cases hv; exact ⟨_, _, rfl, hsd⟩
   | 3, hv => cases hv; exact ⟨_, _, rfl, hou⟩
  obtain ⟨Pv, pin, pout⟩ := d3l (fun i σ H' => ∃ v1 : Option V, σ = [some (.ref L), v1, none, none] /\ H = H')
  refine b0g (xs := [.ref t, .ref b, .ref sd, .ref ou]) Pv (pin _ _ _ ⟨_, rfl, rfl⟩) (fun i σ H' hi hp => ?_) (fun i v σ H' hv hp => ?_) (fun σ H' hp => ?_)
  ·obtain ⟨v1, rfl, rfl⟩ := pout _ _ _ hp
   exact SqL.of hL
  ·obtain ⟨v1, rfl, rfl⟩ := pout _ _ _ hp
   obtain ⟨a, ys, rfl, ha⟩ := al i v hv
   clear hv hp ht hb hsd hou hL al
   walk_at "rd*"
   exact pin _ _ _ ⟨_, rfl, rfl⟩
  clear al
  obtain ⟨v1, rfl, rfl⟩ := pout _ _ _ hp
  clear hp pin pout Pv
  walk_at "rd*"
  refine ⟨⟨_, SqL.of hsd⟩, ?_⟩
  obtain ⟨Pv, pin, pout⟩ := d3l (fun i σ H' => ∃ v2 : Option V, σ = [some (.ref L), v1, v2, none] /\ H = H')
  refine b0g (xs := us) Pv (pin _ _ _ ⟨_, rfl, rfl⟩) (fun i σ H' hi hp => ?_) (fun i v σ H' hv hp => ?_) (fun σ H' hp => ?_)
  ·obtain ⟨v2, rfl, rfl⟩ := pout _ _ _ hp
   exact SqL.of hsd
  ·obtain ⟨v2, rfl, rfl⟩ := pout _ _ _ hp
   obtain ⟨e, pe, lw, he, rfl, hpe, _, hlw⟩ := R1.at3 hv
   clear hv hp ht hb hsd hou hL
   walk_at "rd*"
   exact pin _ _ _ ⟨_, rfl, rfl⟩
  obtain ⟨v2, rfl, rfl⟩ := pout _ _ _ hp
  clear hp pin pout Pv
  walk_at "rd*"
  refine ⟨⟨_, SqL.of hou⟩, ?_⟩
  obtain ⟨Pv, pin, pout⟩ := d3l (fun i σ H' => ∃ v3 : Option V, σ = [some (.ref L), v1, v2, v3] /\ H = H')
  refine b0g (xs := vs) Pv (pin _ _ _ ⟨_, rfl, rfl⟩) (fun i σ H' hi hp => ?_) (fun i v σ H' hv hp => ?_) (fun σ H' hp => ?_)
  ·obtain ⟨v3, rfl, rfl⟩ := pout _ _ _ hp
   exact SqL.of hou
  ·obtain ⟨v3, rfl, rfl⟩ := pout _ _ _ hp
   obtain ⟨x, px, hx, rfl, hpx⟩ := R2.at2 hv
   clear hv hp ht hb hsd hou hL
   walk_at "rd*"
   exact pin _ _ _ ⟨_, rfl, rfl⟩
  obtain ⟨v3, rfl, rfl⟩ := pout _ _ _ hp
  clear hp pin pout Pv
  walk_at "rd*"
  exact q _ (Same.refl _)
theorem k3p (T : Tx K mg A) : a1n P A.wd K mg base CX0 2 A.b1h A.c9v ["_law_patch", "_law_turn"] (i5q A) := by
 have d3y : a1n P A.wd K mg base CX0 1 _ _ _ _ := k0j T
 have f1n : a1n P A.wd K mg base CX0 1 _ _ _ _ := k3h T
 have f1o : a1n P A.wd K mg base CX0 1 _ _ _ _ := k3i T
 have f6w : a1n P A.wd K mg base CX0 1 _ _ _ _ := k8r T
 have a0w := T.a0w
 have a0k := T.a0k
 have a0o := T.a0o
 have a0n := T.a0n
 have a0p := T.a0p
 refine T.a8y.ok b9y (fun vs H Q E h => ?_) (fun cdv A' outer s H vs Q E hr h => ?_)
 ·obtain ⟨_, _, rfl, _⟩ := l3j (by unfold i5q at h; exact h)
  rfl
 ·obtain ⟨o, r, rfl, ⟨N, p, hP, hp, q⟩⟩ := l3j (by unfold i5q at h; exact h)
  have hu := hr.units
  have hs : sizeLine = 16777216 := sizeLine_eq
  have d0u : a2z 1 _ := hr.mono (by decide)
  have d3z : a2z 1 _ := hr.mono (by decide)
  have d4g : a2z 1 _ := hr.mono (by decide)
  have f1p : a2z 1 _ := hr.mono (by decide)
  obtain ⟨p1, p2, p3, p4, p5⟩ := hp
  obtain ⟨dx, t0, b0, sd0, ou0, ho, F⟩ := id hP
  unfold ptF at ho
  refine ⟨_, (a0i (a4j (a4y (pvF 1))
   (a0i (a1i (i := 2) b9y.nd rfl (Or.inl rfl) (a2u (pvF 0) T.a0w T.f1m f6w f1p T.c0r .nil a1g))
   (a0i (a1i (i := 3) b9y.nd rfl (Or.inl rfl) (a2u (pvF 0) T.a0w T.d3w f1o d4g T.b7g .nil a1g))
   (a0m (a0z (a2j (a0g (a2u (pvF 0) T.a0w T.d0s d3y d0u T.b5n .nil a1g) (a0g (a2u (pvF 0) T.a0w T.d3v f1n d3z T.b6y .nil a1g) (a0g (pvF 3) (a0g (pvF 2) a0j)))))))))
   a1j)
   (a0i (a1i (i := 4) b9y.nd rfl (Or.inl rfl) (a2u (pvF 0) T.a0w T.d3v f1n d3z T.b6y .nil a1g))
   (a0m (a0z (a2j (a0g (a2u (pvF 0) T.a0w T.d0s d3y d0u T.b5n .nil a1g) (a0g (pvF 4) (a0g (a2u (pvF 0) T.a0w T.d3w f1o d4g T.b7g .nil a1g) (a0g (a2u (pvF 0) T.a0w T.f1m f6w f1p T.c0r .nil a1g) a0j))))))))), ?_⟩
  have ap : ∀ {H1 : Hp} {z y : Addr} {u : HO}, H1 z = none -> H1 y = some u -> y ≠ z := fun n e q => by rw [<- q, e] at n; cases n
  have lv : ∀ {H1 : Hp} {z y : Addr}, H1 z ≠ none -> H1 y = none -> z ≠ y := fun n e q => n (by rw [q]; exact e)
  cases r with
  | true =>
   walk_at "rd*"
   refine ⟨N, p, hP, p4, fun l1 us1 H1 n1 S1 h1 R1 => ?_⟩
   have ho1 := S1 _ _ ho
   clear ho
   walk_at "rd*"
   refine ⟨N, p, hP.same S1, p3, p5, fun l2 us2 H2 n2 S2 h2 R2 => ?_⟩
   have ho2 := S2 _ _ ho1
   have S02 := S1.trans S2
   clear ho1
   walk_at "rd*"
   refine ⟨N, p, hP.same S02, p1, ?_⟩
   rintro _ H3 ⟨l3, rfl, n3, S3, h3⟩
   have ho3 := S3 _ _ ho2
   have S03 := S02.trans S3
   clear ho2
   walk_at "rd*"
   refine ⟨N, p, hP.same S03, p2, ?_⟩
   rintro _ H4 ⟨l4, rfl, n4, S4, h4⟩
   have S04 := S03.trans S4
   walk_at "rd*"
   intro L H5 n5 S5 h5
   have S05 := S04.trans S5
   have S25 := S3.trans (S4.trans S5)
   refine q L H5 S05 ⟨l3, l4, l2, l1, h5, S04.free n5, ⟨⟨S02.free n3, ap n5 (S4 _ _ h3)⟩, ⟨S03.free n4, ap n5 h4⟩, ⟨S1.free n2, ap n5 (S4 _ _ (S3 _ _ h2))⟩, n1, ap n5 (S4 _ _ (S3 _ _ (S2 _ _ h1)))⟩, ⟨ap n4 h3, (ap n3 h2).symm, (ap n3 (S2 _ _ h1)).symm, (ap n4 (S3 _ _ h2)).symm, (ap n4 (S3 _ _ (S2 _ _ h1))).symm, (ap n2 h1).symm⟩, S5 _ _ (S4 _ _ h3), S5 _ _ h4, ⟨us2, S25 _ _ h2, ?_⟩, us1, S25 _ _ (S2 _ _ h1), g0p (R1.same (S2.trans S25))⟩
   refine (R2.mono (M := Nw (fun a => H a = none /\ a ≠ L) l3 l4 l2 l1) fun z hz e => ?_).same S25
   exact ⟨⟨S1.free hz.1, lv e ((S3.trans S4).free n5)⟩, lv e n3, lv e (S3.free n4), hz.2, fun q => by rw [q, h1] at hz; cases hz.1⟩
  | false =>
   walk_at "rd*"
   refine ⟨N, p, hP, p2, ?_⟩
   rintro _ H1 ⟨l1, rfl, n1, S1, h1⟩
   have ho1 := S1 _ _ ho
   clear ho
   walk_at "rd*"
   refine ⟨N, p, hP.same S1, p1, ?_⟩
   rintro _ H2 ⟨l2, rfl, n2, S2, h2⟩
   have ho2 := S2 _ _ ho1
   have S02 := S1.trans S2
   clear ho1
   walk_at "rd*"
   refine ⟨N, p, hP.same S02, p3, p5, fun l3 us3 H3 n3 S3 h3 R3 => ?_⟩
   have ho3 := S3 _ _ ho2
   have S03 := S02.trans S3
   clear ho2
   walk_at "rd*"
   refine ⟨N, p, hP.same S03, p4, fun l4 us4 H4 n4 S4 h4 R4 => ?_⟩
   have S04 := S03.trans S4
   try walk_at "rd*"
   intro L H5 n5 S5 h5
   have S05 := S04.trans S5
   have S35 := S4.trans S5
   refine q L H5 S05 ⟨l2, l1, l3, l4, h5, S04.free n5, ⟨⟨S1.free n2, ap n5 (S4 _ _ (S3 _ _ h2))⟩, ⟨n1, ap n5 (S4 _ _ (S3 _ _ (S2 _ _ h1)))⟩, ⟨S02.free n3, ap n5 (S4 _ _ h3)⟩, S03.free n4, ap n5 h4⟩, ⟨(ap n2 h1).symm, ap n3 h2, ap n4 (S3 _ _ h2), ap n3 (S2 _ _ h1), ap n4 (S3 _ _ (S2 _ _ h1)), ap n4 h3⟩, S35 _ _ (S3 _ _ h2), S35 _ _ (S3 _ _ (S2 _ _ h1)), ⟨us3, S35 _ _ h3, ?_⟩, us4, S5 _ _ h4, g0p (R4.same S5)⟩
   refine (R3.mono (M := Nw (fun a => H a = none /\ a ≠ L) l2 l1 l3 l4) fun z hz e => ?_).same S35
   exact ⟨⟨S02.free hz.1, lv e (S4.free n5)⟩, (fun q => by rw [q, h2] at hz; cases hz.1), (fun q => by rw [q, S2 _ _ h1] at hz; cases hz.1), hz.2, lv e n4⟩
theorem k3q : wds.map (fun d => V.str d.word) = [.str "gain:1/2", .str "delay:3", .str "echo:-1/3:2:2", .str "back:2/1:1", .str "hall:1/2:4", .str "swell:0=1/1", .str "delay:0", .str "gain:0/1"] := by decide +kernel
theorem l4r : ∀ d ∈ wds, d.ok := by
 intro d hd
 have y1 : YOk (mkRat 1 2) := ⟨by decide +kernel, by decide +kernel⟩
 have y2 : YOk (mkRat (-1) 3) := ⟨by decide +kernel, by decide +kernel⟩
 simp only [wds, List.mem_cons, List.mem_nil_iff, or_false] at hd
 rcases hd with rfl | rfl | rfl | rfl | rfl | rfl | rfl | rfl
 ·exact y1
 ·exact (by decide : 3 <= 1000)
 ·exact ⟨y2, by decide, by decide, by decide⟩
 ·exact ⟨⟨by decide +kernel, by decide +kernel⟩, by decide, by decide⟩
 ·exact ⟨y1, by decide +kernel, by decide, by decide⟩
 ·refine ⟨fun c hc => ?_, fun i c d _ h => ?_, by decide, by decide⟩
  ·obtain rfl := List.mem_singleton.mp hc
   exact ⟨by decide, by decide, by decide +kernel, by decide +kernel⟩
  ·simp at h
 ·exact (by decide : 0 <= 1000)
 ·exact ⟨by decide +kernel, by decide +kernel⟩
theorem l4s : ∀ d ∈ wds, PyData.strOk d.word = true := by
 intro d hd
 have h : ((wds.map Dt.word).all fun s => PyData.strOk s) = true := by decide +kernel
 exact (List.all_eq_true.mp h) _ (List.mem_map_of_mem hd)
theorem k3r (T : Tx K mg A) : a1n P A.wd K mg base CX0 13 A.b4r A.d5p ["_law_patch", "_law_due", "_law_mixed"] (i5t A) := by
 have h7c : a1n P A.wd K mg base CX0 12 _ _ _ _ := k8q T
 have i6r : a1n P A.wd K mg base CX0 1 _ _ _ _ := k3n T
 have a0w := T.a0w
 have a0k := T.a0k
 have a0o := T.a0o
 have a0n := T.a0n
 have a0p := T.a0p
 refine T.c3i.ok b0t (fun vs H Q E h => ?_) (fun cdv A' outer s H vs Q E hr h => ?_)
 ·obtain ⟨_, _, _, rfl, _⟩ := g8j (by unfold i5t at h; exact h)
  rfl
 ·obtain ⟨o, L, m, rfl, ⟨c, p, n, hJ, nb, n50, q⟩⟩ := g8j (by unfold i5t at h; exact h)
  have hu := hr.units
  have hs : sizeLine = 16777216 := sizeLine_eq
  have h0z : a2z 12 _ := hr.mono (by decide)
  have h7d : a2z 1 _ := hr.mono (by decide)
  obtain ⟨hP, hQ, ok, p1, p2, p3, p4, p5⟩ := id hJ
  obtain ⟨t, b, sd, ou, hL, nL, F⟩ := id hQ
  have ht := F.ht
  have hb := F.hb
  obtain ⟨us, hsd, R1⟩ := F.hs
  have ul := R1.j6g
  have bl : 0 < p.bs.length := List.length_pos_iff.mpr nb
  refine ⟨_, (a7z (a1i (i := 3) b0t.nd rfl (Or.inr rfl) (a2j (a0g a3s (a0g a3s (a0g a3s (a0g a3s (a0g a3s (a0g a3s (a0g a3s (a0g a3s a0j))))))))))
   (a0i (a1i (i := 4) b0t.nd rfl (Or.inl rfl) (a2y b0p (a0v a3j (pvF 1) a0l (fun _ _ => rfl)) (a0v a3j (pvF 1) a0l (fun _ _ => rfl))))
   (a0i (a1i (i := 5) b0t.nd rfl (Or.inl rfl) (a0v a3j (pvF 4) (a2y b7w (pvF 2) (a1l a3p (by rfl) T.b8w boot_len (a0g (pvF 4) a0j))) (fun _ _ => rfl)))
   (a0i (a1i (i := 6) b0t.nd rfl (Or.inl rfl) (a0v a3j (a0v a3j (pvF 1) a0l (fun _ _ => rfl)) (a2y b7w (a2y b7v (pvF 2) a0l) (a1l a3p (by rfl) T.b8w boot_len (a0g (a0v a3j (pvF 1) a0l (fun _ _ => rfl)) a0j))) (fun _ _ => rfl)))
   (a7z (i4c (i := 7) b0t.nd rfl rfl (b3i (by rfl) T.b8y (a0g (a2y b7w (a2y b7v (pvF 2) a0l) a0l) a0j)) (fun _ _ _ _ _ => (a0v a3j (pvF 4) (a2y b7w (a2y b7v (pvF 3) (a2y a7y a0l (a2y b0p (a2y a7y (pvF 0) (pvF 0)) a0l))) a0l) (fun _ _ => rfl))) (d3k (sc := a0h b4k) (N := ["_law_patch", "_law_due", "_law_mixed", "_law_some", "_law_nodes", "_law_source", "_law_bus", "_law_words", "_law_handed"]) rfl rfl (by decide +kernel)) rfl)
   (a0i (a4j (a4y (a0u i6r h7d (by rfl) T.i5a T.b8v.kp T.d6n .nil a1g (a0g (a0v a3j (pvF 1) a0l (fun _ _ => rfl)) (a0g (pvF 6) (a0g (pvF 5) a0j)))))
   (a0m (a0z d4s))
   a1j)
   (a0i (a1i (i := 8) b0t.nd rfl (Or.inl rfl) (a5k b7m (by rfl) T.c3k boot_list (a0g (pvF 7) a0j)))
   (a0i (a4j (pw_or (a0y k5v (b6q (pvF 0) T.a0w T.h0e h7c h0z T.d0r .nil a1g (a0g (pvF 5) (a0g (pvF 6) (a0g (pvF 8) a0j)))) f9z (a1r _)) (pw_or1 (a0y (b3g hu) (pvF 8) (pvF 7) (a1r _)))).pt
   (a0m (a0z d4s))
   a1j)
   (a0i (a3n (a7o a4m PySem.F.plainAttrs_list PySem.F.slot_list_append PySem.F.type_list_append a2s (pvF 8) (a0g a3s a0j)))
   (a0i (a3n (a7o a4m PySem.F.plainAttrs_list PySem.F.slot_list_append PySem.F.type_list_append a2s (a0v a3j (pvF 1) a0l (fun _ _ => rfl)) (a0g (a9z (a0g (pvF 5) (a0g (pvF 6) (a0g (pvF 7) a0j)))) a0j)))
   (a0m (a0z d4s)))))))))))), ?_⟩
  obtain ⟨Mid1, in1, out1⟩ := i4d (fun σ' H' => ∃ l, σ' = [some (.ref o), some (.ref L), some (.int m), some (.ref l), none, none, none, none, none] /\ Same H H' /\ H' l = some (.lst (wds.map fun d => V.str d.word)))
  try walk_at "rd"
  refine ⟨Mid1, ?_, ?_⟩
  ·walk_at "rd*"
   exact fun l H1 n1 S1 h1 => in1 _ _ ⟨l, rfl, S1, by rw [h1, k3q]⟩
  intro σ1 H1 hm1
  obtain ⟨l, rfl, S1, hl⟩ := out1 _ _ hm1
  clear hm1 in1 out1
  have hL1 := S1 _ _ hL
  have ht1 := S1 _ _ ht
  have hb1 := S1 _ _ hb
  walk_at "rd*"
  refine ⟨by omega, fun l2 H2 n2 S2 h2 => ?_⟩
  have hL2 := S2 _ _ hL1
  have hb2 := S2 _ _ hb1
  have f1 := c8i m (b := ((p.ts.length + p.bs.length : Nat) : Int)) (by omega)
  have f2 := c8i (m.fdiv 17) (b := (p.bs.length : Int)) (by omega)
  obtain ⟨j1, e1⟩ : ∃ j : Nat, m.fmod ((p.ts.length + p.bs.length : Nat) : Int) = j := ⟨(m.fmod ((p.ts.length + p.bs.length : Nat) : Int)).toNat, by omega⟩
  obtain ⟨j2, e2⟩ : ∃ j : Nat, (m.fdiv 17).fmod (p.bs.length : Int) = j := ⟨((m.fdiv 17).fmod (p.bs.length : Int)).toNat, by omega⟩
  obtain ⟨x, hx⟩ : ∃ x, (p.ts ++ p.bs)[j1]? = some x := ⟨_, List.getElem?_eq_getElem (by rw [List.length_append]; omega)⟩
  obtain ⟨y, hy⟩ : ∃ y, p.bs[j2]? = some y := ⟨_, List.getElem?_eq_getElem (by omega)⟩
  have a1 : atI (p.ts.map V.str ++ p.bs.map V.str) (j1 : Int) = some (.str x) := b2g (by rw [<- List.map_append, List.getElem?_map, hx]; rfl)
  have a2 : atI (p.bs.map V.str) (j2 : Int) = some (.str y) := b2g (by rw [List.getElem?_map, hy]; rfl)
  have z1 : ¬ ((p.ts.length + p.bs.length : Nat) : Int) = 0 := by omega
  have z2 : ¬ (p.bs.length : Int) = 0 := by omega
  have mx : x ∈ p.ts \/ x ∈ p.bs := List.mem_append.mp (List.mem_of_getElem? hx)
  have my : y ∈ p.bs := List.mem_of_getElem? hy
  clear hL1 hb1 ht1
  walk_at "rd*"
  refine ⟨⟨by decide, by decide⟩, ?_⟩
  have S02 := S1.trans S2
  have hl2 := S2 _ _ hl
  obtain ⟨Mid2, in2, out2⟩ := i4d (fun σ' H' => ∃ (l3 : Addr) (W : List Dt), σ' = [some (.ref o), some (.ref L), some (.int m), some (.ref l), some (.ref l2), some (.str x), some (.str y), some (.ref l3), none] /\ Same H H' /\ H l3 = none /\ H' l3 = some (.lst (W.map fun d => V.str d.word)) /\ W.length <= 3 /\ ∀ d ∈ W, d ∈ wds)
  refine ⟨Mid2, ?_, ?_⟩
  ·have f4 := c8i (m.fdiv 300) (b := 4) (by decide)
   clear hL2 hb2 h2
   walk_at "rd*"
   refine ⟨⟨by decide, by decide⟩, by omega, by omega, fun D H3 n3 S3 h3 => ?_⟩
   obtain ⟨nn, en⟩ : ∃ nn : Nat, ((m.fdiv 300).fmod 4).toNat = nn := ⟨_, rfl⟩
   rw [en]
   refine d4u (fun i ys H' => Same H2 H' /\ H' D = some (.lst ys) /\ ∃ W : List Dt, ys = W.map (fun d => V.str d.word) /\ W.length = i /\ ∀ d ∈ W, d ∈ wds) ⟨S3, h3, [], rfl, rfl, fun d hd => by cases hd⟩ (by omega) ?_ ?_ ?_
   ·intro i ys H' hi ⟨S', h', W, e, el, _⟩
    exact ⟨h', by rw [e, List.length_map, el]⟩
   ·intro i ys H' hi ⟨S', h', W, e, el, hW⟩
    have hl' := S' _ _ hl2
    have ii : i * i <= 3 * 3 := Nat.mul_le_mul (by omega) (by omega)
    have ii' : (i : Int) * (i : Int) = ((i * i : Nat) : Int) := by rw [Int.natCast_mul]
    have f8 := c8i (m.fdiv (300 * ((i : Int) * (i : Int) + 1))) (b := 8) (by decide)
    obtain ⟨j, ej⟩ : ∃ j : Nat, (m.fdiv (300 * ((i : Int) * (i : Int) + 1))).fmod 8 = j := ⟨((m.fdiv (300 * ((i : Int) * (i : Int) + 1))).fmod 8).toNat, by omega⟩
    obtain ⟨d, hd⟩ : ∃ d, wds[j]? = some d := ⟨_, List.getElem?_eq_getElem (by show j < 8; omega)⟩
    have a3 : atI (wds.map fun d => V.str d.word) (j : Int) = some (.str d.word) := b2g (by rw [List.getElem?_map, hd]; rfl)
    rw [Int.zero_add]
    clear hl2 h3
    walk_at "rd*"
    rw [ii'] at ej
    rw [ej]
    refine ⟨IntMulOk.of_left (intBits_le_64 (by omega) (by omega)), IntMulOk.of_left (intBits_le_64 (by omega) (by omega)), ⟨by omega, Nat.le_trans (intBits_le_64 (by omega) (by omega)) (by decide)⟩, _, a3, fun H4 B4 h4 => ⟨S'.step n3 B4, h4, W ++ [d], by rw [List.map_append]; rfl, by rw [List.length_append, el]; rfl, fun z hz => ?_⟩⟩
    rcases List.mem_append.mp hz with h | h
    ·exact hW z h
    ·obtain rfl := List.mem_singleton.mp h
     exact List.mem_of_getElem? hd
   ·intro ys H4 ⟨S4, h4, W, e, el, hW⟩
    subst e
    try walk_at "rd"
    exact in2 _ _ ⟨D, W, rfl, S02.trans S4, S02.free n3, h4, by omega, hW⟩
  intro σ3 H3 hm3
  obtain ⟨l3, W, rfl, S3, nl3, hl3, w3, hW⟩ := out2 _ _ hm3
  clear hm3 in2 out2 hL2 hb2 h2 hl2
  have hL3 := S3 _ _ hL
  have hsd3 := S3 _ _ hsd
  walk_at "rd*"
  refine ⟨_, p.es, R1.same S3, by omega, fun r H4 hr4 S4 => ?_⟩
  have S04 := S3.trans S4
  cases r with
  | true =>
   try walk_at "rd"
   exact q H4 c p ⟨fun _ _ => rfl, a4q.of S04⟩ ⟨hP.same S04, hQ.same S04, ok, by omega, by omega, by omega, by omega, p5⟩
  | false =>
   have nr := hr4 rfl
   have hl4 := S4 _ _ hl3
   clear hL3 hsd3
   walk_at "rd*"
   refine fun l5 H5 n5 S5 h5 => ?_
   have S05 := S04.trans S5
   have n35 : l3 ≠ l5 := fun e => by rw [<- e, hl4] at n5; cases n5
   clear hl3
   have P5 : c5r A H5 (fun z => c z = 1 /\ H z ≠ none) o p := (hP.mono fun z hz e => ⟨hz, e⟩).same S05
   obtain ⟨dx, t', b', sd', ou', ho5, _⟩ := id P5
   unfold ptF at ho5
   walk_at "rd*"
   refine ⟨_, p, P5, W, rfl, by omega, (fun d hd => l4r d (hW d hd)), mx, my, nr, by omega, ok.b y my, (fun e he => (ok.s e he).2.1), fun H6 N6 P6 => ?_⟩
   have wso : ∀ z ∈ W.map Dt.word, PyData.strOk z = true := fun z hz => by
    obtain ⟨d, hd, rfl⟩ := List.mem_map.mp hz
    exact l4s d (hW d hd)
   have k6 : ∀ {z : Addr} {u : HO}, ¬ (H z ≠ none) -> H5 z = some u -> H6 z = some u := fun hz e => N6 _ _ (fun n => absurd n.2 hz) e
   have nl5 : H l5 = none := S04.free n5
   have h56 := k6 (fun z => z nl5) h5
   have h46 := k6 (fun z => z nl3) (S5 _ _ hl4)
   have h5' := h5
   have h35 := S5 _ _ hl4
   clear ho5 h5 hl4
   have ew : W.map (fun d => V.str d.word) = (W.map Dt.word).map V.str := by rw [List.map_map]; rfl
   rw [ew] at h56 h46
   refine c3s (SqL.of h56) (SqL.of h46) wso wso ?_
   rw [decide_eq_true rfl]
   have wl : (W.map Dt.word).length <= 3 := by rw [List.length_map]; exact w3
   try walk_at "rd*"
   refine ⟨by omega, ?_⟩
   rintro _ H7 ⟨rfl, B7, h7⟩
   -- what is due, up to here
   have Q6 : Qd H6 (fun z => c z = 2 /\ H z ≠ none) L p := ((hQ.mono fun z hz e => ⟨hz, e⟩).same S05).over N6 fun z hz _ n => by
    have a := hz.1
    rw [n.1] at a
    cases a
   have ne7 : ∀ z, H z ≠ none -> z ≠ l5 := fun z hz e => hz (by rw [e]; exact nl5)
   obtain ⟨t7, b7, sd7, ou7, hL6, nL6, F6⟩ := id Q6
   have F7 : Fl H7 (fun a => ((c a = 2 /\ H a ≠ none) \/ a = l3) /\ a ≠ L) t7 b7 sd7 ou7 p := (F6.over (a4q.one (N := (· = l5)) h56 rfl B7) fun z hz _ => ne7 z hz.1.2).mono fun z hz _ => ⟨.inl hz.1, hz.2⟩
   have hL7 := B7 _ _ (ne7 L nL6.2) hL6
   obtain ⟨us7, k0v, R7⟩ := F7.hs
   have h37 : H7 l3 = some (.lst ((W.map Dt.word).map V.str)) := B7 _ _ n35 h46
   walk_at "rd*"
   intro p8 H8 n8 S8 h8
   have l8w := S8 _ _ k0v
   have us7l := R7.j6g
   clear k0v
   walk_at "rd*"
   refine ⟨by omega, ?_⟩
   rintro _ H9 ⟨rfl, B9, h9⟩
   try walk_at "rd"
   have k3s : ∀ {z : Addr}, H z ≠ none -> l3 ≠ z := fun hz e => hz (by rw [<- e]; exact nl3)
   have F9 := (F7.same S8).m0i (e := (x, y, W.map Dt.word)) l8w (.tup h8 (.cons (.str _) (.cons (.str _) (.cons (.lst ⟨⟨.inr rfl, k3s nL6.2⟩, k3s F6.n.1.1.2, k3s F6.n.2.1.1.2, k3s F6.n.2.2.1.1.2, k3s F6.n.2.2.2.1.2⟩ (S8 _ _ h37) (RpL.strs _)) .nil)))) h9 B9
   have hL9 := B9 _ _ (Ne.symm F6.n.2.2.1.2) (S8 _ _ hL7)
   have P9 := ((P6.over (a4q.one (N := (· = l5)) h56 rfl B7) fun z hz _ e => ?_).same S8).over (a4q.one (N := (· = sd7)) l8w rfl B9) fun z hz _ e => ?_
   rotate_left
   ·rcases hz with hz | hz
    ·exact ne7 z hz.2 e
    ·rw [e, h5'] at hz
     cases hz
   ·rcases hz with hz | hz
    ·have a := hz.1
     rw [e, F6.n.2.2.1.1.1] at a
     cases a
    ·rw [e] at hz
     exact F6.n.2.2.1.1.2 (S05.free hz)
   refine q H9 (fun z => if z = l3 then 2 else if (H z).isNone then 1 else c z) _ ⟨fun z hz => ?_, fun z u hm e => ?_⟩ ⟨P9.mono fun z hz _ => ?_, ⟨t7, b7, sd7, ou7, hL9, ?_, F9.mono fun z hz _ => ⟨?_, hz.2⟩⟩, ?_, ?_⟩
   ·show (if z = l3 then 2 else if (H z).isNone then 1 else c z) = c z
    rw [if_neg (Ne.symm (k3s hz)), if_neg (by simpa using hz)]
   ·have e6 := N6 _ _ (fun n => hm (.inl n.1)) (S05 _ _ e)
    refine B9 _ _ (fun q => ?_) (S8 _ _ (B7 _ _ (ne7 z (live e)) e6))
    have e7 := S8 _ _ (B7 _ _ (ne7 z (live e)) e6)
    rw [q, l8w] at e7
    cases e7
    exact hm (.inr (by rw [q]; exact F6.n.2.2.1.1.1)) _ rfl
   ·show (if z = l3 then 2 else if (H z).isNone then 1 else c z) = 1
    rcases hz with hz | hz
    ·rw [if_neg (Ne.symm (k3s hz.2)), if_neg (by simpa using hz.2)]
     exact hz.1
    ·rw [if_neg (fun e => by rw [e, h35] at hz; cases hz), if_pos (by rw [S05.free hz]; rfl)]
   ·show (if L = l3 then 2 else if (H L).isNone then 1 else c L) = 2
    rw [if_neg (Ne.symm (k3s nL6.2)), if_neg (by simpa using nL6.2)]
    exact nL6.1
   ·show (if z = l3 then 2 else if (H z).isNone then 1 else c z) = 2
    rcases hz.1 with hz | hz
    ·rw [if_neg (Ne.symm (k3s hz.2)), if_neg (by simpa using hz.2)]
     exact hz.1
    ·rw [if_pos hz]
   ·refine ⟨ok.t, ok.b, fun e he => ?_, ok.o⟩
    rcases List.mem_append.mp he with h | h
    ·exact ok.s e h
    ·obtain rfl := List.mem_singleton.mp h
     exact ⟨mx.elim (ok.t x) (ok.b x), ok.b y my, wso⟩
   ·refine ⟨Nat.le_succ_of_le p1, Nat.le_succ_of_le p2, ?_, Nat.le_succ_of_le p4, fun e he => ?_⟩
    ·show (p.es ++ [_]).length <= n + 1
     rw [List.length_append, List.length_singleton]
     omega
    ·rcases List.mem_append.mp he with h | h
     ·exact p5 e h
     ·obtain rfl := List.mem_singleton.mp h
      exact Nat.le_trans wl (by decide)
theorem d4h {K : PySem.W.Frag} {a D : Addr} {xs : List V} {tc : TT} {te : TE} {σ : L2.St} {H0 H : Hp} {Q : VK} (p : V -> Bool) (n0 : H0 D = none) (S : Same H0 H) (hD : H D = some (.lst [])) (hS : SqL K H0 a xs) (hsz : xs.length <= sizeLine)
  (hc : ∀ (i : Nat) x H' (Q' : Bool -> Hp -> Prop), xs[i]? = some x -> Same H0 H' -> (∀ H2, Same H' H2 -> Q' (p x) H2) -> tc (some x :: σ) H' Q')
  (he : ∀ (i : Nat) x H' (Q' : VK), xs[i]? = some x -> p x = true -> Same H0 H' -> Q' x H' -> te (some x :: σ) H' Q')
  (q : ∀ H', Same H0 H' -> H' D = some (.lst (xs.filter p)) -> Q (.ref D) H') : j7z (Itl K a) tc te D σ H Q ⟨⟩ := by
 refine ⟨xs.length, fun i ys H' => Same H0 H' /\ H' D = some (.lst ys) /\ ys = (xs.take i).filter p, ⟨S, hD, by simp⟩, fun i ys H' hi w => ?_⟩
 obtain ⟨S', h', e⟩ := w
 refine ⟨h', ?_⟩
 have e2 : SqL K H' a xs := S'.seq hS
 by_cases hlt : i < xs.length
 ·have hyl : ys.length <= i := by
   rw [e]
   exact Nat.le_trans (List.length_filter_le _ _) (by rw [List.length_take]; omega)
  refine .inr ⟨hlt, ⟨xs, xs[i], e2, by simp [hlt]⟩, by omega, fun x H2 y => ?_⟩
  obtain ⟨e', y⟩ := y
  subst e'
  have hx := y xs e2
  have et : xs.take (i + 1) = xs.take i ++ [x] := by rw [List.take_add_one, hx]; rfl
  refine hc i x _ _ hx S' fun H3 S3 => ?_
  have h3 := S3 _ _ h'
  cases hp : p x with
  | true =>
   rw [if_pos rfl]
   refine he i x _ _ hx hp (S'.trans S3) ⟨h3, fun H4 s4 h4 => ⟨(S'.trans S3).step n0 s4, h4, ?_⟩⟩
   rw [et, List.filter_append, <- e, List.filter_cons, if_pos hp]
   rfl
  | false =>
   rw [if_neg Bool.false_ne_true]
   refine ⟨S'.trans S3, h3, ?_⟩
   rw [et, List.filter_append, List.filter_cons, if_neg (by rw [hp]; exact Bool.false_ne_true), e]
   simp
 ·have e3 : i = xs.length := by omega
  subst e3
  refine .inl ⟨⟨_, e2, by simp⟩, q H' S' ?_⟩
  rw [h', e, List.take_length]
theorem f3y {x : Str} (h : f6u x) : PyData.strOk x = true := by
 unfold PyData.strOk
 rw [<- Array.all_toList, List.all_eq_true]
 intro c hc
 have := h.2.2 c hc
 rw [decide_eq_true_eq]
 omega
theorem h7e (q : Str -> Bool) (ss : List Str) : (ss.map V.str).filter (pvS q) = (ss.filter q).map V.str := by
 rw [List.filter_map]
 rfl
theorem k8u (T : Tx K mg A) : a1n P A.wd K mg base CX0 14 A.b4s A.d5q ["_law_patch", "_law_due", "_law_names_here", "_law_mixed"] (j9k A) := by
 have c5u : a1n P A.wd K mg base CX0 3 _ _ _ _ := k5m T
 have d6p : a1n P A.wd K mg base CX0 3 _ _ _ _ := k5n T
 have i6s : a1n P A.wd K mg base CX0 4 _ _ _ _ := l4n T
 have j3q : a1n P A.wd K mg base CX0 13 _ _ _ _ := k3r T
 have a0w := T.a0w
 have a0k := T.a0k
 have a0o := T.a0o
 have a0n := T.a0n
 have a0p := T.a0p
 refine T.c3j.ok c3v (fun vs H Q E h => ?_) (fun cdv A' outer s H vs Q E hr h => ?_)
 ·obtain ⟨_, _, _, _, rfl, _⟩ := j8n (by unfold j9k at h; exact h)
  rfl
 ·obtain ⟨o, L, ln, m, rfl, ⟨c, p, n, nm, hJ, hln, cln, nmo, nml, n50, q⟩⟩ := j8n (by unfold j9k at h; exact h)
  have hu := hr.units
  have hs : sizeLine = 16777216 := sizeLine_eq
  have c1s : a2z 3 _ := hr.mono (by decide)
  have d0v : a2z 3 _ := hr.mono (by decide)
  have h7f : a2z 4 _ := hr.mono (by decide)
  have i6t : a2z 13 _ := hr.mono (by decide)
  obtain ⟨hP, hQ, ok, p1, p2, p3, p4, p5⟩ := id hJ
  obtain ⟨t, b, sd, ou, hL, nL, F⟩ := id hQ
  have ht := F.ht
  have hb := F.hb
  obtain ⟨us, hou, R2⟩ := F.ho
  have ul := R2.j6g
  refine ⟨_, (a0i (a1i (i := 4) c3v.nd rfl (Or.inl rfl) (a2y b7w (pvF 3) a0l))
   (a7z (j0n (i := 5) c3v.nd rfl rfl (a3o (pvF 2)) (fun _ _ _ _ _ => (a0y b5r (pvF 0) (a2y b0p (a0v a3j (pvF 2) a0l (fun _ _ => rfl)) (a0v a3j (pvF 2) a0l (fun _ _ => rfl))) (by rfl))) (fun _ _ _ _ _ => (pvF 0)) (d3k (sc := a0h b1t) (N := ["_law_patch", "_law_due", "_law_names_here", "_law_mixed", "_law_pick", "_law_spare", "_law_free"]) rfl rfl (by decide +kernel)) rfl)
   (a7z (j0n (i := 6) c3v.nd rfl rfl (a3o (a0v a3j (pvF 1) a0l (fun _ _ => rfl))) (fun _ _ _ _ _ => (a0y b5r (pvF 0) (j0r (j8k (K := K) (by rfl) (a0v a3j (pvF 2) a0l (fun _ _ => rfl))) (fun _ _ _ _ _ => (pvF 0)) (k5c (N := ["_law_bus", "_law_patch", "_law_due", "_law_names_here", "_law_mixed", "_law_pick", "_law_spare", "_law_free"]) rfl rfl (by rfl)) rfl) (by rfl))) (fun _ _ _ _ _ => (pvF 0)) (d3k (sc := a0h b1t) (N := ["_law_patch", "_law_due", "_law_names_here", "_law_mixed", "_law_pick", "_law_spare", "_law_free"]) rfl rfl (by decide +kernel)) rfl)
   (a7z (a4j (pw_and (a0y (b7u hu) (pvF 4) a0l (a1r _)) (pw_and1 (a0y (b3g hu) (pvF 5) (a2j a0j) (a1r _)))).pt
   (a0i (a3n (a7o a4m PySem.F.plainAttrs_list PySem.F.slot_list_append PySem.F.type_list_append a2s (a0v a3j (pvF 1) a0l (fun _ _ => rfl)) (a0g (a0v a3j (pvF 5) a0l (fun _ _ => rfl)) a0j)))
   (a0m (a0z (b6i j0g (b6q (pvF 0) T.a0w T.d3u c5u c1s T.b6v .nil a1g (a0g (a0v a3j (pvF 5) a0l (fun _ _ => rfl)) a0j)) f9z (a1r _)))))
   a1j)
   (a7z (a4j (pw_and (a0y (b7u hu) (pvF 4) a0l (a1r _)) (pw_and1 (a0y (b3g hu) (pvF 5) (a2j a0j) (a1r _)))).pt
   (a0i (a3n (a7o a4m PySem.F.plainAttrs_list PySem.F.slot_list_append PySem.F.type_list_append a2s (a0v a3j (pvF 1) a0l (fun _ _ => rfl)) (a0g (a0v a3j (pvF 5) a0l (fun _ _ => rfl)) a0j)))
   (a0m (a0z (b6i j0g (b6q (pvF 0) T.a0w T.f6r d6p d0v T.c5k .nil a1g (a0g (a0v a3j (pvF 5) a0l (fun _ _ => rfl)) a0j)) f9z (a1r _)))))
   a1j)
   (a7z (a4j (pw_and (a0y (b7u hu) (pvF 4) a0l (a1r _)) (pw_and1 (a0y (b3g hu) (pvF 6) (a2j a0j) (a1r _)))).pt
   (a0i (a3n (a7o a4m PySem.F.plainAttrs_list PySem.F.slot_list_append PySem.F.type_list_append a2s (a0v a3j (pvF 1) a0l (fun _ _ => rfl)) (a0g (a9z (a0g (a0v a3j (pvF 6) a0l (fun _ _ => rfl)) (a0g (a2y b0p a0l (a2y b7w (a2y b7v (pvF 3) a0l) (a2y j7q a0l a0l))) a0j))) a0j)))
   (a0m (a0z (b6i j0g (b6q (pvF 0) T.a0w T.h6h i6s h7f T.d6j .nil a1g (a0g (a0v a3j (pvF 6) a0l (fun _ _ => rfl)) (a0g (a0v a3j (a0v a3j (a0v a3j (pvF 1) a0l (fun _ _ => rfl)) (a2y j7p (a1l a3p (by rfl) T.b8w boot_len (a0g (a0v a3j (pvF 1) a0l (fun _ _ => rfl)) a0j)) a0l) (fun _ _ => rfl)) a0l (fun _ _ => rfl)) a0j))) f9z (a1r _)))))
   a1j)
   (a0i (a4j (a0y (b3g hu) (a0v a3j (pvF 1) a0l (fun _ _ => rfl)) (a2j a0j) (a1r _))
   (a0m (a0z (a0u j3q i6t (by rfl) T.j2p T.c3i.kp T.f3t .nil a1g (a0g (pvF 0) (a0g (pvF 1) (a0g (a2y b7v (pvF 3) a0l) a0j))))))
   a1j)
   (a0m (a0z d4s))))))))), ?_⟩
  walk_at "rd*"
  generalize m.fmod 6 = pk
  obtain ⟨Mid1, in1, out1⟩ := i4d (fun σ' H' => ∃ (l : Addr) (sp : List Str), σ' = [some (.ref o), some (.ref L), some (.ref ln), some (.int m), some (.int pk), some (.ref l), none] /\ Same H H' /\ H l = none /\ H' l = some (.lst (sp.map V.str)) /\ ∀ s ∈ sp, s ∈ nm /\ s ∉ p.ts /\ s ∉ p.bs)
  refine ⟨Mid1, ?_, ?_⟩
  ·walk_at "rd*"
   refine ⟨⟨_, SqL.of hln⟩, fun D H1 n1 S1 h1 => ?_⟩
   refine d4h (pvS fun s => decide (s ∉ p.ts ++ p.bs)) n1 S1 h1 (SqL.of hln) (by rw [List.length_map]; omega) ?_ ?_ ?_
   ·intro i v H' Q' hv S' q'
    rw [List.getElem?_map] at hv
    obtain ⟨s, hsi, rfl⟩ := Option.map_eq_some_iff.mp hv
    have hL' := S' _ _ hL
    have ht' := S' _ _ ht
    have hb' := S' _ _ hb
    clear hL ht hb h1 hln
    walk_at "rd*"
    refine ⟨by omega, fun l2 H2 n2 S2 h2 => ?_⟩
    rw [<- List.map_append] at h2
    have fl := b0h (p.ts ++ p.bs)
    have iv := a9v s (p.ts ++ p.bs)
    have q2 := q' H2 S2
    clear hL' ht' hb'
    walk_at "rd*"
    refine ⟨rfl, ?_⟩
    have e : pvS (fun s => decide (s ∉ p.ts ++ p.bs)) (.str s) = !decide (s ∈ p.ts ++ p.bs) := by simp [pvS]
    rw [e] at q2
    exact q2
   ·intro i v H' Q' hv hp S' q'
    try walk_at "rd"
    exact q'
   ·intro H2 S2 h2
    rw [h7e] at h2
    try walk_at "rd"
    refine in1 _ _ ⟨D, _, rfl, S2, n1, h2, fun s hs => ?_⟩
    obtain ⟨h3, h4⟩ := List.mem_filter.mp hs
    have h5 : s ∉ p.ts ++ p.bs := by simpa using h4
    exact ⟨h3, fun z => h5 (List.mem_append_left _ z), fun z => h5 (List.mem_append_right _ z)⟩
  intro σ1 H1 hm1
  obtain ⟨l1, sp, rfl, S1, nl1, hl1, hsp⟩ := out1 _ _ hm1
  clear hm1 in1 out1
  obtain ⟨Mid2, in2, out2⟩ := i4d (fun σ' H' => ∃ (l : Addr) (fr : List Str), σ' = [some (.ref o), some (.ref L), some (.ref ln), some (.int m), some (.int pk), some (.ref l1), some (.ref l)] /\ Same H1 H' /\ H l = none /\ H' l = some (.lst (fr.map V.str)) /\ ∀ s ∈ fr, s ∈ p.bs /\ ∀ x ∈ p.os, x.1 ≠ s)
  refine ⟨Mid2, ?_, ?_⟩
  ·have hL1 := S1 _ _ hL
   have hb1 := S1 _ _ hb
   have m0t := S1 _ _ hou
   clear hL hb ht hou hln hl1
   walk_at "rd*"
   refine ⟨⟨_, SqL.of hb1⟩, fun D H2 n2 S2 h2 => ?_⟩
   refine d4h (pvS fun s => decide (s ∉ p.os.map (·.1))) n2 S2 h2 (SqL.of hb1) (by rw [List.length_map]; omega) ?_ ?_ ?_
   ·intro i v H' Q' hv S' q'
    rw [List.getElem?_map] at hv
    obtain ⟨s, hsi, rfl⟩ := Option.map_eq_some_iff.mp hv
    have hL' := S' _ _ hL1
    have l4t := S' _ _ m0t
    clear hL1 hb1 m0t h2
    walk_at "rd*"
    refine ⟨⟨_, SqL.of l4t⟩, fun D3 H3 n3 S3 h3 => ?_⟩
    refine i4k (xs := us) (fun i ys H2 => Same H' H2 /\ H2 D3 = some (.lst ys) /\ ys = ((p.os.take i).map (·.1)).map V.str) ⟨S3, h3, rfl⟩ (by omega) ?_ ?_ ?_
    ·intro i ys H2 hi ⟨S2', h2', e⟩
     exact ⟨h2', SqL.of (S2' _ _ l4t), by rw [e, List.length_map, List.length_map, List.length_take]; omega⟩
    ·intro i x ys H2 hx ⟨S2', h2', e⟩
     obtain ⟨y, py, hy, rfl, hpy⟩ := R2.at2 hx
     have hp' := S2' _ _ (S' _ _ (S1 _ _ hpy))
     refine ⟨py, _, _, rfl, hp', ?_⟩
     clear hpy hx
     walk_at "rd*"
     refine fun H4 B4 h4 => ⟨S2'.step n3 B4, h4, ?_⟩
     rw [List.take_add_one, hy, List.map_append, List.map_append]
     rfl
    ·intro ys H4 ⟨S4, h4, e⟩
     rw [ul, List.take_length] at e
     subst e
     have fl := b0h (p.os.map (·.1))
     have iv := a9v s (p.os.map (·.1))
     have q4 := q' H4 S4
     clear h3 hL' l4t
     walk_at "rd*"
     refine ⟨rfl, ?_⟩
     have e : pvS (fun s => decide (s ∉ p.os.map (·.1))) (.str s) = !decide (s ∈ p.os.map (·.1)) := by simp [pvS]
     rw [e] at q4
     exact q4
   ·intro i v H' Q' hv hp S' q'
    try walk_at "rd"
    exact q'
   ·intro H3 S3 h3
    rw [h7e] at h3
    try walk_at "rd"
    refine in2 _ _ ⟨D, _, rfl, S3, S1.free n2, h3, fun s hs => ?_⟩
    obtain ⟨h4, h5⟩ := List.mem_filter.mp hs
    have h6 : s ∉ p.os.map (·.1) := by simpa using h5
    exact ⟨h4, fun x hx e => h6 (List.mem_map.mpr ⟨x, hx, e⟩)⟩
  intro σ2 H2 hm2
  obtain ⟨l2, fr, rfl, S2, nl2, hl2, hfr⟩ := out2 _ _ hm2
  clear hm2 in2 out2
  have S02 := S1.trans S2
  have k9x := S2 _ _ hl1
  clear hl1
  have J2 : Jn A H2 c o L p n := ⟨hP.same S02, hQ.same S02, ok, p1, p2, p3, p4, p5⟩
  have hL2 := S02 _ _ hL
  have ht2 := S02 _ _ ht
  have hb2 := S02 _ _ hb
  have l4u := S02 _ _ hou
  clear hL ht hb hou hln
  have F2 := F.same S02
  have P2 := hP.same S02
  have flp : ∀ {H' : Hp}, Same H2 H' -> a4q (fun z => c z = 1 \/ c z = 2) H H' := fun S => a4q.of (S02.trans S)
  obtain ⟨dx, t0, b0, sd0, ou0, ho2, _⟩ := id P2
  unfold ptF at ho2
  have cne : ∀ {z y : Addr}, c z = 1 -> c y = 2 -> z ≠ y := fun a b e => by rw [e, b] at a; cases a
  have lt1 : ∀ {z : Addr}, H z ≠ none -> l1 ≠ z := fun hz e => hz (by rw [<- e]; exact nl1)
  have lt2 : ∀ {z : Addr}, H z ≠ none -> l2 ≠ z := fun hz e => hz (by rw [<- e]; exact nl2)
  have vt := live F.ht
  have vb := live F.hb
  obtain ⟨us', l4t, _⟩ := F.ho
  obtain ⟨Mid3, in3, out3⟩ := i4d (fun σ' H' => σ' = [some (.ref o), some (.ref L), some (.ref ln), some (.int m), some (.int pk), some (.ref l1), some (.ref l2)] /\ Same H2 H')
  refine ⟨Mid3, ?_, ?_⟩
  ·walk_at "rd*"
   split
   ·rename_i hpk
    clear hpk
    refine fun l3 H3 n3 S3 h3 => ?_
    have hl3 := S3 _ _ k9x
    have hL3 := S3 _ _ hL2
    have ht3 := S3 _ _ ht2
    have ho3 := S3 _ _ ho2
    walk_at "rd*"
    refine c3s (ns := sp) (ms := []) (SqL.of hl3) (SqL.of h3) (fun z hz => f3y (nmo z (hsp z hz).1)) (fun z hz => by cases hz) ?_
    cases sp with
    | nil =>
     rw [show (!decide (([] : List Str) = [])) = false from rfl]
     try walk_at "rd"
     exact in3 _ _ ⟨rfl, S3⟩
    | cons s sr =>
     rw [show (!decide ((s :: sr : List Str) = [])) = true from rfl]
     have hh := hsp s List.mem_cons_self
     clear h3 hL2 ht2 hb2 l4u k9x hl2 ho2
     walk_at "rd*"
     refine ⟨by omega, ?_⟩
     rintro _ H4 ⟨rfl, B4, h4⟩
     have P4 := (P2.same S3).over (a4q.one (N := (· = t)) ht3 rfl B4) fun z hz _ e => by rw [e, F.n.1.1] at hz; cases hz
     have ho4 := B4 _ _ (fun e => by rw [e, ht3] at ho3; cases ho3) ho3
     have hl4 := B4 _ _ (lt1 vt) hl3
     have hL4 := B4 _ _ (Ne.symm F.n.1.2) hL3
     clear hl3 hL3 ho3
     walk_at "rd*"
     refine ⟨_, p, P4, hh.2.1, hh.2.2, by omega, fun H5 N5 P5 => ?_⟩
     try walk_at "rd"
     have e5 : a4q (fun z => c z = 1 \/ c z = 2) H H5 := ((flp S3).trans (a4q.one ht3 (.inr F.n.1.1) B4)).trans (N5.mono fun z hz => .inl hz)
     refine q H5 c _ ⟨fun _ _ => rfl, e5⟩ ⟨P5, (show Qd H4 (fun z => c z = 2) L ⟨p.ts ++ [s], p.bs, p.es, p.os⟩ from ⟨t, b, sd, ou, hL4, nL, (F2.same S3).m0g h4 B4⟩).over N5 (fun z hz _ e => by rw [hz] at e; cases e), ⟨fun z hz => ?_, ok.b, ok.s, ok.o⟩, ?_, by show p.bs.length <= n + 1; omega, by show p.es.length <= n + 1; omega, by show p.os.length <= n + 1; omega, p5⟩
     ·rcases List.mem_append.mp hz with h | h
      ·exact ok.t z h
      ·obtain rfl := List.mem_singleton.mp h
       exact f3y (nmo _ hh.1)
     ·show (p.ts ++ [s]).length <= n + 1
      rw [List.length_append, List.length_singleton]
      omega
   ·exact in3 _ _ ⟨rfl, Same.refl _⟩
  intro σ3 H3 hm3
  obtain ⟨rfl, S3⟩ := out3 _ _ hm3
  clear hm3 in3 out3
  obtain ⟨Mid4, in4, out4⟩ := i4d (fun σ' H' => σ' = [some (.ref o), some (.ref L), some (.ref ln), some (.int m), some (.int pk), some (.ref l1), some (.ref l2)] /\ Same H2 H')
  refine ⟨Mid4, ?_, ?_⟩
  ·walk_at "rd*"
   split
   ·rename_i hpk
    clear hpk
    refine fun l4 H4 n4 S4' h4 => ?_
    have S4 := S3.trans S4'
    have hl4 := S4 _ _ k9x
    have hL4 := S4 _ _ hL2
    have hb4 := S4 _ _ hb2
    have ho4 := S4 _ _ ho2
    walk_at "rd*"
    refine c3s (ns := sp) (ms := []) (SqL.of hl4) (SqL.of h4) (fun z hz => f3y (nmo z (hsp z hz).1)) (fun z hz => by cases hz) ?_
    cases sp with
    | nil =>
     rw [show (!decide (([] : List Str) = [])) = false from rfl]
     try walk_at "rd"
     exact in4 _ _ ⟨rfl, S4⟩
    | cons s sr =>
     rw [show (!decide ((s :: sr : List Str) = [])) = true from rfl]
     have hh := hsp s List.mem_cons_self
     clear h4 hL2 ht2 hb2 l4u k9x hl2 ho2
     walk_at "rd*"
     refine ⟨by omega, ?_⟩
     rintro _ H5 ⟨rfl, B5, h5⟩
     have P5 := (P2.same S4).over (a4q.one (N := (· = b)) hb4 rfl B5) fun z hz _ e => by rw [e, F.n.2.1.1] at hz; cases hz
     have ho5 := B5 _ _ (fun e => by rw [e, hb4] at ho4; cases ho4) ho4
     have hl5 := B5 _ _ (lt1 vb) hl4
     have hL5 := B5 _ _ (Ne.symm F.n.2.1.2) hL4
     clear hl4 hL4 ho4
     walk_at "rd*"
     refine ⟨_, p, P5, hh.2.1, hh.2.2, by omega, fun H6 N6 P6 => ?_⟩
     try walk_at "rd"
     have e6 : a4q (fun z => c z = 1 \/ c z = 2) H H6 := ((flp S4).trans (a4q.one hb4 (.inr F.n.2.1.1) B5)).trans (N6.mono fun z hz => .inl hz)
     refine q H6 c _ ⟨fun _ _ => rfl, e6⟩ ⟨P6, (show Qd H5 (fun z => c z = 2) L ⟨p.ts, p.bs ++ [s], p.es, p.os⟩ from ⟨t, b, sd, ou, hL5, nL, (F2.same S4).m0h h5 B5⟩).over N6 (fun z hz _ e => by rw [hz] at e; cases e), ⟨ok.t, fun z hz => ?_, ok.s, ok.o⟩, by show p.ts.length <= n + 1; omega, ?_, by show p.es.length <= n + 1; omega, by show p.os.length <= n + 1; omega, p5⟩
     ·rcases List.mem_append.mp hz with h | h
      ·exact ok.b z h
      ·obtain rfl := List.mem_singleton.mp h
       exact f3y (nmo _ hh.1)
     ·show (p.bs ++ [s]).length <= n + 1
      rw [List.length_append, List.length_singleton]
      omega
   ·first | exact trivial | exact in4 _ _ ⟨rfl, S3⟩
  intro σ4 H4 hm4
  obtain ⟨rfl, S4⟩ := out4 _ _ hm4
  clear hm4 in4 out4 S3
  obtain ⟨Mid5, in5, out5⟩ := i4d (fun σ' H' => σ' = [some (.ref o), some (.ref L), some (.ref ln), some (.int m), some (.int pk), some (.ref l1), some (.ref l2)] /\ Same H2 H')
  refine ⟨Mid5, ?_, ?_⟩
  ·walk_at "rd*"
   split
   ·rename_i hpk
    clear hpk
    refine fun l5 H5 n5 S5' h5 => ?_
    have S5 := S4.trans S5'
    have hl5 := S5 _ _ hl2
    have hL5 := S5 _ _ hL2
    have l4o := S5 _ _ l4u
    have ho5 := S5 _ _ ho2
    walk_at "rd*"
    refine c3s (ns := fr) (ms := []) (SqL.of hl5) (SqL.of h5) (fun z hz => ok.b z (hfr z hz).1) (fun z hz => by cases hz) ?_
    cases fr with
    | nil =>
     rw [show (!decide (([] : List Str) = [])) = false from rfl]
     try walk_at "rd"
     exact in5 _ _ ⟨rfl, S5⟩
    | cons s sr =>
     rw [show (!decide ((s :: sr : List Str) = [])) = true from rfl]
     have hh := hfr s List.mem_cons_self
     have fg := c8i (m.fdiv 6) (b := 1000000000000) (by decide)
     obtain ⟨g, eg⟩ : ∃ g, 1 + (m.fdiv 6).fmod 1000000000000 = g := ⟨_, rfl⟩
     clear h5 hL2 ht2 hb2 l4u k9x hl2 ho2
     walk_at "rd*"
     refine ⟨⟨by decide, by decide⟩, by decide, fun p6 H6 n6 S6 h6 => ?_⟩
     have l4v := S6 _ _ l4o
     have hL6 := S6 _ _ hL5
     have ho6 := S6 _ _ ho5
     have hl6 := S6 _ _ hl5
     clear l4o hL5 ho5 hl5
     walk_at "rd*"
     refine ⟨by omega, ?_⟩
     rintro _ H7 ⟨rfl, B7, h7⟩
     have S26 := S5.trans S6
     have P7 := (P2.same S26).over (a4q.one (N := (· = ou)) l4v rfl B7) fun z hz _ e => by rw [e, F.n.2.2.2.1] at hz; cases hz
     have ho7 := B7 _ _ (fun e => by rw [e, l4v] at ho6; cases ho6) ho6
     have hl7 := B7 _ _ (lt2 (live l4t)) hl6
     have hL7 := B7 _ _ (Ne.symm F.n.2.2.2.2) hL6
     have h67 := B7 _ _ (fun e => by rw [e, l4v] at h6; cases h6) h6
     have at7 : atI (us ++ [V.ref p6]) (((p.os.length + 1 : Nat) : Int) - 1) = some (.ref p6) := by
      rw [show ((p.os.length + 1 : Nat) : Int) - 1 = (us.length : Int) by omega]
      exact b2g (by rw [List.getElem?_concat_length])
     have g1 : 1 <= g := by omega
     have g2 : g <= 1000000000000 := by omega
     clear hl6 hL6 ho6 fg eg
     walk_at "rd*"
     refine ⟨_, p, P7, hh.1, hh.2, by omega, fun H8 N8 P8 => ?_⟩
     try walk_at "rd"
     have e8 : a4q (fun z => c z = 1 \/ c z = 2) H H8 := ((flp S26).trans (a4q.one l4v (.inr F.n.2.2.2.1) B7)).trans (N8.mono fun z hz => .inl hz)
     refine q H8 c _ ⟨fun _ _ => rfl, e8⟩ ⟨P8, (show Qd H7 (fun z => c z = 2) L ⟨p.ts, p.bs, p.es, p.os ++ [(s, g)]⟩ from ⟨t, b, sd, ou, hL7, nL, (F2.same S26).m0j l4v (.tup h6 (.cons (.str _) (.cons (.int _) .nil))) h7 B7⟩).over N8 (fun z hz _ e => by rw [hz] at e; cases e), ⟨ok.t, ok.b, ok.s, fun z hz => ?_⟩, by show p.ts.length <= n + 1; omega, by show p.bs.length <= n + 1; omega, by show p.es.length <= n + 1; omega, ?_, p5⟩
     ·rcases List.mem_append.mp hz with h | h
      ·exact ok.o z h
      ·obtain rfl := List.mem_singleton.mp h
       exact ok.b _ hh.1
     ·show (p.os ++ [(s, g)]).length <= n + 1
      rw [List.length_append, List.length_singleton]
      omega
   ·first | exact trivial | exact in5 _ _ ⟨rfl, S4⟩
  intro σ5 H5 hm5
  obtain ⟨rfl, S5⟩ := out5 _ _ hm5
  clear hm5 in5 out5 S4
  have hL5 := S5 _ _ hL2
  have hb5 := S5 _ _ hb2
  walk_at "rd*"
  refine fun l6 H6 n6 S6 h6 => ?_
  have hb6 := S6 _ _ hb5
  have S26 := S5.trans S6
  have J6 : Jn A H6 c o L p n := ⟨P2.same S26, (hQ.same S02).same S26, ok, p1, p2, p3, p4, p5⟩
  walk_at "rd*"
  refine c3s (ns := p.bs) (ms := []) (SqL.of hb6) (SqL.of h6) ok.b (fun z hz => by cases hz) ?_
  by_cases hbn : p.bs = []
  ·rw [decide_eq_true hbn]
   try walk_at "rd"
   exact q H6 c p ⟨fun _ _ => rfl, flp S26⟩ ⟨J6.1, J6.2.1, ok, by omega, by omega, by omega, by omega, p5⟩
  ·rw [decide_eq_false hbn]
   clear hb5 hL5 h6 hb6 hL2 ht2 hb2 l4u k9x hl2 ho2
   walk_at "rd*"
   refine ⟨⟨by decide, by decide⟩, c, p, n, J6, hbn, n50, fun H7 c' p' N7 J7 => q H7 c' p' ⟨fun z hz => N7.1 z ?_, fun z u hm e => N7.2 _ _ hm (S26 _ _ (S02 _ _ e))⟩ J7⟩
   cases e : H z with
   | none => exact absurd e hz
   | some u => exact live (S26 _ _ (S02 _ _ e))
theorem Nx.rp {H H1 : Hp} {c c' : Addr -> Nat} {k : Nat} {v : V} {d : PySem.W.Dat} (N : Nx H c c' H1) (h : Rp H (fun z => c z = k) v d) (h1 : k ≠ 1) (h2 : k ≠ 2) : Rp H1 (fun z => c' z = k) v d :=
 (h.mono (M := fun z => c' z = k) fun z hz e => (N.1 z e).trans hz).over N.2 fun z hz e m => by
  rw [N.1 z e] at hz
  rcases m with m | m
  ·exact h1 (hz.symm.trans m)
  ·exact h2 (hz.symm.trans m)
theorem Nx.pw {A : Ad} {H H1 : Hp} {c c' : Addr -> Nat} {k : Nat} {o : Addr} {p : Pd} (N : Nx H c c' H1) (h : c5r A H (fun z => c z = k) o p) (h1 : k ≠ 1) (h2 : k ≠ 2) : c5r A H1 (fun z => c' z = k) o p :=
 (h.mono (M := fun z => c' z = k) fun z hz e => (N.1 z e).trans hz).over N.2 fun z hz e m => by
  rw [N.1 z e] at hz
  rcases m with m | m
  ·exact h1 (hz.symm.trans m)
  ·exact h2 (hz.symm.trans m)
theorem Nx.lst {H H1 : Hp} {c c' : Addr -> Nat} {z : Addr} {u : HO} (N : Nx H c c' H1) (h : H z = some u) (h1 : c z ≠ 1) (h2 : c z ≠ 2) : H1 z = some u /\ c' z = c z := ⟨N.2 _ _ (fun m => absurd m fun m => m.elim h1 h2) h, N.1 z (live h)⟩
theorem Nx.hl {H H1 : Hp} {c c' : Addr -> Nat} {h : Addr} (N : Nx H c c' H1) (x : Hl H c h) : Hl H1 c' h := by
 obtain ⟨a, b, d, h1, h2, h3, h4⟩ := x
 exact ⟨a, b, d, N.2 _ _ (fun _ ys q => by cases q) h1, N.rp h2 (by decide) (by decide), N.rp h3 (by decide) (by decide), h4⟩
theorem Hl.same {H H1 : Hp} {c : Addr -> Nat} {h : Addr} (x : Hl H c h) (S : Same H H1) : Hl H1 c h := by
 obtain ⟨a, b, d, h1, h2, h3, h4⟩ := x
 exact ⟨a, b, d, S _ _ h1, h2.same S, h3.same S, h4⟩
theorem Hl.col {H : Hp} {c c' : Addr -> Nat} {h : Addr} (x : Hl H c h) (hc : ∀ z, H z ≠ none -> c' z = c z) : Hl H c' h := by
 obtain ⟨a, b, d, h1, h2, h3, h4⟩ := x
 exact ⟨a, b, d, h1, h2.mono fun z hz e => (hc z e).trans hz, h3.mono fun z hz e => (hc z e).trans hz, h4⟩
theorem Hl.put {D : Addr} {ys : List V} {H H1 : Hp} {c : Addr -> Nat} {h : Addr} (x : Hl H c h) (hD : H D = some (.lst ys)) (nD : c D ≠ 4) (B : a2i D H H1) : Hl H1 c h := by
 obtain ⟨a, b, d, h1, h2, h3, h4⟩ := x
 exact ⟨a, b, d, B _ _ (fun q => by rw [q, hD] at h1; cases h1) h1, h2.put hD nD B, h3.put hD nD B, h4⟩
theorem f9p {α : Type} {l : List α} {i j : Nat} {x : α} (nd : l.Nodup) (h1 : l[i]? = some x) (h2 : l[j]? = some x) : i = j := by
 obtain ⟨i1, e1⟩ := List.getElem?_eq_some_iff.mp h1
 obtain ⟨i2, e2⟩ := List.getElem?_eq_some_iff.mp h2
 rcases Nat.lt_trichotomy i j with h | h | h
 ·exact absurd (e1.trans e2.symm) (List.pairwise_iff_getElem.mp nd i j i1 i2 h)
 ·exact h
 ·exact absurd (e2.trans e1.symm) (List.pairwise_iff_getElem.mp nd j i i2 i1 h)
theorem l4w (T : Tx K mg A) : a1n P A.wd K mg base CX0 15 A.i4v A.j8p ["_law_script"] (i4a 63 K) := by
 have h1a : a1n P A.wd K mg base CX0 1 _ _ _ _ := k8s T
 have i6u : a1n P A.wd K mg base CX0 1 _ _ _ _ := k3m T
 have c5v : a1n P A.wd K mg base CX0 2 _ _ _ _ := k3p T
 have i6v : a1n P A.wd K mg base CX0 2 _ _ _ _ := k3o T
 have j3r : a1n P A.wd K mg base CX0 14 _ _ _ _ := k8u T
 have f6y : a1n P A.wd K mg base CX0 1 _ _ _ _ := l8v T
 have c5u : a1n P A.wd K mg base CX0 3 _ _ _ _ := k5m T
 have d6p : a1n P A.wd K mg base CX0 3 _ _ _ _ := k5n T
 have a0w := T.a0w
 have a0k := T.a0k
 have a0o := T.a0o
 have a0n := T.a0n
 have a0p := T.a0p
 refine T.k2r.ok c2r (fun vs H Q E h => ?_) (fun cdv A' outer s H vs Q E hr h => ?_)
 ·obtain ⟨a, ns, rfl, _⟩ := h
  rfl
 ·obtain ⟨a, ns, rfl, hS, hl, hbit, hO, q⟩ := h
  have hu := hr.units
  have g4x : a2z 1 _ := hr.mono (by decide)
  have h7g : a2z 1 _ := hr.mono (by decide)
  have c0t : a2z 2 _ := hr.mono (by decide)
  have h7h : a2z 2 _ := hr.mono (by decide)
  have i6w : a2z 14 _ := hr.mono (by decide)
  have f1q : a2z 2 _ := hr.mono (by decide)
  have c1s : a2z 3 _ := hr.mono (by decide)
  have d0v : a2z 3 _ := hr.mono (by decide)
  have hs : sizeLine = 16777216 := sizeLine_eq
  have bc : ∀ k : Nat, intBits (ns.getD k 0) <= 1100000 := fun k => Nat.le_trans (j7t hbit k) (by decide)
  refine ⟨_, (a0i (a1i (i := 1) c2r.nd rfl (Or.inl rfl) (a0u i6u h7g (by rfl) T.i4y T.b8t.kp T.d6l .nil a1g (a0g (a0u h1a g4x (by rfl) T.g9w T.b2t.kp T.c5n .nil a1g (a0g (pvF 0) (a0g a0l a0j))) a0j)))
   (a0i (a1i (i := 2) c2r.nd rfl (Or.inl rfl) (h5j T.j8x f6y f1q (by rfl) T.d3h T.c0o .nil a1g))
   (a0i (a1i (i := 3) c2r.nd rfl (Or.inl rfl) (h5j T.j8x f6y f1q (by rfl) T.d3h T.c0o .nil a1g))
   (a0i (a3n (b6q (pvF 3) T.a0w T.d3u c5u c1s T.b6v .nil a1g (a0g (a0v a3j (pvF 1) a0l (fun _ _ => rfl)) a0j)))
   (a0i (a3n (b6q (pvF 3) T.a0w T.f6r d6p d0v T.c5k .nil a1g (a0g (a0v a3j (pvF 1) a0l (fun _ _ => rfl)) a0j)))
   (a0i (a1i (i := 4) c2r.nd rfl (Or.inl rfl) (a2j (a0g (a2j a0j) (a0g (a2j a0j) (a0g (a2j a0j) (a0g (a2j a0j) a0j))))))
   (a7z (a1i (i := 5) c2r.nd rfl (Or.inl rfl) (a2j a0j))
   (a0i (a7w PassesOwn.never rfl (a3o (b5i l7e (pvF 0) (b2h a0l) (b2h a0l))) (a3v (i := 6) c2r.nd rfl (Or.inl rfl))
   (a7z (a1i (i := 7) c2r.nd rfl (Or.inl rfl) (a2y b7w (a2y a7y (pvF 6) a0l) (a2y b0p (a2y j7q a0l a0l) a0l)))
   (a0i (a4j (b2z (a4y (a0u j3r i6w (by rfl) T.j2q T.c3j.kp T.f3u .nil a1g (a0g (pvF 2) (a0g (pvF 4) (a0g (pvF 1) (a0g (pvF 7) a0j)))))))
   (a0m (a0z d4s))
   a1j)
   (a0i (a1i (i := 8) c2r.nd rfl (Or.inl rfl) (a0u c5v c0t (by rfl) T.c5o T.a8y.kp T.b4w .nil a1g (a0g (pvF 2) (a0g (b6i (b7u hu) (a2y b7w (pvF 7) a0l) a0l (a1r _)) a0j))))
   (a0i (a4j (pw_or (b2z (a4y (a0u i6v h7h (by rfl) T.i4z T.b8u.kp T.d6m .nil a1g (a0g (pvF 8) a0j)))) (pw_or1 (a0y (b3g hu) (pvF 8) (pvF 4) (a1r _)))).pt
   (a0m (a0z d4s))
   a1j)
   (a7z (a4j (a0y of_lt (a1l a3p (by rfl) T.b8w boot_len (a0g (pvF 5) a0j)) a0l (a1r _))
   (a0m (a3n (a7o a4m PySem.F.plainAttrs_list PySem.F.slot_list_append PySem.F.type_list_append a2s (pvF 5) (a0g (a9z (a0g (pvF 8) (a0g (b7z (a3o (pvF 8)) (fun _ _ _ _ _ => (a5k b7m (by rfl) T.c3k boot_list (a0g (pvF 0) a0j))) (d3k (sc := a0h i4m) (N := ["_law_script", "_law_names_here", "_law_patch", "_law_beside", "_law_due", "_law_held", "_law_cell", "_law_mixed", "_law_told", "_law_spoiled", "_law_rows", "_law_copies"]) rfl rfl (by decide +kernel)) rfl) a0j))) a0j))))
   a1j)
   (a7z (a1i (i := 9) c2r.nd rfl (Or.inl rfl) (a0u c5v c0t (by rfl) T.c5o T.a8y.kp T.b4w .nil a1g (a0g (pvF 2) (a0g (b6i (b7u hu) (a2y b7w (pvF 7) a0l) a0l (a1r _)) a0j))))
   (a7z (a7w PassesOwn.never rfl (a3o (pvF 9)) (a3v (i := 10) c2r.nd rfl (Or.inl rfl))
   (a0m (a3n (a7o a4m PySem.F.plainAttrs_list PySem.F.slot_list_append PySem.F.type_list_append a2s (pvF 10) (a0g a3s a0j)))))
   (a0m (a4j (a0y g4e (a1l a3p (by rfl) T.b8w boot_len (a0g (a0v a3j (pvF 4) a0l (fun _ _ => rfl)) a0j)) a0l (a1r _))
   (a0m (a3n (a7o a4m PySem.F.plainAttrs_list PySem.F.slot_list_append PySem.F.type_list_append a2s (a0v a3j (a0v a3j (a0v a3j (pvF 9) a0l (fun _ _ => rfl)) a0l (fun _ _ => rfl)) a0l (fun _ _ => rfl)) (a0g a3s a0j))))
   a1j))))))))))
   (a0i (a7w PassesOwn.never rfl (a3o (pvF 5)) (g9j (n := 2) rfl (b2k (a3v (i := 8) c2r.nd rfl (Or.inl rfl)) (b2k (a3v (i := 11) c2r.nd rfl (Or.inl rfl)) f9u)))
   (a0m (a4j (a0y (b3g hu) (pvF 8) (pvF 11) (a1r _))
   (a0m (a0z d4s))
   a1j)))
   (a0m (a0z (i4b (b6i (b7u hu) (a0u c5v c0t (by rfl) T.c5o T.a8y.kp T.b4w .nil a1g (a0g (pvF 2) (a0g d4s a0j))) (pvF 4) (a1r _)) (j6n (b6i (b7u hu) (a0u c5v c0t (by rfl) T.c5o T.a8y.kp T.b4w .nil a1g (a0g (pvF 3) (a0g d4s a0j))) (a2j (a0g (a2j (a0g (a0v a3j (pvF 1) a0l (fun _ _ => rfl)) a0j)) (a0g (a2j (a0g (a0v a3j (pvF 1) a0l (fun _ _ => rfl)) a0j)) (a0g (a2j a0j) (a0g (a2j a0j) a0j))))) (a1r _))))))))))))))), ?_⟩
  walk_at "rd"
  refine ⟨ns, hS, bc 0, fun nm ln H1 n12' nd nms nl S1 hln => ?_⟩
  obtain ⟨x0, e0⟩ : ∃ x, nm[0]? = some x := ⟨_, List.getElem?_eq_getElem (by omega)⟩
  obtain ⟨x1, e1⟩ : ∃ x, nm[1]? = some x := ⟨_, List.getElem?_eq_getElem (by omega)⟩
  have x01 : x0 ≠ x1 := fun e => by
   obtain ⟨i0, j0⟩ := List.getElem?_eq_some_iff.mp e0
   obtain ⟨i1, j1⟩ := List.getElem?_eq_some_iff.mp e1
   exact (List.pairwise_iff_getElem.mp nd 0 1 i0 i1 (by decide)) (by rw [j0, j1, e])
  have at0 : atI (nm.map V.str) (0 : Int) = some (.str x0) := b2g (j := 0) (by rw [List.getElem?_map, e0]; rfl)
  have at1 : atI (nm.map V.str) (1 : Int) = some (.str x1) := b2g (j := 1) (by rw [List.getElem?_map, e1]; rfl)
  have m0 := nms x0 (List.mem_of_getElem? e0)
  have m1 := nms x1 (List.mem_of_getElem? e1)
  intro o odx H2 n2 n2' ndo S2 hdo ho
  refine ⟨odx, ho, fun H3 B3 P3 => ?_⟩
  rw [asNew]
  refine ⟨rfl, ?_⟩
  have S13 : Same H1 H3 := fun z u e => B3 _ _ (fun ze => by rw [ze] at e; rw [e] at n2; cases n2) (S2 _ _ e)
  have P3' : c5r A H3 (fun z => H1 z = none) o ⟨[], [], [], []⟩ := P3.mono fun z hz _ => S2.free hz
  clear P3 hdo ho B3 S2
  walk_at "rd"
  intro o2 odx2 H4 n4 n4' ndo2 S4 hdo2 ho2
  refine ⟨odx2, ho2, fun H5 B5 P5 => ?_⟩
  rw [asNew]
  refine ⟨rfl, ?_⟩
  have S35 : Same H3 H5 := fun z u e => B5 _ _ (fun ze => by rw [ze] at e; rw [e] at n4; cases n4) (S4 _ _ e)
  have P5' : c5r A H5 (fun z => H3 z = none) o2 ⟨[], [], [], []⟩ := P5.mono fun z hz _ => S4.free hz
  have hln5 := S35 _ _ (S13 _ _ hln)
  obtain ⟨d2, t2, b2, s2, u2, ho5, _⟩ := id P5'
  unfold ptF at ho5
  clear P5 hdo2 ho2 B5 S4
  walk_at "rd*"
  refine ⟨_, _, P5', (by simp), (by simp), (by simp), fun H6 N6 P6 => ?_⟩
  have kp6 : ∀ {z : Addr} {u : HO}, H3 z = some u -> H6 z = some u := fun e => N6 _ _ (fun m => by rw [m] at e; cases e) (S35 _ _ e)
  have hln6 := kp6 (S13 _ _ hln)
  obtain ⟨d3, t3, b3, s3, u3, ho6, _⟩ := id P6
  unfold ptF at ho6
  clear ho5 hln5
  walk_at "rd*"
  refine ⟨_, _, P6, (by simpa using x01), (by simp), (by simp), fun H7 N7 P7 => ?_⟩
  have S37 : Same H3 H7 := fun z u e => N7 _ _ (fun m => by rw [m] at e; cases e) (kp6 e)
  have hln7 := S37 _ _ (S13 _ _ hln)
  clear ho6 hln6
  try walk_at "rd"
  intro t8 H8 n8 S8 h8
  walk_at "rd"
  refine ⟨by omega, fun b8 H9 n9 S9 h9 => ?_⟩
  walk_at "rd"
  refine ⟨by omega, fun s8 H10 n10 S10 h10 => ?_⟩
  walk_at "rd"
  refine ⟨by omega, fun u8 H11 n11 S11 h11 => ?_⟩
  try walk_at "rd"
  refine ⟨by omega, fun L H12 n12 S12 h12 => ?_⟩
  have ap : ∀ {H1 : Hp} {z y : Addr} {u : HO}, H1 z = none -> H1 y = some u -> y ≠ z := fun n e q => by rw [<- q, e] at n; cases n
  have l5t : Same H7 H12 := S8.trans (S9.trans (S10.trans (S11.trans S12)))
  have Q12 : Qd H12 (fun z => H7 z = none) L ⟨[], [], [], []⟩ := ⟨t8, b8, s8, u8, h12, (S8.trans (S9.trans (S10.trans S11))).free n12,
   ⟨⟨n8, ap n12 (S11 _ _ (S10 _ _ (S9 _ _ h8)))⟩, ⟨S8.free n9, ap n12 (S11 _ _ (S10 _ _ h9))⟩, ⟨(S8.trans S9).free n10, ap n12 (S11 _ _ h10)⟩, (S8.trans (S9.trans S10)).free n11, ap n12 h11⟩,
   ⟨ap n9 h8, ap n10 (S9 _ _ h8), ap n11 (S10 _ _ (S9 _ _ h8)), ap n10 h9, ap n11 (S10 _ _ h9), ap n11 h10⟩,
   S12 _ _ (S11 _ _ (S10 _ _ (S9 _ _ h8))), S12 _ _ (S11 _ _ (S10 _ _ h9)), ⟨[], S12 _ _ (S11 _ _ h10), .nil⟩, [], S12 _ _ h11, .nil⟩
  have l8x := S37.trans l5t
  have l8y := S13.trans l8x
  have P12 : c5r A H12 (fun z => H1 z = none /\ H3 z ≠ none) o ⟨[], [], [], []⟩ := (P3'.mono fun z hz e => ⟨hz, e⟩).same l8x
  have R12 : c5r A H12 (fun z => H3 z = none /\ H7 z ≠ none) o2 ⟨[x1], [x0], [], []⟩ := (P7.mono fun z hz e => ⟨hz, e⟩).same l5t
  have k8v := l8y _ _ hln
  clear n8 n9 n10 n11 h8 h9 h10 h11 n12 S8 S9 S10 S11 S12 P7 P6 P5' P3' hln7 N6 N7 kp6
  walk_at "rd"
  obtain ⟨Mid6, in6, out6⟩ := i4d (fun σ' H' => ∃ (hd : Addr) (c : Addr -> Nat), σ' = [some (.ref a), some (.ref ln), some (.ref o), some (.ref o2), some (.ref L), some (.ref hd), none, none, none, none, none, none] /\ Same H1 H' /\ Jn A H' c o L ⟨[], [], [], []⟩ 0 /\ c5r A H' (fun z => c z = 3) o2 ⟨[x1], [x0], [], []⟩ /\ H' ln = some (.lst (nm.map V.str)) /\ c ln = 0 /\ H' hd = some (.lst []) /\ c hd = 5 /\ (∀ z, H' z = none -> c z = 0))
  refine ⟨Mid6, ?_, ?_⟩
  ·walk_at "rd"
   refine ⟨by omega, fun hd H13 n13 S13' h13 => in6 _ _ ⟨hd, fun z => if z = hd then 5 else if (H1 z).isSome then 0 else if (H3 z).isSome then 1 else if (H7 z).isSome then 3 else if (H12 z).isSome then 2 else 0, rfl, l8y.trans S13', ⟨(P12.mono fun z hz e => ?_).same S13', (Q12.mono fun z hz e => ?_).same S13', ⟨(fun s h => by cases h), (fun s h => by cases h), (fun s h => by cases h), (fun s h => by cases h)⟩, Nat.le_refl _, Nat.le_refl _, Nat.le_refl _, Nat.le_refl _, (fun s h => by cases h)⟩, (R12.mono fun z hz e => ?_).same S13', S13' _ _ k8v, ?_, h13, ?_, fun z hz => ?_⟩⟩
   ·have zn : z ≠ hd := fun q => e (by rw [q]; exact n13)
    have i3 : (H3 z).isSome = true := Option.isSome_iff_ne_none.mpr hz.2
    simp only [zn, hz.1, i3, if_true, if_false, Option.isSome_none, Bool.false_eq_true]
   ·have zn : z ≠ hd := fun q => e (by rw [q]; exact n13)
    have i12 : (H12 z).isSome = true := Option.isSome_iff_ne_none.mpr e
    have z3 := S37.free hz
    have z1 := S13.free z3
    have z7 : H7 z = none := hz
    simp only [zn, z1, z3, z7, i12, if_true, if_false, Option.isSome_none, Bool.false_eq_true]
   ·have zn : z ≠ hd := fun q => e (by rw [q]; exact n13)
    have i7 : (H7 z).isSome = true := Option.isSome_iff_ne_none.mpr hz.2
    have z1 := S13.free hz.1
    simp only [zn, z1, hz.1, i7, if_true, if_false, Option.isSome_none, Bool.false_eq_true]
   ·have zn : ln ≠ hd := fun q => by rw [<- q, k8v] at n13; cases n13
    simp only [zn, hln, if_true, if_false, Option.isSome_some]
   ·exact if_pos rfl
   ·have zn : z ≠ hd := fun q => by rw [q, h13] at hz; cases hz
    have z12 := S13'.free hz
    have z7 := l5t.free z12
    have z3 := S37.free z7
    have z1 := S13.free z3
    simp only [zn, z1, z3, z7, z12, if_false, Option.isSome_none, Bool.false_eq_true]
  intro σ13 H13 hm13
  obtain ⟨hd, c, rfl, S113, J0, R0, hln0, cln, hhd, chd, cz⟩ := out6 _ _ hm13
  clear hm13 in6 out6 P12 R12 Q12 k8v l8y l8x l5t S37 S35 S13
  walk_at "rd*"
  refine ⟨_, (S1.trans S113).seq hS, fun lc H14 n14 S14 h14 => ?_⟩
  rw [j7v] at h14
  have hmem : ∀ x ∈ g8f ns (some 1) (some 31), intBits x <= 1100000 := fun x hx => Nat.le_trans (hbit x (k1y hx)) (by decide)
  have ml : (g8f ns (some 1) (some 31)).length <= 30 := by
   show (g8f ns (some ((1 : Nat) : Int)) (some ((31 : Nat) : Int))).length <= 30
   unfold g8f
   rw [HT.g9e, HT.g9e, List.length_take]
   omega
  generalize g8f ns (some 1) (some 31) = ms at h14 hmem ml
  try walk_at "rd"
  refine ⟨⟨_, SqL.of h14⟩, ?_⟩
  have clc : c lc = 0 := cz lc n14
  obtain ⟨Pv, pin, pout⟩ := d3l (fun i σ H' => ∃ (c : Addr -> Nat) (p : Pd) (hs : List Addr) (v6 v7 v8 v9 v10 v11 : Option V), σ = [some (.ref a), some (.ref ln), some (.ref o), some (.ref o2), some (.ref L), some (.ref hd), v6, v7, v8, v9, v10, v11] /\ Jn A H' c o L p i /\ c5r A H' (fun z => c z = 3) o2 ⟨[x1], [x0], [], []⟩ /\ (H' ln = some (.lst (nm.map V.str)) /\ c ln = 0) /\ (H' lc = some (.lst (ms.map V.int)) /\ c lc = 0) /\ (H' hd = some (.lst (hs.map V.ref)) /\ c hd = 5) /\ (∀ h ∈ hs, Hl H' c h) /\ hs.length <= 6)
  refine b0g (xs := ms.map V.int) Pv (pin _ _ _ ⟨c, _, [], _, _, _, _, _, _, rfl, ⟨J0.1.same S14, J0.2.1.same S14, J0.2.2⟩, R0.same S14, ⟨S14 _ _ hln0, cln⟩, ⟨h14, clc⟩, ⟨S14 _ _ hhd, chd⟩, (fun h hh => by cases hh), by decide⟩) ?_ ?_ ?_
  ·intro i σ H15 hi hp
   obtain ⟨c, p, hs', v6, v7, v8, v9, v10, v11, rfl, _, _, _, ⟨h15, _⟩, _⟩ := pout _ _ _ hp
   exact SqL.of h15
  ·intro i v σ H15 hv hp
   clear J0 R0 hln0 cln hhd chd cz clc h14 c
   obtain ⟨c, p, hs', v6, v7, v8, v9, v10, v11, rfl, J1, R1, ⟨l1, cl1⟩, ⟨k1, ck1⟩, ⟨d1, cd1⟩, hh1, hl6⟩ := pout _ _ _ hp
   rw [List.getElem?_map] at hv
   obtain ⟨cc, hcc, rfl⟩ := Option.map_eq_some_iff.mp hv
   have bcc := hmem cc (List.mem_of_getElem? hcc)
   have hi := (List.getElem?_eq_some_iff.mp hcc).1
   clear hv hp
   obtain ⟨MidM, inM, outM⟩ := i4d (fun σ' H' => ∃ M : Int, σ' = [some (.ref a), some (.ref ln), some (.ref o), some (.ref o2), some (.ref L), some (.ref hd), some (.int cc), some (.int M), v8, v9, v10, v11] /\ H' = H15)
   try walk_at "rd"
   refine ⟨MidM, ?_, ?_⟩
   ·walk_at "rd"
    exact ⟨by walk_at "mul", by decide, inM _ _ ⟨_, rfl, rfl⟩⟩
   intro σ16 H16 hm16
   obtain ⟨M, rfl, rfl⟩ := outM _ _ hm16
   clear hm16 inM outM
   walk_at "rd"
   refine ⟨c, p, i, J1, nm, l1, cl1, nms, n12', by omega, fun H17 c2 p2 N17 J17 => ?_⟩
   have R17 := N17.pw R1 (by decide) (by decide)
   have l17 := N17.lst l1 (by rw [cl1]; decide) (by rw [cl1]; decide)
   have k17 := N17.lst k1 (by rw [ck1]; decide) (by rw [ck1]; decide)
   have d17 := N17.lst d1 (by rw [cd1]; decide) (by rw [cd1]; decide)
   have m0u : ∀ h ∈ hs', Hl H17 c2 h := fun h hm => N17.hl (hh1 h hm)
   rw [cl1] at l17
   rw [ck1] at k17
   rw [cd1] at d17
   clear J1 R1 l1 cl1 k1 ck1 d1 cd1 hh1 N17 c p
   obtain ⟨P17, Q17, ok, le⟩ := J17
   have j3s : l3w p2 100 := ⟨by have := le.1; omega, by have := le.2.1; omega, by have := le.2.2.1; omega, by have := le.2.2.2.1; omega, le.2.2.2.2⟩
   try walk_at "rd"
   refine ⟨_, p2, P17, j3s, fun L2 H18 S18 T18 => ?_⟩
   try walk_at "rd"
   refine ⟨_, p2, T18, j3s, fun H19 S19 => ?_⟩
   have g4y := S18.trans S19
   try walk_at "rd"
   refine (T18.rp.same S19).ne (Q17.rp.same g4y) ok.k (by decide) ?_
   try walk_at "rd"
   obtain ⟨c4, ec4⟩ : ∃ c4 : Addr -> Nat, ∀ z, c4 z = if (H17 z).isNone then 4 else c2 z := ⟨_, fun _ => rfl⟩
   have c4l : ∀ z, H17 z ≠ none -> c4 z = c2 z := fun z hz => by rw [ec4, if_neg (by simpa using hz)]
   have c4n : ∀ z, H17 z = none -> c4 z = 4 := fun z hz => by rw [ec4, hz]; rfl
   have P19 : c5r A H19 (fun z => c4 z = 1) o p2 := (P17.mono fun z hz e => (c4l z e).trans hz).same g4y
   have Q19 : Qd H19 (fun z => c4 z = 2) L p2 := (Q17.mono fun z hz e => (c4l z e).trans hz).same g4y
   have R19 : c5r A H19 (fun z => c4 z = 3) o2 ⟨[x1], [x0], [], []⟩ := (R17.mono fun z hz e => (c4l z e).trans hz).same g4y
   have l8z : ∀ h ∈ hs', Hl H19 c4 h := fun h hm => ((m0u h hm).col c4l).same g4y
   have l19 := g4y _ _ l17.1
   have k19 := g4y _ _ k17.1
   have d19 := g4y _ _ d17.1
   have m0v := (c4l _ (live l17.1)).trans l17.2
   have m0w := (c4l _ (live k17.1)).trans k17.2
   have l5u := (c4l _ (live d17.1)).trans d17.2
   have T19 := T18.same S19
   have n17 : ∀ {z}, H19 z = none -> H17 z = none := fun h => g4y.free h
   clear P17 Q17 R17 m0u l17 k17 d17 T18 S18 S19 g4y ec4
   obtain ⟨Mid4, in4, out4⟩ := i4d (fun σ' H' => ∃ hs4 : List Addr, σ' = [some (.ref a), some (.ref ln), some (.ref o), some (.ref o2), some (.ref L), some (.ref hd), some (.int cc), some (.int M), some (.ref L2), v9, v10, v11] /\ c5r A H' (fun z => c4 z = 1) o p2 /\ Qd H' (fun z => c4 z = 2) L p2 /\ c5r A H' (fun z => c4 z = 3) o2 ⟨[x1], [x0], [], []⟩ /\ H' ln = some (.lst (nm.map V.str)) /\ H' lc = some (.lst (ms.map V.int)) /\ H' hd = some (.lst (hs4.map V.ref)) /\ (∀ h ∈ hs4, Hl H' c4 h) /\ hs4.length <= 6)
   refine ⟨Mid4, ?_, ?_⟩
   ·obtain ⟨t9, b9, s9, u9, hL9, nL9, F9⟩ := id T19
    walk_at "rd*"
    split
    ·rename_i h6
     refine ⟨⟨_, SqL.of hL9⟩, fun D H20 n20 S20 h20 => ?_⟩
     obtain ⟨⟨m1, m2, m3, m4⟩, _, ft, fb, ⟨us9, fs, Rs⟩, vs9, fu, Ru⟩ := F9
     have al : ∀ (i : Nat) v, [V.ref t9, .ref b9, .ref s9, .ref u9][i]? = some v -> ∃ x ys ds, v = .ref x /\ H19 x = some (.lst ys) /\ [g0o p2.ts, g0o p2.bs, .list (p2.es.map dSd), .list (p2.os.map dOu)][i]? = some (.list ds) /\ RpL H19 (fun z => H17 z = none /\ z ≠ D) ys ds := fun i v hv => by
      match i, hv with
      | 0, hv => cases hv; exact ⟨_, _, _, rfl, ft, rfl, RpL.strs _⟩
      | 1, hv => cases hv; exact ⟨_, _, _, rfl, fb, rfl, RpL.strs _⟩
      | 2, hv => cases hv; exact ⟨_, _, _, rfl, fs, rfl, Rs.mono fun z hz e => ⟨hz.1.1, fun q => e (by rw [q]; exact n20)⟩⟩
      | 3, hv => cases hv; exact ⟨_, _, _, rfl, fu, rfl, g0p Ru⟩
     refine b3j (xs := [V.ref t9, .ref b9, .ref s9, .ref u9]) (fun i ys H' => Same H19 H' /\ H' D = some (.lst ys) /\ RpL H' (fun z => H17 z = none /\ z ≠ D) ys ([g0o p2.ts, g0o p2.bs, .list (p2.es.map dSd), .list (p2.os.map dOu)].take i)) ⟨S20, h20, .nil⟩ (by rw [hs]; show 4 <= 16777216; decide) ?_ ?_ ?_
     ·intro i ys H' hi ⟨S', h', R'⟩
      refine ⟨h', SqL.of (S' _ _ hL9), ?_⟩
      rw [R'.len, List.length_take]
      exact Nat.min_eq_left hi
     ·intro i x ys H' hx ⟨S', h', R'⟩
      obtain ⟨y, zs, ds, rfl, hy, hd', ry⟩ := al i x hx
      have hy' := S' _ _ hy
      clear hx hy al hL9 h20
      walk_at "rd*"
      refine fun l21 H21 n21 S21 h21 => ⟨S21 _ _ h', fun H22 B22 h22 => ⟨(S'.trans S21).step n20 B22, h22, ?_⟩⟩
      rw [List.take_add_one, hd']
      exact ((R'.same S21).snoc (.lst ⟨n17 (S'.free n21), fun q => by rw [q, h'] at n21; cases n21⟩ h21 (ry.same (S'.trans S21)))).put (S21 _ _ h') (fun z => z.2 rfl) B22
     ·intro ys H21 ⟨S21, h21, R21⟩
      have rD : Rp H21 (fun z => c4 z = 4) (.ref D) (dPd p2) := .lst (c4n _ (n17 n20)) h21 (R21.mono fun z hz _ => c4n z hz.1)
      have rL : Rp H21 (fun z => c4 z = 4) (.ref L2) (dPd p2) := (T19.rp.same S21).mono fun z hz _ => c4n z hz
      have d21 := S21 _ _ d19
      clear h20 h21 al
      walk_at "rd*"
      refine fun h H22 n22 S22 h22 => ?_
      have d22 := S22 _ _ d21
      have j3t := S21.trans S22
      clear d21
      walk_at "rd*"
      refine ⟨by omega, ?_⟩
      rintro _ H23 ⟨rfl, B23, h23⟩
      have N23 := a4q.one (N := (· = hd)) d22 rfl B23
      have ne5 : ∀ {k : Nat} (z : Addr), c4 z = k -> k ≠ 5 -> z ≠ hd := fun z e k5 q => k5 (by rw [<- e, q]; exact l5u)
      refine in4 _ _ ⟨hs' ++ [h], rfl, (P19.same j3t).over N23 fun z hz _ => ne5 z hz (by decide), (Q19.same j3t).over N23 fun z hz _ => ne5 z hz (by decide), (R19.same j3t).over N23 fun z hz _ => ne5 z hz (by decide), B23 _ _ (ne5 _ m0v (by decide)) (j3t _ _ l19), B23 _ _ (ne5 _ m0w (by decide)) (j3t _ _ k19), by rw [h23, List.map_append]; rfl, fun g hg => ?_, by rw [List.length_append, List.length_singleton]; omega⟩
      rcases List.mem_append.mp hg with hg | hg
      ·exact ((l8z g hg).same j3t).put d22 (by rw [l5u]; decide) B23
      ·obtain rfl := List.mem_singleton.mp hg
       exact (show Hl H22 c4 g from ⟨L2, D, dPd p2, h22, rL.same S22, rD.same S22, ok.k⟩).put d22 (by rw [l5u]; decide) B23
    ·exact in4 _ _ ⟨hs', rfl, P19, Q19, R19, l19, k19, d19, l8z, hl6⟩
   intro σ20 H20 hm20
   obtain ⟨hs4, rfl, P20, Q20, R20, l20, k20, d20, hh20, hl4⟩ := out4 _ _ hm20
   clear hm20 in4 out4 P19 Q19 R19 l19 k19 d19 l8z T19 hl6 n17
   obtain ⟨Mid5, in5, out5⟩ := i4d (fun σ' H' => ∃ L5 : Addr, σ' = [some (.ref a), some (.ref ln), some (.ref o), some (.ref o2), some (.ref L), some (.ref hd), some (.int cc), some (.int M), some (.ref L2), some (.ref L5), v10, v11] /\ Same H20 H' /\ Qd H' (fun z => H20 z = none) L5 p2)
   refine ⟨Mid5, ?_, ?_⟩
   ·walk_at "rd"
    refine ⟨_, p2, P20, j3s, fun L5 H21 S21 T21 => ?_⟩
    try walk_at "rd"
    exact in5 _ _ ⟨L5, rfl, S21, T21⟩
   intro σ21 H21 hm21
   obtain ⟨L5, rfl, S21, T21⟩ := out5 _ _ hm21
   clear hm21 in5 out5
   obtain ⟨t5, b5, s5, u5, hL5, nL5, F5⟩ := T21
   obtain ⟨⟨m1, m2, m3, m4⟩, dd, ft, fb, ⟨us5, fs, Rs⟩, vs5, fu, Ru⟩ := F5
   obtain ⟨q1, q2, q3, q4, q5⟩ := j3s
   have us5l := Rs.j6g
   have vs5l := Ru.j6g
   have nd5 : [t5, b5, s5, u5].Nodup := by
    obtain ⟨e1, e2, e3, e4, e5, e6⟩ := dd
    simp [e1, e2, e3, e4, e5, e6]
   have dead : ∀ {x}, x ∈ [t5, b5, s5, u5] -> H20 x = none /\ x ≠ L5 := fun hx => by
    simp only [List.mem_cons, List.mem_nil_iff, or_false] at hx
    rcases hx with rfl | rfl | rfl | rfl <;> assumption
   have nNw : ∀ {x}, x ∈ [t5, b5, s5, u5] -> ¬ Nw (fun z => H20 z = none /\ z ≠ L5) t5 b5 s5 u5 x := fun hx n => by
    simp only [List.mem_cons, List.mem_nil_iff, or_false] at hx
    obtain ⟨_, e1, e2, e3, e4⟩ := n
    rcases hx with h | h | h | h
    ·exact e1 h
    ·exact e2 h
    ·exact e3 h
    ·exact e4 h
   obtain ⟨bs5, ebs⟩ : ∃ bs5 : List (List V), bs5 = [p2.ts.map V.str, p2.bs.map V.str, us5, vs5] := ⟨_, rfl⟩
   have b5l : ∀ (k : Nat) y, bs5[k]? = some y -> y.length <= 100 := fun k y hy => by
    rw [ebs] at hy
    match k, hy with
    | 0, hy => cases hy; rw [List.length_map]; exact q1
    | 1, hy => cases hy; rw [List.length_map]; exact q2
    | 2, hy => cases hy; omega
    | 3, hy => cases hy; omega
   have l9a : ∀ (k : Nat) x y, [t5, b5, s5, u5][k]? = some x -> bs5[k]? = some y -> ∃ wl : List V, H21 x = some (.lst (y ++ wl)) /\ wl.length <= 0 := fun k x y hx hy => by
    rw [ebs] at hy
    refine ⟨[], ?_, Nat.le_refl _⟩
    rw [List.append_nil]
    match k, hx, hy with
    | 0, hx, hy => cases hx; cases hy; exact ft
    | 1, hx, hy => cases hx; cases hy; exact fb
    | 2, hx, hy => cases hx; cases hy; exact fs
    | 3, hx, hy => cases hx; cases hy; exact fu
   obtain ⟨Mid6, in6, out6⟩ := i4d (fun σ' H' => ∃ (v10 : Option V) (wl : List V), σ' = [some (.ref a), some (.ref ln), some (.ref o), some (.ref o2), some (.ref L), some (.ref hd), some (.int cc), some (.int M), some (.ref L2), some (.ref L5), v10, v11] /\ Same H20 H' /\ H' L5 = some (.lst [.ref t5, .ref b5, .ref s5, .ref u5]) /\ H' s5 = some (.lst (us5 ++ wl)) /\ RpL H' (Nw (fun z => H20 z = none /\ z ≠ L5) t5 b5 s5 u5) us5 (p2.es.map dSd))
   refine ⟨Mid6, ?_, ?_⟩
   ·clear ft fb fs fu Ru
    walk_at "rd*"
    refine ⟨⟨_, SqL.of hL5⟩, ?_⟩
    obtain ⟨Pw, win, wout⟩ := d3l (fun j σ H' => ∃ v10 : Option V, σ = [some (.ref a), some (.ref ln), some (.ref o), some (.ref o2), some (.ref L), some (.ref hd), some (.int cc), some (.int M), some (.ref L2), some (.ref L5), v10, v11] /\ Same H20 H' /\ H' L5 = some (.lst [.ref t5, .ref b5, .ref s5, .ref u5]) /\ (∀ (k : Nat) x y, [t5, b5, s5, u5][k]? = some x -> bs5[k]? = some y -> ∃ wl : List V, H' x = some (.lst (y ++ wl)) /\ wl.length <= j) /\ RpL H' (Nw (fun z => H20 z = none /\ z ≠ L5) t5 b5 s5 u5) us5 (p2.es.map dSd))
    refine b0g (xs := [t5, b5, s5, u5].map V.ref) Pw (win _ _ _ ⟨_, rfl, S21, hL5, l9a, Rs⟩) (fun j σ H' hj hp => ?_) (fun j v σ H' hv hp => ?_) (fun σ H' hp => ?_)
    ·obtain ⟨v10', rfl, _, hL', _⟩ := wout _ _ _ hp
     exact SqL.of hL'
    ·obtain ⟨v10', rfl, S', hL', all', R'⟩ := wout _ _ _ hp
     rw [List.getElem?_map] at hv
     obtain ⟨x, hx, rfl⟩ := Option.map_eq_some_iff.mp hv
     have hj := (List.getElem?_eq_some_iff.mp hx).1
     have hj4 : j < 4 := hj
     obtain ⟨y, hy⟩ : ∃ y, bs5[j]? = some y := ⟨_, List.getElem?_eq_getElem (by rw [ebs]; exact hj)⟩
     obtain ⟨wl, hxy, wll⟩ := all' j x y hx hy
     have yl := b5l j y hy
     have xm := List.mem_of_getElem? hx
     clear hv hp hL5 l9a b5l
     walk_at "rd*"
     refine ⟨by omega, ?_⟩
     rintro _ H22 ⟨rfl, B22, h22⟩
     refine win _ _ _ ⟨_, rfl, S'.step (dead xm).1 B22, B22 _ _ (Ne.symm (dead xm).2) hL', fun k x' y' hx' hy' => ?_, R'.put hxy (nNw xm) B22⟩
     by_cases hk : k = j
     ·subst hk
      rw [hx] at hx'
      cases hx'
      rw [hy] at hy'
      cases hy'
      exact ⟨wl ++ [_], by rw [h22, List.append_assoc], by rw [List.length_append, List.length_singleton]; omega⟩
     ·obtain ⟨w2, h2, w2l⟩ := all' k x' y' hx' hy'
      refine ⟨w2, B22 _ _ (fun e => hk ?_) h2, by omega⟩
      rw [<- e] at hx
      exact f9p nd5 hx' hx
    ·obtain ⟨v10', rfl, S', hL', all', R'⟩ := wout _ _ _ hp
     obtain ⟨wl, h2, _⟩ := all' 2 s5 us5 rfl (by rw [ebs]; rfl)
     exact in6 _ _ ⟨_, wl, rfl, S', hL', h2, R'⟩
   intro σ22 H22 hm22
   obtain ⟨v10', wl, rfl, S22, hL22, hs22, R22⟩ := out6 _ _ hm22
   clear hm22 in6 out6 l9a b5l ft fb fs fu Ru Rs hL5 dead nNw
   have fin : ∀ {H' : Hp}, Same H20 H' -> Pv (i + 1) [some (.ref a), some (.ref ln), some (.ref o), some (.ref o2), some (.ref L), some (.ref hd), some (.int cc), some (.int M), some (.ref L2), some (.ref L5), v10', v11] H' := fun S => pin _ _ _ ⟨c4, p2, hs4, _, _, _, _, _, _, rfl, ⟨P20.same S, Q20.same S, ok, le⟩, R20.same S, ⟨S _ _ l20, m0v⟩, ⟨S _ _ k20, m0w⟩, ⟨S _ _ d20, l5u⟩, fun h hm => (hh20 h hm).same S, hl4⟩
   obtain ⟨tq, bq, sq, uq, hLq, _, Fq⟩ := Q20.same S22
   obtain ⟨usq, hsq, Rq⟩ := Fq.hs
   have uql := Rq.j6g
   clear Fq
   walk_at "rd*"
   split
   ·rename_i h0
    obtain ⟨v0, hv0⟩ : ∃ v, us5[0]? = some v := ⟨_, List.getElem?_eq_getElem (by omega)⟩
    obtain ⟨e, pe, lw, he, rfl, hpe, nlw, hlw⟩ := R22.at3 hv0
    have a0 : atI (us5 ++ wl) (0 : Int) = some (.ref pe) := b2g (j := 0) (by rw [List.getElem?_append_left (by omega)]; exact hv0)
    have el := q5 e (List.mem_of_getElem? he)
    clear hLq hsq
    walk_at "rd*"
    refine ⟨by omega, ?_⟩
    rintro _ H23 ⟨rfl, B23, h23⟩
    exact fin (S22.step nlw.1.1 B23)
   ·first | exact trivial | exact fin S22
  ·intro σ H15 hp
   obtain ⟨c, p, hs', v6, v7, v8, v9, v10, v11, rfl, J1, R1, ⟨l1, _⟩, _, ⟨d1, cd1⟩, hh1, hl6⟩ := pout _ _ _ hp
   clear J0 R0 hln0 cln hhd chd cz clc h14
   walk_at "rd*"
   refine ⟨⟨_, SqL.of d1⟩, ?_⟩
   obtain ⟨Pw, win, wout⟩ := d3l (fun i σ H' => ∃ v8 v11 : Option V, σ = [some (.ref a), some (.ref ln), some (.ref o), some (.ref o2), some (.ref L), some (.ref hd), v6, v7, v8, v9, v10, v11] /\ H15 = H')
   refine b0g (xs := hs'.map V.ref) Pw (win _ _ _ ⟨_, _, rfl, rfl⟩) (fun i σ H' hi hp => ?_) (fun i v σ H' hv hp => ?_) (fun σ H' hp => ?_)
   ·obtain ⟨v8, v11, rfl, rfl⟩ := wout _ _ _ hp
    exact SqL.of d1
   ·obtain ⟨v8, v11, rfl, rfl⟩ := wout _ _ _ hp
    rw [List.getElem?_map] at hv
    obtain ⟨h, hh, rfl⟩ := Option.map_eq_some_iff.mp hv
    obtain ⟨x, y, d, e1, r1, r2, k4⟩ := hh1 h (List.mem_of_getElem? hh)
    clear hv hp d1
    walk_at "rd*"
    refine r1.ne r2 k4 (by decide) ?_
    try walk_at "rd"
    exact win _ _ _ ⟨_, _, rfl, rfl⟩
   obtain ⟨v8, v11, rfl, rfl⟩ := wout _ _ _ hp
   clear hp win wout Pw
   obtain ⟨P1, Q1, ok, le⟩ := J1
   rw [List.length_map] at le
   have j3s : l3w p 100 := ⟨by have := le.1; omega, by have := le.2.1; omega, by have := le.2.2.1; omega, by have := le.2.2.2.1; omega, le.2.2.2.2⟩
   walk_at "rd*"
   refine ⟨_, p, P1, j3s, fun L2 H16 S16 T16 => ?_⟩
   try walk_at "rd"
   refine T16.rp.eq (Q1.rp.same S16) ok.k (by decide) ?_
   try walk_at "rd"
   refine ⟨_, _, R1.same S16, ⟨(by show 1 <= 100; decide), (by show 1 <= 100; decide), (by show 0 <= 100; decide), (by show 0 <= 100; decide), fun e he => by cases he⟩, fun L3 H17 S17 T17 => ?_⟩
   have m0x := S17 _ _ (S16 _ _ l1)
   clear d1 l1
   walk_at "rd*"
   intro a1 H18 n18 S18 h18
   have ln18 := S18 _ _ m0x
   clear m0x
   walk_at "rd*"
   intro a2 H19 n19 S19 h19
   walk_at "rd"
   refine ⟨by omega, fun a3 H20 n20 S20 h20 => ?_⟩
   walk_at "rd"
   refine ⟨by omega, fun a4 H21 n21 S21 h21 => ?_⟩
   walk_at "rd"
   refine ⟨by omega, fun a5 H22 n22 S22 h22 => ?_⟩
   have l9b := S18.trans (S19.trans (S20.trans (S21.trans S22)))
   try walk_at "rd"
   have rr : Rp H22 (fun _ => True) (.ref a5) (dPd ⟨[x1], [x0], [], []⟩) := .lst trivial h22 (.cons (.lst trivial (S22 _ _ (S21 _ _ (S20 _ _ (S19 _ _ h18)))) (.cons (.str _) .nil)) (.cons (.lst trivial (S22 _ _ (S21 _ _ (S20 _ _ h19))) (.cons (.str _) .nil)) (.cons (.lst trivial (S22 _ _ (S21 _ _ h20)) .nil) (.cons (.lst trivial (S22 _ _ h21) .nil) .nil))))
   have okb : l5l ⟨[x1], [x0], [], []⟩ := ⟨fun s h => by obtain rfl := List.mem_singleton.mp h; exact f3y m1, fun s h => by obtain rfl := List.mem_singleton.mp h; exact f3y m0, (fun s h => by cases h), fun s h => by cases h⟩
   refine (T17.rp.same l9b).eq rr okb.k (by decide) ?_
   exact q _
theorem all_mk {l : PySem.W.OpenLaw} {w : World} {K : PySem.W.Frag} {h : Heap} {mg : Str → Option Value} {fa : Addr} (X : K.In h) (G : h.Ns mainGlobals mg) (hfa : mg "law" = some (.ref fa))
  {d3r a9y a4z a4w a7u a7v a3z a6h a3l a1q : Addr}
  (g9x : PySem.W.nsIn K mainGlobals "Part" = some (some (.ref d3r)))
  (g1h : PySem.W.nsIn K mainGlobals "Gain" = some (some (.ref a9y)))
  (f1j : PySem.W.nsIn K mainGlobals "Delay" = some (some (.ref a4z)))
  (g1i : PySem.W.nsIn K mainGlobals "Echo" = some (some (.ref a4w)))
  (g1j : PySem.W.nsIn K mainGlobals "Back" = some (some (.ref a7u)))
  (g1k : PySem.W.nsIn K mainGlobals "Hall" = some (some (.ref a7v)))
  (f1k : PySem.W.nsIn K mainGlobals "Swell" = some (some (.ref a3z)))
  (f1l : PySem.W.nsIn K mainGlobals "Chain" = some (some (.ref a6h)))
  (c3l : PySem.W.nsIn K mainGlobals "Settler" = some (some (.ref a3l)))
  (d3h : PySem.W.nsIn K mainGlobals "Patch" = some (some (.ref a1q)))
  {b4l : Addr} {i6x i6y : Option Addr} {i6z : Array (Option Value)} {i7a i7b i7c i7d g1x i7e : Value}
  (f3z : PySem.W.nsIn K mainGlobals "is_whole" = some (some (.ref b4l))) (f4g : K.lookup b4l = some ⟨i7a, i6x, .func (PySem.W.fnOf "is_whole" "is_whole" (a0r b7n) (a0q b7n) (a0h b7n) .none i7b i7c i7d i6y g1x i7e), i6z⟩) (f4h : PySem.W.codeIn K g1x "is_whole" = true) (f4i : PySem.W.keepIn K (.ref b4l) = true)
  {a8i : Addr} {h1b h1c : Option Addr} {h1e : Array (Option Value)} {h1f h1g h1h h1i f1r h1j : Value}
  (d0w : PySem.W.nsIn K mainGlobals "is_figures" = some (some (.ref a8i))) (d0y : K.lookup a8i = some ⟨h1f, h1b, .func (PySem.W.fnOf "is_figures" "is_figures" (a0r b1m) (a0q b1m) (a0h b1m) .none h1g h1h h1i h1c f1r h1j), h1e⟩) (d0z : PySem.W.codeIn K f1r "is_figures" = true) (d1g : PySem.W.keepIn K (.ref a8i) = true)
  {b4m : Addr} {i7f i7g : Option Addr} {i7h : Array (Option Value)} {i7i i7j i7k i7l g1y i7m : Value}
  (f4j : PySem.W.nsIn K mainGlobals "whole_of" = some (some (.ref b4m))) (f4k : K.lookup b4m = some ⟨i7i, i7f, .func (PySem.W.fnOf "whole_of" "whole_of" (a0r b7o) (a0q b7o) (a0h b7o) .none i7j i7k i7l i7g g1y i7m), i7h⟩) (f4l : PySem.W.codeIn K g1y "whole_of" = true) (f4m : PySem.W.keepIn K (.ref b4m) = true)
  {b5u : Addr} {j3u j3v : Option Addr} {j3w : Array (Option Value)} {j3x j3y j3z j4a g8t j4b : Value}
  (g1z : PySem.W.nsIn K mainGlobals "divisor" = some (some (.ref b5u))) (g2a : K.lookup b5u = some ⟨j3x, j3u, .func (PySem.W.fnOf "divisor" "divisor" (a0r c2k) (a0q c2k) (a0h c2k) .none j3y j3z j4a j3v g8t j4b), j3w⟩) (g2b : PySem.W.codeIn K g8t "divisor" = true) (g2c : PySem.W.keepIn K (.ref b5u) = true)
  {b4n : Addr} {i7n i7o : Option Addr} {i7p : Array (Option Value)} {i7q i7r i7s i7t g2d i7u : Value}
  (f4n : PySem.W.nsIn K mainGlobals "multiple" = some (some (.ref b4n))) (f4o : K.lookup b4n = some ⟨i7q, i7n, .func (PySem.W.fnOf "multiple" "multiple" (a0r b7p) (a0q b7p) (a0h b7p) .none i7r i7s i7t i7o g2d i7u), i7p⟩) (f4p : PySem.W.codeIn K g2d "multiple" = true) (f4q : PySem.W.keepIn K (.ref b4n) = true)
  {b4o : Addr} {i7v i7w : Option Addr} {i7x : Array (Option Value)} {i7y i7z i8a i8b g2e i8c : Value}
  (f4r : PySem.W.nsIn K mainGlobals "fraction" = some (some (.ref b4o))) (f4s : K.lookup b4o = some ⟨i7y, i7v, .func (PySem.W.fnOf "fraction" "fraction" (a0r b7q) (a0q b7q) (a0h b7q) .none i7z i8a i8b i7w g2e i8c), i7x⟩) (f4t : PySem.W.codeIn K g2e "fraction" = true) (f4u : PySem.W.keepIn K (.ref b4o) = true)
  {g0s : Addr} {k8w k8x : Option Addr} {k8y : Array (Option Value)} {k8z k9a k9b k9c k0k k9d : Value}
  (k0l : PySem.W.nsIn K mainGlobals "plus" = some (some (.ref g0s))) (k0m : K.lookup g0s = some ⟨k8z, k8w, .func (PySem.W.fnOf "plus" "plus" (a0r g8k) (a0q g8k) (a0h g8k) .none k9a k9b k9c k8x k0k k9d), k8y⟩) (k0n : PySem.W.codeIn K k0k "plus" = true) (k0o : PySem.W.keepIn K (.ref g0s) = true)
  {d5k : Addr} {k3t k3u : Option Addr} {k3v : Array (Option Value)} {k3w k3x k3y k3z j1g k4a : Value}
  (i8d : PySem.W.nsIn K mainGlobals "times" = some (some (.ref d5k))) (i8e : K.lookup d5k = some ⟨k3w, k3t, .func (PySem.W.fnOf "times" "times" (a0r f2v) (a0q f2v) (a0h f2v) .none k3x k3y k3z k3u j1g k4a), k3v⟩) (i8f : PySem.W.codeIn K j1g "times" = true) (i8g : PySem.W.keepIn K (.ref d5k) = true)
  {b8i : Addr} {j4c j4d : Option Addr} {j4e : Array (Option Value)} {j4f j4g j4h j4i g8u j4j : Value}
  (g2f : PySem.W.nsIn K mainGlobals "size_of" = some (some (.ref b8i))) (g2g : K.lookup b8i = some ⟨j4f, j4c, .func (PySem.W.fnOf "size_of" "size_of" (a0r c2l) (a0q c2l) (a0h c2l) .none j4g j4h j4i j4d g8u j4j), j4e⟩) (g2h : PySem.W.codeIn K g8u "size_of" = true) (g2i : PySem.W.keepIn K (.ref b8i) = true)
  {b4p : Addr} {i8h i8i : Option Addr} {i8j : Array (Option Value)} {i8k i8l i8m i8n g2j i8o : Value}
  (f4v : PySem.W.nsIn K mainGlobals "is_under" = some (some (.ref b4p))) (f4w : K.lookup b4p = some ⟨i8k, i8h, .func (PySem.W.fnOf "is_under" "is_under" (a0r b7r) (a0q b7r) (a0h b7r) .none i8l i8m i8n i8i g2j i8o), i8j⟩) (f4y : PySem.W.codeIn K g2j "is_under" = true) (f4z : PySem.W.keepIn K (.ref b4p) = true)
  {a3y : Addr} {f8k f8l : Option Addr} {f8m : Array (Option Value)} {f8n f8o f8p f8q c8j f8r : Value}
  (b9h : PySem.W.nsIn K mainGlobals "fraction_text" = some (some (.ref a3y))) (b9i : K.lookup a3y = some ⟨f8n, f8k, .func (PySem.W.fnOf "fraction_text" "fraction_text" (a0r a5y) (a0q a5y) (a0h a5y) .none f8o f8p f8q f8l c8j f8r), f8m⟩) (b9j : PySem.W.codeIn K c8j "fraction_text" = true) (b9k : PySem.W.keepIn K (.ref a3y) = true)
  {a4u : Addr} {f8s f8t : Option Addr} {f8u : Array (Option Value)} {f8v f8w f8y f8z c8k f9g : Value}
  (b9l : PySem.W.nsIn K mainGlobals "read_fraction" = some (some (.ref a4u))) (b9m : K.lookup a4u = some ⟨f8v, f8s, .func (PySem.W.fnOf "read_fraction" "read_fraction" (a0r a5z) (a0q a5z) (a0h a5z) .none f8w f8y f8z f8t c8k f9g), f8u⟩) (b9n : PySem.W.codeIn K c8k "read_fraction" = true) (b9o : PySem.W.keepIn K (.ref a4u) = true)
  {a1h : Addr} {h1l h1n : Option Addr} {h1o : Array (Option Value)} {h1p h1q h1r h1s f1s h1t : Value}
  (d1h : PySem.W.findIn K (.ref d3r) "fresh" = some (some (.ref a1h))) (d1i : K.lookup a1h = some ⟨h1p, h1l, .func (PySem.W.fnOf "fresh" "Part.fresh" (a0r b1n) (a0q b1n) (a0h b1n) .none h1q h1r h1s h1n f1s h1t), h1o⟩) (d1j : PySem.W.codeIn K f1s "Part.fresh" = true) (a5u : PySem.W.keepIn K (.ref a1h) = true)
  {a8j : Addr} {h7i h7j : Option Addr} {h7k : Array (Option Value)} {h7l h7m h7n h7o f6z h7p : Value}
  (d6q : PySem.W.findIn K (.ref a9y) "__init__" = some (some (.ref a8j))) (d6r : K.lookup a8j = some ⟨h7l, h7i, .func (PySem.W.fnOf "__init__" "Gain.__init__" (a0r b3k) (a0q b3k) (a0h b3k) .none h7m h7n h7o h7j f6z h7p), h7k⟩) (d6s : PySem.W.codeIn K f6z "Gain.__init__" = true) (d6t : PySem.W.keepIn K (.ref a8j) = true)
  {a8k : Addr} {h7q h7r : Option Addr} {h7s : Array (Option Value)} {h7t h7u h7v h7w f7g h7x : Value}
  (d6u : PySem.W.findIn K (.ref a9y) "word" = some (some (.ref a8k))) (d6v : K.lookup a8k = some ⟨h7t, h7q, .func (PySem.W.fnOf "word" "Gain.word" (a0r b3l) (a0q b3l) (a0h b3l) .none h7u h7v h7w h7r f7g h7x), h7s⟩) (d6w : PySem.W.codeIn K f7g "Gain.word" = true) (c5w : PySem.W.keepIn K (.ref a8k) = true)
  {a6o : Addr} {h1u h1v : Option Addr} {h1w : Array (Option Value)} {h1x h1y h1z h2a f1t h2b : Value}
  (d1k : PySem.W.findIn K (.ref a4z) "__init__" = some (some (.ref a6o))) (d1l : K.lookup a6o = some ⟨h1x, h1u, .func (PySem.W.fnOf "__init__" "Delay.__init__" (a0r b1o) (a0q b1o) (a0h b1o) .none h1y h1z h2a h1v f1t h2b), h1w⟩) (d1m : PySem.W.codeIn K f1t "Delay.__init__" = true) (d1n : PySem.W.keepIn K (.ref a6o) = true)
  {a6p : Addr} {h2c h2d : Option Addr} {h2e : Array (Option Value)} {h2f h2g h2i h2j f1u h2l : Value}
  (d1o : PySem.W.findIn K (.ref a4z) "word" = some (some (.ref a6p))) (d1p : K.lookup a6p = some ⟨h2f, h2c, .func (PySem.W.fnOf "word" "Delay.word" (a0r b1p) (a0q b1p) (a0h b1p) .none h2g h2i h2j h2d f1u h2l), h2e⟩) (d1q : PySem.W.codeIn K f1u "Delay.word" = true) (c0u : PySem.W.keepIn K (.ref a6p) = true)
  {b0u : Addr} {h7y h7z : Option Addr} {h8a : Array (Option Value)} {h8b h8c h8d h8e f7h h8f : Value}
  (d6y : PySem.W.nsIn K mainGlobals "powers_of" = some (some (.ref b0u))) (d6z : K.lookup b0u = some ⟨h8b, h7y, .func (PySem.W.fnOf "powers_of" "powers_of" (a0r b3m) (a0q b3m) (a0h b3m) .none h8c h8d h8e h7z f7h h8f), h8a⟩) (d7g : PySem.W.codeIn K f7h "powers_of" = true) (d7h : PySem.W.keepIn K (.ref b0u) = true)
  {a8l : Addr} {h8g h8h : Option Addr} {h8i : Array (Option Value)} {h8j h8k h8l h8m f7i h8n : Value}
  (d7i : PySem.W.findIn K (.ref a4w) "__init__" = some (some (.ref a8l))) (d7j : K.lookup a8l = some ⟨h8j, h8g, .func (PySem.W.fnOf "__init__" "Echo.__init__" (a0r b0q) (a0q b0q) (a0h b0q) .none h8k h8l h8m h8h f7i h8n), h8i⟩) (d7k : PySem.W.codeIn K f7i "Echo.__init__" = true) (d7l : PySem.W.keepIn K (.ref a8l) = true)
  {a8m : Addr} {h8o h8p : Option Addr} {h8q : Array (Option Value)} {h8r h8s h8t h8u f7j h8v : Value}
  (d7m : PySem.W.findIn K (.ref a4w) "word" = some (some (.ref a8m))) (d7n : K.lookup a8m = some ⟨h8r, h8o, .func (PySem.W.fnOf "word" "Echo.word" (a0r b3n) (a0q b3n) (a0h b3n) .none h8s h8t h8u h8p f7j h8v), h8q⟩) (d7o : PySem.W.codeIn K f7j "Echo.word" = true) (c5y : PySem.W.keepIn K (.ref a8m) = true)
  {a8n : Addr} {h8w h8x : Option Addr} {h8y : Array (Option Value)} {h8z h9a h9b h9c f7k h9d : Value}
  (d7p : PySem.W.findIn K (.ref a7u) "__init__" = some (some (.ref a8n))) (d7q : K.lookup a8n = some ⟨h8z, h8w, .func (PySem.W.fnOf "__init__" "Back.__init__" (a0r b3o) (a0q b3o) (a0h b3o) .none h9a h9b h9c h8x f7k h9d), h8y⟩) (d7r : PySem.W.codeIn K f7k "Back.__init__" = true) (d7s : PySem.W.keepIn K (.ref a8n) = true)
  {a8o : Addr} {h9e h9f : Option Addr} {h9g : Array (Option Value)} {h9h h9i h9j h9k f7l h9l : Value}
  (d7t : PySem.W.findIn K (.ref a7u) "word" = some (some (.ref a8o))) (d7u : K.lookup a8o = some ⟨h9h, h9e, .func (PySem.W.fnOf "word" "Back.word" (a0r b3p) (a0q b3p) (a0h b3p) .none h9i h9j h9k h9f f7l h9l), h9g⟩) (d7v : PySem.W.codeIn K f7l "Back.word" = true) (c5z : PySem.W.keepIn K (.ref a8o) = true)
  {a8p : Addr} {h9m h9n : Option Addr} {h9o : Array (Option Value)} {h9p h9q h9r h9s f7m h9t : Value}
  (d7w : PySem.W.findIn K (.ref a7v) "__init__" = some (some (.ref a8p))) (d7y : K.lookup a8p = some ⟨h9p, h9m, .func (PySem.W.fnOf "__init__" "Hall.__init__" (a0r b3q) (a0q b3q) (a0h b3q) .none h9q h9r h9s h9n f7m h9t), h9o⟩) (d7z : PySem.W.codeIn K f7m "Hall.__init__" = true) (d8g : PySem.W.keepIn K (.ref a8p) = true)
  {a8q : Addr} {h9u h9v : Option Addr} {h9w : Array (Option Value)} {h9x h9y h9z i0a f7n i0b : Value}
  (d8h : PySem.W.findIn K (.ref a7v) "word" = some (some (.ref a8q))) (d8i : K.lookup a8q = some ⟨h9x, h9u, .func (PySem.W.fnOf "word" "Hall.word" (a0r b3r) (a0q b3r) (a0h b3r) .none h9y h9z i0a h9v f7n i0b), h9w⟩) (d8j : PySem.W.codeIn K f7n "Hall.word" = true) (c6g : PySem.W.keepIn K (.ref a8q) = true)
  {a4v : Addr} {f9h f9i : Option Addr} {f9j : Array (Option Value)} {f9k f9l f9m f9n c8l f9o : Value}
  (b9p : PySem.W.nsIn K mainGlobals "shared_bottom" = some (some (.ref a4v))) (b9q : K.lookup a4v = some ⟨f9k, f9h, .func (PySem.W.fnOf "shared_bottom" "shared_bottom" (a0r a6g) (a0q a6g) (a0h a6g) .none f9l f9m f9n f9i c8l f9o), f9j⟩) (b9r : PySem.W.codeIn K c8l "shared_bottom" = true) (b9s : PySem.W.keepIn K (.ref a4v) = true)
  {b0v : Addr} {i0c i0d : Option Addr} {i0e : Array (Option Value)} {i0f i0g i0h i0i f7o i0j : Value}
  (d8k : PySem.W.nsIn K mainGlobals "slopes_of" = some (some (.ref b0v))) (d8l : K.lookup b0v = some ⟨i0f, i0c, .func (PySem.W.fnOf "slopes_of" "slopes_of" (a0r b3s) (a0q b3s) (a0h b3s) .none i0g i0h i0i i0d f7o i0j), i0e⟩) (d8m : PySem.W.codeIn K f7o "slopes_of" = true) (d8n : PySem.W.keepIn K (.ref b0v) = true)
  {g0t : Addr} {k9e k9f : Option Addr} {k9g : Array (Option Value)} {k9h k9i k9j k9k k0p k9l : Value}
  (k0q : PySem.W.nsIn K mainGlobals "over" = some (some (.ref g0t))) (k0r : K.lookup g0t = some ⟨k9h, k9e, .func (PySem.W.fnOf "over" "over" (a0r g8l) (a0q g8l) (a0h g8l) .none k9i k9j k9k k9f k0p k9l), k9g⟩) (k0s : PySem.W.codeIn K k0p "over" = true) (k0t : PySem.W.keepIn K (.ref g0t) = true)
  {a7g : Addr} {g4z g5a : Option Addr} {g5b : Array (Option Value)} {g5c g5d g5e g5f d4i g5g : Value}
  (c6h : PySem.W.nsIn K mainGlobals "corner_word" = some (some (.ref a7g))) (c6i : K.lookup a7g = some ⟨g5c, g4z, .func (PySem.W.fnOf "corner_word" "corner_word" (a0r a9h) (a0q a9h) (a0h a9h) .none g5d g5e g5f g5a d4i g5g), g5b⟩) (c6j : PySem.W.codeIn K d4i "corner_word" = true) (c6k : PySem.W.keepIn K (.ref a7g) = true)
  {a6q : Addr} {h2m h2n : Option Addr} {h2o : Array (Option Value)} {h2p h2q h2r h2t f1v h2u : Value}
  (d1r : PySem.W.findIn K (.ref a3z) "__init__" = some (some (.ref a6q))) (d1s : K.lookup a6q = some ⟨h2p, h2m, .func (PySem.W.fnOf "__init__" "Swell.__init__" (a0r a5l) (a0q a5l) (a0h a5l) .none h2q h2r h2t h2n f1v h2u), h2o⟩) (d1t : PySem.W.codeIn K f1v "Swell.__init__" = true) (d1u : PySem.W.keepIn K (.ref a6q) = true)
  {a5m : Addr} {g5h g5i : Option Addr} {g5j : Array (Option Value)} {g5k g5l g5m g5n d4j g5o : Value}
  (c6l : PySem.W.findIn K (.ref a3z) "fresh" = some (some (.ref a5m))) (c6m : K.lookup a5m = some ⟨g5k, g5h, .func (PySem.W.fnOf "fresh" "Swell.fresh" (a0r a9i) (a0q a9i) (a0h a9i) .none g5l g5m g5n g5i d4j g5o), g5j⟩) (c6n : PySem.W.codeIn K d4j "Swell.fresh" = true) (b7h : PySem.W.keepIn K (.ref a5m) = true)
  {a6r : Addr} {h2v h2w : Option Addr} {h2x : Array (Option Value)} {h2y h2z h3a h3b f1w h3c : Value}
  (d1v : PySem.W.findIn K (.ref a3z) "word" = some (some (.ref a6r))) (d1w : K.lookup a6r = some ⟨h2y, h2v, .func (PySem.W.fnOf "word" "Swell.word" (a0r a8g) (a0q a8g) (a0h a8g) .none h2z h3a h3b h2w f1w h3c), h2x⟩) (d1y : PySem.W.codeIn K f1w "Swell.word" = true) (c0v : PySem.W.keepIn K (.ref a6r) = true)
  {b0w : Addr} {i0k i0l : Option Addr} {i0m : Array (Option Value)} {i0n i0o i0p i0q f7p i0r : Value}
  (d8o : PySem.W.nsIn K mainGlobals "read_gain" = some (some (.ref b0w))) (d8p : K.lookup b0w = some ⟨i0n, i0k, .func (PySem.W.fnOf "read_gain" "read_gain" (a0r b3t) (a0q b3t) (a0h b3t) .none i0o i0p i0q i0l f7p i0r), i0m⟩) (d8q : PySem.W.codeIn K f7p "read_gain" = true) (d8r : PySem.W.keepIn K (.ref b0w) = true)
  {a7h : Addr} {g5p g5q : Option Addr} {g5r : Array (Option Value)} {g5s g5t g5u g5v d4k g5w : Value}
  (c6o : PySem.W.nsIn K mainGlobals "read_number" = some (some (.ref a7h))) (c6p : K.lookup a7h = some ⟨g5s, g5p, .func (PySem.W.fnOf "read_number" "read_number" (a0r a9j) (a0q a9j) (a0h a9j) .none g5t g5u g5v g5q d4k g5w), g5r⟩) (c6q : PySem.W.codeIn K d4k "read_number" = true) (c6r : PySem.W.keepIn K (.ref a7h) = true)
  {b0y : Addr} {i0s i0t : Option Addr} {i0u : Array (Option Value)} {i0v i0w i0x i0y f7q i0z : Value}
  (d8s : PySem.W.nsIn K mainGlobals "read_many" = some (some (.ref b0y))) (d8t : K.lookup b0y = some ⟨i0v, i0s, .func (PySem.W.fnOf "read_many" "read_many" (a0r b3u) (a0q b3u) (a0h b3u) .none i0w i0x i0y i0t f7q i0z), i0u⟩) (d8u : PySem.W.codeIn K f7q "read_many" = true) (d8v : PySem.W.keepIn K (.ref b0y) = true)
  {a7i : Addr} {g5x g5y : Option Addr} {g5z : Array (Option Value)} {g6a g6b g6c g6d d4l g6e : Value}
  (c6s : PySem.W.nsIn K mainGlobals "check_count" = some (some (.ref a7i))) (c6t : K.lookup a7i = some ⟨g6a, g5x, .func (PySem.W.fnOf "check_count" "check_count" (a0r a9k) (a0q a9k) (a0h a9k) .none g6b g6c g6d g5y d4l g6e), g5z⟩) (c6u : PySem.W.codeIn K d4l "check_count" = true) (c6v : PySem.W.keepIn K (.ref a7i) = true)
  {b2m : Addr} {j4k j4l : Option Addr} {j4m : Array (Option Value)} {j4n j4o j4p j4q g8v j4r : Value}
  (g2k : PySem.W.nsIn K mainGlobals "gain_of" = some (some (.ref b2m))) (g2l : K.lookup b2m = some ⟨j4n, j4k, .func (PySem.W.fnOf "gain_of" "gain_of" (a0r c2m) (a0q c2m) (a0h c2m) .none j4o j4p j4q j4l g8v j4r), j4m⟩) (g2m : PySem.W.codeIn K g8v "gain_of" = true) (g2n : PySem.W.keepIn K (.ref b2m) = true)
  {a9p : Addr} {i8p i8q : Option Addr} {i8r : Array (Option Value)} {i8s i8t i8u i8v g2o i8w : Value}
  (f5g : PySem.W.nsIn K mainGlobals "delay_of" = some (some (.ref a9p))) (f5h : K.lookup a9p = some ⟨i8s, i8p, .func (PySem.W.fnOf "delay_of" "delay_of" (a0r b7s) (a0q b7s) (a0h b7s) .none i8t i8u i8v i8q g2o i8w), i8r⟩) (f5i : PySem.W.codeIn K g2o "delay_of" = true) (f5j : PySem.W.keepIn K (.ref a9p) = true)
  {b2n : Addr} {j4s j4t : Option Addr} {j4u : Array (Option Value)} {j4v j4w j4x j4y g8w j4z : Value}
  (g2p : PySem.W.nsIn K mainGlobals "echo_of" = some (some (.ref b2n))) (g2q : K.lookup b2n = some ⟨j4v, j4s, .func (PySem.W.fnOf "echo_of" "echo_of" (a0r c2n) (a0q c2n) (a0h c2n) .none j4w j4x j4y j4t g8w j4z), j4u⟩) (g2r : PySem.W.codeIn K g8w "echo_of" = true) (g2s : PySem.W.keepIn K (.ref b2n) = true)
  {b2o : Addr} {j5a j5b : Option Addr} {j5c : Array (Option Value)} {j5d j5e j5f j5g g8x j5h : Value}
  (g2t : PySem.W.nsIn K mainGlobals "back_of" = some (some (.ref b2o))) (g2u : K.lookup b2o = some ⟨j5d, j5a, .func (PySem.W.fnOf "back_of" "back_of" (a0r c2o) (a0q c2o) (a0h c2o) .none j5e j5f j5g j5b g8x j5h), j5c⟩) (g2v : PySem.W.codeIn K g8x "back_of" = true) (g2w : PySem.W.keepIn K (.ref b2o) = true)
  {b2p : Addr} {j5i j5j : Option Addr} {j5k : Array (Option Value)} {j5l j5m j5n j5o g8y j5p : Value}
  (g2x : PySem.W.nsIn K mainGlobals "hall_of" = some (some (.ref b2p))) (g2y : K.lookup b2p = some ⟨j5l, j5i, .func (PySem.W.fnOf "hall_of" "hall_of" (a0r c2p) (a0q c2p) (a0h c2p) .none j5m j5n j5o j5j g8y j5p), j5k⟩) (g2z : PySem.W.codeIn K g8y "hall_of" = true) (g3a : PySem.W.keepIn K (.ref b2p) = true)
  {a7j : Addr} {g6f g6g : Option Addr} {g6h : Array (Option Value)} {g6i g6j g6k g6l d4m g6m : Value}
  (c6w : PySem.W.nsIn K mainGlobals "read_corner" = some (some (.ref a7j))) (c6y : K.lookup a7j = some ⟨g6i, g6f, .func (PySem.W.fnOf "read_corner" "read_corner" (a0r a9l) (a0q a9l) (a0h a9l) .none g6j g6k g6l g6g d4m g6m), g6h⟩) (c6z : PySem.W.codeIn K d4m "read_corner" = true) (c7g : PySem.W.keepIn K (.ref a7j) = true)
  {a9q : Addr} {i8x i8y : Option Addr} {i8z : Array (Option Value)} {i9a i9b i9c i9d g3b i9e : Value}
  (f5k : PySem.W.nsIn K mainGlobals "swell_of" = some (some (.ref a9q))) (f5l : K.lookup a9q = some ⟨i9a, i8x, .func (PySem.W.fnOf "swell_of" "swell_of" (a0r b3v) (a0q b3v) (a0h b3v) .none i9b i9c i9d i8y g3b i9e), i8z⟩) (f5m : PySem.W.codeIn K g3b "swell_of" = true) (f5n : PySem.W.keepIn K (.ref a9q) = true)
  {b8j : Addr} {j5q j5r : Option Addr} {j5s : Array (Option Value)} {j5t j5u j5v j5w g8z j5x : Value}
  (g3c : PySem.W.nsIn K mainGlobals "part_of" = some (some (.ref b8j))) (g3d : K.lookup b8j = some ⟨j5t, j5q, .func (PySem.W.fnOf "part_of" "part_of" (a0r c2q) (a0q c2q) (a0h c2q) .none j5u j5v j5w j5r g8z j5x), j5s⟩) (g3e : PySem.W.codeIn K g8z "part_of" = true) (g3f : PySem.W.keepIn K (.ref b8j) = true)
  {b4q : Addr} {i9f i9g : Option Addr} {i9h : Array (Option Value)} {i9i i9j i9k i9l g3g i9m : Value}
  (f5o : PySem.W.nsIn K mainGlobals "parts_of" = some (some (.ref b4q))) (f5p : K.lookup b4q = some ⟨i9i, i9f, .func (PySem.W.fnOf "parts_of" "parts_of" (a0r b3w) (a0q b3w) (a0h b3w) .none i9j i9k i9l i9g g3g i9m), i9h⟩) (f5q : PySem.W.codeIn K g3g "parts_of" = true) (f5r : PySem.W.keepIn K (.ref b4q) = true)
  {a6s : Addr} {h3d h3e : Option Addr} {h3f : Array (Option Value)} {h3g h3h h3i h3j f1y h3k : Value}
  (d1z : PySem.W.findIn K (.ref a6h) "__init__" = some (some (.ref a6s))) (d2g : K.lookup a6s = some ⟨h3g, h3d, .func (PySem.W.fnOf "__init__" "Chain.__init__" (a0r a8h) (a0q a8h) (a0h a8h) .none h3h h3i h3j h3e f1y h3k), h3f⟩) (d2h : PySem.W.codeIn K f1y "Chain.__init__" = true) (d2i : PySem.W.keepIn K (.ref a6s) = true)
  {a5n : Addr} {g6n g6o : Option Addr} {g6p : Array (Option Value)} {g6q g6r g6s g6t d4n g6u : Value}
  (c7h : PySem.W.findIn K (.ref a6h) "words" = some (some (.ref a5n))) (c7i : K.lookup a5n = some ⟨g6q, g6n, .func (PySem.W.fnOf "words" "Chain.words" (a0r a6y) (a0q a6y) (a0h a6y) .none g6r g6s g6t g6o d4n g6u), g6p⟩) (c7j : PySem.W.codeIn K d4n "Chain.words" = true) (b7i : PySem.W.keepIn K (.ref a5n) = true)
  {a4o : Addr} {g3h g3i : Option Addr} {g3j : Array (Option Value)} {g3k g3l g3m g3n d2j g3o : Value}
  (c1t : PySem.W.findIn K (.ref a3l) "__init__" = some (some (.ref a4o))) (c1u : K.lookup a4o = some ⟨g3k, g3h, .func (PySem.W.fnOf "__init__" "Settler.__init__" (a0r a7r) (a0q a7r) (a0h a7r) .none g3l g3m g3n g3i d2j g3o), g3j⟩) (c1v : PySem.W.codeIn K d2j "Settler.__init__" = true) (c1w : PySem.W.keepIn K (.ref a4o) = true)
  {b8l : Addr} {j5y j5z : Option Addr} {j6a : Array (Option Value)} {j6b j6c j6d j6e g9a j6f : Value}
  (g3p : PySem.W.nsIn K mainGlobals "is_name" = some (some (.ref b8l))) (g3q : K.lookup b8l = some ⟨j6b, j5y, .func (PySem.W.fnOf "is_name" "is_name" (a0r b8h) (a0q b8h) (a0h b8h) .none j6c j6d j6e j5z g9a j6f), j6a⟩) (g3r : PySem.W.codeIn K g9a "is_name" = true) (g3s : PySem.W.keepIn K (.ref b8l) = true)
  {a6t : Addr} {h3l h3m : Option Addr} {h3n : Array (Option Value)} {h3o h3p h3q h3r f1z h3s : Value}
  (d2k : PySem.W.findIn K (.ref a1q) "__init__" = some (some (.ref a6t))) (d2l : K.lookup a6t = some ⟨h3o, h3l, .func (PySem.W.fnOf "__init__" "Patch.__init__" (a0r b1q) (a0q b1q) (a0h b1q) .none h3p h3q h3r h3m f1z h3s), h3n⟩) (d2m : PySem.W.codeIn K f1z "Patch.__init__" = true) (d2n : PySem.W.keepIn K (.ref a6t) = true)
  {a3g : Addr} {f2g f2h : Option Addr} {f2i : Array (Option Value)} {f2j f2k f2l f2m c0w f2n : Value}
  (b4z : PySem.W.findIn K (.ref a1q) "check_new" = some (some (.ref a3g))) (b5g : K.lookup a3g = some ⟨f2j, f2g, .func (PySem.W.fnOf "check_new" "Patch.check_new" (a0r a4r) (a0q a4r) (a0h a4r) .none f2k f2l f2m f2h c0w f2n), f2i⟩) (b5h : PySem.W.codeIn K c0w "Patch.check_new" = true) (a9w : PySem.W.keepIn K (.ref a3g) = true)
  {a5o : Addr} {g6v g6w : Option Addr} {g6x : Array (Option Value)} {g6y g6z g7a g7b d4o g7c : Value}
  (c7k : PySem.W.findIn K (.ref a1q) "track" = some (some (.ref a5o))) (c7l : K.lookup a5o = some ⟨g6y, g6v, .func (PySem.W.fnOf "track" "Patch.track" (a0r a9m) (a0q a9m) (a0h a9m) .none g6z g7a g7b g6w d4o g7c), g6x⟩) (c7m : PySem.W.codeIn K d4o "Patch.track" = true) (b7j : PySem.W.keepIn K (.ref a5o) = true)
  {a8r : Addr} {i1a i1b : Option Addr} {i1c : Array (Option Value)} {i1d i1e i1f i1g f7r i1h : Value}
  (d8w : PySem.W.findIn K (.ref a1q) "bus" = some (some (.ref a8r))) (d8y : K.lookup a8r = some ⟨i1d, i1a, .func (PySem.W.fnOf "bus" "Patch.bus" (a0r b3y) (a0q b3y) (a0h b3y) .none i1e i1f i1g i1b f7r i1h), i1c⟩) (d8z : PySem.W.codeIn K f7r "Patch.bus" = true) (c7n : PySem.W.keepIn K (.ref a8r) = true)
  {a6u : Addr} {h3t h3u : Option Addr} {h3v : Array (Option Value)} {h3w h3x h3y h3z f2o h4a : Value}
  (d2o : PySem.W.findIn K (.ref a1q) "send" = some (some (.ref a6u))) (d2p : K.lookup a6u = some ⟨h3w, h3t, .func (PySem.W.fnOf "send" "Patch.send" (a0r b1r) (a0q b1r) (a0h b1r) .none h3x h3y h3z h3u f2o h4a), h3v⟩) (d2q : PySem.W.codeIn K f2o "Patch.send" = true) (c0y : PySem.W.keepIn K (.ref a6u) = true)
  {a8s : Addr} {i1i i1j : Option Addr} {i1k : Array (Option Value)} {i1l i1m i1n i1o f7s i1p : Value}
  (d9g : PySem.W.findIn K (.ref a1q) "way" = some (some (.ref a8s))) (d9h : K.lookup a8s = some ⟨i1l, i1i, .func (PySem.W.fnOf "way" "Patch.way" (a0r b3z) (a0q b3z) (a0h b3z) .none i1m i1n i1o i1j f7s i1p), i1k⟩) (d9i : PySem.W.codeIn K f7s "Patch.way" = true) (c7o : PySem.W.keepIn K (.ref a8s) = true)
  {a8t : Addr} {i1q i1r : Option Addr} {i1s : Array (Option Value)} {i1t i1u i1v i1w f7t i1x : Value}
  (d9j : PySem.W.findIn K (.ref a1q) "out" = some (some (.ref a8t))) (d9k : K.lookup a8t = some ⟨i1t, i1q, .func (PySem.W.fnOf "out" "Patch.out" (a0r b0r) (a0q b0r) (a0h b0r) .none i1u i1v i1w i1r f7t i1x), i1s⟩) (d9l : PySem.W.codeIn K f7t "Patch.out" = true) (c7p : PySem.W.keepIn K (.ref a8t) = true)
  {a4p : Addr} {g3t g3u : Option Addr} {g3v : Array (Option Value)} {g3w g3x g3y g3z d2r g4a : Value}
  (c1y : PySem.W.findIn K (.ref a1q) "tracks" = some (some (.ref a4p))) (c1z : K.lookup a4p = some ⟨g3w, g3t, .func (PySem.W.fnOf "tracks" "Patch.tracks" (a0r a7s) (a0q a7s) (a0h a7s) .none g3x g3y g3z g3u d2r g4a), g3v⟩) (c2g : PySem.W.codeIn K d2r "Patch.tracks" = true) (b5o : PySem.W.keepIn K (.ref a4p) = true)
  {a5p : Addr} {g7d g7e : Option Addr} {g7f : Array (Option Value)} {g7g g7h g7i g7j d4p g7k : Value}
  (c7q : PySem.W.findIn K (.ref a1q) "buses" = some (some (.ref a5p))) (c7r : K.lookup a5p = some ⟨g7g, g7d, .func (PySem.W.fnOf "buses" "Patch.buses" (a0r a9n) (a0q a9n) (a0h a9n) .none g7h g7i g7j g7e d4p g7k), g7f⟩) (c7s : PySem.W.codeIn K d4p "Patch.buses" = true) (b7k : PySem.W.keepIn K (.ref a5p) = true)
  {a5q : Addr} {g7l g7m : Option Addr} {g7n : Array (Option Value)} {g7o g7p g7q g7r d4q g7s : Value}
  (c7t : PySem.W.findIn K (.ref a1q) "sends" = some (some (.ref a5q))) (c7u : K.lookup a5q = some ⟨g7o, g7l, .func (PySem.W.fnOf "sends" "Patch.sends" (a0r a6z) (a0q a6z) (a0h a6z) .none g7p g7q g7r g7m d4q g7s), g7n⟩) (c7v : PySem.W.codeIn K d4q "Patch.sends" = true) (b7l : PySem.W.keepIn K (.ref a5q) = true)
  {a6v : Addr} {h4b h4d : Option Addr} {h4e : Array (Option Value)} {h4f h4g h4h h4i f2p h4j : Value}
  (d2s : PySem.W.findIn K (.ref a1q) "outs" = some (some (.ref a6v))) (d2t : K.lookup a6v = some ⟨h4f, h4b, .func (PySem.W.fnOf "outs" "Patch.outs" (a0r b1s) (a0q b1s) (a0h b1s) .none h4g h4h h4i h4d f2p h4j), h4e⟩) (d2u : PySem.W.codeIn K f2p "Patch.outs" = true) (c0z : PySem.W.keepIn K (.ref a6v) = true)
  {a7k : Addr} {g7t g7u : Option Addr} {g7v : Array (Option Value)} {g7w g7x g7y g7z d4r g8a : Value}
  (c7w : PySem.W.nsIn K mainGlobals "_law_cell_at" = some (some (.ref a7k))) (c7y : K.lookup a7k = some ⟨g7w, g7t, .func (PySem.W.fnOf "_law_cell_at" "_law_cell_at" (a0r a9o) (a0q a9o) (a0h a9o) .none g7x g7y g7z g7u d4r g8a), g7v⟩) (c7z : PySem.W.codeIn K d4r "_law_cell_at" = true) (c8g : PySem.W.keepIn K (.ref a7k) = true)
  {b0z : Addr} {i1y i2a : Option Addr} {i2b : Array (Option Value)} {i2c i2d i2e i2f f7u i2g : Value}
  (d9m : PySem.W.nsIn K mainGlobals "_law_whole" = some (some (.ref b0z))) (d9n : K.lookup b0z = some ⟨i2c, i1y, .func (PySem.W.fnOf "_law_whole" "_law_whole" (a0r b4g) (a0q b4g) (a0h b4g) .none i2d i2e i2f i2a f7u i2g), i2b⟩) (d9o : PySem.W.codeIn K f7u "_law_whole" = true) (d9p : PySem.W.keepIn K (.ref b0z) = true)
  {b1g : Addr} {i2h i2i : Option Addr} {i2j : Array (Option Value)} {i2k i2l i2m i2n f7v i2o : Value}
  (d9q : PySem.W.nsIn K mainGlobals "_law_names" = some (some (.ref b1g))) (d9r : K.lookup b1g = some ⟨i2k, i2h, .func (PySem.W.fnOf "_law_names" "_law_names" (a0r b0s) (a0q b0s) (a0h b0s) .none i2l i2m i2n i2i f7v i2o), i2j⟩) (d9s : PySem.W.codeIn K f7v "_law_names" = true) (d9t : PySem.W.keepIn K (.ref b1g) = true)
  {b1h : Addr} {i2p i2q : Option Addr} {i2r : Array (Option Value)} {i2s i2t i2u i2v f7w i2w : Value}
  (d9u : PySem.W.nsIn K mainGlobals "_law_asked" = some (some (.ref b1h))) (d9v : K.lookup b1h = some ⟨i2s, i2p, .func (PySem.W.fnOf "_law_asked" "_law_asked" (a0r b4h) (a0q b4h) (a0h b4h) .none i2t i2u i2v i2q f7w i2w), i2r⟩) (d9w : PySem.W.codeIn K f7w "_law_asked" = true) (d9y : PySem.W.keepIn K (.ref b1h) = true)
  {b1i : Addr} {i2x i2y : Option Addr} {i3a : Array (Option Value)} {i3b i3c i3d i3e f7y i3f : Value}
  (d9z : PySem.W.nsIn K mainGlobals "_law_kinds" = some (some (.ref b1i))) (f0g : K.lookup b1i = some ⟨i3b, i2x, .func (PySem.W.fnOf "_law_kinds" "_law_kinds" (a0r b4i) (a0q b4i) (a0h b4i) .none i3c i3d i3e i2y f7y i3f), i3a⟩) (f0h : PySem.W.codeIn K f7y "_law_kinds" = true) (f0i : PySem.W.keepIn K (.ref b1i) = true)
  {b1j : Addr} {i3g i3h : Option Addr} {i3i : Array (Option Value)} {i3j i3k i3l i3m f7z i3n : Value}
  (f0j : PySem.W.nsIn K mainGlobals "_law_leads" = some (some (.ref b1j))) (f0k : K.lookup b1j = some ⟨i3j, i3g, .func (PySem.W.fnOf "_law_leads" "_law_leads" (a0r b4j) (a0q b4j) (a0h b4j) .none i3k i3l i3m i3h f7z i3n), i3i⟩) (f0l : PySem.W.codeIn K f7z "_law_leads" = true) (f0m : PySem.W.keepIn K (.ref b1j) = true)
  {b4r : Addr} {i9n i9o : Option Addr} {i9p : Array (Option Value)} {i9q i9r i9s i9t g4b i9u : Value}
  (f5s : PySem.W.nsIn K mainGlobals "_law_send" = some (some (.ref b4r))) (f5t : K.lookup b4r = some ⟨i9q, i9n, .func (PySem.W.fnOf "_law_send" "_law_send" (a0r b4k) (a0q b4k) (a0h b4k) .none i9r i9s i9t i9o g4b i9u), i9p⟩) (f5u : PySem.W.codeIn K g4b "_law_send" = true) (f5v : PySem.W.keepIn K (.ref b4r) = true)
  {b4s : Addr} {i9v i9w : Option Addr} {i9x : Array (Option Value)} {i9y i9z j0a j0b g4c j0c : Value}
  (f5w : PySem.W.nsIn K mainGlobals "_law_deed" = some (some (.ref b4s))) (f5y : K.lookup b4s = some ⟨i9y, i9v, .func (PySem.W.fnOf "_law_deed" "_law_deed" (a0r b1t) (a0q b1t) (a0h b1t) .none i9z j0a j0b i9w g4c j0c), i9x⟩) (f5z : PySem.W.codeIn K g4c "_law_deed" = true) (f6g : PySem.W.keepIn K (.ref b4s) = true)
  {i4v : Addr} {l4x l4y : Option Addr} {l4z : Array (Option Value)} {l5a l5b l5c l5d k5p l5e : Value}
  (k4b : PySem.W.nsIn K mainGlobals "law" = some (some (.ref i4v))) (k9m : K.lookup i4v = some ⟨l5a, l4x, .func (PySem.W.fnOf "law" "law" (a0r i4m) (a0q i4m) (a0h i4m) .none l5b l5c l5d l4y k5p l5e), l4z⟩) (k9n : PySem.W.codeIn K k5p "law" = true) (k9o : PySem.W.keepIn K (.ref i4v) = true)
  (g4o : PySem.W.nsIn K mainGlobals "abs" = some none)
  (j8v : PySem.W.nsIn K mainGlobals "all" = some none)
  (g8p : PySem.W.nsIn K mainGlobals "bool" = some none)
  (g1g : PySem.W.nsIn K mainGlobals "int" = some none)
  (a1v : PySem.W.nsIn K mainGlobals "isinstance" = some none)
  (b8w : PySem.W.nsIn K mainGlobals "len" = some none)
  (c3k : PySem.W.nsIn K mainGlobals "list" = some none)
  (b8y : PySem.W.nsIn K mainGlobals "range" = some none)
  (i5b : PySem.W.nsIn K mainGlobals "str" = some none)
  (c5p : PySem.W.nsIn K mainGlobals "tuple" = some none)
  (i5c : PySem.W.nsIn K mainGlobals "zip" = some none)
  {t_FIGURES : Tok}
  {t_MOST_FIGURES_wholes : Tok}
  {t_MOST_FIGURES_ratios : Tok}
  {t_MOST_GAIN : Tok}
  {t_MOST_MANY : Tok}
  {t_MOST_TURNS : Tok}
  {t_MOST_AT : Tok}
  {t_MOST_CORNERS : Tok}
  {t_MOST_PARTS : Tok}
  {t_MOST : Tok}
  {t_LETTERS : Tok}
  {t_MOST_LETTERS : Tok}
  {a1t : Addr} {es_READERS : Array DictEntry} {n_READERS : Nat}
  (cl_Part_pg : PySem.W.plainGet K d3r Str.empty = true)
  (cl_Part_hd : PySem.W.hasDictIn K d3r = true)
  (cl_Part_po : PySem.W.plainOver K d3r = true)
  (cl_Part_sa : PySem.W.findIn K (.ref d3r) "__setattr__" = some (some (.builtin "object.__setattr__")))
  (me_Part_fresh_fn : PySem.W.isFn K (.ref a1h) = true)
  (cl_Gain_pg : PySem.W.plainGet K a9y Str.empty = true)
  (cl_Gain_hd : PySem.W.hasDictIn K a9y = true)
  (cl_Gain_po : PySem.W.plainOver K a9y = true)
  (cl_Gain_sa : PySem.W.findIn K (.ref a9y) "__setattr__" = some (some (.builtin "object.__setattr__")))
  (a2l : PySem.W.findIn K (.ref a9y) "gain" = some none)
  (me_Gain___init___fn : PySem.W.isFn K (.ref a8j) = true)
  (mk_Gain_ma : PySem.W.makesIn K a9y = true)
  (mk_Gain_kp : PySem.W.keepIn K (.ref a9y) = true)
  (me_Gain_word_fn : PySem.W.isFn K (.ref a8k) = true)
  (me_Gain_fresh_at : PySem.W.findIn K (.ref a9y) "fresh" = some (some (.ref a1h)))
  (me_Gain_fresh_fn : PySem.W.isFn K (.ref a1h) = true)
  (cl_Delay_pg : PySem.W.plainGet K a4z Str.empty = true)
  (cl_Delay_hd : PySem.W.hasDictIn K a4z = true)
  (cl_Delay_po : PySem.W.plainOver K a4z = true)
  (cl_Delay_sa : PySem.W.findIn K (.ref a4z) "__setattr__" = some (some (.builtin "object.__setattr__")))
  (a1w : PySem.W.findIn K (.ref a4z) "many" = some none)
  (me_Delay___init___fn : PySem.W.isFn K (.ref a6o) = true)
  (mk_Delay_ma : PySem.W.makesIn K a4z = true)
  (mk_Delay_kp : PySem.W.keepIn K (.ref a4z) = true)
  (me_Delay_word_fn : PySem.W.isFn K (.ref a6p) = true)
  (me_Delay_fresh_at : PySem.W.findIn K (.ref a4z) "fresh" = some (some (.ref a1h)))
  (me_Delay_fresh_fn : PySem.W.isFn K (.ref a1h) = true)
  (cl_Echo_pg : PySem.W.plainGet K a4w Str.empty = true)
  (cl_Echo_hd : PySem.W.hasDictIn K a4w = true)
  (cl_Echo_po : PySem.W.plainOver K a4w = true)
  (cl_Echo_sa : PySem.W.findIn K (.ref a4w) "__setattr__" = some (some (.builtin "object.__setattr__")))
  (a2m : PySem.W.findIn K (.ref a4w) "gain" = some none)
  (a2n : PySem.W.findIn K (.ref a4w) "many" = some none)
  (a1y : PySem.W.findIn K (.ref a4w) "turns" = some none)
  (a1o : PySem.W.findIn K (.ref a4w) "factors" = some none)
  (a0t : PySem.W.findIn K (.ref a4w) "factor_bottom" = some none)
  (me_Echo___init___fn : PySem.W.isFn K (.ref a8l) = true)
  (mk_Echo_ma : PySem.W.makesIn K a4w = true)
  (mk_Echo_kp : PySem.W.keepIn K (.ref a4w) = true)
  (me_Echo_word_fn : PySem.W.isFn K (.ref a8m) = true)
  (me_Echo_fresh_at : PySem.W.findIn K (.ref a4w) "fresh" = some (some (.ref a1h)))
  (me_Echo_fresh_fn : PySem.W.isFn K (.ref a1h) = true)
  (cl_Back_pg : PySem.W.plainGet K a7u Str.empty = true)
  (cl_Back_hd : PySem.W.hasDictIn K a7u = true)
  (cl_Back_po : PySem.W.plainOver K a7u = true)
  (cl_Back_sa : PySem.W.findIn K (.ref a7u) "__setattr__" = some (some (.builtin "object.__setattr__")))
  (a2o : PySem.W.findIn K (.ref a7u) "gain" = some none)
  (a2p : PySem.W.findIn K (.ref a7u) "many" = some none)
  (me_Back___init___fn : PySem.W.isFn K (.ref a8n) = true)
  (mk_Back_ma : PySem.W.makesIn K a7u = true)
  (mk_Back_kp : PySem.W.keepIn K (.ref a7u) = true)
  (me_Back_word_fn : PySem.W.isFn K (.ref a8o) = true)
  (me_Back_fresh_at : PySem.W.findIn K (.ref a7u) "fresh" = some (some (.ref a1h)))
  (me_Back_fresh_fn : PySem.W.isFn K (.ref a1h) = true)
  (cl_Hall_pg : PySem.W.plainGet K a7v Str.empty = true)
  (cl_Hall_hd : PySem.W.hasDictIn K a7v = true)
  (cl_Hall_po : PySem.W.plainOver K a7v = true)
  (cl_Hall_sa : PySem.W.findIn K (.ref a7v) "__setattr__" = some (some (.builtin "object.__setattr__")))
  (a2q : PySem.W.findIn K (.ref a7v) "gain" = some none)
  (a2r : PySem.W.findIn K (.ref a7v) "many" = some none)
  (me_Hall___init___fn : PySem.W.isFn K (.ref a8p) = true)
  (mk_Hall_ma : PySem.W.makesIn K a7v = true)
  (mk_Hall_kp : PySem.W.keepIn K (.ref a7v) = true)
  (me_Hall_word_fn : PySem.W.isFn K (.ref a8q) = true)
  (me_Hall_fresh_at : PySem.W.findIn K (.ref a7v) "fresh" = some (some (.ref a1h)))
  (me_Hall_fresh_fn : PySem.W.isFn K (.ref a1h) = true)
  (cl_Swell_pg : PySem.W.plainGet K a3z Str.empty = true)
  (cl_Swell_hd : PySem.W.hasDictIn K a3z = true)
  (cl_Swell_po : PySem.W.plainOver K a3z = true)
  (cl_Swell_sa : PySem.W.findIn K (.ref a3z) "__setattr__" = some (some (.builtin "object.__setattr__")))
  (a1m : PySem.W.findIn K (.ref a3z) "corners" = some none)
  (a1p : PySem.W.findIn K (.ref a3z) "shared" = some none)
  (a1s : PySem.W.findIn K (.ref a3z) "lines" = some none)
  (me_Swell___init___fn : PySem.W.isFn K (.ref a6q) = true)
  (mk_Swell_ma : PySem.W.makesIn K a3z = true)
  (mk_Swell_kp : PySem.W.keepIn K (.ref a3z) = true)
  (me_Swell_fresh_fn : PySem.W.isFn K (.ref a5m) = true)
  (me_Swell_word_fn : PySem.W.isFn K (.ref a6r) = true)
  (cl_Chain_pg : PySem.W.plainGet K a6h Str.empty = true)
  (cl_Chain_hd : PySem.W.hasDictIn K a6h = true)
  (cl_Chain_po : PySem.W.plainOver K a6h = true)
  (cl_Chain_sa : PySem.W.findIn K (.ref a6h) "__setattr__" = some (some (.builtin "object.__setattr__")))
  (a3h : PySem.W.findIn K (.ref a6h) "parts" = some none)
  (a2v : PySem.W.findIn K (.ref a6h) "states" = some none)
  (me_Chain___init___fn : PySem.W.isFn K (.ref a6s) = true)
  (mk_Chain_ma : PySem.W.makesIn K a6h = true)
  (mk_Chain_kp : PySem.W.keepIn K (.ref a6h) = true)
  (me_Chain_words_fn : PySem.W.isFn K (.ref a5n) = true)
  (cl_Settler_pg : PySem.W.plainGet K a3l Str.empty = true)
  (cl_Settler_hd : PySem.W.hasDictIn K a3l = true)
  (cl_Settler_po : PySem.W.plainOver K a3l = true)
  (cl_Settler_sa : PySem.W.findIn K (.ref a3l) "__setattr__" = some (some (.builtin "object.__setattr__")))
  (a2g : PySem.W.findIn K (.ref a3l) "greatest" = some none)
  (a4h : PySem.W.findIn K (.ref a3l) "cuts" = some none)
  (a4i : PySem.W.findIn K (.ref a3l) "rest" = some none)
  (me_Settler___init___fn : PySem.W.isFn K (.ref a4o) = true)
  (mk_Settler_ma : PySem.W.makesIn K a3l = true)
  (mk_Settler_kp : PySem.W.keepIn K (.ref a3l) = true)
  (cl_Patch_pg : PySem.W.plainGet K a1q Str.empty = true)
  (cl_Patch_hd : PySem.W.hasDictIn K a1q = true)
  (cl_Patch_po : PySem.W.plainOver K a1q = true)
  (cl_Patch_sa : PySem.W.findIn K (.ref a1q) "__setattr__" = some (some (.builtin "object.__setattr__")))
  (a0k : PySem.W.findIn K (.ref a1q) "track_names" = some none)
  (a0o : PySem.W.findIn K (.ref a1q) "bus_names" = some none)
  (a0n : PySem.W.findIn K (.ref a1q) "told_sends" = some none)
  (a0p : PySem.W.findIn K (.ref a1q) "told_outs" = some none)
  (me_Patch___init___fn : PySem.W.isFn K (.ref a6t) = true)
  (mk_Patch_ma : PySem.W.makesIn K a1q = true)
  (mk_Patch_kp : PySem.W.keepIn K (.ref a1q) = true)
  (me_Patch_check_new_fn : PySem.W.isFn K (.ref a3g) = true)
  (me_Patch_track_fn : PySem.W.isFn K (.ref a5o) = true)
  (me_Patch_bus_fn : PySem.W.isFn K (.ref a8r) = true)
  (me_Patch_send_fn : PySem.W.isFn K (.ref a6u) = true)
  (me_Patch_way_fn : PySem.W.isFn K (.ref a8s) = true)
  (me_Patch_out_fn : PySem.W.isFn K (.ref a8t) = true)
  (me_Patch_tracks_fn : PySem.W.isFn K (.ref a4p) = true)
  (me_Patch_buses_fn : PySem.W.isFn K (.ref a5p) = true)
  (me_Patch_sends_fn : PySem.W.isFn K (.ref a5q) = true)
  (me_Patch_outs_fn : PySem.W.isFn K (.ref a6v) = true)
  (c3m : PySem.W.nsIn K mainGlobals "FIGURES" = some (some (.str "0123456789" t_FIGURES)))
  (a3q : PySem.W.nsIn K mainGlobals "MOST_FIGURES_wholes" = some (some (.int 13 t_MOST_FIGURES_wholes)))
  (a3r : PySem.W.nsIn K mainGlobals "MOST_FIGURES_ratios" = some (some (.int 9 t_MOST_FIGURES_ratios)))
  (b1w : PySem.W.nsIn K mainGlobals "MOST_GAIN" = some (some (.int 1000 t_MOST_GAIN)))
  (b1y : PySem.W.nsIn K mainGlobals "MOST_MANY" = some (some (.int 1000 t_MOST_MANY)))
  (b2u : PySem.W.nsIn K mainGlobals "MOST_TURNS" = some (some (.int 16 t_MOST_TURNS)))
  (c3n : PySem.W.nsIn K mainGlobals "MOST_AT" = some (some (.int 100000 t_MOST_AT)))
  (a8z : PySem.W.nsIn K mainGlobals "MOST_CORNERS" = some (some (.int 12 t_MOST_CORNERS)))
  (b2v : PySem.W.nsIn K mainGlobals "MOST_PARTS" = some (some (.int 8 t_MOST_PARTS)))
  (g1m : PySem.W.nsIn K mainGlobals "MOST" = some (some (.int 1000000000000 t_MOST)))
  (c3o : PySem.W.nsIn K mainGlobals "LETTERS" = some (some (.str "abcdefghijklmnopqrstuvwxyz" t_LETTERS)))
  (a9g : PySem.W.nsIn K mainGlobals "MOST_LETTERS" = some (some (.int 8 t_MOST_LETTERS)))
  (a6j : PySem.W.nsIn K mainGlobals "READERS" = some (some (.ref a1t)))
  (ld_READERS : K.lookup a1t = some ⟨.type "dict", none, .dict es_READERS n_READERS, #[]⟩)
  (kd_READERS : PySem.W.KeysLit w.params es_READERS.toList)
  (nd_READERS : (a1t == sysModules) = false)
  (a6k : PySem.W.nsIn K a1t "gain" = some (some (.ref b2m)))
  (a5i : PySem.W.nsIn K a1t "delay" = some (some (.ref a9p)))
  (a6l : PySem.W.nsIn K a1t "echo" = some (some (.ref b2n)))
  (a6m : PySem.W.nsIn K a1t "back" = some (some (.ref b2o)))
  (a5j : PySem.W.nsIn K a1t "swell" = some (some (.ref a9q)))
  (a6n : PySem.W.nsIn K a1t "hall" = some (some (.ref b2p)))
  : ∃ fd : FuncData, (∀ (s : Shared) (v : Value), BindsTo s fd ⟨[v], []⟩ [("_law_script", v)]) ∧ ∀ base : Heap, K.In base → base.Ns mainGlobals mg → a1n l.prog w K mg base CX0 15 fa fd ["_law_script"] (i4a 63 K) := by
 have e := hfa.symm.trans (PySem.W.mg_of X G k4b)
 cases e
 have b4t := a1k (st := b7n) f4g f4h f4i
 have c2s := b4t.binds (ps := ["value"]) fun _ _ _ _ _ _ us hl => match us, hl with | [_], _ => rfl
 have b1v := a1k (st := b1m) d0y d0z d1g
 have c0g := b1v.binds (ps := ["text"]) fun _ _ _ _ _ _ us hl => match us, hl with | [_], _ => rfl
 have c2t := a1k (st := b7o) f4k f4l f4m
 have f3l := c2t.binds (ps := ["text"]) fun _ _ _ _ _ _ us hl => match us, hl with | [_], _ => rfl
 have c2u := a1k (st := c2k) g2a g2b g2c
 have f1i := c2u.binds (ps := ["one", "other"]) fun _ _ _ _ _ _ us hl => match us, hl with | [_, _], _ => rfl
 have c2v := a1k (st := b7p) f4o f4p f4q
 have f3m := c2v.binds (ps := ["one", "other"]) fun _ _ _ _ _ _ us hl => match us, hl with | [_, _], _ => rfl
 have b4u := a1k (st := b7q) f4s f4t f4u
 have c2w := b4u.binds (ps := ["top", "bottom"]) fun _ _ _ _ _ _ us hl => match us, hl with | [_, _], _ => rfl
 have h6b := a1k (st := g8k) k0m k0n k0o
 have j8q := h6b.binds (ps := ["one", "other"]) fun _ _ _ _ _ _ us hl => match us, hl with | [_, _], _ => rfl
 have f3o := a1k (st := f2v) i8e i8f i8g
 have g9t := f3o.binds (ps := ["one", "other"]) fun _ _ _ _ _ _ us hl => match us, hl with | [_, _], _ => rfl
 have c9z := a1k (st := c2l) g2g g2h g2i
 have g0w := c9z.binds (ps := ["one"]) fun _ _ _ _ _ _ us hl => match us, hl with | [_], _ => rfl
 have c2y := a1k (st := b7r) f4w f4y f4z
 have f3p := c2y.binds (ps := ["one", "other"]) fun _ _ _ _ _ _ us hl => match us, hl with | [_, _], _ => rfl
 have a1z := a1k (st := a5y) b9i b9j b9k
 have a4g := a1z.binds (ps := ["one"]) fun _ _ _ _ _ _ us hl => match us, hl with | [_], _ => rfl
 have a8u := a1k (st := a5z) b9m b9n b9o
 have b8n := a8u.binds (ps := ["text"]) fun _ _ _ _ _ _ us hl => match us, hl with | [_], _ => rfl
 have c0h := a1k (st := b1n) d1i d1j a5u
 have a8v := c0h.binds (ps := ["self"]) fun _ _ _ _ _ _ us hl => match us, hl with | [_], _ => rfl
 have c4p := a1k (st := b3k) d6r d6s d6t
 have d5r := c4p.binds (ps := ["self", "gain"]) fun _ _ _ _ _ _ us hl => match us, hl with | [_, _], _ => rfl
 have c4q := a1k (st := b3l) d6v d6w c5w
 have d5s := c4q.binds (ps := ["self"]) fun _ _ _ _ _ _ us hl => match us, hl with | [_], _ => rfl
 have c0i := a1k (st := b1o) d1l d1m d1n
 have d0g := c0i.binds (ps := ["self", "many"]) fun _ _ _ _ _ _ us hl => match us, hl with | [_, _], _ => rfl
 have c0j := a1k (st := b1p) d1p d1q c0u
 have d0h := c0j.binds (ps := ["self"]) fun _ _ _ _ _ _ us hl => match us, hl with | [_], _ => rfl
 have b4v := a1k (st := b3m) d6z d7g d7h
 have c4r := b4v.binds (ps := ["number", "most"]) fun _ _ _ _ _ _ us hl => match us, hl with | [_, _], _ => rfl
 have c4s := a1k (st := b0q) d7j d7k d7l
 have d5t := c4s.binds (ps := ["self", "gain", "many", "turns"]) fun _ _ _ _ _ _ us hl => match us, hl with | [_, _, _, _], _ => rfl
 have c4t := a1k (st := b3n) d7n d7o c5y
 have d5u := c4t.binds (ps := ["self"]) fun _ _ _ _ _ _ us hl => match us, hl with | [_], _ => rfl
 have c4u := a1k (st := b3o) d7q d7r d7s
 have d5v := c4u.binds (ps := ["self", "gain", "many"]) fun _ _ _ _ _ _ us hl => match us, hl with | [_, _, _], _ => rfl
 have c4v := a1k (st := b3p) d7u d7v c5z
 have d5w := c4v.binds (ps := ["self"]) fun _ _ _ _ _ _ us hl => match us, hl with | [_], _ => rfl
 have c4w := a1k (st := b3q) d7y d7z d8g
 have d5y := c4w.binds (ps := ["self", "gain", "many"]) fun _ _ _ _ _ _ us hl => match us, hl with | [_, _, _], _ => rfl
 have c4y := a1k (st := b3r) d8i d8j c6g
 have d5z := c4y.binds (ps := ["self"]) fun _ _ _ _ _ _ us hl => match us, hl with | [_], _ => rfl
 have a8w := a1k (st := a6g) b9q b9r b9s
 have b8o := a8w.binds (ps := ["bottoms"]) fun _ _ _ _ _ _ us hl => match us, hl with | [_], _ => rfl
 have b8p := a1k (st := b3s) d8l d8m d8n
 have d6g := b8p.binds (ps := ["corners"]) fun _ _ _ _ _ _ us hl => match us, hl with | [_], _ => rfl
 have g8o := a1k (st := g8l) k0r k0s k0t
 have j0y := g8o.binds (ps := ["one", "bottom"]) fun _ _ _ _ _ _ us hl => match us, hl with | [_, _], _ => rfl
 have b2r := a1k (st := a9h) c6i c6j c6k
 have c4z := b2r.binds (ps := ["corner"]) fun _ _ _ _ _ _ us hl => match us, hl with | [_], _ => rfl
 have c0k := a1k (st := a5l) d1s d1t d1u
 have d0i := c0k.binds (ps := ["self", "corners"]) fun _ _ _ _ _ _ us hl => match us, hl with | [_, _], _ => rfl
 have b6r := a1k (st := a9i) c6m c6n b7h
 have c5g := b6r.binds (ps := ["self"]) fun _ _ _ _ _ _ us hl => match us, hl with | [_], _ => rfl
 have c0l := a1k (st := a8g) d1w d1y c0v
 have d0j := c0l.binds (ps := ["self"]) fun _ _ _ _ _ _ us hl => match us, hl with | [_], _ => rfl
 have a7l := a1k (st := b3t) d8p d8q d8r
 have b1k := a7l.binds (ps := ["text"]) fun _ _ _ _ _ _ us hl => match us, hl with | [_], _ => rfl
 have a5r := a1k (st := a9j) c6p c6q c6r
 have a9r := a5r.binds (ps := ["text", "least", "most"]) fun _ _ _ _ _ _ us hl => match us, hl with | [_, _, _], _ => rfl
 have b1l := a1k (st := b3u) d8t d8u d8v
 have b8r := b1l.binds (ps := ["text"]) fun _ _ _ _ _ _ us hl => match us, hl with | [_], _ => rfl
 have a3t := a1k (st := a9k) c6t c6u c6v
 have a5s := a3t.binds (ps := ["values", "count"]) fun _ _ _ _ _ _ us hl => match us, hl with | [_, _], _ => rfl
 have d0k := a1k (st := c2m) g2l g2m g2n
 have g1a := d0k.binds (ps := ["values"]) fun _ _ _ _ _ _ us hl => match us, hl with | [_], _ => rfl
 have c2z := a1k (st := b7s) f5h f5i f5j
 have f3q := c2z.binds (ps := ["values"]) fun _ _ _ _ _ _ us hl => match us, hl with | [_], _ => rfl
 have d0l := a1k (st := c2n) g2q g2r g2s
 have g1b := d0l.binds (ps := ["values"]) fun _ _ _ _ _ _ us hl => match us, hl with | [_], _ => rfl
 have d0m := a1k (st := c2o) g2u g2v g2w
 have g1c := d0m.binds (ps := ["values"]) fun _ _ _ _ _ _ us hl => match us, hl with | [_], _ => rfl
 have d0n := a1k (st := c2p) g2y g2z g3a
 have g1d := d0n.binds (ps := ["values"]) fun _ _ _ _ _ _ us hl => match us, hl with | [_], _ => rfl
 have b2s := a1k (st := a9l) c6y c6z c7g
 have c5h := b2s.binds (ps := ["text"]) fun _ _ _ _ _ _ us hl => match us, hl with | [_], _ => rfl
 have c3g := a1k (st := b3v) f5l f5m f5n
 have f3r := c3g.binds (ps := ["values"]) fun _ _ _ _ _ _ us hl => match us, hl with | [_], _ => rfl
 have d0o := a1k (st := c2q) g3d g3e g3f
 have g1e := d0o.binds (ps := ["word"]) fun _ _ _ _ _ _ us hl => match us, hl with | [_], _ => rfl
 have c3h := a1k (st := b3w) f5p f5q f5r
 have f3s := c3h.binds (ps := ["words"]) fun _ _ _ _ _ _ us hl => match us, hl with | [_], _ => rfl
 have c0m := a1k (st := a8h) d2g d2h d2i
 have d0p := c0m.binds (ps := ["self", "words"]) fun _ _ _ _ _ _ us hl => match us, hl with | [_, _], _ => rfl
 have b6t := a1k (st := a6y) c7i c7j b7i
 have c5i := b6t.binds (ps := ["self"]) fun _ _ _ _ _ _ us hl => match us, hl with | [_], _ => rfl
 have b5k := a1k (st := a7r) c1u c1v c1w
 have c1r := b5k.binds (ps := ["self", "greatest"]) fun _ _ _ _ _ _ us hl => match us, hl with | [_, _], _ => rfl
 have d0q := a1k (st := b8h) g3q g3r g3s
 have g1f := d0q.binds (ps := ["value"]) fun _ _ _ _ _ _ us hl => match us, hl with | [_], _ => rfl
 have c0n := a1k (st := b1q) d2l d2m d2n
 have c0o := c0n.binds (ps := ["self"]) fun _ _ _ _ _ _ us hl => match us, hl with | [_], _ => rfl
 have a9t := a1k (st := a4r) b5g b5h a9w
 have a9u := a9t.binds (ps := ["self", "name"]) fun _ _ _ _ _ _ us hl => match us, hl with | [_, _], _ => rfl
 have b6u := a1k (st := a9m) c7l c7m b7j
 have b6v := b6u.binds (ps := ["self", "name"]) fun _ _ _ _ _ _ us hl => match us, hl with | [_, _], _ => rfl
 have c5j := a1k (st := b3y) d8y d8z c7n
 have c5k := c5j.binds (ps := ["self", "name"]) fun _ _ _ _ _ _ us hl => match us, hl with | [_, _], _ => rfl
 have c0p := a1k (st := b1r) d2p d2q c0y
 have d0r := c0p.binds (ps := ["self", "source", "bus", "words"]) fun _ _ _ _ _ _ us hl => match us, hl with | [_, _, _, _], _ => rfl
 have c5l := a1k (st := b3z) d9h d9i c7o
 have d6i := c5l.binds (ps := ["self", "start", "end"]) fun _ _ _ _ _ _ us hl => match us, hl with | [_, _, _], _ => rfl
 have c5m := a1k (st := b0r) d9k d9l c7p
 have d6j := c5m.binds (ps := ["self", "bus", "greatest"]) fun _ _ _ _ _ _ us hl => match us, hl with | [_, _, _], _ => rfl
 have b5m := a1k (st := a7s) c1z c2g b5o
 have b5n := b5m.binds (ps := ["self"]) fun _ _ _ _ _ _ us hl => match us, hl with | [_], _ => rfl
 have b6w := a1k (st := a9n) c7r c7s b7k
 have b6y := b6w.binds (ps := ["self"]) fun _ _ _ _ _ _ us hl => match us, hl with | [_], _ => rfl
 have b6z := a1k (st := a6z) c7u c7v b7l
 have b7g := b6z.binds (ps := ["self"]) fun _ _ _ _ _ _ us hl => match us, hl with | [_], _ => rfl
 have c0q := a1k (st := b1s) d2t d2u c0z
 have c0r := c0q.binds (ps := ["self"]) fun _ _ _ _ _ _ us hl => match us, hl with | [_], _ => rfl
 have b2t := a1k (st := a9o) c7y c7z c8g
 have c5n := b2t.binds (ps := ["_law_script", "_law_k"]) fun _ _ _ _ _ _ us hl => match us, hl with | [_, _], _ => rfl
 have b8s := a1k (st := b4g) d9n d9o d9p
 have d6k := b8s.binds (ps := ["_law_found"]) fun _ _ _ _ _ _ us hl => match us, hl with | [_], _ => rfl
 have b8t := a1k (st := b0s) d9r d9s d9t
 have d6l := b8t.binds (ps := ["_law_cell"]) fun _ _ _ _ _ _ us hl => match us, hl with | [_], _ => rfl
 have a8y := a1k (st := b4h) d9v d9w d9y
 have b4w := a8y.binds (ps := ["_law_patch", "_law_turn"]) fun _ _ _ _ _ _ us hl => match us, hl with | [_, _], _ => rfl
 have b8u := a1k (st := b4i) f0g f0h f0i
 have d6m := b8u.binds (ps := ["_law_told"]) fun _ _ _ _ _ _ us hl => match us, hl with | [_], _ => rfl
 have b8v := a1k (st := b4j) f0k f0l f0m
 have d6n := b8v.binds (ps := ["_law_sends", "_law_first", "_law_last"]) fun _ _ _ _ _ _ us hl => match us, hl with | [_, _, _], _ => rfl
 have c3i := a1k (st := b4k) f5t f5u f5v
 have f3t := c3i.binds (ps := ["_law_patch", "_law_due", "_law_mixed"]) fun _ _ _ _ _ _ us hl => match us, hl with | [_, _, _], _ => rfl
 have c3j := a1k (st := b1t) f5y f5z f6g
 have f3u := c3j.binds (ps := ["_law_patch", "_law_due", "_law_names_here", "_law_mixed"]) fun _ _ _ _ _ _ us hl => match us, hl with | [_, _, _, _], _ => rfl
 have k2r := a1k (st := i4m) k9m k9n k9o
 have l3q := k2r.binds (ps := ["_law_script"]) fun _ _ _ _ _ _ us hl => match us, hl with | [_], _ => rfl
 have T : Tx K mg ⟨_, _, _, _, _, _, _, _, _, _, _, _, _, _, _, _, _, _, _, _, _, _, _, _, _, _, _, _, _, _, _, _, _, _, _, _, _, _, _, _, _, _, _, _, _, _, _, _, _, _, _, _, _, _, _, _, _, _, _, _, _, _, _, _, _, _, _, _, _, _, _, _, _, _, _, _, _, _, _, _, _, _, _, _, _, _, _, _, _, _, _, _, _, _, _, _, _, _, _, _, _, _, _, _, _, _, _, _, _, _, _, _, _, _, _, _, _, _, _, _, _, _, _, _, _, _, _, _, _, _, _, _, _, _, _, _, _, _, _, _, _, _, _, _, _, _, _, _, _, _, _, _, _, _, _, _, _, _, _, w⟩ := ⟨b4t, c2s, PySem.W.mg_of X G f3z, b1v, c0g, PySem.W.mg_of X G d0w, c2t, f3l, PySem.W.mg_of X G f4j, c2u, f1i, PySem.W.mg_of X G g1z, c2v, f3m, PySem.W.mg_of X G f4n, b4u, c2w, PySem.W.mg_of X G f4r, h6b, j8q, PySem.W.mg_of X G k0l, f3o, g9t, PySem.W.mg_of X G i8d, c9z, g0w, PySem.W.mg_of X G g2f, c2y, f3p, PySem.W.mg_of X G f4v, a1z, a4g, PySem.W.mg_of X G b9h, a8u, b8n, PySem.W.mg_of X G b9l, c0h, a8v, c4p, d5r, c4q, d5s, c0i, d0g, c0j, d0h, b4v, c4r, PySem.W.mg_of X G d6y, c4s, d5t, c4t, d5u, c4u, d5v, c4v, d5w, c4w, d5y, c4y, d5z, a8w, b8o, PySem.W.mg_of X G b9p, b8p, d6g, PySem.W.mg_of X G d8k, g8o, j0y, PySem.W.mg_of X G k0q, b2r, c4z, PySem.W.mg_of X G c6h, c0k, d0i, b6r, c5g, c0l, d0j, a7l, b1k, PySem.W.mg_of X G d8o, a5r, a9r, PySem.W.mg_of X G c6o, b1l, b8r, PySem.W.mg_of X G d8s, a3t, a5s, PySem.W.mg_of X G c6s, d0k, g1a, PySem.W.mg_of X G g2k, c2z, f3q, PySem.W.mg_of X G f5g, d0l, g1b, PySem.W.mg_of X G g2p, d0m, g1c, PySem.W.mg_of X G g2t, d0n, g1d, PySem.W.mg_of X G g2x, b2s, c5h, PySem.W.mg_of X G c6w, c3g, f3r, PySem.W.mg_of X G f5k, d0o, g1e, PySem.W.mg_of X G g3c, c3h, f3s, PySem.W.mg_of X G f5o, c0m, d0p, b6t, c5i, b5k, c1r, d0q, g1f, PySem.W.mg_of X G g3p, c0n, c0o, a9t, a9u, b6u, b6v, c5j, c5k, c0p, d0r, c5l, d6i, c5m, d6j, b5m, b5n, b6w, b6y, b6z, b7g, c0q, c0r, b2t, c5n, PySem.W.mg_of X G c7w, b8s, d6k, PySem.W.mg_of X G d9m, b8t, d6l, PySem.W.mg_of X G d9q, a8y, b4w, PySem.W.mg_of X G d9u, b8u, d6m, PySem.W.mg_of X G d9z, b8v, d6n, PySem.W.mg_of X G f0j, c3i, f3t, PySem.W.mg_of X G f5s, c3j, f3u, PySem.W.mg_of X G f5w, k2r, l3q, PySem.W.mg_of X G k4b, PySem.W.mg_none_of X G g4o, PySem.W.mg_none_of X G j8v, PySem.W.mg_none_of X G g8p, PySem.W.mg_none_of X G g1g, PySem.W.mg_none_of X G a1v, PySem.W.mg_none_of X G b8w, PySem.W.mg_none_of X G c3k, PySem.W.mg_none_of X G b8y, PySem.W.mg_none_of X G i5b, PySem.W.mg_none_of X G c5p, PySem.W.mg_none_of X G i5c, PySem.W.mg_of X G g9x, PySem.W.mg_of X G g1h, PySem.W.mg_of X G f1j, PySem.W.mg_of X G g1i, PySem.W.mg_of X G g1j, PySem.W.mg_of X G g1k, PySem.W.mg_of X G f1k, PySem.W.mg_of X G f1l, PySem.W.mg_of X G c3l, PySem.W.mg_of X G d3h, ⟨cl_Part_pg, cl_Part_hd, cl_Part_po, cl_Part_sa⟩, ⟨d1h, me_Part_fresh_fn, a5u⟩, ⟨cl_Gain_pg, cl_Gain_hd, cl_Gain_po, cl_Gain_sa⟩, a2l, ⟨mk_Gain_ma, d6q, me_Gain___init___fn, mk_Gain_kp⟩, ⟨d6u, me_Gain_word_fn, c5w⟩, ⟨me_Gain_fresh_at, me_Gain_fresh_fn, a5u⟩, ⟨cl_Delay_pg, cl_Delay_hd, cl_Delay_po, cl_Delay_sa⟩, a1w, ⟨mk_Delay_ma, d1k, me_Delay___init___fn, mk_Delay_kp⟩, ⟨d1o, me_Delay_word_fn, c0u⟩, ⟨me_Delay_fresh_at, me_Delay_fresh_fn, a5u⟩, ⟨cl_Echo_pg, cl_Echo_hd, cl_Echo_po, cl_Echo_sa⟩, a2m, a2n, a1y, a1o, a0t, ⟨mk_Echo_ma, d7i, me_Echo___init___fn, mk_Echo_kp⟩, ⟨d7m, me_Echo_word_fn, c5y⟩, ⟨me_Echo_fresh_at, me_Echo_fresh_fn, a5u⟩, ⟨cl_Back_pg, cl_Back_hd, cl_Back_po, cl_Back_sa⟩, a2o, a2p, ⟨mk_Back_ma, d7p, me_Back___init___fn, mk_Back_kp⟩, ⟨d7t, me_Back_word_fn, c5z⟩, ⟨me_Back_fresh_at, me_Back_fresh_fn, a5u⟩, ⟨cl_Hall_pg, cl_Hall_hd, cl_Hall_po, cl_Hall_sa⟩, a2q, a2r, ⟨mk_Hall_ma, d7w, me_Hall___init___fn, mk_Hall_kp⟩, ⟨d8h, me_Hall_word_fn, c6g⟩, ⟨me_Hall_fresh_at, me_Hall_fresh_fn, a5u⟩, ⟨cl_Swell_pg, cl_Swell_hd, cl_Swell_po, cl_Swell_sa⟩, a1m, a1p, a1s, ⟨mk_Swell_ma, d1r, me_Swell___init___fn, mk_Swell_kp⟩, ⟨c6l, me_Swell_fresh_fn, b7h⟩, ⟨d1v, me_Swell_word_fn, c0v⟩, ⟨cl_Chain_pg, cl_Chain_hd, cl_Chain_po, cl_Chain_sa⟩, a3h, a2v, ⟨mk_Chain_ma, d1z, me_Chain___init___fn, mk_Chain_kp⟩, ⟨c7h, me_Chain_words_fn, b7i⟩, ⟨cl_Settler_pg, cl_Settler_hd, cl_Settler_po, cl_Settler_sa⟩, a2g, a4h, a4i, ⟨mk_Settler_ma, c1t, me_Settler___init___fn, mk_Settler_kp⟩, ⟨cl_Patch_pg, cl_Patch_hd, cl_Patch_po, cl_Patch_sa⟩, a0k, a0o, a0n, a0p, ⟨mk_Patch_ma, d2k, me_Patch___init___fn, mk_Patch_kp⟩, ⟨b4z, me_Patch_check_new_fn, a9w⟩, ⟨c7k, me_Patch_track_fn, b7j⟩, ⟨d8w, me_Patch_bus_fn, c7n⟩, ⟨d2o, me_Patch_send_fn, c0y⟩, ⟨d9g, me_Patch_way_fn, c7o⟩, ⟨d9j, me_Patch_out_fn, c7p⟩, ⟨c1y, me_Patch_tracks_fn, b5o⟩, ⟨c7q, me_Patch_buses_fn, b7k⟩, ⟨c7t, me_Patch_sends_fn, b7l⟩, ⟨d2s, me_Patch_outs_fn, c0z⟩, PySem.W.mg_of X G c3m, ⟨_, rfl⟩, PySem.W.mg_of X G a3q, ⟨_, rfl⟩, PySem.W.mg_of X G a3r, ⟨_, rfl⟩, PySem.W.mg_of X G b1w, ⟨_, rfl⟩, PySem.W.mg_of X G b1y, ⟨_, rfl⟩, PySem.W.mg_of X G b2u, ⟨_, rfl⟩, PySem.W.mg_of X G c3n, ⟨_, rfl⟩, PySem.W.mg_of X G a8z, ⟨_, rfl⟩, PySem.W.mg_of X G b2v, ⟨_, rfl⟩, PySem.W.mg_of X G g1m, ⟨_, rfl⟩, PySem.W.mg_of X G c3o, ⟨_, rfl⟩, PySem.W.mg_of X G a9g, ⟨_, rfl⟩, PySem.W.mg_of X G a6j, ⟨⟨_, _, ld_READERS, kd_READERS⟩, nd_READERS⟩, a6k, a5i, a6l, a6m, a5j, a6n⟩
 exact ⟨_, fun s v => .of_eq rfl, fun base _ _ => l4w T⟩
end My
namespace PySem.W.Fast
theorem tw643982800214888665:True:=trivial
theorem tw10854719287789463251:True:=trivial
theorem tw1519113958096432560:True:=trivial
theorem tw17728754461978456810:True:=trivial
theorem tw14309930417423674718:True:=trivial
theorem tw6567549911297208770:True:=trivial
theorem tw4106991484710015501:True:=trivial
theorem tw14420659600092629002:True:=trivial
theorem tw4549853682839905005:True:=trivial
theorem tw4817144320139452893:True:=trivial
theorem tw16755167966273752689:True:=trivial
theorem tw7254450059205539772:True:=trivial
theorem tw7243454403453847715:True:=trivial
theorem tw14973189203872888861:True:=trivial
theorem tw3323191265158061296:True:=trivial
theorem tw11323952158918996441:True:=trivial
theorem tw17506702213028783291:True:=trivial
theorem tw16571061678718521538:True:=trivial
theorem tw10440892301058889783:True:=trivial
theorem tw2602890970840535059:True:=trivial
theorem tw17284173479371314918:True:=trivial
theorem tw6823170742927991297:True:=trivial
theorem tw2104174022497496271:True:=trivial
theorem tw13067280281605292798:True:=trivial
theorem tw8888236128130535053:True:=trivial
theorem tw11509609846693723843:True:=trivial
theorem tw6518656137149330994:True:=trivial
theorem tw17088133088545598957:True:=trivial
theorem tw12489740360357316261:True:=trivial
theorem tw13467794722822846039:True:=trivial
theorem tw9235950587750563689:True:=trivial
theorem tw13000111994429407727:True:=trivial
theorem tw925995293213352883:True:=trivial
theorem tw7555949555151312860:True:=trivial
theorem tw9842486672661088990:True:=trivial
theorem tw14561537519386336330:True:=trivial
theorem tw871272934901180108:True:=trivial
theorem tw9579612902455396607:True:=trivial
theorem tw5438707631023865966:True:=trivial
theorem tw4905736066740818789:True:=trivial
theorem tw10268246829463706978:True:=trivial
theorem tw9650335732494768002:True:=trivial
theorem tw5834714871654469365:True:=trivial
theorem tw17056040114406648134:True:=trivial
theorem tw14243138528501122602:True:=trivial
theorem tw14142840281059198797:True:=trivial
theorem tw10110998451611114970:True:=trivial
theorem tw11125504883820834750:True:=trivial
theorem tw15223959539852093930:True:=trivial
theorem tw18075010298172876804:True:=trivial
theorem tw13043543056082090858:True:=trivial
theorem tw4523396474490266840:True:=trivial
theorem tw7569629164657125186:True:=trivial
theorem tw6324385654401615944:True:=trivial
theorem tw9588710558643558513:True:=trivial
theorem tw11437007125943989719:True:=trivial
theorem tw7574522651615946643:True:=trivial
theorem tw16810643274672009858:True:=trivial
theorem tw10194017529230588963:True:=trivial
theorem tw3945510328403600545:True:=trivial
theorem tw12014330758271505522:True:=trivial
theorem tw7606063599485800334:True:=trivial
theorem tw11489461109221423876:True:=trivial
theorem tw7755831653912904360:True:=trivial
theorem tw2892945181339790914:True:=trivial
theorem tw18202427414838850613:True:=trivial
theorem tw13859041970330988170:True:=trivial
theorem tw10703860876699194575:True:=trivial
theorem tw17813501782002582596:True:=trivial
theorem tw4112443822299402084:True:=trivial
theorem tw12214182391901434354:True:=trivial
theorem tw13171017523559479405:True:=trivial
theorem tw9732774949227596700:True:=trivial
theorem tw14593033566957393655:True:=trivial
theorem tw6134400201252571820:True:=trivial
theorem tw12675315474358713980:True:=trivial
theorem tw5074935438586200970:True:=trivial
theorem tw2473549946280481397:True:=trivial
theorem tw17738951078169838335:True:=trivial
theorem tw4100496361230911657:True:=trivial
theorem tw10735983286835310750:True:=trivial
theorem tw2447227337092898028:True:=trivial
theorem tw17875587699035181713:True:=trivial
theorem tw2762786124937318047:True:=trivial
theorem tw13437000012964291641:True:=trivial
theorem tw18134284279269437258:True:=trivial
theorem tw5036627693479467250:True:=trivial
theorem tw11574329481251985703:True:=trivial
theorem tw7813953498125703773:True:=trivial
theorem tw10623054901629194025:True:=trivial
theorem tw13026750129211240912:True:=trivial
theorem tw15228735999290318431:True:=trivial
theorem tw3399917837946518360:True:=trivial
theorem tw15416929410060918660:True:=trivial
theorem tw16015414299235964718:True:=trivial
theorem tw14963602320568823844:True:=trivial
theorem tw16613566487643450975:True:=trivial
theorem tw6321212523045499784:True:=trivial
theorem tw14548056906209785504:True:=trivial
theorem tw9351875027735570050:True:=trivial
theorem tw1708241591198870374:True:=trivial
theorem tw13829355899038539026:True:=trivial
theorem tw11994561369067050715:True:=trivial
theorem tw2184549160708323540:True:=trivial
theorem tw7712508910821819280:True:=trivial
theorem tw5115317322909220753:True:=trivial
theorem tw8077404231971795093:True:=trivial
theorem tw5176378191668103836:True:=trivial
theorem tw12002613780463753669:True:=trivial
theorem tw1447745714324996197:True:=trivial
theorem tw6034859163233520554:True:=trivial
theorem tw11512270324083672035:True:=trivial
theorem tw1502623800598534604:True:=trivial
theorem tw13872139870754352528:True:=trivial
theorem tw2202242414821320271:True:=trivial
theorem tw7387409887827931079:True:=trivial
theorem tw17625627155684278113:True:=trivial
theorem tw7081852959800542633:True:=trivial
theorem tw1892410477032329525:True:=trivial
theorem tw17476591653579328597:True:=trivial
theorem tw11941672938034789348:True:=trivial
theorem tw16221815033300030792:True:=trivial
theorem tw13276105540195618156:True:=trivial
theorem tw1560409149693220822:True:=trivial
theorem tw3859377636193028762:True:=trivial
theorem tw5081186326777476654:True:=trivial
theorem tw17193835594088637261:True:=trivial
theorem tw10823626462476868170:True:=trivial
theorem tw2851206762978219241:True:=trivial
theorem tw17024351111930882169:True:=trivial
theorem tw2497019816540520495:True:=trivial
theorem tw10669978513028945408:True:=trivial
theorem tw7871779825044239359:True:=trivial
theorem tw17998348753875720179:True:=trivial
theorem tw18352679618823541486:True:=trivial
theorem tw8597863589122969023:True:=trivial
theorem tw14160677206365916892:True:=trivial
theorem tw15473913455859000599:True:=trivial
theorem tw14221727722904151037:True:=trivial
theorem tw14295390585520525547:True:=trivial
theorem tw17392065670182703762:True:=trivial
theorem tw16388632399461389121:True:=trivial
theorem tw1463677691528934604:True:=trivial
theorem tw16017384530879557700:True:=trivial
theorem tw7013888191118638042:True:=trivial
theorem tw691529009798173976:True:=trivial
theorem tw15875902099994500197:True:=trivial
theorem tw14388700346577649002:True:=trivial
theorem tw4220355522569081399:True:=trivial
theorem tw14535675412826823440:True:=trivial
theorem tw6051706369713914131:True:=trivial
theorem tw4707355019576254606:True:=trivial
theorem tw11880998376628563899:True:=trivial
theorem tw472964759377862389:True:=trivial
theorem tw15934269333771470567:True:=trivial
theorem tw18318092312203024532:True:=trivial
theorem tw11929036894011515480:True:=trivial
theorem tw1568104226729718028:True:=trivial
theorem tw363650177779384932:True:=trivial
theorem tw7068469752805108716:True:=trivial
theorem tw7969252133762671629:True:=trivial
theorem tw2708746995725054601:True:=trivial
theorem tw16311677327579019039:True:=trivial
theorem tw11364580561736527467:True:=trivial
theorem tw13485670371468444853:True:=trivial
theorem tw14469675179693274158:True:=trivial
theorem tw5092353743239663347:True:=trivial
theorem tw15478333622710403017:True:=trivial
theorem tw11671313180986983581:True:=trivial
theorem tw9440751971980864398:True:=trivial
theorem tw15419651224744071132:True:=trivial
theorem tw9372635854938005470:True:=trivial
theorem tw7433053694122925313:True:=trivial
theorem tw3400158022128156329:True:=trivial
theorem tw8209325321432622674:True:=trivial
theorem tw16873821348306996772:True:=trivial
theorem tw8802207208409345187:True:=trivial
theorem tw3457667834304155784:True:=trivial
theorem tw12948355507696817148:True:=trivial
theorem tw11716563555305983832:True:=trivial
theorem tw9487701757224792282:True:=trivial
theorem tw13964238776697835562:True:=trivial
theorem tw12228288954771680089:True:=trivial
theorem tw9324170058370259366:True:=trivial
theorem tw8733996097006319154:True:=trivial
theorem tw13638987650616844389:True:=trivial
theorem tw2207796608473593318:True:=trivial
theorem tw3849186570385779735:True:=trivial
theorem tw16093498241304024285:True:=trivial
theorem tw16434957755000481491:True:=trivial
theorem tw9271823192007591340:True:=trivial
theorem tw675363057656827682:True:=trivial
theorem tw794534022789585949:True:=trivial
theorem tw15738535291742640501:True:=trivial
theorem tw1558830748475501390:True:=trivial
theorem tw14966777609284512085:True:=trivial
theorem tw17532251224364368113:True:=trivial
theorem tw2378099354851129670:True:=trivial
theorem tw3236684714328983428:True:=trivial
theorem tw113679568015955969:True:=trivial
theorem tw1283643508063619285:True:=trivial
theorem tw12887034404315695756:True:=trivial
theorem tw6830765467868700689:True:=trivial
theorem tw943797317186270811:True:=trivial
theorem tw2122659959258316023:True:=trivial
theorem tw2779427677128423062:True:=trivial
theorem tw2444243878014630379:True:=trivial
theorem tw8877015542899176561:True:=trivial
theorem tw5868779998310863249:True:=trivial
theorem tw3112926977075596641:True:=trivial
theorem tw17958106033026343198:True:=trivial
theorem tw5809028963931881726:True:=trivial
theorem tw13771113742594356923:True:=trivial
theorem tw18361157686918606131:True:=trivial
theorem tw12137692635349099261:True:=trivial
theorem tw8939340781753359337:True:=trivial
theorem tw11038591428195498038:True:=trivial
theorem tw17827645534040598145:True:=trivial
theorem tw4752388307530783994:True:=trivial
theorem tw10659413755999614600:True:=trivial
theorem tw18299920184908940760:True:=trivial
theorem tw13555062434015056254:True:=trivial
theorem tw14044367357128495360:True:=trivial
theorem tw791976891568432685:True:=trivial
theorem tw8864040547694348924:True:=trivial
theorem tw3970886604545210817:True:=trivial
theorem tw103010081348067686:True:=trivial
theorem tw9982266741488176425:True:=trivial
theorem tw2448297191881890651:True:=trivial
theorem tw18023430199457178514:True:=trivial
theorem tw8359939979203682911:True:=trivial
theorem tw6782567598810301652:True:=trivial
theorem tw8285415969448291180:True:=trivial
theorem tw16357304642106234202:True:=trivial
theorem tw4172807797174560444:True:=trivial
theorem tw13274137611348175806:True:=trivial
theorem tw10140682240761083149:True:=trivial
theorem tw3697088955411893128:True:=trivial
theorem tw1076276889234166206:True:=trivial
theorem tw14094130840732763155:True:=trivial
theorem tw17080492665310433452:True:=trivial
theorem tw14439094710939596599:True:=trivial
theorem tw2074756038121117741:True:=trivial
theorem tw6312648492552739255:True:=trivial
theorem tw5256831294281536883:True:=trivial
theorem tw7046574139219388952:True:=trivial
theorem tw1500592251461770400:True:=trivial
theorem tw1774862921935164572:True:=trivial
theorem tw573888113410027103:True:=trivial
theorem tw7263693495532632315:True:=trivial
theorem tw14633808010064779980:True:=trivial
theorem tw8835063699100645519:True:=trivial
theorem tw13697602683615556881:True:=trivial
theorem tw7620064617423186659:True:=trivial
theorem tw11349799501336491547:True:=trivial
theorem tw7029046468421792583:True:=trivial
theorem tw17898709228290240673:True:=trivial
theorem tw3568382752195576117:True:=trivial
theorem tw10262996468827910097:True:=trivial
theorem tw10153476443977302886:True:=trivial
theorem tw14379425818348889046:True:=trivial
theorem tw16456721710363512663:True:=trivial
theorem tw13468957800842962098:True:=trivial
theorem tw10215736112259216948:True:=trivial
theorem tw7713386406990905886:True:=trivial
theorem tw12543181496451632012:True:=trivial
theorem tw54326171512305522:True:=trivial
theorem tw10848353561133653872:True:=trivial
theorem tw16616075906440937200:True:=trivial
theorem tw1219592241777845274:True:=trivial
theorem tw3532003627976344097:True:=trivial
theorem tw2894286578586043671:True:=trivial
theorem tw5887794416380166128:True:=trivial
theorem tw6100519752100784493:True:=trivial
theorem tw13988917717283328756:True:=trivial
theorem tw17592277058289627231:True:=trivial
theorem tw16969702961543507041:True:=trivial
theorem tw10681232906635350997:True:=trivial
theorem tw13197424013735758239:True:=trivial
theorem tw741948492514115651:True:=trivial
theorem tw4569869784869114782:True:=trivial
theorem tw5876144603608825872:True:=trivial
theorem tw16820725060091311162:True:=trivial
theorem tw14775090715309557973:True:=trivial
theorem tw4507678898480571189:True:=trivial
theorem tw4964509861789992703:True:=trivial
theorem tw11259866234280797423:True:=trivial
theorem tw4278686081168407282:True:=trivial
theorem tw7279628212053537326:True:=trivial
theorem tw18043963108448216595:True:=trivial
theorem tw14106269752717855523:True:=trivial
theorem tw15688941046629313699:True:=trivial
theorem tw15506064147064844671:True:=trivial
theorem tw12579065383587092396:True:=trivial
theorem tw2706290048806850131:True:=trivial
theorem tw18164329507527064723:True:=trivial
theorem tw15476182651577368937:True:=trivial
theorem tw3178775418795171223:True:=trivial
theorem tw2957962450631214573:True:=trivial
theorem tw273349466682647000:True:=trivial
end PySem.W.Fast
open PySem PySem.W PyProof.Rows
set_option maxRecDepth 100000 in
set_option maxHeartbeats 0 in
theorem PySem.Challenge.cw_mixbench_k51_what_was_told_holds : PySem.Challenge.rw_mixbench_k51_what_was_told.Holds := by
 w_on; o_law; k_head; (case hw => w_witness2)
 k_fill
 refine L2.k1v (l := PySem.Challenge.rw_mixbench_k51_what_was_told) (k := 15) (x := "_law_script") (CX := fun _ => L2.CX0) rfl rfl ⟨rfl, by decide, by decide⟩ (fun w h Y => PySem.W.kIn_of Y) ?F (fun _ _ _ _ _ z => z)
 case F =>
  intro w mg fa h KX G hmg
  refine' My.all_mk KX G hmg ?g9x ?g1h ?f1j ?g1i ?g1j ?g1k ?f1k ?f1l ?c3l ?d3h ?f3z ?f4g ?f4h ?f4i ?d0w ?d0y ?d0z ?d1g ?f4j ?f4k ?f4l ?f4m ?g1z ?g2a ?g2b ?g2c ?f4n ?f4o ?f4p ?f4q ?f4r ?f4s ?f4t ?f4u ?k0l ?k0m ?k0n ?k0o ?i8d ?i8e ?i8f ?i8g ?g2f ?g2g ?g2h ?g2i ?f4v ?f4w ?f4y ?f4z ?b9h ?b9i ?b9j ?b9k ?b9l ?b9m ?b9n ?b9o ?d1h ?d1i ?d1j ?a5u ?d6q ?d6r ?d6s ?d6t ?d6u ?d6v ?d6w ?c5w ?d1k ?d1l ?d1m ?d1n ?d1o ?d1p ?d1q ?c0u ?d6y ?d6z ?d7g ?d7h ?d7i ?d7j ?d7k ?d7l ?d7m ?d7n ?d7o ?c5y ?d7p ?d7q ?d7r ?d7s ?d7t ?d7u ?d7v ?c5z ?d7w ?d7y ?d7z ?d8g ?d8h ?d8i ?d8j ?c6g ?b9p ?b9q ?b9r ?b9s ?d8k ?d8l ?d8m ?d8n ?k0q ?k0r ?k0s ?k0t ?c6h ?c6i ?c6j ?c6k ?d1r ?d1s ?d1t ?d1u ?c6l ?c6m ?c6n ?b7h ?d1v ?d1w ?d1y ?c0v ?d8o ?d8p ?d8q ?d8r ?c6o ?c6p ?c6q ?c6r ?d8s ?d8t ?d8u ?d8v ?c6s ?c6t ?c6u ?c6v ?g2k ?g2l ?g2m ?g2n ?f5g ?f5h ?f5i ?f5j ?g2p ?g2q ?g2r ?g2s ?g2t ?g2u ?g2v ?g2w ?g2x ?g2y ?g2z ?g3a ?c6w ?c6y ?c6z ?c7g ?f5k ?f5l ?f5m ?f5n ?g3c ?g3d ?g3e ?g3f ?f5o ?f5p ?f5q ?f5r ?d1z ?d2g ?d2h ?d2i ?c7h ?c7i ?c7j ?b7i ?c1t ?c1u ?c1v ?c1w ?g3p ?g3q ?g3r ?g3s ?d2k ?d2l ?d2m ?d2n ?b4z ?b5g ?b5h ?a9w ?c7k ?c7l ?c7m ?b7j ?d8w ?d8y ?d8z ?c7n ?d2o ?d2p ?d2q ?c0y ?d9g ?d9h ?d9i ?c7o ?d9j ?d9k ?d9l ?c7p ?c1y ?c1z ?c2g ?b5o ?c7q ?c7r ?c7s ?b7k ?c7t ?c7u ?c7v ?b7l ?d2s ?d2t ?d2u ?c0z ?c7w ?c7y ?c7z ?c8g ?d9m ?d9n ?d9o ?d9p ?d9q ?d9r ?d9s ?d9t ?d9u ?d9v ?d9w ?d9y ?d9z ?f0g ?f0h ?f0i ?f0j ?f0k ?f0l ?f0m ?f5s ?f5t ?f5u ?f5v ?f5w ?f5y ?f5z ?f6g ?k4b ?k9m ?k9n ?k9o ?g4o ?j8v ?g8p ?g1g ?a1v ?b8w ?c3k ?b8y ?i5b ?c5p ?i5c ?cl_Part_pg ?cl_Part_hd ?cl_Part_po ?cl_Part_sa ?me_Part_fresh_fn ?cl_Gain_pg ?cl_Gain_hd ?cl_Gain_po ?cl_Gain_sa ?a2l ?me_Gain___init___fn ?mk_Gain_ma ?mk_Gain_kp ?me_Gain_word_fn ?me_Gain_fresh_at ?me_Gain_fresh_fn ?cl_Delay_pg ?cl_Delay_hd ?cl_Delay_po ?cl_Delay_sa ?a1w ?me_Delay___init___fn ?mk_Delay_ma ?mk_Delay_kp ?me_Delay_word_fn ?me_Delay_fresh_at ?me_Delay_fresh_fn ?cl_Echo_pg ?cl_Echo_hd ?cl_Echo_po ?cl_Echo_sa ?a2m ?a2n ?a1y ?a1o ?a0t ?me_Echo___init___fn ?mk_Echo_ma ?mk_Echo_kp ?me_Echo_word_fn ?me_Echo_fresh_at ?me_Echo_fresh_fn ?cl_Back_pg ?cl_Back_hd ?cl_Back_po ?cl_Back_sa ?a2o ?a2p ?me_Back___init___fn ?mk_Back_ma ?mk_Back_kp ?me_Back_word_fn ?me_Back_fresh_at ?me_Back_fresh_fn ?cl_Hall_pg ?cl_Hall_hd ?cl_Hall_po ?cl_Hall_sa ?a2q ?a2r ?me_Hall___init___fn ?mk_Hall_ma ?mk_Hall_kp ?me_Hall_word_fn ?me_Hall_fresh_at ?me_Hall_fresh_fn ?cl_Swell_pg ?cl_Swell_hd ?cl_Swell_po ?cl_Swell_sa ?a1m ?a1p ?a1s ?me_Swell___init___fn ?mk_Swell_ma ?mk_Swell_kp ?me_Swell_fresh_fn ?me_Swell_word_fn ?cl_Chain_pg ?cl_Chain_hd ?cl_Chain_po ?cl_Chain_sa ?a3h ?a2v ?me_Chain___init___fn ?mk_Chain_ma ?mk_Chain_kp ?me_Chain_words_fn ?cl_Settler_pg ?cl_Settler_hd ?cl_Settler_po ?cl_Settler_sa ?a2g ?a4h ?a4i ?me_Settler___init___fn ?mk_Settler_ma ?mk_Settler_kp ?cl_Patch_pg ?cl_Patch_hd ?cl_Patch_po ?cl_Patch_sa ?a0k ?a0o ?a0n ?a0p ?me_Patch___init___fn ?mk_Patch_ma ?mk_Patch_kp ?me_Patch_check_new_fn ?me_Patch_track_fn ?me_Patch_bus_fn ?me_Patch_send_fn ?me_Patch_way_fn ?me_Patch_out_fn ?me_Patch_tracks_fn ?me_Patch_buses_fn ?me_Patch_sends_fn ?me_Patch_outs_fn ?c3m ?a3q ?a3r ?b1w ?b1y ?b2u ?c3n ?a8z ?b2v ?g1m ?c3o ?a9g ?a6j ?ld_READERS ?kd_READERS ?nd_READERS ?a6k ?a5i ?a6l ?a6m ?a5j ?a6n
  (case g9x => k_is)
  (case g1h => k_is)
  (case f1j => k_is)
  (case g1i => k_is)
  (case g1j => k_is)
  (case g1k => k_is)
  (case f1k => k_is)
  (case f1l => k_is)
  (case c3l => k_is)
  (case d3h => k_is)
  (case f3z => k_is)
  (case f4g => k_is)
  (case f4h => k_is)
  (case f4i => k_is)
  (case d0w => k_is)
  (case d0y => k_is)
  (case d0z => k_is)
  (case d1g => k_is)
  (case f4j => k_is)
  (case f4k => k_is)
  (case f4l => k_is)
  (case f4m => k_is)
  (case g1z => k_is)
  (case g2a => k_is)
  (case g2b => k_is)
  (case g2c => k_is)
  (case f4n => k_is)
  (case f4o => k_is)
  (case f4p => k_is)
  (case f4q => k_is)
  (case f4r => k_is)
  (case f4s => k_is)
  (case f4t => k_is)
  (case f4u => k_is)
  (case k0l => k_is)
  (case k0m => k_is)
  (case k0n => k_is)
  (case k0o => k_is)
  (case i8d => k_is)
  (case i8e => k_is)
  (case i8f => k_is)
  (case i8g => k_is)
  (case g2f => k_is)
  (case g2g => k_is)
  (case g2h => k_is)
  (case g2i => k_is)
  (case f4v => k_is)
  (case f4w => k_is)
  (case f4y => k_is)
  (case f4z => k_is)
  (case b9h => k_is)
  (case b9i => k_is)
  (case b9j => k_is)
  (case b9k => k_is)
  (case b9l => k_is)
  (case b9m => k_is)
  (case b9n => k_is)
  (case b9o => k_is)
  (case d1h => k_is)
  (case d1i => k_is)
  (case d1j => k_is)
  (case a5u => k_is)
  (case d6q => k_is)
  (case d6r => k_is)
  (case d6s => k_is)
  (case d6t => k_is)
  (case d6u => k_is)
  (case d6v => k_is)
  (case d6w => k_is)
  (case c5w => k_is)
  (case d1k => k_is)
  (case d1l => k_is)
  (case d1m => k_is)
  (case d1n => k_is)
  (case d1o => k_is)
  (case d1p => k_is)
  (case d1q => k_is)
  (case c0u => k_is)
  (case d6y => k_is)
  (case d6z => k_is)
  (case d7g => k_is)
  (case d7h => k_is)
  (case d7i => k_is)
  (case d7j => k_is)
  (case d7k => k_is)
  (case d7l => k_is)
  (case d7m => k_is)
  (case d7n => k_is)
  (case d7o => k_is)
  (case c5y => k_is)
  (case d7p => k_is)
  (case d7q => k_is)
  (case d7r => k_is)
  (case d7s => k_is)
  (case d7t => k_is)
  (case d7u => k_is)
  (case d7v => k_is)
  (case c5z => k_is)
  (case d7w => k_is)
  (case d7y => k_is)
  (case d7z => k_is)
  (case d8g => k_is)
  (case d8h => k_is)
  (case d8i => k_is)
  (case d8j => k_is)
  (case c6g => k_is)
  (case b9p => k_is)
  (case b9q => k_is)
  (case b9r => k_is)
  (case b9s => k_is)
  (case d8k => k_is)
  (case d8l => k_is)
  (case d8m => k_is)
  (case d8n => k_is)
  (case k0q => k_is)
  (case k0r => k_is)
  (case k0s => k_is)
  (case k0t => k_is)
  (case c6h => k_is)
  (case c6i => k_is)
  (case c6j => k_is)
  (case c6k => k_is)
  (case d1r => k_is)
  (case d1s => k_is)
  (case d1t => k_is)
  (case d1u => k_is)
  (case c6l => k_is)
  (case c6m => k_is)
  (case c6n => k_is)
  (case b7h => k_is)
  (case d1v => k_is)
  (case d1w => k_is)
  (case d1y => k_is)
  (case c0v => k_is)
  (case d8o => k_is)
  (case d8p => k_is)
  (case d8q => k_is)
  (case d8r => k_is)
  (case c6o => k_is)
  (case c6p => k_is)
  (case c6q => k_is)
  (case c6r => k_is)
  (case d8s => k_is)
  (case d8t => k_is)
  (case d8u => k_is)
  (case d8v => k_is)
  (case c6s => k_is)
  (case c6t => k_is)
  (case c6u => k_is)
  (case c6v => k_is)
  (case g2k => k_is)
  (case g2l => k_is)
  (case g2m => k_is)
  (case g2n => k_is)
  (case f5g => k_is)
  (case f5h => k_is)
  (case f5i => k_is)
  (case f5j => k_is)
  (case g2p => k_is)
  (case g2q => k_is)
  (case g2r => k_is)
  (case g2s => k_is)
  (case g2t => k_is)
  (case g2u => k_is)
  (case g2v => k_is)
  (case g2w => k_is)
  (case g2x => k_is)
  (case g2y => k_is)
  (case g2z => k_is)
  (case g3a => k_is)
  (case c6w => k_is)
  (case c6y => k_is)
  (case c6z => k_is)
  (case c7g => k_is)
  (case f5k => k_is)
  (case f5l => k_is)
  (case f5m => k_is)
  (case f5n => k_is)
  (case g3c => k_is)
  (case g3d => k_is)
  (case g3e => k_is)
  (case g3f => k_is)
  (case f5o => k_is)
  (case f5p => k_is)
  (case f5q => k_is)
  (case f5r => k_is)
  (case d1z => k_is)
  (case d2g => k_is)
  (case d2h => k_is)
  (case d2i => k_is)
  (case c7h => k_is)
  (case c7i => k_is)
  (case c7j => k_is)
  (case b7i => k_is)
  (case c1t => k_is)
  (case c1u => k_is)
  (case c1v => k_is)
  (case c1w => k_is)
  (case g3p => k_is)
  (case g3q => k_is)
  (case g3r => k_is)
  (case g3s => k_is)
  (case d2k => k_is)
  (case d2l => k_is)
  (case d2m => k_is)
  (case d2n => k_is)
  (case b4z => k_is)
  (case b5g => k_is)
  (case b5h => k_is)
  (case a9w => k_is)
  (case c7k => k_is)
  (case c7l => k_is)
  (case c7m => k_is)
  (case b7j => k_is)
  (case d8w => k_is)
  (case d8y => k_is)
  (case d8z => k_is)
  (case c7n => k_is)
  (case d2o => k_is)
  (case d2p => k_is)
  (case d2q => k_is)
  (case c0y => k_is)
  (case d9g => k_is)
  (case d9h => k_is)
  (case d9i => k_is)
  (case c7o => k_is)
  (case d9j => k_is)
  (case d9k => k_is)
  (case d9l => k_is)
  (case c7p => k_is)
  (case c1y => k_is)
  (case c1z => k_is)
  (case c2g => k_is)
  (case b5o => k_is)
  (case c7q => k_is)
  (case c7r => k_is)
  (case c7s => k_is)
  (case b7k => k_is)
  (case c7t => k_is)
  (case c7u => k_is)
  (case c7v => k_is)
  (case b7l => k_is)
  (case d2s => k_is)
  (case d2t => k_is)
  (case d2u => k_is)
  (case c0z => k_is)
  (case c7w => k_is)
  (case c7y => k_is)
  (case c7z => k_is)
  (case c8g => k_is)
  (case d9m => k_is)
  (case d9n => k_is)
  (case d9o => k_is)
  (case d9p => k_is)
  (case d9q => k_is)
  (case d9r => k_is)
  (case d9s => k_is)
  (case d9t => k_is)
  (case d9u => k_is)
  (case d9v => k_is)
  (case d9w => k_is)
  (case d9y => k_is)
  (case d9z => k_is)
  (case f0g => k_is)
  (case f0h => k_is)
  (case f0i => k_is)
  (case f0j => k_is)
  (case f0k => k_is)
  (case f0l => k_is)
  (case f0m => k_is)
  (case f5s => k_is)
  (case f5t => k_is)
  (case f5u => k_is)
  (case f5v => k_is)
  (case f5w => k_is)
  (case f5y => k_is)
  (case f5z => k_is)
  (case f6g => k_is)
  (case k4b => k_is)
  (case k9m => k_is)
  (case k9n => k_is)
  (case k9o => k_is)
  (case g4o => k_is)
  (case j8v => k_is)
  (case g8p => k_is)
  (case g1g => k_is)
  (case a1v => k_is)
  (case b8w => k_is)
  (case c3k => k_is)
  (case b8y => k_is)
  (case i5b => k_is)
  (case c5p => k_is)
  (case i5c => k_is)
  (case cl_Part_pg => k_is)
  (case cl_Part_hd => k_is)
  (case cl_Part_po => k_is)
  (case cl_Part_sa => k_is)
  (case me_Part_fresh_fn => k_is)
  (case cl_Gain_pg => k_is)
  (case cl_Gain_hd => k_is)
  (case cl_Gain_po => k_is)
  (case cl_Gain_sa => k_is)
  (case a2l => k_is)
  (case me_Gain___init___fn => k_is)
  (case mk_Gain_ma => k_is)
  (case mk_Gain_kp => k_is)
  (case me_Gain_word_fn => k_is)
  (case me_Gain_fresh_at => k_is)
  (case me_Gain_fresh_fn => k_is)
  (case cl_Delay_pg => k_is)
  (case cl_Delay_hd => k_is)
  (case cl_Delay_po => k_is)
  (case cl_Delay_sa => k_is)
  (case a1w => k_is)
  (case me_Delay___init___fn => k_is)
  (case mk_Delay_ma => k_is)
  (case mk_Delay_kp => k_is)
  (case me_Delay_word_fn => k_is)
  (case me_Delay_fresh_at => k_is)
  (case me_Delay_fresh_fn => k_is)
  (case cl_Echo_pg => k_is)
  (case cl_Echo_hd => k_is)
  (case cl_Echo_po => k_is)
  (case cl_Echo_sa => k_is)
  (case a2m => k_is)
  (case a2n => k_is)
  (case a1y => k_is)
  (case a1o => k_is)
  (case a0t => k_is)
  (case me_Echo___init___fn => k_is)
  (case mk_Echo_ma => k_is)
  (case mk_Echo_kp => k_is)
  (case me_Echo_word_fn => k_is)
  (case me_Echo_fresh_at => k_is)
  (case me_Echo_fresh_fn => k_is)
  (case cl_Back_pg => k_is)
  (case cl_Back_hd => k_is)
  (case cl_Back_po => k_is)
  (case cl_Back_sa => k_is)
  (case a2o => k_is)
  (case a2p => k_is)
  (case me_Back___init___fn => k_is)
  (case mk_Back_ma => k_is)
  (case mk_Back_kp => k_is)
  (case me_Back_word_fn => k_is)
  (case me_Back_fresh_at => k_is)
  (case me_Back_fresh_fn => k_is)
  (case cl_Hall_pg => k_is)
  (case cl_Hall_hd => k_is)
  (case cl_Hall_po => k_is)
  (case cl_Hall_sa => k_is)
  (case a2q => k_is)
  (case a2r => k_is)
  (case me_Hall___init___fn => k_is)
  (case mk_Hall_ma => k_is)
  (case mk_Hall_kp => k_is)
  (case me_Hall_word_fn => k_is)
  (case me_Hall_fresh_at => k_is)
  (case me_Hall_fresh_fn => k_is)
  (case cl_Swell_pg => k_is)
  (case cl_Swell_hd => k_is)
  (case cl_Swell_po => k_is)
  (case cl_Swell_sa => k_is)
  (case a1m => k_is)
  (case a1p => k_is)
  (case a1s => k_is)
  (case me_Swell___init___fn => k_is)
  (case mk_Swell_ma => k_is)
  (case mk_Swell_kp => k_is)
  (case me_Swell_fresh_fn => k_is)
  (case me_Swell_word_fn => k_is)
  (case cl_Chain_pg => k_is)
  (case cl_Chain_hd => k_is)
  (case cl_Chain_po => k_is)
  (case cl_Chain_sa => k_is)
  (case a3h => k_is)
  (case a2v => k_is)
  (case me_Chain___init___fn => k_is)
  (case mk_Chain_ma => k_is)
  (case mk_Chain_kp => k_is)
  (case me_Chain_words_fn => k_is)
  (case cl_Settler_pg => k_is)
  (case cl_Settler_hd => k_is)
  (case cl_Settler_po => k_is)
  (case cl_Settler_sa => k_is)
  (case a2g => k_is)
  (case a4h => k_is)
  (case a4i => k_is)
  (case me_Settler___init___fn => k_is)
  (case mk_Settler_ma => k_is)
  (case mk_Settler_kp => k_is)
  (case cl_Patch_pg => k_is)
  (case cl_Patch_hd => k_is)
  (case cl_Patch_po => k_is)
  (case cl_Patch_sa => k_is)
  (case a0k => k_is)
  (case a0o => k_is)
  (case a0n => k_is)
  (case a0p => k_is)
  (case me_Patch___init___fn => k_is)
  (case mk_Patch_ma => k_is)
  (case mk_Patch_kp => k_is)
  (case me_Patch_check_new_fn => k_is)
  (case me_Patch_track_fn => k_is)
  (case me_Patch_bus_fn => k_is)
  (case me_Patch_send_fn => k_is)
  (case me_Patch_way_fn => k_is)
  (case me_Patch_out_fn => k_is)
  (case me_Patch_tracks_fn => k_is)
  (case me_Patch_buses_fn => k_is)
  (case me_Patch_sends_fn => k_is)
  (case me_Patch_outs_fn => k_is)
  (case c3m => k_is)
  (case a3q => k_is)
  (case a3r => k_is)
  (case b1w => k_is)
  (case b1y => k_is)
  (case b2u => k_is)
  (case c3n => k_is)
  (case a8z => k_is)
  (case b2v => k_is)
  (case g1m => k_is)
  (case c3o => k_is)
  (case a9g => k_is)
  (case a6j => k_is)
  (case ld_READERS => k_is)
  (case kd_READERS => k_keys)
  (case nd_READERS => decide)
  (case a6k => k_is)
  (case a5i => k_is)
  (case a6l => k_is)
  (case a6m => k_is)
  (case a5j => k_is)
  (case a6n => k_is)
