import PyProof.Rows.All
import Wide.All
import OpenK.AllK
import Wide.FinOn
import Lean
import PyProof.EqAt
import PyProof.EqKinds
import PyProof.TupleCall
import PySem.Challenge.RW_mixbench_k54_whole_order
set_option Elab.async false
set_option linter.all false
set_option maxRecDepth 100000
namespace L2
open PySem PySem.Spec PyProof.Rows
noncomputable abbrev Key := Sum Int Str
noncomputable def c2o : Key -> Value -> Bool
 | .inl k, v => Value.isInt k v
 | .inr x, v => Value.isStrOf x v
noncomputable def keyH (w : World) : Key -> Int
 | .inl k => hashInt k
 | .inr x => hashStr w x
theorem a2k : ∀ {k : Key} {v : Value}, c2o k v = true -> (∃ i t, k = Sum.inl i /\ v = Value.int i t) \/ (∃ x t, k = Sum.inr x /\ v = Value.str x t)
 | .inl i, v, h => by
  obtain ⟨t, e⟩ := Value.isInt_shape (k := i) (v := v) h
  exact .inl ⟨i, t, rfl, e⟩
 | .inr x, v, h => by
  obtain ⟨t, e⟩ := Value.isStrOf_shape (x := x) (v := v) h
  exact .inr ⟨x, t, rfl, e⟩
theorem c3v (i : Int) (t : Tok) : c2o (.inl i) (.int i t) = true := by simp [c2o, Value.isInt]
theorem c3w (x : Str) (t : Tok) : c2o (.inr x) (.str x t) = true := by simp [c2o, Value.isStrOf]
theorem d5i (a b : Int) : decide ((Sum.inl a : Key) = Sum.inl b) = (a == b) := by
 by_cases e : a = b
 ·subst e; simp
 ·have h : ¬ (Sum.inl a : Key) = Sum.inl b := fun q => e (Sum.inl.inj q)
  rw [decide_eq_false h]
  exact (beq_eq_false_iff_ne.mpr e).symm
theorem d5j (a b : Str) : decide ((Sum.inr a : Key) = Sum.inr b) = decide (a = b) := by
 by_cases e : a = b
 ·subst e; simp
 ·have h : ¬ (Sum.inr a : Key) = Sum.inr b := fun q => e (Sum.inr.inj q)
  rw [decide_eq_false h, decide_eq_false e]
theorem d5k (a : Int) (b : Str) : decide ((Sum.inl a : Key) = Sum.inr b) = false := decide_eq_false (fun q => nomatch q)
theorem d5l (a : Str) (b : Int) : decide ((Sum.inr a : Key) = Sum.inl b) = false := decide_eq_false (fun q => nomatch q)
noncomputable def a3t (prog : Program) (w : World) : PySem.KeyKind prog w Key where
 is := c2o
 hash := keyH w
 inj := fun v a b ha hb => by
  rcases a2k ha with ⟨i, t, rfl, rfl⟩ | ⟨x, t, rfl, rfl⟩
  ·rcases a2k hb with ⟨j, u, rfl, e⟩ | ⟨y, u, rfl, e⟩
   ·injection e with e1 _; rw [e1]
   ·exact nomatch e
  ·rcases a2k hb with ⟨j, u, rfl, e⟩ | ⟨y, u, rfl, e⟩
   ·exact nomatch e
   ·injection e with e1 _; rw [e1]
 byValue := fun k v h => by
  rcases a2k h with ⟨i, t, rfl, rfl⟩ | ⟨x, t, rfl, rfl⟩ <;> rfl
 pyHash := fun hv h => by
  rcases a2k hv with ⟨i, t, rfl, rfl⟩ | ⟨x, t, rfl, rfl⟩
  ·exact wpAny_pyHash_int h
  ·exact wpAny_pyHash_str h
 eqBool := fun hu hv h => by
  rcases a2k hu with ⟨i, t, rfl, rfl⟩ | ⟨x, t, rfl, rfl⟩
  ·rcases a2k hv with ⟨j, u, rfl, rfl⟩ | ⟨y, u, rfl, rfl⟩
   ·rw [d5i] at h; exact wpAny_eqBool_int h
   ·rw [d5k] at h; exact SeqAt.EqAt.int_str i t y u _ _ _ _ h
  ·rcases a2k hv with ⟨j, u, rfl, rfl⟩ | ⟨y, u, rfl, rfl⟩
   ·rw [d5l] at h; exact SeqAt.EqAt.str_int x t j u _ _ _ _ h
   ·rw [d5j] at h; exact wpAny_eqBool_str h
 «strs» := fun k x t v h => by
  rcases a2k h with ⟨i, u, rfl, e⟩ | ⟨y, u, rfl, e⟩
  ·exact nomatch e
  ·injection e with e1 _
   subst e1
   cases v <;> rfl
theorem b9s (prog : Program) (w : World) (i : Int) (t : Tok) : (a3t prog w).is (.inl i) (.int i t) = true := c3v i t
theorem b9t (prog : Program) (w : World) (x : Str) (t : Tok) : (a3t prog w).is (.inr x) (.str x t) = true := c3w x t
end L2
namespace L2
open PySem PySem.Spec PyProof.Rows
inductive V where
 | non | bl (b : Bool) | int (i : Int) | str (x : Str) | byt (b : Array UInt8) | flt (b : UInt64) | ref (a : Addr) | ty (n : String)
 deriving DecidableEq
noncomputable def RelV : V -> Value -> Prop
 | .non, u => u = Value.none
 | .bl b, u => u = Value.bool b
 | .int i, u => ∃ t, u = Value.int i t
 | .str x, u => ∃ t, u = Value.str x t
 | .byt b, u => ∃ t, u = Value.bytes b t
 | .flt b, u => ∃ t, u = Value.float b t
 | .ref a, u => u = Value.ref a
 | .ty n, u => u = Value.type n
noncomputable abbrev Vals : List V -> List Value -> Prop := Paired RelV
theorem Vals.length {xs : List V} {us : List Value} (r : Vals xs us) : xs.length = us.length := Paired.length r
theorem Vals.get : ∀ {xs : List V} {us : List Value} {i : Nat} {x : V}, Vals xs us -> xs[i]? = some x -> ∃ u, us[i]? = some u /\ RelV x u
 | _, _, _, _, .nil, e => by simp at e
 | _, _, 0, _, .cons r _, e => by simp at e; subst e; exact ⟨_, rfl, r⟩
 | _, _, i + 1, x, .cons _ t, e => by
  obtain ⟨u, h1, h2⟩ := Vals.get (i := i) (x := x) t (by simpa using e)
  exact ⟨u, by simpa using h1, h2⟩
theorem Vals.set {x : V} {u : Value} (r : RelV x u) : ∀ {xs : List V} {us : List Value} (i : Nat), Vals xs us -> Vals (xs.set i x) (us.set i u)
 | _, _, _, .nil => .nil
 | _, _, 0, .cons _ t => .cons r t
 | _, _, i + 1, .cons q t => .cons q (Vals.set r i t)
theorem Vals.append : ∀ {xs ys : List V} {us ws : List Value}, Vals xs us -> Vals ys ws -> Vals (xs ++ ys) (us ++ ws)
 | _, _, _, _, .nil, s => s
 | _, _, _, _, .cons r t, s => .cons r (Vals.append t s)
theorem Vals.take : ∀ {xs : List V} {us : List Value} (n : Nat), Vals xs us -> Vals (xs.take n) (us.take n)
 | _, _, 0, _ => .nil
 | _, _, _ + 1, .nil => .nil
 | _, _, n + 1, .cons r t => .cons r (Vals.take n t)
theorem Vals.drop : ∀ {xs : List V} {us : List Value} (n : Nat), Vals xs us -> Vals (xs.drop n) (us.drop n)
 | _, _, 0, r => r
 | _, _, _ + 1, .nil => .nil
 | _, _, n + 1, .cons _ t => Vals.drop n t
theorem Vals.none_of : ∀ {xs : List V} {us : List Value} {i : Nat}, Vals xs us -> xs[i]? = none -> us[i]? = none := fun {xs us i} r e => by
 have h1 := r.length
 have h2 : xs.length <= i := List.getElem?_eq_none_iff.mp e
 exact List.getElem?_eq_none_iff.mpr (by omega)
noncomputable def b7m : Option V -> Option Value -> Prop
 | some v, some u => RelV v u
 | none, none => True
 | _, _ => False
noncomputable def KV {κ : Type} : List (κ × V) -> List (κ × Value) -> Prop := Paired fun (p : κ × V) (q : κ × Value) => p.1 = q.1 /\ RelV p.2 q.2
noncomputable def kV : Key -> V
 | .inl i => .int i
 | .inr x => .str x
inductive HO where
 /-- a list -/
 | lst (xs : List V)
 /-- a tuple (never changes) -/
 | tup (xs : List V)
 /-- a dict whose keys are ints and texts; one whose keys are tuples of ints and texts (the empty one is both) -/
 | dK (kvs : List (Key × V)) | dT (kvs : List (List Key × V))
 /-- a set of ints: its members, its size -/
 | set (S : Int -> Bool) (n : Nat)
 /-- an instance of the class at C, its dict at dx, its attributes -/
 | ins (C dx : Addr) (fs : List (Str × V))
 /-- the dict of the instance at x -/
 | own (x : Addr)
 /-- the dict of an exception -/
 | xd (fs : List (Str × V))
 /-- a bound method, f of x -/
 | met (f x : Addr)
 /-- a range object lo, lo + 1, .. below hi -/
 | rng (lo hi : Int)
 /-- a thing that is known to the object (the script; a dict while a loop walks it): read, never written while it is so -/
 | frz (o : Obj) (u : HO)
 /-- a code object's table -/
 | tbl (ps : Array Value)
 /-- any other thing, by what is true of its one object (a def of one's own: SetO a S n := HO.ext fun h => ..) -/
 | ext (φ : Heap -> Prop)
noncomputable abbrev Hp := Addr -> Option HO
noncomputable def upd (H : Hp) (a : Addr) (o : HO) : Hp := fun b => if b = a then some o else H b
theorem a0z {H : Hp} {a : Addr} {o : HO} : upd H a o a = some o := by unfold upd; rw [if_pos rfl]
theorem a1g {H : Hp} {a b : Addr} {o : HO} (h : b ≠ a) : upd H a o b = H b := by unfold upd; rw [if_neg h]
theorem f1r {H : Hp} {a b : Addr} {o u : HO} (h : H a = some o) (h' : H b = some u) (d : o ≠ u) : a ≠ b := by
 intro e; subst e; rw [h] at h'; exact d (Option.some.inj h')
theorem a1o {H : Hp} {a b : Addr} {o : HO} (h : H a = some o) (h' : H b = none) : a ≠ b := by
 intro e; subst e; rw [h] at h'; cases h'
section
variable (P : Program) (w : World)
noncomputable def a4v (H : Hp) (h : Heap) (a : Addr) : HO -> Prop
 | .lst xs => xs.length ≤ sizeLine ∧ ∃ (its : List Value) (n : Nat), Vals xs its ∧ h.get? a = some { cls := .type "list", data := .seq its.toArray n }
 | .tup xs => xs.length <= sizeLine /\ ∃ its : List Value, Vals xs its /\ IsTup h a its.toArray
 | .dK kvs => kvs.length <= sizeLine /\ (a == sysModules) = false /\ ∃ vs, KV kvs vs /\ h.DictOf (a3t P w) a vs
 | .dT kvs => kvs.length <= sizeLine /\ (a == sysModules) = false /\ ∃ xs : List (List Key × Addr × Value),
   Paired (fun (p : List Key × V) (q : List Key × Addr × Value) => p.1 = q.1 /\ H q.2.1 = some (.tup (p.1.map kV)) /\ RelV p.2 q.2.2) kvs xs /\
   ∃ o es ep, h.get? a = some o /\ o.ExactDict /\ o.data = .dict es ep /\ es.toList = xs.map (entryOfKey (tupleKind (a3t P w))) /\ (xs.map (·.1)).Nodup
 | .set S n => h.SetOf (intKind P w) a S n
 | .ins C dx fs => H dx = some (.own a) /\ fs.length <= 1000 /\ dx ≠ a /\ h.get? a = some (PySem.W.instObj C dx) /\
   ∃ mA, h.Ns1 dx mA /\ (∀ f, b7m (fs.lookup f) (mA f)) /\ PySem.Within mA (fs.map (·.1))
 | .own _ => ∃ o, h.get? a = some o
 | .xd fs => ∃ mA, h.Ns1 a mA /\ ∀ f, b7m (fs.lookup f) (mA f)
 | .rng lo hi => ∃ t u v, h.get? a = some { cls := .type "range", data := .fields #[.int lo t, .int hi u, .int 1 v] }
 | .frz o u => h.get? a = some o /\ a4v H h a u
 | .tbl ps => h.get? a = some { cls := .none, data := .fields ps }
 | .met f x => h.get? a = some (PySem.W.methodObj (.ref f) (.ref x))
 | .ext φ => φ h /\ (∃ o, h.get? a = some o) /\ ∀ h1 h2 : Heap, φ h1 -> (∀ o, h1.get? a = some o -> h2.get? a = some o) -> φ h2
noncomputable def HOk (H : Hp) (h : Heap) : Prop := ∀ a o, H a = some o -> a4v P w H h a o
end
section
variable {P : Program} {w : World} {H H' : Hp} {h h' : Heap} {a : Addr} {o : HO}
theorem a4v.lt (x : a4v P w H h a o) : a < h.objs.size := by
 cases o with
 | lst xs => obtain ⟨_, _, _, _, e⟩ := x; exact Heap.lt_size e
 | tup xs => obtain ⟨_, _, _, p⟩ := x; exact p.lt
 | dK kvs => obtain ⟨_, _, _, _, o, _, _, e, _⟩ := x; exact Heap.lt_size e
 | dT kvs => obtain ⟨_, _, _, _, o, _, _, e, _⟩ := x; exact Heap.lt_size e
 | set S n => obtain ⟨o, _, _, _, e, _⟩ := x; exact Heap.lt_size e
 | ins C dx fs => obtain ⟨_, _, _, e, _⟩ := x; exact Heap.lt_size e
 | own y => obtain ⟨_, e⟩ := x; exact Heap.lt_size e
 | xd fs => obtain ⟨_, ⟨_, _, _, e, _⟩, _⟩ := x; exact Heap.lt_size e
 | rng lo hi => obtain ⟨_, _, _, e⟩ := x; exact Heap.lt_size e
 | frz ob u => obtain ⟨e, _⟩ := x; exact Heap.lt_size e
 | tbl ps => exact Heap.lt_size (show h.get? a = some _ from x)
 | met f y => exact Heap.lt_size (show h.get? a = some _ from x)
 | ext φ => obtain ⟨_, ⟨_, e⟩, _⟩ := x; exact Heap.lt_size e
theorem Paired.f1s {α β : Type} {F G : α -> β -> Prop} : ∀ {l₁ : List α} {l₂ : List β}, Paired F l₁ l₂ -> (∀ a b, F a b -> G a b) -> Paired G l₁ l₂
 | _, _, .nil, _ => .nil
 | _, _, .cons r t, f => .cons (f _ _ r) (Paired.f1s t f)
theorem a4v.stay (x : a4v P w H h a o) (k : ∀ b u, (b = a \/ H b = some (.own a)) -> h.get? b = some u -> h'.get? b = some u)
  (ho : ∀ b, H b = some (.own a) -> H' b = some (.own a)) (ht : ∀ b xs, H b = some (.tup xs) -> H' b = some (.tup xs)) : a4v P w H' h' a o := by
 induction o with
 | lst xs => obtain ⟨z, its, n, r, e⟩ := x; exact ⟨z, its, n, r, k _ _ (.inl rfl) e⟩
 | tup xs => obtain ⟨z, its, r, ob, e, c⟩ := x; exact ⟨z, its, r, ob, k _ _ (.inl rfl) e, c⟩
 | dK kvs => obtain ⟨z, y, vs, r, ob, es, ep, e, c⟩ := x; exact ⟨z, y, vs, r, ob, es, ep, k _ _ (.inl rfl) e, c⟩
 | dT kvs =>
  obtain ⟨z, y, xs, r, ob, es, ep, e, c⟩ := x
  exact ⟨z, y, xs, Paired.f1s r fun p q z => ⟨z.1, ht _ _ z.2.1, z.2.2⟩, ob, es, ep, k _ _ (.inl rfl) e, c⟩
 | set S n => obtain ⟨ob, es, ep, t, e, c⟩ := x; exact ⟨ob, es, ep, t, k _ _ (.inl rfl) e, c⟩
 | ins C dx fs =>
  obtain ⟨d, z, ne, e, mA, ⟨od, es, ep, e2, c⟩, r⟩ := x
  exact ⟨ho _ d, z, ne, k _ _ (.inl rfl) e, mA, ⟨od, es, ep, k _ _ (.inr d) e2, c⟩, r⟩
 | own y => obtain ⟨ob, e⟩ := x; exact ⟨ob, k _ _ (.inl rfl) e⟩
 | xd fs => obtain ⟨mA, ⟨od, es, ep, e, c⟩, r⟩ := x; exact ⟨mA, ⟨od, es, ep, k _ _ (.inl rfl) e, c⟩, r⟩
 | rng lo hi => obtain ⟨t, u, v, e⟩ := x; exact ⟨t, u, v, k _ _ (.inl rfl) e⟩
 | frz ob u ih => obtain ⟨e, q⟩ := x; exact ⟨k _ _ (.inl rfl) e, ih q⟩
 | tbl ps =>
  have e : h.get? a = some { cls := .none, data := .fields ps } := x
  show h'.get? a = some { cls := .none, data := .fields ps }
  exact k a _ (.inl rfl) e
 | met f y =>
  have e : h.get? a = some (PySem.W.methodObj (.ref f) (.ref y)) := x
  show h'.get? a = some (PySem.W.methodObj (.ref f) (.ref y))
  exact k a _ (.inl rfl) e
 | ext φ => obtain ⟨p, ⟨o, e⟩, st⟩ := x; exact ⟨st _ _ p fun o q => k _ _ (.inl rfl) q, ⟨o, k _ _ (.inl rfl) e⟩, st⟩
theorem HOk.lt (x : HOk P w H h) (e : H a = some o) : a < h.objs.size := (x a o e).lt
theorem HOk.fresh (x : HOk P w H h) (e : h.objs.size <= a) : H a = none := by
 cases q : H a with
 | none => rfl
 | some u => exact absurd (Nat.lt_of_lt_of_le (x.lt q) e) (Nat.lt_irrefl _)
theorem HOk.kept (x : HOk P w H h) (k : ∀ b u, h.get? b = some u -> h'.get? b = some u) : HOk P w H h' := fun a o e =>
 (x a o e).stay (fun b u _ q => k b u q) (fun _ q => q) fun _ _ q => q
theorem HOk.laid (x : HOk P w H h) (k : ∀ b u, h.get? b = some u -> h'.get? b = some u) (hp : h.objs.size <= a) (new : a4v P w (upd H a o) h' a o) : HOk P w (upd H a o) h' := fun b u e => by
 have hn := x.fresh hp
 by_cases hb : b = a
 ·subst hb; rw [a0z] at e; cases e; exact new
 ·rw [a1g hb] at e
  exact (x b u e).stay (fun c v _ q => k c v q) (fun c q => by rw [a1g (a1o q hn)]; exact q) fun c xs q => by rw [a1g (a1o q hn)]; exact q
end
noncomputable def Rd (H : Hp) (a : Addr) (u : HO) : Prop := H a = some u \/ ∃ o, H a = some (.frz o u)
theorem Rd.of {H : Hp} {a : Addr} {u : HO} (h : H a = some u) : Rd H a u := .inl h
theorem Rd.ok {P : Program} {w : World} {H : Hp} {h : Heap} {a : Addr} {u : HO} (r : Rd H a u) (x : HOk P w H h) : a4v P w H h a u := by
 rcases r with r | ⟨o, r⟩
 ·exact x a u r
 ·obtain ⟨_, q⟩ := x a _ r
  exact q
noncomputable def Mut : Option HO -> Prop
 | some (.lst _) => True
 | some (.dK _) => True
 | some (.dT _) => True
 | some (.set _ _) => True
 | some (.ins _ _ _) => True
 | some (.ext _) => True
 | _ => False
section
variable {P : Program} {w : World} {H : Hp} {h h' : Heap} {x e : Addr} {o' : HO}
theorem HOk.write (ok : HOk P w H h) (mu : Mut (H x)) (he : e = x \/ H e = some (.own x)) (k : ∀ b u, b ≠ e -> h.get? b = some u -> h'.get? b = some u) (heo : ∃ u, h'.get? e = some u)
  (new : a4v P w (upd H x o') h' x o') : HOk P w (upd H x o') h' := fun b u q => by
 have f4n : ∀ c y, H c = some (.own y) -> c ≠ x := fun c y r z => by subst z; rw [r] at mu; exact mu
 have ntup : ∀ c xs, H c = some (.tup xs) -> c ≠ x := fun c xs r z => by subst z; rw [r] at mu; exact mu
 by_cases hb : b = x
 ·subst hb; rw [a0z] at q; cases q; exact new
 ·rw [a1g hb] at q
  by_cases hbe : b = e
  ·have q' : H b = some (.own x) := by
    rcases he with z | z
    ·exact absurd (hbe.trans z) hb
    ·rw [hbe]; exact z
   rw [q] at q'; cases q'
   obtain ⟨v, hv⟩ := heo
   exact ⟨v, by rw [hbe]; exact hv⟩
  ·refine (ok b u q).stay (fun c v hc r => k c v ?_ r) (fun c r => by rw [a1g (f4n c b r)]; exact r) fun c xs r => by rw [a1g (ntup c xs r)]; exact r
   rcases hc with rfl | hc
   ·exact hbe
   ·rintro rfl
    rcases he with z | z
    ·exact f4n c b hc z
    ·rw [hc] at z; cases z; exact hb rfl
end
structure Un (fs ex : List Addr) (H H' : Hp) (h h' : Heap) : Prop where
 keep : ∀ b o, h.get? b = some o -> H b = none -> b ∉ fs -> b ∉ ex -> h'.get? b = some o
 slot : ∀ b o, h.get? b = some o -> H b = none -> b ∈ fs -> b ∉ ex -> ∃ sl, h'.get? b = some { o with slots := sl }
 free : ∀ b o, h.get? b = some o -> H b = none -> b ∉ ex -> H' b = none
 there : ∀ b o, h.get? b = some o -> b ∉ ex -> ∃ o', h'.get? b = some o'
 tups : ∀ b xs, H b = some (.tup xs) -> H' b = some (.tup xs)
 b9r : ∀ b o u, H b = some (.frz o u) -> H' b = some (.frz o u)
 b9u : ∀ b ps, H b = some (.tbl ps) -> ∃ more, H' b = some (.tbl (ps ++ more))
section
variable {fs fs' ex ex' : List Addr} {H H1 H2 : Hp} {h h1 h2 h' : Heap} {a x e : Addr} {o : HO}
theorem Un.any (u : Un fs ex H H1 h h1) {b : Addr} {ob : Obj} (q : h.get? b = some ob) (n : H b = none) (hx : b ∉ ex) : ∃ sl, h1.get? b = some { ob with slots := sl } := by
 by_cases hb : b ∈ fs
 ·exact u.slot b ob q n hb hx
 ·exact ⟨ob.slots, u.keep b ob q n hb hx⟩
theorem Un.trans (a : Un fs ex H H1 h h1) (b : Un fs ex H1 H2 h1 h2) : Un fs ex H H2 h h2 where
 keep := fun c ob q n hc hx => b.keep c ob (a.keep c ob q n hc hx) (a.free c ob q n hx) hc hx
 slot := fun c ob q n hc hx => by
  obtain ⟨sl, e1⟩ := a.slot c ob q n hc hx
  obtain ⟨sl', e2⟩ := b.slot c _ e1 (a.free c ob q n hx) hc hx
  exact ⟨sl', e2⟩
 free := fun c ob q n hx => by
  obtain ⟨o', e1⟩ := a.there c ob q hx
  exact b.free c o' e1 (a.free c ob q n hx) hx
 there := fun c ob q hx => by
  obtain ⟨o', e1⟩ := a.there c ob q hx
  exact b.there c o' e1 hx
 tups := fun c xs q => b.tups c xs (a.tups c xs q)
 b9r := fun c ob xs q => b.b9r c ob xs (a.b9r c ob xs q)
 b9u := fun c ps q => by
  obtain ⟨m1, e1⟩ := a.b9u c ps q
  obtain ⟨m2, e2⟩ := b.b9u c _ e1
  exact ⟨m1 ++ m2, by rw [e2, Array.append_assoc]⟩
theorem Un.kept (k : ∀ b u, h.get? b = some u -> h'.get? b = some u) : Un fs ex H H h h' :=
 ⟨fun b ob q _ _ _ => k b ob q, fun b ob q _ _ _ => ⟨ob.slots, k b ob q⟩, fun _ _ _ n _ => n, fun b ob q _ => ⟨ob, k b ob q⟩, fun _ _ q => q, fun _ _ _ q => q, fun _ ps q => ⟨#[], by rw [q]; simp⟩⟩
theorem Un.refl : Un fs ex H H h h := Un.kept fun _ _ q => q
theorem Un.laid (k : ∀ b u, h.get? b = some u -> h'.get? b = some u) (hp : h.objs.size <= a) (hn : H a = none) : Un fs ex H (upd H a o) h h' where
 keep := fun b u q _ _ _ => k b u q
 slot := fun b u q _ _ _ => ⟨u.slots, k b u q⟩
 free := fun b u q n _ => by rw [a1g (Nat.ne_of_lt (Nat.lt_of_lt_of_le (Heap.lt_size q) hp))]; exact n
 there := fun b u q _ => ⟨u, k b u q⟩
 tups := fun b xs q => by rw [a1g (a1o q hn)]; exact q
 b9r := fun b u xs q => by rw [a1g (a1o q hn)]; exact q
 b9u := fun b ps q => ⟨#[], by rw [a1g (a1o q hn), q]; simp⟩
theorem Un.write (mu : Mut (H x)) (he : e = x \/ H e = some (.own x)) (k : ∀ b u, b ≠ e -> h.get? b = some u -> h'.get? b = some u) (heo : ∃ u, h'.get? e = some u) : Un fs ex H (upd H x o) h h' := by
 have hx : ∀ b, H b = none -> b ≠ x := fun b n z => by subst z; rw [n] at mu; exact mu
 have hb : ∀ b, H b = none -> b ≠ e := fun b n z => by
  subst z
  rcases he with r | r
  ·exact hx b n r
  ·rw [n] at r; cases r
 have hm : ∀ b u, H b = some u -> ¬ Mut (some u) -> b ≠ x := fun b u q nm z => by subst z; rw [q] at mu; exact nm mu
 refine ⟨fun b u q n _ _ => k b u (hb b n) q, fun b u q n _ _ => ⟨u.slots, k b u (hb b n) q⟩, fun b u q n _ => by rw [a1g (hx b n)]; exact n, fun b u q _ => ?_,
  fun b xs q => by rw [a1g (hm b _ q fun z => z)]; exact q, fun b u xs q => by rw [a1g (hm b _ q fun z => z)]; exact q, fun b ps q => ⟨#[], by rw [a1g (hm b _ q fun z => z), q]; simp⟩⟩
 by_cases hbe : b = e
 ·subst hbe; exact heo
 ·exact ⟨u, k b u hbe q⟩
theorem Un.mono (u : Un fs ex H H1 h h1) (hs : ∀ b ∈ fs, b ∈ fs') (hx : ∀ b ∈ ex, b ∈ ex') : Un fs' ex' H H1 h h1 :=
 ⟨fun b ob q n hb he => u.keep b ob q n (fun z => hb (hs b z)) fun z => he (hx b z), fun _ _ q n _ he => u.any q n fun z => he (hx _ z), fun b ob q n he => u.free b ob q n fun z => he (hx b z), fun b ob q he => u.there b ob q fun z => he (hx b z), u.tups, u.b9r, u.b9u⟩
end
noncomputable def trk (h : Heap) (H : Hp) : List Addr := (List.range h.objs.size).filter fun a => (H a).isSome
noncomputable def c7z (h : Heap) (H : Hp) : Heap := PySem.W.hideAll h (trk h H)
theorem c3y (h : Heap) (H : Hp) : (c7z h H).objs.size = h.objs.size := PySem.W.hideAll_size _ _
theorem c8g {h : Heap} {H : Hp} {b : Addr} {o : Obj} (e : h.get? b = some o) (n : H b = none) : (c7z h H).get? b = some o :=
 PySem.W.hideAll_get _ e fun hm => by
  have q : (H b).isSome = true := (List.mem_filter.mp hm).2
  rw [n] at q; simp at q
theorem d1v {h : Heap} {H : Hp} {b : Addr} {o : Obj} (e : (c7z h H).get? b = some o) : h.get? b = some o /\ H b = none := by
 have e' : h.get? b = some o := PySem.W.of_hideAll (trk h H) e
 refine ⟨e', ?_⟩
 cases q : H b with
 | none => rfl
 | some x =>
  have hm : b ∈ trk h H := List.mem_filter.mpr ⟨List.mem_range.mpr (Heap.lt_size e'), by simp [q]⟩
  have z : (c7z h H).get? b = none := PySem.W.hideAll_none (trk h H) hm
  rw [z] at e; cases e
noncomputable def d1w (g h : Heap) (L : Addr) : List (Addr × Obj) := (List.range h.objs.size).filterMap fun a => if a = L \/ (g.get? a).isSome = true then none else (h.get? a).map fun o => (a, o)
noncomputable def rest (g h : Heap) (L d : Addr) : List (Addr × Obj) := (d1w g h L).filter fun p => decide (p.1 ≠ d)
end L2
namespace L2
open PySem PySem.Spec PyProof.Rows
structure Mod (K : PySem.W.Frag) (mg : Str -> Option Value) (base : Heap) : Prop where
 kin : K.In base
 glob : base.Ns mainGlobals mg
 blt : ∃ mb, base.Ns builtinsNs mb ∧ ∀ x : Str, x ≠ "__name__" → mb x = bootBuiltins x
 nolimit : base.NoLimit
/-- the context: a def's body (or a comprehension's block) running. base: fixed through the whole law; s₀, H₀: the entry; outer: the frames whose slots others may change (a def's callers); stack: all frames that run;
  ex: iterators that were made ahead of the entry and are walked here (a comprehension's); fn: the names whose cells were made at the entry (a def: all; a comprehension's block: its own); calm: not within an except suite; pn: pins that every state bears; xe: what is wanted of an exception that leaves the code -/
structure Cx where
 prog : Program
 w : World
 K : PySem.W.Frag
 mg : Str -> Option Value
 base : Heap
 A : Around
 N : List Str
 s₀ : Shared
 H₀ : Hp
 env : Env
 outer : List Env
 stack : List Env
 ex : List Addr
 fn : Str -> Bool
 calm : Bool
 pn : List (Addr × Obj)
 xe : Value -> Shared -> Prop
noncomputable def frs (l : List Env) : List Addr := l.filterMap (·.frame)
noncomputable abbrev Cx.fs (X : Cx) : List Addr := frs X.outer
noncomputable def Vis (sc : Scope) (x : Str) : Prop := sc.names.lookup x = some .local \/ sc.names.lookup x = some .cell \/ sc.names.lookup x = some .free
noncomputable def Loc (sc : Scope) (x : Str) : Prop := sc.names.lookup x = some .local \/ sc.names.lookup x = some .cell
noncomputable def Look (env : Env) (h : Heap) (m : Str -> Option Value) (x : Str) (u : Value) : Prop :=
 (env.kindOf x = some .local /\ m x = some u) \/ ((env.kindOf x = some .cell \/ env.kindOf x = some .free) /\ ∃ c, env.cells.lookup x = some c /\ h.IsCell c (some u))
structure Cx.Ok (X : Cx) : Prop where
 mod : Mod X.K X.mg X.base
 kind : X.env.scope.kind = .function
 glob : X.env.globals = mainGlobals
 blt : X.env.builtins = builtinsNs
 above : X.s₀.heap.objs.size <= X.env.locals
 inj : ∀ x y c, X.env.cells.lookup x = some c -> X.env.cells.lookup y = some c -> x = y
 has : ∀ x, (X.env.kindOf x = some .cell \/ X.env.kindOf x = some .free) -> ∃ c, X.env.cells.lookup x = some c
 cab : ∀ x c, X.fn x = true -> X.env.cells.lookup x = some c -> X.s₀.heap.objs.size <= c
 hd : X.calm = true -> X.A.handled = none
 frames : X.A.frames = some X.stack
 stk : X.stack = X.outer \/ (X.stack = X.env :: X.outer /\ X.env.frame = some X.env.locals)
 exf : ∀ b ∈ X.ex, b ≠ X.env.locals /\ ∀ x c, X.env.cells.lookup x = some c -> c ≠ b
 bs : ∀ b o, X.base.get? b = some o -> X.s₀.heap.get? b = some o /\ X.H₀ b = none
 bsz : X.base.objs.size <= X.s₀.heap.objs.size
 d1y : ∀ b o, X.base.get? b = some o -> b ∉ X.ex
 d5m : ∀ b ∈ X.ex, b ∉ X.fs
 c1m : X.s₀.heap.FunFrames X.base X.outer
 frf : ∀ b ∈ X.fs, X.H₀ b = none
structure Inv (X : Cx) (pins : List (Addr × Obj)) (σ : List (Option V)) (H : Hp) (s : Shared) : Prop where
 ok : X.Ok
 os : s.os = X.s₀.os
 bare : AllBare s.gens
 base : Un X.fs X.ex X.H₀ H X.s₀.heap s.heap
 loc : ∃ m, s.heap.Ns X.env.locals m /\ ∀ (i : Nat) (x : Str) (v : V), X.N[i]? = some x -> σ[i]? = some (some v) -> Vis X.env.scope x -> ∃ u, RelV v u /\ Look X.env s.heap m x u
 cell : ∀ x c, X.env.cells.lookup x = some c -> ∃ v, s.heap.IsCell c v
 free : H X.env.locals = none
 b1z : ∀ x c, X.env.cells.lookup x = some c -> H c = none
 pin : ∀ p ∈ X.pn ++ pins, s.heap.get? p.1 = some p.2 /\ H p.1 = none /\ p.1 ≠ X.env.locals /\ p.1 ∉ X.fs /\ ∀ v, p.2.data ≠ .cell v
 hok : HOk X.prog X.w H s.heap
 len : σ.length = X.N.length
section
variable {X : Cx} {pins : List (Addr × Obj)} {σ : List (Option V)} {H H' : Hp} {s : Shared} {h' : Heap}
theorem Cx.Ok.nofr (ok : X.Ok) {b : Addr} {o : Obj} (e : X.base.get? b = some o) : b ∉ X.fs := fun hb => by
 have := (ok.c1m.mem hb).1
 rw [e] at this; cases this
theorem Inv.bs (I : Inv X pins σ H s) : ∀ b o, X.base.get? b = some o -> s.heap.get? b = some o /\ H b = none := fun b o e =>
 ⟨I.base.keep b o (I.ok.bs b o e).1 (I.ok.bs b o e).2 (I.ok.nofr e) (I.ok.d1y b o e), I.base.free b o (I.ok.bs b o e).1 (I.ok.bs b o e).2 (I.ok.d1y b o e)⟩
theorem Inv.bk (I : Inv X pins σ H s) : ∀ b o, X.base.get? b = some o -> s.heap.get? b = some o := fun b o e => (I.bs b o e).1
theorem Inv.mod (I : Inv X pins σ H s) : Mod X.K X.mg X.base := I.ok.mod
theorem Inv.kIn (I : Inv X pins σ H s) : X.K.In s.heap := I.ok.mod.kin.keeps I.bk
theorem Inv.nolimit (I : Inv X pins σ H s) : s.heap.NoLimit := I.ok.mod.nolimit.keeps I.bk
theorem Inv.lt (I : Inv X pins σ H s) : X.env.locals < s.heap.objs.size := let ⟨_, hn, _⟩ := I.loc; hn.lt
theorem Inv.sz (I : Inv X pins σ H s) : X.s₀.heap.objs.size <= s.heap.objs.size := Nat.le_trans I.ok.above (Nat.le_of_lt I.lt)
theorem Inv.nofs (I : Inv X pins σ H s) {a : Addr} (h : s.heap.objs.size <= a) : a ∉ X.fs := fun hb => by
 obtain ⟨_, o, ho, _⟩ := I.ok.c1m.mem hb
 exact absurd (Nat.lt_of_lt_of_le (Heap.lt_size ho) (Nat.le_trans I.sz h)) (Nat.lt_irrefl _)
theorem Inv.cne (I : Inv X pins σ H s) : ∀ x c, X.env.cells.lookup x = some c -> c ≠ X.env.locals := fun x c e z => by
 obtain ⟨v, o, ho, hd⟩ := I.cell x c e
 obtain ⟨m, ⟨o', es, ep, ho', hd', _⟩, _⟩ := I.loc
 rw [z, ho'] at ho; cases ho; rw [hd'] at hd; cases hd
theorem Inv.c1m (I : Inv X pins σ H s) : s.heap.FunFrames X.base X.outer := by
 have all : ∀ (l : List Env), (∀ b ∈ frs l, b ∈ X.fs) -> X.s₀.heap.FunFrames X.base l -> s.heap.FunFrames X.base l := by
  intro l
  induction l with
  | nil => intro _ _; trivial
  | cons env r ih =>
   intro hs hl
   obtain ⟨hk, ⟨L, o, hf, hn, ho, hd⟩, hr⟩ := hl
   have hL : L ∈ X.fs := hs L (by unfold frs; rw [List.filterMap_cons, hf]; exact List.mem_cons_self)
   obtain ⟨sl, e⟩ := I.base.slot L o ho (I.ok.frf L hL) hL fun z => I.ok.d5m L z hL
   exact ⟨hk, ⟨L, _, hf, hn, e, hd⟩, ih (fun b hb => hs b (by unfold frs; rw [List.filterMap_cons, hf]; exact List.mem_cons_of_mem _ hb)) hr⟩
 exact all X.outer (fun _ hb => hb) I.ok.c1m
theorem Inv.stack (I : Inv X pins σ H s) : s.heap.FunFrames X.base X.stack := by
 rcases I.ok.stk with e | ⟨e, hf⟩
 ·rw [e]; exact I.c1m
 ·rw [e]
  obtain ⟨m, hn, _⟩ := I.loc
  refine .cons (by rw [I.ok.kind]; decide) hf hn ?_ I.c1m
  exact Heap.get?_none_of_le (Nat.le_trans I.ok.bsz I.ok.above)
theorem Inv.b3y (I : Inv X pins σ H s) : ∀ b ∈ frs X.stack, b ∈ X.env.locals :: X.fs := fun b hb => by
 rcases I.ok.stk with e | ⟨e, hf⟩
 ·rw [e] at hb; exact List.mem_cons_of_mem _ hb
 ·rw [e] at hb
  unfold frs at hb
  rw [List.filterMap_cons, hf] at hb
  exact hb
theorem Inv.b9v (I : Inv X pins σ H s) : ∀ b ∈ frs X.stack, H b = none := fun b hb => by
 rcases List.mem_cons.mp (I.b3y b hb) with e | hb
 ·rw [e]; exact I.free
 ·obtain ⟨_, o, ho, _⟩ := I.ok.c1m.mem hb
  exact I.base.free b o ho (I.ok.frf b hb) fun z => I.ok.d5m b z hb
theorem Inv.step {g' : Array GenState} {t' : Nat} {d' : Drawn} {ch : List Addr} (I : Inv X pins σ H s)
  (hch : ∀ b ∈ ch, (b ∈ X.ex \/ X.s₀.heap.objs.size <= b) /\ b ≠ X.env.locals /\ (∀ x c, X.env.cells.lookup x = some c -> c ≠ b) /\ ∀ p ∈ X.pn ++ pins, p.1 ≠ b)
  (keep : ∀ b o, b ≠ X.env.locals -> b ∉ X.fs -> b ∉ ch -> s.heap.get? b = some o -> H b = none -> h'.get? b = some o)
  (slot : ∀ b o, b ≠ X.env.locals -> b ∈ X.fs -> b ∉ ch -> s.heap.get? b = some o -> H b = none -> ∃ sl, h'.get? b = some { o with slots := sl }) (free : ∀ b o, b ∉ ch -> s.heap.get? b = some o -> H b = none -> H' b = none)
  (there : ∀ b o, b ∉ ch -> s.heap.get? b = some o -> ∃ o', h'.get? b = some o')
  (tups : ∀ b xs, H b = some (.tup xs) -> H' b = some (.tup xs)) (b9r : ∀ b o u, H b = some (.frz o u) -> H' b = some (.frz o u)) (b9u : ∀ b ps, H b = some (.tbl ps) -> ∃ more, H' b = some (.tbl (ps ++ more)))
  (ns : ∀ m, s.heap.Ns X.env.locals m -> h'.Ns X.env.locals m) (hok : HOk X.prog X.w H' h') (hg : AllBare g') :
  Inv X pins σ H' { s with heap := h', gens := g', drawn := d', toks := t' } := by
 have neL : ∀ b o, X.s₀.heap.get? b = some o -> b ≠ X.env.locals := fun b o e => Nat.ne_of_lt (Nat.lt_of_lt_of_le (Heap.lt_size e) I.ok.above)
 have neC : ∀ b o, X.s₀.heap.get? b = some o -> b ∉ X.ex -> b ∉ ch := fun b o e hx hb => by
  rcases (hch b hb).1 with z | z
  ·exact hx z
  ·exact absurd (Nat.lt_of_lt_of_le (Heap.lt_size e) z) (Nat.lt_irrefl _)
 have cellK : ∀ x c, X.env.cells.lookup x = some c -> ∀ v, s.heap.IsCell c v -> h'.IsCell c v := fun x c e v ⟨o, ho, hd⟩ => by
  have nch : c ∉ ch := fun z => (hch c z).2.2.1 x c e rfl
  by_cases hc : c ∈ X.fs
  ·obtain ⟨sl, q⟩ := slot c o (I.cne x c e) hc nch ho (I.b1z x c e)
   exact ⟨_, q, hd⟩
  ·exact ⟨o, keep c o (I.cne x c e) hc nch ho (I.b1z x c e), hd⟩
 refine ⟨I.ok, I.os, hg, ⟨fun b o e n hb hx => ?_, fun b o e n hb hx => ?_, fun b o e n hx => ?_, fun b o e hx => ?_, fun b xs e => tups b xs (I.base.tups b xs e), fun b o xs e => b9r b o xs (I.base.b9r b o xs e), fun b ps e => ?_⟩, ?_, fun x c e => ?_, ?_, fun x c e => ?_, fun p hp => ?_, hok, I.len⟩
 ·exact keep b o (neL b o e) hb (neC b o e hx) (I.base.keep b o e n hb hx) (I.base.free b o e n hx)
 ·obtain ⟨sl, e1⟩ := I.base.slot b o e n hb hx
  obtain ⟨sl', e2⟩ := slot b _ (neL b o e) hb (neC b o e hx) e1 (I.base.free b o e n hx)
  exact ⟨sl', e2⟩
 ·obtain ⟨o', e1⟩ := I.base.there b o e hx
  exact free b o' (neC b o e hx) e1 (I.base.free b o e n hx)
 ·obtain ⟨o', e1⟩ := I.base.there b o e hx
  exact there b o' (neC b o e hx) e1
 ·obtain ⟨m1, e1⟩ := I.base.b9u b ps e
  obtain ⟨m2, e2⟩ := b9u b _ e1
  exact ⟨m1 ++ m2, by rw [e2, Array.append_assoc]⟩
 ·obtain ⟨m, hn, hl⟩ := I.loc
  refine ⟨m, ns m hn, fun i x v e1 e2 e3 => ?_⟩
  obtain ⟨u, r, l⟩ := hl i x v e1 e2 e3
  refine ⟨u, r, ?_⟩
  rcases l with l | ⟨k, c, e, z⟩
  ·exact .inl l
  ·exact .inr ⟨k, c, e, cellK x c e _ z⟩
 ·obtain ⟨v, z⟩ := I.cell x c e
  exact ⟨v, cellK x c e v z⟩
 ·obtain ⟨m, ⟨o, _, _, ho, _⟩, _⟩ := I.loc
  exact free _ o (fun z => (hch _ z).2.1 rfl) ho I.free
 ·obtain ⟨v, o, ho, hd⟩ := I.cell x c e
  exact free c o (fun z => (hch c z).2.2.1 x c e rfl) ho (I.b1z x c e)
 ·obtain ⟨e, n, ne, nf, d⟩ := I.pin p hp
  have nch : p.1 ∉ ch := fun z => (hch p.1 z).2.2.2 p hp rfl
  exact ⟨keep p.1 p.2 ne nf nch e n, free p.1 p.2 nch e n, ne, nf, d⟩
theorem Inv.un {t' : Nat} (I : Inv X pins σ H s) (u : Un X.fs [] H H' s.heap h') (hok : HOk X.prog X.w H' h') : Inv X pins σ H' { s with heap := h', toks := t' } := by
 obtain ⟨m, ⟨o, es, ep, ho, r⟩, _⟩ := id I.loc
 obtain ⟨sl, hL⟩ := u.any ho I.free (by simp)
 exact I.step (g' := s.gens) (d' := s.drawn) (ch := []) (fun _ z => nomatch z) (fun b o _ hb _ e n => u.keep b o e n hb (by simp)) (fun b o _ hb _ e n => u.slot b o e n hb (by simp)) (fun b o _ e n => u.free b o e n (by simp)) (fun b o _ e => u.there b o e (by simp)) u.tups u.b9r u.b9u (fun m' hm => by
  obtain ⟨o', es', ep', ho', r'⟩ := hm
  rw [ho] at ho'; cases ho'
  exact ⟨_, es', ep', hL, r'⟩) hok I.bare
theorem Inv.call {g' : Array GenState} {t' : Nat} {d' : Drawn} {ch : List Addr} (I : Inv X pins σ H s) (u : Un (frs X.stack) ch H H' s.heap h') (hok : HOk X.prog X.w H' h') (hg : AllBare g')
  (hch : ∀ b ∈ ch, (b ∈ X.ex \/ X.s₀.heap.objs.size <= b) /\ b ≠ X.env.locals /\ (∀ x c, X.env.cells.lookup x = some c -> c ≠ b) /\ ∀ p ∈ X.pn ++ pins, p.1 ≠ b) :
  Inv X pins σ H' { s with heap := h', gens := g', drawn := d', toks := t' } := by
 obtain ⟨m, ⟨o, es, ep, ho, r⟩, _⟩ := id I.loc
 obtain ⟨sl, hL⟩ := u.any ho I.free fun z => (hch _ z).2.1 rfl
 exact I.step (ch := ch) hch (fun b o hL hb hc e n => u.keep b o e n (fun z => (List.mem_cons.mp (I.b3y b z)).elim hL hb) hc) (fun b o _ _ hc e n => u.any e n hc) (fun b o hc e n => u.free b o e n hc) (fun b o hc e => u.there b o e hc) u.tups u.b9r u.b9u (fun m' hm => by
  obtain ⟨o', es', ep', ho', r'⟩ := hm
  rw [ho] at ho'; cases ho'
  exact ⟨_, es', ep', hL, r'⟩) hok hg
theorem Inv.turned {t' : Nat} {it : Addr} (I : Inv X pins σ H s) (k : ∀ b o, b ≠ it -> s.heap.get? b = some o -> h'.get? b = some o) (hn : H it = none) (hL : it ≠ X.env.locals)
  (h1 : it ∈ X.ex \/ X.s₀.heap.objs.size <= it) (h2 : ∀ x c, X.env.cells.lookup x = some c -> c ≠ it) (h3 : ∀ p ∈ X.pn ++ pins, p.1 ≠ it) : Inv X pins σ H { s with heap := h', toks := t' } := by
 have nit : ∀ b u, H b = some u -> b ≠ it := fun b u e z => by rw [z, hn] at e; cases e
 refine I.step (g' := s.gens) (d' := s.drawn) (ch := [it]) (fun b hb => ?_) (fun b o _ _ hc e _ => k b o (fun z => hc (by simp [z])) e) (fun b o _ _ hc e _ => ⟨o.slots, k b o (fun z => hc (by simp [z])) e⟩) (fun _ _ _ _ n => n)
  (fun b o hc e => ⟨o, k b o (fun z => hc (by simp [z])) e⟩) (fun _ _ e => e) (fun _ _ _ e => e) (fun b ps e => ⟨#[], by rw [e]; simp⟩) (fun m hm => ?_) (fun b u e => ?_) I.bare
 ·have e : b = it := by simpa using hb
  subst e
  exact ⟨h1, hL, h2, h3⟩
 ·obtain ⟨o, es, ep, ho, r⟩ := hm
  exact ⟨o, es, ep, k _ o (Ne.symm hL) ho, r⟩
 ·refine (I.hok b u e).stay (fun c v hc q => k c v ?_ q) (fun _ q => q) fun _ _ q => q
  rcases hc with z | z
  ·rw [z]; exact nit b u e
  ·exact nit c _ z
theorem Inv.tok (I : Inv X pins σ H s) (t : Nat) : Inv X pins σ H { s with toks := t } := I.un (h' := s.heap) (t' := t) Un.refl I.hok
theorem Inv.kept {t' : Nat} (I : Inv X pins σ H s) (k : ∀ b u, s.heap.get? b = some u -> h'.get? b = some u) : Inv X pins σ H { s with heap := h', toks := t' } := I.un (Un.kept k) (I.hok.kept k)
theorem Inv.laid {a : Addr} {o : HO} {t' : Nat} (I : Inv X pins σ H s) (k : ∀ b u, s.heap.get? b = some u -> h'.get? b = some u) (hp : s.heap.objs.size <= a) (new : a4v X.prog X.w (upd H a o) h' a o) :
  Inv X pins σ (upd H a o) { s with heap := h', toks := t' } := I.un (Un.laid k hp (I.hok.fresh hp)) (I.hok.laid k hp new)
theorem Inv.write {x e : Addr} {o : HO} {t' : Nat} (I : Inv X pins σ H s) (mu : Mut (H x)) (he : e = x \/ H e = some (.own x)) (k : ∀ b u, b ≠ e -> s.heap.get? b = some u -> h'.get? b = some u) (heo : ∃ u, h'.get? e = some u)
  (new : a4v X.prog X.w (upd H x o) h' x o) : Inv X pins σ (upd H x o) { s with heap := h', toks := t' } := I.un (Un.write mu he k heo) (I.hok.write mu he k heo new)
theorem Inv.weak {σ' : List (Option V)} (I : Inv X pins σ H s) (hl : σ'.length = σ.length) (w : ∀ (i : Nat) v, σ'[i]? = some (some v) -> σ[i]? = some (some v)) : Inv X pins σ' H s :=
 ⟨I.ok, I.os, I.bare, I.base, let ⟨m, hn, hl'⟩ := I.loc; ⟨m, hn, fun i x v e1 e2 e3 => hl' i x v e1 (w i v e2) e3⟩, I.cell, I.free, I.b1z, I.pin, I.hok, hl.trans I.len⟩
theorem Inv.c3z {pins' : List (Addr × Obj)} (I : Inv X pins σ H s) (h : ∀ p ∈ pins', s.heap.get? p.1 = some p.2 /\ H p.1 = none /\ p.1 ≠ X.env.locals /\ p.1 ∉ X.fs /\ ∀ v, p.2.data ≠ .cell v) : Inv X pins' σ H s :=
 ⟨I.ok, I.os, I.bare, I.base, I.loc, I.cell, I.free, I.b1z, fun p hp => (List.mem_append.mp hp).elim (fun z => I.pin p (List.mem_append_left _ z)) (h p), I.hok, I.len⟩
theorem c1n {N : List Str} (hN : N.Nodup) {i j : Nat} {x : Str} (a : N[i]? = some x) (b : N[j]? = some x) : i = j := by
 obtain ⟨h1, e1⟩ := List.getElem?_eq_some_iff.mp a
 obtain ⟨h2, e2⟩ := List.getElem?_eq_some_iff.mp b
 exact (List.getElem_inj hN).mp (e1.trans e2.symm)
theorem b3z {M : Model} {A : Around} {E : Value -> Shared -> Prop} {i : Nat} {x : Str} {v : V} {u : Value} {Q : Unit -> Shared -> Prop} (I : Inv X pins σ H s) (hN : X.N.Nodup) (hi : X.N[i]? = some x) (hx : Loc X.env.scope x) (r : RelV v u)
  (h : ∀ s', Inv X pins (σ.set i (some v)) H s' -> (∃ a, Heap.SameBut a s.heap s'.heap /\ (a = X.env.locals \/ X.env.cells.lookup x = some a)) -> Q () s') (hf : X.fn x = true \/ X.env.scope.names.lookup x = some .local := by first | exact .inl rfl | exact .inr rfl | assumption) : wpAny M A (storeName X.env x u) Q E s := by
 obtain ⟨m, hn, hl⟩ := id I.loc
 have hcls : (X.env.scope.kind == .class || (X.env.scope.kind == .module && X.env.locals != X.env.globals)) = false := by rw [I.ok.kind]; rfl
 have hiσ : i < σ.length := by rw [I.len]; exact (List.getElem?_eq_some_iff.mp hi).1
 have cne := I.cne
 have tracked : ∀ {a : Addr} {h' : Heap}, (∃ o, s.heap.get? a = some o /\ H a = none) -> Heap.SameBut a s.heap h' -> HOk X.prog X.w H h' := fun {a h'} ha hs b ob e => by
  obtain ⟨_, _, hfree⟩ := ha
  refine (I.hok b ob e).stay (fun c w' hc q => (hs.2 c ?_).trans q) (fun _ q => q) fun _ _ q => q
  rintro rfl
  rcases hc with rfl | hc
  ·rw [hfree] at e; cases e
  ·rw [hfree] at hc; cases hc
 rcases hx with hk | hk
 ·refine wpAny_storeName_local hk hn (fun h' hn' hs => ?_) hcls
  obtain ⟨oL, _, _, hoL, _⟩ := id hn
  refine h _ ⟨I.ok, I.os, I.bare, ⟨fun b o e n hb hx => ?_, fun b o e n hb hx => ?_, I.base.free, fun b o e hx => ?_, I.base.tups, I.base.b9r, I.base.b9u⟩, ⟨_, hn', fun j y v' e1 e2 e3 => ?_⟩, fun y c e => ?_, I.free, I.b1z, fun p hp => ?_, tracked ⟨oL, hoL, I.free⟩ hs, by simpa using I.len⟩ ⟨_, hs, .inl rfl⟩
  ·exact (hs.2 b (Nat.ne_of_lt (Nat.lt_of_lt_of_le (Heap.lt_size e) I.ok.above))).trans (I.base.keep b o e n hb hx)
  ·obtain ⟨sl, e1⟩ := I.base.slot b o e n hb hx
   exact ⟨sl, (hs.2 b (Nat.ne_of_lt (Nat.lt_of_lt_of_le (Heap.lt_size e) I.ok.above))).trans e1⟩
  ·obtain ⟨o', e1⟩ := I.base.there b o e hx
   exact ⟨o', (hs.2 b (Nat.ne_of_lt (Nat.lt_of_lt_of_le (Heap.lt_size e) I.ok.above))).trans e1⟩
  ·by_cases hj : j = i
   ·subst hj
    rw [hi] at e1; cases e1
    rw [List.getElem?_set_self hiσ] at e2
    cases e2
    exact ⟨u, r, .inl ⟨hk, by simp⟩⟩
   ·rw [List.getElem?_set_ne (Ne.symm hj)] at e2
    obtain ⟨u', r', q⟩ := hl j y v' e1 e2 e3
    refine ⟨u', r', ?_⟩
    rcases q with ⟨k, e⟩ | ⟨k, c, e, z⟩
    ·refine .inl ⟨k, ?_⟩
     have : y ≠ x := fun e => hj (c1n hN e1 (e ▸ hi))
     simp [this, e]
    ·exact .inr ⟨k, c, e, z.sameBut hs (cne y c e)⟩
  ·obtain ⟨w', z⟩ := I.cell y c e
   exact ⟨w', z.sameBut hs (cne y c e)⟩
  ·obtain ⟨e, n, ne, nf, d⟩ := I.pin p hp
   exact ⟨(hs.2 p.1 ne).trans e, n, ne, nf, d⟩
 ·have hfn : X.fn x = true := by
   rcases hf with z | z
   ·exact z
   ·rw [z] at hk; cases hk
  obtain ⟨c, hc⟩ := I.ok.has x (.inl hk)
  obtain ⟨w', z⟩ := I.cell x c hc
  refine wpAny_storeName_cell I.ok.kind hk hc z (fun h' hc' hs => ?_)
  obtain ⟨oc, hoc, hocd⟩ := id z
  refine h { s with heap := h' } ⟨I.ok, I.os, I.bare, ⟨fun b o e n hb hx => ?_, fun b o e n hb hx => ?_, I.base.free, fun b o e hx => ?_, I.base.tups, I.base.b9r, I.base.b9u⟩, ⟨m, hn.sameBut hs (Ne.symm (cne x c hc)), fun j y v' e1 e2 e3 => ?_⟩, fun y c' e => ?_, I.free, I.b1z, fun p hp => ?_, tracked ⟨oc, hoc, I.b1z x c hc⟩ hs, by simpa using I.len⟩ ⟨c, hs, .inr hc⟩
  ·exact (hs.2 b (Nat.ne_of_lt (Nat.lt_of_lt_of_le (Heap.lt_size e) (I.ok.cab x c hfn hc)))).trans (I.base.keep b o e n hb hx)
  ·obtain ⟨sl, e1⟩ := I.base.slot b o e n hb hx
   exact ⟨sl, (hs.2 b (Nat.ne_of_lt (Nat.lt_of_lt_of_le (Heap.lt_size e) (I.ok.cab x c hfn hc)))).trans e1⟩
  ·obtain ⟨o', e1⟩ := I.base.there b o e hx
   exact ⟨o', (hs.2 b (Nat.ne_of_lt (Nat.lt_of_lt_of_le (Heap.lt_size e) (I.ok.cab x c hfn hc)))).trans e1⟩
  ·by_cases hj : j = i
   ·subst hj
    rw [hi] at e1; cases e1
    rw [List.getElem?_set_self hiσ] at e2
    cases e2
    exact ⟨u, r, .inr ⟨.inl hk, c, hc, hc'⟩⟩
   ·rw [List.getElem?_set_ne (Ne.symm hj)] at e2
    obtain ⟨u', r', q⟩ := hl j y v' e1 e2 e3
    refine ⟨u', r', ?_⟩
    rcases q with q | ⟨k, c', e, z'⟩
    ·exact .inl q
    ·refine .inr ⟨k, c', e, z'.sameBut hs ?_⟩
     rintro rfl
     exact hj (c1n hN e1 (I.ok.inj _ _ _ e hc ▸ hi))
  ·by_cases hcc : c' = c
   ·subst hcc; exact ⟨_, hc'⟩
   ·obtain ⟨w2, z2⟩ := I.cell y c' e
    exact ⟨w2, z2.sameBut hs hcc⟩
  ·obtain ⟨e, n, ne, nf, d⟩ := I.pin p hp
   refine ⟨(hs.2 p.1 ?_).trans e, n, ne, nf, d⟩
   intro q
   rw [q, hoc] at e
   have q' : oc = p.2 := Option.some.inj e
   exact d w' (by rw [<- q']; exact hocd)
theorem c1o {M : Model} {A : Around} {E : Value -> Shared -> Prop} {i : Nat} {x : Str} {v : V} {u : Value} {Q : Unit -> Shared -> Prop} (I : Inv X pins σ H s) (hN : X.N.Nodup) (hi : X.N[i]? = some x) (hx : Loc X.env.scope x) (r : RelV v u)
  (h : ∀ s', Inv X pins (σ.set i (some v)) H s' -> Q () s') (hf : X.fn x = true \/ X.env.scope.names.lookup x = some .local := by first | exact .inl rfl | exact .inr rfl | assumption) : wpAny M A (storeName X.env x u) Q E s :=
 b3z I hN hi hx r (fun s' I' _ => h s' I') hf
theorem Inv.call' {s' : Shared} {ch : List Addr} (I : Inv X pins σ H s) (ho : s'.os = s.os) (u : Un (frs X.stack) ch H H' s.heap s'.heap) (hok : HOk X.prog X.w H' s'.heap) (hg : AllBare s'.gens)
  (hch : ∀ b ∈ ch, (b ∈ X.ex \/ X.s₀.heap.objs.size <= b) /\ b ≠ X.env.locals /\ (∀ x c, X.env.cells.lookup x = some c -> c ≠ b) /\ ∀ p ∈ X.pn ++ pins, p.1 ≠ b) : Inv X pins σ H' s' := by
 obtain ⟨h', g', d', t', o'⟩ := s'
 have e : o' = s.os := ho
 subst e
 exact I.call (g' := g') (t' := t') (d' := d') u hok hg hch
end
noncomputable abbrev XK := Value -> Option Addr -> Hp -> Prop
noncomputable abbrev St := List (Option V)
noncomputable abbrev VK := V -> Hp -> Prop
noncomputable abbrev TE := St -> Hp -> VK -> Prop
noncomputable abbrev TT := St -> Hp -> (Bool -> Hp -> Prop) -> Prop
noncomputable abbrev TA := St -> Hp -> (List V -> Hp -> Prop) -> Prop
structure Ends where
 nx : St -> Hp -> Prop
 rt : VK
 bk : St -> Hp -> Prop := fun _ _ => False
 ct : St -> Hp -> Prop := fun _ _ => False
noncomputable abbrev TS := Ends -> St -> Hp -> Prop
noncomputable def EP (X : Cx) (pins : List (Addr × Obj)) (σ : St) (Q : VK) (u : Value) (s' : Shared) : Prop := ∃ v H', Inv X pins σ H' s' /\ RelV v u /\ Q v H'
noncomputable def TP (X : Cx) (pins : List (Addr × Obj)) (σ : St) (Q : Bool -> Hp -> Prop) (b : Bool) (s' : Shared) : Prop := ∃ H', Inv X pins σ H' s' /\ Q b H'
noncomputable def AP (X : Cx) (pins : List (Addr × Obj)) (σ : St) (Q : List V -> Hp -> Prop) (us : List Value) (s' : Shared) : Prop := ∃ vs H', Inv X pins σ H' s' /\ Vals vs us /\ Q vs H'
noncomputable def SP (X : Cx) (pins : List (Addr × Obj)) (D : Ends) (f : Flow) (s' : Shared) : Prop :=
 match f with
 | .next => ∃ σ' H', Inv X pins σ' H' s' /\ D.nx σ' H'
 | .brk => ∃ σ' H', Inv X pins σ' H' s' /\ D.bk σ' H'
 | .cont => ∃ σ' H', Inv X pins σ' H' s' /\ D.ct σ' H'
 | .ret u => ∃ v σ' H', Inv X pins σ' H' s' /\ RelV v u /\ D.rt v H'
noncomputable def PE (X : Cx) (e : Expr) (t : TE) : Prop :=
 ∀ (pins : List (Addr × Obj)) (s : Shared) (σ : St) (H : Hp) (Q : VK), Inv X pins σ H s -> t σ H Q -> wpAny (model X.prog X.w) X.A (eval e X.env) (EP X pins σ Q) X.xe s
noncomputable def PT (X : Cx) (e : Expr) (t : TT) : Prop :=
 ∀ (pins : List (Addr × Obj)) (s : Shared) (σ : St) (H : Hp) (Q : Bool -> Hp -> Prop), Inv X pins σ H s -> t σ H Q -> wpAny (model X.prog X.w) X.A (isTrue e X.env (eval e X.env)) (TP X pins σ Q) X.xe s
noncomputable def PW (X : Cx) (e : Expr) (t : TT) : Prop :=
 ∀ (whole : Sem Value) (pins : List (Addr × Obj)) (s : Shared) (σ : St) (H : Hp) (Q : Bool -> Hp -> Prop), Inv X pins σ H s -> t σ H Q -> wpAny (model X.prog X.w) X.A (isTrue e X.env whole) (TP X pins σ Q) X.xe s
theorem PW.pt {X : Cx} {e : Expr} {t : TT} (h : PW X e t) : PT X e t := h _
noncomputable def PA (X : Cx) (es : List Expr) (t : TA) : Prop :=
 ∀ (pos : Pos) (pins : List (Addr × Obj)) (s : Shared) (σ : St) (H : Hp) (Q : List V -> Hp -> Prop), Inv X pins σ H s -> t σ H Q -> wpAny (model X.prog X.w) X.A (spliced (backTo pos (starEach es X.env))) (AP X pins σ Q) X.xe s
noncomputable def PS (X : Cx) (st : Stmt) (t : TS) : Prop :=
 ∀ (pins : List (Addr × Obj)) (s : Shared) (σ : St) (H : Hp) (D : Ends), Inv X pins σ H s -> t D σ H -> wpAny (model X.prog X.w) X.A (exec st X.env) (SP X pins D) X.xe s
noncomputable def PSs (X : Cx) (st : List Stmt) (t : TS) : Prop :=
 ∀ (pins : List (Addr × Obj)) (s : Shared) (σ : St) (H : Hp) (D : Ends), Inv X pins σ H s -> t D σ H -> wpAny (model X.prog X.w) X.A (execs st X.env) (SP X pins D) X.xe s
theorem thn {α : Type} {t : Sem α} {Q Q' : α -> Shared -> Prop} {M : Model} {A : Around} {E : Value -> Shared -> Prop} {s : Shared} (h : wpAny M A t Q E s) (hQ : ∀ a s, Q a s -> Q' a s) : wpAny M A t Q' E s := wpAny_mono h hQ fun _ _ x => x
end L2
namespace L2
open PySem PySem.Spec PyProof.Rows
section
variable {X : Cx}
noncomputable def tVar (i : Nat) : TE := fun σ H Q => ∃ v, σ[i]? = some (some v) /\ Q v H
noncomputable def tC (v : V) : TE := fun _ H Q => Q v H
theorem d5n {i : Nat} {x : Str} {pos : Pos} (hN : X.N[i]? = some x) (hv : Vis X.env.scope x) (hd : (x == ("__debug__" : Str)) = false := by decide) (hcd : (x == ("__classdict__" : Str)) = false := by decide) : PE X (.Name x pos) (tVar i) := by
 intro pins s σ H Q I h
 obtain ⟨v, e, h⟩ := h
 obtain ⟨m, hn, hl⟩ := I.loc
 obtain ⟨u, r, l⟩ := hl i x v hN e hv
 have fin : EP X pins σ Q u s := ⟨v, H, I, r, h⟩
 rcases l with ⟨hk, hm⟩ | ⟨hk, c, hc, hcell⟩
 ·exact wpAny_Name (wpAny_loadName_local I.ok.kind hk hn hm fin) hd
 ·rcases hk with hk | hk
  ·exact wpAny_Name (wpAny_loadName_cell I.ok.kind hk hc hcell fin) hd
  ·exact wpAny_Name (wpAny_loadName_free I.ok.kind hk hc hcell fin hcd) hd
theorem a0p {i j pos} : PE X (.Constant (.int i) j pos) (tC (.int i)) := fun _ _ _ H _ I h => wpAny_Constant_int ⟨.int i, H, I.tok _, ⟨_, rfl⟩, h⟩
theorem b7o {b j pos} : PE X (.Constant (.bool b) j pos) (tC (.bl b)) := fun _ _ _ H _ I h => Constant_bool ⟨.bl b, H, I, rfl, h⟩
theorem c4g {x j pos} : PE X (.Constant (.str x) j pos) (tC (.str x)) := fun _ _ _ H _ I h => Calls.Constant_str ⟨.str x, H, I.tok _, ⟨_, rfl⟩, h⟩
noncomputable def Gl (X : Cx) (x : Str) : Prop := X.env.kindOf x = some .globalImplicit
theorem b6h {E : Value -> Shared -> Prop} {pins : List (Addr × Obj)} {s : Shared} {σ : St} {H : Hp} {x : Str} {u : Value} {pos : Pos} {Q : Value -> Shared -> Prop} (I : Inv X pins σ H s) (hg : Gl X x) (hm : X.mg x = some u) (h : Q u s)
  (hd : (x == ("__debug__" : Str)) = false := by decide) : wpAny (model X.prog X.w) X.A (eval (.Name x pos) X.env) Q E s :=
 Calls.Name_function_global I.ok.kind hg (Calls.loadGlobal_global (by rw [I.ok.glob]; exact I.mod.glob.keeps I.bk) hm h) hd
theorem c1p {E : Value -> Shared -> Prop} {pins : List (Addr × Obj)} {s : Shared} {σ : St} {H : Hp} {x : Str} {u : Value} {pos : Pos} {Q : Value -> Shared -> Prop} (I : Inv X pins σ H s) (hg : Gl X x) (hm : X.mg x = none) (hv : bootBuiltins x = some u) (h : Q u s)
  (hn : x ≠ "__name__" := by decide) (hd : (x == ("__debug__" : Str)) = false := by decide) : wpAny (model X.prog X.w) X.A (eval (.Name x pos) X.env) Q E s := by
 obtain ⟨mb, h1, h2⟩ := I.mod.blt
 exact Calls.Name_function_global I.ok.kind hg (Calls.loadGlobal_builtin (by rw [I.ok.glob]; exact I.mod.glob.keeps I.bk) hm (by rw [I.ok.blt]; exact h1.keeps I.bk) ((h2 x hn).trans hv) h) hd
theorem b9w {x : Str} {v : V} {u : Value} {pos : Pos} (hg : Gl X x) (hm : X.mg x = some u) (r : RelV v u) (hd : (x == ("__debug__" : Str)) = false := by decide) : PE X (.Name x pos) (tC v) :=
 fun _ _ _ H _ I h => b6h I hg hm ⟨v, H, I, r, h⟩ hd
theorem b9y {x : Str} {v : V} {u : Value} {pos : Pos} (hg : Gl X x) (hm : X.mg x = none) (hv : bootBuiltins x = some u) (r : RelV v u) (hn : x ≠ "__name__" := by decide) (hd : (x == ("__debug__" : Str)) = false := by decide) : PE X (.Name x pos) (tC v) :=
 fun _ _ _ H _ I h => c1p I hg hm hv ⟨v, H, I, r, h⟩ hn hd
noncomputable def t2I (ta tb : TE) (k : Int -> Int -> Hp -> Prop) : St -> Hp -> Prop := fun σ H => ta σ H fun x H1 => tb σ H1 fun y H2 => ∃ i j, x = .int i /\ y = .int j /\ k i j H2
noncomputable def tAdd (ta tb : TE) : TE := fun σ H Q => t2I ta tb (fun i j H2 => Q (.int (i + j)) H2) σ H
noncomputable def tSub (ta tb : TE) : TE := fun σ H Q => t2I ta tb (fun i j H2 => Q (.int (i - j)) H2) σ H
noncomputable def tMul (ta tb : TE) : TE := fun σ H Q => t2I ta tb (fun i j H2 => (-(2 ^ 64) < i /\ i < 2 ^ 64) /\ Q (.int (i * j)) H2) σ H
variable {a b : Expr} {ta tb : TE} {pos : Pos}
noncomputable def PC (X : Cx) (op : CmpOp) (a b : Expr) (t : TE) : Prop :=
 ∀ (pins : List (Addr × Obj)) (s : Shared) (σ : St) (H : Hp) (Q : VK), Inv X pins σ H s -> t σ H Q ->
  wpAny (model X.prog X.w) X.A (eval a X.env) (fun v s₁ => wpAny (model X.prog X.w) X.A (eval b X.env) (fun u s₂ => wpAny (model X.prog X.w) X.A (compareOp op v u) (EP X pins σ Q) X.xe s₂) X.xe s₁) X.xe s
theorem c8h (b : Expr) {op : CmpOp} (h : op ≠ .In) (h2 : op ≠ .NotIn) : behindInMarks op b = false := by
 have e1 : (op == CmpOp.In) = false := by cases op <;> first | rfl | exact absurd rfl h
 have e2 : (op == CmpOp.NotIn) = false := by cases op <;> first | rfl | exact absurd rfl h2
 cases b <;> simp [behindInMarks, e1, e2]
noncomputable def d4w (p : Int -> Int -> Bool) (ta tb : TE) : TE := fun σ H Q => t2I ta tb (fun i j H2 => Q (.bl (p i j)) H2) σ H
noncomputable abbrev tLt : TE -> TE -> TE := d4w fun i j => decide (i < j)
noncomputable abbrev tLe : TE -> TE -> TE := d4w fun i j => decide (i <= j)
noncomputable abbrev tGt : TE -> TE -> TE := d4w fun i j => decide (j < i)
noncomputable abbrev tGe : TE -> TE -> TE := d4w fun i j => decide (j <= i)
noncomputable abbrev tEqI : TE -> TE -> TE := d4w fun i j => decide (i = j)
noncomputable abbrev tNeI : TE -> TE -> TE := d4w fun i j => !decide (i = j)
noncomputable def tIsN (ta : TE) : TE := fun σ H Q => ta σ H fun x H1 => Q (.bl (decide (x = .non))) H1
noncomputable def tNotN (ta : TE) : TE := fun σ H Q => ta σ H fun x H1 => Q (.bl (!decide (x = .non))) H1
noncomputable def tB (t : TE) : TT := fun σ H Q => t σ H fun x H1 => ∃ c, x = .bl c /\ Q c H1
theorem d5o {op : CmpOp} {t : TE} (h : PC X op a b t) (h1 : behindInMarks op b = false := by first | exact c8h _ (by decide) (by decide) | rfl) : PT X (.Compare a [op] [b] pos) (tB t) := by
 intro pins s σ H Q I hw
 refine wpAny_isTrue_Compare1 (thn (h pins s σ H _ I hw) fun v s1 h1 => thn h1 fun u s2 h2 => thn h2 fun c s3 ⟨x, H1, I1, r1, q1⟩ => ?_) h1
 obtain ⟨d, rfl, q⟩ := q1
 cases r1
 exact wpAny_truthy_bool ⟨H1, I1, q⟩
theorem d5p {e : Expr} {t : TE} (h : PE X e t) (he : ∀ whole, isTrue e X.env whole = (do let v <- whole; standAt e.pos; holding [v] (truthy v)) := by intro _; rfl) : PT X e (tB t) := by
 intro pins s σ H Q I hw
 refine isTrue_plain (thn (h pins s σ H _ I hw) fun v s1 ⟨x, H1, I1, r1, q1⟩ => ?_) (he _)
 obtain ⟨d, rfl, q⟩ := q1
 cases r1
 exact wpAny_truthy_bool ⟨H1, I1, q⟩
variable {tA tB' : TT} {rest : List Expr}
noncomputable def f4o (t u : TT) : TT := fun σ H Q => t σ H fun c H1 => if c = true then u σ H1 Q else Q false H1
noncomputable def tOr (t u : TT) : TT := fun σ H Q => t σ H fun c H1 => if c = true then Q true H1 else u σ H1 Q
noncomputable def f4p (t : TT) : TT := fun σ H Q => t σ H fun c H1 => Q (!c) H1
theorem pw_and1 (ha : PT X a tA) : PW X (.BoolOp .And [a] pos) tA := by
 intro wh pins s σ H Q I h
 refine isTrue_and (thn (ha pins s σ H Q I h) fun c s1 e => ?_)
 cases c with
 | true => exact isTrue_and_nil e
 | false => exact e
theorem pw_or1 (ha : PT X a tA) : PW X (.BoolOp .Or [a] pos) tA := by
 intro wh pins s σ H Q I h
 refine isTrue_or (thn (ha pins s σ H Q I h) fun c s1 e => ?_)
 cases c with
 | false => exact isTrue_or_nil e
 | true => exact e
theorem pw_and (ha : PT X a tA) (hb : PW X (.BoolOp .And (b :: rest) pos) tB') : PW X (.BoolOp .And (a :: b :: rest) pos) (f4o tA tB') := by
 intro wh pins s σ H Q I h
 refine isTrue_and (thn (ha pins s σ H _ I h) fun c s1 ⟨H1, I1, q1⟩ => ?_)
 cases c with
 | true => exact hb wh pins s1 σ H1 Q I1 q1
 | false => exact ⟨H1, I1, q1⟩
theorem pw_or (ha : PT X a tA) (hb : PW X (.BoolOp .Or (b :: rest) pos) tB') : PW X (.BoolOp .Or (a :: b :: rest) pos) (tOr tA tB') := by
 intro wh pins s σ H Q I h
 refine isTrue_or (thn (ha pins s σ H _ I h) fun c s1 ⟨H1, I1, q1⟩ => ?_)
 cases c with
 | true => exact ⟨H1, I1, q1⟩
 | false => exact hb wh pins s1 σ H1 Q I1 q1
theorem b5t (ha : PT X a tA) : PT X (.UnaryOp .Not a pos) (f4p tA) := by
 intro pins s σ H Q I h
 exact isTrue_not (ha pins s σ H (fun c H1 => Q (!c) H1) I h)
noncomputable def tAndV (ta tb : TE) : TE := fun σ H Q => ta σ H fun x H1 => ∃ c, x = .bl c /\ if c = true then tb σ H1 Q else Q (.bl false) H1
noncomputable def tOrV (ta tb : TE) : TE := fun σ H Q => ta σ H fun x H1 => ∃ c, x = .bl c /\ if c = true then Q (.bl true) H1 else tb σ H1 Q
noncomputable def tNotV (ta : TE) : TE := fun σ H Q => ta σ H fun x H1 => ∃ c, x = .bl c /\ Q (.bl (!c)) H1
noncomputable def tIf (t : TT) (ta tb : TE) : TE := fun σ H Q => t σ H fun c H1 => if c = true then ta σ H1 Q else tb σ H1 Q
end
end L2
namespace L2
open PySem PySem.Spec PyProof.Rows
noncomputable def SqL (K : PySem.W.Frag) (H : Hp) (a : Addr) (xs : List V) : Prop :=
 Rd H a (.lst xs) \/
  ∃ (o : Obj) (its : Array Value) (n : Nat), K.lookup a = some o ∧ o.cls = .type "list" ∧ o.dict = none ∧ o.data = .seq its n ∧ its.size ≤ sizeLine ∧ Vals xs its.toList
noncomputable def SqT (K : PySem.W.Frag) (H : Hp) (a : Addr) (xs : List V) : Prop :=
 Rd H a (.tup xs) \/
  ∃ (o : Obj) (its : Array Value) (n : Nat), K.lookup a = some o ∧ o.cls = .type "tuple" ∧ o.data = .seq its n ∧ its.size ≤ sizeLine ∧ Vals xs its.toList
noncomputable def absV : Value -> Option V
 | .none => some .non
 | .bool b => some (.bl b)
 | .int i _ => some (.int i)
 | .str x _ => some (.str x)
 | .bytes b _ => some (.byt b)
 | .float b _ => some (.flt b)
 | .ref a => some (.ref a)
 | .type n => some (.ty n)
 | _ => none
theorem RelV.abs {x : V} {u : Value} (r : RelV x u) : absV u = some x := by
 cases x with
 | non => cases r; rfl
 | bl _ => cases r; rfl
 | int _ => obtain ⟨t, rfl⟩ := r; rfl
 | str _ => obtain ⟨t, rfl⟩ := r; rfl
 | byt _ => obtain ⟨t, rfl⟩ := r; rfl
 | flt _ => obtain ⟨t, rfl⟩ := r; rfl
 | ref _ => cases r; rfl
 | ty _ => cases r; rfl
theorem RelV.inj {x y : V} {u : Value} (r : RelV x u) (q : RelV y u) : x = y := Option.some.inj (r.abs.symm.trans q.abs)
theorem Vals.inj : ∀ {xs ys : List V} {us : List Value}, Vals xs us -> Vals ys us -> xs = ys
 | _, _, _, .nil, .nil => rfl
 | _, _, _, .cons r t, .cons r' t' => by rw [r.inj r', Vals.inj t t']
section
variable {X : Cx} {pins : List (Addr × Obj)} {σ : St} {H : Hp} {s : Shared} {a : Addr} {xs ys : List V}
theorem SqL.of {K : PySem.W.Frag} (h : H a = some (.lst xs)) : SqL K H a xs := .inl (.inl h)
theorem SqT.of {K : PySem.W.Frag} (h : H a = some (.tup xs)) : SqT K H a xs := .inl (.inl h)
theorem Inv.list (I : Inv X pins σ H s) (h : SqL X.K H a xs) : ∃ its : List Value, Vals xs its /\ PlainL s.heap a its.toArray /\ xs.length <= sizeLine := by
 rcases h with h | ⟨o, its, n, hk, hc, hd, hs, hz, r⟩
 ·obtain ⟨z, its, n, r, e⟩ := h.ok I.hok
  exact ⟨its, r, ⟨_, n, e, rfl, rfl, rfl⟩, z⟩
 ·refine ⟨its.toList, r, ⟨o, n, I.kIn a o hk, hc, hd, by simpa using hs⟩, ?_⟩
  have e := r.length
  simp only [Array.length_toList] at e
  omega
theorem Inv.tuple (I : Inv X pins σ H s) (h : SqT X.K H a xs) : ∃ its : List Value, Vals xs its /\ IsTup s.heap a its.toArray /\ xs.length <= sizeLine := by
 rcases h with h | ⟨o, its, n, hk, hc, hs, hz, r⟩
 ·obtain ⟨z, its, r, p⟩ := h.ok I.hok
  exact ⟨its, r, p, z⟩
 ·refine ⟨its.toList, r, ⟨o, I.kIn a o hk, hc, n, by simpa using hs⟩, ?_⟩
  have e := r.length
  simp only [Array.length_toList] at e
  omega
theorem Inv.c8i (I : Inv X pins σ H s) (h : SqL X.K H a xs) (h' : SqL X.K H a ys) : xs = ys := by
 obtain ⟨its, r, ⟨o, n, e, _, _, d⟩, _⟩ := I.list h
 obtain ⟨its', r', ⟨o', n', e', _, _, d'⟩, _⟩ := I.list h'
 rw [e] at e'; cases e'
 rw [d] at d'
 injection d' with d1 _
 have : its = its' := by simpa using congrArg Array.toList d1
 subst this
 exact r.inj r'
end
noncomputable abbrev Cx.wish (X : Cx) (E : Value -> Shared -> Prop) : Cx := { X with xe := E }
noncomputable abbrev Cx.nox (X : Cx) : Cx := X.wish fun _ _ => False
theorem Cx.Ok.wish {X : Cx} (ok : X.Ok) (E : Value -> Shared -> Prop) : (X.wish E).Ok :=
 ⟨ok.mod, ok.kind, ok.glob, ok.blt, ok.above, ok.inj, ok.has, ok.cab, ok.hd, ok.frames, ok.stk, ok.exf, ok.bs, ok.bsz, ok.d1y, ok.d5m, ok.c1m, ok.frf⟩
theorem Cx.Ok.b0s {X : Cx} {E : Value -> Shared -> Prop} (ok : (X.wish E).Ok) : X.Ok :=
 ⟨ok.mod, ok.kind, ok.glob, ok.blt, ok.above, ok.inj, ok.has, ok.cab, ok.hd, ok.frames, ok.stk, ok.exf, ok.bs, ok.bsz, ok.d1y, ok.d5m, ok.c1m, ok.frf⟩
section
variable {X : Cx} {pins : List (Addr × Obj)} {σ : St} {H : Hp} {s : Shared} {E : Value -> Shared -> Prop}
theorem Inv.wish (I : Inv X pins σ H s) (E : Value -> Shared -> Prop) : Inv (X.wish E) pins σ H s := ⟨I.ok.wish E, I.os, I.bare, I.base, I.loc, I.cell, I.free, I.b1z, I.pin, I.hok, I.len⟩
theorem Inv.b0s (I : Inv (X.wish E) pins σ H s) : Inv X pins σ H s := ⟨I.ok.b0s, I.os, I.bare, I.base, I.loc, I.cell, I.free, I.b1z, I.pin, I.hok, I.len⟩
theorem SP.b0s {D : Ends} {f : Flow} {s' : Shared} (h : SP (X.wish E) pins D f s') : SP X pins D f s' := by
 cases f with
 | next => obtain ⟨σ', H', I, q⟩ := h; exact ⟨σ', H', I.b0s, q⟩
 | brk => obtain ⟨σ', H', I, q⟩ := h; exact ⟨σ', H', I.b0s, q⟩
 | cont => obtain ⟨σ', H', I, q⟩ := h; exact ⟨σ', H', I.b0s, q⟩
 | ret u => obtain ⟨v, σ', H', I, r, q⟩ := h; exact ⟨v, σ', H', I.b0s, r, q⟩
theorem PE.nox {e : Expr} {t : TE} (h : PE X.nox e t) : PE X e t := fun pins s σ H Q I hw =>
 wpAny_mono (h pins s σ H Q (I.wish _) hw) (fun _ _ ⟨v, H', I', r, q⟩ => ⟨v, H', I'.b0s, r, q⟩) fun _ _ z => False.elim z
theorem PT.nox {e : Expr} {t : TT} (h : PT X.nox e t) : PT X e t := fun pins s σ H Q I hw =>
 wpAny_mono (h pins s σ H Q (I.wish _) hw) (fun _ _ ⟨H', I', q⟩ => ⟨H', I'.b0s, q⟩) fun _ _ z => False.elim z
theorem PSs.nox {st : List Stmt} {t : TS} (h : PSs X.nox st t) : PSs X st t := fun pins s σ H D I hw =>
 wpAny_mono (h pins s σ H D (I.wish _) hw) (fun _ _ q => q.b0s) fun _ _ z => False.elim z
end
section
variable {X : Cx} {st : Stmt} {rest : List Stmt} {t u : TS} {e : Expr} {te : TE} {pos : Pos}
noncomputable def d5q : TS := fun D σ H => D.nx σ H
noncomputable def f4q (t u : TS) : TS := fun D σ H => t { D with nx := u D } σ H
theorem a1w : PSs X [] d5q := fun _ _ σ H _ I h => wpAny_execs_nil ⟨σ, H, I, h⟩
theorem a0m (h1 : PS X st t) (h2 : PSs X rest u) : PSs X (st :: rest) (f4q t u) := by
 intro pins s σ H D I h
 refine wpAny_execs_cons (thn (h1 pins s σ H { D with nx := u D } I h) fun f s1 q => ?_)
 cases f with
 | next =>
  obtain ⟨σ', H', I', q⟩ := q
  exact h2 pins s1 σ' H' D I' q
 | ret v => exact q
 | brk => exact q
 | cont => exact q
theorem a0o (h1 : PS X st t) : PSs X [st] t := by
 intro pins s σ H D I h
 refine wpAny_execs_cons (thn (h1 pins s σ H D I h) fun f s1 q => ?_)
 cases f with
 | next => exact wpAny_execs_nil q
 | ret v => exact q
 | brk => exact q
 | cont => exact q
noncomputable def f4r : TS := fun D σ H => D.bk σ H
noncomputable def tCont : TS := fun D σ H => D.ct σ H
theorem Inv.quiet {pins : List (Addr × Obj)} {σ : St} {H : Hp} {s : Shared} (I : Inv X pins σ H s) : interactive X.env = false := by simp [interactive, I.ok.kind]
noncomputable def d5r (te : TE) : TS := fun D σ H => te σ H fun _ H1 => D.nx σ H1
theorem a3p (he : PE X e te) (hs : swapsWith e none pos.line X.env = pure false := by rfl) : PS X (.Expr e pos) (d5r te) := by
 intro pins s σ H D I h
 exact wpAny_Expr_any (thn (he pins s σ H _ I h) fun v s1 ⟨x, H1, I1, r1, q1⟩ => ⟨σ, H1, I1, q1⟩) I.quiet hs
noncomputable def f4s (te : TE) : TS := fun D σ H => te σ H D.rt
theorem a4o (he : PE X e te) : PS X (.Return (some e) pos) (f4s te) := by
 intro pins s σ H D I h
 exact wpAny_Return_some (thn (he pins s σ H _ I h) fun v s1 ⟨x, H1, I1, r1, q1⟩ => ⟨x, σ, H1, I1, r1, q1⟩)
noncomputable def f1t : TS := fun D _ H => D.rt .non H
noncomputable def f4t (c : TT) (t u : TS) : TS := fun D σ H => c σ H fun b H1 => if b = true then t D σ H1 else u D σ H1
theorem a7v {c : Expr} {a b : List Stmt} {tc : TT} (hc : PT X c tc) (ha : PSs X a t) (hb : PSs X b u) : PS X (.If c a b pos) (f4t tc t u) := by
 intro pins s σ H D I h
 refine wpAny_If (thn (hc pins s σ H _ I h) fun d s1 ⟨H1, I1, q1⟩ => ?_)
 cases d with
 | true => exact ha pins s1 σ H1 D I1 q1
 | false => exact hb pins s1 σ H1 D I1 q1
noncomputable def d0i : TS := fun _ _ _ => False
theorem a8i : PS X st d0i := fun _ _ _ _ _ _ h => h.elim
end
noncomputable abbrev TG := V -> St -> Hp -> (St -> Hp -> Prop) -> Prop
noncomputable abbrev TGs := List V -> St -> Hp -> (St -> Hp -> Prop) -> Prop
noncomputable def PG (X : Cx) (target : Expr) (t : TG) : Prop :=
 ∀ (pins : List (Addr × Obj)) (s : Shared) (σ : St) (H : Hp) (v : V) (u : Value) (Q : St -> Hp -> Prop), Inv X pins σ H s -> RelV v u -> t v σ H Q ->
  wpAny (model X.prog X.w) X.A (assign target X.env u) (fun _ s' => ∃ σ' H', Inv X pins σ' H' s' /\ Q σ' H') X.xe s
noncomputable def PGs (X : Cx) (ts : List Expr) (t : TGs) : Prop :=
 ∀ (pins : List (Addr × Obj)) (s : Shared) (σ : St) (H : Hp) (vs : List V) (us : List Value) (Q : St -> Hp -> Prop), Inv X pins σ H s -> Vals vs us -> t vs σ H Q ->
  wpAny (model X.prog X.w) X.A (assignInOrder ((assignEach ts X.env).map (·.2)) us) (fun _ s' => ∃ σ' H', Inv X pins σ' H' s' /\ Q σ' H') X.xe s
noncomputable abbrev f1u := V -> V -> V -> Hp -> (Hp -> Prop) -> Prop
noncomputable def PSet (X : Cx) (t : f1u) : Prop :=
 ∀ (pins : List (Addr × Obj)) (s : Shared) (σ : St) (H : Hp) (o i v : V) (ov iv u : Value) (Q : Hp -> Prop), Inv X pins σ H s -> RelV o ov -> RelV i iv -> RelV v u -> t o i v H Q ->
  wpAny (model X.prog X.w) X.A (setItem ov iv u) (fun _ s' => ∃ H', Inv X pins σ H' s' /\ Q H') X.xe s
noncomputable abbrev TIp := V -> V -> Hp -> VK -> Prop
noncomputable def PIp (X : Cx) (op : Operator) (t : TIp) : Prop :=
 ∀ (pins : List (Addr × Obj)) (s : Shared) (σ : St) (H : Hp) (x y : V) (v u : Value) (Q : VK), Inv X pins σ H s -> RelV x v -> RelV y u -> t x y H Q ->
  wpAny (model X.prog X.w) X.A (inplaceOp op v u) (EP X pins σ Q) X.xe s
section
variable {X : Cx} {pos : Pos}
noncomputable def c4h (i : Nat) : TG := fun v σ H Q => Q (σ.set i (some v)) H
theorem a3u {i : Nat} {x : Str} (hN : X.N.Nodup) (hi : X.N[i]? = some x) (hx : Loc X.env.scope x) (hf : X.fn x = true \/ X.env.scope.names.lookup x = some .local := by first | exact .inl rfl | exact .inr rfl | assumption) : PG X (.Name x pos) (c4h i) := by
 intro pins s σ H v u Q I r h
 exact wpAny_assign_Name (c1o I hN hi hx r (fun s' I' => ⟨_, H, I', h⟩) hf)
noncomputable def gNil : TGs := fun vs σ H Q => vs = [] /\ Q σ H
noncomputable def f1v (t : TG) (u : TGs) : TGs := fun vs σ H Q => ∃ v r, vs = v :: r /\ t v σ H fun σ' H' => u r σ' H' Q
theorem c4i : PGs X [] gNil := by
 intro pins s σ H vs us Q I r h
 obtain ⟨e, h⟩ := h
 subst e
 cases r
 exact assignInOrder_nil ⟨σ, H, I, h⟩
theorem b6i {e : Expr} {es : List Expr} {t : TG} {u : TGs} (h1 : PG X e t) (h2 : PGs X es u)
  (hs : (assignEach (e :: es) X.env).map (·.2) = assign e X.env :: (assignEach es X.env).map (·.2) := by rfl) : PGs X (e :: es) (f1v t u) := by
 intro pins s σ H vs us Q I r h
 obtain ⟨v, vr, e1, h⟩ := h
 subst e1
 cases r with
 | cons r rr =>
  rw [hs]
  refine assignInOrder_cons (thn (h1 pins s σ H _ _ _ I r h) fun _ s1 ⟨σ1, H1, I1, q1⟩ => ?_)
  exact h2 pins s1 σ1 H1 _ _ Q I1 rr q1
noncomputable def gTup (K : PySem.W.Frag) (n : Nat) (t : TGs) : TG := fun v σ H Q => ∃ a xs, v = .ref a /\ SqT K H a xs /\ xs.length = n /\ t xs σ H Q
theorem d0j {es : List Expr} {k : Nat} {t : TGs} {n : Nat} (hc : X.calm = true) (h : PGs X es t)
  (hn : (assignEach es X.env).length = n := by rfl) (hst : (assignEach es X.env).findIdx? (·.1) = none := by rfl) : PG X (.Tuple es k pos) (gTup X.K n t) := by
 intro pins s σ H v u Q I r hw
 obtain ⟨a, xs, e1, hq, hl, hw⟩ := hw
 subst e1
 cases r
 obtain ⟨its, rv, ht, hz⟩ := I.tuple hq
 refine assign_Tuple_tuple (I.ok.hd hc) ht (by simp [hn, <- hl, rv.length]) hst fun h' hx => ?_
 have I1 : Inv X pins σ H { s with heap := h' } := I.kept (t' := s.toks) fun b o e => hx b o (Nat.ne_of_lt (Heap.lt_size e)) e
 exact h pins _ σ H xs _ Q I1 (by simpa using rv) hw
noncomputable def gSub (to ti : TE) (t : f1u) : TG := fun v σ H Q => to σ H fun o H1 => ti σ H1 fun i H2 => t o i v H2 fun H3 => Q σ H3
noncomputable def f0v (te : TE) (g : TG) : TS := fun D σ H => te σ H fun x H1 => g x σ H1 D.nx
theorem a1y {i : Nat} {x : Str} {e : Expr} {te : TE} {pos' : Pos} (hN : X.N.Nodup) (hi : X.N[i]? = some x) (hx : Loc X.env.scope x) (he : PE X e te) (hs : swapsWith e (some (.Name x pos')) pos.line X.env = pure false := by rfl) (hf : X.fn x = true \/ X.env.scope.names.lookup x = some .local := by first | exact .inl rfl | exact .inr rfl | assumption) :
  PS X (.Assign [.Name x pos'] e pos) (f0v te (c4h i)) := by
 intro pins s σ H D I h
 refine wpAny_Assign_Name (thn (he pins s σ H _ I h) fun v s1 ⟨y, H1, I1, r1, q1⟩ => ?_) hs
 exact c1o I1 hN hi hx r1 (fun s2 I2 => ⟨_, H1, I2, q1⟩) hf
noncomputable def tPar (i j : Nat) (ta : TA) : TS := fun D σ H => ta σ H fun vs H1 => ∃ v w, vs = [v, w] /\ D.nx ((σ.set i (some v)).set j (some w)) H1
noncomputable def tAug (i : Nat) (te : TE) (ti : TIp) : TS := fun D σ H => ∃ x, σ[i]? = some (some x) /\ te σ H fun y H1 => ti x y H1 fun z H2 => D.nx (σ.set i (some z)) H2
noncomputable def tAugS (to ti te : TE) (tget : V -> V -> Hp -> VK -> Prop) (tip : TIp) (tset : f1u) : TS := fun D σ H => to σ H fun o H1 => ti σ H1 fun i H2 => tget o i H2 fun x H3 => te σ H3 fun y H4 => tip x y H4 fun z H5 => tset o i z H5 fun H6 => D.nx σ H6
noncomputable def PGet (X : Cx) (t : V -> V -> Hp -> VK -> Prop) : Prop :=
 ∀ (pins : List (Addr × Obj)) (s : Shared) (σ : St) (H : Hp) (o i : V) (ov iv : Value) (Q : VK), Inv X pins σ H s -> RelV o ov -> RelV i iv -> t o i H Q ->
  wpAny (model X.prog X.w) X.A (getItem ov iv) (EP X pins σ Q) X.xe s
noncomputable def ipI (f : Int -> Int -> Int) : TIp := fun x y H Q => ∃ i j, x = .int i /\ y = .int j /\ Q (.int (f i j)) H
end
section
variable {X : Cx} {pos : Pos}
noncomputable def f4u (c : TT) (tb : TS) : TS := fun D σ H => ∃ W : Nat -> St -> Hp -> Prop, (∃ m, W m σ H) /\ ∀ m σ H, W m σ H ->
 c σ H fun b H1 => if b = true then ∃ N : St -> Hp -> Prop, (∀ σ' H', N σ' H' -> ∃ m', m' < m /\ W m' σ' H') /\ tb { D with nx := N, ct := N, bk := D.nx } σ H1 else D.nx σ H1
end
structure It where
 go : Nat -> Hp -> Prop
 yld : Nat -> Hp -> V -> Hp -> Prop
 stop : Nat -> Hp -> Prop
noncomputable def b5j (X : Cx) (pins : List (Addr × Obj)) (H : Hp) (b : Addr) : Prop :=
 H b = none /\ b ≠ X.env.locals /\ b ∉ X.fs /\ (b ∈ X.ex \/ X.s₀.heap.objs.size <= b) /\ (∀ x c, X.env.cells.lookup x = some c -> c ≠ b) /\ ∀ p ∈ X.pn ++ pins, p.1 ≠ b
theorem Inv.d4y {X : Cx} {pins : List (Addr × Obj)} {σ : St} {H H' : Hp} {s : Shared} {b : Addr} (I : Inv X pins σ H s) (hb : s.heap.objs.size <= b) (hn : H' b = none) : b5j X pins H' b := by
 refine ⟨hn, Nat.ne_of_gt (Nat.lt_of_lt_of_le I.lt hb), I.nofs hb, .inr (Nat.le_trans I.sz hb), fun x c e z => ?_, fun p hp z => ?_⟩
 ·obtain ⟨v, q⟩ := I.cell x c e
  exact absurd (Nat.lt_of_lt_of_le q.lt (by rw [z]; exact hb)) (Nat.lt_irrefl _)
 ·exact absurd (Nat.lt_of_lt_of_le (Heap.lt_size (I.pin p hp).1) (by rw [z]; exact hb)) (Nat.lt_irrefl _)
structure Turn (P : Program) (w : World) (K : PySem.W.Frag) (tg : Expr) (J : It) (fp : List Addr) (it : Addr) (tn : Nat -> Heap -> Prop) : Prop where
 mem : it ∈ fp
 obj : ∀ i h, tn i h -> ∀ b ∈ fp, ∃ o, h.get? b = some o /\ ∀ v, o.data ≠ .cell v
 keep : ∀ i h h', tn i h -> (∀ b ∈ fp, ∀ o, h.get? b = some o -> h'.get? b = some o) -> tn i h'
 item : ∀ (X : Cx), X.prog = P -> X.w = w -> X.K = K -> X.calm = true -> ∀ (i : Nat) (pins : List (Addr × Obj)) (s : Shared) (σ : St) (H : Hp) (E : Value -> Shared -> Prop), Inv X pins σ H s -> (∀ b ∈ fp, b5j X pins H b) -> tn i s.heap -> J.go i H ->
  wpAny (model P w) X.A (pyNext (.ref it)) (fun r s1 => ∃ u, r = some u /\
   wpAny (model P w) X.A (letOwnedTupleGo tg (.ref it) u) (fun _ s2 => ∃ x H', Inv X pins σ H' s2 /\ RelV x u /\ J.yld i H x H' /\ tn (i + 1) s2.heap /\ ∀ b ∈ fp, H' b = none) E s1) E s
 done : ∀ (X : Cx), X.prog = P -> X.w = w -> X.K = K -> X.calm = true -> ∀ (i : Nat) (pins : List (Addr × Obj)) (s : Shared) (σ : St) (H : Hp) (E : Value -> Shared -> Prop), Inv X pins σ H s -> (∀ b ∈ fp, b5j X pins H b) -> tn i s.heap -> J.stop i H ->
  wpAny (model P w) X.A (pyNext (.ref it)) (fun r s1 => r = none /\ Inv X pins σ H s1) E s
 self : ∀ (A : Around) (i : Nat) (s : Shared) (Q : Value -> Shared -> Prop) (E : Value -> Shared -> Prop), tn i s.heap -> Q (.ref it) s -> wpAny (model P w) A (pyIter (.ref it)) Q E s
noncomputable abbrev TI := St -> Hp -> (It -> Hp -> Prop) -> Prop
noncomputable def PIE (X : Cx) (pins : List (Addr × Obj)) (σ : St) (tg : Expr) (R : It -> Hp -> Prop) (itv : Value) (s2 : Shared) : Prop :=
 ∃ (it : Addr) (fp : List Addr) (tn : Nat -> Heap -> Prop) (J : It) (H' : Hp), itv = .ref it /\ Inv X pins σ H' s2 /\ Turn X.prog X.w X.K tg J fp it tn /\ tn 0 s2.heap /\ (∀ b ∈ fp, b5j X pins H' b) /\ R J H'
noncomputable def PI (X : Cx) (tg iter : Expr) (wi : TI) : Prop :=
 ∀ (pins : List (Addr × Obj)) (s : Shared) (σ : St) (H : Hp) (R : It -> Hp -> Prop), Inv X pins σ H s -> wi σ H R ->
  wpAny (model X.prog X.w) X.A (eval iter X.env) (fun v s1 => wpAny (model X.prog X.w) X.A (pyIter v) (PIE X pins σ tg R) X.xe s1) X.xe s
theorem d1z {M : Model} {A : Around} {E : Value -> Shared -> Prop} {s : Shared} {tg : Expr} {it : Addr} {u : Value} {o : Obj} {n : String} {vs : Array Value} {Q : Unit -> Shared -> Prop} (ho : s.heap.get? it = some o) (hc : o.cls = .type n) (hd : o.data = .fields vs)
  (hn : ["enumerate", "zip", "dict_itemiterator", "dict_reverseitemiterator", "odict_iterator", "itertools.zip_longest", "itertools.pairwise"].contains n = false) (hQ : Q () s) : wpAny M A (letOwnedTupleGo tg (.ref it) u) Q E s := by
 unfold letOwnedTupleGo
 cases tg <;> first
  | exact wpAny_pure hQ
  | (cases u <;> first
    | exact wpAny_pure hQ
    | (refine wpAny_bind (wpAny_load ho ?_)
       rw [hc, hd]
       show wpAny M A (if (["enumerate", "zip", "dict_itemiterator", "dict_reverseitemiterator", "odict_iterator", "itertools.zip_longest", "itertools.pairwise"].contains n && vs[0]? == some (rawInt _)) = true then _ else _) Q E s
       rw [if_neg (by intro h; rw [hn, Bool.false_and] at h; cases h)]
       exact wpAny_pure hQ))
noncomputable def Itl (K : PySem.W.Frag) (a : Addr) : It :=
 ⟨fun i H => ∃ xs x, SqL K H a xs /\ xs[i]? = some x, fun i H x H' => H' = H /\ ∀ xs, SqL K H a xs -> xs[i]? = some x, fun i H => ∃ xs, SqL K H a xs /\ xs.length <= i⟩
noncomputable def Itt (K : PySem.W.Frag) (a : Addr) : It :=
 ⟨fun i H => ∃ xs x, SqT K H a xs /\ xs[i]? = some x, fun i H x H' => H' = H /\ ∀ xs, SqT K H a xs -> xs[i]? = some x, fun i H => ∃ xs, SqT K H a xs /\ xs.length <= i⟩
noncomputable def Itr (lo : Int) (n : Nat) : It := ⟨fun i _ => i < n, fun i H x H' => H' = H /\ x = .int (lo + i), fun i _ => n <= i⟩
theorem c4j {P : Program} {w : World} {K : PySem.W.Frag} {tg : Expr} (a it : Addr) : Turn P w K tg (Itl K a) [it] it (fun i h => h.IsListIter it a i) where
 mem := by simp
 obj := fun i h st b hb => by
  have e : b = it := by simpa using hb
  subst e
  obtain ⟨o, e, c, d⟩ := st
  exact ⟨o, e, fun v z => by rw [d] at z; cases z⟩
 keep := fun i h h' st k => st.at fun o e => k it (by simp) o e
 item := by
  intro X hP hw hK hc i pins s σ H E I hf st hg
  subst hP hw hK
  obtain ⟨xs, x, hq, hx⟩ := hg
  obtain ⟨its, rv, p, hz⟩ := I.list hq
  obtain ⟨u, hu, ru⟩ := rv.get hx
  obtain ⟨f0, f1, f2, f3, f4, f5⟩ := hf it (by simp)
  refine wpAny_pyNext_list_item st p.isList (x := u) (by simpa using hu) fun h' st' sb => ?_
  have I1 : Inv X pins σ H { s with heap := h' } := I.turned (t' := s.toks) (fun b o hb e => (sb.2 b hb).trans e) f0 f1 f3 f4 f5
  obtain ⟨o, e, c, d⟩ := id st'
  exact ⟨u, rfl, d1z (s := { s with heap := h' }) e c d (by decide) ⟨x, H, I1, ru, ⟨rfl, fun ys hy => by rw [I.c8i hy hq]; exact hx⟩, st', fun b hb => (hf b hb).1⟩⟩
 done := by
  intro X hP hw hK hc i pins s σ H E I hf st hg
  subst hP hw hK
  obtain ⟨xs, hq, hx⟩ := hg
  obtain ⟨its, rv, p, hz⟩ := I.list hq
  obtain ⟨f0, f1, f2, f3, f4, f5⟩ := hf it (by simp)
  have hl := rv.length
  exact wpAny_pyNext_list_end (I.ok.hd hc) st p.isList (by simp; omega) fun h' eb => ⟨rfl, I.turned (t' := s.toks) (fun b o hb e => eb b o hb e) f0 f1 f3 f4 f5⟩
 self := fun _ _ _ _ _ st h => wpAny_pyIter_listiter st h
theorem c2p {P : Program} {w : World} {K : PySem.W.Frag} {tg : Expr} (it : Addr) (lo : Int) (n : Nat) : Turn P w K tg (Itr lo n) [it] it (fun i h => IsRangeIter h it (lo + (i : Nat) * 1) ((n : Int) - (i : Nat)) 1) where
 mem := by simp
 obj := fun i h st b hb => by
  have e : b = it := by simpa using hb
  subst e
  exact ⟨_, st, fun v z => by
   have z' : Data.fields _ = Data.cell v := z
   cases z'⟩
 keep := fun i h h' st k => k it (by simp) _ st
 item := by
  intro X hP hw hK hc i pins s σ H E I hf st hg
  subst hP hw hK
  obtain ⟨f0, f1, f2, f3, f4, f5⟩ := hf it (by simp)
  have W := Walks.range (prog := X.prog) (w := X.w) (I.ok.hd hc) it lo 1 n
  refine W.item i s _ _ hg st fun v h' tk hv st' kk => ?_
  obtain ⟨t, rfl⟩ := hv
  have I1 : Inv X pins σ H { s with heap := h', toks := tk } := I.turned (fun b o hb e => kk b o (by simpa using hb) e) f0 f1 f3 f4 f5
  refine ⟨_, rfl, d1z (s := { s with heap := h', toks := tk }) (n := "range_iterator") st' rfl rfl (by decide) ⟨.int (lo + i), H, I1, ⟨t, ?_⟩, ⟨rfl, rfl⟩, st', fun b hb => (hf b hb).1⟩⟩
  rw [Int.mul_one]
 done := by
  intro X hP hw hK hc i pins s σ H E I hf st hg
  subst hP hw hK
  obtain ⟨f0, f1, f2, f3, f4, f5⟩ := hf it (by simp)
  exact wpAny_pyNext_range_end (I.ok.hd hc) st (by have : n <= i := hg; omega) fun h' eb => ⟨rfl, I.turned (t' := s.toks) (fun b o hb e => eb b o hb e) f0 f1 f3 f4 f5⟩
 self := fun _ _ _ _ _ st h => wpAny_pyIter_rangeiter st h
end L2
namespace L2
open PySem PySem.Spec PyProof.Rows
section
variable {X : Cx} {tg : Expr}
noncomputable def d5s (K : PySem.W.Frag) (tl : TE) : TI := fun σ H R => tl σ H fun x H1 => ∃ a, x = .ref a /\ (∃ xs, SqL K H1 a xs) /\ R (Itl K a) H1
noncomputable def iTup (K : PySem.W.Frag) (tl : TE) : TI := fun σ H R => tl σ H fun x H1 => ∃ a, x = .ref a /\ (∃ xs, SqT K H1 a xs) /\ R (Itt K a) H1
theorem d2g {l : Expr} {tl : TE} (hl : PE X l tl) : PI X tg l (d5s X.K tl) := by
 intro pins s σ H R I h
 refine thn (hl pins s σ H _ I h) fun v s1 ⟨x, H1, I1, r1, q1⟩ => ?_
 obtain ⟨a, e, ⟨xs, hq⟩, q⟩ := q1
 subst e
 cases r1
 obtain ⟨its, rv, p, hz⟩ := I1.list hq
 refine wpAny_pyIter_list p.isList ?_
 refine ⟨s1.heap.objs.size, [s1.heap.objs.size], _, _, H1, rfl, I1.kept (t' := s1.toks) fun b o e => Heap.get?_push_of_some _ e, c4j a _, ⟨_, Heap.get?_push_size _ rfl, rfl, rfl⟩, fun b hb => ?_, q⟩
 have e : b = s1.heap.objs.size := by simpa using hb
 subst e
 exact I1.d4y (Nat.le_refl _) (I1.hok.fresh (Nat.le_refl _))
theorem c8j {pins : List (Addr × Obj)} {σ : St} {H : Hp} {s : Shared} {R : It -> Hp -> Prop} {E : Value -> Shared -> Prop} {lo hi : Int} {t u v : Tok} {tk : Nat} (I : Inv X pins σ H s) (h1 : -(2 ^ 62) <= lo) (h2 : lo < 2 ^ 62) (h3 : -(2 ^ 62) <= hi) (h4 : hi < 2 ^ 62)
  (q : R (Itr lo (hi - lo).toNat) H) : wpAny (model X.prog X.w) X.A (pyIter (.ref s.heap.objs.size)) (PIE X pins σ tg R) E { s with heap := s.heap.push { cls := .type "range", data := .fields #[.int lo t, .int hi u, .int 1 v] }, toks := tk } := by
 refine wpAny_pyIter_range (IsRange.new ..) (small_one h1 h2 h3 h4) ?_
 have I1 : Inv X pins σ H { s with heap := s.heap.push { cls := .type "range", data := .fields #[.int lo t, .int hi u, .int 1 v] }, toks := tk } := I.kept fun b o e => Heap.get?_push_of_some _ e
 refine ⟨(s.heap.push { cls := .type "range", data := .fields #[.int lo t, .int hi u, .int 1 v] }).objs.size, [(s.heap.push { cls := .type "range", data := .fields #[.int lo t, .int hi u, .int 1 v] }).objs.size], _, _, H, rfl,
  I1.kept (t' := tk) fun b o e => Heap.get?_push_of_some _ e, c2p _ lo (hi - lo).toNat, ?_, fun b hb => ?_, q⟩
 ·have e1 : lo + ((0 : Nat) : Int) * 1 = lo := by simp
  have e2 : (((hi - lo).toNat : Nat) : Int) - ((0 : Nat) : Int) = Builtin.Range.rangeSize lo hi 1 := by rw [rangeSize_one]; split <;> omega
  show IsRangeIter _ _ (lo + ((0 : Nat) : Int) * 1) ((((hi - lo).toNat : Nat) : Int) - ((0 : Nat) : Int)) 1
  rw [e1, e2]
  exact Heap.get?_push_size _ rfl
 ·have e : b = (s.heap.push { cls := .type "range", data := .fields #[.int lo t, .int hi u, .int 1 v] }).objs.size := by simpa using hb
  subst e
  exact I1.d4y (Nat.le_refl _) (I1.hok.fresh (Nat.le_refl _))
noncomputable def d5t (ta : TA) : TI := fun σ H R => ta σ H fun vs H1 => ∃ j : Int, vs = [.int j] /\ -(2 ^ 62) <= j /\ j < 2 ^ 62 /\ R (Itr 0 j.toNat) H1
noncomputable def iRng2 (ta : TA) : TI := fun σ H R => ta σ H fun vs H1 => ∃ i j : Int, vs = [.int i, .int j] /\ (-(2 ^ 62) <= i /\ i < 2 ^ 62 /\ -(2 ^ 62) <= j /\ j < 2 ^ 62) /\ R (Itr i (j - i).toNat) H1
theorem c4k {a : Expr} {ta : TA} {p pos : Pos} (hg : Gl X "range") (hm : X.mg "range" = none) (ha : PA X [a] ta) (hs : starEach [a] X.env = [(false, eval a X.env)] := by rfl) : PI X tg (.Call (.Name "range" p) [a] [] pos) (d5t ta) := by
 intro pins s σ H R I h
 refine Call_ (c1p I hg hm boot_range (PyProof.Rows.callWith_type1 (thn (ha pos pins s σ H _ I h) fun us s1 ⟨vs, H1, I1, r1, q1⟩ => ?_) hs rfl))
 obtain ⟨j, e, q1, q2, q⟩ := q1
 subst e
 cases r1 with
 | cons r rr =>
  cases rr
  obtain ⟨t, rfl⟩ := r
  exact call_range_1 (c8j I1 (by omega) (by omega) q1 q2 (by simpa using q))
noncomputable def tFor (wi : TI) (g : TG) (tb : TS) : TS := fun D σ H => wi σ H fun J H1 => ∃ W : Nat -> Nat -> St -> Hp -> Prop, (∃ m, W 0 m σ H1) /\ ∀ i m σ H, W i m σ H ->
 (J.stop i H /\ D.nx σ H) \/ (J.go i H /\ ∃ N : St -> Hp -> Prop, (∀ σ' H', N σ' H' -> ∃ m', m' < m /\ W (i + 1) m' σ' H') /\ ∀ x H', J.yld i H x H' -> g x σ H' fun σ2 H2 => tb { D with nx := N, ct := N, bk := D.nx } σ2 H2)
noncomputable def b2g (fp : List Addr) (h : Heap) : List (Addr × Obj) := fp.filterMap fun b => (h.get? b).map fun o => (b, o)
theorem a1p {fp : List Addr} {h : Heap} {b : Addr} {o : Obj} (hb : b ∈ fp) (e : h.get? b = some o) : (b, o) ∈ b2g fp h := List.mem_filterMap.mpr ⟨b, hb, by rw [e]; rfl⟩
theorem c4l {fp : List Addr} {h : Heap} {p : Addr × Obj} (hp : p ∈ b2g fp h) : p.1 ∈ fp /\ h.get? p.1 = some p.2 := by
 obtain ⟨b, hb, e⟩ := List.mem_filterMap.mp hp
 cases q : h.get? b with
 | none => rw [q] at e; cases e
 | some o =>
  rw [q] at e
  have e' : (b, o) = p := Option.some.inj e
  subst e'
  exact ⟨hb, q⟩
theorem Inv.pinned {pins : List (Addr × Obj)} {σ : St} {H : Hp} {s : Shared} {fp : List Addr} (I : Inv X pins σ H s) (hf : ∀ b ∈ fp, b5j X pins H b) (ho : ∀ b ∈ fp, ∃ o, s.heap.get? b = some o /\ ∀ v, o.data ≠ .cell v) : Inv X (pins ++ b2g fp s.heap) σ H s :=
 I.c3z fun p hp => (List.mem_append.mp hp).elim (fun z => I.pin p (List.mem_append_right _ z)) fun z => by
  obtain ⟨hb, e⟩ := c4l z
  obtain ⟨f0, f1, f2, _⟩ := hf p.1 hb
  obtain ⟨o, e', d⟩ := ho p.1 hb
  rw [e] at e'; cases e'
  exact ⟨e, f0, f1, f2, d⟩
theorem Inv.a6z {pins pl : List (Addr × Obj)} {σ : St} {H : Hp} {s : Shared} (I : Inv X (pins ++ pl) σ H s) : Inv X pins σ H s := I.c3z fun p hp => I.pin p (List.mem_append_right _ (List.mem_append_left _ hp))
theorem d5u {iter : Expr} {body : List Stmt} {wi : TI} {g : TG} {tb : TS} {pos : Pos} (hp : PassesOwn (model X.prog X.w) X.A X.env X.xe) (hc : X.calm = true) (hi : PI X tg iter wi) (hg : PG X tg g) (hb : PSs X body tb)
  (hs : ∀ x, foldedSetIterable iter X.env x = pure x := by intro _; rfl) : PS X (.For tg iter body [] pos) (tFor wi g tb) := by
 intro pins s σ H D I h
 refine wpAny_For (thn (hi pins s σ H _ I h) fun v s1 h1 => thn h1 fun itv s2 h2 => ?_) hs
 obtain ⟨it, fp, tn, J, H2, e, I2, T, st2, f2, W, ⟨m0, w0⟩, turn⟩ := h2
 subst e
 -- what stays true of the iterator's objects through the loop
 have stat : ∀ {H' : Hp}, (∀ b ∈ fp, H' b = none) -> ∀ b ∈ fp, b5j X pins H' b := fun hn b hb => ⟨hn b hb, (f2 b hb).2⟩
 refine codeAny_forLoop_any (fun n s' => ∃ i σ' H', Inv X pins σ' H' s' /\ tn i s'.heap /\ (∀ b ∈ fp, H' b = none) /\ W i n σ' H') ?_ m0 ⟨0, σ, H2, I2, st2, fun b hb => (f2 b hb).1, w0⟩
 rintro n s3 ⟨i, σ3, H3, I3, st3, fr3, w3⟩
 rcases turn i n σ3 H3 w3 with ⟨stop, qn⟩ | ⟨go, N, hN, step⟩
 ·refine wpAny_passesOwn hp (thn (T.done X rfl rfl rfl hc i pins s3 σ3 H3 X.xe I3 (stat fr3) st3 stop) fun r s4 ⟨hr, I4⟩ => ?_)
  subst hr
  exact wpAny_execs_nil ⟨σ3, H3, I4, qn⟩
 ·refine wpAny_passesOwn hp (thn (T.item X rfl rfl rfl hc i pins s3 σ3 H3 X.xe I3 (stat fr3) st3 go) fun r s4 ⟨u, hr, h4⟩ => ?_)
  subst hr
  refine wpAny_passesOwn hp (thn h4 fun _ s5 ⟨x, H5, I5, r5, y5, st5, fr5⟩ => ?_)
  have I5' := I5.pinned (stat fr5) (T.obj _ _ st5)
  refine wpAny_passesOwn hp (thn (hg _ s5 σ3 H5 x u _ I5' r5 (step x H5 y5)) fun _ s6 ⟨σ6, H6, I6, q6⟩ => ?_)
  refine wpAny_passesOwn hp (thn (hb _ s6 σ6 H6 _ I6 q6) fun f s7 q7 => ?_)
  have again : ∀ {σ7 : St} {H7 : Hp}, Inv X (pins ++ b2g fp s5.heap) σ7 H7 s7 -> N σ7 H7 -> ∃ m, m < n /\ ∃ i σ' H', Inv X pins σ' H' s7 /\ tn i s7.heap /\ (∀ b ∈ fp, H' b = none) /\ W i m σ' H' := fun {σ7 H7} I7 n7 => by
   obtain ⟨m', hm, w7⟩ := hN σ7 H7 n7
   refine ⟨m', hm, i + 1, σ7, H7, I7.a6z, T.keep _ _ _ st5 fun b hb o e => (I7.pin (b, o) (List.mem_append_right _ (List.mem_append_right _ (a1p hb e)))).1, fun b hb => ?_, w7⟩
   obtain ⟨o, e, d⟩ := T.obj _ _ st5 b hb
   exact (I7.pin (b, o) (List.mem_append_right _ (List.mem_append_right _ (a1p hb e)))).2.1
  cases f with
  | next => obtain ⟨σ7, H7, I7, n7⟩ := q7; exact again I7 n7
  | cont => obtain ⟨σ7, H7, I7, n7⟩ := q7; exact again I7 n7
  | brk => obtain ⟨σ7, H7, I7, q7⟩ := q7; exact ⟨σ7, H7, I7.a6z, q7⟩
  | ret v => obtain ⟨x7, σ7, H7, I7, r7, q7⟩ := q7; exact ⟨x7, σ7, H7, I7.a6z, r7, q7⟩
end
theorem c8k {K : PySem.W.Frag} {a : Addr} {xs : List V} {g : TG} {tb : TS} {D : Ends} {σ : St} {H : Hp} (Pv : Nat -> St -> Hp -> Prop) (h0 : Pv 0 σ H) (hl : ∀ i σ H, i <= xs.length -> Pv i σ H -> SqL K H a xs)
  (hs : ∀ i x σ H, xs[i]? = some x -> Pv i σ H -> g x σ H fun σ2 H2 => tb { D with nx := Pv (i + 1), ct := Pv (i + 1), bk := D.nx } σ2 H2) (hd : ∀ σ H, Pv xs.length σ H -> D.nx σ H) :
  ∃ W : Nat -> Nat -> St -> Hp -> Prop, (∃ m, W 0 m σ H) /\ ∀ i m σ H, W i m σ H ->
   ((Itl K a).stop i H /\ D.nx σ H) \/ ((Itl K a).go i H /\ ∃ N : St -> Hp -> Prop, (∀ σ' H', N σ' H' -> ∃ m', m' < m /\ W (i + 1) m' σ' H') /\ ∀ x H', (Itl K a).yld i H x H' -> g x σ H' fun σ2 H2 => tb { D with nx := N, ct := N, bk := D.nx } σ2 H2) := by
 refine ⟨fun i m σ H => m = xs.length - i /\ i <= xs.length /\ Pv i σ H, ⟨xs.length, by simp, Nat.zero_le _, h0⟩, ?_⟩
 rintro i m σ H ⟨rfl, hi, p⟩
 have q := hl i σ H hi p
 by_cases hlt : i < xs.length
 ·refine .inr ⟨⟨xs, xs[i], q, by simp [hlt]⟩, Pv (i + 1), fun σ' H' p' => ⟨xs.length - (i + 1), by omega, rfl, hlt, p'⟩, fun x H' y => ?_⟩
  obtain ⟨e, y⟩ := y
  subst e
  exact hs i x σ _ (y xs q) p
 ·have e : i = xs.length := by omega
  subst e
  exact .inl ⟨⟨xs, q, Nat.le_refl _⟩, hd σ H p⟩
theorem c4m {lo : Int} {n : Nat} {g : TG} {tb : TS} {D : Ends} {σ : St} {H : Hp} (Pv : Nat -> St -> Hp -> Prop) (h0 : Pv 0 σ H)
  (hs : ∀ i σ H, i < n -> Pv i σ H -> g (.int (lo + i)) σ H fun σ2 H2 => tb { D with nx := Pv (i + 1), ct := Pv (i + 1), bk := D.nx } σ2 H2) (hd : ∀ σ H, Pv n σ H -> D.nx σ H) :
  ∃ W : Nat -> Nat -> St -> Hp -> Prop, (∃ m, W 0 m σ H) /\ ∀ i m σ H, W i m σ H ->
   ((Itr lo n).stop i H /\ D.nx σ H) \/ ((Itr lo n).go i H /\ ∃ N : St -> Hp -> Prop, (∀ σ' H', N σ' H' -> ∃ m', m' < m /\ W (i + 1) m' σ' H') /\ ∀ x H', (Itr lo n).yld i H x H' -> g x σ H' fun σ2 H2 => tb { D with nx := N, ct := N, bk := D.nx } σ2 H2) := by
 refine ⟨fun i m σ H => m = n - i /\ i <= n /\ Pv i σ H, ⟨n, by simp, Nat.zero_le _, h0⟩, ?_⟩
 rintro i m σ H ⟨rfl, hi, p⟩
 by_cases hlt : i < n
 ·refine .inr ⟨hlt, Pv (i + 1), fun σ' H' p' => ⟨n - (i + 1), by omega, rfl, hlt, p'⟩, fun x H' y => ?_⟩
  obtain ⟨e, y⟩ := y
  subst e y
  exact hs i σ _ hlt p
 ·have e : i = n := by omega
  subst e
  exact .inl ⟨Nat.le_refl _, hd σ H p⟩
end L2
namespace L2
open PySem PySem.Spec PyProof.Rows
noncomputable abbrev R2 := V -> V -> Hp -> VK -> Prop
noncomputable def OpR (X : Cx) (f : Value -> Value -> Sem Value) (r : R2) : Prop :=
 ∀ (pins : List (Addr × Obj)) (s : Shared) (σ : St) (H : Hp) (x y : V) (v u : Value) (Q : VK), Inv X pins σ H s -> RelV x v -> RelV y u -> r x y H Q ->
  wpAny (model X.prog X.w) X.A (f v u) (EP X pins σ Q) X.xe s
noncomputable def UnR (X : Cx) (f : Value -> Sem Value) (r : V -> Hp -> VK -> Prop) : Prop :=
 ∀ (pins : List (Addr × Obj)) (s : Shared) (σ : St) (H : Hp) (x : V) (v : Value) (Q : VK), Inv X pins σ H s -> RelV x v -> r x H Q ->
  wpAny (model X.prog X.w) X.A (f v) (EP X pins σ Q) X.xe s
noncomputable def a9i (X : Cx) (f : Value) (r : List V -> Hp -> VK -> Prop) : Prop :=
 ∀ (pins : List (Addr × Obj)) (s : Shared) (σ : St) (H : Hp) (xs : List V) (us : List Value) (Q : VK), Inv X pins σ H s -> Vals xs us -> r xs H Q ->
  wpAny (model X.prog X.w) X.A (call f us) (EP X pins σ Q) X.xe s
noncomputable def TruR (X : Cx) (r : V -> Hp -> (Bool -> Hp -> Prop) -> Prop) : Prop :=
 ∀ (pins : List (Addr × Obj)) (s : Shared) (σ : St) (H : Hp) (x : V) (v : Value) (Q : Bool -> Hp -> Prop), Inv X pins σ H s -> RelV x v -> r x H Q ->
  wpAny (model X.prog X.w) X.A (truthy v) (TP X pins σ Q) X.xe s
noncomputable def tOp (r : R2) (ta tb : TE) : TE := fun σ H Q => ta σ H fun x H1 => tb σ H1 fun y H2 => r x y H2 Q
noncomputable def tUn (r : V -> Hp -> VK -> Prop) (ta : TE) : TE := fun σ H Q => ta σ H fun x H1 => r x H1 Q
noncomputable def rI (C : Int -> Int -> Prop) (g : Int -> Int -> V) : R2 := fun x y H Q => ∃ i j, x = .int i /\ y = .int j /\ C i j /\ Q (g i j) H
noncomputable def rI0 (g : Int -> Int -> V) : R2 := fun x y H Q => ∃ i j, x = .int i /\ y = .int j /\ Q (g i j) H
noncomputable def rU (g : Int -> V) : V -> Hp -> VK -> Prop := fun x H Q => ∃ i, x = .int i /\ Q (g i) H
section
variable {X : Cx} {a b c : Expr} {ta tb tc : TE} {pos : Pos}
theorem f1w (ha : PE X a ta) (hb : PE X b tb) {pins : List (Addr × Obj)} {s : Shared} {σ : St} {H : Hp} {R : V -> V -> Hp -> Prop} (I : Inv X pins σ H s)
  (h : ta σ H fun x H1 => tb σ H1 fun y H2 => R x y H2) {Q : Value -> Shared -> Prop} {f : Value -> Value -> Sem Value}
  (hf : ∀ v u s2 x y H2, Inv X pins σ H2 s2 -> RelV x v -> RelV y u -> R x y H2 -> wpAny (model X.prog X.w) X.A (f v u) Q X.xe s2) :
  wpAny (model X.prog X.w) X.A (eval a X.env) (fun v s₁ => wpAny (model X.prog X.w) X.A (eval b X.env) (fun u s₂ => wpAny (model X.prog X.w) X.A (f v u) Q X.xe s₂) X.xe s₁) X.xe s := by
 refine thn (ha pins s σ H _ I h) fun v s1 ⟨x, H1, I1, r1, q1⟩ => ?_
 refine thn (hb pins s1 σ H1 _ I1 q1) fun u s2 ⟨y, H2, I2, r2, q2⟩ => ?_
 exact hf v u s2 x y H2 I2 r1 r2 q2
theorem a3i {op : Operator} {r : R2} (ho : OpR X (binaryOp op) r) (ha : PE X a ta) (hb : PE X b tb) : PE X (.BinOp a op b pos) (tOp r ta tb) := by
 intro pins s σ H Q I h
 exact wpAny_BinOp (f1w ha hb I h fun v u s2 x y H2 I2 rx ry q => ho pins s2 σ H2 x y v u Q I2 rx ry q)
theorem f1y {op : UnaryOp} {r : V -> Hp -> VK -> Prop} (ho : UnR X (unaryOp op) r) (ha : PE X a ta) : PE X (.UnaryOp op a pos) (tUn r ta) := by
 intro pins s σ H Q I h
 exact UnaryOp_ (thn (ha pins s σ H _ I h) fun v s1 ⟨x, H1, I1, r1, q1⟩ => ho pins s1 σ H1 x v Q I1 r1 q1)
theorem opI {f : Value -> Value -> Sem Value} {C : Int -> Int -> Prop} {g : Int -> Int -> Int}
  (rule : ∀ (i j : Int) (t u : Tok) (s : Shared) (Q : Value -> Shared -> Prop) (E : Value -> Shared -> Prop), C i j -> Q (.int (g i j) s.toks) { s with toks := s.toks + 1 } -> wpAny (model X.prog X.w) X.A (f (.int i t) (.int j u)) Q E s) :
  OpR X f (rI C fun i j => .int (g i j)) := by
 intro pins s σ H x y v u Q I rx ry h
 obtain ⟨i, j, rfl, rfl, hc, q⟩ := h
 obtain ⟨t, rfl⟩ := rx
 obtain ⟨t', rfl⟩ := ry
 exact rule i j t t' s _ _ hc ⟨.int (g i j), H, I.tok _, ⟨_, rfl⟩, q⟩
theorem opI0 {f : Value -> Value -> Sem Value} {g : Int -> Int -> Int}
  (rule : ∀ (i j : Int) (t u : Tok) (s : Shared) (Q : Value -> Shared -> Prop) (E : Value -> Shared -> Prop), Q (.int (g i j) s.toks) { s with toks := s.toks + 1 } -> wpAny (model X.prog X.w) X.A (f (.int i t) (.int j u)) Q E s) :
  OpR X f (rI0 fun i j => .int (g i j)) := by
 intro pins s σ H x y v u Q I rx ry h
 obtain ⟨i, j, rfl, rfl, q⟩ := h
 obtain ⟨t, rfl⟩ := rx
 obtain ⟨t', rfl⟩ := ry
 exact rule i j t t' s _ _ ⟨.int (g i j), H, I.tok _, ⟨_, rfl⟩, q⟩
theorem f1z {f : Value -> Value -> Sem Value} {g : Int -> Int -> Bool}
  (rule : ∀ (i j : Int) (t u : Tok) (s : Shared) (Q : Value -> Shared -> Prop) (E : Value -> Shared -> Prop), Q (.bool (g i j)) s -> wpAny (model X.prog X.w) X.A (f (.int i t) (.int j u)) Q E s) :
  OpR X f (rI0 fun i j => .bl (g i j)) := by
 intro pins s σ H x y v u Q I rx ry h
 obtain ⟨i, j, rfl, rfl, q⟩ := h
 obtain ⟨t, rfl⟩ := rx
 obtain ⟨t', rfl⟩ := ry
 exact rule i j t t' s _ _ ⟨.bl (g i j), H, I, rfl, q⟩
noncomputable def CDiv (i j : Int) : Prop := 0 < j /\ j < 1073741824
noncomputable def CDivN (i j : Int) : Prop := j ≠ 0 /\ j.natAbs < 1073741824
noncomputable def f2g (i j : Int) : Prop := 0 <= j /\ j <= 1000000 /\ i.natAbs < 2 ^ 64
noncomputable def f4v (i j : Int) : Prop := (-(2 ^ 64) < i /\ i < 2 ^ 64) \/ (-(2 ^ 64) < j /\ j < 2 ^ 64)
theorem f4v.ok {i j : Int} (h : f4v i j) : IntMulOk i j := by
 rcases h with ⟨h1, h2⟩ | ⟨h1, h2⟩
 ·exact .of_left (intBits_le_64 h1 h2)
 ·exact .of_right (intBits_le_64 h1 h2)
theorem d5v : OpR X (binaryOp .Add) (rI0 fun i j => .int (i + j)) := opI0 fun _ _ _ _ _ _ _ q => add_int q
theorem d2h : OpR X (binaryOp .Mod) (rI (fun _ j => j ≠ 0) fun i j => .int (i.fmod j)) := opI fun _ _ _ _ _ _ _ hc q => mod_int' hc q
theorem d5w : OpR X (binaryOp .Pow) (rI f2g fun i j => .int (i ^ j.toNat)) := opI fun _ _ _ _ _ _ _ hc q => pow_int_small hc.1 hc.2.1 hc.2.2 q
theorem unI {f : Value -> Sem Value} {g : Int -> Int}
  (rule : ∀ (i : Int) (t : Tok) (s : Shared) (Q : Value -> Shared -> Prop) (E : Value -> Shared -> Prop), Q (.int (g i) s.toks) { s with toks := s.toks + 1 } -> wpAny (model X.prog X.w) X.A (f (.int i t)) Q E s) :
  UnR X f (rU fun i => .int (g i)) := by
 intro pins s σ H x v Q I rx h
 obtain ⟨i, rfl, q⟩ := h
 obtain ⟨t, rfl⟩ := rx
 exact rule i t s _ _ ⟨.int (g i), H, I.tok _, ⟨_, rfl⟩, q⟩
theorem d5y : UnR X (unaryOp .USub) (rU fun i => .int (-i)) := unI fun _ _ _ _ _ q => neg_int q
end
noncomputable def c4n : V -> V -> Bool
 | .non, .non => true | .non, .int _ => true | .int _, .non => true | .non, .bl _ => true | .bl _, .non => true | .non, .str _ => true | .str _, .non => true
 | .int _, .int _ => true | .bl _, .bl _ => true | .str _, .str _ => true | .byt _, .byt _ => true
 | .int _, .str _ => true | .str _, .int _ => true | .bl _, .str _ => true | .str _, .bl _ => true
 | _, _ => false
noncomputable def rEq : R2 := fun x y H Q => c4n x y = true /\ Q (.bl (decide (x = y))) H
noncomputable def rNe : R2 := fun x y H Q => c4n x y = true /\ Q (.bl (!decide (x = y))) H
theorem c4o {i j : Int} : decide (V.int i = V.int j) = (i == j) := by
 rw [Bool.eq_iff_iff]
 simp
theorem d0k {i j : Bool} : decide (V.bl i = V.bl j) = (i == j) := by
 rw [Bool.eq_iff_iff]
 simp
theorem c4p {i j : Str} : decide (V.str i = V.str j) = (i == j) := by
 rw [Bool.eq_iff_iff]
 simp
theorem c4q {i j : Array UInt8} : decide (V.byt i = V.byt j) = (i.toList == j.toList) := by
 rw [Bool.eq_iff_iff]
 cases i
 cases j
 simp
section
variable {X : Cx} {a b c : Expr} {ta tb tc : TE} {pos : Pos}
theorem a1m {pins : List (Addr × Obj)} {σ : St} {H : Hp} {s : Shared} {Q : VK} {k k' : Bool} (I : Inv X pins σ H s) (q : Q (.bl k) H) (e : k = k') : EP X pins σ Q (.bool k') s := by
 subst e
 exact ⟨.bl k, H, I, rfl, q⟩
theorem f2h : OpR X (compareOp .Eq) rEq := by
 intro pins s σ H x y v u Q I rx ry h
 obtain ⟨hs, q⟩ := h
 cases x with
 | non =>
  cases rx
  cases y with
  | non => cases ry; exact PySem.EqNone.eq_none_none (a1m I q (by simp))
  | bl j => cases ry; exact PySem.EqNone.eq_none_bool (a1m I q (by simp))
  | int j => obtain ⟨t', rfl⟩ := ry; exact PySem.EqNone.eq_none_int (a1m I q (by simp))
  | str j => obtain ⟨t', rfl⟩ := ry; exact PySem.EqNone.eq_none_str (a1m I q (by simp))
  | _ => exact absurd (show false = true from hs) Bool.false_ne_true
 | bl i =>
  cases rx
  cases y with
  | non => cases ry; exact PySem.EqNone.eq_bool_none (a1m I q (by simp))
  | bl j => cases ry; exact eq_bool (a1m I q d0k)
  | str j => obtain ⟨t', rfl⟩ := ry; exact PySem.EqMixed.eq_bool_str (a1m I q (by simp))
  | _ => exact absurd (show false = true from hs) Bool.false_ne_true
 | int i =>
  obtain ⟨t, rfl⟩ := rx
  cases y with
  | non => cases ry; exact PySem.EqNone.eq_int_none (a1m I q (by simp))
  | int j => obtain ⟨t', rfl⟩ := ry; exact eq_int (a1m I q c4o)
  | str j => obtain ⟨t', rfl⟩ := ry; exact PySem.EqMixed.eq_int_str (a1m I q (by simp))
  | _ => exact absurd (show false = true from hs) Bool.false_ne_true
 | str i =>
  obtain ⟨t, rfl⟩ := rx
  cases y with
  | non => cases ry; exact PySem.EqNone.eq_str_none (a1m I q (by simp))
  | bl j => cases ry; exact PySem.EqMixed.eq_str_bool (a1m I q (by simp))
  | int j => obtain ⟨t', rfl⟩ := ry; exact PySem.EqMixed.eq_str_int (a1m I q (by simp))
  | str j => obtain ⟨t', rfl⟩ := ry; exact eq_str (a1m I q c4p)
  | _ => exact absurd (show false = true from hs) Bool.false_ne_true
 | byt i =>
  obtain ⟨t, rfl⟩ := rx
  cases y with
  | byt j => obtain ⟨t', rfl⟩ := ry; exact PySem.W.eq_bytes (a1m I q c4q)
  | _ => exact absurd (show false = true from hs) Bool.false_ne_true
 | _ => cases y <;> exact absurd (show false = true from hs) Bool.false_ne_true
theorem f2i : OpR X (compareOp .NotEq) rNe := by
 intro pins s σ H x y v u Q I rx ry h
 obtain ⟨hs, q⟩ := h
 cases x with
 | non =>
  cases rx
  cases y with
  | non => cases ry; exact PySem.EqNone.ne_none_none (a1m I q (by simp))
  | bl j => cases ry; exact PySem.EqNone.ne_none_bool (a1m I q (by simp))
  | int j => obtain ⟨t', rfl⟩ := ry; exact PySem.EqNone.ne_none_int (a1m I q (by simp))
  | str j => obtain ⟨t', rfl⟩ := ry; exact PySem.EqNone.ne_none_str (a1m I q (by simp))
  | _ => exact absurd (show false = true from hs) Bool.false_ne_true
 | bl i =>
  cases rx
  cases y with
  | non => cases ry; exact PySem.EqNone.ne_bool_none (a1m I q (by simp))
  | bl j => cases ry; exact ne_bool (a1m I q (congrArg not d0k))
  | str j => obtain ⟨t', rfl⟩ := ry; exact PySem.EqMixed.ne_bool_str (a1m I q (by simp))
  | _ => exact absurd (show false = true from hs) Bool.false_ne_true
 | int i =>
  obtain ⟨t, rfl⟩ := rx
  cases y with
  | non => cases ry; exact PySem.EqNone.ne_int_none (a1m I q (by simp))
  | int j => obtain ⟨t', rfl⟩ := ry; exact ne_int (a1m I q (congrArg not c4o))
  | str j => obtain ⟨t', rfl⟩ := ry; exact PySem.EqMixed.ne_int_str (a1m I q (by simp))
  | _ => exact absurd (show false = true from hs) Bool.false_ne_true
 | str i =>
  obtain ⟨t, rfl⟩ := rx
  cases y with
  | non => cases ry; exact PySem.EqNone.ne_str_none (a1m I q (by simp))
  | bl j => cases ry; exact PySem.EqMixed.ne_str_bool (a1m I q (by simp))
  | int j => obtain ⟨t', rfl⟩ := ry; exact PySem.EqMixed.ne_str_int (a1m I q (by simp))
  | str j => obtain ⟨t', rfl⟩ := ry; exact ne_str (a1m I q (congrArg not c4p))
  | _ => exact absurd (show false = true from hs) Bool.false_ne_true
 | byt i =>
  obtain ⟨t, rfl⟩ := rx
  cases y with
  | byt j => obtain ⟨t', rfl⟩ := ry; exact PySem.W.ne_bytes (a1m I q (congrArg not c4q))
  | _ => exact absurd (show false = true from hs) Bool.false_ne_true
 | _ => cases y <;> exact absurd (show false = true from hs) Bool.false_ne_true
theorem f2j : OpR X (compareOp .Lt) (rI0 fun i j => .bl (decide (i < j))) := f1z fun _ _ _ _ _ _ _ q => lt_int q
theorem f2k : OpR X (compareOp .LtE) (rI0 fun i j => .bl (decide (i <= j))) := f1z fun _ _ _ _ _ _ _ q => le_int q
theorem f2l : OpR X (compareOp .Gt) (rI0 fun i j => .bl (decide (j < i))) := f1z fun _ _ _ _ _ _ _ q => gt_int q
theorem c4r : OpR X (compareOp .In) (fun x y H Q => ∃ i j, x = .str i /\ y = .str j /\ Q (.bl (!(Builtin.Str.occurrences j i 0 j.length 1).isEmpty)) H) := by
 intro pins s σ H x y v u Q I rx ry h
 obtain ⟨i, j, rfl, rfl, q⟩ := h
 obtain ⟨t, rfl⟩ := rx
 obtain ⟨t', rfl⟩ := ry
 exact in_str (a1m I q rfl)
noncomputable def isObj : HO -> Bool
 | .lst _ => true
 | .ins _ _ _ => true
 | _ => false
theorem OpR.or {f : Value -> Value -> Sem Value} {r r' : R2} (h : OpR X f r) (h' : OpR X f r') : OpR X f (fun x y H Q => r x y H Q \/ r' x y H Q) := by
 intro pins s σ H x y v u Q I rx ry q
 rcases q with q | q
 ·exact h pins s σ H x y v u Q I rx ry q
 ·exact h' pins s σ H x y v u Q I rx ry q
theorem a4h (b : Expr) {op : CmpOp} (h : op ≠ .In := by decide) (h2 : op ≠ .NotIn := by decide) : behindInMarks op b = false := by
 have e1 : (op == CmpOp.In) = false := by cases op <;> first | rfl | exact absurd rfl h
 have e2 : (op == CmpOp.NotIn) = false := by cases op <;> first | rfl | exact absurd rfl h2
 cases b <;> simp [behindInMarks, e1, e2]
theorem b9z {op : CmpOp} {r : R2} (ho : OpR X (compareOp op) r) (ha : PE X a ta) (hb : PE X b tb) (hm : behindInMarks op b = false) : PE X (.Compare a [op] [b] pos) (tOp r ta tb) := by
 intro pins s σ H Q I h
 exact wpAny_Compare1 (f1w ha hb I h fun v u s2 x y H2 I2 rx ry q => ho pins s2 σ H2 x y v u Q I2 rx ry q) hm
noncomputable def d5z (t : TE) : TT := fun σ H Q => t σ H fun x H' => ∃ k, x = .bl k /\ Q k H'
theorem d2i {op : CmpOp} {r : R2} (ho : OpR X (compareOp op) r) (ha : PE X a ta) (hb : PE X b tb) (hm : behindInMarks op b = false) : PT X (.Compare a [op] [b] pos) (d5z (tOp r ta tb)) := by
 intro pins s σ H Q I h
 refine wpAny_isTrue_Compare1 (thn (ha pins s σ H _ I h) fun v s1 ⟨x, H1, I1, r1, q1⟩ => thn (hb pins s1 σ H1 _ I1 q1) fun u s2 ⟨y, H2, I2, r2, q2⟩ =>
  thn (ho pins s2 σ H2 x y v u _ I2 r1 r2 q2) fun c s3 ⟨z, H3, I3, r3, k, e, q3⟩ => ?_) hm
 subst e
 cases r3
 exact wpAny_truthy_bool ⟨H3, I3, q3⟩
noncomputable def f4w (r r' : R2) (ta tb tc : TE) : TE := fun σ H Q => ta σ H fun x H1 => tb σ H1 fun y H2 => r x y H2 fun z H3 => ∃ k, z = .bl k /\
 (if k = true then tc σ H3 fun w' H4 => r' y w' H4 Q else Q (.bl false) H3)
noncomputable def TruV (K : PySem.W.Frag) (x : V) (H : Hp) (k : Bool) : Prop :=
 match x with
 | .non => k = false
 | .bl b => k = b
 | .int i => k = (i != 0)
 | .str y => y.length <= sizeLine /\ k = ((y.length : Int) != 0)
 | .byt y => y.size <= sizeLine /\ k = ((y.size : Int) != 0)
 | .ref p => (∃ xs, SqL K H p xs /\ k = !xs.isEmpty) \/ (∃ xs, SqT K H p xs /\ k = !xs.isEmpty) \/ ∃ kvs, H p = some (.dK kvs) /\ k = !kvs.isEmpty
 | _ => False
theorem b7p : (sizeLine : Nat) < 2 ^ 63 := by rw [sizeLine_eq]; decide
theorem c2q : OpR X (binaryOp .Add) (fun x y H Q => ∃ i j, x = .str i /\ y = .str j /\ i.length + j.length <= sizeLine /\ Q (.str (i ++ j)) H) := by
 intro pins s σ H x y v u Q I rx ry h
 obtain ⟨i, j, rfl, rfl, hz, q⟩ := h
 obtain ⟨t, rfl⟩ := rx
 obtain ⟨t', rfl⟩ := ry
 exact add_str (fun t' tk => ⟨.str (i ++ j), H, I.tok _, ⟨_, rfl⟩, q⟩) hz
noncomputable def f0w (b : Expr) : Prop := ∀ o i, subscripted b false o i = operate [o, i] (getItem o i)
theorem vals1 {x : V} {us : List Value} (r : Vals [x] us) : ∃ u, us = [u] /\ RelV x u := by
 cases r with
 | cons r1 r2 => cases r2; exact ⟨_, rfl, r1⟩
theorem vals2 {x y : V} {us : List Value} (r : Vals [x, y] us) : ∃ u w', us = [u, w'] /\ RelV x u /\ RelV y w' := by
 cases r with
 | cons r1 r2 =>
  cases r2 with
  | cons r3 r4 => cases r4; exact ⟨_, _, rfl, r1, r3⟩
theorem b7q : a9i X (.type "int") (fun xs H Q => (∃ i, xs = [.int i] ∧ Q (.int i) H) ∨ ∃ k, xs = [.bl k] ∧ Q (.int (if k then 1 else 0)) H) := by
 intro pins s σ H xs us Q I r h
 rcases h with ⟨i, rfl, q⟩ | ⟨k, rfl, q⟩
 ·obtain ⟨u, rfl, t, rfl⟩ := vals1 r
  exact call_int_int ⟨.int i, H, I, ⟨_, rfl⟩, q⟩
 ·obtain ⟨u, rfl, r1⟩ := vals1 r
  cases r1
  exact call_int_bool ⟨.int (if k then 1 else 0), H, I.tok _, ⟨_, rfl⟩, q⟩
noncomputable def LenV (K : PySem.W.Frag) (x : V) (H : Hp) (n : Nat) : Prop :=
 match x with
 | .str y => y.length <= sizeLine /\ n = y.length
 | .byt y => y.size <= sizeLine /\ n = y.size
 | .ref p => (∃ xs, SqL K H p xs /\ n = xs.length) \/ ∃ xs, SqT K H p xs /\ n = xs.length
 | _ => False
end
end L2
namespace L2
open PySem PySem.Spec PyProof.Rows
structure d2j (h : Heap) (x dx C : Addr) (mA : Str -> Option Value) : Prop where
 obj : h.get? x = some (PySem.W.instObj C dx)
 ns : h.Ns1 dx mA
 ne : dx ≠ x
theorem c4s {h : Heap} {dx : Addr} {mA : Str -> Option Value} (n : h.Ns1 dx mA) : ∃ od, h.get? dx = some od /\ ∀ name, PySem.W.lookIn name od = some (mA name) := by
 obtain ⟨o, es, ep, ho, hd, hk, _, hm⟩ := n
 refine ⟨o, ho, fun name => ?_⟩
 have e := hm name
 unfold nsFind findBy at e
 rw [<- Array.find?_toList] at e
 unfold PySem.W.lookIn
 rw [hd]
 dsimp only
 split
 ·rename_i y q
  rw [q] at e
  exact congrArg some e
 ·rename_i q
  rw [q] at e
  have a : es.toList.any (·.refKey) = false := by
   rw [List.any_eq_false]
   intro y hy
   obtain ⟨z, t, hkey⟩ := hk y (Array.mem_toList_iff.mp hy)
   simp [DictEntry.refKey, hkey]
  have a' : ¬ es.toList.any (·.refKey) = true := by rw [a]; exact Bool.false_ne_true
  rw [if_neg a']
  exact congrArg some e
theorem d2j.look {h : Heap} {x dx C : Addr} {mA : Str -> Option Value} (I : d2j h x dx C mA) : ∃ od, PySem.W.InstAt h x (PySem.W.instObj C dx) C (some od) /\ ∀ name, PySem.W.lookIn name od = some (mA name) :=
 let ⟨od, ho, hl⟩ := c4s I.ns
 ⟨od, ⟨I.obj, rfl, rfl, ho⟩, hl⟩
section
variable {prog : Program} {w : World} {A : Around} {E : Value -> Shared -> Prop} {s : Shared} {K : PySem.W.Frag} {x dx C f : Addr} {mA : Str -> Option Value} {name : Str} {v : Value}
theorem get_map {expr : Bool} {Q : Value -> Shared -> Prop} (X : K.In s.heap) (I : d2j s.heap x dx C mA) (hg : PySem.W.plainGet K C name = true) (hh : PySem.W.hasDictIn K C = true)
  (ha : PySem.W.findIn K (.ref C) name = some none) (hv : mA name = some v) (hv' : PySem.W.handedIn v = true) (h : Q v { s with toks := s.toks + 1 }) :
  wpAny (model prog w) A (getAttr (.ref x) name expr) Q E s := by
 obtain ⟨od, J, hl⟩ := I.look
 exact PySem.W.get_value X J (PySem.W.plainGet_of hg).1 (PySem.W.findObj_own hh ha rfl (by rw [hl, hv])) hv' h
theorem c8l {pl : Sem Bool} {Q : Value × List Value -> Shared -> Prop} (X : K.In s.heap) (I : d2j s.heap x dx C mA) (hg : PySem.W.plainGet K C name = true)
  (hf : PySem.W.findIn K (.ref C) name = some (some (.ref f))) (ht : PySem.W.isFn K (.ref f) = true) (hv : mA name = none) (h : Q (.ref f, [.ref x]) s) :
  wpAny (model prog w) A (getMethod (.ref x) name pl) Q E s := by
 obtain ⟨od, J, hl⟩ := I.look
 exact PySem.W.method_fn X J (PySem.W.plainGet_of hg).1 (PySem.W.plainGet_of hg).2 hf (beq_iff_eq.mp ht) (by show (PySem.W.lookIn name od).map (·.isSome) = some false; rw [hl, hv]; rfl) h
theorem d2k {ns : List Str} {Q : Unit -> Shared -> Prop} (X : K.In s.heap) (I : d2j s.heap x dx C mA)
  (hs : PySem.W.findIn K (.ref C) "__setattr__" = some (some (.builtin "object.__setattr__"))) (hp : PySem.W.plainOver K C = true) (ht : PySem.W.takerIn K C name = some none) (hh : PySem.W.hasDictIn K C = true)
  (hw : PySem.Within mA ns) (hsz : ns.length <= sizeLine)
  (h : ∀ h', d2j h' x dx C (fun y => if y = name then some v else mA y) -> Heap.SameBut dx s.heap h' -> Q () { s with heap := h', toks := s.toks + 2 }) :
  wpAny (model prog w) A (setAttr (.ref x) name v) Q E s := by
 obtain ⟨od, J, hl⟩ := I.look
 refine PySem.W.set_plain X J hs (PySem.W.osa_open (s := { s with toks := s.toks + 1 }) (r := none) X J hp ht fun b => ?_)
 obtain ⟨cd, hc, hd'⟩ := PySem.W.any_some hh
 have hx : s.heap.get? x = some ⟨.ref C, some dx, .plain, #[]⟩ := I.obj
 refine wpAny_bind (wpAny_pure (wpAny_bind (wpAny_bind (wpAny_loadPart hx (wpAny_bind (PySem.W.Looks.here (s := { s with toks := s.toks + 1 }) (PySem.W.looks_clsIn X hc) ?_))))))
 rw [hd']
 refine wpAny_pure (a := some dx) (wpAny_bind (wpAny_pure (wpAny_bind ?_)))
 refine wpAny_nsSet1 (s := { s with toks := s.toks + 1 }) I.ns fun h' hn2 hs2 => ?_
 obtain ⟨oD, esD, epD, hoD, hdD, hcD⟩ := hn2.count (PySem.Within.cons name v hw)
 refine wpAny_bind (wpAny_lookBehind hoD (by rw [hdD]; exact pastItsLine_dict (Nat.le_trans hcD (by rw [List.length_cons]; omega))) ?_)
 exact wpAny_pure (h _ ⟨(hs2.2 _ (Ne.symm I.ne)).trans I.obj, hn2, I.ne⟩ hs2)
theorem c8m {R : Result -> Shared -> Prop} {vs : List Value} {kw : List (Str × Value)} (X : K.In s.heap) (hm : PySem.W.makesIn K C = true)
  (hi : PySem.W.findIn K (.ref C) "__init__" = some (some (.ref f))) (hf : PySem.W.typeIn K (.ref f) = some (.type "function"))
  (h : codeAny (model prog w) (A.under (.builtin "type.__call__" ⟨.ref C :: vs, kw⟩)) (.call (.ref f) ⟨.ref (s.heap.objs.size + 1) :: vs, kw⟩) (PySem.W.InitBack (s.heap.objs.size + 1) R)
   { s with heap := (s.heap.push PySem.W.emptyDict).push (PySem.W.instObj C s.heap.objs.size) }) :
  codeAny (model prog w) A (.call (.ref C) ⟨vs, kw⟩) R s := by
 obtain ⟨hh, g, d, t, os⟩ := s
 exact PySem.W.make_core (PySem.W.makes_of X hm) (PySem.W.looks_findIn X hi) (fun self => PySem.W.bind_fn X self hf) (.inl rfl) h
end
noncomputable def b3q (f : Str) (v : V) : List (Str × V) -> List (Str × V)
 | [] => [(f, v)]
 | (g, x) :: r => if g = f then (g, v) :: r else (g, x) :: b3q f v r
theorem b4g (f g : Str) (v : V) : ∀ fs : List (Str × V), (b3q f v fs).lookup g = if g = f then some v else fs.lookup g
 | [] => by
  show List.lookup g [(f, v)] = _
  by_cases h : g = f
  ·have hb : (g == f) = true := beq_iff_eq.mpr h
   simp only [List.lookup, hb, if_pos h]
  ·have hb : (g == f) = false := beq_eq_false_iff_ne.mpr h
   simp only [List.lookup, hb, if_neg h]
 | (k, x) :: r => by
  have ih := b4g f g v r
  rw [show b3q f v ((k, x) :: r) = (if k = f then (k, v) :: r else (k, x) :: b3q f v r) from rfl]
  by_cases hk : k = f
  ·rw [if_pos hk]
   by_cases h : g = k
   ·have hb : (g == k) = true := beq_iff_eq.mpr h
    simp only [List.lookup, hb, if_pos (h.trans hk)]
   ·have hb : (g == k) = false := beq_eq_false_iff_ne.mpr h
    simp only [List.lookup, hb, if_neg (fun e : g = f => h (e.trans hk.symm))]
  ·rw [if_neg hk]
   by_cases h : g = k
   ·have hb : (g == k) = true := beq_iff_eq.mpr h
    simp only [List.lookup, hb, if_neg (fun e : g = f => hk (h.symm.trans e))]
   ·have hb : (g == k) = false := beq_eq_false_iff_ne.mpr h
    simp only [List.lookup, hb]
    exact ih
theorem b4h (f : Str) (v : V) : ∀ fs : List (Str × V), f ∈ (b3q f v fs).map (·.1) /\ ∀ g, g ∈ fs.map (·.1) -> g ∈ (b3q f v fs).map (·.1)
 | [] => ⟨by simp [b3q], fun g h => by simp at h⟩
 | (k, x) :: r => by
  obtain ⟨i1, i2⟩ := b4h f v r
  rw [show b3q f v ((k, x) :: r) = (if k = f then (k, v) :: r else (k, x) :: b3q f v r) from rfl]
  by_cases hk : k = f
  ·rw [if_pos hk]
   subst hk
   exact ⟨by simp, fun g h => by simpa using h⟩
  ·rw [if_neg hk]
   refine ⟨?_, fun g h => ?_⟩
   ·rw [List.map_cons]
    exact List.mem_cons_of_mem _ i1
   ·rw [List.map_cons] at h ⊢
    rcases List.mem_cons.mp h with e | e
    ·exact List.mem_cons.mpr (.inl e)
    ·exact List.mem_cons_of_mem _ (i2 g e)
theorem b4i (f : Str) (v : V) : ∀ fs : List (Str × V), (b3q f v fs).length <= fs.length + 1
 | [] => by simp [b3q]
 | (k, x) :: r => by
  have ih := b4i f v r
  rw [show b3q f v ((k, x) :: r) = (if k = f then (k, v) :: r else (k, x) :: b3q f v r) from rfl]
  by_cases hk : k = f
  ·rw [if_pos hk, List.length_cons, List.length_cons]; omega
  ·rw [if_neg hk, List.length_cons, List.length_cons]; omega
theorem b7m.some_of {v : V} {o : Option Value} (r : b7m (some v) o) : ∃ u, o = some u /\ RelV v u := by
 cases o with
 | none => exact (show False from r).elim
 | some u => exact ⟨u, rfl, r⟩
theorem b7m.none_of {o : Option Value} (r : b7m none o) : o = none := by
 cases o with
 | none => rfl
 | some u => exact (show False from r).elim
theorem c4t {v : V} {u : Value} (r : RelV v u) : PySem.W.handedIn u = true := by
 cases v with
 | non => cases (show u = Value.none from r); rfl
 | bl b => cases (show u = Value.bool b from r); rfl
 | int i => obtain ⟨t, e⟩ := (show ∃ t, u = Value.int i t from r); cases e; rfl
 | str x => obtain ⟨t, e⟩ := (show ∃ t, u = Value.str x t from r); cases e; rfl
 | byt b => obtain ⟨t, e⟩ := (show ∃ t, u = Value.bytes b t from r); cases e; rfl
 | flt b => obtain ⟨t, e⟩ := (show ∃ t, u = Value.float b t from r); cases e; rfl
 | ref a => cases (show u = Value.ref a from r); rfl
 | ty n => cases (show u = Value.type n from r); rfl
section
variable {P : Program} {w : World} {H H' : Hp} {h h' : Heap} {a C dx : Addr} {fs fs' : List (Str × V)}
theorem b6j (hok : HOk P w H h) (e : H a = some (.ins C dx fs)) : ∃ mA, d2j h a dx C mA /\ (∀ f, b7m (fs.lookup f) (mA f)) /\ PySem.Within mA (fs.map (·.1)) /\ fs.length <= 1000 /\ H dx = some (.own a) := by
 obtain ⟨d, z, ne, ob, mA, n, r, q⟩ := (show a4v P w H h a (.ins C dx fs) from hok a _ e)
 exact ⟨mA, ⟨ob, n, ne⟩, r, q, z, d⟩
end
structure Cls (K : PySem.W.Frag) (C : Addr) : Prop where
 pg : PySem.W.plainGet K C Str.empty = true
 hd : PySem.W.hasDictIn K C = true
 po : PySem.W.plainOver K C = true
 sa : PySem.W.findIn K (.ref C) "__setattr__" = some (some (.builtin "object.__setattr__"))
theorem Cls.get {K : PySem.W.Frag} {C : Addr} (c : Cls K C) (f : Str) : PySem.W.plainGet K C f = true := c.pg
noncomputable def a4p (K : PySem.W.Frag) (C : Addr) (f : Str) : Prop := PySem.W.findIn K (.ref C) f = some none
theorem a4p.taker {K : PySem.W.Frag} {C : Addr} {f : Str} (n : a4p K C f) : PySem.W.takerIn K C f = some none := by
 unfold PySem.W.takerIn
 rw [show PySem.W.findIn K (.ref C) f = some none from n]
 rfl
structure Con (K : PySem.W.Frag) (C : Addr) (f : Str) (v : V) (u : Value) : Prop where
 at_ : PySem.W.findIn K (.ref C) f = some (some u)
 rel : RelV v u
 get : PySem.W.specialIn K u "__get__" = some none
 cp : PySem.W.copiedNames.contains f = false
structure Meth (K : PySem.W.Frag) (C : Addr) (m : Str) (f : Addr) : Prop where
 at_ : PySem.W.findIn K (.ref C) m = some (some (.ref f))
 fn : PySem.W.isFn K (.ref f) = true
 kp : PySem.W.keepIn K (.ref f) = true
section
variable {X : Cx} {pins : List (Addr × Obj)} {σ : St} {H : Hp} {s : Shared} {a C dx : Addr} {fs : List (Str × V)} {f : Str} {v : V} {A : Around} {E : Value -> Shared -> Prop}
theorem c2r {b : Bool} {Q : Value -> Shared -> Prop} (I : Inv X pins σ H s) (e : H a = some (.ins C dx fs)) (c : Cls X.K C) (n : a4p X.K C f) (l : fs.lookup f = some v)
  (h : ∀ u s', Inv X pins σ H s' -> RelV v u -> Q u s') : wpAny (model X.prog X.w) A (getAttr (.ref a) f b) Q E s := by
 obtain ⟨mA, O, r, _, _, _⟩ := b6j I.hok e
 obtain ⟨u, hu, ru⟩ := b7m.some_of (v := v) (o := mA f) (by rw [<- l]; exact r f)
 exact get_map I.kIn O (c.get f) c.hd n hu (c4t ru) (h u _ (I.tok _) ru)
theorem b5u {m : Str} {g : Addr} {pl : Sem Bool} {Q : Value × List Value -> Shared -> Prop} (I : Inv X pins σ H s) (e : H a = some (.ins C dx fs)) (c : Cls X.K C) (k : Meth X.K C m g) (l : fs.lookup m = none)
  (h : Q (.ref g, [.ref a]) s) : wpAny (model X.prog X.w) A (getMethod (.ref a) m pl) Q E s := by
 obtain ⟨mA, O, r, _, _, _⟩ := b6j I.hok e
 have hn : mA m = none := b7m.none_of (by rw [<- l]; exact r m)
 exact c8l I.kIn O (c.get m) k.at_ k.fn hn h
theorem c2s {y : V} {u : Value} {Q : Unit -> Shared -> Prop} (I : Inv X pins σ H s) (e : H a = some (.ins C dx fs)) (c : Cls X.K C) (n : a4p X.K C f) (hl : fs.length < 1000) (ry : RelV y u)
  (h : ∀ s', Inv X pins σ (upd H a (.ins C dx (b3q f y fs))) s' -> Q () s') : wpAny (model X.prog X.w) A (setAttr (.ref a) f u) Q E s := by
 obtain ⟨mA, O, r, wi, _, ho⟩ := b6j I.hok e
 have hz : (fs.map (·.1)).length <= sizeLine := by rw [List.length_map, sizeLine_eq]; omega
 refine d2k I.kIn O c.sa c.po n.taker c.hd wi hz fun h' O' sb => h _ ?_
 have hd : ∃ o, h'.get? dx = some o := let ⟨o, _, _, e', _⟩ := O'.ns; ⟨o, e'⟩
 refine I.write (x := a) (e := dx) (by rw [e]; exact True.intro) (.inr ho) (fun b q hb z => (sb.2 b hb).trans z) hd ?_
 refine ⟨by rw [a1g O.ne]; exact ho, ?_, O.ne, O'.obj, _, O'.ns, fun g => ?_, fun g hg => ?_⟩
 ·have := b4i f y fs; omega
 ·show b7m ((b3q f y fs).lookup g) (if g = f then some u else mA g)
  rw [b4g]
  by_cases q : g = f
  ·rw [if_pos q, if_pos q]; exact ry
  ·rw [if_neg q, if_neg q]; exact r g
 ·by_cases q : g = f
  ·rw [q]; exact (b4h f y fs).1
  ·refine (b4h f y fs).2 g (wi g fun z => hg ?_)
   show (if g = f then some u else mA g) = none
   rw [if_neg q]; exact z
theorem Inv.made (I : Inv X pins σ H s) : Inv X pins σ (upd (upd H s.heap.objs.size (.own (s.heap.objs.size + 1))) (s.heap.objs.size + 1) (.ins C s.heap.objs.size []))
  { s with heap := (s.heap.push PySem.W.emptyDict).push (PySem.W.instObj C s.heap.objs.size) } := by
 have e1 : (s.heap.push PySem.W.emptyDict).get? s.heap.objs.size = some PySem.W.emptyDict := Heap.get?_push_size s.heap rfl
 have e2 : ((s.heap.push PySem.W.emptyDict).push (PySem.W.instObj C s.heap.objs.size)).get? (s.heap.objs.size + 1) = some (PySem.W.instObj C s.heap.objs.size) := by
  have := Heap.get?_push_size (s.heap.push PySem.W.emptyDict) (o := PySem.W.instObj C s.heap.objs.size) rfl
  rwa [Heap.size_push] at this
 have e3 : (s.heap.push PySem.W.emptyDict).Ns s.heap.objs.size (fun _ => none) := ⟨PySem.W.emptyDict, #[], _, e1, rfl, (fun e he => absurd he (by simp)), fun _ => rfl⟩
 have I1 := I.laid (a := s.heap.objs.size) (o := .own (s.heap.objs.size + 1)) (h' := s.heap.push PySem.W.emptyDict) (t' := s.toks) (fun b u q => Heap.get?_push_of_some _ q) (Nat.le_refl _) ⟨_, e1⟩
 refine I1.laid (a := s.heap.objs.size + 1) (o := .ins C s.heap.objs.size []) (t' := s.toks) (fun b u q => Heap.get?_push_of_some _ q) (Nat.le_of_eq (Heap.size_push _ _)) ?_
 have ne : s.heap.objs.size ≠ s.heap.objs.size + 1 := Nat.ne_of_lt (Nat.lt_succ_self _)
 refine ⟨by rw [a1g ne, a0z], Nat.zero_le _, ne, e2, fun _ => none, (Heap.Ns1.of_empty e3).at fun o q => Heap.get?_push_of_some _ q, fun _ => True.intro, fun y hy => absurd rfl hy⟩
theorem d2l {prog : Program} {w : World} {env : Env} {e : Expr} {f : Str} {pos : Pos} {s : Shared} {Q : Value -> Shared -> Prop} (hb : attributeBase e f env (eval e env) = eval e env)
  (h : wpAny (model prog w) A (eval e env) (fun o s₁ => wpAny (model prog w) A (getAttr o f true) Q E s₁) E s) : wpAny (model prog w) A (eval (.Attribute e f pos) env) Q E s :=
 Attribute_any_ h (by rw [arm_eval_Attribute, hb])
end
noncomputable def f4y (K : PySem.W.Frag) (ta : TE) (f : Str) : TE := fun σ H Q => ta σ H fun x H1 => ∃ a C dx fs v, x = .ref a /\ H1 a = some (.ins C dx fs) /\ Cls K C /\ a4p K C f /\ fs.lookup f = some v /\ Q v H1
noncomputable def tCon (K : PySem.W.Frag) (ta : TE) (f : Str) : TE := fun σ H Q => ta σ H fun x H1 => ∃ a C dx fs v u, x = .ref a /\ H1 a = some (.ins C dx fs) /\ Cls K C /\ Con K C f v u /\ fs.lookup f = none /\ Q v H1
noncomputable def sFld (K : PySem.W.Frag) (ta tv : TE) (f : Str) : TS := fun D σ H => tv σ H fun y H1 => ta σ H1 fun x H2 => ∃ a C dx fs, x = .ref a /\ H2 a = some (.ins C dx fs) /\ Cls K C /\ a4p K C f /\ fs.length < 1000 /\
 D.nx σ (upd H2 a (.ins C dx (b3q f y fs)))
noncomputable def InOp (X : Cx) (op : Operator) (rd : V -> V -> Hp -> VK -> Prop) : Prop :=
 ∀ (pins : List (Addr × Obj)) (s : Shared) (σ : St) (H : Hp) (x y : V) (u v : Value) (Q : VK), Inv X pins σ H s -> RelV x u -> RelV y v -> rd x y H Q -> wpAny (model X.prog X.w) X.A (inplaceOp op u v) (EP X pins σ Q) X.xe s
noncomputable def f2m (K : PySem.W.Frag) (ta tv : TE) (rd : V -> V -> Hp -> VK -> Prop) (f : Str) : TS := fun D σ H => ta σ H fun x H1 => ∃ a C dx fs v, x = .ref a /\ H1 a = some (.ins C dx fs) /\ Cls K C /\ a4p K C f /\ fs.lookup f = some v /\
 tv σ H1 fun y H2 => rd v y H2 fun z H3 => ∃ dx' fs', H3 a = some (.ins C dx' fs') /\ fs'.length < 1000 /\ D.nx σ (upd H3 a (.ins C dx' (b3q f z fs')))
section
variable {X : Cx} {o e value : Expr} {f : Str} {pos pos' tpos : Pos} {ta tv : TE}
theorem d6g (he : PE X e ta) (hb : attributeBase e f X.env (eval e X.env) = eval e X.env) : PE X (.Attribute e f pos) (f4y X.K ta f) := by
 intro pins s σ H Q I h
 refine d2l hb (thn (he pins s σ H _ I h) fun u s1 ⟨x, H1, I1, rx, a, C, dx, fs, v, ex, ea, c, n, l, q⟩ => ?_)
 subst ex
 obtain rfl : u = Value.ref a := rx
 exact c2r I1 ea c n l fun u' s2 I2 ru => ⟨v, H1, I2, ru, q⟩
noncomputable def rAdd : V -> V -> Hp -> VK -> Prop := fun x y H Q => ∃ i j, x = .int i /\ y = .int j /\ Q (.int (i + j)) H
noncomputable def rSub : V -> V -> Hp -> VK -> Prop := fun x y H Q => ∃ i j, x = .int i /\ y = .int j /\ Q (.int (i - j)) H
end
section
variable {X : Cx} {pins : List (Addr × Obj)} {σ : St} {H : Hp} {s : Shared} {A : Around} {E : Value -> Shared -> Prop} {Q : Value -> Shared -> Prop} {c : Value} {b : Bool}
inductive c2t (K : PySem.W.Frag) (H : Hp) : V -> Value -> Prop where
 | non : c2t K H .non (.type "NoneType")
 | bl (x : Bool) : c2t K H (.bl x) (.type "bool")
 | int (i : Int) : c2t K H (.int i) (.type "int")
 | str (x : Str) : c2t K H (.str x) (.type "str")
 | flt (x : UInt64) : c2t K H (.flt x) (.type "float")
 | lst {a : Addr} {xs : List V} (e : H a = some (.lst xs)) : c2t K H (.ref a) (.type "list")
 | frz {a : Addr} {o : Obj} {xs : List V} (e : H a = some (.frz o (.lst xs))) : c2t K H (.ref a) (.type "list")
 | tup {a : Addr} {xs : List V} (e : H a = some (.tup xs)) : c2t K H (.ref a) (.type "tuple")
 | dK {a : Addr} {kvs : List (Key × V)} (e : H a = some (.dK kvs)) : c2t K H (.ref a) (.type "dict")
 | dT {a : Addr} {kvs : List (List Key × V)} (e : H a = some (.dT kvs)) : c2t K H (.ref a) (.type "dict")
 | ins {a C dx : Addr} {fs : List (Str × V)} (e : H a = some (.ins C dx fs)) (cl : Cls K C) (ha : PySem.W.findIn K (.ref C) "__class__" = some (some (.builtin "object.__class__")))
   (hn : PySem.W.specialIn K (.builtin "object.__class__") "__get__" = some (some (.builtin "getset_descriptor.__get__"))) (htk : PySem.W.takesIn K (.builtin "object.__class__") = some true)
   (hm : PySem.W.mroIn K C (.type "object") = some true) : c2t K H (.ref a) (.ref C)
theorem c4u {x : V} {u t : Value} (I : Inv X pins σ H s) (rx : RelV x u) (ty : c2t X.K H x t) (e : PySem.W.kitOne X.K t c = some b) (h : ∀ tk, Q (.bool b) { s with toks := tk }) :
  wpAny (model X.prog X.w) A (call (.builtin "isinstance") [u, c]) Q E s := by
 cases ty with
 | non => cases (show u = Value.none from rx); exact PySem.W.kia_one PySem.W.kitx_none I.kIn True.intro e (fun z => nomatch z) h
 | bl y => cases (show u = Value.bool y from rx); exact PySem.W.kia_one PySem.W.kitx_bool I.kIn True.intro e (fun z => nomatch z) h
 | int i => obtain ⟨t, q⟩ := (show ∃ t, u = Value.int i t from rx); cases q; exact PySem.W.kia_one PySem.W.kitx_int I.kIn True.intro e (fun z => nomatch z) h
 | str y => obtain ⟨t, q⟩ := (show ∃ t, u = Value.str y t from rx); cases q; exact PySem.W.kia_one PySem.W.kitx_str I.kIn True.intro e (fun z => nomatch z) h
 | flt y => obtain ⟨t, q⟩ := (show ∃ t, u = Value.float y t from rx); cases q; exact PySem.W.kia_one PySem.W.kitx_float I.kIn True.intro e (fun z => nomatch z) h
 | @lst a xs ea =>
  cases (show u = Value.ref a from rx)
  obtain ⟨_, _, n, _, h1⟩ := (show a4v X.prog X.w H s.heap a (.lst xs) from I.hok a _ ea)
  exact PySem.W.kia_one PySem.W.kitx_list I.kIn ⟨_, h1, rfl⟩ e (fun z => nomatch z) h
 | @frz a ob xs ea =>
  cases (show u = Value.ref a from rx)
  obtain ⟨_, _, _, n, _, h1⟩ := (show a4v X.prog X.w H s.heap a (.frz ob (.lst xs)) from I.hok a _ ea)
  exact PySem.W.kia_one PySem.W.kitx_list I.kIn ⟨_, h1, rfl⟩ e (fun z => nomatch z) h
 | @tup a xs ea =>
  cases (show u = Value.ref a from rx)
  obtain ⟨_, _, _, p⟩ := (show a4v X.prog X.w H s.heap a (.tup xs) from I.hok a _ ea)
  obtain ⟨o, h1, h2, _⟩ := p
  exact PySem.W.kia_one PySem.W.kitx_tuple I.kIn ⟨o, h1, h2⟩ e (fun z => nomatch z) h
 | @dK a kvs ea =>
  cases (show u = Value.ref a from rx)
  obtain ⟨_, _, vs, _, p⟩ := (show a4v X.prog X.w H s.heap a (.dK kvs) from I.hok a _ ea)
  obtain ⟨o, es, ep, h1, h2, _⟩ := p
  exact PySem.W.kia_one PySem.W.kitx_dict I.kIn ⟨o, h1, h2.1⟩ e (fun z => nomatch z) h
 | @dT a kvs ea =>
  cases (show u = Value.ref a from rx)
  obtain ⟨_, _, xs, _, o, es, ep, h1, h2, _⟩ := (show a4v X.prog X.w H s.heap a (.dT kvs) from I.hok a _ ea)
  exact PySem.W.kia_one PySem.W.kitx_dict I.kIn ⟨o, h1, h2.1⟩ e (fun z => nomatch z) h
 | @ins a C dx fs ea cl ha hn htk hm =>
  cases (show u = Value.ref a from rx)
  obtain ⟨mA, O, _⟩ := b6j I.hok ea
  obtain ⟨od, J, _⟩ := O.look
  exact PySem.W.kia_one (PySem.W.kitx_own (cl.get _) cl.hd ha hn htk hm) I.kIn J e (fun z => nomatch z) h
end
end L2
namespace L2
open PySem PySem.Spec PyProof.Rows
structure a5u (k : Nat) (A : Around) : Prop where
 hd : A.handled = none
 dp : A.depth + 3 * k + 5 < recursionLimit
 un : A.units + 16 * k + 200 < cLine
theorem a5u.mono {j k : Nat} {A : Around} (r : a5u k A) (h : j <= k) : a5u j A := ⟨r.hd, by have := r.dp; omega, by have := r.un; omega⟩
theorem a5u.deeper {k : Nat} {A : Around} (r : a5u (k + 1) A) (env : Env) : a5u k (A.deeper env) :=
 ⟨r.hd, by have := r.dp; show A.depth + 1 + 3 * k + 5 < _; omega, by have := r.un; show A.units + 3 + 16 * k + 200 < _; omega⟩
theorem a5u.in1 {k : Nat} {A : Around} (r : a5u (k + 1) A) : a5u k A.in1 :=
 ⟨r.hd, by have := r.dp; show A.depth + 3 * k + 5 < _; omega, by have := r.un; show A.units + 1 + 16 * k + 200 < _; omega⟩
theorem c2u {A : Around} {C : Addr} {us : List Value} {kw : List (Str × Value)} : (A.under (.builtin "type.__call__" ⟨.ref C :: us, kw⟩)).depth = A.depth + 1 := by
 first | rfl | simp [Around.under, Code.weight, Code.isCreation, Code.isGuard, Code.isCaller, Code.frames, Code.isFrame, guardIds]
theorem c2v {A : Around} {C : Addr} {us : List Value} {kw : List (Str × Value)} : (A.under (.builtin "type.__call__" ⟨.ref C :: us, kw⟩)).units = A.units + 1 := by
 first | rfl | simp [Around.under, Code.cUnits, Code.frames, Code.isFrame]
theorem a5u.make {k : Nat} {A : Around} (r : a5u (k + 1) A) (C : Addr) (us : List Value) (kw : List (Str × Value)) : a5u k (A.under (.builtin "type.__call__" ⟨.ref C :: us, kw⟩)) :=
 ⟨r.hd, by have := r.dp; rw [c2u]; omega, by have := r.un; rw [c2v]; omega⟩
theorem a5u.depth {k : Nat} {A : Around} (r : a5u k A) : A.depth < recursionLimit := by have := r.dp; omega
theorem a5u.units {k : Nat} {A : Around} (r : a5u k A) : A.units + 64 < cLine := by have := r.un; omega
noncomputable def f0y : TA := fun _ H Q => Q [] H
noncomputable def d6h (ta : TE) (tr : TA) : TA := fun σ H Q => ta σ H fun x H1 => tr σ H1 fun xs H2 => Q (x :: xs) H2
section
variable {X : Cx} {e : Expr} {es : List Expr} {te : TE} {t : TA} {pos : Pos}
theorem a0n : PA X [] f0y := fun _ _ _ _ H Q I h => Calls.spliced_nil ⟨[], H, I, .nil, h⟩
theorem a0k (ha : PE X e te) (hr : PA X es t) (hs : starEach (e :: es) X.env = (false, eval e X.env) :: starEach es X.env := by rfl) : PA X (e :: es) (d6h te t) := by
 intro pos pins s σ H Q I h
 rw [hs]
 show wpAny _ _ (spliced ((false, eval e X.env) :: backTo pos (starEach es X.env))) _ _ s
 refine Calls.spliced_cons (thn (ha pins s σ H _ I h) fun u s1 ⟨x, H1, I1, r1, q1⟩ => ?_)
 exact thn (hr pos pins s1 σ H1 _ I1 q1) fun us s2 ⟨xs, H2, I2, r2, q2⟩ => ⟨x :: xs, H2, I2, .cons r1 r2, q2⟩
noncomputable def tTup (t : TA) : TE := fun σ H Q => t σ H fun xs H1 => xs.length <= sizeLine /\ ∀ p, H1 p = none -> Q (.ref p) (upd H1 p (.tup xs))
noncomputable def tLst (t : TA) : TE := fun σ H Q => t σ H fun xs H1 => xs.length <= sizeLine /\ ∀ p, H1 p = none -> Q (.ref p) (upd H1 p (.lst xs))
end
noncomputable abbrev Sp := List V -> Hp -> VK -> XK -> Prop
noncomputable abbrev CXT := List Env -> Hp -> Shared -> XK -> Value -> Shared -> Prop
structure c4v (P : Program) (w : World) (K : PySem.W.Frag) (mg : Str -> Option Value) (base : Heap) (A : Around) (outer : List Env) (s : Shared) (H : Hp) : Prop where
 frames : A.frames = some outer
 mod : Mod K mg base
 bs : ∀ b o, base.get? b = some o -> s.heap.get? b = some o /\ H b = none
 bsz : base.objs.size <= s.heap.objs.size
 c1m : s.heap.FunFrames base outer
 frf : ∀ b ∈ frs outer, H b = none
 hok : HOk P w H s.heap
 bare : AllBare s.gens
noncomputable def CE (outer : List Env) (P : Program) (w : World) (H : Hp) (s : Shared) (Q : VK) (u : Value) (s' : Shared) : Prop :=
 ∃ v H', s'.os = s.os /\ AllBare s'.gens /\ Un (frs outer) [] H H' s.heap s'.heap /\ HOk P w H' s'.heap /\ RelV v u /\ Q v H'
noncomputable def CR (CX : CXT) (outer : List Env) (P : Program) (w : World) (H : Hp) (s : Shared) (Q : VK) (E : XK) (r : Result) (s' : Shared) : Prop :=
 match r with
 | .ok (.ret u) => CE outer P w H s Q u s'
 | .ok _ => False
 | .error e => CX outer H s E e s'
structure a4n (P : Program) (w : World) (K : PySem.W.Frag) (mg : Str -> Option Value) (base : Heap) (CX : CXT) (k : Nat) (f : Addr) (fd : FuncData) (ps : List Str) (sp : Sp) : Prop where
 len : ∀ vs H Q E, sp vs H Q E -> vs.length = ps.length
 run : ∀ (A : Around) (outer : List Env) (s : Shared) (H : Hp) (args : Args) (us : List Value) (vs : List V) (Q : VK) (E : XK), a5u k A -> c4v P w K mg base A outer s H -> BindsTo s fd args (ps.zip us) -> Vals vs us -> sp vs H Q E ->
  codeAny (model P w) A (.call (.ref f) args) (CR CX outer P w H s Q E) s
theorem a4n.mono {P : Program} {w : World} {K : PySem.W.Frag} {mg : Str -> Option Value} {base : Heap} {CX : CXT} {j k : Nat} {f : Addr} {fd : FuncData} {ps : List Str} {sp : Sp} (F : a4n P w K mg base CX j f fd ps sp) (h : j <= k) :
  a4n P w K mg base CX k f fd ps sp := ⟨F.len, fun A outer s H args us vs Q E hr => F.run A outer s H args us vs Q E (hr.mono h)⟩
theorem c4v.make {P : Program} {w : World} {K : PySem.W.Frag} {mg : Str -> Option Value} {base : Heap} {A : Around} {outer : List Env} {s : Shared} {H : Hp} (e : c4v P w K mg base A outer s H) (C : Addr) (us : List Value) (kw : List (Str × Value)) :
  c4v P w K mg base (A.under (.builtin "type.__call__" ⟨.ref C :: us, kw⟩)) outer s H := ⟨by first | exact e.frames | (simpa [Around.under, Code.envs, Code.isFrame, pushEnvs] using e.frames), e.mod, e.bs, e.bsz, e.c1m, e.frf, e.hok, e.bare⟩
theorem c4v.in1 {P : Program} {w : World} {K : PySem.W.Frag} {mg : Str -> Option Value} {base : Heap} {A : Around} {outer : List Env} {s : Shared} {H : Hp} (e : c4v P w K mg base A outer s H) :
  c4v P w K mg base A.in1 outer s H := ⟨e.frames, e.mod, e.bs, e.bsz, e.c1m, e.frf, e.hok, e.bare⟩
section
variable {X : Cx} {pins : List (Addr × Obj)} {σ : St} {H : Hp} {s s' : Shared}
theorem Inv.env0 (I : Inv X pins σ H s) : c4v X.prog X.w X.K X.mg X.base X.A X.stack s H :=
 ⟨I.ok.frames, I.ok.mod, I.bs, Nat.le_trans I.ok.bsz I.sz, I.stack, I.b9v, I.hok, I.bare⟩
theorem Inv.after {Q : VK} {u : Value} (I : Inv X pins σ H s) (h : CE X.stack X.prog X.w H s Q u s') : EP X pins σ Q u s' := by
 obtain ⟨v, H', os, bare, un, hok, r, q⟩ := h
 obtain ⟨hh, g, d, t, os'⟩ := s'
 obtain rfl : os' = s.os := os
 exact ⟨v, H', I.call (h' := hh) (g' := g) (d' := d) (t' := t) (ch := []) un hok bare (fun b z => absurd z (by simp)), r, q⟩
end
noncomputable def d2m (sp : Sp) (dvs : List V) (E : XK) (t : TA) : TE := fun σ H Q => t σ H fun vs H1 => sp (vs ++ dvs) H1 Q E
noncomputable def tMeth (C : Addr) (m : Str) (sp : Sp) (dvs : List V) (E : XK) (ta : TE) (t : TA) : TE := fun σ H Q => ta σ H fun x H1 => ∃ a dx fs, x = .ref a /\ H1 a = some (.ins C dx fs) /\ fs.lookup m = none /\
 t σ H1 fun vs H2 => sp (x :: (vs ++ dvs)) H2 Q E
noncomputable def tMake (C : Addr) (sp : Sp) (dvs : List V) (E : XK) (t : TA) : TE := fun σ H Q => t σ H fun vs H1 => ∀ x dx, H1 x = none -> H1 dx = none -> dx ≠ x ->
 sp (.ref x :: (vs ++ dvs)) (upd (upd H1 dx (.own x)) x (.ins C dx [])) (fun v H2 => v = .non /\ Q (.ref x) H2) E
noncomputable def Binds (K : PySem.W.Frag) (fd : FuncData) (ps : List Str) (ds : List Value) : Prop :=
 ∀ (s : Shared) (us : List Value), K.In s.heap -> (us ++ ds).length = ps.length -> BindsTo s fd ⟨us, []⟩ (ps.zip (us ++ ds))
theorem Binds.all {K : PySem.W.Frag} {fd : FuncData} {ps : List Str} (h : ∀ us : List Value, us.length = ps.length -> bindArgs fd ⟨us, []⟩ = pure (ps.zip us)) : Binds K fd ps [] := fun s us _ hl => by
 rw [List.append_nil] at hl ⊢
 exact .of_eq (h us hl)
noncomputable def Passes (CX : CXT) (X : Cx) (E : XK) : Prop := ∀ (pins : List (Addr × Obj)) (σ : St) (H : Hp) (s : Shared) (e : Value) (s' : Shared), Inv X pins σ H s -> CX X.stack H s E e s' -> X.xe e s'
section
variable {X : Cx} {CX : CXT} {k : Nat} {f C : Addr} {fd : FuncData} {ps : List Str} {sp : Sp} {dvs : List V} {ds : List Value} {E : XK} {x m : Str} {p pos apos : Pos} {e o : Expr} {es : List Expr} {ta : TE} {t : TA}
theorem c4w {pins : List (Addr × Obj)} {σ : St} {H : Hp} {s : Shared} {Q : VK} {us : List Value} {vs : List V} (F : a4n X.prog X.w X.K X.mg X.base CX k f fd ps sp) (hr : a5u k X.A) (hb : Binds X.K fd ps ds) (hd : Vals dvs ds) (hx : Passes CX X E)
  (I : Inv X pins σ H s) (r : Vals vs us) (h : sp (vs ++ dvs) H Q E) : wpAny (model X.prog X.w) X.A (call (.ref f) us) (EP X pins σ Q) X.xe s := by
 have r2 : Vals (vs ++ dvs) (us ++ ds) := r.append hd
 have hl : (us ++ ds).length = ps.length := by rw [<- r2.length]; exact F.len _ _ _ _ h
 refine wpAny_call (codeAny_mono (F.run X.A X.stack s H ⟨us, []⟩ (us ++ ds) (vs ++ dvs) Q E hr I.env0 (hb s us I.kIn hl) r2 h) fun r s' hq => ?_)
 cases r with
 | error e => exact hx pins σ H s e s' I hq
 | ok fl =>
  cases fl with
  | ret u => exact I.after hq
  | next => exact False.elim hq
  | brk => exact False.elim hq
  | cont => exact False.elim hq
theorem a6k (F : a4n X.prog X.w X.K X.mg X.base CX k f fd ps sp) (hr : a5u k X.A) (hg : Gl X x) (hm : X.mg x = some (.ref f)) (hk : PySem.W.keepIn X.K (.ref f) = true) (hb : Binds X.K fd ps ds) (hd : Vals dvs ds) (hx : Passes CX X E)
  (ha : PA X (e :: es) t) (hdb : (x == ("__debug__" : Str)) = false := by decide) (he : starEach (e :: es) X.env = (false, eval e X.env) :: starEach es X.env := by rfl) (hpl : (backTo pos (starEach es X.env)).any (·.1) = false := by rfl) :
  PE X (.Call (.Name x p) (e :: es) [] pos) (d2m sp dvs E t) := by
 intro pins s σ H Q I h
 refine wpAny_Call_Name_kw (b6h I hg hm ?_ hdb)
 refine PySem.W.callWith_K (h₀ := X.base) I.ok.mod.kin hk (thn (ha pos pins s σ H _ I h) fun us s1 ⟨vs, H1, I1, r, q⟩ => ⟨I1.kIn, ?_⟩) he hpl
 exact c4w F hr hb hd hx I1 r q
structure Mk (K : PySem.W.Frag) (C f : Addr) : Prop where
 makes : PySem.W.makesIn K C = true
 init : PySem.W.findIn K (.ref C) "__init__" = some (some (.ref f))
 fn : PySem.W.isFn K (.ref f) = true
 kp : PySem.W.keepIn K (.ref C) = true
theorem c1q {pins : List (Addr × Obj)} {σ : St} {H : Hp} {s : Shared} {Q : VK} {us : List Value} {vs : List V} (M : Mk X.K C f) (F : a4n X.prog X.w X.K X.mg X.base CX k f fd ps sp) (hr : a5u (k + 1) X.A) (hb : Binds X.K fd ps ds) (hd : Vals dvs ds)
  (hx : Passes CX X E) (I : Inv X pins σ H s) (r : Vals vs us)
  (h : ∀ x dx, H x = none -> H dx = none -> dx ≠ x -> sp (.ref x :: (vs ++ dvs)) (upd (upd H dx (.own x)) x (.ins C dx [])) (fun v H2 => v = .non /\ Q (.ref x) H2) E) :
  wpAny (model X.prog X.w) X.A (call (.ref C) us) (EP X pins σ Q) X.xe s := by
 have hq := h (s.heap.objs.size + 1) s.heap.objs.size (I.hok.fresh (Nat.le_succ _)) (I.hok.fresh (Nat.le_refl _)) (Nat.ne_of_lt (Nat.lt_succ_self _))
 have I2 := Inv.made (C := C) I
 have r2 : Vals (V.ref (s.heap.objs.size + 1) :: (vs ++ dvs)) (Value.ref (s.heap.objs.size + 1) :: (us ++ ds)) := .cons rfl (r.append hd)
 have hl : (Value.ref (s.heap.objs.size + 1) :: us ++ ds).length = ps.length := by
  have e := r2.length
  rw [F.len _ _ _ _ hq] at e
  exact e.symm
 refine wpAny_call (c8m (f := f) I.kIn M.makes M.init (beq_iff_eq.mp M.fn) (codeAny_mono (F.run _ X.stack _ _ ⟨Value.ref (s.heap.objs.size + 1) :: us, []⟩ (Value.ref (s.heap.objs.size + 1) :: (us ++ ds)) _ _ E (hr.make C us [])
  (I2.env0.make C us []) (hb _ (Value.ref (s.heap.objs.size + 1) :: us) I2.kIn hl) r2 hq) fun r s' hq' => ?_))
 cases r with
 | error e => exact hx pins σ _ _ e s' I2 hq'
 | ok fl =>
  cases fl with
  | ret u =>
   obtain ⟨v, H', I3, rv, ev, q3⟩ := I2.after hq'
   subst ev
   exact ⟨rv, ⟨V.ref (s.heap.objs.size + 1), H', I3, rfl, q3⟩⟩
  | next => exact False.elim hq'
  | brk => exact False.elim hq'
  | cont => exact False.elim hq'
end
noncomputable def PK (X : Cx) (kws : List Keyword) (t : TA) : Prop :=
 ∀ (pos : Pos) (pins : List (Addr × Obj)) (s : Shared) (σ : St) (H : Hp) (Q : List V -> Hp -> Prop), Inv X pins σ H s -> t σ H Q -> wpAny (model X.prog X.w) X.A (evalAll ((backToKw pos (keywordEach kws X.env)).map (·.2))) (AP X pins σ Q) X.xe s
section
variable {X : Cx} {CX : CXT} {k : Nat} {f C : Addr} {fd : FuncData} {ps ks : List Str} {sp : Sp} {E : XK} {x m : Str} {p pos apos kpos : Pos} {e o : Expr} {es : List Expr} {kws : List Keyword} {te ta : TE} {t tk : TA} {nm : Option Str}
structure f4z (K : PySem.W.Frag) (fd : FuncData) (ps ks : List Str) (g : List Value -> List Value -> List Value) (gV : List V -> List V -> List V) : Prop where
 to : ∀ (s : Shared) (us ws : List Value), K.In s.heap -> (g us ws).length = ps.length -> BindsTo s fd ⟨us, ks.zip ws⟩ (ps.zip (g us ws))
 rel : ∀ {vs : List V} {us : List Value} {zs : List V} {ws : List Value}, Vals vs us -> Vals zs ws -> Vals (gV vs zs) (g us ws)
noncomputable def f5g (sp : Sp) (gV : List V -> List V -> List V) (E : XK) (t tk : TA) : TE := fun σ H Q => t σ H fun vs H1 => tk σ H1 fun zs H2 => sp (gV vs zs) H2 Q E
variable {g : List Value -> List Value -> List Value} {gV : List V -> List V -> List V}
end
structure a1n (N P : List Str) (sc : Scope) : Prop where
 kind : sc.kind = .function
 co : sc.isCoroutine = false
 gen : sc.isGenerator = false
 nd : N.Nodup
 pre : N.take P.length = P
 par : ∀ x ∈ P, sc.names.lookup x = some .local \/ sc.names.lookup x = some .cell
 d6i : ∀ y ∈ sc.names, y.2 ≠ .free
theorem b7r {kindOf : Str -> Option NameKind} {x : Str} : ∀ {binds : List (Str × Value)} {m : Str -> Option Value}, (∀ v, (x, v) ∉ binds) -> bindL kindOf binds m x = m x
 | [], _, _ => rfl
 | (n, v) :: r, m, h => by
  unfold bindL
  rw [b7r fun w hw => h w (List.mem_cons_of_mem _ hw)]
  split
  ·have : x ≠ n := by rintro rfl; exact h v List.mem_cons_self
   simp [this]
  ·rfl
theorem b7s {kindOf : Str -> Option NameKind} {x : Str} : ∀ {binds : List (Str × Value)} {m : Str -> Option Value}, (∀ v, (x, v) ∉ binds) -> bindC kindOf binds m x = m x
 | [], _, _ => rfl
 | (n, v) :: r, m, h => by
  unfold bindC
  rw [b7s fun w hw => h w (List.mem_cons_of_mem _ hw)]
  split
  ·rfl
  ·have : x ≠ n := by rintro rfl; exact h v List.mem_cons_self
   simp [this]
theorem b7t {kindOf : Str -> Option NameKind} {x : Str} {v : Value} : ∀ {P : List Str} {vs : List Value} {i : Nat} {m : Str -> Option Value}, P.Nodup -> P[i]? = some x -> vs[i]? = some v -> kindOf x = some .local ->
  bindL kindOf (P.zip vs) m x = some v
 | [], _, _, _, _, h, _, _ => by simp at h
 | _ :: _, [], _, _, _, _, h, _ => by simp at h
 | p :: P, w :: vs, 0, m, nd, h1, h2, hk => by
  simp at h1 h2; subst h1; subst h2
  show bindL kindOf ((p, w) :: P.zip vs) m p = _
  unfold bindL
  rw [b7r fun v hv => (List.nodup_cons.mp nd).1 (List.of_mem_zip hv).1, if_pos hk]
  simp
 | p :: P, w :: vs, i + 1, m, nd, h1, h2, hk => by
  show bindL kindOf ((p, w) :: P.zip vs) m x = _
  unfold bindL
  exact b7t (i := i) (List.nodup_cons.mp nd).2 (by simpa using h1) (by simpa using h2) hk
theorem b7u {kindOf : Str -> Option NameKind} {x : Str} {v : Value} : ∀ {P : List Str} {vs : List Value} {i : Nat} {m : Str -> Option Value}, P.Nodup -> P[i]? = some x -> vs[i]? = some v -> kindOf x ≠ some .local ->
  bindC kindOf (P.zip vs) m x = some v
 | [], _, _, _, _, h, _, _ => by simp at h
 | _ :: _, [], _, _, _, _, h, _ => by simp at h
 | p :: P, w :: vs, 0, m, nd, h1, h2, hk => by
  simp at h1 h2; subst h1; subst h2
  show bindC kindOf ((p, w) :: P.zip vs) m p = _
  unfold bindC
  rw [b7s fun v hv => (List.nodup_cons.mp nd).1 (List.of_mem_zip hv).1, if_neg hk]
  simp
 | p :: P, w :: vs, i + 1, m, nd, h1, h2, hk => by
  show bindC kindOf ((p, w) :: P.zip vs) m x = _
  unfold bindC
  exact b7u (i := i) (List.nodup_cons.mp nd).2 (by simpa using h1) (by simpa using h2) hk
noncomputable def start (N : List Str) (vs : List V) : St := vs.map some ++ List.replicate (N.length - vs.length) none
noncomputable def d0l (CX : CXT) (P : Program) (w : World) (K : PySem.W.Frag) (mg : Str -> Option Value) (base : Heap) (N : List Str) (qual : Str) (scope : Scope) (f : Addr) (cd : Value) (A : Around) (outer : List Env) (s : Shared) (H : Hp) (E : XK) : Cx where
 prog := P
 w := w
 K := K
 mg := mg
 base := base
 A := A.deeper (envOfC qual scope s.heap.objs.size f cd)
 N := N
 s₀ := s
 H₀ := H
 env := envOfC qual scope s.heap.objs.size f cd
 outer := outer
 stack := envOfC qual scope s.heap.objs.size f cd :: outer
 ex := []
 calm := true
 fn := fun _ => true
 pn := []
 xe := fun e s' => wpAny (model P w) (A.deeper (envOfC qual scope s.heap.objs.size f cd)) (leaving (envOfC qual scope s.heap.objs.size f cd) e) (fun _ s'' => CX outer H s E e s'') (fun e' s'' => CX outer H s E e' s'') s'
theorem c1r {sc : Scope} {n : Nat} {x : Str} (h : sc.names.lookup x = some .cell) : ∃ c, (cellsFrom n sc.names []).lookup x = some c := by
 have q := PySem.W.cellsFrom_some sc.names n [] (.inl h)
 exact Option.isSome_iff_exists.mp q
theorem c4y {CX : CXT} {P : Program} {w : World} {K : PySem.W.Frag} {mg : Str -> Option Value} {base : Heap} {N ps : List Str} {qual : Str} {scope : Scope} {f : Addr} {cd : Value} {A : Around} {outer : List Env} {s s1 : Shared} {H : Hp} {E : XK} {us : List Value} {vs : List V}
  (S : a1n N ps scope) (hd : A.handled = none) (e0 : c4v P w K mg base A outer s H) (hl : vs.length = ps.length) (r : Vals vs us)
  (x : InCallC s s.heap.objs.size (bindL (envOfC qual scope s.heap.objs.size f cd).kindOf (ps.zip us) fun _ => none) (cellsFrom (s.heap.objs.size + 1) scope.names []) (bindC (envOfC qual scope s.heap.objs.size f cd).kindOf (ps.zip us) fun _ => none) s1) :
  Inv (d0l CX P w K mg base N qual scope f cd A outer s H E) [] (start N vs) H s1 := by
 have hpl : ps.length <= N.length := by have := congrArg List.length S.pre; rw [List.length_take] at this; omega
 obtain ⟨h1, tk, rfl, hk⟩ := x.done
 have noA : ∀ b : Addr, b ∉ (d0l CX P w K mg base N qual scope f cd A outer s H E).ex := fun b z => absurd (show b ∈ ([] : List Addr) from z) (by simp)
 refine ⟨⟨e0.mod, S.kind, rfl, rfl, Nat.le_refl _, fun y z c h1 h2 => ?_, fun y hy => ?_, fun y c _ h => ?_, fun _ => hd, Around.frames_deeper e0.frames, .inr ⟨rfl, rfl⟩, fun b z => absurd z (noA b), e0.bs, e0.bsz, fun b _ _ => noA b, fun b z => absurd z (noA b), e0.c1m, e0.frf⟩,
  rfl, e0.bare, Un.kept hk, ⟨_, x.toInCall.ns, fun i y v h1 h2 h3 => ?_⟩, fun y c h => ⟨_, x.cell y c h⟩, e0.hok.fresh (Nat.le_refl _), fun y c h => ?_, fun p hp => absurd (show p ∈ ([] : List (Addr × Obj)) from hp) (by simp), e0.hok.kept hk, ?_⟩
 ·exact name_of_addr x.apart (PySem.mem_of_lookup h1) (PySem.mem_of_lookup h2)
 ·have hy : scope.names.lookup y = some .cell \/ scope.names.lookup y = some .free := hy
  rcases hy with hy | hy
  ·exact c1r hy
  ·exact absurd rfl (S.d6i _ (PySem.mem_of_lookup hy))
 ·exact Nat.le_of_lt (x.above y c (PySem.mem_of_lookup h))
 ·have hi : i < vs.length := by
   unfold start at h2
   by_cases hi : i < vs.length
   ·exact hi
   ·rw [List.getElem?_append_right (by simpa using hi)] at h2
    rw [List.getElem?_replicate] at h2
    split at h2 <;> cases h2
  have ha : vs[i]? = some v := by
   unfold start at h2
   rw [List.getElem?_append_left (by simpa using hi), List.getElem?_map] at h2
   cases e : vs[i]? with
   | none => rw [e] at h2; cases h2
   | some a => rw [e] at h2; cases h2; rfl
  obtain ⟨u, hu, rv⟩ := r.get ha
  have hp : ps[i]? = some y := by
   rw [<- S.pre, List.getElem?_take_of_lt (by omega)]; exact h1
  have ndP : ps.Nodup := by rw [<- S.pre]; exact S.nd.sublist (List.take_sublist _ _)
  refine ⟨u, rv, ?_⟩
  rcases S.par y (List.mem_of_getElem? hp) with k | k
  ·exact .inl ⟨k, b7t ndP hp hu k⟩
  ·obtain ⟨c, e⟩ := c1r (n := s.heap.objs.size + 1) k
   refine .inr ⟨.inl k, c, e, ?_⟩
   have q := x.cell y c e
   rw [b7u ndP hp hu (by show scope.names.lookup y ≠ _; rw [k]; decide)] at q
   exact q
 ·exact e0.hok.fresh (Nat.le_of_lt (x.above y c (PySem.mem_of_lookup h)))
 ·unfold start
  show _ = N.length
  rw [List.length_append, List.length_map, List.length_replicate]
  omega
theorem f2n {CX : CXT} {P : Program} {w : World} {K : PySem.W.Frag} {mg : Str -> Option Value} {base : Heap} {k : Nat} {f : Addr} {name qual : Str} {params : Arguments} {body : List Stmt} {scope : Scope} {dV kV doc pm cdv ct oc : Value} {an od : Option Addr}
  {osl : Array (Option Value)} {N ps : List Str} {sp : Sp} (lk : K.lookup f = some ⟨oc, od, .func (PySem.W.fnOf name qual params body scope dV kV doc pm an cdv ct), osl⟩) (hcd : PySem.W.codeIn K cdv qual = true) (S : a1n N ps scope)
  (len : ∀ vs H Q E, sp vs H Q E -> vs.length = ps.length)
  (hbody : ∀ (A : Around) (outer : List Env) (s : Shared) (H : Hp) (vs : List V) (Q : VK) (E : XK), a5u k (A.deeper (envOfC qual scope s.heap.objs.size f cdv)) -> sp vs H Q E ->
   ∃ t, PSs (d0l CX P w K mg base N qual scope f cdv A outer s H E) body t /\ t { nx := fun _ H' => Q .non H', rt := Q } (start N vs) H) :
  a4n P w K mg base CX (k + 1) f (PySem.W.fnOf name qual params body scope dV kV doc pm an cdv ct) ps sp := by
 refine ⟨len, fun A outer s H args us vs Q E hr e0 hb r hsp => ?_⟩
 have hl := len _ _ _ _ hsp
 have KX : K.In s.heap := e0.mod.kin.keeps fun b o e => (e0.bs b o e).1
 have lim : s.heap.NoLimit := e0.mod.nolimit.keeps fun b o e => (e0.bs b o e).1
 have hkind : ∀ y ∈ ps.zip us, scope.names.lookup y.1 = some .local \/ (scope.names.lookup y.1 = some .cell /\ ((cellsFrom (s.heap.objs.size + 1) scope.names []).lookup y.1).isSome = true) := fun ⟨n, v⟩ hy => by
  rcases S.par n (List.of_mem_zip hy).1 with q | q
  ·exact .inl q
  ·exact .inr ⟨q, PySem.W.cellsFrom_some _ _ _ (.inl q)⟩
 refine codeAny_call_function hr.depth (KX _ _ lk) rfl S.co S.gen rfl (PySem.W.codeRec_of KX hcd) (hb _ _ _ _ ?_)
 refine wpAny_newFunctionEnv_cells S.kind hkind fun env he s1 x => ?_
 subst he
 refine ⟨lim.keeps x.toInCall.keep, codeAny_func ?_⟩
 obtain ⟨t, ht, hq⟩ := hbody A outer s H vs Q E (hr.deeper _) hsp
 have I : Inv (d0l CX P w K mg base N qual scope f cdv A outer s H E) [] (start N vs) H s1 := c4y S hr.hd e0 hl r x
 refine wpAny_mono (ht [] s1 (start N vs) H _ I hq) (fun fl s' hs => ?_) fun e s' hs => hs
 have fin : ∀ {σ' : St} {H' : Hp} {v : V} {u : Value}, Inv (d0l CX P w K mg base N qual scope f cdv A outer s H E) [] σ' H' s' -> RelV v u -> Q v H' -> CE outer P w H s Q u s' :=
  fun {σ' H' v u} J rv q => ⟨v, H', J.os, J.bare, J.base, J.hok, rv, q⟩
 cases fl with
 | ret u =>
  obtain ⟨v, σ', H', J, rv, q⟩ := hs
  exact fin J rv q
 | next =>
  obtain ⟨σ', H', J, q⟩ := hs
  exact fin (v := V.non) (u := Value.none) J rfl q
 | brk =>
  obtain ⟨_, _, _, q⟩ := hs
  exact False.elim q
 | cont =>
  obtain ⟨_, _, _, q⟩ := hs
  exact False.elim q
end L2
namespace L2
open PySem PySem.Spec PyProof.Rows
section
variable {X : Cx} {x : Str} {p pos : Pos} {e : Expr} {es : List Expr} {t : TA} {id T : String} {r : List V -> Hp -> VK -> Prop}
noncomputable def tCB (r : List V -> Hp -> VK -> Prop) (t : TA) : TE := fun σ H Q => t σ H fun vs H1 => r vs H1 Q
theorem a2l (hc : a9i X (.builtin id) r) (hg : Gl X x) (hm : X.mg x = none) (hv : bootBuiltins x = some (.builtin id)) (ha : PA X (e :: es) t) (hn : x ≠ "__name__" := by decide) (hdb : (x == ("__debug__" : Str)) = false := by decide)
  (he : starEach (e :: es) X.env = (false, eval e X.env) :: starEach es X.env := by rfl) (hpl : (backTo pos (starEach es X.env)).any (·.1) = false := by rfl) : PE X (.Call (.Name x p) (e :: es) [] pos) (tCB r t) := by
 intro pins s σ H Q I h
 refine wpAny_Call_Name_kw (c1p I hg hm hv ?_ hn hdb)
 exact PyProof.Rows.callWith_builtin1 (thn (ha pos pins s σ H _ I h) fun us s1 ⟨vs, H1, I1, r1, q1⟩ => hc pins s1 σ H1 vs us Q I1 r1 q1) he hpl
theorem c4z (hc : a9i X (.type T) r) (hg : Gl X x) (hm : X.mg x = none) (hv : bootBuiltins x = some (.type T)) (ha : PA X (e :: es) t) (hn : x ≠ "__name__" := by decide) (hdb : (x == ("__debug__" : Str)) = false := by decide)
  (he : starEach (e :: es) X.env = (false, eval e X.env) :: starEach es X.env := by rfl) (hpl : (backTo pos (starEach es X.env)).any (·.1) = false := by rfl) : PE X (.Call (.Name x p) (e :: es) [] pos) (tCB r t) := by
 intro pins s σ H Q I h
 refine wpAny_Call_Name_kw (c1p I hg hm hv ?_ hn hdb)
 exact PyProof.Rows.callWith_type1 (thn (ha pos pins s σ H _ I h) fun us s1 ⟨vs, H1, I1, r1, q1⟩ => hc pins s1 σ H1 vs us Q I1 r1 q1) he hpl
end
end L2
namespace HT
open PySem PyProof.Rows
noncomputable def lexLt : List Int -> List Int -> Bool
 | [], [] => false
 | [], _ :: _ => true
 | _ :: _, [] => false
 | x :: xs, y :: ys => if x = y then lexLt xs ys else decide (x < y)
section
open PySem.SeqAt
open PySem.AutoSeq1 (wpAny_loadPart')
open PySem.MeetsSeq PySem.MeetsSeq2 PySem.MeetsSeq3
end
section
variable {prog : Program} {w : World} {A : Around} {E : Value -> Shared -> Prop} {s : Shared}
noncomputable def sIx (n d : Nat) : Option Int -> Nat
 | none => d
 | some v => if v < 0 then (v + (n : Int)).toNat else min v.toNat n
theorem c1s (n d : Nat) : sIx n d none = d := rfl
theorem b6k (n d k : Nat) : sIx n d (some (k : Int)) = min k n := by
 show (if (k : Int) < 0 then ((k : Int) + (n : Int)).toNat else min (k : Int).toNat n) = min k n
 rw [if_neg (by omega), Int.toNat_natCast]
end
end HT
namespace L2
open PySem PySem.Spec PyProof.Rows
noncomputable abbrev TO := St -> Hp -> (Option Int -> Hp -> Prop) -> Prop
noncomputable def PO (X : Cx) (e : Option Expr) (t : TO) : Prop :=
 ∀ (pins : List (Addr × Obj)) (s : Shared) (σ : St) (H : Hp) (Q : Option Int -> Hp -> Prop), Inv X pins σ H s -> t σ H Q ->
  wpAny (model X.prog X.w) X.A (evalPart e X.env) (fun u s' => ∃ o H', Inv X pins σ H' s' /\ IsPart u o /\ Q o H') X.xe s
noncomputable def c5g : TO := fun _ H Q => Q none H
noncomputable def d6j (t : TE) : TO := fun σ H Q => t σ H fun x H1 => ∃ i, x = .int i /\ Q (some i) H1
section
variable {X : Cx} {e : Expr} {te : TE} {lo hi : Option Expr} {tl th : TO} {pos p2 : Pos}
theorem b1i : PO X none c5g := by
 intro pins s σ H Q I h
 rw [evalPart_none]
 exact wpAny_pure ⟨none, H, I, .none, h⟩
theorem d2n (h : PE X e te) : PO X (some e) (d6j te) := by
 intro pins s σ H Q I hw
 rw [evalPart_some]
 refine thn (h pins s σ H _ I hw) fun u s1 ⟨x, H1, I1, r1, q1⟩ => ?_
 obtain ⟨i, rfl, q⟩ := q1
 obtain ⟨t, rfl⟩ := r1
 exact ⟨some i, H1, I1, .int i t, q⟩
noncomputable def SlR (X : Cx) (r : V -> Option Int -> Option Int -> Hp -> VK -> Prop) : Prop :=
 ∀ (pins : List (Addr × Obj)) (s : Shared) (σ : St) (H : Hp) (x : V) (v vl vu : Value) (lo hi : Option Int) (sl : Addr) (Q : VK), Inv X pins σ H s -> RelV x v -> s.heap.IsSliceOf sl vl vu .none -> IsPart vl lo -> IsPart vu hi -> r x lo hi H Q ->
  ∃ T id, typeLookup (.type T) "__getitem__" = pure (some (.builtin id)) ∧ s.TypeIs v T ∧ wpAny (model X.prog X.w) X.A (getItem v (.ref sl)) (EP X pins σ Q) X.xe s
theorem SlR.or {r r' : V -> Option Int -> Option Int -> Hp -> VK -> Prop} (h : SlR X r) (h' : SlR X r') : SlR X (fun x lo hi H Q => r x lo hi H Q \/ r' x lo hi H Q) := by
 intro pins s σ H x v vl vu lo hi sl Q I rx hs pl pu q
 rcases q with q | q
 ·exact h pins s σ H x v vl vu lo hi sl Q I rx hs pl pu q
 ·exact h' pins s σ H x v vl vu lo hi sl Q I rx hs pl pu q
noncomputable def tSl (r : V -> Option Int -> Option Int -> Hp -> VK -> Prop) (te : TE) (tl th : TO) : TE := fun σ H Q => te σ H fun x H1 => tl σ H1 fun l H2 => th σ H2 fun u H3 => r x l u H3 Q
theorem a8j {r : V -> Option Int -> Option Int -> Hp -> VK -> Prop} (hr : SlR X r) (he : PE X e te) (hl : PO X lo tl) (hu : PO X hi th) : PE X (.Subscript e (.Slice lo hi none p2) pos) (tSl r te tl th) := by
 intro pins s σ H Q I h
 refine Subscript_ (thn (he pins s σ H _ I h) fun v s1 ⟨x, H1, I1, r1, q1⟩ => ?_)
 refine wpAny_Slice (thn (hl pins s1 σ H1 _ I1 q1) fun vl s2 ⟨l, H2, I2, pl, q2⟩ => thn (hu pins s2 σ H2 _ I2 q2) fun vu s3 ⟨u, H3, I3, pu, q3⟩ => ?_)
 rw [evalPart_none]
 refine wpAny_pure ?_
 have I4 : Inv X pins σ H3 { s3 with heap := s3.heap.push { cls := .type "slice", data := .fields #[vl, vu, .none] } } := I3.kept (t' := s3.toks) fun b ob q => Heap.get?_push_of_some _ q
 obtain ⟨T, id, hT, ht, hg⟩ := hr pins { s3 with heap := s3.heap.push { cls := .type "slice", data := .fields #[vl, vu, .none] } } σ H3 x v vl vu l u s3.heap.objs.size Q I4 r1 (Heap.IsSliceOf.new ..) pl pu q3
 show wpAny (model X.prog X.w) X.A (subscriptTail e (.Slice lo hi none p2) v (.ref s3.heap.objs.size)) (EP X pins σ Q) X.xe { s3 with heap := s3.heap.push { cls := .type "slice", data := .fields #[vl, vu, .none] } }
 exact tail_any (ops := [.ref s3.heap.objs.size, v]) ht hT hg (by with_unfolding_all rfl)
noncomputable def b7n (xs : List V) (lo hi : Option Int) : List V := (xs.drop (HT.sIx xs.length 0 lo)).take (HT.sIx xs.length xs.length hi - HT.sIx xs.length 0 lo)
theorem c0g (xs : List V) (lo hi : Option Int) : (b7n xs lo hi).length <= xs.length := by
 unfold b7n
 rw [List.length_take, List.length_drop]
 omega
noncomputable def rSlT (K : PySem.W.Frag) : V -> Option Int -> Option Int -> Hp -> VK -> Prop := fun x lo hi H Q => ∃ a xs, x = .ref a /\ SqT K H a xs /\
 ¬ (HT.sIx xs.length 0 lo = 0 /\ HT.sIx xs.length xs.length hi = xs.length) /\ ∀ p, H p = none -> Q (.ref p) (upd H p (.tup (b7n xs lo hi)))
noncomputable def rLtT (K : PySem.W.Frag) : R2 := fun x y H Q => ∃ a b ns ms, x = .ref a /\ y = .ref b /\ SqT K H a (ns.map V.int) /\ SqT K H b (ms.map V.int) /\ Q (.bl (HT.lexLt ns ms)) H
noncomputable def rCatT (K : PySem.W.Frag) : R2 := fun x y H Q => ∃ a b xs ys, x = .ref a /\ y = .ref b /\ SqT K H a xs /\ SqT K H b ys /\ xs ≠ [] /\ xs.length + ys.length <= sizeLine /\
 (ys = [] -> Q (.ref a) H) /\ (ys ≠ [] -> ∀ p, H p = none -> Q (.ref p) (upd H p (.tup (xs ++ ys))))
end
end L2
namespace L2
open PySem PySem.Spec PyProof.Rows
noncomputable def ixN (n : Nat) (i : Int) : Option Nat := if 0 <= i then (if i < n then some i.toNat else none) else if -(n : Int) <= i then some (i + n).toNat else none
noncomputable def atI {α : Type} (xs : List α) (i : Int) : Option α := (ixN xs.length i).bind fun j => xs[j]?
theorem d2o {n : Nat} {i : Int} {j : Nat} (h : ixN n i = some j) : seqIndex? i n = some j /\ j < n /\ -(n : Int) <= i /\ i < n := by
 unfold ixN at h
 by_cases h0 : 0 <= i
 ·rw [if_pos h0] at h
  by_cases h1 : i < n
  ·rw [if_pos h1] at h
   have e : i.toNat = j := Option.some.inj h
   exact ⟨by rw [seqIndex_of h0 h1, e], by omega, by omega, h1⟩
  ·rw [if_neg h1] at h; cases h
 ·rw [if_neg h0] at h
  by_cases h1 : -(n : Int) <= i
  ·rw [if_pos h1] at h
   have e : (i + n).toNat = j := Option.some.inj h
   exact ⟨by rw [seqIndex_neg (by omega) h1, e], by omega, h1, by omega⟩
  ·rw [if_neg h1] at h; cases h
theorem c0h {α : Type} {xs : List α} {i : Int} {v : α} (h : atI xs i = some v) : ∃ j, seqIndex? i xs.length = some j /\ xs[j]? = some v /\ j < xs.length /\ -(xs.length : Int) <= i /\ i < xs.length := by
 unfold atI at h
 cases e : ixN xs.length i with
 | none => rw [e] at h; cases h
 | some j =>
  rw [e] at h
  obtain ⟨h1, h2, h3, h4⟩ := d2o e
  exact ⟨j, h1, h, h2, h3, h4⟩
theorem a4w {α : Type} {xs : List α} {j : Nat} {v : α} (h : xs[j]? = some v) : atI xs (j : Int) = some v := by
 have hj : j < xs.length := (List.getElem?_eq_some_iff.mp h).1
 have e : ixN xs.length (j : Int) = some j := by
  unfold ixN
  rw [if_pos (by omega), if_pos (by omega)]; simp
 unfold atI; rw [e]; exact h
noncomputable def d2p (b : Expr) : Prop := ∀ o i, subscripted b false o i = operate [o, i] (getItem o i)
noncomputable def IxR (X : Cx) (r : R2) : Prop :=
 ∀ (value slice : Expr) (pins : List (Addr × Obj)) (s : Shared) (σ : St) (H : Hp) (x y : V) (v u : Value) (Q : VK), Inv X pins σ H s -> RelV x v -> RelV y u -> r x y H Q ->
  subscripted slice false v u = operate [v, u] (getItem v u) -> wpAny (model X.prog X.w) X.A (subscriptTail value slice v u) (EP X pins σ Q) X.xe s
noncomputable def MtR (X : Cx) (id : String) (r : V -> List V -> Hp -> VK -> Prop) : Prop :=
 ∀ (pins : List (Addr × Obj)) (s : Shared) (σ : St) (H : Hp) (x : V) (xs : List V) (v : Value) (us : List Value) (Q : VK), Inv X pins σ H s -> RelV x v -> Vals xs us -> r x xs H Q ->
  wpAny (model X.prog X.w) X.A (call (.builtin id) (v :: us)) (EP X pins σ Q) X.xe s
section
variable {X : Cx} {a b : Expr} {ta tb : TE} {pos : Pos}
theorem IxR.or {r r' : R2} (h : IxR X r) (h' : IxR X r') : IxR X (fun x y H Q => r x y H Q \/ r' x y H Q) := by
 intro value slice pins s σ H x y v u Q I rx ry q hs
 rcases q with q | q
 ·exact h value slice pins s σ H x y v u Q I rx ry q hs
 ·exact h' value slice pins s σ H x y v u Q I rx ry q hs
theorem MtR.or {id : String} {r r' : V -> List V -> Hp -> VK -> Prop} (h : MtR X id r) (h' : MtR X id r') : MtR X id (fun x xs H Q => r x xs H Q \/ r' x xs H Q) := by
 intro pins s σ H x xs v us Q I rx rs q
 rcases q with q | q
 ·exact h pins s σ H x xs v us Q I rx rs q
 ·exact h' pins s σ H x xs v us Q I rx rs q
theorem a7o {r : R2} (hr : IxR X r) (ha : PE X a ta) (hb : PE X b tb) (hs : d2p b) : PE X (.Subscript a b pos) (tOp r ta tb) := by
 intro pins s σ H Q I h
 exact Subscript_ (f1w ha hb I h fun v u s2 x y H2 I2 rx ry q => hr a b pins s2 σ H2 x y v u Q I2 rx ry q (hs _ _))
noncomputable def f5h (K : PySem.W.Frag) : R2 := fun x y H Q => ∃ p xs i v, x = .ref p /\ y = .int i /\ SqL K H p xs /\ atI xs i = some v /\ Q v H
noncomputable def f5i (K : PySem.W.Frag) : R2 := fun x y H Q => ∃ p xs i v, x = .ref p /\ y = .int i /\ SqT K H p xs /\ atI xs i = some v /\ Q v H
noncomputable def f5j : R2 := fun x y H Q => ∃ z i c, x = .str z /\ y = .int i /\ z.length <= sizeLine /\ atI z.cps.toList i = some c /\ Q (.str ⟨#[c]⟩) H
theorem c5h : IxR X (f5h X.K) := by
 intro value slice pins s σ H x y v u Q I rx ry h hs
 obtain ⟨p, xs, i, z, rfl, rfl, hq, he, q⟩ := h
 cases rx
 obtain ⟨t, rfl⟩ := ry
 obtain ⟨its, r, pl, hz⟩ := I.list hq
 obtain ⟨j, h1, h2, h3, h4, h5⟩ := c0h he
 obtain ⟨w, ew, rw'⟩ := r.get h2
 have hl := r.length
 have hn := b7p
 have fin : EP X pins σ Q w s := ⟨z, H, I, rw', q⟩
 by_cases h0 : 0 <= i
 ·have hj : i.toNat = j := by
   rw [seqIndex_of h0 h5] at h1
   exact Option.some.inj h1
  exact item_listR pl.isList h0 (by omega) (by rw [hj]; simpa using ew) fin hs
 ·have hj : (i + (its.toArray.size : Int)).toNat = j := by
   rw [seqIndex_neg (by omega) h4] at h1
   rw [List.size_toArray, <- hl]
   exact Option.some.inj h1
  exact subscriptTail_builtinR (x := w) pl.isList.typeIs slot_list_getitem.lookup
   (wpAny_getItem_list_neg (Q := fun r s' => r = w /\ EP X pins σ Q r s') pl.isList (by omega) (by rw [List.size_toArray] <;> omega) (by omega) (by rw [hj]; simpa using ew) ⟨rfl, fin⟩) hs
theorem d6k : IxR X (f5i X.K) := by
 intro value slice pins s σ H x y v u Q I rx ry h hs
 obtain ⟨p, xs, i, z, rfl, rfl, hq, he, q⟩ := h
 cases rx
 obtain ⟨t, rfl⟩ := ry
 obtain ⟨its, r, pl, hz⟩ := I.tuple hq
 obtain ⟨j, h1, h2, h3, h4, h5⟩ := c0h he
 obtain ⟨w, ew, rw'⟩ := r.get h2
 have hl := r.length
 have hn := b7p
 have fin : EP X pins σ Q w s := ⟨z, H, I, rw', q⟩
 exact subscriptTail_builtinR (x := w) pl.typeIs slot_tuple_getitem.lookup
  (getItem_tuple (j := j) (Q := fun r s' => r = w /\ EP X pins σ Q r s') pl (by omega) (by omega) (by rw [List.size_toArray, <- hl]; exact h1) (by simpa using ew) ⟨rfl, fin⟩) hs
theorem d6l : IxR X f5j := by
 intro value slice pins s σ H x y v u Q I rx ry h hs
 obtain ⟨z, i, c, rfl, rfl, hz, he, q⟩ := h
 obtain ⟨t, rfl⟩ := rx
 obtain ⟨t', rfl⟩ := ry
 obtain ⟨j, h1, h2, h3, h4, h5⟩ := c0h he
 have hl : z.cps.toList.length = z.length := by simp [Str.length]
 rw [hl] at h1 h4 h5
 have hn := b7p
 exact tail_any (typeIs_str s z t) slot_str_getitem.lookup (getItem_str (c := c) (by
  have e1 : decide (i < -(2 ^ 63 : Int)) = false := decide_eq_false (by omega)
  have e2 : decide (i ≥ 2 ^ 63) = false := decide_eq_false (by omega)
  rw [e1, e2, Bool.or_false]) (by rw [h1]; simpa using h2) ⟨.str ⟨#[c]⟩, H, I.tok _, ⟨_, rfl⟩, q⟩) hs
noncomputable def rIx (K : PySem.W.Frag) : R2 := fun x y H Q => f5h K x y H Q \/ f5i K x y H Q \/ f5j x y H Q
theorem Inv.lst {pins : List (Addr × Obj)} {σ : St} {H : Hp} {s : Shared} {p : Addr} {xs : List V} (I : Inv X pins σ H s) (h : H p = some (.lst xs)) :
  ∃ (its : List Value) (n : Nat), Vals xs its ∧ s.heap.get? p = some { cls := .type "list", data := .seq its.toArray n } ∧ xs.length ≤ sizeLine := by
 obtain ⟨z, its, n, r, e⟩ := I.hok p _ h
 exact ⟨its, n, r, e, z⟩
noncomputable def rSetL : V -> V -> V -> Hp -> (Hp -> Prop) -> Prop := fun o i v H Q => ∃ p xs k j, o = .ref p /\ i = .int k /\ H p = some (.lst xs) /\ ixN xs.length k = some j /\ Q (upd H p (.lst (xs.set j v)))
theorem b7v (lo hi : Option Int) (n : Nat) : (sliceBounds lo hi none n).1 = ((HT.sIx n 0 lo : Nat) : Int) /\ (sliceBounds lo hi none n).2.1 = ((HT.sIx n n hi : Nat) : Int) /\ (sliceBounds lo hi none n).2.2 = 1 := by
 refine ⟨?_, ?_, rfl⟩
 ·cases lo with
  | none => simp [sliceBounds, HT.sIx]
  | some i =>
   simp only [sliceBounds, HT.sIx, Option.getD_none, show (1 : Int) > 0 by decide, if_true]
   by_cases h : i < 0
   ·simp only [h, if_true] <;> omega
   ·simp only [h, if_false] <;> omega
 ·cases hi with
  | none => simp [sliceBounds, HT.sIx]
  | some i =>
   simp only [sliceBounds, HT.sIx, Option.getD_none, show (1 : Int) > 0 by decide, if_true]
   by_cases h : i < 0
   ·simp only [h, if_true] <;> omega
   ·simp only [h, if_false] <;> omega
theorem b6l (its : List Value) (lo hi : Option Int) : slicePick its.toArray lo hi none = ((its.drop (HT.sIx its.length 0 lo)).take (HT.sIx its.length its.length hi - HT.sIx its.length 0 lo)).toArray := by
 obtain ⟨h1, h2, h3⟩ := b7v lo hi its.toArray.size
 unfold slicePick
 rw [h1, h2, h3]
 simp only [sliceRange_one, pick_run, List.size_toArray] <;> rfl
noncomputable def rSlL (K : PySem.W.Frag) : V -> Option Int -> Option Int -> Hp -> VK -> Prop := fun x lo hi H Q => ∃ a xs, x = .ref a /\ SqL K H a xs /\ ∀ p, H p = none -> Q (.ref p) (upd H p (.lst (b7n xs lo hi)))
theorem c5i : SlR X (rSlL X.K) := by
 intro pins s σ H x v vl vu lo hi sl Q I rx hs pl pu h
 obtain ⟨a, xs, rfl, hx, q⟩ := h
 cases rx
 obtain ⟨its, r, ht, hz⟩ := I.list hx
 have hlen := r.length
 refine ⟨"list", _, slot_list_getitem.lookup, ht.isList.typeIs, ?_⟩
 refine wpAny_getItem_list_slice ht.isList hs pl pu .none (by simp) ?_ (by rw [List.size_toArray] <;> omega)
 rw [b6l, <- hlen]
 refine ⟨.ref s.heap.objs.size, _, I.laid (t' := s.toks) (o := .lst (b7n xs lo hi)) (fun b ob q => Heap.get?_push_of_some _ q) (Nat.le_refl _) ?_, rfl, q _ (I.hok.fresh (Nat.le_refl _))⟩
 exact ⟨Nat.le_trans (c0g xs lo hi) hz, _, 0, (r.drop (HT.sIx xs.length 0 lo)).take (HT.sIx xs.length xs.length hi - HT.sIx xs.length 0 lo), Heap.get?_push_size _ rfl⟩
noncomputable def a6y : V -> Bool
 | .non => true
 | .bl _ => true
 | .int _ => true
 | .str _ => true
 | _ => false
noncomputable def eqV : V -> V -> Bool
 | .non, .non => true
 | .bl a, .bl b => a == b
 | .bl a, .int b => (if a then 1 else 0) == b
 | .int a, .bl b => a == (if b then 1 else 0)
 | .int a, .int b => a == b
 | .str a, .str b => a == b
 | _, _ => false
theorem d6m {A : Around} {s : Shared} {y x : V} {u v : Value} (ry : RelV y u) (rx : RelV x v) (fy : a6y y = true) (fx : a6y x = true) : SeqAt.EqAt A s u v (eqV y x) := by
 cases y with
 | non =>
  cases ry
  cases x with
  | non => cases rx; exact SeqAt.EqAt.same _
  | bl b => cases rx; exact SeqAt.EqAt.none_bool b
  | int b => obtain ⟨t, rfl⟩ := rx; exact SeqAt.EqAt.none_int b t
  | str b => obtain ⟨t, rfl⟩ := rx; exact SeqAt.EqAt.none_str b t
  | _ => exact absurd (show false = true from fx) Bool.false_ne_true
 | bl a =>
  cases ry
  cases x with
  | non => cases rx; exact SeqAt.EqAt.bool_none a
  | bl b => cases rx; exact SeqAt.EqAt.bool_bool a b
  | int b => obtain ⟨t, rfl⟩ := rx; exact SeqAt.EqAt.bool_int a b t
  | str b => obtain ⟨t, rfl⟩ := rx; exact SeqAt.EqAt.bool_str a b t
  | _ => exact absurd (show false = true from fx) Bool.false_ne_true
 | int a =>
  obtain ⟨t', rfl⟩ := ry
  cases x with
  | non => cases rx; exact SeqAt.EqAt.int_none a t'
  | bl b => cases rx; exact SeqAt.EqAt.int_bool a t' b
  | int b => obtain ⟨t, rfl⟩ := rx; exact SeqAt.EqAt.int_int a t' b t
  | str b => obtain ⟨t, rfl⟩ := rx; exact SeqAt.EqAt.int_str a t' b t
  | _ => exact absurd (show false = true from fx) Bool.false_ne_true
 | str a =>
  obtain ⟨t', rfl⟩ := ry
  cases x with
  | non => cases rx; exact SeqAt.EqAt.str_none a t'
  | bl b => cases rx; exact SeqAt.EqAt.str_bool a t' b
  | int b => obtain ⟨t, rfl⟩ := rx; exact SeqAt.EqAt.str_int a t' b t
  | str b => obtain ⟨t, rfl⟩ := rx; exact SeqAt.EqAt.str_str a t' b t
  | _ => exact absurd (show false = true from fx) Bool.false_ne_true
 | _ => exact absurd (show false = true from fy) Bool.false_ne_true
noncomputable def eqU (x : V) (u : Value) : Bool := match u with
 | .none => eqV .non x
 | .bool b => eqV (.bl b) x
 | .int i _ => eqV (.int i) x
 | .str z _ => eqV (.str z) x
 | _ => false
theorem d0m {x y : V} {u : Value} (r : RelV y u) (f : a6y y = true) : eqU x u = eqV y x := by
 cases y with
 | non => cases r; rfl
 | bl b => cases r; rfl
 | int i => obtain ⟨t, rfl⟩ := r; rfl
 | str z => obtain ⟨t, rfl⟩ := r; rfl
 | _ => exact absurd (show false = true from f) Bool.false_ne_true
theorem b4j {x : V} : ∀ {xs : List V} {us : List Value}, Vals xs us -> xs.all a6y = true -> us.any (eqU x) = xs.any fun y => eqV y x
 | _, _, .nil, _ => rfl
 | y :: xs, u :: us, .cons r t, f => by
  rw [List.all_cons, Bool.and_eq_true] at f
  rw [List.any_cons, List.any_cons, d0m r f.1, b4j t f.2]
theorem b2h {A : Around} {s : Shared} {x : V} {v : Value} (rx : RelV x v) (fx : a6y x = true) : ∀ {xs : List V} {us : List Value}, Vals xs us -> xs.all a6y = true -> ∀ u ∈ us, SeqAt.EqAt A s u v (eqU x u)
 | _, _, .nil, _ => fun u hu => by cases hu
 | y :: xs, u :: us, .cons r t, f => fun u' hu => by
  rw [List.all_cons, Bool.and_eq_true] at f
  rcases List.mem_cons.mp hu with rfl | hu
  ·rw [d0m r f.1]; exact d6m r rx f.1 fx
  ·exact b2h rx fx t f.2 u' hu
noncomputable def inV (x : V) (xs : List V) : Bool := xs.any fun y => eqV y x
noncomputable def rIn (K : PySem.W.Frag) (neg : Bool) : R2 := fun x y H Q => ∃ p xs, y = .ref p /\ (SqL K H p xs \/ SqT K H p xs) /\ a6y x = true /\ xs.all a6y = true /\ Q (.bl (if neg then !inV x xs else inV x xs)) H
theorem b7w : OpR X (compareOp .In) (rIn X.K false) := by
 intro pins s σ H x y v u Q I rx ry h
 obtain ⟨p, xs, rfl, hq, fx, fs, q⟩ := h
 cases ry
 rcases hq with hq | hq
 ·obtain ⟨its, r, pl, hz⟩ := I.list hq
  refine SeqAt.in_listAt (eqU x) pl.isList (fun w hw => b2h rx fx r fs w (by simpa using hw)) ⟨.bl _, H, I, rfl, ?_⟩
  rw [show its.toArray.any (eqU x) = its.any (eqU x) by simp, b4j r fs]
  exact q
 ·obtain ⟨its, r, pl, hz⟩ := I.tuple hq
  refine SeqAt.in_tupleAt (eqU x) pl (fun w hw => b2h rx fx r fs w (by simpa using hw)) ⟨.bl _, H, I, rfl, ?_⟩
  rw [show its.toArray.any (eqU x) = its.any (eqU x) by simp, b4j r fs]
  exact q
theorem b3l : OpR X (compareOp .NotIn) (rIn X.K true) := by
 intro pins s σ H x y v u Q I rx ry h
 obtain ⟨p, xs, rfl, hq, fx, fs, q⟩ := h
 cases ry
 rcases hq with hq | hq
 ·obtain ⟨its, r, pl, hz⟩ := I.list hq
  refine SeqAt.notIn_listAt (eqU x) pl.isList (fun w hw => b2h rx fx r fs w (by simpa using hw)) ⟨.bl _, H, I, rfl, ?_⟩
  rw [show its.toArray.any (eqU x) = its.any (eqU x) by simp, b4j r fs]
  exact q
 ·obtain ⟨its, r, pl, hz⟩ := I.tuple hq
  refine SeqAt.notIn_tupleAt (eqU x) pl (fun w hw => b2h rx fx r fs w (by simpa using hw)) ⟨.bl _, H, I, rfl, ?_⟩
  rw [show its.toArray.any (eqU x) = its.any (eqU x) by simp, b4j r fs]
  exact q
theorem b7y : OpR X (compareOp .NotIn) (fun x y H Q => ∃ i j, x = .str i /\ y = .str j /\ Q (.bl (!(!(Builtin.Str.occurrences j i 0 j.length 1).isEmpty))) H) := by
 intro pins s σ H x y v u Q I rx ry h
 obtain ⟨i, j, rfl, rfl, q⟩ := h
 obtain ⟨t, rfl⟩ := rx
 obtain ⟨t', rfl⟩ := ry
 exact notIn_str ⟨.bl _, H, I, rfl, q⟩
theorem a9j : a9i X (.builtin "len") (fun xs H Q => ∃ p ys, xs = [.ref p] ∧ (SqL X.K H p ys ∨ SqT X.K H p ys) ∧ Q (.int ys.length) H) := by
 intro pins s σ H xs us Q I r h
 obtain ⟨p, ys, rfl, hq, q⟩ := h
 obtain ⟨u, rfl, rx⟩ := vals1 r
 cases rx
 have hn := b7p
 rcases hq with hq | hq
 ·obtain ⟨its, r', pl, hz⟩ := I.list hq
  have hlen := r'.length
  exact Calls.call_len_list pl.isList (by simp only [List.size_toArray] <;> omega) ⟨.int ys.length, H, I.tok _, ⟨s.toks + 1, by rw [List.size_toArray, hlen]⟩, q⟩
 ·obtain ⟨its, r', pl, hz⟩ := I.tuple hq
  have hlen := r'.length
  exact len_tuple pl (by simp only [List.size_toArray] <;> omega) ⟨.int ys.length, H, I.tok _, ⟨s.toks + 1, by rw [List.size_toArray, hlen]⟩, q⟩
theorem b7z : a9i X (.builtin "len") (fun xs H Q => ∃ z, xs = [.str z] ∧ z.length ≤ sizeLine ∧ Q (.int z.length) H) := by
 intro pins s σ H xs us Q I r h
 obtain ⟨z, rfl, hz, q⟩ := h
 obtain ⟨u, rfl, t, rfl⟩ := vals1 r
 have hn := b7p
 exact len_str (by omega) ⟨.int z.length, H, I.tok _, ⟨_, rfl⟩, q⟩
theorem a9i.or {f : Value} {r r' : List V -> Hp -> VK -> Prop} (h : a9i X f r) (h' : a9i X f r') : a9i X f (fun xs H Q => r xs H Q \/ r' xs H Q) := by
 intro pins s σ H xs us Q I rs q
 rcases q with q | q
 ·exact h pins s σ H xs us Q I rs q
 ·exact h' pins s σ H xs us Q I rs q
noncomputable def tyV (K : PySem.W.Frag) (T : String) (x : V) (H : Hp) : Prop := match x with
 | .str _ => T = "str"
 | .int _ => T = "int"
 | .ref p => (T = "list" ∧ ∃ xs, SqL K H p xs) ∨ (T = "tuple" ∧ ∃ o, K.lookup p = some o ∧ o.cls = .type "tuple" ∧ o.dict = none) ∨
   (T = "dict" ∧ ((∃ kvs, H p = some (.dK kvs)) ∨ ∃ kvs, H p = some (.dT kvs))) ∨ (T = "set" ∧ ∃ S n, H p = some (.set S n))
 | _ => False
theorem d0n {pins : List (Addr × Obj)} {σ : St} {H : Hp} {s : Shared} {T : String} {x : V} {v : Value} (I : Inv X pins σ H s) (r : RelV x v) (ty : tyV X.K T x H) :
  s.TypeIs v T /\ ∀ a, v = .ref a -> ∃ ob, s.heap.get? a = some ob /\ ob.dict = none := by
 cases x with
 | str z =>
  obtain ⟨t, rfl⟩ := r
  cases (show T = "str" from ty)
  exact ⟨typeIs_str s z t, fun _ e => nomatch e⟩
 | int i =>
  obtain ⟨t, rfl⟩ := r
  cases (show T = "int" from ty)
  exact ⟨typeIs_int s i t, fun _ e => nomatch e⟩
 | ref p =>
  cases r
  rcases ty with ⟨rfl, xs, hq⟩ | ⟨rfl, o, hk, hc, hd⟩ | ⟨rfl, hk⟩ | ⟨rfl, S, n, hk⟩
  ·obtain ⟨its, _, pl, _⟩ := I.list hq
   refine ⟨pl.isList.typeIs, fun a e => ?_⟩
   cases e
   obtain ⟨o, n, e, c, hd, _⟩ := pl
   exact ⟨o, e, hd⟩
  ·refine ⟨⟨o, I.kIn p o hk, hc⟩, fun a e => ?_⟩
   cases e
   exact ⟨o, I.kIn _ o hk, hd⟩
  ·have z : ∃ o, s.heap.get? p = some o /\ o.ExactDict := by
    rcases hk with ⟨kvs, hk⟩ | ⟨kvs, hk⟩
    ·obtain ⟨_, _, _, _, o, _, _, e, ex, _⟩ := I.hok p _ hk
     exact ⟨o, e, ex⟩
    ·obtain ⟨_, _, _, _, o, _, _, e, ex, _⟩ := I.hok p _ hk
     exact ⟨o, e, ex⟩
   obtain ⟨o, e, ex⟩ := z
   refine ⟨⟨o, e, ex.1⟩, fun a e2 => ?_⟩
   cases e2
   exact ⟨o, e, ex.2.1⟩
  ·obtain ⟨o, _, _, _, e, ex, _⟩ := I.hok p _ hk
   refine ⟨⟨o, e, ex.1⟩, fun a e2 => ?_⟩
   cases e2
   exact ⟨o, e, ex.2.1⟩
 | _ => exact False.elim ty
noncomputable def tBM0 (K : PySem.W.Frag) (T : String) (r : V -> List V -> Hp -> VK -> Prop) (to : TE) : TE := fun σ H Q => to σ H fun x H1 => tyV K T x H1 /\ r x [] H1 Q
noncomputable def tBM (K : PySem.W.Frag) (T : String) (r : V -> List V -> Hp -> VK -> Prop) (to : TE) (t : TA) : TE := fun σ H Q => to σ H fun x H1 => tyV K T x H1 /\ t σ H1 fun xs H2 => r x xs H2 Q
variable {o e : Expr} {es : List Expr} {to : TE} {t : TA} {name : Str} {apos cpos : Pos} {T id : String} {r : V -> List V -> Hp -> VK -> Prop}
/- xs.append(e), list.index on a module's tuple .. are MtR facts of 06m -/
end
end L2
namespace L2
open PySem PySem.Spec PyProof.Rows
noncomputable def MtM (X : Cx) (id : String) (r : V -> List V -> Hp -> VK -> Prop) : Prop :=
 ∀ (pins : List (Addr × Obj)) (s : Shared) (σ : St) (H : Hp) (x : V) (xs : List V) (v : Value) (us : List Value) (Q : VK), Inv X pins σ H s -> RelV x v -> Vals xs us -> r x xs H Q ->
  wpAny (model X.prog X.w) X.A (call (.builtin id) (v :: us)) (EP X pins σ Q) X.xe s
theorem Vals.one : ∀ {x : V} {us : List Value}, Vals [x] us -> ∃ u, us = [u] /\ RelV x u
 | _, _, .cons r .nil => ⟨_, rfl, r⟩
theorem Vals.two : ∀ {x y : V} {us : List Value}, Vals [x, y] us -> ∃ u v, us = [u, v] /\ RelV x u /\ RelV y v
 | _, _, _, .cons r (.cons q .nil) => ⟨_, _, rfl, r, q⟩
theorem Vals.zero : ∀ {us : List Value}, Vals [] us -> us = []
 | _, .nil => rfl
theorem Vals.dropLast {xs : List V} {us : List Value} (h : Vals xs us) : Vals xs.dropLast us.dropLast := by
 induction h with
 | nil => exact .nil
 | cons r t ih =>
  cases t with
  | nil => exact .nil
  | cons q t' => exact .cons r ih
theorem Vals.eraseIdx : ∀ {xs : List V} {us : List Value} (i : Nat), Vals xs us -> Vals (xs.eraseIdx i) (us.eraseIdx i)
 | _, _, _, .nil => .nil
 | _, _, 0, .cons _ t => t
 | _, _, i + 1, .cons r t => .cons r (Vals.eraseIdx i t)
theorem Vals.reverse {xs : List V} {us : List Value} (h : Vals xs us) : Vals xs.reverse us.reverse := by
 induction h with
 | nil => exact .nil
 | cons r t ih => rw [List.reverse_cons, List.reverse_cons]; exact Vals.append ih (.cons r .nil)
theorem Vals.rep {xs : List V} {us : List Value} (h : Vals xs us) : ∀ k : Nat, Vals (List.replicate k xs).flatten (List.replicate k us).flatten
 | 0 => .nil
 | k + 1 => by
  rw [List.replicate_succ, List.replicate_succ, List.flatten_cons, List.flatten_cons]
  exact Vals.append h (Vals.rep h k)
theorem c2w {α : Type} (l : List α) : l.eraseIdx (l.length - 1) = l.dropLast := by
 induction l with
 | nil => rfl
 | cons a r ih =>
  cases r with
  | nil => rfl
  | cons b r =>
   have e : (a :: b :: r).length - 1 = ((b :: r).length - 1) + 1 := by
    have h1 : (a :: b :: r).length = r.length + 2 := rfl
    have h2 : (b :: r).length = r.length + 1 := rfl
    omega
   rw [e, List.eraseIdx_cons_succ, ih]
   all_goals rfl
theorem b8g {α : Type} : ∀ (l : List α) (i : Nat), (l.eraseIdx i).length <= l.length
 | [], _ => Nat.le_refl _
 | _ :: _, 0 => Nat.le_succ _
 | _ :: r, i + 1 => Nat.succ_le_succ (b8g r i)
theorem foldl_rep (its : List Value) : ∀ (k : Nat) (acc : List Value),
  List.foldl (fun x1 x2 => x1 ++ x2) acc.toArray (List.replicate k its.toArray) = (acc ++ (List.replicate k its).flatten).toArray
 | 0, acc => by simp
 | k + 1, acc => by
  have e : acc.toArray ++ its.toArray = (acc ++ its).toArray := by simp
  have e2 : (acc ++ its) ++ (List.replicate k its).flatten = acc ++ (List.replicate (k + 1) its).flatten := by
   rw [List.replicate_succ, List.flatten_cons, List.append_assoc]
  rw [<- e2, <- foldl_rep its k (acc ++ its), <- e, List.replicate_succ, List.foldl_cons]
section
variable {X : Cx} {pins : List (Addr × Obj)} {σ : St} {H : Hp} {s : Shared} {l b : Addr} {xs ys zs : List V}
theorem Inv.f2o {its its' : List Value} {n : Nat} {f : Array Value -> Array Value} {t' : Nat} (I : Inv X pins σ H s) (hH : H l = some (.lst xs))
  (e : s.heap.get? l = some { cls := .type "list", data := .seq its.toArray n }) (hf : f its.toArray = its'.toArray) (hv : Vals ys its') (hz : ys.length ≤ sizeLine) :
  Inv X pins σ (upd H l (.lst ys)) { s with heap := s.heap.update l (Obj.mapSeq f), toks := t' } := by
 have q := PySem.IsL.update e f
 rw [hf] at q
 refine I.write (x := l) (e := l) (by rw [hH]; exact trivial) (.inl rfl) (fun b' u hb hu => (Heap.get?_update_other s.heap (Obj.mapSeq f) (Ne.symm hb)).trans hu) ⟨_, q⟩ ?_
 exact ⟨hz, its', _, hv, q⟩
theorem Inv.f5k {its : List Value} {t' : Nat} (I : Inv X pins σ H s) (hv : Vals ys its) (hz : ys.length <= sizeLine) :
  Inv X pins σ (upd H s.heap.objs.size (.lst ys)) { s with heap := s.heap.push { cls := .type "list", data := .seq its.toArray }, toks := t' } :=
 I.laid (fun _ _ q => Heap.get?_push_of_some _ q) (Nat.le_refl _) ⟨hz, its, 0, hv, Heap.get?_push_size _ rfl⟩
theorem Inv.fresh (I : Inv X pins σ H s) : H s.heap.objs.size = none := I.hok.fresh (Nat.le_refl _)
theorem Inv.d2q (I : Inv X pins σ H s) (hH : H l = some (.lst xs)) : xs.length ≤ sizeLine ∧ ∃ (its : List Value) (n : Nat), Vals xs its ∧ xs.length = its.length ∧ s.heap.get? l = some { cls := .type "list", data := .seq its.toArray n } := by
 obtain ⟨z, its, n, r, e⟩ := I.hok l _ hH
 exact ⟨z, its, n, r, r.length, e⟩
theorem c8n {n : Nat} (h : n <= sizeLine) : Builtin.List.listTooLong n = false := by
 unfold Builtin.List.listTooLong
 exact decide_eq_false (by omega)
end
section
variable {X : Cx}
noncomputable def c5j : V -> List V -> Hp -> VK -> Prop := fun x vs H Q => ∃ l xs y, x = .ref l /\ vs = [y] /\ H l = some (.lst xs) /\ xs.length < sizeLine /\ Q .non (upd H l (.lst (xs ++ [y])))
theorem b2j : MtM X "list.append" c5j := by
 intro pins s σ H x vs v us Q I rx rv h
 obtain ⟨l, xs, y, rfl, rfl, hH, hz, q⟩ := h
 cases rx
 obtain ⟨u, rfl, ru⟩ := rv.one
 obtain ⟨z, its, n, r, hl, e⟩ := I.d2q hH
 refine call_meets F.slot_list_append ⟨_, e, rfl⟩ F.entry_list_append (F.args_list_append_2 _ _) (PySem.list_append l its.toArray n u (by rw [List.size_toArray]; omega)) ⟨e, ?_⟩
 refine ⟨.non, _, I.f2o (its' := its ++ [u]) hH e (by simp) (r.append (.cons ru .nil)) ?_, rfl, q⟩
 rw [List.length_append, List.length_singleton]
 omega
noncomputable def f2p : V -> List V -> Hp -> VK -> Prop := fun x vs H Q => ∃ l b xs zs, x = .ref l /\ vs = [.ref b] /\ H l = some (.lst xs) /\ H b = some (.lst zs) /\ xs.length + zs.length <= sizeLine /\ Q .non (upd H l (.lst (xs ++ zs)))
noncomputable def rPop : V -> List V -> Hp -> VK -> Prop := fun x vs H Q => ∃ l xs y, x = .ref l /\ vs = [] /\ H l = some (.lst xs) /\ xs[xs.length - 1]? = some y /\ Q y (upd H l (.lst xs.dropLast))
theorem d6n : MtM X "list.pop" rPop := by
 intro pins s σ H x vs v us Q I rx rv h
 obtain ⟨l, xs, y, rfl, rfl, hH, hy, q⟩ := h
 cases rx
 have hus := rv.zero
 subst hus
 obtain ⟨z, its, n, r, hl, e⟩ := I.d2q hH
 obtain ⟨u, hu, ru⟩ := r.get hy
 have hy' : its.toArray[its.toArray.size - 1]? = some u := by
  show its.toArray[its.length - 1]? = some u
  rw [<- Array.getElem?_toList, <- hl]
  exact hu
 refine call_meets F.slot_list_pop ⟨_, e, rfl⟩ F.entry_list_pop (F.args_list_pop_1 _) (MeetsSeq.list_pop_last l its.toArray n u hy' (by rw [List.size_toArray]; omega)) ⟨e, ?_⟩
 refine ⟨y, _, I.f2o (its' := its.dropLast) hH e ?_ r.dropLast ?_, ru, q⟩
 ·show its.toArray.eraseIdxIfInBounds (its.toArray.size - 1) = its.dropLast.toArray
  rw [List.size_toArray, List.eraseIdxIfInBounds_toArray, c2w]
 ·rw [List.length_dropLast]
  omega
noncomputable def d6o : V -> List V -> Hp -> VK -> Prop := fun x vs H Q => ∃ l xs i k y, x = .ref l /\ vs = [.int i] /\ H l = some (.lst xs) /\ -(2 ^ 63) <= i /\ i < 2 ^ 63 /\ seqIndex? i xs.length = some k /\ xs[k]? = some y /\ Q y (upd H l (.lst (xs.eraseIdx k)))
theorem c8o : MtM X "list.pop" d6o := by
 intro pins s σ H x vs v us Q I rx rv h
 obtain ⟨l, xs, i, k, y, rfl, rfl, hH, h1, h2, hk, hy, q⟩ := h
 cases rx
 obtain ⟨u, rfl, ru⟩ := rv.one
 obtain ⟨t, rfl⟩ := ru
 obtain ⟨z, its, n, r, hl, e⟩ := I.d2q hH
 obtain ⟨w, hw, rw'⟩ := r.get hy
 refine call_meets F.slot_list_pop ⟨_, e, rfl⟩ F.entry_list_pop (F.args_list_pop_2 _ _)
  (MeetsSeq.list_pop_at l its.toArray n i t k w (fitsIndex_both h1 h2) (by rw [List.size_toArray, <- hl]; exact hk) (by rw [<- Array.getElem?_toList]; exact hw) (by rw [List.size_toArray]; omega)) ⟨e, ?_⟩
 refine ⟨y, _, I.f2o (its' := its.eraseIdx k) hH e ?_ (r.eraseIdx k) ?_, rw', q⟩
 ·show its.toArray.eraseIdxIfInBounds k = (its.eraseIdx k).toArray
  rw [List.eraseIdxIfInBounds_toArray]
 ·have := b8g xs k
  omega
noncomputable def f0z : V -> List V -> Hp -> VK -> Prop := fun x vs H Q => ∃ l xs, x = .ref l /\ vs = [] /\ H l = some (.lst xs) /\ Q .non (upd H l (.lst xs.reverse))
noncomputable def f5l : V -> List V -> Hp -> VK -> Prop := fun x vs H Q => ∃ l xs, x = .ref l /\ vs = [] /\ H l = some (.lst xs) /\ Q .non (upd H l (.lst []))
noncomputable def rCat : R2 := fun x y H Q => ∃ l b xs zs, x = .ref l /\ y = .ref b /\ H l = some (.lst xs) /\ H b = some (.lst zs) /\ xs.length + zs.length <= sizeLine /\ ∀ p, H p = none -> Q (.ref p) (upd H p (.lst (xs ++ zs)))
theorem d6p : OpR X (binaryOp .Add) rCat := by
 intro pins s σ H x y v u Q I rx ry h
 obtain ⟨l, b, xs, zs, rfl, rfl, hH, hB, hz, q⟩ := h
 cases rx
 cases ry
 obtain ⟨z, its, n, r, hl, e⟩ := I.d2q hH
 obtain ⟨z2, its2, n2, r2, hl2, e2⟩ := I.d2q hB
 refine PySem.P.add_list e e2 ?_ (by rw [List.size_toArray, List.size_toArray]; omega)
 have ea : its.toArray ++ its2.toArray = (its ++ its2).toArray := by simp
 rw [ea]
 exact ⟨.ref _, _, I.f5k (t' := s.toks) (r.append r2) (by rw [List.length_append]; omega), rfl, q _ I.fresh⟩
noncomputable def rRep : R2 := fun x y H Q => ∃ l k xs, x = .ref l /\ y = .int k /\ H l = some (.lst xs) /\ -(2 ^ 63) <= k /\ k < 2 ^ 63 /\ xs.length * k.toNat <= sizeLine /\
 ∀ p, H p = none -> Q (.ref p) (upd H p (.lst (List.replicate k.toNat xs).flatten))
theorem len_rep {α : Type} (xs : List α) (k : Nat) : (List.replicate k xs).flatten.length = k * xs.length := by
 induction k with
 | zero => simp
 | succ k ih => rw [List.replicate_succ, List.flatten_cons, List.length_append, ih, Nat.succ_mul, Nat.add_comm]
theorem d6q : OpR X (binaryOp .Mult) rRep := by
 intro pins s σ H x y v u Q I rx ry h
 obtain ⟨l, k, xs, rfl, rfl, hH, h1, h2, hz, q⟩ := h
 cases rx
 obtain ⟨t, rfl⟩ := ry
 obtain ⟨z, its, n, r, hl, e⟩ := I.d2q hH
 have hlen : its.toArray.size * k.toNat <= sizeLine := by rw [List.size_toArray, <- hl]; exact hz
 have hcap : ¬ its.toArray.size * k.toNat > (2 ^ 63 - 1) / 8 := by
  have : (sizeLine : Nat) <= (2 ^ 63 - 1) / 8 := by decide
  omega
 have hfit : ¬ (!Builtin.List.listFitsIndex k) = true := by
  rw [fitsIndex_both h1 h2]
  exact Bool.false_ne_true
 have f2q : ¬ Builtin.List.listTooLong (its.toArray.size * k.toNat) = true := by
  rw [c8n hlen]
  exact Bool.false_ne_true
 have hnew : List.foldl (fun x1 x2 => x1 ++ x2) #[] (List.replicate (if its.toArray.isEmpty = true then 0 else k.toNat) its.toArray) = (List.replicate k.toNat its).flatten.toArray := by
  have f0 : ∀ m : Nat, List.foldl (fun x1 x2 => x1 ++ x2) #[] (List.replicate m its.toArray) = (List.replicate m its).flatten.toArray := fun m => by
   have := foldl_rep its m []
   rw [List.nil_append] at this
   exact this
  rw [f0]
  cases its with
  | nil => simp
  | cons a r' => rw [if_neg (by simp)]
 refine wpAny_binaryOp_repeat_ref (T := "list") (U := "int") (by decide) ⟨_, e, rfl⟩ (fun s' => typeIs_int s' k t) noFill_list_mul F.fills_int_mul F.slot_int_rmul repeat_list F.slot_int_index.lookup
  (call_meets F.slot_int_rmul (typeIs_int s k t) F.entry_int_rmul (F.args_int_rmul_2 _ _) (int___rmul___int_list k t l its.toArray n)
   ⟨e, rfl, ⟨_, e, rfl⟩, call_meets F.slot_list_mul ⟨_, e, rfl⟩ F.entry_list_mul (F.args_list_mul_2 _ _) (AutoListH.list___mul___list_int_3 l its.toArray n k t hfit hcap f2q) ⟨e, ?_⟩⟩)
 rw [hnew]
 exact ⟨.ref _, _, I.f5k (t' := s.toks) (r.rep k.toNat) (by rw [len_rep, Nat.mul_comm]; exact hz), rfl, q _ I.fresh⟩
end
section
variable {prog : Program} {w : World} {A : Around} {E : Value -> Shared -> Prop} {s : Shared}
end
section
variable {X : Cx}
end
end L2
namespace Att
open PySem PySem.W PySem.Calls PyProof.Rows
theorem b4k {P : Params} {h : Heap} : ∀ (ns : List Int) (vs : List Value), WellAll P h vs (ns.map WData.int) -> IntsAre vs ns := by
 intro ns
 induction ns with
 | nil =>
  intro vs w
  rw [List.map_nil] at w
  cases w
  exact .nil
 | cons n ns ih =>
  intro vs w
  rw [List.map_cons] at w
  cases w with
  | cons a b =>
   cases a
   exact .cons _ _ (ih _ b)
theorem c5k {l : OpenLaw} {n : Nat} (hn : l.most = some n) {P : Params} {h : Heap} {args : List WData} {vals : List Value}
  (hpre : l.row.toRowW.claim.pre args = true) (hwl : WellAll P h vals args) :
  ∃ a vs ns, vals = [Value.ref a] ∧ args = [WData.list (ns.map WData.int)] ∧ h.get? a = some { cls := .type "list", data := .seq vs.toArray } ∧ IntsAre vs ns ∧ ns.length ≤ n := by
 have hsh : WShape.hasAll [] args [.list .int] = true := (pre_splitW hpre).1
 have hc : l.pre.holds [] { args := args } = true := (pre_splitW hpre).2
 obtain ⟨d, r, rfl, h1, h2⟩ := hasAllW_cons hsh
 obtain rfl := hasAllW_nil h2
 obtain ⟨xs, rfl, h3⟩ := hasW_list h1
 obtain ⟨ns, rfl⟩ := items_int h3
 have hlen : ns.length <= n := by
  unfold OpenLaw.pre at hc
  have h4 : (WTm.not (.lt (.lit (.int (n : Int))) (.len (.arg 0)))).holds [] { args := [.list (ns.map .int)] } = true := by
   have h4 := (holds_andW hc).1
   rw [hn] at h4
   exact h4
  have h5 := condW_of h4 (w_not (w_lt w_lit (w_len_list (w_arg rfl))))
  rw [List.length_map] at h5
  refine Nat.le_of_not_lt fun q => ?_
  have q' : (n : Int) < ((ns.length : Nat) : Int) := by omega
  first
   | (rw [decide_eq_true q'] at h5; exact absurd h5 (by decide))
   | (simp at h5; omega)
 cases hwl with
 | cons w1 w2 =>
  cases w2
  cases w1 with
  | list ho hall => exact ⟨_, _, ns, rfl, rfl, ho, b4k ns _ hall, hlen⟩
theorem c5l (l : OpenLaw) (args : List WData) : l.row.toRowW.claim.post args (.bool true) args = true :=
 postW_of (r := l.row.toRowW) (X := (true == true))
  (show WShape.has [] (.bool true) .bool = true by first | rfl | decide | simp [WShape.has, WShape.arms, WShape.armsAll])
  (show (WTm.eq .res (.lit (.bool true))).value [] { args := args, res := some (.bool true), after := args } = some (.bool (true == true)) from w_eq_bool (w_res rfl) w_lit) rfl
section
variable {prog : Program} {w : World} {A : Around} {E : Value -> Shared -> Prop} {s : Shared} {K : Frag}
noncomputable def f5m (h : Heap) : Heap := { h with objs := #[] }
noncomputable def ledger (h : Heap) (L d : Addr) : List (Addr × Obj) := (List.range h.objs.size).filterMap fun a => if a = L \/ a = d then none else (h.get? a).map fun o => (a, o)
end
end Att
namespace L2
open PySem PySem.Spec PyProof.Rows
theorem b8h : ∀ {vs : List Value} {ns : List Int}, IntsAre vs ns -> Vals (ns.map V.int) vs
 | _, _, .nil => .nil
 | _, _, .cons n t h => .cons ⟨t, rfl⟩ (b8h h)
noncomputable def Only (H : Hp) : Prop := ∀ b, H b = none \/ ∃ o xs, H b = some (.frz o (.lst xs))
theorem c8p {P : Program} {w : World} {K : PySem.W.Frag} {mg mb : Str -> Option Value} {CX : CXT} {k : Nat} {fa a : Addr} {fd : FuncData} {x : Str} {sp : Sp} {s₁ : Shared} {vs : List Value} {ns : List Int}
  (KX : K.In s₁.heap) (hns : s₁.heap.Ns mainGlobals mg) (hb : s₁.heap.Ns builtinsNs mb) (hbb : ∀ x : Str, x ≠ "__name__" → mb x = bootBuiltins x) (hlim : s₁.heap.NoLimit) (hg : s₁.gens = #[])
  (ha : s₁.heap.get? a = some { cls := .type "list", data := .seq vs.toArray }) (hi : IntsAre vs ns) (hl : ns.length ≤ sizeLine) (hr : a5u k callerA)
  (F : ∀ base : Heap, K.In base -> base.Ns mainGlobals mg -> a4n P w K mg base CX k fa fd [x] sp) (hbind : ∀ (s : Shared) (u : Value), BindsTo s fd ⟨[u], []⟩ [(x, u)])
  (hsp : ∀ H : Hp, Only H -> SqL K H a (ns.map V.int) -> sp [.ref a] H (fun v _ => v = .bl true) fun _ _ _ => False)
  (hCX : ∀ H e s', CX [] H s₁ (fun _ _ _ => False) e s' -> False) :
  codeAny (model P w) callerA (.call (.ref fa) ⟨[.ref a], []⟩) (fun r s' => r = .ok (.ret (.bool true)) /\ OldK s₁.heap s'.heap /\ s'.os = s₁.os /\ AllBare s'.gens) s₁ := by
 have rv := b8h hi
 have lenV := hi.length
 -- from an abstract heap in which nothing but the script may be tracked
 have core : ∀ H : Hp, Only H -> SqL K H a (ns.map V.int) -> HOk P w H s₁.heap -> (∀ b, H b ≠ none -> b = a) -> (H a ≠ none -> K.lookup a = none) ->
   codeAny (model P w) callerA (.call (.ref fa) ⟨[.ref a], []⟩) (fun r s' => r = .ok (.ret (.bool true)) /\ OldK s₁.heap s'.heap /\ s'.os = s₁.os /\ AllBare s'.gens) s₁ := by
  intro H hO hS hok hA hK
  have c5m : ∀ {b : Addr} {o : Obj}, s₁.heap.get? b = some o -> H b = none -> (c7z s₁.heap H).get? b = some o := fun e n => c8g e n
  have noA : ∀ {b : Addr} {o : Obj} {es : Array DictEntry} {ep : Nat}, s₁.heap.get? b = some o -> o.data = .dict es ep -> H b = none := fun {b o es ep} e d => by
   cases q : H b with
   | none => rfl
   | some u =>
    have e' : b = a := hA b (by rw [q]; simp)
    subst e'
    rw [ha] at e; cases e
    have d' : Data.seq vs.toArray _ = Data.dict es ep := d
    cases d'
  have nsK : ∀ {b : Addr} {m : Str -> Option Value}, s₁.heap.Ns b m -> (c7z s₁.heap H).Ns b m := fun {b m} ⟨o, es, ep, e, d, r⟩ => ⟨o, es, ep, c5m e (noA e d), d, r⟩
  have hKb : K.In (c7z s₁.heap H) := fun b o e => c5m (KX b o e) (by
   cases q : H b with
   | none => rfl
   | some u =>
    have e' : b = a := hA b (by rw [q]; simp)
    subst e'
    rw [hK (by rw [q]; simp)] at e; cases e)
  have hM : Mod K mg (c7z s₁.heap H) := ⟨hKb, nsK hns, ⟨mb, nsK hb, hbb⟩, let ⟨mc, h1, h2⟩ := hlim; ⟨mc, nsK h1, h2⟩⟩
  have e0 : c4v P w K mg (c7z s₁.heap H) callerA [] s₁ H := ⟨rfl, hM, fun b o e => d1v e, Nat.le_of_eq (c3y _ _), trivial, fun b hb => absurd (show b ∈ ([] : List Addr) from hb) (by simp), hok, .of_eq hg⟩
  refine codeAny_mono ((F _ hKb (nsK hns)).run callerA [] s₁ H ⟨[.ref a], []⟩ [.ref a] [.ref a] _ _ hr e0 (hbind s₁ (.ref a)) (.cons rfl .nil) (hsp H hO hS)) fun r s' h => ?_
  cases r with
  | error e => exact (hCX H e s' h).elim
  | ok fl =>
   cases fl with
   | next => exact False.elim h
   | brk => exact False.elim h
   | cont => exact False.elim h
   | ret u =>
    obtain ⟨v, H', os, bare, un, hok', r', q⟩ := h
    have q' : v = .bl true := q
    subst q'
    obtain rfl : u = Value.bool true := r'
    refine ⟨rfl, OldK.of_keep fun b o e => ?_, os, bare⟩
    cases q : H b with
    | none => exact un.keep b o e q (by intro z; exact absurd (show b ∈ ([] : List Addr) from z) (by simp)) (by simp)
    | some u =>
     rcases hO b with z | ⟨ob, xs, z⟩
     ·rw [q] at z; cases z
     ·have z2 := un.b9r b ob _ z
      obtain ⟨e1, _⟩ := hok b _ z
      obtain ⟨e2, _⟩ := hok' b _ z2
      rw [e] at e1; cases e1
      exact e2
 cases hk : K.lookup a with
 | some o =>
  -- the script is one of the module's own objects
  have e := KX a o hk
  rw [ha] at e
  cases e
  refine core (fun _ => none) (fun _ => .inl rfl) (.inr ⟨_, vs.toArray, _, hk, rfl, rfl, rfl, by rw [List.size_toArray, lenV]; exact hl, by simpa using rv⟩) (fun b u z => by have z' : (none : Option HO) = some u := z; cases z') (fun b z => absurd rfl z) fun z => absurd rfl z
 | none =>
  refine core (fun b => if b = a then some (.frz { cls := .type "list", data := .seq vs.toArray } (.lst (ns.map V.int))) else none) (fun b => ?_) (.inl (.inr ⟨{ cls := .type "list", data := .seq vs.toArray }, if_pos rfl⟩)) (fun b u z => ?_) (fun b z => ?_) fun _ => hk
  ·by_cases hb : b = a
   ·exact .inr ⟨_, _, if_pos hb⟩
   ·exact .inl (if_neg hb)
  ·by_cases hb : b = a
   ·have z' := (if_pos hb).symm.trans z
    cases z'
    subst hb
    exact ⟨ha, by rw [List.length_map]; exact hl, vs, _, rv, ha⟩
   ·have z' := (if_neg hb).symm.trans z
    cases z'
  ·by_cases hb : b = a
   ·exact hb
   ·exact absurd (if_neg hb) z
end L2
namespace L2
open PySem PySem.Spec PyProof.Rows
noncomputable abbrev KOf {K : PySem.W.Frag} {h : Heap} (_ : K.In h) : PySem.W.Frag := K
end L2
/- THE LAST THEOREM (shape; LID, My.* are yours):
  My.Adr: a structure of the addresses that your layer names (classes, functions); My.Txt K t: a structure (Prop) of the equations over K;
  My.txt_mk : {K} {implicit addresses ..} (e1 : nsIn K mainGlobals "law" = some (some (.ref f))) (e2 : K.lookup f = some ⟨oc, od, .func (fnOf "law" "law" params body scope dV kV doc pm an cdv ct), sl⟩) (e3 : codeIn K cdv "law" = true) .. : ∃ t, My.Txt K t
(the tactic k_is has no namespace: write k_is) -/
namespace L2
open PySem PySem.Spec PyProof.Rows
noncomputable def inClass (s : Stmt) (j : Nat) : Stmt := match s with
 | .ClassDef _ _ _ body _ _ _ _ _ _ _ => body.getD j (.Pass ⟨0, 0, 0, 0⟩)
 | _ => .Pass ⟨0, 0, 0, 0⟩
noncomputable def a1i (s : Stmt) : Arguments := match s with
 | .FunctionDef _ a _ _ _ _ _ _ _ _ => a
 | _ => { posonlyargs := [], args := [], vararg := none, kwonlyargs := [], kw_defaults := [], kwarg := none, defaults := [] }
noncomputable def a1h (s : Stmt) : List Stmt := match s with
 | .FunctionDef _ _ b _ _ _ _ _ _ _ => b
 | _ => []
noncomputable def a0l (s : Stmt) : Scope := match s with
 | .FunctionDef _ _ _ _ _ _ sc _ _ _ => sc
 | _ => { kind := .function, names := [], isGenerator := false, isCoroutine := false }
noncomputable abbrev CX0 : CXT := fun _ _ _ _ _ _ => False
noncomputable abbrev E0 : XK := fun _ _ _ => False
theorem a5r {X : Cx} : Passes CX0 X E0 := fun _ _ _ _ _ _ _ h => h.elim
structure Fun (K : PySem.W.Frag) (x qual : Str) (st : Stmt) (f : Addr) (fd : FuncData) : Prop where
 ex : ∃ (oc : Value) (od : Option Addr) (kV doc pm : Value) (an : Option Addr) (cdv ct : Value) (osl : Array (Option Value)),
  fd = PySem.W.fnOf x qual (a1i st) (a1h st) (a0l st) .none kV doc pm an cdv ct /\ K.lookup f = some ⟨oc, od, .func fd, osl⟩ /\ PySem.W.codeIn K cdv qual = true
 kp : PySem.W.keepIn K (.ref f) = true
section
variable {P : Program} {w : World} {K : PySem.W.Frag} {mg : Str -> Option Value} {base : Heap}
theorem Fun.ok {x qual : Str} {st : Stmt} {f : Addr} {fd : FuncData} {N ps : List Str} {k : Nat} {sp : Sp} (F : Fun K x qual st f fd) (S : a1n N ps (a0l st)) (len : ∀ vs H Q E, sp vs H Q E -> vs.length = ps.length)
  (hbody : ∀ (cdv : Value) (A : Around) (outer : List Env) (s : Shared) (H : Hp) (vs : List V) (Q : VK) (E : XK), a5u k (A.deeper (envOfC qual (a0l st) s.heap.objs.size f cdv)) -> sp vs H Q E ->
   ∃ t, PSs (d0l CX0 P w K mg base N qual (a0l st) f cdv A outer s H E).nox (a1h st) t /\ t { nx := fun _ H' => Q .non H', rt := Q } (start N vs) H) : a4n P w K mg base CX0 (k + 1) f fd ps sp := by
 obtain ⟨oc, od, kV, doc, pm, an, cdv, ct, osl, rfl, lk, hcd⟩ := F.ex
 refine f2n lk hcd S len fun A outer s H vs Q E hr hsp => ?_
 obtain ⟨t, h, q⟩ := hbody cdv A outer s H vs Q E hr hsp
 exact ⟨t, h.nox, q⟩
theorem Fun.binds {x qual : Str} {st : Stmt} {f : Addr} {fd : FuncData} {ps : List Str} (F : Fun K x qual st f fd)
  (h : ∀ (kV doc pm : Value) (an : Option Addr) (cdv ct : Value) (us : List Value), us.length = ps.length -> bindArgs (PySem.W.fnOf x qual (a1i st) (a1h st) (a0l st) .none kV doc pm an cdv ct) ⟨us, []⟩ = pure (ps.zip us)) : Binds K fd ps [] := by
 obtain ⟨oc, od, kV, doc, pm, an, cdv, ct, osl, rfl, lk, hcd⟩ := F.ex
 exact .all (h kV doc pm an cdv ct)
theorem a4i {x qual : Str} {st : Stmt} {f : Addr} {oc : Value} {od an : Option Addr} {osl : Array (Option Value)} {kV doc pm cdv ct : Value} (l : K.lookup f = some ⟨oc, od, .func (PySem.W.fnOf x qual (a1i st) (a1h st) (a0l st) .none kV doc pm an cdv ct), osl⟩)
  (c : PySem.W.codeIn K cdv qual = true) (k : PySem.W.keepIn K (.ref f) = true) : Fun K x qual st f (PySem.W.fnOf x qual (a1i st) (a1h st) (a0l st) .none kV doc pm an cdv ct) := ⟨⟨oc, od, kV, doc, pm, an, cdv, ct, osl, rfl, l, c⟩, k⟩
end
section
variable {X : Cx}
end
noncomputable def Same (H H' : Hp) : Prop := ∀ b o, H b = some o -> H' b = some o
theorem Same.refl (H : Hp) : Same H H := fun _ _ h => h
theorem Same.trans {H H1 H2 : Hp} (a : Same H H1) (b : Same H1 H2) : Same H H2 := fun c o h => b c o (a c o h)
theorem Same.free {H H' : Hp} (e : Same H H') {l : Addr} (h : H' l = Option.none) : H l = Option.none := by
 cases q : H l with
 | none => rfl
 | some o =>
  rw [e l o q] at h
  cases h
theorem Same.seq {K : PySem.W.Frag} {H H' : Hp} {a : Addr} {xs : List V} (e : Same H H') (h : SqL K H a xs) : SqL K H' a xs := by
 rcases h with (h | ⟨o, h⟩) | h
 ·exact .inl (.inl (e _ _ h))
 ·exact .inl (.inr ⟨o, e _ _ h⟩)
 ·exact .inr h
end L2
namespace L2
open PySem PySem.Spec PyProof.Rows
section
variable {κ : Type} [DecidableEq κ]
noncomputable def b2v (kvs : List (κ × V)) (k : κ) : Option V := (kvs.find? fun kv => decide (kv.1 = k)).map (·.2)
noncomputable def putK (kvs : List (κ × V)) (k : κ) (v : V) : List (κ × V) :=
 if (kvs.any fun kv => decide (kv.1 = k)) = true then kvs.map (fun kv => if kv.1 = k then (kv.1, v) else kv) else kvs ++ [(k, v)]
noncomputable def c5n (kvs : List (κ × V)) (k : κ) : List (κ × V) := kvs.filter fun kv => decide (kv.1 ≠ k)
theorem b3v {p : κ × V} {r : List (κ × V)} {k : κ} (e : p.1 = k) : b2v (p :: r) k = some p.2 := by simp [b2v, List.find?_cons, e]
theorem b2k {p : κ × V} {r : List (κ × V)} {k : κ} (e : ¬ p.1 = k) : b2v (p :: r) k = b2v r k := by simp [b2v, List.find?_cons, e]
theorem b6m (k : κ) : ∀ kvs : List (κ × V), (kvs.any fun kv => decide (kv.1 = k)) = (b2v kvs k).isSome
 | [] => rfl
 | p :: r => by
  rw [List.any_cons]
  by_cases e : p.1 = k
  ·simp only [b3v e, decide_eq_true e, Bool.true_or, Option.isSome_some]
  ·rw [b2k e, decide_eq_false e, Bool.false_or]; exact b6m k r
theorem b1j (kvs : List (κ × V)) (k : κ) (v : V) : (putK kvs k v).length <= kvs.length + 1 := by
 unfold putK
 split
 ·rw [List.length_map]; omega
 ·rw [List.length_append, List.length_cons, List.length_nil]; omega
theorem c8q {kvs : List (κ × V)} {k : κ} (v : V) (h : b2v kvs k = none) : putK kvs k v = kvs ++ [(k, v)] := by
 unfold putK
 rw [b6m, h]
 exact if_neg (by decide)
theorem b7m.b4l {o : Option V} {u : Option Value} (r : b7m o u) : o.isSome = u.isSome := by
 cases o with
 | none => cases u with
  | none => rfl
  | some _ => exact (show False from r).elim
 | some _ => cases u with
  | none => exact (show False from r).elim
  | some _ => rfl
theorem b7m.getD {o : Option V} {u : Option Value} {d : V} {d' : Value} (r : b7m o u) (rd : RelV d d') : RelV (o.getD d) (u.getD d') := by
 cases o with
 | none => cases u with
  | none => exact rd
  | some _ => exact (show False from r).elim
 | some _ => cases u with
  | none => exact (show False from r).elim
  | some _ => exact r
theorem KV.val {kvs : List (κ × V)} {vs : List (κ × Value)} (r : KV kvs vs) (k : κ) : b7m (b2v kvs k) (valueAt vs k) := by
 unfold KV at r
 induction r with
 | nil => exact True.intro
 | @cons p q ps qs h t ih =>
  obtain ⟨h1, h2⟩ := h
  by_cases e : p.1 = k
  ·have e' : q.1 = k := h1.symm.trans e
   have b : valueAt (q :: qs) k = some q.2 := by simp [valueAt, List.find?_cons, e']
   rw [b3v e, b]; exact h2
  ·have e' : ¬ q.1 = k := fun z => e (h1.trans z)
   have b : valueAt (q :: qs) k = valueAt qs k := by simp [valueAt, List.find?_cons, e']
   rw [b2k e, b]; exact ih
theorem KV.any {kvs : List (κ × V)} {vs : List (κ × Value)} (r : KV kvs vs) (k : κ) : (kvs.any fun kv => decide (kv.1 = k)) = vs.any fun kv => decide (kv.1 = k) := by
 unfold KV at r
 induction r with
 | nil => rfl
 | cons h t ih => rw [List.any_cons, List.any_cons, ih, h.1]
theorem KV.repl {kvs : List (κ × V)} {vs : List (κ × Value)} (r : KV kvs vs) (k : κ) {y : V} {u : Value} (ry : RelV y u) :
  KV (kvs.map fun kv => if kv.1 = k then (kv.1, y) else kv) (vs.map fun kv => if kv.1 = k then (kv.1, u) else kv) := by
 unfold KV at r ⊢
 induction r with
 | nil => exact .nil
 | @cons p q ps qs h t ih =>
  rw [List.map_cons, List.map_cons]
  refine .cons ?_ ih
  obtain ⟨h1, h2⟩ := h
  by_cases e : p.1 = k
  ·rw [if_pos e, if_pos (h1.symm.trans e)]; exact ⟨h1, ry⟩
  ·rw [if_neg e, if_neg (fun z => e (h1.trans z))]; exact ⟨h1, h2⟩
theorem KV.put {kvs : List (κ × V)} {vs : List (κ × Value)} (r : KV kvs vs) (k : κ) {y : V} {u : Value} (ry : RelV y u) : KV (putK kvs k y) (stored vs k u) := by
 unfold putK stored
 rw [r.any k]
 by_cases e : (vs.any fun kv => decide (kv.1 = k)) = true
 ·rw [if_pos e, if_pos e]; exact r.repl k ry
 ·rw [if_neg e, if_neg e]; exact Paired.snoc r ⟨rfl, ry⟩
theorem KV.drop {kvs : List (κ × V)} {vs : List (κ × Value)} (r : KV kvs vs) (k : κ) : KV (c5n kvs k) (without vs k) := by
 unfold KV at r ⊢
 unfold c5n without
 induction r with
 | nil => exact .nil
 | @cons p q ps qs h t ih =>
  obtain ⟨h1, h2⟩ := h
  rw [List.filter_cons, List.filter_cons]
  by_cases e : p.1 = k
  ·have a : ¬ decide (p.1 ≠ k) = true := by simp [e]
   have b : ¬ decide (q.1 ≠ k) = true := by simp [h1.symm.trans e]
   rw [if_neg a, if_neg b]; exact ih
  ·have e' : ¬ q.1 = k := fun z => e (h1.trans z)
   have a : decide (p.1 ≠ k) = true := by simp [e]
   have b : decide (q.1 ≠ k) = true := by simp [e']
   rw [if_pos a, if_pos b]; exact .cons ⟨h1, h2⟩ ih
theorem KV.keys {kvs : List (κ × V)} {vs : List (κ × Value)} (r : KV kvs vs) : kvs.map (·.1) = vs.map (·.1) := by
 unfold KV at r
 induction r with
 | nil => rfl
 | cons h t ih => rw [List.map_cons, List.map_cons, ih, h.1]
theorem KV.length {kvs : List (κ × V)} {vs : List (κ × Value)} (r : KV kvs vs) : kvs.length = vs.length := Paired.length r
end
theorem c5o {P : Program} {w : World} {k : Key} {u : Value} (r : RelV (kV k) u) : (a3t P w).is k u = true := by
 cases k with
 | inl i => obtain ⟨t, e⟩ := (show ∃ t, u = Value.int i t from r); subst e; exact b9s P w i t
 | inr x => obtain ⟨t, e⟩ := (show ∃ t, u = Value.str x t from r); subst e; exact b9t P w x t
theorem b8i {P : Program} {w : World} : ∀ {ks : List Key} {us : List Value}, Vals (ks.map kV) us -> ItemsAre (a3t P w) ks us
 | [], _, r => by rw [List.map_nil] at r; cases r; exact .nil
 | k :: ks, _, r => by
  rw [List.map_cons] at r
  cases r with
  | cons h t => exact .cons (c5o h) (b8i t)
noncomputable abbrev KT (H : Hp) : List (List Key × V) -> List (List Key × Addr × Value) -> Prop := Paired fun p q => p.1 = q.1 /\ H q.2.1 = some (.tup (p.1.map kV)) /\ RelV p.2 q.2.2
theorem KT.val {H : Hp} {kvs : List (List Key × V)} {xs : List (List Key × Addr × Value)} (r : KT H kvs xs) (k : List Key) : b7m (b2v kvs k) ((atKey xs k).map (·.2)) := by
 induction r with
 | nil => exact True.intro
 | @cons p q ps qs h t ih =>
  obtain ⟨h1, _, h2⟩ := h
  by_cases e : p.1 = k
  ·have e' : q.1 = k := h1.symm.trans e
   have b : atKey (q :: qs) k = some q.2 := by simp [atKey, List.find?_cons, e']
   rw [b3v e, b]; exact h2
  ·have e' : ¬ q.1 = k := fun z => e (h1.trans z)
   have b : atKey (q :: qs) k = atKey qs k := by simp [atKey, List.find?_cons, e']
   rw [b2k e, b]; exact ih
theorem KT.repl {H : Hp} {kvs : List (List Key × V)} {xs : List (List Key × Addr × Value)} (r : KT H kvs xs) (k : List Key) {y : V} {u : Value} (ry : RelV y u) :
  KT H (kvs.map fun kv => if kv.1 = k then (kv.1, y) else kv) (xs.map (putAt k u)) := by
 induction r with
 | nil => exact .nil
 | @cons p q ps qs h t ih =>
  rw [List.map_cons, List.map_cons]
  refine .cons ?_ ih
  obtain ⟨h1, h2, h3⟩ := h
  unfold putAt
  by_cases e : p.1 = k
  ·rw [if_pos e, if_pos (h1.symm.trans e)]; exact ⟨h1, h2, ry⟩
  ·rw [if_neg e, if_neg (fun z => e (h1.trans z))]; exact ⟨h1, h2, h3⟩
theorem KT.put {H : Hp} {kvs : List (List Key × V)} {xs : List (List Key × Addr × Value)} (r : KT H kvs xs) (k : List Key) {b : Addr} {y : V} {u : Value} (hb : H b = some (.tup (k.map kV))) (ry : RelV y u) :
  KT H (putK kvs k y) (storedH xs k b u) := by
 have e : (kvs.any fun kv => decide (kv.1 = k)) = (atKey xs k).isSome := by
  rw [b6m, (r.val k).b4l, Option.isSome_map]
 unfold putK storedH
 rw [e]
 by_cases q : (atKey xs k).isSome = true
 ·rw [if_pos q, if_pos q]; exact r.repl k ry
 ·rw [if_neg q, if_neg q]; exact Paired.snoc r ⟨rfl, hb, ry⟩
theorem KT.keeps {H H' : Hp} {kvs : List (List Key × V)} {xs : List (List Key × Addr × Value)} (r : KT H kvs xs) (ht : ∀ b ys, H b = some (.tup ys) -> H' b = some (.tup ys)) : KT H' kvs xs :=
 Paired.f1s r fun _ _ z => ⟨z.1, ht _ _ z.2.1, z.2.2⟩
section
variable {P : Program} {w : World} {H : Hp} {h : Heap} {a : Addr}
theorem d6r {u : HO} (ok : HOk P w H h) (e : Rd H a u) : a4v P w H h a u := e.ok ok
theorem c8r {kvs : List (Key × V)} (ok : HOk P w H h) (e : Rd H a (.dK kvs)) : kvs.length <= sizeLine /\ (a == sysModules) = false /\ ∃ vs, KV kvs vs /\ h.DictOf (a3t P w) a vs :=
 show a4v P w H h a (.dK kvs) from d6r ok e
theorem d6s {kvs : List (Key × V)} (ok : HOk P w H h) (e : H a = some (.dK kvs)) : kvs.length <= sizeLine /\ (a == sysModules) = false /\ ∃ vs, KV kvs vs /\ h.DictOf (a3t P w) a vs := c8r ok (.inl e)
theorem c1t {ks : List Key} (ok : HOk P w H h) (e : H a = some (.tup (ks.map kV))) : (tupleKind (a3t P w)).is h ks a := by
 obtain ⟨_, its, r, o, h1, h2, n, h3⟩ := (show a4v P w H h a (.tup (ks.map kV)) from ok a _ e)
 exact ⟨o, its.toArray, n, h1, h2, h3, by simpa using b8i r⟩
theorem c8s {kvs : List (List Key × V)} (ok : HOk P w H h) (e : Rd H a (.dT kvs)) : kvs.length <= sizeLine /\ (a == sysModules) = false /\
  ∃ xs, KT H kvs xs /\ h.DictOfH (tupleKind (a3t P w)) a xs := by
 obtain ⟨z, y, xs, r, o, es, ep, h1, h2, h3, h4, h5⟩ := (show a4v P w H h a (.dT kvs) from d6r ok e)
 refine ⟨z, y, xs, r, o, es, ep, h1, h2, h3, h4, fun x hx => ?_, h5⟩
 have all : ∀ {l : List (List Key × V)} {m : List (List Key × Addr × Value)}, KT H l m -> ∀ x ∈ m, (tupleKind (a3t P w)).is h x.1 x.2.1 := by
  intro l m q
  induction q with
  | nil => intro x hx; exact nomatch hx
  | @cons p q ps qs hq t ih =>
   intro x hx
   rcases List.mem_cons.mp hx with e | hx
   ·subst e
    exact c1t ok (by rw [<- hq.1]; exact hq.2.1)
   ·exact ih x hx
 exact all r x hx
theorem f2r {kvs : List (List Key × V)} (ok : HOk P w H h) (e : H a = some (.dT kvs)) : kvs.length <= sizeLine /\ (a == sysModules) = false /\
  ∃ xs, KT H kvs xs /\ h.DictOfH (tupleKind (a3t P w)) a xs := c8s ok (.inl e)
end
noncomputable def b8j (H : Hp) (a : Addr) (y : V) (r : Option V) : Prop :=
 (∃ kvs k, Rd H a (.dK kvs) /\ y = kV k /\ r = b2v kvs k) \/ ∃ kvs k b, Rd H a (.dT kvs) /\ y = .ref b /\ H b = some (.tup (k.map kV)) /\ r = b2v kvs k
noncomputable def d0o (H : Hp) (a : Addr) (y v : V) (H' : Hp) : Prop :=
 (∃ kvs k, H a = some (.dK kvs) /\ y = kV k /\ kvs.length < sizeLine /\ H' = upd H a (.dK (putK kvs k v))) \/
 ∃ kvs k b, H a = some (.dT kvs) /\ y = .ref b /\ H b = some (.tup (k.map kV)) /\ kvs.length < sizeLine /\ H' = upd H a (.dT (putK kvs k v))
theorem b8j.k {H : Hp} {a : Addr} {kvs : List (Key × V)} {k : Key} (e : H a = some (.dK kvs)) : b8j H a (kV k) (b2v kvs k) := .inl ⟨kvs, k, .inl e, rfl, rfl⟩
theorem b8j.t {H : Hp} {a b : Addr} {kvs : List (List Key × V)} {k : List Key} (e : H a = some (.dT kvs)) (eb : H b = some (.tup (k.map kV))) : b8j H a (.ref b) (b2v kvs k) := .inr ⟨kvs, k, b, .inl e, rfl, eb, rfl⟩
theorem d0o.k {H : Hp} {a : Addr} {kvs : List (Key × V)} {k : Key} {v : V} (e : H a = some (.dK kvs)) (hl : kvs.length < sizeLine) : d0o H a (kV k) v (upd H a (.dK (putK kvs k v))) := .inl ⟨kvs, k, e, rfl, hl, rfl⟩
theorem d0o.t {H : Hp} {a b : Addr} {kvs : List (List Key × V)} {k : List Key} {v : V} (e : H a = some (.dT kvs)) (eb : H b = some (.tup (k.map kV))) (hl : kvs.length < sizeLine) :
  d0o H a (.ref b) v (upd H a (.dT (putK kvs k v))) := .inr ⟨kvs, k, b, e, rfl, eb, hl, rfl⟩
section
variable {X : Cx} {pins : List (Addr × Obj)} {σ : St} {H : Hp} {s : Shared} {a : Addr} {y v : V} {u r : Value} {o : Option V} {A : Around} {E : Value -> Shared -> Prop}
theorem Inv.big (I : Inv X pins σ H s) : sysModules < s.heap.objs.size := by
 have h : mainGlobals < s.heap.objs.size := (I.mod.glob.keeps I.bk).lt
 exact Nat.lt_trans (by decide) h
theorem c5p {Q : Value -> Shared -> Prop} (hu : A.units + 1 < cLine) (I : Inv X pins σ H s) (g : b8j H a y (some v)) (ry : RelV y u) (h : ∀ w' s', Inv X pins σ H s' -> RelV v w' -> Q w' s') :
  wpAny (model X.prog X.w) A (getItem (.ref a) u) Q E s := by
 rcases g with ⟨kvs, k, e, ey, l⟩ | ⟨kvs, k, b, e, ey, eb, l⟩
 ·subst ey
  obtain ⟨z, hd, vs, rel, dd⟩ := c8r I.hok e
  obtain ⟨w', hw, rw'⟩ := b7m.some_of (v := v) (o := valueAt vs k) (by rw [l]; exact rel.val k)
  exact wpAny_getItem_of (c5o ry) dd.mapOf hw (h w' _ (I.tok _) rw')
 ·subst ey
  cases (show u = Value.ref b from ry)
  obtain ⟨z, hd, xs, rel, dd⟩ := c8s I.hok e
  obtain ⟨w', hw, rw'⟩ := b7m.some_of (v := v) (o := (atKey xs k).map (·.2)) (by rw [l]; exact rel.val k)
  obtain ⟨p, hp, hp2⟩ := Option.map_eq_some_iff.mp hw
  refine wpAny_getItem_heap (tupleKind_room_in1 hu) (c1t I.hok eb) dd hp ?_
  rw [hp2]
  exact h w' _ (I.tok _) rw'
theorem d2r {Q : Value -> Shared -> Prop} (hu : A.units + 1 < cLine) (I : Inv X pins σ H s) (g : b8j H a y o) (ry : RelV y u) (h : ∀ s', Inv X pins σ H s' -> Q (.bool (!o.isSome)) s') :
  wpAny (model X.prog X.w) A (compareOp .NotIn u (.ref a)) Q E s := by
 rcases g with ⟨kvs, k, e, ey, l⟩ | ⟨kvs, k, b, e, ey, eb, l⟩
 ·subst ey
  obtain ⟨z, hd, vs, rel, dd⟩ := c8r I.hok e
  refine wpAny_notIn_of (c5o ry) hd dd.mapOf ?_
  rw [<- (rel.val k).b4l, <- l]
  exact h _ (I.tok _)
 ·subst ey
  cases (show u = Value.ref b from ry)
  obtain ⟨z, hd, xs, rel, dd⟩ := c8s I.hok e
  refine wpAny_notIn_heap (tupleKind_room_in1 hu) (c1t I.hok eb) hd dd ?_
  have q := (rel.val k).b4l
  rw [Option.isSome_map] at q
  rw [<- q, <- l]
  exact h _ (I.tok _)
theorem c0i {h' : Heap} {t' : Nat} {ob : HO} (I : Inv X pins σ H s) (mu : Mut (H a)) (hs : Heap.SameBut a s.heap h') (he : ∃ q, h'.get? a = some q) (new : a4v X.prog X.w (upd H a ob) h' a ob) :
  Inv X pins σ (upd H a ob) { s with heap := h', toks := t' } :=
 I.write (x := a) (e := a) mu (.inl rfl) (fun b q hb z => (hs.2 b hb).trans z) he new
theorem d0p {P : Program} {w : World} {H' : Hp} {h' : Heap} {kvs : List (Key × V)} {vs : List (Key × Value)} (z : kvs.length <= sizeLine) (hd : (a == sysModules) = false) (rel : KV kvs vs) (dd : h'.DictOf (a3t P w) a vs) :
  a4v P w H' h' a (.dK kvs) := ⟨z, hd, vs, rel, dd⟩
theorem c5q {H' : Hp} {Q : Unit -> Shared -> Prop} (hu : A.units + 1 < cLine) (I : Inv X pins σ H s) (g : d0o H a y v H') (ry : RelV y u) (rv : RelV v r) (h : ∀ s', Inv X pins σ H' s' -> Q () s') :
  wpAny (model X.prog X.w) A (setItem (.ref a) u r) Q E s := by
 rcases g with ⟨kvs, k, e, ey, l, eH⟩ | ⟨kvs, k, b, e, ey, eb, l, eH⟩
 ·subst ey eH
  obtain ⟨z, hd, vs, rel, dd⟩ := d6s I.hok e
  have hz : vs.length <= sizeLine := by rw [<- rel.length]; exact z
  have hl : (putK kvs k v).length <= sizeLine := by have := b1j kvs k v; omega
  refine wpAny_setItem_pairs (hsz := hz) (c5o ry) dd fun h' dd' hs => h _ ?_
  have he : ∃ q, h'.get? a = some q := let ⟨q, _, _, hq, _⟩ := dd'; ⟨q, hq⟩
  exact c0i I (by rw [e]; exact True.intro) hs he (d0p hl hd (rel.put k rv) dd')
 ·subst ey eH
  cases (show u = Value.ref b from ry)
  obtain ⟨z, hd, xs, rel, dd⟩ := f2r I.hok e
  have hz : xs.length <= sizeLine := by rw [<- Paired.length rel]; exact z
  have hl : (putK kvs k v).length <= sizeLine := by have := b1j kvs k v; omega
  refine wpAny_setItem_heap (hsz := hz) (tupleKind_room_in1 hu) (c1t I.hok eb) dd fun h' dd' hs => h _ ?_
  obtain ⟨q, es, ep, hq, h2, h3, h4, _, h5⟩ := dd'
  refine c0i I (by rw [e]; exact True.intro) hs ⟨q, hq⟩ ⟨hl, hd, _, (rel.put k eb rv).keeps fun c ys ec => ?_, q, es, ep, hq, h2, h3, h4, h5⟩
  rw [a1g (f1r ec e (fun z => nomatch z))]
  exact ec
end
section
variable {X : Cx} {pins : List (Addr × Obj)} {σ : St} {H : Hp} {s : Shared} {a : Addr} {kvs : List (Key × V)} {k : Key} {u : Value} {A : Around} {E : Value -> Shared -> Prop}
end
noncomputable def f5n (i : Expr) : Prop := ∀ ov iv, subscripted i false ov iv = operate [ov, iv] (getItem ov iv)
theorem d2s {prog : Program} {w : World} {A : Around} {E : Value -> Shared -> Prop} {s : Shared} {env : Env} {value slice : Expr} {pos : Pos} {T id : String} {Q : Value -> Shared -> Prop}
  (hl : typeLookup (.type T) "__getitem__" = pure (some (.builtin id))) (hs : f5n slice)
  (h : wpAny (model prog w) A (eval value env) (fun o s₁ => wpAny (model prog w) A (eval slice env) (fun i s₂ => s₂.TypeIs o T /\ wpAny (model prog w) A (getItem o i) Q E s₂) E s₁) E s) :
  wpAny (model prog w) A (eval (.Subscript value slice pos) env) Q E s := by
 refine Subscript_ (wpAny_mono h (fun o s₁ h₁ => wpAny_mono h₁ (fun i s₂ h₂ => ?_) fun _ _ x => x) fun _ _ x => x)
 obtain ⟨hT, h₂⟩ := h₂
 unfold subscriptTail
 refine wpAny_bind ?_
 rw [getitemInPython_of_ne hT.not_modules]
 refine wpAny_bind (wpAny_specialOf hT hl ?_)
 have fin : wpAny (model prog w) A (subscripted slice false o i) (fun r s₃ => wpAny (model prog w) A (letTemporaryGo value o r >>= fun _ => pure r) Q E s₃) E s₂ := by
  rw [hs o i]
  exact wpAny_operating (wpAny_mono h₂ (fun r s₃ h₃ => wpAny_bind (wpAny_letTemporaryGo (wpAny_pure h₃))) fun _ _ x => x)
 first
  | exact wpAny_pure (wpAny_bind fin)
  | exact wpAny_bind (wpAny_pure (wpAny_bind fin))
  | exact wpAny_bind fin
theorem c0j {X : Cx} {pins : List (Addr × Obj)} {σ : St} {H : Hp} {s : Shared} {a : Addr} {y : V} {o : Option V} (I : Inv X pins σ H s) (g : b8j H a y o) : s.TypeIs (.ref a) "dict" := by
 rcases g with ⟨kvs, k, e, _, _⟩ | ⟨kvs, k, b, e, _, _, _⟩
 ·obtain ⟨_, _, vs, _, dd⟩ := c8r I.hok e
  exact dd.typeIs
 ·obtain ⟨_, _, xs, _, dd⟩ := c8s I.hok e
  exact dd.typeIs
noncomputable def tDGet (td ty : TE) : TE := fun σ H Q => td σ H fun x H1 => ty σ H1 fun y H2 => ∃ a v, x = .ref a /\ b8j H2 a y (some v) /\ Q v H2
noncomputable def tDIn (ty td : TE) : TE := fun σ H Q => ty σ H fun y H1 => td σ H1 fun x H2 => ∃ a o, x = .ref a /\ b8j H2 a y o /\ Q (.bl o.isSome) H2
noncomputable def f2s (ty td : TE) : TE := fun σ H Q => ty σ H fun y H1 => td σ H1 fun x H2 => ∃ a o, x = .ref a /\ b8j H2 a y o /\ Q (.bl (!o.isSome)) H2
noncomputable def sDPut (td ty tv : TE) : TS := fun D σ H => tv σ H fun v H1 => td σ H1 fun x H2 => ty σ H2 fun y H3 => ∃ a H4, x = .ref a /\ d0o H3 a y v H4 /\ D.nx σ H4
noncomputable def sDAug (td ty tv : TE) (rd : V -> V -> Hp -> VK -> Prop) : TS := fun D σ H => td σ H fun x H1 => ty σ H1 fun y H2 => ∃ a v, x = .ref a /\ b8j H2 a y (some v) /\
 tv σ H2 fun y2 H3 => rd v y2 H3 fun z H4 => ∃ H5, d0o H4 a y z H5 /\ D.nx σ H5
noncomputable def sDDel (td ty : TE) : TS := fun D σ H => td σ H fun x H1 => ty σ H1 fun y H2 => ∃ a kvs k, x = .ref a /\ H2 a = some (.dK kvs) /\ y = kV k /\ (b2v kvs k).isSome = true /\ D.nx σ (upd H2 a (.dK (c5n kvs k)))
section
variable {X : Cx} {o i e value : Expr} {pos pos' tpos : Pos} {td ty tv : TE}
end
theorem c8t {P : Program} {w : World} {H : Hp} (h : Heap) (hb : sysModules < h.objs.size) : a4v P w H (h.push { cls := .type "dict", data := .dict #[] }) h.objs.size (.dK []) :=
 ⟨Nat.zero_le _, beq_eq_false_iff_ne.mpr (Ne.symm (Nat.ne_of_lt hb)), [], .nil, Heap.DictOf.new h⟩
noncomputable def f5o : TE := fun _ H Q => ∀ p, H p = none -> Q (.ref p) (upd H p (.dK []))
noncomputable def f5p : TE := fun _ H Q => ∀ p, H p = none -> Q (.ref p) (upd H p (.dT []))
section
variable {X : Cx} {pos : Pos}
end
noncomputable def c5r : List (TE × TE) -> St -> Hp -> (List (V × V) -> Hp -> Prop) -> Prop
 | [], _, H, Q => Q [] H
 | (tk, tv) :: r, σ, H, Q => tk σ H fun x H1 => tv σ H1 fun y H2 => c5r r σ H2 fun ps H3 => Q ((x, y) :: ps) H3
noncomputable abbrev VV : List (V × V) -> List (Value × Value) -> Prop := Paired fun p q => RelV p.1 q.1 /\ RelV p.2 q.2
noncomputable def PPs (X : Cx) (pos : Pos) (keys : List (Option Expr)) (values : List Expr) (trs : List (TE × TE)) : Prop :=
 ∀ (pins : List (Addr × Obj)) (s : Shared) (σ : St) (H : Hp) (Q : List (V × V) -> Hp -> Prop), Inv X pins σ H s -> c5r trs σ H Q ->
  wpAny (model X.prog X.w) X.A (evalPairs (pairTrees keys values X.env pos)) (fun vs s' => ∃ ps H', Inv X pins σ H' s' /\ VV ps vs /\ Q ps H') X.xe s
theorem d2t {X : Cx} {pos : Pos} : PPs X pos [] [] [] := fun pins s σ H Q I h => pairTrees_nil_walk ⟨[], H, I, .nil, h⟩
theorem c8u {X : Cx} {pos : Pos} {k v : Expr} {ks : List (Option Expr)} {vs : List Expr} {tk tv : TE} {trs : List (TE × TE)} (hk : PE X k tk) (hv : PE X v tv) (hr : PPs X pos ks vs trs) :
  PPs X pos (some k :: ks) (v :: vs) ((tk, tv) :: trs) := fun pins s σ H Q I h =>
 pairTrees_cons_walk (thn (hk pins s σ H _ I h) fun u s1 ⟨x, H1, I1, rx, q1⟩ => thn (hv pins s1 σ H1 _ I1 q1) fun w2 s2 ⟨y, H2, I2, ry, q2⟩ =>
  thn (hr pins s2 σ H2 _ I2 q2) fun ws s3 ⟨ps, H3, I3, rel, q3⟩ => ⟨(x, y) :: ps, H3, I3, .cons ⟨rx, ry⟩ rel, q3⟩)
noncomputable def b8k (kvs more : List (Key × V)) : List (Key × V) := more.foldl (fun acc kv => putK acc kv.1 kv.2) kvs
theorem KV.merge : ∀ {more : List (Key × V)} {rs : List (Key × Value)} {kvs : List (Key × V)} {vs : List (Key × Value)}, KV more rs -> KV kvs vs -> KV (b8k kvs more) (merged vs rs) := by
 intro more rs kvs vs r
 unfold KV at r
 induction r generalizing kvs vs with
 | nil => intro q; exact q
 | @cons p q ps qs h t ih =>
  intro r0
  have e : KV (putK kvs p.1 p.2) (stored vs q.1 q.2) := by
   have := r0.put p.1 h.2
   rw [<- h.1]; exact this
  exact ih e
theorem b2l : ∀ (more kvs : List (Key × V)), (b8k kvs more).length <= kvs.length + more.length
 | [], kvs => by show kvs.length <= kvs.length + 0; omega
 | p :: r, kvs => by
  have h1 := b2l r (putK kvs p.1 p.2)
  have h2 := b1j kvs p.1 p.2
  show (b8k (putK kvs p.1 p.2) r).length <= _
  rw [List.length_cons]; omega
theorem b5v {P : Program} {w : World} : ∀ {kvs : List (Key × V)} {ws : List (Value × Value)}, VV (kvs.map fun kv => (kV kv.1, kv.2)) ws -> ∃ rs, Carries (a3t P w) ws rs /\ KV kvs rs
 | [], _, r => by rw [List.map_nil] at r; cases r; exact ⟨[], True.intro, .nil⟩
 | p :: kvs, _, r => by
  rw [List.map_cons] at r
  cases r with
  | @cons a b as bs h t =>
   obtain ⟨rs, c, q⟩ := b5v (P := P) (w := w) t
   obtain ⟨b1, b2⟩ := b
   exact ⟨(p.1, b2) :: rs, ⟨c5o h.1, rfl, c⟩, .cons ⟨rfl, h.2⟩ q⟩
noncomputable def tDisp (trs : List (TE × TE)) : TE := fun σ H Q => ∀ p, H p = none -> c5r trs σ (upd H p (.dK [])) fun ps H2 => H2 p = some (.dK []) /\ ∃ kvs : List (Key × V), ps = kvs.map (fun kv => (kV kv.1, kv.2)) /\ kvs.length <= 15 /\ Q (.ref p) (upd H2 p (.dK (b8k [] kvs)))
structure M1 (X : Cx) (o : Expr) (m : Str) (apos : Pos) (e : Expr) (cpos : Pos) : Prop where
 base : attributeBase o m X.env (eval o X.env) = eval o X.env
 few : ((backTo cpos (starEach [e] X.env)).all (fun x => !x.1) && (backToKw cpos (keywordEach [] X.env)).all (fun x => x.1.isSome)
  && decide (([e] : List Expr).length + ([] : List Keyword).length + (if ([] : List Keyword).isEmpty then 0 else 1) < 30)) = true
 line : (apos.endLine == cpos.line) = true
 trees : backTo cpos (starEach [e] X.env) = [(false, eval e X.env)]
structure M2 (X : Cx) (o : Expr) (m : Str) (apos : Pos) (e f : Expr) (cpos : Pos) : Prop where
 base : attributeBase o m X.env (eval o X.env) = eval o X.env
 few : ((backTo cpos (starEach [e, f] X.env)).all (fun x => !x.1) && (backToKw cpos (keywordEach [] X.env)).all (fun x => x.1.isSome)
  && decide (([e, f] : List Expr).length + ([] : List Keyword).length + (if ([] : List Keyword).isEmpty then 0 else 1) < 30)) = true
 line : (apos.endLine == cpos.line) = true
 trees : backTo cpos (starEach [e, f] X.env) = [(false, eval e X.env), (false, eval f X.env)]
noncomputable def IsD (H : Hp) (a : Addr) : Prop := (∃ kvs, Rd H a (.dK kvs)) \/ ∃ kvs, Rd H a (.dT kvs)
section
variable {X : Cx} {pins : List (Addr × Obj)} {σ : St} {H : Hp} {s : Shared} {a : Addr} {y d : V} {u r : Value} {o : Option V} {A : Around} {E : Value -> Shared -> Prop}
end
noncomputable def f5q (td ty : TE) : TE := fun σ H Q => td σ H fun x H1 => ∃ a, x = .ref a /\ IsD H1 a /\ ty σ H1 fun y H2 => ∃ o, b8j H2 a y o /\ Q (o.getD .non) H2
noncomputable def f5r (td ty tx : TE) : TE := fun σ H Q => td σ H fun x H1 => ∃ a, x = .ref a /\ IsD H1 a /\ ty σ H1 fun y H2 => tx σ H2 fun z H3 => ∃ o, b8j H3 a y o /\ Q (o.getD z) H3
noncomputable def f5s (td ty : TE) : TE := fun σ H Q => td σ H fun x H1 => ∃ a, x = .ref a /\ IsD H1 a /\ ty σ H1 fun y H2 => ∃ kvs k v, H2 a = some (.dK kvs) /\ y = kV k /\ b2v kvs k = some v /\ Q v (upd H2 a (.dK (c5n kvs k)))
noncomputable def f5t (td ty tx : TE) : TE := fun σ H Q => td σ H fun x H1 => ∃ a, x = .ref a /\ IsD H1 a /\ ty σ H1 fun y H2 => tx σ H2 fun z H3 => ∃ kvs k, H3 a = some (.dK kvs) /\ y = kV k /\
 (∀ v, b2v kvs k = some v -> Q v (upd H3 a (.dK (c5n kvs k)))) /\ (b2v kvs k = none -> Q z H3)
section
variable {X : Cx} {o e f : Expr} {apos cpos : Pos} {td ty tx : TE}
end
section
variable {X : Cx} {pins : List (Addr × Obj)} {σ : St} {H : Hp} {s : Shared} {a : Addr} {kvs : List (Key × V)} {A : Around} {E : Value -> Shared -> Prop}
end
section
variable {X : Cx} {pins : List (Addr × Obj)} {σ : St} {H : Hp} {s : Shared} {a : Addr} {y : V} {u : Value} {A : Around} {E : Value -> Shared -> Prop}
end
section
variable {X : Cx}
end
section
variable {κ : Type} [DecidableEq κ]
end
end L2
namespace L2
open PySem PySem.Spec PyProof.Rows
open PySem.Builtin.Int (intBits)
section
variable {X : Cx} {a b c : Expr} {ta tb tc : TE} {pos : Pos}
theorem d2u : OpR X (binaryOp .Mult) (rI IntMulOk fun i j => .int (i * j)) := opI fun _ _ _ _ _ _ _ hc q => mul_int q hc
noncomputable def CFd (i j : Int) : Prop := j ≠ 0 /\ intBits j <= 9000
theorem c0k {j : Int} (h : j ≠ 0) (hb : intBits j <= 9000) : j.natAbs.log2 < 9000 := by
 have h1 := intBits_le_iff.mp hb
 exact (Nat.log2_lt (by omega)).mpr h1
theorem c8v : OpR X (binaryOp .FloorDiv) (rI CFd fun i j => .int (i.fdiv j)) := opI fun i j _ _ _ _ _ hc q =>
 floordiv_int hc.1 q (.inl (PyProof.noPylong_of_log2 (c0k hc.1 hc.2)))
noncomputable def CDv (i j : Int) : Prop := 0 < j /\ intBits j <= 9000
inductive Ty where
 | non | bl | int | str | lst | tup | dct
 deriving DecidableEq
noncomputable def Ty.nm : Ty -> String
 | .non => "NoneType" | .bl => "bool" | .int => "int" | .str => "str" | .lst => "list" | .tup => "tuple" | .dct => "dict"
noncomputable def d0q (H : Hp) : V -> Option Ty
 | .non => some .non
 | .bl _ => some .bl
 | .int _ => some .int
 | .str _ => some .str
 | .ref a => match H a with
  | some (.lst _) => some .lst
  | some (.frz _ (.lst _)) => some .lst
  | some (.tup _) => some .tup
  | some (.dK _) => some .dct
  | some (.dT _) => some .dct
  | _ => none
 | _ => none
noncomputable def c5s (t T : Ty) : Bool := decide (t = T) || (decide (t = .bl) && decide (T = .int))
theorem d2v {K : PySem.W.Frag} {H : Hp} {x : V} {t : Ty} (h : d0q H x = some t) : c2t K H x (.type t.nm) := by
 cases x with
 | non => cases h; exact .non
 | bl b => cases h; exact .bl b
 | int i => cases h; exact .int i
 | str s => cases h; exact .str s
 | byt b => cases h
 | flt b => cases h
 | ty n => cases h
 | ref a =>
  unfold d0q at h
  cases e : H a with
  | none => simp [e] at h
  | some o =>
   cases o with
   | lst xs => simp [e] at h; subst h; exact .lst e
   | tup xs => simp [e] at h; subst h; exact .tup e
   | dK kvs => simp [e] at h; subst h; exact .dK e
   | dT kvs => simp [e] at h; subst h; exact .dT e
   | frz ob u =>
    cases u with
    | lst xs => simp [e] at h; subst h; exact .frz e
    | _ => simp [e] at h
   | _ => simp [e] at h
theorem d6t {K : PySem.W.Frag} (t T : Ty) : PySem.W.kitOne K (.type t.nm) (.type T.nm) = some (c5s t T) := by
 cases t <;> cases T <;> rfl
noncomputable def f5u (T : Ty) : List V -> Hp -> VK -> Prop := fun xs H Q => match xs with
 | [x, .ty n] => n = T.nm /\ ∃ t, d0q H x = some t /\ Q (.bl (c5s t T)) H
 | _ => False
theorem b6n (T : Ty) : a9i X (.builtin "isinstance") (f5u T) := by
 intro pins s σ H xs us Q I r h
 match xs, r, h with
 | [x, .ty n], r, h =>
  obtain ⟨rfl, t, ht, q⟩ := h
  obtain ⟨u, v, rfl, r1, r2⟩ := vals2 r
  cases (show v = Value.type T.nm from r2)
  exact c4u I r1 (d2v ht) (d6t t T) fun tk => ⟨.bl _, H, I.tok tk, rfl, q⟩
mutual
inductive b8l (K : PySem.W.Frag) (H : Hp) : V -> PyData -> Prop
 | non : b8l K H .non .none
 | bl (b : Bool) : b8l K H (.bl b) (.bool b)
 | int (i : Int) : b8l K H (.int i) (.int i)
 | str (x : Str) : b8l K H (.str x) (.str x)
 | lst {a : Addr} {xs : List V} {ds : List PyData} : SqL K H a xs -> b1k K H xs ds -> b8l K H (.ref a) (.list ds)
 | tup {a : Addr} {xs : List V} {ds : List PyData} : SqT K H a xs -> b1k K H xs ds -> b8l K H (.ref a) (.tuple ds)
inductive b1k (K : PySem.W.Frag) (H : Hp) : List V -> List PyData -> Prop
 | nil : b1k K H [] []
 | cons {x : V} {xs : List V} {d : PyData} {ds : List PyData} : b8l K H x d -> b1k K H xs ds -> b1k K H (x :: xs) (d :: ds)
end
section
variable {pins : List (Addr × Obj)} {σ : St} {H : Hp} {s : Shared}
mutual
theorem Inv.reads (I : Inv X pins σ H s) : ∀ {v : V} {d : PyData} {u : Value}, b8l X.K H v d -> RelV v u -> ∃ as, Reads s.heap u d as
 | _, _, _, .non, r => by cases (show _ = Value.none from r); exact ⟨_, .none⟩
 | _, _, _, .bl b, r => by cases (show _ = Value.bool b from r); exact ⟨_, .bool b⟩
 | _, _, _, .int i, r => by obtain ⟨t, rfl⟩ := r; exact ⟨_, .int i t⟩
 | _, _, _, .str x, r => by obtain ⟨t, rfl⟩ := r; exact ⟨_, .str x t⟩
 | _, _, _, .lst (a := a) hs ha, r => by
  cases (show _ = Value.ref a from r)
  obtain ⟨its, rv, ⟨o, n, e, c, _, dd⟩, _⟩ := I.list hs
  obtain ⟨as, q⟩ := Inv.readsAll I ha rv
  exact ⟨_, .list e c dd (by simpa using q)⟩
 | _, _, _, .tup (a := a) hs ha, r => by
  cases (show _ = Value.ref a from r)
  obtain ⟨its, rv, ⟨o, e, c, n, dd⟩, _⟩ := I.tuple hs
  obtain ⟨as, q⟩ := Inv.readsAll I ha rv
  exact ⟨_, .tuple e c dd (by simpa using q)⟩
theorem Inv.readsAll (I : Inv X pins σ H s) : ∀ {vs : List V} {ds : List PyData} {us : List Value}, b1k X.K H vs ds -> Vals vs us -> ∃ as, ReadsAll s.heap us ds as
 | _, _, _, .nil, .nil => ⟨_, .nil⟩
 | _, _, _, .cons h t, .cons r q => by
  obtain ⟨as, x⟩ := Inv.reads I h r
  obtain ⟨bs, y⟩ := Inv.readsAll I t q
  exact ⟨_, .cons x y⟩
end
end
noncomputable def f1g (K : PySem.W.Frag) : R2 := fun x y H Q => ∃ d e, b8l K H x d /\ b8l K H y e /\ SeqAt.shaped d = true /\ SeqAt.shaped e = true /\ Q (.bl (PyData.eqv d e)) H
noncomputable def f1h (K : PySem.W.Frag) : R2 := fun x y H Q => ∃ d e, b8l K H x d /\ b8l K H y e /\ SeqAt.shaped d = true /\ SeqAt.shaped e = true /\ Q (.bl (!PyData.eqv d e)) H
theorem d6u (hu : X.A.units + 64 < cLine) : OpR X (compareOp .Eq) (f1g X.K) := by
 intro pins s σ H x y v u Q I rx ry h
 obtain ⟨d, e, hd, he, sd, se, q⟩ := h
 obtain ⟨as, ra⟩ := I.reads hd rx
 obtain ⟨bs, rb⟩ := I.reads he ry
 exact eq_dataH ra rb sd se hu ⟨.bl _, H, I, rfl, q⟩
theorem d6v (hu : X.A.units + 64 < cLine) : OpR X (compareOp .NotEq) (f1h X.K) := by
 intro pins s σ H x y v u Q I rx ry h
 obtain ⟨d, e, hd, he, sd, se, q⟩ := h
 obtain ⟨as, ra⟩ := I.reads hd rx
 obtain ⟨bs, rb⟩ := I.reads he ry
 exact ne_dataH ra rb sd se hu ⟨.bl _, H, I, rfl, q⟩
end
noncomputable def f5v (lo c : Int) (n : Nat) : It := ⟨fun i _ => i < n, fun i H x H' => H' = H /\ x = .int (lo + i * c), fun i _ => n <= i⟩
noncomputable def f5w (lo hi c : Int) : Nat := (Builtin.Range.rangeSize lo hi c).toNat
section
variable {X : Cx} {tg : Expr}
noncomputable def iRng3 (ta : TA) : TI := fun σ H R => ta σ H fun vs H1 => ∃ i j c : Int, vs = [.int i, .int j, .int c] /\ (0 <= i /\ i < 2 ^ 32 /\ 0 <= j /\ j < 2 ^ 32 /\ 0 < c /\ c < 2 ^ 30) /\ R (f5v i c (f5w i j c)) H1
end
noncomputable def f2t (J : It) (g : TG) (tb : TS) (D : Ends) (σ : St) (H : Hp) : Prop := ∃ W : Nat -> Nat -> St -> Hp -> Prop, (∃ m, W 0 m σ H) /\ ∀ i m σ H, W i m σ H ->
 (J.stop i H /\ D.nx σ H) \/ (J.go i H /\ ∃ N : St -> Hp -> Prop, (∀ σ' H', N σ' H' -> ∃ m', m' < m /\ W (i + 1) m' σ' H') /\ ∀ x H', J.yld i H x H' -> g x σ H' fun σ2 H2 => tb { D with nx := N, ct := N, bk := D.nx } σ2 H2)
noncomputable def d6w (wi : TI) (g : TG) (tb : TS) : TS := fun D σ H => wi σ H fun J H1 => f2t J g tb D σ H1
theorem a7p {X : Cx} {tg iter : Expr} {body : List Stmt} {wi : TI} {g : TG} {tb : TS} {pos : Pos} (hp : PassesOwn (model X.prog X.w) X.A X.env X.xe) (hc : X.calm = true) (hi : PI X tg iter wi) (hg : PG X tg g) (hb : PSs X body tb)
  (hs : ∀ x, foldedSetIterable iter X.env x = pure x := by intro _; rfl) : PS X (.For tg iter body [] pos) (d6w wi g tb) := d5u hp hc hi hg hb hs
theorem a6l {K : PySem.W.Frag} {a : Addr} {xs : List V} {g : TG} {tb : TS} {D : Ends} {σ : St} {H : Hp} (Pv : Nat -> St -> Hp -> Prop) (h0 : Pv 0 σ H) (hl : ∀ i σ H, i <= xs.length -> Pv i σ H -> SqL K H a xs)
  (hs : ∀ i x σ H, xs[i]? = some x -> Pv i σ H -> g x σ H fun σ2 H2 => tb { D with nx := Pv (i + 1), ct := Pv (i + 1), bk := D.nx } σ2 H2) (hd : ∀ σ H, Pv xs.length σ H -> D.nx σ H) : f2t (Itl K a) g tb D σ H := c8k Pv h0 hl hs hd
theorem b2w {lo : Int} {n : Nat} {g : TG} {tb : TS} {D : Ends} {σ : St} {H : Hp} (Pv : Nat -> St -> Hp -> Prop) (h0 : Pv 0 σ H)
  (hs : ∀ i σ H, i < n -> Pv i σ H -> g (.int (lo + i)) σ H fun σ2 H2 => tb { D with nx := Pv (i + 1), ct := Pv (i + 1), bk := D.nx } σ2 H2) (hd : ∀ σ H, Pv n σ H -> D.nx σ H) : f2t (Itr lo n) g tb D σ H := c4m Pv h0 hs hd
noncomputable def d0r (c : TT) (tb : TS) (D : Ends) (σ : St) (H : Hp) : Prop := ∃ W : Nat -> St -> Hp -> Prop, (∃ m, W m σ H) /\ ∀ m σ H, W m σ H ->
 c σ H fun b H1 => if b = true then tb { D with nx := fun σ' H' => ∃ m', m' < m /\ W m' σ' H', ct := fun σ' H' => ∃ m', m' < m /\ W m' σ' H', bk := D.nx } σ H1 else D.nx σ H1
noncomputable def c5t (c : TT) (tb : TS) : TS := fun D σ H => d0r c tb D σ H
theorem b4m {X : Cx} {c : Expr} {body : List Stmt} {tc : TT} {tb : TS} {pos : Pos} (hp : PassesOwn (model X.prog X.w) X.A X.env X.xe) (hc : PT X c tc) (hb : PSs X body tb) : PS X (.While c body [] pos) (c5t tc tb) := by
 intro pins s σ H D I h
 obtain ⟨W, ⟨m0, w0⟩, turn⟩ := h
 refine wpAny_While (codeAny_whileLoop (fun n s' => ∃ σ' H', Inv X pins σ' H' s' /\ W n σ' H') ?_ m0 ⟨σ, H, I, w0⟩)
 rintro n s1 ⟨σ1, H1, I1, w1⟩
 refine wpAny_passesOwn hp (thn (hc pins s1 σ1 H1 _ I1 (turn n σ1 H1 w1)) fun b s2 ⟨H2, I2, q2⟩ => ?_)
 cases b with
 | true =>
  rw [if_pos rfl]
  refine wpAny_passesOwn hp (thn (hb pins s2 σ1 H2 _ I2 q2) fun f s3 q3 => ?_)
  cases f with
  | next =>
   obtain ⟨σ3, H3, I3, m', hm, w3⟩ := q3
   exact ⟨m', hm, σ3, H3, I3, w3⟩
  | cont =>
   obtain ⟨σ3, H3, I3, m', hm, w3⟩ := q3
   exact ⟨m', hm, σ3, H3, I3, w3⟩
  | brk => exact q3
  | ret v => exact q3
 | false =>
  rw [if_neg Bool.false_ne_true]
  exact wpAny_execs_nil ⟨σ1, H2, I2, q2⟩
theorem b4n {c : TT} {tb : TS} {D : Ends} {σ : St} {H : Hp} (Pv : Nat -> St -> Hp -> Prop) (m0 : Nat) (h0 : Pv m0 σ H)
  (hs : ∀ m σ H, Pv m σ H -> c σ H fun b H1 => if b = true then tb { D with nx := fun σ' H' => ∃ m', m' < m /\ Pv m' σ' H', ct := fun σ' H' => ∃ m', m' < m /\ Pv m' σ' H', bk := D.nx } σ H1 else D.nx σ H1) : d0r c tb D σ H :=
 ⟨Pv, ⟨m0, h0⟩, hs⟩
end L2
namespace Att
open PySem PySem.W PySem.Calls PyProof.Rows
open PySem.Builtin.Int (intBits)
theorem c0l {ns : List Int} (h : WData.layableAll [WData.list (ns.map WData.int)] = true) : ∀ n ∈ ns, intBits n <= 1048576 := by
 intro n hn
 have h1 := layableW_arg h _ (List.mem_singleton.mpr rfl)
 have h2 := layableW_item h1 (WData.int n) (List.mem_map.mpr ⟨n, hn, rfl⟩)
 have h3 := (layableW_iff.mp h2).2.2
 exact h3
theorem b8m {l : OpenLaw} {n : Nat} {q : Program} {loose : List Str} {XP : (Str -> Option Value) -> Heap -> Prop} {YP : World -> Heap -> Prop} {d : DefRec}
  (hn : l.most = some n) (hdf : d.params.defaults = [])
  (call : ∀ (w : World) (s₀ s₁ : Shared) (mg mb : Str -> Option Value) (fa : Addr) (o : Obj) (pm cd doc : Value) (a : Addr) (vs : List Value) (ns : List Int),
   Ground q loose [] XP w s₀ mg mb s₁.heap -> YP w s₁.heap ->
   s₁.heap.get? fa = some o -> o.data = .func (docDef d.name d.params d.body d.scope pm cd doc) -> s₁.heap.CodeRec cd d.name -> mg d.name = some (.ref fa) ->
   s₁.heap.get? a = some { cls := .type "list", data := .seq vs.toArray } → IntsAre vs ns → ns.length ≤ n → (∀ x ∈ ns, intBits x ≤ 1048576) → s₁.gens = #[] →
   codeAny (model l.prog w) callerA (.call (.ref fa) ⟨[.ref a], []⟩) (fun r s' => r = .ok (.ret (.bool true)) /\ OldK s₁.heap s'.heap /\ s'.os = s₁.os /\ AllBare s'.gens) s₁) :
  WalkO q loose XP YP l.row.toRowW d [] (fun f vs => PySem.call f vs) := by
 intro w s₀ s₁ mg mb G Y fa o pm cd doc dV kV ho hd hcd hD hmg hg args vals as hpre hlay hrd hwl hlo
 obtain rfl : dV = .none := Dflts.none hD hdf
 obtain rfl : kV = .none := Dflts.noKw hD
 obtain ⟨a, vs, ns, rfl, rfl, hobj, hints, hlen⟩ := c5k hn hpre hwl
 refine enter_call (codeAny_mono (call w s₀ s₁ mg mb fa o pm cd doc a vs ns G Y ho (fd_plain hd) hcd hmg hobj hints hlen (c0l hlay) hg) fun r s' hq => ?_)
 obtain ⟨rfl, h2, h3, h4⟩ := hq
 exact ⟨.inl ⟨.bool true, .bool true, [], rfl, fun _ => rfl, .bool true, c5l l _, fun _ => ⟨List.Pairwise.nil, fun _ hm => (nomatch hm)⟩⟩, h2, h3, h4⟩
end Att
namespace L2
open PySem PySem.Spec PyProof.Rows
open PySem.Builtin.Int (intBits)
noncomputable def c0m (n : Nat) (K : PySem.W.Frag) : Sp := fun vs H Q _ => ∃ (a : Addr) (ns : List Int), vs = [.ref a] /\ SqL K H a (ns.map V.int) /\ ns.length <= n /\ (∀ x ∈ ns, intBits x <= 1048576) /\ Only H /\ ∀ H', Q (.bl true) H'
theorem c8w {l : PySem.W.OpenLaw} {k : Nat} {q : Program} {loose : List Str} {XP : (Str -> Option Value) -> Heap -> Prop} {YP : World -> Heap -> Prop} {d : DefRec} {K : Params -> PySem.W.Frag} {CX : World -> CXT} {x : Str}
  (hn : l.most = some 63) (hdf : d.params.defaults = []) (hr : a5u k callerA)
  (hY : ∀ (w : World) (h : Heap), YP w h -> (K w.params).In h)
  (F : ∀ (w : World) (mg : Str -> Option Value) (fa : Addr) (h : Heap), (K w.params).In h -> h.Ns mainGlobals mg -> mg d.name = some (.ref fa) ->
   ∃ fd : FuncData, (∀ (s : Shared) (u : Value), BindsTo s fd ⟨[u], []⟩ [(x, u)]) /\
    ∀ base : Heap, (K w.params).In base -> base.Ns mainGlobals mg -> a4n l.prog w (K w.params) mg base (CX w) k fa fd [x] (c0m 63 (K w.params)))
  (hCX : ∀ (w : World) (H : Hp) (s : Shared) (e : Value) (s' : Shared), CX w [] H s (fun _ _ _ => False) e s' -> False) :
  PySem.W.WalkO q loose XP YP l.row.toRowW d [] (fun f vs => PySem.call f vs) := by
 refine Att.b8m hn hdf fun w s₀ s₁ mg mb fa o pm cd doc a vs ns G Y ho hd hcd hmg hobj hints hlen hbits hg => ?_
 have KX := hY w _ Y
 obtain ⟨fd, hb, hF⟩ := F w mg fa _ KX G.T.g hmg
 exact c8p KX G.T.g G.T.b G.T.builtins G.T.nolimit hg hobj hints (Nat.le_trans hlen (by decide)) hr hF hb (fun H hO hS => ⟨a, ns, rfl, hS, hlen, hbits, hO, fun _ => rfl⟩) fun H e s' => hCX w H s₁ e s'
end L2
namespace L2
open PySem PySem.Spec PyProof.Rows
theorem Same.upd {H : Hp} {p : Addr} {o : HO} (h : H p = none) : Same H (upd H p o) := fun b u e => by
 rw [a1g (a1o e h)]; exact e
structure Tag {α : Type} (a : α) : Type where
noncomputable def New (H : Hp) (o : HO) (Q : VK) (_ : Tag Q) : Prop := ∀ p H1, H p = none -> Same H H1 -> H1 p = some o -> Q (.ref p) H1
noncomputable def All (C : V -> Hp -> Prop) (Q : VK) (_ : Tag C) (_ : Tag Q) : Prop := ∀ v H1, C v H1 -> Q v H1
theorem New.raw {H : Hp} {o : HO} {Q : VK} {t : Tag Q} (h : New H o Q t) : ∀ p, H p = none -> Q (.ref p) (L2.upd H p o) := fun p e => h p _ e (Same.upd e) a0z
theorem d6y {CX : CXT} {P : Program} {w : World} {K : PySem.W.Frag} {mg : Str -> Option Value} {base : Heap} {N : List Str} {qual : Str} {scope : Scope} {f : Addr} {cd : Value} {A : Around} {outer : List Env} {s : Shared} {H : Hp} {E : XK} : (d0l CX P w K mg base N qual scope f cd A outer s H E).K = K := rfl
section
variable {X : Cx} {es : List Expr} {t : TA} {pos : Pos}
noncomputable def d6z (t : TA) : TE := fun σ H Q => t σ H fun xs H1 => xs.length <= sizeLine /\ New H1 (.tup xs) Q ⟨⟩
noncomputable def d7g (t : TA) : TE := fun σ H Q => t σ H fun xs H1 => xs.length <= sizeLine /\ New H1 (.lst xs) Q ⟨⟩
end
section
variable {X : Cx} {a b c : Expr} {ta tb tc : TE} {pos : Pos}
noncomputable def d7h : R2 := fun x y H Q => match x, y with
 | .int i, .int j => Q (.int (i + j)) H
 | .str u, .str v => u.length + v.length <= sizeLine /\ Q (.str (u ++ v)) H
 | .ref l, .ref b => ∃ xs zs, H l = some (.lst xs) /\ H b = some (.lst zs) /\ xs.length + zs.length <= sizeLine /\ New H (.lst (xs ++ zs)) Q ⟨⟩
 | _, _ => False
theorem a5v : OpR X (binaryOp .Add) d7h := by
 intro pins s σ H x y v u Q I rx ry h
 cases x <;> cases y <;> first
  | exact False.elim h
  | exact d5v pins s σ H _ _ v u Q I rx ry ⟨_, _, rfl, rfl, h⟩
  | exact c2q pins s σ H _ _ v u Q I rx ry ⟨_, _, rfl, rfl, h.1, h.2⟩
  | (obtain ⟨xs, zs, h1, h2, h3, h4⟩ := h
     exact d6p pins s σ H _ _ v u Q I rx ry ⟨_, _, _, _, rfl, rfl, h1, h2, h3, h4.raw⟩)
noncomputable def d7i : R2 := fun x y H Q => match x, y with
 | .int i, .int j => IntMulOk i j /\ Q (.int (i * j)) H
 | .ref l, .int k => ∃ xs, H l = some (.lst xs) /\ -(2 ^ 63) <= k /\ k < 2 ^ 63 /\ xs.length * k.toNat <= sizeLine /\ New H (.lst (List.replicate k.toNat xs).flatten) Q ⟨⟩
 | _, _ => False
theorem b6o : OpR X (binaryOp .Mult) d7i := by
 intro pins s σ H x y v u Q I rx ry h
 cases x <;> cases y <;> first
  | exact False.elim h
  | exact d2u pins s σ H _ _ v u Q I rx ry ⟨_, _, rfl, rfl, h.1, h.2⟩
  | (obtain ⟨xs, h1, h2, h3, h4, h5⟩ := h
     exact d6q pins s σ H _ _ v u Q I rx ry ⟨_, _, _, rfl, rfl, h1, h2, h3, h4, h5.raw⟩)
noncomputable def f1i (K : PySem.W.Frag) : R2 := fun x y H Q => if c4n x y = true then Q (.bl (decide (x = y))) H else f1g K x y H Q
noncomputable def f2u (K : PySem.W.Frag) : R2 := fun x y H Q => if c4n x y = true then Q (.bl (!decide (x = y))) H else f1h K x y H Q
theorem a9k (hu : X.A.units + 64 < cLine) : OpR X (compareOp .Eq) (f1i X.K) := by
 intro pins s σ H x y v u Q I rx ry h
 unfold f1i at h
 by_cases hs : c4n x y = true
 ·rw [if_pos hs] at h
  exact f2h pins s σ H x y v u Q I rx ry ⟨hs, h⟩
 ·rw [if_neg hs] at h
  exact d6u hu pins s σ H x y v u Q I rx ry h
theorem c1u (hu : X.A.units + 64 < cLine) : OpR X (compareOp .NotEq) (f2u X.K) := by
 intro pins s σ H x y v u Q I rx ry h
 unfold f2u at h
 by_cases hs : c4n x y = true
 ·rw [if_pos hs] at h
  exact f2i pins s σ H x y v u Q I rx ry ⟨hs, h⟩
 ·rw [if_neg hs] at h
  exact d6v hu pins s σ H x y v u Q I rx ry h
noncomputable def f5y : R2 := fun x y H Q => match x, y with
 | .ref p, .int i => (match H p with
  | some (.tup xs) => ∃ v, atI xs i = some v /\ Q v H
  | some (.lst xs) => ∃ v, atI xs i = some v /\ Q v H
  | _ => False)
 | .str z, .int i => ∃ c, z.length <= sizeLine /\ atI z.cps.toList i = some c /\ Q (.str ⟨#[c]⟩) H
 | _, _ => False
theorem b5w : IxR X f5y := by
 intro value slice pins s σ H x y v u Q I rx ry h hs
 cases x with
 | ref p =>
  cases y with
  | int i =>
   have h' : (match H p with
    | some (.tup xs) => ∃ v, atI xs i = some v /\ Q v H
    | some (.lst xs) => ∃ v, atI xs i = some v /\ Q v H
    | _ => False) := h
   split at h'
   ·rename_i xs e
    obtain ⟨z, h2, h3⟩ := h'
    exact d6k value slice pins s σ H _ _ v u Q I rx ry ⟨_, xs, _, z, rfl, rfl, SqT.of e, h2, h3⟩ hs
   ·rename_i xs e
    obtain ⟨z, h2, h3⟩ := h'
    exact c5h value slice pins s σ H _ _ v u Q I rx ry ⟨_, xs, _, z, rfl, rfl, SqL.of e, h2, h3⟩ hs
   ·exact h'.elim
  | _ => exact False.elim h
 | str z =>
  cases y with
  | int i =>
   obtain ⟨c, h1, h2, h3⟩ := h
   exact d6l value slice pins s σ H _ _ v u Q I rx ry ⟨_, _, c, rfl, rfl, h1, h2, h3⟩ hs
  | _ => exact False.elim h
 | _ => exact False.elim h
noncomputable def f5z : V -> Option Int -> Option Int -> Hp -> VK -> Prop := fun x lo hi H Q => match x with
 | .ref a => (match H a with
  | some (.lst xs) => New H (.lst (b7n xs lo hi)) Q ⟨⟩
  | _ => False)
 | _ => False
theorem sl_M : SlR X f5z := by
 intro pins s σ H x v vl vu lo hi sl Q I rx hs pl pu h
 cases x with
 | ref a =>
  have h' : (match H a with
   | some (.lst xs) => New H (.lst (b7n xs lo hi)) Q ⟨⟩
   | _ => False) := h
  split at h'
  ·rename_i xs e
   exact c5i pins s σ H _ v vl vu lo hi sl Q I rx hs pl pu ⟨_, xs, rfl, SqL.of e, h'.raw⟩
  ·exact h'.elim
 | _ => exact False.elim h
noncomputable def rSlK (K : PySem.W.Frag) : V -> Option Int -> Option Int -> Hp -> VK -> Prop := fun x lo hi H Q => ∃ a xs, x = .ref a /\ SqL K H a xs /\ New H (.lst (b7n xs lo hi)) Q ⟨⟩
theorem sl_K : SlR X (rSlK X.K) := by
 intro pins s σ H x v vl vu lo hi sl Q I rx hs pl pu h
 obtain ⟨a, xs, e, h1, h2⟩ := h
 exact c5i pins s σ H _ v vl vu lo hi sl Q I rx hs pl pu ⟨a, xs, e, h1, h2.raw⟩
noncomputable def d7j : List V -> Hp -> VK -> Prop := fun xs H Q => match xs with
 | [.ref p] => (match H p with
  | some (.lst ys) => Q (.int ys.length) H
  | some (.tup ys) => Q (.int ys.length) H
  | _ => False)
 | [.str z] => z.length <= sizeLine /\ Q (.int z.length) H
 | _ => False
theorem a3r : a9i X (.builtin "len") d7j := by
 intro pins s σ H xs us Q I r h
 match xs, r, h with
 | [.ref p], r, h =>
  have h' : (match H p with
   | some (.lst ys) => Q (.int ys.length) H
   | some (.tup ys) => Q (.int ys.length) H
   | _ => False) := h
  split at h'
  ·rename_i ys e
   exact a9j pins s σ H _ us Q I r ⟨p, ys, rfl, .inl (SqL.of e), h'⟩
  ·rename_i ys e
   exact a9j pins s σ H _ us Q I r ⟨p, ys, rfl, .inr (SqT.of e), h'⟩
  ·exact h'.elim
 | [.str z], r, h => exact b7z pins s σ H _ us Q I r ⟨z, rfl, h.1, h.2⟩
theorem c5u : a9i X (.builtin "len") (fun xs H Q => ∃ p ys, xs = [.ref p] ∧ SqL X.K H p ys ∧ Q (.int ys.length) H) := by
 intro pins s σ H xs us Q I r h
 obtain ⟨p, ys, e, h1, h2⟩ := h
 exact a9j pins s σ H _ us Q I r ⟨p, ys, e, .inl h1, h2⟩
theorem d2w {i j : Int} : c4n (.int i) (.int j) = true := rfl
theorem d2y {i j : Str} : c4n (.str i) (.str j) = true := rfl
theorem d2z {i j : Bool} : c4n (.bl i) (.bl j) = true := rfl
theorem d3g : c4n .non .non = true := rfl
theorem d3h {i j : Addr} : c4n (.ref i) (.ref j) = false := rfl
theorem d7k {H : Hp} {i : Int} : d0q H (.int i) = some .int := rfl
theorem d7l {H : Hp} {i : Str} : d0q H (.str i) = some .str := rfl
theorem d7m {H : Hp} {i : Bool} : d0q H (.bl i) = some .bl := rfl
theorem d7n {H : Hp} : d0q H .non = some .non := rfl
theorem d7o {H : Hp} {a : Addr} : d0q H (.ref a) = (match H a with
  | some (.lst _) => some .lst
  | some (.frz _ (.lst _)) => some .lst
  | some (.tup _) => some .tup
  | some (.dK _) => some .dct
  | some (.dT _) => some .dct
  | _ => none) := rfl
theorem two_line : 2 <= sizeLine := by decide
theorem d0s {α : Type} {x : α} {xs : List α} : atI (x :: xs) 0 = some x := a4w (j := 0) rfl
theorem d0t {α : Type} {x y : α} {xs : List α} : atI (x :: y :: xs) 1 = some y := a4w (j := 1) rfl
theorem d0u {α : Type} {x y z : α} {xs : List α} : atI (x :: y :: z :: xs) 2 = some z := a4w (j := 2) rfl
theorem d0v {α : Type} {x y z u : α} {xs : List α} : atI (x :: y :: z :: u :: xs) 3 = some u := a4w (j := 3) rfl
theorem b8n {p q A B : Prop} [Decidable p] [Decidable q] : (if p then (if q then A else B) else B) = (if p /\ q then A else B) := by
 by_cases hp : p <;> by_cases hq : q <;> simp [hp, hq]
theorem c0n {p q A B : Prop} [Decidable p] [Decidable q] : (if p then A else (if q then A else B)) = (if p \/ q then A else B) := by
 by_cases hp : p <;> by_cases hq : q <;> simp [hp, hq]
end
section
variable {X : Cx} {es : List Expr} {t : TA} {pos : Pos}
noncomputable def MonoA (t : TA) : Prop := ∀ σ H (Q Q' : List V -> Hp -> Prop), (∀ v H1, Q v H1 -> Q' v H1) -> t σ H Q -> t σ H Q'
theorem PA.weak {t : TA} (h : PA X es t) {u : TA} (q : ∀ σ H (Q : List V -> Hp -> Prop), u σ H Q -> t σ H Q) : PA X es u := fun pos pins s σ H Q I hu => h pos pins s σ H Q I (q σ H Q hu)
theorem c5v {x1} (h : PA X es t) : PE X (.Tuple es x1 pos) (d6z t) := by
 intro pins s σ H Q I hq
 refine wpAny_Tuple_spliced (thn (h pos pins s σ H _ I hq) fun us s1 ⟨xs, H1, I1, r, z, q⟩ => ⟨by rw [<- r.length]; exact z, ?_⟩)
 have hf : H1 s1.heap.objs.size = none := I1.hok.fresh (Nat.le_refl _)
 refine ⟨.ref s1.heap.objs.size, upd H1 s1.heap.objs.size (.tup xs), I1.laid (t' := s1.toks) (fun b u e => Heap.get?_push_of_some _ e) (Nat.le_refl _) ?_, rfl, q.raw _ hf⟩
 exact ⟨z, us, r, ⟨_, Heap.get?_push_size _ rfl, rfl, _, rfl⟩⟩
theorem a2m (h : PA X es t) : PE X (.List es pos) (d7g t) := by
 intro pins s σ H Q I hq
 refine wpAny_List_spliced (thn (h pos pins s σ H _ I hq) fun us s1 ⟨xs, H1, I1, r, z, q⟩ => ⟨by rw [<- r.length]; exact z, ?_⟩)
 have hf : H1 s1.heap.objs.size = none := I1.hok.fresh (Nat.le_refl _)
 refine ⟨.ref s1.heap.objs.size, upd H1 s1.heap.objs.size (.lst xs), I1.laid (t' := s1.toks) (fun b u e => Heap.get?_push_of_some _ e) (Nat.le_refl _) ?_, rfl, q.raw _ hf⟩
 exact ⟨z, us, 0, r, Heap.get?_push_size _ rfl⟩
end
theorem Same.tup {K : PySem.W.Frag} {H H' : Hp} {a : Addr} {xs : List V} (e : Same H H') (h : SqT K H a xs) : SqT K H' a xs := by
 rcases h with (h | ⟨o, h⟩) | h
 ·exact .inl (.inl (e _ _ h))
 ·exact .inl (.inr ⟨o, e _ _ h⟩)
 ·exact .inr h
end L2
namespace L2
open PySem PySem.Spec PyProof.Rows
open PySem.Builtin.Int (intBits)
section
variable {X : Cx} {e a b c : Expr} {es rest : List Expr} {pos : Pos} {tg iter : Expr}
theorem PE.weak {t u : TE} (h : PE X e t) (q : ∀ σ H Q, u σ H Q -> t σ H Q) : PE X e u := fun pins s σ H Q I hu => h pins s σ H Q I (q σ H Q hu)
theorem PT.weak {t u : TT} (h : PT X e t) (q : ∀ σ H Q, u σ H Q -> t σ H Q) : PT X e u := fun pins s σ H Q I hu => h pins s σ H Q I (q σ H Q hu)
theorem PI.weak {t u : TI} (h : PI X tg iter t) (q : ∀ σ H Q, u σ H Q -> t σ H Q) : PI X tg iter u := fun pins s σ H Q I hu => h pins s σ H Q I (q σ H Q hu)
theorem OpR.weak {f : Value -> Value -> Sem Value} {r r' : R2} (h : OpR X f r) (q : ∀ x y H Q, r' x y H Q -> r x y H Q) : OpR X f r' := fun pins s σ H x y v u Q I rx ry hr => h pins s σ H x y v u Q I rx ry (q x y H Q hr)
theorem UnR.weak {f : Value -> Sem Value} {r r' : V -> Hp -> VK -> Prop} (h : UnR X f r) (q : ∀ x H Q, r' x H Q -> r x H Q) : UnR X f r' := fun pins s σ H x v Q I rx hr => h pins s σ H x v Q I rx (q x H Q hr)
theorem a9i.weak {f : Value} {r r' : List V -> Hp -> VK -> Prop} (h : a9i X f r) (q : ∀ xs H Q, r' xs H Q -> r xs H Q) : a9i X f r' := fun pins s σ H xs us Q I rx hr => h pins s σ H xs us Q I rx (q xs H Q hr)
theorem IxR.weak {r r' : R2} (h : IxR X r) (q : ∀ x y H Q, r' x y H Q -> r x y H Q) : IxR X r' := fun value slice pins s σ H x y v u Q I rx ry hr hs => h value slice pins s σ H x y v u Q I rx ry (q x y H Q hr) hs
noncomputable def d3i (i : Nat) : TE := fun σ H Q => match σ[i]? with
 | some (some v) => Q v H
 | _ => False
theorem pvF (i : Nat) {x : Str} {pos : Pos} (hN : X.N[i]? = some x := by rfl) (hv : Vis X.env.scope x := by first | exact Or.inl rfl | exact Or.inr (Or.inl rfl) | exact Or.inr (Or.inr rfl)) (hd : (x == ("__debug__" : Str)) = false := by decide)
  (hcd : (x == ("__classdict__" : Str)) = false := by decide) : PE X (.Name x pos) (d3i i) := (d5n hN hv hd hcd).weak fun σ H Q h => by
 unfold d3i at h
 split at h
 ·rename_i v e
  exact ⟨v, e, h⟩
 ·exact h.elim
noncomputable def rIF (C : Int -> Int -> Prop) (g : Int -> Int -> V) : R2 := fun x y H Q => match x, y with
 | .int i, .int j => C i j /\ Q (g i j) H
 | _, _ => False
noncomputable def d7p (g : Int -> Int -> V) : R2 := fun x y H Q => match x, y with
 | .int i, .int j => Q (g i j) H
 | _, _ => False
theorem c5w {C : Int -> Int -> Prop} {g : Int -> Int -> V} : ∀ x y H Q, rIF C g x y H Q -> rI C g x y H Q := fun x y H Q h => by
 cases x <;> cases y <;> first | exact False.elim h | exact ⟨_, _, rfl, rfl, h⟩
theorem c0o {g : Int -> Int -> V} : ∀ x y H Q, d7p g x y H Q -> rI0 g x y H Q := fun x y H Q h => by
 cases x <;> cases y <;> first | exact False.elim h | exact ⟨_, _, rfl, rfl, h⟩
theorem b4o : OpR X (binaryOp .FloorDiv) (rIF CFd fun i j => .int (i.fdiv j)) := c8v.weak c5w
theorem a9l : OpR X (binaryOp .Mod) (rIF (fun _ j => j ≠ 0) fun i j => .int (i.fmod j)) := d2h.weak c5w
theorem d0w : OpR X (binaryOp .Pow) (rIF f2g fun i j => .int (i ^ j.toNat)) := d5w.weak c5w
theorem of_lt : OpR X (compareOp .Lt) (d7p fun i j => .bl (decide (i < j))) := f2j.weak c0o
theorem of_le : OpR X (compareOp .LtE) (d7p fun i j => .bl (decide (i <= j))) := f2k.weak c0o
theorem d7q : OpR X (compareOp .Gt) (d7p fun i j => .bl (decide (j < i))) := f2l.weak c0o
noncomputable def rUF (g : Int -> V) : V -> Hp -> VK -> Prop := fun x H Q => match x with
 | .int i => Q (g i) H
 | _ => False
theorem d7r : UnR X (unaryOp .USub) (rUF fun i => .int (-i)) := d5y.weak fun x H Q h => by
 cases x <;> first | exact False.elim h | exact ⟨_, rfl, h⟩
noncomputable def tBF (t : TE) : TT := fun σ H Q => t σ H fun x H1 => match x with
 | .bl k => Q k H1
 | _ => False
theorem f2v {x : V} {H1 : Hp} {Q : Bool -> Hp -> Prop} (h : match x with | .bl k => Q k H1 | _ => False) : ∃ k, x = .bl k /\ Q k H1 := by
 cases x <;> first | exact False.elim h | exact ⟨_, rfl, h⟩
theorem a0t {op : CmpOp} {r : R2} {ta tb : TE} (ho : OpR X (compareOp op) r) (ha : PE X a ta) (hb : PE X b tb) (hm : behindInMarks op b = false) : PT X (.Compare a [op] [b] pos) (tBF (tOp r ta tb)) := by
 intro pins s σ H Q I h
 refine (d2i (ho.weak (r' := fun x y H Q => r x y H Q) fun _ _ _ _ z => z) ha hb hm) pins s σ H _ I ?_
 unfold d5z
 exact h |> fun h => by
  unfold tBF at h
  have e : (fun (x : V) (H1 : Hp) => match x with | .bl k => Q k H1 | _ => False) = fun x H1 => ∃ k, x = V.bl k /\ Q k H1 := by
   funext x H1
   cases x <;> simp
  rw [e] at h
  exact h
theorem b1l {t : TE} (h : PE X e t) (he : ∀ whole, isTrue e X.env whole = (do let v <- whole; standAt e.pos; holding [v] (truthy v)) := by intro _; rfl) : PT X e (tBF t) := by
 intro pins s σ H Q I hw
 refine (d5p h he) pins s σ H _ I ?_
 unfold tB
 unfold tBF at hw
 have e : (fun (x : V) (H1 : Hp) => match x with | .bl k => Q k H1 | _ => False) = fun x H1 => ∃ k, x = V.bl k /\ Q k H1 := by
  funext x H1
  cases x <;> simp
 rw [e] at hw
 exact hw
noncomputable def f2w (ta tb : TE) : TE := fun σ H Q => ta σ H fun x H1 => match x with
 | .bl c => if c = true then tb σ H1 Q else Q (.bl false) H1
 | _ => False
noncomputable def tOrF (ta tb : TE) : TE := fun σ H Q => ta σ H fun x H1 => match x with
 | .bl c => if c = true then Q (.bl true) H1 else tb σ H1 Q
 | _ => False
noncomputable def f2y (ta : TE) : TE := fun σ H Q => ta σ H fun x H1 => match x with
 | .bl c => Q (.bl (!c)) H1
 | _ => False
noncomputable def c5y (ta : TA) : TI := fun σ H R => ta σ H fun vs H1 => match vs with
 | [.int j] => -(2 ^ 62) <= j /\ j < 2 ^ 62 /\ R (Itr 0 j.toNat) H1
 | _ => False
noncomputable def d7s (ta : TA) : TI := fun σ H R => ta σ H fun vs H1 => match vs with
 | [.int i, .int j] => (-(2 ^ 62) <= i /\ i < 2 ^ 62 /\ -(2 ^ 62) <= j /\ j < 2 ^ 62) /\ R (Itr i (j - i).toNat) H1
 | _ => False
noncomputable def d7t (ta : TA) : TI := fun σ H R => ta σ H fun vs H1 => match vs with
 | [.int i, .int j, .int c] => (0 <= i /\ i < 2 ^ 32 /\ 0 <= j /\ j < 2 ^ 32 /\ 0 < c /\ c < 2 ^ 30) /\ R (f5v i c (f5w i j c)) H1
 | _ => False
theorem b0n {ta : TA} {p pos : Pos} (hg : Gl X "range") (hm : X.mg "range" = none) (ha : PA X [a] ta) (hs : starEach [a] X.env = [(false, eval a X.env)] := by rfl) : PI X tg (.Call (.Name "range" p) [a] [] pos) (c5y ta) := by
 refine (c4k hg hm ha hs).weak fun σ H R h => ?_
 unfold d5t
 unfold c5y at h
 have e : (fun (vs : List V) (H1 : Hp) => (match vs with | [.int j] => -(2 ^ 62) <= j /\ j < 2 ^ 62 /\ R (Itr 0 j.toNat) H1 | _ => False : Prop)) = fun vs H1 => ∃ j : Int, vs = [.int j] /\ -(2 ^ 62) <= j /\ j < 2 ^ 62 /\ R (Itr 0 j.toNat) H1 := by
  funext vs H1
  refine propext ⟨fun z => ?_, fun ⟨j, e, z⟩ => by subst e; exact z⟩
  match vs, z with
  | [.int j], z => exact ⟨j, rfl, z⟩
 rw [e] at h
 exact h
noncomputable def c5z (K : PySem.W.Frag) (tl : TE) : TI := fun σ H R => tl σ H fun x H1 => match x with
 | .ref a => (∃ xs, SqL K H1 a xs) /\ R (Itl K a) H1
 | _ => False
theorem a3j {l : Expr} {tl : TE} (hl : PE X l tl) : PI X tg l (c5z X.K tl) := (d2g hl).weak fun σ H R h => by
 unfold d5s
 unfold c5z at h
 have e : (fun (x : V) (H1 : Hp) => match x with | .ref a => (∃ xs, SqL X.K H1 a xs) /\ R (Itl X.K a) H1 | _ => False) = fun x H1 => ∃ a, x = .ref a /\ (∃ xs, SqL X.K H1 a xs) /\ R (Itl X.K a) H1 := by
  funext x H1
  cases x <;> simp
 rw [e] at h
 exact h
noncomputable def d7u (K : PySem.W.Frag) : R2 := fun x y H Q => match x, y with
 | .ref p, .int i => ∃ ns : List Int, SqL K H p (ns.map V.int) /\ 0 <= i /\ i < ns.length /\ Q (.int (ns.getD i.toNat 0)) H
 | _, _ => False
theorem c8y {ns : List Int} {i : Int} (h0 : 0 <= i) (h1 : i < ns.length) : atI (ns.map V.int) i = some (.int (ns.getD i.toNat 0)) := by
 obtain ⟨j, rfl⟩ := Int.eq_ofNat_of_zero_le h0
 refine a4w ?_
 have hj : j < ns.length := by omega
 rw [List.getElem?_map, List.getElem?_eq_getElem hj, List.getD_eq_getElem?_getD, Int.toNat_natCast, List.getElem?_eq_getElem hj]
 rfl
theorem ix_S : IxR X (d7u X.K) := c5h.weak fun x y H Q h => by
 cases x with
 | ref p =>
  cases y with
  | int i =>
   obtain ⟨ns, h1, h2, h3, h4⟩ := h
   exact ⟨p, _, i, _, rfl, rfl, h1, c8y h2 h3, h4⟩
  | _ => exact False.elim h
 | _ => exact False.elim h
noncomputable def d7v (K : PySem.W.Frag) : List V -> Hp -> VK -> Prop := fun xs H Q => match xs with
 | [.ref p] => ∃ ys, SqL K H p ys /\ Q (.int ys.length) H
 | _ => False
theorem c2y : a9i X (.builtin "len") (d7v X.K) := c5u.weak fun xs H Q h => by
 match xs, h with
 | [.ref p], ⟨ys, h1, h2⟩ => exact ⟨p, ys, rfl, h1, h2⟩
noncomputable def d7w (K : PySem.W.Frag) : V -> Option Int -> Option Int -> Hp -> VK -> Prop := fun x lo hi H Q => match x with
 | .ref a => ∃ xs, SqL K H a xs /\ New H (.lst (b7n xs lo hi)) Q ⟨⟩
 | _ => False
theorem f2z : SlR X (d7w X.K) := by
 intro pins s σ H x v vl vu lo hi sl Q I rx hs pl pu h
 cases x <;> first
  | exact False.elim h
  | (obtain ⟨xs, h1, h2⟩ := h
     exact sl_K pins s σ H _ v vl vu lo hi sl Q I rx hs pl pu ⟨_, xs, rfl, h1, h2⟩)
noncomputable def c6g (t : TE) : TO := fun σ H Q => t σ H fun x H1 => match x with
 | .int i => Q (some i) H1
 | _ => False
theorem a5n {te : TE} (h : PE X e te) : PO X (some e) (c6g te) := by
 intro pins s σ H Q I hw
 refine (d2n h) pins s σ H Q I ?_
 unfold d6j
 unfold c6g at hw
 have e : (fun (x : V) (H1 : Hp) => match x with | .int i => Q (some i) H1 | _ => False) = fun x H1 => ∃ i, x = V.int i /\ Q (some i) H1 := by
  funext x H1
  cases x <;> simp
 rw [e] at hw
 exact hw
noncomputable def rAbs : List V -> Hp -> VK -> Prop := fun xs H Q => match xs with
 | [.int i] => Q (.int i.natAbs) H
 | _ => False
noncomputable def rMin : List V -> Hp -> VK -> Prop := fun xs H Q => match xs with
 | [.int i, .int j] => Q (.int (min i j)) H
 | _ => False
noncomputable def rMax : List V -> Hp -> VK -> Prop := fun xs H Q => match xs with
 | [.int i, .int j] => Q (.int (max i j)) H
 | _ => False
noncomputable def d7y (K : PySem.W.Frag) : List V -> Hp -> VK -> Prop := fun xs H Q => match xs with
 | [.ref p] => (match H p with
  | some (.lst ys) => New H (.lst ys) Q ⟨⟩
  | some (.tup ys) => New H (.lst ys) Q ⟨⟩
  | _ => False)
 | _ => False
theorem d7z {α : Type} {x : α} {xs : List α} {p : α -> Prop} : (∃ v, atI (x :: xs) 0 = some v /\ p v) = p x := by
 rw [d0s]; simp
theorem d8g {α : Type} {x y : α} {xs : List α} {p : α -> Prop} : (∃ v, atI (x :: y :: xs) 1 = some v /\ p v) = p y := by
 rw [d0t]; simp
theorem d8h {α : Type} {x y z : α} {xs : List α} {p : α -> Prop} : (∃ v, atI (x :: y :: z :: xs) 2 = some v /\ p v) = p z := by
 rw [d0u]; simp
theorem d8i {α : Type} {x y z u : α} {xs : List α} {p : α -> Prop} : (∃ v, atI (x :: y :: z :: u :: xs) 3 = some v /\ p v) = p u := by
 rw [d0v]; simp
end
end L2
namespace L2
open PySem PySem.Spec PyProof.Rows PySem.W
theorem b2m {n : Nat} {d : Dat} (h : kqdOk n d = true) (hn : n <= 64) : SeqAt.shaped (kqdP d) = true := by
 have l := kqd_lay n d h
 unfold SeqAt.shaped
 rw [l.1, Bool.true_and]
 exact decide_eq_true (Nat.le_trans l.2 hn)
theorem d0y {n k : Nat} {d e : Dat} (hd : kqdOk n d = true) (he : kqdOk k e = true) {c : Bool} (hc : c = true ↔ d = e) : PyData.eqv (kqdP d) (kqdP e) = c := by
 have q := kqd_eqv n d e k hd he
 cases c with
 | true => exact q.mpr (hc.mp rfl)
 | false => exact Bool.eq_false_iff.mpr fun z => absurd (hc.mpr (q.mp z)) Bool.false_ne_true
theorem d8j {K : PySem.W.Frag} {H : Hp} {x y : V} {d e : Dat} {n k : Nat} {c : Bool} {Q : VK} (hd : b8l K H x (kqdP d)) (he : b8l K H y (kqdP e)) (kd : kqdOk n d = true) (ke : kqdOk k e = true) (hn : n <= 64) (hk : k <= 64) (hc : c = true ↔ d = e) (q : Q (.bl c) H) : f1g K x y H Q :=
 ⟨_, _, hd, he, b2m kd hn, b2m ke hk, by rw [d0y kd ke hc]; exact q⟩
theorem d8k {K : PySem.W.Frag} {H : Hp} {x y : V} {d e : Dat} {n k : Nat} {c : Bool} {Q : VK} (hd : b8l K H x (kqdP d)) (he : b8l K H y (kqdP e)) (kd : kqdOk n d = true) (ke : kqdOk k e = true) (hn : n <= 64) (hk : k <= 64) (hc : c = true ↔ d = e) (q : Q (.bl (!c)) H) : f1h K x y H Q :=
 ⟨_, _, hd, he, b2m kd hn, b2m ke hk, by rw [d0y kd ke hc]; exact q⟩
end L2
namespace L2
open PySem PySem.Spec PyProof.Rows
open PySem.Builtin.Int (intBits)
noncomputable def tCut (t u : TS) : TS := fun D σ H => ∃ Mid : St -> Hp -> Prop, t { D with nx := Mid } σ H /\ ∀ σ' H', Mid σ' H' -> u D σ' H'
theorem a4y {X : Cx} {st : Stmt} {rest : List Stmt} {t u : TS} (h1 : PS X st t) (h2 : PSs X rest u) : PSs X (st :: rest) (tCut t u) := by
 intro pins s σ H D I h
 obtain ⟨Mid, h, hm⟩ := h
 refine wpAny_execs_cons (thn (h1 pins s σ H { D with nx := Mid } I h) fun f s1 q => ?_)
 cases f with
 | next =>
  obtain ⟨σ', H', I', q⟩ := q
  exact h2 pins s1 σ' H' D I' (hm σ' H' q)
 | ret v => exact q
 | brk => exact q
 | cont => exact q
theorem c6h {ns : List Int} {n : Nat} (h : ∀ x ∈ ns, intBits x <= n) (k : Nat) : intBits (ns.getD k 0) <= n := by
 rw [List.getD_eq_getElem?_getD]
 cases e : ns[k]? with
 | none => exact Nat.zero_le _
 | some x => exact h x (List.mem_of_getElem? e)
end L2
namespace L2
open PySem PySem.Spec PyProof.Rows
theorem b2y {env : Env} : ∀ (names : List (Str × NameKind)) (acc : List (Str × Addr)), (∀ y, (y, NameKind.free) ∈ names -> ∃ c, env.cells.lookup y = some c) ->
  ∃ cl, (forIn names acc (fun (x : Str × NameKind) (cs : List (Str × Addr)) => (if x.2 == NameKind.free then (do let c <- cellOf env x.1; pure (ForInStep.yield ((x.1, c) :: cs))) else pure (ForInStep.yield cs) : Sem (ForInStep (List (Str × Addr)))))) = pure cl /\
   (∀ y c, cl.lookup y = some c -> acc.lookup y = some c \/ ((y, NameKind.free) ∈ names /\ env.cells.lookup y = some c)) /\
   (∀ y, (y, NameKind.free) ∈ names -> cl.lookup y = env.cells.lookup y) /\ (∀ y, (∀ k, (y, k) ∈ names -> k ≠ NameKind.free) -> cl.lookup y = acc.lookup y)
 | [], acc, _ => ⟨acc, rfl, fun y c h => .inl h, fun y h => (nomatch h), fun y _ => rfl⟩
 | (n, k) :: r, acc, h => by
  by_cases hk : k = NameKind.free
  ·subst hk
   obtain ⟨c, hc⟩ := h n List.mem_cons_self
   obtain ⟨cl, h1, h2, h3, h4⟩ := b2y r ((n, c) :: acc) fun y hy => h y (List.mem_cons_of_mem _ hy)
   have e : cellOf env n = pure c := by unfold cellOf; rw [hc]
   refine ⟨cl, ?_, fun y d hd => ?_, fun y hy => ?_, fun y hy => ?_⟩
   ·rw [List.forIn_cons]
    simp only [beq_self_eq_true, if_true, e, pure_bind]
    exact h1
   ·rcases h2 y d hd with z | ⟨z1, z2⟩
    ·rw [List.lookup_cons] at z
     by_cases hy : y = n
     ·subst hy
      simp only [beq_self_eq_true] at z
      cases z
      exact .inr ⟨List.mem_cons_self, hc⟩
     ·have : (y == n) = false := by simpa using hy
      rw [this] at z
      exact .inl z
    ·exact .inr ⟨List.mem_cons_of_mem _ z1, z2⟩
   ·by_cases hr : (y, NameKind.free) ∈ r
    ·exact h3 y hr
    ·rcases List.mem_cons.mp hy with z | z
     ·cases z
      by_cases hq : ∃ k, (n, k) ∈ r /\ k = NameKind.free
      ·obtain ⟨k, z, rfl⟩ := hq
       exact absurd z hr
      ·rw [h4 n fun k hk e => hq ⟨k, hk, e⟩, List.lookup_cons]
       simp only [beq_self_eq_true]
       exact hc.symm
     ·exact absurd z hr
   ·have hn : y ≠ n := fun e => by
     subst e
     exact hy _ List.mem_cons_self rfl
    rw [h4 y fun k hk => hy k (List.mem_cons_of_mem _ hk), List.lookup_cons]
    have : (y == n) = false := by simpa using hn
    rw [this]
  ·obtain ⟨cl, h1, h2, h3, h4⟩ := b2y r acc fun y hy => h y (List.mem_cons_of_mem _ hy)
   have hb : (k == NameKind.free) = false := by simpa using hk
   refine ⟨cl, ?_, fun y d hd => ?_, fun y hy => ?_, fun y hy => h4 y fun k hk => hy k (List.mem_cons_of_mem _ hk)⟩
   ·rw [List.forIn_cons]
    simp only [hb, Bool.false_eq_true, if_false, pure_bind]
    exact h1
   ·rcases h2 y d hd with z | ⟨z1, z2⟩
    ·exact .inl z
    ·exact .inr ⟨List.mem_cons_of_mem _ z1, z2⟩
   ·rcases List.mem_cons.mp hy with z | z
    ·cases z
     exact absurd rfl hk
    ·exact h3 y z
theorem b0o {env : Env} {sc : Scope} (h : ∀ y, (y, NameKind.free) ∈ sc.names -> ∃ c, env.cells.lookup y = some c) :
  ∃ cl, closureFor sc env = pure cl /\ (∀ y c, cl.lookup y = some c -> (y, NameKind.free) ∈ sc.names /\ env.cells.lookup y = some c) /\ (∀ y, (y, NameKind.free) ∈ sc.names -> cl.lookup y = env.cells.lookup y) := by
 obtain ⟨cl, h1, h2, h3, _⟩ := b2y (env := env) sc.names [] h
 refine ⟨cl, ?_, fun y c hy => (h2 y c hy).elim (fun z => nomatch z) id, h3⟩
 unfold closureFor
 show (forIn sc.names [] _ >>= fun cs => pure cs) = pure cl
 rw [bind_pure]
 exact h1
end L2
namespace L2
open PySem PySem.Spec PyProof.Rows
noncomputable def mask (x : Str) (N : List Str) : List Str := N.map fun y => if y = x then "" else y
noncomputable def a2s (X : Cx) (scope : Scope) (cl : List (Str × Addr)) (C : Addr) (s₃ : Shared) (H₃ : Hp) (fp : List Addr) (x : Str) : Cx where
 prog := X.prog
 w := X.w
 K := X.K
 mg := X.mg
 base := X.base
 A := X.A
 N := x :: mask x X.N
 s₀ := s₃
 H₀ := H₃
 env := compEnvC scope cl C X.env
 outer := X.stack
 stack := X.stack
 ex := fp
 fn := fun _ => false
 calm := X.calm
 pn := []
 xe := fun _ _ => False
noncomputable def a1q (D : Addr) (H H' : Hp) : Prop := ∀ b o, b ≠ D -> H b = some o -> H' b = some o
theorem a1q.upd {D : Addr} {H : Hp} {o : HO} : a1q D H (upd H D o) := fun b u hb e => by rw [a1g hb]; exact e
noncomputable def c2z (J : It) (te : TE) (D : Addr) (σ : St) (H : Hp) (Q : VK) (_ : Tag Q) : Prop := ∃ (n : Nat) (W : Nat -> List V -> Hp -> Prop), W 0 [] H /\ ∀ i ys H, i <= n -> W i ys H -> H D = some (.lst ys) /\
 ((J.stop i H /\ Q (.ref D) H) \/ (i < n /\ J.go i H /\ ys.length < sizeLine /\ ∀ x H', J.yld i H x H' -> te (some x :: σ) H' fun y H2 => H2 D = some (.lst ys) /\
  ∀ H3, a1q D H2 H3 -> H3 D = some (.lst (ys ++ [y])) -> W (i + 1) (ys ++ [y]) H3))
noncomputable def d3j (wi : TI) (te : TE) : TE := fun σ H Q => wi σ H fun J H1 => ∀ D H2, H1 D = none -> Same H1 H2 -> H2 D = some (.lst []) -> c2z J te D σ H2 Q ⟨⟩
theorem a7w {env : Env} {x : Str} : ∀ (names : List (Str × NameKind)) (k : NameKind), (names.map fun (n, k) => if (k == NameKind.free && env.scope.kind == .function && env.kindOf n == some .cell) then (n, NameKind.cell) else (n, k)).lookup x = some k ->
  (names.lookup x = some k) \/ (k = .cell /\ names.lookup x = some .free)
 | [], k, e => by cases e
 | (n, q) :: r, k, e => by
  rw [List.map_cons] at e
  dsimp only at e
  rw [List.lookup_cons]
  cases hx : (x == n) with
  | true =>
   by_cases hc : (q == NameKind.free && env.scope.kind == .function && env.kindOf n == some .cell) = true
   ·rw [if_pos hc, List.lookup_cons, hx] at e
    have : q = .free := by
     simp only [Bool.and_eq_true, beq_iff_eq] at hc
     exact hc.1.1
    subst this
    cases e
    exact .inr ⟨rfl, rfl⟩
   ·rw [if_neg hc, List.lookup_cons, hx] at e
    exact .inl e
  | false =>
   have e' : (r.map fun (n, k) => if (k == NameKind.free && env.scope.kind == .function && env.kindOf n == some .cell) then (n, NameKind.cell) else (n, k)).lookup x = some k := by
    by_cases hc : (q == NameKind.free && env.scope.kind == .function && env.kindOf n == some .cell) = true
    ·rw [if_pos hc, List.lookup_cons, hx] at e
     exact e
    ·rw [if_neg hc, List.lookup_cons, hx] at e
     exact e
   exact a7w r k e'
theorem a5o {env : Env} {sc : Scope} {x : Str} (h : (relabel sc env).names.lookup x = some .cell \/ (relabel sc env).names.lookup x = some .free) : (x, NameKind.free) ∈ sc.names \/ (x, NameKind.cell) ∈ sc.names := by
 rcases h with h | h
 ·rcases a7w sc.names _ h with z | ⟨_, z⟩
  ·exact .inr (PySem.mem_of_lookup z)
  ·exact .inl (PySem.mem_of_lookup z)
 ·rcases a7w sc.names _ h with z | ⟨z, _⟩
  ·exact .inl (PySem.mem_of_lookup z)
  ·cases z
structure a6m (X : Cx) (scope : Scope) (x : Str) : Prop where
 kind : scope.kind = .function
 b3m : ∀ y ∈ scope.names, y.2 ≠ .cell
 loc : ∀ y ∈ scope.names, y.2 = .local -> scope.names.lookup y.1 = some .local
 own : scope.names.lookup x = some .local
 free : ∀ y ∈ scope.names, y.2 = .free -> X.env.kindOf y.1 = some .cell \/ X.env.kindOf y.1 = some .free
 nd : (x :: mask x X.N).Nodup
 noe : ∀ y ∈ scope.names, y.1 ≠ ""
 vis : ∀ y ∈ mask x X.N, scope.names.lookup y ≠ some .local
section
variable {X : Cx} {scope : Scope} {x : Str} {cl : List (Str × Addr)} {pins : List (Addr × Obj)} {σ : St} {H : Hp} {s s₄ : Shared} {fp : List Addr}
theorem Inv.comp (S : a6m X scope x) (I : Inv X pins σ H s) (hcl : ∀ y c, cl.lookup y = some c -> (y, NameKind.free) ∈ scope.names /\ X.env.cells.lookup y = some c) (hcl2 : ∀ y, (y, NameKind.free) ∈ scope.names -> cl.lookup y = X.env.cells.lookup y)
  (hfp : ∀ b ∈ fp, b5j X pins H b) (hlt : ∀ b ∈ fp, b < s.heap.objs.size) {m : Str -> Option Value} (hns : s₄.heap.Ns s.heap.objs.size m) (hk : ∀ b o, s.heap.get? b = some o -> s₄.heap.get? b = some o) (hos : s₄.os = s.os) (hg : s₄.gens = s.gens) :
  Inv (a2s X scope cl s.heap.objs.size s H fp x) [] (none :: σ) H s₄ := by
 have below : ∀ {b : Addr} {o : Obj}, s.heap.get? b = some o -> b ≠ s.heap.objs.size := fun e => Nat.ne_of_lt (Heap.lt_size e)
 refine ⟨⟨I.ok.mod, ?_, I.ok.glob, I.ok.blt, Nat.le_refl _, fun y z c h1 h2 => I.ok.inj y z c (hcl y c h1).2 (hcl z c h2).2, fun y hy => ?_, (fun y c h => nomatch h), I.ok.hd, I.ok.frames, .inl rfl, fun b hb => ⟨Nat.ne_of_lt (hlt b hb), fun y c e => (hfp b hb).2.2.2.2.1 y c (hcl y c e).2⟩,
  fun b o e => I.bs b o e, Nat.le_trans I.ok.bsz I.sz, fun b o e hb => ?_, fun b hb hf => ?_, I.stack, I.b9v⟩,
  hos, by rw [hg]; exact I.bare, Un.kept hk, ⟨m, hns, fun i y v h1 h2 h3 => ?_⟩, fun y c e => ?_, I.hok.fresh (Nat.le_refl _), fun y c e => I.b1z y c (hcl y c e).2, fun p hp => absurd (show p ∈ ([] : List (Addr × Obj)) from hp) (by simp), I.hok.kept hk, by show (none :: σ).length = (x :: mask x X.N).length; rw [List.length_cons, List.length_cons, mask, List.length_map, I.len]⟩
 ·exact S.kind
 ·rcases a5o (env := X.env) (sc := scope) (x := y) hy with z | z
  ·obtain ⟨c, hc⟩ := I.ok.has y (S.free _ z rfl)
   exact ⟨c, (hcl2 y z).trans hc⟩
  ·exact absurd rfl (S.b3m _ z)
 ·rcases (hfp b hb).2.2.2.1 with z | z
  ·exact I.ok.d1y b o e z
  ·exact absurd (Nat.lt_of_lt_of_le (Heap.lt_size (I.ok.bs b o e).1) z) (Nat.lt_irrefl _)
 ·rcases List.mem_cons.mp (I.b3y b hf) with z | z
  ·exact (hfp b hb).2.1 z
  ·exact (hfp b hb).2.2.1 z
 ·cases i with
  | zero => cases h2
  | succ i =>
   have h1m : (mask x X.N)[i]? = some y := by simpa [a2s] using h1
   have h2' : σ[i]? = some (some v) := by simpa using h2
   have hyN : y ∈ mask x X.N := List.mem_of_getElem? h1m
   have hc : (relabel scope X.env).names.lookup y = some .cell \/ (relabel scope X.env).names.lookup y = some .free := by
    rcases h3 with z | z | z
    ·exfalso
     rcases a7w (env := X.env) scope.names _ z with q | ⟨q, _⟩
     ·exact S.vis y hyN q
     ·cases q
    ·exact .inl z
    ·exact .inr z
   have hfr : (y, NameKind.free) ∈ scope.names := by
    rcases a5o hc with z | z
    ·exact z
    ·exact absurd rfl (S.b3m _ z)
   have h1' : X.N[i]? = some y := by
    rw [mask, List.getElem?_map] at h1m
    obtain ⟨z, hz, e⟩ := Option.map_eq_some_iff.mp h1m
    by_cases hzx : z = x
    ·rw [if_pos hzx] at e
     exact absurd e.symm (S.noe _ hfr)
    ·rw [if_neg hzx] at e
     rw [hz, e]
   obtain ⟨mX, hnX, hl⟩ := I.loc
   have hk2 := S.free _ hfr rfl
   have f3g : Vis X.env.scope y := by
    rcases hk2 with z | z
    ·exact .inr (.inl z)
    ·exact .inr (.inr z)
   obtain ⟨u, ru, lk⟩ := hl i y v h1' h2' f3g
   refine ⟨u, ru, .inr ⟨hc, ?_⟩⟩
   rcases lk with ⟨z, _⟩ | ⟨_, c, ec, o, ho, hd⟩
   ·rcases hk2 with q | q
    ·rw [q] at z; cases z
    ·rw [q] at z; cases z
   ·exact ⟨c, (hcl2 y hfr).trans ec, o, hk c o ho, hd⟩
 ·obtain ⟨v, o, ho, hd⟩ := I.cell y c (hcl y c e).2
  exact ⟨v, o, hk c o ho, hd⟩
theorem Inv.d0z {σ' : St} {H' : Hp} {s' : Shared} {h' : Heap} (I : Inv X pins σ H s) (hfp : ∀ b ∈ fp, b5j X pins H b) (J : Inv (a2s X scope cl s.heap.objs.size s H fp x) [] σ' H' s') (hs : Heap.SameBut s.heap.objs.size s'.heap h') :
  Inv X pins σ H' { s' with heap := h' } := by
 have ne : ∀ {b : Addr} {o : Obj}, s.heap.get? b = some o -> b ≠ s.heap.objs.size := fun e => Nat.ne_of_lt (Heap.lt_size e)
 have u := J.base
 have u' : Un (frs X.stack) fp H H' s.heap h' := ⟨fun b o e n hb hx => hs.extBut b o (ne e) (u.keep b o e n hb hx), fun b o e n hb hx => (u.slot b o e n hb hx).elim fun sl q => ⟨sl, hs.extBut b _ (ne e) q⟩, u.free,
  fun b o e hx => (u.there b o e hx).elim fun o' q => ⟨o', hs.extBut b o' (ne e) q⟩, u.tups, u.b9r, u.b9u⟩
 have nC : ∀ {b : Addr} {o : HO}, H' b = some o -> b ≠ s.heap.objs.size := fun {b o} e z => by
  have f : H' s.heap.objs.size = none := J.free
  rw [z, f] at e; cases e
 have ok : HOk X.prog X.w H' h' := fun b o e => (J.hok b o e).stay (fun c v hc q => hs.extBut c v (by
  rcases hc with z | z
  ·rw [z]; exact nC e
  ·exact nC z) q) (fun _ q => q) fun _ _ q => q
 exact I.call' (s' := { s' with heap := h' }) (ch := fp) J.os u' ok J.bare fun b hb => ⟨(hfp b hb).2.2.2.1, (hfp b hb).2.1, (hfp b hb).2.2.2.2.1, (hfp b hb).2.2.2.2.2⟩
end
end L2
namespace L2
open PySem PySem.Spec PyProof.Rows
section
variable {X : Cx} {scope : Scope} {x : Str} {pins : List (Addr × Obj)} {σ : St} {elt iter : Expr} {px pos : Pos} {wi : TI} {te : TE}
theorem b5y {s₂ : Shared} {H1 : Hp} {it : Addr} {fp : List Addr} {tn : Nat -> Heap -> Prop} {J : It} {Q : VK} {RR : Value -> Addr -> Result -> Shared -> Prop} {E : Value -> Shared -> Prop} {cl : List (Str × Addr)}
  (S : a6m X scope x) (hc : X.calm = true) (he : ∀ cl C s₃ H₃ fp, PE (a2s X scope cl C s₃ H₃ fp x) elt te)
  (hcl : ∀ y c, cl.lookup y = some c -> (y, NameKind.free) ∈ scope.names /\ X.env.cells.lookup y = some c) (hcl2 : ∀ y, (y, NameKind.free) ∈ scope.names -> cl.lookup y = X.env.cells.lookup y)
  (I2 : Inv X pins σ H1 s₂) (T : Turn X.prog X.w X.K (.Name x px) J fp it tn) (st2 : tn 0 s₂.heap) (f2 : ∀ b ∈ fp, b5j X pins H1 b) (h : ∀ D H2, H1 D = none -> Same H1 H2 -> H2 D = some (.lst []) -> c2z J te D σ H2 Q ⟨⟩)
  (hRR : ∀ (D C : Addr) (s' : Shared) (H' : Hp), (∃ m, s'.heap.Ns C m) -> (∀ h' , Heap.SameBut C s'.heap h' -> Inv X pins σ H' { s' with heap := h' }) -> b5j X pins H' C -> Q (.ref D) H' -> RR (.ref D) C (.ok .next) s') :
  wpAny (model X.prog X.w) X.A (newList []) (fun acc s₃ => wpAny (model X.prog X.w) X.A (newFunctionEnv scope X.env.globals cl [] X.env.qual none .none (some X.env)) (fun cenv s₄ =>
   codeAny (model X.prog X.w) X.A (.compStart (.ListComp elt [⟨.Name x px, iter, [], 0⟩] scope pos) 0 (.ref it) acc { cenv with scope := relabel scope X.env }) (RR acc cenv.locals) s₄) E s₃) E s₂ := by
 have hfr : H1 s₂.heap.objs.size = none := I2.hok.fresh (Nat.le_refl _)
 have hCW := h s₂.heap.objs.size _ hfr (Same.upd hfr) a0z
 refine wpAny_newObj_type ?_
 have I3 : Inv X pins σ (upd H1 s₂.heap.objs.size (.lst [])) { s₂ with heap := s₂.heap.push { cls := .type "list", data := .seq ([] : List Value).toArray }, toks := s₂.toks } :=
  I2.laid (t' := s₂.toks) (fun b u e => Heap.get?_push_of_some _ e) (Nat.le_refl _) ⟨Nat.zero_le _, [], 0, .nil, Heap.get?_push_size _ rfl⟩
 have nD : ∀ b ∈ fp, b ≠ s₂.heap.objs.size := fun b hb => by
  obtain ⟨o, e, _⟩ := T.obj 0 _ st2 b hb
  exact Nat.ne_of_lt (Heap.lt_size e)
 have f3 : ∀ b ∈ fp, b5j X pins (upd H1 s₂.heap.objs.size (.lst [])) b := fun b hb => ⟨by rw [a1g (nD b hb)]; exact (f2 b hb).1, (f2 b hb).2⟩
 generalize hH3 : upd H1 s₂.heap.objs.size (.lst []) = H3 at *
 have st3 : tn 0 (s₂.heap.push { cls := .type "list", data := .seq ([] : List Value).toArray }) := T.keep _ _ _ st2 fun b _ o e => Heap.get?_push_of_some _ e
 have c6i : ∀ b ∈ fp, b < (s₂.heap.push { cls := .type "list", data := .seq ([] : List Value).toArray }).objs.size := fun b hb => by
  obtain ⟨o, e, _⟩ := T.obj 0 _ st3 b hb
  exact Heap.lt_size e
 show wpAny (model X.prog X.w) X.A (newFunctionEnv scope X.env.globals cl [] X.env.qual none .none (some X.env)) _ E { s₂ with heap := s₂.heap.push { cls := .type "list", data := .seq ([] : List Value).toArray }, toks := s₂.toks }
 generalize hs3 : ({ s₂ with heap := s₂.heap.push { cls := .type "list", data := .seq ([] : List Value).toArray }, toks := s₂.toks } : Shared) = s₃ at *
 have eh : s₃.heap = s₂.heap.push { cls := .type "list", data := .seq ([] : List Value).toArray } := by rw [← hs3]
 rw [<- eh] at st3 c6i
 generalize s₂.heap.objs.size = D at *
 refine wpAny_newFunctionEnv S.b3m (by intro y hy; simp at hy) (fun h₁ hns₁ hsb₁ => ?_) S.kind
 have hk1 : ∀ b o, s₃.heap.get? b = some o -> h₁.get? b = some o := fun b o e => hsb₁.extBut b o (Nat.ne_of_lt (Heap.lt_size e)) (Heap.get?_push_of_some _ e)
 have J0 : Inv (a2s X scope cl s₃.heap.objs.size s₃ H3 fp x) [] (none :: σ) H3 { s₃ with heap := h₁, toks := s₃.toks + ([] : List (Str × Value)).length } := I3.comp S hcl hcl2 f3 c6i hns₁ hk1 rfl rfl
 obtain ⟨n0, W, w0, turn⟩ := hCW
 have loop : codeAny (model X.prog X.w) X.A (.compLoop (.ListComp elt [⟨.Name x px, iter, [], 0⟩] scope pos) 0 (.ref it) (.ref D) (compEnvC scope cl s₃.heap.objs.size X.env)) (RR (.ref D) s₃.heap.objs.size) { s₃ with heap := h₁, toks := s₃.toks + ([] : List (Str × Value)).length } := by
  refine codeAny_loop rfl (fun n s' => ∃ i ys o H', Inv (a2s X scope cl s₃.heap.objs.size s₃ H3 fp x) [] (o :: σ) H' s' /\ tn i s'.heap /\ (∀ b ∈ fp, H' b = none) /\ W i ys H' /\ i <= n0 /\ n = n0 - i) (fun n s5 hI => ?_) n0
   ⟨0, [], none, H3, J0, T.keep _ _ _ st3 (fun b _ o e => hk1 b o e), fun b hb => (f3 b hb).1, w0, Nat.zero_le _, rfl⟩
  obtain ⟨i, ys, o5, H5, I5, st5, fr5, w5, hin, hnn⟩ := hI
  have stat : ∀ {H' : Hp}, (∀ b ∈ fp, H' b = none) -> ∀ b ∈ fp, b5j (a2s X scope cl s₃.heap.objs.size s₃ H3 fp x) [] H' b := fun hn b hb =>
   ⟨hn b hb, Nat.ne_of_lt (c6i b hb), fun z => (List.mem_cons.mp (I3.b3y b z)).elim (fun q => (f3 b hb).2.1 q) fun q => (f3 b hb).2.2.1 q, .inl hb, fun y c e => (f3 b hb).2.2.2.2.1 y c (hcl y c e).2, fun p hp => absurd (show p ∈ ([] : List (Addr × Obj)) from hp) (by simp)⟩
  show wpAny _ X.A ((compTurn (.ListComp elt [⟨.Name x px, iter, [], 0⟩] scope pos) 0 (.ref it) (.ref D) (compEnvC scope cl s₃.heap.objs.size X.env)).onRaise (fun x => do noteFrame x (compEnvC scope cl s₃.heap.objs.size X.env); theTreesLotGoes x)) _ _ s5
  refine wpAny_noted ?_
  rw [compTurn_list1]
  refine wpAny_bind (wpAny_standAt (wpAny_bind ?_))
  obtain ⟨hD5, alt⟩ := turn i ys H5 hin w5
  rcases alt with ⟨stop, q⟩ | ⟨hlt, go, hsz, step⟩
  ·refine wpAny_mono (T.done (a2s X scope cl s₃.heap.objs.size s₃ H3 fp x) rfl rfl rfl hc i [] s5 _ H5 _ I5 (stat fr5) st5 stop) (fun r s6 ⟨hr, I6⟩ => ?_) fun _ _ z => z
   subst hr
   refine wpAny_pure ?_
   obtain ⟨m6, hn6, _⟩ := I6.loc
   exact hRR D s₃.heap.objs.size s6 H5 ⟨m6, hn6⟩ (fun h' hs' => I3.d0z f3 I6 hs') (I3.d4y (Nat.le_refl _) I6.free) q
  ·refine wpAny_mono (T.item (a2s X scope cl s₃.heap.objs.size s₃ H3 fp x) rfl rfl rfl hc i [] s5 _ H5 _ I5 (stat fr5) st5 go) (fun r s6 ⟨u, hr, h6⟩ => ?_) fun _ _ z => z
   subst hr
   refine wpAny_bind (wpAny_mono h6 (fun _ s7 ⟨v, H7, I7, r7, y7, st7, fr7⟩ => ?_) fun _ _ z => z)
   have I7' := I7.pinned (stat fr7) (T.obj _ _ st7)
   have G := a3u (X := a2s X scope cl s₃.heap.objs.size s₃ H3 fp x) (pos := px) (i := 0) (x := x) S.nd rfl (.inl (lookup_relabel_local S.own)) (.inr (lookup_relabel_local S.own))
   refine wpAny_bind (wpAny_mono (G _ s7 _ H7 v u (fun σ' H' => σ' = some v :: σ /\ H' = H7) I7' r7 ⟨rfl, rfl⟩) (fun _ s8 hs8 => ?_) fun _ _ z => False.elim z)
   obtain ⟨σ8, H8, I8, rfl, rfl⟩ := hs8
   refine wpAny_bind (wpAny_bind (wpAny_mono (he cl s₃.heap.objs.size s₃ H3 fp _ s8 _ _ _ I8 (step v H8 y7)) (fun yv s9 hs9 => ?_) fun _ _ z => False.elim z))
   obtain ⟨y, H9, I9, r9, hD9, k9⟩ := hs9
   refine wpAny_bind (wpAny_mono (b2j (X := a2s X scope cl s₃.heap.objs.size s₃ H3 fp x) _ s9 _ H9 (.ref D) [y] (.ref D) [yv] (fun _ H' => H' = upd H9 D (.lst (ys ++ [y]))) I9 rfl (.cons r9 .nil) ⟨D, ys, y, rfl, rfl, hD9, hsz, rfl⟩) (fun _ sA hsA => ?_) fun _ _ z => False.elim z)
   obtain ⟨_, HA, IA, _, rfl⟩ := hsA
   refine wpAny_pure ?_
   have wA := k9 _ a1q.upd a0z
   refine wpAny_pure ⟨rfl, n0 - (i + 1), by omega, i + 1, ys ++ [y], some v, _, IA.a6z (pins := []) (pl := b2g fp s7.heap), T.keep _ _ _ st7 (fun b hb o e => (IA.pin (b, o) (List.mem_append_right _ (List.mem_append_right _ (a1p hb e)))).1), fun b hb => ?_, wA, hlt, rfl⟩
   obtain ⟨o, e, d⟩ := T.obj _ _ st7 b hb
   exact (IA.pin (b, o) (List.mem_append_right _ (List.mem_append_right _ (a1p hb e)))).2.1
 exact codeAny_compStart_list loop (T.self _ 0 _ _ _ (T.keep _ _ _ st3 fun b _ o e => hk1 b o e) loop)
theorem b6p (hi : PI X (.Name x px) iter wi) (he : ∀ cl C s₃ H₃ fp, PE (a2s X scope cl C s₃ H₃ fp x) elt te) (S : a6m X scope x) (hc : X.calm = true)
  (hs : ∀ x, foldedSetIterable iter X.env x = pure x := by intro _; rfl) : PE X (.ListComp elt [⟨.Name x px, iter, [], 0⟩] scope pos) (d3j wi te) := by
 intro pins s σ H Q I h
 obtain ⟨cl, hclos, hcl, hcl2⟩ := b0o (env := X.env) (sc := scope) fun y hy => I.ok.has y (S.free _ hy rfl)
 rw [eval_ListComp]
 refine wpAny_comprehension_free (use := none) rfl hs hclos S.kind S.loc ?_
 refine thn (hi pins s σ H _ I h) fun v s1 h1 => thn h1 fun itv s2 h2 => ?_
 obtain ⟨it, fp, tn, J, H2, e, I2, T, st2, f2, hW⟩ := h2
 subst e
 exact b5y (RR := fun acc C => compPost (model X.prog X.w) X.A X.xe none (EP X pins σ Q) acc C) S hc he hcl hcl2 I2 T st2 f2 hW fun D C s' H' hm hI _ hq =>
  hm.elim fun m hn => ⟨m, hn, fun h' hs' => ⟨.ref D, H', hI h' hs', rfl, hq⟩⟩
theorem d3k {i : Nat} {y : Str} {py spos : Pos} (hN : X.N.Nodup) (hyi : X.N[i]? = some y) (hy : X.env.scope.names.lookup y = some .local) (hi : PI X (.Name x px) iter wi) (he : ∀ cl C s₃ H₃ fp, PE (a2s X scope cl C s₃ H₃ fp x) elt te) (S : a6m X scope x) (hc : X.calm = true)
  (hsw : swapsWith (.ListComp elt [⟨.Name x px, iter, [], 0⟩] scope pos) (some (.Name y py)) spos.line X.env = pure true := by rfl)
  (hs : ∀ x, foldedSetIterable iter X.env x = pure x := by intro _; rfl) : PS X (.Assign [.Name y py] (.ListComp elt [⟨.Name x px, iter, [], 0⟩] scope pos) spos) (f0v (d3j wi te) (c4h i)) := by
 intro pins s σ H D I h
 obtain ⟨cl, hclos, hcl, hcl2⟩ := b0o (env := X.env) (sc := scope) fun y hy => I.ok.has y (S.free _ hy rfl)
 rw [exec_Assign_Name_used _ _ _ _ hsw]
 refine wpAny_bind (wpAny_standAt (wpAny_bind ?_))
 show wpAny _ X.A (do let _ <- comprehension (.ListComp elt [⟨.Name x px, iter, [], 0⟩] scope pos) scope X.env _ (newList []) false (eval iter X.env) (some (assign (.Name y py) X.env))) _ _ s
 refine wpAny_bind (wpAny_mono (wpAny_comprehension_free (use := some (assign (.Name y py) X.env)) (Q := fun _ s' => SP X pins D .next s') rfl hs hclos S.kind S.loc ?_) (fun _ s' hq => wpAny_pure (wpAny_pure hq)) fun _ _ e => e)
 refine thn (hi pins s σ H _ I h) fun v s1 h1 => thn h1 fun itv s2 h2 => ?_
 obtain ⟨it, fp, tn, J, H2, e, I2, T, st2, f2, hW⟩ := h2
 subst e
 refine b5y (Q := fun v H' => D.nx (σ.set i (some v)) H') (RR := fun acc C => compPost (model X.prog X.w) X.A X.xe (some (assign (.Name y py) X.env)) (fun _ s' => SP X pins D .next s') acc C) S hc he hcl hcl2 I2 T st2 f2 hW fun L C s' H' hm hI hfp hq => ?_
 obtain ⟨m, hn⟩ := hm
 have I' : Inv X pins σ H' s' := hI s'.heap (Heap.SameBut.refl ..)
 show wpAny _ X.A (assign (.Name y py) X.env (.ref L)) _ _ s'
 refine wpAny_assign_Name (b3z (v := .ref L) I' hN hyi (.inl hy) rfl (fun s'' I'' hsb => ?_) (.inr hy))
 obtain ⟨a, hsame, ha⟩ := hsb
 have nea : C ≠ a := by
  rcases ha with z | z
  ·rw [z]; exact hfp.2.1
  ·exact fun q => hfp.2.2.2.2.1 y a z q.symm
 refine ⟨m, hn.sameBut hsame nea, fun h' hs' => ⟨_, H', I''.turned (t' := s''.toks) (it := C) (fun b o hb e => hs'.extBut b o hb e) hfp.1 hfp.2.1 hfp.2.2.2.1 hfp.2.2.2.2.1 hfp.2.2.2.2.2, hq⟩⟩
end
theorem c3g {K : PySem.W.Frag} {a D : Addr} {xs : List V} {te : TE} {σ : St} {H : Hp} {Q : VK} (Pv : Nat -> List V -> Hp -> Prop) (h0 : Pv 0 [] H) (hsz : xs.length <= sizeLine)
  (hD : ∀ i ys H, i <= xs.length -> Pv i ys H -> H D = some (.lst ys) /\ SqL K H a xs /\ ys.length = i)
  (hs : ∀ i x ys H, xs[i]? = some x -> Pv i ys H -> te (some x :: σ) H fun y H2 => H2 D = some (.lst ys) /\ ∀ H3, a1q D H2 H3 -> H3 D = some (.lst (ys ++ [y])) -> Pv (i + 1) (ys ++ [y]) H3)
  (hd : ∀ ys H, Pv xs.length ys H -> Q (.ref D) H) : c2z (Itl K a) te D σ H Q ⟨⟩ := by
 refine ⟨xs.length, Pv, h0, fun i ys H hi p => ?_⟩
 obtain ⟨e1, e2, e3⟩ := hD i ys H hi p
 refine ⟨e1, ?_⟩
 by_cases hlt : i < xs.length
 ·refine .inr ⟨hlt, ⟨xs, xs[i], e2, by simp [hlt]⟩, by omega, fun x H' y => ?_⟩
  obtain ⟨e, y⟩ := y
  subst e
  exact hs i x ys _ (y xs e2) p
 ·have e : i = xs.length := by omega
  subst e
  exact .inl ⟨⟨xs, e2, Nat.le_refl _⟩, hd ys H p⟩
theorem c0p {D : Addr} {lo : Int} {n : Nat} {te : TE} {σ : St} {H : Hp} {Q : VK} (Pv : Nat -> List V -> Hp -> Prop) (h0 : Pv 0 [] H) (hsz : n <= sizeLine)
  (hD : ∀ i ys H, i <= n -> Pv i ys H -> H D = some (.lst ys) /\ ys.length = i)
  (hs : ∀ i ys H, i < n -> Pv i ys H -> te (some (.int (lo + i)) :: σ) H fun y H2 => H2 D = some (.lst ys) /\ ∀ H3, a1q D H2 H3 -> H3 D = some (.lst (ys ++ [y])) -> Pv (i + 1) (ys ++ [y]) H3)
  (hd : ∀ ys H, Pv n ys H -> Q (.ref D) H) : c2z (Itr lo n) te D σ H Q ⟨⟩ := by
 refine ⟨n, Pv, h0, fun i ys H hi p => ?_⟩
 obtain ⟨e1, e3⟩ := hD i ys H hi p
 refine ⟨e1, ?_⟩
 by_cases hlt : i < n
 ·refine .inr ⟨hlt, hlt, by omega, fun x H' y => ?_⟩
  obtain ⟨e, y⟩ := y
  subst e y
  exact hs i ys _ hlt p
 ·have e : i = n := by omega
  subst e
  exact .inl ⟨Nat.le_refl _, hd ys H p⟩
theorem Same.step {D : Addr} {H0 H H' : Hp} (S : Same H0 H) (n : H0 D = none) (s : a1q D H H') : Same H0 H' := fun b o e => s b o (a1o e n) (S b o e)
theorem b4p {K : PySem.W.Frag} {a D : Addr} {xs : List V} {te : TE} {σ : St} {H0 H : Hp} {Q : VK} (g : V -> V) (n0 : H0 D = none) (S : Same H0 H) (hD : H D = some (.lst [])) (hS : SqL K H0 a xs) (hsz : xs.length <= sizeLine)
  (hs : ∀ (i : Nat) x H' (Q' : VK), xs[i]? = some x -> Same H0 H' -> Q' (g x) H' -> te (some x :: σ) H' Q') (q : ∀ H', Same H0 H' -> H' D = some (.lst (xs.map g)) -> Q (.ref D) H') : c2z (Itl K a) te D σ H Q ⟨⟩ := by
 refine c3g (fun i ys H' => Same H0 H' /\ H' D = some (.lst ys) /\ ys = (xs.take i).map g) ⟨S, hD, by simp⟩ hsz (fun i ys H' hi p => ?_) (fun i x ys H' hx p => ?_) (fun ys H' p => ?_)
 ·refine ⟨p.2.1, p.1.seq hS, ?_⟩
  rw [p.2.2, List.length_map, List.length_take]
  omega
 ·refine hs i x H' _ hx p.1 ⟨p.2.1, fun H3 s3 h3 => ⟨p.1.step n0 s3, h3, ?_⟩⟩
  have hi : i < xs.length := (List.getElem?_eq_some_iff.mp hx).1
  rw [p.2.2, List.take_add_one, hx, List.map_append]
  rfl
 ·refine q H' p.1 ?_
  rw [p.2.1, p.2.2, List.take_length]
noncomputable def d1g (sc scope : Scope) (x : Str) (N : List Str) : Bool :=
 (scope.kind == .function) && scope.names.all (fun y => y.2 != .cell) && scope.names.all (fun y => y.2 != .local || scope.names.lookup y.1 == some .local) && (scope.names.lookup x == some .local) &&
 scope.names.all (fun y => y.2 != .free || (sc.names.lookup y.1 == some .cell || sc.names.lookup y.1 == some .free)) && decide ((x :: mask x N).Nodup) && scope.names.all (fun y => y.1 != "") && (mask x N).all (fun y => scope.names.lookup y != some .local)
theorem c0q {X : Cx} {sc scope : Scope} {x : Str} {N : List Str} (hsc : X.env.scope = sc) (hN : X.N = N) (h : d1g sc scope x N = true) : a6m X scope x := by
 subst hN hsc
 unfold d1g at h
 simp only [Bool.and_eq_true, List.all_eq_true, beq_iff_eq, Bool.or_eq_true, bne_iff_ne, ne_eq, decide_eq_true_eq] at h
 obtain ⟨⟨⟨⟨⟨⟨⟨h1, h2⟩, h3⟩, h4⟩, h5⟩, h6⟩, h7⟩, h8⟩ := h
 exact ⟨h1, h2, fun y hy e => (h3 y hy).resolve_left fun z => z e, h4, fun y hy e => (h5 y hy).resolve_left fun z => z e, h6, h7, h8⟩
end L2
namespace L2
open PySem PySem.Spec PyProof.Rows
noncomputable def d8l : V -> Hp -> Bool := fun x H => match x with
 | .ref l => (match H l with
  | some (.lst _) => true
  | _ => false)
 | _ => false
noncomputable def d8m : V -> Hp -> Bool := fun x _ => match x with
 | .str _ => true
 | _ => false
theorem a4q {K : PySem.W.Frag} : ∀ x H, d8l x H = true → tyV K "list" x H := fun x H h => by
 cases x with
 | ref l =>
  have h' : (match H l with
   | some (.lst _) => true
   | _ => false) = true := h
  split at h'
  ·rename_i xs e
   exact .inl ⟨rfl, xs, SqL.of e⟩
  ·cases h'
 | _ => cases h
noncomputable def f6g (chk : V -> Hp -> Bool) (r : V -> List V -> Hp -> VK -> Prop) (to : TE) (t : TA) : TE := fun σ H Q => to σ H fun x H1 => chk x H1 = true /\ t σ H1 fun xs H2 => r x xs H2 Q
section
variable {X : Cx} {o e : Expr} {es : List Expr} {to : TE} {t : TA} {name : Str} {apos cpos : Pos} {T id : String} {r r' : V -> List V -> Hp -> VK -> Prop} {chk : V -> Hp -> Bool}
theorem MtR.weak (h : MtR X id r) (q : ∀ x xs H Q, r' x xs H Q -> r x xs H Q) : MtR X id r' := fun pins s σ H x xs v us Q I rx rs hr => h pins s σ H x xs v us Q I rx rs (q x xs H Q hr)
theorem b0t (hchk : ∀ x H, chk x H = true → tyV X.K T x H) (pa : PlainAttrs T) (slot : Slot T name id) (hty : typeOf (.builtin id) = pure (.type "method_descriptor")) (hm : MtR X id r) (ho : PE X o to) (ha : PA X (e :: es) t)
  (hbase : attributeBase o name X.env (eval o X.env) = eval o X.env := by rfl)
  (hfew : ((backTo cpos (starEach (e :: es) X.env)).all (fun x => !x.1) && (backToKw cpos (keywordEach [] X.env)).all (fun x => x.1.isSome)
   && decide ((e :: es).length + ([] : List Keyword).length + (if ([] : List Keyword).isEmpty then 0 else 1) < 30)) = true := by rfl)
  (hline : (apos.endLine == cpos.line) = true := by rfl) (hs : starEach (e :: es) X.env = (false, eval e X.env) :: starEach es X.env := by rfl) (hplain : (backTo cpos (starEach es X.env)).any (·.1) = false := by rfl) :
  PE X (.Call (.Attribute o name apos) (e :: es) [] cpos) (f6g chk r to t) := by
 intro pins s σ H Q I h
 refine wpAny_Call_method_late hbase hfew hline rfl (thn (ho pins s σ H _ I h) fun v s1 ⟨x, H1, I1, r1, ty, q1⟩ => ?_)
 obtain ⟨h1, h2⟩ := d0n I1 r1 (hchk x H1 ty)
 refine ⟨T, id, pa, slot, hty, h1, h2, ?_⟩
 have hA := ha cpos pins s1 σ H1 _ I1 q1
 rw [hs] at hA ⊢
 refine Calls.callWith_builtin (by show (false || (backTo cpos (starEach es X.env)).any (·.1)) = false; rw [hplain] <;> rfl) (Calls.evalArgs_plain ?_)
 exact thn hA fun us s2 ⟨vs, H2, I2, r2, q2⟩ => hm pins s2 σ H2 x vs v us Q I2 r1 r2 q2
noncomputable def d8n : V -> List V -> Hp -> VK -> Prop := fun x vs H Q => match x, vs with
 | .ref l, [y] => (match H l with
  | some (.lst xs) => xs.length < sizeLine /\ All (fun v H1 => v = .non /\ a1q l H H1 /\ H1 l = some (.lst (xs ++ [y]))) Q ⟨⟩ ⟨⟩
  | _ => False)
 | _, _ => False
theorem a2q : MtR X "list.append" d8n := MtR.weak (r := c5j) b2j fun x vs H Q h => by
 match x, vs, h with
 | .ref l, [y], h =>
  have h' : (match H l with
   | some (.lst xs) => xs.length < sizeLine /\ All (fun v H1 => v = .non /\ a1q l H H1 /\ H1 l = some (.lst (xs ++ [y]))) Q ⟨⟩ ⟨⟩
   | _ => False) := h
  split at h'
  ·rename_i xs e
   exact ⟨l, xs, y, rfl, rfl, e, h'.1, h'.2 _ _ ⟨rfl, a1q.upd, a0z⟩⟩
  ·exact h'.elim
end
noncomputable def b5z {α : Type} (xs : List α) (lo hi : Option Int) : List α := (xs.drop (HT.sIx xs.length 0 lo)).take (HT.sIx xs.length xs.length hi - HT.sIx xs.length 0 lo)
theorem b2n {α β : Type} (f : α -> β) (xs : List α) (lo hi : Option Int) : b5z (xs.map f) lo hi = (b5z xs lo hi).map f := by
 unfold b5z
 rw [List.length_map, List.map_take, List.map_drop]
theorem c6j (ns : List Int) (lo hi : Option Int) : b7n (ns.map V.int) lo hi = (b5z ns lo hi).map V.int := b2n V.int ns lo hi
theorem c8z {α : Type} {xs : List α} {lo hi : Option Int} {x : α} (h : x ∈ b5z xs lo hi) : x ∈ xs := List.mem_of_mem_drop (List.mem_of_mem_take h)
theorem c9g {α : Type} (xs : List α) (lo hi : Option Int) : (b5z xs lo hi).length <= xs.length := by
 unfold b5z
 rw [List.length_take, List.length_drop]
 omega
theorem c6k {α : Type} (xs : List α) (a : Nat) : b5z xs (some (a : Int)) none = xs.drop a := by
 unfold b5z
 rw [HT.b6k, HT.c1s]
 by_cases h : a <= xs.length
 ·rw [Nat.min_eq_left h, List.take_of_length_le (by rw [List.length_drop] <;> exact Nat.le_refl _)]
 ·rw [Nat.min_eq_right (by omega), List.drop_length, List.drop_of_length_le (by omega)]
  simp
theorem b4q {α : Type} (xs : List α) (a : Nat) : b5z xs none (some (a : Int)) = xs.take a := by
 unfold b5z
 rw [HT.b6k, HT.c1s, List.drop_zero, Nat.sub_zero]
 by_cases h : a <= xs.length
 ·rw [Nat.min_eq_left h]
 ·rw [Nat.min_eq_right (by omega), List.take_length, List.take_of_length_le (by omega)]
end L2
namespace L2
theorem b2z (F : Nat -> St -> Hp -> Prop) : ∃ Pv : Nat -> St -> Hp -> Prop, (∀ i σ H, F i σ H -> Pv i σ H) /\ ∀ i σ H, Pv i σ H -> F i σ H := ⟨F, fun _ _ _ h => h, fun _ _ _ h => h⟩
theorem c3h (F : St -> Hp -> Prop) : ∃ Pv : St -> Hp -> Prop, (∀ σ H, F σ H -> Pv σ H) /\ ∀ σ H, Pv σ H -> F σ H := ⟨F, fun _ _ h => h, fun _ _ h => h⟩
end L2
namespace L2
open PySem PySem.Spec PyProof.Rows
open PySem.Builtin.Int (intBits)
section
variable {X : Cx}
noncomputable def f3h : List V -> Hp -> VK -> Prop := fun xs H Q => match xs with
 | [.ref p] => (match H p with
  | some (.lst ys) => ∃ ns : List Int, ys = ns.map V.int /\ Q (.int ns.sum) H
  | _ => False)
 | _ => False
end
noncomputable def d1h (g : TG) (tb : TS) (D : Ends) : Nat -> Int -> St -> Hp -> Prop
 | 0, _, σ, H => D.nx σ H
 | k + 1, x, σ, H => g (.int x) σ H fun σ2 H2 => tb { D with nx := d1h g tb D k (x + 1), ct := d1h g tb D k (x + 1), bk := D.nx } σ2 H2
noncomputable def Stop (p : Prop) (_ : Tag p) : Prop := p
theorem Stop.go {p : Prop} {t : Tag p} (h : p) : Stop p t := h
noncomputable def d8o (t u : TS) : TS := fun D σ H => t { D with nx := fun σ' H' => Stop (u D σ' H') ⟨⟩ } σ H
noncomputable def Hs (H : Hp) (fs : List (Addr × HO)) : Prop := (fs.map (·.1)).Nodup /\ ∀ p ∈ fs, H p.1 = some p.2
noncomputable def HsC (H : Hp) : List (Addr × HO) -> Prop
 | [] => True
 | (a, o) :: r => H a = some o ∧ HsC H r
theorem Hs.nil {H : Hp} : Hs H [] := ⟨List.nodup_nil, fun _ h => nomatch h⟩
theorem Hs.same {H H' : Hp} {fs : List (Addr × HO)} (F : Hs H fs) (S : Same H H') : Hs H' fs := ⟨F.1, fun p hp => S _ _ (F.2 p hp)⟩
theorem Hs.fresh {H : Hp} {fs : List (Addr × HO)} {a : Addr} (F : Hs H fs) (n : H a = none) : a ∉ fs.map (·.1) := fun h => by
 obtain ⟨p, hp, e⟩ := List.mem_map.mp h
 have := F.2 p hp
 rw [e, n] at this
 cases this
theorem Hs.new {H H' : Hp} {fs : List (Addr × HO)} {a : Addr} {o : HO} (F : Hs H fs) (n : H a = none) (S : Same H H') (h : H' a = some o) : Hs H' ((a, o) :: fs) := by
 refine ⟨?_, fun p hp => ?_⟩
 ·rw [List.map_cons, List.nodup_cons]
  exact ⟨F.fresh n, F.1⟩
 ·rcases List.mem_cons.mp hp with rfl | hp
  ·exact h
  ·exact S _ _ (F.2 p hp)
theorem Hs.put {H H' : Hp} {l r : List (Addr × HO)} {a : Addr} {o o' : HO} (F : Hs H (l ++ (a, o) :: r)) (S : a1q a H H') (h : H' a = some o') : Hs H' (l ++ (a, o') :: r) := by
 have e : (l ++ (a, o') :: r).map (·.1) = (l ++ (a, o) :: r).map (·.1) := by simp
 have nd : ((l ++ (a, o) :: r).map (·.1)).Nodup := F.1
 refine ⟨by rw [e]; exact nd, fun p hp => ?_⟩
 rw [List.map_append, List.map_cons, List.nodup_append] at nd
 have nr := (List.nodup_cons.mp nd.2.1).1
 rcases List.mem_append.mp hp with hp | hp
 ·refine S _ _ (fun z => ?_) (F.2 p (List.mem_append_left _ hp))
  exact nd.2.2 p.1 (List.mem_map.mpr ⟨p, hp, rfl⟩) a List.mem_cons_self z
 ·rcases List.mem_cons.mp hp with rfl | hp
  ·exact h
  ·refine S _ _ (fun z => nr ?_) (F.2 p (List.mem_append_right _ (List.mem_cons_of_mem _ hp)))
   rw [<- z]
   exact List.mem_map.mpr ⟨p, hp, rfl⟩
theorem Hs.get {H : Hp} : ∀ {fs : List (Addr × HO)}, Hs H fs -> HsC H fs
 | [], _ => trivial
 | (a, o) :: r, F => ⟨F.2 (a, o) List.mem_cons_self, Hs.get ⟨(List.nodup_cons.mp F.1).2, fun p hp => F.2 p (List.mem_cons_of_mem _ hp)⟩⟩
theorem Hs.drop {H : Hp} {l r : List (Addr × HO)} (F : Hs H (l ++ r)) : Hs H r := ⟨(List.nodup_append.mp (by rw [<- List.map_append]; exact F.1)).2.1, fun p hp => F.2 p (List.mem_append_right _ hp)⟩
theorem f3i {ns : List Int} {i : Nat} (h : i < ns.length) : atI (ns.map V.int) (i : Int) = some (.int (ns.getD i 0)) := by
 refine a4w ?_
 rw [List.getElem?_map, List.getElem?_eq_getElem h, List.getD_eq_getElem?_getD, List.getElem?_eq_getElem h]
 rfl
noncomputable def c7y (H : Hp) (cs : List Addr) (bs : List (List Int)) : Prop := cs.length = bs.length /\ ∀ (i : Nat) c b, cs[i]? = some c -> bs[i]? = some b -> H c = some (.lst (b.map V.int))
theorem c7y.same {H H' : Hp} {cs : List Addr} {bs : List (List Int)} (h : c7y H cs bs) (s : Same H H') : c7y H' cs bs := ⟨h.1, fun i c b e1 e2 => s _ _ (h.2 i c b e1 e2)⟩
theorem c7y.get {H : Hp} {cs : List Addr} {bs : List (List Int)} (h : c7y H cs bs) {i : Nat} {c : Addr} (e : cs[i]? = some c) : ∃ b, bs[i]? = some b /\ H c = some (.lst (b.map V.int)) := by
 have hi : i < cs.length := (List.getElem?_eq_some_iff.mp e).1
 have hb : i < bs.length := by rw [<- h.1]; exact hi
 exact ⟨bs[i], by simp [hb], h.2 i c _ e (by simp [hb])⟩
theorem c7y.snoc {H : Hp} {cs : List Addr} {bs : List (List Int)} {c : Addr} {b : List Int} (h : c7y H cs bs) (hc : H c = some (.lst (b.map V.int))) : c7y H (cs ++ [c]) (bs ++ [b]) := by
 refine ⟨by rw [List.length_append, List.length_append, h.1]; rfl, fun i c' b' e1 e2 => ?_⟩
 by_cases hi : i < cs.length
 ·rw [List.getElem?_append_left hi] at e1
  rw [List.getElem?_append_left (by rw [<- h.1]; exact hi)] at e2
  exact h.2 i c' b' e1 e2
 ·rw [List.getElem?_append_right (by omega)] at e1
  rw [List.getElem?_append_right (by rw [<- h.1]; omega)] at e2
  rw [<- h.1] at e2
  cases hz : i - cs.length with
  | zero =>
   rw [hz] at e1 e2
   simp at e1 e2
   subst e1 e2
   exact hc
  | succ n =>
   rw [hz] at e1
   simp at e1
noncomputable def dB (bs : List (List Int)) : PySem.W.Dat := .list (bs.map fun b => .list (b.map .int))
theorem c7y.two {H : Hp} {a b : Addr} {x y : List Int} (ha : H a = some (.lst (x.map V.int))) (hb : H b = some (.lst (y.map V.int))) : c7y H [a, b] [x, y] := by
 refine ⟨rfl, fun i c d e1 e2 => ?_⟩
 match i, e1, e2 with
 | 0, e1, e2 => cases e1; cases e2; exact ha
 | 1, e1, e2 => cases e1; cases e2; exact hb
 | i + 2, e1, e2 => simp at e1
noncomputable def c1v (H : Hp) (xs : List V) (v : V) (H' : Hp) : Prop := ∃ b, v = .ref b /\ H b = none /\ Same H H' /\ H' b = some (.lst xs)
noncomputable def f6h (H : Hp) (xs : List V) (v : V) (H' : Hp) : Prop := ∃ b, v = .ref b /\ H b = none /\ Same H H' /\ H' b = some (.tup xs)
noncomputable def ratV (q : Rat) : List V := [.int q.num, .int (q.den : Nat)]
end L2
namespace L2
open PySem PySem.Spec PyProof.Rows
noncomputable def CXE (P : Program) (w : World) : CXT := fun outer H s E e s' => ∃ (a : Addr) (C a0 : Value) (B : Heap) (H' : Hp), e = .ref a /\ Heap.FlyingW B outer a C a0 s'.heap /\ s'.os = s.os /\ AllBare s'.gens /\
 (∀ h', B.StaysIn h' -> s'.heap.UpToSlots h' -> Un (frs outer) [] H H' s.heap h' /\ HOk P w H' h') /\ H' a = none /\ s.heap.get? a = none /\ E C none H'
theorem a4v.obj {P : Program} {w : World} {H : Hp} {h : Heap} {a : Addr} {o : HO} (x : a4v P w H h a o) : ∃ u, h.get? a = some u := by
 cases o with
 | lst xs => obtain ⟨_, _, _, _, e⟩ := x; exact ⟨_, e⟩
 | tup xs => obtain ⟨_, _, _, ob, e, _⟩ := x; exact ⟨_, e⟩
 | dK kvs => obtain ⟨_, _, _, _, o, _, _, e, _⟩ := x; exact ⟨_, e⟩
 | dT kvs => obtain ⟨_, _, _, _, o, _, _, e, _⟩ := x; exact ⟨_, e⟩
 | set S n => obtain ⟨o, _, _, _, e, _⟩ := x; exact ⟨_, e⟩
 | ins C dx fs => obtain ⟨_, _, _, e, _⟩ := x; exact ⟨_, e⟩
 | own y => obtain ⟨_, e⟩ := x; exact ⟨_, e⟩
 | xd fs => obtain ⟨_, ⟨_, _, _, e, _⟩, _⟩ := x; exact ⟨_, e⟩
 | rng lo hi => obtain ⟨_, _, _, e⟩ := x; exact ⟨_, e⟩
 | frz ob u => obtain ⟨e, _⟩ := x; exact ⟨_, e⟩
 | tbl ps => exact ⟨_, (show h.get? a = some _ from x)⟩
 | met f y => exact ⟨_, (show h.get? a = some _ from x)⟩
 | ext φ => obtain ⟨_, ⟨_, e⟩, _⟩ := x; exact ⟨_, e⟩
section
variable {X : Cx} {pins : List (Addr × Obj)} {σ : St} {H : Hp} {s : Shared}
theorem Inv.caught {H' : Hp} {s' : Shared} {h' : Heap} {t' : Nat} (I : Inv X pins σ H s) (os : s'.os = s.os) (bare : AllBare s'.gens) (u : Un (frs X.stack) [] H H' s.heap h') (hok : HOk X.prog X.w H' h') : Inv X pins σ H' { s' with heap := h', toks := t' } := by
 obtain ⟨hh, g, d, t, os'⟩ := s'
 obtain rfl : os' = s.os := os
 exact Inv.call (s := s) (h' := h') (g' := g) (d' := d) (t' := t') (ch := []) I u hok bare (fun b z => absurd z (by simp))
theorem Inv.track {a : Addr} {o : HO} (I : Inv X pins σ H s) (h1 : X.s₀.heap.get? a = none) (h2 : a ≠ X.env.locals) (h3 : ∀ x c, X.env.cells.lookup x = some c -> c ≠ a) (h4 : ∀ p ∈ X.pn ++ pins, p.1 ≠ a) (hH : H a = none)
  (new : a4v X.prog X.w (upd H a o) s.heap a o) : Inv X pins σ (upd H a o) s := by
 refine ⟨I.ok, I.os, I.bare, ⟨I.base.keep, I.base.slot, fun b u q n hx => ?_, I.base.there, fun b xs q => ?_, fun b u xs q => ?_, fun b ps q => ?_⟩, I.loc, I.cell, ?_, fun x c e => ?_, fun p hp => ?_, fun b u e => ?_, I.len⟩
 ·rw [a1g (fun z => by rw [z, h1] at q; cases q)]
  exact I.base.free b u q n hx
 ·have z := I.base.tups b xs q
  rw [a1g (a1o z hH)]
  exact z
 ·have z := I.base.b9r b u xs q
  rw [a1g (a1o z hH)]
  exact z
 ·obtain ⟨m, z⟩ := I.base.b9u b ps q
  exact ⟨m, by rw [a1g (a1o z hH)]; exact z⟩
 ·rw [a1g h2.symm]
  exact I.free
 ·rw [a1g (h3 x c e)]
  exact I.b1z x c e
 ·obtain ⟨e, n, ne, nf, d⟩ := I.pin p hp
  exact ⟨e, by rw [a1g (h4 p hp)]; exact n, ne, nf, d⟩
 ·by_cases hb : b = a
  ·subst hb
   rw [a0z] at e
   cases e
   exact new
  ·rw [a1g hb] at e
   exact (I.hok b u e).stay (fun _ _ _ q => q) (fun c q => by rw [a1g (a1o q hH)]; exact q) fun c xs q => by rw [a1g (a1o q hH)]; exact q
noncomputable def f6i (X : Cx) (E : XK) : Prop := ∀ (pins : List (Addr × Obj)) (σ : St) (H : Hp) (s : Shared) (e C : Addr) (args : List Value) (h' : Heap), Inv X pins σ H s -> Heap.MadeExcOf s.heap h' e (.ref C) args -> E (.ref C) none H -> X.xe (.ref e) { s with heap := h' }
end
section
variable {P : Program} {w : World} {K : PySem.W.Frag} {mg : Str -> Option Value} {base : Heap} {N : List Str} {qual : Str} {scope : Scope} {f : Addr} {cd : Value} {A : Around} {outer : List Env} {s : Shared} {H : Hp} {E : XK}
end
theorem a4n.or {P : Program} {w : World} {K : PySem.W.Frag} {mg : Str -> Option Value} {base : Heap} {k : Nat} {f : Addr} {fd : FuncData} {ps : List Str} {sp sp' : Sp} (F : a4n P w K mg base CX0 k f fd ps sp) (G : a4n P w K mg base (CXE P w) k f fd ps sp') :
  a4n P w K mg base (CXE P w) k f fd ps (fun vs H Q E => sp vs H Q E \/ sp' vs H Q E) := by
 refine ⟨fun vs H Q E h => h.elim (F.len vs H Q E) (G.len vs H Q E), fun A outer s H args us vs Q E hr e0 hb hv h => ?_⟩
 rcases h with h | h
 ·refine codeAny_mono (F.run A outer s H args us vs Q E hr e0 hb hv h) fun r s' q => ?_
  cases r with
  | error e => exact False.elim q
  | ok fl => cases fl <;> exact q
 ·exact G.run A outer s H args us vs Q E hr e0 hb hv h
noncomputable abbrev vE : List Value := [.type "ValueError", .type "Exception", .type "BaseException", .type "object"]
structure Exc (K : PySem.W.Frag) (C : Addr) : Prop where
 ok : PySem.W.excIn K C vE "ValueError.__new__" = true
section
variable {X : Cx} {e₀ : Expr} {rest : List Expr} {t : TA} {x : Str} {C : Addr} {E : XK} {np cpos pos : Pos}
noncomputable def d8p (C : Addr) (E : XK) (t : TA) : TS := fun _ σ H => t σ H fun vs H1 => vs.length <= sizeLine /\ E (.ref C) none H1
end
structure f6j (K : PySem.W.Frag) (C : Addr) : Prop where
 ga : PySem.W.findIn K (.ref C) "__getattribute__" = some (some (.builtin "BaseException.__getattribute__"))
 cl : PySem.W.findIn K (.ref C) "__class__" = some (some (.builtin "object.__class__"))
 ng : PySem.W.findIn K (.ref C) "__getattr__" = some none
 so : PySem.W.subIn K (.ref C) (.type "object") = some true
 sb : PySem.W.subIn K (.ref C) (.type "BaseException") = some true
 ty : PySem.W.typeIn K (.ref C) = some (.type "type")
 ic : PySem.W.isClsIn K C = true
 ss : PySem.W.subIn K (.ref C) (.ref C) = some true
section
variable {prog : Program} {w : World} {A : Around} {E : Value -> Shared -> Prop} {h : Heap} {g : Array GenState} {d : Drawn} {t : Nat} {os : OsState} {a C : Addr} {o : Obj} {K : PySem.W.Frag}
end
noncomputable def f3j (a : Addr) (C : Value) : HO := .ext fun h => ∃ o, h.get? a = some o /\ o.cls = C
section
variable {X : Cx}
noncomputable def rIsX (K : PySem.W.Frag) : List V -> Hp -> VK -> Prop := fun xs H Q => match xs with
 | [.non, .ref D] => (∃ b, PySem.W.kitOne K (.type "NoneType") (.ref D) = some b ∧ Q (.bl b) H)
 | [.ref a, .ref D] => ∃ C b, H a = some (f3j a (.ref C)) /\ f6j K C /\ PySem.W.kitOne K (.ref C) (.ref D) = some b /\ Q (.bl b) H
 | [.ref a, .ty n] => ∃ C b, H a = some (f3j a (.ref C)) /\ f6j K C /\ PySem.W.kitOne K (.ref C) (.type n) = some b /\ Q (.bl b) H
 | [.non, .ty n] => (∃ b, PySem.W.kitOne K (.type "NoneType") (.type n) = some b ∧ Q (.bl b) H)
 | _ => False
end
noncomputable def XPo (X : Cx) (pins : List (Addr × Obj)) (σ : St) (E : XK) (e : Value) (s' : Shared) : Prop := ∃ H1 s1, Inv X pins σ H1 s1 /\ CXE X.prog X.w X.stack H1 s1 E e s'
noncomputable def PEX (X : Cx) (e : Expr) (t : TE) (E : XK) : Prop :=
 ∀ (pins : List (Addr × Obj)) (s : Shared) (σ : St) (H : Hp) (Q : VK), Inv X pins σ H s -> t σ H Q -> wpAny (model X.prog X.w) X.A (eval e X.env) (EP X pins σ Q) (XPo X pins σ E) s
noncomputable def PSX (X : Cx) (st : Stmt) (t : TS) (E : XK) : Prop :=
 ∀ (pins : List (Addr × Obj)) (s : Shared) (σ : St) (H : Hp) (D : Ends), Inv X pins σ H s -> t D σ H -> wpAny (model X.prog X.w) X.A (exec st X.env) (SP X pins D) (XPo X pins σ E) s
section
variable {X : Cx} {k : Nat} {f C : Addr} {fd : FuncData} {ps : List Str} {sp : Sp} {dvs : List V} {ds : List Value} {E : XK} {x m : Str} {p pos apos : Pos} {e o : Expr} {es : List Expr} {ta : TE} {t : TA}
end
section
variable {X : Cx} {pins : List (Addr × Obj)} {σ : St} {H : Hp} {s : Shared}
noncomputable abbrev Cx.held (X : Cx) (e : Addr) : Cx := { X with A := X.A.mark (some (.ref e)), calm := false, xe := fun _ _ => False }
theorem Inv.held (I : Inv X pins σ H s) (e : Addr) : Inv (X.held e) pins σ H s :=
 ⟨⟨I.ok.mod, I.ok.kind, I.ok.glob, I.ok.blt, I.ok.above, I.ok.inj, I.ok.has, I.ok.cab, fun h => Bool.noConfusion h, I.ok.frames, I.ok.stk, I.ok.exf, I.ok.bs, I.ok.bsz, I.ok.d1y, I.ok.d5m, I.ok.c1m, I.ok.frf⟩, I.os, I.bare, I.base, I.loc, I.cell, I.free, I.b1z, I.pin, I.hok, I.len⟩
end
noncomputable def hAs (K : PySem.W.Frag) (D : Addr) (i : Nat) (th : TS) (Dn : Ends) (σ : St) : XK := fun C _ H' => ∃ c, C = .ref c /\ PySem.W.subIn K (.ref c) (.ref D) = some true /\
 ∀ e H2, H' e = none -> Same H' H2 -> H2 e = some (f3j e (.ref c)) -> th { nx := fun σ2 H3 => Dn.nx (σ2.set i none) H3, rt := Dn.rt, bk := fun σ2 H3 => Dn.bk (σ2.set i none) H3, ct := fun σ2 H3 => Dn.ct (σ2.set i none) H3 } (σ.set i (some (.ref e))) H2
noncomputable def d8q (K : PySem.W.Frag) (D : Addr) (i : Nat) (tb : XK -> TS) (th : TS) : TS := fun Dn σ H => tb (hAs K D i th Dn σ) Dn σ H
section
variable {X : Cx} {D : Addr} {dn n : Str} {i : Nat} {st b₀ : Stmt} {suite : List Stmt} {tb : XK -> TS} {th : TS} {np hpos pos : Pos}
end
noncomputable def d8r : TE := fun _ H Q => New H (.dK []) Q ⟨⟩
end L2
namespace L2
open PySem PySem.Spec PyProof.Rows
section
variable {X : Cx} {tg : Expr}
noncomputable def f3k (g : Str -> Str -> V) : V -> List V -> Hp -> VK -> Prop := fun x vs H Q => match x, vs with
 | .str z, [.str y] => Q (g z y) H
 | _, _ => False
noncomputable def Its (x : Str) : It := ⟨fun i _ => i < x.cps.size, fun i H v H' => H' = H /\ ∃ c, x.cps[i]? = some c /\ v = .str ⟨#[c]⟩, fun i _ => i = x.cps.size⟩
theorem c9h {P : Program} {w : World} {K : PySem.W.Frag} (it : Addr) (x : Str) (t : Tok) {n : String} (hn : ["enumerate", "zip", "dict_itemiterator", "dict_reverseitemiterator", "odict_iterator", "itertools.zip_longest", "itertools.pairwise"].contains n = false)
  (W : ∀ A' : Around, A'.handled = none -> Walks P w A' it [it] [it] x.cps.size (SignAt x) (fun i h => h.IsStrIter it n x t i))
  (S : ∀ (A : Around) (i : Nat) (s : Shared) (Q : Value -> Shared -> Prop) (E : Value -> Shared -> Prop), s.heap.IsStrIter it n x t i -> Q (.ref it) s -> wpAny (model P w) A (pyIter (.ref it)) Q E s) : Turn P w K tg (Its x) [it] it (fun i h => h.IsStrIter it n x t i) where
 mem := by simp
 obj := fun i h st b hb => by
  have e : b = it := by simpa using hb
  subst e
  obtain ⟨o, e, c, d⟩ := st
  exact ⟨o, e, fun v z => by rw [d] at z; cases z⟩
 keep := fun i h h' st k => let ⟨o, ho, r⟩ := st; ⟨o, k it (by simp) o ho, r⟩
 item := by
  intro X hP hw hK hc i pins s σ H E I hf st hg
  subst hP hw hK
  obtain ⟨f0, f1, f2, f3, f4, f5⟩ := hf it (by simp)
  refine (W _ (I.ok.hd hc)).item i s _ _ hg st fun v h' tk hv st' kk => ?_
  obtain ⟨c, u, hc', rfl⟩ := hv
  have I1 : Inv X pins σ H { s with heap := h', toks := tk } := I.turned (fun b o hb e => kk b o (by simpa using hb) e) f0 f1 f3 f4 f5
  obtain ⟨o, e1, c1, d1⟩ := id st'
  exact ⟨_, rfl, d1z (s := { s with heap := h', toks := tk }) e1 c1 d1 hn ⟨.str ⟨#[c]⟩, H, I1, ⟨u, rfl⟩, ⟨rfl, c, hc', rfl⟩, st', fun b hb => (hf b hb).1⟩⟩
 done := by
  intro X hP hw hK hc i pins s σ H E I hf st hg
  subst hP hw hK
  obtain ⟨f0, f1, f2, f3, f4, f5⟩ := hf it (by simp)
  have hi : i = x.cps.size := hg
  subst hi
  exact (W _ (I.ok.hd hc)).done s _ _ st fun h' tk kk => ⟨rfl, I.turned (t' := tk) (fun b o hb e => kk b o (by simpa using hb) e) f0 f1 f3 f4 f5⟩
 self := S
noncomputable def f6k (tl : TE) : TI := fun σ H R => tl σ H fun x H1 => match x with
 | .str z => R (Its z) H1
 | _ => False
theorem d8s {l : Expr} {tl : TE} (hl : PE X l tl) : PI X tg l (f6k tl) := by
 intro pins s σ H R I h
 refine thn (hl pins s σ H _ I h) fun v s1 ⟨x, H1, I1, r1, q1⟩ => ?_
 cases x with
 | str z =>
  obtain ⟨t, rfl⟩ := r1
  have fin : ∀ (o : Obj) (n : String), ["enumerate", "zip", "dict_itemiterator", "dict_reverseitemiterator", "odict_iterator", "itertools.zip_longest", "itertools.pairwise"].contains n = false → (s1.heap.push o).IsStrIter s1.heap.objs.size n z t 0 →
    (∀ A' : Around, A'.handled = none -> Walks X.prog X.w A' s1.heap.objs.size [s1.heap.objs.size] [s1.heap.objs.size] z.cps.size (SignAt z) (fun i h => h.IsStrIter s1.heap.objs.size n z t i)) ->
    (∀ (A : Around) (i : Nat) (s : Shared) (Q : Value -> Shared -> Prop) (E : Value -> Shared -> Prop), s.heap.IsStrIter s1.heap.objs.size n z t i -> Q (.ref s1.heap.objs.size) s -> wpAny (model X.prog X.w) A (pyIter (.ref s1.heap.objs.size)) Q E s) ->
    PIE X pins σ tg R (.ref s1.heap.objs.size) { s1 with heap := s1.heap.push o } := fun o n hn st W S => by
   refine ⟨s1.heap.objs.size, [s1.heap.objs.size], _, _, H1, rfl, I1.kept (t' := s1.toks) fun b o e => Heap.get?_push_of_some _ e, c9h _ z t hn W S, st, fun b hb => ?_, q1⟩
   have e : b = s1.heap.objs.size := by simpa using hb
   subst e
   exact I1.d4y (Nat.le_refl _) (I1.hok.fresh (Nat.le_refl _))
  cases ha : z.cps.all (· < 128)
  ·exact wpAny_pyIter_wide ha (fin _ "str_iterator" (by decide) ⟨_, Heap.get?_push_size _ rfl, rfl, rfl⟩ (fun A' hA => Walks.strWide hA _ z t) fun _ _ _ _ _ st hQ => wpAny_pyIter_striter_wide st hQ)
  ·exact wpAny_pyIter_ascii ha (fin _ "str_ascii_iterator" (by decide) ⟨_, Heap.get?_push_size _ rfl, rfl, rfl⟩ (fun A' hA => Walks.strAscii hA _ z t) fun _ _ _ _ _ st hQ => wpAny_pyIter_striter_ascii st hQ)
 | _ => exact False.elim q1
noncomputable def f6l : V -> Option Int -> Option Int -> Hp -> VK -> Prop := fun x lo hi H Q => match x with
 | .ref a => (match H a with
  | some (.lst xs) => New H (.lst (b7n xs lo hi)) Q ⟨⟩
  | _ => False)
 | .str z => z.length <= sizeLine /\ Q (.str (Txt.slice z lo hi)) H
 | _ => False
theorem d4z : SlR X f6l := by
 intro pins s σ H x v vl vu lo hi sl Q I rx hs pl pu h
 cases x with
 | ref a => exact sl_M pins s σ H _ v vl vu lo hi sl Q I rx hs pl pu h
 | str z =>
  obtain ⟨t, rfl⟩ := rx
  obtain ⟨hz, q⟩ := h
  have fin : ∀ t' k, EP X pins σ Q (.str (Txt.slice z lo hi) t') { s with toks := k } := fun t' k => ⟨.str _, H, I.tok k, ⟨_, rfl⟩, q⟩
  refine ⟨"str", _, F.slot_str_getitem.lookup, typeIs_str _ _ _, ?_⟩
  cases pl with
  | none =>
   cases pu with
   | none => exact wpAny_getItem_str_slice (l := none) (u := none) (st := none) hs rfl (post_val_or_str ⟨Nat.le_trans (Txt.slice_le z _ _) hz, fin⟩)
   | int j uj => exact wpAny_getItem_str_slice (l := none) (u := some (j, uj)) (st := none) hs rfl (post_val_or_str ⟨Nat.le_trans (Txt.slice_le z _ _) hz, fin⟩)
  | int i ui =>
   cases pu with
   | none => exact wpAny_getItem_str_slice (l := some (i, ui)) (u := none) (st := none) hs rfl (post_val_or_str ⟨Nat.le_trans (Txt.slice_le z _ _) hz, fin⟩)
   | int j uj => exact wpAny_getItem_str_slice (l := some (i, ui)) (u := some (j, uj)) (st := none) hs rfl (post_val_or_str ⟨Nat.le_trans (Txt.slice_le z _ _) hz, fin⟩)
 | _ => exact False.elim h
noncomputable def d8t : List V -> Hp -> VK -> Prop := fun xs H Q => match xs with
 | [.int i] => Q (.int i) H
 | [.bl k] => Q (.int (if k then 1 else 0)) H
 | [.str z] => ∃ n, PySem.intText? z = some n /\ z.length <= 640 /\ Q (.int n) H
 | _ => False
theorem c6l : a9i X (.type "int") d8t := by
 intro pins s σ H xs us Q I r h
 match xs, r, h with
 | [.int i], r, q => exact b7q pins s σ H _ us Q I r (.inl ⟨i, rfl, q⟩)
 | [.bl k], r, q => exact b7q pins s σ H _ us Q I r (.inr ⟨k, rfl, q⟩)
 | [.str z], r, ⟨n, hn, hl, q⟩ =>
  obtain ⟨u, rfl, t, rfl⟩ := vals1 r
  exact PySem.W.KIN.call_text hn hl ⟨.int n, H, I.tok _, ⟨_, rfl⟩, q⟩
noncomputable def f3l : List V -> Hp -> VK -> Prop := fun xs H Q => match xs with
 | [.int i] => i.natAbs.log2 < 1920 /\ Q (.str (toString i)) H
 | _ => False
noncomputable def tFmt (te : TE) : TE := fun σ H Q => te σ H fun x H1 => match x with
 | .int i => i.natAbs.log2 < 1920 /\ Q (.str (toString i)) H1
 | .str y => y.length <= sizeLine /\ Q (.str y) H1
 | _ => False
noncomputable abbrev TJ := Str -> St -> Hp -> (Str -> Hp -> Prop) -> Prop
noncomputable def PJ (X : Cx) (es : List Expr) (t : TJ) : Prop := ∀ (pins : List (Addr × Obj)) (acc : Str) (s : Shared) (σ : St) (H : Hp) (Q : Str -> Hp -> Prop) (Q' : Str -> Shared -> Prop), Inv X pins σ H s -> t acc σ H Q -> (∀ out H1 s1, Inv X pins σ H1 s1 -> Q out H1 -> Q' out s1) ->
 Joins (model X.prog X.w) X.A X.xe (evalEach es X.env) acc Q' s
noncomputable def f3m : TJ := fun acc _ H Q => Q acc H
noncomputable def d8u (te : TE) (tr : TJ) : TJ := fun acc σ H Q => te σ H fun x H1 => match x with
 | .str y => acc.length + y.length <= sizeLine /\ tr (acc ++ y) σ H1 Q
 | _ => False
noncomputable def f3n (tj : TJ) : TE := fun σ H Q => tj Str.empty σ H fun out H1 => out.length <= sizeLine /\ Q (.str out) H1
noncomputable def b8o (x y : Str) : List Str := if (decide (x.length < y.length) || decide (Builtin.Str.strKind x < Builtin.Str.strKind y)) = true then [x] else if (Builtin.Str.occurrences x y 0 x.length (x.length + 1)).isEmpty = true then [x] else Builtin.Str.partsBetween x (Builtin.Str.occurrences x y 0 x.length (x.length + 1)) y.length
noncomputable def d8v : V -> List V -> Hp -> VK -> Prop := fun x vs H Q => match x, vs with
 | .str z, [.str y] => (y.length == 0) = false /\ z.length <= sizeLine /\ (b8o z y).length <= sizeLine /\ New H (.lst ((b8o z y).map V.str)) Q ⟨⟩
 | _, _ => False
noncomputable def d8w (z y : Str) : Bool := !(Builtin.Str.occurrences z y 0 z.length 1).isEmpty
noncomputable def f1j (neg : Bool) : R2 := fun x y H Q => match y with
 | .str z => (match x with
  | .str y => Q (.bl (d8w z y != neg)) H
  | _ => False)
 | .ref p => (match H p with
  | some (.lst xs) => a6y x = true /\ xs.all a6y = true /\ Q (.bl (inV x xs != neg)) H
  | some (.tup xs) => a6y x = true /\ xs.all a6y = true /\ Q (.bl (inV x xs != neg)) H
  | _ => False)
 | _ => False
theorem b4r : OpR X (compareOp .In) (f1j false) := by
 intro pins s σ H x y v u Q I rx ry h
 cases y with
 | str z =>
  cases x with
  | str y =>
   have h : Q (.bl (d8w z y != false)) H := h
   rw [Bool.bne_false] at h
   exact c4r pins s σ H _ _ v u Q I rx ry ⟨y, z, rfl, rfl, h⟩
  | _ => exact False.elim h
 | ref p =>
  have h : (match H p with
   | some (.lst xs) => a6y x = true /\ xs.all a6y = true /\ Q (.bl (inV x xs != false)) H
   | some (.tup xs) => a6y x = true /\ xs.all a6y = true /\ Q (.bl (inV x xs != false)) H
   | _ => False) := h
  split at h
  ·rename_i xs e
   rw [Bool.bne_false] at h
   exact b7w pins s σ H _ _ v u Q I rx ry ⟨p, xs, rfl, .inl (SqL.of e), h.1, h.2.1, by simpa using h.2.2⟩
  ·rename_i xs e
   rw [Bool.bne_false] at h
   exact b7w pins s σ H _ _ v u Q I rx ry ⟨p, xs, rfl, .inr (SqT.of e), h.1, h.2.1, by simpa using h.2.2⟩
  ·exact h.elim
 | _ => exact False.elim h
theorem a6n : OpR X (compareOp .NotIn) (f1j true) := by
 intro pins s σ H x y v u Q I rx ry h
 cases y with
 | str z =>
  cases x with
  | str y =>
   have h : Q (.bl (d8w z y != true)) H := h
   rw [Bool.bne_true] at h
   exact b7y pins s σ H _ _ v u Q I rx ry ⟨y, z, rfl, rfl, h⟩
  | _ => exact False.elim h
 | ref p =>
  have h : (match H p with
   | some (.lst xs) => a6y x = true /\ xs.all a6y = true /\ Q (.bl (inV x xs != true)) H
   | some (.tup xs) => a6y x = true /\ xs.all a6y = true /\ Q (.bl (inV x xs != true)) H
   | _ => False) := h
  split at h
  ·rename_i xs e
   rw [Bool.bne_true] at h
   exact b3l pins s σ H _ _ v u Q I rx ry ⟨p, xs, rfl, .inl (SqL.of e), h.1, h.2.1, by simpa using h.2.2⟩
  ·rename_i xs e
   rw [Bool.bne_true] at h
   exact b3l pins s σ H _ _ v u Q I rx ry ⟨p, xs, rfl, .inr (SqT.of e), h.1, h.2.1, by simpa using h.2.2⟩
  ·exact h.elim
 | _ => exact False.elim h
end
end L2
namespace L2
open PySem PySem.Spec PyProof.Rows
noncomputable def Wr (H : Hp) (a : Addr) (o : HO) (k : Hp -> Prop) (_ : Tag k) : Prop := ∀ H1, a1q a H H1 -> H1 a = some o -> k H1
section
variable {X : Cx} {e o value : Expr} {f m x : Str} {pos pos' apos : Pos} {ta tv : TE} {t : TA} {C : Addr} {es : List Expr}
noncomputable def d3l (K : PySem.W.Frag) (ta : TE) (f : Str) : TE := fun σ H Q => ta σ H fun x H1 => match x with
 | .ref a => (match H1 a with
  | some (.ins C dx fs) => Cls K C /\ a4p K C f /\ (match fs.lookup f with
   | some v => Q v H1
   | none => False)
  | _ => False)
 | _ => False
theorem a3v (he : PE X e ta) (hb : attributeBase e f X.env (eval e X.env) = eval e X.env) : PE X (.Attribute e f pos) (d3l X.K ta f) := by
 intro pins s σ H Q I h
 refine (d6g he hb) pins s σ H Q I ?_
 unfold f4y
 unfold d3l at h
 have q : (fun (x : V) (H1 : Hp) => (match x with
   | .ref a => (match H1 a with
    | some (.ins C dx fs) => Cls X.K C /\ a4p X.K C f /\ (match fs.lookup f with
     | some v => Q v H1
     | none => False)
    | _ => False)
   | _ => False : Prop)) = fun x H1 => ∃ a C dx fs v, x = .ref a /\ H1 a = some (.ins C dx fs) /\ Cls X.K C /\ a4p X.K C f /\ fs.lookup f = some v /\ Q v H1 := by
  funext x H1
  refine propext ⟨fun z => ?_, fun ⟨a, C, dx, fs, v, e1, e2, c, n, l, q⟩ => ?_⟩
  ·cases x with
   | ref a =>
    dsimp only at z
    split at z
    ·rename_i C dx fs e1
     obtain ⟨c, n, z⟩ := z
     split at z
     ·rename_i v e2
      exact ⟨a, C, dx, fs, v, rfl, e1, c, n, e2, z⟩
     ·exact z.elim
    ·exact z.elim
   | _ => exact False.elim z
  ·subst e1
   dsimp only
   rw [e2]
   dsimp only
   rw [l]
   exact ⟨c, n, q⟩
 rw [q] at h
 exact h
noncomputable def d8y (K : PySem.W.Frag) (ta tv : TE) (f : Str) : TS := fun D σ H => tv σ H fun y H1 => ta σ H1 fun x H2 => match x with
 | .ref a => (match H2 a with
  | some (.ins C dx fs) => Cls K C /\ a4p K C f /\ fs.length < 1000 /\ Wr H2 a (.ins C dx (b3q f y fs)) (D.nx σ) ⟨⟩
  | _ => False)
 | _ => False
theorem b3g (ha : PE X o ta) (hv : PE X value tv) (hs : swapsWith value (some (.Attribute o f pos')) pos.line X.env = pure false) : PS X (.Assign [.Attribute o f pos'] value pos) (d8y X.K ta tv f) := by
 intro pins s σ H D I h
 refine plainObj_wpAny_Assign_Attribute (thn (hv pins s σ H _ I h) fun u s1 ⟨y, H1, I1, ry, q⟩ => thn (ha pins s1 σ H1 _ I1 q) fun ov s2 ⟨x, H2, I2, rx, z⟩ => ?_) hs
 cases x with
 | ref a =>
  obtain rfl : ov = Value.ref a := rx
  dsimp only at z
  split at z
  ·rename_i C dx fs e1
   obtain ⟨c, n, l, k⟩ := z
   exact c2s I2 e1 c n l ry fun s3 I3 => ⟨σ, _, I3, k _ a1q.upd a0z⟩
  ·exact z.elim
 | _ => exact False.elim z
end
noncomputable def c6m (C : Addr) (m : Str) (sp : Sp) (dvs : List V) (E : XK) (ta : TE) (t : TA) : TE := fun σ H Q => ta σ H fun x H1 => match x with
 | .ref a => (match H1 a with
  | some (.ins C' dx fs) => C' = C /\ fs.lookup m = none /\ t σ H1 fun vs H2 => sp (x :: (vs ++ dvs)) H2 Q E
  | _ => False)
 | _ => False
section
variable {X : Cx} {CX : CXT} {k : Nat} {f C : Addr} {fd : FuncData} {ps : List Str} {sp : Sp} {dvs : List V} {ds : List Value} {E : XK} {x m : Str} {p pos apos : Pos} {e o : Expr} {es : List Expr} {ta : TE} {t : TA}
theorem a7g {pl : Sem Bool} (he : PE X o ta) (c : Cls X.K C) (hm : Meth X.K C m f) (F : a4n X.prog X.w X.K X.mg X.base CX k f fd ps sp) (hr : a5u k X.A) (hb : Binds X.K fd ps ds) (hd : Vals dvs ds) (hx : Passes CX X E) (ha : PA X (e :: es) t)
  (hst : starEach (e :: es) X.env = (false, eval e X.env) :: starEach es X.env := by rfl) (hpl : (backTo pos (starEach es X.env)).any (·.1) = false := by rfl)
  (ht : eval (.Call (.Attribute o m apos) (e :: es) [] pos) X.env = (do
   let ov <- eval o X.env
   standAt apos.atName
   let (f, first) <- holding [ov] (getMethod ov m pl)
   callWith pos f first (backTo pos (starEach (e :: es) X.env)) (backToKw pos (keywordEach [] X.env))) := by rfl) :
  PE X (.Call (.Attribute o m apos) (e :: es) [] pos) (c6m C m sp dvs E ta t) := by
 intro pins s σ H Q I h
 refine PySem.W.methodCall_KW (pl := pl) (thn (he pins s σ H _ I h) fun u s1 ⟨x, H1, I1, rx, z⟩ => ?_) ht
 cases x with
 | ref a =>
  obtain rfl : u = Value.ref a := rx
  dsimp only at z
  split at z
  ·rename_i C' dx fs ea
   obtain ⟨rfl, l, q⟩ := z
   refine b5u I1 ea c hm l ?_
   refine PySem.W.callWith_K (first := [.ref a]) (h₀ := X.base) I.ok.mod.kin hm.kp (thn (ha pos pins s1 σ H1 _ I1 q) fun us s2 ⟨vs, H2, I2, r, q2⟩ => ⟨I2.kIn, ?_⟩) hst hpl
   exact c4w (us := .ref a :: us) (vs := .ref a :: vs) F hr hb hd hx I2 (.cons rfl r) q2
  ·exact z.elim
 | _ => exact False.elim z
theorem a9m {pl : Sem Bool} (he : PE X o ta) (c : Cls X.K C) (hm : Meth X.K C m f) (F : a4n X.prog X.w X.K X.mg X.base CX k f fd ps sp) (hr : a5u k X.A) (hb : Binds X.K fd ps ds) (hd : Vals dvs ds) (hx : Passes CX X E)
  (ht : eval (.Call (.Attribute o m apos) [] [] pos) X.env = (do
   let ov <- eval o X.env
   standAt apos.atName
   let (f, first) <- holding [ov] (getMethod ov m pl)
   callWith pos f first (backTo pos (starEach [] X.env)) (backToKw pos (keywordEach [] X.env))) := by rfl) :
  PE X (.Call (.Attribute o m apos) [] [] pos) (c6m C m sp dvs E ta f0y) := by
 intro pins s σ H Q I h
 refine PySem.W.methodCall_KW (pl := pl) (thn (he pins s σ H _ I h) fun u s1 ⟨x, H1, I1, rx, z⟩ => ?_) ht
 cases x with
 | ref a =>
  obtain rfl : u = Value.ref a := rx
  dsimp only at z
  split at z
  ·rename_i C' dx fs ea
   obtain ⟨rfl, l, q⟩ := z
   refine b5u I1 ea c hm l ?_
   exact PySem.W.callWith_K0 (first := [.ref a]) I1.kIn hm.kp (c4w (us := [.ref a]) (vs := [.ref a]) F hr hb hd hx I1 (.cons rfl .nil) q)
  ·exact z.elim
 | _ => exact False.elim z
noncomputable def f1k (H : Hp) (C : Addr) (k : Addr -> Hp -> Prop) (_ : Tag k) : Prop := ∀ x dx H1, H x = none -> H dx = none -> dx ≠ x -> Same H H1 -> H1 dx = some (.own x) -> H1 x = some (.ins C dx []) -> k x H1
noncomputable def d8z (x : Addr) (Q : VK) : VK := fun v H2 => v = .non /\ Q (.ref x) H2
theorem asNew {x : Addr} {Q : VK} {H2 : Hp} {v : V} : d8z x Q v H2 = (v = .non /\ Q (.ref x) H2) := rfl
noncomputable def c6n (C : Addr) (sp : Sp) (dvs : List V) (E : XK) (t : TA) : TE := fun σ H Q => t σ H fun vs H1 => f1k H1 C (fun x H2 => sp (.ref x :: (vs ++ dvs)) H2 (d8z x Q) E) ⟨⟩
theorem f1k.raw {H : Hp} {C : Addr} {k : Addr -> Hp -> Prop} {t : Tag k} (h : f1k H C k t) : ∀ x dx, H x = none -> H dx = none -> dx ≠ x -> k x (upd (upd H dx (.own x)) x (.ins C dx [])) := fun x dx ex ed ne =>
 h x dx _ ex ed ne ((Same.upd ed).trans (Same.upd (by rw [a1g ne.symm]; exact ex))) (by rw [a1g ne]; exact a0z) a0z
theorem c9i (M : Mk X.K C f) (F : a4n X.prog X.w X.K X.mg X.base CX k f fd ps sp) (hr : a5u (k + 1) X.A) (hg : Gl X x) (hm : X.mg x = some (.ref C)) (hb : Binds X.K fd ps ds) (hd : Vals dvs ds) (hx : Passes CX X E)
  (ha : PA X (e :: es) t) (hdb : (x == ("__debug__" : Str)) = false := by decide) (he : starEach (e :: es) X.env = (false, eval e X.env) :: starEach es X.env := by rfl) (hpl : (backTo pos (starEach es X.env)).any (·.1) = false := by rfl) :
  PE X (.Call (.Name x p) (e :: es) [] pos) (c6n C sp dvs E t) := by
 intro pins s σ H Q I h
 refine wpAny_Call_Name_kw (b6h I hg hm ?_ hdb)
 refine PySem.W.callWith_K (h₀ := X.base) I.ok.mod.kin M.kp (thn (ha pos pins s σ H _ I h) fun us s1 ⟨vs, H1, I1, r, q⟩ => ⟨I1.kIn, ?_⟩) he hpl
 exact c1q M F hr hb hd hx I1 r q.raw
theorem c6o (M : Mk X.K C f) (F : a4n X.prog X.w X.K X.mg X.base CX k f fd ps sp) (hr : a5u (k + 1) X.A) (hg : Gl X x) (hm : X.mg x = some (.ref C)) (hb : Binds X.K fd ps ds) (hd : Vals dvs ds) (hx : Passes CX X E)
  (hdb : (x == ("__debug__" : Str)) = false := by decide) : PE X (.Call (.Name x p) [] [] pos) (c6n C sp dvs E f0y) := by
 intro pins s σ H Q I h
 refine wpAny_Call_Name_kw (b6h I hg hm ?_ hdb)
 exact PySem.W.callWith_K0 I.kIn M.kp (c1q (us := []) M F hr hb hd hx I .nil (f1k.raw (t := ⟨⟩) h))
end
noncomputable def c9j (K : PySem.W.Frag) (ta tv : TE) (rd : V -> V -> Hp -> VK -> Prop) (f : Str) : TS := fun D σ H => ta σ H fun x H1 => match x with
 | .ref a => (match H1 a with
  | some (.ins C dx fs) => Cls K C /\ a4p K C f /\ (match fs.lookup f with
   | some v => tv σ H1 fun y H2 => rd v y H2 fun z H3 => (match H3 a with
    | some (.ins C' dx' fs') => C' = C /\ fs'.length < 1000 /\ Wr H3 a (.ins C dx' (b3q f z fs')) (D.nx σ) ⟨⟩
    | _ => False)
   | none => False)
  | _ => False)
 | _ => False
section
variable {X : Cx} {o e value : Expr} {f : Str} {pos pos' tpos : Pos} {ta tv : TE}
end
noncomputable def rInF (g : Int -> Int -> Int) : V -> V -> Hp -> VK -> Prop := fun x y H Q => match x, y with
 | .int i, .int j => Q (.int (g i j)) H
 | _, _ => False
noncomputable def f3o (i : Nat) (te : TE) (ti : TIp) : TS := fun D σ H => match σ[i]? with
 | some (some x) => te σ H fun y H1 => ti x y H1 fun z H2 => D.nx (σ.set i (some z)) H2
 | _ => False
section
variable {X : Cx} {pos : Pos}
end
theorem lookup_same {f : Str} {v : V} {r : List (Str × V)} : List.lookup f ((f, v) :: r) = some v := by rw [List.lookup_cons, beq_self_eq_true]
theorem c6p {f : Str} {v x : V} {r : List (Str × V)} : b3q f v ((f, x) :: r) = (f, v) :: r := by rw [b3q, if_pos rfl]
theorem c9k {f : Str} {v : V} : b3q f v [] = [(f, v)] := rfl
theorem b8p {f g : Str} {v : V} {r : List (Str × V)} (h : (f == g) = false) : List.lookup f ((g, v) :: r) = r.lookup f := by rw [List.lookup_cons, h]
theorem c3i {f g : Str} {v x : V} {r : List (Str × V)} (h : (f == g) = false) : b3q f v ((g, x) :: r) = (g, x) :: b3q f v r := by rw [b3q, if_neg fun e => by rw [e, beq_self_eq_true] at h; exact Bool.noConfusion h]
theorem f3p {X : Cx} : X.nox.K = X.K := rfl
end L2
namespace L2
open PySem PySem.Spec PyProof.Rows
structure b1m (k : Nat) (A : Around) : Prop where
 dp : A.depth + 3 * k + 5 < recursionLimit
 un : A.units + 16 * k + 200 < cLine
theorem a5u.h {k : Nat} {A : Around} (r : a5u k A) : b1m k A := ⟨r.dp, r.un⟩
theorem b1m.mono {j k : Nat} {A : Around} (r : b1m k A) (h : j <= k) : b1m j A := ⟨by have := r.dp; omega, by have := r.un; omega⟩
theorem b1m.deeper {k : Nat} {A : Around} (r : b1m (k + 1) A) (env : Env) : b1m k (A.deeper env) :=
 ⟨by have := r.dp; show A.depth + 1 + 3 * k + 5 < _; omega, by have := r.un; show A.units + 3 + 16 * k + 200 < _; omega⟩
theorem b1m.units {k : Nat} {A : Around} (r : b1m k A) : A.units + 64 < cLine := by have := r.un; omega
theorem b1m.calm {k : Nat} {A : Around} (r : b1m k A) : a5u k { A with handled := none } := ⟨rfl, r.dp, r.un⟩
structure d9g (P : Program) (w : World) (K : PySem.W.Frag) (mg : Str -> Option Value) (base : Heap) (k : Nat) (f : Addr) (fd : FuncData) (ps : List Str) (sp : Sp) : Prop where
 len : ∀ vs H Q E, sp vs H Q E -> vs.length = ps.length
 run : ∀ (A : Around) (outer : List Env) (s : Shared) (H : Hp) (args : Args) (us : List Value) (vs : List V) (Q : VK) (E : XK), b1m k A -> c4v P w K mg base A outer s H -> BindsTo s fd args (ps.zip us) -> Vals vs us -> sp vs H Q E ->
  codeAny (model P w) A (.call (.ref f) args) (CR CX0 outer P w H s Q E) s
theorem d9g.ok {P : Program} {w : World} {K : PySem.W.Frag} {mg : Str -> Option Value} {base : Heap} {k : Nat} {f : Addr} {fd : FuncData} {ps : List Str} {sp : Sp} (F : d9g P w K mg base k f fd ps sp) : a4n P w K mg base CX0 k f fd ps sp :=
 ⟨F.len, fun A outer s H args us vs Q E hr => F.run A outer s H args us vs Q E hr.h⟩
noncomputable abbrev cxOfH (P : Program) (w : World) (K : PySem.W.Frag) (mg : Str -> Option Value) (base : Heap) (N : List Str) (qual : Str) (scope : Scope) (f : Addr) (cd : Value) (A : Around) (outer : List Env) (s : Shared) (H : Hp) (E : XK) : Cx := { d0l CX0 P w K mg base N qual scope f cd A outer s H E with calm := false, xe := fun _ _ => False }
section
variable {X : Cx} {k : Nat} {f : Addr} {fd : FuncData} {ps : List Str} {sp : Sp} {dvs : List V} {ds : List Value} {x : Str} {p pos : Pos} {e : Expr} {es : List Expr} {t : TA}
end
theorem b1m.mark {k : Nat} {A : Around} (r : b1m k A) (h : Option Value) : b1m k (A.mark h) := ⟨r.dp, r.un⟩
end L2
namespace L2
open PySem PySem.Spec PyProof.Rows
open PySem.Builtin.Str (occurrences subAt partsBetween strSub)
noncomputable abbrev sg (x : Str) : List Nat := x.cps.toList
theorem d1i {x y : Str} (h : sg x = sg y) : x = y := Str.ext' (by
 have := congrArg List.toArray h
 simpa using this)
theorem a5s (x y : Str) : sg (x ++ y) = sg x ++ sg y := by unfold sg; rw [Str.cps_append]; simp
theorem d9h (x : Str) : (sg x).length = x.length := by simp [Str.length]
open PySem.NumText (AllDigits digitsVal digitsVal_snoc)
noncomputable def dg (n : Nat) : List Nat := (Nat.toDigits 10 n).map Char.toNat
theorem d3m {n : Nat} (h : n < 10) : dg n = [n + 48] := by
 have : ∀ d, d < 10 -> dg d = [d + 48] := by decide
 exact this n h
theorem c6q {m c : Nat} (hm : 0 < m) (hc : c < 10) : dg (10 * m + c) = dg m ++ [c + 48] := by
 have t : Nat.toDigits 10 m ++ Nat.toDigits 10 c = Nat.toDigits 10 (10 * m + c) := Nat.toDigits_append_toDigits (by decide) hm hc
 unfold dg
 rw [<- t, List.map_append]
 have := d3m hc
 unfold dg at this
 rw [this]
theorem d1j (n : Nat) : AllDigits (dg n) := by
 induction n using Nat.strongRecOn with
 | _ n ih =>
  by_cases h : n < 10
  ·rw [d3m h]
   intro c hc
   simp at hc
   omega
  ·have e : n = 10 * (n / 10) + n % 10 := by omega
   rw [e, c6q (by omega) (by omega)]
   intro c hc
   rcases List.mem_append.mp hc with q | q
   ·exact ih (n / 10) (by omega) c q
   ·simp at q
    omega
noncomputable def Canon (ds : List Nat) : Prop := AllDigits ds /\ ds ≠ [] /\ ∀ r, ds = 48 :: r -> r = []
noncomputable def txt (t : Int) : List Nat := if t < 0 then 45 :: dg t.natAbs else dg t.natAbs
theorem b8q (t : Int) : sg (Str.ofString (toString t)) = txt t := by
 unfold txt
 match t with
 | .ofNat m => exact PySem.W.KIN.signs_num m
 | .negSucc m =>
  rw [if_pos (Int.negSucc_lt_zero m)]
  unfold sg
  rw [signs_ofString]
  show (("-" ++ Nat.repr (m + 1)).toList.map Char.toNat) = _
  rw [String.toList_append, List.map_append, Nat.toList_repr]
  rfl
theorem d9i (n : Nat) : (dg n).length <= n.log2 + 1 := by
 induction n using Nat.strongRecOn with
 | _ n ih =>
  by_cases h : n < 10
  ·rw [d3m h]; simp
  ·have e : n = 10 * (n / 10) + n % 10 := by omega
   have i := ih (n / 10) (by omega)
   have k : (n / 10).log2 + 1 <= n.log2 := by
    rw [Nat.le_log2 (by omega), Nat.pow_succ]
    have := Nat.log2_self_le (n := n / 10) (by omega)
    omega
   have z := c6q (m := n / 10) (c := n % 10) (by omega) (by omega)
   rw [<- e] at z
   rw [z]
   rw [List.length_append]
   simp only [List.length_cons, List.length_nil]
   omega
theorem d3n (t : Int) : (txt t).length <= t.natAbs.log2 + 2 := by
 have := d9i t.natAbs
 unfold txt
 split
 ·rw [List.length_cons]; omega
 ·omega
noncomputable def f1l (t b : Int) : List Nat := txt t ++ 47 :: txt b
structure Good (x : List Nat) (t b : Int) : Prop where
 eq : x = f1l t b
 pos : 0 < b
 low : Int.gcd t b = 1
 l1 : (dg t.natAbs).length <= 9
 l2 : (dg b.natAbs).length <= 9
noncomputable def figs (l : List Nat) : Bool := l.all (fun c => decide (48 <= c) && decide (c <= 57)) && !l.isEmpty
theorem c1w {t : Int} {c : Nat} (h1 : c ≠ 45) (h2 : c < 48 \/ 57 < c) : c ∉ txt t := by
 unfold txt
 intro h
 split at h
 ·rcases List.mem_cons.mp h with q | q
  ·exact h1 q
  ·have := d1j _ c q; omega
 ·have := d1j _ c h; omega
end L2
namespace L2
open PySem PySem.Spec PyProof.Rows
section
variable {X : Cx}
noncomputable def f3q (K : PySem.W.Frag) : List V -> Hp -> VK -> Prop := fun xs H Q => match xs with
 | [.ref p] => (match H p with
  | some (.lst ys) => New H (.tup ys) Q ⟨⟩
  | some (.tup ys) => Q (.ref p) H
  | _ => False)
 | _ => False
end
section
variable {X : Cx}
structure InsQ (K : PySem.W.Frag) (C : Addr) : Prop where
 ha : PySem.W.findIn K (.ref C) "__class__" = some (some (.builtin "object.__class__"))
 hn : PySem.W.specialIn K (.builtin "object.__class__") "__get__" = some (some (.builtin "getset_descriptor.__get__"))
 htk : PySem.W.takesIn K (.builtin "object.__class__") = some true
 hm : PySem.W.mroIn K C (.type "object") = some true
noncomputable def rIsI (K : PySem.W.Frag) : List V -> Hp -> VK -> Prop := fun xs H Q => match xs with
 | [.ref a, .ref D] => (match H a with
  | some (.ins C dx fs) => Cls K C /\ InsQ K C /\ (match PySem.W.kitOne K (.ref C) (.ref D) with
   | some b => Q (.bl b) H
   | none => False)
  | _ => False)
 | _ => False
end
section
variable {X : Cx} {pos : Pos}
noncomputable def d3o : List V -> Hp -> VK -> Prop := fun xs H Q => match xs with
 | [.int i, .int j] => (0 < j /\ j < 1073741824) /\ New H (.tup [.int (i / j), .int (i % j)]) Q ⟨⟩
 | _ => False
noncomputable def d3p : TGs := fun vs σ H Q => match vs with
 | [] => Q σ H
 | _ => False
noncomputable def c6r (t : TG) (u : TGs) : TGs := fun vs σ H Q => match vs with
 | v :: r => t v σ H fun σ' H' => u r σ' H' Q
 | _ => False
noncomputable def d3q (n : Nat) (t : TGs) : TG := fun v σ H Q => match v with
 | .ref a => (match H a with
  | some (.tup xs) => xs.length = n /\ t xs σ H Q
  | _ => False)
 | _ => False
theorem c9l : PGs X [] d3p := by
 intro pins s σ H vs us Q I r h
 refine c4i pins s σ H vs us Q I r ?_
 unfold d3p at h
 split at h
 ·exact ⟨rfl, h⟩
 ·exact h.elim
theorem b8r {e : Expr} {es : List Expr} {t : TG} {u : TGs} (h1 : PG X e t) (h2 : PGs X es u)
  (hs : (assignEach (e :: es) X.env).map (·.2) = assign e X.env :: (assignEach es X.env).map (·.2) := by rfl) : PGs X (e :: es) (c6r t u) := by
 intro pins s σ H vs us Q I r h
 refine b6i h1 h2 hs pins s σ H vs us Q I r ?_
 unfold c6r at h
 split at h
 ·exact ⟨_, _, rfl, h⟩
 ·exact h.elim
theorem d3r {es : List Expr} {k : Nat} {t : TGs} {n : Nat} (hc : X.calm = true) (h : PGs X es t)
  (hn : (assignEach es X.env).length = n := by rfl) (hst : (assignEach es X.env).findIdx? (·.1) = none := by rfl) : PG X (.Tuple es k pos) (d3q n t) := by
 intro pins s σ H v u Q I r hw
 refine d0j hc h hn hst pins s σ H v u Q I r ?_
 unfold d3q at hw
 cases v with
 | ref a =>
  dsimp only at hw
  split at hw
  ·rename_i xs e
   exact ⟨a, xs, rfl, SqT.of e, hw.1, hw.2⟩
  ·exact hw.elim
 | _ => exact False.elim hw
end
end L2
namespace L2
open PySem PySem.Spec PyProof.Rows
noncomputable def c1y (J : It) (tc : TT) (te : TE) (D : Addr) (σ : St) (H : Hp) (Q : VK) (_ : Tag Q) : Prop := ∃ (n : Nat) (W : Nat -> List V -> Hp -> Prop), W 0 [] H /\ ∀ i ys H, i <= n -> W i ys H -> H D = some (.lst ys) /\
 ((J.stop i H /\ Q (.ref D) H) \/ (i < n /\ J.go i H /\ ys.length < sizeLine /\ ∀ x H', J.yld i H x H' -> tc (some x :: σ) H' fun b H1 =>
  if b = true then te (some x :: σ) H1 fun y H2 => H2 D = some (.lst ys) /\ ∀ H3, a1q D H2 H3 -> H3 D = some (.lst (ys ++ [y])) -> W (i + 1) (ys ++ [y]) H3
  else W (i + 1) ys H1))
noncomputable def d1k (wi : TI) (tc : TT) (te : TE) : TE := fun σ H Q => wi σ H fun J H1 => ∀ D H2, H1 D = none -> Same H1 H2 -> H2 D = some (.lst []) -> c1y J tc te D σ H2 Q ⟨⟩
section
variable {X : Cx} {scope : Scope} {x : Str} {pins : List (Addr × Obj)} {σ : St} {elt iter cnd : Expr} {px pos : Pos} {wi : TI} {te : TE} {tc : TT}
theorem c0r {s₂ : Shared} {H1 : Hp} {it : Addr} {fp : List Addr} {tn : Nat -> Heap -> Prop} {J : It} {Q : VK} {RR : Value -> Addr -> Result -> Shared -> Prop} {E : Value -> Shared -> Prop} {cl : List (Str × Addr)}
  (S : a6m X scope x) (hc : X.calm = true) (hcnd : ∀ cl C s₃ H₃ fp, PT (a2s X scope cl C s₃ H₃ fp x) cnd tc) (he : ∀ cl C s₃ H₃ fp, PE (a2s X scope cl C s₃ H₃ fp x) elt te)
  (hcl : ∀ y c, cl.lookup y = some c -> (y, NameKind.free) ∈ scope.names /\ X.env.cells.lookup y = some c) (hcl2 : ∀ y, (y, NameKind.free) ∈ scope.names -> cl.lookup y = X.env.cells.lookup y)
  (I2 : Inv X pins σ H1 s₂) (T : Turn X.prog X.w X.K (.Name x px) J fp it tn) (st2 : tn 0 s₂.heap) (f2 : ∀ b ∈ fp, b5j X pins H1 b) (h : ∀ D H2, H1 D = none -> Same H1 H2 -> H2 D = some (.lst []) -> c1y J tc te D σ H2 Q ⟨⟩)
  (hRR : ∀ (D C : Addr) (s' : Shared) (H' : Hp), (∃ m, s'.heap.Ns C m) -> (∀ h' , Heap.SameBut C s'.heap h' -> Inv X pins σ H' { s' with heap := h' }) -> b5j X pins H' C -> Q (.ref D) H' -> RR (.ref D) C (.ok .next) s') :
  wpAny (model X.prog X.w) X.A (newList []) (fun acc s₃ => wpAny (model X.prog X.w) X.A (newFunctionEnv scope X.env.globals cl [] X.env.qual none .none (some X.env)) (fun cenv s₄ =>
   codeAny (model X.prog X.w) X.A (.compStart (.ListComp elt [⟨.Name x px, iter, [cnd], 0⟩] scope pos) 0 (.ref it) acc { cenv with scope := relabel scope X.env }) (RR acc cenv.locals) s₄) E s₃) E s₂ := by
 have hfr : H1 s₂.heap.objs.size = none := I2.hok.fresh (Nat.le_refl _)
 have hCW := h s₂.heap.objs.size _ hfr (Same.upd hfr) a0z
 refine wpAny_newObj_type ?_
 have I3 : Inv X pins σ (upd H1 s₂.heap.objs.size (.lst [])) { s₂ with heap := s₂.heap.push { cls := .type "list", data := .seq ([] : List Value).toArray }, toks := s₂.toks } :=
  I2.laid (t' := s₂.toks) (fun b u e => Heap.get?_push_of_some _ e) (Nat.le_refl _) ⟨Nat.zero_le _, [], 0, .nil, Heap.get?_push_size _ rfl⟩
 have nD : ∀ b ∈ fp, b ≠ s₂.heap.objs.size := fun b hb => by
  obtain ⟨o, e, _⟩ := T.obj 0 _ st2 b hb
  exact Nat.ne_of_lt (Heap.lt_size e)
 have f3 : ∀ b ∈ fp, b5j X pins (upd H1 s₂.heap.objs.size (.lst [])) b := fun b hb => ⟨by rw [a1g (nD b hb)]; exact (f2 b hb).1, (f2 b hb).2⟩
 generalize hH3 : upd H1 s₂.heap.objs.size (.lst []) = H3 at *
 have st3 : tn 0 (s₂.heap.push { cls := .type "list", data := .seq ([] : List Value).toArray }) := T.keep _ _ _ st2 fun b _ o e => Heap.get?_push_of_some _ e
 have c6i : ∀ b ∈ fp, b < (s₂.heap.push { cls := .type "list", data := .seq ([] : List Value).toArray }).objs.size := fun b hb => by
  obtain ⟨o, e, _⟩ := T.obj 0 _ st3 b hb
  exact Heap.lt_size e
 show wpAny (model X.prog X.w) X.A (newFunctionEnv scope X.env.globals cl [] X.env.qual none .none (some X.env)) _ E { s₂ with heap := s₂.heap.push { cls := .type "list", data := .seq ([] : List Value).toArray }, toks := s₂.toks }
 generalize hs3 : ({ s₂ with heap := s₂.heap.push { cls := .type "list", data := .seq ([] : List Value).toArray }, toks := s₂.toks } : Shared) = s₃ at *
 have eh : s₃.heap = s₂.heap.push { cls := .type "list", data := .seq ([] : List Value).toArray } := by rw [← hs3]
 rw [<- eh] at st3 c6i
 generalize s₂.heap.objs.size = D at *
 refine wpAny_newFunctionEnv S.b3m (by intro y hy; simp at hy) (fun h₁ hns₁ hsb₁ => ?_) S.kind
 have hk1 : ∀ b o, s₃.heap.get? b = some o -> h₁.get? b = some o := fun b o e => hsb₁.extBut b o (Nat.ne_of_lt (Heap.lt_size e)) (Heap.get?_push_of_some _ e)
 have J0 : Inv (a2s X scope cl s₃.heap.objs.size s₃ H3 fp x) [] (none :: σ) H3 { s₃ with heap := h₁, toks := s₃.toks + ([] : List (Str × Value)).length } := I3.comp S hcl hcl2 f3 c6i hns₁ hk1 rfl rfl
 obtain ⟨n0, W, w0, turn⟩ := hCW
 have loop : codeAny (model X.prog X.w) X.A (.compLoop (.ListComp elt [⟨.Name x px, iter, [cnd], 0⟩] scope pos) 0 (.ref it) (.ref D) (compEnvC scope cl s₃.heap.objs.size X.env)) (RR (.ref D) s₃.heap.objs.size) { s₃ with heap := h₁, toks := s₃.toks + ([] : List (Str × Value)).length } := by
  refine codeAny_loop rfl (fun n s' => ∃ i ys o H', Inv (a2s X scope cl s₃.heap.objs.size s₃ H3 fp x) [] (o :: σ) H' s' /\ tn i s'.heap /\ (∀ b ∈ fp, H' b = none) /\ W i ys H' /\ i <= n0 /\ n = n0 - i) (fun n s5 hI => ?_) n0
   ⟨0, [], none, H3, J0, T.keep _ _ _ st3 (fun b _ o e => hk1 b o e), fun b hb => (f3 b hb).1, w0, Nat.zero_le _, rfl⟩
  obtain ⟨i, ys, o5, H5, I5, st5, fr5, w5, hin, hnn⟩ := hI
  have stat : ∀ {H' : Hp}, (∀ b ∈ fp, H' b = none) -> ∀ b ∈ fp, b5j (a2s X scope cl s₃.heap.objs.size s₃ H3 fp x) [] H' b := fun hn b hb =>
   ⟨hn b hb, Nat.ne_of_lt (c6i b hb), fun z => (List.mem_cons.mp (I3.b3y b z)).elim (fun q => (f3 b hb).2.1 q) fun q => (f3 b hb).2.2.1 q, .inl hb, fun y c e => (f3 b hb).2.2.2.2.1 y c (hcl y c e).2, fun p hp => absurd (show p ∈ ([] : List (Addr × Obj)) from hp) (by simp)⟩
  show wpAny _ X.A ((compTurn (.ListComp elt [⟨.Name x px, iter, [cnd], 0⟩] scope pos) 0 (.ref it) (.ref D) (compEnvC scope cl s₃.heap.objs.size X.env)).onRaise (fun x => do noteFrame x (compEnvC scope cl s₃.heap.objs.size X.env); theTreesLotGoes x)) _ _ s5
  refine wpAny_noted ?_
  rw [compTurn_list]
  refine wpAny_bind (wpAny_standAt (wpAny_bind ?_))
  obtain ⟨hD5, alt⟩ := turn i ys H5 hin w5
  rcases alt with ⟨stop, q⟩ | ⟨hlt, go, hsz, step⟩
  ·refine wpAny_mono (T.done (a2s X scope cl s₃.heap.objs.size s₃ H3 fp x) rfl rfl rfl hc i [] s5 _ H5 _ I5 (stat fr5) st5 stop) (fun r s6 ⟨hr, I6⟩ => ?_) fun _ _ z => z
   subst hr
   refine wpAny_pure ?_
   obtain ⟨m6, hn6, _⟩ := I6.loc
   exact hRR D s₃.heap.objs.size s6 H5 ⟨m6, hn6⟩ (fun h' hs' => I3.d0z f3 I6 hs') (I3.d4y (Nat.le_refl _) I6.free) q
  ·refine wpAny_mono (T.item (a2s X scope cl s₃.heap.objs.size s₃ H3 fp x) rfl rfl rfl hc i [] s5 _ H5 _ I5 (stat fr5) st5 go) (fun r s6 ⟨u, hr, h6⟩ => ?_) fun _ _ z => z
   subst hr
   refine wpAny_bind (wpAny_mono h6 (fun _ s7 ⟨v, H7, I7, r7, y7, st7, fr7⟩ => ?_) fun _ _ z => z)
   have I7' := I7.pinned (stat fr7) (T.obj _ _ st7)
   have G := a3u (X := a2s X scope cl s₃.heap.objs.size s₃ H3 fp x) (pos := px) (i := 0) (x := x) S.nd rfl (.inl (lookup_relabel_local S.own)) (.inr (lookup_relabel_local S.own))
   refine wpAny_bind (wpAny_mono (G _ s7 _ H7 v u (fun σ' H' => σ' = some v :: σ /\ H' = H7) I7' r7 ⟨rfl, rfl⟩) (fun _ s8 hs8 => ?_) fun _ _ z => False.elim z)
   obtain ⟨σ8, H8, I8, rfl, rfl⟩ := hs8
   refine wpAny_bind (wpAny_mono (wpAny_tests_one (hcnd cl s₃.heap.objs.size s₃ H3 fp _ s8 _ _ _ I8 (step v H8 y7))) (fun ok sB hok => ?_) fun _ _ z => False.elim z)
   obtain ⟨HB, IB, qB⟩ := hok
   cases ok with
   | false =>
    have wB : W (i + 1) ys HB := by simpa using qB
    refine wpAny_pure ⟨rfl, n0 - (i + 1), by omega, i + 1, ys, some v, _, IB.a6z (pins := []) (pl := b2g fp s7.heap), T.keep _ _ _ st7 (fun b hb o e => (IB.pin (b, o) (List.mem_append_right _ (a1p hb e))).1), fun b hb => ?_, wB, hlt, rfl⟩
    obtain ⟨o, e, d⟩ := T.obj _ _ st7 b hb
    exact (IB.pin (b, o) (List.mem_append_right _ (a1p hb e))).2.1
   | true =>
   rw [if_pos rfl] at qB
   refine wpAny_bind (wpAny_bind (wpAny_mono (he cl s₃.heap.objs.size s₃ H3 fp _ sB _ _ _ IB qB) (fun yv s9 hs9 => ?_) fun _ _ z => False.elim z))
   obtain ⟨y, H9, I9, r9, hD9, k9⟩ := hs9
   refine wpAny_bind (wpAny_mono (b2j (X := a2s X scope cl s₃.heap.objs.size s₃ H3 fp x) _ s9 _ H9 (.ref D) [y] (.ref D) [yv] (fun _ H' => H' = upd H9 D (.lst (ys ++ [y]))) I9 rfl (.cons r9 .nil) ⟨D, ys, y, rfl, rfl, hD9, hsz, rfl⟩) (fun _ sA hsA => ?_) fun _ _ z => False.elim z)
   obtain ⟨_, HA, IA, _, rfl⟩ := hsA
   refine wpAny_pure ?_
   have wA := k9 _ a1q.upd a0z
   refine wpAny_pure ⟨rfl, n0 - (i + 1), by omega, i + 1, ys ++ [y], some v, _, IA.a6z (pins := []) (pl := b2g fp s7.heap), T.keep _ _ _ st7 (fun b hb o e => (IA.pin (b, o) (List.mem_append_right _ (List.mem_append_right _ (a1p hb e)))).1), fun b hb => ?_, wA, hlt, rfl⟩
   obtain ⟨o, e, d⟩ := T.obj _ _ st7 b hb
   exact (IA.pin (b, o) (List.mem_append_right _ (List.mem_append_right _ (a1p hb e)))).2.1
 exact codeAny_compStart_list loop (T.self _ 0 _ _ _ (T.keep _ _ _ st3 fun b _ o e => hk1 b o e) loop)
theorem c1z (hi : PI X (.Name x px) iter wi) (hcnd : ∀ cl C s₃ H₃ fp, PT (a2s X scope cl C s₃ H₃ fp x) cnd tc) (he : ∀ cl C s₃ H₃ fp, PE (a2s X scope cl C s₃ H₃ fp x) elt te) (S : a6m X scope x) (hc : X.calm = true)
  (hs : ∀ x, foldedSetIterable iter X.env x = pure x := by intro _; rfl) : PE X (.ListComp elt [⟨.Name x px, iter, [cnd], 0⟩] scope pos) (d1k wi tc te) := by
 intro pins s σ H Q I h
 obtain ⟨cl, hclos, hcl, hcl2⟩ := b0o (env := X.env) (sc := scope) fun y hy => I.ok.has y (S.free _ hy rfl)
 rw [eval_ListComp]
 refine wpAny_comprehension_free (use := none) rfl hs hclos S.kind S.loc ?_
 refine thn (hi pins s σ H _ I h) fun v s1 h1 => thn h1 fun itv s2 h2 => ?_
 obtain ⟨it, fp, tn, J, H2, e, I2, T, st2, f2, hW⟩ := h2
 subst e
 exact c0r (RR := fun acc C => compPost (model X.prog X.w) X.A X.xe none (EP X pins σ Q) acc C) S hc hcnd he hcl hcl2 I2 T st2 f2 hW fun D C s' H' hm hI _ hq =>
  hm.elim fun m hn => ⟨m, hn, fun h' hs' => ⟨.ref D, H', hI h' hs', rfl, hq⟩⟩
end
theorem b6q {K : PySem.W.Frag} {a D : Addr} {xs : List V} {tc : TT} {te : TE} {σ : St} {H0 H : Hp} {Q : VK} (p : V -> Bool) (g : V -> V) (n0 : H0 D = none) (S : Same H0 H) (hD : H D = some (.lst [])) (hS : SqL K H0 a xs) (hsz : xs.length <= sizeLine)
  (hc : ∀ (i : Nat) x H' (Q' : Bool -> Hp -> Prop), xs[i]? = some x -> Same H0 H' -> Q' (p x) H' -> tc (some x :: σ) H' Q')
  (he : ∀ (i : Nat) x H' (Q' : VK), xs[i]? = some x -> p x = true -> Same H0 H' -> Q' (g x) H' -> te (some x :: σ) H' Q')
  (q : ∀ H', Same H0 H' -> H' D = some (.lst ((xs.filter p).map g)) -> Q (.ref D) H') : c1y (Itl K a) tc te D σ H Q ⟨⟩ := by
 refine ⟨xs.length, fun i ys H' => Same H0 H' /\ H' D = some (.lst ys) /\ ys = ((xs.take i).filter p).map g, ⟨S, hD, by simp⟩, fun i ys H' hi w => ?_⟩
 obtain ⟨S', h', e⟩ := w
 refine ⟨h', ?_⟩
 have e2 : SqL K H' a xs := S'.seq hS
 by_cases hlt : i < xs.length
 ·have hyl : ys.length <= i := by
   rw [e, List.length_map]
   exact Nat.le_trans (List.length_filter_le _ _) (by rw [List.length_take]; omega)
  refine .inr ⟨hlt, ⟨xs, xs[i], e2, by simp [hlt]⟩, by omega, fun x H2 y => ?_⟩
  obtain ⟨e', y⟩ := y
  subst e'
  have hx := y xs e2
  have et : xs.take (i + 1) = xs.take i ++ [x] := by rw [List.take_add_one, hx]; rfl
  refine hc i x _ _ hx S' ?_
  cases hp : p x with
  | true =>
   rw [if_pos rfl]
   refine he i x _ _ hx hp S' ⟨h', fun H3 s3 h3 => ⟨S'.step n0 s3, h3, ?_⟩⟩
   rw [et, List.filter_append, List.map_append, <- e, List.filter_cons, if_pos hp]
   rfl
  | false =>
   rw [if_neg Bool.false_ne_true]
   refine ⟨S', h', ?_⟩
   rw [et, List.filter_append, List.map_append, <- e, List.filter_cons, if_neg (by rw [hp]; exact Bool.false_ne_true)]
   simp
 ·have ei : i = xs.length := by omega
  subst ei
  refine .inl ⟨⟨xs, e2, Nat.le_refl _⟩, q H' S' ?_⟩
  rw [h', e, List.take_length]
section
variable {X : Cx} {k : Nat} {f C : Addr} {fd : FuncData} {ps : List Str} {sp : Sp} {dvs : List V} {ds : List Value} {E : XK} {x m : Str} {p pos apos : Pos} {e o : Expr} {es : List Expr} {ta : TE} {t : TA}
end
end L2
namespace L2
open PySem PySem.Spec PyProof.Rows
noncomputable def f6m : V -> Option Int -> Hp -> VK -> Prop := fun x st H Q => match x with
 | .ref a => (match H a with
  | some (.lst xs) => st ≠ some 0 /\ ∀ ys : List V, ys.length <= xs.length -> (∀ y ∈ ys, y ∈ xs) -> New H (.lst ys) Q ⟨⟩
  | _ => False)
 | _ => False
noncomputable def tSl3 (te : TE) (tl th ts : TO) : TE := fun σ H Q => te σ H fun x H1 => tl σ H1 fun _ H2 => th σ H2 fun _ H3 => ts σ H3 fun st H4 => f6m x st H4 Q
section
variable {X : Cx}
noncomputable def f6n (lo : Int) (n : Nat) : List V := (List.range n).map fun i : Nat => V.int (lo + (i : Int))
noncomputable def f6o (ta : TA) : TE := fun σ H Q => ta σ H fun vs H1 => match vs with
 | [.int j] => (-1000000 <= j /\ j <= 1000000) /\ New H1 (.lst (f6n 0 j.toNat)) Q ⟨⟩
 | _ => False
noncomputable def f6p (ta : TA) : TE := fun σ H Q => ta σ H fun vs H1 => match vs with
 | [.int i, .int j] => (-1000000 <= i /\ i <= 1000000 /\ -1000000 <= j /\ j <= 1000000) /\ New H1 (.lst (f6n i (j - i).toNat)) Q ⟨⟩
 | _ => False
end
noncomputable def tLRev (ta : TE) : TE := fun σ H Q => ta σ H fun x H1 => match x with
 | .ref a => (match H1 a with
  | some (.lst xs) => New H1 (.lst xs.reverse) Q ⟨⟩
  | _ => False)
 | _ => False
noncomputable def maxD (d : Int) : List Int -> Int
 | [] => d
 | n :: ns => ns.foldl max n
section
variable {prog : Program} {w : World} {A : Around} {E : Value -> Shared -> Prop} {s : Shared}
end
noncomputable def f3r : List V -> List V -> Hp -> VK -> Prop := fun vs zs H Q => match vs, zs with
 | [.ref p], [.int d] => (match H p with
  | some (.lst xs) => ∃ ns : List Int, xs = ns.map V.int /\ Q (.int (maxD d ns)) H
  | _ => False)
 | _, _ => False
noncomputable def tMaxD (t tk : TA) : TE := fun σ H Q => t σ H fun vs H1 => tk σ H1 fun zs H2 => f3r vs zs H2 Q
noncomputable def f3s : V -> V -> V -> Hp -> (Hp -> Prop) -> Prop := fun o i v H Q => match o, i with
 | .ref p, .int k => (match H p with
  | some (.lst xs) => (0 <= k /\ k < xs.length) /\ ∀ H1, a1q p H H1 -> H1 p = some (.lst (xs.set k.toNat v)) -> Q H1
  | _ => False)
 | _, _ => False
end L2
namespace L2
open PySem PySem.Spec PyProof.Rows
section
variable {X : Cx} {pins : List (Addr × Obj)} {σ : St} {H : Hp} {s : Shared}
end
noncomputable def ItB (b : Bool) (h : Heap) (it l : Addr) (i : Nat) : Prop := ∃ o, h.get? it = some o ∧ o.cls = .type (cond b "list_iterator" "tuple_iterator") ∧ o.data = .fields #[.ref l, .int i 0]
noncomputable def SqB (b : Bool) (h : Heap) (l : Addr) (items : Array Value) : Prop := ∃ o, h.get? l = some o ∧ o.cls = .type (cond b "list" "tuple") ∧ ∃ n, o.data = .seq items n
theorem ItB.at {b : Bool} {h h' : Heap} {it l : Addr} {i : Nat} (x : ItB b h it l i) (k : ∀ o, h.get? it = some o -> h'.get? it = some o) : ItB b h' it l i := let ⟨o, e, r⟩ := x; ⟨o, k o e, r⟩
theorem SqB.at {b : Bool} {h h' : Heap} {l : Addr} {items : Array Value} (x : SqB b h l items) (k : ∀ o, h.get? l = some o -> h'.get? l = some o) : SqB b h' l items := let ⟨o, e, r⟩ := x; ⟨o, k o e, r⟩
section
variable {prog : Program} {w : World} {A : Around} {E : Value -> Shared -> Prop} {s : Shared}
noncomputable def itO (b : Bool) (l : Addr) : Obj := { cls := .type (cond b "list_iterator" "tuple_iterator"), data := .fields #[.ref l, .int 0 0] }
noncomputable abbrev zB1 (b1 : Bool) (h : Heap) (l1 : Addr) : Heap := h.push (itO b1 l1)
noncomputable abbrev zB2 (b1 b2 : Bool) (h : Heap) (l1 l2 : Addr) : Heap := (zB1 b1 h l1).push (itO b2 l2)
noncomputable abbrev zB3 (b1 b2 : Bool) (h : Heap) (l1 l2 : Addr) : Heap := (zB2 b1 b2 h l1 l2).push { cls := .type "tuple", data := .seq #[.ref h.objs.size, .ref (zB1 b1 h l1).objs.size] }
noncomputable abbrev zB4 (b1 b2 : Bool) (h : Heap) (l1 l2 : Addr) : Heap := (zB3 b1 b2 h l1 l2).push { cls := .type "tuple", data := .seq #[.none, .none] }
noncomputable abbrev zB5 (b1 b2 : Bool) (h : Heap) (l1 l2 : Addr) : Heap := (zB4 b1 b2 h l1 l2).push { cls := .type "zip", data := .fields #[.none, .bool false, .bool false, .ref (zB2 b1 b2 h l1 l2).objs.size, .ref (zB3 b1 b2 h l1 l2).objs.size] }
end
noncomputable def SqK (b : Bool) (K : PySem.W.Frag) (H : Hp) (l : Addr) (xs : List V) : Prop := match b with
 | true => SqL K H l xs
 | false => SqT K H l xs
noncomputable def Itz (K : PySem.W.Frag) (b1 b2 : Bool) (l1 l2 : Addr) : It :=
 ⟨fun i H => ∃ xs ys x y, SqK b1 K H l1 xs /\ SqK b2 K H l2 ys /\ xs[i]? = some x /\ ys[i]? = some y,
  fun i H v H' => ∃ p x y, v = .ref p ∧ H p = none ∧ H' = upd H p (.tup [x, y]) ∧ (∀ xs, SqK b1 K H l1 xs → xs[i]? = some x) ∧ ∀ ys, SqK b2 K H l2 ys → ys[i]? = some y,
  fun i H => ∃ xs ys, SqK b1 K H l1 xs ∧ SqK b2 K H l2 ys ∧ (xs.length ≤ i ∨ ys.length ≤ i)⟩
noncomputable def iZipF (K : PySem.W.Frag) (ta : TA) : TI := fun σ H R => ta σ H fun vs H1 => match vs with
 | [.ref l1, .ref l2] => (match H1 l1, H1 l2 with
  | some (.lst _), some (.lst _) => R (Itz K true true l1 l2) H1
  | some (.lst _), some (.tup _) => R (Itz K true false l1 l2) H1
  | some (.tup _), some (.lst _) => R (Itz K false true l1 l2) H1
  | some (.tup _), some (.tup _) => R (Itz K false false l1 l2) H1
  | _, _ => False)
 | _ => False
end L2
namespace L2
open PySem PySem.Spec PyProof.Rows
noncomputable def a3q (X : Cx) (scope : Scope) (cl : List (Str × Addr)) (C : Addr) (s₃ : Shared) (H₃ : Hp) (fp : List Addr) (x y : Str) : Cx where
 prog := X.prog
 w := X.w
 K := X.K
 mg := X.mg
 base := X.base
 A := X.A
 N := x :: y :: X.N
 s₀ := s₃
 H₀ := H₃
 env := compEnvC scope cl C X.env
 outer := X.stack
 stack := X.stack
 ex := fp
 fn := fun _ => false
 calm := X.calm
 pn := []
 xe := fun _ _ => False
structure b0p (X : Cx) (scope : Scope) (x y : Str) : Prop where
 kind : scope.kind = .function
 b3m : ∀ y ∈ scope.names, y.2 ≠ .cell
 loc : ∀ y ∈ scope.names, y.2 = .local -> scope.names.lookup y.1 = some .local
 own : scope.names.lookup x = some .local
 f6q : scope.names.lookup y = some .local
 free : ∀ y ∈ scope.names, y.2 = .free -> X.env.kindOf y.1 = some .cell \/ X.env.kindOf y.1 = some .free
 nd : (x :: y :: X.N).Nodup
 vis : ∀ y ∈ X.N, scope.names.lookup y ≠ some .local
noncomputable def d9j (J : It) (te : TE) (D : Addr) (σ : St) (H : Hp) (Q : VK) (_ : Tag Q) : Prop := ∃ (n : Nat) (W : Nat -> List V -> Hp -> Prop), W 0 [] H /\ ∀ i ys H, i <= n -> W i ys H -> H D = some (.lst ys) /\
 ((J.stop i H /\ Q (.ref D) H) \/ (i < n /\ J.go i H /\ ys.length < sizeLine /\ ∀ x H', J.yld i H x H' -> ∃ p u v, x = .ref p /\ H' p = some (.tup [u, v]) /\ te (some u :: some v :: σ) H' fun y H2 => H2 D = some (.lst ys) /\
  ∀ H3, a1q D H2 H3 -> H3 D = some (.lst (ys ++ [y])) -> W (i + 1) (ys ++ [y]) H3))
noncomputable def f6r (wi : TI) (te : TE) : TE := fun σ H Q => wi σ H fun J H1 => ∀ D H2, H1 D = none -> Same H1 H2 -> H2 D = some (.lst []) -> d9j J te D σ H2 Q ⟨⟩
section
variable {X : Cx} {scope : Scope} {x y : Str} {cl : List (Str × Addr)} {pins : List (Addr × Obj)} {σ : St} {H : Hp} {s s₄ : Shared} {fp : List Addr}
theorem Inv.f3t (S : b0p X scope x y) (I : Inv X pins σ H s) (hcl : ∀ y c, cl.lookup y = some c -> (y, NameKind.free) ∈ scope.names /\ X.env.cells.lookup y = some c) (hcl2 : ∀ y, (y, NameKind.free) ∈ scope.names -> cl.lookup y = X.env.cells.lookup y)
  (hfp : ∀ b ∈ fp, b5j X pins H b) (hlt : ∀ b ∈ fp, b < s.heap.objs.size) {m : Str -> Option Value} (hns : s₄.heap.Ns s.heap.objs.size m) (hk : ∀ b o, s.heap.get? b = some o -> s₄.heap.get? b = some o) (hos : s₄.os = s.os) (hg : s₄.gens = s.gens) :
  Inv (a3q X scope cl s.heap.objs.size s H fp x y) [] (none :: none :: σ) H s₄ := by
 refine ⟨⟨I.ok.mod, ?_, I.ok.glob, I.ok.blt, Nat.le_refl _, fun y z c h1 h2 => I.ok.inj y z c (hcl y c h1).2 (hcl z c h2).2, fun y hy => ?_, (fun y c h => nomatch h), I.ok.hd, I.ok.frames, .inl rfl, fun b hb => ⟨Nat.ne_of_lt (hlt b hb), fun y c e => (hfp b hb).2.2.2.2.1 y c (hcl y c e).2⟩,
  fun b o e => I.bs b o e, Nat.le_trans I.ok.bsz I.sz, fun b o e hb => ?_, fun b hb hf => ?_, I.stack, I.b9v⟩,
  hos, by rw [hg]; exact I.bare, Un.kept hk, ⟨m, hns, fun i y v h1 h2 h3 => ?_⟩, fun y c e => ?_, I.hok.fresh (Nat.le_refl _), fun y c e => I.b1z y c (hcl y c e).2, fun p hp => absurd (show p ∈ ([] : List (Addr × Obj)) from hp) (by simp), I.hok.kept hk, by show (none :: none :: σ).length = (x :: y :: X.N).length; rw [List.length_cons, List.length_cons, List.length_cons, List.length_cons, I.len]⟩
 ·exact S.kind
 ·rcases a5o (env := X.env) (sc := scope) (x := y) hy with z | z
  ·obtain ⟨c, hc⟩ := I.ok.has y (S.free _ z rfl)
   exact ⟨c, (hcl2 y z).trans hc⟩
  ·exact absurd rfl (S.b3m _ z)
 ·rcases (hfp b hb).2.2.2.1 with z | z
  ·exact I.ok.d1y b o e z
  ·exact absurd (Nat.lt_of_lt_of_le (Heap.lt_size (I.ok.bs b o e).1) z) (Nat.lt_irrefl _)
 ·rcases List.mem_cons.mp (I.b3y b hf) with z | z
  ·exact (hfp b hb).2.1 z
  ·exact (hfp b hb).2.2.1 z
 ·match i, h1, h2 with
  | 0, h1, h2 => cases h2
  | 1, h1, h2 => cases h2
  | i + 2, h1, h2 =>
   have h1' : X.N[i]? = some y := by simpa [a3q] using h1
   have h2' : σ[i]? = some (some v) := by simpa using h2
   have hyN : y ∈ X.N := List.mem_of_getElem? h1'
   have hc : (relabel scope X.env).names.lookup y = some .cell \/ (relabel scope X.env).names.lookup y = some .free := by
    rcases h3 with z | z | z
    ·exfalso
     rcases a7w (env := X.env) scope.names _ z with q | ⟨q, _⟩
     ·exact S.vis y hyN q
     ·cases q
    ·exact .inl z
    ·exact .inr z
   have hfr : (y, NameKind.free) ∈ scope.names := by
    rcases a5o hc with z | z
    ·exact z
    ·exact absurd rfl (S.b3m _ z)
   obtain ⟨mX, hnX, hl⟩ := I.loc
   have hk2 := S.free _ hfr rfl
   have f3g : Vis X.env.scope y := by
    rcases hk2 with z | z
    ·exact .inr (.inl z)
    ·exact .inr (.inr z)
   obtain ⟨u, ru, lk⟩ := hl i y v h1' h2' f3g
   refine ⟨u, ru, .inr ⟨hc, ?_⟩⟩
   rcases lk with ⟨z, _⟩ | ⟨_, c, ec, o, ho, hd⟩
   ·rcases hk2 with q | q
    ·rw [q] at z; cases z
    ·rw [q] at z; cases z
   ·exact ⟨c, (hcl2 y hfr).trans ec, o, hk c o ho, hd⟩
 ·obtain ⟨v, o, ho, hd⟩ := I.cell y c (hcl y c e).2
  exact ⟨v, o, hk c o ho, hd⟩
theorem Inv.d3s {σ' : St} {H' : Hp} {s' : Shared} {h' : Heap} (I : Inv X pins σ H s) (hfp : ∀ b ∈ fp, b5j X pins H b) (J : Inv (a3q X scope cl s.heap.objs.size s H fp x y) [] σ' H' s') (hs : Heap.SameBut s.heap.objs.size s'.heap h') :
  Inv X pins σ H' { s' with heap := h' } := by
 have ne : ∀ {b : Addr} {o : Obj}, s.heap.get? b = some o -> b ≠ s.heap.objs.size := fun e => Nat.ne_of_lt (Heap.lt_size e)
 have u := J.base
 have u' : Un (frs X.stack) fp H H' s.heap h' := ⟨fun b o e n hb hx => hs.extBut b o (ne e) (u.keep b o e n hb hx), fun b o e n hb hx => (u.slot b o e n hb hx).elim fun sl q => ⟨sl, hs.extBut b _ (ne e) q⟩, u.free,
  fun b o e hx => (u.there b o e hx).elim fun o' q => ⟨o', hs.extBut b o' (ne e) q⟩, u.tups, u.b9r, u.b9u⟩
 have nC : ∀ {b : Addr} {o : HO}, H' b = some o -> b ≠ s.heap.objs.size := fun {b o} e z => by
  have f : H' s.heap.objs.size = none := J.free
  rw [z, f] at e; cases e
 have ok : HOk X.prog X.w H' h' := fun b o e => (J.hok b o e).stay (fun c v hc q => hs.extBut c v (by
  rcases hc with z | z
  ·rw [z]; exact nC e
  ·exact nC z) q) (fun _ q => q) fun _ _ q => q
 exact I.call' (s' := { s' with heap := h' }) (ch := fp) J.os u' ok J.bare fun b hb => ⟨(hfp b hb).2.2.2.1, (hfp b hb).2.1, (hfp b hb).2.2.2.2.1, (hfp b hb).2.2.2.2.2⟩
end
section
variable {X : Cx} {scope : Scope} {x y : Str} {pins : List (Addr × Obj)} {σ : St} {elt iter : Expr} {px py tpos pos : Pos} {kk : Nat} {wi : TI} {te : TE}
end
noncomputable def c6s (sc scope : Scope) (x y : Str) (N : List Str) : Bool :=
 (scope.kind == .function) && scope.names.all (fun y => y.2 != .cell) && scope.names.all (fun y => y.2 != .local || scope.names.lookup y.1 == some .local) && (scope.names.lookup x == some .local) && (scope.names.lookup y == some .local) &&
 scope.names.all (fun y => y.2 != .free || (sc.names.lookup y.1 == some .cell || sc.names.lookup y.1 == some .free)) && decide ((x :: y :: N).Nodup) && N.all (fun y => scope.names.lookup y != some .local)
theorem d9k {X : Cx} {sc scope : Scope} {x y : Str} {N : List Str} (hsc : X.env.scope = sc) (hN : X.N = N) (h : c6s sc scope x y N = true) : b0p X scope x y := by
 subst hN hsc
 unfold c6s at h
 simp only [Bool.and_eq_true, List.all_eq_true, beq_iff_eq, Bool.or_eq_true, bne_iff_ne, ne_eq, decide_eq_true_eq] at h
 obtain ⟨⟨⟨⟨⟨⟨⟨h1, h2⟩, h3⟩, h4⟩, h5⟩, h6⟩, h7⟩, h8⟩ := h
 exact ⟨h1, h2, fun y hy e => (h3 y hy).resolve_left fun z => z e, h4, h5, fun y hy e => (h6 y hy).resolve_left fun z => z e, h7, h8⟩
end L2
namespace L2
open PySem PySem.Spec PyProof.Rows
noncomputable def iTupF (K : PySem.W.Frag) (tl : TE) : TI := fun σ H R => tl σ H fun x H1 => match x with
 | .ref a => (match H1 a with
  | some (.tup _) => R (Itt K a) H1
  | _ => False)
 | _ => False
noncomputable def rSlG : V -> Option Int -> Option Int -> Hp -> VK -> Prop := fun x lo hi H Q => match x with
 | .ref a => (match H a with
  | some (.lst xs) => New H (.lst (b7n xs lo hi)) Q ⟨⟩
  | some (.tup xs) => ¬ (HT.sIx xs.length 0 lo = 0 /\ HT.sIx xs.length xs.length hi = xs.length) /\ New H (.tup (b7n xs lo hi)) Q ⟨⟩
  | _ => False)
 | _ => False
end L2
namespace L2
open PySem PySem.Spec PyProof.Rows
section
variable {prog : Program} {w : World} {A : Around} {E : Value -> Shared -> Prop} {s : Shared}
end
section
variable {prog : Program} {w : World} {A : Around} {E : Value -> Shared -> Prop} {s : Shared}
end
noncomputable def Ite (K : PySem.W.Frag) (l : Addr) (n : Int) : It :=
 ⟨fun i H => ∃ xs x, SqL K H l xs /\ xs[i]? = some x,
  fun i H v H' => ∃ p x, v = .ref p ∧ H p = none ∧ H' = upd H p (.tup [.int (n + (i : Int)), x]) ∧ ∀ xs, SqL K H l xs → xs[i]? = some x,
  fun i H => ∃ xs, SqL K H l xs ∧ xs.length ≤ i⟩
end L2
namespace L2
open PySem PySem.Spec PyProof.Rows
section
variable {M : Model} {A : Around} {E : Value -> Shared -> Prop} {s : Shared} {env : Env}
end
noncomputable def f6s (K : PySem.W.Frag) (t tk : TA) : TI := fun σ H R => t σ H fun vs H1 => tk σ H1 fun zs H2 => match vs, zs with
 | [.ref l], [.int n] => (match H2 l with
  | some (.lst _) => -(2 ^ 62) <= n /\ n < 2 ^ 62 /\ R (Ite K l n) H2
  | _ => False)
 | _, _ => False
end L2
namespace L2
open PySem PySem.Spec PyProof.Rows
noncomputable def d9l (chk : V -> Hp -> Bool) (r : V -> List V -> Hp -> VK -> Prop) (to : TE) : TE := fun σ H Q => to σ H fun x H1 => chk x H1 = true /\ r x [] H1 Q
section
variable {X : Cx} {o : Expr} {to : TE} {name : Str} {apos cpos : Pos} {T id : String} {r : V -> List V -> Hp -> VK -> Prop} {chk : V -> Hp -> Bool}
theorem d3t (hchk : ∀ x H, chk x H = true → tyV X.K T x H) (pa : PlainAttrs T) (slot : Slot T name id) (hty : typeOf (.builtin id) = pure (.type "method_descriptor")) (hm : MtR X id r) (ho : PE X o to)
  (hbase : attributeBase o name X.env (eval o X.env) = eval o X.env := by rfl) (hline : (apos.endLine == cpos.line) = true := by rfl) : PE X (.Call (.Attribute o name apos) [] [] cpos) (d9l chk r to) := by
 intro pins s σ H Q I h
 refine wpAny_Call_method0_late hbase hline (thn (ho pins s σ H _ I h) fun v s1 ⟨x, H1, I1, r1, ty, q1⟩ => ?_)
 obtain ⟨h1, h2⟩ := d0n I1 r1 (hchk x H1 ty)
 exact ⟨T, id, pa, slot, hty, h1, h2, Calls.callWith_builtin rfl (PySem.evalArgs_none (hm pins s1 σ H1 x [] v [] Q I1 r1 .nil q1))⟩
noncomputable def rClrF : V -> List V -> Hp -> VK -> Prop := fun x vs H Q => match x, vs with
 | .ref l, [] => (match H l with
  | some (.lst _) => All (fun v H1 => v = .non /\ a1q l H H1 /\ H1 l = some (.lst [])) Q ⟨⟩ ⟨⟩
  | _ => False)
 | _, _ => False
noncomputable def f6t : V -> List V -> Hp -> VK -> Prop := fun x vs H Q => match x, vs with
 | .str z, [.ref l] => (match H l with
  | some (.lst xs) => ∃ ys : List Str, xs = ys.map V.str /\ JoinOk z ys = true /\ Q (.str (Txt.join z ys)) H
  | _ => False)
 | _, _ => False
end
end L2
namespace L2
open PySem PySem.Spec PyProof.Rows
structure f3u (K : PySem.W.Frag) (w : World) (d : Addr) : Prop where
 lk : ∃ es n, K.lookup d = some ⟨.type "dict", none, .dict es n, #[]⟩ ∧ PySem.W.KeysLit w.params es.toList
 ns : (d == sysModules) = false
noncomputable def rNiD (K : PySem.W.Frag) (w : World) (neg : Bool) : R2 := fun x y H Q => match x, y with
 | .str z, .ref d => f3u K w d /\ ∃ r, PySem.W.nsIn K d z = some r /\ Q (.bl (r.isSome != neg)) H
 | _, _ => False
section
variable {X : Cx}
noncomputable def rIxD (K : PySem.W.Frag) (w : World) : R2 := fun x y H Q => match x, y with
 | .ref d, .str z => f3u K w d /\ ∃ f, PySem.W.nsIn K d z = some (some (.ref f)) /\ Q (.ref f) H
 | _, _ => False
noncomputable def f6u (f : Addr) (sp : Sp) (dvs : List V) (E : XK) (tg : TE) (t : TA) : TE := fun σ H Q => tg σ H fun x H1 => x = .ref f /\ d2m sp dvs E t σ H1 Q
end
end L2
namespace L2
open PySem PySem.Spec PyProof.Rows
theorem c2g {c : Nat} : ∀ {a a' b b' : List Nat}, a ++ c :: b = a' ++ c :: b' -> c ∉ a -> c ∉ a' -> a = a' /\ b = b'
 | [], [], _, _, h, _, _ => by simpa using h
 | [], d :: a', _, _, h, _, h2 => by
  rw [List.nil_append, List.cons_append, List.cons.injEq] at h
  exact absurd (by rw [h.1]; exact List.mem_cons_self) h2
 | d :: a, [], _, _, h, h1, _ => by
  rw [List.nil_append, List.cons_append, List.cons.injEq] at h
  exact absurd (by rw [h.1]; exact List.mem_cons_self) h1
 | d :: a, d' :: a', _, _, h, h1, h2 => by
  rw [List.cons_append, List.cons_append, List.cons.injEq] at h
  obtain ⟨e1, e2⟩ := c2g h.2 (fun q => h1 (List.mem_cons_of_mem _ q)) (fun q => h2 (List.mem_cons_of_mem _ q))
  exact ⟨by rw [h.1, e1], e2⟩
theorem b2o (c : Nat) (p q : Str) (r : List Str) : sg (Str.join ⟨#[c]⟩ (p :: q :: r)) = sg p ++ c :: sg (Str.join ⟨#[c]⟩ (q :: r)) := by
 show sg (p ++ ⟨#[c]⟩ ++ Str.join ⟨#[c]⟩ (q :: r)) = _
 rw [a5s, a5s, List.append_assoc]
 rfl
theorem b8s {c : Nat} : ∀ {ps qs : List Str}, ps ≠ [] -> qs ≠ [] -> (∀ p ∈ ps, c ∉ sg p) -> (∀ q ∈ qs, c ∉ sg q) -> sg (Str.join ⟨#[c]⟩ ps) = sg (Str.join ⟨#[c]⟩ qs) -> ps = qs
 | [], _, h, _, _, _, _ => absurd rfl h
 | _ :: _, [], _, h, _, _, _ => absurd rfl h
 | [p], [q], _, _, _, _, e => by
  rw [d1i (show sg p = sg q from e)]
 | [p], q :: q' :: qs, _, _, fp, _, e => by
  rw [b2o] at e
  exact absurd (by rw [show sg p = _ from e]; simp) (fp p (List.mem_cons_self ..))
 | p :: p' :: ps, [q], _, _, _, fq, e => by
  rw [b2o] at e
  exact absurd (by rw [show sg q = _ from e.symm]; simp) (fq q (List.mem_cons_self ..))
 | p :: p' :: ps, q :: q' :: qs, _, _, fp, fq, e => by
  rw [b2o, b2o] at e
  obtain ⟨e1, e2⟩ := c2g e (fp p (List.mem_cons_self ..)) (fq q (List.mem_cons_self ..))
  rw [d1i e1, b8s (by simp) (by simp) (fun x hx => fp x (List.mem_cons_of_mem _ hx)) (fun x hx => fq x (List.mem_cons_of_mem _ hx)) e2]
theorem c6t (x y : Str) : b8o x y = Txt.split x y := rfl
theorem c9m (x y : Str) : Txt.split x y ≠ [] := by
 unfold Txt.split
 split
 ·simp
 ·split
  ·simp
  ·rw [StrLaws.partsBetween_eq]
   obtain ⟨p, r, e⟩ := StrLaws.partsFrom_ne x y.length 0 (Builtin.Str.occurrences x y 0 x.length (x.length + 1))
   rw [e]
   simp
theorem c3j {x : Str} {c : Nat} {ps : List Str} (hn : ps ≠ []) (hf : ∀ p ∈ ps, c ∉ sg p) (h : sg x = sg (Str.join ⟨#[c]⟩ ps)) : b8o x ⟨#[c]⟩ = ps := by
 rw [c6t]
 refine b8s (c := c) (c9m _ _) hn (fun p hp => StrLaws.split_free x c p hp) hf ?_
 rw [StrLaws.join_split, h]
end L2
namespace L2
open PySem PySem.Spec PyProof.Rows
noncomputable def f3v (t t' : TE) : TE := fun σ H Q => t σ H Q \/ t' σ H Q
theorem d3u {X : Cx} {K : PySem.W.Frag} (hK : X.K = K) (hu : X.A.units + 64 < cLine) : OpR X (compareOp .Eq) (f1i K) := hK ▸ a9k hu
open PySem.Builtin.Int (intBits)
noncomputable def fW (x : Rat) : Str := Str.empty ++ Str.ofString (toString x.num) ++ Str.ofString "/" ++ Str.ofString (toString (x.den : Int))
noncomputable def cW (c : Int × Rat) : Str := Str.empty ++ Str.ofString (toString c.1) ++ Str.ofString "=" ++ fW c.2
noncomputable def nW (n : Nat) : Str := Str.ofString (toString (n : Int))
noncomputable def YOk (y : Rat) : Prop := y.num.natAbs <= 1000 /\ y.den <= 1000
inductive Dt where
 | gain (y : Rat)
 | delay (n : Nat)
 | echo (y : Rat) (n t : Nat)
 | back (y : Rat) (n : Nat)
 | hall (y : Rat) (n : Nat)
 | swell (cs : List (Int × Rat))
noncomputable def Dt.kd : Dt -> Nat
 | .gain _ => 0
 | .delay _ => 1
 | .echo .. => 2
 | .back .. => 3
 | .hall .. => 4
 | .swell _ => 5
noncomputable def Dt.kind : Dt -> Str
 | .gain _ => Str.ofString "gain"
 | .delay _ => Str.ofString "delay"
 | .echo .. => Str.ofString "echo"
 | .back .. => Str.ofString "back"
 | .hall .. => Str.ofString "hall"
 | .swell _ => Str.ofString "swell"
noncomputable def Dt.vals : Dt -> List Str
 | .gain y => [fW y]
 | .delay n => [nW n]
 | .echo y n t => [fW y, nW n, nW t]
 | .back y n => [fW y, nW n]
 | .hall y n => [fW y, nW n]
 | .swell cs => [Str.join ⟨#[44]⟩ (cs.map cW)]
noncomputable def Dt.word (d : Dt) : Str := Str.join ⟨#[58]⟩ (d.kind :: d.vals)
noncomputable def f3w (cs : List (Int × Rat)) : Prop := (∀ c ∈ cs, 0 <= c.1 /\ c.1 <= 100000 /\ YOk c.2) /\ (∀ (i : Nat) c d, cs[i]? = some c -> cs[i + 1]? = some d -> c.1 < d.1) /\ 1 <= cs.length /\ cs.length <= 12
noncomputable def Dt.ok : Dt -> Prop
 | .gain y => YOk y
 | .delay n => n <= 1000
 | .echo y n t => YOk y /\ 1 <= n /\ n <= 1000 /\ t <= 16
 | .back y n => YOk y /\ 1 <= n /\ n <= 1000
 | .hall y n => YOk y /\ (y.num.natAbs : Int) < y.den /\ 1 <= n /\ n <= 1000
 | .swell cs => f3w cs
theorem d9m {t : Int} {n : Nat} (h : t.natAbs < 2 ^ n) (hn : 1 <= n) : t.natAbs.log2 < n := by
 rcases Nat.eq_zero_or_pos t.natAbs with z | z
 ·rw [z]
  show Nat.log2 0 < n
  have : Nat.log2 0 = 0 := by decide
  omega
 ·rw [Nat.log2_lt (by omega)]
  exact h
theorem c0s {t : Int} {n : Nat} (h : t.natAbs < 2 ^ n) (hn : 1 <= n) : (Str.ofString (toString t)).length <= n + 1 := by
 have e : (Str.ofString (toString t)).length = (txt t).length := by rw [<- d9h, b8q]
 have := d3n t
 have := d9m h hn
 omega
theorem YOk.b {y : Rat} (h : YOk y) : intBits y.num <= 10 /\ intBits (y.den : Int) <= 10 := ⟨intBits_le_iff.mpr (Nat.lt_of_le_of_lt h.1 (by decide)), intBits_le_iff.mpr (Nat.lt_of_le_of_lt (show (y.den : Int).natAbs <= 1000 from h.2) (by decide))⟩
theorem d9n {x : Rat} (h1 : intBits x.num <= 10) (h2 : intBits (x.den : Int) <= 10) : (fW x).length <= 23 := by
 have a := c0s (intBits_le_iff.mp h1) (by decide)
 have b := c0s (intBits_le_iff.mp h2) (by decide)
 have e0 : Str.empty.length = 0 := rfl
 have e1 : (Str.ofString "/").length = 1 := by decide +kernel
 unfold fW
 simp only [strLen_append, e0, e1]
 omega
theorem d9o {c : Int × Rat} (h0 : c.1.natAbs < 2 ^ 20) (h1 : intBits c.2.num <= 10) (h2 : intBits (c.2.den : Int) <= 10) : (cW c).length <= 45 := by
 have a := c0s h0 (by decide)
 have b := d9n h1 h2
 have e0 : Str.empty.length = 0 := rfl
 have e1 : (Str.ofString "=").length = 1 := by decide +kernel
 unfold cW
 simp only [strLen_append, e0, e1]
 omega
theorem f3y (n : Nat) : sg (nW n) = txt (n : Int) := b8q _
theorem f3z (y : Rat) : sg (fW y) = f1l y.num (y.den : Int) := by
 unfold fW f1l
 rw [a5s, a5s, a5s, b8q, b8q]
 have e4 : sg Str.empty = [] := rfl
 have e5 : sg (Str.ofString "/") = [47] := by decide +kernel
 rw [e4, e5]
 simp
theorem f4g (c : Int × Rat) : sg (cW c) = txt c.1 ++ 61 :: sg (fW c.2) := by
 unfold cW
 rw [a5s, a5s, a5s, b8q]
 have e4 : sg Str.empty = [] := rfl
 have e5 : sg (Str.ofString "=") = [61] := by decide +kernel
 rw [e4, e5]
 simp
theorem c6u {c : Nat} (h1 : c ≠ 45) (h2 : 57 < c) (y : Rat) : c ∉ sg (fW y) := by
 rw [f3z]
 unfold f1l
 intro h
 rcases List.mem_append.mp h with z | z
 ·exact c1w h1 (.inr h2) z
 ·rcases List.mem_cons.mp z with z | z
  ·omega
  ·exact c1w h1 (.inr h2) z
theorem c6v {c : Nat} (h1 : c ≠ 45) (h2 : c < 48 \/ 57 < c) (n : Nat) : c ∉ sg (nW n) := by
 rw [f3y]
 exact c1w h1 h2
theorem d3v (c : Int × Rat) : 58 ∉ sg (cW c) := by
 rw [f4g]
 intro h
 rcases List.mem_append.mp h with z | z
 ·exact c1w (by decide) (.inr (by decide)) z
 ·rcases List.mem_cons.mp z with z | z
  ·omega
  ·exact c6u (by decide) (by decide) _ z
theorem c6w {c k : Nat} (hk : c ≠ k) : ∀ {ps : List Str}, (∀ p ∈ ps, c ∉ sg p) -> c ∉ sg (Str.join ⟨#[k]⟩ ps)
 | [], _ => by
  show c ∉ ([] : List Nat)
  simp
 | [p], h => h p (List.mem_cons_self ..)
 | p :: q :: r, h => by
  rw [b2o]
  intro z
  rcases List.mem_append.mp z with z | z
  ·exact h p (List.mem_cons_self ..) z
  ·rcases List.mem_cons.mp z with z | z
   ·exact hk z
   ·exact c6w hk (fun x hx => h x (List.mem_cons_of_mem _ hx)) z
theorem f3w.len {cs : List (Int × Rat)} (h : f3w cs) : ∀ c ∈ cs, (cW c).length <= 45 := fun c hc => by
 obtain ⟨a, b, y⟩ := h.1 c hc
 exact d9o (by omega) y.b.1 y.b.2
theorem Dt.free {d : Dt} : ∀ p ∈ d.kind :: d.vals, 58 ∉ sg p := by
 cases d <;> intro p hp <;> simp only [Dt.kind, Dt.vals, List.mem_cons, List.not_mem_nil, or_false] at hp
 case gain => rcases hp with rfl | rfl; decide +kernel; exact c6u (by decide) (by decide) _
 case delay => rcases hp with rfl | rfl; decide +kernel; exact c6v (by decide) (.inr (by decide)) _
 case echo => rcases hp with rfl | rfl | rfl | rfl; decide +kernel; exact c6u (by decide) (by decide) _; exact c6v (by decide) (.inr (by decide)) _; exact c6v (by decide) (.inr (by decide)) _
 case back => rcases hp with rfl | rfl | rfl; decide +kernel; exact c6u (by decide) (by decide) _; exact c6v (by decide) (.inr (by decide)) _
 case hall => rcases hp with rfl | rfl | rfl; decide +kernel; exact c6u (by decide) (by decide) _; exact c6v (by decide) (.inr (by decide)) _
 case swell cs =>
  rcases hp with rfl | rfl
  ·decide +kernel
  ·refine c6w (by decide) fun p hp => ?_
   obtain ⟨c, _, rfl⟩ := List.mem_map.mp hp
   exact d3v c
theorem Dt.split (d : Dt) : b8o d.word ⟨#[58]⟩ = d.kind :: d.vals := c3j (by simp) d.free rfl
end L2
namespace L2
open PySem PySem.Spec PyProof.Rows
section
variable {X : Cx}
noncomputable def rInsF : V -> List V -> Hp -> VK -> Prop := fun x vs H Q => match x, vs with
 | .ref l, [.int i, y] => (match H l with
  | some (.lst xs) => 0 <= i /\ i < 1000000 /\ xs.length < sizeLine /\ All (fun v H1 => v = .non /\ a1q l H H1 /\ H1 l = some (.lst (xs.take i.toNat ++ y :: xs.drop i.toNat))) Q ⟨⟩ ⟨⟩
  | _ => False)
 | _, _ => False
noncomputable def d9p : V -> List V -> Hp -> VK -> Prop := fun x vs H Q => match x, vs with
 | .ref l, [.int i] => (match H l with
  | some (.lst xs) => 0 <= i /\ i < (xs.length : Int) /\ All (fun v H1 => xs[i.toNat]? = some v /\ a1q l H H1 /\ H1 l = some (.lst (xs.eraseIdx i.toNat))) Q ⟨⟩ ⟨⟩
  | _ => False)
 | .ref l, [] => (match H l with
  | some (.lst xs) => 0 < xs.length /\ All (fun v H1 => xs[xs.length - 1]? = some v /\ a1q l H H1 /\ H1 l = some (.lst xs.dropLast)) Q ⟨⟩ ⟨⟩
  | _ => False)
 | _, _ => False
theorem d3w : MtR X "list.pop" d9p := by
 intro pins s σ H x vs v us Q I rx rv h
 match x, vs, h with
 | .ref l, [.int i], h =>
  have h' : (match H l with
   | some (.lst xs) => 0 <= i /\ i < (xs.length : Int) /\ All (fun v H1 => xs[i.toNat]? = some v /\ a1q l H H1 /\ H1 l = some (.lst (xs.eraseIdx i.toNat))) Q ⟨⟩ ⟨⟩
   | _ => False) := h
  split at h'
  ·rename_i xs hH
   obtain ⟨i0, i1, q⟩ := h'
   obtain ⟨z, its, n, r, hl, e⟩ := I.d2q hH
   have hs : sizeLine = 16777216 := sizeLine_eq
   have hx : xs[i.toNat]? = some (xs[i.toNat]'(by omega)) := List.getElem?_eq_getElem _
   refine c8o pins s σ H _ _ v us Q I rx rv ⟨l, xs, i, i.toNat, xs[i.toNat]'(by omega), rfl, rfl, hH, by omega, by omega, ?_, hx, q _ _ ⟨hx, a1q.upd, a0z⟩⟩
   unfold seqIndex?
   simp only
   rw [if_neg (show ¬ i < 0 by omega)]
   rw [if_pos (by rw [Bool.and_eq_true, decide_eq_true_eq, decide_eq_true_eq]; omega)]
  ·exact h'.elim
 | .ref l, [], h =>
  have h' : (match H l with
   | some (.lst xs) => 0 < xs.length /\ All (fun v H1 => xs[xs.length - 1]? = some v /\ a1q l H H1 /\ H1 l = some (.lst xs.dropLast)) Q ⟨⟩ ⟨⟩
   | _ => False) := h
  split at h'
  ·rename_i xs hH
   obtain ⟨i0, q⟩ := h'
   have hx : xs[xs.length - 1]? = some (xs[xs.length - 1]'(by omega)) := List.getElem?_eq_getElem _
   exact d6n pins s σ H _ _ v us Q I rx rv ⟨l, xs, _, rfl, rfl, hH, hx, q _ _ ⟨hx, a1q.upd, a0z⟩⟩
  ·exact h'.elim
end
end L2
namespace L2
open PySem PySem.Spec PyProof.Rows PySem.W
theorem b8t {K : PySem.W.Frag} {H : Hp} : ∀ ss : List Str, b1k K H (ss.map V.str) (kqdPs (ss.map Dat.str))
 | [] => .nil
 | n :: ns => .cons (.str n) (b8t ns)
theorem b4s {ns ms : List Str} : ns.map Dat.str = ms.map Dat.str ↔ ns = ms := by
 induction ns generalizing ms with
 | nil => cases ms <;> simp
 | cons n ns ih => cases ms <;> simp [ih]
theorem b3w {ss : List Str} (h : ∀ s ∈ ss, PyData.strOk s = true) : kqdOk 1 (.list (ss.map .str)) = true := by
 show (ss.map Dat.str).all (kqdOk 0) = true
 rw [List.all_eq_true]
 intro d hd
 obtain ⟨s, hs, rfl⟩ := List.mem_map.mp hd
 exact h s hs
theorem b2p {K : PySem.W.Frag} {H : Hp} {p : Addr} {ss : List Str} (h : SqL K H p (ss.map V.str)) : b8l K H (.ref p) (kqdP (.list (ss.map .str))) := by
 rw [kqdP]
 exact .lst h (b8t ss)
theorem c2h {K : PySem.W.Frag} {H : Hp} {p q : Addr} {ns ms : List Str} {Q : VK} (hp : SqL K H p (ns.map V.str)) (hq : SqL K H q (ms.map V.str)) (h1 : ∀ s ∈ ns, PyData.strOk s = true) (h2 : ∀ s ∈ ms, PyData.strOk s = true) (h : Q (.bl (!decide (ns = ms))) H) : f1h K (.ref p) (.ref q) H Q :=
 d8k (b2p hp) (b2p hq) (b3w h1) (b3w h2) (by decide) (by decide) (by rw [decide_eq_true_eq, Dat.list.injEq, b4s]) h
theorem c2i {K : PySem.W.Frag} {H : Hp} {p q : Addr} {ns ms : List Str} {Q : VK} (hp : SqL K H p (ns.map V.str)) (hq : SqL K H q (ms.map V.str)) (h1 : ∀ s ∈ ns, PyData.strOk s = true) (h2 : ∀ s ∈ ms, PyData.strOk s = true) (h : Q (.bl (decide (ns = ms))) H) : f1g K (.ref p) (.ref q) H Q :=
 d8j (b2p hp) (b2p hq) (b3w h1) (b3w h2) (by decide) (by decide) (by rw [decide_eq_true_eq, Dat.list.injEq, b4s]) h
end L2
namespace L2
open PySem PySem.Spec PyProof.Rows
section
variable {X : Cx}
noncomputable def d9q : List V -> Hp -> VK -> Prop := fun xs H Q => match xs with
 | [.ref p] => (match H p with
  | some (.lst ys) => ∃ bs : List Bool, ys = bs.map V.bl /\ Q (.bl (bs.all id)) H
  | _ => False)
 | _ => False
theorem b8u : ∀ {bs : List Bool} {us : List Value}, Vals (bs.map V.bl) us -> us.length = bs.length /\ ∀ (i : Nat) v, us[i]? = some v -> ∃ b, bs[i]? = some b /\ v = .bool b
 | [], _, h => by cases h; exact ⟨rfl, fun i v e => by simp at e⟩
 | b :: bs, _, h => by
  cases h with
  | cons r t =>
   have ih := b8u t
   refine ⟨by simp [ih.1], fun i v e => ?_⟩
   cases i with
   | zero => simp at e; exact ⟨b, rfl, e.symm.trans r⟩
   | succ i => simp at e; exact ih.2 i v e
theorem c6y (hc : X.calm = true) : a9i X (.builtin "all") d9q := by
 intro pins s σ H xs us Q I r h
 match xs, r, h with
 | [.ref p], r, h =>
  have h' : (match H p with
   | some (.lst ys) => ∃ bs : List Bool, ys = bs.map V.bl /\ Q (.bl (bs.all id)) H
   | _ => False) := h
  split at h'
  ·rename_i ys e
   obtain ⟨bs, rfl, q⟩ := h'
   obtain ⟨u, rfl, ru⟩ := vals1 r
   cases (show u = Value.ref p from ru)
   obtain ⟨its, rv, ⟨o, n, e1, c1, d1, dd⟩, _⟩ := I.list (SqL.of e)
   obtain ⟨hbl, hb⟩ := b8u rv
   have hl : s.heap.IsList p its.toArray := ⟨o, e1, c1, n, dd⟩
   have hlt : p < s.heap.objs.size := Heap.lt_size e1
   refine call_all_walk (wpAny_pyIter_list hl ?_)
   refine ⟨s.heap.objs.size, [s.heap.objs.size, p], [s.heap.objs.size], its.toArray.size, _, _, fun i => (bs[i]?).getD true, rfl, Walks.list (A := X.A.in1) (I.ok.hd hc) _ p (Nat.ne_of_lt hlt) its.toArray,
    ⟨⟨_, Heap.get?_push_size _ rfl, rfl, rfl⟩, hl.push _⟩, fun i v s' Q' E' hP hQ => ?_, fun h' tk hk => ?_⟩
   ·obtain ⟨b, e, rfl⟩ := hb i v (by simpa using hP)
    simp only [e, Option.getD_some] at hQ
    exact wpAny_truthy_bool hQ
   ·have e : ((List.range its.toArray.size).all fun i => (bs[i]?).getD true) = bs.all id := by
     rw [List.size_toArray, hbl]; exact LSm.range_all bs
    rw [e]
    exact ⟨.bl _, H, I.kept (LSm.kept_iter hk), rfl, q⟩
  ·exact h'.elim
end
noncomputable def c0t (J : It) (tc : TT) (te : TE) (D : Addr) (σ : St) (H : Hp) (Q : VK) (_ : Tag Q) : Prop := ∃ (n : Nat) (W : Nat -> List V -> Hp -> Prop), W 0 [] H /\ ∀ i ys H, i <= n -> W i ys H -> H D = some (.lst ys) /\
 ((J.stop i H /\ Q (.ref D) H) \/ (i < n /\ J.go i H /\ ys.length < sizeLine /\ ∀ x H', J.yld i H x H' -> ∃ p u v, x = .ref p /\ H' p = some (.tup [u, v]) /\ tc (some u :: some v :: σ) H' fun b H1 =>
  if b = true then te (some u :: some v :: σ) H1 fun y H2 => H2 D = some (.lst ys) /\ ∀ H3, a1q D H2 H3 -> H3 D = some (.lst (ys ++ [y])) -> W (i + 1) (ys ++ [y]) H3
  else W (i + 1) ys H1))
noncomputable def c6z (wi : TI) (tc : TT) (te : TE) : TE := fun σ H Q => wi σ H fun J H1 => ∀ D H2, H1 D = none -> Same H1 H2 -> H2 D = some (.lst []) -> c0t J tc te D σ H2 Q ⟨⟩
section
variable {X : Cx} {scope : Scope} {x y : Str} {pins : List (Addr × Obj)} {σ : St} {elt iter cnd : Expr} {px py tpos pos : Pos} {kk : Nat} {wi : TI} {te : TE} {tc : TT}
theorem b8v {s₂ : Shared} {H1 : Hp} {it : Addr} {fp : List Addr} {tn : Nat -> Heap -> Prop} {J : It} {Q : VK} {RR : Value -> Addr -> Result -> Shared -> Prop} {E : Value -> Shared -> Prop} {cl : List (Str × Addr)}
  (S : b0p X scope x y) (hc : X.calm = true) (hcnd : ∀ cl C s₃ H₃ fp, PT (a3q X scope cl C s₃ H₃ fp x y) cnd tc) (he : ∀ cl C s₃ H₃ fp, PE (a3q X scope cl C s₃ H₃ fp x y) elt te)
  (hcl : ∀ y c, cl.lookup y = some c -> (y, NameKind.free) ∈ scope.names /\ X.env.cells.lookup y = some c) (hcl2 : ∀ y, (y, NameKind.free) ∈ scope.names -> cl.lookup y = X.env.cells.lookup y)
  (I2 : Inv X pins σ H1 s₂) (T : Turn X.prog X.w X.K (.Tuple [.Name x px, .Name y py] kk tpos) J fp it tn) (st2 : tn 0 s₂.heap) (f2 : ∀ b ∈ fp, b5j X pins H1 b) (h : ∀ D H2, H1 D = none -> Same H1 H2 -> H2 D = some (.lst []) -> c0t J tc te D σ H2 Q ⟨⟩)
  (hRR : ∀ (D C : Addr) (s' : Shared) (H' : Hp), (∃ m, s'.heap.Ns C m) -> (∀ h' , Heap.SameBut C s'.heap h' -> Inv X pins σ H' { s' with heap := h' }) -> b5j X pins H' C -> Q (.ref D) H' -> RR (.ref D) C (.ok .next) s') :
  wpAny (model X.prog X.w) X.A (newList []) (fun acc s₃ => wpAny (model X.prog X.w) X.A (newFunctionEnv scope X.env.globals cl [] X.env.qual none .none (some X.env)) (fun cenv s₄ =>
   codeAny (model X.prog X.w) X.A (.compStart (.ListComp elt [⟨.Tuple [.Name x px, .Name y py] kk tpos, iter, [cnd], 0⟩] scope pos) 0 (.ref it) acc { cenv with scope := relabel scope X.env }) (RR acc cenv.locals) s₄) E s₃) E s₂ := by
 have hfr : H1 s₂.heap.objs.size = none := I2.hok.fresh (Nat.le_refl _)
 have hCW := h s₂.heap.objs.size _ hfr (Same.upd hfr) a0z
 refine wpAny_newObj_type ?_
 have I3 : Inv X pins σ (upd H1 s₂.heap.objs.size (.lst [])) { s₂ with heap := s₂.heap.push { cls := .type "list", data := .seq ([] : List Value).toArray }, toks := s₂.toks } :=
  I2.laid (t' := s₂.toks) (fun b u e => Heap.get?_push_of_some _ e) (Nat.le_refl _) ⟨Nat.zero_le _, [], 0, .nil, Heap.get?_push_size _ rfl⟩
 have nD : ∀ b ∈ fp, b ≠ s₂.heap.objs.size := fun b hb => by
  obtain ⟨o, e, _⟩ := T.obj 0 _ st2 b hb
  exact Nat.ne_of_lt (Heap.lt_size e)
 have f3 : ∀ b ∈ fp, b5j X pins (upd H1 s₂.heap.objs.size (.lst [])) b := fun b hb => ⟨by rw [a1g (nD b hb)]; exact (f2 b hb).1, (f2 b hb).2⟩
 generalize hH3 : upd H1 s₂.heap.objs.size (.lst []) = H3 at *
 have st3 : tn 0 (s₂.heap.push { cls := .type "list", data := .seq ([] : List Value).toArray }) := T.keep _ _ _ st2 fun b _ o e => Heap.get?_push_of_some _ e
 have c6i : ∀ b ∈ fp, b < (s₂.heap.push { cls := .type "list", data := .seq ([] : List Value).toArray }).objs.size := fun b hb => by
  obtain ⟨o, e, _⟩ := T.obj 0 _ st3 b hb
  exact Heap.lt_size e
 show wpAny (model X.prog X.w) X.A (newFunctionEnv scope X.env.globals cl [] X.env.qual none .none (some X.env)) _ E { s₂ with heap := s₂.heap.push { cls := .type "list", data := .seq ([] : List Value).toArray }, toks := s₂.toks }
 generalize hs3 : ({ s₂ with heap := s₂.heap.push { cls := .type "list", data := .seq ([] : List Value).toArray }, toks := s₂.toks } : Shared) = s₃ at *
 have eh : s₃.heap = s₂.heap.push { cls := .type "list", data := .seq ([] : List Value).toArray } := by rw [← hs3]
 rw [<- eh] at st3 c6i
 generalize s₂.heap.objs.size = D at *
 refine wpAny_newFunctionEnv S.b3m (by intro y hy; simp at hy) (fun h₁ hns₁ hsb₁ => ?_) S.kind
 have hk1 : ∀ b o, s₃.heap.get? b = some o -> h₁.get? b = some o := fun b o e => hsb₁.extBut b o (Nat.ne_of_lt (Heap.lt_size e)) (Heap.get?_push_of_some _ e)
 have J0 : Inv (a3q X scope cl s₃.heap.objs.size s₃ H3 fp x y) [] (none :: none :: σ) H3 { s₃ with heap := h₁, toks := s₃.toks + ([] : List (Str × Value)).length } := I3.f3t S hcl hcl2 f3 c6i hns₁ hk1 rfl rfl
 obtain ⟨n0, W, w0, turn⟩ := hCW
 have loop : codeAny (model X.prog X.w) X.A (.compLoop (.ListComp elt [⟨.Tuple [.Name x px, .Name y py] kk tpos, iter, [cnd], 0⟩] scope pos) 0 (.ref it) (.ref D) (compEnvC scope cl s₃.heap.objs.size X.env)) (RR (.ref D) s₃.heap.objs.size) { s₃ with heap := h₁, toks := s₃.toks + ([] : List (Str × Value)).length } := by
  refine codeAny_loop rfl (fun n s' => ∃ i ys o o' H', Inv (a3q X scope cl s₃.heap.objs.size s₃ H3 fp x y) [] (o :: o' :: σ) H' s' /\ tn i s'.heap /\ (∀ b ∈ fp, H' b = none) /\ W i ys H' /\ i <= n0 /\ n = n0 - i) (fun n s5 hI => ?_) n0
   ⟨0, [], none, none, H3, J0, T.keep _ _ _ st3 (fun b _ o e => hk1 b o e), fun b hb => (f3 b hb).1, w0, Nat.zero_le _, rfl⟩
  obtain ⟨i, ys, o5, o5', H5, I5, st5, fr5, w5, hin, hnn⟩ := hI
  have stat : ∀ {H' : Hp}, (∀ b ∈ fp, H' b = none) -> ∀ b ∈ fp, b5j (a3q X scope cl s₃.heap.objs.size s₃ H3 fp x y) [] H' b := fun hn b hb =>
   ⟨hn b hb, Nat.ne_of_lt (c6i b hb), fun z => (List.mem_cons.mp (I3.b3y b z)).elim (fun q => (f3 b hb).2.1 q) fun q => (f3 b hb).2.2.1 q, .inl hb, fun y c e => (f3 b hb).2.2.2.2.1 y c (hcl y c e).2, fun p hp => absurd (show p ∈ ([] : List (Addr × Obj)) from hp) (by simp)⟩
  show wpAny _ X.A ((compTurn (.ListComp elt [⟨.Tuple [.Name x px, .Name y py] kk tpos, iter, [cnd], 0⟩] scope pos) 0 (.ref it) (.ref D) (compEnvC scope cl s₃.heap.objs.size X.env)).onRaise (fun x => do noteFrame x (compEnvC scope cl s₃.heap.objs.size X.env); theTreesLotGoes x)) _ _ s5
  refine wpAny_noted ?_
  rw [compTurn_list]
  refine wpAny_bind (wpAny_standAt (wpAny_bind ?_))
  obtain ⟨hD5, alt⟩ := turn i ys H5 hin w5
  rcases alt with ⟨stop, q⟩ | ⟨hlt, go, hsz, step⟩
  ·refine wpAny_mono (T.done (a3q X scope cl s₃.heap.objs.size s₃ H3 fp x y) rfl rfl rfl hc i [] s5 _ H5 _ I5 (stat fr5) st5 stop) (fun r s6 ⟨hr, I6⟩ => ?_) fun _ _ z => z
   subst hr
   refine wpAny_pure ?_
   obtain ⟨m6, hn6, _⟩ := I6.loc
   exact hRR D s₃.heap.objs.size s6 H5 ⟨m6, hn6⟩ (fun h' hs' => I3.d3s f3 I6 hs') (I3.d4y (Nat.le_refl _) I6.free) q
  ·refine wpAny_mono (T.item (a3q X scope cl s₃.heap.objs.size s₃ H3 fp x y) rfl rfl rfl hc i [] s5 _ H5 _ I5 (stat fr5) st5 go) (fun r s6 ⟨u, hr, h6⟩ => ?_) fun _ _ z => z
   subst hr
   refine wpAny_bind (wpAny_mono h6 (fun _ s7 ⟨v, H7, I7, r7, y7, st7, fr7⟩ => ?_) fun _ _ z => z)
   have I7' := I7.pinned (stat fr7) (T.obj _ _ st7)
   obtain ⟨p7, u1, u2, e7, t7, step7⟩ := step v H7 y7
   subst e7
   have G1 := a3u (X := a3q X scope cl s₃.heap.objs.size s₃ H3 fp x y) (pos := px) (i := 0) (x := x) S.nd rfl (.inl (lookup_relabel_local S.own)) (.inr (lookup_relabel_local S.own))
   have G2 := a3u (X := a3q X scope cl s₃.heap.objs.size s₃ H3 fp x y) (pos := py) (i := 1) (x := y) S.nd rfl (.inl (lookup_relabel_local S.f6q)) (.inr (lookup_relabel_local S.f6q))
   have G := d0j (X := a3q X scope cl s₃.heap.objs.size s₃ H3 fp x y) (pos := tpos) (k := kk) (n := 2) hc (b6i G1 (b6i G2 c4i)) rfl rfl
   refine wpAny_bind (wpAny_mono (G _ s7 _ H7 (.ref p7) u (fun σ' H' => σ' = some u1 :: some u2 :: σ /\ H' = H7) I7' r7 ⟨p7, [u1, u2], rfl, SqT.of t7, rfl, _, _, rfl, _, _, rfl, rfl, rfl, rfl⟩) (fun _ s8 hs8 => ?_) fun _ _ z => False.elim z)
   obtain ⟨σ8, H8, I8, rfl, rfl⟩ := hs8
   refine wpAny_bind (wpAny_mono (wpAny_tests_one (hcnd cl s₃.heap.objs.size s₃ H3 fp _ s8 _ _ _ I8 step7)) (fun ok sB hok => ?_) fun _ _ z => False.elim z)
   obtain ⟨HB, IB, qB⟩ := hok
   cases ok with
   | false =>
    have wB : W (i + 1) ys HB := by simpa using qB
    refine wpAny_pure ⟨rfl, n0 - (i + 1), by omega, i + 1, ys, some u1, some u2, _, IB.a6z (pins := []) (pl := b2g fp s7.heap), T.keep _ _ _ st7 (fun b hb o e => (IB.pin (b, o) (List.mem_append_right _ (a1p hb e))).1), fun b hb => ?_, wB, hlt, rfl⟩
    obtain ⟨o, e, d⟩ := T.obj _ _ st7 b hb
    exact (IB.pin (b, o) (List.mem_append_right _ (a1p hb e))).2.1
   | true =>
   rw [if_pos rfl] at qB
   refine wpAny_bind (wpAny_bind (wpAny_mono (he cl s₃.heap.objs.size s₃ H3 fp _ sB _ _ _ IB qB) (fun yv s9 hs9 => ?_) fun _ _ z => False.elim z))
   obtain ⟨y', H9, I9, r9, hD9, k9⟩ := hs9
   refine wpAny_bind (wpAny_mono (b2j (X := a3q X scope cl s₃.heap.objs.size s₃ H3 fp x y) _ s9 _ H9 (.ref D) [y'] (.ref D) [yv] (fun _ H' => H' = upd H9 D (.lst (ys ++ [y']))) I9 rfl (.cons r9 .nil) ⟨D, ys, y', rfl, rfl, hD9, hsz, rfl⟩) (fun _ sA hsA => ?_) fun _ _ z => False.elim z)
   obtain ⟨_, HA, IA, _, rfl⟩ := hsA
   refine wpAny_pure ?_
   have wA := k9 _ a1q.upd a0z
   refine wpAny_pure ⟨rfl, n0 - (i + 1), by omega, i + 1, ys ++ [y'], some u1, some u2, _, IA.a6z (pins := []) (pl := b2g fp s7.heap), T.keep _ _ _ st7 (fun b hb o e => (IA.pin (b, o) (List.mem_append_right _ (List.mem_append_right _ (a1p hb e)))).1), fun b hb => ?_, wA, hlt, rfl⟩
   obtain ⟨o, e, d⟩ := T.obj _ _ st7 b hb
   exact (IA.pin (b, o) (List.mem_append_right _ (List.mem_append_right _ (a1p hb e)))).2.1
 exact codeAny_compStart_list loop (T.self _ 0 _ _ _ (T.keep _ _ _ st3 fun b _ o e => hk1 b o e) loop)
theorem c7g {i : Nat} {y' : Str} {py' spos : Pos} (hN : X.N.Nodup) (hyi : X.N[i]? = some y') (hy : X.env.scope.names.lookup y' = some .local) (hi : PI X (.Tuple [.Name x px, .Name y py] kk tpos) iter wi) (hcnd : ∀ cl C s₃ H₃ fp, PT (a3q X scope cl C s₃ H₃ fp x y) cnd tc) (he : ∀ cl C s₃ H₃ fp, PE (a3q X scope cl C s₃ H₃ fp x y) elt te) (S : b0p X scope x y) (hc : X.calm = true)
  (hsw : swapsWith (.ListComp elt [⟨.Tuple [.Name x px, .Name y py] kk tpos, iter, [cnd], 0⟩] scope pos) (some (.Name y' py')) spos.line X.env = pure true := by rfl)
  (hs : ∀ x, foldedSetIterable iter X.env x = pure x := by intro _; rfl) : PS X (.Assign [.Name y' py'] (.ListComp elt [⟨.Tuple [.Name x px, .Name y py] kk tpos, iter, [cnd], 0⟩] scope pos) spos) (f0v (c6z wi tc te) (c4h i)) := by
 intro pins s σ H D I h
 obtain ⟨cl, hclos, hcl, hcl2⟩ := b0o (env := X.env) (sc := scope) fun y hy => I.ok.has y (S.free _ hy rfl)
 rw [exec_Assign_Name_used _ _ _ _ hsw]
 refine wpAny_bind (wpAny_standAt (wpAny_bind ?_))
 show wpAny _ X.A (do let _ <- comprehension (.ListComp elt [⟨.Tuple [.Name x px, .Name y py] kk tpos, iter, [cnd], 0⟩] scope pos) scope X.env _ (newList []) false (eval iter X.env) (some (assign (.Name y' py') X.env))) _ _ s
 refine wpAny_bind (wpAny_mono (wpAny_comprehension_free (use := some (assign (.Name y' py') X.env)) (Q := fun _ s' => SP X pins D .next s') rfl hs hclos S.kind S.loc ?_) (fun _ s' hq => wpAny_pure (wpAny_pure hq)) fun _ _ e => e)
 refine thn (hi pins s σ H _ I h) fun v s1 h1 => thn h1 fun itv s2 h2 => ?_
 obtain ⟨it, fp, tn, J, H2, e, I2, T, st2, f2, hW⟩ := h2
 subst e
 refine b8v (Q := fun v H' => D.nx (σ.set i (some v)) H') (RR := fun acc C => compPost (model X.prog X.w) X.A X.xe (some (assign (.Name y' py') X.env)) (fun _ s' => SP X pins D .next s') acc C) S hc hcnd he hcl hcl2 I2 T st2 f2 hW fun L C s' H' hm hI hfp hq => ?_
 obtain ⟨m, hn⟩ := hm
 have I' : Inv X pins σ H' s' := hI s'.heap (Heap.SameBut.refl ..)
 show wpAny _ X.A (assign (.Name y' py') X.env (.ref L)) _ _ s'
 refine wpAny_assign_Name (b3z (v := .ref L) I' hN hyi (.inl hy) rfl (fun s'' I'' hsb => ?_) (.inr hy))
 obtain ⟨a, hsame, ha⟩ := hsb
 have nea : C ≠ a := by
  rcases ha with z | z
  ·rw [z]; exact hfp.2.1
  ·exact fun q => hfp.2.2.2.2.1 y' a z q.symm
 refine ⟨m, hn.sameBut hsame nea, fun h' hs' => ⟨_, H', I''.turned (t' := s''.toks) (it := C) (fun b o hb e => hs'.extBut b o hb e) hfp.1 hfp.2.1 hfp.2.2.2.1 hfp.2.2.2.2.1 hfp.2.2.2.2.2, hq⟩⟩
end
theorem b5k {K : PySem.W.Frag} {a D : Addr} {ps : List Addr} {xs : List (V × V)} {tc : TT} {te : TE} {σ : St} {H0 H : Hp} {Q : VK} (f : V × V -> Bool) (g : V × V -> V) (n0 : H0 D = none) (S : Same H0 H) (hD : H D = some (.lst [])) (hS : SqL K H0 a (ps.map V.ref)) (hsz : ps.length <= sizeLine)
  (hl : ps.length = xs.length) (hp : ∀ (i : Nat) p x, ps[i]? = some p -> xs[i]? = some x -> H0 p = some (.tup [x.1, x.2]))
  (hc : ∀ (i : Nat) x H' (Q' : Bool -> Hp -> Prop), xs[i]? = some x -> Same H0 H' -> Q' (f x) H' -> tc (some x.1 :: some x.2 :: σ) H' Q')
  (he : ∀ (i : Nat) x H' (Q' : VK), xs[i]? = some x -> f x = true -> Same H0 H' -> Q' (g x) H' -> te (some x.1 :: some x.2 :: σ) H' Q')
  (q : ∀ H', Same H0 H' -> H' D = some (.lst ((xs.filter f).map g)) -> Q (.ref D) H') : c0t (Itl K a) tc te D σ H Q ⟨⟩ := by
 refine ⟨ps.length, fun i ys H' => Same H0 H' /\ H' D = some (.lst ys) /\ ys = ((xs.take i).filter f).map g, ⟨S, hD, by simp⟩, fun i ys H' hi w => ?_⟩
 obtain ⟨S', h', e⟩ := w
 refine ⟨h', ?_⟩
 have e2 : SqL K H' a (ps.map V.ref) := S'.seq hS
 by_cases hlt : i < ps.length
 ·have hyl : ys.length <= i := by
   rw [e, List.length_map]
   exact Nat.le_trans (List.length_filter_le _ _) (by rw [List.length_take]; omega)
  refine .inr ⟨hlt, ⟨_, V.ref ps[i], e2, by simp [hlt]⟩, by omega, fun x H2 y => ?_⟩
  obtain ⟨e', y⟩ := y
  subst e'
  have hx := y _ e2
  rw [List.getElem?_map, List.getElem?_eq_getElem hlt] at hx
  cases hx
  have hxi : xs[i]? = some (xs[i]'(by omega)) := List.getElem?_eq_getElem _
  have et : xs.take (i + 1) = xs.take i ++ [xs[i]'(by omega)] := by rw [List.take_add_one, hxi]; rfl
  have hpi := S' _ _ (hp i _ _ (List.getElem?_eq_getElem hlt) hxi)
  generalize xs[i]'(by omega) = v at hxi et hpi
  refine ⟨_, v.1, v.2, rfl, hpi, hc i v _ _ hxi S' ?_⟩
  cases hf : f v with
  | true =>
   rw [if_pos rfl]
   refine he i v _ _ hxi hf S' ⟨h', fun H3 s3 h3 => ⟨S'.step n0 s3, h3, ?_⟩⟩
   rw [et, List.filter_append, List.map_append, <- e, List.filter_cons, if_pos hf]
   rfl
  | false =>
   rw [if_neg Bool.false_ne_true]
   refine ⟨S', h', ?_⟩
   rw [et, List.filter_append, List.filter_cons, if_neg (by rw [hf]; exact Bool.false_ne_true), e]
   simp
 ·have e3 : i = ps.length := by omega
  subst e3
  refine .inl ⟨⟨_, e2, by simp⟩, q H' S' ?_⟩
  rw [h', e, List.take_of_length_le (by omega)]
end L2
namespace L2
open PySem PySem.Spec PyProof.Rows
theorem hu1 {n : Nat} (h : n + 64 < cLine) : n + 1 < cLine := by omega
noncomputable def kT (k : Str) : Key := .inr k
noncomputable def d3y (x y : V) (H : Hp) (Q : VK) : Prop := match x, y with
 | .ref a, .str k => (match H a with
  | some (.dK kvs) => ∃ v, b2v kvs (kT k) = some v /\ Q v H
  | _ => False)
 | _, _ => False
noncomputable def d3z (neg : Bool) (x y : V) (H : Hp) (Q : VK) : Prop := match x, y with
 | .ref a, .str k => (match H a with
  | some (.dK kvs) => Q (.bl ((b2v kvs (kT k)).isSome != neg)) H
  | _ => False)
 | _, _ => False
theorem c9n {x y : V} {H : Hp} {Q : VK} (h : d3y x y H Q) : ∃ a k kvs v, x = .ref a /\ y = .str k /\ H a = some (.dK kvs) /\ b2v kvs (kT k) = some v /\ Q v H := by
 match x, y, h with
 | .ref a, .str k, h =>
  have h' : (match H a with
   | some (.dK kvs) => ∃ v, b2v kvs (kT k) = some v /\ Q v H
   | _ => False) := h
  split at h'
  ·rename_i kvs e
   obtain ⟨v, e1, q⟩ := h'
   exact ⟨a, k, kvs, v, rfl, rfl, e, e1, q⟩
  ·exact h'.elim
theorem c9o {x y : V} {H : Hp} {Q : VK} {neg : Bool} (h : d3z neg x y H Q) : ∃ a k kvs, x = .ref a /\ y = .str k /\ H a = some (.dK kvs) /\ Q (.bl ((b2v kvs (kT k)).isSome != neg)) H := by
 match x, y, h with
 | .ref a, .str k, h =>
  have h' : (match H a with
   | some (.dK kvs) => Q (.bl ((b2v kvs (kT k)).isSome != neg)) H
   | _ => False) := h
  split at h'
  ·rename_i kvs e
   exact ⟨a, k, kvs, rfl, rfl, e, h'⟩
  ·exact h'.elim
noncomputable def d1l (td ty : TE) : TE := fun σ H Q => td σ H fun x H1 => ty σ H1 fun y H2 => d3y x y H2 Q
noncomputable def c2j (ty td : TE) : TE := fun σ H Q => ty σ H fun y H1 => td σ H1 fun x H2 => d3z true x y H2 Q
noncomputable def d4g (x y v : V) (H : Hp) (Q : Hp -> Prop) : Prop := match x, y with
 | .ref a, .str k => (match H a with
  | some (.dK kvs) => kvs.length < sizeLine /\ ∀ H1, a1q a H H1 -> H1 a = some (.dK (putK kvs (kT k) v)) -> Q H1
  | _ => False)
 | _, _ => False
theorem c9p {x y v : V} {H : Hp} {Q : Hp -> Prop} (h : d4g x y v H Q) : ∃ a k kvs, x = .ref a /\ y = .str k /\ H a = some (.dK kvs) /\ kvs.length < sizeLine /\ ∀ H1, a1q a H H1 -> H1 a = some (.dK (putK kvs (kT k) v)) -> Q H1 := by
 match x, y, h with
 | .ref a, .str k, h =>
  have h' : (match H a with
   | some (.dK kvs) => kvs.length < sizeLine /\ ∀ H1, a1q a H H1 -> H1 a = some (.dK (putK kvs (kT k) v)) -> Q H1
   | _ => False) := h
  split at h'
  ·rename_i kvs e
   exact ⟨a, k, kvs, rfl, rfl, e, h'⟩
  ·exact h'.elim
noncomputable def d1m (td ty tv : TE) : TS := fun D σ H => tv σ H fun v H1 => td σ H1 fun x H2 => ty σ H2 fun y H3 => d4g x y v H3 (D.nx σ)
noncomputable def d1n (tk tv : TE) : TE := fun σ H Q => ∀ p H1, H p = none -> Same H H1 -> H1 p = some (.dK []) -> tk σ H1 fun x H2 => tv σ H2 fun y H3 => ∃ k, x = .str k /\ H3 p = some (.dK []) /\ ∀ H4, a1q p H3 H4 -> H4 p = some (.dK [(kT k, y)]) -> Q (.ref p) H4
section
variable {X : Cx} {o i e value : Expr} {pos pos' tpos : Pos} {td ty tv tk : TE}
theorem c2k (hu : X.A.units + 1 < cLine) (ho : PE X o td) (hi : PE X i ty) (hs : f5n i) : PE X (.Subscript o i pos) (d1l td ty) := by
 intro pins s σ H Q I h
 refine d2s PySem.F.slot_dict_getitem.lookup hs (thn (ho pins s σ H _ I h) fun u s1 ⟨x, H1, I1, rx, q1⟩ => thn (hi pins s1 σ H1 _ I1 q1) fun iv s2 ⟨y, H2, I2, ry, q⟩ => ?_)
 obtain ⟨a, k, kvs, v, ex, ey, e, ev, q2⟩ := c9n q
 subst ex ey
 obtain rfl : u = Value.ref a := rx
 have g : b8j H2 a (kV (kT k)) (some v) := ev ▸ b8j.k e
 exact ⟨c0j I2 g, c5p hu I2 g ry fun w' s3 I3 rw' => ⟨v, H2, I3, rw', q2⟩⟩
theorem c3k (hu : X.A.units + 1 < cLine) (hi : PE X i ty) (ho : PE X o td) : PC X .NotIn i o (c2j ty td) := by
 intro pins s σ H Q I h
 refine thn (hi pins s σ H _ I h) fun iv s1 ⟨y, H1, I1, ry, q1⟩ => thn (ho pins s1 σ H1 _ I1 q1) fun u s2 ⟨x, H2, I2, rx, q⟩ => ?_
 obtain ⟨a, k, kvs, ex, ey, e, q2⟩ := c9o q
 subst ex ey
 obtain rfl : u = Value.ref a := rx
 have g : b8j H2 a (kV (kT k)) (b2v kvs (kT k)) := b8j.k e
 rw [Bool.bne_true] at q2
 exact d2r hu I2 g ry fun s3 I3 => ⟨.bl (!(b2v kvs (kT k)).isSome), H2, I3, rfl, q2⟩
theorem d4h {op : CmpOp} {a b : Expr} {t : TE} (h : PC X op a b t) (h1 : behindInMarks op b = false) : PT X (.Compare a [op] [b] pos) (tBF t) := by
 intro pins s σ H Q I h2
 refine (d5o h h1) pins s σ H _ I ?_
 unfold tB
 unfold tBF at h2
 exact cast (congrArg (t σ H) (funext fun x => funext fun H1 => propext ⟨fun z => f2v z, fun ⟨k, e, q⟩ => by subst e; exact q⟩)) h2
theorem c9q (hu : X.A.units + 1 < cLine) (ho : PE X o td) (hi : PE X i ty) (hv : PE X value tv) (hs : swapsWith value (some (.Subscript o i pos')) pos.line X.env = pure false) :
  PS X (.Assign [.Subscript o i pos'] value pos) (d1m td ty tv) := by
 intro pins s σ H D I h
 refine wpAny_Assign_Subscript (thn (hv pins s σ H _ I h) fun r s1 ⟨v, H1, I1, rv, q1⟩ => thn (ho pins s1 σ H1 _ I1 q1) fun u s2 ⟨x, H2, I2, rx, q2⟩ => thn (hi pins s2 σ H2 _ I2 q2) fun iv s3 ⟨y, H3, I3, ry, q⟩ => ?_) hs
 obtain ⟨a, k, kvs, ex, ey, e, hl, q3⟩ := c9p q
 subst ex ey
 obtain rfl : u = Value.ref a := rx
 exact c5q hu I3 (d0o.k (k := kT k) e hl) ry rv fun s4 I4 => ⟨σ, _, I4, q3 _ a1q.upd a0z⟩
theorem c9r (hk : PE X i tk) (hv : PE X value tv) : PE X (.Dict [some i] [value] pos) (d1n tk tv) := by
 intro pins s σ H Q I q
 have hn := I.hok.fresh (Nat.le_refl s.heap.objs.size)
 have I1 := I.laid (a := s.heap.objs.size) (o := .dK []) (h' := s.heap.push { cls := .type "dict", data := .dict #[] }) (t' := s.toks) (fun _ _ q => Heap.get?_push_of_some _ q) (Nat.le_refl _) (c8t s.heap I.big)
 have h : PPs X pos [some i] [value] [(tk, tv)] := c8u hk hv d2t
 refine wpAny_Dict_walk (knd := a3t X.prog X.w) rfl rfl (by simp) (by simp) (thn (h pins _ σ _ (fun ps H3 => match ps with
  | [(x, y)] => ∃ k, x = .str k /\ H3 s.heap.objs.size = some (.dK []) /\ ∀ H4, a1q s.heap.objs.size H3 H4 -> H4 s.heap.objs.size = some (.dK [(kT k, y)]) -> Q (.ref s.heap.objs.size) H4
  | _ => False) I1 (q s.heap.objs.size _ hn (Same.upd hn) a0z)) fun ws s2 ⟨ps, H2, I2, rel, qp⟩ => ?_)
 match ps, rel, qp with
 | [(x, y)], rel, ⟨k, ex, e, q2⟩ =>
  subst ex
  obtain ⟨rs, c, rk⟩ := b5v (P := X.prog) (w := X.w) (kvs := [(kT k, y)]) rel
  obtain ⟨z, hd, vs0, r0, dd⟩ := d6s I2.hok e
  cases r0
  refine ⟨rs, c, dd, fun h' dd' hs => ⟨.ref s.heap.objs.size, _, ?_, rfl, q2 _ a1q.upd a0z⟩⟩
  have hz : (b8k [] [(kT k, y)]).length <= sizeLine := by
   have h1 := b2l [(kT k, y)] []
   rw [List.length_nil, List.length_singleton] at h1
   rw [sizeLine_eq]; omega
  have he : ∃ q, h'.get? s.heap.objs.size = some q := let ⟨q, _, _, hq, _⟩ := dd'; ⟨q, hq⟩
  exact c0i I2 (by rw [e]; exact True.intro) hs he (d0p hz hd (rk.merge .nil) dd')
end
noncomputable def f6v : V -> Option Int -> Option Int -> Option Int -> Hp -> VK -> Prop := fun x l u t H Q => match x with
 | .ref a => (match H a with
  | some (.lst xs) => l = none /\ u = none /\ t = some (-1) /\ New H (.lst xs.reverse) Q ⟨⟩
  | _ => False)
 | _ => False
noncomputable def d9r (te : TE) (tl th ts : TO) : TE := fun σ H Q => te σ H fun x H1 => tl σ H1 fun l H2 => th σ H2 fun u H3 => ts σ H3 fun st H4 => f6v x l u st H4 Q
theorem c3l {X : Cx} {e : Expr} {te : TE} {lo hi : Option Expr} {st : Expr} {tl th ts : TO} {pos p2 : Pos} (he : PE X e te) (hl : PO X lo tl) (hu : PO X hi th) (hs : PO X (some st) ts) : PE X (.Subscript e (.Slice lo hi (some st) p2) pos) (d9r te tl th ts) := by
 intro pins s σ H Q I h
 refine Subscript_ (thn (he pins s σ H _ I h) fun v s1 ⟨x, H1, I1, r1, q1⟩ => ?_)
 refine wpAny_Slice (thn (hl pins s1 σ H1 _ I1 q1) fun vl s2 ⟨l, H2, I2, pl, q2⟩ => thn (hu pins s2 σ H2 _ I2 q2) fun vu s3 ⟨u, H3, I3, pu, q3⟩ => thn (hs pins s3 σ H3 _ I3 q3) fun vt s4 ⟨t, H4, I4, pt, q4⟩ => ?_)
 have I5 : Inv X pins σ H4 { s4 with heap := s4.heap.push { cls := .type "slice", data := .fields #[vl, vu, vt] } } := I4.kept (t' := s4.toks) fun b ob q => Heap.get?_push_of_some _ q
 cases x with
 | ref a =>
  cases r1
  have q4' : (match H4 a with
   | some (.lst xs) => l = none /\ u = none /\ t = some (-1) /\ New H4 (.lst xs.reverse) Q ⟨⟩
   | _ => False) := q4
  split at q4'
  ·rename_i xs e4
   obtain ⟨rfl, rfl, rfl, k⟩ := q4'
   obtain ⟨its, r, ht, hz⟩ := I5.list (SqL.of e4)
   have hlen := r.length
   show wpAny (model X.prog X.w) X.A (subscriptTail e (.Slice lo hi (some st) p2) (.ref a) (.ref s4.heap.objs.size)) (EP X pins σ Q) X.xe { s4 with heap := s4.heap.push { cls := .type "slice", data := .fields #[vl, vu, vt] } }
   refine tail_any (ops := [.ref a, .ref s4.heap.objs.size]) ht.isList.typeIs slot_list_getitem.lookup ?_ (by with_unfolding_all rfl)
   refine wpAny_getItem_list_slice ht.isList (Heap.IsSliceOf.new ..) pl pu pt (by decide) ?_ (by rw [List.size_toArray]; omega)
   rw [PySem.W.krv_pick]
   refine ⟨.ref _, _, I5.laid (t' := s4.toks) (o := .lst xs.reverse) (fun b ob q => Heap.get?_push_of_some _ q) (Nat.le_refl _) ?_, rfl, k.raw _ (I5.hok.fresh (Nat.le_refl _))⟩
   exact ⟨by rw [List.length_reverse]; omega, _, 0, r.reverse, Heap.get?_push_size _ rfl⟩
  ·exact q4'.elim
 | _ => exact False.elim q4
end L2
set_option maxHeartbeats 4000000
namespace My
open PySem PySem.Spec PyProof.Rows L2
open PySem.Builtin.Int (intBits)
noncomputable def top (i : Nat) : Stmt := PySem.Challenge.pw_mixbench_k54_whole_order.main.body.getD i (.Pass ⟨0, 0, 0, 0⟩)
noncomputable abbrev a4j : Stmt := (inClass (top 28) 1)
noncomputable abbrev a4z : Stmt := (inClass (top 29) 4)
noncomputable abbrev a7y : Stmt := (top 61)
noncomputable abbrev a5g : Stmt := (top 64)
noncomputable abbrev a2u : Stmt := (inClass (top 65) 0)
noncomputable abbrev a2n : Stmt := (inClass (top 65) 5)
noncomputable abbrev a6o : Stmt := (top 72)
noncomputable abbrev a4k : Stmt := (inClass (top 73) 0)
noncomputable abbrev a1l : Stmt := (inClass (top 73) 1)
noncomputable abbrev a3k : Stmt := (inClass (top 73) 2)
noncomputable abbrev a5h : Stmt := (inClass (top 73) 3)
noncomputable abbrev a4l : Stmt := (inClass (top 73) 4)
noncomputable abbrev a5i : Stmt := (inClass (top 73) 5)
noncomputable abbrev a2o : Stmt := (inClass (top 73) 11)
noncomputable abbrev a1z : Stmt := (inClass (top 73) 12)
noncomputable abbrev a3l : Stmt := (top 75)
noncomputable abbrev a3w : Stmt := (top 76)
noncomputable abbrev a5j : Stmt := (top 77)
noncomputable abbrev a1j : Stmt := (top 78)
noncomputable abbrev c3m : Stmt := (top 79)
theorem b6r : a1n ["self"] ["self"] (a0l a4j) := ⟨rfl, rfl, rfl, by decide +kernel, rfl, by decide +kernel, by decide +kernel⟩
theorem b8w : a1n ["self", "gain"] ["self"] (a0l a4z) := ⟨rfl, rfl, rfl, by decide +kernel, rfl, by decide +kernel, by decide +kernel⟩
theorem c3n : a1n ["word", "values"] ["word"] (a0l a7y) := ⟨rfl, rfl, rfl, by decide +kernel, rfl, by decide +kernel, by decide +kernel⟩
theorem c0u : a1n ["words"] ["words"] (a0l a5g) := ⟨rfl, rfl, rfl, by decide +kernel, rfl, by decide +kernel, by decide +kernel⟩
theorem b6s : a1n ["self", "words"] ["self", "words"] (a0l a2u) := ⟨rfl, rfl, rfl, by decide +kernel, rfl, by decide +kernel, by decide +kernel⟩
theorem b5l : a1n ["self"] ["self"] (a0l a2n) := ⟨rfl, rfl, rfl, by decide +kernel, rfl, by decide +kernel, by decide +kernel⟩
theorem c3o : a1n ["value"] ["value"] (a0l a6o) := ⟨rfl, rfl, rfl, by decide +kernel, rfl, by decide +kernel, by decide +kernel⟩
theorem b6t : a1n ["self"] ["self"] (a0l a4k) := ⟨rfl, rfl, rfl, by decide +kernel, rfl, by decide +kernel, by decide +kernel⟩
theorem b2q : a1n ["self", "name"] ["self", "name"] (a0l a1l) := ⟨rfl, rfl, rfl, by decide +kernel, rfl, by decide +kernel, by decide +kernel⟩
theorem b5m : a1n ["self", "name"] ["self", "name"] (a0l a3k) := ⟨rfl, rfl, rfl, by decide +kernel, rfl, by decide +kernel, by decide +kernel⟩
theorem b8y : a1n ["self", "name"] ["self", "name"] (a0l a5h) := ⟨rfl, rfl, rfl, by decide +kernel, rfl, by decide +kernel, by decide +kernel⟩
theorem a8k : a1n ["self", "source", "bus", "words", "chain", "ring"] ["self", "source", "bus", "words"] (a0l a4l) := ⟨rfl, rfl, rfl, by decide +kernel, rfl, by decide +kernel, by decide +kernel⟩
theorem a5t : a1n ["self", "start", "end", "ways", "waiting", "source", "send"] ["self", "start", "end"] (a0l a5i) := ⟨rfl, rfl, rfl, by decide +kernel, rfl, by decide +kernel, by decide +kernel⟩
theorem b0u : a1n ["self", "placed"] ["self"] (a0l a2o) := ⟨rfl, rfl, rfl, by decide +kernel, rfl, by decide +kernel, by decide +kernel⟩
theorem a9h : a1n ["self", "bus", "placed", "send"] ["self", "bus", "placed"] (a0l a1z) := ⟨rfl, rfl, rfl, by decide +kernel, rfl, by decide +kernel, by decide +kernel⟩
theorem b5n : a1n ["_law_script", "_law_k"] ["_law_script", "_law_k"] (a0l a3l) := ⟨rfl, rfl, rfl, by decide +kernel, rfl, by decide +kernel, by decide +kernel⟩
theorem a1k : a1n ["_law_cell", "_law_letters", "_law_mixed", "_law_base", "_law_at", "_law_names_here", "_law_k", "_law_name", "_law_j"] ["_law_cell"] (a0l a3w) := ⟨rfl, rfl, rfl, by decide +kernel, rfl, by decide +kernel, by decide +kernel⟩
theorem a4m : a1n ["_law_sends", "_law_first", "_law_last", "_law_reached", "_law_at", "_law_source", "_law_bus"] ["_law_sends", "_law_first", "_law_last"] (a0l a5j) := ⟨rfl, rfl, rfl, by decide +kernel, rfl, by decide +kernel, by decide +kernel⟩
theorem a2v : a1n ["_law_buses", "_law_sends", "_law_order", "_law_k", "_law_ready", "_law_bus", "_law_heard"] ["_law_buses", "_law_sends", "_law_order"] (a0l a1j) := ⟨rfl, rfl, rfl, by decide +kernel, rfl, by decide +kernel, by decide +kernel⟩
theorem a6p : a1n ["_law_script", "_law_names_here", "_law_many", "_law_turn", "_law_buses", "_law_patch", "_law_bus", "_law_sends", "_law_cell", "_law_mixed", "_law_source", "_law_told"] ["_law_script"] (a0l c3m) := ⟨rfl, rfl, rfl, by decide +kernel, rfl, by decide +kernel, by decide +kernel⟩
set_option genInjectivity false in
structure Ad where
 a0w : Addr
 a8l : FuncData
 a2w : Addr
 a9n : FuncData
 a6q : Addr
 b3h : FuncData
 a5k : Addr
 b1n : FuncData
 a2h : Addr
 a8m : FuncData
 a1r : Addr
 a7q : FuncData
 a6r : Addr
 b3i : FuncData
 a2i : Addr
 a8n : FuncData
 a0u : Addr
 a4r : FuncData
 a1s : Addr
 a7r : FuncData
 a2y : Addr
 a9o : FuncData
 a2j : Addr
 a8o : FuncData
 a2z : Addr
 a9p : FuncData
 a1t : Addr
 a7s : FuncData
 a0y : Addr
 a5w : FuncData
 a2p : Addr
 a7t : FuncData
 a3y : Addr
 a9q : FuncData
 a3z : Addr
 a9r : FuncData
 a1v : Addr
 a6s : FuncData
 c0v : Addr
 c7h : FuncData
 b0v : Addr
 a7h : Addr
 a2g : Addr
 a0q : Addr
 b8z : Value
 b0w : Value
 b3n : Value
 a7z : Addr
 wd : World
structure Tx (K : PySem.W.Frag) (mg : Str -> Option Value) (A : Ad) : Prop where
 a7i : Fun K "fresh" "Part.fresh" a4j A.a0w A.a8l
 a9s : Binds K A.a8l ["self"] []
 a8p : Fun K "word" "Gain.word" a4z A.a2w A.a9n
 b1o : Binds K A.a9n ["self"] []
 a9t : Fun K "part_of" "part_of" a7y A.a6q A.b3h
 b4t : Binds K A.b3h ["word"] []
 c7i : mg "part_of" = some (.ref A.a6q)
 a8g : Fun K "parts_of" "parts_of" a5g A.a5k A.b1n
 b3j : Binds K A.b1n ["words"] []
 c3p : mg "parts_of" = some (.ref A.a5k)
 a7j : Fun K "__init__" "Chain.__init__" a2u A.a2h A.a8m
 a9u : Binds K A.a8m ["self", "words"] []
 a5y : Fun K "words" "Chain.words" a2n A.a1r A.a7q
 a8q : Binds K A.a7q ["self"] []
 a9v : Fun K "is_name" "is_name" a6o A.a6r A.b3i
 b4u : Binds K A.b3i ["value"] []
 c7j : mg "is_name" = some (.ref A.a6r)
 a7k : Fun K "__init__" "Patch.__init__" a4k A.a2i A.a8n
 a9w : Binds K A.a8n ["self"] []
 a3m : Fun K "check_new" "Patch.check_new" a1l A.a0u A.a4r
 a3n : Binds K A.a4r ["self", "name"] []
 a5z : Fun K "track" "Patch.track" a3k A.a1s A.a7r
 a8r : Binds K A.a7r ["self", "name"] []
 a8s : Fun K "bus" "Patch.bus" a5h A.a2y A.a9o
 a8t : Binds K A.a9o ["self", "name"] []
 a7l : Fun K "send" "Patch.send" a4l A.a2j A.a8o
 a9y : Binds K A.a8o ["self", "source", "bus", "words"] []
 a8u : Fun K "way" "Patch.way" a5i A.a2z A.a9p
 b1p : Binds K A.a9p ["self", "start", "end"] []
 a6g : Fun K "order" "Patch.order" a2o A.a1t A.a7s
 a6h : Binds K A.a7s ["self"] []
 a4s : Fun K "is_next" "Patch.is_next" a1z A.a0y A.a5w
 a6t : Binds K A.a5w ["self", "bus", "placed"] []
 a1u : Fun K "_law_cell_at" "_law_cell_at" a3l A.a2p A.a7t
 a3o : Binds K A.a7t ["_law_script", "_law_k"] []
 a6i : mg "_law_cell_at" = some (.ref A.a2p)
 a6u : Fun K "_law_names" "_law_names" a3w A.a3y A.a9q
 b1q : Binds K A.a9q ["_law_cell"] []
 c0w : mg "_law_names" = some (.ref A.a3y)
 a6v : Fun K "_law_leads" "_law_leads" a5j A.a3z A.a9r
 b1r : Binds K A.a9r ["_law_sends", "_law_first", "_law_last"] []
 c0y : mg "_law_leads" = some (.ref A.a3z)
 a2r : Fun K "_law_is_order" "_law_is_order" a1j A.a1v A.a6s
 a5p : Binds K A.a6s ["_law_buses", "_law_sends", "_law_order"] []
 b0y : mg "_law_is_order" = some (.ref A.a1v)
 c9s : Fun K "law" "law" c3m A.c0v A.c7h
 d9s : Binds K A.c7h ["_law_script"] []
 m_law : mg "law" = some (.ref A.c0v)
 c7k : mg "all" = none
 c7l : mg "int" = none
 a3g : mg "isinstance" = none
 b1s : mg "len" = none
 b6g : mg "list" = none
 a9z : mg "range" = none
 c7m : mg "str" = none
 b6u : mg "Part" = some (.ref A.b0v)
 b6v : mg "Gain" = some (.ref A.a7h)
 b2r : mg "Chain" = some (.ref A.a2g)
 b2s : mg "Patch" = some (.ref A.a0q)
 a0r : Cls K A.a0q
 a0g : a4p K A.a0q "track_names"
 a0i : a4p K A.a0q "bus_names"
 a0h : a4p K A.a0q "told_sends"
 a0j : a4p K A.a0q "told_outs"
 d4i : Mk K A.a0q A.a2i
 a7m : Meth K A.a0q "check_new" A.a0u
 b5o : Meth K A.a0q "track" A.a1s
 b3o : Meth K A.a0q "bus" A.a2y
 b6w : Meth K A.a0q "send" A.a2j
 b9g : Meth K A.a0q "way" A.a2z
 b0z : Meth K A.a0q "order" A.a1t
 b3r : Meth K A.a0q "is_next" A.a0y
 a8v : Cls K A.a2g
 a0v : a4p K A.a2g "parts"
 a0s : a4p K A.a2g "states"
 d4j : Mk K A.a2g A.a2h
 b5p : Meth K A.a2g "words" A.a1r
 f4h : Cls K A.b0v
 c9t : Meth K A.b0v "fresh" A.a0w
 c7n : Cls K A.a7h
 a7n : a4p K A.a7h "gain"
 b9h : Meth K A.a7h "word" A.a2w
 b6y : Meth K A.a7h "fresh" A.a0w
 a8h : mg "LETTERS" = some A.b8z
 c3q : RelV (.str "abcdefghijklmnopqrstuvwxyz") A.b8z
 a3h : mg "MOST_LETTERS" = some A.b0w
 b4v : RelV (.int 8) A.b0w
 a4t : mg "MOST_PARTS" = some A.b3n
 b6z : RelV (.int 8) A.b3n
 b0q : mg "READERS" = some (.ref A.a7z)
 d5g : f3u K A.wd A.a7z
theorem nq0 : (("track_names" : Str) == ("bus_names" : Str)) = false := by decide +kernel
theorem nq1 : (("track_names" : Str) == ("told_sends" : Str)) = false := by decide +kernel
theorem nq2 : (("track_names" : Str) == ("told_outs" : Str)) = false := by decide +kernel
theorem nq3 : (("bus_names" : Str) == ("track_names" : Str)) = false := by decide +kernel
theorem nq4 : (("bus_names" : Str) == ("told_sends" : Str)) = false := by decide +kernel
theorem nq5 : (("bus_names" : Str) == ("told_outs" : Str)) = false := by decide +kernel
theorem nq6 : (("told_sends" : Str) == ("track_names" : Str)) = false := by decide +kernel
theorem nq7 : (("told_sends" : Str) == ("bus_names" : Str)) = false := by decide +kernel
theorem nq8 : (("told_sends" : Str) == ("told_outs" : Str)) = false := by decide +kernel
theorem nq9 : (("told_outs" : Str) == ("track_names" : Str)) = false := by decide +kernel
theorem nq10 : (("told_outs" : Str) == ("bus_names" : Str)) = false := by decide +kernel
theorem nq11 : (("told_outs" : Str) == ("told_sends" : Str)) = false := by decide +kernel
theorem nq12 : (("__init__" : Str) == ("track_names" : Str)) = false := by decide +kernel
theorem nq13 : (("__init__" : Str) == ("bus_names" : Str)) = false := by decide +kernel
theorem nq14 : (("__init__" : Str) == ("told_sends" : Str)) = false := by decide +kernel
theorem nq15 : (("__init__" : Str) == ("told_outs" : Str)) = false := by decide +kernel
theorem nq16 : (("check_new" : Str) == ("track_names" : Str)) = false := by decide +kernel
theorem nq17 : (("check_new" : Str) == ("bus_names" : Str)) = false := by decide +kernel
theorem nq18 : (("check_new" : Str) == ("told_sends" : Str)) = false := by decide +kernel
theorem nq19 : (("check_new" : Str) == ("told_outs" : Str)) = false := by decide +kernel
theorem nq20 : (("track" : Str) == ("track_names" : Str)) = false := by decide +kernel
theorem nq21 : (("track" : Str) == ("bus_names" : Str)) = false := by decide +kernel
theorem nq22 : (("track" : Str) == ("told_sends" : Str)) = false := by decide +kernel
theorem nq23 : (("track" : Str) == ("told_outs" : Str)) = false := by decide +kernel
theorem nq24 : (("bus" : Str) == ("track_names" : Str)) = false := by decide +kernel
theorem nq25 : (("bus" : Str) == ("bus_names" : Str)) = false := by decide +kernel
theorem nq26 : (("bus" : Str) == ("told_sends" : Str)) = false := by decide +kernel
theorem nq27 : (("bus" : Str) == ("told_outs" : Str)) = false := by decide +kernel
theorem nq28 : (("send" : Str) == ("track_names" : Str)) = false := by decide +kernel
theorem nq29 : (("send" : Str) == ("bus_names" : Str)) = false := by decide +kernel
theorem nq30 : (("send" : Str) == ("told_sends" : Str)) = false := by decide +kernel
theorem nq31 : (("send" : Str) == ("told_outs" : Str)) = false := by decide +kernel
theorem nq32 : (("way" : Str) == ("track_names" : Str)) = false := by decide +kernel
theorem nq33 : (("way" : Str) == ("bus_names" : Str)) = false := by decide +kernel
theorem nq34 : (("way" : Str) == ("told_sends" : Str)) = false := by decide +kernel
theorem nq35 : (("way" : Str) == ("told_outs" : Str)) = false := by decide +kernel
theorem nq36 : (("order" : Str) == ("track_names" : Str)) = false := by decide +kernel
theorem nq37 : (("order" : Str) == ("bus_names" : Str)) = false := by decide +kernel
theorem nq38 : (("order" : Str) == ("told_sends" : Str)) = false := by decide +kernel
theorem nq39 : (("order" : Str) == ("told_outs" : Str)) = false := by decide +kernel
theorem nq40 : (("is_next" : Str) == ("track_names" : Str)) = false := by decide +kernel
theorem nq41 : (("is_next" : Str) == ("bus_names" : Str)) = false := by decide +kernel
theorem nq42 : (("is_next" : Str) == ("told_sends" : Str)) = false := by decide +kernel
theorem nq43 : (("is_next" : Str) == ("told_outs" : Str)) = false := by decide +kernel
theorem nq44 : (("parts" : Str) == ("states" : Str)) = false := by decide +kernel
theorem nq45 : (("states" : Str) == ("parts" : Str)) = false := by decide +kernel
theorem nq46 : (("__init__" : Str) == ("parts" : Str)) = false := by decide +kernel
theorem nq47 : (("__init__" : Str) == ("states" : Str)) = false := by decide +kernel
theorem nq48 : (("words" : Str) == ("parts" : Str)) = false := by decide +kernel
theorem nq49 : (("words" : Str) == ("states" : Str)) = false := by decide +kernel
theorem nq50 : (("__init__" : Str) == ("gain" : Str)) = false := by decide +kernel
theorem nq51 : (("word" : Str) == ("gain" : Str)) = false := by decide +kernel
theorem nq52 : (("fresh" : Str) == ("gain" : Str)) = false := by decide +kernel
seal PE PT PA PS PSs PI PO PW PG PGs PEX PSX
local macro_rules | `(tactic| walk_at "bits") => `(tactic| first | with_reducible assumption | exact intBits_le_64 (by omega) (by omega) | exact (intBits_le_iff (m := 250)).mpr (by decide) | ((with_reducible apply intBits_mul_le) <;> walk_at "bits") | ((with_reducible apply intBits_add_le) <;> walk_at "bits") | ((with_reducible apply intBits_sub_le) <;> walk_at "bits") | ((with_reducible apply intBits_neg_le) <;> walk_at "bits") | ((with_reducible apply intBits_natAbs_le) <;> walk_at "bits") | ((with_reducible apply intBits_fdiv_le) <;> walk_at "bits") | ((with_reducible apply intBits_fmod_le) <;> walk_at "bits"))
local macro_rules | `(tactic| walk_at "mul") => `(tactic| first | exact IntMulOk.of_right (intBits_le_64 (by omega) (by omega)) | exact IntMulOk.of_left (intBits_le_64 (by omega) (by omega)) | ((with_reducible apply IntMulOk.of_le) <;> first | walk_at "bits" | decide))
local macro_rules | `(tactic| walk_at "le") => `(tactic| ((with_reducible apply Nat.le_trans) <;> first | walk_at "bits" | decide))
variable {P : Program} {w : World} {K : PySem.W.Frag} {mg : Str -> Option Value} {base : Heap} {A : Ad}
noncomputable def b2t (x : Str) : Prop := x.length ≤ 8 ∧ x ≠ Str.ofString "" ∧ ∀ c ∈ x.cps.toList, 97 ≤ c ∧ c ≤ 122
noncomputable def c2l : Sp := fun vs H Q _ => match vs with
 | [.str x] => b2t x /\ (∀ H1, Same H H1 -> Q (.bl true) H1)
 | _ => False
noncomputable def f1m : Sp := fun _ _ _ _ => False
noncomputable def d1o : Sp := fun vs H Q _ => match vs with
 | [.ref l] => H l = some (.lst []) /\ All (c1v H []) Q ⟨⟩ ⟨⟩
 | _ => False
noncomputable def f4i (A : Ad) (H : Hp) (o : Addr) : Prop := ∃ dx pl sl, H o = some (.ins A.a2g dx [("parts", .ref pl), ("states", .ref sl)]) ∧ H pl = some (.lst [])
noncomputable def d9t (A : Ad) : Sp := fun vs H Q _ => match vs with
 | [.ref o, .ref l] => ∃ dx, H o = some (.ins A.a2g dx []) /\ H l = some (.lst []) /\ (∀ H1, a1q o H H1 -> f4i A H1 o -> Q .non H1)
 | _ => False
noncomputable def d9u (A : Ad) : Sp := fun vs H Q _ => match vs with
 | [.ref o] => f4i A H o /\ All (c1v H []) Q ⟨⟩ ⟨⟩
 | _ => False
noncomputable def ptF (t b sd ou : Addr) : List (Str × V) := [("track_names", .ref t), ("bus_names", .ref b), ("told_sends", .ref sd), ("told_outs", .ref ou)]
noncomputable def Eds (H : Hp) (ps : List Addr) (es : List (Str × Str)) : Prop := ps.length = es.length /\ ∀ (i : Nat) p e, ps[i]? = some p -> es[i]? = some e -> ∃ lw : Addr, H p = some (.tup [.str e.1, .str e.2, .ref lw])
noncomputable def b3s (A : Ad) (H : Hp) (o t b sd : Addr) (ts bs : List Str) (es : List (Str × Str)) : Prop := ∃ dx ou ps, H o = some (.ins A.a0q dx (ptF t b sd ou)) /\ H t = some (.lst (ts.map V.str)) /\ H b = some (.lst (bs.map V.str)) /\ H sd = some (.lst (ps.map V.ref)) /\ Eds H ps es /\ t ≠ b /\ t ≠ sd /\ b ≠ sd
noncomputable def f6w (A : Ad) : Sp := fun vs H Q _ => match vs with
 | [.ref o] => ∃ dx, H o = some (.ins A.a0q dx []) /\ (∀ H1 t b sd, a1q o H H1 -> H t = none -> H b = none -> H sd = none -> b3s A H1 o t b sd [] [] [] -> Q .non H1)
 | _ => False
noncomputable def d9v (A : Ad) : Sp := fun vs H Q _ => match vs with
 | [.ref o, .str x] => ∃ t b sd ts bs es, b3s A H o t b sd ts bs es /\ b2t x /\ x ∉ ts /\ x ∉ bs /\ (∀ H1, Same H H1 -> Q .non H1)
 | _ => False
noncomputable def d9w (A : Ad) : Sp := fun vs H Q _ => match vs with
 | [.ref o, .str x] => ∃ t b sd ts bs es, b3s A H o t b sd ts bs es /\ b2t x /\ x ∉ ts /\ x ∉ bs /\ ts.length <= 100 /\ (∀ H1, a1q t H H1 -> b3s A H1 o t b sd (ts ++ [x]) bs es -> Q .non H1)
 | _ => False
noncomputable def d9y (A : Ad) : Sp := fun vs H Q _ => match vs with
 | [.ref o, .str x] => ∃ t b sd ts bs es, b3s A H o t b sd ts bs es /\ b2t x /\ x ∉ ts /\ x ∉ bs /\ bs.length <= 100 /\ (∀ H1, a1q b H H1 -> b3s A H1 o t b sd ts (bs ++ [x]) es -> Q .non H1)
 | _ => False
noncomputable def a4g (bs : List Str) (es : List (Str × Str)) (pl : List Str) (x : Str) : Bool := decide (x ∉ pl) && es.all fun e => !(decide (e.2 = x) && (decide (e.1 ∈ bs) && !decide (e.1 ∈ pl)))
noncomputable def b0g (bs : List Str) (es : List (Str × Str)) : Nat -> List Str
 | 0 => []
 | k + 1 => b0g bs es k ++ (bs.filter (a4g bs es (b0g bs es k))).head?.toList
noncomputable def d1p (A : Ad) : Sp := fun vs H Q _ => match vs with
 | [.ref o, .str x, .ref l] => ∃ t b sd ts bs es pl, b3s A H o t b sd ts bs es /\ H l = some (.lst (pl.map V.str)) /\ Q (.bl (a4g bs es pl x)) H
 | _ => False
noncomputable def d9z (A : Ad) : Sp := fun vs H Q _ => match vs with
 | [.ref o] => ∃ t b sd ts bs es, b3s A H o t b sd ts bs es /\ bs.length <= 100 /\ (∀ j, j < bs.length -> bs.filter (a4g bs es (b0g bs es j)) ≠ []) /\ All (c1v H ((b0g bs es bs.length).map V.str)) Q ⟨⟩ ⟨⟩
 | _ => False
noncomputable def Rch (es : List (Str × Str)) (x y : Str) : Prop := ∀ S : Str -> Prop, S x -> (∀ u v, S u -> (u, v) ∈ es -> S v) -> S y
noncomputable def cnt (es : List (Str × Str)) (ks : List Str) : Nat := (es.filter fun e => decide (e.2 ∉ ks)).length
noncomputable def c3u (H : Hp) (L : Addr) (kvs : List (Key × V)) (ks : List Str) : Prop := kvs.map (·.1) = ks.map kT /\ ∀ kv ∈ kvs, ∃ (l : Addr) (ss : List Str), kv.2 = .ref l /\ l ≠ L /\ H l = some (.lst (ss.map V.str)) /\ ss.length <= kvs.length
noncomputable def f0g (A : Ad) : Sp := fun vs H Q _ => match vs with
 | [.ref o, .str x, .str y] => ∃ t b sd ts bs es, b3s A H o t b sd ts bs es /\ ¬ Rch es x y /\ es.length <= 100 /\ PyData.strOk x = true /\ (∀ e ∈ es, PyData.strOk e.2 = true) /\ All (c1v H []) Q ⟨⟩ ⟨⟩
 | _ => False
noncomputable def d1q (A : Ad) : Sp := fun vs H Q _ => match vs with
 | [.ref o, .str x, .str y, .ref l] => ∃ t b sd ts bs es, b3s A H o t b sd ts bs es /\ H l = some (.lst []) /\ (x ∈ ts \/ x ∈ bs) /\ y ∈ bs /\ ¬ Rch es y x /\ es.length <= 99 /\ PyData.strOk y = true /\ (∀ e ∈ es, PyData.strOk e.2 = true) /\ (∀ H1, a1q sd H H1 -> b3s A H1 o t b sd ts bs (es ++ [(x, y)]) -> Q .non H1)
 | _ => False
noncomputable def c9u (es : List (Str × Str)) : Prop := ∃ r : Str -> Nat, ∀ e ∈ es, r e.1 < r e.2
noncomputable def Pr2 (H : Hp) (ps : List Addr) (es : List (Str × Str)) : Prop := ps.length = es.length /\ ∀ (i : Nat) p e, ps[i]? = some p -> es[i]? = some e -> H p = some (.tup [.str e.1, .str e.2])
noncomputable def c7o : Sp := fun vs H Q _ => match vs with
 | [.ref l, .str x, .str y] => ∃ (ps : List Addr) (es : List (Str × Str)), H l = some (.lst (ps.map V.ref)) /\ Pr2 H ps es /\ es.length <= 100 /\ (∀ (r : Bool) H1, (r = false -> ¬ Rch es x y) -> Same H H1 -> Q (.bl r) H1)
 | _ => False
noncomputable def c7p (A : Ad) : Sp := fun vs H Q _ => match vs with
 | [.ref lb, .ref l, .ref lo] => ∃ (bs : List Str) (ps : List Addr) (es : List (Str × Str)), H lb = some (.lst (bs.map V.str)) /\ H l = some (.lst (ps.map V.ref)) /\ Pr2 H ps es /\ H lo = some (.lst ((b0g bs es bs.length).map V.str)) /\ bs.length <= 100 /\ es.length <= 100 /\ (∀ z ∈ bs, PyData.strOk z = true) /\ (∀ j, j < bs.length -> bs.filter (a4g bs es (b0g bs es j)) ≠ []) /\ (∀ H1, Same H H1 -> Q (.bl true) H1)
 | _ => False
noncomputable def nmC (bl : List Int) (m k j : Nat) : Nat := 97 + ((bl.getD j 0 + (k : Int) * (if j = m then 1 else 0)).fmod 26).toNat
noncomputable def nmS (bl : List Int) (m k n : Nat) : Str := ⟨((List.range n).map (nmC bl m k)).toArray⟩
noncomputable def c7q : Sp := fun vs H Q _ => match vs with
 | [.int c] => intBits c <= 1100000 /\ (∀ (nm : List Str) l H1, nm.length = 9 -> nm.Nodup -> (∀ z ∈ nm, b2t z) -> H l = none -> Same H H1 -> H1 l = some (.lst (nm.map V.str)) -> Q (.ref l) H1)
 | _ => False
noncomputable def d1r (K : PySem.W.Frag) : Sp := fun vs H Q _ => match vs with | [.ref a, .int k] => ∃ ns : List Int, SqL K H a (ns.map V.int) /\ 0 <= k /\ Q (.int (ns.getD k.toNat 0)) H | _ => False
local macro_rules | `(tactic| walk_at $s:str) => do
 unless s.getString == "rd" || s.getString == "rd*" do Lean.Macro.throwUnsupported
 let z <- `(Lean.Parser.Tactic.simpLemma| true_and)
 let y <- `(Lean.Parser.Tactic.simpStar| *)
 let x : Lean.TSyntax [`Lean.Parser.Tactic.simpStar, `Lean.Parser.Tactic.simpErase, `Lean.Parser.Tactic.simpLemma] := if s.getString == "rd" then ⟨z.raw⟩ else ⟨y.raw⟩
 `(tactic| simp (config := { maxSteps := 1000000, dsimp := false }) only [$x, ↓c2l, ↓f1m, ↓d1o, ↓d9t, ↓d9u, ↓f6w, ↓d9v, ↓d9w, ↓d9y, ↓d1p, ↓d9z, ↓f0g, ↓d1q, ↓c7o, ↓c7p, ↓c7q, ↓d1r, f3p, ↓f3k, ↓f6k, ↓f6l, ↓d8t, ↓f3l, ↓tFmt, ↓f3m, ↓d8u, ↓f3n, ↓d8v, ↓f1j, Bool.bne_false, Bool.bne_true, ↓d9r, ↓f6v, ↓d1l, ↓c2j, ↓d1m, ↓d1n, ↓d3y, ↓d3z, ↓d4g, ↓c6z, ↓d9q, f3p, ↓gSub, ↓f3s, ↓d9p, ↓d9l, ↓f1j, ↓d1k, ↓tSl3, ↓f6m, f3p, ↓d3l, ↓d8y, ↓c9j, ↓c6m, ↓c6n, asNew, ↓rInF, ↓f3o, ↓f3q, ↓rIsI, ↓d3o, ↓d3p, ↓c6r, ↓d3q, lookup_same, b8p, c6p, c3i, c9k, List.lookup_nil, nq0, nq1, nq2, nq3, nq4, nq5, nq6, nq7, nq8, nq9, nq10, nq11, nq12, nq13, nq14, nq15, nq16, nq17, nq18, nq19, nq20, nq21, nq22, nq23, nq24, nq25, nq26, nq27, nq28, nq29, nq30, nq31, nq32, nq33, nq34, nq35, nq36, nq37, nq38, nq39, nq40, nq41, nq42, nq43, nq44, nq45, nq46, nq47, nq48, nq49, nq50, nq51, nq52, ↓f4q, ↓f0v, ↓d3i, ↓tC, ↓c4h, ↓tOp, ↓tUn, ↓f4t, ↓f4s, ↓f1t, ↓d5q, ↓tCB, ↓d6h, ↓f0y, ↓d6z, ↓d7g, ↓d2m, ↓f4o, ↓tOr, ↓f4p, ↓tBF, ↓f2w, ↓tOrF, ↓f2y, ↓d5r, ↓tIf, ↓d6w, ↓c5t, ↓c5y, ↓d7s, ↓d7t, ↓c5z, ↓tSl, ↓c5g, ↓c6g, ↓rIF, ↓d7p, ↓rUF, ↓d7h, ↓d7i, ↓f1i, ↓f2u, ↓f5y, ↓f5z, ↓d7j, ↓d7v, ↓d7w, ↓d7u, ↓f5u, ↓rAbs, ↓rMin, ↓rMax, ↓d7y, ↓f3h, ↓d3j, ↓f6g, ↓d8n, ↓d8l, ↓d8m, ↓d7z, ↓d8g, ↓d8h, ↓d8i, ↓d0i, ↓d8r, ↓d8o, ↓d8p, ↓d8q, ↓hAs, ↓L2.start, d7k, d7l, d7m, d7n, d7o, c5s, Ty.nm, f2g, d6y, d0s, d0t, d0u, d0v, b8n, c0n, List.map_cons, List.map_nil, List.length_cons, List.length_nil, List.length_map, List.replicate, List.cons_append, List.nil_append, List.append_nil, List.getElem?_cons_zero, List.getElem?_cons_succ, List.set_cons_zero, List.set_cons_succ, Option.some.injEq, exists_eq_left', exists_eq_left, exists_and_left, V.int.injEq, V.bl.injEq, V.str.injEq, V.ref.injEq, V.ty.injEq, Value.ref.injEq, List.cons.injEq, HO.lst.injEq, HO.tup.injEq, Int.zero_add, List.length_append, and_true, true_and, d2w, d2y, d2z, d3g, d3h, two_line, if_true, reduceCtorEq, if_false, Bool.false_eq_true, decide_eq_true_eq, decide_eq_false_iff_not, decide_true, decide_false, Bool.or_true, Bool.true_or, Bool.or_false, Bool.false_or, Bool.and_true, Bool.true_and, Bool.and_false, Bool.false_and, or_false, false_or, Nat.zero_add, Nat.reduceAdd, Nat.reduceSub, exists_const, false_and, and_false, Bool.not_true, Bool.not_false, Bool.not_eq_true', ne_eq, not_true_eq_false, not_false_eq_true, Int.reduceEq, Int.reduceNe, Int.reduceLT, Int.reduceLE, Int.reducePow, Int.reduceMul, Int.reduceAdd, Int.reduceSub, Int.reduceNeg, Int.reduceToNat, Nat.reducePow, Nat.reduceLT, Nat.reduceLeDiff])
theorem d4k {c : Nat} (h1 : 97 ≤ c) (h2 : c ≤ 122) : d8w "abcdefghijklmnopqrstuvwxyz" ⟨#[c]⟩ = true := by
 unfold d8w
 rw [StrLaws.found_one]
 have e : (Str.ofString "abcdefghijklmnopqrstuvwxyz").cps.toList = [97, 98, 99, 100, 101, 102, 103, 104, 105, 106, 107, 108, 109, 110, 111, 112, 113, 114, 115, 116, 117, 118, 119, 120, 121, 122] := by decide +kernel
 rw [e, decide_eq_true_eq]
 simp
 omega
theorem c7r {x : Str} {D : Addr} {te : TE} {σ : L2.St} {H0 H : Hp} {Q : VK} (f : Nat -> V) (n0 : H0 D = none) (S : Same H0 H) (hD : H D = some (.lst [])) (hsz : x.cps.size <= sizeLine)
  (hs : ∀ (i : Nat) c H' (Q' : VK), x.cps[i]? = some c -> Same H0 H' -> Q' (f c) H' -> te (some (.str ⟨#[c]⟩) :: σ) H' Q') (q : ∀ H', Same H0 H' -> H' D = some (.lst (x.cps.toList.map f)) -> Q (.ref D) H') : c2z (Its x) te D σ H Q ⟨⟩ := by
 refine ⟨x.cps.size, fun i ys H' => Same H0 H' /\ H' D = some (.lst ys) /\ ys = (x.cps.toList.take i).map f, ⟨S, hD, by simp⟩, fun i ys H' hi w => ?_⟩
 obtain ⟨S', h', e⟩ := w
 refine ⟨h', ?_⟩
 by_cases hlt : i < x.cps.size
 ·refine .inr ⟨hlt, hlt, by rw [e, List.length_map, List.length_take]; omega, fun v H2 y => ?_⟩
  obtain ⟨e2, c, hc, ev⟩ := y
  subst e2 ev
  refine hs i c _ _ hc S' ⟨h', fun H3 s3 h3 => ⟨S'.step n0 s3, h3, ?_⟩⟩
  have hc' : x.cps.toList[i]? = some c := by rw [Array.getElem?_toList]; exact hc
  rw [List.take_add_one, hc', List.map_append, e]
  rfl
 ·have e3 : i = x.cps.size := by omega
  subst e3
  refine .inl ⟨rfl, q H' S' ?_⟩
  rw [h', e, List.take_of_length_le (by rw [Array.length_toList]; exact Nat.le_refl _)]
theorem c7s (T : Tx K mg A) : a4n P A.wd K mg base CX0 1 A.a6r A.b3i ["value"] c2l := by
 refine T.a9v.ok c3o (fun vs H Q E h => ?_) (fun cdv A' outer s H vs Q E hr h => ?_)
 ·match vs, h with
  | [.str x], _ => rfl
 ·match vs, h with
  | [.str x], ⟨⟨l8, ne, ab⟩, q⟩ =>
  have hu := hr.units
  have hs : sizeLine = 16777216 := sizeLine_eq
  have nl : ¬ (8 : Int) < (x.length : Int) := by omega
  have ne' : (x = Str.ofString "") = False := eq_false ne
  have xl : x.length <= 16777216 := by omega
  refine ⟨_, (a0m (a7v (pw_or (b5t (b1l (a2l (b6n .str) (by rfl) T.a3g boot_isinstance (a0k (pvF 0) (a0k (b9y (v := .ty "str") (u := .type "str") (by rfl) T.c7m rfl rfl) a0n))))) (pw_or (a0t (a9k hu) (pvF 0) c4g (a4h _)) (pw_or1 (a0t d7q (a2l a3r (by rfl) T.b1s boot_len (a0k (pvF 0) a0n)) (b9w (v := .int 8) (by rfl) T.a3h T.b4v) (a4h _))))).pt
   (a0o (a4o b7o))
   a1w)
   (a0o (a4o (a2l (c6y rfl) (by rfl) T.c7k boot_all (a0k (b6p (d8s (pvF 0)) (fun _ _ _ _ _ => (b9z b4r (pvF 0) (b9w (v := .str "abcdefghijklmnopqrstuvwxyz") (by rfl) T.a8h T.c3q) (by rfl))) (c0q (sc := a0l a6o) (N := ["value"]) rfl rfl (by decide +kernel)) rfl) a0n))))), ?_⟩
  walk_at "rd*"
  refine fun D H2 n2 S2 h2 => ?_
  refine c7r (fun _ => V.bl true) n2 S2 h2 (show x.length <= sizeLine by omega) ?_ ?_
  ·intro i c H' Q' hc SS q'
   have hm := ab c (by rw [Array.mem_toList_iff]; exact Array.mem_of_getElem? hc)
   have hh := d4k hm.1 hm.2
   walk_at "rd*"
  ·intro H3 S3 h3
   walk_at "rd*"
   refine ⟨x.cps.toList.map fun _ => true, by rw [List.map_map]; rfl, ?_⟩
   rw [show (x.cps.toList.map fun _ => true).all id = true by simp]
   exact q H3 S3
theorem d4l (T : Tx K mg A) : a4n P A.wd K mg base CX0 1 A.a6q A.b3h ["word"] f1m := T.a9t.ok c3n (fun _ _ _ _ h => h.elim) (fun _ _ _ _ _ _ _ _ _ h => h.elim)
theorem c9v (T : Tx K mg A) : a4n P A.wd K mg base CX0 1 A.a0w A.a8l ["self"] f1m := T.a7i.ok b6r (fun _ _ _ _ h => h.elim) (fun _ _ _ _ _ _ _ _ _ h => h.elim)
theorem d4m (T : Tx K mg A) : a4n P A.wd K mg base CX0 1 A.a2w A.a9n ["self"] f1m := T.a8p.ok b8w (fun _ _ _ _ h => h.elim) (fun _ _ _ _ _ _ _ _ _ h => h.elim)
theorem d4n (T : Tx K mg A) : a4n P A.wd K mg base CX0 2 A.a5k A.b1n ["words"] d1o := by
 have c7t : a4n P A.wd K mg base CX0 1 _ _ _ _ := d4l T
 refine T.a8g.ok c0u (fun vs H Q E h => ?_) (fun cdv A' outer s H vs Q E hr h => ?_)
 ·match vs, h with
  | [.ref l], _ => rfl
 ·match vs, h with
  | [.ref l], ⟨hl, q⟩ =>
  have hu := hr.units
  have c3r : a5u 1 _ := hr.mono (by decide)
  refine ⟨_, (a0m (a7v (b5t (b1l (a2l (b6n .lst) (by rfl) T.a3g boot_isinstance (a0k (pvF 0) (a0k (b9y (v := .ty "list") (u := .type "list") (by rfl) T.b6g rfl rfl) a0n)))))
   (a0o a8i)
   a1w)
   (a0m (a7v (a0t d7q (a2l a3r (by rfl) T.b1s boot_len (a0k (pvF 0) a0n)) (b9w (v := .int 8) (by rfl) T.a4t T.b6z) (a4h _))
   (a0o a8i)
   a1w)
   (a0o (a4o (b6p (a3j (pvF 0)) (fun _ _ _ _ _ => (a6k c7t c3r (by rfl) T.c7i T.a9t.kp T.b4t .nil a5r (a0k (pvF 0) a0n))) (c0q (sc := a0l a5g) (N := ["words"]) rfl rfl (by decide +kernel)) rfl))))), ?_⟩
  walk_at "rd*"
  refine ⟨⟨_, SqL.of hl⟩, fun D H2 n2 S2 h2 => ?_⟩
  refine b4p (xs := []) (fun v => v) n2 S2 h2 (SqL.of hl) (by rw [sizeLine_eq]; decide) (fun i x H' Q' hx => by simp at hx) ?_
  intro H3 S3 h3
  exact q _ _ ⟨D, rfl, n2, S3, h3⟩
theorem f0h (T : Tx K mg A) : a4n P A.wd K mg base CX0 3 A.a2h A.a8m ["self", "words"] (d9t A) := by
 have c3s : a4n P A.wd K mg base CX0 2 _ _ _ _ := d4n T
 have b9i : a4n P A.wd K mg base CX0 1 _ _ _ _ := c9v T
 have a8v := T.a8v
 have a0v := T.a0v
 have a0s := T.a0s
 refine T.a7j.ok b6s (fun vs H Q E h => ?_) (fun cdv A' outer s H vs Q E hr h => ?_)
 ·match vs, h with
  | [.ref o, .ref l], _ => rfl
 ·match vs, h with
  | [.ref o, .ref l], ⟨dx, ho, hl, q⟩ =>
  have hu := hr.units
  have c0z : a5u 2 _ := hr.mono (by decide)
  have b7g : a5u 1 _ := hr.mono (by decide)
  refine ⟨_, (a0m (b3g (pvF 0) (a6k c3s c0z (by rfl) T.c3p T.a8g.kp T.b3j .nil a5r (a0k (pvF 1) a0n)) rfl)
   (a0o (b3g (pvF 0) (b6p (a3j (a3v (pvF 0) rfl)) (fun _ _ _ _ _ => (a9m (pvF 0) T.c7n T.b6y b9i b7g T.a9s .nil a5r)) (c0q (sc := a0l a2u) (N := ["self", "words"]) rfl rfl (by decide +kernel)) rfl) rfl))), ?_⟩
  walk_at "rd"
  refine ⟨hl, ?_⟩
  rintro _ H1 ⟨pl, rfl, np, S1, hpl⟩
  have ho1 := S1 _ _ ho
  walk_at "rd*"
  intro H2 B2 h2
  have no : o ≠ pl := fun e => by rw [<- e, ho] at np; cases np
  have f1n := B2 _ _ no.symm hpl
  clear hpl ho ho1
  walk_at "rd*"
  refine ⟨⟨_, SqL.of f1n⟩, fun D H3 n3 S3 h3 => ?_⟩
  refine b4p (xs := []) (fun v => v) n3 S3 h3 (SqL.of f1n) (by rw [sizeLine_eq]; decide) (fun i x H' Q' hx => by simp at hx) ?_
  intro H4 S4 h4
  have ho4 := S4 _ _ h2
  have hpl4 := S4 _ _ f1n
  clear h2 h3 f1n
  walk_at "rd*"
  intro H5 B5 h5
  exact q H5 (fun z u hz e => B5 _ _ hz (S4 _ _ (B2 _ _ hz (S1 _ _ e)))) ⟨dx, pl, D, h5, B5 _ _ no.symm hpl4⟩
theorem f0i (T : Tx K mg A) : a4n P A.wd K mg base CX0 2 A.a1r A.a7q ["self"] (d9u A) := by
 have c1g : a4n P A.wd K mg base CX0 1 _ _ _ _ := d4m T
 have a8v := T.a8v
 have a0v := T.a0v
 have a0s := T.a0s
 refine T.a5y.ok b5l (fun vs H Q E h => ?_) (fun cdv A' outer s H vs Q E hr h => ?_)
 ·match vs, h with
  | [.ref o], _ => rfl
 ·match vs, h with
  | [.ref o], ⟨⟨dx, pl, sl, ho, hpl⟩, q⟩ =>
  have hu := hr.units
  have b9j : a5u 1 _ := hr.mono (by decide)
  refine ⟨_, (a0o (a4o (b6p (a3j (a3v (pvF 0) rfl)) (fun _ _ _ _ _ => (a9m (pvF 0) T.c7n T.b9h c1g b9j T.b1o .nil a5r)) (c0q (sc := a0l a2n) (N := ["self"]) rfl rfl (by decide +kernel)) rfl))), ?_⟩
  walk_at "rd*"
  refine ⟨⟨_, SqL.of hpl⟩, fun D H3 n3 S3 h3 => ?_⟩
  refine b4p (xs := []) (fun v => v) n3 S3 h3 (SqL.of hpl) (by rw [sizeLine_eq]; decide) (fun i x H' Q' hx => by simp at hx) ?_
  intro H4 S4 h4
  exact q _ _ ⟨D, rfl, n3, S4, h4⟩
theorem Eds.same {H H' : Hp} {ps : List Addr} {es : List (Str × Str)} (h : Eds H ps es) (S : Same H H') : Eds H' ps es := ⟨h.1, fun i p e h1 h2 => (h.2 i p e h1 h2).elim fun lw z => ⟨lw, S _ _ z⟩⟩
theorem Eds.b3t {D : Addr} {H H' : Hp} {ps : List Addr} {es : List (Str × Str)} {ys : List V} (h : Eds H ps es) (hD : H D = some (.lst ys)) (B : a1q D H H') : Eds H' ps es :=
 ⟨h.1, fun i p e h1 h2 => (h.2 i p e h1 h2).elim fun lw z => ⟨lw, B _ _ (fun q => by rw [q, hD] at z; cases z) z⟩⟩
theorem b3s.same {A : Ad} {H H' : Hp} {o t b sd : Addr} {ts bs : List Str} {es : List (Str × Str)} (h : b3s A H o t b sd ts bs es) (S : Same H H') : b3s A H' o t b sd ts bs es := by
 obtain ⟨dx, ou, ps, h1, h2, h3, h4, h5, h6⟩ := h
 exact ⟨dx, ou, ps, S _ _ h1, S _ _ h2, S _ _ h3, S _ _ h4, h5.same S, h6⟩
theorem b3s.other {A : Ad} {D : Addr} {H H' : Hp} {o t b sd : Addr} {ts bs : List Str} {es : List (Str × Str)} {ys : List V} (h : b3s A H o t b sd ts bs es) (hD : H D = some (.lst ys)) (d1 : t ≠ D) (d2 : b ≠ D) (d3 : sd ≠ D) (B : a1q D H H') : b3s A H' o t b sd ts bs es := by
 obtain ⟨dx, ou, ps, h1, h2, h3, h4, h5, h6⟩ := h
 exact ⟨dx, ou, ps, B _ _ (fun q => by rw [q, hD] at h1; cases h1) h1, B _ _ d1 h2, B _ _ d2 h3, B _ _ d3 h4, h5.b3t hD B, h6⟩
theorem a2t (x : Str) : ∀ ts : List Str, inV (.str x) (ts.map V.str) = decide (x ∈ ts)
 | [] => rfl
 | t :: ts => by
  have ih := a2t x ts
  unfold inV at ih ⊢
  rw [List.map_cons, List.any_cons, ih]
  by_cases h : t = x
  ·subst h
   simp [eqV]
  ·have : eqV (.str t) (.str x) = false := by simp [eqV, h]
   rw [this]
   simp
   exact fun e => absurd e.symm h
theorem a3s (ts : List Str) : (ts.map V.str).all a6y = true := by
 rw [List.all_eq_true]
 intro v hv
 obtain ⟨n, _, rfl⟩ := List.mem_map.mp hv
 rfl
theorem f4j (T : Tx K mg A) : a4n P A.wd K mg base CX0 1 A.a2i A.a8n ["self"] (f6w A) := by
 have a0r := T.a0r
 have a0g := T.a0g
 have a0i := T.a0i
 have a0h := T.a0h
 have a0j := T.a0j
 refine T.a7k.ok b6t (fun vs H Q E h => ?_) (fun cdv A' outer s H vs Q E hr h => ?_)
 ·match vs, h with
  | [.ref o], _ => rfl
 ·match vs, h with
  | [.ref o], ⟨dx, ho, q⟩ =>
  have hu := hr.units
  have hs : sizeLine = 16777216 := sizeLine_eq
  refine ⟨_, (a0m (b3g (pvF 0) (a2m a0n) rfl)
   (a0m (b3g (pvF 0) (a2m a0n) rfl)
   (a0m (b3g (pvF 0) (a2m a0n) rfl)
   (a0o (b3g (pvF 0) (a2m a0n) rfl))))), ?_⟩
  walk_at "rd"
  refine ⟨by omega, fun t H1 n1 S1 h1 => ?_⟩
  have ho1 := S1 _ _ ho
  have ot : t ≠ o := fun e => by rw [e, ho] at n1; cases n1
  walk_at "rd*"
  intro H2 B2 h2
  have h12 := B2 _ _ ot h1
  clear h1 ho1
  walk_at "rd*"
  refine fun b H3 n3 S3 h3 => ?_
  have ho3 := S3 _ _ h2
  have ob : b ≠ o := fun e => by rw [e, h2] at n3; cases n3
  have tb : t ≠ b := fun e => by rw [<- e, h12] at n3; cases n3
  have nb : H b = none := by
   cases e : H b with
   | none => rfl
   | some u => rw [B2 _ _ ob (S1 _ _ e)] at n3; cases n3
  clear h2
  walk_at "rd*"
  intro H4 B4 h4
  have h14 := B4 _ _ ot (S3 _ _ h12)
  have h34 := B4 _ _ ob h3
  clear h12 h3 ho3
  walk_at "rd*"
  refine fun sd H5 n5 S5 h5 => ?_
  have ho5 := S5 _ _ h4
  have os : sd ≠ o := fun e => by rw [e, h4] at n5; cases n5
  have ts : t ≠ sd := fun e => by rw [<- e, h14] at n5; cases n5
  have bs : b ≠ sd := fun e => by rw [<- e, h34] at n5; cases n5
  have ns : H sd = none := by
   cases e : H sd with
   | none => rfl
   | some u => rw [B4 _ _ os (S3 _ _ (B2 _ _ os (S1 _ _ e)))] at n5; cases n5
  clear h4
  walk_at "rd*"
  intro H6 B6 h6
  have h16 := B6 _ _ ot (S5 _ _ h14)
  have h36 := B6 _ _ ob (S5 _ _ h34)
  have h56 := B6 _ _ os h5
  clear h14 h34 h5 ho5
  walk_at "rd*"
  refine fun ou H7 n7 S7 h7 => ?_
  have ho7 := S7 _ _ h6
  clear h6
  walk_at "rd*"
  intro H8 B8 h8
  refine q H8 t b sd (fun z u hz e => B8 _ _ hz (S7 _ _ (B6 _ _ hz (S5 _ _ (B4 _ _ hz (S3 _ _ (B2 _ _ hz (S1 _ _ e)))))))) n1 nb ns ⟨dx, ou, [], h8, B8 _ _ ot (S7 _ _ h16), B8 _ _ ob (S7 _ _ h36), B8 _ _ os (S7 _ _ h56), ⟨rfl, fun i p e h => by simp at h⟩, tb, ts, bs⟩
theorem d1s (T : Tx K mg A) : a4n P A.wd K mg base CX0 2 A.a0u A.a4r ["self", "name"] (d9v A) := by
 have c7u : a4n P A.wd K mg base CX0 1 _ _ _ _ := c7s T
 have a0r := T.a0r
 have a0g := T.a0g
 have a0i := T.a0i
 have a0h := T.a0h
 have a0j := T.a0j
 refine T.a3m.ok b2q (fun vs H Q E h => ?_) (fun cdv A' outer s H vs Q E hr h => ?_)
 ·match vs, h with
  | [.ref o, .str x], _ => rfl
 ·match vs, h with
  | [.ref o, .str x], ⟨t, b, sd, ts, bs, es, ⟨dx, ou, ps, ho, ht, hb, hsd, hE, d1, d2, d3⟩, nm, nt, nb, q⟩ =>
  have hu := hr.units
  have c3t : a5u 1 _ := hr.mono (by decide)
  unfold ptF at ho
  refine ⟨_, (a0m (a7v (b5t (b1l (a6k c7u c3t (by rfl) T.c7j T.a9v.kp T.b4u .nil a5r (a0k (pvF 1) a0n))))
   (a0o a8i)
   a1w)
   (a0o (a7v (pw_or (a0t b4r (pvF 1) (a3v (pvF 0) rfl) (by rfl)) (pw_or1 (a0t b4r (pvF 1) (a3v (pvF 0) rfl) (by rfl)))).pt
   (a0o a8i)
   a1w))), ?_⟩
  walk_at "rd"
  refine ⟨nm, fun H1 S1 => ?_⟩
  have ho1 := S1 _ _ ho
  have ht1 := S1 _ _ ht
  have hb1 := S1 _ _ hb
  have i1 : inV (.str x) (ts.map V.str) = false := by rw [a2t]; exact decide_eq_false nt
  have i2 : inV (.str x) (bs.map V.str) = false := by rw [a2t]; exact decide_eq_false nb
  have f1 := a3s ts
  have f2 := a3s bs
  clear ho ht hb
  walk_at "rd*"
  exact ⟨rfl, rfl⟩
theorem f0j (T : Tx K mg A) : a4n P A.wd K mg base CX0 3 A.a1s A.a7r ["self", "name"] (d9w A) := by
 have a5l : a4n P A.wd K mg base CX0 2 _ _ _ _ := d1s T
 have a0r := T.a0r
 have a0g := T.a0g
 have a0i := T.a0i
 have a0h := T.a0h
 have a0j := T.a0j
 refine T.a5z.ok b5m (fun vs H Q E h => ?_) (fun cdv A' outer s H vs Q E hr h => ?_)
 ·match vs, h with
  | [.ref o, .str x], _ => rfl
 ·match vs, h with
  | [.ref o, .str x], ⟨t, b, sd, ts, bs, es, hP, nm, nt, nb, l1, q⟩ =>
  obtain ⟨dx, ou, ps, ho, ht, hb, hsd, hE, d1, d2, d3⟩ := id hP
  have hu := hr.units
  have hs : sizeLine = 16777216 := sizeLine_eq
  have a4u : a5u 2 _ := hr.mono (by decide)
  unfold ptF at ho
  refine ⟨_, (a0m (a3p (a7g (pvF 0) T.a0r T.a7m a5l a4u T.a3n .nil a5r (a0k (pvF 1) a0n)))
   (a0o (a3p (b0t a4q PySem.F.plainAttrs_list PySem.F.slot_list_append PySem.F.type_list_append a2q (a3v (pvF 0) rfl) (a0k (pvF 1) a0n))))), ?_⟩
  walk_at "rd*"
  refine ⟨t, b, sd, ts, bs, es, hP, nt, nb, fun H1 S1 => ?_⟩
  have ho1 := S1 _ _ ho
  have ht1 := S1 _ _ ht
  have hb1 := S1 _ _ hb
  have f4k := S1 _ _ hsd
  clear ho ht hb hsd
  walk_at "rd*"
  refine ⟨by omega, ?_⟩
  rintro _ H2 ⟨rfl, B2, h2⟩
  try walk_at "rd"
  refine q H2 (fun z u hz e => B2 _ _ hz (S1 _ _ e)) ⟨dx, ou, ps, B2 _ _ (fun e => by rw [e, ht1] at ho1; cases ho1) ho1, by rw [h2, List.map_append]; rfl, B2 _ _ d1.symm hb1, B2 _ _ d2.symm f4k, (hE.same S1).b3t ht1 B2, d1, d2, d3⟩
theorem f0k (T : Tx K mg A) : a4n P A.wd K mg base CX0 3 A.a2y A.a9o ["self", "name"] (d9y A) := by
 have a5l : a4n P A.wd K mg base CX0 2 _ _ _ _ := d1s T
 have a0r := T.a0r
 have a0g := T.a0g
 have a0i := T.a0i
 have a0h := T.a0h
 have a0j := T.a0j
 refine T.a8s.ok b8y (fun vs H Q E h => ?_) (fun cdv A' outer s H vs Q E hr h => ?_)
 ·match vs, h with
  | [.ref o, .str x], _ => rfl
 ·match vs, h with
  | [.ref o, .str x], ⟨t, b, sd, ts, bs, es, hP, nm, nt, nb, l1, q⟩ =>
  obtain ⟨dx, ou, ps, ho, ht, hb, hsd, hE, d1, d2, d3⟩ := id hP
  have hu := hr.units
  have hs : sizeLine = 16777216 := sizeLine_eq
  have a4u : a5u 2 _ := hr.mono (by decide)
  unfold ptF at ho
  refine ⟨_, (a0m (a3p (a7g (pvF 0) T.a0r T.a7m a5l a4u T.a3n .nil a5r (a0k (pvF 1) a0n)))
   (a0o (a3p (b0t a4q PySem.F.plainAttrs_list PySem.F.slot_list_append PySem.F.type_list_append a2q (a3v (pvF 0) rfl) (a0k (pvF 1) a0n))))), ?_⟩
  walk_at "rd*"
  refine ⟨t, b, sd, ts, bs, es, hP, nt, nb, fun H1 S1 => ?_⟩
  have ho1 := S1 _ _ ho
  have ht1 := S1 _ _ ht
  have hb1 := S1 _ _ hb
  have f4k := S1 _ _ hsd
  clear ho ht hb hsd
  walk_at "rd*"
  refine ⟨by omega, ?_⟩
  rintro _ H2 ⟨rfl, B2, h2⟩
  try walk_at "rd"
  refine q H2 (fun z u hz e => B2 _ _ hz (S1 _ _ e)) ⟨dx, ou, ps, B2 _ _ (fun e => by rw [e, hb1] at ho1; cases ho1) ho1, B2 _ _ d1 ht1, by rw [h2, List.map_append]; rfl, B2 _ _ d3.symm f4k, (hE.same S1).b3t hb1 B2, d1, d2, d3⟩
theorem d4o (T : Tx K mg A) : a4n P A.wd K mg base CX0 1 A.a0y A.a5w ["self", "bus", "placed"] (d1p A) := by
 have a0r := T.a0r
 have a0g := T.a0g
 have a0i := T.a0i
 have a0h := T.a0h
 have a0j := T.a0j
 refine T.a4s.ok a9h (fun vs H Q E h => ?_) (fun cdv A' outer s H vs Q E hr h => ?_)
 ·match vs, h with
  | [.ref o, .str x, .ref l], _ => rfl
 ·match vs, h with
  | [.ref o, .str x, .ref l], ⟨t, b, sd, ts, bs, es, pl, ⟨dx, ou, ps, ho, ht, hb, hsd, hE, d1, d2, d3⟩, hl, q⟩ =>
  have hu := hr.units
  unfold ptF at ho
  have fl := a3s pl
  have fb := a3s bs
  have iv := a2t x pl
  have el := hE.1
  refine ⟨_, (a0m (a7v (a0t b4r (pvF 1) (pvF 2) (by rfl))
   (a0o (a4o b7o))
   a1w)
   (a0m (a7p PassesOwn.never rfl (a3j (a3v (pvF 0) rfl)) (a3u (i := 3) a9h.nd rfl (Or.inl rfl))
   (a0o (a7v (pw_and (a0t (a9k hu) (a7o b5w (pvF 3) a0p (fun _ _ => rfl)) (pvF 1) (a4h _)) (pw_and (a0t b4r (a7o b5w (pvF 3) a0p (fun _ _ => rfl)) (a3v (pvF 0) rfl) (by rfl)) (pw_and1 (a0t a6n (a7o b5w (pvF 3) a0p (fun _ _ => rfl)) (pvF 2) (by rfl))))).pt
   (a0o (a4o b7o))
   a1w)))
   (a0o (a4o b7o)))), ?_⟩
  walk_at "rd*"
  refine ⟨rfl, ?_⟩
  split
  ·rename_i hx
   unfold a4g at q
   rw [show decide (x ∉ pl) = false by simp [hx], Bool.false_and] at q
   exact q
  rename_i hx
  refine ⟨⟨_, SqL.of hsd⟩, ?_⟩
  obtain ⟨Pv, pin, pout⟩ := b2z (fun i σ H' => ∃ v : Option V, σ = [some (.ref o), some (.str x), some (.ref l), v] /\ H' = H /\ (es.take i).all (fun e => !(decide (e.2 = x) && (decide (e.1 ∈ bs) && !decide (e.1 ∈ pl)))) = true)
  refine a6l (xs := ps.map V.ref) Pv (pin _ _ _ ⟨_, rfl, rfl, rfl⟩) ?_ ?_ ?_
  ·intro i σ H1 hi hp
   obtain ⟨v, rfl, rfl, _⟩ := pout _ _ _ hp
   exact SqL.of hsd
  ·intro i v σ H1 hv hp
   rw [List.getElem?_map] at hv
   obtain ⟨p, hpi, rfl⟩ := Option.map_eq_some_iff.mp hv
   obtain ⟨v, rfl, rfl, ha⟩ := pout _ _ _ hp
   have hi := (List.getElem?_eq_some_iff.mp hpi).1
   have hei : es[i]? = some (es[i]'(by omega)) := List.getElem?_eq_getElem _
   obtain ⟨lw, hp⟩ := hE.2 i p _ hpi hei
   have et : es.take (i + 1) = es.take i ++ [es[i]'(by omega)] := by rw [List.take_add_one, hei]; rfl
   have me := List.mem_of_getElem? hei
   generalize es[i]'(by omega) = e at hei hp et me
   have i1 := a2t e.1 bs
   have i2 := a2t e.1 pl
   clear hv
   walk_at "rd*"
   have go : (decide (e.2 = x) && (decide (e.1 ∈ bs) && !decide (e.1 ∈ pl))) = false -> Pv (i + 1) [some (V.ref o), some (V.str x), some (V.ref l), some (V.ref p)] H1 := fun hf => pin _ _ _ ⟨_, rfl, rfl, by rw [et, List.all_append, ha, Bool.true_and, List.all_cons, hf]; rfl⟩
   split
   ·rename_i h1
    refine ⟨rfl, ?_⟩
    split
    ·rename_i h2
     refine ⟨rfl, ?_⟩
     split
     ·rename_i h3
      have z : a4g bs es pl x = false := by
       unfold a4g
       rw [Bool.and_eq_false_iff]
       right
       rw [List.all_eq_false]
       exact ⟨e, me, by simp [h1, h2, h3]⟩
      rw [z] at q
      exact q
     ·rename_i h3
      exact go (by simp at h3; simp [h3])
    ·rename_i h2
     exact go (by simp [h2])
   ·rename_i h1
    exact go (by simp [h1])
  ·intro σ H1 hp
   obtain ⟨v, rfl, rfl, ha⟩ := pout _ _ _ hp
   rw [List.length_map, el, List.take_length] at ha
   walk_at "rd"
   unfold a4g at q
   rw [ha, show decide (x ∉ pl) = true by simp [hx]] at q
   exact q
theorem b0r {bs : List Str} {es : List (Str × Str)} : ∀ k, (∀ j, j < k -> bs.filter (a4g bs es (b0g bs es j)) ≠ []) -> (b0g bs es k).length = k
 | 0, _ => rfl
 | k + 1, h => by
  rw [b0g, List.length_append, b0r k fun j hj => h j (by omega)]
  have := h k (by omega)
  cases e : bs.filter (a4g bs es (b0g bs es k)) with
  | nil => exact absurd e this
  | cons a r => rfl
theorem f0l (T : Tx K mg A) : a4n P A.wd K mg base CX0 2 A.a1t A.a7s ["self"] (d9z A) := by
 have b4w : a4n P A.wd K mg base CX0 1 _ _ _ _ := d4o T
 have a0r := T.a0r
 have a0g := T.a0g
 have a0i := T.a0i
 have a0h := T.a0h
 have a0j := T.a0j
 refine T.a6g.ok b0u (fun vs H Q E h => ?_) (fun cdv A' outer s H vs Q E hr h => ?_)
 ·match vs, h with
  | [.ref o], _ => rfl
 ·match vs, h with
  | [.ref o], ⟨t, b, sd, ts, bs, es, hP, b100, ne, q⟩ =>
  have hu := hr.units
  have hs : sizeLine = 16777216 := sizeLine_eq
  have b3u : a5u 1 _ := hr.mono (by decide)
  obtain ⟨dx, ou, ps, ho, ht, hb, hsd, hE, d1, d2, d3⟩ := id hP
  unfold ptF at ho
  refine ⟨_, (a0m (a1y (i := 1) b0u.nd rfl (Or.inr rfl) (a2m a0n))
   (a0m (b4m PassesOwn.never (a0t of_lt (a2l a3r (by rfl) T.b1s boot_len (a0k (pvF 1) a0n)) (a2l a3r (by rfl) T.b1s boot_len (a0k (a3v (pvF 0) rfl) a0n)) (a4h _))
   (a0o (a3p (b0t a4q PySem.F.plainAttrs_list PySem.F.slot_list_append PySem.F.type_list_append a2q (pvF 1) (a0k (a7o b5w (c1z (a3j (a3v (pvF 0) rfl)) (fun _ _ _ _ _ => (b1l (a7g (pvF 1) T.a0r T.b3r b4w b3u T.a6t .nil a5r (a0k (pvF 0) (a0k (pvF 2) a0n))))) (fun _ _ _ _ _ => (pvF 0)) (c0q (sc := a0l a2o) (N := ["self", "placed"]) rfl rfl (by decide +kernel)) rfl) a0p (fun _ _ => rfl)) a0n)))))
   (a0o (a4o (pvF 1))))), ?_⟩
  walk_at "rd"
  refine ⟨by omega, fun l H1 n1 S1 h1 => ?_⟩
  obtain ⟨Pv, pin, pout⟩ := b2z (fun m σ H' => ∃ k : Nat, σ = [some (.ref o), some (.ref l)] /\ Same H H' /\ H' l = some (.lst ((b0g bs es k).map V.str)) /\ k <= bs.length /\ m = bs.length - k)
  refine b4n Pv _ (pin _ _ _ ⟨0, rfl, S1, h1, Nat.zero_le _, rfl⟩) ?_
  intro m σ H2 hp
  obtain ⟨k, rfl, S2, h2, kl, em⟩ := pout _ _ _ hp
  have ol := b0r k fun j hj => ne j (by omega)
  have ho2 := S2 _ _ ho
  have hb2 := S2 _ _ hb
  have hP2 := hP.same S2
  clear hp h1
  walk_at "rd*"
  split
  ·rename_i hk
   refine ⟨⟨_, SqL.of hb2⟩, fun D H3 n3 S3 h3 => ?_⟩
   refine b6q (xs := bs.map V.str) (fun v => match v with | .str x => a4g bs es (b0g bs es k) x | _ => false) (fun v => v) n3 S3 h3 (SqL.of hb2) (by rw [List.length_map]; omega) ?_ ?_ ?_
   ·intro i x H' Q' hx SS q'
    rw [List.getElem?_map] at hx
    obtain ⟨z, hz, rfl⟩ := Option.map_eq_some_iff.mp hx
    have ho' := SS _ _ ho2
    clear hx
    walk_at "rd*"
    exact ⟨t, b, sd, ts, bs, es, hP2.same SS, _, SS _ _ h2, q'⟩
   ·intro i x H' Q' hx hpx SS q'
    walk_at "rd"
    exact q'
   ·intro H4 S4 h4
    have nek := ne k (by omega)
    have ef : ((bs.map V.str).filter (fun v => match v with | .str x => a4g bs es (b0g bs es k) x | _ => false)).map (fun v => v) = (bs.filter (a4g bs es (b0g bs es k))).map V.str := by
     rw [List.map_id', List.filter_map]
     rfl
    rw [ef] at h4
    obtain ⟨a, r, ea⟩ : ∃ a r, bs.filter (a4g bs es (b0g bs es k)) = a :: r := by
     cases e : bs.filter (a4g bs es (b0g bs es k)) with
     | nil => exact absurd e nek
     | cons a r => exact ⟨a, r, rfl⟩
    rw [ea] at h4
    have h24 := S4 _ _ h2
    have nl : l ≠ D := fun e => by rw [<- e, h2] at n3; cases n3
    clear h2 h3
    walk_at "rd*"
    refine ⟨by omega, ?_⟩
    rintro _ H5 ⟨rfl, B5, h5⟩
    refine ⟨bs.length - (k + 1), by omega, pin _ _ _ ⟨k + 1, rfl, (S2.trans S4).step n1 B5, ?_, by omega, rfl⟩⟩
    rw [h5, b0g, ea, List.map_append]
    rfl
  ·rename_i hk
   obtain rfl : k = bs.length := by omega
   exact q _ _ ⟨l, rfl, n1, S2, h2⟩
theorem Rch.refl (es : List (Str × Str)) (x : Str) : Rch es x x := fun _ h _ => h
theorem Rch.step {es : List (Str × Str)} {x u v : Str} (h : Rch es x u) (he : (u, v) ∈ es) : Rch es x v := fun S hx hc => hc u v (h S hx hc) he
theorem filter_lt {α : Type} {p q : α -> Bool} : ∀ {l : List α} {a : α}, (∀ x, q x = true -> p x = true) -> a ∈ l -> p a = true -> q a = false -> (l.filter q).length < (l.filter p).length
 | [], _, _, h, _, _ => by cases h
 | x :: l, a, hpq, h, ha, hqa => by
  have le : ∀ l : List α, (l.filter q).length <= (l.filter p).length := fun l => by
   induction l with
   | nil => exact Nat.le_refl _
   | cons y l ih =>
    rw [List.filter_cons, List.filter_cons]
    cases hq : q y with
    | true => rw [if_pos rfl, if_pos (hpq y hq), List.length_cons, List.length_cons]; omega
    | false =>
     rw [if_neg Bool.false_ne_true]
     split
     ·rw [List.length_cons]; omega
     ·exact ih
  rw [List.filter_cons, List.filter_cons]
  rcases List.mem_cons.mp h with e | h
  ·subst e
   rw [if_neg (by rw [hqa]; exact Bool.false_ne_true), if_pos ha, List.length_cons]
   have := le l
   omega
  ·have ih := filter_lt hpq h ha hqa
   cases hq : q x with
   | true => rw [if_pos rfl, if_pos (hpq x hq), List.length_cons, List.length_cons]; omega
   | false =>
    rw [if_neg Bool.false_ne_true]
    split
    ·rw [List.length_cons]; omega
    ·exact ih
theorem d1t {es : List (Str × Str)} {ks : List Str} {e : Str × Str} (he : e ∈ es) (hn : e.2 ∉ ks) : cnt es (ks ++ [e.2]) < cnt es ks := by
 refine filter_lt (fun x hx => ?_) he (by simpa using hn) (by simp)
 simp at hx ⊢
 exact hx.1
theorem b4y : ∀ {kvs : List (Key × V)} {k : Key}, k ∉ kvs.map (·.1) -> b2v kvs k = none
 | [], _, _ => rfl
 | p :: r, k, h => by
  rw [List.map_cons, List.mem_cons, not_or] at h
  rw [b2k (fun e => h.1 e.symm)]
  exact b4y h.2
theorem b4z : ∀ {kvs : List (Key × V)} {k : Key}, k ∈ kvs.map (·.1) -> ∃ v, b2v kvs k = some v /\ (k, v) ∈ kvs
 | [], _, h => by cases h
 | p :: r, k, h => by
  by_cases e : p.1 = k
  ·exact ⟨p.2, b3v e, by rw [<- e]; exact List.mem_cons_self⟩
  ·rw [List.map_cons, List.mem_cons] at h
   obtain ⟨v, h1, h2⟩ := b4z (h.resolve_left fun z => e z.symm)
   exact ⟨v, by rw [b2k e]; exact h1, List.mem_cons_of_mem _ h2⟩
theorem c7v {x : Str} {ks : List Str} : kT x ∈ ks.map kT ↔ x ∈ ks := by
 constructor
 ·intro h
  obtain ⟨y, hy, e⟩ := List.mem_map.mp h
  injection e with e
  rw [<- e]
  exact hy
 ·exact fun h => List.mem_map_of_mem h
theorem c3u.same {H H' : Hp} {L : Addr} {kvs : List (Key × V)} {ks : List Str} (h : c3u H L kvs ks) (S : Same H H') : c3u H' L kvs ks :=
 ⟨h.1, fun kv hkv => (h.2 kv hkv).elim fun l z => z.elim fun ss q => ⟨l, ss, q.1, q.2.1, S _ _ q.2.2.1, q.2.2.2⟩⟩
theorem c3u.b3t {H H' : Hp} {L : Addr} {kvs : List (Key × V)} {ks : List Str} (h : c3u H L kvs ks) (B : a1q L H H') : c3u H' L kvs ks :=
 ⟨h.1, fun kv hkv => (h.2 kv hkv).elim fun l z => z.elim fun ss q => ⟨l, ss, q.1, q.2.1, B _ _ q.2.1 q.2.2.1, q.2.2.2⟩⟩
theorem c3u.put {H H' : Hp} {L W l : Addr} {kvs kvs' : List (Key × V)} {ks : List Str} {z : Str} {ss : List Str} (h : c3u H L kvs ks) (hW : H W = some (.dK kvs')) (hz : z ∉ ks) (hl : H l = some (.lst (ss.map V.str))) (nl : l ≠ L) (sl : ss.length <= kvs.length + 1) (B : a1q W H H') : c3u H' L (putK kvs (kT z) (.ref l)) (ks ++ [z]) /\ (putK kvs (kT z) (.ref l)).length = kvs.length + 1 := by
 have hn : b2v kvs (kT z) = none := b4y (by rw [h.1, c7v]; exact hz)
 have ne : ∀ {p : Addr} {ys : List V}, H p = some (.lst ys) -> p ≠ W := fun e q => by rw [q, hW] at e; cases e
 rw [c8q _ hn]
 refine ⟨⟨by rw [List.map_append, List.map_append, h.1]; rfl, fun kv hkv => ?_⟩, by rw [List.length_append]; rfl⟩
 rw [List.length_append, List.length_singleton]
 rcases List.mem_append.mp hkv with h1 | h1
 ·obtain ⟨l', ss', e1, e2, e3, e4⟩ := h.2 kv h1
  exact ⟨l', ss', e1, e2, B _ _ (ne e3) e3, by omega⟩
 ·obtain rfl := List.mem_singleton.mp h1
  exact ⟨l, ss, rfl, nl, B _ _ (ne hl) hl, sl⟩
theorem f0m (T : Tx K mg A) : a4n P A.wd K mg base CX0 1 A.a2z A.a9p ["self", "start", "end"] (f0g A) := by
 have a0r := T.a0r
 have a0g := T.a0g
 have a0i := T.a0i
 have a0h := T.a0h
 have a0j := T.a0j
 refine T.a8u.ok a5t (fun vs H Q E h => ?_) (fun cdv A' outer s H vs Q E hr h => ?_)
 ·match vs, h with
  | [.ref o, .str x, .str y], _ => rfl
 ·match vs, h with
  | [.ref o, .str x, .str y], ⟨t, b, sd, ts, bs, es, hP, nr, e100, okx, oke, q⟩ =>
  have hu := hr.units
  have hs : sizeLine = 16777216 := sizeLine_eq
  obtain ⟨dx, ou, ps, ho, ht, hb, hsd, hE, d1, d2, d3⟩ := id hP
  unfold ptF at ho
  have el := hE.1
  refine ⟨_, (a0m (a1y (i := 3) a5t.nd rfl (Or.inl rfl) (c9r (pvF 1) (a2m (a0k (pvF 1) a0n))))
   (a0m (a1y (i := 4) a5t.nd rfl (Or.inl rfl) (a2m (a0k (pvF 1) a0n)))
   (a0m (b4m PassesOwn.never (a0t (c1u hu) (pvF 4) (a2m a0n) (a4h _))
   (a0m (a1y (i := 5) a5t.nd rfl (Or.inl rfl) (d3t a4q PySem.F.plainAttrs_list PySem.F.slot_list_pop PySem.F.type_list_pop d3w (pvF 4)))
   (a0m (a7v (a0t (a9k hu) (pvF 5) (pvF 2) (a4h _))
   (a0o (a4o (c2k (hu1 hu) (pvF 3) (pvF 5) (fun _ _ => rfl))))
   a1w)
   (a0o (a7p PassesOwn.never rfl (a3j (a3v (pvF 0) rfl)) (a3u (i := 6) a5t.nd rfl (Or.inl rfl))
   (a0o (a7v (pw_and (a0t (a9k hu) (a7o b5w (pvF 6) a0p (fun _ _ => rfl)) (pvF 5) (a4h _)) (pw_and1 (d4h (c3k (hu1 hu) (a7o b5w (pvF 6) a0p (fun _ _ => rfl)) (pvF 3)) (by rfl)))).pt
   (a0m (c9q (hu1 hu) (pvF 3) (a7o b5w (pvF 6) a0p (fun _ _ => rfl)) (a3i a5v (c2k (hu1 hu) (pvF 3) (pvF 5) (fun _ _ => rfl)) (a2m (a0k (a7o b5w (pvF 6) a0p (fun _ _ => rfl)) a0n))) rfl)
   (a0o (a3p (b0t a4q PySem.F.plainAttrs_list PySem.F.slot_list_append PySem.F.type_list_append a2q (pvF 4) (a0k (a7o b5w (pvF 6) a0p (fun _ _ => rfl)) a0n)))))
   a1w)))))))
   (a0o (a4o (a2m a0n)))))), ?_⟩
  walk_at "rd"
  refine fun W H1 n1 S1 h1 => ⟨by omega, fun l1 H2 n2 S2 h2 => ⟨x, rfl, S2 _ _ h1, fun H3 B3 h3 => ?_⟩⟩
  have nlW : l1 ≠ W := fun e => by rw [e, h1] at n2; cases n2
  have h23 := B3 _ _ nlW h2
  have S03 : Same H H3 := fun z u e => B3 _ _ (fun q => by rw [q, n1] at e; cases e) (S2 _ _ (S1 _ _ e))
  clear h1 h2
  walk_at "rd"
  refine ⟨by omega, fun L H4 n4 S4 h4 => ?_⟩
  have nWL : W ≠ L := fun e => by rw [<- e, h3] at n4; cases n4
  have nL : H L = none := S03.free n4
  have h34 := S4 _ _ h3
  have h24 := S4 _ _ h23
  have h23' := h23
  clear h3 h23
  obtain ⟨Pv, pin, pout⟩ := b2z (fun m σ H' => ∃ (kvs : List (Key × V)) (ks ws : List Str) (v5 v6 : Option V), σ = [some (.ref o), some (.str x), some (.str y), some (.ref W), some (.ref L), v5, v6] /\ Same H H' /\ H' W = some (.dK kvs) /\ H' L = some (.lst (ws.map V.str)) /\ c3u H' L kvs ks /\ (∀ z ∈ ws, z ∈ ks) /\ (∀ z ∈ ks, Rch es x z /\ PyData.strOk z = true) /\ kvs.length + cnt es ks <= es.length + 1 /\ 2 * cnt es ks + ws.length <= 2 * es.length + 1 /\ m = 2 * cnt es ks + ws.length)
  have nlL : l1 ≠ L := fun e => by rw [<- e, h23'] at n4; cases n4
  have w0 : c3u H4 L [(kT x, .ref l1)] [x] := ⟨rfl, fun kv hkv => by
   obtain rfl := List.mem_singleton.mp hkv
   exact ⟨l1, [x], rfl, nlL, h24, Nat.le_refl _⟩⟩
  have c0 : cnt es [x] <= es.length := List.length_filter_le _ _
  refine b4n Pv _ (pin _ _ _ ⟨_, [x], [x], _, _, rfl, S03.trans S4, h34, h4, w0, fun z hz => hz, fun z hz => by obtain rfl := List.mem_singleton.mp hz; exact ⟨Rch.refl _ _, okx⟩, by rw [List.length_singleton]; omega, by rw [List.length_singleton]; omega, rfl⟩) ?_
  intro m σ H5 hp
  obtain ⟨kvs, ks, ws, v5, v6, rfl, S5, hW, hL, wy, wk, kr, kc, mb, em⟩ := pout _ _ _ hp
  clear hp h4 h34 h24 w0
  walk_at "rd"
  refine ⟨by omega, fun l6 H6 n6 S6 h6 => ?_⟩
  have hW6 := S6 _ _ hW
  have hL6 := S6 _ _ hL
  walk_at "rd"
  refine c2h (ns := ws) (ms := []) (SqL.of hL6) (SqL.of h6) (fun z hz => (kr z (wk z hz)).2) (fun z hz => by cases hz) ?_
  cases ws with
  | nil =>
   rw [show (!decide (([] : List Str) = [])) = false from rfl]
   walk_at "rd"
   refine ⟨by omega, fun l7 H7 n7 S7 h7 => q _ _ ⟨l7, rfl, (S5.trans S6).free n7, S5.trans (S6.trans S7), h7⟩⟩
  | cons w0 wr =>
   obtain ⟨ws, ews⟩ : ∃ ws, w0 :: wr = ws := ⟨_, rfl⟩
   have wne : ws ≠ [] := by rw [<- ews]; exact fun e => by cases e
   have wl : 0 < ws.length := by rw [<- ews]; exact Nat.succ_pos _
   rw [ews] at hL6 wk em mb ⊢
   rw [decide_eq_false wne]
   clear hW hL h6
   walk_at "rd*"
   rintro v H7 ⟨hv, B7, h7⟩
   rw [List.length_map, List.getElem?_map, List.getElem?_eq_getElem (by omega)] at hv
   cases hv
   obtain ⟨sc, esc⟩ : ∃ z, ws[ws.length - 1]'(by omega) = z := ⟨_, rfl⟩
   have scw : sc ∈ ws := by rw [<- esc]; exact List.getElem_mem _
   have sck := wk sc scw
   have ny : sc ≠ y := fun e => nr (by rw [<- e]; exact (kr sc sck).1)
   have ny' : (sc = y) = False := eq_false ny
   rw [esc]
   rw [<- List.map_dropLast] at h7
   have hW7 := B7 _ _ nWL hW6
   have S7' : Same H H7 := (S5.trans S6).step nL B7
   have ho7 := S7' _ _ ho
   have f0n := S7' _ _ hsd
   have wy7 := (wy.same S6).b3t B7
   have dl : ws.dropLast.length = ws.length - 1 := List.length_dropLast
   clear hW6 hL6
   walk_at "rd*"
   refine ⟨⟨_, SqL.of f0n⟩, ?_⟩
   obtain ⟨Pw, win, wout⟩ := b2z (fun i σ H' => ∃ (kv2 : List (Key × V)) (k2 w2 : List Str) (v6 : Option V), σ = [some (.ref o), some (.str x), some (.str y), some (.ref W), some (.ref L), some (.str sc), v6] /\ Same H H' /\ H' W = some (.dK kv2) /\ H' L = some (.lst (w2.map V.str)) /\ c3u H' L kv2 k2 /\ sc ∈ k2 /\ (∀ z ∈ w2, z ∈ k2) /\ (∀ z ∈ k2, Rch es x z /\ PyData.strOk z = true) /\ kv2.length + cnt es k2 <= es.length + 1 /\ 2 * cnt es k2 + w2.length + 1 <= 2 * cnt es ks + ws.length)
   refine a6l (xs := ps.map V.ref) Pw (win _ _ _ ⟨kvs, ks, ws.dropLast, _, rfl, S7', hW7, h7, wy7, sck, fun z hz => wk z (List.dropLast_subset _ hz), kr, kc, by omega⟩) ?_ ?_ ?_
   ·intro i σ H8 hi hp
    obtain ⟨kv2, k2, w2, v6', rfl, S8, _⟩ := wout _ _ _ hp
    exact SqL.of (S8 _ _ hsd)
   ·intro i v σ H8 hv hp
    rw [List.getElem?_map] at hv
    obtain ⟨p, hpi, rfl⟩ := Option.map_eq_some_iff.mp hv
    obtain ⟨kv2, k2, w2, v6', rfl, S8, hW8, hL8, wy8, sk8, wk8, kr8, kc8, em8⟩ := wout _ _ _ hp
    have hi := (List.getElem?_eq_some_iff.mp hpi).1
    have hei : es[i]? = some (es[i]'(by omega)) := List.getElem?_eq_getElem _
    obtain ⟨lw, hpe⟩ := hE.2 i p _ hpi hei
    have me := List.mem_of_getElem? hei
    generalize es[i]'(by omega) = e at hei hpe me
    have hp8 := S8 _ _ hpe
    have iv := b4y (kvs := kv2) (k := kT e.2)
    clear hv hp ho7 f0n hW7 h7
    walk_at "rd*"
    split
    ·rename_i hc
     obtain ⟨v, hv1, hv2⟩ := b4z (kvs := kv2) (k := kT sc) (by rw [wy8.1, c7v]; exact sk8)
     obtain ⟨lv, ss, ev, nlv, hlv, sl⟩ := wy8.2 _ hv2
     replace ev : v = .ref lv := ev
     subst ev
     have hn : e.2 ∉ k2 := fun hm => by
      obtain ⟨u, hu1, _⟩ := b4z (kvs := kv2) (k := kT e.2) (by rw [wy8.1, c7v]; exact hm)
      rw [hu1] at hc
      exact absurd hc.2 (by simp)
     refine ⟨_, hv1, fun l9 H9 n9 S9 h9 => ?_⟩
     have hlv9 := S9 _ _ hlv
     walk_at "rd*"
     refine ⟨by omega, fun l10 H10 n10 S10 h10 => ?_⟩
     have f0o := S9.trans S10
     have f6y := f0o _ _ hW8
     have f1o := f0o _ _ hp8
     have hL10 := f0o _ _ hL8
     have n10L : l10 ≠ L := fun q => by rw [q, S9 _ _ hL8] at n10; cases n10
     clear hW8 hp8 h9 hlv9
     walk_at "rd*"
     refine ⟨by omega, fun H11 B11 h11 => ?_⟩
     have hL11 := B11 _ _ nWL.symm hL10
     have hp11 := B11 _ _ (fun q => by rw [q, f6y] at f1o; cases f1o) f1o
     have f6z := (wy8.same f0o).put (z := e.2) f6y hn (ss := ss ++ [e.2]) (by rw [h10, List.map_append]; rfl) n10L (by rw [List.length_append, List.length_singleton]; omega) B11
     have nHW : H W = none := n1
     clear f1o
     walk_at "rd*"
     refine ⟨by omega, ?_⟩
     rintro _ H12 ⟨rfl, B12, h12⟩
     have cl := d1t me hn
     refine win _ _ _ ⟨_, k2 ++ [e.2], w2 ++ [e.2], _, rfl, ((S8.trans f0o).step nHW B11).step nL B12, B12 _ _ nWL h11, by rw [h12, List.map_append]; rfl, f6z.1.b3t B12, List.mem_append_left _ sk8, fun z hz => ?_, fun z hz => ?_, by rw [f6z.2]; omega, by rw [List.length_append, List.length_singleton]; omega⟩
     ·rcases List.mem_append.mp hz with h | h
      ·exact List.mem_append_left _ (wk8 z h)
      ·exact List.mem_append_right _ h
     ·rcases List.mem_append.mp hz with h | h
      ·exact kr8 z h
      ·obtain rfl := List.mem_singleton.mp h
       exact ⟨(kr8 sc sk8).1.step (by rw [<- hc.1]; exact me), oke _ me⟩
    ·exact win _ _ _ ⟨kv2, k2, w2, _, rfl, S8, hW8, hL8, wy8, sk8, wk8, kr8, kc8, em8⟩
   ·intro σ H8 hp
    obtain ⟨kv2, k2, w2, v6', rfl, S8, hW8, hL8, wy8, sk8, wk8, kr8, kc8, em8⟩ := wout _ _ _ hp
    exact ⟨2 * cnt es k2 + w2.length, by omega, pin _ _ _ ⟨kv2, k2, w2, _, _, rfl, S8, hW8, hL8, wy8, wk8, kr8, kc8, by omega, rfl⟩⟩
theorem Eds.snoc {H : Hp} {ps : List Addr} {es : List (Str × Str)} {p lw : Addr} {x y : Str} (h : Eds H ps es) (hp : H p = some (.tup [.str x, .str y, .ref lw])) : Eds H (ps ++ [p]) (es ++ [(x, y)]) := by
 obtain ⟨hl, h⟩ := h
 refine ⟨by rw [List.length_append, List.length_append, hl]; rfl, fun i s e h1 h2 => ?_⟩
 rcases Nat.lt_or_ge i es.length with z | z
 ·rw [List.getElem?_append_left (by omega)] at h1
  rw [List.getElem?_append_left z] at h2
  exact h i s e h1 h2
 ·have hi := (List.getElem?_eq_some_iff.mp h2).1
  rw [List.length_append, List.length_singleton] at hi
  obtain rfl : i = es.length := by omega
  rw [<- hl, List.getElem?_concat_length] at h1
  rw [List.getElem?_concat_length] at h2
  cases h1
  cases h2
  exact ⟨lw, hp⟩
theorem d4p (T : Tx K mg A) : a4n P A.wd K mg base CX0 5 A.a2j A.a8o ["self", "source", "bus", "words"] (d1q A) := by
 have b9k : a4n P A.wd K mg base CX0 3 _ _ _ _ := f0h T
 have b7h : a4n P A.wd K mg base CX0 2 _ _ _ _ := f0i T
 have c1h : a4n P A.wd K mg base CX0 1 _ _ _ _ := f0m T
 have a0r := T.a0r
 have a0g := T.a0g
 have a0i := T.a0i
 have a0h := T.a0h
 have a0j := T.a0j
 have a8v := T.a8v
 have a0v := T.a0v
 have a0s := T.a0s
 refine T.a7l.ok a8k (fun vs H Q E h => ?_) (fun cdv A' outer s H vs Q E hr h => ?_)
 ·match vs, h with
  | [.ref o, .str x, .str y, .ref l], _ => rfl
 ·match vs, h with
  | [.ref o, .str x, .str y, .ref l], ⟨t, b, sd, ts, bs, es, hP, hl, hx, hy, nr, e99, oky, oke, q⟩ =>
  have hu := hr.units
  have hs : sizeLine = 16777216 := sizeLine_eq
  have b7i : a5u 4 _ := hr.mono (by decide)
  have b5q : a5u 2 _ := hr.mono (by decide)
  have b9l : a5u 1 _ := hr.mono (by decide)
  obtain ⟨dx, ou, ps, ho, ht, hb, hsd, hE, d1, d2, d3⟩ := id hP
  unfold ptF at ho
  have el := hE.1
  have ft := a3s ts
  have fb := a3s bs
  have i1 := a2t x ts
  have i2 := a2t x bs
  have i3 := a2t y bs
  have n1 : ¬ (x ∉ ts /\ x ∉ bs) := fun z => hx.elim z.1 z.2
  refine ⟨_, (a0m (a7v (pw_and (a0t a6n (pvF 1) (a3v (pvF 0) rfl) (by rfl)) (pw_and1 (a0t a6n (pvF 1) (a3v (pvF 0) rfl) (by rfl)))).pt
   (a0o a8i)
   a1w)
   (a0m (a7v (a0t a6n (pvF 2) (a3v (pvF 0) rfl) (by rfl))
   (a0o a8i)
   a1w)
   (a0m (a1y (i := 4) a8k.nd rfl (Or.inl rfl) (c9i T.d4j b9k b7i (by rfl) T.b2r T.a9u .nil a5r (a0k (pvF 3) a0n)))
   (a0m (a1y (i := 5) a8k.nd rfl (Or.inl rfl) (a7g (pvF 0) T.a0r T.b9g c1h b9l T.b1p .nil a5r (a0k (pvF 2) (a0k (pvF 1) a0n))))
   (a0m (a7v (a0t (c1u hu) (pvF 5) (a2m a0n) (a4h _))
   (a0o a8i)
   a1w)
   (a0o (a3p (b0t a4q PySem.F.plainAttrs_list PySem.F.slot_list_append PySem.F.type_list_append a2q (a3v (pvF 0) rfl) (a0k (c5v (a0k (pvF 1) (a0k (pvF 2) (a0k (a9m (pvF 4) T.a8v T.b5p b7h b5q T.a8q .nil a5r) a0n)))) a0n))))))))), ?_⟩
  walk_at "rd*"
  have key : ∀ R : Prop, R -> (if ¬ x ∈ ts then a6y (V.str x) = true /\ if ¬ x ∈ bs then False else R else R) := fun R hR => by
   split
   ·rename_i h1
    rw [if_neg (not_not_intro (hx.resolve_left h1))]
    exact ⟨rfl, hR⟩
   ·exact hR
  refine ⟨rfl, key _ ⟨rfl, ?_⟩⟩
  intro c cx H2 n2 n2' nx S2 hdx hc
  refine ⟨cx, hc, S2 _ _ hl, fun H3 B3 hC => ?_⟩
  rw [asNew]
  refine ⟨rfl, ?_⟩
  have S03 : Same H H3 := fun z u e => B3 _ _ (fun ze => by rw [ze] at e; rw [e] at n2; cases n2) (S2 _ _ e)
  have ho3 := S03 _ _ ho
  have hP3 := hP.same S03
  clear hc
  walk_at "rd*"
  refine ⟨t, b, sd, ts, bs, es, hP3, nr, by omega, oke, ?_⟩
  rintro _ H4 ⟨rg, rfl, n4, S4, h4⟩
  clear ho3
  walk_at "rd"
  refine ⟨by omega, fun l5 H5 n5 S5 h5 => ?_⟩
  walk_at "rd"
  refine c2h (ns := []) (ms := []) (SqL.of (S5 _ _ h4)) (SqL.of h5) (fun z hz => by cases hz) (fun z hz => by cases hz) ?_
  rw [show (!decide (([] : List Str) = [])) = false from rfl]
  have S05 := S03.trans (S4.trans S5)
  have S35 := S4.trans S5
  have ho5 := S05 _ _ ho
  have f7g := S05 _ _ hsd
  have hC5 : f4i A H5 c := by
   obtain ⟨cx, pl, sl, z1, z2⟩ := hC
   exact ⟨cx, pl, sl, S35 _ _ z1, S35 _ _ z2⟩
  obtain ⟨cx', pl', sl', hc5, hpl5⟩ := id hC5
  clear h4 h5
  walk_at "rd*"
  rintro _ H6 ⟨lw, rfl, n6, S6, h6⟩
  clear ho5 hc5
  walk_at "rd"
  refine ⟨by omega, fun p7 H7 n7 S7 h7 => ?_⟩
  have S57 := S6.trans S7
  have S07 := S05.trans S57
  have f0n := S57 _ _ f7g
  clear f7g
  walk_at "rd*"
  refine ⟨by omega, ?_⟩
  rintro _ H8 ⟨rfl, B8, h8⟩
  try walk_at "rd"
  have ns : ∀ {z : Addr} {u : HO}, H7 z = some u -> (∀ ys, u ≠ .lst ys) -> z ≠ sd := fun e hu q => by
   rw [q, f0n] at e
   cases e
   exact hu _ rfl
  refine q H8 (fun z u hz e => B8 _ _ hz (S07 _ _ e)) ⟨dx, ou, ps ++ [p7], B8 _ _ (ns (S07 _ _ ho) fun _ q => by cases q) (S07 _ _ ho), B8 _ _ d2 (S07 _ _ ht), B8 _ _ d3 (S07 _ _ hb), by rw [h8, List.map_append]; rfl, ((hE.same S07).snoc h7).b3t f0n B8, d1, d2, d3⟩
theorem c9u.nil : c9u [] := ⟨fun _ => 0, fun e he => by cases he⟩
theorem c9u.add {es : List (Str × Str)} {x y : Str} (h : c9u es) (hn : ¬ Rch es y x) : c9u (es ++ [(x, y)]) := by
 classical
 obtain ⟨r, hr⟩ := h
 refine ⟨fun z => r z + if Rch es y z then r x + 1 else 0, fun e he => ?_⟩
 rcases List.mem_append.mp he with he | he
 ·have h0 := hr e he
  by_cases h1 : Rch es y e.1
  ·have h2 : Rch es y e.2 := h1.step he
   show r e.1 + (if Rch es y e.1 then r x + 1 else 0) < r e.2 + if Rch es y e.2 then r x + 1 else 0
   rw [if_pos h1, if_pos h2]
   omega
  ·show r e.1 + (if Rch es y e.1 then r x + 1 else 0) < r e.2 + if Rch es y e.2 then r x + 1 else 0
   rw [if_neg h1]
   split <;> omega
 ·obtain rfl := List.mem_singleton.mp he
  show r x + (if Rch es y x then r x + 1 else 0) < r y + if Rch es y y then r x + 1 else 0
  rw [if_neg hn, if_pos (Rch.refl _ _)]
  omega
theorem c2m : ∀ {l m : List Str}, l.Nodup -> (∀ x ∈ l, x ∈ m) -> l.length <= m.length
 | [], _, _, _ => Nat.zero_le _
 | a :: l, m, nd, h => by
  have ha := h a List.mem_cons_self
  have nd' := List.nodup_cons.mp nd
  have ih := c2m (l := l) (m := m.erase a) nd'.2 fun x hx => (List.mem_erase_of_ne (fun e => nd'.1 (by rw [<- e]; exact hx))).mpr (h x (List.mem_cons_of_mem _ hx))
  rw [List.length_erase_of_mem ha] at ih
  have := List.length_pos_of_mem ha
  rw [List.length_cons]
  omega
theorem least (r : Str -> Nat) : ∀ (l : List Str), l ≠ [] -> ∃ z ∈ l, ∀ w ∈ l, r z <= r w
 | [], h => absurd rfl h
 | [a], _ => ⟨a, List.mem_cons_self, fun w hw => by obtain rfl := List.mem_singleton.mp hw; exact Nat.le_refl _⟩
 | a :: b :: l, _ => by
  obtain ⟨z, hz, hm⟩ := least r (b :: l) (by simp)
  by_cases h : r a <= r z
  ·refine ⟨a, List.mem_cons_self, fun w hw => ?_⟩
   rcases List.mem_cons.mp hw with e | hw
   ·rw [e]; exact Nat.le_refl _
   ·have := hm w hw
    omega
  ·refine ⟨z, List.mem_cons_of_mem _ hz, fun w hw => ?_⟩
   rcases List.mem_cons.mp hw with e | hw
   ·rw [e]; omega
   ·exact hm w hw
theorem c1i (bs : List Str) (es : List (Str × Str)) : ∀ k, (b0g bs es k).length <= k
 | 0 => Nat.le_refl _
 | k + 1 => by
  rw [b0g, List.length_append]
  have := c1i bs es k
  cases bs.filter (a4g bs es (b0g bs es k)) with
  | nil => show _ + 0 <= _; omega
  | cons a r => show _ + 1 <= _; omega
theorem ready {bs : List Str} {es : List (Str × Str)} (h : c9u es) (nd : bs.Nodup) (k : Nat) (hk : k < bs.length) : bs.filter (a4g bs es (b0g bs es k)) ≠ [] := by
 obtain ⟨r, hr⟩ := h
 have hol := c1i bs es k
 generalize b0g bs es k = pl at hol
 have hne : bs.filter (fun z => decide (z ∉ pl)) ≠ [] := fun e => by
  have := c2m (m := pl) nd fun x hx => by
   by_cases hp : x ∈ pl
   ·exact hp
   ·have : x ∈ bs.filter (fun z => decide (z ∉ pl)) := List.mem_filter.mpr ⟨hx, by simpa using hp⟩
    rw [e] at this
    cases this
  omega
 obtain ⟨z, hz, hm⟩ := least r _ hne
 obtain ⟨hzb, hzp⟩ := List.mem_filter.mp hz
 have hzp' : z ∉ pl := by simpa using hzp
 refine List.ne_nil_of_mem (a := z) (List.mem_filter.mpr ⟨hzb, ?_⟩)
 unfold a4g
 rw [Bool.and_eq_true]
 refine ⟨by simpa using hzp', ?_⟩
 rw [List.all_eq_true]
 intro e he
 cases hc : (decide (e.2 = z) && (decide (e.1 ∈ bs) && !decide (e.1 ∈ pl))) with
 | false => rfl
 | true =>
  simp at hc
  obtain ⟨h1, h2, h3⟩ := hc
  have a := hr e he
  have b := hm e.1 (List.mem_filter.mpr ⟨h2, by simpa using h3⟩)
  rw [h1] at a
  omega
theorem Pr2.same {H H' : Hp} {ps : List Addr} {es : List (Str × Str)} (h : Pr2 H ps es) (S : Same H H') : Pr2 H' ps es := ⟨h.1, fun i p e h1 h2 => S _ _ (h.2 i p e h1 h2)⟩
theorem Pr2.b3t {D : Addr} {H H' : Hp} {ps : List Addr} {es : List (Str × Str)} {ys : List V} (h : Pr2 H ps es) (hD : H D = some (.lst ys)) (B : a1q D H H') : Pr2 H' ps es :=
 ⟨h.1, fun i p e h1 h2 => B _ _ (fun q => by have z := h.2 i p e h1 h2; rw [q, hD] at z; cases z) (h.2 i p e h1 h2)⟩
theorem Pr2.snoc {H : Hp} {ps : List Addr} {es : List (Str × Str)} {p : Addr} {x y : Str} (h : Pr2 H ps es) (hp : H p = some (.tup [.str x, .str y])) : Pr2 H (ps ++ [p]) (es ++ [(x, y)]) := by
 obtain ⟨hl, h⟩ := h
 refine ⟨by rw [List.length_append, List.length_append, hl]; rfl, fun i s e h1 h2 => ?_⟩
 rcases Nat.lt_or_ge i es.length with z | z
 ·rw [List.getElem?_append_left (by omega)] at h1
  rw [List.getElem?_append_left z] at h2
  exact h i s e h1 h2
 ·have hi := (List.getElem?_eq_some_iff.mp h2).1
  rw [List.length_append, List.length_singleton] at hi
  obtain rfl : i = es.length := by omega
  rw [<- hl, List.getElem?_concat_length] at h1
  rw [List.getElem?_concat_length] at h2
  cases h1
  cases h2
  exact hp
theorem c9w (T : Tx K mg A) : a4n P A.wd K mg base CX0 1 A.a3z A.a9r ["_law_sends", "_law_first", "_law_last"] c7o := by
 refine T.a6v.ok a4m (fun vs H Q E h => ?_) (fun cdv A' outer s H vs Q E hr h => ?_)
 ·match vs, h with
  | [.ref l, .str x, .str y], _ => rfl
 ·match vs, h with
  | [.ref l, .str x, .str y], ⟨ps, es, hl, hE, e100, q⟩ =>
  have hu := hr.units
  have hs : sizeLine = 16777216 := sizeLine_eq
  have el := hE.1
  refine ⟨_, (a0m (a1y (i := 3) a4m.nd rfl (Or.inl rfl) (a2m (a0k (pvF 1) a0n)))
   (a0m (a1y (i := 4) a4m.nd rfl (Or.inl rfl) a0p)
   (a0m (b4m PassesOwn.never (a0t of_lt (pvF 4) (a2l a3r (by rfl) T.b1s boot_len (a0k (pvF 3) a0n)) (a4h _))
   (a0m (a7p PassesOwn.never rfl (a3j (pvF 0)) (d3r (n := 2) rfl (b8r (a3u (i := 5) a4m.nd rfl (Or.inl rfl)) (b8r (a3u (i := 6) a4m.nd rfl (Or.inl rfl)) c9l)))
   (a0o (a7v (pw_and (a0t (a9k hu) (pvF 5) (a7o b5w (pvF 3) (pvF 4) (fun _ _ => rfl)) (a4h _)) (pw_and1 (a0t a6n (pvF 6) (pvF 3) (by rfl)))).pt
   (a0o (a3p (b0t a4q PySem.F.plainAttrs_list PySem.F.slot_list_append PySem.F.type_list_append a2q (pvF 3) (a0k (pvF 6) a0n))))
   a1w)))
   (a0o (a1y (i := 4) a4m.nd rfl (Or.inl rfl) (a3i a5v (pvF 4) a0p)))))
   (a0o (a4o (b9z b4r (pvF 2) (pvF 3) (by rfl))))))), ?_⟩
  walk_at "rd"
  refine ⟨by omega, fun D H1 n1 S1 h1 => ?_⟩
  obtain ⟨Pv, pin, pout⟩ := b2z (fun m σ H' => ∃ (rs : List Str) (k : Nat) (v5 v6 : Option V), σ = [some (.ref l), some (.str x), some (.str y), some (.ref D), some (.int k), v5, v6] /\ Same H H' /\ H' D = some (.lst (rs.map V.str)) /\ x ∈ rs /\ k <= rs.length /\ (∀ (i : Nat) u v, i < k -> rs[i]? = some u -> (u, v) ∈ es -> v ∈ rs) /\ rs.length + cnt es rs <= es.length + 1 /\ m = 2 * cnt es rs + (rs.length - k))
  have c0 : cnt es [x] <= es.length := List.length_filter_le _ _
  refine b4n Pv _ (pin _ _ _ ⟨[x], 0, _, _, rfl, S1, h1, List.mem_cons_self, Nat.zero_le _, fun i u v hi => absurd hi (Nat.not_lt_zero _), by rw [List.length_singleton]; omega, rfl⟩) ?_
  intro m σ H2 hp
  obtain ⟨rs, k, v5, v6, rfl, S2, hD, xr, kl, cl, rc, em⟩ := pout _ _ _ hp
  clear hp h1
  walk_at "rd*"
  split
  ·rename_i hk
   have hl2 := S2 _ _ hl
   refine ⟨⟨_, SqL.of hl2⟩, ?_⟩
   have hk' : k < rs.length := by omega
   obtain ⟨cur, ecur⟩ : ∃ c, rs[k]? = some c := ⟨_, List.getElem?_eq_getElem hk'⟩
   obtain ⟨Pw, win, wout⟩ := b2z (fun j σ H' => ∃ (mo : List Str) (v5 v6 : Option V), σ = [some (.ref l), some (.str x), some (.str y), some (.ref D), some (.int k), v5, v6] /\ Same H H' /\ H' D = some (.lst ((rs ++ mo).map V.str)) /\ (∀ (i : Nat) v, i < j -> es[i]? = some (cur, v) -> v ∈ rs ++ mo) /\ (rs ++ mo).length + cnt es (rs ++ mo) <= es.length + 1 /\ 2 * cnt es (rs ++ mo) + (rs ++ mo).length <= 2 * cnt es rs + rs.length)
   refine a6l (xs := ps.map V.ref) Pw (win _ _ _ ⟨[], _, _, rfl, S2, by rw [List.append_nil]; exact hD, fun i v hi => absurd hi (Nat.not_lt_zero _), by rw [List.append_nil]; exact rc, by rw [List.append_nil]; exact Nat.le_refl _⟩) ?_ ?_ ?_
   ·intro i σ H3 hi hp
    obtain ⟨mo, v5', v6', rfl, S3, _⟩ := wout _ _ _ hp
    exact SqL.of (S3 _ _ hl)
   ·intro i v σ H3 hv hp
    rw [List.getElem?_map] at hv
    obtain ⟨p, hpi, rfl⟩ := Option.map_eq_some_iff.mp hv
    obtain ⟨mo, v5', v6', rfl, S3, hD3, cl3, rc3, em3⟩ := wout _ _ _ hp
    have hi := (List.getElem?_eq_some_iff.mp hpi).1
    have hei : es[i]? = some (es[i]'(by omega)) := List.getElem?_eq_getElem _
    have hpe := hE.2 i p _ hpi hei
    have me := List.mem_of_getElem? hei
    generalize es[i]'(by omega) = e at hei hpe me
    have hp3 := S3 _ _ hpe
    have at3 : atI ((rs ++ mo).map V.str) (k : Int) = some (.str cur) := a4w (by rw [List.getElem?_map, List.getElem?_append_left hk', ecur]; rfl)
    have fl := a3s (rs ++ mo)
    have iv := a2t e.2 (rs ++ mo)
    obtain ⟨r3, er3⟩ : ∃ r3, rs ++ mo = r3 := ⟨_, rfl⟩
    rw [er3] at hD3 at3 fl iv
    clear hv hp hD hl2
    walk_at "rd*"
    subst er3
    have stay : (e.1 = cur -> e.2 ∈ rs ++ mo) -> Pw (i + 1) [some (V.ref l), some (V.str x), some (V.str y), some (V.ref D), some (V.int k), some (V.str e.1), some (V.str e.2)] H3 := fun hin => win _ _ _ ⟨mo, _, _, rfl, S3, hD3, fun j v hj hjv => by
     rcases Nat.lt_or_ge j i with z | z
     ·exact cl3 j v z hjv
     ·obtain rfl : j = i := by omega
      rw [hei] at hjv
      cases hjv
      exact hin rfl, rc3, em3⟩
    split
    ·rename_i h1
     refine ⟨rfl, ?_⟩
     split
     ·rename_i h2
      refine ⟨by omega, ?_⟩
      rintro _ H4 ⟨rfl, B4, h4⟩
      have clt := d1t me h2
      have ll : (rs ++ (mo ++ [e.2])).length = (rs ++ mo).length + 1 := by rw [<- List.append_assoc, List.length_append]; rfl
      rw [List.append_assoc] at clt
      refine win _ _ _ ⟨mo ++ [e.2], _, _, rfl, S3.step n1 B4, by rw [h4, <- List.append_assoc, List.map_append (l₁ := rs ++ mo)]; rfl, fun j v hj hjv => ?_, by omega, by omega⟩
      rw [<- List.append_assoc]
      rcases Nat.lt_or_ge j i with z | z
      ·exact List.mem_append_left _ (cl3 j v z hjv)
      ·obtain rfl : j = i := by omega
       rw [hei] at hjv
       cases hjv
       exact List.mem_append_right _ List.mem_cons_self
     ·rename_i h2
      exact stay fun _ => Classical.not_not.mp h2
    ·rename_i h1
     exact stay fun z => absurd z h1
   ·intro σ H3 hp
    obtain ⟨mo, v5', v6', rfl, S3, hD3, cl3, rc3, em3⟩ := wout _ _ _ hp
    rw [List.length_map, el] at cl3
    walk_at "rd"
    have ml : (rs ++ mo).length = rs.length + mo.length := List.length_append
    refine ⟨2 * cnt es (rs ++ mo) + ((rs ++ mo).length - (k + 1)), by omega, pin _ _ _ ⟨rs ++ mo, k + 1, _, _, rfl, S3, hD3, List.mem_append_left _ xr, by omega, fun i u v hi hu hv => ?_, rc3, rfl⟩⟩
    rcases Nat.lt_or_ge i k with z | z
    ·rw [List.getElem?_append_left (by omega)] at hu
     exact List.mem_append_left _ (cl i u v z hu hv)
    ·obtain rfl : i = k := by omega
     rw [List.getElem?_append_left hk', ecur] at hu
     cases hu
     obtain ⟨j, hj, e⟩ := List.getElem_of_mem hv
     exact cl3 j v (by omega) (by rw [List.getElem?_eq_getElem hj, e])
  ·rename_i hk
   rw [a2t]
   refine ⟨rfl, a3s rs, q _ H2 (fun hf hr => ?_) S2⟩
   have hy : y ∈ rs := hr (· ∈ rs) xr fun u v hu hv => by
    obtain ⟨i, hi, e⟩ := List.getElem_of_mem hu
    exact cl i u v (by omega) (by rw [List.getElem?_eq_getElem hi, e]) hv
   exact absurd hy (of_decide_eq_false hf)
theorem b5r {K : PySem.W.Frag} {a D : Addr} {xs : List V} {tc : TT} {te : TE} {σ : L2.St} {H0 H : Hp} {Q : VK} (p : V -> Bool) (n0 : H0 D = none) (S : Same H0 H) (hD : H D = some (.lst [])) (hS : SqL K H0 a xs) (hsz : xs.length <= sizeLine)
  (hc : ∀ (i : Nat) x H' (Q' : Bool -> Hp -> Prop), xs[i]? = some x -> Same H0 H' -> (∀ H2, Same H' H2 -> Q' (p x) H2) -> tc (some x :: σ) H' Q')
  (he : ∀ (i : Nat) x H' (Q' : VK), xs[i]? = some x -> p x = true -> Same H0 H' -> Q' x H' -> te (some x :: σ) H' Q')
  (q : ∀ H', Same H0 H' -> H' D = some (.lst (xs.filter p)) -> Q (.ref D) H') : c1y (Itl K a) tc te D σ H Q ⟨⟩ := by
 refine ⟨xs.length, fun i ys H' => Same H0 H' /\ H' D = some (.lst ys) /\ ys = (xs.take i).filter p, ⟨S, hD, by simp⟩, fun i ys H' hi w => ?_⟩
 obtain ⟨S', h', e⟩ := w
 refine ⟨h', ?_⟩
 have e2 : SqL K H' a xs := S'.seq hS
 by_cases hlt : i < xs.length
 ·have hyl : ys.length <= i := by
   rw [e]
   exact Nat.le_trans (List.length_filter_le _ _) (by rw [List.length_take]; omega)
  refine .inr ⟨hlt, ⟨xs, xs[i], e2, by simp [hlt]⟩, by omega, fun x H2 y => ?_⟩
  obtain ⟨e', y⟩ := y
  subst e'
  have hx := y xs e2
  have et : xs.take (i + 1) = xs.take i ++ [x] := by rw [List.take_add_one, hx]; rfl
  refine hc i x _ _ hx S' fun H3 S3 => ?_
  have h3 := S3 _ _ h'
  cases hp : p x with
  | true =>
   rw [if_pos rfl]
   refine he i x _ _ hx hp (S'.trans S3) ⟨h3, fun H4 s4 h4 => ⟨(S'.trans S3).step n0 s4, h4, ?_⟩⟩
   rw [et, List.filter_append, <- e, List.filter_cons, if_pos hp]
   rfl
  | false =>
   rw [if_neg Bool.false_ne_true]
   refine ⟨S'.trans S3, h3, ?_⟩
   rw [et, List.filter_append, List.filter_cons, if_neg (by rw [hp]; exact Bool.false_ne_true), e]
   simp
 ·have e3 : i = xs.length := by omega
  subst e3
  refine .inl ⟨⟨_, e2, by simp⟩, q H' S' ?_⟩
  rw [h', e, List.take_length]
theorem c7w {bs : List Str} {es : List (Str × Str)} {n : Nat} (h : ∀ j, j < n -> bs.filter (a4g bs es (b0g bs es j)) ≠ []) : ∀ k, k <= n -> (b0g bs es n).take k = b0g bs es k := by
 induction n with
 | zero =>
  intro k hk
  obtain rfl : k = 0 := by omega
  rfl
 | succ n ih =>
  intro k hk
  have ln := b0r n fun j hj => h j (by omega)
  rcases Nat.lt_or_ge n k with z | z
  ·obtain rfl : k = n + 1 := by omega
   exact List.take_of_length_le (by rw [b0r (n + 1) h]; exact Nat.le_refl _)
  ·rw [b0g, List.take_append_of_le_length (by omega)]
   exact ih (fun j hj => h j (by omega)) k z
theorem c9y (T : Tx K mg A) : a4n P A.wd K mg base CX0 1 A.a1v A.a6s ["_law_buses", "_law_sends", "_law_order"] (c7p A) := by
 refine T.a2r.ok a2v (fun vs H Q E h => ?_) (fun cdv A' outer s H vs Q E hr h => ?_)
 ·match vs, h with
  | [.ref lb, .ref l, .ref lo], _ => rfl
 ·match vs, h with
  | [.ref lb, .ref l, .ref lo], ⟨bs, ps, es, hb, hl, hE, ho, b100, e100, okb, ne, q⟩ =>
  have hu := hr.units
  have hs : sizeLine = 16777216 := sizeLine_eq
  have el := hE.1
  have ol := b0r bs.length ne
  have tk := c7w ne
  generalize b0g bs es bs.length = od at ho ol tk
  have ole : ((od.length : Nat) : Int) = ((bs.length : Nat) : Int) := by rw [ol]
  refine ⟨_, (a0m (a7v (pw_or (b5t (b1l (a2l (b6n .lst) (by rfl) T.a3g boot_isinstance (a0k (pvF 2) (a0k (b9y (v := .ty "list") (u := .type "list") (by rfl) T.b6g rfl rfl) a0n))))) (pw_or1 (a0t (c1u hu) (a2l a3r (by rfl) T.b1s boot_len (a0k (pvF 2) a0n)) (a2l a3r (by rfl) T.b1s boot_len (a0k (pvF 0) a0n)) (a4h _)))).pt
   (a0o (a4o b7o))
   a1w)
   (a0m (a7p PassesOwn.never rfl (b0n (by rfl) T.a9z (a0k (a2l a3r (by rfl) T.b1s boot_len (a0k (pvF 2) a0n)) a0n)) (a3u (i := 3) a2v.nd rfl (Or.inr rfl))
   (a0m (a1y (i := 4) a2v.nd rfl (Or.inl rfl) (a2m a0n))
   (a0m (a7p PassesOwn.never rfl (a3j (pvF 0)) (a3u (i := 5) a2v.nd rfl (Or.inr rfl))
   (a0m (c7g (i := 6) a2v.nd rfl rfl (a3j (pvF 1)) (fun _ _ _ _ _ => (pw_and (a0t (d3u (K := K) (by rfl) (by exact hu)) (pvF 1) (pvF 7) (a4h _)) (pw_and1 (a0t b4r (pvF 0) (pvF 2) (by rfl)))).pt) (fun _ _ _ _ _ => (pvF 0)) (d9k (sc := a0l a1j) (N := ["_law_buses", "_law_sends", "_law_order", "_law_k", "_law_ready", "_law_bus", "_law_heard"]) rfl rfl (by decide +kernel)) rfl)
   (a0o (a7v (pw_and (a0t a6n (pvF 5) (a8j d4z (pvF 2) b1i (a5n (pvF 3))) (by rfl)) (pw_and1 (a0t (a9k hu) (c1z (a3j (pvF 6)) (fun _ _ _ _ _ => (a0t a6n (pvF 0) (a8j d4z (pvF 3) b1i (a5n (pvF 4))) (by rfl))) (fun _ _ _ _ _ => (pvF 0)) (c0q (sc := a0l a1j) (N := ["_law_buses", "_law_sends", "_law_order", "_law_k", "_law_ready", "_law_bus", "_law_heard"]) rfl rfl (by decide +kernel)) rfl) (a2m a0n) (a4h _)))).pt
   (a0o (a3p (b0t a4q PySem.F.plainAttrs_list PySem.F.slot_list_append PySem.F.type_list_append a2q (pvF 4) (a0k (pvF 5) a0n))))
   a1w))))
   (a0o (a7v (pw_or (a0t (a9k hu) (pvF 4) (a2m a0n) (a4h _)) (pw_or1 (a0t (c1u hu) (a7o b5w (pvF 2) (pvF 3) (fun _ _ => rfl)) (a7o b5w (pvF 4) a0p (fun _ _ => rfl)) (a4h _)))).pt
   (a0o (a4o b7o))
   a1w)))))
   (a0o (a4o b7o)))), ?_⟩
  walk_at "rd*"
  refine ⟨by omega, by omega, ?_⟩
  rw [Int.toNat_natCast]
  obtain ⟨Pv, pin, pout⟩ := b2z (fun k σ H' => ∃ v3 v4 v5 v6 : Option V, σ = [some (.ref lb), some (.ref l), some (.ref lo), v3, v4, v5, v6] /\ Same H H')
  refine b2w (n := bs.length) Pv (pin _ _ _ ⟨_, _, _, _, rfl, Same.refl _⟩) ?_ ?_
  ·intro k σ H1 hk hp
   obtain ⟨v3, v4, v5, v6, rfl, S1⟩ := pout _ _ _ hp
   have tkk := tk k (by omega)
   rw [Int.zero_add]
   walk_at "rd"
   refine ⟨by omega, fun D H2 n2 S2 h2 => ?_⟩
   have S02 := S1.trans S2
   have hb2 := S02 _ _ hb
   walk_at "rd*"
   refine ⟨⟨_, SqL.of hb2⟩, ?_⟩
   have nHD : H D = none := S1.free n2
   obtain ⟨Pw, win, wout⟩ := b2z (fun i σ H' => ∃ v5 v6 : Option V, σ = [some (.ref lb), some (.ref l), some (.ref lo), some (.int k), some (.ref D), v5, v6] /\ Same H H' /\ H' D = some (.lst (((bs.take i).filter (a4g bs es (b0g bs es k))).map V.str)))
   refine a6l (xs := bs.map V.str) Pw (win _ _ _ ⟨_, _, rfl, S02, h2⟩) ?_ ?_ ?_
   ·intro i σ H3 hi hp
    obtain ⟨v5', v6', rfl, S3, _⟩ := wout _ _ _ hp
    exact SqL.of (S3 _ _ hb)
   ·intro i v σ H3 hv hp
    rw [List.getElem?_map] at hv
    obtain ⟨bu, hbu, rfl⟩ := Option.map_eq_some_iff.mp hv
    obtain ⟨v5', v6', rfl, S3, hD3⟩ := wout _ _ _ hp
    have et : bs.take (i + 1) = bs.take i ++ [bu] := by rw [List.take_add_one, hbu]; rfl
    have hl3 := S3 _ _ hl
    clear hv hp hb2 h2
    walk_at "rd*"
    refine ⟨⟨_, SqL.of hl3⟩, fun D3 H4 n4 S4 h4 => ?_⟩
    have fb := a3s bs
    refine b5k (ps := ps) (xs := es.map fun e => (V.str e.1, V.str e.2)) (fun v => match v with | (.str a, .str b) => decide (b = bu) && decide (a ∈ bs) | _ => false) (fun v => v.1) n4 S4 h4 (SqL.of hl3) (by omega) (by rw [List.length_map, el]) ?_ ?_ ?_ ?_
    ·intro j p x hp hx
     rw [List.getElem?_map] at hx
     obtain ⟨e, he, rfl⟩ := Option.map_eq_some_iff.mp hx
     exact S3 _ _ (hE.2 j p e hp he)
    ·intro j x H5 Q' hx S5 q'
     rw [List.getElem?_map] at hx
     obtain ⟨e, he, rfl⟩ := Option.map_eq_some_iff.mp hx
     have hb5 := S5 _ _ (S3 _ _ hb)
     have iv := a2t e.1 bs
     clear hx
     walk_at "rd*"
     replace q' : Q' (decide (e.2 = bu) && decide (e.1 ∈ bs)) H5 := q'
     split
     ·rename_i h
      rw [decide_eq_true h, Bool.true_and] at q'
      exact ⟨rfl, q'⟩
     ·rename_i h
      rw [decide_eq_false h, Bool.false_and] at q'
      exact q'
    ·intro j x H5 Q' hx hf S5 q'
     walk_at "rd"
     exact q'
    ·intro H5 S5 h5
     obtain ⟨hd, ehd⟩ : ∃ hd, (es.filter fun e => decide (e.2 = bu) && decide (e.1 ∈ bs)).map (·.1) = hd := ⟨_, rfl⟩
     have eh : (((es.map fun e => (V.str e.1, V.str e.2)).filter (fun v => match v with | (.str a, .str b) => decide (b = bu) && decide (a ∈ bs) | _ => false)).map fun v => v.1) = hd.map V.str := by
      rw [<- ehd, List.filter_map, List.map_map, List.map_map]
      rfl
     rw [eh] at h5
     obtain ⟨pl, epl⟩ : ∃ pl, b0g bs es k = pl := ⟨_, rfl⟩
     rw [epl] at hD3 tkk
     have hdl : hd.length <= es.length := by rw [<- ehd, List.length_map]; exact List.length_filter_le _ _
     have okh : ∀ z ∈ hd, PyData.strOk z = true := fun z hz => by
      rw [<- ehd] at hz
      obtain ⟨e, he, rfl⟩ := List.mem_map.mp hz
      have := (List.mem_filter.mp he).2
      rw [Bool.and_eq_true, decide_eq_true_eq, decide_eq_true_eq] at this
      exact okb _ this.2
     have cut : b7n (od.map V.str) none (some (k : Int)) = pl.map V.str := by
      show b5z (od.map V.str) none (some (k : Int)) = _
      rw [b4q, <- List.map_take, tkk]
     have nx : bu ∉ pl -> a4g bs es pl bu = decide (hd.filter (fun a => !decide (a ∈ pl)) = []) := fun hn => by
      unfold a4g
      rw [show decide (bu ∉ pl) = true by simpa using hn, Bool.true_and, Bool.eq_iff_iff, List.all_eq_true, decide_eq_true_eq, List.filter_eq_nil_iff]
      constructor
      ·intro h a ha
       rw [<- ehd] at ha
       obtain ⟨e, he, rfl⟩ := List.mem_map.mp ha
       obtain ⟨he1, he2⟩ := List.mem_filter.mp he
       have := h e he1
       rw [Bool.and_eq_true] at he2
       rw [he2.1, he2.2] at this
       simpa using this
      ·intro h e he
       cases hc : (decide (e.2 = bu) && (decide (e.1 ∈ bs) && !decide (e.1 ∈ pl))) with
       | false => rfl
       | true =>
        rw [Bool.and_eq_true, Bool.and_eq_true] at hc
        have := h e.1 (by rw [<- ehd]; exact List.mem_map.mpr ⟨e, List.mem_filter.mpr ⟨he, by rw [hc.1, hc.2.1]; rfl⟩, rfl⟩)
        exact absurd hc.2.2 this
     have S05 := S3.trans S5
     have ho5 := S05 _ _ ho
     have hD5 := S5 _ _ hD3
     have fpl := a3s pl
     have iv := a2t bu pl
     clear eh
     walk_at "rd*"
     refine fun l6 H6 n6 S6 h6 => ?_
     walk_at "rd*"
     refine ⟨rfl, ?_⟩
     split
     ·rename_i h1
      have nx1 := nx h1
      have hh6 := S6 _ _ h5
      refine ⟨⟨_, SqL.of hh6⟩, fun D7 H7 n7 S7 h7 => ?_⟩
      refine b5r (xs := hd.map V.str) (fun v => match v with | .str a => !decide (a ∈ pl) | _ => false) n7 S7 h7 (SqL.of hh6) (by rw [List.length_map]; omega) ?_ ?_ ?_
      ·intro j x H8 Q' hx S8 q'
       rw [List.getElem?_map] at hx
       obtain ⟨z, hz, rfl⟩ := Option.map_eq_some_iff.mp hx
       have ho8 := S8 _ _ (S6 _ _ ho5)
       have iz := a2t z pl
       clear hx h6 ho5
       walk_at "rd*"
       refine fun l9 H9 n9 S9 h9 => ?_
       walk_at "rd*"
       rfl
      ·intro j x H8 Q' hx hp S8 q'
       walk_at "rd"
       exact q'
      ·intro H8 S8 h8
       have ef : (hd.map V.str).filter (fun v => match v with | .str a => !decide (a ∈ pl) | _ => false) = (hd.filter fun a => !decide (a ∈ pl)).map V.str := by
        rw [List.filter_map]
        rfl
       rw [ef] at h8
       walk_at "rd"
       refine ⟨by omega, fun l10 H10 n10 S10 h10 => ?_⟩
       walk_at "rd"
       refine c2i (ms := []) (SqL.of (S10 _ _ h8)) (SqL.of h10) (fun z hz => okh z (List.mem_filter.mp hz).1) (fun z hz => by cases hz) ?_
       rw [<- nx1]
       have f7h := S6.trans (S8.trans S10)
       have hD10 := f7h _ _ hD5
       have S010 := S05.trans f7h
       have ffl : ((bs.take i).filter (a4g bs es pl)).length <= bs.length := Nat.le_trans (List.length_filter_le _ _) (by rw [List.length_take]; omega)
       cases hnx : a4g bs es pl bu with
       | true =>
        clear h5 h6 h7 h8 h10 hh6 hD5 hD3 ho5
        walk_at "rd*"
        refine ⟨by omega, ?_⟩
        rintro _ H11 ⟨rfl, B11, h11⟩
        refine win _ _ _ ⟨_, _, rfl, S010.step nHD B11, ?_⟩
        rw [h11, et, epl, List.filter_append, List.map_append, List.filter_cons, if_pos hnx]
        rfl
       | false =>
        walk_at "rd"
        refine win _ _ _ ⟨_, _, rfl, S010, ?_⟩
        rw [hD10, et, epl, List.filter_append, List.filter_cons, if_neg (by rw [hnx]; exact Bool.false_ne_true)]
        simp
     ·rename_i h1
      have hnx : a4g bs es pl bu = false := by
       unfold a4g
       rw [show decide (bu ∉ pl) = false by simpa using h1, Bool.false_and]
      refine win _ _ _ ⟨_, _, rfl, S05.trans S6, ?_⟩
      rw [S6 _ _ hD5, et, epl, List.filter_append, List.filter_cons, if_neg (by rw [hnx]; exact Bool.false_ne_true)]
      simp
   ·intro σ H3 hp
    obtain ⟨v5', v6', rfl, S3, hD3⟩ := wout _ _ _ hp
    rw [List.length_map, List.take_length] at hD3
    have S03 := S3
    walk_at "rd*"
    refine fun l4 H4 n4 S4 h4 => ?_
    have nek := ne k hk
    have ook : ∀ z ∈ bs.filter (a4g bs es (b0g bs es k)), PyData.strOk z = true := fun z hz => okb z (List.mem_filter.mp hz).1
    have hD4 := S4 _ _ hD3
    have ho4 := S4 _ _ (S3 _ _ ho)
    walk_at "rd"
    refine c2i (ms := []) (SqL.of hD4) (SqL.of h4) ook (fun z hz => by cases hz) ?_
    rw [decide_eq_false nek]
    have ek : od[k]? = (bs.filter (a4g bs es (b0g bs es k)))[0]? := by
     have h1 := tk (k + 1) (by omega)
     have h2 : (od.take (k + 1))[k]? = od[k]? := by rw [List.getElem?_take, if_pos (by omega)]
     have ll := b0r k fun j hj => ne j (by omega)
     rw [<- h2, h1, b0g, List.getElem?_append_right (by omega), ll, Nat.sub_self]
     cases bs.filter (a4g bs es (b0g bs es k)) with
     | nil => rfl
     | cons a r => rfl
    obtain ⟨a, r, ea⟩ : ∃ a r, bs.filter (a4g bs es (b0g bs es k)) = a :: r := by
     cases e : bs.filter (a4g bs es (b0g bs es k)) with
     | nil => exact absurd e nek
     | cons a r => exact ⟨a, r, rfl⟩
    rw [ea] at hD4 ek
    have at4 : atI (od.map V.str) (k : Int) = some (.str a) := a4w (by rw [List.getElem?_map, ek]; rfl)
    clear hD3 h4
    walk_at "rd*"
    exact pin _ _ _ ⟨_, _, _, _, rfl, S3.trans S4⟩
  ·intro σ H1 hp
   obtain ⟨v3, v4, v5, v6, rfl, S1⟩ := pout _ _ _ hp
   walk_at "rd"
   exact q H1 S1
theorem b0h (a : Int) {b : Int} (hb : 0 < b) : 0 <= a.fmod b /\ a.fmod b < b := by
 rw [Int.fmod_eq_emod_of_nonneg _ (by omega)]
 exact ⟨Int.emod_nonneg _ (by omega), Int.emod_lt_of_pos _ hb⟩
theorem f0p {i : Nat} (h : i < 26) : atI (Str.ofString "abcdefghijklmnopqrstuvwxyz").cps.toList (i : Int) = some (97 + i) := by
 have e : (Str.ofString "abcdefghijklmnopqrstuvwxyz").cps.toList = List.range' 97 26 := by decide +kernel
 rw [e]
 refine a4w ?_
 rw [List.getElem?_range' h]
 simp
theorem c9z (bl : List Int) (m k n : Nat) : nmS bl m k n ++ (⟨#[nmC bl m k n]⟩ : Str) = nmS bl m k (n + 1) := by
 unfold nmS
 rw [List.range_succ, List.map_append]
 show (⟨_ ++ _⟩ : Str) = _
 rw [List.map_cons, List.map_nil]
 congr 1
 simp
theorem c1j (bl : List Int) (m k n : Nat) : (nmS bl m k n).length = n := by
 show ((List.range n).map (nmC bl m k)).toArray.size = n
 simp
theorem d4q (bl : List Int) (m k j : Nat) : 97 <= nmC bl m k j /\ nmC bl m k j <= 122 := by
 unfold nmC
 have := b0h (bl.getD j 0 + (k : Int) * (if j = m then 1 else 0)) (b := 26) (by decide)
 omega
theorem d0g {bl : List Int} {m k n : Nat} (h1 : 1 <= n) (h8 : n <= 8) : b2t (nmS bl m k n) := by
 refine ⟨by rw [c1j]; exact h8, fun e => ?_, fun c hc => ?_⟩
 ·have := c1j bl m k n
  rw [e] at this
  have z : (Str.ofString "").length = 0 := by decide +kernel
  omega
 ·have hc' : c ∈ (List.range n).map (nmC bl m k) := by simpa [nmS] using hc
  obtain ⟨j, _, rfl⟩ := List.mem_map.mp hc'
  exact d4q bl m k j
theorem f0q {bl : List Int} {m n k k' : Nat} (hm : m < n) (hk : k < k') (h9 : k' < 9) : nmS bl m k n ≠ nmS bl m k' n := fun e => by
 unfold nmS at e
 injection e with e
 have e2 : (List.range n).map (nmC bl m k) = (List.range n).map (nmC bl m k') := by
  have := congrArg Array.toList e
  simpa using this
 have e3 : ((List.range n).map (nmC bl m k))[m]? = ((List.range n).map (nmC bl m k'))[m]? := by rw [e2]
 rw [List.getElem?_map, List.getElem?_map, List.getElem?_range hm] at e3
 injection e3 with e3
 unfold nmC at e3
 rw [if_pos rfl] at e3
 have b1 := b0h (bl.getD m 0 + (k : Int) * 1) (b := 26) (by decide)
 have b2 := b0h (bl.getD m 0 + (k' : Int) * 1) (b := 26) (by decide)
 rw [Int.fmod_eq_emod_of_nonneg _ (by decide)] at e3 b1 b2
 rw [Int.fmod_eq_emod_of_nonneg _ (by decide)] at e3
 omega
theorem d0h (T : Tx K mg A) : a4n P A.wd K mg base CX0 1 A.a3y A.a9q ["_law_cell"] c7q := by
 refine T.a6u.ok a1k (fun vs H Q E h => ?_) (fun cdv A' outer s H vs Q E hr h => ?_)
 ·match vs, h with
  | [.int c], _ => rfl
 ·match vs, h with
  | [.int c], ⟨hc, q⟩ =>
  have hu := hr.units
  have hs : sizeLine = 16777216 := sizeLine_eq
  refine ⟨_, (a0m (a1y (i := 1) a1k.nd rfl (Or.inl rfl) c4g)
   (a4y (a1y (i := 2) a1k.nd rfl (Or.inr rfl) (a3i a9l (a3i b6o (pvF 0) a0p) (a3i a5v (a3i d0w a0p a0p) a0p)))
   (a4y (d3k (i := 3) a1k.nd rfl rfl (b0n (by rfl) T.a9z (a0k (a3i a5v a0p (a3i a9l (pvF 2) a0p)) a0n)) (fun _ _ _ _ _ => (a3i a9l (a3i b4o (pvF 3) (a3i a5v (a3i b6o (pvF 0) (pvF 0)) a0p)) a0p)) (c0q (sc := a0l a3w) (N := ["_law_cell", "_law_letters", "_law_mixed", "_law_base", "_law_at", "_law_names_here", "_law_k", "_law_name", "_law_j"]) rfl rfl (by decide +kernel)) rfl)
   (a4y (a1y (i := 4) a1k.nd rfl (Or.inl rfl) (a3i a9l (a3i b4o (pvF 2) a0p) (a2l a3r (by rfl) T.b1s boot_len (a0k (pvF 3) a0n))))
   (a0m (a1y (i := 5) a1k.nd rfl (Or.inl rfl) (a2m a0n))
   (a0m (a7p PassesOwn.never rfl (b0n (by rfl) T.a9z (a0k a0p a0n)) (a3u (i := 6) a1k.nd rfl (Or.inl rfl))
   (a0m (a1y (i := 7) a1k.nd rfl (Or.inl rfl) c4g)
   (a0m (a7p PassesOwn.never rfl (b0n (by rfl) T.a9z (a0k (a2l a3r (by rfl) T.b1s boot_len (a0k (pvF 3) a0n)) a0n)) (a3u (i := 8) a1k.nd rfl (Or.inl rfl))
   (a0o (a1y (i := 7) a1k.nd rfl (Or.inl rfl) (a3i a5v (pvF 7) (a7o b5w (pvF 1) (a3i a9l (a3i a5v (a7o b5w (pvF 3) (pvF 8) (fun _ _ => rfl)) (a3i b6o (pvF 6) (c4z c6l (by rfl) T.c7l boot_int (a0k (b9z (a9k hu) (pvF 8) (pvF 4) (a4h _)) a0n)))) a0p) (fun _ _ => rfl))))))
   (a0o (a3p (b0t a4q PySem.F.plainAttrs_list PySem.F.slot_list_append PySem.F.type_list_append a2q (pvF 5) (a0k (pvF 7) a0n)))))))
   (a0o (a4o (pvF 5))))))))), ?_⟩
  walk_at "rd"
  have fM := b0h (c * 618033988749894848204587) (b := 1000000000000000000000007) (by decide)
  obtain ⟨Mid1, in1, out1⟩ := c3h (fun σ' H' => ∃ M : Int, σ' = [some (.int c), some (.str (Str.ofString "abcdefghijklmnopqrstuvwxyz")), some (.int M), none, none, none, none, none, none] ∧ H' = H)
  refine ⟨Mid1, ?_, ?_⟩
  ·walk_at "rd"
   exact ⟨by walk_at "mul", by decide, in1 _ _ ⟨_, rfl, rfl⟩⟩
  intro σ1 H1 hm1
  obtain ⟨M, rfl, rfl⟩ := out1 _ _ hm1
  clear hm1 in1 out1 fM
  have f8 := b0h M (b := 8) (by decide)
  obtain ⟨Mid2, in2, out2⟩ := c3h (fun σ' H' => ∃ (D : Addr) (bl : List Int), σ' = [some (.int c), some (.str (Str.ofString "abcdefghijklmnopqrstuvwxyz")), some (.int M), some (.ref D), none, none, none, none, none] ∧ Same H1 H' ∧ H' D = some (.lst (bl.map V.int)) ∧ 1 ≤ bl.length ∧ bl.length ≤ 8)
  refine ⟨Mid2, ?_, ?_⟩
  ·walk_at "rd"
   refine ⟨by omega, by omega, fun D H2 n2 S2 h2 => ?_⟩
   obtain ⟨nn, en⟩ : ∃ nn : Nat, (1 + M.fmod 8).toNat = nn := ⟨_, rfl⟩
   rw [en]
   refine c0p (fun i ys H' => Same H1 H' /\ H' D = some (.lst ys) /\ ∃ bl : List Int, ys = bl.map V.int /\ bl.length = i) ⟨S2, h2, [], rfl, rfl⟩ (by omega) ?_ ?_ ?_
   ·intro i ys H' hi ⟨S', h', bl, e, el⟩
    exact ⟨h', by rw [e, List.length_map, el]⟩
   ·intro i ys H' hi ⟨S', h', bl, e, el⟩
    have ii : i * i <= 7 * 7 := Nat.mul_le_mul (by omega) (by omega)
    have ii' : (i : Int) * (i : Int) = ((i * i : Nat) : Int) := by rw [Int.natCast_mul]
    rw [Int.zero_add]
    walk_at "rd"
    rw [ii']
    refine ⟨IntMulOk.of_left (intBits_le_64 (by omega) (by omega)), ⟨by omega, Nat.le_trans (intBits_le_64 (by omega) (by omega)) (by decide)⟩, h', fun H4 B4 h4 => ⟨S'.step n2 B4, h4, bl ++ [_], by rw [e, List.map_append]; rfl, by rw [List.length_append, el]; rfl⟩⟩
   ·intro ys H3 ⟨S3, h3, bl, e, el⟩
    subst e
    try walk_at "rd"
    exact in2 _ _ ⟨D, bl, rfl, S3, h3, by omega, by omega⟩
  intro σ2 H2 hm2
  obtain ⟨D, bl, rfl, S2, hD, l1, l8⟩ := out2 _ _ hm2
  clear hm2 in2 out2 f8
  obtain ⟨Mid3, in3, out3⟩ := c3h (fun σ' H' => ∃ m : Nat, σ' = [some (.int c), some (.str (Str.ofString "abcdefghijklmnopqrstuvwxyz")), some (.int M), some (.ref D), some (.int m), none, none, none, none] ∧ H' = H2 ∧ m < bl.length)
  have fb := b0h (M.fdiv 1000) (b := (bl.length : Int)) (by omega)
  refine ⟨Mid3, ?_, ?_⟩
  ·walk_at "rd*"
   exact ⟨⟨by decide, by decide⟩, by omega, in3 _ _ ⟨((M.fdiv 1000).fmod (bl.length : Int)).toNat, by rw [Int.toNat_of_nonneg fb.1], rfl, by omega⟩⟩
  intro σ3 H3 hm3
  obtain ⟨m, rfl, rfl, ml⟩ := out3 _ _ hm3
  clear hm3 in3 out3 fb
  walk_at "rd"
  refine ⟨by omega, fun l H4 n4 S4 h4 => ?_⟩
  walk_at "rd"
  obtain ⟨Pv, pin, pout⟩ := b2z (fun k σ H' => ∃ v6 v7 v8 : Option V, σ = [some (.int c), some (.str (Str.ofString "abcdefghijklmnopqrstuvwxyz")), some (.int M), some (.ref D), some (.int m), some (.ref l), v6, v7, v8] ∧ Same H3 H' ∧ H' l = some (.lst (((List.range k).map fun k => nmS bl m k bl.length).map V.str)))
  refine b2w (n := 9) Pv (pin _ _ _ ⟨_, _, _, rfl, S4, h4⟩) ?_ ?_
  ·intro k σ H5 hk hp
   obtain ⟨v6, v7, v8, rfl, S5, h5⟩ := pout _ _ _ hp
   have hD5 := S5 _ _ hD
   rw [Int.zero_add]
   walk_at "rd*"
   refine ⟨by omega, by omega, ?_⟩
   rw [Int.toNat_natCast]
   obtain ⟨Pw, win, wout⟩ := b2z (fun j σ H' => ∃ v8 : Option V, σ = [some (.int c), some (.str (Str.ofString "abcdefghijklmnopqrstuvwxyz")), some (.int M), some (.ref D), some (.int m), some (.ref l), some (.int k), some (.str (nmS bl m k j)), v8] ∧ H' = H5)
   have e0 : Str.ofString "" = nmS bl m k 0 := by
    show Str.ofString "" = ⟨#[]⟩
    decide +kernel
   refine b2w (n := bl.length) Pw (win _ _ _ ⟨_, by rw [<- e0], rfl⟩) ?_ ?_
   ·intro j σ H6 hj hp
    obtain ⟨v8', rfl, rfl⟩ := wout _ _ _ hp
    have at' := f3i (ns := bl) (i := j) hj
    have nl := c1j bl m k j
    rw [Int.zero_add]
    clear hp
    walk_at "rd*"
    have ei : (if (j : Int) = (m : Int) then (1 : Int) else 0) = if j = m then 1 else 0 := by
     by_cases h : j = m
     ·rw [if_pos h, if_pos (by omega)]
     ·rw [if_neg h, if_neg (by omega)]
    rw [ei]
    have fb := b0h (bl.getD j 0 + (k : Int) * (if j = m then 1 else 0)) (b := 26) (by decide)
    obtain ⟨x, ex⟩ : ∃ x : Nat, (bl.getD j 0 + (k : Int) * (if j = m then 1 else 0)).fmod 26 = x := ⟨((bl.getD j 0 + (k : Int) * (if j = m then 1 else 0)).fmod 26).toNat, by omega⟩
    have ec : nmC bl m k j = 97 + x := by
     unfold nmC
     rw [ex, Int.toNat_natCast]
    rw [ex] at fb ⊢
    have ll : (Str.ofString "abcdefghijklmnopqrstuvwxyz").length = 26 := by decide +kernel
    exact ⟨IntMulOk.of_left (intBits_le_64 (by omega) (by omega)), by omega, _, f0p (by omega), by show j + 1 <= _; omega, win _ _ _ ⟨_, by rw [<- ec, c9z], rfl⟩⟩
   ·intro σ H6 hp
    obtain ⟨v8', rfl, rfl⟩ := wout _ _ _ hp
    walk_at "rd*"
    refine ⟨by rw [List.length_range]; omega, ?_⟩
    rintro _ H7 ⟨rfl, B7, h7⟩
    refine pin _ _ _ ⟨_, _, _, rfl, S5.step n4 B7, ?_⟩
    rw [h7, List.range_succ, List.map_append (l₁ := List.range k), List.map_append]
    rfl
  ·intro σ H5 hp
   obtain ⟨v6, v7, v8, rfl, S5, h5⟩ := pout _ _ _ hp
   walk_at "rd"
   refine q _ l H5 (by simp) ?_ (fun z hz => ?_) (S2.free n4) (S2.trans S5) h5
   ·rw [List.Nodup, List.pairwise_map]
    exact List.Pairwise.imp_of_mem (fun {a b} ha hb hab => f0q ml hab (List.mem_range.mp hb)) List.pairwise_lt_range
   ·obtain ⟨k, _, rfl⟩ := List.mem_map.mp hz
    exact d0g l1 l8
theorem d4r (T : Tx K mg A) : a4n P A.wd K mg base CX0 1 A.a2p A.a7t ["_law_script", "_law_k"] (d1r K) := by
 refine T.a1u.ok b5n (fun vs H Q E h => ?_) (fun cdv A' outer s H vs Q E hr h => ?_)
 ·match vs, h with
  | [.ref a, .int k], _ => rfl
 ·match vs, h with
  | [.ref a, .int k], ⟨ns, hS, hk, q⟩ =>
  have hu := hr.units
  refine ⟨_, (a0m (a7v (a0t of_lt (pvF 1) (a2l c2y (by rfl) T.b1s boot_len (a0k (pvF 0) a0n)) (a4h _))
   (a0o (a4o (a7o ix_S (pvF 0) (pvF 1) (fun _ _ => rfl))))
   a1w)
   (a0o (a4o a0p))), ?_⟩
  walk_at "rd"
  refine ⟨_, hS, ?_⟩
  rw [List.length_map]
  split
  ·rename_i h
   exact ⟨_, hS, hk, h, q⟩
  ·rename_i h
   obtain ⟨j, rfl⟩ := Int.eq_ofNat_of_zero_le hk
   rw [List.getD_eq_getElem?_getD, List.getElem?_eq_none (by omega)] at q
   exact q
theorem d4s {x : Str} (h : b2t x) : PyData.strOk x = true := by
 unfold PyData.strOk
 rw [<- Array.all_toList, List.all_eq_true]
 intro c hc
 have := h.2.2 c hc
 rw [decide_eq_true_eq]
 omega
theorem c2n {l : List Str} {i : Nat} {z : Str} (nd : l.Nodup) (h : l[i]? = some z) : z ∉ l.take i := fun hm => by
 have hd : (l.take i ++ l.drop i).Nodup := by rw [List.take_append_drop]; exact nd
 exact (List.nodup_append.mp hd).2.2 z hm z (List.mem_of_getElem? (i := 0) (by rw [List.getElem?_drop]; exact h)) rfl
theorem d4t {α : Type} {xs : List α} {a b : Nat} (h1 : a <= b) (h2 : b <= xs.length) : b5z xs (some (a : Int)) (some (b : Int)) = (xs.drop a).take (b - a) := by
 unfold b5z
 rw [HT.b6k, HT.b6k, Nat.min_eq_left (by omega), Nat.min_eq_left (by omega)]
theorem f0r (T : Tx K mg A) : a4n P A.wd K mg base CX0 6 A.c0v A.c7h ["_law_script"] (c0m 63 K) := by
 have a6j : a4n P A.wd K mg base CX0 1 _ _ _ _ := d4r T
 have c1k : a4n P A.wd K mg base CX0 1 _ _ _ _ := d0h T
 have c1l : a4n P A.wd K mg base CX0 1 _ _ _ _ := c9w T
 have b1g : a4n P A.wd K mg base CX0 1 _ _ _ _ := c9y T
 have b9m : a4n P A.wd K mg base CX0 1 _ _ _ _ := f4j T
 have b7j : a4n P A.wd K mg base CX0 3 _ _ _ _ := f0j T
 have b5g : a4n P A.wd K mg base CX0 3 _ _ _ _ := f0k T
 have b9n : a4n P A.wd K mg base CX0 5 _ _ _ _ := d4p T
 have b2u : a4n P A.wd K mg base CX0 2 _ _ _ _ := f0l T
 have a0r := T.a0r
 have a0g := T.a0g
 have a0i := T.a0i
 have a0h := T.a0h
 have a0j := T.a0j
 refine T.c9s.ok a6p (fun vs H Q E h => ?_) (fun cdv A' outer s H vs Q E hr h => ?_)
 ·obtain ⟨a, ns, rfl, _⟩ := h
  rfl
 ·obtain ⟨a, ns, rfl, hS, hl, hbit, hO, q⟩ := h
  have hu := hr.units
  have a5q : a5u 1 _ := hr.mono (by decide)
  have b9o : a5u 1 _ := hr.mono (by decide)
  have b9p : a5u 1 _ := hr.mono (by decide)
  have b0i : a5u 1 _ := hr.mono (by decide)
  have b7k : a5u 2 _ := hr.mono (by decide)
  have b5s : a5u 3 _ := hr.mono (by decide)
  have b3p : a5u 3 _ := hr.mono (by decide)
  have b7l : a5u 5 _ := hr.mono (by decide)
  have b1h : a5u 2 _ := hr.mono (by decide)
  have hs : sizeLine = 16777216 := sizeLine_eq
  have bc : ∀ k : Nat, intBits (ns.getD k 0) <= 1100000 := fun k => Nat.le_trans (c6h hbit k) (by decide)
  refine ⟨_, (a0m (a1y (i := 1) a6p.nd rfl (Or.inl rfl) (a6k c1k b9o (by rfl) T.c0w T.a6u.kp T.b1q .nil a5r (a0k (a6k a6j a5q (by rfl) T.a6i T.a1u.kp T.a3o .nil a5r (a0k (pvF 0) (a0k a0p a0n))) a0n)))
   (a0m (a1y (i := 2) a6p.nd rfl (Or.inl rfl) (a3i a5v a0p (a3i a9l (a6k a6j a5q (by rfl) T.a6i T.a1u.kp T.a3o .nil a5r (a0k (pvF 0) (a0k a0p a0n))) a0p)))
   (a4y (a1y (i := 3) a6p.nd rfl (Or.inl rfl) (a3i a9l (a3i b4o (a6k a6j a5q (by rfl) T.a6i T.a1u.kp T.a3o .nil a5r (a0k (pvF 0) (a0k a0p a0n))) a0p) (pvF 2)))
   (a0m (a1y (i := 4) a6p.nd rfl (Or.inl rfl) (a3i a5v (a8j d4z (pvF 1) (a5n (pvF 3)) (a5n (pvF 2))) (a8j d4z (pvF 1) b1i (a5n (pvF 3)))))
   (a4y (a7v (a0t (a9k hu) (a3i a9l (a3i b4o (a6k a6j a5q (by rfl) T.a6i T.a1u.kp T.a3o .nil a5r (a0k (pvF 0) (a0k a0p a0n))) a0p) a0p) a0p (a4h _))
   (a0o (a1y (i := 4) a6p.nd rfl (Or.inl rfl) (c3l (pvF 4) b1i b1i (a5n (f1y d7r a0p)))))
   a1w)
   (a4y (a1y (i := 5) a6p.nd rfl (Or.inl rfl) (c6o T.d4i b9m b7k (by rfl) T.b2s T.a9w .nil a5r))
   (a4y (a7p PassesOwn.never rfl (a3j (a8j d4z (pvF 4) b1i (a5n a0p))) (a3u (i := 6) a6p.nd rfl (Or.inl rfl))
   (a0o (a3p (a7g (pvF 5) T.a0r T.b3o b5g b3p T.a8t .nil a5r (a0k (pvF 6) a0n)))))
   (a4y (a3p (a7g (pvF 5) T.a0r T.b5o b7j b5s T.a8r .nil a5r (a0k (a7o b5w (pvF 1) a0p (fun _ _ => rfl)) a0n)))
   (a4y (a7p PassesOwn.never rfl (a3j (a8j d4z (pvF 4) (a5n a0p) b1i)) (a3u (i := 6) a6p.nd rfl (Or.inl rfl))
   (a0o (a3p (a7g (pvF 5) T.a0r T.b3o b5g b3p T.a8t .nil a5r (a0k (pvF 6) a0n)))))
   (a4y (a1y (i := 7) a6p.nd rfl (Or.inl rfl) (a2m a0n))
   (a0m (a7p PassesOwn.never rfl (a3j (a8j f2z (pvF 0) (a5n a0p) (a5n a0p))) (a3u (i := 8) a6p.nd rfl (Or.inl rfl))
   (a4y (a1y (i := 9) a6p.nd rfl (Or.inl rfl) (a3i a9l (a3i b6o (pvF 8) a0p) (a3i a5v (a3i d0w a0p a0p) a0p)))
   (a0m (a1y (i := 10) a6p.nd rfl (Or.inl rfl) (a7o b5w (a3i a5v (pvF 4) (a2m (a0k (a7o b5w (pvF 1) a0p (fun _ _ => rfl)) a0n))) (a3i a9l (pvF 9) (a3i a5v (pvF 2) a0p)) (fun _ _ => rfl)))
   (a4y (a1y (i := 6) a6p.nd rfl (Or.inl rfl) (a7o b5w (pvF 4) (a3i a9l (a3i b4o (pvF 9) a0p) (pvF 2)) (fun _ _ => rfl)))
   (a4y (a7v (pw_or (a0t (a9k hu) (pvF 10) (a7o b5w (pvF 1) a0p (fun _ _ => rfl)) (a4h _)) (pw_or1 (b5t (b1l (a6k c1l b9p (by rfl) T.c0y T.a6v.kp T.b1r .nil a5r (a0k (pvF 7) (a0k (pvF 6) (a0k (pvF 10) a0n)))))))).pt
   (a0m (a3p (a7g (pvF 5) T.a0r T.b6w b9n b7l T.a9y .nil a5r (a0k (pvF 10) (a0k (pvF 6) (a0k (a2m a0n) a0n)))))
   (a0o (a3p (b0t a4q PySem.F.plainAttrs_list PySem.F.slot_list_append PySem.F.type_list_append a2q (pvF 7) (a0k (c5v (a0k (pvF 10) (a0k (pvF 6) a0n))) a0n)))))
   a1w)
   (a0m (a1y (i := 11) a6p.nd rfl (Or.inl rfl) (a9m (pvF 5) T.a0r T.b0z b2u b1h T.a6h .nil a5r))
   (a0m (a7v (b5t (b1l (a6k b1g b0i (by rfl) T.b0y T.a2r.kp T.a5p .nil a5r (a0k (pvF 4) (a0k (pvF 7) (a0k (pvF 11) a0n))))))
   (a0o (a4o b7o))
   a1w)
   (a0o (a3p (b0t a4q PySem.F.plainAttrs_list PySem.F.slot_list_append PySem.F.type_list_append a2q (pvF 11) (a0k (a7o b5w (pvF 1) a0p (fun _ _ => rfl)) a0n)))))))))))
   (a0o (a4o (a6k b1g b0i (by rfl) T.b0y T.a2r.kp T.a5p .nil a5r (a0k (pvF 4) (a0k (pvF 7) (a0k (a9m (pvF 5) T.a0r T.b0z b2u b1h T.a6h .nil a5r) a0n))))))))))))))))), ?_⟩
  walk_at "rd"
  refine ⟨ns, hS, bc 0, fun nm ln H1 n9 nd nms nl S1 hln => ?_⟩
  have hS1 := S1.seq hS
  refine ⟨ns, hS1, ?_⟩
  have f7 := b0h (ns.getD 0 0) (b := 7) (by decide)
  obtain ⟨mn, emn⟩ : ∃ mn : Nat, 2 + (ns.getD 0 0).fmod 7 = (mn : Int) := ⟨(2 + (ns.getD 0 0).fmod 7).toNat, by omega⟩
  have mn2 : 2 <= mn := by omega
  have mn8 : mn <= 8 := by omega
  rw [emn]
  have ft := b0h ((ns.getD 0 0).fdiv 7) (b := (mn : Int)) (by omega)
  obtain ⟨Mid2, in2, out2⟩ := c3h (fun σ' H' => ∃ tn : Nat, σ' = [some (.ref a), some (.ref ln), some (.int mn), some (.int tn), none, none, none, none, none, none, none, none] /\ H' = H1 /\ tn < mn)
  refine ⟨Mid2, ?_, ?_⟩
  ·walk_at "rd"
   exact ⟨ns, hS1, ⟨by decide, by decide⟩, by omega, in2 _ _ ⟨(((ns.getD 0 0).fdiv 7).fmod (mn : Int)).toNat, by rw [Int.toNat_of_nonneg ft.1], rfl, by omega⟩⟩
  intro σ2 H2 hm2
  obtain ⟨tn, rfl, rfl, tnl⟩ := out2 _ _ hm2
  clear hm2 in2 out2 ft f7 emn
  walk_at "rd*"
  refine fun l3 H3 n3 S3 h3 => ?_
  have e3 : b7n (nm.map V.str) (some (tn : Int)) (some (mn : Int)) = ((nm.drop tn).take (mn - tn)).map V.str := by
   show b5z (nm.map V.str) _ _ = _
   rw [b2n]
   congr 1
   exact d4t (by omega) (by omega)
  rw [e3] at h3
  have hln3 := S3 _ _ hln
  walk_at "rd*"
  refine fun l4 H4 n4 S4 h4 => ?_
  have e4 : b7n (nm.map V.str) none (some (tn : Int)) = (nm.take tn).map V.str := by
   show b5z (nm.map V.str) _ _ = _
   rw [b2n, b4q]
  rw [e4] at h4
  have h34 := S4 _ _ h3
  clear hln3 h3 e3 e4
  walk_at "rd*"
  refine ⟨by simp; omega, fun lb H5 n5 S5 h5 => ?_⟩
  rw [<- List.map_append] at h5
  have pm5 : ((nm.drop tn).take (mn - tn) ++ nm.take tn).Perm (nm.take mn) := by
   refine List.perm_append_comm.trans (List.Perm.of_eq ?_)
   conv => rhs; rw [<- List.take_append_drop tn (nm.take mn), List.take_take, Nat.min_eq_left (by omega), List.drop_take]
  have S15 := S3.trans (S4.trans S5)
  generalize (nm.drop tn).take (mn - tn) ++ nm.take tn = bs5 at h5 pm5
  obtain ⟨Mid4, in4, out4⟩ := c3h (fun σ' H' => ∃ (lb : Addr) (bs : List Str), σ' = [some (.ref a), some (.ref ln), some (.int mn), some (.int tn), some (.ref lb), none, none, none, none, none, none, none] /\ Same H2 H' /\ H2 lb = none /\ H' lb = some (.lst (bs.map V.str)) /\ bs.Perm (nm.take mn))
  refine ⟨Mid4, ?_, ?_⟩
  ·walk_at "rd*"
   refine ⟨ns, S15.seq hS1, ⟨by decide, by decide⟩, ?_⟩
   split
   ·refine fun lb2 H6 n6 S6 h6 => ?_
    rw [<- List.map_reverse] at h6
    exact in4 _ _ ⟨lb2, bs5.reverse, rfl, S15.trans S6, S15.free n6, h6, (List.reverse_perm _).trans pm5⟩
   ·exact in4 _ _ ⟨lb, bs5, rfl, S15, (S3.trans S4).free n5, h5, pm5⟩
  intro σ6 H6 hm6
  obtain ⟨lb, bs, rfl, S6, nlb, hlb, pm⟩ := out4 _ _ hm6
  clear hm6 in4 out4 h34 h4 h5 pm5 S15 S3 S4 S5 n3 n4 n5
  have ndT : (nm.take mn).Nodup := nd.sublist (List.take_sublist _ _)
  have bnd : bs.Nodup := pm.nodup_iff.mpr ndT
  have bl : bs.length = mn := by rw [pm.length_eq, List.length_take]; omega
  obtain ⟨tk, etk⟩ : ∃ tk, nm[8]? = some tk := ⟨_, List.getElem?_eq_getElem (by omega)⟩
  have tkn : b2t tk := nms tk (List.mem_of_getElem? etk)
  have tkb : tk ∉ bs := fun h => by
   have hd : (nm.take mn ++ nm.drop mn).Nodup := by rw [List.take_append_drop]; exact nd
   refine (List.nodup_append.mp hd).2.2 tk (pm.mem_iff.mp h) tk ?_ rfl
   refine List.mem_of_getElem? (i := 8 - mn) ?_
   rw [List.getElem?_drop, show mn + (8 - mn) = 8 by omega]
   exact etk
  have bnm : ∀ z ∈ bs, b2t z := fun z hz => nms z (List.mem_of_mem_take (pm.mem_iff.mp hz))
  have okb : ∀ z ∈ bs, PyData.strOk z = true := fun z hz => d4s (bnm z hz)
  have f4l := S6 _ _ hln
  have hS6 := S6.seq hS1
  clear hln pm ndT nms
  obtain ⟨Mid5, in5, out5⟩ := c3h (fun σ' H' => ∃ (o t b sd : Addr), σ' = [some (.ref a), some (.ref ln), some (.int mn), some (.int tn), some (.ref lb), some (.ref o), none, none, none, none, none, none] /\ Same H6 H' /\ H6 t = none /\ H6 b = none /\ H6 sd = none /\ b3s A H' o t b sd [] [] [])
  refine ⟨Mid5, ?_, ?_⟩
  ·walk_at "rd"
   intro o dx H7 n7 n7' nx S7 hdx hx
   refine ⟨dx, hx, fun H8 t b sd B8 nt nb nsd hP => ?_⟩
   rw [asNew]
   refine ⟨rfl, in5 _ _ ⟨o, t, b, sd, rfl, fun z u e => B8 _ _ (fun ze => by rw [ze] at e; rw [e] at n7; cases n7) (S7 _ _ e), S7.free nt, S7.free nb, S7.free nsd, hP⟩⟩
  intro σ7 H7 hm7
  obtain ⟨o, t, b, sd, rfl, S7, nt, nb, nsd, hP7⟩ := out5 _ _ hm7
  clear hm7 in5 out5
  obtain ⟨Mid6, in6, out6⟩ := c3h (fun σ' H' => ∃ v6 : Option V, σ' = [some (.ref a), some (.ref ln), some (.int mn), some (.int tn), some (.ref lb), some (.ref o), v6, none, none, none, none, none] /\ Same H6 H' /\ b3s A H' o t b sd [] (bs.take 1) [])
  refine ⟨Mid6, ?_, ?_⟩
  ·have hlb7 := S7 _ _ hlb
   walk_at "rd*"
   refine fun ls H8 n8 S8 h8 => ?_
   have e8 : b7n (bs.map V.str) none (some 1) = (bs.take 1).map V.str := by
    show b5z (bs.map V.str) none (some ((1 : Nat) : Int)) = _
    rw [b2n, b4q]
   rw [e8] at h8
   have hP8 := hP7.same S8
   have lsb : ls ≠ b := fun e => by
    obtain ⟨_, _, _, _, _, z, _⟩ := hP7
    rw [e, z] at n8
    cases n8
   walk_at "rd"
   refine ⟨⟨_, SqL.of h8⟩, ?_⟩
   obtain ⟨Pv, pin, pout⟩ := b2z (fun i σ H' => ∃ v6 : Option V, σ = [some (.ref a), some (.ref ln), some (.int mn), some (.int tn), some (.ref lb), some (.ref o), v6, none, none, none, none, none] /\ Same H6 H' /\ H' ls = some (.lst ((bs.take 1).map V.str)) /\ b3s A H' o t b sd [] ((bs.take 1).take i) [])
   refine a6l (xs := (bs.take 1).map V.str) Pv (pin _ _ _ ⟨_, rfl, S7.trans S8, h8, hP8⟩) ?_ ?_ ?_
   ·intro i σ H9 hi hp
    obtain ⟨v6, rfl, S9, h9, _⟩ := pout _ _ _ hp
    exact SqL.of h9
   ·intro i v σ H9 hv hp
    rw [List.getElem?_map] at hv
    obtain ⟨z, hz, rfl⟩ := Option.map_eq_some_iff.mp hv
    obtain ⟨v6, rfl, S9, h9, hP9⟩ := pout _ _ _ hp
    obtain ⟨dx, ou, ps, ho, _⟩ := id hP9
    unfold ptF at ho
    have hzb : z ∈ bs := List.mem_of_mem_take (List.mem_of_getElem? hz)
    have hi := (List.getElem?_eq_some_iff.mp hz).1
    rw [List.length_take] at hi
    clear hv hp
    walk_at "rd*"
    refine ⟨t, b, sd, [], _, [], hP9, (fun h => by cases h), c2n (bnd.sublist (List.take_sublist _ _)) hz, (by rw [List.length_take, List.length_take]; omega), fun H10 B10 d5h => pin _ _ _ ⟨_, rfl, S9.step nb B10, B10 _ _ lsb h9, ?_⟩⟩
    rw [List.take_add_one, hz]
    exact d5h
   ·intro σ H9 hp
    obtain ⟨v6, rfl, S9, h9, hP9⟩ := pout _ _ _ hp
    rw [List.length_map, List.take_length] at hP9
    exact in6 _ _ ⟨_, rfl, S9, hP9⟩
  intro σ8 H8 hm8
  obtain ⟨v6, rfl, S8, hP8⟩ := out6 _ _ hm8
  clear hm8 in6 out6 hP7 S7
  obtain ⟨Mid7, in7, out7⟩ := c3h (fun σ' H' => σ' = [some (.ref a), some (.ref ln), some (.int mn), some (.int tn), some (.ref lb), some (.ref o), v6, none, none, none, none, none] /\ Same H6 H' /\ b3s A H' o t b sd [tk] (bs.take 1) [])
  refine ⟨Mid7, ?_, ?_⟩
  ·have hln8 := S8 _ _ f4l
   have at8 : atI (nm.map V.str) (8 : Int) = some (.str tk) := a4w (j := 8) (by rw [List.getElem?_map, etk]; rfl)
   obtain ⟨dx, ou, ps, ho, _⟩ := id hP8
   unfold ptF at ho
   walk_at "rd*"
   exact ⟨t, b, sd, [], _, [], hP8, (fun h => by cases h), fun h => tkb (List.mem_of_mem_take h), by decide, fun H1 B1 hP1 => in7 _ _ ⟨rfl, S8.step nt B1, hP1⟩⟩
  intro σ9 H9 hm9
  obtain ⟨rfl, S9, hP9⟩ := out7 _ _ hm9
  clear hm9 in7 out7 hP8 S8
  obtain ⟨Mid8, in8, out8⟩ := c3h (fun σ' H' => ∃ v6 : Option V, σ' = [some (.ref a), some (.ref ln), some (.int mn), some (.int tn), some (.ref lb), some (.ref o), v6, none, none, none, none, none] /\ Same H6 H' /\ b3s A H' o t b sd [tk] bs [])
  refine ⟨Mid8, ?_, ?_⟩
  ·have hlb9 := S9 _ _ hlb
   walk_at "rd*"
   refine fun ls H10 n10 S10 h10 => ?_
   have e10 : b7n (bs.map V.str) (some 1) none = (bs.drop 1).map V.str := by
    show b5z (bs.map V.str) (some ((1 : Nat) : Int)) none = _
    rw [b2n, c6k]
   rw [e10] at h10
   have d5h := hP9.same S10
   have lsb : ls ≠ b := fun e => by
    obtain ⟨_, _, _, _, _, z, _⟩ := hP9
    rw [e, z] at n10
    cases n10
   walk_at "rd"
   refine ⟨⟨_, SqL.of h10⟩, ?_⟩
   obtain ⟨Pv, pin, pout⟩ := b2z (fun i σ H' => ∃ v6 : Option V, σ = [some (.ref a), some (.ref ln), some (.int mn), some (.int tn), some (.ref lb), some (.ref o), v6, none, none, none, none, none] /\ Same H6 H' /\ H' ls = some (.lst ((bs.drop 1).map V.str)) /\ b3s A H' o t b sd [tk] (bs.take (1 + i)) [])
   refine a6l (xs := (bs.drop 1).map V.str) Pv (pin _ _ _ ⟨_, rfl, S9.trans S10, h10, d5h⟩) ?_ ?_ ?_
   ·intro i σ H11 hi hp
    obtain ⟨v6, rfl, S11, h11, _⟩ := pout _ _ _ hp
    exact SqL.of h11
   ·intro i v σ H11 hv hp
    rw [List.getElem?_map] at hv
    obtain ⟨z, hz, rfl⟩ := Option.map_eq_some_iff.mp hv
    obtain ⟨v6, rfl, S11, h11, d1u⟩ := pout _ _ _ hp
    obtain ⟨dx, ou, ps, ho, _⟩ := id d1u
    unfold ptF at ho
    have hzb : z ∈ bs := List.mem_of_mem_drop (List.mem_of_getElem? hz)
    have hz' : bs[1 + i]? = some z := by rw [<- List.getElem?_drop]; exact hz
    have hi := (List.getElem?_eq_some_iff.mp hz').1
    clear hv hp
    walk_at "rd*"
    refine ⟨t, b, sd, [tk], _, [], d1u, (fun h => by obtain rfl := List.mem_singleton.mp h; exact tkb hzb), c2n bnd hz', (by rw [List.length_take]; omega), fun H12 B12 hP12 => pin _ _ _ ⟨_, rfl, S11.step nb B12, B12 _ _ lsb h11, ?_⟩⟩
    rw [show 1 + (i + 1) = 1 + i + 1 by omega, List.take_add_one, hz']
    exact hP12
   ·intro σ H11 hp
    obtain ⟨v6, rfl, S11, h11, d1u⟩ := pout _ _ _ hp
    rw [List.length_map, List.length_drop, show 1 + (bs.length - 1) = bs.length by omega, List.take_length] at d1u
    exact in8 _ _ ⟨_, rfl, S11, d1u⟩
  intro σ10 H10 hm10
  obtain ⟨w6, rfl, S10, d5h⟩ := out8 _ _ hm10
  clear hm10 in8 out8 hP9 S9
  obtain ⟨Mid9, in9, out9⟩ := c3h (fun σ' H' => ∃ D : Addr, σ' = [some (.ref a), some (.ref ln), some (.int mn), some (.int tn), some (.ref lb), some (.ref o), w6, some (.ref D), none, none, none, none] /\ Same H10 H' /\ H10 D = none /\ H' D = some (.lst []))
  refine ⟨Mid9, ?_, ?_⟩
  ·walk_at "rd"
   exact ⟨by omega, fun D H11 n11 S11 h11 => in9 _ _ ⟨D, rfl, S11, n11, h11⟩⟩
  intro σ11 H11 hm11
  obtain ⟨D, rfl, S11, nD, hD⟩ := out9 _ _ hm11
  clear hm11 in9 out9
  have f7i := S10.trans S11
  have d1u := d5h.same S11
  have nHD : H6 D = none := S10.free nD
  have neD : t ≠ D /\ b ≠ D /\ sd ≠ D := by
   obtain ⟨_, _, _, _, z1, z2, z3, _⟩ := d5h
   exact ⟨fun e => (by rw [e, nD] at z1; cases z1), fun e => (by rw [e, nD] at z2; cases z2), fun e => (by rw [e, nD] at z3; cases z3)⟩
  have nsD : D ≠ sd := fun e => neD.2.2 e.symm
  walk_at "rd*"
  refine ⟨_, f7i.seq hS6, fun lc H12 n12 S12 h12 => ?_⟩
  rw [c6j] at h12
  have hmem : ∀ x ∈ b5z ns (some 1) (some 13), intBits x <= 1100000 := fun x hx => Nat.le_trans (hbit x (c8z hx)) (by decide)
  have ml := c9g ns (some 1) (some 13)
  generalize b5z ns (some 1) (some 13) = ms at h12 hmem ml
  try walk_at "rd"
  refine ⟨⟨_, SqL.of h12⟩, ?_⟩
  have cD : lc ≠ D := fun e => by rw [e, hD] at n12; cases n12
  have csd : lc ≠ sd := fun e => by
   obtain ⟨_, _, _, _, _, _, z, _⟩ := d1u
   rw [e, z] at n12
   cases n12
  have at8 : atI (nm.map V.str) (8 : Int) = some (.str tk) := a4w (j := 8) (by rw [List.getElem?_map, etk]; rfl)
  obtain ⟨Pv, pin, pout⟩ := b2z (fun i σ H' => ∃ (ps : List Addr) (es : List (Str × Str)) (v6 v8 v9 v10 v11 : Option V), σ = [some (.ref a), some (.ref ln), some (.int mn), some (.int tn), some (.ref lb), some (.ref o), v6, some (.ref D), v8, v9, v10, v11] /\ Same H6 H' /\ H' lc = some (.lst (ms.map V.int)) /\ H' D = some (.lst (ps.map V.ref)) /\ Pr2 H' ps es /\ b3s A H' o t b sd [tk] bs es /\ c9u es /\ (∀ e ∈ es, e.2 ∈ bs) /\ es.length <= i)
  refine a6l (xs := ms.map V.int) Pv (pin _ _ _ ⟨[], [], _, _, _, _, _, rfl, f7i.trans S12, h12, S12 _ _ hD, ⟨rfl, fun i p e h => by simp at h⟩, d1u.same S12, c9u.nil, (fun e he => by cases he), Nat.le_refl _⟩) ?_ ?_ ?_
  ·intro i σ H13 hi hp
   obtain ⟨ps, es, v6, v8, v9, v10, v11, rfl, S13, h13, _⟩ := pout _ _ _ hp
   exact SqL.of h13
  ·intro i v σ H13 hv hp
   rw [List.getElem?_map] at hv
   obtain ⟨cc, hcc, rfl⟩ := Option.map_eq_some_iff.mp hv
   obtain ⟨ps, es, v6, v8, v9, v10, v11, rfl, S13, h13, hD13, E13, P13, rk, tg, eli⟩ := pout _ _ _ hp
   have bcc := hmem cc (List.mem_of_getElem? hcc)
   have hi := (List.getElem?_eq_some_iff.mp hcc).1
   clear hv hp
   obtain ⟨MidM, inM, outM⟩ := c3h (fun σ' H' => ∃ M : Int, σ' = [some (.ref a), some (.ref ln), some (.int mn), some (.int tn), some (.ref lb), some (.ref o), v6, some (.ref D), some (.int cc), some (.int M), v10, v11] /\ H' = H13)
   try walk_at "rd"
   refine ⟨MidM, ?_, ?_⟩
   ·walk_at "rd"
    exact ⟨by walk_at "mul", by decide, inM _ _ ⟨_, rfl, rfl⟩⟩
   intro σ14 H14 hm14
   obtain ⟨M, rfl, rfl⟩ := outM _ _ hm14
   clear hm14 inM outM
   have d4u := S13 _ _ hlb
   have f0s := S13 _ _ f4l
   walk_at "rd*"
   refine fun l15 H15 n15 S15 h15 => ?_
   have f4m := S15 _ _ d4u
   walk_at "rd*"
   refine ⟨by omega, fun l16 H16 n16 S16 h16 => ?_⟩
   have b9q := S15.trans S16
   have fs := b0h M (b := (mn : Int) + 1) (by omega)
   obtain ⟨js, ejs⟩ : ∃ js : Nat, M.fmod ((mn : Int) + 1) = js := ⟨(M.fmod ((mn : Int) + 1)).toNat, by omega⟩
   obtain ⟨src, hsrc⟩ : ∃ src, (bs ++ [tk])[js]? = some src := ⟨_, List.getElem?_eq_getElem (by rw [List.length_append, List.length_singleton]; omega)⟩
   have asrc : atI (bs.map V.str ++ [V.str tk]) (js : Int) = some (.str src) := a4w (by
    rw [show bs.map V.str ++ [V.str tk] = (bs ++ [tk]).map V.str by rw [List.map_append]; rfl, List.getElem?_map, hsrc]
    rfl)
   have msrc : src ∈ bs \/ src = tk := by
    rcases List.mem_append.mp (List.mem_of_getElem? hsrc) with h | h
    ·exact .inl h
    ·exact .inr (List.mem_singleton.mp h)
   clear h15 f4m
   walk_at "rd*"
   refine ⟨by omega, ?_⟩
   have hlb16 := b9q _ _ d4u
   have hln16 := b9q _ _ f0s
   have fb := b0h (M.fdiv 9) (b := (mn : Int)) (by omega)
   obtain ⟨MidB, inB, outB⟩ := c3h (fun σ' H' => ∃ bu : Str, σ' = [some (.ref a), some (.ref ln), some (.int mn), some (.int tn), some (.ref lb), some (.ref o), some (.str bu), some (.ref D), some (.int cc), some (.int M), some (.str src), v11] /\ H' = H16 /\ bu ∈ bs)
   clear h16 d4u f0s
   refine ⟨MidB, ?_, ?_⟩
   ·obtain ⟨jb, ejb⟩ : ∃ jb : Nat, (M.fdiv 9).fmod (mn : Int) = jb := ⟨((M.fdiv 9).fmod (mn : Int)).toNat, by omega⟩
    obtain ⟨bu, hbu⟩ : ∃ bu, bs[jb]? = some bu := ⟨_, List.getElem?_eq_getElem (by omega)⟩
    have abu : atI (bs.map V.str) (jb : Int) = some (.str bu) := a4w (by rw [List.getElem?_map, hbu]; rfl)
    walk_at "rd*"
    exact ⟨⟨by decide, by decide⟩, by omega, inB _ _ ⟨bu, rfl, rfl, List.mem_of_getElem? hbu⟩⟩
   intro σ17 H17 hm17
   obtain ⟨bu, rfl, rfl, mbu⟩ := outB _ _ hm17
   clear hm17 inB outB fb fs
   have f1p := S13.trans b9q
   have f1q := b9q _ _ hD13
   have E17 := E13.same b9q
   have P17 := P13.same b9q
   have h17 := b9q _ _ h13
   obtain ⟨MidI, inI, outI⟩ := c3h (fun σ' H' => ∃ (ps : List Addr) (es : List (Str × Str)), σ' = [some (.ref a), some (.ref ln), some (.int mn), some (.int tn), some (.ref lb), some (.ref o), some (.str bu), some (.ref D), some (.int cc), some (.int M), some (.str src), v11] /\ Same H6 H' /\ H' lc = some (.lst (ms.map V.int)) /\ H' D = some (.lst (ps.map V.ref)) /\ Pr2 H' ps es /\ b3s A H' o t b sd [tk] bs es /\ c9u es /\ (∀ e ∈ es, e.2 ∈ bs) /\ es.length <= i + 1)
   refine ⟨MidI, ?_, ?_⟩
   ·have nrT : src = tk -> ¬ Rch es bu src := fun e h => by
     have z := h (· ≠ tk) (fun q => tkb (by rw [<- q]; exact mbu)) fun u v _ hv q => tkb (by rw [<- q]; exact tg _ hv)
     exact z e
    have msr : src ∈ [tk] \/ src ∈ bs := msrc.elim .inr fun e => .inl (by rw [e]; exact List.mem_cons_self)
    have el17 := E17.1
    walk_at "rd*"
    split
    ·rename_i hst
     have nr := nrT hst
     subst hst
     have Pb := P17.same (Same.refl _)
     obtain ⟨dx, ou, qs, ho, _, _, hsdb, _⟩ := id Pb
     unfold ptF at ho
     walk_at "rd*"
     refine fun l19 H19 n19 S19 h19 => ?_
     walk_at "rd"
     refine ⟨t, b, sd, _, bs, es, Pb.same S19, h19, msr, mbu, nr, by omega, okb bu mbu, (fun e he => okb _ (tg e he)), fun H20 B20 P20 => ?_⟩
     have f0t := B20 _ _ nsD (S19 _ _ ((Same.refl _) _ _ f1q))
     have E20 := ((E17.same (Same.refl _)).same S19).b3t (S19 _ _ hsdb) B20
     walk_at "rd*"
     refine fun p H21 n21 S21 h21 => ?_
     have f0u := S21 _ _ f0t
     clear f0t ho
     walk_at "rd*"
     refine ⟨by omega, ?_⟩
     rintro _ H22 ⟨rfl, B22, h22⟩
     refine inI _ _ ⟨ps ++ [p], es ++ [(src, bu)], rfl, ((((f1p.trans (Same.refl _)).trans S19).step nsd B20).trans S21).step nHD B22, B22 _ _ cD (S21 _ _ (B20 _ _ csd (S19 _ _ ((Same.refl _) _ _ h17)))), by rw [h22, List.map_append]; rfl, ((E20.same S21).snoc h21).b3t f0u B22, (P20.same S21).other f0u neD.1 neD.2.1 neD.2.2 B22, rk.add nr, (fun e he => ?_), by rw [List.length_append, List.length_singleton]; omega⟩
     rcases List.mem_append.mp he with h | h
     ·exact tg e h
     ·obtain rfl := List.mem_singleton.mp h
      exact mbu
    ·rename_i hst
     refine ⟨ps, rfl, es, E17, by omega, fun r H18 hr18 S18 => ?_⟩
     cases r with
     | true =>
      try walk_at "rd"
      exact inI _ _ ⟨ps, es, rfl, f1p.trans S18, S18 _ _ h17, S18 _ _ f1q, E17.same S18, P17.same S18, rk, tg, by omega⟩
     | false =>
      have nr := hr18 rfl
      try rw [if_pos rfl]
      have Pb := P17.same S18
      obtain ⟨dx, ou, qs, ho, _, _, hsdb, _⟩ := id Pb
      unfold ptF at ho
      walk_at "rd*"
      refine fun l19 H19 n19 S19 h19 => ?_
      walk_at "rd"
      refine ⟨t, b, sd, _, bs, es, Pb.same S19, h19, msr, mbu, nr, by omega, okb bu mbu, (fun e he => okb _ (tg e he)), fun H20 B20 P20 => ?_⟩
      have f0t := B20 _ _ nsD (S19 _ _ (S18 _ _ f1q))
      have E20 := ((E17.same S18).same S19).b3t (S19 _ _ hsdb) B20
      walk_at "rd*"
      refine fun p H21 n21 S21 h21 => ?_
      have f0u := S21 _ _ f0t
      clear f0t ho
      walk_at "rd*"
      refine ⟨by omega, ?_⟩
      rintro _ H22 ⟨rfl, B22, h22⟩
      refine inI _ _ ⟨ps ++ [p], es ++ [(src, bu)], rfl, ((((f1p.trans S18).trans S19).step nsd B20).trans S21).step nHD B22, B22 _ _ cD (S21 _ _ (B20 _ _ csd (S19 _ _ (S18 _ _ h17)))), by rw [h22, List.map_append]; rfl, ((E20.same S21).snoc h21).b3t f0u B22, (P20.same S21).other f0u neD.1 neD.2.1 neD.2.2 B22, rk.add nr, (fun e he => ?_), by rw [List.length_append, List.length_singleton]; omega⟩
      rcases List.mem_append.mp he with h | h
      ·exact tg e h
      ·obtain rfl := List.mem_singleton.mp h
       exact mbu
   clear f1q E17 P17 h17 rk tg eli hD13 E13 P13 h13 S13 b9q S15 S16 f1p n15 n16
   intro σ18 H18 hm18
   obtain ⟨ps, es, rfl, S18, h18, hD18, E18, P18, rk, tg, eli⟩ := outI _ _ hm18
   clear hm18 inI outI
   obtain ⟨dx, ou, qs, ho, _⟩ := id P18
   unfold ptF at ho
   walk_at "rd*"
   refine ⟨t, b, sd, [tk], bs, es, P18, by omega, fun j hj => ready rk bnd j hj, ?_⟩
   rintro _ H19 ⟨lt, rfl, n19, S19, h19⟩
   walk_at "rd*"
   refine ⟨bs, S19 _ _ (S18 _ _ hlb), ps, S19 _ _ hD18, es, E18.same S19, by rw [bl], by omega, by omega, okb, fun j hj => ready rk bnd j hj, fun H20 S20 => ?_⟩
   have h20 := S20 _ _ h19
   have hln20 := S20 _ _ (S19 _ _ (S18 _ _ f4l))
   have oll := c1i bs es bs.length
   rw [bl] at oll
   clear h19 ho
   walk_at "rd*"
   refine ⟨by omega, ?_⟩
   rintro _ H21 ⟨rfl, B21, h21⟩
   have Sx : Same H18 H21 := (S19.trans S20).step n19 B21
   exact pin _ _ _ ⟨ps, es, _, _, _, _, _, rfl, S18.trans Sx, Sx _ _ h18, Sx _ _ hD18, E18.same Sx, P18.same Sx, rk, tg, eli⟩
  ·intro σ H13 hp
   obtain ⟨ps, es, v6, v8, v9, v10, v11, rfl, S13, h13, hD13, E13, P13, rk, tg, eli⟩ := pout _ _ _ hp
   obtain ⟨dx, ou, qs, ho, _⟩ := id P13
   unfold ptF at ho
   walk_at "rd*"
   refine ⟨t, b, sd, [tk], bs, es, P13, by omega, fun j hj => ready rk bnd j hj, ?_⟩
   rintro _ H14 ⟨lt, rfl, n14, S14, h14⟩
   walk_at "rd"
   exact ⟨bs, S14 _ _ (S13 _ _ hlb), ps, S14 _ _ hD13, es, E13.same S14, h14, by omega, by rw [List.length_map] at eli; omega, okb, fun j hj => ready rk bnd j hj, fun H15 S15 => q _⟩
theorem all_mk {l : PySem.W.OpenLaw} {w : World} {K : PySem.W.Frag} {h : Heap} {mg : Str → Option Value} {fa : Addr} (X : K.In h) (G : h.Ns mainGlobals mg) (hfa : mg "law" = some (.ref fa))
  {b0v a7h a2g a0q : Addr}
  (b6u : PySem.W.nsIn K mainGlobals "Part" = some (some (.ref b0v)))
  (b6v : PySem.W.nsIn K mainGlobals "Gain" = some (some (.ref a7h)))
  (b2r : PySem.W.nsIn K mainGlobals "Chain" = some (some (.ref a2g)))
  (b2s : PySem.W.nsIn K mainGlobals "Patch" = some (some (.ref a0q)))
  {a0w : Addr} {od_Part_fresh an_Part_fresh : Option Addr} {sl_Part_fresh : Array (Option Value)} {oc_Part_fresh kV_Part_fresh dc_Part_fresh pm_Part_fresh cd_Part_fresh ct_Part_fresh : Value}
  (a_Part_fresh : PySem.W.findIn K (.ref b0v) "fresh" = some (some (.ref a0w))) (l_Part_fresh : K.lookup a0w = some ⟨oc_Part_fresh, od_Part_fresh, .func (PySem.W.fnOf "fresh" "Part.fresh" (a1i a4j) (a1h a4j) (a0l a4j) .none kV_Part_fresh dc_Part_fresh pm_Part_fresh an_Part_fresh cd_Part_fresh ct_Part_fresh), sl_Part_fresh⟩) (b0j : PySem.W.codeIn K cd_Part_fresh "Part.fresh" = true) (k_Part_fresh : PySem.W.keepIn K (.ref a0w) = true)
  {a2w : Addr} {od_Gain_word an_Gain_word : Option Addr} {sl_Gain_word : Array (Option Value)} {oc_Gain_word kV_Gain_word dc_Gain_word pm_Gain_word cd_Gain_word ct_Gain_word : Value}
  (a_Gain_word : PySem.W.findIn K (.ref a7h) "word" = some (some (.ref a2w))) (l_Gain_word : K.lookup a2w = some ⟨oc_Gain_word, od_Gain_word, .func (PySem.W.fnOf "word" "Gain.word" (a1i a4z) (a1h a4z) (a0l a4z) .none kV_Gain_word dc_Gain_word pm_Gain_word an_Gain_word cd_Gain_word ct_Gain_word), sl_Gain_word⟩) (b1t : PySem.W.codeIn K cd_Gain_word "Gain.word" = true) (k_Gain_word : PySem.W.keepIn K (.ref a2w) = true)
  {a6q : Addr} {od_part_of an_part_of : Option Addr} {sl_part_of : Array (Option Value)} {oc_part_of kV_part_of dc_part_of pm_part_of cd_part_of ct_part_of : Value}
  (a_part_of : PySem.W.nsIn K mainGlobals "part_of" = some (some (.ref a6q))) (l_part_of : K.lookup a6q = some ⟨oc_part_of, od_part_of, .func (PySem.W.fnOf "part_of" "part_of" (a1i a7y) (a1h a7y) (a0l a7y) .none kV_part_of dc_part_of pm_part_of an_part_of cd_part_of ct_part_of), sl_part_of⟩) (b5h : PySem.W.codeIn K cd_part_of "part_of" = true) (k_part_of : PySem.W.keepIn K (.ref a6q) = true)
  {a5k : Addr} {od_parts_of an_parts_of : Option Addr} {sl_parts_of : Array (Option Value)} {oc_parts_of kV_parts_of dc_parts_of pm_parts_of cd_parts_of ct_parts_of : Value}
  (a_parts_of : PySem.W.nsIn K mainGlobals "parts_of" = some (some (.ref a5k))) (l_parts_of : K.lookup a5k = some ⟨oc_parts_of, od_parts_of, .func (PySem.W.fnOf "parts_of" "parts_of" (a1i a5g) (a1h a5g) (a0l a5g) .none kV_parts_of dc_parts_of pm_parts_of an_parts_of cd_parts_of ct_parts_of), sl_parts_of⟩) (b3k : PySem.W.codeIn K cd_parts_of "parts_of" = true) (k_parts_of : PySem.W.keepIn K (.ref a5k) = true)
  {a2h : Addr} {od_Chain_init an_Chain_init : Option Addr} {sl_Chain_init : Array (Option Value)} {oc_Chain_init kV_Chain_init dc_Chain_init pm_Chain_init cd_Chain_init ct_Chain_init : Value}
  (a_Chain_init : PySem.W.findIn K (.ref a2g) "__init__" = some (some (.ref a2h))) (l_Chain_init : K.lookup a2h = some ⟨oc_Chain_init, od_Chain_init, .func (PySem.W.fnOf "__init__" "Chain.__init__" (a1i a2u) (a1h a2u) (a0l a2u) .none kV_Chain_init dc_Chain_init pm_Chain_init an_Chain_init cd_Chain_init ct_Chain_init), sl_Chain_init⟩) (b0k : PySem.W.codeIn K cd_Chain_init "Chain.__init__" = true) (k_Chain_init : PySem.W.keepIn K (.ref a2h) = true)
  {a1r : Addr} {od_Chain_words an_Chain_words : Option Addr} {sl_Chain_words : Array (Option Value)} {oc_Chain_words kV_Chain_words dc_Chain_words pm_Chain_words cd_Chain_words ct_Chain_words : Value}
  (a_Chain_words : PySem.W.findIn K (.ref a2g) "words" = some (some (.ref a1r))) (l_Chain_words : K.lookup a1r = some ⟨oc_Chain_words, od_Chain_words, .func (PySem.W.fnOf "words" "Chain.words" (a1i a2n) (a1h a2n) (a0l a2n) .none kV_Chain_words dc_Chain_words pm_Chain_words an_Chain_words cd_Chain_words ct_Chain_words), sl_Chain_words⟩) (a8w : PySem.W.codeIn K cd_Chain_words "Chain.words" = true) (k_Chain_words : PySem.W.keepIn K (.ref a1r) = true)
  {a6r : Addr} {od_is_name an_is_name : Option Addr} {sl_is_name : Array (Option Value)} {oc_is_name kV_is_name dc_is_name pm_is_name cd_is_name ct_is_name : Value}
  (a_is_name : PySem.W.nsIn K mainGlobals "is_name" = some (some (.ref a6r))) (l_is_name : K.lookup a6r = some ⟨oc_is_name, od_is_name, .func (PySem.W.fnOf "is_name" "is_name" (a1i a6o) (a1h a6o) (a0l a6o) .none kV_is_name dc_is_name pm_is_name an_is_name cd_is_name ct_is_name), sl_is_name⟩) (b5i : PySem.W.codeIn K cd_is_name "is_name" = true) (k_is_name : PySem.W.keepIn K (.ref a6r) = true)
  {a2i : Addr} {od_Patch_init an_Patch_init : Option Addr} {sl_Patch_init : Array (Option Value)} {oc_Patch_init kV_Patch_init dc_Patch_init pm_Patch_init cd_Patch_init ct_Patch_init : Value}
  (a_Patch_init : PySem.W.findIn K (.ref a0q) "__init__" = some (some (.ref a2i))) (l_Patch_init : K.lookup a2i = some ⟨oc_Patch_init, od_Patch_init, .func (PySem.W.fnOf "__init__" "Patch.__init__" (a1i a4k) (a1h a4k) (a0l a4k) .none kV_Patch_init dc_Patch_init pm_Patch_init an_Patch_init cd_Patch_init ct_Patch_init), sl_Patch_init⟩) (b0l : PySem.W.codeIn K cd_Patch_init "Patch.__init__" = true) (k_Patch_init : PySem.W.keepIn K (.ref a2i) = true)
  {a0u : Addr} {od_Patch_check_new an_Patch_check_new : Option Addr} {sl_Patch_check_new : Array (Option Value)} {oc_Patch_check_new kV_Patch_check_new dc_Patch_check_new pm_Patch_check_new cd_Patch_check_new ct_Patch_check_new : Value}
  (a_Patch_check_new : PySem.W.findIn K (.ref a0q) "check_new" = some (some (.ref a0u))) (l_Patch_check_new : K.lookup a0u = some ⟨oc_Patch_check_new, od_Patch_check_new, .func (PySem.W.fnOf "check_new" "Patch.check_new" (a1i a1l) (a1h a1l) (a0l a1l) .none kV_Patch_check_new dc_Patch_check_new pm_Patch_check_new an_Patch_check_new cd_Patch_check_new ct_Patch_check_new), sl_Patch_check_new⟩) (a5m : PySem.W.codeIn K cd_Patch_check_new "Patch.check_new" = true) (k_Patch_check_new : PySem.W.keepIn K (.ref a0u) = true)
  {a1s : Addr} {od_Patch_track an_Patch_track : Option Addr} {sl_Patch_track : Array (Option Value)} {oc_Patch_track kV_Patch_track dc_Patch_track pm_Patch_track cd_Patch_track ct_Patch_track : Value}
  (a_Patch_track : PySem.W.findIn K (.ref a0q) "track" = some (some (.ref a1s))) (l_Patch_track : K.lookup a1s = some ⟨oc_Patch_track, od_Patch_track, .func (PySem.W.fnOf "track" "Patch.track" (a1i a3k) (a1h a3k) (a0l a3k) .none kV_Patch_track dc_Patch_track pm_Patch_track an_Patch_track cd_Patch_track ct_Patch_track), sl_Patch_track⟩) (a8y : PySem.W.codeIn K cd_Patch_track "Patch.track" = true) (k_Patch_track : PySem.W.keepIn K (.ref a1s) = true)
  {a2y : Addr} {od_Patch_bus an_Patch_bus : Option Addr} {sl_Patch_bus : Array (Option Value)} {oc_Patch_bus kV_Patch_bus dc_Patch_bus pm_Patch_bus cd_Patch_bus ct_Patch_bus : Value}
  (a_Patch_bus : PySem.W.findIn K (.ref a0q) "bus" = some (some (.ref a2y))) (l_Patch_bus : K.lookup a2y = some ⟨oc_Patch_bus, od_Patch_bus, .func (PySem.W.fnOf "bus" "Patch.bus" (a1i a5h) (a1h a5h) (a0l a5h) .none kV_Patch_bus dc_Patch_bus pm_Patch_bus an_Patch_bus cd_Patch_bus ct_Patch_bus), sl_Patch_bus⟩) (b1u : PySem.W.codeIn K cd_Patch_bus "Patch.bus" = true) (k_Patch_bus : PySem.W.keepIn K (.ref a2y) = true)
  {a2j : Addr} {od_Patch_send an_Patch_send : Option Addr} {sl_Patch_send : Array (Option Value)} {oc_Patch_send kV_Patch_send dc_Patch_send pm_Patch_send cd_Patch_send ct_Patch_send : Value}
  (a_Patch_send : PySem.W.findIn K (.ref a0q) "send" = some (some (.ref a2j))) (l_Patch_send : K.lookup a2j = some ⟨oc_Patch_send, od_Patch_send, .func (PySem.W.fnOf "send" "Patch.send" (a1i a4l) (a1h a4l) (a0l a4l) .none kV_Patch_send dc_Patch_send pm_Patch_send an_Patch_send cd_Patch_send ct_Patch_send), sl_Patch_send⟩) (b0m : PySem.W.codeIn K cd_Patch_send "Patch.send" = true) (k_Patch_send : PySem.W.keepIn K (.ref a2j) = true)
  {a2z : Addr} {od_Patch_way an_Patch_way : Option Addr} {sl_Patch_way : Array (Option Value)} {oc_Patch_way kV_Patch_way dc_Patch_way pm_Patch_way cd_Patch_way ct_Patch_way : Value}
  (a_Patch_way : PySem.W.findIn K (.ref a0q) "way" = some (some (.ref a2z))) (l_Patch_way : K.lookup a2z = some ⟨oc_Patch_way, od_Patch_way, .func (PySem.W.fnOf "way" "Patch.way" (a1i a5i) (a1h a5i) (a0l a5i) .none kV_Patch_way dc_Patch_way pm_Patch_way an_Patch_way cd_Patch_way ct_Patch_way), sl_Patch_way⟩) (b1v : PySem.W.codeIn K cd_Patch_way "Patch.way" = true) (k_Patch_way : PySem.W.keepIn K (.ref a2z) = true)
  {a1t : Addr} {od_Patch_order an_Patch_order : Option Addr} {sl_Patch_order : Array (Option Value)} {oc_Patch_order kV_Patch_order dc_Patch_order pm_Patch_order cd_Patch_order ct_Patch_order : Value}
  (a_Patch_order : PySem.W.findIn K (.ref a0q) "order" = some (some (.ref a1t))) (l_Patch_order : K.lookup a1t = some ⟨oc_Patch_order, od_Patch_order, .func (PySem.W.fnOf "order" "Patch.order" (a1i a2o) (a1h a2o) (a0l a2o) .none kV_Patch_order dc_Patch_order pm_Patch_order an_Patch_order cd_Patch_order ct_Patch_order), sl_Patch_order⟩) (a8z : PySem.W.codeIn K cd_Patch_order "Patch.order" = true) (k_Patch_order : PySem.W.keepIn K (.ref a1t) = true)
  {a0y : Addr} {od_Patch_is_next an_Patch_is_next : Option Addr} {sl_Patch_is_next : Array (Option Value)} {oc_Patch_is_next kV_Patch_is_next dc_Patch_is_next pm_Patch_is_next cd_Patch_is_next ct_Patch_is_next : Value}
  (a_Patch_is_next : PySem.W.findIn K (.ref a0q) "is_next" = some (some (.ref a0y))) (l_Patch_is_next : K.lookup a0y = some ⟨oc_Patch_is_next, od_Patch_is_next, .func (PySem.W.fnOf "is_next" "Patch.is_next" (a1i a1z) (a1h a1z) (a0l a1z) .none kV_Patch_is_next dc_Patch_is_next pm_Patch_is_next an_Patch_is_next cd_Patch_is_next ct_Patch_is_next), sl_Patch_is_next⟩) (a6w : PySem.W.codeIn K cd_Patch_is_next "Patch.is_next" = true) (k_Patch_is_next : PySem.W.keepIn K (.ref a0y) = true)
  {a2p : Addr} {od_law_cell_at an_law_cell_at : Option Addr} {sl_law_cell_at : Array (Option Value)} {oc_law_cell_at kV_law_cell_at dc_law_cell_at pm_law_cell_at cd_law_cell_at ct_law_cell_at : Value}
  (a_law_cell_at : PySem.W.nsIn K mainGlobals "_law_cell_at" = some (some (.ref a2p))) (l_law_cell_at : K.lookup a2p = some ⟨oc_law_cell_at, od_law_cell_at, .func (PySem.W.fnOf "_law_cell_at" "_law_cell_at" (a1i a3l) (a1h a3l) (a0l a3l) .none kV_law_cell_at dc_law_cell_at pm_law_cell_at an_law_cell_at cd_law_cell_at ct_law_cell_at), sl_law_cell_at⟩) (a9g : PySem.W.codeIn K cd_law_cell_at "_law_cell_at" = true) (k_law_cell_at : PySem.W.keepIn K (.ref a2p) = true)
  {a3y : Addr} {od_law_names an_law_names : Option Addr} {sl_law_names : Array (Option Value)} {oc_law_names kV_law_names dc_law_names pm_law_names cd_law_names ct_law_names : Value}
  (a_law_names : PySem.W.nsIn K mainGlobals "_law_names" = some (some (.ref a3y))) (l_law_names : K.lookup a3y = some ⟨oc_law_names, od_law_names, .func (PySem.W.fnOf "_law_names" "_law_names" (a1i a3w) (a1h a3w) (a0l a3w) .none kV_law_names dc_law_names pm_law_names an_law_names cd_law_names ct_law_names), sl_law_names⟩) (b1w : PySem.W.codeIn K cd_law_names "_law_names" = true) (k_law_names : PySem.W.keepIn K (.ref a3y) = true)
  {a3z : Addr} {od_law_leads an_law_leads : Option Addr} {sl_law_leads : Array (Option Value)} {oc_law_leads kV_law_leads dc_law_leads pm_law_leads cd_law_leads ct_law_leads : Value}
  (a_law_leads : PySem.W.nsIn K mainGlobals "_law_leads" = some (some (.ref a3z))) (l_law_leads : K.lookup a3z = some ⟨oc_law_leads, od_law_leads, .func (PySem.W.fnOf "_law_leads" "_law_leads" (a1i a5j) (a1h a5j) (a0l a5j) .none kV_law_leads dc_law_leads pm_law_leads an_law_leads cd_law_leads ct_law_leads), sl_law_leads⟩) (b1y : PySem.W.codeIn K cd_law_leads "_law_leads" = true) (k_law_leads : PySem.W.keepIn K (.ref a3z) = true)
  {a1v : Addr} {od_law_is_order an_law_is_order : Option Addr} {sl_law_is_order : Array (Option Value)} {oc_law_is_order kV_law_is_order dc_law_is_order pm_law_is_order cd_law_is_order ct_law_is_order : Value}
  (a_law_is_order : PySem.W.nsIn K mainGlobals "_law_is_order" = some (some (.ref a1v))) (l_law_is_order : K.lookup a1v = some ⟨oc_law_is_order, od_law_is_order, .func (PySem.W.fnOf "_law_is_order" "_law_is_order" (a1i a1j) (a1h a1j) (a0l a1j) .none kV_law_is_order dc_law_is_order pm_law_is_order an_law_is_order cd_law_is_order ct_law_is_order), sl_law_is_order⟩) (a7u : PySem.W.codeIn K cd_law_is_order "_law_is_order" = true) (k_law_is_order : PySem.W.keepIn K (.ref a1v) = true)
  {c0v : Addr} {od_law an_law : Option Addr} {sl_law : Array (Option Value)} {oc_law kV_law dc_law pm_law cd_law ct_law : Value}
  (a_law : PySem.W.nsIn K mainGlobals "law" = some (some (.ref c0v))) (l_law : K.lookup c0v = some ⟨oc_law, od_law, .func (PySem.W.fnOf "law" "law" (a1i c3m) (a1h c3m) (a0l c3m) .none kV_law dc_law pm_law an_law cd_law ct_law), sl_law⟩) (d4v : PySem.W.codeIn K cd_law "law" = true) (k_law : PySem.W.keepIn K (.ref c0v) = true)
  (c7k : PySem.W.nsIn K mainGlobals "all" = some none)
  (c7l : PySem.W.nsIn K mainGlobals "int" = some none)
  (a3g : PySem.W.nsIn K mainGlobals "isinstance" = some none)
  (b1s : PySem.W.nsIn K mainGlobals "len" = some none)
  (b6g : PySem.W.nsIn K mainGlobals "list" = some none)
  (a9z : PySem.W.nsIn K mainGlobals "range" = some none)
  (c7m : PySem.W.nsIn K mainGlobals "str" = some none)
  {t_LETTERS : Tok}
  {t_MOST_LETTERS : Tok}
  {t_MOST_PARTS : Tok}
  {a7z : Addr} {es_READERS : Array DictEntry} {n_READERS : Nat}
  (cl_Patch_pg : PySem.W.plainGet K a0q Str.empty = true)
  (cl_Patch_hd : PySem.W.hasDictIn K a0q = true)
  (cl_Patch_po : PySem.W.plainOver K a0q = true)
  (cl_Patch_sa : PySem.W.findIn K (.ref a0q) "__setattr__" = some (some (.builtin "object.__setattr__")))
  (a0g : PySem.W.findIn K (.ref a0q) "track_names" = some none)
  (a0i : PySem.W.findIn K (.ref a0q) "bus_names" = some none)
  (a0h : PySem.W.findIn K (.ref a0q) "told_sends" = some none)
  (a0j : PySem.W.findIn K (.ref a0q) "told_outs" = some none)
  (me_Patch___init___fn : PySem.W.isFn K (.ref a2i) = true)
  (mk_Patch_ma : PySem.W.makesIn K a0q = true)
  (mk_Patch_kp : PySem.W.keepIn K (.ref a0q) = true)
  (me_Patch_check_new_fn : PySem.W.isFn K (.ref a0u) = true)
  (me_Patch_track_fn : PySem.W.isFn K (.ref a1s) = true)
  (me_Patch_bus_fn : PySem.W.isFn K (.ref a2y) = true)
  (me_Patch_send_fn : PySem.W.isFn K (.ref a2j) = true)
  (me_Patch_way_fn : PySem.W.isFn K (.ref a2z) = true)
  (me_Patch_order_fn : PySem.W.isFn K (.ref a1t) = true)
  (me_Patch_is_next_fn : PySem.W.isFn K (.ref a0y) = true)
  (cl_Chain_pg : PySem.W.plainGet K a2g Str.empty = true)
  (cl_Chain_hd : PySem.W.hasDictIn K a2g = true)
  (cl_Chain_po : PySem.W.plainOver K a2g = true)
  (cl_Chain_sa : PySem.W.findIn K (.ref a2g) "__setattr__" = some (some (.builtin "object.__setattr__")))
  (a0v : PySem.W.findIn K (.ref a2g) "parts" = some none)
  (a0s : PySem.W.findIn K (.ref a2g) "states" = some none)
  (me_Chain___init___fn : PySem.W.isFn K (.ref a2h) = true)
  (mk_Chain_ma : PySem.W.makesIn K a2g = true)
  (mk_Chain_kp : PySem.W.keepIn K (.ref a2g) = true)
  (me_Chain_words_fn : PySem.W.isFn K (.ref a1r) = true)
  (cl_Part_pg : PySem.W.plainGet K b0v Str.empty = true)
  (cl_Part_hd : PySem.W.hasDictIn K b0v = true)
  (cl_Part_po : PySem.W.plainOver K b0v = true)
  (cl_Part_sa : PySem.W.findIn K (.ref b0v) "__setattr__" = some (some (.builtin "object.__setattr__")))
  (me_Part_fresh_fn : PySem.W.isFn K (.ref a0w) = true)
  (cl_Gain_pg : PySem.W.plainGet K a7h Str.empty = true)
  (cl_Gain_hd : PySem.W.hasDictIn K a7h = true)
  (cl_Gain_po : PySem.W.plainOver K a7h = true)
  (cl_Gain_sa : PySem.W.findIn K (.ref a7h) "__setattr__" = some (some (.builtin "object.__setattr__")))
  (a7n : PySem.W.findIn K (.ref a7h) "gain" = some none)
  (me_Gain_word_fn : PySem.W.isFn K (.ref a2w) = true)
  (me_Gain_fresh_at : PySem.W.findIn K (.ref a7h) "fresh" = some (some (.ref a0w)))
  (me_Gain_fresh_fn : PySem.W.isFn K (.ref a0w) = true)
  (a8h : PySem.W.nsIn K mainGlobals "LETTERS" = some (some (.str "abcdefghijklmnopqrstuvwxyz" t_LETTERS)))
  (a3h : PySem.W.nsIn K mainGlobals "MOST_LETTERS" = some (some (.int 8 t_MOST_LETTERS)))
  (a4t : PySem.W.nsIn K mainGlobals "MOST_PARTS" = some (some (.int 8 t_MOST_PARTS)))
  (b0q : PySem.W.nsIn K mainGlobals "READERS" = some (some (.ref a7z)))
  (ld_READERS : K.lookup a7z = some ⟨.type "dict", none, .dict es_READERS n_READERS, #[]⟩)
  (kd_READERS : PySem.W.KeysLit w.params es_READERS.toList)
  (nd_READERS : (a7z == sysModules) = false)
  : ∃ fd : FuncData, (∀ (s : Shared) (v : Value), BindsTo s fd ⟨[v], []⟩ [("_law_script", v)]) ∧ ∀ base : Heap, K.In base → base.Ns mainGlobals mg → a4n l.prog w K mg base CX0 6 fa fd ["_law_script"] (c0m 63 K) := by
 have e := hfa.symm.trans (PySem.W.mg_of X G a_law)
 cases e
 have a7i := a4i (st := a4j) l_Part_fresh b0j k_Part_fresh
 have a9s := a7i.binds (ps := ["self"]) fun _ _ _ _ _ _ us hl => match us, hl with | [_], _ => rfl
 have a8p := a4i (st := a4z) l_Gain_word b1t k_Gain_word
 have b1o := a8p.binds (ps := ["self"]) fun _ _ _ _ _ _ us hl => match us, hl with | [_], _ => rfl
 have a9t := a4i (st := a7y) l_part_of b5h k_part_of
 have b4t := a9t.binds (ps := ["word"]) fun _ _ _ _ _ _ us hl => match us, hl with | [_], _ => rfl
 have a8g := a4i (st := a5g) l_parts_of b3k k_parts_of
 have b3j := a8g.binds (ps := ["words"]) fun _ _ _ _ _ _ us hl => match us, hl with | [_], _ => rfl
 have a7j := a4i (st := a2u) l_Chain_init b0k k_Chain_init
 have a9u := a7j.binds (ps := ["self", "words"]) fun _ _ _ _ _ _ us hl => match us, hl with | [_, _], _ => rfl
 have a5y := a4i (st := a2n) l_Chain_words a8w k_Chain_words
 have a8q := a5y.binds (ps := ["self"]) fun _ _ _ _ _ _ us hl => match us, hl with | [_], _ => rfl
 have a9v := a4i (st := a6o) l_is_name b5i k_is_name
 have b4u := a9v.binds (ps := ["value"]) fun _ _ _ _ _ _ us hl => match us, hl with | [_], _ => rfl
 have a7k := a4i (st := a4k) l_Patch_init b0l k_Patch_init
 have a9w := a7k.binds (ps := ["self"]) fun _ _ _ _ _ _ us hl => match us, hl with | [_], _ => rfl
 have a3m := a4i (st := a1l) l_Patch_check_new a5m k_Patch_check_new
 have a3n := a3m.binds (ps := ["self", "name"]) fun _ _ _ _ _ _ us hl => match us, hl with | [_, _], _ => rfl
 have a5z := a4i (st := a3k) l_Patch_track a8y k_Patch_track
 have a8r := a5z.binds (ps := ["self", "name"]) fun _ _ _ _ _ _ us hl => match us, hl with | [_, _], _ => rfl
 have a8s := a4i (st := a5h) l_Patch_bus b1u k_Patch_bus
 have a8t := a8s.binds (ps := ["self", "name"]) fun _ _ _ _ _ _ us hl => match us, hl with | [_, _], _ => rfl
 have a7l := a4i (st := a4l) l_Patch_send b0m k_Patch_send
 have a9y := a7l.binds (ps := ["self", "source", "bus", "words"]) fun _ _ _ _ _ _ us hl => match us, hl with | [_, _, _, _], _ => rfl
 have a8u := a4i (st := a5i) l_Patch_way b1v k_Patch_way
 have b1p := a8u.binds (ps := ["self", "start", "end"]) fun _ _ _ _ _ _ us hl => match us, hl with | [_, _, _], _ => rfl
 have a6g := a4i (st := a2o) l_Patch_order a8z k_Patch_order
 have a6h := a6g.binds (ps := ["self"]) fun _ _ _ _ _ _ us hl => match us, hl with | [_], _ => rfl
 have a4s := a4i (st := a1z) l_Patch_is_next a6w k_Patch_is_next
 have a6t := a4s.binds (ps := ["self", "bus", "placed"]) fun _ _ _ _ _ _ us hl => match us, hl with | [_, _, _], _ => rfl
 have a1u := a4i (st := a3l) l_law_cell_at a9g k_law_cell_at
 have a3o := a1u.binds (ps := ["_law_script", "_law_k"]) fun _ _ _ _ _ _ us hl => match us, hl with | [_, _], _ => rfl
 have a6u := a4i (st := a3w) l_law_names b1w k_law_names
 have b1q := a6u.binds (ps := ["_law_cell"]) fun _ _ _ _ _ _ us hl => match us, hl with | [_], _ => rfl
 have a6v := a4i (st := a5j) l_law_leads b1y k_law_leads
 have b1r := a6v.binds (ps := ["_law_sends", "_law_first", "_law_last"]) fun _ _ _ _ _ _ us hl => match us, hl with | [_, _, _], _ => rfl
 have a2r := a4i (st := a1j) l_law_is_order a7u k_law_is_order
 have a5p := a2r.binds (ps := ["_law_buses", "_law_sends", "_law_order"]) fun _ _ _ _ _ _ us hl => match us, hl with | [_, _, _], _ => rfl
 have c9s := a4i (st := c3m) l_law d4v k_law
 have d9s := c9s.binds (ps := ["_law_script"]) fun _ _ _ _ _ _ us hl => match us, hl with | [_], _ => rfl
 have T : Tx K mg ⟨_, _, _, _, _, _, _, _, _, _, _, _, _, _, _, _, _, _, _, _, _, _, _, _, _, _, _, _, _, _, _, _, _, _, _, _, _, _, _, _, _, _, _, _, _, _, _, _, w⟩ := ⟨a7i, a9s, a8p, b1o, a9t, b4t, PySem.W.mg_of X G a_part_of, a8g, b3j, PySem.W.mg_of X G a_parts_of, a7j, a9u, a5y, a8q, a9v, b4u, PySem.W.mg_of X G a_is_name, a7k, a9w, a3m, a3n, a5z, a8r, a8s, a8t, a7l, a9y, a8u, b1p, a6g, a6h, a4s, a6t, a1u, a3o, PySem.W.mg_of X G a_law_cell_at, a6u, b1q, PySem.W.mg_of X G a_law_names, a6v, b1r, PySem.W.mg_of X G a_law_leads, a2r, a5p, PySem.W.mg_of X G a_law_is_order, c9s, d9s, PySem.W.mg_of X G a_law, PySem.W.mg_none_of X G c7k, PySem.W.mg_none_of X G c7l, PySem.W.mg_none_of X G a3g, PySem.W.mg_none_of X G b1s, PySem.W.mg_none_of X G b6g, PySem.W.mg_none_of X G a9z, PySem.W.mg_none_of X G c7m, PySem.W.mg_of X G b6u, PySem.W.mg_of X G b6v, PySem.W.mg_of X G b2r, PySem.W.mg_of X G b2s, ⟨cl_Patch_pg, cl_Patch_hd, cl_Patch_po, cl_Patch_sa⟩, a0g, a0i, a0h, a0j, ⟨mk_Patch_ma, a_Patch_init, me_Patch___init___fn, mk_Patch_kp⟩, ⟨a_Patch_check_new, me_Patch_check_new_fn, k_Patch_check_new⟩, ⟨a_Patch_track, me_Patch_track_fn, k_Patch_track⟩, ⟨a_Patch_bus, me_Patch_bus_fn, k_Patch_bus⟩, ⟨a_Patch_send, me_Patch_send_fn, k_Patch_send⟩, ⟨a_Patch_way, me_Patch_way_fn, k_Patch_way⟩, ⟨a_Patch_order, me_Patch_order_fn, k_Patch_order⟩, ⟨a_Patch_is_next, me_Patch_is_next_fn, k_Patch_is_next⟩, ⟨cl_Chain_pg, cl_Chain_hd, cl_Chain_po, cl_Chain_sa⟩, a0v, a0s, ⟨mk_Chain_ma, a_Chain_init, me_Chain___init___fn, mk_Chain_kp⟩, ⟨a_Chain_words, me_Chain_words_fn, k_Chain_words⟩, ⟨cl_Part_pg, cl_Part_hd, cl_Part_po, cl_Part_sa⟩, ⟨a_Part_fresh, me_Part_fresh_fn, k_Part_fresh⟩, ⟨cl_Gain_pg, cl_Gain_hd, cl_Gain_po, cl_Gain_sa⟩, a7n, ⟨a_Gain_word, me_Gain_word_fn, k_Gain_word⟩, ⟨me_Gain_fresh_at, me_Gain_fresh_fn, k_Part_fresh⟩, PySem.W.mg_of X G a8h, ⟨_, rfl⟩, PySem.W.mg_of X G a3h, ⟨_, rfl⟩, PySem.W.mg_of X G a4t, ⟨_, rfl⟩, PySem.W.mg_of X G b0q, ⟨⟨_, _, ld_READERS, kd_READERS⟩, nd_READERS⟩⟩
 exact ⟨_, fun s v => .of_eq rfl, fun base _ _ => f0r T⟩
end My
namespace PySem.W.Fast
theorem tw12215266459783306113:True:=trivial
theorem tw18146242906454730641:True:=trivial
theorem tw2801713199128762584:True:=trivial
theorem tw13599304670645372633:True:=trivial
theorem tw7174248436874233222:True:=trivial
theorem tw11913957006987423898:True:=trivial
theorem tw3692374906218816485:True:=trivial
theorem tw9667001416456756786:True:=trivial
theorem tw10119129226899186373:True:=trivial
theorem tw16098824351664502453:True:=trivial
theorem tw9596124035376624969:True:=trivial
theorem tw2054437542833430420:True:=trivial
theorem tw17106681845092409035:True:=trivial
theorem tw6551192773275880216:True:=trivial
theorem tw12751823051475954658:True:=trivial
theorem tw3599635009587071489:True:=trivial
theorem tw10265828471829815699:True:=trivial
theorem tw5276152096276401562:True:=trivial
theorem tw2298053760549672975:True:=trivial
theorem tw13327869837725525563:True:=trivial
theorem tw4257375974780513783:True:=trivial
theorem tw8929177515581610623:True:=trivial
theorem tw11732867779757245478:True:=trivial
theorem tw12338812076849784466:True:=trivial
theorem tw13670232007470959461:True:=trivial
theorem tw2759870209302948331:True:=trivial
theorem tw13600029811879272458:True:=trivial
theorem tw10998280754762061765:True:=trivial
theorem tw12427380824639818189:True:=trivial
theorem tw2794236087176563503:True:=trivial
theorem tw5963351542488006801:True:=trivial
theorem tw15309938935969307159:True:=trivial
theorem tw10360719540530658267:True:=trivial
theorem tw7645602191995917492:True:=trivial
theorem tw1628017961994936178:True:=trivial
theorem tw8497012932712773796:True:=trivial
theorem tw10966061029468787049:True:=trivial
theorem tw15333981688155205270:True:=trivial
theorem tw4626830368860853901:True:=trivial
theorem tw8023474701445393151:True:=trivial
theorem tw3012732320079600186:True:=trivial
theorem tw2227271595988140378:True:=trivial
theorem tw8374132965360210718:True:=trivial
theorem tw5399235647170926885:True:=trivial
theorem tw1163667405749411586:True:=trivial
theorem tw2615971803925080850:True:=trivial
theorem tw4140858519268584236:True:=trivial
theorem tw10398667316819454354:True:=trivial
theorem tw16759285859682133786:True:=trivial
theorem tw13106542604170452256:True:=trivial
theorem tw16286070805804078921:True:=trivial
theorem tw8559013245058637743:True:=trivial
theorem tw10278058588021441110:True:=trivial
theorem tw15631175789995741883:True:=trivial
theorem tw3840602319189157458:True:=trivial
theorem tw12919819861045924983:True:=trivial
theorem tw17512359021090826059:True:=trivial
theorem tw14080206743765577779:True:=trivial
theorem tw10371276746790173514:True:=trivial
theorem tw7047731051218800822:True:=trivial
theorem tw16987044565347472428:True:=trivial
theorem tw18415098558339268992:True:=trivial
theorem tw10918415858216402970:True:=trivial
theorem tw3404009666750035037:True:=trivial
theorem tw15680634382611777458:True:=trivial
theorem tw13341308460564551159:True:=trivial
theorem tw14255680282301613164:True:=trivial
theorem tw10014567793606572684:True:=trivial
theorem tw6732635369678559690:True:=trivial
theorem tw9302462741120437573:True:=trivial
theorem tw908458171119127156:True:=trivial
theorem tw9657746058909553615:True:=trivial
theorem tw16789204210143147140:True:=trivial
theorem tw3602256093446028884:True:=trivial
theorem tw18410079137793377970:True:=trivial
theorem tw3294207259863662749:True:=trivial
theorem tw11476204941744103889:True:=trivial
theorem tw18383926806713938215:True:=trivial
theorem tw9205894249810516934:True:=trivial
theorem tw872321455410666436:True:=trivial
theorem tw8741315346860003015:True:=trivial
theorem tw17772025271734169714:True:=trivial
theorem tw7266307672491803338:True:=trivial
theorem tw11882220175581796833:True:=trivial
theorem tw7950202551027974709:True:=trivial
theorem tw14838458244970123089:True:=trivial
theorem tw5287174448706253959:True:=trivial
theorem tw3801739955102972720:True:=trivial
theorem tw17662364746002571180:True:=trivial
theorem tw18318842362959524684:True:=trivial
theorem tw3233829841183949959:True:=trivial
theorem tw11301712117782900832:True:=trivial
theorem tw9996934465644154568:True:=trivial
theorem tw5019743718240726697:True:=trivial
theorem tw17730870700999304794:True:=trivial
theorem tw5707610379871638078:True:=trivial
theorem tw9633627498347534938:True:=trivial
theorem tw9358582503972013034:True:=trivial
theorem tw44070222036576435:True:=trivial
theorem tw5259548035008930812:True:=trivial
theorem tw12821015343251200440:True:=trivial
theorem tw7823764024079553641:True:=trivial
theorem tw14797689128079251316:True:=trivial
theorem tw6076114225212786548:True:=trivial
theorem tw17597115512655300285:True:=trivial
theorem tw15556359405552300013:True:=trivial
theorem tw65259437360978317:True:=trivial
theorem tw8232231530839409931:True:=trivial
theorem tw2786494233650515666:True:=trivial
theorem tw11340373255628233124:True:=trivial
theorem tw15060615074344272824:True:=trivial
theorem tw737030798962645407:True:=trivial
theorem tw11565300689072711481:True:=trivial
theorem tw9295585995978770641:True:=trivial
theorem tw12259982922831734621:True:=trivial
theorem tw3989045345919619596:True:=trivial
theorem tw17693026582870304125:True:=trivial
theorem tw18245918332582155296:True:=trivial
theorem tw15246346968854968132:True:=trivial
theorem tw1537583883967168942:True:=trivial
theorem tw4270374845270128454:True:=trivial
theorem tw8028801170178794434:True:=trivial
theorem tw10942065021011218262:True:=trivial
theorem tw12296716412251245861:True:=trivial
theorem tw9441940787875906930:True:=trivial
theorem tw17904775058037435153:True:=trivial
theorem tw9206832281393834145:True:=trivial
theorem tw10037845950879498583:True:=trivial
theorem tw16210011162227174952:True:=trivial
theorem tw2527495550462112807:True:=trivial
theorem tw3222501683467230408:True:=trivial
theorem tw18063327712849473051:True:=trivial
theorem tw8912986362582887446:True:=trivial
theorem tw9390741788215098343:True:=trivial
theorem tw13717577403230621108:True:=trivial
theorem tw11772107915475695343:True:=trivial
theorem tw5003685257075723733:True:=trivial
theorem tw819077193972774851:True:=trivial
theorem tw8281598714313904746:True:=trivial
theorem tw4952034016874301548:True:=trivial
theorem tw11688250453279489282:True:=trivial
theorem tw14770611201124738800:True:=trivial
theorem tw5094169415904435597:True:=trivial
theorem tw7402587772731347858:True:=trivial
theorem tw11850048296058796559:True:=trivial
theorem tw12652263966110713400:True:=trivial
theorem tw2684918130639903035:True:=trivial
theorem tw9656283395987858358:True:=trivial
theorem tw2256693997808785043:True:=trivial
theorem tw12704748369202509853:True:=trivial
theorem tw3084283645074065087:True:=trivial
theorem tw10570710221085645028:True:=trivial
theorem tw8798211582468381580:True:=trivial
theorem tw18031788591551047876:True:=trivial
theorem tw6979918570462639589:True:=trivial
theorem tw12826714512796660401:True:=trivial
theorem tw13892761430610797127:True:=trivial
theorem tw9157860993694035523:True:=trivial
theorem tw7705144680850540509:True:=trivial
theorem tw1654168402628195670:True:=trivial
theorem tw2269076735386134299:True:=trivial
theorem tw7836636169292087281:True:=trivial
theorem tw17375274253082553973:True:=trivial
theorem tw4632547703160702134:True:=trivial
theorem tw12561296780169880326:True:=trivial
theorem tw13968620425210252468:True:=trivial
theorem tw2809953743692349064:True:=trivial
theorem tw16633008274687815385:True:=trivial
theorem tw9606079763453804497:True:=trivial
theorem tw17993814136757948458:True:=trivial
theorem tw15127395803490292044:True:=trivial
theorem tw9099635693042129611:True:=trivial
theorem tw8266622634113994592:True:=trivial
theorem tw6762517368215759060:True:=trivial
theorem tw17115645841076795184:True:=trivial
theorem tw16826718167367719938:True:=trivial
theorem tw15029081235455896705:True:=trivial
theorem tw14224521142884473214:True:=trivial
theorem tw1923100559786926090:True:=trivial
theorem tw11119931020221741453:True:=trivial
theorem tw4875173388578834366:True:=trivial
theorem tw8374608576649008111:True:=trivial
theorem tw10982881183351051189:True:=trivial
theorem tw2264459868561222139:True:=trivial
theorem tw10083179241271160196:True:=trivial
theorem tw17537027007262759669:True:=trivial
theorem tw7127671322069945850:True:=trivial
theorem tw3504164416131783069:True:=trivial
theorem tw15615962991282482806:True:=trivial
theorem tw13982113695964484733:True:=trivial
theorem tw2455416710044750537:True:=trivial
theorem tw16509755881813336862:True:=trivial
theorem tw10829764698387089324:True:=trivial
theorem tw625483898682733517:True:=trivial
theorem tw13507383711480596733:True:=trivial
theorem tw11816408031002468196:True:=trivial
theorem tw7319669181462213939:True:=trivial
theorem tw9807575471011799017:True:=trivial
theorem tw481593599454562414:True:=trivial
theorem tw5040859495977925071:True:=trivial
theorem tw14395853150807543491:True:=trivial
theorem tw8800479867475155785:True:=trivial
theorem tw7730362521537049913:True:=trivial
theorem tw5966736919694888553:True:=trivial
theorem tw5587064164465656358:True:=trivial
theorem tw5601799555276927891:True:=trivial
theorem tw87309517430795867:True:=trivial
theorem tw3839269542331796181:True:=trivial
theorem tw17817745203264762897:True:=trivial
theorem tw12215093530682123609:True:=trivial
theorem tw5139180536793610254:True:=trivial
theorem tw6831657708677685282:True:=trivial
theorem tw8661540280967617888:True:=trivial
theorem tw15812124408471186608:True:=trivial
theorem tw9804295928722100646:True:=trivial
theorem tw12112515890702647080:True:=trivial
theorem tw3236765135176754437:True:=trivial
theorem tw10848917194119459412:True:=trivial
theorem tw5413767492290246809:True:=trivial
theorem tw15443972033332666430:True:=trivial
theorem tw5367564841461337425:True:=trivial
theorem tw11417878952076709226:True:=trivial
theorem tw6886357849355538567:True:=trivial
theorem tw11277041743922972668:True:=trivial
theorem tw114092768632864742:True:=trivial
theorem tw7654813309331288635:True:=trivial
theorem tw16619930073062770959:True:=trivial
theorem tw7166125043071165060:True:=trivial
theorem tw12690999081866532613:True:=trivial
theorem tw10230104048331101839:True:=trivial
theorem tw8117589958495289499:True:=trivial
theorem tw7673038617420124656:True:=trivial
theorem tw10449364505837682649:True:=trivial
theorem tw1659250202179011719:True:=trivial
theorem tw6034134857415129043:True:=trivial
theorem tw17744531642131481764:True:=trivial
theorem tw11772348135584670647:True:=trivial
theorem tw2096348126223163113:True:=trivial
theorem tw10409190685764775435:True:=trivial
theorem tw11478399234994790387:True:=trivial
theorem tw3917299590418296953:True:=trivial
theorem tw10019935253143017309:True:=trivial
theorem tw10008097590745219558:True:=trivial
theorem tw8003037768198831428:True:=trivial
theorem tw879980553266276926:True:=trivial
theorem tw12468945304647857582:True:=trivial
theorem tw6751454558902089263:True:=trivial
theorem tw7754677361809471068:True:=trivial
theorem tw14254379601165115786:True:=trivial
theorem tw7405284625384632932:True:=trivial
theorem tw13703205418046708294:True:=trivial
theorem tw14351710386926705310:True:=trivial
theorem tw16082873256628606642:True:=trivial
theorem tw16853334202445673546:True:=trivial
theorem tw7837931797462726808:True:=trivial
theorem tw13000427448675495192:True:=trivial
theorem tw17639010430794773733:True:=trivial
theorem tw13643518817372509935:True:=trivial
theorem tw8565936994515591667:True:=trivial
theorem tw14665506681500761849:True:=trivial
theorem tw12077546603200734584:True:=trivial
theorem tw5140945496911661152:True:=trivial
theorem tw12934484853841787458:True:=trivial
theorem tw15810617779359223877:True:=trivial
theorem tw11129533786279516184:True:=trivial
theorem tw2044918047863132956:True:=trivial
theorem tw18445804523530165895:True:=trivial
theorem tw12776532178011002425:True:=trivial
theorem tw8996585827756141053:True:=trivial
theorem tw17323930066662023111:True:=trivial
theorem tw16333279922351872107:True:=trivial
theorem tw17959560830635456861:True:=trivial
theorem tw15733528594848931111:True:=trivial
theorem tw8414455481896645462:True:=trivial
theorem tw8866420276516043543:True:=trivial
theorem tw17103270409283314890:True:=trivial
theorem tw7390914203418922059:True:=trivial
theorem tw8301160909792072763:True:=trivial
theorem tw2939100176022070907:True:=trivial
theorem tw4330357493807340235:True:=trivial
theorem tw6139691642701991033:True:=trivial
theorem tw2315286986892361147:True:=trivial
theorem tw5574786153634841233:True:=trivial
theorem tw1904049864016966255:True:=trivial
theorem tw14823300785132072901:True:=trivial
theorem tw4910166652783927472:True:=trivial
theorem tw15051657351327693983:True:=trivial
theorem tw9653162087922754843:True:=trivial
theorem tw4300652963738596485:True:=trivial
theorem tw2785188487084083431:True:=trivial
theorem tw16158483320131995388:True:=trivial
theorem tw12739257119166607491:True:=trivial
theorem tw17558389198400914997:True:=trivial
theorem tw4994117414380749875:True:=trivial
theorem tw16206216441254677982:True:=trivial
theorem tw2535115089425293309:True:=trivial
theorem tw8690941888914689823:True:=trivial
theorem tw10094512331691836731:True:=trivial
theorem tw14515438954814851503:True:=trivial
theorem tw5531762133496013464:True:=trivial
theorem tw17515688375355671450:True:=trivial
theorem tw15694932487349122522:True:=trivial
theorem tw14374608295680659552:True:=trivial
theorem tw14187183646781795959:True:=trivial
theorem tw17046693205277333070:True:=trivial
theorem tw14826161383234918558:True:=trivial
theorem tw3261151657281314824:True:=trivial
theorem tw10416086539979865157:True:=trivial
theorem tw17875709597749946360:True:=trivial
theorem tw17085409506940710619:True:=trivial
theorem tw454760062720610047:True:=trivial
theorem tw10357388008331912052:True:=trivial
theorem tw11413952182060873010:True:=trivial
theorem tw5750432251008680018:True:=trivial
theorem tw6321776585948319463:True:=trivial
theorem tw10578447702449080573:True:=trivial
theorem tw15920271327047625883:True:=trivial
theorem tw4505445879013769433:True:=trivial
theorem tw12753468071669915490:True:=trivial
theorem tw16165502027509263572:True:=trivial
theorem tw11286448347335486915:True:=trivial
theorem tw16758172492185651937:True:=trivial
theorem tw1999582317730123792:True:=trivial
theorem tw5859927777170485208:True:=trivial
theorem tw18227394994286351558:True:=trivial
theorem tw8456961250165528530:True:=trivial
theorem tw7834385150356418412:True:=trivial
theorem tw14625637080720179512:True:=trivial
theorem tw3742012708227686052:True:=trivial
theorem tw17634404271499514649:True:=trivial
theorem tw17989771274430447376:True:=trivial
theorem tw121477598132422003:True:=trivial
theorem tw1423135707456330321:True:=trivial
theorem tw9887844894769644423:True:=trivial
theorem tw6241395357963377159:True:=trivial
theorem tw4137528615815092054:True:=trivial
theorem tw4644744465855109407:True:=trivial
theorem tw6495058617163661988:True:=trivial
theorem tw3077516969223753876:True:=trivial
theorem tw2722431279436252034:True:=trivial
theorem tw4706429959033522800:True:=trivial
theorem tw14516710526692925580:True:=trivial
theorem tw14535616786151531066:True:=trivial
theorem tw13340933644980703269:True:=trivial
theorem tw7390577878493830958:True:=trivial
theorem tw15464703567427185026:True:=trivial
theorem tw907701299744682626:True:=trivial
theorem tw4946519639558599683:True:=trivial
theorem tw552766686520743126:True:=trivial
theorem tw17109703953397261721:True:=trivial
theorem tw12108828779216732679:True:=trivial
theorem tw12393879740222538860:True:=trivial
theorem tw11881888879732248414:True:=trivial
theorem tw9737181969897392300:True:=trivial
theorem tw4076707077072002796:True:=trivial
theorem tw3969398307382855933:True:=trivial
theorem tw9996157074411746392:True:=trivial
theorem tw18411091143061489162:True:=trivial
theorem tw8191528248945145087:True:=trivial
theorem tw4717918594944878904:True:=trivial
theorem tw12634877353503272844:True:=trivial
theorem tw1946016497685958850:True:=trivial
theorem tw3395732749264252673:True:=trivial
theorem tw11430193943619720402:True:=trivial
theorem tw5038661459701550467:True:=trivial
theorem tw28082857085734789:True:=trivial
theorem tw14296814467457674783:True:=trivial
theorem tw17812976077346403782:True:=trivial
theorem tw7660456935386423741:True:=trivial
theorem tw12937878974640995531:True:=trivial
theorem tw10173247675319799360:True:=trivial
theorem tw1222662055138169776:True:=trivial
theorem tw8353188962747143919:True:=trivial
theorem tw9683935574582502790:True:=trivial
theorem tw2001476492196738279:True:=trivial
theorem tw10296478801038192341:True:=trivial
theorem tw15810755976240569256:True:=trivial
theorem tw11300979814020627775:True:=trivial
theorem tw5288405785910746059:True:=trivial
theorem tw7517664471717249323:True:=trivial
theorem tw6403097183860931202:True:=trivial
theorem tw11702207505443402118:True:=trivial
theorem tw11259749208692340249:True:=trivial
theorem tw9418707439868863583:True:=trivial
theorem tw320192114509990200:True:=trivial
theorem tw12473487389893537593:True:=trivial
theorem tw14058664040164822043:True:=trivial
theorem tw17298163035632740546:True:=trivial
theorem tw13966090169601216833:True:=trivial
theorem tw17874027022747147825:True:=trivial
theorem tw10004771376471269599:True:=trivial
theorem tw3840032058809952210:True:=trivial
theorem tw1453212102973091408:True:=trivial
theorem tw9474474924837697347:True:=trivial
theorem tw9690911822279968917:True:=trivial
theorem tw5787217194564976040:True:=trivial
theorem tw18235498058644081111:True:=trivial
theorem tw10797555584465974602:True:=trivial
theorem tw6523130294137176856:True:=trivial
theorem tw963532989340506146:True:=trivial
end PySem.W.Fast
open PySem PySem.W PyProof.Rows
set_option maxRecDepth 100000 in
set_option maxHeartbeats 0 in
theorem PySem.Challenge.cw_mixbench_k54_whole_order_holds : PySem.Challenge.rw_mixbench_k54_whole_order.Holds := by
 w_on; o_law; k_head; (case hw => w_witness2)
 k_fill
 refine L2.c8w (l := PySem.Challenge.rw_mixbench_k54_whole_order) (k := 6) (x := "_law_script") (CX := fun _ => L2.CX0) rfl rfl ⟨rfl, by decide, by decide⟩ (fun w h Y => PySem.W.kIn_of Y) ?F (fun _ _ _ _ _ z => z)
 case F =>
  intro w mg fa h KX G hmg
  refine' My.all_mk KX G hmg ?b6u ?b6v ?b2r ?b2s ?a_Part_fresh ?l_Part_fresh ?b0j ?k_Part_fresh ?a_Gain_word ?l_Gain_word ?b1t ?k_Gain_word ?a_part_of ?l_part_of ?b5h ?k_part_of ?a_parts_of ?l_parts_of ?b3k ?k_parts_of ?a_Chain_init ?l_Chain_init ?b0k ?k_Chain_init ?a_Chain_words ?l_Chain_words ?a8w ?k_Chain_words ?a_is_name ?l_is_name ?b5i ?k_is_name ?a_Patch_init ?l_Patch_init ?b0l ?k_Patch_init ?a_Patch_check_new ?l_Patch_check_new ?a5m ?k_Patch_check_new ?a_Patch_track ?l_Patch_track ?a8y ?k_Patch_track ?a_Patch_bus ?l_Patch_bus ?b1u ?k_Patch_bus ?a_Patch_send ?l_Patch_send ?b0m ?k_Patch_send ?a_Patch_way ?l_Patch_way ?b1v ?k_Patch_way ?a_Patch_order ?l_Patch_order ?a8z ?k_Patch_order ?a_Patch_is_next ?l_Patch_is_next ?a6w ?k_Patch_is_next ?a_law_cell_at ?l_law_cell_at ?a9g ?k_law_cell_at ?a_law_names ?l_law_names ?b1w ?k_law_names ?a_law_leads ?l_law_leads ?b1y ?k_law_leads ?a_law_is_order ?l_law_is_order ?a7u ?k_law_is_order ?a_law ?l_law ?d4v ?k_law ?c7k ?c7l ?a3g ?b1s ?b6g ?a9z ?c7m ?cl_Patch_pg ?cl_Patch_hd ?cl_Patch_po ?cl_Patch_sa ?a0g ?a0i ?a0h ?a0j ?me_Patch___init___fn ?mk_Patch_ma ?mk_Patch_kp ?me_Patch_check_new_fn ?me_Patch_track_fn ?me_Patch_bus_fn ?me_Patch_send_fn ?me_Patch_way_fn ?me_Patch_order_fn ?me_Patch_is_next_fn ?cl_Chain_pg ?cl_Chain_hd ?cl_Chain_po ?cl_Chain_sa ?a0v ?a0s ?me_Chain___init___fn ?mk_Chain_ma ?mk_Chain_kp ?me_Chain_words_fn ?cl_Part_pg ?cl_Part_hd ?cl_Part_po ?cl_Part_sa ?me_Part_fresh_fn ?cl_Gain_pg ?cl_Gain_hd ?cl_Gain_po ?cl_Gain_sa ?a7n ?me_Gain_word_fn ?me_Gain_fresh_at ?me_Gain_fresh_fn ?a8h ?a3h ?a4t ?b0q ?ld_READERS ?kd_READERS ?nd_READERS
  (case b6u => k_is)
  (case b6v => k_is)
  (case b2r => k_is)
  (case b2s => k_is)
  (case a_Part_fresh => k_is)
  (case l_Part_fresh => k_is)
  (case b0j => k_is)
  (case k_Part_fresh => k_is)
  (case a_Gain_word => k_is)
  (case l_Gain_word => k_is)
  (case b1t => k_is)
  (case k_Gain_word => k_is)
  (case a_part_of => k_is)
  (case l_part_of => k_is)
  (case b5h => k_is)
  (case k_part_of => k_is)
  (case a_parts_of => k_is)
  (case l_parts_of => k_is)
  (case b3k => k_is)
  (case k_parts_of => k_is)
  (case a_Chain_init => k_is)
  (case l_Chain_init => k_is)
  (case b0k => k_is)
  (case k_Chain_init => k_is)
  (case a_Chain_words => k_is)
  (case l_Chain_words => k_is)
  (case a8w => k_is)
  (case k_Chain_words => k_is)
  (case a_is_name => k_is)
  (case l_is_name => k_is)
  (case b5i => k_is)
  (case k_is_name => k_is)
  (case a_Patch_init => k_is)
  (case l_Patch_init => k_is)
  (case b0l => k_is)
  (case k_Patch_init => k_is)
  (case a_Patch_check_new => k_is)
  (case l_Patch_check_new => k_is)
  (case a5m => k_is)
  (case k_Patch_check_new => k_is)
  (case a_Patch_track => k_is)
  (case l_Patch_track => k_is)
  (case a8y => k_is)
  (case k_Patch_track => k_is)
  (case a_Patch_bus => k_is)
  (case l_Patch_bus => k_is)
  (case b1u => k_is)
  (case k_Patch_bus => k_is)
  (case a_Patch_send => k_is)
  (case l_Patch_send => k_is)
  (case b0m => k_is)
  (case k_Patch_send => k_is)
  (case a_Patch_way => k_is)
  (case l_Patch_way => k_is)
  (case b1v => k_is)
  (case k_Patch_way => k_is)
  (case a_Patch_order => k_is)
  (case l_Patch_order => k_is)
  (case a8z => k_is)
  (case k_Patch_order => k_is)
  (case a_Patch_is_next => k_is)
  (case l_Patch_is_next => k_is)
  (case a6w => k_is)
  (case k_Patch_is_next => k_is)
  (case a_law_cell_at => k_is)
  (case l_law_cell_at => k_is)
  (case a9g => k_is)
  (case k_law_cell_at => k_is)
  (case a_law_names => k_is)
  (case l_law_names => k_is)
  (case b1w => k_is)
  (case k_law_names => k_is)
  (case a_law_leads => k_is)
  (case l_law_leads => k_is)
  (case b1y => k_is)
  (case k_law_leads => k_is)
  (case a_law_is_order => k_is)
  (case l_law_is_order => k_is)
  (case a7u => k_is)
  (case k_law_is_order => k_is)
  (case a_law => k_is)
  (case l_law => k_is)
  (case d4v => k_is)
  (case k_law => k_is)
  (case c7k => k_is)
  (case c7l => k_is)
  (case a3g => k_is)
  (case b1s => k_is)
  (case b6g => k_is)
  (case a9z => k_is)
  (case c7m => k_is)
  (case cl_Patch_pg => k_is)
  (case cl_Patch_hd => k_is)
  (case cl_Patch_po => k_is)
  (case cl_Patch_sa => k_is)
  (case a0g => k_is)
  (case a0i => k_is)
  (case a0h => k_is)
  (case a0j => k_is)
  (case me_Patch___init___fn => k_is)
  (case mk_Patch_ma => k_is)
  (case mk_Patch_kp => k_is)
  (case me_Patch_check_new_fn => k_is)
  (case me_Patch_track_fn => k_is)
  (case me_Patch_bus_fn => k_is)
  (case me_Patch_send_fn => k_is)
  (case me_Patch_way_fn => k_is)
  (case me_Patch_order_fn => k_is)
  (case me_Patch_is_next_fn => k_is)
  (case cl_Chain_pg => k_is)
  (case cl_Chain_hd => k_is)
  (case cl_Chain_po => k_is)
  (case cl_Chain_sa => k_is)
  (case a0v => k_is)
  (case a0s => k_is)
  (case me_Chain___init___fn => k_is)
  (case mk_Chain_ma => k_is)
  (case mk_Chain_kp => k_is)
  (case me_Chain_words_fn => k_is)
  (case cl_Part_pg => k_is)
  (case cl_Part_hd => k_is)
  (case cl_Part_po => k_is)
  (case cl_Part_sa => k_is)
  (case me_Part_fresh_fn => k_is)
  (case cl_Gain_pg => k_is)
  (case cl_Gain_hd => k_is)
  (case cl_Gain_po => k_is)
  (case cl_Gain_sa => k_is)
  (case a7n => k_is)
  (case me_Gain_word_fn => k_is)
  (case me_Gain_fresh_at => k_is)
  (case me_Gain_fresh_fn => k_is)
  (case a8h => k_is)
  (case a3h => k_is)
  (case a4t => k_is)
  (case b0q => k_is)
  (case ld_READERS => k_is)
  (case kd_READERS => k_keys)
  (case nd_READERS => decide)
