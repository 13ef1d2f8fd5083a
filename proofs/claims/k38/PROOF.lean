import PyProof.Rows.All
import Wide.All
import OpenK.AllK
import Wide.FinOn
import Lean
import PyProof.EqAt
import PyProof.EqKinds
import PyProof.TupleCall
import PySem.Challenge.RW_mixbench_k38_made_later
set_option Elab.async false
set_option linter.all false
set_option maxRecDepth 100000
namespace L2
open PySem PySem.Spec PyProof.Rows
noncomputable abbrev Key := Sum Int Str
noncomputable def i1v : Key -> Value -> Bool
 | .inl k, v => Value.isInt k v
 | .inr x, v => Value.isStrOf x v
noncomputable def keyH (w : World) : Key -> Int
 | .inl k => hashInt k
 | .inr x => hashStr w x
theorem a7t : ∀ {k : Key} {v : Value}, i1v k v = true -> (∃ i t, k = Sum.inl i /\ v = Value.int i t) \/ (∃ x t, k = Sum.inr x /\ v = Value.str x t)
 | .inl i, v, h => by
  obtain ⟨t, e⟩ := Value.isInt_shape (k := i) (v := v) h
  exact .inl ⟨i, t, rfl, e⟩
 | .inr x, v, h => by
  obtain ⟨t, e⟩ := Value.isStrOf_shape (x := x) (v := v) h
  exact .inr ⟨x, t, rfl, e⟩
theorem i1w (a b : Int) : decide ((Sum.inl a : Key) = Sum.inl b) = (a == b) := by
 by_cases e : a = b
 ·subst e; simp
 ·have h : ¬ (Sum.inl a : Key) = Sum.inl b := fun q => e (Sum.inl.inj q)
  rw [decide_eq_false h]
  exact (beq_eq_false_iff_ne.mpr e).symm
theorem i1x (a b : Str) : decide ((Sum.inr a : Key) = Sum.inr b) = decide (a = b) := by
 by_cases e : a = b
 ·subst e; simp
 ·have h : ¬ (Sum.inr a : Key) = Sum.inr b := fun q => e (Sum.inr.inj q)
  rw [decide_eq_false h, decide_eq_false e]
theorem i1y (a : Int) (b : Str) : decide ((Sum.inl a : Key) = Sum.inr b) = false := decide_eq_false (fun q => nomatch q)
theorem i2a (a : Str) (b : Int) : decide ((Sum.inr a : Key) = Sum.inl b) = false := decide_eq_false (fun q => nomatch q)
noncomputable def g7u (prog : Program) (w : World) : PySem.KeyKind prog w Key where
 is := i1v
 hash := keyH w
 inj := fun v a b ha hb => by
  rcases a7t ha with ⟨i, t, rfl, rfl⟩ | ⟨x, t, rfl, rfl⟩
  ·rcases a7t hb with ⟨j, u, rfl, e⟩ | ⟨y, u, rfl, e⟩
   ·injection e with e1 _; rw [e1]
   ·exact nomatch e
  ·rcases a7t hb with ⟨j, u, rfl, e⟩ | ⟨y, u, rfl, e⟩
   ·exact nomatch e
   ·injection e with e1 _; rw [e1]
 byValue := fun k v h => by
  rcases a7t h with ⟨i, t, rfl, rfl⟩ | ⟨x, t, rfl, rfl⟩ <;> rfl
 pyHash := fun hv h => by
  rcases a7t hv with ⟨i, t, rfl, rfl⟩ | ⟨x, t, rfl, rfl⟩
  ·exact wpAny_pyHash_int h
  ·exact wpAny_pyHash_str h
 eqBool := fun hu hv h => by
  rcases a7t hu with ⟨i, t, rfl, rfl⟩ | ⟨x, t, rfl, rfl⟩
  ·rcases a7t hv with ⟨j, u, rfl, rfl⟩ | ⟨y, u, rfl, rfl⟩
   ·rw [i1w] at h; exact wpAny_eqBool_int h
   ·rw [i1y] at h; exact SeqAt.EqAt.int_str i t y u _ _ _ _ h
  ·rcases a7t hv with ⟨j, u, rfl, rfl⟩ | ⟨y, u, rfl, rfl⟩
   ·rw [i2a] at h; exact SeqAt.EqAt.str_int x t j u _ _ _ _ h
   ·rw [i1x] at h; exact wpAny_eqBool_str h
 «strs» := fun k x t v h => by
  rcases a7t h with ⟨i, u, rfl, e⟩ | ⟨y, u, rfl, e⟩
  ·exact nomatch e
  ·injection e with e1 _
   subst e1
   cases v <;> rfl
end L2
namespace L2
open PySem PySem.Spec PyProof.Rows
inductive V where
 | non | bl (b : Bool) | int (i : Int) | str (x : Str) | byt (b : Array UInt8) | flt (b : UInt64) | ref (a : Addr) | ty (n : String)
 deriving DecidableEq
noncomputable def RelV : V -> Value -> Prop
 | .non, u => u = Value.none
 | .bl b, u => u = Value.bool b
 | .int i, u => ∃ t, u = Value.int i t
 | .str x, u => ∃ t, u = Value.str x t
 | .byt b, u => ∃ t, u = Value.bytes b t
 | .flt b, u => ∃ t, u = Value.float b t
 | .ref a, u => u = Value.ref a
 | .ty n, u => u = Value.type n
noncomputable abbrev Vals : List V -> List Value -> Prop := Paired RelV
theorem Vals.length {xs : List V} {us : List Value} (r : Vals xs us) : xs.length = us.length := Paired.length r
theorem Vals.get : ∀ {xs : List V} {us : List Value} {i : Nat} {x : V}, Vals xs us -> xs[i]? = some x -> ∃ u, us[i]? = some u /\ RelV x u
 | _, _, _, _, .nil, e => by simp at e
 | _, _, 0, _, .cons r _, e => by simp at e; subst e; exact ⟨_, rfl, r⟩
 | _, _, i + 1, x, .cons _ t, e => by
  obtain ⟨u, h1, h2⟩ := Vals.get (i := i) (x := x) t (by simpa using e)
  exact ⟨u, by simpa using h1, h2⟩
theorem Vals.set {x : V} {u : Value} (r : RelV x u) : ∀ {xs : List V} {us : List Value} (i : Nat), Vals xs us -> Vals (xs.set i x) (us.set i u)
 | _, _, _, .nil => .nil
 | _, _, 0, .cons _ t => .cons r t
 | _, _, i + 1, .cons q t => .cons q (Vals.set r i t)
theorem Vals.append : ∀ {xs ys : List V} {us ws : List Value}, Vals xs us -> Vals ys ws -> Vals (xs ++ ys) (us ++ ws)
 | _, _, _, _, .nil, s => s
 | _, _, _, _, .cons r t, s => .cons r (Vals.append t s)
theorem Vals.take : ∀ {xs : List V} {us : List Value} (n : Nat), Vals xs us -> Vals (xs.take n) (us.take n)
 | _, _, 0, _ => .nil
 | _, _, _ + 1, .nil => .nil
 | _, _, n + 1, .cons r t => .cons r (Vals.take n t)
theorem Vals.drop : ∀ {xs : List V} {us : List Value} (n : Nat), Vals xs us -> Vals (xs.drop n) (us.drop n)
 | _, _, 0, r => r
 | _, _, _ + 1, .nil => .nil
 | _, _, n + 1, .cons _ t => Vals.drop n t
theorem Vals.none_of : ∀ {xs : List V} {us : List Value} {i : Nat}, Vals xs us -> xs[i]? = none -> us[i]? = none := fun {xs us i} r e => by
 have h1 := r.length
 have h2 : xs.length <= i := List.getElem?_eq_none_iff.mp e
 exact List.getElem?_eq_none_iff.mpr (by omega)
noncomputable def g7t : Option V -> Option Value -> Prop
 | some v, some u => RelV v u
 | none, none => True
 | _, _ => False
noncomputable def KV {κ : Type} : List (κ × V) -> List (κ × Value) -> Prop := Paired fun (p : κ × V) (q : κ × Value) => p.1 = q.1 /\ RelV p.2 q.2
noncomputable def kV : Key -> V
 | .inl i => .int i
 | .inr x => .str x
inductive HO where
 /-- a list -/
 | lst (xs : List V)
 /-- a tuple (never changes) -/
 | tup (xs : List V)
 /-- a dict whose keys are ints and texts; one whose keys are tuples of ints and texts (the empty one is both) -/
 | dK (kvs : List (Key × V)) | dT (kvs : List (List Key × V))
 /-- a set of ints: its members, its size -/
 | set (S : Int -> Bool) (n : Nat)
 /-- an instance of the class at C, its dict at dx, its attributes -/
 | ins (C dx : Addr) (fs : List (Str × V))
 /-- the dict of the instance at x -/
 | own (x : Addr)
 /-- the dict of an exception -/
 | xd (fs : List (Str × V))
 /-- a bound method, f of x -/
 | met (f x : Addr)
 /-- a range object lo, lo + 1, .. below hi -/
 | rng (lo hi : Int)
 /-- a thing that is known to the object (the script; a dict while a loop walks it): read, never written while it is so -/
 | frz (o : Obj) (u : HO)
 /-- a code object's table -/
 | tbl (ps : Array Value)
 /-- any other thing, by what is true of its one object (a def of one's own: SetO a S n := HO.ext fun h => ..) -/
 | ext (φ : Heap -> Prop)
noncomputable abbrev Hp := Addr -> Option HO
noncomputable def upd (H : Hp) (a : Addr) (o : HO) : Hp := fun b => if b = a then some o else H b
theorem a5n {H : Hp} {a : Addr} {o : HO} : upd H a o a = some o := by unfold upd; rw [if_pos rfl]
theorem a4z {H : Hp} {a b : Addr} {o : HO} (h : b ≠ a) : upd H a o b = H b := by unfold upd; rw [if_neg h]
theorem a5p {H : Hp} {a b : Addr} {o : HO} (h : H a = some o) (h' : H b = none) : a ≠ b := by
 intro e; subst e; rw [h] at h'; cases h'
section
variable (P : Program) (w : World)
noncomputable def b8n (H : Hp) (h : Heap) (a : Addr) : HO -> Prop
 | .lst xs => xs.length ≤ sizeLine ∧ ∃ (its : List Value) (n : Nat), Vals xs its ∧ h.get? a = some { cls := .type "list", data := .seq its.toArray n }
 | .tup xs => xs.length <= sizeLine /\ ∃ its : List Value, Vals xs its /\ IsTup h a its.toArray
 | .dK kvs => kvs.length <= sizeLine /\ (a == sysModules) = false /\ ∃ vs, KV kvs vs /\ h.DictOf (g7u P w) a vs
 | .dT kvs => kvs.length <= sizeLine /\ (a == sysModules) = false /\ ∃ xs : List (List Key × Addr × Value),
   Paired (fun (p : List Key × V) (q : List Key × Addr × Value) => p.1 = q.1 /\ H q.2.1 = some (.tup (p.1.map kV)) /\ RelV p.2 q.2.2) kvs xs /\
   ∃ o es ep, h.get? a = some o /\ o.ExactDict /\ o.data = .dict es ep /\ es.toList = xs.map (entryOfKey (tupleKind (g7u P w))) /\ (xs.map (·.1)).Nodup
 | .set S n => h.SetOf (intKind P w) a S n
 | .ins C dx fs => H dx = some (.own a) /\ fs.length <= 1000 /\ dx ≠ a /\ h.get? a = some (PySem.W.instObj C dx) /\
   ∃ mA, h.Ns1 dx mA /\ (∀ f, g7t (fs.lookup f) (mA f)) /\ PySem.Within mA (fs.map (·.1))
 | .own _ => ∃ o, h.get? a = some o
 | .xd fs => ∃ mA, h.Ns1 a mA /\ ∀ f, g7t (fs.lookup f) (mA f)
 | .rng lo hi => ∃ t u v, h.get? a = some { cls := .type "range", data := .fields #[.int lo t, .int hi u, .int 1 v] }
 | .frz o u => h.get? a = some o /\ b8n H h a u
 | .tbl ps => h.get? a = some { cls := .none, data := .fields ps }
 | .met f x => h.get? a = some (PySem.W.methodObj (.ref f) (.ref x))
 | .ext φ => φ h /\ (∃ o, h.get? a = some o) /\ ∀ h1 h2 : Heap, φ h1 -> (∀ o, h1.get? a = some o -> h2.get? a = some o) -> φ h2
noncomputable def HOk (H : Hp) (h : Heap) : Prop := ∀ a o, H a = some o -> b8n P w H h a o
end
section
variable {P : Program} {w : World} {H H' : Hp} {h h' : Heap} {a : Addr} {o : HO}
theorem b8n.lt (x : b8n P w H h a o) : a < h.objs.size := by
 cases o with
 | lst xs => obtain ⟨_, _, _, _, e⟩ := x; exact Heap.lt_size e
 | tup xs => obtain ⟨_, _, _, p⟩ := x; exact p.lt
 | dK kvs => obtain ⟨_, _, _, _, o, _, _, e, _⟩ := x; exact Heap.lt_size e
 | dT kvs => obtain ⟨_, _, _, _, o, _, _, e, _⟩ := x; exact Heap.lt_size e
 | set S n => obtain ⟨o, _, _, _, e, _⟩ := x; exact Heap.lt_size e
 | ins C dx fs => obtain ⟨_, _, _, e, _⟩ := x; exact Heap.lt_size e
 | own y => obtain ⟨_, e⟩ := x; exact Heap.lt_size e
 | xd fs => obtain ⟨_, ⟨_, _, _, e, _⟩, _⟩ := x; exact Heap.lt_size e
 | rng lo hi => obtain ⟨_, _, _, e⟩ := x; exact Heap.lt_size e
 | frz ob u => obtain ⟨e, _⟩ := x; exact Heap.lt_size e
 | tbl ps => exact Heap.lt_size (show h.get? a = some _ from x)
 | met f y => exact Heap.lt_size (show h.get? a = some _ from x)
 | ext φ => obtain ⟨_, ⟨_, e⟩, _⟩ := x; exact Heap.lt_size e
theorem Paired.i7m {α β : Type} {F G : α -> β -> Prop} : ∀ {l₁ : List α} {l₂ : List β}, Paired F l₁ l₂ -> (∀ a b, F a b -> G a b) -> Paired G l₁ l₂
 | _, _, .nil, _ => .nil
 | _, _, .cons r t, f => .cons (f _ _ r) (Paired.i7m t f)
theorem b8n.stay (x : b8n P w H h a o) (k : ∀ b u, (b = a \/ H b = some (.own a)) -> h.get? b = some u -> h'.get? b = some u)
  (ho : ∀ b, H b = some (.own a) -> H' b = some (.own a)) (ht : ∀ b xs, H b = some (.tup xs) -> H' b = some (.tup xs)) : b8n P w H' h' a o := by
 induction o with
 | lst xs => obtain ⟨z, its, n, r, e⟩ := x; exact ⟨z, its, n, r, k _ _ (.inl rfl) e⟩
 | tup xs => obtain ⟨z, its, r, ob, e, c⟩ := x; exact ⟨z, its, r, ob, k _ _ (.inl rfl) e, c⟩
 | dK kvs => obtain ⟨z, y, vs, r, ob, es, ep, e, c⟩ := x; exact ⟨z, y, vs, r, ob, es, ep, k _ _ (.inl rfl) e, c⟩
 | dT kvs =>
  obtain ⟨z, y, xs, r, ob, es, ep, e, c⟩ := x
  exact ⟨z, y, xs, Paired.i7m r fun p q z => ⟨z.1, ht _ _ z.2.1, z.2.2⟩, ob, es, ep, k _ _ (.inl rfl) e, c⟩
 | set S n => obtain ⟨ob, es, ep, t, e, c⟩ := x; exact ⟨ob, es, ep, t, k _ _ (.inl rfl) e, c⟩
 | ins C dx fs =>
  obtain ⟨d, z, ne, e, mA, ⟨od, es, ep, e2, c⟩, r⟩ := x
  exact ⟨ho _ d, z, ne, k _ _ (.inl rfl) e, mA, ⟨od, es, ep, k _ _ (.inr d) e2, c⟩, r⟩
 | own y => obtain ⟨ob, e⟩ := x; exact ⟨ob, k _ _ (.inl rfl) e⟩
 | xd fs => obtain ⟨mA, ⟨od, es, ep, e, c⟩, r⟩ := x; exact ⟨mA, ⟨od, es, ep, k _ _ (.inl rfl) e, c⟩, r⟩
 | rng lo hi => obtain ⟨t, u, v, e⟩ := x; exact ⟨t, u, v, k _ _ (.inl rfl) e⟩
 | frz ob u ih => obtain ⟨e, q⟩ := x; exact ⟨k _ _ (.inl rfl) e, ih q⟩
 | tbl ps =>
  have e : h.get? a = some { cls := .none, data := .fields ps } := x
  show h'.get? a = some { cls := .none, data := .fields ps }
  exact k a _ (.inl rfl) e
 | met f y =>
  have e : h.get? a = some (PySem.W.methodObj (.ref f) (.ref y)) := x
  show h'.get? a = some (PySem.W.methodObj (.ref f) (.ref y))
  exact k a _ (.inl rfl) e
 | ext φ => obtain ⟨p, ⟨o, e⟩, st⟩ := x; exact ⟨st _ _ p fun o q => k _ _ (.inl rfl) q, ⟨o, k _ _ (.inl rfl) e⟩, st⟩
theorem HOk.lt (x : HOk P w H h) (e : H a = some o) : a < h.objs.size := (x a o e).lt
theorem HOk.fresh (x : HOk P w H h) (e : h.objs.size <= a) : H a = none := by
 cases q : H a with
 | none => rfl
 | some u => exact absurd (Nat.lt_of_lt_of_le (x.lt q) e) (Nat.lt_irrefl _)
theorem HOk.kept (x : HOk P w H h) (k : ∀ b u, h.get? b = some u -> h'.get? b = some u) : HOk P w H h' := fun a o e =>
 (x a o e).stay (fun b u _ q => k b u q) (fun _ q => q) fun _ _ q => q
theorem HOk.laid (x : HOk P w H h) (k : ∀ b u, h.get? b = some u -> h'.get? b = some u) (hp : h.objs.size <= a) (new : b8n P w (upd H a o) h' a o) : HOk P w (upd H a o) h' := fun b u e => by
 have hn := x.fresh hp
 by_cases hb : b = a
 ·subst hb; rw [a5n] at e; cases e; exact new
 ·rw [a4z hb] at e
  exact (x b u e).stay (fun c v _ q => k c v q) (fun c q => by rw [a4z (a5p q hn)]; exact q) fun c xs q => by rw [a4z (a5p q hn)]; exact q
end
noncomputable def Rd (H : Hp) (a : Addr) (u : HO) : Prop := H a = some u \/ ∃ o, H a = some (.frz o u)
theorem Rd.of {H : Hp} {a : Addr} {u : HO} (h : H a = some u) : Rd H a u := .inl h
theorem Rd.ok {P : Program} {w : World} {H : Hp} {h : Heap} {a : Addr} {u : HO} (r : Rd H a u) (x : HOk P w H h) : b8n P w H h a u := by
 rcases r with r | ⟨o, r⟩
 ·exact x a u r
 ·obtain ⟨_, q⟩ := x a _ r
  exact q
noncomputable def Mut : Option HO -> Prop
 | some (.lst _) => True
 | some (.dK _) => True
 | some (.dT _) => True
 | some (.set _ _) => True
 | some (.ins _ _ _) => True
 | some (.ext _) => True
 | _ => False
section
variable {P : Program} {w : World} {H : Hp} {h h' : Heap} {x e : Addr} {o' : HO}
theorem HOk.write (ok : HOk P w H h) (mu : Mut (H x)) (he : e = x \/ H e = some (.own x)) (k : ∀ b u, b ≠ e -> h.get? b = some u -> h'.get? b = some u) (heo : ∃ u, h'.get? e = some u)
  (new : b8n P w (upd H x o') h' x o') : HOk P w (upd H x o') h' := fun b u q => by
 have i9n : ∀ c y, H c = some (.own y) -> c ≠ x := fun c y r z => by subst z; rw [r] at mu; exact mu
 have ntup : ∀ c xs, H c = some (.tup xs) -> c ≠ x := fun c xs r z => by subst z; rw [r] at mu; exact mu
 by_cases hb : b = x
 ·subst hb; rw [a5n] at q; cases q; exact new
 ·rw [a4z hb] at q
  by_cases hbe : b = e
  ·have q' : H b = some (.own x) := by
    rcases he with z | z
    ·exact absurd (hbe.trans z) hb
    ·rw [hbe]; exact z
   rw [q] at q'; cases q'
   obtain ⟨v, hv⟩ := heo
   exact ⟨v, by rw [hbe]; exact hv⟩
  ·refine (ok b u q).stay (fun c v hc r => k c v ?_ r) (fun c r => by rw [a4z (i9n c b r)]; exact r) fun c xs r => by rw [a4z (ntup c xs r)]; exact r
   rcases hc with rfl | hc
   ·exact hbe
   ·rintro rfl
    rcases he with z | z
    ·exact i9n c b hc z
    ·rw [hc] at z; cases z; exact hb rfl
end
structure Un (fs ex : List Addr) (H H' : Hp) (h h' : Heap) : Prop where
 keep : ∀ b o, h.get? b = some o -> H b = none -> b ∉ fs -> b ∉ ex -> h'.get? b = some o
 slot : ∀ b o, h.get? b = some o -> H b = none -> b ∈ fs -> b ∉ ex -> ∃ sl, h'.get? b = some { o with slots := sl }
 free : ∀ b o, h.get? b = some o -> H b = none -> b ∉ ex -> H' b = none
 there : ∀ b o, h.get? b = some o -> b ∉ ex -> ∃ o', h'.get? b = some o'
 tups : ∀ b xs, H b = some (.tup xs) -> H' b = some (.tup xs)
 g1d : ∀ b o u, H b = some (.frz o u) -> H' b = some (.frz o u)
 g1e : ∀ b ps, H b = some (.tbl ps) -> ∃ more, H' b = some (.tbl (ps ++ more))
section
variable {fs fs' ex ex' : List Addr} {H H1 H2 : Hp} {h h1 h2 h' : Heap} {a x e : Addr} {o : HO}
theorem Un.any (u : Un fs ex H H1 h h1) {b : Addr} {ob : Obj} (q : h.get? b = some ob) (n : H b = none) (hx : b ∉ ex) : ∃ sl, h1.get? b = some { ob with slots := sl } := by
 by_cases hb : b ∈ fs
 ·exact u.slot b ob q n hb hx
 ·exact ⟨ob.slots, u.keep b ob q n hb hx⟩
theorem Un.trans (a : Un fs ex H H1 h h1) (b : Un fs ex H1 H2 h1 h2) : Un fs ex H H2 h h2 where
 keep := fun c ob q n hc hx => b.keep c ob (a.keep c ob q n hc hx) (a.free c ob q n hx) hc hx
 slot := fun c ob q n hc hx => by
  obtain ⟨sl, e1⟩ := a.slot c ob q n hc hx
  obtain ⟨sl', e2⟩ := b.slot c _ e1 (a.free c ob q n hx) hc hx
  exact ⟨sl', e2⟩
 free := fun c ob q n hx => by
  obtain ⟨o', e1⟩ := a.there c ob q hx
  exact b.free c o' e1 (a.free c ob q n hx) hx
 there := fun c ob q hx => by
  obtain ⟨o', e1⟩ := a.there c ob q hx
  exact b.there c o' e1 hx
 tups := fun c xs q => b.tups c xs (a.tups c xs q)
 g1d := fun c ob xs q => b.g1d c ob xs (a.g1d c ob xs q)
 g1e := fun c ps q => by
  obtain ⟨m1, e1⟩ := a.g1e c ps q
  obtain ⟨m2, e2⟩ := b.g1e c _ e1
  exact ⟨m1 ++ m2, by rw [e2, Array.append_assoc]⟩
theorem Un.kept (k : ∀ b u, h.get? b = some u -> h'.get? b = some u) : Un fs ex H H h h' :=
 ⟨fun b ob q _ _ _ => k b ob q, fun b ob q _ _ _ => ⟨ob.slots, k b ob q⟩, fun _ _ _ n _ => n, fun b ob q _ => ⟨ob, k b ob q⟩, fun _ _ q => q, fun _ _ _ q => q, fun _ ps q => ⟨#[], by rw [q]; simp⟩⟩
theorem Un.refl : Un fs ex H H h h := Un.kept fun _ _ q => q
theorem Un.laid (k : ∀ b u, h.get? b = some u -> h'.get? b = some u) (hp : h.objs.size <= a) (hn : H a = none) : Un fs ex H (upd H a o) h h' where
 keep := fun b u q _ _ _ => k b u q
 slot := fun b u q _ _ _ => ⟨u.slots, k b u q⟩
 free := fun b u q n _ => by rw [a4z (Nat.ne_of_lt (Nat.lt_of_lt_of_le (Heap.lt_size q) hp))]; exact n
 there := fun b u q _ => ⟨u, k b u q⟩
 tups := fun b xs q => by rw [a4z (a5p q hn)]; exact q
 g1d := fun b u xs q => by rw [a4z (a5p q hn)]; exact q
 g1e := fun b ps q => ⟨#[], by rw [a4z (a5p q hn), q]; simp⟩
theorem Un.write (mu : Mut (H x)) (he : e = x \/ H e = some (.own x)) (k : ∀ b u, b ≠ e -> h.get? b = some u -> h'.get? b = some u) (heo : ∃ u, h'.get? e = some u) : Un fs ex H (upd H x o) h h' := by
 have hx : ∀ b, H b = none -> b ≠ x := fun b n z => by subst z; rw [n] at mu; exact mu
 have hb : ∀ b, H b = none -> b ≠ e := fun b n z => by
  subst z
  rcases he with r | r
  ·exact hx b n r
  ·rw [n] at r; cases r
 have hm : ∀ b u, H b = some u -> ¬ Mut (some u) -> b ≠ x := fun b u q nm z => by subst z; rw [q] at mu; exact nm mu
 refine ⟨fun b u q n _ _ => k b u (hb b n) q, fun b u q n _ _ => ⟨u.slots, k b u (hb b n) q⟩, fun b u q n _ => by rw [a4z (hx b n)]; exact n, fun b u q _ => ?_,
  fun b xs q => by rw [a4z (hm b _ q fun z => z)]; exact q, fun b u xs q => by rw [a4z (hm b _ q fun z => z)]; exact q, fun b ps q => ⟨#[], by rw [a4z (hm b _ q fun z => z), q]; simp⟩⟩
 by_cases hbe : b = e
 ·subst hbe; exact heo
 ·exact ⟨u, k b u hbe q⟩
theorem Un.mono (u : Un fs ex H H1 h h1) (hs : ∀ b ∈ fs, b ∈ fs') (hx : ∀ b ∈ ex, b ∈ ex') : Un fs' ex' H H1 h h1 :=
 ⟨fun b ob q n hb he => u.keep b ob q n (fun z => hb (hs b z)) fun z => he (hx b z), fun _ _ q n _ he => u.any q n fun z => he (hx _ z), fun b ob q n he => u.free b ob q n fun z => he (hx b z), fun b ob q he => u.there b ob q fun z => he (hx b z), u.tups, u.g1d, u.g1e⟩
end
noncomputable def trk (h : Heap) (H : Hp) : List Addr := (List.range h.objs.size).filter fun a => (H a).isSome
noncomputable def h3h (h : Heap) (H : Hp) : Heap := PySem.W.hideAll h (trk h H)
theorem g7v (h : Heap) (H : Hp) : (h3h h H).objs.size = h.objs.size := PySem.W.hideAll_size _ _
theorem h3i {h : Heap} {H : Hp} {b : Addr} {o : Obj} (e : h.get? b = some o) (n : H b = none) : (h3h h H).get? b = some o :=
 PySem.W.hideAll_get _ e fun hm => by
  have q : (H b).isSome = true := (List.mem_filter.mp hm).2
  rw [n] at q; simp at q
theorem h8f {h : Heap} {H : Hp} {b : Addr} {o : Obj} (e : (h3h h H).get? b = some o) : h.get? b = some o /\ H b = none := by
 have e' : h.get? b = some o := PySem.W.of_hideAll (trk h H) e
 refine ⟨e', ?_⟩
 cases q : H b with
 | none => rfl
 | some x =>
  have hm : b ∈ trk h H := List.mem_filter.mpr ⟨List.mem_range.mpr (Heap.lt_size e'), by simp [q]⟩
  have z : (h3h h H).get? b = none := PySem.W.hideAll_none (trk h H) hm
  rw [z] at e; cases e
noncomputable def h8g (g h : Heap) (L : Addr) : List (Addr × Obj) := (List.range h.objs.size).filterMap fun a => if a = L \/ (g.get? a).isSome = true then none else (h.get? a).map fun o => (a, o)
noncomputable def rest (g h : Heap) (L d : Addr) : List (Addr × Obj) := (h8g g h L).filter fun p => decide (p.1 ≠ d)
end L2
namespace L2
open PySem PySem.Spec PyProof.Rows
structure Mod (K : PySem.W.Frag) (mg : Str -> Option Value) (base : Heap) : Prop where
 kin : K.In base
 glob : base.Ns mainGlobals mg
 blt : ∃ mb, base.Ns builtinsNs mb ∧ ∀ x : Str, x ≠ "__name__" → mb x = bootBuiltins x
 nolimit : base.NoLimit
/-- the context: a def's body (or a comprehension's block) running. base: fixed through the whole law; s₀, H₀: the entry; outer: the frames whose slots others may change (a def's callers); stack: all frames that run;
  ex: iterators that were made ahead of the entry and are walked here (a comprehension's); fn: the names whose cells were made at the entry (a def: all; a comprehension's block: its own); calm: not within an except suite; pn: pins that every state bears; xe: what is wanted of an exception that leaves the code -/
structure Cx where
 prog : Program
 w : World
 K : PySem.W.Frag
 mg : Str -> Option Value
 base : Heap
 A : Around
 N : List Str
 s₀ : Shared
 H₀ : Hp
 env : Env
 outer : List Env
 stack : List Env
 ex : List Addr
 fn : Str -> Bool
 calm : Bool
 pn : List (Addr × Obj)
 xe : Value -> Shared -> Prop
noncomputable def frs (l : List Env) : List Addr := l.filterMap (·.frame)
noncomputable abbrev Cx.fs (X : Cx) : List Addr := frs X.outer
noncomputable def Vis (sc : Scope) (x : Str) : Prop := sc.names.lookup x = some .local \/ sc.names.lookup x = some .cell \/ sc.names.lookup x = some .free
noncomputable def Loc (sc : Scope) (x : Str) : Prop := sc.names.lookup x = some .local \/ sc.names.lookup x = some .cell
noncomputable def Look (env : Env) (h : Heap) (m : Str -> Option Value) (x : Str) (u : Value) : Prop :=
 (env.kindOf x = some .local /\ m x = some u) \/ ((env.kindOf x = some .cell \/ env.kindOf x = some .free) /\ ∃ c, env.cells.lookup x = some c /\ h.IsCell c (some u))
structure Cx.Ok (X : Cx) : Prop where
 mod : Mod X.K X.mg X.base
 kind : X.env.scope.kind = .function
 glob : X.env.globals = mainGlobals
 blt : X.env.builtins = builtinsNs
 above : X.s₀.heap.objs.size <= X.env.locals
 inj : ∀ x y c, X.env.cells.lookup x = some c -> X.env.cells.lookup y = some c -> x = y
 has : ∀ x, (X.env.kindOf x = some .cell \/ X.env.kindOf x = some .free) -> ∃ c, X.env.cells.lookup x = some c
 cab : ∀ x c, X.fn x = true -> X.env.cells.lookup x = some c -> X.s₀.heap.objs.size <= c
 hd : X.calm = true -> X.A.handled = none
 frames : X.A.frames = some X.stack
 stk : X.stack = X.outer \/ (X.stack = X.env :: X.outer /\ X.env.frame = some X.env.locals)
 exf : ∀ b ∈ X.ex, b ≠ X.env.locals /\ ∀ x c, X.env.cells.lookup x = some c -> c ≠ b
 bs : ∀ b o, X.base.get? b = some o -> X.s₀.heap.get? b = some o /\ X.H₀ b = none
 bsz : X.base.objs.size <= X.s₀.heap.objs.size
 h8h : ∀ b o, X.base.get? b = some o -> b ∉ X.ex
 i2b : ∀ b ∈ X.ex, b ∉ X.fs
 g3l : X.s₀.heap.FunFrames X.base X.outer
 frf : ∀ b ∈ X.fs, X.H₀ b = none
structure Inv (X : Cx) (pins : List (Addr × Obj)) (σ : List (Option V)) (H : Hp) (s : Shared) : Prop where
 ok : X.Ok
 os : s.os = X.s₀.os
 bare : AllBare s.gens
 base : Un X.fs X.ex X.H₀ H X.s₀.heap s.heap
 loc : ∃ m, s.heap.Ns X.env.locals m /\ ∀ (i : Nat) (x : Str) (v : V), X.N[i]? = some x -> σ[i]? = some (some v) -> Vis X.env.scope x -> ∃ u, RelV v u /\ Look X.env s.heap m x u
 cell : ∀ x c, X.env.cells.lookup x = some c -> ∃ v, s.heap.IsCell c v
 free : H X.env.locals = none
 d4t : ∀ x c, X.env.cells.lookup x = some c -> H c = none
 pin : ∀ p ∈ X.pn ++ pins, s.heap.get? p.1 = some p.2 /\ H p.1 = none /\ p.1 ≠ X.env.locals /\ p.1 ∉ X.fs /\ ∀ v, p.2.data ≠ .cell v
 hok : HOk X.prog X.w H s.heap
 len : σ.length = X.N.length
section
variable {X : Cx} {pins : List (Addr × Obj)} {σ : List (Option V)} {H H' : Hp} {s : Shared} {h' : Heap}
theorem Cx.Ok.nofr (ok : X.Ok) {b : Addr} {o : Obj} (e : X.base.get? b = some o) : b ∉ X.fs := fun hb => by
 have := (ok.g3l.mem hb).1
 rw [e] at this; cases this
theorem Inv.bs (I : Inv X pins σ H s) : ∀ b o, X.base.get? b = some o -> s.heap.get? b = some o /\ H b = none := fun b o e =>
 ⟨I.base.keep b o (I.ok.bs b o e).1 (I.ok.bs b o e).2 (I.ok.nofr e) (I.ok.h8h b o e), I.base.free b o (I.ok.bs b o e).1 (I.ok.bs b o e).2 (I.ok.h8h b o e)⟩
theorem Inv.bk (I : Inv X pins σ H s) : ∀ b o, X.base.get? b = some o -> s.heap.get? b = some o := fun b o e => (I.bs b o e).1
theorem Inv.mod (I : Inv X pins σ H s) : Mod X.K X.mg X.base := I.ok.mod
theorem Inv.kIn (I : Inv X pins σ H s) : X.K.In s.heap := I.ok.mod.kin.keeps I.bk
theorem Inv.nolimit (I : Inv X pins σ H s) : s.heap.NoLimit := I.ok.mod.nolimit.keeps I.bk
theorem Inv.fr (I : Inv X pins σ H s) : ∃ m, Fr X.base X.env.locals s.heap m :=
 let ⟨m, hn, _⟩ := I.loc
 ⟨m, hn, I.bk, Nat.le_trans I.ok.bsz I.ok.above⟩
theorem Inv.lt (I : Inv X pins σ H s) : X.env.locals < s.heap.objs.size := let ⟨_, hn, _⟩ := I.loc; hn.lt
theorem Inv.sz (I : Inv X pins σ H s) : X.s₀.heap.objs.size <= s.heap.objs.size := Nat.le_trans I.ok.above (Nat.le_of_lt I.lt)
theorem Inv.nofs (I : Inv X pins σ H s) {a : Addr} (h : s.heap.objs.size <= a) : a ∉ X.fs := fun hb => by
 obtain ⟨_, o, ho, _⟩ := I.ok.g3l.mem hb
 exact absurd (Nat.lt_of_lt_of_le (Heap.lt_size ho) (Nat.le_trans I.sz h)) (Nat.lt_irrefl _)
theorem Inv.cne (I : Inv X pins σ H s) : ∀ x c, X.env.cells.lookup x = some c -> c ≠ X.env.locals := fun x c e z => by
 obtain ⟨v, o, ho, hd⟩ := I.cell x c e
 obtain ⟨m, ⟨o', es, ep, ho', hd', _⟩, _⟩ := I.loc
 rw [z, ho'] at ho; cases ho; rw [hd'] at hd; cases hd
theorem Inv.g3l (I : Inv X pins σ H s) : s.heap.FunFrames X.base X.outer := by
 have all : ∀ (l : List Env), (∀ b ∈ frs l, b ∈ X.fs) -> X.s₀.heap.FunFrames X.base l -> s.heap.FunFrames X.base l := by
  intro l
  induction l with
  | nil => intro _ _; trivial
  | cons env r ih =>
   intro hs hl
   obtain ⟨hk, ⟨L, o, hf, hn, ho, hd⟩, hr⟩ := hl
   have hL : L ∈ X.fs := hs L (by unfold frs; rw [List.filterMap_cons, hf]; exact List.mem_cons_self)
   obtain ⟨sl, e⟩ := I.base.slot L o ho (I.ok.frf L hL) hL fun z => I.ok.i2b L z hL
   exact ⟨hk, ⟨L, _, hf, hn, e, hd⟩, ih (fun b hb => hs b (by unfold frs; rw [List.filterMap_cons, hf]; exact List.mem_cons_of_mem _ hb)) hr⟩
 exact all X.outer (fun _ hb => hb) I.ok.g3l
theorem Inv.stack (I : Inv X pins σ H s) : s.heap.FunFrames X.base X.stack := by
 rcases I.ok.stk with e | ⟨e, hf⟩
 ·rw [e]; exact I.g3l
 ·rw [e]
  obtain ⟨m, hn, _⟩ := I.loc
  refine .cons (by rw [I.ok.kind]; decide) hf hn ?_ I.g3l
  exact Heap.get?_none_of_le (Nat.le_trans I.ok.bsz I.ok.above)
theorem Inv.f4j (I : Inv X pins σ H s) : ∀ b ∈ frs X.stack, b ∈ X.env.locals :: X.fs := fun b hb => by
 rcases I.ok.stk with e | ⟨e, hf⟩
 ·rw [e] at hb; exact List.mem_cons_of_mem _ hb
 ·rw [e] at hb
  unfold frs at hb
  rw [List.filterMap_cons, hf] at hb
  exact hb
theorem Inv.g1f (I : Inv X pins σ H s) : ∀ b ∈ frs X.stack, H b = none := fun b hb => by
 rcases List.mem_cons.mp (I.f4j b hb) with e | hb
 ·rw [e]; exact I.free
 ·obtain ⟨_, o, ho, _⟩ := I.ok.g3l.mem hb
  exact I.base.free b o ho (I.ok.frf b hb) fun z => I.ok.i2b b z hb
theorem Inv.step {g' : Array GenState} {t' : Nat} {d' : Drawn} {ch : List Addr} (I : Inv X pins σ H s)
  (hch : ∀ b ∈ ch, (b ∈ X.ex \/ X.s₀.heap.objs.size <= b) /\ b ≠ X.env.locals /\ (∀ x c, X.env.cells.lookup x = some c -> c ≠ b) /\ ∀ p ∈ X.pn ++ pins, p.1 ≠ b)
  (keep : ∀ b o, b ≠ X.env.locals -> b ∉ X.fs -> b ∉ ch -> s.heap.get? b = some o -> H b = none -> h'.get? b = some o)
  (slot : ∀ b o, b ≠ X.env.locals -> b ∈ X.fs -> b ∉ ch -> s.heap.get? b = some o -> H b = none -> ∃ sl, h'.get? b = some { o with slots := sl }) (free : ∀ b o, b ∉ ch -> s.heap.get? b = some o -> H b = none -> H' b = none)
  (there : ∀ b o, b ∉ ch -> s.heap.get? b = some o -> ∃ o', h'.get? b = some o')
  (tups : ∀ b xs, H b = some (.tup xs) -> H' b = some (.tup xs)) (g1d : ∀ b o u, H b = some (.frz o u) -> H' b = some (.frz o u)) (g1e : ∀ b ps, H b = some (.tbl ps) -> ∃ more, H' b = some (.tbl (ps ++ more)))
  (ns : ∀ m, s.heap.Ns X.env.locals m -> h'.Ns X.env.locals m) (hok : HOk X.prog X.w H' h') (hg : AllBare g') :
  Inv X pins σ H' { s with heap := h', gens := g', drawn := d', toks := t' } := by
 have neL : ∀ b o, X.s₀.heap.get? b = some o -> b ≠ X.env.locals := fun b o e => Nat.ne_of_lt (Nat.lt_of_lt_of_le (Heap.lt_size e) I.ok.above)
 have neC : ∀ b o, X.s₀.heap.get? b = some o -> b ∉ X.ex -> b ∉ ch := fun b o e hx hb => by
  rcases (hch b hb).1 with z | z
  ·exact hx z
  ·exact absurd (Nat.lt_of_lt_of_le (Heap.lt_size e) z) (Nat.lt_irrefl _)
 have cellK : ∀ x c, X.env.cells.lookup x = some c -> ∀ v, s.heap.IsCell c v -> h'.IsCell c v := fun x c e v ⟨o, ho, hd⟩ => by
  have nch : c ∉ ch := fun z => (hch c z).2.2.1 x c e rfl
  by_cases hc : c ∈ X.fs
  ·obtain ⟨sl, q⟩ := slot c o (I.cne x c e) hc nch ho (I.d4t x c e)
   exact ⟨_, q, hd⟩
  ·exact ⟨o, keep c o (I.cne x c e) hc nch ho (I.d4t x c e), hd⟩
 refine ⟨I.ok, I.os, hg, ⟨fun b o e n hb hx => ?_, fun b o e n hb hx => ?_, fun b o e n hx => ?_, fun b o e hx => ?_, fun b xs e => tups b xs (I.base.tups b xs e), fun b o xs e => g1d b o xs (I.base.g1d b o xs e), fun b ps e => ?_⟩, ?_, fun x c e => ?_, ?_, fun x c e => ?_, fun p hp => ?_, hok, I.len⟩
 ·exact keep b o (neL b o e) hb (neC b o e hx) (I.base.keep b o e n hb hx) (I.base.free b o e n hx)
 ·obtain ⟨sl, e1⟩ := I.base.slot b o e n hb hx
  obtain ⟨sl', e2⟩ := slot b _ (neL b o e) hb (neC b o e hx) e1 (I.base.free b o e n hx)
  exact ⟨sl', e2⟩
 ·obtain ⟨o', e1⟩ := I.base.there b o e hx
  exact free b o' (neC b o e hx) e1 (I.base.free b o e n hx)
 ·obtain ⟨o', e1⟩ := I.base.there b o e hx
  exact there b o' (neC b o e hx) e1
 ·obtain ⟨m1, e1⟩ := I.base.g1e b ps e
  obtain ⟨m2, e2⟩ := g1e b _ e1
  exact ⟨m1 ++ m2, by rw [e2, Array.append_assoc]⟩
 ·obtain ⟨m, hn, hl⟩ := I.loc
  refine ⟨m, ns m hn, fun i x v e1 e2 e3 => ?_⟩
  obtain ⟨u, r, l⟩ := hl i x v e1 e2 e3
  refine ⟨u, r, ?_⟩
  rcases l with l | ⟨k, c, e, z⟩
  ·exact .inl l
  ·exact .inr ⟨k, c, e, cellK x c e _ z⟩
 ·obtain ⟨v, z⟩ := I.cell x c e
  exact ⟨v, cellK x c e v z⟩
 ·obtain ⟨m, ⟨o, _, _, ho, _⟩, _⟩ := I.loc
  exact free _ o (fun z => (hch _ z).2.1 rfl) ho I.free
 ·obtain ⟨v, o, ho, hd⟩ := I.cell x c e
  exact free c o (fun z => (hch c z).2.2.1 x c e rfl) ho (I.d4t x c e)
 ·obtain ⟨e, n, ne, nf, d⟩ := I.pin p hp
  have nch : p.1 ∉ ch := fun z => (hch p.1 z).2.2.2 p hp rfl
  exact ⟨keep p.1 p.2 ne nf nch e n, free p.1 p.2 nch e n, ne, nf, d⟩
theorem Inv.un {t' : Nat} (I : Inv X pins σ H s) (u : Un X.fs [] H H' s.heap h') (hok : HOk X.prog X.w H' h') : Inv X pins σ H' { s with heap := h', toks := t' } := by
 obtain ⟨m, ⟨o, es, ep, ho, r⟩, _⟩ := id I.loc
 obtain ⟨sl, hL⟩ := u.any ho I.free (by simp)
 exact I.step (g' := s.gens) (d' := s.drawn) (ch := []) (fun _ z => nomatch z) (fun b o _ hb _ e n => u.keep b o e n hb (by simp)) (fun b o _ hb _ e n => u.slot b o e n hb (by simp)) (fun b o _ e n => u.free b o e n (by simp)) (fun b o _ e => u.there b o e (by simp)) u.tups u.g1d u.g1e (fun m' hm => by
  obtain ⟨o', es', ep', ho', r'⟩ := hm
  rw [ho] at ho'; cases ho'
  exact ⟨_, es', ep', hL, r'⟩) hok I.bare
theorem Inv.call {g' : Array GenState} {t' : Nat} {d' : Drawn} {ch : List Addr} (I : Inv X pins σ H s) (u : Un (frs X.stack) ch H H' s.heap h') (hok : HOk X.prog X.w H' h') (hg : AllBare g')
  (hch : ∀ b ∈ ch, (b ∈ X.ex \/ X.s₀.heap.objs.size <= b) /\ b ≠ X.env.locals /\ (∀ x c, X.env.cells.lookup x = some c -> c ≠ b) /\ ∀ p ∈ X.pn ++ pins, p.1 ≠ b) :
  Inv X pins σ H' { s with heap := h', gens := g', drawn := d', toks := t' } := by
 obtain ⟨m, ⟨o, es, ep, ho, r⟩, _⟩ := id I.loc
 obtain ⟨sl, hL⟩ := u.any ho I.free fun z => (hch _ z).2.1 rfl
 exact I.step (ch := ch) hch (fun b o hL hb hc e n => u.keep b o e n (fun z => (List.mem_cons.mp (I.f4j b z)).elim hL hb) hc) (fun b o _ _ hc e n => u.any e n hc) (fun b o hc e n => u.free b o e n hc) (fun b o hc e => u.there b o e hc) u.tups u.g1d u.g1e (fun m' hm => by
  obtain ⟨o', es', ep', ho', r'⟩ := hm
  rw [ho] at ho'; cases ho'
  exact ⟨_, es', ep', hL, r'⟩) hok hg
theorem Inv.turned {t' : Nat} {it : Addr} (I : Inv X pins σ H s) (k : ∀ b o, b ≠ it -> s.heap.get? b = some o -> h'.get? b = some o) (hn : H it = none) (hL : it ≠ X.env.locals)
  (h1 : it ∈ X.ex \/ X.s₀.heap.objs.size <= it) (h2 : ∀ x c, X.env.cells.lookup x = some c -> c ≠ it) (h3 : ∀ p ∈ X.pn ++ pins, p.1 ≠ it) : Inv X pins σ H { s with heap := h', toks := t' } := by
 have nit : ∀ b u, H b = some u -> b ≠ it := fun b u e z => by rw [z, hn] at e; cases e
 refine I.step (g' := s.gens) (d' := s.drawn) (ch := [it]) (fun b hb => ?_) (fun b o _ _ hc e _ => k b o (fun z => hc (by simp [z])) e) (fun b o _ _ hc e _ => ⟨o.slots, k b o (fun z => hc (by simp [z])) e⟩) (fun _ _ _ _ n => n)
  (fun b o hc e => ⟨o, k b o (fun z => hc (by simp [z])) e⟩) (fun _ _ e => e) (fun _ _ _ e => e) (fun b ps e => ⟨#[], by rw [e]; simp⟩) (fun m hm => ?_) (fun b u e => ?_) I.bare
 ·have e : b = it := by simpa using hb
  subst e
  exact ⟨h1, hL, h2, h3⟩
 ·obtain ⟨o, es, ep, ho, r⟩ := hm
  exact ⟨o, es, ep, k _ o (Ne.symm hL) ho, r⟩
 ·refine (I.hok b u e).stay (fun c v hc q => k c v ?_ q) (fun _ q => q) fun _ _ q => q
  rcases hc with z | z
  ·rw [z]; exact nit b u e
  ·exact nit c _ z
theorem Inv.tok (I : Inv X pins σ H s) (t : Nat) : Inv X pins σ H { s with toks := t } := I.un (h' := s.heap) (t' := t) Un.refl I.hok
theorem Inv.kept {t' : Nat} (I : Inv X pins σ H s) (k : ∀ b u, s.heap.get? b = some u -> h'.get? b = some u) : Inv X pins σ H { s with heap := h', toks := t' } := I.un (Un.kept k) (I.hok.kept k)
theorem Inv.laid {a : Addr} {o : HO} {t' : Nat} (I : Inv X pins σ H s) (k : ∀ b u, s.heap.get? b = some u -> h'.get? b = some u) (hp : s.heap.objs.size <= a) (new : b8n X.prog X.w (upd H a o) h' a o) :
  Inv X pins σ (upd H a o) { s with heap := h', toks := t' } := I.un (Un.laid k hp (I.hok.fresh hp)) (I.hok.laid k hp new)
theorem Inv.write {x e : Addr} {o : HO} {t' : Nat} (I : Inv X pins σ H s) (mu : Mut (H x)) (he : e = x \/ H e = some (.own x)) (k : ∀ b u, b ≠ e -> s.heap.get? b = some u -> h'.get? b = some u) (heo : ∃ u, h'.get? e = some u)
  (new : b8n X.prog X.w (upd H x o) h' x o) : Inv X pins σ (upd H x o) { s with heap := h', toks := t' } := I.un (Un.write mu he k heo) (I.hok.write mu he k heo new)
theorem Inv.weak {σ' : List (Option V)} (I : Inv X pins σ H s) (hl : σ'.length = σ.length) (w : ∀ (i : Nat) v, σ'[i]? = some (some v) -> σ[i]? = some (some v)) : Inv X pins σ' H s :=
 ⟨I.ok, I.os, I.bare, I.base, let ⟨m, hn, hl'⟩ := I.loc; ⟨m, hn, fun i x v e1 e2 e3 => hl' i x v e1 (w i v e2) e3⟩, I.cell, I.free, I.d4t, I.pin, I.hok, hl.trans I.len⟩
theorem Inv.g7w {pins' : List (Addr × Obj)} (I : Inv X pins σ H s) (h : ∀ p ∈ pins', s.heap.get? p.1 = some p.2 /\ H p.1 = none /\ p.1 ≠ X.env.locals /\ p.1 ∉ X.fs /\ ∀ v, p.2.data ≠ .cell v) : Inv X pins' σ H s :=
 ⟨I.ok, I.os, I.bare, I.base, I.loc, I.cell, I.free, I.d4t, fun p hp => (List.mem_append.mp hp).elim (fun z => I.pin p (List.mem_append_left _ z)) (h p), I.hok, I.len⟩
theorem g3m {N : List Str} (hN : N.Nodup) {i j : Nat} {x : Str} (a : N[i]? = some x) (b : N[j]? = some x) : i = j := by
 obtain ⟨h1, e1⟩ := List.getElem?_eq_some_iff.mp a
 obtain ⟨h2, e2⟩ := List.getElem?_eq_some_iff.mp b
 exact (List.getElem_inj hN).mp (e1.trans e2.symm)
theorem f0g {M : Model} {A : Around} {E : Value -> Shared -> Prop} {i : Nat} {x : Str} {v : V} {u : Value} {Q : Unit -> Shared -> Prop} (I : Inv X pins σ H s) (hN : X.N.Nodup) (hi : X.N[i]? = some x) (hx : Loc X.env.scope x) (r : RelV v u)
  (h : ∀ s', Inv X pins (σ.set i (some v)) H s' -> (∃ a, Heap.SameBut a s.heap s'.heap /\ (a = X.env.locals \/ X.env.cells.lookup x = some a)) -> Q () s') (hf : X.fn x = true \/ X.env.scope.names.lookup x = some .local := by first | exact .inl rfl | exact .inr rfl | assumption) : wpAny M A (storeName X.env x u) Q E s := by
 obtain ⟨m, hn, hl⟩ := id I.loc
 have hcls : (X.env.scope.kind == .class || (X.env.scope.kind == .module && X.env.locals != X.env.globals)) = false := by rw [I.ok.kind]; rfl
 have hiσ : i < σ.length := by rw [I.len]; exact (List.getElem?_eq_some_iff.mp hi).1
 have cne := I.cne
 have tracked : ∀ {a : Addr} {h' : Heap}, (∃ o, s.heap.get? a = some o /\ H a = none) -> Heap.SameBut a s.heap h' -> HOk X.prog X.w H h' := fun {a h'} ha hs b ob e => by
  obtain ⟨_, _, hfree⟩ := ha
  refine (I.hok b ob e).stay (fun c w' hc q => (hs.2 c ?_).trans q) (fun _ q => q) fun _ _ q => q
  rintro rfl
  rcases hc with rfl | hc
  ·rw [hfree] at e; cases e
  ·rw [hfree] at hc; cases hc
 rcases hx with hk | hk
 ·refine wpAny_storeName_local hk hn (fun h' hn' hs => ?_) hcls
  obtain ⟨oL, _, _, hoL, _⟩ := id hn
  refine h _ ⟨I.ok, I.os, I.bare, ⟨fun b o e n hb hx => ?_, fun b o e n hb hx => ?_, I.base.free, fun b o e hx => ?_, I.base.tups, I.base.g1d, I.base.g1e⟩, ⟨_, hn', fun j y v' e1 e2 e3 => ?_⟩, fun y c e => ?_, I.free, I.d4t, fun p hp => ?_, tracked ⟨oL, hoL, I.free⟩ hs, by simpa using I.len⟩ ⟨_, hs, .inl rfl⟩
  ·exact (hs.2 b (Nat.ne_of_lt (Nat.lt_of_lt_of_le (Heap.lt_size e) I.ok.above))).trans (I.base.keep b o e n hb hx)
  ·obtain ⟨sl, e1⟩ := I.base.slot b o e n hb hx
   exact ⟨sl, (hs.2 b (Nat.ne_of_lt (Nat.lt_of_lt_of_le (Heap.lt_size e) I.ok.above))).trans e1⟩
  ·obtain ⟨o', e1⟩ := I.base.there b o e hx
   exact ⟨o', (hs.2 b (Nat.ne_of_lt (Nat.lt_of_lt_of_le (Heap.lt_size e) I.ok.above))).trans e1⟩
  ·by_cases hj : j = i
   ·subst hj
    rw [hi] at e1; cases e1
    rw [List.getElem?_set_self hiσ] at e2
    cases e2
    exact ⟨u, r, .inl ⟨hk, by simp⟩⟩
   ·rw [List.getElem?_set_ne (Ne.symm hj)] at e2
    obtain ⟨u', r', q⟩ := hl j y v' e1 e2 e3
    refine ⟨u', r', ?_⟩
    rcases q with ⟨k, e⟩ | ⟨k, c, e, z⟩
    ·refine .inl ⟨k, ?_⟩
     have : y ≠ x := fun e => hj (g3m hN e1 (e ▸ hi))
     simp [this, e]
    ·exact .inr ⟨k, c, e, z.sameBut hs (cne y c e)⟩
  ·obtain ⟨w', z⟩ := I.cell y c e
   exact ⟨w', z.sameBut hs (cne y c e)⟩
  ·obtain ⟨e, n, ne, nf, d⟩ := I.pin p hp
   exact ⟨(hs.2 p.1 ne).trans e, n, ne, nf, d⟩
 ·have hfn : X.fn x = true := by
   rcases hf with z | z
   ·exact z
   ·rw [z] at hk; cases hk
  obtain ⟨c, hc⟩ := I.ok.has x (.inl hk)
  obtain ⟨w', z⟩ := I.cell x c hc
  refine wpAny_storeName_cell I.ok.kind hk hc z (fun h' hc' hs => ?_)
  obtain ⟨oc, hoc, hocd⟩ := id z
  refine h { s with heap := h' } ⟨I.ok, I.os, I.bare, ⟨fun b o e n hb hx => ?_, fun b o e n hb hx => ?_, I.base.free, fun b o e hx => ?_, I.base.tups, I.base.g1d, I.base.g1e⟩, ⟨m, hn.sameBut hs (Ne.symm (cne x c hc)), fun j y v' e1 e2 e3 => ?_⟩, fun y c' e => ?_, I.free, I.d4t, fun p hp => ?_, tracked ⟨oc, hoc, I.d4t x c hc⟩ hs, by simpa using I.len⟩ ⟨c, hs, .inr hc⟩
  ·exact (hs.2 b (Nat.ne_of_lt (Nat.lt_of_lt_of_le (Heap.lt_size e) (I.ok.cab x c hfn hc)))).trans (I.base.keep b o e n hb hx)
  ·obtain ⟨sl, e1⟩ := I.base.slot b o e n hb hx
   exact ⟨sl, (hs.2 b (Nat.ne_of_lt (Nat.lt_of_lt_of_le (Heap.lt_size e) (I.ok.cab x c hfn hc)))).trans e1⟩
  ·obtain ⟨o', e1⟩ := I.base.there b o e hx
   exact ⟨o', (hs.2 b (Nat.ne_of_lt (Nat.lt_of_lt_of_le (Heap.lt_size e) (I.ok.cab x c hfn hc)))).trans e1⟩
  ·by_cases hj : j = i
   ·subst hj
    rw [hi] at e1; cases e1
    rw [List.getElem?_set_self hiσ] at e2
    cases e2
    exact ⟨u, r, .inr ⟨.inl hk, c, hc, hc'⟩⟩
   ·rw [List.getElem?_set_ne (Ne.symm hj)] at e2
    obtain ⟨u', r', q⟩ := hl j y v' e1 e2 e3
    refine ⟨u', r', ?_⟩
    rcases q with q | ⟨k, c', e, z'⟩
    ·exact .inl q
    ·refine .inr ⟨k, c', e, z'.sameBut hs ?_⟩
     rintro rfl
     exact hj (g3m hN e1 (I.ok.inj _ _ _ e hc ▸ hi))
  ·by_cases hcc : c' = c
   ·subst hcc; exact ⟨_, hc'⟩
   ·obtain ⟨w2, z2⟩ := I.cell y c' e
    exact ⟨w2, z2.sameBut hs hcc⟩
  ·obtain ⟨e, n, ne, nf, d⟩ := I.pin p hp
   refine ⟨(hs.2 p.1 ?_).trans e, n, ne, nf, d⟩
   intro q
   rw [q, hoc] at e
   have q' : oc = p.2 := Option.some.inj e
   exact d w' (by rw [<- q']; exact hocd)
theorem f5m {M : Model} {A : Around} {E : Value -> Shared -> Prop} {i : Nat} {x : Str} {v : V} {u : Value} {Q : Unit -> Shared -> Prop} (I : Inv X pins σ H s) (hN : X.N.Nodup) (hi : X.N[i]? = some x) (hx : Loc X.env.scope x) (r : RelV v u)
  (h : ∀ s', Inv X pins (σ.set i (some v)) H s' -> Q () s') (hf : X.fn x = true \/ X.env.scope.names.lookup x = some .local := by first | exact .inl rfl | exact .inr rfl | assumption) : wpAny M A (storeName X.env x u) Q E s :=
 f0g I hN hi hx r (fun s' I' _ => h s' I') hf
theorem Inv.call' {s' : Shared} {ch : List Addr} (I : Inv X pins σ H s) (ho : s'.os = s.os) (u : Un (frs X.stack) ch H H' s.heap s'.heap) (hok : HOk X.prog X.w H' s'.heap) (hg : AllBare s'.gens)
  (hch : ∀ b ∈ ch, (b ∈ X.ex \/ X.s₀.heap.objs.size <= b) /\ b ≠ X.env.locals /\ (∀ x c, X.env.cells.lookup x = some c -> c ≠ b) /\ ∀ p ∈ X.pn ++ pins, p.1 ≠ b) : Inv X pins σ H' s' := by
 obtain ⟨h', g', d', t', o'⟩ := s'
 have e : o' = s.os := ho
 subst e
 exact I.call (g' := g') (t' := t') (d' := d') u hok hg hch
end
noncomputable abbrev XK := Value -> Option Addr -> Hp -> Prop
noncomputable abbrev St := List (Option V)
noncomputable abbrev VK := V -> Hp -> Prop
noncomputable abbrev TE := St -> Hp -> VK -> Prop
noncomputable abbrev TT := St -> Hp -> (Bool -> Hp -> Prop) -> Prop
noncomputable abbrev TA := St -> Hp -> (List V -> Hp -> Prop) -> Prop
structure Ends where
 nx : St -> Hp -> Prop
 rt : VK
 bk : St -> Hp -> Prop := fun _ _ => False
 ct : St -> Hp -> Prop := fun _ _ => False
noncomputable abbrev TS := Ends -> St -> Hp -> Prop
noncomputable def EP (X : Cx) (pins : List (Addr × Obj)) (σ : St) (Q : VK) (u : Value) (s' : Shared) : Prop := ∃ v H', Inv X pins σ H' s' /\ RelV v u /\ Q v H'
noncomputable def TP (X : Cx) (pins : List (Addr × Obj)) (σ : St) (Q : Bool -> Hp -> Prop) (b : Bool) (s' : Shared) : Prop := ∃ H', Inv X pins σ H' s' /\ Q b H'
noncomputable def AP (X : Cx) (pins : List (Addr × Obj)) (σ : St) (Q : List V -> Hp -> Prop) (us : List Value) (s' : Shared) : Prop := ∃ vs H', Inv X pins σ H' s' /\ Vals vs us /\ Q vs H'
noncomputable def SP (X : Cx) (pins : List (Addr × Obj)) (D : Ends) (f : Flow) (s' : Shared) : Prop :=
 match f with
 | .next => ∃ σ' H', Inv X pins σ' H' s' /\ D.nx σ' H'
 | .brk => ∃ σ' H', Inv X pins σ' H' s' /\ D.bk σ' H'
 | .cont => ∃ σ' H', Inv X pins σ' H' s' /\ D.ct σ' H'
 | .ret u => ∃ v σ' H', Inv X pins σ' H' s' /\ RelV v u /\ D.rt v H'
noncomputable def PE (X : Cx) (e : Expr) (t : TE) : Prop :=
 ∀ (pins : List (Addr × Obj)) (s : Shared) (σ : St) (H : Hp) (Q : VK), Inv X pins σ H s -> t σ H Q -> wpAny (model X.prog X.w) X.A (eval e X.env) (EP X pins σ Q) X.xe s
noncomputable def PT (X : Cx) (e : Expr) (t : TT) : Prop :=
 ∀ (pins : List (Addr × Obj)) (s : Shared) (σ : St) (H : Hp) (Q : Bool -> Hp -> Prop), Inv X pins σ H s -> t σ H Q -> wpAny (model X.prog X.w) X.A (isTrue e X.env (eval e X.env)) (TP X pins σ Q) X.xe s
noncomputable def PW (X : Cx) (e : Expr) (t : TT) : Prop :=
 ∀ (whole : Sem Value) (pins : List (Addr × Obj)) (s : Shared) (σ : St) (H : Hp) (Q : Bool -> Hp -> Prop), Inv X pins σ H s -> t σ H Q -> wpAny (model X.prog X.w) X.A (isTrue e X.env whole) (TP X pins σ Q) X.xe s
theorem PW.pt {X : Cx} {e : Expr} {t : TT} (h : PW X e t) : PT X e t := h _
noncomputable def PA (X : Cx) (es : List Expr) (t : TA) : Prop :=
 ∀ (pos : Pos) (pins : List (Addr × Obj)) (s : Shared) (σ : St) (H : Hp) (Q : List V -> Hp -> Prop), Inv X pins σ H s -> t σ H Q -> wpAny (model X.prog X.w) X.A (spliced (backTo pos (starEach es X.env))) (AP X pins σ Q) X.xe s
noncomputable def PS (X : Cx) (st : Stmt) (t : TS) : Prop :=
 ∀ (pins : List (Addr × Obj)) (s : Shared) (σ : St) (H : Hp) (D : Ends), Inv X pins σ H s -> t D σ H -> wpAny (model X.prog X.w) X.A (exec st X.env) (SP X pins D) X.xe s
noncomputable def PSs (X : Cx) (st : List Stmt) (t : TS) : Prop :=
 ∀ (pins : List (Addr × Obj)) (s : Shared) (σ : St) (H : Hp) (D : Ends), Inv X pins σ H s -> t D σ H -> wpAny (model X.prog X.w) X.A (execs st X.env) (SP X pins D) X.xe s
theorem thn {α : Type} {t : Sem α} {Q Q' : α -> Shared -> Prop} {M : Model} {A : Around} {E : Value -> Shared -> Prop} {s : Shared} (h : wpAny M A t Q E s) (hQ : ∀ a s, Q a s -> Q' a s) : wpAny M A t Q' E s := wpAny_mono h hQ fun _ _ x => x
end L2
namespace L2
open PySem PySem.Spec PyProof.Rows
section
variable {X : Cx}
noncomputable def tVar (i : Nat) : TE := fun σ H Q => ∃ v, σ[i]? = some (some v) /\ Q v H
noncomputable def tC (v : V) : TE := fun _ H Q => Q v H
theorem i2c {i : Nat} {x : Str} {pos : Pos} (hN : X.N[i]? = some x) (hv : Vis X.env.scope x) (hd : (x == ("__debug__" : Str)) = false := by decide) (hcd : (x == ("__classdict__" : Str)) = false := by decide) : PE X (.Name x pos) (tVar i) := by
 intro pins s σ H Q I h
 obtain ⟨v, e, h⟩ := h
 obtain ⟨m, hn, hl⟩ := I.loc
 obtain ⟨u, r, l⟩ := hl i x v hN e hv
 have fin : EP X pins σ Q u s := ⟨v, H, I, r, h⟩
 rcases l with ⟨hk, hm⟩ | ⟨hk, c, hc, hcell⟩
 ·exact wpAny_Name (wpAny_loadName_local I.ok.kind hk hn hm fin) hd
 ·rcases hk with hk | hk
  ·exact wpAny_Name (wpAny_loadName_cell I.ok.kind hk hc hcell fin) hd
  ·exact wpAny_Name (wpAny_loadName_free I.ok.kind hk hc hcell fin hcd) hd
theorem a0l {i j pos} : PE X (.Constant (.int i) j pos) (tC (.int i)) := fun _ _ _ H _ I h => wpAny_Constant_int ⟨.int i, H, I.tok _, ⟨_, rfl⟩, h⟩
theorem g7x {b j pos} : PE X (.Constant (.bool b) j pos) (tC (.bl b)) := fun _ _ _ H _ I h => Constant_bool ⟨.bl b, H, I, rfl, h⟩
theorem g7y {j pos} : PE X (.Constant .none j pos) (tC .non) := fun _ _ _ H _ I h => Constant_none ⟨.non, H, I, rfl, h⟩
theorem a2u {x j pos} : PE X (.Constant (.str x) j pos) (tC (.str x)) := fun _ _ _ H _ I h => Calls.Constant_str ⟨.str x, H, I.tok _, ⟨_, rfl⟩, h⟩
noncomputable def Gl (X : Cx) (x : Str) : Prop := X.env.kindOf x = some .globalImplicit
theorem g1g {E : Value -> Shared -> Prop} {pins : List (Addr × Obj)} {s : Shared} {σ : St} {H : Hp} {x : Str} {u : Value} {pos : Pos} {Q : Value -> Shared -> Prop} (I : Inv X pins σ H s) (hg : Gl X x) (hm : X.mg x = some u) (h : Q u s)
  (hd : (x == ("__debug__" : Str)) = false := by decide) : wpAny (model X.prog X.w) X.A (eval (.Name x pos) X.env) Q E s :=
 Calls.Name_function_global I.ok.kind hg (Calls.loadGlobal_global (by rw [I.ok.glob]; exact I.mod.glob.keeps I.bk) hm h) hd
theorem f0h {E : Value -> Shared -> Prop} {pins : List (Addr × Obj)} {s : Shared} {σ : St} {H : Hp} {x : Str} {u : Value} {pos : Pos} {Q : Value -> Shared -> Prop} (I : Inv X pins σ H s) (hg : Gl X x) (hm : X.mg x = none) (hv : bootBuiltins x = some u) (h : Q u s)
  (hn : x ≠ "__name__" := by decide) (hd : (x == ("__debug__" : Str)) = false := by decide) : wpAny (model X.prog X.w) X.A (eval (.Name x pos) X.env) Q E s := by
 obtain ⟨mb, h1, h2⟩ := I.mod.blt
 exact Calls.Name_function_global I.ok.kind hg (Calls.loadGlobal_builtin (by rw [I.ok.glob]; exact I.mod.glob.keeps I.bk) hm (by rw [I.ok.blt]; exact h1.keeps I.bk) ((h2 x hn).trans hv) h) hd
theorem a8s {x : Str} {v : V} {u : Value} {pos : Pos} (hg : Gl X x) (hm : X.mg x = some u) (r : RelV v u) (hd : (x == ("__debug__" : Str)) = false := by decide) : PE X (.Name x pos) (tC v) :=
 fun _ _ _ H _ I h => g1g I hg hm ⟨v, H, I, r, h⟩ hd
theorem f5n {x : Str} {v : V} {u : Value} {pos : Pos} (hg : Gl X x) (hm : X.mg x = none) (hv : bootBuiltins x = some u) (r : RelV v u) (hn : x ≠ "__name__" := by decide) (hd : (x == ("__debug__" : Str)) = false := by decide) : PE X (.Name x pos) (tC v) :=
 fun _ _ _ H _ I h => f0h I hg hm hv ⟨v, H, I, r, h⟩ hn hd
noncomputable def t2I (ta tb : TE) (k : Int -> Int -> Hp -> Prop) : St -> Hp -> Prop := fun σ H => ta σ H fun x H1 => tb σ H1 fun y H2 => ∃ i j, x = .int i /\ y = .int j /\ k i j H2
noncomputable def tAdd (ta tb : TE) : TE := fun σ H Q => t2I ta tb (fun i j H2 => Q (.int (i + j)) H2) σ H
noncomputable def tSub (ta tb : TE) : TE := fun σ H Q => t2I ta tb (fun i j H2 => Q (.int (i - j)) H2) σ H
noncomputable def tMul (ta tb : TE) : TE := fun σ H Q => t2I ta tb (fun i j H2 => (-(2 ^ 64) < i /\ i < 2 ^ 64) /\ Q (.int (i * j)) H2) σ H
variable {a b : Expr} {ta tb : TE} {pos : Pos}
noncomputable def PC (X : Cx) (op : CmpOp) (a b : Expr) (t : TE) : Prop :=
 ∀ (pins : List (Addr × Obj)) (s : Shared) (σ : St) (H : Hp) (Q : VK), Inv X pins σ H s -> t σ H Q ->
  wpAny (model X.prog X.w) X.A (eval a X.env) (fun v s₁ => wpAny (model X.prog X.w) X.A (eval b X.env) (fun u s₂ => wpAny (model X.prog X.w) X.A (compareOp op v u) (EP X pins σ Q) X.xe s₂) X.xe s₁) X.xe s
noncomputable def i1p (p : Int -> Int -> Bool) (ta tb : TE) : TE := fun σ H Q => t2I ta tb (fun i j H2 => Q (.bl (p i j)) H2) σ H
noncomputable abbrev tLt : TE -> TE -> TE := i1p fun i j => decide (i < j)
noncomputable abbrev tLe : TE -> TE -> TE := i1p fun i j => decide (i <= j)
noncomputable abbrev tGt : TE -> TE -> TE := i1p fun i j => decide (j < i)
noncomputable abbrev tGe : TE -> TE -> TE := i1p fun i j => decide (j <= i)
noncomputable abbrev tEqI : TE -> TE -> TE := i1p fun i j => decide (i = j)
noncomputable abbrev tNeI : TE -> TE -> TE := i1p fun i j => !decide (i = j)
noncomputable def tIsN (ta : TE) : TE := fun σ H Q => ta σ H fun x H1 => Q (.bl (decide (x = .non))) H1
noncomputable def tNotN (ta : TE) : TE := fun σ H Q => ta σ H fun x H1 => Q (.bl (!decide (x = .non))) H1
noncomputable def tB (t : TE) : TT := fun σ H Q => t σ H fun x H1 => ∃ c, x = .bl c /\ Q c H1
theorem i2d {e : Expr} {t : TE} (h : PE X e t) (he : ∀ whole, isTrue e X.env whole = (do let v <- whole; standAt e.pos; holding [v] (truthy v)) := by intro _; rfl) : PT X e (tB t) := by
 intro pins s σ H Q I hw
 refine isTrue_plain (thn (h pins s σ H _ I hw) fun v s1 ⟨x, H1, I1, r1, q1⟩ => ?_) (he _)
 obtain ⟨d, rfl, q⟩ := q1
 cases r1
 exact wpAny_truthy_bool ⟨H1, I1, q⟩
variable {tA tB' : TT} {rest : List Expr}
noncomputable def i9o (t u : TT) : TT := fun σ H Q => t σ H fun c H1 => if c = true then u σ H1 Q else Q false H1
noncomputable def tOr (t u : TT) : TT := fun σ H Q => t σ H fun c H1 => if c = true then Q true H1 else u σ H1 Q
noncomputable def i9p (t : TT) : TT := fun σ H Q => t σ H fun c H1 => Q (!c) H1
theorem pw_and1 (ha : PT X a tA) : PW X (.BoolOp .And [a] pos) tA := by
 intro wh pins s σ H Q I h
 refine isTrue_and (thn (ha pins s σ H Q I h) fun c s1 e => ?_)
 cases c with
 | true => exact isTrue_and_nil e
 | false => exact e
theorem pw_or1 (ha : PT X a tA) : PW X (.BoolOp .Or [a] pos) tA := by
 intro wh pins s σ H Q I h
 refine isTrue_or (thn (ha pins s σ H Q I h) fun c s1 e => ?_)
 cases c with
 | false => exact isTrue_or_nil e
 | true => exact e
theorem pw_and (ha : PT X a tA) (hb : PW X (.BoolOp .And (b :: rest) pos) tB') : PW X (.BoolOp .And (a :: b :: rest) pos) (i9o tA tB') := by
 intro wh pins s σ H Q I h
 refine isTrue_and (thn (ha pins s σ H _ I h) fun c s1 ⟨H1, I1, q1⟩ => ?_)
 cases c with
 | true => exact hb wh pins s1 σ H1 Q I1 q1
 | false => exact ⟨H1, I1, q1⟩
theorem pw_or (ha : PT X a tA) (hb : PW X (.BoolOp .Or (b :: rest) pos) tB') : PW X (.BoolOp .Or (a :: b :: rest) pos) (tOr tA tB') := by
 intro wh pins s σ H Q I h
 refine isTrue_or (thn (ha pins s σ H _ I h) fun c s1 ⟨H1, I1, q1⟩ => ?_)
 cases c with
 | true => exact ⟨H1, I1, q1⟩
 | false => exact hb wh pins s1 σ H1 Q I1 q1
theorem f0i (ha : PT X a tA) : PT X (.UnaryOp .Not a pos) (i9p tA) := by
 intro pins s σ H Q I h
 exact isTrue_not (ha pins s σ H (fun c H1 => Q (!c) H1) I h)
noncomputable def i2e (ta tb : TE) : TE := fun σ H Q => ta σ H fun x H1 => ∃ c, x = .bl c /\ if c = true then tb σ H1 Q else Q (.bl false) H1
noncomputable def tOrV (ta tb : TE) : TE := fun σ H Q => ta σ H fun x H1 => ∃ c, x = .bl c /\ if c = true then Q (.bl true) H1 else tb σ H1 Q
noncomputable def i2f (ta : TE) : TE := fun σ H Q => ta σ H fun x H1 => ∃ c, x = .bl c /\ Q (.bl (!c)) H1
theorem i2g {op} {t : TE} (h : PE X a t) : PE X (.BoolOp op [a] pos) t := fun pins s σ H Q I hw => BoolOp_one (h pins s σ H Q I hw)
theorem i2h (ha : PE X a ta) (hb : PE X (.BoolOp .And (b :: rest) pos) tb) : PE X (.BoolOp .And (a :: b :: rest) pos) (i2e ta tb) := by
 intro pins s σ H Q I h
 refine BoolOp_and (thn (ha pins s σ H _ I h) fun v s1 ⟨x, H1, I1, r1, q1⟩ => ?_)
 obtain ⟨c, rfl, q1⟩ := q1
 cases r1
 refine wpAny_truthy_bool ?_
 cases c with
 | true => exact hb pins s1 σ H1 Q I1 q1
 | false => exact ⟨.bl false, H1, I1, rfl, q1⟩
theorem i2i (ha : PE X a ta) : PE X (.UnaryOp .Not a pos) (i2f ta) := by
 intro pins s σ H Q I h
 refine UnaryOp_ (thn (ha pins s σ H _ I h) fun v s1 ⟨x, H1, I1, r1, q1⟩ => ?_)
 obtain ⟨c, rfl, q1⟩ := q1
 cases r1
 exact not_of (wpAny_truthy_bool ⟨.bl (!c), H1, I1, rfl, q1⟩)
noncomputable def tIf (t : TT) (ta tb : TE) : TE := fun σ H Q => t σ H fun c H1 => if c = true then ta σ H1 Q else tb σ H1 Q
theorem d9p {c : Expr} (hc : PT X c tA) (ha : PE X a ta) (hb : PE X b tb) : PE X (.IfExp c a b pos) (tIf tA ta tb) := by
 intro pins s σ H Q I h
 refine wpAny_IfExp (thn (hc pins s σ H _ I h) fun d s1 ⟨H1, I1, q1⟩ => ?_)
 cases d with
 | true => exact ha pins s1 σ H1 Q I1 q1
 | false => exact hb pins s1 σ H1 Q I1 q1
end
end L2
namespace L2
open PySem PySem.Spec PyProof.Rows
noncomputable def SqL (K : PySem.W.Frag) (H : Hp) (a : Addr) (xs : List V) : Prop :=
 Rd H a (.lst xs) \/
  ∃ (o : Obj) (its : Array Value) (n : Nat), K.lookup a = some o ∧ o.cls = .type "list" ∧ o.dict = none ∧ o.data = .seq its n ∧ its.size ≤ sizeLine ∧ Vals xs its.toList
noncomputable def SqT (K : PySem.W.Frag) (H : Hp) (a : Addr) (xs : List V) : Prop :=
 Rd H a (.tup xs) \/
  ∃ (o : Obj) (its : Array Value) (n : Nat), K.lookup a = some o ∧ o.cls = .type "tuple" ∧ o.data = .seq its n ∧ its.size ≤ sizeLine ∧ Vals xs its.toList
noncomputable def absV : Value -> Option V
 | .none => some .non
 | .bool b => some (.bl b)
 | .int i _ => some (.int i)
 | .str x _ => some (.str x)
 | .bytes b _ => some (.byt b)
 | .float b _ => some (.flt b)
 | .ref a => some (.ref a)
 | .type n => some (.ty n)
 | _ => none
theorem RelV.abs {x : V} {u : Value} (r : RelV x u) : absV u = some x := by
 cases x with
 | non => cases r; rfl
 | bl _ => cases r; rfl
 | int _ => obtain ⟨t, rfl⟩ := r; rfl
 | str _ => obtain ⟨t, rfl⟩ := r; rfl
 | byt _ => obtain ⟨t, rfl⟩ := r; rfl
 | flt _ => obtain ⟨t, rfl⟩ := r; rfl
 | ref _ => cases r; rfl
 | ty _ => cases r; rfl
theorem RelV.inj {x y : V} {u : Value} (r : RelV x u) (q : RelV y u) : x = y := Option.some.inj (r.abs.symm.trans q.abs)
theorem Vals.inj : ∀ {xs ys : List V} {us : List Value}, Vals xs us -> Vals ys us -> xs = ys
 | _, _, _, .nil, .nil => rfl
 | _, _, _, .cons r t, .cons r' t' => by rw [r.inj r', Vals.inj t t']
section
variable {X : Cx} {pins : List (Addr × Obj)} {σ : St} {H : Hp} {s : Shared} {a : Addr} {xs ys : List V}
theorem SqL.of {K : PySem.W.Frag} (h : H a = some (.lst xs)) : SqL K H a xs := .inl (.inl h)
theorem SqT.of {K : PySem.W.Frag} (h : H a = some (.tup xs)) : SqT K H a xs := .inl (.inl h)
theorem Inv.list (I : Inv X pins σ H s) (h : SqL X.K H a xs) : ∃ its : List Value, Vals xs its /\ PlainL s.heap a its.toArray /\ xs.length <= sizeLine := by
 rcases h with h | ⟨o, its, n, hk, hc, hd, hs, hz, r⟩
 ·obtain ⟨z, its, n, r, e⟩ := h.ok I.hok
  exact ⟨its, r, ⟨_, n, e, rfl, rfl, rfl⟩, z⟩
 ·refine ⟨its.toList, r, ⟨o, n, I.kIn a o hk, hc, hd, by simpa using hs⟩, ?_⟩
  have e := r.length
  simp only [Array.length_toList] at e
  omega
theorem Inv.tuple (I : Inv X pins σ H s) (h : SqT X.K H a xs) : ∃ its : List Value, Vals xs its /\ IsTup s.heap a its.toArray /\ xs.length <= sizeLine := by
 rcases h with h | ⟨o, its, n, hk, hc, hs, hz, r⟩
 ·obtain ⟨z, its, r, p⟩ := h.ok I.hok
  exact ⟨its, r, p, z⟩
 ·refine ⟨its.toList, r, ⟨o, I.kIn a o hk, hc, n, by simpa using hs⟩, ?_⟩
  have e := r.length
  simp only [Array.length_toList] at e
  omega
theorem Inv.f5o (I : Inv X pins σ H s) (h : SqL X.K H a xs) (h' : SqL X.K H a ys) : xs = ys := by
 obtain ⟨its, r, ⟨o, n, e, _, _, d⟩, _⟩ := I.list h
 obtain ⟨its', r', ⟨o', n', e', _, _, d'⟩, _⟩ := I.list h'
 rw [e] at e'; cases e'
 rw [d] at d'
 injection d' with d1 _
 have : its = its' := by simpa using congrArg Array.toList d1
 subst this
 exact r.inj r'
theorem Inv.f8i (I : Inv X pins σ H s) (h : SqT X.K H a xs) (h' : SqT X.K H a ys) : xs = ys := by
 obtain ⟨its, r, ⟨o, e, _, n, d⟩, _⟩ := I.tuple h
 obtain ⟨its', r', ⟨o', e', _, n', d'⟩, _⟩ := I.tuple h'
 rw [e] at e'; cases e'
 rw [d] at d'
 injection d' with d1 _
 have : its = its' := by simpa using congrArg Array.toList d1
 subst this
 exact r.inj r'
end
noncomputable abbrev Cx.wish (X : Cx) (E : Value -> Shared -> Prop) : Cx := { X with xe := E }
noncomputable abbrev Cx.nox (X : Cx) : Cx := X.wish fun _ _ => False
theorem Cx.Ok.wish {X : Cx} (ok : X.Ok) (E : Value -> Shared -> Prop) : (X.wish E).Ok :=
 ⟨ok.mod, ok.kind, ok.glob, ok.blt, ok.above, ok.inj, ok.has, ok.cab, ok.hd, ok.frames, ok.stk, ok.exf, ok.bs, ok.bsz, ok.h8h, ok.i2b, ok.g3l, ok.frf⟩
theorem Cx.Ok.c0q {X : Cx} {E : Value -> Shared -> Prop} (ok : (X.wish E).Ok) : X.Ok :=
 ⟨ok.mod, ok.kind, ok.glob, ok.blt, ok.above, ok.inj, ok.has, ok.cab, ok.hd, ok.frames, ok.stk, ok.exf, ok.bs, ok.bsz, ok.h8h, ok.i2b, ok.g3l, ok.frf⟩
section
variable {X : Cx} {pins : List (Addr × Obj)} {σ : St} {H : Hp} {s : Shared} {E : Value -> Shared -> Prop}
theorem Inv.wish (I : Inv X pins σ H s) (E : Value -> Shared -> Prop) : Inv (X.wish E) pins σ H s := ⟨I.ok.wish E, I.os, I.bare, I.base, I.loc, I.cell, I.free, I.d4t, I.pin, I.hok, I.len⟩
theorem Inv.c0q (I : Inv (X.wish E) pins σ H s) : Inv X pins σ H s := ⟨I.ok.c0q, I.os, I.bare, I.base, I.loc, I.cell, I.free, I.d4t, I.pin, I.hok, I.len⟩
theorem SP.c0q {D : Ends} {f : Flow} {s' : Shared} (h : SP (X.wish E) pins D f s') : SP X pins D f s' := by
 cases f with
 | next => obtain ⟨σ', H', I, q⟩ := h; exact ⟨σ', H', I.c0q, q⟩
 | brk => obtain ⟨σ', H', I, q⟩ := h; exact ⟨σ', H', I.c0q, q⟩
 | cont => obtain ⟨σ', H', I, q⟩ := h; exact ⟨σ', H', I.c0q, q⟩
 | ret u => obtain ⟨v, σ', H', I, r, q⟩ := h; exact ⟨v, σ', H', I.c0q, r, q⟩
theorem PE.nox {e : Expr} {t : TE} (h : PE X.nox e t) : PE X e t := fun pins s σ H Q I hw =>
 wpAny_mono (h pins s σ H Q (I.wish _) hw) (fun _ _ ⟨v, H', I', r, q⟩ => ⟨v, H', I'.c0q, r, q⟩) fun _ _ z => False.elim z
theorem PT.nox {e : Expr} {t : TT} (h : PT X.nox e t) : PT X e t := fun pins s σ H Q I hw =>
 wpAny_mono (h pins s σ H Q (I.wish _) hw) (fun _ _ ⟨H', I', q⟩ => ⟨H', I'.c0q, q⟩) fun _ _ z => False.elim z
theorem PSs.nox {st : List Stmt} {t : TS} (h : PSs X.nox st t) : PSs X st t := fun pins s σ H D I hw =>
 wpAny_mono (h pins s σ H D (I.wish _) hw) (fun _ _ q => q.c0q) fun _ _ z => False.elim z
end
section
variable {X : Cx} {st : Stmt} {rest : List Stmt} {t u : TS} {e : Expr} {te : TE} {pos : Pos}
noncomputable def i2j : TS := fun D σ H => D.nx σ H
noncomputable def i9q (t u : TS) : TS := fun D σ H => t { D with nx := u D } σ H
theorem a3h : PSs X [] i2j := fun _ _ σ H _ I h => wpAny_execs_nil ⟨σ, H, I, h⟩
theorem a0n (h1 : PS X st t) (h2 : PSs X rest u) : PSs X (st :: rest) (i9q t u) := by
 intro pins s σ H D I h
 refine wpAny_execs_cons (thn (h1 pins s σ H { D with nx := u D } I h) fun f s1 q => ?_)
 cases f with
 | next =>
  obtain ⟨σ', H', I', q⟩ := q
  exact h2 pins s1 σ' H' D I' q
 | ret v => exact q
 | brk => exact q
 | cont => exact q
theorem a0q (h1 : PS X st t) : PSs X [st] t := by
 intro pins s σ H D I h
 refine wpAny_execs_cons (thn (h1 pins s σ H D I h) fun f s1 q => ?_)
 cases f with
 | next => exact wpAny_execs_nil q
 | ret v => exact q
 | brk => exact q
 | cont => exact q
noncomputable def i9r : TS := fun D σ H => D.bk σ H
noncomputable def tCont : TS := fun D σ H => D.ct σ H
theorem Inv.quiet {pins : List (Addr × Obj)} {σ : St} {H : Hp} {s : Shared} (I : Inv X pins σ H s) : interactive X.env = false := by simp [interactive, I.ok.kind]
noncomputable def i2k (te : TE) : TS := fun D σ H => te σ H fun _ H1 => D.nx σ H1
theorem b8o (he : PE X e te) (hs : swapsWith e none pos.line X.env = pure false := by rfl) : PS X (.Expr e pos) (i2k te) := by
 intro pins s σ H D I h
 exact wpAny_Expr_any (thn (he pins s σ H _ I h) fun v s1 ⟨x, H1, I1, r1, q1⟩ => ⟨σ, H1, I1, q1⟩) I.quiet hs
noncomputable def i9s (te : TE) : TS := fun D σ H => te σ H D.rt
theorem a1i (he : PE X e te) : PS X (.Return (some e) pos) (i9s te) := by
 intro pins s σ H D I h
 exact wpAny_Return_some (thn (he pins s σ H _ I h) fun v s1 ⟨x, H1, I1, r1, q1⟩ => ⟨x, σ, H1, I1, r1, q1⟩)
noncomputable def i7n : TS := fun D _ H => D.rt .non H
noncomputable def i9t (c : TT) (t u : TS) : TS := fun D σ H => c σ H fun b H1 => if b = true then t D σ H1 else u D σ H1
theorem b0q {c : Expr} {a b : List Stmt} {tc : TT} (hc : PT X c tc) (ha : PSs X a t) (hb : PSs X b u) : PS X (.If c a b pos) (i9t tc t u) := by
 intro pins s σ H D I h
 refine wpAny_If (thn (hc pins s σ H _ I h) fun d s1 ⟨H1, I1, q1⟩ => ?_)
 cases d with
 | true => exact ha pins s1 σ H1 D I1 q1
 | false => exact hb pins s1 σ H1 D I1 q1
noncomputable def h5s : TS := fun _ _ _ => False
theorem a6m : PS X st h5s := fun _ _ _ _ _ _ h => h.elim
end
noncomputable abbrev TG := V -> St -> Hp -> (St -> Hp -> Prop) -> Prop
noncomputable abbrev TGs := List V -> St -> Hp -> (St -> Hp -> Prop) -> Prop
noncomputable def PG (X : Cx) (target : Expr) (t : TG) : Prop :=
 ∀ (pins : List (Addr × Obj)) (s : Shared) (σ : St) (H : Hp) (v : V) (u : Value) (Q : St -> Hp -> Prop), Inv X pins σ H s -> RelV v u -> t v σ H Q ->
  wpAny (model X.prog X.w) X.A (assign target X.env u) (fun _ s' => ∃ σ' H', Inv X pins σ' H' s' /\ Q σ' H') X.xe s
noncomputable def PGs (X : Cx) (ts : List Expr) (t : TGs) : Prop :=
 ∀ (pins : List (Addr × Obj)) (s : Shared) (σ : St) (H : Hp) (vs : List V) (us : List Value) (Q : St -> Hp -> Prop), Inv X pins σ H s -> Vals vs us -> t vs σ H Q ->
  wpAny (model X.prog X.w) X.A (assignInOrder ((assignEach ts X.env).map (·.2)) us) (fun _ s' => ∃ σ' H', Inv X pins σ' H' s' /\ Q σ' H') X.xe s
noncomputable abbrev i7o := V -> V -> V -> Hp -> (Hp -> Prop) -> Prop
noncomputable def PSet (X : Cx) (t : i7o) : Prop :=
 ∀ (pins : List (Addr × Obj)) (s : Shared) (σ : St) (H : Hp) (o i v : V) (ov iv u : Value) (Q : Hp -> Prop), Inv X pins σ H s -> RelV o ov -> RelV i iv -> RelV v u -> t o i v H Q ->
  wpAny (model X.prog X.w) X.A (setItem ov iv u) (fun _ s' => ∃ H', Inv X pins σ H' s' /\ Q H') X.xe s
noncomputable abbrev TIp := V -> V -> Hp -> VK -> Prop
noncomputable def PIp (X : Cx) (op : Operator) (t : TIp) : Prop :=
 ∀ (pins : List (Addr × Obj)) (s : Shared) (σ : St) (H : Hp) (x y : V) (v u : Value) (Q : VK), Inv X pins σ H s -> RelV x v -> RelV y u -> t x y H Q ->
  wpAny (model X.prog X.w) X.A (inplaceOp op v u) (EP X pins σ Q) X.xe s
section
variable {X : Cx} {pos : Pos}
noncomputable def g7z (i : Nat) : TG := fun v σ H Q => Q (σ.set i (some v)) H
theorem b2q {i : Nat} {x : Str} (hN : X.N.Nodup) (hi : X.N[i]? = some x) (hx : Loc X.env.scope x) (hf : X.fn x = true \/ X.env.scope.names.lookup x = some .local := by first | exact .inl rfl | exact .inr rfl | assumption) : PG X (.Name x pos) (g7z i) := by
 intro pins s σ H v u Q I r h
 exact wpAny_assign_Name (f5m I hN hi hx r (fun s' I' => ⟨_, H, I', h⟩) hf)
noncomputable def gNil : TGs := fun vs σ H Q => vs = [] /\ Q σ H
noncomputable def i7p (t : TG) (u : TGs) : TGs := fun vs σ H Q => ∃ v r, vs = v :: r /\ t v σ H fun σ' H' => u r σ' H' Q
theorem g8a : PGs X [] gNil := by
 intro pins s σ H vs us Q I r h
 obtain ⟨e, h⟩ := h
 subst e
 cases r
 exact assignInOrder_nil ⟨σ, H, I, h⟩
theorem f5p {e : Expr} {es : List Expr} {t : TG} {u : TGs} (h1 : PG X e t) (h2 : PGs X es u)
  (hs : (assignEach (e :: es) X.env).map (·.2) = assign e X.env :: (assignEach es X.env).map (·.2) := by rfl) : PGs X (e :: es) (i7p t u) := by
 intro pins s σ H vs us Q I r h
 obtain ⟨v, vr, e1, h⟩ := h
 subst e1
 cases r with
 | cons r rr =>
  rw [hs]
  refine assignInOrder_cons (thn (h1 pins s σ H _ _ _ I r h) fun _ s1 ⟨σ1, H1, I1, q1⟩ => ?_)
  exact h2 pins s1 σ1 H1 _ _ Q I1 rr q1
noncomputable def gTup (K : PySem.W.Frag) (n : Nat) (t : TGs) : TG := fun v σ H Q => ∃ a xs, v = .ref a /\ SqT K H a xs /\ xs.length = n /\ t xs σ H Q
theorem h5t {es : List Expr} {k : Nat} {t : TGs} {n : Nat} (hc : X.calm = true) (h : PGs X es t)
  (hn : (assignEach es X.env).length = n := by rfl) (hst : (assignEach es X.env).findIdx? (·.1) = none := by rfl) : PG X (.Tuple es k pos) (gTup X.K n t) := by
 intro pins s σ H v u Q I r hw
 obtain ⟨a, xs, e1, hq, hl, hw⟩ := hw
 subst e1
 cases r
 obtain ⟨its, rv, ht, hz⟩ := I.tuple hq
 refine assign_Tuple_tuple (I.ok.hd hc) ht (by simp [hn, <- hl, rv.length]) hst fun h' hx => ?_
 have I1 : Inv X pins σ H { s with heap := h' } := I.kept (t' := s.toks) fun b o e => hx b o (Nat.ne_of_lt (Heap.lt_size e)) e
 exact h pins _ σ H xs _ Q I1 (by simpa using rv) hw
noncomputable def gSub (to ti : TE) (t : i7o) : TG := fun v σ H Q => to σ H fun o H1 => ti σ H1 fun i H2 => t o i v H2 fun H3 => Q σ H3
noncomputable def i6z (te : TE) (g : TG) : TS := fun D σ H => te σ H fun x H1 => g x σ H1 D.nx
theorem a1h {i : Nat} {x : Str} {e : Expr} {te : TE} {pos' : Pos} (hN : X.N.Nodup) (hi : X.N[i]? = some x) (hx : Loc X.env.scope x) (he : PE X e te) (hs : swapsWith e (some (.Name x pos')) pos.line X.env = pure false := by rfl) (hf : X.fn x = true \/ X.env.scope.names.lookup x = some .local := by first | exact .inl rfl | exact .inr rfl | assumption) :
  PS X (.Assign [.Name x pos'] e pos) (i6z te (g7z i)) := by
 intro pins s σ H D I h
 refine wpAny_Assign_Name (thn (he pins s σ H _ I h) fun v s1 ⟨y, H1, I1, r1, q1⟩ => ?_) hs
 exact f5m I1 hN hi hx r1 (fun s2 I2 => ⟨_, H1, I2, q1⟩) hf
noncomputable def tPar (i j : Nat) (ta : TA) : TS := fun D σ H => ta σ H fun vs H1 => ∃ v w, vs = [v, w] /\ D.nx ((σ.set i (some v)).set j (some w)) H1
noncomputable def tAug (i : Nat) (te : TE) (ti : TIp) : TS := fun D σ H => ∃ x, σ[i]? = some (some x) /\ te σ H fun y H1 => ti x y H1 fun z H2 => D.nx (σ.set i (some z)) H2
theorem i2l {i : Nat} {x : Str} {e : Expr} {te : TE} {op : Operator} {ti : TIp} {pos' : Pos} (hN : X.N.Nodup) (hi : X.N[i]? = some x) (hx : Loc X.env.scope x) (he : PE X e te) (ho : PIp X op ti) (hf : X.fn x = true \/ X.env.scope.names.lookup x = some .local := by first | exact .inl rfl | exact .inr rfl | assumption) :
  PS X (.AugAssign (.Name x pos') op e pos) (tAug i te ti) := by
 intro pins s σ H D I h
 obtain ⟨v, e1, h⟩ := h
 obtain ⟨m, hn, hl⟩ := I.loc
 have vis : Vis X.env.scope x := by rcases hx with k | k; exact .inl k; exact .inr (.inl k)
 obtain ⟨u, r, l⟩ := hl i x v hi e1 vis
 refine wpAny_AugAssign_Name ?_
 have go : wpAny (model X.prog X.w) X.A (eval e X.env) (fun w s₂ => wpAny (model X.prog X.w) X.A (inplaceOp op u w) (fun r s₃ => wpAny (model X.prog X.w) X.A (storeName X.env x r) (fun _ => SP X pins D .next) X.xe s₃) X.xe s₂) X.xe s := by
  refine thn (he pins s σ H _ I h) fun w s1 ⟨y, H1, I1, r1, q1⟩ => ?_
  refine thn (ho pins s1 σ H1 v y u w _ I1 r r1 q1) fun z s2 ⟨zv, H2, I2, r2, q2⟩ => ?_
  exact f5m I2 hN hi hx r2 (fun s3 I3 => ⟨_, H2, I3, q2⟩) hf
 rcases l with ⟨hk, hm⟩ | ⟨hk, c, hc, hcell⟩
 ·exact wpAny_loadName_local I.ok.kind hk hn hm go
 ·rcases hk with hk | hk
  ·exact wpAny_loadName_cell I.ok.kind hk hc hcell go
  ·rcases hx with k | k
   ·have : X.env.scope.names.lookup x = some .free := hk
    rw [k] at this; cases this
   ·have : X.env.scope.names.lookup x = some .free := hk
    rw [k] at this; cases this
noncomputable def tAugS (to ti te : TE) (tget : V -> V -> Hp -> VK -> Prop) (tip : TIp) (tset : i7o) : TS := fun D σ H => to σ H fun o H1 => ti σ H1 fun i H2 => tget o i H2 fun x H3 => te σ H3 fun y H4 => tip x y H4 fun z H5 => tset o i z H5 fun H6 => D.nx σ H6
noncomputable def PGet (X : Cx) (t : V -> V -> Hp -> VK -> Prop) : Prop :=
 ∀ (pins : List (Addr × Obj)) (s : Shared) (σ : St) (H : Hp) (o i : V) (ov iv : Value) (Q : VK), Inv X pins σ H s -> RelV o ov -> RelV i iv -> t o i H Q ->
  wpAny (model X.prog X.w) X.A (getItem ov iv) (EP X pins σ Q) X.xe s
noncomputable def ipI (f : Int -> Int -> Int) : TIp := fun x y H Q => ∃ i j, x = .int i /\ y = .int j /\ Q (.int (f i j)) H
end
section
variable {X : Cx} {pos : Pos}
noncomputable def i9u (c : TT) (tb : TS) : TS := fun D σ H => ∃ W : Nat -> St -> Hp -> Prop, (∃ m, W m σ H) /\ ∀ m σ H, W m σ H ->
 c σ H fun b H1 => if b = true then ∃ N : St -> Hp -> Prop, (∀ σ' H', N σ' H' -> ∃ m', m' < m /\ W m' σ' H') /\ tb { D with nx := N, ct := N, bk := D.nx } σ H1 else D.nx σ H1
end
structure It where
 go : Nat -> Hp -> Prop
 yld : Nat -> Hp -> V -> Hp -> Prop
 stop : Nat -> Hp -> Prop
noncomputable def f5q (X : Cx) (pins : List (Addr × Obj)) (H : Hp) (b : Addr) : Prop :=
 H b = none /\ b ≠ X.env.locals /\ b ∉ X.fs /\ (b ∈ X.ex \/ X.s₀.heap.objs.size <= b) /\ (∀ x c, X.env.cells.lookup x = some c -> c ≠ b) /\ ∀ p ∈ X.pn ++ pins, p.1 ≠ b
theorem Inv.h3b {X : Cx} {pins : List (Addr × Obj)} {σ : St} {H H' : Hp} {s : Shared} {b : Addr} (I : Inv X pins σ H s) (hb : s.heap.objs.size <= b) (hn : H' b = none) : f5q X pins H' b := by
 refine ⟨hn, Nat.ne_of_gt (Nat.lt_of_lt_of_le I.lt hb), I.nofs hb, .inr (Nat.le_trans I.sz hb), fun x c e z => ?_, fun p hp z => ?_⟩
 ·obtain ⟨v, q⟩ := I.cell x c e
  exact absurd (Nat.lt_of_lt_of_le q.lt (by rw [z]; exact hb)) (Nat.lt_irrefl _)
 ·exact absurd (Nat.lt_of_lt_of_le (Heap.lt_size (I.pin p hp).1) (by rw [z]; exact hb)) (Nat.lt_irrefl _)
structure Turn (P : Program) (w : World) (K : PySem.W.Frag) (tg : Expr) (J : It) (fp : List Addr) (it : Addr) (tn : Nat -> Heap -> Prop) : Prop where
 mem : it ∈ fp
 obj : ∀ i h, tn i h -> ∀ b ∈ fp, ∃ o, h.get? b = some o /\ ∀ v, o.data ≠ .cell v
 keep : ∀ i h h', tn i h -> (∀ b ∈ fp, ∀ o, h.get? b = some o -> h'.get? b = some o) -> tn i h'
 item : ∀ (X : Cx), X.prog = P -> X.w = w -> X.K = K -> X.calm = true -> ∀ (i : Nat) (pins : List (Addr × Obj)) (s : Shared) (σ : St) (H : Hp) (E : Value -> Shared -> Prop), Inv X pins σ H s -> (∀ b ∈ fp, f5q X pins H b) -> tn i s.heap -> J.go i H ->
  wpAny (model P w) X.A (pyNext (.ref it)) (fun r s1 => ∃ u, r = some u /\
   wpAny (model P w) X.A (letOwnedTupleGo tg (.ref it) u) (fun _ s2 => ∃ x H', Inv X pins σ H' s2 /\ RelV x u /\ J.yld i H x H' /\ tn (i + 1) s2.heap /\ ∀ b ∈ fp, H' b = none) E s1) E s
 done : ∀ (X : Cx), X.prog = P -> X.w = w -> X.K = K -> X.calm = true -> ∀ (i : Nat) (pins : List (Addr × Obj)) (s : Shared) (σ : St) (H : Hp) (E : Value -> Shared -> Prop), Inv X pins σ H s -> (∀ b ∈ fp, f5q X pins H b) -> tn i s.heap -> J.stop i H ->
  wpAny (model P w) X.A (pyNext (.ref it)) (fun r s1 => r = none /\ Inv X pins σ H s1) E s
 self : ∀ (A : Around) (i : Nat) (s : Shared) (Q : Value -> Shared -> Prop) (E : Value -> Shared -> Prop), tn i s.heap -> Q (.ref it) s -> wpAny (model P w) A (pyIter (.ref it)) Q E s
noncomputable abbrev TI := St -> Hp -> (It -> Hp -> Prop) -> Prop
noncomputable def PIE (X : Cx) (pins : List (Addr × Obj)) (σ : St) (tg : Expr) (R : It -> Hp -> Prop) (itv : Value) (s2 : Shared) : Prop :=
 ∃ (it : Addr) (fp : List Addr) (tn : Nat -> Heap -> Prop) (J : It) (H' : Hp), itv = .ref it /\ Inv X pins σ H' s2 /\ Turn X.prog X.w X.K tg J fp it tn /\ tn 0 s2.heap /\ (∀ b ∈ fp, f5q X pins H' b) /\ R J H'
noncomputable def PI (X : Cx) (tg iter : Expr) (wi : TI) : Prop :=
 ∀ (pins : List (Addr × Obj)) (s : Shared) (σ : St) (H : Hp) (R : It -> Hp -> Prop), Inv X pins σ H s -> wi σ H R ->
  wpAny (model X.prog X.w) X.A (eval iter X.env) (fun v s1 => wpAny (model X.prog X.w) X.A (pyIter v) (PIE X pins σ tg R) X.xe s1) X.xe s
theorem h3j {M : Model} {A : Around} {E : Value -> Shared -> Prop} {s : Shared} {tg : Expr} {it : Addr} {u : Value} {o : Obj} {n : String} {vs : Array Value} {Q : Unit -> Shared -> Prop} (ho : s.heap.get? it = some o) (hc : o.cls = .type n) (hd : o.data = .fields vs)
  (hn : ["enumerate", "zip", "dict_itemiterator", "dict_reverseitemiterator", "odict_iterator", "itertools.zip_longest", "itertools.pairwise"].contains n = false) (hQ : Q () s) : wpAny M A (letOwnedTupleGo tg (.ref it) u) Q E s := by
 unfold letOwnedTupleGo
 cases tg <;> first
  | exact wpAny_pure hQ
  | (cases u <;> first
    | exact wpAny_pure hQ
    | (refine wpAny_bind (wpAny_load ho ?_)
       rw [hc, hd]
       show wpAny M A (if (["enumerate", "zip", "dict_itemiterator", "dict_reverseitemiterator", "odict_iterator", "itertools.zip_longest", "itertools.pairwise"].contains n && vs[0]? == some (rawInt _)) = true then _ else _) Q E s
       rw [if_neg (by intro h; rw [hn, Bool.false_and] at h; cases h)]
       exact wpAny_pure hQ))
noncomputable def Itl (K : PySem.W.Frag) (a : Addr) : It :=
 ⟨fun i H => ∃ xs x, SqL K H a xs /\ xs[i]? = some x, fun i H x H' => H' = H /\ ∀ xs, SqL K H a xs -> xs[i]? = some x, fun i H => ∃ xs, SqL K H a xs /\ xs.length <= i⟩
noncomputable def Itt (K : PySem.W.Frag) (a : Addr) : It :=
 ⟨fun i H => ∃ xs x, SqT K H a xs /\ xs[i]? = some x, fun i H x H' => H' = H /\ ∀ xs, SqT K H a xs -> xs[i]? = some x, fun i H => ∃ xs, SqT K H a xs /\ xs.length <= i⟩
noncomputable def Itr (lo : Int) (n : Nat) : It := ⟨fun i _ => i < n, fun i H x H' => H' = H /\ x = .int (lo + i), fun i _ => n <= i⟩
theorem g8b {P : Program} {w : World} {K : PySem.W.Frag} {tg : Expr} (a it : Addr) : Turn P w K tg (Itl K a) [it] it (fun i h => h.IsListIter it a i) where
 mem := by simp
 obj := fun i h st b hb => by
  have e : b = it := by simpa using hb
  subst e
  obtain ⟨o, e, c, d⟩ := st
  exact ⟨o, e, fun v z => by rw [d] at z; cases z⟩
 keep := fun i h h' st k => st.at fun o e => k it (by simp) o e
 item := by
  intro X hP hw hK hc i pins s σ H E I hf st hg
  subst hP hw hK
  obtain ⟨xs, x, hq, hx⟩ := hg
  obtain ⟨its, rv, p, hz⟩ := I.list hq
  obtain ⟨u, hu, ru⟩ := rv.get hx
  obtain ⟨f0, f1, f2, f3, f4, f5⟩ := hf it (by simp)
  refine wpAny_pyNext_list_item st p.isList (x := u) (by simpa using hu) fun h' st' sb => ?_
  have I1 : Inv X pins σ H { s with heap := h' } := I.turned (t' := s.toks) (fun b o hb e => (sb.2 b hb).trans e) f0 f1 f3 f4 f5
  obtain ⟨o, e, c, d⟩ := id st'
  exact ⟨u, rfl, h3j (s := { s with heap := h' }) e c d (by decide) ⟨x, H, I1, ru, ⟨rfl, fun ys hy => by rw [I.f5o hy hq]; exact hx⟩, st', fun b hb => (hf b hb).1⟩⟩
 done := by
  intro X hP hw hK hc i pins s σ H E I hf st hg
  subst hP hw hK
  obtain ⟨xs, hq, hx⟩ := hg
  obtain ⟨its, rv, p, hz⟩ := I.list hq
  obtain ⟨f0, f1, f2, f3, f4, f5⟩ := hf it (by simp)
  have hl := rv.length
  exact wpAny_pyNext_list_end (I.ok.hd hc) st p.isList (by simp; omega) fun h' eb => ⟨rfl, I.turned (t' := s.toks) (fun b o hb e => eb b o hb e) f0 f1 f3 f4 f5⟩
 self := fun _ _ _ _ _ st h => wpAny_pyIter_listiter st h
theorem g5g {P : Program} {w : World} {K : PySem.W.Frag} {tg : Expr} (a it : Addr) : Turn P w K tg (Itt K a) [it] it (fun i h => h.IsTupleIter it a i) where
 mem := by simp
 obj := fun i h st b hb => by
  have e : b = it := by simpa using hb
  subst e
  obtain ⟨o, e, c, d⟩ := st
  exact ⟨o, e, fun v z => by rw [d] at z; cases z⟩
 keep := fun i h h' st k => st.at fun o e => k it (by simp) o e
 item := by
  intro X hP hw hK hc i pins s σ H E I hf st hg
  subst hP hw hK
  obtain ⟨xs, x, hq, hx⟩ := hg
  obtain ⟨its, rv, p, hz⟩ := I.tuple hq
  obtain ⟨u, hu, ru⟩ := rv.get hx
  obtain ⟨f0, f1, f2, f3, f4, f5⟩ := hf it (by simp)
  refine wpAny_pyNext_tuple_item st (show s.heap.IsTuple a its.toArray from p) (x := u) (by simpa using hu) fun h' st' sb => ?_
  have I1 : Inv X pins σ H { s with heap := h' } := I.turned (t' := s.toks) (fun b o hb e => (sb.2 b hb).trans e) f0 f1 f3 f4 f5
  obtain ⟨o, e, c, d⟩ := id st'
  exact ⟨u, rfl, h3j (s := { s with heap := h' }) e c d (by decide) ⟨x, H, I1, ru, ⟨rfl, fun ys hy => by rw [I.f8i hy hq]; exact hx⟩, st', fun b hb => (hf b hb).1⟩⟩
 done := by
  intro X hP hw hK hc i pins s σ H E I hf st hg
  subst hP hw hK
  obtain ⟨xs, hq, hx⟩ := hg
  obtain ⟨its, rv, p, hz⟩ := I.tuple hq
  obtain ⟨f0, f1, f2, f3, f4, f5⟩ := hf it (by simp)
  have hl := rv.length
  exact wpAny_pyNext_tuple_end (I.ok.hd hc) st (show s.heap.IsTuple a its.toArray from p) (by simp; omega) fun h' eb => ⟨rfl, I.turned (t' := s.toks) (fun b o hb e => eb b o hb e) f0 f1 f3 f4 f5⟩
 self := fun _ _ _ _ _ st h => wpAny_pyIter_tupleiter st h
theorem g5h {P : Program} {w : World} {K : PySem.W.Frag} {tg : Expr} (it : Addr) (lo : Int) (n : Nat) : Turn P w K tg (Itr lo n) [it] it (fun i h => IsRangeIter h it (lo + (i : Nat) * 1) ((n : Int) - (i : Nat)) 1) where
 mem := by simp
 obj := fun i h st b hb => by
  have e : b = it := by simpa using hb
  subst e
  exact ⟨_, st, fun v z => by
   have z' : Data.fields _ = Data.cell v := z
   cases z'⟩
 keep := fun i h h' st k => k it (by simp) _ st
 item := by
  intro X hP hw hK hc i pins s σ H E I hf st hg
  subst hP hw hK
  obtain ⟨f0, f1, f2, f3, f4, f5⟩ := hf it (by simp)
  have W := Walks.range (prog := X.prog) (w := X.w) (I.ok.hd hc) it lo 1 n
  refine W.item i s _ _ hg st fun v h' tk hv st' kk => ?_
  obtain ⟨t, rfl⟩ := hv
  have I1 : Inv X pins σ H { s with heap := h', toks := tk } := I.turned (fun b o hb e => kk b o (by simpa using hb) e) f0 f1 f3 f4 f5
  refine ⟨_, rfl, h3j (s := { s with heap := h', toks := tk }) (n := "range_iterator") st' rfl rfl (by decide) ⟨.int (lo + i), H, I1, ⟨t, ?_⟩, ⟨rfl, rfl⟩, st', fun b hb => (hf b hb).1⟩⟩
  rw [Int.mul_one]
 done := by
  intro X hP hw hK hc i pins s σ H E I hf st hg
  subst hP hw hK
  obtain ⟨f0, f1, f2, f3, f4, f5⟩ := hf it (by simp)
  exact wpAny_pyNext_range_end (I.ok.hd hc) st (by have : n <= i := hg; omega) fun h' eb => ⟨rfl, I.turned (t' := s.toks) (fun b o hb e => eb b o hb e) f0 f1 f3 f4 f5⟩
 self := fun _ _ _ _ _ st h => wpAny_pyIter_rangeiter st h
end L2
namespace L2
open PySem PySem.Spec PyProof.Rows
section
variable {X : Cx} {tg : Expr}
noncomputable def i2m (K : PySem.W.Frag) (tl : TE) : TI := fun σ H R => tl σ H fun x H1 => ∃ a, x = .ref a /\ (∃ xs, SqL K H1 a xs) /\ R (Itl K a) H1
noncomputable def iTup (K : PySem.W.Frag) (tl : TE) : TI := fun σ H R => tl σ H fun x H1 => ∃ a, x = .ref a /\ (∃ xs, SqT K H1 a xs) /\ R (Itt K a) H1
theorem h8i {l : Expr} {tl : TE} (hl : PE X l tl) : PI X tg l (i2m X.K tl) := by
 intro pins s σ H R I h
 refine thn (hl pins s σ H _ I h) fun v s1 ⟨x, H1, I1, r1, q1⟩ => ?_
 obtain ⟨a, e, ⟨xs, hq⟩, q⟩ := q1
 subst e
 cases r1
 obtain ⟨its, rv, p, hz⟩ := I1.list hq
 refine wpAny_pyIter_list p.isList ?_
 refine ⟨s1.heap.objs.size, [s1.heap.objs.size], _, _, H1, rfl, I1.kept (t' := s1.toks) fun b o e => Heap.get?_push_of_some _ e, g8b a _, ⟨_, Heap.get?_push_size _ rfl, rfl, rfl⟩, fun b hb => ?_, q⟩
 have e : b = s1.heap.objs.size := by simpa using hb
 subst e
 exact I1.h3b (Nat.le_refl _) (I1.hok.fresh (Nat.le_refl _))
theorem g3n {pins : List (Addr × Obj)} {σ : St} {H : Hp} {s : Shared} {R : It -> Hp -> Prop} {E : Value -> Shared -> Prop} {lo hi : Int} {t u v : Tok} {tk : Nat} (I : Inv X pins σ H s) (h1 : -(2 ^ 62) <= lo) (h2 : lo < 2 ^ 62) (h3 : -(2 ^ 62) <= hi) (h4 : hi < 2 ^ 62)
  (q : R (Itr lo (hi - lo).toNat) H) : wpAny (model X.prog X.w) X.A (pyIter (.ref s.heap.objs.size)) (PIE X pins σ tg R) E { s with heap := s.heap.push { cls := .type "range", data := .fields #[.int lo t, .int hi u, .int 1 v] }, toks := tk } := by
 refine wpAny_pyIter_range (IsRange.new ..) (small_one h1 h2 h3 h4) ?_
 have I1 : Inv X pins σ H { s with heap := s.heap.push { cls := .type "range", data := .fields #[.int lo t, .int hi u, .int 1 v] }, toks := tk } := I.kept fun b o e => Heap.get?_push_of_some _ e
 refine ⟨(s.heap.push { cls := .type "range", data := .fields #[.int lo t, .int hi u, .int 1 v] }).objs.size, [(s.heap.push { cls := .type "range", data := .fields #[.int lo t, .int hi u, .int 1 v] }).objs.size], _, _, H, rfl,
  I1.kept (t' := tk) fun b o e => Heap.get?_push_of_some _ e, g5h _ lo (hi - lo).toNat, ?_, fun b hb => ?_, q⟩
 ·have e1 : lo + ((0 : Nat) : Int) * 1 = lo := by simp
  have e2 : (((hi - lo).toNat : Nat) : Int) - ((0 : Nat) : Int) = Builtin.Range.rangeSize lo hi 1 := by rw [rangeSize_one]; split <;> omega
  show IsRangeIter _ _ (lo + ((0 : Nat) : Int) * 1) ((((hi - lo).toNat : Nat) : Int) - ((0 : Nat) : Int)) 1
  rw [e1, e2]
  exact Heap.get?_push_size _ rfl
 ·have e : b = (s.heap.push { cls := .type "range", data := .fields #[.int lo t, .int hi u, .int 1 v] }).objs.size := by simpa using hb
  subst e
  exact I1.h3b (Nat.le_refl _) (I1.hok.fresh (Nat.le_refl _))
noncomputable def i2n (ta : TA) : TI := fun σ H R => ta σ H fun vs H1 => ∃ j : Int, vs = [.int j] /\ -(2 ^ 62) <= j /\ j < 2 ^ 62 /\ R (Itr 0 j.toNat) H1
noncomputable def i2o (ta : TA) : TI := fun σ H R => ta σ H fun vs H1 => ∃ i j : Int, vs = [.int i, .int j] /\ (-(2 ^ 62) <= i /\ i < 2 ^ 62 /\ -(2 ^ 62) <= j /\ j < 2 ^ 62) /\ R (Itr i (j - i).toNat) H1
theorem g8c {a : Expr} {ta : TA} {p pos : Pos} (hg : Gl X "range") (hm : X.mg "range" = none) (ha : PA X [a] ta) (hs : starEach [a] X.env = [(false, eval a X.env)] := by rfl) : PI X tg (.Call (.Name "range" p) [a] [] pos) (i2n ta) := by
 intro pins s σ H R I h
 refine Call_ (f0h I hg hm boot_range (PyProof.Rows.callWith_type1 (thn (ha pos pins s σ H _ I h) fun us s1 ⟨vs, H1, I1, r1, q1⟩ => ?_) hs rfl))
 obtain ⟨j, e, q1, q2, q⟩ := q1
 subst e
 cases r1 with
 | cons r rr =>
  cases rr
  obtain ⟨t, rfl⟩ := r
  exact call_range_1 (g3n I1 (by omega) (by omega) q1 q2 (by simpa using q))
theorem g8d {a b : Expr} {ta : TA} {p pos : Pos} (hg : Gl X "range") (hm : X.mg "range" = none) (ha : PA X [a, b] ta) (hs : starEach [a, b] X.env = [(false, eval a X.env), (false, eval b X.env)] := by rfl) (hs2 : starEach [b] X.env = [(false, eval b X.env)] := by rfl) :
  PI X tg (.Call (.Name "range" p) [a, b] [] pos) (i2o ta) := by
 intro pins s σ H R I h
 refine Call_ (f0h I hg hm boot_range (PyProof.Rows.callWith_type1 (thn (ha pos pins s σ H _ I h) fun us s1 ⟨vs, H1, I1, r1, q1⟩ => ?_) (by rw [hs, hs2]) (by rw [hs2]; rfl)))
 obtain ⟨i, j, e, ⟨q1, q2, q3, q4⟩, q⟩ := q1
 subst e
 cases r1 with
 | cons r rr =>
  cases rr with
  | cons r' rr =>
   cases rr
   obtain ⟨t, rfl⟩ := r
   obtain ⟨t', rfl⟩ := r'
   exact call_range_2 (g3n I1 q1 q2 q3 q4 q)
noncomputable def tFor (wi : TI) (g : TG) (tb : TS) : TS := fun D σ H => wi σ H fun J H1 => ∃ W : Nat -> Nat -> St -> Hp -> Prop, (∃ m, W 0 m σ H1) /\ ∀ i m σ H, W i m σ H ->
 (J.stop i H /\ D.nx σ H) \/ (J.go i H /\ ∃ N : St -> Hp -> Prop, (∀ σ' H', N σ' H' -> ∃ m', m' < m /\ W (i + 1) m' σ' H') /\ ∀ x H', J.yld i H x H' -> g x σ H' fun σ2 H2 => tb { D with nx := N, ct := N, bk := D.nx } σ2 H2)
noncomputable def f4k (fp : List Addr) (h : Heap) : List (Addr × Obj) := fp.filterMap fun b => (h.get? b).map fun o => (b, o)
theorem b7s {fp : List Addr} {h : Heap} {b : Addr} {o : Obj} (hb : b ∈ fp) (e : h.get? b = some o) : (b, o) ∈ f4k fp h := List.mem_filterMap.mpr ⟨b, hb, by rw [e]; rfl⟩
theorem g8e {fp : List Addr} {h : Heap} {p : Addr × Obj} (hp : p ∈ f4k fp h) : p.1 ∈ fp /\ h.get? p.1 = some p.2 := by
 obtain ⟨b, hb, e⟩ := List.mem_filterMap.mp hp
 cases q : h.get? b with
 | none => rw [q] at e; cases e
 | some o =>
  rw [q] at e
  have e' : (b, o) = p := Option.some.inj e
  subst e'
  exact ⟨hb, q⟩
theorem Inv.pinned {pins : List (Addr × Obj)} {σ : St} {H : Hp} {s : Shared} {fp : List Addr} (I : Inv X pins σ H s) (hf : ∀ b ∈ fp, f5q X pins H b) (ho : ∀ b ∈ fp, ∃ o, s.heap.get? b = some o /\ ∀ v, o.data ≠ .cell v) : Inv X (pins ++ f4k fp s.heap) σ H s :=
 I.g7w fun p hp => (List.mem_append.mp hp).elim (fun z => I.pin p (List.mem_append_right _ z)) fun z => by
  obtain ⟨hb, e⟩ := g8e z
  obtain ⟨f0, f1, f2, _⟩ := hf p.1 hb
  obtain ⟨o, e', d⟩ := ho p.1 hb
  rw [e] at e'; cases e'
  exact ⟨e, f0, f1, f2, d⟩
theorem Inv.d4u {pins pl : List (Addr × Obj)} {σ : St} {H : Hp} {s : Shared} (I : Inv X (pins ++ pl) σ H s) : Inv X pins σ H s := I.g7w fun p hp => I.pin p (List.mem_append_right _ (List.mem_append_left _ hp))
theorem i2p {iter : Expr} {body : List Stmt} {wi : TI} {g : TG} {tb : TS} {pos : Pos} (hp : PassesOwn (model X.prog X.w) X.A X.env X.xe) (hc : X.calm = true) (hi : PI X tg iter wi) (hg : PG X tg g) (hb : PSs X body tb)
  (hs : ∀ x, foldedSetIterable iter X.env x = pure x := by intro _; rfl) : PS X (.For tg iter body [] pos) (tFor wi g tb) := by
 intro pins s σ H D I h
 refine wpAny_For (thn (hi pins s σ H _ I h) fun v s1 h1 => thn h1 fun itv s2 h2 => ?_) hs
 obtain ⟨it, fp, tn, J, H2, e, I2, T, st2, f2, W, ⟨m0, w0⟩, turn⟩ := h2
 subst e
 -- what stays true of the iterator's objects through the loop
 have stat : ∀ {H' : Hp}, (∀ b ∈ fp, H' b = none) -> ∀ b ∈ fp, f5q X pins H' b := fun hn b hb => ⟨hn b hb, (f2 b hb).2⟩
 refine codeAny_forLoop_any (fun n s' => ∃ i σ' H', Inv X pins σ' H' s' /\ tn i s'.heap /\ (∀ b ∈ fp, H' b = none) /\ W i n σ' H') ?_ m0 ⟨0, σ, H2, I2, st2, fun b hb => (f2 b hb).1, w0⟩
 rintro n s3 ⟨i, σ3, H3, I3, st3, fr3, w3⟩
 rcases turn i n σ3 H3 w3 with ⟨stop, qn⟩ | ⟨go, N, hN, step⟩
 ·refine wpAny_passesOwn hp (thn (T.done X rfl rfl rfl hc i pins s3 σ3 H3 X.xe I3 (stat fr3) st3 stop) fun r s4 ⟨hr, I4⟩ => ?_)
  subst hr
  exact wpAny_execs_nil ⟨σ3, H3, I4, qn⟩
 ·refine wpAny_passesOwn hp (thn (T.item X rfl rfl rfl hc i pins s3 σ3 H3 X.xe I3 (stat fr3) st3 go) fun r s4 ⟨u, hr, h4⟩ => ?_)
  subst hr
  refine wpAny_passesOwn hp (thn h4 fun _ s5 ⟨x, H5, I5, r5, y5, st5, fr5⟩ => ?_)
  have I5' := I5.pinned (stat fr5) (T.obj _ _ st5)
  refine wpAny_passesOwn hp (thn (hg _ s5 σ3 H5 x u _ I5' r5 (step x H5 y5)) fun _ s6 ⟨σ6, H6, I6, q6⟩ => ?_)
  refine wpAny_passesOwn hp (thn (hb _ s6 σ6 H6 _ I6 q6) fun f s7 q7 => ?_)
  have again : ∀ {σ7 : St} {H7 : Hp}, Inv X (pins ++ f4k fp s5.heap) σ7 H7 s7 -> N σ7 H7 -> ∃ m, m < n /\ ∃ i σ' H', Inv X pins σ' H' s7 /\ tn i s7.heap /\ (∀ b ∈ fp, H' b = none) /\ W i m σ' H' := fun {σ7 H7} I7 n7 => by
   obtain ⟨m', hm, w7⟩ := hN σ7 H7 n7
   refine ⟨m', hm, i + 1, σ7, H7, I7.d4u, T.keep _ _ _ st5 fun b hb o e => (I7.pin (b, o) (List.mem_append_right _ (List.mem_append_right _ (b7s hb e)))).1, fun b hb => ?_, w7⟩
   obtain ⟨o, e, d⟩ := T.obj _ _ st5 b hb
   exact (I7.pin (b, o) (List.mem_append_right _ (List.mem_append_right _ (b7s hb e)))).2.1
  cases f with
  | next => obtain ⟨σ7, H7, I7, n7⟩ := q7; exact again I7 n7
  | cont => obtain ⟨σ7, H7, I7, n7⟩ := q7; exact again I7 n7
  | brk => obtain ⟨σ7, H7, I7, q7⟩ := q7; exact ⟨σ7, H7, I7.d4u, q7⟩
  | ret v => obtain ⟨x7, σ7, H7, I7, r7, q7⟩ := q7; exact ⟨x7, σ7, H7, I7.d4u, r7, q7⟩
end
theorem h3k {K : PySem.W.Frag} {a : Addr} {xs : List V} {g : TG} {tb : TS} {D : Ends} {σ : St} {H : Hp} (Pv : Nat -> St -> Hp -> Prop) (h0 : Pv 0 σ H) (hl : ∀ i σ H, i <= xs.length -> Pv i σ H -> SqL K H a xs)
  (hs : ∀ i x σ H, xs[i]? = some x -> Pv i σ H -> g x σ H fun σ2 H2 => tb { D with nx := Pv (i + 1), ct := Pv (i + 1), bk := D.nx } σ2 H2) (hd : ∀ σ H, Pv xs.length σ H -> D.nx σ H) :
  ∃ W : Nat -> Nat -> St -> Hp -> Prop, (∃ m, W 0 m σ H) /\ ∀ i m σ H, W i m σ H ->
   ((Itl K a).stop i H /\ D.nx σ H) \/ ((Itl K a).go i H /\ ∃ N : St -> Hp -> Prop, (∀ σ' H', N σ' H' -> ∃ m', m' < m /\ W (i + 1) m' σ' H') /\ ∀ x H', (Itl K a).yld i H x H' -> g x σ H' fun σ2 H2 => tb { D with nx := N, ct := N, bk := D.nx } σ2 H2) := by
 refine ⟨fun i m σ H => m = xs.length - i /\ i <= xs.length /\ Pv i σ H, ⟨xs.length, by simp, Nat.zero_le _, h0⟩, ?_⟩
 rintro i m σ H ⟨rfl, hi, p⟩
 have q := hl i σ H hi p
 by_cases hlt : i < xs.length
 ·refine .inr ⟨⟨xs, xs[i], q, by simp [hlt]⟩, Pv (i + 1), fun σ' H' p' => ⟨xs.length - (i + 1), by omega, rfl, hlt, p'⟩, fun x H' y => ?_⟩
  obtain ⟨e, y⟩ := y
  subst e
  exact hs i x σ _ (y xs q) p
 ·have e : i = xs.length := by omega
  subst e
  exact .inl ⟨⟨xs, q, Nat.le_refl _⟩, hd σ H p⟩
theorem g8f {lo : Int} {n : Nat} {g : TG} {tb : TS} {D : Ends} {σ : St} {H : Hp} (Pv : Nat -> St -> Hp -> Prop) (h0 : Pv 0 σ H)
  (hs : ∀ i σ H, i < n -> Pv i σ H -> g (.int (lo + i)) σ H fun σ2 H2 => tb { D with nx := Pv (i + 1), ct := Pv (i + 1), bk := D.nx } σ2 H2) (hd : ∀ σ H, Pv n σ H -> D.nx σ H) :
  ∃ W : Nat -> Nat -> St -> Hp -> Prop, (∃ m, W 0 m σ H) /\ ∀ i m σ H, W i m σ H ->
   ((Itr lo n).stop i H /\ D.nx σ H) \/ ((Itr lo n).go i H /\ ∃ N : St -> Hp -> Prop, (∀ σ' H', N σ' H' -> ∃ m', m' < m /\ W (i + 1) m' σ' H') /\ ∀ x H', (Itr lo n).yld i H x H' -> g x σ H' fun σ2 H2 => tb { D with nx := N, ct := N, bk := D.nx } σ2 H2) := by
 refine ⟨fun i m σ H => m = n - i /\ i <= n /\ Pv i σ H, ⟨n, by simp, Nat.zero_le _, h0⟩, ?_⟩
 rintro i m σ H ⟨rfl, hi, p⟩
 by_cases hlt : i < n
 ·refine .inr ⟨hlt, Pv (i + 1), fun σ' H' p' => ⟨n - (i + 1), by omega, rfl, hlt, p'⟩, fun x H' y => ?_⟩
  obtain ⟨e, y⟩ := y
  subst e y
  exact hs i σ _ hlt p
 ·have e : i = n := by omega
  subst e
  exact .inl ⟨Nat.le_refl _, hd σ H p⟩
end L2
namespace L2
open PySem PySem.Spec PyProof.Rows
noncomputable abbrev R2 := V -> V -> Hp -> VK -> Prop
noncomputable def OpR (X : Cx) (f : Value -> Value -> Sem Value) (r : R2) : Prop :=
 ∀ (pins : List (Addr × Obj)) (s : Shared) (σ : St) (H : Hp) (x y : V) (v u : Value) (Q : VK), Inv X pins σ H s -> RelV x v -> RelV y u -> r x y H Q ->
  wpAny (model X.prog X.w) X.A (f v u) (EP X pins σ Q) X.xe s
noncomputable def UnR (X : Cx) (f : Value -> Sem Value) (r : V -> Hp -> VK -> Prop) : Prop :=
 ∀ (pins : List (Addr × Obj)) (s : Shared) (σ : St) (H : Hp) (x : V) (v : Value) (Q : VK), Inv X pins σ H s -> RelV x v -> r x H Q ->
  wpAny (model X.prog X.w) X.A (f v) (EP X pins σ Q) X.xe s
noncomputable def b2p (X : Cx) (f : Value) (r : List V -> Hp -> VK -> Prop) : Prop :=
 ∀ (pins : List (Addr × Obj)) (s : Shared) (σ : St) (H : Hp) (xs : List V) (us : List Value) (Q : VK), Inv X pins σ H s -> Vals xs us -> r xs H Q ->
  wpAny (model X.prog X.w) X.A (call f us) (EP X pins σ Q) X.xe s
noncomputable def TruR (X : Cx) (r : V -> Hp -> (Bool -> Hp -> Prop) -> Prop) : Prop :=
 ∀ (pins : List (Addr × Obj)) (s : Shared) (σ : St) (H : Hp) (x : V) (v : Value) (Q : Bool -> Hp -> Prop), Inv X pins σ H s -> RelV x v -> r x H Q ->
  wpAny (model X.prog X.w) X.A (truthy v) (TP X pins σ Q) X.xe s
noncomputable def tOp (r : R2) (ta tb : TE) : TE := fun σ H Q => ta σ H fun x H1 => tb σ H1 fun y H2 => r x y H2 Q
noncomputable def tUn (r : V -> Hp -> VK -> Prop) (ta : TE) : TE := fun σ H Q => ta σ H fun x H1 => r x H1 Q
noncomputable def rI (C : Int -> Int -> Prop) (g : Int -> Int -> V) : R2 := fun x y H Q => ∃ i j, x = .int i /\ y = .int j /\ C i j /\ Q (g i j) H
noncomputable def rI0 (g : Int -> Int -> V) : R2 := fun x y H Q => ∃ i j, x = .int i /\ y = .int j /\ Q (g i j) H
noncomputable def rU (g : Int -> V) : V -> Hp -> VK -> Prop := fun x H Q => ∃ i, x = .int i /\ Q (g i) H
section
variable {X : Cx} {a b c : Expr} {ta tb tc : TE} {pos : Pos}
theorem i7q (ha : PE X a ta) (hb : PE X b tb) {pins : List (Addr × Obj)} {s : Shared} {σ : St} {H : Hp} {R : V -> V -> Hp -> Prop} (I : Inv X pins σ H s)
  (h : ta σ H fun x H1 => tb σ H1 fun y H2 => R x y H2) {Q : Value -> Shared -> Prop} {f : Value -> Value -> Sem Value}
  (hf : ∀ v u s2 x y H2, Inv X pins σ H2 s2 -> RelV x v -> RelV y u -> R x y H2 -> wpAny (model X.prog X.w) X.A (f v u) Q X.xe s2) :
  wpAny (model X.prog X.w) X.A (eval a X.env) (fun v s₁ => wpAny (model X.prog X.w) X.A (eval b X.env) (fun u s₂ => wpAny (model X.prog X.w) X.A (f v u) Q X.xe s₂) X.xe s₁) X.xe s := by
 refine thn (ha pins s σ H _ I h) fun v s1 ⟨x, H1, I1, r1, q1⟩ => ?_
 refine thn (hb pins s1 σ H1 _ I1 q1) fun u s2 ⟨y, H2, I2, r2, q2⟩ => ?_
 exact hf v u s2 x y H2 I2 r1 r2 q2
theorem a0y {op : Operator} {r : R2} (ho : OpR X (binaryOp op) r) (ha : PE X a ta) (hb : PE X b tb) : PE X (.BinOp a op b pos) (tOp r ta tb) := by
 intro pins s σ H Q I h
 exact wpAny_BinOp (i7q ha hb I h fun v u s2 x y H2 I2 rx ry q => ho pins s2 σ H2 x y v u Q I2 rx ry q)
theorem g8g {op : UnaryOp} {r : V -> Hp -> VK -> Prop} (ho : UnR X (unaryOp op) r) (ha : PE X a ta) : PE X (.UnaryOp op a pos) (tUn r ta) := by
 intro pins s σ H Q I h
 exact UnaryOp_ (thn (ha pins s σ H _ I h) fun v s1 ⟨x, H1, I1, r1, q1⟩ => ho pins s1 σ H1 x v Q I1 r1 q1)
theorem opI {f : Value -> Value -> Sem Value} {C : Int -> Int -> Prop} {g : Int -> Int -> Int}
  (rule : ∀ (i j : Int) (t u : Tok) (s : Shared) (Q : Value -> Shared -> Prop) (E : Value -> Shared -> Prop), C i j -> Q (.int (g i j) s.toks) { s with toks := s.toks + 1 } -> wpAny (model X.prog X.w) X.A (f (.int i t) (.int j u)) Q E s) :
  OpR X f (rI C fun i j => .int (g i j)) := by
 intro pins s σ H x y v u Q I rx ry h
 obtain ⟨i, j, rfl, rfl, hc, q⟩ := h
 obtain ⟨t, rfl⟩ := rx
 obtain ⟨t', rfl⟩ := ry
 exact rule i j t t' s _ _ hc ⟨.int (g i j), H, I.tok _, ⟨_, rfl⟩, q⟩
theorem i9v {f : Value -> Value -> Sem Value} {g : Int -> Int -> Int}
  (rule : ∀ (i j : Int) (t u : Tok) (s : Shared) (Q : Value -> Shared -> Prop) (E : Value -> Shared -> Prop), Q (.int (g i j) s.toks) { s with toks := s.toks + 1 } -> wpAny (model X.prog X.w) X.A (f (.int i t) (.int j u)) Q E s) :
  OpR X f (rI0 fun i j => .int (g i j)) := by
 intro pins s σ H x y v u Q I rx ry h
 obtain ⟨i, j, rfl, rfl, q⟩ := h
 obtain ⟨t, rfl⟩ := rx
 obtain ⟨t', rfl⟩ := ry
 exact rule i j t t' s _ _ ⟨.int (g i j), H, I.tok _, ⟨_, rfl⟩, q⟩
theorem i7a {f : Value -> Value -> Sem Value} {g : Int -> Int -> Bool}
  (rule : ∀ (i j : Int) (t u : Tok) (s : Shared) (Q : Value -> Shared -> Prop) (E : Value -> Shared -> Prop), Q (.bool (g i j)) s -> wpAny (model X.prog X.w) X.A (f (.int i t) (.int j u)) Q E s) :
  OpR X f (rI0 fun i j => .bl (g i j)) := by
 intro pins s σ H x y v u Q I rx ry h
 obtain ⟨i, j, rfl, rfl, q⟩ := h
 obtain ⟨t, rfl⟩ := rx
 obtain ⟨t', rfl⟩ := ry
 exact rule i j t t' s _ _ ⟨.bl (g i j), H, I, rfl, q⟩
noncomputable def CDiv (i j : Int) : Prop := 0 < j /\ j < 1073741824
noncomputable def CDivN (i j : Int) : Prop := j ≠ 0 /\ j.natAbs < 1073741824
noncomputable def i7r (i j : Int) : Prop := 0 <= j /\ j <= 1000000 /\ i.natAbs < 2 ^ 64
noncomputable def i9w (i j : Int) : Prop := (-(2 ^ 64) < i /\ i < 2 ^ 64) \/ (-(2 ^ 64) < j /\ j < 2 ^ 64)
theorem i9w.ok {i j : Int} (h : i9w i j) : IntMulOk i j := by
 rcases h with ⟨h1, h2⟩ | ⟨h1, h2⟩
 ·exact .of_left (intBits_le_64 h1 h2)
 ·exact .of_right (intBits_le_64 h1 h2)
theorem i2q : OpR X (binaryOp .Add) (rI0 fun i j => .int (i + j)) := i9v fun _ _ _ _ _ _ _ q => add_int q
theorem i2r : OpR X (binaryOp .Sub) (rI0 fun i j => .int (i - j)) := i9v fun _ _ _ _ _ _ _ q => sub_int q
theorem h8j : OpR X (binaryOp .Mod) (rI (fun _ j => j ≠ 0) fun i j => .int (i.fmod j)) := opI fun _ _ _ _ _ _ _ hc q => mod_int' hc q
theorem i2s : OpR X (binaryOp .Pow) (rI i7r fun i j => .int (i ^ j.toNat)) := opI fun _ _ _ _ _ _ _ hc q => pow_int_small hc.1 hc.2.1 hc.2.2 q
theorem unI {f : Value -> Sem Value} {g : Int -> Int}
  (rule : ∀ (i : Int) (t : Tok) (s : Shared) (Q : Value -> Shared -> Prop) (E : Value -> Shared -> Prop), Q (.int (g i) s.toks) { s with toks := s.toks + 1 } -> wpAny (model X.prog X.w) X.A (f (.int i t)) Q E s) :
  UnR X f (rU fun i => .int (g i)) := by
 intro pins s σ H x v Q I rx h
 obtain ⟨i, rfl, q⟩ := h
 obtain ⟨t, rfl⟩ := rx
 exact rule i t s _ _ ⟨.int (g i), H, I.tok _, ⟨_, rfl⟩, q⟩
theorem i2t : UnR X (unaryOp .USub) (rU fun i => .int (-i)) := unI fun _ _ _ _ _ q => neg_int q
end
noncomputable def g8h : V -> V -> Bool
 | .non, .non => true | .non, .int _ => true | .int _, .non => true | .non, .bl _ => true | .bl _, .non => true | .non, .str _ => true | .str _, .non => true
 | .int _, .int _ => true | .bl _, .bl _ => true | .str _, .str _ => true | .byt _, .byt _ => true
 | .int _, .str _ => true | .str _, .int _ => true | .bl _, .str _ => true | .str _, .bl _ => true
 | _, _ => false
noncomputable def rEq : R2 := fun x y H Q => g8h x y = true /\ Q (.bl (decide (x = y))) H
noncomputable def rNe : R2 := fun x y H Q => g8h x y = true /\ Q (.bl (!decide (x = y))) H
theorem g8i {i j : Int} : decide (V.int i = V.int j) = (i == j) := by
 rw [Bool.eq_iff_iff]
 simp
theorem h5u {i j : Bool} : decide (V.bl i = V.bl j) = (i == j) := by
 rw [Bool.eq_iff_iff]
 simp
theorem g8j {i j : Str} : decide (V.str i = V.str j) = (i == j) := by
 rw [Bool.eq_iff_iff]
 simp
theorem g8k {i j : Array UInt8} : decide (V.byt i = V.byt j) = (i.toList == j.toList) := by
 rw [Bool.eq_iff_iff]
 cases i
 cases j
 simp
section
variable {X : Cx} {a b c : Expr} {ta tb tc : TE} {pos : Pos}
theorem a5i {pins : List (Addr × Obj)} {σ : St} {H : Hp} {s : Shared} {Q : VK} {k k' : Bool} (I : Inv X pins σ H s) (q : Q (.bl k) H) (e : k = k') : EP X pins σ Q (.bool k') s := by
 subst e
 exact ⟨.bl k, H, I, rfl, q⟩
theorem i7s : OpR X (compareOp .Eq) rEq := by
 intro pins s σ H x y v u Q I rx ry h
 obtain ⟨hs, q⟩ := h
 cases x with
 | non =>
  cases rx
  cases y with
  | non => cases ry; exact PySem.EqNone.eq_none_none (a5i I q (by simp))
  | bl j => cases ry; exact PySem.EqNone.eq_none_bool (a5i I q (by simp))
  | int j => obtain ⟨t', rfl⟩ := ry; exact PySem.EqNone.eq_none_int (a5i I q (by simp))
  | str j => obtain ⟨t', rfl⟩ := ry; exact PySem.EqNone.eq_none_str (a5i I q (by simp))
  | _ => exact absurd (show false = true from hs) Bool.false_ne_true
 | bl i =>
  cases rx
  cases y with
  | non => cases ry; exact PySem.EqNone.eq_bool_none (a5i I q (by simp))
  | bl j => cases ry; exact eq_bool (a5i I q h5u)
  | str j => obtain ⟨t', rfl⟩ := ry; exact PySem.EqMixed.eq_bool_str (a5i I q (by simp))
  | _ => exact absurd (show false = true from hs) Bool.false_ne_true
 | int i =>
  obtain ⟨t, rfl⟩ := rx
  cases y with
  | non => cases ry; exact PySem.EqNone.eq_int_none (a5i I q (by simp))
  | int j => obtain ⟨t', rfl⟩ := ry; exact eq_int (a5i I q g8i)
  | str j => obtain ⟨t', rfl⟩ := ry; exact PySem.EqMixed.eq_int_str (a5i I q (by simp))
  | _ => exact absurd (show false = true from hs) Bool.false_ne_true
 | str i =>
  obtain ⟨t, rfl⟩ := rx
  cases y with
  | non => cases ry; exact PySem.EqNone.eq_str_none (a5i I q (by simp))
  | bl j => cases ry; exact PySem.EqMixed.eq_str_bool (a5i I q (by simp))
  | int j => obtain ⟨t', rfl⟩ := ry; exact PySem.EqMixed.eq_str_int (a5i I q (by simp))
  | str j => obtain ⟨t', rfl⟩ := ry; exact eq_str (a5i I q g8j)
  | _ => exact absurd (show false = true from hs) Bool.false_ne_true
 | byt i =>
  obtain ⟨t, rfl⟩ := rx
  cases y with
  | byt j => obtain ⟨t', rfl⟩ := ry; exact PySem.W.eq_bytes (a5i I q g8k)
  | _ => exact absurd (show false = true from hs) Bool.false_ne_true
 | _ => cases y <;> exact absurd (show false = true from hs) Bool.false_ne_true
theorem i7t : OpR X (compareOp .NotEq) rNe := by
 intro pins s σ H x y v u Q I rx ry h
 obtain ⟨hs, q⟩ := h
 cases x with
 | non =>
  cases rx
  cases y with
  | non => cases ry; exact PySem.EqNone.ne_none_none (a5i I q (by simp))
  | bl j => cases ry; exact PySem.EqNone.ne_none_bool (a5i I q (by simp))
  | int j => obtain ⟨t', rfl⟩ := ry; exact PySem.EqNone.ne_none_int (a5i I q (by simp))
  | str j => obtain ⟨t', rfl⟩ := ry; exact PySem.EqNone.ne_none_str (a5i I q (by simp))
  | _ => exact absurd (show false = true from hs) Bool.false_ne_true
 | bl i =>
  cases rx
  cases y with
  | non => cases ry; exact PySem.EqNone.ne_bool_none (a5i I q (by simp))
  | bl j => cases ry; exact ne_bool (a5i I q (congrArg not h5u))
  | str j => obtain ⟨t', rfl⟩ := ry; exact PySem.EqMixed.ne_bool_str (a5i I q (by simp))
  | _ => exact absurd (show false = true from hs) Bool.false_ne_true
 | int i =>
  obtain ⟨t, rfl⟩ := rx
  cases y with
  | non => cases ry; exact PySem.EqNone.ne_int_none (a5i I q (by simp))
  | int j => obtain ⟨t', rfl⟩ := ry; exact ne_int (a5i I q (congrArg not g8i))
  | str j => obtain ⟨t', rfl⟩ := ry; exact PySem.EqMixed.ne_int_str (a5i I q (by simp))
  | _ => exact absurd (show false = true from hs) Bool.false_ne_true
 | str i =>
  obtain ⟨t, rfl⟩ := rx
  cases y with
  | non => cases ry; exact PySem.EqNone.ne_str_none (a5i I q (by simp))
  | bl j => cases ry; exact PySem.EqMixed.ne_str_bool (a5i I q (by simp))
  | int j => obtain ⟨t', rfl⟩ := ry; exact PySem.EqMixed.ne_str_int (a5i I q (by simp))
  | str j => obtain ⟨t', rfl⟩ := ry; exact ne_str (a5i I q (congrArg not g8j))
  | _ => exact absurd (show false = true from hs) Bool.false_ne_true
 | byt i =>
  obtain ⟨t, rfl⟩ := rx
  cases y with
  | byt j => obtain ⟨t', rfl⟩ := ry; exact PySem.W.ne_bytes (a5i I q (congrArg not g8k))
  | _ => exact absurd (show false = true from hs) Bool.false_ne_true
 | _ => cases y <;> exact absurd (show false = true from hs) Bool.false_ne_true
theorem i7u : OpR X (compareOp .Lt) (rI0 fun i j => .bl (decide (i < j))) := i7a fun _ _ _ _ _ _ _ q => lt_int q
theorem i7v : OpR X (compareOp .LtE) (rI0 fun i j => .bl (decide (i <= j))) := i7a fun _ _ _ _ _ _ _ q => le_int q
theorem i7w : OpR X (compareOp .Gt) (rI0 fun i j => .bl (decide (j < i))) := i7a fun _ _ _ _ _ _ _ q => gt_int q
theorem i7x : OpR X (compareOp .GtE) (rI0 fun i j => .bl (decide (j <= i))) := i7a fun _ _ _ _ _ _ _ q => ge_int q
theorem i2u : OpR X (compareOp .Is) (fun x y H Q => y = .non /\ Q (.bl (decide (x = .non))) H) := by
 intro pins s σ H x y v u Q I rx ry h
 obtain ⟨rfl, q⟩ := h
 cases ry
 refine is_none_gen (a5i I q ?_)
 cases x <;> first
  | (cases rx; rfl)
  | (obtain ⟨t, rfl⟩ := rx; rfl)
noncomputable def isObj : HO -> Bool
 | .lst _ => true
 | .ins _ _ _ => true
 | _ => false
theorem OpR.or {f : Value -> Value -> Sem Value} {r r' : R2} (h : OpR X f r) (h' : OpR X f r') : OpR X f (fun x y H Q => r x y H Q \/ r' x y H Q) := by
 intro pins s σ H x y v u Q I rx ry q
 rcases q with q | q
 ·exact h pins s σ H x y v u Q I rx ry q
 ·exact h' pins s σ H x y v u Q I rx ry q
theorem a3p (b : Expr) {op : CmpOp} (h : op ≠ .In := by decide) (h2 : op ≠ .NotIn := by decide) : behindInMarks op b = false := by
 have e1 : (op == CmpOp.In) = false := by cases op <;> first | rfl | exact absurd rfl h
 have e2 : (op == CmpOp.NotIn) = false := by cases op <;> first | rfl | exact absurd rfl h2
 cases b <;> simp [behindInMarks, e1, e2]
theorem f5r {op : CmpOp} {r : R2} (ho : OpR X (compareOp op) r) (ha : PE X a ta) (hb : PE X b tb) (hm : behindInMarks op b = false) : PE X (.Compare a [op] [b] pos) (tOp r ta tb) := by
 intro pins s σ H Q I h
 exact wpAny_Compare1 (i7q ha hb I h fun v u s2 x y H2 I2 rx ry q => ho pins s2 σ H2 x y v u Q I2 rx ry q) hm
noncomputable def i2v (t : TE) : TT := fun σ H Q => t σ H fun x H' => ∃ k, x = .bl k /\ Q k H'
theorem h8k {op : CmpOp} {r : R2} (ho : OpR X (compareOp op) r) (ha : PE X a ta) (hb : PE X b tb) (hm : behindInMarks op b = false) : PT X (.Compare a [op] [b] pos) (i2v (tOp r ta tb)) := by
 intro pins s σ H Q I h
 refine wpAny_isTrue_Compare1 (thn (ha pins s σ H _ I h) fun v s1 ⟨x, H1, I1, r1, q1⟩ => thn (hb pins s1 σ H1 _ I1 q1) fun u s2 ⟨y, H2, I2, r2, q2⟩ =>
  thn (ho pins s2 σ H2 x y v u _ I2 r1 r2 q2) fun c s3 ⟨z, H3, I3, r3, k, e, q3⟩ => ?_) hm
 subst e
 cases r3
 exact wpAny_truthy_bool ⟨H3, I3, q3⟩
noncomputable def i9x (r r' : R2) (ta tb tc : TE) : TE := fun σ H Q => ta σ H fun x H1 => tb σ H1 fun y H2 => r x y H2 fun z H3 => ∃ k, z = .bl k /\
 (if k = true then tc σ H3 fun w' H4 => r' y w' H4 Q else Q (.bl false) H3)
noncomputable def TruV (K : PySem.W.Frag) (x : V) (H : Hp) (k : Bool) : Prop :=
 match x with
 | .non => k = false
 | .bl b => k = b
 | .int i => k = (i != 0)
 | .str y => y.length <= sizeLine /\ k = ((y.length : Int) != 0)
 | .byt y => y.size <= sizeLine /\ k = ((y.size : Int) != 0)
 | .ref p => (∃ xs, SqL K H p xs /\ k = !xs.isEmpty) \/ (∃ xs, SqT K H p xs /\ k = !xs.isEmpty) \/ ∃ kvs, H p = some (.dK kvs) /\ k = !kvs.isEmpty
 | _ => False
theorem f8j : (sizeLine : Nat) < 2 ^ 63 := by rw [sizeLine_eq]; decide
theorem g5i : OpR X (binaryOp .Add) (fun x y H Q => ∃ i j, x = .str i /\ y = .str j /\ i.length + j.length <= sizeLine /\ Q (.str (i ++ j)) H) := by
 intro pins s σ H x y v u Q I rx ry h
 obtain ⟨i, j, rfl, rfl, hz, q⟩ := h
 obtain ⟨t, rfl⟩ := rx
 obtain ⟨t', rfl⟩ := ry
 exact add_str (fun t' tk => ⟨.str (i ++ j), H, I.tok _, ⟨_, rfl⟩, q⟩) hz
noncomputable def i7b (b : Expr) : Prop := ∀ o i, subscripted b false o i = operate [o, i] (getItem o i)
theorem vals1 {x : V} {us : List Value} (r : Vals [x] us) : ∃ u, us = [u] /\ RelV x u := by
 cases r with
 | cons r1 r2 => cases r2; exact ⟨_, rfl, r1⟩
theorem vals2 {x y : V} {us : List Value} (r : Vals [x, y] us) : ∃ u w', us = [u, w'] /\ RelV x u /\ RelV y w' := by
 cases r with
 | cons r1 r2 =>
  cases r2 with
  | cons r3 r4 => cases r4; exact ⟨_, _, rfl, r1, r3⟩
theorem h3l : b2p X (.builtin "abs") (fun xs H Q => ∃ i, xs = [.int i] ∧ Q (.int (if i < 0 then -i else i)) H) := by
 intro pins s σ H xs us Q I r h
 obtain ⟨i, rfl, q⟩ := h
 obtain ⟨u, rfl, t, rfl⟩ := vals1 r
 exact call_abs_int fun u tk => ⟨.int (if i < 0 then -i else i), H, I.tok _, ⟨_, rfl⟩, q⟩
theorem g8l (hc : X.calm = true) : b2p X (.builtin "max") (fun xs H Q => ∃ i j, xs = [.int i, .int j] ∧ Q (.int (if j > i then j else i)) H) := by
 intro pins s σ H xs us Q I r h
 obtain ⟨i, j, rfl, q⟩ := h
 obtain ⟨u, w', rfl, ⟨t, rfl⟩, ⟨t', rfl⟩⟩ := vals2 r
 refine max_two_ints (I.ok.hd hc) fun h' tk k => ⟨_, H, I.kept k, ?_, q⟩
 by_cases hj : j > i
 ·rw [if_pos hj, if_pos hj]; exact ⟨_, rfl⟩
 ·rw [if_neg hj, if_neg hj]; exact ⟨_, rfl⟩
theorem g8m (hc : X.calm = true) : b2p X (.builtin "min") (fun xs H Q => ∃ i j, xs = [.int i, .int j] ∧ Q (.int (if j < i then j else i)) H) := by
 intro pins s σ H xs us Q I r h
 obtain ⟨i, j, rfl, q⟩ := h
 obtain ⟨u, w', rfl, ⟨t, rfl⟩, ⟨t', rfl⟩⟩ := vals2 r
 refine min_two_ints (I.ok.hd hc) fun h' tk k => ⟨_, H, I.kept k, ?_, q⟩
 by_cases hj : j < i
 ·rw [if_pos hj, if_pos hj]; exact ⟨_, rfl⟩
 ·rw [if_neg hj, if_neg hj]; exact ⟨_, rfl⟩
theorem f8k : b2p X (.type "int") (fun xs H Q => (∃ i, xs = [.int i] ∧ Q (.int i) H) ∨ ∃ k, xs = [.bl k] ∧ Q (.int (if k then 1 else 0)) H) := by
 intro pins s σ H xs us Q I r h
 rcases h with ⟨i, rfl, q⟩ | ⟨k, rfl, q⟩
 ·obtain ⟨u, rfl, t, rfl⟩ := vals1 r
  exact call_int_int ⟨.int i, H, I, ⟨_, rfl⟩, q⟩
 ·obtain ⟨u, rfl, r1⟩ := vals1 r
  cases r1
  exact call_int_bool ⟨.int (if k then 1 else 0), H, I.tok _, ⟨_, rfl⟩, q⟩
theorem f8l : b2p X (.type "str") (fun xs H Q => ∃ i, xs = [.int i] ∧ i.natAbs.log2 < 1920 ∧ Q (.str (toString i)) H) := by
 intro pins s σ H xs us Q I r h
 obtain ⟨i, rfl, hz, q⟩ := h
 obtain ⟨u, rfl, t, rfl⟩ := vals1 r
 exact PySem.P.str_of_int hz ⟨.str _, H, I.tok _, ⟨_, rfl⟩, q⟩
noncomputable def LenV (K : PySem.W.Frag) (x : V) (H : Hp) (n : Nat) : Prop :=
 match x with
 | .str y => y.length <= sizeLine /\ n = y.length
 | .byt y => y.size <= sizeLine /\ n = y.size
 | .ref p => (∃ xs, SqL K H p xs /\ n = xs.length) \/ ∃ xs, SqT K H p xs /\ n = xs.length
 | _ => False
end
end L2
namespace L2
open PySem PySem.Spec PyProof.Rows
structure h8l (h : Heap) (x dx C : Addr) (mA : Str -> Option Value) : Prop where
 obj : h.get? x = some (PySem.W.instObj C dx)
 ns : h.Ns1 dx mA
 ne : dx ≠ x
theorem g8n {h : Heap} {dx : Addr} {mA : Str -> Option Value} (n : h.Ns1 dx mA) : ∃ od, h.get? dx = some od /\ ∀ name, PySem.W.lookIn name od = some (mA name) := by
 obtain ⟨o, es, ep, ho, hd, hk, _, hm⟩ := n
 refine ⟨o, ho, fun name => ?_⟩
 have e := hm name
 unfold nsFind findBy at e
 rw [<- Array.find?_toList] at e
 unfold PySem.W.lookIn
 rw [hd]
 dsimp only
 split
 ·rename_i y q
  rw [q] at e
  exact congrArg some e
 ·rename_i q
  rw [q] at e
  have a : es.toList.any (·.refKey) = false := by
   rw [List.any_eq_false]
   intro y hy
   obtain ⟨z, t, hkey⟩ := hk y (Array.mem_toList_iff.mp hy)
   simp [DictEntry.refKey, hkey]
  have a' : ¬ es.toList.any (·.refKey) = true := by rw [a]; exact Bool.false_ne_true
  rw [if_neg a']
  exact congrArg some e
theorem h8l.look {h : Heap} {x dx C : Addr} {mA : Str -> Option Value} (I : h8l h x dx C mA) : ∃ od, PySem.W.InstAt h x (PySem.W.instObj C dx) C (some od) /\ ∀ name, PySem.W.lookIn name od = some (mA name) :=
 let ⟨od, ho, hl⟩ := g8n I.ns
 ⟨od, ⟨I.obj, rfl, rfl, ho⟩, hl⟩
section
variable {prog : Program} {w : World} {A : Around} {E : Value -> Shared -> Prop} {s : Shared} {K : PySem.W.Frag} {x dx C f : Addr} {mA : Str -> Option Value} {name : Str} {v : Value}
theorem get_map {expr : Bool} {Q : Value -> Shared -> Prop} (X : K.In s.heap) (I : h8l s.heap x dx C mA) (hg : PySem.W.plainGet K C name = true) (hh : PySem.W.hasDictIn K C = true)
  (ha : PySem.W.findIn K (.ref C) name = some none) (hv : mA name = some v) (hv' : PySem.W.handedIn v = true) (h : Q v { s with toks := s.toks + 1 }) :
  wpAny (model prog w) A (getAttr (.ref x) name expr) Q E s := by
 obtain ⟨od, J, hl⟩ := I.look
 exact PySem.W.get_value X J (PySem.W.plainGet_of hg).1 (PySem.W.findObj_own hh ha rfl (by rw [hl, hv])) hv' h
theorem h3m {pl : Sem Bool} {Q : Value × List Value -> Shared -> Prop} (X : K.In s.heap) (I : h8l s.heap x dx C mA) (hg : PySem.W.plainGet K C name = true)
  (hf : PySem.W.findIn K (.ref C) name = some (some (.ref f))) (ht : PySem.W.isFn K (.ref f) = true) (hv : mA name = none) (h : Q (.ref f, [.ref x]) s) :
  wpAny (model prog w) A (getMethod (.ref x) name pl) Q E s := by
 obtain ⟨od, J, hl⟩ := I.look
 exact PySem.W.method_fn X J (PySem.W.plainGet_of hg).1 (PySem.W.plainGet_of hg).2 hf (beq_iff_eq.mp ht) (by show (PySem.W.lookIn name od).map (·.isSome) = some false; rw [hl, hv]; rfl) h
theorem h8m {ns : List Str} {Q : Unit -> Shared -> Prop} (X : K.In s.heap) (I : h8l s.heap x dx C mA)
  (hs : PySem.W.findIn K (.ref C) "__setattr__" = some (some (.builtin "object.__setattr__"))) (hp : PySem.W.plainOver K C = true) (ht : PySem.W.takerIn K C name = some none) (hh : PySem.W.hasDictIn K C = true)
  (hw : PySem.Within mA ns) (hsz : ns.length <= sizeLine)
  (h : ∀ h', h8l h' x dx C (fun y => if y = name then some v else mA y) -> Heap.SameBut dx s.heap h' -> Q () { s with heap := h', toks := s.toks + 2 }) :
  wpAny (model prog w) A (setAttr (.ref x) name v) Q E s := by
 obtain ⟨od, J, hl⟩ := I.look
 refine PySem.W.set_plain X J hs (PySem.W.osa_open (s := { s with toks := s.toks + 1 }) (r := none) X J hp ht fun b => ?_)
 obtain ⟨cd, hc, hd'⟩ := PySem.W.any_some hh
 have hx : s.heap.get? x = some ⟨.ref C, some dx, .plain, #[]⟩ := I.obj
 refine wpAny_bind (wpAny_pure (wpAny_bind (wpAny_bind (wpAny_loadPart hx (wpAny_bind (PySem.W.Looks.here (s := { s with toks := s.toks + 1 }) (PySem.W.looks_clsIn X hc) ?_))))))
 rw [hd']
 refine wpAny_pure (a := some dx) (wpAny_bind (wpAny_pure (wpAny_bind ?_)))
 refine wpAny_nsSet1 (s := { s with toks := s.toks + 1 }) I.ns fun h' hn2 hs2 => ?_
 obtain ⟨oD, esD, epD, hoD, hdD, hcD⟩ := hn2.count (PySem.Within.cons name v hw)
 refine wpAny_bind (wpAny_lookBehind hoD (by rw [hdD]; exact pastItsLine_dict (Nat.le_trans hcD (by rw [List.length_cons]; omega))) ?_)
 exact wpAny_pure (h _ ⟨(hs2.2 _ (Ne.symm I.ne)).trans I.obj, hn2, I.ne⟩ hs2)
theorem h3n {R : Result -> Shared -> Prop} {vs : List Value} {kw : List (Str × Value)} (X : K.In s.heap) (hm : PySem.W.makesIn K C = true)
  (hi : PySem.W.findIn K (.ref C) "__init__" = some (some (.ref f))) (hf : PySem.W.typeIn K (.ref f) = some (.type "function"))
  (h : codeAny (model prog w) (A.under (.builtin "type.__call__" ⟨.ref C :: vs, kw⟩)) (.call (.ref f) ⟨.ref (s.heap.objs.size + 1) :: vs, kw⟩) (PySem.W.InitBack (s.heap.objs.size + 1) R)
   { s with heap := (s.heap.push PySem.W.emptyDict).push (PySem.W.instObj C s.heap.objs.size) }) :
  codeAny (model prog w) A (.call (.ref C) ⟨vs, kw⟩) R s := by
 obtain ⟨hh, g, d, t, os⟩ := s
 exact PySem.W.make_core (PySem.W.makes_of X hm) (PySem.W.looks_findIn X hi) (fun self => PySem.W.bind_fn X self hf) (.inl rfl) h
end
noncomputable def d8y (f : Str) (v : V) : List (Str × V) -> List (Str × V)
 | [] => [(f, v)]
 | (g, x) :: r => if g = f then (g, v) :: r else (g, x) :: d8y f v r
theorem f0j (f g : Str) (v : V) : ∀ fs : List (Str × V), (d8y f v fs).lookup g = if g = f then some v else fs.lookup g
 | [] => by
  show List.lookup g [(f, v)] = _
  by_cases h : g = f
  ·have hb : (g == f) = true := beq_iff_eq.mpr h
   simp only [List.lookup, hb, if_pos h]
  ·have hb : (g == f) = false := beq_eq_false_iff_ne.mpr h
   simp only [List.lookup, hb, if_neg h]
 | (k, x) :: r => by
  have ih := f0j f g v r
  rw [show d8y f v ((k, x) :: r) = (if k = f then (k, v) :: r else (k, x) :: d8y f v r) from rfl]
  by_cases hk : k = f
  ·rw [if_pos hk]
   by_cases h : g = k
   ·have hb : (g == k) = true := beq_iff_eq.mpr h
    simp only [List.lookup, hb, if_pos (h.trans hk)]
   ·have hb : (g == k) = false := beq_eq_false_iff_ne.mpr h
    simp only [List.lookup, hb, if_neg (fun e : g = f => h (e.trans hk.symm))]
  ·rw [if_neg hk]
   by_cases h : g = k
   ·have hb : (g == k) = true := beq_iff_eq.mpr h
    simp only [List.lookup, hb, if_neg (fun e : g = f => hk (h.symm.trans e))]
   ·have hb : (g == k) = false := beq_eq_false_iff_ne.mpr h
    simp only [List.lookup, hb]
    exact ih
theorem f0k (f : Str) (v : V) : ∀ fs : List (Str × V), f ∈ (d8y f v fs).map (·.1) /\ ∀ g, g ∈ fs.map (·.1) -> g ∈ (d8y f v fs).map (·.1)
 | [] => ⟨by simp [d8y], fun g h => by simp at h⟩
 | (k, x) :: r => by
  obtain ⟨i1, i2⟩ := f0k f v r
  rw [show d8y f v ((k, x) :: r) = (if k = f then (k, v) :: r else (k, x) :: d8y f v r) from rfl]
  by_cases hk : k = f
  ·rw [if_pos hk]
   subst hk
   exact ⟨by simp, fun g h => by simpa using h⟩
  ·rw [if_neg hk]
   refine ⟨?_, fun g h => ?_⟩
   ·rw [List.map_cons]
    exact List.mem_cons_of_mem _ i1
   ·rw [List.map_cons] at h ⊢
    rcases List.mem_cons.mp h with e | e
    ·exact List.mem_cons.mpr (.inl e)
    ·exact List.mem_cons_of_mem _ (i2 g e)
theorem f0l (f : Str) (v : V) : ∀ fs : List (Str × V), (d8y f v fs).length <= fs.length + 1
 | [] => by simp [d8y]
 | (k, x) :: r => by
  have ih := f0l f v r
  rw [show d8y f v ((k, x) :: r) = (if k = f then (k, v) :: r else (k, x) :: d8y f v r) from rfl]
  by_cases hk : k = f
  ·rw [if_pos hk, List.length_cons, List.length_cons]; omega
  ·rw [if_neg hk, List.length_cons, List.length_cons]; omega
theorem g7t.some_of {v : V} {o : Option Value} (r : g7t (some v) o) : ∃ u, o = some u /\ RelV v u := by
 cases o with
 | none => exact (show False from r).elim
 | some u => exact ⟨u, rfl, r⟩
theorem g7t.none_of {o : Option Value} (r : g7t none o) : o = none := by
 cases o with
 | none => rfl
 | some u => exact (show False from r).elim
theorem g8o {v : V} {u : Value} (r : RelV v u) : PySem.W.handedIn u = true := by
 cases v with
 | non => cases (show u = Value.none from r); rfl
 | bl b => cases (show u = Value.bool b from r); rfl
 | int i => obtain ⟨t, e⟩ := (show ∃ t, u = Value.int i t from r); cases e; rfl
 | str x => obtain ⟨t, e⟩ := (show ∃ t, u = Value.str x t from r); cases e; rfl
 | byt b => obtain ⟨t, e⟩ := (show ∃ t, u = Value.bytes b t from r); cases e; rfl
 | flt b => obtain ⟨t, e⟩ := (show ∃ t, u = Value.float b t from r); cases e; rfl
 | ref a => cases (show u = Value.ref a from r); rfl
 | ty n => cases (show u = Value.type n from r); rfl
section
variable {P : Program} {w : World} {H H' : Hp} {h h' : Heap} {a C dx : Addr} {fs fs' : List (Str × V)}
theorem f5s (hok : HOk P w H h) (e : H a = some (.ins C dx fs)) : ∃ mA, h8l h a dx C mA /\ (∀ f, g7t (fs.lookup f) (mA f)) /\ PySem.Within mA (fs.map (·.1)) /\ fs.length <= 1000 /\ H dx = some (.own a) := by
 obtain ⟨d, z, ne, ob, mA, n, r, q⟩ := (show b8n P w H h a (.ins C dx fs) from hok a _ e)
 exact ⟨mA, ⟨ob, n, ne⟩, r, q, z, d⟩
end
structure Cls (K : PySem.W.Frag) (C : Addr) : Prop where
 pg : PySem.W.plainGet K C Str.empty = true
 hd : PySem.W.hasDictIn K C = true
 po : PySem.W.plainOver K C = true
 sa : PySem.W.findIn K (.ref C) "__setattr__" = some (some (.builtin "object.__setattr__"))
theorem Cls.get {K : PySem.W.Frag} {C : Addr} (c : Cls K C) (f : Str) : PySem.W.plainGet K C f = true := c.pg
noncomputable def a7m (K : PySem.W.Frag) (C : Addr) (f : Str) : Prop := PySem.W.findIn K (.ref C) f = some none
theorem a7m.taker {K : PySem.W.Frag} {C : Addr} {f : Str} (n : a7m K C f) : PySem.W.takerIn K C f = some none := by
 unfold PySem.W.takerIn
 rw [show PySem.W.findIn K (.ref C) f = some none from n]
 rfl
structure Con (K : PySem.W.Frag) (C : Addr) (f : Str) (v : V) (u : Value) : Prop where
 at_ : PySem.W.findIn K (.ref C) f = some (some u)
 rel : RelV v u
 get : PySem.W.specialIn K u "__get__" = some none
 cp : PySem.W.copiedNames.contains f = false
structure Meth (K : PySem.W.Frag) (C : Addr) (m : Str) (f : Addr) : Prop where
 at_ : PySem.W.findIn K (.ref C) m = some (some (.ref f))
 fn : PySem.W.isFn K (.ref f) = true
 kp : PySem.W.keepIn K (.ref f) = true
section
variable {X : Cx} {pins : List (Addr × Obj)} {σ : St} {H : Hp} {s : Shared} {a C dx : Addr} {fs : List (Str × V)} {f : Str} {v : V} {A : Around} {E : Value -> Shared -> Prop}
theorem g5j {b : Bool} {Q : Value -> Shared -> Prop} (I : Inv X pins σ H s) (e : H a = some (.ins C dx fs)) (c : Cls X.K C) (n : a7m X.K C f) (l : fs.lookup f = some v)
  (h : ∀ u s', Inv X pins σ H s' -> RelV v u -> Q u s') : wpAny (model X.prog X.w) A (getAttr (.ref a) f b) Q E s := by
 obtain ⟨mA, O, r, _, _, _⟩ := f5s I.hok e
 obtain ⟨u, hu, ru⟩ := g7t.some_of (v := v) (o := mA f) (by rw [<- l]; exact r f)
 exact get_map I.kIn O (c.get f) c.hd n hu (g8o ru) (h u _ (I.tok _) ru)
theorem f4l {m : Str} {g : Addr} {pl : Sem Bool} {Q : Value × List Value -> Shared -> Prop} (I : Inv X pins σ H s) (e : H a = some (.ins C dx fs)) (c : Cls X.K C) (k : Meth X.K C m g) (l : fs.lookup m = none)
  (h : Q (.ref g, [.ref a]) s) : wpAny (model X.prog X.w) A (getMethod (.ref a) m pl) Q E s := by
 obtain ⟨mA, O, r, _, _, _⟩ := f5s I.hok e
 have hn : mA m = none := g7t.none_of (by rw [<- l]; exact r m)
 exact h3m I.kIn O (c.get m) k.at_ k.fn hn h
theorem g5k {y : V} {u : Value} {Q : Unit -> Shared -> Prop} (I : Inv X pins σ H s) (e : H a = some (.ins C dx fs)) (c : Cls X.K C) (n : a7m X.K C f) (hl : fs.length < 1000) (ry : RelV y u)
  (h : ∀ s', Inv X pins σ (upd H a (.ins C dx (d8y f y fs))) s' -> Q () s') : wpAny (model X.prog X.w) A (setAttr (.ref a) f u) Q E s := by
 obtain ⟨mA, O, r, wi, _, ho⟩ := f5s I.hok e
 have hz : (fs.map (·.1)).length <= sizeLine := by rw [List.length_map, sizeLine_eq]; omega
 refine h8m I.kIn O c.sa c.po n.taker c.hd wi hz fun h' O' sb => h _ ?_
 have hd : ∃ o, h'.get? dx = some o := let ⟨o, _, _, e', _⟩ := O'.ns; ⟨o, e'⟩
 refine I.write (x := a) (e := dx) (by rw [e]; exact True.intro) (.inr ho) (fun b q hb z => (sb.2 b hb).trans z) hd ?_
 refine ⟨by rw [a4z O.ne]; exact ho, ?_, O.ne, O'.obj, _, O'.ns, fun g => ?_, fun g hg => ?_⟩
 ·have := f0l f y fs; omega
 ·show g7t ((d8y f y fs).lookup g) (if g = f then some u else mA g)
  rw [f0j]
  by_cases q : g = f
  ·rw [if_pos q, if_pos q]; exact ry
  ·rw [if_neg q, if_neg q]; exact r g
 ·by_cases q : g = f
  ·rw [q]; exact (f0k f y fs).1
  ·refine (f0k f y fs).2 g (wi g fun z => hg ?_)
   show (if g = f then some u else mA g) = none
   rw [if_neg q]; exact z
theorem Inv.made (I : Inv X pins σ H s) : Inv X pins σ (upd (upd H s.heap.objs.size (.own (s.heap.objs.size + 1))) (s.heap.objs.size + 1) (.ins C s.heap.objs.size []))
  { s with heap := (s.heap.push PySem.W.emptyDict).push (PySem.W.instObj C s.heap.objs.size) } := by
 have e1 : (s.heap.push PySem.W.emptyDict).get? s.heap.objs.size = some PySem.W.emptyDict := Heap.get?_push_size s.heap rfl
 have e2 : ((s.heap.push PySem.W.emptyDict).push (PySem.W.instObj C s.heap.objs.size)).get? (s.heap.objs.size + 1) = some (PySem.W.instObj C s.heap.objs.size) := by
  have := Heap.get?_push_size (s.heap.push PySem.W.emptyDict) (o := PySem.W.instObj C s.heap.objs.size) rfl
  rwa [Heap.size_push] at this
 have e3 : (s.heap.push PySem.W.emptyDict).Ns s.heap.objs.size (fun _ => none) := ⟨PySem.W.emptyDict, #[], _, e1, rfl, (fun e he => absurd he (by simp)), fun _ => rfl⟩
 have I1 := I.laid (a := s.heap.objs.size) (o := .own (s.heap.objs.size + 1)) (h' := s.heap.push PySem.W.emptyDict) (t' := s.toks) (fun b u q => Heap.get?_push_of_some _ q) (Nat.le_refl _) ⟨_, e1⟩
 refine I1.laid (a := s.heap.objs.size + 1) (o := .ins C s.heap.objs.size []) (t' := s.toks) (fun b u q => Heap.get?_push_of_some _ q) (Nat.le_of_eq (Heap.size_push _ _)) ?_
 have ne : s.heap.objs.size ≠ s.heap.objs.size + 1 := Nat.ne_of_lt (Nat.lt_succ_self _)
 refine ⟨by rw [a4z ne, a5n], Nat.zero_le _, ne, e2, fun _ => none, (Heap.Ns1.of_empty e3).at fun o q => Heap.get?_push_of_some _ q, fun _ => True.intro, fun y hy => absurd rfl hy⟩
theorem h8n {prog : Program} {w : World} {env : Env} {e : Expr} {f : Str} {pos : Pos} {s : Shared} {Q : Value -> Shared -> Prop} (hb : attributeBase e f env (eval e env) = eval e env)
  (h : wpAny (model prog w) A (eval e env) (fun o s₁ => wpAny (model prog w) A (getAttr o f true) Q E s₁) E s) : wpAny (model prog w) A (eval (.Attribute e f pos) env) Q E s :=
 Attribute_any_ h (by rw [arm_eval_Attribute, hb])
end
noncomputable def i9y (K : PySem.W.Frag) (ta : TE) (f : Str) : TE := fun σ H Q => ta σ H fun x H1 => ∃ a C dx fs v, x = .ref a /\ H1 a = some (.ins C dx fs) /\ Cls K C /\ a7m K C f /\ fs.lookup f = some v /\ Q v H1
noncomputable def tCon (K : PySem.W.Frag) (ta : TE) (f : Str) : TE := fun σ H Q => ta σ H fun x H1 => ∃ a C dx fs v u, x = .ref a /\ H1 a = some (.ins C dx fs) /\ Cls K C /\ Con K C f v u /\ fs.lookup f = none /\ Q v H1
noncomputable def sFld (K : PySem.W.Frag) (ta tv : TE) (f : Str) : TS := fun D σ H => tv σ H fun y H1 => ta σ H1 fun x H2 => ∃ a C dx fs, x = .ref a /\ H2 a = some (.ins C dx fs) /\ Cls K C /\ a7m K C f /\ fs.length < 1000 /\
 D.nx σ (upd H2 a (.ins C dx (d8y f y fs)))
noncomputable def i9z (X : Cx) (op : Operator) (rd : V -> V -> Hp -> VK -> Prop) : Prop :=
 ∀ (pins : List (Addr × Obj)) (s : Shared) (σ : St) (H : Hp) (x y : V) (u v : Value) (Q : VK), Inv X pins σ H s -> RelV x u -> RelV y v -> rd x y H Q -> wpAny (model X.prog X.w) X.A (inplaceOp op u v) (EP X pins σ Q) X.xe s
noncomputable def i7y (K : PySem.W.Frag) (ta tv : TE) (rd : V -> V -> Hp -> VK -> Prop) (f : Str) : TS := fun D σ H => ta σ H fun x H1 => ∃ a C dx fs v, x = .ref a /\ H1 a = some (.ins C dx fs) /\ Cls K C /\ a7m K C f /\ fs.lookup f = some v /\
 tv σ H1 fun y H2 => rd v y H2 fun z H3 => ∃ dx' fs', H3 a = some (.ins C dx' fs') /\ fs'.length < 1000 /\ D.nx σ (upd H3 a (.ins C dx' (d8y f z fs')))
section
variable {X : Cx} {o e value : Expr} {f : Str} {pos pos' tpos : Pos} {ta tv : TE}
theorem i2w (he : PE X e ta) (hb : attributeBase e f X.env (eval e X.env) = eval e X.env) : PE X (.Attribute e f pos) (i9y X.K ta f) := by
 intro pins s σ H Q I h
 refine h8n hb (thn (he pins s σ H _ I h) fun u s1 ⟨x, H1, I1, rx, a, C, dx, fs, v, ex, ea, c, n, l, q⟩ => ?_)
 subst ex
 obtain rfl : u = Value.ref a := rx
 exact g5j I1 ea c n l fun u' s2 I2 ru => ⟨v, H1, I2, ru, q⟩
noncomputable def rAdd : V -> V -> Hp -> VK -> Prop := fun x y H Q => ∃ i j, x = .int i /\ y = .int j /\ Q (.int (i + j)) H
noncomputable def rSub : V -> V -> Hp -> VK -> Prop := fun x y H Q => ∃ i j, x = .int i /\ y = .int j /\ Q (.int (i - j)) H
theorem i2x : i9z X .Add rAdd := by
 rintro pins s σ H x y u v Q I rx ry ⟨i, j, rfl, rfl, q⟩
 obtain ⟨t, rfl⟩ := (show ∃ t, u = Value.int i t from rx)
 obtain ⟨t', rfl⟩ := (show ∃ t', v = Value.int j t' from ry)
 exact PyProof.Rows.iadd_int ⟨.int (i + j), H, I.tok _, ⟨_, rfl⟩, q⟩
end
section
variable {X : Cx} {pins : List (Addr × Obj)} {σ : St} {H : Hp} {s : Shared} {A : Around} {E : Value -> Shared -> Prop} {Q : Value -> Shared -> Prop} {c : Value} {b : Bool}
inductive g5l (K : PySem.W.Frag) (H : Hp) : V -> Value -> Prop where
 | non : g5l K H .non (.type "NoneType")
 | bl (x : Bool) : g5l K H (.bl x) (.type "bool")
 | int (i : Int) : g5l K H (.int i) (.type "int")
 | str (x : Str) : g5l K H (.str x) (.type "str")
 | flt (x : UInt64) : g5l K H (.flt x) (.type "float")
 | lst {a : Addr} {xs : List V} (e : H a = some (.lst xs)) : g5l K H (.ref a) (.type "list")
 | frz {a : Addr} {o : Obj} {xs : List V} (e : H a = some (.frz o (.lst xs))) : g5l K H (.ref a) (.type "list")
 | tup {a : Addr} {xs : List V} (e : H a = some (.tup xs)) : g5l K H (.ref a) (.type "tuple")
 | dK {a : Addr} {kvs : List (Key × V)} (e : H a = some (.dK kvs)) : g5l K H (.ref a) (.type "dict")
 | dT {a : Addr} {kvs : List (List Key × V)} (e : H a = some (.dT kvs)) : g5l K H (.ref a) (.type "dict")
 | ins {a C dx : Addr} {fs : List (Str × V)} (e : H a = some (.ins C dx fs)) (cl : Cls K C) (ha : PySem.W.findIn K (.ref C) "__class__" = some (some (.builtin "object.__class__")))
   (hn : PySem.W.specialIn K (.builtin "object.__class__") "__get__" = some (some (.builtin "getset_descriptor.__get__"))) (htk : PySem.W.takesIn K (.builtin "object.__class__") = some true)
   (hm : PySem.W.mroIn K C (.type "object") = some true) : g5l K H (.ref a) (.ref C)
theorem g8p {x : V} {u t : Value} (I : Inv X pins σ H s) (rx : RelV x u) (ty : g5l X.K H x t) (e : PySem.W.kitOne X.K t c = some b) (h : ∀ tk, Q (.bool b) { s with toks := tk }) :
  wpAny (model X.prog X.w) A (call (.builtin "isinstance") [u, c]) Q E s := by
 cases ty with
 | non => cases (show u = Value.none from rx); exact PySem.W.kia_one PySem.W.kitx_none I.kIn True.intro e (fun z => nomatch z) h
 | bl y => cases (show u = Value.bool y from rx); exact PySem.W.kia_one PySem.W.kitx_bool I.kIn True.intro e (fun z => nomatch z) h
 | int i => obtain ⟨t, q⟩ := (show ∃ t, u = Value.int i t from rx); cases q; exact PySem.W.kia_one PySem.W.kitx_int I.kIn True.intro e (fun z => nomatch z) h
 | str y => obtain ⟨t, q⟩ := (show ∃ t, u = Value.str y t from rx); cases q; exact PySem.W.kia_one PySem.W.kitx_str I.kIn True.intro e (fun z => nomatch z) h
 | flt y => obtain ⟨t, q⟩ := (show ∃ t, u = Value.float y t from rx); cases q; exact PySem.W.kia_one PySem.W.kitx_float I.kIn True.intro e (fun z => nomatch z) h
 | @lst a xs ea =>
  cases (show u = Value.ref a from rx)
  obtain ⟨_, _, n, _, h1⟩ := (show b8n X.prog X.w H s.heap a (.lst xs) from I.hok a _ ea)
  exact PySem.W.kia_one PySem.W.kitx_list I.kIn ⟨_, h1, rfl⟩ e (fun z => nomatch z) h
 | @frz a ob xs ea =>
  cases (show u = Value.ref a from rx)
  obtain ⟨_, _, _, n, _, h1⟩ := (show b8n X.prog X.w H s.heap a (.frz ob (.lst xs)) from I.hok a _ ea)
  exact PySem.W.kia_one PySem.W.kitx_list I.kIn ⟨_, h1, rfl⟩ e (fun z => nomatch z) h
 | @tup a xs ea =>
  cases (show u = Value.ref a from rx)
  obtain ⟨_, _, _, p⟩ := (show b8n X.prog X.w H s.heap a (.tup xs) from I.hok a _ ea)
  obtain ⟨o, h1, h2, _⟩ := p
  exact PySem.W.kia_one PySem.W.kitx_tuple I.kIn ⟨o, h1, h2⟩ e (fun z => nomatch z) h
 | @dK a kvs ea =>
  cases (show u = Value.ref a from rx)
  obtain ⟨_, _, vs, _, p⟩ := (show b8n X.prog X.w H s.heap a (.dK kvs) from I.hok a _ ea)
  obtain ⟨o, es, ep, h1, h2, _⟩ := p
  exact PySem.W.kia_one PySem.W.kitx_dict I.kIn ⟨o, h1, h2.1⟩ e (fun z => nomatch z) h
 | @dT a kvs ea =>
  cases (show u = Value.ref a from rx)
  obtain ⟨_, _, xs, _, o, es, ep, h1, h2, _⟩ := (show b8n X.prog X.w H s.heap a (.dT kvs) from I.hok a _ ea)
  exact PySem.W.kia_one PySem.W.kitx_dict I.kIn ⟨o, h1, h2.1⟩ e (fun z => nomatch z) h
 | @ins a C dx fs ea cl ha hn htk hm =>
  cases (show u = Value.ref a from rx)
  obtain ⟨mA, O, _⟩ := f5s I.hok ea
  obtain ⟨od, J, _⟩ := O.look
  exact PySem.W.kia_one (PySem.W.kitx_own (cl.get _) cl.hd ha hn htk hm) I.kIn J e (fun z => nomatch z) h
end
end L2
namespace L2
open PySem PySem.Spec PyProof.Rows
structure a3g (k : Nat) (A : Around) : Prop where
 hd : A.handled = none
 dp : A.depth + 3 * k + 5 < recursionLimit
 un : A.units + 16 * k + 200 < cLine
theorem a3g.mono {j k : Nat} {A : Around} (r : a3g k A) (h : j <= k) : a3g j A := ⟨r.hd, by have := r.dp; omega, by have := r.un; omega⟩
theorem a3g.deeper {k : Nat} {A : Around} (r : a3g (k + 1) A) (env : Env) : a3g k (A.deeper env) :=
 ⟨r.hd, by have := r.dp; show A.depth + 1 + 3 * k + 5 < _; omega, by have := r.un; show A.units + 3 + 16 * k + 200 < _; omega⟩
theorem a3g.in1 {k : Nat} {A : Around} (r : a3g (k + 1) A) : a3g k A.in1 :=
 ⟨r.hd, by have := r.dp; show A.depth + 3 * k + 5 < _; omega, by have := r.un; show A.units + 1 + 16 * k + 200 < _; omega⟩
theorem g5m {A : Around} {C : Addr} {us : List Value} {kw : List (Str × Value)} : (A.under (.builtin "type.__call__" ⟨.ref C :: us, kw⟩)).depth = A.depth + 1 := by
 first | rfl | simp [Around.under, Code.weight, Code.isCreation, Code.isGuard, Code.isCaller, Code.frames, Code.isFrame, guardIds]
theorem g5n {A : Around} {C : Addr} {us : List Value} {kw : List (Str × Value)} : (A.under (.builtin "type.__call__" ⟨.ref C :: us, kw⟩)).units = A.units + 1 := by
 first | rfl | simp [Around.under, Code.cUnits, Code.frames, Code.isFrame]
theorem a3g.make {k : Nat} {A : Around} (r : a3g (k + 1) A) (C : Addr) (us : List Value) (kw : List (Str × Value)) : a3g k (A.under (.builtin "type.__call__" ⟨.ref C :: us, kw⟩)) :=
 ⟨r.hd, by have := r.dp; rw [g5m]; omega, by have := r.un; rw [g5n]; omega⟩
theorem a3g.depth {k : Nat} {A : Around} (r : a3g k A) : A.depth < recursionLimit := by have := r.dp; omega
theorem a3g.units {k : Nat} {A : Around} (r : a3g k A) : A.units + 64 < cLine := by have := r.un; omega
noncomputable def d4s : TA := fun _ H Q => Q [] H
noncomputable def f0m (ta : TE) (tr : TA) : TA := fun σ H Q => ta σ H fun x H1 => tr σ H1 fun xs H2 => Q (x :: xs) H2
section
variable {X : Cx} {e : Expr} {es : List Expr} {te : TE} {t : TA} {pos : Pos}
theorem a0i : PA X [] d4s := fun _ _ _ _ H Q I h => Calls.spliced_nil ⟨[], H, I, .nil, h⟩
theorem a0g (ha : PE X e te) (hr : PA X es t) (hs : starEach (e :: es) X.env = (false, eval e X.env) :: starEach es X.env := by rfl) : PA X (e :: es) (f0m te t) := by
 intro pos pins s σ H Q I h
 rw [hs]
 show wpAny _ _ (spliced ((false, eval e X.env) :: backTo pos (starEach es X.env))) _ _ s
 refine Calls.spliced_cons (thn (ha pins s σ H _ I h) fun u s1 ⟨x, H1, I1, r1, q1⟩ => ?_)
 exact thn (hr pos pins s1 σ H1 _ I1 q1) fun us s2 ⟨xs, H2, I2, r2, q2⟩ => ⟨x :: xs, H2, I2, .cons r1 r2, q2⟩
noncomputable def tTup (t : TA) : TE := fun σ H Q => t σ H fun xs H1 => xs.length <= sizeLine /\ ∀ p, H1 p = none -> Q (.ref p) (upd H1 p (.tup xs))
noncomputable def tLst (t : TA) : TE := fun σ H Q => t σ H fun xs H1 => xs.length <= sizeLine /\ ∀ p, H1 p = none -> Q (.ref p) (upd H1 p (.lst xs))
end
noncomputable abbrev Sp := List V -> Hp -> VK -> XK -> Prop
noncomputable abbrev CXT := List Env -> Hp -> Shared -> XK -> Value -> Shared -> Prop
structure g8q (P : Program) (w : World) (K : PySem.W.Frag) (mg : Str -> Option Value) (base : Heap) (A : Around) (outer : List Env) (s : Shared) (H : Hp) : Prop where
 frames : A.frames = some outer
 mod : Mod K mg base
 bs : ∀ b o, base.get? b = some o -> s.heap.get? b = some o /\ H b = none
 bsz : base.objs.size <= s.heap.objs.size
 g3l : s.heap.FunFrames base outer
 frf : ∀ b ∈ frs outer, H b = none
 hok : HOk P w H s.heap
 bare : AllBare s.gens
noncomputable def CE (outer : List Env) (P : Program) (w : World) (H : Hp) (s : Shared) (Q : VK) (u : Value) (s' : Shared) : Prop :=
 ∃ v H', s'.os = s.os /\ AllBare s'.gens /\ Un (frs outer) [] H H' s.heap s'.heap /\ HOk P w H' s'.heap /\ RelV v u /\ Q v H'
noncomputable def CR (CX : CXT) (outer : List Env) (P : Program) (w : World) (H : Hp) (s : Shared) (Q : VK) (E : XK) (r : Result) (s' : Shared) : Prop :=
 match r with
 | .ok (.ret u) => CE outer P w H s Q u s'
 | .ok _ => False
 | .error e => CX outer H s E e s'
structure a1o (P : Program) (w : World) (K : PySem.W.Frag) (mg : Str -> Option Value) (base : Heap) (CX : CXT) (k : Nat) (f : Addr) (fd : FuncData) (ps : List Str) (sp : Sp) : Prop where
 len : ∀ vs H Q E, sp vs H Q E -> vs.length = ps.length
 run : ∀ (A : Around) (outer : List Env) (s : Shared) (H : Hp) (args : Args) (us : List Value) (vs : List V) (Q : VK) (E : XK), a3g k A -> g8q P w K mg base A outer s H -> BindsTo s fd args (ps.zip us) -> Vals vs us -> sp vs H Q E ->
  codeAny (model P w) A (.call (.ref f) args) (CR CX outer P w H s Q E) s
theorem a1o.mono {P : Program} {w : World} {K : PySem.W.Frag} {mg : Str -> Option Value} {base : Heap} {CX : CXT} {j k : Nat} {f : Addr} {fd : FuncData} {ps : List Str} {sp : Sp} (F : a1o P w K mg base CX j f fd ps sp) (h : j <= k) :
  a1o P w K mg base CX k f fd ps sp := ⟨F.len, fun A outer s H args us vs Q E hr => F.run A outer s H args us vs Q E (hr.mono h)⟩
theorem a1o.imp {P : Program} {w : World} {K : PySem.W.Frag} {mg : Str -> Option Value} {base : Heap} {CX : CXT} {k : Nat} {f : Addr} {fd : FuncData} {ps : List Str} {sp sp' : Sp} (F : a1o P w K mg base CX k f fd ps sp)
  (h : ∀ vs H Q E, sp' vs H Q E -> sp vs H Q E) : a1o P w K mg base CX k f fd ps sp' :=
 ⟨fun vs H Q E q => F.len vs H Q E (h _ _ _ _ q), fun A outer s H args us vs Q E hr he hb hv hs => F.run A outer s H args us vs Q E hr he hb hv (h _ _ _ _ hs)⟩
theorem g8q.make {P : Program} {w : World} {K : PySem.W.Frag} {mg : Str -> Option Value} {base : Heap} {A : Around} {outer : List Env} {s : Shared} {H : Hp} (e : g8q P w K mg base A outer s H) (C : Addr) (us : List Value) (kw : List (Str × Value)) :
  g8q P w K mg base (A.under (.builtin "type.__call__" ⟨.ref C :: us, kw⟩)) outer s H := ⟨by first | exact e.frames | (simpa [Around.under, Code.envs, Code.isFrame, pushEnvs] using e.frames), e.mod, e.bs, e.bsz, e.g3l, e.frf, e.hok, e.bare⟩
theorem g8q.in1 {P : Program} {w : World} {K : PySem.W.Frag} {mg : Str -> Option Value} {base : Heap} {A : Around} {outer : List Env} {s : Shared} {H : Hp} (e : g8q P w K mg base A outer s H) :
  g8q P w K mg base A.in1 outer s H := ⟨e.frames, e.mod, e.bs, e.bsz, e.g3l, e.frf, e.hok, e.bare⟩
section
variable {X : Cx} {pins : List (Addr × Obj)} {σ : St} {H : Hp} {s s' : Shared}
theorem Inv.env0 (I : Inv X pins σ H s) : g8q X.prog X.w X.K X.mg X.base X.A X.stack s H :=
 ⟨I.ok.frames, I.ok.mod, I.bs, Nat.le_trans I.ok.bsz I.sz, I.stack, I.g1f, I.hok, I.bare⟩
theorem Inv.after {Q : VK} {u : Value} (I : Inv X pins σ H s) (h : CE X.stack X.prog X.w H s Q u s') : EP X pins σ Q u s' := by
 obtain ⟨v, H', os, bare, un, hok, r, q⟩ := h
 obtain ⟨hh, g, d, t, os'⟩ := s'
 obtain rfl : os' = s.os := os
 exact ⟨v, H', I.call (h' := hh) (g' := g) (d' := d) (t' := t) (ch := []) un hok bare (fun b z => absurd z (by simp)), r, q⟩
end
noncomputable def h8o (sp : Sp) (dvs : List V) (E : XK) (t : TA) : TE := fun σ H Q => t σ H fun vs H1 => sp (vs ++ dvs) H1 Q E
noncomputable def tMeth (C : Addr) (m : Str) (sp : Sp) (dvs : List V) (E : XK) (ta : TE) (t : TA) : TE := fun σ H Q => ta σ H fun x H1 => ∃ a dx fs, x = .ref a /\ H1 a = some (.ins C dx fs) /\ fs.lookup m = none /\
 t σ H1 fun vs H2 => sp (x :: (vs ++ dvs)) H2 Q E
noncomputable def tMake (C : Addr) (sp : Sp) (dvs : List V) (E : XK) (t : TA) : TE := fun σ H Q => t σ H fun vs H1 => ∀ x dx, H1 x = none -> H1 dx = none -> dx ≠ x ->
 sp (.ref x :: (vs ++ dvs)) (upd (upd H1 dx (.own x)) x (.ins C dx [])) (fun v H2 => v = .non /\ Q (.ref x) H2) E
noncomputable def Binds (K : PySem.W.Frag) (fd : FuncData) (ps : List Str) (ds : List Value) : Prop :=
 ∀ (s : Shared) (us : List Value), K.In s.heap -> (us ++ ds).length = ps.length -> BindsTo s fd ⟨us, []⟩ (ps.zip (us ++ ds))
theorem Binds.all {K : PySem.W.Frag} {fd : FuncData} {ps : List Str} (h : ∀ us : List Value, us.length = ps.length -> bindArgs fd ⟨us, []⟩ = pure (ps.zip us)) : Binds K fd ps [] := fun s us _ hl => by
 rw [List.append_nil] at hl ⊢
 exact .of_eq (h us hl)
noncomputable def Passes (CX : CXT) (X : Cx) (E : XK) : Prop := ∀ (pins : List (Addr × Obj)) (σ : St) (H : Hp) (s : Shared) (e : Value) (s' : Shared), Inv X pins σ H s -> CX X.stack H s E e s' -> X.xe e s'
section
variable {X : Cx} {CX : CXT} {k : Nat} {f C : Addr} {fd : FuncData} {ps : List Str} {sp : Sp} {dvs : List V} {ds : List Value} {E : XK} {x m : Str} {p pos apos : Pos} {e o : Expr} {es : List Expr} {ta : TE} {t : TA}
theorem g3o {pins : List (Addr × Obj)} {σ : St} {H : Hp} {s : Shared} {Q : VK} {us : List Value} {vs : List V} (F : a1o X.prog X.w X.K X.mg X.base CX k f fd ps sp) (hr : a3g k X.A) (hb : Binds X.K fd ps ds) (hd : Vals dvs ds) (hx : Passes CX X E)
  (I : Inv X pins σ H s) (r : Vals vs us) (h : sp (vs ++ dvs) H Q E) : wpAny (model X.prog X.w) X.A (call (.ref f) us) (EP X pins σ Q) X.xe s := by
 have r2 : Vals (vs ++ dvs) (us ++ ds) := r.append hd
 have hl : (us ++ ds).length = ps.length := by rw [<- r2.length]; exact F.len _ _ _ _ h
 refine wpAny_call (codeAny_mono (F.run X.A X.stack s H ⟨us, []⟩ (us ++ ds) (vs ++ dvs) Q E hr I.env0 (hb s us I.kIn hl) r2 h) fun r s' hq => ?_)
 cases r with
 | error e => exact hx pins σ H s e s' I hq
 | ok fl =>
  cases fl with
  | ret u => exact I.after hq
  | next => exact False.elim hq
  | brk => exact False.elim hq
  | cont => exact False.elim hq
theorem a0u (F : a1o X.prog X.w X.K X.mg X.base CX k f fd ps sp) (hr : a3g k X.A) (hg : Gl X x) (hm : X.mg x = some (.ref f)) (hk : PySem.W.keepIn X.K (.ref f) = true) (hb : Binds X.K fd ps ds) (hd : Vals dvs ds) (hx : Passes CX X E)
  (ha : PA X (e :: es) t) (hdb : (x == ("__debug__" : Str)) = false := by decide) (he : starEach (e :: es) X.env = (false, eval e X.env) :: starEach es X.env := by rfl) (hpl : (backTo pos (starEach es X.env)).any (·.1) = false := by rfl) :
  PE X (.Call (.Name x p) (e :: es) [] pos) (h8o sp dvs E t) := by
 intro pins s σ H Q I h
 refine wpAny_Call_Name_kw (g1g I hg hm ?_ hdb)
 refine PySem.W.callWith_K (h₀ := X.base) I.ok.mod.kin hk (thn (ha pos pins s σ H _ I h) fun us s1 ⟨vs, H1, I1, r, q⟩ => ⟨I1.kIn, ?_⟩) he hpl
 exact g3o F hr hb hd hx I1 r q
structure Mk (K : PySem.W.Frag) (C f : Addr) : Prop where
 makes : PySem.W.makesIn K C = true
 init : PySem.W.findIn K (.ref C) "__init__" = some (some (.ref f))
 fn : PySem.W.isFn K (.ref f) = true
 kp : PySem.W.keepIn K (.ref C) = true
theorem h3o {pins : List (Addr × Obj)} {σ : St} {H : Hp} {s : Shared} {Q : VK} {us : List Value} {vs : List V} (M : Mk X.K C f) (F : a1o X.prog X.w X.K X.mg X.base CX k f fd ps sp) (hr : a3g (k + 1) X.A) (hb : Binds X.K fd ps ds) (hd : Vals dvs ds)
  (hx : Passes CX X E) (I : Inv X pins σ H s) (r : Vals vs us)
  (h : ∀ x dx, H x = none -> H dx = none -> dx ≠ x -> sp (.ref x :: (vs ++ dvs)) (upd (upd H dx (.own x)) x (.ins C dx [])) (fun v H2 => v = .non /\ Q (.ref x) H2) E) :
  wpAny (model X.prog X.w) X.A (call (.ref C) us) (EP X pins σ Q) X.xe s := by
 have hq := h (s.heap.objs.size + 1) s.heap.objs.size (I.hok.fresh (Nat.le_succ _)) (I.hok.fresh (Nat.le_refl _)) (Nat.ne_of_lt (Nat.lt_succ_self _))
 have I2 := Inv.made (C := C) I
 have r2 : Vals (V.ref (s.heap.objs.size + 1) :: (vs ++ dvs)) (Value.ref (s.heap.objs.size + 1) :: (us ++ ds)) := .cons rfl (r.append hd)
 have hl : (Value.ref (s.heap.objs.size + 1) :: us ++ ds).length = ps.length := by
  have e := r2.length
  rw [F.len _ _ _ _ hq] at e
  exact e.symm
 refine wpAny_call (h3n (f := f) I.kIn M.makes M.init (beq_iff_eq.mp M.fn) (codeAny_mono (F.run _ X.stack _ _ ⟨Value.ref (s.heap.objs.size + 1) :: us, []⟩ (Value.ref (s.heap.objs.size + 1) :: (us ++ ds)) _ _ E (hr.make C us [])
  (I2.env0.make C us []) (hb _ (Value.ref (s.heap.objs.size + 1) :: us) I2.kIn hl) r2 hq) fun r s' hq' => ?_))
 cases r with
 | error e => exact hx pins σ _ _ e s' I2 hq'
 | ok fl =>
  cases fl with
  | ret u =>
   obtain ⟨v, H', I3, rv, ev, q3⟩ := I2.after hq'
   subst ev
   exact ⟨rv, ⟨V.ref (s.heap.objs.size + 1), H', I3, rfl, q3⟩⟩
  | next => exact False.elim hq'
  | brk => exact False.elim hq'
  | cont => exact False.elim hq'
end
noncomputable def PK (X : Cx) (kws : List Keyword) (t : TA) : Prop :=
 ∀ (pos : Pos) (pins : List (Addr × Obj)) (s : Shared) (σ : St) (H : Hp) (Q : List V -> Hp -> Prop), Inv X pins σ H s -> t σ H Q -> wpAny (model X.prog X.w) X.A (evalAll ((backToKw pos (keywordEach kws X.env)).map (·.2))) (AP X pins σ Q) X.xe s
section
variable {X : Cx} {CX : CXT} {k : Nat} {f C : Addr} {fd : FuncData} {ps ks : List Str} {sp : Sp} {E : XK} {x m : Str} {p pos apos kpos : Pos} {e o : Expr} {es : List Expr} {kws : List Keyword} {te ta : TE} {t tk : TA} {nm : Option Str}
theorem i2y : PK X [] d4s := fun _ _ _ _ H Q I h => wpAny_evalAll_nil ⟨[], H, I, .nil, h⟩
theorem h8p (ha : PE X e te) (hr : PK X kws t) : PK X (⟨nm, e, kpos⟩ :: kws) (f0m te t) := by
 intro pos pins s σ H Q I h
 show wpAny _ _ (evalAll ((do let v <- eval e X.env; standAt pos; pure v) :: (backToKw pos (keywordEach kws X.env)).map (·.2))) _ _ s
 refine wpAny_evalAll_cons (wpAny_bind (thn (ha pins s σ H _ I h) fun u s1 ⟨x, H1, I1, r1, q1⟩ => wpAny_bind (wpAny_standAt (wpAny_pure ?_))))
 exact thn (hr pos pins s1 σ H1 _ I1 q1) fun us s2 ⟨xs, H2, I2, r2, q2⟩ => ⟨x :: xs, H2, I2, .cons r1 r2, q2⟩
structure j0a (K : PySem.W.Frag) (fd : FuncData) (ps ks : List Str) (g : List Value -> List Value -> List Value) (gV : List V -> List V -> List V) : Prop where
 to : ∀ (s : Shared) (us ws : List Value), K.In s.heap -> (g us ws).length = ps.length -> BindsTo s fd ⟨us, ks.zip ws⟩ (ps.zip (g us ws))
 rel : ∀ {vs : List V} {us : List Value} {zs : List V} {ws : List Value}, Vals vs us -> Vals zs ws -> Vals (gV vs zs) (g us ws)
noncomputable def j0b (sp : Sp) (gV : List V -> List V -> List V) (E : XK) (t tk : TA) : TE := fun σ H Q => t σ H fun vs H1 => tk σ H1 fun zs H2 => sp (gV vs zs) H2 Q E
variable {g : List Value -> List Value -> List Value} {gV : List V -> List V -> List V}
end
structure a0w (N P : List Str) (sc : Scope) : Prop where
 kind : sc.kind = .function
 co : sc.isCoroutine = false
 gen : sc.isGenerator = false
 nd : N.Nodup
 pre : N.take P.length = P
 par : ∀ x ∈ P, sc.names.lookup x = some .local \/ sc.names.lookup x = some .cell
 i3a : ∀ y ∈ sc.names, y.2 ≠ .free
theorem f8m {kindOf : Str -> Option NameKind} {x : Str} : ∀ {binds : List (Str × Value)} {m : Str -> Option Value}, (∀ v, (x, v) ∉ binds) -> bindL kindOf binds m x = m x
 | [], _, _ => rfl
 | (n, v) :: r, m, h => by
  unfold bindL
  rw [f8m fun w hw => h w (List.mem_cons_of_mem _ hw)]
  split
  ·have : x ≠ n := by rintro rfl; exact h v List.mem_cons_self
   simp [this]
  ·rfl
theorem f8n {kindOf : Str -> Option NameKind} {x : Str} : ∀ {binds : List (Str × Value)} {m : Str -> Option Value}, (∀ v, (x, v) ∉ binds) -> bindC kindOf binds m x = m x
 | [], _, _ => rfl
 | (n, v) :: r, m, h => by
  unfold bindC
  rw [f8n fun w hw => h w (List.mem_cons_of_mem _ hw)]
  split
  ·rfl
  ·have : x ≠ n := by rintro rfl; exact h v List.mem_cons_self
   simp [this]
theorem f8o {kindOf : Str -> Option NameKind} {x : Str} {v : Value} : ∀ {P : List Str} {vs : List Value} {i : Nat} {m : Str -> Option Value}, P.Nodup -> P[i]? = some x -> vs[i]? = some v -> kindOf x = some .local ->
  bindL kindOf (P.zip vs) m x = some v
 | [], _, _, _, _, h, _, _ => by simp at h
 | _ :: _, [], _, _, _, _, h, _ => by simp at h
 | p :: P, w :: vs, 0, m, nd, h1, h2, hk => by
  simp at h1 h2; subst h1; subst h2
  show bindL kindOf ((p, w) :: P.zip vs) m p = _
  unfold bindL
  rw [f8m fun v hv => (List.nodup_cons.mp nd).1 (List.of_mem_zip hv).1, if_pos hk]
  simp
 | p :: P, w :: vs, i + 1, m, nd, h1, h2, hk => by
  show bindL kindOf ((p, w) :: P.zip vs) m x = _
  unfold bindL
  exact f8o (i := i) (List.nodup_cons.mp nd).2 (by simpa using h1) (by simpa using h2) hk
theorem f8p {kindOf : Str -> Option NameKind} {x : Str} {v : Value} : ∀ {P : List Str} {vs : List Value} {i : Nat} {m : Str -> Option Value}, P.Nodup -> P[i]? = some x -> vs[i]? = some v -> kindOf x ≠ some .local ->
  bindC kindOf (P.zip vs) m x = some v
 | [], _, _, _, _, h, _, _ => by simp at h
 | _ :: _, [], _, _, _, _, h, _ => by simp at h
 | p :: P, w :: vs, 0, m, nd, h1, h2, hk => by
  simp at h1 h2; subst h1; subst h2
  show bindC kindOf ((p, w) :: P.zip vs) m p = _
  unfold bindC
  rw [f8n fun v hv => (List.nodup_cons.mp nd).1 (List.of_mem_zip hv).1, if_neg hk]
  simp
 | p :: P, w :: vs, i + 1, m, nd, h1, h2, hk => by
  show bindC kindOf ((p, w) :: P.zip vs) m x = _
  unfold bindC
  exact f8p (i := i) (List.nodup_cons.mp nd).2 (by simpa using h1) (by simpa using h2) hk
noncomputable def start (N : List Str) (vs : List V) : St := vs.map some ++ List.replicate (N.length - vs.length) none
noncomputable def h5v (CX : CXT) (P : Program) (w : World) (K : PySem.W.Frag) (mg : Str -> Option Value) (base : Heap) (N : List Str) (qual : Str) (scope : Scope) (f : Addr) (cd : Value) (A : Around) (outer : List Env) (s : Shared) (H : Hp) (E : XK) : Cx where
 prog := P
 w := w
 K := K
 mg := mg
 base := base
 A := A.deeper (envOfC qual scope s.heap.objs.size f cd)
 N := N
 s₀ := s
 H₀ := H
 env := envOfC qual scope s.heap.objs.size f cd
 outer := outer
 stack := envOfC qual scope s.heap.objs.size f cd :: outer
 ex := []
 calm := true
 fn := fun _ => true
 pn := []
 xe := fun e s' => wpAny (model P w) (A.deeper (envOfC qual scope s.heap.objs.size f cd)) (leaving (envOfC qual scope s.heap.objs.size f cd) e) (fun _ s'' => CX outer H s E e s'') (fun e' s'' => CX outer H s E e' s'') s'
theorem g3p {sc : Scope} {n : Nat} {x : Str} (h : sc.names.lookup x = some .cell) : ∃ c, (cellsFrom n sc.names []).lookup x = some c := by
 have q := PySem.W.cellsFrom_some sc.names n [] (.inl h)
 exact Option.isSome_iff_exists.mp q
theorem g8r {CX : CXT} {P : Program} {w : World} {K : PySem.W.Frag} {mg : Str -> Option Value} {base : Heap} {N ps : List Str} {qual : Str} {scope : Scope} {f : Addr} {cd : Value} {A : Around} {outer : List Env} {s s1 : Shared} {H : Hp} {E : XK} {us : List Value} {vs : List V}
  (S : a0w N ps scope) (hd : A.handled = none) (e0 : g8q P w K mg base A outer s H) (hl : vs.length = ps.length) (r : Vals vs us)
  (x : InCallC s s.heap.objs.size (bindL (envOfC qual scope s.heap.objs.size f cd).kindOf (ps.zip us) fun _ => none) (cellsFrom (s.heap.objs.size + 1) scope.names []) (bindC (envOfC qual scope s.heap.objs.size f cd).kindOf (ps.zip us) fun _ => none) s1) :
  Inv (h5v CX P w K mg base N qual scope f cd A outer s H E) [] (start N vs) H s1 := by
 have hpl : ps.length <= N.length := by have := congrArg List.length S.pre; rw [List.length_take] at this; omega
 obtain ⟨h1, tk, rfl, hk⟩ := x.done
 have noA : ∀ b : Addr, b ∉ (h5v CX P w K mg base N qual scope f cd A outer s H E).ex := fun b z => absurd (show b ∈ ([] : List Addr) from z) (by simp)
 refine ⟨⟨e0.mod, S.kind, rfl, rfl, Nat.le_refl _, fun y z c h1 h2 => ?_, fun y hy => ?_, fun y c _ h => ?_, fun _ => hd, Around.frames_deeper e0.frames, .inr ⟨rfl, rfl⟩, fun b z => absurd z (noA b), e0.bs, e0.bsz, fun b _ _ => noA b, fun b z => absurd z (noA b), e0.g3l, e0.frf⟩,
  rfl, e0.bare, Un.kept hk, ⟨_, x.toInCall.ns, fun i y v h1 h2 h3 => ?_⟩, fun y c h => ⟨_, x.cell y c h⟩, e0.hok.fresh (Nat.le_refl _), fun y c h => ?_, fun p hp => absurd (show p ∈ ([] : List (Addr × Obj)) from hp) (by simp), e0.hok.kept hk, ?_⟩
 ·exact name_of_addr x.apart (PySem.mem_of_lookup h1) (PySem.mem_of_lookup h2)
 ·have hy : scope.names.lookup y = some .cell \/ scope.names.lookup y = some .free := hy
  rcases hy with hy | hy
  ·exact g3p hy
  ·exact absurd rfl (S.i3a _ (PySem.mem_of_lookup hy))
 ·exact Nat.le_of_lt (x.above y c (PySem.mem_of_lookup h))
 ·have hi : i < vs.length := by
   unfold start at h2
   by_cases hi : i < vs.length
   ·exact hi
   ·rw [List.getElem?_append_right (by simpa using hi)] at h2
    rw [List.getElem?_replicate] at h2
    split at h2 <;> cases h2
  have ha : vs[i]? = some v := by
   unfold start at h2
   rw [List.getElem?_append_left (by simpa using hi), List.getElem?_map] at h2
   cases e : vs[i]? with
   | none => rw [e] at h2; cases h2
   | some a => rw [e] at h2; cases h2; rfl
  obtain ⟨u, hu, rv⟩ := r.get ha
  have hp : ps[i]? = some y := by
   rw [<- S.pre, List.getElem?_take_of_lt (by omega)]; exact h1
  have ndP : ps.Nodup := by rw [<- S.pre]; exact S.nd.sublist (List.take_sublist _ _)
  refine ⟨u, rv, ?_⟩
  rcases S.par y (List.mem_of_getElem? hp) with k | k
  ·exact .inl ⟨k, f8o ndP hp hu k⟩
  ·obtain ⟨c, e⟩ := g3p (n := s.heap.objs.size + 1) k
   refine .inr ⟨.inl k, c, e, ?_⟩
   have q := x.cell y c e
   rw [f8p ndP hp hu (by show scope.names.lookup y ≠ _; rw [k]; decide)] at q
   exact q
 ·exact e0.hok.fresh (Nat.le_of_lt (x.above y c (PySem.mem_of_lookup h)))
 ·unfold start
  show _ = N.length
  rw [List.length_append, List.length_map, List.length_replicate]
  omega
theorem i7z {CX : CXT} {P : Program} {w : World} {K : PySem.W.Frag} {mg : Str -> Option Value} {base : Heap} {k : Nat} {f : Addr} {name qual : Str} {params : Arguments} {body : List Stmt} {scope : Scope} {dV kV doc pm cdv ct oc : Value} {an od : Option Addr}
  {osl : Array (Option Value)} {N ps : List Str} {sp : Sp} (lk : K.lookup f = some ⟨oc, od, .func (PySem.W.fnOf name qual params body scope dV kV doc pm an cdv ct), osl⟩) (hcd : PySem.W.codeIn K cdv qual = true) (S : a0w N ps scope)
  (len : ∀ vs H Q E, sp vs H Q E -> vs.length = ps.length)
  (hbody : ∀ (A : Around) (outer : List Env) (s : Shared) (H : Hp) (vs : List V) (Q : VK) (E : XK), a3g k (A.deeper (envOfC qual scope s.heap.objs.size f cdv)) -> sp vs H Q E ->
   ∃ t, PSs (h5v CX P w K mg base N qual scope f cdv A outer s H E) body t /\ t { nx := fun _ H' => Q .non H', rt := Q } (start N vs) H) :
  a1o P w K mg base CX (k + 1) f (PySem.W.fnOf name qual params body scope dV kV doc pm an cdv ct) ps sp := by
 refine ⟨len, fun A outer s H args us vs Q E hr e0 hb r hsp => ?_⟩
 have hl := len _ _ _ _ hsp
 have KX : K.In s.heap := e0.mod.kin.keeps fun b o e => (e0.bs b o e).1
 have lim : s.heap.NoLimit := e0.mod.nolimit.keeps fun b o e => (e0.bs b o e).1
 have hkind : ∀ y ∈ ps.zip us, scope.names.lookup y.1 = some .local \/ (scope.names.lookup y.1 = some .cell /\ ((cellsFrom (s.heap.objs.size + 1) scope.names []).lookup y.1).isSome = true) := fun ⟨n, v⟩ hy => by
  rcases S.par n (List.of_mem_zip hy).1 with q | q
  ·exact .inl q
  ·exact .inr ⟨q, PySem.W.cellsFrom_some _ _ _ (.inl q)⟩
 refine codeAny_call_function hr.depth (KX _ _ lk) rfl S.co S.gen rfl (PySem.W.codeRec_of KX hcd) (hb _ _ _ _ ?_)
 refine wpAny_newFunctionEnv_cells S.kind hkind fun env he s1 x => ?_
 subst he
 refine ⟨lim.keeps x.toInCall.keep, codeAny_func ?_⟩
 obtain ⟨t, ht, hq⟩ := hbody A outer s H vs Q E (hr.deeper _) hsp
 have I : Inv (h5v CX P w K mg base N qual scope f cdv A outer s H E) [] (start N vs) H s1 := g8r S hr.hd e0 hl r x
 refine wpAny_mono (ht [] s1 (start N vs) H _ I hq) (fun fl s' hs => ?_) fun e s' hs => hs
 have fin : ∀ {σ' : St} {H' : Hp} {v : V} {u : Value}, Inv (h5v CX P w K mg base N qual scope f cdv A outer s H E) [] σ' H' s' -> RelV v u -> Q v H' -> CE outer P w H s Q u s' :=
  fun {σ' H' v u} J rv q => ⟨v, H', J.os, J.bare, J.base, J.hok, rv, q⟩
 cases fl with
 | ret u =>
  obtain ⟨v, σ', H', J, rv, q⟩ := hs
  exact fin J rv q
 | next =>
  obtain ⟨σ', H', J, q⟩ := hs
  exact fin (v := V.non) (u := Value.none) J rfl q
 | brk =>
  obtain ⟨_, _, _, q⟩ := hs
  exact False.elim q
 | cont =>
  obtain ⟨_, _, _, q⟩ := hs
  exact False.elim q
end L2
namespace L2
open PySem PySem.Spec PyProof.Rows
section
variable {X : Cx} {x : Str} {p pos : Pos} {e : Expr} {es : List Expr} {t : TA} {id T : String} {r : List V -> Hp -> VK -> Prop}
noncomputable def tCB (r : List V -> Hp -> VK -> Prop) (t : TA) : TE := fun σ H Q => t σ H fun vs H1 => r vs H1 Q
theorem a1t (hc : b2p X (.builtin id) r) (hg : Gl X x) (hm : X.mg x = none) (hv : bootBuiltins x = some (.builtin id)) (ha : PA X (e :: es) t) (hn : x ≠ "__name__" := by decide) (hdb : (x == ("__debug__" : Str)) = false := by decide)
  (he : starEach (e :: es) X.env = (false, eval e X.env) :: starEach es X.env := by rfl) (hpl : (backTo pos (starEach es X.env)).any (·.1) = false := by rfl) : PE X (.Call (.Name x p) (e :: es) [] pos) (tCB r t) := by
 intro pins s σ H Q I h
 refine wpAny_Call_Name_kw (f0h I hg hm hv ?_ hn hdb)
 exact PyProof.Rows.callWith_builtin1 (thn (ha pos pins s σ H _ I h) fun us s1 ⟨vs, H1, I1, r1, q1⟩ => hc pins s1 σ H1 vs us Q I1 r1 q1) he hpl
theorem a1y (hc : b2p X (.type T) r) (hg : Gl X x) (hm : X.mg x = none) (hv : bootBuiltins x = some (.type T)) (ha : PA X (e :: es) t) (hn : x ≠ "__name__" := by decide) (hdb : (x == ("__debug__" : Str)) = false := by decide)
  (he : starEach (e :: es) X.env = (false, eval e X.env) :: starEach es X.env := by rfl) (hpl : (backTo pos (starEach es X.env)).any (·.1) = false := by rfl) : PE X (.Call (.Name x p) (e :: es) [] pos) (tCB r t) := by
 intro pins s σ H Q I h
 refine wpAny_Call_Name_kw (f0h I hg hm hv ?_ hn hdb)
 exact PyProof.Rows.callWith_type1 (thn (ha pos pins s σ H _ I h) fun us s1 ⟨vs, H1, I1, r1, q1⟩ => hc pins s1 σ H1 vs us Q I1 r1 q1) he hpl
end
end L2
namespace HT
open PySem PyProof.Rows
noncomputable def lexLt : List Int -> List Int -> Bool
 | [], [] => false
 | [], _ :: _ => true
 | _ :: _, [] => false
 | x :: xs, y :: ys => if x = y then lexLt xs ys else decide (x < y)
section
open PySem.SeqAt
open PySem.AutoSeq1 (wpAny_loadPart')
open PySem.MeetsSeq PySem.MeetsSeq2 PySem.MeetsSeq3
end
section
variable {prog : Program} {w : World} {A : Around} {E : Value -> Shared -> Prop} {s : Shared}
noncomputable def sIx (n d : Nat) : Option Int -> Nat
 | none => d
 | some v => if v < 0 then (v + (n : Int)).toNat else min v.toNat n
theorem g3q (n d : Nat) : sIx n d none = d := rfl
theorem g1h (n d k : Nat) : sIx n d (some (k : Int)) = min k n := by
 show (if (k : Int) < 0 then ((k : Int) + (n : Int)).toNat else min (k : Int).toNat n) = min k n
 rw [if_neg (by omega), Int.toNat_natCast]
theorem i3b (n d : Nat) (hd : d <= n) (o : Option Int) : sIx n d o <= n := by
 cases o with
 | none => exact hd
 | some v =>
  show (if v < 0 then (v + (n : Int)).toNat else min v.toNat n) <= n
  by_cases hv : v < 0
  ·rw [if_pos hv]; omega
  ·rw [if_neg hv]; exact Nat.min_le_right _ _
theorem g8s (v : Int) (n d : Nat) : (if v < 0 then max (v + (n : Int)) 0 else min v (n : Int)) = ((sIx n d (some v) : Nat) : Int) := by
 show (if v < 0 then max (v + (n : Int)) 0 else min v (n : Int)) = (((if v < 0 then (v + (n : Int)).toNat else min v.toNat n) : Nat) : Int)
 by_cases hv : v < 0
 ·simp only [if_pos hv]; omega
 ·simp only [if_neg hv]; omega
theorem g5o (lo hi : Option Int) (n : Nat) : Builtin.Slice.sliceAdjust lo hi 1 (n : Int) = (((sIx n 0 lo : Nat) : Int), ((sIx n n hi : Nat) : Int)) := by
 have h1 : ¬ ((1 : Int) < 0) := by omega
 unfold Builtin.Slice.sliceAdjust
 simp only [h1, if_false]
 refine Prod.ext ?_ ?_
 ·cases lo with
  | none => rfl
  | some v => exact g8s v n 0
 ·cases hi with
  | none => rfl
  | some v => exact g8s v n n
theorem g5p (i j : Nat) : Builtin.Slice.slicePlaces (i : Int) (j : Int) 1 = j - i := by
 unfold Builtin.Slice.slicePlaces
 have h1 : (1 : Int) > 0 := by omega
 simp only [h1, if_true, Int.ediv_one]
 split <;> omega
theorem f4m {v : Value} {o : Option Int} {Q : Option Int -> Shared -> Prop} (p : IsPart v o) (h : Q o s) : wpAny (model prog w) A (Builtin.Slice.slicePartIndex v) Q E s := by
 cases p with
 | none => exact slicePart_none h
 | int i t => exact slicePart_int h
theorem d8z {sl : Addr} {vl vu : Value} {lo hi : Option Int} {n : Nat} {Q : Int × Int × Nat -> Shared -> Prop} (hs : s.heap.IsSliceOf sl vl vu .none) (pl : IsPart vl lo) (pu : IsPart vu hi)
  (h : Q (((sIx n 0 lo : Nat) : Int), 1, sIx n n hi - sIx n 0 lo) s) : wpAny (model prog w) A (Builtin.Slice.sliceApplied (.ref sl) (pure (n : Int))) Q E s := by
 obtain ⟨os, hos, hcs, hds⟩ := id hs
 unfold Builtin.Slice.sliceApplied Builtin.Slice.sliceFields
 refine wpAny_bind (wpAny_bind (wpAny_field hos hds (x := vl) rfl (wpAny_bind (wpAny_field hos hds (x := vu) rfl (wpAny_bind (wpAny_field hos hds (x := .none) rfl (wpAny_pure ?_)))))))
 refine wpAny_bind (slicePart_none ?_)
 show wpAny _ _ (if ((1 : Int) == 0) = true then _ else _) _ _ s
 rw [if_neg (by decide)]
 refine wpAny_bind (f4m pl (wpAny_bind (f4m pu (wpAny_bind (wpAny_pure ?_)))))
 show wpAny _ _ (match Builtin.Slice.sliceAdjust lo hi 1 (n : Int) with | (lo, hi) => pure (lo, (1 : Int), Builtin.Slice.slicePlaces lo hi 1)) _ _ s
 rw [g5o lo hi n]
 show wpAny _ _ (pure (((sIx n 0 lo : Nat) : Int), (1 : Int), Builtin.Slice.slicePlaces ((sIx n 0 lo : Nat) : Int) ((sIx n n hi : Nat) : Int) 1)) _ _ s
 rw [g5p]
 exact wpAny_pure h
theorem h3p (xs : Array Value) (i k : Nat) : ((List.range k).filterMap fun (m : Nat) => xs[((i : Int) + (m : Int) * 1).toNat]?).toArray = ((xs.toList.drop i).take k).toArray := by
 have e : (fun (m : Nat) => xs[((i : Int) + (m : Int) * 1).toNat]?) = fun m => xs[i + m]? := by
  funext m
  have : ((i : Int) + (m : Int) * 1).toNat = i + m := by omega
  rw [this]
 rw [e]
 have := pick_run xs i k
 rw [List.filterMap_map] at this
 have e2 : ((fun x => xs[x]?) ∘ fun x => i + x) = fun m => xs[i + m]? := rfl
 rw [e2] at this
 rw [this]
theorem d6m {t sl : Addr} {items : Array Value} {vl vu : Value} {lo hi : Option Int} {Q : Value -> Shared -> Prop} (ht : IsTup s.heap t items) (hs : s.heap.IsSliceOf sl vl vu .none) (pl : IsPart vl lo) (pu : IsPart vu hi)
  (hw : ¬ (sIx items.size 0 lo = 0 /\ sIx items.size items.size hi = items.size))
  (h : Q (.ref s.heap.objs.size) { s with heap := s.heap.push { cls := .type "tuple", data := .seq ((items.toList.drop (sIx items.size 0 lo)).take (sIx items.size items.size hi - sIx items.size 0 lo)).toArray } })
  (hsz : items.size <= sizeLine) : wpAny (model prog w) A (getItem (.ref t) (.ref sl)) Q E s := by
 have h3q : sizeOk (.seq ((items.toList.drop (sIx items.size 0 lo)).take (sIx items.size items.size hi - sIx items.size 0 lo)).toArray) := by
  show ((items.toList.drop (sIx items.size 0 lo)).take (sIx items.size items.size hi - sIx items.size 0 lo)).toArray.size <= sizeLine
  rw [List.size_toArray, List.length_take, List.length_drop, Array.length_toList]
  omega
 have hj : sIx items.size items.size hi <= items.size := i3b _ _ (Nat.le_refl _) hi
 obtain ⟨os, hos, hcs, hds⟩ := id hs
 have hTs : s.TypeIs (.ref sl) "slice" := ⟨os, hos, hcs⟩
 unfold getItem
 try with_reducible refine wpAny_holding ?_
 first | refine wpAny_bind (wpAny_pure ?_) | skip
 refine wpAny_bind (wpAny_sequenceKey ht.typeIs (by decide) ?_)
 refine wpAny_bind (wpAny_callSpecial?_slot (name := Str.ofString "__getitem__") ht.typeIs PyProof.Rows.slot_tuple_getitem
  (wpAny_call_entry PyProof.Rows.slot_tuple_getitem ht.typeIs entry_tuple_getitem ?_ (args_tuple_getitem _ _)))
 show wpAny _ _ (Builtin.Tuple.tupleItemsOf (.ref t) >>= _) _ _ s
 refine wpAny_bind (tupleItemsOf_ ht ?_)
 refine wpAny_bind (wpAny_typeOf hTs ?_)
 rw [if_pos (by decide)]
 refine wpAny_bind (d8z hs pl pu ?_)
 have hno : ¬ ((((sIx items.size 0 lo : Nat) : Int) == 0 && (1 : Int) == 1 && (sIx items.size items.size hi - sIx items.size 0 lo) == items.size) = true) := by
  intro q
  rw [Bool.and_eq_true, Bool.and_eq_true] at q
  have q1 : ((sIx items.size 0 lo : Nat) : Int) = 0 := eq_of_beq q.1.1
  have q2 : sIx items.size items.size hi - sIx items.size 0 lo = items.size := eq_of_beq q.2
  exact hw ⟨by omega, by omega⟩
 show wpAny _ _ (if (((sIx items.size 0 lo : Nat) : Int) == 0 && (1 : Int) == 1 && (sIx items.size items.size hi - sIx items.size 0 lo) == items.size) = true then _ else _) _ _ s
 rw [if_neg hno, h3p]
 first
  | exact wpAny_bind (m := Builtin.Tuple.tupleExact _) (wpAny_newObj_type (wpAny_pure ⟨_, rfl, wpAny_pure h⟩) h3q)
  | exact wpAny_bind (m := Builtin.Tuple.tupleExact _) (wpAny_newObj_type (wpAny_bind (wpAny_pure (wpAny_pure ⟨_, rfl, wpAny_pure h⟩))) h3q)
  | exact wpAny_bind (wpAny_bind (m := Builtin.Tuple.tupleExact _) (wpAny_newObj_type (wpAny_pure (wpAny_pure ⟨_, rfl, wpAny_pure h⟩)) h3q))
  | exact wpAny_bind (wpAny_bind (m := Builtin.Tuple.tupleExact _) (wpAny_newObj_type (wpAny_pure ⟨_, rfl, wpAny_pure h⟩) h3q))
end
end HT
namespace L2
open PySem PySem.Spec PyProof.Rows
noncomputable abbrev TO := St -> Hp -> (Option Int -> Hp -> Prop) -> Prop
noncomputable def PO (X : Cx) (e : Option Expr) (t : TO) : Prop :=
 ∀ (pins : List (Addr × Obj)) (s : Shared) (σ : St) (H : Hp) (Q : Option Int -> Hp -> Prop), Inv X pins σ H s -> t σ H Q ->
  wpAny (model X.prog X.w) X.A (evalPart e X.env) (fun u s' => ∃ o H', Inv X pins σ H' s' /\ IsPart u o /\ Q o H') X.xe s
noncomputable def g8t : TO := fun _ H Q => Q none H
noncomputable def i3c (t : TE) : TO := fun σ H Q => t σ H fun x H1 => ∃ i, x = .int i /\ Q (some i) H1
section
variable {X : Cx} {e : Expr} {te : TE} {lo hi : Option Expr} {tl th : TO} {pos p2 : Pos}
theorem b0w : PO X none g8t := by
 intro pins s σ H Q I h
 rw [evalPart_none]
 exact wpAny_pure ⟨none, H, I, .none, h⟩
theorem h8q (h : PE X e te) : PO X (some e) (i3c te) := by
 intro pins s σ H Q I hw
 rw [evalPart_some]
 refine thn (h pins s σ H _ I hw) fun u s1 ⟨x, H1, I1, r1, q1⟩ => ?_
 obtain ⟨i, rfl, q⟩ := q1
 obtain ⟨t, rfl⟩ := r1
 exact ⟨some i, H1, I1, .int i t, q⟩
noncomputable def SlR (X : Cx) (r : V -> Option Int -> Option Int -> Hp -> VK -> Prop) : Prop :=
 ∀ (pins : List (Addr × Obj)) (s : Shared) (σ : St) (H : Hp) (x : V) (v vl vu : Value) (lo hi : Option Int) (sl : Addr) (Q : VK), Inv X pins σ H s -> RelV x v -> s.heap.IsSliceOf sl vl vu .none -> IsPart vl lo -> IsPart vu hi -> r x lo hi H Q ->
  ∃ T id, typeLookup (.type T) "__getitem__" = pure (some (.builtin id)) ∧ s.TypeIs v T ∧ wpAny (model X.prog X.w) X.A (getItem v (.ref sl)) (EP X pins σ Q) X.xe s
theorem SlR.or {r r' : V -> Option Int -> Option Int -> Hp -> VK -> Prop} (h : SlR X r) (h' : SlR X r') : SlR X (fun x lo hi H Q => r x lo hi H Q \/ r' x lo hi H Q) := by
 intro pins s σ H x v vl vu lo hi sl Q I rx hs pl pu q
 rcases q with q | q
 ·exact h pins s σ H x v vl vu lo hi sl Q I rx hs pl pu q
 ·exact h' pins s σ H x v vl vu lo hi sl Q I rx hs pl pu q
noncomputable def tSl (r : V -> Option Int -> Option Int -> Hp -> VK -> Prop) (te : TE) (tl th : TO) : TE := fun σ H Q => te σ H fun x H1 => tl σ H1 fun l H2 => th σ H2 fun u H3 => r x l u H3 Q
theorem a6n {r : V -> Option Int -> Option Int -> Hp -> VK -> Prop} (hr : SlR X r) (he : PE X e te) (hl : PO X lo tl) (hu : PO X hi th) : PE X (.Subscript e (.Slice lo hi none p2) pos) (tSl r te tl th) := by
 intro pins s σ H Q I h
 refine Subscript_ (thn (he pins s σ H _ I h) fun v s1 ⟨x, H1, I1, r1, q1⟩ => ?_)
 refine wpAny_Slice (thn (hl pins s1 σ H1 _ I1 q1) fun vl s2 ⟨l, H2, I2, pl, q2⟩ => thn (hu pins s2 σ H2 _ I2 q2) fun vu s3 ⟨u, H3, I3, pu, q3⟩ => ?_)
 rw [evalPart_none]
 refine wpAny_pure ?_
 have I4 : Inv X pins σ H3 { s3 with heap := s3.heap.push { cls := .type "slice", data := .fields #[vl, vu, .none] } } := I3.kept (t' := s3.toks) fun b ob q => Heap.get?_push_of_some _ q
 obtain ⟨T, id, hT, ht, hg⟩ := hr pins { s3 with heap := s3.heap.push { cls := .type "slice", data := .fields #[vl, vu, .none] } } σ H3 x v vl vu l u s3.heap.objs.size Q I4 r1 (Heap.IsSliceOf.new ..) pl pu q3
 show wpAny (model X.prog X.w) X.A (subscriptTail e (.Slice lo hi none p2) v (.ref s3.heap.objs.size)) (EP X pins σ Q) X.xe { s3 with heap := s3.heap.push { cls := .type "slice", data := .fields #[vl, vu, .none] } }
 exact tail_any (ops := [.ref s3.heap.objs.size, v]) ht hT hg (by with_unfolding_all rfl)
noncomputable def d9q (xs : List V) (lo hi : Option Int) : List V := (xs.drop (HT.sIx xs.length 0 lo)).take (HT.sIx xs.length xs.length hi - HT.sIx xs.length 0 lo)
theorem f0n (xs : List V) (lo hi : Option Int) : (d9q xs lo hi).length <= xs.length := by
 unfold d9q
 rw [List.length_take, List.length_drop]
 omega
noncomputable def rSlT (K : PySem.W.Frag) : V -> Option Int -> Option Int -> Hp -> VK -> Prop := fun x lo hi H Q => ∃ a xs, x = .ref a /\ SqT K H a xs /\
 ¬ (HT.sIx xs.length 0 lo = 0 /\ HT.sIx xs.length xs.length hi = xs.length) /\ ∀ p, H p = none -> Q (.ref p) (upd H p (.tup (d9q xs lo hi)))
theorem i3d : SlR X (rSlT X.K) := by
 intro pins s σ H x v vl vu lo hi sl Q I rx hs pl pu h
 obtain ⟨a, xs, rfl, hx, hw, q⟩ := h
 cases rx
 obtain ⟨its, r, ht, hz⟩ := I.tuple hx
 have hlen : its.toArray.size = xs.length := by rw [List.size_toArray]; exact r.length.symm
 refine ⟨"tuple", _, PyProof.Rows.slot_tuple_getitem.lookup, ht.typeIs, ?_⟩
 refine HT.d6m ht hs pl pu (by rw [hlen]; exact hw) ?_ (by rw [hlen]; exact hz)
 rw [hlen]
 refine ⟨.ref s.heap.objs.size, _, I.laid (t' := s.toks) (o := .tup (d9q xs lo hi)) (fun b ob q => Heap.get?_push_of_some _ q) (Nat.le_refl _) ?_, rfl, q _ (I.hok.fresh (Nat.le_refl _))⟩
 exact ⟨Nat.le_trans (f0n xs lo hi) hz, _, (r.drop (HT.sIx xs.length 0 lo)).take (HT.sIx xs.length xs.length hi - HT.sIx xs.length 0 lo), IsTup.new _ _⟩
noncomputable def rLtT (K : PySem.W.Frag) : R2 := fun x y H Q => ∃ a b ns ms, x = .ref a /\ y = .ref b /\ SqT K H a (ns.map V.int) /\ SqT K H b (ms.map V.int) /\ Q (.bl (HT.lexLt ns ms)) H
noncomputable def rCatT (K : PySem.W.Frag) : R2 := fun x y H Q => ∃ a b xs ys, x = .ref a /\ y = .ref b /\ SqT K H a xs /\ SqT K H b ys /\ xs ≠ [] /\ xs.length + ys.length <= sizeLine /\
 (ys = [] -> Q (.ref a) H) /\ (ys ≠ [] -> ∀ p, H p = none -> Q (.ref p) (upd H p (.tup (xs ++ ys))))
end
end L2
namespace L2
open PySem PySem.Spec PyProof.Rows
noncomputable def ixN (n : Nat) (i : Int) : Option Nat := if 0 <= i then (if i < n then some i.toNat else none) else if -(n : Int) <= i then some (i + n).toNat else none
noncomputable def atI {α : Type} (xs : List α) (i : Int) : Option α := (ixN xs.length i).bind fun j => xs[j]?
theorem h8r {n : Nat} {i : Int} {j : Nat} (h : ixN n i = some j) : seqIndex? i n = some j /\ j < n /\ -(n : Int) <= i /\ i < n := by
 unfold ixN at h
 by_cases h0 : 0 <= i
 ·rw [if_pos h0] at h
  by_cases h1 : i < n
  ·rw [if_pos h1] at h
   have e : i.toNat = j := Option.some.inj h
   exact ⟨by rw [seqIndex_of h0 h1, e], by omega, by omega, h1⟩
  ·rw [if_neg h1] at h; cases h
 ·rw [if_neg h0] at h
  by_cases h1 : -(n : Int) <= i
  ·rw [if_pos h1] at h
   have e : (i + n).toNat = j := Option.some.inj h
   exact ⟨by rw [seqIndex_neg (by omega) h1, e], by omega, h1, by omega⟩
  ·rw [if_neg h1] at h; cases h
theorem g1i {α : Type} {xs : List α} {i : Int} {v : α} (h : atI xs i = some v) : ∃ j, seqIndex? i xs.length = some j /\ xs[j]? = some v /\ j < xs.length /\ -(xs.length : Int) <= i /\ i < xs.length := by
 unfold atI at h
 cases e : ixN xs.length i with
 | none => rw [e] at h; cases h
 | some j =>
  rw [e] at h
  obtain ⟨h1, h2, h3, h4⟩ := h8r e
  exact ⟨j, h1, h, h2, h3, h4⟩
theorem d2n {α : Type} {xs : List α} {j : Nat} {v : α} (h : xs[j]? = some v) : atI xs (j : Int) = some v := by
 have hj : j < xs.length := (List.getElem?_eq_some_iff.mp h).1
 have e : ixN xs.length (j : Int) = some j := by
  unfold ixN
  rw [if_pos (by omega), if_pos (by omega)]; simp
 unfold atI; rw [e]; exact h
noncomputable def h8s (b : Expr) : Prop := ∀ o i, subscripted b false o i = operate [o, i] (getItem o i)
noncomputable def IxR (X : Cx) (r : R2) : Prop :=
 ∀ (value slice : Expr) (pins : List (Addr × Obj)) (s : Shared) (σ : St) (H : Hp) (x y : V) (v u : Value) (Q : VK), Inv X pins σ H s -> RelV x v -> RelV y u -> r x y H Q ->
  subscripted slice false v u = operate [v, u] (getItem v u) -> wpAny (model X.prog X.w) X.A (subscriptTail value slice v u) (EP X pins σ Q) X.xe s
noncomputable def MtR (X : Cx) (id : String) (r : V -> List V -> Hp -> VK -> Prop) : Prop :=
 ∀ (pins : List (Addr × Obj)) (s : Shared) (σ : St) (H : Hp) (x : V) (xs : List V) (v : Value) (us : List Value) (Q : VK), Inv X pins σ H s -> RelV x v -> Vals xs us -> r x xs H Q ->
  wpAny (model X.prog X.w) X.A (call (.builtin id) (v :: us)) (EP X pins σ Q) X.xe s
section
variable {X : Cx} {a b : Expr} {ta tb : TE} {pos : Pos}
theorem IxR.or {r r' : R2} (h : IxR X r) (h' : IxR X r') : IxR X (fun x y H Q => r x y H Q \/ r' x y H Q) := by
 intro value slice pins s σ H x y v u Q I rx ry q hs
 rcases q with q | q
 ·exact h value slice pins s σ H x y v u Q I rx ry q hs
 ·exact h' value slice pins s σ H x y v u Q I rx ry q hs
theorem MtR.or {id : String} {r r' : V -> List V -> Hp -> VK -> Prop} (h : MtR X id r) (h' : MtR X id r') : MtR X id (fun x xs H Q => r x xs H Q \/ r' x xs H Q) := by
 intro pins s σ H x xs v us Q I rx rs q
 rcases q with q | q
 ·exact h pins s σ H x xs v us Q I rx rs q
 ·exact h' pins s σ H x xs v us Q I rx rs q
theorem a1r {r : R2} (hr : IxR X r) (ha : PE X a ta) (hb : PE X b tb) (hs : h8s b) : PE X (.Subscript a b pos) (tOp r ta tb) := by
 intro pins s σ H Q I h
 exact Subscript_ (i7q ha hb I h fun v u s2 x y H2 I2 rx ry q => hr a b pins s2 σ H2 x y v u Q I2 rx ry q (hs _ _))
noncomputable def j0c (K : PySem.W.Frag) : R2 := fun x y H Q => ∃ p xs i v, x = .ref p /\ y = .int i /\ SqL K H p xs /\ atI xs i = some v /\ Q v H
noncomputable def j0d (K : PySem.W.Frag) : R2 := fun x y H Q => ∃ p xs i v, x = .ref p /\ y = .int i /\ SqT K H p xs /\ atI xs i = some v /\ Q v H
noncomputable def j0e : R2 := fun x y H Q => ∃ z i c, x = .str z /\ y = .int i /\ z.length <= sizeLine /\ atI z.cps.toList i = some c /\ Q (.str ⟨#[c]⟩) H
theorem g8u : IxR X (j0c X.K) := by
 intro value slice pins s σ H x y v u Q I rx ry h hs
 obtain ⟨p, xs, i, z, rfl, rfl, hq, he, q⟩ := h
 cases rx
 obtain ⟨t, rfl⟩ := ry
 obtain ⟨its, r, pl, hz⟩ := I.list hq
 obtain ⟨j, h1, h2, h3, h4, h5⟩ := g1i he
 obtain ⟨w, ew, rw'⟩ := r.get h2
 have hl := r.length
 have hn := f8j
 have fin : EP X pins σ Q w s := ⟨z, H, I, rw', q⟩
 by_cases h0 : 0 <= i
 ·have hj : i.toNat = j := by
   rw [seqIndex_of h0 h5] at h1
   exact Option.some.inj h1
  exact item_listR pl.isList h0 (by omega) (by rw [hj]; simpa using ew) fin hs
 ·have hj : (i + (its.toArray.size : Int)).toNat = j := by
   rw [seqIndex_neg (by omega) h4] at h1
   rw [List.size_toArray, <- hl]
   exact Option.some.inj h1
  exact subscriptTail_builtinR (x := w) pl.isList.typeIs slot_list_getitem.lookup
   (wpAny_getItem_list_neg (Q := fun r s' => r = w /\ EP X pins σ Q r s') pl.isList (by omega) (by rw [List.size_toArray] <;> omega) (by omega) (by rw [hj]; simpa using ew) ⟨rfl, fin⟩) hs
theorem i3e : IxR X (j0d X.K) := by
 intro value slice pins s σ H x y v u Q I rx ry h hs
 obtain ⟨p, xs, i, z, rfl, rfl, hq, he, q⟩ := h
 cases rx
 obtain ⟨t, rfl⟩ := ry
 obtain ⟨its, r, pl, hz⟩ := I.tuple hq
 obtain ⟨j, h1, h2, h3, h4, h5⟩ := g1i he
 obtain ⟨w, ew, rw'⟩ := r.get h2
 have hl := r.length
 have hn := f8j
 have fin : EP X pins σ Q w s := ⟨z, H, I, rw', q⟩
 exact subscriptTail_builtinR (x := w) pl.typeIs slot_tuple_getitem.lookup
  (getItem_tuple (j := j) (Q := fun r s' => r = w /\ EP X pins σ Q r s') pl (by omega) (by omega) (by rw [List.size_toArray, <- hl]; exact h1) (by simpa using ew) ⟨rfl, fin⟩) hs
theorem i3f : IxR X j0e := by
 intro value slice pins s σ H x y v u Q I rx ry h hs
 obtain ⟨z, i, c, rfl, rfl, hz, he, q⟩ := h
 obtain ⟨t, rfl⟩ := rx
 obtain ⟨t', rfl⟩ := ry
 obtain ⟨j, h1, h2, h3, h4, h5⟩ := g1i he
 have hl : z.cps.toList.length = z.length := by simp [Str.length]
 rw [hl] at h1 h4 h5
 have hn := f8j
 exact tail_any (typeIs_str s z t) slot_str_getitem.lookup (getItem_str (c := c) (by
  have e1 : decide (i < -(2 ^ 63 : Int)) = false := decide_eq_false (by omega)
  have e2 : decide (i ≥ 2 ^ 63) = false := decide_eq_false (by omega)
  rw [e1, e2, Bool.or_false]) (by rw [h1]; simpa using h2) ⟨.str ⟨#[c]⟩, H, I.tok _, ⟨_, rfl⟩, q⟩) hs
noncomputable def rIx (K : PySem.W.Frag) : R2 := fun x y H Q => j0c K x y H Q \/ j0d K x y H Q \/ j0e x y H Q
theorem Inv.lst {pins : List (Addr × Obj)} {σ : St} {H : Hp} {s : Shared} {p : Addr} {xs : List V} (I : Inv X pins σ H s) (h : H p = some (.lst xs)) :
  ∃ (its : List Value) (n : Nat), Vals xs its ∧ s.heap.get? p = some { cls := .type "list", data := .seq its.toArray n } ∧ xs.length ≤ sizeLine := by
 obtain ⟨z, its, n, r, e⟩ := I.hok p _ h
 exact ⟨its, n, r, e, z⟩
noncomputable def rSetL : V -> V -> V -> Hp -> (Hp -> Prop) -> Prop := fun o i v H Q => ∃ p xs k j, o = .ref p /\ i = .int k /\ H p = some (.lst xs) /\ ixN xs.length k = some j /\ Q (upd H p (.lst (xs.set j v)))
theorem f8q (lo hi : Option Int) (n : Nat) : (sliceBounds lo hi none n).1 = ((HT.sIx n 0 lo : Nat) : Int) /\ (sliceBounds lo hi none n).2.1 = ((HT.sIx n n hi : Nat) : Int) /\ (sliceBounds lo hi none n).2.2 = 1 := by
 refine ⟨?_, ?_, rfl⟩
 ·cases lo with
  | none => simp [sliceBounds, HT.sIx]
  | some i =>
   simp only [sliceBounds, HT.sIx, Option.getD_none, show (1 : Int) > 0 by decide, if_true]
   by_cases h : i < 0
   ·simp only [h, if_true] <;> omega
   ·simp only [h, if_false] <;> omega
 ·cases hi with
  | none => simp [sliceBounds, HT.sIx]
  | some i =>
   simp only [sliceBounds, HT.sIx, Option.getD_none, show (1 : Int) > 0 by decide, if_true]
   by_cases h : i < 0
   ·simp only [h, if_true] <;> omega
   ·simp only [h, if_false] <;> omega
theorem f5t (its : List Value) (lo hi : Option Int) : slicePick its.toArray lo hi none = ((its.drop (HT.sIx its.length 0 lo)).take (HT.sIx its.length its.length hi - HT.sIx its.length 0 lo)).toArray := by
 obtain ⟨h1, h2, h3⟩ := f8q lo hi its.toArray.size
 unfold slicePick
 rw [h1, h2, h3]
 simp only [sliceRange_one, pick_run, List.size_toArray] <;> rfl
noncomputable def rSlL (K : PySem.W.Frag) : V -> Option Int -> Option Int -> Hp -> VK -> Prop := fun x lo hi H Q => ∃ a xs, x = .ref a /\ SqL K H a xs /\ ∀ p, H p = none -> Q (.ref p) (upd H p (.lst (d9q xs lo hi)))
theorem g1j : SlR X (rSlL X.K) := by
 intro pins s σ H x v vl vu lo hi sl Q I rx hs pl pu h
 obtain ⟨a, xs, rfl, hx, q⟩ := h
 cases rx
 obtain ⟨its, r, ht, hz⟩ := I.list hx
 have hlen := r.length
 refine ⟨"list", _, slot_list_getitem.lookup, ht.isList.typeIs, ?_⟩
 refine wpAny_getItem_list_slice ht.isList hs pl pu .none (by simp) ?_ (by rw [List.size_toArray] <;> omega)
 rw [f5t, <- hlen]
 refine ⟨.ref s.heap.objs.size, _, I.laid (t' := s.toks) (o := .lst (d9q xs lo hi)) (fun b ob q => Heap.get?_push_of_some _ q) (Nat.le_refl _) ?_, rfl, q _ (I.hok.fresh (Nat.le_refl _))⟩
 exact ⟨Nat.le_trans (f0n xs lo hi) hz, _, 0, (r.drop (HT.sIx xs.length 0 lo)).take (HT.sIx xs.length xs.length hi - HT.sIx xs.length 0 lo), Heap.get?_push_size _ rfl⟩
noncomputable def d1q : V -> Bool
 | .non => true
 | .bl _ => true
 | .int _ => true
 | .str _ => true
 | _ => false
noncomputable def eqV : V -> V -> Bool
 | .non, .non => true
 | .bl a, .bl b => a == b
 | .bl a, .int b => (if a then 1 else 0) == b
 | .int a, .bl b => a == (if b then 1 else 0)
 | .int a, .int b => a == b
 | .str a, .str b => a == b
 | _, _ => false
theorem i3g {A : Around} {s : Shared} {y x : V} {u v : Value} (ry : RelV y u) (rx : RelV x v) (fy : d1q y = true) (fx : d1q x = true) : SeqAt.EqAt A s u v (eqV y x) := by
 cases y with
 | non =>
  cases ry
  cases x with
  | non => cases rx; exact SeqAt.EqAt.same _
  | bl b => cases rx; exact SeqAt.EqAt.none_bool b
  | int b => obtain ⟨t, rfl⟩ := rx; exact SeqAt.EqAt.none_int b t
  | str b => obtain ⟨t, rfl⟩ := rx; exact SeqAt.EqAt.none_str b t
  | _ => exact absurd (show false = true from fx) Bool.false_ne_true
 | bl a =>
  cases ry
  cases x with
  | non => cases rx; exact SeqAt.EqAt.bool_none a
  | bl b => cases rx; exact SeqAt.EqAt.bool_bool a b
  | int b => obtain ⟨t, rfl⟩ := rx; exact SeqAt.EqAt.bool_int a b t
  | str b => obtain ⟨t, rfl⟩ := rx; exact SeqAt.EqAt.bool_str a b t
  | _ => exact absurd (show false = true from fx) Bool.false_ne_true
 | int a =>
  obtain ⟨t', rfl⟩ := ry
  cases x with
  | non => cases rx; exact SeqAt.EqAt.int_none a t'
  | bl b => cases rx; exact SeqAt.EqAt.int_bool a t' b
  | int b => obtain ⟨t, rfl⟩ := rx; exact SeqAt.EqAt.int_int a t' b t
  | str b => obtain ⟨t, rfl⟩ := rx; exact SeqAt.EqAt.int_str a t' b t
  | _ => exact absurd (show false = true from fx) Bool.false_ne_true
 | str a =>
  obtain ⟨t', rfl⟩ := ry
  cases x with
  | non => cases rx; exact SeqAt.EqAt.str_none a t'
  | bl b => cases rx; exact SeqAt.EqAt.str_bool a t' b
  | int b => obtain ⟨t, rfl⟩ := rx; exact SeqAt.EqAt.str_int a t' b t
  | str b => obtain ⟨t, rfl⟩ := rx; exact SeqAt.EqAt.str_str a t' b t
  | _ => exact absurd (show false = true from fx) Bool.false_ne_true
 | _ => exact absurd (show false = true from fy) Bool.false_ne_true
noncomputable def eqU (x : V) (u : Value) : Bool := match u with
 | .none => eqV .non x
 | .bool b => eqV (.bl b) x
 | .int i _ => eqV (.int i) x
 | .str z _ => eqV (.str z) x
 | _ => false
theorem h5w {x y : V} {u : Value} (r : RelV y u) (f : d1q y = true) : eqU x u = eqV y x := by
 cases y with
 | non => cases r; rfl
 | bl b => cases r; rfl
 | int i => obtain ⟨t, rfl⟩ := r; rfl
 | str z => obtain ⟨t, rfl⟩ := r; rfl
 | _ => exact absurd (show false = true from f) Bool.false_ne_true
theorem g1k {x : V} : ∀ {xs : List V} {us : List Value}, Vals xs us -> xs.all d1q = true -> us.any (eqU x) = xs.any fun y => eqV y x
 | _, _, .nil, _ => rfl
 | y :: xs, u :: us, .cons r t, f => by
  rw [List.all_cons, Bool.and_eq_true] at f
  rw [List.any_cons, List.any_cons, h5w r f.1, g1k t f.2]
theorem f5u {A : Around} {s : Shared} {x : V} {v : Value} (rx : RelV x v) (fx : d1q x = true) : ∀ {xs : List V} {us : List Value}, Vals xs us -> xs.all d1q = true -> ∀ u ∈ us, SeqAt.EqAt A s u v (eqU x u)
 | _, _, .nil, _ => fun u hu => by cases hu
 | y :: xs, u :: us, .cons r t, f => fun u' hu => by
  rw [List.all_cons, Bool.and_eq_true] at f
  rcases List.mem_cons.mp hu with rfl | hu
  ·rw [h5w r f.1]; exact i3g r rx f.1 fx
  ·exact f5u rx fx t f.2 u' hu
noncomputable def inV (x : V) (xs : List V) : Bool := xs.any fun y => eqV y x
noncomputable def rIn (K : PySem.W.Frag) (neg : Bool) : R2 := fun x y H Q => ∃ p xs, y = .ref p /\ (SqL K H p xs \/ SqT K H p xs) /\ d1q x = true /\ xs.all d1q = true /\ Q (.bl (if neg then !inV x xs else inV x xs)) H
theorem d8k : OpR X (compareOp .NotIn) (rIn X.K true) := by
 intro pins s σ H x y v u Q I rx ry h
 obtain ⟨p, xs, rfl, hq, fx, fs, q⟩ := h
 cases ry
 rcases hq with hq | hq
 ·obtain ⟨its, r, pl, hz⟩ := I.list hq
  refine SeqAt.notIn_listAt (eqU x) pl.isList (fun w hw => f5u rx fx r fs w (by simpa using hw)) ⟨.bl _, H, I, rfl, ?_⟩
  rw [show its.toArray.any (eqU x) = its.any (eqU x) by simp, g1k r fs]
  exact q
 ·obtain ⟨its, r, pl, hz⟩ := I.tuple hq
  refine SeqAt.notIn_tupleAt (eqU x) pl (fun w hw => f5u rx fx r fs w (by simpa using hw)) ⟨.bl _, H, I, rfl, ?_⟩
  rw [show its.toArray.any (eqU x) = its.any (eqU x) by simp, g1k r fs]
  exact q
theorem f8r : OpR X (compareOp .NotIn) (fun x y H Q => ∃ i j, x = .str i /\ y = .str j /\ Q (.bl (!(!(Builtin.Str.occurrences j i 0 j.length 1).isEmpty))) H) := by
 intro pins s σ H x y v u Q I rx ry h
 obtain ⟨i, j, rfl, rfl, q⟩ := h
 obtain ⟨t, rfl⟩ := rx
 obtain ⟨t', rfl⟩ := ry
 exact notIn_str ⟨.bl _, H, I, rfl, q⟩
theorem c7m : b2p X (.builtin "len") (fun xs H Q => ∃ p ys, xs = [.ref p] ∧ (SqL X.K H p ys ∨ SqT X.K H p ys) ∧ Q (.int ys.length) H) := by
 intro pins s σ H xs us Q I r h
 obtain ⟨p, ys, rfl, hq, q⟩ := h
 obtain ⟨u, rfl, rx⟩ := vals1 r
 cases rx
 have hn := f8j
 rcases hq with hq | hq
 ·obtain ⟨its, r', pl, hz⟩ := I.list hq
  have hlen := r'.length
  exact Calls.call_len_list pl.isList (by simp only [List.size_toArray] <;> omega) ⟨.int ys.length, H, I.tok _, ⟨s.toks + 1, by rw [List.size_toArray, hlen]⟩, q⟩
 ·obtain ⟨its, r', pl, hz⟩ := I.tuple hq
  have hlen := r'.length
  exact len_tuple pl (by simp only [List.size_toArray] <;> omega) ⟨.int ys.length, H, I.tok _, ⟨s.toks + 1, by rw [List.size_toArray, hlen]⟩, q⟩
theorem f8s : b2p X (.builtin "len") (fun xs H Q => ∃ z, xs = [.str z] ∧ z.length ≤ sizeLine ∧ Q (.int z.length) H) := by
 intro pins s σ H xs us Q I r h
 obtain ⟨z, rfl, hz, q⟩ := h
 obtain ⟨u, rfl, t, rfl⟩ := vals1 r
 have hn := f8j
 exact len_str (by omega) ⟨.int z.length, H, I.tok _, ⟨_, rfl⟩, q⟩
theorem b2p.or {f : Value} {r r' : List V -> Hp -> VK -> Prop} (h : b2p X f r) (h' : b2p X f r') : b2p X f (fun xs H Q => r xs H Q \/ r' xs H Q) := by
 intro pins s σ H xs us Q I rs q
 rcases q with q | q
 ·exact h pins s σ H xs us Q I rs q
 ·exact h' pins s σ H xs us Q I rs q
theorem f8t : b2p X (.type "list") (fun xs H Q => ∃ p ys, xs = [.ref p] ∧ (SqL X.K H p ys ∨ SqT X.K H p ys) ∧ ∀ l, H l = none → Q (.ref l) (upd H l (.lst ys))) := by
 intro pins s σ H xs us Q I r h
 obtain ⟨p, ys, rfl, hq, q⟩ := h
 obtain ⟨u, rfl, rx⟩ := vals1 r
 cases rx
 have fin : ∀ (its : List Value), Vals ys its -> ys.length <= sizeLine -> ∀ (h' : Heap) (c' : Nat), (∀ b o', s.heap.get? b = some o' -> h'.get? b = some o') ->
   h'.get? s.heap.objs.size = some { cls := .type "list", dict := none, data := .seq its.toArray c', slots := #[] } → EP X pins σ Q (.ref s.heap.objs.size) { s with heap := h' } := fun its r' hz h' c' kp e =>
  ⟨.ref s.heap.objs.size, _, I.laid (t' := s.toks) kp (Nat.le_refl _) (show b8n X.prog X.w _ h' _ (.lst ys) from ⟨hz, its, c', r', e⟩), rfl, q _ (I.hok.fresh (Nat.le_refl _))⟩
 rcases hq with hq | hq
 ·obtain ⟨its, r', pl, hz⟩ := I.list hq
  have hlen := r'.length
  obtain ⟨o, ho, hc, n, hd⟩ := pl.isList
  exact call_list_seq p (.inl rfl) ho hc hd (fun h' c' kp e => fin its r' hz h' c' kp e) (by simp only [List.size_toArray] <;> omega)
 ·obtain ⟨its, r', pl, hz⟩ := I.tuple hq
  have hlen := r'.length
  obtain ⟨o, ho, hc, n, hd⟩ := pl
  exact call_list_seq p (.inr rfl) ho hc hd (fun h' c' kp e => fin its r' hz h' c' kp e) (by simp only [List.size_toArray] <;> omega)
theorem f5v : b2p X (.type "tuple") (fun xs H Q => ∃ p ys, xs = [.ref p] ∧ ((SqL X.K H p ys ∧ ∀ l, H l = none → Q (.ref l) (upd H l (.tup ys))) ∨ (SqT X.K H p ys ∧ Q (.ref p) H))) := by
 intro pins s σ H xs us Q I r h
 obtain ⟨p, ys, rfl, h⟩ := h
 obtain ⟨u, rfl, rx⟩ := vals1 r
 cases rx
 rcases h with ⟨hq, q⟩ | ⟨hq, q⟩
 ·obtain ⟨its, r', pl, hz⟩ := I.list hq
  have hlen := r'.length
  refine call_tuple_list pl.isList (fun h' kp => ?_) (by simp only [List.size_toArray] <;> omega)
  have I1 : Inv X pins σ H { s with heap := h' } := I.kept (t' := s.toks) kp
  have I2 : Inv X pins σ (upd H h'.objs.size (.tup ys)) { s with heap := h'.push { cls := .type "tuple", data := .seq its.toArray } } :=
   I1.laid (t' := s.toks) (fun b o e => Heap.get?_push_of_some _ e) (Nat.le_refl _) (show b8n X.prog X.w _ _ _ (.tup ys) from ⟨hz, its, r', IsTup.new _ _⟩)
  exact ⟨.ref h'.objs.size, _, I2, rfl, q _ (I1.hok.fresh (Nat.le_refl _))⟩
 ·obtain ⟨its, r', pl, hz⟩ := I.tuple hq
  exact call_tuple_same pl ⟨.ref p, H, I, rfl, q⟩
noncomputable def tyV (K : PySem.W.Frag) (T : String) (x : V) (H : Hp) : Prop := match x with
 | .str _ => T = "str"
 | .int _ => T = "int"
 | .ref p => (T = "list" ∧ ∃ xs, SqL K H p xs) ∨ (T = "tuple" ∧ ∃ o, K.lookup p = some o ∧ o.cls = .type "tuple" ∧ o.dict = none) ∨
   (T = "dict" ∧ ((∃ kvs, H p = some (.dK kvs)) ∨ ∃ kvs, H p = some (.dT kvs))) ∨ (T = "set" ∧ ∃ S n, H p = some (.set S n))
 | _ => False
theorem i3h {pins : List (Addr × Obj)} {σ : St} {H : Hp} {s : Shared} {T : String} {x : V} {v : Value} (I : Inv X pins σ H s) (r : RelV x v) (ty : tyV X.K T x H) :
  s.TypeIs v T /\ ∀ a, v = .ref a -> ∃ ob, s.heap.get? a = some ob /\ ob.dict = none := by
 cases x with
 | str z =>
  obtain ⟨t, rfl⟩ := r
  cases (show T = "str" from ty)
  exact ⟨typeIs_str s z t, fun _ e => nomatch e⟩
 | int i =>
  obtain ⟨t, rfl⟩ := r
  cases (show T = "int" from ty)
  exact ⟨typeIs_int s i t, fun _ e => nomatch e⟩
 | ref p =>
  cases r
  rcases ty with ⟨rfl, xs, hq⟩ | ⟨rfl, o, hk, hc, hd⟩ | ⟨rfl, hk⟩ | ⟨rfl, S, n, hk⟩
  ·obtain ⟨its, _, pl, _⟩ := I.list hq
   refine ⟨pl.isList.typeIs, fun a e => ?_⟩
   cases e
   obtain ⟨o, n, e, c, hd, _⟩ := pl
   exact ⟨o, e, hd⟩
  ·refine ⟨⟨o, I.kIn p o hk, hc⟩, fun a e => ?_⟩
   cases e
   exact ⟨o, I.kIn _ o hk, hd⟩
  ·have z : ∃ o, s.heap.get? p = some o /\ o.ExactDict := by
    rcases hk with ⟨kvs, hk⟩ | ⟨kvs, hk⟩
    ·obtain ⟨_, _, _, _, o, _, _, e, ex, _⟩ := I.hok p _ hk
     exact ⟨o, e, ex⟩
    ·obtain ⟨_, _, _, _, o, _, _, e, ex, _⟩ := I.hok p _ hk
     exact ⟨o, e, ex⟩
   obtain ⟨o, e, ex⟩ := z
   refine ⟨⟨o, e, ex.1⟩, fun a e2 => ?_⟩
   cases e2
   exact ⟨o, e, ex.2.1⟩
  ·obtain ⟨o, _, _, _, e, ex, _⟩ := I.hok p _ hk
   refine ⟨⟨o, e, ex.1⟩, fun a e2 => ?_⟩
   cases e2
   exact ⟨o, e, ex.2.1⟩
 | _ => exact False.elim ty
noncomputable def tBM0 (K : PySem.W.Frag) (T : String) (r : V -> List V -> Hp -> VK -> Prop) (to : TE) : TE := fun σ H Q => to σ H fun x H1 => tyV K T x H1 /\ r x [] H1 Q
noncomputable def tBM (K : PySem.W.Frag) (T : String) (r : V -> List V -> Hp -> VK -> Prop) (to : TE) (t : TA) : TE := fun σ H Q => to σ H fun x H1 => tyV K T x H1 /\ t σ H1 fun xs H2 => r x xs H2 Q
variable {o e : Expr} {es : List Expr} {to : TE} {t : TA} {name : Str} {apos cpos : Pos} {T id : String} {r : V -> List V -> Hp -> VK -> Prop}
/- xs.append(e), list.index on a module's tuple .. are MtR facts of 06m -/
end
end L2
namespace L2
open PySem PySem.Spec PyProof.Rows
noncomputable def MtM (X : Cx) (id : String) (r : V -> List V -> Hp -> VK -> Prop) : Prop :=
 ∀ (pins : List (Addr × Obj)) (s : Shared) (σ : St) (H : Hp) (x : V) (xs : List V) (v : Value) (us : List Value) (Q : VK), Inv X pins σ H s -> RelV x v -> Vals xs us -> r x xs H Q ->
  wpAny (model X.prog X.w) X.A (call (.builtin id) (v :: us)) (EP X pins σ Q) X.xe s
theorem Vals.one : ∀ {x : V} {us : List Value}, Vals [x] us -> ∃ u, us = [u] /\ RelV x u
 | _, _, .cons r .nil => ⟨_, rfl, r⟩
theorem Vals.two : ∀ {x y : V} {us : List Value}, Vals [x, y] us -> ∃ u v, us = [u, v] /\ RelV x u /\ RelV y v
 | _, _, _, .cons r (.cons q .nil) => ⟨_, _, rfl, r, q⟩
theorem Vals.zero : ∀ {us : List Value}, Vals [] us -> us = []
 | _, .nil => rfl
theorem Vals.dropLast {xs : List V} {us : List Value} (h : Vals xs us) : Vals xs.dropLast us.dropLast := by
 induction h with
 | nil => exact .nil
 | cons r t ih =>
  cases t with
  | nil => exact .nil
  | cons q t' => exact .cons r ih
theorem Vals.eraseIdx : ∀ {xs : List V} {us : List Value} (i : Nat), Vals xs us -> Vals (xs.eraseIdx i) (us.eraseIdx i)
 | _, _, _, .nil => .nil
 | _, _, 0, .cons _ t => t
 | _, _, i + 1, .cons r t => .cons r (Vals.eraseIdx i t)
theorem Vals.reverse {xs : List V} {us : List Value} (h : Vals xs us) : Vals xs.reverse us.reverse := by
 induction h with
 | nil => exact .nil
 | cons r t ih => rw [List.reverse_cons, List.reverse_cons]; exact Vals.append ih (.cons r .nil)
theorem Vals.rep {xs : List V} {us : List Value} (h : Vals xs us) : ∀ k : Nat, Vals (List.replicate k xs).flatten (List.replicate k us).flatten
 | 0 => .nil
 | k + 1 => by
  rw [List.replicate_succ, List.replicate_succ, List.flatten_cons, List.flatten_cons]
  exact Vals.append h (Vals.rep h k)
theorem foldl_rep (its : List Value) : ∀ (k : Nat) (acc : List Value),
  List.foldl (fun x1 x2 => x1 ++ x2) acc.toArray (List.replicate k its.toArray) = (acc ++ (List.replicate k its).flatten).toArray
 | 0, acc => by simp
 | k + 1, acc => by
  have e : acc.toArray ++ its.toArray = (acc ++ its).toArray := by simp
  have e2 : (acc ++ its) ++ (List.replicate k its).flatten = acc ++ (List.replicate (k + 1) its).flatten := by
   rw [List.replicate_succ, List.flatten_cons, List.append_assoc]
  rw [<- e2, <- foldl_rep its k (acc ++ its), <- e, List.replicate_succ, List.foldl_cons]
section
variable {X : Cx} {pins : List (Addr × Obj)} {σ : St} {H : Hp} {s : Shared} {l b : Addr} {xs ys zs : List V}
theorem Inv.lset {its its' : List Value} {n : Nat} {f : Array Value -> Array Value} {t' : Nat} (I : Inv X pins σ H s) (hH : H l = some (.lst xs))
  (e : s.heap.get? l = some { cls := .type "list", data := .seq its.toArray n }) (hf : f its.toArray = its'.toArray) (hv : Vals ys its') (hz : ys.length ≤ sizeLine) :
  Inv X pins σ (upd H l (.lst ys)) { s with heap := s.heap.update l (Obj.mapSeq f), toks := t' } := by
 have q := PySem.IsL.update e f
 rw [hf] at q
 refine I.write (x := l) (e := l) (by rw [hH]; exact trivial) (.inl rfl) (fun b' u hb hu => (Heap.get?_update_other s.heap (Obj.mapSeq f) (Ne.symm hb)).trans hu) ⟨_, q⟩ ?_
 exact ⟨hz, its', _, hv, q⟩
theorem Inv.j0f {its : List Value} {t' : Nat} (I : Inv X pins σ H s) (hv : Vals ys its) (hz : ys.length <= sizeLine) :
  Inv X pins σ (upd H s.heap.objs.size (.lst ys)) { s with heap := s.heap.push { cls := .type "list", data := .seq its.toArray }, toks := t' } :=
 I.laid (fun _ _ q => Heap.get?_push_of_some _ q) (Nat.le_refl _) ⟨hz, its, 0, hv, Heap.get?_push_size _ rfl⟩
theorem Inv.fresh (I : Inv X pins σ H s) : H s.heap.objs.size = none := I.hok.fresh (Nat.le_refl _)
theorem Inv.i7c (I : Inv X pins σ H s) (hH : H l = some (.lst xs)) : xs.length ≤ sizeLine ∧ ∃ (its : List Value) (n : Nat), Vals xs its ∧ xs.length = its.length ∧ s.heap.get? l = some { cls := .type "list", data := .seq its.toArray n } := by
 obtain ⟨z, its, n, r, e⟩ := I.hok l _ hH
 exact ⟨z, its, n, r, r.length, e⟩
theorem h3r {n : Nat} (h : n <= sizeLine) : Builtin.List.listTooLong n = false := by
 unfold Builtin.List.listTooLong
 exact decide_eq_false (by omega)
end
section
variable {X : Cx}
noncomputable def g8v : V -> List V -> Hp -> VK -> Prop := fun x vs H Q => ∃ l xs y, x = .ref l /\ vs = [y] /\ H l = some (.lst xs) /\ xs.length < sizeLine /\ Q .non (upd H l (.lst (xs ++ [y])))
theorem f0o : MtM X "list.append" g8v := by
 intro pins s σ H x vs v us Q I rx rv h
 obtain ⟨l, xs, y, rfl, rfl, hH, hz, q⟩ := h
 cases rx
 obtain ⟨u, rfl, ru⟩ := rv.one
 obtain ⟨z, its, n, r, hl, e⟩ := I.i7c hH
 refine call_meets F.slot_list_append ⟨_, e, rfl⟩ F.entry_list_append (F.args_list_append_2 _ _) (PySem.list_append l its.toArray n u (by rw [List.size_toArray]; omega)) ⟨e, ?_⟩
 refine ⟨.non, _, I.lset (its' := its ++ [u]) hH e (by simp) (r.append (.cons ru .nil)) ?_, rfl, q⟩
 rw [List.length_append, List.length_singleton]
 omega
noncomputable def i8a : V -> List V -> Hp -> VK -> Prop := fun x vs H Q => ∃ l b xs zs, x = .ref l /\ vs = [.ref b] /\ H l = some (.lst xs) /\ H b = some (.lst zs) /\ xs.length + zs.length <= sizeLine /\ Q .non (upd H l (.lst (xs ++ zs)))
noncomputable def rPop : V -> List V -> Hp -> VK -> Prop := fun x vs H Q => ∃ l xs y, x = .ref l /\ vs = [] /\ H l = some (.lst xs) /\ xs[xs.length - 1]? = some y /\ Q y (upd H l (.lst xs.dropLast))
noncomputable def j0g : V -> List V -> Hp -> VK -> Prop := fun x vs H Q => ∃ l xs i k y, x = .ref l /\ vs = [.int i] /\ H l = some (.lst xs) /\ -(2 ^ 63) <= i /\ i < 2 ^ 63 /\ seqIndex? i xs.length = some k /\ xs[k]? = some y /\ Q y (upd H l (.lst (xs.eraseIdx k)))
noncomputable def i7d : V -> List V -> Hp -> VK -> Prop := fun x vs H Q => ∃ l xs, x = .ref l /\ vs = [] /\ H l = some (.lst xs) /\ Q .non (upd H l (.lst xs.reverse))
noncomputable def j0h : V -> List V -> Hp -> VK -> Prop := fun x vs H Q => ∃ l xs, x = .ref l /\ vs = [] /\ H l = some (.lst xs) /\ Q .non (upd H l (.lst []))
noncomputable def rCat : R2 := fun x y H Q => ∃ l b xs zs, x = .ref l /\ y = .ref b /\ H l = some (.lst xs) /\ H b = some (.lst zs) /\ xs.length + zs.length <= sizeLine /\ ∀ p, H p = none -> Q (.ref p) (upd H p (.lst (xs ++ zs)))
theorem i3i : OpR X (binaryOp .Add) rCat := by
 intro pins s σ H x y v u Q I rx ry h
 obtain ⟨l, b, xs, zs, rfl, rfl, hH, hB, hz, q⟩ := h
 cases rx
 cases ry
 obtain ⟨z, its, n, r, hl, e⟩ := I.i7c hH
 obtain ⟨z2, its2, n2, r2, hl2, e2⟩ := I.i7c hB
 refine PySem.P.add_list e e2 ?_ (by rw [List.size_toArray, List.size_toArray]; omega)
 have ea : its.toArray ++ its2.toArray = (its ++ its2).toArray := by simp
 rw [ea]
 exact ⟨.ref _, _, I.j0f (t' := s.toks) (r.append r2) (by rw [List.length_append]; omega), rfl, q _ I.fresh⟩
noncomputable def rRep : R2 := fun x y H Q => ∃ l k xs, x = .ref l /\ y = .int k /\ H l = some (.lst xs) /\ -(2 ^ 63) <= k /\ k < 2 ^ 63 /\ xs.length * k.toNat <= sizeLine /\
 ∀ p, H p = none -> Q (.ref p) (upd H p (.lst (List.replicate k.toNat xs).flatten))
theorem len_rep {α : Type} (xs : List α) (k : Nat) : (List.replicate k xs).flatten.length = k * xs.length := by
 induction k with
 | zero => simp
 | succ k ih => rw [List.replicate_succ, List.flatten_cons, List.length_append, ih, Nat.succ_mul, Nat.add_comm]
theorem i3j : OpR X (binaryOp .Mult) rRep := by
 intro pins s σ H x y v u Q I rx ry h
 obtain ⟨l, k, xs, rfl, rfl, hH, h1, h2, hz, q⟩ := h
 cases rx
 obtain ⟨t, rfl⟩ := ry
 obtain ⟨z, its, n, r, hl, e⟩ := I.i7c hH
 have hlen : its.toArray.size * k.toNat <= sizeLine := by rw [List.size_toArray, <- hl]; exact hz
 have hcap : ¬ its.toArray.size * k.toNat > (2 ^ 63 - 1) / 8 := by
  have : (sizeLine : Nat) <= (2 ^ 63 - 1) / 8 := by decide
  omega
 have hfit : ¬ (!Builtin.List.listFitsIndex k) = true := by
  rw [fitsIndex_both h1 h2]
  exact Bool.false_ne_true
 have i8b : ¬ Builtin.List.listTooLong (its.toArray.size * k.toNat) = true := by
  rw [h3r hlen]
  exact Bool.false_ne_true
 have hnew : List.foldl (fun x1 x2 => x1 ++ x2) #[] (List.replicate (if its.toArray.isEmpty = true then 0 else k.toNat) its.toArray) = (List.replicate k.toNat its).flatten.toArray := by
  have f0 : ∀ m : Nat, List.foldl (fun x1 x2 => x1 ++ x2) #[] (List.replicate m its.toArray) = (List.replicate m its).flatten.toArray := fun m => by
   have := foldl_rep its m []
   rw [List.nil_append] at this
   exact this
  rw [f0]
  cases its with
  | nil => simp
  | cons a r' => rw [if_neg (by simp)]
 refine wpAny_binaryOp_repeat_ref (T := "list") (U := "int") (by decide) ⟨_, e, rfl⟩ (fun s' => typeIs_int s' k t) noFill_list_mul F.fills_int_mul F.slot_int_rmul repeat_list F.slot_int_index.lookup
  (call_meets F.slot_int_rmul (typeIs_int s k t) F.entry_int_rmul (F.args_int_rmul_2 _ _) (int___rmul___int_list k t l its.toArray n)
   ⟨e, rfl, ⟨_, e, rfl⟩, call_meets F.slot_list_mul ⟨_, e, rfl⟩ F.entry_list_mul (F.args_list_mul_2 _ _) (AutoListH.list___mul___list_int_3 l its.toArray n k t hfit hcap i8b) ⟨e, ?_⟩⟩)
 rw [hnew]
 exact ⟨.ref _, _, I.j0f (t' := s.toks) (r.rep k.toNat) (by rw [len_rep, Nat.mul_comm]; exact hz), rfl, q _ I.fresh⟩
end
section
variable {prog : Program} {w : World} {A : Around} {E : Value -> Shared -> Prop} {s : Shared}
end
section
variable {X : Cx}
end
end L2
namespace Att
open PySem PySem.W PySem.Calls PyProof.Rows
theorem f0p {P : Params} {h : Heap} : ∀ (ns : List Int) (vs : List Value), WellAll P h vs (ns.map WData.int) -> IntsAre vs ns := by
 intro ns
 induction ns with
 | nil =>
  intro vs w
  rw [List.map_nil] at w
  cases w
  exact .nil
 | cons n ns ih =>
  intro vs w
  rw [List.map_cons] at w
  cases w with
  | cons a b =>
   cases a
   exact .cons _ _ (ih _ b)
theorem g8w {l : OpenLaw} {n : Nat} (hn : l.most = some n) {P : Params} {h : Heap} {args : List WData} {vals : List Value}
  (hpre : l.row.toRowW.claim.pre args = true) (hwl : WellAll P h vals args) :
  ∃ a vs ns, vals = [Value.ref a] ∧ args = [WData.list (ns.map WData.int)] ∧ h.get? a = some { cls := .type "list", data := .seq vs.toArray } ∧ IntsAre vs ns ∧ ns.length ≤ n := by
 have hsh : WShape.hasAll [] args [.list .int] = true := (pre_splitW hpre).1
 have hc : l.pre.holds [] { args := args } = true := (pre_splitW hpre).2
 obtain ⟨d, r, rfl, h1, h2⟩ := hasAllW_cons hsh
 obtain rfl := hasAllW_nil h2
 obtain ⟨xs, rfl, h3⟩ := hasW_list h1
 obtain ⟨ns, rfl⟩ := items_int h3
 have hlen : ns.length <= n := by
  unfold OpenLaw.pre at hc
  have h4 : (WTm.not (.lt (.lit (.int (n : Int))) (.len (.arg 0)))).holds [] { args := [.list (ns.map .int)] } = true := by
   have h4 := (holds_andW hc).1
   rw [hn] at h4
   exact h4
  have h5 := condW_of h4 (w_not (w_lt w_lit (w_len_list (w_arg rfl))))
  rw [List.length_map] at h5
  refine Nat.le_of_not_lt fun q => ?_
  have q' : (n : Int) < ((ns.length : Nat) : Int) := by omega
  first
   | (rw [decide_eq_true q'] at h5; exact absurd h5 (by decide))
   | (simp at h5; omega)
 cases hwl with
 | cons w1 w2 =>
  cases w2
  cases w1 with
  | list ho hall => exact ⟨_, _, ns, rfl, rfl, ho, f0p ns _ hall, hlen⟩
theorem g8x (l : OpenLaw) (args : List WData) : l.row.toRowW.claim.post args (.bool true) args = true :=
 postW_of (r := l.row.toRowW) (X := (true == true))
  (show WShape.has [] (.bool true) .bool = true by first | rfl | decide | simp [WShape.has, WShape.arms, WShape.armsAll])
  (show (WTm.eq .res (.lit (.bool true))).value [] { args := args, res := some (.bool true), after := args } = some (.bool (true == true)) from w_eq_bool (w_res rfl) w_lit) rfl
section
variable {prog : Program} {w : World} {A : Around} {E : Value -> Shared -> Prop} {s : Shared} {K : Frag}
noncomputable def j0i (h : Heap) : Heap := { h with objs := #[] }
noncomputable def ledger (h : Heap) (L d : Addr) : List (Addr × Obj) := (List.range h.objs.size).filterMap fun a => if a = L \/ a = d then none else (h.get? a).map fun o => (a, o)
end
end Att
namespace L2
open PySem PySem.Spec PyProof.Rows
theorem f8u : ∀ {vs : List Value} {ns : List Int}, IntsAre vs ns -> Vals (ns.map V.int) vs
 | _, _, .nil => .nil
 | _, _, .cons n t h => .cons ⟨t, rfl⟩ (f8u h)
noncomputable def Only (H : Hp) : Prop := ∀ b, H b = none \/ ∃ o xs, H b = some (.frz o (.lst xs))
theorem h3s {P : Program} {w : World} {K : PySem.W.Frag} {mg mb : Str -> Option Value} {CX : CXT} {k : Nat} {fa a : Addr} {fd : FuncData} {x : Str} {sp : Sp} {s₁ : Shared} {vs : List Value} {ns : List Int}
  (KX : K.In s₁.heap) (hns : s₁.heap.Ns mainGlobals mg) (hb : s₁.heap.Ns builtinsNs mb) (hbb : ∀ x : Str, x ≠ "__name__" → mb x = bootBuiltins x) (hlim : s₁.heap.NoLimit) (hg : s₁.gens = #[])
  (ha : s₁.heap.get? a = some { cls := .type "list", data := .seq vs.toArray }) (hi : IntsAre vs ns) (hl : ns.length ≤ sizeLine) (hr : a3g k callerA)
  (F : ∀ base : Heap, K.In base -> base.Ns mainGlobals mg -> a1o P w K mg base CX k fa fd [x] sp) (hbind : ∀ (s : Shared) (u : Value), BindsTo s fd ⟨[u], []⟩ [(x, u)])
  (hsp : ∀ H : Hp, Only H -> SqL K H a (ns.map V.int) -> sp [.ref a] H (fun v _ => v = .bl true) fun _ _ _ => False)
  (hCX : ∀ H e s', CX [] H s₁ (fun _ _ _ => False) e s' -> False) :
  codeAny (model P w) callerA (.call (.ref fa) ⟨[.ref a], []⟩) (fun r s' => r = .ok (.ret (.bool true)) /\ OldK s₁.heap s'.heap /\ s'.os = s₁.os /\ AllBare s'.gens) s₁ := by
 have rv := f8u hi
 have lenV := hi.length
 -- from an abstract heap in which nothing but the script may be tracked
 have core : ∀ H : Hp, Only H -> SqL K H a (ns.map V.int) -> HOk P w H s₁.heap -> (∀ b, H b ≠ none -> b = a) -> (H a ≠ none -> K.lookup a = none) ->
   codeAny (model P w) callerA (.call (.ref fa) ⟨[.ref a], []⟩) (fun r s' => r = .ok (.ret (.bool true)) /\ OldK s₁.heap s'.heap /\ s'.os = s₁.os /\ AllBare s'.gens) s₁ := by
  intro H hO hS hok hA hK
  have g8y : ∀ {b : Addr} {o : Obj}, s₁.heap.get? b = some o -> H b = none -> (h3h s₁.heap H).get? b = some o := fun e n => h3i e n
  have noA : ∀ {b : Addr} {o : Obj} {es : Array DictEntry} {ep : Nat}, s₁.heap.get? b = some o -> o.data = .dict es ep -> H b = none := fun {b o es ep} e d => by
   cases q : H b with
   | none => rfl
   | some u =>
    have e' : b = a := hA b (by rw [q]; simp)
    subst e'
    rw [ha] at e; cases e
    have d' : Data.seq vs.toArray _ = Data.dict es ep := d
    cases d'
  have nsK : ∀ {b : Addr} {m : Str -> Option Value}, s₁.heap.Ns b m -> (h3h s₁.heap H).Ns b m := fun {b m} ⟨o, es, ep, e, d, r⟩ => ⟨o, es, ep, g8y e (noA e d), d, r⟩
  have hKb : K.In (h3h s₁.heap H) := fun b o e => g8y (KX b o e) (by
   cases q : H b with
   | none => rfl
   | some u =>
    have e' : b = a := hA b (by rw [q]; simp)
    subst e'
    rw [hK (by rw [q]; simp)] at e; cases e)
  have hM : Mod K mg (h3h s₁.heap H) := ⟨hKb, nsK hns, ⟨mb, nsK hb, hbb⟩, let ⟨mc, h1, h2⟩ := hlim; ⟨mc, nsK h1, h2⟩⟩
  have e0 : g8q P w K mg (h3h s₁.heap H) callerA [] s₁ H := ⟨rfl, hM, fun b o e => h8f e, Nat.le_of_eq (g7v _ _), trivial, fun b hb => absurd (show b ∈ ([] : List Addr) from hb) (by simp), hok, .of_eq hg⟩
  refine codeAny_mono ((F _ hKb (nsK hns)).run callerA [] s₁ H ⟨[.ref a], []⟩ [.ref a] [.ref a] _ _ hr e0 (hbind s₁ (.ref a)) (.cons rfl .nil) (hsp H hO hS)) fun r s' h => ?_
  cases r with
  | error e => exact (hCX H e s' h).elim
  | ok fl =>
   cases fl with
   | next => exact False.elim h
   | brk => exact False.elim h
   | cont => exact False.elim h
   | ret u =>
    obtain ⟨v, H', os, bare, un, hok', r', q⟩ := h
    have q' : v = .bl true := q
    subst q'
    obtain rfl : u = Value.bool true := r'
    refine ⟨rfl, OldK.of_keep fun b o e => ?_, os, bare⟩
    cases q : H b with
    | none => exact un.keep b o e q (by intro z; exact absurd (show b ∈ ([] : List Addr) from z) (by simp)) (by simp)
    | some u =>
     rcases hO b with z | ⟨ob, xs, z⟩
     ·rw [q] at z; cases z
     ·have z2 := un.g1d b ob _ z
      obtain ⟨e1, _⟩ := hok b _ z
      obtain ⟨e2, _⟩ := hok' b _ z2
      rw [e] at e1; cases e1
      exact e2
 cases hk : K.lookup a with
 | some o =>
  -- the script is one of the module's own objects
  have e := KX a o hk
  rw [ha] at e
  cases e
  refine core (fun _ => none) (fun _ => .inl rfl) (.inr ⟨_, vs.toArray, _, hk, rfl, rfl, rfl, by rw [List.size_toArray, lenV]; exact hl, by simpa using rv⟩) (fun b u z => by have z' : (none : Option HO) = some u := z; cases z') (fun b z => absurd rfl z) fun z => absurd rfl z
 | none =>
  refine core (fun b => if b = a then some (.frz { cls := .type "list", data := .seq vs.toArray } (.lst (ns.map V.int))) else none) (fun b => ?_) (.inl (.inr ⟨{ cls := .type "list", data := .seq vs.toArray }, if_pos rfl⟩)) (fun b u z => ?_) (fun b z => ?_) fun _ => hk
  ·by_cases hb : b = a
   ·exact .inr ⟨_, _, if_pos hb⟩
   ·exact .inl (if_neg hb)
  ·by_cases hb : b = a
   ·have z' := (if_pos hb).symm.trans z
    cases z'
    subst hb
    exact ⟨ha, by rw [List.length_map]; exact hl, vs, _, rv, ha⟩
   ·have z' := (if_neg hb).symm.trans z
    cases z'
  ·by_cases hb : b = a
   ·exact hb
   ·exact absurd (if_neg hb) z
end L2
namespace L2
open PySem PySem.Spec PyProof.Rows
noncomputable abbrev KOf {K : PySem.W.Frag} {h : Heap} (_ : K.In h) : PySem.W.Frag := K
end L2
/- THE LAST THEOREM (shape; LID, My.* are yours):
  My.Adr: a structure of the addresses that your layer names (classes, functions); My.Txt K t: a structure (Prop) of the equations over K;
  My.txt_mk : {K} {implicit addresses ..} (e1 : nsIn K mainGlobals "law" = some (some (.ref f))) (e2 : K.lookup f = some ⟨oc, od, .func (fnOf "law" "law" params body scope dV kV doc pm an cdv ct), sl⟩) (e3 : codeIn K cdv "law" = true) .. : ∃ t, My.Txt K t
(the tactic k_is has no namespace: write k_is) -/
namespace L2
open PySem PySem.Spec PyProof.Rows
noncomputable def inClass (s : Stmt) (j : Nat) : Stmt := match s with
 | .ClassDef _ _ _ body _ _ _ _ _ _ _ => body.getD j (.Pass ⟨0, 0, 0, 0⟩)
 | _ => .Pass ⟨0, 0, 0, 0⟩
noncomputable def a0v (s : Stmt) : Arguments := match s with
 | .FunctionDef _ a _ _ _ _ _ _ _ _ => a
 | _ => { posonlyargs := [], args := [], vararg := none, kwonlyargs := [], kw_defaults := [], kwarg := none, defaults := [] }
noncomputable def a0t (s : Stmt) : List Stmt := match s with
 | .FunctionDef _ _ b _ _ _ _ _ _ _ => b
 | _ => []
noncomputable def a0h (s : Stmt) : Scope := match s with
 | .FunctionDef _ _ _ _ _ _ sc _ _ _ => sc
 | _ => { kind := .function, names := [], isGenerator := false, isCoroutine := false }
noncomputable abbrev CX0 : CXT := fun _ _ _ _ _ _ => False
noncomputable abbrev E0 : XK := fun _ _ _ => False
theorem a0r {X : Cx} : Passes CX0 X E0 := fun _ _ _ _ _ _ _ h => h.elim
structure Fun (K : PySem.W.Frag) (x qual : Str) (st : Stmt) (f : Addr) (fd : FuncData) : Prop where
 ex : ∃ (oc : Value) (od : Option Addr) (kV doc pm : Value) (an : Option Addr) (cdv ct : Value) (osl : Array (Option Value)),
  fd = PySem.W.fnOf x qual (a0v st) (a0t st) (a0h st) .none kV doc pm an cdv ct /\ K.lookup f = some ⟨oc, od, .func fd, osl⟩ /\ PySem.W.codeIn K cdv qual = true
 kp : PySem.W.keepIn K (.ref f) = true
section
variable {P : Program} {w : World} {K : PySem.W.Frag} {mg : Str -> Option Value} {base : Heap}
theorem Fun.ok {x qual : Str} {st : Stmt} {f : Addr} {fd : FuncData} {N ps : List Str} {k : Nat} {sp : Sp} (F : Fun K x qual st f fd) (S : a0w N ps (a0h st)) (len : ∀ vs H Q E, sp vs H Q E -> vs.length = ps.length)
  (hbody : ∀ (cdv : Value) (A : Around) (outer : List Env) (s : Shared) (H : Hp) (vs : List V) (Q : VK) (E : XK), a3g k (A.deeper (envOfC qual (a0h st) s.heap.objs.size f cdv)) -> sp vs H Q E ->
   ∃ t, PSs (h5v CX0 P w K mg base N qual (a0h st) f cdv A outer s H E).nox (a0t st) t /\ t { nx := fun _ H' => Q .non H', rt := Q } (start N vs) H) : a1o P w K mg base CX0 (k + 1) f fd ps sp := by
 obtain ⟨oc, od, kV, doc, pm, an, cdv, ct, osl, rfl, lk, hcd⟩ := F.ex
 refine i7z lk hcd S len fun A outer s H vs Q E hr hsp => ?_
 obtain ⟨t, h, q⟩ := hbody cdv A outer s H vs Q E hr hsp
 exact ⟨t, h.nox, q⟩
theorem Fun.binds {x qual : Str} {st : Stmt} {f : Addr} {fd : FuncData} {ps : List Str} (F : Fun K x qual st f fd)
  (h : ∀ (kV doc pm : Value) (an : Option Addr) (cdv ct : Value) (us : List Value), us.length = ps.length -> bindArgs (PySem.W.fnOf x qual (a0v st) (a0t st) (a0h st) .none kV doc pm an cdv ct) ⟨us, []⟩ = pure (ps.zip us)) : Binds K fd ps [] := by
 obtain ⟨oc, od, kV, doc, pm, an, cdv, ct, osl, rfl, lk, hcd⟩ := F.ex
 exact .all (h kV doc pm an cdv ct)
theorem a1m {x qual : Str} {st : Stmt} {f : Addr} {oc : Value} {od an : Option Addr} {osl : Array (Option Value)} {kV doc pm cdv ct : Value} (l : K.lookup f = some ⟨oc, od, .func (PySem.W.fnOf x qual (a0v st) (a0t st) (a0h st) .none kV doc pm an cdv ct), osl⟩)
  (c : PySem.W.codeIn K cdv qual = true) (k : PySem.W.keepIn K (.ref f) = true) : Fun K x qual st f (PySem.W.fnOf x qual (a0v st) (a0t st) (a0h st) .none kV doc pm an cdv ct) := ⟨⟨oc, od, kV, doc, pm, an, cdv, ct, osl, rfl, l, c⟩, k⟩
end
section
variable {X : Cx}
end
noncomputable def Same (H H' : Hp) : Prop := ∀ b o, H b = some o -> H' b = some o
theorem Same.refl (H : Hp) : Same H H := fun _ _ h => h
theorem Same.trans {H H1 H2 : Hp} (a : Same H H1) (b : Same H1 H2) : Same H H2 := fun c o h => b c o (a c o h)
theorem Same.free {H H' : Hp} (e : Same H H') {l : Addr} (h : H' l = Option.none) : H l = Option.none := by
 cases q : H l with
 | none => rfl
 | some o =>
  rw [e l o q] at h
  cases h
theorem Same.seq {K : PySem.W.Frag} {H H' : Hp} {a : Addr} {xs : List V} (e : Same H H') (h : SqL K H a xs) : SqL K H' a xs := by
 rcases h with (h | ⟨o, h⟩) | h
 ·exact .inl (.inl (e _ _ h))
 ·exact .inl (.inr ⟨o, e _ _ h⟩)
 ·exact .inr h
end L2
namespace L2
open PySem PySem.Spec PyProof.Rows
section
variable {κ : Type} [DecidableEq κ]
noncomputable def h5x (kvs : List (κ × V)) (k : κ) : Option V := (kvs.find? fun kv => decide (kv.1 = k)).map (·.2)
noncomputable def putK (kvs : List (κ × V)) (k : κ) (v : V) : List (κ × V) :=
 if (kvs.any fun kv => decide (kv.1 = k)) = true then kvs.map (fun kv => if kv.1 = k then (kv.1, v) else kv) else kvs ++ [(k, v)]
noncomputable def g8z (kvs : List (κ × V)) (k : κ) : List (κ × V) := kvs.filter fun kv => decide (kv.1 ≠ k)
theorem g7t.getD {o : Option V} {u : Option Value} {d : V} {d' : Value} (r : g7t o u) (rd : RelV d d') : RelV (o.getD d) (u.getD d') := by
 cases o with
 | none => cases u with
  | none => exact rd
  | some _ => exact (show False from r).elim
 | some _ => cases u with
  | none => exact (show False from r).elim
  | some _ => exact r
theorem KV.any {kvs : List (κ × V)} {vs : List (κ × Value)} (r : KV kvs vs) (k : κ) : (kvs.any fun kv => decide (kv.1 = k)) = vs.any fun kv => decide (kv.1 = k) := by
 unfold KV at r
 induction r with
 | nil => rfl
 | cons h t ih => rw [List.any_cons, List.any_cons, ih, h.1]
theorem KV.drop {kvs : List (κ × V)} {vs : List (κ × Value)} (r : KV kvs vs) (k : κ) : KV (g8z kvs k) (without vs k) := by
 unfold KV at r ⊢
 unfold g8z without
 induction r with
 | nil => exact .nil
 | @cons p q ps qs h t ih =>
  obtain ⟨h1, h2⟩ := h
  rw [List.filter_cons, List.filter_cons]
  by_cases e : p.1 = k
  ·have a : ¬ decide (p.1 ≠ k) = true := by simp [e]
   have b : ¬ decide (q.1 ≠ k) = true := by simp [h1.symm.trans e]
   rw [if_neg a, if_neg b]; exact ih
  ·have e' : ¬ q.1 = k := fun z => e (h1.trans z)
   have a : decide (p.1 ≠ k) = true := by simp [e]
   have b : decide (q.1 ≠ k) = true := by simp [e']
   rw [if_pos a, if_pos b]; exact .cons ⟨h1, h2⟩ ih
theorem KV.keys {kvs : List (κ × V)} {vs : List (κ × Value)} (r : KV kvs vs) : kvs.map (·.1) = vs.map (·.1) := by
 unfold KV at r
 induction r with
 | nil => rfl
 | cons h t ih => rw [List.map_cons, List.map_cons, ih, h.1]
theorem KV.length {kvs : List (κ × V)} {vs : List (κ × Value)} (r : KV kvs vs) : kvs.length = vs.length := Paired.length r
end
noncomputable abbrev KT (H : Hp) : List (List Key × V) -> List (List Key × Addr × Value) -> Prop := Paired fun p q => p.1 = q.1 /\ H q.2.1 = some (.tup (p.1.map kV)) /\ RelV p.2 q.2.2
theorem KT.keeps {H H' : Hp} {kvs : List (List Key × V)} {xs : List (List Key × Addr × Value)} (r : KT H kvs xs) (ht : ∀ b ys, H b = some (.tup ys) -> H' b = some (.tup ys)) : KT H' kvs xs :=
 Paired.i7m r fun _ _ z => ⟨z.1, ht _ _ z.2.1, z.2.2⟩
section
variable {P : Program} {w : World} {H : Hp} {h : Heap} {a : Addr}
end
noncomputable def h3c (H : Hp) (a : Addr) (y : V) (r : Option V) : Prop :=
 (∃ kvs k, Rd H a (.dK kvs) /\ y = kV k /\ r = h5x kvs k) \/ ∃ kvs k b, Rd H a (.dT kvs) /\ y = .ref b /\ H b = some (.tup (k.map kV)) /\ r = h5x kvs k
noncomputable def i1q (H : Hp) (a : Addr) (y v : V) (H' : Hp) : Prop :=
 (∃ kvs k, H a = some (.dK kvs) /\ y = kV k /\ kvs.length < sizeLine /\ H' = upd H a (.dK (putK kvs k v))) \/
 ∃ kvs k b, H a = some (.dT kvs) /\ y = .ref b /\ H b = some (.tup (k.map kV)) /\ kvs.length < sizeLine /\ H' = upd H a (.dT (putK kvs k v))
theorem h3c.k {H : Hp} {a : Addr} {kvs : List (Key × V)} {k : Key} (e : H a = some (.dK kvs)) : h3c H a (kV k) (h5x kvs k) := .inl ⟨kvs, k, .inl e, rfl, rfl⟩
theorem h3c.t {H : Hp} {a b : Addr} {kvs : List (List Key × V)} {k : List Key} (e : H a = some (.dT kvs)) (eb : H b = some (.tup (k.map kV))) : h3c H a (.ref b) (h5x kvs k) := .inr ⟨kvs, k, b, .inl e, rfl, eb, rfl⟩
theorem i1q.k {H : Hp} {a : Addr} {kvs : List (Key × V)} {k : Key} {v : V} (e : H a = some (.dK kvs)) (hl : kvs.length < sizeLine) : i1q H a (kV k) v (upd H a (.dK (putK kvs k v))) := .inl ⟨kvs, k, e, rfl, hl, rfl⟩
theorem i1q.t {H : Hp} {a b : Addr} {kvs : List (List Key × V)} {k : List Key} {v : V} (e : H a = some (.dT kvs)) (eb : H b = some (.tup (k.map kV))) (hl : kvs.length < sizeLine) :
  i1q H a (.ref b) v (upd H a (.dT (putK kvs k v))) := .inr ⟨kvs, k, b, e, rfl, eb, hl, rfl⟩
section
variable {X : Cx} {pins : List (Addr × Obj)} {σ : St} {H : Hp} {s : Shared} {a : Addr} {y v : V} {u r : Value} {o : Option V} {A : Around} {E : Value -> Shared -> Prop}
end
section
variable {X : Cx} {pins : List (Addr × Obj)} {σ : St} {H : Hp} {s : Shared} {a : Addr} {kvs : List (Key × V)} {k : Key} {u : Value} {A : Around} {E : Value -> Shared -> Prop}
end
noncomputable def NoSl (i : Expr) : Prop := ∀ ov iv, subscripted i false ov iv = operate [ov, iv] (getItem ov iv)
noncomputable def tDGet (td ty : TE) : TE := fun σ H Q => td σ H fun x H1 => ty σ H1 fun y H2 => ∃ a v, x = .ref a /\ h3c H2 a y (some v) /\ Q v H2
noncomputable def tDIn (ty td : TE) : TE := fun σ H Q => ty σ H fun y H1 => td σ H1 fun x H2 => ∃ a o, x = .ref a /\ h3c H2 a y o /\ Q (.bl o.isSome) H2
noncomputable def i8c (ty td : TE) : TE := fun σ H Q => ty σ H fun y H1 => td σ H1 fun x H2 => ∃ a o, x = .ref a /\ h3c H2 a y o /\ Q (.bl (!o.isSome)) H2
noncomputable def sDPut (td ty tv : TE) : TS := fun D σ H => tv σ H fun v H1 => td σ H1 fun x H2 => ty σ H2 fun y H3 => ∃ a H4, x = .ref a /\ i1q H3 a y v H4 /\ D.nx σ H4
noncomputable def sDAug (td ty tv : TE) (rd : V -> V -> Hp -> VK -> Prop) : TS := fun D σ H => td σ H fun x H1 => ty σ H1 fun y H2 => ∃ a v, x = .ref a /\ h3c H2 a y (some v) /\
 tv σ H2 fun y2 H3 => rd v y2 H3 fun z H4 => ∃ H5, i1q H4 a y z H5 /\ D.nx σ H5
noncomputable def sDDel (td ty : TE) : TS := fun D σ H => td σ H fun x H1 => ty σ H1 fun y H2 => ∃ a kvs k, x = .ref a /\ H2 a = some (.dK kvs) /\ y = kV k /\ (h5x kvs k).isSome = true /\ D.nx σ (upd H2 a (.dK (g8z kvs k)))
section
variable {X : Cx} {o i e value : Expr} {pos pos' tpos : Pos} {td ty tv : TE}
end
noncomputable def j0j : TE := fun _ H Q => ∀ p, H p = none -> Q (.ref p) (upd H p (.dK []))
noncomputable def j0k : TE := fun _ H Q => ∀ p, H p = none -> Q (.ref p) (upd H p (.dT []))
section
variable {X : Cx} {pos : Pos}
end
noncomputable def g9a : List (TE × TE) -> St -> Hp -> (List (V × V) -> Hp -> Prop) -> Prop
 | [], _, H, Q => Q [] H
 | (tk, tv) :: r, σ, H, Q => tk σ H fun x H1 => tv σ H1 fun y H2 => g9a r σ H2 fun ps H3 => Q ((x, y) :: ps) H3
noncomputable abbrev VV : List (V × V) -> List (Value × Value) -> Prop := Paired fun p q => RelV p.1 q.1 /\ RelV p.2 q.2
noncomputable def PPs (X : Cx) (pos : Pos) (keys : List (Option Expr)) (values : List Expr) (trs : List (TE × TE)) : Prop :=
 ∀ (pins : List (Addr × Obj)) (s : Shared) (σ : St) (H : Hp) (Q : List (V × V) -> Hp -> Prop), Inv X pins σ H s -> g9a trs σ H Q ->
  wpAny (model X.prog X.w) X.A (evalPairs (pairTrees keys values X.env pos)) (fun vs s' => ∃ ps H', Inv X pins σ H' s' /\ VV ps vs /\ Q ps H') X.xe s
noncomputable def i3k (kvs more : List (Key × V)) : List (Key × V) := more.foldl (fun acc kv => putK acc kv.1 kv.2) kvs
noncomputable def tDisp (trs : List (TE × TE)) : TE := fun σ H Q => ∀ p, H p = none -> g9a trs σ (upd H p (.dK [])) fun ps H2 => H2 p = some (.dK []) /\ ∃ kvs : List (Key × V), ps = kvs.map (fun kv => (kV kv.1, kv.2)) /\ kvs.length <= 15 /\ Q (.ref p) (upd H2 p (.dK (i3k [] kvs)))
structure M1 (X : Cx) (o : Expr) (m : Str) (apos : Pos) (e : Expr) (cpos : Pos) : Prop where
 base : attributeBase o m X.env (eval o X.env) = eval o X.env
 few : ((backTo cpos (starEach [e] X.env)).all (fun x => !x.1) && (backToKw cpos (keywordEach [] X.env)).all (fun x => x.1.isSome)
  && decide (([e] : List Expr).length + ([] : List Keyword).length + (if ([] : List Keyword).isEmpty then 0 else 1) < 30)) = true
 line : (apos.endLine == cpos.line) = true
 trees : backTo cpos (starEach [e] X.env) = [(false, eval e X.env)]
structure M2 (X : Cx) (o : Expr) (m : Str) (apos : Pos) (e f : Expr) (cpos : Pos) : Prop where
 base : attributeBase o m X.env (eval o X.env) = eval o X.env
 few : ((backTo cpos (starEach [e, f] X.env)).all (fun x => !x.1) && (backToKw cpos (keywordEach [] X.env)).all (fun x => x.1.isSome)
  && decide (([e, f] : List Expr).length + ([] : List Keyword).length + (if ([] : List Keyword).isEmpty then 0 else 1) < 30)) = true
 line : (apos.endLine == cpos.line) = true
 trees : backTo cpos (starEach [e, f] X.env) = [(false, eval e X.env), (false, eval f X.env)]
noncomputable def IsD (H : Hp) (a : Addr) : Prop := (∃ kvs, Rd H a (.dK kvs)) \/ ∃ kvs, Rd H a (.dT kvs)
section
variable {X : Cx} {pins : List (Addr × Obj)} {σ : St} {H : Hp} {s : Shared} {a : Addr} {y d : V} {u r : Value} {o : Option V} {A : Around} {E : Value -> Shared -> Prop}
end
noncomputable def j0l (td ty : TE) : TE := fun σ H Q => td σ H fun x H1 => ∃ a, x = .ref a /\ IsD H1 a /\ ty σ H1 fun y H2 => ∃ o, h3c H2 a y o /\ Q (o.getD .non) H2
noncomputable def j0m (td ty tx : TE) : TE := fun σ H Q => td σ H fun x H1 => ∃ a, x = .ref a /\ IsD H1 a /\ ty σ H1 fun y H2 => tx σ H2 fun z H3 => ∃ o, h3c H3 a y o /\ Q (o.getD z) H3
noncomputable def j0n (td ty : TE) : TE := fun σ H Q => td σ H fun x H1 => ∃ a, x = .ref a /\ IsD H1 a /\ ty σ H1 fun y H2 => ∃ kvs k v, H2 a = some (.dK kvs) /\ y = kV k /\ h5x kvs k = some v /\ Q v (upd H2 a (.dK (g8z kvs k)))
noncomputable def j0o (td ty tx : TE) : TE := fun σ H Q => td σ H fun x H1 => ∃ a, x = .ref a /\ IsD H1 a /\ ty σ H1 fun y H2 => tx σ H2 fun z H3 => ∃ kvs k, H3 a = some (.dK kvs) /\ y = kV k /\
 (∀ v, h5x kvs k = some v -> Q v (upd H3 a (.dK (g8z kvs k)))) /\ (h5x kvs k = none -> Q z H3)
section
variable {X : Cx} {o e f : Expr} {apos cpos : Pos} {td ty tx : TE}
end
section
variable {X : Cx} {pins : List (Addr × Obj)} {σ : St} {H : Hp} {s : Shared} {a : Addr} {kvs : List (Key × V)} {A : Around} {E : Value -> Shared -> Prop}
end
section
variable {X : Cx} {pins : List (Addr × Obj)} {σ : St} {H : Hp} {s : Shared} {a : Addr} {y : V} {u : Value} {A : Around} {E : Value -> Shared -> Prop}
end
section
variable {X : Cx}
end
section
variable {κ : Type} [DecidableEq κ]
end
end L2
namespace L2
open PySem PySem.Spec PyProof.Rows
open PySem.Builtin.Int (intBits)
section
variable {X : Cx} {a b c : Expr} {ta tb tc : TE} {pos : Pos}
theorem h8t : OpR X (binaryOp .Mult) (rI IntMulOk fun i j => .int (i * j)) := opI fun _ _ _ _ _ _ _ hc q => mul_int q hc
noncomputable def CFd (i j : Int) : Prop := j ≠ 0 /\ intBits j <= 9000
theorem g1l {j : Int} (h : j ≠ 0) (hb : intBits j <= 9000) : j.natAbs.log2 < 9000 := by
 have h1 := intBits_le_iff.mp hb
 exact (Nat.log2_lt (by omega)).mpr h1
theorem h3t : OpR X (binaryOp .FloorDiv) (rI CFd fun i j => .int (i.fdiv j)) := opI fun i j _ _ _ _ _ hc q =>
 floordiv_int hc.1 q (.inl (PyProof.noPylong_of_log2 (g1l hc.1 hc.2)))
noncomputable def CDv (i j : Int) : Prop := 0 < j /\ intBits j <= 9000
inductive Ty where
 | non | bl | int | str | lst | tup | dct
 deriving DecidableEq
noncomputable def Ty.nm : Ty -> String
 | .non => "NoneType" | .bl => "bool" | .int => "int" | .str => "str" | .lst => "list" | .tup => "tuple" | .dct => "dict"
noncomputable def h5y (H : Hp) : V -> Option Ty
 | .non => some .non
 | .bl _ => some .bl
 | .int _ => some .int
 | .str _ => some .str
 | .ref a => match H a with
  | some (.lst _) => some .lst
  | some (.frz _ (.lst _)) => some .lst
  | some (.tup _) => some .tup
  | some (.dK _) => some .dct
  | some (.dT _) => some .dct
  | _ => none
 | _ => none
noncomputable def g9b (t T : Ty) : Bool := decide (t = T) || (decide (t = .bl) && decide (T = .int))
theorem h8u {K : PySem.W.Frag} {H : Hp} {x : V} {t : Ty} (h : h5y H x = some t) : g5l K H x (.type t.nm) := by
 cases x with
 | non => cases h; exact .non
 | bl b => cases h; exact .bl b
 | int i => cases h; exact .int i
 | str s => cases h; exact .str s
 | byt b => cases h
 | flt b => cases h
 | ty n => cases h
 | ref a =>
  unfold h5y at h
  cases e : H a with
  | none => simp [e] at h
  | some o =>
   cases o with
   | lst xs => simp [e] at h; subst h; exact .lst e
   | tup xs => simp [e] at h; subst h; exact .tup e
   | dK kvs => simp [e] at h; subst h; exact .dK e
   | dT kvs => simp [e] at h; subst h; exact .dT e
   | frz ob u =>
    cases u with
    | lst xs => simp [e] at h; subst h; exact .frz e
    | _ => simp [e] at h
   | _ => simp [e] at h
theorem i3l {K : PySem.W.Frag} (t T : Ty) : PySem.W.kitOne K (.type t.nm) (.type T.nm) = some (g9b t T) := by
 cases t <;> cases T <;> rfl
noncomputable def j0p (T : Ty) : List V -> Hp -> VK -> Prop := fun xs H Q => match xs with
 | [x, .ty n] => n = T.nm /\ ∃ t, h5y H x = some t /\ Q (.bl (g9b t T)) H
 | _ => False
theorem d9r (T : Ty) : b2p X (.builtin "isinstance") (j0p T) := by
 intro pins s σ H xs us Q I r h
 match xs, r, h with
 | [x, .ty n], r, h =>
  obtain ⟨rfl, t, ht, q⟩ := h
  obtain ⟨u, v, rfl, r1, r2⟩ := vals2 r
  cases (show v = Value.type T.nm from r2)
  exact g8p I r1 (h8u ht) (i3l t T) fun tk => ⟨.bl _, H, I.tok tk, rfl, q⟩
mutual
inductive f8v (K : PySem.W.Frag) (H : Hp) : V -> PyData -> Prop
 | non : f8v K H .non .none
 | bl (b : Bool) : f8v K H (.bl b) (.bool b)
 | int (i : Int) : f8v K H (.int i) (.int i)
 | str (x : Str) : f8v K H (.str x) (.str x)
 | lst {a : Addr} {xs : List V} {ds : List PyData} : SqL K H a xs -> d2o K H xs ds -> f8v K H (.ref a) (.list ds)
 | tup {a : Addr} {xs : List V} {ds : List PyData} : SqT K H a xs -> d2o K H xs ds -> f8v K H (.ref a) (.tuple ds)
inductive d2o (K : PySem.W.Frag) (H : Hp) : List V -> List PyData -> Prop
 | nil : d2o K H [] []
 | cons {x : V} {xs : List V} {d : PyData} {ds : List PyData} : f8v K H x d -> d2o K H xs ds -> d2o K H (x :: xs) (d :: ds)
end
section
variable {pins : List (Addr × Obj)} {σ : St} {H : Hp} {s : Shared}
mutual
theorem Inv.reads (I : Inv X pins σ H s) : ∀ {v : V} {d : PyData} {u : Value}, f8v X.K H v d -> RelV v u -> ∃ as, Reads s.heap u d as
 | _, _, _, .non, r => by cases (show _ = Value.none from r); exact ⟨_, .none⟩
 | _, _, _, .bl b, r => by cases (show _ = Value.bool b from r); exact ⟨_, .bool b⟩
 | _, _, _, .int i, r => by obtain ⟨t, rfl⟩ := r; exact ⟨_, .int i t⟩
 | _, _, _, .str x, r => by obtain ⟨t, rfl⟩ := r; exact ⟨_, .str x t⟩
 | _, _, _, .lst (a := a) hs ha, r => by
  cases (show _ = Value.ref a from r)
  obtain ⟨its, rv, ⟨o, n, e, c, _, dd⟩, _⟩ := I.list hs
  obtain ⟨as, q⟩ := Inv.readsAll I ha rv
  exact ⟨_, .list e c dd (by simpa using q)⟩
 | _, _, _, .tup (a := a) hs ha, r => by
  cases (show _ = Value.ref a from r)
  obtain ⟨its, rv, ⟨o, e, c, n, dd⟩, _⟩ := I.tuple hs
  obtain ⟨as, q⟩ := Inv.readsAll I ha rv
  exact ⟨_, .tuple e c dd (by simpa using q)⟩
theorem Inv.readsAll (I : Inv X pins σ H s) : ∀ {vs : List V} {ds : List PyData} {us : List Value}, d2o X.K H vs ds -> Vals vs us -> ∃ as, ReadsAll s.heap us ds as
 | _, _, _, .nil, .nil => ⟨_, .nil⟩
 | _, _, _, .cons h t, .cons r q => by
  obtain ⟨as, x⟩ := Inv.reads I h r
  obtain ⟨bs, y⟩ := Inv.readsAll I t q
  exact ⟨_, .cons x y⟩
end
end
noncomputable def i7e (K : PySem.W.Frag) : R2 := fun x y H Q => ∃ d e, f8v K H x d /\ f8v K H y e /\ SeqAt.shaped d = true /\ SeqAt.shaped e = true /\ Q (.bl (PyData.eqv d e)) H
noncomputable def i7f (K : PySem.W.Frag) : R2 := fun x y H Q => ∃ d e, f8v K H x d /\ f8v K H y e /\ SeqAt.shaped d = true /\ SeqAt.shaped e = true /\ Q (.bl (!PyData.eqv d e)) H
theorem i3m (hu : X.A.units + 64 < cLine) : OpR X (compareOp .Eq) (i7e X.K) := by
 intro pins s σ H x y v u Q I rx ry h
 obtain ⟨d, e, hd, he, sd, se, q⟩ := h
 obtain ⟨as, ra⟩ := I.reads hd rx
 obtain ⟨bs, rb⟩ := I.reads he ry
 exact eq_dataH ra rb sd se hu ⟨.bl _, H, I, rfl, q⟩
theorem i3n (hu : X.A.units + 64 < cLine) : OpR X (compareOp .NotEq) (i7f X.K) := by
 intro pins s σ H x y v u Q I rx ry h
 obtain ⟨d, e, hd, he, sd, se, q⟩ := h
 obtain ⟨as, ra⟩ := I.reads hd rx
 obtain ⟨bs, rb⟩ := I.reads he ry
 exact ne_dataH ra rb sd se hu ⟨.bl _, H, I, rfl, q⟩
end
noncomputable def j0q (lo c : Int) (n : Nat) : It := ⟨fun i _ => i < n, fun i H x H' => H' = H /\ x = .int (lo + i * c), fun i _ => n <= i⟩
noncomputable def i7g (lo hi c : Int) : Nat := (Builtin.Range.rangeSize lo hi c).toNat
theorem i7h {lo hi c : Int} (hc : 0 < c) : i7g lo hi c = if lo < hi then ((hi - lo - 1) / c + 1).toNat else 0 := by
 unfold i7g Builtin.Range.rangeSize
 rw [if_pos (show c > 0 from hc)]
 split <;> rfl
section
variable {X : Cx} {tg : Expr}
noncomputable def iRng3 (ta : TA) : TI := fun σ H R => ta σ H fun vs H1 => ∃ i j c : Int, vs = [.int i, .int j, .int c] /\ (0 <= i /\ i < 2 ^ 32 /\ 0 <= j /\ j < 2 ^ 32 /\ 0 < c /\ c < 2 ^ 30) /\ R (j0q i c (i7g i j c)) H1
end
noncomputable def i3o (J : It) (g : TG) (tb : TS) (D : Ends) (σ : St) (H : Hp) : Prop := ∃ W : Nat -> Nat -> St -> Hp -> Prop, (∃ m, W 0 m σ H) /\ ∀ i m σ H, W i m σ H ->
 (J.stop i H /\ D.nx σ H) \/ (J.go i H /\ ∃ N : St -> Hp -> Prop, (∀ σ' H', N σ' H' -> ∃ m', m' < m /\ W (i + 1) m' σ' H') /\ ∀ x H', J.yld i H x H' -> g x σ H' fun σ2 H2 => tb { D with nx := N, ct := N, bk := D.nx } σ2 H2)
noncomputable def i3p (wi : TI) (g : TG) (tb : TS) : TS := fun D σ H => wi σ H fun J H1 => i3o J g tb D σ H1
theorem c4g {X : Cx} {tg iter : Expr} {body : List Stmt} {wi : TI} {g : TG} {tb : TS} {pos : Pos} (hp : PassesOwn (model X.prog X.w) X.A X.env X.xe) (hc : X.calm = true) (hi : PI X tg iter wi) (hg : PG X tg g) (hb : PSs X body tb)
  (hs : ∀ x, foldedSetIterable iter X.env x = pure x := by intro _; rfl) : PS X (.For tg iter body [] pos) (i3p wi g tb) := i2p hp hc hi hg hb hs
theorem f0q {K : PySem.W.Frag} {a : Addr} {xs : List V} {g : TG} {tb : TS} {D : Ends} {σ : St} {H : Hp} (Pv : Nat -> St -> Hp -> Prop) (h0 : Pv 0 σ H) (hl : ∀ i σ H, i <= xs.length -> Pv i σ H -> SqL K H a xs)
  (hs : ∀ i x σ H, xs[i]? = some x -> Pv i σ H -> g x σ H fun σ2 H2 => tb { D with nx := Pv (i + 1), ct := Pv (i + 1), bk := D.nx } σ2 H2) (hd : ∀ σ H, Pv xs.length σ H -> D.nx σ H) : i3o (Itl K a) g tb D σ H := h3k Pv h0 hl hs hd
theorem d6n {lo : Int} {n : Nat} {g : TG} {tb : TS} {D : Ends} {σ : St} {H : Hp} (Pv : Nat -> St -> Hp -> Prop) (h0 : Pv 0 σ H)
  (hs : ∀ i σ H, i < n -> Pv i σ H -> g (.int (lo + i)) σ H fun σ2 H2 => tb { D with nx := Pv (i + 1), ct := Pv (i + 1), bk := D.nx } σ2 H2) (hd : ∀ σ H, Pv n σ H -> D.nx σ H) : i3o (Itr lo n) g tb D σ H := g8f Pv h0 hs hd
noncomputable def h5z (c : TT) (tb : TS) (D : Ends) (σ : St) (H : Hp) : Prop := ∃ W : Nat -> St -> Hp -> Prop, (∃ m, W m σ H) /\ ∀ m σ H, W m σ H ->
 c σ H fun b H1 => if b = true then tb { D with nx := fun σ' H' => ∃ m', m' < m /\ W m' σ' H', ct := fun σ' H' => ∃ m', m' < m /\ W m' σ' H', bk := D.nx } σ H1 else D.nx σ H1
noncomputable def g9c (c : TT) (tb : TS) : TS := fun D σ H => h5z c tb D σ H
theorem f0r {X : Cx} {c : Expr} {body : List Stmt} {tc : TT} {tb : TS} {pos : Pos} (hp : PassesOwn (model X.prog X.w) X.A X.env X.xe) (hc : PT X c tc) (hb : PSs X body tb) : PS X (.While c body [] pos) (g9c tc tb) := by
 intro pins s σ H D I h
 obtain ⟨W, ⟨m0, w0⟩, turn⟩ := h
 refine wpAny_While (codeAny_whileLoop (fun n s' => ∃ σ' H', Inv X pins σ' H' s' /\ W n σ' H') ?_ m0 ⟨σ, H, I, w0⟩)
 rintro n s1 ⟨σ1, H1, I1, w1⟩
 refine wpAny_passesOwn hp (thn (hc pins s1 σ1 H1 _ I1 (turn n σ1 H1 w1)) fun b s2 ⟨H2, I2, q2⟩ => ?_)
 cases b with
 | true =>
  rw [if_pos rfl]
  refine wpAny_passesOwn hp (thn (hb pins s2 σ1 H2 _ I2 q2) fun f s3 q3 => ?_)
  cases f with
  | next =>
   obtain ⟨σ3, H3, I3, m', hm, w3⟩ := q3
   exact ⟨m', hm, σ3, H3, I3, w3⟩
  | cont =>
   obtain ⟨σ3, H3, I3, m', hm, w3⟩ := q3
   exact ⟨m', hm, σ3, H3, I3, w3⟩
  | brk => exact q3
  | ret v => exact q3
 | false =>
  rw [if_neg Bool.false_ne_true]
  exact wpAny_execs_nil ⟨σ1, H2, I2, q2⟩
theorem f0s {c : TT} {tb : TS} {D : Ends} {σ : St} {H : Hp} (Pv : Nat -> St -> Hp -> Prop) (m0 : Nat) (h0 : Pv m0 σ H)
  (hs : ∀ m σ H, Pv m σ H -> c σ H fun b H1 => if b = true then tb { D with nx := fun σ' H' => ∃ m', m' < m /\ Pv m' σ' H', ct := fun σ' H' => ∃ m', m' < m /\ Pv m' σ' H', bk := D.nx } σ H1 else D.nx σ H1) : h5z c tb D σ H :=
 ⟨Pv, ⟨m0, h0⟩, hs⟩
end L2
namespace Att
open PySem PySem.W PySem.Calls PyProof.Rows
open PySem.Builtin.Int (intBits)
theorem g1m {ns : List Int} (h : WData.layableAll [WData.list (ns.map WData.int)] = true) : ∀ n ∈ ns, intBits n <= 1048576 := by
 intro n hn
 have h1 := layableW_arg h _ (List.mem_singleton.mpr rfl)
 have h2 := layableW_item h1 (WData.int n) (List.mem_map.mpr ⟨n, hn, rfl⟩)
 have h3 := (layableW_iff.mp h2).2.2
 exact h3
theorem f8w {l : OpenLaw} {n : Nat} {q : Program} {loose : List Str} {XP : (Str -> Option Value) -> Heap -> Prop} {YP : World -> Heap -> Prop} {d : DefRec}
  (hn : l.most = some n) (hdf : d.params.defaults = [])
  (call : ∀ (w : World) (s₀ s₁ : Shared) (mg mb : Str -> Option Value) (fa : Addr) (o : Obj) (pm cd doc : Value) (a : Addr) (vs : List Value) (ns : List Int),
   Ground q loose [] XP w s₀ mg mb s₁.heap -> YP w s₁.heap ->
   s₁.heap.get? fa = some o -> o.data = .func (docDef d.name d.params d.body d.scope pm cd doc) -> s₁.heap.CodeRec cd d.name -> mg d.name = some (.ref fa) ->
   s₁.heap.get? a = some { cls := .type "list", data := .seq vs.toArray } → IntsAre vs ns → ns.length ≤ n → (∀ x ∈ ns, intBits x ≤ 1048576) → s₁.gens = #[] →
   codeAny (model l.prog w) callerA (.call (.ref fa) ⟨[.ref a], []⟩) (fun r s' => r = .ok (.ret (.bool true)) /\ OldK s₁.heap s'.heap /\ s'.os = s₁.os /\ AllBare s'.gens) s₁) :
  WalkO q loose XP YP l.row.toRowW d [] (fun f vs => PySem.call f vs) := by
 intro w s₀ s₁ mg mb G Y fa o pm cd doc dV kV ho hd hcd hD hmg hg args vals as hpre hlay hrd hwl hlo
 obtain rfl : dV = .none := Dflts.none hD hdf
 obtain rfl : kV = .none := Dflts.noKw hD
 obtain ⟨a, vs, ns, rfl, rfl, hobj, hints, hlen⟩ := g8w hn hpre hwl
 refine enter_call (codeAny_mono (call w s₀ s₁ mg mb fa o pm cd doc a vs ns G Y ho (fd_plain hd) hcd hmg hobj hints hlen (g1m hlay) hg) fun r s' hq => ?_)
 obtain ⟨rfl, h2, h3, h4⟩ := hq
 exact ⟨.inl ⟨.bool true, .bool true, [], rfl, fun _ => rfl, .bool true, g8x l _, fun _ => ⟨List.Pairwise.nil, fun _ hm => (nomatch hm)⟩⟩, h2, h3, h4⟩
end Att
namespace L2
open PySem PySem.Spec PyProof.Rows
open PySem.Builtin.Int (intBits)
noncomputable def g1n (n : Nat) (K : PySem.W.Frag) : Sp := fun vs H Q _ => ∃ (a : Addr) (ns : List Int), vs = [.ref a] /\ SqL K H a (ns.map V.int) /\ ns.length <= n /\ (∀ x ∈ ns, intBits x <= 1048576) /\ Only H /\ ∀ H', Q (.bl true) H'
theorem h3u {l : PySem.W.OpenLaw} {k : Nat} {q : Program} {loose : List Str} {XP : (Str -> Option Value) -> Heap -> Prop} {YP : World -> Heap -> Prop} {d : DefRec} {K : Params -> PySem.W.Frag} {CX : World -> CXT} {x : Str}
  (hn : l.most = some 63) (hdf : d.params.defaults = []) (hr : a3g k callerA)
  (hY : ∀ (w : World) (h : Heap), YP w h -> (K w.params).In h)
  (F : ∀ (w : World) (mg : Str -> Option Value) (fa : Addr) (h : Heap), (K w.params).In h -> h.Ns mainGlobals mg -> mg d.name = some (.ref fa) ->
   ∃ fd : FuncData, (∀ (s : Shared) (u : Value), BindsTo s fd ⟨[u], []⟩ [(x, u)]) /\
    ∀ base : Heap, (K w.params).In base -> base.Ns mainGlobals mg -> a1o l.prog w (K w.params) mg base (CX w) k fa fd [x] (g1n 63 (K w.params)))
  (hCX : ∀ (w : World) (H : Hp) (s : Shared) (e : Value) (s' : Shared), CX w [] H s (fun _ _ _ => False) e s' -> False) :
  PySem.W.WalkO q loose XP YP l.row.toRowW d [] (fun f vs => PySem.call f vs) := by
 refine Att.f8w hn hdf fun w s₀ s₁ mg mb fa o pm cd doc a vs ns G Y ho hd hcd hmg hobj hints hlen hbits hg => ?_
 have KX := hY w _ Y
 obtain ⟨fd, hb, hF⟩ := F w mg fa _ KX G.T.g hmg
 exact h3s KX G.T.g G.T.b G.T.builtins G.T.nolimit hg hobj hints (Nat.le_trans hlen (by decide)) hr hF hb (fun H hO hS => ⟨a, ns, rfl, hS, hlen, hbits, hO, fun _ => rfl⟩) fun H e s' => hCX w H s₁ e s'
end L2
namespace L2
open PySem PySem.Spec PyProof.Rows
theorem Same.upd {H : Hp} {p : Addr} {o : HO} (h : H p = none) : Same H (upd H p o) := fun b u e => by
 rw [a4z (a5p e h)]; exact e
structure Tag {α : Type} (a : α) : Type where
noncomputable def New (H : Hp) (o : HO) (Q : VK) (_ : Tag Q) : Prop := ∀ p H1, H p = none -> Same H H1 -> H1 p = some o -> Q (.ref p) H1
noncomputable def All (C : V -> Hp -> Prop) (Q : VK) (_ : Tag C) (_ : Tag Q) : Prop := ∀ v H1, C v H1 -> Q v H1
theorem New.raw {H : Hp} {o : HO} {Q : VK} {t : Tag Q} (h : New H o Q t) : ∀ p, H p = none -> Q (.ref p) (L2.upd H p o) := fun p e => h p _ e (Same.upd e) a5n
theorem i3q {CX : CXT} {P : Program} {w : World} {K : PySem.W.Frag} {mg : Str -> Option Value} {base : Heap} {N : List Str} {qual : Str} {scope : Scope} {f : Addr} {cd : Value} {A : Around} {outer : List Env} {s : Shared} {H : Hp} {E : XK} : (h5v CX P w K mg base N qual scope f cd A outer s H E).K = K := rfl
section
variable {X : Cx} {es : List Expr} {t : TA} {pos : Pos}
noncomputable def i3r (t : TA) : TE := fun σ H Q => t σ H fun xs H1 => xs.length <= sizeLine /\ New H1 (.tup xs) Q ⟨⟩
noncomputable def i3s (t : TA) : TE := fun σ H Q => t σ H fun xs H1 => xs.length <= sizeLine /\ New H1 (.lst xs) Q ⟨⟩
end
section
variable {X : Cx} {a b c : Expr} {ta tb tc : TE} {pos : Pos}
noncomputable def i3t : R2 := fun x y H Q => match x, y with
 | .int i, .int j => Q (.int (i + j)) H
 | .str u, .str v => u.length + v.length <= sizeLine /\ Q (.str (u ++ v)) H
 | .ref l, .ref b => ∃ xs zs, H l = some (.lst xs) /\ H b = some (.lst zs) /\ xs.length + zs.length <= sizeLine /\ New H (.lst (xs ++ zs)) Q ⟨⟩
 | _, _ => False
theorem a1n : OpR X (binaryOp .Add) i3t := by
 intro pins s σ H x y v u Q I rx ry h
 cases x <;> cases y <;> first
  | exact False.elim h
  | exact i2q pins s σ H _ _ v u Q I rx ry ⟨_, _, rfl, rfl, h⟩
  | exact g5i pins s σ H _ _ v u Q I rx ry ⟨_, _, rfl, rfl, h.1, h.2⟩
  | (obtain ⟨xs, zs, h1, h2, h3, h4⟩ := h
     exact i3i pins s σ H _ _ v u Q I rx ry ⟨_, _, _, _, rfl, rfl, h1, h2, h3, h4.raw⟩)
noncomputable def i3u : R2 := fun x y H Q => match x, y with
 | .int i, .int j => IntMulOk i j /\ Q (.int (i * j)) H
 | .ref l, .int k => ∃ xs, H l = some (.lst xs) /\ -(2 ^ 63) <= k /\ k < 2 ^ 63 /\ xs.length * k.toNat <= sizeLine /\ New H (.lst (List.replicate k.toNat xs).flatten) Q ⟨⟩
 | _, _ => False
theorem a2s : OpR X (binaryOp .Mult) i3u := by
 intro pins s σ H x y v u Q I rx ry h
 cases x <;> cases y <;> first
  | exact False.elim h
  | exact h8t pins s σ H _ _ v u Q I rx ry ⟨_, _, rfl, rfl, h.1, h.2⟩
  | (obtain ⟨xs, h1, h2, h3, h4, h5⟩ := h
     exact i3j pins s σ H _ _ v u Q I rx ry ⟨_, _, _, rfl, rfl, h1, h2, h3, h4, h5.raw⟩)
noncomputable def i8d (K : PySem.W.Frag) : R2 := fun x y H Q => if g8h x y = true then Q (.bl (decide (x = y))) H else i7e K x y H Q
noncomputable def i8e (K : PySem.W.Frag) : R2 := fun x y H Q => if g8h x y = true then Q (.bl (!decide (x = y))) H else i7f K x y H Q
theorem c6q (hu : X.A.units + 64 < cLine) : OpR X (compareOp .Eq) (i8d X.K) := by
 intro pins s σ H x y v u Q I rx ry h
 unfold i8d at h
 by_cases hs : g8h x y = true
 ·rw [if_pos hs] at h
  exact i7s pins s σ H x y v u Q I rx ry ⟨hs, h⟩
 ·rw [if_neg hs] at h
  exact i3m hu pins s σ H x y v u Q I rx ry h
theorem c6r (hu : X.A.units + 64 < cLine) : OpR X (compareOp .NotEq) (i8e X.K) := by
 intro pins s σ H x y v u Q I rx ry h
 unfold i8e at h
 by_cases hs : g8h x y = true
 ·rw [if_pos hs] at h
  exact i7t pins s σ H x y v u Q I rx ry ⟨hs, h⟩
 ·rw [if_neg hs] at h
  exact i3n hu pins s σ H x y v u Q I rx ry h
noncomputable def j0r : R2 := fun x y H Q => match x, y with
 | .ref p, .int i => (match H p with
  | some (.tup xs) => ∃ v, atI xs i = some v /\ Q v H
  | some (.lst xs) => ∃ v, atI xs i = some v /\ Q v H
  | _ => False)
 | .str z, .int i => ∃ c, z.length <= sizeLine /\ atI z.cps.toList i = some c /\ Q (.str ⟨#[c]⟩) H
 | _, _ => False
theorem a5o : IxR X j0r := by
 intro value slice pins s σ H x y v u Q I rx ry h hs
 cases x with
 | ref p =>
  cases y with
  | int i =>
   have h' : (match H p with
    | some (.tup xs) => ∃ v, atI xs i = some v /\ Q v H
    | some (.lst xs) => ∃ v, atI xs i = some v /\ Q v H
    | _ => False) := h
   split at h'
   ·rename_i xs e
    obtain ⟨z, h2, h3⟩ := h'
    exact i3e value slice pins s σ H _ _ v u Q I rx ry ⟨_, xs, _, z, rfl, rfl, SqT.of e, h2, h3⟩ hs
   ·rename_i xs e
    obtain ⟨z, h2, h3⟩ := h'
    exact g8u value slice pins s σ H _ _ v u Q I rx ry ⟨_, xs, _, z, rfl, rfl, SqL.of e, h2, h3⟩ hs
   ·exact h'.elim
  | _ => exact False.elim h
 | str z =>
  cases y with
  | int i =>
   obtain ⟨c, h1, h2, h3⟩ := h
   exact i3f value slice pins s σ H _ _ v u Q I rx ry ⟨_, _, c, rfl, rfl, h1, h2, h3⟩ hs
  | _ => exact False.elim h
 | _ => exact False.elim h
noncomputable def j0s : V -> Option Int -> Option Int -> Hp -> VK -> Prop := fun x lo hi H Q => match x with
 | .ref a => (match H a with
  | some (.lst xs) => New H (.lst (d9q xs lo hi)) Q ⟨⟩
  | _ => False)
 | _ => False
theorem sl_M : SlR X j0s := by
 intro pins s σ H x v vl vu lo hi sl Q I rx hs pl pu h
 cases x with
 | ref a =>
  have h' : (match H a with
   | some (.lst xs) => New H (.lst (d9q xs lo hi)) Q ⟨⟩
   | _ => False) := h
  split at h'
  ·rename_i xs e
   exact g1j pins s σ H _ v vl vu lo hi sl Q I rx hs pl pu ⟨_, xs, rfl, SqL.of e, h'.raw⟩
  ·exact h'.elim
 | _ => exact False.elim h
noncomputable def rSlK (K : PySem.W.Frag) : V -> Option Int -> Option Int -> Hp -> VK -> Prop := fun x lo hi H Q => ∃ a xs, x = .ref a /\ SqL K H a xs /\ New H (.lst (d9q xs lo hi)) Q ⟨⟩
theorem sl_K : SlR X (rSlK X.K) := by
 intro pins s σ H x v vl vu lo hi sl Q I rx hs pl pu h
 obtain ⟨a, xs, e, h1, h2⟩ := h
 exact g1j pins s σ H _ v vl vu lo hi sl Q I rx hs pl pu ⟨a, xs, e, h1, h2.raw⟩
noncomputable def i3v : List V -> Hp -> VK -> Prop := fun xs H Q => match xs with
 | [.ref p] => (match H p with
  | some (.lst ys) => Q (.int ys.length) H
  | some (.tup ys) => Q (.int ys.length) H
  | _ => False)
 | [.str z] => z.length <= sizeLine /\ Q (.int z.length) H
 | _ => False
theorem a3q : b2p X (.builtin "len") i3v := by
 intro pins s σ H xs us Q I r h
 match xs, r, h with
 | [.ref p], r, h =>
  have h' : (match H p with
   | some (.lst ys) => Q (.int ys.length) H
   | some (.tup ys) => Q (.int ys.length) H
   | _ => False) := h
  split at h'
  ·rename_i ys e
   exact c7m pins s σ H _ us Q I r ⟨p, ys, rfl, .inl (SqL.of e), h'⟩
  ·rename_i ys e
   exact c7m pins s σ H _ us Q I r ⟨p, ys, rfl, .inr (SqT.of e), h'⟩
  ·exact h'.elim
 | [.str z], r, h => exact f8s pins s σ H _ us Q I r ⟨z, rfl, h.1, h.2⟩
theorem g9d : b2p X (.builtin "len") (fun xs H Q => ∃ p ys, xs = [.ref p] ∧ SqL X.K H p ys ∧ Q (.int ys.length) H) := by
 intro pins s σ H xs us Q I r h
 obtain ⟨p, ys, e, h1, h2⟩ := h
 exact c7m pins s σ H _ us Q I r ⟨p, ys, e, .inl h1, h2⟩
theorem h8v {i j : Int} : g8h (.int i) (.int j) = true := rfl
theorem h8w {i j : Str} : g8h (.str i) (.str j) = true := rfl
theorem h8x {i j : Bool} : g8h (.bl i) (.bl j) = true := rfl
theorem h8y : g8h .non .non = true := rfl
theorem h8z {i j : Addr} : g8h (.ref i) (.ref j) = false := rfl
theorem i3w {H : Hp} {i : Int} : h5y H (.int i) = some .int := rfl
theorem i3x {H : Hp} {i : Str} : h5y H (.str i) = some .str := rfl
theorem i3y {H : Hp} {i : Bool} : h5y H (.bl i) = some .bl := rfl
theorem i3z {H : Hp} : h5y H .non = some .non := rfl
theorem i4a {H : Hp} {a : Addr} : h5y H (.ref a) = (match H a with
  | some (.lst _) => some .lst
  | some (.frz _ (.lst _)) => some .lst
  | some (.tup _) => some .tup
  | some (.dK _) => some .dct
  | some (.dT _) => some .dct
  | _ => none) := rfl
theorem two_line : 2 <= sizeLine := by decide
theorem h6a {α : Type} {x : α} {xs : List α} : atI (x :: xs) 0 = some x := d2n (j := 0) rfl
theorem h6b {α : Type} {x y : α} {xs : List α} : atI (x :: y :: xs) 1 = some y := d2n (j := 1) rfl
theorem h6c {α : Type} {x y z : α} {xs : List α} : atI (x :: y :: z :: xs) 2 = some z := d2n (j := 2) rfl
theorem h6d {α : Type} {x y z u : α} {xs : List α} : atI (x :: y :: z :: u :: xs) 3 = some u := d2n (j := 3) rfl
theorem f8y {p q A B : Prop} [Decidable p] [Decidable q] : (if p then (if q then A else B) else B) = (if p /\ q then A else B) := by
 by_cases hp : p <;> by_cases hq : q <;> simp [hp, hq]
theorem g1o {p q A B : Prop} [Decidable p] [Decidable q] : (if p then A else (if q then A else B)) = (if p \/ q then A else B) := by
 by_cases hp : p <;> by_cases hq : q <;> simp [hp, hq]
end
section
variable {X : Cx} {es : List Expr} {t : TA} {pos : Pos}
noncomputable def MonoA (t : TA) : Prop := ∀ σ H (Q Q' : List V -> Hp -> Prop), (∀ v H1, Q v H1 -> Q' v H1) -> t σ H Q -> t σ H Q'
theorem PA.weak {t : TA} (h : PA X es t) {u : TA} (q : ∀ σ H (Q : List V -> Hp -> Prop), u σ H Q -> t σ H Q) : PA X es u := fun pos pins s σ H Q I hu => h pos pins s σ H Q I (q σ H Q hu)
theorem b0o {x1} (h : PA X es t) : PE X (.Tuple es x1 pos) (i3r t) := by
 intro pins s σ H Q I hq
 refine wpAny_Tuple_spliced (thn (h pos pins s σ H _ I hq) fun us s1 ⟨xs, H1, I1, r, z, q⟩ => ⟨by rw [<- r.length]; exact z, ?_⟩)
 have hf : H1 s1.heap.objs.size = none := I1.hok.fresh (Nat.le_refl _)
 refine ⟨.ref s1.heap.objs.size, upd H1 s1.heap.objs.size (.tup xs), I1.laid (t' := s1.toks) (fun b u e => Heap.get?_push_of_some _ e) (Nat.le_refl _) ?_, rfl, q.raw _ hf⟩
 exact ⟨z, us, r, ⟨_, Heap.get?_push_size _ rfl, rfl, _, rfl⟩⟩
theorem b3v (h : PA X es t) : PE X (.List es pos) (i3s t) := by
 intro pins s σ H Q I hq
 refine wpAny_List_spliced (thn (h pos pins s σ H _ I hq) fun us s1 ⟨xs, H1, I1, r, z, q⟩ => ⟨by rw [<- r.length]; exact z, ?_⟩)
 have hf : H1 s1.heap.objs.size = none := I1.hok.fresh (Nat.le_refl _)
 refine ⟨.ref s1.heap.objs.size, upd H1 s1.heap.objs.size (.lst xs), I1.laid (t' := s1.toks) (fun b u e => Heap.get?_push_of_some _ e) (Nat.le_refl _) ?_, rfl, q.raw _ hf⟩
 exact ⟨z, us, 0, r, Heap.get?_push_size _ rfl⟩
theorem g5q : b2p X (.type "list") (fun xs H Q => ∃ p ys, xs = [.ref p] ∧ (SqL X.K H p ys ∨ SqT X.K H p ys) ∧ New H (.lst ys) Q ⟨⟩) := by
 intro pins s σ H xs us Q I r h
 obtain ⟨p, ys, e, h1, h2⟩ := h
 exact f8t pins s σ H xs us Q I r ⟨p, ys, e, h1, h2.raw⟩
end
theorem Same.tup {K : PySem.W.Frag} {H H' : Hp} {a : Addr} {xs : List V} (e : Same H H') (h : SqT K H a xs) : SqT K H' a xs := by
 rcases h with (h | ⟨o, h⟩) | h
 ·exact .inl (.inl (e _ _ h))
 ·exact .inl (.inr ⟨o, e _ _ h⟩)
 ·exact .inr h
end L2
namespace L2
open PySem PySem.Spec PyProof.Rows
open PySem.Builtin.Int (intBits)
section
variable {X : Cx} {e a b c : Expr} {es rest : List Expr} {pos : Pos} {tg iter : Expr}
theorem PE.weak {t u : TE} (h : PE X e t) (q : ∀ σ H Q, u σ H Q -> t σ H Q) : PE X e u := fun pins s σ H Q I hu => h pins s σ H Q I (q σ H Q hu)
theorem PT.weak {t u : TT} (h : PT X e t) (q : ∀ σ H Q, u σ H Q -> t σ H Q) : PT X e u := fun pins s σ H Q I hu => h pins s σ H Q I (q σ H Q hu)
theorem PI.weak {t u : TI} (h : PI X tg iter t) (q : ∀ σ H Q, u σ H Q -> t σ H Q) : PI X tg iter u := fun pins s σ H Q I hu => h pins s σ H Q I (q σ H Q hu)
theorem OpR.weak {f : Value -> Value -> Sem Value} {r r' : R2} (h : OpR X f r) (q : ∀ x y H Q, r' x y H Q -> r x y H Q) : OpR X f r' := fun pins s σ H x y v u Q I rx ry hr => h pins s σ H x y v u Q I rx ry (q x y H Q hr)
theorem UnR.weak {f : Value -> Sem Value} {r r' : V -> Hp -> VK -> Prop} (h : UnR X f r) (q : ∀ x H Q, r' x H Q -> r x H Q) : UnR X f r' := fun pins s σ H x v Q I rx hr => h pins s σ H x v Q I rx (q x H Q hr)
theorem b2p.weak {f : Value} {r r' : List V -> Hp -> VK -> Prop} (h : b2p X f r) (q : ∀ xs H Q, r' xs H Q -> r xs H Q) : b2p X f r' := fun pins s σ H xs us Q I rx hr => h pins s σ H xs us Q I rx (q xs H Q hr)
theorem IxR.weak {r r' : R2} (h : IxR X r) (q : ∀ x y H Q, r' x y H Q -> r x y H Q) : IxR X r' := fun value slice pins s σ H x y v u Q I rx ry hr hs => h value slice pins s σ H x y v u Q I rx ry (q x y H Q hr) hs
noncomputable def a6k (i : Nat) : TE := fun σ H Q => match σ[i]? with
 | some (some v) => Q v H
 | _ => False
theorem pvF (i : Nat) {x : Str} {pos : Pos} (hN : X.N[i]? = some x := by rfl) (hv : Vis X.env.scope x := by first | exact Or.inl rfl | exact Or.inr (Or.inl rfl) | exact Or.inr (Or.inr rfl)) (hd : (x == ("__debug__" : Str)) = false := by decide)
  (hcd : (x == ("__classdict__" : Str)) = false := by decide) : PE X (.Name x pos) (a6k i) := (i2c hN hv hd hcd).weak fun σ H Q h => by
 unfold a6k at h
 split at h
 ·rename_i v e
  exact ⟨v, e, h⟩
 ·exact h.elim
noncomputable def rIF (C : Int -> Int -> Prop) (g : Int -> Int -> V) : R2 := fun x y H Q => match x, y with
 | .int i, .int j => C i j /\ Q (g i j) H
 | _, _ => False
noncomputable def h9a (g : Int -> Int -> V) : R2 := fun x y H Q => match x, y with
 | .int i, .int j => Q (g i j) H
 | _, _ => False
theorem g9e {C : Int -> Int -> Prop} {g : Int -> Int -> V} : ∀ x y H Q, rIF C g x y H Q -> rI C g x y H Q := fun x y H Q h => by
 cases x <;> cases y <;> first | exact False.elim h | exact ⟨_, _, rfl, rfl, h⟩
theorem f0t {g : Int -> Int -> V} : ∀ x y H Q, h9a g x y H Q -> rI0 g x y H Q := fun x y H Q h => by
 cases x <;> cases y <;> first | exact False.elim h | exact ⟨_, _, rfl, rfl, h⟩
theorem c7n : OpR X (binaryOp .Sub) (h9a fun i j => .int (i - j)) := i2r.weak f0t
theorem a6o : OpR X (binaryOp .FloorDiv) (rIF CFd fun i j => .int (i.fdiv j)) := h3t.weak g9e
theorem b2r : OpR X (binaryOp .Mod) (rIF (fun _ j => j ≠ 0) fun i j => .int (i.fmod j)) := h8j.weak g9e
theorem d8l : OpR X (binaryOp .Pow) (rIF i7r fun i j => .int (i ^ j.toNat)) := i2s.weak g9e
theorem of_lt : OpR X (compareOp .Lt) (h9a fun i j => .bl (decide (i < j))) := i7u.weak f0t
theorem of_le : OpR X (compareOp .LtE) (h9a fun i j => .bl (decide (i <= j))) := i7v.weak f0t
theorem g1p : OpR X (compareOp .Gt) (h9a fun i j => .bl (decide (j < i))) := i7w.weak f0t
theorem h3v : OpR X (compareOp .GtE) (h9a fun i j => .bl (decide (j <= i))) := i7x.weak f0t
noncomputable def rUF (g : Int -> V) : V -> Hp -> VK -> Prop := fun x H Q => match x with
 | .int i => Q (g i) H
 | _ => False
theorem f8z : UnR X (unaryOp .USub) (rUF fun i => .int (-i)) := i2t.weak fun x H Q h => by
 cases x <;> first | exact False.elim h | exact ⟨_, rfl, h⟩
noncomputable def tBF (t : TE) : TT := fun σ H Q => t σ H fun x H1 => match x with
 | .bl k => Q k H1
 | _ => False
theorem a1v {op : CmpOp} {r : R2} {ta tb : TE} (ho : OpR X (compareOp op) r) (ha : PE X a ta) (hb : PE X b tb) (hm : behindInMarks op b = false) : PT X (.Compare a [op] [b] pos) (tBF (tOp r ta tb)) := by
 intro pins s σ H Q I h
 refine (h8k (ho.weak (r' := fun x y H Q => r x y H Q) fun _ _ _ _ z => z) ha hb hm) pins s σ H _ I ?_
 unfold i2v
 exact h |> fun h => by
  unfold tBF at h
  have e : (fun (x : V) (H1 : Hp) => match x with | .bl k => Q k H1 | _ => False) = fun x H1 => ∃ k, x = V.bl k /\ Q k H1 := by
   funext x H1
   cases x <;> simp
  rw [e] at h
  exact h
theorem c1u {t : TE} (h : PE X e t) (he : ∀ whole, isTrue e X.env whole = (do let v <- whole; standAt e.pos; holding [v] (truthy v)) := by intro _; rfl) : PT X e (tBF t) := by
 intro pins s σ H Q I hw
 refine (i2d h he) pins s σ H _ I ?_
 unfold tB
 unfold tBF at hw
 have e : (fun (x : V) (H1 : Hp) => match x with | .bl k => Q k H1 | _ => False) = fun x H1 => ∃ k, x = V.bl k /\ Q k H1 := by
  funext x H1
  cases x <;> simp
 rw [e] at hw
 exact hw
noncomputable def h9b (ta tb : TE) : TE := fun σ H Q => ta σ H fun x H1 => match x with
 | .bl c => if c = true then tb σ H1 Q else Q (.bl false) H1
 | _ => False
noncomputable def tOrF (ta tb : TE) : TE := fun σ H Q => ta σ H fun x H1 => match x with
 | .bl c => if c = true then Q (.bl true) H1 else tb σ H1 Q
 | _ => False
noncomputable def h9c (ta : TE) : TE := fun σ H Q => ta σ H fun x H1 => match x with
 | .bl c => Q (.bl (!c)) H1
 | _ => False
theorem h9d {ta tb : TE} (ha : PE X a ta) (hb : PE X (.BoolOp .And (b :: rest) pos) tb) : PE X (.BoolOp .And (a :: b :: rest) pos) (h9b ta tb) := by
 intro pins s σ H Q I h
 refine (i2h ha hb) pins s σ H Q I ?_
 unfold i2e
 unfold h9b at h
 have e : (fun (x : V) (H1 : Hp) => match x with | .bl c => (if c = true then tb σ H1 Q else Q (.bl false) H1) | _ => False) = fun x H1 => ∃ c, x = V.bl c /\ if c = true then tb σ H1 Q else Q (.bl false) H1 := by
  funext x H1
  cases x <;> simp
 rw [e] at h
 exact h
theorem h9e {ta : TE} (ha : PE X a ta) : PE X (.UnaryOp .Not a pos) (h9c ta) := by
 intro pins s σ H Q I h
 refine (i2i ha) pins s σ H Q I ?_
 unfold i2f
 unfold h9c at h
 have e : (fun (x : V) (H1 : Hp) => match x with | .bl c => Q (.bl (!c)) H1 | _ => False) = fun x H1 => ∃ c, x = V.bl c /\ Q (.bl (!c)) H1 := by
  funext x H1
  cases x <;> simp
 rw [e] at h
 exact h
noncomputable def g9f (ta : TA) : TI := fun σ H R => ta σ H fun vs H1 => match vs with
 | [.int j] => -(2 ^ 62) <= j /\ j < 2 ^ 62 /\ R (Itr 0 j.toNat) H1
 | _ => False
noncomputable def g9g (ta : TA) : TI := fun σ H R => ta σ H fun vs H1 => match vs with
 | [.int i, .int j] => (-(2 ^ 62) <= i /\ i < 2 ^ 62 /\ -(2 ^ 62) <= j /\ j < 2 ^ 62) /\ R (Itr i (j - i).toNat) H1
 | _ => False
noncomputable def i4b (ta : TA) : TI := fun σ H R => ta σ H fun vs H1 => match vs with
 | [.int i, .int j, .int c] => (0 <= i /\ i < 2 ^ 32 /\ 0 <= j /\ j < 2 ^ 32 /\ 0 < c /\ c < 2 ^ 30) /\ R (j0q i c (i7g i j c)) H1
 | _ => False
theorem c2s {ta : TA} {p pos : Pos} (hg : Gl X "range") (hm : X.mg "range" = none) (ha : PA X [a] ta) (hs : starEach [a] X.env = [(false, eval a X.env)] := by rfl) : PI X tg (.Call (.Name "range" p) [a] [] pos) (g9f ta) := by
 refine (g8c hg hm ha hs).weak fun σ H R h => ?_
 unfold i2n
 unfold g9f at h
 have e : (fun (vs : List V) (H1 : Hp) => (match vs with | [.int j] => -(2 ^ 62) <= j /\ j < 2 ^ 62 /\ R (Itr 0 j.toNat) H1 | _ => False : Prop)) = fun vs H1 => ∃ j : Int, vs = [.int j] /\ -(2 ^ 62) <= j /\ j < 2 ^ 62 /\ R (Itr 0 j.toNat) H1 := by
  funext vs H1
  refine propext ⟨fun z => ?_, fun ⟨j, e, z⟩ => by subst e; exact z⟩
  match vs, z with
  | [.int j], z => exact ⟨j, rfl, z⟩
 rw [e] at h
 exact h
theorem g5r {ta : TA} {p pos : Pos} (hg : Gl X "range") (hm : X.mg "range" = none) (ha : PA X [a, b] ta) (hs : starEach [a, b] X.env = [(false, eval a X.env), (false, eval b X.env)] := by rfl) (hs2 : starEach [b] X.env = [(false, eval b X.env)] := by rfl) :
  PI X tg (.Call (.Name "range" p) [a, b] [] pos) (g9g ta) := by
 refine (g8d hg hm ha hs hs2).weak fun σ H R h => ?_
 unfold i2o
 unfold g9g at h
 have e : (fun (vs : List V) (H1 : Hp) => match vs with | [.int i, .int j] => (-(2 ^ 62) <= i /\ i < 2 ^ 62 /\ -(2 ^ 62) <= j /\ j < 2 ^ 62) /\ R (Itr i (j - i).toNat) H1 | _ => False) = fun vs H1 => ∃ i j : Int, vs = [.int i, .int j] /\ (-(2 ^ 62) <= i /\ i < 2 ^ 62 /\ -(2 ^ 62) <= j /\ j < 2 ^ 62) /\ R (Itr i (j - i).toNat) H1 := by
  funext vs H1
  refine propext ⟨fun z => ?_, fun ⟨i, j, e, z⟩ => by subst e; exact z⟩
  match vs, z with
  | [.int i, .int j], z => exact ⟨i, j, rfl, z⟩
 rw [e] at h
 exact h
noncomputable def g9h (K : PySem.W.Frag) (tl : TE) : TI := fun σ H R => tl σ H fun x H1 => match x with
 | .ref a => (∃ xs, SqL K H1 a xs) /\ R (Itl K a) H1
 | _ => False
theorem b5k {l : Expr} {tl : TE} (hl : PE X l tl) : PI X tg l (g9h X.K tl) := (h8i hl).weak fun σ H R h => by
 unfold i2m
 unfold g9h at h
 have e : (fun (x : V) (H1 : Hp) => match x with | .ref a => (∃ xs, SqL X.K H1 a xs) /\ R (Itl X.K a) H1 | _ => False) = fun x H1 => ∃ a, x = .ref a /\ (∃ xs, SqL X.K H1 a xs) /\ R (Itl X.K a) H1 := by
  funext x H1
  cases x <;> simp
 rw [e] at h
 exact h
noncomputable def i4c (K : PySem.W.Frag) : R2 := fun x y H Q => match x, y with
 | .ref p, .int i => ∃ ns : List Int, SqL K H p (ns.map V.int) /\ 0 <= i /\ i < ns.length /\ Q (.int (ns.getD i.toNat 0)) H
 | _, _ => False
theorem h3w {ns : List Int} {i : Int} (h0 : 0 <= i) (h1 : i < ns.length) : atI (ns.map V.int) i = some (.int (ns.getD i.toNat 0)) := by
 obtain ⟨j, rfl⟩ := Int.eq_ofNat_of_zero_le h0
 refine d2n ?_
 have hj : j < ns.length := by omega
 rw [List.getElem?_map, List.getElem?_eq_getElem hj, List.getD_eq_getElem?_getD, Int.toNat_natCast, List.getElem?_eq_getElem hj]
 rfl
theorem ix_S : IxR X (i4c X.K) := g8u.weak fun x y H Q h => by
 cases x with
 | ref p =>
  cases y with
  | int i =>
   obtain ⟨ns, h1, h2, h3, h4⟩ := h
   exact ⟨p, _, i, _, rfl, rfl, h1, h3w h2 h3, h4⟩
  | _ => exact False.elim h
 | _ => exact False.elim h
noncomputable def i4d (K : PySem.W.Frag) : List V -> Hp -> VK -> Prop := fun xs H Q => match xs with
 | [.ref p] => ∃ ys, SqL K H p ys /\ Q (.int ys.length) H
 | _ => False
theorem g5s : b2p X (.builtin "len") (i4d X.K) := g9d.weak fun xs H Q h => by
 match xs, h with
 | [.ref p], ⟨ys, h1, h2⟩ => exact ⟨p, ys, rfl, h1, h2⟩
noncomputable def i4e (K : PySem.W.Frag) : V -> Option Int -> Option Int -> Hp -> VK -> Prop := fun x lo hi H Q => match x with
 | .ref a => ∃ xs, SqL K H a xs /\ New H (.lst (d9q xs lo hi)) Q ⟨⟩
 | _ => False
theorem i8f : SlR X (i4e X.K) := by
 intro pins s σ H x v vl vu lo hi sl Q I rx hs pl pu h
 cases x <;> first
  | exact False.elim h
  | (obtain ⟨xs, h1, h2⟩ := h
     exact sl_K pins s σ H _ v vl vu lo hi sl Q I rx hs pl pu ⟨_, xs, rfl, h1, h2⟩)
noncomputable def g9i (t : TE) : TO := fun σ H Q => t σ H fun x H1 => match x with
 | .int i => Q (some i) H1
 | _ => False
theorem a5t {te : TE} (h : PE X e te) : PO X (some e) (g9i te) := by
 intro pins s σ H Q I hw
 refine (h8q h) pins s σ H Q I ?_
 unfold i3c
 unfold g9i at hw
 have e : (fun (x : V) (H1 : Hp) => match x with | .int i => Q (some i) H1 | _ => False) = fun x H1 => ∃ i, x = V.int i /\ Q (some i) H1 := by
  funext x H1
  cases x <;> simp
 rw [e] at hw
 exact hw
noncomputable def j0t : List V -> Hp -> VK -> Prop := fun xs H Q => match xs with
 | [.int i] => Q (.int i.natAbs) H
 | _ => False
theorem b8p : b2p X (.builtin "abs") j0t := h3l.weak fun xs H Q h => by
 match xs, h with
 | [.int i], h =>
  refine ⟨i, rfl, ?_⟩
  have e : (if i < 0 then -i else i) = (i.natAbs : Int) := by split <;> omega
  rw [e]
  exact h
noncomputable def j0u : List V -> Hp -> VK -> Prop := fun xs H Q => match xs with
 | [.int i, .int j] => Q (.int (min i j)) H
 | _ => False
noncomputable def j0v : List V -> Hp -> VK -> Prop := fun xs H Q => match xs with
 | [.int i, .int j] => Q (.int (max i j)) H
 | _ => False
theorem g9j (hc : X.calm = true) : b2p X (.builtin "min") j0u := (g8m hc).weak fun xs H Q h => by
 match xs, h with
 | [.int i, .int j], h =>
  refine ⟨i, j, rfl, ?_⟩
  have e : (if j < i then j else i) = min i j := by split <;> omega
  rw [e]
  exact h
theorem f9g (hc : X.calm = true) : b2p X (.builtin "max") j0v := (g8l hc).weak fun xs H Q h => by
 match xs, h with
 | [.int i, .int j], h =>
  refine ⟨i, j, rfl, ?_⟩
  have e : (if j > i then j else i) = max i j := by split <;> omega
  rw [e]
  exact h
noncomputable def h6e (K : PySem.W.Frag) : List V -> Hp -> VK -> Prop := fun xs H Q => match xs with
 | [.ref p] => (match H p with
  | some (.lst ys) => New H (.lst ys) Q ⟨⟩
  | some (.tup ys) => New H (.lst ys) Q ⟨⟩
  | _ => False)
 | _ => False
theorem a8n : b2p X (.type "list") (h6e X.K) := g5q.weak fun xs H Q h => by
 match xs, h with
 | [.ref p], h =>
  have h' : (match H p with
   | some (.lst ys) => New H (.lst ys) Q ⟨⟩
   | some (.tup ys) => New H (.lst ys) Q ⟨⟩
   | _ => False) := h
  split at h'
  ·rename_i ys e
   exact ⟨p, ys, rfl, .inl (SqL.of e), h'⟩
  ·rename_i ys e
   exact ⟨p, ys, rfl, .inr (SqT.of e), h'⟩
  ·exact h'.elim
theorem i4f {α : Type} {x : α} {xs : List α} {p : α -> Prop} : (∃ v, atI (x :: xs) 0 = some v /\ p v) = p x := by
 rw [h6a]; simp
theorem i4g {α : Type} {x y : α} {xs : List α} {p : α -> Prop} : (∃ v, atI (x :: y :: xs) 1 = some v /\ p v) = p y := by
 rw [h6b]; simp
theorem i4h {α : Type} {x y z : α} {xs : List α} {p : α -> Prop} : (∃ v, atI (x :: y :: z :: xs) 2 = some v /\ p v) = p z := by
 rw [h6c]; simp
theorem i4i {α : Type} {x y z u : α} {xs : List α} {p : α -> Prop} : (∃ v, atI (x :: y :: z :: u :: xs) 3 = some v /\ p v) = p u := by
 rw [h6d]; simp
end
end L2
namespace L2
open PySem PySem.Spec PyProof.Rows PySem.W
theorem g5t (ns : List Int) : kqdPs (ns.map Dat.int) = ns.map PyData.int := by
 induction ns with
 | nil => rfl
 | cons n ns ih => simp only [List.map_cons, kqdPs, kqdP, ih]
theorem d4v {n : Nat} {d : Dat} (h : kqdOk n d = true) (hn : n <= 64) : SeqAt.shaped (kqdP d) = true := by
 have l := kqd_lay n d h
 unfold SeqAt.shaped
 rw [l.1, Bool.true_and]
 exact decide_eq_true (Nat.le_trans l.2 hn)
theorem h6f {n k : Nat} {d e : Dat} (hd : kqdOk n d = true) (he : kqdOk k e = true) {c : Bool} (hc : c = true ↔ d = e) : PyData.eqv (kqdP d) (kqdP e) = c := by
 have q := kqd_eqv n d e k hd he
 cases c with
 | true => exact q.mpr (hc.mp rfl)
 | false => exact Bool.eq_false_iff.mpr fun z => absurd (hc.mpr (q.mp z)) Bool.false_ne_true
theorem i4j {K : PySem.W.Frag} {H : Hp} {x y : V} {d e : Dat} {n k : Nat} {c : Bool} {Q : VK} (hd : f8v K H x (kqdP d)) (he : f8v K H y (kqdP e)) (kd : kqdOk n d = true) (ke : kqdOk k e = true) (hn : n <= 64) (hk : k <= 64) (hc : c = true ↔ d = e) (q : Q (.bl c) H) : i7e K x y H Q :=
 ⟨_, _, hd, he, d4v kd hn, d4v ke hk, by rw [h6f kd ke hc]; exact q⟩
theorem i4k {K : PySem.W.Frag} {H : Hp} {x y : V} {d e : Dat} {n k : Nat} {c : Bool} {Q : VK} (hd : f8v K H x (kqdP d)) (he : f8v K H y (kqdP e)) (kd : kqdOk n d = true) (ke : kqdOk k e = true) (hn : n <= 64) (hk : k <= 64) (hc : c = true ↔ d = e) (q : Q (.bl (!c)) H) : i7f K x y H Q :=
 ⟨_, _, hd, he, d4v kd hn, d4v ke hk, by rw [h6f kd ke hc]; exact q⟩
theorem f9h {K : PySem.W.Frag} {H : Hp} : ∀ ns : List Int, d2o K H (ns.map V.int) (ns.map PyData.int)
 | [] => .nil
 | n :: ns => .cons (.int n) (f9h ns)
theorem d4w {K : PySem.W.Frag} {H : Hp} {p : Addr} {ns : List Int} (h : SqL K H p (ns.map V.int)) : f8v K H (.ref p) (kqdP (.list (ns.map .int))) := by
 rw [kqdP, g5t]
 exact .lst h (f9h ns)
theorem f0u {ns ms : List Int} : ns.map Dat.int = ms.map Dat.int ↔ ns = ms := by
 induction ns generalizing ms with
 | nil => cases ms <;> simp
 | cons n ns ih => cases ms <;> simp [ih]
theorem h9f {ns : List Int} (k : Nat) : (ns.map Dat.int).all (kqdOk k) = true := by
 induction ns with
 | nil => rfl
 | cons n ns ih => rw [List.map_cons, List.all_cons, ih, Bool.and_true]; cases k <;> rfl
theorem d9s (ns : List Int) : kqdOk 1 (.list (ns.map .int)) = true := h9f 0
theorem h3x {K : PySem.W.Frag} {H : Hp} {p q : Addr} {ns ms : List Int} {Q : VK} (hp : SqL K H p (ns.map V.int)) (hq : SqL K H q (ms.map V.int)) (h : Q (.bl (decide (ns = ms))) H) : i7e K (.ref p) (.ref q) H Q :=
 i4j (d4w hp) (d4w hq) (d9s ns) (d9s ms) (by decide) (by decide) (by rw [decide_eq_true_eq, Dat.list.injEq, f0u]) h
theorem h3y {K : PySem.W.Frag} {H : Hp} {p q : Addr} {ns ms : List Int} {Q : VK} (hp : SqL K H p (ns.map V.int)) (hq : SqL K H q (ms.map V.int)) (h : Q (.bl (!decide (ns = ms))) H) : i7f K (.ref p) (.ref q) H Q :=
 i4k (d4w hp) (d4w hq) (d9s ns) (d9s ms) (by decide) (by decide) (by rw [decide_eq_true_eq, Dat.list.injEq, f0u]) h
end L2
namespace L2
open PySem PySem.Spec PyProof.Rows
open PySem.Builtin.Int (intBits)
noncomputable def tCut (t u : TS) : TS := fun D σ H => ∃ Mid : St -> Hp -> Prop, t { D with nx := Mid } σ H /\ ∀ σ' H', Mid σ' H' -> u D σ' H'
theorem d2p {X : Cx} {st : Stmt} {rest : List Stmt} {t u : TS} (h1 : PS X st t) (h2 : PSs X rest u) : PSs X (st :: rest) (tCut t u) := by
 intro pins s σ H D I h
 obtain ⟨Mid, h, hm⟩ := h
 refine wpAny_execs_cons (thn (h1 pins s σ H { D with nx := Mid } I h) fun f s1 q => ?_)
 cases f with
 | next =>
  obtain ⟨σ', H', I', q⟩ := q
  exact h2 pins s1 σ' H' D I' (hm σ' H' q)
 | ret v => exact q
 | brk => exact q
 | cont => exact q
theorem g9k {ns : List Int} {n : Nat} (h : ∀ x ∈ ns, intBits x <= n) (k : Nat) : intBits (ns.getD k 0) <= n := by
 rw [List.getD_eq_getElem?_getD]
 cases e : ns[k]? with
 | none => exact Nat.zero_le _
 | some x => exact h x (List.mem_of_getElem? e)
end L2
namespace L2
open PySem PySem.Spec PyProof.Rows
theorem d6o {env : Env} : ∀ (names : List (Str × NameKind)) (acc : List (Str × Addr)), (∀ y, (y, NameKind.free) ∈ names -> ∃ c, env.cells.lookup y = some c) ->
  ∃ cl, (forIn names acc (fun (x : Str × NameKind) (cs : List (Str × Addr)) => (if x.2 == NameKind.free then (do let c <- cellOf env x.1; pure (ForInStep.yield ((x.1, c) :: cs))) else pure (ForInStep.yield cs) : Sem (ForInStep (List (Str × Addr)))))) = pure cl /\
   (∀ y c, cl.lookup y = some c -> acc.lookup y = some c \/ ((y, NameKind.free) ∈ names /\ env.cells.lookup y = some c)) /\
   (∀ y, (y, NameKind.free) ∈ names -> cl.lookup y = env.cells.lookup y) /\ (∀ y, (∀ k, (y, k) ∈ names -> k ≠ NameKind.free) -> cl.lookup y = acc.lookup y)
 | [], acc, _ => ⟨acc, rfl, fun y c h => .inl h, fun y h => (nomatch h), fun y _ => rfl⟩
 | (n, k) :: r, acc, h => by
  by_cases hk : k = NameKind.free
  ·subst hk
   obtain ⟨c, hc⟩ := h n List.mem_cons_self
   obtain ⟨cl, h1, h2, h3, h4⟩ := d6o r ((n, c) :: acc) fun y hy => h y (List.mem_cons_of_mem _ hy)
   have e : cellOf env n = pure c := by unfold cellOf; rw [hc]
   refine ⟨cl, ?_, fun y d hd => ?_, fun y hy => ?_, fun y hy => ?_⟩
   ·rw [List.forIn_cons]
    simp only [beq_self_eq_true, if_true, e, pure_bind]
    exact h1
   ·rcases h2 y d hd with z | ⟨z1, z2⟩
    ·rw [List.lookup_cons] at z
     by_cases hy : y = n
     ·subst hy
      simp only [beq_self_eq_true] at z
      cases z
      exact .inr ⟨List.mem_cons_self, hc⟩
     ·have : (y == n) = false := by simpa using hy
      rw [this] at z
      exact .inl z
    ·exact .inr ⟨List.mem_cons_of_mem _ z1, z2⟩
   ·by_cases hr : (y, NameKind.free) ∈ r
    ·exact h3 y hr
    ·rcases List.mem_cons.mp hy with z | z
     ·cases z
      by_cases hq : ∃ k, (n, k) ∈ r /\ k = NameKind.free
      ·obtain ⟨k, z, rfl⟩ := hq
       exact absurd z hr
      ·rw [h4 n fun k hk e => hq ⟨k, hk, e⟩, List.lookup_cons]
       simp only [beq_self_eq_true]
       exact hc.symm
     ·exact absurd z hr
   ·have hn : y ≠ n := fun e => by
     subst e
     exact hy _ List.mem_cons_self rfl
    rw [h4 y fun k hk => hy k (List.mem_cons_of_mem _ hk), List.lookup_cons]
    have : (y == n) = false := by simpa using hn
    rw [this]
  ·obtain ⟨cl, h1, h2, h3, h4⟩ := d6o r acc fun y hy => h y (List.mem_cons_of_mem _ hy)
   have hb : (k == NameKind.free) = false := by simpa using hk
   refine ⟨cl, ?_, fun y d hd => ?_, fun y hy => ?_, fun y hy => h4 y fun k hk => hy k (List.mem_cons_of_mem _ hk)⟩
   ·rw [List.forIn_cons]
    simp only [hb, Bool.false_eq_true, if_false, pure_bind]
    exact h1
   ·rcases h2 y d hd with z | ⟨z1, z2⟩
    ·exact .inl z
    ·exact .inr ⟨List.mem_cons_of_mem _ z1, z2⟩
   ·rcases List.mem_cons.mp hy with z | z
    ·cases z
     exact absurd rfl hk
    ·exact h3 y z
theorem d1h {env : Env} {sc : Scope} (h : ∀ y, (y, NameKind.free) ∈ sc.names -> ∃ c, env.cells.lookup y = some c) :
  ∃ cl, closureFor sc env = pure cl /\ (∀ y c, cl.lookup y = some c -> (y, NameKind.free) ∈ sc.names /\ env.cells.lookup y = some c) /\ (∀ y, (y, NameKind.free) ∈ sc.names -> cl.lookup y = env.cells.lookup y) := by
 obtain ⟨cl, h1, h2, h3, _⟩ := d6o (env := env) sc.names [] h
 refine ⟨cl, ?_, fun y c hy => (h2 y c hy).elim (fun z => nomatch z) id, h3⟩
 unfold closureFor
 show (forIn sc.names [] _ >>= fun cs => pure cs) = pure cl
 rw [bind_pure]
 exact h1
end L2
namespace L2
open PySem PySem.Spec PyProof.Rows
noncomputable def mask (x : Str) (N : List Str) : List Str := N.map fun y => if y = x then "" else y
noncomputable def c2t (X : Cx) (scope : Scope) (cl : List (Str × Addr)) (C : Addr) (s₃ : Shared) (H₃ : Hp) (fp : List Addr) (x : Str) : Cx where
 prog := X.prog
 w := X.w
 K := X.K
 mg := X.mg
 base := X.base
 A := X.A
 N := x :: mask x X.N
 s₀ := s₃
 H₀ := H₃
 env := compEnvC scope cl C X.env
 outer := X.stack
 stack := X.stack
 ex := fp
 fn := fun _ => false
 calm := X.calm
 pn := []
 xe := fun _ _ => False
noncomputable def a9t (D : Addr) (H H' : Hp) : Prop := ∀ b o, b ≠ D -> H b = some o -> H' b = some o
theorem a9t.upd {D : Addr} {H : Hp} {o : HO} : a9t D H (upd H D o) := fun b u hb e => by rw [a4z hb]; exact e
noncomputable def f5w (J : It) (te : TE) (D : Addr) (σ : St) (H : Hp) (Q : VK) (_ : Tag Q) : Prop := ∃ (n : Nat) (W : Nat -> List V -> Hp -> Prop), W 0 [] H /\ ∀ i ys H, i <= n -> W i ys H -> H D = some (.lst ys) /\
 ((J.stop i H /\ Q (.ref D) H) \/ (i < n /\ J.go i H /\ ys.length < sizeLine /\ ∀ x H', J.yld i H x H' -> te (some x :: σ) H' fun y H2 => H2 D = some (.lst ys) /\
  ∀ H3, a9t D H2 H3 -> H3 D = some (.lst (ys ++ [y])) -> W (i + 1) (ys ++ [y]) H3))
noncomputable def h9g (wi : TI) (te : TE) : TE := fun σ H Q => wi σ H fun J H1 => ∀ D H2, H1 D = none -> Same H1 H2 -> H2 D = some (.lst []) -> f5w J te D σ H2 Q ⟨⟩
theorem c2u {env : Env} {x : Str} : ∀ (names : List (Str × NameKind)) (k : NameKind), (names.map fun (n, k) => if (k == NameKind.free && env.scope.kind == .function && env.kindOf n == some .cell) then (n, NameKind.cell) else (n, k)).lookup x = some k ->
  (names.lookup x = some k) \/ (k = .cell /\ names.lookup x = some .free)
 | [], k, e => by cases e
 | (n, q) :: r, k, e => by
  rw [List.map_cons] at e
  dsimp only at e
  rw [List.lookup_cons]
  cases hx : (x == n) with
  | true =>
   by_cases hc : (q == NameKind.free && env.scope.kind == .function && env.kindOf n == some .cell) = true
   ·rw [if_pos hc, List.lookup_cons, hx] at e
    have : q = .free := by
     simp only [Bool.and_eq_true, beq_iff_eq] at hc
     exact hc.1.1
    subst this
    cases e
    exact .inr ⟨rfl, rfl⟩
   ·rw [if_neg hc, List.lookup_cons, hx] at e
    exact .inl e
  | false =>
   have e' : (r.map fun (n, k) => if (k == NameKind.free && env.scope.kind == .function && env.kindOf n == some .cell) then (n, NameKind.cell) else (n, k)).lookup x = some k := by
    by_cases hc : (q == NameKind.free && env.scope.kind == .function && env.kindOf n == some .cell) = true
    ·rw [if_pos hc, List.lookup_cons, hx] at e
     exact e
    ·rw [if_neg hc, List.lookup_cons, hx] at e
     exact e
   exact c2u r k e'
theorem b5l {env : Env} {sc : Scope} {x : Str} (h : (relabel sc env).names.lookup x = some .cell \/ (relabel sc env).names.lookup x = some .free) : (x, NameKind.free) ∈ sc.names \/ (x, NameKind.cell) ∈ sc.names := by
 rcases h with h | h
 ·rcases c2u sc.names _ h with z | ⟨_, z⟩
  ·exact .inr (PySem.mem_of_lookup z)
  ·exact .inl (PySem.mem_of_lookup z)
 ·rcases c2u sc.names _ h with z | ⟨z, _⟩
  ·exact .inl (PySem.mem_of_lookup z)
  ·cases z
structure c7o (X : Cx) (scope : Scope) (x : Str) : Prop where
 kind : scope.kind = .function
 f0v : ∀ y ∈ scope.names, y.2 ≠ .cell
 loc : ∀ y ∈ scope.names, y.2 = .local -> scope.names.lookup y.1 = some .local
 own : scope.names.lookup x = some .local
 free : ∀ y ∈ scope.names, y.2 = .free -> X.env.kindOf y.1 = some .cell \/ X.env.kindOf y.1 = some .free
 nd : (x :: mask x X.N).Nodup
 noe : ∀ y ∈ scope.names, y.1 ≠ ""
 vis : ∀ y ∈ mask x X.N, scope.names.lookup y ≠ some .local
section
variable {X : Cx} {scope : Scope} {x : Str} {cl : List (Str × Addr)} {pins : List (Addr × Obj)} {σ : St} {H : Hp} {s s₄ : Shared} {fp : List Addr}
theorem Inv.comp (S : c7o X scope x) (I : Inv X pins σ H s) (hcl : ∀ y c, cl.lookup y = some c -> (y, NameKind.free) ∈ scope.names /\ X.env.cells.lookup y = some c) (hcl2 : ∀ y, (y, NameKind.free) ∈ scope.names -> cl.lookup y = X.env.cells.lookup y)
  (hfp : ∀ b ∈ fp, f5q X pins H b) (hlt : ∀ b ∈ fp, b < s.heap.objs.size) {m : Str -> Option Value} (hns : s₄.heap.Ns s.heap.objs.size m) (hk : ∀ b o, s.heap.get? b = some o -> s₄.heap.get? b = some o) (hos : s₄.os = s.os) (hg : s₄.gens = s.gens) :
  Inv (c2t X scope cl s.heap.objs.size s H fp x) [] (none :: σ) H s₄ := by
 have below : ∀ {b : Addr} {o : Obj}, s.heap.get? b = some o -> b ≠ s.heap.objs.size := fun e => Nat.ne_of_lt (Heap.lt_size e)
 refine ⟨⟨I.ok.mod, ?_, I.ok.glob, I.ok.blt, Nat.le_refl _, fun y z c h1 h2 => I.ok.inj y z c (hcl y c h1).2 (hcl z c h2).2, fun y hy => ?_, (fun y c h => nomatch h), I.ok.hd, I.ok.frames, .inl rfl, fun b hb => ⟨Nat.ne_of_lt (hlt b hb), fun y c e => (hfp b hb).2.2.2.2.1 y c (hcl y c e).2⟩,
  fun b o e => I.bs b o e, Nat.le_trans I.ok.bsz I.sz, fun b o e hb => ?_, fun b hb hf => ?_, I.stack, I.g1f⟩,
  hos, by rw [hg]; exact I.bare, Un.kept hk, ⟨m, hns, fun i y v h1 h2 h3 => ?_⟩, fun y c e => ?_, I.hok.fresh (Nat.le_refl _), fun y c e => I.d4t y c (hcl y c e).2, fun p hp => absurd (show p ∈ ([] : List (Addr × Obj)) from hp) (by simp), I.hok.kept hk, by show (none :: σ).length = (x :: mask x X.N).length; rw [List.length_cons, List.length_cons, mask, List.length_map, I.len]⟩
 ·exact S.kind
 ·rcases b5l (env := X.env) (sc := scope) (x := y) hy with z | z
  ·obtain ⟨c, hc⟩ := I.ok.has y (S.free _ z rfl)
   exact ⟨c, (hcl2 y z).trans hc⟩
  ·exact absurd rfl (S.f0v _ z)
 ·rcases (hfp b hb).2.2.2.1 with z | z
  ·exact I.ok.h8h b o e z
  ·exact absurd (Nat.lt_of_lt_of_le (Heap.lt_size (I.ok.bs b o e).1) z) (Nat.lt_irrefl _)
 ·rcases List.mem_cons.mp (I.f4j b hf) with z | z
  ·exact (hfp b hb).2.1 z
  ·exact (hfp b hb).2.2.1 z
 ·cases i with
  | zero => cases h2
  | succ i =>
   have h1m : (mask x X.N)[i]? = some y := by simpa [c2t] using h1
   have h2' : σ[i]? = some (some v) := by simpa using h2
   have hyN : y ∈ mask x X.N := List.mem_of_getElem? h1m
   have hc : (relabel scope X.env).names.lookup y = some .cell \/ (relabel scope X.env).names.lookup y = some .free := by
    rcases h3 with z | z | z
    ·exfalso
     rcases c2u (env := X.env) scope.names _ z with q | ⟨q, _⟩
     ·exact S.vis y hyN q
     ·cases q
    ·exact .inl z
    ·exact .inr z
   have hfr : (y, NameKind.free) ∈ scope.names := by
    rcases b5l hc with z | z
    ·exact z
    ·exact absurd rfl (S.f0v _ z)
   have h1' : X.N[i]? = some y := by
    rw [mask, List.getElem?_map] at h1m
    obtain ⟨z, hz, e⟩ := Option.map_eq_some_iff.mp h1m
    by_cases hzx : z = x
    ·rw [if_pos hzx] at e
     exact absurd e.symm (S.noe _ hfr)
    ·rw [if_neg hzx] at e
     rw [hz, e]
   obtain ⟨mX, hnX, hl⟩ := I.loc
   have hk2 := S.free _ hfr rfl
   have i8g : Vis X.env.scope y := by
    rcases hk2 with z | z
    ·exact .inr (.inl z)
    ·exact .inr (.inr z)
   obtain ⟨u, ru, lk⟩ := hl i y v h1' h2' i8g
   refine ⟨u, ru, .inr ⟨hc, ?_⟩⟩
   rcases lk with ⟨z, _⟩ | ⟨_, c, ec, o, ho, hd⟩
   ·rcases hk2 with q | q
    ·rw [q] at z; cases z
    ·rw [q] at z; cases z
   ·exact ⟨c, (hcl2 y hfr).trans ec, o, hk c o ho, hd⟩
 ·obtain ⟨v, o, ho, hd⟩ := I.cell y c (hcl y c e).2
  exact ⟨v, o, hk c o ho, hd⟩
theorem Inv.i4l {σ' : St} {H' : Hp} {s' : Shared} {h' : Heap} (I : Inv X pins σ H s) (hfp : ∀ b ∈ fp, f5q X pins H b) (J : Inv (c2t X scope cl s.heap.objs.size s H fp x) [] σ' H' s') (hs : Heap.SameBut s.heap.objs.size s'.heap h') :
  Inv X pins σ H' { s' with heap := h' } := by
 have ne : ∀ {b : Addr} {o : Obj}, s.heap.get? b = some o -> b ≠ s.heap.objs.size := fun e => Nat.ne_of_lt (Heap.lt_size e)
 have u := J.base
 have u' : Un (frs X.stack) fp H H' s.heap h' := ⟨fun b o e n hb hx => hs.extBut b o (ne e) (u.keep b o e n hb hx), fun b o e n hb hx => (u.slot b o e n hb hx).elim fun sl q => ⟨sl, hs.extBut b _ (ne e) q⟩, u.free,
  fun b o e hx => (u.there b o e hx).elim fun o' q => ⟨o', hs.extBut b o' (ne e) q⟩, u.tups, u.g1d, u.g1e⟩
 have nC : ∀ {b : Addr} {o : HO}, H' b = some o -> b ≠ s.heap.objs.size := fun {b o} e z => by
  have f : H' s.heap.objs.size = none := J.free
  rw [z, f] at e; cases e
 have ok : HOk X.prog X.w H' h' := fun b o e => (J.hok b o e).stay (fun c v hc q => hs.extBut c v (by
  rcases hc with z | z
  ·rw [z]; exact nC e
  ·exact nC z) q) (fun _ q => q) fun _ _ q => q
 exact I.call' (s' := { s' with heap := h' }) (ch := fp) J.os u' ok J.bare fun b hb => ⟨(hfp b hb).2.2.2.1, (hfp b hb).2.1, (hfp b hb).2.2.2.2.1, (hfp b hb).2.2.2.2.2⟩
end
end L2
namespace L2
open PySem PySem.Spec PyProof.Rows
section
variable {X : Cx} {scope : Scope} {x : Str} {pins : List (Addr × Obj)} {σ : St} {elt iter : Expr} {px pos : Pos} {wi : TI} {te : TE}
theorem f4n {s₂ : Shared} {H1 : Hp} {it : Addr} {fp : List Addr} {tn : Nat -> Heap -> Prop} {J : It} {Q : VK} {RR : Value -> Addr -> Result -> Shared -> Prop} {E : Value -> Shared -> Prop} {cl : List (Str × Addr)}
  (S : c7o X scope x) (hc : X.calm = true) (he : ∀ cl C s₃ H₃ fp, PE (c2t X scope cl C s₃ H₃ fp x) elt te)
  (hcl : ∀ y c, cl.lookup y = some c -> (y, NameKind.free) ∈ scope.names /\ X.env.cells.lookup y = some c) (hcl2 : ∀ y, (y, NameKind.free) ∈ scope.names -> cl.lookup y = X.env.cells.lookup y)
  (I2 : Inv X pins σ H1 s₂) (T : Turn X.prog X.w X.K (.Name x px) J fp it tn) (st2 : tn 0 s₂.heap) (f2 : ∀ b ∈ fp, f5q X pins H1 b) (h : ∀ D H2, H1 D = none -> Same H1 H2 -> H2 D = some (.lst []) -> f5w J te D σ H2 Q ⟨⟩)
  (hRR : ∀ (D C : Addr) (s' : Shared) (H' : Hp), (∃ m, s'.heap.Ns C m) -> (∀ h' , Heap.SameBut C s'.heap h' -> Inv X pins σ H' { s' with heap := h' }) -> f5q X pins H' C -> Q (.ref D) H' -> RR (.ref D) C (.ok .next) s') :
  wpAny (model X.prog X.w) X.A (newList []) (fun acc s₃ => wpAny (model X.prog X.w) X.A (newFunctionEnv scope X.env.globals cl [] X.env.qual none .none (some X.env)) (fun cenv s₄ =>
   codeAny (model X.prog X.w) X.A (.compStart (.ListComp elt [⟨.Name x px, iter, [], 0⟩] scope pos) 0 (.ref it) acc { cenv with scope := relabel scope X.env }) (RR acc cenv.locals) s₄) E s₃) E s₂ := by
 have hfr : H1 s₂.heap.objs.size = none := I2.hok.fresh (Nat.le_refl _)
 have hCW := h s₂.heap.objs.size _ hfr (Same.upd hfr) a5n
 refine wpAny_newObj_type ?_
 have I3 : Inv X pins σ (upd H1 s₂.heap.objs.size (.lst [])) { s₂ with heap := s₂.heap.push { cls := .type "list", data := .seq ([] : List Value).toArray }, toks := s₂.toks } :=
  I2.laid (t' := s₂.toks) (fun b u e => Heap.get?_push_of_some _ e) (Nat.le_refl _) ⟨Nat.zero_le _, [], 0, .nil, Heap.get?_push_size _ rfl⟩
 have nD : ∀ b ∈ fp, b ≠ s₂.heap.objs.size := fun b hb => by
  obtain ⟨o, e, _⟩ := T.obj 0 _ st2 b hb
  exact Nat.ne_of_lt (Heap.lt_size e)
 have f3 : ∀ b ∈ fp, f5q X pins (upd H1 s₂.heap.objs.size (.lst [])) b := fun b hb => ⟨by rw [a4z (nD b hb)]; exact (f2 b hb).1, (f2 b hb).2⟩
 generalize hH3 : upd H1 s₂.heap.objs.size (.lst []) = H3 at *
 have st3 : tn 0 (s₂.heap.push { cls := .type "list", data := .seq ([] : List Value).toArray }) := T.keep _ _ _ st2 fun b _ o e => Heap.get?_push_of_some _ e
 have h9h : ∀ b ∈ fp, b < (s₂.heap.push { cls := .type "list", data := .seq ([] : List Value).toArray }).objs.size := fun b hb => by
  obtain ⟨o, e, _⟩ := T.obj 0 _ st3 b hb
  exact Heap.lt_size e
 show wpAny (model X.prog X.w) X.A (newFunctionEnv scope X.env.globals cl [] X.env.qual none .none (some X.env)) _ E { s₂ with heap := s₂.heap.push { cls := .type "list", data := .seq ([] : List Value).toArray }, toks := s₂.toks }
 generalize hs3 : ({ s₂ with heap := s₂.heap.push { cls := .type "list", data := .seq ([] : List Value).toArray }, toks := s₂.toks } : Shared) = s₃ at *
 have eh : s₃.heap = s₂.heap.push { cls := .type "list", data := .seq ([] : List Value).toArray } := by rw [← hs3]
 rw [<- eh] at st3 h9h
 generalize s₂.heap.objs.size = D at *
 refine wpAny_newFunctionEnv S.f0v (by intro y hy; simp at hy) (fun h₁ hns₁ hsb₁ => ?_) S.kind
 have hk1 : ∀ b o, s₃.heap.get? b = some o -> h₁.get? b = some o := fun b o e => hsb₁.extBut b o (Nat.ne_of_lt (Heap.lt_size e)) (Heap.get?_push_of_some _ e)
 have J0 : Inv (c2t X scope cl s₃.heap.objs.size s₃ H3 fp x) [] (none :: σ) H3 { s₃ with heap := h₁, toks := s₃.toks + ([] : List (Str × Value)).length } := I3.comp S hcl hcl2 f3 h9h hns₁ hk1 rfl rfl
 obtain ⟨n0, W, w0, turn⟩ := hCW
 have loop : codeAny (model X.prog X.w) X.A (.compLoop (.ListComp elt [⟨.Name x px, iter, [], 0⟩] scope pos) 0 (.ref it) (.ref D) (compEnvC scope cl s₃.heap.objs.size X.env)) (RR (.ref D) s₃.heap.objs.size) { s₃ with heap := h₁, toks := s₃.toks + ([] : List (Str × Value)).length } := by
  refine codeAny_loop rfl (fun n s' => ∃ i ys o H', Inv (c2t X scope cl s₃.heap.objs.size s₃ H3 fp x) [] (o :: σ) H' s' /\ tn i s'.heap /\ (∀ b ∈ fp, H' b = none) /\ W i ys H' /\ i <= n0 /\ n = n0 - i) (fun n s5 hI => ?_) n0
   ⟨0, [], none, H3, J0, T.keep _ _ _ st3 (fun b _ o e => hk1 b o e), fun b hb => (f3 b hb).1, w0, Nat.zero_le _, rfl⟩
  obtain ⟨i, ys, o5, H5, I5, st5, fr5, w5, hin, hnn⟩ := hI
  have stat : ∀ {H' : Hp}, (∀ b ∈ fp, H' b = none) -> ∀ b ∈ fp, f5q (c2t X scope cl s₃.heap.objs.size s₃ H3 fp x) [] H' b := fun hn b hb =>
   ⟨hn b hb, Nat.ne_of_lt (h9h b hb), fun z => (List.mem_cons.mp (I3.f4j b z)).elim (fun q => (f3 b hb).2.1 q) fun q => (f3 b hb).2.2.1 q, .inl hb, fun y c e => (f3 b hb).2.2.2.2.1 y c (hcl y c e).2, fun p hp => absurd (show p ∈ ([] : List (Addr × Obj)) from hp) (by simp)⟩
  show wpAny _ X.A ((compTurn (.ListComp elt [⟨.Name x px, iter, [], 0⟩] scope pos) 0 (.ref it) (.ref D) (compEnvC scope cl s₃.heap.objs.size X.env)).onRaise (fun x => do noteFrame x (compEnvC scope cl s₃.heap.objs.size X.env); theTreesLotGoes x)) _ _ s5
  refine wpAny_noted ?_
  rw [compTurn_list1]
  refine wpAny_bind (wpAny_standAt (wpAny_bind ?_))
  obtain ⟨hD5, alt⟩ := turn i ys H5 hin w5
  rcases alt with ⟨stop, q⟩ | ⟨hlt, go, hsz, step⟩
  ·refine wpAny_mono (T.done (c2t X scope cl s₃.heap.objs.size s₃ H3 fp x) rfl rfl rfl hc i [] s5 _ H5 _ I5 (stat fr5) st5 stop) (fun r s6 ⟨hr, I6⟩ => ?_) fun _ _ z => z
   subst hr
   refine wpAny_pure ?_
   obtain ⟨m6, hn6, _⟩ := I6.loc
   exact hRR D s₃.heap.objs.size s6 H5 ⟨m6, hn6⟩ (fun h' hs' => I3.i4l f3 I6 hs') (I3.h3b (Nat.le_refl _) I6.free) q
  ·refine wpAny_mono (T.item (c2t X scope cl s₃.heap.objs.size s₃ H3 fp x) rfl rfl rfl hc i [] s5 _ H5 _ I5 (stat fr5) st5 go) (fun r s6 ⟨u, hr, h6⟩ => ?_) fun _ _ z => z
   subst hr
   refine wpAny_bind (wpAny_mono h6 (fun _ s7 ⟨v, H7, I7, r7, y7, st7, fr7⟩ => ?_) fun _ _ z => z)
   have I7' := I7.pinned (stat fr7) (T.obj _ _ st7)
   have G := b2q (X := c2t X scope cl s₃.heap.objs.size s₃ H3 fp x) (pos := px) (i := 0) (x := x) S.nd rfl (.inl (lookup_relabel_local S.own)) (.inr (lookup_relabel_local S.own))
   refine wpAny_bind (wpAny_mono (G _ s7 _ H7 v u (fun σ' H' => σ' = some v :: σ /\ H' = H7) I7' r7 ⟨rfl, rfl⟩) (fun _ s8 hs8 => ?_) fun _ _ z => False.elim z)
   obtain ⟨σ8, H8, I8, rfl, rfl⟩ := hs8
   refine wpAny_bind (wpAny_bind (wpAny_mono (he cl s₃.heap.objs.size s₃ H3 fp _ s8 _ _ _ I8 (step v H8 y7)) (fun yv s9 hs9 => ?_) fun _ _ z => False.elim z))
   obtain ⟨y, H9, I9, r9, hD9, k9⟩ := hs9
   refine wpAny_bind (wpAny_mono (f0o (X := c2t X scope cl s₃.heap.objs.size s₃ H3 fp x) _ s9 _ H9 (.ref D) [y] (.ref D) [yv] (fun _ H' => H' = upd H9 D (.lst (ys ++ [y]))) I9 rfl (.cons r9 .nil) ⟨D, ys, y, rfl, rfl, hD9, hsz, rfl⟩) (fun _ sA hsA => ?_) fun _ _ z => False.elim z)
   obtain ⟨_, HA, IA, _, rfl⟩ := hsA
   refine wpAny_pure ?_
   have wA := k9 _ a9t.upd a5n
   refine wpAny_pure ⟨rfl, n0 - (i + 1), by omega, i + 1, ys ++ [y], some v, _, IA.d4u (pins := []) (pl := f4k fp s7.heap), T.keep _ _ _ st7 (fun b hb o e => (IA.pin (b, o) (List.mem_append_right _ (List.mem_append_right _ (b7s hb e)))).1), fun b hb => ?_, wA, hlt, rfl⟩
   obtain ⟨o, e, d⟩ := T.obj _ _ st7 b hb
   exact (IA.pin (b, o) (List.mem_append_right _ (List.mem_append_right _ (b7s hb e)))).2.1
 exact codeAny_compStart_list loop (T.self _ 0 _ _ _ (T.keep _ _ _ st3 fun b _ o e => hk1 b o e) loop)
theorem c4h (hi : PI X (.Name x px) iter wi) (he : ∀ cl C s₃ H₃ fp, PE (c2t X scope cl C s₃ H₃ fp x) elt te) (S : c7o X scope x) (hc : X.calm = true)
  (hs : ∀ x, foldedSetIterable iter X.env x = pure x := by intro _; rfl) : PE X (.ListComp elt [⟨.Name x px, iter, [], 0⟩] scope pos) (h9g wi te) := by
 intro pins s σ H Q I h
 obtain ⟨cl, hclos, hcl, hcl2⟩ := d1h (env := X.env) (sc := scope) fun y hy => I.ok.has y (S.free _ hy rfl)
 rw [eval_ListComp]
 refine wpAny_comprehension_free (use := none) rfl hs hclos S.kind S.loc ?_
 refine thn (hi pins s σ H _ I h) fun v s1 h1 => thn h1 fun itv s2 h2 => ?_
 obtain ⟨it, fp, tn, J, H2, e, I2, T, st2, f2, hW⟩ := h2
 subst e
 exact f4n (RR := fun acc C => compPost (model X.prog X.w) X.A X.xe none (EP X pins σ Q) acc C) S hc he hcl hcl2 I2 T st2 f2 hW fun D C s' H' hm hI _ hq =>
  hm.elim fun m hn => ⟨m, hn, fun h' hs' => ⟨.ref D, H', hI h' hs', rfl, hq⟩⟩
theorem g1q {i : Nat} {y : Str} {py spos : Pos} (hN : X.N.Nodup) (hyi : X.N[i]? = some y) (hy : X.env.scope.names.lookup y = some .local) (hi : PI X (.Name x px) iter wi) (he : ∀ cl C s₃ H₃ fp, PE (c2t X scope cl C s₃ H₃ fp x) elt te) (S : c7o X scope x) (hc : X.calm = true)
  (hsw : swapsWith (.ListComp elt [⟨.Name x px, iter, [], 0⟩] scope pos) (some (.Name y py)) spos.line X.env = pure true := by rfl)
  (hs : ∀ x, foldedSetIterable iter X.env x = pure x := by intro _; rfl) : PS X (.Assign [.Name y py] (.ListComp elt [⟨.Name x px, iter, [], 0⟩] scope pos) spos) (i6z (h9g wi te) (g7z i)) := by
 intro pins s σ H D I h
 obtain ⟨cl, hclos, hcl, hcl2⟩ := d1h (env := X.env) (sc := scope) fun y hy => I.ok.has y (S.free _ hy rfl)
 rw [exec_Assign_Name_used _ _ _ _ hsw]
 refine wpAny_bind (wpAny_standAt (wpAny_bind ?_))
 show wpAny _ X.A (do let _ <- comprehension (.ListComp elt [⟨.Name x px, iter, [], 0⟩] scope pos) scope X.env _ (newList []) false (eval iter X.env) (some (assign (.Name y py) X.env))) _ _ s
 refine wpAny_bind (wpAny_mono (wpAny_comprehension_free (use := some (assign (.Name y py) X.env)) (Q := fun _ s' => SP X pins D .next s') rfl hs hclos S.kind S.loc ?_) (fun _ s' hq => wpAny_pure (wpAny_pure hq)) fun _ _ e => e)
 refine thn (hi pins s σ H _ I h) fun v s1 h1 => thn h1 fun itv s2 h2 => ?_
 obtain ⟨it, fp, tn, J, H2, e, I2, T, st2, f2, hW⟩ := h2
 subst e
 refine f4n (Q := fun v H' => D.nx (σ.set i (some v)) H') (RR := fun acc C => compPost (model X.prog X.w) X.A X.xe (some (assign (.Name y py) X.env)) (fun _ s' => SP X pins D .next s') acc C) S hc he hcl hcl2 I2 T st2 f2 hW fun L C s' H' hm hI hfp hq => ?_
 obtain ⟨m, hn⟩ := hm
 have I' : Inv X pins σ H' s' := hI s'.heap (Heap.SameBut.refl ..)
 show wpAny _ X.A (assign (.Name y py) X.env (.ref L)) _ _ s'
 refine wpAny_assign_Name (f0g (v := .ref L) I' hN hyi (.inl hy) rfl (fun s'' I'' hsb => ?_) (.inr hy))
 obtain ⟨a, hsame, ha⟩ := hsb
 have nea : C ≠ a := by
  rcases ha with z | z
  ·rw [z]; exact hfp.2.1
  ·exact fun q => hfp.2.2.2.2.1 y a z q.symm
 refine ⟨m, hn.sameBut hsame nea, fun h' hs' => ⟨_, H', I''.turned (t' := s''.toks) (it := C) (fun b o hb e => hs'.extBut b o hb e) hfp.1 hfp.2.1 hfp.2.2.2.1 hfp.2.2.2.2.1 hfp.2.2.2.2.2, hq⟩⟩
end
theorem d6p {K : PySem.W.Frag} {a D : Addr} {xs : List V} {te : TE} {σ : St} {H : Hp} {Q : VK} (Pv : Nat -> List V -> Hp -> Prop) (h0 : Pv 0 [] H) (hsz : xs.length <= sizeLine)
  (hD : ∀ i ys H, i <= xs.length -> Pv i ys H -> H D = some (.lst ys) /\ SqL K H a xs /\ ys.length = i)
  (hs : ∀ i x ys H, xs[i]? = some x -> Pv i ys H -> te (some x :: σ) H fun y H2 => H2 D = some (.lst ys) /\ ∀ H3, a9t D H2 H3 -> H3 D = some (.lst (ys ++ [y])) -> Pv (i + 1) (ys ++ [y]) H3)
  (hd : ∀ ys H, Pv xs.length ys H -> Q (.ref D) H) : f5w (Itl K a) te D σ H Q ⟨⟩ := by
 refine ⟨xs.length, Pv, h0, fun i ys H hi p => ?_⟩
 obtain ⟨e1, e2, e3⟩ := hD i ys H hi p
 refine ⟨e1, ?_⟩
 by_cases hlt : i < xs.length
 ·refine .inr ⟨hlt, ⟨xs, xs[i], e2, by simp [hlt]⟩, by omega, fun x H' y => ?_⟩
  obtain ⟨e, y⟩ := y
  subst e
  exact hs i x ys _ (y xs e2) p
 ·have e : i = xs.length := by omega
  subst e
  exact .inl ⟨⟨xs, e2, Nat.le_refl _⟩, hd ys H p⟩
theorem g1r {D : Addr} {lo : Int} {n : Nat} {te : TE} {σ : St} {H : Hp} {Q : VK} (Pv : Nat -> List V -> Hp -> Prop) (h0 : Pv 0 [] H) (hsz : n <= sizeLine)
  (hD : ∀ i ys H, i <= n -> Pv i ys H -> H D = some (.lst ys) /\ ys.length = i)
  (hs : ∀ i ys H, i < n -> Pv i ys H -> te (some (.int (lo + i)) :: σ) H fun y H2 => H2 D = some (.lst ys) /\ ∀ H3, a9t D H2 H3 -> H3 D = some (.lst (ys ++ [y])) -> Pv (i + 1) (ys ++ [y]) H3)
  (hd : ∀ ys H, Pv n ys H -> Q (.ref D) H) : f5w (Itr lo n) te D σ H Q ⟨⟩ := by
 refine ⟨n, Pv, h0, fun i ys H hi p => ?_⟩
 obtain ⟨e1, e3⟩ := hD i ys H hi p
 refine ⟨e1, ?_⟩
 by_cases hlt : i < n
 ·refine .inr ⟨hlt, hlt, by omega, fun x H' y => ?_⟩
  obtain ⟨e, y⟩ := y
  subst e y
  exact hs i ys _ hlt p
 ·have e : i = n := by omega
  subst e
  exact .inl ⟨Nat.le_refl _, hd ys H p⟩
theorem Same.step {D : Addr} {H0 H H' : Hp} (S : Same H0 H) (n : H0 D = none) (s : a9t D H H') : Same H0 H' := fun b o e => s b o (a5p e n) (S b o e)
theorem f9i {K : PySem.W.Frag} {a D : Addr} {xs : List V} {te : TE} {σ : St} {H0 H : Hp} {Q : VK} (g : V -> V) (n0 : H0 D = none) (S : Same H0 H) (hD : H D = some (.lst [])) (hS : SqL K H0 a xs) (hsz : xs.length <= sizeLine)
  (hs : ∀ (i : Nat) x H' (Q' : VK), xs[i]? = some x -> Same H0 H' -> Q' (g x) H' -> te (some x :: σ) H' Q') (q : ∀ H', Same H0 H' -> H' D = some (.lst (xs.map g)) -> Q (.ref D) H') : f5w (Itl K a) te D σ H Q ⟨⟩ := by
 refine d6p (fun i ys H' => Same H0 H' /\ H' D = some (.lst ys) /\ ys = (xs.take i).map g) ⟨S, hD, by simp⟩ hsz (fun i ys H' hi p => ?_) (fun i x ys H' hx p => ?_) (fun ys H' p => ?_)
 ·refine ⟨p.2.1, p.1.seq hS, ?_⟩
  rw [p.2.2, List.length_map, List.length_take]
  omega
 ·refine hs i x H' _ hx p.1 ⟨p.2.1, fun H3 s3 h3 => ⟨p.1.step n0 s3, h3, ?_⟩⟩
  have hi : i < xs.length := (List.getElem?_eq_some_iff.mp hx).1
  rw [p.2.2, List.take_add_one, hx, List.map_append]
  rfl
 ·refine q H' p.1 ?_
  rw [p.2.1, p.2.2, List.take_length]
theorem d6q {D : Addr} {lo : Int} {n : Nat} {te : TE} {σ : St} {H0 H : Hp} {Q : VK} (g : Nat -> V) (n0 : H0 D = none) (S : Same H0 H) (hD : H D = some (.lst [])) (hsz : n <= sizeLine)
  (hs : ∀ (i : Nat) H' (Q' : VK), i < n -> Same H0 H' -> Q' (g i) H' -> te (some (.int (lo + i)) :: σ) H' Q') (q : ∀ H', Same H0 H' -> H' D = some (.lst ((List.range n).map g)) -> Q (.ref D) H') : f5w (Itr lo n) te D σ H Q ⟨⟩ := by
 refine g1r (fun i ys H' => Same H0 H' /\ H' D = some (.lst ys) /\ ys = (List.range i).map g) ⟨S, hD, by simp⟩ hsz (fun i ys H' hi p => ?_) (fun i ys H' hx p => ?_) (fun ys H' p => ?_)
 ·refine ⟨p.2.1, ?_⟩
  rw [p.2.2, List.length_map, List.length_range]
 ·refine hs i H' _ hx p.1 ⟨p.2.1, fun H3 s3 h3 => ⟨p.1.step n0 s3, h3, ?_⟩⟩
  rw [p.2.2, List.range_succ, List.map_append]
  rfl
 ·refine q H' p.1 ?_
  rw [p.2.1, p.2.2]
noncomputable def h6g (sc scope : Scope) (x : Str) (N : List Str) : Bool :=
 (scope.kind == .function) && scope.names.all (fun y => y.2 != .cell) && scope.names.all (fun y => y.2 != .local || scope.names.lookup y.1 == some .local) && (scope.names.lookup x == some .local) &&
 scope.names.all (fun y => y.2 != .free || (sc.names.lookup y.1 == some .cell || sc.names.lookup y.1 == some .free)) && decide ((x :: mask x N).Nodup) && scope.names.all (fun y => y.1 != "") && (mask x N).all (fun y => scope.names.lookup y != some .local)
theorem d9g {X : Cx} {sc scope : Scope} {x : Str} {N : List Str} (hsc : X.env.scope = sc) (hN : X.N = N) (h : h6g sc scope x N = true) : c7o X scope x := by
 subst hN hsc
 unfold h6g at h
 simp only [Bool.and_eq_true, List.all_eq_true, beq_iff_eq, Bool.or_eq_true, bne_iff_ne, ne_eq, decide_eq_true_eq] at h
 obtain ⟨⟨⟨⟨⟨⟨⟨h1, h2⟩, h3⟩, h4⟩, h5⟩, h6⟩, h7⟩, h8⟩ := h
 exact ⟨h1, h2, fun y hy e => (h3 y hy).resolve_left fun z => z e, h4, fun y hy e => (h5 y hy).resolve_left fun z => z e, h6, h7, h8⟩
end L2
namespace L2
open PySem PySem.Spec PyProof.Rows
noncomputable def i4m : V -> Hp -> Bool := fun x H => match x with
 | .ref l => (match H l with
  | some (.lst _) => true
  | _ => false)
 | _ => false
noncomputable def h6h : V -> Hp -> Bool := fun x _ => match x with
 | .str _ => true
 | _ => false
theorem d4y {K : PySem.W.Frag} : ∀ x H, i4m x H = true → tyV K "list" x H := fun x H h => by
 cases x with
 | ref l =>
  have h' : (match H l with
   | some (.lst _) => true
   | _ => false) = true := h
  split at h'
  ·rename_i xs e
   exact .inl ⟨rfl, xs, SqL.of e⟩
  ·cases h'
 | _ => cases h
theorem b5z {K : PySem.W.Frag} : ∀ x H, h6h x H = true → tyV K "str" x H := fun x H h => by
 cases x with
 | str z => exact rfl
 | _ => cases h
noncomputable def j0w (chk : V -> Hp -> Bool) (r : V -> List V -> Hp -> VK -> Prop) (to : TE) (t : TA) : TE := fun σ H Q => to σ H fun x H1 => chk x H1 = true /\ t σ H1 fun xs H2 => r x xs H2 Q
section
variable {X : Cx} {o e : Expr} {es : List Expr} {to : TE} {t : TA} {name : Str} {apos cpos : Pos} {T id : String} {r r' : V -> List V -> Hp -> VK -> Prop} {chk : V -> Hp -> Bool}
theorem MtR.weak (h : MtR X id r) (q : ∀ x xs H Q, r' x xs H Q -> r x xs H Q) : MtR X id r' := fun pins s σ H x xs v us Q I rx rs hr => h pins s σ H x xs v us Q I rx rs (q x xs H Q hr)
theorem c2v (hchk : ∀ x H, chk x H = true → tyV X.K T x H) (pa : PlainAttrs T) (slot : Slot T name id) (hty : typeOf (.builtin id) = pure (.type "method_descriptor")) (hm : MtR X id r) (ho : PE X o to) (ha : PA X (e :: es) t)
  (hbase : attributeBase o name X.env (eval o X.env) = eval o X.env := by rfl)
  (hfew : ((backTo cpos (starEach (e :: es) X.env)).all (fun x => !x.1) && (backToKw cpos (keywordEach [] X.env)).all (fun x => x.1.isSome)
   && decide ((e :: es).length + ([] : List Keyword).length + (if ([] : List Keyword).isEmpty then 0 else 1) < 30)) = true := by rfl)
  (hline : (apos.endLine == cpos.line) = true := by rfl) (hs : starEach (e :: es) X.env = (false, eval e X.env) :: starEach es X.env := by rfl) (hplain : (backTo cpos (starEach es X.env)).any (·.1) = false := by rfl) :
  PE X (.Call (.Attribute o name apos) (e :: es) [] cpos) (j0w chk r to t) := by
 intro pins s σ H Q I h
 refine wpAny_Call_method_late hbase hfew hline rfl (thn (ho pins s σ H _ I h) fun v s1 ⟨x, H1, I1, r1, ty, q1⟩ => ?_)
 obtain ⟨h1, h2⟩ := i3h I1 r1 (hchk x H1 ty)
 refine ⟨T, id, pa, slot, hty, h1, h2, ?_⟩
 have hA := ha cpos pins s1 σ H1 _ I1 q1
 rw [hs] at hA ⊢
 refine Calls.callWith_builtin (by show (false || (backTo cpos (starEach es X.env)).any (·.1)) = false; rw [hplain] <;> rfl) (Calls.evalArgs_plain ?_)
 exact thn hA fun us s2 ⟨vs, H2, I2, r2, q2⟩ => hm pins s2 σ H2 x vs v us Q I2 r1 r2 q2
noncomputable def i4n : V -> List V -> Hp -> VK -> Prop := fun x vs H Q => match x, vs with
 | .ref l, [y] => (match H l with
  | some (.lst xs) => xs.length < sizeLine /\ All (fun v H1 => v = .non /\ a9t l H H1 /\ H1 l = some (.lst (xs ++ [y]))) Q ⟨⟩ ⟨⟩
  | _ => False)
 | _, _ => False
theorem c2w : MtR X "list.append" i4n := MtR.weak (r := g8v) f0o fun x vs H Q h => by
 match x, vs, h with
 | .ref l, [y], h =>
  have h' : (match H l with
   | some (.lst xs) => xs.length < sizeLine /\ All (fun v H1 => v = .non /\ a9t l H H1 /\ H1 l = some (.lst (xs ++ [y]))) Q ⟨⟩ ⟨⟩
   | _ => False) := h
  split at h'
  ·rename_i xs e
   exact ⟨l, xs, y, rfl, rfl, e, h'.1, h'.2 _ _ ⟨rfl, a9t.upd, a5n⟩⟩
  ·exact h'.elim
end
noncomputable def f3o {α : Type} (xs : List α) (lo hi : Option Int) : List α := (xs.drop (HT.sIx xs.length 0 lo)).take (HT.sIx xs.length xs.length hi - HT.sIx xs.length 0 lo)
theorem h3z {α β : Type} (f : α -> β) (xs : List α) (lo hi : Option Int) : f3o (xs.map f) lo hi = (f3o xs lo hi).map f := by
 unfold f3o
 rw [List.length_map, List.map_take, List.map_drop]
theorem b8q (ns : List Int) (lo hi : Option Int) : d9q (ns.map V.int) lo hi = (f3o ns lo hi).map V.int := h3z V.int ns lo hi
theorem h4a {α : Type} {xs : List α} {lo hi : Option Int} {x : α} (h : x ∈ f3o xs lo hi) : x ∈ xs := List.mem_of_mem_drop (List.mem_of_mem_take h)
theorem h4b {α : Type} (xs : List α) (lo hi : Option Int) : (f3o xs lo hi).length <= xs.length := by
 unfold f3o
 rw [List.length_take, List.length_drop]
 omega
theorem a6p {α : Type} (xs : List α) (a : Nat) : f3o xs (some (a : Int)) none = xs.drop a := by
 unfold f3o
 rw [HT.g1h, HT.g3q]
 by_cases h : a <= xs.length
 ·rw [Nat.min_eq_left h, List.take_of_length_le (by rw [List.length_drop] <;> exact Nat.le_refl _)]
 ·rw [Nat.min_eq_right (by omega), List.drop_length, List.drop_of_length_le (by omega)]
  simp
theorem g9l {α : Type} (xs : List α) (a : Nat) : f3o xs none (some (a : Int)) = xs.take a := by
 unfold f3o
 rw [HT.g1h, HT.g3q, List.drop_zero, Nat.sub_zero]
 by_cases h : a <= xs.length
 ·rw [Nat.min_eq_left h]
 ·rw [Nat.min_eq_right (by omega), List.take_length, List.take_of_length_le (by omega)]
end L2
namespace L2
theorem g1s (F : Nat -> St -> Hp -> Prop) : ∃ Pv : Nat -> St -> Hp -> Prop, (∀ i σ H, F i σ H -> Pv i σ H) /\ ∀ i σ H, Pv i σ H -> F i σ H := ⟨F, fun _ _ _ h => h, fun _ _ _ h => h⟩
theorem i4o (F : St -> Hp -> Prop) : ∃ Pv : St -> Hp -> Prop, (∀ σ H, F σ H -> Pv σ H) /\ ∀ σ H, Pv σ H -> F σ H := ⟨F, fun _ _ h => h, fun _ _ h => h⟩
end L2
namespace L2
open PySem PySem.Spec PyProof.Rows
open PySem.Builtin.Int (intBits)
section
variable {X : Cx}
noncomputable def i8h : List V -> Hp -> VK -> Prop := fun xs H Q => match xs with
 | [.ref p] => (match H p with
  | some (.lst ys) => ∃ ns : List Int, ys = ns.map V.int /\ Q (.int ns.sum) H
  | _ => False)
 | _ => False
end
noncomputable def h6i (g : TG) (tb : TS) (D : Ends) : Nat -> Int -> St -> Hp -> Prop
 | 0, _, σ, H => D.nx σ H
 | k + 1, x, σ, H => g (.int x) σ H fun σ2 H2 => tb { D with nx := h6i g tb D k (x + 1), ct := h6i g tb D k (x + 1), bk := D.nx } σ2 H2
noncomputable def Stop (p : Prop) (_ : Tag p) : Prop := p
theorem Stop.go {p : Prop} {t : Tag p} (h : p) : Stop p t := h
noncomputable def h6j (t u : TS) : TS := fun D σ H => t { D with nx := fun σ' H' => Stop (u D σ' H') ⟨⟩ } σ H
theorem f9j {X : Cx} {st : Stmt} {rest : List Stmt} {t u : TS} (h1 : PS X st t) (h2 : PSs X rest u) : PSs X (st :: rest) (h6j t u) := a0n h1 h2
noncomputable def Hs (H : Hp) (fs : List (Addr × HO)) : Prop := (fs.map (·.1)).Nodup /\ ∀ p ∈ fs, H p.1 = some p.2
noncomputable def HsC (H : Hp) : List (Addr × HO) -> Prop
 | [] => True
 | (a, o) :: r => H a = some o ∧ HsC H r
theorem Hs.nil {H : Hp} : Hs H [] := ⟨List.nodup_nil, fun _ h => nomatch h⟩
theorem Hs.same {H H' : Hp} {fs : List (Addr × HO)} (F : Hs H fs) (S : Same H H') : Hs H' fs := ⟨F.1, fun p hp => S _ _ (F.2 p hp)⟩
theorem Hs.fresh {H : Hp} {fs : List (Addr × HO)} {a : Addr} (F : Hs H fs) (n : H a = none) : a ∉ fs.map (·.1) := fun h => by
 obtain ⟨p, hp, e⟩ := List.mem_map.mp h
 have := F.2 p hp
 rw [e, n] at this
 cases this
theorem Hs.new {H H' : Hp} {fs : List (Addr × HO)} {a : Addr} {o : HO} (F : Hs H fs) (n : H a = none) (S : Same H H') (h : H' a = some o) : Hs H' ((a, o) :: fs) := by
 refine ⟨?_, fun p hp => ?_⟩
 ·rw [List.map_cons, List.nodup_cons]
  exact ⟨F.fresh n, F.1⟩
 ·rcases List.mem_cons.mp hp with rfl | hp
  ·exact h
  ·exact S _ _ (F.2 p hp)
theorem Hs.get {H : Hp} : ∀ {fs : List (Addr × HO)}, Hs H fs -> HsC H fs
 | [], _ => trivial
 | (a, o) :: r, F => ⟨F.2 (a, o) List.mem_cons_self, Hs.get ⟨(List.nodup_cons.mp F.1).2, fun p hp => F.2 p (List.mem_cons_of_mem _ hp)⟩⟩
theorem Hs.drop {H : Hp} {l r : List (Addr × HO)} (F : Hs H (l ++ r)) : Hs H r := ⟨(List.nodup_append.mp (by rw [<- List.map_append]; exact F.1)).2.1, fun p hp => F.2 p (List.mem_append_right _ hp)⟩
theorem f5y {ns : List Int} {i : Nat} (h : i < ns.length) : atI (ns.map V.int) (i : Int) = some (.int (ns.getD i 0)) := by
 refine d2n ?_
 rw [List.getElem?_map, List.getElem?_eq_getElem h, List.getD_eq_getElem?_getD, List.getElem?_eq_getElem h]
 rfl
noncomputable def g5u (H : Hp) (cs : List Addr) (bs : List (List Int)) : Prop := cs.length = bs.length /\ ∀ (i : Nat) c b, cs[i]? = some c -> bs[i]? = some b -> H c = some (.lst (b.map V.int))
theorem g5u.same {H H' : Hp} {cs : List Addr} {bs : List (List Int)} (h : g5u H cs bs) (s : Same H H') : g5u H' cs bs := ⟨h.1, fun i c b e1 e2 => s _ _ (h.2 i c b e1 e2)⟩
theorem g5u.get {H : Hp} {cs : List Addr} {bs : List (List Int)} (h : g5u H cs bs) {i : Nat} {c : Addr} (e : cs[i]? = some c) : ∃ b, bs[i]? = some b /\ H c = some (.lst (b.map V.int)) := by
 have hi : i < cs.length := (List.getElem?_eq_some_iff.mp e).1
 have hb : i < bs.length := by rw [<- h.1]; exact hi
 exact ⟨bs[i], by simp [hb], h.2 i c _ e (by simp [hb])⟩
theorem g5u.snoc {H : Hp} {cs : List Addr} {bs : List (List Int)} {c : Addr} {b : List Int} (h : g5u H cs bs) (hc : H c = some (.lst (b.map V.int))) : g5u H (cs ++ [c]) (bs ++ [b]) := by
 refine ⟨by rw [List.length_append, List.length_append, h.1]; rfl, fun i c' b' e1 e2 => ?_⟩
 by_cases hi : i < cs.length
 ·rw [List.getElem?_append_left hi] at e1
  rw [List.getElem?_append_left (by rw [<- h.1]; exact hi)] at e2
  exact h.2 i c' b' e1 e2
 ·rw [List.getElem?_append_right (by omega)] at e1
  rw [List.getElem?_append_right (by rw [<- h.1]; omega)] at e2
  rw [<- h.1] at e2
  cases hz : i - cs.length with
  | zero =>
   rw [hz] at e1 e2
   simp at e1 e2
   subst e1 e2
   exact hc
  | succ n =>
   rw [hz] at e1
   simp at e1
theorem g5u.d1r {H H' : Hp} {x : Addr} {cs : List Addr} {bs : List (List Int)} (h : g5u H cs bs) (s : a9t x H H') (hx : x ∉ cs) : g5u H' cs bs :=
 ⟨h.1, fun i c b e1 e2 => s _ _ (fun z => hx (z ▸ List.mem_of_getElem? e1)) (h.2 i c b e1 e2)⟩
noncomputable def dB (bs : List (List Int)) : PySem.W.Dat := .list (bs.map fun b => .list (b.map .int))
theorem g5u.two {H : Hp} {a b : Addr} {x y : List Int} (ha : H a = some (.lst (x.map V.int))) (hb : H b = some (.lst (y.map V.int))) : g5u H [a, b] [x, y] := by
 refine ⟨rfl, fun i c d e1 e2 => ?_⟩
 match i, e1, e2 with
 | 0, e1, e2 => cases e1; cases e2; exact ha
 | 1, e1, e2 => cases e1; cases e2; exact hb
 | i + 2, e1, e2 => simp at e1
noncomputable def g3r (H : Hp) (xs : List V) (v : V) (H' : Hp) : Prop := ∃ b, v = .ref b /\ H b = none /\ Same H H' /\ H' b = some (.lst xs)
noncomputable def d4z (H : Hp) (xs : List V) (v : V) (H' : Hp) : Prop := ∃ b, v = .ref b /\ H b = none /\ Same H H' /\ H' b = some (.tup xs)
noncomputable def c7l (q : Rat) : List V := [.int q.num, .int (q.den : Nat)]
theorem g3s (n : Nat) (x : Int) : (List.replicate n [V.int x]).flatten = (List.replicate n x).map V.int := by
 induction n with
 | zero => rfl
 | succ n ih => rw [List.replicate_succ, List.flatten_cons, ih, List.replicate_succ, List.map_cons]; rfl
end L2
namespace L2
open PySem PySem.Spec PyProof.Rows
noncomputable def CXE (P : Program) (w : World) : CXT := fun outer H s E e s' => ∃ (a : Addr) (C a0 : Value) (B : Heap) (H' : Hp), e = .ref a /\ Heap.FlyingW B outer a C a0 s'.heap /\ s'.os = s.os /\ AllBare s'.gens /\
 (∀ h', B.StaysIn h' -> s'.heap.UpToSlots h' -> Un (frs outer) [] H H' s.heap h' /\ HOk P w H' h') /\ H' a = none /\ s.heap.get? a = none /\ E C none H'
theorem b8n.obj {P : Program} {w : World} {H : Hp} {h : Heap} {a : Addr} {o : HO} (x : b8n P w H h a o) : ∃ u, h.get? a = some u := by
 cases o with
 | lst xs => obtain ⟨_, _, _, _, e⟩ := x; exact ⟨_, e⟩
 | tup xs => obtain ⟨_, _, _, ob, e, _⟩ := x; exact ⟨_, e⟩
 | dK kvs => obtain ⟨_, _, _, _, o, _, _, e, _⟩ := x; exact ⟨_, e⟩
 | dT kvs => obtain ⟨_, _, _, _, o, _, _, e, _⟩ := x; exact ⟨_, e⟩
 | set S n => obtain ⟨o, _, _, _, e, _⟩ := x; exact ⟨_, e⟩
 | ins C dx fs => obtain ⟨_, _, _, e, _⟩ := x; exact ⟨_, e⟩
 | own y => obtain ⟨_, e⟩ := x; exact ⟨_, e⟩
 | xd fs => obtain ⟨_, ⟨_, _, _, e, _⟩, _⟩ := x; exact ⟨_, e⟩
 | rng lo hi => obtain ⟨_, _, _, e⟩ := x; exact ⟨_, e⟩
 | frz ob u => obtain ⟨e, _⟩ := x; exact ⟨_, e⟩
 | tbl ps => exact ⟨_, (show h.get? a = some _ from x)⟩
 | met f y => exact ⟨_, (show h.get? a = some _ from x)⟩
 | ext φ => obtain ⟨_, ⟨_, e⟩, _⟩ := x; exact ⟨_, e⟩
section
variable {X : Cx} {pins : List (Addr × Obj)} {σ : St} {H : Hp} {s : Shared}
theorem Inv.caught {H' : Hp} {s' : Shared} {h' : Heap} {t' : Nat} (I : Inv X pins σ H s) (os : s'.os = s.os) (bare : AllBare s'.gens) (u : Un (frs X.stack) [] H H' s.heap h') (hok : HOk X.prog X.w H' h') : Inv X pins σ H' { s' with heap := h', toks := t' } := by
 obtain ⟨hh, g, d, t, os'⟩ := s'
 obtain rfl : os' = s.os := os
 exact Inv.call (s := s) (h' := h') (g' := g) (d' := d) (t' := t') (ch := []) I u hok bare (fun b z => absurd z (by simp))
theorem Inv.track {a : Addr} {o : HO} (I : Inv X pins σ H s) (h1 : X.s₀.heap.get? a = none) (h2 : a ≠ X.env.locals) (h3 : ∀ x c, X.env.cells.lookup x = some c -> c ≠ a) (h4 : ∀ p ∈ X.pn ++ pins, p.1 ≠ a) (hH : H a = none)
  (new : b8n X.prog X.w (upd H a o) s.heap a o) : Inv X pins σ (upd H a o) s := by
 refine ⟨I.ok, I.os, I.bare, ⟨I.base.keep, I.base.slot, fun b u q n hx => ?_, I.base.there, fun b xs q => ?_, fun b u xs q => ?_, fun b ps q => ?_⟩, I.loc, I.cell, ?_, fun x c e => ?_, fun p hp => ?_, fun b u e => ?_, I.len⟩
 ·rw [a4z (fun z => by rw [z, h1] at q; cases q)]
  exact I.base.free b u q n hx
 ·have z := I.base.tups b xs q
  rw [a4z (a5p z hH)]
  exact z
 ·have z := I.base.g1d b u xs q
  rw [a4z (a5p z hH)]
  exact z
 ·obtain ⟨m, z⟩ := I.base.g1e b ps q
  exact ⟨m, by rw [a4z (a5p z hH)]; exact z⟩
 ·rw [a4z h2.symm]
  exact I.free
 ·rw [a4z (h3 x c e)]
  exact I.d4t x c e
 ·obtain ⟨e, n, ne, nf, d⟩ := I.pin p hp
  exact ⟨e, by rw [a4z (h4 p hp)]; exact n, ne, nf, d⟩
 ·by_cases hb : b = a
  ·subst hb
   rw [a5n] at e
   cases e
   exact new
  ·rw [a4z hb] at e
   exact (I.hok b u e).stay (fun _ _ _ q => q) (fun c q => by rw [a4z (a5p q hH)]; exact q) fun c xs q => by rw [a4z (a5p q hH)]; exact q
noncomputable def j0x (X : Cx) (E : XK) : Prop := ∀ (pins : List (Addr × Obj)) (σ : St) (H : Hp) (s : Shared) (e C : Addr) (args : List Value) (h' : Heap), Inv X pins σ H s -> Heap.MadeExcOf s.heap h' e (.ref C) args -> E (.ref C) none H -> X.xe (.ref e) { s with heap := h' }
end
section
variable {P : Program} {w : World} {K : PySem.W.Frag} {mg : Str -> Option Value} {base : Heap} {N : List Str} {qual : Str} {scope : Scope} {f : Addr} {cd : Value} {A : Around} {outer : List Env} {s : Shared} {H : Hp} {E : XK}
end
theorem a1o.or {P : Program} {w : World} {K : PySem.W.Frag} {mg : Str -> Option Value} {base : Heap} {k : Nat} {f : Addr} {fd : FuncData} {ps : List Str} {sp sp' : Sp} (F : a1o P w K mg base CX0 k f fd ps sp) (G : a1o P w K mg base (CXE P w) k f fd ps sp') :
  a1o P w K mg base (CXE P w) k f fd ps (fun vs H Q E => sp vs H Q E \/ sp' vs H Q E) := by
 refine ⟨fun vs H Q E h => h.elim (F.len vs H Q E) (G.len vs H Q E), fun A outer s H args us vs Q E hr e0 hb hv h => ?_⟩
 rcases h with h | h
 ·refine codeAny_mono (F.run A outer s H args us vs Q E hr e0 hb hv h) fun r s' q => ?_
  cases r with
  | error e => exact False.elim q
  | ok fl => cases fl <;> exact q
 ·exact G.run A outer s H args us vs Q E hr e0 hb hv h
noncomputable abbrev vE : List Value := [.type "ValueError", .type "Exception", .type "BaseException", .type "object"]
structure Exc (K : PySem.W.Frag) (C : Addr) : Prop where
 ok : PySem.W.excIn K C vE "ValueError.__new__" = true
section
variable {X : Cx} {e₀ : Expr} {rest : List Expr} {t : TA} {x : Str} {C : Addr} {E : XK} {np cpos pos : Pos}
noncomputable def i4p (C : Addr) (E : XK) (t : TA) : TS := fun _ σ H => t σ H fun vs H1 => vs.length <= sizeLine /\ E (.ref C) none H1
end
structure j0y (K : PySem.W.Frag) (C : Addr) : Prop where
 ga : PySem.W.findIn K (.ref C) "__getattribute__" = some (some (.builtin "BaseException.__getattribute__"))
 cl : PySem.W.findIn K (.ref C) "__class__" = some (some (.builtin "object.__class__"))
 ng : PySem.W.findIn K (.ref C) "__getattr__" = some none
 so : PySem.W.subIn K (.ref C) (.type "object") = some true
 sb : PySem.W.subIn K (.ref C) (.type "BaseException") = some true
 ty : PySem.W.typeIn K (.ref C) = some (.type "type")
 ic : PySem.W.isClsIn K C = true
 ss : PySem.W.subIn K (.ref C) (.ref C) = some true
section
variable {prog : Program} {w : World} {A : Around} {E : Value -> Shared -> Prop} {h : Heap} {g : Array GenState} {d : Drawn} {t : Nat} {os : OsState} {a C : Addr} {o : Obj} {K : PySem.W.Frag}
end
noncomputable def i8i (a : Addr) (C : Value) : HO := .ext fun h => ∃ o, h.get? a = some o /\ o.cls = C
section
variable {X : Cx}
noncomputable def rIsX (K : PySem.W.Frag) : List V -> Hp -> VK -> Prop := fun xs H Q => match xs with
 | [.non, .ref D] => (∃ b, PySem.W.kitOne K (.type "NoneType") (.ref D) = some b ∧ Q (.bl b) H)
 | [.ref a, .ref D] => ∃ C b, H a = some (i8i a (.ref C)) /\ j0y K C /\ PySem.W.kitOne K (.ref C) (.ref D) = some b /\ Q (.bl b) H
 | [.ref a, .ty n] => ∃ C b, H a = some (i8i a (.ref C)) /\ j0y K C /\ PySem.W.kitOne K (.ref C) (.type n) = some b /\ Q (.bl b) H
 | [.non, .ty n] => (∃ b, PySem.W.kitOne K (.type "NoneType") (.type n) = some b ∧ Q (.bl b) H)
 | _ => False
end
noncomputable def XPo (X : Cx) (pins : List (Addr × Obj)) (σ : St) (E : XK) (e : Value) (s' : Shared) : Prop := ∃ H1 s1, Inv X pins σ H1 s1 /\ CXE X.prog X.w X.stack H1 s1 E e s'
noncomputable def PEX (X : Cx) (e : Expr) (t : TE) (E : XK) : Prop :=
 ∀ (pins : List (Addr × Obj)) (s : Shared) (σ : St) (H : Hp) (Q : VK), Inv X pins σ H s -> t σ H Q -> wpAny (model X.prog X.w) X.A (eval e X.env) (EP X pins σ Q) (XPo X pins σ E) s
noncomputable def PSX (X : Cx) (st : Stmt) (t : TS) (E : XK) : Prop :=
 ∀ (pins : List (Addr × Obj)) (s : Shared) (σ : St) (H : Hp) (D : Ends), Inv X pins σ H s -> t D σ H -> wpAny (model X.prog X.w) X.A (exec st X.env) (SP X pins D) (XPo X pins σ E) s
section
variable {X : Cx} {k : Nat} {f C : Addr} {fd : FuncData} {ps : List Str} {sp : Sp} {dvs : List V} {ds : List Value} {E : XK} {x m : Str} {p pos apos : Pos} {e o : Expr} {es : List Expr} {ta : TE} {t : TA}
end
section
variable {X : Cx} {pins : List (Addr × Obj)} {σ : St} {H : Hp} {s : Shared}
noncomputable abbrev Cx.held (X : Cx) (e : Addr) : Cx := { X with A := X.A.mark (some (.ref e)), calm := false, xe := fun _ _ => False }
theorem Inv.held (I : Inv X pins σ H s) (e : Addr) : Inv (X.held e) pins σ H s :=
 ⟨⟨I.ok.mod, I.ok.kind, I.ok.glob, I.ok.blt, I.ok.above, I.ok.inj, I.ok.has, I.ok.cab, fun h => Bool.noConfusion h, I.ok.frames, I.ok.stk, I.ok.exf, I.ok.bs, I.ok.bsz, I.ok.h8h, I.ok.i2b, I.ok.g3l, I.ok.frf⟩, I.os, I.bare, I.base, I.loc, I.cell, I.free, I.d4t, I.pin, I.hok, I.len⟩
end
noncomputable def hAs (K : PySem.W.Frag) (D : Addr) (i : Nat) (th : TS) (Dn : Ends) (σ : St) : XK := fun C _ H' => ∃ c, C = .ref c /\ PySem.W.subIn K (.ref c) (.ref D) = some true /\
 ∀ e H2, H' e = none -> Same H' H2 -> H2 e = some (i8i e (.ref c)) -> th { nx := fun σ2 H3 => Dn.nx (σ2.set i none) H3, rt := Dn.rt, bk := fun σ2 H3 => Dn.bk (σ2.set i none) H3, ct := fun σ2 H3 => Dn.ct (σ2.set i none) H3 } (σ.set i (some (.ref e))) H2
noncomputable def i4q (K : PySem.W.Frag) (D : Addr) (i : Nat) (tb : XK -> TS) (th : TS) : TS := fun Dn σ H => tb (hAs K D i th Dn σ) Dn σ H
section
variable {X : Cx} {D : Addr} {dn n : Str} {i : Nat} {st b₀ : Stmt} {suite : List Stmt} {tb : XK -> TS} {th : TS} {np hpos pos : Pos}
end
noncomputable def i4r : TE := fun _ H Q => New H (.dK []) Q ⟨⟩
end L2
namespace L2
open PySem PySem.Spec PyProof.Rows
section
variable {X : Cx} {tg : Expr}
noncomputable def i4s (g : Str -> Str -> V) : V -> List V -> Hp -> VK -> Prop := fun x vs H Q => match x, vs with
 | .str z, [.str y] => Q (g z y) H
 | _, _ => False
theorem d5g : MtR X "str.startswith" (i4s fun z y => .bl (Txt.startswith z y)) := by
 intro pins s σ H x xs v us Q I rx rs h
 match x, xs, h with
 | .str z, [.str y], q =>
  obtain ⟨t, rfl⟩ := rx
  obtain ⟨u, rfl, t', rfl⟩ := vals1 rs
  exact call_gives F.slot_str_startswith (typeIs_str _ _ _) F.entry_str_startswith (F.args_str_startswith_2 _ _) (gives_str_startswith z y t t') ⟨.bl (Txt.startswith z y), H, I, rfl, q⟩
noncomputable def Its (x : Str) : It := ⟨fun i _ => i < x.cps.size, fun i H v H' => H' = H /\ ∃ c, x.cps[i]? = some c /\ v = .str ⟨#[c]⟩, fun i _ => i = x.cps.size⟩
theorem h4d {P : Program} {w : World} {K : PySem.W.Frag} (it : Addr) (x : Str) (t : Tok) {n : String} (hn : ["enumerate", "zip", "dict_itemiterator", "dict_reverseitemiterator", "odict_iterator", "itertools.zip_longest", "itertools.pairwise"].contains n = false)
  (W : ∀ A' : Around, A'.handled = none -> Walks P w A' it [it] [it] x.cps.size (SignAt x) (fun i h => h.IsStrIter it n x t i))
  (S : ∀ (A : Around) (i : Nat) (s : Shared) (Q : Value -> Shared -> Prop) (E : Value -> Shared -> Prop), s.heap.IsStrIter it n x t i -> Q (.ref it) s -> wpAny (model P w) A (pyIter (.ref it)) Q E s) : Turn P w K tg (Its x) [it] it (fun i h => h.IsStrIter it n x t i) where
 mem := by simp
 obj := fun i h st b hb => by
  have e : b = it := by simpa using hb
  subst e
  obtain ⟨o, e, c, d⟩ := st
  exact ⟨o, e, fun v z => by rw [d] at z; cases z⟩
 keep := fun i h h' st k => let ⟨o, ho, r⟩ := st; ⟨o, k it (by simp) o ho, r⟩
 item := by
  intro X hP hw hK hc i pins s σ H E I hf st hg
  subst hP hw hK
  obtain ⟨f0, f1, f2, f3, f4, f5⟩ := hf it (by simp)
  refine (W _ (I.ok.hd hc)).item i s _ _ hg st fun v h' tk hv st' kk => ?_
  obtain ⟨c, u, hc', rfl⟩ := hv
  have I1 : Inv X pins σ H { s with heap := h', toks := tk } := I.turned (fun b o hb e => kk b o (by simpa using hb) e) f0 f1 f3 f4 f5
  obtain ⟨o, e1, c1, d1⟩ := id st'
  exact ⟨_, rfl, h3j (s := { s with heap := h', toks := tk }) e1 c1 d1 hn ⟨.str ⟨#[c]⟩, H, I1, ⟨u, rfl⟩, ⟨rfl, c, hc', rfl⟩, st', fun b hb => (hf b hb).1⟩⟩
 done := by
  intro X hP hw hK hc i pins s σ H E I hf st hg
  subst hP hw hK
  obtain ⟨f0, f1, f2, f3, f4, f5⟩ := hf it (by simp)
  have hi : i = x.cps.size := hg
  subst hi
  exact (W _ (I.ok.hd hc)).done s _ _ st fun h' tk kk => ⟨rfl, I.turned (t' := tk) (fun b o hb e => kk b o (by simpa using hb) e) f0 f1 f3 f4 f5⟩
 self := S
noncomputable def j0z (tl : TE) : TI := fun σ H R => tl σ H fun x H1 => match x with
 | .str z => R (Its z) H1
 | _ => False
theorem i4t {l : Expr} {tl : TE} (hl : PE X l tl) : PI X tg l (j0z tl) := by
 intro pins s σ H R I h
 refine thn (hl pins s σ H _ I h) fun v s1 ⟨x, H1, I1, r1, q1⟩ => ?_
 cases x with
 | str z =>
  obtain ⟨t, rfl⟩ := r1
  have fin : ∀ (o : Obj) (n : String), ["enumerate", "zip", "dict_itemiterator", "dict_reverseitemiterator", "odict_iterator", "itertools.zip_longest", "itertools.pairwise"].contains n = false → (s1.heap.push o).IsStrIter s1.heap.objs.size n z t 0 →
    (∀ A' : Around, A'.handled = none -> Walks X.prog X.w A' s1.heap.objs.size [s1.heap.objs.size] [s1.heap.objs.size] z.cps.size (SignAt z) (fun i h => h.IsStrIter s1.heap.objs.size n z t i)) ->
    (∀ (A : Around) (i : Nat) (s : Shared) (Q : Value -> Shared -> Prop) (E : Value -> Shared -> Prop), s.heap.IsStrIter s1.heap.objs.size n z t i -> Q (.ref s1.heap.objs.size) s -> wpAny (model X.prog X.w) A (pyIter (.ref s1.heap.objs.size)) Q E s) ->
    PIE X pins σ tg R (.ref s1.heap.objs.size) { s1 with heap := s1.heap.push o } := fun o n hn st W S => by
   refine ⟨s1.heap.objs.size, [s1.heap.objs.size], _, _, H1, rfl, I1.kept (t' := s1.toks) fun b o e => Heap.get?_push_of_some _ e, h4d _ z t hn W S, st, fun b hb => ?_, q1⟩
   have e : b = s1.heap.objs.size := by simpa using hb
   subst e
   exact I1.h3b (Nat.le_refl _) (I1.hok.fresh (Nat.le_refl _))
  cases ha : z.cps.all (· < 128)
  ·exact wpAny_pyIter_wide ha (fin _ "str_iterator" (by decide) ⟨_, Heap.get?_push_size _ rfl, rfl, rfl⟩ (fun A' hA => Walks.strWide hA _ z t) fun _ _ _ _ _ st hQ => wpAny_pyIter_striter_wide st hQ)
  ·exact wpAny_pyIter_ascii ha (fin _ "str_ascii_iterator" (by decide) ⟨_, Heap.get?_push_size _ rfl, rfl, rfl⟩ (fun A' hA => Walks.strAscii hA _ z t) fun _ _ _ _ _ st hQ => wpAny_pyIter_striter_ascii st hQ)
 | _ => exact False.elim q1
theorem h4e {x : Str} {g : TG} {tb : TS} {D : Ends} {σ : St} {H : Hp} (Pv : Nat -> St -> Hp -> Prop) (h0 : Pv 0 σ H)
  (hs : ∀ i c σ H, x.cps[i]? = some c -> Pv i σ H -> g (.str ⟨#[c]⟩) σ H fun σ2 H2 => tb { D with nx := Pv (i + 1), ct := Pv (i + 1), bk := D.nx } σ2 H2) (hd : ∀ σ H, Pv x.cps.size σ H -> D.nx σ H) : i3o (Its x) g tb D σ H := by
 refine ⟨fun i m σ H => m = x.cps.size - i /\ i <= x.cps.size /\ Pv i σ H, ⟨x.cps.size, by simp, Nat.zero_le _, h0⟩, ?_⟩
 rintro i m σ H ⟨rfl, hi, p⟩
 by_cases hlt : i < x.cps.size
 ·refine .inr ⟨hlt, Pv (i + 1), fun σ' H' p' => ⟨x.cps.size - (i + 1), by omega, rfl, hlt, p'⟩, fun v H' y => ?_⟩
  obtain ⟨e, c, hc, e2⟩ := y
  subst e e2
  exact hs i c σ _ hc p
 ·have e : i = x.cps.size := by omega
  subst e
  exact .inl ⟨rfl, hd σ H p⟩
noncomputable def j1a : V -> Option Int -> Option Int -> Hp -> VK -> Prop := fun x lo hi H Q => match x with
 | .ref a => (match H a with
  | some (.lst xs) => New H (.lst (d9q xs lo hi)) Q ⟨⟩
  | _ => False)
 | .str z => z.length <= sizeLine /\ Q (.str (Txt.slice z lo hi)) H
 | _ => False
theorem g5v : SlR X j1a := by
 intro pins s σ H x v vl vu lo hi sl Q I rx hs pl pu h
 cases x with
 | ref a => exact sl_M pins s σ H _ v vl vu lo hi sl Q I rx hs pl pu h
 | str z =>
  obtain ⟨t, rfl⟩ := rx
  obtain ⟨hz, q⟩ := h
  have fin : ∀ t' k, EP X pins σ Q (.str (Txt.slice z lo hi) t') { s with toks := k } := fun t' k => ⟨.str _, H, I.tok k, ⟨_, rfl⟩, q⟩
  refine ⟨"str", _, F.slot_str_getitem.lookup, typeIs_str _ _ _, ?_⟩
  cases pl with
  | none =>
   cases pu with
   | none => exact wpAny_getItem_str_slice (l := none) (u := none) (st := none) hs rfl (post_val_or_str ⟨Nat.le_trans (Txt.slice_le z _ _) hz, fin⟩)
   | int j uj => exact wpAny_getItem_str_slice (l := none) (u := some (j, uj)) (st := none) hs rfl (post_val_or_str ⟨Nat.le_trans (Txt.slice_le z _ _) hz, fin⟩)
  | int i ui =>
   cases pu with
   | none => exact wpAny_getItem_str_slice (l := some (i, ui)) (u := none) (st := none) hs rfl (post_val_or_str ⟨Nat.le_trans (Txt.slice_le z _ _) hz, fin⟩)
   | int j uj => exact wpAny_getItem_str_slice (l := some (i, ui)) (u := some (j, uj)) (st := none) hs rfl (post_val_or_str ⟨Nat.le_trans (Txt.slice_le z _ _) hz, fin⟩)
 | _ => exact False.elim h
noncomputable def i4u : List V -> Hp -> VK -> Prop := fun xs H Q => match xs with
 | [.int i] => Q (.int i) H
 | [.bl k] => Q (.int (if k then 1 else 0)) H
 | [.str z] => ∃ n, PySem.intText? z = some n /\ z.length <= 640 /\ Q (.int n) H
 | _ => False
theorem d5h : b2p X (.type "int") i4u := by
 intro pins s σ H xs us Q I r h
 match xs, r, h with
 | [.int i], r, q => exact f8k pins s σ H _ us Q I r (.inl ⟨i, rfl, q⟩)
 | [.bl k], r, q => exact f8k pins s σ H _ us Q I r (.inr ⟨k, rfl, q⟩)
 | [.str z], r, ⟨n, hn, hl, q⟩ =>
  obtain ⟨u, rfl, t, rfl⟩ := vals1 r
  exact PySem.W.KIN.call_text hn hl ⟨.int n, H, I.tok _, ⟨_, rfl⟩, q⟩
noncomputable def i4v : List V -> Hp -> VK -> Prop := fun xs H Q => match xs with
 | [.int i] => i.natAbs.log2 < 1920 /\ Q (.str (toString i)) H
 | _ => False
theorem b8r : b2p X (.type "str") i4v := f8l.weak fun xs H Q h => by
 match xs, h with
 | [.int i], ⟨a, b⟩ => exact ⟨i, rfl, a, b⟩
noncomputable def j1b (te : TE) : TE := fun σ H Q => te σ H fun x H1 => match x with
 | .int i => i.natAbs.log2 < 1920 /\ Q (.str (toString i)) H1
 | .str y => y.length <= sizeLine /\ Q (.str y) H1
 | _ => False
theorem b6y {e : Expr} {te : TE} {pos : Pos} (he : PE X e te) : PE X (.FormattedValue e (-1) none pos) (j1b te) := by
 intro pins s σ H Q I h
 refine wpAny_FormattedValue_plain (thn (he pins s σ H _ I h) fun v s1 ⟨x, H1, I1, r1, q1⟩ => ?_)
 cases x with
 | int i =>
  obtain ⟨t, rfl⟩ := r1
  exact wpAny_formatField_int q1.1 ⟨.str (toString i), H1, I1.tok _, ⟨_, rfl⟩, q1.2⟩
 | str y =>
  obtain ⟨t, rfl⟩ := r1
  exact wpAny_formatField_str (hx := q1.1) ⟨.str y, H1, I1, ⟨_, rfl⟩, q1.2⟩ ⟨.str y, H1, I1.tok _, ⟨_, rfl⟩, q1.2⟩
 | _ => exact False.elim q1
noncomputable abbrev TJ := Str -> St -> Hp -> (Str -> Hp -> Prop) -> Prop
noncomputable def PJ (X : Cx) (es : List Expr) (t : TJ) : Prop := ∀ (pins : List (Addr × Obj)) (acc : Str) (s : Shared) (σ : St) (H : Hp) (Q : Str -> Hp -> Prop) (Q' : Str -> Shared -> Prop), Inv X pins σ H s -> t acc σ H Q -> (∀ out H1 s1, Inv X pins σ H1 s1 -> Q out H1 -> Q' out s1) ->
 Joins (model X.prog X.w) X.A X.xe (evalEach es X.env) acc Q' s
noncomputable def i4w : TJ := fun acc _ H Q => Q acc H
noncomputable def h6k (te : TE) (tr : TJ) : TJ := fun acc σ H Q => te σ H fun x H1 => match x with
 | .str y => acc.length + y.length <= sizeLine /\ tr (acc ++ y) σ H1 Q
 | _ => False
theorem d5i : PJ X [] i4w := fun pins acc s σ H Q Q' I h k => k acc H s I h
theorem a3w {e : Expr} {es : List Expr} {te : TE} {tr : TJ} (he : PE X e te) (hr : PJ X es tr) (hs : evalEach (e :: es) X.env = eval e X.env :: evalEach es X.env := by rfl) : PJ X (e :: es) (h6k te tr) := by
 intro pins acc s σ H Q Q' I h k
 rw [hs]
 refine thn (he pins s σ H _ I h) fun v s1 ⟨x, H1, I1, r1, q1⟩ => ?_
 cases x with
 | str y =>
  obtain ⟨t, rfl⟩ := r1
  exact ⟨y, t, rfl, by rw [strLen_append]; exact q1.1, hr pins (acc ++ y) s1 σ H1 Q Q' I1 q1.2 k⟩
 | _ => exact False.elim q1
noncomputable def i4x (tj : TJ) : TE := fun σ H Q => tj Str.empty σ H fun out H1 => out.length <= sizeLine /\ Q (.str out) H1
theorem b2s {e₁ e₂ : Expr} {es : List Expr} {tj : TJ} {pos : Pos} (h : PJ X (e₁ :: e₂ :: es) tj) : PE X (.JoinedStr (e₁ :: e₂ :: es) pos) (i4x tj) := by
 intro pins s σ H Q I hq
 exact wpAny_JoinedStr (h pins Str.empty s σ H _ _ I hq fun out H1 s1 I1 q => ⟨q.1, .str out, H1, I1.tok _, ⟨_, rfl⟩, q.2⟩)
noncomputable def b6g (x y : Str) : List Str := if (decide (x.length < y.length) || decide (Builtin.Str.strKind x < Builtin.Str.strKind y)) = true then [x] else if (Builtin.Str.occurrences x y 0 x.length (x.length + 1)).isEmpty = true then [x] else Builtin.Str.partsBetween x (Builtin.Str.occurrences x y 0 x.length (x.length + 1)) y.length
noncomputable def h6l : V -> List V -> Hp -> VK -> Prop := fun x vs H Q => match x, vs with
 | .str z, [.str y] => (y.length == 0) = false /\ z.length <= sizeLine /\ (b6g z y).length <= sizeLine /\ New H (.lst ((b6g z y).map V.str)) Q ⟨⟩
 | _, _ => False
theorem f9k : ∀ (l : List Str) (k : Nat), Vals (l.map V.str) (strsFrom k l)
 | [], _ => .nil
 | x :: l, k => .cons ⟨_, rfl⟩ (f9k l (k + 1))
theorem d9t : MtR X "str.split" h6l := by
 intro pins s σ H x xs v us Q I rx rs h
 match x, xs, h with
 | .str z, [.str y], ⟨hy, hz, hn, q⟩ =>
  obtain ⟨t, rfl⟩ := rx
  obtain ⟨u, rfl, t', rfl⟩ := vals1 rs
  have fr : H s.heap.objs.size = none := I.hok.fresh (Nat.le_refl _)
  have itself : b6g z y = [z] → EP X pins σ Q (.ref s.heap.objs.size) { s with heap := s.heap.push { cls := .type "list", data := .seq [Value.str z t].toArray } } := fun e => by
   rw [e] at q
   exact ⟨.ref _, _, I.laid (o := .lst ([z].map V.str)) (t' := s.toks) (fun b u e => Heap.get?_push_of_some _ e) (Nat.le_refl _) ⟨show 1 <= sizeLine by decide, [Value.str z t], 0, .cons ⟨t, rfl⟩ .nil, Heap.get?_push_size _ rfl⟩, rfl, q.raw _ fr⟩
  by_cases h1 : (decide (z.length < y.length) || decide (Builtin.Str.strKind z < Builtin.Str.strKind y)) = true
  ·exact call_meets F.slot_str_split (typeIs_str _ _ _) F.entry_str_split (F.args_str_split_2 _ _) (meets_str_split_cannot_occur z y t t' h1) (itself (by unfold b6g; rw [if_pos h1]))
  ·have h1' := Bool.eq_false_iff.mpr h1
   by_cases h2 : (Builtin.Str.occurrences z y 0 z.length (z.length + 1)).isEmpty = true
   ·exact call_meets F.slot_str_split (typeIs_str _ _ _) F.entry_str_split (F.args_str_split_2 _ _) (meets_str_split_not_found z y t t' h1' hy h2) (itself (by unfold b6g; rw [if_neg h1, if_pos h2]))
   ·have h2' := Bool.eq_false_iff.mpr h2
    have e : b6g z y = Builtin.Str.partsBetween z (Builtin.Str.occurrences z y 0 z.length (z.length + 1)) y.length := by unfold b6g; rw [if_neg h1, if_neg h2]
    refine call_meets F.slot_str_split (typeIs_str _ _ _) F.entry_str_split (F.args_str_split_2 _ _) (meets_str_split_sep z y t t' h1' hy h2' hz (by rw [<- e]; exact hn)) ?_
    rw [<- e]
    refine ⟨.ref _, _, I.laid (o := .lst ((b6g z y).map V.str)) (t' := s.toks + (b6g z y).length) (fun b u e => Heap.get?_push_of_some _ e) (Nat.le_refl _) ⟨by rw [List.length_map]; exact hn, strsFrom s.toks (b6g z y), 0, f9k _ _, Heap.get?_push_size _ rfl⟩, rfl, q.raw _ fr⟩
noncomputable def i7i (z y : Str) : Bool := !(Builtin.Str.occurrences z y 0 z.length 1).isEmpty
noncomputable def j1c (neg : Bool) : R2 := fun x y H Q => match y with
 | .str z => (match x with
  | .str y => Q (.bl (i7i z y != neg)) H
  | _ => False)
 | .ref p => (match H p with
  | some (.lst xs) => d1q x = true /\ xs.all d1q = true /\ Q (.bl (inV x xs != neg)) H
  | some (.tup xs) => d1q x = true /\ xs.all d1q = true /\ Q (.bl (inV x xs != neg)) H
  | _ => False)
 | _ => False
theorem g9m : OpR X (compareOp .NotIn) (j1c true) := by
 intro pins s σ H x y v u Q I rx ry h
 cases y with
 | str z =>
  cases x with
  | str y =>
   have h : Q (.bl (i7i z y != true)) H := h
   rw [Bool.bne_true] at h
   exact f8r pins s σ H _ _ v u Q I rx ry ⟨y, z, rfl, rfl, h⟩
  | _ => exact False.elim h
 | ref p =>
  have h : (match H p with
   | some (.lst xs) => d1q x = true /\ xs.all d1q = true /\ Q (.bl (inV x xs != true)) H
   | some (.tup xs) => d1q x = true /\ xs.all d1q = true /\ Q (.bl (inV x xs != true)) H
   | _ => False) := h
  split at h
  ·rename_i xs e
   rw [Bool.bne_true] at h
   exact d8k pins s σ H _ _ v u Q I rx ry ⟨p, xs, rfl, .inl (SqL.of e), h.1, h.2.1, by simpa using h.2.2⟩
  ·rename_i xs e
   rw [Bool.bne_true] at h
   exact d8k pins s σ H _ _ v u Q I rx ry ⟨p, xs, rfl, .inr (SqT.of e), h.1, h.2.1, by simpa using h.2.2⟩
  ·exact h.elim
 | _ => exact False.elim h
end
end L2
namespace L2
open PySem PySem.Spec PyProof.Rows
noncomputable def Wr (H : Hp) (a : Addr) (o : HO) (k : Hp -> Prop) (_ : Tag k) : Prop := ∀ H1, a9t a H H1 -> H1 a = some o -> k H1
section
variable {X : Cx} {e o value : Expr} {f m x : Str} {pos pos' apos : Pos} {ta tv : TE} {t : TA} {C : Addr} {es : List Expr}
noncomputable def h4f (K : PySem.W.Frag) (ta : TE) (f : Str) : TE := fun σ H Q => ta σ H fun x H1 => match x with
 | .ref a => (match H1 a with
  | some (.ins C dx fs) => Cls K C /\ a7m K C f /\ (match fs.lookup f with
   | some v => Q v H1
   | none => False)
  | _ => False)
 | _ => False
theorem a1z (he : PE X e ta) (hb : attributeBase e f X.env (eval e X.env) = eval e X.env) : PE X (.Attribute e f pos) (h4f X.K ta f) := by
 intro pins s σ H Q I h
 refine (i2w he hb) pins s σ H Q I ?_
 unfold i9y
 unfold h4f at h
 have q : (fun (x : V) (H1 : Hp) => (match x with
   | .ref a => (match H1 a with
    | some (.ins C dx fs) => Cls X.K C /\ a7m X.K C f /\ (match fs.lookup f with
     | some v => Q v H1
     | none => False)
    | _ => False)
   | _ => False : Prop)) = fun x H1 => ∃ a C dx fs v, x = .ref a /\ H1 a = some (.ins C dx fs) /\ Cls X.K C /\ a7m X.K C f /\ fs.lookup f = some v /\ Q v H1 := by
  funext x H1
  refine propext ⟨fun z => ?_, fun ⟨a, C, dx, fs, v, e1, e2, c, n, l, q⟩ => ?_⟩
  ·cases x with
   | ref a =>
    dsimp only at z
    split at z
    ·rename_i C dx fs e1
     obtain ⟨c, n, z⟩ := z
     split at z
     ·rename_i v e2
      exact ⟨a, C, dx, fs, v, rfl, e1, c, n, e2, z⟩
     ·exact z.elim
    ·exact z.elim
   | _ => exact False.elim z
  ·subst e1
   dsimp only
   rw [e2]
   dsimp only
   rw [l]
   exact ⟨c, n, q⟩
 rw [q] at h
 exact h
noncomputable def i4y (K : PySem.W.Frag) (ta tv : TE) (f : Str) : TS := fun D σ H => tv σ H fun y H1 => ta σ H1 fun x H2 => match x with
 | .ref a => (match H2 a with
  | some (.ins C dx fs) => Cls K C /\ a7m K C f /\ fs.length < 1000 /\ Wr H2 a (.ins C dx (d8y f y fs)) (D.nx σ) ⟨⟩
  | _ => False)
 | _ => False
theorem b2t (ha : PE X o ta) (hv : PE X value tv) (hs : swapsWith value (some (.Attribute o f pos')) pos.line X.env = pure false) : PS X (.Assign [.Attribute o f pos'] value pos) (i4y X.K ta tv f) := by
 intro pins s σ H D I h
 refine plainObj_wpAny_Assign_Attribute (thn (hv pins s σ H _ I h) fun u s1 ⟨y, H1, I1, ry, q⟩ => thn (ha pins s1 σ H1 _ I1 q) fun ov s2 ⟨x, H2, I2, rx, z⟩ => ?_) hs
 cases x with
 | ref a =>
  obtain rfl : ov = Value.ref a := rx
  dsimp only at z
  split at z
  ·rename_i C dx fs e1
   obtain ⟨c, n, l, k⟩ := z
   exact g5k I2 e1 c n l ry fun s3 I3 => ⟨σ, _, I3, k _ a9t.upd a5n⟩
  ·exact z.elim
 | _ => exact False.elim z
end
noncomputable def a4s (C : Addr) (m : Str) (sp : Sp) (dvs : List V) (E : XK) (ta : TE) (t : TA) : TE := fun σ H Q => ta σ H fun x H1 => match x with
 | .ref a => (match H1 a with
  | some (.ins C' dx fs) => C' = C /\ fs.lookup m = none /\ t σ H1 fun vs H2 => sp (x :: (vs ++ dvs)) H2 Q E
  | _ => False)
 | _ => False
section
variable {X : Cx} {CX : CXT} {k : Nat} {f C : Addr} {fd : FuncData} {ps : List Str} {sp : Sp} {dvs : List V} {ds : List Value} {E : XK} {x m : Str} {p pos apos : Pos} {e o : Expr} {es : List Expr} {ta : TE} {t : TA}
theorem a5g {pl : Sem Bool} (he : PE X o ta) (c : Cls X.K C) (hm : Meth X.K C m f) (F : a1o X.prog X.w X.K X.mg X.base CX k f fd ps sp) (hr : a3g k X.A) (hb : Binds X.K fd ps ds) (hd : Vals dvs ds) (hx : Passes CX X E) (ha : PA X (e :: es) t)
  (hst : starEach (e :: es) X.env = (false, eval e X.env) :: starEach es X.env := by rfl) (hpl : (backTo pos (starEach es X.env)).any (·.1) = false := by rfl)
  (ht : eval (.Call (.Attribute o m apos) (e :: es) [] pos) X.env = (do
   let ov <- eval o X.env
   standAt apos.atName
   let (f, first) <- holding [ov] (getMethod ov m pl)
   callWith pos f first (backTo pos (starEach (e :: es) X.env)) (backToKw pos (keywordEach [] X.env))) := by rfl) :
  PE X (.Call (.Attribute o m apos) (e :: es) [] pos) (a4s C m sp dvs E ta t) := by
 intro pins s σ H Q I h
 refine PySem.W.methodCall_KW (pl := pl) (thn (he pins s σ H _ I h) fun u s1 ⟨x, H1, I1, rx, z⟩ => ?_) ht
 cases x with
 | ref a =>
  obtain rfl : u = Value.ref a := rx
  dsimp only at z
  split at z
  ·rename_i C' dx fs ea
   obtain ⟨rfl, l, q⟩ := z
   refine f4l I1 ea c hm l ?_
   refine PySem.W.callWith_K (first := [.ref a]) (h₀ := X.base) I.ok.mod.kin hm.kp (thn (ha pos pins s1 σ H1 _ I1 q) fun us s2 ⟨vs, H2, I2, r, q2⟩ => ⟨I2.kIn, ?_⟩) hst hpl
   exact g3o (us := .ref a :: us) (vs := .ref a :: vs) F hr hb hd hx I2 (.cons rfl r) q2
  ·exact z.elim
 | _ => exact False.elim z
theorem a0k {pl : Sem Bool} (he : PE X o ta) (c : Cls X.K C) (hm : Meth X.K C m f) (F : a1o X.prog X.w X.K X.mg X.base CX k f fd ps sp) (hr : a3g k X.A) (hb : Binds X.K fd ps ds) (hd : Vals dvs ds) (hx : Passes CX X E)
  (ht : eval (.Call (.Attribute o m apos) [] [] pos) X.env = (do
   let ov <- eval o X.env
   standAt apos.atName
   let (f, first) <- holding [ov] (getMethod ov m pl)
   callWith pos f first (backTo pos (starEach [] X.env)) (backToKw pos (keywordEach [] X.env))) := by rfl) :
  PE X (.Call (.Attribute o m apos) [] [] pos) (a4s C m sp dvs E ta d4s) := by
 intro pins s σ H Q I h
 refine PySem.W.methodCall_KW (pl := pl) (thn (he pins s σ H _ I h) fun u s1 ⟨x, H1, I1, rx, z⟩ => ?_) ht
 cases x with
 | ref a =>
  obtain rfl : u = Value.ref a := rx
  dsimp only at z
  split at z
  ·rename_i C' dx fs ea
   obtain ⟨rfl, l, q⟩ := z
   refine f4l I1 ea c hm l ?_
   exact PySem.W.callWith_K0 (first := [.ref a]) I1.kIn hm.kp (g3o (us := [.ref a]) (vs := [.ref a]) F hr hb hd hx I1 (.cons rfl .nil) q)
  ·exact z.elim
 | _ => exact False.elim z
noncomputable def i8j (H : Hp) (C : Addr) (k : Addr -> Hp -> Prop) (_ : Tag k) : Prop := ∀ x dx H1, H x = none -> H dx = none -> dx ≠ x -> Same H H1 -> H1 dx = some (.own x) -> H1 x = some (.ins C dx []) -> k x H1
noncomputable def i4z (x : Addr) (Q : VK) : VK := fun v H2 => v = .non /\ Q (.ref x) H2
theorem asNew {x : Addr} {Q : VK} {H2 : Hp} {v : V} : i4z x Q v H2 = (v = .non /\ Q (.ref x) H2) := rfl
noncomputable def h6m (C : Addr) (sp : Sp) (dvs : List V) (E : XK) (t : TA) : TE := fun σ H Q => t σ H fun vs H1 => i8j H1 C (fun x H2 => sp (.ref x :: (vs ++ dvs)) H2 (i4z x Q) E) ⟨⟩
theorem i8j.raw {H : Hp} {C : Addr} {k : Addr -> Hp -> Prop} {t : Tag k} (h : i8j H C k t) : ∀ x dx, H x = none -> H dx = none -> dx ≠ x -> k x (upd (upd H dx (.own x)) x (.ins C dx [])) := fun x dx ex ed ne =>
 h x dx _ ex ed ne ((Same.upd ed).trans (Same.upd (by rw [a4z ne.symm]; exact ex))) (by rw [a4z ne]; exact a5n) a5n
theorem c4i (M : Mk X.K C f) (F : a1o X.prog X.w X.K X.mg X.base CX k f fd ps sp) (hr : a3g (k + 1) X.A) (hg : Gl X x) (hm : X.mg x = some (.ref C)) (hb : Binds X.K fd ps ds) (hd : Vals dvs ds) (hx : Passes CX X E)
  (ha : PA X (e :: es) t) (hdb : (x == ("__debug__" : Str)) = false := by decide) (he : starEach (e :: es) X.env = (false, eval e X.env) :: starEach es X.env := by rfl) (hpl : (backTo pos (starEach es X.env)).any (·.1) = false := by rfl) :
  PE X (.Call (.Name x p) (e :: es) [] pos) (h6m C sp dvs E t) := by
 intro pins s σ H Q I h
 refine wpAny_Call_Name_kw (g1g I hg hm ?_ hdb)
 refine PySem.W.callWith_K (h₀ := X.base) I.ok.mod.kin M.kp (thn (ha pos pins s σ H _ I h) fun us s1 ⟨vs, H1, I1, r, q⟩ => ⟨I1.kIn, ?_⟩) he hpl
 exact h3o M F hr hb hd hx I1 r q.raw
end
noncomputable def h4g (K : PySem.W.Frag) (ta tv : TE) (rd : V -> V -> Hp -> VK -> Prop) (f : Str) : TS := fun D σ H => ta σ H fun x H1 => match x with
 | .ref a => (match H1 a with
  | some (.ins C dx fs) => Cls K C /\ a7m K C f /\ (match fs.lookup f with
   | some v => tv σ H1 fun y H2 => rd v y H2 fun z H3 => (match H3 a with
    | some (.ins C' dx' fs') => C' = C /\ fs'.length < 1000 /\ Wr H3 a (.ins C dx' (d8y f z fs')) (D.nx σ) ⟨⟩
    | _ => False)
   | none => False)
  | _ => False)
 | _ => False
section
variable {X : Cx} {o e value : Expr} {f : Str} {pos pos' tpos : Pos} {ta tv : TE}
end
noncomputable def i8k (g : Int -> Int -> Int) : V -> V -> Hp -> VK -> Prop := fun x y H Q => match x, y with
 | .int i, .int j => Q (.int (g i j)) H
 | _, _ => False
noncomputable def h9i (i : Nat) (te : TE) (ti : TIp) : TS := fun D σ H => match σ[i]? with
 | some (some x) => te σ H fun y H1 => ti x y H1 fun z H2 => D.nx (σ.set i (some z)) H2
 | _ => False
section
variable {X : Cx} {pos : Pos}
theorem h9j : i9z X .Add (i8k fun i j => i + j) := by
 intro pins s σ H x y u v Q I rx ry h
 cases x <;> cases y <;> try exact False.elim h
 exact i2x pins s σ H _ _ u v Q I rx ry ⟨_, _, rfl, rfl, h⟩
theorem h9k : PIp X .Add (i8k fun i j => i + j) := fun pins s σ H x y u v Q I rx ry h => h9j pins s σ H x y u v Q I rx ry h
theorem h9l {i : Nat} {x : Str} {e : Expr} {te : TE} {op : Operator} {ti : TIp} {pos' : Pos} (hN : X.N.Nodup) (hi : X.N[i]? = some x) (hx : Loc X.env.scope x) (he : PE X e te) (ho : PIp X op ti) (hf : X.fn x = true \/ X.env.scope.names.lookup x = some .local := by first | exact .inl rfl | exact .inr rfl | assumption) :
  PS X (.AugAssign (.Name x pos') op e pos) (h9i i te ti) := by
 intro pins s σ H D I h
 refine i2l hN hi hx he ho hf pins s σ H D I ?_
 unfold h9i at h
 split at h
 ·rename_i v e1
  exact ⟨v, e1, h⟩
 ·exact h.elim
end
theorem lookup_same {f : Str} {v : V} {r : List (Str × V)} : List.lookup f ((f, v) :: r) = some v := by rw [List.lookup_cons, beq_self_eq_true]
theorem g9n {f : Str} {v x : V} {r : List (Str × V)} : d8y f v ((f, x) :: r) = (f, v) :: r := by rw [d8y, if_pos rfl]
theorem h4h {f : Str} {v : V} : d8y f v [] = [(f, v)] := rfl
theorem f9l {f g : Str} {v : V} {r : List (Str × V)} (h : (f == g) = false) : List.lookup f ((g, v) :: r) = r.lookup f := by rw [List.lookup_cons, h]
theorem g5w {f g : Str} {v x : V} {r : List (Str × V)} (h : (f == g) = false) : d8y f v ((g, x) :: r) = (g, x) :: d8y f v r := by rw [d8y, if_neg fun e => by rw [e, beq_self_eq_true] at h; exact Bool.noConfusion h]
theorem i8l {X : Cx} : X.nox.K = X.K := rfl
end L2
namespace L2
open PySem PySem.Spec PyProof.Rows
structure d2q (k : Nat) (A : Around) : Prop where
 dp : A.depth + 3 * k + 5 < recursionLimit
 un : A.units + 16 * k + 200 < cLine
theorem a3g.h {k : Nat} {A : Around} (r : a3g k A) : d2q k A := ⟨r.dp, r.un⟩
theorem d2q.mono {j k : Nat} {A : Around} (r : d2q k A) (h : j <= k) : d2q j A := ⟨by have := r.dp; omega, by have := r.un; omega⟩
theorem d2q.deeper {k : Nat} {A : Around} (r : d2q (k + 1) A) (env : Env) : d2q k (A.deeper env) :=
 ⟨by have := r.dp; show A.depth + 1 + 3 * k + 5 < _; omega, by have := r.un; show A.units + 3 + 16 * k + 200 < _; omega⟩
theorem d2q.units {k : Nat} {A : Around} (r : d2q k A) : A.units + 64 < cLine := by have := r.un; omega
theorem d2q.calm {k : Nat} {A : Around} (r : d2q k A) : a3g k { A with handled := none } := ⟨rfl, r.dp, r.un⟩
structure i5a (P : Program) (w : World) (K : PySem.W.Frag) (mg : Str -> Option Value) (base : Heap) (k : Nat) (f : Addr) (fd : FuncData) (ps : List Str) (sp : Sp) : Prop where
 len : ∀ vs H Q E, sp vs H Q E -> vs.length = ps.length
 run : ∀ (A : Around) (outer : List Env) (s : Shared) (H : Hp) (args : Args) (us : List Value) (vs : List V) (Q : VK) (E : XK), d2q k A -> g8q P w K mg base A outer s H -> BindsTo s fd args (ps.zip us) -> Vals vs us -> sp vs H Q E ->
  codeAny (model P w) A (.call (.ref f) args) (CR CX0 outer P w H s Q E) s
theorem i5a.ok {P : Program} {w : World} {K : PySem.W.Frag} {mg : Str -> Option Value} {base : Heap} {k : Nat} {f : Addr} {fd : FuncData} {ps : List Str} {sp : Sp} (F : i5a P w K mg base k f fd ps sp) : a1o P w K mg base CX0 k f fd ps sp :=
 ⟨F.len, fun A outer s H args us vs Q E hr => F.run A outer s H args us vs Q E hr.h⟩
noncomputable abbrev cxOfH (P : Program) (w : World) (K : PySem.W.Frag) (mg : Str -> Option Value) (base : Heap) (N : List Str) (qual : Str) (scope : Scope) (f : Addr) (cd : Value) (A : Around) (outer : List Env) (s : Shared) (H : Hp) (E : XK) : Cx := { h5v CX0 P w K mg base N qual scope f cd A outer s H E with calm := false, xe := fun _ _ => False }
section
variable {X : Cx} {k : Nat} {f : Addr} {fd : FuncData} {ps : List Str} {sp : Sp} {dvs : List V} {ds : List Value} {x : Str} {p pos : Pos} {e : Expr} {es : List Expr} {t : TA}
end
theorem d2q.mark {k : Nat} {A : Around} (r : d2q k A) (h : Option Value) : d2q k (A.mark h) := ⟨r.dp, r.un⟩
end L2
namespace L2
open PySem PySem.Spec PyProof.Rows
open PySem.Builtin.Str (occurrences subAt partsBetween strSub)
noncomputable abbrev sg (x : Str) : List Nat := x.cps.toList
theorem b6z {x y : Str} (h : sg x = sg y) : x = y := Str.ext' (by
 have := congrArg List.toArray h
 simpa using this)
theorem a3r (x y : Str) : sg (x ++ y) = sg x ++ sg y := by unfold sg; rw [Str.cps_append]; simp
theorem c7p (x : Str) : (sg x).length = x.length := by simp [Str.length]
theorem h6n {x : Str} {c i : Nat} : StrLaws.At x ⟨#[c]⟩ x.length i ↔ (sg x)[i]? = some c := StrLaws.subAt_one x c i
theorem f0w {c : Nat} : (⟨#[c]⟩ : Str).length = 1 := rfl
theorem h6o (x : Str) (i j : Nat) : sg (strSub x i j) = ((sg x).drop i).take (j - i) := StrLaws.strSub_toList x i j
theorem h4i {x : Str} {c : Nat} {a b : List Nat} (hk : c < 128) (h : sg x = a ++ c :: b) (ha : c ∉ a) (hb : c ∉ b) : b6g x ⟨#[c]⟩ = [⟨a.toArray⟩, ⟨b.toArray⟩] := by
 have hl : x.length = a.length + (b.length + 1) := by rw [<- c7p, h]; simp
 have k1 : ¬ ((decide (x.length < (⟨#[c]⟩ : Str).length) || decide (Builtin.Str.strKind x < Builtin.Str.strKind ⟨#[c]⟩)) = true) := by
  have e : Builtin.Str.strKind ⟨#[c]⟩ = 1 := by
   unfold Builtin.Str.strKind
   rw [if_pos (by simp; omega)]
  have g : 1 <= Builtin.Str.strKind x := by
   unfold Builtin.Str.strKind
   split
   ·decide
   ·split <;> decide
  rw [e, f0w]
  simp only [Bool.or_eq_true, decide_eq_true_eq]
  omega
 have only : ∀ i, StrLaws.At x ⟨#[c]⟩ x.length i -> i = a.length := by
  intro i hi
  have hi := h6n.mp hi
  rw [h] at hi
  rcases Nat.lt_trichotomy i a.length with q | q | q
  ·rw [List.getElem?_append_left q] at hi
   exact absurd (List.mem_of_getElem? hi) ha
  ·exact q
  ·rw [List.getElem?_append_right (Nat.le_of_lt q)] at hi
   obtain ⟨j, hj⟩ : ∃ j, i - a.length = j + 1 := ⟨i - a.length - 1, by omega⟩
   rw [hj, List.getElem?_cons_succ] at hi
   exact absurd (List.mem_of_getElem? hi) hb
 have there : StrLaws.At x ⟨#[c]⟩ x.length a.length := h6n.mpr (by rw [h, List.getElem?_append_right (Nat.le_refl _), Nat.sub_self]; rfl)
 obtain ⟨f, ch⟩ := StrLaws.occ_chain x ⟨#[c]⟩ (x.length + 1)
 have ho : occurrences x ⟨#[c]⟩ 0 x.length (x.length + 1) = [a.length] := by
  rcases StrLaws.occ_head x ⟨#[c]⟩ (x.length + 1) (by omega) with ⟨h0, hn⟩ | ⟨i, r, h0, hi, hn⟩
  ·exact absurd there (hn _)
  ·rw [h0] at ch ⊢
   have e := only i hi
   subst e
   cases r with
   | nil => rfl
   | cons j r =>
    obtain ⟨_, _, q1, q2, _⟩ := ch
    have := only j q2
    rw [f0w] at q1
    omega
 unfold b6g
 rw [if_neg k1, ho, if_neg (by simp)]
 simp only [partsBetween, List.map_cons, List.map_nil, List.cons_append, List.nil_append, List.zip_cons_cons, List.zip_nil_right, List.cons.injEq, and_true]
 constructor
 ·refine b6z ?_
  rw [h6o, h]
  simp
 ·refine b6z ?_
  rw [h6o, f0w, h, hl]
  have e : (a ++ c :: b).drop (a.length + 1) = b := by rw [List.drop_append]; simp
  rw [e, List.take_of_length_le (by omega)]
open PySem.NumText (AllDigits digitsVal digitsVal_snoc)
noncomputable def dg (n : Nat) : List Nat := (Nat.toDigits 10 n).map Char.toNat
theorem g3t (n : Nat) : digitsVal (dg n) = n := PySem.W.KIN.val_back n
theorem g1t {n : Nat} (h : n < 10) : dg n = [n + 48] := by
 have : ∀ d, d < 10 -> dg d = [d + 48] := by decide
 exact this n h
theorem f0y {m c : Nat} (hm : 0 < m) (hc : c < 10) : dg (10 * m + c) = dg m ++ [c + 48] := by
 have t : Nat.toDigits 10 m ++ Nat.toDigits 10 c = Nat.toDigits 10 (10 * m + c) := Nat.toDigits_append_toDigits (by decide) hm hc
 unfold dg
 rw [<- t, List.map_append]
 have := g1t hc
 unfold dg at this
 rw [this]
theorem g9o (n : Nat) : dg n ≠ [] := by
 by_cases h : n < 10
 ·rw [g1t h]; simp
 ·have e : n = 10 * (n / 10) + n % 10 := by omega
  rw [e, f0y (by omega) (by omega)]
  simp
theorem d1s (n : Nat) : AllDigits (dg n) := by
 induction n using Nat.strongRecOn with
 | _ n ih =>
  by_cases h : n < 10
  ·rw [g1t h]
   intro c hc
   simp at hc
   omega
  ·have e : n = 10 * (n / 10) + n % 10 := by omega
   rw [e, f0y (by omega) (by omega)]
   intro c hc
   rcases List.mem_append.mp hc with q | q
   ·exact ih (n / 10) (by omega) c q
   ·simp at q
    omega
theorem h9m {n : Nat} (h : 0 < n) : ∃ c r, dg n = c :: r /\ c ≠ 48 := by
 induction n using Nat.strongRecOn with
 | _ n ih =>
  by_cases q : n < 10
  ·exact ⟨n + 48, [], g1t q, by omega⟩
  ·obtain ⟨c, r, e, hc⟩ := ih (n / 10) (by omega) (by omega)
   have e2 : n = 10 * (n / 10) + n % 10 := by omega
   refine ⟨c, r ++ [n % 10 + 48], ?_, hc⟩
   conv => lhs; rw [e2]
   rw [f0y (by omega) (by omega), e]
   rfl
noncomputable def Canon (ds : List Nat) : Prop := AllDigits ds /\ ds ≠ [] /\ ∀ r, ds = 48 :: r -> r = []
theorem h6p : ∀ {ds : List Nat}, AllDigits ds -> digitsVal ds < 10 ^ ds.length := by
 intro ds
 generalize hn : ds.length = n
 induction n generalizing ds with
 | zero => intro _; rw [List.length_eq_zero_iff.mp hn]; decide
 | succ n ih =>
  intro hd
  have hne : ds ≠ [] := fun e => by rw [e] at hn; cases hn
  have e : ds = ds.dropLast ++ [ds.getLast hne] := (List.dropLast_concat_getLast hne).symm
  generalize ds.dropLast = cs at e
  generalize ds.getLast hne = c at e
  subst e
  have hc := hd c (by simp)
  have := ih (ds := cs) (by simp at hn; exact hn) fun d hd' => hd d (by simp [hd'])
  rw [digitsVal_snoc, Nat.pow_succ]
  omega
noncomputable def txt (t : Int) : List Nat := if t < 0 then 45 :: dg t.natAbs else dg t.natAbs
theorem c6s (t : Int) : sg (Str.ofString (toString t)) = txt t := by
 unfold txt
 match t with
 | .ofNat m => exact PySem.W.KIN.signs_num m
 | .negSucc m =>
  rw [if_pos (Int.negSucc_lt_zero m)]
  unfold sg
  rw [signs_ofString]
  show (("-" ++ Nat.repr (m + 1)).toList.map Char.toNat) = _
  rw [String.toList_append, List.map_append, Nat.toList_repr]
  rfl
theorem d6r {x : Str} {t : Int} (h : sg x = txt t) (hl : x.length <= 4300) : PySem.intText? x = some t := by
 unfold txt at h
 split at h
 ·rename_i ht
  have := intText_neg h (d1s _) (g9o _) hl
  rw [g3t] at this
  rw [this]
  congr 1
  omega
 ·rename_i ht
  have := intText_digits (x := x) (by rw [show x.cps.toList = sg x from rfl, h]; exact d1s _) (by rw [show x.cps.toList = sg x from rfl, h]; exact g9o _) hl
  rw [show x.cps.toList = sg x from rfl, h, g3t] at this
  rw [this]
  congr 1
  omega
theorem i5b (n : Nat) : (dg n).length <= n.log2 + 1 := by
 induction n using Nat.strongRecOn with
 | _ n ih =>
  by_cases h : n < 10
  ·rw [g1t h]; simp
  ·have e : n = 10 * (n / 10) + n % 10 := by omega
   have i := ih (n / 10) (by omega)
   have k : (n / 10).log2 + 1 <= n.log2 := by
    rw [Nat.le_log2 (by omega), Nat.pow_succ]
    have := Nat.log2_self_le (n := n / 10) (by omega)
    omega
   have z := f0y (m := n / 10) (c := n % 10) (by omega) (by omega)
   rw [<- e] at z
   rw [z]
   rw [List.length_append]
   simp only [List.length_cons, List.length_nil]
   omega
theorem g1u (t : Int) : (txt t).length <= t.natAbs.log2 + 2 := by
 have := i5b t.natAbs
 unfold txt
 split
 ·rw [List.length_cons]; omega
 ·omega
noncomputable def h4j (t b : Int) : List Nat := txt t ++ 47 :: txt b
structure Good (x : List Nat) (t b : Int) : Prop where
 eq : x = h4j t b
 pos : 0 < b
 low : Int.gcd t b = 1
 l1 : (dg t.natAbs).length <= 9
 l2 : (dg b.natAbs).length <= 9
noncomputable def g9p (l : List Nat) : Bool := l.all (fun c => decide (48 <= c) && decide (c <= 57)) && !l.isEmpty
theorem f5z {l : List Nat} : g9p l = true ↔ AllDigits l /\ l ≠ [] := by
 unfold g9p AllDigits
 simp
theorem h9n (c : Nat) : i7i "0123456789" ⟨#[c]⟩ = (decide (48 ≤ c) && decide (c ≤ 57)) := by
 unfold i7i
 rw [StrLaws.found_one]
 have e : (Str.ofString "0123456789").cps.toList = [48, 49, 50, 51, 52, 53, 54, 55, 56, 57] := by decide +kernel
 rw [e]
 by_cases h : 48 <= c /\ c <= 57
 ·rw [show (decide (48 <= c) && decide (c <= 57)) = true by simp [h]]
  rw [decide_eq_true_eq]
  simp
  omega
 ·rw [show (decide (48 <= c) && decide (c <= 57)) = false by simp; omega]
  rw [decide_eq_false_iff_not]
  simp
  omega
theorem d1t {t : Int} {c : Nat} (h1 : c ≠ 45) (h2 : c < 48 \/ 57 < c) : c ∉ txt t := by
 unfold txt
 intro h
 split at h
 ·rcases List.mem_cons.mp h with q | q
  ·exact h1 q
  ·have := d1s _ c q; omega
 ·have := d1s _ c h; omega
theorem i5c (t : Int) : (txt t).length <= (dg t.natAbs).length + 1 := by
 unfold txt
 split
 ·rw [List.length_cons]; exact Nat.le_refl _
 ·exact Nat.le_succ _
theorem h6q (x : Str) (c : Nat) : Txt.startswith x ⟨#[c]⟩ = decide ((sg x)[0]? = some c) := by
 unfold Txt.startswith
 rw [Bool.eq_iff_iff, Bool.and_eq_true, decide_eq_true_eq, decide_eq_true_eq]
 exact StrLaws.subAt_one x c 0
theorem i5d {x : Str} {t : Int} (h : sg x = txt t) : Txt.startswith x ⟨#[45]⟩ = decide (t < 0) := by
 rw [h6q, h]
 unfold txt
 split
 ·rename_i q
  simp [q]
 ·rename_i q
  rw [decide_eq_false q, decide_eq_false_iff_not]
  intro e
  have := d1s _ 45 (List.mem_of_getElem? e)
  omega
theorem h9o {x : Str} {i : Nat} (h : i <= x.length) : sg (Txt.slice x (some (i : Int)) none) = (sg x).drop i := by
 rw [slice_from_eq (b := (x.length : Int)) (by omega) (by omega) rfl]
 simp only [sg, Int.toNat_natCast]
 rw [List.take_of_length_le]
 rw [List.length_drop]
 have := c7p x
 unfold sg at this
 omega
end L2
namespace L2
open PySem PySem.Spec PyProof.Rows
section
variable {X : Cx}
noncomputable def h9p (K : PySem.W.Frag) : List V -> Hp -> VK -> Prop := fun xs H Q => match xs with
 | [.ref p] => (match H p with
  | some (.lst ys) => New H (.tup ys) Q ⟨⟩
  | some (.tup ys) => Q (.ref p) H
  | _ => False)
 | _ => False
theorem d5j : b2p X (.type "tuple") (h9p X.K) := f5v.weak fun xs H Q h => by
 match xs, h with
 | [.ref p], h =>
  unfold h9p at h
  dsimp only at h
  split at h
  ·rename_i ys e
   exact ⟨p, ys, rfl, .inl ⟨SqL.of e, h.raw⟩⟩
  ·rename_i ys e
   exact ⟨p, ys, rfl, .inr ⟨SqT.of e, h⟩⟩
  ·exact h.elim
end
section
variable {X : Cx}
structure InsQ (K : PySem.W.Frag) (C : Addr) : Prop where
 ha : PySem.W.findIn K (.ref C) "__class__" = some (some (.builtin "object.__class__"))
 hn : PySem.W.specialIn K (.builtin "object.__class__") "__get__" = some (some (.builtin "getset_descriptor.__get__"))
 htk : PySem.W.takesIn K (.builtin "object.__class__") = some true
 hm : PySem.W.mroIn K C (.type "object") = some true
noncomputable def rIsI (K : PySem.W.Frag) : List V -> Hp -> VK -> Prop := fun xs H Q => match xs with
 | [.ref a, .ref D] => (match H a with
  | some (.ins C dx fs) => Cls K C /\ InsQ K C /\ (match PySem.W.kitOne K (.ref C) (.ref D) with
   | some b => Q (.bl b) H
   | none => False)
  | _ => False)
 | _ => False
end
section
variable {X : Cx} {pos : Pos}
noncomputable def h9q : List V -> Hp -> VK -> Prop := fun xs H Q => match xs with
 | [.int i, .int j] => (0 < j /\ j < 1073741824) /\ New H (.tup [.int (i / j), .int (i % j)]) Q ⟨⟩
 | _ => False
noncomputable def h9r : TGs := fun vs σ H Q => match vs with
 | [] => Q σ H
 | _ => False
noncomputable def g9q (t : TG) (u : TGs) : TGs := fun vs σ H Q => match vs with
 | v :: r => t v σ H fun σ' H' => u r σ' H' Q
 | _ => False
noncomputable def h9s (n : Nat) (t : TGs) : TG := fun v σ H Q => match v with
 | .ref a => (match H a with
  | some (.tup xs) => xs.length = n /\ t xs σ H Q
  | _ => False)
 | _ => False
theorem g3u : PGs X [] h9r := by
 intro pins s σ H vs us Q I r h
 refine g8a pins s σ H vs us Q I r ?_
 unfold h9r at h
 split at h
 ·exact ⟨rfl, h⟩
 ·exact h.elim
theorem d5k {e : Expr} {es : List Expr} {t : TG} {u : TGs} (h1 : PG X e t) (h2 : PGs X es u)
  (hs : (assignEach (e :: es) X.env).map (·.2) = assign e X.env :: (assignEach es X.env).map (·.2) := by rfl) : PGs X (e :: es) (g9q t u) := by
 intro pins s σ H vs us Q I r h
 refine f5p h1 h2 hs pins s σ H vs us Q I r ?_
 unfold g9q at h
 split at h
 ·exact ⟨_, _, rfl, h⟩
 ·exact h.elim
theorem g9r {es : List Expr} {k : Nat} {t : TGs} {n : Nat} (hc : X.calm = true) (h : PGs X es t)
  (hn : (assignEach es X.env).length = n := by rfl) (hst : (assignEach es X.env).findIdx? (·.1) = none := by rfl) : PG X (.Tuple es k pos) (h9s n t) := by
 intro pins s σ H v u Q I r hw
 refine h5t hc h hn hst pins s σ H v u Q I r ?_
 unfold h9s at hw
 cases v with
 | ref a =>
  dsimp only at hw
  split at hw
  ·rename_i xs e
   exact ⟨a, xs, rfl, SqT.of e, hw.1, hw.2⟩
  ·exact hw.elim
 | _ => exact False.elim hw
end
end L2
namespace L2
open PySem PySem.Spec PyProof.Rows
noncomputable def i5e (J : It) (tc : TT) (te : TE) (D : Addr) (σ : St) (H : Hp) (Q : VK) (_ : Tag Q) : Prop := ∃ (n : Nat) (W : Nat -> List V -> Hp -> Prop), W 0 [] H /\ ∀ i ys H, i <= n -> W i ys H -> H D = some (.lst ys) /\
 ((J.stop i H /\ Q (.ref D) H) \/ (i < n /\ J.go i H /\ ys.length < sizeLine /\ ∀ x H', J.yld i H x H' -> tc (some x :: σ) H' fun b H1 =>
  if b = true then te (some x :: σ) H1 fun y H2 => H2 D = some (.lst ys) /\ ∀ H3, a9t D H2 H3 -> H3 D = some (.lst (ys ++ [y])) -> W (i + 1) (ys ++ [y]) H3
  else W (i + 1) ys H1))
noncomputable def j1d (wi : TI) (tc : TT) (te : TE) : TE := fun σ H Q => wi σ H fun J H1 => ∀ D H2, H1 D = none -> Same H1 H2 -> H2 D = some (.lst []) -> i5e J tc te D σ H2 Q ⟨⟩
section
variable {X : Cx} {scope : Scope} {x : Str} {pins : List (Addr × Obj)} {σ : St} {elt iter cnd : Expr} {px pos : Pos} {wi : TI} {te : TE} {tc : TT}
end
section
variable {X : Cx} {k : Nat} {f C : Addr} {fd : FuncData} {ps : List Str} {sp : Sp} {dvs : List V} {ds : List Value} {E : XK} {x m : Str} {p pos apos : Pos} {e o : Expr} {es : List Expr} {ta : TE} {t : TA}
end
end L2
namespace L2
open PySem PySem.Spec PyProof.Rows
theorem Vals.pick {xs : List V} {us : List Value} (r : Vals xs us) : ∀ idx : List Nat, Vals (idx.filterMap (xs[·]?)) (idx.filterMap (us[·]?))
 | [] => .nil
 | i :: idx => by
  cases e : xs[i]? with
  | none =>
   simp only [List.filterMap_cons, e, r.none_of e]
   exact Vals.pick r idx
  | some x =>
   obtain ⟨u, e2, r2⟩ := r.get e
   simp only [List.filterMap_cons, e, e2]
   exact .cons r2 (Vals.pick r idx)
noncomputable def rSl3 : V -> Option Int -> Hp -> VK -> Prop := fun x st H Q => match x with
 | .ref a => (match H a with
  | some (.lst xs) => st ≠ some 0 /\ ∀ ys : List V, ys.length <= xs.length -> (∀ y ∈ ys, y ∈ xs) -> New H (.lst ys) Q ⟨⟩
  | _ => False)
 | _ => False
noncomputable def tSl3 (te : TE) (tl th ts : TO) : TE := fun σ H Q => te σ H fun x H1 => tl σ H1 fun _ H2 => th σ H2 fun _ H3 => ts σ H3 fun st H4 => rSl3 x st H4 Q
section
variable {X : Cx}
noncomputable def j1e (lo : Int) (n : Nat) : List V := (List.range n).map fun i : Nat => V.int (lo + (i : Int))
noncomputable def j1f (ta : TA) : TE := fun σ H Q => ta σ H fun vs H1 => match vs with
 | [.int j] => (-1000000 <= j /\ j <= 1000000) /\ New H1 (.lst (j1e 0 j.toNat)) Q ⟨⟩
 | _ => False
noncomputable def j1g (ta : TA) : TE := fun σ H Q => ta σ H fun vs H1 => match vs with
 | [.int i, .int j] => (-1000000 <= i /\ i <= 1000000 /\ -1000000 <= j /\ j <= 1000000) /\ New H1 (.lst (j1e i (j - i).toNat)) Q ⟨⟩
 | _ => False
end
noncomputable def tLRev (ta : TE) : TE := fun σ H Q => ta σ H fun x H1 => match x with
 | .ref a => (match H1 a with
  | some (.lst xs) => New H1 (.lst xs.reverse) Q ⟨⟩
  | _ => False)
 | _ => False
noncomputable def maxD (d : Int) : List Int -> Int
 | [] => d
 | n :: ns => ns.foldl max n
section
variable {prog : Program} {w : World} {A : Around} {E : Value -> Shared -> Prop} {s : Shared}
end
noncomputable def i8m : List V -> List V -> Hp -> VK -> Prop := fun vs zs H Q => match vs, zs with
 | [.ref p], [.int d] => (match H p with
  | some (.lst xs) => ∃ ns : List Int, xs = ns.map V.int /\ Q (.int (maxD d ns)) H
  | _ => False)
 | _, _ => False
noncomputable def tMaxD (t tk : TA) : TE := fun σ H Q => t σ H fun vs H1 => tk σ H1 fun zs H2 => i8m vs zs H2 Q
noncomputable def i8n : V -> V -> V -> Hp -> (Hp -> Prop) -> Prop := fun o i v H Q => match o, i with
 | .ref p, .int k => (match H p with
  | some (.lst xs) => (0 <= k /\ k < xs.length) /\ ∀ H1, a9t p H H1 -> H1 p = some (.lst (xs.set k.toNat v)) -> Q H1
  | _ => False)
 | _, _ => False
theorem d9u {K : PySem.W.Frag} {a D : Addr} {xs : List V} {te : TE} {σ : St} {H0 H : Hp} {Q : VK} (zs : List V) (hz : zs.length = xs.length) (n0 : H0 D = none) (S : Same H0 H) (hD : H D = some (.lst [])) (hS : SqL K H0 a xs) (hsz : xs.length <= sizeLine)
  (hs : ∀ (i : Nat) x z H' (Q' : VK), xs[i]? = some x -> zs[i]? = some z -> Same H0 H' -> Q' z H' -> te (some x :: σ) H' Q') (q : ∀ H', Same H0 H' -> H' D = some (.lst zs) -> Q (.ref D) H') : f5w (Itl K a) te D σ H Q ⟨⟩ := by
 refine d6p (fun i ys H' => Same H0 H' /\ H' D = some (.lst ys) /\ ys = zs.take i) ⟨S, hD, by simp⟩ hsz (fun i ys H' hi p => ?_) (fun i x ys H' hx p => ?_) (fun ys H' p => ?_)
 ·refine ⟨p.2.1, p.1.seq hS, ?_⟩
  rw [p.2.2, List.length_take]
  omega
 ·have hi : i < zs.length := by rw [hz]; exact (List.getElem?_eq_some_iff.mp hx).1
  have hzi : zs[i]? = some zs[i] := List.getElem?_eq_getElem hi
  refine hs i x _ H' _ hx hzi p.1 ⟨p.2.1, fun H3 s3 h3 => ⟨p.1.step n0 s3, h3, ?_⟩⟩
  rw [p.2.2, List.take_add_one, hzi]
  rfl
 ·refine q H' p.1 ?_
  rw [p.2.1, p.2.2, <- hz, List.take_length]
end L2
namespace L2
open PySem PySem.Spec PyProof.Rows
section
variable {X : Cx} {pins : List (Addr × Obj)} {σ : St} {H : Hp} {s : Shared}
theorem Inv.f6g {t' : Nat} {h' : Heap} {fp : List Addr} (I : Inv X pins σ H s) (k : ∀ b o, b ∉ fp -> s.heap.get? b = some o -> h'.get? b = some o) (hf : ∀ b ∈ fp, f5q X pins H b) : Inv X pins σ H { s with heap := h', toks := t' } := by
 have nit : ∀ b u, H b = some u -> b ∉ fp := fun b u e z => by rw [(hf b z).1] at e; cases e
 refine I.call' (s' := { s with heap := h', toks := t' }) (ch := fp) rfl ⟨fun b o e n hb hx => k b o hx e, fun b o e n hb hx => ⟨o.slots, k b o hx e⟩, fun _ _ _ n _ => n, fun b o e hx => ⟨o, k b o hx e⟩, fun _ _ q => q, fun _ _ _ q => q, fun _ ps q => ⟨#[], by rw [q]; simp⟩⟩ ?_ I.bare fun b hb => ⟨(hf b hb).2.2.2.1, (hf b hb).2.1, (hf b hb).2.2.2.2.1, (hf b hb).2.2.2.2.2⟩
 intro b u e
 refine (I.hok b u e).stay (fun c v hc q => k c v ?_ q) (fun _ q => q) fun _ _ q => q
 rcases hc with z | z
 ·rw [z]; exact nit b u e
 ·exact nit c _ z
end
noncomputable def ItB (b : Bool) (h : Heap) (it l : Addr) (i : Nat) : Prop := ∃ o, h.get? it = some o ∧ o.cls = .type (cond b "list_iterator" "tuple_iterator") ∧ o.data = .fields #[.ref l, .int i 0]
noncomputable def SqB (b : Bool) (h : Heap) (l : Addr) (items : Array Value) : Prop := ∃ o, h.get? l = some o ∧ o.cls = .type (cond b "list" "tuple") ∧ ∃ n, o.data = .seq items n
theorem ItB.at {b : Bool} {h h' : Heap} {it l : Addr} {i : Nat} (x : ItB b h it l i) (k : ∀ o, h.get? it = some o -> h'.get? it = some o) : ItB b h' it l i := let ⟨o, e, r⟩ := x; ⟨o, k o e, r⟩
theorem SqB.at {b : Bool} {h h' : Heap} {l : Addr} {items : Array Value} (x : SqB b h l items) (k : ∀ o, h.get? l = some o -> h'.get? l = some o) : SqB b h' l items := let ⟨o, e, r⟩ := x; ⟨o, k o e, r⟩
section
variable {prog : Program} {w : World} {A : Around} {E : Value -> Shared -> Prop} {s : Shared}
theorem g1v {it t : Addr} {i : Nat} {items : Array Value} {x : Value} {Q : Value -> Shared -> Prop} (hit : s.heap.IsTupleIter it t i) (ht : s.heap.IsTuple t items) (hx : items[i]? = some x)
  (hQ : ∀ h', h'.IsTupleIter it t (i + 1) -> Heap.SameBut it s.heap h' -> Q x { s with heap := h' }) : wpAny (model prog w) A (Builtin.SmallTypes.nextOf (.ref it)) Q E s := by
 obtain ⟨o, ho, hc, hd⟩ := id hit
 obtain ⟨ol, hol, _, nl, hdl⟩ := ht
 unfold Builtin.SmallTypes.nextOf
 refine wpAny_bind (wpAny_callSpecial?_slot (name := Str.ofString "__next__") hit.typeIs F.slot_tuple_iterator_next
  (wpAny_call_entry F.slot_tuple_iterator_next hit.typeIs F.entry_tuple_iterator_next ?_ (F.args_tuple_iterator_next_1 _)))
 show wpAny _ _ (field (.ref it) 0 >>= _) _ _ s
 refine wpAny_bind (wpAny_field ho hd (x := .ref t) rfl ?_)
 show wpAny _ _ (if (Value.ref t == Value.none) = true then _ else _) _ _ s
 rw [if_neg (show ¬ ((Value.ref t == Value.none) = true) from Bool.false_ne_true)]
 show wpAny _ _ (field (.ref it) 1 >>= _) _ _ s
 refine wpAny_bind (wpAny_field ho hd (x := .int i 0) rfl ?_)
 show wpAny _ _ (seqItems? (.ref t) >>= _) _ _ s
 refine wpAny_bind (wpAny_seqItems hol hdl ?_)
 simp only [Int.toNat_natCast, hx]
 refine wpAny_bind (wpAny_setField ho hd (by simp) (wpAny_pure ⟨x, rfl, wpAny_pure (hQ _ ?_ (Heap.SameBut.update ..))⟩))
 exact ⟨_, Heap.get?_update_self _ ho (Obj.isFreed_of_fields (Obj.data_mapFields hd _)), (Obj.cls_mapFields ..).trans hc, by
  rw [Obj.data_mapFields hd]; simp [rawInt]⟩
theorem g5x {it t : Addr} {i : Nat} {items : Array Value} {Q : Value -> Shared -> Prop} (hh : A.handled = none) (hit : s.heap.IsTupleIter it t i) (ht : s.heap.IsTuple t items) (hx : items[i]? = none)
  (hE : ∀ h' e, Heap.ExtBut it s.heap h' → (∃ o, h'.get? e = some o ∧ o.cls = .type "StopIteration") → E (.ref e) { s with heap := h' }) : wpAny (model prog w) A (Builtin.SmallTypes.nextOf (.ref it)) Q E s := by
 obtain ⟨o, ho, hc, hd⟩ := id hit
 obtain ⟨ol, hol, _, nl, hdl⟩ := ht
 unfold Builtin.SmallTypes.nextOf
 refine wpAny_bind (wpAny_callSpecial?_slot (name := Str.ofString "__next__") hit.typeIs F.slot_tuple_iterator_next
  (wpAny_call_entry F.slot_tuple_iterator_next hit.typeIs F.entry_tuple_iterator_next ?_ (F.args_tuple_iterator_next_1 _)))
 show wpAny _ _ (field (.ref it) 0 >>= _) _ _ s
 refine wpAny_bind (wpAny_field ho hd (x := .ref t) rfl ?_)
 show wpAny _ _ (if (Value.ref t == Value.none) = true then _ else _) _ _ s
 rw [if_neg (show ¬ ((Value.ref t == Value.none) = true) from Bool.false_ne_true)]
 show wpAny _ _ (field (.ref it) 1 >>= _) _ _ s
 refine wpAny_bind (wpAny_field ho hd (x := .int i 0) rfl ?_)
 show wpAny _ _ (seqItems? (.ref t) >>= _) _ _ s
 refine wpAny_bind (wpAny_seqItems hol hdl ?_)
 simp only [Int.toNat_natCast, hx]
 refine wpAny_bind (wpAny_rule (wpAny_bind (wpAny_setField ho hd (by simp) ?_)))
 show wpAny _ _ (newExc (.type "StopIteration") [] >>= _) _ _ _
 refine wpAny_bind ?_
 simp only [newExc, newTuple]
 refine wpAny_bind (wpAny_newObj_type ?_ (by size_fits))
 refine wpAny_bind (m := firstArgMember _ _) (wpAny_of_eq (a := Value.none) (by first | rfl | (simp only [firstArgMember]; rfl)) ?_)
 refine wpAny_newObj_type ?_ (by size_fits)
 simp only [raiseNew]
 refine wpAny_bind (wpAny_handled ?_)
 first | rw [show A.in1.handled = none from hh] | rw [hh]
 refine wpAny_bind (wpAny_pure (wpAny_throw ?_))
 exact hE _ _ (((Heap.SameBut.update ..).extBut.push _).push _) ⟨_, Heap.get?_push_size _ rfl, rfl⟩
theorem g1w {b : Bool} {it l : Addr} {i : Nat} {items : Array Value} {x : Value} {Q : Value -> Shared -> Prop} (hit : ItB b s.heap it l i) (hl : SqB b s.heap l items) (hx : items[i]? = some x)
  (hQ : ∀ h', ItB b h' it l (i + 1) -> Heap.SameBut it s.heap h' -> Q x { s with heap := h' }) : wpAny (model prog w) A (Builtin.SmallTypes.nextOf (.ref it)) Q E s := by
 cases b with
 | true => exact wpAny_nextOf_list_item hit hl hx hQ
 | false => exact g1v hit hl hx hQ
theorem h6r {b : Bool} {it l : Addr} {i : Nat} {items : Array Value} {Q : Value -> Shared -> Prop} (hh : A.handled = none) (hit : ItB b s.heap it l i) (hl : SqB b s.heap l items) (hx : items[i]? = none)
  (hE : ∀ h' e, Heap.ExtBut it s.heap h' → (∃ o, h'.get? e = some o ∧ o.cls = .type "StopIteration") → E (.ref e) { s with heap := h' }) : wpAny (model prog w) A (Builtin.SmallTypes.nextOf (.ref it)) Q E s := by
 cases b with
 | true => exact wpAny_nextOf_list_end hh hit hl hx hE
 | false => exact g5x hh hit hl hx hE
noncomputable def itO (b : Bool) (l : Addr) : Obj := { cls := .type (cond b "list_iterator" "tuple_iterator"), data := .fields #[.ref l, .int 0 0] }
theorem i5f {b : Bool} {l : Addr} {items : Array Value} {Q : Value -> Shared -> Prop} (hl : SqB b s.heap l items) (hQ : Q (.ref s.heap.objs.size) { s with heap := s.heap.push (itO b l) }) : wpAny (model prog w) A (pyIter (.ref l)) Q E s := by
 cases b with
 | true => exact wpAny_pyIter_list hl hQ
 | false => exact wpAny_pyIter_tuple hl hQ
theorem g9s {b1 b2 : Bool} {z TI TO i1 i2 l1 l2 : Addr} {k : Nat} {xs ys : Array Value} {x y a b : Value} {Q : Option Value -> Shared -> Prop} (D : ZipApart z TI TO i1 i2 l1 l2)
  (hz : IsZip s.heap z TI TO .none) (hTI : IsPair s.heap TI (.ref i1) (.ref i2)) (hTO : IsPair s.heap TO a b)
  (h1 : ItB b1 s.heap i1 l1 k) (h2 : ItB b2 s.heap i2 l2 k) (hl1 : SqB b1 s.heap l1 xs) (hl2 : SqB b2 s.heap l2 ys) (hx : xs[k]? = some x) (hy : ys[k]? = some y)
  (hQ : ∀ h', IsZip h' z TI TO (rawInt s.heap.objs.size) -> IsPair h' TO x y -> ItB b1 h' i1 l1 (k + 1) -> ItB b2 h' i2 l2 (k + 1) -> IsPair h' s.heap.objs.size x y ->
   (∀ c o, c ≠ z -> c ≠ TO -> c ≠ i1 -> c ≠ i2 -> s.heap.get? c = some o -> h'.get? c = some o) -> Q (some (.ref s.heap.objs.size)) { s with heap := h' }) :
  wpAny (model prog w) A (pyNext (.ref z)) Q E s := by
 have hT : s.TypeIs (.ref z) "zip" := ⟨_, hz, rfl⟩
 unfold pyNext
 refine wpAny_bind (wpAny_attempt (wpAny_callSpecial?_slot (name := Str.ofString "__next__") hT F.slot_zip_next (wpAny_call_entry F.slot_zip_next hT F.entry_zip_next ?_ (F.args_zip_next_1 _))))
 show wpAny _ _ (field (.ref z) 2 >>= _) _ _ _
 refine wpAny_bind (wpAny_field hz rfl (x := .bool false) rfl ?_)
 show wpAny _ _ (field (.ref z) 3 >>= _) _ _ _
 refine wpAny_bind (wpAny_field hz rfl (x := .ref TI) rfl ?_)
 refine wpAny_bind (wpAny_seqItems hTI rfl ?_)
 show wpAny _ _ (Builtin.SmallTypes.ownedTupleIsFree (.ref z) >>= _) _ _ _
 refine wpAny_bind ?_
 unfold Builtin.SmallTypes.ownedTupleIsFree
 refine wpAny_bind (wpAny_field hz rfl (x := .none) rfl (wpAny_pure ?_))
 simp only [if_true]
 refine wpAny_bind (wpAny_rule ?_)
 refine wpAny_bind (wpAny_field hz rfl (x := .ref TO) rfl ?_)
 refine wpAny_bind (wpAny_setField_rec hz (by simp) fun g1 hz1 s1 => ?_)
 replace hz1 : IsZip g1 z TI TO .ellipsis := hz1
 refine wpAny_bind ?_
 simp only [List.zipIdx_cons, List.zipIdx_nil, List.forIn_cons, List.forIn_nil]
 refine wpAny_bind (wpAny_bind (wpAny_onRaise ?_))
 show wpAny _ _ (Builtin.SmallTypes.nextOf (.ref i1) >>= _) _ _ _
 refine wpAny_bind (g1w (h1.at fun o e => s1.extBut _ _ D.i1z e) (hl1.at fun o e => s1.extBut _ _ D.l1z e) hx fun g2 h12 s2 => wpAny_pure ?_)
 have i5g : IsPair g2 TO a b := s2.extBut _ _ D.TOi1 (s1.extBut _ _ D.TOz hTO)
 refine wpAny_bind (wpAny_seqItems i5g rfl ?_)
 refine wpAny_bind (wpAny_updateSeq_pair i5g fun g3 hTO3 s3 => ?_)
 replace hTO3 : IsPair g3 TO x b := hTO3
 refine wpAny_bind (wpAny_letGo (wpAny_pure ?_))
 refine wpAny_bind (wpAny_bind (wpAny_onRaise ?_))
 show wpAny _ _ (Builtin.SmallTypes.nextOf (.ref i2) >>= _) _ _ _
 refine wpAny_bind (g1w (h2.at fun o e => s3.extBut _ _ D.TOi2.symm (s2.extBut _ _ D.i12.symm (s1.extBut _ _ D.i2z e))) (hl2.at fun o e => s3.extBut _ _ D.l2TO (s2.extBut _ _ D.l2i1 (s1.extBut _ _ D.l2z e))) hy fun g4 h24 s4 => wpAny_pure ?_)
 have j1h : IsPair g4 TO x b := s4.extBut _ _ D.TOi2 hTO3
 refine wpAny_bind (wpAny_seqItems j1h rfl ?_)
 refine wpAny_bind (wpAny_updateSeq_pair j1h fun g5 hTO5 s5 => ?_)
 replace hTO5 : IsPair g5 TO x y := hTO5
 refine wpAny_bind (wpAny_letGo (wpAny_pure (wpAny_pure ?_)))
 refine wpAny_bind (wpAny_seqItems hTO5 rfl ?_)
 refine wpAny_bind (wpAny_newTuple ?_)
 have hsz : g5.objs.size = s.heap.objs.size := by rw [s5.1, s4.1, s3.1, s2.1, s1.1]
 have hz5 : IsZip g5 z TI TO .ellipsis := s5.extBut _ _ D.TOz.symm (s4.extBut _ _ D.i2z.symm (s3.extBut _ _ D.TOz.symm (s2.extBut _ _ D.i1z.symm hz1)))
 have h15 : ItB b1 g5 i1 l1 (k + 1) := h12.at fun o e => s5.extBut _ _ D.TOi1.symm (s4.extBut _ _ D.i12 (s3.extBut _ _ D.TOi1.symm e))
 have h25 : ItB b2 g5 i2 l2 (k + 1) := h24.at fun o e => s5.extBut _ _ D.TOi2.symm e
 have hzlt : z < g5.objs.size := Heap.lt_size hz5
 show wpAny _ _ (Builtin.SmallTypes.ownedTupleHandOut (.ref z) (.ref g5.objs.size) >>= _) _ _ _
 refine wpAny_bind ?_
 unfold Builtin.SmallTypes.ownedTupleHandOut
 have hz6 : IsZip (g5.push { cls := .type "tuple", data := .seq #[x, y] }) z TI TO .ellipsis := Heap.get?_push_of_some _ hz5
 refine wpAny_bind (wpAny_setField_rec hz6 (by simp) fun g7 hz7 s7 => ?_)
 replace hz7 : IsZip g7 z TI TO (rawInt g5.objs.size) := hz7
 refine wpAny_setField_rec hz7 (by simp) fun g8 hz8 s8 => ?_
 replace hz8 : IsZip g8 z TI TO (rawInt g5.objs.size) := hz8
 have up : ∀ c o, c ≠ z -> g5.get? c = some o -> g8.get? c = some o := fun c o c1 e => s8.extBut _ _ c1 (s7.extBut _ _ c1 (Heap.get?_push_of_some _ e))
 have hT8 : IsPair g8 g5.objs.size x y := s8.extBut _ _ (Nat.ne_of_gt hzlt) (s7.extBut _ _ (Nat.ne_of_gt hzlt) (Heap.get?_push_size _ rfl))
 rw [hsz] at hz8 hT8
 refine wpAny_pure ⟨_, rfl, wpAny_pure ?_⟩
 show Q (some (.ref g5.objs.size)) _
 rw [hsz]
 exact hQ g8 hz8 (up _ _ D.TOz hTO5) (h15.at fun o e => up _ o D.i1z e) (h25.at fun o e => up _ o D.i2z e) hT8 fun c o c1 c2 c3 c4 e =>
  up c o c1 (s5.extBut _ _ c2 (s4.extBut _ _ c4 (s3.extBut _ _ c2 (s2.extBut _ _ c3 (s1.extBut _ _ c1 e)))))
theorem h4k {b1 b2 : Bool} {z TI TO i1 i2 l1 l2 : Addr} {k : Nat} {xs ys : Array Value} {a b : Value} {Q : Option Value -> Shared -> Prop} (hh : A.handled = none) (D : ZipApart z TI TO i1 i2 l1 l2)
  (hz : IsZip s.heap z TI TO .none) (hTI : IsPair s.heap TI (.ref i1) (.ref i2)) (hTO : IsPair s.heap TO a b)
  (h1 : ItB b1 s.heap i1 l1 k) (h2 : ItB b2 s.heap i2 l2 k) (hl1 : SqB b1 s.heap l1 xs) (hl2 : SqB b2 s.heap l2 ys) (hend : xs[k]? = none \/ ys[k]? = none)
  (hQ : ∀ h', (∀ c o, c ≠ z -> c ≠ TO -> c ≠ i1 -> c ≠ i2 -> s.heap.get? c = some o -> h'.get? c = some o) -> Q none { s with heap := h' }) : wpAny (model prog w) A (pyNext (.ref z)) Q E s := by
 have hT : s.TypeIs (.ref z) "zip" := ⟨_, hz, rfl⟩
 unfold pyNext
 have fin : ∀ (h' : Heap) (e : Addr), (∀ c o, c ≠ z → c ≠ TO → c ≠ i1 → c ≠ i2 → s.heap.get? c = some o → h'.get? c = some o) → (∃ o, h'.get? e = some o ∧ o.cls = .type "StopIteration") →
   wpAny (model prog w) A (isInstance (.ref e) (.type "StopIteration") >>= fun b => if b = true then pure none else throw (.ref e)) Q E { s with heap := h' } := fun h' e hk he => by
  obtain ⟨o, ho, hc⟩ := he
  refine wpAny_bind (wpAny_isInstance (T := "StopIteration") (b := true) ⟨o, ho, hc⟩ isSubtype_stop ?_)
  exact wpAny_pure (hQ _ hk)
 refine wpAny_bind (wpAny_attempt (wpAny_callSpecial?_slot (name := Str.ofString "__next__") hT F.slot_zip_next (wpAny_call_entry F.slot_zip_next hT F.entry_zip_next ?_ (F.args_zip_next_1 _))))
 show wpAny _ _ (field (.ref z) 2 >>= _) _ _ _
 refine wpAny_bind (wpAny_field hz rfl (x := .bool false) rfl ?_)
 show wpAny _ _ (field (.ref z) 3 >>= _) _ _ _
 refine wpAny_bind (wpAny_field hz rfl (x := .ref TI) rfl ?_)
 refine wpAny_bind (wpAny_seqItems hTI rfl ?_)
 show wpAny _ _ (Builtin.SmallTypes.ownedTupleIsFree (.ref z) >>= _) _ _ _
 refine wpAny_bind ?_
 unfold Builtin.SmallTypes.ownedTupleIsFree
 refine wpAny_bind (wpAny_field hz rfl (x := .none) rfl (wpAny_pure ?_))
 simp only [if_true]
 refine wpAny_bind (wpAny_rule ?_)
 refine wpAny_bind (wpAny_field hz rfl (x := .ref TO) rfl ?_)
 refine wpAny_bind (wpAny_setField_rec hz (by simp) fun g1 hz1 s1 => ?_)
 replace hz1 : IsZip g1 z TI TO .ellipsis := hz1
 refine wpAny_bind ?_
 simp only [List.zipIdx_cons, List.zipIdx_nil, List.forIn_cons, List.forIn_nil]
 refine wpAny_bind (wpAny_bind (wpAny_onRaise ?_))
 show wpAny _ _ (Builtin.SmallTypes.nextOf (.ref i1) >>= _) _ _ _
 cases hx : xs[k]? with
 | none =>
  refine wpAny_bind (h6r hh (h1.at fun o e => s1.extBut _ _ D.i1z e) (hl1.at fun o e => s1.extBut _ _ D.l1z e) hx fun g2 e s2 he => ?_)
  obtain ⟨oe, hoe, hce⟩ := he
  have hz2 : IsZip g2 z TI TO .ellipsis := s2 _ _ D.i1z.symm hz1
  have hez : e ≠ z := fun x => by subst x; rw [hz2] at hoe; cases hoe; simp at hce
  exact wpAny_setField_rec hz2 (by simp) fun g3 _ s3 => fin g3 e (fun c o c1 _ c3 _ x => s3.extBut _ _ c1 (s2 _ _ c3 (s1.extBut _ _ c1 x))) ⟨oe, s3.extBut _ _ hez hoe, hce⟩
 | some x =>
  have hy : ys[k]? = none := by
   rcases hend with h | h
   ·rw [hx] at h; cases h
   ·exact h
  refine wpAny_bind (g1w (h1.at fun o e => s1.extBut _ _ D.i1z e) (hl1.at fun o e => s1.extBut _ _ D.l1z e) hx fun g2 h12 s2 => wpAny_pure ?_)
  have i5g : IsPair g2 TO a b := s2.extBut _ _ D.TOi1 (s1.extBut _ _ D.TOz hTO)
  refine wpAny_bind (wpAny_seqItems i5g rfl ?_)
  refine wpAny_bind (wpAny_updateSeq_pair i5g fun g3 hTO3 s3 => ?_)
  refine wpAny_bind (wpAny_letGo (wpAny_pure ?_))
  refine wpAny_bind (wpAny_bind (wpAny_onRaise ?_))
  show wpAny _ _ (Builtin.SmallTypes.nextOf (.ref i2) >>= _) _ _ _
  refine wpAny_bind (h6r hh (h2.at fun o e => s3.extBut _ _ D.TOi2.symm (s2.extBut _ _ D.i12.symm (s1.extBut _ _ D.i2z e))) (hl2.at fun o e => s3.extBut _ _ D.l2TO (s2.extBut _ _ D.l2i1 (s1.extBut _ _ D.l2z e))) hy fun g4 e s4 he => ?_)
  obtain ⟨oe, hoe, hce⟩ := he
  have hz4 : IsZip g4 z TI TO .ellipsis := s4 _ _ D.i2z.symm (s3.extBut _ _ D.TOz.symm (s2.extBut _ _ D.i1z.symm hz1))
  have hez : e ≠ z := fun x => by subst x; rw [hz4] at hoe; cases hoe; simp at hce
  exact wpAny_setField_rec hz4 (by simp) fun g5 _ s5 => fin g5 e (fun c o c1 c2 c3 c4 x => s5.extBut _ _ c1 (s4 _ _ c4 (s3.extBut _ _ c2 (s2.extBut _ _ c3 (s1.extBut _ _ c1 x))))) ⟨oe, s5.extBut _ _ hez hoe, hce⟩
noncomputable abbrev zB1 (b1 : Bool) (h : Heap) (l1 : Addr) : Heap := h.push (itO b1 l1)
noncomputable abbrev zB2 (b1 b2 : Bool) (h : Heap) (l1 l2 : Addr) : Heap := (zB1 b1 h l1).push (itO b2 l2)
noncomputable abbrev zB3 (b1 b2 : Bool) (h : Heap) (l1 l2 : Addr) : Heap := (zB2 b1 b2 h l1 l2).push { cls := .type "tuple", data := .seq #[.ref h.objs.size, .ref (zB1 b1 h l1).objs.size] }
noncomputable abbrev zB4 (b1 b2 : Bool) (h : Heap) (l1 l2 : Addr) : Heap := (zB3 b1 b2 h l1 l2).push { cls := .type "tuple", data := .seq #[.none, .none] }
noncomputable abbrev zB5 (b1 b2 : Bool) (h : Heap) (l1 l2 : Addr) : Heap := (zB4 b1 b2 h l1 l2).push { cls := .type "zip", data := .fields #[.none, .bool false, .bool false, .ref (zB2 b1 b2 h l1 l2).objs.size, .ref (zB3 b1 b2 h l1 l2).objs.size] }
theorem g5y (b1 b2 : Bool) (l1 l2 : Addr) (xs ys : Array Value) :
  Meets (Builtin.«zip.__new__» ⟨[.type "zip", .ref l1, .ref l2], []⟩) (fun _ R s => SqB b1 s.heap l1 xs ∧ SqB b2 s.heap l2 ys ∧
   R (.ok (.ret (.ref (zB4 b1 b2 s.heap l1 l2).objs.size))) { s with heap := zB5 b1 b2 s.heap l1 l2 }) :=
 .of_wp fun prog w A R s h => by
  obtain ⟨hp, g, d, tk, os⟩ := s; obtain ⟨hl1, hl2, h⟩ := h
  have hsub := sub_zip
  have hL1 : SqB b1 (Shared.heap ⟨hp, g, d, tk, os⟩) l1 xs := hl1
  have hL2 : SqB b2 (Shared.heap ⟨hp.push (itO b1 l1), g, d, tk, os⟩) l2 ys := hl2.at fun o e => Heap.get?_push_of_some _ e
  wp_walk using i5f hL1, i5f hL2
  exact ⟨_, rfl, h⟩
theorem h4l {b1 b2 : Bool} {l1 l2 : Addr} {xs ys : Array Value} {Q : Value -> Shared -> Prop} (hl1 : SqB b1 s.heap l1 xs) (hl2 : SqB b2 s.heap l2 ys)
  (h : ∀ h', IsZip h' (s.heap.objs.size + 4) (s.heap.objs.size + 2) (s.heap.objs.size + 3) .none -> IsPair h' (s.heap.objs.size + 2) (.ref s.heap.objs.size) (.ref (s.heap.objs.size + 1)) ->
   IsPair h' (s.heap.objs.size + 3) .none .none -> ItB b1 h' s.heap.objs.size l1 0 -> ItB b2 h' (s.heap.objs.size + 1) l2 0 ->
   (∀ c o, s.heap.get? c = some o -> h'.get? c = some o) -> Q (.ref (s.heap.objs.size + 4)) { s with heap := h' }) :
  wpAny (model prog w) A (call (.type "zip") [.ref l1, .ref l2]) Q E s := by
 refine callType_new F.called_zip (by decide) (F.typeCall_zip_2 _ _) (F.newCall_zip_2 _ _) (fun obj => F.args_object_init_3 obj _ _) F.entry_zip_new
  (g5y b1 b2 l1 l2 xs ys) ⟨hl1, hl2, ?_⟩
 have z1 : (zB1 b1 s.heap l1).objs.size = s.heap.objs.size + 1 := Heap.size_push ..
 have z2 : (zB2 b1 b2 s.heap l1 l2).objs.size = s.heap.objs.size + 2 := by rw [Heap.size_push, z1]
 have z3 : (zB3 b1 b2 s.heap l1 l2).objs.size = s.heap.objs.size + 3 := by rw [Heap.size_push, z2]
 have z4 : (zB4 b1 b2 s.heap l1 l2).objs.size = s.heap.objs.size + 4 := by rw [Heap.size_push, z3]
 have g5 : (zB5 b1 b2 s.heap l1 l2).get? (zB4 b1 b2 s.heap l1 l2).objs.size = some _ := Heap.get?_push_size _ rfl
 have g4 : (zB5 b1 b2 s.heap l1 l2).get? (zB3 b1 b2 s.heap l1 l2).objs.size = some _ := Heap.get?_push_of_some _ (Heap.get?_push_size _ rfl)
 have g3 : (zB5 b1 b2 s.heap l1 l2).get? (zB2 b1 b2 s.heap l1 l2).objs.size = some _ := Heap.get?_push_of_some _ (Heap.get?_push_of_some _ (Heap.get?_push_size _ rfl))
 have g2 : (zB5 b1 b2 s.heap l1 l2).get? (zB1 b1 s.heap l1).objs.size = some (itO b2 l2) := Heap.get?_push_of_some _ (Heap.get?_push_of_some _ (Heap.get?_push_of_some _ (Heap.get?_push_size _ rfl)))
 have g1 : (zB5 b1 b2 s.heap l1 l2).get? s.heap.objs.size = some (itO b1 l1) := Heap.get?_push_of_some _ (Heap.get?_push_of_some _ (Heap.get?_push_of_some _ (Heap.get?_push_of_some _ (Heap.get?_push_size _ rfl))))
 show _ /\ _
 rw [z2, z3, z4] at g5
 rw [z1, z2] at g3
 rw [z3] at g4
 rw [z1] at g2
 rw [z4]
 exact ⟨⟨_, g5, rfl⟩, h _ g5 g3 g4 ⟨_, g1, rfl, rfl⟩ ⟨_, g2, rfl, rfl⟩ fun c o x =>
  Heap.get?_push_of_some _ (Heap.get?_push_of_some _ (Heap.get?_push_of_some _ (Heap.get?_push_of_some _ (Heap.get?_push_of_some _ x))))⟩
end
noncomputable def SqK (b : Bool) (K : PySem.W.Frag) (H : Hp) (l : Addr) (xs : List V) : Prop := match b with
 | true => SqL K H l xs
 | false => SqT K H l xs
theorem Inv.i1r {X : Cx} {pins : List (Addr × Obj)} {σ : St} {H : Hp} {s : Shared} {b : Bool} {l : Addr} {xs : List V} (I : Inv X pins σ H s) (h : SqK b X.K H l xs) : ∃ its : List Value, Vals xs its /\ SqB b s.heap l its.toArray /\ xs.length <= sizeLine := by
 cases b with
 | true =>
  obtain ⟨its, r, p, z⟩ := I.list h
  exact ⟨its, r, p.isList, z⟩
 | false =>
  obtain ⟨its, r, p, z⟩ := I.tuple h
  exact ⟨its, r, p, z⟩
theorem Inv.g3v {X : Cx} {pins : List (Addr × Obj)} {σ : St} {H : Hp} {s : Shared} {b : Bool} {l : Addr} {xs ys : List V} (I : Inv X pins σ H s) (h : SqK b X.K H l xs) (h' : SqK b X.K H l ys) : xs = ys := by
 cases b with
 | true => exact I.f5o h h'
 | false => exact I.f8i h h'
noncomputable def Itz (K : PySem.W.Frag) (b1 b2 : Bool) (l1 l2 : Addr) : It :=
 ⟨fun i H => ∃ xs ys x y, SqK b1 K H l1 xs /\ SqK b2 K H l2 ys /\ xs[i]? = some x /\ ys[i]? = some y,
  fun i H v H' => ∃ p x y, v = .ref p ∧ H p = none ∧ H' = upd H p (.tup [x, y]) ∧ (∀ xs, SqK b1 K H l1 xs → xs[i]? = some x) ∧ ∀ ys, SqK b2 K H l2 ys → ys[i]? = some y,
  fun i H => ∃ xs ys, SqK b1 K H l1 xs ∧ SqK b2 K H l2 ys ∧ (xs.length ≤ i ∨ ys.length ≤ i)⟩
theorem h4m {P : Program} {w : World} {K : PySem.W.Frag} {elts : List Expr} {kk : Nat} {tpos : Pos} {b1 b2 : Bool} {z TI TO i1 i2 l1 l2 : Addr} (D : ZipApart z TI TO i1 i2 l1 l2) :
  Turn P w K (.Tuple elts kk tpos) (Itz K b1 b2 l1 l2) [z, TI, TO, i1, i2] z (fun i h => IsZip h z TI TO .none /\ IsPair h TI (.ref i1) (.ref i2) /\ (∃ a b, IsPair h TO a b) /\ ItB b1 h i1 l1 i /\ ItB b2 h i2 l2 i) where
 mem := by simp
 obj := fun i h st b hb => by
  obtain ⟨hz, hTI, ⟨a, c, hTO⟩, ⟨o1, e1, _, d1⟩, ⟨o2, e2, _, d2⟩⟩ := st
  simp only [List.mem_cons, List.not_mem_nil, or_false] at hb
  rcases hb with rfl | rfl | rfl | rfl | rfl
  ·exact ⟨_, hz, fun v z => by cases z⟩
  ·exact ⟨_, hTI, fun v z => by cases z⟩
  ·exact ⟨_, hTO, fun v z => by cases z⟩
  ·exact ⟨_, e1, fun v z => by rw [d1] at z; cases z⟩
  ·exact ⟨_, e2, fun v z => by rw [d2] at z; cases z⟩
 keep := fun i h h' st k => by
  obtain ⟨hz, hTI, ⟨a, c, hTO⟩, h1, h2⟩ := st
  exact ⟨k z (by simp) _ hz, k TI (by simp) _ hTI, ⟨a, c, k TO (by simp) _ hTO⟩, h1.at fun o e => k i1 (by simp) o e, h2.at fun o e => k i2 (by simp) o e⟩
 item := by
  intro X hP hw hK hc i pins s σ H E I hf st hg
  subst hP hw hK
  obtain ⟨xs, ys, x, y, hq1, hq2, hx, hy⟩ := hg
  obtain ⟨us, r1, p1, _⟩ := I.i1r hq1
  obtain ⟨ws, r2, p2, _⟩ := I.i1r hq2
  obtain ⟨u, hu, ru⟩ := r1.get hx
  obtain ⟨v, hv, rv⟩ := r2.get hy
  obtain ⟨hz, hTI, ⟨a, b, hTO⟩, h1, h2⟩ := st
  refine g9s D hz hTI hTO h1 h2 p1 p2 (x := u) (y := v) (by simpa using hu) (by simpa using hv) fun h' z' TO' h1' h2' pT kk' => ?_
  refine ⟨.ref s.heap.objs.size, rfl, wpAny_letOwnedTupleGo_zip (s := { s with heap := h' }) z' fun h'' z'' sb => ?_⟩
  replace sb : Heap.SameBut z h' h'' := sb
  have k2 : ∀ c o, c ∉ [z, TI, TO, i1, i2] -> s.heap.get? c = some o -> h''.get? c = some o := fun c o hc e => by
   simp only [List.mem_cons, List.not_mem_nil, or_false, not_or] at hc
   exact sb.extBut _ _ hc.1 (kk' c o hc.1 hc.2.2.1 hc.2.2.2.1 hc.2.2.2.2 e)
  have I1 : Inv X pins σ H { s with heap := h'' } := I.f6g (t' := s.toks) k2 hf
  have zlt : z < s.heap.objs.size := Heap.lt_size hz
  have pT2 : IsPair h'' s.heap.objs.size u v := sb.extBut _ _ (Nat.ne_of_gt zlt) pT
  have fo := I.h3b (b := s.heap.objs.size) (Nat.le_refl _) (I.hok.fresh (Nat.le_refl _))
  have nT : H s.heap.objs.size = none := I.hok.fresh (Nat.le_refl _)
  have I2 : Inv X pins σ (upd H s.heap.objs.size (.tup [x, y])) { s with heap := h'' } := by
   refine I1.track ?_ fo.2.1 fo.2.2.2.2.1 fo.2.2.2.2.2 nT ⟨two_line, [u, v], .cons ru (.cons rv .nil), ⟨_, pT2, rfl, 0, rfl⟩⟩
   cases q : X.s₀.heap.get? s.heap.objs.size with
   | none => rfl
   | some o => exact absurd (Nat.lt_of_lt_of_le (Heap.lt_size q) I.sz) (Nat.lt_irrefl _)
  have ne : ∀ b ∈ [z, TI, TO, i1, i2], b ≠ s.heap.objs.size := fun b hb e => by
   have lt : b < s.heap.objs.size := by
    simp only [List.mem_cons, List.not_mem_nil, or_false] at hb
    rcases hb with rfl | rfl | rfl | rfl | rfl
    ·exact zlt
    ·exact Heap.lt_size hTI
    ·exact Heap.lt_size hTO
    ·obtain ⟨_, e, _⟩ := h1; exact Heap.lt_size e
    ·obtain ⟨_, e, _⟩ := h2; exact Heap.lt_size e
   exact Nat.ne_of_lt lt e
  refine ⟨.ref s.heap.objs.size, _, I2, rfl, ⟨_, x, y, rfl, nT, rfl, fun xs' h => by rw [I.g3v h hq1]; exact hx, fun ys' h => by rw [I.g3v h hq2]; exact hy⟩,
   ⟨z'', sb.extBut _ _ D.TIz (kk' _ _ D.TIz D.TITO D.TIi1 D.TIi2 hTI), ⟨_, _, sb.extBut _ _ D.TOz TO'⟩, h1'.at fun o e => sb.extBut _ _ D.i1z e, h2'.at fun o e => sb.extBut _ _ D.i2z e⟩, fun b hb => by rw [a4z (ne b hb)]; exact (hf b hb).1⟩
 done := by
  intro X hP hw hK hc i pins s σ H E I hf st hg
  subst hP hw hK
  obtain ⟨xs, ys, hq1, hq2, hle⟩ := hg
  obtain ⟨us, r1, p1, _⟩ := I.i1r hq1
  obtain ⟨ws, r2, p2, _⟩ := I.i1r hq2
  obtain ⟨hz, hTI, ⟨a, b, hTO⟩, h1, h2⟩ := st
  have l1' := r1.length
  have l2' := r2.length
  refine h4k (I.ok.hd hc) D hz hTI hTO h1 h2 p1 p2 (by rcases hle with h | h <;> simp <;> omega) fun h' kk' => ⟨rfl, I.f6g (t' := s.toks) (fun c o hc e => ?_) hf⟩
  simp only [List.mem_cons, List.not_mem_nil, or_false, not_or] at hc
  exact kk' c o hc.1 hc.2.2.1 hc.2.2.2.1 hc.2.2.2.2 e
 self := fun _ _ _ _ _ st h => wpAny_pyIter_zip st.1 h
noncomputable def i5h (K : PySem.W.Frag) (ta : TA) : TI := fun σ H R => ta σ H fun vs H1 => match vs with
 | [.ref l1, .ref l2] => (match H1 l1, H1 l2 with
  | some (.lst _), some (.lst _) => R (Itz K true true l1 l2) H1
  | some (.lst _), some (.tup _) => R (Itz K true false l1 l2) H1
  | some (.tup _), some (.lst _) => R (Itz K false true l1 l2) H1
  | some (.tup _), some (.tup _) => R (Itz K false false l1 l2) H1
  | _, _ => False)
 | _ => False
theorem g9t {X : Cx} {elts : List Expr} {kk : Nat} {tpos : Pos} {a b : Expr} {ta : TA} {p pos : Pos} (hg : Gl X "zip") (hm : X.mg "zip" = none) (ha : PA X [a, b] ta) (hs : starEach [a, b] X.env = [(false, eval a X.env), (false, eval b X.env)] := by rfl) (hs2 : starEach [b] X.env = [(false, eval b X.env)] := by rfl) :
  PI X (.Tuple elts kk tpos) (.Call (.Name "zip" p) [a, b] [] pos) (i5h X.K ta) := by
 intro pins s σ H R I h
 refine Call_ (f0h I hg hm boot_zip (PyProof.Rows.callWith_type1 (thn (ha pos pins s σ H _ I h) fun us s1 ⟨vs, H1, I1, r1, q1⟩ => ?_) (by rw [hs, hs2]) (by rw [hs2]; rfl)))
 match vs, q1 with
 | [.ref l1, .ref l2], q1 =>
  obtain ⟨u, u', e0, e, e'⟩ := r1.two
  cases e
  cases e'
  subst e0
  have q : ∃ (b1 b2 : Bool) (xs ys : List V), SqK b1 X.K H1 l1 xs /\ SqK b2 X.K H1 l2 ys /\ R (Itz X.K b1 b2 l1 l2) H1 := by
   have q1' : (match H1 l1, H1 l2 with
    | some (.lst _), some (.lst _) => R (Itz X.K true true l1 l2) H1
    | some (.lst _), some (.tup _) => R (Itz X.K true false l1 l2) H1
    | some (.tup _), some (.lst _) => R (Itz X.K false true l1 l2) H1
    | some (.tup _), some (.tup _) => R (Itz X.K false false l1 l2) H1
    | _, _ => False) := q1
   split at q1'
   ·rename_i e1 e2
    exact ⟨true, true, _, _, SqL.of e1, SqL.of e2, q1'⟩
   ·rename_i e1 e2
    exact ⟨true, false, _, _, SqL.of e1, SqT.of e2, q1'⟩
   ·rename_i e1 e2
    exact ⟨false, true, _, _, SqT.of e1, SqL.of e2, q1'⟩
   ·rename_i e1 e2
    exact ⟨false, false, _, _, SqT.of e1, SqT.of e2, q1'⟩
   ·exact q1'.elim
  obtain ⟨b1, b2, xs, ys, hq1, hq2, q⟩ := q
  obtain ⟨us, rr1, p1, _⟩ := I1.i1r hq1
  obtain ⟨ws, rr2, p2, _⟩ := I1.i1r hq2
  have L1 : l1 < s1.heap.objs.size := by obtain ⟨_, e, _⟩ := p1; exact Heap.lt_size e
  have L2 : l2 < s1.heap.objs.size := by obtain ⟨_, e, _⟩ := p2; exact Heap.lt_size e
  refine h4l p1 p2 fun h' hz hTI hTO h1 h2 hk => ?_
  refine wpAny_pyIter_zip (s := { s1 with heap := h' }) hz ?_
  have D : ZipApart (s1.heap.objs.size + 4) (s1.heap.objs.size + 2) (s1.heap.objs.size + 3) s1.heap.objs.size (s1.heap.objs.size + 1) l1 l2 := by
   generalize s1.heap.objs.size = n at L1 L2
   replace L1 : Nat.lt l1 n := L1
   replace L2 : Nat.lt l2 n := L2
   constructor <;> (intro e; have : (n : Nat) = n := rfl; simp only [Nat.lt_eq] at L1 L2; first | (have e' : (_ : Nat) = _ := e; omega))
  refine ⟨_, [s1.heap.objs.size + 4, s1.heap.objs.size + 2, s1.heap.objs.size + 3, s1.heap.objs.size, s1.heap.objs.size + 1], _, _, H1, rfl, I1.kept (t' := s1.toks) hk, h4m D, ⟨hz, hTI, ⟨_, _, hTO⟩, h1, h2⟩, fun b hb => ?_, q⟩
  have hb' : s1.heap.objs.size <= b := by
   simp only [List.mem_cons, List.not_mem_nil, or_false] at hb
   rcases hb with rfl | rfl | rfl | rfl | rfl
   ·exact Nat.le_add_right _ _
   ·exact Nat.le_add_right _ _
   ·exact Nat.le_add_right _ _
   ·exact Nat.le_refl _
   ·exact Nat.le_add_right _ _
  exact I1.h3b hb' (I1.hok.fresh hb')
theorem g3w {K : PySem.W.Frag} {b1 b2 : Bool} {l1 l2 : Addr} {xs ys : List V} {g : TG} {tb : TS} {D : Ends} {σ : St} {H : Hp} (Pv : Nat -> St -> Hp -> Prop) (h0 : Pv 0 σ H) (hl : ∀ i σ H, Pv i σ H -> SqK b1 K H l1 xs /\ SqK b2 K H l2 ys)
  (hs : ∀ i x y σ H p H', xs[i]? = some x -> ys[i]? = some y -> Pv i σ H -> H p = none -> Same H H' -> H' p = some (.tup [x, y]) -> g (.ref p) σ H' fun σ2 H2 => tb { D with nx := Pv (i + 1), ct := Pv (i + 1), bk := D.nx } σ2 H2)
  (hd : ∀ σ H, Pv (min xs.length ys.length) σ H -> D.nx σ H) : i3o (Itz K b1 b2 l1 l2) g tb D σ H := by
 refine ⟨fun i m σ H => m = min xs.length ys.length - i /\ i <= min xs.length ys.length /\ Pv i σ H, ⟨min xs.length ys.length, by simp, Nat.zero_le _, h0⟩, ?_⟩
 rintro i m σ H ⟨rfl, hi, p⟩
 obtain ⟨e1, e2⟩ := hl i σ H p
 by_cases hlt : i < min xs.length ys.length
 ·have hx : xs[i]? = some (xs[i]'(by omega)) := List.getElem?_eq_getElem _
  have hy : ys[i]? = some (ys[i]'(by omega)) := List.getElem?_eq_getElem _
  refine .inr ⟨⟨xs, ys, _, _, e1, e2, hx, hy⟩, Pv (i + 1), fun σ' H' p' => ⟨min xs.length ys.length - (i + 1), by omega, rfl, hlt, p'⟩, fun v H' y => ?_⟩
  obtain ⟨q, x, y, rfl, nq, rfl, k1, k2⟩ := y
  exact hs i x y σ H q _ (k1 _ e1) (k2 _ e2) p nq (Same.upd nq) a5n
 ·have e : i = min xs.length ys.length := by omega
  subst e
  exact .inl ⟨⟨xs, ys, e1, e2, by omega⟩, hd σ H p⟩
end L2
namespace L2
open PySem PySem.Spec PyProof.Rows
noncomputable def b0y (X : Cx) (scope : Scope) (cl : List (Str × Addr)) (C : Addr) (s₃ : Shared) (H₃ : Hp) (fp : List Addr) (x y : Str) : Cx where
 prog := X.prog
 w := X.w
 K := X.K
 mg := X.mg
 base := X.base
 A := X.A
 N := x :: y :: X.N
 s₀ := s₃
 H₀ := H₃
 env := compEnvC scope cl C X.env
 outer := X.stack
 stack := X.stack
 ex := fp
 fn := fun _ => false
 calm := X.calm
 pn := []
 xe := fun _ _ => False
structure c2y (X : Cx) (scope : Scope) (x y : Str) : Prop where
 kind : scope.kind = .function
 f0v : ∀ y ∈ scope.names, y.2 ≠ .cell
 loc : ∀ y ∈ scope.names, y.2 = .local -> scope.names.lookup y.1 = some .local
 own : scope.names.lookup x = some .local
 j1i : scope.names.lookup y = some .local
 free : ∀ y ∈ scope.names, y.2 = .free -> X.env.kindOf y.1 = some .cell \/ X.env.kindOf y.1 = some .free
 nd : (x :: y :: X.N).Nodup
 vis : ∀ y ∈ X.N, scope.names.lookup y ≠ some .local
noncomputable def g3x (J : It) (te : TE) (D : Addr) (σ : St) (H : Hp) (Q : VK) (_ : Tag Q) : Prop := ∃ (n : Nat) (W : Nat -> List V -> Hp -> Prop), W 0 [] H /\ ∀ i ys H, i <= n -> W i ys H -> H D = some (.lst ys) /\
 ((J.stop i H /\ Q (.ref D) H) \/ (i < n /\ J.go i H /\ ys.length < sizeLine /\ ∀ x H', J.yld i H x H' -> ∃ p u v, x = .ref p /\ H' p = some (.tup [u, v]) /\ te (some u :: some v :: σ) H' fun y H2 => H2 D = some (.lst ys) /\
  ∀ H3, a9t D H2 H3 -> H3 D = some (.lst (ys ++ [y])) -> W (i + 1) (ys ++ [y]) H3))
noncomputable def g9u (wi : TI) (te : TE) : TE := fun σ H Q => wi σ H fun J H1 => ∀ D H2, H1 D = none -> Same H1 H2 -> H2 D = some (.lst []) -> g3x J te D σ H2 Q ⟨⟩
section
variable {X : Cx} {scope : Scope} {x y : Str} {cl : List (Str × Addr)} {pins : List (Addr × Obj)} {σ : St} {H : Hp} {s s₄ : Shared} {fp : List Addr}
theorem Inv.i8o (S : c2y X scope x y) (I : Inv X pins σ H s) (hcl : ∀ y c, cl.lookup y = some c -> (y, NameKind.free) ∈ scope.names /\ X.env.cells.lookup y = some c) (hcl2 : ∀ y, (y, NameKind.free) ∈ scope.names -> cl.lookup y = X.env.cells.lookup y)
  (hfp : ∀ b ∈ fp, f5q X pins H b) (hlt : ∀ b ∈ fp, b < s.heap.objs.size) {m : Str -> Option Value} (hns : s₄.heap.Ns s.heap.objs.size m) (hk : ∀ b o, s.heap.get? b = some o -> s₄.heap.get? b = some o) (hos : s₄.os = s.os) (hg : s₄.gens = s.gens) :
  Inv (b0y X scope cl s.heap.objs.size s H fp x y) [] (none :: none :: σ) H s₄ := by
 refine ⟨⟨I.ok.mod, ?_, I.ok.glob, I.ok.blt, Nat.le_refl _, fun y z c h1 h2 => I.ok.inj y z c (hcl y c h1).2 (hcl z c h2).2, fun y hy => ?_, (fun y c h => nomatch h), I.ok.hd, I.ok.frames, .inl rfl, fun b hb => ⟨Nat.ne_of_lt (hlt b hb), fun y c e => (hfp b hb).2.2.2.2.1 y c (hcl y c e).2⟩,
  fun b o e => I.bs b o e, Nat.le_trans I.ok.bsz I.sz, fun b o e hb => ?_, fun b hb hf => ?_, I.stack, I.g1f⟩,
  hos, by rw [hg]; exact I.bare, Un.kept hk, ⟨m, hns, fun i y v h1 h2 h3 => ?_⟩, fun y c e => ?_, I.hok.fresh (Nat.le_refl _), fun y c e => I.d4t y c (hcl y c e).2, fun p hp => absurd (show p ∈ ([] : List (Addr × Obj)) from hp) (by simp), I.hok.kept hk, by show (none :: none :: σ).length = (x :: y :: X.N).length; rw [List.length_cons, List.length_cons, List.length_cons, List.length_cons, I.len]⟩
 ·exact S.kind
 ·rcases b5l (env := X.env) (sc := scope) (x := y) hy with z | z
  ·obtain ⟨c, hc⟩ := I.ok.has y (S.free _ z rfl)
   exact ⟨c, (hcl2 y z).trans hc⟩
  ·exact absurd rfl (S.f0v _ z)
 ·rcases (hfp b hb).2.2.2.1 with z | z
  ·exact I.ok.h8h b o e z
  ·exact absurd (Nat.lt_of_lt_of_le (Heap.lt_size (I.ok.bs b o e).1) z) (Nat.lt_irrefl _)
 ·rcases List.mem_cons.mp (I.f4j b hf) with z | z
  ·exact (hfp b hb).2.1 z
  ·exact (hfp b hb).2.2.1 z
 ·match i, h1, h2 with
  | 0, h1, h2 => cases h2
  | 1, h1, h2 => cases h2
  | i + 2, h1, h2 =>
   have h1' : X.N[i]? = some y := by simpa [b0y] using h1
   have h2' : σ[i]? = some (some v) := by simpa using h2
   have hyN : y ∈ X.N := List.mem_of_getElem? h1'
   have hc : (relabel scope X.env).names.lookup y = some .cell \/ (relabel scope X.env).names.lookup y = some .free := by
    rcases h3 with z | z | z
    ·exfalso
     rcases c2u (env := X.env) scope.names _ z with q | ⟨q, _⟩
     ·exact S.vis y hyN q
     ·cases q
    ·exact .inl z
    ·exact .inr z
   have hfr : (y, NameKind.free) ∈ scope.names := by
    rcases b5l hc with z | z
    ·exact z
    ·exact absurd rfl (S.f0v _ z)
   obtain ⟨mX, hnX, hl⟩ := I.loc
   have hk2 := S.free _ hfr rfl
   have i8g : Vis X.env.scope y := by
    rcases hk2 with z | z
    ·exact .inr (.inl z)
    ·exact .inr (.inr z)
   obtain ⟨u, ru, lk⟩ := hl i y v h1' h2' i8g
   refine ⟨u, ru, .inr ⟨hc, ?_⟩⟩
   rcases lk with ⟨z, _⟩ | ⟨_, c, ec, o, ho, hd⟩
   ·rcases hk2 with q | q
    ·rw [q] at z; cases z
    ·rw [q] at z; cases z
   ·exact ⟨c, (hcl2 y hfr).trans ec, o, hk c o ho, hd⟩
 ·obtain ⟨v, o, ho, hd⟩ := I.cell y c (hcl y c e).2
  exact ⟨v, o, hk c o ho, hd⟩
theorem Inv.h9t {σ' : St} {H' : Hp} {s' : Shared} {h' : Heap} (I : Inv X pins σ H s) (hfp : ∀ b ∈ fp, f5q X pins H b) (J : Inv (b0y X scope cl s.heap.objs.size s H fp x y) [] σ' H' s') (hs : Heap.SameBut s.heap.objs.size s'.heap h') :
  Inv X pins σ H' { s' with heap := h' } := by
 have ne : ∀ {b : Addr} {o : Obj}, s.heap.get? b = some o -> b ≠ s.heap.objs.size := fun e => Nat.ne_of_lt (Heap.lt_size e)
 have u := J.base
 have u' : Un (frs X.stack) fp H H' s.heap h' := ⟨fun b o e n hb hx => hs.extBut b o (ne e) (u.keep b o e n hb hx), fun b o e n hb hx => (u.slot b o e n hb hx).elim fun sl q => ⟨sl, hs.extBut b _ (ne e) q⟩, u.free,
  fun b o e hx => (u.there b o e hx).elim fun o' q => ⟨o', hs.extBut b o' (ne e) q⟩, u.tups, u.g1d, u.g1e⟩
 have nC : ∀ {b : Addr} {o : HO}, H' b = some o -> b ≠ s.heap.objs.size := fun {b o} e z => by
  have f : H' s.heap.objs.size = none := J.free
  rw [z, f] at e; cases e
 have ok : HOk X.prog X.w H' h' := fun b o e => (J.hok b o e).stay (fun c v hc q => hs.extBut c v (by
  rcases hc with z | z
  ·rw [z]; exact nC e
  ·exact nC z) q) (fun _ q => q) fun _ _ q => q
 exact I.call' (s' := { s' with heap := h' }) (ch := fp) J.os u' ok J.bare fun b hb => ⟨(hfp b hb).2.2.2.1, (hfp b hb).2.1, (hfp b hb).2.2.2.2.1, (hfp b hb).2.2.2.2.2⟩
end
section
variable {X : Cx} {scope : Scope} {x y : Str} {pins : List (Addr × Obj)} {σ : St} {elt iter : Expr} {px py tpos pos : Pos} {kk : Nat} {wi : TI} {te : TE}
theorem f0z {s₂ : Shared} {H1 : Hp} {it : Addr} {fp : List Addr} {tn : Nat -> Heap -> Prop} {J : It} {Q : VK} {RR : Value -> Addr -> Result -> Shared -> Prop} {E : Value -> Shared -> Prop} {cl : List (Str × Addr)}
  (S : c2y X scope x y) (hc : X.calm = true) (he : ∀ cl C s₃ H₃ fp, PE (b0y X scope cl C s₃ H₃ fp x y) elt te)
  (hcl : ∀ y c, cl.lookup y = some c -> (y, NameKind.free) ∈ scope.names /\ X.env.cells.lookup y = some c) (hcl2 : ∀ y, (y, NameKind.free) ∈ scope.names -> cl.lookup y = X.env.cells.lookup y)
  (I2 : Inv X pins σ H1 s₂) (T : Turn X.prog X.w X.K (.Tuple [.Name x px, .Name y py] kk tpos) J fp it tn) (st2 : tn 0 s₂.heap) (f2 : ∀ b ∈ fp, f5q X pins H1 b) (h : ∀ D H2, H1 D = none -> Same H1 H2 -> H2 D = some (.lst []) -> g3x J te D σ H2 Q ⟨⟩)
  (hRR : ∀ (D C : Addr) (s' : Shared) (H' : Hp), (∃ m, s'.heap.Ns C m) -> (∀ h' , Heap.SameBut C s'.heap h' -> Inv X pins σ H' { s' with heap := h' }) -> f5q X pins H' C -> Q (.ref D) H' -> RR (.ref D) C (.ok .next) s') :
  wpAny (model X.prog X.w) X.A (newList []) (fun acc s₃ => wpAny (model X.prog X.w) X.A (newFunctionEnv scope X.env.globals cl [] X.env.qual none .none (some X.env)) (fun cenv s₄ =>
   codeAny (model X.prog X.w) X.A (.compStart (.ListComp elt [⟨.Tuple [.Name x px, .Name y py] kk tpos, iter, [], 0⟩] scope pos) 0 (.ref it) acc { cenv with scope := relabel scope X.env }) (RR acc cenv.locals) s₄) E s₃) E s₂ := by
 have hfr : H1 s₂.heap.objs.size = none := I2.hok.fresh (Nat.le_refl _)
 have hCW := h s₂.heap.objs.size _ hfr (Same.upd hfr) a5n
 refine wpAny_newObj_type ?_
 have I3 : Inv X pins σ (upd H1 s₂.heap.objs.size (.lst [])) { s₂ with heap := s₂.heap.push { cls := .type "list", data := .seq ([] : List Value).toArray }, toks := s₂.toks } :=
  I2.laid (t' := s₂.toks) (fun b u e => Heap.get?_push_of_some _ e) (Nat.le_refl _) ⟨Nat.zero_le _, [], 0, .nil, Heap.get?_push_size _ rfl⟩
 have nD : ∀ b ∈ fp, b ≠ s₂.heap.objs.size := fun b hb => by
  obtain ⟨o, e, _⟩ := T.obj 0 _ st2 b hb
  exact Nat.ne_of_lt (Heap.lt_size e)
 have f3 : ∀ b ∈ fp, f5q X pins (upd H1 s₂.heap.objs.size (.lst [])) b := fun b hb => ⟨by rw [a4z (nD b hb)]; exact (f2 b hb).1, (f2 b hb).2⟩
 generalize hH3 : upd H1 s₂.heap.objs.size (.lst []) = H3 at *
 have st3 : tn 0 (s₂.heap.push { cls := .type "list", data := .seq ([] : List Value).toArray }) := T.keep _ _ _ st2 fun b _ o e => Heap.get?_push_of_some _ e
 have h9h : ∀ b ∈ fp, b < (s₂.heap.push { cls := .type "list", data := .seq ([] : List Value).toArray }).objs.size := fun b hb => by
  obtain ⟨o, e, _⟩ := T.obj 0 _ st3 b hb
  exact Heap.lt_size e
 show wpAny (model X.prog X.w) X.A (newFunctionEnv scope X.env.globals cl [] X.env.qual none .none (some X.env)) _ E { s₂ with heap := s₂.heap.push { cls := .type "list", data := .seq ([] : List Value).toArray }, toks := s₂.toks }
 generalize hs3 : ({ s₂ with heap := s₂.heap.push { cls := .type "list", data := .seq ([] : List Value).toArray }, toks := s₂.toks } : Shared) = s₃ at *
 have eh : s₃.heap = s₂.heap.push { cls := .type "list", data := .seq ([] : List Value).toArray } := by rw [← hs3]
 rw [<- eh] at st3 h9h
 generalize s₂.heap.objs.size = D at *
 refine wpAny_newFunctionEnv S.f0v (by intro y hy; simp at hy) (fun h₁ hns₁ hsb₁ => ?_) S.kind
 have hk1 : ∀ b o, s₃.heap.get? b = some o -> h₁.get? b = some o := fun b o e => hsb₁.extBut b o (Nat.ne_of_lt (Heap.lt_size e)) (Heap.get?_push_of_some _ e)
 have J0 : Inv (b0y X scope cl s₃.heap.objs.size s₃ H3 fp x y) [] (none :: none :: σ) H3 { s₃ with heap := h₁, toks := s₃.toks + ([] : List (Str × Value)).length } := I3.i8o S hcl hcl2 f3 h9h hns₁ hk1 rfl rfl
 obtain ⟨n0, W, w0, turn⟩ := hCW
 have loop : codeAny (model X.prog X.w) X.A (.compLoop (.ListComp elt [⟨.Tuple [.Name x px, .Name y py] kk tpos, iter, [], 0⟩] scope pos) 0 (.ref it) (.ref D) (compEnvC scope cl s₃.heap.objs.size X.env)) (RR (.ref D) s₃.heap.objs.size) { s₃ with heap := h₁, toks := s₃.toks + ([] : List (Str × Value)).length } := by
  refine codeAny_loop rfl (fun n s' => ∃ i ys o o' H', Inv (b0y X scope cl s₃.heap.objs.size s₃ H3 fp x y) [] (o :: o' :: σ) H' s' /\ tn i s'.heap /\ (∀ b ∈ fp, H' b = none) /\ W i ys H' /\ i <= n0 /\ n = n0 - i) (fun n s5 hI => ?_) n0
   ⟨0, [], none, none, H3, J0, T.keep _ _ _ st3 (fun b _ o e => hk1 b o e), fun b hb => (f3 b hb).1, w0, Nat.zero_le _, rfl⟩
  obtain ⟨i, ys, o5, o5', H5, I5, st5, fr5, w5, hin, hnn⟩ := hI
  have stat : ∀ {H' : Hp}, (∀ b ∈ fp, H' b = none) -> ∀ b ∈ fp, f5q (b0y X scope cl s₃.heap.objs.size s₃ H3 fp x y) [] H' b := fun hn b hb =>
   ⟨hn b hb, Nat.ne_of_lt (h9h b hb), fun z => (List.mem_cons.mp (I3.f4j b z)).elim (fun q => (f3 b hb).2.1 q) fun q => (f3 b hb).2.2.1 q, .inl hb, fun y c e => (f3 b hb).2.2.2.2.1 y c (hcl y c e).2, fun p hp => absurd (show p ∈ ([] : List (Addr × Obj)) from hp) (by simp)⟩
  show wpAny _ X.A ((compTurn (.ListComp elt [⟨.Tuple [.Name x px, .Name y py] kk tpos, iter, [], 0⟩] scope pos) 0 (.ref it) (.ref D) (compEnvC scope cl s₃.heap.objs.size X.env)).onRaise (fun x => do noteFrame x (compEnvC scope cl s₃.heap.objs.size X.env); theTreesLotGoes x)) _ _ s5
  refine wpAny_noted ?_
  rw [compTurn_list1]
  refine wpAny_bind (wpAny_standAt (wpAny_bind ?_))
  obtain ⟨hD5, alt⟩ := turn i ys H5 hin w5
  rcases alt with ⟨stop, q⟩ | ⟨hlt, go, hsz, step⟩
  ·refine wpAny_mono (T.done (b0y X scope cl s₃.heap.objs.size s₃ H3 fp x y) rfl rfl rfl hc i [] s5 _ H5 _ I5 (stat fr5) st5 stop) (fun r s6 ⟨hr, I6⟩ => ?_) fun _ _ z => z
   subst hr
   refine wpAny_pure ?_
   obtain ⟨m6, hn6, _⟩ := I6.loc
   exact hRR D s₃.heap.objs.size s6 H5 ⟨m6, hn6⟩ (fun h' hs' => I3.h9t f3 I6 hs') (I3.h3b (Nat.le_refl _) I6.free) q
  ·refine wpAny_mono (T.item (b0y X scope cl s₃.heap.objs.size s₃ H3 fp x y) rfl rfl rfl hc i [] s5 _ H5 _ I5 (stat fr5) st5 go) (fun r s6 ⟨u, hr, h6⟩ => ?_) fun _ _ z => z
   subst hr
   refine wpAny_bind (wpAny_mono h6 (fun _ s7 ⟨v, H7, I7, r7, y7, st7, fr7⟩ => ?_) fun _ _ z => z)
   have I7' := I7.pinned (stat fr7) (T.obj _ _ st7)
   obtain ⟨p7, u1, u2, e7, t7, step7⟩ := step v H7 y7
   subst e7
   have G1 := b2q (X := b0y X scope cl s₃.heap.objs.size s₃ H3 fp x y) (pos := px) (i := 0) (x := x) S.nd rfl (.inl (lookup_relabel_local S.own)) (.inr (lookup_relabel_local S.own))
   have G2 := b2q (X := b0y X scope cl s₃.heap.objs.size s₃ H3 fp x y) (pos := py) (i := 1) (x := y) S.nd rfl (.inl (lookup_relabel_local S.j1i)) (.inr (lookup_relabel_local S.j1i))
   have G := h5t (X := b0y X scope cl s₃.heap.objs.size s₃ H3 fp x y) (pos := tpos) (k := kk) (n := 2) hc (f5p G1 (f5p G2 g8a)) rfl rfl
   refine wpAny_bind (wpAny_mono (G _ s7 _ H7 (.ref p7) u (fun σ' H' => σ' = some u1 :: some u2 :: σ /\ H' = H7) I7' r7 ⟨p7, [u1, u2], rfl, SqT.of t7, rfl, _, _, rfl, _, _, rfl, rfl, rfl, rfl⟩) (fun _ s8 hs8 => ?_) fun _ _ z => False.elim z)
   obtain ⟨σ8, H8, I8, rfl, rfl⟩ := hs8
   refine wpAny_bind (wpAny_bind (wpAny_mono (he cl s₃.heap.objs.size s₃ H3 fp _ s8 _ _ _ I8 step7) (fun yv s9 hs9 => ?_) fun _ _ z => False.elim z))
   obtain ⟨y', H9, I9, r9, hD9, k9⟩ := hs9
   refine wpAny_bind (wpAny_mono (f0o (X := b0y X scope cl s₃.heap.objs.size s₃ H3 fp x y) _ s9 _ H9 (.ref D) [y'] (.ref D) [yv] (fun _ H' => H' = upd H9 D (.lst (ys ++ [y']))) I9 rfl (.cons r9 .nil) ⟨D, ys, y', rfl, rfl, hD9, hsz, rfl⟩) (fun _ sA hsA => ?_) fun _ _ z => False.elim z)
   obtain ⟨_, HA, IA, _, rfl⟩ := hsA
   refine wpAny_pure ?_
   have wA := k9 _ a9t.upd a5n
   refine wpAny_pure ⟨rfl, n0 - (i + 1), by omega, i + 1, ys ++ [y'], some u1, some u2, _, IA.d4u (pins := []) (pl := f4k fp s7.heap), T.keep _ _ _ st7 (fun b hb o e => (IA.pin (b, o) (List.mem_append_right _ (List.mem_append_right _ (b7s hb e)))).1), fun b hb => ?_, wA, hlt, rfl⟩
   obtain ⟨o, e, d⟩ := T.obj _ _ st7 b hb
   exact (IA.pin (b, o) (List.mem_append_right _ (List.mem_append_right _ (b7s hb e)))).2.1
 exact codeAny_compStart_list loop (T.self _ 0 _ _ _ (T.keep _ _ _ st3 fun b _ o e => hk1 b o e) loop)
theorem h4n (hi : PI X (.Tuple [.Name x px, .Name y py] kk tpos) iter wi) (he : ∀ cl C s₃ H₃ fp, PE (b0y X scope cl C s₃ H₃ fp x y) elt te) (S : c2y X scope x y) (hc : X.calm = true)
  (hs : ∀ x, foldedSetIterable iter X.env x = pure x := by intro _; rfl) : PE X (.ListComp elt [⟨.Tuple [.Name x px, .Name y py] kk tpos, iter, [], 0⟩] scope pos) (g9u wi te) := by
 intro pins s σ H Q I h
 obtain ⟨cl, hclos, hcl, hcl2⟩ := d1h (env := X.env) (sc := scope) fun y hy => I.ok.has y (S.free _ hy rfl)
 rw [eval_ListComp]
 refine wpAny_comprehension_free (use := none) rfl hs hclos S.kind S.loc ?_
 refine thn (hi pins s σ H _ I h) fun v s1 h1 => thn h1 fun itv s2 h2 => ?_
 obtain ⟨it, fp, tn, J, H2, e, I2, T, st2, f2, hW⟩ := h2
 subst e
 exact f0z (RR := fun acc C => compPost (model X.prog X.w) X.A X.xe none (EP X pins σ Q) acc C) S hc he hcl hcl2 I2 T st2 f2 hW fun D C s' H' hm hI _ hq =>
  hm.elim fun m hn => ⟨m, hn, fun h' hs' => ⟨.ref D, H', hI h' hs', rfl, hq⟩⟩
theorem h4o {i : Nat} {y' : Str} {py' spos : Pos} (hN : X.N.Nodup) (hyi : X.N[i]? = some y') (hy : X.env.scope.names.lookup y' = some .local) (hi : PI X (.Tuple [.Name x px, .Name y py] kk tpos) iter wi) (he : ∀ cl C s₃ H₃ fp, PE (b0y X scope cl C s₃ H₃ fp x y) elt te) (S : c2y X scope x y) (hc : X.calm = true)
  (hsw : swapsWith (.ListComp elt [⟨.Tuple [.Name x px, .Name y py] kk tpos, iter, [], 0⟩] scope pos) (some (.Name y' py')) spos.line X.env = pure true := by rfl)
  (hs : ∀ x, foldedSetIterable iter X.env x = pure x := by intro _; rfl) : PS X (.Assign [.Name y' py'] (.ListComp elt [⟨.Tuple [.Name x px, .Name y py] kk tpos, iter, [], 0⟩] scope pos) spos) (i6z (g9u wi te) (g7z i)) := by
 intro pins s σ H D I h
 obtain ⟨cl, hclos, hcl, hcl2⟩ := d1h (env := X.env) (sc := scope) fun y hy => I.ok.has y (S.free _ hy rfl)
 rw [exec_Assign_Name_used _ _ _ _ hsw]
 refine wpAny_bind (wpAny_standAt (wpAny_bind ?_))
 show wpAny _ X.A (do let _ <- comprehension (.ListComp elt [⟨.Tuple [.Name x px, .Name y py] kk tpos, iter, [], 0⟩] scope pos) scope X.env _ (newList []) false (eval iter X.env) (some (assign (.Name y' py') X.env))) _ _ s
 refine wpAny_bind (wpAny_mono (wpAny_comprehension_free (use := some (assign (.Name y' py') X.env)) (Q := fun _ s' => SP X pins D .next s') rfl hs hclos S.kind S.loc ?_) (fun _ s' hq => wpAny_pure (wpAny_pure hq)) fun _ _ e => e)
 refine thn (hi pins s σ H _ I h) fun v s1 h1 => thn h1 fun itv s2 h2 => ?_
 obtain ⟨it, fp, tn, J, H2, e, I2, T, st2, f2, hW⟩ := h2
 subst e
 refine f0z (Q := fun v H' => D.nx (σ.set i (some v)) H') (RR := fun acc C => compPost (model X.prog X.w) X.A X.xe (some (assign (.Name y' py') X.env)) (fun _ s' => SP X pins D .next s') acc C) S hc he hcl hcl2 I2 T st2 f2 hW fun L C s' H' hm hI hfp hq => ?_
 obtain ⟨m, hn⟩ := hm
 have I' : Inv X pins σ H' s' := hI s'.heap (Heap.SameBut.refl ..)
 show wpAny _ X.A (assign (.Name y' py') X.env (.ref L)) _ _ s'
 refine wpAny_assign_Name (f0g (v := .ref L) I' hN hyi (.inl hy) rfl (fun s'' I'' hsb => ?_) (.inr hy))
 obtain ⟨a, hsame, ha⟩ := hsb
 have nea : C ≠ a := by
  rcases ha with z | z
  ·rw [z]; exact hfp.2.1
  ·exact fun q => hfp.2.2.2.2.1 y' a z q.symm
 refine ⟨m, hn.sameBut hsame nea, fun h' hs' => ⟨_, H', I''.turned (t' := s''.toks) (it := C) (fun b o hb e => hs'.extBut b o hb e) hfp.1 hfp.2.1 hfp.2.2.2.1 hfp.2.2.2.2.1 hfp.2.2.2.2.2, hq⟩⟩
end
noncomputable def g9v (sc scope : Scope) (x y : Str) (N : List Str) : Bool :=
 (scope.kind == .function) && scope.names.all (fun y => y.2 != .cell) && scope.names.all (fun y => y.2 != .local || scope.names.lookup y.1 == some .local) && (scope.names.lookup x == some .local) && (scope.names.lookup y == some .local) &&
 scope.names.all (fun y => y.2 != .free || (sc.names.lookup y.1 == some .cell || sc.names.lookup y.1 == some .free)) && decide ((x :: y :: N).Nodup) && N.all (fun y => scope.names.lookup y != some .local)
theorem h6s {X : Cx} {sc scope : Scope} {x y : Str} {N : List Str} (hsc : X.env.scope = sc) (hN : X.N = N) (h : g9v sc scope x y N = true) : c2y X scope x y := by
 subst hN hsc
 unfold g9v at h
 simp only [Bool.and_eq_true, List.all_eq_true, beq_iff_eq, Bool.or_eq_true, bne_iff_ne, ne_eq, decide_eq_true_eq] at h
 obtain ⟨⟨⟨⟨⟨⟨⟨h1, h2⟩, h3⟩, h4⟩, h5⟩, h6⟩, h7⟩, h8⟩ := h
 exact ⟨h1, h2, fun y hy e => (h3 y hy).resolve_left fun z => z e, h4, h5, fun y hy e => (h6 y hy).resolve_left fun z => z e, h7, h8⟩
theorem g5z {K : PySem.W.Frag} {b1 b2 : Bool} {l1 l2 D : Addr} {xs ys : List V} {te : TE} {σ : St} {H : Hp} {Q : VK} (Pv : Nat -> List V -> Hp -> Prop) (h0 : Pv 0 [] H) (hsz : xs.length <= sizeLine)
  (hD : ∀ i zs H, i <= min xs.length ys.length -> Pv i zs H -> H D = some (.lst zs) /\ SqK b1 K H l1 xs /\ SqK b2 K H l2 ys /\ zs.length = i)
  (hs : ∀ i x y zs H p H', xs[i]? = some x -> ys[i]? = some y -> Pv i zs H -> H p = none -> Same H H' -> H' p = some (.tup [x, y]) -> te (some x :: some y :: σ) H' fun z H2 => H2 D = some (.lst zs) /\ ∀ H3, a9t D H2 H3 -> H3 D = some (.lst (zs ++ [z])) -> Pv (i + 1) (zs ++ [z]) H3)
  (hd : ∀ zs H, Pv (min xs.length ys.length) zs H -> Q (.ref D) H) : g3x (Itz K b1 b2 l1 l2) te D σ H Q ⟨⟩ := by
 refine ⟨min xs.length ys.length, Pv, h0, fun i zs H hi p => ?_⟩
 obtain ⟨e1, e2, e3, e4⟩ := hD i zs H hi p
 refine ⟨e1, ?_⟩
 by_cases hlt : i < min xs.length ys.length
 ·have hx : xs[i]? = some (xs[i]'(by omega)) := List.getElem?_eq_getElem _
  have hy : ys[i]? = some (ys[i]'(by omega)) := List.getElem?_eq_getElem _
  refine .inr ⟨hlt, ⟨xs, ys, _, _, e2, e3, hx, hy⟩, by omega, fun v H' q => ?_⟩
  obtain ⟨q, x, y, rfl, nq, rfl, k1, k2⟩ := q
  exact ⟨q, x, y, rfl, a5n, hs i x y zs H q _ (k1 _ e2) (k2 _ e3) p nq (Same.upd nq) a5n⟩
 ·have e : i = min xs.length ys.length := by omega
  subst e
  exact .inl ⟨⟨xs, ys, e2, e3, by omega⟩, hd zs H p⟩
end L2
namespace L2
open PySem PySem.Spec PyProof.Rows
noncomputable def i5i (K : PySem.W.Frag) (tl : TE) : TI := fun σ H R => tl σ H fun x H1 => match x with
 | .ref a => (match H1 a with
  | some (.tup _) => R (Itt K a) H1
  | _ => False)
 | _ => False
theorem g9w {X : Cx} {tg l : Expr} {tl : TE} (hl : PE X l tl) : PI X tg l (i5i X.K tl) := by
 intro pins s σ H R I h
 refine thn (hl pins s σ H _ I h) fun v s1 ⟨x, H1, I1, r1, q1⟩ => ?_
 cases x with
 | ref a =>
  have q' : (match H1 a with
   | some (.tup _) => R (Itt X.K a) H1
   | _ => False) := q1
  split at q'
  ·rename_i xs e
   cases r1
   obtain ⟨its, rv, p, hz⟩ := I1.tuple (SqT.of e)
   refine wpAny_pyIter_tuple (show s1.heap.IsTuple a its.toArray from p) ?_
   refine ⟨s1.heap.objs.size, [s1.heap.objs.size], _, _, H1, rfl, I1.kept (t' := s1.toks) fun b o e => Heap.get?_push_of_some _ e, g5g a _, ⟨_, Heap.get?_push_size _ rfl, rfl, rfl⟩, fun b hb => ?_, q'⟩
   have e : b = s1.heap.objs.size := by simpa using hb
   subst e
   exact I1.h3b (Nat.le_refl _) (I1.hok.fresh (Nat.le_refl _))
  ·exact q'.elim
 | _ => exact False.elim q1
noncomputable def j1j : V -> Option Int -> Option Int -> Hp -> VK -> Prop := fun x lo hi H Q => match x with
 | .ref a => (match H a with
  | some (.lst xs) => New H (.lst (d9q xs lo hi)) Q ⟨⟩
  | some (.tup xs) => ¬ (HT.sIx xs.length 0 lo = 0 /\ HT.sIx xs.length xs.length hi = xs.length) /\ New H (.tup (d9q xs lo hi)) Q ⟨⟩
  | _ => False)
 | _ => False
theorem j1k {X : Cx} : SlR X j1j := by
 intro pins s σ H x v vl vu lo hi sl Q I rx hs pl pu h
 cases x with
 | ref a =>
  have h' : (match H a with
   | some (.lst xs) => New H (.lst (d9q xs lo hi)) Q ⟨⟩
   | some (.tup xs) => ¬ (HT.sIx xs.length 0 lo = 0 /\ HT.sIx xs.length xs.length hi = xs.length) /\ New H (.tup (d9q xs lo hi)) Q ⟨⟩
   | _ => False) := h
  split at h'
  ·rename_i xs e
   exact g1j pins s σ H _ v vl vu lo hi sl Q I rx hs pl pu ⟨_, xs, rfl, SqL.of e, h'.raw⟩
  ·rename_i xs e
   exact i3d pins s σ H _ v vl vu lo hi sl Q I rx hs pl pu ⟨_, xs, rfl, SqT.of e, h'.1, h'.2.raw⟩
  ·exact h'.elim
 | _ => exact False.elim h
theorem f9m {K : PySem.W.Frag} {a D : Addr} {xs : List V} {te : TE} {σ : St} {H : Hp} {Q : VK} (Pv : Nat -> List V -> Hp -> Prop) (h0 : Pv 0 [] H) (hsz : xs.length <= sizeLine)
  (hD : ∀ i ys H, i <= xs.length -> Pv i ys H -> H D = some (.lst ys) /\ SqT K H a xs /\ ys.length = i)
  (hs : ∀ i x ys H, xs[i]? = some x -> Pv i ys H -> te (some x :: σ) H fun y H2 => H2 D = some (.lst ys) /\ ∀ H3, a9t D H2 H3 -> H3 D = some (.lst (ys ++ [y])) -> Pv (i + 1) (ys ++ [y]) H3)
  (hd : ∀ ys H, Pv xs.length ys H -> Q (.ref D) H) : f5w (Itt K a) te D σ H Q ⟨⟩ := by
 refine ⟨xs.length, Pv, h0, fun i ys H hi p => ?_⟩
 obtain ⟨e1, e2, e3⟩ := hD i ys H hi p
 refine ⟨e1, ?_⟩
 by_cases hlt : i < xs.length
 ·refine .inr ⟨hlt, ⟨xs, xs[i], e2, by simp [hlt]⟩, by omega, fun x H' y => ?_⟩
  obtain ⟨e, y⟩ := y
  subst e
  exact hs i x ys _ (y xs e2) p
 ·have e : i = xs.length := by omega
  subst e
  exact .inl ⟨⟨xs, e2, Nat.le_refl _⟩, hd ys H p⟩
theorem g3y {X : Cx} {K : PySem.W.Frag} {e : Expr} {f : Str} {pos : Pos} {ta : TE} (hK : X.K = K) (he : PE X e ta) (hb : attributeBase e f X.env (eval e X.env) = eval e X.env) : PE X (.Attribute e f pos) (h4f K ta f) := hK ▸ a1z he hb
end L2
namespace L2
open PySem PySem.Spec PyProof.Rows
section
variable {prog : Program} {w : World} {A : Around} {E : Value -> Shared -> Prop} {s : Shared}
theorem f3p {T newId : String} {self : Value} {rest : List Value} {kw : List (Str × Value)} (hl : typeLookup (.type T) "__init__" = pure (some (.builtin "object.__init__")))
  (hm : Bind.madeBy (.type T) = pure (some newId)) (hne : (some newId != some "object.__new__") = true) :
  Meets (Builtin.«object.__init__» ⟨self :: rest, kw⟩) (fun _ R s => s.TypeIs self T /\ R (.ok (.ret .none)) s) := by
 refine Meets.of_wp fun prog w A R s hs => ?_
 obtain ⟨hT, hq⟩ := hs
 cases rest with
 | nil =>
  cases kw with
  | nil => exact wpAny_pure ⟨_, rfl, hq⟩
  | cons a kw =>
   repeat (any_goals (first | assumption | wp_step))
   exact ⟨_, rfl, hq⟩
 | cons a rest =>
  repeat (any_goals (first | assumption | wp_step))
  exact ⟨_, rfl, hq⟩
theorem g9x {T newId : String} {Bn : Builtin} {args : List Value} {kw : List (Str × Value)} {S : PySem.Spec} {Q : Value → Shared → Prop} (ft : TypeCalled T newId "object.__init__")
  (hne : (some newId != some "object.__new__") = true) (hct : checkTypeCall T ⟨args, kw⟩ = pure ()) (hcn : checkBuiltinCall newId ⟨.type T :: args, kw⟩ = pure ())
  (hok : ∀ obj, argsOk "object.__init__" ⟨obj :: args, kw⟩) (entryN : entryFor table newId = some Bn) (g : Meets (Bn ⟨.type T :: args, kw⟩) S)
  (h : S A.in1 (wants (fun obj s₁ => s₁.TypeIs obj T /\ Q obj s₁) E) s) : wpAny (model prog w) A (call (.type T) args kw) Q E s := by
 obtain ⟨c, tl, hmro⟩ := ft.mro
 have hmade := ft.made
 have hsub := ft.sub
 refine wpAny_call (codeAny_of_tree ?_)
 show wpAny _ _ (callAny (.type T) _) _ _ _
 refine wpAny_pure ⟨Code.quiet_builtin _ (by decide +kernel), codeAny_builtin F.entry_type_call ?_⟩
 rw [Around.under_plain (weight_type_call_type T args kw) (units_type_call_type T args kw)]
 have h1 := ft.notType
 have h2 := ft.canCreate
 repeat (any_goals (first | assumption | wp_step))
 refine codeAny_mono (codeAny_call_builtin ft.plain entryN (wpAny_of_eq hcn (g prog w A.in1 _ s h))) fun r s₁ hr => ?_
 cases r with
 | error e => exact hr
 | ok fl =>
  cases fl with
  | ret obj =>
   obtain ⟨hT, hq⟩ := hr
   have hli := ft.init.lookup
   have hbi := ft.init.bind obj
   repeat (any_goals (first | assumption | wp_step))
   refine codeAny_mono (codeAny_call_builtin ft.init.plain F.entry_object_init (ft.init.check _ _ _ _ _ _ _ _ hT (hok obj) (f3p ft.init.lookup ft.made hne prog w A.in1 (wants (fun r s₂ => r = .none /\ Q obj s₂) E) s₁ ⟨hT, rfl, hq⟩))) fun r₂ s₂ hr₂ => ?_
   cases r₂ with
   | error e => exact hr₂
   | ok fl₂ =>
    cases fl₂ with
    | ret r =>
     obtain ⟨rfl, hq⟩ := hr₂
     repeat (any_goals (first | assumption | wp_step))
    | _ => exact hr₂.elim
  | _ => exact hr.elim
end
theorem f6h (a v : Value) : checkTypeCall "enumerate" ⟨[a], [(Str.ofString "start", v)]⟩ = pure () := by kernel_rfl
theorem f9n (a v : Value) : checkBuiltinCall "enumerate.__new__" ⟨[.type "enumerate", a], [(Str.ofString "start", v)]⟩ = pure () := by kernel_rfl
theorem g9y (a b v : Value) : argsOk "object.__init__" ⟨[a, b], [(Str.ofString "start", v)]⟩ := by
 unfold argsOk
 kernel_rfl
theorem g6a (l : Addr) (items : Array Value) (n : Int) (t : Tok) (h1 : -(2 ^ 62) <= n) (h2 : n < 2 ^ 62) :
  Meets (Builtin.«enumerate.__new__» ⟨[.type "enumerate", .ref l], [(Str.ofString "start", .int n t)]⟩) (fun _ R s => s.heap.IsList l items ∧
   R (.ok (.ret (.ref (s.heap.push (itO true l)).objs.size))) { s with heap := (s.heap.push (itO true l)).push { cls := .type "enumerate", data := .fields #[.none, .bool false, .ref s.heap.objs.size, rawInt n, .none, .none] } }) :=
 .of_wp fun prog w A R s h => by
  obtain ⟨hp, g, d, tk, os⟩ := s; obtain ⟨hl, h⟩ := h
  have hsub := sub_enumerate
  have hfi : Builtin.SmallTypes.fitsIndex n = true := by
   unfold Builtin.SmallTypes.fitsIndex
   simp
   omega
  have hL : Heap.IsList (Shared.heap ⟨hp, g, d, tk, os⟩) l items := hl
  wp_walk
  refine wpAny_stack_any fun st => wpAny_pure ?_
  split
  ·rename_i c _ _ _ _ _
   cases (c == Value.type "enumerate")
   ·wp_walk using wpAny_pyIter_list hL
    exact ⟨_, rfl, h⟩
   ·wp_walk using wpAny_pyIter_list hL
    exact ⟨_, rfl, h⟩
  ·wp_walk using wpAny_pyIter_list hL
   exact ⟨_, rfl, h⟩
section
variable {prog : Program} {w : World} {A : Around} {E : Value -> Shared -> Prop} {s : Shared}
theorem g9z {l : Addr} {items : Array Value} {n : Int} {t : Tok} {Q : Value -> Shared -> Prop} (hL : s.heap.IsList l items) (h1 : -(2 ^ 62) <= n) (h2 : n < 2 ^ 62)
  (h : ∀ h', IsEnum h' (s.heap.objs.size + 1) s.heap.objs.size n .none -> h'.IsListIter s.heap.objs.size l 0 -> (∀ b o, s.heap.get? b = some o -> h'.get? b = some o) -> Q (.ref (s.heap.objs.size + 1)) { s with heap := h' }) :
  wpAny (model prog w) A (call (.type "enumerate") [.ref l] [(Str.ofString "start", .int n t)]) Q E s := by
 refine g9x F.called_enumerate (by decide) (f6h _ _) (f9n _ _) (fun obj => g9y obj _ _) F.entry_enumerate_new (g6a l items n t h1 h2) ⟨hL, ?_⟩
 have hz : (s.heap.push (itO true l)).objs.size = s.heap.objs.size + 1 := Heap.size_push ..
 have g2 : ((s.heap.push (itO true l)).push { cls := .type "enumerate", data := .fields #[.none, .bool false, .ref s.heap.objs.size, rawInt n, .none, .none] }).get? (s.heap.push (itO true l)).objs.size = some _ := Heap.get?_push_size _ rfl
 have g1 : ((s.heap.push (itO true l)).push { cls := .type "enumerate", data := .fields #[.none, .bool false, .ref s.heap.objs.size, rawInt n, .none, .none] }).get? s.heap.objs.size = some (itO true l) := Heap.get?_push_of_some _ (Heap.get?_push_size _ rfl)
 show _ /\ _
 rw [hz] at g2 ⊢
 exact ⟨⟨_, g2, rfl⟩, h _ g2 ⟨_, g1, rfl, rfl⟩ fun b o e => Heap.get?_push_of_some _ (Heap.get?_push_of_some _ e)⟩
theorem g6b {e it l : Addr} {i : Nat} {n : Int} {items : Array Value} {x old : Value} {Q : Option Value -> Shared -> Prop} (he : IsEnum s.heap e it n old) (hit : s.heap.IsListIter it l i) (hl : s.heap.IsList l items) (hx : items[i]? = some x) (hne : e ≠ it)
  (hQ : ∀ h', IsEnumOut h' e it (n + 1) x s.heap.objs.size → h'.IsListIter it l (i + 1) → h'.get? s.heap.objs.size = some { cls := .type "tuple", data := .seq #[.int n s.toks, x] } →
   (∀ b o, b ≠ e -> b ≠ it -> s.heap.get? b = some o -> h'.get? b = some o) -> Q (some (.ref s.heap.objs.size)) { s with heap := h', toks := s.toks + 1 }) :
  wpAny (model prog w) A (pyNext (.ref e)) Q E s := by
 have hT : s.TypeIs (.ref e) "enumerate" := ⟨_, he, rfl⟩
 unfold pyNext
 refine wpAny_bind (wpAny_attempt (wpAny_callSpecial?_slot (name := Str.ofString "__next__") hT F.slot_enumerate_next
  (wpAny_call_entry F.slot_enumerate_next hT F.entry_enumerate_next ?_ (F.args_enumerate_next_1 _))))
 obtain ⟨hp, g, d, tk, os⟩ := s
 show wpAny _ _ (field (.ref e) 2 >>= _) _ _ _
 refine wpAny_bind (wpAny_field he rfl (x := .ref it) rfl ?_)
 refine wpAny_bind (wpAny_nextOf_list_item hit hl hx fun g1 hit1 s1 => ?_)
 replace s1 : Heap.SameBut it hp g1 := s1
 have he1 : IsEnum g1 e it n old := (s1.2 e hne).trans he
 show wpAny _ _ (field (.ref e) 3 >>= _) _ _ ⟨g1, g, d, tk, os⟩
 refine wpAny_bind (wpAny_field he1 rfl (x := rawInt n) rfl ?_)
 show wpAny _ _ (field (.ref e) 4 >>= _) _ _ ⟨g1, g, d, tk, os⟩
 refine wpAny_bind (wpAny_field he1 rfl (x := .none) rfl ?_)
 show wpAny _ _ (mkInt n >>= _) _ _ ⟨g1, g, d, tk, os⟩
 refine wpAny_bind (wpAny_mkInt ?_)
 show wpAny _ _ (setField (.ref e) 3 (rawInt (n + 1)) >>= _) _ _ ⟨g1, g, d, tk + 1, os⟩
 refine wpAny_bind (wpAny_setField_rec he1 (by simp) fun g2 he2 s2 => ?_)
 replace s2 : Heap.SameBut e g1 g2 := s2
 replace he2 : IsEnum g2 e it (n + 1) old := he2
 show wpAny _ _ (setField (.ref e) 4 .none >>= _) _ _ ⟨g2, g, d, tk + 1, os⟩
 refine wpAny_bind (wpAny_setField_rec he2 (by simp) fun g3 he3 s3 => ?_)
 replace s3 : Heap.SameBut e g2 g3 := s3
 replace he3 : IsEnum g3 e it (n + 1) old := he3
 show wpAny _ _ (newTuple [.int n tk, x] >>= _) _ _ ⟨g3, g, d, tk + 1, os⟩
 refine wpAny_bind (wpAny_newTuple ?_)
 have he4 : IsEnum (g3.push { cls := .type "tuple", data := .seq #[.int n tk, x] }) e it (n + 1) old := Heap.get?_push_of_some _ he3
 generalize hh4 : g3.push { cls := .type "tuple", data := .seq #[.int n tk, x] } = g4 at he4
 have hsz : g3.objs.size = hp.objs.size := by rw [s3.1, s2.1, s1.1]
 have hel : e < hp.objs.size := Heap.lt_size he
 have ht4 : g4.get? hp.objs.size = some { cls := .type "tuple", data := .seq #[.int n tk, x] } := by rw [← hh4, ← hsz]; exact Heap.get?_push_size _ rfl
 have hk4 : ∀ b o, b ≠ e -> b ≠ it -> hp.get? b = some o -> g4.get? b = some o := fun b o hbe hbi hb => by
  rw [<- hh4]; exact Heap.get?_push_of_some _ (s3.extBut b o hbe (s2.extBut b o hbe (s1.extBut b o hbi hb)))
 have hit4 : g4.IsListIter it l (i + 1) := by
  rw [<- hh4]; exact hit1.at fun o ho => Heap.get?_push_of_some _ (s3.extBut _ _ (Ne.symm hne) (s2.extBut _ _ (Ne.symm hne) ho))
 show wpAny _ _ (Builtin.SmallTypes.ownedTupleIsFree (.ref e) >>= _) _ _ ⟨g4, g, d, tk + 1, os⟩
 rw [hsz]
 clear hh4 he3 s3 he2 s2 he1 s1 hit1 hsz g3 g2 g1
 refine wpAny_bind ?_
 unfold Builtin.SmallTypes.ownedTupleIsFree
 refine wpAny_bind (wpAny_field he4 rfl (x := .none) rfl (wpAny_pure ?_))
 simp only [if_true]
 refine wpAny_bind (wpAny_rule ?_)
 refine wpAny_bind (wpAny_field he4 rfl (x := old) rfl ?_)
 refine wpAny_bind (wpAny_setField_rec he4 (by simp) fun g5 he5 s5 => ?_)
 replace s5 : Heap.SameBut e g4 g5 := s5
 replace he5 : IsEnum g5 e it (n + 1) x := he5
 show wpAny _ _ (Builtin.SmallTypes.ownedTupleHandOut (.ref e) (.ref hp.objs.size) >>= _) _ _ ⟨g5, g, d, tk + 1, os⟩
 refine wpAny_bind ?_
 unfold Builtin.SmallTypes.ownedTupleHandOut
 refine wpAny_bind (wpAny_setField_rec he5 (by simp) fun g6 he6 s6 => ?_)
 replace s6 : Heap.SameBut e g5 g6 := s6
 replace he6 : IsEnumOut g6 e it (n + 1) x hp.objs.size := he6
 refine wpAny_setField_rec he6 (by simp) fun g7 he7 s7 => ?_
 replace s7 : Heap.SameBut e g6 g7 := s7
 replace he7 : IsEnumOut g7 e it (n + 1) x hp.objs.size := he7
 refine wpAny_bind (wpAny_letGo (wpAny_pure ⟨_, rfl, wpAny_pure (hQ g7 he7 ?_ ?_ ?_)⟩))
 ·exact hit4.at fun o ho => s7.extBut _ _ (Ne.symm hne) (s6.extBut _ _ (Ne.symm hne) (s5.extBut _ _ (Ne.symm hne) ho))
 ·exact s7.extBut _ _ (Nat.ne_of_gt hel) (s6.extBut _ _ (Nat.ne_of_gt hel) (s5.extBut _ _ (Nat.ne_of_gt hel) ht4))
 ·exact fun b o hbe hbi hb => s7.extBut b o hbe (s6.extBut b o hbe (s5.extBut b o hbe (hk4 b o hbe hbi hb)))
theorem h0a {e it l : Addr} {i : Nat} {n : Int} {items : Array Value} {old : Value} {Q : Option Value -> Shared -> Prop} (hh : A.handled = none) (he : IsEnum s.heap e it n old) (hit : s.heap.IsListIter it l i) (hl : s.heap.IsList l items) (hx : items[i]? = none)
  (hQ : ∀ h', Heap.ExtBut it s.heap h' -> Q none { s with heap := h' }) : wpAny (model prog w) A (pyNext (.ref e)) Q E s := by
 have hT : s.TypeIs (.ref e) "enumerate" := ⟨_, he, rfl⟩
 unfold pyNext
 refine wpAny_bind (wpAny_attempt (wpAny_callSpecial?_slot (name := Str.ofString "__next__") hT F.slot_enumerate_next
  (wpAny_call_entry F.slot_enumerate_next hT F.entry_enumerate_next ?_ (F.args_enumerate_next_1 _))))
 show wpAny _ _ (field (.ref e) 2 >>= _) _ _ _
 refine wpAny_bind (wpAny_field he rfl (x := .ref it) rfl ?_)
 refine wpAny_bind (wpAny_nextOf_list_end hh hit hl hx fun h' x he' hx' => ?_)
 obtain ⟨o, ho, hc⟩ := hx'
 refine wpAny_bind (wpAny_isInstance (T := "StopIteration") (b := true) ⟨o, ho, hc⟩ isSubtype_stop ?_)
 exact wpAny_pure (hQ _ he')
end
noncomputable def Ite (K : PySem.W.Frag) (l : Addr) (n : Int) : It :=
 ⟨fun i H => ∃ xs x, SqL K H l xs /\ xs[i]? = some x,
  fun i H v H' => ∃ p x, v = .ref p ∧ H p = none ∧ H' = upd H p (.tup [.int (n + (i : Int)), x]) ∧ ∀ xs, SqL K H l xs → xs[i]? = some x,
  fun i H => ∃ xs, SqL K H l xs ∧ xs.length ≤ i⟩
theorem h0b {P : Program} {w : World} {K : PySem.W.Frag} {elts : List Expr} {kk : Nat} {tpos : Pos} {e it l : Addr} {n : Int} (hne : e ≠ it) :
  Turn P w K (.Tuple elts kk tpos) (Ite K l n) [e, it] e (fun i h => (∃ old, IsEnum h e it (n + (i : Int)) old) /\ h.IsListIter it l i) where
 mem := by simp
 obj := fun i h st b hb => by
  obtain ⟨⟨old, he⟩, ⟨o1, e1, _, d1⟩⟩ := st
  simp only [List.mem_cons, List.not_mem_nil, or_false] at hb
  rcases hb with rfl | rfl
  ·exact ⟨_, he, fun v z => by cases z⟩
  ·exact ⟨_, e1, fun v z => by rw [d1] at z; cases z⟩
 keep := fun i h h' st k => by
  obtain ⟨⟨old, he⟩, h1⟩ := st
  exact ⟨⟨old, k e (by simp) _ he⟩, h1.at fun o e => k it (by simp) o e⟩
 item := by
  intro X hP hw hK hc i pins s σ H E I hf st hg
  subst hP hw hK
  obtain ⟨xs, x, hq1, hx⟩ := hg
  obtain ⟨us, r1, p1, _⟩ := I.list hq1
  obtain ⟨u, hu, ru⟩ := r1.get hx
  obtain ⟨⟨old, he⟩, h1⟩ := st
  refine g6b he h1 p1.isList (x := u) (by simpa using hu) hne fun h' he' h1' pT kk' => ?_
  refine ⟨.ref s.heap.objs.size, rfl, wpAny_letOwnedTupleGo_enum (s := { s with heap := h', toks := s.toks + 1 }) he' fun h'' he'' sb => ?_⟩
  replace sb : Heap.SameBut e h' h'' := sb
  have k2 : ∀ c o, c ∉ [e, it] -> s.heap.get? c = some o -> h''.get? c = some o := fun c o hc q => by
   simp only [List.mem_cons, List.not_mem_nil, or_false, not_or] at hc
   exact sb.extBut _ _ hc.1 (kk' c o hc.1 hc.2 q)
  have I1 : Inv X pins σ H { s with heap := h'', toks := s.toks + 1 } := I.f6g (t' := s.toks + 1) k2 hf
  have elt : e < s.heap.objs.size := Heap.lt_size he
  have pT2 : h''.get? s.heap.objs.size = some { cls := .type "tuple", data := .seq #[.int (n + (i : Int)) s.toks, u] } := sb.extBut _ _ (Nat.ne_of_gt elt) pT
  have fo := I.h3b (b := s.heap.objs.size) (Nat.le_refl _) (I.hok.fresh (Nat.le_refl _))
  have nT : H s.heap.objs.size = none := I.hok.fresh (Nat.le_refl _)
  have I2 : Inv X pins σ (upd H s.heap.objs.size (.tup [.int (n + (i : Int)), x])) { s with heap := h'', toks := s.toks + 1 } := by
   refine I1.track ?_ fo.2.1 fo.2.2.2.2.1 fo.2.2.2.2.2 nT ⟨two_line, [.int (n + (i : Int)) s.toks, u], .cons ⟨_, rfl⟩ (.cons ru .nil), ⟨_, pT2, rfl, 0, rfl⟩⟩
   cases q : X.s₀.heap.get? s.heap.objs.size with
   | none => rfl
   | some o => exact absurd (Nat.lt_of_lt_of_le (Heap.lt_size q) I.sz) (Nat.lt_irrefl _)
  have ne : ∀ b ∈ [e, it], b ≠ s.heap.objs.size := fun b hb q => by
   have lt : b < s.heap.objs.size := by
    simp only [List.mem_cons, List.not_mem_nil, or_false] at hb
    rcases hb with rfl | rfl
    ·exact elt
    ·obtain ⟨_, z, _⟩ := h1; exact Heap.lt_size z
   exact Nat.ne_of_lt lt q
  refine ⟨.ref s.heap.objs.size, _, I2, rfl, ⟨_, x, rfl, nT, rfl, fun xs' h => by rw [I.f5o h hq1]; exact hx⟩,
   ⟨⟨_, by rw [Int.natCast_add, <- Int.add_assoc]; exact he''⟩, h1'.at fun o z => sb.extBut _ _ (Ne.symm hne) z⟩, fun b hb => by rw [a4z (ne b hb)]; exact (hf b hb).1⟩
 done := by
  intro X hP hw hK hc i pins s σ H E I hf st hg
  subst hP hw hK
  obtain ⟨xs, hq1, hle⟩ := hg
  obtain ⟨us, r1, p1, _⟩ := I.list hq1
  obtain ⟨⟨old, he⟩, h1⟩ := st
  have l1' := r1.length
  refine h0a (I.ok.hd hc) he h1 p1.isList (by simp; omega) fun h' kk' => ⟨rfl, I.f6g (t' := s.toks) (fun c o hc q => ?_) hf⟩
  simp only [List.mem_cons, List.not_mem_nil, or_false, not_or] at hc
  exact kk' c o hc.2 q
 self := fun _ _ _ _ _ st h => by
  obtain ⟨⟨old, he⟩, _⟩ := st
  exact wpAny_pyIter_enum he h
end L2
namespace L2
open PySem PySem.Spec PyProof.Rows
section
variable {M : Model} {A : Around} {E : Value -> Shared -> Prop} {s : Shared} {env : Env}
theorem g6c {pos : Pos} {T : String} {e : Expr} {rest : List Expr} {kws : List Keyword} {Q : Value -> Shared -> Prop}
  (h : wpAny M A (spliced (backTo pos (starEach (e :: rest) env))) (fun vs s₁ => wpAny M A (evalAll ((backToKw pos (keywordEach kws env)).map (·.2)))
   (fun kvs s₂ => wpAny M A (call (.type T) vs (((backToKw pos (keywordEach kws env)).filterMap (·.1)).zip kvs)) Q E s₂) E s₁) E s)
  (he : backTo pos (starEach (e :: rest) env) = (false, eval e env) :: backTo pos (starEach rest env))
  (hp : (backTo pos (starEach (e :: rest) env)).any (·.1) = false)
  (ha : (backToKw pos (keywordEach kws env)).all (·.1.isSome) = true)
  (hk : (backToKw pos (keywordEach kws env)).any (·.1.isNone) = false) :
  wpAny M A (callWith pos (.type T) [] (backTo pos (starEach (e :: rest) env)) (backToKw pos (keywordEach kws env))) Q E s := by
 have g : wpAny M A (evalArgs (.type T) true (backTo pos (starEach (e :: rest) env)) (backToKw pos (keywordEach kws env))) (fun a s₁ => wpAny M A (call (.type T) ([] ++ a.pos) a.kw) Q E s₁) E s := by
  rw [he] at h ⊢
  exact evalArgs_kwB ha h
 unfold callWith
 refine wpAny_bind (wpAny_holding (wpAny_mono g (fun a s₁ h₁ => wpAny_bind (wpAny_standAt ?_)) fun _ _ x => x))
 simp only [hp, hk, Bool.or_false]
 refine wpAny_bind (wpAny_pure ?_)
 exact wpAny_bind (wpAny_mono h₁ (fun r s₂ hr => wpAny_bind (wpAny_holding (wpAny_point (wpAny_pure hr)))) fun _ _ x => x)
end
noncomputable def h6t (K : PySem.W.Frag) (t tk : TA) : TI := fun σ H R => t σ H fun vs H1 => tk σ H1 fun zs H2 => match vs, zs with
 | [.ref l], [.int n] => (match H2 l with
  | some (.lst _) => -(2 ^ 62) <= n /\ n < 2 ^ 62 /\ R (Ite K l n) H2
  | _ => False)
 | _, _ => False
theorem h9u {X : Cx} {elts : List Expr} {kk : Nat} {tpos : Pos} {e d : Expr} {t tk : TA} {p pos kp : Pos} (hg : Gl X "enumerate") (hm : X.mg "enumerate" = none) (ha : PA X [e] t) (hk : PK X [⟨some "start", d, kp⟩] tk)
  (he : backTo pos (starEach [e] X.env) = (false, eval e X.env) :: backTo pos (starEach [] X.env) := by rfl) (hpl : (backTo pos (starEach [e] X.env)).any (·.1) = false := by rfl) :
  PI X (.Tuple elts kk tpos) (.Call (.Name "enumerate" p) [e] [⟨some "start", d, kp⟩] pos) (h6t X.K t tk) := by
 intro pins s σ H R I h
 refine wpAny_Call_Name_kw (f0h I hg hm boot_enumerate ?_)
 refine g6c (thn (ha pos pins s σ H _ I h) fun us s1 ⟨vs, H1, I1, r, q⟩ => thn (hk pos pins s1 σ H1 _ I1 q) fun ws s2 ⟨zs, H2, I2, rz, q2⟩ => ?_) he hpl rfl rfl
 match vs, zs, q2 with
 | [.ref l], [.int n], q2 =>
  obtain ⟨u, e0, ra⟩ := r.one
  obtain ⟨u', e1, td, ed⟩ := rz.one
  cases ra
  subst e0 e1 ed
  have q' : (match H2 l with
   | some (.lst _) => -(2 ^ 62) <= n /\ n < 2 ^ 62 /\ R (Ite X.K l n) H2
   | _ => False) := q2
  split at q'
  ·rename_i xs e
   obtain ⟨b1, b2, q3⟩ := q'
   obtain ⟨us, r1, p1, _⟩ := I2.list (SqL.of e)
   show wpAny _ _ (call (.type "enumerate") [.ref l] [(Str.ofString "start", .int n td)]) _ _ s2
   refine g9z p1.isList b1 b2 fun h' hz h1 hk => ?_
   refine wpAny_pyIter_enum (s := { s2 with heap := h' }) hz ?_
   have D : s2.heap.objs.size + 1 ≠ s2.heap.objs.size := Nat.succ_ne_self _
   refine ⟨_, [s2.heap.objs.size + 1, s2.heap.objs.size], _, _, H2, rfl, I2.kept (t' := s2.toks) hk, h0b D, ⟨⟨_, by rw [Int.natCast_zero, Int.add_zero]; exact hz⟩, h1⟩, fun b hb => ?_, q3⟩
   have hb' : s2.heap.objs.size <= b := by
    simp only [List.mem_cons, List.not_mem_nil, or_false] at hb
    rcases hb with rfl | rfl
    ·exact Nat.le_add_right _ _
    ·exact Nat.le_refl _
   exact I2.h3b hb' (I2.hok.fresh hb')
  ·exact q'.elim
theorem g1x {K : PySem.W.Frag} {l D : Addr} {n : Int} {xs : List V} {te : TE} {σ : St} {H : Hp} {Q : VK} (Pv : Nat -> List V -> Hp -> Prop) (h0 : Pv 0 [] H) (hsz : xs.length <= sizeLine)
  (hD : ∀ i zs H, i <= xs.length -> Pv i zs H -> H D = some (.lst zs) /\ SqL K H l xs /\ zs.length = i)
  (hs : ∀ i x zs H p H', xs[i]? = some x -> Pv i zs H -> H p = none -> Same H H' -> H' p = some (.tup [.int (n + (i : Int)), x]) -> te (some (.int (n + (i : Int))) :: some x :: σ) H' fun z H2 => H2 D = some (.lst zs) /\ ∀ H3, a9t D H2 H3 -> H3 D = some (.lst (zs ++ [z])) -> Pv (i + 1) (zs ++ [z]) H3)
  (hd : ∀ zs H, Pv xs.length zs H -> Q (.ref D) H) : g3x (Ite K l n) te D σ H Q ⟨⟩ := by
 refine ⟨xs.length, Pv, h0, fun i zs H hi p => ?_⟩
 obtain ⟨e1, e2, e4⟩ := hD i zs H hi p
 refine ⟨e1, ?_⟩
 by_cases hlt : i < xs.length
 ·have hx : xs[i]? = some (xs[i]'(by omega)) := List.getElem?_eq_getElem _
  refine .inr ⟨hlt, ⟨xs, _, e2, hx⟩, by omega, fun v H' q => ?_⟩
  obtain ⟨q, x, rfl, nq, rfl, k1⟩ := q
  exact ⟨q, _, x, rfl, a5n, hs i x zs H q _ (k1 _ e2) p nq (Same.upd nq) a5n⟩
 ·have e : i = xs.length := by omega
  subst e
  exact .inl ⟨⟨xs, e2, Nat.le_refl _⟩, hd zs H p⟩
end L2
namespace L2
open PySem PySem.Spec PyProof.Rows
noncomputable def tBM0F (chk : V -> Hp -> Bool) (r : V -> List V -> Hp -> VK -> Prop) (to : TE) : TE := fun σ H Q => to σ H fun x H1 => chk x H1 = true /\ r x [] H1 Q
section
variable {X : Cx} {o : Expr} {to : TE} {name : Str} {apos cpos : Pos} {T id : String} {r : V -> List V -> Hp -> VK -> Prop} {chk : V -> Hp -> Bool}
noncomputable def rClrF : V -> List V -> Hp -> VK -> Prop := fun x vs H Q => match x, vs with
 | .ref l, [] => (match H l with
  | some (.lst _) => All (fun v H1 => v = .non /\ a9t l H H1 /\ H1 l = some (.lst [])) Q ⟨⟩ ⟨⟩
  | _ => False)
 | _, _ => False
noncomputable def h6u : V -> List V -> Hp -> VK -> Prop := fun x vs H Q => match x, vs with
 | .str z, [.ref l] => (match H l with
  | some (.lst xs) => ∃ ys : List Str, xs = ys.map V.str /\ JoinOk z ys = true /\ Q (.str (Txt.join z ys)) H
  | _ => False)
 | _, _ => False
theorem f4o : ∀ {ys : List Str} {us : List Value}, Vals (ys.map V.str) us -> ∃ l : List (Str × Tok), us = strValues l /\ l.map (·.1) = ys
 | [], _, h => by
  cases h
  exact ⟨[], rfl, rfl⟩
 | y :: ys, _, h => by
  cases h with
  | cons a b =>
   obtain ⟨t, rfl⟩ := a
   obtain ⟨l, rfl, e⟩ := f4o b
   exact ⟨(y, t) :: l, rfl, by rw [List.map_cons, e]⟩
theorem g3z : MtR X "str.join" h6u := by
 intro pins s σ H x vs v us Q I rx rv h
 match x, vs, h with
 | .str z, [.ref l], h =>
  have h' : (match H l with
   | some (.lst xs) => ∃ ys : List Str, xs = ys.map V.str /\ JoinOk z ys = true /\ Q (.str (Txt.join z ys)) H
   | _ => False) := h
  split at h'
  ·rename_i xs hH
   obtain ⟨ys, rfl, ok, q⟩ := h'
   obtain ⟨t, rfl⟩ := rx
   obtain ⟨u, rfl, ru⟩ := rv.one
   cases ru
   obtain ⟨its, n, r, ho, hz⟩ := I.lst hH
   obtain ⟨lt, rfl, e⟩ := f4o r
   exact SC.join ⟨_, ho, rfl, _, rfl⟩ e ok fun t' k => ⟨.str _, H, I.tok k, ⟨_, rfl⟩, q⟩
  ·exact h'.elim
end
theorem joinOk_of {z : Str} {ys : List Str} {n : Nat} (h : ∀ y ∈ ys, y.length <= n) (hl : ys.length * (n + z.length) <= sizeLine) : JoinOk z ys = true := by
 unfold JoinOk
 have : ∀ (ys : List Str) (a : Nat), (∀ y ∈ ys, y.length <= n) -> ys.foldl (· + ·.length + z.length) a <= a + ys.length * (n + z.length) := by
  intro ys
  induction ys with
  | nil => intro a _; simp
  | cons y ys ih =>
   intro a h
   have i := ih (a + y.length + z.length) fun y hy => h y (List.mem_cons_of_mem _ hy)
   have hy := h y (List.mem_cons_self ..)
   rw [List.foldl_cons, List.length_cons, Nat.succ_mul]
   omega
 have t := this ys 0 h
 rw [List.foldl_toArray]
 unfold Builtin.Str.tooLong
 simp
 omega
end L2
namespace L2
open PySem PySem.Spec PyProof.Rows
structure i8p (K : PySem.W.Frag) (w : World) (d : Addr) : Prop where
 lk : ∃ es n, K.lookup d = some ⟨.type "dict", none, .dict es n, #[]⟩ ∧ PySem.W.KeysLit w.params es.toList
 ns : (d == sysModules) = false
noncomputable def j1l (K : PySem.W.Frag) (w : World) (neg : Bool) : R2 := fun x y H Q => match x, y with
 | .str z, .ref d => i8p K w d /\ ∃ r, PySem.W.nsIn K d z = some r /\ Q (.bl (r.isSome != neg)) H
 | _, _ => False
section
variable {X : Cx}
theorem h0c {K : PySem.W.Frag} {w : World} (eK : X.K = K) (eW : X.w = w) : OpR X (compareOp .NotIn) (j1l K w true) := by
 subst eK eW
 intro pins s σ H x y v u Q I rx ry h
 match x, y, h with
 | .str z, .ref d, ⟨⟨⟨es, n, hl, hk⟩, hn⟩, r, e, q⟩ =>
  obtain ⟨t, rfl⟩ := rx
  cases ry
  refine wpAny_notIn_of (PySem.strKind_is X.prog X.w z t) hn (PySem.W.mapOf_K (prog := X.prog) I.kIn hl (hk)) ?_
  rw [PySem.W.find_K hl e]
  rw [Bool.bne_true] at q
  exact ⟨.bl (!r.isSome), H, I.tok _, rfl, q⟩
noncomputable def j1m (K : PySem.W.Frag) (w : World) : R2 := fun x y H Q => match x, y with
 | .ref d, .str z => i8p K w d /\ ∃ f, PySem.W.nsIn K d z = some (some (.ref f)) /\ Q (.ref f) H
 | _, _ => False
theorem i1s {K : PySem.W.Frag} {w : World} (eK : X.K = K) (eW : X.w = w) : IxR X (j1m K w) := by
 subst eK eW
 intro value slice pins s σ H x y v u Q I rx ry h hs
 match x, y, h with
 | .ref d, .str z, ⟨⟨⟨es, n, hl, hk⟩, hn⟩, f, e, q⟩ =>
  obtain ⟨t, rfl⟩ := ry
  cases rx
  have hm := PySem.W.mapOf_K (prog := X.prog) (w := X.w) I.kIn hl (hk)
  exact tail_any hm.typeIs slot_dict_getitem.lookup (wpAny_getItem_of (PySem.strKind_is X.prog X.w z t) hm (PySem.W.find_K hl e) ⟨.ref f, H, I.tok _, rfl, q⟩) hs
noncomputable def h6v (f : Addr) (sp : Sp) (dvs : List V) (E : XK) (tg : TE) (t : TA) : TE := fun σ H Q => tg σ H fun x H1 => x = .ref f /\ h8o sp dvs E t σ H1 Q
theorem d1i {CX : CXT} {k : Nat} {f : Addr} {fd : FuncData} {ps : List Str} {sp : Sp} {ds : List Value} {dvs : List V} {E : XK} {g e : Expr} {es : List Expr} {tg : TE} {t : TA} {pos : Pos} (F : a1o X.prog X.w X.K X.mg X.base CX k f fd ps sp) (hr : a3g k X.A) (hk : PySem.W.keepIn X.K (.ref f) = true) (hb : Binds X.K fd ps ds) (hd : Vals dvs ds) (hx : Passes CX X E)
  (hg : PE X g tg) (ha : PA X (e :: es) t) (he : starEach (e :: es) X.env = (false, eval e X.env) :: starEach es X.env := by rfl) (hpl : (backTo pos (starEach es X.env)).any (·.1) = false := by rfl)
  (hc : eval (.Call g (e :: es) [] pos) X.env = (do callWith pos (<- eval g X.env) [] (backTo pos (starEach (e :: es) X.env)) (backToKw pos (keywordEach [] X.env))) := by rfl) :
  PE X (.Call g (e :: es) [] pos) (h6v f sp dvs E tg t) := by
 intro pins s σ H Q I h
 refine Call_ (thn (hg pins s σ H _ I h) fun v s1 ⟨x, H1, I1, r1, ex, q1⟩ => ?_) hc
 subst ex
 cases r1
 refine PySem.W.callWith_K (h₀ := X.base) I1.ok.mod.kin hk (thn (ha pos pins s1 σ H1 _ I1 q1) fun us s2 ⟨vs, H2, I2, r, q⟩ => ⟨I2.kIn, ?_⟩) he hpl
 exact g3o F hr hb hd hx I2 r q
theorem SP.i8q {pins : List (Addr × Obj)} {D : Ends} {f : Flow} {s : Shared} (h : SP X.nox pins D f s) : SP X pins D f s := by
 cases f with
 | next => obtain ⟨a, b, c, d⟩ := h; exact ⟨a, b, c.c0q, d⟩
 | brk => obtain ⟨a, b, c, d⟩ := h; exact ⟨a, b, c.c0q, d⟩
 | cont => obtain ⟨a, b, c, d⟩ := h; exact ⟨a, b, c.c0q, d⟩
 | ret u => obtain ⟨v, a, b, c, d⟩ := h; exact ⟨v, a, b, c.c0q, d⟩
theorem h9v {st : Stmt} {h₀ : ExceptHandler} {hs : List ExceptHandler} {tb : TS} {pos : Pos} (hb : PS X.nox st tb) : PS X (.Try [st] (h₀ :: hs) [] [] pos) tb := by
 intro pins s σ H Dn I h
 refine wpAny_Try_except (wpAny_execs_cons (wpAny_mono (hb pins s σ H Dn (I.wish _) h) (fun f s1 q => ?_) fun e s1 z => False.elim z))
 have q' := SP.i8q q
 cases f with
 | next => exact wpAny_execs_nil (wpAny_execs_nil q')
 | ret v => exact q'
 | brk => exact q'
 | cont => exact q'
end
end L2
namespace L2
open PySem PySem.Spec PyProof.Rows
theorem g4a {c : Nat} : ∀ {a a' b b' : List Nat}, a ++ c :: b = a' ++ c :: b' -> c ∉ a -> c ∉ a' -> a = a' /\ b = b'
 | [], [], _, _, h, _, _ => by simpa using h
 | [], d :: a', _, _, h, _, h2 => by
  rw [List.nil_append, List.cons_append, List.cons.injEq] at h
  exact absurd (by rw [h.1]; exact List.mem_cons_self) h2
 | d :: a, [], _, _, h, h1, _ => by
  rw [List.nil_append, List.cons_append, List.cons.injEq] at h
  exact absurd (by rw [h.1]; exact List.mem_cons_self) h1
 | d :: a, d' :: a', _, _, h, h1, h2 => by
  rw [List.cons_append, List.cons_append, List.cons.injEq] at h
  obtain ⟨e1, e2⟩ := g4a h.2 (fun q => h1 (List.mem_cons_of_mem _ q)) (fun q => h2 (List.mem_cons_of_mem _ q))
  exact ⟨by rw [h.1, e1], e2⟩
theorem b0r (c : Nat) (p q : Str) (r : List Str) : sg (Str.join ⟨#[c]⟩ (p :: q :: r)) = sg p ++ c :: sg (Str.join ⟨#[c]⟩ (q :: r)) := by
 show sg (p ++ ⟨#[c]⟩ ++ Str.join ⟨#[c]⟩ (q :: r)) = _
 rw [a3r, a3r, List.append_assoc]
 rfl
theorem f9o {c : Nat} : ∀ {ps qs : List Str}, ps ≠ [] -> qs ≠ [] -> (∀ p ∈ ps, c ∉ sg p) -> (∀ q ∈ qs, c ∉ sg q) -> sg (Str.join ⟨#[c]⟩ ps) = sg (Str.join ⟨#[c]⟩ qs) -> ps = qs
 | [], _, h, _, _, _, _ => absurd rfl h
 | _ :: _, [], _, h, _, _, _ => absurd rfl h
 | [p], [q], _, _, _, _, e => by
  rw [b6z (show sg p = sg q from e)]
 | [p], q :: q' :: qs, _, _, fp, _, e => by
  rw [b0r] at e
  exact absurd (by rw [show sg p = _ from e]; simp) (fp p (List.mem_cons_self ..))
 | p :: p' :: ps, [q], _, _, _, fq, e => by
  rw [b0r] at e
  exact absurd (by rw [show sg q = _ from e.symm]; simp) (fq q (List.mem_cons_self ..))
 | p :: p' :: ps, q :: q' :: qs, _, _, fp, fq, e => by
  rw [b0r, b0r] at e
  obtain ⟨e1, e2⟩ := g4a e (fp p (List.mem_cons_self ..)) (fq q (List.mem_cons_self ..))
  rw [b6z e1, f9o (by simp) (by simp) (fun x hx => fp x (List.mem_cons_of_mem _ hx)) (fun x hx => fq x (List.mem_cons_of_mem _ hx)) e2]
theorem h0d (x y : Str) : b6g x y = Txt.split x y := rfl
theorem h4p (x y : Str) : Txt.split x y ≠ [] := by
 unfold Txt.split
 split
 ·simp
 ·split
  ·simp
  ·rw [StrLaws.partsBetween_eq]
   obtain ⟨p, r, e⟩ := StrLaws.partsFrom_ne x y.length 0 (Builtin.Str.occurrences x y 0 x.length (x.length + 1))
   rw [e]
   simp
theorem d6s {x : Str} {c : Nat} {ps : List Str} (hn : ps ≠ []) (hf : ∀ p ∈ ps, c ∉ sg p) (h : sg x = sg (Str.join ⟨#[c]⟩ ps)) : b6g x ⟨#[c]⟩ = ps := by
 rw [h0d]
 refine f9o (c := c) (h4p _ _) hn (fun p hp => StrLaws.split_free x c p hp) hf ?_
 rw [StrLaws.join_split, h]
end L2
namespace L2
open PySem PySem.Spec PyProof.Rows
noncomputable def a4t (t t' : TE) : TE := fun σ H Q => t σ H Q \/ t' σ H Q
theorem a0j {X : Cx} {e : Expr} {t t' : TE} (h : PE X e t) (h' : PE X e t') : PE X e (a4t t t') := fun pins s σ H Q I z => z.elim (h pins s σ H Q I) (h' pins s σ H Q I)
theorem h4q : ∀ (k n : Nat), n < 10 ^ (k + 1) -> (dg n).length <= k + 1
 | 0, n, h => by
  rw [g1t (by omega)]
  exact Nat.le_refl _
 | k + 1, n, h => by
  rcases Nat.lt_or_ge n 10 with z | z
  ·rw [g1t z, List.length_singleton]
   omega
  ·have e : n = 10 * (n / 10) + n % 10 := by omega
   rw [e, f0y (by omega) (by omega), List.length_append, List.length_singleton]
   have := h4q k (n / 10) (by rw [Nat.pow_succ] at h; omega)
   omega
open PySem.Builtin.Int (intBits)
noncomputable def fW (x : Rat) : Str := Str.empty ++ Str.ofString (toString x.num) ++ Str.ofString "/" ++ Str.ofString (toString (x.den : Int))
noncomputable def cW (c : Int × Rat) : Str := Str.empty ++ Str.ofString (toString c.1) ++ Str.ofString "=" ++ fW c.2
noncomputable def nW (n : Nat) : Str := Str.ofString (toString (n : Int))
noncomputable def YOk (y : Rat) : Prop := y.num.natAbs <= 1000 /\ y.den <= 1000
inductive Dt where
 | gain (y : Rat)
 | delay (n : Nat)
 | echo (y : Rat) (n t : Nat)
 | back (y : Rat) (n : Nat)
 | hall (y : Rat) (n : Nat)
 | swell (cs : List (Int × Rat))
noncomputable def Dt.kd : Dt -> Nat
 | .gain _ => 0
 | .delay _ => 1
 | .echo .. => 2
 | .back .. => 3
 | .hall .. => 4
 | .swell _ => 5
noncomputable def Dt.kind : Dt -> Str
 | .gain _ => Str.ofString "gain"
 | .delay _ => Str.ofString "delay"
 | .echo .. => Str.ofString "echo"
 | .back .. => Str.ofString "back"
 | .hall .. => Str.ofString "hall"
 | .swell _ => Str.ofString "swell"
noncomputable def Dt.vals : Dt -> List Str
 | .gain y => [fW y]
 | .delay n => [nW n]
 | .echo y n t => [fW y, nW n, nW t]
 | .back y n => [fW y, nW n]
 | .hall y n => [fW y, nW n]
 | .swell cs => [Str.join ⟨#[44]⟩ (cs.map cW)]
noncomputable def Dt.word (d : Dt) : Str := Str.join ⟨#[58]⟩ (d.kind :: d.vals)
noncomputable def f8h (cs : List (Int × Rat)) : Prop := (∀ c ∈ cs, 0 <= c.1 /\ c.1 <= 100000 /\ YOk c.2) /\ (∀ (i : Nat) c d, cs[i]? = some c -> cs[i + 1]? = some d -> c.1 < d.1) /\ 1 <= cs.length /\ cs.length <= 12
noncomputable def Dt.ok : Dt -> Prop
 | .gain y => YOk y
 | .delay n => n <= 1000
 | .echo y n t => YOk y /\ 1 <= n /\ n <= 1000 /\ t <= 16
 | .back y n => YOk y /\ 1 <= n /\ n <= 1000
 | .hall y n => YOk y /\ (y.num.natAbs : Int) < y.den /\ 1 <= n /\ n <= 1000
 | .swell cs => f8h cs
theorem b8s {t : Int} {n : Nat} (h : t.natAbs < 2 ^ n) (hn : 1 <= n) : t.natAbs.log2 < n := by
 rcases Nat.eq_zero_or_pos t.natAbs with z | z
 ·rw [z]
  show Nat.log2 0 < n
  have : Nat.log2 0 = 0 := by decide
  omega
 ·rw [Nat.log2_lt (by omega)]
  exact h
theorem c1v {t : Int} {n : Nat} (h : t.natAbs < 2 ^ n) (hn : 1 <= n) : (Str.ofString (toString t)).length <= n + 1 := by
 have e : (Str.ofString (toString t)).length = (txt t).length := by rw [<- c7p, c6s]
 have := g1u t
 have := b8s h hn
 omega
theorem d5l {n : Nat} (h : n < 2 ^ 20) : (nW n).length <= 21 := c1v (t := (n : Int)) (n := 20) (by omega) (by decide)
theorem YOk.b {y : Rat} (h : YOk y) : intBits y.num <= 10 /\ intBits (y.den : Int) <= 10 := ⟨intBits_le_iff.mpr (Nat.lt_of_le_of_lt h.1 (by decide)), intBits_le_iff.mpr (Nat.lt_of_le_of_lt (show (y.den : Int).natAbs <= 1000 from h.2) (by decide))⟩
theorem d1u {x : Rat} (h1 : intBits x.num <= 10) (h2 : intBits (x.den : Int) <= 10) : (fW x).length <= 23 := by
 have a := c1v (intBits_le_iff.mp h1) (by decide)
 have b := c1v (intBits_le_iff.mp h2) (by decide)
 have e0 : Str.empty.length = 0 := rfl
 have e1 : (Str.ofString "/").length = 1 := by decide +kernel
 unfold fW
 simp only [strLen_append, e0, e1]
 omega
theorem h6w {c : Int × Rat} (h0 : c.1.natAbs < 2 ^ 20) (h1 : intBits c.2.num <= 10) (h2 : intBits (c.2.den : Int) <= 10) : (cW c).length <= 45 := by
 have a := c1v h0 (by decide)
 have b := d1u h1 h2
 have e0 : Str.empty.length = 0 := rfl
 have e1 : (Str.ofString "=").length = 1 := by decide +kernel
 unfold cW
 simp only [strLen_append, e0, e1]
 omega
theorem h4r (n : Nat) : sg (nW n) = txt (n : Int) := c6s _
theorem h9w (y : Rat) : sg (fW y) = h4j y.num (y.den : Int) := by
 unfold fW h4j
 rw [a3r, a3r, a3r, c6s, c6s]
 have e4 : sg Str.empty = [] := rfl
 have e5 : sg (Str.ofString "/") = [47] := by decide +kernel
 rw [e4, e5]
 simp
theorem h9x (c : Int × Rat) : sg (cW c) = txt c.1 ++ 61 :: sg (fW c.2) := by
 unfold cW
 rw [a3r, a3r, a3r, c6s]
 have e4 : sg Str.empty = [] := rfl
 have e5 : sg (Str.ofString "=") = [61] := by decide +kernel
 rw [e4, e5]
 simp
theorem h9y {y : Rat} (h : YOk y) : Good (sg (fW y)) y.num (y.den : Int) := by
 have dp := y.den_pos
 refine ⟨h9w y, by omega, y.reduced, ?_, ?_⟩
 ·exact h4q 8 _ (Nat.lt_of_le_of_lt h.1 (by decide))
 ·exact h4q 8 _ (Nat.lt_of_le_of_lt (show (y.den : Int).natAbs <= 1000 from h.2) (by decide))
theorem g6d {c : Nat} (h1 : c ≠ 45) (h2 : 57 < c) (y : Rat) : c ∉ sg (fW y) := by
 rw [h9w]
 unfold h4j
 intro h
 rcases List.mem_append.mp h with z | z
 ·exact d1t h1 (.inr h2) z
 ·rcases List.mem_cons.mp z with z | z
  ·omega
  ·exact d1t h1 (.inr h2) z
theorem h0e {c : Nat} (h1 : c ≠ 45) (h2 : c < 48 \/ 57 < c) (n : Nat) : c ∉ sg (nW n) := by
 rw [h4r]
 exact d1t h1 h2
theorem h9z (y : Rat) : 44 ∉ sg (fW y) := by
 rw [h9w]
 unfold h4j
 intro h
 rcases List.mem_append.mp h with z | z
 ·exact d1t (by decide) (.inl (by decide)) z
 ·rcases List.mem_cons.mp z with z | z
  ·omega
  ·exact d1t (by decide) (.inl (by decide)) z
theorem i0a (c : Int × Rat) : 44 ∉ sg (cW c) := by
 rw [h9x]
 intro h
 rcases List.mem_append.mp h with z | z
 ·exact d1t (by decide) (.inl (by decide)) z
 ·rcases List.mem_cons.mp z with z | z
  ·omega
  ·exact h9z _ z
theorem i0b (c : Int × Rat) : 58 ∉ sg (cW c) := by
 rw [h9x]
 intro h
 rcases List.mem_append.mp h with z | z
 ·exact d1t (by decide) (.inr (by decide)) z
 ·rcases List.mem_cons.mp z with z | z
  ·omega
  ·exact g6d (by decide) (by decide) _ z
theorem h0f {c k : Nat} (hk : c ≠ k) : ∀ {ps : List Str}, (∀ p ∈ ps, c ∉ sg p) -> c ∉ sg (Str.join ⟨#[k]⟩ ps)
 | [], _ => by
  show c ∉ ([] : List Nat)
  simp
 | [p], h => h p (List.mem_cons_self ..)
 | p :: q :: r, h => by
  rw [b0r]
  intro z
  rcases List.mem_append.mp z with z | z
  ·exact h p (List.mem_cons_self ..) z
  ·rcases List.mem_cons.mp z with z | z
   ·exact hk z
   ·exact h0f hk (fun x hx => h x (List.mem_cons_of_mem _ hx)) z
theorem f9p {b : Nat} : ∀ {l : List Nat}, (∀ x ∈ l, x <= b) -> l.sum <= l.length * b
 | [], _ => Nat.zero_le _
 | x :: l, h => by
  have i := f9p (l := l) fun y hy => h y (List.mem_cons_of_mem _ hy)
  have := h x (List.mem_cons_self ..)
  rw [List.sum_cons, List.length_cons, Nat.succ_mul]
  omega
theorem g4b {z : Str} {ps : List Str} {n : Nat} (h : ∀ p ∈ ps, p.length <= n) : (Str.join z ps).length <= ps.length * n + ps.length * z.length := by
 have a := StrLaws.join_length_le z ps
 have b := f9p (b := n) (l := ps.map (·.length)) fun x hx => by
  obtain ⟨y, hy, rfl⟩ := List.mem_map.mp hx
  exact h y hy
 rw [List.length_map] at b
 have c : (ps.length - 1) * z.length <= ps.length * z.length := Nat.mul_le_mul_right _ (Nat.sub_le _ _)
 omega
theorem f8h.len {cs : List (Int × Rat)} (h : f8h cs) : ∀ c ∈ cs, (cW c).length <= 45 := fun c hc => by
 obtain ⟨a, b, y⟩ := h.1 c hc
 exact h6w (by omega) y.b.1 y.b.2
theorem f8h.i7j {cs : List (Int × Rat)} (h : f8h cs) : (Str.join ⟨#[44]⟩ (cs.map cW)).length <= 600 := by
 have a := g4b (z := ⟨#[44]⟩) (ps := cs.map cW) (n := 45) fun p hp => by
  obtain ⟨c, hc, rfl⟩ := List.mem_map.mp hp
  exact h.len c hc
 rw [List.length_map, f0w] at a
 have := h.2.2.2
 omega
theorem Dt.free {d : Dt} : ∀ p ∈ d.kind :: d.vals, 58 ∉ sg p := by
 cases d <;> intro p hp <;> simp only [Dt.kind, Dt.vals, List.mem_cons, List.not_mem_nil, or_false] at hp
 case gain => rcases hp with rfl | rfl; decide +kernel; exact g6d (by decide) (by decide) _
 case delay => rcases hp with rfl | rfl; decide +kernel; exact h0e (by decide) (.inr (by decide)) _
 case echo => rcases hp with rfl | rfl | rfl | rfl; decide +kernel; exact g6d (by decide) (by decide) _; exact h0e (by decide) (.inr (by decide)) _; exact h0e (by decide) (.inr (by decide)) _
 case back => rcases hp with rfl | rfl | rfl; decide +kernel; exact g6d (by decide) (by decide) _; exact h0e (by decide) (.inr (by decide)) _
 case hall => rcases hp with rfl | rfl | rfl; decide +kernel; exact g6d (by decide) (by decide) _; exact h0e (by decide) (.inr (by decide)) _
 case swell cs =>
  rcases hp with rfl | rfl
  ·decide +kernel
  ·refine h0f (by decide) fun p hp => ?_
   obtain ⟨c, _, rfl⟩ := List.mem_map.mp hp
   exact i0b c
theorem Dt.vlen {d : Dt} (h : d.ok) : ∀ p ∈ d.kind :: d.vals, p.length <= 600 := by
 have k1 : (Str.ofString "gain").length = 4 := by decide +kernel
 have k2 : (Str.ofString "delay").length = 5 := by decide +kernel
 have k3 : (Str.ofString "echo").length = 4 := by decide +kernel
 have k4 : (Str.ofString "back").length = 4 := by decide +kernel
 have k5 : (Str.ofString "hall").length = 4 := by decide +kernel
 have k6 : (Str.ofString "swell").length = 5 := by decide +kernel
 have f : ∀ {y : Rat}, YOk y -> (fW y).length <= 600 := fun h => Nat.le_trans (d1u h.b.1 h.b.2) (by decide)
 have g : ∀ {n : Nat}, n <= 1000 -> (nW n).length <= 600 := fun h => Nat.le_trans (d5l (Nat.lt_of_le_of_lt h (by decide))) (by decide)
 cases d <;> intro p hp <;> simp only [Dt.kind, Dt.vals, List.mem_cons, List.not_mem_nil, or_false] at hp
 case gain => rcases hp with rfl | rfl; omega; exact f h
 case delay => rcases hp with rfl | rfl; omega; exact g h
 case echo => rcases hp with rfl | rfl | rfl | rfl; omega; exact f h.1; exact g h.2.2.1; exact g (Nat.le_trans h.2.2.2 (by decide))
 case back => rcases hp with rfl | rfl | rfl; omega; exact f h.1; exact g h.2.2
 case hall => rcases hp with rfl | rfl | rfl; omega; exact f h.1; exact g h.2.2.2
 case swell cs => rcases hp with rfl | rfl; omega; exact h.i7j
theorem Dt.vn {d : Dt} : d.vals.length <= 3 := by
 cases d <;> simp [Dt.vals]
theorem Dt.wlen {d : Dt} (h : d.ok) : d.word.length <= 4000 := by
 have a := g4b (z := ⟨#[58]⟩) (d.vlen h)
 have b := d.vn
 rw [List.length_cons, f0w] at a
 unfold Dt.word
 omega
theorem Dt.split (d : Dt) : b6g d.word ⟨#[58]⟩ = d.kind :: d.vals := d6s (by simp) d.free rfl
theorem f6i {cs : List (Int × Rat)} (h : 1 <= cs.length) : b6g (Str.join ⟨#[44]⟩ (cs.map cW)) ⟨#[44]⟩ = cs.map cW := d6s (by intro z; have := congrArg List.length z; rw [List.length_map, List.length_nil] at this; omega) (fun p hp => by
 obtain ⟨c, _, rfl⟩ := List.mem_map.mp hp
 exact i0a c) rfl
theorem f9q {c : Int × Rat} : b6g (cW c) ⟨#[61]⟩ = [Str.ofString (toString c.1), fW c.2] := d6s (by simp) (fun p hp => by
 rcases List.mem_cons.mp hp with rfl | hp
 ·rw [c6s]
  exact d1t (by decide) (.inr (by decide))
 ·rw [List.mem_singleton.mp hp]
  exact g6d (by decide) (by decide) _) (by rw [b0r, h9x, c6s]; rfl)
theorem g6e (z p : Str) : Str.join z [p] = p := rfl
theorem g6f : sg Str.empty = [] := rfl
theorem i5j : sg (Str.ofString "gain:") = sg (Str.ofString "gain") ++ [58] := by decide +kernel
theorem i0c : sg (Str.ofString "delay:") = sg (Str.ofString "delay") ++ [58] := by decide +kernel
theorem i5k : sg (Str.ofString "echo:") = sg (Str.ofString "echo") ++ [58] := by decide +kernel
theorem h6x : sg (Str.ofString "back:") = sg (Str.ofString "back") ++ [58] := by decide +kernel
theorem h6y : sg (Str.ofString "hall:") = sg (Str.ofString "hall") ++ [58] := by decide +kernel
theorem i0d : sg (Str.ofString "swell:") = sg (Str.ofString "swell") ++ [58] := by decide +kernel
theorem f9r : sg (Str.ofString ":") = [58] := by decide +kernel
theorem h4s : Str.ofString "," = ⟨#[44]⟩ := by decide +kernel
theorem i8r : Str.ofString ":" = ⟨#[58]⟩ := by decide +kernel
theorem i8s : Str.ofString "=" = ⟨#[61]⟩ := by decide +kernel
theorem h6z (y : Rat) : Str.empty ++ Str.ofString "gain:" ++ fW y = (Dt.gain y).word := b6z (by
 simp only [Dt.word, Dt.kind, Dt.vals, a3r, b0r, g6e, g6f, i5j, f9r, List.nil_append, List.append_assoc, List.singleton_append, List.cons_append])
theorem h0g (n : Nat) : Str.empty ++ Str.ofString "delay:" ++ nW n = (Dt.delay n).word := b6z (by
 simp only [Dt.word, Dt.kind, Dt.vals, a3r, b0r, g6e, g6f, i0c, f9r, List.nil_append, List.append_assoc, List.singleton_append, List.cons_append])
theorem h7a (y : Rat) (n t : Nat) : Str.empty ++ Str.ofString "echo:" ++ fW y ++ Str.ofString ":" ++ nW n ++ Str.ofString ":" ++ nW t = (Dt.echo y n t).word := b6z (by
 simp only [Dt.word, Dt.kind, Dt.vals, a3r, b0r, g6e, g6f, i5k, f9r, List.nil_append, List.append_assoc, List.singleton_append, List.cons_append])
theorem h7b (y : Rat) (n : Nat) : Str.empty ++ Str.ofString "back:" ++ fW y ++ Str.ofString ":" ++ nW n = (Dt.back y n).word := b6z (by
 simp only [Dt.word, Dt.kind, Dt.vals, a3r, b0r, g6e, g6f, h6x, f9r, List.nil_append, List.append_assoc, List.singleton_append, List.cons_append])
theorem h7c (y : Rat) (n : Nat) : Str.empty ++ Str.ofString "hall:" ++ fW y ++ Str.ofString ":" ++ nW n = (Dt.hall y n).word := b6z (by
 simp only [Dt.word, Dt.kind, Dt.vals, a3r, b0r, g6e, g6f, h6y, f9r, List.nil_append, List.append_assoc, List.singleton_append, List.cons_append])
theorem i0e (z : Str) (ps : List Str) : Txt.join z ps = Str.join z ps := by
 show Builtin.Str.glued _ _ = _
 rw [StrLaws.glued_eq_join]
theorem h0h (cs : List (Int × Rat)) : Str.empty ++ Str.ofString "swell:" ++ Txt.join (Str.ofString ",") (cs.map cW) = (Dt.swell cs).word := b6z (by
 rw [i0e, h4s]
 simp only [Dt.word, Dt.kind, Dt.vals, a3r, b0r, g6e, g6f, i0d, f9r, List.nil_append, List.append_assoc, List.singleton_append, List.cons_append])
end L2
set_option maxHeartbeats 4000000
namespace My
open PySem PySem.Spec PyProof.Rows L2
open PySem.Builtin.Int (intBits)
noncomputable def top (i : Nat) : Stmt := PySem.Challenge.pw_mixbench_k38_made_later.main.body.getD i (.Pass ⟨0, 0, 0, 0⟩)
noncomputable abbrev b7t : Stmt := (top 9)
noncomputable abbrev b1p : Stmt := (top 10)
noncomputable abbrev b7u : Stmt := (top 11)
noncomputable abbrev c2z : Stmt := (top 14)
noncomputable abbrev b7v : Stmt := (top 15)
noncomputable abbrev b7w : Stmt := (top 16)
noncomputable abbrev f4p : Stmt := (top 17)
noncomputable abbrev d6t : Stmt := (top 18)
noncomputable abbrev c3g : Stmt := (top 19)
noncomputable abbrev b7y : Stmt := (top 20)
noncomputable abbrev a6q : Stmt := (top 21)
noncomputable abbrev a6r : Stmt := (top 22)
noncomputable abbrev a8t : Stmt := (top 24)
noncomputable abbrev b0z : Stmt := (top 25)
noncomputable abbrev b8t : Stmt := (top 27)
noncomputable abbrev c3h : Stmt := (top 28)
noncomputable abbrev b1q : Stmt := (inClass (top 29) 0)
noncomputable abbrev b1r : Stmt := (inClass (top 29) 1)
noncomputable abbrev b1s : Stmt := (inClass (top 29) 4)
noncomputable abbrev b3w : Stmt := (inClass (top 30) 0)
noncomputable abbrev b1t : Stmt := (inClass (top 30) 1)
noncomputable abbrev a8o : Stmt := (inClass (top 30) 2)
noncomputable abbrev b3y : Stmt := (inClass (top 30) 4)
noncomputable abbrev b1u : Stmt := (inClass (top 31) 0)
noncomputable abbrev a6s : Stmt := (inClass (top 31) 1)
noncomputable abbrev b1v : Stmt := (inClass (top 31) 3)
noncomputable abbrev b3z : Stmt := (top 33)
noncomputable abbrev a6t : Stmt := (top 34)
noncomputable abbrev b1g : Stmt := (inClass (top 35) 0)
noncomputable abbrev b1w : Stmt := (inClass (top 35) 1)
noncomputable abbrev a8p : Stmt := (inClass (top 35) 2)
noncomputable abbrev b1y : Stmt := (inClass (top 35) 3)
noncomputable abbrev b4g : Stmt := (inClass (top 35) 5)
noncomputable abbrev b4h : Stmt := (inClass (top 36) 0)
noncomputable abbrev b1z : Stmt := (inClass (top 36) 1)
noncomputable abbrev a8q : Stmt := (inClass (top 36) 2)
noncomputable abbrev b4i : Stmt := (inClass (top 36) 5)
noncomputable abbrev b4j : Stmt := (inClass (top 37) 0)
noncomputable abbrev a8r : Stmt := (inClass (top 37) 1)
noncomputable abbrev b4k : Stmt := (inClass (top 37) 4)
noncomputable abbrev a6u : Stmt := (top 39)
noncomputable abbrev b4l : Stmt := (top 41)
noncomputable abbrev f4q : Stmt := (top 42)
noncomputable abbrev a9u : Stmt := (top 43)
noncomputable abbrev a5u : Stmt := (inClass (top 44) 0)
noncomputable abbrev a9v : Stmt := (inClass (top 44) 1)
noncomputable abbrev a9w : Stmt := (inClass (top 44) 2)
noncomputable abbrev a6v : Stmt := (inClass (top 44) 3)
noncomputable abbrev a6w : Stmt := (inClass (top 44) 4)
noncomputable abbrev a5j : Stmt := (inClass (top 44) 5)
noncomputable abbrev a7u : Stmt := (inClass (top 44) 7)
noncomputable abbrev a8u : Stmt := (inClass (top 44) 8)
noncomputable abbrev b4m : Stmt := (top 51)
noncomputable abbrev a9y : Stmt := (top 52)
noncomputable abbrev b4n : Stmt := (top 53)
noncomputable abbrev a9z : Stmt := (top 54)
noncomputable abbrev c3i : Stmt := (top 55)
noncomputable abbrev b7z : Stmt := (top 56)
noncomputable abbrev c3j : Stmt := (top 57)
noncomputable abbrev c3k : Stmt := (top 58)
noncomputable abbrev c3l : Stmt := (top 59)
noncomputable abbrev b0g : Stmt := (top 60)
noncomputable abbrev b4o : Stmt := (top 61)
noncomputable abbrev c3m : Stmt := (top 63)
noncomputable abbrev b0h : Stmt := (top 65)
noncomputable abbrev b0i : Stmt := (top 66)
noncomputable abbrev b8g : Stmt := (top 67)
noncomputable abbrev b4p : Stmt := (top 68)
noncomputable abbrev b8h : Stmt := (top 69)
noncomputable abbrev f6j : Stmt := (top 70)
theorem g1y : a0w ["value"] ["value"] (a0h b7t) := ⟨rfl, rfl, rfl, by decide +kernel, rfl, by decide +kernel, by decide +kernel⟩
theorem d5m : a0w ["text", "sign"] ["text"] (a0h b1p) := ⟨rfl, rfl, rfl, by decide +kernel, rfl, by decide +kernel, by decide +kernel⟩
theorem g1z : a0w ["text"] ["text"] (a0h b7u) := ⟨rfl, rfl, rfl, by decide +kernel, rfl, by decide +kernel, by decide +kernel⟩
theorem b8i : a0w ["one", "other", "left", "right", "rest"] ["one", "other"] (a0h c2z) := ⟨rfl, rfl, rfl, by decide +kernel, rfl, by decide +kernel, by decide +kernel⟩
theorem g2a : a0w ["one", "other"] ["one", "other"] (a0h b7v) := ⟨rfl, rfl, rfl, by decide +kernel, rfl, by decide +kernel, by decide +kernel⟩
theorem d2r : a0w ["top", "bottom", "by"] ["top", "bottom"] (a0h b7w) := ⟨rfl, rfl, rfl, by decide +kernel, rfl, by decide +kernel, by decide +kernel⟩
theorem i0f : a0w ["one", "other"] ["one", "other"] (a0h f4p) := ⟨rfl, rfl, rfl, by decide +kernel, rfl, by decide +kernel, by decide +kernel⟩
theorem h4t : a0w ["one", "other"] ["one", "other"] (a0h d6t) := ⟨rfl, rfl, rfl, by decide +kernel, rfl, by decide +kernel, by decide +kernel⟩
theorem g6g : a0w ["one"] ["one"] (a0h c3g) := ⟨rfl, rfl, rfl, by decide +kernel, rfl, by decide +kernel, by decide +kernel⟩
theorem g2b : a0w ["one", "other"] ["one", "other"] (a0h b7y) := ⟨rfl, rfl, rfl, by decide +kernel, rfl, by decide +kernel, by decide +kernel⟩
theorem a5q : a0w ["one", "top", "bottom"] ["one"] (a0h a6q) := ⟨rfl, rfl, rfl, by decide +kernel, rfl, by decide +kernel, by decide +kernel⟩
theorem a8l : a0w ["text", "halves", "top", "number", "one"] ["text"] (a0h a6r) := ⟨rfl, rfl, rfl, by decide +kernel, rfl, by decide +kernel, by decide +kernel⟩
theorem c4j : a0w ["one", "other", "shared", "both"] ["one", "other"] (a0h a8t) := ⟨rfl, rfl, rfl, by decide +kernel, rfl, by decide +kernel, by decide +kernel⟩
theorem f9s : a0w ["row", "by"] ["row", "by"] (a0h b0z) := ⟨rfl, rfl, rfl, by decide +kernel, rfl, by decide +kernel, by decide +kernel⟩
theorem g6h : a0w ["known", "start", "many"] ["known", "start", "many"] (a0h b8t) := ⟨rfl, rfl, rfl, by decide +kernel, rfl, by decide +kernel, by decide +kernel⟩
theorem g6i : a0w ["known", "many"] ["known", "many"] (a0h c3h) := ⟨rfl, rfl, rfl, by decide +kernel, rfl, by decide +kernel, by decide +kernel⟩
theorem f6k : a0w ["self"] ["self"] (a0h b1q) := ⟨rfl, rfl, rfl, by decide +kernel, rfl, by decide +kernel, by decide +kernel⟩
theorem f6l : a0w ["self"] ["self"] (a0h b1r) := ⟨rfl, rfl, rfl, by decide +kernel, rfl, by decide +kernel, by decide +kernel⟩
theorem f6m : a0w ["self", "n"] ["self", "n"] (a0h b1s) := ⟨rfl, rfl, rfl, by decide +kernel, rfl, by decide +kernel, by decide +kernel⟩
theorem f9t : a0w ["self", "gain"] ["self", "gain"] (a0h b3w) := ⟨rfl, rfl, rfl, by decide +kernel, rfl, by decide +kernel, by decide +kernel⟩
theorem f6n : a0w ["self"] ["self"] (a0h b1t) := ⟨rfl, rfl, rfl, by decide +kernel, rfl, by decide +kernel, by decide +kernel⟩
theorem f1g : a0w ["self", "state", "tops", "bottom"] ["self", "state", "tops", "bottom"] (a0h a8o) := ⟨rfl, rfl, rfl, by decide +kernel, rfl, by decide +kernel, by decide +kernel⟩
theorem d8m : a0w ["self", "gain"] ["self"] (a0h b3y) := ⟨rfl, rfl, rfl, by decide +kernel, rfl, by decide +kernel, by decide +kernel⟩
theorem f6o : a0w ["self", "many"] ["self", "many"] (a0h b1u) := ⟨rfl, rfl, rfl, by decide +kernel, rfl, by decide +kernel, by decide +kernel⟩
theorem c6t : a0w ["self", "state", "tops", "bottom", "known"] ["self", "state", "tops", "bottom"] (a0h a6s) := ⟨rfl, rfl, rfl, by decide +kernel, rfl, by decide +kernel, by decide +kernel⟩
theorem d5n : a0w ["self", "many"] ["self"] (a0h b1v) := ⟨rfl, rfl, rfl, by decide +kernel, rfl, by decide +kernel, by decide +kernel⟩
theorem c7q : a0w ["number", "most", "powers", "turn"] ["number", "most"] (a0h b3z) := ⟨rfl, rfl, rfl, by decide +kernel, rfl, by decide +kernel, by decide +kernel⟩
theorem d9h : a0w ["top", "bottom"] ["top", "bottom"] (a0h a6t) := ⟨rfl, rfl, rfl, by decide +kernel, rfl, by decide +kernel, by decide +kernel⟩
theorem c7r : a0w ["self", "gain", "many", "turns", "tops", "bottoms"] ["self", "gain", "many", "turns"] (a0h b1g) := ⟨rfl, rfl, rfl, by decide +kernel, rfl, by decide +kernel, by decide +kernel⟩
theorem f6p : a0w ["self"] ["self"] (a0h b1w) := ⟨rfl, rfl, rfl, by decide +kernel, rfl, by decide +kernel, by decide +kernel⟩
theorem a6y : a0w ["self", "state", "tops", "bottom", "known", "out", "turn", "heard"] ["self", "state", "tops", "bottom"] (a0h a8p) := ⟨rfl, rfl, rfl, by decide +kernel, rfl, by decide +kernel, by decide +kernel⟩
theorem f6q : a0w ["self"] ["self"] (a0h b1y) := ⟨rfl, rfl, rfl, by decide +kernel, rfl, by decide +kernel, by decide +kernel⟩
theorem c0r : a0w ["self", "gain", "many", "turns"] ["self"] (a0h b4g) := ⟨rfl, rfl, rfl, by decide +kernel, rfl, by decide +kernel, by decide +kernel⟩
theorem f9u : a0w ["self", "gain", "many"] ["self", "gain", "many"] (a0h b4h) := ⟨rfl, rfl, rfl, by decide +kernel, rfl, by decide +kernel, by decide +kernel⟩
theorem f6r : a0w ["self"] ["self"] (a0h b1z) := ⟨rfl, rfl, rfl, by decide +kernel, rfl, by decide +kernel, by decide +kernel⟩
theorem b2u : a0w ["self", "state", "tops", "bottom", "known", "heard", "out"] ["self", "state", "tops", "bottom"] (a0h a8q) := ⟨rfl, rfl, rfl, by decide +kernel, rfl, by decide +kernel, by decide +kernel⟩
theorem c7s : a0w ["self", "gain", "many"] ["self"] (a0h b4i) := ⟨rfl, rfl, rfl, by decide +kernel, rfl, by decide +kernel, by decide +kernel⟩
theorem f9v : a0w ["self", "gain", "many"] ["self", "gain", "many"] (a0h b4j) := ⟨rfl, rfl, rfl, by decide +kernel, rfl, by decide +kernel, by decide +kernel⟩
theorem a8v : a0w ["self", "state", "tops", "bottom", "known", "top", "heard", "whole"] ["self", "state", "tops", "bottom"] (a0h a8r) := ⟨rfl, rfl, rfl, by decide +kernel, rfl, by decide +kernel, by decide +kernel⟩
theorem c7t : a0w ["self", "gain", "many"] ["self"] (a0h b4k) := ⟨rfl, rfl, rfl, by decide +kernel, rfl, by decide +kernel, by decide +kernel⟩
theorem b0s : a0w ["bottoms", "shared", "bottom"] ["bottoms"] (a0h a6u) := ⟨rfl, rfl, rfl, by decide +kernel, rfl, by decide +kernel, by decide +kernel⟩
theorem b6h : a0w ["corners", "slopes", "left", "right", "rise"] ["corners"] (a0h b4l) := ⟨rfl, rfl, rfl, by decide +kernel, rfl, by decide +kernel, by decide +kernel⟩
theorem i0g : a0w ["one", "bottom"] ["one", "bottom"] (a0h f4q) := ⟨rfl, rfl, rfl, by decide +kernel, rfl, by decide +kernel, by decide +kernel⟩
theorem c1w : a0w ["corner", "at", "gain"] ["corner"] (a0h a9u) := ⟨rfl, rfl, rfl, by decide +kernel, rfl, by decide +kernel, by decide +kernel⟩
theorem d5o : a0w ["self", "corners", "slopes"] ["self", "corners"] (a0h a5u) := ⟨rfl, rfl, rfl, by decide +kernel, rfl, by decide +kernel, by decide +kernel⟩
theorem f3q : a0w ["self"] ["self"] (a0h a9v) := ⟨rfl, rfl, rfl, by decide +kernel, rfl, by decide +kernel, by decide +kernel⟩
theorem f3r : a0w ["self"] ["self"] (a0h a9w) := ⟨rfl, rfl, rfl, by decide +kernel, rfl, by decide +kernel, by decide +kernel⟩
theorem b6q : a0w ["self", "at", "found"] ["self", "at"] (a0h a6v) := ⟨rfl, rfl, rfl, by decide +kernel, rfl, by decide +kernel, by decide +kernel⟩
theorem c6u : a0w ["self", "at", "line"] ["self", "at"] (a0h a6w) := ⟨rfl, rfl, rfl, by decide +kernel, rfl, by decide +kernel, by decide +kernel⟩
theorem c6v : a0w ["self", "state", "tops", "bottom", "out"] ["self", "state", "tops", "bottom"] (a0h a5j) := ⟨rfl, rfl, rfl, by decide +kernel, rfl, by decide +kernel, by decide +kernel⟩
theorem f3s : a0w ["self", "n"] ["self", "n"] (a0h a7u) := ⟨rfl, rfl, rfl, by decide +kernel, rfl, by decide +kernel, by decide +kernel⟩
theorem d5p : a0w ["self", "corners"] ["self"] (a0h a8u) := ⟨rfl, rfl, rfl, by decide +kernel, rfl, by decide +kernel, by decide +kernel⟩
theorem d8n : a0w ["text", "gain"] ["text"] (a0h b4m) := ⟨rfl, rfl, rfl, by decide +kernel, rfl, by decide +kernel, by decide +kernel⟩
theorem d1v : a0w ["text", "least", "most", "number"] ["text", "least", "most"] (a0h a9y) := ⟨rfl, rfl, rfl, by decide +kernel, rfl, by decide +kernel, by decide +kernel⟩
theorem f9w : a0w ["text"] ["text"] (a0h b4n) := ⟨rfl, rfl, rfl, by decide +kernel, rfl, by decide +kernel, by decide +kernel⟩
theorem f3t : a0w ["values", "count"] ["values", "count"] (a0h a9z) := ⟨rfl, rfl, rfl, by decide +kernel, rfl, by decide +kernel, by decide +kernel⟩
theorem g6j : a0w ["values"] ["values"] (a0h c3i) := ⟨rfl, rfl, rfl, by decide +kernel, rfl, by decide +kernel, by decide +kernel⟩
theorem g2c : a0w ["values"] ["values"] (a0h b7z) := ⟨rfl, rfl, rfl, by decide +kernel, rfl, by decide +kernel, by decide +kernel⟩
theorem g6k : a0w ["values"] ["values"] (a0h c3j) := ⟨rfl, rfl, rfl, by decide +kernel, rfl, by decide +kernel, by decide +kernel⟩
theorem g6l : a0w ["values"] ["values"] (a0h c3k) := ⟨rfl, rfl, rfl, by decide +kernel, rfl, by decide +kernel, by decide +kernel⟩
theorem f4r : a0w ["values", "gain"] ["values"] (a0h c3l) := ⟨rfl, rfl, rfl, by decide +kernel, rfl, by decide +kernel, by decide +kernel⟩
theorem d1w : a0w ["text", "halves"] ["text"] (a0h b0g) := ⟨rfl, rfl, rfl, by decide +kernel, rfl, by decide +kernel, by decide +kernel⟩
theorem c4k : a0w ["values", "corners", "left", "right"] ["values"] (a0h b4o) := ⟨rfl, rfl, rfl, by decide +kernel, rfl, by decide +kernel, by decide +kernel⟩
theorem f4s : a0w ["word", "values"] ["word"] (a0h c3m) := ⟨rfl, rfl, rfl, by decide +kernel, rfl, by decide +kernel, by decide +kernel⟩
theorem f3u : a0w ["_law_script", "_law_k"] ["_law_script", "_law_k"] (a0h b0h) := ⟨rfl, rfl, rfl, by decide +kernel, rfl, by decide +kernel, by decide +kernel⟩
theorem b5m : a0w ["_law_one", "_law_other", "_law_rest"] ["_law_one", "_law_other"] (a0h b0i) := ⟨rfl, rfl, rfl, by decide +kernel, rfl, by decide +kernel, by decide +kernel⟩
theorem b4q : a0w ["_law_mixed", "_law_hall", "_law_low", "_law_top", "_law_by"] ["_law_mixed", "_law_hall"] (a0h b8g) := ⟨rfl, rfl, rfl, by decide +kernel, rfl, by decide +kernel, by decide +kernel⟩
theorem c0s : a0w ["_law_mixed", "_law_many", "_law_by", "_law_corners", "_law_k", "_law_at"] ["_law_mixed", "_law_many", "_law_by"] (a0h b4p) := ⟨rfl, rfl, rfl, by decide +kernel, rfl, by decide +kernel, by decide +kernel⟩
theorem b8u : a0w ["_law_cell", "_law_by", "_law_mixed", "_law_kind", "_law_gain_here", "_law_many"] ["_law_cell", "_law_by"] (a0h b8h) := ⟨rfl, rfl, rfl, by decide +kernel, rfl, by decide +kernel, by decide +kernel⟩
theorem c6w : a0w ["_law_script", "_law_first", "_law_second", "_law_by", "_law_bottom", "_law_far", "_law_tones", "_law_part", "_law_moved", "_law_due", "_law_found"] ["_law_script"] (a0h f6j) := ⟨rfl, rfl, rfl, by decide +kernel, rfl, by decide +kernel, by decide +kernel⟩
set_option genInjectivity false in
structure Ad where
 b4r : Addr
 d2s : FuncData
 a8w : Addr
 c4l : FuncData
 b4s : Addr
 d2t : FuncData
 b6i : Addr
 d1j : FuncData
 b4t : Addr
 d2u : FuncData
 b4u : Addr
 d2v : FuncData
 f1h : Addr
 g2d : FuncData
 d2w : Addr
 f6s : FuncData
 b8v : Addr
 d6u : FuncData
 b4v : Addr
 d2y : FuncData
 a4u : Addr
 b0t : FuncData
 a5k : Addr
 b6r : FuncData
 a8y : Addr
 c4m : FuncData
 b1h : Addr
 c7u : FuncData
 b8w : Addr
 d6v : FuncData
 b8y : Addr
 d6w : FuncData
 a2v : Addr
 c4n : FuncData
 a1k : Addr
 c4o : FuncData
 a1l : Addr
 c4p : FuncData
 a8z : Addr
 c7v : FuncData
 a5v : Addr
 b7g : FuncData
 a4n : Addr
 b2v : FuncData
 a9g : Addr
 c7w : FuncData
 a7n : Addr
 c4q : FuncData
 a3y : Addr
 b0u : FuncData
 a7o : Addr
 c4r : FuncData
 b1i : Addr
 c7y : FuncData
 a5l : Addr
 b6s : FuncData
 a9h : Addr
 c7z : FuncData
 a5w : Addr
 b7h : FuncData
 a4o : Addr
 b2w : FuncData
 a7p : Addr
 c4s : FuncData
 a9i : Addr
 c8g : FuncData
 a9j : Addr
 c8h : FuncData
 a5y : Addr
 b7i : FuncData
 a4p : Addr
 b2y : FuncData
 a9k : Addr
 c8i : FuncData
 a9l : Addr
 c8j : FuncData
 a4q : Addr
 b2z : FuncData
 a9m : Addr
 c8k : FuncData
 a5m : Addr
 b6t : FuncData
 b1j : Addr
 c8l : FuncData
 f1i : Addr
 g2e : FuncData
 a7v : Addr
 c1y : FuncData
 a7q : Addr
 c4t : FuncData
 a5h : Addr
 b5n : FuncData
 a5z : Addr
 c1z : FuncData
 a4v : Addr
 b6u : FuncData
 a4w : Addr
 b6v : FuncData
 a3z : Addr
 b0v : FuncData
 a6g : Addr
 c2g : FuncData
 a7r : Addr
 c4u : FuncData
 b1k : Addr
 c8m : FuncData
 a7w : Addr
 c2h : FuncData
 b1l : Addr
 c8n : FuncData
 a7y : Addr
 c2i : FuncData
 b3g : Addr
 d6y : FuncData
 b0j : Addr
 d2z : FuncData
 b3h : Addr
 d6z : FuncData
 b3i : Addr
 d7g : FuncData
 b3j : Addr
 d7h : FuncData
 a7z : Addr
 c2j : FuncData
 b0k : Addr
 d3g : FuncData
 b8z : Addr
 d7i : FuncData
 a8g : Addr
 c2k : FuncData
 a8h : Addr
 c2l : FuncData
 b4w : Addr
 d3h : FuncData
 b1m : Addr
 c8o : FuncData
 b4y : Addr
 d3i : FuncData
 g2f : Addr
 h0i : FuncData
 c0t : Addr
 a4g : Addr
 a2g : Addr
 a2i : Addr
 a3s : Addr
 a3v : Addr
 a1p : Addr
 f9y : Value
 b6j : Value
 b6k : Value
 f1j : Value
 f1k : Value
 d8o : Value
 f9z : Value
 d1y : Value
 a1w : Addr
 wd : World
structure Tx (K : PySem.W.Frag) (mg : Str -> Option Value) (A : Ad) : Prop where
 b8j : Fun K "is_whole" "is_whole" b7t A.b4r A.d2s
 d1k : Binds K A.d2s ["value"] []
 f4t : mg "is_whole" = some (.ref A.b4r)
 b2g : Fun K "is_figures" "is_figures" b1p A.a8w A.c4l
 c0u : Binds K A.c4l ["text"] []
 d8p : mg "is_figures" = some (.ref A.a8w)
 c3n : Fun K "whole_of" "whole_of" b7u A.b4s A.d2t
 d7j : Binds K A.d2t ["text"] []
 g6m : mg "whole_of" = some (.ref A.b4s)
 c3o : Fun K "divisor" "divisor" c2z A.b6i A.d1j
 d5q : Binds K A.d1j ["one", "other"] []
 g0a : mg "divisor" = some (.ref A.b6i)
 c3p : Fun K "multiple" "multiple" b7v A.b4t A.d2u
 d7k : Binds K A.d2u ["one", "other"] []
 g6n : mg "multiple" = some (.ref A.b4t)
 b4z : Fun K "fraction" "fraction" b7w A.b4u A.d2v
 c3q : Binds K A.d2v ["top", "bottom"] []
 d7l : mg "fraction" = some (.ref A.b4u)
 g0b : Fun K "plus" "plus" f4p A.f1h A.g2d
 h0j : Binds K A.g2d ["one", "other"] []
 i5l : mg "plus" = some (.ref A.f1h)
 d7m : Fun K "times" "times" d6t A.d2w A.f6s
 f6t : Binds K A.f6s ["one", "other"] []
 h0k : mg "times" = some (.ref A.d2w)
 c8p : Fun K "size_of" "size_of" c3g A.b8v A.d6u
 f1l : Binds K A.d6u ["one"] []
 h0l : mg "size_of" = some (.ref A.b8v)
 c3r : Fun K "is_under" "is_under" b7y A.b4v A.d2y
 d7n : Binds K A.d2y ["one", "other"] []
 g6o : mg "is_under" = some (.ref A.b4v)
 a2n : Fun K "fraction_text" "fraction_text" a6q A.a4u A.b0t
 a4y : Binds K A.b0t ["one"] []
 a6z : mg "fraction_text" = some (.ref A.a4u)
 a9n : Fun K "read_fraction" "read_fraction" a6r A.a5k A.b6r
 b9g : Binds K A.b6r ["text"] []
 f1m : mg "read_fraction" = some (.ref A.a5k)
 b2h : Fun K "added_rows" "added_rows" a8t A.a8y A.c4m
 c0v : Binds K A.c4m ["one", "other"] []
 d8q : mg "added_rows" = some (.ref A.a8y)
 a9o : Fun K "times_row" "times_row" b0z A.b1h A.c7u
 b5g : Binds K A.c7u ["row", "by"] []
 c4v : mg "times_row" = some (.ref A.b1h)
 b9h : Fun K "delayed" "delayed" b8t A.b8w A.d6v
 c8q : Binds K A.d6v ["known", "start", "many"] []
 f1n : mg "delayed" = some (.ref A.b8w)
 b6l : Fun K "last_of" "last_of" c3h A.b8y A.d6w
 c3s : Binds K A.d6w ["known", "many"] []
 d5r : mg "last_of" = some (.ref A.b8y)
 c0w : Fun K "grain" "Part.grain" b1q A.a2v A.c4n
 b2j : Binds K A.c4n ["self"] []
 c0y : Fun K "fresh" "Part.fresh" b1r A.a1k A.c4o
 a0o : Binds K A.c4o ["self"] []
 c0z : Fun K "later" "Part.later" b1s A.a1l A.c4p
 a9p : Binds K A.c4p ["self", "n"] []
 c4w : Fun K "__init__" "Gain.__init__" b3w A.a8z A.c7v
 d3j : Binds K A.c7v ["self", "gain"] []
 c1g : Fun K "grain" "Gain.grain" b1t A.a5v A.b7g
 c1h : Binds K A.b7g ["self"] []
 b5o : Fun K "through" "Gain.through" a8o A.a4n A.b2v
 b5p : Binds K A.b2v ["self", "state", "tops", "bottom"] []
 c4y : Fun K "word" "Gain.word" b3y A.a9g A.c7w
 b9i : Binds K A.c7w ["self"] []
 c1i : Fun K "__init__" "Delay.__init__" b1u A.a7n A.c4q
 c8r : Binds K A.c4q ["self", "many"] []
 b3k : Fun K "through" "Delay.through" a6s A.a3y A.b0u
 b3l : Binds K A.b0u ["self", "state", "tops", "bottom"] []
 c1j : Fun K "word" "Delay.word" b1v A.a7o A.c4r
 b6m : Binds K A.c4r ["self"] []
 b5h : Fun K "powers_of" "powers_of" b3z A.b1i A.c7y
 c4z : Binds K A.c7y ["number", "most"] []
 f1o : mg "powers_of" = some (.ref A.b1i)
 a9q : Fun K "toward_nought" "toward_nought" a6t A.a5l A.b6s
 b9j : Binds K A.b6s ["top", "bottom"] []
 f1p : mg "toward_nought" = some (.ref A.a5l)
 c5g : Fun K "__init__" "Echo.__init__" b1g A.a9h A.c7z
 d3k : Binds K A.c7z ["self", "gain", "many", "turns"] []
 c1k : Fun K "grain" "Echo.grain" b1w A.a5w A.b7h
 c1l : Binds K A.b7h ["self"] []
 b5q : Fun K "through" "Echo.through" a8p A.a4o A.b2w
 b5r : Binds K A.b2w ["self", "state", "tops", "bottom"] []
 c1m : Fun K "reach" "Echo.reach" b1y A.a7p A.c4s
 c8s : Binds K A.c4s ["self"] []
 c5h : Fun K "word" "Echo.word" b4g A.a9i A.c8g
 b9k : Binds K A.c8g ["self"] []
 c5i : Fun K "__init__" "Back.__init__" b4h A.a9j A.c8h
 d3l : Binds K A.c8h ["self", "gain", "many"] []
 c1n : Fun K "grain" "Back.grain" b1z A.a5y A.b7i
 c1o : Binds K A.b7i ["self"] []
 b5s : Fun K "through" "Back.through" a8q A.a4p A.b2y
 b5t : Binds K A.b2y ["self", "state", "tops", "bottom"] []
 c5j : Fun K "word" "Back.word" b4i A.a9k A.c8i
 b9l : Binds K A.c8i ["self"] []
 c5k : Fun K "__init__" "Hall.__init__" b4j A.a9l A.c8j
 d3m : Binds K A.c8j ["self", "gain", "many"] []
 b5u : Fun K "through" "Hall.through" a8r A.a4q A.b2z
 b5v : Binds K A.b2z ["self", "state", "tops", "bottom"] []
 c5l : Fun K "word" "Hall.word" b4k A.a9m A.c8k
 b9m : Binds K A.c8k ["self"] []
 a9r : Fun K "shared_bottom" "shared_bottom" a6u A.a5m A.b6t
 b9n : Binds K A.b6t ["bottoms"] []
 f1q : mg "shared_bottom" = some (.ref A.a5m)
 b9o : Fun K "slopes_of" "slopes_of" b4l A.b1j A.c8l
 d3n : Binds K A.c8l ["corners"] []
 g2g : mg "slopes_of" = some (.ref A.b1j)
 f4u : Fun K "over" "over" f4q A.f1i A.g2e
 g4c : Binds K A.g2e ["one", "bottom"] []
 h7d : mg "over" = some (.ref A.f1i)
 b3m : Fun K "corner_word" "corner_word" a9u A.a7v A.c1y
 c5m : Binds K A.c1y ["corner"] []
 f6u : mg "corner_word" = some (.ref A.a7v)
 c1p : Fun K "__init__" "Swell.__init__" a5u A.a7q A.c4t
 c1q : Binds K A.c4t ["self", "corners"] []
 b7j : Fun K "grain" "Swell.grain" a9v A.a5h A.b5n
 b7k : Binds K A.b5n ["self"] []
 b7l : Fun K "fresh" "Swell.fresh" a9w A.a5z A.c1z
 a2l : Binds K A.c1z ["self"] []
 b3n : Fun K "line_at" "Swell.line_at" a6v A.a4v A.b6u
 b9p : Binds K A.b6u ["self", "at"] []
 b3o : Fun K "gain_at" "Swell.gain_at" a6w A.a4w A.b6v
 b9q : Binds K A.b6v ["self", "at"] []
 b3p : Fun K "through" "Swell.through" a5j A.a3z A.b0v
 b3q : Binds K A.b0v ["self", "state", "tops", "bottom"] []
 b7m : Fun K "later" "Swell.later" a7u A.a6g A.c2g
 c5n : Binds K A.c2g ["self", "n"] []
 c1r : Fun K "word" "Swell.word" a8u A.a7r A.c4u
 b6n : Binds K A.c4u ["self"] []
 a8i : Fun K "read_gain" "read_gain" b4m A.b1k A.c8m
 b1n : Binds K A.c8m ["text"] []
 b9r : mg "read_gain" = some (.ref A.b1k)
 a6h : Fun K "read_number" "read_number" a9y A.a7w A.c2h
 b0l : Binds K A.c2h ["text", "least", "most"] []
 b7n : mg "read_number" = some (.ref A.a7w)
 b1o : Fun K "read_many" "read_many" b4n A.b1l A.c8n
 b9s : Binds K A.c8n ["text"] []
 d3o : mg "read_many" = some (.ref A.b1l)
 a4r : Fun K "check_count" "check_count" a9z A.a7y A.c2i
 a6i : Binds K A.c2i ["values", "count"] []
 b0m : mg "check_count" = some (.ref A.a7y)
 c8t : Fun K "gain_of" "gain_of" c3i A.b3g A.d6y
 f1r : Binds K A.d6y ["values"] []
 i5m : mg "gain_of" = some (.ref A.b3g)
 c3t : Fun K "delay_of" "delay_of" b7z A.b0j A.d2z
 d7o : Binds K A.d2z ["values"] []
 i1t : mg "delay_of" = some (.ref A.b0j)
 c8u : Fun K "echo_of" "echo_of" c3j A.b3h A.d6z
 f1s : Binds K A.d6z ["values"] []
 i5n : mg "echo_of" = some (.ref A.b3h)
 c8v : Fun K "back_of" "back_of" c3k A.b3i A.d7g
 f1t : Binds K A.d7g ["values"] []
 i5o : mg "back_of" = some (.ref A.b3i)
 c8w : Fun K "hall_of" "hall_of" c3l A.b3j A.d7h
 f1u : Binds K A.d7h ["values"] []
 i5p : mg "hall_of" = some (.ref A.b3j)
 b3r : Fun K "read_corner" "read_corner" b0g A.a7z A.c2j
 c5o : Binds K A.c2j ["text"] []
 f6v : mg "read_corner" = some (.ref A.a7z)
 c3u : Fun K "swell_of" "swell_of" b4o A.b0k A.d3g
 d7p : Binds K A.d3g ["values"] []
 i1u : mg "swell_of" = some (.ref A.b0k)
 c8y : Fun K "part_of" "part_of" c3m A.b8z A.d7i
 f1v : Binds K A.d7i ["word"] []
 h0m : mg "part_of" = some (.ref A.b8z)
 b0n : Fun K "_law_cell_at" "_law_cell_at" b0h A.a8g A.c2k
 b7o : Binds K A.c2k ["_law_script", "_law_k"] []
 d5s : mg "_law_cell_at" = some (.ref A.a8g)
 b3s : Fun K "_law_divisor" "_law_divisor" b0i A.a8h A.c2l
 c5p : Binds K A.c2l ["_law_one", "_law_other"] []
 f6w : mg "_law_divisor" = some (.ref A.a8h)
 b8k : Fun K "_law_gain" "_law_gain" b8g A.b4w A.d3h
 d1l : Binds K A.d3h ["_law_mixed", "_law_hall"] []
 f4v : mg "_law_gain" = some (.ref A.b4w)
 b9t : Fun K "_law_swell" "_law_swell" b4p A.b1m A.c8o
 d3p : Binds K A.c8o ["_law_mixed", "_law_many", "_law_by"] []
 g2h : mg "_law_swell" = some (.ref A.b1m)
 b2k : Fun K "_law_word" "_law_word" b8h A.b4y A.d3i
 b8l : Binds K A.d3i ["_law_cell", "_law_by"] []
 d1m : mg "_law_word" = some (.ref A.b4y)
 h4u : Fun K "law" "law" f6j A.g2f A.h0i
 i5q : Binds K A.h0i ["_law_script"] []
 m_law : mg "law" = some (.ref A.g2f)
 f1w : mg "abs" = none
 g0c : mg "bool" = none
 b9u : mg "enumerate" = none
 f6y : mg "int" = none
 a7s : mg "isinstance" = none
 b6w : mg "len" = none
 c1s : mg "list" = none
 g6p : mg "max" = none
 h0n : mg "min" = none
 c2m : mg "range" = none
 d7q : mg "str" = none
 c8z : mg "tuple" = none
 g2i : mg "zip" = none
 f6z : mg "Part" = some (.ref A.c0t)
 f1y : mg "Gain" = some (.ref A.a4g)
 d5t : mg "Delay" = some (.ref A.a2g)
 f1z : mg "Echo" = some (.ref A.a2i)
 f2g : mg "Back" = some (.ref A.a3s)
 f2h : mg "Hall" = some (.ref A.a3v)
 d1n : mg "Swell" = some (.ref A.a1p)
 i8t : Cls K A.c0t
 h4v : Meth K A.c0t "grain" A.a2v
 h4w : Meth K A.c0t "fresh" A.a1k
 h4x : Meth K A.c0t "later" A.a1l
 a3t : Cls K A.a4g
 a2w : a7m K A.a4g "gain"
 i5r : Mk K A.a4g A.a8z
 d5u : Meth K A.a4g "grain" A.a5v
 c9g : Meth K A.a4g "through" A.a4n
 c9h : Meth K A.a4g "word" A.a9g
 a3j : Meth K A.a4g "fresh" A.a1k
 f7g : Meth K A.a4g "later" A.a1l
 a2m : Cls K A.a2g
 a3k : a7m K A.a2g "many"
 i0h : Mk K A.a2g A.a7n
 c6y : Meth K A.a2g "through" A.a3y
 c5q : Meth K A.a2g "word" A.a7o
 d1z : Meth K A.a2g "grain" A.a2v
 a2p : Meth K A.a2g "fresh" A.a1k
 f3v : Meth K A.a2g "later" A.a1l
 a2t : Cls K A.a2i
 a2j : a7m K A.a2i "gain"
 a2k : a7m K A.a2i "many"
 a1u : a7m K A.a2i "turns"
 a1q : a7m K A.a2i "factors"
 a0s : a7m K A.a2i "factor_bottom"
 i5s : Mk K A.a2i A.a9h
 d5v : Meth K A.a2i "grain" A.a5w
 c9i : Meth K A.a2i "through" A.a4o
 f7h : Meth K A.a2i "reach" A.a7p
 c9j : Meth K A.a2i "word" A.a9i
 a3l : Meth K A.a2i "fresh" A.a1k
 f7i : Meth K A.a2i "later" A.a1l
 a3u : Cls K A.a3s
 a2y : a7m K A.a3s "gain"
 a2z : a7m K A.a3s "many"
 i5t : Mk K A.a3s A.a9j
 d5w : Meth K A.a3s "grain" A.a5y
 c9k : Meth K A.a3s "through" A.a4p
 c9l : Meth K A.a3s "word" A.a9k
 a3m : Meth K A.a3s "fresh" A.a1k
 f7j : Meth K A.a3s "later" A.a1l
 a4k : Cls K A.a3v
 a4i : a7m K A.a3v "gain"
 a4j : a7m K A.a3v "many"
 i5u : Mk K A.a3v A.a9l
 c9m : Meth K A.a3v "through" A.a4q
 c9n : Meth K A.a3v "word" A.a9m
 d5y : Meth K A.a3v "grain" A.a2v
 a3n : Meth K A.a3v "fresh" A.a1k
 f7k : Meth K A.a3v "later" A.a1l
 a1s : Cls K A.a1p
 a0z : a7m K A.a1p "corners"
 a1g : a7m K A.a1p "shared"
 a1j : a7m K A.a1p "lines"
 h0o : Mk K A.a1p A.a7q
 d2g : Meth K A.a1p "grain" A.a5h
 a2q : Meth K A.a1p "fresh" A.a5z
 d9i : Meth K A.a1p "line_at" A.a4v
 d9j : Meth K A.a1p "gain_at" A.a4w
 c6z : Meth K A.a1p "through" A.a3z
 f3w : Meth K A.a1p "later" A.a6g
 c5r : Meth K A.a1p "word" A.a7r
 c3v : mg "FIGURES" = some A.f9y
 g6q : RelV (.str "0123456789") A.f9y
 a4l : mg "MOST_FIGURES_wholes" = some A.b6j
 c7i : RelV (.int 13) A.b6j
 a4m : mg "MOST_FIGURES_ratios" = some A.b6k
 c7j : RelV (.int 9) A.b6k
 b2l : mg "MOST_GAIN" = some A.f1j
 d8r : RelV (.int 1000) A.f1j
 b2m : mg "MOST_MANY" = some A.f1k
 d8s : RelV (.int 1000) A.f1k
 b3t : mg "MOST_TURNS" = some A.d8o
 f7l : RelV (.int 16) A.d8o
 c3w : mg "MOST_AT" = some A.f9z
 g6r : RelV (.int 100000) A.f9z
 a9s : mg "MOST_CORNERS" = some A.d1y
 f2i : RelV (.int 12) A.d1y
 a7g : mg "READERS" = some (.ref A.a1w)
 g6s : i8p K A.wd A.a1w
 a7h : PySem.W.nsIn K A.a1w "gain" = some (some (.ref A.b3g))
 a5r : PySem.W.nsIn K A.a1w "delay" = some (some (.ref A.b0j))
 a7i : PySem.W.nsIn K A.a1w "echo" = some (some (.ref A.b3h))
 a7j : PySem.W.nsIn K A.a1w "back" = some (some (.ref A.b3i))
 a5s : PySem.W.nsIn K A.a1w "swell" = some (some (.ref A.b0k))
 a7k : PySem.W.nsIn K A.a1w "hall" = some (some (.ref A.b3j))
theorem nq0 : (("__init__" : Str) == ("gain" : Str)) = false := by decide +kernel
theorem nq1 : (("grain" : Str) == ("gain" : Str)) = false := by decide +kernel
theorem nq2 : (("through" : Str) == ("gain" : Str)) = false := by decide +kernel
theorem nq3 : (("word" : Str) == ("gain" : Str)) = false := by decide +kernel
theorem nq4 : (("fresh" : Str) == ("gain" : Str)) = false := by decide +kernel
theorem nq5 : (("reach" : Str) == ("gain" : Str)) = false := by decide +kernel
theorem nq6 : (("later" : Str) == ("gain" : Str)) = false := by decide +kernel
theorem nq7 : (("__init__" : Str) == ("many" : Str)) = false := by decide +kernel
theorem nq8 : (("through" : Str) == ("many" : Str)) = false := by decide +kernel
theorem nq9 : (("reach" : Str) == ("many" : Str)) = false := by decide +kernel
theorem nq10 : (("word" : Str) == ("many" : Str)) = false := by decide +kernel
theorem nq11 : (("grain" : Str) == ("many" : Str)) = false := by decide +kernel
theorem nq12 : (("fresh" : Str) == ("many" : Str)) = false := by decide +kernel
theorem nq13 : (("later" : Str) == ("many" : Str)) = false := by decide +kernel
theorem nq14 : (("gain" : Str) == ("many" : Str)) = false := by decide +kernel
theorem nq15 : (("gain" : Str) == ("turns" : Str)) = false := by decide +kernel
theorem nq16 : (("gain" : Str) == ("factors" : Str)) = false := by decide +kernel
theorem nq17 : (("gain" : Str) == ("factor_bottom" : Str)) = false := by decide +kernel
theorem nq18 : (("many" : Str) == ("gain" : Str)) = false := by decide +kernel
theorem nq19 : (("many" : Str) == ("turns" : Str)) = false := by decide +kernel
theorem nq20 : (("many" : Str) == ("factors" : Str)) = false := by decide +kernel
theorem nq21 : (("many" : Str) == ("factor_bottom" : Str)) = false := by decide +kernel
theorem nq22 : (("turns" : Str) == ("gain" : Str)) = false := by decide +kernel
theorem nq23 : (("turns" : Str) == ("many" : Str)) = false := by decide +kernel
theorem nq24 : (("turns" : Str) == ("factors" : Str)) = false := by decide +kernel
theorem nq25 : (("turns" : Str) == ("factor_bottom" : Str)) = false := by decide +kernel
theorem nq26 : (("factors" : Str) == ("gain" : Str)) = false := by decide +kernel
theorem nq27 : (("factors" : Str) == ("many" : Str)) = false := by decide +kernel
theorem nq28 : (("factors" : Str) == ("turns" : Str)) = false := by decide +kernel
theorem nq29 : (("factors" : Str) == ("factor_bottom" : Str)) = false := by decide +kernel
theorem nq30 : (("factor_bottom" : Str) == ("gain" : Str)) = false := by decide +kernel
theorem nq31 : (("factor_bottom" : Str) == ("many" : Str)) = false := by decide +kernel
theorem nq32 : (("factor_bottom" : Str) == ("turns" : Str)) = false := by decide +kernel
theorem nq33 : (("factor_bottom" : Str) == ("factors" : Str)) = false := by decide +kernel
theorem nq34 : (("__init__" : Str) == ("turns" : Str)) = false := by decide +kernel
theorem nq35 : (("__init__" : Str) == ("factors" : Str)) = false := by decide +kernel
theorem nq36 : (("__init__" : Str) == ("factor_bottom" : Str)) = false := by decide +kernel
theorem nq37 : (("grain" : Str) == ("turns" : Str)) = false := by decide +kernel
theorem nq38 : (("grain" : Str) == ("factors" : Str)) = false := by decide +kernel
theorem nq39 : (("grain" : Str) == ("factor_bottom" : Str)) = false := by decide +kernel
theorem nq40 : (("through" : Str) == ("turns" : Str)) = false := by decide +kernel
theorem nq41 : (("through" : Str) == ("factors" : Str)) = false := by decide +kernel
theorem nq42 : (("through" : Str) == ("factor_bottom" : Str)) = false := by decide +kernel
theorem nq43 : (("reach" : Str) == ("turns" : Str)) = false := by decide +kernel
theorem nq44 : (("reach" : Str) == ("factors" : Str)) = false := by decide +kernel
theorem nq45 : (("reach" : Str) == ("factor_bottom" : Str)) = false := by decide +kernel
theorem nq46 : (("word" : Str) == ("turns" : Str)) = false := by decide +kernel
theorem nq47 : (("word" : Str) == ("factors" : Str)) = false := by decide +kernel
theorem nq48 : (("word" : Str) == ("factor_bottom" : Str)) = false := by decide +kernel
theorem nq49 : (("fresh" : Str) == ("turns" : Str)) = false := by decide +kernel
theorem nq50 : (("fresh" : Str) == ("factors" : Str)) = false := by decide +kernel
theorem nq51 : (("fresh" : Str) == ("factor_bottom" : Str)) = false := by decide +kernel
theorem nq52 : (("later" : Str) == ("turns" : Str)) = false := by decide +kernel
theorem nq53 : (("later" : Str) == ("factors" : Str)) = false := by decide +kernel
theorem nq54 : (("later" : Str) == ("factor_bottom" : Str)) = false := by decide +kernel
theorem nq55 : (("corners" : Str) == ("shared" : Str)) = false := by decide +kernel
theorem nq56 : (("corners" : Str) == ("lines" : Str)) = false := by decide +kernel
theorem nq57 : (("shared" : Str) == ("corners" : Str)) = false := by decide +kernel
theorem nq58 : (("shared" : Str) == ("lines" : Str)) = false := by decide +kernel
theorem nq59 : (("lines" : Str) == ("corners" : Str)) = false := by decide +kernel
theorem nq60 : (("lines" : Str) == ("shared" : Str)) = false := by decide +kernel
theorem nq61 : (("__init__" : Str) == ("corners" : Str)) = false := by decide +kernel
theorem nq62 : (("__init__" : Str) == ("shared" : Str)) = false := by decide +kernel
theorem nq63 : (("__init__" : Str) == ("lines" : Str)) = false := by decide +kernel
theorem nq64 : (("grain" : Str) == ("corners" : Str)) = false := by decide +kernel
theorem nq65 : (("grain" : Str) == ("shared" : Str)) = false := by decide +kernel
theorem nq66 : (("grain" : Str) == ("lines" : Str)) = false := by decide +kernel
theorem nq67 : (("fresh" : Str) == ("corners" : Str)) = false := by decide +kernel
theorem nq68 : (("fresh" : Str) == ("shared" : Str)) = false := by decide +kernel
theorem nq69 : (("fresh" : Str) == ("lines" : Str)) = false := by decide +kernel
theorem nq70 : (("line_at" : Str) == ("corners" : Str)) = false := by decide +kernel
theorem nq71 : (("line_at" : Str) == ("shared" : Str)) = false := by decide +kernel
theorem nq72 : (("line_at" : Str) == ("lines" : Str)) = false := by decide +kernel
theorem nq73 : (("gain_at" : Str) == ("corners" : Str)) = false := by decide +kernel
theorem nq74 : (("gain_at" : Str) == ("shared" : Str)) = false := by decide +kernel
theorem nq75 : (("gain_at" : Str) == ("lines" : Str)) = false := by decide +kernel
theorem nq76 : (("through" : Str) == ("corners" : Str)) = false := by decide +kernel
theorem nq77 : (("through" : Str) == ("shared" : Str)) = false := by decide +kernel
theorem nq78 : (("through" : Str) == ("lines" : Str)) = false := by decide +kernel
theorem nq79 : (("later" : Str) == ("corners" : Str)) = false := by decide +kernel
theorem nq80 : (("later" : Str) == ("shared" : Str)) = false := by decide +kernel
theorem nq81 : (("later" : Str) == ("lines" : Str)) = false := by decide +kernel
theorem nq82 : (("word" : Str) == ("corners" : Str)) = false := by decide +kernel
theorem nq83 : (("word" : Str) == ("shared" : Str)) = false := by decide +kernel
theorem nq84 : (("word" : Str) == ("lines" : Str)) = false := by decide +kernel
theorem nq85 : (("reach" : Str) == ("corners" : Str)) = false := by decide +kernel
theorem nq86 : (("reach" : Str) == ("shared" : Str)) = false := by decide +kernel
theorem nq87 : (("reach" : Str) == ("lines" : Str)) = false := by decide +kernel
seal PE PT PA PS PSs PI PO PW PG PGs PEX PSX
local macro_rules | `(tactic| walk_at "bits") => `(tactic| first | with_reducible assumption | exact intBits_le_64 (by omega) (by omega) | exact (intBits_le_iff (m := 250)).mpr (by decide) | ((with_reducible apply intBits_mul_le) <;> walk_at "bits") | ((with_reducible apply intBits_add_le) <;> walk_at "bits") | ((with_reducible apply intBits_sub_le) <;> walk_at "bits") | ((with_reducible apply intBits_neg_le) <;> walk_at "bits") | ((with_reducible apply intBits_natAbs_le) <;> walk_at "bits") | ((with_reducible apply intBits_fdiv_le) <;> walk_at "bits") | ((with_reducible apply intBits_fmod_le) <;> walk_at "bits"))
local macro_rules | `(tactic| walk_at "mul") => `(tactic| first | exact IntMulOk.of_right (intBits_le_64 (by omega) (by omega)) | exact IntMulOk.of_left (intBits_le_64 (by omega) (by omega)) | ((with_reducible apply IntMulOk.of_le) <;> first | walk_at "bits" | decide))
local macro_rules | `(tactic| walk_at "le") => `(tactic| ((with_reducible apply Nat.le_trans) <;> first | walk_at "bits" | decide))
variable {P : Program} {w : World} {K : PySem.W.Frag} {mg : Str -> Option Value} {base : Heap} {A : Ad}
noncomputable def i0i : Sp := fun vs H Q _ => match vs with | [.int a, .int b] => Q (.int (Int.gcd a b)) H | _ => False
noncomputable def i5v : Sp := fun vs H Q _ => match vs with | [.int a, .int b] => intBits a <= 4000 /\ intBits b <= 4000 /\ Q (.int (Int.lcm a b)) H | _ => False
noncomputable def i5w : Sp := fun vs H Q _ => match vs with | [.int _] => Q (.bl true) H | _ => False
noncomputable def h7e : Sp := fun vs H Q _ => match vs with
 | [.int t, .int b] => b ≠ 0 /\ intBits t <= 4000 /\ intBits b <= 4000 /\ All (d4z H (c7l (Rat.divInt t b))) Q ⟨⟩ ⟨⟩
 | _ => False
noncomputable def i5x : Sp := fun vs H Q _ => match vs with | [.str x] => Q (.bl (g9p (sg x))) H | _ => False
noncomputable def h0p : Sp := fun vs H Q _ => match vs with | [.ref p] => ∃ t b : Int, H p = some (.tup [.int t, .int b]) /\ t.natAbs.log2 < 1920 /\ b.natAbs.log2 < 1920 /\ (∀ y : Str, sg y = h4j t b -> Q (.str y) H) | _ => False
noncomputable def h7f : Sp := fun vs H Q _ => match vs with | [.str x] => ∃ t b, Good (sg x) t b /\ All (d4z H [.int t, .int b]) Q ⟨⟩ ⟨⟩ | _ => False
noncomputable def i5y : Sp := fun vs H Q _ => match vs with
 | [.str x] => ∃ n : Nat, sg x = txt (n : Int) /\ n < 10 ^ 9 /\ Q (.int n) H
 | _ => False
noncomputable def Two (H : Hp) (p q : Addr) (x y : Rat) : Prop := H p = some (.tup (c7l x)) /\ H q = some (.tup (c7l y)) /\ intBits x.num <= 900 /\ intBits (x.den : Int) <= 900 /\ intBits y.num <= 900 /\ intBits (y.den : Int) <= 900
noncomputable def h7g : Sp := fun vs H Q _ => match vs with
 | [.ref p, .ref q] => ∃ x y : Rat, Two H p q x y /\ All (d4z H (c7l (x + y))) Q ⟨⟩ ⟨⟩
 | _ => False
noncomputable def h7h : Sp := fun vs H Q _ => match vs with
 | [.ref p, .ref q] => ∃ x y : Rat, Two H p q x y /\ All (d4z H (c7l (x * y))) Q ⟨⟩ ⟨⟩
 | _ => False
noncomputable def h7i : Sp := fun vs H Q _ => match vs with
 | [.ref p] => ∃ x : Rat, H p = some (.tup (c7l x)) /\ All (d4z H (c7l (Rat.abs x))) Q ⟨⟩ ⟨⟩
 | _ => False
noncomputable def h0q : Sp := fun vs H Q _ => match vs with
 | [.ref p, .ref q] => ∃ x y : Rat, Two H p q x y /\ Q (.bl (decide (x.num * (y.den : Int) < y.num * (x.den : Int)))) H
 | _ => False
noncomputable def Rts (H : Hp) (qs : List Addr) (ss : List Rat) : Prop := qs.length = ss.length /\ ∀ (i : Nat) q s, qs[i]? = some q -> ss[i]? = some s -> H q = some (.tup (c7l s))
noncomputable def g4d (l : Addr) (H : Hp) (qs : List Addr) (ss : List Rat) : Prop := qs.length = ss.length /\ ∀ (i : Nat) q s, qs[i]? = some q -> ss[i]? = some s -> q ≠ l /\ H q = some (.tup (c7l s))
noncomputable def Crn (H : Hp) (ps : List Addr) (cs : List (Int × Rat)) : Prop := ps.length = cs.length /\ ∀ (i : Nat) p c, ps[i]? = some p -> cs[i]? = some c -> ∃ g, H p = some (.tup [.int c.1, .ref g]) /\ H g = some (.tup (c7l c.2))
noncomputable def h0r (cs : List (Int × Rat)) : Prop := (∀ c ∈ cs, 0 <= c.1 /\ c.1 <= 200000 /\ intBits c.2.num <= 10 /\ intBits (c.2.den : Int) <= 10) /\ ∀ (i : Nat) c d, cs[i]? = some c -> cs[i + 1]? = some d -> c.1 < d.1
noncomputable def h0s (bs : List Int) : Int := bs.foldl (fun o b => (Int.lcm o b : Int)) 1
noncomputable def g4e : Sp := fun vs H Q _ => match vs with
 | [.ref p] => ∃ bs : List Int, H p = some (.lst (bs.map V.int)) /\ (∀ b ∈ bs, 1 <= b /\ intBits b <= 64) /\ bs.length <= 24 /\ Q (.int (h0s bs)) H
 | _ => False
noncomputable def h0t : Sp := fun vs H Q _ => match vs with
 | [.ref p, .int S] => ∃ y : Rat, H p = some (.tup (c7l y)) /\ intBits y.num <= 2000 /\ intBits (y.den : Int) <= 2000 /\ intBits S <= 2000 /\ Q (.int (y.num * S.fdiv y.den)) H
 | _ => False
noncomputable def SlR (cs : List (Int × Rat)) (i : Nat) (s : Rat) : Prop := ∀ c d, cs[i]? = some c -> cs[i + 1]? = some d -> s * ((d.1 - c.1 : Int) : Rat) = d.2 - c.2
noncomputable def g4f : Sp := fun vs H Q _ => match vs with
 | [.ref ct] => ∃ (ps : List Addr) (cs : List (Int × Rat)), H ct = some (.tup (ps.map V.ref)) /\ Crn H ps cs /\ h0r cs /\ 1 <= cs.length /\ cs.length <= 12 /\
   (∀ l H' qs ss, H l = none -> Same H H' -> H' l = some (.lst (List.map V.ref qs)) -> Rts H' qs ss -> ss.length = cs.length -> (∀ s ∈ ss, intBits s.num <= 60 /\ intBits (s.den : Int) <= 60) -> (∀ j s, ss[j]? = some s -> SlR cs j s) -> ss[cs.length - 1]? = some 0 -> Q (.ref l) H')
 | _ => False
noncomputable def h3d (ns ms : List Int) : List Int := (List.range (max ns.length ms.length)).map fun k => ns.getD k 0 + ms.getD k 0
noncomputable def i8u (ns ms : List Int) : List Int := ((List.range (min ns.length ms.length)).map fun k => ns.getD k 0 + ms.getD k 0) ++ ns.drop (min ns.length ms.length) ++ ms.drop (min ns.length ms.length)
noncomputable def i5z : Sp := fun vs H Q _ => match vs with
 | [.ref p, .ref q] => ∃ ns ms : List Int, H p = some (.lst (ns.map V.int)) /\ H q = some (.lst (ms.map V.int)) /\ ns.length <= 1000000 /\ ms.length <= 1000000 /\ All (g3r H ((h3d ns ms).map V.int)) Q ⟨⟩ ⟨⟩
 | _ => False
noncomputable def h0u : Sp := fun vs H Q _ => match vs with
 | [.ref p, .int b] => ∃ ns : List Int, H p = some (.lst (ns.map V.int)) /\ (∀ n ∈ ns, IntMulOk n b) /\ ns.length <= 1000000 /\ All (g3r H ((ns.map (· * b)).map V.int)) Q ⟨⟩ ⟨⟩
 | _ => False
noncomputable def g0d (ns : List Int) (st n : Nat) : List Int := (List.range (ns.length - st)).map fun i => if n <= st + i then ns.getD (st + i - n) 0 else 0
noncomputable def g0e : Sp := fun vs H Q _ => match vs with
 | [.ref k, .int st, .int n] => ∃ (ns : List Int) (s m : Nat), H k = some (.lst (ns.map V.int)) /\ st = s /\ n = m /\ s <= ns.length /\ ns.length <= 1000000 /\ All (g3r H ((g0d ns s m).map V.int)) Q ⟨⟩ ⟨⟩
 | _ => False
noncomputable def h7j : Sp := fun vs H Q _ => match vs with
 | [.ref k, .int n] => ∃ (ns : List Int) (m : Nat), H k = some (.lst (ns.map V.int)) /\ n = m /\ ns.length <= 1000000 /\ All (d4z H ((ns.drop (ns.length - m)).map V.int)) Q ⟨⟩ ⟨⟩
 | _ => False
noncomputable def h0v (n : Int) (m : Nat) : List Int := (List.range (m + 1)).map fun j => n ^ j
noncomputable def i6a : Sp := fun vs H Q _ => match vs with
 | [.int n, .int t] => ∃ m : Nat, t = m /\ m <= 16 /\ intBits n <= 10 /\ All (g3r H ((h0v n m).map V.int)) Q ⟨⟩ ⟨⟩
 | _ => False
noncomputable def h7k (p q : Int) (t j : Nat) : Int := p ^ j * q ^ (t - j)
noncomputable def h3e (p q : Int) (t : Nat) : List Int := (List.range (t + 1)).map (h7k p q t)
noncomputable def ecF (gt fa : Addr) (n t : Nat) (q : Int) : List (Str × V) := [("gain", .ref gt), ("many", .int n), ("turns", .int t), ("factors", .ref fa), ("factor_bottom", .int (q ^ t))]
noncomputable def IsE (C : Addr) (H : Hp) (o : Addr) (p q : Int) (n t : Nat) : Prop := ∃ dx gt fa, H o = some (.ins C dx (ecF gt fa n t q)) /\ H gt = some (.tup [.int p, .int q]) /\ H fa = some (.tup ((h3e p q t).map V.int))
noncomputable def h0w (C : Addr) : Sp := fun vs H Q _ => match vs with
 | [.ref o, .ref gt, .int n, .int t] => ∃ (dx : Addr) (m tt : Nat) (p q : Int), n = m /\ t = tt /\ tt <= 16 /\ intBits p <= 10 /\ intBits q <= 10 /\ H gt = some (.tup [.int p, .int q]) /\ H o = some (.ins C dx []) /\
   (∀ (fa : Addr) (H1 : Hp), a9t o H H1 -> H fa = none -> H1 o = some (.ins C dx (ecF gt fa m tt q)) -> H1 fa = some (.tup ((h3e p q tt).map V.int)) -> Q .non H1)
 | _ => False
noncomputable def g4g (C : Addr) : Sp := fun vs H Q _ => match vs with
 | [.ref o] => ∃ p q n t, IsE C H o p q n t /\ Q (.int (q ^ t)) H
 | _ => False
noncomputable def g4h (C : Addr) : Sp := fun vs H Q _ => match vs with
 | [.ref o] => ∃ p q n t, IsE C H o p q n t /\ n <= 1000000 /\ Q (.int (((n * t : Nat)) : Int)) H
 | _ => False
noncomputable def h3f (kn : List Int) (st n : Nat) (p q : Int) (t : Nat) : Nat -> List Int
 | 0 => []
 | j + 1 => h3d (h3f kn st n p q t j) ((g0d kn st (j * n)).map (· * h7k p q t j))
noncomputable def h7l (C : Addr) : Sp := fun vs H Q _ => match vs with
 | [.ref o, .ref st, .ref x, .int _] => ∃ (p q : Int) (n t : Nat) (zs xs : List Int), IsE C H o p q n t /\ H st = some (.tup (zs.map V.int)) /\ H x = some (.lst (xs.map V.int)) /\ zs.length <= 100000 /\ xs.length <= 100000 /\ n <= 1000000 /\ t <= 16 /\ intBits p <= 10 /\ intBits q <= 10 /\ (∀ y ∈ zs ++ xs, intBits y <= 1000000) /\
   (∀ (r ou s2 : Addr) (H1 : Hp), Same H H1 -> H r = none -> H ou = none -> H1 r = some (.tup [.ref ou, .ref s2]) -> H1 ou = some (.lst ((h3f (zs ++ xs) zs.length n p q t (t + 1)).map V.int)) -> H1 s2 = some (.tup (((zs ++ xs).drop ((zs ++ xs).length - n * t)).map V.int)) -> Q (.ref r) H1)
 | _ => False
noncomputable def g4i (X : Nat -> Int) (p q : Int) (t : Nat) : Nat -> Int
 | 0 => 0
 | j + 1 => g4i X p q t j + X j * h7k p q t j
noncomputable def horn (X : Nat -> Int) (p q : Int) (t : Nat) : Nat -> Int
 | 0 => 0
 | j + 1 => (horn X p q t j + X (t - j) * q ^ j) * p
noncomputable def Tps (H : Hp) (qs : List Addr) (vs : List (List V)) : Prop := qs.length = vs.length /\ ∀ (i : Nat) q v, qs[i]? = some q -> vs[i]? = some v -> H q = some (.tup v)
noncomputable def g4j (l : Addr) (H : Hp) (qs : List Addr) (vs : List (List V)) : Prop := qs.length = vs.length /\ ∀ (i : Nat) q v, qs[i]? = some q -> vs[i]? = some v -> q ≠ l /\ H q = some (.tup v)
noncomputable def lnOf (S : Int) (c : Int × Rat) (s : Rat) : Int × Int × Int := (c.1, c.2.num * S.fdiv c.2.den, s.num * S.fdiv s.den)
noncomputable def lnV (l : Int × Int × Int) : List V := [.int l.1, .int l.2.1, .int l.2.2]
noncomputable def SwOk (cs : List (Int × Rat)) (ss : List Rat) (S : Int) : Prop := ss.length = cs.length /\ (∀ j s, ss[j]? = some s -> SlR cs j s) /\ ss[cs.length - 1]? = some 0 /\ 1 <= S /\ intBits S <= 1600 /\ (∀ c ∈ cs, (c.2.den : Int) ∣ S) /\ (∀ s ∈ ss, (s.den : Int) ∣ S) /\ (∀ s ∈ ss, intBits s.num <= 60)
noncomputable def swF (ct ln : Addr) (S : Int) : List (Str × V) := [("corners", .ref ct), ("shared", .int S), ("lines", .ref ln)]
noncomputable def g4k (C : Addr) : Sp := fun vs H Q _ => match vs with
 | [.ref o, .ref l] => ∃ (dx : Addr) (ps : List Addr) (cs : List (Int × Rat)), H o = some (.ins C dx []) /\ H l = some (.lst (ps.map V.ref)) /\ Crn H ps cs /\ h0r cs /\ 1 <= cs.length /\ cs.length <= 12 /\
   (∀ ct ln S ss us H1, a9t o H H1 -> H ct = none -> H1 o = some (.ins C dx (swF ct ln S)) -> H1 ct = some (.tup (ps.map V.ref)) -> H1 ln = some (.tup (us.map V.ref)) -> Tps H1 us ((List.zipWith (lnOf S) cs ss).map lnV) -> SwOk cs ss S -> Q .non H1)
 | _ => False
noncomputable def h0x (C : Addr) : Sp := fun vs H Q _ => match vs with
 | [.ref o, .ref gt] => ∃ dx, H o = some (.ins C dx []) ∧ (∀ H1, a9t o H H1 → H1 o = some (.ins C dx [("gain", .ref gt)]) → Q .non H1)
 | _ => False
noncomputable def g4l (C : Addr) : Sp := fun vs H Q _ => match vs with
 | [.ref o, .int n] => ∃ dx, H o = some (.ins C dx []) ∧ (∀ H1, a9t o H H1 → H1 o = some (.ins C dx [("many", .int n)]) → Q .non H1)
 | _ => False
noncomputable def h0y (C : Addr) : Sp := fun vs H Q _ => match vs with
 | [.ref o, .ref gt, .int n] => ∃ dx, H o = some (.ins C dx []) ∧ (∀ H1, a9t o H H1 → H1 o = some (.ins C dx [("gain", .ref gt), ("many", .int n)]) → Q .non H1)
 | _ => False
noncomputable def h0z (C : Addr) : Sp := fun vs H Q _ => match vs with
 | [.ref o, .ref gt, .int n] => ∃ dx, H o = some (.ins C dx []) ∧ (∀ H1, a9t o H H1 → H1 o = some (.ins C dx [("gain", .ref gt), ("many", .int n)]) → Q .non H1)
 | _ => False
noncomputable def clsOf (A : Ad) : Dt -> Addr
 | .gain _ => A.a4g
 | .delay _ => A.a2g
 | .echo .. => A.a2i
 | .back .. => A.a3s
 | .hall .. => A.a3v
 | .swell _ => A.a1p
noncomputable def gnF (g : Addr) : List (Str × V) := [("gain", .ref g)]
noncomputable def dlF (n : Nat) : List (Str × V) := [("many", .int n)]
noncomputable def bkF (g : Addr) (n : Nat) : List (Str × V) := [("gain", .ref g), ("many", .int n)]
noncomputable def h3g (H : Hp) (fs : List (Str × V)) : Dt -> Prop
 | .gain y => ∃ g, fs = gnF g /\ H g = some (.tup (c7l y))
 | .delay n => fs = dlF n
 | .echo y n t => ∃ g fa, fs = ecF g fa n t (y.den : Int) /\ H g = some (.tup (c7l y)) /\ H fa = some (.tup ((h3e y.num (y.den : Int) t).map V.int))
 | .back y n => ∃ g, fs = bkF g n /\ H g = some (.tup (c7l y))
 | .hall y n => ∃ g, fs = bkF g n /\ H g = some (.tup (c7l y))
 | .swell cs => ∃ ct ln S ss us ps, fs = swF ct ln S /\ H ct = some (.tup (List.map V.ref ps)) /\ H ln = some (.tup (List.map V.ref us)) /\ Tps H us ((List.zipWith (lnOf S) cs ss).map lnV) /\ SwOk cs ss S /\ Crn H ps cs
noncomputable def IsP (A : Ad) (H : Hp) (o : Addr) (d : Dt) : Prop := ∃ dx fs, H o = some (.ins (clsOf A d) dx fs) /\ h3g H fs d
noncomputable def i0j (C : Addr) (H : Hp) (o : Addr) (ps : List Addr) (cs : List (Int × Rat)) (ss : List Rat) (S : Int) : Prop := ∃ dx ct ln us, H o = some (.ins C dx (swF ct ln S)) /\ H ct = some (.tup (ps.map V.ref)) /\ H ln = some (.tup (us.map V.ref)) /\ Tps H us ((List.zipWith (lnOf S) cs ss).map lnV) /\ Crn H ps cs
noncomputable def h7m (C : Addr) : Sp := fun vs H Q _ => match vs with
 | [.ref o, .int t] => ∃ ps cs ss S, i0j C H o ps cs ss S /\ SwOk cs ss S /\ 1 <= cs.length /\ cs.length <= 12 /\
   (∀ (m : Nat) u c s, cs[m]? = some c -> ss[m]? = some s -> H u = some (.tup (lnV (lnOf S c s))) -> (m = 0 \/ c.1 <= t) -> (∀ d, cs[m + 1]? = some d -> t < d.1) -> Q (.ref u) H)
 | _ => False
noncomputable def c7k (S t : Int) (c : Int × Rat) (s : Rat) : Int := c.2.num * S.fdiv c.2.den + s.num * S.fdiv s.den * max 0 (t - c.1)
noncomputable def h7n (cs : List (Int × Rat)) (ss : List Rat) (t : Int) (m : Nat) (c : Int × Rat) (s : Rat) : Prop := cs[m]? = some c /\ ss[m]? = some s /\ (m = 0 \/ c.1 <= t) /\ (∀ d, cs[m + 1]? = some d -> t < d.1)
noncomputable def g4m (C : Addr) : Sp := fun vs H Q _ => match vs with
 | [.ref o, .int t] => ∃ ps cs ss S, i0j C H o ps cs ss S /\ SwOk cs ss S /\ h0r cs /\ 1 <= cs.length /\ cs.length <= 12 /\ 0 <= t /\ t <= 100000 /\ (∀ m c s, h7n cs ss t m c s -> intBits (c7k S t c s) <= 2000 -> Q (.int (c7k S t c s)) H)
 | _ => False
noncomputable def g0f (C : Addr) : Sp := fun vs H Q _ => match vs with
 | [.ref o] => ∃ ps cs ss S, i0j C H o ps cs ss S /\ Q (.int S) H
 | _ => False
noncomputable def f2j : Sp := fun vs H Q _ => match vs with
 | [.ref _] => Q (.int 0) H
 | _ => False
noncomputable def d3q : Sp := fun vs H Q _ => match vs with
 | [.ref o] => All (d4z H []) Q ⟨⟩ ⟨⟩
 | _ => False
noncomputable def IsG (C : Addr) (H : Hp) (o : Addr) (p q : Int) : Prop := ∃ dx gt, H o = some (.ins C dx [("gain", .ref gt)]) ∧ H gt = some (.tup [.int p, .int q])
noncomputable def g4n (C : Addr) : Sp := fun vs H Q _ => match vs with
 | [.ref o] => ∃ p q, IsG C H o p q /\ Q (.int q) H
 | _ => False
noncomputable def h7o (C : Addr) : Sp := fun vs H Q _ => match vs with
 | [.ref o, .ref st, .ref x, .int _] => ∃ (p q : Int) (xs : List Int), IsG C H o p q /\ H x = some (.lst (xs.map V.int)) /\ xs.length <= 100000 /\ (∀ y ∈ xs, IntMulOk y p) /\
   (∀ (r ou s2 : Addr) (H1 : Hp), Same H H1 -> H r = none -> H ou = none -> H1 r = some (.tup [.ref ou, .ref s2]) -> H1 ou = some (.lst ((xs.map (· * p)).map V.int)) -> Q (.ref r) H1)
 | _ => False
noncomputable def IsD (C : Addr) (H : Hp) (o : Addr) (n : Nat) : Prop := ∃ dx, H o = some (.ins C dx [("many", .int n)])
noncomputable def d9v : Sp := fun vs H Q _ => match vs with
 | [.ref o] => Q (.int 1) H
 | _ => False
noncomputable def h7p (C : Addr) : Sp := fun vs H Q _ => match vs with
 | [.ref o, .ref st, .ref x, .int _] => ∃ (n : Nat) (zs xs : List Int), IsD C H o n /\ H st = some (.tup (zs.map V.int)) /\ H x = some (.lst (xs.map V.int)) /\ zs.length <= 100000 /\ xs.length <= 100000 /\
   (∀ (r ou s2 : Addr) (H1 : Hp), Same H H1 -> H r = none -> H ou = none -> H1 r = some (.tup [.ref ou, .ref s2]) -> H1 ou = some (.lst ((g0d (zs ++ xs) zs.length n).map V.int)) -> H1 s2 = some (.tup (((zs ++ xs).drop ((zs ++ xs).length - n)).map V.int)) -> Q (.ref r) H1)
 | _ => False
noncomputable def g4o (C : Addr) : Sp := fun vs H Q _ => match vs with
 | [.ref o] => ∃ dx gt n p q, H o = some (.ins C dx (bkF gt n)) /\ H gt = some (.tup [.int p, .int q]) /\ Q (.int q) H
 | _ => False
noncomputable def h7q (C : Addr) : Sp := fun vs H Q _ => match vs with
 | [.ref o, .ref st, .ref x, .int _] => ∃ dx gt n p q zs xs, H o = some (.ins C dx (bkF gt n)) /\ H gt = some (.tup [.int p, .int q]) /\ H st = some (.tup (zs.map V.int)) /\ H x = some (.lst (xs.map V.int)) /\ zs.length <= 100000 /\ xs.length <= 100000 /\ (∀ y ∈ zs, IntMulOk y (-p)) /\ (∀ y ∈ xs, IntMulOk y (-p)) /\ (∀ y ∈ xs, IntMulOk y q) /\ IntMulOk 0 (-p) /\
   (∀ (r ou s2 : Addr) (H1 : Hp), Same H H1 -> H r = none -> H ou = none -> H s2 = none -> H1 r = some (.tup [.ref ou, .ref s2]) -> H1 ou = some (.lst ((h3d (xs.map (· * q)) ((g0d (zs ++ xs) zs.length n).map (· * (-p)))).map V.int)) -> H1 s2 = some (.tup (((zs ++ xs).drop ((zs ++ xs).length - n)).map V.int)) -> Q (.ref r) H1)
 | _ => False
noncomputable def twn (t b : Int) : Int := if 0 <= t then t.fdiv b else -((-t).fdiv b)
noncomputable def i6b : Sp := fun vs H Q _ => match vs with
 | [.int t, .int b] => 1 <= b /\ intBits b <= 8000 /\ Q (.int (twn t b)) H
 | _ => False
noncomputable def hadd (p q bt h : Int) : Int := twn (p * h) (q * bt)
noncomputable def heard (kn : List Int) (n : Nat) : Int := if n <= kn.length then kn.getD (kn.length - n) 0 else 0
noncomputable def hallL (p q bt : Int) (n : Nat) : List Int -> List Int -> List Int
 | kn, [] => kn
 | kn, x :: xs => hallL p q bt n (kn ++ [x + hadd p q bt (heard kn n) * bt]) xs
noncomputable def h7r (C : Addr) : Sp := fun vs H Q _ => match vs with
 | [.ref o, .ref st, .ref x, .int bt] => ∃ (dx gt : Addr) (n : Nat) (p q : Int) (zs xs : List Int), H o = some (.ins C dx (bkF gt n)) /\ H gt = some (.tup [.int p, .int q]) /\ H st = some (.tup (zs.map V.int)) /\ H x = some (.lst (xs.map V.int)) /\ zs.length <= 100000 /\ xs.length <= 100000 /\ 1 <= n /\ 1 <= q /\ 1 <= bt /\ intBits p <= 64 /\ intBits q <= 64 /\ intBits bt <= 64 /\
   (∀ (r ou s2 : Addr) (H1 : Hp), Same H H1 -> H r = none -> H ou = none -> H1 r = some (.tup [.ref ou, .ref s2]) -> H1 ou = some (.lst (((hallL p q bt n zs xs).drop zs.length).map V.int)) -> H1 s2 = some (.tup (((hallL p q bt n zs xs).drop ((hallL p q bt n zs xs).length - n)).map V.int)) -> Q (.ref r) H1)
 | _ => False
noncomputable def d9w (S t : Int) : List (Int × Rat) -> List Rat -> Int
 | c :: cs, s :: ss => (match cs with
  | [] => c7k S t c s
  | d :: _ => if t < d.1 then c7k S t c s else d9w S t cs ss)
 | _, _ => 0
noncomputable def b7p (b S : Int) (ss : List Rat) (xs : List Int) (i : Nat) : Dt -> Int
 | .gain y => xs.getD i 0 * y.num
 | .delay n => if n <= i then xs.getD (i - n) 0 else 0
 | .echo y n t => g4i (fun m => if m * n <= i then xs.getD (i - m * n) 0 else 0) y.num (y.den : Int) t (t + 1)
 | .back y n => xs.getD i 0 * (y.den : Int) + (if n <= i then xs.getD (i - n) 0 else 0) * (-y.num)
 | .hall y n => (hallL y.num (y.den : Int) b n [] xs).getD i 0
 | .swell cs => d9w S (i : Int) cs ss * xs.getD i 0
noncomputable def outs (d : Dt) (b S : Int) (ss : List Rat) (xs ys : List Int) : List Int := (List.range ys.length).map fun i => b7p b S ss (xs ++ ys) (xs.length + i) d
noncomputable def b9v (S : Int) : Dt -> Int
 | .gain y => y.den
 | .delay _ => 1
 | .echo y _ t => (y.den : Int) ^ t
 | .back y _ => y.den
 | .hall _ _ => 1
 | .swell _ => S
noncomputable def StV (H : Hp) (b : Int) (xs : List Int) (st : V) : Dt -> Prop
 | .gain _ => ∃ p, st = V.ref p
 | .delay n => ∃ p, st = V.ref p /\ H p = some (.tup ((xs.drop (xs.length - n)).map V.int))
 | .echo _ n t => ∃ p, st = V.ref p /\ H p = some (.tup ((xs.drop (xs.length - n * t)).map V.int))
 | .back _ n => ∃ p, st = V.ref p /\ H p = some (.tup ((xs.drop (xs.length - n)).map V.int))
 | .hall y n => ∃ p, st = V.ref p /\ H p = some (.tup (((hallL y.num (y.den : Int) b n [] xs).drop (xs.length - n)).map V.int))
 | .swell _ => st = V.int (xs.length : Int)
noncomputable def FsS (H : Hp) (fs : List (Str × V)) (S : Int) (ss : List Rat) : Dt -> Prop
 | .swell cs => ∃ ct ln us ps, fs = swF ct ln S /\ H ct = some (.tup (List.map V.ref ps)) /\ H ln = some (.tup (List.map V.ref us)) /\ Tps H us ((List.zipWith (lnOf S) cs ss).map lnV) /\ SwOk cs ss S /\ Crn H ps cs
 | d => h3g H fs d
noncomputable def g2j (A : Ad) (H : Hp) (o : Addr) (d : Dt) (S : Int) (ss : List Rat) : Prop := ∃ dx fs, H o = some (.ins (clsOf A d) dx fs) /\ FsS H fs S ss d
noncomputable def d5z (A : Ad) (k : Nat) : Sp := fun vs H Q _ => match vs with
 | [.ref o, st, .ref l, .int b] => ∃ (d : Dt) (S : Int) (ss : List Rat) (xs ys : List Int), d.kd = k /\ g2j A H o d S ss /\ d.ok /\ StV H b xs st d /\ H l = some (.lst (ys.map V.int)) /\ xs.length <= 40000 /\ ys.length <= 40000 /\ 1 <= b /\ intBits b <= 64 /\ (∀ y ∈ xs ++ ys, intBits y <= 100000) /\
   (∀ r ou st' H1, Same H H1 -> H r = none -> H ou = none -> H1 r = some (.tup [.ref ou, st']) -> H1 ou = some (.lst ((outs d b S ss xs ys).map V.int)) -> StV H1 b (xs ++ ys) st' d -> Q (.ref r) H1)
 | _ => False
noncomputable def h7s (C : Addr) : Sp := fun vs H Q _ => match vs with
 | [.ref o, .int n0, .ref x, .int _] => ∃ ps cs ss S, ∃ (m0 : Nat) (xs : List Int), n0 = m0 /\ i0j C H o ps cs ss S /\ SwOk cs ss S /\ h0r cs /\ 1 <= cs.length /\ cs.length <= 12 /\ H x = some (.lst (xs.map V.int)) /\ m0 <= 40000 /\ xs.length <= 40000 /\ (∀ y ∈ xs, intBits y <= 100000) /\
   (∀ (r ou : Addr) (H1 : Hp), Same H H1 -> H r = none -> H ou = none -> H1 r = some (.tup [.ref ou, .int ((m0 + xs.length : Nat) : Int)]) -> H1 ou = some (.lst (((List.range xs.length).map fun i => d9w S ((m0 + i : Nat) : Int) cs ss * xs.getD i 0).map V.int)) -> Q (.ref r) H1)
 | _ => False
noncomputable def f7m (A : Ad) (k : Nat) : Sp := fun vs H Q _ => match vs with
 | [.ref o] => ∃ (d : Dt) (S : Int) (ss : List Rat), d.kd = k /\ g2j A H o d S ss /\ Q (.int (b9v S d)) H
 | _ => False
noncomputable def j1n : Sp := fun vs H Q _ => match vs with
 | [.str x] => ∃ y : Rat, x = fW y /\ YOk y /\ All (d4z H (c7l y)) Q ⟨⟩ ⟨⟩
 | _ => False
noncomputable def j1o : Sp := fun vs H Q _ => match vs with
 | [.str x, .int a, .int b] => ∃ n : Nat, sg x = txt (n : Int) /\ n < 10 ^ 9 /\ a <= n /\ (n : Int) <= b /\ Q (.int n) H
 | _ => False
noncomputable def j1p : Sp := fun vs H Q _ => match vs with
 | [.str x] => ∃ n : Nat, x = nW n /\ 1 <= n /\ n <= 1000 /\ Q (.int n) H
 | _ => False
noncomputable def j1q : Sp := fun vs H Q _ => match vs with
 | [.ref l, .int c] => ∃ xs, H l = some (.lst xs) /\ (xs.length : Int) = c /\ Q .non H
 | _ => False
noncomputable def i0k (A : Ad) (k : Nat) : Sp := fun vs H Q _ => match vs with
 | [.ref l] => ∃ d : Dt, d.kd = k /\ d.ok /\ H l = some (.lst (d.vals.map V.str)) /\ (∀ o H1, H o = none -> Same H H1 -> IsP A H1 o d -> Q (.ref o) H1)
 | _ => False
noncomputable def j1r : Sp := fun vs H Q _ => match vs with
 | [.str x] => ∃ c : Int × Rat, x = cW c /\ 0 <= c.1 /\ c.1 <= 100000 /\ YOk c.2 /\ (∀ p g H1, H p = none -> Same H H1 -> H1 p = some (.tup [.int c.1, .ref g]) -> H1 g = some (.tup (c7l c.2)) -> Q (.ref p) H1)
 | _ => False
noncomputable def h7t (A : Ad) : Sp := fun vs H Q _ => match vs with
 | [.str x] => ∃ d : Dt, d.ok /\ x = d.word /\ (∀ o H1, H o = none -> Same H H1 -> IsP A H1 o d -> Q (.ref o) H1)
 | _ => False
noncomputable def j1s : Sp := fun vs H Q _ => match vs with
 | [.ref p] => ∃ x : Rat, H p = some (.tup (c7l x)) /\ intBits x.num <= 10 /\ intBits (x.den : Int) <= 10 /\ Q (.str (fW x)) H
 | _ => False
noncomputable def j1t : Sp := fun vs H Q _ => match vs with
 | [.ref p] => ∃ (c : Int × Rat) (g : Addr), H p = some (.tup [.int c.1, .ref g]) /\ H g = some (.tup (c7l c.2)) /\ c.1.natAbs < 2 ^ 20 /\ intBits c.2.num <= 10 /\ intBits (c.2.den : Int) <= 10 /\ Q (.str (cW c)) H
 | _ => False
noncomputable def g6t (A : Ad) (k : Nat) : Sp := fun vs H Q _ => match vs with
 | [.ref o] => ∃ d : Dt, d.kd = k /\ IsP A H o d /\ d.ok /\ (∀ H1, Same H H1 -> Q (.str d.word) H1)
 | _ => False
noncomputable def a8m (n : Nat) : Dt -> Dt
 | .swell cs => .swell (cs.map fun c => (c.1 + (n : Int), c.2))
 | d => d
noncomputable def h7u (K : PySem.W.Frag) : Sp := fun vs H Q _ => match vs with | [.ref a, .int k] => ∃ ns : List Int, SqL K H a (ns.map V.int) /\ 0 <= k /\ Q (.int (ns.getD k.toNat 0)) H | _ => False
noncomputable def h7v : Sp := fun vs H Q _ => match vs with | [.int a, .int b] => 0 <= a /\ 0 <= b /\ Q (.int (Int.gcd a b)) H | _ => False
noncomputable def f3n (m : Int) : Int := if (m.fdiv 1000).fmod 2 = 1 then 1 + m.fmod 4 else 1 + m.fmod 1000
noncomputable def g2k (m : Int) (hh : Bool) : Int := if hh = true then (m.fdiv 2000).fmod (2 * f3n m - 1) - f3n m + 1 else (m.fdiv 2000).fmod 2001 - 1000
noncomputable def gY (m : Int) (hh : Bool) : Rat := Rat.divInt (g2k m hh) (f3n m)
noncomputable def a7l (M : Int) : Nat := (1 + (M.fdiv 100000000).fmod 9).toNat
noncomputable def kcF (M : Int) : Nat := (1 + (M.fdiv 10000000000000).fmod 3).toNat
noncomputable def stF (M : Int) : Nat := (1 + (M.fdiv 100000000000000).fmod 9).toNat
noncomputable def tnF (M : Int) : Nat := ((M.fdiv 10000000000000).fmod 5).toNat
noncomputable def crF (M : Int) (n i : Nat) : Int × Rat := ((a7l M : Int) + (i : Int) * (stF M : Int) + (n : Int), gY (M.fdiv (1000 * ((i : Int) + 1))) false)
noncomputable def csF (M : Int) (n : Nat) : List (Int × Rat) := (List.range (kcF M)).map (crF M n)
noncomputable def dtM (M : Int) (n : Nat) : Dt := match (M.fmod 6).toNat with
 | 0 => .gain (gY (M.fdiv 6) false)
 | 1 => .delay (a7l M - 1)
 | 2 => .echo (gY (M.fdiv 6) false) (a7l M) (tnF M)
 | 3 => .back (gY (M.fdiv 6) false) (a7l M)
 | 4 => .hall (gY (M.fdiv 6) true) (a7l M)
 | _ => .swell (csF M n)
noncomputable def g4p (c : Int) : Int := (c * 618033988749894848204587).fmod 1000000000000000000000007
noncomputable def h1a : Sp := fun vs H Q _ => match vs with
 | [.int m, .bl hh] => intBits m <= 1000 /\ Q (.str (fW (gY m hh))) H
 | _ => False
noncomputable def i6c : Sp := fun vs H Q _ => match vs with
 | [.int M, .int m, .int y] => ∃ n : Nat, y = n /\ n <= 501 /\ m = (a7l M : Int) /\ intBits M <= 90 /\ (∀ H1, Same H H1 -> Q (.str (Dt.swell (csF M n)).word) H1)
 | _ => False
noncomputable def h1b : Sp := fun vs H Q _ => match vs with
 | [.int c, .int y] => ∃ n : Nat, y = n /\ n <= 501 /\ intBits c <= 1100000 /\ (∀ H1, Same H H1 -> Q (.str (dtM (g4p c) n).word) H1)
 | _ => False
noncomputable def f2k : Sp := fun vs H Q _ => match vs with
 | [.ref o, .int _] => Q (.ref o) H
 | _ => False
noncomputable def h1c (A : Ad) : Sp := fun vs H Q _ => match vs with
 | [.ref o, .int n] => ∃ (cs : List (Int × Rat)) (m : Nat), n = m /\ IsP A H o (.swell cs) /\ (a8m m (.swell cs)).ok /\ (∀ o' H1, Same H H1 -> IsP A H1 o' (a8m m (.swell cs)) -> Q (.ref o') H1)
 | _ => False
local macro_rules | `(tactic| walk_at $s:str) => do
 unless s.getString == "rd" || s.getString == "rd*" do Lean.Macro.throwUnsupported
 let z <- `(Lean.Parser.Tactic.simpLemma| true_and)
 let y <- `(Lean.Parser.Tactic.simpStar| *)
 let x : Lean.TSyntax [`Lean.Parser.Tactic.simpStar, `Lean.Parser.Tactic.simpErase, `Lean.Parser.Tactic.simpLemma] := if s.getString == "rd" then ⟨z.raw⟩ else ⟨y.raw⟩
 `(tactic| simp (config := { maxSteps := 1000000, dsimp := false }) only [$x, ↓i0i, ↓i5v, ↓i5w, ↓h7e, ↓i5x, ↓h0p, ↓h7f, ↓i5y, ↓h7g, ↓h7h, ↓h7i, ↓h0q, ↓g4e, ↓h0t, ↓g4f, ↓i5z, ↓h0u, ↓g0e, ↓h7j, ↓i6a, ↓h0w, ↓g4g, ↓g4h, ↓h7l, ↓g4k, ↓h0x, ↓g4l, ↓h0y, ↓h0z, ↓h7m, ↓g4m, ↓g0f, ↓f2j, ↓d3q, ↓g4n, ↓h7o, ↓d9v, ↓h7p, ↓g4o, ↓h7q, ↓i6b, ↓h7r, ↓d5z, ↓h7s, ↓f7m, ↓j1n, ↓j1o, ↓j1p, ↓j1q, ↓i0k, ↓j1r, ↓h7t, ↓j1s, ↓j1t, ↓g6t, ↓h7u, ↓h7v, ↓h1a, ↓i6c, ↓h1b, ↓f2k, ↓h1c, i8l, ↓i4s, ↓j0z, ↓j1a, ↓i4u, ↓i4v, ↓j1b, ↓i4w, ↓h6k, ↓i4x, ↓h6l, ↓j1c, Bool.bne_false, Bool.bne_true, ↓i5i, ↓j1j, ↓i5h, ↓g9u, i8l, ↓gSub, ↓i8n, ↓h6u, ↓h6v, ↓j1m, ↓j1l, ↓h6t, i8l, ↓h4f, ↓i4y, ↓h4g, ↓a4s, ↓h6m, asNew, ↓i8k, ↓h9i, ↓h9p, ↓rIsI, ↓h9q, ↓h9r, ↓g9q, ↓h9s, lookup_same, f9l, g9n, g5w, h4h, List.lookup_nil, nq0, nq1, nq2, nq3, nq4, nq5, nq6, nq7, nq8, nq9, nq10, nq11, nq12, nq13, nq14, nq15, nq16, nq17, nq18, nq19, nq20, nq21, nq22, nq23, nq24, nq25, nq26, nq27, nq28, nq29, nq30, nq31, nq32, nq33, nq34, nq35, nq36, nq37, nq38, nq39, nq40, nq41, nq42, nq43, nq44, nq45, nq46, nq47, nq48, nq49, nq50, nq51, nq52, nq53, nq54, nq55, nq56, nq57, nq58, nq59, nq60, nq61, nq62, nq63, nq64, nq65, nq66, nq67, nq68, nq69, nq70, nq71, nq72, nq73, nq74, nq75, nq76, nq77, nq78, nq79, nq80, nq81, nq82, nq83, nq84, nq85, nq86, nq87, ↓i9q, ↓i6z, ↓a6k, ↓tC, ↓g7z, ↓tOp, ↓tUn, ↓i9t, ↓i9s, ↓i7n, ↓i2j, ↓tCB, ↓f0m, ↓d4s, ↓i3r, ↓i3s, ↓h8o, ↓i9o, ↓tOr, ↓i9p, ↓tBF, ↓h9b, ↓tOrF, ↓h9c, ↓i2k, ↓tIf, ↓i3p, ↓g9c, ↓g9f, ↓g9g, ↓i4b, ↓g9h, ↓tSl, ↓g8t, ↓g9i, ↓rIF, ↓h9a, ↓rUF, ↓i3t, ↓i3u, ↓i8d, ↓i8e, ↓j0r, ↓j0s, ↓i3v, ↓i4d, ↓i4e, ↓i4c, ↓j0p, ↓j0t, ↓j0u, ↓j0v, ↓h6e, ↓i8h, ↓h9g, ↓j0w, ↓i4n, ↓i4m, ↓h6h, ↓i4f, ↓i4g, ↓i4h, ↓i4i, ↓h5s, ↓i4r, ↓h6j, ↓i4p, ↓i4q, ↓hAs, ↓L2.start, i3w, i3x, i3y, i3z, i4a, g9b, Ty.nm, i7r, i3q, h6a, h6b, h6c, h6d, f8y, g1o, List.map_cons, List.map_nil, List.length_cons, List.length_nil, List.length_map, List.replicate, List.cons_append, List.nil_append, List.append_nil, List.getElem?_cons_zero, List.getElem?_cons_succ, List.set_cons_zero, List.set_cons_succ, Option.some.injEq, exists_eq_left', exists_eq_left, exists_and_left, V.int.injEq, V.bl.injEq, V.str.injEq, V.ref.injEq, V.ty.injEq, Value.ref.injEq, List.cons.injEq, HO.lst.injEq, HO.tup.injEq, Int.zero_add, List.length_append, and_true, true_and, h8v, h8w, h8x, h8y, h8z, two_line, if_true, reduceCtorEq, if_false, Bool.false_eq_true, decide_eq_true_eq, decide_eq_false_iff_not, decide_true, decide_false, Bool.or_true, Bool.true_or, Bool.or_false, Bool.false_or, Bool.and_true, Bool.true_and, Bool.and_false, Bool.false_and, or_false, false_or, Nat.zero_add, Nat.reduceAdd, Nat.reduceSub, exists_const, false_and, and_false, Bool.not_true, Bool.not_false, Bool.not_eq_true', ne_eq, not_true_eq_false, not_false_eq_true, Int.reduceEq, Int.reduceNe, Int.reduceLT, Int.reduceLE, Int.reducePow, Int.reduceMul, Int.reduceAdd, Int.reduceSub, Int.reduceNeg, Int.reduceToNat, Nat.reducePow, Nat.reduceLT, Nat.reduceLeDiff])
theorem g4q {l r : Int} (hl : 0 <= l) (hr : 0 < r) : Int.gcd r (l.fmod r) = Int.gcd l r := by
 rw [Int.fmod_eq_emod_of_nonneg _ (by omega)]
 obtain ⟨x, rfl⟩ := Int.eq_ofNat_of_zero_le hl
 obtain ⟨y, rfl⟩ := Int.eq_ofNat_of_zero_le (by omega : 0 <= r)
 rw [<- Int.natCast_emod, Int.gcd_natCast_natCast, Int.gcd_natCast_natCast, Nat.gcd_comm x y, Nat.gcd_rec y x, Nat.gcd_comm]
theorem h1e {l r : Int} (hl : 0 <= l) (hr : 0 < r) : 0 <= l.fmod r /\ l.fmod r < r := by
 rw [Int.fmod_eq_emod_of_nonneg _ (by omega)]
 exact ⟨Int.emod_nonneg _ (by omega), Int.emod_lt_of_pos _ hr⟩
theorem b2n (a : Int) {b : Int} (hb : 0 < b) : 0 <= a.fmod b /\ a.fmod b < b := by
 rw [Int.fmod_eq_emod_of_nonneg _ (by omega)]
 exact ⟨Int.emod_nonneg _ (by omega), Int.emod_lt_of_pos _ hb⟩
theorem g2l (a b : Int) : Int.gcd (a.natAbs : Int) (b.natAbs : Int) = Int.gcd a b := by
 rw [Int.gcd_natCast_natCast]; rfl
theorem gcd_zero {l : Int} (hl : 0 <= l) : ((Int.gcd l 0 : Nat) : Int) = l := by
 rw [Int.gcd_zero_right]; omega
theorem i6d (a b : Int) : (a.natAbs : Int).fdiv (Int.gcd a b : Int) * (b.natAbs : Int) = (Int.lcm a b : Int) := by
 rw [Int.fdiv_eq_ediv_of_nonneg _ (Int.natCast_nonneg _), <- Int.natCast_ediv, <- Int.natCast_mul]
 congr 1
 show a.natAbs / Nat.gcd a.natAbs b.natAbs * b.natAbs = Nat.lcm a.natAbs b.natAbs
 unfold Nat.lcm
 exact Nat.div_mul_right_comm (Nat.gcd_dvd_left _ _) _
theorem lcm_zero {a b : Int} (h : a = 0 \/ b = 0) : Int.lcm a b = 0 := by
 rcases h with rfl | rfl
 ·exact Int.lcm_zero_left _
 ·exact Int.lcm_zero_right _
theorem g4r {a b : Int} {n : Nat} (h : a ≠ 0) (ha : intBits a <= n) : intBits (Int.gcd a b : Int) <= n := by
 refine intBits_le_of_natAbs ?_ ha
 rw [Int.natAbs_natCast]
 exact Nat.le_of_dvd (by omega) (Nat.gcd_dvd_left _ _)
theorem c5s {a g : Int} (hg : 0 < g) (h : g ∣ a) : (a.fdiv g).natAbs = a.natAbs / g.natAbs := by
 rw [Int.fdiv_eq_ediv_of_nonneg _ (by omega)]
 obtain ⟨k, rfl⟩ := h
 rw [Int.mul_ediv_cancel_left _ (by omega), Int.natAbs_mul, Nat.mul_div_cancel_left _ (by omega)]
theorem h4y {a b : Int} (h : ¬ (a = 0 /\ b = 0)) : ((Int.gcd (a.fdiv (Int.gcd a b : Int)) (b.fdiv (Int.gcd a b : Int)) : Nat) : Int) = 1 := by
 have hp : 0 < Int.gcd a b := by
  rw [Int.gcd_pos_iff]
  omega
 have e : Int.gcd (a.fdiv (Int.gcd a b : Int)) (b.fdiv (Int.gcd a b : Int)) = 1 := by
  show Nat.gcd _ _ = 1
  rw [c5s (by omega) (Int.gcd_dvd_left a b), c5s (by omega) (Int.gcd_dvd_right a b), Int.natAbs_natCast]
  exact Nat.coprime_div_gcd_div_gcd hp
 rw [e]
 rfl
theorem h7w {t b : Int} (hb : b ≠ 0) : t.fdiv (if b < 0 then -(Int.gcd t b : Int) else (Int.gcd t b : Int)) = (Rat.divInt t b).num := by
 rw [Rat.num_divInt, Int.gcd_comm b t]
 have hp : 0 < Int.gcd t b := Int.gcd_pos_of_ne_zero_right t hb
 obtain ⟨k, hk⟩ : (Int.gcd t b : Int) ∣ t := Int.gcd_dvd_left t b
 generalize hg : (Int.gcd t b : Int) = g at *
 have hg0 : 0 < g := by omega
 by_cases h : b < 0
 ·rw [if_pos h, Int.sign_eq_neg_one_of_neg h, hk]
  rw [show g * k = (-g) * (-k) by grind, Int.mul_fdiv_cancel_left _ (by omega), show -1 * (-g * -k) = g * (-k) by grind, Int.mul_ediv_cancel_left _ (by omega)]
 ·rw [if_neg h, Int.sign_eq_one_of_pos (by omega), hk, Int.mul_fdiv_cancel_left _ (by omega), Int.one_mul, Int.mul_ediv_cancel_left _ (by omega)]
theorem h7x {t b : Int} (hb : b ≠ 0) : b.fdiv (if b < 0 then -(Int.gcd t b : Int) else (Int.gcd t b : Int)) = ((Rat.divInt t b).den : Int) := by
 rw [Rat.den_divInt, if_neg hb, Int.gcd_comm b t]
 have hp : 0 < Int.gcd t b := Int.gcd_pos_of_ne_zero_right t hb
 obtain ⟨k, hk⟩ : (Int.gcd t b : Int) ∣ b := Int.gcd_dvd_right t b
 rw [Int.natCast_ediv]
 generalize hg : (Int.gcd t b : Int) = g at *
 have hg0 : 0 < g := by omega
 by_cases h : b < 0
 ·have e : ((b.natAbs : Nat) : Int) = -b := by omega
  rw [if_pos h, e, hk, show g * k = (-g) * (-k) by grind, Int.mul_fdiv_cancel_left _ (by omega), show -(-g * -k) = g * (-k) by grind, Int.mul_ediv_cancel_left _ (by omega)]
 ·have e : ((b.natAbs : Nat) : Int) = b := by omega
  rw [if_neg h, e, hk, Int.mul_fdiv_cancel_left _ (by omega), Int.mul_ediv_cancel_left _ (by omega)]
theorem g4s (q r : Rat) : Rat.divInt (q.num * (r.den : Int) + r.num * (q.den : Int)) ((q.den : Int) * (r.den : Int)) = q + r := by
 conv => rhs; rw [<- Rat.num_divInt_den q, <- Rat.num_divInt_den r]
 rw [Rat.divInt_add_divInt _ _ (by have := q.den_pos; omega) (by have := r.den_pos; omega)]
theorem g0g (q r : Rat) : Rat.divInt (q.num * r.num) ((q.den : Int) * (r.den : Int)) = q * r := by
 conv => rhs; rw [<- Rat.num_divInt_den q, <- Rat.num_divInt_den r]
 rw [Rat.divInt_mul_divInt]
theorem g2m (q : Rat) : (Rat.abs q).num = q.num.natAbs := by
 unfold Rat.abs
 split
 ·rename_i h
  have := Rat.num_nonneg.mpr h
  omega
 ·rename_i h
  have : ¬ 0 <= q.num := fun z => h (Rat.num_nonneg.mp z)
  show -q.num = _
  omega
theorem g2n (q : Rat) : (Rat.abs q).den = q.den := by
 unfold Rat.abs
 split <;> rfl
theorem i6e {t b : Int} (hb : b ≠ 0) : (Rat.divInt t b).num.natAbs <= t.natAbs := by
 rw [Rat.num_divInt]
 have e : (b.sign * t).natAbs = t.natAbs := by
  rw [Int.natAbs_mul, Int.natAbs_sign_of_ne_zero hb, Nat.one_mul]
 rw [<- e]
 exact Int.natAbs_ediv_le_natAbs _ _
theorem i6f {t b : Int} (hb : b ≠ 0) : (Rat.divInt t b).den <= b.natAbs := by
 rw [Rat.den_divInt, if_neg hb]
 exact Nat.div_le_self _ _
theorem f4w (T : Tx K mg A) : a1o P A.wd K mg base CX0 1 A.b6i A.d1j ["one", "other"] i0i := by
 refine T.c3o.ok b8i (fun vs H Q E h => ?_) (fun cdv A' outer s H vs Q E hr h => ?_)
 ·match vs, h with
  | [.int a, .int b], _ => rfl
 ·match vs, h with
  | [.int a, .int b], q =>
  have q : Q (.int (Int.gcd a b)) H := q
  have hu := hr.units
  refine ⟨_, (a0n (a1h (i := 2) b8i.nd rfl (Or.inl rfl) (a1t b8p (by rfl) T.f1w boot_abs (a0g (pvF 0) a0i)))
   (a0n (a1h (i := 3) b8i.nd rfl (Or.inl rfl) (a1t b8p (by rfl) T.f1w boot_abs (a0g (pvF 1) a0i)))
   (a0n (f0r PassesOwn.never (a1v (c6r hu) (pvF 3) a0l (a3p _))
   (a0n (a1h (i := 4) b8i.nd rfl (Or.inl rfl) (a0y b2r (pvF 2) (pvF 3)))
   (a0n (a1h (i := 2) b8i.nd rfl (Or.inl rfl) (pvF 3))
   (a0q (a1h (i := 3) b8i.nd rfl (Or.inl rfl) (pvF 4))))))
   (a0q (a1i (pvF 2)))))), ?_⟩
  walk_at "rd"
  refine f0s (fun m σ H1 => ∃ l r z, σ = [some (.int a), some (.int b), some (.int l), some (.int r), z] /\ H1 = H /\ 0 <= l /\ 0 <= r /\ m = r.toNat /\ Int.gcd l r = Int.gcd a b) _
   ⟨_, _, _, rfl, rfl, by omega, by omega, rfl, g2l a b⟩ ?_
  rintro m σ H1 ⟨l, r, z, rfl, rfl, hl, hr', rfl, hg⟩
  walk_at "rd"
  split
  ·rename_i h
   have hp : 0 < r := by omega
   have f := h1e hl hp
   exact ⟨h, _, (by omega : (l.fmod r).toNat < r.toNat), _, _, _, ⟨rfl, rfl, rfl⟩, hr', f.1, rfl, (g4q hl hp).trans hg⟩
  ·rename_i h
   obtain rfl : r = 0 := by omega
   rw [<- hg, gcd_zero hl] at q
   exact q
theorem g2o (T : Tx K mg A) : a1o P A.wd K mg base CX0 2 A.b4t A.d2u ["one", "other"] i5v := by
 have f2l : a1o P A.wd K mg base CX0 1 A.b6i A.d1j ["one", "other"] i0i := f4w T
 refine T.c3p.ok g2a (fun vs H Q E h => ?_) (fun cdv A' outer s H vs Q E hr h => ?_)
 ·match vs, h with
  | [.int a, .int b], _ => rfl
 ·match vs, h with
  | [.int a, .int b], ⟨ha, hb, q⟩ =>
  have hu := hr.units
  have d7r : a3g 1 _ := hr.mono (by decide)
  refine ⟨_, (a0n (b0q (pw_or (a1v (c6q hu) (pvF 0) a0l (a3p _)) (pw_or1 (a1v (c6q hu) (pvF 1) a0l (a3p _)))).pt
   (a0q (a1i a0l))
   a3h)
   (a0q (a1i (a0y a2s (a0y a6o (a1t b8p (by rfl) T.f1w boot_abs (a0g (pvF 0) a0i)) (a0u f2l d7r (by rfl) T.g0a T.c3o.kp T.d5q .nil a0r (a0g (pvF 0) (a0g (pvF 1) a0i)))) (a1t b8p (by rfl) T.f1w boot_abs (a0g (pvF 1) a0i)))))), ?_⟩
  walk_at "rd"
  split
  ·rename_i h
   rw [lcm_zero h] at q
   exact q
  ·rename_i h
   simp only [not_or] at h
   have hg := g4r (b := b) h.1 ha
   have hn : (Int.gcd a b : Int) ≠ 0 := by
    have := Int.gcd_pos_of_ne_zero_left b h.1
    omega
   refine ⟨⟨hn, Nat.le_trans hg (by decide)⟩, ?_, ?_⟩
   ·exact IntMulOk.of_le (intBits_fdiv_le (intBits_natAbs_le ha)) (intBits_natAbs_le hb) (by decide)
   ·rw [i6d]
    exact q
theorem g4t {t b : Int} {n : Nat} (hb : b ≠ 0) (h : intBits t <= n) : intBits (Rat.divInt t b).num <= n := intBits_le_of_natAbs (i6e hb) h
theorem g4u {t b : Int} {n : Nat} (hb : b ≠ 0) (h : intBits b <= n) : intBits ((Rat.divInt t b).den : Int) <= n := by
 refine intBits_le_of_natAbs ?_ h
 rw [Int.natAbs_natCast]
 exact i6f hb
theorem g2p (T : Tx K mg A) : a1o P A.wd K mg base CX0 1 A.b4r A.d2s ["value"] i5w := by
 refine T.b8j.ok g1y (fun vs H Q E h => ?_) (fun cdv A' outer s H vs Q E hr h => ?_)
 ·match vs, h with
  | [.int i], _ => rfl
 ·match vs, h with
  | [.int i], q =>
  have hu := hr.units
  refine ⟨_, (a0q (a1i (h9d (a1t (d9r .int) (by rfl) T.a7s boot_isinstance (a0g (pvF 0) (a0g (f5n (v := .ty "int") (u := .type "int") (by rfl) T.f6y rfl rfl) a0i))) (i2g (h9e (a1t (d9r .bl) (by rfl) T.a7s boot_isinstance (a0g (pvF 0) (a0g (f5n (v := .ty "bool") (u := .type "bool") (by rfl) T.g0c rfl rfl) a0i)))))))), ?_⟩
  walk_at "rd"
  exact q
theorem d3r (T : Tx K mg A) : a1o P A.wd K mg base CX0 2 A.b4u A.d2v ["top", "bottom"] h7e := by
 have f4y : a1o P A.wd K mg base CX0 1 _ _ _ _ := g2p T
 have f2l : a1o P A.wd K mg base CX0 1 _ _ _ _ := f4w T
 refine T.b4z.ok d2r (fun vs H Q E h => ?_) (fun cdv A' outer s H vs Q E hr h => ?_)
 ·match vs, h with
  | [.int t, .int b], _ => rfl
 ·match vs, h with
  | [.int t, .int b], ⟨hb, h1, h2, k⟩ =>
  have hu := hr.units
  have f2m : a3g 1 _ := hr.mono (by decide)
  have d7r : a3g 1 _ := hr.mono (by decide)
  refine ⟨_, (a0n (b0q (pw_or (f0i (c1u (a0u f4y f2m (by rfl) T.f4t T.b8j.kp T.d1k .nil a0r (a0g (pvF 0) a0i)))) (pw_or1 (f0i (c1u (a0u f4y f2m (by rfl) T.f4t T.b8j.kp T.d1k .nil a0r (a0g (pvF 1) a0i)))))).pt
   (a0q a6m)
   a3h)
   (a0n (b0q (a1v (c6q hu) (pvF 1) a0l (a3p _))
   (a0q a6m)
   a3h)
   (a0n (a1h (i := 2) d2r.nd rfl (Or.inl rfl) (a0u f2l d7r (by rfl) T.g0a T.c3o.kp T.d5q .nil a0r (a0g (pvF 0) (a0g (pvF 1) a0i))))
   (d2p (b0q (a1v of_lt (pvF 1) a0l (a3p _))
   (a0q (a1h (i := 2) d2r.nd rfl (Or.inl rfl) (g8g f8z (pvF 2))))
   a3h)
   (a0q (a1i (b0o (a0g (a0y a6o (pvF 0) (pvF 2)) (a0g (a0y a6o (pvF 1) (pvF 2)) a0i))))))))), ?_⟩
  walk_at "rd"
  rw [if_neg hb]
  refine ⟨fun σ' H' => σ' = [some (.int t), some (.int b), some (.int (if b < 0 then -(Int.gcd t b : Int) else (Int.gcd t b : Int)))] /\ H' = H, ?_, ?_⟩
  ·walk_at "rd"
   split
   ·rfl
   ·rfl
  ·rintro σ' H' ⟨rfl, rfl⟩
   have hg : intBits (Int.gcd t b : Int) <= 4000 := by
    rw [Int.gcd_comm]
    exact g4r hb h2
   have hp : 0 < Int.gcd t b := Int.gcd_pos_of_ne_zero_right t hb
   have hc : CFd t (if b < 0 then -(Int.gcd t b : Int) else (Int.gcd t b : Int)) := by
    split
    ·exact ⟨by omega, Nat.le_trans (intBits_neg_le hg) (by decide)⟩
    ·exact ⟨by omega, Nat.le_trans hg (by decide)⟩
   walk_at "rd"
   refine ⟨hc, hc, fun p H1 n1 S1 h1 => k _ _ ⟨p, rfl, n1, S1, ?_⟩⟩
   rw [h1, h7w hb, h7x hb]
   rfl
theorem g0h {n : Nat} (h : n < 10 ^ 9) : n.log2 < 1920 := by
 rcases Nat.eq_zero_or_pos n with z | z
 ·rw [z]; decide
 ·rw [Nat.log2_lt (by omega)]
  exact Nat.lt_of_lt_of_le h (Nat.le_trans (by decide : 10 ^ 9 <= 2 ^ 30) (Nat.pow_le_pow_right (by decide) (by decide)))
theorem f4z {t : Int} (h : t.natAbs < 10 ^ 9) : intBits t <= 4000 := by
 refine Nat.le_trans (intBits_le_iff.mpr (Nat.lt_of_lt_of_le h (by decide : 10 ^ 9 <= 2 ^ 30))) (by decide)
theorem f5g (T : Tx K mg A) : a1o P A.wd K mg base CX0 1 A.a8w A.c4l ["text"] i5x := by
 refine T.b2g.ok d5m (fun vs H Q E h => ?_) (fun cdv A' outer s H vs Q E hr h => ?_)
 ·match vs, h with
  | [.str x], _ => rfl
 ·match vs, h with
  | [.str x], q =>
  have q : Q (.bl (g9p (sg x))) H := q
  have hu := hr.units
  refine ⟨_, (a0n (c4g PassesOwn.never rfl (i4t (pvF 0)) (b2q (i := 1) d5m.nd rfl (Or.inl rfl))
   (a0q (b0q (a1v g9m (pvF 1) (a8s (v := .str "0123456789") (by rfl) T.c3v T.g6q) (by rfl))
   (a0q (a1i g7x))
   a3h)))
   (a0q (a1i (f5r (c6r hu) (pvF 0) a2u (a3p _))))), ?_⟩
  walk_at "rd"
  refine h4e (fun i σ H1 => H1 = H /\ (∃ z, σ = [some (.str x), z]) /\ ((sg x).take i).all (fun c => decide (48 <= c) && decide (c <= 57)) = true) ⟨rfl, ⟨_, rfl⟩, rfl⟩ ?_ ?_
  ·rintro i c σ H1 hc ⟨rfl, ⟨z, rfl⟩, ha⟩
   walk_at "rd"
   have hc' : (sg x)[i]? = some c := by
    unfold sg
    rw [Array.getElem?_toList]
    exact hc
   rw [h9n]
   split
   ·rename_i hb
    have : g9p (sg x) = false := by
     unfold g9p
     rw [show (sg x).all (fun c => decide (48 <= c) && decide (c <= 57)) = false from ?_, Bool.false_and]
     rw [List.all_eq_false]
     exact ⟨c, List.mem_of_getElem? hc', by rw [hb]; decide⟩
    rw [this] at q
    exact q
   ·rename_i hb
    refine ⟨⟨_, rfl⟩, ?_⟩
    rw [List.take_add_one, hc', List.all_append, ha]
    simpa using hb
  ·rintro σ H1 ⟨rfl, ⟨z, rfl⟩, ha⟩
   walk_at "rd"
   have hl : x.cps.size = (sg x).length := by simp
   rw [hl, List.take_length] at ha
   have e : g9p (sg x) = !decide (x = Str.ofString "") := by
    unfold g9p
    rw [ha, Bool.true_and]
    congr 1
    rw [Bool.eq_iff_iff, decide_eq_true_eq, List.isEmpty_iff]
    exact ⟨fun h => b6z (h.trans (by decide +kernel)), fun h => by rw [h]; decide +kernel⟩
   rw [e] at q
   exact q
theorem h4z (T : Tx K mg A) : a1o P A.wd K mg base CX0 1 A.a4u A.b0t ["one"] h0p := by
 refine T.a2n.ok a5q (fun vs H Q E h => ?_) (fun cdv A' outer s H vs Q E hr h => ?_)
 ·match vs, h with
  | [.ref p], _ => rfl
 ·match vs, h with
  | [.ref p], ⟨t, b, hp, l1, l2, q⟩ =>
  have hu := hr.units
  refine ⟨_, (a0n (a1h (i := 1) a5q.nd rfl (Or.inl rfl) (a1r a5o (pvF 0) a0l (fun _ _ => rfl)))
   (a0n (a1h (i := 2) a5q.nd rfl (Or.inl rfl) (a1r a5o (pvF 0) a0l (fun _ _ => rfl)))
   (a0q (a1i (b2s (a3w (b6y (pvF 1)) (a3w a2u (a3w (b6y (pvF 2)) d5i)))))))), ?_⟩
  walk_at "rd*"
  have e0 : Str.empty.length = 0 := rfl
  have e1 : (Str.ofString "/").length = 1 := by decide +kernel
  have e2 : (Str.ofString (toString t)).length = (txt t).length := by rw [<- c7p, c6s]
  have e3 : (Str.ofString (toString b)).length = (txt b).length := by rw [<- c7p, c6s]
  have f2 := g1u t
  have f3 := g1u b
  have hs : sizeLine = 16777216 := sizeLine_eq
  simp only [strLen_append, e0, e1, e2, e3]
  refine ⟨by omega, by omega, by omega, by omega, q _ ?_⟩
  rw [a3r, a3r, a3r, c6s, c6s]
  unfold h4j
  have e4 : sg Str.empty = [] := rfl
  have e5 : sg (Str.ofString "/") = [47] := by decide +kernel
  rw [e4, e5]
  simp
theorem i0l (T : Tx K mg A) : a1o P A.wd K mg base CX0 3 A.a5k A.b6r ["text"] h7f := by
 have c9o : a1o P A.wd K mg base CX0 1 _ _ _ _ := f5g T
 have a2o : a1o P A.wd K mg base CX0 1 _ _ _ _ := h4z T
 have c3y : a1o P A.wd K mg base CX0 2 _ _ _ _ := d3r T
 refine T.a9n.ok a8l (fun vs H Q E h => ?_) (fun cdv A' outer s H vs Q E hr h => ?_)
 ·match vs, h with
  | [.str x], _ => rfl
 ·match vs, h with
  | [.str x], ⟨t, b, g, k⟩ =>
  have hu := hr.units
  have c5t : a3g 1 _ := hr.mono (by decide)
  have a2h : a3g 1 _ := hr.mono (by decide)
  have b9w : a3g 2 _ := hr.mono (by decide)
  obtain ⟨hx, hb, hg, l1, l2⟩ := g
  have hb0 : b ≠ 0 := by omega
  have tb : txt b = dg b.natAbs := if_neg (by omega)
  have sl : Str.ofString "/" = ⟨#[47]⟩ := by decide +kernel
  have mi : Str.ofString "-" = ⟨#[45]⟩ := by decide +kernel
  have sp := h4i (x := x) (c := 47) (by decide) hx (d1t (by decide) (by decide)) (d1t (by decide) (by decide))
  have hs : sizeLine = 16777216 := sizeLine_eq
  have q1 := i5c t
  have xl : x.length = (txt t).length + ((txt b).length + 1) := by rw [<- c7p, hx]; simp [h4j]
  rw [tb] at xl
  obtain ⟨h0, e0⟩ : ∃ h0 : Str, h0 = ⟨(txt t).toArray⟩ := ⟨_, rfl⟩
  obtain ⟨h1, e1⟩ : ∃ h1 : Str, h1 = ⟨(txt b).toArray⟩ := ⟨_, rfl⟩
  have s0 : sg h0 = txt t := by rw [e0]
  have s1 : sg h1 = txt b := by rw [e1]
  have n0 : h0.length = (txt t).length := by rw [<- c7p, s0]
  have n1 : h1.length = (txt b).length := by rw [<- c7p, s1]
  rw [<- e0, <- e1] at sp
  have sw := i5d s0
  have i0 := d6r s0 (by omega)
  have i1 := d6r s1 (by rw [tb] at n1; omega)
  have r0 : Rat.divInt t b = ⟨t, b.toNat, by omega, by
   show Nat.gcd t.natAbs b.toNat = 1
   rw [<- hg]
   unfold Int.gcd
   congr 1
   omega⟩ := by
   rw [Rat.mk_eq_divInt]
   congr 1
   omega
  refine ⟨_, (a0n (b0q (f0i (c1u (a1t (d9r .str) (by rfl) T.a7s boot_isinstance (a0g (pvF 0) (a0g (f5n (v := .ty "str") (u := .type "str") (by rfl) T.d7q rfl rfl) a0i)))))
   (a0q a6m)
   a3h)
   (a0n (a1h (i := 1) a8l.nd rfl (Or.inl rfl) (c2v b5z PySem.F.plainAttrs_str PySem.F.slot_str_split PySem.F.type_str_split d9t (pvF 0) (a0g a2u a0i)))
   (a0n (b0q (a1v (c6r hu) (a1t a3q (by rfl) T.b6w boot_len (a0g (pvF 1) a0i)) a0l (a3p _))
   (a0q a6m)
   a3h)
   (d2p (a1h (i := 2) a8l.nd rfl (Or.inl rfl) (d9p (c1u (c2v b5z PySem.F.plainAttrs_str PySem.F.slot_str_startswith PySem.F.type_str_startswith d5g (a1r a5o (pvF 1) a0l (fun _ _ => rfl)) (a0g a2u a0i))) (a6n g5v (a1r a5o (pvF 1) a0l (fun _ _ => rfl)) (a5t a0l) b0w) (a1r a5o (pvF 1) a0l (fun _ _ => rfl))))
   (a0n (c4g PassesOwn.never rfl (b5k (b3v (a0g (pvF 2) (a0g (a1r a5o (pvF 1) a0l (fun _ _ => rfl)) a0i)))) (b2q (i := 3) a8l.nd rfl (Or.inl rfl))
   (a0q (b0q (pw_or (f0i (c1u (a0u c9o c5t (by rfl) T.d8p T.b2g.kp T.c0u .nil a0r (a0g (pvF 3) a0i)))) (pw_or1 (a1v g1p (a1t a3q (by rfl) T.b6w boot_len (a0g (pvF 3) a0i)) (a8s (v := .int 9) (by rfl) T.a4m T.c7j) (a3p _)))).pt
   (a0q a6m)
   a3h)))
   (a0n (b0q (a1v (c6q hu) (a1y d5h (by rfl) T.f6y boot_int (a0g (a1r a5o (pvF 1) a0l (fun _ _ => rfl)) a0i)) a0l (a3p _))
   (a0q a6m)
   a3h)
   (a0n (a1h (i := 4) a8l.nd rfl (Or.inl rfl) (a0u c3y b9w (by rfl) T.d7l T.b4z.kp T.c3q .nil a0r (a0g (a1y d5h (by rfl) T.f6y boot_int (a0g (a1r a5o (pvF 1) a0l (fun _ _ => rfl)) a0i)) (a0g (a1y d5h (by rfl) T.f6y boot_int (a0g (a1r a5o (pvF 1) a0l (fun _ _ => rfl)) a0i)) a0i))))
   (a0n (b0q (a1v (c6r hu) (a0u a2o a2h (by rfl) T.a6z T.a2n.kp T.a4y .nil a0r (a0g (pvF 4) a0i)) (pvF 0) (a3p _))
   (a0q a6m)
   a3h)
   (a0q (a1i (pvF 4))))))))))), ?_⟩
  rw [sl, mi]
  have hx' : id (sg x = h4j t b) := hx
  clear e0 e1 hx sl mi
  have d1 : ((⟨#[47]⟩ : Str).length == 0) = false := rfl
  have d2 : x.length <= sizeLine := by omega
  have d3 : 2 <= sizeLine := by omega
  have d4 : h0.length <= sizeLine := by omega
  have d5 : h1.length <= sizeLine := by rw [tb] at n1; omega
  have N0 : h0.length <= 10 := by omega
  have N1 : h1.length <= 9 := by rw [tb] at n1; omega
  clear xl n0 n1 q1 hs
  walk_at "rd*"
  intro p H1 n1' S1 h1'
  walk_at "rd*"
  rw [if_neg (by decide)]
  refine ⟨fun σ' H' => ∃ top : Str, sg top = dg t.natAbs /\ σ' = [some (.str x), some (.ref p), some (.str top), none, none] /\ H' = H1, ?_, ?_⟩
  ·walk_at "rd*"
   split
   ·rename_i ht
    have z := h9o (x := h0) (i := 1) (by
     rw [<- c7p, s0]
     unfold txt
     rw [if_pos ht]
     simp)
    rw [show ((1 : Nat) : Int) = 1 from rfl] at z
    refine ⟨_, ?_, rfl⟩
    rw [z, s0]
    unfold txt
    rw [if_pos ht]
    rfl
   ·rename_i ht
    refine ⟨_, ?_, rfl⟩
    rw [s0]
    unfold txt
    rw [if_neg ht]
  ·rintro σ' H' ⟨top, st, rfl, rfl⟩
   walk_at "rd*"
   intro q H2 n2 S2 h2
   walk_at "rd*"
   have hp2 := S2 _ _ h1'
   refine ⟨⟨_, SqL.of h2⟩, ?_⟩
   have f0 : g9p (sg top) = true := by rw [st]; exact f5z.mpr ⟨d1s _, g9o _⟩
   have f1 : g9p (sg h1) = true := by rw [s1, tb]; exact f5z.mpr ⟨d1s _, g9o _⟩
   have m0 : top.length <= 9 := by rw [<- c7p, st]; exact l1
   have m1 : top.length <= sizeLine := Nat.le_trans m0 (by decide)
   refine f0q (xs := [.str top, .str h1]) (fun i σ H' => H' = H2 /\ ∃ z, σ = [some (.str x), some (.ref p), some (.str top), z, none]) ⟨rfl, _, rfl⟩ (fun i σ H' _ h => by rw [h.1]; exact SqL.of h2) ?_ ?_
   ·rintro i v σ H' hv ⟨rfl, z, rfl⟩
    match i, hv with
    | 0, hv =>
     cases hv
     walk_at "rd*"
     rw [st] at f0
     rw [f0, if_neg (by simp; omega)]
     exact ⟨_, rfl⟩
    | 1, hv =>
     cases hv
     walk_at "rd*"
     rw [s1, tb] at f1
     rw [f1, if_neg (by simp; omega)]
     exact ⟨_, rfl⟩
    | i + 2, hv => cases hv
   ·rintro σ H' ⟨rfl, z, rfl⟩
    walk_at "rd*"
    have v1 : t.natAbs < 10 ^ 9 := by
     have := h6p (d1s t.natAbs)
     rw [g3t] at this
     exact Nat.lt_of_lt_of_le this (Nat.pow_le_pow_right (by decide) l1)
    have v2 : b.natAbs < 10 ^ 9 := by
     have := h6p (d1s b.natAbs)
     rw [g3t] at this
     exact Nat.lt_of_lt_of_le this (Nat.pow_le_pow_right (by decide) l2)
    have g1 : t.natAbs.log2 < 1920 := g0h v1
    have g2 : b.natAbs.log2 < 1920 := g0h v2
    refine ⟨by omega, by omega, by omega, f4z v1, f4z v2, ?_⟩
    rw [r0]
    rintro _ H3 ⟨o, rfl, n3, S3, h3⟩
    replace h3 : H3 o = some (.tup [.int t, .int b]) := by
     rw [h3]
     unfold c7l
     show some (HO.tup [V.int t, V.int ((b.toNat : Nat) : Int)]) = _
     rw [Int.toNat_of_nonneg (by omega)]
    walk_at "rd*"
    refine ⟨t, b, ⟨rfl, rfl⟩, g1, g2, fun y hy => ?_⟩
    rw [if_neg (not_not_intro (b6z (hy.trans hx'.symm)))]
    refine k _ _ ⟨o, rfl, ?_, fun c u e => S3 _ _ (S2 _ _ (S1 _ _ e)), h3⟩
    cases e : H o with
    | none => rfl
    | some u =>
     have := S2 _ _ (S1 _ _ e)
     rw [n3] at this
     cases this
theorem h1f {x : Str} {n : Nat} (h : sg x = txt (n : Int)) : (Txt.startswith x ⟨#[48]⟩ && !decide (x = (⟨#[48]⟩ : Str))) = false := by
 have e : txt (n : Int) = dg n := if_neg (by omega)
 rw [e] at h
 rcases Nat.eq_zero_or_pos n with z | z
 ·subst z
  have : x = ⟨#[48]⟩ := b6z (by rw [h]; rfl)
  rw [this]
  simp
 ·obtain ⟨c, r, e1, e2⟩ := h9m z
  rw [h6q, h, e1]
  simp [e2]
theorem i6g (T : Tx K mg A) : a1o P A.wd K mg base CX0 2 A.b4s A.d2t ["text"] i5y := by
 have c9o : a1o P A.wd K mg base CX0 1 _ _ _ _ := f5g T
 refine T.c3n.ok g1z (fun vs H Q E h => ?_) (fun cdv A' outer s H vs Q E hr h => ?_)
 ·match vs, h with
  | [.str x], _ => rfl
 ·match vs, h with
  | [.str x], ⟨n, hx, hn, q⟩ =>
  have hu := hr.units
  have c5t : a3g 1 _ := hr.mono (by decide)
  have sl : Str.ofString "0" = ⟨#[48]⟩ := by decide +kernel
  refine ⟨_, (a0n (b0q (pw_or (f0i (c1u (a0u c9o c5t (by rfl) T.d8p T.b2g.kp T.c0u .nil a0r (a0g (pvF 0) a0i)))) (pw_or1 (a1v g1p (a1t a3q (by rfl) T.b6w boot_len (a0g (pvF 0) a0i)) (a8s (v := .int 13) (by rfl) T.a4l T.c7i) (a3p _)))).pt
   (a0q (a1i g7y))
   a3h)
   (a0n (b0q (pw_and (c1u (c2v b5z PySem.F.plainAttrs_str PySem.F.slot_str_startswith PySem.F.type_str_startswith d5g (pvF 0) (a0g a2u a0i))) (pw_and1 (a1v (c6r hu) (pvF 0) a2u (a3p _)))).pt
   (a0q (a1i g7y))
   a3h)
   (a0q (a1i (a1y d5h (by rfl) T.f6y boot_int (a0g (pvF 0) a0i)))))), ?_⟩
  rw [sl]
  walk_at "rd*"
  have e : txt (n : Int) = dg n := if_neg (by omega)
  have f : g9p (txt (n : Int)) = true := by rw [e]; exact f5z.mpr ⟨d1s _, g9o _⟩
  have lx : x.length <= 11 := by
   rw [<- c7p, hx, e]
   have a := h4q 8 n (by omega)
   omega
  have sw := h1f hx
  have hs : sizeLine = 16777216 := sizeLine_eq
  rw [f, if_neg (by decide)]
  refine ⟨by omega, ?_⟩
  rw [if_neg ?_]
  ·exact ⟨_, d6r hx (by omega), by omega, q⟩
  ·rintro (z | ⟨z1, z2⟩)
   ·omega
   ·rw [z1, Bool.true_and] at sw
    simp [z2] at sw
theorem g4v (x : Rat) : (x.den : Int) ≠ 0 := by
 have := x.den_pos
 omega
theorem f7n (x y : Rat) : (x.den : Int) * (y.den : Int) ≠ 0 := Int.mul_ne_zero (g4v x) (g4v y)
theorem i0m (T : Tx K mg A) : a1o P A.wd K mg base CX0 3 A.f1h A.g2d ["one", "other"] h7g := by
 have c3y : a1o P A.wd K mg base CX0 2 _ _ _ _ := d3r T
 refine T.g0b.ok i0f (fun vs H Q E h => ?_) (fun cdv A' outer s H vs Q E hr h => ?_)
 ·match vs, h with
  | [.ref p, .ref q], _ => rfl
 ·match vs, h with
  | [.ref p, .ref q], ⟨x, y, ⟨hp, hq, b1, b2, b3, b4⟩, k⟩ =>
  have hu := hr.units
  have b9w : a3g 2 _ := hr.mono (by decide)
  unfold c7l at hp hq
  refine ⟨_, (a0q (a1i (a0u c3y b9w (by rfl) T.d7l T.b4z.kp T.c3q .nil a0r (a0g (a0y a1n (a0y a2s (a1r a5o (pvF 0) a0l (fun _ _ => rfl)) (a1r a5o (pvF 1) a0l (fun _ _ => rfl))) (a0y a2s (a1r a5o (pvF 1) a0l (fun _ _ => rfl)) (a1r a5o (pvF 0) a0l (fun _ _ => rfl)))) (a0g (a0y a2s (a1r a5o (pvF 0) a0l (fun _ _ => rfl)) (a1r a5o (pvF 1) a0l (fun _ _ => rfl))) a0i))))), ?_⟩
  walk_at "rd*"
  refine ⟨by walk_at "mul", by walk_at "mul", by walk_at "mul", f7n x y, by walk_at "le", by walk_at "le", ?_⟩
  rw [g4s]
  exact k
theorem i0n (T : Tx K mg A) : a1o P A.wd K mg base CX0 3 A.d2w A.f6s ["one", "other"] h7h := by
 have c3y : a1o P A.wd K mg base CX0 2 _ _ _ _ := d3r T
 refine T.d7m.ok h4t (fun vs H Q E h => ?_) (fun cdv A' outer s H vs Q E hr h => ?_)
 ·match vs, h with
  | [.ref p, .ref q], _ => rfl
 ·match vs, h with
  | [.ref p, .ref q], ⟨x, y, ⟨hp, hq, b1, b2, b3, b4⟩, k⟩ =>
  have hu := hr.units
  have b9w : a3g 2 _ := hr.mono (by decide)
  unfold c7l at hp hq
  refine ⟨_, (a0q (a1i (a0u c3y b9w (by rfl) T.d7l T.b4z.kp T.c3q .nil a0r (a0g (a0y a2s (a1r a5o (pvF 0) a0l (fun _ _ => rfl)) (a1r a5o (pvF 1) a0l (fun _ _ => rfl))) (a0g (a0y a2s (a1r a5o (pvF 0) a0l (fun _ _ => rfl)) (a1r a5o (pvF 1) a0l (fun _ _ => rfl))) a0i))))), ?_⟩
  walk_at "rd*"
  refine ⟨by walk_at "mul", by walk_at "mul", f7n x y, by walk_at "le", by walk_at "le", ?_⟩
  rw [g0g]
  exact k
theorem i0o (T : Tx K mg A) : a1o P A.wd K mg base CX0 1 A.b8v A.d6u ["one"] h7i := by
 refine T.c8p.ok g6g (fun vs H Q E h => ?_) (fun cdv A' outer s H vs Q E hr h => ?_)
 ·match vs, h with
  | [.ref p], _ => rfl
 ·match vs, h with
  | [.ref p], ⟨x, hp, k⟩ =>
  have hu := hr.units
  unfold c7l at hp
  refine ⟨_, (a0q (a1i (b0o (a0g (a1t b8p (by rfl) T.f1w boot_abs (a0g (a1r a5o (pvF 0) a0l (fun _ _ => rfl)) a0i)) (a0g (a1r a5o (pvF 0) a0l (fun _ _ => rfl)) a0i))))), ?_⟩
  walk_at "rd*"
  intro b H1 n1 S1 h1
  refine k _ _ ⟨b, rfl, n1, S1, ?_⟩
  rw [h1]
  unfold c7l
  rw [g2m, g2n]
theorem h5a (T : Tx K mg A) : a1o P A.wd K mg base CX0 1 A.b4v A.d2y ["one", "other"] h0q := by
 refine T.c3r.ok g2b (fun vs H Q E h => ?_) (fun cdv A' outer s H vs Q E hr h => ?_)
 ·match vs, h with
  | [.ref p, .ref q], _ => rfl
 ·match vs, h with
  | [.ref p, .ref q], ⟨x, y, ⟨hp, hq, b1, b2, b3, b4⟩, k⟩ =>
  have hu := hr.units
  unfold c7l at hp hq
  refine ⟨_, (a0q (a1i (f5r of_lt (a0y a2s (a1r a5o (pvF 0) a0l (fun _ _ => rfl)) (a1r a5o (pvF 1) a0l (fun _ _ => rfl))) (a0y a2s (a1r a5o (pvF 1) a0l (fun _ _ => rfl)) (a1r a5o (pvF 0) a0l (fun _ _ => rfl))) (a3p _)))), ?_⟩
  walk_at "rd*"
  exact ⟨by walk_at "mul", by walk_at "mul"⟩
theorem h7y {p q : Int} (h : 1 <= q) (g : Int.gcd p q = 1) : ∃ y : Rat, y.num = p /\ (y.den : Int) = q := by
 refine ⟨⟨p, q.toNat, by omega, ?_⟩, rfl, ?_⟩
 ·show Nat.gcd p.natAbs q.toNat = 1
  rw [show q.toNat = q.natAbs by omega]
  exact g
 ·show ((q.toNat : Nat) : Int) = q
  omega
theorem g0i {x y : Rat} {a b c d : Nat} (h1 : intBits x.num <= a) (h2 : intBits (x.den : Int) <= b) (h3 : intBits y.num <= c) (h4 : intBits (y.den : Int) <= d) : intBits (x * y).num <= a + c /\ intBits ((x * y).den : Int) <= b + d := by
 rw [<- g0g]
 have ne : (x.den : Int) * (y.den : Int) ≠ 0 := f7n x y
 exact ⟨g4t ne (intBits_mul_le h1 h3), g4u ne (intBits_mul_le h2 h4)⟩
theorem g6u {x y : Rat} {a : Nat} (h1 : intBits x.num <= a) (h2 : intBits (x.den : Int) <= a) (h3 : intBits y.num <= a) (h4 : intBits (y.den : Int) <= a) : intBits (x + y).num <= a + a + 1 /\ intBits ((x + y).den : Int) <= a + a := by
 rw [<- g4s]
 have ne : (x.den : Int) * (y.den : Int) ≠ 0 := f7n x y
 refine ⟨g4t ne ?_, g4u ne (intBits_mul_le h2 h4)⟩
 have := intBits_add_le (intBits_mul_le h1 h4) (intBits_mul_le h3 h2)
 omega
theorem g4d.rts {l : Addr} {H : Hp} {qs : List Addr} {ss : List Rat} (h : g4d l H qs ss) : Rts H qs ss := ⟨h.1, fun i q s e1 e2 => (h.2 i q s e1 e2).2⟩
theorem Rts.same {H H' : Hp} {qs : List Addr} {ss : List Rat} (h : Rts H qs ss) (S : Same H H') : Rts H' qs ss := ⟨h.1, fun i q s e1 e2 => S _ _ (h.2 i q s e1 e2)⟩
theorem Rts.d1r {o : Addr} {H H' : Hp} {qs : List Addr} {ss : List Rat} {C dx : Addr} {fs : List (Str × V)} (h : Rts H qs ss) (ho : H o = some (.ins C dx fs)) (S : a9t o H H') : Rts H' qs ss :=
 ⟨h.1, fun i q s e1 e2 => S _ _ (fun z => by have := h.2 i q s e1 e2; rw [z, ho] at this; cases this) (h.2 i q s e1 e2)⟩
theorem g4d.d1r {l : Addr} {H H' : Hp} {qs : List Addr} {ss : List Rat} (h : g4d l H qs ss) (S : a9t l H H') : g4d l H' qs ss := ⟨h.1, fun i q s e1 e2 => ⟨(h.2 i q s e1 e2).1, S _ _ (h.2 i q s e1 e2).1 (h.2 i q s e1 e2).2⟩⟩
theorem g4d.same {l : Addr} {H H' : Hp} {qs : List Addr} {ss : List Rat} (h : g4d l H qs ss) (S : Same H H') : g4d l H' qs ss := h.d1r fun b o _ e => S b o e
theorem g4d.nil {l : Addr} {H : Hp} : g4d l H [] [] := ⟨rfl, fun i q s e => by simp at e⟩
theorem g4d.snoc {l : Addr} {H : Hp} {qs : List Addr} {ss : List Rat} {q : Addr} {s : Rat} (h : g4d l H qs ss) (hl : q ≠ l) (hq : H q = some (.tup (c7l s))) : g4d l H (qs ++ [q]) (ss ++ [s]) := by
 refine ⟨by rw [List.length_append, List.length_append, h.1]; rfl, fun i q' s' e1 e2 => ?_⟩
 by_cases hi : i < qs.length
 ·rw [List.getElem?_append_left hi] at e1
  rw [List.getElem?_append_left (by rw [<- h.1]; exact hi)] at e2
  exact h.2 i q' s' e1 e2
 ·rw [List.getElem?_append_right (by omega)] at e1
  rw [List.getElem?_append_right (by rw [<- h.1]; omega)] at e2
  rw [<- h.1] at e2
  cases hz : i - qs.length with
  | zero =>
   rw [hz] at e1 e2
   simp at e1 e2
   subst e1 e2
   exact ⟨hl, hq⟩
  | succ n =>
   rw [hz] at e1
   simp at e1
theorem Rts.get {H : Hp} {qs : List Addr} {ss : List Rat} (h : Rts H qs ss) {i : Nat} {v : V} (e : (qs.map V.ref)[i]? = some v) : ∃ q s, v = .ref q /\ ss[i]? = some s /\ H q = some (.tup (c7l s)) := by
 rw [List.getElem?_map] at e
 obtain ⟨q, hq, rfl⟩ := Option.map_eq_some_iff.mp e
 have hi : i < qs.length := (List.getElem?_eq_some_iff.mp hq).1
 have hr : ss[i]? = some (ss[i]'(by rw [<- h.1]; exact hi)) := List.getElem?_eq_getElem _
 exact ⟨q, _, rfl, hr, h.2 i q _ hq hr⟩
theorem Crn.same {H H' : Hp} {ps : List Addr} {cs : List (Int × Rat)} (h : Crn H ps cs) (S : Same H H') : Crn H' ps cs := ⟨h.1, fun i p c e1 e2 => (h.2 i p c e1 e2).elim fun g z => ⟨g, S _ _ z.1, S _ _ z.2⟩⟩
theorem Crn.d1r {o : Addr} {H H' : Hp} {ps : List Addr} {cs : List (Int × Rat)} {C dx : Addr} {fs : List (Str × V)} (h : Crn H ps cs) (ho : H o = some (.ins C dx fs)) (S : a9t o H H') : Crn H' ps cs :=
 ⟨h.1, fun i p c e1 e2 => (h.2 i p c e1 e2).elim fun g z => ⟨g, S _ _ (fun e => by have := z.1; rw [e, ho] at this; cases this) z.1, S _ _ (fun e => by have := z.2; rw [e, ho] at this; cases this) z.2⟩⟩
theorem Crn.get {H : Hp} {ps : List Addr} {cs : List (Int × Rat)} (h : Crn H ps cs) {i : Nat} {v : V} (e : (ps.map V.ref)[i]? = some v) : ∃ p c g, v = .ref p /\ cs[i]? = some c /\ H p = some (.tup [.int c.1, .ref g]) /\ H g = some (.tup (c7l c.2)) := by
 rw [List.getElem?_map] at e
 obtain ⟨p, hp, rfl⟩ := Option.map_eq_some_iff.mp e
 have hi : i < ps.length := (List.getElem?_eq_some_iff.mp hp).1
 have hr : cs[i]? = some (cs[i]'(by rw [<- h.1]; exact hi)) := List.getElem?_eq_getElem _
 obtain ⟨g, h1, h2⟩ := h.2 i p _ hp hr
 exact ⟨p, _, g, rfl, hr, h1, h2⟩
theorem g0j (bs : List Int) (b : Int) : h0s (bs ++ [b]) = (Int.lcm (h0s bs) b : Int) := by
 unfold h0s
 rw [List.foldl_append]
 rfl
theorem i8v {α : Type} {p : List α -> Prop} (h0 : p []) (hs : ∀ l x, p l -> p (l ++ [x])) (l : List α) : p l := by
 have : ∀ l : List α, p l.reverse := fun l => by
  induction l with
  | nil => exact h0
  | cons x l ih => rw [List.reverse_cons]; exact hs _ _ ih
 have z := this l.reverse
 rwa [List.reverse_reverse] at z
theorem h1g {a b : Int} {m n : Nat} (h : ¬ (a = 0 /\ b = 0)) (ha : intBits a <= m) (hb : intBits b <= n) : intBits (Int.lcm a b : Int) <= m + n := by
 refine intBits_le_of_natAbs ?_ (intBits_mul_le ha hb)
 have hp : 0 < Int.gcd a b := by
  rw [Int.gcd_pos_iff]
  omega
 rw [Int.natAbs_natCast, Int.natAbs_mul, <- Int.gcd_mul_lcm]
 exact Nat.le_mul_of_pos_left _ hp
theorem h1h (bs : List Int) : (∀ b ∈ bs, 1 <= b /\ intBits b <= 64) -> 1 <= h0s bs /\ (∀ b ∈ bs, b ∣ h0s bs) /\ intBits (h0s bs) <= 1 + 64 * bs.length := by
 induction bs using i8v with
 | h0 => exact fun _ => ⟨by decide, (fun b hb => by cases hb), by decide⟩
 | hs l x ih =>
  intro h
  have i := ih fun b hb => h b (List.mem_append_left _ hb)
  have hx := h x (List.mem_append_right _ (List.mem_singleton.mpr rfl))
  rw [g0j, List.length_append, List.length_singleton]
  have lp : 0 < Int.lcm (h0s l) x := Int.lcm_pos (by omega) (by omega)
  refine ⟨by omega, fun b hb => ?_, Nat.le_trans (h1g (by omega) i.2.2 hx.2) (by omega)⟩
  rcases List.mem_append.mp hb with e | e
  ·exact Int.dvd_trans (i.2.1 b e) (Int.dvd_lcm_left _ _)
  ·rw [List.mem_singleton.mp e]
   exact Int.dvd_lcm_right _ _
theorem h1i (T : Tx K mg A) : a1o P A.wd K mg base CX0 3 A.a5m A.b6t ["bottoms"] g4e := by
 have g6v : a1o P A.wd K mg base CX0 2 _ _ _ _ := g2o T
 refine T.a9r.ok b0s (fun vs H Q E h => ?_) (fun cdv A' outer s H vs Q E hr h => ?_)
 ·match vs, h with
  | [.ref p], _ => rfl
 ·match vs, h with
  | [.ref p], ⟨bs, hp, O, L, q⟩ =>
  have hu := hr.units
  have g2q : a3g 2 _ := hr.mono (by decide)
  refine ⟨_, (a0n (a1h (i := 1) b0s.nd rfl (Or.inl rfl) a0l)
   (a0n (c4g PassesOwn.never rfl (b5k (pvF 0)) (b2q (i := 2) b0s.nd rfl (Or.inl rfl))
   (a0q (a1h (i := 1) b0s.nd rfl (Or.inl rfl) (a0u g6v g2q (by rfl) T.g6n T.c3p.kp T.d7k .nil a0r (a0g (pvF 1) (a0g (pvF 2) a0i))))))
   (a0q (a1i (pvF 1))))), ?_⟩
  walk_at "rd"
  refine ⟨⟨_, SqL.of hp⟩, ?_⟩
  obtain ⟨Pv, pin, pout⟩ := g1s (fun i σ H' => ∃ (v2 : Option V), σ = [some (.ref p), some (.int (h0s (bs.take i))), v2] /\ H' = H)
  refine f0q (xs := bs.map V.int) Pv (pin _ _ _ ⟨_, rfl, rfl⟩) ?_ ?_ ?_
  ·intro i σ H2 hi hp'
   obtain ⟨v2, rfl, rfl⟩ := pout _ _ _ hp'
   exact SqL.of hp
  ·intro i v σ H2 hv hp'
   obtain ⟨v2, rfl, rfl⟩ := pout _ _ _ hp'
   rw [List.getElem?_map] at hv
   obtain ⟨b, hb, rfl⟩ := Option.map_eq_some_iff.mp hv
   have Ob := O b (List.mem_of_getElem? hb)
   have lk := h1h (bs.take i) fun b hb => O b (List.mem_of_mem_take hb)
   have hl : (bs.take i).length <= 24 := by rw [List.length_take]; omega
   have et : bs.take (i + 1) = bs.take i ++ [b] := by rw [List.take_add_one, hb]; rfl
   walk_at "rd"
   refine ⟨by omega, by omega, pin _ _ _ ⟨some (.int b), ?_, rfl⟩⟩
   rw [et, g0j]
  ·intro σ H2 hp'
   obtain ⟨v2, rfl, rfl⟩ := pout _ _ _ hp'
   rw [List.length_map, List.take_of_length_le (Nat.le_refl _)]
   walk_at "rd"
   exact q
theorem h5b (T : Tx K mg A) : a1o P A.wd K mg base CX0 1 A.f1i A.g2e ["one", "bottom"] h0t := by
 refine T.f4u.ok i0g (fun vs H Q E h => ?_) (fun cdv A' outer s H vs Q E hr h => ?_)
 ·match vs, h with
  | [.ref p, .int S], _ => rfl
 ·match vs, h with
  | [.ref p, .int S], ⟨y, hp, b1, b2, b3, q⟩ =>
  have hu := hr.units
  unfold c7l at hp
  have dp := y.den_pos
  refine ⟨_, (a0q (a1i (a0y a2s (a1r a5o (pvF 0) a0l (fun _ _ => rfl)) (a0y a6o (pvF 1) (a1r a5o (pvF 0) a0l (fun _ _ => rfl)))))), ?_⟩
  walk_at "rd*"
  exact ⟨⟨by omega, by omega⟩, IntMulOk.of_le b1 (intBits_fdiv_le b3) (by decide)⟩
theorem i0p (a : Rat) : a * ((a.den : Int) : Rat) = (a.num : Rat) := by
 have h : ((a.den : Int) : Rat) ≠ 0 := fun e => by
  have := Rat.intCast_inj.mp (e.trans (by rfl : (0 : Rat) = ((0 : Int) : Rat)))
  have := a.den_pos
  omega
 conv => lhs; lhs; rw [<- Rat.num_divInt_den a]
 rw [Rat.divInt_eq_div, Rat.div_def, Rat.mul_assoc, Rat.inv_mul_cancel _ h, Rat.mul_one]
theorem i6h {iv : Rat} {n : Int} (h1 : iv.num = 1) (h2 : (iv.den : Int) = n) (x : Rat) : x * iv * (n : Rat) = x := by
 rw [<- h2, Rat.mul_assoc, i0p, h1]
 exact Rat.mul_one x
theorem h1j (T : Tx K mg A) : a1o P A.wd K mg base CX0 4 A.b1j A.c8l ["corners"] g4f := by
 have i6i : a1o P A.wd K mg base CX0 3 _ _ _ _ := i0m T
 have h1l : a1o P A.wd K mg base CX0 3 _ _ _ _ := i0n T
 refine T.b9o.ok b6h (fun vs H Q E h => ?_) (fun cdv A' outer s H vs Q E hr h => ?_)
 ·match vs, h with
  | [.ref ct], _ => rfl
 ·match vs, h with
  | [.ref ct], ⟨ps, cs, hct, R, O, L1, L12, k⟩ =>
  have hu := hr.units
  have i0q : a3g 3 _ := hr.mono (by decide)
  have g4w : a3g 3 _ := hr.mono (by decide)
  have pl := R.1
  refine ⟨_, (a0n (a1h (i := 1) b6h.nd rfl (Or.inl rfl) (b3v a0i))
   (a0n (c4g PassesOwn.never rfl (g9t (by rfl) T.g2i (a0g (pvF 0) (a0g (a6n j1k (pvF 0) (a5t a0l) b0w) a0i))) (g9r (n := 2) rfl (d5k (b2q (i := 2) b6h.nd rfl (Or.inl rfl)) (d5k (b2q (i := 3) b6h.nd rfl (Or.inl rfl)) g3u)))
   (a0n (a1h (i := 4) b6h.nd rfl (Or.inl rfl) (a0u i6i i0q (by rfl) T.i5l T.g0b.kp T.h0j .nil a0r (a0g (a1r a5o (pvF 3) a0l (fun _ _ => rfl)) (a0g (a0u h1l g4w (by rfl) T.h0k T.d7m.kp T.f6t .nil a0r (a0g (b0o (a0g (g8g f8z a0l) (a0g a0l a0i))) (a0g (a1r a5o (pvF 2) a0l (fun _ _ => rfl)) a0i))) a0i))))
   (a0q (b8o (c2v d4y PySem.F.plainAttrs_list PySem.F.slot_list_append PySem.F.type_list_append c2w (pvF 1) (a0g (a0u h1l g4w (by rfl) T.h0k T.d7m.kp T.f6t .nil a0r (a0g (pvF 4) (a0g (b0o (a0g a0l (a0g (a0y c7n (a1r a5o (pvF 3) a0l (fun _ _ => rfl)) (a1r a5o (pvF 2) a0l (fun _ _ => rfl))) a0i))) a0i))) a0i))))))
   (a0n (b8o (c2v d4y PySem.F.plainAttrs_list PySem.F.slot_list_append PySem.F.type_list_append c2w (pvF 1) (a0g (b0o (a0g a0l (a0g a0l a0i))) a0i)))
   (a0q (a1i (pvF 1)))))), ?_⟩
  walk_at "rd"
  refine ⟨Nat.zero_le _, fun l H1 n1 S1 h1 => ?_⟩
  have j1u := S1 _ _ hct
  walk_at "rd*"
  refine ⟨fun z => ?_, fun c2 H2 n2 S2 h2 => ?_⟩
  ·have := z.1
   rw [show (some (1 : Int)) = some ((1 : Nat) : Int) from rfl, HT.g1h] at this
   omega
  have e2 : d9q (ps.map V.ref) (some 1) none = (ps.drop 1).map V.ref := by
   show f3o (ps.map V.ref) (some ((1 : Nat) : Int)) none = _
   rw [a6p, List.map_drop]
  rw [e2] at h2
  have i6j := S2 _ _ j1u
  have h12 := S2 _ _ h1
  clear j1u h1
  walk_at "rd*"
  obtain ⟨Pv, pin, pout⟩ := g1s (fun i σ H' => ∃ (v2 v3 v4 : Option V) (qs : List Addr) (ss : List Rat), σ = [some (.ref ct), some (.ref l), v2, v3, v4] /\ Same H H' /\ H' c2 = some (.tup ((ps.drop 1).map V.ref)) /\ H' l = some (.lst (qs.map V.ref)) /\ g4d l H' qs ss /\ ss.length = i /\ (∀ s ∈ ss, intBits s.num <= 60 /\ intBits (s.den : Int) <= 60) /\ ∀ j s, ss[j]? = some s -> SlR cs j s)
  refine g3w (xs := ps.map V.ref) (ys := (ps.drop 1).map V.ref) Pv (pin _ _ _ ⟨_, _, _, [], [], rfl, S1.trans S2, h2, h12, .nil, rfl, (fun s hs => by cases hs), (fun j s e => by simp at e)⟩) ?_ ?_ ?_
  ·intro i σ H3 hp
   obtain ⟨v2, v3, v4, qs, ss, rfl, S3, h3, hl3, R3, L3, B3, V3⟩ := pout _ _ _ hp
   exact ⟨SqT.of (S3 _ _ hct), SqT.of h3⟩
  ·intro i x y σ H3 p H4 hx hy hp np S4 h4
   obtain ⟨v2, v3, v4, qs, ss, rfl, S3, h3, hl3, R3, L3, B3, V3⟩ := pout _ _ _ hp
   obtain ⟨pc, c, g, rfl, hc, hpc, hg⟩ := R.get hx
   have hy' : (ps.map V.ref)[i + 1]? = some y := by
    rw [List.map_drop, List.getElem?_drop] at hy
    rwa [Nat.add_comm] at hy
   obtain ⟨pd, d, gd, rfl, hd, hpd, hgd⟩ := R.get hy'
   have Oc := O.1 c (List.mem_of_getElem? hc)
   have Od := O.1 d (List.mem_of_getElem? hd)
   have lt := O.2 i c d hc hd
   have S04 := S3.trans S4
   have hpc4 := S04 _ _ hpc
   have hpd4 := S04 _ _ hpd
   clear i6j h12 h2
   walk_at "rd*"
   refine fun m H5 n5 S5 h5 => ?_
   have S05 := S04.trans S5
   have hpc5 := S05 _ _ hpc
   clear hpc4
   walk_at "rd*"
   refine ⟨-1, c.2, ⟨h5, S05 _ _ hg, by decide, by decide, by omega, by omega⟩, ?_⟩
   rintro _ H6 ⟨t6, rfl, n6, S6, h6⟩
   have S06 := S05.trans S6
   have m1 := g0i (x := -1) (y := c.2) (a := 1) (b := 1) (by decide) (by decide) Oc.2.2.1 Oc.2.2.2
   walk_at "rd"
   refine ⟨d.2, -1 * c.2, ⟨S06 _ _ hgd, h6, by omega, by omega, by omega, by omega⟩, ?_⟩
   rintro _ H7 ⟨t7, rfl, n7, S7, h7⟩
   have S07 := S06.trans S7
   have m2 := g6u (x := d.2) (y := -1 * c.2) (a := 11) (by omega) (by omega) (by omega) (by omega)
   have hpc7 := S07 _ _ hpc
   have hpd7 := S07 _ _ hpd
   have hl7 := S7 _ _ (S6 _ _ (S5 _ _ (S4 _ _ hl3)))
   clear hpd4 hpc5 h5 h4
   walk_at "rd*"
   refine fun u H8 n8 S8 h8 => ?_
   obtain ⟨iv, in1, in2⟩ := h7y (p := 1) (q := d.1 - c.1) (by omega) (by rw [Int.gcd_one_left])
   have h8' : H8 u = some (.tup (c7l iv)) := by rw [h8, <- in1, <- in2]; rfl
   have b1 : intBits iv.num <= 1 := by rw [in1]; decide
   have b2 : intBits (iv.den : Int) <= 20 := by rw [in2]; exact intBits_le_iff.mpr (Nat.lt_of_le_of_lt (by omega : (d.1 - c.1).natAbs <= 200000) (by decide))
   have m3 := g0i (x := d.2 + -1 * c.2) (y := iv) m2.1 m2.2 b1 b2
   walk_at "rd"
   refine ⟨d.2 + -1 * c.2, iv, ⟨S8 _ _ h7, h8', by omega, by omega, by omega, by omega⟩, ?_⟩
   rintro _ H9 ⟨t9, rfl, n9, S9, h9⟩
   have S79 := S8.trans S9
   have hl9 := S79 _ _ hl7
   have tl : t9 ≠ l := fun e => by rw [e, S8 _ _ hl7] at n9; cases n9
   have ql := R3.1
   have hc2l : c2 ≠ l := fun e => by rw [e, hl3] at h3; cases h3
   clear hpc7 hpd7 h8
   walk_at "rd*"
   refine ⟨by rw [sizeLine_eq]; have := (List.getElem?_eq_some_iff.mp hc).1; omega, ?_⟩
   rintro _ H10 ⟨rfl, B10, h10⟩
   have S39 : Same H3 H9 := S4.trans (S5.trans (S6.trans (S7.trans S79)))
   refine pin _ _ _ ⟨_, _, _, qs ++ [t9], ss ++ [(d.2 + -1 * c.2) * iv], rfl, (S3.trans S39).step n1 B10, B10 _ _ hc2l (S39 _ _ h3), by rw [h10, List.map_append]; rfl, ((R3.same S39).snoc tl h9).d1r B10, by rw [List.length_append, L3]; rfl, fun s hs => ?_, fun j s e => ?_⟩
   ·rcases List.mem_append.mp hs with z | z
    ·exact B3 s z
    ·rw [List.mem_singleton.mp z]
     omega
   ·rcases Nat.lt_or_ge j ss.length with hj | hj
    ·rw [List.getElem?_append_left hj] at e
     exact V3 j s e
    ·rw [List.getElem?_append_right hj] at e
     have hj0 : j - ss.length = 0 := by
      rcases Nat.eq_zero_or_pos (j - ss.length) with z | z
      ·exact z
      ·rw [List.getElem?_eq_none (by rw [List.length_singleton]; omega)] at e
       cases e
     rw [hj0] at e
     cases e
     have ji : j = i := by omega
     subst ji
     intro c' d' hc' hd'
     rw [hc] at hc'
     rw [hd] at hd'
     cases hc'
     cases hd'
     rw [i6h in1 in2]
     rw [Rat.sub_eq_add_neg, Rat.neg_mul, Rat.one_mul]
  ·intro σ H3 hp
   obtain ⟨v2, v3, v4, qs, ss, rfl, S3, h3, hl3, R3, L3, B3, V3⟩ := pout _ _ _ hp
   have ql := R3.1
   rw [List.length_map, List.length_map, List.length_drop] at L3
   clear i6j h12 h2
   walk_at "rd*"
   refine fun u H4 n4 S4 h4 => ?_
   have hl4 := S4 _ _ hl3
   have ul : u ≠ l := fun e => by rw [e, hl3] at n4; cases n4
   have h4' : H4 u = some (.tup (c7l 0)) := h4
   walk_at "rd*"
   refine ⟨by rw [sizeLine_eq]; omega, ?_⟩
   rintro _ H5 ⟨rfl, B5, h5⟩
   walk_at "rd"
   refine k l H5 (qs ++ [u]) (ss ++ [0]) n1 ((S3.trans S4).step n1 B5) (by rw [h5, List.map_append]; rfl) (((R3.same S4).snoc ul h4').d1r B5).rts (by rw [List.length_append, List.length_singleton]; omega) (fun s hs => ?_) (fun j s e => ?_) ?_
   ·rcases List.mem_append.mp hs with z | z
    ·exact B3 s z
    ·rw [List.mem_singleton.mp z]
     exact ⟨by decide, by decide⟩
   ·rcases Nat.lt_or_ge j ss.length with hj | hj
    ·rw [List.getElem?_append_left hj] at e
     exact V3 j s e
    ·intro c' d' hc' hd'
     have := (List.getElem?_eq_some_iff.mp hd').1
     omega
   ·rw [List.getElem?_append_right (by omega), show cs.length - 1 - ss.length = 0 by omega]
    rfl
theorem f7o (ns ms : List Int) : (h3d ns ms).length = max ns.length ms.length := by unfold h3d; simp
theorem g4x {ns ms : List Int} {i : Nat} (h : i < max ns.length ms.length) : (h3d ns ms).getD i 0 = ns.getD i 0 + ms.getD i 0 := by
 unfold h3d
 rw [List.getD_eq_getElem?_getD, List.getElem?_map, List.getElem?_range h]
 rfl
theorem i0r (ns ms : List Int) : i8u ns ms = h3d ns ms := by
 apply List.ext_getElem?
 intro i
 unfold i8u h3d
 rw [List.getElem?_map]
 by_cases h1 : i < min ns.length ms.length
 ·rw [List.append_assoc, List.getElem?_append_left (by simp; omega), List.getElem?_map, List.getElem?_range h1, List.getElem?_range (by omega)]
 ·rw [List.append_assoc, List.getElem?_append_right (by simp; omega), List.length_map, List.length_range]
  by_cases h2 : i < max ns.length ms.length
  ·rw [List.getElem?_range h2]
   show _ = some (ns.getD i 0 + ms.getD i 0)
   by_cases h3 : ns.length <= ms.length
   ·rw [Nat.min_eq_left h3, List.drop_of_length_le (Nat.le_refl _), List.nil_append, List.getElem?_drop, List.getD_eq_getElem?_getD, List.getD_eq_getElem?_getD, List.getElem?_eq_none (l := ns) (by omega), show ns.length + (i - ns.length) = i by omega, List.getElem?_eq_getElem (by omega)]
    simp
   ·rw [Nat.min_eq_right (by omega), List.drop_of_length_le (l := ms) (Nat.le_refl _), List.append_nil, List.getElem?_drop, List.getD_eq_getElem?_getD, List.getD_eq_getElem?_getD, List.getElem?_eq_none (l := ms) (by omega), show ms.length + (i - ms.length) = i by omega, List.getElem?_eq_getElem (by omega)]
    simp
  ·rw [List.getElem?_eq_none (by simp; omega), List.getElem?_eq_none (by simp; omega)]
   rfl
theorem g4y (T : Tx K mg A) : a1o P A.wd K mg base CX0 1 A.a8y A.c4m ["one", "other"] i5z := by
 refine T.b2h.ok c4j (fun vs H Q E h => ?_) (fun cdv A' outer s H vs Q E hr h => ?_)
 ·match vs, h with
  | [.ref p, .ref q], _ => rfl
 ·match vs, h with
  | [.ref p, .ref q], ⟨ns, ms, hp, hq, hl1, hl2, k⟩ =>
  have hu := hr.units
  refine ⟨_, (a0n (a1h (i := 2) c4j.nd rfl (Or.inl rfl) (a1t (g9j rfl) (by rfl) T.h0n boot_min (a0g (a1t a3q (by rfl) T.b6w boot_len (a0g (pvF 0) a0i)) (a0g (a1t a3q (by rfl) T.b6w boot_len (a0g (pvF 1) a0i)) a0i))))
   (a0n (g1q (i := 3) c4j.nd rfl rfl (c2s (by rfl) T.c2m (a0g (pvF 2) a0i)) (fun _ _ _ _ _ => (a0y a1n (a1r a5o (pvF 1) (pvF 0) (fun _ _ => rfl)) (a1r a5o (pvF 2) (pvF 0) (fun _ _ => rfl)))) (d9g (sc := a0h a8t) (N := ["one", "other", "shared", "both"]) rfl rfl (by decide +kernel)) rfl)
   (a0q (a1i (a0y a1n (a0y a1n (pvF 3) (a6n g5v (pvF 0) (a5t (pvF 2)) b0w)) (a6n g5v (pvF 1) (a5t (pvF 2)) b0w)))))), ?_⟩
  walk_at "rd*"
  refine ⟨by omega, by omega, fun D H2 n2 S2 h2 => ?_⟩
  have hmn : (min (ns.length : Int) (ms.length : Int)).toNat = min ns.length ms.length := by omega
  rw [hmn]
  refine d6q (fun i => .int (ns.getD i 0 + ms.getD i 0)) n2 S2 h2 (by rw [sizeLine_eq]; omega) ?_ ?_
  ·intro i H' Q' hi S' q'
   have hp' := S' _ _ hp
   have hq' := S' _ _ hq
   have e1 := f5y (ns := ns) (i := i) (by omega)
   have e2 := f5y (ns := ms) (i := i) (by omega)
   walk_at "rd*"
  intro H3 S3 h3
  have e3 : (List.range (min ns.length ms.length)).map (fun i => V.int (ns.getD i 0 + ms.getD i 0)) = ((List.range (min ns.length ms.length)).map fun i => ns.getD i 0 + ms.getD i 0).map V.int := by
   rw [List.map_map]
   rfl
  rw [e3] at h3
  have hp3 := S3 _ _ hp
  have hq3 := S3 _ _ hq
  walk_at "rd*"
  intro c H4 n4 S4 h4
  rw [show min (ns.length : Int) (ms.length : Int) = ((min ns.length ms.length : Nat) : Int) by omega, b8q, a6p] at h4
  have h34 := S4 _ _ h3
  walk_at "rd*"
  refine ⟨by rw [sizeLine_eq]; simp; omega, fun d H5 n5 S5 h5 => ?_⟩
  have hq5 := S5 _ _ (S4 _ _ hq3)
  walk_at "rd*"
  intro e H6 n6 S6 h6
  rw [show min (ns.length : Int) (ms.length : Int) = ((min ns.length ms.length : Nat) : Int) by omega, b8q, a6p] at h6
  have h56 := S6 _ _ h5
  walk_at "rd*"
  refine ⟨by rw [sizeLine_eq]; simp; omega, fun f H7 n7 S7 h7 => ?_⟩
  have S07 : Same H H6 := S3.trans (S4.trans (S5.trans S6))
  refine k _ _ ⟨f, rfl, S07.free n7, S07.trans S7, ?_⟩
  rw [h7, <- i0r]
  unfold i8u
  simp only [List.map_append]
theorem b8m (ns : List Int) (b : Int) (i : Nat) : (ns.map (· * b)).getD i 0 = ns.getD i 0 * b := by
 rw [List.getD_eq_getElem?_getD, List.getD_eq_getElem?_getD, List.getElem?_map]
 cases ns[i]? with
 | none => exact (Int.zero_mul b).symm
 | some x => rfl
theorem f7p (T : Tx K mg A) : a1o P A.wd K mg base CX0 1 A.b1h A.c7u ["row", "by"] h0u := by
 refine T.a9o.ok f9s (fun vs H Q E h => ?_) (fun cdv A' outer s H vs Q E hr h => ?_)
 ·match vs, h with
  | [.ref p, .int b], _ => rfl
 ·match vs, h with
  | [.ref p, .int b], ⟨ns, hp, hb, hl, k⟩ =>
  have hu := hr.units
  refine ⟨_, (a0q (a1i (c4h (b5k (pvF 0)) (fun _ _ _ _ _ => (a0y a2s (pvF 0) (pvF 2))) (d9g (sc := a0h b0z) (N := ["row", "by"]) rfl rfl (by decide +kernel)) rfl))), ?_⟩
  walk_at "rd"
  refine ⟨⟨_, SqL.of hp⟩, fun D H2 n2 S2 h2 => ?_⟩
  refine f9i (fun v => match v with | .int c => .int (c * b) | v => v) n2 S2 h2 (SqL.of hp) (by rw [List.length_map, sizeLine_eq]; omega) ?_ ?_
  ·intro i x H' Q' hx S' q'
   rw [List.getElem?_map] at hx
   obtain ⟨c, hc, rfl⟩ := Option.map_eq_some_iff.mp hx
   walk_at "rd"
   exact ⟨hb c (List.mem_of_getElem? hc), q'⟩
  intro H3 S3 h3
  refine k _ _ ⟨D, rfl, n2, S3, ?_⟩
  rw [h3, List.map_map, List.map_map]
  rfl
theorem b7q (ns : List Int) (st n : Nat) : (g0d ns st n).length = ns.length - st := by unfold g0d; simp
theorem d9y {ns : List Int} {st n i : Nat} (h : i < ns.length - st) : (g0d ns st n).getD i 0 = if n <= st + i then ns.getD (st + i - n) 0 else 0 := by
 unfold g0d
 rw [List.getD_eq_getElem?_getD, List.getElem?_map, List.getElem?_range h]
 rfl
theorem g4z {ns : List Int} {st n : Nat} {x : Int} (h : x ∈ g0d ns st n) : x ∈ ns \/ x = 0 := by
 unfold g0d at h
 obtain ⟨i, hi, rfl⟩ := List.mem_map.mp h
 split
 ·by_cases h2 : st + i - n < ns.length
  ·exact .inl (getD_mem h2)
  ·rw [List.getD_eq_getElem?_getD, List.getElem?_eq_none (by omega)]
   exact .inr rfl
 ·exact .inr rfl
theorem d7s (T : Tx K mg A) : a1o P A.wd K mg base CX0 1 A.b8w A.d6v ["known", "start", "many"] g0e := by
 refine T.b9h.ok g6h (fun vs H Q E h => ?_) (fun cdv A' outer s H vs Q E hr h => ?_)
 ·match vs, h with
  | [.ref k, .int st, .int n], _ => rfl
 ·match vs, h with
  | [.ref k, .int st, .int n], ⟨ns, s, m, hk, e1, e2, hs, hl, q⟩ =>
  subst e1 e2
  have hu := hr.units
  refine ⟨_, (a0q (a1i (c4h (g5r (by rfl) T.c2m (a0g (pvF 1) (a0g (a1t a3q (by rfl) T.b6w boot_len (a0g (pvF 0) a0i)) a0i))) (fun _ _ _ _ _ => (d9p (a1v h3v (pvF 0) (pvF 3) (a3p _)) (a1r a5o (pvF 1) (a0y c7n (pvF 0) (pvF 3)) (fun _ _ => rfl)) a0l)) (d9g (sc := a0h b8t) (N := ["known", "start", "many"]) rfl rfl (by decide +kernel)) rfl))), ?_⟩
  walk_at "rd*"
  refine ⟨by omega, fun D H2 n2 S2 h2 => ?_⟩
  have hmn : ((ns.length : Int) - (s : Int)).toNat = ns.length - s := by omega
  rw [hmn]
  refine d6q (fun i => .int (if m <= s + i then ns.getD (s + i - m) 0 else 0)) n2 S2 h2 (by rw [sizeLine_eq]; omega) ?_ ?_
  ·intro i H' Q' hi S' q'
   have hk' := S' _ _ hk
   walk_at "rd*"
   split
   ·rename_i h
    rw [if_pos (by omega)] at q'
    refine ⟨_, ?_, q'⟩
    rw [show (s : Int) + (i : Int) - (m : Int) = ((s + i - m : Nat) : Int) by omega]
    exact f5y (by omega)
   ·rename_i h
    rw [if_neg (by omega)] at q'
    exact q'
  intro H3 S3 h3
  refine q _ _ ⟨D, rfl, n2, S3, ?_⟩
  rw [h3]
  unfold g0d
  rw [List.map_map]
  rfl
theorem f7q (T : Tx K mg A) : a1o P A.wd K mg base CX0 1 A.b8y A.d6w ["known", "many"] h7j := by
 refine T.b6l.ok g6i (fun vs H Q E h => ?_) (fun cdv A' outer s H vs Q E hr h => ?_)
 ·match vs, h with
  | [.ref k, .int n], _ => rfl
 ·match vs, h with
  | [.ref k, .int n], ⟨ns, m, hk, e1, hl, q⟩ =>
  subst e1
  have hu := hr.units
  refine ⟨_, (a0q (a1i (a1y d5j (by rfl) T.c8z boot_tuple (a0g (a6n g5v (pvF 0) (a5t (a1t (f9g rfl) (by rfl) T.g6p boot_max (a0g a0l (a0g (a0y c7n (a1t a3q (by rfl) T.b6w boot_len (a0g (pvF 0) a0i)) (pvF 1)) a0i)))) b0w) a0i)))), ?_⟩
  walk_at "rd*"
  intro l H1 n1 S1 h1
  rw [show max 0 ((ns.length : Int) - (m : Int)) = ((ns.length - m : Nat) : Int) by omega, b8q, a6p] at h1
  walk_at "rd*"
  intro t H2 n2 S2 h2
  exact q _ _ ⟨t, rfl, S1.free n2, S1.trans S2, h2⟩
theorem d9z (n : Int) (m : Nat) : (h0v n m).length = m + 1 := by unfold h0v; simp
theorem f7r {n : Int} {m i : Nat} (h : i < m + 1) : (h0v n m).getD i 0 = n ^ i := by
 unfold h0v
 rw [List.getD_eq_getElem?_getD, List.getElem?_map, List.getElem?_range h]
 rfl
theorem d1o {n : Int} (h : intBits n <= 10) : ∀ j : Nat, intBits (n ^ j) <= 1 + 10 * j
 | 0 => by rw [Int.pow_zero]; decide
 | j + 1 => by
  rw [Int.pow_succ]
  exact Nat.le_trans (intBits_mul_le (d1o h j) h) (by omega)
theorem i6k (T : Tx K mg A) : a1o P A.wd K mg base CX0 1 A.b1i A.c7y ["number", "most"] i6a := by
 refine T.b5h.ok c7q (fun vs H Q E h => ?_) (fun cdv A' outer s H vs Q E hr h => ?_)
 ·match vs, h with
  | [.int n, .int t], _ => rfl
 ·match vs, h with
  | [.int n, .int t], ⟨m, e, hm, hb, k⟩ =>
  subst e
  have hu := hr.units
  refine ⟨_, (a0n (a1h (i := 2) c7q.nd rfl (Or.inl rfl) (b3v (a0g a0l a0i)))
   (a0n (c4g PassesOwn.never rfl (c2s (by rfl) T.c2m (a0g (pvF 1) a0i)) (b2q (i := 3) c7q.nd rfl (Or.inl rfl))
   (a0q (b8o (c2v d4y PySem.F.plainAttrs_list PySem.F.slot_list_append PySem.F.type_list_append c2w (pvF 2) (a0g (a0y a2s (a1r a5o (pvF 2) (pvF 3) (fun _ _ => rfl)) (pvF 0)) a0i)))))
   (a0q (a1i (pvF 2))))), ?_⟩
  walk_at "rd"
  refine ⟨by decide, ?_⟩
  intro l H1 n1 S1 h1
  walk_at "rd*"
  refine ⟨by omega, by omega, ?_⟩
  rw [Int.toNat_natCast]
  obtain ⟨Pv, pin, pout⟩ := g1s (fun i σ H' => ∃ v3 : Option V, σ = [some (.int n), some (.int m), some (.ref l), v3] /\ Same H H' /\ H' l = some (.lst ((h0v n i).map V.int)))
  refine d6n (lo := 0) Pv (pin _ _ _ ⟨_, rfl, S1, by rw [h1]; show _ = some (HO.lst [V.int (n ^ 0)]); rw [Int.pow_zero]⟩) ?_ ?_
  ·intro i σ H2 hi hp
   obtain ⟨v3, rfl, S2, h2⟩ := pout _ _ _ hp
   have e1 := f5y (ns := h0v n i) (i := i) (by rw [d9z]; omega)
   rw [f7r (by omega)] at e1
   have pl := d9z n i
   clear h1 hp
   walk_at "rd*"
   refine ⟨IntMulOk.of_right (Nat.le_trans hb (by decide)), by rw [sizeLine_eq]; omega, ?_⟩
   rintro _ H3 ⟨rfl, B3, h3⟩
   refine pin _ _ _ ⟨_, rfl, S2.step n1 B3, ?_⟩
   rw [h3]
   unfold h0v
   rw [List.range_succ (n := i + 1), List.map_append, List.map_append]
   show _ = some (HO.lst (_ ++ [V.int (n ^ (i + 1))]))
   rw [Int.pow_succ]
  ·intro σ H2 hp
   obtain ⟨v3, rfl, S2, h2⟩ := pout _ _ _ hp
   walk_at "rd"
   exact k _ _ ⟨l, rfl, n1, S2, h2⟩
theorem h5c (p q : Int) (t : Nat) : (h3e p q t).length = t + 1 := by unfold h3e; simp
theorem h5d {p q : Int} {t i : Nat} (h : i < t + 1) : (h3e p q t).getD i 0 = h7k p q t i := by
 unfold h3e
 rw [List.getD_eq_getElem?_getD, List.getElem?_map, List.getElem?_range h]
 rfl
theorem IsE.same {C : Addr} {H H' : Hp} {o : Addr} {p q : Int} {n t : Nat} (h : IsE C H o p q n t) (S : Same H H') : IsE C H' o p q n t := by
 obtain ⟨dx, gt, fa, h1, h2, h3⟩ := h
 exact ⟨dx, gt, fa, S _ _ h1, S _ _ h2, S _ _ h3⟩
theorem h5e (T : Tx K mg A) : a1o P A.wd K mg base CX0 2 A.a9h A.c7z ["self", "gain", "many", "turns"] (h0w A.a2i) := by
 have f2n : a1o P A.wd K mg base CX0 1 _ _ _ _ := i6k T
 have a2t := T.a2t
 have a2j := T.a2j
 have a2k := T.a2k
 have a1u := T.a1u
 have a1q := T.a1q
 have a0s := T.a0s
 refine T.c5g.ok c7r (fun vs H Q E h => ?_) (fun cdv A' outer s H vs Q E hr h => ?_)
 ·match vs, h with
  | [.ref o, .ref gt, .int n, .int t], _ => rfl
 ·match vs, h with
  | [.ref o, .ref gt, .int n, .int t], ⟨dx, m, tt, p, q, e1, e2, ht, bp, bq, hg, ho, k⟩ =>
  subst e1 e2
  have hu := hr.units
  have d8t : a3g 1 _ := hr.mono (by decide)
  have gto : gt ≠ o := fun e => by rw [e, ho] at hg; cases hg
  refine ⟨_, (a0n (b2t (pvF 0) (pvF 1) rfl)
   (a0n (b2t (pvF 0) (pvF 2) rfl)
   (a0n (b2t (pvF 0) (pvF 3) rfl)
   (a0n (a1h (i := 4) c7r.nd rfl (Or.inr rfl) (a0u f2n d8t (by rfl) T.f1o T.b5h.kp T.c4z .nil a0r (a0g (a1r a5o (pvF 1) a0l (fun _ _ => rfl)) (a0g (pvF 3) a0i))))
   (a0n (a1h (i := 5) c7r.nd rfl (Or.inr rfl) (a0u f2n d8t (by rfl) T.f1o T.b5h.kp T.c4z .nil a0r (a0g (a1r a5o (pvF 1) a0l (fun _ _ => rfl)) (a0g (pvF 3) a0i))))
   (a0n (b2t (pvF 0) (a1y d5j (by rfl) T.c8z boot_tuple (a0g (c4h (c2s (by rfl) T.c2m (a0g (a0y a1n (pvF 3) a0l) a0i)) (fun _ _ _ _ _ => (a0y a2s (a1r a5o (pvF 5) (pvF 0) (fun _ _ => rfl)) (a1r a5o (pvF 6) (a0y c7n (pvF 4) (pvF 0)) (fun _ _ => rfl)))) (d9g (sc := a0h b1g) (N := ["self", "gain", "many", "turns", "tops", "bottoms"]) rfl rfl (by decide +kernel)) rfl) a0i)) rfl)
   (a0q (b2t (pvF 0) (a1r a5o (pvF 5) (pvF 3) (fun _ _ => rfl)) rfl)))))))), ?_⟩
  walk_at "rd*"
  intro H1 B1 h1
  walk_at "rd*"
  intro H2 B2 h2
  walk_at "rd*"
  intro H3 B3 h3
  have hg3 := B3 _ _ gto (B2 _ _ gto (B1 _ _ gto hg))
  walk_at "rd*"
  refine ⟨tt, rfl, ht, ?_⟩
  rintro _ H4 ⟨l4, rfl, n4, S4, h4⟩
  have hg4 := S4 _ _ hg3
  walk_at "rd*"
  refine ⟨tt, rfl, ht, ?_⟩
  rintro _ H5 ⟨l5, rfl, n5, S5, h5⟩
  have h45 := S5 _ _ h4
  have h35 := S5 _ _ (S4 _ _ h3)
  have pl1 := d9z p tt
  have pl2 := d9z q tt
  clear h4 hg4 hg3
  walk_at "rd*"
  refine ⟨by omega, by omega, fun D H6 n6 S6 h6 => ?_⟩
  rw [show ((tt : Int) + 1).toNat = tt + 1 by omega]
  refine d6q (fun i => .int (h7k p q tt i)) n6 S6 h6 (by rw [sizeLine_eq]; omega) ?_ ?_
  ·intro i H' Q' hi S' q'
   have h4' := S' _ _ h45
   have h5' := S' _ _ h5
   have e1 := f5y (ns := h0v p tt) (i := i) (by omega)
   have e2 := f5y (ns := h0v q tt) (i := tt - i) (by omega)
   rw [f7r (by omega)] at e1 e2
   rw [show ((tt - i : Nat) : Int) = (tt : Int) - (i : Int) by omega] at e2
   clear h45 h35 h5 hg ho h1 h2 h3 pl1 pl2
   walk_at "rd*"
   exact ⟨IntMulOk.of_le (d1o bp i) (d1o bq (tt - i)) (by omega), q'⟩
  intro H7 S7 h7
  have e7 : (List.range (tt + 1)).map (fun i => V.int (h7k p q tt i)) = (h3e p q tt).map V.int := by
   unfold h3e
   rw [List.map_map]
   rfl
  rw [e7] at h7
  walk_at "rd*"
  intro fa H8 n8 S8 h8
  have h38 := S8 _ _ (S7 _ _ h35)
  have h58 := S8 _ _ (S7 _ _ h5)
  have e2 := f5y (ns := h0v q tt) (i := tt) (by omega)
  rw [f7r (by omega)] at e2
  clear h45 h35 h5 h7 e7
  walk_at "rd*"
  intro H9 B9 h9
  have l5o : l5 ≠ o := fun e => by
   rw [e, h38] at h58
   cases h58
  have h59 := B9 _ _ l5o h58
  clear h38 h58
  walk_at "rd*"
  intro H10 B10 h10
  have S38 : Same H3 H8 := S4.trans (S5.trans (S7.trans S8))
  have fao : fa ≠ o := fun e => by
   have := S38 _ _ h3
   rw [e] at h8
   rw [h8] at this
   cases this
  refine k fa H10 (fun b u hb e => B10 _ _ hb (B9 _ _ hb (S38 _ _ (B3 _ _ hb (B2 _ _ hb (B1 _ _ hb e)))))) ?_ h10 (B10 _ _ fao (B9 _ _ fao h8))
  cases hn : H fa with
  | none => rfl
  | some u =>
   exfalso
   have := (S4.trans (S5.trans S7)) _ _ (B3 _ _ fao (B2 _ _ fao (B1 _ _ fao hn)))
   rw [this] at n8
   cases n8
theorem h1n (T : Tx K mg A) : a1o P A.wd K mg base CX0 1 A.a5w A.b7h ["self"] (g4g A.a2i) := by
 have a2t := T.a2t
 have a2j := T.a2j
 have a2k := T.a2k
 have a1u := T.a1u
 have a1q := T.a1q
 have a0s := T.a0s
 refine T.c1k.ok f6p (fun vs H Q E h => ?_) (fun cdv A' outer s H vs Q E hr h => ?_)
 ·match vs, h with
  | [.ref o], _ => rfl
 ·match vs, h with
  | [.ref o], ⟨p, q, n, t, ⟨dx, gt, fa, ho, hg, hf⟩, k⟩ =>
  have hu := hr.units
  unfold ecF at ho
  refine ⟨_, (a0q (a1i (a1z (pvF 0) rfl))), ?_⟩
  walk_at "rd*"
theorem h1o (T : Tx K mg A) : a1o P A.wd K mg base CX0 1 A.a7p A.c4s ["self"] (g4h A.a2i) := by
 have a2t := T.a2t
 have a2j := T.a2j
 have a2k := T.a2k
 have a1u := T.a1u
 have a1q := T.a1q
 have a0s := T.a0s
 refine T.c1m.ok f6q (fun vs H Q E h => ?_) (fun cdv A' outer s H vs Q E hr h => ?_)
 ·match vs, h with
  | [.ref o], _ => rfl
 ·match vs, h with
  | [.ref o], ⟨p, q, n, t, ⟨dx, gt, fa, ho, hg, hf⟩, hn, k⟩ =>
  have hu := hr.units
  unfold ecF at ho
  refine ⟨_, (a0q (a1i (a0y a2s (a1z (pvF 0) rfl) (a1z (pvF 0) rfl)))), ?_⟩
  walk_at "rd*"
  exact ⟨IntMulOk.of_left (intBits_le_64 (by omega) (by omega)), by rw [<- Int.natCast_mul]; exact k⟩
theorem g2r (kn : List Int) (st n : Nat) (p q : Int) (t : Nat) : ∀ j, (h3f kn st n p q t j).length <= kn.length - st
 | 0 => Nat.zero_le _
 | j + 1 => by
  have := g2r kn st n p q t j
  rw [h3f, f7o, List.length_map, b7q]
  omega
theorem h5f (kn : List Int) (st n : Nat) (p q : Int) (t j : Nat) : (h3f kn st n p q t (j + 1)).length = kn.length - st := by
 have := g2r kn st n p q t j
 rw [h3f, f7o, List.length_map, b7q]
 omega
theorem g0k {p q : Int} (bp : intBits p <= 10) (bq : intBits q <= 10) {t j : Nat} (ht : t <= 16) (hj : j <= t) : intBits (h7k p q t j) <= 170 :=
 Nat.le_trans (intBits_mul_le (d1o bp j) (d1o bq (t - j))) (by omega)
theorem i0s (T : Tx K mg A) : a1o P A.wd K mg base CX0 2 A.a4o A.b2w ["self", "state", "tops", "bottom"] (h7l A.a2i) := by
 have c9p : a1o P A.wd K mg base CX0 1 _ _ _ _ := d7s T
 have b9y : a1o P A.wd K mg base CX0 1 _ _ _ _ := f7q T
 have c9q : a1o P A.wd K mg base CX0 1 _ _ _ _ := g4y T
 have b5i : a1o P A.wd K mg base CX0 1 _ _ _ _ := f7p T
 have g0l : a1o P A.wd K mg base CX0 1 _ _ _ _ := h1o T
 have a2t := T.a2t
 have a2j := T.a2j
 have a2k := T.a2k
 have a1u := T.a1u
 have a1q := T.a1q
 have a0s := T.a0s
 refine T.b5q.ok a6y (fun vs H Q E h => ?_) (fun cdv A' outer s H vs Q E hr h => ?_)
 ·match vs, h with
  | [.ref o, .ref st, .ref x, .int _], _ => rfl
 ·match vs, h with
  | [.ref o, .ref st, .ref x, .int bt], ⟨p, q, n, t, zs, xs, is, hz, hx, lz, lx, hn, ht, bp, bq, by0, k⟩ =>
  have hu := hr.units
  have c3z : a3g 1 _ := hr.mono (by decide)
  have b5j : a3g 1 _ := hr.mono (by decide)
  have c5u : a3g 1 _ := hr.mono (by decide)
  have b2o : a3g 1 _ := hr.mono (by decide)
  have f7s : a3g 1 _ := hr.mono (by decide)
  have is0 := is
  obtain ⟨dx, gt, fa, ho, hg, hf⟩ := is
  unfold ecF at ho
  refine ⟨_, (a0n (a1h (i := 4) a6y.nd rfl (Or.inl rfl) (a0y a1n (a1y a8n (by rfl) T.c1s boot_list (a0g (pvF 1) a0i)) (pvF 2)))
   (a0n (a1h (i := 5) a6y.nd rfl (Or.inl rfl) (b3v a0i))
   (a0n (c4g PassesOwn.never rfl (c2s (by rfl) T.c2m (a0g (a0y a1n (a1z (pvF 0) rfl) a0l) a0i)) (b2q (i := 6) a6y.nd rfl (Or.inl rfl))
   (a0n (a1h (i := 7) a6y.nd rfl (Or.inl rfl) (a0u c9p c3z (by rfl) T.f1n T.b9h.kp T.c8q .nil a0r (a0g (pvF 4) (a0g (a1t a3q (by rfl) T.b6w boot_len (a0g (pvF 1) a0i)) (a0g (a0y a2s (pvF 6) (a1z (pvF 0) rfl)) a0i)))))
   (a0q (a1h (i := 5) a6y.nd rfl (Or.inl rfl) (a0u c9q c5u (by rfl) T.d8q T.b2h.kp T.c0v .nil a0r (a0g (pvF 5) (a0g (a0u b5i b2o (by rfl) T.c4v T.a9o.kp T.b5g .nil a0r (a0g (pvF 7) (a0g (a1r a5o (a1z (pvF 0) rfl) (pvF 6) (fun _ _ => rfl)) a0i))) a0i)))))))
   (a0q (a1i (b0o (a0g (pvF 5) (a0g (a0u b9y b5j (by rfl) T.d5r T.b6l.kp T.c3s .nil a0r (a0g (pvF 4) (a0g (a0k (pvF 0) T.a2t T.f7h g0l f7s T.c8s .nil a0r) a0i))) a0i)))))))), ?_⟩
  walk_at "rd*"
  intro l1 H1 n1 S1 h1
  have hx1 := S1 _ _ hx
  walk_at "rd*"
  refine ⟨by rw [sizeLine_eq]; omega, ?_⟩
  intro kn H2 n2 S2 h2
  rw [<- List.map_append] at h2
  have S02 : Same H H2 := S1.trans S2
  clear h1 hx1
  walk_at "rd*"
  refine ⟨Nat.zero_le _, ?_⟩
  intro o0 H3 n3 S3 h3
  have S03 := S02.trans S3
  have h23 := S3 _ _ h2
  have ho3 := S03 _ _ ho
  clear h2
  walk_at "rd*"
  refine ⟨by omega, by omega, ?_⟩
  rw [show ((t : Int) + 1).toNat = t + 1 by omega]
  obtain ⟨Pv, pin, pout⟩ := g1s (fun j σ H' => ∃ (ou : Addr) (v6 v7 : Option V), σ = [some (.ref o), some (.ref st), some (.ref x), some (.int bt), some (.ref kn), some (.ref ou), v6, v7] /\ Same H2 H' /\ H' kn = some (.lst ((zs ++ xs).map V.int)) /\ H2 ou = none /\ H' ou = some (.lst ((h3f (zs ++ xs) zs.length n p q t j).map V.int)))
  refine d6n (lo := 0) Pv (pin _ _ _ ⟨o0, _, _, rfl, S3, h23, n3, h3⟩) ?_ ?_
  ·intro j σ H4 hj hp
   obtain ⟨ou, v6, v7, rfl, S4, hk4, nou, hou⟩ := pout _ _ _ hp
   have S04 := S02.trans S4
   have ho4 := S04 _ _ ho
   have hz4 := S04 _ _ hz
   have hf4 := S04 _ _ hf
   have e1 := f5y (ns := h3e p q t) (i := j) (by rw [h5c]; omega)
   rw [h5d (by omega)] at e1
   have fb := g0k bp bq (t := t) (j := j) ht (by omega)
   clear h23 ho3 h3 hp ho hz hf hx hg
   walk_at "rd*"
   refine ⟨IntMulOk.of_left (intBits_le_64 (by omega) (by omega)), zs ++ xs, rfl, zs.length, rfl, j * n, (Int.natCast_mul j n).symm, by simp, by simp; omega, ?_⟩
   rintro _ H5 ⟨hd, rfl, n5, S5, h5⟩
   have ho5 := S5 _ _ ho4
   have hf5 := S5 _ _ hf4
   have dl := b7q (zs ++ xs) zs.length (j * n)
   clear ho4 hf4 hz4
   walk_at "rd*"
   refine ⟨_, rfl, ?_, by rw [dl]; simp; omega, ?_⟩
   ·intro y hy
    rcases g4z hy with h | h
    ·exact IntMulOk.of_le (by0 y h) fb (by decide)
    ·rw [h]; exact IntMulOk.of_left (by decide)
   rintro _ H6 ⟨l6, rfl, n6, S6, h6⟩
   have hou6 := S6 _ _ (S5 _ _ hou)
   have el := g2r (zs ++ xs) zs.length n p q t j
   rw [List.length_append] at el
   walk_at "rd*"
   refine ⟨_, rfl, _, rfl, by omega, by rw [List.length_map, dl]; simp; omega, ?_⟩
   rintro _ H7 ⟨ou', rfl, n7, S7, h7⟩
   have S47 := S5.trans (S6.trans S7)
   exact pin _ _ _ ⟨ou', _, _, rfl, S4.trans S47, S47 _ _ hk4, (S4.trans (S5.trans S6)).free n7, h7⟩
  ·intro σ H4 hp
   obtain ⟨ou, v6, v7, rfl, S4, hk4, nou, hou⟩ := pout _ _ _ hp
   have S04 := S02.trans S4
   have ho4 := S04 _ _ ho
   have is4 := is0.same S04
   clear h23 ho3 h3 hp ho hz hf hx hg is0
   walk_at "rd*"
   refine ⟨p, q, n, t, is4, hn, zs ++ xs, rfl, n * t, rfl, by simp; omega, ?_⟩
   rintro _ H5 ⟨s2, rfl, n5, S5, h5⟩
   walk_at "rd*"
   intro r H6 n6 S6 h6
   exact k r ou s2 H6 (S04.trans (S5.trans S6)) ((S04.trans S5).free n6) (S02.free nou) h6 (S6 _ _ (S5 _ _ hou)) (S6 _ _ h5)
theorem g5a {kn : List Int} {st n : Nat} {p q : Int} {t i : Nat} (h : i < kn.length - st) : ∀ j, (h3f kn st n p q t j).getD i 0 = g4i (fun m => (g0d kn st (m * n)).getD i 0) p q t j
 | 0 => rfl
 | j + 1 => by
  rw [h3f, g4x (by rw [List.length_map, b7q]; omega), b8m, g5a h j, g4i]
theorem g0m {X : Nat -> Int} {p q : Int} {t : Nat} (bp : intBits p <= 10) (bq : intBits q <= 10) (ht : t <= 16) (hX : ∀ m, intBits (X m) <= 64) : ∀ j, j <= t + 1 -> intBits (g4i X p q t j) <= 240 + j
 | 0, _ => by rw [g4i]; exact Nat.le_trans (by decide : intBits 0 <= 1) (by omega)
 | j + 1, h => by
  rw [g4i]
  have h1 := g0m bp bq ht hX j (by omega)
  have h2 : intBits (X j * h7k p q t j) <= 240 + j := Nat.le_trans (intBits_mul_le (hX j) (g0k bp bq ht (by omega))) (by omega)
  exact Nat.le_trans (intBits_add_le h1 h2) (by omega)
theorem g4j.tps {l : Addr} {H : Hp} {qs : List Addr} {vs : List (List V)} (h : g4j l H qs vs) : Tps H qs vs := ⟨h.1, fun i q s e1 e2 => (h.2 i q s e1 e2).2⟩
theorem Tps.same {H H' : Hp} {qs : List Addr} {vs : List (List V)} (h : Tps H qs vs) (S : Same H H') : Tps H' qs vs := ⟨h.1, fun i q s e1 e2 => S _ _ (h.2 i q s e1 e2)⟩
theorem Tps.d1r {o : Addr} {H H' : Hp} {qs : List Addr} {vs : List (List V)} {C dx : Addr} {fs : List (Str × V)} (h : Tps H qs vs) (ho : H o = some (.ins C dx fs)) (S : a9t o H H') : Tps H' qs vs :=
 ⟨h.1, fun i q s e1 e2 => S _ _ (fun z => by have := h.2 i q s e1 e2; rw [z, ho] at this; cases this) (h.2 i q s e1 e2)⟩
theorem g4j.d1r {l : Addr} {H H' : Hp} {qs : List Addr} {vs : List (List V)} (h : g4j l H qs vs) (S : a9t l H H') : g4j l H' qs vs := ⟨h.1, fun i q s e1 e2 => ⟨(h.2 i q s e1 e2).1, S _ _ (h.2 i q s e1 e2).1 (h.2 i q s e1 e2).2⟩⟩
theorem g4j.same {l : Addr} {H H' : Hp} {qs : List Addr} {vs : List (List V)} (h : g4j l H qs vs) (S : Same H H') : g4j l H' qs vs := h.d1r fun b o _ e => S b o e
theorem g4j.nil {l : Addr} {H : Hp} : g4j l H [] [] := ⟨rfl, fun i q s e => by simp at e⟩
theorem g4j.snoc {l : Addr} {H : Hp} {qs : List Addr} {vs : List (List V)} {q : Addr} {v : List V} (h : g4j l H qs vs) (hl : q ≠ l) (hq : H q = some (.tup v)) : g4j l H (qs ++ [q]) (vs ++ [v]) := by
 refine ⟨by rw [List.length_append, List.length_append, h.1]; rfl, fun i q' s' e1 e2 => ?_⟩
 by_cases hi : i < qs.length
 ·rw [List.getElem?_append_left hi] at e1
  rw [List.getElem?_append_left (by rw [<- h.1]; exact hi)] at e2
  exact h.2 i q' s' e1 e2
 ·rw [List.getElem?_append_right (by omega)] at e1
  rw [List.getElem?_append_right (by rw [<- h.1]; omega)] at e2
  rw [<- h.1] at e2
  cases hz : i - qs.length with
  | zero =>
   rw [hz] at e1 e2
   simp at e1 e2
   subst e1 e2
   exact ⟨hl, hq⟩
  | succ n =>
   rw [hz] at e1
   simp at e1
theorem g0n (T : Tx K mg A) : a1o P A.wd K mg base CX0 5 A.a7q A.c4t ["self", "corners"] (g4k A.a1p) := by
 have g2s : a1o P A.wd K mg base CX0 4 _ _ _ _ := h1j T
 have f2o : a1o P A.wd K mg base CX0 3 _ _ _ _ := h1i T
 have h7z : a1o P A.wd K mg base CX0 1 _ _ _ _ := h5b T
 have a1s := T.a1s
 have a0z := T.a0z
 have a1g := T.a1g
 have a1j := T.a1j
 refine T.c1p.ok d5o (fun vs H Q E h => ?_) (fun cdv A' outer s H vs Q E hr h => ?_)
 ·match vs, h with
  | [.ref o, .ref l], _ => rfl
 ·match vs, h with
  | [.ref o, .ref l], ⟨dx, ps, cs, ho, hl, R, O, L1, L12, k⟩ =>
  have hu := hr.units
  have g0o : a3g 4 _ := hr.mono (by decide)
  have d9k : a3g 3 _ := hr.mono (by decide)
  have h1p : a3g 1 _ := hr.mono (by decide)
  have pl := R.1
  have lo : l ≠ o := fun e => by rw [e, ho] at hl; cases hl
  refine ⟨_, (a0n (b2t (pvF 0) (a1y d5j (by rfl) T.c8z boot_tuple (a0g (pvF 1) a0i)) rfl)
   (a0n (a1h (i := 2) d5o.nd rfl (Or.inl rfl) (a0u g2s g0o (by rfl) T.g2g T.b9o.kp T.d3n .nil a0r (a0g (a1z (pvF 0) rfl) a0i)))
   (a0n (b2t (pvF 0) (a0u f2o d9k (by rfl) T.f1q T.a9r.kp T.b9n .nil a0r (a0g (a0y a1n (c4h (b5k (pvF 1)) (fun _ _ _ _ _ => (a1r a5o (a1r a5o (pvF 0) a0l (fun _ _ => rfl)) a0l (fun _ _ => rfl))) (d9g (sc := a0h a5u) (N := ["self", "corners", "slopes"]) rfl rfl (by decide +kernel)) rfl) (c4h (b5k (pvF 2)) (fun _ _ _ _ _ => (a1r a5o (pvF 0) a0l (fun _ _ => rfl))) (d9g (sc := a0h a5u) (N := ["self", "corners", "slopes"]) rfl rfl (by decide +kernel)) rfl)) a0i)) rfl)
   (a0q (b2t (pvF 0) (a1y d5j (by rfl) T.c8z boot_tuple (a0g (h4n (g9t (by rfl) T.g2i (a0g (a1z (pvF 0) rfl) (a0g (pvF 2) a0i))) (fun _ _ _ _ _ => (b0o (a0g (a1r a5o (pvF 0) a0l (fun _ _ => rfl)) (a0g (a0u h7z h1p (by rfl) T.h7d T.f4u.kp T.g4c .nil a0r (a0g (a1r a5o (pvF 0) a0l (fun _ _ => rfl)) (a0g (g3y (K := K) (by rfl) (pvF 2) (by rfl)) a0i))) (a0g (a0u h7z h1p (by rfl) T.h7d T.f4u.kp T.g4c .nil a0r (a0g (pvF 1) (a0g (g3y (K := K) (by rfl) (pvF 2) (by rfl)) a0i))) a0i))))) (h6s (sc := a0h a5u) (N := ["self", "corners", "slopes"]) rfl rfl (by decide +kernel)) rfl) a0i)) rfl))))), ?_⟩
  walk_at "rd*"
  refine fun ct H1 n1 S1 h1 => ?_
  have ho1 := S1 _ _ ho
  walk_at "rd*"
  refine fun H2 B2 h2 => ?_
  have cto : ct ≠ o := fun e => by rw [e, ho] at n1; cases n1
  have i6j := B2 _ _ cto h1
  have hl2 := B2 _ _ lo (S1 _ _ hl)
  have R2 := (R.same S1).d1r ho1 B2
  clear ho1 h1
  walk_at "rd*"
  refine ⟨ps, rfl, cs, R2, O, L1, L12, fun l3 H3 qs ss n3 S3 h3 R3 L3 B3 V3 Z3 => ?_⟩
  have hl3 := S3 _ _ hl2
  have R23 := R2.same S3
  have ho3 := S3 _ _ h2
  have i7k := S3 _ _ i6j
  have ql := R3.1
  clear hl2 i6j h2
  try walk_at "rd"
  refine ⟨⟨_, SqL.of hl3⟩, fun D4 H4 n4 S4 h4 => ?_⟩
  refine d9u (cs.map fun c => V.int (c.2.den : Nat)) (by rw [List.length_map, List.length_map, pl]) n4 S4 h4 (SqL.of hl3) (by rw [List.length_map, pl, sizeLine_eq]; omega) ?_ ?_
  ·intro i x z H' Q' hx hz S' q'
   obtain ⟨p, c, g, rfl, hc, hp, hg⟩ := R23.get hx
   rw [List.getElem?_map, hc] at hz
   cases hz
   have hp' := S' _ _ hp
   have hg' := S' _ _ hg
   unfold c7l at hg'
   clear ho3 i7k hl3 h3 h4 hp hg
   walk_at "rd*"
  intro H5 S5 h5
  have h35 := S5 _ _ h3
  try walk_at "rd"
  refine ⟨⟨_, SqL.of h35⟩, fun D6 H6 n6 S6 h6 => ?_⟩
  have R35 := R3.same S5
  refine d9u (ss.map fun s => V.int (s.den : Nat)) (by rw [List.length_map, List.length_map, ql]) n6 S6 h6 (SqL.of h35) (by rw [List.length_map, ql, sizeLine_eq]; omega) ?_ ?_
  ·intro i x z H' Q' hx hz S' q'
   obtain ⟨p, c, rfl, hc, hp⟩ := R35.get hx
   rw [List.getElem?_map, hc] at hz
   cases hz
   have hp' := S' _ _ hp
   unfold c7l at hp'
   clear ho3 i7k hl3 h3 h4 hp h35 h5 h6
   walk_at "rd*"
  intro H7 S7 h7
  have h57 := S7 _ _ h5
  clear h4 h6 h35
  walk_at "rd*"
  refine ⟨by rw [sizeLine_eq]; omega, fun b8 H8 n8 S8 h8 => ?_⟩
  have e8 : cs.map (fun c => V.int (c.2.den : Nat)) ++ ss.map (fun s => V.int (s.den : Nat)) = ((cs.map fun c => (c.2.den : Int)) ++ ss.map fun s => (s.den : Int)).map V.int := by
   rw [List.map_append, List.map_map, List.map_map]
   rfl
  rw [e8] at h8
  have S38 : Same H3 H8 := S5.trans (S7.trans S8)
  have ho8 := S38 _ _ ho3
  have j1v := S38 _ _ i7k
  have i7l := S38 _ _ h3
  have R8 := R23.same S38
  have Q8 := R3.same S38
  have bk : ∀ b ∈ (cs.map fun c => (c.2.den : Int)) ++ ss.map fun s => (s.den : Int), 1 <= b /\ intBits b <= 64 := fun b hb => by
   rcases List.mem_append.mp hb with z | z
   ·obtain ⟨c, hc, rfl⟩ := List.mem_map.mp z
    have := O.1 c hc
    have := c.2.den_pos
    omega
   ·obtain ⟨s, hs, rfl⟩ := List.mem_map.mp z
    have := B3 s hs
    have := s.den_pos
    omega
  have lk := h1h _ bk
  have dv := lk.2.1
  have ll : ((cs.map fun c => (c.2.den : Int)) ++ ss.map fun s => (s.den : Int)).length = cs.length + ss.length := by simp
  clear h57 h7 h5 ho3 i7k hl3
  walk_at "rd"
  refine ⟨_, h8, bk, by omega, ?_⟩
  rw [ll] at lk
  have hSw : SwOk cs ss (h0s ((cs.map fun c => (c.2.den : Int)) ++ ss.map fun s => (s.den : Int))) := ⟨L3, V3, Z3, lk.1, by omega, fun c hc => dv _ (List.mem_append_left _ (List.mem_map.mpr ⟨c, hc, rfl⟩)), fun s hs => dv _ (List.mem_append_right _ (List.mem_map.mpr ⟨s, hs, rfl⟩)), fun s hs => (B3 s hs).1⟩
  clear dv
  generalize h0s ((cs.map fun c => (c.2.den : Int)) ++ ss.map fun s => (s.den : Int)) = S at lk hSw
  clear h8
  walk_at "rd*"
  refine fun H9 B9 h9 => ?_
  have i8w := B9 _ _ cto j1v
  have l3o : l3 ≠ o := fun e => by rw [e, ho8] at i7l; cases i7l
  have j1w := B9 _ _ l3o i7l
  have R9 := R8.d1r ho8 B9
  have Q9 := Q8.d1r ho8 B9
  clear ho8 j1v i7l
  walk_at "rd*"
  refine fun D10 H10 n10 S10 h10 => ?_
  refine g5z (xs := ps.map V.ref) (ys := qs.map V.ref) (fun i zs H' => Same H9 H' /\ H' D10 = some (.lst zs) /\ zs.length = i /\ ∃ us, zs = us.map V.ref /\ g4j D10 H' us (((List.zipWith (lnOf S) cs ss).map lnV).take i)) ⟨S10, h10, rfl, [], rfl, .nil⟩ (by rw [List.length_map, pl, sizeLine_eq]; omega) ?_ ?_ ?_
  ·intro i zs H' hi ⟨S', h', zl, _⟩
   exact ⟨h', SqT.of (S' _ _ i8w), SqL.of (S' _ _ j1w), zl⟩
  ·intro i x y zs H' p H'' hx hy ⟨S', h', zl, us, ez, TN⟩ np S'' h''
   obtain ⟨pc, c, g, rfl, hc, hpc, hg⟩ := R9.get hx
   obtain ⟨ps', s', rfl, hs', hps⟩ := Q9.get hy
   have Oc := O.1 c (List.mem_of_getElem? hc)
   have Bs := B3 s' (List.mem_of_getElem? hs')
   have SS := S'.trans S''
   have hpc' := SS _ _ hpc
   have hg' := SS _ _ hg
   have ho' := SS _ _ h9
   have hD' := S'' _ _ h'
   clear i8w j1w h9 h10 hpc hg h' h''
   walk_at "rd*"
   refine ⟨c.2, rfl, by omega, by omega, by omega, s', SS _ _ hps, by omega, by omega, by omega, by decide, fun u H3' n3' S3' h3' => ⟨S3' _ _ hD', fun H4' B4' h4' => ⟨(SS.trans S3').step n10 B4', h4', by rw [List.length_append, zl]; rfl, us ++ [u], by rw [ez, List.map_append]; rfl, ?_⟩⟩⟩
   have uD : u ≠ D10 := fun e => by rw [e, hD'] at n3'; cases n3'
   have et : ((List.zipWith (lnOf S) cs ss).map lnV).take (i + 1) = ((List.zipWith (lnOf S) cs ss).map lnV).take i ++ [lnV (lnOf S c s')] := by
    rw [List.take_add_one, List.getElem?_map, List.getElem?_zipWith, hc, hs']
    rfl
   rw [et]
   exact (((TN.same S'').same S3').snoc uD h3').d1r B4'
  intro zs H11 ⟨S11, h11, zl, us, ez, TN⟩
  have j1x := S11 _ _ h9
  have i6l := S11 _ _ i8w
  clear h10
  walk_at "rd*"
  refine fun ln H12 n12 S12 h12 => ?_
  have j1y := S12 _ _ j1x
  have i8x := S12 _ _ i6l
  clear h11 j1x i6l
  walk_at "rd*"
  refine fun H13 B13 h13 => ?_
  have el : ((List.zipWith (lnOf S) cs ss).map lnV).take (min (ps.map V.ref).length (qs.map V.ref).length) = (List.zipWith (lnOf S) cs ss).map lnV := List.take_of_length_le (by rw [List.length_map, List.length_zipWith, List.length_map, List.length_map, pl, ql]; exact Nat.le_refl _)
  rw [el] at TN
  have lno : ln ≠ o := fun e => by rw [e, j1y] at h12; cases h12
  exact k ct ln S ss us H13 (fun b u hb e => B13 _ _ hb (S12 _ _ (S11 _ _ (B9 _ _ hb (S38 _ _ (S3 _ _ (B2 _ _ hb (S1 _ _ e)))))))) n1 h13 (B13 _ _ cto i8x) (B13 _ _ lno h12) ((TN.tps.same S12).d1r j1y B13) hSw
theorem h5g (T : Tx K mg A) : a1o P A.wd K mg base CX0 1 A.a8z A.c7v ["self", "gain"] (h0x A.a4g) := by
 have a3t := T.a3t
 have a2w := T.a2w
 refine T.c4w.ok f9t (fun vs H Q E h => ?_) (fun cdv A' outer s H vs Q E hr h => ?_)
 ·match vs, h with
  | [.ref o, .ref gt], _ => rfl
 ·match vs, h with
  | [.ref o, .ref gt], ⟨dx, ho, k⟩ =>
  have hu := hr.units
  refine ⟨_, (a0q (b2t (pvF 0) (pvF 1) rfl)), ?_⟩
  walk_at "rd*"
  intro H1 B1 h1
  exact k H1 B1 h1
theorem h1q (T : Tx K mg A) : a1o P A.wd K mg base CX0 1 A.a7n A.c4q ["self", "many"] (g4l A.a2g) := by
 have a2m := T.a2m
 have a3k := T.a3k
 refine T.c1i.ok f6o (fun vs H Q E h => ?_) (fun cdv A' outer s H vs Q E hr h => ?_)
 ·match vs, h with
  | [.ref o, .int n], _ => rfl
 ·match vs, h with
  | [.ref o, .int n], ⟨dx, ho, k⟩ =>
  have hu := hr.units
  refine ⟨_, (a0q (b2t (pvF 0) (pvF 1) rfl)), ?_⟩
  walk_at "rd*"
  intro H1 B1 h1
  exact k H1 B1 h1
theorem h5h (T : Tx K mg A) : a1o P A.wd K mg base CX0 1 A.a9j A.c8h ["self", "gain", "many"] (h0y A.a3s) := by
 have a3u := T.a3u
 have a2y := T.a2y
 have a2z := T.a2z
 refine T.c5i.ok f9u (fun vs H Q E h => ?_) (fun cdv A' outer s H vs Q E hr h => ?_)
 ·match vs, h with
  | [.ref o, .ref gt, .int n], _ => rfl
 ·match vs, h with
  | [.ref o, .ref gt, .int n], ⟨dx, ho, k⟩ =>
  have hu := hr.units
  refine ⟨_, (a0n (b2t (pvF 0) (pvF 1) rfl)
   (a0q (b2t (pvF 0) (pvF 2) rfl))), ?_⟩
  walk_at "rd*"
  intro H1 B1 h1
  walk_at "rd*"
  intro H2 B2 h2
  exact k H2 (fun b u hb e => B2 _ _ hb (B1 _ _ hb e)) h2
theorem h5i (T : Tx K mg A) : a1o P A.wd K mg base CX0 1 A.a9l A.c8j ["self", "gain", "many"] (h0z A.a3v) := by
 have a4k := T.a4k
 have a4i := T.a4i
 have a4j := T.a4j
 refine T.c5k.ok f9v (fun vs H Q E h => ?_) (fun cdv A' outer s H vs Q E hr h => ?_)
 ·match vs, h with
  | [.ref o, .ref gt, .int n], _ => rfl
 ·match vs, h with
  | [.ref o, .ref gt, .int n], ⟨dx, ho, k⟩ =>
  have hu := hr.units
  refine ⟨_, (a0n (b2t (pvF 0) (pvF 1) rfl)
   (a0q (b2t (pvF 0) (pvF 2) rfl))), ?_⟩
  walk_at "rd*"
  intro H1 B1 h1
  walk_at "rd*"
  intro H2 B2 h2
  exact k H2 (fun b u hb e => B2 _ _ hb (B1 _ _ hb e)) h2
theorem h3g.same {H H' : Hp} {fs : List (Str × V)} {d : Dt} (h : h3g H fs d) (S : Same H H') : h3g H' fs d := by
 cases d with
 | gain y => obtain ⟨g, e, h1⟩ := h; exact ⟨g, e, S _ _ h1⟩
 | delay n => exact h
 | echo y n t => obtain ⟨g, fa, e, h1, h2⟩ := h; exact ⟨g, fa, e, S _ _ h1, S _ _ h2⟩
 | back y n => obtain ⟨g, e, h1⟩ := h; exact ⟨g, e, S _ _ h1⟩
 | hall y n => obtain ⟨g, e, h1⟩ := h; exact ⟨g, e, S _ _ h1⟩
 | swell cs => obtain ⟨ct, ln, S', ss, us, ps, e, h1, h2, h3, h4, h5⟩ := h; exact ⟨ct, ln, S', ss, us, ps, e, S _ _ h1, S _ _ h2, h3.same S, h4, h5.same S⟩
theorem IsP.same {A : Ad} {H H' : Hp} {o : Addr} {d : Dt} (h : IsP A H o d) (S : Same H H') : IsP A H' o d := by
 obtain ⟨dx, fs, h1, h2⟩ := h
 exact ⟨dx, fs, S _ _ h1, h2.same S⟩
theorem f8h.crn {cs : List (Int × Rat)} (h : f8h cs) : h0r cs := ⟨fun c hc => ⟨(h.1 c hc).1, Int.le_trans (h.1 c hc).2.1 (by decide), (h.1 c hc).2.2.b.1, (h.1 c hc).2.2.b.2⟩, h.2.1⟩
theorem h5j {x : Rat} {a : Nat} (h : intBits x.num <= a) : intBits (Rat.abs x).num <= a := by
 rw [g2m]
 exact intBits_natAbs_le h
theorem h1r {us : List Addr} {i : Nat} {u : Addr} (h : us[i]? = some u) : atI (us.map V.ref) (i : Int) = some (.ref u) := d2n (by rw [List.getElem?_map, h]; rfl)
theorem i0j.same {C : Addr} {H H' : Hp} {o : Addr} {ps : List Addr} {cs : List (Int × Rat)} {ss : List Rat} {S : Int} (h : i0j C H o ps cs ss S) (Z : Same H H') : i0j C H' o ps cs ss S := by
 obtain ⟨dx, ct, ln, us, h1, h2, h3, h4, h5⟩ := h
 exact ⟨dx, ct, ln, us, Z _ _ h1, Z _ _ h2, Z _ _ h3, h4.same Z, h5.same Z⟩
theorem g5b {H : Hp} {us : List Addr} {cs : List (Int × Rat)} {ss : List Rat} {S : Int} (h : Tps H us ((List.zipWith (lnOf S) cs ss).map lnV)) (hl : ss.length = cs.length) {i : Nat} (hi : i < cs.length) :
  ∃ u c s, us[i]? = some u /\ cs[i]? = some c /\ ss[i]? = some s /\ H u = some (.tup (lnV (lnOf S c s))) := by
 have ul : us.length = cs.length := by
  rw [h.1, List.length_map, List.length_zipWith, hl, Nat.min_self]
 have h1 : us[i]? = some us[i] := List.getElem?_eq_getElem (by omega)
 have h2 : cs[i]? = some cs[i] := List.getElem?_eq_getElem (by omega)
 have h3 : ss[i]? = some ss[i] := List.getElem?_eq_getElem (by omega)
 refine ⟨_, _, _, h1, h2, h3, h.2 i _ _ h1 ?_⟩
 rw [List.getElem?_map, List.getElem?_zipWith, h2, h3]
 rfl
theorem i0t (T : Tx K mg A) : a1o P A.wd K mg base CX0 1 A.a4v A.b6u ["self", "at"] (h7m A.a1p) := by
 have a1s := T.a1s
 have a0z := T.a0z
 have a1g := T.a1g
 have a1j := T.a1j
 refine T.b3n.ok b6q (fun vs H Q E h => ?_) (fun cdv A' outer s H vs Q E hr h => ?_)
 ·match vs, h with
  | [.ref o, .int t], _ => rfl
 ·match vs, h with
  | [.ref o, .int t], ⟨ps, cs, ss, S, ⟨dx, ct, ln, us, ho, hct, hln, TP, R⟩, O, L1, L12, k⟩ =>
  have hu := hr.units
  have ul : us.length = cs.length := by
   rw [TP.1, List.length_map, List.length_zipWith, O.1, Nat.min_self]
  unfold swF at ho
  refine ⟨_, (a0n (a1h (i := 2) b6q.nd rfl (Or.inl rfl) a0l)
   (a0n (f0r PassesOwn.never (pw_and (a1v of_lt (a0y a1n (pvF 2) a0l) (a1t a3q (by rfl) T.b6w boot_len (a0g (a1z (pvF 0) rfl) a0i)) (a3p _)) (pw_and1 (a1v of_le (a1r a5o (a1r a5o (a1z (pvF 0) rfl) (a0y a1n (pvF 2) a0l) (fun _ _ => rfl)) a0l (fun _ _ => rfl)) (pvF 1) (a3p _)))).pt
   (a0q (h9l (i := 2) b6q.nd rfl (Or.inl rfl) a0l h9k)))
   (a0q (a1i (a1r a5o (a1z (pvF 0) rfl) (pvF 2) (fun _ _ => rfl)))))), ?_⟩
  walk_at "rd"
  refine f0s (fun m σ H1 => ∃ j : Nat, σ = [some (.ref o), some (.int t), some (.int j)] /\ H1 = H /\ j < cs.length /\ m = cs.length - j /\ (j = 0 \/ ∀ c, cs[j]? = some c -> c.1 <= t)) _
   ⟨0, rfl, rfl, by omega, rfl, .inl rfl⟩ ?_
  rintro m σ H1 ⟨j, rfl, rfl, hj, rfl, hjt⟩
  have fin : (∀ d, cs[j + 1]? = some d -> t < d.1) -> ∃ v, atI (List.map V.ref us) (j : Int) = some v /\ Q v H1 := fun hd => by
   obtain ⟨u, c, s', e1, e2, e3, e4⟩ := g5b TP O.1 hj
   exact ⟨_, h1r e1, k j u c s' e2 e3 e4 (hjt.imp id fun z => z c e2) hd⟩
  walk_at "rd*"
  split
  ·obtain ⟨u, c, s', e1, e2, e3, e4⟩ := g5b TP O.1 (i := j + 1) (by omega)
   have e5 := h1r e1
   rw [Int.natCast_add] at e5
   refine ⟨_, e5, ?_⟩
   unfold lnV lnOf at e4
   walk_at "rd*"
   split
   ·rename_i hc
    exact ⟨_, by omega, j + 1, by omega, by omega, rfl, .inr fun c' h' => by rw [e2] at h'; cases h'; exact hc⟩
   ·rename_i hc
    exact fin fun d hd => by
     rw [e2] at hd
     cases hd
     omega
  ·rename_i hc
   refine fin fun d hd => ?_
   have := (List.getElem?_eq_some_iff.mp hd).1
   omega
theorem h1s (T : Tx K mg A) : a1o P A.wd K mg base CX0 2 A.a4w A.b6v ["self", "at"] (g4m A.a1p) := by
 have f2p : a1o P A.wd K mg base CX0 1 _ _ _ _ := i0t T
 have a1s := T.a1s
 have a0z := T.a0z
 have a1g := T.a1g
 have a1j := T.a1j
 refine T.b3o.ok c6u (fun vs H Q E h => ?_) (fun cdv A' outer s H vs Q E hr h => ?_)
 ·match vs, h with
  | [.ref o, .int t], _ => rfl
 ·match vs, h with
  | [.ref o, .int t], ⟨ps, cs, ss, S, I, O, CO, L1, L12, t0, t1, k⟩ =>
  have hu := hr.units
  have d9l : a3g 1 _ := hr.mono (by decide)
  obtain ⟨dx, ct, ln, us, ho, _⟩ := id I
  unfold swF at ho
  refine ⟨_, (a0n (a1h (i := 2) c6u.nd rfl (Or.inl rfl) (a5g (pvF 0) T.a1s T.d9i f2p d9l T.b9p .nil a0r (a0g (pvF 1) a0i)))
   (a0q (a1i (a0y a1n (a1r a5o (pvF 2) a0l (fun _ _ => rfl)) (a0y a2s (a1r a5o (pvF 2) a0l (fun _ _ => rfl)) (a1t (f9g rfl) (by rfl) T.g6p boot_max (a0g a0l (a0g (a0y c7n (pvF 1) (a1r a5o (pvF 2) a0l (fun _ _ => rfl))) a0i)))))))), ?_⟩
  walk_at "rd*"
  refine ⟨ps, cs, ss, S, I, O, L1, L12, fun m u c s' e1 e2 e3 e4 e5 => ?_⟩
  unfold lnV lnOf at e3
  have Oc := CO.1 c (List.mem_of_getElem? e1)
  obtain ⟨_, _, _, _, O5, _, _, O8⟩ := O
  have b1 : intBits (c.2.num * S.fdiv c.2.den) <= 10 + 1600 := intBits_mul_le Oc.2.2.1 (intBits_fdiv_le O5)
  have b2 : intBits (s'.num * S.fdiv s'.den) <= 60 + 1600 := intBits_mul_le (O8 s' (List.mem_of_getElem? e2)) (intBits_fdiv_le O5)
  have b3 : intBits (max 0 (t - c.1)) <= 64 := intBits_le_64 (by omega) (by omega)
  have b4 := intBits_mul_le b2 b3
  have b5 := intBits_add_le b1 b4
  have q := k m c s' ⟨e1, e2, e4, e5⟩ (Nat.le_trans b5 (by decide))
  unfold c7k at q
  walk_at "rd*"
  exact IntMulOk.of_le b2 b3 (by decide)
theorem g6w (T : Tx K mg A) : a1o P A.wd K mg base CX0 1 A.a5h A.b5n ["self"] (g0f A.a1p) := by
 have a1s := T.a1s
 have a0z := T.a0z
 have a1g := T.a1g
 have a1j := T.a1j
 refine T.b7j.ok f3q (fun vs H Q E h => ?_) (fun cdv A' outer s H vs Q E hr h => ?_)
 ·match vs, h with
  | [.ref o], _ => rfl
 ·match vs, h with
  | [.ref o], ⟨ps, cs, ss, S, ⟨dx, ct, ln, us, ho, _⟩, k⟩ =>
  have hu := hr.units
  unfold swF at ho
  refine ⟨_, (a0q (a1i (a1z (pvF 0) rfl))), ?_⟩
  walk_at "rd*"
theorem g6x (T : Tx K mg A) : a1o P A.wd K mg base CX0 1 A.a5z A.c1z ["self"] f2j := by
 refine T.b7l.ok f3r (fun vs H Q E h => ?_) (fun cdv A' outer s H vs Q E hr h => ?_)
 ·match vs, h with
  | [.ref o], _ => rfl
 ·match vs, h with
  | [.ref o], k =>
  have hu := hr.units
  refine ⟨_, (a0q (a1i a0l)), ?_⟩
  walk_at "rd*"
  exact k
theorem h5k (T : Tx K mg A) : a1o P A.wd K mg base CX0 1 A.a1k A.c4o ["self"] d3q := by
 refine T.c0y.ok f6l (fun vs H Q E h => ?_) (fun cdv A' outer s H vs Q E hr h => ?_)
 ·match vs, h with
  | [.ref o], _ => rfl
 ·match vs, h with
  | [.ref o], k =>
  have hu := hr.units
  refine ⟨_, (a0q (a1i (b0o a0i))), ?_⟩
  walk_at "rd"
  refine ⟨Nat.zero_le _, fun t H1 n1 S1 h1 => k _ _ ⟨t, rfl, n1, S1, h1⟩⟩
theorem IsG.same {C : Addr} {H H' : Hp} {o : Addr} {p q : Int} (h : IsG C H o p q) (S : Same H H') : IsG C H' o p q := by
 obtain ⟨dx, gt, h1, h2⟩ := h
 exact ⟨dx, gt, S _ _ h1, S _ _ h2⟩
theorem h1t (T : Tx K mg A) : a1o P A.wd K mg base CX0 1 A.a5v A.b7g ["self"] (g4n A.a4g) := by
 have a3t := T.a3t
 have a2w := T.a2w
 refine T.c1g.ok f6n (fun vs H Q E h => ?_) (fun cdv A' outer s H vs Q E hr h => ?_)
 ·match vs, h with
  | [.ref o], _ => rfl
 ·match vs, h with
  | [.ref o], ⟨p, q, ⟨dx, gt, ho, hg⟩, k⟩ =>
  have hu := hr.units
  refine ⟨_, (a0q (a1i (a1r a5o (a1z (pvF 0) rfl) a0l (fun _ _ => rfl)))), ?_⟩
  walk_at "rd*"
theorem i0u (T : Tx K mg A) : a1o P A.wd K mg base CX0 2 A.a4n A.b2v ["self", "state", "tops", "bottom"] (h7o A.a4g) := by
 have b5i : a1o P A.wd K mg base CX0 1 _ _ _ _ := f7p T
 have a3t := T.a3t
 have a2w := T.a2w
 refine T.b5o.ok f1g (fun vs H Q E h => ?_) (fun cdv A' outer s H vs Q E hr h => ?_)
 ·match vs, h with
  | [.ref o, .ref st, .ref x, .int _], _ => rfl
 ·match vs, h with
  | [.ref o, .ref st, .ref x, .int bt], ⟨p, q, xs, ⟨dx, gt, ho, hg⟩, hx, lx, mx, k⟩ =>
  have hu := hr.units
  have b2o : a3g 1 _ := hr.mono (by decide)
  refine ⟨_, (a0q (a1i (b0o (a0g (a0u b5i b2o (by rfl) T.c4v T.a9o.kp T.b5g .nil a0r (a0g (pvF 2) (a0g (a1r a5o (a1z (pvF 0) rfl) a0l (fun _ _ => rfl)) a0i))) (a0g (pvF 1) a0i))))), ?_⟩
  walk_at "rd*"
  refine ⟨xs, rfl, mx, by omega, ?_⟩
  rintro _ H1 ⟨ou, rfl, n1, S1, h1⟩
  walk_at "rd*"
  intro r H2 n2 S2 h2
  exact k r ou st H2 (S1.trans S2) (S1.free n2) n1 h2 (S2 _ _ h1)
theorem IsD.same {C : Addr} {H H' : Hp} {o : Addr} {n : Nat} (h : IsD C H o n) (S : Same H H') : IsD C H' o n := by
 obtain ⟨dx, h1⟩ := h
 exact ⟨dx, S _ _ h1⟩
theorem h1u (T : Tx K mg A) : a1o P A.wd K mg base CX0 1 A.a2v A.c4n ["self"] d9v := by
 refine T.c0w.ok f6k (fun vs H Q E h => ?_) (fun cdv A' outer s H vs Q E hr h => ?_)
 ·match vs, h with
  | [.ref o], _ => rfl
 ·match vs, h with
  | [.ref o], k =>
  have hu := hr.units
  refine ⟨_, (a0q (a1i a0l)), ?_⟩
  walk_at "rd"
  exact k
theorem i0v (T : Tx K mg A) : a1o P A.wd K mg base CX0 2 A.a3y A.b0u ["self", "state", "tops", "bottom"] (h7p A.a2g) := by
 have c9p : a1o P A.wd K mg base CX0 1 _ _ _ _ := d7s T
 have b9y : a1o P A.wd K mg base CX0 1 _ _ _ _ := f7q T
 have a2m := T.a2m
 have a3k := T.a3k
 refine T.b3k.ok c6t (fun vs H Q E h => ?_) (fun cdv A' outer s H vs Q E hr h => ?_)
 ·match vs, h with
  | [.ref o, .ref st, .ref x, .int _], _ => rfl
 ·match vs, h with
  | [.ref o, .ref st, .ref x, .int bt], ⟨n, zs, xs, ⟨dx, ho⟩, hz, hx, lz, lx, k⟩ =>
  have hu := hr.units
  have c3z : a3g 1 _ := hr.mono (by decide)
  have b5j : a3g 1 _ := hr.mono (by decide)
  refine ⟨_, (a0n (a1h (i := 4) c6t.nd rfl (Or.inl rfl) (a0y a1n (a1y a8n (by rfl) T.c1s boot_list (a0g (pvF 1) a0i)) (pvF 2)))
   (a0q (a1i (b0o (a0g (a0u c9p c3z (by rfl) T.f1n T.b9h.kp T.c8q .nil a0r (a0g (pvF 4) (a0g (a1t a3q (by rfl) T.b6w boot_len (a0g (pvF 1) a0i)) (a0g (a1z (pvF 0) rfl) a0i)))) (a0g (a0u b9y b5j (by rfl) T.d5r T.b6l.kp T.c3s .nil a0r (a0g (pvF 4) (a0g (a1z (pvF 0) rfl) a0i))) a0i)))))), ?_⟩
  walk_at "rd*"
  intro l1 H1 n1 S1 h1
  have hx1 := S1 _ _ hx
  walk_at "rd*"
  refine ⟨by rw [sizeLine_eq]; omega, ?_⟩
  intro kn H2 n2 S2 h2
  rw [<- List.map_append] at h2
  have S02 : Same H H2 := S1.trans S2
  have ho2 := S02 _ _ ho
  have hz2 := S02 _ _ hz
  clear h1 hx1
  walk_at "rd*"
  refine ⟨zs ++ xs, rfl, zs.length, rfl, n, rfl, by simp, by simp; omega, ?_⟩
  rintro _ H3 ⟨ou, rfl, n3, S3, h3⟩
  have ho3 := S3 _ _ ho2
  have h23 := S3 _ _ h2
  clear h2 ho2 hz2
  walk_at "rd*"
  refine ⟨zs ++ xs, rfl, n, rfl, by simp; omega, ?_⟩
  rintro _ H4 ⟨s2, rfl, n4, S4, h4⟩
  walk_at "rd*"
  intro r H5 n5 S5 h5
  exact k r ou s2 H5 (S02.trans (S3.trans (S4.trans S5))) ((S02.trans (S3.trans S4)).free n5) (S02.free n3) h5 (S5 _ _ (S4 _ _ h3)) (S5 _ _ h4)
theorem h1v (T : Tx K mg A) : a1o P A.wd K mg base CX0 1 A.a5y A.b7i ["self"] (g4o A.a3s) := by
 have a3u := T.a3u
 have a2y := T.a2y
 have a2z := T.a2z
 refine T.c1n.ok f6r (fun vs H Q E h => ?_) (fun cdv A' outer s H vs Q E hr h => ?_)
 ·match vs, h with
  | [.ref o], _ => rfl
 ·match vs, h with
  | [.ref o], ⟨dx, gt, n, p, q, ho, hg, k⟩ =>
  have hu := hr.units
  unfold bkF at ho
  refine ⟨_, (a0q (a1i (a1r a5o (a1z (pvF 0) rfl) a0l (fun _ _ => rfl)))), ?_⟩
  walk_at "rd*"
theorem i0w (T : Tx K mg A) : a1o P A.wd K mg base CX0 2 A.a4p A.b2y ["self", "state", "tops", "bottom"] (h7q A.a3s) := by
 have c9p : a1o P A.wd K mg base CX0 1 _ _ _ _ := d7s T
 have b9y : a1o P A.wd K mg base CX0 1 _ _ _ _ := f7q T
 have c9q : a1o P A.wd K mg base CX0 1 _ _ _ _ := g4y T
 have b5i : a1o P A.wd K mg base CX0 1 _ _ _ _ := f7p T
 have a3u := T.a3u
 have a2y := T.a2y
 have a2z := T.a2z
 refine T.b5s.ok b2u (fun vs H Q E h => ?_) (fun cdv A' outer s H vs Q E hr h => ?_)
 ·match vs, h with
  | [.ref o, .ref st, .ref x, .int _], _ => rfl
 ·match vs, h with
  | [.ref o, .ref st, .ref x, .int bt], ⟨dx, gt, n, p, q, zs, xs, ho, hg, hz, hx, lz, lx, mz, mx, mq, m0, k⟩ =>
  have hu := hr.units
  have c3z : a3g 1 _ := hr.mono (by decide)
  have b5j : a3g 1 _ := hr.mono (by decide)
  have c5u : a3g 1 _ := hr.mono (by decide)
  have b2o : a3g 1 _ := hr.mono (by decide)
  unfold bkF at ho
  refine ⟨_, (a0n (a1h (i := 4) b2u.nd rfl (Or.inl rfl) (a0y a1n (a1y a8n (by rfl) T.c1s boot_list (a0g (pvF 1) a0i)) (pvF 2)))
   (a0n (a1h (i := 5) b2u.nd rfl (Or.inl rfl) (a0u c9p c3z (by rfl) T.f1n T.b9h.kp T.c8q .nil a0r (a0g (pvF 4) (a0g (a1t a3q (by rfl) T.b6w boot_len (a0g (pvF 1) a0i)) (a0g (a1z (pvF 0) rfl) a0i)))))
   (a0n (a1h (i := 6) b2u.nd rfl (Or.inl rfl) (a0u c9q c5u (by rfl) T.d8q T.b2h.kp T.c0v .nil a0r (a0g (a0u b5i b2o (by rfl) T.c4v T.a9o.kp T.b5g .nil a0r (a0g (pvF 2) (a0g (a1r a5o (a1z (pvF 0) rfl) a0l (fun _ _ => rfl)) a0i))) (a0g (a0u b5i b2o (by rfl) T.c4v T.a9o.kp T.b5g .nil a0r (a0g (pvF 5) (a0g (g8g f8z (a1r a5o (a1z (pvF 0) rfl) a0l (fun _ _ => rfl))) a0i))) a0i))))
   (a0q (a1i (b0o (a0g (pvF 6) (a0g (a0u b9y b5j (by rfl) T.d5r T.b6l.kp T.c3s .nil a0r (a0g (pvF 4) (a0g (a1z (pvF 0) rfl) a0i))) a0i)))))))), ?_⟩
  walk_at "rd*"
  intro l1 H1 n1 S1 h1
  have hx1 := S1 _ _ hx
  walk_at "rd*"
  refine ⟨by rw [sizeLine_eq]; omega, ?_⟩
  intro kn H2 n2 S2 h2
  rw [<- List.map_append] at h2
  have S02 : Same H H2 := S1.trans S2
  have ho2 := S02 _ _ ho
  have hz2 := S02 _ _ hz
  clear h1 hx1
  walk_at "rd*"
  refine ⟨zs ++ xs, rfl, zs.length, rfl, n, rfl, by simp, by simp; omega, ?_⟩
  rintro _ H3 ⟨hd, rfl, n3, S3, h3⟩
  have S03 := S02.trans S3
  have ho3 := S03 _ _ ho
  have hg3 := S03 _ _ hg
  have hx3 := S03 _ _ hx
  have h23 := S3 _ _ h2
  clear h2 ho2 hz2
  walk_at "rd*"
  refine ⟨xs, rfl, mq, by omega, ?_⟩
  rintro _ H4 ⟨t4, rfl, n4, S4, h4⟩
  have ho4 := S4 _ _ ho3
  have hg4 := S4 _ _ hg3
  have h34 := S4 _ _ h3
  clear ho3 hg3 hx3
  walk_at "rd*"
  have dl := b7q (zs ++ xs) zs.length n
  refine ⟨_, rfl, ?_, by rw [dl]; simp; omega, ?_⟩
  ·intro y hy
   rcases g4z hy with h | h
   ·rcases List.mem_append.mp h with h | h
    ·exact mz y h
    ·exact mx y h
   ·rw [h]; exact m0
  rintro _ H5 ⟨t5, rfl, n5, S5, h5⟩
  have h45 := S5 _ _ h4
  walk_at "rd*"
  refine ⟨_, rfl, _, rfl, by simp; omega, by rw [List.length_map, dl]; simp; omega, ?_⟩
  rintro _ H6 ⟨ou, rfl, n6, S6, h6⟩
  have S36 : Same H3 H6 := (S4.trans S5).trans S6
  have ho6 := S36 _ _ (S03 _ _ ho)
  have h26 := S36 _ _ h23
  clear h4 h45 ho4 hg4 h34 h5 h3
  walk_at "rd*"
  refine ⟨zs ++ xs, rfl, n, rfl, by simp; omega, ?_⟩
  rintro _ H7 ⟨s2, rfl, n7, S7, h7⟩
  walk_at "rd*"
  intro r H8 n8 S8 h8
  have S06 := S03.trans S36
  exact k r ou s2 H8 (S06.trans (S7.trans S8)) ((S06.trans S7).free n8) ((S03.trans (S4.trans S5)).free n6) (S06.free n7) h8 (S8 _ _ (S7 _ _ h6)) (S8 _ _ h7)
theorem i6m (T : Tx K mg A) : a1o P A.wd K mg base CX0 1 A.a5l A.b6s ["top", "bottom"] i6b := by
 refine T.a9q.ok d9h (fun vs H Q E h => ?_) (fun cdv A' outer s H vs Q E hr h => ?_)
 ·match vs, h with
  | [.int t, .int b], _ => rfl
 ·match vs, h with
  | [.int t, .int b], ⟨b1, bb, k⟩ =>
  have hu := hr.units
  unfold twn at k
  refine ⟨_, (a0q (a1i (d9p (a1v h3v (pvF 0) a0l (a3p _)) (a0y a6o (pvF 0) (pvF 1)) (g8g f8z (a0y a6o (g8g f8z (pvF 0)) (pvF 1)))))), ?_⟩
  walk_at "rd"
  split
  ·rename_i h
   rw [if_pos h] at k
   exact ⟨⟨by omega, by omega⟩, k⟩
  ·rename_i h
   rw [if_neg h] at k
   exact ⟨⟨by omega, by omega⟩, k⟩
theorem twn_bnd {t b : Int} (b1 : 1 <= b) : ((twn t b).natAbs : Int) * b <= (t.natAbs : Int) := by
 unfold twn
 split
 ·rename_i h
  have f := Int.fmod_def t b
  have g := b2n t (b := b) (by omega)
  have z : 0 <= t.fdiv b := by
   rw [Int.fdiv_eq_ediv_of_nonneg _ (by omega)]
   exact Int.ediv_nonneg h (by omega)
  have e : ((t.fdiv b).natAbs : Int) = t.fdiv b := by omega
  rw [e, Int.mul_comm]
  omega
 ·rename_i h
  have f := Int.fmod_def (-t) b
  have g := b2n (-t) (b := b) (by omega)
  have z : 0 <= (-t).fdiv b := by
   rw [Int.fdiv_eq_ediv_of_nonneg _ (by omega)]
   exact Int.ediv_nonneg (by omega) (by omega)
  have e : ((-((-t).fdiv b)).natAbs : Int) = (-t).fdiv b := by omega
  rw [e, Int.mul_comm]
  omega
theorem c9r (p q bt : Int) (n : Nat) : ∀ (a b kn : List Int), hallL p q bt n kn (a ++ b) = hallL p q bt n (hallL p q bt n kn a) b
 | [], b, kn => rfl
 | x :: a, b, kn => c9r p q bt n a b _
theorem g0p (p q bt : Int) (n : Nat) : ∀ (a kn : List Int), ∃ ys, hallL p q bt n kn a = kn ++ ys /\ ys.length = a.length
 | [], kn => ⟨[], by rw [List.append_nil]; rfl, rfl⟩
 | x :: a, kn => by
  obtain ⟨ys, e, l⟩ := g0p p q bt n a (kn ++ [x + hadd p q bt (heard kn n) * bt])
  refine ⟨(x + hadd p q bt (heard kn n) * bt) :: ys, ?_, by rw [List.length_cons, List.length_cons, l]⟩
  rw [hallL, e, List.append_assoc]
  rfl
theorem b9z (p q bt : Int) (n : Nat) (a kn : List Int) : (hallL p q bt n kn a).length = kn.length + a.length := by
 obtain ⟨ys, e, l⟩ := g0p p q bt n a kn
 rw [e, List.length_append, l]
theorem i0x (T : Tx K mg A) : a1o P A.wd K mg base CX0 2 A.a4q A.b2z ["self", "state", "tops", "bottom"] (h7r A.a3v) := by
 have f2q : a1o P A.wd K mg base CX0 1 _ _ _ _ := i6m T
 have b9y : a1o P A.wd K mg base CX0 1 _ _ _ _ := f7q T
 have a4k := T.a4k
 have a4i := T.a4i
 have a4j := T.a4j
 refine T.b5u.ok a8v (fun vs H Q E h => ?_) (fun cdv A' outer s H vs Q E hr h => ?_)
 ·match vs, h with
  | [.ref o, .ref st, .ref x, .int _], _ => rfl
 ·match vs, h with
  | [.ref o, .ref st, .ref x, .int bt], ⟨dx, gt, n, p, q, zs, xs, ho, hg, hz, hx, lz, lx, n1, q1, b1, bp, bq, bb, k⟩ =>
  have hu := hr.units
  have d9m : a3g 1 _ := hr.mono (by decide)
  have b5j : a3g 1 _ := hr.mono (by decide)
  unfold bkF at ho
  refine ⟨_, (a0n (a1h (i := 4) a8v.nd rfl (Or.inl rfl) (a1y a8n (by rfl) T.c1s boot_list (a0g (pvF 1) a0i)))
   (a0n (c4g PassesOwn.never rfl (b5k (pvF 2)) (b2q (i := 5) a8v.nd rfl (Or.inl rfl))
   (a0n (a1h (i := 6) a8v.nd rfl (Or.inl rfl) (d9p (a1v h3v (a1t a3q (by rfl) T.b6w boot_len (a0g (pvF 4) a0i)) (a1z (pvF 0) rfl) (a3p _)) (a1r a5o (pvF 4) (a0y c7n (a1t a3q (by rfl) T.b6w boot_len (a0g (pvF 4) a0i)) (a1z (pvF 0) rfl)) (fun _ _ => rfl)) a0l))
   (a0n (a1h (i := 7) a8v.nd rfl (Or.inl rfl) (a0u f2q d9m (by rfl) T.f1p T.a9q.kp T.b9j .nil a0r (a0g (a0y a2s (a1r a5o (a1z (pvF 0) rfl) a0l (fun _ _ => rfl)) (pvF 6)) (a0g (a0y a2s (a1r a5o (a1z (pvF 0) rfl) a0l (fun _ _ => rfl)) (pvF 3)) a0i))))
   (a0q (b8o (c2v d4y PySem.F.plainAttrs_list PySem.F.slot_list_append PySem.F.type_list_append c2w (pvF 4) (a0g (a0y a1n (pvF 5) (a0y a2s (pvF 7) (pvF 3))) a0i)))))))
   (a0q (a1i (b0o (a0g (a6n g5v (pvF 4) (a5t (a1t a3q (by rfl) T.b6w boot_len (a0g (pvF 1) a0i))) b0w) (a0g (a0u b9y b5j (by rfl) T.d5r T.b6l.kp T.c3s .nil a0r (a0g (pvF 4) (a0g (a1z (pvF 0) rfl) a0i))) a0i))))))), ?_⟩
  walk_at "rd*"
  intro kn H1 n1' S1 h1
  have hx1 := S1 _ _ hx
  walk_at "rd*"
  refine ⟨⟨_, SqL.of hx1⟩, ?_⟩
  obtain ⟨Pv, pin, pout⟩ := g1s (fun i σ H' => ∃ (v5 v6 v7 : Option V), σ = [some (.ref o), some (.ref st), some (.ref x), some (.int bt), some (.ref kn), v5, v6, v7] /\ Same H H' /\ H' kn = some (.lst ((hallL p q bt n zs (xs.take i)).map V.int)))
  refine f0q (xs := xs.map V.int) Pv (pin _ _ _ ⟨_, _, _, rfl, S1, h1⟩) ?_ ?_ ?_
  ·intro i σ H2 hi hp
   obtain ⟨v5, v6, v7, rfl, S2, h2⟩ := pout _ _ _ hp
   exact SqL.of (S2 _ _ hx)
  ·intro i v σ H2 hv hp
   rw [List.getElem?_map] at hv
   obtain ⟨y, hy, rfl⟩ := Option.map_eq_some_iff.mp hv
   obtain ⟨v5, v6, v7, rfl, S2, h2⟩ := pout _ _ _ hp
   have ho2 := S2 _ _ ho
   have hg2 := S2 _ _ hg
   have et : xs.take (i + 1) = xs.take i ++ [y] := by rw [List.take_add_one, hy]; rfl
   have ea := c9r p q bt n (xs.take i) [y] zs
   rw [<- et] at ea
   have hl := b9z p q bt n (xs.take i) zs
   rw [List.length_take] at hl
   have hi := (List.getElem?_eq_some_iff.mp hy).1
   obtain ⟨L, eL⟩ : ∃ L, hallL p q bt n zs (xs.take i) = L := ⟨_, rfl⟩
   rw [eL] at ea hl h2
   replace ea : hallL p q bt n zs (xs.take (i + 1)) = L ++ [y + hadd p q bt (heard L n) * bt] := ea
   clear hv hp h1 hx1 ho hg hx hz
   have qb1 : 1 <= q * bt := Int.mul_pos (by omega) (by omega)
   have qbb : intBits (q * bt) <= 8000 := Nat.le_trans (intBits_mul_le bq bb) (by decide)
   have fin : ∀ (h : Int) (H3 : Hp), h = heard L n -> a9t kn H2 H3 -> H3 kn = some (.lst (L.map V.int ++ [.int (y + twn (p * h) (q * bt) * bt)])) -> ∀ v5 v6 v7, Pv (i + 1) [some (.ref o), some (.ref st), some (.ref x), some (.int bt), some (.ref kn), v5, v6, v7] H3 := by
    intro h H3 eh B3 h3 v5 v6 v7
    refine pin _ _ _ ⟨_, _, _, rfl, S2.step n1' B3, ?_⟩
    rw [h3, ea, List.map_append, eh]
    rfl
   walk_at "rd*"
   split
   ·rename_i hc
    refine ⟨.int (L.getD (L.length - n) 0), ?_, IntMulOk.of_left bp, IntMulOk.of_left bq, IntMulOk.of_right bb, by rw [sizeLine_eq]; omega, ?_⟩
    ·rw [<- hl, show ((L.length : Nat) : Int) - (n : Int) = ((L.length - n : Nat) : Int) by omega]
     exact f5y (by omega)
    rintro _ H3 ⟨rfl, B3, h3⟩
    refine fin _ H3 ?_ B3 h3 _ _ _
    unfold heard
    rw [if_pos (by omega)]
   ·rename_i hc
    refine ⟨IntMulOk.of_left bp, IntMulOk.of_left bq, IntMulOk.of_right bb, by rw [sizeLine_eq]; omega, ?_⟩
    rintro _ H3 ⟨rfl, B3, h3⟩
    refine fin 0 H3 ?_ B3 h3 _ _ _
    unfold heard
    rw [if_neg (by omega)]
  ·intro σ H2 hp
   obtain ⟨v5, v6, v7, rfl, S2, h2⟩ := pout _ _ _ hp
   rw [List.length_map, List.take_of_length_le (Nat.le_refl _)] at h2
   have hz2 := S2 _ _ hz
   have ho2 := S2 _ _ ho
   have hl := b9z p q bt n xs zs
   clear hp h1 hx1 ho hg hx hz
   walk_at "rd*"
   intro ou H3 n3 S3 h3
   rw [b8q, a6p] at h3
   have h23 := S3 _ _ h2
   have ho3 := S3 _ _ ho2
   walk_at "rd*"
   refine ⟨_, rfl, n, rfl, by omega, ?_⟩
   rintro _ H4 ⟨s2, rfl, n4, S4, h4⟩
   walk_at "rd*"
   intro r H5 n5 S5 h5
   exact k r ou s2 H5 (S2.trans (S3.trans (S4.trans S5))) ((S2.trans (S3.trans S4)).free n5) (S2.free n3) h5 (S5 _ _ (S4 _ _ h3)) (S5 _ _ h4)
theorem i0y {a b : List Int} (hl : a.length = b.length) (h : ∀ i, i < a.length -> a.getD i 0 = b.getD i 0) : a = b := by
 apply List.ext_getElem?
 intro i
 by_cases hi : i < a.length
 ·have := h i hi
  rw [List.getD_eq_getElem?_getD, List.getD_eq_getElem?_getD, List.getElem?_eq_getElem hi, List.getElem?_eq_getElem (by omega)] at this
  rw [List.getElem?_eq_getElem hi, List.getElem?_eq_getElem (by omega)]
  simpa using this
 ·rw [List.getElem?_eq_none (by omega), List.getElem?_eq_none (by omega)]
theorem f7t (a b : List Int) (i : Nat) : (a ++ b).getD i 0 = if i < a.length then a.getD i 0 else b.getD (i - a.length) 0 := by
 rw [List.getD_eq_getElem?_getD]
 split
 ·rename_i h
  rw [List.getElem?_append_left h, <- List.getD_eq_getElem?_getD]
 ·rename_i h
  rw [List.getElem?_append_right (by omega), <- List.getD_eq_getElem?_getD]
theorem d6g (a : List Int) (k i : Nat) : (a.drop k).getD i 0 = a.getD (k + i) 0 := by
 rw [List.getD_eq_getElem?_getD, List.getElem?_drop, <- List.getD_eq_getElem?_getD]
theorem g5c {xs ys : List Int} {k : Nat} (h : k <= xs.length) : xs.drop k ++ ys = (xs ++ ys).drop k := (List.drop_append_of_le_length h).symm
theorem f2r {xs ys : List Int} {N k : Nat} (hk : k <= N) : g0d (xs.drop (xs.length - N) ++ ys) (xs.drop (xs.length - N)).length k = g0d (xs ++ ys) xs.length k := by
 refine i0y (by rw [b7q, b7q]; simp) fun i hi => ?_
 rw [b7q, List.length_append] at hi
 rw [d9y (by rw [List.length_append]; omega), d9y (by rw [List.length_append]; omega), g5c (by omega), List.length_drop, d6g]
 by_cases h1 : k <= xs.length + i
 ·by_cases h2 : N <= xs.length
  ·rw [if_pos h1, if_pos (by omega)]
   congr 1
   omega
  ·have e : xs.length - N = 0 := by omega
   rw [e, if_pos h1, if_pos (by omega)]
   congr 1
   omega
 ·rw [if_neg h1, if_neg (by omega)]
theorem f2s (xs ys : List Int) (N : Nat) : (xs.drop (xs.length - N) ++ ys).drop ((xs.drop (xs.length - N) ++ ys).length - N) = (xs ++ ys).drop ((xs ++ ys).length - N) := by
 rw [g5c (by omega), List.drop_drop, List.length_drop, List.length_append]
 congr 1
 omega
theorem f5h (p q b : Int) (n : Nat) : ∀ (ys W zs : List Int), (n <= zs.length \/ W = []) -> hallL p q b n (W ++ zs) ys = W ++ hallL p q b n zs ys
 | [], W, zs, _ => rfl
 | y :: ys, W, zs, h => by
  have e : heard (W ++ zs) n = heard zs n := by
   rcases h with h | h
   ·unfold heard
    rw [if_pos (by rw [List.length_append]; omega), if_pos h, f7t, if_neg (by rw [List.length_append]; omega)]
    congr 1
    rw [List.length_append]
    omega
   ·rw [h, List.nil_append]
  rw [hallL, hallL, e, List.append_assoc, f5h p q b n ys W _ (h.elim (fun z => .inl (by rw [List.length_append]; omega)) .inr)]
theorem b5w (d : Dt) (b S : Int) (ss : List Rat) (xs ys : List Int) : (outs d b S ss xs ys).length = ys.length := by unfold outs; simp
theorem c5v {d : Dt} {b S : Int} {ss : List Rat} {xs ys : List Int} {i : Nat} (h : i < ys.length) : (outs d b S ss xs ys).getD i 0 = b7p b S ss (xs ++ ys) (xs.length + i) d := by
 unfold outs
 rw [List.getD_eq_getElem?_getD, List.getElem?_map, List.getElem?_range h]
 rfl
theorem f5i {X Y : Nat -> Int} {p q : Int} {t : Nat} : ∀ {j : Nat}, (∀ m, m < j -> X m = Y m) -> g4i X p q t j = g4i Y p q t j
 | 0, _ => rfl
 | j + 1, h => by rw [g4i, g4i, f5i (fun m hm => h m (by omega)), h j (by omega)]
theorem h8a {S t : Int} : ∀ {cs : List (Int × Rat)} {ss : List Rat} {m : Nat} {c : Int × Rat} {s : Rat}, (∀ (i : Nat) c d, cs[i]? = some c -> cs[i + 1]? = some d -> c.1 < d.1) -> h7n cs ss t m c s -> d9w S t cs ss = c7k S t c s
 | [], ss, m, c, s, _, L => by
  have := L.1
  simp at this
 | c0 :: cs, [], m, c, s, _, L => by
  have := L.2.1
  simp at this
 | c0 :: cs, s0 :: ss, 0, c, s, _, L => by
  obtain ⟨l1, l2, l3, l4⟩ := L
  simp at l1 l2
  subst l1 l2
  unfold d9w
  cases cs with
  | nil => rfl
  | cons d r =>
   rw [List.getElem?_cons_succ] at l4
   have := l4 d rfl
   show (if t < d.1 then _ else _) = _
   rw [if_pos this]
 | c0 :: cs, s0 :: ss, m + 1, c, s, O, L => by
  obtain ⟨l1, l2, l3, l4⟩ := L
  rw [List.getElem?_cons_succ] at l1 l2
  have O' : ∀ (i : Nat) c d, cs[i]? = some c -> cs[i + 1]? = some d -> c.1 < d.1 := fun i c d h1 h2 => O (i + 1) c d (by rw [List.getElem?_cons_succ]; exact h1) (by rw [List.getElem?_cons_succ]; exact h2)
  have ct : c.1 <= t := by
   rcases l3 with z | z
   ·omega
   ·exact z
  have ih := h8a (S := S) (t := t) (cs := cs) (ss := ss) (m := m) O' ⟨l1, l2, .inr ct, fun d hd => l4 d (by rw [List.getElem?_cons_succ]; exact hd)⟩
  unfold d9w
  cases cs with
  | nil => simp at l1
  | cons d r =>
   have mono : ∀ (k : Nat) e, (d :: r)[k]? = some e -> d.1 <= e.1 := fun k => by
    induction k with
    | zero => intro e he; simp at he; rw [he]; exact Int.le_refl _
    | succ k ih2 =>
     intro e he
     have hk := (List.getElem?_eq_some_iff.mp he).1
     have h1 : (d :: r)[k]? = some ((d :: r)[k]'(by omega)) := List.getElem?_eq_getElem _
     have := O' k _ e h1 he
     have := ih2 _ h1
     omega
   have := mono m c l1
   show (if t < d.1 then _ else _) = _
   rw [if_neg (by omega)]
   exact ih
theorem FsS.same {H H' : Hp} {fs : List (Str × V)} {S : Int} {ss : List Rat} {d : Dt} (h : FsS H fs S ss d) (Z : Same H H') : FsS H' fs S ss d := by
 cases d with
 | swell cs => obtain ⟨ct, ln, us, ps, e, h1, h2, h3, h4, h5⟩ := h; exact ⟨ct, ln, us, ps, e, Z _ _ h1, Z _ _ h2, h3.same Z, h4, h5.same Z⟩
 | gain y => exact h3g.same (d := .gain y) h Z
 | delay n => exact h3g.same (d := .delay n) h Z
 | echo y n t => exact h3g.same (d := .echo y n t) h Z
 | back y n => exact h3g.same (d := .back y n) h Z
 | hall y n => exact h3g.same (d := .hall y n) h Z
theorem g2j.same {A : Ad} {H H' : Hp} {o : Addr} {d : Dt} {S : Int} {ss : List Rat} (h : g2j A H o d S ss) (Z : Same H H') : g2j A H' o d S ss := by
 obtain ⟨dx, fs, h1, h2⟩ := h
 exact ⟨dx, fs, Z _ _ h1, h2.same Z⟩
theorem g2j.isP {A : Ad} {H : Hp} {o : Addr} {d : Dt} {S : Int} {ss : List Rat} (h : g2j A H o d S ss) : IsP A H o d := by
 obtain ⟨dx, fs, h1, h2⟩ := h
 refine ⟨dx, fs, h1, ?_⟩
 cases d with
 | swell cs => obtain ⟨ct, ln, us, ps, e, h1, h2, h3, h4, h5⟩ := h2; exact ⟨ct, ln, S, ss, us, ps, e, h1, h2, h3, h4, h5⟩
 | _ => exact h2
theorem IsP.pick {A : Ad} {H : Hp} {o : Addr} {d : Dt} (h : IsP A H o d) : ∃ S ss, g2j A H o d S ss := by
 obtain ⟨dx, fs, h1, h2⟩ := h
 cases d with
 | swell cs => obtain ⟨ct, ln, S, ss, us, ps, e, h3, h4, h5, h6, h7⟩ := h2; exact ⟨S, ss, dx, fs, h1, ct, ln, us, ps, e, h3, h4, h5, h6, h7⟩
 | _ => exact ⟨0, [], dx, fs, h1, h2⟩
theorem StV.same {H H' : Hp} {b : Int} {xs : List Int} {st : V} {d : Dt} (h : StV H b xs st d) (Z : Same H H') : StV H' b xs st d := by
 cases d with
 | gain y => exact h
 | delay n => obtain ⟨p, e, h⟩ := h; exact ⟨p, e, Z _ _ h⟩
 | echo y n t => obtain ⟨p, e, h⟩ := h; exact ⟨p, e, Z _ _ h⟩
 | back y n => obtain ⟨p, e, h⟩ := h; exact ⟨p, e, Z _ _ h⟩
 | hall y n => obtain ⟨p, e, h⟩ := h; exact ⟨p, e, Z _ _ h⟩
 | swell cs => exact h
theorem c2n {k : Nat} {f : Addr} {fd : FuncData} {ps : List Str} {sp sp' : Sp} (F : a1o P A.wd K mg base CX0 k f fd ps sp) (h : ∀ vs H Q E, sp' vs H Q E -> sp vs H Q E) : a1o P A.wd K mg base CX0 k f fd ps sp' :=
 ⟨fun vs H Q E z => F.len vs H Q E (h _ _ _ _ z), fun A outer s H args us vs Q E hr e0 hb hv z => F.run A outer s H args us vs Q E hr e0 hb hv (h _ _ _ _ z)⟩
theorem getD_at (xs ys : List Int) (i : Nat) : (xs ++ ys).getD (xs.length + i) 0 = ys.getD i 0 := by
 rw [f7t, if_neg (by omega)]
 congr 1
 omega
theorem h1w (y : Rat) (b S : Int) (ss : List Rat) (xs ys : List Int) : outs (.gain y) b S ss xs ys = ys.map (· * y.num) := by
 refine i0y (by rw [b5w, List.length_map]) fun i hi => ?_
 rw [b5w] at hi
 rw [c5v hi, b8m]
 show (xs ++ ys).getD (xs.length + i) 0 * y.num = _
 rw [getD_at]
theorem g6y (n : Nat) (b S : Int) (ss : List Rat) (xs ys : List Int) : outs (.delay n) b S ss xs ys = g0d (xs ++ ys) xs.length n := by
 unfold outs g0d
 rw [List.length_append, Nat.add_sub_cancel_left]
 rfl
theorem h1x (y : Rat) (n t : Nat) (b S : Int) (ss : List Rat) (xs ys : List Int) : outs (.echo y n t) b S ss xs ys = h3f (xs.drop (xs.length - n * t) ++ ys) (xs.drop (xs.length - n * t)).length n y.num y.den t (t + 1) := by
 refine i0y (by rw [b5w, h5f, List.length_append]; omega) fun i hi => ?_
 rw [b5w] at hi
 rw [c5v hi, g5a (by rw [List.length_append]; omega)]
 show g4i _ _ _ _ _ = _
 refine f5i fun m hm => ?_
 have le : m * n <= n * t := by
  rw [Nat.mul_comm n t]
  exact Nat.mul_le_mul_right n (by omega)
 show (if m * n <= xs.length + i then (xs ++ ys).getD (xs.length + i - m * n) 0 else 0) = _
 rw [f2r le, d9y (by rw [List.length_append]; omega)]
theorem h1y (y : Rat) (n : Nat) (b S : Int) (ss : List Rat) (xs ys : List Int) : outs (.back y n) b S ss xs ys = h3d (ys.map (· * (y.den : Int))) ((g0d (xs ++ ys) xs.length n).map (· * (-y.num))) := by
 refine i0y (by rw [b5w, f7o, List.length_map, List.length_map, b7q, List.length_append]; omega) fun i hi => ?_
 rw [b5w] at hi
 rw [c5v hi, g4x (by rw [List.length_map]; omega), b8m, b8m, d9y (by rw [List.length_append]; omega)]
 show (xs ++ ys).getD (xs.length + i) 0 * _ + _ = _
 rw [getD_at]
theorem h1z (y : Rat) (n : Nat) (b S : Int) (ss : List Rat) (xs ys : List Int) : outs (.hall y n) b S ss xs ys = (hallL y.num y.den b n (hallL y.num y.den b n [] xs) ys).drop xs.length := by
 have l1 := b9z y.num y.den b n xs []
 have l2 := b9z y.num y.den b n ys (hallL y.num y.den b n [] xs)
 rw [List.length_nil, Nat.zero_add] at l1
 refine i0y (by rw [b5w, List.length_drop, l2, l1]; omega) fun i hi => ?_
 rw [b5w] at hi
 rw [c5v hi, d6g, <- c9r]
 rfl
theorem h2a (T : Tx K mg A) : a1o P A.wd K mg base CX0 2 A.a4n A.b2v ["self", "state", "tops", "bottom"] (d5z A 0) := c2n (i0u T) fun vs H Q E h => by
 match vs, h with
 | [.ref o, st, .ref l, .int b], ⟨d, S, ss, xs, ys, hk, hp, ok, hst, hl, lx, ly, b1, bb, by0, q⟩ =>
  cases d with
  | gain y =>
   obtain ⟨p, rfl⟩ := hst
   obtain ⟨dx, _, ho, g, rfl, hg⟩ := hp
   have yb := YOk.b ok
   exact ⟨y.num, y.den, ys, ⟨dx, g, ho, hg⟩, hl, by omega, fun z hz => IntMulOk.of_right (by omega), fun r ou s2 H1 S1 nr no h1 h2 => q r ou _ H1 S1 nr no h1 (by rw [h2, h1w]) ⟨s2, rfl⟩⟩
  | _ => simp [Dt.kd] at hk
theorem g6z (T : Tx K mg A) : a1o P A.wd K mg base CX0 2 A.a3y A.b0u ["self", "state", "tops", "bottom"] (d5z A 1) := c2n (i0v T) fun vs H Q E h => by
 match vs, h with
 | [.ref o, st, .ref l, .int b], ⟨d, S, ss, xs, ys, hk, hp, ok, hst, hl, lx, ly, b1, bb, by0, q⟩ =>
  cases d with
  | delay n =>
   obtain ⟨p, rfl, hs⟩ := hst
   obtain ⟨dx, _, ho, rfl⟩ := hp
   exact ⟨n, _, ys, ⟨dx, ho⟩, hs, hl, by rw [List.length_drop]; omega, by omega, fun r ou s2 H1 S1 nr no h1 h2 h3 => q r ou _ H1 S1 nr no h1 (by rw [h2, g6y, f2r (Nat.le_refl _)]) ⟨s2, rfl, by rw [h3, f2s]⟩⟩
  | _ => simp [Dt.kd] at hk
theorem h2b (T : Tx K mg A) : a1o P A.wd K mg base CX0 2 A.a4o A.b2w ["self", "state", "tops", "bottom"] (d5z A 2) := c2n (i0s T) fun vs H Q E h => by
 match vs, h with
 | [.ref o, st, .ref l, .int b], ⟨d, S, ss, xs, ys, hk, hp, ok, hst, hl, lx, ly, b1, bb, by0, q⟩ =>
  cases d with
  | echo y n t =>
   obtain ⟨p, rfl, hs⟩ := hst
   obtain ⟨dx, _, ho, g, fa, rfl, hg, hf⟩ := hp
   obtain ⟨oy, n1, n2, t2⟩ := ok
   have yb := oy.b
   refine ⟨y.num, y.den, n, t, _, ys, ⟨dx, g, fa, ho, hg, hf⟩, hs, hl, by rw [List.length_drop]; omega, by omega, by omega, t2, yb.1, yb.2, fun z hz => ?_, fun r ou s2 H1 S1 nr no h1 h2 h3 => q r ou _ H1 S1 nr no h1 (by rw [h2, h1x]) ⟨s2, rfl, by rw [h3, f2s]⟩⟩
   refine Nat.le_trans (by0 z ?_) (by decide)
   rcases List.mem_append.mp hz with h | h
   ·exact List.mem_append_left _ (List.mem_of_mem_drop h)
   ·exact List.mem_append_right _ h
  | _ => simp [Dt.kd] at hk
theorem h2c (T : Tx K mg A) : a1o P A.wd K mg base CX0 2 A.a4p A.b2y ["self", "state", "tops", "bottom"] (d5z A 3) := c2n (i0w T) fun vs H Q E h => by
 match vs, h with
 | [.ref o, st, .ref l, .int b], ⟨d, S, ss, xs, ys, hk, hp, ok, hst, hl, lx, ly, b1, bb, by0, q⟩ =>
  cases d with
  | back y n =>
   obtain ⟨p, rfl, hs⟩ := hst
   obtain ⟨dx, _, ho, g, rfl, hg⟩ := hp
   obtain ⟨oy, n1, n2⟩ := ok
   have yb := oy.b
   have nb := intBits_neg_le yb.1
   exact ⟨dx, g, n, y.num, y.den, _, ys, ho, hg, hs, hl, by rw [List.length_drop]; omega, by omega, fun z hz => IntMulOk.of_right (by omega), fun z hz => IntMulOk.of_right (by omega), fun z hz => IntMulOk.of_right (by omega), IntMulOk.of_left (by decide), fun r ou s2 H1 S1 nr no n2' h1 h2 h3 => q r ou _ H1 S1 nr no h1 (by rw [h2, h1y, f2r (Nat.le_refl _)]) ⟨s2, rfl, by rw [h3, f2s]⟩⟩
  | _ => simp [Dt.kd] at hk
theorem h2d (T : Tx K mg A) : a1o P A.wd K mg base CX0 2 A.a4q A.b2z ["self", "state", "tops", "bottom"] (d5z A 4) := c2n (i0x T) fun vs H Q E h => by
 match vs, h with
 | [.ref o, st, .ref l, .int b], ⟨d, S, ss, xs, ys, hk, hp, ok, hst, hl, lx, ly, b1, bb, by0, q⟩ =>
  cases d with
  | hall y n =>
   obtain ⟨p, rfl, hs⟩ := hst
   obtain ⟨dx, _, ho, g, rfl, hg⟩ := hp
   obtain ⟨oy, yl, n1, n2⟩ := ok
   have yb := oy.b
   have dp := y.den_pos
   have l1 := b9z y.num y.den b n xs []
   rw [List.length_nil, Nat.zero_add] at l1
   have l2 := b9z y.num y.den b n ys (hallL y.num y.den b n [] xs)
   have e : hallL y.num y.den b n (hallL y.num y.den b n [] xs) ys = (hallL y.num y.den b n [] xs).take (xs.length - n) ++ hallL y.num y.den b n ((hallL y.num y.den b n [] xs).drop (xs.length - n)) ys := by
    rw [<- f5h, List.take_append_drop]
    rcases Nat.lt_or_ge xs.length n with z | z
    ·refine .inr ?_
     rw [show xs.length - n = 0 by omega, List.take_zero]
    ·refine .inl ?_
     rw [List.length_drop]
     omega
   have l3 := b9z y.num y.den b n ys ((hallL y.num y.den b n [] xs).drop (xs.length - n))
   rw [List.length_drop, l1] at l3
   have lt : ((hallL y.num y.den b n [] xs).take (xs.length - n)).length = xs.length - n := by rw [List.length_take]; omega
   have d1 : ∀ (a c : List Int) (k : Nat), a.length <= k -> (a ++ c).drop k = c.drop (k - a.length) := fun a c k hk => by
    rw [List.drop_append, List.drop_of_length_le hk, List.nil_append]
   refine ⟨dx, g, n, y.num, y.den, _, ys, ho, hg, hs, hl, by rw [List.length_drop]; omega, by omega, n1, by omega, b1, by omega, by omega, bb, fun r ou s2 H1 S1 nr no h1 h2 h3 => q r ou _ H1 S1 nr no h1 (by
    rw [h2, h1z, e, d1 _ _ _ (by omega), lt, List.length_drop, l1]) ⟨s2, rfl, by
    rw [h3, c9r, e, d1 _ _ _ (by rw [lt, List.length_append]; omega), lt, l3, List.length_append]
    congr 4
    omega⟩⟩
  | _ => simp [Dt.kd] at hk
theorem i0z (T : Tx K mg A) : a1o P A.wd K mg base CX0 3 A.a3z A.b0v ["self", "state", "tops", "bottom"] (h7s A.a1p) := by
 have f2t : a1o P A.wd K mg base CX0 2 _ _ _ _ := h1s T
 have a1s := T.a1s
 have a0z := T.a0z
 have a1g := T.a1g
 have a1j := T.a1j
 refine T.b3p.ok c6v (fun vs H Q E h => ?_) (fun cdv A' outer s H vs Q E hr h => ?_)
 ·match vs, h with
  | [.ref o, .int n0, .ref x, .int _], _ => rfl
 ·match vs, h with
  | [.ref o, .int n0, .ref x, .int bt], ⟨ps, cs, ss, S, m0, xs, e0, I, O, CO, L1, L12, hx, ml, xl, xb, k⟩ =>
  subst e0
  have hu := hr.units
  have d9n : a3g 2 _ := hr.mono (by decide)
  refine ⟨_, (a0n (h4o (i := 4) c6v.nd rfl rfl (h9u (by rfl) T.b9u (a0g (pvF 2) a0i) (h8p (pvF 1) i2y)) (fun _ _ _ _ _ => (a0y a2s (a5g (pvF 2) T.a1s T.d9j f2t d9n T.b9q .nil a0r (a0g (pvF 0) a0i)) (pvF 1))) (h6s (sc := a0h a5j) (N := ["self", "state", "tops", "bottom", "out"]) rfl rfl (by decide +kernel)) rfl)
   (a0q (a1i (b0o (a0g (pvF 4) (a0g (a0y a1n (pvF 1) (a1t a3q (by rfl) T.b6w boot_len (a0g (pvF 2) a0i))) a0i)))))), ?_⟩
  walk_at "rd*"
  refine ⟨by omega, by omega, ?_⟩
  intro D H2 n2 S2 h2
  refine g1x (xs := xs.map V.int) (fun i zs H' => Same H H' /\ H' D = some (.lst zs) /\ zs = ((List.range i).map fun j => d9w S ((m0 + j : Nat) : Int) cs ss * xs.getD j 0).map V.int) ⟨S2, h2, rfl⟩ (by rw [List.length_map, sizeLine_eq]; omega) ?_ ?_ ?_
  ·intro i zs H' hi ⟨S', h', ez⟩
   exact ⟨h', SqL.of (S' _ _ hx), by rw [ez, List.length_map, List.length_map, List.length_range]⟩
  ·intro i x' zs H' p H'' hx' ⟨S', h', ez⟩ np S'' h''
   rw [List.getElem?_map] at hx'
   obtain ⟨xi, hxi, rfl⟩ := Option.map_eq_some_iff.mp hx'
   have hi := (List.getElem?_eq_some_iff.mp hxi).1
   have SS := S'.trans S''
   have I' := I.same SS
   have hD' := S'' _ _ h'
   have xbi := xb xi (List.mem_of_getElem? hxi)
   obtain ⟨dx, ct, ln, us, ho, _⟩ := id I'
   unfold swF at ho
   clear hx h2 h'
   walk_at "rd*"
   refine ⟨ps, cs, ss, S, I', O, CO, L1, L12, by omega, by omega, fun m c s' LA bg => ?_⟩
   refine ⟨IntMulOk.of_le bg xbi (by decide), fun H4 B4 h4 => ⟨SS.step n2 B4, h4, ?_⟩⟩
   rw [List.range_succ, List.map_append, List.map_append, <- ez]
   have e1 := h8a (S := S) CO.2 LA
   have e2 : xs.getD i 0 = xi := by rw [List.getD_eq_getElem?_getD, hxi]; rfl
   show _ = _ ++ [V.int (d9w S ((m0 + i : Nat) : Int) cs ss * xs.getD i 0)]
   rw [e2, Int.natCast_add, e1]
  ·intro zs H3 ⟨S3, h3, ez⟩
   rw [List.length_map] at ez
   have hx3 := S3 _ _ hx
   clear hx h2
   walk_at "rd*"
   refine fun r H4 n4 S4 h4 => k r D H4 (S3.trans S4) (S3.free n4) n2 (by rw [h4, Int.natCast_add]) (S4 _ _ (by rw [h3, ez]))
theorem g7a (T : Tx K mg A) : a1o P A.wd K mg base CX0 3 A.a3z A.b0v ["self", "state", "tops", "bottom"] (d5z A 5) := c2n (i0z T) fun vs H Q E h => by
 match vs, h with
 | [.ref o, st, .ref l, .int b], ⟨d, S, ss, xs, ys, hk, hp, ok, hst, hl, lx, ly, b1, bb, by0, q⟩ =>
  cases d with
  | swell cs =>
   have hst : st = V.int (xs.length : Int) := hst
   subst hst
   obtain ⟨dx, _, ho, ct, ln, us, ps, rfl, hct, hln, TP, sok, R⟩ := hp
   have ok : f8h cs := ok
   refine ⟨ps, cs, ss, S, xs.length, ys, rfl, ⟨dx, ct, ln, us, ho, hct, hln, TP, R⟩, sok, f8h.crn ok, ok.2.2.1, ok.2.2.2, hl, lx, ly, fun y hy => by0 y (List.mem_append_right _ hy), fun r ou H1 S1 nr no h1 h2 => q r ou _ H1 S1 nr no h1 ?_ (by show _ = V.int _; rw [List.length_append])⟩
   rw [h2]
   refine congrArg (fun z => some (HO.lst (List.map V.int z))) ?_
   unfold outs
   refine List.map_congr_left fun i _ => ?_
   show _ = d9w S ((xs.length + i : Nat) : Int) cs ss * (xs ++ ys).getD (xs.length + i) 0
   rw [getD_at]
  | _ => simp [Dt.kd] at hk
theorem h2e (T : Tx K mg A) : a1o P A.wd K mg base CX0 1 A.a5v A.b7g ["self"] (f7m A 0) := c2n (h1t T) fun vs H Q E h => by
 match vs, h with
 | [.ref o], ⟨d, S, ss, hk, hp, q⟩ =>
  cases d with
  | gain y =>
   obtain ⟨dx, _, ho, g, rfl, hg⟩ := hp
   exact ⟨y.num, y.den, ⟨dx, g, ho, hg⟩, q⟩
  | _ => simp [Dt.kd] at hk
theorem h2f (T : Tx K mg A) : a1o P A.wd K mg base CX0 1 A.a5w A.b7h ["self"] (f7m A 2) := c2n (h1n T) fun vs H Q E h => by
 match vs, h with
 | [.ref o], ⟨d, S, ss, hk, hp, q⟩ =>
  cases d with
  | echo y n t =>
   obtain ⟨dx, _, ho, g, fa, rfl, hg, hf⟩ := hp
   exact ⟨y.num, y.den, n, t, ⟨dx, g, fa, ho, hg, hf⟩, q⟩
  | _ => simp [Dt.kd] at hk
theorem h2g (T : Tx K mg A) : a1o P A.wd K mg base CX0 1 A.a5y A.b7i ["self"] (f7m A 3) := c2n (h1v T) fun vs H Q E h => by
 match vs, h with
 | [.ref o], ⟨d, S, ss, hk, hp, q⟩ =>
  cases d with
  | back y n =>
   obtain ⟨dx, _, ho, g, rfl, hg⟩ := hp
   exact ⟨dx, g, n, y.num, y.den, ho, hg, q⟩
  | _ => simp [Dt.kd] at hk
theorem g7b (T : Tx K mg A) : a1o P A.wd K mg base CX0 1 A.a5h A.b5n ["self"] (f7m A 5) := c2n (g6w T) fun vs H Q E h => by
 match vs, h with
 | [.ref o], ⟨d, S, ss, hk, hp, q⟩ =>
  cases d with
  | swell cs =>
   obtain ⟨dx, _, ho, ct, ln, us, ps, rfl, hct, hln, TP, sok, R⟩ := hp
   exact ⟨ps, cs, ss, S, ⟨dx, ct, ln, us, ho, hct, hln, TP, R⟩, q⟩
  | _ => simp [Dt.kd] at hk
theorem h5l {d : Dt} (hk : d.kd ≠ 5) {H : Hp} {p : Addr} (h : H p = some (.tup [])) (b : Int) : StV H b [] (.ref p) d := by
 cases d with
 | swell => exact absurd rfl hk
 | gain => exact ⟨p, rfl⟩
 | delay => exact ⟨p, rfl, by rw [List.drop_nil]; exact h⟩
 | echo => exact ⟨p, rfl, by rw [List.drop_nil]; exact h⟩
 | back => exact ⟨p, rfl, by rw [List.drop_nil]; exact h⟩
 | hall => exact ⟨p, rfl, by rw [hallL, List.drop_nil]; exact h⟩
theorem h2i (T : Tx K mg A) : a1o P A.wd K mg base CX0 4 A.b1k A.c8m ["text"] j1n := by
 have f2u : a1o P A.wd K mg base CX0 3 _ _ _ _ := i0l T
 refine T.a8i.ok d8n (fun vs H Q E h => ?_) (fun cdv A' outer s H vs Q E hr h => ?_)
 ·match vs, h with
  | [.str x], _ => rfl
 ·match vs, h with
  | [.str x], ⟨y, hx, oy, k⟩ =>
  subst hx
  have hu := hr.units
  have d9o : a3g 3 _ := hr.mono (by decide)
  refine ⟨_, (a0n (h9v (a1h (i := 1) d8n.nd rfl (Or.inl rfl) (a0u f2u d9o (by rfl) T.f1m T.a9n.kp T.b9g .nil a0r (a0g (pvF 0) a0i))))
   (a0n (b0q (pw_or (a1v g1p (a1t b8p (by rfl) T.f1w boot_abs (a0g (a1r a5o (pvF 1) a0l (fun _ _ => rfl)) a0i)) (a8s (v := .int 1000) (by rfl) T.b2l T.d8r) (a3p _)) (pw_or1 (a1v g1p (a1r a5o (pvF 1) a0l (fun _ _ => rfl)) (a8s (v := .int 1000) (by rfl) T.b2l T.d8r) (a3p _)))).pt
   (a0q a6m)
   a3h)
   (a0q (a1i (pvF 1))))), ?_⟩
  walk_at "rd"
  refine ⟨y.num, (y.den : Int), h9y oy, ?_⟩
  rintro _ H1 ⟨o, rfl, n1, S1, h1⟩
  have y1 : ¬ 1000 < (y.num.natAbs : Int) := by have := oy.1; omega
  have y2 : ¬ 1000 < (y.den : Int) := by have := oy.2; omega
  walk_at "rd*"
  exact k _ _ ⟨o, rfl, n1, S1, h1⟩
theorem h5m (T : Tx K mg A) : a1o P A.wd K mg base CX0 3 A.a7w A.c2h ["text", "least", "most"] j1o := by
 have g7c : a1o P A.wd K mg base CX0 2 _ _ _ _ := i6g T
 refine T.a6h.ok d1v (fun vs H Q E h => ?_) (fun cdv A' outer s H vs Q E hr h => ?_)
 ·match vs, h with
  | [.str x, .int a, .int b], _ => rfl
 ·match vs, h with
  | [.str x, .int a, .int b], ⟨n, hx, hn, h1, h2, q⟩ =>
  have hu := hr.units
  have g2t : a3g 2 _ := hr.mono (by decide)
  refine ⟨_, (a0n (a1h (i := 3) d1v.nd rfl (Or.inl rfl) (a0u g7c g2t (by rfl) T.g6m T.c3n.kp T.d7j .nil a0r (a0g (pvF 0) a0i)))
   (a0n (b0q (pw_or (a1v i2u (pvF 3) g7y (a3p _)) (pw_or (a1v of_lt (pvF 3) (pvF 1) (a3p _)) (pw_or1 (a1v g1p (pvF 3) (pvF 2) (a3p _))))).pt
   (a0q a6m)
   a3h)
   (a0q (a1i (pvF 3))))), ?_⟩
  walk_at "rd"
  refine ⟨n, hx, hn, ?_⟩
  have z1 : ¬ (n : Int) < a := by omega
  have z2 : ¬ b < (n : Int) := by omega
  walk_at "rd*"
theorem i1a (T : Tx K mg A) : a1o P A.wd K mg base CX0 4 A.b1l A.c8n ["text"] j1p := by
 have a8j : a1o P A.wd K mg base CX0 3 _ _ _ _ := h5m T
 refine T.b1o.ok f9w (fun vs H Q E h => ?_) (fun cdv A' outer s H vs Q E hr h => ?_)
 ·match vs, h with
  | [.str x], _ => rfl
 ·match vs, h with
  | [.str x], ⟨n, hx, n1, n2, q⟩ =>
  subst hx
  have hu := hr.units
  have a6l : a3g 3 _ := hr.mono (by decide)
  refine ⟨_, (a0q (a1i (a0u a8j a6l (by rfl) T.b7n T.a6h.kp T.b0l .nil a0r (a0g (pvF 0) (a0g a0l (a0g (a8s (v := .int 1000) (by rfl) T.b2m T.d8s) a0i)))))), ?_⟩
  walk_at "rd"
  exact ⟨n, h4r n, by omega, by omega, by omega, q⟩
theorem g7d (T : Tx K mg A) : a1o P A.wd K mg base CX0 1 A.a7y A.c2i ["values", "count"] j1q := by
 refine T.a4r.ok f3t (fun vs H Q E h => ?_) (fun cdv A' outer s H vs Q E hr h => ?_)
 ·match vs, h with
  | [.ref l, .int c], _ => rfl
 ·match vs, h with
  | [.ref l, .int c], ⟨xs, hl, e, q⟩ =>
  have hu := hr.units
  refine ⟨_, (a0q (b0q (a1v (c6r hu) (a1t a3q (by rfl) T.b6w boot_len (a0g (pvF 0) a0i)) (pvF 1) (a3p _))
   (a0q a6m)
   a3h)), ?_⟩
  walk_at "rd*"
theorem g7e (T : Tx K mg A) : a1o P A.wd K mg base CX0 6 A.b3g A.d6y ["values"] (i0k A 0) := by
 have a4h : a1o P A.wd K mg base CX0 1 _ _ _ _ := g7d T
 have a8k : a1o P A.wd K mg base CX0 4 _ _ _ _ := h2i T
 have g2u : a1o P A.wd K mg base CX0 1 _ _ _ _ := h5g T
 have a3t := T.a3t
 have a2w := T.a2w
 refine T.c8t.ok g6j (fun vs H Q E h => ?_) (fun cdv A' outer s H vs Q E hr h => ?_)
 ·match vs, h with
  | [.ref l], _ => rfl
 ·match vs, h with
  | [.ref l], ⟨d, hk, ok, hl, q⟩ =>
  cases d with
  | gain y =>
   have hu := hr.units
   have a3i : a3g 1 _ := hr.mono (by decide)
   have a6j : a3g 4 _ := hr.mono (by decide)
   have g0q : a3g 2 _ := hr.mono (by decide)
   replace hl : H l = some (.lst [.str (fW y)]) := hl
   refine ⟨_, (a0n (b8o (a0u a4h a3i (by rfl) T.b0m T.a4r.kp T.a6i .nil a0r (a0g (pvF 0) (a0g a0l a0i))))
   (a0q (a1i (c4i T.i5r g2u g0q (by rfl) T.f1y T.d3j .nil a0r (a0g (a0u a8k a6j (by rfl) T.b9r T.a8i.kp T.b1n .nil a0r (a0g (a1r a5o (pvF 0) a0l (fun _ _ => rfl)) a0i)) a0i))))), ?_⟩
   walk_at "rd"
   refine ⟨_, hl, rfl, ?_⟩
   walk_at "rd*"
   refine ⟨y, rfl, ok, ?_⟩
   rintro _ H1 ⟨g, rfl, n1, S1, h1⟩
   walk_at "rd"
   intro x dx H2 n2 n3 nx S2 hdx hx
   refine ⟨dx, hx, fun H3 B3 h3 => ?_⟩
   rw [asNew]
   refine ⟨rfl, ?_⟩
   have gx : g ≠ x := fun e => by rw [e] at h1; rw [h1] at n2; cases n2
   refine q x H3 (S1.free n2) (fun b u e => B3 _ _ (fun z => by rw [z] at e; rw [S1 _ _ e] at n2; cases n2) (S2 _ _ (S1 _ _ e))) ⟨dx, _, h3, g, rfl, B3 _ _ gx (S2 _ _ h1)⟩
  | _ => simp [Dt.kd] at hk
theorem g2v (T : Tx K mg A) : a1o P A.wd K mg base CX0 6 A.b0j A.d2z ["values"] (i0k A 1) := by
 have a4h : a1o P A.wd K mg base CX0 1 _ _ _ _ := g7d T
 have a8j : a1o P A.wd K mg base CX0 3 _ _ _ _ := h5m T
 have g0r : a1o P A.wd K mg base CX0 1 _ _ _ _ := h1q T
 have a2m := T.a2m
 have a3k := T.a3k
 refine T.c3t.ok g2c (fun vs H Q E h => ?_) (fun cdv A' outer s H vs Q E hr h => ?_)
 ·match vs, h with
  | [.ref l], _ => rfl
 ·match vs, h with
  | [.ref l], ⟨d, hk, ok, hl, q⟩ =>
  cases d with
  | delay n =>
   have hu := hr.units
   have a3i : a3g 1 _ := hr.mono (by decide)
   have a6l : a3g 3 _ := hr.mono (by decide)
   have f7u : a3g 2 _ := hr.mono (by decide)
   have ok : n <= 1000 := ok
   replace hl : H l = some (.lst [.str (nW n)]) := hl
   refine ⟨_, (a0n (b8o (a0u a4h a3i (by rfl) T.b0m T.a4r.kp T.a6i .nil a0r (a0g (pvF 0) (a0g a0l a0i))))
   (a0q (a1i (c4i T.i0h g0r f7u (by rfl) T.d5t T.c8r .nil a0r (a0g (a0u a8j a6l (by rfl) T.b7n T.a6h.kp T.b0l .nil a0r (a0g (a1r a5o (pvF 0) a0l (fun _ _ => rfl)) (a0g a0l (a0g (a8s (v := .int 1000) (by rfl) T.b2m T.d8s) a0i)))) a0i))))), ?_⟩
   walk_at "rd"
   refine ⟨_, hl, rfl, ?_⟩
   walk_at "rd*"
   refine ⟨n, h4r n, by omega, by omega, by omega, ?_⟩
   intro x dx H2 n2 n3 nx S2 hdx hx
   refine ⟨dx, hx, fun H3 B3 h3 => ?_⟩
   rw [asNew]
   refine ⟨rfl, ?_⟩
   exact q x H3 n2 (fun b u e => B3 _ _ (fun z => by rw [z] at e; rw [e] at n2; cases n2) (S2 _ _ e)) ⟨dx, _, h3, rfl⟩
  | _ => simp [Dt.kd] at hk
theorem g7f (T : Tx K mg A) : a1o P A.wd K mg base CX0 6 A.b3h A.d6z ["values"] (i0k A 2) := by
 have a4h : a1o P A.wd K mg base CX0 1 _ _ _ _ := g7d T
 have a8k : a1o P A.wd K mg base CX0 4 _ _ _ _ := h2i T
 have c0g : a1o P A.wd K mg base CX0 4 _ _ _ _ := i1a T
 have a8j : a1o P A.wd K mg base CX0 3 _ _ _ _ := h5m T
 have g2w : a1o P A.wd K mg base CX0 2 _ _ _ _ := h5e T
 have a2t := T.a2t
 have a2j := T.a2j
 have a2k := T.a2k
 have a1u := T.a1u
 have a1q := T.a1q
 have a0s := T.a0s
 refine T.c8u.ok g6k (fun vs H Q E h => ?_) (fun cdv A' outer s H vs Q E hr h => ?_)
 ·match vs, h with
  | [.ref l], _ => rfl
 ·match vs, h with
  | [.ref l], ⟨d, hk, ok, hl, q⟩ =>
  cases d with
  | echo y n t =>
   have hu := hr.units
   have a3i : a3g 1 _ := hr.mono (by decide)
   have a6j : a3g 4 _ := hr.mono (by decide)
   have b6o : a3g 4 _ := hr.mono (by decide)
   have a6l : a3g 3 _ := hr.mono (by decide)
   have g0s : a3g 3 _ := hr.mono (by decide)
   obtain ⟨oy, na, nb, tb⟩ := ok
   replace hl : H l = some (.lst [.str (fW y), .str (nW n), .str (nW t)]) := hl
   refine ⟨_, (a0n (b8o (a0u a4h a3i (by rfl) T.b0m T.a4r.kp T.a6i .nil a0r (a0g (pvF 0) (a0g a0l a0i))))
   (a0q (a1i (c4i T.i5s g2w g0s (by rfl) T.f1z T.d3k .nil a0r (a0g (a0u a8k a6j (by rfl) T.b9r T.a8i.kp T.b1n .nil a0r (a0g (a1r a5o (pvF 0) a0l (fun _ _ => rfl)) a0i)) (a0g (a0u c0g b6o (by rfl) T.d3o T.b1o.kp T.b9s .nil a0r (a0g (a1r a5o (pvF 0) a0l (fun _ _ => rfl)) a0i)) (a0g (a0u a8j a6l (by rfl) T.b7n T.a6h.kp T.b0l .nil a0r (a0g (a1r a5o (pvF 0) a0l (fun _ _ => rfl)) (a0g a0l (a0g (a8s (v := .int 16) (by rfl) T.b3t T.f7l) a0i)))) a0i))))))), ?_⟩
   walk_at "rd"
   refine ⟨_, hl, rfl, ?_⟩
   walk_at "rd*"
   refine ⟨y, rfl, oy, ?_⟩
   rintro _ H1 ⟨g, rfl, n1, S1, h1⟩
   have hl1 := S1 _ _ hl
   clear hl
   walk_at "rd*"
   refine ⟨n, rfl, na, nb, t, h4r t, by omega, by omega, by omega, ?_⟩
   intro x dx H2 n2 n3 nx S2 hdx hx
   refine ⟨dx, n, t, y.num, (y.den : Int), rfl, rfl, tb, oy.b.1, oy.b.2, S2 _ _ h1, hx, fun fa H3 B3 nf h3 hf => ?_⟩
   rw [asNew]
   refine ⟨rfl, ?_⟩
   have gx : g ≠ x := fun e => by rw [e] at h1; rw [h1] at n2; cases n2
   exact q x H3 (S1.free n2) (fun b u e => B3 _ _ (fun z => by rw [z] at e; rw [S1 _ _ e] at n2; cases n2) (S2 _ _ (S1 _ _ e))) ⟨dx, _, h3, g, fa, rfl, B3 _ _ gx (S2 _ _ h1), hf⟩
  | _ => simp [Dt.kd] at hk
theorem g7g (T : Tx K mg A) : a1o P A.wd K mg base CX0 6 A.b3i A.d7g ["values"] (i0k A 3) := by
 have a4h : a1o P A.wd K mg base CX0 1 _ _ _ _ := g7d T
 have a8k : a1o P A.wd K mg base CX0 4 _ _ _ _ := h2i T
 have c0g : a1o P A.wd K mg base CX0 4 _ _ _ _ := i1a T
 have g2x : a1o P A.wd K mg base CX0 1 _ _ _ _ := h5h T
 have a3u := T.a3u
 have a2y := T.a2y
 have a2z := T.a2z
 refine T.c8v.ok g6l (fun vs H Q E h => ?_) (fun cdv A' outer s H vs Q E hr h => ?_)
 ·match vs, h with
  | [.ref l], _ => rfl
 ·match vs, h with
  | [.ref l], ⟨d, hk, ok, hl, q⟩ =>
  cases d with
  | back y n =>
   have hu := hr.units
   have a3i : a3g 1 _ := hr.mono (by decide)
   have a6j : a3g 4 _ := hr.mono (by decide)
   have b6o : a3g 4 _ := hr.mono (by decide)
   have g0t : a3g 2 _ := hr.mono (by decide)
   obtain ⟨oy, na, nb⟩ := ok
   replace hl : H l = some (.lst [.str (fW y), .str (nW n)]) := hl
   refine ⟨_, (a0n (b8o (a0u a4h a3i (by rfl) T.b0m T.a4r.kp T.a6i .nil a0r (a0g (pvF 0) (a0g a0l a0i))))
   (a0q (a1i (c4i T.i5t g2x g0t (by rfl) T.f2g T.d3l .nil a0r (a0g (a0u a8k a6j (by rfl) T.b9r T.a8i.kp T.b1n .nil a0r (a0g (a1r a5o (pvF 0) a0l (fun _ _ => rfl)) a0i)) (a0g (a0u c0g b6o (by rfl) T.d3o T.b1o.kp T.b9s .nil a0r (a0g (a1r a5o (pvF 0) a0l (fun _ _ => rfl)) a0i)) a0i)))))), ?_⟩
   walk_at "rd"
   refine ⟨_, hl, rfl, ?_⟩
   walk_at "rd*"
   refine ⟨y, rfl, oy, ?_⟩
   rintro _ H1 ⟨g, rfl, n1, S1, h1⟩
   have hl1 := S1 _ _ hl
   clear hl
   walk_at "rd*"
   refine ⟨n, rfl, na, nb, ?_⟩
   intro x dx H2 n2 n3 nx S2 hdx hx
   refine ⟨dx, hx, fun H3 B3 h3 => ?_⟩
   rw [asNew]
   refine ⟨rfl, ?_⟩
   have gx : g ≠ x := fun e => by rw [e] at h1; rw [h1] at n2; cases n2
   exact q x H3 (S1.free n2) (fun b u e => B3 _ _ (fun z => by rw [z] at e; rw [S1 _ _ e] at n2; cases n2) (S2 _ _ (S1 _ _ e))) ⟨dx, _, h3, g, rfl, B3 _ _ gx (S2 _ _ h1)⟩
  | _ => simp [Dt.kd] at hk
theorem g7h (T : Tx K mg A) : a1o P A.wd K mg base CX0 6 A.b3j A.d7h ["values"] (i0k A 4) := by
 have a4h : a1o P A.wd K mg base CX0 1 _ _ _ _ := g7d T
 have a8k : a1o P A.wd K mg base CX0 4 _ _ _ _ := h2i T
 have c0g : a1o P A.wd K mg base CX0 4 _ _ _ _ := i1a T
 have h2j : a1o P A.wd K mg base CX0 1 _ _ _ _ := i0o T
 have g7i : a1o P A.wd K mg base CX0 1 _ _ _ _ := h5a T
 have g2y : a1o P A.wd K mg base CX0 1 _ _ _ _ := h5i T
 have a4k := T.a4k
 have a4i := T.a4i
 have a4j := T.a4j
 refine T.c8w.ok f4r (fun vs H Q E h => ?_) (fun cdv A' outer s H vs Q E hr h => ?_)
 ·match vs, h with
  | [.ref l], _ => rfl
 ·match vs, h with
  | [.ref l], ⟨d, hk, ok, hl, q⟩ =>
  cases d with
  | hall y n =>
   have hu := hr.units
   have a3i : a3g 1 _ := hr.mono (by decide)
   have a6j : a3g 4 _ := hr.mono (by decide)
   have b6o : a3g 4 _ := hr.mono (by decide)
   have g7j : a3g 1 _ := hr.mono (by decide)
   have g2z : a3g 1 _ := hr.mono (by decide)
   have g0u : a3g 2 _ := hr.mono (by decide)
   obtain ⟨oy, yl, na, nb⟩ := ok
   replace hl : H l = some (.lst [.str (fW y), .str (nW n)]) := hl
   refine ⟨_, (a0n (b8o (a0u a4h a3i (by rfl) T.b0m T.a4r.kp T.a6i .nil a0r (a0g (pvF 0) (a0g a0l a0i))))
   (a0n (a1h (i := 1) f4r.nd rfl (Or.inl rfl) (a0u a8k a6j (by rfl) T.b9r T.a8i.kp T.b1n .nil a0r (a0g (a1r a5o (pvF 0) a0l (fun _ _ => rfl)) a0i)))
   (a0n (b0q (f0i (c1u (a0u g7i g2z (by rfl) T.g6o T.c3r.kp T.d7n .nil a0r (a0g (a0u h2j g7j (by rfl) T.h0l T.c8p.kp T.f1l .nil a0r (a0g (pvF 1) a0i)) (a0g (b0o (a0g a0l (a0g a0l a0i))) a0i)))))
   (a0q a6m)
   a3h)
   (a0q (a1i (c4i T.i5u g2y g0u (by rfl) T.f2h T.d3m .nil a0r (a0g (pvF 1) (a0g (a0u c0g b6o (by rfl) T.d3o T.b1o.kp T.b9s .nil a0r (a0g (a1r a5o (pvF 0) a0l (fun _ _ => rfl)) a0i)) a0i)))))))), ?_⟩
   walk_at "rd"
   refine ⟨_, hl, rfl, ?_⟩
   walk_at "rd*"
   refine ⟨y, rfl, oy, ?_⟩
   rintro _ H1 ⟨g, rfl, n1, S1, h1⟩
   have hl1 := S1 _ _ hl
   clear hl
   walk_at "rd"
   refine ⟨y, h1, ?_⟩
   rintro _ H2 ⟨a, rfl, n2, S2, h2⟩
   walk_at "rd"
   refine fun u H3 n3 S3 h3 => ?_
   have h3' : H3 u = some (.tup (c7l 1)) := h3
   have S13 := S2.trans S3
   have b1 := oy.b.1
   have b2 := oy.b.2
   have ab := h5j b1
   have hl3 := S13 _ _ hl1
   clear h3 hl1
   have un : (Rat.abs y).num * ((1 : Rat).den : Int) < (1 : Rat).num * ((Rat.abs y).den : Int) := by
    rw [g2m, g2n]
    show (y.num.natAbs : Int) * 1 < 1 * (y.den : Int)
    omega
   walk_at "rd"
   refine ⟨Rat.abs y, 1, ⟨S3 _ _ h2, h3', by omega, by rw [g2n]; omega, by decide, by decide⟩, ?_⟩
   walk_at "rd*"
   refine ⟨n, rfl, na, nb, ?_⟩
   intro x dx H4 n4 n5 nx S4 hdx hx
   refine ⟨dx, hx, fun H5 B5 h5 => ?_⟩
   rw [asNew]
   refine ⟨rfl, ?_⟩
   have h1' := S13 _ _ h1
   have S03 := S1.trans S13
   have gx : g ≠ x := fun e => by rw [e] at h1'; rw [h1'] at n4; cases n4
   exact q x H5 (S03.free n4) (fun b u e => B5 _ _ (fun z => by rw [z] at e; rw [S03 _ _ e] at n4; cases n4) (S4 _ _ (S03 _ _ e))) ⟨dx, _, h5, g, rfl, B5 _ _ gx (S4 _ _ h1')⟩
  | _ => simp [Dt.kd] at hk
theorem Crn.i6n {l : Addr} {H H' : Hp} {ps : List Addr} {cs : List (Int × Rat)} {xs : List V} (h : Crn H ps cs) (hl : H l = some (.lst xs)) (S : a9t l H H') : Crn H' ps cs :=
 ⟨h.1, fun i p c e1 e2 => (h.2 i p c e1 e2).elim fun g z => ⟨g, S _ _ (fun e => by have := z.1; rw [e, hl] at this; cases this) z.1, S _ _ (fun e => by have := z.2; rw [e, hl] at this; cases this) z.2⟩⟩
theorem Crn.nil {H : Hp} : Crn H [] [] := ⟨rfl, fun i p r e => by simp at e⟩
theorem Crn.snoc {H : Hp} {ps : List Addr} {cs : List (Int × Rat)} {p g : Addr} {a : Int} {y : Rat} (h : Crn H ps cs) (hp : H p = some (.tup [.int a, .ref g])) (hg : H g = some (.tup (c7l y))) : Crn H (ps ++ [p]) (cs ++ [(a, y)]) := by
 refine ⟨by rw [List.length_append, List.length_append, h.1]; rfl, fun i p' c' e1 e2 => ?_⟩
 by_cases hi : i < ps.length
 ·rw [List.getElem?_append_left hi] at e1
  rw [List.getElem?_append_left (by rw [<- h.1]; exact hi)] at e2
  exact h.2 i p' c' e1 e2
 ·rw [List.getElem?_append_right (by omega)] at e1
  rw [List.getElem?_append_right (by rw [<- h.1]; omega)] at e2
  rw [<- h.1] at e2
  cases hz : i - ps.length with
  | zero =>
   rw [hz] at e1 e2
   simp at e1 e2
   subst e1 e2
   exact ⟨g, hp, hg⟩
  | succ n =>
   rw [hz] at e1
   simp at e1
theorem i8y (T : Tx K mg A) : a1o P A.wd K mg base CX0 5 A.a7z A.c2j ["text"] j1r := by
 have a8k : a1o P A.wd K mg base CX0 4 _ _ _ _ := h2i T
 have a8j : a1o P A.wd K mg base CX0 3 _ _ _ _ := h5m T
 refine T.b3r.ok d1w (fun vs H Q E h => ?_) (fun cdv A' outer s H vs Q E hr h => ?_)
 ·match vs, h with
  | [.str x], _ => rfl
 ·match vs, h with
  | [.str x], ⟨c, hx, c0, c1, oy, q⟩ =>
  subst hx
  have hu := hr.units
  have a6j : a3g 4 _ := hr.mono (by decide)
  have a6l : a3g 3 _ := hr.mono (by decide)
  have sp := f9q (c := c)
  have cl := h6w (c := c) (by omega) oy.b.1 oy.b.2
  have hs : sizeLine = 16777216 := sizeLine_eq
  have d1 : ((⟨#[61]⟩ : Str).length == 0) = false := rfl
  have d2 : (cW c).length <= sizeLine := by omega
  refine ⟨_, (a0n (a1h (i := 1) d1w.nd rfl (Or.inl rfl) (c2v b5z PySem.F.plainAttrs_str PySem.F.slot_str_split PySem.F.type_str_split d9t (pvF 0) (a0g a2u a0i)))
   (a0n (b0q (a1v (c6r hu) (a1t a3q (by rfl) T.b6w boot_len (a0g (pvF 1) a0i)) a0l (a3p _))
   (a0q a6m)
   a3h)
   (a0q (a1i (b0o (a0g (a0u a8j a6l (by rfl) T.b7n T.a6h.kp T.b0l .nil a0r (a0g (a1r a5o (pvF 1) a0l (fun _ _ => rfl)) (a0g a0l (a0g (a8s (v := .int 100000) (by rfl) T.c3w T.g6r) a0i)))) (a0g (a0u a8k a6j (by rfl) T.b9r T.a8i.kp T.b1n .nil a0r (a0g (a1r a5o (pvF 1) a0l (fun _ _ => rfl)) a0i)) a0i))))))), ?_⟩
  rw [i8s]
  walk_at "rd*"
  refine ⟨by omega, fun l H1 n1 S1 h1 => ?_⟩
  walk_at "rd*"
  have e : ((c.1.toNat : Nat) : Int) = c.1 := Int.toNat_of_nonneg c0
  refine ⟨c.1.toNat, by rw [c6s, e], by omega, by omega, by omega, c.2, rfl, oy, ?_⟩
  rw [e]
  rintro _ H2 ⟨g, rfl, n2, S2, h2⟩
  walk_at "rd"
  intro p H3 n3 S3 h3
  exact q p g H3 ((S1.trans S2).free n3) (S1.trans (S2.trans S3)) h3 (S3 _ _ h2)
theorem g3a (T : Tx K mg A) : a1o P A.wd K mg base CX0 7 A.b0k A.d3g ["values"] (i0k A 5) := by
 have a4h : a1o P A.wd K mg base CX0 1 _ _ _ _ := g7d T
 have f7v : a1o P A.wd K mg base CX0 5 _ _ _ _ := i8y T
 have c9s : a1o P A.wd K mg base CX0 5 _ _ _ _ := g0n T
 have a1s := T.a1s
 have a0z := T.a0z
 have a1g := T.a1g
 have a1j := T.a1j
 refine T.c3u.ok c4k (fun vs H Q E h => ?_) (fun cdv A' outer s H vs Q E hr h => ?_)
 ·match vs, h with
  | [.ref l], _ => rfl
 ·match vs, h with
  | [.ref l], ⟨d, hk, ok, hl, q⟩ =>
  cases d with
  | swell cs =>
   have hu := hr.units
   have a3i : a3g 1 _ := hr.mono (by decide)
   have f3y : a3g 5 _ := hr.mono (by decide)
   have c5w : a3g 6 _ := hr.mono (by decide)
   have ok : f8h cs := ok
   have L1 := ok.2.2.1
   have L12 := ok.2.2.2
   have hs : sizeLine = 16777216 := sizeLine_eq
   have jl := ok.i7j
   have sp := f6i L1
   have d1 : ((⟨#[44]⟩ : Str).length == 0) = false := rfl
   replace hl : H l = some (.lst [.str (Str.join ⟨#[44]⟩ (cs.map cW))]) := hl
   refine ⟨_, (a0n (b8o (a0u a4h a3i (by rfl) T.b0m T.a4r.kp T.a6i .nil a0r (a0g (pvF 0) (a0g a0l a0i))))
   (a0n (g1q (i := 1) c4k.nd rfl rfl (b5k (c2v b5z PySem.F.plainAttrs_str PySem.F.slot_str_split PySem.F.type_str_split d9t (a1r a5o (pvF 0) a0l (fun _ _ => rfl)) (a0g a2u a0i))) (fun _ _ _ _ _ => (a0u f7v f3y (by rfl) T.f6v T.b3r.kp T.c5o .nil a0r (a0g (pvF 0) a0i))) (d9g (sc := a0h b4o) (N := ["values", "corners", "left", "right"]) rfl rfl (by decide +kernel)) rfl)
   (a0n (b0q (a1v g1p (a1t a3q (by rfl) T.b6w boot_len (a0g (pvF 1) a0i)) (a8s (v := .int 12) (by rfl) T.a9s T.f2i) (a3p _))
   (a0q a6m)
   a3h)
   (a0n (c4g PassesOwn.never rfl (g9t (by rfl) T.g2i (a0g (pvF 1) (a0g (a6n j1k (pvF 1) (a5t a0l) b0w) a0i))) (g9r (n := 2) rfl (d5k (b2q (i := 2) c4k.nd rfl (Or.inl rfl)) (d5k (b2q (i := 3) c4k.nd rfl (Or.inl rfl)) g3u)))
   (a0q (b0q (a1v h3v (a1r a5o (pvF 2) a0l (fun _ _ => rfl)) (a1r a5o (pvF 3) a0l (fun _ _ => rfl)) (a3p _))
   (a0q a6m)
   a3h)))
   (a0q (a1i (c4i T.h0o c9s c5w (by rfl) T.d1n T.c1q .nil a0r (a0g (pvF 1) a0i)))))))), ?_⟩
   rw [h4s]
   walk_at "rd"
   refine ⟨_, hl, rfl, ?_⟩
   walk_at "rd*"
   refine ⟨by omega, by omega, fun a H1 n1 S1 h1 => ?_⟩
   walk_at "rd"
   refine ⟨⟨_, SqL.of h1⟩, fun D H2 n2 S2 h2 => ?_⟩
   refine d6p (xs := (cs.map cW).map V.str) (fun i ys H' => Same H1 H' /\ H' D = some (.lst ys) /\ ∃ ps, ys = ps.map V.ref /\ Crn H' ps (cs.take i)) ⟨S2, h2, [], rfl, by rw [List.take_zero]; exact Crn.nil⟩ (by rw [List.length_map, List.length_map, hs]; omega) ?_ ?_ ?_
   ·intro i ys H' hi ⟨S', h', ps, e, R⟩
    rw [List.length_map, List.length_map] at hi
    exact ⟨h', SqL.of (S' _ _ h1), by rw [e, List.length_map, R.1, List.length_take]; omega⟩
   ·intro i x ys H' hx ⟨S', h', ps, e, R⟩
    rw [List.map_map, List.getElem?_map] at hx
    obtain ⟨c, hc, rfl⟩ := Option.map_eq_some_iff.mp hx
    obtain ⟨o1, o2, oy⟩ := ok.1 c (List.mem_of_getElem? hc)
    walk_at "rd"
    refine ⟨c, rfl, o1, o2, oy, fun p g H3 n3 S3 h3 hg => ⟨S3 _ _ h', fun H4 B4 h4 => ⟨(S'.trans S3).step n2 B4, h4, ps ++ [p], by rw [e, List.map_append]; rfl, ?_⟩⟩⟩
    rw [List.take_add_one, hc]
    exact ((R.same S3).snoc h3 hg).i6n (S3 _ _ h') B4
   ·intro ys H3 ⟨S3, h3, ps, e, R⟩
    rw [List.length_map, List.length_map, List.take_length] at R
    subst e
    have pl := R.1
    have ln : ¬ (12 : Int) < (cs.length : Int) := by omega
    clear h2 sp jl
    walk_at "rd*"
    refine fun c2 H4 n4 S4 h4 => ?_
    have e2 : d9q (ps.map V.ref) (some 1) none = (ps.drop 1).map V.ref := by
     show f3o (ps.map V.ref) (some ((1 : Nat) : Int)) none = _
     rw [a6p, List.map_drop]
    rw [e2] at h4
    have h34 := S4 _ _ h3
    clear e2 h3
    walk_at "rd*"
    obtain ⟨Pv, pin, pout⟩ := g1s (fun i σ H' => ∃ (v2 v3 : Option V), σ = [some (.ref l), some (.ref D), v2, v3] /\ Same H4 H')
    refine g3w (xs := ps.map V.ref) (ys := (ps.drop 1).map V.ref) Pv (pin _ _ _ ⟨_, _, rfl, Same.refl _⟩) ?_ ?_ ?_
    ·intro i σ H5 hp
     obtain ⟨v2, v3, rfl, S5⟩ := pout _ _ _ hp
     exact ⟨SqL.of (S5 _ _ h34), SqL.of (S5 _ _ h4)⟩
    ·intro i x y σ H5 p H6 hx hy hp np S6 h6
     obtain ⟨v2, v3, rfl, S5⟩ := pout _ _ _ hp
     obtain ⟨pc, c, g, rfl, hc, hpc, hg⟩ := R.get hx
     have hy' : (ps.map V.ref)[i + 1]? = some y := by
      rw [List.map_drop, List.getElem?_drop] at hy
      rwa [Nat.add_comm] at hy
     obtain ⟨pd, d, gd, rfl, hd, hpd, hgd⟩ := R.get hy'
     have lt := ok.2.1 i c d hc hd
     have nlt : ¬ d.1 <= c.1 := by omega
     have SS := S4.trans (S5.trans S6)
     have hpc' := SS _ _ hpc
     have hpd' := SS _ _ hpd
     clear hpc hpd h34 h4 hg hgd
     walk_at "rd*"
     exact pin _ _ _ ⟨_, _, rfl, S5.trans S6⟩
    ·intro σ H5 hp
     obtain ⟨v2, v3, rfl, S5⟩ := pout _ _ _ hp
     walk_at "rd"
     intro x dx H6 n6 n7 nx S6 hdx hx
     have hl6 := S6 _ _ (S5 _ _ h34)
     have S36 := S4.trans (S5.trans S6)
     have S03 := S1.trans S3
     have S05 := S03.trans (S4.trans S5)
     refine ⟨dx, ps, cs, hx, hl6, R.same S36, f8h.crn ok, L1, L12, fun ct ln S ss us H7 B7 nct h7 hct hln TP sok => ?_⟩
     rw [asNew]
     refine ⟨rfl, q x H7 (S05.free n6) (fun b u e => B7 _ _ (fun z => by rw [z] at e; rw [S05 _ _ e] at n6; cases n6) (S6 _ _ (S05 _ _ e))) ⟨dx, _, h7, ct, ln, S, ss, us, ps, rfl, hct, hln, TP, sok, (R.same S36).d1r hx B7⟩⟩
  | _ => simp [Dt.kd] at hk
theorem i1b (T : Tx K mg A) : a1o P A.wd K mg base CX0 8 A.b8z A.d7i ["word"] (h7t A) := by
 have h2l : a1o P A.wd K mg base CX0 6 _ _ _ _ := g7e T
 have g7k : a1o P A.wd K mg base CX0 6 _ _ _ _ := g2v T
 have h2m : a1o P A.wd K mg base CX0 6 _ _ _ _ := g7f T
 have h2n : a1o P A.wd K mg base CX0 6 _ _ _ _ := g7g T
 have h2o : a1o P A.wd K mg base CX0 6 _ _ _ _ := g7h T
 have g7l : a1o P A.wd K mg base CX0 7 _ _ _ _ := g3a T
 refine T.c8y.ok f4s (fun vs H Q E h => ?_) (fun cdv A' outer s H vs Q E hr h => ?_)
 ·match vs, h with
  | [.str x], _ => rfl
 ·match vs, h with
  | [.str x], ⟨d, ok, hx, q⟩ =>
  subst hx
  have hu := hr.units
  have g7m : a3g 6 _ := hr.mono (by decide)
  have g3b : a3g 6 _ := hr.mono (by decide)
  have g7n : a3g 6 _ := hr.mono (by decide)
  have g7o : a3g 6 _ := hr.mono (by decide)
  have g7p : a3g 6 _ := hr.mono (by decide)
  have g3c : a3g 7 _ := hr.mono (by decide)
  have dk := T.g6s
  have sp := d.split
  have wl := d.wlen ok
  have vn := d.vn
  have hs : sizeLine = 16777216 := sizeLine_eq
  have d1 : ((⟨#[58]⟩ : Str).length == 0) = false := rfl
  obtain ⟨f, hf⟩ : ∃ f, PySem.W.nsIn K A.a1w d.kind = some (some (.ref f)) := by
   cases d with
   | gain => exact ⟨_, T.a7h⟩
   | delay => exact ⟨_, T.a5r⟩
   | echo => exact ⟨_, T.a7i⟩
   | back => exact ⟨_, T.a7j⟩
   | hall => exact ⟨_, T.a7k⟩
   | swell => exact ⟨_, T.a5s⟩
  refine ⟨_, (a0n (b0q (f0i (c1u (a1t (d9r .str) (by rfl) T.a7s boot_isinstance (a0g (pvF 0) (a0g (f5n (v := .ty "str") (u := .type "str") (by rfl) T.d7q rfl rfl) a0i)))))
   (a0q a6m)
   a3h)
   (a0n (a1h (i := 1) f4s.nd rfl (Or.inl rfl) (c2v b5z PySem.F.plainAttrs_str PySem.F.slot_str_split PySem.F.type_str_split d9t (pvF 0) (a0g a2u a0i)))
   (a0n (b0q (a1v (h0c (K := K) (w := A.wd) (by rfl) (by rfl)) (a1r a5o (pvF 1) a0l (fun _ _ => rfl)) (a8s (v := .ref A.a1w) (by rfl) T.a7g rfl) (by rfl))
   (a0q a6m)
   a3h)
   (a0q (a1i (a0j (d1i h2l g7m T.c8t.kp T.f1r .nil a0r (a1r (i1s (K := K) (w := A.wd) (by rfl) (by rfl)) (a8s (v := .ref A.a1w) (by rfl) T.a7g rfl) (a1r a5o (pvF 1) a0l (fun _ _ => rfl)) (fun _ _ => rfl)) (a0g (a6n g5v (pvF 1) (a5t a0l) b0w) a0i)) (a0j (d1i g7k g3b T.c3t.kp T.d7o .nil a0r (a1r (i1s (K := K) (w := A.wd) (by rfl) (by rfl)) (a8s (v := .ref A.a1w) (by rfl) T.a7g rfl) (a1r a5o (pvF 1) a0l (fun _ _ => rfl)) (fun _ _ => rfl)) (a0g (a6n g5v (pvF 1) (a5t a0l) b0w) a0i)) (a0j (d1i h2m g7n T.c8u.kp T.f1s .nil a0r (a1r (i1s (K := K) (w := A.wd) (by rfl) (by rfl)) (a8s (v := .ref A.a1w) (by rfl) T.a7g rfl) (a1r a5o (pvF 1) a0l (fun _ _ => rfl)) (fun _ _ => rfl)) (a0g (a6n g5v (pvF 1) (a5t a0l) b0w) a0i)) (a0j (d1i h2n g7o T.c8v.kp T.f1t .nil a0r (a1r (i1s (K := K) (w := A.wd) (by rfl) (by rfl)) (a8s (v := .ref A.a1w) (by rfl) T.a7g rfl) (a1r a5o (pvF 1) a0l (fun _ _ => rfl)) (fun _ _ => rfl)) (a0g (a6n g5v (pvF 1) (a5t a0l) b0w) a0i)) (a0j (d1i h2o g7p T.c8w.kp T.f1u .nil a0r (a1r (i1s (K := K) (w := A.wd) (by rfl) (by rfl)) (a8s (v := .ref A.a1w) (by rfl) T.a7g rfl) (a1r a5o (pvF 1) a0l (fun _ _ => rfl)) (fun _ _ => rfl)) (a0g (a6n g5v (pvF 1) (a5t a0l) b0w) a0i)) (d1i g7l g3c T.c3u.kp T.d7p .nil a0r (a1r (i1s (K := K) (w := A.wd) (by rfl) (by rfl)) (a8s (v := .ref A.a1w) (by rfl) T.a7g rfl) (a1r a5o (pvF 1) a0l (fun _ _ => rfl)) (fun _ _ => rfl)) (a0g (a6n g5v (pvF 1) (a5t a0l) b0w) a0i)))))))))))), ?_⟩
  rw [i8r]
  walk_at "rd*"
  refine ⟨by omega, by omega, fun l H1 n1 S1 h1 => ?_⟩
  clear sp wl
  walk_at "rd*"
  clear hf
  cases d with
  | gain y =>
   refine Or.inl ?_
   have rd := T.a7h
   have q1 := ok
   clear ok
   replace h1 : H1 l = some (.lst [.str (Str.ofString "gain"), .str (fW y)]) := h1
   walk_at "rd*"
   refine fun m H2 n2 S2 h2 => ?_
   have e2 : d9q [V.str (Str.ofString "gain"), V.str (fW y)] (some 1) none = (Dt.gain y).vals.map V.str := by
    show f3o _ (some ((1 : Nat) : Int)) none = _
    rw [a6p]
    rfl
   rw [e2] at h2
   walk_at "rd"
   exact ⟨_, rfl, q1, h2, fun o H3 n3 S3 hp => q o H3 ((S1.trans S2).free n3) (S1.trans (S2.trans S3)) hp⟩
  | delay n =>
   refine Or.inr (Or.inl ?_)
   have rd := T.a5r
   have q1 := ok
   clear ok
   replace h1 : H1 l = some (.lst [.str (Str.ofString "delay"), .str (nW n)]) := h1
   walk_at "rd*"
   refine fun m H2 n2 S2 h2 => ?_
   have e2 : d9q [V.str (Str.ofString "delay"), V.str (nW n)] (some 1) none = (Dt.delay n).vals.map V.str := by
    show f3o _ (some ((1 : Nat) : Int)) none = _
    rw [a6p]
    rfl
   rw [e2] at h2
   walk_at "rd"
   exact ⟨_, rfl, q1, h2, fun o H3 n3 S3 hp => q o H3 ((S1.trans S2).free n3) (S1.trans (S2.trans S3)) hp⟩
  | echo y n t =>
   refine Or.inr (Or.inr (Or.inl ?_))
   have rd := T.a7i
   have q1 := ok
   clear ok
   replace h1 : H1 l = some (.lst [.str (Str.ofString "echo"), .str (fW y), .str (nW n), .str (nW t)]) := h1
   walk_at "rd*"
   refine fun m H2 n2 S2 h2 => ?_
   have e2 : d9q [V.str (Str.ofString "echo"), V.str (fW y), V.str (nW n), V.str (nW t)] (some 1) none = (Dt.echo y n t).vals.map V.str := by
    show f3o _ (some ((1 : Nat) : Int)) none = _
    rw [a6p]
    rfl
   rw [e2] at h2
   walk_at "rd"
   exact ⟨_, rfl, q1, h2, fun o H3 n3 S3 hp => q o H3 ((S1.trans S2).free n3) (S1.trans (S2.trans S3)) hp⟩
  | back y n =>
   refine Or.inr (Or.inr (Or.inr (Or.inl ?_)))
   have rd := T.a7j
   have q1 := ok
   clear ok
   replace h1 : H1 l = some (.lst [.str (Str.ofString "back"), .str (fW y), .str (nW n)]) := h1
   walk_at "rd*"
   refine fun m H2 n2 S2 h2 => ?_
   have e2 : d9q [V.str (Str.ofString "back"), V.str (fW y), V.str (nW n)] (some 1) none = (Dt.back y n).vals.map V.str := by
    show f3o _ (some ((1 : Nat) : Int)) none = _
    rw [a6p]
    rfl
   rw [e2] at h2
   walk_at "rd"
   exact ⟨_, rfl, q1, h2, fun o H3 n3 S3 hp => q o H3 ((S1.trans S2).free n3) (S1.trans (S2.trans S3)) hp⟩
  | hall y n =>
   refine Or.inr (Or.inr (Or.inr (Or.inr (Or.inl ?_))))
   have rd := T.a7k
   have q1 := ok
   clear ok
   replace h1 : H1 l = some (.lst [.str (Str.ofString "hall"), .str (fW y), .str (nW n)]) := h1
   walk_at "rd*"
   refine fun m H2 n2 S2 h2 => ?_
   have e2 : d9q [V.str (Str.ofString "hall"), V.str (fW y), V.str (nW n)] (some 1) none = (Dt.hall y n).vals.map V.str := by
    show f3o _ (some ((1 : Nat) : Int)) none = _
    rw [a6p]
    rfl
   rw [e2] at h2
   walk_at "rd"
   exact ⟨_, rfl, q1, h2, fun o H3 n3 S3 hp => q o H3 ((S1.trans S2).free n3) (S1.trans (S2.trans S3)) hp⟩
  | swell cs =>
   refine Or.inr (Or.inr (Or.inr (Or.inr (Or.inr ?_))))
   have rd := T.a5s
   have q1 := ok
   clear ok
   replace h1 : H1 l = some (.lst [.str (Str.ofString "swell"), .str (Str.join ⟨#[44]⟩ (cs.map cW))]) := h1
   walk_at "rd*"
   refine fun m H2 n2 S2 h2 => ?_
   have e2 : d9q [V.str (Str.ofString "swell"), V.str (Str.join ⟨#[44]⟩ (cs.map cW))] (some 1) none = (Dt.swell cs).vals.map V.str := by
    show f3o _ (some ((1 : Nat) : Int)) none = _
    rw [a6p]
    rfl
   rw [e2] at h2
   walk_at "rd"
   exact ⟨_, rfl, q1, h2, fun o H3 n3 S3 hp => q o H3 ((S1.trans S2).free n3) (S1.trans (S2.trans S3)) hp⟩
theorem b0p {C o : Addr} {i : Nat} {m : Str} {sp : Sp} {E : XK} {t : TA} {σ : L2.St} {H : Hp} {Q : VK} {dx : Addr} {fs : List (Str × V)} (hσ : σ[i]? = some (some (.ref o))) (ho : H o = some (.ins C dx fs)) (hl : fs.lookup m = none) (ht : t σ H fun vs H2 => sp (.ref o :: (vs ++ [])) H2 Q E) : a4s C m sp [] E (a6k i) t σ H Q := by
 simp only [a4s, a6k, hσ, ho]
 exact ⟨trivial, hl, ht⟩
theorem j1z {σ : L2.St} {i : Nat} {o : Addr} {H : Hp} {d : Dt} {S : Int} {ss : List Rat} {Q : VK} {E : XK} {t : TA} (hσ : σ[i]? = some (some (.ref o))) (hd : g2j A H o d S ss) (ht : t σ H fun vs H2 => d5z A d.kd (.ref o :: (vs ++ [])) H2 Q E) :
  a4t (a4s A.a4g "through" (d5z A 0) [] E (a6k i) t) (a4t (a4s A.a2g "through" (d5z A 1) [] E (a6k i) t) (a4t (a4s A.a2i "through" (d5z A 2) [] E (a6k i) t) (a4t (a4s A.a3s "through" (d5z A 3) [] E (a6k i) t) (a4t (a4s A.a3v "through" (d5z A 4) [] E (a6k i) t) (a4s A.a1p "through" (d5z A 5) [] E (a6k i) t))))) σ H Q := by
 cases d with
 | gain y =>
  obtain ⟨dx, _, ho, g, rfl, hg⟩ := hd
  refine .inl ?_
  replace ho : H o = some (.ins A.a4g dx [("gain", .ref g)]) := ho
  exact b0p hσ ho (by walk_at "rd") ht
 | delay n =>
  obtain ⟨dx, _, ho, rfl⟩ := hd
  refine .inr (.inl ?_)
  replace ho : H o = some (.ins A.a2g dx [("many", .int n)]) := ho
  exact b0p hσ ho (by walk_at "rd") ht
 | echo y n t' =>
  obtain ⟨dx, _, ho, g, fa, rfl, hg, hf⟩ := hd
  refine .inr (.inr (.inl ?_))
  replace ho : H o = some (.ins A.a2i dx (ecF g fa n t' (y.den : Int))) := ho
  unfold ecF at ho
  exact b0p hσ ho (by walk_at "rd") ht
 | back y n =>
  obtain ⟨dx, _, ho, g, rfl, hg⟩ := hd
  refine .inr (.inr (.inr (.inl ?_)))
  replace ho : H o = some (.ins A.a3s dx [("gain", .ref g), ("many", .int n)]) := ho
  exact b0p hσ ho (by walk_at "rd") ht
 | hall y n =>
  obtain ⟨dx, _, ho, g, rfl, hg⟩ := hd
  refine .inr (.inr (.inr (.inr (.inl ?_))))
  replace ho : H o = some (.ins A.a3v dx [("gain", .ref g), ("many", .int n)]) := ho
  exact b0p hσ ho (by walk_at "rd") ht
 | swell cs =>
  obtain ⟨dx, _, ho, ct, ln, us, ps, rfl, hct, hln, TP, sok, R⟩ := hd
  refine .inr (.inr (.inr (.inr (.inr ?_))))
  replace ho : H o = some (.ins A.a1p dx [("corners", .ref ct), ("shared", .int S), ("lines", .ref ln)]) := ho
  exact b0p hσ ho (by walk_at "rd") ht
theorem fr6 {σ : L2.St} {i : Nat} {o : Addr} {H : Hp} {d : Dt} {S : Int} {ss : List Rat} {Q : VK} {E : XK} (hσ : σ[i]? = some (some (.ref o))) (hd : g2j A H o d S ss) (q : ∀ st H1, Same H H1 -> (∀ b, StV H1 b [] st d) -> Q st H1) :
  a4t (a4s A.a4g "fresh" d3q [] E (a6k i) d4s) (a4t (a4s A.a2g "fresh" d3q [] E (a6k i) d4s) (a4t (a4s A.a2i "fresh" d3q [] E (a6k i) d4s) (a4t (a4s A.a3s "fresh" d3q [] E (a6k i) d4s) (a4t (a4s A.a3v "fresh" d3q [] E (a6k i) d4s) (a4s A.a1p "fresh" f2j [] E (a6k i) d4s))))) σ H Q := by
 have fin : d.kd ≠ 5 -> All (d4z H []) Q ⟨⟩ ⟨⟩ := fun hk => by
  rintro _ H1 ⟨p, rfl, n1, S1, h1⟩
  exact q _ H1 S1 fun b => h5l hk h1 b
 cases d with
 | gain y =>
  obtain ⟨dx, _, ho, g, rfl, hg⟩ := hd
  refine .inl ?_
  replace ho : H o = some (.ins A.a4g dx [("gain", .ref g)]) := ho
  walk_at "rd*"
  exact fin (by simp [Dt.kd])
 | delay n =>
  obtain ⟨dx, _, ho, rfl⟩ := hd
  refine .inr (.inl ?_)
  replace ho : H o = some (.ins A.a2g dx [("many", .int n)]) := ho
  walk_at "rd*"
  exact fin (by simp [Dt.kd])
 | echo y n t' =>
  obtain ⟨dx, _, ho, g, fa, rfl, hg, hf⟩ := hd
  refine .inr (.inr (.inl ?_))
  replace ho : H o = some (.ins A.a2i dx (ecF g fa n t' (y.den : Int))) := ho
  unfold ecF at ho
  walk_at "rd*"
  exact fin (by simp [Dt.kd])
 | back y n =>
  obtain ⟨dx, _, ho, g, rfl, hg⟩ := hd
  refine .inr (.inr (.inr (.inl ?_)))
  replace ho : H o = some (.ins A.a3s dx [("gain", .ref g), ("many", .int n)]) := ho
  walk_at "rd*"
  exact fin (by simp [Dt.kd])
 | hall y n =>
  obtain ⟨dx, _, ho, g, rfl, hg⟩ := hd
  refine .inr (.inr (.inr (.inr (.inl ?_))))
  replace ho : H o = some (.ins A.a3v dx [("gain", .ref g), ("many", .int n)]) := ho
  walk_at "rd*"
  exact fin (by simp [Dt.kd])
 | swell cs =>
  obtain ⟨dx, _, ho, ct, ln, us, ps, rfl, hct, hln, TP, sok, R⟩ := hd
  refine .inr (.inr (.inr (.inr (.inr ?_))))
  replace ho : H o = some (.ins A.a1p dx [("corners", .ref ct), ("shared", .int S), ("lines", .ref ln)]) := ho
  walk_at "rd*"
  exact q _ H (Same.refl _) fun b => rfl
theorem gr6 {σ : L2.St} {i : Nat} {o : Addr} {H : Hp} {d : Dt} {S : Int} {ss : List Rat} {Q : VK} {E : XK} (hσ : σ[i]? = some (some (.ref o))) (hd : g2j A H o d S ss) (q : Q (.int (b9v S d)) H) :
  a4t (a4s A.a4g "grain" (f7m A 0) [] E (a6k i) d4s) (a4t (a4s A.a2g "grain" d9v [] E (a6k i) d4s) (a4t (a4s A.a2i "grain" (f7m A 2) [] E (a6k i) d4s) (a4t (a4s A.a3s "grain" (f7m A 3) [] E (a6k i) d4s) (a4t (a4s A.a3v "grain" d9v [] E (a6k i) d4s) (a4s A.a1p "grain" (f7m A 5) [] E (a6k i) d4s))))) σ H Q := by
 have z := hd
 cases d with
 | gain y =>
  obtain ⟨dx, _, ho, g, rfl, hg⟩ := hd
  refine .inl ?_
  replace ho : H o = some (.ins A.a4g dx [("gain", .ref g)]) := ho
  exact b0p hσ ho (by walk_at "rd") ⟨_, S, ss, rfl, z, q⟩
 | delay n =>
  obtain ⟨dx, _, ho, rfl⟩ := hd
  refine .inr (.inl ?_)
  replace ho : H o = some (.ins A.a2g dx [("many", .int n)]) := ho
  walk_at "rd*"
  exact q
 | echo y n t' =>
  obtain ⟨dx, _, ho, g, fa, rfl, hg, hf⟩ := hd
  refine .inr (.inr (.inl ?_))
  replace ho : H o = some (.ins A.a2i dx (ecF g fa n t' (y.den : Int))) := ho
  unfold ecF at ho
  exact b0p hσ ho (by walk_at "rd") ⟨_, S, ss, rfl, z, q⟩
 | back y n =>
  obtain ⟨dx, _, ho, g, rfl, hg⟩ := hd
  refine .inr (.inr (.inr (.inl ?_)))
  replace ho : H o = some (.ins A.a3s dx [("gain", .ref g), ("many", .int n)]) := ho
  exact b0p hσ ho (by walk_at "rd") ⟨_, S, ss, rfl, z, q⟩
 | hall y n =>
  obtain ⟨dx, _, ho, g, rfl, hg⟩ := hd
  refine .inr (.inr (.inr (.inr (.inl ?_))))
  replace ho : H o = some (.ins A.a3v dx [("gain", .ref g), ("many", .int n)]) := ho
  walk_at "rd*"
  exact q
 | swell cs =>
  obtain ⟨dx, _, ho, ct, ln, us, ps, rfl, hct, hln, TP, sok, R⟩ := hd
  refine .inr (.inr (.inr (.inr (.inr ?_))))
  replace ho : H o = some (.ins A.a1p dx [("corners", .ref ct), ("shared", .int S), ("lines", .ref ln)]) := ho
  exact b0p hσ ho (by walk_at "rd") ⟨_, S, ss, rfl, z, q⟩
theorem h2p (T : Tx K mg A) : a1o P A.wd K mg base CX0 1 A.a4u A.b0t ["one"] j1s := by
 refine T.a2n.ok a5q (fun vs H Q E h => ?_) (fun cdv A' outer s H vs Q E hr h => ?_)
 ·match vs, h with
  | [.ref p], _ => rfl
 ·match vs, h with
  | [.ref p], ⟨x, hp, l1, l2, q⟩ =>
  have hu := hr.units
  unfold c7l at hp
  have fl := d1u l1 l2
  have g1 := b8s (intBits_le_iff.mp l1) (by decide)
  have g2 := b8s (intBits_le_iff.mp l2) (by decide)
  have a := c1v (intBits_le_iff.mp l1) (by decide)
  have b := c1v (intBits_le_iff.mp l2) (by decide)
  have e0 : Str.empty.length = 0 := rfl
  have e1 : (Str.ofString "/").length = 1 := by decide +kernel
  have hs : sizeLine = 16777216 := sizeLine_eq
  unfold fW at q
  refine ⟨_, (a0n (a1h (i := 1) a5q.nd rfl (Or.inl rfl) (a1r a5o (pvF 0) a0l (fun _ _ => rfl)))
   (a0n (a1h (i := 2) a5q.nd rfl (Or.inl rfl) (a1r a5o (pvF 0) a0l (fun _ _ => rfl)))
   (a0q (a1i (b2s (a3w (b6y (pvF 1)) (a3w a2u (a3w (b6y (pvF 2)) d5i)))))))), ?_⟩
  walk_at "rd*"
  simp only [strLen_append, e0, e1]
  refine ⟨by omega, by omega, by omega, by omega, by omega, by omega⟩
theorem i8z (T : Tx K mg A) : a1o P A.wd K mg base CX0 2 A.a7v A.c1y ["corner"] j1t := by
 have a2o : a1o P A.wd K mg base CX0 1 _ _ _ _ := h2p T
 refine T.b3m.ok c1w (fun vs H Q E h => ?_) (fun cdv A' outer s H vs Q E hr h => ?_)
 ·match vs, h with
  | [.ref p], _ => rfl
 ·match vs, h with
  | [.ref p], ⟨c, g, hp, hg, l0, l1, l2, q⟩ =>
  have hu := hr.units
  have a2h : a3g 1 _ := hr.mono (by decide)
  have g0 := b8s l0 (by decide)
  have a := c1v l0 (by decide)
  have b := d1u l1 l2
  have e0 : Str.empty.length = 0 := rfl
  have e1 : (Str.ofString "=").length = 1 := by decide +kernel
  have hs : sizeLine = 16777216 := sizeLine_eq
  unfold cW at q
  refine ⟨_, (a0n (a1h (i := 1) c1w.nd rfl (Or.inl rfl) (a1r a5o (pvF 0) a0l (fun _ _ => rfl)))
   (a0n (a1h (i := 2) c1w.nd rfl (Or.inl rfl) (a0u a2o a2h (by rfl) T.a6z T.a2n.kp T.a4y .nil a0r (a0g (a1r a5o (pvF 0) a0l (fun _ _ => rfl)) a0i)))
   (a0q (a1i (b2s (a3w (b6y (pvF 1)) (a3w a2u (a3w (b6y (pvF 2)) d5i)))))))), ?_⟩
  walk_at "rd*"
  refine ⟨c.2, rfl, l1, l2, ?_⟩
  simp only [strLen_append, e0, e1]
  exact ⟨by omega, by omega, by omega, by omega, by omega, by omega, q⟩
theorem h2q {K : PySem.W.Frag} {a D : Addr} {xs : List V} {te : TE} {σ : L2.St} {H0 H : Hp} {Q : VK} (zs : List V) (hz : zs.length = xs.length) (n0 : H0 D = none) (S : Same H0 H) (hD : H D = some (.lst [])) (hS : H0 a = some (.tup xs)) (hsz : xs.length <= sizeLine)
  (hs : ∀ (i : Nat) x z H' (Q' : VK), xs[i]? = some x -> zs[i]? = some z -> Same H0 H' -> Q' z H' -> te (some x :: σ) H' Q') (q : ∀ H', Same H0 H' -> H' D = some (.lst zs) -> Q (.ref D) H') : f5w (Itt K a) te D σ H Q ⟨⟩ := by
 refine f9m (fun i ys H' => Same H0 H' /\ H' D = some (.lst ys) /\ ys = zs.take i) ⟨S, hD, by simp⟩ hsz (fun i ys H' hi p => ?_) (fun i x ys H' hx p => ?_) (fun ys H' p => ?_)
 ·refine ⟨p.2.1, SqT.of (p.1 _ _ hS), ?_⟩
  rw [p.2.2, List.length_take]
  omega
 ·have hi : i < zs.length := by rw [hz]; exact (List.getElem?_eq_some_iff.mp hx).1
  have hzi : zs[i]? = some zs[i] := List.getElem?_eq_getElem hi
  refine hs i x _ H' _ hx hzi p.1 ⟨p.2.1, fun H3 s3 h3 => ⟨p.1.step n0 s3, h3, ?_⟩⟩
  rw [p.2.2, List.take_add_one, hzi]
  rfl
 ·refine q H' p.1 ?_
  rw [p.2.1, p.2.2, <- hz, List.take_length]
theorem i9a (T : Tx K mg A) : a1o P A.wd K mg base CX0 2 A.a9g A.c7w ["self"] (g6t A 0) := by
 have a2o : a1o P A.wd K mg base CX0 1 _ _ _ _ := h2p T
 have a3t := T.a3t
 have a2w := T.a2w
 refine T.c4y.ok d8m (fun vs H Q E h => ?_) (fun cdv A' outer s H vs Q E hr h => ?_)
 ·match vs, h with
  | [.ref o], _ => rfl
 ·match vs, h with
  | [.ref o], ⟨d, hk, hd, ok, q⟩ =>
  cases d with
  | gain y =>
   obtain ⟨dx, _, ho, g, rfl, hg⟩ := hd
   have ok : YOk y := ok
   replace ho : H o = some (.ins A.a4g dx [("gain", .ref g)]) := ho
   have hu := hr.units
   have a2h : a3g 1 _ := hr.mono (by decide)
   have a := d1u ok.b.1 ok.b.2
   have e0 : Str.empty.length = 0 := rfl
   have e1 : (Str.ofString "gain:").length = 5 := by decide +kernel
   have hs : sizeLine = 16777216 := sizeLine_eq
   refine ⟨_, (a0n (a1h (i := 1) d8m.nd rfl (Or.inl rfl) (a0u a2o a2h (by rfl) T.a6z T.a2n.kp T.a4y .nil a0r (a0g (a1z (pvF 0) rfl) a0i)))
   (a0q (a1i (b2s (a3w a2u (a3w (b6y (pvF 1)) d5i)))))), ?_⟩
   walk_at "rd*"
   refine ⟨y, rfl, ok.b.1, ok.b.2, ?_⟩
   simp only [strLen_append, e0, e1]
   exact ⟨by omega, by omega, by omega, by rw [h6z]; exact q _ (Same.refl _)⟩
  | _ => simp [Dt.kd] at hk
theorem i9b (T : Tx K mg A) : a1o P A.wd K mg base CX0 1 A.a7o A.c4r ["self"] (g6t A 1) := by
 have a2m := T.a2m
 have a3k := T.a3k
 refine T.c1j.ok d5n (fun vs H Q E h => ?_) (fun cdv A' outer s H vs Q E hr h => ?_)
 ·match vs, h with
  | [.ref o], _ => rfl
 ·match vs, h with
  | [.ref o], ⟨d, hk, hd, ok, q⟩ =>
  cases d with
  | delay n =>
   obtain ⟨dx, _, ho, rfl⟩ := hd
   have ok : n <= 1000 := ok
   replace ho : H o = some (.ins A.a2g dx [("many", .int n)]) := ho
   have hu := hr.units
   have a := d5l (n := n) (Nat.lt_of_le_of_lt ok (by decide))
   have e0 : Str.empty.length = 0 := rfl
   have e1 : (Str.ofString "delay:").length = 6 := by decide +kernel
   have hs : sizeLine = 16777216 := sizeLine_eq
   have g0 := b8s (t := (n : Int)) (n := 20) (by omega) (by decide)
   unfold nW at a
   refine ⟨_, (a0n (a1h (i := 1) d5n.nd rfl (Or.inl rfl) (a1z (pvF 0) rfl))
   (a0q (a1i (b2s (a3w a2u (a3w (b6y (pvF 1)) d5i)))))), ?_⟩
   walk_at "rd*"
   have w := h0g n
   unfold nW at w
   simp only [strLen_append, e0, e1]
   refine ⟨by omega, by omega, by omega, ?_⟩
   rw [w]
   exact q _ (Same.refl _)
  | _ => simp [Dt.kd] at hk
theorem i9c (T : Tx K mg A) : a1o P A.wd K mg base CX0 2 A.a9i A.c8g ["self"] (g6t A 2) := by
 have a2o : a1o P A.wd K mg base CX0 1 _ _ _ _ := h2p T
 have a2t := T.a2t
 have a2j := T.a2j
 have a2k := T.a2k
 have a1u := T.a1u
 have a1q := T.a1q
 have a0s := T.a0s
 refine T.c5h.ok c0r (fun vs H Q E h => ?_) (fun cdv A' outer s H vs Q E hr h => ?_)
 ·match vs, h with
  | [.ref o], _ => rfl
 ·match vs, h with
  | [.ref o], ⟨d, hk, hd, ok, q⟩ =>
  cases d with
  | echo y n t =>
   obtain ⟨dx, _, ho, g, fa, rfl, hg, hf⟩ := hd
   obtain ⟨oy, n1, n2, t2⟩ := ok
   replace ho : H o = some (.ins A.a2i dx (ecF g fa n t (y.den : Int))) := ho
   unfold ecF at ho
   have hu := hr.units
   have a2h : a3g 1 _ := hr.mono (by decide)
   have a := d1u oy.b.1 oy.b.2
   have b := d5l (n := n) (Nat.lt_of_le_of_lt n2 (by decide))
   have c := d5l (n := t) (Nat.lt_of_le_of_lt t2 (by decide))
   have e0 : Str.empty.length = 0 := rfl
   have e1 : (Str.ofString "echo:").length = 5 := by decide +kernel
   have e2 : (Str.ofString ":").length = 1 := by decide +kernel
   have hs : sizeLine = 16777216 := sizeLine_eq
   have g0 := b8s (t := (n : Int)) (n := 20) (by omega) (by decide)
   have g1 := b8s (t := (t : Int)) (n := 20) (by omega) (by decide)
   have w := h7a y n t
   unfold nW at b c w
   refine ⟨_, (a0n (a1h (i := 1) c0r.nd rfl (Or.inl rfl) (a0u a2o a2h (by rfl) T.a6z T.a2n.kp T.a4y .nil a0r (a0g (a1z (pvF 0) rfl) a0i)))
   (a0n (a1h (i := 2) c0r.nd rfl (Or.inl rfl) (a1z (pvF 0) rfl))
   (a0n (a1h (i := 3) c0r.nd rfl (Or.inl rfl) (a1z (pvF 0) rfl))
   (a0q (a1i (b2s (a3w a2u (a3w (b6y (pvF 1)) (a3w a2u (a3w (b6y (pvF 2)) (a3w a2u (a3w (b6y (pvF 3)) d5i)))))))))))), ?_⟩
   walk_at "rd*"
   refine ⟨y, rfl, oy.b.1, oy.b.2, ?_⟩
   simp only [strLen_append, e0, e1, e2]
   refine ⟨by omega, by omega, by omega, by omega, by omega, by omega, by omega, by omega, by omega, ?_⟩
   rw [w]
   exact q _ (Same.refl _)
  | _ => simp [Dt.kd] at hk
theorem i9d (T : Tx K mg A) : a1o P A.wd K mg base CX0 2 A.a9k A.c8i ["self"] (g6t A 3) := by
 have a2o : a1o P A.wd K mg base CX0 1 _ _ _ _ := h2p T
 have a3u := T.a3u
 have a2y := T.a2y
 have a2z := T.a2z
 refine T.c5j.ok c7s (fun vs H Q E h => ?_) (fun cdv A' outer s H vs Q E hr h => ?_)
 ·match vs, h with
  | [.ref o], _ => rfl
 ·match vs, h with
  | [.ref o], ⟨d, hk, hd, ok, q⟩ =>
  cases d with
  | back y n =>
   obtain ⟨dx, _, ho, g, rfl, hg⟩ := hd
   obtain ⟨oy, n1, n2⟩ := ok
   replace ho : H o = some (.ins A.a3s dx [("gain", .ref g), ("many", .int n)]) := ho
   have hu := hr.units
   have a2h : a3g 1 _ := hr.mono (by decide)
   have a := d1u oy.b.1 oy.b.2
   have b := d5l (n := n) (Nat.lt_of_le_of_lt n2 (by decide))
   have e0 : Str.empty.length = 0 := rfl
   have e1 : (Str.ofString "back:").length = 5 := by decide +kernel
   have e2 : (Str.ofString ":").length = 1 := by decide +kernel
   have hs : sizeLine = 16777216 := sizeLine_eq
   have g0 := b8s (t := (n : Int)) (n := 20) (by omega) (by decide)
   have w := h7b y n
   unfold nW at b w
   refine ⟨_, (a0n (a1h (i := 1) c7s.nd rfl (Or.inl rfl) (a0u a2o a2h (by rfl) T.a6z T.a2n.kp T.a4y .nil a0r (a0g (a1z (pvF 0) rfl) a0i)))
   (a0n (a1h (i := 2) c7s.nd rfl (Or.inl rfl) (a1z (pvF 0) rfl))
   (a0q (a1i (b2s (a3w a2u (a3w (b6y (pvF 1)) (a3w a2u (a3w (b6y (pvF 2)) d5i))))))))), ?_⟩
   walk_at "rd*"
   refine ⟨y, rfl, oy.b.1, oy.b.2, ?_⟩
   simp only [strLen_append, e0, e1, e2]
   refine ⟨by omega, by omega, by omega, by omega, by omega, by omega, ?_⟩
   rw [w]
   exact q _ (Same.refl _)
  | _ => simp [Dt.kd] at hk
theorem i9e (T : Tx K mg A) : a1o P A.wd K mg base CX0 2 A.a9m A.c8k ["self"] (g6t A 4) := by
 have a2o : a1o P A.wd K mg base CX0 1 _ _ _ _ := h2p T
 have a4k := T.a4k
 have a4i := T.a4i
 have a4j := T.a4j
 refine T.c5l.ok c7t (fun vs H Q E h => ?_) (fun cdv A' outer s H vs Q E hr h => ?_)
 ·match vs, h with
  | [.ref o], _ => rfl
 ·match vs, h with
  | [.ref o], ⟨d, hk, hd, ok, q⟩ =>
  cases d with
  | hall y n =>
   obtain ⟨dx, _, ho, g, rfl, hg⟩ := hd
   obtain ⟨oy, yl, n1, n2⟩ := ok
   replace ho : H o = some (.ins A.a3v dx [("gain", .ref g), ("many", .int n)]) := ho
   have hu := hr.units
   have a2h : a3g 1 _ := hr.mono (by decide)
   have a := d1u oy.b.1 oy.b.2
   have b := d5l (n := n) (Nat.lt_of_le_of_lt n2 (by decide))
   have e0 : Str.empty.length = 0 := rfl
   have e1 : (Str.ofString "hall:").length = 5 := by decide +kernel
   have e2 : (Str.ofString ":").length = 1 := by decide +kernel
   have hs : sizeLine = 16777216 := sizeLine_eq
   have g0 := b8s (t := (n : Int)) (n := 20) (by omega) (by decide)
   have w := h7c y n
   unfold nW at b w
   clear yl
   refine ⟨_, (a0n (a1h (i := 1) c7t.nd rfl (Or.inl rfl) (a0u a2o a2h (by rfl) T.a6z T.a2n.kp T.a4y .nil a0r (a0g (a1z (pvF 0) rfl) a0i)))
   (a0n (a1h (i := 2) c7t.nd rfl (Or.inl rfl) (a1z (pvF 0) rfl))
   (a0q (a1i (b2s (a3w a2u (a3w (b6y (pvF 1)) (a3w a2u (a3w (b6y (pvF 2)) d5i))))))))), ?_⟩
   walk_at "rd*"
   refine ⟨y, rfl, oy.b.1, oy.b.2, ?_⟩
   simp only [strLen_append, e0, e1, e2]
   refine ⟨by omega, by omega, by omega, by omega, by omega, by omega, ?_⟩
   rw [w]
   exact q _ (Same.refl _)
  | _ => simp [Dt.kd] at hk
theorem i9f (T : Tx K mg A) : a1o P A.wd K mg base CX0 3 A.a7r A.c4u ["self"] (g6t A 5) := by
 have f7w : a1o P A.wd K mg base CX0 2 _ _ _ _ := i8z T
 have a1s := T.a1s
 have a0z := T.a0z
 have a1g := T.a1g
 have a1j := T.a1j
 refine T.c1r.ok d5p (fun vs H Q E h => ?_) (fun cdv A' outer s H vs Q E hr h => ?_)
 ·match vs, h with
  | [.ref o], _ => rfl
 ·match vs, h with
  | [.ref o], ⟨d, hk, hd, ok, q⟩ =>
  cases d with
  | swell cs =>
   obtain ⟨dx, _, ho, ct, ln, S, ss, us, ps, rfl, hct, hln, TP, sok, R⟩ := hd
   have ok : f8h cs := ok
   replace ho : H o = some (.ins A.a1p dx [("corners", .ref ct), ("shared", .int S), ("lines", .ref ln)]) := ho
   have hu := hr.units
   have f3z : a3g 2 _ := hr.mono (by decide)
   have pl := R.1
   have hs : sizeLine = 16777216 := sizeLine_eq
   have cl := ok.len
   have L12 := ok.2.2.2
   have e2 : (Str.ofString ",").length = 1 := by decide +kernel
   have jo : JoinOk (Str.ofString ",") (cs.map cW) = true := joinOk_of (n := 45) (fun y hy => by obtain ⟨c, hc, rfl⟩ := List.mem_map.mp hy; exact cl c hc) (by rw [List.length_map, e2, hs]; omega)
   have jl : (Txt.join (Str.ofString ",") (cs.map cW)).length ≤ 600 := by
    rw [i0e, h4s]
    exact ok.i7j
   have e0 : Str.empty.length = 0 := rfl
   have e1 : (Str.ofString "swell:").length = 6 := by decide +kernel
   refine ⟨_, (a0n (a1h (i := 1) d5p.nd rfl (Or.inl rfl) (c2v b5z PySem.F.plainAttrs_str PySem.F.slot_str_join PySem.F.type_str_join g3z a2u (a0g (c4h (g9w (a1z (pvF 0) rfl)) (fun _ _ _ _ _ => (a0u f7w f3z (by rfl) T.f6u T.b3m.kp T.c5m .nil a0r (a0g (pvF 0) a0i))) (d9g (sc := a0h a8u) (N := ["self", "corners"]) rfl rfl (by decide +kernel)) rfl) a0i)))
   (a0q (a1i (b2s (a3w a2u (a3w (b6y (pvF 1)) d5i)))))), ?_⟩
   walk_at "rd*"
   intro D H2 n2 S2 h2
   refine h2q (cs.map fun c => V.str (cW c)) (by rw [List.length_map, List.length_map, pl]) n2 S2 h2 hct (by rw [List.length_map, pl, hs]; omega) ?_ ?_
   ·intro i x z H' Q' hx hz S' q'
    obtain ⟨p, c, g, rfl, hc, hp, hg⟩ := R.get hx
    rw [List.getElem?_map, hc] at hz
    cases hz
    have hp' := S' _ _ hp
    have hg' := S' _ _ hg
    obtain ⟨o1, o2, oy⟩ := ok.1 c (List.mem_of_getElem? hc)
    clear ho hct hln h2 hp hg
    walk_at "rd*"
    exact ⟨c, g, ⟨rfl, rfl⟩, hg', by omega, oy.b.1, oy.b.2, q'⟩
   intro H3 S3 h3
   clear h2
   walk_at "rd*"
   refine ⟨cs.map cW, by rw [List.map_map]; rfl, jo, by omega, ?_, ?_, ?_⟩
   ·rw [strLen_append, e0, e1]
    omega
   ·rw [strLen_append, strLen_append, e0, e1]
    omega
   ·rw [h0h]
    exact q H3 S3
  | _ => simp [Dt.kd] at hk
theorem b5y (k : Nat) (xs : List Int) (i : Nat) : (List.replicate k 0 ++ xs).getD i 0 = if i < k then 0 else xs.getD (i - k) 0 := by
 rw [f7t, List.length_replicate]
 split
 ·rename_i h
  rw [List.getD_eq_getElem?_getD, List.getElem?_replicate, if_pos h]
  rfl
 ·rfl
theorem gsh (k : Nat) (xs : List Int) (n i : Nat) : (if n <= k + i then (List.replicate k 0 ++ xs).getD (k + i - n) 0 else 0) = if n <= i then xs.getD (i - n) 0 else 0 := by
 by_cases h : n <= i
 ·rw [if_pos (by omega), if_pos h, b5y, if_neg (by omega)]
  congr 1
  omega
 ·rw [if_neg h]
  split
  ·rw [b5y, if_pos (by omega)]
  ·rfl
theorem h2r (p q b : Int) : hadd p q b 0 = 0 := by
 unfold hadd twn
 rw [Int.mul_zero, if_pos (Int.le_refl _), Int.zero_fdiv]
theorem g0v (k n : Nat) (zs : List Int) : heard (List.replicate k 0 ++ zs) n = heard zs n := by
 unfold heard
 rw [List.length_append, List.length_replicate]
 by_cases h : n <= zs.length
 ·rw [if_pos (by omega), if_pos h, b5y, if_neg (by omega)]
  congr 1
  omega
 ·rw [if_neg h]
  split
  ·rw [b5y]
   split
   ·rfl
   ·rw [List.getD_eq_getElem?_getD, List.getElem?_eq_none (by omega)]
    rfl
  ·rfl
theorem f2v (p q b : Int) (n k : Nat) : ∀ (ys zs : List Int), hallL p q b n (List.replicate k 0 ++ zs) ys = List.replicate k 0 ++ hallL p q b n zs ys
 | [], zs => rfl
 | y :: ys, zs => by rw [hallL, hallL, g0v, List.append_assoc, f2v p q b n k ys]
theorem f5j (p q b : Int) (n : Nat) : ∀ (k j : Nat), hallL p q b n (List.replicate j 0) (List.replicate k 0) = List.replicate (j + k) 0
 | 0, j => rfl
 | k + 1, j => by
  have e := g0v j n []
  rw [List.append_nil] at e
  have e0 : heard [] n = 0 := by
   unfold heard
   split <;> rfl
  rw [List.replicate_succ, hallL, e, e0, h2r, Int.zero_mul, Int.add_zero, show List.replicate j (0 : Int) ++ [0] = List.replicate (j + 1) 0 from List.replicate_succ'.symm, f5j p q b n k]
  congr 1
  omega
theorem g0w (p q b : Int) (n k : Nat) (xs : List Int) : hallL p q b n [] (List.replicate k 0 ++ xs) = List.replicate k 0 ++ hallL p q b n [] xs := by
 have e := f5j p q b n k 0
 rw [Nat.zero_add] at e
 have e2 := f2v p q b n k xs []
 rw [List.append_nil] at e2
 rw [c9r, show hallL p q b n [] (List.replicate k 0) = List.replicate k 0 from e, e2]
theorem c0h {d : Dt} (hd : d.kd ≠ 5) (b S S' : Int) (ss ss' : List Rat) (k : Nat) (xs : List Int) (i : Nat) : b7p b S ss (List.replicate k 0 ++ xs) (k + i) d = b7p b S' ss' xs i d := by
 have g : (List.replicate k 0 ++ xs).getD (k + i) 0 = xs.getD i 0 := by
  rw [b5y, if_neg (by omega)]
  congr 1
  omega
 cases d with
 | swell cs => exact absurd rfl hd
 | gain y => simp only [b7p, g]
 | delay n => simp only [b7p, gsh]
 | echo y n t => simp only [b7p, gsh]
 | back y n => simp only [b7p, gsh, g]
 | hall y n =>
  simp only [b7p]
  rw [g0w, b5y, if_neg (by omega)]
  congr 1
  omega
theorem g0x (p q : Int) (t : Nat) : ∀ j, g4i (fun _ => 0) p q t j = 0
 | 0 => rfl
 | j + 1 => by rw [g4i, g0x, Int.zero_mul]; rfl
theorem g7q (d : Dt) (b S : Int) (ss : List Rat) {k : Nat} (xs : List Int) {i : Nat} (h : i < k) : b7p b S ss (List.replicate k 0 ++ xs) i d = 0 := by
 have g : ∀ j, j <= i -> (List.replicate k 0 ++ xs).getD j 0 = 0 := fun j hj => by rw [b5y, if_pos (by omega)]
 have g2 : ∀ n, (if n <= i then (List.replicate k 0 ++ xs).getD (i - n) 0 else 0) = 0 := fun n => by
  rw [g _ (by omega)]
  split <;> rfl
 cases d with
 | gain y => simp only [b7p, g i (Nat.le_refl _), Int.zero_mul]
 | delay n => simp only [b7p, g2]
 | echo y n t => simp only [b7p, g2]; exact g0x _ _ _ _
 | back y n => simp only [b7p, g2, g i (Nat.le_refl _), Int.zero_mul, Int.add_zero]
 | hall y n =>
  simp only [b7p]
  rw [g0w, b5y, if_pos h]
 | swell cs => simp only [b7p, g i (Nat.le_refl _), Int.mul_zero]
theorem f5k (S t k : Int) (c : Int × Rat) (s : Rat) : c7k S (k + t) (c.1 + k, c.2) s = c7k S t c s := by
 unfold c7k
 show _ + _ * max 0 (k + t - (c.1 + k)) = _
 rw [show k + t - (c.1 + k) = t - c.1 by omega]
theorem g0y (S t k : Int) : ∀ (cs : List (Int × Rat)) (ss : List Rat), d9w S (k + t) (cs.map fun c => (c.1 + k, c.2)) ss = d9w S t cs ss
 | [], ss => by cases ss <;> rfl
 | c :: cs, [] => rfl
 | c :: cs, s :: ss => by
  cases cs with
  | nil => exact f5k S t k c s
  | cons d r =>
   have ih := g0y S t k (d :: r) ss
   show (if k + t < d.1 + k then c7k S (k + t) (c.1 + k, c.2) s else d9w S (k + t) ((d :: r).map fun c => (c.1 + k, c.2)) ss) = if t < d.1 then c7k S t c s else d9w S t (d :: r) ss
   rw [ih, f5k]
   by_cases h : t < d.1
   ·rw [if_pos (by omega), if_pos h]
   ·rw [if_neg (by omega), if_neg h]
theorem f5l {n S S' d : Int} (hd : d ≠ 0) (h1 : d ∣ S) (h2 : d ∣ S') : n * S.fdiv d * S' = n * S'.fdiv d * S := by
 obtain ⟨x, rfl⟩ := h1
 obtain ⟨y, rfl⟩ := h2
 rw [Int.mul_fdiv_cancel_left _ hd, Int.mul_fdiv_cancel_left _ hd]
 grind
theorem g3d {S S' t : Int} {c : Int × Rat} {s : Rat} (c1 : (c.2.den : Int) ∣ S) (c2 : (c.2.den : Int) ∣ S') (s1 : (s.den : Int) ∣ S) (s2 : (s.den : Int) ∣ S') : c7k S t c s * S' = c7k S' t c s * S := by
 unfold c7k
 have a := f5l (n := c.2.num) (g4v c.2) c1 c2
 have b := f5l (n := s.num) (g4v s) s1 s2
 generalize max 0 (t - c.1) = m
 generalize c.2.num * S.fdiv c.2.den = u at *
 generalize c.2.num * S'.fdiv c.2.den = u' at *
 generalize s.num * S.fdiv s.den = v at *
 generalize s.num * S'.fdiv s.den = v' at *
 rw [Int.add_mul, Int.add_mul, a, Int.mul_right_comm, b, Int.mul_right_comm]
theorem g0z {S S' t : Int} : ∀ (cs : List (Int × Rat)) (ss : List Rat), (∀ c ∈ cs, (c.2.den : Int) ∣ S /\ (c.2.den : Int) ∣ S') -> (∀ s ∈ ss, (s.den : Int) ∣ S /\ (s.den : Int) ∣ S') -> d9w S t cs ss * S' = d9w S' t cs ss * S
 | [], ss, _, _ => by cases ss <;> simp [d9w]
 | c :: cs, [], _, _ => by simp [d9w]
 | c :: cs, s :: ss, hc, hs => by
  have h1 := hc c (List.mem_cons_self ..)
  have h2 := hs s (List.mem_cons_self ..)
  have g := g3d (t := t) h1.1 h1.2 h2.1 h2.2
  cases cs with
  | nil => exact g
  | cons d r =>
   have ih := g0z (t := t) (d :: r) ss (fun c hx => hc c (List.mem_cons_of_mem _ hx)) (fun s hx => hs s (List.mem_cons_of_mem _ hx))
   show (if t < d.1 then c7k S t c s else d9w S t (d :: r) ss) * S' = (if t < d.1 then c7k S' t c s else d9w S' t (d :: r) ss) * S
   split
   ·exact g
   ·exact ih
theorem g7r {a b c : Rat} (hc : c ≠ 0) (h : a * c = b * c) : a = b := by
 have := congrArg (· * c⁻¹) h
 simpa [Rat.mul_assoc, Rat.mul_inv_cancel _ hc, Rat.mul_one] using this
theorem g3e {cs : List (Int × Rat)} {k : Int} {ss ss' : List Rat} {S S' : Int} (O : ∀ (i : Nat) c d, cs[i]? = some c -> cs[i + 1]? = some d -> c.1 < d.1) (h : SwOk cs ss S) (h' : SwOk (cs.map fun c => (c.1 + k, c.2)) ss' S') : ss' = ss := by
 obtain ⟨a1, a2, a3, _⟩ := h
 obtain ⟨b1, b2, b3, _⟩ := h'
 rw [List.length_map] at b1 b3
 apply List.ext_getElem?
 intro i
 by_cases hi : i < cs.length
 ·have e1 : ss[i]? = some ss[i] := List.getElem?_eq_getElem (by omega)
  have e2 : ss'[i]? = some ss'[i] := List.getElem?_eq_getElem (by omega)
  by_cases hl : i + 1 < cs.length
  ·have c1 : cs[i]? = some cs[i] := List.getElem?_eq_getElem _
   have c2 : cs[i + 1]? = some cs[i + 1] := List.getElem?_eq_getElem _
   have lt := O i _ _ c1 c2
   have p := a2 i _ e1 _ _ c1 c2
   have q := b2 i _ e2 (cs[i].1 + k, cs[i].2) (cs[i + 1].1 + k, cs[i + 1].2) (by rw [List.getElem?_map, c1]; rfl) (by rw [List.getElem?_map, c2]; rfl)
   have z : ((cs[i + 1].1 - cs[i].1 : Int) : Rat) ≠ 0 := fun e => by
    have := Rat.intCast_inj.mp (e.trans (by rfl : (0 : Rat) = ((0 : Int) : Rat)))
    omega
   rw [show (cs[i + 1].1 + k, cs[i + 1].2).1 - (cs[i].1 + k, cs[i].2).1 = cs[i + 1].1 - cs[i].1 by show cs[i + 1].1 + k - (cs[i].1 + k) = _; omega] at q
   rw [e1, e2, g7r z (q.trans p.symm)]
  ·have : i = cs.length - 1 := by omega
   subst this
   rw [a3, b3]
 ·rw [List.getElem?_eq_none (by omega), List.getElem?_eq_none (by omega)]
theorem g3f {A : Ad} {H H' : Hp} {o o' : Addr} {d : Dt} {S S' : Int} {ss ss' : List Rat} {k : Nat} (ok : d.ok) (h : g2j A H o d S ss) (h' : g2j A H' o' (a8m k d) S' ss') (b : Int) (xs : List Int) (i : Nat) :
  b7p b S' ss' (List.replicate k 0 ++ xs) (k + i) (a8m k d) * b9v S d = b7p b S ss xs i d * b9v S' (a8m k d) := by
 cases d with
 | swell cs =>
  obtain ⟨dx, _, ho, ct, ln, us, ps, rfl, hct, hln, TP, sok, R⟩ := h
  obtain ⟨dx', _, ho', ct', ln', us', ps', rfl, hct', hln', TP', sok', R'⟩ := h'
  have ok : f8h cs := ok
  have e := g3e ok.2.1 sok sok'
  subst e
  have g : (List.replicate k 0 ++ xs).getD (k + i) 0 = xs.getD i 0 := by
   rw [b5y, if_neg (by omega)]
   congr 1
   omega
  show d9w S' ((k + i : Nat) : Int) (cs.map fun c => (c.1 + (k : Int), c.2)) ss' * (List.replicate k 0 ++ xs).getD (k + i) 0 * S = d9w S (i : Int) cs ss' * xs.getD i 0 * S'
  rw [g, Int.natCast_add, g0y, Int.mul_right_comm, Int.mul_right_comm (d9w S (i : Int) cs ss')]
  congr 1
  refine g0z cs ss' (fun c hc => ⟨?_, sok.2.2.2.2.2.1 c hc⟩) (fun s hs => ⟨sok'.2.2.2.2.2.2.1 s hs, sok.2.2.2.2.2.2.1 s hs⟩)
  exact sok'.2.2.2.2.2.1 (c.1 + (k : Int), c.2) (List.mem_map.mpr ⟨c, hc, rfl⟩)
 | gain y => rw [show a8m k (.gain y) = .gain y from rfl, c0h (by simp [Dt.kd]) b S' S ss' ss]; rfl
 | delay n => rw [show a8m k (.delay n) = .delay n from rfl, c0h (by simp [Dt.kd]) b S' S ss' ss]; rfl
 | echo y n t => rw [show a8m k (.echo y n t) = .echo y n t from rfl, c0h (by simp [Dt.kd]) b S' S ss' ss]; rfl
 | back y n => rw [show a8m k (.back y n) = .back y n from rfl, c0h (by simp [Dt.kd]) b S' S ss' ss]; rfl
 | hall y n => rw [show a8m k (.hall y n) = .hall y n from rfl, c0h (by simp [Dt.kd]) b S' S ss' ss]; rfl
theorem i1c (T : Tx K mg A) {σ : L2.St} {i : Nat} {o : Addr} {H : Hp} {d : Dt} {Q : VK} {E : XK} (hσ : σ[i]? = some (some (.ref o))) (hd : IsP A H o d) (ok : d.ok) (q : ∀ H1, Same H H1 -> Q (.str d.word) H1) :
  a4t (a4s A.a4g "word" (g6t A 0) [] E (a6k i) d4s) (a4t (a4s A.a2g "word" (g6t A 1) [] E (a6k i) d4s) (a4t (a4s A.a2i "word" (g6t A 2) [] E (a6k i) d4s) (a4t (a4s A.a3s "word" (g6t A 3) [] E (a6k i) d4s) (a4t (a4s A.a3v "word" (g6t A 4) [] E (a6k i) d4s) (a4s A.a1p "word" (g6t A 5) [] E (a6k i) d4s))))) σ H Q := by
 have z := hd
 cases d with
 | gain y =>
  obtain ⟨dx, _, ho, g, rfl, hg⟩ := hd
  refine .inl ?_
  replace ho : H o = some (.ins A.a4g dx [("gain", .ref g)]) := ho
  walk_at "rd*"
  exact ⟨_, rfl, z, ok, q⟩
 | delay n =>
  obtain ⟨dx, _, ho, rfl⟩ := hd
  refine .inr (.inl ?_)
  replace ho : H o = some (.ins A.a2g dx [("many", .int n)]) := ho
  walk_at "rd*"
  exact ⟨_, rfl, z, ok, q⟩
 | echo y n t =>
  obtain ⟨dx, _, ho, g, fa, rfl, hg, hf⟩ := hd
  refine .inr (.inr (.inl ?_))
  replace ho : H o = some (.ins A.a2i dx (ecF g fa n t (y.den : Int))) := ho
  unfold ecF at ho
  walk_at "rd*"
  exact ⟨_, rfl, z, ok, q⟩
 | back y n =>
  obtain ⟨dx, _, ho, g, rfl, hg⟩ := hd
  refine .inr (.inr (.inr (.inl ?_)))
  replace ho : H o = some (.ins A.a3s dx [("gain", .ref g), ("many", .int n)]) := ho
  walk_at "rd*"
  exact ⟨_, rfl, z, ok, q⟩
 | hall y n =>
  obtain ⟨dx, _, ho, g, rfl, hg⟩ := hd
  refine .inr (.inr (.inr (.inr (.inl ?_))))
  replace ho : H o = some (.ins A.a3v dx [("gain", .ref g), ("many", .int n)]) := ho
  walk_at "rd*"
  exact ⟨_, rfl, z, ok, q⟩
 | swell cs =>
  obtain ⟨dx, _, ho, ct, ln, S, ss, us, ps, rfl, hct, hln, TP, sok, R⟩ := hd
  refine .inr (.inr (.inr (.inr (.inr ?_))))
  replace ho : H o = some (.ins A.a1p dx [("corners", .ref ct), ("shared", .int S), ("lines", .ref ln)]) := ho
  walk_at "rd*"
  exact ⟨_, rfl, z, ok, q⟩
theorem i1d (T : Tx K mg A) : a1o P A.wd K mg base CX0 1 A.a8g A.c2k ["_law_script", "_law_k"] (h7u K) := by
 refine T.b0n.ok f3u (fun vs H Q E h => ?_) (fun cdv A' outer s H vs Q E hr h => ?_)
 ·match vs, h with
  | [.ref a, .int k], _ => rfl
 ·match vs, h with
  | [.ref a, .int k], ⟨ns, hS, hk, q⟩ =>
  have hu := hr.units
  refine ⟨_, (a0n (b0q (a1v of_lt (pvF 1) (a1t g5s (by rfl) T.b6w boot_len (a0g (pvF 0) a0i)) (a3p _))
   (a0q (a1i (a1r ix_S (pvF 0) (pvF 1) (fun _ _ => rfl))))
   a3h)
   (a0q (a1i a0l))), ?_⟩
  walk_at "rd"
  refine ⟨_, hS, ?_⟩
  rw [List.length_map]
  split
  ·rename_i h
   exact ⟨_, hS, hk, h, q⟩
  ·rename_i h
   obtain ⟨j, rfl⟩ := Int.eq_ofNat_of_zero_le hk
   rw [List.getD_eq_getElem?_getD, List.getElem?_eq_none (by omega)] at q
   exact q
theorem h5n (T : Tx K mg A) : a1o P A.wd K mg base CX0 1 A.a8h A.c2l ["_law_one", "_law_other"] h7v := by
 refine T.b3s.ok b5m (fun vs H Q E h => ?_) (fun cdv A' outer s H vs Q E hr h => ?_)
 ·match vs, h with
  | [.int a, .int b], _ => rfl
 ·match vs, h with
  | [.int a, .int b], ⟨a0, b0, q⟩ =>
  have hu := hr.units
  refine ⟨_, (a0n (f0r PassesOwn.never (a1v g1p (pvF 1) a0l (a3p _))
   (a0n (a1h (i := 2) b5m.nd rfl (Or.inl rfl) (a0y b2r (pvF 0) (pvF 1)))
   (a0n (a1h (i := 0) b5m.nd rfl (Or.inl rfl) (pvF 1))
   (a0q (a1h (i := 1) b5m.nd rfl (Or.inl rfl) (pvF 2))))))
   (a0q (a1i (pvF 0)))), ?_⟩
  walk_at "rd"
  refine f0s (fun m σ H1 => ∃ l r z, σ = [some (.int l), some (.int r), z] /\ H1 = H /\ 0 <= l /\ 0 <= r /\ m = r.toNat /\ Int.gcd l r = Int.gcd a b) _
   ⟨_, _, _, rfl, rfl, a0, b0, rfl, rfl⟩ ?_
  rintro m σ H1 ⟨l, r, z, rfl, rfl, hl, hr', rfl, hg⟩
  walk_at "rd"
  split
  ·rename_i h
   have hp : 0 < r := by omega
   have f := h1e hl hp
   exact ⟨by omega, _, (by omega : (l.fmod r).toNat < r.toNat), _, _, _, ⟨rfl, rfl, rfl⟩, hr', f.1, rfl, (g4q hl hp).trans hg⟩
  ·rename_i h
   obtain rfl : r = 0 := by omega
   rw [<- hg, gcd_zero hl] at q
   exact q
theorem g1a {t b g : Int} (hg : 0 < g) (h1 : g ∣ t) (h2 : g ∣ b) (h : (t.natAbs : Int) < b) : ((t.fdiv g).natAbs : Int) < b.fdiv g := by
 obtain ⟨x, rfl⟩ := h1
 obtain ⟨y, rfl⟩ := h2
 rw [Int.mul_fdiv_cancel_left _ (by omega), Int.mul_fdiv_cancel_left _ (by omega)]
 rw [Int.natAbs_mul] at h
 have e : ((g.natAbs * x.natAbs : Nat) : Int) = g * (x.natAbs : Int) := by rw [Int.natCast_mul]; congr 1; omega
 rw [e] at h
 exact Int.lt_of_mul_lt_mul_left h (by omega)
theorem f2w {a g : Int} (ha : 0 < a) (hg : 0 < g) (h : g ∣ a) : 0 < a.fdiv g := by
 obtain ⟨z, rfl⟩ := h
 rw [Int.mul_fdiv_cancel_left _ (by omega)]
 rcases Int.lt_or_le 0 z with h | h
 ·exact h
 ·exfalso
  have := Int.mul_nonpos_of_nonneg_of_nonpos (a := g) (by omega) h
  omega
theorem g1b {t b : Int} (t1 : t.natAbs <= 1000) (b1 : 1 <= b) (b2 : b <= 1000) : 0 < Int.gcd (t.natAbs : Int) b /\ CFd t (Int.gcd (t.natAbs : Int) b : Int) /\ CFd b (Int.gcd (t.natAbs : Int) b : Int) /\
  ∃ y : Rat, YOk y /\ y.num = t.fdiv (Int.gcd (t.natAbs : Int) b : Int) /\ (y.den : Int) = b.fdiv (Int.gcd (t.natAbs : Int) b : Int) /\ ((t.natAbs : Int) < b -> (y.num.natAbs : Int) < y.den) := by
 have gp : 0 < Int.gcd (t.natAbs : Int) b := Int.gcd_pos_of_ne_zero_right _ (by omega)
 have gl : (Int.gcd (t.natAbs : Int) b : Int) <= b := Int.le_of_dvd (by omega) (Int.gcd_dvd_right _ _)
 have gd : (Int.gcd (t.natAbs : Int) b : Int) ∣ t := by
  have := Int.gcd_dvd_left (t.natAbs : Int) b
  exact Int.dvd_natAbs.mp this
 have gd2 : (Int.gcd (t.natAbs : Int) b : Int) ∣ b := Int.gcd_dvd_right _ _
 have ge : Int.gcd (t.natAbs : Int) b = Int.gcd t b := by
  have := g2l t b
  rw [<- this, show ((b.natAbs : Nat) : Int) = b by omega]
 have cf : CFd t (Int.gcd (t.natAbs : Int) b : Int) := ⟨by omega, Nat.le_trans (intBits_le_64 (by omega) (by omega)) (by decide)⟩
 have q1 := c5s (a := t) (g := (Int.gcd (t.natAbs : Int) b : Int)) (by omega) gd
 have q2 := c5s (a := b) (g := (Int.gcd (t.natAbs : Int) b : Int)) (by omega) gd2
 have q3 : 0 < b.fdiv (Int.gcd (t.natAbs : Int) b : Int) := f2w (by omega) (by omega) gd2
 have q4 : Int.gcd (t.fdiv (Int.gcd (t.natAbs : Int) b : Int)) (b.fdiv (Int.gcd (t.natAbs : Int) b : Int)) = 1 := by
  rw [ge]
  have := h4y (a := t) (b := b) (by omega)
  omega
 have d1 : t.natAbs / (Int.gcd (t.natAbs : Int) b : Int).natAbs <= t.natAbs := Nat.div_le_self _ _
 have d2 : b.natAbs / (Int.gcd (t.natAbs : Int) b : Int).natAbs <= b.natAbs := Nat.div_le_self _ _
 obtain ⟨y, y1, y2⟩ := h7y (by omega : 1 <= b.fdiv (Int.gcd (t.natAbs : Int) b : Int)) q4
 refine ⟨gp, cf, ⟨cf.1, cf.2⟩, y, ⟨by rw [y1]; omega, by omega⟩, y1, y2, fun z => ?_⟩
 rw [y1, y2]
 exact g1a (by omega) gd gd2 z
theorem c9t (x : Str) : Str.empty ++ x = x := b6z (by rw [a3r]; rfl)
theorem i6o (y : Rat) : Str.ofString "gain:" ++ fW y = (Dt.gain y).word := by rw [← h6z, c9t]
theorem i1e (n : Nat) : Str.ofString "delay:" ++ nW n = (Dt.delay n).word := by rw [← h0g, c9t]
theorem i6p (y : Rat) (n t : Nat) : Str.ofString "echo:" ++ fW y ++ Str.ofString ":" ++ nW n ++ Str.ofString ":" ++ nW t = (Dt.echo y n t).word := by rw [← h7a, c9t]
theorem i6q (y : Rat) (n : Nat) : Str.ofString "back" ++ Str.ofString ":" ++ fW y ++ Str.ofString ":" ++ nW n = (Dt.back y n).word := by
 rw [← h7b, c9t, show Str.ofString "back" ++ Str.ofString ":" = Str.ofString "back:" from b6z (by rw [a3r, h6x, f9r])]
theorem i6r (y : Rat) (n : Nat) : Str.ofString "hall" ++ Str.ofString ":" ++ fW y ++ Str.ofString ":" ++ nW n = (Dt.hall y n).word := by
 rw [← h7c, c9t, show Str.ofString "hall" ++ Str.ofString ":" = Str.ofString "hall:" from b6z (by rw [a3r, h6y, f9r])]
theorem i1f (cs : List (Int × Rat)) : Str.ofString "swell:" ++ Txt.join (Str.ofString ",") (cs.map cW) = (Dt.swell cs).word := by rw [← h0h, c9t]
theorem h5o (c : Int × Rat) : Str.ofString (toString c.1) ++ Str.ofString "=" ++ fW c.2 = cW c := by unfold cW; rw [c9t]
theorem g3g (m : Int) : 1 <= f3n m /\ f3n m <= 1000 := by
 have f1 := b2n m (b := 1000) (by decide)
 have f4 := b2n m (b := 4) (by decide)
 unfold f3n
 split <;> omega
theorem h2t (m : Int) (hh : Bool) : (g2k m hh).natAbs <= 1000 /\ (hh = true -> ((g2k m hh).natAbs : Int) < f3n m) := by
 have l := g3g m
 have f5 := b2n (m.fdiv 2000) (b := 2001) (by decide)
 have f6 := b2n (m.fdiv 2000) (b := 2 * f3n m - 1) (by omega)
 unfold g2k
 split
 ·exact ⟨by omega, fun _ => by omega⟩
 ·rename_i h
  exact ⟨by omega, fun z => absurd z h⟩
theorem f4g (m : Int) (hh : Bool) : YOk (gY m hh) /\ (hh = true -> ((gY m hh).num.natAbs : Int) < (gY m hh).den) /\ (gY m hh).num = (g2k m hh).fdiv (Int.gcd ((g2k m hh).natAbs : Int) (f3n m) : Int) /\ ((gY m hh).den : Int) = (f3n m).fdiv (Int.gcd ((g2k m hh).natAbs : Int) (f3n m) : Int) := by
 have l := g3g m
 have t := h2t m hh
 obtain ⟨gp, _, _, y, oy, y1, y2, yl⟩ := g1b t.1 l.1 l.2
 have ge : Int.gcd ((g2k m hh).natAbs : Int) (f3n m) = Int.gcd (g2k m hh) (f3n m) := by
  have := g2l (g2k m hh) (f3n m)
  rw [<- this, show (((f3n m).natAbs : Nat) : Int) = f3n m by omega]
 have n1 := h7w (t := g2k m hh) (b := f3n m) (by omega)
 have n2 := h7x (t := g2k m hh) (b := f3n m) (by omega)
 rw [if_neg (by omega), <- ge] at n1 n2
 have e1 : (gY m hh).num = y.num := by rw [y1, n1]; rfl
 have e2 : ((gY m hh).den : Int) = (y.den : Int) := by rw [y2, n2]; rfl
 refine ⟨⟨by rw [e1]; exact oy.1, by have := oy.2; omega⟩, fun z => by rw [e1, e2]; exact yl (t.2 z), by rw [e1, y1], by rw [e2, y2]⟩
theorem h2u (M : Int) : 1 <= a7l M /\ a7l M <= 9 /\ 1 <= kcF M /\ kcF M <= 3 /\ 1 <= stF M /\ stF M <= 9 /\ tnF M <= 4 := by
 have a := b2n (M.fdiv 100000000) (b := 9) (by decide)
 have b := b2n (M.fdiv 10000000000000) (b := 3) (by decide)
 have c := b2n (M.fdiv 100000000000000) (b := 9) (by decide)
 have d := b2n (M.fdiv 10000000000000) (b := 5) (by decide)
 unfold a7l kcF stF tnF
 omega
theorem h8b (M : Int) {n i : Nat} (hn : n <= 501) (hi : i < 3) : 0 <= (crF M n i).1 /\ (crF M n i).1 <= 1000 := by
 have b := h2u M
 have mi : (i : Int) * (stF M : Int) <= 2 * 9 := Int.mul_le_mul (by omega) (by omega) (by omega) (by omega)
 have mi0 : 0 <= (i : Int) * (stF M : Int) := Int.mul_nonneg (by omega) (by omega)
 unfold crF
 show 0 <= (a7l M : Int) + (i : Int) * (stF M : Int) + (n : Int) /\ (a7l M : Int) + (i : Int) * (stF M : Int) + (n : Int) <= 1000
 omega
theorem g3h {M : Int} {n i : Nat} {c : Int × Rat} (h : (csF M n)[i]? = some c) : i < kcF M /\ c = crF M n i := by
 unfold csF at h
 rw [List.getElem?_map] at h
 obtain ⟨j, hj, rfl⟩ := Option.map_eq_some_iff.mp h
 have := (List.getElem?_eq_some_iff.mp hj)
 obtain ⟨h1, h2⟩ := this
 rw [List.length_range] at h1
 rw [List.getElem_range] at h2
 subst h2
 exact ⟨h1, rfl⟩
theorem h8c (M : Int) {n : Nat} (hn : n <= 501) : f8h (csF M n) := by
 have b := h2u M
 refine ⟨fun c hc => ?_, fun i c d hc hd => ?_, by unfold csF; rw [List.length_map, List.length_range]; omega, by unfold csF; rw [List.length_map, List.length_range]; omega⟩
 ·obtain ⟨j, hj⟩ := List.mem_iff_getElem?.mp hc
  obtain ⟨h1, rfl⟩ := g3h hj
  have := h8b M hn (i := j) (by omega)
  exact ⟨this.1, by omega, (f4g _ _).1⟩
 ·obtain ⟨h1, rfl⟩ := g3h hc
  obtain ⟨h2, rfl⟩ := g3h hd
  show (a7l M : Int) + (i : Int) * (stF M : Int) + (n : Int) < (a7l M : Int) + ((i + 1 : Nat) : Int) * (stF M : Int) + (n : Int)
  rw [Int.natCast_add, Int.add_mul]
  omega
theorem h8d (M : Int) {n : Nat} (hn : n <= 501) : (dtM M n).ok := by
 have b := h2u M
 unfold dtM
 split
 ·exact (f4g _ _).1
 ·show a7l M - 1 <= 1000
  omega
 ·exact ⟨(f4g _ _).1, by omega, by omega, by omega⟩
 ·exact ⟨(f4g _ _).1, by omega, by omega⟩
 ·exact ⟨(f4g _ _).1, (f4g _ _).2.1 rfl, by omega, by omega⟩
 ·exact h8c M hn
theorem h2v (M : Int) (n : Nat) : dtM M n = a8m n (dtM M 0) := by
 unfold dtM
 split
 ·rfl
 ·rfl
 ·rfl
 ·rfl
 ·rfl
 ·show Dt.swell _ = Dt.swell _
  congr 1
  unfold csF
  rw [List.map_map]
  refine List.map_congr_left fun i _ => ?_
  show _ = ((crF M 0 i).1 + (n : Int), (crF M 0 i).2)
  unfold crF
  show ((a7l M : Int) + (i : Int) * (stF M : Int) + (n : Int), _) = ((a7l M : Int) + (i : Int) * (stF M : Int) + ((0 : Nat) : Int) + (n : Int), _)
  rw [show (a7l M : Int) + (i : Int) * (stF M : Int) + ((0 : Nat) : Int) + (n : Int) = (a7l M : Int) + (i : Int) * (stF M : Int) + (n : Int) by omega]
theorem g5d (T : Tx K mg A) : a1o P A.wd K mg base CX0 2 A.b4w A.d3h ["_law_mixed", "_law_hall"] h1a := by
 have f7y : a1o P A.wd K mg base CX0 1 _ _ _ _ := h5n T
 refine T.b8k.ok b4q (fun vs H Q E h => ?_) (fun cdv A' outer s H vs Q E hr h => ?_)
 ·match vs, h with
  | [.int m, .bl hh], _ => rfl
 ·match vs, h with
  | [.int m, .bl hh], ⟨hc, q⟩ =>
  have hu := hr.units
  have f4h : a3g 1 _ := hr.mono (by decide)
  have hs : sizeLine = 16777216 := sizeLine_eq
  have lb := g3g m
  have tbd := h2t m hh
  refine ⟨_, (a0n (a1h (i := 2) b4q.nd rfl (Or.inl rfl) (a0y a1n a0l (a0y b2r (pvF 0) a0l)))
   (d2p (b0q (a1v (c6q hu) (a0y b2r (a0y a6o (pvF 0) a0l) a0l) a0l (a3p _))
   (a0q (a1h (i := 2) b4q.nd rfl (Or.inl rfl) (a0y a1n a0l (a0y b2r (pvF 0) a0l))))
   a3h)
   (a0n (a1h (i := 3) b4q.nd rfl (Or.inl rfl) (a0y c7n (a0y b2r (a0y a6o (pvF 0) a0l) a0l) a0l))
   (d2p (b0q (c1u (pvF 1))
   (a0q (a1h (i := 3) b4q.nd rfl (Or.inl rfl) (a0y a1n (a0y c7n (a0y b2r (a0y a6o (pvF 0) a0l) (a0y c7n (a0y a2s a0l (pvF 2)) a0l)) (pvF 2)) a0l)))
   a3h)
   (a0n (a1h (i := 4) b4q.nd rfl (Or.inl rfl) (a0u f7y f4h (by rfl) T.f6w T.b3s.kp T.c5p .nil a0r (a0g (a1t b8p (by rfl) T.f1w boot_abs (a0g (pvF 3) a0i)) (a0g (pvF 2) a0i))))
   (a0q (a1i (a0y a1n (a0y a1n (a1y b8r (by rfl) T.d7q boot_str (a0g (a0y a6o (pvF 3) (pvF 4)) a0i)) a2u) (a1y b8r (by rfl) T.d7q boot_str (a0g (a0y a6o (pvF 2) (pvF 4)) a0i)))))))))), ?_⟩
  walk_at "rd"
  obtain ⟨Mid, pin, pout⟩ := i4o (fun σ' H' => σ' = [some (.int m), some (.bl hh), some (.int (f3n m)), none, none] /\ H' = H)
  refine ⟨Mid, ?_, ?_⟩
  ·walk_at "rd"
   refine ⟨⟨by decide, by decide⟩, ?_⟩
   split
   ·rename_i h
    exact pin _ _ ⟨by unfold f3n; rw [if_pos h], rfl⟩
   ·rename_i h
    exact pin _ _ ⟨by unfold f3n; rw [if_neg h], rfl⟩
  intro σ' H' hm
  obtain ⟨rfl, rfl⟩ := pout _ _ hm
  obtain ⟨Mid2, pin2, pout2⟩ := i4o (fun σ' H1 => σ' = [some (.int m), some (.bl hh), some (.int (f3n m)), some (.int (g2k m hh)), none] /\ H1 = H')
  walk_at "rd"
  refine ⟨⟨by decide, by decide⟩, Mid2, ?_, ?_⟩
  ·walk_at "rd"
   split
   ·rename_i h
    refine ⟨⟨by decide, by decide⟩, by walk_at "mul", by omega, pin2 _ _ ⟨by unfold g2k; rw [if_pos h], rfl⟩⟩
   ·rename_i hf
    exact pin2 _ _ ⟨by unfold g2k; rw [if_neg hf], rfl⟩
  intro σ' H1 hm2
  obtain ⟨rfl, rfl⟩ := pout2 _ _ hm2
  obtain ⟨oy, yl, y1, y2⟩ := f4g m hh
  obtain ⟨gp, cf1, cf2, _⟩ := g1b tbd.1 lb.1 lb.2
  have g1 := b8s (intBits_le_iff.mp oy.b.1) (by decide)
  have g2 := b8s (intBits_le_iff.mp oy.b.2) (by decide)
  have a := c1v (intBits_le_iff.mp oy.b.1) (by decide)
  have c := c1v (intBits_le_iff.mp oy.b.2) (by decide)
  have e1 : (Str.ofString "/").length = 1 := by decide +kernel
  unfold fW at q
  rw [c9t] at q
  rw [y1] at q a g1
  rw [y2] at q c g2
  walk_at "rd"
  refine ⟨by omega, by omega, cf1, by omega, by omega, cf2, by omega, by rw [strLen_append]; omega, q⟩
theorem i6s (T : Tx K mg A) : a1o P A.wd K mg base CX0 3 A.b1m A.c8o ["_law_mixed", "_law_many", "_law_by"] i6c := by
 have d7t : a1o P A.wd K mg base CX0 2 _ _ _ _ := g5d T
 refine T.b9t.ok c0s (fun vs H Q E h => ?_) (fun cdv A' outer s H vs Q E hr h => ?_)
 ·match vs, h with
  | [.int M, .int m, .int y], _ => rfl
 ·match vs, h with
  | [.int M, .int m, .int y], ⟨n, ey, hn, em, bM, k⟩ =>
  subst ey em
  have hu := hr.units
  have d3s : a3g 2 _ := hr.mono (by decide)
  have hs : sizeLine = 16777216 := sizeLine_eq
  have mb := h2u M
  have bF : ∀ b : Int, intBits (M.fdiv b) <= 90 := fun b => intBits_fdiv_le bM
  have b3 := b2n (M.fdiv 10000000000000) (b := 3) (by decide)
  have b9 := b2n (M.fdiv 100000000000000) (b := 9) (by decide)
  have ek : 1 + (M.fdiv 10000000000000).fmod 3 = (kcF M : Int) := by unfold kcF; rw [Int.toNat_of_nonneg (by omega)]
  have es : 1 + (M.fdiv 100000000000000).fmod 9 = (stF M : Int) := by unfold stF; rw [Int.toNat_of_nonneg (by omega)]
  have l6 : (Str.ofString "swell:").length = 6 := by decide +kernel
  refine ⟨_, (a0n (a1h (i := 3) c0s.nd rfl (Or.inl rfl) (b3v a0i))
   (a0n (c4g PassesOwn.never rfl (c2s (by rfl) T.c2m (a0g (a0y a1n a0l (a0y b2r (a0y a6o (pvF 0) (a0y d8l a0l a0l)) a0l)) a0i)) (b2q (i := 4) c0s.nd rfl (Or.inl rfl))
   (a0n (a1h (i := 5) c0s.nd rfl (Or.inl rfl) (a0y a1n (a0y a1n (pvF 1) (a0y a2s (pvF 4) (a0y a1n a0l (a0y b2r (a0y a6o (pvF 0) (a0y d8l a0l a0l)) a0l)))) (pvF 2)))
   (a0q (b8o (c2v d4y PySem.F.plainAttrs_list PySem.F.slot_list_append PySem.F.type_list_append c2w (pvF 3) (a0g (a0y a1n (a0y a1n (a1y b8r (by rfl) T.d7q boot_str (a0g (pvF 5) a0i)) a2u) (a0u d7t d3s (by rfl) T.f4v T.b8k.kp T.d1l .nil a0r (a0g (a0y a6o (pvF 0) (a0y a2s a0l (a0y a1n (pvF 4) a0l))) (a0g g7x a0i)))) a0i))))))
   (a0q (a1i (a0y a1n a2u (c2v b5z PySem.F.plainAttrs_str PySem.F.slot_str_join PySem.F.type_str_join g3z a2u (a0g (pvF 3) a0i))))))), ?_⟩
  walk_at "rd*"
  refine fun lc H3 n3 S3 h3 => ?_
  walk_at "rd"
  rw [ek]
  refine ⟨by decide, ⟨by decide, by decide⟩, by omega, by omega, ?_⟩
  rw [Int.toNat_natCast]
  obtain ⟨Pv, pin, pout⟩ := g1s (fun i σ H' => ∃ (v6 v7 : Option V), σ = [some (.int M), some (.int (a7l M)), some (.int n), some (.ref lc), v6, v7] /\ Same H H' /\ H' lc = some (.lst ((((List.range i).map (crF M n)).map cW).map V.str)))
  refine d6n (lo := 0) Pv (pin _ _ _ ⟨_, _, rfl, S3, h3⟩) ?_ ?_
  ·intro i σ H4 hi hp
   obtain ⟨v6, v7, rfl, S4, h4⟩ := pout _ _ _ hp
   have ims : IntMulOk (i : Int) (stF M : Int) := IntMulOk.of_left (intBits_le_64 (by omega) (by omega))
   have im2 : IntMulOk 1000 ((i : Int) + 1) := IntMulOk.of_left (by decide)
   have cf2 : CFd M (1000 * ((i : Int) + 1)) := ⟨by omega, Nat.le_trans (intBits_le_64 (by omega) (by omega)) (by decide)⟩
   have cf3 : CFd M 100000000000000 := ⟨by decide, by decide⟩
   have e1 : (Str.ofString "=").length = 1 := by decide +kernel
   have cb := h8b M hn (i := i) (by omega)
   unfold crF at cb
   replace cb : 0 <= (a7l M : Int) + (i : Int) * (stF M : Int) + (n : Int) /\ (a7l M : Int) + (i : Int) * (stF M : Int) + (n : Int) <= 1000 := cb
   clear h3 hp
   walk_at "rd*"
   have oy := (f4g (M.fdiv (1000 * ((i : Int) + 1))) false).1
   have zl := d1u oy.b.1 oy.b.2
   have al := c1v (t := (a7l M : Int) + (i : Int) * (stF M : Int) + (n : Int)) (n := 20) (by omega) (by decide)
   have ag := b8s (t := (a7l M : Int) + (i : Int) * (stF M : Int) + (n : Int)) (n := 20) (by omega) (by decide)
   refine ⟨by decide, by omega, by omega, Nat.le_trans (bF _) (by decide), by rw [strLen_append]; omega, by rw [List.length_range]; omega, ?_⟩
   rintro _ H5 ⟨rfl, B5, h5⟩
   rw [show Str.ofString (toString ((a7l M : Int) + (i : Int) * (stF M : Int) + (n : Int))) ++ Str.ofString "=" ++ fW (gY (M.fdiv (1000 * ((i : Int) + 1))) false) = cW (crF M n i) from h5o (crF M n i)] at h5
   exact pin _ _ _ ⟨_, _, rfl, S4.step n3 B5, by rw [h5, List.range_succ, List.map_append, List.map_append, List.map_append]; rfl⟩
  ·intro σ H4 hp
   obtain ⟨v6, v7, rfl, S4, h4⟩ := pout _ _ _ hp
   have ok := h8c M hn
   have e2 : (Str.ofString ",").length = 1 := by decide +kernel
   have cl' := ok.len
   have L12 := ok.2.2.2
   have jo : JoinOk (Str.ofString ",") ((csF M n).map cW) = true := joinOk_of (n := 45) (fun y hy => by obtain ⟨c, hc, rfl⟩ := List.mem_map.mp hy; exact cl' c hc) (by rw [List.length_map, e2, hs]; omega)
   have jl : (Txt.join (Str.ofString ",") ((csF M n).map cW)).length ≤ 600 := by
    rw [i0e, h4s]
    exact ok.i7j
   replace h4 : H4 lc = some (.lst (((csF M n).map cW).map V.str)) := h4
   clear h3 hp ek es
   walk_at "rd*"
   refine ⟨(csF M n).map cW, rfl, jo, by omega, ?_⟩
   rw [i1f]
   exact k _ S4
theorem h5p (T : Tx K mg A) : a1o P A.wd K mg base CX0 4 A.b4y A.d3i ["_law_cell", "_law_by"] h1b := by
 have d7t : a1o P A.wd K mg base CX0 2 _ _ _ _ := g5d T
 have g3i : a1o P A.wd K mg base CX0 3 _ _ _ _ := i6s T
 refine T.b2k.ok b8u (fun vs H Q E h => ?_) (fun cdv A' outer s H vs Q E hr h => ?_)
 ·match vs, h with
  | [.int c, .int y], _ => rfl
 ·match vs, h with
  | [.int c, .int y], ⟨n, ey, hn, hc, k⟩ =>
  subst ey
  have hu := hr.units
  have d3s : a3g 2 _ := hr.mono (by decide)
  have g1c : a3g 3 _ := hr.mono (by decide)
  have hs : sizeLine = 16777216 := sizeLine_eq
  refine ⟨_, (d2p (a1h (i := 2) b8u.nd rfl (Or.inl rfl) (a0y b2r (a0y a2s (pvF 0) a0l) (a0y a1n (a0y d8l a0l a0l) a0l)))
   (a0n (a1h (i := 3) b8u.nd rfl (Or.inl rfl) (a1r a5o (b3v (a0g a2u (a0g a2u (a0g a2u (a0g a2u (a0g a2u (a0g a2u a0i))))))) (a0y b2r (pvF 2) a0l) (fun _ _ => rfl)))
   (a0n (a1h (i := 4) b8u.nd rfl (Or.inl rfl) (a0u d7t d3s (by rfl) T.f4v T.b8k.kp T.d1l .nil a0r (a0g (a0y a6o (pvF 2) a0l) (a0g (f5r (c6q hu) (pvF 3) a2u (a3p _)) a0i))))
   (d2p (a1h (i := 5) b8u.nd rfl (Or.inl rfl) (a0y a1n a0l (a0y b2r (a0y a6o (pvF 2) (a0y d8l a0l a0l)) a0l)))
   (a0n (b0q (a1v (c6q hu) (pvF 3) a2u (a3p _))
   (a0q (a1i (a0y a1n a2u (pvF 4))))
   a3h)
   (a0n (b0q (a1v (c6q hu) (pvF 3) a2u (a3p _))
   (a0q (a1i (a0y a1n a2u (a1y b8r (by rfl) T.d7q boot_str (a0g (a0y c7n (pvF 5) a0l) a0i)))))
   a3h)
   (a0n (b0q (a1v (c6q hu) (pvF 3) a2u (a3p _))
   (a0q (a1i (a0y a1n (a0y a1n (a0y a1n (a0y a1n (a0y a1n a2u (pvF 4)) a2u) (a1y b8r (by rfl) T.d7q boot_str (a0g (pvF 5) a0i))) a2u) (a1y b8r (by rfl) T.d7q boot_str (a0g (a0y b2r (a0y a6o (pvF 2) (a0y d8l a0l a0l)) a0l) a0i)))))
   a3h)
   (a0n (b0q (a1v (c6q hu) (pvF 3) a2u (a3p _))
   (a0q (a1i (a0u g3i g1c (by rfl) T.g2h T.b9t.kp T.d3p .nil a0r (a0g (pvF 2) (a0g (pvF 5) (a0g (pvF 1) a0i))))))
   a3h)
   (a0q (a1i (a0y a1n (a0y a1n (a0y a1n (a0y a1n (pvF 3) a2u) (pvF 4)) a2u) (a1y b8r (by rfl) T.d7q boot_str (a0g (pvF 5) a0i))))))))))))), ?_⟩
  have fM := b2n (c * 618033988749894848204587) (b := 1000000000000000000000007) (by decide)
  have bM : intBits (g4p c) <= 90 := intBits_le_iff.mpr (Nat.lt_of_le_of_lt (by unfold g4p; omega : (g4p c).natAbs <= 1000000000000000000000007) (by decide))
  have M0 : 0 <= g4p c := fM.1
  obtain ⟨Mid, min', mout⟩ := i4o (fun σ' H' => σ' = [some (.int c), some (.int n), some (.int (g4p c)), none, none, none] /\ H' = H)
  refine ⟨Mid, ?_, ?_⟩
  ·walk_at "rd"
   exact ⟨by walk_at "mul", by decide, min' _ _ ⟨rfl, rfl⟩⟩
  clear fM
  intro σ' H' hm
  obtain ⟨rfl, rfl⟩ := mout _ _ hm
  clear hm min' mout
  generalize g4p c = M at bM M0 k
  have f6 := b2n M (b := 6) (by decide)
  have mb := h2u M
  have bF : ∀ b : Int, intBits (M.fdiv b) <= 90 := fun b => intBits_fdiv_le bM
  have fa := b2n (M.fdiv 100000000) (b := 9) (by decide)
  have fb := b2n (M.fdiv 10000000000000) (b := 5) (by decide)
  have em : 1 + (M.fdiv 100000000).fmod 9 = (a7l M : Int) := by unfold a7l; rw [Int.toNat_of_nonneg (by omega)]
  walk_at "rd"
  refine ⟨by omega, fun kl H1 n1 S1 h1 => ?_⟩
  obtain ⟨ks, ha, hks⟩ : ∃ ks : Str, atI [V.str (Str.ofString "gain"), V.str (Str.ofString "delay"), V.str (Str.ofString "echo"), V.str (Str.ofString "back"), V.str (Str.ofString "hall"), V.str (Str.ofString "swell")] (M.fmod 6) = some (.str ks) ∧ ((M.fmod 6 = 0 ∧ ks = Str.ofString "gain") ∨ (M.fmod 6 = 1 ∧ ks = Str.ofString "delay") ∨ (M.fmod 6 = 2 ∧ ks = Str.ofString "echo") ∨ (M.fmod 6 = 3 ∧ ks = Str.ofString "back") ∨ (M.fmod 6 = 4 ∧ ks = Str.ofString "hall") ∨ (M.fmod 6 = 5 ∧ ks = Str.ofString "swell")) := by
   rcases (by omega : M.fmod 6 = 0 \/ M.fmod 6 = 1 \/ M.fmod 6 = 2 \/ M.fmod 6 = 3 \/ M.fmod 6 = 4 \/ M.fmod 6 = 5) with z | z | z | z | z | z <;> rw [z]
   ·exact ⟨_, rfl, .inl ⟨rfl, rfl⟩⟩
   ·exact ⟨_, rfl, .inr (.inl ⟨rfl, rfl⟩)⟩
   ·exact ⟨_, rfl, .inr (.inr (.inl ⟨rfl, rfl⟩))⟩
   ·exact ⟨_, rfl, .inr (.inr (.inr (.inl ⟨rfl, rfl⟩)))⟩
   ·exact ⟨_, rfl, .inr (.inr (.inr (.inr (.inl ⟨rfl, rfl⟩))))⟩
   ·exact ⟨_, rfl, .inr (.inr (.inr (.inr (.inr ⟨rfl, rfl⟩))))⟩
  have sm := Nat.le_trans (bF 6) (by decide : 90 <= 1000)
  have cf6 : CFd M 6 := ⟨by decide, by decide⟩
  walk_at "rd*"
  obtain ⟨Mid3, in3, out3⟩ := i4o (fun σ' H' => σ' = [some (.int c), some (.int n), some (.int M), some (.str ks), some (.str (fW (gY (M.fdiv 6) (decide (ks = Str.ofString "hall"))))), some (.int (a7l M))] ∧ H' = H1)
  refine ⟨Mid3, ?_, ?_⟩
  ·have cf8 : CFd M 100000000 := ⟨by decide, by decide⟩
   walk_at "rd*"
   decide
  intro σ' H2 hm3
  obtain ⟨rfl, rfl⟩ := out3 _ _ hm3
  clear hm3 in3 out3 em ha h1 cf6
  have et : (M.fdiv 10000000000000).fmod 5 = (tnF M : Int) := by unfold tnF; rw [Int.toNat_of_nonneg (by omega)]
  have cf13 : CFd M 10000000000000 := ⟨by decide, by decide⟩
  have nl := d5l (n := a7l M) (by omega)
  have tl := d5l (n := tnF M) (by omega)
  have g0 := b8s (t := (a7l M : Int)) (n := 20) (by omega) (by decide)
  have g2 := b8s (t := (tnF M : Int)) (n := 20) (by omega) (by decide)
  have ec : (Str.ofString ":").length = 1 := by decide +kernel
  unfold nW at nl tl
  have ne (a b : String) (hk : ks = Str.ofString a) (h : Str.ofString a ≠ Str.ofString b) : (ks = Str.ofString b) = False := by
   rw [hk]
   exact eq_false h
  have yl := fun hh => d1u (f4g (M.fdiv 6) hh).1.b.1 (f4g (M.fdiv 6) hh).1.b.2
  have yf := yl false
  have yt := yl true
  have sm := Nat.le_trans (bF 6) (by decide : 90 <= 1000)
  clear f6 fa fb yl
  rcases hks with ⟨z, hk⟩ | ⟨z, hk⟩ | ⟨z, hk⟩ | ⟨z, hk⟩ | ⟨z, hk⟩ | ⟨z, hk⟩
  ·have hk' : id (ks = Str.ofString "gain") := hk
   have hT : (ks = Str.ofString "gain") = True := eq_true hk
   have g5e := decide_eq_false (of_eq_false (ne "gain" "hall" hk (by decide +kernel)))
   have ed : dtM M n = .gain (gY (M.fdiv 6) false) := by unfold dtM; rw [z]; rfl
   rw [ed] at k
   clear ne hk z ed
   walk_at "rd*"
   have l1 : (Str.ofString "gain:").length = 5 := by decide +kernel
   refine ⟨by omega, ?_⟩
   rw [i6o]
   exact k _ S1
  ·have hk' : id (ks = Str.ofString "delay") := hk
   have hT : (ks = Str.ofString "delay") = True := eq_true hk
   have g5e := decide_eq_false (of_eq_false (ne "delay" "hall" hk (by decide +kernel)))
   have g5f := ne "delay" "gain" hk (by decide +kernel)
   have ed : dtM M n = .delay (a7l M - 1) := by unfold dtM; rw [z]; rfl
   rw [ed] at k
   clear ne hk z ed
   walk_at "rd*"
   have l2 : (Str.ofString "delay:").length = 6 := by decide +kernel
   have em' : (a7l M : Int) - 1 = ((a7l M - 1 : Nat) : Int) := by omega
   have nl2 := d5l (n := a7l M - 1) (by omega)
   have g3 := b8s (t := ((a7l M - 1 : Nat) : Int)) (n := 20) (by omega) (by decide)
   have v := i1e (a7l M - 1)
   unfold nW at nl2 v
   rw [em']
   refine ⟨by omega, by omega, ?_⟩
   rw [v]
   exact k _ S1
  ·have hk' : id (ks = Str.ofString "echo") := hk
   have hT : (ks = Str.ofString "echo") = True := eq_true hk
   have g5e := decide_eq_false (of_eq_false (ne "echo" "hall" hk (by decide +kernel)))
   have g5f := ne "echo" "gain" hk (by decide +kernel)
   have g3j := ne "echo" "delay" hk (by decide +kernel)
   have ed : dtM M n = .echo (gY (M.fdiv 6) false) (a7l M) (tnF M) := by unfold dtM; rw [z]; rfl
   rw [ed] at k
   clear ne hk z ed
   walk_at "rd*"
   have l3 : (Str.ofString "echo:").length = 5 := by decide +kernel
   have v := i6p (gY (M.fdiv 6) false) (a7l M) (tnF M)
   unfold nW at v
   simp only [strLen_append]
   refine ⟨by omega, by omega, by omega, by omega, by omega, by decide, by omega, by omega, ?_⟩
   rw [v]
   exact k _ S1
  ·have hk' : id (ks = Str.ofString "back") := hk
   have hT : (ks = Str.ofString "back") = True := eq_true hk
   have g5e := decide_eq_false (of_eq_false (ne "back" "hall" hk (by decide +kernel)))
   have g5f := ne "back" "gain" hk (by decide +kernel)
   have g3j := ne "back" "delay" hk (by decide +kernel)
   have h8e := ne "back" "echo" hk (by decide +kernel)
   have i1g := ne "back" "swell" hk (by decide +kernel)
   have ed : dtM M n = .back (gY (M.fdiv 6) false) (a7l M) := by unfold dtM; rw [z]; rfl
   rw [ed] at k
   clear ne hk z ed
   walk_at "rd*"
   have l4 : ks.length = 4 := by rw [show ks = _ from hk']; decide +kernel
   have v := i6q (gY (M.fdiv 6) false) (a7l M)
   unfold nW at v
   simp only [strLen_append]
   refine ⟨by omega, by omega, by omega, by omega, by omega, ?_⟩
   rw [show ks = _ from hk', v]
   exact k _ S1
  ·have hk' : id (ks = Str.ofString "hall") := hk
   have hT := decide_eq_true hk
   have g5f := ne "hall" "gain" hk (by decide +kernel)
   have g3j := ne "hall" "delay" hk (by decide +kernel)
   have h8e := ne "hall" "echo" hk (by decide +kernel)
   have i1g := ne "hall" "swell" hk (by decide +kernel)
   have ed : dtM M n = .hall (gY (M.fdiv 6) true) (a7l M) := by unfold dtM; rw [z]; rfl
   rw [ed] at k
   clear ne hk z ed
   walk_at "rd*"
   have l4 : ks.length = 4 := by rw [show ks = _ from hk']; decide +kernel
   have v := i6r (gY (M.fdiv 6) true) (a7l M)
   unfold nW at v
   simp only [strLen_append]
   refine ⟨by omega, by omega, by omega, by omega, by omega, ?_⟩
   rw [show ks = _ from hk', v]
   exact k _ S1
  ·have hk' : id (ks = Str.ofString "swell") := hk
   have hT : (ks = Str.ofString "swell") = True := eq_true hk
   have g5e := decide_eq_false (of_eq_false (ne "swell" "hall" hk (by decide +kernel)))
   have g5f := ne "swell" "gain" hk (by decide +kernel)
   have g3j := ne "swell" "delay" hk (by decide +kernel)
   have h8e := ne "swell" "echo" hk (by decide +kernel)
   have ed : dtM M n = .swell (csF M n) := by unfold dtM; rw [z]; rfl
   rw [ed] at k
   clear ne hk z ed
   walk_at "rd*"
   refine ⟨n, rfl, hn, fun H2 S2 => k H2 (S1.trans S2)⟩
theorem i1h (T : Tx K mg A) : a1o P A.wd K mg base CX0 1 A.a1l A.c4p ["self", "n"] f2k := by
 refine T.c0z.ok f6m (fun vs H Q E h => ?_) (fun cdv A' outer s H vs Q E hr h => ?_)
 ·match vs, h with
  | [.ref o, .int n], _ => rfl
 ·match vs, h with
  | [.ref o, .int n], k =>
  have hu := hr.units
  refine ⟨_, (a0q (a1i (pvF 0))), ?_⟩
  walk_at "rd"
  exact k
theorem i1i (T : Tx K mg A) : a1o P A.wd K mg base CX0 7 A.a6g A.c2g ["self", "n"] (h1c A) := by
 have c9s : a1o P A.wd K mg base CX0 5 _ _ _ _ := g0n T
 have a1s := T.a1s
 have a0z := T.a0z
 have a1g := T.a1g
 have a1j := T.a1j
 refine T.b7m.ok f3s (fun vs H Q E h => ?_) (fun cdv A' outer s H vs Q E hr h => ?_)
 ·match vs, h with
  | [.ref o, .int n], _ => rfl
 ·match vs, h with
  | [.ref o, .int n], ⟨cs, m, en, hd, ok, q⟩ =>
  subst en
  obtain ⟨dx, _, ho, ct, ln, S, ss, us, ps, rfl, hct, hln, TP, sok, R⟩ := hd
  replace ho : H o = some (.ins A.a1p dx [("corners", .ref ct), ("shared", .int S), ("lines", .ref ln)]) := ho
  have ok : f8h (cs.map fun c => (c.1 + (m : Int), c.2)) := ok
  have hu := hr.units
  have c5w : a3g 6 _ := hr.mono (by decide)
  have pl := R.1
  have hs : sizeLine = 16777216 := sizeLine_eq
  have L12 := ok.2.2.2
  have L1 := ok.2.2.1
  rw [List.length_map] at L12 L1
  refine ⟨_, (a0q (a1i (c4i T.h0o c9s c5w (by rfl) T.d1n T.c1q .nil a0r (a0g (c4h (g9w (a1z (pvF 0) rfl)) (fun _ _ _ _ _ => (b0o (a0g (a0y a1n (a1r a5o (pvF 0) a0l (fun _ _ => rfl)) (pvF 2)) (a0g (a1r a5o (pvF 0) a0l (fun _ _ => rfl)) a0i)))) (d9g (sc := a0h a7u) (N := ["self", "n"]) rfl rfl (by decide +kernel)) rfl) a0i)))), ?_⟩
  walk_at "rd*"
  intro D H2 n2 S2 h2
  refine f9m (xs := ps.map V.ref) (fun i ys H' => Same H H' /\ H' D = some (.lst ys) /\ ∃ ps', ys = ps'.map V.ref /\ Crn H' ps' ((cs.map fun c => (c.1 + (m : Int), c.2)).take i)) ⟨S2, h2, [], rfl, by rw [List.take_zero]; exact Crn.nil⟩ (by rw [List.length_map, pl, hs]; omega) ?_ ?_ ?_
  ·intro i ys H' hi ⟨S', h', ps', e, R'⟩
   rw [List.length_map] at hi
   exact ⟨h', SqT.of (S' _ _ hct), by rw [e, List.length_map, R'.1, List.length_take, List.length_map]; omega⟩
  ·intro i x ys H' hx ⟨S', h', ps', e, R'⟩
   obtain ⟨p, c, g, rfl, hc, hp, hg⟩ := R.get hx
   have hp' := S' _ _ hp
   have hg' := S' _ _ hg
   clear ho hct hln h2 hp hg
   walk_at "rd*"
   refine fun u H3 n3 S3 h3 => ⟨S3 _ _ h', fun H4 B4 h4 => ⟨(S'.trans S3).step n2 B4, h4, ps' ++ [u], by rw [e, List.map_append]; rfl, ?_⟩⟩
   rw [List.take_add_one, List.getElem?_map, hc]
   exact ((R'.same S3).snoc h3 (S3 _ _ hg')).i6n (S3 _ _ h') B4
  ·intro ys H3 ⟨S3, h3, ps', e, R'⟩
   rw [List.length_map, pl, List.take_of_length_le (by rw [List.length_map]; exact Nat.le_refl _)] at R'
   subst e
   clear h2
   walk_at "rd"
   intro x dx' H6 n6 n7 nx S6 hdx hx
   refine ⟨dx', ps', _, hx, S6 _ _ h3, R'.same S6, f8h.crn ok, by rw [List.length_map]; exact L1, by rw [List.length_map]; exact L12, fun ct' ln' S' ss' us' H7 B7 nct h7 hct' hln' TP' sok' => ?_⟩
   rw [asNew]
   exact ⟨rfl, q x H7 ((S3.trans S6).step (S3.free n6) B7) ⟨dx', _, h7, ct', ln', S', ss', us', ps', rfl, hct', hln', TP', sok', (R'.same S6).d1r hx B7⟩⟩
theorem f7z {S t : Int} (hS : intBits S <= 1600) (t0 : 0 <= t) (t1 : t <= 100000) : ∀ (cs : List (Int × Rat)) (ss : List Rat), (∀ c ∈ cs, 0 <= c.1 /\ intBits c.2.num <= 10) -> (∀ s ∈ ss, intBits s.num <= 60) -> intBits (d9w S t cs ss) <= 2000
 | [], ss, _, _ => by cases ss <;> (show intBits 0 <= 2000; decide)
 | c :: cs, [], _, _ => by show intBits 0 <= 2000; decide
 | c :: cs, s :: ss, h1, h2 => by
  have g : intBits (c7k S t c s) <= 2000 := by
   have Oc := h1 c List.mem_cons_self
   have b1 : intBits (c.2.num * S.fdiv c.2.den) <= 10 + 1600 := intBits_mul_le Oc.2 (intBits_fdiv_le hS)
   have b2 : intBits (s.num * S.fdiv s.den) <= 60 + 1600 := intBits_mul_le (h2 s List.mem_cons_self) (intBits_fdiv_le hS)
   have b3 : intBits (max 0 (t - c.1)) <= 64 := intBits_le_64 (by omega) (by omega)
   exact Nat.le_trans (intBits_add_le b1 (intBits_mul_le b2 b3)) (by decide)
  cases cs with
  | nil => exact g
  | cons d r =>
   show intBits (if t < d.1 then c7k S t c s else d9w S t (d :: r) ss) <= 2000
   split
   ·exact g
   ·exact f7z hS t0 t1 (d :: r) ss (fun c hc => h1 c (List.mem_cons_of_mem _ hc)) (fun s hs => h2 s (List.mem_cons_of_mem _ hs))
theorem h2w {A : Ad} {H H' : Hp} {o o' : Addr} {d : Dt} {S S' : Int} {ss ss' : List Rat} {k : Nat} (ok : d.ok) (okn : (a8m k d).ok) (h : g2j A H o d S ss) (h' : g2j A H' o' (a8m k d) S' ss') (b : Int) {xs : List Int} (hx : ∀ y ∈ xs, intBits y <= 64) {i : Nat} (hi : i <= 100000) :
  IntMulOk (b7p b S' ss' xs i (a8m k d)) (b9v S d) /\ IntMulOk (b7p b S ss xs i d) (b9v S' (a8m k d)) := by
 have gx : ∀ j, intBits (xs.getD j 0) <= 64 := fun j => by
  rw [List.getD_eq_getElem?_getD]
  cases e : xs[j]? with
  | none => decide
  | some y => exact hx y (List.mem_of_getElem? e)
 cases d with
 | swell cs =>
  obtain ⟨dx, _, ho, ct, ln, us, ps, rfl, hct, hln, TP, sok, R⟩ := h
  obtain ⟨dx', _, ho', ct', ln', us', ps', rfl, hct', hln', TP', sok', R'⟩ := h'
  have c1 := (f8h.crn ok).1
  have c2 := (f8h.crn okn).1
  have g1 := f7z sok.2.2.2.2.1 (t := (i : Int)) (by omega) (by omega) cs ss (fun c hc => ⟨(c1 c hc).1, (c1 c hc).2.2.1⟩) sok.2.2.2.2.2.2.2
  have g2 := f7z sok'.2.2.2.2.1 (t := (i : Int)) (by omega) (by omega) _ ss' (fun c hc => ⟨(c2 c hc).1, (c2 c hc).2.2.1⟩) sok'.2.2.2.2.2.2.2
  exact ⟨IntMulOk.of_le (intBits_mul_le g2 (gx i)) sok.2.2.2.2.1 (by decide), IntMulOk.of_le (intBits_mul_le g1 (gx i)) sok'.2.2.2.2.1 (by decide)⟩
 | gain y => exact ⟨IntMulOk.of_right (Nat.le_trans (YOk.b ok).2 (by decide)), IntMulOk.of_right (Nat.le_trans (YOk.b ok).2 (by decide))⟩
 | delay n => exact ⟨IntMulOk.of_right (show intBits 1 <= 64 by decide), IntMulOk.of_right (show intBits 1 <= 64 by decide)⟩
 | echo y n t =>
  have yb := YOk.b ok.1
  have g : intBits (b7p b S ss xs i (.echo y n t)) <= 300 := Nat.le_trans (g0m yb.1 yb.2 ok.2.2.2 (fun m => by
   split
   ·exact gx _
   ·decide) (t + 1) (Nat.le_refl _)) (by have := ok.2.2.2; omega)
  have g2 : intBits (b9v S (.echo y n t)) <= 1 + 10 * 16 := Nat.le_trans (d1o yb.2 t) (by have := ok.2.2.2; omega)
  exact ⟨IntMulOk.of_le g g2 (by decide), IntMulOk.of_le g g2 (by decide)⟩
 | back y n => exact ⟨IntMulOk.of_right (Nat.le_trans (YOk.b ok.1).2 (by decide)), IntMulOk.of_right (Nat.le_trans (YOk.b ok.1).2 (by decide))⟩
 | hall y n => exact ⟨IntMulOk.of_right (show intBits 1 <= 64 by decide), IntMulOk.of_right (show intBits 1 <= 64 by decide)⟩
theorem lat6 {σ : L2.St} {i j : Nat} {o : Addr} {n : Nat} {H : Hp} {d : Dt} {Q : VK} {E : XK} (hσ : σ[i]? = some (some (.ref o))) (hn : σ[j]? = some (some (.int n))) (hd : IsP A H o d) (ok : (a8m n d).ok) (q : ∀ o' H1, Same H H1 -> IsP A H1 o' (a8m n d) -> Q (.ref o') H1) :
  a4t (a4s A.a4g "later" f2k [] E (a6k i) (f0m (a6k j) d4s)) (a4t (a4s A.a2g "later" f2k [] E (a6k i) (f0m (a6k j) d4s)) (a4t (a4s A.a2i "later" f2k [] E (a6k i) (f0m (a6k j) d4s)) (a4t (a4s A.a3s "later" f2k [] E (a6k i) (f0m (a6k j) d4s)) (a4t (a4s A.a3v "later" f2k [] E (a6k i) (f0m (a6k j) d4s)) (a4s A.a1p "later" (h1c A) [] E (a6k i) (f0m (a6k j) d4s)))))) σ H Q := by
 have arg : ∀ sp : Sp, sp [.ref o, .int n] H Q E -> (f0m (a6k j) d4s) σ H fun vs H2 => sp (.ref o :: (vs ++ [])) H2 Q E := fun sp h => by
  simp only [f0m, a6k, d4s, hn]
  exact h
 have z := hd
 cases d with
 | gain y =>
  obtain ⟨dx, _, ho, g, rfl, hg⟩ := hd
  replace ho : H o = some (.ins A.a4g dx [("gain", .ref g)]) := ho
  exact .inl (b0p hσ ho (by walk_at "rd") (arg _ (q o H (Same.refl _) z)))
 | delay n' =>
  obtain ⟨dx, _, ho, rfl⟩ := hd
  replace ho : H o = some (.ins A.a2g dx [("many", .int n')]) := ho
  exact .inr (.inl (b0p hσ ho (by walk_at "rd") (arg _ (q o H (Same.refl _) z))))
 | echo y n' t' =>
  obtain ⟨dx, _, ho, g, fa, rfl, hg, hf⟩ := hd
  replace ho : H o = some (.ins A.a2i dx (ecF g fa n' t' (y.den : Int))) := ho
  unfold ecF at ho
  exact .inr (.inr (.inl (b0p hσ ho (by walk_at "rd") (arg _ (q o H (Same.refl _) z)))))
 | back y n' =>
  obtain ⟨dx, _, ho, g, rfl, hg⟩ := hd
  replace ho : H o = some (.ins A.a3s dx [("gain", .ref g), ("many", .int n')]) := ho
  exact .inr (.inr (.inr (.inl (b0p hσ ho (by walk_at "rd") (arg _ (q o H (Same.refl _) z))))))
 | hall y n' =>
  obtain ⟨dx, _, ho, g, rfl, hg⟩ := hd
  replace ho : H o = some (.ins A.a3v dx [("gain", .ref g), ("many", .int n')]) := ho
  exact .inr (.inr (.inr (.inr (.inl (b0p hσ ho (by walk_at "rd") (arg _ (q o H (Same.refl _) z)))))))
 | swell cs =>
  obtain ⟨dx, _, ho, ct, ln, S, ss, us, ps, rfl, hct, hln, TP, sok, R⟩ := hd
  replace ho : H o = some (.ins A.a1p dx [("corners", .ref ct), ("shared", .int S), ("lines", .ref ln)]) := ho
  exact .inr (.inr (.inr (.inr (.inr (b0p hσ ho (by walk_at "rd") (arg _ ⟨cs, n, rfl, z, ok, q⟩))))))
theorem i6t (T : Tx K mg A) : a1o P A.wd K mg base CX0 9 A.g2f A.h0i ["_law_script"] (g1n 63 K) := by
 have d6h : a1o P A.wd K mg base CX0 1 _ _ _ _ := i1d T
 have d1p : a1o P A.wd K mg base CX0 4 _ _ _ _ := h5p T
 have h2x : a1o P A.wd K mg base CX0 8 _ _ _ _ := i1b T
 have b6p : a1o P A.wd K mg base CX0 1 _ _ _ _ := i1h T
 have f8g : a1o P A.wd K mg base CX0 7 _ _ _ _ := i1i T
 have d3t : a1o P A.wd K mg base CX0 2 _ _ _ _ := i9a T
 have c9u : a1o P A.wd K mg base CX0 1 _ _ _ _ := i9b T
 have d3u : a1o P A.wd K mg base CX0 2 _ _ _ _ := i9c T
 have d3v : a1o P A.wd K mg base CX0 2 _ _ _ _ := i9d T
 have d3w : a1o P A.wd K mg base CX0 2 _ _ _ _ := i9e T
 have c9v : a1o P A.wd K mg base CX0 3 _ _ _ _ := i9f T
 have a0p : a1o P A.wd K mg base CX0 1 _ _ _ _ := h5k T
 have a3o : a1o P A.wd K mg base CX0 1 _ _ _ _ := g6x T
 have c1t : a1o P A.wd K mg base CX0 1 _ _ _ _ := h1u T
 have d8u : a1o P A.wd K mg base CX0 1 _ _ _ _ := h2e T
 have d8v : a1o P A.wd K mg base CX0 1 _ _ _ _ := h2f T
 have d8w : a1o P A.wd K mg base CX0 1 _ _ _ _ := h2g T
 have d6i : a1o P A.wd K mg base CX0 1 _ _ _ _ := g7b T
 have d2h : a1o P A.wd K mg base CX0 2 _ _ _ _ := h2a T
 have c9w : a1o P A.wd K mg base CX0 2 _ _ _ _ := g6z T
 have d2i : a1o P A.wd K mg base CX0 2 _ _ _ _ := h2b T
 have d2j : a1o P A.wd K mg base CX0 2 _ _ _ _ := h2c T
 have d2k : a1o P A.wd K mg base CX0 2 _ _ _ _ := h2d T
 have c9y : a1o P A.wd K mg base CX0 3 _ _ _ _ := g7a T
 refine T.h4u.ok c6w (fun vs H Q E h => ?_) (fun cdv A' outer s H vs Q E hr h => ?_)
 ·obtain ⟨a, ns, rfl, _⟩ := h
  rfl
 ·obtain ⟨a, ns, rfl, hS, hl, hbit, hO, q⟩ := h
  have hu := hr.units
  have d2l : a3g 1 _ := hr.mono (by decide)
  have c5y : a3g 4 _ := hr.mono (by decide)
  have g7s : a3g 8 _ := hr.mono (by decide)
  have b3u : a3g 1 _ := hr.mono (by decide)
  have f4i : a3g 7 _ := hr.mono (by decide)
  have c9z : a3g 2 _ := hr.mono (by decide)
  have c5z : a3g 1 _ := hr.mono (by decide)
  have d0g : a3g 2 _ := hr.mono (by decide)
  have d0h : a3g 2 _ := hr.mono (by decide)
  have d0i : a3g 2 _ := hr.mono (by decide)
  have c6g : a3g 3 _ := hr.mono (by decide)
  have a0m : a3g 1 _ := hr.mono (by decide)
  have a2r : a3g 1 _ := hr.mono (by decide)
  have b7r : a3g 1 _ := hr.mono (by decide)
  have d6j : a3g 1 _ := hr.mono (by decide)
  have d6k : a3g 1 _ := hr.mono (by decide)
  have d6l : a3g 1 _ := hr.mono (by decide)
  have d2m : a3g 1 _ := hr.mono (by decide)
  have d0j : a3g 2 _ := hr.mono (by decide)
  have c7g : a3g 2 _ := hr.mono (by decide)
  have d0k : a3g 2 _ := hr.mono (by decide)
  have d0l : a3g 2 _ := hr.mono (by decide)
  have d0m : a3g 2 _ := hr.mono (by decide)
  have c7h : a3g 3 _ := hr.mono (by decide)
  have hs : sizeLine = 16777216 := sizeLine_eq
  have bc : ∀ k : Nat, intBits (ns.getD k 0) <= 1048576 := fun k => g9k hbit k
  refine ⟨_, (a0n (a1h (i := 1) c6w.nd rfl (Or.inl rfl) (a0u d6h d2l (by rfl) T.d5s T.b0n.kp T.b7o .nil a0r (a0g (pvF 0) (a0g a0l a0i))))
   (f9j (a1h (i := 2) c6w.nd rfl (Or.inl rfl) (a0u d6h d2l (by rfl) T.d5s T.b0n.kp T.b7o .nil a0r (a0g (pvF 0) (a0g a0l a0i))))
   (a0n (a1h (i := 3) c6w.nd rfl (Or.inl rfl) (a0y b2r (pvF 2) a0l))
   (d2p (b0q (a1v (c6q hu) (a0y b2r (a0y a6o (pvF 2) a0l) a0l) a0l (a3p _))
   (a0q (a1h (i := 3) c6w.nd rfl (Or.inl rfl) (a0y b2r (a0y a6o (pvF 2) a0l) a0l)))
   a3h)
   (a0n (a1h (i := 4) c6w.nd rfl (Or.inl rfl) (a0y a1n a0l (a0y b2r (a0y a6o (pvF 2) a0l) a0l)))
   (a0n (a1h (i := 5) c6w.nd rfl (Or.inr rfl) (a0y a1n (a0y a2s a0l (a0y d8l a0l a0l)) a0l))
   (f9j (g1q (i := 6) c6w.nd rfl rfl (b5k (a6n i8f (pvF 0) (a5t a0l) (a5t a0l))) (fun _ _ _ _ _ => (a0y c7n (a0y b2r (a0y b2r (a0y a2s (pvF 0) a0l) (a0y a1n (a0y d8l a0l a0l) a0l)) (pvF 6)) (a0y d8l a0l a0l))) (d9g (sc := a0h f6j) (N := ["_law_script", "_law_first", "_law_second", "_law_by", "_law_bottom", "_law_far", "_law_tones", "_law_part", "_law_moved", "_law_due", "_law_found"]) rfl rfl (by decide +kernel)) rfl)
   (a0n (a1h (i := 7) c6w.nd rfl (Or.inr rfl) (a0u h2x g7s (by rfl) T.h0m T.c8y.kp T.f1v .nil a0r (a0g (a0u d1p c5y (by rfl) T.d1m T.b2k.kp T.b8l .nil a0r (a0g (pvF 1) (a0g a0l a0i))) a0i)))
   (a0n (a1h (i := 8) c6w.nd rfl (Or.inr rfl) (a0j (a5g (pvF 7) T.a3t T.f7g b6p b3u T.a9p .nil a0r (a0g (pvF 3) a0i)) (a0j (a5g (pvF 7) T.a2m T.f3v b6p b3u T.a9p .nil a0r (a0g (pvF 3) a0i)) (a0j (a5g (pvF 7) T.a2t T.f7i b6p b3u T.a9p .nil a0r (a0g (pvF 3) a0i)) (a0j (a5g (pvF 7) T.a3u T.f7j b6p b3u T.a9p .nil a0r (a0g (pvF 3) a0i)) (a0j (a5g (pvF 7) T.a4k T.f7k b6p b3u T.a9p .nil a0r (a0g (pvF 3) a0i)) (a5g (pvF 7) T.a1s T.f3w f8g f4i T.c5n .nil a0r (a0g (pvF 3) a0i))))))))
   (a0n (b0q (pw_or (a1v (c6r hu) (a0j (a0k (pvF 7) T.a3t T.c9h d3t c9z T.b9i .nil a0r) (a0j (a0k (pvF 7) T.a2m T.c5q c9u c5z T.b6m .nil a0r) (a0j (a0k (pvF 7) T.a2t T.c9j d3u d0g T.b9k .nil a0r) (a0j (a0k (pvF 7) T.a3u T.c9l d3v d0h T.b9l .nil a0r) (a0j (a0k (pvF 7) T.a4k T.c9n d3w d0i T.b9m .nil a0r) (a0k (pvF 7) T.a1s T.c5r c9v c6g T.b6n .nil a0r)))))) (a0u d1p c5y (by rfl) T.d1m T.b2k.kp T.b8l .nil a0r (a0g (pvF 1) (a0g a0l a0i))) (a3p _)) (pw_or1 (a1v (c6r hu) (a0j (a0k (pvF 8) T.a3t T.c9h d3t c9z T.b9i .nil a0r) (a0j (a0k (pvF 8) T.a2m T.c5q c9u c5z T.b6m .nil a0r) (a0j (a0k (pvF 8) T.a2t T.c9j d3u d0g T.b9k .nil a0r) (a0j (a0k (pvF 8) T.a3u T.c9l d3v d0h T.b9l .nil a0r) (a0j (a0k (pvF 8) T.a4k T.c9n d3w d0i T.b9m .nil a0r) (a0k (pvF 8) T.a1s T.c5r c9v c6g T.b6n .nil a0r)))))) (a0u d1p c5y (by rfl) T.d1m T.b2k.kp T.b8l .nil a0r (a0g (pvF 1) (a0g (pvF 3) a0i))) (a3p _)))).pt
   (a0q (a1i g7x))
   a3h)
   (a0n (a1h (i := 9) c6w.nd rfl (Or.inl rfl) (a1r a5o (a0j (a5g (pvF 7) T.a3t T.c9g d2h d0j T.b5p .nil a0r (a0g (a0j (a0k (pvF 7) T.a3t T.a3j a0p a0m T.a0o .nil a0r) (a0j (a0k (pvF 7) T.a2m T.a2p a0p a0m T.a0o .nil a0r) (a0j (a0k (pvF 7) T.a2t T.a3l a0p a0m T.a0o .nil a0r) (a0j (a0k (pvF 7) T.a3u T.a3m a0p a0m T.a0o .nil a0r) (a0j (a0k (pvF 7) T.a4k T.a3n a0p a0m T.a0o .nil a0r) (a0k (pvF 7) T.a1s T.a2q a3o a2r T.a2l .nil a0r)))))) (a0g (a1y a8n (by rfl) T.c1s boot_list (a0g (pvF 6) a0i)) (a0g (pvF 4) a0i)))) (a0j (a5g (pvF 7) T.a2m T.c6y c9w c7g T.b3l .nil a0r (a0g (a0j (a0k (pvF 7) T.a3t T.a3j a0p a0m T.a0o .nil a0r) (a0j (a0k (pvF 7) T.a2m T.a2p a0p a0m T.a0o .nil a0r) (a0j (a0k (pvF 7) T.a2t T.a3l a0p a0m T.a0o .nil a0r) (a0j (a0k (pvF 7) T.a3u T.a3m a0p a0m T.a0o .nil a0r) (a0j (a0k (pvF 7) T.a4k T.a3n a0p a0m T.a0o .nil a0r) (a0k (pvF 7) T.a1s T.a2q a3o a2r T.a2l .nil a0r)))))) (a0g (a1y a8n (by rfl) T.c1s boot_list (a0g (pvF 6) a0i)) (a0g (pvF 4) a0i)))) (a0j (a5g (pvF 7) T.a2t T.c9i d2i d0k T.b5r .nil a0r (a0g (a0j (a0k (pvF 7) T.a3t T.a3j a0p a0m T.a0o .nil a0r) (a0j (a0k (pvF 7) T.a2m T.a2p a0p a0m T.a0o .nil a0r) (a0j (a0k (pvF 7) T.a2t T.a3l a0p a0m T.a0o .nil a0r) (a0j (a0k (pvF 7) T.a3u T.a3m a0p a0m T.a0o .nil a0r) (a0j (a0k (pvF 7) T.a4k T.a3n a0p a0m T.a0o .nil a0r) (a0k (pvF 7) T.a1s T.a2q a3o a2r T.a2l .nil a0r)))))) (a0g (a1y a8n (by rfl) T.c1s boot_list (a0g (pvF 6) a0i)) (a0g (pvF 4) a0i)))) (a0j (a5g (pvF 7) T.a3u T.c9k d2j d0l T.b5t .nil a0r (a0g (a0j (a0k (pvF 7) T.a3t T.a3j a0p a0m T.a0o .nil a0r) (a0j (a0k (pvF 7) T.a2m T.a2p a0p a0m T.a0o .nil a0r) (a0j (a0k (pvF 7) T.a2t T.a3l a0p a0m T.a0o .nil a0r) (a0j (a0k (pvF 7) T.a3u T.a3m a0p a0m T.a0o .nil a0r) (a0j (a0k (pvF 7) T.a4k T.a3n a0p a0m T.a0o .nil a0r) (a0k (pvF 7) T.a1s T.a2q a3o a2r T.a2l .nil a0r)))))) (a0g (a1y a8n (by rfl) T.c1s boot_list (a0g (pvF 6) a0i)) (a0g (pvF 4) a0i)))) (a0j (a5g (pvF 7) T.a4k T.c9m d2k d0m T.b5v .nil a0r (a0g (a0j (a0k (pvF 7) T.a3t T.a3j a0p a0m T.a0o .nil a0r) (a0j (a0k (pvF 7) T.a2m T.a2p a0p a0m T.a0o .nil a0r) (a0j (a0k (pvF 7) T.a2t T.a3l a0p a0m T.a0o .nil a0r) (a0j (a0k (pvF 7) T.a3u T.a3m a0p a0m T.a0o .nil a0r) (a0j (a0k (pvF 7) T.a4k T.a3n a0p a0m T.a0o .nil a0r) (a0k (pvF 7) T.a1s T.a2q a3o a2r T.a2l .nil a0r)))))) (a0g (a1y a8n (by rfl) T.c1s boot_list (a0g (pvF 6) a0i)) (a0g (pvF 4) a0i)))) (a5g (pvF 7) T.a1s T.c6z c9y c7h T.b3q .nil a0r (a0g (a0j (a0k (pvF 7) T.a3t T.a3j a0p a0m T.a0o .nil a0r) (a0j (a0k (pvF 7) T.a2m T.a2p a0p a0m T.a0o .nil a0r) (a0j (a0k (pvF 7) T.a2t T.a3l a0p a0m T.a0o .nil a0r) (a0j (a0k (pvF 7) T.a3u T.a3m a0p a0m T.a0o .nil a0r) (a0j (a0k (pvF 7) T.a4k T.a3n a0p a0m T.a0o .nil a0r) (a0k (pvF 7) T.a1s T.a2q a3o a2r T.a2l .nil a0r)))))) (a0g (a1y a8n (by rfl) T.c1s boot_list (a0g (pvF 6) a0i)) (a0g (pvF 4) a0i))))))))) a0l (fun _ _ => rfl)))
   (a0n (a1h (i := 10) c6w.nd rfl (Or.inl rfl) (a1r a5o (a0j (a5g (pvF 8) T.a3t T.c9g d2h d0j T.b5p .nil a0r (a0g (a0j (a0k (pvF 8) T.a3t T.a3j a0p a0m T.a0o .nil a0r) (a0j (a0k (pvF 8) T.a2m T.a2p a0p a0m T.a0o .nil a0r) (a0j (a0k (pvF 8) T.a2t T.a3l a0p a0m T.a0o .nil a0r) (a0j (a0k (pvF 8) T.a3u T.a3m a0p a0m T.a0o .nil a0r) (a0j (a0k (pvF 8) T.a4k T.a3n a0p a0m T.a0o .nil a0r) (a0k (pvF 8) T.a1s T.a2q a3o a2r T.a2l .nil a0r)))))) (a0g (a0y a1n (a0y a2s (b3v (a0g a0l a0i)) (pvF 3)) (pvF 6)) (a0g (pvF 4) a0i)))) (a0j (a5g (pvF 8) T.a2m T.c6y c9w c7g T.b3l .nil a0r (a0g (a0j (a0k (pvF 8) T.a3t T.a3j a0p a0m T.a0o .nil a0r) (a0j (a0k (pvF 8) T.a2m T.a2p a0p a0m T.a0o .nil a0r) (a0j (a0k (pvF 8) T.a2t T.a3l a0p a0m T.a0o .nil a0r) (a0j (a0k (pvF 8) T.a3u T.a3m a0p a0m T.a0o .nil a0r) (a0j (a0k (pvF 8) T.a4k T.a3n a0p a0m T.a0o .nil a0r) (a0k (pvF 8) T.a1s T.a2q a3o a2r T.a2l .nil a0r)))))) (a0g (a0y a1n (a0y a2s (b3v (a0g a0l a0i)) (pvF 3)) (pvF 6)) (a0g (pvF 4) a0i)))) (a0j (a5g (pvF 8) T.a2t T.c9i d2i d0k T.b5r .nil a0r (a0g (a0j (a0k (pvF 8) T.a3t T.a3j a0p a0m T.a0o .nil a0r) (a0j (a0k (pvF 8) T.a2m T.a2p a0p a0m T.a0o .nil a0r) (a0j (a0k (pvF 8) T.a2t T.a3l a0p a0m T.a0o .nil a0r) (a0j (a0k (pvF 8) T.a3u T.a3m a0p a0m T.a0o .nil a0r) (a0j (a0k (pvF 8) T.a4k T.a3n a0p a0m T.a0o .nil a0r) (a0k (pvF 8) T.a1s T.a2q a3o a2r T.a2l .nil a0r)))))) (a0g (a0y a1n (a0y a2s (b3v (a0g a0l a0i)) (pvF 3)) (pvF 6)) (a0g (pvF 4) a0i)))) (a0j (a5g (pvF 8) T.a3u T.c9k d2j d0l T.b5t .nil a0r (a0g (a0j (a0k (pvF 8) T.a3t T.a3j a0p a0m T.a0o .nil a0r) (a0j (a0k (pvF 8) T.a2m T.a2p a0p a0m T.a0o .nil a0r) (a0j (a0k (pvF 8) T.a2t T.a3l a0p a0m T.a0o .nil a0r) (a0j (a0k (pvF 8) T.a3u T.a3m a0p a0m T.a0o .nil a0r) (a0j (a0k (pvF 8) T.a4k T.a3n a0p a0m T.a0o .nil a0r) (a0k (pvF 8) T.a1s T.a2q a3o a2r T.a2l .nil a0r)))))) (a0g (a0y a1n (a0y a2s (b3v (a0g a0l a0i)) (pvF 3)) (pvF 6)) (a0g (pvF 4) a0i)))) (a0j (a5g (pvF 8) T.a4k T.c9m d2k d0m T.b5v .nil a0r (a0g (a0j (a0k (pvF 8) T.a3t T.a3j a0p a0m T.a0o .nil a0r) (a0j (a0k (pvF 8) T.a2m T.a2p a0p a0m T.a0o .nil a0r) (a0j (a0k (pvF 8) T.a2t T.a3l a0p a0m T.a0o .nil a0r) (a0j (a0k (pvF 8) T.a3u T.a3m a0p a0m T.a0o .nil a0r) (a0j (a0k (pvF 8) T.a4k T.a3n a0p a0m T.a0o .nil a0r) (a0k (pvF 8) T.a1s T.a2q a3o a2r T.a2l .nil a0r)))))) (a0g (a0y a1n (a0y a2s (b3v (a0g a0l a0i)) (pvF 3)) (pvF 6)) (a0g (pvF 4) a0i)))) (a5g (pvF 8) T.a1s T.c6z c9y c7h T.b3q .nil a0r (a0g (a0j (a0k (pvF 8) T.a3t T.a3j a0p a0m T.a0o .nil a0r) (a0j (a0k (pvF 8) T.a2m T.a2p a0p a0m T.a0o .nil a0r) (a0j (a0k (pvF 8) T.a2t T.a3l a0p a0m T.a0o .nil a0r) (a0j (a0k (pvF 8) T.a3u T.a3m a0p a0m T.a0o .nil a0r) (a0j (a0k (pvF 8) T.a4k T.a3n a0p a0m T.a0o .nil a0r) (a0k (pvF 8) T.a1s T.a2q a3o a2r T.a2l .nil a0r)))))) (a0g (a0y a1n (a0y a2s (b3v (a0g a0l a0i)) (pvF 3)) (pvF 6)) (a0g (pvF 4) a0i))))))))) a0l (fun _ _ => rfl)))
   (a0n (b0q (pw_or (a1v (c6r hu) (a1t a3q (by rfl) T.b6w boot_len (a0g (pvF 10) a0i)) (a0y a1n (pvF 3) (a1t a3q (by rfl) T.b6w boot_len (a0g (pvF 6) a0i))) (a3p _)) (pw_or1 (a1v (c6r hu) (a6n g5v (pvF 10) b0w (a5t (pvF 3))) (a0y a2s (b3v (a0g a0l a0i)) (pvF 3)) (a3p _)))).pt
   (a0q (a1i g7x))
   a3h)
   (a0n (b0q (a1v (c6r hu) (a0j (a0k (pvF 7) T.a3t T.c9h d3t c9z T.b9i .nil a0r) (a0j (a0k (pvF 7) T.a2m T.c5q c9u c5z T.b6m .nil a0r) (a0j (a0k (pvF 7) T.a2t T.c9j d3u d0g T.b9k .nil a0r) (a0j (a0k (pvF 7) T.a3u T.c9l d3v d0h T.b9l .nil a0r) (a0j (a0k (pvF 7) T.a4k T.c9n d3w d0i T.b9m .nil a0r) (a0k (pvF 7) T.a1s T.c5r c9v c6g T.b6n .nil a0r)))))) (a0u d1p c5y (by rfl) T.d1m T.b2k.kp T.b8l .nil a0r (a0g (pvF 1) (a0g a0l a0i))) (a3p _))
   (a0q (a1i g7x))
   a3h)
   (a0q (a1i (f5r (c6q hu) (c4h (b5k (a6n g5v (pvF 10) (a5t (pvF 3)) b0w)) (fun _ _ _ _ _ => (a0y a2s (pvF 0) (a0j (a0k (pvF 8) T.a3t T.d5u d8u d6j T.c1h .nil a0r) (a0j (a0k (pvF 8) T.a2m T.d1z c1t b7r T.b2j .nil a0r) (a0j (a0k (pvF 8) T.a2t T.d5v d8v d6k T.c1l .nil a0r) (a0j (a0k (pvF 8) T.a3u T.d5w d8w d6l T.c1o .nil a0r) (a0j (a0k (pvF 8) T.a4k T.d5y c1t b7r T.b2j .nil a0r) (a0k (pvF 8) T.a1s T.d2g d6i d2m T.b7k .nil a0r)))))))) (d9g (sc := a0h f6j) (N := ["_law_script", "_law_first", "_law_second", "_law_by", "_law_bottom", "_law_far", "_law_tones", "_law_part", "_law_moved", "_law_due", "_law_found"]) rfl rfl (by decide +kernel)) rfl) (c4h (b5k (pvF 9)) (fun _ _ _ _ _ => (a0y a2s (pvF 0) (a0j (a0k (pvF 9) T.a3t T.d5u d8u d6j T.c1h .nil a0r) (a0j (a0k (pvF 9) T.a2m T.d1z c1t b7r T.b2j .nil a0r) (a0j (a0k (pvF 9) T.a2t T.d5v d8v d6k T.c1l .nil a0r) (a0j (a0k (pvF 9) T.a3u T.d5w d8w d6l T.c1o .nil a0r) (a0j (a0k (pvF 9) T.a4k T.d5y c1t b7r T.b2j .nil a0r) (a0k (pvF 9) T.a1s T.d2g d6i d2m T.b7k .nil a0r)))))))) (d9g (sc := a0h f6j) (N := ["_law_script", "_law_first", "_law_second", "_law_by", "_law_bottom", "_law_far", "_law_tones", "_law_part", "_law_moved", "_law_due", "_law_found"]) rfl rfl (by decide +kernel)) rfl) (a3p _)))))))))))))))))), ?_⟩
  walk_at "rd"
  refine ⟨ns, hS, ns, hS, ?_⟩
  have c0 := bc 0
  refine Stop.go ?_
  walk_at "rd"
  have f10 := b2n (ns.getD 1 0) (b := 10) (by decide)
  have j2a := b2n ((ns.getD 1 0).fdiv 80) (b := 501) (by decide)
  have i9g := b2n ((ns.getD 1 0).fdiv 80) (b := 1000) (by decide)
  obtain ⟨Mid, min', mout⟩ := i4o (fun σ' H' => ∃ n : Nat, σ' = [some (.ref a), some (.int (ns.getD 0 0)), some (.int (ns.getD 1 0)), some (.int n), none, none, none, none, none, none, none] /\ H' = H /\ n <= 501)
  refine ⟨Mid, ?_, ?_⟩
  ·walk_at "rd"
   refine ⟨⟨by decide, by decide⟩, ?_⟩
   split
   ·refine ⟨⟨by decide, by decide⟩, min' _ _ ⟨(((ns.getD 1 0).fdiv 80).fmod 501).toNat, by rw [Int.toNat_of_nonneg j2a.1], rfl, by omega⟩⟩
   ·refine min' _ _ ⟨((ns.getD 1 0).fmod 10).toNat, by rw [Int.toNat_of_nonneg f10.1], rfl, by omega⟩
  intro σ' H' hm
  obtain ⟨n, rfl, rfl, hn⟩ := mout _ _ hm
  clear hm min' mout j2a f10
  generalize ns.getD 0 0 = c at c0
  generalize ns.getD 1 0 = u at i9g
  obtain ⟨b, eb⟩ : ∃ b : Int, 1 + (u.fdiv 80).fmod 1000 = b := ⟨_, rfl⟩
  have b1 : 1 <= b := by omega
  have b2 : b <= 1000 := by omega
  have bb : intBits b <= 64 := intBits_le_64 (by omega) (by omega)
  walk_at "rd"
  refine ⟨⟨by decide, by decide⟩, ?_⟩
  rw [eb]
  refine ⟨by decide, IntMulOk.of_left (by decide), _, hS, fun p3 H3 n3 S3 h3 => ?_⟩
  rw [b8q] at h3
  have hm : ∀ x ∈ f3o ns (some 2) (some 65), intBits x <= 1100000 := fun x hx => Nat.le_trans (hbit x (h4a hx)) (by decide)
  have ml := h4b ns (some 2) (some 65)
  generalize f3o ns (some 2) (some 65) = ms at h3 hm ml
  walk_at "rd"
  refine ⟨⟨_, SqL.of h3⟩, fun D H4 n4 S4 h4 => ?_⟩
  obtain ⟨tf, etf⟩ : ∃ tf : Int -> Int, tf = fun c => ((c * 414213562373095048801689).fmod 1000000000000000000000007).fmod 2000000000001 - 1000000000000 := ⟨_, rfl⟩
  refine f9i (fun v => match v with | .int c => .int (tf c) | v => v) n4 S4 h4 (SqL.of h3) (by rw [List.length_map, sizeLine_eq]; omega) ?_ ?_
  ·intro i x H' Q' hx S' q'
   rw [List.getElem?_map] at hx
   obtain ⟨c, hc, rfl⟩ := Option.map_eq_some_iff.mp hx
   have bx := hm c (List.mem_of_getElem? hc)
   rw [etf] at q'
   walk_at "rd"
   exact ⟨by walk_at "mul", by decide, by decide, q'⟩
  intro H5 S5 h5
  have e5 : (ms.map V.int).map (fun v : V => match v with | .int c => V.int (tf c) | v => v) = (ms.map tf).map V.int := by
   rw [List.map_map, List.map_map]
   rfl
  rw [e5] at h5
  have tb : ∀ x ∈ ms.map tf, intBits x <= 64 := fun x hx => by
   obtain ⟨c, _, rfl⟩ := List.mem_map.mp hx
   rw [etf]
   have := b2n ((c * 414213562373095048801689).fmod 1000000000000000000000007) (b := 2000000000001) (by decide)
   show intBits (((c * 414213562373095048801689).fmod 1000000000000000000000007).fmod 2000000000001 - 1000000000000) <= 64
   exact intBits_le_64 (by omega) (by omega)
  have tl : (ms.map tf).length <= 63 := by rw [List.length_map]; omega
  clear etf
  generalize ms.map tf = ts at h5 tb tl
  clear h4 e5 h3 hm
  have S05 := S3.trans S5
  try walk_at "rd"
  refine Stop.go ?_
  walk_at "rd"
  have ok0 : (dtM (g4p c) 0).ok := h8d _ (by decide)
  have okn : (dtM (g4p c) n).ok := h8d _ hn
  have ed := h2v (g4p c) n
  have hw : ∀ k : Nat, (dtM (g4p c) k).word = (dtM (g4p c) k).word := fun _ => rfl
  obtain ⟨d, edd⟩ : ∃ d, dtM (g4p c) 0 = d := ⟨_, rfl⟩
  obtain ⟨dn, edn⟩ : ∃ dn, dtM (g4p c) n = dn := ⟨_, rfl⟩
  rw [edd] at ok0 ed
  rw [edn] at okn ed
  refine ⟨0, rfl, by decide, by omega, fun H6 S6 => ⟨d, ok0, by rw [edd], fun o H7 n7 S7 pd => ?_⟩⟩
  subst ed
  try walk_at "rd"
  refine lat6 (by rfl) (by rfl) pd okn fun o' H8 S8 pd' => ?_
  have pd8 := pd.same S8
  try walk_at "rd"
  refine i1c T (by rfl) pd8 ok0 fun H9 S9 => ?_
  try walk_at "rd"
  refine ⟨0, rfl, by decide, by omega, fun H10 S10 => ?_⟩
  rw [edd]
  walk_at "rd"
  have i9h := (pd'.same S9).same S10
  refine i1c T (by rfl) i9h okn fun H11 S11 => ?_
  refine ⟨n, rfl, hn, by omega, fun H12 S12 => ?_⟩
  rw [edn]
  walk_at "rd"
  have i9i : Same H8 H12 := S9.trans (S10.trans (S11.trans S12))
  have h12 := i9i _ _ (S8 _ _ (S7 _ _ (S6 _ _ h5)))
  obtain ⟨S, ss, ps⟩ := (pd8.same i9i).pick
  obtain ⟨S', ss', ps'⟩ := (pd'.same i9i).pick
  clear h5
  refine j1z (by rfl) ps ?_
  walk_at "rd"
  refine fr6 (by rfl) ps fun st13 H13 S13 hst13 => ?_
  have h13 := S13 _ _ h12
  walk_at "rd*"
  refine fun l14 H14 n14 S14 h14 => ?_
  walk_at "rd"
  have tb2 : ∀ y ∈ ([] : List Int) ++ ts, intBits y <= 100000 := fun y hy => Nat.le_trans (tb y hy) (by decide)
  refine ⟨d, rfl, S, ss, (ps.same S13).same S14, ok0, [], (hst13 b).same S14, ts, h14, by decide, by omega, b1, bb, tb2, fun r15 ou15 st15 H15 S15 nr15 no15 hr15 hou15 hst15 => ?_⟩
  have i1j := S13.trans (S14.trans S15)
  have h15 := i1j _ _ h12
  have ps15 := ps.same i1j
  have h5q := ps'.same i1j
  have ol := b5w d b S ss [] ts
  clear h12 h13 h14
  walk_at "rd*"
  refine j1z (by rfl) h5q ?_
  walk_at "rd"
  refine fr6 (by rfl) h5q fun st16 H16 S16 hst16 => ?_
  have h16 := S16 _ _ h15
  walk_at "rd*"
  refine fun l17 H17 n17 S17 h17 => ?_
  have i6u := S17 _ _ h16
  walk_at "rd*"
  refine ⟨by omega, by omega, by omega, fun l18 H18 n18 S18 h18 => ?_⟩
  rw [Int.toNat_natCast, g3s] at h18
  have i9j := S18 _ _ i6u
  clear h17 i6u h16
  walk_at "rd*"
  refine ⟨by rw [List.length_replicate]; omega, fun l19 H19 n19 S19 h19 => ?_⟩
  rw [<- List.map_append] at h19
  have i1k := S17.trans (S18.trans S19)
  have zl : (List.replicate n (0 : Int) ++ ts).length = n + ts.length := by rw [List.length_append, List.length_replicate]
  have zb : ∀ y ∈ ([] : List Int) ++ (List.replicate n 0 ++ ts), intBits y <= 100000 := fun y hy => by
   rcases List.mem_append.mp (show y ∈ List.replicate n (0 : Int) ++ ts from hy) with h | h
   ·rw [(List.mem_replicate.mp h).2]
    decide
   ·exact Nat.le_trans (tb y h) (by decide)
  walk_at "rd"
  refine ⟨a8m n d, rfl, S', ss', (h5q.same S16).same i1k, okn, [], (hst16 b).same i1k, List.replicate n 0 ++ ts, h19, by decide, by omega, b1, bb, zb, fun r20 ou20 st20 H20 S20 nr20 no20 hr20 hou20 hst20 => ?_⟩
  have h5r : Same H15 H20 := S16.trans (i1k.trans S20)
  have h20 := h5r _ _ h15
  have j2b := h5r _ _ hou15
  have i9k := ps15.same h5r
  have i1l := h5q.same h5r
  have ol' := b5w (a8m n d) b S' ss' [] (List.replicate n 0 ++ ts)
  have sc := g3f (k := n) ok0 i9k i1l b ts
  have oz := fun i (h : i < n) => g7q (a8m n d) b S' ss' (k := n) ts (i := i) h
  clear h18 h19 i9j h15 hr15 hou15
  walk_at "rd*"
  rw [if_neg (not_not_intro (by omega))]
  obtain ⟨F, eF⟩ : ∃ F, outs (a8m n d) b S' ss' [] (List.replicate n 0 ++ ts) = F := ⟨_, rfl⟩
  have Fg : ∀ i, i < n + ts.length -> F.getD i 0 = b7p b S' ss' (List.replicate n 0 ++ ts) i (a8m n d) := fun i hi => by
   rw [<- eF, c5v (by omega), List.length_nil, Nat.zero_add, List.nil_append]
  rw [eF] at hou20 ol' ⊢
  have Fl : F.length = n + ts.length := by omega
  have Ft : F.take n = List.replicate n 0 := by
   refine i0y (by rw [List.length_take, List.length_replicate]; omega) fun i hi => ?_
   rw [List.length_take] at hi
   have e1 : (F.take n).getD i 0 = F.getD i 0 := by
    rw [List.getD_eq_getElem?_getD, List.getElem?_take, if_pos (by omega), <- List.getD_eq_getElem?_getD]
   have e2 := b5y n [] i
   rw [List.append_nil, if_pos (by omega)] at e2
   rw [e1, e2, Fg i (by omega), oz i (by omega)]
  refine fun l21 H21 n21 S21 h21 => ?_
  rw [b8q, g9l, Ft] at h21
  try walk_at "rd"
  refine ⟨by decide, fun l22 H22 n22 S22 h22 => ?_⟩
  have i6v := S22 _ _ h21
  walk_at "rd*"
  refine ⟨by omega, by omega, by omega, fun l23 H23 n23 S23 h23 => ?_⟩
  rw [Int.toNat_natCast, g3s] at h23
  have i6w := S23 _ _ i6v
  clear h22 i6v h21
  walk_at "rd"
  refine h3y (SqL.of i6w) (SqL.of h23) ?_
  simp only [decide_true, Bool.not_true, Bool.false_eq_true, if_false]
  have h2y : Same H20 H23 := S21.trans (S22.trans S23)
  have i6x := h2y _ _ hou20
  have j2c := h2y _ _ j2b
  have ps23 := i9k.same h2y
  have ps23' := i1l.same h2y
  clear h23 i6w h20 hr20 hou20 j2b
  try walk_at "rd"
  refine i1c T (by rfl) ps23.isP ok0 fun H24 S24 => ?_
  try walk_at "rd"
  refine ⟨0, rfl, by decide, by omega, fun H25 S25 => ?_⟩
  rw [edd]
  walk_at "rd"
  have i1m := S24.trans S25
  have i9l := i1m _ _ i6x
  have j2d := i1m _ _ j2c
  clear i6x j2c
  walk_at "rd*"
  refine fun l26 H26 n26 S26 h26 => ?_
  rw [b8q, a6p] at h26
  have j2e := S26 _ _ j2d
  have j2f : Same H20 H26 := h2y.trans (i1m.trans S26)
  have i9m := i9k.same j2f
  have i1n := i1l.same j2f
  have zb2 : ∀ y ∈ List.replicate n (0 : Int) ++ ts, intBits y <= 64 := fun y hy => by
   rcases List.mem_append.mp hy with h | h
   ·rw [(List.mem_replicate.mp h).2]
    decide
   ·exact tb y h
  have fin : (F.drop n).map (· * b9v S d) = (outs d b S ss [] ts).map (· * b9v S' (a8m n d)) := by
   refine i0y (by rw [List.length_map, List.length_map, List.length_drop]; omega) fun i hi => ?_
   rw [List.length_map, List.length_drop] at hi
   rw [b8m, b8m, d6g, Fg (n + i) (by omega), c5v (by omega), List.length_nil, Nat.zero_add, List.nil_append]
   exact sc i
  refine ⟨⟨_, SqL.of h26⟩, fun D27 H27 n27 S27 h27 => ?_⟩
  refine d9u (((F.drop n).map (· * b9v S d)).map V.int) (by rw [List.length_map, List.length_map, List.length_map]) n27 S27 h27 (SqL.of h26) (by rw [sizeLine_eq, List.length_map, List.length_drop]; omega) ?_ ?_
  ·intro i x z H' Q' hx hz SS q'
   rw [List.getElem?_map] at hx
   obtain ⟨t, ht, rfl⟩ := Option.map_eq_some_iff.mp hx
   rw [List.getElem?_map, List.getElem?_map, ht] at hz
   cases hz
   walk_at "rd"
   refine gr6 (by rfl) (i9m.same SS) ?_
   walk_at "rd"
   refine ⟨?_, q'⟩
   have il := (List.getElem?_eq_some_iff.mp ht).1
   rw [List.length_drop] at il
   have e : t = b7p b S' ss' (List.replicate n 0 ++ ts) (n + i) (a8m n d) := by
    rw [<- Fg (n + i) (by omega), <- d6g, List.getD_eq_getElem?_getD, ht]
    rfl
   rw [e]
   exact (h2w ok0 okn i9m i1n b zb2 (by omega)).1
  intro H28 S28 h28
  have hd28 := S28 _ _ j2e
  have i6y : SqL K H28 ou15 ((outs d b S ss [] ts).map V.int) := SqL.of hd28
  clear j2d i9l j2e h26 h27
  walk_at "rd"
  refine ⟨⟨_, i6y⟩, fun D29 H29 n29 S29 h29 => ?_⟩
  refine d9u (((outs d b S ss [] ts).map (· * b9v S' (a8m n d))).map V.int) (by rw [List.length_map, List.length_map, List.length_map]) n29 S29 h29 i6y (by rw [sizeLine_eq, List.length_map]; omega) ?_ ?_
  ·intro i x z H' Q' hx hz SS q'
   rw [List.getElem?_map] at hx
   obtain ⟨t, ht, rfl⟩ := Option.map_eq_some_iff.mp hx
   rw [List.getElem?_map, List.getElem?_map, ht] at hz
   cases hz
   walk_at "rd"
   refine gr6 (by rfl) ((i1n.same S28).same SS) ?_
   walk_at "rd"
   refine ⟨?_, q'⟩
   have il := (List.getElem?_eq_some_iff.mp ht).1
   have e : t = b7p b S ss ts i d := by
    have e := c5v (d := d) (b := b) (S := S) (ss := ss) (xs := []) (ys := ts) (i := i) (by omega)
    rw [List.length_nil, Nat.zero_add, List.nil_append, List.getD_eq_getElem?_getD, ht] at e
    exact e
   rw [e]
   exact (h2w ok0 okn i9m i1n b tb (by omega)).2
  intro H30 S30 h30
  have h28' := S30 _ _ h28
  try walk_at "rd"
  refine h3x (SqL.of h28') (SqL.of h30) ?_
  rw [fin, decide_eq_true rfl]
  exact q _
theorem all_mk {l : PySem.W.OpenLaw} {w : World} {K : PySem.W.Frag} {h : Heap} {mg : Str → Option Value} {fa : Addr} (X : K.In h) (G : h.Ns mainGlobals mg) (hfa : mg "law" = some (.ref fa))
  {c0t a4g a2g a2i a3s a3v a1p : Addr}
  (f6z : PySem.W.nsIn K mainGlobals "Part" = some (some (.ref c0t)))
  (f1y : PySem.W.nsIn K mainGlobals "Gain" = some (some (.ref a4g)))
  (d5t : PySem.W.nsIn K mainGlobals "Delay" = some (some (.ref a2g)))
  (f1z : PySem.W.nsIn K mainGlobals "Echo" = some (some (.ref a2i)))
  (f2g : PySem.W.nsIn K mainGlobals "Back" = some (some (.ref a3s)))
  (f2h : PySem.W.nsIn K mainGlobals "Hall" = some (some (.ref a3v)))
  (d1n : PySem.W.nsIn K mainGlobals "Swell" = some (some (.ref a1p)))
  {b4r : Addr} {od_is_whole an_is_whole : Option Addr} {sl_is_whole : Array (Option Value)} {oc_is_whole kV_is_whole dc_is_whole pm_is_whole cd_is_whole ct_is_whole : Value}
  (a_is_whole : PySem.W.nsIn K mainGlobals "is_whole" = some (some (.ref b4r))) (l_is_whole : K.lookup b4r = some ⟨oc_is_whole, od_is_whole, .func (PySem.W.fnOf "is_whole" "is_whole" (a0v b7t) (a0t b7t) (a0h b7t) .none kV_is_whole dc_is_whole pm_is_whole an_is_whole cd_is_whole ct_is_whole), sl_is_whole⟩) (d7u : PySem.W.codeIn K cd_is_whole "is_whole" = true) (k_is_whole : PySem.W.keepIn K (.ref b4r) = true)
  {a8w : Addr} {od_is_figures an_is_figures : Option Addr} {sl_is_figures : Array (Option Value)} {oc_is_figures kV_is_figures dc_is_figures pm_is_figures cd_is_figures ct_is_figures : Value}
  (a_is_figures : PySem.W.nsIn K mainGlobals "is_figures" = some (some (.ref a8w))) (l_is_figures : K.lookup a8w = some ⟨oc_is_figures, od_is_figures, .func (PySem.W.fnOf "is_figures" "is_figures" (a0v b1p) (a0t b1p) (a0h b1p) .none kV_is_figures dc_is_figures pm_is_figures an_is_figures cd_is_figures ct_is_figures), sl_is_figures⟩) (d0n : PySem.W.codeIn K cd_is_figures "is_figures" = true) (k_is_figures : PySem.W.keepIn K (.ref a8w) = true)
  {b4s : Addr} {od_whole_of an_whole_of : Option Addr} {sl_whole_of : Array (Option Value)} {oc_whole_of kV_whole_of dc_whole_of pm_whole_of cd_whole_of ct_whole_of : Value}
  (a_whole_of : PySem.W.nsIn K mainGlobals "whole_of" = some (some (.ref b4s))) (l_whole_of : K.lookup b4s = some ⟨oc_whole_of, od_whole_of, .func (PySem.W.fnOf "whole_of" "whole_of" (a0v b7u) (a0t b7u) (a0h b7u) .none kV_whole_of dc_whole_of pm_whole_of an_whole_of cd_whole_of ct_whole_of), sl_whole_of⟩) (d7v : PySem.W.codeIn K cd_whole_of "whole_of" = true) (k_whole_of : PySem.W.keepIn K (.ref b4s) = true)
  {b6i : Addr} {od_divisor an_divisor : Option Addr} {sl_divisor : Array (Option Value)} {oc_divisor kV_divisor dc_divisor pm_divisor cd_divisor ct_divisor : Value}
  (a_divisor : PySem.W.nsIn K mainGlobals "divisor" = some (some (.ref b6i))) (l_divisor : K.lookup b6i = some ⟨oc_divisor, od_divisor, .func (PySem.W.fnOf "divisor" "divisor" (a0v c2z) (a0t c2z) (a0h c2z) .none kV_divisor dc_divisor pm_divisor an_divisor cd_divisor ct_divisor), sl_divisor⟩) (f2y : PySem.W.codeIn K cd_divisor "divisor" = true) (k_divisor : PySem.W.keepIn K (.ref b6i) = true)
  {b4t : Addr} {od_multiple an_multiple : Option Addr} {sl_multiple : Array (Option Value)} {oc_multiple kV_multiple dc_multiple pm_multiple cd_multiple ct_multiple : Value}
  (a_multiple : PySem.W.nsIn K mainGlobals "multiple" = some (some (.ref b4t))) (l_multiple : K.lookup b4t = some ⟨oc_multiple, od_multiple, .func (PySem.W.fnOf "multiple" "multiple" (a0v b7v) (a0t b7v) (a0h b7v) .none kV_multiple dc_multiple pm_multiple an_multiple cd_multiple ct_multiple), sl_multiple⟩) (d7w : PySem.W.codeIn K cd_multiple "multiple" = true) (k_multiple : PySem.W.keepIn K (.ref b4t) = true)
  {b4u : Addr} {od_fraction an_fraction : Option Addr} {sl_fraction : Array (Option Value)} {oc_fraction kV_fraction dc_fraction pm_fraction cd_fraction ct_fraction : Value}
  (a_fraction : PySem.W.nsIn K mainGlobals "fraction" = some (some (.ref b4u))) (l_fraction : K.lookup b4u = some ⟨oc_fraction, od_fraction, .func (PySem.W.fnOf "fraction" "fraction" (a0v b7w) (a0t b7w) (a0h b7w) .none kV_fraction dc_fraction pm_fraction an_fraction cd_fraction ct_fraction), sl_fraction⟩) (d7y : PySem.W.codeIn K cd_fraction "fraction" = true) (k_fraction : PySem.W.keepIn K (.ref b4u) = true)
  {f1h : Addr} {od_plus an_plus : Option Addr} {sl_plus : Array (Option Value)} {oc_plus kV_plus dc_plus pm_plus cd_plus ct_plus : Value}
  (a_plus : PySem.W.nsIn K mainGlobals "plus" = some (some (.ref f1h))) (l_plus : K.lookup f1h = some ⟨oc_plus, od_plus, .func (PySem.W.fnOf "plus" "plus" (a0v f4p) (a0t f4p) (a0h f4p) .none kV_plus dc_plus pm_plus an_plus cd_plus ct_plus), sl_plus⟩) (h2z : PySem.W.codeIn K cd_plus "plus" = true) (k_plus : PySem.W.keepIn K (.ref f1h) = true)
  {d2w : Addr} {od_times an_times : Option Addr} {sl_times : Array (Option Value)} {oc_times kV_times dc_times pm_times cd_times ct_times : Value}
  (a_times : PySem.W.nsIn K mainGlobals "times" = some (some (.ref d2w))) (l_times : K.lookup d2w = some ⟨oc_times, od_times, .func (PySem.W.fnOf "times" "times" (a0v d6t) (a0t d6t) (a0h d6t) .none kV_times dc_times pm_times an_times cd_times ct_times), sl_times⟩) (g3k : PySem.W.codeIn K cd_times "times" = true) (k_times : PySem.W.keepIn K (.ref d2w) = true)
  {b8v : Addr} {od_size_of an_size_of : Option Addr} {sl_size_of : Array (Option Value)} {oc_size_of kV_size_of dc_size_of pm_size_of cd_size_of ct_size_of : Value}
  (a_size_of : PySem.W.nsIn K mainGlobals "size_of" = some (some (.ref b8v))) (l_size_of : K.lookup b8v = some ⟨oc_size_of, od_size_of, .func (PySem.W.fnOf "size_of" "size_of" (a0v c3g) (a0t c3g) (a0h c3g) .none kV_size_of dc_size_of pm_size_of an_size_of cd_size_of ct_size_of), sl_size_of⟩) (f2z : PySem.W.codeIn K cd_size_of "size_of" = true) (k_size_of : PySem.W.keepIn K (.ref b8v) = true)
  {b4v : Addr} {od_is_under an_is_under : Option Addr} {sl_is_under : Array (Option Value)} {oc_is_under kV_is_under dc_is_under pm_is_under cd_is_under ct_is_under : Value}
  (a_is_under : PySem.W.nsIn K mainGlobals "is_under" = some (some (.ref b4v))) (l_is_under : K.lookup b4v = some ⟨oc_is_under, od_is_under, .func (PySem.W.fnOf "is_under" "is_under" (a0v b7y) (a0t b7y) (a0h b7y) .none kV_is_under dc_is_under pm_is_under an_is_under cd_is_under ct_is_under), sl_is_under⟩) (d7z : PySem.W.codeIn K cd_is_under "is_under" = true) (k_is_under : PySem.W.keepIn K (.ref b4v) = true)
  {a4u : Addr} {od_fraction_text an_fraction_text : Option Addr} {sl_fraction_text : Array (Option Value)} {oc_fraction_text kV_fraction_text dc_fraction_text pm_fraction_text cd_fraction_text ct_fraction_text : Value}
  (a_fraction_text : PySem.W.nsIn K mainGlobals "fraction_text" = some (some (.ref a4u))) (l_fraction_text : K.lookup a4u = some ⟨oc_fraction_text, od_fraction_text, .func (PySem.W.fnOf "fraction_text" "fraction_text" (a0v a6q) (a0t a6q) (a0h a6q) .none kV_fraction_text dc_fraction_text pm_fraction_text an_fraction_text cd_fraction_text ct_fraction_text), sl_fraction_text⟩) (c0i : PySem.W.codeIn K cd_fraction_text "fraction_text" = true) (k_fraction_text : PySem.W.keepIn K (.ref a4u) = true)
  {a5k : Addr} {od_read_fraction an_read_fraction : Option Addr} {sl_read_fraction : Array (Option Value)} {oc_read_fraction kV_read_fraction dc_read_fraction pm_read_fraction cd_read_fraction ct_read_fraction : Value}
  (a_read_fraction : PySem.W.nsIn K mainGlobals "read_fraction" = some (some (.ref a5k))) (l_read_fraction : K.lookup a5k = some ⟨oc_read_fraction, od_read_fraction, .func (PySem.W.fnOf "read_fraction" "read_fraction" (a0v a6r) (a0t a6r) (a0h a6r) .none kV_read_fraction dc_read_fraction pm_read_fraction an_read_fraction cd_read_fraction ct_read_fraction), sl_read_fraction⟩) (c0j : PySem.W.codeIn K cd_read_fraction "read_fraction" = true) (k_read_fraction : PySem.W.keepIn K (.ref a5k) = true)
  {a8y : Addr} {od_added_rows an_added_rows : Option Addr} {sl_added_rows : Array (Option Value)} {oc_added_rows kV_added_rows dc_added_rows pm_added_rows cd_added_rows ct_added_rows : Value}
  (a_added_rows : PySem.W.nsIn K mainGlobals "added_rows" = some (some (.ref a8y))) (l_added_rows : K.lookup a8y = some ⟨oc_added_rows, od_added_rows, .func (PySem.W.fnOf "added_rows" "added_rows" (a0v a8t) (a0t a8t) (a0h a8t) .none kV_added_rows dc_added_rows pm_added_rows an_added_rows cd_added_rows ct_added_rows), sl_added_rows⟩) (d0o : PySem.W.codeIn K cd_added_rows "added_rows" = true) (k_added_rows : PySem.W.keepIn K (.ref a8y) = true)
  {b1h : Addr} {od_times_row an_times_row : Option Addr} {sl_times_row : Array (Option Value)} {oc_times_row kV_times_row dc_times_row pm_times_row cd_times_row ct_times_row : Value}
  (a_times_row : PySem.W.nsIn K mainGlobals "times_row" = some (some (.ref b1h))) (l_times_row : K.lookup b1h = some ⟨oc_times_row, od_times_row, .func (PySem.W.fnOf "times_row" "times_row" (a0v b0z) (a0t b0z) (a0h b0z) .none kV_times_row dc_times_row pm_times_row an_times_row cd_times_row ct_times_row), sl_times_row⟩) (d3y : PySem.W.codeIn K cd_times_row "times_row" = true) (k_times_row : PySem.W.keepIn K (.ref b1h) = true)
  {b8w : Addr} {od_delayed an_delayed : Option Addr} {sl_delayed : Array (Option Value)} {oc_delayed kV_delayed dc_delayed pm_delayed cd_delayed ct_delayed : Value}
  (a_delayed : PySem.W.nsIn K mainGlobals "delayed" = some (some (.ref b8w))) (l_delayed : K.lookup b8w = some ⟨oc_delayed, od_delayed, .func (PySem.W.fnOf "delayed" "delayed" (a0v b8t) (a0t b8t) (a0h b8t) .none kV_delayed dc_delayed pm_delayed an_delayed cd_delayed ct_delayed), sl_delayed⟩) (f3g : PySem.W.codeIn K cd_delayed "delayed" = true) (k_delayed : PySem.W.keepIn K (.ref b8w) = true)
  {b8y : Addr} {od_last_of an_last_of : Option Addr} {sl_last_of : Array (Option Value)} {oc_last_of kV_last_of dc_last_of pm_last_of cd_last_of ct_last_of : Value}
  (a_last_of : PySem.W.nsIn K mainGlobals "last_of" = some (some (.ref b8y))) (l_last_of : K.lookup b8y = some ⟨oc_last_of, od_last_of, .func (PySem.W.fnOf "last_of" "last_of" (a0v c3h) (a0t c3h) (a0h c3h) .none kV_last_of dc_last_of pm_last_of an_last_of cd_last_of ct_last_of), sl_last_of⟩) (f3h : PySem.W.codeIn K cd_last_of "last_of" = true) (k_last_of : PySem.W.keepIn K (.ref b8y) = true)
  {a2v : Addr} {od_Part_grain an_Part_grain : Option Addr} {sl_Part_grain : Array (Option Value)} {oc_Part_grain kV_Part_grain dc_Part_grain pm_Part_grain cd_Part_grain ct_Part_grain : Value}
  (a_Part_grain : PySem.W.findIn K (.ref c0t) "grain" = some (some (.ref a2v))) (l_Part_grain : K.lookup a2v = some ⟨oc_Part_grain, od_Part_grain, .func (PySem.W.fnOf "grain" "Part.grain" (a0v b1q) (a0t b1q) (a0h b1q) .none kV_Part_grain dc_Part_grain pm_Part_grain an_Part_grain cd_Part_grain ct_Part_grain), sl_Part_grain⟩) (d0p : PySem.W.codeIn K cd_Part_grain "Part.grain" = true) (k_Part_grain : PySem.W.keepIn K (.ref a2v) = true)
  {a1k : Addr} {od_Part_fresh an_Part_fresh : Option Addr} {sl_Part_fresh : Array (Option Value)} {oc_Part_fresh kV_Part_fresh dc_Part_fresh pm_Part_fresh cd_Part_fresh ct_Part_fresh : Value}
  (a_Part_fresh : PySem.W.findIn K (.ref c0t) "fresh" = some (some (.ref a1k))) (l_Part_fresh : K.lookup a1k = some ⟨oc_Part_fresh, od_Part_fresh, .func (PySem.W.fnOf "fresh" "Part.fresh" (a0v b1r) (a0t b1r) (a0h b1r) .none kV_Part_fresh dc_Part_fresh pm_Part_fresh an_Part_fresh cd_Part_fresh ct_Part_fresh), sl_Part_fresh⟩) (d0q : PySem.W.codeIn K cd_Part_fresh "Part.fresh" = true) (k_Part_fresh : PySem.W.keepIn K (.ref a1k) = true)
  {a1l : Addr} {od_Part_later an_Part_later : Option Addr} {sl_Part_later : Array (Option Value)} {oc_Part_later kV_Part_later dc_Part_later pm_Part_later cd_Part_later ct_Part_later : Value}
  (a_Part_later : PySem.W.findIn K (.ref c0t) "later" = some (some (.ref a1l))) (l_Part_later : K.lookup a1l = some ⟨oc_Part_later, od_Part_later, .func (PySem.W.fnOf "later" "Part.later" (a0v b1s) (a0t b1s) (a0h b1s) .none kV_Part_later dc_Part_later pm_Part_later an_Part_later cd_Part_later ct_Part_later), sl_Part_later⟩) (d0r : PySem.W.codeIn K cd_Part_later "Part.later" = true) (k_Part_later : PySem.W.keepIn K (.ref a1l) = true)
  {a8z : Addr} {od_Gain_init an_Gain_init : Option Addr} {sl_Gain_init : Array (Option Value)} {oc_Gain_init kV_Gain_init dc_Gain_init pm_Gain_init cd_Gain_init ct_Gain_init : Value}
  (a_Gain_init : PySem.W.findIn K (.ref a4g) "__init__" = some (some (.ref a8z))) (l_Gain_init : K.lookup a8z = some ⟨oc_Gain_init, od_Gain_init, .func (PySem.W.fnOf "__init__" "Gain.__init__" (a0v b3w) (a0t b3w) (a0h b3w) .none kV_Gain_init dc_Gain_init pm_Gain_init an_Gain_init cd_Gain_init ct_Gain_init), sl_Gain_init⟩) (d3z : PySem.W.codeIn K cd_Gain_init "Gain.__init__" = true) (k_Gain_init : PySem.W.keepIn K (.ref a8z) = true)
  {a5v : Addr} {od_Gain_grain an_Gain_grain : Option Addr} {sl_Gain_grain : Array (Option Value)} {oc_Gain_grain kV_Gain_grain dc_Gain_grain pm_Gain_grain cd_Gain_grain ct_Gain_grain : Value}
  (a_Gain_grain : PySem.W.findIn K (.ref a4g) "grain" = some (some (.ref a5v))) (l_Gain_grain : K.lookup a5v = some ⟨oc_Gain_grain, od_Gain_grain, .func (PySem.W.fnOf "grain" "Gain.grain" (a0v b1t) (a0t b1t) (a0h b1t) .none kV_Gain_grain dc_Gain_grain pm_Gain_grain an_Gain_grain cd_Gain_grain ct_Gain_grain), sl_Gain_grain⟩) (d0s : PySem.W.codeIn K cd_Gain_grain "Gain.grain" = true) (k_Gain_grain : PySem.W.keepIn K (.ref a5v) = true)
  {a4n : Addr} {od_Gain_through an_Gain_through : Option Addr} {sl_Gain_through : Array (Option Value)} {oc_Gain_through kV_Gain_through dc_Gain_through pm_Gain_through cd_Gain_through ct_Gain_through : Value}
  (a_Gain_through : PySem.W.findIn K (.ref a4g) "through" = some (some (.ref a4n))) (l_Gain_through : K.lookup a4n = some ⟨oc_Gain_through, od_Gain_through, .func (PySem.W.fnOf "through" "Gain.through" (a0v a8o) (a0t a8o) (a0h a8o) .none kV_Gain_through dc_Gain_through pm_Gain_through an_Gain_through cd_Gain_through ct_Gain_through), sl_Gain_through⟩) (c2o : PySem.W.codeIn K cd_Gain_through "Gain.through" = true) (k_Gain_through : PySem.W.keepIn K (.ref a4n) = true)
  {a9g : Addr} {od_Gain_word an_Gain_word : Option Addr} {sl_Gain_word : Array (Option Value)} {oc_Gain_word kV_Gain_word dc_Gain_word pm_Gain_word cd_Gain_word ct_Gain_word : Value}
  (a_Gain_word : PySem.W.findIn K (.ref a4g) "word" = some (some (.ref a9g))) (l_Gain_word : K.lookup a9g = some ⟨oc_Gain_word, od_Gain_word, .func (PySem.W.fnOf "word" "Gain.word" (a0v b3y) (a0t b3y) (a0h b3y) .none kV_Gain_word dc_Gain_word pm_Gain_word an_Gain_word cd_Gain_word ct_Gain_word), sl_Gain_word⟩) (d4g : PySem.W.codeIn K cd_Gain_word "Gain.word" = true) (k_Gain_word : PySem.W.keepIn K (.ref a9g) = true)
  {a7n : Addr} {od_Delay_init an_Delay_init : Option Addr} {sl_Delay_init : Array (Option Value)} {oc_Delay_init kV_Delay_init dc_Delay_init pm_Delay_init cd_Delay_init ct_Delay_init : Value}
  (a_Delay_init : PySem.W.findIn K (.ref a2g) "__init__" = some (some (.ref a7n))) (l_Delay_init : K.lookup a7n = some ⟨oc_Delay_init, od_Delay_init, .func (PySem.W.fnOf "__init__" "Delay.__init__" (a0v b1u) (a0t b1u) (a0h b1u) .none kV_Delay_init dc_Delay_init pm_Delay_init an_Delay_init cd_Delay_init ct_Delay_init), sl_Delay_init⟩) (d0t : PySem.W.codeIn K cd_Delay_init "Delay.__init__" = true) (k_Delay_init : PySem.W.keepIn K (.ref a7n) = true)
  {a3y : Addr} {od_Delay_through an_Delay_through : Option Addr} {sl_Delay_through : Array (Option Value)} {oc_Delay_through kV_Delay_through dc_Delay_through pm_Delay_through cd_Delay_through ct_Delay_through : Value}
  (a_Delay_through : PySem.W.findIn K (.ref a2g) "through" = some (some (.ref a3y))) (l_Delay_through : K.lookup a3y = some ⟨oc_Delay_through, od_Delay_through, .func (PySem.W.fnOf "through" "Delay.through" (a0v a6s) (a0t a6s) (a0h a6s) .none kV_Delay_through dc_Delay_through pm_Delay_through an_Delay_through cd_Delay_through ct_Delay_through), sl_Delay_through⟩) (c0k : PySem.W.codeIn K cd_Delay_through "Delay.through" = true) (k_Delay_through : PySem.W.keepIn K (.ref a3y) = true)
  {a7o : Addr} {od_Delay_word an_Delay_word : Option Addr} {sl_Delay_word : Array (Option Value)} {oc_Delay_word kV_Delay_word dc_Delay_word pm_Delay_word cd_Delay_word ct_Delay_word : Value}
  (a_Delay_word : PySem.W.findIn K (.ref a2g) "word" = some (some (.ref a7o))) (l_Delay_word : K.lookup a7o = some ⟨oc_Delay_word, od_Delay_word, .func (PySem.W.fnOf "word" "Delay.word" (a0v b1v) (a0t b1v) (a0h b1v) .none kV_Delay_word dc_Delay_word pm_Delay_word an_Delay_word cd_Delay_word ct_Delay_word), sl_Delay_word⟩) (d0u : PySem.W.codeIn K cd_Delay_word "Delay.word" = true) (k_Delay_word : PySem.W.keepIn K (.ref a7o) = true)
  {b1i : Addr} {od_powers_of an_powers_of : Option Addr} {sl_powers_of : Array (Option Value)} {oc_powers_of kV_powers_of dc_powers_of pm_powers_of cd_powers_of ct_powers_of : Value}
  (a_powers_of : PySem.W.nsIn K mainGlobals "powers_of" = some (some (.ref b1i))) (l_powers_of : K.lookup b1i = some ⟨oc_powers_of, od_powers_of, .func (PySem.W.fnOf "powers_of" "powers_of" (a0v b3z) (a0t b3z) (a0h b3z) .none kV_powers_of dc_powers_of pm_powers_of an_powers_of cd_powers_of ct_powers_of), sl_powers_of⟩) (d4h : PySem.W.codeIn K cd_powers_of "powers_of" = true) (k_powers_of : PySem.W.keepIn K (.ref b1i) = true)
  {a5l : Addr} {od_toward_nought an_toward_nought : Option Addr} {sl_toward_nought : Array (Option Value)} {oc_toward_nought kV_toward_nought dc_toward_nought pm_toward_nought cd_toward_nought ct_toward_nought : Value}
  (a_toward_nought : PySem.W.nsIn K mainGlobals "toward_nought" = some (some (.ref a5l))) (l_toward_nought : K.lookup a5l = some ⟨oc_toward_nought, od_toward_nought, .func (PySem.W.fnOf "toward_nought" "toward_nought" (a0v a6t) (a0t a6t) (a0h a6t) .none kV_toward_nought dc_toward_nought pm_toward_nought an_toward_nought cd_toward_nought ct_toward_nought), sl_toward_nought⟩) (c0l : PySem.W.codeIn K cd_toward_nought "toward_nought" = true) (k_toward_nought : PySem.W.keepIn K (.ref a5l) = true)
  {a9h : Addr} {od_Echo_init an_Echo_init : Option Addr} {sl_Echo_init : Array (Option Value)} {oc_Echo_init kV_Echo_init dc_Echo_init pm_Echo_init cd_Echo_init ct_Echo_init : Value}
  (a_Echo_init : PySem.W.findIn K (.ref a2i) "__init__" = some (some (.ref a9h))) (l_Echo_init : K.lookup a9h = some ⟨oc_Echo_init, od_Echo_init, .func (PySem.W.fnOf "__init__" "Echo.__init__" (a0v b1g) (a0t b1g) (a0h b1g) .none kV_Echo_init dc_Echo_init pm_Echo_init an_Echo_init cd_Echo_init ct_Echo_init), sl_Echo_init⟩) (d4i : PySem.W.codeIn K cd_Echo_init "Echo.__init__" = true) (k_Echo_init : PySem.W.keepIn K (.ref a9h) = true)
  {a5w : Addr} {od_Echo_grain an_Echo_grain : Option Addr} {sl_Echo_grain : Array (Option Value)} {oc_Echo_grain kV_Echo_grain dc_Echo_grain pm_Echo_grain cd_Echo_grain ct_Echo_grain : Value}
  (a_Echo_grain : PySem.W.findIn K (.ref a2i) "grain" = some (some (.ref a5w))) (l_Echo_grain : K.lookup a5w = some ⟨oc_Echo_grain, od_Echo_grain, .func (PySem.W.fnOf "grain" "Echo.grain" (a0v b1w) (a0t b1w) (a0h b1w) .none kV_Echo_grain dc_Echo_grain pm_Echo_grain an_Echo_grain cd_Echo_grain ct_Echo_grain), sl_Echo_grain⟩) (d0v : PySem.W.codeIn K cd_Echo_grain "Echo.grain" = true) (k_Echo_grain : PySem.W.keepIn K (.ref a5w) = true)
  {a4o : Addr} {od_Echo_through an_Echo_through : Option Addr} {sl_Echo_through : Array (Option Value)} {oc_Echo_through kV_Echo_through dc_Echo_through pm_Echo_through cd_Echo_through ct_Echo_through : Value}
  (a_Echo_through : PySem.W.findIn K (.ref a2i) "through" = some (some (.ref a4o))) (l_Echo_through : K.lookup a4o = some ⟨oc_Echo_through, od_Echo_through, .func (PySem.W.fnOf "through" "Echo.through" (a0v a8p) (a0t a8p) (a0h a8p) .none kV_Echo_through dc_Echo_through pm_Echo_through an_Echo_through cd_Echo_through ct_Echo_through), sl_Echo_through⟩) (c2p : PySem.W.codeIn K cd_Echo_through "Echo.through" = true) (k_Echo_through : PySem.W.keepIn K (.ref a4o) = true)
  {a7p : Addr} {od_Echo_reach an_Echo_reach : Option Addr} {sl_Echo_reach : Array (Option Value)} {oc_Echo_reach kV_Echo_reach dc_Echo_reach pm_Echo_reach cd_Echo_reach ct_Echo_reach : Value}
  (a_Echo_reach : PySem.W.findIn K (.ref a2i) "reach" = some (some (.ref a7p))) (l_Echo_reach : K.lookup a7p = some ⟨oc_Echo_reach, od_Echo_reach, .func (PySem.W.fnOf "reach" "Echo.reach" (a0v b1y) (a0t b1y) (a0h b1y) .none kV_Echo_reach dc_Echo_reach pm_Echo_reach an_Echo_reach cd_Echo_reach ct_Echo_reach), sl_Echo_reach⟩) (d0w : PySem.W.codeIn K cd_Echo_reach "Echo.reach" = true) (k_Echo_reach : PySem.W.keepIn K (.ref a7p) = true)
  {a9i : Addr} {od_Echo_word an_Echo_word : Option Addr} {sl_Echo_word : Array (Option Value)} {oc_Echo_word kV_Echo_word dc_Echo_word pm_Echo_word cd_Echo_word ct_Echo_word : Value}
  (a_Echo_word : PySem.W.findIn K (.ref a2i) "word" = some (some (.ref a9i))) (l_Echo_word : K.lookup a9i = some ⟨oc_Echo_word, od_Echo_word, .func (PySem.W.fnOf "word" "Echo.word" (a0v b4g) (a0t b4g) (a0h b4g) .none kV_Echo_word dc_Echo_word pm_Echo_word an_Echo_word cd_Echo_word ct_Echo_word), sl_Echo_word⟩) (d4j : PySem.W.codeIn K cd_Echo_word "Echo.word" = true) (k_Echo_word : PySem.W.keepIn K (.ref a9i) = true)
  {a9j : Addr} {od_Back_init an_Back_init : Option Addr} {sl_Back_init : Array (Option Value)} {oc_Back_init kV_Back_init dc_Back_init pm_Back_init cd_Back_init ct_Back_init : Value}
  (a_Back_init : PySem.W.findIn K (.ref a3s) "__init__" = some (some (.ref a9j))) (l_Back_init : K.lookup a9j = some ⟨oc_Back_init, od_Back_init, .func (PySem.W.fnOf "__init__" "Back.__init__" (a0v b4h) (a0t b4h) (a0h b4h) .none kV_Back_init dc_Back_init pm_Back_init an_Back_init cd_Back_init ct_Back_init), sl_Back_init⟩) (d4k : PySem.W.codeIn K cd_Back_init "Back.__init__" = true) (k_Back_init : PySem.W.keepIn K (.ref a9j) = true)
  {a5y : Addr} {od_Back_grain an_Back_grain : Option Addr} {sl_Back_grain : Array (Option Value)} {oc_Back_grain kV_Back_grain dc_Back_grain pm_Back_grain cd_Back_grain ct_Back_grain : Value}
  (a_Back_grain : PySem.W.findIn K (.ref a3s) "grain" = some (some (.ref a5y))) (l_Back_grain : K.lookup a5y = some ⟨oc_Back_grain, od_Back_grain, .func (PySem.W.fnOf "grain" "Back.grain" (a0v b1z) (a0t b1z) (a0h b1z) .none kV_Back_grain dc_Back_grain pm_Back_grain an_Back_grain cd_Back_grain ct_Back_grain), sl_Back_grain⟩) (d0y : PySem.W.codeIn K cd_Back_grain "Back.grain" = true) (k_Back_grain : PySem.W.keepIn K (.ref a5y) = true)
  {a4p : Addr} {od_Back_through an_Back_through : Option Addr} {sl_Back_through : Array (Option Value)} {oc_Back_through kV_Back_through dc_Back_through pm_Back_through cd_Back_through ct_Back_through : Value}
  (a_Back_through : PySem.W.findIn K (.ref a3s) "through" = some (some (.ref a4p))) (l_Back_through : K.lookup a4p = some ⟨oc_Back_through, od_Back_through, .func (PySem.W.fnOf "through" "Back.through" (a0v a8q) (a0t a8q) (a0h a8q) .none kV_Back_through dc_Back_through pm_Back_through an_Back_through cd_Back_through ct_Back_through), sl_Back_through⟩) (c2q : PySem.W.codeIn K cd_Back_through "Back.through" = true) (k_Back_through : PySem.W.keepIn K (.ref a4p) = true)
  {a9k : Addr} {od_Back_word an_Back_word : Option Addr} {sl_Back_word : Array (Option Value)} {oc_Back_word kV_Back_word dc_Back_word pm_Back_word cd_Back_word ct_Back_word : Value}
  (a_Back_word : PySem.W.findIn K (.ref a3s) "word" = some (some (.ref a9k))) (l_Back_word : K.lookup a9k = some ⟨oc_Back_word, od_Back_word, .func (PySem.W.fnOf "word" "Back.word" (a0v b4i) (a0t b4i) (a0h b4i) .none kV_Back_word dc_Back_word pm_Back_word an_Back_word cd_Back_word ct_Back_word), sl_Back_word⟩) (d4l : PySem.W.codeIn K cd_Back_word "Back.word" = true) (k_Back_word : PySem.W.keepIn K (.ref a9k) = true)
  {a9l : Addr} {od_Hall_init an_Hall_init : Option Addr} {sl_Hall_init : Array (Option Value)} {oc_Hall_init kV_Hall_init dc_Hall_init pm_Hall_init cd_Hall_init ct_Hall_init : Value}
  (a_Hall_init : PySem.W.findIn K (.ref a3v) "__init__" = some (some (.ref a9l))) (l_Hall_init : K.lookup a9l = some ⟨oc_Hall_init, od_Hall_init, .func (PySem.W.fnOf "__init__" "Hall.__init__" (a0v b4j) (a0t b4j) (a0h b4j) .none kV_Hall_init dc_Hall_init pm_Hall_init an_Hall_init cd_Hall_init ct_Hall_init), sl_Hall_init⟩) (d4m : PySem.W.codeIn K cd_Hall_init "Hall.__init__" = true) (k_Hall_init : PySem.W.keepIn K (.ref a9l) = true)
  {a4q : Addr} {od_Hall_through an_Hall_through : Option Addr} {sl_Hall_through : Array (Option Value)} {oc_Hall_through kV_Hall_through dc_Hall_through pm_Hall_through cd_Hall_through ct_Hall_through : Value}
  (a_Hall_through : PySem.W.findIn K (.ref a3v) "through" = some (some (.ref a4q))) (l_Hall_through : K.lookup a4q = some ⟨oc_Hall_through, od_Hall_through, .func (PySem.W.fnOf "through" "Hall.through" (a0v a8r) (a0t a8r) (a0h a8r) .none kV_Hall_through dc_Hall_through pm_Hall_through an_Hall_through cd_Hall_through ct_Hall_through), sl_Hall_through⟩) (c2r : PySem.W.codeIn K cd_Hall_through "Hall.through" = true) (k_Hall_through : PySem.W.keepIn K (.ref a4q) = true)
  {a9m : Addr} {od_Hall_word an_Hall_word : Option Addr} {sl_Hall_word : Array (Option Value)} {oc_Hall_word kV_Hall_word dc_Hall_word pm_Hall_word cd_Hall_word ct_Hall_word : Value}
  (a_Hall_word : PySem.W.findIn K (.ref a3v) "word" = some (some (.ref a9m))) (l_Hall_word : K.lookup a9m = some ⟨oc_Hall_word, od_Hall_word, .func (PySem.W.fnOf "word" "Hall.word" (a0v b4k) (a0t b4k) (a0h b4k) .none kV_Hall_word dc_Hall_word pm_Hall_word an_Hall_word cd_Hall_word ct_Hall_word), sl_Hall_word⟩) (d4n : PySem.W.codeIn K cd_Hall_word "Hall.word" = true) (k_Hall_word : PySem.W.keepIn K (.ref a9m) = true)
  {a5m : Addr} {od_shared_bottom an_shared_bottom : Option Addr} {sl_shared_bottom : Array (Option Value)} {oc_shared_bottom kV_shared_bottom dc_shared_bottom pm_shared_bottom cd_shared_bottom ct_shared_bottom : Value}
  (a_shared_bottom : PySem.W.nsIn K mainGlobals "shared_bottom" = some (some (.ref a5m))) (l_shared_bottom : K.lookup a5m = some ⟨oc_shared_bottom, od_shared_bottom, .func (PySem.W.fnOf "shared_bottom" "shared_bottom" (a0v a6u) (a0t a6u) (a0h a6u) .none kV_shared_bottom dc_shared_bottom pm_shared_bottom an_shared_bottom cd_shared_bottom ct_shared_bottom), sl_shared_bottom⟩) (c0m : PySem.W.codeIn K cd_shared_bottom "shared_bottom" = true) (k_shared_bottom : PySem.W.keepIn K (.ref a5m) = true)
  {b1j : Addr} {od_slopes_of an_slopes_of : Option Addr} {sl_slopes_of : Array (Option Value)} {oc_slopes_of kV_slopes_of dc_slopes_of pm_slopes_of cd_slopes_of ct_slopes_of : Value}
  (a_slopes_of : PySem.W.nsIn K mainGlobals "slopes_of" = some (some (.ref b1j))) (l_slopes_of : K.lookup b1j = some ⟨oc_slopes_of, od_slopes_of, .func (PySem.W.fnOf "slopes_of" "slopes_of" (a0v b4l) (a0t b4l) (a0h b4l) .none kV_slopes_of dc_slopes_of pm_slopes_of an_slopes_of cd_slopes_of ct_slopes_of), sl_slopes_of⟩) (d4o : PySem.W.codeIn K cd_slopes_of "slopes_of" = true) (k_slopes_of : PySem.W.keepIn K (.ref b1j) = true)
  {f1i : Addr} {od_over an_over : Option Addr} {sl_over : Array (Option Value)} {oc_over kV_over dc_over pm_over cd_over ct_over : Value}
  (a_over : PySem.W.nsIn K mainGlobals "over" = some (some (.ref f1i))) (l_over : K.lookup f1i = some ⟨oc_over, od_over, .func (PySem.W.fnOf "over" "over" (a0v f4q) (a0t f4q) (a0h f4q) .none kV_over dc_over pm_over an_over cd_over ct_over), sl_over⟩) (h3a : PySem.W.codeIn K cd_over "over" = true) (k_over : PySem.W.keepIn K (.ref f1i) = true)
  {a7v : Addr} {od_corner_word an_corner_word : Option Addr} {sl_corner_word : Array (Option Value)} {oc_corner_word kV_corner_word dc_corner_word pm_corner_word cd_corner_word ct_corner_word : Value}
  (a_corner_word : PySem.W.nsIn K mainGlobals "corner_word" = some (some (.ref a7v))) (l_corner_word : K.lookup a7v = some ⟨oc_corner_word, od_corner_word, .func (PySem.W.fnOf "corner_word" "corner_word" (a0v a9u) (a0t a9u) (a0h a9u) .none kV_corner_word dc_corner_word pm_corner_word an_corner_word cd_corner_word ct_corner_word), sl_corner_word⟩) (c6h : PySem.W.codeIn K cd_corner_word "corner_word" = true) (k_corner_word : PySem.W.keepIn K (.ref a7v) = true)
  {a7q : Addr} {od_Swell_init an_Swell_init : Option Addr} {sl_Swell_init : Array (Option Value)} {oc_Swell_init kV_Swell_init dc_Swell_init pm_Swell_init cd_Swell_init ct_Swell_init : Value}
  (a_Swell_init : PySem.W.findIn K (.ref a1p) "__init__" = some (some (.ref a7q))) (l_Swell_init : K.lookup a7q = some ⟨oc_Swell_init, od_Swell_init, .func (PySem.W.fnOf "__init__" "Swell.__init__" (a0v a5u) (a0t a5u) (a0h a5u) .none kV_Swell_init dc_Swell_init pm_Swell_init an_Swell_init cd_Swell_init ct_Swell_init), sl_Swell_init⟩) (d0z : PySem.W.codeIn K cd_Swell_init "Swell.__init__" = true) (k_Swell_init : PySem.W.keepIn K (.ref a7q) = true)
  {a5h : Addr} {od_Swell_grain an_Swell_grain : Option Addr} {sl_Swell_grain : Array (Option Value)} {oc_Swell_grain kV_Swell_grain dc_Swell_grain pm_Swell_grain cd_Swell_grain ct_Swell_grain : Value}
  (a_Swell_grain : PySem.W.findIn K (.ref a1p) "grain" = some (some (.ref a5h))) (l_Swell_grain : K.lookup a5h = some ⟨oc_Swell_grain, od_Swell_grain, .func (PySem.W.fnOf "grain" "Swell.grain" (a0v a9v) (a0t a9v) (a0h a9v) .none kV_Swell_grain dc_Swell_grain pm_Swell_grain an_Swell_grain cd_Swell_grain ct_Swell_grain), sl_Swell_grain⟩) (c6i : PySem.W.codeIn K cd_Swell_grain "Swell.grain" = true) (k_Swell_grain : PySem.W.keepIn K (.ref a5h) = true)
  {a5z : Addr} {od_Swell_fresh an_Swell_fresh : Option Addr} {sl_Swell_fresh : Array (Option Value)} {oc_Swell_fresh kV_Swell_fresh dc_Swell_fresh pm_Swell_fresh cd_Swell_fresh ct_Swell_fresh : Value}
  (a_Swell_fresh : PySem.W.findIn K (.ref a1p) "fresh" = some (some (.ref a5z))) (l_Swell_fresh : K.lookup a5z = some ⟨oc_Swell_fresh, od_Swell_fresh, .func (PySem.W.fnOf "fresh" "Swell.fresh" (a0v a9w) (a0t a9w) (a0h a9w) .none kV_Swell_fresh dc_Swell_fresh pm_Swell_fresh an_Swell_fresh cd_Swell_fresh ct_Swell_fresh), sl_Swell_fresh⟩) (c6j : PySem.W.codeIn K cd_Swell_fresh "Swell.fresh" = true) (k_Swell_fresh : PySem.W.keepIn K (.ref a5z) = true)
  {a4v : Addr} {od_Swell_line_at an_Swell_line_at : Option Addr} {sl_Swell_line_at : Array (Option Value)} {oc_Swell_line_at kV_Swell_line_at dc_Swell_line_at pm_Swell_line_at cd_Swell_line_at ct_Swell_line_at : Value}
  (a_Swell_line_at : PySem.W.findIn K (.ref a1p) "line_at" = some (some (.ref a4v))) (l_Swell_line_at : K.lookup a4v = some ⟨oc_Swell_line_at, od_Swell_line_at, .func (PySem.W.fnOf "line_at" "Swell.line_at" (a0v a6v) (a0t a6v) (a0h a6v) .none kV_Swell_line_at dc_Swell_line_at pm_Swell_line_at an_Swell_line_at cd_Swell_line_at ct_Swell_line_at), sl_Swell_line_at⟩) (c0n : PySem.W.codeIn K cd_Swell_line_at "Swell.line_at" = true) (k_Swell_line_at : PySem.W.keepIn K (.ref a4v) = true)
  {a4w : Addr} {od_Swell_gain_at an_Swell_gain_at : Option Addr} {sl_Swell_gain_at : Array (Option Value)} {oc_Swell_gain_at kV_Swell_gain_at dc_Swell_gain_at pm_Swell_gain_at cd_Swell_gain_at ct_Swell_gain_at : Value}
  (a_Swell_gain_at : PySem.W.findIn K (.ref a1p) "gain_at" = some (some (.ref a4w))) (l_Swell_gain_at : K.lookup a4w = some ⟨oc_Swell_gain_at, od_Swell_gain_at, .func (PySem.W.fnOf "gain_at" "Swell.gain_at" (a0v a6w) (a0t a6w) (a0h a6w) .none kV_Swell_gain_at dc_Swell_gain_at pm_Swell_gain_at an_Swell_gain_at cd_Swell_gain_at ct_Swell_gain_at), sl_Swell_gain_at⟩) (c0o : PySem.W.codeIn K cd_Swell_gain_at "Swell.gain_at" = true) (k_Swell_gain_at : PySem.W.keepIn K (.ref a4w) = true)
  {a3z : Addr} {od_Swell_through an_Swell_through : Option Addr} {sl_Swell_through : Array (Option Value)} {oc_Swell_through kV_Swell_through dc_Swell_through pm_Swell_through cd_Swell_through ct_Swell_through : Value}
  (a_Swell_through : PySem.W.findIn K (.ref a1p) "through" = some (some (.ref a3z))) (l_Swell_through : K.lookup a3z = some ⟨oc_Swell_through, od_Swell_through, .func (PySem.W.fnOf "through" "Swell.through" (a0v a5j) (a0t a5j) (a0h a5j) .none kV_Swell_through dc_Swell_through pm_Swell_through an_Swell_through cd_Swell_through ct_Swell_through), sl_Swell_through⟩) (c0p : PySem.W.codeIn K cd_Swell_through "Swell.through" = true) (k_Swell_through : PySem.W.keepIn K (.ref a3z) = true)
  {a6g : Addr} {od_Swell_later an_Swell_later : Option Addr} {sl_Swell_later : Array (Option Value)} {oc_Swell_later kV_Swell_later dc_Swell_later pm_Swell_later cd_Swell_later ct_Swell_later : Value}
  (a_Swell_later : PySem.W.findIn K (.ref a1p) "later" = some (some (.ref a6g))) (l_Swell_later : K.lookup a6g = some ⟨oc_Swell_later, od_Swell_later, .func (PySem.W.fnOf "later" "Swell.later" (a0v a7u) (a0t a7u) (a0h a7u) .none kV_Swell_later dc_Swell_later pm_Swell_later an_Swell_later cd_Swell_later ct_Swell_later), sl_Swell_later⟩) (c6k : PySem.W.codeIn K cd_Swell_later "Swell.later" = true) (k_Swell_later : PySem.W.keepIn K (.ref a6g) = true)
  {a7r : Addr} {od_Swell_word an_Swell_word : Option Addr} {sl_Swell_word : Array (Option Value)} {oc_Swell_word kV_Swell_word dc_Swell_word pm_Swell_word cd_Swell_word ct_Swell_word : Value}
  (a_Swell_word : PySem.W.findIn K (.ref a1p) "word" = some (some (.ref a7r))) (l_Swell_word : K.lookup a7r = some ⟨oc_Swell_word, od_Swell_word, .func (PySem.W.fnOf "word" "Swell.word" (a0v a8u) (a0t a8u) (a0h a8u) .none kV_Swell_word dc_Swell_word pm_Swell_word an_Swell_word cd_Swell_word ct_Swell_word), sl_Swell_word⟩) (d1g : PySem.W.codeIn K cd_Swell_word "Swell.word" = true) (k_Swell_word : PySem.W.keepIn K (.ref a7r) = true)
  {b1k : Addr} {od_read_gain an_read_gain : Option Addr} {sl_read_gain : Array (Option Value)} {oc_read_gain kV_read_gain dc_read_gain pm_read_gain cd_read_gain ct_read_gain : Value}
  (a_read_gain : PySem.W.nsIn K mainGlobals "read_gain" = some (some (.ref b1k))) (l_read_gain : K.lookup b1k = some ⟨oc_read_gain, od_read_gain, .func (PySem.W.fnOf "read_gain" "read_gain" (a0v b4m) (a0t b4m) (a0h b4m) .none kV_read_gain dc_read_gain pm_read_gain an_read_gain cd_read_gain ct_read_gain), sl_read_gain⟩) (d4p : PySem.W.codeIn K cd_read_gain "read_gain" = true) (k_read_gain : PySem.W.keepIn K (.ref b1k) = true)
  {a7w : Addr} {od_read_number an_read_number : Option Addr} {sl_read_number : Array (Option Value)} {oc_read_number kV_read_number dc_read_number pm_read_number cd_read_number ct_read_number : Value}
  (a_read_number : PySem.W.nsIn K mainGlobals "read_number" = some (some (.ref a7w))) (l_read_number : K.lookup a7w = some ⟨oc_read_number, od_read_number, .func (PySem.W.fnOf "read_number" "read_number" (a0v a9y) (a0t a9y) (a0h a9y) .none kV_read_number dc_read_number pm_read_number an_read_number cd_read_number ct_read_number), sl_read_number⟩) (c6l : PySem.W.codeIn K cd_read_number "read_number" = true) (k_read_number : PySem.W.keepIn K (.ref a7w) = true)
  {b1l : Addr} {od_read_many an_read_many : Option Addr} {sl_read_many : Array (Option Value)} {oc_read_many kV_read_many dc_read_many pm_read_many cd_read_many ct_read_many : Value}
  (a_read_many : PySem.W.nsIn K mainGlobals "read_many" = some (some (.ref b1l))) (l_read_many : K.lookup b1l = some ⟨oc_read_many, od_read_many, .func (PySem.W.fnOf "read_many" "read_many" (a0v b4n) (a0t b4n) (a0h b4n) .none kV_read_many dc_read_many pm_read_many an_read_many cd_read_many ct_read_many), sl_read_many⟩) (d4q : PySem.W.codeIn K cd_read_many "read_many" = true) (k_read_many : PySem.W.keepIn K (.ref b1l) = true)
  {a7y : Addr} {od_check_count an_check_count : Option Addr} {sl_check_count : Array (Option Value)} {oc_check_count kV_check_count dc_check_count pm_check_count cd_check_count ct_check_count : Value}
  (a_check_count : PySem.W.nsIn K mainGlobals "check_count" = some (some (.ref a7y))) (l_check_count : K.lookup a7y = some ⟨oc_check_count, od_check_count, .func (PySem.W.fnOf "check_count" "check_count" (a0v a9z) (a0t a9z) (a0h a9z) .none kV_check_count dc_check_count pm_check_count an_check_count cd_check_count ct_check_count), sl_check_count⟩) (c6m : PySem.W.codeIn K cd_check_count "check_count" = true) (k_check_count : PySem.W.keepIn K (.ref a7y) = true)
  {b3g : Addr} {od_gain_of an_gain_of : Option Addr} {sl_gain_of : Array (Option Value)} {oc_gain_of kV_gain_of dc_gain_of pm_gain_of cd_gain_of ct_gain_of : Value}
  (a_gain_of : PySem.W.nsIn K mainGlobals "gain_of" = some (some (.ref b3g))) (l_gain_of : K.lookup b3g = some ⟨oc_gain_of, od_gain_of, .func (PySem.W.fnOf "gain_of" "gain_of" (a0v c3i) (a0t c3i) (a0h c3i) .none kV_gain_of dc_gain_of pm_gain_of an_gain_of cd_gain_of ct_gain_of), sl_gain_of⟩) (f3i : PySem.W.codeIn K cd_gain_of "gain_of" = true) (k_gain_of : PySem.W.keepIn K (.ref b3g) = true)
  {b0j : Addr} {od_delay_of an_delay_of : Option Addr} {sl_delay_of : Array (Option Value)} {oc_delay_of kV_delay_of dc_delay_of pm_delay_of cd_delay_of ct_delay_of : Value}
  (a_delay_of : PySem.W.nsIn K mainGlobals "delay_of" = some (some (.ref b0j))) (l_delay_of : K.lookup b0j = some ⟨oc_delay_of, od_delay_of, .func (PySem.W.fnOf "delay_of" "delay_of" (a0v b7z) (a0t b7z) (a0h b7z) .none kV_delay_of dc_delay_of pm_delay_of an_delay_of cd_delay_of ct_delay_of), sl_delay_of⟩) (d8g : PySem.W.codeIn K cd_delay_of "delay_of" = true) (k_delay_of : PySem.W.keepIn K (.ref b0j) = true)
  {b3h : Addr} {od_echo_of an_echo_of : Option Addr} {sl_echo_of : Array (Option Value)} {oc_echo_of kV_echo_of dc_echo_of pm_echo_of cd_echo_of ct_echo_of : Value}
  (a_echo_of : PySem.W.nsIn K mainGlobals "echo_of" = some (some (.ref b3h))) (l_echo_of : K.lookup b3h = some ⟨oc_echo_of, od_echo_of, .func (PySem.W.fnOf "echo_of" "echo_of" (a0v c3j) (a0t c3j) (a0h c3j) .none kV_echo_of dc_echo_of pm_echo_of an_echo_of cd_echo_of ct_echo_of), sl_echo_of⟩) (f3j : PySem.W.codeIn K cd_echo_of "echo_of" = true) (k_echo_of : PySem.W.keepIn K (.ref b3h) = true)
  {b3i : Addr} {od_back_of an_back_of : Option Addr} {sl_back_of : Array (Option Value)} {oc_back_of kV_back_of dc_back_of pm_back_of cd_back_of ct_back_of : Value}
  (a_back_of : PySem.W.nsIn K mainGlobals "back_of" = some (some (.ref b3i))) (l_back_of : K.lookup b3i = some ⟨oc_back_of, od_back_of, .func (PySem.W.fnOf "back_of" "back_of" (a0v c3k) (a0t c3k) (a0h c3k) .none kV_back_of dc_back_of pm_back_of an_back_of cd_back_of ct_back_of), sl_back_of⟩) (f3k : PySem.W.codeIn K cd_back_of "back_of" = true) (k_back_of : PySem.W.keepIn K (.ref b3i) = true)
  {b3j : Addr} {od_hall_of an_hall_of : Option Addr} {sl_hall_of : Array (Option Value)} {oc_hall_of kV_hall_of dc_hall_of pm_hall_of cd_hall_of ct_hall_of : Value}
  (a_hall_of : PySem.W.nsIn K mainGlobals "hall_of" = some (some (.ref b3j))) (l_hall_of : K.lookup b3j = some ⟨oc_hall_of, od_hall_of, .func (PySem.W.fnOf "hall_of" "hall_of" (a0v c3l) (a0t c3l) (a0h c3l) .none kV_hall_of dc_hall_of pm_hall_of an_hall_of cd_hall_of ct_hall_of), sl_hall_of⟩) (f3l : PySem.W.codeIn K cd_hall_of "hall_of" = true) (k_hall_of : PySem.W.keepIn K (.ref b3j) = true)
  {a7z : Addr} {od_read_corner an_read_corner : Option Addr} {sl_read_corner : Array (Option Value)} {oc_read_corner kV_read_corner dc_read_corner pm_read_corner cd_read_corner ct_read_corner : Value}
  (a_read_corner : PySem.W.nsIn K mainGlobals "read_corner" = some (some (.ref a7z))) (l_read_corner : K.lookup a7z = some ⟨oc_read_corner, od_read_corner, .func (PySem.W.fnOf "read_corner" "read_corner" (a0v b0g) (a0t b0g) (a0h b0g) .none kV_read_corner dc_read_corner pm_read_corner an_read_corner cd_read_corner ct_read_corner), sl_read_corner⟩) (c6n : PySem.W.codeIn K cd_read_corner "read_corner" = true) (k_read_corner : PySem.W.keepIn K (.ref a7z) = true)
  {b0k : Addr} {od_swell_of an_swell_of : Option Addr} {sl_swell_of : Array (Option Value)} {oc_swell_of kV_swell_of dc_swell_of pm_swell_of cd_swell_of ct_swell_of : Value}
  (a_swell_of : PySem.W.nsIn K mainGlobals "swell_of" = some (some (.ref b0k))) (l_swell_of : K.lookup b0k = some ⟨oc_swell_of, od_swell_of, .func (PySem.W.fnOf "swell_of" "swell_of" (a0v b4o) (a0t b4o) (a0h b4o) .none kV_swell_of dc_swell_of pm_swell_of an_swell_of cd_swell_of ct_swell_of), sl_swell_of⟩) (d8h : PySem.W.codeIn K cd_swell_of "swell_of" = true) (k_swell_of : PySem.W.keepIn K (.ref b0k) = true)
  {b8z : Addr} {od_part_of an_part_of : Option Addr} {sl_part_of : Array (Option Value)} {oc_part_of kV_part_of dc_part_of pm_part_of cd_part_of ct_part_of : Value}
  (a_part_of : PySem.W.nsIn K mainGlobals "part_of" = some (some (.ref b8z))) (l_part_of : K.lookup b8z = some ⟨oc_part_of, od_part_of, .func (PySem.W.fnOf "part_of" "part_of" (a0v c3m) (a0t c3m) (a0h c3m) .none kV_part_of dc_part_of pm_part_of an_part_of cd_part_of ct_part_of), sl_part_of⟩) (f3m : PySem.W.codeIn K cd_part_of "part_of" = true) (k_part_of : PySem.W.keepIn K (.ref b8z) = true)
  {a8g : Addr} {od_law_cell_at an_law_cell_at : Option Addr} {sl_law_cell_at : Array (Option Value)} {oc_law_cell_at kV_law_cell_at dc_law_cell_at pm_law_cell_at cd_law_cell_at ct_law_cell_at : Value}
  (a_law_cell_at : PySem.W.nsIn K mainGlobals "_law_cell_at" = some (some (.ref a8g))) (l_law_cell_at : K.lookup a8g = some ⟨oc_law_cell_at, od_law_cell_at, .func (PySem.W.fnOf "_law_cell_at" "_law_cell_at" (a0v b0h) (a0t b0h) (a0h b0h) .none kV_law_cell_at dc_law_cell_at pm_law_cell_at an_law_cell_at cd_law_cell_at ct_law_cell_at), sl_law_cell_at⟩) (c6o : PySem.W.codeIn K cd_law_cell_at "_law_cell_at" = true) (k_law_cell_at : PySem.W.keepIn K (.ref a8g) = true)
  {a8h : Addr} {od_law_divisor an_law_divisor : Option Addr} {sl_law_divisor : Array (Option Value)} {oc_law_divisor kV_law_divisor dc_law_divisor pm_law_divisor cd_law_divisor ct_law_divisor : Value}
  (a_law_divisor : PySem.W.nsIn K mainGlobals "_law_divisor" = some (some (.ref a8h))) (l_law_divisor : K.lookup a8h = some ⟨oc_law_divisor, od_law_divisor, .func (PySem.W.fnOf "_law_divisor" "_law_divisor" (a0v b0i) (a0t b0i) (a0h b0i) .none kV_law_divisor dc_law_divisor pm_law_divisor an_law_divisor cd_law_divisor ct_law_divisor), sl_law_divisor⟩) (c6p : PySem.W.codeIn K cd_law_divisor "_law_divisor" = true) (k_law_divisor : PySem.W.keepIn K (.ref a8h) = true)
  {b4w : Addr} {od_law_gain an_law_gain : Option Addr} {sl_law_gain : Array (Option Value)} {oc_law_gain kV_law_gain dc_law_gain pm_law_gain cd_law_gain ct_law_gain : Value}
  (a_law_gain : PySem.W.nsIn K mainGlobals "_law_gain" = some (some (.ref b4w))) (l_law_gain : K.lookup b4w = some ⟨oc_law_gain, od_law_gain, .func (PySem.W.fnOf "_law_gain" "_law_gain" (a0v b8g) (a0t b8g) (a0h b8g) .none kV_law_gain dc_law_gain pm_law_gain an_law_gain cd_law_gain ct_law_gain), sl_law_gain⟩) (d8i : PySem.W.codeIn K cd_law_gain "_law_gain" = true) (k_law_gain : PySem.W.keepIn K (.ref b4w) = true)
  {b1m : Addr} {od_law_swell an_law_swell : Option Addr} {sl_law_swell : Array (Option Value)} {oc_law_swell kV_law_swell dc_law_swell pm_law_swell cd_law_swell ct_law_swell : Value}
  (a_law_swell : PySem.W.nsIn K mainGlobals "_law_swell" = some (some (.ref b1m))) (l_law_swell : K.lookup b1m = some ⟨oc_law_swell, od_law_swell, .func (PySem.W.fnOf "_law_swell" "_law_swell" (a0v b4p) (a0t b4p) (a0h b4p) .none kV_law_swell dc_law_swell pm_law_swell an_law_swell cd_law_swell ct_law_swell), sl_law_swell⟩) (d4r : PySem.W.codeIn K cd_law_swell "_law_swell" = true) (k_law_swell : PySem.W.keepIn K (.ref b1m) = true)
  {b4y : Addr} {od_law_word an_law_word : Option Addr} {sl_law_word : Array (Option Value)} {oc_law_word kV_law_word dc_law_word pm_law_word cd_law_word ct_law_word : Value}
  (a_law_word : PySem.W.nsIn K mainGlobals "_law_word" = some (some (.ref b4y))) (l_law_word : K.lookup b4y = some ⟨oc_law_word, od_law_word, .func (PySem.W.fnOf "_law_word" "_law_word" (a0v b8h) (a0t b8h) (a0h b8h) .none kV_law_word dc_law_word pm_law_word an_law_word cd_law_word ct_law_word), sl_law_word⟩) (d8j : PySem.W.codeIn K cd_law_word "_law_word" = true) (k_law_word : PySem.W.keepIn K (.ref b4y) = true)
  {g2f : Addr} {od_law an_law : Option Addr} {sl_law : Array (Option Value)} {oc_law kV_law dc_law pm_law cd_law ct_law : Value}
  (a_law : PySem.W.nsIn K mainGlobals "law" = some (some (.ref g2f))) (l_law : K.lookup g2f = some ⟨oc_law, od_law, .func (PySem.W.fnOf "law" "law" (a0v f6j) (a0t f6j) (a0h f6j) .none kV_law dc_law pm_law an_law cd_law ct_law), sl_law⟩) (i1o : PySem.W.codeIn K cd_law "law" = true) (k_law : PySem.W.keepIn K (.ref g2f) = true)
  (f1w : PySem.W.nsIn K mainGlobals "abs" = some none)
  (g0c : PySem.W.nsIn K mainGlobals "bool" = some none)
  (b9u : PySem.W.nsIn K mainGlobals "enumerate" = some none)
  (f6y : PySem.W.nsIn K mainGlobals "int" = some none)
  (a7s : PySem.W.nsIn K mainGlobals "isinstance" = some none)
  (b6w : PySem.W.nsIn K mainGlobals "len" = some none)
  (c1s : PySem.W.nsIn K mainGlobals "list" = some none)
  (g6p : PySem.W.nsIn K mainGlobals "max" = some none)
  (h0n : PySem.W.nsIn K mainGlobals "min" = some none)
  (c2m : PySem.W.nsIn K mainGlobals "range" = some none)
  (d7q : PySem.W.nsIn K mainGlobals "str" = some none)
  (c8z : PySem.W.nsIn K mainGlobals "tuple" = some none)
  (g2i : PySem.W.nsIn K mainGlobals "zip" = some none)
  {t_FIGURES : Tok}
  {t_MOST_FIGURES_wholes : Tok}
  {t_MOST_FIGURES_ratios : Tok}
  {t_MOST_GAIN : Tok}
  {t_MOST_MANY : Tok}
  {t_MOST_TURNS : Tok}
  {t_MOST_AT : Tok}
  {t_MOST_CORNERS : Tok}
  {a1w : Addr} {es_READERS : Array DictEntry} {n_READERS : Nat}
  (cl_Part_pg : PySem.W.plainGet K c0t Str.empty = true)
  (cl_Part_hd : PySem.W.hasDictIn K c0t = true)
  (cl_Part_po : PySem.W.plainOver K c0t = true)
  (cl_Part_sa : PySem.W.findIn K (.ref c0t) "__setattr__" = some (some (.builtin "object.__setattr__")))
  (me_Part_grain_fn : PySem.W.isFn K (.ref a2v) = true)
  (me_Part_fresh_fn : PySem.W.isFn K (.ref a1k) = true)
  (me_Part_later_fn : PySem.W.isFn K (.ref a1l) = true)
  (cl_Gain_pg : PySem.W.plainGet K a4g Str.empty = true)
  (cl_Gain_hd : PySem.W.hasDictIn K a4g = true)
  (cl_Gain_po : PySem.W.plainOver K a4g = true)
  (cl_Gain_sa : PySem.W.findIn K (.ref a4g) "__setattr__" = some (some (.builtin "object.__setattr__")))
  (a2w : PySem.W.findIn K (.ref a4g) "gain" = some none)
  (me_Gain___init___fn : PySem.W.isFn K (.ref a8z) = true)
  (mk_Gain_ma : PySem.W.makesIn K a4g = true)
  (mk_Gain_kp : PySem.W.keepIn K (.ref a4g) = true)
  (me_Gain_grain_fn : PySem.W.isFn K (.ref a5v) = true)
  (me_Gain_through_fn : PySem.W.isFn K (.ref a4n) = true)
  (me_Gain_word_fn : PySem.W.isFn K (.ref a9g) = true)
  (me_Gain_fresh_at : PySem.W.findIn K (.ref a4g) "fresh" = some (some (.ref a1k)))
  (me_Gain_fresh_fn : PySem.W.isFn K (.ref a1k) = true)
  (me_Gain_later_at : PySem.W.findIn K (.ref a4g) "later" = some (some (.ref a1l)))
  (me_Gain_later_fn : PySem.W.isFn K (.ref a1l) = true)
  (cl_Delay_pg : PySem.W.plainGet K a2g Str.empty = true)
  (cl_Delay_hd : PySem.W.hasDictIn K a2g = true)
  (cl_Delay_po : PySem.W.plainOver K a2g = true)
  (cl_Delay_sa : PySem.W.findIn K (.ref a2g) "__setattr__" = some (some (.builtin "object.__setattr__")))
  (a3k : PySem.W.findIn K (.ref a2g) "many" = some none)
  (me_Delay___init___fn : PySem.W.isFn K (.ref a7n) = true)
  (mk_Delay_ma : PySem.W.makesIn K a2g = true)
  (mk_Delay_kp : PySem.W.keepIn K (.ref a2g) = true)
  (me_Delay_through_fn : PySem.W.isFn K (.ref a3y) = true)
  (me_Delay_word_fn : PySem.W.isFn K (.ref a7o) = true)
  (me_Delay_grain_at : PySem.W.findIn K (.ref a2g) "grain" = some (some (.ref a2v)))
  (me_Delay_grain_fn : PySem.W.isFn K (.ref a2v) = true)
  (me_Delay_fresh_at : PySem.W.findIn K (.ref a2g) "fresh" = some (some (.ref a1k)))
  (me_Delay_fresh_fn : PySem.W.isFn K (.ref a1k) = true)
  (me_Delay_later_at : PySem.W.findIn K (.ref a2g) "later" = some (some (.ref a1l)))
  (me_Delay_later_fn : PySem.W.isFn K (.ref a1l) = true)
  (cl_Echo_pg : PySem.W.plainGet K a2i Str.empty = true)
  (cl_Echo_hd : PySem.W.hasDictIn K a2i = true)
  (cl_Echo_po : PySem.W.plainOver K a2i = true)
  (cl_Echo_sa : PySem.W.findIn K (.ref a2i) "__setattr__" = some (some (.builtin "object.__setattr__")))
  (a2j : PySem.W.findIn K (.ref a2i) "gain" = some none)
  (a2k : PySem.W.findIn K (.ref a2i) "many" = some none)
  (a1u : PySem.W.findIn K (.ref a2i) "turns" = some none)
  (a1q : PySem.W.findIn K (.ref a2i) "factors" = some none)
  (a0s : PySem.W.findIn K (.ref a2i) "factor_bottom" = some none)
  (me_Echo___init___fn : PySem.W.isFn K (.ref a9h) = true)
  (mk_Echo_ma : PySem.W.makesIn K a2i = true)
  (mk_Echo_kp : PySem.W.keepIn K (.ref a2i) = true)
  (me_Echo_grain_fn : PySem.W.isFn K (.ref a5w) = true)
  (me_Echo_through_fn : PySem.W.isFn K (.ref a4o) = true)
  (me_Echo_reach_fn : PySem.W.isFn K (.ref a7p) = true)
  (me_Echo_word_fn : PySem.W.isFn K (.ref a9i) = true)
  (me_Echo_fresh_at : PySem.W.findIn K (.ref a2i) "fresh" = some (some (.ref a1k)))
  (me_Echo_fresh_fn : PySem.W.isFn K (.ref a1k) = true)
  (me_Echo_later_at : PySem.W.findIn K (.ref a2i) "later" = some (some (.ref a1l)))
  (me_Echo_later_fn : PySem.W.isFn K (.ref a1l) = true)
  (cl_Back_pg : PySem.W.plainGet K a3s Str.empty = true)
  (cl_Back_hd : PySem.W.hasDictIn K a3s = true)
  (cl_Back_po : PySem.W.plainOver K a3s = true)
  (cl_Back_sa : PySem.W.findIn K (.ref a3s) "__setattr__" = some (some (.builtin "object.__setattr__")))
  (a2y : PySem.W.findIn K (.ref a3s) "gain" = some none)
  (a2z : PySem.W.findIn K (.ref a3s) "many" = some none)
  (me_Back___init___fn : PySem.W.isFn K (.ref a9j) = true)
  (mk_Back_ma : PySem.W.makesIn K a3s = true)
  (mk_Back_kp : PySem.W.keepIn K (.ref a3s) = true)
  (me_Back_grain_fn : PySem.W.isFn K (.ref a5y) = true)
  (me_Back_through_fn : PySem.W.isFn K (.ref a4p) = true)
  (me_Back_word_fn : PySem.W.isFn K (.ref a9k) = true)
  (me_Back_fresh_at : PySem.W.findIn K (.ref a3s) "fresh" = some (some (.ref a1k)))
  (me_Back_fresh_fn : PySem.W.isFn K (.ref a1k) = true)
  (me_Back_later_at : PySem.W.findIn K (.ref a3s) "later" = some (some (.ref a1l)))
  (me_Back_later_fn : PySem.W.isFn K (.ref a1l) = true)
  (cl_Hall_pg : PySem.W.plainGet K a3v Str.empty = true)
  (cl_Hall_hd : PySem.W.hasDictIn K a3v = true)
  (cl_Hall_po : PySem.W.plainOver K a3v = true)
  (cl_Hall_sa : PySem.W.findIn K (.ref a3v) "__setattr__" = some (some (.builtin "object.__setattr__")))
  (a4i : PySem.W.findIn K (.ref a3v) "gain" = some none)
  (a4j : PySem.W.findIn K (.ref a3v) "many" = some none)
  (me_Hall___init___fn : PySem.W.isFn K (.ref a9l) = true)
  (mk_Hall_ma : PySem.W.makesIn K a3v = true)
  (mk_Hall_kp : PySem.W.keepIn K (.ref a3v) = true)
  (me_Hall_through_fn : PySem.W.isFn K (.ref a4q) = true)
  (me_Hall_word_fn : PySem.W.isFn K (.ref a9m) = true)
  (me_Hall_grain_at : PySem.W.findIn K (.ref a3v) "grain" = some (some (.ref a2v)))
  (me_Hall_grain_fn : PySem.W.isFn K (.ref a2v) = true)
  (me_Hall_fresh_at : PySem.W.findIn K (.ref a3v) "fresh" = some (some (.ref a1k)))
  (me_Hall_fresh_fn : PySem.W.isFn K (.ref a1k) = true)
  (me_Hall_later_at : PySem.W.findIn K (.ref a3v) "later" = some (some (.ref a1l)))
  (me_Hall_later_fn : PySem.W.isFn K (.ref a1l) = true)
  (cl_Swell_pg : PySem.W.plainGet K a1p Str.empty = true)
  (cl_Swell_hd : PySem.W.hasDictIn K a1p = true)
  (cl_Swell_po : PySem.W.plainOver K a1p = true)
  (cl_Swell_sa : PySem.W.findIn K (.ref a1p) "__setattr__" = some (some (.builtin "object.__setattr__")))
  (a0z : PySem.W.findIn K (.ref a1p) "corners" = some none)
  (a1g : PySem.W.findIn K (.ref a1p) "shared" = some none)
  (a1j : PySem.W.findIn K (.ref a1p) "lines" = some none)
  (me_Swell___init___fn : PySem.W.isFn K (.ref a7q) = true)
  (mk_Swell_ma : PySem.W.makesIn K a1p = true)
  (mk_Swell_kp : PySem.W.keepIn K (.ref a1p) = true)
  (me_Swell_grain_fn : PySem.W.isFn K (.ref a5h) = true)
  (me_Swell_fresh_fn : PySem.W.isFn K (.ref a5z) = true)
  (me_Swell_line_at_fn : PySem.W.isFn K (.ref a4v) = true)
  (me_Swell_gain_at_fn : PySem.W.isFn K (.ref a4w) = true)
  (me_Swell_through_fn : PySem.W.isFn K (.ref a3z) = true)
  (me_Swell_later_fn : PySem.W.isFn K (.ref a6g) = true)
  (me_Swell_word_fn : PySem.W.isFn K (.ref a7r) = true)
  (c3v : PySem.W.nsIn K mainGlobals "FIGURES" = some (some (.str "0123456789" t_FIGURES)))
  (a4l : PySem.W.nsIn K mainGlobals "MOST_FIGURES_wholes" = some (some (.int 13 t_MOST_FIGURES_wholes)))
  (a4m : PySem.W.nsIn K mainGlobals "MOST_FIGURES_ratios" = some (some (.int 9 t_MOST_FIGURES_ratios)))
  (b2l : PySem.W.nsIn K mainGlobals "MOST_GAIN" = some (some (.int 1000 t_MOST_GAIN)))
  (b2m : PySem.W.nsIn K mainGlobals "MOST_MANY" = some (some (.int 1000 t_MOST_MANY)))
  (b3t : PySem.W.nsIn K mainGlobals "MOST_TURNS" = some (some (.int 16 t_MOST_TURNS)))
  (c3w : PySem.W.nsIn K mainGlobals "MOST_AT" = some (some (.int 100000 t_MOST_AT)))
  (a9s : PySem.W.nsIn K mainGlobals "MOST_CORNERS" = some (some (.int 12 t_MOST_CORNERS)))
  (a7g : PySem.W.nsIn K mainGlobals "READERS" = some (some (.ref a1w)))
  (ld_READERS : K.lookup a1w = some ⟨.type "dict", none, .dict es_READERS n_READERS, #[]⟩)
  (kd_READERS : PySem.W.KeysLit w.params es_READERS.toList)
  (nd_READERS : (a1w == sysModules) = false)
  (a7h : PySem.W.nsIn K a1w "gain" = some (some (.ref b3g)))
  (a5r : PySem.W.nsIn K a1w "delay" = some (some (.ref b0j)))
  (a7i : PySem.W.nsIn K a1w "echo" = some (some (.ref b3h)))
  (a7j : PySem.W.nsIn K a1w "back" = some (some (.ref b3i)))
  (a5s : PySem.W.nsIn K a1w "swell" = some (some (.ref b0k)))
  (a7k : PySem.W.nsIn K a1w "hall" = some (some (.ref b3j)))
  : ∃ fd : FuncData, (∀ (s : Shared) (v : Value), BindsTo s fd ⟨[v], []⟩ [("_law_script", v)]) ∧ ∀ base : Heap, K.In base → base.Ns mainGlobals mg → a1o l.prog w K mg base CX0 9 fa fd ["_law_script"] (g1n 63 K) := by
 have e := hfa.symm.trans (PySem.W.mg_of X G a_law)
 cases e
 have b8j := a1m (st := b7t) l_is_whole d7u k_is_whole
 have d1k := b8j.binds (ps := ["value"]) fun _ _ _ _ _ _ us hl => match us, hl with | [_], _ => rfl
 have b2g := a1m (st := b1p) l_is_figures d0n k_is_figures
 have c0u := b2g.binds (ps := ["text"]) fun _ _ _ _ _ _ us hl => match us, hl with | [_], _ => rfl
 have c3n := a1m (st := b7u) l_whole_of d7v k_whole_of
 have d7j := c3n.binds (ps := ["text"]) fun _ _ _ _ _ _ us hl => match us, hl with | [_], _ => rfl
 have c3o := a1m (st := c2z) l_divisor f2y k_divisor
 have d5q := c3o.binds (ps := ["one", "other"]) fun _ _ _ _ _ _ us hl => match us, hl with | [_, _], _ => rfl
 have c3p := a1m (st := b7v) l_multiple d7w k_multiple
 have d7k := c3p.binds (ps := ["one", "other"]) fun _ _ _ _ _ _ us hl => match us, hl with | [_, _], _ => rfl
 have b4z := a1m (st := b7w) l_fraction d7y k_fraction
 have c3q := b4z.binds (ps := ["top", "bottom"]) fun _ _ _ _ _ _ us hl => match us, hl with | [_, _], _ => rfl
 have g0b := a1m (st := f4p) l_plus h2z k_plus
 have h0j := g0b.binds (ps := ["one", "other"]) fun _ _ _ _ _ _ us hl => match us, hl with | [_, _], _ => rfl
 have d7m := a1m (st := d6t) l_times g3k k_times
 have f6t := d7m.binds (ps := ["one", "other"]) fun _ _ _ _ _ _ us hl => match us, hl with | [_, _], _ => rfl
 have c8p := a1m (st := c3g) l_size_of f2z k_size_of
 have f1l := c8p.binds (ps := ["one"]) fun _ _ _ _ _ _ us hl => match us, hl with | [_], _ => rfl
 have c3r := a1m (st := b7y) l_is_under d7z k_is_under
 have d7n := c3r.binds (ps := ["one", "other"]) fun _ _ _ _ _ _ us hl => match us, hl with | [_, _], _ => rfl
 have a2n := a1m (st := a6q) l_fraction_text c0i k_fraction_text
 have a4y := a2n.binds (ps := ["one"]) fun _ _ _ _ _ _ us hl => match us, hl with | [_], _ => rfl
 have a9n := a1m (st := a6r) l_read_fraction c0j k_read_fraction
 have b9g := a9n.binds (ps := ["text"]) fun _ _ _ _ _ _ us hl => match us, hl with | [_], _ => rfl
 have b2h := a1m (st := a8t) l_added_rows d0o k_added_rows
 have c0v := b2h.binds (ps := ["one", "other"]) fun _ _ _ _ _ _ us hl => match us, hl with | [_, _], _ => rfl
 have a9o := a1m (st := b0z) l_times_row d3y k_times_row
 have b5g := a9o.binds (ps := ["row", "by"]) fun _ _ _ _ _ _ us hl => match us, hl with | [_, _], _ => rfl
 have b9h := a1m (st := b8t) l_delayed f3g k_delayed
 have c8q := b9h.binds (ps := ["known", "start", "many"]) fun _ _ _ _ _ _ us hl => match us, hl with | [_, _, _], _ => rfl
 have b6l := a1m (st := c3h) l_last_of f3h k_last_of
 have c3s := b6l.binds (ps := ["known", "many"]) fun _ _ _ _ _ _ us hl => match us, hl with | [_, _], _ => rfl
 have c0w := a1m (st := b1q) l_Part_grain d0p k_Part_grain
 have b2j := c0w.binds (ps := ["self"]) fun _ _ _ _ _ _ us hl => match us, hl with | [_], _ => rfl
 have c0y := a1m (st := b1r) l_Part_fresh d0q k_Part_fresh
 have a0o := c0y.binds (ps := ["self"]) fun _ _ _ _ _ _ us hl => match us, hl with | [_], _ => rfl
 have c0z := a1m (st := b1s) l_Part_later d0r k_Part_later
 have a9p := c0z.binds (ps := ["self", "n"]) fun _ _ _ _ _ _ us hl => match us, hl with | [_, _], _ => rfl
 have c4w := a1m (st := b3w) l_Gain_init d3z k_Gain_init
 have d3j := c4w.binds (ps := ["self", "gain"]) fun _ _ _ _ _ _ us hl => match us, hl with | [_, _], _ => rfl
 have c1g := a1m (st := b1t) l_Gain_grain d0s k_Gain_grain
 have c1h := c1g.binds (ps := ["self"]) fun _ _ _ _ _ _ us hl => match us, hl with | [_], _ => rfl
 have b5o := a1m (st := a8o) l_Gain_through c2o k_Gain_through
 have b5p := b5o.binds (ps := ["self", "state", "tops", "bottom"]) fun _ _ _ _ _ _ us hl => match us, hl with | [_, _, _, _], _ => rfl
 have c4y := a1m (st := b3y) l_Gain_word d4g k_Gain_word
 have b9i := c4y.binds (ps := ["self"]) fun _ _ _ _ _ _ us hl => match us, hl with | [_], _ => rfl
 have c1i := a1m (st := b1u) l_Delay_init d0t k_Delay_init
 have c8r := c1i.binds (ps := ["self", "many"]) fun _ _ _ _ _ _ us hl => match us, hl with | [_, _], _ => rfl
 have b3k := a1m (st := a6s) l_Delay_through c0k k_Delay_through
 have b3l := b3k.binds (ps := ["self", "state", "tops", "bottom"]) fun _ _ _ _ _ _ us hl => match us, hl with | [_, _, _, _], _ => rfl
 have c1j := a1m (st := b1v) l_Delay_word d0u k_Delay_word
 have b6m := c1j.binds (ps := ["self"]) fun _ _ _ _ _ _ us hl => match us, hl with | [_], _ => rfl
 have b5h := a1m (st := b3z) l_powers_of d4h k_powers_of
 have c4z := b5h.binds (ps := ["number", "most"]) fun _ _ _ _ _ _ us hl => match us, hl with | [_, _], _ => rfl
 have a9q := a1m (st := a6t) l_toward_nought c0l k_toward_nought
 have b9j := a9q.binds (ps := ["top", "bottom"]) fun _ _ _ _ _ _ us hl => match us, hl with | [_, _], _ => rfl
 have c5g := a1m (st := b1g) l_Echo_init d4i k_Echo_init
 have d3k := c5g.binds (ps := ["self", "gain", "many", "turns"]) fun _ _ _ _ _ _ us hl => match us, hl with | [_, _, _, _], _ => rfl
 have c1k := a1m (st := b1w) l_Echo_grain d0v k_Echo_grain
 have c1l := c1k.binds (ps := ["self"]) fun _ _ _ _ _ _ us hl => match us, hl with | [_], _ => rfl
 have b5q := a1m (st := a8p) l_Echo_through c2p k_Echo_through
 have b5r := b5q.binds (ps := ["self", "state", "tops", "bottom"]) fun _ _ _ _ _ _ us hl => match us, hl with | [_, _, _, _], _ => rfl
 have c1m := a1m (st := b1y) l_Echo_reach d0w k_Echo_reach
 have c8s := c1m.binds (ps := ["self"]) fun _ _ _ _ _ _ us hl => match us, hl with | [_], _ => rfl
 have c5h := a1m (st := b4g) l_Echo_word d4j k_Echo_word
 have b9k := c5h.binds (ps := ["self"]) fun _ _ _ _ _ _ us hl => match us, hl with | [_], _ => rfl
 have c5i := a1m (st := b4h) l_Back_init d4k k_Back_init
 have d3l := c5i.binds (ps := ["self", "gain", "many"]) fun _ _ _ _ _ _ us hl => match us, hl with | [_, _, _], _ => rfl
 have c1n := a1m (st := b1z) l_Back_grain d0y k_Back_grain
 have c1o := c1n.binds (ps := ["self"]) fun _ _ _ _ _ _ us hl => match us, hl with | [_], _ => rfl
 have b5s := a1m (st := a8q) l_Back_through c2q k_Back_through
 have b5t := b5s.binds (ps := ["self", "state", "tops", "bottom"]) fun _ _ _ _ _ _ us hl => match us, hl with | [_, _, _, _], _ => rfl
 have c5j := a1m (st := b4i) l_Back_word d4l k_Back_word
 have b9l := c5j.binds (ps := ["self"]) fun _ _ _ _ _ _ us hl => match us, hl with | [_], _ => rfl
 have c5k := a1m (st := b4j) l_Hall_init d4m k_Hall_init
 have d3m := c5k.binds (ps := ["self", "gain", "many"]) fun _ _ _ _ _ _ us hl => match us, hl with | [_, _, _], _ => rfl
 have b5u := a1m (st := a8r) l_Hall_through c2r k_Hall_through
 have b5v := b5u.binds (ps := ["self", "state", "tops", "bottom"]) fun _ _ _ _ _ _ us hl => match us, hl with | [_, _, _, _], _ => rfl
 have c5l := a1m (st := b4k) l_Hall_word d4n k_Hall_word
 have b9m := c5l.binds (ps := ["self"]) fun _ _ _ _ _ _ us hl => match us, hl with | [_], _ => rfl
 have a9r := a1m (st := a6u) l_shared_bottom c0m k_shared_bottom
 have b9n := a9r.binds (ps := ["bottoms"]) fun _ _ _ _ _ _ us hl => match us, hl with | [_], _ => rfl
 have b9o := a1m (st := b4l) l_slopes_of d4o k_slopes_of
 have d3n := b9o.binds (ps := ["corners"]) fun _ _ _ _ _ _ us hl => match us, hl with | [_], _ => rfl
 have f4u := a1m (st := f4q) l_over h3a k_over
 have g4c := f4u.binds (ps := ["one", "bottom"]) fun _ _ _ _ _ _ us hl => match us, hl with | [_, _], _ => rfl
 have b3m := a1m (st := a9u) l_corner_word c6h k_corner_word
 have c5m := b3m.binds (ps := ["corner"]) fun _ _ _ _ _ _ us hl => match us, hl with | [_], _ => rfl
 have c1p := a1m (st := a5u) l_Swell_init d0z k_Swell_init
 have c1q := c1p.binds (ps := ["self", "corners"]) fun _ _ _ _ _ _ us hl => match us, hl with | [_, _], _ => rfl
 have b7j := a1m (st := a9v) l_Swell_grain c6i k_Swell_grain
 have b7k := b7j.binds (ps := ["self"]) fun _ _ _ _ _ _ us hl => match us, hl with | [_], _ => rfl
 have b7l := a1m (st := a9w) l_Swell_fresh c6j k_Swell_fresh
 have a2l := b7l.binds (ps := ["self"]) fun _ _ _ _ _ _ us hl => match us, hl with | [_], _ => rfl
 have b3n := a1m (st := a6v) l_Swell_line_at c0n k_Swell_line_at
 have b9p := b3n.binds (ps := ["self", "at"]) fun _ _ _ _ _ _ us hl => match us, hl with | [_, _], _ => rfl
 have b3o := a1m (st := a6w) l_Swell_gain_at c0o k_Swell_gain_at
 have b9q := b3o.binds (ps := ["self", "at"]) fun _ _ _ _ _ _ us hl => match us, hl with | [_, _], _ => rfl
 have b3p := a1m (st := a5j) l_Swell_through c0p k_Swell_through
 have b3q := b3p.binds (ps := ["self", "state", "tops", "bottom"]) fun _ _ _ _ _ _ us hl => match us, hl with | [_, _, _, _], _ => rfl
 have b7m := a1m (st := a7u) l_Swell_later c6k k_Swell_later
 have c5n := b7m.binds (ps := ["self", "n"]) fun _ _ _ _ _ _ us hl => match us, hl with | [_, _], _ => rfl
 have c1r := a1m (st := a8u) l_Swell_word d1g k_Swell_word
 have b6n := c1r.binds (ps := ["self"]) fun _ _ _ _ _ _ us hl => match us, hl with | [_], _ => rfl
 have a8i := a1m (st := b4m) l_read_gain d4p k_read_gain
 have b1n := a8i.binds (ps := ["text"]) fun _ _ _ _ _ _ us hl => match us, hl with | [_], _ => rfl
 have a6h := a1m (st := a9y) l_read_number c6l k_read_number
 have b0l := a6h.binds (ps := ["text", "least", "most"]) fun _ _ _ _ _ _ us hl => match us, hl with | [_, _, _], _ => rfl
 have b1o := a1m (st := b4n) l_read_many d4q k_read_many
 have b9s := b1o.binds (ps := ["text"]) fun _ _ _ _ _ _ us hl => match us, hl with | [_], _ => rfl
 have a4r := a1m (st := a9z) l_check_count c6m k_check_count
 have a6i := a4r.binds (ps := ["values", "count"]) fun _ _ _ _ _ _ us hl => match us, hl with | [_, _], _ => rfl
 have c8t := a1m (st := c3i) l_gain_of f3i k_gain_of
 have f1r := c8t.binds (ps := ["values"]) fun _ _ _ _ _ _ us hl => match us, hl with | [_], _ => rfl
 have c3t := a1m (st := b7z) l_delay_of d8g k_delay_of
 have d7o := c3t.binds (ps := ["values"]) fun _ _ _ _ _ _ us hl => match us, hl with | [_], _ => rfl
 have c8u := a1m (st := c3j) l_echo_of f3j k_echo_of
 have f1s := c8u.binds (ps := ["values"]) fun _ _ _ _ _ _ us hl => match us, hl with | [_], _ => rfl
 have c8v := a1m (st := c3k) l_back_of f3k k_back_of
 have f1t := c8v.binds (ps := ["values"]) fun _ _ _ _ _ _ us hl => match us, hl with | [_], _ => rfl
 have c8w := a1m (st := c3l) l_hall_of f3l k_hall_of
 have f1u := c8w.binds (ps := ["values"]) fun _ _ _ _ _ _ us hl => match us, hl with | [_], _ => rfl
 have b3r := a1m (st := b0g) l_read_corner c6n k_read_corner
 have c5o := b3r.binds (ps := ["text"]) fun _ _ _ _ _ _ us hl => match us, hl with | [_], _ => rfl
 have c3u := a1m (st := b4o) l_swell_of d8h k_swell_of
 have d7p := c3u.binds (ps := ["values"]) fun _ _ _ _ _ _ us hl => match us, hl with | [_], _ => rfl
 have c8y := a1m (st := c3m) l_part_of f3m k_part_of
 have f1v := c8y.binds (ps := ["word"]) fun _ _ _ _ _ _ us hl => match us, hl with | [_], _ => rfl
 have b0n := a1m (st := b0h) l_law_cell_at c6o k_law_cell_at
 have b7o := b0n.binds (ps := ["_law_script", "_law_k"]) fun _ _ _ _ _ _ us hl => match us, hl with | [_, _], _ => rfl
 have b3s := a1m (st := b0i) l_law_divisor c6p k_law_divisor
 have c5p := b3s.binds (ps := ["_law_one", "_law_other"]) fun _ _ _ _ _ _ us hl => match us, hl with | [_, _], _ => rfl
 have b8k := a1m (st := b8g) l_law_gain d8i k_law_gain
 have d1l := b8k.binds (ps := ["_law_mixed", "_law_hall"]) fun _ _ _ _ _ _ us hl => match us, hl with | [_, _], _ => rfl
 have b9t := a1m (st := b4p) l_law_swell d4r k_law_swell
 have d3p := b9t.binds (ps := ["_law_mixed", "_law_many", "_law_by"]) fun _ _ _ _ _ _ us hl => match us, hl with | [_, _, _], _ => rfl
 have b2k := a1m (st := b8h) l_law_word d8j k_law_word
 have b8l := b2k.binds (ps := ["_law_cell", "_law_by"]) fun _ _ _ _ _ _ us hl => match us, hl with | [_, _], _ => rfl
 have h4u := a1m (st := f6j) l_law i1o k_law
 have i5q := h4u.binds (ps := ["_law_script"]) fun _ _ _ _ _ _ us hl => match us, hl with | [_], _ => rfl
 have T : Tx K mg ⟨_, _, _, _, _, _, _, _, _, _, _, _, _, _, _, _, _, _, _, _, _, _, _, _, _, _, _, _, _, _, _, _, _, _, _, _, _, _, _, _, _, _, _, _, _, _, _, _, _, _, _, _, _, _, _, _, _, _, _, _, _, _, _, _, _, _, _, _, _, _, _, _, _, _, _, _, _, _, _, _, _, _, _, _, _, _, _, _, _, _, _, _, _, _, _, _, _, _, _, _, _, _, _, _, _, _, _, _, _, _, _, _, _, _, _, _, _, _, _, _, _, _, _, _, _, _, _, _, _, _, _, _, _, _, _, _, _, _, _, _, _, _, _, _, _, _, _, _, _, _, _, _, _, _, _, _, w⟩ := ⟨b8j, d1k, PySem.W.mg_of X G a_is_whole, b2g, c0u, PySem.W.mg_of X G a_is_figures, c3n, d7j, PySem.W.mg_of X G a_whole_of, c3o, d5q, PySem.W.mg_of X G a_divisor, c3p, d7k, PySem.W.mg_of X G a_multiple, b4z, c3q, PySem.W.mg_of X G a_fraction, g0b, h0j, PySem.W.mg_of X G a_plus, d7m, f6t, PySem.W.mg_of X G a_times, c8p, f1l, PySem.W.mg_of X G a_size_of, c3r, d7n, PySem.W.mg_of X G a_is_under, a2n, a4y, PySem.W.mg_of X G a_fraction_text, a9n, b9g, PySem.W.mg_of X G a_read_fraction, b2h, c0v, PySem.W.mg_of X G a_added_rows, a9o, b5g, PySem.W.mg_of X G a_times_row, b9h, c8q, PySem.W.mg_of X G a_delayed, b6l, c3s, PySem.W.mg_of X G a_last_of, c0w, b2j, c0y, a0o, c0z, a9p, c4w, d3j, c1g, c1h, b5o, b5p, c4y, b9i, c1i, c8r, b3k, b3l, c1j, b6m, b5h, c4z, PySem.W.mg_of X G a_powers_of, a9q, b9j, PySem.W.mg_of X G a_toward_nought, c5g, d3k, c1k, c1l, b5q, b5r, c1m, c8s, c5h, b9k, c5i, d3l, c1n, c1o, b5s, b5t, c5j, b9l, c5k, d3m, b5u, b5v, c5l, b9m, a9r, b9n, PySem.W.mg_of X G a_shared_bottom, b9o, d3n, PySem.W.mg_of X G a_slopes_of, f4u, g4c, PySem.W.mg_of X G a_over, b3m, c5m, PySem.W.mg_of X G a_corner_word, c1p, c1q, b7j, b7k, b7l, a2l, b3n, b9p, b3o, b9q, b3p, b3q, b7m, c5n, c1r, b6n, a8i, b1n, PySem.W.mg_of X G a_read_gain, a6h, b0l, PySem.W.mg_of X G a_read_number, b1o, b9s, PySem.W.mg_of X G a_read_many, a4r, a6i, PySem.W.mg_of X G a_check_count, c8t, f1r, PySem.W.mg_of X G a_gain_of, c3t, d7o, PySem.W.mg_of X G a_delay_of, c8u, f1s, PySem.W.mg_of X G a_echo_of, c8v, f1t, PySem.W.mg_of X G a_back_of, c8w, f1u, PySem.W.mg_of X G a_hall_of, b3r, c5o, PySem.W.mg_of X G a_read_corner, c3u, d7p, PySem.W.mg_of X G a_swell_of, c8y, f1v, PySem.W.mg_of X G a_part_of, b0n, b7o, PySem.W.mg_of X G a_law_cell_at, b3s, c5p, PySem.W.mg_of X G a_law_divisor, b8k, d1l, PySem.W.mg_of X G a_law_gain, b9t, d3p, PySem.W.mg_of X G a_law_swell, b2k, b8l, PySem.W.mg_of X G a_law_word, h4u, i5q, PySem.W.mg_of X G a_law, PySem.W.mg_none_of X G f1w, PySem.W.mg_none_of X G g0c, PySem.W.mg_none_of X G b9u, PySem.W.mg_none_of X G f6y, PySem.W.mg_none_of X G a7s, PySem.W.mg_none_of X G b6w, PySem.W.mg_none_of X G c1s, PySem.W.mg_none_of X G g6p, PySem.W.mg_none_of X G h0n, PySem.W.mg_none_of X G c2m, PySem.W.mg_none_of X G d7q, PySem.W.mg_none_of X G c8z, PySem.W.mg_none_of X G g2i, PySem.W.mg_of X G f6z, PySem.W.mg_of X G f1y, PySem.W.mg_of X G d5t, PySem.W.mg_of X G f1z, PySem.W.mg_of X G f2g, PySem.W.mg_of X G f2h, PySem.W.mg_of X G d1n, ⟨cl_Part_pg, cl_Part_hd, cl_Part_po, cl_Part_sa⟩, ⟨a_Part_grain, me_Part_grain_fn, k_Part_grain⟩, ⟨a_Part_fresh, me_Part_fresh_fn, k_Part_fresh⟩, ⟨a_Part_later, me_Part_later_fn, k_Part_later⟩, ⟨cl_Gain_pg, cl_Gain_hd, cl_Gain_po, cl_Gain_sa⟩, a2w, ⟨mk_Gain_ma, a_Gain_init, me_Gain___init___fn, mk_Gain_kp⟩, ⟨a_Gain_grain, me_Gain_grain_fn, k_Gain_grain⟩, ⟨a_Gain_through, me_Gain_through_fn, k_Gain_through⟩, ⟨a_Gain_word, me_Gain_word_fn, k_Gain_word⟩, ⟨me_Gain_fresh_at, me_Gain_fresh_fn, k_Part_fresh⟩, ⟨me_Gain_later_at, me_Gain_later_fn, k_Part_later⟩, ⟨cl_Delay_pg, cl_Delay_hd, cl_Delay_po, cl_Delay_sa⟩, a3k, ⟨mk_Delay_ma, a_Delay_init, me_Delay___init___fn, mk_Delay_kp⟩, ⟨a_Delay_through, me_Delay_through_fn, k_Delay_through⟩, ⟨a_Delay_word, me_Delay_word_fn, k_Delay_word⟩, ⟨me_Delay_grain_at, me_Delay_grain_fn, k_Part_grain⟩, ⟨me_Delay_fresh_at, me_Delay_fresh_fn, k_Part_fresh⟩, ⟨me_Delay_later_at, me_Delay_later_fn, k_Part_later⟩, ⟨cl_Echo_pg, cl_Echo_hd, cl_Echo_po, cl_Echo_sa⟩, a2j, a2k, a1u, a1q, a0s, ⟨mk_Echo_ma, a_Echo_init, me_Echo___init___fn, mk_Echo_kp⟩, ⟨a_Echo_grain, me_Echo_grain_fn, k_Echo_grain⟩, ⟨a_Echo_through, me_Echo_through_fn, k_Echo_through⟩, ⟨a_Echo_reach, me_Echo_reach_fn, k_Echo_reach⟩, ⟨a_Echo_word, me_Echo_word_fn, k_Echo_word⟩, ⟨me_Echo_fresh_at, me_Echo_fresh_fn, k_Part_fresh⟩, ⟨me_Echo_later_at, me_Echo_later_fn, k_Part_later⟩, ⟨cl_Back_pg, cl_Back_hd, cl_Back_po, cl_Back_sa⟩, a2y, a2z, ⟨mk_Back_ma, a_Back_init, me_Back___init___fn, mk_Back_kp⟩, ⟨a_Back_grain, me_Back_grain_fn, k_Back_grain⟩, ⟨a_Back_through, me_Back_through_fn, k_Back_through⟩, ⟨a_Back_word, me_Back_word_fn, k_Back_word⟩, ⟨me_Back_fresh_at, me_Back_fresh_fn, k_Part_fresh⟩, ⟨me_Back_later_at, me_Back_later_fn, k_Part_later⟩, ⟨cl_Hall_pg, cl_Hall_hd, cl_Hall_po, cl_Hall_sa⟩, a4i, a4j, ⟨mk_Hall_ma, a_Hall_init, me_Hall___init___fn, mk_Hall_kp⟩, ⟨a_Hall_through, me_Hall_through_fn, k_Hall_through⟩, ⟨a_Hall_word, me_Hall_word_fn, k_Hall_word⟩, ⟨me_Hall_grain_at, me_Hall_grain_fn, k_Part_grain⟩, ⟨me_Hall_fresh_at, me_Hall_fresh_fn, k_Part_fresh⟩, ⟨me_Hall_later_at, me_Hall_later_fn, k_Part_later⟩, ⟨cl_Swell_pg, cl_Swell_hd, cl_Swell_po, cl_Swell_sa⟩, a0z, a1g, a1j, ⟨mk_Swell_ma, a_Swell_init, me_Swell___init___fn, mk_Swell_kp⟩, ⟨a_Swell_grain, me_Swell_grain_fn, k_Swell_grain⟩, ⟨a_Swell_fresh, me_Swell_fresh_fn, k_Swell_fresh⟩, ⟨a_Swell_line_at, me_Swell_line_at_fn, k_Swell_line_at⟩, ⟨a_Swell_gain_at, me_Swell_gain_at_fn, k_Swell_gain_at⟩, ⟨a_Swell_through, me_Swell_through_fn, k_Swell_through⟩, ⟨a_Swell_later, me_Swell_later_fn, k_Swell_later⟩, ⟨a_Swell_word, me_Swell_word_fn, k_Swell_word⟩, PySem.W.mg_of X G c3v, ⟨_, rfl⟩, PySem.W.mg_of X G a4l, ⟨_, rfl⟩, PySem.W.mg_of X G a4m, ⟨_, rfl⟩, PySem.W.mg_of X G b2l, ⟨_, rfl⟩, PySem.W.mg_of X G b2m, ⟨_, rfl⟩, PySem.W.mg_of X G b3t, ⟨_, rfl⟩, PySem.W.mg_of X G c3w, ⟨_, rfl⟩, PySem.W.mg_of X G a9s, ⟨_, rfl⟩, PySem.W.mg_of X G a7g, ⟨⟨_, _, ld_READERS, kd_READERS⟩, nd_READERS⟩, a7h, a5r, a7i, a7j, a5s, a7k⟩
 exact ⟨_, fun s v => .of_eq rfl, fun base _ _ => i6t T⟩
end My
namespace PySem.W.Fast
theorem tw13914957770258023312:True:=trivial
theorem tw2903938767462074326:True:=trivial
theorem tw4296523581799769675:True:=trivial
theorem tw9398398891978153515:True:=trivial
theorem tw10861988043015721680:True:=trivial
theorem tw9541461455937365935:True:=trivial
theorem tw11734184368927673375:True:=trivial
theorem tw14029245012707308522:True:=trivial
theorem tw3972080843194009862:True:=trivial
theorem tw18131223553492322600:True:=trivial
theorem tw812985755190371199:True:=trivial
theorem tw372905308337066242:True:=trivial
theorem tw2200145050645919815:True:=trivial
theorem tw11359872547251347714:True:=trivial
theorem tw17787364161099120448:True:=trivial
theorem tw17847410166969411979:True:=trivial
theorem tw15684459013512069302:True:=trivial
theorem tw13874196097443358307:True:=trivial
theorem tw2004247573032951825:True:=trivial
theorem tw3828316672186953569:True:=trivial
theorem tw14714185263095297176:True:=trivial
theorem tw9440655427846134478:True:=trivial
theorem tw1979313717057517152:True:=trivial
theorem tw2915696463009211441:True:=trivial
theorem tw11216653035705756181:True:=trivial
theorem tw13040601038662176692:True:=trivial
theorem tw11548163200532110257:True:=trivial
theorem tw16299069241044460440:True:=trivial
theorem tw7429577576609604469:True:=trivial
theorem tw4108074611981086518:True:=trivial
theorem tw17726218954230729139:True:=trivial
theorem tw6121236316448429521:True:=trivial
theorem tw3233205691043061849:True:=trivial
theorem tw13319140282953724332:True:=trivial
theorem tw4118177208657870241:True:=trivial
theorem tw13824517172584249711:True:=trivial
theorem tw13079238481313837758:True:=trivial
theorem tw807472393557182935:True:=trivial
theorem tw8320061384236724739:True:=trivial
theorem tw9636947529042821876:True:=trivial
theorem tw12003006860063189598:True:=trivial
theorem tw16071909595767449742:True:=trivial
theorem tw15864489721081069751:True:=trivial
theorem tw1945016755405841536:True:=trivial
theorem tw588189891849679487:True:=trivial
theorem tw13210128943315965148:True:=trivial
theorem tw3214941866160084305:True:=trivial
theorem tw14287426398968987999:True:=trivial
theorem tw7861318475484291779:True:=trivial
theorem tw12139712566629486659:True:=trivial
theorem tw5297819819347650671:True:=trivial
theorem tw17809015565121237908:True:=trivial
theorem tw5300770540712931985:True:=trivial
theorem tw902259114665357498:True:=trivial
theorem tw10162276318849532354:True:=trivial
theorem tw7520840813365959803:True:=trivial
theorem tw2068385717938193072:True:=trivial
theorem tw18280730490606929783:True:=trivial
theorem tw15097436918310959094:True:=trivial
theorem tw5022808758340736432:True:=trivial
theorem tw10118779354257954021:True:=trivial
theorem tw3411958541267147453:True:=trivial
theorem tw7732227392106575086:True:=trivial
theorem tw4315149484614515980:True:=trivial
theorem tw185418919389047044:True:=trivial
theorem tw14232306453726838635:True:=trivial
theorem tw8024447729141811537:True:=trivial
theorem tw6150459652684581922:True:=trivial
theorem tw17578618133602105445:True:=trivial
theorem tw9455042220994737353:True:=trivial
theorem tw5459795394106015798:True:=trivial
theorem tw4018716334124154782:True:=trivial
theorem tw5857531954373947158:True:=trivial
theorem tw8929138137992331348:True:=trivial
theorem tw7873904282234441765:True:=trivial
theorem tw9053119509308059799:True:=trivial
theorem tw5000998799761996370:True:=trivial
theorem tw13251254459424736484:True:=trivial
theorem tw1274078527831368438:True:=trivial
theorem tw3198174656622567468:True:=trivial
theorem tw11738809620555454314:True:=trivial
theorem tw2770525591443416762:True:=trivial
theorem tw18109103080911375719:True:=trivial
theorem tw2787196497961713189:True:=trivial
theorem tw882619796789928169:True:=trivial
theorem tw14705778759435439713:True:=trivial
theorem tw18349246997308725270:True:=trivial
theorem tw17161561102825471978:True:=trivial
theorem tw15592161688955386425:True:=trivial
theorem tw8923609900712349974:True:=trivial
theorem tw15942959638385457975:True:=trivial
theorem tw10129218592523927192:True:=trivial
theorem tw7404295569340597666:True:=trivial
theorem tw4263948869329278935:True:=trivial
theorem tw11877008355224055281:True:=trivial
theorem tw7971829427927837733:True:=trivial
theorem tw7735567390955136438:True:=trivial
theorem tw8858423955462393741:True:=trivial
theorem tw11359763799766189204:True:=trivial
theorem tw10832445406530743916:True:=trivial
theorem tw6125987951679528988:True:=trivial
theorem tw6582862752907966867:True:=trivial
theorem tw8202720065870839694:True:=trivial
theorem tw15981351628252300861:True:=trivial
theorem tw6747428377346745789:True:=trivial
theorem tw12219365872919621239:True:=trivial
theorem tw432449390994128740:True:=trivial
theorem tw2004032002115144231:True:=trivial
theorem tw11994986322468202521:True:=trivial
theorem tw14554769392326355801:True:=trivial
theorem tw9951162153211598180:True:=trivial
theorem tw7424397879552353175:True:=trivial
theorem tw5040297952655951825:True:=trivial
theorem tw10856362365430293191:True:=trivial
theorem tw18149043633651121536:True:=trivial
theorem tw2314567591649580095:True:=trivial
theorem tw13097130574995247932:True:=trivial
theorem tw1195561071560784019:True:=trivial
theorem tw16879734496254573813:True:=trivial
theorem tw5708660614271670349:True:=trivial
theorem tw6560403960898483824:True:=trivial
theorem tw3599722981607333450:True:=trivial
theorem tw12193645245581360447:True:=trivial
theorem tw5257502747865010466:True:=trivial
theorem tw757167332996363127:True:=trivial
theorem tw13568769190771094047:True:=trivial
theorem tw4184617727643936088:True:=trivial
theorem tw16870644977604699783:True:=trivial
theorem tw923420509235060200:True:=trivial
theorem tw14518202385375469995:True:=trivial
theorem tw13430550646437581007:True:=trivial
theorem tw5084946159401555796:True:=trivial
theorem tw16956050876496223467:True:=trivial
theorem tw13670472713245778758:True:=trivial
theorem tw15930503642736488886:True:=trivial
theorem tw1542296666438565279:True:=trivial
theorem tw15338137349844740591:True:=trivial
theorem tw1575388009398847051:True:=trivial
theorem tw17845690985261922214:True:=trivial
theorem tw7103676309089185771:True:=trivial
theorem tw15323734667992878713:True:=trivial
theorem tw5617040962823688823:True:=trivial
theorem tw14423725626966368428:True:=trivial
theorem tw6958368271894796310:True:=trivial
theorem tw11430093364940930974:True:=trivial
theorem tw15152607769992907066:True:=trivial
theorem tw12112282503760158905:True:=trivial
theorem tw15199687573063223793:True:=trivial
theorem tw5408705057697275067:True:=trivial
theorem tw10390401850459302028:True:=trivial
theorem tw18169426898198583821:True:=trivial
theorem tw2719681803924212032:True:=trivial
theorem tw8564457346020914722:True:=trivial
theorem tw15453369574490097386:True:=trivial
theorem tw16327451213777116803:True:=trivial
theorem tw9422786884628974375:True:=trivial
theorem tw4122451489381000442:True:=trivial
theorem tw13984370919582851072:True:=trivial
theorem tw18062958453650656139:True:=trivial
theorem tw12770821084404504589:True:=trivial
theorem tw3623880208661565443:True:=trivial
theorem tw4133396826677872674:True:=trivial
theorem tw8032438911081985825:True:=trivial
theorem tw17113733756893107372:True:=trivial
theorem tw18179717136025444088:True:=trivial
theorem tw4464089543028410339:True:=trivial
theorem tw14065267264888999055:True:=trivial
theorem tw14770955294334589902:True:=trivial
theorem tw3307015768125405039:True:=trivial
theorem tw11480933906008111544:True:=trivial
theorem tw2011738612439744596:True:=trivial
theorem tw15747959174411388734:True:=trivial
theorem tw6490202557780282121:True:=trivial
theorem tw16238471560781012895:True:=trivial
theorem tw6174999242093140394:True:=trivial
theorem tw14667517916476778737:True:=trivial
theorem tw1168368885029462677:True:=trivial
theorem tw260452249226733991:True:=trivial
theorem tw16738767169611356371:True:=trivial
theorem tw13559920931573421025:True:=trivial
theorem tw8979299150536536475:True:=trivial
theorem tw18383062203805487616:True:=trivial
theorem tw14297589719082312302:True:=trivial
theorem tw5566502331666636981:True:=trivial
theorem tw10792540613894390157:True:=trivial
theorem tw7236387108895907763:True:=trivial
theorem tw3789378830489136888:True:=trivial
theorem tw17708441634126999796:True:=trivial
theorem tw12748930993909176162:True:=trivial
theorem tw8864259010066047532:True:=trivial
theorem tw15059870021888856934:True:=trivial
theorem tw5064148406828837516:True:=trivial
theorem tw17084494423825071374:True:=trivial
theorem tw15064201703119024376:True:=trivial
theorem tw3427104181876759183:True:=trivial
theorem tw10376416094224244859:True:=trivial
theorem tw10492200462017060882:True:=trivial
theorem tw9373689661918544766:True:=trivial
theorem tw5295223828031432894:True:=trivial
theorem tw13754219566043896656:True:=trivial
theorem tw2811634133783439422:True:=trivial
theorem tw4019769621130145868:True:=trivial
theorem tw529899078180810399:True:=trivial
theorem tw7889088730418509164:True:=trivial
theorem tw14443466934440854296:True:=trivial
theorem tw11513649792189003530:True:=trivial
theorem tw11684124048952535934:True:=trivial
theorem tw13895809367064157400:True:=trivial
theorem tw6000505541777920720:True:=trivial
theorem tw13465929075654095382:True:=trivial
theorem tw15734029645254467597:True:=trivial
theorem tw12619831569786276526:True:=trivial
theorem tw6125871702780829448:True:=trivial
theorem tw138991688502539921:True:=trivial
theorem tw17659697673219390511:True:=trivial
theorem tw7061685015934570592:True:=trivial
theorem tw8934984986019732009:True:=trivial
theorem tw4151536482165633588:True:=trivial
theorem tw12002772488853246170:True:=trivial
theorem tw770769412564288715:True:=trivial
theorem tw5555219071919060698:True:=trivial
theorem tw15247520075754904107:True:=trivial
theorem tw3815276484915132224:True:=trivial
theorem tw13316315476531777376:True:=trivial
theorem tw5526434606652873309:True:=trivial
theorem tw5218449864273364598:True:=trivial
theorem tw393281872377540153:True:=trivial
theorem tw13293567217640362071:True:=trivial
theorem tw3921151184715109879:True:=trivial
theorem tw2147317083396921520:True:=trivial
theorem tw3870802250181717158:True:=trivial
theorem tw7263587744351747841:True:=trivial
theorem tw1025585528363924695:True:=trivial
theorem tw17418827854463644342:True:=trivial
theorem tw1308364452932459987:True:=trivial
theorem tw8960065935826463750:True:=trivial
theorem tw2196058277502320310:True:=trivial
theorem tw7121624101499263930:True:=trivial
theorem tw6377274248981972316:True:=trivial
theorem tw11891329928813047606:True:=trivial
theorem tw3627458155844459172:True:=trivial
theorem tw16449668575204738046:True:=trivial
theorem tw14559626583925713721:True:=trivial
theorem tw3548283961517764563:True:=trivial
theorem tw51950002492954344:True:=trivial
theorem tw9644230730702349086:True:=trivial
theorem tw15929597438956490106:True:=trivial
theorem tw3072482660481092258:True:=trivial
theorem tw18241974730999895085:True:=trivial
theorem tw11707173762127356108:True:=trivial
theorem tw7514509477725235525:True:=trivial
theorem tw17337775239763203804:True:=trivial
theorem tw10148476164230320080:True:=trivial
theorem tw4448465147537943369:True:=trivial
theorem tw8903063327560799185:True:=trivial
theorem tw6774451854551221756:True:=trivial
theorem tw12939320245505578841:True:=trivial
theorem tw1543338560218965606:True:=trivial
theorem tw16246082204580156030:True:=trivial
theorem tw685583167782945682:True:=trivial
theorem tw4408868879746658622:True:=trivial
theorem tw2934320486324355917:True:=trivial
theorem tw7695524852087793886:True:=trivial
theorem tw16044325299637500863:True:=trivial
theorem tw1588198231206700891:True:=trivial
theorem tw12876423516126244461:True:=trivial
theorem tw4865634711203422862:True:=trivial
theorem tw8583091441741835208:True:=trivial
theorem tw13341829791353447257:True:=trivial
theorem tw11685028279731345311:True:=trivial
theorem tw4930561922086292395:True:=trivial
theorem tw8529924780783176064:True:=trivial
theorem tw16670149403952408:True:=trivial
theorem tw8855018296896273892:True:=trivial
theorem tw8309857622145424285:True:=trivial
theorem tw14019142963314061013:True:=trivial
theorem tw12629437525338081885:True:=trivial
theorem tw3708432737104047079:True:=trivial
theorem tw16325814910254940982:True:=trivial
theorem tw10535032280680621833:True:=trivial
theorem tw14363784375514256345:True:=trivial
theorem tw1615570789703866541:True:=trivial
theorem tw16093401456792898280:True:=trivial
theorem tw16902694270643791845:True:=trivial
theorem tw11301183277184756861:True:=trivial
theorem tw6637201475296697149:True:=trivial
theorem tw16003398273828547929:True:=trivial
theorem tw1893031621677521621:True:=trivial
theorem tw7075503048567114752:True:=trivial
theorem tw3259716778687999824:True:=trivial
theorem tw15730824344381287234:True:=trivial
theorem tw2205596040474018715:True:=trivial
theorem tw8898970643857040610:True:=trivial
theorem tw9285247547809385234:True:=trivial
theorem tw730102568652150108:True:=trivial
theorem tw11398020599896883012:True:=trivial
theorem tw3547520181105360494:True:=trivial
theorem tw3669302054076849369:True:=trivial
theorem tw10708382377381641167:True:=trivial
theorem tw17488656924168680223:True:=trivial
theorem tw14786533941471861078:True:=trivial
theorem tw14048854433817306267:True:=trivial
theorem tw6085785034118950241:True:=trivial
theorem tw428721428736098513:True:=trivial
theorem tw7469903303932799365:True:=trivial
theorem tw349173472225968295:True:=trivial
theorem tw7775718426706057730:True:=trivial
theorem tw9120087238329456818:True:=trivial
theorem tw2759742898298082811:True:=trivial
theorem tw17454528090215865645:True:=trivial
theorem tw10888151231799517470:True:=trivial
theorem tw4487839539125898197:True:=trivial
theorem tw4567067910683804641:True:=trivial
theorem tw3722283348281636352:True:=trivial
theorem tw13095568786470535389:True:=trivial
theorem tw5693008709001746595:True:=trivial
theorem tw16686026551664241819:True:=trivial
theorem tw14710657127433259808:True:=trivial
theorem tw10499503617391815571:True:=trivial
theorem tw16002492836016637678:True:=trivial
theorem tw17974185221904386414:True:=trivial
theorem tw4908897394498467095:True:=trivial
theorem tw8777972183279898502:True:=trivial
theorem tw3942991463124128821:True:=trivial
theorem tw11228272923617025277:True:=trivial
theorem tw1227985573088391224:True:=trivial
theorem tw13906678649205823276:True:=trivial
theorem tw11185628500049454342:True:=trivial
theorem tw15753972885145288997:True:=trivial
theorem tw5968282610494331300:True:=trivial
theorem tw15268797929489837664:True:=trivial
theorem tw14349278914009645236:True:=trivial
theorem tw15851349520699797906:True:=trivial
theorem tw2461469937234949851:True:=trivial
theorem tw8588130983562064497:True:=trivial
theorem tw8524868898246928796:True:=trivial
theorem tw1300938070385913012:True:=trivial
theorem tw5312393806775880977:True:=trivial
theorem tw17288209940825540264:True:=trivial
theorem tw8452767735739158185:True:=trivial
theorem tw16712962004593075657:True:=trivial
theorem tw17511026696436218766:True:=trivial
theorem tw15711424304857847095:True:=trivial
theorem tw10836606577152980628:True:=trivial
theorem tw17614877287476242740:True:=trivial
theorem tw14744381460496977731:True:=trivial
theorem tw4121010114083863770:True:=trivial
theorem tw3489843205344975090:True:=trivial
theorem tw16765614986279809461:True:=trivial
theorem tw5998145746138933975:True:=trivial
theorem tw14033070454809304616:True:=trivial
theorem tw2120908174933831469:True:=trivial
theorem tw12730018688775846120:True:=trivial
theorem tw5197893615741474472:True:=trivial
theorem tw13934792193603400107:True:=trivial
theorem tw15062625980142910134:True:=trivial
theorem tw7231135898360817353:True:=trivial
theorem tw5200492387953236893:True:=trivial
theorem tw15100716672848383074:True:=trivial
theorem tw14032839583623932071:True:=trivial
theorem tw11870522573535675990:True:=trivial
theorem tw6962728016180479577:True:=trivial
theorem tw7643216937633128215:True:=trivial
theorem tw15422171590347161955:True:=trivial
theorem tw11076313885658596291:True:=trivial
theorem tw11131979254547182685:True:=trivial
theorem tw17516229024586390535:True:=trivial
theorem tw2066853831545595806:True:=trivial
theorem tw3365505264027316185:True:=trivial
theorem tw6447624181921168496:True:=trivial
theorem tw2317398325283305770:True:=trivial
theorem tw14234400343419180995:True:=trivial
theorem tw16859297290719929447:True:=trivial
theorem tw16489650525563916684:True:=trivial
theorem tw13511033405187175501:True:=trivial
theorem tw9763629389298037011:True:=trivial
theorem tw16817891524626673770:True:=trivial
theorem tw9680728944774646663:True:=trivial
theorem tw3639138224259588931:True:=trivial
theorem tw5581910047031663467:True:=trivial
theorem tw2216904355004661965:True:=trivial
theorem tw8925410826327517223:True:=trivial
theorem tw1126758860624769639:True:=trivial
theorem tw13943096502458366617:True:=trivial
theorem tw6001876133022330444:True:=trivial
theorem tw15118878124678420968:True:=trivial
theorem tw13506909721135847311:True:=trivial
theorem tw16347379060503435199:True:=trivial
theorem tw6400851332949051994:True:=trivial
theorem tw3740243728727075880:True:=trivial
theorem tw11985487397779147654:True:=trivial
theorem tw2004694156981986566:True:=trivial
theorem tw17714662215560657113:True:=trivial
theorem tw11810294272516561329:True:=trivial
theorem tw13892106512483383523:True:=trivial
theorem tw12321585320772296546:True:=trivial
theorem tw6675353388682061834:True:=trivial
theorem tw14410513509907840106:True:=trivial
theorem tw2466331615313412054:True:=trivial
theorem tw9861612813178766520:True:=trivial
end PySem.W.Fast
open PySem PySem.W PyProof.Rows
set_option maxRecDepth 100000 in
set_option maxHeartbeats 0 in
theorem PySem.Challenge.cw_mixbench_k38_made_later_holds : PySem.Challenge.rw_mixbench_k38_made_later.Holds := by
 w_on; o_law; k_head; (case hw => w_witness2)
 k_fill
 refine L2.h3u (l := PySem.Challenge.rw_mixbench_k38_made_later) (k := 9) (x := "_law_script") (CX := fun _ => L2.CX0) rfl rfl ⟨rfl, by decide, by decide⟩ (fun w h Y => PySem.W.kIn_of Y) ?F (fun _ _ _ _ _ z => z)
 case F =>
  intro w mg fa h KX G hmg
  refine' My.all_mk KX G hmg ?f6z ?f1y ?d5t ?f1z ?f2g ?f2h ?d1n ?a_is_whole ?l_is_whole ?d7u ?k_is_whole ?a_is_figures ?l_is_figures ?d0n ?k_is_figures ?a_whole_of ?l_whole_of ?d7v ?k_whole_of ?a_divisor ?l_divisor ?f2y ?k_divisor ?a_multiple ?l_multiple ?d7w ?k_multiple ?a_fraction ?l_fraction ?d7y ?k_fraction ?a_plus ?l_plus ?h2z ?k_plus ?a_times ?l_times ?g3k ?k_times ?a_size_of ?l_size_of ?f2z ?k_size_of ?a_is_under ?l_is_under ?d7z ?k_is_under ?a_fraction_text ?l_fraction_text ?c0i ?k_fraction_text ?a_read_fraction ?l_read_fraction ?c0j ?k_read_fraction ?a_added_rows ?l_added_rows ?d0o ?k_added_rows ?a_times_row ?l_times_row ?d3y ?k_times_row ?a_delayed ?l_delayed ?f3g ?k_delayed ?a_last_of ?l_last_of ?f3h ?k_last_of ?a_Part_grain ?l_Part_grain ?d0p ?k_Part_grain ?a_Part_fresh ?l_Part_fresh ?d0q ?k_Part_fresh ?a_Part_later ?l_Part_later ?d0r ?k_Part_later ?a_Gain_init ?l_Gain_init ?d3z ?k_Gain_init ?a_Gain_grain ?l_Gain_grain ?d0s ?k_Gain_grain ?a_Gain_through ?l_Gain_through ?c2o ?k_Gain_through ?a_Gain_word ?l_Gain_word ?d4g ?k_Gain_word ?a_Delay_init ?l_Delay_init ?d0t ?k_Delay_init ?a_Delay_through ?l_Delay_through ?c0k ?k_Delay_through ?a_Delay_word ?l_Delay_word ?d0u ?k_Delay_word ?a_powers_of ?l_powers_of ?d4h ?k_powers_of ?a_toward_nought ?l_toward_nought ?c0l ?k_toward_nought ?a_Echo_init ?l_Echo_init ?d4i ?k_Echo_init ?a_Echo_grain ?l_Echo_grain ?d0v ?k_Echo_grain ?a_Echo_through ?l_Echo_through ?c2p ?k_Echo_through ?a_Echo_reach ?l_Echo_reach ?d0w ?k_Echo_reach ?a_Echo_word ?l_Echo_word ?d4j ?k_Echo_word ?a_Back_init ?l_Back_init ?d4k ?k_Back_init ?a_Back_grain ?l_Back_grain ?d0y ?k_Back_grain ?a_Back_through ?l_Back_through ?c2q ?k_Back_through ?a_Back_word ?l_Back_word ?d4l ?k_Back_word ?a_Hall_init ?l_Hall_init ?d4m ?k_Hall_init ?a_Hall_through ?l_Hall_through ?c2r ?k_Hall_through ?a_Hall_word ?l_Hall_word ?d4n ?k_Hall_word ?a_shared_bottom ?l_shared_bottom ?c0m ?k_shared_bottom ?a_slopes_of ?l_slopes_of ?d4o ?k_slopes_of ?a_over ?l_over ?h3a ?k_over ?a_corner_word ?l_corner_word ?c6h ?k_corner_word ?a_Swell_init ?l_Swell_init ?d0z ?k_Swell_init ?a_Swell_grain ?l_Swell_grain ?c6i ?k_Swell_grain ?a_Swell_fresh ?l_Swell_fresh ?c6j ?k_Swell_fresh ?a_Swell_line_at ?l_Swell_line_at ?c0n ?k_Swell_line_at ?a_Swell_gain_at ?l_Swell_gain_at ?c0o ?k_Swell_gain_at ?a_Swell_through ?l_Swell_through ?c0p ?k_Swell_through ?a_Swell_later ?l_Swell_later ?c6k ?k_Swell_later ?a_Swell_word ?l_Swell_word ?d1g ?k_Swell_word ?a_read_gain ?l_read_gain ?d4p ?k_read_gain ?a_read_number ?l_read_number ?c6l ?k_read_number ?a_read_many ?l_read_many ?d4q ?k_read_many ?a_check_count ?l_check_count ?c6m ?k_check_count ?a_gain_of ?l_gain_of ?f3i ?k_gain_of ?a_delay_of ?l_delay_of ?d8g ?k_delay_of ?a_echo_of ?l_echo_of ?f3j ?k_echo_of ?a_back_of ?l_back_of ?f3k ?k_back_of ?a_hall_of ?l_hall_of ?f3l ?k_hall_of ?a_read_corner ?l_read_corner ?c6n ?k_read_corner ?a_swell_of ?l_swell_of ?d8h ?k_swell_of ?a_part_of ?l_part_of ?f3m ?k_part_of ?a_law_cell_at ?l_law_cell_at ?c6o ?k_law_cell_at ?a_law_divisor ?l_law_divisor ?c6p ?k_law_divisor ?a_law_gain ?l_law_gain ?d8i ?k_law_gain ?a_law_swell ?l_law_swell ?d4r ?k_law_swell ?a_law_word ?l_law_word ?d8j ?k_law_word ?a_law ?l_law ?i1o ?k_law ?f1w ?g0c ?b9u ?f6y ?a7s ?b6w ?c1s ?g6p ?h0n ?c2m ?d7q ?c8z ?g2i ?cl_Part_pg ?cl_Part_hd ?cl_Part_po ?cl_Part_sa ?me_Part_grain_fn ?me_Part_fresh_fn ?me_Part_later_fn ?cl_Gain_pg ?cl_Gain_hd ?cl_Gain_po ?cl_Gain_sa ?a2w ?me_Gain___init___fn ?mk_Gain_ma ?mk_Gain_kp ?me_Gain_grain_fn ?me_Gain_through_fn ?me_Gain_word_fn ?me_Gain_fresh_at ?me_Gain_fresh_fn ?me_Gain_later_at ?me_Gain_later_fn ?cl_Delay_pg ?cl_Delay_hd ?cl_Delay_po ?cl_Delay_sa ?a3k ?me_Delay___init___fn ?mk_Delay_ma ?mk_Delay_kp ?me_Delay_through_fn ?me_Delay_word_fn ?me_Delay_grain_at ?me_Delay_grain_fn ?me_Delay_fresh_at ?me_Delay_fresh_fn ?me_Delay_later_at ?me_Delay_later_fn ?cl_Echo_pg ?cl_Echo_hd ?cl_Echo_po ?cl_Echo_sa ?a2j ?a2k ?a1u ?a1q ?a0s ?me_Echo___init___fn ?mk_Echo_ma ?mk_Echo_kp ?me_Echo_grain_fn ?me_Echo_through_fn ?me_Echo_reach_fn ?me_Echo_word_fn ?me_Echo_fresh_at ?me_Echo_fresh_fn ?me_Echo_later_at ?me_Echo_later_fn ?cl_Back_pg ?cl_Back_hd ?cl_Back_po ?cl_Back_sa ?a2y ?a2z ?me_Back___init___fn ?mk_Back_ma ?mk_Back_kp ?me_Back_grain_fn ?me_Back_through_fn ?me_Back_word_fn ?me_Back_fresh_at ?me_Back_fresh_fn ?me_Back_later_at ?me_Back_later_fn ?cl_Hall_pg ?cl_Hall_hd ?cl_Hall_po ?cl_Hall_sa ?a4i ?a4j ?me_Hall___init___fn ?mk_Hall_ma ?mk_Hall_kp ?me_Hall_through_fn ?me_Hall_word_fn ?me_Hall_grain_at ?me_Hall_grain_fn ?me_Hall_fresh_at ?me_Hall_fresh_fn ?me_Hall_later_at ?me_Hall_later_fn ?cl_Swell_pg ?cl_Swell_hd ?cl_Swell_po ?cl_Swell_sa ?a0z ?a1g ?a1j ?me_Swell___init___fn ?mk_Swell_ma ?mk_Swell_kp ?me_Swell_grain_fn ?me_Swell_fresh_fn ?me_Swell_line_at_fn ?me_Swell_gain_at_fn ?me_Swell_through_fn ?me_Swell_later_fn ?me_Swell_word_fn ?c3v ?a4l ?a4m ?b2l ?b2m ?b3t ?c3w ?a9s ?a7g ?ld_READERS ?kd_READERS ?nd_READERS ?a7h ?a5r ?a7i ?a7j ?a5s ?a7k
  (case f6z => k_is)
  (case f1y => k_is)
  (case d5t => k_is)
  (case f1z => k_is)
  (case f2g => k_is)
  (case f2h => k_is)
  (case d1n => k_is)
  (case a_is_whole => k_is)
  (case l_is_whole => k_is)
  (case d7u => k_is)
  (case k_is_whole => k_is)
  (case a_is_figures => k_is)
  (case l_is_figures => k_is)
  (case d0n => k_is)
  (case k_is_figures => k_is)
  (case a_whole_of => k_is)
  (case l_whole_of => k_is)
  (case d7v => k_is)
  (case k_whole_of => k_is)
  (case a_divisor => k_is)
  (case l_divisor => k_is)
  (case f2y => k_is)
  (case k_divisor => k_is)
  (case a_multiple => k_is)
  (case l_multiple => k_is)
  (case d7w => k_is)
  (case k_multiple => k_is)
  (case a_fraction => k_is)
  (case l_fraction => k_is)
  (case d7y => k_is)
  (case k_fraction => k_is)
  (case a_plus => k_is)
  (case l_plus => k_is)
  (case h2z => k_is)
  (case k_plus => k_is)
  (case a_times => k_is)
  (case l_times => k_is)
  (case g3k => k_is)
  (case k_times => k_is)
  (case a_size_of => k_is)
  (case l_size_of => k_is)
  (case f2z => k_is)
  (case k_size_of => k_is)
  (case a_is_under => k_is)
  (case l_is_under => k_is)
  (case d7z => k_is)
  (case k_is_under => k_is)
  (case a_fraction_text => k_is)
  (case l_fraction_text => k_is)
  (case c0i => k_is)
  (case k_fraction_text => k_is)
  (case a_read_fraction => k_is)
  (case l_read_fraction => k_is)
  (case c0j => k_is)
  (case k_read_fraction => k_is)
  (case a_added_rows => k_is)
  (case l_added_rows => k_is)
  (case d0o => k_is)
  (case k_added_rows => k_is)
  (case a_times_row => k_is)
  (case l_times_row => k_is)
  (case d3y => k_is)
  (case k_times_row => k_is)
  (case a_delayed => k_is)
  (case l_delayed => k_is)
  (case f3g => k_is)
  (case k_delayed => k_is)
  (case a_last_of => k_is)
  (case l_last_of => k_is)
  (case f3h => k_is)
  (case k_last_of => k_is)
  (case a_Part_grain => k_is)
  (case l_Part_grain => k_is)
  (case d0p => k_is)
  (case k_Part_grain => k_is)
  (case a_Part_fresh => k_is)
  (case l_Part_fresh => k_is)
  (case d0q => k_is)
  (case k_Part_fresh => k_is)
  (case a_Part_later => k_is)
  (case l_Part_later => k_is)
  (case d0r => k_is)
  (case k_Part_later => k_is)
  (case a_Gain_init => k_is)
  (case l_Gain_init => k_is)
  (case d3z => k_is)
  (case k_Gain_init => k_is)
  (case a_Gain_grain => k_is)
  (case l_Gain_grain => k_is)
  (case d0s => k_is)
  (case k_Gain_grain => k_is)
  (case a_Gain_through => k_is)
  (case l_Gain_through => k_is)
  (case c2o => k_is)
  (case k_Gain_through => k_is)
  (case a_Gain_word => k_is)
  (case l_Gain_word => k_is)
  (case d4g => k_is)
  (case k_Gain_word => k_is)
  (case a_Delay_init => k_is)
  (case l_Delay_init => k_is)
  (case d0t => k_is)
  (case k_Delay_init => k_is)
  (case a_Delay_through => k_is)
  (case l_Delay_through => k_is)
  (case c0k => k_is)
  (case k_Delay_through => k_is)
  (case a_Delay_word => k_is)
  (case l_Delay_word => k_is)
  (case d0u => k_is)
  (case k_Delay_word => k_is)
  (case a_powers_of => k_is)
  (case l_powers_of => k_is)
  (case d4h => k_is)
  (case k_powers_of => k_is)
  (case a_toward_nought => k_is)
  (case l_toward_nought => k_is)
  (case c0l => k_is)
  (case k_toward_nought => k_is)
  (case a_Echo_init => k_is)
  (case l_Echo_init => k_is)
  (case d4i => k_is)
  (case k_Echo_init => k_is)
  (case a_Echo_grain => k_is)
  (case l_Echo_grain => k_is)
  (case d0v => k_is)
  (case k_Echo_grain => k_is)
  (case a_Echo_through => k_is)
  (case l_Echo_through => k_is)
  (case c2p => k_is)
  (case k_Echo_through => k_is)
  (case a_Echo_reach => k_is)
  (case l_Echo_reach => k_is)
  (case d0w => k_is)
  (case k_Echo_reach => k_is)
  (case a_Echo_word => k_is)
  (case l_Echo_word => k_is)
  (case d4j => k_is)
  (case k_Echo_word => k_is)
  (case a_Back_init => k_is)
  (case l_Back_init => k_is)
  (case d4k => k_is)
  (case k_Back_init => k_is)
  (case a_Back_grain => k_is)
  (case l_Back_grain => k_is)
  (case d0y => k_is)
  (case k_Back_grain => k_is)
  (case a_Back_through => k_is)
  (case l_Back_through => k_is)
  (case c2q => k_is)
  (case k_Back_through => k_is)
  (case a_Back_word => k_is)
  (case l_Back_word => k_is)
  (case d4l => k_is)
  (case k_Back_word => k_is)
  (case a_Hall_init => k_is)
  (case l_Hall_init => k_is)
  (case d4m => k_is)
  (case k_Hall_init => k_is)
  (case a_Hall_through => k_is)
  (case l_Hall_through => k_is)
  (case c2r => k_is)
  (case k_Hall_through => k_is)
  (case a_Hall_word => k_is)
  (case l_Hall_word => k_is)
  (case d4n => k_is)
  (case k_Hall_word => k_is)
  (case a_shared_bottom => k_is)
  (case l_shared_bottom => k_is)
  (case c0m => k_is)
  (case k_shared_bottom => k_is)
  (case a_slopes_of => k_is)
  (case l_slopes_of => k_is)
  (case d4o => k_is)
  (case k_slopes_of => k_is)
  (case a_over => k_is)
  (case l_over => k_is)
  (case h3a => k_is)
  (case k_over => k_is)
  (case a_corner_word => k_is)
  (case l_corner_word => k_is)
  (case c6h => k_is)
  (case k_corner_word => k_is)
  (case a_Swell_init => k_is)
  (case l_Swell_init => k_is)
  (case d0z => k_is)
  (case k_Swell_init => k_is)
  (case a_Swell_grain => k_is)
  (case l_Swell_grain => k_is)
  (case c6i => k_is)
  (case k_Swell_grain => k_is)
  (case a_Swell_fresh => k_is)
  (case l_Swell_fresh => k_is)
  (case c6j => k_is)
  (case k_Swell_fresh => k_is)
  (case a_Swell_line_at => k_is)
  (case l_Swell_line_at => k_is)
  (case c0n => k_is)
  (case k_Swell_line_at => k_is)
  (case a_Swell_gain_at => k_is)
  (case l_Swell_gain_at => k_is)
  (case c0o => k_is)
  (case k_Swell_gain_at => k_is)
  (case a_Swell_through => k_is)
  (case l_Swell_through => k_is)
  (case c0p => k_is)
  (case k_Swell_through => k_is)
  (case a_Swell_later => k_is)
  (case l_Swell_later => k_is)
  (case c6k => k_is)
  (case k_Swell_later => k_is)
  (case a_Swell_word => k_is)
  (case l_Swell_word => k_is)
  (case d1g => k_is)
  (case k_Swell_word => k_is)
  (case a_read_gain => k_is)
  (case l_read_gain => k_is)
  (case d4p => k_is)
  (case k_read_gain => k_is)
  (case a_read_number => k_is)
  (case l_read_number => k_is)
  (case c6l => k_is)
  (case k_read_number => k_is)
  (case a_read_many => k_is)
  (case l_read_many => k_is)
  (case d4q => k_is)
  (case k_read_many => k_is)
  (case a_check_count => k_is)
  (case l_check_count => k_is)
  (case c6m => k_is)
  (case k_check_count => k_is)
  (case a_gain_of => k_is)
  (case l_gain_of => k_is)
  (case f3i => k_is)
  (case k_gain_of => k_is)
  (case a_delay_of => k_is)
  (case l_delay_of => k_is)
  (case d8g => k_is)
  (case k_delay_of => k_is)
  (case a_echo_of => k_is)
  (case l_echo_of => k_is)
  (case f3j => k_is)
  (case k_echo_of => k_is)
  (case a_back_of => k_is)
  (case l_back_of => k_is)
  (case f3k => k_is)
  (case k_back_of => k_is)
  (case a_hall_of => k_is)
  (case l_hall_of => k_is)
  (case f3l => k_is)
  (case k_hall_of => k_is)
  (case a_read_corner => k_is)
  (case l_read_corner => k_is)
  (case c6n => k_is)
  (case k_read_corner => k_is)
  (case a_swell_of => k_is)
  (case l_swell_of => k_is)
  (case d8h => k_is)
  (case k_swell_of => k_is)
  (case a_part_of => k_is)
  (case l_part_of => k_is)
  (case f3m => k_is)
  (case k_part_of => k_is)
  (case a_law_cell_at => k_is)
  (case l_law_cell_at => k_is)
  (case c6o => k_is)
  (case k_law_cell_at => k_is)
  (case a_law_divisor => k_is)
  (case l_law_divisor => k_is)
  (case c6p => k_is)
  (case k_law_divisor => k_is)
  (case a_law_gain => k_is)
  (case l_law_gain => k_is)
  (case d8i => k_is)
  (case k_law_gain => k_is)
  (case a_law_swell => k_is)
  (case l_law_swell => k_is)
  (case d4r => k_is)
  (case k_law_swell => k_is)
  (case a_law_word => k_is)
  (case l_law_word => k_is)
  (case d8j => k_is)
  (case k_law_word => k_is)
  (case a_law => k_is)
  (case l_law => k_is)
  (case i1o => k_is)
  (case k_law => k_is)
  (case f1w => k_is)
  (case g0c => k_is)
  (case b9u => k_is)
  (case f6y => k_is)
  (case a7s => k_is)
  (case b6w => k_is)
  (case c1s => k_is)
  (case g6p => k_is)
  (case h0n => k_is)
  (case c2m => k_is)
  (case d7q => k_is)
  (case c8z => k_is)
  (case g2i => k_is)
  (case cl_Part_pg => k_is)
  (case cl_Part_hd => k_is)
  (case cl_Part_po => k_is)
  (case cl_Part_sa => k_is)
  (case me_Part_grain_fn => k_is)
  (case me_Part_fresh_fn => k_is)
  (case me_Part_later_fn => k_is)
  (case cl_Gain_pg => k_is)
  (case cl_Gain_hd => k_is)
  (case cl_Gain_po => k_is)
  (case cl_Gain_sa => k_is)
  (case a2w => k_is)
  (case me_Gain___init___fn => k_is)
  (case mk_Gain_ma => k_is)
  (case mk_Gain_kp => k_is)
  (case me_Gain_grain_fn => k_is)
  (case me_Gain_through_fn => k_is)
  (case me_Gain_word_fn => k_is)
  (case me_Gain_fresh_at => k_is)
  (case me_Gain_fresh_fn => k_is)
  (case me_Gain_later_at => k_is)
  (case me_Gain_later_fn => k_is)
  (case cl_Delay_pg => k_is)
  (case cl_Delay_hd => k_is)
  (case cl_Delay_po => k_is)
  (case cl_Delay_sa => k_is)
  (case a3k => k_is)
  (case me_Delay___init___fn => k_is)
  (case mk_Delay_ma => k_is)
  (case mk_Delay_kp => k_is)
  (case me_Delay_through_fn => k_is)
  (case me_Delay_word_fn => k_is)
  (case me_Delay_grain_at => k_is)
  (case me_Delay_grain_fn => k_is)
  (case me_Delay_fresh_at => k_is)
  (case me_Delay_fresh_fn => k_is)
  (case me_Delay_later_at => k_is)
  (case me_Delay_later_fn => k_is)
  (case cl_Echo_pg => k_is)
  (case cl_Echo_hd => k_is)
  (case cl_Echo_po => k_is)
  (case cl_Echo_sa => k_is)
  (case a2j => k_is)
  (case a2k => k_is)
  (case a1u => k_is)
  (case a1q => k_is)
  (case a0s => k_is)
  (case me_Echo___init___fn => k_is)
  (case mk_Echo_ma => k_is)
  (case mk_Echo_kp => k_is)
  (case me_Echo_grain_fn => k_is)
  (case me_Echo_through_fn => k_is)
  (case me_Echo_reach_fn => k_is)
  (case me_Echo_word_fn => k_is)
  (case me_Echo_fresh_at => k_is)
  (case me_Echo_fresh_fn => k_is)
  (case me_Echo_later_at => k_is)
  (case me_Echo_later_fn => k_is)
  (case cl_Back_pg => k_is)
  (case cl_Back_hd => k_is)
  (case cl_Back_po => k_is)
  (case cl_Back_sa => k_is)
  (case a2y => k_is)
  (case a2z => k_is)
  (case me_Back___init___fn => k_is)
  (case mk_Back_ma => k_is)
  (case mk_Back_kp => k_is)
  (case me_Back_grain_fn => k_is)
  (case me_Back_through_fn => k_is)
  (case me_Back_word_fn => k_is)
  (case me_Back_fresh_at => k_is)
  (case me_Back_fresh_fn => k_is)
  (case me_Back_later_at => k_is)
  (case me_Back_later_fn => k_is)
  (case cl_Hall_pg => k_is)
  (case cl_Hall_hd => k_is)
  (case cl_Hall_po => k_is)
  (case cl_Hall_sa => k_is)
  (case a4i => k_is)
  (case a4j => k_is)
  (case me_Hall___init___fn => k_is)
  (case mk_Hall_ma => k_is)
  (case mk_Hall_kp => k_is)
  (case me_Hall_through_fn => k_is)
  (case me_Hall_word_fn => k_is)
  (case me_Hall_grain_at => k_is)
  (case me_Hall_grain_fn => k_is)
  (case me_Hall_fresh_at => k_is)
  (case me_Hall_fresh_fn => k_is)
  (case me_Hall_later_at => k_is)
  (case me_Hall_later_fn => k_is)
  (case cl_Swell_pg => k_is)
  (case cl_Swell_hd => k_is)
  (case cl_Swell_po => k_is)
  (case cl_Swell_sa => k_is)
  (case a0z => k_is)
  (case a1g => k_is)
  (case a1j => k_is)
  (case me_Swell___init___fn => k_is)
  (case mk_Swell_ma => k_is)
  (case mk_Swell_kp => k_is)
  (case me_Swell_grain_fn => k_is)
  (case me_Swell_fresh_fn => k_is)
  (case me_Swell_line_at_fn => k_is)
  (case me_Swell_gain_at_fn => k_is)
  (case me_Swell_through_fn => k_is)
  (case me_Swell_later_fn => k_is)
  (case me_Swell_word_fn => k_is)
  (case c3v => k_is)
  (case a4l => k_is)
  (case a4m => k_is)
  (case b2l => k_is)
  (case b2m => k_is)
  (case b3t => k_is)
  (case c3w => k_is)
  (case a9s => k_is)
  (case a7g => k_is)
  (case ld_READERS => k_is)
  (case kd_READERS => k_keys)
  (case nd_READERS => decide)
  (case a7h => k_is)
  (case a5r => k_is)
  (case a7i => k_is)
  (case a7j => k_is)
  (case a5s => k_is)
  (case a7k => k_is)
