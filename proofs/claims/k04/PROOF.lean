import PyProof.Rows.All
import Wide.All
import OpenK.AllK
import Wide.FinOn
import Lean
import PyProof.EqAt
import PyProof.EqKinds
import PyProof.TupleCall
import PySem.Challenge.RW_mixbench_k04_texts_of_fractions
set_option Elab.async false
set_option linter.all false
set_option maxRecDepth 100000
/-! THE HAND LAYER, for ints, bools, texts, own classes, LISTS and tuples (index, slices, in, append, pop ..), calls, loops. Paste it whole ahead of your own text; what your proof does not reach may be deleted. -/
namespace L2
open PySem PySem.Spec PyProof.Rows

/-- a key: an int or a str -/
abbrev Key := Sum Int Str
def keyIs : Key → Value → Bool
  | .inl k, v => Value.isInt k v
  | .inr x, v => Value.isStrOf x v
def keyH (w : World) : Key → Int
  | .inl k => hashInt k
  | .inr x => hashStr w x
theorem keyIs_shape : ∀ {k : Key} {v : Value}, keyIs k v = true → (∃ i t, k = Sum.inl i ∧ v = Value.int i t) ∨ (∃ x t, k = Sum.inr x ∧ v = Value.str x t)
  | .inl i, v, h => by
    obtain ⟨t, e⟩ := Value.isInt_shape (k := i) (v := v) h
    exact .inl ⟨i, t, rfl, e⟩
  | .inr x, v, h => by
    obtain ⟨t, e⟩ := Value.isStrOf_shape (x := x) (v := v) h
    exact .inr ⟨x, t, rfl, e⟩
theorem key_ll (a b : Int) : decide ((Sum.inl a : Key) = Sum.inl b) = (a == b) := by
  by_cases e : a = b
  · subst e; simp
  · have h : ¬ (Sum.inl a : Key) = Sum.inl b := fun q => e (Sum.inl.inj q)
    rw [decide_eq_false h]
    exact (beq_eq_false_iff_ne.mpr e).symm
theorem key_rr (a b : Str) : decide ((Sum.inr a : Key) = Sum.inr b) = decide (a = b) := by
  by_cases e : a = b
  · subst e; simp
  · have h : ¬ (Sum.inr a : Key) = Sum.inr b := fun q => e (Sum.inr.inj q)
    rw [decide_eq_false h, decide_eq_false e]
theorem key_lr (a : Int) (b : Str) : decide ((Sum.inl a : Key) = Sum.inr b) = false := decide_eq_false (fun q => nomatch q)
theorem key_rl (a : Str) (b : Int) : decide ((Sum.inr a : Key) = Sum.inl b) = false := decide_eq_false (fun q => nomatch q)

def mixKind (prog : Program) (w : World) : PySem.KeyKind prog w Key where
  is := keyIs
  hash := keyH w
  inj := fun v a b ha hb => by
    rcases keyIs_shape ha with ⟨i, t, rfl, rfl⟩ | ⟨x, t, rfl, rfl⟩
    · rcases keyIs_shape hb with ⟨j, u, rfl, e⟩ | ⟨y, u, rfl, e⟩
      · injection e with e1 _; rw [e1]
      · exact nomatch e
    · rcases keyIs_shape hb with ⟨j, u, rfl, e⟩ | ⟨y, u, rfl, e⟩
      · exact nomatch e
      · injection e with e1 _; rw [e1]
  byValue := fun k v h => by
    rcases keyIs_shape h with ⟨i, t, rfl, rfl⟩ | ⟨x, t, rfl, rfl⟩ <;> rfl
  pyHash := fun hv h => by
    rcases keyIs_shape hv with ⟨i, t, rfl, rfl⟩ | ⟨x, t, rfl, rfl⟩
    · exact wpAny_pyHash_int h
    · exact wpAny_pyHash_str h
  eqBool := fun hu hv h => by
    rcases keyIs_shape hu with ⟨i, t, rfl, rfl⟩ | ⟨x, t, rfl, rfl⟩
    · rcases keyIs_shape hv with ⟨j, u, rfl, rfl⟩ | ⟨y, u, rfl, rfl⟩
      · rw [key_ll] at h; exact wpAny_eqBool_int h
      · rw [key_lr] at h; exact SeqAt.EqAt.int_str i t y u _ _ _ _ h
    · rcases keyIs_shape hv with ⟨j, u, rfl, rfl⟩ | ⟨y, u, rfl, rfl⟩
      · rw [key_rl] at h; exact SeqAt.EqAt.str_int x t j u _ _ _ _ h
      · rw [key_rr] at h; exact wpAny_eqBool_str h
  «strs» := fun k x t v h => by
    rcases keyIs_shape h with ⟨i, u, rfl, e⟩ | ⟨y, u, rfl, e⟩
    · exact nomatch e
    · injection e with e1 _
      subst e1
      cases v <;> rfl

end L2

namespace L2
open PySem PySem.Spec PyProof.Rows

/-- a value, without the heap -/
inductive V where
  | non | bl (b : Bool) | int (i : Int) | str (x : Str) | byt (b : Array UInt8) | flt (b : UInt64) | ref (a : Addr) | ty (n : String)
  deriving DecidableEq

def RelV : V → Value → Prop
  | .non, u => u = Value.none
  | .bl b, u => u = Value.bool b
  | .int i, u => ∃ t, u = Value.int i t
  | .str x, u => ∃ t, u = Value.str x t
  | .byt b, u => ∃ t, u = Value.bytes b t
  | .flt b, u => ∃ t, u = Value.float b t
  | .ref a, u => u = Value.ref a
  | .ty n, u => u = Value.type n

abbrev Vals : List V → List Value → Prop := Paired RelV
theorem Vals.length {xs : List V} {us : List Value} (r : Vals xs us) : xs.length = us.length := Paired.length r
theorem Vals.get : ∀ {xs : List V} {us : List Value} {i : Nat} {x : V}, Vals xs us → xs[i]? = some x → ∃ u, us[i]? = some u ∧ RelV x u
  | _, _, _, _, .nil, e => by simp at e
  | _, _, 0, _, .cons r _, e => by simp at e; subst e; exact ⟨_, rfl, r⟩
  | _, _, i + 1, x, .cons _ t, e => by
    obtain ⟨u, h1, h2⟩ := Vals.get (i := i) (x := x) t (by simpa using e)
    exact ⟨u, by simpa using h1, h2⟩
theorem Vals.set {x : V} {u : Value} (r : RelV x u) : ∀ {xs : List V} {us : List Value} (i : Nat), Vals xs us → Vals (xs.set i x) (us.set i u)
  | _, _, _, .nil => .nil
  | _, _, 0, .cons _ t => .cons r t
  | _, _, i + 1, .cons q t => .cons q (Vals.set r i t)
theorem Vals.append : ∀ {xs ys : List V} {us ws : List Value}, Vals xs us → Vals ys ws → Vals (xs ++ ys) (us ++ ws)
  | _, _, _, _, .nil, s => s
  | _, _, _, _, .cons r t, s => .cons r (Vals.append t s)
theorem Vals.take : ∀ {xs : List V} {us : List Value} (n : Nat), Vals xs us → Vals (xs.take n) (us.take n)
  | _, _, 0, _ => .nil
  | _, _, _ + 1, .nil => .nil
  | _, _, n + 1, .cons r t => .cons r (Vals.take n t)
theorem Vals.drop : ∀ {xs : List V} {us : List Value} (n : Nat), Vals xs us → Vals (xs.drop n) (us.drop n)
  | _, _, 0, r => r
  | _, _, _ + 1, .nil => .nil
  | _, _, n + 1, .cons _ t => Vals.drop n t
def RelO : Option V → Option Value → Prop
  | some v, some u => RelV v u
  | none, none => True
  | _, _ => False
def KV {κ : Type} : List (κ × V) → List (κ × Value) → Prop := Paired fun (p : κ × V) (q : κ × Value) => p.1 = q.1 ∧ RelV p.2 q.2

/-- a key of a dict (00_mix): an int or a text -/
def kV : Key → V
  | .inl i => .int i
  | .inr x => .str x

/-- what stands at a tracked address -/
inductive HO where
  /-- a list -/
  | lst (xs : List V)
  /-- a tuple (never changes) -/
  | tup (xs : List V)
  /-- a dict whose keys are ints and texts; one whose keys are tuples of ints and texts (the empty one is both) -/
  | dK (kvs : List (Key × V)) | dT (kvs : List (List Key × V))
  /-- a set of ints: its members, its size -/
  | set (S : Int → Bool) (n : Nat)
  /-- an instance of the class at C, its dict at dx, its attributes -/
  | ins (C dx : Addr) (fs : List (Str × V))
  /-- the dict of the instance at x -/
  | own (x : Addr)
  /-- the dict of an exception -/
  | xd (fs : List (Str × V))
  /-- a bound method, f of x -/
  | met (f x : Addr)
  /-- a range object lo, lo + 1, .. below hi -/
  | rng (lo hi : Int)
  /-- a thing that is known to the object (the script; a dict while a loop walks it): read, never written while it is so -/
  | frz (o : Obj) (u : HO)
  /-- a code object's table -/
  | tbl (ps : Array Value)
  /-- any other thing, by what is true of its one object (a def of one's own: SetO a S n := HO.ext fun h => ..) -/
  | ext (φ : Heap → Prop)

abbrev Hp := Addr → Option HO
def upd (H : Hp) (a : Addr) (o : HO) : Hp := fun b => if b = a then some o else H b
theorem upd_same {H : Hp} {a : Addr} {o : HO} : upd H a o a = some o := by unfold upd; rw [if_pos rfl]
theorem upd_ne {H : Hp} {a b : Addr} {o : HO} (h : b ≠ a) : upd H a o b = H b := by unfold upd; rw [if_neg h]
theorem ne_of_none {H : Hp} {a b : Addr} {o : HO} (h : H a = some o) (h' : H b = none) : a ≠ b := by
  intro e; subst e; rw [h] at h'; cases h'

section
variable (P : Program) (w : World)
def ObjOk (H : Hp) (h : Heap) (a : Addr) : HO → Prop
  | .lst xs => xs.length ≤ sizeLine ∧ ∃ (its : List Value) (n : Nat), Vals xs its ∧ h.get? a = some { cls := .type "list", data := .seq its.toArray n }
  | .tup xs => xs.length ≤ sizeLine ∧ ∃ its : List Value, Vals xs its ∧ IsTup h a its.toArray
  | .dK kvs => kvs.length ≤ sizeLine ∧ (a == sysModules) = false ∧ ∃ vs, KV kvs vs ∧ h.DictOf (mixKind P w) a vs
  | .dT kvs => kvs.length ≤ sizeLine ∧ (a == sysModules) = false ∧ ∃ xs : List (List Key × Addr × Value),
      Paired (fun (p : List Key × V) (q : List Key × Addr × Value) => p.1 = q.1 ∧ H q.2.1 = some (.tup (p.1.map kV)) ∧ RelV p.2 q.2.2) kvs xs ∧
      ∃ o es ep, h.get? a = some o ∧ o.ExactDict ∧ o.data = .dict es ep ∧ es.toList = xs.map (entryOfKey (tupleKind (mixKind P w))) ∧ (xs.map (·.1)).Nodup
  | .set S n => h.SetOf (intKind P w) a S n
  | .ins C dx fs => H dx = some (.own a) ∧ fs.length ≤ 1000 ∧ dx ≠ a ∧ h.get? a = some (PySem.W.instObj C dx) ∧
      ∃ mA, h.Ns1 dx mA ∧ (∀ f, RelO (fs.lookup f) (mA f)) ∧ PySem.Within mA (fs.map (·.1))
  | .own _ => ∃ o, h.get? a = some o
  | .xd fs => ∃ mA, h.Ns1 a mA ∧ ∀ f, RelO (fs.lookup f) (mA f)
  | .rng lo hi => ∃ t u v, h.get? a = some { cls := .type "range", data := .fields #[.int lo t, .int hi u, .int 1 v] }
  | .frz o u => h.get? a = some o ∧ ObjOk H h a u
  | .tbl ps => h.get? a = some { cls := .none, data := .fields ps }
  | .met f x => h.get? a = some (PySem.W.methodObj (.ref f) (.ref x))
  | .ext φ => φ h ∧ (∃ o, h.get? a = some o) ∧ ∀ h1 h2 : Heap, φ h1 → (∀ o, h1.get? a = some o → h2.get? a = some o) → φ h2
/-- the abstract heap is held -/
def HOk (H : Hp) (h : Heap) : Prop := ∀ a o, H a = some o → ObjOk P w H h a o
end

section
variable {P : Program} {w : World} {H H' : Hp} {h h' : Heap} {a : Addr} {o : HO}
theorem ObjOk.lt (x : ObjOk P w H h a o) : a < h.objs.size := by
  cases o with
  | lst xs => obtain ⟨_, _, _, _, e⟩ := x; exact Heap.lt_size e
  | tup xs => obtain ⟨_, _, _, p⟩ := x; exact p.lt
  | dK kvs => obtain ⟨_, _, _, _, o, _, _, e, _⟩ := x; exact Heap.lt_size e
  | dT kvs => obtain ⟨_, _, _, _, o, _, _, e, _⟩ := x; exact Heap.lt_size e
  | set S n => obtain ⟨o, _, _, _, e, _⟩ := x; exact Heap.lt_size e
  | ins C dx fs => obtain ⟨_, _, _, e, _⟩ := x; exact Heap.lt_size e
  | own y => obtain ⟨_, e⟩ := x; exact Heap.lt_size e
  | xd fs => obtain ⟨_, ⟨_, _, _, e, _⟩, _⟩ := x; exact Heap.lt_size e
  | rng lo hi => obtain ⟨_, _, _, e⟩ := x; exact Heap.lt_size e
  | frz ob u => obtain ⟨e, _⟩ := x; exact Heap.lt_size e
  | tbl ps => exact Heap.lt_size (show h.get? a = some _ from x)
  | met f y => exact Heap.lt_size (show h.get? a = some _ from x)
  | ext φ => obtain ⟨_, ⟨_, e⟩, _⟩ := x; exact Heap.lt_size e
theorem Paired.mapP {α β : Type} {F G : α → β → Prop} : ∀ {l₁ : List α} {l₂ : List β}, Paired F l₁ l₂ → (∀ a b, F a b → G a b) → Paired G l₁ l₂
  | _, _, .nil, _ => .nil
  | _, _, .cons r t, f => .cons (f _ _ r) (Paired.mapP t f)
/-- what an object's description leans on: its own object, its own dict, the tuples -/
theorem ObjOk.stay (x : ObjOk P w H h a o) (k : ∀ b u, (b = a ∨ H b = some (.own a)) → h.get? b = some u → h'.get? b = some u)
    (ho : ∀ b, H b = some (.own a) → H' b = some (.own a)) (ht : ∀ b xs, H b = some (.tup xs) → H' b = some (.tup xs)) : ObjOk P w H' h' a o := by
  induction o with
  | lst xs => obtain ⟨z, its, n, r, e⟩ := x; exact ⟨z, its, n, r, k _ _ (.inl rfl) e⟩
  | tup xs => obtain ⟨z, its, r, ob, e, c⟩ := x; exact ⟨z, its, r, ob, k _ _ (.inl rfl) e, c⟩
  | dK kvs => obtain ⟨z, y, vs, r, ob, es, ep, e, c⟩ := x; exact ⟨z, y, vs, r, ob, es, ep, k _ _ (.inl rfl) e, c⟩
  | dT kvs =>
    obtain ⟨z, y, xs, r, ob, es, ep, e, c⟩ := x
    exact ⟨z, y, xs, Paired.mapP r fun p q z => ⟨z.1, ht _ _ z.2.1, z.2.2⟩, ob, es, ep, k _ _ (.inl rfl) e, c⟩
  | set S n => obtain ⟨ob, es, ep, t, e, c⟩ := x; exact ⟨ob, es, ep, t, k _ _ (.inl rfl) e, c⟩
  | ins C dx fs =>
    obtain ⟨d, z, ne, e, mA, ⟨od, es, ep, e2, c⟩, r⟩ := x
    exact ⟨ho _ d, z, ne, k _ _ (.inl rfl) e, mA, ⟨od, es, ep, k _ _ (.inr d) e2, c⟩, r⟩
  | own y => obtain ⟨ob, e⟩ := x; exact ⟨ob, k _ _ (.inl rfl) e⟩
  | xd fs => obtain ⟨mA, ⟨od, es, ep, e, c⟩, r⟩ := x; exact ⟨mA, ⟨od, es, ep, k _ _ (.inl rfl) e, c⟩, r⟩
  | rng lo hi => obtain ⟨t, u, v, e⟩ := x; exact ⟨t, u, v, k _ _ (.inl rfl) e⟩
  | frz ob u ih => obtain ⟨e, q⟩ := x; exact ⟨k _ _ (.inl rfl) e, ih q⟩
  | tbl ps =>
    have e : h.get? a = some { cls := .none, data := .fields ps } := x
    show h'.get? a = some { cls := .none, data := .fields ps }
    exact k a _ (.inl rfl) e
  | met f y =>
    have e : h.get? a = some (PySem.W.methodObj (.ref f) (.ref y)) := x
    show h'.get? a = some (PySem.W.methodObj (.ref f) (.ref y))
    exact k a _ (.inl rfl) e
  | ext φ => obtain ⟨p, ⟨o, e⟩, st⟩ := x; exact ⟨st _ _ p fun o q => k _ _ (.inl rfl) q, ⟨o, k _ _ (.inl rfl) e⟩, st⟩
theorem HOk.lt (x : HOk P w H h) (e : H a = some o) : a < h.objs.size := (x a o e).lt
theorem HOk.fresh (x : HOk P w H h) (e : h.objs.size ≤ a) : H a = none := by
  cases q : H a with
  | none => rfl
  | some u => exact absurd (Nat.lt_of_lt_of_le (x.lt q) e) (Nat.lt_irrefl _)
/-- every object of the heap is kept -/
theorem HOk.kept (x : HOk P w H h) (k : ∀ b u, h.get? b = some u → h'.get? b = some u) : HOk P w H h' := fun a o e =>
  (x a o e).stay (fun b u _ q => k b u q) (fun _ q => q) fun _ _ q => q
/-- a new object is laid and tracked -/
theorem HOk.laid (x : HOk P w H h) (k : ∀ b u, h.get? b = some u → h'.get? b = some u) (hp : h.objs.size ≤ a) (new : ObjOk P w (upd H a o) h' a o) : HOk P w (upd H a o) h' := fun b u e => by
  have hn := x.fresh hp
  by_cases hb : b = a
  · subst hb; rw [upd_same] at e; cases e; exact new
  · rw [upd_ne hb] at e
    exact (x b u e).stay (fun c v _ q => k c v q) (fun c q => by rw [upd_ne (ne_of_none q hn)]; exact q) fun c xs q => by rw [upd_ne (ne_of_none q hn)]; exact q
end

/-- what may be read as u: it is u, or a known u -/
def Rd (H : Hp) (a : Addr) (u : HO) : Prop := H a = some u ∨ ∃ o, H a = some (.frz o u)
theorem Rd.of {H : Hp} {a : Addr} {u : HO} (h : H a = some u) : Rd H a u := .inl h
theorem Rd.ok {P : Program} {w : World} {H : Hp} {h : Heap} {a : Addr} {u : HO} (r : Rd H a u) (x : HOk P w H h) : ObjOk P w H h a u := by
  rcases r with r | ⟨o, r⟩
  · exact x a u r
  · obtain ⟨_, q⟩ := x a _ r
    exact q
/-- what may be written -/
def Mut : Option HO → Prop
  | some (.lst _) => True
  | some (.dK _) => True
  | some (.dT _) => True
  | some (.set _ _) => True
  | some (.ins _ _ _) => True
  | some (.ext _) => True
  | _ => False
section
variable {P : Program} {w : World} {H : Hp} {h h' : Heap} {x e : Addr} {o' : HO}
/-- the object at e is changed: x itself, or the dict of the instance x -/
theorem HOk.write (ok : HOk P w H h) (mu : Mut (H x)) (he : e = x ∨ H e = some (.own x)) (k : ∀ b u, b ≠ e → h.get? b = some u → h'.get? b = some u) (heo : ∃ u, h'.get? e = some u)
    (new : ObjOk P w (upd H x o') h' x o') : HOk P w (upd H x o') h' := fun b u q => by
  have nown : ∀ c y, H c = some (.own y) → c ≠ x := fun c y r z => by subst z; rw [r] at mu; exact mu
  have ntup : ∀ c xs, H c = some (.tup xs) → c ≠ x := fun c xs r z => by subst z; rw [r] at mu; exact mu
  by_cases hb : b = x
  · subst hb; rw [upd_same] at q; cases q; exact new
  · rw [upd_ne hb] at q
    by_cases hbe : b = e
    · have q' : H b = some (.own x) := by
        rcases he with z | z
        · exact absurd (hbe.trans z) hb
        · rw [hbe]; exact z
      rw [q] at q'; cases q'
      obtain ⟨v, hv⟩ := heo
      exact ⟨v, by rw [hbe]; exact hv⟩
    · refine (ok b u q).stay (fun c v hc r => k c v ?_ r) (fun c r => by rw [upd_ne (nown c b r)]; exact r) fun c xs r => by rw [upd_ne (ntup c xs r)]; exact r
      rcases hc with rfl | hc
      · exact hbe
      · rintro rfl
        rcases he with z | z
        · exact nown c b hc z
        · rw [hc] at z; cases z; exact hb rfl
end

/-! ### kept unless tracked; of the frames at fs (the callers') the slots may change (an exception that passes writes there); of the records at ex (iterators) nothing is said -/
structure Un (fs ex : List Addr) (H H' : Hp) (h h' : Heap) : Prop where
  keep : ∀ b o, h.get? b = some o → H b = none → b ∉ fs → b ∉ ex → h'.get? b = some o
  slot : ∀ b o, h.get? b = some o → H b = none → b ∈ fs → b ∉ ex → ∃ sl, h'.get? b = some { o with slots := sl }
  free : ∀ b o, h.get? b = some o → H b = none → b ∉ ex → H' b = none
  there : ∀ b o, h.get? b = some o → b ∉ ex → ∃ o', h'.get? b = some o'
  tups : ∀ b xs, H b = some (.tup xs) → H' b = some (.tup xs)
  frzs : ∀ b o u, H b = some (.frz o u) → H' b = some (.frz o u)
  tbls : ∀ b ps, H b = some (.tbl ps) → ∃ more, H' b = some (.tbl (ps ++ more))
section
variable {fs fs' ex ex' : List Addr} {H H1 H2 : Hp} {h h1 h2 h' : Heap} {a x e : Addr} {o : HO}
theorem Un.any (u : Un fs ex H H1 h h1) {b : Addr} {ob : Obj} (q : h.get? b = some ob) (n : H b = none) (hx : b ∉ ex) : ∃ sl, h1.get? b = some { ob with slots := sl } := by
  by_cases hb : b ∈ fs
  · exact u.slot b ob q n hb hx
  · exact ⟨ob.slots, u.keep b ob q n hb hx⟩
theorem Un.trans (a : Un fs ex H H1 h h1) (b : Un fs ex H1 H2 h1 h2) : Un fs ex H H2 h h2 where
  keep := fun c ob q n hc hx => b.keep c ob (a.keep c ob q n hc hx) (a.free c ob q n hx) hc hx
  slot := fun c ob q n hc hx => by
    obtain ⟨sl, e1⟩ := a.slot c ob q n hc hx
    obtain ⟨sl', e2⟩ := b.slot c _ e1 (a.free c ob q n hx) hc hx
    exact ⟨sl', e2⟩
  free := fun c ob q n hx => by
    obtain ⟨o', e1⟩ := a.there c ob q hx
    exact b.free c o' e1 (a.free c ob q n hx) hx
  there := fun c ob q hx => by
    obtain ⟨o', e1⟩ := a.there c ob q hx
    exact b.there c o' e1 hx
  tups := fun c xs q => b.tups c xs (a.tups c xs q)
  frzs := fun c ob xs q => b.frzs c ob xs (a.frzs c ob xs q)
  tbls := fun c ps q => by
    obtain ⟨m1, e1⟩ := a.tbls c ps q
    obtain ⟨m2, e2⟩ := b.tbls c _ e1
    exact ⟨m1 ++ m2, by rw [e2, Array.append_assoc]⟩
theorem Un.kept (k : ∀ b u, h.get? b = some u → h'.get? b = some u) : Un fs ex H H h h' :=
  ⟨fun b ob q _ _ _ => k b ob q, fun b ob q _ _ _ => ⟨ob.slots, k b ob q⟩, fun _ _ _ n _ => n, fun b ob q _ => ⟨ob, k b ob q⟩, fun _ _ q => q, fun _ _ _ q => q, fun _ ps q => ⟨#[], by rw [q]; simp⟩⟩
theorem Un.refl : Un fs ex H H h h := Un.kept fun _ _ q => q
theorem Un.laid (k : ∀ b u, h.get? b = some u → h'.get? b = some u) (hp : h.objs.size ≤ a) (hn : H a = none) : Un fs ex H (upd H a o) h h' where
  keep := fun b u q _ _ _ => k b u q
  slot := fun b u q _ _ _ => ⟨u.slots, k b u q⟩
  free := fun b u q n _ => by rw [upd_ne (Nat.ne_of_lt (Nat.lt_of_lt_of_le (Heap.lt_size q) hp))]; exact n
  there := fun b u q _ => ⟨u, k b u q⟩
  tups := fun b xs q => by rw [upd_ne (ne_of_none q hn)]; exact q
  frzs := fun b u xs q => by rw [upd_ne (ne_of_none q hn)]; exact q
  tbls := fun b ps q => ⟨#[], by rw [upd_ne (ne_of_none q hn), q]; simp⟩
theorem Un.write (mu : Mut (H x)) (he : e = x ∨ H e = some (.own x)) (k : ∀ b u, b ≠ e → h.get? b = some u → h'.get? b = some u) (heo : ∃ u, h'.get? e = some u) : Un fs ex H (upd H x o) h h' := by
  have hx : ∀ b, H b = none → b ≠ x := fun b n z => by subst z; rw [n] at mu; exact mu
  have hb : ∀ b, H b = none → b ≠ e := fun b n z => by
    subst z
    rcases he with r | r
    · exact hx b n r
    · rw [n] at r; cases r
  have hm : ∀ b u, H b = some u → ¬ Mut (some u) → b ≠ x := fun b u q nm z => by subst z; rw [q] at mu; exact nm mu
  refine ⟨fun b u q n _ _ => k b u (hb b n) q, fun b u q n _ _ => ⟨u.slots, k b u (hb b n) q⟩, fun b u q n _ => by rw [upd_ne (hx b n)]; exact n, fun b u q _ => ?_,
    fun b xs q => by rw [upd_ne (hm b _ q fun z => z)]; exact q, fun b u xs q => by rw [upd_ne (hm b _ q fun z => z)]; exact q, fun b ps q => ⟨#[], by rw [upd_ne (hm b _ q fun z => z), q]; simp⟩⟩
  by_cases hbe : b = e
  · subst hbe; exact heo
  · exact ⟨u, k b u hbe q⟩
theorem Un.mono (u : Un fs ex H H1 h h1) (hs : ∀ b ∈ fs, b ∈ fs') (hx : ∀ b ∈ ex, b ∈ ex') : Un fs' ex' H H1 h h1 :=
  ⟨fun b ob q n hb he => u.keep b ob q n (fun z => hb (hs b z)) fun z => he (hx b z), fun _ _ q n _ he => u.any q n fun z => he (hx _ z), fun b ob q n he => u.free b ob q n fun z => he (hx b z), fun b ob q he => u.there b ob q fun z => he (hx b z), u.tups, u.frzs, u.tbls⟩
end

/-! ### the heap without what is tracked -/
def trk (h : Heap) (H : Hp) : List Addr := (List.range h.objs.size).filter fun a => (H a).isSome
def hidT (h : Heap) (H : Hp) : Heap := PySem.W.hideAll h (trk h H)
theorem hidT_size (h : Heap) (H : Hp) : (hidT h H).objs.size = h.objs.size := PySem.W.hideAll_size _ _
theorem hidT_get {h : Heap} {H : Hp} {b : Addr} {o : Obj} (e : h.get? b = some o) (n : H b = none) : (hidT h H).get? b = some o :=
  PySem.W.hideAll_get _ e fun hm => by
    have q : (H b).isSome = true := (List.mem_filter.mp hm).2
    rw [n] at q; simp at q
theorem of_hidT {h : Heap} {H : Hp} {b : Addr} {o : Obj} (e : (hidT h H).get? b = some o) : h.get? b = some o ∧ H b = none := by
  have e' : h.get? b = some o := PySem.W.of_hideAll (trk h H) e
  refine ⟨e', ?_⟩
  cases q : H b with
  | none => rfl
  | some x =>
    have hm : b ∈ trk h H := List.mem_filter.mpr ⟨List.mem_range.mpr (Heap.lt_size e'), by simp [q]⟩
    have z : (hidT h H).get? b = none := PySem.W.hideAll_none (trk h H) hm
    rw [z] at e; cases e

/-! ### OpenK's ledger, filled with every new object but one -/
def allNews (g h : Heap) (L : Addr) : List (Addr × Obj) := (List.range h.objs.size).filterMap fun a => if a = L ∨ (g.get? a).isSome = true then none else (h.get? a).map fun o => (a, o)
def rest (g h : Heap) (L d : Addr) : List (Addr × Obj) := (allNews g h L).filter fun p => decide (p.1 ≠ d)
end L2

namespace L2
open PySem PySem.Spec PyProof.Rows

/-- the module's facts, over the base: the heap at the law's entry without what is tracked there -/
structure Mod (K : PySem.W.Frag) (mg : Str → Option Value) (base : Heap) : Prop where
  kin : K.In base
  glob : base.Ns mainGlobals mg
  blt : ∃ mb, base.Ns builtinsNs mb ∧ ∀ x : Str, x ≠ "__name__" → mb x = bootBuiltins x
  nolimit : base.NoLimit

/-- the context: a def's body (or a comprehension's block) running. base: fixed through the whole law; s₀, H₀: the entry; outer: the frames whose slots others may change (a def's callers); stack: all frames that run;
   ex: iterators that were made ahead of the entry and are walked here (a comprehension's); fn: the names whose cells were made at the entry (a def: all; a comprehension's block: its own); calm: not within an except suite; pn: pins that every state bears; xe: what is wanted of an exception that leaves the code -/
structure Cx where
  prog : Program
  w : World
  K : PySem.W.Frag
  mg : Str → Option Value
  base : Heap
  A : Around
  N : List Str
  s₀ : Shared
  H₀ : Hp
  env : Env
  outer : List Env
  stack : List Env
  ex : List Addr
  fn : Str → Bool
  calm : Bool
  pn : List (Addr × Obj)
  xe : Value → Shared → Prop
/-- the callers' frames -/
def frs (l : List Env) : List Addr := l.filterMap (·.frame)
abbrev Cx.fs (X : Cx) : List Addr := frs X.outer

def Vis (sc : Scope) (x : Str) : Prop := sc.names.lookup x = some .local ∨ sc.names.lookup x = some .cell ∨ sc.names.lookup x = some .free
def Loc (sc : Scope) (x : Str) : Prop := sc.names.lookup x = some .local ∨ sc.names.lookup x = some .cell
def Look (env : Env) (h : Heap) (m : Str → Option Value) (x : Str) (u : Value) : Prop :=
  (env.kindOf x = some .local ∧ m x = some u) ∨ ((env.kindOf x = some .cell ∨ env.kindOf x = some .free) ∧ ∃ c, env.cells.lookup x = some c ∧ h.IsCell c (some u))

structure Cx.Ok (X : Cx) : Prop where
  mod : Mod X.K X.mg X.base
  kind : X.env.scope.kind = .function
  glob : X.env.globals = mainGlobals
  blt : X.env.builtins = builtinsNs
  above : X.s₀.heap.objs.size ≤ X.env.locals
  inj : ∀ x y c, X.env.cells.lookup x = some c → X.env.cells.lookup y = some c → x = y
  has : ∀ x, (X.env.kindOf x = some .cell ∨ X.env.kindOf x = some .free) → ∃ c, X.env.cells.lookup x = some c
  cab : ∀ x c, X.fn x = true → X.env.cells.lookup x = some c → X.s₀.heap.objs.size ≤ c
  hd : X.calm = true → X.A.handled = none
  frames : X.A.frames = some X.stack
  stk : X.stack = X.outer ∨ (X.stack = X.env :: X.outer ∧ X.env.frame = some X.env.locals)
  exf : ∀ b ∈ X.ex, b ≠ X.env.locals ∧ ∀ x c, X.env.cells.lookup x = some c → c ≠ b
  bs : ∀ b o, X.base.get? b = some o → X.s₀.heap.get? b = some o ∧ X.H₀ b = none
  bsz : X.base.objs.size ≤ X.s₀.heap.objs.size
  noex : ∀ b o, X.base.get? b = some o → b ∉ X.ex
  exfs : ∀ b ∈ X.ex, b ∉ X.fs
  funs : X.s₀.heap.FunFrames X.base X.outer
  frf : ∀ b ∈ X.fs, X.H₀ b = none

structure Inv (X : Cx) (pins : List (Addr × Obj)) (σ : List (Option V)) (H : Hp) (s : Shared) : Prop where
  ok : X.Ok
  os : s.os = X.s₀.os
  bare : AllBare s.gens
  base : Un X.fs X.ex X.H₀ H X.s₀.heap s.heap
  loc : ∃ m, s.heap.Ns X.env.locals m ∧ ∀ (i : Nat) (x : Str) (v : V), X.N[i]? = some x → σ[i]? = some (some v) → Vis X.env.scope x → ∃ u, RelV v u ∧ Look X.env s.heap m x u
  cell : ∀ x c, X.env.cells.lookup x = some c → ∃ v, s.heap.IsCell c v
  free : H X.env.locals = none
  freeC : ∀ x c, X.env.cells.lookup x = some c → H c = none
  pin : ∀ p ∈ X.pn ++ pins, s.heap.get? p.1 = some p.2 ∧ H p.1 = none ∧ p.1 ≠ X.env.locals ∧ p.1 ∉ X.fs ∧ ∀ v, p.2.data ≠ .cell v
  hok : HOk X.prog X.w H s.heap
  len : σ.length = X.N.length

section
variable {X : Cx} {pins : List (Addr × Obj)} {σ : List (Option V)} {H H' : Hp} {s : Shared} {h' : Heap}

theorem Cx.Ok.nofr (ok : X.Ok) {b : Addr} {o : Obj} (e : X.base.get? b = some o) : b ∉ X.fs := fun hb => by
  have := (ok.funs.mem hb).1
  rw [e] at this; cases this
theorem Inv.bs (I : Inv X pins σ H s) : ∀ b o, X.base.get? b = some o → s.heap.get? b = some o ∧ H b = none := fun b o e =>
  ⟨I.base.keep b o (I.ok.bs b o e).1 (I.ok.bs b o e).2 (I.ok.nofr e) (I.ok.noex b o e), I.base.free b o (I.ok.bs b o e).1 (I.ok.bs b o e).2 (I.ok.noex b o e)⟩
theorem Inv.bk (I : Inv X pins σ H s) : ∀ b o, X.base.get? b = some o → s.heap.get? b = some o := fun b o e => (I.bs b o e).1
theorem Inv.mod (I : Inv X pins σ H s) : Mod X.K X.mg X.base := I.ok.mod
theorem Inv.kIn (I : Inv X pins σ H s) : X.K.In s.heap := I.ok.mod.kin.keeps I.bk
theorem Inv.nolimit (I : Inv X pins σ H s) : s.heap.NoLimit := I.ok.mod.nolimit.keeps I.bk
/-- the frame over the base: for OpenK's rules (K.In X.base is I.mod.kin) -/
theorem Inv.fr (I : Inv X pins σ H s) : ∃ m, Fr X.base X.env.locals s.heap m :=
  let ⟨m, hn, _⟩ := I.loc
  ⟨m, hn, I.bk, Nat.le_trans I.ok.bsz I.ok.above⟩
theorem Inv.lt (I : Inv X pins σ H s) : X.env.locals < s.heap.objs.size := let ⟨_, hn, _⟩ := I.loc; hn.lt
theorem Inv.sz (I : Inv X pins σ H s) : X.s₀.heap.objs.size ≤ s.heap.objs.size := Nat.le_trans I.ok.above (Nat.le_of_lt I.lt)
theorem Inv.nofs (I : Inv X pins σ H s) {a : Addr} (h : s.heap.objs.size ≤ a) : a ∉ X.fs := fun hb => by
  obtain ⟨_, o, ho, _⟩ := I.ok.funs.mem hb
  exact absurd (Nat.lt_of_lt_of_le (Heap.lt_size ho) (Nat.le_trans I.sz h)) (Nat.lt_irrefl _)
theorem Inv.cne (I : Inv X pins σ H s) : ∀ x c, X.env.cells.lookup x = some c → c ≠ X.env.locals := fun x c e z => by
  obtain ⟨v, o, ho, hd⟩ := I.cell x c e
  obtain ⟨m, ⟨o', es, ep, ho', hd', _⟩, _⟩ := I.loc
  rw [z, ho'] at ho; cases ho; rw [hd'] at hd; cases hd
theorem Inv.funs (I : Inv X pins σ H s) : s.heap.FunFrames X.base X.outer := by
  have all : ∀ (l : List Env), (∀ b ∈ frs l, b ∈ X.fs) → X.s₀.heap.FunFrames X.base l → s.heap.FunFrames X.base l := by
    intro l
    induction l with
    | nil => intro _ _; trivial
    | cons env r ih =>
      intro hs hl
      obtain ⟨hk, ⟨L, o, hf, hn, ho, hd⟩, hr⟩ := hl
      have hL : L ∈ X.fs := hs L (by unfold frs; rw [List.filterMap_cons, hf]; exact List.mem_cons_self)
      obtain ⟨sl, e⟩ := I.base.slot L o ho (I.ok.frf L hL) hL fun z => I.ok.exfs L z hL
      exact ⟨hk, ⟨L, _, hf, hn, e, hd⟩, ih (fun b hb => hs b (by unfold frs; rw [List.filterMap_cons, hf]; exact List.mem_cons_of_mem _ hb)) hr⟩
  exact all X.outer (fun _ hb => hb) I.ok.funs

/-- the frames that run, for a call -/
theorem Inv.stack (I : Inv X pins σ H s) : s.heap.FunFrames X.base X.stack := by
  rcases I.ok.stk with e | ⟨e, hf⟩
  · rw [e]; exact I.funs
  · rw [e]
    obtain ⟨m, hn, _⟩ := I.loc
    refine .cons (by rw [I.ok.kind]; decide) hf hn ?_ I.funs
    exact Heap.get?_none_of_le (Nat.le_trans I.ok.bsz I.ok.above)
theorem Inv.stkSub (I : Inv X pins σ H s) : ∀ b ∈ frs X.stack, b ∈ X.env.locals :: X.fs := fun b hb => by
  rcases I.ok.stk with e | ⟨e, hf⟩
  · rw [e] at hb; exact List.mem_cons_of_mem _ hb
  · rw [e] at hb
    unfold frs at hb
    rw [List.filterMap_cons, hf] at hb
    exact hb
theorem Inv.stkFree (I : Inv X pins σ H s) : ∀ b ∈ frs X.stack, H b = none := fun b hb => by
  rcases List.mem_cons.mp (I.stkSub b hb) with e | hb
  · rw [e]; exact I.free
  · obtain ⟨_, o, ho, _⟩ := I.ok.funs.mem hb
    exact I.base.free b o ho (I.ok.frf b hb) fun z => I.ok.exfs b z hb

/-- THE STEP: the untracked objects but the frame and the records at ch are kept (the callers' frames up to slots), the frame's map is kept, the new abstract heap is held -/
theorem Inv.step {g' : Array GenState} {t' : Nat} {d' : Drawn} {ch : List Addr} (I : Inv X pins σ H s)
    (hch : ∀ b ∈ ch, (b ∈ X.ex ∨ X.s₀.heap.objs.size ≤ b) ∧ b ≠ X.env.locals ∧ (∀ x c, X.env.cells.lookup x = some c → c ≠ b) ∧ ∀ p ∈ X.pn ++ pins, p.1 ≠ b)
    (keep : ∀ b o, b ≠ X.env.locals → b ∉ X.fs → b ∉ ch → s.heap.get? b = some o → H b = none → h'.get? b = some o)
    (slot : ∀ b o, b ≠ X.env.locals → b ∈ X.fs → b ∉ ch → s.heap.get? b = some o → H b = none → ∃ sl, h'.get? b = some { o with slots := sl }) (free : ∀ b o, b ∉ ch → s.heap.get? b = some o → H b = none → H' b = none)
    (there : ∀ b o, b ∉ ch → s.heap.get? b = some o → ∃ o', h'.get? b = some o')
    (tups : ∀ b xs, H b = some (.tup xs) → H' b = some (.tup xs)) (frzs : ∀ b o u, H b = some (.frz o u) → H' b = some (.frz o u)) (tbls : ∀ b ps, H b = some (.tbl ps) → ∃ more, H' b = some (.tbl (ps ++ more)))
    (ns : ∀ m, s.heap.Ns X.env.locals m → h'.Ns X.env.locals m) (hok : HOk X.prog X.w H' h') (hg : AllBare g') :
    Inv X pins σ H' { s with heap := h', gens := g', drawn := d', toks := t' } := by
  have neL : ∀ b o, X.s₀.heap.get? b = some o → b ≠ X.env.locals := fun b o e => Nat.ne_of_lt (Nat.lt_of_lt_of_le (Heap.lt_size e) I.ok.above)
  have neC : ∀ b o, X.s₀.heap.get? b = some o → b ∉ X.ex → b ∉ ch := fun b o e hx hb => by
    rcases (hch b hb).1 with z | z
    · exact hx z
    · exact absurd (Nat.lt_of_lt_of_le (Heap.lt_size e) z) (Nat.lt_irrefl _)
  have cellK : ∀ x c, X.env.cells.lookup x = some c → ∀ v, s.heap.IsCell c v → h'.IsCell c v := fun x c e v ⟨o, ho, hd⟩ => by
    have nch : c ∉ ch := fun z => (hch c z).2.2.1 x c e rfl
    by_cases hc : c ∈ X.fs
    · obtain ⟨sl, q⟩ := slot c o (I.cne x c e) hc nch ho (I.freeC x c e)
      exact ⟨_, q, hd⟩
    · exact ⟨o, keep c o (I.cne x c e) hc nch ho (I.freeC x c e), hd⟩
  refine ⟨I.ok, I.os, hg, ⟨fun b o e n hb hx => ?_, fun b o e n hb hx => ?_, fun b o e n hx => ?_, fun b o e hx => ?_, fun b xs e => tups b xs (I.base.tups b xs e), fun b o xs e => frzs b o xs (I.base.frzs b o xs e), fun b ps e => ?_⟩, ?_, fun x c e => ?_, ?_, fun x c e => ?_, fun p hp => ?_, hok, I.len⟩
  · exact keep b o (neL b o e) hb (neC b o e hx) (I.base.keep b o e n hb hx) (I.base.free b o e n hx)
  · obtain ⟨sl, e1⟩ := I.base.slot b o e n hb hx
    obtain ⟨sl', e2⟩ := slot b _ (neL b o e) hb (neC b o e hx) e1 (I.base.free b o e n hx)
    exact ⟨sl', e2⟩
  · obtain ⟨o', e1⟩ := I.base.there b o e hx
    exact free b o' (neC b o e hx) e1 (I.base.free b o e n hx)
  · obtain ⟨o', e1⟩ := I.base.there b o e hx
    exact there b o' (neC b o e hx) e1
  · obtain ⟨m1, e1⟩ := I.base.tbls b ps e
    obtain ⟨m2, e2⟩ := tbls b _ e1
    exact ⟨m1 ++ m2, by rw [e2, Array.append_assoc]⟩
  · obtain ⟨m, hn, hl⟩ := I.loc
    refine ⟨m, ns m hn, fun i x v e1 e2 e3 => ?_⟩
    obtain ⟨u, r, l⟩ := hl i x v e1 e2 e3
    refine ⟨u, r, ?_⟩
    rcases l with l | ⟨k, c, e, z⟩
    · exact .inl l
    · exact .inr ⟨k, c, e, cellK x c e _ z⟩
  · obtain ⟨v, z⟩ := I.cell x c e
    exact ⟨v, cellK x c e v z⟩
  · obtain ⟨m, ⟨o, _, _, ho, _⟩, _⟩ := I.loc
    exact free _ o (fun z => (hch _ z).2.1 rfl) ho I.free
  · obtain ⟨v, o, ho, hd⟩ := I.cell x c e
    exact free c o (fun z => (hch c z).2.2.1 x c e rfl) ho (I.freeC x c e)
  · obtain ⟨e, n, ne, nf, d⟩ := I.pin p hp
    have nch : p.1 ∉ ch := fun z => (hch p.1 z).2.2.2 p hp rfl
    exact ⟨keep p.1 p.2 ne nf nch e n, free p.1 p.2 nch e n, ne, nf, d⟩
/-- .. where the frame's own object is kept too -/
theorem Inv.un {t' : Nat} (I : Inv X pins σ H s) (u : Un X.fs [] H H' s.heap h') (hok : HOk X.prog X.w H' h') : Inv X pins σ H' { s with heap := h', toks := t' } := by
  obtain ⟨m, ⟨o, es, ep, ho, r⟩, _⟩ := id I.loc
  obtain ⟨sl, hL⟩ := u.any ho I.free (by simp)
  exact I.step (g' := s.gens) (d' := s.drawn) (ch := []) (fun _ z => nomatch z) (fun b o _ hb _ e n => u.keep b o e n hb (by simp)) (fun b o _ hb _ e n => u.slot b o e n hb (by simp)) (fun b o _ e n => u.free b o e n (by simp)) (fun b o _ e => u.there b o e (by simp)) u.tups u.frzs u.tbls (fun m' hm => by
    obtain ⟨o', es', ep', ho', r'⟩ := hm
    rw [ho] at ho'; cases ho'
    exact ⟨_, es', ep', hL, r'⟩) hok I.bare
/-- behind a call (or a comprehension's block): the slots of this frame may have changed too, the records at ch may have turned -/
theorem Inv.call {g' : Array GenState} {t' : Nat} {d' : Drawn} {ch : List Addr} (I : Inv X pins σ H s) (u : Un (frs X.stack) ch H H' s.heap h') (hok : HOk X.prog X.w H' h') (hg : AllBare g')
    (hch : ∀ b ∈ ch, (b ∈ X.ex ∨ X.s₀.heap.objs.size ≤ b) ∧ b ≠ X.env.locals ∧ (∀ x c, X.env.cells.lookup x = some c → c ≠ b) ∧ ∀ p ∈ X.pn ++ pins, p.1 ≠ b) :
    Inv X pins σ H' { s with heap := h', gens := g', drawn := d', toks := t' } := by
  obtain ⟨m, ⟨o, es, ep, ho, r⟩, _⟩ := id I.loc
  obtain ⟨sl, hL⟩ := u.any ho I.free fun z => (hch _ z).2.1 rfl
  exact I.step (ch := ch) hch (fun b o hL hb hc e n => u.keep b o e n (fun z => (List.mem_cons.mp (I.stkSub b z)).elim hL hb) hc) (fun b o _ _ hc e n => u.any e n hc) (fun b o hc e n => u.free b o e n hc) (fun b o hc e => u.there b o e hc) u.tups u.frzs u.tbls (fun m' hm => by
    obtain ⟨o', es', ep', ho', r'⟩ := hm
    rw [ho] at ho'; cases ho'
    exact ⟨_, es', ep', hL, r'⟩) hok hg
/-- an untracked record of ours (an iterator) has turned -/
theorem Inv.turned {t' : Nat} {it : Addr} (I : Inv X pins σ H s) (k : ∀ b o, b ≠ it → s.heap.get? b = some o → h'.get? b = some o) (hn : H it = none) (hL : it ≠ X.env.locals)
    (h1 : it ∈ X.ex ∨ X.s₀.heap.objs.size ≤ it) (h2 : ∀ x c, X.env.cells.lookup x = some c → c ≠ it) (h3 : ∀ p ∈ X.pn ++ pins, p.1 ≠ it) : Inv X pins σ H { s with heap := h', toks := t' } := by
  have nit : ∀ b u, H b = some u → b ≠ it := fun b u e z => by rw [z, hn] at e; cases e
  refine I.step (g' := s.gens) (d' := s.drawn) (ch := [it]) (fun b hb => ?_) (fun b o _ _ hc e _ => k b o (fun z => hc (by simp [z])) e) (fun b o _ _ hc e _ => ⟨o.slots, k b o (fun z => hc (by simp [z])) e⟩) (fun _ _ _ _ n => n)
    (fun b o hc e => ⟨o, k b o (fun z => hc (by simp [z])) e⟩) (fun _ _ e => e) (fun _ _ _ e => e) (fun b ps e => ⟨#[], by rw [e]; simp⟩) (fun m hm => ?_) (fun b u e => ?_) I.bare
  · have e : b = it := by simpa using hb
    subst e
    exact ⟨h1, hL, h2, h3⟩
  · obtain ⟨o, es, ep, ho, r⟩ := hm
    exact ⟨o, es, ep, k _ o (Ne.symm hL) ho, r⟩
  · refine (I.hok b u e).stay (fun c v hc q => k c v ?_ q) (fun _ q => q) fun _ _ q => q
    rcases hc with z | z
    · rw [z]; exact nit b u e
    · exact nit c _ z
theorem Inv.tok (I : Inv X pins σ H s) (t : Nat) : Inv X pins σ H { s with toks := t } := I.un (h' := s.heap) (t' := t) Un.refl I.hok
/-- all objects kept -/
theorem Inv.kept {t' : Nat} (I : Inv X pins σ H s) (k : ∀ b u, s.heap.get? b = some u → h'.get? b = some u) : Inv X pins σ H { s with heap := h', toks := t' } := I.un (Un.kept k) (I.hok.kept k)
/-- a new object laid and tracked -/
theorem Inv.laid {a : Addr} {o : HO} {t' : Nat} (I : Inv X pins σ H s) (k : ∀ b u, s.heap.get? b = some u → h'.get? b = some u) (hp : s.heap.objs.size ≤ a) (new : ObjOk X.prog X.w (upd H a o) h' a o) :
    Inv X pins σ (upd H a o) { s with heap := h', toks := t' } := I.un (Un.laid k hp (I.hok.fresh hp)) (I.hok.laid k hp new)
/-- an object written -/
theorem Inv.write {x e : Addr} {o : HO} {t' : Nat} (I : Inv X pins σ H s) (mu : Mut (H x)) (he : e = x ∨ H e = some (.own x)) (k : ∀ b u, b ≠ e → s.heap.get? b = some u → h'.get? b = some u) (heo : ∃ u, h'.get? e = some u)
    (new : ObjOk X.prog X.w (upd H x o) h' x o) : Inv X pins σ (upd H x o) { s with heap := h', toks := t' } := I.un (Un.write mu he k heo) (I.hok.write mu he k heo new)
/-- forgetting slots, pins -/
theorem Inv.weak {σ' : List (Option V)} (I : Inv X pins σ H s) (hl : σ'.length = σ.length) (w : ∀ (i : Nat) v, σ'[i]? = some (some v) → σ[i]? = some (some v)) : Inv X pins σ' H s :=
  ⟨I.ok, I.os, I.bare, I.base, let ⟨m, hn, hl'⟩ := I.loc; ⟨m, hn, fun i x v e1 e2 e3 => hl' i x v e1 (w i v e2) e3⟩, I.cell, I.free, I.freeC, I.pin, I.hok, hl.trans I.len⟩
theorem Inv.pins_of {pins' : List (Addr × Obj)} (I : Inv X pins σ H s) (h : ∀ p ∈ pins', s.heap.get? p.1 = some p.2 ∧ H p.1 = none ∧ p.1 ≠ X.env.locals ∧ p.1 ∉ X.fs ∧ ∀ v, p.2.data ≠ .cell v) : Inv X pins' σ H s :=
  ⟨I.ok, I.os, I.bare, I.base, I.loc, I.cell, I.free, I.freeC, fun p hp => (List.mem_append.mp hp).elim (fun z => I.pin p (List.mem_append_left _ z)) (h p), I.hok, I.len⟩

theorem nodup_ix {N : List Str} (hN : N.Nodup) {i j : Nat} {x : Str} (a : N[i]? = some x) (b : N[j]? = some x) : i = j := by
  obtain ⟨h1, e1⟩ := List.getElem?_eq_some_iff.mp a
  obtain ⟨h2, e2⟩ := List.getElem?_eq_some_iff.mp b
  exact (List.getElem_inj hN).mp (e1.trans e2.symm)

/-- a name is stored; what changed -/
theorem store_ok2 {M : Model} {A : Around} {E : Value → Shared → Prop} {i : Nat} {x : Str} {v : V} {u : Value} {Q : Unit → Shared → Prop} (I : Inv X pins σ H s) (hN : X.N.Nodup) (hi : X.N[i]? = some x) (hx : Loc X.env.scope x) (r : RelV v u)
    (h : ∀ s', Inv X pins (σ.set i (some v)) H s' → (∃ a, Heap.SameBut a s.heap s'.heap ∧ (a = X.env.locals ∨ X.env.cells.lookup x = some a)) → Q () s') (hf : X.fn x = true ∨ X.env.scope.names.lookup x = some .local := by first | exact .inl rfl | exact .inr rfl | assumption) : wpAny M A (storeName X.env x u) Q E s := by
  obtain ⟨m, hn, hl⟩ := id I.loc
  have hcls : (X.env.scope.kind == .class || (X.env.scope.kind == .module && X.env.locals != X.env.globals)) = false := by rw [I.ok.kind]; rfl
  have hiσ : i < σ.length := by rw [I.len]; exact (List.getElem?_eq_some_iff.mp hi).1
  have cne := I.cne
  have tracked : ∀ {a : Addr} {h' : Heap}, (∃ o, s.heap.get? a = some o ∧ H a = none) → Heap.SameBut a s.heap h' → HOk X.prog X.w H h' := fun {a h'} ha hs b ob e => by
    obtain ⟨_, _, hfree⟩ := ha
    refine (I.hok b ob e).stay (fun c w' hc q => (hs.2 c ?_).trans q) (fun _ q => q) fun _ _ q => q
    rintro rfl
    rcases hc with rfl | hc
    · rw [hfree] at e; cases e
    · rw [hfree] at hc; cases hc
  rcases hx with hk | hk
  · refine wpAny_storeName_local hk hn (fun h' hn' hs => ?_) hcls
    obtain ⟨oL, _, _, hoL, _⟩ := id hn
    refine h _ ⟨I.ok, I.os, I.bare, ⟨fun b o e n hb hx => ?_, fun b o e n hb hx => ?_, I.base.free, fun b o e hx => ?_, I.base.tups, I.base.frzs, I.base.tbls⟩, ⟨_, hn', fun j y v' e1 e2 e3 => ?_⟩, fun y c e => ?_, I.free, I.freeC, fun p hp => ?_, tracked ⟨oL, hoL, I.free⟩ hs, by simpa using I.len⟩ ⟨_, hs, .inl rfl⟩
    · exact (hs.2 b (Nat.ne_of_lt (Nat.lt_of_lt_of_le (Heap.lt_size e) I.ok.above))).trans (I.base.keep b o e n hb hx)
    · obtain ⟨sl, e1⟩ := I.base.slot b o e n hb hx
      exact ⟨sl, (hs.2 b (Nat.ne_of_lt (Nat.lt_of_lt_of_le (Heap.lt_size e) I.ok.above))).trans e1⟩
    · obtain ⟨o', e1⟩ := I.base.there b o e hx
      exact ⟨o', (hs.2 b (Nat.ne_of_lt (Nat.lt_of_lt_of_le (Heap.lt_size e) I.ok.above))).trans e1⟩
    · by_cases hj : j = i
      · subst hj
        rw [hi] at e1; cases e1
        rw [List.getElem?_set_self hiσ] at e2
        cases e2
        exact ⟨u, r, .inl ⟨hk, by simp⟩⟩
      · rw [List.getElem?_set_ne (Ne.symm hj)] at e2
        obtain ⟨u', r', q⟩ := hl j y v' e1 e2 e3
        refine ⟨u', r', ?_⟩
        rcases q with ⟨k, e⟩ | ⟨k, c, e, z⟩
        · refine .inl ⟨k, ?_⟩
          have : y ≠ x := fun e => hj (nodup_ix hN e1 (e ▸ hi))
          simp [this, e]
        · exact .inr ⟨k, c, e, z.sameBut hs (cne y c e)⟩
    · obtain ⟨w', z⟩ := I.cell y c e
      exact ⟨w', z.sameBut hs (cne y c e)⟩
    · obtain ⟨e, n, ne, nf, d⟩ := I.pin p hp
      exact ⟨(hs.2 p.1 ne).trans e, n, ne, nf, d⟩
  · have hfn : X.fn x = true := by
      rcases hf with z | z
      · exact z
      · rw [z] at hk; cases hk
    obtain ⟨c, hc⟩ := I.ok.has x (.inl hk)
    obtain ⟨w', z⟩ := I.cell x c hc
    refine wpAny_storeName_cell I.ok.kind hk hc z (fun h' hc' hs => ?_)
    obtain ⟨oc, hoc, hocd⟩ := id z
    refine h { s with heap := h' } ⟨I.ok, I.os, I.bare, ⟨fun b o e n hb hx => ?_, fun b o e n hb hx => ?_, I.base.free, fun b o e hx => ?_, I.base.tups, I.base.frzs, I.base.tbls⟩, ⟨m, hn.sameBut hs (Ne.symm (cne x c hc)), fun j y v' e1 e2 e3 => ?_⟩, fun y c' e => ?_, I.free, I.freeC, fun p hp => ?_, tracked ⟨oc, hoc, I.freeC x c hc⟩ hs, by simpa using I.len⟩ ⟨c, hs, .inr hc⟩
    · exact (hs.2 b (Nat.ne_of_lt (Nat.lt_of_lt_of_le (Heap.lt_size e) (I.ok.cab x c hfn hc)))).trans (I.base.keep b o e n hb hx)
    · obtain ⟨sl, e1⟩ := I.base.slot b o e n hb hx
      exact ⟨sl, (hs.2 b (Nat.ne_of_lt (Nat.lt_of_lt_of_le (Heap.lt_size e) (I.ok.cab x c hfn hc)))).trans e1⟩
    · obtain ⟨o', e1⟩ := I.base.there b o e hx
      exact ⟨o', (hs.2 b (Nat.ne_of_lt (Nat.lt_of_lt_of_le (Heap.lt_size e) (I.ok.cab x c hfn hc)))).trans e1⟩
    · by_cases hj : j = i
      · subst hj
        rw [hi] at e1; cases e1
        rw [List.getElem?_set_self hiσ] at e2
        cases e2
        exact ⟨u, r, .inr ⟨.inl hk, c, hc, hc'⟩⟩
      · rw [List.getElem?_set_ne (Ne.symm hj)] at e2
        obtain ⟨u', r', q⟩ := hl j y v' e1 e2 e3
        refine ⟨u', r', ?_⟩
        rcases q with q | ⟨k, c', e, z'⟩
        · exact .inl q
        · refine .inr ⟨k, c', e, z'.sameBut hs ?_⟩
          rintro rfl
          exact hj (nodup_ix hN e1 (I.ok.inj _ _ _ e hc ▸ hi))
    · by_cases hcc : c' = c
      · subst hcc; exact ⟨_, hc'⟩
      · obtain ⟨w2, z2⟩ := I.cell y c' e
        exact ⟨w2, z2.sameBut hs hcc⟩
    · obtain ⟨e, n, ne, nf, d⟩ := I.pin p hp
      refine ⟨(hs.2 p.1 ?_).trans e, n, ne, nf, d⟩
      intro q
      rw [q, hoc] at e
      have q' : oc = p.2 := Option.some.inj e
      exact d w' (by rw [← q']; exact hocd)
theorem store_ok {M : Model} {A : Around} {E : Value → Shared → Prop} {i : Nat} {x : Str} {v : V} {u : Value} {Q : Unit → Shared → Prop} (I : Inv X pins σ H s) (hN : X.N.Nodup) (hi : X.N[i]? = some x) (hx : Loc X.env.scope x) (r : RelV v u)
    (h : ∀ s', Inv X pins (σ.set i (some v)) H s' → Q () s') (hf : X.fn x = true ∨ X.env.scope.names.lookup x = some .local := by first | exact .inl rfl | exact .inr rfl | assumption) : wpAny M A (storeName X.env x u) Q E s :=
  store_ok2 I hN hi hx r (fun s' I' _ => h s' I') hf
end

/-! ### the judgements -/
/-- an exception: its class, its own dict's address (where it has one), the abstract heap behind it -/
abbrev XK := Value → Option Addr → Hp → Prop
abbrev St := List (Option V)
abbrev VK := V → Hp → Prop
/-- an expression's reading; a test's; an argument list's -/
abbrev TE := St → Hp → VK → Prop
abbrev TT := St → Hp → (Bool → Hp → Prop) → Prop
abbrev TA := St → Hp → (List V → Hp → Prop) → Prop
/-- what is wanted behind a statement -/
structure Ends where
  nx : St → Hp → Prop
  rt : VK
  bk : St → Hp → Prop := fun _ _ => False
  ct : St → Hp → Prop := fun _ _ => False
abbrev TS := Ends → St → Hp → Prop

def EP (X : Cx) (pins : List (Addr × Obj)) (σ : St) (Q : VK) (u : Value) (s' : Shared) : Prop := ∃ v H', Inv X pins σ H' s' ∧ RelV v u ∧ Q v H'
def TP (X : Cx) (pins : List (Addr × Obj)) (σ : St) (Q : Bool → Hp → Prop) (b : Bool) (s' : Shared) : Prop := ∃ H', Inv X pins σ H' s' ∧ Q b H'
def AP (X : Cx) (pins : List (Addr × Obj)) (σ : St) (Q : List V → Hp → Prop) (us : List Value) (s' : Shared) : Prop := ∃ vs H', Inv X pins σ H' s' ∧ Vals vs us ∧ Q vs H'
def SP (X : Cx) (pins : List (Addr × Obj)) (D : Ends) (f : Flow) (s' : Shared) : Prop :=
  match f with
  | .next => ∃ σ' H', Inv X pins σ' H' s' ∧ D.nx σ' H'
  | .brk => ∃ σ' H', Inv X pins σ' H' s' ∧ D.bk σ' H'
  | .cont => ∃ σ' H', Inv X pins σ' H' s' ∧ D.ct σ' H'
  | .ret u => ∃ v σ' H', Inv X pins σ' H' s' ∧ RelV v u ∧ D.rt v H'

def PE (X : Cx) (e : Expr) (t : TE) : Prop :=
  ∀ (pins : List (Addr × Obj)) (s : Shared) (σ : St) (H : Hp) (Q : VK), Inv X pins σ H s → t σ H Q → wpAny (model X.prog X.w) X.A (eval e X.env) (EP X pins σ Q) X.xe s
def PT (X : Cx) (e : Expr) (t : TT) : Prop :=
  ∀ (pins : List (Addr × Obj)) (s : Shared) (σ : St) (H : Hp) (Q : Bool → Hp → Prop), Inv X pins σ H s → t σ H Q → wpAny (model X.prog X.w) X.A (isTrue e X.env (eval e X.env)) (TP X pins σ Q) X.xe s
/-- a test whatever its 'whole' is (and, or) -/
def PW (X : Cx) (e : Expr) (t : TT) : Prop :=
  ∀ (whole : Sem Value) (pins : List (Addr × Obj)) (s : Shared) (σ : St) (H : Hp) (Q : Bool → Hp → Prop), Inv X pins σ H s → t σ H Q → wpAny (model X.prog X.w) X.A (isTrue e X.env whole) (TP X pins σ Q) X.xe s
theorem PW.pt {X : Cx} {e : Expr} {t : TT} (h : PW X e t) : PT X e t := h _
/-- an argument list (no star), from the left -/
def PA (X : Cx) (es : List Expr) (t : TA) : Prop :=
  ∀ (pos : Pos) (pins : List (Addr × Obj)) (s : Shared) (σ : St) (H : Hp) (Q : List V → Hp → Prop), Inv X pins σ H s → t σ H Q → wpAny (model X.prog X.w) X.A (spliced (backTo pos (starEach es X.env))) (AP X pins σ Q) X.xe s
def PS (X : Cx) (st : Stmt) (t : TS) : Prop :=
  ∀ (pins : List (Addr × Obj)) (s : Shared) (σ : St) (H : Hp) (D : Ends), Inv X pins σ H s → t D σ H → wpAny (model X.prog X.w) X.A (exec st X.env) (SP X pins D) X.xe s
def PSs (X : Cx) (st : List Stmt) (t : TS) : Prop :=
  ∀ (pins : List (Addr × Obj)) (s : Shared) (σ : St) (H : Hp) (D : Ends), Inv X pins σ H s → t D σ H → wpAny (model X.prog X.w) X.A (execs st X.env) (SP X pins D) X.xe s
/-- weaken the end -/
theorem thn {α : Type} {t : Sem α} {Q Q' : α → Shared → Prop} {M : Model} {A : Around} {E : Value → Shared → Prop} {s : Shared} (h : wpAny M A t Q E s) (hQ : ∀ a s, Q a s → Q' a s) : wpAny M A t Q' E s := wpAny_mono h hQ fun _ _ x => x
end L2

namespace L2
open PySem PySem.Spec PyProof.Rows
section
variable {X : Cx}

/-! ### names and constants -/
def tVar (i : Nat) : TE := fun σ H Q => ∃ v, σ[i]? = some (some v) ∧ Q v H
def tC (v : V) : TE := fun _ H Q => Q v H
theorem pe_var {i : Nat} {x : Str} {pos : Pos} (hN : X.N[i]? = some x) (hv : Vis X.env.scope x) (hd : (x == ("__debug__" : Str)) = false := by decide) (hcd : (x == ("__classdict__" : Str)) = false := by decide) : PE X (.Name x pos) (tVar i) := by
  intro pins s σ H Q I h
  obtain ⟨v, e, h⟩ := h
  obtain ⟨m, hn, hl⟩ := I.loc
  obtain ⟨u, r, l⟩ := hl i x v hN e hv
  have fin : EP X pins σ Q u s := ⟨v, H, I, r, h⟩
  rcases l with ⟨hk, hm⟩ | ⟨hk, c, hc, hcell⟩
  · exact wpAny_Name (wpAny_loadName_local I.ok.kind hk hn hm fin) hd
  · rcases hk with hk | hk
    · exact wpAny_Name (wpAny_loadName_cell I.ok.kind hk hc hcell fin) hd
    · exact wpAny_Name (wpAny_loadName_free I.ok.kind hk hc hcell fin hcd) hd
theorem pe_int {i j pos} : PE X (.Constant (.int i) j pos) (tC (.int i)) := fun _ _ _ H _ I h => wpAny_Constant_int ⟨.int i, H, I.tok _, ⟨_, rfl⟩, h⟩
theorem pe_bl {b j pos} : PE X (.Constant (.bool b) j pos) (tC (.bl b)) := fun _ _ _ H _ I h => Constant_bool ⟨.bl b, H, I, rfl, h⟩
theorem pe_non {j pos} : PE X (.Constant .none j pos) (tC .non) := fun _ _ _ H _ I h => Constant_none ⟨.non, H, I, rfl, h⟩
theorem pe_str {x j pos} : PE X (.Constant (.str x) j pos) (tC (.str x)) := fun _ _ _ H _ I h => Calls.Constant_str ⟨.str x, H, I.tok _, ⟨_, rfl⟩, h⟩

/-- a global name of the def -/
def Gl (X : Cx) (x : Str) : Prop := X.env.kindOf x = some .globalImplicit
theorem ld_glob {E : Value → Shared → Prop} {pins : List (Addr × Obj)} {s : Shared} {σ : St} {H : Hp} {x : Str} {u : Value} {pos : Pos} {Q : Value → Shared → Prop} (I : Inv X pins σ H s) (hg : Gl X x) (hm : X.mg x = some u) (h : Q u s)
    (hd : (x == ("__debug__" : Str)) = false := by decide) : wpAny (model X.prog X.w) X.A (eval (.Name x pos) X.env) Q E s :=
  Calls.Name_function_global I.ok.kind hg (Calls.loadGlobal_global (by rw [I.ok.glob]; exact I.mod.glob.keeps I.bk) hm h) hd
theorem ld_blt {E : Value → Shared → Prop} {pins : List (Addr × Obj)} {s : Shared} {σ : St} {H : Hp} {x : Str} {u : Value} {pos : Pos} {Q : Value → Shared → Prop} (I : Inv X pins σ H s) (hg : Gl X x) (hm : X.mg x = none) (hv : bootBuiltins x = some u) (h : Q u s)
    (hn : x ≠ "__name__" := by decide) (hd : (x == ("__debug__" : Str)) = false := by decide) : wpAny (model X.prog X.w) X.A (eval (.Name x pos) X.env) Q E s := by
  obtain ⟨mb, h1, h2⟩ := I.mod.blt
  exact Calls.Name_function_global I.ok.kind hg (Calls.loadGlobal_builtin (by rw [I.ok.glob]; exact I.mod.glob.keeps I.bk) hm (by rw [I.ok.blt]; exact h1.keeps I.bk) ((h2 x hn).trans hv) h) hd
/-- a module's constant, a class, a function, as a value -/
theorem pe_glob {x : Str} {v : V} {u : Value} {pos : Pos} (hg : Gl X x) (hm : X.mg x = some u) (r : RelV v u) (hd : (x == ("__debug__" : Str)) = false := by decide) : PE X (.Name x pos) (tC v) :=
  fun _ _ _ H _ I h => ld_glob I hg hm ⟨v, H, I, r, h⟩ hd
theorem pe_bltn {x : Str} {v : V} {u : Value} {pos : Pos} (hg : Gl X x) (hm : X.mg x = none) (hv : bootBuiltins x = some u) (r : RelV v u) (hn : x ≠ "__name__" := by decide) (hd : (x == ("__debug__" : Str)) = false := by decide) : PE X (.Name x pos) (tC v) :=
  fun _ _ _ H _ I h => ld_blt I hg hm hv ⟨v, H, I, r, h⟩ hn hd

/-! ### arithmetic -/
/-- two ints -/
def t2I (ta tb : TE) (k : Int → Int → Hp → Prop) : St → Hp → Prop := fun σ H => ta σ H fun x H1 => tb σ H1 fun y H2 => ∃ i j, x = .int i ∧ y = .int j ∧ k i j H2
def tAdd (ta tb : TE) : TE := fun σ H Q => t2I ta tb (fun i j H2 => Q (.int (i + j)) H2) σ H
def tSub (ta tb : TE) : TE := fun σ H Q => t2I ta tb (fun i j H2 => Q (.int (i - j)) H2) σ H
/-- the left factor below 2^64 -/
def tMul (ta tb : TE) : TE := fun σ H Q => t2I ta tb (fun i j H2 => (-(2 ^ 64) < i ∧ i < 2 ^ 64) ∧ Q (.int (i * j)) H2) σ H
variable {a b : Expr} {ta tb : TE} {pos : Pos}
/-! ### comparisons -/
def PC (X : Cx) (op : CmpOp) (a b : Expr) (t : TE) : Prop :=
  ∀ (pins : List (Addr × Obj)) (s : Shared) (σ : St) (H : Hp) (Q : VK), Inv X pins σ H s → t σ H Q →
    wpAny (model X.prog X.w) X.A (eval a X.env) (fun v s₁ => wpAny (model X.prog X.w) X.A (eval b X.env) (fun u s₂ => wpAny (model X.prog X.w) X.A (compareOp op v u) (EP X pins σ Q) X.xe s₂) X.xe s₁) X.xe s
def tCmp (p : Int → Int → Bool) (ta tb : TE) : TE := fun σ H Q => t2I ta tb (fun i j H2 => Q (.bl (p i j)) H2) σ H
abbrev tLt : TE → TE → TE := tCmp fun i j => decide (i < j)
abbrev tLe : TE → TE → TE := tCmp fun i j => decide (i ≤ j)
abbrev tGt : TE → TE → TE := tCmp fun i j => decide (j < i)
abbrev tGe : TE → TE → TE := tCmp fun i j => decide (j ≤ i)
abbrev tEqI : TE → TE → TE := tCmp fun i j => decide (i = j)
abbrev tNeI : TE → TE → TE := tCmp fun i j => !decide (i = j)
/-- is None -/
def tIsN (ta : TE) : TE := fun σ H Q => ta σ H fun x H1 => Q (.bl (decide (x = .non))) H1
def tNotN (ta : TE) : TE := fun σ H Q => ta σ H fun x H1 => Q (.bl (!decide (x = .non))) H1
/-- a comparison as a value, as a test -/
def tB (t : TE) : TT := fun σ H Q => t σ H fun x H1 => ∃ c, x = .bl c ∧ Q c H1
/-- an expression whose value is a bool, as a test -/
theorem pt_val {e : Expr} {t : TE} (h : PE X e t) (he : ∀ whole, isTrue e X.env whole = (do let v ← whole; standAt e.pos; holding [v] (truthy v)) := by intro _; rfl) : PT X e (tB t) := by
  intro pins s σ H Q I hw
  refine isTrue_plain (thn (h pins s σ H _ I hw) fun v s1 ⟨x, H1, I1, r1, q1⟩ => ?_) (he _)
  obtain ⟨d, rfl, q⟩ := q1
  cases r1
  exact wpAny_truthy_bool ⟨H1, I1, q⟩

/-! ### and, or, not -/
variable {tA tB' : TT} {rest : List Expr}
def tAnd (t u : TT) : TT := fun σ H Q => t σ H fun c H1 => if c = true then u σ H1 Q else Q false H1
def tOr (t u : TT) : TT := fun σ H Q => t σ H fun c H1 => if c = true then Q true H1 else u σ H1 Q
def tNot (t : TT) : TT := fun σ H Q => t σ H fun c H1 => Q (!c) H1
theorem pw_and1 (ha : PT X a tA) : PW X (.BoolOp .And [a] pos) tA := by
  intro wh pins s σ H Q I h
  refine isTrue_and (thn (ha pins s σ H Q I h) fun c s1 e => ?_)
  cases c with
  | true => exact isTrue_and_nil e
  | false => exact e
theorem pw_or1 (ha : PT X a tA) : PW X (.BoolOp .Or [a] pos) tA := by
  intro wh pins s σ H Q I h
  refine isTrue_or (thn (ha pins s σ H Q I h) fun c s1 e => ?_)
  cases c with
  | false => exact isTrue_or_nil e
  | true => exact e
theorem pw_and (ha : PT X a tA) (hb : PW X (.BoolOp .And (b :: rest) pos) tB') : PW X (.BoolOp .And (a :: b :: rest) pos) (tAnd tA tB') := by
  intro wh pins s σ H Q I h
  refine isTrue_and (thn (ha pins s σ H _ I h) fun c s1 ⟨H1, I1, q1⟩ => ?_)
  cases c with
  | true => exact hb wh pins s1 σ H1 Q I1 q1
  | false => exact ⟨H1, I1, q1⟩
theorem pw_or (ha : PT X a tA) (hb : PW X (.BoolOp .Or (b :: rest) pos) tB') : PW X (.BoolOp .Or (a :: b :: rest) pos) (tOr tA tB') := by
  intro wh pins s σ H Q I h
  refine isTrue_or (thn (ha pins s σ H _ I h) fun c s1 ⟨H1, I1, q1⟩ => ?_)
  cases c with
  | true => exact ⟨H1, I1, q1⟩
  | false => exact hb wh pins s1 σ H1 Q I1 q1
theorem pt_not (ha : PT X a tA) : PT X (.UnaryOp .Not a pos) (tNot tA) := by
  intro pins s σ H Q I h
  exact isTrue_not (ha pins s σ H (fun c H1 => Q (!c) H1) I h)
/-- .. as values (bools) -/
def tAndV (ta tb : TE) : TE := fun σ H Q => ta σ H fun x H1 => ∃ c, x = .bl c ∧ if c = true then tb σ H1 Q else Q (.bl false) H1
def tOrV (ta tb : TE) : TE := fun σ H Q => ta σ H fun x H1 => ∃ c, x = .bl c ∧ if c = true then Q (.bl true) H1 else tb σ H1 Q
def tNotV (ta : TE) : TE := fun σ H Q => ta σ H fun x H1 => ∃ c, x = .bl c ∧ Q (.bl (!c)) H1
theorem pe_one {op} {t : TE} (h : PE X a t) : PE X (.BoolOp op [a] pos) t := fun pins s σ H Q I hw => BoolOp_one (h pins s σ H Q I hw)
theorem pe_and (ha : PE X a ta) (hb : PE X (.BoolOp .And (b :: rest) pos) tb) : PE X (.BoolOp .And (a :: b :: rest) pos) (tAndV ta tb) := by
  intro pins s σ H Q I h
  refine BoolOp_and (thn (ha pins s σ H _ I h) fun v s1 ⟨x, H1, I1, r1, q1⟩ => ?_)
  obtain ⟨c, rfl, q1⟩ := q1
  cases r1
  refine wpAny_truthy_bool ?_
  cases c with
  | true => exact hb pins s1 σ H1 Q I1 q1
  | false => exact ⟨.bl false, H1, I1, rfl, q1⟩
theorem pe_or (ha : PE X a ta) (hb : PE X (.BoolOp .Or (b :: rest) pos) tb) : PE X (.BoolOp .Or (a :: b :: rest) pos) (tOrV ta tb) := by
  intro pins s σ H Q I h
  refine BoolOp_or (thn (ha pins s σ H _ I h) fun v s1 ⟨x, H1, I1, r1, q1⟩ => ?_)
  obtain ⟨c, rfl, q1⟩ := q1
  cases r1
  refine wpAny_truthy_bool ?_
  cases c with
  | false => exact hb pins s1 σ H1 Q I1 q1
  | true => exact ⟨.bl true, H1, I1, rfl, q1⟩
theorem pe_not (ha : PE X a ta) : PE X (.UnaryOp .Not a pos) (tNotV ta) := by
  intro pins s σ H Q I h
  refine UnaryOp_ (thn (ha pins s σ H _ I h) fun v s1 ⟨x, H1, I1, r1, q1⟩ => ?_)
  obtain ⟨c, rfl, q1⟩ := q1
  cases r1
  exact not_of (wpAny_truthy_bool ⟨.bl (!c), H1, I1, rfl, q1⟩)
/-- a if t else b -/
def tIf (t : TT) (ta tb : TE) : TE := fun σ H Q => t σ H fun c H1 => if c = true then ta σ H1 Q else tb σ H1 Q
theorem pe_ifExp {c : Expr} (hc : PT X c tA) (ha : PE X a ta) (hb : PE X b tb) : PE X (.IfExp c a b pos) (tIf tA ta tb) := by
  intro pins s σ H Q I h
  refine wpAny_IfExp (thn (hc pins s σ H _ I h) fun d s1 ⟨H1, I1, q1⟩ => ?_)
  cases d with
  | true => exact ha pins s1 σ H1 Q I1 q1
  | false => exact hb pins s1 σ H1 Q I1 q1
end
end L2

namespace L2
open PySem PySem.Spec PyProof.Rows

/-! ### a list, a tuple that is read: tracked, frozen, or an object of the module -/
def SqL (K : PySem.W.Frag) (H : Hp) (a : Addr) (xs : List V) : Prop :=
  Rd H a (.lst xs) ∨
    ∃ (o : Obj) (its : Array Value) (n : Nat), K.lookup a = some o ∧ o.cls = .type "list" ∧ o.dict = none ∧ o.data = .seq its n ∧ its.size ≤ sizeLine ∧ Vals xs its.toList
def SqT (K : PySem.W.Frag) (H : Hp) (a : Addr) (xs : List V) : Prop :=
  Rd H a (.tup xs) ∨
    ∃ (o : Obj) (its : Array Value) (n : Nat), K.lookup a = some o ∧ o.cls = .type "tuple" ∧ o.data = .seq its n ∧ its.size ≤ sizeLine ∧ Vals xs its.toList
def absV : Value → Option V
  | .none => some .non
  | .bool b => some (.bl b)
  | .int i _ => some (.int i)
  | .str x _ => some (.str x)
  | .bytes b _ => some (.byt b)
  | .float b _ => some (.flt b)
  | .ref a => some (.ref a)
  | .type n => some (.ty n)
  | _ => none
theorem RelV.abs {x : V} {u : Value} (r : RelV x u) : absV u = some x := by
  cases x with
  | non => cases r; rfl
  | bl _ => cases r; rfl
  | int _ => obtain ⟨t, rfl⟩ := r; rfl
  | str _ => obtain ⟨t, rfl⟩ := r; rfl
  | byt _ => obtain ⟨t, rfl⟩ := r; rfl
  | flt _ => obtain ⟨t, rfl⟩ := r; rfl
  | ref _ => cases r; rfl
  | ty _ => cases r; rfl
theorem RelV.inj {x y : V} {u : Value} (r : RelV x u) (q : RelV y u) : x = y := Option.some.inj (r.abs.symm.trans q.abs)
theorem Vals.inj : ∀ {xs ys : List V} {us : List Value}, Vals xs us → Vals ys us → xs = ys
  | _, _, _, .nil, .nil => rfl
  | _, _, _, .cons r t, .cons r' t' => by rw [r.inj r', Vals.inj t t']
section
variable {X : Cx} {pins : List (Addr × Obj)} {σ : St} {H : Hp} {s : Shared} {a : Addr} {xs ys : List V}
theorem SqL.of {K : PySem.W.Frag} (h : H a = some (.lst xs)) : SqL K H a xs := .inl (.inl h)
theorem SqT.of {K : PySem.W.Frag} (h : H a = some (.tup xs)) : SqT K H a xs := .inl (.inl h)
theorem Inv.list (I : Inv X pins σ H s) (h : SqL X.K H a xs) : ∃ its : List Value, Vals xs its ∧ PlainL s.heap a its.toArray ∧ xs.length ≤ sizeLine := by
  rcases h with h | ⟨o, its, n, hk, hc, hd, hs, hz, r⟩
  · obtain ⟨z, its, n, r, e⟩ := h.ok I.hok
    exact ⟨its, r, ⟨_, n, e, rfl, rfl, rfl⟩, z⟩
  · refine ⟨its.toList, r, ⟨o, n, I.kIn a o hk, hc, hd, by simpa using hs⟩, ?_⟩
    have e := r.length
    simp only [Array.length_toList] at e
    omega
theorem Inv.tuple (I : Inv X pins σ H s) (h : SqT X.K H a xs) : ∃ its : List Value, Vals xs its ∧ IsTup s.heap a its.toArray ∧ xs.length ≤ sizeLine := by
  rcases h with h | ⟨o, its, n, hk, hc, hs, hz, r⟩
  · obtain ⟨z, its, r, p⟩ := h.ok I.hok
    exact ⟨its, r, p, z⟩
  · refine ⟨its.toList, r, ⟨o, I.kIn a o hk, hc, n, by simpa using hs⟩, ?_⟩
    have e := r.length
    simp only [Array.length_toList] at e
    omega
theorem Inv.list_inj (I : Inv X pins σ H s) (h : SqL X.K H a xs) (h' : SqL X.K H a ys) : xs = ys := by
  obtain ⟨its, r, ⟨o, n, e, _, _, d⟩, _⟩ := I.list h
  obtain ⟨its', r', ⟨o', n', e', _, _, d'⟩, _⟩ := I.list h'
  rw [e] at e'; cases e'
  rw [d] at d'
  injection d' with d1 _
  have : its = its' := by simpa using congrArg Array.toList d1
  subst this
  exact r.inj r'
end

/-! ### another wish about exceptions -/
abbrev Cx.wish (X : Cx) (E : Value → Shared → Prop) : Cx := { X with xe := E }
/-- no exception leaves -/
abbrev Cx.nox (X : Cx) : Cx := X.wish fun _ _ => False
theorem Cx.Ok.wish {X : Cx} (ok : X.Ok) (E : Value → Shared → Prop) : (X.wish E).Ok :=
  ⟨ok.mod, ok.kind, ok.glob, ok.blt, ok.above, ok.inj, ok.has, ok.cab, ok.hd, ok.frames, ok.stk, ok.exf, ok.bs, ok.bsz, ok.noex, ok.exfs, ok.funs, ok.frf⟩
theorem Cx.Ok.unwish {X : Cx} {E : Value → Shared → Prop} (ok : (X.wish E).Ok) : X.Ok :=
  ⟨ok.mod, ok.kind, ok.glob, ok.blt, ok.above, ok.inj, ok.has, ok.cab, ok.hd, ok.frames, ok.stk, ok.exf, ok.bs, ok.bsz, ok.noex, ok.exfs, ok.funs, ok.frf⟩
section
variable {X : Cx} {pins : List (Addr × Obj)} {σ : St} {H : Hp} {s : Shared} {E : Value → Shared → Prop}
theorem Inv.wish (I : Inv X pins σ H s) (E : Value → Shared → Prop) : Inv (X.wish E) pins σ H s := ⟨I.ok.wish E, I.os, I.bare, I.base, I.loc, I.cell, I.free, I.freeC, I.pin, I.hok, I.len⟩
theorem Inv.unwish (I : Inv (X.wish E) pins σ H s) : Inv X pins σ H s := ⟨I.ok.unwish, I.os, I.bare, I.base, I.loc, I.cell, I.free, I.freeC, I.pin, I.hok, I.len⟩
theorem SP.unwish {D : Ends} {f : Flow} {s' : Shared} (h : SP (X.wish E) pins D f s') : SP X pins D f s' := by
  cases f with
  | next => obtain ⟨σ', H', I, q⟩ := h; exact ⟨σ', H', I.unwish, q⟩
  | brk => obtain ⟨σ', H', I, q⟩ := h; exact ⟨σ', H', I.unwish, q⟩
  | cont => obtain ⟨σ', H', I, q⟩ := h; exact ⟨σ', H', I.unwish, q⟩
  | ret u => obtain ⟨v, σ', H', I, r, q⟩ := h; exact ⟨v, σ', H', I.unwish, r, q⟩
theorem PE.nox {e : Expr} {t : TE} (h : PE X.nox e t) : PE X e t := fun pins s σ H Q I hw =>
  wpAny_mono (h pins s σ H Q (I.wish _) hw) (fun _ _ ⟨v, H', I', r, q⟩ => ⟨v, H', I'.unwish, r, q⟩) fun _ _ z => False.elim z
theorem PT.nox {e : Expr} {t : TT} (h : PT X.nox e t) : PT X e t := fun pins s σ H Q I hw =>
  wpAny_mono (h pins s σ H Q (I.wish _) hw) (fun _ _ ⟨H', I', q⟩ => ⟨H', I'.unwish, q⟩) fun _ _ z => False.elim z
theorem PSs.nox {st : List Stmt} {t : TS} (h : PSs X.nox st t) : PSs X st t := fun pins s σ H D I hw =>
  wpAny_mono (h pins s σ H D (I.wish _) hw) (fun _ _ q => q.unwish) fun _ _ z => False.elim z
end

/-! ### blocks and small statements -/
section
variable {X : Cx} {st : Stmt} {rest : List Stmt} {t u : TS} {e : Expr} {te : TE} {pos : Pos}
def tNext : TS := fun D σ H => D.nx σ H
def tSeq (t u : TS) : TS := fun D σ H => t { D with nx := u D } σ H
theorem pss_nil : PSs X [] tNext := fun _ _ σ H _ I h => wpAny_execs_nil ⟨σ, H, I, h⟩
theorem pss_cons (h1 : PS X st t) (h2 : PSs X rest u) : PSs X (st :: rest) (tSeq t u) := by
  intro pins s σ H D I h
  refine wpAny_execs_cons (thn (h1 pins s σ H { D with nx := u D } I h) fun f s1 q => ?_)
  cases f with
  | next =>
    obtain ⟨σ', H', I', q⟩ := q
    exact h2 pins s1 σ' H' D I' q
  | ret v => exact q
  | brk => exact q
  | cont => exact q
theorem pss_one (h1 : PS X st t) : PSs X [st] t := by
  intro pins s σ H D I h
  refine wpAny_execs_cons (thn (h1 pins s σ H D I h) fun f s1 q => ?_)
  cases f with
  | next => exact wpAny_execs_nil q
  | ret v => exact q
  | brk => exact q
  | cont => exact q
def tBreak : TS := fun D σ H => D.bk σ H
def tCont : TS := fun D σ H => D.ct σ H
/-- an expression whose value is dropped -/
def tDrop (te : TE) : TS := fun D σ H => te σ H fun _ H1 => D.nx σ H1
def tRet (te : TE) : TS := fun D σ H => te σ H D.rt
theorem ps_ret (he : PE X e te) : PS X (.Return (some e) pos) (tRet te) := by
  intro pins s σ H D I h
  exact wpAny_Return_some (thn (he pins s σ H _ I h) fun v s1 ⟨x, H1, I1, r1, q1⟩ => ⟨x, σ, H1, I1, r1, q1⟩)
def tRetN : TS := fun D _ H => D.rt .non H
def tIfS (c : TT) (t u : TS) : TS := fun D σ H => c σ H fun b H1 => if b = true then t D σ H1 else u D σ H1
theorem ps_if {c : Expr} {a b : List Stmt} {tc : TT} (hc : PT X c tc) (ha : PSs X a t) (hb : PSs X b u) : PS X (.If c a b pos) (tIfS tc t u) := by
  intro pins s σ H D I h
  refine wpAny_If (thn (hc pins s σ H _ I h) fun d s1 ⟨H1, I1, q1⟩ => ?_)
  cases d with
  | true => exact ha pins s1 σ H1 D I1 q1
  | false => exact hb pins s1 σ H1 D I1 q1
/-- code that the proof never comes to -/
def tNever : TS := fun _ _ _ => False
theorem ps_never : PS X st tNever := fun _ _ _ _ _ _ h => h.elim
end

/-! ### targets -/
abbrev TG := V → St → Hp → (St → Hp → Prop) → Prop
abbrev TGs := List V → St → Hp → (St → Hp → Prop) → Prop
def PG (X : Cx) (target : Expr) (t : TG) : Prop :=
  ∀ (pins : List (Addr × Obj)) (s : Shared) (σ : St) (H : Hp) (v : V) (u : Value) (Q : St → Hp → Prop), Inv X pins σ H s → RelV v u → t v σ H Q →
    wpAny (model X.prog X.w) X.A (assign target X.env u) (fun _ s' => ∃ σ' H', Inv X pins σ' H' s' ∧ Q σ' H') X.xe s
/-- several targets, one after another -/
def PGs (X : Cx) (ts : List Expr) (t : TGs) : Prop :=
  ∀ (pins : List (Addr × Obj)) (s : Shared) (σ : St) (H : Hp) (vs : List V) (us : List Value) (Q : St → Hp → Prop), Inv X pins σ H s → Vals vs us → t vs σ H Q →
    wpAny (model X.prog X.w) X.A (assignInOrder ((assignEach ts X.env).map (·.2)) us) (fun _ s' => ∃ σ' H', Inv X pins σ' H' s' ∧ Q σ' H') X.xe s
/-- o[i] = v, by values -/
abbrev TSet := V → V → V → Hp → (Hp → Prop) → Prop
def PSet (X : Cx) (t : TSet) : Prop :=
  ∀ (pins : List (Addr × Obj)) (s : Shared) (σ : St) (H : Hp) (o i v : V) (ov iv u : Value) (Q : Hp → Prop), Inv X pins σ H s → RelV o ov → RelV i iv → RelV v u → t o i v H Q →
    wpAny (model X.prog X.w) X.A (setItem ov iv u) (fun _ s' => ∃ H', Inv X pins σ H' s' ∧ Q H') X.xe s
/-- a op= b, by values -/
abbrev TIp := V → V → Hp → VK → Prop
def PIp (X : Cx) (op : Operator) (t : TIp) : Prop :=
  ∀ (pins : List (Addr × Obj)) (s : Shared) (σ : St) (H : Hp) (x y : V) (v u : Value) (Q : VK), Inv X pins σ H s → RelV x v → RelV y u → t x y H Q →
    wpAny (model X.prog X.w) X.A (inplaceOp op v u) (EP X pins σ Q) X.xe s
section
variable {X : Cx} {pos : Pos}
def gName (i : Nat) : TG := fun v σ H Q => Q (σ.set i (some v)) H
theorem pg_name {i : Nat} {x : Str} (hN : X.N.Nodup) (hi : X.N[i]? = some x) (hx : Loc X.env.scope x) (hf : X.fn x = true ∨ X.env.scope.names.lookup x = some .local := by first | exact .inl rfl | exact .inr rfl | assumption) : PG X (.Name x pos) (gName i) := by
  intro pins s σ H v u Q I r h
  exact wpAny_assign_Name (store_ok I hN hi hx r (fun s' I' => ⟨_, H, I', h⟩) hf)
def gNil : TGs := fun vs σ H Q => vs = [] ∧ Q σ H
def gCons (t : TG) (u : TGs) : TGs := fun vs σ H Q => ∃ v r, vs = v :: r ∧ t v σ H fun σ' H' => u r σ' H' Q
/-- (a, b, ..) = a tuple of that length -/
def gTup (K : PySem.W.Frag) (n : Nat) (t : TGs) : TG := fun v σ H Q => ∃ a xs, v = .ref a ∧ SqT K H a xs ∧ xs.length = n ∧ t xs σ H Q
/-- o[i] = .. -/
def gSub (to ti : TE) (t : TSet) : TG := fun v σ H Q => to σ H fun o H1 => ti σ H1 fun i H2 => t o i v H2 fun H3 => Q σ H3
/-- target = value -/
def tAsg (te : TE) (g : TG) : TS := fun D σ H => te σ H fun x H1 => g x σ H1 D.nx
/-- name = value -/
theorem ps_set {i : Nat} {x : Str} {e : Expr} {te : TE} {pos' : Pos} (hN : X.N.Nodup) (hi : X.N[i]? = some x) (hx : Loc X.env.scope x) (he : PE X e te) (hs : swapsWith e (some (.Name x pos')) pos.line X.env = pure false := by rfl) (hf : X.fn x = true ∨ X.env.scope.names.lookup x = some .local := by first | exact .inl rfl | exact .inr rfl | assumption) :
    PS X (.Assign [.Name x pos'] e pos) (tAsg te (gName i)) := by
  intro pins s σ H D I h
  refine wpAny_Assign_Name (thn (he pins s σ H _ I h) fun v s1 ⟨y, H1, I1, r1, q1⟩ => ?_) hs
  exact store_ok I1 hN hi hx r1 (fun s2 I2 => ⟨_, H1, I2, q1⟩) hf
/-- a, b = x, y with plain local names: stored from the right; the pair itself is not tracked (the opening rows as in PyProof/Rows/TupAssign.lean:23) -/
def tPar (i j : Nat) (ta : TA) : TS := fun D σ H => ta σ H fun vs H1 => ∃ v w, vs = [v, w] ∧ D.nx ((σ.set i (some v)).set j (some w)) H1
/-- name op= e -/
def tAug (i : Nat) (te : TE) (ti : TIp) : TS := fun D σ H => ∃ x, σ[i]? = some (some x) ∧ te σ H fun y H1 => ti x y H1 fun z H2 => D.nx (σ.set i (some z)) H2
/-- o[i] op= e -/
def tAugS (to ti te : TE) (tget : V → V → Hp → VK → Prop) (tip : TIp) (tset : TSet) : TS := fun D σ H => to σ H fun o H1 => ti σ H1 fun i H2 => tget o i H2 fun x H3 => te σ H3 fun y H4 => tip x y H4 fun z H5 => tset o i z H5 fun H6 => D.nx σ H6
/-- o[i], by values -/
def PGet (X : Cx) (t : V → V → Hp → VK → Prop) : Prop :=
  ∀ (pins : List (Addr × Obj)) (s : Shared) (σ : St) (H : Hp) (o i : V) (ov iv : Value) (Q : VK), Inv X pins σ H s → RelV o ov → RelV i iv → t o i H Q →
    wpAny (model X.prog X.w) X.A (getItem ov iv) (EP X pins σ Q) X.xe s
/-- ints -/
def ipI (f : Int → Int → Int) : TIp := fun x y H Q => ∃ i j, x = .int i ∧ y = .int j ∧ Q (.int (f i j)) H
end

/-! ### while -/
section
variable {X : Cx} {pos : Pos}
/-- the invariant W with its measure -/
def tWhile (c : TT) (tb : TS) : TS := fun D σ H => ∃ W : Nat → St → Hp → Prop, (∃ m, W m σ H) ∧ ∀ m σ H, W m σ H →
  c σ H fun b H1 => if b = true then ∃ N : St → Hp → Prop, (∀ σ' H', N σ' H' → ∃ m', m' < m ∧ W m' σ' H') ∧ tb { D with nx := N, ct := N, bk := D.nx } σ H1 else D.nx σ H1
end

/-! ### what a loop or a comprehension walks -/
/-- at turn i: it yields x (the heap may grow), or it stops -/
structure It where
  go : Nat → Hp → Prop
  yld : Nat → Hp → V → Hp → Prop
  stop : Nat → Hp → Prop
/-- the iterator's own objects may turn: they are not the frame's, not pinned, younger than the entry (or a comprehension's own) -/
def FpOk (X : Cx) (pins : List (Addr × Obj)) (H : Hp) (b : Addr) : Prop :=
  H b = none ∧ b ≠ X.env.locals ∧ b ∉ X.fs ∧ (b ∈ X.ex ∨ X.s₀.heap.objs.size ≤ b) ∧ (∀ x c, X.env.cells.lookup x = some c → c ≠ b) ∧ ∀ p ∈ X.pn ++ pins, p.1 ≠ b
theorem Inv.fpOk {X : Cx} {pins : List (Addr × Obj)} {σ : St} {H H' : Hp} {s : Shared} {b : Addr} (I : Inv X pins σ H s) (hb : s.heap.objs.size ≤ b) (hn : H' b = none) : FpOk X pins H' b := by
  refine ⟨hn, Nat.ne_of_gt (Nat.lt_of_lt_of_le I.lt hb), I.nofs hb, .inr (Nat.le_trans I.sz hb), fun x c e z => ?_, fun p hp z => ?_⟩
  · obtain ⟨v, q⟩ := I.cell x c e
    exact absurd (Nat.lt_of_lt_of_le q.lt (by rw [z]; exact hb)) (Nat.lt_irrefl _)
  · exact absurd (Nat.lt_of_lt_of_le (Heap.lt_size (I.pin p hp).1) (by rw [z]; exact hb)) (Nat.lt_irrefl _)
structure Turn (P : Program) (w : World) (K : PySem.W.Frag) (tg : Expr) (J : It) (fp : List Addr) (it : Addr) (tn : Nat → Heap → Prop) : Prop where
  mem : it ∈ fp
  obj : ∀ i h, tn i h → ∀ b ∈ fp, ∃ o, h.get? b = some o ∧ ∀ v, o.data ≠ .cell v
  keep : ∀ i h h', tn i h → (∀ b ∈ fp, ∀ o, h.get? b = some o → h'.get? b = some o) → tn i h'
  item : ∀ (X : Cx), X.prog = P → X.w = w → X.K = K → X.calm = true → ∀ (i : Nat) (pins : List (Addr × Obj)) (s : Shared) (σ : St) (H : Hp) (E : Value → Shared → Prop), Inv X pins σ H s → (∀ b ∈ fp, FpOk X pins H b) → tn i s.heap → J.go i H →
    wpAny (model P w) X.A (pyNext (.ref it)) (fun r s1 => ∃ u, r = some u ∧
      wpAny (model P w) X.A (letOwnedTupleGo tg (.ref it) u) (fun _ s2 => ∃ x H', Inv X pins σ H' s2 ∧ RelV x u ∧ J.yld i H x H' ∧ tn (i + 1) s2.heap ∧ ∀ b ∈ fp, H' b = none) E s1) E s
  done : ∀ (X : Cx), X.prog = P → X.w = w → X.K = K → X.calm = true → ∀ (i : Nat) (pins : List (Addr × Obj)) (s : Shared) (σ : St) (H : Hp) (E : Value → Shared → Prop), Inv X pins σ H s → (∀ b ∈ fp, FpOk X pins H b) → tn i s.heap → J.stop i H →
    wpAny (model P w) X.A (pyNext (.ref it)) (fun r s1 => r = none ∧ Inv X pins σ H s1) E s
  self : ∀ (A : Around) (i : Nat) (s : Shared) (Q : Value → Shared → Prop) (E : Value → Shared → Prop), tn i s.heap → Q (.ref it) s → wpAny (model P w) A (pyIter (.ref it)) Q E s
abbrev TI := St → Hp → (It → Hp → Prop) → Prop
/-- an iterator has come -/
def PIE (X : Cx) (pins : List (Addr × Obj)) (σ : St) (tg : Expr) (R : It → Hp → Prop) (itv : Value) (s2 : Shared) : Prop :=
  ∃ (it : Addr) (fp : List Addr) (tn : Nat → Heap → Prop) (J : It) (H' : Hp), itv = .ref it ∧ Inv X pins σ H' s2 ∧ Turn X.prog X.w X.K tg J fp it tn ∧ tn 0 s2.heap ∧ (∀ b ∈ fp, FpOk X pins H' b) ∧ R J H'
def PI (X : Cx) (tg iter : Expr) (wi : TI) : Prop :=
  ∀ (pins : List (Addr × Obj)) (s : Shared) (σ : St) (H : Hp) (R : It → Hp → Prop), Inv X pins σ H s → wi σ H R →
    wpAny (model X.prog X.w) X.A (eval iter X.env) (fun v s1 => wpAny (model X.prog X.w) X.A (pyIter v) (PIE X pins σ tg R) X.xe s1) X.xe s

/-- the step ahead of the store is nothing for an iterator that keeps no tuple -/
theorem go_of {M : Model} {A : Around} {E : Value → Shared → Prop} {s : Shared} {tg : Expr} {it : Addr} {u : Value} {o : Obj} {n : String} {vs : Array Value} {Q : Unit → Shared → Prop} (ho : s.heap.get? it = some o) (hc : o.cls = .type n) (hd : o.data = .fields vs)
    (hn : ["enumerate", "zip", "dict_itemiterator", "dict_reverseitemiterator", "odict_iterator", "itertools.zip_longest", "itertools.pairwise"].contains n = false) (hQ : Q () s) : wpAny M A (letOwnedTupleGo tg (.ref it) u) Q E s := by
  unfold letOwnedTupleGo
  cases tg <;> first
    | exact wpAny_pure hQ
    | (cases u <;> first
        | exact wpAny_pure hQ
        | (refine wpAny_bind (wpAny_load ho ?_)
           rw [hc, hd]
           show wpAny M A (if (["enumerate", "zip", "dict_itemiterator", "dict_reverseitemiterator", "odict_iterator", "itertools.zip_longest", "itertools.pairwise"].contains n && vs[0]? == some (rawInt _)) = true then _ else _) Q E s
           rw [if_neg (by intro h; rw [hn, Bool.false_and] at h; cases h)]
           exact wpAny_pure hQ))

/-- the list at a, as it stands at each turn (a loop may append to it) -/
def Itl (K : PySem.W.Frag) (a : Addr) : It :=
  ⟨fun i H => ∃ xs x, SqL K H a xs ∧ xs[i]? = some x, fun i H x H' => H' = H ∧ ∀ xs, SqL K H a xs → xs[i]? = some x, fun i H => ∃ xs, SqL K H a xs ∧ xs.length ≤ i⟩
def Itt (K : PySem.W.Frag) (a : Addr) : It :=
  ⟨fun i H => ∃ xs x, SqT K H a xs ∧ xs[i]? = some x, fun i H x H' => H' = H ∧ ∀ xs, SqT K H a xs → xs[i]? = some x, fun i H => ∃ xs, SqT K H a xs ∧ xs.length ≤ i⟩
/-- lo, lo + 1, .. (n of them) -/
def Itr (lo : Int) (n : Nat) : It := ⟨fun i _ => i < n, fun i H x H' => H' = H ∧ x = .int (lo + i), fun i _ => n ≤ i⟩
theorem turn_list {P : Program} {w : World} {K : PySem.W.Frag} {tg : Expr} (a it : Addr) : Turn P w K tg (Itl K a) [it] it (fun i h => h.IsListIter it a i) where
  mem := by simp
  obj := fun i h st b hb => by
    have e : b = it := by simpa using hb
    subst e
    obtain ⟨o, e, c, d⟩ := st
    exact ⟨o, e, fun v z => by rw [d] at z; cases z⟩
  keep := fun i h h' st k => st.at fun o e => k it (by simp) o e
  item := by
    intro X hP hw hK hc i pins s σ H E I hf st hg
    subst hP hw hK
    obtain ⟨xs, x, hq, hx⟩ := hg
    obtain ⟨its, rv, p, hz⟩ := I.list hq
    obtain ⟨u, hu, ru⟩ := rv.get hx
    obtain ⟨f0, f1, f2, f3, f4, f5⟩ := hf it (by simp)
    refine wpAny_pyNext_list_item st p.isList (x := u) (by simpa using hu) fun h' st' sb => ?_
    have I1 : Inv X pins σ H { s with heap := h' } := I.turned (t' := s.toks) (fun b o hb e => (sb.2 b hb).trans e) f0 f1 f3 f4 f5
    obtain ⟨o, e, c, d⟩ := id st'
    exact ⟨u, rfl, go_of (s := { s with heap := h' }) e c d (by decide) ⟨x, H, I1, ru, ⟨rfl, fun ys hy => by rw [I.list_inj hy hq]; exact hx⟩, st', fun b hb => (hf b hb).1⟩⟩
  done := by
    intro X hP hw hK hc i pins s σ H E I hf st hg
    subst hP hw hK
    obtain ⟨xs, hq, hx⟩ := hg
    obtain ⟨its, rv, p, hz⟩ := I.list hq
    obtain ⟨f0, f1, f2, f3, f4, f5⟩ := hf it (by simp)
    have hl := rv.length
    exact wpAny_pyNext_list_end (I.ok.hd hc) st p.isList (by simp; omega) fun h' eb => ⟨rfl, I.turned (t' := s.toks) (fun b o hb e => eb b o hb e) f0 f1 f3 f4 f5⟩
  self := fun _ _ _ _ _ st h => wpAny_pyIter_listiter st h
end L2

namespace L2
open PySem PySem.Spec PyProof.Rows
section
variable {X : Cx} {tg : Expr}
def iList (K : PySem.W.Frag) (tl : TE) : TI := fun σ H R => tl σ H fun x H1 => ∃ a, x = .ref a ∧ (∃ xs, SqL K H1 a xs) ∧ R (Itl K a) H1
def iTup (K : PySem.W.Frag) (tl : TE) : TI := fun σ H R => tl σ H fun x H1 => ∃ a, x = .ref a ∧ (∃ xs, SqT K H1 a xs) ∧ R (Itt K a) H1
theorem pi_list {l : Expr} {tl : TE} (hl : PE X l tl) : PI X tg l (iList X.K tl) := by
  intro pins s σ H R I h
  refine thn (hl pins s σ H _ I h) fun v s1 ⟨x, H1, I1, r1, q1⟩ => ?_
  obtain ⟨a, e, ⟨xs, hq⟩, q⟩ := q1
  subst e
  cases r1
  obtain ⟨its, rv, p, hz⟩ := I1.list hq
  refine wpAny_pyIter_list p.isList ?_
  refine ⟨s1.heap.objs.size, [s1.heap.objs.size], _, _, H1, rfl, I1.kept (t' := s1.toks) fun b o e => Heap.get?_push_of_some _ e, turn_list a _, ⟨_, Heap.get?_push_size _ rfl, rfl, rfl⟩, fun b hb => ?_, q⟩
  have e : b = s1.heap.objs.size := by simpa using hb
  subst e
  exact I1.fpOk (Nat.le_refl _) (I1.hok.fresh (Nat.le_refl _))
def iRng1 (ta : TA) : TI := fun σ H R => ta σ H fun vs H1 => ∃ j : Int, vs = [.int j] ∧ -(2 ^ 62) ≤ j ∧ j < 2 ^ 62 ∧ R (Itr 0 j.toNat) H1
def iRng2 (ta : TA) : TI := fun σ H R => ta σ H fun vs H1 => ∃ i j : Int, vs = [.int i, .int j] ∧ (-(2 ^ 62) ≤ i ∧ i < 2 ^ 62 ∧ -(2 ^ 62) ≤ j ∧ j < 2 ^ 62) ∧ R (Itr i (j - i).toNat) H1
/-! ### for -/
/-- W: the invariant by the turn and a measure; N: what the body is to reach -/
def tFor (wi : TI) (g : TG) (tb : TS) : TS := fun D σ H => wi σ H fun J H1 => ∃ W : Nat → Nat → St → Hp → Prop, (∃ m, W 0 m σ H1) ∧ ∀ i m σ H, W i m σ H →
  (J.stop i H ∧ D.nx σ H) ∨ (J.go i H ∧ ∃ N : St → Hp → Prop, (∀ σ' H', N σ' H' → ∃ m', m' < m ∧ W (i + 1) m' σ' H') ∧ ∀ x H', J.yld i H x H' → g x σ H' fun σ2 H2 => tb { D with nx := N, ct := N, bk := D.nx } σ2 H2)
/-- the records at fp as they stand -/
def pinsAt (fp : List Addr) (h : Heap) : List (Addr × Obj) := fp.filterMap fun b => (h.get? b).map fun o => (b, o)
theorem mem_pinsAt {fp : List Addr} {h : Heap} {b : Addr} {o : Obj} (hb : b ∈ fp) (e : h.get? b = some o) : (b, o) ∈ pinsAt fp h := List.mem_filterMap.mpr ⟨b, hb, by rw [e]; rfl⟩
theorem of_pinsAt {fp : List Addr} {h : Heap} {p : Addr × Obj} (hp : p ∈ pinsAt fp h) : p.1 ∈ fp ∧ h.get? p.1 = some p.2 := by
  obtain ⟨b, hb, e⟩ := List.mem_filterMap.mp hp
  cases q : h.get? b with
  | none => rw [q] at e; cases e
  | some o =>
    rw [q] at e
    have e' : (b, o) = p := Option.some.inj e
    subst e'
    exact ⟨hb, q⟩
theorem Inv.pinned {pins : List (Addr × Obj)} {σ : St} {H : Hp} {s : Shared} {fp : List Addr} (I : Inv X pins σ H s) (hf : ∀ b ∈ fp, FpOk X pins H b) (ho : ∀ b ∈ fp, ∃ o, s.heap.get? b = some o ∧ ∀ v, o.data ≠ .cell v) : Inv X (pins ++ pinsAt fp s.heap) σ H s :=
  I.pins_of fun p hp => (List.mem_append.mp hp).elim (fun z => I.pin p (List.mem_append_right _ z)) fun z => by
    obtain ⟨hb, e⟩ := of_pinsAt z
    obtain ⟨f0, f1, f2, _⟩ := hf p.1 hb
    obtain ⟨o, e', d⟩ := ho p.1 hb
    rw [e] at e'; cases e'
    exact ⟨e, f0, f1, f2, d⟩
theorem Inv.unpinned {pins pl : List (Addr × Obj)} {σ : St} {H : Hp} {s : Shared} (I : Inv X (pins ++ pl) σ H s) : Inv X pins σ H s := I.pins_of fun p hp => I.pin p (List.mem_append_right _ (List.mem_append_left _ hp))
theorem ps_for {iter : Expr} {body : List Stmt} {wi : TI} {g : TG} {tb : TS} {pos : Pos} (hp : PassesOwn (model X.prog X.w) X.A X.env X.xe) (hc : X.calm = true) (hi : PI X tg iter wi) (hg : PG X tg g) (hb : PSs X body tb)
    (hs : ∀ x, foldedSetIterable iter X.env x = pure x := by intro _; rfl) : PS X (.For tg iter body [] pos) (tFor wi g tb) := by
  intro pins s σ H D I h
  refine wpAny_For (thn (hi pins s σ H _ I h) fun v s1 h1 => thn h1 fun itv s2 h2 => ?_) hs
  obtain ⟨it, fp, tn, J, H2, e, I2, T, st2, f2, W, ⟨m0, w0⟩, turn⟩ := h2
  subst e
  -- what stays true of the iterator's objects through the loop
  have stat : ∀ {H' : Hp}, (∀ b ∈ fp, H' b = none) → ∀ b ∈ fp, FpOk X pins H' b := fun hn b hb => ⟨hn b hb, (f2 b hb).2⟩
  refine codeAny_forLoop_any (fun n s' => ∃ i σ' H', Inv X pins σ' H' s' ∧ tn i s'.heap ∧ (∀ b ∈ fp, H' b = none) ∧ W i n σ' H') ?_ m0 ⟨0, σ, H2, I2, st2, fun b hb => (f2 b hb).1, w0⟩
  rintro n s3 ⟨i, σ3, H3, I3, st3, fr3, w3⟩
  rcases turn i n σ3 H3 w3 with ⟨stop, qn⟩ | ⟨go, N, hN, step⟩
  · refine wpAny_passesOwn hp (thn (T.done X rfl rfl rfl hc i pins s3 σ3 H3 X.xe I3 (stat fr3) st3 stop) fun r s4 ⟨hr, I4⟩ => ?_)
    subst hr
    exact wpAny_execs_nil ⟨σ3, H3, I4, qn⟩
  · refine wpAny_passesOwn hp (thn (T.item X rfl rfl rfl hc i pins s3 σ3 H3 X.xe I3 (stat fr3) st3 go) fun r s4 ⟨u, hr, h4⟩ => ?_)
    subst hr
    refine wpAny_passesOwn hp (thn h4 fun _ s5 ⟨x, H5, I5, r5, y5, st5, fr5⟩ => ?_)
    have I5' := I5.pinned (stat fr5) (T.obj _ _ st5)
    refine wpAny_passesOwn hp (thn (hg _ s5 σ3 H5 x u _ I5' r5 (step x H5 y5)) fun _ s6 ⟨σ6, H6, I6, q6⟩ => ?_)
    refine wpAny_passesOwn hp (thn (hb _ s6 σ6 H6 _ I6 q6) fun f s7 q7 => ?_)
    have again : ∀ {σ7 : St} {H7 : Hp}, Inv X (pins ++ pinsAt fp s5.heap) σ7 H7 s7 → N σ7 H7 → ∃ m, m < n ∧ ∃ i σ' H', Inv X pins σ' H' s7 ∧ tn i s7.heap ∧ (∀ b ∈ fp, H' b = none) ∧ W i m σ' H' := fun {σ7 H7} I7 n7 => by
      obtain ⟨m', hm, w7⟩ := hN σ7 H7 n7
      refine ⟨m', hm, i + 1, σ7, H7, I7.unpinned, T.keep _ _ _ st5 fun b hb o e => (I7.pin (b, o) (List.mem_append_right _ (List.mem_append_right _ (mem_pinsAt hb e)))).1, fun b hb => ?_, w7⟩
      obtain ⟨o, e, d⟩ := T.obj _ _ st5 b hb
      exact (I7.pin (b, o) (List.mem_append_right _ (List.mem_append_right _ (mem_pinsAt hb e)))).2.1
    cases f with
    | next => obtain ⟨σ7, H7, I7, n7⟩ := q7; exact again I7 n7
    | cont => obtain ⟨σ7, H7, I7, n7⟩ := q7; exact again I7 n7
    | brk => obtain ⟨σ7, H7, I7, q7⟩ := q7; exact ⟨σ7, H7, I7.unpinned, q7⟩
    | ret v => obtain ⟨x7, σ7, H7, I7, r7, q7⟩ := q7; exact ⟨x7, σ7, H7, I7.unpinned, r7, q7⟩
end

/-! ### the forms one uses -/
/-- over a list that the body leaves as it is -/
theorem for_list {K : PySem.W.Frag} {a : Addr} {xs : List V} {g : TG} {tb : TS} {D : Ends} {σ : St} {H : Hp} (Pv : Nat → St → Hp → Prop) (h0 : Pv 0 σ H) (hl : ∀ i σ H, i ≤ xs.length → Pv i σ H → SqL K H a xs)
    (hs : ∀ i x σ H, xs[i]? = some x → Pv i σ H → g x σ H fun σ2 H2 => tb { D with nx := Pv (i + 1), ct := Pv (i + 1), bk := D.nx } σ2 H2) (hd : ∀ σ H, Pv xs.length σ H → D.nx σ H) :
    ∃ W : Nat → Nat → St → Hp → Prop, (∃ m, W 0 m σ H) ∧ ∀ i m σ H, W i m σ H →
      ((Itl K a).stop i H ∧ D.nx σ H) ∨ ((Itl K a).go i H ∧ ∃ N : St → Hp → Prop, (∀ σ' H', N σ' H' → ∃ m', m' < m ∧ W (i + 1) m' σ' H') ∧ ∀ x H', (Itl K a).yld i H x H' → g x σ H' fun σ2 H2 => tb { D with nx := N, ct := N, bk := D.nx } σ2 H2) := by
  refine ⟨fun i m σ H => m = xs.length - i ∧ i ≤ xs.length ∧ Pv i σ H, ⟨xs.length, by simp, Nat.zero_le _, h0⟩, ?_⟩
  rintro i m σ H ⟨rfl, hi, p⟩
  have q := hl i σ H hi p
  by_cases hlt : i < xs.length
  · refine .inr ⟨⟨xs, xs[i], q, by simp [hlt]⟩, Pv (i + 1), fun σ' H' p' => ⟨xs.length - (i + 1), by omega, rfl, hlt, p'⟩, fun x H' y => ?_⟩
    obtain ⟨e, y⟩ := y
    subst e
    exact hs i x σ _ (y xs q) p
  · have e : i = xs.length := by omega
    subst e
    exact .inl ⟨⟨xs, q, Nat.le_refl _⟩, hd σ H p⟩
end L2

namespace L2
open PySem PySem.Spec PyProof.Rows

abbrev R2 := V → V → Hp → VK → Prop
/-- a two-place operation on values: f is binaryOp op, inplaceOp op or compareOp op -/
def OpR (X : Cx) (f : Value → Value → Sem Value) (r : R2) : Prop :=
  ∀ (pins : List (Addr × Obj)) (s : Shared) (σ : St) (H : Hp) (x y : V) (v u : Value) (Q : VK), Inv X pins σ H s → RelV x v → RelV y u → r x y H Q →
    wpAny (model X.prog X.w) X.A (f v u) (EP X pins σ Q) X.xe s
/-- a one-place operation -/
def UnR (X : Cx) (f : Value → Sem Value) (r : V → Hp → VK → Prop) : Prop :=
  ∀ (pins : List (Addr × Obj)) (s : Shared) (σ : St) (H : Hp) (x : V) (v : Value) (Q : VK), Inv X pins σ H s → RelV x v → r x H Q →
    wpAny (model X.prog X.w) X.A (f v) (EP X pins σ Q) X.xe s
/-- a call of a value that is known (a builtin, a type) with values -/
def CallR (X : Cx) (f : Value) (r : List V → Hp → VK → Prop) : Prop :=
  ∀ (pins : List (Addr × Obj)) (s : Shared) (σ : St) (H : Hp) (xs : List V) (us : List Value) (Q : VK), Inv X pins σ H s → Vals xs us → r xs H Q →
    wpAny (model X.prog X.w) X.A (call f us) (EP X pins σ Q) X.xe s
/-- a value's truth -/
def TruR (X : Cx) (r : V → Hp → (Bool → Hp → Prop) → Prop) : Prop :=
  ∀ (pins : List (Addr × Obj)) (s : Shared) (σ : St) (H : Hp) (x : V) (v : Value) (Q : Bool → Hp → Prop), Inv X pins σ H s → RelV x v → r x H Q →
    wpAny (model X.prog X.w) X.A (truthy v) (TP X pins σ Q) X.xe s

def tOp (r : R2) (ta tb : TE) : TE := fun σ H Q => ta σ H fun x H1 => tb σ H1 fun y H2 => r x y H2 Q
def tUn (r : V → Hp → VK → Prop) (ta : TE) : TE := fun σ H Q => ta σ H fun x H1 => r x H1 Q
/-- ints in, under C, and a value out -/
def rI (C : Int → Int → Prop) (g : Int → Int → V) : R2 := fun x y H Q => ∃ i j, x = .int i ∧ y = .int j ∧ C i j ∧ Q (g i j) H
def rI0 (g : Int → Int → V) : R2 := fun x y H Q => ∃ i j, x = .int i ∧ y = .int j ∧ Q (g i j) H
def rU (g : Int → V) : V → Hp → VK → Prop := fun x H Q => ∃ i, x = .int i ∧ Q (g i) H

section
variable {X : Cx} {a b c : Expr} {ta tb tc : TE} {pos : Pos}

theorem binT (ha : PE X a ta) (hb : PE X b tb) {pins : List (Addr × Obj)} {s : Shared} {σ : St} {H : Hp} {R : V → V → Hp → Prop} (I : Inv X pins σ H s)
    (h : ta σ H fun x H1 => tb σ H1 fun y H2 => R x y H2) {Q : Value → Shared → Prop} {f : Value → Value → Sem Value}
    (hf : ∀ v u s2 x y H2, Inv X pins σ H2 s2 → RelV x v → RelV y u → R x y H2 → wpAny (model X.prog X.w) X.A (f v u) Q X.xe s2) :
    wpAny (model X.prog X.w) X.A (eval a X.env) (fun v s₁ => wpAny (model X.prog X.w) X.A (eval b X.env) (fun u s₂ => wpAny (model X.prog X.w) X.A (f v u) Q X.xe s₂) X.xe s₁) X.xe s := by
  refine thn (ha pins s σ H _ I h) fun v s1 ⟨x, H1, I1, r1, q1⟩ => ?_
  refine thn (hb pins s1 σ H1 _ I1 q1) fun u s2 ⟨y, H2, I2, r2, q2⟩ => ?_
  exact hf v u s2 x y H2 I2 r1 r2 q2

theorem pe_op {op : Operator} {r : R2} (ho : OpR X (binaryOp op) r) (ha : PE X a ta) (hb : PE X b tb) : PE X (.BinOp a op b pos) (tOp r ta tb) := by
  intro pins s σ H Q I h
  exact wpAny_BinOp (binT ha hb I h fun v u s2 x y H2 I2 rx ry q => ho pins s2 σ H2 x y v u Q I2 rx ry q)
theorem pe_un {op : UnaryOp} {r : V → Hp → VK → Prop} (ho : UnR X (unaryOp op) r) (ha : PE X a ta) : PE X (.UnaryOp op a pos) (tUn r ta) := by
  intro pins s σ H Q I h
  exact UnaryOp_ (thn (ha pins s σ H _ I h) fun v s1 ⟨x, H1, I1, r1, q1⟩ => ho pins s1 σ H1 x v Q I1 r1 q1)
/-! ### ints -/
theorem opI {f : Value → Value → Sem Value} {C : Int → Int → Prop} {g : Int → Int → Int}
    (rule : ∀ (i j : Int) (t u : Tok) (s : Shared) (Q : Value → Shared → Prop) (E : Value → Shared → Prop), C i j → Q (.int (g i j) s.toks) { s with toks := s.toks + 1 } → wpAny (model X.prog X.w) X.A (f (.int i t) (.int j u)) Q E s) :
    OpR X f (rI C fun i j => .int (g i j)) := by
  intro pins s σ H x y v u Q I rx ry h
  obtain ⟨i, j, rfl, rfl, hc, q⟩ := h
  obtain ⟨t, rfl⟩ := rx
  obtain ⟨t', rfl⟩ := ry
  exact rule i j t t' s _ _ hc ⟨.int (g i j), H, I.tok _, ⟨_, rfl⟩, q⟩
theorem opI0 {f : Value → Value → Sem Value} {g : Int → Int → Int}
    (rule : ∀ (i j : Int) (t u : Tok) (s : Shared) (Q : Value → Shared → Prop) (E : Value → Shared → Prop), Q (.int (g i j) s.toks) { s with toks := s.toks + 1 } → wpAny (model X.prog X.w) X.A (f (.int i t) (.int j u)) Q E s) :
    OpR X f (rI0 fun i j => .int (g i j)) := by
  intro pins s σ H x y v u Q I rx ry h
  obtain ⟨i, j, rfl, rfl, q⟩ := h
  obtain ⟨t, rfl⟩ := rx
  obtain ⟨t', rfl⟩ := ry
  exact rule i j t t' s _ _ ⟨.int (g i j), H, I.tok _, ⟨_, rfl⟩, q⟩
theorem opB0 {f : Value → Value → Sem Value} {g : Int → Int → Bool}
    (rule : ∀ (i j : Int) (t u : Tok) (s : Shared) (Q : Value → Shared → Prop) (E : Value → Shared → Prop), Q (.bool (g i j)) s → wpAny (model X.prog X.w) X.A (f (.int i t) (.int j u)) Q E s) :
    OpR X f (rI0 fun i j => .bl (g i j)) := by
  intro pins s σ H x y v u Q I rx ry h
  obtain ⟨i, j, rfl, rfl, q⟩ := h
  obtain ⟨t, rfl⟩ := rx
  obtain ⟨t', rfl⟩ := ry
  exact rule i j t t' s _ _ ⟨.bl (g i j), H, I, rfl, q⟩

def CDiv (i j : Int) : Prop := 0 < j ∧ j < 1073741824
def CDivN (i j : Int) : Prop := j ≠ 0 ∧ j.natAbs < 1073741824
def CPow (i j : Int) : Prop := 0 ≤ j ∧ j ≤ 1000000 ∧ i.natAbs < 2 ^ 64
def CMul (i j : Int) : Prop := (-(2 ^ 64) < i ∧ i < 2 ^ 64) ∨ (-(2 ^ 64) < j ∧ j < 2 ^ 64)
theorem CMul.ok {i j : Int} (h : CMul i j) : IntMulOk i j := by
  rcases h with ⟨h1, h2⟩ | ⟨h1, h2⟩
  · exact .of_left (intBits_le_64 h1 h2)
  · exact .of_right (intBits_le_64 h1 h2)
theorem op_add : OpR X (binaryOp .Add) (rI0 fun i j => .int (i + j)) := opI0 fun _ _ _ _ _ _ _ q => add_int q
theorem op_sub : OpR X (binaryOp .Sub) (rI0 fun i j => .int (i - j)) := opI0 fun _ _ _ _ _ _ _ q => sub_int q
theorem op_modN : OpR X (binaryOp .Mod) (rI (fun _ j => j ≠ 0) fun i j => .int (i.fmod j)) := opI fun _ _ _ _ _ _ _ hc q => mod_int' hc q
theorem op_pow : OpR X (binaryOp .Pow) (rI CPow fun i j => .int (i ^ j.toNat)) := opI fun _ _ _ _ _ _ _ hc q => pow_int_small hc.1 hc.2.1 hc.2.2 q
theorem unI {f : Value → Sem Value} {g : Int → Int}
    (rule : ∀ (i : Int) (t : Tok) (s : Shared) (Q : Value → Shared → Prop) (E : Value → Shared → Prop), Q (.int (g i) s.toks) { s with toks := s.toks + 1 } → wpAny (model X.prog X.w) X.A (f (.int i t)) Q E s) :
    UnR X f (rU fun i => .int (g i)) := by
  intro pins s σ H x v Q I rx h
  obtain ⟨i, rfl, q⟩ := h
  obtain ⟨t, rfl⟩ := rx
  exact rule i t s _ _ ⟨.int (g i), H, I.tok _, ⟨_, rfl⟩, q⟩
theorem un_neg : UnR X (unaryOp .USub) (rU fun i => .int (-i)) := unI fun _ _ _ _ _ q => neg_int q
/-! ### bools among ints: n += (a < b) -/
end

/-! ### comparisons -/
/-- the scalars that == tells apart as data does -/
def scal : V → V → Bool
  | .non, .non => true | .non, .int _ => true | .int _, .non => true | .non, .bl _ => true | .bl _, .non => true | .non, .str _ => true | .str _, .non => true
  | .int _, .int _ => true | .bl _, .bl _ => true | .str _, .str _ => true | .byt _, .byt _ => true
  | .int _, .str _ => true | .str _, .int _ => true | .bl _, .str _ => true | .str _, .bl _ => true
  | _, _ => false
def rEq : R2 := fun x y H Q => scal x y = true ∧ Q (.bl (decide (x = y))) H
def rNe : R2 := fun x y H Q => scal x y = true ∧ Q (.bl (!decide (x = y))) H

theorem dec_int {i j : Int} : decide (V.int i = V.int j) = (i == j) := by
  rw [Bool.eq_iff_iff]
  simp
theorem dec_bl {i j : Bool} : decide (V.bl i = V.bl j) = (i == j) := by
  rw [Bool.eq_iff_iff]
  simp
theorem dec_str {i j : Str} : decide (V.str i = V.str j) = (i == j) := by
  rw [Bool.eq_iff_iff]
  simp
theorem dec_byt {i j : Array UInt8} : decide (V.byt i = V.byt j) = (i.toList == j.toList) := by
  rw [Bool.eq_iff_iff]
  cases i
  cases j
  simp

section
variable {X : Cx} {a b c : Expr} {ta tb tc : TE} {pos : Pos}
theorem fin_bl {pins : List (Addr × Obj)} {σ : St} {H : Hp} {s : Shared} {Q : VK} {k k' : Bool} (I : Inv X pins σ H s) (q : Q (.bl k) H) (e : k = k') : EP X pins σ Q (.bool k') s := by
  subst e
  exact ⟨.bl k, H, I, rfl, q⟩
theorem op_eq : OpR X (compareOp .Eq) rEq := by
  intro pins s σ H x y v u Q I rx ry h
  obtain ⟨hs, q⟩ := h
  cases x with
  | non =>
    cases rx
    cases y with
    | non => cases ry; exact PySem.EqNone.eq_none_none (fin_bl I q (by simp))
    | bl j => cases ry; exact PySem.EqNone.eq_none_bool (fin_bl I q (by simp))
    | int j => obtain ⟨t', rfl⟩ := ry; exact PySem.EqNone.eq_none_int (fin_bl I q (by simp))
    | str j => obtain ⟨t', rfl⟩ := ry; exact PySem.EqNone.eq_none_str (fin_bl I q (by simp))
    | _ => exact absurd (show false = true from hs) Bool.false_ne_true
  | bl i =>
    cases rx
    cases y with
    | non => cases ry; exact PySem.EqNone.eq_bool_none (fin_bl I q (by simp))
    | bl j => cases ry; exact eq_bool (fin_bl I q dec_bl)
    | str j => obtain ⟨t', rfl⟩ := ry; exact PySem.EqMixed.eq_bool_str (fin_bl I q (by simp))
    | _ => exact absurd (show false = true from hs) Bool.false_ne_true
  | int i =>
    obtain ⟨t, rfl⟩ := rx
    cases y with
    | non => cases ry; exact PySem.EqNone.eq_int_none (fin_bl I q (by simp))
    | int j => obtain ⟨t', rfl⟩ := ry; exact eq_int (fin_bl I q dec_int)
    | str j => obtain ⟨t', rfl⟩ := ry; exact PySem.EqMixed.eq_int_str (fin_bl I q (by simp))
    | _ => exact absurd (show false = true from hs) Bool.false_ne_true
  | str i =>
    obtain ⟨t, rfl⟩ := rx
    cases y with
    | non => cases ry; exact PySem.EqNone.eq_str_none (fin_bl I q (by simp))
    | bl j => cases ry; exact PySem.EqMixed.eq_str_bool (fin_bl I q (by simp))
    | int j => obtain ⟨t', rfl⟩ := ry; exact PySem.EqMixed.eq_str_int (fin_bl I q (by simp))
    | str j => obtain ⟨t', rfl⟩ := ry; exact eq_str (fin_bl I q dec_str)
    | _ => exact absurd (show false = true from hs) Bool.false_ne_true
  | byt i =>
    obtain ⟨t, rfl⟩ := rx
    cases y with
    | byt j => obtain ⟨t', rfl⟩ := ry; exact PySem.W.eq_bytes (fin_bl I q dec_byt)
    | _ => exact absurd (show false = true from hs) Bool.false_ne_true
  | _ => cases y <;> exact absurd (show false = true from hs) Bool.false_ne_true
theorem op_ne : OpR X (compareOp .NotEq) rNe := by
  intro pins s σ H x y v u Q I rx ry h
  obtain ⟨hs, q⟩ := h
  cases x with
  | non =>
    cases rx
    cases y with
    | non => cases ry; exact PySem.EqNone.ne_none_none (fin_bl I q (by simp))
    | bl j => cases ry; exact PySem.EqNone.ne_none_bool (fin_bl I q (by simp))
    | int j => obtain ⟨t', rfl⟩ := ry; exact PySem.EqNone.ne_none_int (fin_bl I q (by simp))
    | str j => obtain ⟨t', rfl⟩ := ry; exact PySem.EqNone.ne_none_str (fin_bl I q (by simp))
    | _ => exact absurd (show false = true from hs) Bool.false_ne_true
  | bl i =>
    cases rx
    cases y with
    | non => cases ry; exact PySem.EqNone.ne_bool_none (fin_bl I q (by simp))
    | bl j => cases ry; exact ne_bool (fin_bl I q (congrArg not dec_bl))
    | str j => obtain ⟨t', rfl⟩ := ry; exact PySem.EqMixed.ne_bool_str (fin_bl I q (by simp))
    | _ => exact absurd (show false = true from hs) Bool.false_ne_true
  | int i =>
    obtain ⟨t, rfl⟩ := rx
    cases y with
    | non => cases ry; exact PySem.EqNone.ne_int_none (fin_bl I q (by simp))
    | int j => obtain ⟨t', rfl⟩ := ry; exact ne_int (fin_bl I q (congrArg not dec_int))
    | str j => obtain ⟨t', rfl⟩ := ry; exact PySem.EqMixed.ne_int_str (fin_bl I q (by simp))
    | _ => exact absurd (show false = true from hs) Bool.false_ne_true
  | str i =>
    obtain ⟨t, rfl⟩ := rx
    cases y with
    | non => cases ry; exact PySem.EqNone.ne_str_none (fin_bl I q (by simp))
    | bl j => cases ry; exact PySem.EqMixed.ne_str_bool (fin_bl I q (by simp))
    | int j => obtain ⟨t', rfl⟩ := ry; exact PySem.EqMixed.ne_str_int (fin_bl I q (by simp))
    | str j => obtain ⟨t', rfl⟩ := ry; exact ne_str (fin_bl I q (congrArg not dec_str))
    | _ => exact absurd (show false = true from hs) Bool.false_ne_true
  | byt i =>
    obtain ⟨t, rfl⟩ := rx
    cases y with
    | byt j => obtain ⟨t', rfl⟩ := ry; exact PySem.W.ne_bytes (fin_bl I q (congrArg not dec_byt))
    | _ => exact absurd (show false = true from hs) Bool.false_ne_true
  | _ => cases y <;> exact absurd (show false = true from hs) Bool.false_ne_true

theorem op_lt : OpR X (compareOp .Lt) (rI0 fun i j => .bl (decide (i < j))) := opB0 fun _ _ _ _ _ _ _ q => lt_int q
theorem op_le : OpR X (compareOp .LtE) (rI0 fun i j => .bl (decide (i ≤ j))) := opB0 fun _ _ _ _ _ _ _ q => le_int q
theorem op_gt : OpR X (compareOp .Gt) (rI0 fun i j => .bl (decide (j < i))) := opB0 fun _ _ _ _ _ _ _ q => gt_int q
/-- is None, is not None: the right side a value none -/
theorem op_isN : OpR X (compareOp .Is) (fun x y H Q => y = .non ∧ Q (.bl (decide (x = .non))) H) := by
  intro pins s σ H x y v u Q I rx ry h
  obtain ⟨rfl, q⟩ := h
  cases ry
  refine is_none_gen (fin_bl I q ?_)
  cases x <;> first
    | (cases rx; rfl)
    | (obtain ⟨t, rfl⟩ := rx; rfl)
/-- is, is not of two objects that are tracked lists or instances -/
def isObj : HO → Bool
  | .lst _ => true
  | .ins _ _ _ => true
  | _ => false
/-- two rules for one operation: by cases -/
theorem OpR.or {f : Value → Value → Sem Value} {r r' : R2} (h : OpR X f r) (h' : OpR X f r') : OpR X f (fun x y H Q => r x y H Q ∨ r' x y H Q) := by
  intro pins s σ H x y v u Q I rx ry q
  rcases q with q | q
  · exact h pins s σ H x y v u Q I rx ry q
  · exact h' pins s σ H x y v u Q I rx ry q

theorem nomark (b : Expr) {op : CmpOp} (h : op ≠ .In := by decide) (h2 : op ≠ .NotIn := by decide) : behindInMarks op b = false := by
  have e1 : (op == CmpOp.In) = false := by cases op <;> first | rfl | exact absurd rfl h
  have e2 : (op == CmpOp.NotIn) = false := by cases op <;> first | rfl | exact absurd rfl h2
  cases b <;> simp [behindInMarks, e1, e2]
/-- a comparison as a value; hm: nomark b, or (for in, not in) by with_unfolding_all rfl -/
theorem pe_cmpR {op : CmpOp} {r : R2} (ho : OpR X (compareOp op) r) (ha : PE X a ta) (hb : PE X b tb) (hm : behindInMarks op b = false) : PE X (.Compare a [op] [b] pos) (tOp r ta tb) := by
  intro pins s σ H Q I h
  exact wpAny_Compare1 (binT ha hb I h fun v u s2 x y H2 I2 rx ry q => ho pins s2 σ H2 x y v u Q I2 rx ry q) hm
/-- a reading of a value as a test -/
def tTest (t : TE) : TT := fun σ H Q => t σ H fun x H' => ∃ k, x = .bl k ∧ Q k H'
theorem pt_cmpR {op : CmpOp} {r : R2} (ho : OpR X (compareOp op) r) (ha : PE X a ta) (hb : PE X b tb) (hm : behindInMarks op b = false) : PT X (.Compare a [op] [b] pos) (tTest (tOp r ta tb)) := by
  intro pins s σ H Q I h
  refine wpAny_isTrue_Compare1 (thn (ha pins s σ H _ I h) fun v s1 ⟨x, H1, I1, r1, q1⟩ => thn (hb pins s1 σ H1 _ I1 q1) fun u s2 ⟨y, H2, I2, r2, q2⟩ =>
    thn (ho pins s2 σ H2 x y v u _ I2 r1 r2 q2) fun c s3 ⟨z, H3, I3, r3, k, e, q3⟩ => ?_) hm
  subst e
  cases r3
  exact wpAny_truthy_bool ⟨H3, I3, q3⟩
/-- a op1 b op2 c -/
def tChain (r r' : R2) (ta tb tc : TE) : TE := fun σ H Q => ta σ H fun x H1 => tb σ H1 fun y H2 => r x y H2 fun z H3 => ∃ k, z = .bl k ∧
  (if k = true then tc σ H3 fun w' H4 => r' y w' H4 Q else Q (.bl false) H3)
/-! ### truth -/
/-- a value's truth by the abstract heap -/
def TruV (K : PySem.W.Frag) (x : V) (H : Hp) (k : Bool) : Prop :=
  match x with
  | .non => k = false
  | .bl b => k = b
  | .int i => k = (i != 0)
  | .str y => y.length ≤ sizeLine ∧ k = ((y.length : Int) != 0)
  | .byt y => y.size ≤ sizeLine ∧ k = ((y.size : Int) != 0)
  | .ref p => (∃ xs, SqL K H p xs ∧ k = !xs.isEmpty) ∨ (∃ xs, SqT K H p xs ∧ k = !xs.isEmpty) ∨ ∃ kvs, H p = some (.dK kvs) ∧ k = !kvs.isEmpty
  | _ => False
theorem line63 : (sizeLine : Nat) < 2 ^ 63 := by rw [sizeLine_eq]; decide
/-! ### strs and bytes -/
theorem op_add_str : OpR X (binaryOp .Add) (fun x y H Q => ∃ i j, x = .str i ∧ y = .str j ∧ i.length + j.length ≤ sizeLine ∧ Q (.str (i ++ j)) H) := by
  intro pins s σ H x y v u Q I rx ry h
  obtain ⟨i, j, rfl, rfl, hz, q⟩ := h
  obtain ⟨t, rfl⟩ := rx
  obtain ⟨t', rfl⟩ := ry
  exact add_str (fun t' tk => ⟨.str (i ++ j), H, I.tok _, ⟨_, rfl⟩, q⟩) hz
def PlainIxT (b : Expr) : Prop := ∀ o i, subscripted b false o i = operate [o, i] (getItem o i)
/-! ### scalar builtins, by CallR -/
theorem vals1 {x : V} {us : List Value} (r : Vals [x] us) : ∃ u, us = [u] ∧ RelV x u := by
  cases r with
  | cons r1 r2 => cases r2; exact ⟨_, rfl, r1⟩
theorem vals2 {x y : V} {us : List Value} (r : Vals [x, y] us) : ∃ u w', us = [u, w'] ∧ RelV x u ∧ RelV y w' := by
  cases r with
  | cons r1 r2 =>
    cases r2 with
    | cons r3 r4 => cases r4; exact ⟨_, _, rfl, r1, r3⟩
theorem call_abs : CallR X (.builtin "abs") (fun xs H Q => ∃ i, xs = [.int i] ∧ Q (.int (if i < 0 then -i else i)) H) := by
  intro pins s σ H xs us Q I r h
  obtain ⟨i, rfl, q⟩ := h
  obtain ⟨u, rfl, t, rfl⟩ := vals1 r
  exact call_abs_int fun u tk => ⟨.int (if i < 0 then -i else i), H, I.tok _, ⟨_, rfl⟩, q⟩
theorem call_int1 : CallR X (.type "int") (fun xs H Q => (∃ i, xs = [.int i] ∧ Q (.int i) H) ∨ ∃ k, xs = [.bl k] ∧ Q (.int (if k then 1 else 0)) H) := by
  intro pins s σ H xs us Q I r h
  rcases h with ⟨i, rfl, q⟩ | ⟨k, rfl, q⟩
  · obtain ⟨u, rfl, t, rfl⟩ := vals1 r
    exact call_int_int ⟨.int i, H, I, ⟨_, rfl⟩, q⟩
  · obtain ⟨u, rfl, r1⟩ := vals1 r
    cases r1
    exact call_int_bool ⟨.int (if k then 1 else 0), H, I.tok _, ⟨_, rfl⟩, q⟩
theorem call_str_int : CallR X (.type "str") (fun xs H Q => ∃ i, xs = [.int i] ∧ i.natAbs.log2 < 1920 ∧ Q (.str (toString i)) H) := by
  intro pins s σ H xs us Q I r h
  obtain ⟨i, rfl, hz, q⟩ := h
  obtain ⟨u, rfl, t, rfl⟩ := vals1 r
  exact PySem.P.str_of_int hz ⟨.str _, H, I.tok _, ⟨_, rfl⟩, q⟩
/-- len of a str, a bytes, a list, a tuple -/
def LenV (K : PySem.W.Frag) (x : V) (H : Hp) (n : Nat) : Prop :=
  match x with
  | .str y => y.length ≤ sizeLine ∧ n = y.length
  | .byt y => y.size ≤ sizeLine ∧ n = y.size
  | .ref p => (∃ xs, SqL K H p xs ∧ n = xs.length) ∨ ∃ xs, SqT K H p xs ∧ n = xs.length
  | _ => False
end
end L2

namespace L2
open PySem PySem.Spec PyProof.Rows

/-! ### an instance, its attributes a map -/
structure ObjM (h : Heap) (x dx C : Addr) (mA : Str → Option Value) : Prop where
  obj : h.get? x = some (PySem.W.instObj C dx)
  ns : h.Ns1 dx mA
  ne : dx ≠ x

theorem lookIn_ns {h : Heap} {dx : Addr} {mA : Str → Option Value} (n : h.Ns1 dx mA) : ∃ od, h.get? dx = some od ∧ ∀ name, PySem.W.lookIn name od = some (mA name) := by
  obtain ⟨o, es, ep, ho, hd, hk, _, hm⟩ := n
  refine ⟨o, ho, fun name => ?_⟩
  have e := hm name
  unfold nsFind findBy at e
  rw [← Array.find?_toList] at e
  unfold PySem.W.lookIn
  rw [hd]
  dsimp only
  split
  · rename_i y q
    rw [q] at e
    exact congrArg some e
  · rename_i q
    rw [q] at e
    have a : es.toList.any (·.refKey) = false := by
      rw [List.any_eq_false]
      intro y hy
      obtain ⟨z, t, hkey⟩ := hk y (Array.mem_toList_iff.mp hy)
      simp [DictEntry.refKey, hkey]
    have a' : ¬ es.toList.any (·.refKey) = true := by rw [a]; exact Bool.false_ne_true
    rw [if_neg a']
    exact congrArg some e

theorem ObjM.look {h : Heap} {x dx C : Addr} {mA : Str → Option Value} (I : ObjM h x dx C mA) : ∃ od, PySem.W.InstAt h x (PySem.W.instObj C dx) C (some od) ∧ ∀ name, PySem.W.lookIn name od = some (mA name) :=
  let ⟨od, ho, hl⟩ := lookIn_ns I.ns
  ⟨od, ⟨I.obj, rfl, rfl, ho⟩, hl⟩

section
variable {prog : Program} {w : World} {A : Around} {E : Value → Shared → Prop} {s : Shared} {K : PySem.W.Frag} {x dx C f : Addr} {mA : Str → Option Value} {name : Str} {v : Value}

end

/-! ### the attributes as a list of pairs -/
def putF (f : Str) (v : V) : List (Str × V) → List (Str × V)
  | [] => [(f, v)]
  | (g, x) :: r => if g = f then (g, v) :: r else (g, x) :: putF f v r
section
variable {P : Program} {w : World} {H H' : Hp} {h h' : Heap} {a C dx : Addr} {fs fs' : List (Str × V)}
theorem ins_get (hok : HOk P w H h) (e : H a = some (.ins C dx fs)) : ∃ mA, ObjM h a dx C mA ∧ (∀ f, RelO (fs.lookup f) (mA f)) ∧ PySem.Within mA (fs.map (·.1)) ∧ fs.length ≤ 1000 ∧ H dx = some (.own a) := by
  obtain ⟨d, z, ne, ob, mA, n, r, q⟩ := (show ObjOk P w H h a (.ins C dx fs) from hok a _ e)
  exact ⟨mA, ⟨ob, n, ne⟩, r, q, z, d⟩
end

/-! ### what of the text a class must have -/
structure Cls (K : PySem.W.Frag) (C : Addr) : Prop where
  pg : PySem.W.plainGet K C Str.empty = true
  hd : PySem.W.hasDictIn K C = true
  po : PySem.W.plainOver K C = true
  sa : PySem.W.findIn K (.ref C) "__setattr__" = some (some (.builtin "object.__setattr__"))
theorem Cls.get {K : PySem.W.Frag} {C : Addr} (c : Cls K C) (f : Str) : PySem.W.plainGet K C f = true := c.pg
/-- no class of it has the name -/
def NoAttr (K : PySem.W.Frag) (C : Addr) (f : Str) : Prop := PySem.W.findIn K (.ref C) f = some none
/-- a constant of the class -/
structure Con (K : PySem.W.Frag) (C : Addr) (f : Str) (v : V) (u : Value) : Prop where
  at_ : PySem.W.findIn K (.ref C) f = some (some u)
  rel : RelV v u
  get : PySem.W.specialIn K u "__get__" = some none
  cp : PySem.W.copiedNames.contains f = false
/-- a method: a plain def of the class or of one above it -/
structure Meth (K : PySem.W.Frag) (C : Addr) (m : Str) (f : Addr) : Prop where
  at_ : PySem.W.findIn K (.ref C) m = some (some (.ref f))
  fn : PySem.W.isFn K (.ref f) = true
  kp : PySem.W.keepIn K (.ref f) = true

section
variable {X : Cx} {pins : List (Addr × Obj)} {σ : St} {H : Hp} {s : Shared} {a C dx : Addr} {fs : List (Str × V)} {f : Str} {v : V} {A : Around} {E : Value → Shared → Prop}

/-- a new instance, tracked, without attributes -/
theorem Inv.made (I : Inv X pins σ H s) : Inv X pins σ (upd (upd H s.heap.objs.size (.own (s.heap.objs.size + 1))) (s.heap.objs.size + 1) (.ins C s.heap.objs.size []))
    { s with heap := (s.heap.push PySem.W.emptyDict).push (PySem.W.instObj C s.heap.objs.size) } := by
  have e1 : (s.heap.push PySem.W.emptyDict).get? s.heap.objs.size = some PySem.W.emptyDict := Heap.get?_push_size s.heap rfl
  have e2 : ((s.heap.push PySem.W.emptyDict).push (PySem.W.instObj C s.heap.objs.size)).get? (s.heap.objs.size + 1) = some (PySem.W.instObj C s.heap.objs.size) := by
    have := Heap.get?_push_size (s.heap.push PySem.W.emptyDict) (o := PySem.W.instObj C s.heap.objs.size) rfl
    rwa [Heap.size_push] at this
  have e3 : (s.heap.push PySem.W.emptyDict).Ns s.heap.objs.size (fun _ => none) := ⟨PySem.W.emptyDict, #[], _, e1, rfl, (fun e he => absurd he (by simp)), fun _ => rfl⟩
  have I1 := I.laid (a := s.heap.objs.size) (o := .own (s.heap.objs.size + 1)) (h' := s.heap.push PySem.W.emptyDict) (t' := s.toks) (fun b u q => Heap.get?_push_of_some _ q) (Nat.le_refl _) ⟨_, e1⟩
  refine I1.laid (a := s.heap.objs.size + 1) (o := .ins C s.heap.objs.size []) (t' := s.toks) (fun b u q => Heap.get?_push_of_some _ q) (Nat.le_of_eq (Heap.size_push _ _)) ?_
  have ne : s.heap.objs.size ≠ s.heap.objs.size + 1 := Nat.ne_of_lt (Nat.lt_succ_self _)
  refine ⟨by rw [upd_ne ne, upd_same], Nat.zero_le _, ne, e2, fun _ => none, (Heap.Ns1.of_empty e3).at fun o q => Heap.get?_push_of_some _ q, fun _ => True.intro, fun y hy => absurd rfl hy⟩

end

/-! ### readings and rules -/
/-- e.f, an attribute of the instance -/
def tFld (K : PySem.W.Frag) (ta : TE) (f : Str) : TE := fun σ H Q => ta σ H fun x H1 => ∃ a C dx fs v, x = .ref a ∧ H1 a = some (.ins C dx fs) ∧ Cls K C ∧ NoAttr K C f ∧ fs.lookup f = some v ∧ Q v H1
/-- e.f, a constant of the class -/
def tCon (K : PySem.W.Frag) (ta : TE) (f : Str) : TE := fun σ H Q => ta σ H fun x H1 => ∃ a C dx fs v u, x = .ref a ∧ H1 a = some (.ins C dx fs) ∧ Cls K C ∧ Con K C f v u ∧ fs.lookup f = none ∧ Q v H1
/-- e.f = value -/
def sFld (K : PySem.W.Frag) (ta tv : TE) (f : Str) : TS := fun D σ H => tv σ H fun y H1 => ta σ H1 fun x H2 => ∃ a C dx fs, x = .ref a ∧ H2 a = some (.ins C dx fs) ∧ Cls K C ∧ NoAttr K C f ∧ fs.length < 1000 ∧
  D.nx σ (upd H2 a (.ins C dx (putF f y fs)))
/-- an augmented operator on two values -/
def InOp (X : Cx) (op : Operator) (rd : V → V → Hp → VK → Prop) : Prop :=
  ∀ (pins : List (Addr × Obj)) (s : Shared) (σ : St) (H : Hp) (x y : V) (u v : Value) (Q : VK), Inv X pins σ H s → RelV x u → RelV y v → rd x y H Q → wpAny (model X.prog X.w) X.A (inplaceOp op u v) (EP X pins σ Q) X.xe s
/-- e.f op= value -/
def sFldAug (K : PySem.W.Frag) (ta tv : TE) (rd : V → V → Hp → VK → Prop) (f : Str) : TS := fun D σ H => ta σ H fun x H1 => ∃ a C dx fs v, x = .ref a ∧ H1 a = some (.ins C dx fs) ∧ Cls K C ∧ NoAttr K C f ∧ fs.lookup f = some v ∧
  tv σ H1 fun y H2 => rd v y H2 fun z H3 => ∃ dx' fs', H3 a = some (.ins C dx' fs') ∧ fs'.length < 1000 ∧ D.nx σ (upd H3 a (.ins C dx' (putF f z fs')))

section
variable {X : Cx} {o e value : Expr} {f : Str} {pos pos' tpos : Pos} {ta tv : TE}
def rAdd : V → V → Hp → VK → Prop := fun x y H Q => ∃ i j, x = .int i ∧ y = .int j ∧ Q (.int (i + j)) H
def rSub : V → V → Hp → VK → Prop := fun x y H Q => ∃ i j, x = .int i ∧ y = .int j ∧ Q (.int (i - j)) H
end

/-! ### isinstance -/
section
variable {X : Cx} {pins : List (Addr × Obj)} {σ : St} {H : Hp} {s : Shared} {A : Around} {E : Value → Shared → Prop} {Q : Value → Shared → Prop} {c : Value} {b : Bool}
/-- the type of a value, as the fragment's deciders take it; for an instance its class -/
inductive TyOf (K : PySem.W.Frag) (H : Hp) : V → Value → Prop where
  | non : TyOf K H .non (.type "NoneType")
  | bl (x : Bool) : TyOf K H (.bl x) (.type "bool")
  | int (i : Int) : TyOf K H (.int i) (.type "int")
  | str (x : Str) : TyOf K H (.str x) (.type "str")
  | flt (x : UInt64) : TyOf K H (.flt x) (.type "float")
  | lst {a : Addr} {xs : List V} (e : H a = some (.lst xs)) : TyOf K H (.ref a) (.type "list")
  | frz {a : Addr} {o : Obj} {xs : List V} (e : H a = some (.frz o (.lst xs))) : TyOf K H (.ref a) (.type "list")
  | tup {a : Addr} {xs : List V} (e : H a = some (.tup xs)) : TyOf K H (.ref a) (.type "tuple")
  | dK {a : Addr} {kvs : List (Key × V)} (e : H a = some (.dK kvs)) : TyOf K H (.ref a) (.type "dict")
  | dT {a : Addr} {kvs : List (List Key × V)} (e : H a = some (.dT kvs)) : TyOf K H (.ref a) (.type "dict")
  | ins {a C dx : Addr} {fs : List (Str × V)} (e : H a = some (.ins C dx fs)) (cl : Cls K C) (ha : PySem.W.findIn K (.ref C) "__class__" = some (some (.builtin "object.__class__")))
      (hn : PySem.W.specialIn K (.builtin "object.__class__") "__get__" = some (some (.builtin "getset_descriptor.__get__"))) (htk : PySem.W.takesIn K (.builtin "object.__class__") = some true)
      (hm : PySem.W.mroIn K C (.type "object") = some true) : TyOf K H (.ref a) (.ref C)
/-- isinstance(x, c) for one class c, a built-in or an own one: kitOne's answer -/
theorem isinst_ok {x : V} {u t : Value} (I : Inv X pins σ H s) (rx : RelV x u) (ty : TyOf X.K H x t) (e : PySem.W.kitOne X.K t c = some b) (h : ∀ tk, Q (.bool b) { s with toks := tk }) :
    wpAny (model X.prog X.w) A (call (.builtin "isinstance") [u, c]) Q E s := by
  cases ty with
  | non => cases (show u = Value.none from rx); exact PySem.W.kia_one PySem.W.kitx_none I.kIn True.intro e (fun z => nomatch z) h
  | bl y => cases (show u = Value.bool y from rx); exact PySem.W.kia_one PySem.W.kitx_bool I.kIn True.intro e (fun z => nomatch z) h
  | int i => obtain ⟨t, q⟩ := (show ∃ t, u = Value.int i t from rx); cases q; exact PySem.W.kia_one PySem.W.kitx_int I.kIn True.intro e (fun z => nomatch z) h
  | str y => obtain ⟨t, q⟩ := (show ∃ t, u = Value.str y t from rx); cases q; exact PySem.W.kia_one PySem.W.kitx_str I.kIn True.intro e (fun z => nomatch z) h
  | flt y => obtain ⟨t, q⟩ := (show ∃ t, u = Value.float y t from rx); cases q; exact PySem.W.kia_one PySem.W.kitx_float I.kIn True.intro e (fun z => nomatch z) h
  | @lst a xs ea =>
    cases (show u = Value.ref a from rx)
    obtain ⟨_, _, n, _, h1⟩ := (show ObjOk X.prog X.w H s.heap a (.lst xs) from I.hok a _ ea)
    exact PySem.W.kia_one PySem.W.kitx_list I.kIn ⟨_, h1, rfl⟩ e (fun z => nomatch z) h
  | @frz a ob xs ea =>
    cases (show u = Value.ref a from rx)
    obtain ⟨_, _, _, n, _, h1⟩ := (show ObjOk X.prog X.w H s.heap a (.frz ob (.lst xs)) from I.hok a _ ea)
    exact PySem.W.kia_one PySem.W.kitx_list I.kIn ⟨_, h1, rfl⟩ e (fun z => nomatch z) h
  | @tup a xs ea =>
    cases (show u = Value.ref a from rx)
    obtain ⟨_, _, _, p⟩ := (show ObjOk X.prog X.w H s.heap a (.tup xs) from I.hok a _ ea)
    obtain ⟨o, h1, h2, _⟩ := p
    exact PySem.W.kia_one PySem.W.kitx_tuple I.kIn ⟨o, h1, h2⟩ e (fun z => nomatch z) h
  | @dK a kvs ea =>
    cases (show u = Value.ref a from rx)
    obtain ⟨_, _, vs, _, p⟩ := (show ObjOk X.prog X.w H s.heap a (.dK kvs) from I.hok a _ ea)
    obtain ⟨o, es, ep, h1, h2, _⟩ := p
    exact PySem.W.kia_one PySem.W.kitx_dict I.kIn ⟨o, h1, h2.1⟩ e (fun z => nomatch z) h
  | @dT a kvs ea =>
    cases (show u = Value.ref a from rx)
    obtain ⟨_, _, xs, _, o, es, ep, h1, h2, _⟩ := (show ObjOk X.prog X.w H s.heap a (.dT kvs) from I.hok a _ ea)
    exact PySem.W.kia_one PySem.W.kitx_dict I.kIn ⟨o, h1, h2.1⟩ e (fun z => nomatch z) h
  | @ins a C dx fs ea cl ha hn htk hm =>
    cases (show u = Value.ref a from rx)
    obtain ⟨mA, O, _⟩ := ins_get I.hok ea
    obtain ⟨od, J, _⟩ := O.look
    exact PySem.W.kia_one (PySem.W.kitx_own (cl.get _) cl.hd ha hn htk hm) I.kIn J e (fun z => nomatch z) h
end
end L2

namespace L2
open PySem PySem.Spec PyProof.Rows

/-! ### room -/
structure Room (k : Nat) (A : Around) : Prop where
  hd : A.handled = none
  dp : A.depth + 3 * k + 5 < recursionLimit
  un : A.units + 16 * k + 200 < cLine
theorem Room.mono {j k : Nat} {A : Around} (r : Room k A) (h : j ≤ k) : Room j A := ⟨r.hd, by have := r.dp; omega, by have := r.un; omega⟩
theorem Room.deeper {k : Nat} {A : Around} (r : Room (k + 1) A) (env : Env) : Room k (A.deeper env) :=
  ⟨r.hd, by have := r.dp; show A.depth + 1 + 3 * k + 5 < _; omega, by have := r.un; show A.units + 3 + 16 * k + 200 < _; omega⟩
theorem Room.depth {k : Nat} {A : Around} (r : Room k A) : A.depth < recursionLimit := by have := r.dp; omega
theorem Room.units {k : Nat} {A : Around} (r : Room k A) : A.units + 64 < cLine := by have := r.un; omega
/-! ### argument lists and displays -/
def tNil : TA := fun _ H Q => Q [] H
def tCons (ta : TE) (tr : TA) : TA := fun σ H Q => ta σ H fun x H1 => tr σ H1 fun xs H2 => Q (x :: xs) H2
section
variable {X : Cx} {e : Expr} {es : List Expr} {te : TE} {t : TA} {pos : Pos}
theorem pa_nil : PA X [] tNil := fun _ _ _ _ H Q I h => Calls.spliced_nil ⟨[], H, I, .nil, h⟩
theorem pa_cons (ha : PE X e te) (hr : PA X es t) (hs : starEach (e :: es) X.env = (false, eval e X.env) :: starEach es X.env := by rfl) : PA X (e :: es) (tCons te t) := by
  intro pos pins s σ H Q I h
  rw [hs]
  show wpAny _ _ (spliced ((false, eval e X.env) :: backTo pos (starEach es X.env))) _ _ s
  refine Calls.spliced_cons (thn (ha pins s σ H _ I h) fun u s1 ⟨x, H1, I1, r1, q1⟩ => ?_)
  exact thn (hr pos pins s1 σ H1 _ I1 q1) fun us s2 ⟨xs, H2, I2, r2, q2⟩ => ⟨x :: xs, H2, I2, .cons r1 r2, q2⟩

/-- a tuple, a list of written items -/
def tTup (t : TA) : TE := fun σ H Q => t σ H fun xs H1 => xs.length ≤ sizeLine ∧ ∀ p, H1 p = none → Q (.ref p) (upd H1 p (.tup xs))
def tLst (t : TA) : TE := fun σ H Q => t σ H fun xs H1 => xs.length ≤ sizeLine ∧ ∀ p, H1 p = none → Q (.ref p) (upd H1 p (.lst xs))
end

/-! ### what a def promises -/
/-- a def's promise: the bound arguments in the parameters' order, the heap, the wanted end, the wanted exception -/
abbrev Sp := List V → Hp → VK → XK → Prop
/-- how an exception lies behind a call (file 08 gives it): the callers' frames, abstract heap and state ahead of the call, the wish, the exception, the state -/
abbrev CXT := List Env → Hp → Shared → XK → Value → Shared → Prop

/-- the state at a call -/
structure Env0 (P : Program) (w : World) (K : PySem.W.Frag) (mg : Str → Option Value) (base : Heap) (A : Around) (outer : List Env) (s : Shared) (H : Hp) : Prop where
  frames : A.frames = some outer
  mod : Mod K mg base
  bs : ∀ b o, base.get? b = some o → s.heap.get? b = some o ∧ H b = none
  bsz : base.objs.size ≤ s.heap.objs.size
  funs : s.heap.FunFrames base outer
  frf : ∀ b ∈ frs outer, H b = none
  hok : HOk P w H s.heap
  bare : AllBare s.gens
/-- a call's end -/
def CE (outer : List Env) (P : Program) (w : World) (H : Hp) (s : Shared) (Q : VK) (u : Value) (s' : Shared) : Prop :=
  ∃ v H', s'.os = s.os ∧ AllBare s'.gens ∧ Un (frs outer) [] H H' s.heap s'.heap ∧ HOk P w H' s'.heap ∧ RelV v u ∧ Q v H'
def CR (CX : CXT) (outer : List Env) (P : Program) (w : World) (H : Hp) (s : Shared) (Q : VK) (E : XK) (r : Result) (s' : Shared) : Prop :=
  match r with
  | .ok (.ret u) => CE outer P w H s Q u s'
  | .ok _ => False
  | .error e => CX outer H s E e s'
structure FnOk (P : Program) (w : World) (K : PySem.W.Frag) (mg : Str → Option Value) (base : Heap) (CX : CXT) (k : Nat) (f : Addr) (fd : FuncData) (ps : List Str) (sp : Sp) : Prop where
  len : ∀ vs H Q E, sp vs H Q E → vs.length = ps.length
  run : ∀ (A : Around) (outer : List Env) (s : Shared) (H : Hp) (args : Args) (us : List Value) (vs : List V) (Q : VK) (E : XK), Room k A → Env0 P w K mg base A outer s H → BindsTo s fd args (ps.zip us) → Vals vs us → sp vs H Q E →
    codeAny (model P w) A (.call (.ref f) args) (CR CX outer P w H s Q E) s
theorem FnOk.mono {P : Program} {w : World} {K : PySem.W.Frag} {mg : Str → Option Value} {base : Heap} {CX : CXT} {j k : Nat} {f : Addr} {fd : FuncData} {ps : List Str} {sp : Sp} (F : FnOk P w K mg base CX j f fd ps sp) (h : j ≤ k) :
    FnOk P w K mg base CX k f fd ps sp := ⟨F.len, fun A outer s H args us vs Q E hr => F.run A outer s H args us vs Q E (hr.mono h)⟩
section
variable {X : Cx} {pins : List (Addr × Obj)} {σ : St} {H : Hp} {s s' : Shared}
/-- from a body: what a callee wants -/
theorem Inv.env0 (I : Inv X pins σ H s) : Env0 X.prog X.w X.K X.mg X.base X.A X.stack s H :=
  ⟨I.ok.frames, I.ok.mod, I.bs, Nat.le_trans I.ok.bsz I.sz, I.stack, I.stkFree, I.hok, I.bare⟩
/-- behind a call -/
theorem Inv.after {Q : VK} {u : Value} (I : Inv X pins σ H s) (h : CE X.stack X.prog X.w H s Q u s') : EP X pins σ Q u s' := by
  obtain ⟨v, H', os, bare, un, hok, r, q⟩ := h
  obtain ⟨hh, g, d, t, os'⟩ := s'
  obtain rfl : os' = s.os := os
  exact ⟨v, H', I.call (h' := hh) (g' := g) (d' := d) (t' := t) (ch := []) un hok bare (fun b z => absurd z (by simp)), r, q⟩
end

/-! ### calls -/
/-- f(..): the written arguments, then the defaults dvs; E: what is wanted of an exception -/
def tCall (sp : Sp) (dvs : List V) (E : XK) (t : TA) : TE := fun σ H Q => t σ H fun vs H1 => sp (vs ++ dvs) H1 Q E
/-- o.m(..) of an instance of the class at C -/
def tMeth (C : Addr) (m : Str) (sp : Sp) (dvs : List V) (E : XK) (ta : TE) (t : TA) : TE := fun σ H Q => ta σ H fun x H1 => ∃ a dx fs, x = .ref a ∧ H1 a = some (.ins C dx fs) ∧ fs.lookup m = none ∧
  t σ H1 fun vs H2 => sp (x :: (vs ++ dvs)) H2 Q E
/-- C(..): a new instance and its dict, then __init__ -/
def tMake (C : Addr) (sp : Sp) (dvs : List V) (E : XK) (t : TA) : TE := fun σ H Q => t σ H fun vs H1 => ∀ x dx, H1 x = none → H1 dx = none → dx ≠ x →
  sp (.ref x :: (vs ++ dvs)) (upd (upd H1 dx (.own x)) x (.ins C dx [])) (fun v H2 => v = .non ∧ Q (.ref x) H2) E

/-- how the parameters are bound: us the positional arguments, kw the keywords' values by name, ds the defaults that fill up -/
def Binds (K : PySem.W.Frag) (fd : FuncData) (ps : List Str) (ds : List Value) : Prop :=
  ∀ (s : Shared) (us : List Value), K.In s.heap → (us ++ ds).length = ps.length → BindsTo s fd ⟨us, []⟩ (ps.zip (us ++ ds))
/-- every parameter is given -/
theorem Binds.all {K : PySem.W.Frag} {fd : FuncData} {ps : List Str} (h : ∀ us : List Value, us.length = ps.length → bindArgs fd ⟨us, []⟩ = pure (ps.zip us)) : Binds K fd ps [] := fun s us _ hl => by
  rw [List.append_nil] at hl ⊢
  exact .of_eq (h us hl)

/-- an exception of a callee reaches what this body wants of exceptions -/
def Passes (CX : CXT) (X : Cx) (E : XK) : Prop := ∀ (pins : List (Addr × Obj)) (σ : St) (H : Hp) (s : Shared) (e : Value) (s' : Shared), Inv X pins σ H s → CX X.stack H s E e s' → X.xe e s'

section
variable {X : Cx} {CX : CXT} {k : Nat} {f C : Addr} {fd : FuncData} {ps : List Str} {sp : Sp} {dvs : List V} {ds : List Value} {E : XK} {x m : Str} {p pos apos : Pos} {e o : Expr} {es : List Expr} {ta : TE} {t : TA}

/-- the callee runs -/
theorem run_fn {pins : List (Addr × Obj)} {σ : St} {H : Hp} {s : Shared} {Q : VK} {us : List Value} {vs : List V} (F : FnOk X.prog X.w X.K X.mg X.base CX k f fd ps sp) (hr : Room k X.A) (hb : Binds X.K fd ps ds) (hd : Vals dvs ds) (hx : Passes CX X E)
    (I : Inv X pins σ H s) (r : Vals vs us) (h : sp (vs ++ dvs) H Q E) : wpAny (model X.prog X.w) X.A (call (.ref f) us) (EP X pins σ Q) X.xe s := by
  have r2 : Vals (vs ++ dvs) (us ++ ds) := r.append hd
  have hl : (us ++ ds).length = ps.length := by rw [← r2.length]; exact F.len _ _ _ _ h
  refine wpAny_call (codeAny_mono (F.run X.A X.stack s H ⟨us, []⟩ (us ++ ds) (vs ++ dvs) Q E hr I.env0 (hb s us I.kIn hl) r2 h) fun r s' hq => ?_)
  cases r with
  | error e => exact hx pins σ H s e s' I hq
  | ok fl =>
    cases fl with
    | ret u => exact I.after hq
    | next => exact False.elim hq
    | brk => exact False.elim hq
    | cont => exact False.elim hq

theorem pe_call (F : FnOk X.prog X.w X.K X.mg X.base CX k f fd ps sp) (hr : Room k X.A) (hg : Gl X x) (hm : X.mg x = some (.ref f)) (hk : PySem.W.keepIn X.K (.ref f) = true) (hb : Binds X.K fd ps ds) (hd : Vals dvs ds) (hx : Passes CX X E)
    (ha : PA X (e :: es) t) (hdb : (x == ("__debug__" : Str)) = false := by decide) (he : starEach (e :: es) X.env = (false, eval e X.env) :: starEach es X.env := by rfl) (hpl : (backTo pos (starEach es X.env)).any (·.1) = false := by rfl) :
    PE X (.Call (.Name x p) (e :: es) [] pos) (tCall sp dvs E t) := by
  intro pins s σ H Q I h
  refine wpAny_Call_Name_kw (ld_glob I hg hm ?_ hdb)
  refine PySem.W.callWith_K (h₀ := X.base) I.ok.mod.kin hk (thn (ha pos pins s σ H _ I h) fun us s1 ⟨vs, H1, I1, r, q⟩ => ⟨I1.kIn, ?_⟩) he hpl
  exact run_fn F hr hb hd hx I1 r q
/-- what a class must have to be made -/
structure Mk (K : PySem.W.Frag) (C f : Addr) : Prop where
  makes : PySem.W.makesIn K C = true
  init : PySem.W.findIn K (.ref C) "__init__" = some (some (.ref f))
  fn : PySem.W.isFn K (.ref f) = true
  kp : PySem.W.keepIn K (.ref C) = true

end

/-! ### keywords -/
/-- the values of the keywords, from the left -/
def PK (X : Cx) (kws : List Keyword) (t : TA) : Prop :=
  ∀ (pos : Pos) (pins : List (Addr × Obj)) (s : Shared) (σ : St) (H : Hp) (Q : List V → Hp → Prop), Inv X pins σ H s → t σ H Q → wpAny (model X.prog X.w) X.A (evalAll ((backToKw pos (keywordEach kws X.env)).map (·.2))) (AP X pins σ Q) X.xe s
section
variable {X : Cx} {CX : CXT} {k : Nat} {f C : Addr} {fd : FuncData} {ps ks : List Str} {sp : Sp} {E : XK} {x m : Str} {p pos apos kpos : Pos} {e o : Expr} {es : List Expr} {kws : List Keyword} {te ta : TE} {t tk : TA} {nm : Option Str}
/-- how a call with keywords binds: g puts the positional values us and the keywords' values ws (names ks) in the parameters' order, defaults among them -/
structure KBinds (K : PySem.W.Frag) (fd : FuncData) (ps ks : List Str) (g : List Value → List Value → List Value) (gV : List V → List V → List V) : Prop where
  to : ∀ (s : Shared) (us ws : List Value), K.In s.heap → (g us ws).length = ps.length → BindsTo s fd ⟨us, ks.zip ws⟩ (ps.zip (g us ws))
  rel : ∀ {vs : List V} {us : List Value} {zs : List V} {ws : List Value}, Vals vs us → Vals zs ws → Vals (gV vs zs) (g us ws)
def tCallK (sp : Sp) (gV : List V → List V → List V) (E : XK) (t tk : TA) : TE := fun σ H Q => t σ H fun vs H1 => tk σ H1 fun zs H2 => sp (gV vs zs) H2 Q E
variable {g : List Value → List Value → List Value} {gV : List V → List V → List V}
end

/-! ### a def's body keeps its promise -/
/-- names: the parameters first -/
structure FnScope (N P : List Str) (sc : Scope) : Prop where
  kind : sc.kind = .function
  co : sc.isCoroutine = false
  gen : sc.isGenerator = false
  nd : N.Nodup
  pre : N.take P.length = P
  par : ∀ x ∈ P, sc.names.lookup x = some .local ∨ sc.names.lookup x = some .cell
  nofree : ∀ y ∈ sc.names, y.2 ≠ .free

theorem bindL_out {kindOf : Str → Option NameKind} {x : Str} : ∀ {binds : List (Str × Value)} {m : Str → Option Value}, (∀ v, (x, v) ∉ binds) → bindL kindOf binds m x = m x
  | [], _, _ => rfl
  | (n, v) :: r, m, h => by
    unfold bindL
    rw [bindL_out fun w hw => h w (List.mem_cons_of_mem _ hw)]
    split
    · have : x ≠ n := by rintro rfl; exact h v List.mem_cons_self
      simp [this]
    · rfl
theorem bindC_out {kindOf : Str → Option NameKind} {x : Str} : ∀ {binds : List (Str × Value)} {m : Str → Option Value}, (∀ v, (x, v) ∉ binds) → bindC kindOf binds m x = m x
  | [], _, _ => rfl
  | (n, v) :: r, m, h => by
    unfold bindC
    rw [bindC_out fun w hw => h w (List.mem_cons_of_mem _ hw)]
    split
    · rfl
    · have : x ≠ n := by rintro rfl; exact h v List.mem_cons_self
      simp [this]
theorem bindL_get {kindOf : Str → Option NameKind} {x : Str} {v : Value} : ∀ {P : List Str} {vs : List Value} {i : Nat} {m : Str → Option Value}, P.Nodup → P[i]? = some x → vs[i]? = some v → kindOf x = some .local →
    bindL kindOf (P.zip vs) m x = some v
  | [], _, _, _, _, h, _, _ => by simp at h
  | _ :: _, [], _, _, _, _, h, _ => by simp at h
  | p :: P, w :: vs, 0, m, nd, h1, h2, hk => by
    simp at h1 h2; subst h1; subst h2
    show bindL kindOf ((p, w) :: P.zip vs) m p = _
    unfold bindL
    rw [bindL_out fun v hv => (List.nodup_cons.mp nd).1 (List.of_mem_zip hv).1, if_pos hk]
    simp
  | p :: P, w :: vs, i + 1, m, nd, h1, h2, hk => by
    show bindL kindOf ((p, w) :: P.zip vs) m x = _
    unfold bindL
    exact bindL_get (i := i) (List.nodup_cons.mp nd).2 (by simpa using h1) (by simpa using h2) hk
theorem bindC_get {kindOf : Str → Option NameKind} {x : Str} {v : Value} : ∀ {P : List Str} {vs : List Value} {i : Nat} {m : Str → Option Value}, P.Nodup → P[i]? = some x → vs[i]? = some v → kindOf x ≠ some .local →
    bindC kindOf (P.zip vs) m x = some v
  | [], _, _, _, _, h, _, _ => by simp at h
  | _ :: _, [], _, _, _, _, h, _ => by simp at h
  | p :: P, w :: vs, 0, m, nd, h1, h2, hk => by
    simp at h1 h2; subst h1; subst h2
    show bindC kindOf ((p, w) :: P.zip vs) m p = _
    unfold bindC
    rw [bindC_out fun v hv => (List.nodup_cons.mp nd).1 (List.of_mem_zip hv).1, if_neg hk]
    simp
  | p :: P, w :: vs, i + 1, m, nd, h1, h2, hk => by
    show bindC kindOf ((p, w) :: P.zip vs) m x = _
    unfold bindC
    exact bindC_get (i := i) (List.nodup_cons.mp nd).2 (by simpa using h1) (by simpa using h2) hk

/-- the names' values at the entry -/
def start (N : List Str) (vs : List V) : St := vs.map some ++ List.replicate (N.length - vs.length) none

/-- the context of a def's body, at its entry; an exception leaves the frame, then lies as CX says -/
def cxOf (CX : CXT) (P : Program) (w : World) (K : PySem.W.Frag) (mg : Str → Option Value) (base : Heap) (N : List Str) (qual : Str) (scope : Scope) (f : Addr) (cd : Value) (A : Around) (outer : List Env) (s : Shared) (H : Hp) (E : XK) : Cx where
  prog := P
  w := w
  K := K
  mg := mg
  base := base
  A := A.deeper (envOfC qual scope s.heap.objs.size f cd)
  N := N
  s₀ := s
  H₀ := H
  env := envOfC qual scope s.heap.objs.size f cd
  outer := outer
  stack := envOfC qual scope s.heap.objs.size f cd :: outer
  ex := []
  calm := true
  fn := fun _ => true
  pn := []
  xe := fun e s' => wpAny (model P w) (A.deeper (envOfC qual scope s.heap.objs.size f cd)) (leaving (envOfC qual scope s.heap.objs.size f cd) e) (fun _ s'' => CX outer H s E e s'') (fun e' s'' => CX outer H s E e' s'') s'

theorem cell_has {sc : Scope} {n : Nat} {x : Str} (h : sc.names.lookup x = some .cell) : ∃ c, (cellsFrom n sc.names []).lookup x = some c := by
  have q := PySem.W.cellsFrom_some sc.names n [] (.inl h)
  exact Option.isSome_iff_exists.mp q

theorem inv_start {CX : CXT} {P : Program} {w : World} {K : PySem.W.Frag} {mg : Str → Option Value} {base : Heap} {N ps : List Str} {qual : Str} {scope : Scope} {f : Addr} {cd : Value} {A : Around} {outer : List Env} {s s1 : Shared} {H : Hp} {E : XK} {us : List Value} {vs : List V}
    (S : FnScope N ps scope) (hd : A.handled = none) (e0 : Env0 P w K mg base A outer s H) (hl : vs.length = ps.length) (r : Vals vs us)
    (x : InCallC s s.heap.objs.size (bindL (envOfC qual scope s.heap.objs.size f cd).kindOf (ps.zip us) fun _ => none) (cellsFrom (s.heap.objs.size + 1) scope.names []) (bindC (envOfC qual scope s.heap.objs.size f cd).kindOf (ps.zip us) fun _ => none) s1) :
    Inv (cxOf CX P w K mg base N qual scope f cd A outer s H E) [] (start N vs) H s1 := by
  have hpl : ps.length ≤ N.length := by have := congrArg List.length S.pre; rw [List.length_take] at this; omega
  obtain ⟨h1, tk, rfl, hk⟩ := x.done
  have noA : ∀ b : Addr, b ∉ (cxOf CX P w K mg base N qual scope f cd A outer s H E).ex := fun b z => absurd (show b ∈ ([] : List Addr) from z) (by simp)
  refine ⟨⟨e0.mod, S.kind, rfl, rfl, Nat.le_refl _, fun y z c h1 h2 => ?_, fun y hy => ?_, fun y c _ h => ?_, fun _ => hd, Around.frames_deeper e0.frames, .inr ⟨rfl, rfl⟩, fun b z => absurd z (noA b), e0.bs, e0.bsz, fun b _ _ => noA b, fun b z => absurd z (noA b), e0.funs, e0.frf⟩,
    rfl, e0.bare, Un.kept hk, ⟨_, x.toInCall.ns, fun i y v h1 h2 h3 => ?_⟩, fun y c h => ⟨_, x.cell y c h⟩, e0.hok.fresh (Nat.le_refl _), fun y c h => ?_, fun p hp => absurd (show p ∈ ([] : List (Addr × Obj)) from hp) (by simp), e0.hok.kept hk, ?_⟩
  · exact name_of_addr x.apart (PySem.mem_of_lookup h1) (PySem.mem_of_lookup h2)
  · have hy : scope.names.lookup y = some .cell ∨ scope.names.lookup y = some .free := hy
    rcases hy with hy | hy
    · exact cell_has hy
    · exact absurd rfl (S.nofree _ (PySem.mem_of_lookup hy))
  · exact Nat.le_of_lt (x.above y c (PySem.mem_of_lookup h))
  · have hi : i < vs.length := by
      unfold start at h2
      by_cases hi : i < vs.length
      · exact hi
      · rw [List.getElem?_append_right (by simpa using hi)] at h2
        rw [List.getElem?_replicate] at h2
        split at h2 <;> cases h2
    have ha : vs[i]? = some v := by
      unfold start at h2
      rw [List.getElem?_append_left (by simpa using hi), List.getElem?_map] at h2
      cases e : vs[i]? with
      | none => rw [e] at h2; cases h2
      | some a => rw [e] at h2; cases h2; rfl
    obtain ⟨u, hu, rv⟩ := r.get ha
    have hp : ps[i]? = some y := by
      rw [← S.pre, List.getElem?_take_of_lt (by omega)]; exact h1
    have ndP : ps.Nodup := by rw [← S.pre]; exact S.nd.sublist (List.take_sublist _ _)
    refine ⟨u, rv, ?_⟩
    rcases S.par y (List.mem_of_getElem? hp) with k | k
    · exact .inl ⟨k, bindL_get ndP hp hu k⟩
    · obtain ⟨c, e⟩ := cell_has (n := s.heap.objs.size + 1) k
      refine .inr ⟨.inl k, c, e, ?_⟩
      have q := x.cell y c e
      rw [bindC_get ndP hp hu (by show scope.names.lookup y ≠ _; rw [k]; decide)] at q
      exact q
  · exact e0.hok.fresh (Nat.le_of_lt (x.above y c (PySem.mem_of_lookup h)))
  · unfold start
    show _ = N.length
    rw [List.length_append, List.length_map, List.length_replicate]
    omega

/-- THE RULE: a def (or a method) of the text, by its body. The body's reading t is chosen for each entry; it is run at the parameters' values -/
theorem fn_of {CX : CXT} {P : Program} {w : World} {K : PySem.W.Frag} {mg : Str → Option Value} {base : Heap} {k : Nat} {f : Addr} {name qual : Str} {params : Arguments} {body : List Stmt} {scope : Scope} {dV kV doc pm cdv ct oc : Value} {an od : Option Addr}
    {osl : Array (Option Value)} {N ps : List Str} {sp : Sp} (lk : K.lookup f = some ⟨oc, od, .func (PySem.W.fnOf name qual params body scope dV kV doc pm an cdv ct), osl⟩) (hcd : PySem.W.codeIn K cdv qual = true) (S : FnScope N ps scope)
    (len : ∀ vs H Q E, sp vs H Q E → vs.length = ps.length)
    (hbody : ∀ (A : Around) (outer : List Env) (s : Shared) (H : Hp) (vs : List V) (Q : VK) (E : XK), Room k (A.deeper (envOfC qual scope s.heap.objs.size f cdv)) → sp vs H Q E →
      ∃ t, PSs (cxOf CX P w K mg base N qual scope f cdv A outer s H E) body t ∧ t { nx := fun _ H' => Q .non H', rt := Q } (start N vs) H) :
    FnOk P w K mg base CX (k + 1) f (PySem.W.fnOf name qual params body scope dV kV doc pm an cdv ct) ps sp := by
  refine ⟨len, fun A outer s H args us vs Q E hr e0 hb r hsp => ?_⟩
  have hl := len _ _ _ _ hsp
  have KX : K.In s.heap := e0.mod.kin.keeps fun b o e => (e0.bs b o e).1
  have lim : s.heap.NoLimit := e0.mod.nolimit.keeps fun b o e => (e0.bs b o e).1
  have hkind : ∀ y ∈ ps.zip us, scope.names.lookup y.1 = some .local ∨ (scope.names.lookup y.1 = some .cell ∧ ((cellsFrom (s.heap.objs.size + 1) scope.names []).lookup y.1).isSome = true) := fun ⟨n, v⟩ hy => by
    rcases S.par n (List.of_mem_zip hy).1 with q | q
    · exact .inl q
    · exact .inr ⟨q, PySem.W.cellsFrom_some _ _ _ (.inl q)⟩
  refine codeAny_call_function hr.depth (KX _ _ lk) rfl S.co S.gen rfl (PySem.W.codeRec_of KX hcd) (hb _ _ _ _ ?_)
  refine wpAny_newFunctionEnv_cells S.kind hkind fun env he s1 x => ?_
  subst he
  refine ⟨lim.keeps x.toInCall.keep, codeAny_func ?_⟩
  obtain ⟨t, ht, hq⟩ := hbody A outer s H vs Q E (hr.deeper _) hsp
  have I : Inv (cxOf CX P w K mg base N qual scope f cdv A outer s H E) [] (start N vs) H s1 := inv_start S hr.hd e0 hl r x
  refine wpAny_mono (ht [] s1 (start N vs) H _ I hq) (fun fl s' hs => ?_) fun e s' hs => hs
  have fin : ∀ {σ' : St} {H' : Hp} {v : V} {u : Value}, Inv (cxOf CX P w K mg base N qual scope f cdv A outer s H E) [] σ' H' s' → RelV v u → Q v H' → CE outer P w H s Q u s' :=
    fun {σ' H' v u} J rv q => ⟨v, H', J.os, J.bare, J.base, J.hok, rv, q⟩
  cases fl with
  | ret u =>
    obtain ⟨v, σ', H', J, rv, q⟩ := hs
    exact fin J rv q
  | next =>
    obtain ⟨σ', H', J, q⟩ := hs
    exact fin (v := V.non) (u := Value.none) J rfl q
  | brk =>
    obtain ⟨_, _, _, q⟩ := hs
    exact False.elim q
  | cont =>
    obtain ⟨_, _, _, q⟩ := hs
    exact False.elim q
end L2

namespace L2
open PySem PySem.Spec PyProof.Rows
section
variable {X : Cx} {x : Str} {p pos : Pos} {e : Expr} {es : List Expr} {t : TA} {id T : String} {r : List V → Hp → VK → Prop}

def tCB (r : List V → Hp → VK → Prop) (t : TA) : TE := fun σ H Q => t σ H fun vs H1 => r vs H1 Q
/-- f(e, ..), f a built-in function -/
theorem pe_callB (hc : CallR X (.builtin id) r) (hg : Gl X x) (hm : X.mg x = none) (hv : bootBuiltins x = some (.builtin id)) (ha : PA X (e :: es) t) (hn : x ≠ "__name__" := by decide) (hdb : (x == ("__debug__" : Str)) = false := by decide)
    (he : starEach (e :: es) X.env = (false, eval e X.env) :: starEach es X.env := by rfl) (hpl : (backTo pos (starEach es X.env)).any (·.1) = false := by rfl) : PE X (.Call (.Name x p) (e :: es) [] pos) (tCB r t) := by
  intro pins s σ H Q I h
  refine wpAny_Call_Name_kw (ld_blt I hg hm hv ?_ hn hdb)
  exact PyProof.Rows.callWith_builtin1 (thn (ha pos pins s σ H _ I h) fun us s1 ⟨vs, H1, I1, r1, q1⟩ => hc pins s1 σ H1 vs us Q I1 r1 q1) he hpl
/-- T(e, ..), T a built-in type -/
theorem pe_callTy (hc : CallR X (.type T) r) (hg : Gl X x) (hm : X.mg x = none) (hv : bootBuiltins x = some (.type T)) (ha : PA X (e :: es) t) (hn : x ≠ "__name__" := by decide) (hdb : (x == ("__debug__" : Str)) = false := by decide)
    (he : starEach (e :: es) X.env = (false, eval e X.env) :: starEach es X.env := by rfl) (hpl : (backTo pos (starEach es X.env)).any (·.1) = false := by rfl) : PE X (.Call (.Name x p) (e :: es) [] pos) (tCB r t) := by
  intro pins s σ H Q I h
  refine wpAny_Call_Name_kw (ld_blt I hg hm hv ?_ hn hdb)
  exact PyProof.Rows.callWith_type1 (thn (ha pos pins s σ H _ I h) fun us s1 ⟨vs, H1, I1, r1, q1⟩ => hc pins s1 σ H1 vs us Q I1 r1 q1) he hpl
end
end L2

namespace HT
open PySem PyProof.Rows

/-- t < u of tuples of ints -/
def lexLt : List Int → List Int → Bool
  | [], [] => false
  | [], _ :: _ => true
  | _ :: _, [] => false
  | x :: xs, y :: ys => if x = y then lexLt xs ys else decide (x < y)
section
open PySem.SeqAt
open PySem.AutoSeq1 (wpAny_loadPart')
open PySem.MeetsSeq PySem.MeetsSeq2 PySem.MeetsSeq3

end

section
variable {prog : Program} {w : World} {A : Around} {E : Value → Shared → Prop} {s : Shared}

/-! ### t[a:b], not the whole -/
/-- a slice's bound as a place among n (d where it is left out) -/
def sIx (n d : Nat) : Option Int → Nat
  | none => d
  | some v => if v < 0 then (v + (n : Int)).toNat else min v.toNat n
end
end HT

namespace L2
open PySem PySem.Spec PyProof.Rows

/-! ### the parts of a slice -/
abbrev TO := St → Hp → (Option Int → Hp → Prop) → Prop
/-- a slice's part (left out, or an int) -/
def PO (X : Cx) (e : Option Expr) (t : TO) : Prop :=
  ∀ (pins : List (Addr × Obj)) (s : Shared) (σ : St) (H : Hp) (Q : Option Int → Hp → Prop), Inv X pins σ H s → t σ H Q →
    wpAny (model X.prog X.w) X.A (evalPart e X.env) (fun u s' => ∃ o H', Inv X pins σ H' s' ∧ IsPart u o ∧ Q o H') X.xe s
def tNoPart : TO := fun _ H Q => Q none H
def tPart (t : TE) : TO := fun σ H Q => t σ H fun x H1 => ∃ i, x = .int i ∧ Q (some i) H1

section
variable {X : Cx} {e : Expr} {te : TE} {lo hi : Option Expr} {tl th : TO} {pos p2 : Pos}

theorem po_none : PO X none tNoPart := by
  intro pins s σ H Q I h
  rw [evalPart_none]
  exact wpAny_pure ⟨none, H, I, .none, h⟩
theorem po_some (h : PE X e te) : PO X (some e) (tPart te) := by
  intro pins s σ H Q I hw
  rw [evalPart_some]
  refine thn (h pins s σ H _ I hw) fun u s1 ⟨x, H1, I1, r1, q1⟩ => ?_
  obtain ⟨i, rfl, q⟩ := q1
  obtain ⟨t, rfl⟩ := r1
  exact ⟨some i, H1, I1, .int i t, q⟩

/-- what a slice of a value is, by values: the slice object stands at sl -/
def SlR (X : Cx) (r : V → Option Int → Option Int → Hp → VK → Prop) : Prop :=
  ∀ (pins : List (Addr × Obj)) (s : Shared) (σ : St) (H : Hp) (x : V) (v vl vu : Value) (lo hi : Option Int) (sl : Addr) (Q : VK), Inv X pins σ H s → RelV x v → s.heap.IsSliceOf sl vl vu .none → IsPart vl lo → IsPart vu hi → r x lo hi H Q →
    ∃ T id, typeLookup (.type T) "__getitem__" = pure (some (.builtin id)) ∧ s.TypeIs v T ∧ wpAny (model X.prog X.w) X.A (getItem v (.ref sl)) (EP X pins σ Q) X.xe s
theorem SlR.or {r r' : V → Option Int → Option Int → Hp → VK → Prop} (h : SlR X r) (h' : SlR X r') : SlR X (fun x lo hi H Q => r x lo hi H Q ∨ r' x lo hi H Q) := by
  intro pins s σ H x v vl vu lo hi sl Q I rx hs pl pu q
  rcases q with q | q
  · exact h pins s σ H x v vl vu lo hi sl Q I rx hs pl pu q
  · exact h' pins s σ H x v vl vu lo hi sl Q I rx hs pl pu q
def tSl (r : V → Option Int → Option Int → Hp → VK → Prop) (te : TE) (tl th : TO) : TE := fun σ H Q => te σ H fun x H1 => tl σ H1 fun l H2 => th σ H2 fun u H3 => r x l u H3 Q
/-- a[lo:hi], any a -/
theorem pe_slice {r : V → Option Int → Option Int → Hp → VK → Prop} (hr : SlR X r) (he : PE X e te) (hl : PO X lo tl) (hu : PO X hi th) : PE X (.Subscript e (.Slice lo hi none p2) pos) (tSl r te tl th) := by
  intro pins s σ H Q I h
  refine Subscript_ (thn (he pins s σ H _ I h) fun v s1 ⟨x, H1, I1, r1, q1⟩ => ?_)
  refine wpAny_Slice (thn (hl pins s1 σ H1 _ I1 q1) fun vl s2 ⟨l, H2, I2, pl, q2⟩ => thn (hu pins s2 σ H2 _ I2 q2) fun vu s3 ⟨u, H3, I3, pu, q3⟩ => ?_)
  rw [evalPart_none]
  refine wpAny_pure ?_
  have I4 : Inv X pins σ H3 { s3 with heap := s3.heap.push { cls := .type "slice", data := .fields #[vl, vu, .none] } } := I3.kept (t' := s3.toks) fun b ob q => Heap.get?_push_of_some _ q
  obtain ⟨T, id, hT, ht, hg⟩ := hr pins { s3 with heap := s3.heap.push { cls := .type "slice", data := .fields #[vl, vu, .none] } } σ H3 x v vl vu l u s3.heap.objs.size Q I4 r1 (Heap.IsSliceOf.new ..) pl pu q3
  show wpAny (model X.prog X.w) X.A (subscriptTail e (.Slice lo hi none p2) v (.ref s3.heap.objs.size)) (EP X pins σ Q) X.xe { s3 with heap := s3.heap.push { cls := .type "slice", data := .fields #[vl, vu, .none] } }
  exact tail_any (ops := [.ref s3.heap.objs.size, v]) ht hT hg (by with_unfolding_all rfl)

/-- the items of xs[lo:hi] -/
def cutV (xs : List V) (lo hi : Option Int) : List V := (xs.drop (HT.sIx xs.length 0 lo)).take (HT.sIx xs.length xs.length hi - HT.sIx xs.length 0 lo)
theorem cutV_length (xs : List V) (lo hi : Option Int) : (cutV xs lo hi).length ≤ xs.length := by
  unfold cutV
  rw [List.length_take, List.length_drop]
  omega
/-- t[lo:hi], not the whole of it (the whole would be t itself) -/
def rSlT (K : PySem.W.Frag) : V → Option Int → Option Int → Hp → VK → Prop := fun x lo hi H Q => ∃ a xs, x = .ref a ∧ SqT K H a xs ∧
  ¬ (HT.sIx xs.length 0 lo = 0 ∧ HT.sIx xs.length xs.length hi = xs.length) ∧ ∀ p, H p = none → Q (.ref p) (upd H p (.tup (cutV xs lo hi)))
/-! ### t < u, t + u -/
def rLtT (K : PySem.W.Frag) : R2 := fun x y H Q => ∃ a b ns ms, x = .ref a ∧ y = .ref b ∧ SqT K H a (ns.map V.int) ∧ SqT K H b (ms.map V.int) ∧ Q (.bl (HT.lexLt ns ms)) H
/-- t + u, t not empty: u empty gives t itself -/
def rCatT (K : PySem.W.Frag) : R2 := fun x y H Q => ∃ a b xs ys, x = .ref a ∧ y = .ref b ∧ SqT K H a xs ∧ SqT K H b ys ∧ xs ≠ [] ∧ xs.length + ys.length ≤ sizeLine ∧
  (ys = [] → Q (.ref a) H) ∧ (ys ≠ [] → ∀ p, H p = none → Q (.ref p) (upd H p (.tup (xs ++ ys))))
end
end L2

namespace L2
open PySem PySem.Spec PyProof.Rows

/-! ### places -/
/-- the place that an index of any sign means -/
def ixN (n : Nat) (i : Int) : Option Nat := if 0 ≤ i then (if i < n then some i.toNat else none) else if -(n : Int) ≤ i then some (i + n).toNat else none
def atI {α : Type} (xs : List α) (i : Int) : Option α := (ixN xs.length i).bind fun j => xs[j]?
theorem ixN_seq {n : Nat} {i : Int} {j : Nat} (h : ixN n i = some j) : seqIndex? i n = some j ∧ j < n ∧ -(n : Int) ≤ i ∧ i < n := by
  unfold ixN at h
  by_cases h0 : 0 ≤ i
  · rw [if_pos h0] at h
    by_cases h1 : i < n
    · rw [if_pos h1] at h
      have e : i.toNat = j := Option.some.inj h
      exact ⟨by rw [seqIndex_of h0 h1, e], by omega, by omega, h1⟩
    · rw [if_neg h1] at h; cases h
  · rw [if_neg h0] at h
    by_cases h1 : -(n : Int) ≤ i
    · rw [if_pos h1] at h
      have e : (i + n).toNat = j := Option.some.inj h
      exact ⟨by rw [seqIndex_neg (by omega) h1, e], by omega, h1, by omega⟩
    · rw [if_neg h1] at h; cases h
theorem atI_get {α : Type} {xs : List α} {i : Int} {v : α} (h : atI xs i = some v) : ∃ j, seqIndex? i xs.length = some j ∧ xs[j]? = some v ∧ j < xs.length ∧ -(xs.length : Int) ≤ i ∧ i < xs.length := by
  unfold atI at h
  cases e : ixN xs.length i with
  | none => rw [e] at h; cases h
  | some j =>
    rw [e] at h
    obtain ⟨h1, h2, h3, h4⟩ := ixN_seq e
    exact ⟨j, h1, h, h2, h3, h4⟩
theorem atI_nat {α : Type} {xs : List α} {j : Nat} {v : α} (h : xs[j]? = some v) : atI xs (j : Int) = some v := by
  have hj : j < xs.length := (List.getElem?_eq_some_iff.mp h).1
  have e : ixN xs.length (j : Int) = some j := by
    unfold ixN
    rw [if_pos (by omega), if_pos (by omega)]; simp
  unfold atI; rw [e]; exact h
/-! ### what may be subscripted -/
/-- what stands as an index of a plain subscript -/
def PlainIx (b : Expr) : Prop := ∀ o i, subscripted b false o i = operate [o, i] (getItem o i)
/-- a subscript by values -/
def IxR (X : Cx) (r : R2) : Prop :=
  ∀ (value slice : Expr) (pins : List (Addr × Obj)) (s : Shared) (σ : St) (H : Hp) (x y : V) (v u : Value) (Q : VK), Inv X pins σ H s → RelV x v → RelV y u → r x y H Q →
    subscripted slice false v u = operate [v, u] (getItem v u) → wpAny (model X.prog X.w) X.A (subscriptTail value slice v u) (EP X pins σ Q) X.xe s
/-- a call of a builtin's method by values: the receiver, the arguments -/
def MtR (X : Cx) (id : String) (r : V → List V → Hp → VK → Prop) : Prop :=
  ∀ (pins : List (Addr × Obj)) (s : Shared) (σ : St) (H : Hp) (x : V) (xs : List V) (v : Value) (us : List Value) (Q : VK), Inv X pins σ H s → RelV x v → Vals xs us → r x xs H Q →
    wpAny (model X.prog X.w) X.A (call (.builtin id) (v :: us)) (EP X pins σ Q) X.xe s
section
variable {X : Cx} {a b : Expr} {ta tb : TE} {pos : Pos}
theorem IxR.or {r r' : R2} (h : IxR X r) (h' : IxR X r') : IxR X (fun x y H Q => r x y H Q ∨ r' x y H Q) := by
  intro value slice pins s σ H x y v u Q I rx ry q hs
  rcases q with q | q
  · exact h value slice pins s σ H x y v u Q I rx ry q hs
  · exact h' value slice pins s σ H x y v u Q I rx ry q hs
theorem MtR.or {id : String} {r r' : V → List V → Hp → VK → Prop} (h : MtR X id r) (h' : MtR X id r') : MtR X id (fun x xs H Q => r x xs H Q ∨ r' x xs H Q) := by
  intro pins s σ H x xs v us Q I rx rs q
  rcases q with q | q
  · exact h pins s σ H x xs v us Q I rx rs q
  · exact h' pins s σ H x xs v us Q I rx rs q
/-- a[b] -/
theorem pe_ix {r : R2} (hr : IxR X r) (ha : PE X a ta) (hb : PE X b tb) (hs : PlainIx b) : PE X (.Subscript a b pos) (tOp r ta tb) := by
  intro pins s σ H Q I h
  exact Subscript_ (binT ha hb I h fun v u s2 x y H2 I2 rx ry q => hr a b pins s2 σ H2 x y v u Q I2 rx ry q (hs _ _))

def rIxL (K : PySem.W.Frag) : R2 := fun x y H Q => ∃ p xs i v, x = .ref p ∧ y = .int i ∧ SqL K H p xs ∧ atI xs i = some v ∧ Q v H
def rIxT (K : PySem.W.Frag) : R2 := fun x y H Q => ∃ p xs i v, x = .ref p ∧ y = .int i ∧ SqT K H p xs ∧ atI xs i = some v ∧ Q v H
def rIxS : R2 := fun x y H Q => ∃ z i c, x = .str z ∧ y = .int i ∧ z.length ≤ sizeLine ∧ atI z.cps.toList i = some c ∧ Q (.str ⟨#[c]⟩) H
theorem ix_list : IxR X (rIxL X.K) := by
  intro value slice pins s σ H x y v u Q I rx ry h hs
  obtain ⟨p, xs, i, z, rfl, rfl, hq, he, q⟩ := h
  cases rx
  obtain ⟨t, rfl⟩ := ry
  obtain ⟨its, r, pl, hz⟩ := I.list hq
  obtain ⟨j, h1, h2, h3, h4, h5⟩ := atI_get he
  obtain ⟨w, ew, rw'⟩ := r.get h2
  have hl := r.length
  have hn := line63
  have fin : EP X pins σ Q w s := ⟨z, H, I, rw', q⟩
  by_cases h0 : 0 ≤ i
  · have hj : i.toNat = j := by
      rw [seqIndex_of h0 h5] at h1
      exact Option.some.inj h1
    exact item_listR pl.isList h0 (by omega) (by rw [hj]; simpa using ew) fin hs
  · have hj : (i + (its.toArray.size : Int)).toNat = j := by
      rw [seqIndex_neg (by omega) h4] at h1
      rw [List.size_toArray, ← hl]
      exact Option.some.inj h1
    exact subscriptTail_builtinR (x := w) pl.isList.typeIs slot_list_getitem.lookup
      (wpAny_getItem_list_neg (Q := fun r s' => r = w ∧ EP X pins σ Q r s') pl.isList (by omega) (by rw [List.size_toArray] <;> omega) (by omega) (by rw [hj]; simpa using ew) ⟨rfl, fin⟩) hs
theorem ix_tup : IxR X (rIxT X.K) := by
  intro value slice pins s σ H x y v u Q I rx ry h hs
  obtain ⟨p, xs, i, z, rfl, rfl, hq, he, q⟩ := h
  cases rx
  obtain ⟨t, rfl⟩ := ry
  obtain ⟨its, r, pl, hz⟩ := I.tuple hq
  obtain ⟨j, h1, h2, h3, h4, h5⟩ := atI_get he
  obtain ⟨w, ew, rw'⟩ := r.get h2
  have hl := r.length
  have hn := line63
  have fin : EP X pins σ Q w s := ⟨z, H, I, rw', q⟩
  exact subscriptTail_builtinR (x := w) pl.typeIs slot_tuple_getitem.lookup
    (getItem_tuple (j := j) (Q := fun r s' => r = w ∧ EP X pins σ Q r s') pl (by omega) (by omega) (by rw [List.size_toArray, ← hl]; exact h1) (by simpa using ew) ⟨rfl, fin⟩) hs
theorem ix_str : IxR X rIxS := by
  intro value slice pins s σ H x y v u Q I rx ry h hs
  obtain ⟨z, i, c, rfl, rfl, hz, he, q⟩ := h
  obtain ⟨t, rfl⟩ := rx
  obtain ⟨t', rfl⟩ := ry
  obtain ⟨j, h1, h2, h3, h4, h5⟩ := atI_get he
  have hl : z.cps.toList.length = z.length := by simp [Str.length]
  rw [hl] at h1 h4 h5
  have hn := line63
  exact tail_any (typeIs_str s z t) slot_str_getitem.lookup (getItem_str (c := c) (by
    have e1 : decide (i < -(2 ^ 63 : Int)) = false := decide_eq_false (by omega)
    have e2 : decide (i ≥ 2 ^ 63) = false := decide_eq_false (by omega)
    rw [e1, e2, Bool.or_false]) (by rw [h1]; simpa using h2) ⟨.str ⟨#[c]⟩, H, I.tok _, ⟨_, rfl⟩, q⟩) hs
/-- list, tuple or str -/
def rIx (K : PySem.W.Frag) : R2 := fun x y H Q => rIxL K x y H Q ∨ rIxT K x y H Q ∨ rIxS x y H Q
/-! ### xs[i] = v, any sign -/
theorem Inv.lst {pins : List (Addr × Obj)} {σ : St} {H : Hp} {s : Shared} {p : Addr} {xs : List V} (I : Inv X pins σ H s) (h : H p = some (.lst xs)) :
    ∃ (its : List Value) (n : Nat), Vals xs its ∧ s.heap.get? p = some { cls := .type "list", data := .seq its.toArray n } ∧ xs.length ≤ sizeLine := by
  obtain ⟨z, its, n, r, e⟩ := I.hok p _ h
  exact ⟨its, n, r, e, z⟩
def rSetL : V → V → V → Hp → (Hp → Prop) → Prop := fun o i v H Q => ∃ p xs k j, o = .ref p ∧ i = .int k ∧ H p = some (.lst xs) ∧ ixN xs.length k = some j ∧ Q (upd H p (.lst (xs.set j v)))
/-! ### slices -/
theorem slice_bounds (lo hi : Option Int) (n : Nat) : (sliceBounds lo hi none n).1 = ((HT.sIx n 0 lo : Nat) : Int) ∧ (sliceBounds lo hi none n).2.1 = ((HT.sIx n n hi : Nat) : Int) ∧ (sliceBounds lo hi none n).2.2 = 1 := by
  refine ⟨?_, ?_, rfl⟩
  · cases lo with
    | none => simp [sliceBounds, HT.sIx]
    | some i =>
      simp only [sliceBounds, HT.sIx, Option.getD_none, show (1 : Int) > 0 by decide, if_true]
      by_cases h : i < 0
      · simp only [h, if_true] <;> omega
      · simp only [h, if_false] <;> omega
  · cases hi with
    | none => simp [sliceBounds, HT.sIx]
    | some i =>
      simp only [sliceBounds, HT.sIx, Option.getD_none, show (1 : Int) > 0 by decide, if_true]
      by_cases h : i < 0
      · simp only [h, if_true] <;> omega
      · simp only [h, if_false] <;> omega
theorem slicePick_cut (its : List Value) (lo hi : Option Int) : slicePick its.toArray lo hi none = ((its.drop (HT.sIx its.length 0 lo)).take (HT.sIx its.length its.length hi - HT.sIx its.length 0 lo)).toArray := by
  obtain ⟨h1, h2, h3⟩ := slice_bounds lo hi its.toArray.size
  unfold slicePick
  rw [h1, h2, h3]
  simp only [sliceRange_one, pick_run, List.size_toArray] <;> rfl
/-- xs[lo:hi] of a list: a new list -/
def rSlL (K : PySem.W.Frag) : V → Option Int → Option Int → Hp → VK → Prop := fun x lo hi H Q => ∃ a xs, x = .ref a ∧ SqL K H a xs ∧ ∀ p, H p = none → Q (.ref p) (upd H p (.lst (cutV xs lo hi)))
theorem sl_list : SlR X (rSlL X.K) := by
  intro pins s σ H x v vl vu lo hi sl Q I rx hs pl pu h
  obtain ⟨a, xs, rfl, hx, q⟩ := h
  cases rx
  obtain ⟨its, r, ht, hz⟩ := I.list hx
  have hlen := r.length
  refine ⟨"list", _, slot_list_getitem.lookup, ht.isList.typeIs, ?_⟩
  refine wpAny_getItem_list_slice ht.isList hs pl pu .none (by simp) ?_ (by rw [List.size_toArray] <;> omega)
  rw [slicePick_cut, ← hlen]
  refine ⟨.ref s.heap.objs.size, _, I.laid (t' := s.toks) (o := .lst (cutV xs lo hi)) (fun b ob q => Heap.get?_push_of_some _ q) (Nat.le_refl _) ?_, rfl, q _ (I.hok.fresh (Nat.le_refl _))⟩
  exact ⟨Nat.le_trans (cutV_length xs lo hi) hz, _, 0, (r.drop (HT.sIx xs.length 0 lo)).take (HT.sIx xs.length xs.length hi - HT.sIx xs.length 0 lo), Heap.get?_push_size _ rfl⟩

/-! ### in, not in: flat items -/
def flatV : V → Bool
  | .non => true
  | .bl _ => true
  | .int _ => true
  | .str _ => true
  | _ => false
/-- == of flat values -/
def eqV : V → V → Bool
  | .non, .non => true
  | .bl a, .bl b => a == b
  | .bl a, .int b => (if a then 1 else 0) == b
  | .int a, .bl b => a == (if b then 1 else 0)
  | .int a, .int b => a == b
  | .str a, .str b => a == b
  | _, _ => false
theorem eqAt_V {A : Around} {s : Shared} {y x : V} {u v : Value} (ry : RelV y u) (rx : RelV x v) (fy : flatV y = true) (fx : flatV x = true) : SeqAt.EqAt A s u v (eqV y x) := by
  cases y with
  | non =>
    cases ry
    cases x with
    | non => cases rx; exact SeqAt.EqAt.same _
    | bl b => cases rx; exact SeqAt.EqAt.none_bool b
    | int b => obtain ⟨t, rfl⟩ := rx; exact SeqAt.EqAt.none_int b t
    | str b => obtain ⟨t, rfl⟩ := rx; exact SeqAt.EqAt.none_str b t
    | _ => exact absurd (show false = true from fx) Bool.false_ne_true
  | bl a =>
    cases ry
    cases x with
    | non => cases rx; exact SeqAt.EqAt.bool_none a
    | bl b => cases rx; exact SeqAt.EqAt.bool_bool a b
    | int b => obtain ⟨t, rfl⟩ := rx; exact SeqAt.EqAt.bool_int a b t
    | str b => obtain ⟨t, rfl⟩ := rx; exact SeqAt.EqAt.bool_str a b t
    | _ => exact absurd (show false = true from fx) Bool.false_ne_true
  | int a =>
    obtain ⟨t', rfl⟩ := ry
    cases x with
    | non => cases rx; exact SeqAt.EqAt.int_none a t'
    | bl b => cases rx; exact SeqAt.EqAt.int_bool a t' b
    | int b => obtain ⟨t, rfl⟩ := rx; exact SeqAt.EqAt.int_int a t' b t
    | str b => obtain ⟨t, rfl⟩ := rx; exact SeqAt.EqAt.int_str a t' b t
    | _ => exact absurd (show false = true from fx) Bool.false_ne_true
  | str a =>
    obtain ⟨t', rfl⟩ := ry
    cases x with
    | non => cases rx; exact SeqAt.EqAt.str_none a t'
    | bl b => cases rx; exact SeqAt.EqAt.str_bool a t' b
    | int b => obtain ⟨t, rfl⟩ := rx; exact SeqAt.EqAt.str_int a t' b t
    | str b => obtain ⟨t, rfl⟩ := rx; exact SeqAt.EqAt.str_str a t' b t
    | _ => exact absurd (show false = true from fx) Bool.false_ne_true
  | _ => exact absurd (show false = true from fy) Bool.false_ne_true
/-- the items' answers, read off the values (a value's own answer does not lean on its token) -/
def eqU (x : V) (u : Value) : Bool := match u with
  | .none => eqV .non x
  | .bool b => eqV (.bl b) x
  | .int i _ => eqV (.int i) x
  | .str z _ => eqV (.str z) x
  | _ => false
theorem eqU_of {x y : V} {u : Value} (r : RelV y u) (f : flatV y = true) : eqU x u = eqV y x := by
  cases y with
  | non => cases r; rfl
  | bl b => cases r; rfl
  | int i => obtain ⟨t, rfl⟩ := r; rfl
  | str z => obtain ⟨t, rfl⟩ := r; rfl
  | _ => exact absurd (show false = true from f) Bool.false_ne_true
theorem any_eqU {x : V} : ∀ {xs : List V} {us : List Value}, Vals xs us → xs.all flatV = true → us.any (eqU x) = xs.any fun y => eqV y x
  | _, _, .nil, _ => rfl
  | y :: xs, u :: us, .cons r t, f => by
    rw [List.all_cons, Bool.and_eq_true] at f
    rw [List.any_cons, List.any_cons, eqU_of r f.1, any_eqU t f.2]
theorem mem_eqAt {A : Around} {s : Shared} {x : V} {v : Value} (rx : RelV x v) (fx : flatV x = true) : ∀ {xs : List V} {us : List Value}, Vals xs us → xs.all flatV = true → ∀ u ∈ us, SeqAt.EqAt A s u v (eqU x u)
  | _, _, .nil, _ => fun u hu => by cases hu
  | y :: xs, u :: us, .cons r t, f => fun u' hu => by
    rw [List.all_cons, Bool.and_eq_true] at f
    rcases List.mem_cons.mp hu with rfl | hu
    · rw [eqU_of r f.1]; exact eqAt_V r rx f.1 fx
    · exact mem_eqAt rx fx t f.2 u' hu
def inV (x : V) (xs : List V) : Bool := xs.any fun y => eqV y x
/-- x in a list or tuple of flat items -/
def rIn (K : PySem.W.Frag) (neg : Bool) : R2 := fun x y H Q => ∃ p xs, y = .ref p ∧ (SqL K H p xs ∨ SqT K H p xs) ∧ flatV x = true ∧ xs.all flatV = true ∧ Q (.bl (if neg then !inV x xs else inV x xs)) H
theorem op_notIn_seq : OpR X (compareOp .NotIn) (rIn X.K true) := by
  intro pins s σ H x y v u Q I rx ry h
  obtain ⟨p, xs, rfl, hq, fx, fs, q⟩ := h
  cases ry
  rcases hq with hq | hq
  · obtain ⟨its, r, pl, hz⟩ := I.list hq
    refine SeqAt.notIn_listAt (eqU x) pl.isList (fun w hw => mem_eqAt rx fx r fs w (by simpa using hw)) ⟨.bl _, H, I, rfl, ?_⟩
    rw [show its.toArray.any (eqU x) = its.any (eqU x) by simp, any_eqU r fs]
    exact q
  · obtain ⟨its, r, pl, hz⟩ := I.tuple hq
    refine SeqAt.notIn_tupleAt (eqU x) pl (fun w hw => mem_eqAt rx fx r fs w (by simpa using hw)) ⟨.bl _, H, I, rfl, ?_⟩
    rw [show its.toArray.any (eqU x) = its.any (eqU x) by simp, any_eqU r fs]
    exact q
theorem op_notIn_str : OpR X (compareOp .NotIn) (fun x y H Q => ∃ i j, x = .str i ∧ y = .str j ∧ Q (.bl (!(!(Builtin.Str.occurrences j i 0 j.length 1).isEmpty))) H) := by
  intro pins s σ H x y v u Q I rx ry h
  obtain ⟨i, j, rfl, rfl, q⟩ := h
  obtain ⟨t, rfl⟩ := rx
  obtain ⟨t', rfl⟩ := ry
  exact notIn_str ⟨.bl _, H, I, rfl, q⟩

/-! ### len, list(x), tuple(x) of any list or tuple that is read -/
theorem call_len_seq : CallR X (.builtin "len") (fun xs H Q => ∃ p ys, xs = [.ref p] ∧ (SqL X.K H p ys ∨ SqT X.K H p ys) ∧ Q (.int ys.length) H) := by
  intro pins s σ H xs us Q I r h
  obtain ⟨p, ys, rfl, hq, q⟩ := h
  obtain ⟨u, rfl, rx⟩ := vals1 r
  cases rx
  have hn := line63
  rcases hq with hq | hq
  · obtain ⟨its, r', pl, hz⟩ := I.list hq
    have hlen := r'.length
    exact Calls.call_len_list pl.isList (by simp only [List.size_toArray] <;> omega) ⟨.int ys.length, H, I.tok _, ⟨s.toks + 1, by rw [List.size_toArray, hlen]⟩, q⟩
  · obtain ⟨its, r', pl, hz⟩ := I.tuple hq
    have hlen := r'.length
    exact len_tuple pl (by simp only [List.size_toArray] <;> omega) ⟨.int ys.length, H, I.tok _, ⟨s.toks + 1, by rw [List.size_toArray, hlen]⟩, q⟩
theorem call_len_str : CallR X (.builtin "len") (fun xs H Q => ∃ z, xs = [.str z] ∧ z.length ≤ sizeLine ∧ Q (.int z.length) H) := by
  intro pins s σ H xs us Q I r h
  obtain ⟨z, rfl, hz, q⟩ := h
  obtain ⟨u, rfl, t, rfl⟩ := vals1 r
  have hn := line63
  exact len_str (by omega) ⟨.int z.length, H, I.tok _, ⟨_, rfl⟩, q⟩
theorem CallR.or {f : Value} {r r' : List V → Hp → VK → Prop} (h : CallR X f r) (h' : CallR X f r') : CallR X f (fun xs H Q => r xs H Q ∨ r' xs H Q) := by
  intro pins s σ H xs us Q I rs q
  rcases q with q | q
  · exact h pins s σ H xs us Q I rs q
  · exact h' pins s σ H xs us Q I rs q
/-! ### the call of a builtin's method: o.m(..) -/
/-- the value is of that builtin type -/
def tyV (K : PySem.W.Frag) (T : String) (x : V) (H : Hp) : Prop := match x with
  | .str _ => T = "str"
  | .int _ => T = "int"
  | .ref p => (T = "list" ∧ ∃ xs, SqL K H p xs) ∨ (T = "tuple" ∧ ∃ o, K.lookup p = some o ∧ o.cls = .type "tuple" ∧ o.dict = none) ∨
      (T = "dict" ∧ ((∃ kvs, H p = some (.dK kvs)) ∨ ∃ kvs, H p = some (.dT kvs))) ∨ (T = "set" ∧ ∃ S n, H p = some (.set S n))
  | _ => False
theorem tyV_is {pins : List (Addr × Obj)} {σ : St} {H : Hp} {s : Shared} {T : String} {x : V} {v : Value} (I : Inv X pins σ H s) (r : RelV x v) (ty : tyV X.K T x H) :
    s.TypeIs v T ∧ ∀ a, v = .ref a → ∃ ob, s.heap.get? a = some ob ∧ ob.dict = none := by
  cases x with
  | str z =>
    obtain ⟨t, rfl⟩ := r
    cases (show T = "str" from ty)
    exact ⟨typeIs_str s z t, fun _ e => nomatch e⟩
  | int i =>
    obtain ⟨t, rfl⟩ := r
    cases (show T = "int" from ty)
    exact ⟨typeIs_int s i t, fun _ e => nomatch e⟩
  | ref p =>
    cases r
    rcases ty with ⟨rfl, xs, hq⟩ | ⟨rfl, o, hk, hc, hd⟩ | ⟨rfl, hk⟩ | ⟨rfl, S, n, hk⟩
    · obtain ⟨its, _, pl, _⟩ := I.list hq
      refine ⟨pl.isList.typeIs, fun a e => ?_⟩
      cases e
      obtain ⟨o, n, e, c, hd, _⟩ := pl
      exact ⟨o, e, hd⟩
    · refine ⟨⟨o, I.kIn p o hk, hc⟩, fun a e => ?_⟩
      cases e
      exact ⟨o, I.kIn _ o hk, hd⟩
    · have z : ∃ o, s.heap.get? p = some o ∧ o.ExactDict := by
        rcases hk with ⟨kvs, hk⟩ | ⟨kvs, hk⟩
        · obtain ⟨_, _, _, _, o, _, _, e, ex, _⟩ := I.hok p _ hk
          exact ⟨o, e, ex⟩
        · obtain ⟨_, _, _, _, o, _, _, e, ex, _⟩ := I.hok p _ hk
          exact ⟨o, e, ex⟩
      obtain ⟨o, e, ex⟩ := z
      refine ⟨⟨o, e, ex.1⟩, fun a e2 => ?_⟩
      cases e2
      exact ⟨o, e, ex.2.1⟩
    · obtain ⟨o, _, _, _, e, ex, _⟩ := I.hok p _ hk
      refine ⟨⟨o, e, ex.1⟩, fun a e2 => ?_⟩
      cases e2
      exact ⟨o, e, ex.2.1⟩
  | _ => exact False.elim ty
def tBM0 (K : PySem.W.Frag) (T : String) (r : V → List V → Hp → VK → Prop) (to : TE) : TE := fun σ H Q => to σ H fun x H1 => tyV K T x H1 ∧ r x [] H1 Q
def tBM (K : PySem.W.Frag) (T : String) (r : V → List V → Hp → VK → Prop) (to : TE) (t : TA) : TE := fun σ H Q => to σ H fun x H1 => tyV K T x H1 ∧ t σ H1 fun xs H2 => r x xs H2 Q
variable {o e : Expr} {es : List Expr} {to : TE} {t : TA} {name : Str} {apos cpos : Pos} {T id : String} {r : V → List V → Hp → VK → Prop}
/- xs.append(e), list.index on a module's tuple .. are MtR facts of 06m -/
end
end L2

namespace L2
open PySem PySem.Spec PyProof.Rows

def MtM (X : Cx) (id : String) (r : V → List V → Hp → VK → Prop) : Prop :=
  ∀ (pins : List (Addr × Obj)) (s : Shared) (σ : St) (H : Hp) (x : V) (xs : List V) (v : Value) (us : List Value) (Q : VK), Inv X pins σ H s → RelV x v → Vals xs us → r x xs H Q →
    wpAny (model X.prog X.w) X.A (call (.builtin id) (v :: us)) (EP X pins σ Q) X.xe s

/-! ### lists of values -/
theorem Vals.one : ∀ {x : V} {us : List Value}, Vals [x] us → ∃ u, us = [u] ∧ RelV x u
  | _, _, .cons r .nil => ⟨_, rfl, r⟩
theorem Vals.two : ∀ {x y : V} {us : List Value}, Vals [x, y] us → ∃ u v, us = [u, v] ∧ RelV x u ∧ RelV y v
  | _, _, _, .cons r (.cons q .nil) => ⟨_, _, rfl, r, q⟩
theorem Vals.zero : ∀ {us : List Value}, Vals [] us → us = []
  | _, .nil => rfl
theorem Vals.dropLast {xs : List V} {us : List Value} (h : Vals xs us) : Vals xs.dropLast us.dropLast := by
  induction h with
  | nil => exact .nil
  | cons r t ih =>
    cases t with
    | nil => exact .nil
    | cons q t' => exact .cons r ih
theorem Vals.eraseIdx : ∀ {xs : List V} {us : List Value} (i : Nat), Vals xs us → Vals (xs.eraseIdx i) (us.eraseIdx i)
  | _, _, _, .nil => .nil
  | _, _, 0, .cons _ t => t
  | _, _, i + 1, .cons r t => .cons r (Vals.eraseIdx i t)
theorem Vals.reverse {xs : List V} {us : List Value} (h : Vals xs us) : Vals xs.reverse us.reverse := by
  induction h with
  | nil => exact .nil
  | cons r t ih => rw [List.reverse_cons, List.reverse_cons]; exact Vals.append ih (.cons r .nil)
theorem Vals.rep {xs : List V} {us : List Value} (h : Vals xs us) : ∀ k : Nat, Vals (List.replicate k xs).flatten (List.replicate k us).flatten
  | 0 => .nil
  | k + 1 => by
    rw [List.replicate_succ, List.replicate_succ, List.flatten_cons, List.flatten_cons]
    exact Vals.append h (Vals.rep h k)
theorem foldl_rep (its : List Value) : ∀ (k : Nat) (acc : List Value),
    List.foldl (fun x1 x2 => x1 ++ x2) acc.toArray (List.replicate k its.toArray) = (acc ++ (List.replicate k its).flatten).toArray
  | 0, acc => by simp
  | k + 1, acc => by
    have e : acc.toArray ++ its.toArray = (acc ++ its).toArray := by simp
    have e2 : (acc ++ its) ++ (List.replicate k its).flatten = acc ++ (List.replicate (k + 1) its).flatten := by
      rw [List.replicate_succ, List.flatten_cons, List.append_assoc]
    rw [← e2, ← foldl_rep its k (acc ++ its), ← e, List.replicate_succ, List.foldl_cons]

section
variable {X : Cx} {pins : List (Addr × Obj)} {σ : St} {H : Hp} {s : Shared} {l b : Addr} {xs ys zs : List V}

/-! ### the two steps: a tracked list is rewritten, a new list is laid -/
theorem Inv.lnew {its : List Value} {t' : Nat} (I : Inv X pins σ H s) (hv : Vals ys its) (hz : ys.length ≤ sizeLine) :
    Inv X pins σ (upd H s.heap.objs.size (.lst ys)) { s with heap := s.heap.push { cls := .type "list", data := .seq its.toArray }, toks := t' } :=
  I.laid (fun _ _ q => Heap.get?_push_of_some _ q) (Nat.le_refl _) ⟨hz, its, 0, hv, Heap.get?_push_size _ rfl⟩
theorem Inv.fresh (I : Inv X pins σ H s) : H s.heap.objs.size = none := I.hok.fresh (Nat.le_refl _)
theorem Inv.lstM (I : Inv X pins σ H s) (hH : H l = some (.lst xs)) : xs.length ≤ sizeLine ∧ ∃ (its : List Value) (n : Nat), Vals xs its ∧ xs.length = its.length ∧ s.heap.get? l = some { cls := .type "list", data := .seq its.toArray n } := by
  obtain ⟨z, its, n, r, e⟩ := I.hok l _ hH
  exact ⟨z, its, n, r, r.length, e⟩

theorem notLongL {n : Nat} (h : n ≤ sizeLine) : Builtin.List.listTooLong n = false := by
  unfold Builtin.List.listTooLong
  exact decide_eq_false (by omega)
end

section
variable {X : Cx}

/-! ### methods -/
def rAppend : V → List V → Hp → VK → Prop := fun x vs H Q => ∃ l xs y, x = .ref l ∧ vs = [y] ∧ H l = some (.lst xs) ∧ xs.length < sizeLine ∧ Q .non (upd H l (.lst (xs ++ [y])))
def rExtend : V → List V → Hp → VK → Prop := fun x vs H Q => ∃ l b xs zs, x = .ref l ∧ vs = [.ref b] ∧ H l = some (.lst xs) ∧ H b = some (.lst zs) ∧ xs.length + zs.length ≤ sizeLine ∧ Q .non (upd H l (.lst (xs ++ zs)))
def rPop : V → List V → Hp → VK → Prop := fun x vs H Q => ∃ l xs y, x = .ref l ∧ vs = [] ∧ H l = some (.lst xs) ∧ xs[xs.length - 1]? = some y ∧ Q y (upd H l (.lst xs.dropLast))
def rPopAt : V → List V → Hp → VK → Prop := fun x vs H Q => ∃ l xs i k y, x = .ref l ∧ vs = [.int i] ∧ H l = some (.lst xs) ∧ -(2 ^ 63) ≤ i ∧ i < 2 ^ 63 ∧ seqIndex? i xs.length = some k ∧ xs[k]? = some y ∧ Q y (upd H l (.lst (xs.eraseIdx k)))
def rReverse : V → List V → Hp → VK → Prop := fun x vs H Q => ∃ l xs, x = .ref l ∧ vs = [] ∧ H l = some (.lst xs) ∧ Q .non (upd H l (.lst xs.reverse))
def rClear : V → List V → Hp → VK → Prop := fun x vs H Q => ∃ l xs, x = .ref l ∧ vs = [] ∧ H l = some (.lst xs) ∧ Q .non (upd H l (.lst []))
/-! ### list + list, list += list, list * int -/
def rCat : R2 := fun x y H Q => ∃ l b xs zs, x = .ref l ∧ y = .ref b ∧ H l = some (.lst xs) ∧ H b = some (.lst zs) ∧ xs.length + zs.length ≤ sizeLine ∧ ∀ p, H p = none → Q (.ref p) (upd H p (.lst (xs ++ zs)))
theorem op_cat : OpR X (binaryOp .Add) rCat := by
  intro pins s σ H x y v u Q I rx ry h
  obtain ⟨l, b, xs, zs, rfl, rfl, hH, hB, hz, q⟩ := h
  cases rx
  cases ry
  obtain ⟨z, its, n, r, hl, e⟩ := I.lstM hH
  obtain ⟨z2, its2, n2, r2, hl2, e2⟩ := I.lstM hB
  refine PySem.P.add_list e e2 ?_ (by rw [List.size_toArray, List.size_toArray]; omega)
  have ea : its.toArray ++ its2.toArray = (its ++ its2).toArray := by simp
  rw [ea]
  exact ⟨.ref _, _, I.lnew (t' := s.toks) (r.append r2) (by rw [List.length_append]; omega), rfl, q _ I.fresh⟩
/-- a list times an int (a negative one is nothing) -/
def rRep : R2 := fun x y H Q => ∃ l k xs, x = .ref l ∧ y = .int k ∧ H l = some (.lst xs) ∧ -(2 ^ 63) ≤ k ∧ k < 2 ^ 63 ∧ xs.length * k.toNat ≤ sizeLine ∧
  ∀ p, H p = none → Q (.ref p) (upd H p (.lst (List.replicate k.toNat xs).flatten))
theorem len_rep {α : Type} (xs : List α) (k : Nat) : (List.replicate k xs).flatten.length = k * xs.length := by
  induction k with
  | zero => simp
  | succ k ih => rw [List.replicate_succ, List.flatten_cons, List.length_append, ih, Nat.succ_mul, Nat.add_comm]
theorem op_rep : OpR X (binaryOp .Mult) rRep := by
  intro pins s σ H x y v u Q I rx ry h
  obtain ⟨l, k, xs, rfl, rfl, hH, h1, h2, hz, q⟩ := h
  cases rx
  obtain ⟨t, rfl⟩ := ry
  obtain ⟨z, its, n, r, hl, e⟩ := I.lstM hH
  have hlen : its.toArray.size * k.toNat ≤ sizeLine := by rw [List.size_toArray, ← hl]; exact hz
  have hcap : ¬ its.toArray.size * k.toNat > (2 ^ 63 - 1) / 8 := by
    have : (sizeLine : Nat) ≤ (2 ^ 63 - 1) / 8 := by decide
    omega
  have hfit : ¬ (!Builtin.List.listFitsIndex k) = true := by
    rw [fitsIndex_both h1 h2]
    exact Bool.false_ne_true
  have hlong : ¬ Builtin.List.listTooLong (its.toArray.size * k.toNat) = true := by
    rw [notLongL hlen]
    exact Bool.false_ne_true
  have hnew : List.foldl (fun x1 x2 => x1 ++ x2) #[] (List.replicate (if its.toArray.isEmpty = true then 0 else k.toNat) its.toArray) = (List.replicate k.toNat its).flatten.toArray := by
    have f0 : ∀ m : Nat, List.foldl (fun x1 x2 => x1 ++ x2) #[] (List.replicate m its.toArray) = (List.replicate m its).flatten.toArray := fun m => by
      have := foldl_rep its m []
      rw [List.nil_append] at this
      exact this
    rw [f0]
    cases its with
    | nil => simp
    | cons a r' => rw [if_neg (by simp)]
  refine wpAny_binaryOp_repeat_ref (T := "list") (U := "int") (by decide) ⟨_, e, rfl⟩ (fun s' => typeIs_int s' k t) noFill_list_mul F.fills_int_mul F.slot_int_rmul repeat_list F.slot_int_index.lookup
    (call_meets F.slot_int_rmul (typeIs_int s k t) F.entry_int_rmul (F.args_int_rmul_2 _ _) (int___rmul___int_list k t l its.toArray n)
      ⟨e, rfl, ⟨_, e, rfl⟩, call_meets F.slot_list_mul ⟨_, e, rfl⟩ F.entry_list_mul (F.args_list_mul_2 _ _) (AutoListH.list___mul___list_int_3 l its.toArray n k t hfit hcap hlong) ⟨e, ?_⟩⟩)
  rw [hnew]
  exact ⟨.ref _, _, I.lnew (t' := s.toks) (r.rep k.toNat) (by rw [len_rep, Nat.mul_comm]; exact hz), rfl, q _ I.fresh⟩

/-! ### del xs[i] -/
end

/-! ### xs[a:b] = ys -/
section
variable {prog : Program} {w : World} {A : Around} {E : Value → Shared → Prop} {s : Shared}
end

section
variable {X : Cx}
end
end L2

namespace Att
open PySem PySem.W PySem.Calls PyProof.Rows

/-! ### the script -/
theorem ints_of_wellAll {P : Params} {h : Heap} : ∀ (ns : List Int) (vs : List Value), WellAll P h vs (ns.map WData.int) → IntsAre vs ns := by
  intro ns
  induction ns with
  | nil =>
    intro vs w
    rw [List.map_nil] at w
    cases w
    exact .nil
  | cons n ns ih =>
    intro vs w
    rw [List.map_cons] at w
    cases w with
    | cons a b =>
      cases a
      exact .cons _ _ (ih _ b)

theorem script_of {l : OpenLaw} {n : Nat} (hn : l.most = some n) {P : Params} {h : Heap} {args : List WData} {vals : List Value}
    (hpre : l.row.toRowW.claim.pre args = true) (hwl : WellAll P h vals args) :
    ∃ a vs ns, vals = [Value.ref a] ∧ args = [WData.list (ns.map WData.int)] ∧ h.get? a = some { cls := .type "list", data := .seq vs.toArray } ∧ IntsAre vs ns ∧ ns.length ≤ n := by
  have hsh : WShape.hasAll [] args [.list .int] = true := (pre_splitW hpre).1
  have hc : l.pre.holds [] { args := args } = true := (pre_splitW hpre).2
  obtain ⟨d, r, rfl, h1, h2⟩ := hasAllW_cons hsh
  obtain rfl := hasAllW_nil h2
  obtain ⟨xs, rfl, h3⟩ := hasW_list h1
  obtain ⟨ns, rfl⟩ := items_int h3
  have hlen : ns.length ≤ n := by
    unfold OpenLaw.pre at hc
    have h4 : (WTm.not (.lt (.lit (.int (n : Int))) (.len (.arg 0)))).holds [] { args := [.list (ns.map .int)] } = true := by
      have h4 := (holds_andW hc).1
      rw [hn] at h4
      exact h4
    have h5 := condW_of h4 (w_not (w_lt w_lit (w_len_list (w_arg rfl))))
    rw [List.length_map] at h5
    refine Nat.le_of_not_lt fun q => ?_
    have q' : (n : Int) < ((ns.length : Nat) : Int) := by omega
    first
      | (rw [decide_eq_true q'] at h5; exact absurd h5 (by decide))
      | (simp at h5; omega)
  cases hwl with
  | cons w1 w2 =>
    cases w2
    cases w1 with
    | list ho hall => exact ⟨_, _, ns, rfl, rfl, ho, ints_of_wellAll ns _ hall, hlen⟩

theorem post_true (l : OpenLaw) (args : List WData) : l.row.toRowW.claim.post args (.bool true) args = true :=
  postW_of (r := l.row.toRowW) (X := (true == true))
    (show WShape.has [] (.bool true) .bool = true by first | rfl | decide | simp [WShape.has, WShape.arms, WShape.armsAll])
    (show (WTm.eq .res (.lit (.bool true))).value [] { args := args, res := some (.bool true), after := args } = some (.bool (true == true)) from w_eq_bool (w_res rfl) w_lit) rfl

/-! ### the attachment: holds_open's last premise (the goal 'hc' behind k_head) from a wpAny of the law's body -/
/-! ### rules over ANY heap (no ledger) from facts about the written part K: the library's own take a ledger (News) for what they write -/
section
variable {prog : Program} {w : World} {A : Around} {E : Value → Shared → Prop} {s : Shared} {K : Frag}

/-! the whole heap as the ledger: makes every rule that writes through a ledger a rule over any heap -/
def noObjs (h : Heap) : Heap := { h with objs := #[] }
def ledger (h : Heap) (L d : Addr) : List (Addr × Obj) := (List.range h.objs.size).filterMap fun a => if a = L ∨ a = d then none else (h.get? a).map fun o => (a, o)
end
end Att

namespace L2
open PySem PySem.Spec PyProof.Rows

theorem vals_ints : ∀ {vs : List Value} {ns : List Int}, IntsAre vs ns → Vals (ns.map V.int) vs
  | _, _, .nil => .nil
  | _, _, .cons n t h => .cons ⟨t, rfl⟩ (vals_ints h)

/-- nothing is tracked but the script, known to the object (or it is an object of the module) -/
def Only (H : Hp) : Prop := ∀ b, H b = none ∨ ∃ o xs, H b = some (.frz o (.lst xs))

/-- THE HEAD: the law's promise, at the heap behind the top. F, the promise of the law's def, may use that base is part of the heap (so K.In base, base.Ns mainGlobals mg stand in Mod) -/
theorem law_call {P : Program} {w : World} {K : PySem.W.Frag} {mg mb : Str → Option Value} {CX : CXT} {k : Nat} {fa a : Addr} {fd : FuncData} {x : Str} {sp : Sp} {s₁ : Shared} {vs : List Value} {ns : List Int}
    (KX : K.In s₁.heap) (hns : s₁.heap.Ns mainGlobals mg) (hb : s₁.heap.Ns builtinsNs mb) (hbb : ∀ x : Str, x ≠ "__name__" → mb x = bootBuiltins x) (hlim : s₁.heap.NoLimit) (hg : s₁.gens = #[])
    (ha : s₁.heap.get? a = some { cls := .type "list", data := .seq vs.toArray }) (hi : IntsAre vs ns) (hl : ns.length ≤ sizeLine) (hr : Room k callerA)
    (F : ∀ base : Heap, K.In base → base.Ns mainGlobals mg → FnOk P w K mg base CX k fa fd [x] sp) (hbind : ∀ (s : Shared) (u : Value), BindsTo s fd ⟨[u], []⟩ [(x, u)])
    (hsp : ∀ H : Hp, Only H → SqL K H a (ns.map V.int) → sp [.ref a] H (fun v _ => v = .bl true) fun _ _ _ => False)
    (hCX : ∀ H e s', CX [] H s₁ (fun _ _ _ => False) e s' → False) :
    codeAny (model P w) callerA (.call (.ref fa) ⟨[.ref a], []⟩) (fun r s' => r = .ok (.ret (.bool true)) ∧ OldK s₁.heap s'.heap ∧ s'.os = s₁.os ∧ AllBare s'.gens) s₁ := by
  have rv := vals_ints hi
  have lenV := hi.length
  -- from an abstract heap in which nothing but the script may be tracked
  have core : ∀ H : Hp, Only H → SqL K H a (ns.map V.int) → HOk P w H s₁.heap → (∀ b, H b ≠ none → b = a) → (H a ≠ none → K.lookup a = none) →
      codeAny (model P w) callerA (.call (.ref fa) ⟨[.ref a], []⟩) (fun r s' => r = .ok (.ret (.bool true)) ∧ OldK s₁.heap s'.heap ∧ s'.os = s₁.os ∧ AllBare s'.gens) s₁ := by
    intro H hO hS hok hA hK
    have base_of : ∀ {b : Addr} {o : Obj}, s₁.heap.get? b = some o → H b = none → (hidT s₁.heap H).get? b = some o := fun e n => hidT_get e n
    have noA : ∀ {b : Addr} {o : Obj} {es : Array DictEntry} {ep : Nat}, s₁.heap.get? b = some o → o.data = .dict es ep → H b = none := fun {b o es ep} e d => by
      cases q : H b with
      | none => rfl
      | some u =>
        have e' : b = a := hA b (by rw [q]; simp)
        subst e'
        rw [ha] at e; cases e
        have d' : Data.seq vs.toArray _ = Data.dict es ep := d
        cases d'
    have nsK : ∀ {b : Addr} {m : Str → Option Value}, s₁.heap.Ns b m → (hidT s₁.heap H).Ns b m := fun {b m} ⟨o, es, ep, e, d, r⟩ => ⟨o, es, ep, base_of e (noA e d), d, r⟩
    have hKb : K.In (hidT s₁.heap H) := fun b o e => base_of (KX b o e) (by
      cases q : H b with
      | none => rfl
      | some u =>
        have e' : b = a := hA b (by rw [q]; simp)
        subst e'
        rw [hK (by rw [q]; simp)] at e; cases e)
    have hM : Mod K mg (hidT s₁.heap H) := ⟨hKb, nsK hns, ⟨mb, nsK hb, hbb⟩, let ⟨mc, h1, h2⟩ := hlim; ⟨mc, nsK h1, h2⟩⟩
    have e0 : Env0 P w K mg (hidT s₁.heap H) callerA [] s₁ H := ⟨rfl, hM, fun b o e => of_hidT e, Nat.le_of_eq (hidT_size _ _), trivial, fun b hb => absurd (show b ∈ ([] : List Addr) from hb) (by simp), hok, .of_eq hg⟩
    refine codeAny_mono ((F _ hKb (nsK hns)).run callerA [] s₁ H ⟨[.ref a], []⟩ [.ref a] [.ref a] _ _ hr e0 (hbind s₁ (.ref a)) (.cons rfl .nil) (hsp H hO hS)) fun r s' h => ?_
    cases r with
    | error e => exact (hCX H e s' h).elim
    | ok fl =>
      cases fl with
      | next => exact False.elim h
      | brk => exact False.elim h
      | cont => exact False.elim h
      | ret u =>
        obtain ⟨v, H', os, bare, un, hok', r', q⟩ := h
        have q' : v = .bl true := q
        subst q'
        obtain rfl : u = Value.bool true := r'
        refine ⟨rfl, OldK.of_keep fun b o e => ?_, os, bare⟩
        cases q : H b with
        | none => exact un.keep b o e q (by intro z; exact absurd (show b ∈ ([] : List Addr) from z) (by simp)) (by simp)
        | some u =>
          rcases hO b with z | ⟨ob, xs, z⟩
          · rw [q] at z; cases z
          · have z2 := un.frzs b ob _ z
            obtain ⟨e1, _⟩ := hok b _ z
            obtain ⟨e2, _⟩ := hok' b _ z2
            rw [e] at e1; cases e1
            exact e2
  cases hk : K.lookup a with
  | some o =>
    -- the script is one of the module's own objects
    have e := KX a o hk
    rw [ha] at e
    cases e
    refine core (fun _ => none) (fun _ => .inl rfl) (.inr ⟨_, vs.toArray, _, hk, rfl, rfl, rfl, by rw [List.size_toArray, lenV]; exact hl, by simpa using rv⟩) (fun b u z => by have z' : (none : Option HO) = some u := z; cases z') (fun b z => absurd rfl z) fun z => absurd rfl z
  | none =>
    refine core (fun b => if b = a then some (.frz { cls := .type "list", data := .seq vs.toArray } (.lst (ns.map V.int))) else none) (fun b => ?_) (.inl (.inr ⟨{ cls := .type "list", data := .seq vs.toArray }, if_pos rfl⟩)) (fun b u z => ?_) (fun b z => ?_) fun _ => hk
    · by_cases hb : b = a
      · exact .inr ⟨_, _, if_pos hb⟩
      · exact .inl (if_neg hb)
    · by_cases hb : b = a
      · have z' := (if_pos hb).symm.trans z
        cases z'
        subst hb
        exact ⟨ha, by rw [List.length_map]; exact hl, vs, _, rv, ha⟩
      · have z' := (if_neg hb).symm.trans z
        cases z'
    · by_cases hb : b = a
      · exact hb
      · exact absurd (if_neg hb) z
end L2

namespace L2
open PySem PySem.Spec PyProof.Rows

abbrev KOf {K : PySem.W.Frag} {h : Heap} (_ : K.In h) : PySem.W.Frag := K

end L2

/- THE LAST THEOREM (shape; LID, My.* are yours):
   My.Adr: a structure of the addresses that your layer names (classes, functions); My.Txt K t: a structure (Prop) of the equations over K;
   My.txt_mk : {K} {implicit addresses ..} (e1 : nsIn K mainGlobals "law" = some (some (.ref f))) (e2 : K.lookup f = some ⟨oc, od, .func (fnOf "law" "law" params body scope dV kV doc pm an cdv ct), sl⟩) (e3 : codeIn K cdv "law" = true) .. : ∃ t, My.Txt K t

(the tactic k_is has no namespace: write k_is) -/

/-! SHORT WORDS over the layer: a def of the text, its body, what a loop and a test want. -/
namespace L2
open PySem PySem.Spec PyProof.Rows

/-! ### the text by places -/
/-- the j-th statement of a class's body -/
def inClass (s : Stmt) (j : Nat) : Stmt := match s with
  | .ClassDef _ _ _ body _ _ _ _ _ _ _ => body.getD j (.Pass ⟨0, 0, 0, 0⟩)
  | _ => .Pass ⟨0, 0, 0, 0⟩
def defArgs (s : Stmt) : Arguments := match s with
  | .FunctionDef _ a _ _ _ _ _ _ _ _ => a
  | _ => { posonlyargs := [], args := [], vararg := none, kwonlyargs := [], kw_defaults := [], kwarg := none, defaults := [] }
def defBody (s : Stmt) : List Stmt := match s with
  | .FunctionDef _ _ b _ _ _ _ _ _ _ => b
  | _ => []
def defScope (s : Stmt) : Scope := match s with
  | .FunctionDef _ _ _ _ _ _ sc _ _ _ => sc
  | _ => { kind := .function, names := [], isGenerator := false, isCoroutine := false }

/-! ### no exception leaves a def -/
abbrev CX0 : CXT := fun _ _ _ _ _ _ => False
abbrev E0 : XK := fun _ _ _ => False
theorem pass0 {X : Cx} : Passes CX0 X E0 := fun _ _ _ _ _ _ _ h => h.elim

/-! ### a def (or method) of the text as it stands behind the top -/
structure Fun (K : PySem.W.Frag) (x qual : Str) (st : Stmt) (f : Addr) (fd : FuncData) : Prop where
  ex : ∃ (oc : Value) (od : Option Addr) (kV doc pm : Value) (an : Option Addr) (cdv ct : Value) (osl : Array (Option Value)),
    fd = PySem.W.fnOf x qual (defArgs st) (defBody st) (defScope st) .none kV doc pm an cdv ct ∧ K.lookup f = some ⟨oc, od, .func fd, osl⟩ ∧ PySem.W.codeIn K cdv qual = true
  kp : PySem.W.keepIn K (.ref f) = true
section
variable {P : Program} {w : World} {K : PySem.W.Frag} {mg : Str → Option Value} {base : Heap}
/-- THE RULE for a def: its body as a term of rules, and the reading of that term -/
theorem Fun.ok {x qual : Str} {st : Stmt} {f : Addr} {fd : FuncData} {N ps : List Str} {k : Nat} {sp : Sp} (F : Fun K x qual st f fd) (S : FnScope N ps (defScope st)) (len : ∀ vs H Q E, sp vs H Q E → vs.length = ps.length)
    (hbody : ∀ (cdv : Value) (A : Around) (outer : List Env) (s : Shared) (H : Hp) (vs : List V) (Q : VK) (E : XK), Room k (A.deeper (envOfC qual (defScope st) s.heap.objs.size f cdv)) → sp vs H Q E →
      ∃ t, PSs (cxOf CX0 P w K mg base N qual (defScope st) f cdv A outer s H E).nox (defBody st) t ∧ t { nx := fun _ H' => Q .non H', rt := Q } (start N vs) H) : FnOk P w K mg base CX0 (k + 1) f fd ps sp := by
  obtain ⟨oc, od, kV, doc, pm, an, cdv, ct, osl, rfl, lk, hcd⟩ := F.ex
  refine fn_of lk hcd S len fun A outer s H vs Q E hr hsp => ?_
  obtain ⟨t, h, q⟩ := hbody cdv A outer s H vs Q E hr hsp
  exact ⟨t, h.nox, q⟩
/-- how its arguments bind (no defaults): h is «fun _ _ _ _ _ _ us hl => match us, hl with | [_, _], _ => rfl», one _ a parameter -/
theorem Fun.binds {x qual : Str} {st : Stmt} {f : Addr} {fd : FuncData} {ps : List Str} (F : Fun K x qual st f fd)
    (h : ∀ (kV doc pm : Value) (an : Option Addr) (cdv ct : Value) (us : List Value), us.length = ps.length → bindArgs (PySem.W.fnOf x qual (defArgs st) (defBody st) (defScope st) .none kV doc pm an cdv ct) ⟨us, []⟩ = pure (ps.zip us)) : Binds K fd ps [] := by
  obtain ⟨oc, od, kV, doc, pm, an, cdv, ct, osl, rfl, lk, hcd⟩ := F.ex
  exact .all (h kV doc pm an cdv ct)
theorem fun_mk {x qual : Str} {st : Stmt} {f : Addr} {oc : Value} {od an : Option Addr} {osl : Array (Option Value)} {kV doc pm cdv ct : Value} (l : K.lookup f = some ⟨oc, od, .func (PySem.W.fnOf x qual (defArgs st) (defBody st) (defScope st) .none kV doc pm an cdv ct), osl⟩)
    (c : PySem.W.codeIn K cdv qual = true) (k : PySem.W.keepIn K (.ref f) = true) : Fun K x qual st f (PySem.W.fnOf x qual (defArgs st) (defBody st) (defScope st) .none kV doc pm an cdv ct) := ⟨⟨oc, od, kV, doc, pm, an, cdv, ct, osl, rfl, l, c⟩, k⟩
end
/-! ### expressions in short: the name that stands in the i-th slot -/
section
variable {X : Cx}
end

/-! ### tests -/
/-! ### heaps -/
/-- all that was tracked is as it was -/
def Same (H H' : Hp) : Prop := ∀ b o, H b = some o → H' b = some o
theorem Same.refl (H : Hp) : Same H H := fun _ _ h => h
theorem Same.trans {H H1 H2 : Hp} (a : Same H H1) (b : Same H1 H2) : Same H H2 := fun c o h => b c o (a c o h)
theorem Same.free {H H' : Hp} (e : Same H H') {l : Addr} (h : H' l = Option.none) : H l = Option.none := by
  cases q : H l with
  | none => rfl
  | some o =>
    rw [e l o q] at h
    cases h
theorem Same.seq {K : PySem.W.Frag} {H H' : Hp} {a : Addr} {xs : List V} (e : Same H H') (h : SqL K H a xs) : SqL K H' a xs := by
  rcases h with (h | ⟨o, h⟩) | h
  · exact .inl (.inl (e _ _ h))
  · exact .inl (.inr ⟨o, e _ _ h⟩)
  · exact .inr h

end L2

namespace L2
open PySem PySem.Spec PyProof.Rows
/-! ### lists of pairs as tables -/
section
variable {κ : Type} [DecidableEq κ]
def valV (kvs : List (κ × V)) (k : κ) : Option V := (kvs.find? fun kv => decide (kv.1 = k)).map (·.2)
/-- in its place, or at the end -/
def putK (kvs : List (κ × V)) (k : κ) (v : V) : List (κ × V) :=
  if (kvs.any fun kv => decide (kv.1 = k)) = true then kvs.map (fun kv => if kv.1 = k then (kv.1, v) else kv) else kvs ++ [(k, v)]
def dropK (kvs : List (κ × V)) (k : κ) : List (κ × V) := kvs.filter fun kv => decide (kv.1 ≠ k)

theorem RelO.getD {o : Option V} {u : Option Value} {d : V} {d' : Value} (r : RelO o u) (rd : RelV d d') : RelV (o.getD d) (u.getD d') := by
  cases o with
  | none => cases u with
    | none => exact rd
    | some _ => exact (show False from r).elim
  | some _ => cases u with
    | none => exact (show False from r).elim
    | some _ => exact r

theorem KV.any {kvs : List (κ × V)} {vs : List (κ × Value)} (r : KV kvs vs) (k : κ) : (kvs.any fun kv => decide (kv.1 = k)) = vs.any fun kv => decide (kv.1 = k) := by
  unfold KV at r
  induction r with
  | nil => rfl
  | cons h t ih => rw [List.any_cons, List.any_cons, ih, h.1]
theorem KV.drop {kvs : List (κ × V)} {vs : List (κ × Value)} (r : KV kvs vs) (k : κ) : KV (dropK kvs k) (without vs k) := by
  unfold KV at r ⊢
  unfold dropK without
  induction r with
  | nil => exact .nil
  | @cons p q ps qs h t ih =>
    obtain ⟨h1, h2⟩ := h
    rw [List.filter_cons, List.filter_cons]
    by_cases e : p.1 = k
    · have a : ¬ decide (p.1 ≠ k) = true := by simp [e]
      have b : ¬ decide (q.1 ≠ k) = true := by simp [h1.symm.trans e]
      rw [if_neg a, if_neg b]; exact ih
    · have e' : ¬ q.1 = k := fun z => e (h1.trans z)
      have a : decide (p.1 ≠ k) = true := by simp [e]
      have b : decide (q.1 ≠ k) = true := by simp [e']
      rw [if_pos a, if_pos b]; exact .cons ⟨h1, h2⟩ ih
theorem KV.keys {kvs : List (κ × V)} {vs : List (κ × Value)} (r : KV kvs vs) : kvs.map (·.1) = vs.map (·.1) := by
  unfold KV at r
  induction r with
  | nil => rfl
  | cons h t ih => rw [List.map_cons, List.map_cons, ih, h.1]
theorem KV.length {kvs : List (κ × V)} {vs : List (κ × Value)} (r : KV kvs vs) : kvs.length = vs.length := Paired.length r
end


/-! ### a tracked dict, its keys ints and texts or tuples of these -/
/-- raw entries of a dict with tuple keys -/
abbrev KT (H : Hp) : List (List Key × V) → List (List Key × Addr × Value) → Prop := Paired fun p q => p.1 = q.1 ∧ H q.2.1 = some (.tup (p.1.map kV)) ∧ RelV p.2 q.2.2
theorem KT.keeps {H H' : Hp} {kvs : List (List Key × V)} {xs : List (List Key × Addr × Value)} (r : KT H kvs xs) (ht : ∀ b ys, H b = some (.tup ys) → H' b = some (.tup ys)) : KT H' kvs xs :=
  Paired.mapP r fun _ _ z => ⟨z.1, ht _ _ z.2.1, z.2.2⟩

section
variable {P : Program} {w : World} {H : Hp} {h : Heap} {a : Addr}
end

/-- what the dict at a holds at the key y -/
def DGet (H : Hp) (a : Addr) (y : V) (r : Option V) : Prop :=
  (∃ kvs k, Rd H a (.dK kvs) ∧ y = kV k ∧ r = valV kvs k) ∨ ∃ kvs k b, Rd H a (.dT kvs) ∧ y = .ref b ∧ H b = some (.tup (k.map kV)) ∧ r = valV kvs k
/-- the heap behind a[y] = v -/
def DPut (H : Hp) (a : Addr) (y v : V) (H' : Hp) : Prop :=
  (∃ kvs k, H a = some (.dK kvs) ∧ y = kV k ∧ kvs.length < sizeLine ∧ H' = upd H a (.dK (putK kvs k v))) ∨
  ∃ kvs k b, H a = some (.dT kvs) ∧ y = .ref b ∧ H b = some (.tup (k.map kV)) ∧ kvs.length < sizeLine ∧ H' = upd H a (.dT (putK kvs k v))
theorem DGet.k {H : Hp} {a : Addr} {kvs : List (Key × V)} {k : Key} (e : H a = some (.dK kvs)) : DGet H a (kV k) (valV kvs k) := .inl ⟨kvs, k, .inl e, rfl, rfl⟩
theorem DGet.t {H : Hp} {a b : Addr} {kvs : List (List Key × V)} {k : List Key} (e : H a = some (.dT kvs)) (eb : H b = some (.tup (k.map kV))) : DGet H a (.ref b) (valV kvs k) := .inr ⟨kvs, k, b, .inl e, rfl, eb, rfl⟩
theorem DPut.k {H : Hp} {a : Addr} {kvs : List (Key × V)} {k : Key} {v : V} (e : H a = some (.dK kvs)) (hl : kvs.length < sizeLine) : DPut H a (kV k) v (upd H a (.dK (putK kvs k v))) := .inl ⟨kvs, k, e, rfl, hl, rfl⟩
theorem DPut.t {H : Hp} {a b : Addr} {kvs : List (List Key × V)} {k : List Key} {v : V} (e : H a = some (.dT kvs)) (eb : H b = some (.tup (k.map kV))) (hl : kvs.length < sizeLine) :
    DPut H a (.ref b) v (upd H a (.dT (putK kvs k v))) := .inr ⟨kvs, k, b, e, rfl, eb, hl, rfl⟩


section
variable {X : Cx} {pins : List (Addr × Obj)} {σ : St} {H : Hp} {s : Shared} {a : Addr} {y v : V} {u r : Value} {o : Option V} {A : Around} {E : Value → Shared → Prop}

theorem Inv.big (I : Inv X pins σ H s) : sysModules < s.heap.objs.size := by
  have h : mainGlobals < s.heap.objs.size := (I.mod.glob.keeps I.bk).lt
  exact Nat.lt_trans (by decide) h

end

section
variable {X : Cx} {pins : List (Addr × Obj)} {σ : St} {H : Hp} {s : Shared} {a : Addr} {kvs : List (Key × V)} {k : Key} {u : Value} {A : Around} {E : Value → Shared → Prop}
end


/-! ### readings and rules -/
/-- the element of a subscription, not a slice -/
def NoSl (i : Expr) : Prop := ∀ ov iv, subscripted i false ov iv = operate [ov, iv] (getItem ov iv)
/-- d[y] -/
def tDGet (td ty : TE) : TE := fun σ H Q => td σ H fun x H1 => ty σ H1 fun y H2 => ∃ a v, x = .ref a ∧ DGet H2 a y (some v) ∧ Q v H2
/-- y in d, y not in d -/
def tDIn (ty td : TE) : TE := fun σ H Q => ty σ H fun y H1 => td σ H1 fun x H2 => ∃ a o, x = .ref a ∧ DGet H2 a y o ∧ Q (.bl o.isSome) H2
def tDNotIn (ty td : TE) : TE := fun σ H Q => ty σ H fun y H1 => td σ H1 fun x H2 => ∃ a o, x = .ref a ∧ DGet H2 a y o ∧ Q (.bl (!o.isSome)) H2
/-- d[y] = v -/
def sDPut (td ty tv : TE) : TS := fun D σ H => tv σ H fun v H1 => td σ H1 fun x H2 => ty σ H2 fun y H3 => ∃ a H4, x = .ref a ∧ DPut H3 a y v H4 ∧ D.nx σ H4
/-- d[y] op= v -/
def sDAug (td ty tv : TE) (rd : V → V → Hp → VK → Prop) : TS := fun D σ H => td σ H fun x H1 => ty σ H1 fun y H2 => ∃ a v, x = .ref a ∧ DGet H2 a y (some v) ∧
  tv σ H2 fun y2 H3 => rd v y2 H3 fun z H4 => ∃ H5, DPut H4 a y z H5 ∧ D.nx σ H5
/-- del d[y] -/
def sDDel (td ty : TE) : TS := fun D σ H => td σ H fun x H1 => ty σ H1 fun y H2 => ∃ a kvs k, x = .ref a ∧ H2 a = some (.dK kvs) ∧ y = kV k ∧ (valV kvs k).isSome = true ∧ D.nx σ (upd H2 a (.dK (dropK kvs k)))

section
variable {X : Cx} {o i e value : Expr} {pos pos' tpos : Pos} {td ty tv : TE}
end


/-! ### displays -/
theorem dk_empty {P : Program} {w : World} {H : Hp} (h : Heap) (hb : sysModules < h.objs.size) : ObjOk P w H (h.push { cls := .type "dict", data := .dict #[] }) h.objs.size (.dK []) :=
  ⟨Nat.zero_le _, beq_eq_false_iff_ne.mpr (Ne.symm (Nat.ne_of_lt hb)), [], .nil, Heap.DictOf.new h⟩
/-- {}, to be a dict of the kind that is wanted -/
def tDNewK : TE := fun _ H Q => ∀ p, H p = none → Q (.ref p) (upd H p (.dK []))
def tDNewT : TE := fun _ H Q => ∀ p, H p = none → Q (.ref p) (upd H p (.dT []))
section
variable {X : Cx} {pos : Pos}
theorem pe_dnewK : PE X (.Dict [] [] pos) tDNewK := fun pins s σ H Q I h =>
  wpAny_Dict_empty ⟨.ref s.heap.objs.size, _, I.laid (a := s.heap.objs.size) (o := .dK []) (t' := s.toks) (fun _ _ q => Heap.get?_push_of_some _ q) (Nat.le_refl _) (dk_empty s.heap I.big), rfl, h _ (I.hok.fresh (Nat.le_refl _))⟩
end

/-- the pairs of a display, from the left -/
def tPairs : List (TE × TE) → St → Hp → (List (V × V) → Hp → Prop) → Prop
  | [], _, H, Q => Q [] H
  | (tk, tv) :: r, σ, H, Q => tk σ H fun x H1 => tv σ H1 fun y H2 => tPairs r σ H2 fun ps H3 => Q ((x, y) :: ps) H3
abbrev VV : List (V × V) → List (Value × Value) → Prop := Paired fun p q => RelV p.1 q.1 ∧ RelV p.2 q.2
def PPs (X : Cx) (pos : Pos) (keys : List (Option Expr)) (values : List Expr) (trs : List (TE × TE)) : Prop :=
  ∀ (pins : List (Addr × Obj)) (s : Shared) (σ : St) (H : Hp) (Q : List (V × V) → Hp → Prop), Inv X pins σ H s → tPairs trs σ H Q →
    wpAny (model X.prog X.w) X.A (evalPairs (pairTrees keys values X.env pos)) (fun vs s' => ∃ ps H', Inv X pins σ H' s' ∧ VV ps vs ∧ Q ps H') X.xe s
def mergeK (kvs more : List (Key × V)) : List (Key × V) := more.foldl (fun acc kv => putK acc kv.1 kv.2) kvs
/-- {k: v, ..} with keys ints and texts; the new dict stands empty while the pairs are made -/
def tDisp (trs : List (TE × TE)) : TE := fun σ H Q => ∀ p, H p = none → tPairs trs σ (upd H p (.dK [])) fun ps H2 => H2 p = some (.dK []) ∧ ∃ kvs : List (Key × V), ps = kvs.map (fun kv => (kV kv.1, kv.2)) ∧ kvs.length ≤ 15 ∧ Q (.ref p) (upd H2 p (.dK (mergeK [] kvs)))
/-! ### methods -/
/-- a method call o.m(e) of a built-in, with one argument: what must be seen of the text -/
structure M1 (X : Cx) (o : Expr) (m : Str) (apos : Pos) (e : Expr) (cpos : Pos) : Prop where
  base : attributeBase o m X.env (eval o X.env) = eval o X.env
  few : ((backTo cpos (starEach [e] X.env)).all (fun x => !x.1) && (backToKw cpos (keywordEach [] X.env)).all (fun x => x.1.isSome)
    && decide (([e] : List Expr).length + ([] : List Keyword).length + (if ([] : List Keyword).isEmpty then 0 else 1) < 30)) = true
  line : (apos.endLine == cpos.line) = true
  trees : backTo cpos (starEach [e] X.env) = [(false, eval e X.env)]
structure M2 (X : Cx) (o : Expr) (m : Str) (apos : Pos) (e f : Expr) (cpos : Pos) : Prop where
  base : attributeBase o m X.env (eval o X.env) = eval o X.env
  few : ((backTo cpos (starEach [e, f] X.env)).all (fun x => !x.1) && (backToKw cpos (keywordEach [] X.env)).all (fun x => x.1.isSome)
    && decide (([e, f] : List Expr).length + ([] : List Keyword).length + (if ([] : List Keyword).isEmpty then 0 else 1) < 30)) = true
  line : (apos.endLine == cpos.line) = true
  trees : backTo cpos (starEach [e, f] X.env) = [(false, eval e X.env), (false, eval f X.env)]

/-- a is a dict, whatever its keys -/
def IsD (H : Hp) (a : Addr) : Prop := (∃ kvs, Rd H a (.dK kvs)) ∨ ∃ kvs, Rd H a (.dT kvs)
section
variable {X : Cx} {pins : List (Addr × Obj)} {σ : St} {H : Hp} {s : Shared} {a : Addr} {y d : V} {u r : Value} {o : Option V} {A : Around} {E : Value → Shared → Prop}
end

def tDGet1 (td ty : TE) : TE := fun σ H Q => td σ H fun x H1 => ∃ a, x = .ref a ∧ IsD H1 a ∧ ty σ H1 fun y H2 => ∃ o, DGet H2 a y o ∧ Q (o.getD .non) H2
def tDGet2 (td ty tx : TE) : TE := fun σ H Q => td σ H fun x H1 => ∃ a, x = .ref a ∧ IsD H1 a ∧ ty σ H1 fun y H2 => tx σ H2 fun z H3 => ∃ o, DGet H3 a y o ∧ Q (o.getD z) H3
/-- d.pop(k): there; d.pop(k, x): there or not -/
def tDPop1 (td ty : TE) : TE := fun σ H Q => td σ H fun x H1 => ∃ a, x = .ref a ∧ IsD H1 a ∧ ty σ H1 fun y H2 => ∃ kvs k v, H2 a = some (.dK kvs) ∧ y = kV k ∧ valV kvs k = some v ∧ Q v (upd H2 a (.dK (dropK kvs k)))
def tDPop2 (td ty tx : TE) : TE := fun σ H Q => td σ H fun x H1 => ∃ a, x = .ref a ∧ IsD H1 a ∧ ty σ H1 fun y H2 => tx σ H2 fun z H3 => ∃ kvs k, H3 a = some (.dK kvs) ∧ y = kV k ∧
  (∀ v, valV kvs k = some v → Q v (upd H3 a (.dK (dropK kvs k)))) ∧ (valV kvs k = none → Q z H3)
section
variable {X : Cx} {o e f : Expr} {apos cpos : Pos} {td ty tx : TE}
end

/-! ### dict(d): a copy -/
section
variable {X : Cx} {pins : List (Addr × Obj)} {σ : St} {H : Hp} {s : Shared} {a : Addr} {kvs : List (Key × V)} {A : Around} {E : Value → Shared → Prop}
end


section
variable {X : Cx} {pins : List (Addr × Obj)} {σ : St} {H : Hp} {s : Shared} {a : Addr} {y : V} {u : Value} {A : Around} {E : Value → Shared → Prop}
end
section
variable {X : Cx}
end
/-! ### a dict's pairs: keys that differ -/
section
variable {κ : Type} [DecidableEq κ]
end
end L2

/-! own rules over the layer -/
namespace L2
open PySem PySem.Spec PyProof.Rows
open PySem.Builtin.Int (intBits)

section
variable {X : Cx} {a b c : Expr} {ta tb tc : TE} {pos : Pos}
/-! ### ints of many figures -/
theorem op_mulB : OpR X (binaryOp .Mult) (rI IntMulOk fun i j => .int (i * j)) := opI fun _ _ _ _ _ _ _ hc q => mul_int q hc
def CFd (i j : Int) : Prop := j ≠ 0 ∧ intBits j ≤ 9000
theorem log_of_bits {j : Int} (h : j ≠ 0) (hb : intBits j ≤ 9000) : j.natAbs.log2 < 9000 := by
  have h1 := intBits_le_iff.mp hb
  exact (Nat.log2_lt (by omega)).mpr h1
theorem op_fdivF : OpR X (binaryOp .FloorDiv) (rI CFd fun i j => .int (i.fdiv j)) := opI fun i j _ _ _ _ _ hc q =>
  floordiv_int hc.1 q (.inl (PyProof.noPylong_of_log2 (log_of_bits hc.1 hc.2)))
def CDv (i j : Int) : Prop := 0 < j ∧ intBits j ≤ 9000
/-! ### isinstance, by built-in types -/
inductive Ty where
  | non | bl | int | str | lst | tup | dct
  deriving DecidableEq
def Ty.nm : Ty → String
  | .non => "NoneType" | .bl => "bool" | .int => "int" | .str => "str" | .lst => "list" | .tup => "tuple" | .dct => "dict"
def tyNm (H : Hp) : V → Option Ty
  | .non => some .non
  | .bl _ => some .bl
  | .int _ => some .int
  | .str _ => some .str
  | .ref a => match H a with
    | some (.lst _) => some .lst
    | some (.frz _ (.lst _)) => some .lst
    | some (.tup _) => some .tup
    | some (.dK _) => some .dct
    | some (.dT _) => some .dct
    | _ => none
  | _ => none
def isSubT (t T : Ty) : Bool := decide (t = T) || (decide (t = .bl) && decide (T = .int))
theorem tyNm_of {K : PySem.W.Frag} {H : Hp} {x : V} {t : Ty} (h : tyNm H x = some t) : TyOf K H x (.type t.nm) := by
  cases x with
  | non => cases h; exact .non
  | bl b => cases h; exact .bl b
  | int i => cases h; exact .int i
  | str s => cases h; exact .str s
  | byt b => cases h
  | flt b => cases h
  | ty n => cases h
  | ref a =>
    unfold tyNm at h
    cases e : H a with
    | none => simp [e] at h
    | some o =>
      cases o with
      | lst xs => simp [e] at h; subst h; exact .lst e
      | tup xs => simp [e] at h; subst h; exact .tup e
      | dK kvs => simp [e] at h; subst h; exact .dK e
      | dT kvs => simp [e] at h; subst h; exact .dT e
      | frz ob u =>
        cases u with
        | lst xs => simp [e] at h; subst h; exact .frz e
        | _ => simp [e] at h
      | _ => simp [e] at h
theorem kit_of {K : PySem.W.Frag} (t T : Ty) : PySem.W.kitOne K (.type t.nm) (.type T.nm) = some (isSubT t T) := by
  cases t <;> cases T <;> rfl
def rIsT (T : Ty) : List V → Hp → VK → Prop := fun xs H Q => match xs with
  | [x, .ty n] => n = T.nm ∧ ∃ t, tyNm H x = some t ∧ Q (.bl (isSubT t T)) H
  | _ => False
theorem call_isT (T : Ty) : CallR X (.builtin "isinstance") (rIsT T) := by
  intro pins s σ H xs us Q I r h
  match xs, r, h with
  | [x, .ty n], r, h =>
    obtain ⟨rfl, t, ht, q⟩ := h
    obtain ⟨u, v, rfl, r1, r2⟩ := vals2 r
    cases (show v = Value.type T.nm from r2)
    exact isinst_ok I r1 (tyNm_of ht) (kit_of t T) fun tk => ⟨.bl _, H, I.tok tk, rfl, q⟩

/-! ### deep equality -/
mutual
inductive Deep (K : PySem.W.Frag) (H : Hp) : V → PyData → Prop
  | non : Deep K H .non .none
  | bl (b : Bool) : Deep K H (.bl b) (.bool b)
  | int (i : Int) : Deep K H (.int i) (.int i)
  | str (x : Str) : Deep K H (.str x) (.str x)
  | lst {a : Addr} {xs : List V} {ds : List PyData} : SqL K H a xs → DeepAll K H xs ds → Deep K H (.ref a) (.list ds)
  | tup {a : Addr} {xs : List V} {ds : List PyData} : SqT K H a xs → DeepAll K H xs ds → Deep K H (.ref a) (.tuple ds)
inductive DeepAll (K : PySem.W.Frag) (H : Hp) : List V → List PyData → Prop
  | nil : DeepAll K H [] []
  | cons {x : V} {xs : List V} {d : PyData} {ds : List PyData} : Deep K H x d → DeepAll K H xs ds → DeepAll K H (x :: xs) (d :: ds)
end
section
variable {pins : List (Addr × Obj)} {σ : St} {H : Hp} {s : Shared}
mutual
theorem Inv.reads (I : Inv X pins σ H s) : ∀ {v : V} {d : PyData} {u : Value}, Deep X.K H v d → RelV v u → ∃ as, Reads s.heap u d as
  | _, _, _, .non, r => by cases (show _ = Value.none from r); exact ⟨_, .none⟩
  | _, _, _, .bl b, r => by cases (show _ = Value.bool b from r); exact ⟨_, .bool b⟩
  | _, _, _, .int i, r => by obtain ⟨t, rfl⟩ := r; exact ⟨_, .int i t⟩
  | _, _, _, .str x, r => by obtain ⟨t, rfl⟩ := r; exact ⟨_, .str x t⟩
  | _, _, _, .lst (a := a) hs ha, r => by
    cases (show _ = Value.ref a from r)
    obtain ⟨its, rv, ⟨o, n, e, c, _, dd⟩, _⟩ := I.list hs
    obtain ⟨as, q⟩ := Inv.readsAll I ha rv
    exact ⟨_, .list e c dd (by simpa using q)⟩
  | _, _, _, .tup (a := a) hs ha, r => by
    cases (show _ = Value.ref a from r)
    obtain ⟨its, rv, ⟨o, e, c, n, dd⟩, _⟩ := I.tuple hs
    obtain ⟨as, q⟩ := Inv.readsAll I ha rv
    exact ⟨_, .tuple e c dd (by simpa using q)⟩
theorem Inv.readsAll (I : Inv X pins σ H s) : ∀ {vs : List V} {ds : List PyData} {us : List Value}, DeepAll X.K H vs ds → Vals vs us → ∃ as, ReadsAll s.heap us ds as
  | _, _, _, .nil, .nil => ⟨_, .nil⟩
  | _, _, _, .cons h t, .cons r q => by
    obtain ⟨as, x⟩ := Inv.reads I h r
    obtain ⟨bs, y⟩ := Inv.readsAll I t q
    exact ⟨_, .cons x y⟩
end
end
def rEqD (K : PySem.W.Frag) : R2 := fun x y H Q => ∃ d e, Deep K H x d ∧ Deep K H y e ∧ SeqAt.shaped d = true ∧ SeqAt.shaped e = true ∧ Q (.bl (PyData.eqv d e)) H
def rNeD (K : PySem.W.Frag) : R2 := fun x y H Q => ∃ d e, Deep K H x d ∧ Deep K H y e ∧ SeqAt.shaped d = true ∧ SeqAt.shaped e = true ∧ Q (.bl (!PyData.eqv d e)) H
theorem op_eqD (hu : X.A.units + 64 < cLine) : OpR X (compareOp .Eq) (rEqD X.K) := by
  intro pins s σ H x y v u Q I rx ry h
  obtain ⟨d, e, hd, he, sd, se, q⟩ := h
  obtain ⟨as, ra⟩ := I.reads hd rx
  obtain ⟨bs, rb⟩ := I.reads he ry
  exact eq_dataH ra rb sd se hu ⟨.bl _, H, I, rfl, q⟩
theorem op_neD (hu : X.A.units + 64 < cLine) : OpR X (compareOp .NotEq) (rNeD X.K) := by
  intro pins s σ H x y v u Q I rx ry h
  obtain ⟨d, e, hd, he, sd, se, q⟩ := h
  obtain ⟨as, ra⟩ := I.reads hd rx
  obtain ⟨bs, rb⟩ := I.reads he ry
  exact ne_dataH ra rb sd se hu ⟨.bl _, H, I, rfl, q⟩
end

/-! ### range(a, b, c) -/
def Itr3 (lo c : Int) (n : Nat) : It := ⟨fun i _ => i < n, fun i H x H' => H' = H ∧ x = .int (lo + i * c), fun i _ => n ≤ i⟩
theorem turn_range3 {P : Program} {w : World} {K : PySem.W.Frag} {tg : Expr} (it : Addr) (lo c : Int) (n : Nat) : Turn P w K tg (Itr3 lo c n) [it] it (fun i h => IsRangeIter h it (lo + (i : Nat) * c) ((n : Int) - (i : Nat)) c) where
  mem := by simp
  obj := fun i h st b hb => by
    have e : b = it := by simpa using hb
    subst e
    exact ⟨_, st, fun v z => by
      have z' : Data.fields _ = Data.cell v := z
      cases z'⟩
  keep := fun i h h' st k => k it (by simp) _ st
  item := by
    intro X hP hw hK hc i pins s σ H E I hf st hg
    subst hP hw hK
    obtain ⟨f0, f1, f2, f3, f4, f5⟩ := hf it (by simp)
    have W := Walks.range (prog := X.prog) (w := X.w) (I.ok.hd hc) it lo c n
    refine W.item i s _ _ hg st fun v h' tk hv st' kk => ?_
    obtain ⟨t, rfl⟩ := hv
    have I1 : Inv X pins σ H { s with heap := h', toks := tk } := I.turned (fun b o hb e => kk b o (by simpa using hb) e) f0 f1 f3 f4 f5
    exact ⟨_, rfl, go_of (s := { s with heap := h', toks := tk }) (n := "range_iterator") st' rfl rfl (by decide) ⟨.int (lo + i * c), H, I1, ⟨t, rfl⟩, ⟨rfl, rfl⟩, st', fun b hb => (hf b hb).1⟩⟩
  done := by
    intro X hP hw hK hc i pins s σ H E I hf st hg
    subst hP hw hK
    obtain ⟨f0, f1, f2, f3, f4, f5⟩ := hf it (by simp)
    exact wpAny_pyNext_range_end (I.ok.hd hc) st (by have : n ≤ i := hg; omega) fun h' eb => ⟨rfl, I.turned (t' := s.toks) (fun b o hb e => eb b o hb e) f0 f1 f3 f4 f5⟩
  self := fun _ _ _ _ _ st h => wpAny_pyIter_rangeiter st h
/-- so many turns -/
def rngN (lo hi c : Int) : Nat := (Builtin.Range.rangeSize lo hi c).toNat
theorem rngN_pos {lo hi c : Int} (hc : 0 < c) : rngN lo hi c = if lo < hi then ((hi - lo - 1) / c + 1).toNat else 0 := by
  unfold rngN Builtin.Range.rangeSize
  rw [if_pos (show c > 0 from hc)]
  split <;> rfl
theorem small_step {a b c : Int} (hc : 0 < c) (hc' : c < 2 ^ 30) (ha : 0 ≤ a) (ha' : a < 2 ^ 32) (hb : 0 ≤ b) (hb' : b < 2 ^ 32) : Builtin.Range.small a b c = true := by
  have hq : (b - a - 1) / c ≤ b - a - 1 ∨ b - a - 1 < 0 := by
    by_cases h : b - a - 1 < 0
    · exact .inr h
    · exact .inl (Int.ediv_le_self _ (by omega))
  have hq0 : a < b → 0 ≤ (b - a - 1) / c := fun h => Int.ediv_nonneg (by omega) (by omega)
  have hm : a < b → (b - a - 1) / c * c ≤ b - a - 1 := fun h => Int.ediv_mul_le _ (by omega)
  unfold Builtin.Range.small Builtin.Range.rangeSize
  simp only [Builtin.Range.rangeFitsLong, Bool.and_eq_true, Bool.or_eq_true, decide_eq_true_eq, beq_iff_eq, show c > 0 from hc, if_true]
  split
  · rename_i hlt
    have q1 := hq0 hlt
    have q2 := hm hlt
    generalize hz : (b - a - 1) / c = z at *
    have e : (z + 1) * c = z * c + c := by rw [Int.add_mul, Int.one_mul]
    first
      | omega
      | (refine ⟨?_, ?_⟩ <;> omega)
  · omega
section
variable {X : Cx} {tg : Expr}
def iRng3 (ta : TA) : TI := fun σ H R => ta σ H fun vs H1 => ∃ i j c : Int, vs = [.int i, .int j, .int c] ∧ (0 ≤ i ∧ i < 2 ^ 32 ∧ 0 ≤ j ∧ j < 2 ^ 32 ∧ 0 < c ∧ c < 2 ^ 30) ∧ R (Itr3 i c (rngN i j c)) H1
theorem pi_range3 {a b c : Expr} {ta : TA} {p pos : Pos} (hg : Gl X "range") (hm : X.mg "range" = none) (ha : PA X [a, b, c] ta) (hs : starEach [a, b, c] X.env = [(false, eval a X.env), (false, eval b X.env), (false, eval c X.env)] := by rfl)
    (hs2 : starEach [b, c] X.env = [(false, eval b X.env), (false, eval c X.env)] := by rfl) :
    PI X tg (.Call (.Name "range" p) [a, b, c] [] pos) (iRng3 ta) := by
  intro pins s σ H R I h
  refine Call_ (ld_blt I hg hm boot_range (PyProof.Rows.callWith_type1 (thn (ha pos pins s σ H _ I h) fun us s1 ⟨vs, H1, I1, r1, q1⟩ => ?_) (by rw [hs, hs2]) (by rw [hs2]; rfl)))
  obtain ⟨i, j, k, e, ⟨q1, q2, q3, q4, q5, q6⟩, q⟩ := q1
  subst e
  cases r1 with
  | cons r rr =>
    cases rr with
    | cons r' rr =>
      cases rr with
      | cons r'' rr =>
        cases rr
        obtain ⟨t, rfl⟩ := r
        obtain ⟨t', rfl⟩ := r'
        obtain ⟨t'', rfl⟩ := r''
        refine call_range_3 (by omega) ?_ (.inl (PyProof.noPylong_small (by omega)))
        have hsm := small_step q5 q6 q1 q2 q3 q4
        refine wpAny_pyIter_range (IsRange.new ..) hsm ?_
        have I2 : Inv X pins σ H1 { s1 with heap := s1.heap.push { cls := .type "range", data := .fields #[.int i t, .int j t', .int k t''] }, toks := s1.toks } := I1.kept fun b o e => Heap.get?_push_of_some _ e
        refine ⟨(s1.heap.push { cls := .type "range", data := .fields #[.int i t, .int j t', .int k t''] }).objs.size, [(s1.heap.push { cls := .type "range", data := .fields #[.int i t, .int j t', .int k t''] }).objs.size], _, _, H1, rfl,
          I2.kept (t' := s1.toks) fun b o e => Heap.get?_push_of_some _ e, turn_range3 _ i k (rngN i j k), ?_, fun b hb => ?_, q⟩
        · have e1 : i + ((0 : Nat) : Int) * k = i := by simp
          have e2 : ((rngN i j k : Nat) : Int) - ((0 : Nat) : Int) = Builtin.Range.rangeSize i j k := by
            have : 0 ≤ Builtin.Range.rangeSize i j k := by
              unfold Builtin.Range.rangeSize
              rw [if_pos (show k > 0 from q5)]
              split
              · have := Int.ediv_nonneg (a := j - i - 1) (b := k) (by omega) (by omega)
                omega
              · exact Int.le_refl _
            unfold rngN
            omega
          show IsRangeIter _ _ (i + ((0 : Nat) : Int) * k) (((rngN i j k : Nat) : Int) - ((0 : Nat) : Int)) k
          rw [e1, e2]
          exact Heap.get?_push_size _ rfl
        · have e : b = (s1.heap.push { cls := .type "range", data := .fields #[.int i t, .int j t', .int k t''] }).objs.size := by simpa using hb
          subst e
          exact I2.fpOk (Nat.le_refl _) (I2.hok.fresh (Nat.le_refl _))
end
/-! ### loops, kept shut for simp -/
def ForW (J : It) (g : TG) (tb : TS) (D : Ends) (σ : St) (H : Hp) : Prop := ∃ W : Nat → Nat → St → Hp → Prop, (∃ m, W 0 m σ H) ∧ ∀ i m σ H, W i m σ H →
  (J.stop i H ∧ D.nx σ H) ∨ (J.go i H ∧ ∃ N : St → Hp → Prop, (∀ σ' H', N σ' H' → ∃ m', m' < m ∧ W (i + 1) m' σ' H') ∧ ∀ x H', J.yld i H x H' → g x σ H' fun σ2 H2 => tb { D with nx := N, ct := N, bk := D.nx } σ2 H2)
def tForW (wi : TI) (g : TG) (tb : TS) : TS := fun D σ H => wi σ H fun J H1 => ForW J g tb D σ H1
theorem ps_forW {X : Cx} {tg iter : Expr} {body : List Stmt} {wi : TI} {g : TG} {tb : TS} {pos : Pos} (hp : PassesOwn (model X.prog X.w) X.A X.env X.xe) (hc : X.calm = true) (hi : PI X tg iter wi) (hg : PG X tg g) (hb : PSs X body tb)
    (hs : ∀ x, foldedSetIterable iter X.env x = pure x := by intro _; rfl) : PS X (.For tg iter body [] pos) (tForW wi g tb) := ps_for hp hc hi hg hb hs
theorem forW_list {K : PySem.W.Frag} {a : Addr} {xs : List V} {g : TG} {tb : TS} {D : Ends} {σ : St} {H : Hp} (Pv : Nat → St → Hp → Prop) (h0 : Pv 0 σ H) (hl : ∀ i σ H, i ≤ xs.length → Pv i σ H → SqL K H a xs)
    (hs : ∀ i x σ H, xs[i]? = some x → Pv i σ H → g x σ H fun σ2 H2 => tb { D with nx := Pv (i + 1), ct := Pv (i + 1), bk := D.nx } σ2 H2) (hd : ∀ σ H, Pv xs.length σ H → D.nx σ H) : ForW (Itl K a) g tb D σ H := for_list Pv h0 hl hs hd
theorem forW_range3 {lo c : Int} {n : Nat} {g : TG} {tb : TS} {D : Ends} {σ : St} {H : Hp} (Pv : Nat → St → Hp → Prop) (h0 : Pv 0 σ H)
    (hs : ∀ i σ H, i < n → Pv i σ H → g (.int (lo + i * c)) σ H fun σ2 H2 => tb { D with nx := Pv (i + 1), ct := Pv (i + 1), bk := D.nx } σ2 H2) (hd : ∀ σ H, Pv n σ H → D.nx σ H) : ForW (Itr3 lo c n) g tb D σ H := by
  refine ⟨fun i m σ H => m = n - i ∧ i ≤ n ∧ Pv i σ H, ⟨n, by simp, Nat.zero_le _, h0⟩, ?_⟩
  rintro i m σ H ⟨rfl, hi, p⟩
  by_cases hlt : i < n
  · refine .inr ⟨hlt, Pv (i + 1), fun σ' H' p' => ⟨n - (i + 1), by omega, rfl, hlt, p'⟩, fun x H' y => ?_⟩
    obtain ⟨e, y⟩ := y
    subst e y
    exact hs i σ _ hlt p
  · have e : i = n := by omega
    subst e
    exact .inl ⟨Nat.le_refl _, hd σ H p⟩
/-- while, kept shut -/
def WhileW (c : TT) (tb : TS) (D : Ends) (σ : St) (H : Hp) : Prop := ∃ W : Nat → St → Hp → Prop, (∃ m, W m σ H) ∧ ∀ m σ H, W m σ H →
  c σ H fun b H1 => if b = true then tb { D with nx := fun σ' H' => ∃ m', m' < m ∧ W m' σ' H', ct := fun σ' H' => ∃ m', m' < m ∧ W m' σ' H', bk := D.nx } σ H1 else D.nx σ H1
def tWhileW (c : TT) (tb : TS) : TS := fun D σ H => WhileW c tb D σ H
theorem ps_whileW {X : Cx} {c : Expr} {body : List Stmt} {tc : TT} {tb : TS} {pos : Pos} (hp : PassesOwn (model X.prog X.w) X.A X.env X.xe) (hc : PT X c tc) (hb : PSs X body tb) : PS X (.While c body [] pos) (tWhileW tc tb) := by
  intro pins s σ H D I h
  obtain ⟨W, ⟨m0, w0⟩, turn⟩ := h
  refine wpAny_While (codeAny_whileLoop (fun n s' => ∃ σ' H', Inv X pins σ' H' s' ∧ W n σ' H') ?_ m0 ⟨σ, H, I, w0⟩)
  rintro n s1 ⟨σ1, H1, I1, w1⟩
  refine wpAny_passesOwn hp (thn (hc pins s1 σ1 H1 _ I1 (turn n σ1 H1 w1)) fun b s2 ⟨H2, I2, q2⟩ => ?_)
  cases b with
  | true =>
    rw [if_pos rfl]
    refine wpAny_passesOwn hp (thn (hb pins s2 σ1 H2 _ I2 q2) fun f s3 q3 => ?_)
    cases f with
    | next =>
      obtain ⟨σ3, H3, I3, m', hm, w3⟩ := q3
      exact ⟨m', hm, σ3, H3, I3, w3⟩
    | cont =>
      obtain ⟨σ3, H3, I3, m', hm, w3⟩ := q3
      exact ⟨m', hm, σ3, H3, I3, w3⟩
    | brk => exact q3
    | ret v => exact q3
  | false =>
    rw [if_neg Bool.false_ne_true]
    exact wpAny_execs_nil ⟨σ1, H2, I2, q2⟩
theorem whileW_by {c : TT} {tb : TS} {D : Ends} {σ : St} {H : Hp} (Pv : Nat → St → Hp → Prop) (m0 : Nat) (h0 : Pv m0 σ H)
    (hs : ∀ m σ H, Pv m σ H → c σ H fun b H1 => if b = true then tb { D with nx := fun σ' H' => ∃ m', m' < m ∧ Pv m' σ' H', ct := fun σ' H' => ∃ m', m' < m ∧ Pv m' σ' H', bk := D.nx } σ H1 else D.nx σ H1) : WhileW c tb D σ H :=
  ⟨Pv, ⟨m0, h0⟩, hs⟩
end L2

/-! ### the script's bits -/
namespace Att
open PySem PySem.W PySem.Calls PyProof.Rows
open PySem.Builtin.Int (intBits)
theorem bits_of_lay {ns : List Int} (h : WData.layableAll [WData.list (ns.map WData.int)] = true) : ∀ n ∈ ns, intBits n ≤ 1048576 := by
  intro n hn
  have h1 := layableW_arg h _ (List.mem_singleton.mpr rfl)
  have h2 := layableW_item h1 (WData.int n) (List.mem_map.mpr ⟨n, hn, rfl⟩)
  have h3 := (layableW_iff.mp h2).2.2
  exact h3
theorem attach_callB {l : OpenLaw} {n : Nat} {q : Program} {loose : List Str} {XP : (Str → Option Value) → Heap → Prop} {YP : World → Heap → Prop} {d : DefRec}
    (hn : l.most = some n) (hdf : d.params.defaults = [])
    (call : ∀ (w : World) (s₀ s₁ : Shared) (mg mb : Str → Option Value) (fa : Addr) (o : Obj) (pm cd doc : Value) (a : Addr) (vs : List Value) (ns : List Int),
      Ground q loose [] XP w s₀ mg mb s₁.heap → YP w s₁.heap →
      s₁.heap.get? fa = some o → o.data = .func (docDef d.name d.params d.body d.scope pm cd doc) → s₁.heap.CodeRec cd d.name → mg d.name = some (.ref fa) →
      s₁.heap.get? a = some { cls := .type "list", data := .seq vs.toArray } → IntsAre vs ns → ns.length ≤ n → (∀ x ∈ ns, intBits x ≤ 1048576) → s₁.gens = #[] →
      codeAny (model l.prog w) callerA (.call (.ref fa) ⟨[.ref a], []⟩) (fun r s' => r = .ok (.ret (.bool true)) ∧ OldK s₁.heap s'.heap ∧ s'.os = s₁.os ∧ AllBare s'.gens) s₁) :
    WalkO q loose XP YP l.row.toRowW d [] (fun f vs => PySem.call f vs) := by
  intro w s₀ s₁ mg mb G Y fa o pm cd doc dV kV ho hd hcd hD hmg hg args vals as hpre hlay hrd hwl hlo
  obtain rfl : dV = .none := Dflts.none hD hdf
  obtain rfl : kV = .none := Dflts.noKw hD
  obtain ⟨a, vs, ns, rfl, rfl, hobj, hints, hlen⟩ := script_of hn hpre hwl
  refine enter_call (codeAny_mono (call w s₀ s₁ mg mb fa o pm cd doc a vs ns G Y ho (fd_plain hd) hcd hmg hobj hints hlen (bits_of_lay hlay) hg) fun r s' hq => ?_)
  obtain ⟨rfl, h2, h3, h4⟩ := hq
  exact ⟨.inl ⟨.bool true, .bool true, [], rfl, fun _ => rfl, .bool true, post_true l _, fun _ => ⟨List.Pairwise.nil, fun _ hm => (nomatch hm)⟩⟩, h2, h3, h4⟩
end Att
namespace L2
open PySem PySem.Spec PyProof.Rows
open PySem.Builtin.Int (intBits)
/-- the law's own promise: a list of at most n ints of at most 2 ^ 20 bits is handed in, True comes out -/
def spLawOf (n : Nat) (K : PySem.W.Frag) : Sp := fun vs H Q _ => ∃ (a : Addr) (ns : List Int), vs = [.ref a] ∧ SqL K H a (ns.map V.int) ∧ ns.length ≤ n ∧ (∀ x ∈ ns, intBits x ≤ 1048576) ∧ Only H ∧ ∀ H', Q (.bl true) H'
theorem walk_ofB {l : PySem.W.OpenLaw} {k : Nat} {q : Program} {loose : List Str} {XP : (Str → Option Value) → Heap → Prop} {YP : World → Heap → Prop} {d : DefRec} {K : Params → PySem.W.Frag} {CX : World → CXT} {x : Str}
    (hn : l.most = some 63) (hdf : d.params.defaults = []) (hr : Room k callerA)
    (hY : ∀ (w : World) (h : Heap), YP w h → (K w.params).In h)
    (F : ∀ (w : World) (mg : Str → Option Value) (fa : Addr) (h : Heap), (K w.params).In h → h.Ns mainGlobals mg → mg d.name = some (.ref fa) →
      ∃ fd : FuncData, (∀ (s : Shared) (u : Value), BindsTo s fd ⟨[u], []⟩ [(x, u)]) ∧
        ∀ base : Heap, (K w.params).In base → base.Ns mainGlobals mg → FnOk l.prog w (K w.params) mg base (CX w) k fa fd [x] (spLawOf 63 (K w.params)))
    (hCX : ∀ (w : World) (H : Hp) (s : Shared) (e : Value) (s' : Shared), CX w [] H s (fun _ _ _ => False) e s' → False) :
    PySem.W.WalkO q loose XP YP l.row.toRowW d [] (fun f vs => PySem.call f vs) := by
  refine Att.attach_callB hn hdf fun w s₀ s₁ mg mb fa o pm cd doc a vs ns G Y ho hd hcd hmg hobj hints hlen hbits hg => ?_
  have KX := hY w _ Y
  obtain ⟨fd, hb, hF⟩ := F w mg fa _ KX G.T.g hmg
  exact law_call KX G.T.g G.T.b G.T.builtins G.T.nolimit hg hobj hints (Nat.le_trans hlen (by decide)) hr hF hb (fun H hO hS => ⟨a, ns, rfl, hS, hlen, hbits, hO, fun _ => rfl⟩) fun H e s' => hCX w H s₁ e s'
end L2
namespace L2
open PySem PySem.Spec PyProof.Rows
theorem Same.upd {H : Hp} {p : Addr} {o : HO} (h : H p = none) : Same H (upd H p o) := fun b u e => by
  rw [upd_ne (ne_of_none e h)]; exact e
/-- a mark that keeps simp out of what it marks -/
structure Tag {α : Type} (a : α) : Type where
/-- a new object: its address, the heap with it -/
def New (H : Hp) (o : HO) (Q : VK) (_ : Tag Q) : Prop := ∀ p H1, H p = none → Same H H1 → H1 p = some o → Q (.ref p) H1
/-- whatever comes back as C tells -/
def All (C : V → Hp → Prop) (Q : VK) (_ : Tag C) (_ : Tag Q) : Prop := ∀ v H1, C v H1 → Q v H1
theorem New.raw {H : Hp} {o : HO} {Q : VK} {t : Tag Q} (h : New H o Q t) : ∀ p, H p = none → Q (.ref p) (L2.upd H p o) := fun p e => h p _ e (Same.upd e) upd_same
theorem cxOf_K {CX : CXT} {P : Program} {w : World} {K : PySem.W.Frag} {mg : Str → Option Value} {base : Heap} {N : List Str} {qual : Str} {scope : Scope} {f : Addr} {cd : Value} {A : Around} {outer : List Env} {s : Shared} {H : Hp} {E : XK} : (cxOf CX P w K mg base N qual scope f cd A outer s H E).K = K := rfl
section
variable {X : Cx} {es : List Expr} {t : TA} {pos : Pos}
def tTupS (t : TA) : TE := fun σ H Q => t σ H fun xs H1 => xs.length ≤ sizeLine ∧ New H1 (.tup xs) Q ⟨⟩
def tLstS (t : TA) : TE := fun σ H Q => t σ H fun xs H1 => xs.length ≤ sizeLine ∧ New H1 (.lst xs) Q ⟨⟩
end
section
variable {X : Cx} {a b c : Expr} {ta tb tc : TE} {pos : Pos}
/-! ### operations by what the values are -/
def rAddM : R2 := fun x y H Q => match x, y with
  | .int i, .int j => Q (.int (i + j)) H
  | .str u, .str v => u.length + v.length ≤ sizeLine ∧ Q (.str (u ++ v)) H
  | .ref l, .ref b => ∃ xs zs, H l = some (.lst xs) ∧ H b = some (.lst zs) ∧ xs.length + zs.length ≤ sizeLine ∧ New H (.lst (xs ++ zs)) Q ⟨⟩
  | _, _ => False
theorem op_addM : OpR X (binaryOp .Add) rAddM := by
  intro pins s σ H x y v u Q I rx ry h
  cases x <;> cases y <;> first
    | exact False.elim h
    | exact op_add pins s σ H _ _ v u Q I rx ry ⟨_, _, rfl, rfl, h⟩
    | exact op_add_str pins s σ H _ _ v u Q I rx ry ⟨_, _, rfl, rfl, h.1, h.2⟩
    | (obtain ⟨xs, zs, h1, h2, h3, h4⟩ := h
       exact op_cat pins s σ H _ _ v u Q I rx ry ⟨_, _, _, _, rfl, rfl, h1, h2, h3, h4.raw⟩)
def rMulM : R2 := fun x y H Q => match x, y with
  | .int i, .int j => IntMulOk i j ∧ Q (.int (i * j)) H
  | .ref l, .int k => ∃ xs, H l = some (.lst xs) ∧ -(2 ^ 63) ≤ k ∧ k < 2 ^ 63 ∧ xs.length * k.toNat ≤ sizeLine ∧ New H (.lst (List.replicate k.toNat xs).flatten) Q ⟨⟩
  | _, _ => False
theorem op_mulM : OpR X (binaryOp .Mult) rMulM := by
  intro pins s σ H x y v u Q I rx ry h
  cases x <;> cases y <;> first
    | exact False.elim h
    | exact op_mulB pins s σ H _ _ v u Q I rx ry ⟨_, _, rfl, rfl, h.1, h.2⟩
    | (obtain ⟨xs, h1, h2, h3, h4, h5⟩ := h
       exact op_rep pins s σ H _ _ v u Q I rx ry ⟨_, _, _, rfl, rfl, h1, h2, h3, h4, h5.raw⟩)
def rEqM (K : PySem.W.Frag) : R2 := fun x y H Q => if scal x y = true then Q (.bl (decide (x = y))) H else rEqD K x y H Q
def rNeM (K : PySem.W.Frag) : R2 := fun x y H Q => if scal x y = true then Q (.bl (!decide (x = y))) H else rNeD K x y H Q
theorem op_eqM (hu : X.A.units + 64 < cLine) : OpR X (compareOp .Eq) (rEqM X.K) := by
  intro pins s σ H x y v u Q I rx ry h
  unfold rEqM at h
  by_cases hs : scal x y = true
  · rw [if_pos hs] at h
    exact op_eq pins s σ H x y v u Q I rx ry ⟨hs, h⟩
  · rw [if_neg hs] at h
    exact op_eqD hu pins s σ H x y v u Q I rx ry h
theorem op_neM (hu : X.A.units + 64 < cLine) : OpR X (compareOp .NotEq) (rNeM X.K) := by
  intro pins s σ H x y v u Q I rx ry h
  unfold rNeM at h
  by_cases hs : scal x y = true
  · rw [if_pos hs] at h
    exact op_ne pins s σ H x y v u Q I rx ry ⟨hs, h⟩
  · rw [if_neg hs] at h
    exact op_neD hu pins s σ H x y v u Q I rx ry h
/-- xs[i] of what is tracked -/
def rIxM : R2 := fun x y H Q => match x, y with
  | .ref p, .int i => (match H p with
    | some (.tup xs) => ∃ v, atI xs i = some v ∧ Q v H
    | some (.lst xs) => ∃ v, atI xs i = some v ∧ Q v H
    | _ => False)
  | .str z, .int i => ∃ c, z.length ≤ sizeLine ∧ atI z.cps.toList i = some c ∧ Q (.str ⟨#[c]⟩) H
  | _, _ => False
theorem ix_M : IxR X rIxM := by
  intro value slice pins s σ H x y v u Q I rx ry h hs
  cases x with
  | ref p =>
    cases y with
    | int i =>
      have h' : (match H p with
        | some (.tup xs) => ∃ v, atI xs i = some v ∧ Q v H
        | some (.lst xs) => ∃ v, atI xs i = some v ∧ Q v H
        | _ => False) := h
      split at h'
      · rename_i xs e
        obtain ⟨z, h2, h3⟩ := h'
        exact ix_tup value slice pins s σ H _ _ v u Q I rx ry ⟨_, xs, _, z, rfl, rfl, SqT.of e, h2, h3⟩ hs
      · rename_i xs e
        obtain ⟨z, h2, h3⟩ := h'
        exact ix_list value slice pins s σ H _ _ v u Q I rx ry ⟨_, xs, _, z, rfl, rfl, SqL.of e, h2, h3⟩ hs
      · exact h'.elim
    | _ => exact False.elim h
  | str z =>
    cases y with
    | int i =>
      obtain ⟨c, h1, h2, h3⟩ := h
      exact ix_str value slice pins s σ H _ _ v u Q I rx ry ⟨_, _, c, rfl, rfl, h1, h2, h3⟩ hs
    | _ => exact False.elim h
  | _ => exact False.elim h
def rSlM : V → Option Int → Option Int → Hp → VK → Prop := fun x lo hi H Q => match x with
  | .ref a => (match H a with
    | some (.lst xs) => New H (.lst (cutV xs lo hi)) Q ⟨⟩
    | _ => False)
  | _ => False
theorem sl_M : SlR X rSlM := by
  intro pins s σ H x v vl vu lo hi sl Q I rx hs pl pu h
  cases x with
  | ref a =>
    have h' : (match H a with
      | some (.lst xs) => New H (.lst (cutV xs lo hi)) Q ⟨⟩
      | _ => False) := h
    split at h'
    · rename_i xs e
      exact sl_list pins s σ H _ v vl vu lo hi sl Q I rx hs pl pu ⟨_, xs, rfl, SqL.of e, h'.raw⟩
    · exact h'.elim
  | _ => exact False.elim h
/-- .. of what is read (the script) -/
def rSlK (K : PySem.W.Frag) : V → Option Int → Option Int → Hp → VK → Prop := fun x lo hi H Q => ∃ a xs, x = .ref a ∧ SqL K H a xs ∧ New H (.lst (cutV xs lo hi)) Q ⟨⟩
def rLenM : List V → Hp → VK → Prop := fun xs H Q => match xs with
  | [.ref p] => (match H p with
    | some (.lst ys) => Q (.int ys.length) H
    | some (.tup ys) => Q (.int ys.length) H
    | _ => False)
  | [.str z] => z.length ≤ sizeLine ∧ Q (.int z.length) H
  | _ => False
theorem call_lenM : CallR X (.builtin "len") rLenM := by
  intro pins s σ H xs us Q I r h
  match xs, r, h with
  | [.ref p], r, h =>
    have h' : (match H p with
      | some (.lst ys) => Q (.int ys.length) H
      | some (.tup ys) => Q (.int ys.length) H
      | _ => False) := h
    split at h'
    · rename_i ys e
      exact call_len_seq pins s σ H _ us Q I r ⟨p, ys, rfl, .inl (SqL.of e), h'⟩
    · rename_i ys e
      exact call_len_seq pins s σ H _ us Q I r ⟨p, ys, rfl, .inr (SqT.of e), h'⟩
    · exact h'.elim
  | [.str z], r, h => exact call_len_str pins s σ H _ us Q I r ⟨z, rfl, h.1, h.2⟩
theorem call_lenK : CallR X (.builtin "len") (fun xs H Q => ∃ p ys, xs = [.ref p] ∧ SqL X.K H p ys ∧ Q (.int ys.length) H) := by
  intro pins s σ H xs us Q I r h
  obtain ⟨p, ys, e, h1, h2⟩ := h
  exact call_len_seq pins s σ H _ us Q I r ⟨p, ys, e, .inl h1, h2⟩
theorem scal_ii {i j : Int} : scal (.int i) (.int j) = true := rfl
theorem scal_ss {i j : Str} : scal (.str i) (.str j) = true := rfl
theorem scal_bb {i j : Bool} : scal (.bl i) (.bl j) = true := rfl
theorem scal_nn : scal .non .non = true := rfl
theorem scal_rr {i j : Addr} : scal (.ref i) (.ref j) = false := rfl
theorem tyNm_i {H : Hp} {i : Int} : tyNm H (.int i) = some .int := rfl
theorem tyNm_s {H : Hp} {i : Str} : tyNm H (.str i) = some .str := rfl
theorem tyNm_b {H : Hp} {i : Bool} : tyNm H (.bl i) = some .bl := rfl
theorem tyNm_n {H : Hp} : tyNm H .non = some .non := rfl
theorem tyNm_r {H : Hp} {a : Addr} : tyNm H (.ref a) = (match H a with
    | some (.lst _) => some .lst
    | some (.frz _ (.lst _)) => some .lst
    | some (.tup _) => some .tup
    | some (.dK _) => some .dct
    | some (.dT _) => some .dct
    | _ => none) := rfl
theorem two_line : 2 ≤ sizeLine := by decide
theorem atI_c0 {α : Type} {x : α} {xs : List α} : atI (x :: xs) 0 = some x := atI_nat (j := 0) rfl
theorem atI_c1 {α : Type} {x y : α} {xs : List α} : atI (x :: y :: xs) 1 = some y := atI_nat (j := 1) rfl
theorem atI_c2 {α : Type} {x y z : α} {xs : List α} : atI (x :: y :: z :: xs) 2 = some z := atI_nat (j := 2) rfl
theorem atI_c3 {α : Type} {x y z u : α} {xs : List α} : atI (x :: y :: z :: u :: xs) 3 = some u := atI_nat (j := 3) rfl
theorem ite_and_same {p q A B : Prop} [Decidable p] [Decidable q] : (if p then (if q then A else B) else B) = (if p ∧ q then A else B) := by
  by_cases hp : p <;> by_cases hq : q <;> simp [hp, hq]
theorem ite_or_same {p q A B : Prop} [Decidable p] [Decidable q] : (if p then A else (if q then A else B)) = (if p ∨ q then A else B) := by
  by_cases hp : p <;> by_cases hq : q <;> simp [hp, hq]
end
section
variable {X : Cx} {es : List Expr} {t : TA} {pos : Pos}
/-- an argument list's reading may be weakened -/
def MonoA (t : TA) : Prop := ∀ σ H (Q Q' : List V → Hp → Prop), (∀ v H1, Q v H1 → Q' v H1) → t σ H Q → t σ H Q'
theorem PA.weak {t : TA} (h : PA X es t) {u : TA} (q : ∀ σ H (Q : List V → Hp → Prop), u σ H Q → t σ H Q) : PA X es u := fun pos pins s σ H Q I hu => h pos pins s σ H Q I (q σ H Q hu)
theorem pe_tupS {x1} (h : PA X es t) : PE X (.Tuple es x1 pos) (tTupS t) := by
  intro pins s σ H Q I hq
  refine wpAny_Tuple_spliced (thn (h pos pins s σ H _ I hq) fun us s1 ⟨xs, H1, I1, r, z, q⟩ => ⟨by rw [← r.length]; exact z, ?_⟩)
  have hf : H1 s1.heap.objs.size = none := I1.hok.fresh (Nat.le_refl _)
  refine ⟨.ref s1.heap.objs.size, upd H1 s1.heap.objs.size (.tup xs), I1.laid (t' := s1.toks) (fun b u e => Heap.get?_push_of_some _ e) (Nat.le_refl _) ?_, rfl, q.raw _ hf⟩
  exact ⟨z, us, r, ⟨_, Heap.get?_push_size _ rfl, rfl, _, rfl⟩⟩
theorem pe_lstS (h : PA X es t) : PE X (.List es pos) (tLstS t) := by
  intro pins s σ H Q I hq
  refine wpAny_List_spliced (thn (h pos pins s σ H _ I hq) fun us s1 ⟨xs, H1, I1, r, z, q⟩ => ⟨by rw [← r.length]; exact z, ?_⟩)
  have hf : H1 s1.heap.objs.size = none := I1.hok.fresh (Nat.le_refl _)
  refine ⟨.ref s1.heap.objs.size, upd H1 s1.heap.objs.size (.lst xs), I1.laid (t' := s1.toks) (fun b u e => Heap.get?_push_of_some _ e) (Nat.le_refl _) ?_, rfl, q.raw _ hf⟩
  exact ⟨z, us, 0, r, Heap.get?_push_size _ rfl⟩
end
theorem Same.tup {K : PySem.W.Frag} {H H' : Hp} {a : Addr} {xs : List V} (e : Same H H') (h : SqT K H a xs) : SqT K H' a xs := by
  rcases h with (h | ⟨o, h⟩) | h
  · exact .inl (.inl (e _ _ h))
  · exact .inl (.inr ⟨o, e _ _ h⟩)
  · exact .inr h
end L2

/-! readings that compute: a match in the place of an existential -/
namespace L2
open PySem PySem.Spec PyProof.Rows
open PySem.Builtin.Int (intBits)
section
variable {X : Cx} {e a b c : Expr} {es rest : List Expr} {pos : Pos} {tg iter : Expr}
theorem PE.weak {t u : TE} (h : PE X e t) (q : ∀ σ H Q, u σ H Q → t σ H Q) : PE X e u := fun pins s σ H Q I hu => h pins s σ H Q I (q σ H Q hu)
theorem PT.weak {t u : TT} (h : PT X e t) (q : ∀ σ H Q, u σ H Q → t σ H Q) : PT X e u := fun pins s σ H Q I hu => h pins s σ H Q I (q σ H Q hu)
theorem PI.weak {t u : TI} (h : PI X tg iter t) (q : ∀ σ H Q, u σ H Q → t σ H Q) : PI X tg iter u := fun pins s σ H Q I hu => h pins s σ H Q I (q σ H Q hu)
theorem OpR.weak {f : Value → Value → Sem Value} {r r' : R2} (h : OpR X f r) (q : ∀ x y H Q, r' x y H Q → r x y H Q) : OpR X f r' := fun pins s σ H x y v u Q I rx ry hr => h pins s σ H x y v u Q I rx ry (q x y H Q hr)
theorem UnR.weak {f : Value → Sem Value} {r r' : V → Hp → VK → Prop} (h : UnR X f r) (q : ∀ x H Q, r' x H Q → r x H Q) : UnR X f r' := fun pins s σ H x v Q I rx hr => h pins s σ H x v Q I rx (q x H Q hr)
theorem CallR.weak {f : Value} {r r' : List V → Hp → VK → Prop} (h : CallR X f r) (q : ∀ xs H Q, r' xs H Q → r xs H Q) : CallR X f r' := fun pins s σ H xs us Q I rx hr => h pins s σ H xs us Q I rx (q xs H Q hr)
theorem IxR.weak {r r' : R2} (h : IxR X r) (q : ∀ x y H Q, r' x y H Q → r x y H Q) : IxR X r' := fun value slice pins s σ H x y v u Q I rx ry hr hs => h value slice pins s σ H x y v u Q I rx ry (q x y H Q hr) hs

def tVarF (i : Nat) : TE := fun σ H Q => match σ[i]? with
  | some (some v) => Q v H
  | _ => False
theorem pvF (i : Nat) {x : Str} {pos : Pos} (hN : X.N[i]? = some x := by rfl) (hv : Vis X.env.scope x := by first | exact Or.inl rfl | exact Or.inr (Or.inl rfl) | exact Or.inr (Or.inr rfl)) (hd : (x == ("__debug__" : Str)) = false := by decide)
    (hcd : (x == ("__classdict__" : Str)) = false := by decide) : PE X (.Name x pos) (tVarF i) := (pe_var hN hv hd hcd).weak fun σ H Q h => by
  unfold tVarF at h
  split at h
  · rename_i v e
    exact ⟨v, e, h⟩
  · exact h.elim
def rIF (C : Int → Int → Prop) (g : Int → Int → V) : R2 := fun x y H Q => match x, y with
  | .int i, .int j => C i j ∧ Q (g i j) H
  | _, _ => False
def rI0F (g : Int → Int → V) : R2 := fun x y H Q => match x, y with
  | .int i, .int j => Q (g i j) H
  | _, _ => False
theorem rIF_of {C : Int → Int → Prop} {g : Int → Int → V} : ∀ x y H Q, rIF C g x y H Q → rI C g x y H Q := fun x y H Q h => by
  cases x <;> cases y <;> first | exact False.elim h | exact ⟨_, _, rfl, rfl, h⟩
theorem rI0F_of {g : Int → Int → V} : ∀ x y H Q, rI0F g x y H Q → rI0 g x y H Q := fun x y H Q h => by
  cases x <;> cases y <;> first | exact False.elim h | exact ⟨_, _, rfl, rfl, h⟩
theorem of_sub : OpR X (binaryOp .Sub) (rI0F fun i j => .int (i - j)) := op_sub.weak rI0F_of
theorem of_fdiv : OpR X (binaryOp .FloorDiv) (rIF CFd fun i j => .int (i.fdiv j)) := op_fdivF.weak rIF_of
theorem of_mod : OpR X (binaryOp .Mod) (rIF (fun _ j => j ≠ 0) fun i j => .int (i.fmod j)) := op_modN.weak rIF_of
theorem of_pow : OpR X (binaryOp .Pow) (rIF CPow fun i j => .int (i ^ j.toNat)) := op_pow.weak rIF_of
theorem of_lt : OpR X (compareOp .Lt) (rI0F fun i j => .bl (decide (i < j))) := op_lt.weak rI0F_of
theorem of_le : OpR X (compareOp .LtE) (rI0F fun i j => .bl (decide (i ≤ j))) := op_le.weak rI0F_of
theorem of_gt : OpR X (compareOp .Gt) (rI0F fun i j => .bl (decide (j < i))) := op_gt.weak rI0F_of
def rUF (g : Int → V) : V → Hp → VK → Prop := fun x H Q => match x with
  | .int i => Q (g i) H
  | _ => False
theorem of_neg : UnR X (unaryOp .USub) (rUF fun i => .int (-i)) := un_neg.weak fun x H Q h => by
  cases x <;> first | exact False.elim h | exact ⟨_, rfl, h⟩
def tBF (t : TE) : TT := fun σ H Q => t σ H fun x H1 => match x with
  | .bl k => Q k H1
  | _ => False
theorem pt_cmpF {op : CmpOp} {r : R2} {ta tb : TE} (ho : OpR X (compareOp op) r) (ha : PE X a ta) (hb : PE X b tb) (hm : behindInMarks op b = false) : PT X (.Compare a [op] [b] pos) (tBF (tOp r ta tb)) := by
  intro pins s σ H Q I h
  refine (pt_cmpR (ho.weak (r' := fun x y H Q => r x y H Q) fun _ _ _ _ z => z) ha hb hm) pins s σ H _ I ?_
  unfold tTest
  exact h |> fun h => by
    unfold tBF at h
    have e : (fun (x : V) (H1 : Hp) => match x with | .bl k => Q k H1 | _ => False) = fun x H1 => ∃ k, x = V.bl k ∧ Q k H1 := by
      funext x H1
      cases x <;> simp
    rw [e] at h
    exact h
theorem pt_valF {t : TE} (h : PE X e t) (he : ∀ whole, isTrue e X.env whole = (do let v ← whole; standAt e.pos; holding [v] (truthy v)) := by intro _; rfl) : PT X e (tBF t) := by
  intro pins s σ H Q I hw
  refine (pt_val h he) pins s σ H _ I ?_
  unfold tB
  unfold tBF at hw
  have e : (fun (x : V) (H1 : Hp) => match x with | .bl k => Q k H1 | _ => False) = fun x H1 => ∃ k, x = V.bl k ∧ Q k H1 := by
    funext x H1
    cases x <;> simp
  rw [e] at hw
  exact hw
def tAndF (ta tb : TE) : TE := fun σ H Q => ta σ H fun x H1 => match x with
  | .bl c => if c = true then tb σ H1 Q else Q (.bl false) H1
  | _ => False
def tOrF (ta tb : TE) : TE := fun σ H Q => ta σ H fun x H1 => match x with
  | .bl c => if c = true then Q (.bl true) H1 else tb σ H1 Q
  | _ => False
def tNotF (ta : TE) : TE := fun σ H Q => ta σ H fun x H1 => match x with
  | .bl c => Q (.bl (!c)) H1
  | _ => False
theorem pe_andF {ta tb : TE} (ha : PE X a ta) (hb : PE X (.BoolOp .And (b :: rest) pos) tb) : PE X (.BoolOp .And (a :: b :: rest) pos) (tAndF ta tb) := by
  intro pins s σ H Q I h
  refine (pe_and ha hb) pins s σ H Q I ?_
  unfold tAndV
  unfold tAndF at h
  have e : (fun (x : V) (H1 : Hp) => match x with | .bl c => (if c = true then tb σ H1 Q else Q (.bl false) H1) | _ => False) = fun x H1 => ∃ c, x = V.bl c ∧ if c = true then tb σ H1 Q else Q (.bl false) H1 := by
    funext x H1
    cases x <;> simp
  rw [e] at h
  exact h
theorem pe_orF {ta tb : TE} (ha : PE X a ta) (hb : PE X (.BoolOp .Or (b :: rest) pos) tb) : PE X (.BoolOp .Or (a :: b :: rest) pos) (tOrF ta tb) := by
  intro pins s σ H Q I h
  refine (pe_or ha hb) pins s σ H Q I ?_
  unfold tOrV
  unfold tOrF at h
  have e : (fun (x : V) (H1 : Hp) => match x with | .bl c => (if c = true then Q (.bl true) H1 else tb σ H1 Q) | _ => False) = fun x H1 => ∃ c, x = V.bl c ∧ if c = true then Q (.bl true) H1 else tb σ H1 Q := by
    funext x H1
    cases x <;> simp
  rw [e] at h
  exact h
theorem pe_notF {ta : TE} (ha : PE X a ta) : PE X (.UnaryOp .Not a pos) (tNotF ta) := by
  intro pins s σ H Q I h
  refine (pe_not ha) pins s σ H Q I ?_
  unfold tNotV
  unfold tNotF at h
  have e : (fun (x : V) (H1 : Hp) => match x with | .bl c => Q (.bl (!c)) H1 | _ => False) = fun x H1 => ∃ c, x = V.bl c ∧ Q (.bl (!c)) H1 := by
    funext x H1
    cases x <;> simp
  rw [e] at h
  exact h
/-! ### loops' sources -/
def iRng1F (ta : TA) : TI := fun σ H R => ta σ H fun vs H1 => match vs with
  | [.int j] => -(2 ^ 62) ≤ j ∧ j < 2 ^ 62 ∧ R (Itr 0 j.toNat) H1
  | _ => False
def iRng2F (ta : TA) : TI := fun σ H R => ta σ H fun vs H1 => match vs with
  | [.int i, .int j] => (-(2 ^ 62) ≤ i ∧ i < 2 ^ 62 ∧ -(2 ^ 62) ≤ j ∧ j < 2 ^ 62) ∧ R (Itr i (j - i).toNat) H1
  | _ => False
def iRng3F (ta : TA) : TI := fun σ H R => ta σ H fun vs H1 => match vs with
  | [.int i, .int j, .int c] => (0 ≤ i ∧ i < 2 ^ 32 ∧ 0 ≤ j ∧ j < 2 ^ 32 ∧ 0 < c ∧ c < 2 ^ 30) ∧ R (Itr3 i c (rngN i j c)) H1
  | _ => False
theorem pi_range3F {ta : TA} {p pos : Pos} (hg : Gl X "range") (hm : X.mg "range" = none) (ha : PA X [a, b, c] ta) (hs : starEach [a, b, c] X.env = [(false, eval a X.env), (false, eval b X.env), (false, eval c X.env)] := by rfl)
    (hs2 : starEach [b, c] X.env = [(false, eval b X.env), (false, eval c X.env)] := by rfl) :
    PI X tg (.Call (.Name "range" p) [a, b, c] [] pos) (iRng3F ta) := by
  refine (pi_range3 hg hm ha hs hs2).weak fun σ H R h => ?_
  unfold iRng3
  unfold iRng3F at h
  have e : (fun (vs : List V) (H1 : Hp) => match vs with | [.int i, .int j, .int c] => (0 ≤ i ∧ i < 2 ^ 32 ∧ 0 ≤ j ∧ j < 2 ^ 32 ∧ 0 < c ∧ c < 2 ^ 30) ∧ R (Itr3 i c (rngN i j c)) H1 | _ => False) = fun vs H1 => ∃ i j c : Int, vs = [.int i, .int j, .int c] ∧ (0 ≤ i ∧ i < 2 ^ 32 ∧ 0 ≤ j ∧ j < 2 ^ 32 ∧ 0 < c ∧ c < 2 ^ 30) ∧ R (Itr3 i c (rngN i j c)) H1 := by
    funext vs H1
    refine propext ⟨fun z => ?_, fun ⟨i, j, k, e, z⟩ => by subst e; exact z⟩
    match vs, z with
    | [.int i, .int j, .int k], z => exact ⟨i, j, k, rfl, z⟩
  rw [e] at h
  exact h
def iListF (K : PySem.W.Frag) (tl : TE) : TI := fun σ H R => tl σ H fun x H1 => match x with
  | .ref a => (∃ xs, SqL K H1 a xs) ∧ R (Itl K a) H1
  | _ => False
theorem pi_listF {l : Expr} {tl : TE} (hl : PE X l tl) : PI X tg l (iListF X.K tl) := (pi_list hl).weak fun σ H R h => by
  unfold iList
  unfold iListF at h
  have e : (fun (x : V) (H1 : Hp) => match x with | .ref a => (∃ xs, SqL X.K H1 a xs) ∧ R (Itl X.K a) H1 | _ => False) = fun x H1 => ∃ a, x = .ref a ∧ (∃ xs, SqL X.K H1 a xs) ∧ R (Itl X.K a) H1 := by
    funext x H1
    cases x <;> simp
  rw [e] at h
  exact h
/-! ### the script's own -/
def rIxS0 (K : PySem.W.Frag) : R2 := fun x y H Q => match x, y with
  | .ref p, .int i => ∃ ns : List Int, SqL K H p (ns.map V.int) ∧ 0 ≤ i ∧ i < ns.length ∧ Q (.int (ns.getD i.toNat 0)) H
  | _, _ => False
theorem atI_ints {ns : List Int} {i : Int} (h0 : 0 ≤ i) (h1 : i < ns.length) : atI (ns.map V.int) i = some (.int (ns.getD i.toNat 0)) := by
  obtain ⟨j, rfl⟩ := Int.eq_ofNat_of_zero_le h0
  refine atI_nat ?_
  have hj : j < ns.length := by omega
  rw [List.getElem?_map, List.getElem?_eq_getElem hj, List.getD_eq_getElem?_getD, Int.toNat_natCast, List.getElem?_eq_getElem hj]
  rfl
theorem ix_S : IxR X (rIxS0 X.K) := ix_list.weak fun x y H Q h => by
  cases x with
  | ref p =>
    cases y with
    | int i =>
      obtain ⟨ns, h1, h2, h3, h4⟩ := h
      exact ⟨p, _, i, _, rfl, rfl, h1, atI_ints h2 h3, h4⟩
    | _ => exact False.elim h
  | _ => exact False.elim h
def rLenK (K : PySem.W.Frag) : List V → Hp → VK → Prop := fun xs H Q => match xs with
  | [.ref p] => ∃ ys, SqL K H p ys ∧ Q (.int ys.length) H
  | _ => False
theorem call_lenKF : CallR X (.builtin "len") (rLenK X.K) := call_lenK.weak fun xs H Q h => by
  match xs, h with
  | [.ref p], ⟨ys, h1, h2⟩ => exact ⟨p, ys, rfl, h1, h2⟩
def rSlKF (K : PySem.W.Frag) : V → Option Int → Option Int → Hp → VK → Prop := fun x lo hi H Q => match x with
  | .ref a => ∃ xs, SqL K H a xs ∧ New H (.lst (cutV xs lo hi)) Q ⟨⟩
  | _ => False
def tPartF (t : TE) : TO := fun σ H Q => t σ H fun x H1 => match x with
  | .int i => Q (some i) H1
  | _ => False
theorem po_someF {te : TE} (h : PE X e te) : PO X (some e) (tPartF te) := by
  intro pins s σ H Q I hw
  refine (po_some h) pins s σ H Q I ?_
  unfold tPart
  unfold tPartF at hw
  have e : (fun (x : V) (H1 : Hp) => match x with | .int i => Q (some i) H1 | _ => False) = fun x H1 => ∃ i, x = V.int i ∧ Q (some i) H1 := by
    funext x H1
    cases x <;> simp
  rw [e] at hw
  exact hw
/-! ### calls of built-ins -/
def rAbs : List V → Hp → VK → Prop := fun xs H Q => match xs with
  | [.int i] => Q (.int i.natAbs) H
  | _ => False
theorem call_absF : CallR X (.builtin "abs") rAbs := call_abs.weak fun xs H Q h => by
  match xs, h with
  | [.int i], h =>
    refine ⟨i, rfl, ?_⟩
    have e : (if i < 0 then -i else i) = (i.natAbs : Int) := by split <;> omega
    rw [e]
    exact h
def rMin : List V → Hp → VK → Prop := fun xs H Q => match xs with
  | [.int i, .int j] => Q (.int (min i j)) H
  | _ => False
def rMax : List V → Hp → VK → Prop := fun xs H Q => match xs with
  | [.int i, .int j] => Q (.int (max i j)) H
  | _ => False
def rListS (K : PySem.W.Frag) : List V → Hp → VK → Prop := fun xs H Q => match xs with
  | [.ref p] => (match H p with
    | some (.lst ys) => New H (.lst ys) Q ⟨⟩
    | some (.tup ys) => New H (.lst ys) Q ⟨⟩
    | _ => False)
  | _ => False
/-! ### existentials that are decided -/
theorem ex_at0 {α : Type} {x : α} {xs : List α} {p : α → Prop} : (∃ v, atI (x :: xs) 0 = some v ∧ p v) = p x := by
  rw [atI_c0]; simp
theorem ex_at1 {α : Type} {x y : α} {xs : List α} {p : α → Prop} : (∃ v, atI (x :: y :: xs) 1 = some v ∧ p v) = p y := by
  rw [atI_c1]; simp
theorem ex_at2 {α : Type} {x y z : α} {xs : List α} {p : α → Prop} : (∃ v, atI (x :: y :: z :: xs) 2 = some v ∧ p v) = p z := by
  rw [atI_c2]; simp
theorem ex_at3 {α : Type} {x y z u : α} {xs : List α} {p : α → Prop} : (∃ v, atI (x :: y :: z :: u :: xs) 3 = some v ∧ p v) = p u := by
  rw [atI_c3]; simp
end
end L2
namespace L2
open PySem PySem.Spec PyProof.Rows PySem.W
theorem kqdPs_ints (ns : List Int) : kqdPs (ns.map Dat.int) = ns.map PyData.int := by
  induction ns with
  | nil => rfl
  | cons n ns ih => simp only [List.map_cons, kqdPs, kqdP, ih]
theorem shaped_of {n : Nat} {d : Dat} (h : kqdOk n d = true) (hn : n ≤ 64) : SeqAt.shaped (kqdP d) = true := by
  have l := kqd_lay n d h
  unfold SeqAt.shaped
  rw [l.1, Bool.true_and]
  exact decide_eq_true (Nat.le_trans l.2 hn)
theorem eqv_of {n k : Nat} {d e : Dat} (hd : kqdOk n d = true) (he : kqdOk k e = true) {c : Bool} (hc : c = true ↔ d = e) : PyData.eqv (kqdP d) (kqdP e) = c := by
  have q := kqd_eqv n d e k hd he
  cases c with
  | true => exact q.mpr (hc.mp rfl)
  | false => exact Bool.eq_false_iff.mpr fun z => absurd (hc.mpr (q.mp z)) Bool.false_ne_true
/-- == of two data (no bools within), by their equation -/
theorem eqD_by {K : PySem.W.Frag} {H : Hp} {x y : V} {d e : Dat} {n k : Nat} {c : Bool} {Q : VK} (hd : Deep K H x (kqdP d)) (he : Deep K H y (kqdP e)) (kd : kqdOk n d = true) (ke : kqdOk k e = true) (hn : n ≤ 64) (hk : k ≤ 64) (hc : c = true ↔ d = e) (q : Q (.bl c) H) : rEqD K x y H Q :=
  ⟨_, _, hd, he, shaped_of kd hn, shaped_of ke hk, by rw [eqv_of kd ke hc]; exact q⟩
theorem deep_ints {K : PySem.W.Frag} {H : Hp} : ∀ ns : List Int, DeepAll K H (ns.map V.int) (ns.map PyData.int)
  | [] => .nil
  | n :: ns => .cons (.int n) (deep_ints ns)
theorem deep_tupI {K : PySem.W.Frag} {H : Hp} {p : Addr} {ns : List Int} (h : SqT K H p (ns.map V.int)) : Deep K H (.ref p) (kqdP (.tuple (ns.map .int))) := by
  rw [kqdP, kqdPs_ints]
  exact .tup h (deep_ints ns)
theorem map_int_inj {ns ms : List Int} : ns.map Dat.int = ms.map Dat.int ↔ ns = ms := by
  induction ns generalizing ms with
  | nil => cases ms <;> simp
  | cons n ns ih => cases ms <;> simp [ih]
theorem ok_int1 {ns : List Int} (k : Nat) : (ns.map Dat.int).all (kqdOk k) = true := by
  induction ns with
  | nil => rfl
  | cons n ns ih => rw [List.map_cons, List.all_cons, ih, Bool.and_true]; cases k <;> rfl
theorem okT_ints (ns : List Int) : kqdOk 1 (.tuple (ns.map .int)) = true := ok_int1 0
theorem eqT_ints {K : PySem.W.Frag} {H : Hp} {p q : Addr} {ns ms : List Int} {Q : VK} (hp : SqT K H p (ns.map V.int)) (hq : SqT K H q (ms.map V.int)) (h : Q (.bl (decide (ns = ms))) H) : rEqD K (.ref p) (.ref q) H Q :=
  eqD_by (deep_tupI hp) (deep_tupI hq) (okT_ints ns) (okT_ints ms) (by decide) (by decide) (by rw [decide_eq_true_eq, Dat.tuple.injEq, map_int_inj]) h
end L2
namespace L2
open PySem PySem.Spec PyProof.Rows
open PySem.Builtin.Int (intBits)
/-- a statement and what follows it, met at a word of one's own -/
def tCut (t u : TS) : TS := fun D σ H => ∃ Mid : St → Hp → Prop, t { D with nx := Mid } σ H ∧ ∀ σ' H', Mid σ' H' → u D σ' H'
theorem pss_cut {X : Cx} {st : Stmt} {rest : List Stmt} {t u : TS} (h1 : PS X st t) (h2 : PSs X rest u) : PSs X (st :: rest) (tCut t u) := by
  intro pins s σ H D I h
  obtain ⟨Mid, h, hm⟩ := h
  refine wpAny_execs_cons (thn (h1 pins s σ H { D with nx := Mid } I h) fun f s1 q => ?_)
  cases f with
  | next =>
    obtain ⟨σ', H', I', q⟩ := q
    exact h2 pins s1 σ' H' D I' (hm σ' H' q)
  | ret v => exact q
  | brk => exact q
  | cont => exact q
theorem getD_bits {ns : List Int} {n : Nat} (h : ∀ x ∈ ns, intBits x ≤ n) (k : Nat) : intBits (ns.getD k 0) ≤ n := by
  rw [List.getD_eq_getElem?_getD]
  cases e : ns[k]? with
  | none => exact Nat.zero_le _
  | some x => exact h x (List.mem_of_getElem? e)
end L2

/-! comprehensions -/
namespace L2
open PySem PySem.Spec PyProof.Rows
end L2
namespace L2
open PySem PySem.Spec PyProof.Rows
/-- the frame's names behind the block's own: one that is the same is hidden -/
def mask (x : Str) (N : List Str) : List Str := N.map fun y => if y = x then "" else y
/-- the context of a comprehension's block: its own name first, then those of the frame -/
def compCx (X : Cx) (scope : Scope) (cl : List (Str × Addr)) (C : Addr) (s₃ : Shared) (H₃ : Hp) (fp : List Addr) (x : Str) : Cx where
  prog := X.prog
  w := X.w
  K := X.K
  mg := X.mg
  base := X.base
  A := X.A
  N := x :: mask x X.N
  s₀ := s₃
  H₀ := H₃
  env := compEnvC scope cl C X.env
  outer := X.stack
  stack := X.stack
  ex := fp
  fn := fun _ => false
  calm := X.calm
  pn := []
  xe := fun _ _ => False
/-- all but D is as it was -/
def SameB (D : Addr) (H H' : Hp) : Prop := ∀ b o, b ≠ D → H b = some o → H' b = some o
theorem SameB.upd {D : Addr} {H : Hp} {o : HO} : SameB D H (upd H D o) := fun b u hb e => by rw [upd_ne hb]; exact e
/-- n turns at the most; W: by the turn, the items so far, the heap -/
def CompW (J : It) (te : TE) (D : Addr) (σ : St) (H : Hp) (Q : VK) (_ : Tag Q) : Prop := ∃ (n : Nat) (W : Nat → List V → Hp → Prop), W 0 [] H ∧ ∀ i ys H, i ≤ n → W i ys H → H D = some (.lst ys) ∧
  ((J.stop i H ∧ Q (.ref D) H) ∨ (i < n ∧ J.go i H ∧ ys.length < sizeLine ∧ ∀ x H', J.yld i H x H' → te (some x :: σ) H' fun y H2 => H2 D = some (.lst ys) ∧
    ∀ H3, SameB D H2 H3 → H3 D = some (.lst (ys ++ [y])) → W (i + 1) (ys ++ [y]) H3))
def tComp (wi : TI) (te : TE) : TE := fun σ H Q => wi σ H fun J H1 => ∀ D H2, H1 D = none → Same H1 H2 → H2 D = some (.lst []) → CompW J te D σ H2 Q ⟨⟩

/-- what a block's scope must be -/
structure CompScope (X : Cx) (scope : Scope) (x : Str) : Prop where
  kind : scope.kind = .function
  nocell : ∀ y ∈ scope.names, y.2 ≠ .cell
  loc : ∀ y ∈ scope.names, y.2 = .local → scope.names.lookup y.1 = some .local
  own : scope.names.lookup x = some .local
  free : ∀ y ∈ scope.names, y.2 = .free → X.env.kindOf y.1 = some .cell ∨ X.env.kindOf y.1 = some .free
  nd : (x :: mask x X.N).Nodup
  noe : ∀ y ∈ scope.names, y.1 ≠ ""
  vis : ∀ y ∈ mask x X.N, scope.names.lookup y ≠ some .local

section
variable {X : Cx} {scope : Scope} {x : Str} {cl : List (Str × Addr)} {pins : List (Addr × Obj)} {σ : St} {H : Hp} {s s₄ : Shared} {fp : List Addr}
end
end L2
namespace L2
open PySem PySem.Spec PyProof.Rows
section
variable {X : Cx} {scope : Scope} {x : Str} {pins : List (Addr × Obj)} {σ : St} {elt iter : Expr} {px pos : Pos} {wi : TI} {te : TE}
end
/-! ### the forms one uses -/
theorem Same.step {D : Addr} {H0 H H' : Hp} (S : Same H0 H) (n : H0 D = none) (s : SameB D H H') : Same H0 H' := fun b o e => s b o (ne_of_none e n) (S b o e)
/-- a block's scope, looked at -/
def compOk (sc scope : Scope) (x : Str) (N : List Str) : Bool :=
  (scope.kind == .function) && scope.names.all (fun y => y.2 != .cell) && scope.names.all (fun y => y.2 != .local || scope.names.lookup y.1 == some .local) && (scope.names.lookup x == some .local) &&
  scope.names.all (fun y => y.2 != .free || (sc.names.lookup y.1 == some .cell || sc.names.lookup y.1 == some .free)) && decide ((x :: mask x N).Nodup) && scope.names.all (fun y => y.1 != "") && (mask x N).all (fun y => scope.names.lookup y != some .local)
end L2
namespace L2
open PySem PySem.Spec PyProof.Rows
/-! ### methods of built-in values -/
def isLst : V → Hp → Bool := fun x H => match x with
  | .ref l => (match H l with
    | some (.lst _) => true
    | _ => false)
  | _ => false
def isStrV : V → Hp → Bool := fun x _ => match x with
  | .str _ => true
  | _ => false
theorem isStrV_ty {K : PySem.W.Frag} : ∀ x H, isStrV x H = true → tyV K "str" x H := fun x H h => by
  cases x with
  | str z => exact rfl
  | _ => cases h
def tBMF (chk : V → Hp → Bool) (r : V → List V → Hp → VK → Prop) (to : TE) (t : TA) : TE := fun σ H Q => to σ H fun x H1 => chk x H1 = true ∧ t σ H1 fun xs H2 => r x xs H2 Q
section
variable {X : Cx} {o e : Expr} {es : List Expr} {to : TE} {t : TA} {name : Str} {apos cpos : Pos} {T id : String} {r r' : V → List V → Hp → VK → Prop} {chk : V → Hp → Bool}
theorem MtR.weak (h : MtR X id r) (q : ∀ x xs H Q, r' x xs H Q → r x xs H Q) : MtR X id r' := fun pins s σ H x xs v us Q I rx rs hr => h pins s σ H x xs v us Q I rx rs (q x xs H Q hr)
theorem pe_bmF (hchk : ∀ x H, chk x H = true → tyV X.K T x H) (pa : PlainAttrs T) (slot : Slot T name id) (hty : typeOf (.builtin id) = pure (.type "method_descriptor")) (hm : MtR X id r) (ho : PE X o to) (ha : PA X (e :: es) t)
    (hbase : attributeBase o name X.env (eval o X.env) = eval o X.env := by rfl)
    (hfew : ((backTo cpos (starEach (e :: es) X.env)).all (fun x => !x.1) && (backToKw cpos (keywordEach [] X.env)).all (fun x => x.1.isSome)
      && decide ((e :: es).length + ([] : List Keyword).length + (if ([] : List Keyword).isEmpty then 0 else 1) < 30)) = true := by rfl)
    (hline : (apos.endLine == cpos.line) = true := by rfl) (hs : starEach (e :: es) X.env = (false, eval e X.env) :: starEach es X.env := by rfl) (hplain : (backTo cpos (starEach es X.env)).any (·.1) = false := by rfl) :
    PE X (.Call (.Attribute o name apos) (e :: es) [] cpos) (tBMF chk r to t) := by
  intro pins s σ H Q I h
  refine wpAny_Call_method_late hbase hfew hline rfl (thn (ho pins s σ H _ I h) fun v s1 ⟨x, H1, I1, r1, ty, q1⟩ => ?_)
  obtain ⟨h1, h2⟩ := tyV_is I1 r1 (hchk x H1 ty)
  refine ⟨T, id, pa, slot, hty, h1, h2, ?_⟩
  have hA := ha cpos pins s1 σ H1 _ I1 q1
  rw [hs] at hA ⊢
  refine Calls.callWith_builtin (by show (false || (backTo cpos (starEach es X.env)).any (·.1)) = false; rw [hplain] <;> rfl) (Calls.evalArgs_plain ?_)
  exact thn hA fun us s2 ⟨vs, H2, I2, r2, q2⟩ => hm pins s2 σ H2 x vs v us Q I2 r1 r2 q2
def rAppF : V → List V → Hp → VK → Prop := fun x vs H Q => match x, vs with
  | .ref l, [y] => (match H l with
    | some (.lst xs) => xs.length < sizeLine ∧ All (fun v H1 => v = .non ∧ SameB l H H1 ∧ H1 l = some (.lst (xs ++ [y]))) Q ⟨⟩ ⟨⟩
    | _ => False)
  | _, _ => False
end
/-! ### cuts -/
def cutG {α : Type} (xs : List α) (lo hi : Option Int) : List α := (xs.drop (HT.sIx xs.length 0 lo)).take (HT.sIx xs.length xs.length hi - HT.sIx xs.length 0 lo)
end L2
namespace L2
/-- a word that simp does not open -/
theorem opaqN (F : Nat → St → Hp → Prop) : ∃ Pv : Nat → St → Hp → Prop, (∀ i σ H, F i σ H → Pv i σ H) ∧ ∀ i σ H, Pv i σ H → F i σ H := ⟨F, fun _ _ _ h => h, fun _ _ _ h => h⟩
theorem opaq (F : St → Hp → Prop) : ∃ Pv : St → Hp → Prop, (∀ σ H, F σ H → Pv σ H) ∧ ∀ σ H, Pv σ H → F σ H := ⟨F, fun _ _ h => h, fun _ _ h => h⟩
end L2

namespace L2
open PySem PySem.Spec PyProof.Rows
open PySem.Builtin.Int (intBits)
section
variable {X : Cx}
/-! ### sum of a list of ints -/
def rSumF : List V → Hp → VK → Prop := fun xs H Q => match xs with
  | [.ref p] => (match H p with
    | some (.lst ys) => ∃ ns : List Int, ys = ns.map V.int ∧ Q (.int ns.sum) H
    | _ => False)
  | _ => False
end
/-! ### a range of a few turns, one by one -/
def chainW (g : TG) (tb : TS) (D : Ends) : Nat → Int → St → Hp → Prop
  | 0, _, σ, H => D.nx σ H
  | k + 1, x, σ, H => g (.int x) σ H fun σ2 H2 => tb { D with nx := chainW g tb D k (x + 1), ct := chainW g tb D k (x + 1), bk := D.nx } σ2 H2
/-! ### a rest of the text that simp leaves alone until it is asked -/
def Stop (p : Prop) (_ : Tag p) : Prop := p
theorem Stop.go {p : Prop} {t : Tag p} (h : p) : Stop p t := h
def tPause (t u : TS) : TS := fun D σ H => t { D with nx := fun σ' H' => Stop (u D σ' H') ⟨⟩ } σ H
theorem pss_pause {X : Cx} {st : Stmt} {rest : List Stmt} {t u : TS} (h1 : PS X st t) (h2 : PSs X rest u) : PSs X (st :: rest) (tPause t u) := pss_cons h1 h2
/-! ### what stands at some addresses, all unlike -/
def Hs (H : Hp) (fs : List (Addr × HO)) : Prop := (fs.map (·.1)).Nodup ∧ ∀ p ∈ fs, H p.1 = some p.2
def HsC (H : Hp) : List (Addr × HO) → Prop
  | [] => True
  | (a, o) :: r => H a = some o ∧ HsC H r
theorem Hs.nil {H : Hp} : Hs H [] := ⟨List.nodup_nil, fun _ h => nomatch h⟩
theorem Hs.same {H H' : Hp} {fs : List (Addr × HO)} (F : Hs H fs) (S : Same H H') : Hs H' fs := ⟨F.1, fun p hp => S _ _ (F.2 p hp)⟩
theorem Hs.fresh {H : Hp} {fs : List (Addr × HO)} {a : Addr} (F : Hs H fs) (n : H a = none) : a ∉ fs.map (·.1) := fun h => by
  obtain ⟨p, hp, e⟩ := List.mem_map.mp h
  have := F.2 p hp
  rw [e, n] at this
  cases this
theorem Hs.new {H H' : Hp} {fs : List (Addr × HO)} {a : Addr} {o : HO} (F : Hs H fs) (n : H a = none) (S : Same H H') (h : H' a = some o) : Hs H' ((a, o) :: fs) := by
  refine ⟨?_, fun p hp => ?_⟩
  · rw [List.map_cons, List.nodup_cons]
    exact ⟨F.fresh n, F.1⟩
  · rcases List.mem_cons.mp hp with rfl | hp
    · exact h
    · exact S _ _ (F.2 p hp)
theorem Hs.get {H : Hp} : ∀ {fs : List (Addr × HO)}, Hs H fs → HsC H fs
  | [], _ => trivial
  | (a, o) :: r, F => ⟨F.2 (a, o) List.mem_cons_self, Hs.get ⟨(List.nodup_cons.mp F.1).2, fun p hp => F.2 p (List.mem_cons_of_mem _ hp)⟩⟩
theorem Hs.drop {H : Hp} {l r : List (Addr × HO)} (F : Hs H (l ++ r)) : Hs H r := ⟨(List.nodup_append.mp (by rw [← List.map_append]; exact F.1)).2.1, fun p hp => F.2 p (List.mem_append_right _ hp)⟩
/-- refs to lists of ints -/
def Blks (H : Hp) (cs : List Addr) (bs : List (List Int)) : Prop := cs.length = bs.length ∧ ∀ (i : Nat) c b, cs[i]? = some c → bs[i]? = some b → H c = some (.lst (b.map V.int))
theorem Blks.same {H H' : Hp} {cs : List Addr} {bs : List (List Int)} (h : Blks H cs bs) (s : Same H H') : Blks H' cs bs := ⟨h.1, fun i c b e1 e2 => s _ _ (h.2 i c b e1 e2)⟩
theorem Blks.get {H : Hp} {cs : List Addr} {bs : List (List Int)} (h : Blks H cs bs) {i : Nat} {c : Addr} (e : cs[i]? = some c) : ∃ b, bs[i]? = some b ∧ H c = some (.lst (b.map V.int)) := by
  have hi : i < cs.length := (List.getElem?_eq_some_iff.mp e).1
  have hb : i < bs.length := by rw [← h.1]; exact hi
  exact ⟨bs[i], by simp [hb], h.2 i c _ e (by simp [hb])⟩

def dB (bs : List (List Int)) : PySem.W.Dat := .list (bs.map fun b => .list (b.map .int))
theorem Blks.two {H : Hp} {a b : Addr} {x y : List Int} (ha : H a = some (.lst (x.map V.int))) (hb : H b = some (.lst (y.map V.int))) : Blks H [a, b] [x, y] := by
  refine ⟨rfl, fun i c d e1 e2 => ?_⟩
  match i, e1, e2 with
  | 0, e1, e2 => cases e1; cases e2; exact ha
  | 1, e1, e2 => cases e1; cases e2; exact hb
  | i + 2, e1, e2 => simp at e1
/-- a new list -/
def FreshL (H : Hp) (xs : List V) (v : V) (H' : Hp) : Prop := ∃ b, v = .ref b ∧ H b = none ∧ Same H H' ∧ H' b = some (.lst xs)
/-- a new tuple -/
def FreshT (H : Hp) (xs : List V) (v : V) (H' : Hp) : Prop := ∃ b, v = .ref b ∧ H b = none ∧ Same H H' ∧ H' b = some (.tup xs)
/-- a fraction's two numbers -/
def ratV (q : Rat) : List V := [.int q.num, .int (q.den : Nat)]
end L2

/-! exceptions of own classes: raised, passed on, caught -/
namespace L2
open PySem PySem.Spec PyProof.Rows
/-- an exception in flight behind a call: B is all that stood when it was raised but the frames -/
def CXE (P : Program) (w : World) : CXT := fun outer H s E e s' => ∃ (a : Addr) (C a0 : Value) (B : Heap) (H' : Hp), e = .ref a ∧ Heap.FlyingW B outer a C a0 s'.heap ∧ s'.os = s.os ∧ AllBare s'.gens ∧
  (∀ h', B.StaysIn h' → s'.heap.UpToSlots h' → Un (frs outer) [] H H' s.heap h' ∧ HOk P w H' h') ∧ H' a = none ∧ s.heap.get? a = none ∧ E C none H'
theorem ObjOk.obj {P : Program} {w : World} {H : Hp} {h : Heap} {a : Addr} {o : HO} (x : ObjOk P w H h a o) : ∃ u, h.get? a = some u := by
  cases o with
  | lst xs => obtain ⟨_, _, _, _, e⟩ := x; exact ⟨_, e⟩
  | tup xs => obtain ⟨_, _, _, ob, e, _⟩ := x; exact ⟨_, e⟩
  | dK kvs => obtain ⟨_, _, _, _, o, _, _, e, _⟩ := x; exact ⟨_, e⟩
  | dT kvs => obtain ⟨_, _, _, _, o, _, _, e, _⟩ := x; exact ⟨_, e⟩
  | set S n => obtain ⟨o, _, _, _, e, _⟩ := x; exact ⟨_, e⟩
  | ins C dx fs => obtain ⟨_, _, _, e, _⟩ := x; exact ⟨_, e⟩
  | own y => obtain ⟨_, e⟩ := x; exact ⟨_, e⟩
  | xd fs => obtain ⟨_, ⟨_, _, _, e, _⟩, _⟩ := x; exact ⟨_, e⟩
  | rng lo hi => obtain ⟨_, _, _, e⟩ := x; exact ⟨_, e⟩
  | frz ob u => obtain ⟨e, _⟩ := x; exact ⟨_, e⟩
  | tbl ps => exact ⟨_, (show h.get? a = some _ from x)⟩
  | met f y => exact ⟨_, (show h.get? a = some _ from x)⟩
  | ext φ => obtain ⟨_, ⟨_, e⟩, _⟩ := x; exact ⟨_, e⟩
section
variable {X : Cx} {pins : List (Addr × Obj)} {σ : St} {H : Hp} {s : Shared}
theorem made_un {e : Addr} {cls : Value} {args : List Value} {h1 h' : Heap} (I : Inv X pins σ H s) (hx : Heap.MadeExcOf s.heap h1 e cls args) (hB : (PySem.W.hideAll s.heap (frs X.stack)).StaysIn h') (hU : h1.UpToSlots h') :
    Un (frs X.stack) [] H H s.heap h' ∧ HOk X.prog X.w H h' := by
  have kb : ∀ b o, s.heap.get? b = some o → b ∉ frs X.stack → h'.get? b = some o := fun b o q n => hB b o (PySem.W.hideAll_get _ q n)
  have kf : ∀ b o, s.heap.get? b = some o → b ∈ frs X.stack → ∃ sl, h'.get? b = some { o with slots := sl } := fun b o q hb => by
    obtain ⟨_, o', q', nf⟩ := I.stack.mem hb
    rw [q] at q'
    cases q'
    exact hU b o (hx.keeps b o q) nf
  refine ⟨⟨fun b o q _ hb _ => kb b o q hb, fun b o q _ hb _ => kf b o q hb, fun _ _ _ n _ => n, fun b o q _ => ?_, fun _ _ q => q, fun _ _ _ q => q, fun _ ps q => ⟨#[], by rw [q]; simp⟩⟩, fun a o e => ?_⟩
  · by_cases hb : b ∈ frs X.stack
    · obtain ⟨sl, z⟩ := kf b o q hb
      exact ⟨_, z⟩
    · exact ⟨o, kb b o q hb⟩
  · refine (I.hok a o e).stay (fun b u hb q => kb b u q fun z => ?_) (fun _ q => q) fun _ _ q => q
    have hn := I.stkFree b z
    rcases hb with r | r
    · rw [r, e] at hn
      cases hn
    · rw [hn] at r
      cases r
theorem made_free {e : Addr} {cls : Value} {args : List Value} {h1 : Heap} (I : Inv X pins σ H s) (hx : Heap.MadeExcOf s.heap h1 e cls args) : H e = none := by
  cases q : H e with
  | none => rfl
  | some o =>
    obtain ⟨u, z⟩ := (I.hok e o q).obj
    rw [hx.new] at z
    cases z
/-- the heap behind an exception that was caught here -/
theorem Inv.caught {H' : Hp} {s' : Shared} {h' : Heap} {t' : Nat} (I : Inv X pins σ H s) (os : s'.os = s.os) (bare : AllBare s'.gens) (u : Un (frs X.stack) [] H H' s.heap h') (hok : HOk X.prog X.w H' h') : Inv X pins σ H' { s' with heap := h', toks := t' } := by
  obtain ⟨hh, g, d, t, os'⟩ := s'
  obtain rfl : os' = s.os := os
  exact Inv.call (s := s) (h' := h') (g' := g) (d' := d) (t' := t') (ch := []) I u hok bare (fun b z => absurd z (by simp))
/-- what is not there now was not there at the entry -/
theorem Inv.older {a : Addr} (I : Inv X pins σ H s) (hex : X.ex = []) (h : s.heap.get? a = none) : X.s₀.heap.get? a = none := by
  cases q : X.s₀.heap.get? a with
  | none => rfl
  | some o =>
    obtain ⟨o', z⟩ := I.base.there a o q (by rw [hex]; simp)
    rw [h] at z
    cases z
/-- an object that was not tracked is tracked -/
theorem Inv.track {a : Addr} {o : HO} (I : Inv X pins σ H s) (h1 : X.s₀.heap.get? a = none) (h2 : a ≠ X.env.locals) (h3 : ∀ x c, X.env.cells.lookup x = some c → c ≠ a) (h4 : ∀ p ∈ X.pn ++ pins, p.1 ≠ a) (hH : H a = none)
    (new : ObjOk X.prog X.w (upd H a o) s.heap a o) : Inv X pins σ (upd H a o) s := by
  refine ⟨I.ok, I.os, I.bare, ⟨I.base.keep, I.base.slot, fun b u q n hx => ?_, I.base.there, fun b xs q => ?_, fun b u xs q => ?_, fun b ps q => ?_⟩, I.loc, I.cell, ?_, fun x c e => ?_, fun p hp => ?_, fun b u e => ?_, I.len⟩
  · rw [upd_ne (fun z => by rw [z, h1] at q; cases q)]
    exact I.base.free b u q n hx
  · have z := I.base.tups b xs q
    rw [upd_ne (ne_of_none z hH)]
    exact z
  · have z := I.base.frzs b u xs q
    rw [upd_ne (ne_of_none z hH)]
    exact z
  · obtain ⟨m, z⟩ := I.base.tbls b ps q
    exact ⟨m, by rw [upd_ne (ne_of_none z hH)]; exact z⟩
  · rw [upd_ne h2.symm]
    exact I.free
  · rw [upd_ne (h3 x c e)]
    exact I.freeC x c e
  · obtain ⟨e, n, ne, nf, d⟩ := I.pin p hp
    exact ⟨e, by rw [upd_ne (h4 p hp)]; exact n, ne, nf, d⟩
  · by_cases hb : b = a
    · subst hb
      rw [upd_same] at e
      cases e
      exact new
    · rw [upd_ne hb] at e
      exact (I.hok b u e).stay (fun _ _ _ q => q) (fun c q => by rw [upd_ne (ne_of_none q hH)]; exact q) fun c xs q => by rw [upd_ne (ne_of_none q hH)]; exact q
/-- what this code's exceptions may be: newly made ones -/
def TakesM (X : Cx) (E : XK) : Prop := ∀ (pins : List (Addr × Obj)) (σ : St) (H : Hp) (s : Shared) (e C : Addr) (args : List Value) (h' : Heap), Inv X pins σ H s → Heap.MadeExcOf s.heap h' e (.ref C) args → E (.ref C) none H → X.xe (.ref e) { s with heap := h' }
end
section
variable {P : Program} {w : World} {K : PySem.W.Frag} {mg : Str → Option Value} {base : Heap} {N : List Str} {qual : Str} {scope : Scope} {f : Addr} {cd : Value} {A : Around} {outer : List Env} {s : Shared} {H : Hp} {E : XK}
theorem takes_fn : TakesM (cxOf (CXE P w) P w K mg base N qual scope f cd A outer s H E) E := by
  intro pins σ H1 s1 e C args h1 I hx he
  show wpAny (model P w) (A.deeper (envOfC qual scope s.heap.objs.size f cd)) (leaving (envOfC qual scope s.heap.objs.size f cd) (.ref e)) (fun _ s'' => CXE P w outer H s E (.ref e) s'') (fun e' s'' => CXE P w outer H s E e' s'') { s1 with heap := h1 }
  have hin : ∀ env ∈ (envOfC qual scope s.heap.objs.size f cd :: outer), ∀ b, env.frame = some b → b ∈ frs (envOfC qual scope s.heap.objs.size f cd :: outer) := fun env he b hb => List.mem_filterMap.mpr ⟨env, he, hb⟩
  refine wpAny_leaves_madeW (base := PySem.W.hideAll s1.heap (frs (envOfC qual scope s.heap.objs.size f cd :: outer))) (h := s1.heap) I.ok.frames rfl (fun b o q => PySem.W.of_hideAll _ q) (PySem.W.funFrames_hide I.stack hin) hx fun h2 t fl _ _ u => ?_
  refine ⟨e, .ref C, .ref t, _, H1, rfl, fl, I.os, I.bare, fun h3 b3 u3 => ?_, made_free I hx, I.older rfl hx.new, he⟩
  have z := made_un I hx b3 (u.trans u3)
  exact ⟨(I.caught (s' := s1) (t' := 0) rfl I.bare z.1 z.2).base, z.2⟩
/-- a def that may raise -/
theorem Fun.okX {x : Str} {st : Stmt} {fd : FuncData} {ps : List Str} {k : Nat} {sp : Sp} (F : Fun K x qual st f fd) (S : FnScope N ps (defScope st)) (len : ∀ vs H Q E, sp vs H Q E → vs.length = ps.length)
    (hbody : ∀ (cdv : Value) (A : Around) (outer : List Env) (s : Shared) (H : Hp) (vs : List V) (Q : VK) (E : XK), Room k (A.deeper (envOfC qual (defScope st) s.heap.objs.size f cdv)) → sp vs H Q E →
      ∃ t, PSs (cxOf (CXE P w) P w K mg base N qual (defScope st) f cdv A outer s H E) (defBody st) t ∧ t { nx := fun _ H' => Q .non H', rt := Q } (start N vs) H) : FnOk P w K mg base (CXE P w) (k + 1) f fd ps sp := by
  obtain ⟨oc, od, kV, doc, pm, an, cdv, ct, osl, rfl, lk, hcd⟩ := F.ex
  exact fn_of lk hcd S len fun A outer s H vs Q E hr hsp => hbody cdv A outer s H vs Q E hr hsp
end
/-- two promises of one def -/
theorem FnOk.or {P : Program} {w : World} {K : PySem.W.Frag} {mg : Str → Option Value} {base : Heap} {k : Nat} {f : Addr} {fd : FuncData} {ps : List Str} {sp sp' : Sp} (F : FnOk P w K mg base CX0 k f fd ps sp) (G : FnOk P w K mg base (CXE P w) k f fd ps sp') :
    FnOk P w K mg base (CXE P w) k f fd ps (fun vs H Q E => sp vs H Q E ∨ sp' vs H Q E) := by
  refine ⟨fun vs H Q E h => h.elim (F.len vs H Q E) (G.len vs H Q E), fun A outer s H args us vs Q E hr e0 hb hv h => ?_⟩
  rcases h with h | h
  · refine codeAny_mono (F.run A outer s H args us vs Q E hr e0 hb hv h) fun r s' q => ?_
    cases r with
    | error e => exact False.elim q
    | ok fl => cases fl <;> exact q
  · exact G.run A outer s H args us vs Q E hr e0 hb hv h
/-! ### the classes -/
abbrev vE : List Value := [.type "ValueError", .type "Exception", .type "BaseException", .type "object"]
/-- an own exception class without an __init__ of its own, as the top has made it -/
structure Exc (K : PySem.W.Frag) (C : Addr) : Prop where
  ok : PySem.W.excIn K C vE "ValueError.__new__" = true
theorem exc_obj {K : PySem.W.Frag} {h : Heap} {C : Addr} {bmB : List Value} {newId : String} (X : K.In h) (q : PySem.W.excIn K C bmB newId = true) :
    ∃ bm N nm qn bs hdct sn sub ab col dd k0 k1 k2 k3 k5 mN, h.get? C = some (excClassObj nm qn C N bs bm hdct sn sub ab col dd k0 k1 k2 k3 k5 newId) ∧ h.Ns N mN ∧ mN "__init__" = none ∧ OwnTail h bmB bm := by
  unfold PySem.W.excIn at q
  split at q
  · rename_i dd cd sl ho
    split at q
    · rename_i C' bm k0 k1 k2 k3 n k5 hm hs
      simp only [Bool.and_eq_true, beq_iff_eq, Bool.not_eq_true'] at q
      obtain ⟨⟨⟨⟨⟨q1, q2⟩, hdel⟩, ht⟩, hok⟩, hni⟩ := q
      subst q1 q2
      obtain ⟨nm, bs, mro, ns, qn, hd, sn, sub, ab, col, del⟩ := cd
      dsimp only at hm hdel hok hni
      subst hm hdel
      obtain ⟨l⟩ := sl
      have hs' : l = [k0, k1, k2, k3, some (.builtin n), k5] := hs
      subst hs'
      exact ⟨bm, ns, nm, qn, bs, hd, sn, sub, ab, col, dd, k0, k1, k2, k3, k5, _, X _ _ ho, .of_isNs (PySem.W.isNs_of_in X hok), PySem.W.nsMap_none_of_in X hok hni, PySem.W.tail_of_in X ht⟩
    · cases q
  · cases q
section
variable {X : Cx} {e₀ : Expr} {rest : List Expr} {t : TA} {x : Str} {C : Addr} {E : XK} {np cpos pos : Pos}
/-- raise C(..) -/
def tRaise (C : Addr) (E : XK) (t : TA) : TS := fun _ σ H => t σ H fun vs H1 => vs.length ≤ sizeLine ∧ E (.ref C) none H1
theorem ps_raise (O : Exc X.K C) (hm : X.mg x = some (.ref C)) (hT : TakesM X E) (hc : X.calm = true) (hg : Gl X x) (ha : PA X (e₀ :: rest) t)
    (he : starEach (e₀ :: rest) X.env = (false, eval e₀ X.env) :: starEach rest X.env := by rfl) (hplain : (backTo cpos (starEach rest X.env)).any (·.1) = false := by rfl) (hd : (x == ("__debug__" : Str)) = false := by decide) :
    PS X (.Raise (some (.Call (.Name x np) (e₀ :: rest) [] cpos)) none pos) (tRaise C E t) := by
  intro pins s σ H D I h
  obtain ⟨bm, N, nm, qn, bs, hdct, sn, sub, ab, col, dd, k0, k1, k2, k3, k5, mN, hC, hN, hni, T⟩ := exc_obj (h := X.base) I.ok.mod.kin O.ok
  refine wpAny_Raise_call_subT (C := C) (nm := nm) (q := qn) (N := N) (bs := bs) (bm := bm) (hdct := hdct) (sn := sn) (sub := sub) (ab := ab) (col := col) (dd := dd) (k0 := k0) (k1 := k1) (k2 := k2) (k3 := k3) (k5 := k5)
    PySem.F.excBase_ValueError (mN := mN) (T.hasType PySem.F.excBase_ValueError.hasBase) (I.ok.hd hc) (by rw [he]; show (false || (backTo cpos (starEach rest X.env)).any (·.1)) = false; rw [hplain]; rfl) hni (ld_glob I hg hm ⟨rfl, ?_⟩ hd)
  have hA := ha cpos pins s σ H _ I h
  rw [he] at hA ⊢
  refine Calls.evalArgs_plain (wpAny_mono hA (fun us s2 h2 => ?_) fun _ _ y => y)
  obtain ⟨vs, H1, I1, r, hl, hE⟩ := h2
  refine ⟨rfl, ?_, I1.bk _ _ hC, hN.keeps I1.bk, T.keeps I1.bk, fun h' e hx => hT pins σ H1 s2 e C _ h' I1 hx hE⟩
  show us.length ≤ sizeLine
  rw [← r.length]
  exact hl
end
/-! ### isinstance of an exception -/
/-- how attributes of an own exception class are looked up -/
structure ExcQ (K : PySem.W.Frag) (C : Addr) : Prop where
  ga : PySem.W.findIn K (.ref C) "__getattribute__" = some (some (.builtin "BaseException.__getattribute__"))
  cl : PySem.W.findIn K (.ref C) "__class__" = some (some (.builtin "object.__class__"))
  ng : PySem.W.findIn K (.ref C) "__getattr__" = some none
  so : PySem.W.subIn K (.ref C) (.type "object") = some true
  sb : PySem.W.subIn K (.ref C) (.type "BaseException") = some true
  ty : PySem.W.typeIn K (.ref C) = some (.type "type")
  ic : PySem.W.isClsIn K C = true
  ss : PySem.W.subIn K (.ref C) (.ref C) = some true
theorem kit_sub {K : PySem.W.Frag} {C D : Addr} {b : Bool} (h : PySem.W.subIn K (.ref C) (.ref D) = some b) (c : ExcQ K C) (d : ExcQ K D) : PySem.W.kitOne K (.ref C) (.ref D) = some b := by
  unfold PySem.W.kitOne
  by_cases e : (Value.ref C == Value.ref D) = true
  · rw [if_pos e]
    have z : C = D := Value.ref.inj (beq_iff_eq.mp e)
    subst z
    rw [← h, c.ss]
  · rw [if_neg e]
    unfold PySem.W.kitCls
    have z : ((PySem.W.clsIn K D).isSome && PySem.W.typeIn K (.ref D) == some (.type "type")) = true := by
      rw [d.ty, show (PySem.W.clsIn K D).isSome = true from d.ic]
      rfl
    dsimp only
    rw [if_pos z]
    exact h
theorem kit_subN {K : PySem.W.Frag} {D : Addr} {n : String} {b : Bool} (h : PySem.W.subIn K (.type n) (.ref D) = some b) (d : ExcQ K D) : PySem.W.kitOne K (.type n) (.ref D) = some b := by
  unfold PySem.W.kitOne
  rw [if_neg (by simp)]
  unfold PySem.W.kitCls
  have z : ((PySem.W.clsIn K D).isSome && PySem.W.typeIn K (.ref D) == some (.type "type")) = true := by
    rw [d.ty, show (PySem.W.clsIn K D).isSome = true from d.ic]
    rfl
  dsimp only
  rw [if_pos z]
  exact h
theorem kit_subT {K : PySem.W.Frag} {C : Addr} {n : String} {b : Bool} (h : PySem.W.subIn K (.ref C) (.type n) = some b) (hm : PySem.W.kitMeta n = true) : PySem.W.kitOne K (.ref C) (.type n) = some b := by
  unfold PySem.W.kitOne
  rw [if_neg (by simp)]
  unfold PySem.W.kitCls
  dsimp only
  rw [if_pos hm]
  exact h
theorem kitMeta_V : PySem.W.kitMeta "ValueError" = true := by kernel_rfl
section
variable {prog : Program} {w : World} {A : Around} {E : Value → Shared → Prop} {h : Heap} {g : Array GenState} {d : Drawn} {t : Nat} {os : OsState} {a C : Addr} {o : Obj} {K : PySem.W.Frag}
theorem xc_get {R : Result → Shared → Prop} (X : K.In h) (Z : ExcQ K C) (hx : h.get? a = some o) (hc : o.cls = .ref C) (hq : R (.ok (.ret (.ref C))) ⟨h, g, d, t, os⟩) :
    codeAny (model prog w) A (.call (.builtin "getset_descriptor.__get__") ⟨[.builtin "object.__class__", .ref a, .ref C], []⟩) R ⟨h, g, d, t, os⟩ := by
  have hT5 : (⟨h, g, d, t, os⟩ : Shared).TypeIs (.builtin "object.__class__") "getset_descriptor" := F.typeOf_object_class
  have hs : PySem.W.subIn K (.ref C) (.type (".".intercalate ("object.__class__".cutAt '.').dropLast)) = some true := by rw [F.owner_object_class]; exact Z.so
  refine codeAny_call_builtin F.slot_gs_get.plain F.entry_gs_get (F.slot_gs_get.check _ _ _ _ _ _ _ _ hT5 (F.args_gs_get _ _ _) ?_)
  repeat (any_goals (first | assumption | (with_reducible refine wpAny_loadPart_at hx ?_; rw [hc]) | with_reducible refine PySem.W.Looks.here (PySem.W.looks_subIn X hs) ?_ | wp_step))
  refine ⟨Code.quiet_builtin _ (by decide +kernel), codeAny_builtin F.entry_object_class ?_⟩
  repeat (any_goals (first | assumption | (with_reducible refine wpAny_loadPart_at hx ?_; rw [hc]) | wp_step))
theorem xc_check {M : Model} {nameV : Value} {Q : Unit → Shared → Prop} (X : K.In h) (Z : ExcQ K C) (hx : h.get? a = some o) (hc : o.cls = .ref C) (hq : Q () ⟨h, g, d, t, os⟩) :
    wpAny M A (checkBuiltinCall "BaseException.__getattribute__" ⟨[.ref a, nameV], []⟩) Q E ⟨h, g, d, t, os⟩ := by
  have hk : builtinKind "BaseException.__getattribute__" = some .slot := by decide +kernel
  have hsplit : splitId "BaseException.__getattribute__" = some ("BaseException", "__getattribute__") := by decide +kernel
  have ha := F.args_bexc_ga (.ref a) nameV
  simp only [checkBuiltinCall, hk, hsplit]
  refine wpAny_bind ?_
  · unfold isInstance
    repeat (first | (with_reducible refine wpAny_loadPart_at hx ?_; rw [hc]) | with_reducible refine PySem.W.Looks.here (PySem.W.looks_subIn X Z.sb) ?_ | wp_step)
    exact hq
theorem xc_entry {tk : Tok} {Q : Fin → Shared → Prop} (X : K.In h) (Z : ExcQ K C) (hx : h.get? a = some o) (hc : o.cls = .ref C) (hq : Q (.done (.ret (.ref C))) ⟨h, g, d, t, os⟩) :
    wpAny (model prog w) A (Builtin.«object.__getattribute__» ⟨[.ref a, .str "__class__" tk], []⟩) Q E ⟨h, g, d, t, os⟩ := by
  have hT5 : (⟨h, g, d, t, os⟩ : Shared).TypeIs (.builtin "object.__class__") "getset_descriptor" := F.typeOf_object_class
  have f5 := F.typeOf_object_class
  have f6 := F.slot_gs_get.lookup
  have f7 := F.slot_gs_set.lookup
  repeat (any_goals (first | assumption | (with_reducible refine wpAny_loadPart_at hx ?_; rw [hc]) | with_reducible refine PySem.W.Looks.here (PySem.W.looks_findIn X Z.cl) ?_ | wp_step))
  refine xc_get X Z hx hc ?_
  repeat (any_goals (first | assumption | wp_step))
theorem xc_by {tk : Tok} {Q : Value → Shared → Prop} (X : K.In h) (Z : ExcQ K C) (hx : h.get? a = some o) (hc : o.cls = .ref C) (hq : Q (.ref C) ⟨h, g, d, t, os⟩) :
    wpAny (model prog w) A (getAttrBy (.ref a) (.str "__class__" tk) false) Q E ⟨h, g, d, t, os⟩ := by
  have f3 := F.attrBase_ValueError.ga.bind (.ref a)
  have hx2 : (Value.builtin "BaseException.__getattribute__" == Value.builtin "object.__getattribute__") = false := by decide +kernel
  have hx1 : (onTheHeap (Value.ref C) && Value.builtin "BaseException.__getattribute__" == Value.builtin "object.__getattribute__") = false := by rw [hx2]; rfl
  repeat (any_goals (first | assumption | (with_reducible refine wpAny_loadPart_at hx ?_; rw [hc]) | with_reducible refine PySem.W.Looks.here (PySem.W.looks_findIn X Z.ga) ?_ | with_reducible refine PySem.W.Looks.here (PySem.W.looks_findIn X Z.ng) ?_ | wp_step))
  refine codeAny_call_builtin F.attrBase_ValueError.ga.plain F.entry_bexc_ga (xc_check X Z hx hc (xc_entry X Z hx hc ?_))
  repeat (any_goals (first | assumption | wp_step))
theorem xc_attr {Q : Option Value → Shared → Prop} (X : K.In h) (Z : ExcQ K C) (hx : h.get? a = some o) (hc : o.cls = .ref C) (hq : Q (some (.ref C)) ⟨h, g, d, t + 1, os⟩) :
    wpAny (model prog w) A (getAttr? (.ref a) "__class__") Q E ⟨h, g, d, t, os⟩ := by
  unfold getAttr? getAttrBy?
  repeat (any_goals (first | assumption | with_reducible apply xc_by X Z hx hc | wp_step))
theorem kitx_exc (Z : ExcQ K C) : PySem.W.KitX K (.ref a) (.ref C) (fun h => ∃ o, h.get? a = some o ∧ o.cls = .ref C) where
  ty := fun M h X p => by
    obtain ⟨o, e, c⟩ := p
    intro A Q E s k q
    obtain ⟨hp, g, d, t, os⟩ := s
    have hx : hp.get? a = some o := k _ _ e
    repeat (any_goals (first | assumption | (with_reducible refine wpAny_loadPart_at hx ?_; rw [c]) | wp_step))
  it := fun M h X _ => by
    have z := Z.ic
    unfold PySem.W.isClsIn PySem.W.clsIn at z
    split at z
    · rename_i c' d' cd' sl' ho
      intro A' Q' E' s' k q
      unfold isType loadHead
      exact wpAny_bind (wpAny_loadPart (k _ _ (X _ _ ho)) (wpAny_pure q))
    · cases z
  ne := fun h tp dd its n sl X htp => by
    refine Bool.eq_false_iff.mpr fun q => ?_
    have e : C = tp := Value.ref.inj (beq_iff_eq.mp q)
    subst e
    have z := Z.ic
    unfold PySem.W.isClsIn PySem.W.clsIn at z
    split at z
    · rename_i c' d' cd' sl' ho
      have y := (X _ _ ho).symm.trans htp
      cases y
    · cases z
  ca := fun {prog w A E Q s} X p k => by
    obtain ⟨o, e, c⟩ := p
    obtain ⟨hp, g, d, t, os⟩ := s
    exact xc_attr X Z e c k
end
/-- an exception that is held -/
def excO (a : Addr) (C : Value) : HO := .ext fun h => ∃ o, h.get? a = some o ∧ o.cls = C
section
variable {X : Cx}
/-- isinstance(e, D), e an exception of the class C -/
def rIsX (K : PySem.W.Frag) : List V → Hp → VK → Prop := fun xs H Q => match xs with
  | [.non, .ref D] => (∃ b, PySem.W.kitOne K (.type "NoneType") (.ref D) = some b ∧ Q (.bl b) H)
  | [.ref a, .ref D] => ∃ C b, H a = some (excO a (.ref C)) ∧ ExcQ K C ∧ PySem.W.kitOne K (.ref C) (.ref D) = some b ∧ Q (.bl b) H
  | [.ref a, .ty n] => ∃ C b, H a = some (excO a (.ref C)) ∧ ExcQ K C ∧ PySem.W.kitOne K (.ref C) (.type n) = some b ∧ Q (.bl b) H
  | [.non, .ty n] => (∃ b, PySem.W.kitOne K (.type "NoneType") (.type n) = some b ∧ Q (.bl b) H)
  | _ => False
theorem isx {K : PySem.W.Frag} {H : Hp} {e C D : Addr} {b : Bool} {Q : VK} (h : H e = some (excO e (.ref C))) (q : ExcQ K C) (k : PySem.W.kitOne K (.ref C) (.ref D) = some b) (hq : Q (.bl b) H) : rIsX K [.ref e, .ref D] H Q := ⟨C, b, h, q, k, hq⟩
theorem isxT {K : PySem.W.Frag} {H : Hp} {e C : Addr} {n : String} {b : Bool} {Q : VK} (h : H e = some (excO e (.ref C))) (q : ExcQ K C) (k : PySem.W.kitOne K (.ref C) (.type n) = some b) (hq : Q (.bl b) H) : rIsX K [.ref e, .ty n] H Q := ⟨C, b, h, q, k, hq⟩
theorem exc_isx {pins : List (Addr × Obj)} {σ : St} {H : Hp} {s : Shared} {a C : Addr} {c : Value} {b : Bool} {A : Around} {E : Value → Shared → Prop} {Q : Value → Shared → Prop} (I : Inv X pins σ H s) (ha : H a = some (excO a (.ref C))) (Z : ExcQ X.K C) (e : PySem.W.kitOne X.K (.ref C) c = some b)
    (h : ∀ tk, Q (.bool b) { s with toks := tk }) : wpAny (model X.prog X.w) A (call (.builtin "isinstance") [.ref a, c]) Q E s := by
  obtain ⟨p, _, _⟩ := (show ObjOk X.prog X.w H s.heap a (excO a (.ref C)) from I.hok a _ ha)
  exact PySem.W.kia_one (kitx_exc Z) I.kIn p e (fun z => nomatch z) h
theorem call_isX : CallR X (.builtin "isinstance") (rIsX X.K) := by
  intro pins s σ H xs us Q I r h
  match xs, r, h with
  | [.non, .ref D], r, ⟨b, e, q⟩ =>
    obtain ⟨u, v, rfl, r1, r2⟩ := vals2 r
    cases (show v = Value.ref D from r2)
    exact isinst_ok I r1 .non e fun tk => ⟨.bl b, H, I.tok tk, rfl, q⟩
  | [.non, .ty n], r, ⟨b, e, q⟩ =>
    obtain ⟨u, v, rfl, r1, r2⟩ := vals2 r
    cases (show v = Value.type n from r2)
    exact isinst_ok I r1 .non e fun tk => ⟨.bl b, H, I.tok tk, rfl, q⟩
  | [.ref a, .ref D], r, ⟨C, b, ha, Z, e, q⟩ =>
    obtain ⟨u, v, rfl, r1, r2⟩ := vals2 r
    cases (show v = Value.ref D from r2)
    cases (show u = Value.ref a from r1)
    exact exc_isx I ha Z e fun tk => ⟨.bl b, H, I.tok tk, rfl, q⟩
  | [.ref a, .ty n], r, ⟨C, b, ha, Z, e, q⟩ =>
    obtain ⟨u, v, rfl, r1, r2⟩ := vals2 r
    cases (show v = Value.type n from r2)
    cases (show u = Value.ref a from r1)
    exact exc_isx I ha Z e fun tk => ⟨.bl b, H, I.tok tk, rfl, q⟩
end
/-! ### an expression that may raise, met where it stands -/
def XPo (X : Cx) (pins : List (Addr × Obj)) (σ : St) (E : XK) (e : Value) (s' : Shared) : Prop := ∃ H1 s1, Inv X pins σ H1 s1 ∧ CXE X.prog X.w X.stack H1 s1 E e s'
def PEX (X : Cx) (e : Expr) (t : TE) (E : XK) : Prop :=
  ∀ (pins : List (Addr × Obj)) (s : Shared) (σ : St) (H : Hp) (Q : VK), Inv X pins σ H s → t σ H Q → wpAny (model X.prog X.w) X.A (eval e X.env) (EP X pins σ Q) (XPo X pins σ E) s
def PSX (X : Cx) (st : Stmt) (t : TS) (E : XK) : Prop :=
  ∀ (pins : List (Addr × Obj)) (s : Shared) (σ : St) (H : Hp) (D : Ends), Inv X pins σ H s → t D σ H → wpAny (model X.prog X.w) X.A (exec st X.env) (SP X pins D) (XPo X pins σ E) s
section
variable {X : Cx} {k : Nat} {f C : Addr} {fd : FuncData} {ps : List Str} {sp : Sp} {dvs : List V} {ds : List Value} {E : XK} {x m : Str} {p pos apos : Pos} {e o : Expr} {es : List Expr} {ta : TE} {t : TA}
theorem run_fnX {pins : List (Addr × Obj)} {σ : St} {H : Hp} {s : Shared} {Q : VK} {us : List Value} {vs : List V} (F : FnOk X.prog X.w X.K X.mg X.base (CXE X.prog X.w) k f fd ps sp) (hr : Room k X.A) (hb : Binds X.K fd ps ds) (hd : Vals dvs ds)
    (I : Inv X pins σ H s) (r : Vals vs us) (h : sp (vs ++ dvs) H Q E) : wpAny (model X.prog X.w) X.A (call (.ref f) us) (EP X pins σ Q) (XPo X pins σ E) s := by
  have r2 : Vals (vs ++ dvs) (us ++ ds) := r.append hd
  have hl : (us ++ ds).length = ps.length := by rw [← r2.length]; exact F.len _ _ _ _ h
  refine wpAny_call (codeAny_mono (F.run X.A X.stack s H ⟨us, []⟩ (us ++ ds) (vs ++ dvs) Q E hr I.env0 (hb s us I.kIn hl) r2 h) fun r s' hq => ?_)
  cases r with
  | error e => exact ⟨H, s, I, hq⟩
  | ok fl =>
    cases fl with
    | ret u => exact I.after hq
    | next => exact False.elim hq
    | brk => exact False.elim hq
    | cont => exact False.elim hq
theorem pex_call (F : FnOk X.prog X.w X.K X.mg X.base (CXE X.prog X.w) k f fd ps sp) (hr : Room k X.A) (hg : Gl X x) (hm : X.mg x = some (.ref f)) (hk : PySem.W.keepIn X.K (.ref f) = true) (hb : Binds X.K fd ps ds) (hd : Vals dvs ds)
    (ha : PA X.nox (e :: es) t) (hdb : (x == ("__debug__" : Str)) = false := by decide) (he : starEach (e :: es) X.env = (false, eval e X.env) :: starEach es X.env := by rfl) (hpl : (backTo pos (starEach es X.env)).any (·.1) = false := by rfl) :
    PEX X (.Call (.Name x p) (e :: es) [] pos) (tCall sp dvs E t) E := by
  intro pins s σ H Q I h
  refine wpAny_Call_Name_kw (ld_glob I hg hm ?_ hdb)
  refine PySem.W.callWith_K (h₀ := X.base) I.ok.mod.kin hk (wpAny_mono (ha pos pins s σ H _ (I.wish _) h) (fun us s1 ⟨vs, H1, I1, r, q⟩ => ⟨I1.unwish.kIn, ?_⟩) fun _ _ z => False.elim z) he hpl
  exact run_fnX F hr hb hd I1.unwish r q
theorem psx_set {i : Nat} {y : Str} {te : TE} {pos' : Pos} (hN : X.N.Nodup) (hi : X.N[i]? = some y) (hx : Loc X.env.scope y) (he : PEX X e te E) (hs : swapsWith e (some (.Name y pos')) pos.line X.env = pure false := by rfl) (hf : X.fn y = true ∨ X.env.scope.names.lookup y = some .local := by first | exact .inl rfl | exact .inr rfl | assumption) :
    PSX X (.Assign [.Name y pos'] e pos) (tAsg te (gName i)) E := by
  intro pins s σ H D I h
  refine wpAny_Assign_Name (thn (he pins s σ H _ I h) fun v s1 ⟨z, H1, I1, r1, q1⟩ => ?_) hs
  exact store_ok I1 hN hi hx r1 (fun s2 I2 => ⟨_, H1, I2, q1⟩) hf
end
/-! ### try, except .. as .. -/
section
variable {X : Cx} {pins : List (Addr × Obj)} {σ : St} {H : Hp} {s : Shared}
/-- the context of a handler's suite -/
abbrev Cx.held (X : Cx) (e : Addr) : Cx := { X with A := X.A.mark (some (.ref e)), calm := false, xe := fun _ _ => False }
theorem Inv.held (I : Inv X pins σ H s) (e : Addr) : Inv (X.held e) pins σ H s :=
  ⟨⟨I.ok.mod, I.ok.kind, I.ok.glob, I.ok.blt, I.ok.above, I.ok.inj, I.ok.has, I.ok.cab, fun h => Bool.noConfusion h, I.ok.frames, I.ok.stk, I.ok.exf, I.ok.bs, I.ok.bsz, I.ok.noex, I.ok.exfs, I.ok.funs, I.ok.frf⟩, I.os, I.bare, I.base, I.loc, I.cell, I.free, I.freeC, I.pin, I.hok, I.len⟩
theorem Inv.unheld {e : Addr} (ok : X.Ok) (I : Inv (X.held e) pins σ H s) : Inv X pins σ H s := ⟨ok, I.os, I.bare, I.base, I.loc, I.cell, I.free, I.freeC, I.pin, I.hok, I.len⟩
theorem exc_matches {K : PySem.W.Frag} {M : Model} {A : Around} {E : Value → Shared → Prop} {a C D : Addr} {o : Obj} {Q : Bool → Shared → Prop} (KX : K.In s.heap) (Z : ExcQ K D) (hx : s.heap.get? a = some o) (hc : o.cls = .ref C) (hs : PySem.W.subIn K (.ref C) (.ref D) = some true)
    (hq : Q true s) : wpAny M A (excMatches (.ref a) (.ref D)) Q E s := by
  obtain ⟨hp, g, d, t, os⟩ := s
  have f := tc_notTuple
  have hi : PySem.W.Looks M hp (isType (.ref D)) true := by
    have z := Z.ic
    unfold PySem.W.isClsIn PySem.W.clsIn at z
    split at z
    · rename_i c' d' cd' sl' ho
      intro A' Q' E' s' k q
      unfold isType loadHead
      exact wpAny_bind (wpAny_loadPart (k _ _ (KX _ _ ho)) (wpAny_pure q))
    · cases z
  unfold excMatches isExcClass isInstance
  repeat (first | with_reducible refine PySem.W.Looks.here (PySem.W.looks_typeIn KX Z.ty) ?_ | with_reducible refine PySem.W.Looks.here hi ?_ | with_reducible refine PySem.W.Looks.here (PySem.W.looks_subIn KX Z.sb) ?_ | with_reducible refine PySem.W.Looks.here (PySem.W.looks_subIn KX hs) ?_ | (with_reducible refine wpAny_loadPart_at hx ?_; rw [hc]) | wp_step)
  exact hq
/-- a local name goes -/
theorem Inv.unset {i : Nat} {x : Str} {h' : Heap} {v : Option Value} {m : Str → Option Value} {t' : Nat} (I : Inv X pins σ H s) (hN : X.N.Nodup) (hi : X.N[i]? = some x) (hk : X.env.scope.names.lookup x = some .local) (hn : s.heap.Ns X.env.locals m)
    (hl : ∀ (j : Nat) (y : Str) (v : V), X.N[j]? = some y → σ[j]? = some (some v) → Vis X.env.scope y → ∃ u, RelV v u ∧ Look X.env s.heap m y u)
    (hn' : h'.Ns X.env.locals (fun y => if y = x then v else m y)) (hs : Heap.SameBut X.env.locals s.heap h') : Inv X pins (σ.set i none) H { s with heap := h', toks := t' } := by
  have hiσ : i < σ.length := by rw [I.len]; exact (List.getElem?_eq_some_iff.mp hi).1
  refine ⟨I.ok, I.os, I.bare, ⟨fun b o e n hb hx => ?_, fun b o e n hb hx => ?_, I.base.free, fun b o e hx => ?_, I.base.tups, I.base.frzs, I.base.tbls⟩, ⟨_, hn', fun j y v' e1 e2 e3 => ?_⟩, fun y c e => ?_, I.free, I.freeC, fun p hp => ?_, fun b ob e => ?_, by simpa using I.len⟩
  · exact (hs.2 b (Nat.ne_of_lt (Nat.lt_of_lt_of_le (Heap.lt_size e) I.ok.above))).trans (I.base.keep b o e n hb hx)
  · obtain ⟨sl, e1⟩ := I.base.slot b o e n hb hx
    exact ⟨sl, (hs.2 b (Nat.ne_of_lt (Nat.lt_of_lt_of_le (Heap.lt_size e) I.ok.above))).trans e1⟩
  · obtain ⟨o', e1⟩ := I.base.there b o e hx
    exact ⟨o', (hs.2 b (Nat.ne_of_lt (Nat.lt_of_lt_of_le (Heap.lt_size e) I.ok.above))).trans e1⟩
  · by_cases hj : j = i
    · subst hj
      rw [List.getElem?_set_self hiσ] at e2
      cases e2
    · rw [List.getElem?_set_ne (Ne.symm hj)] at e2
      obtain ⟨u', r', q⟩ := hl j y v' e1 e2 e3
      refine ⟨u', r', ?_⟩
      rcases q with ⟨k, e⟩ | ⟨k, c, e, z⟩
      · refine .inl ⟨k, ?_⟩
        have hyx : y ≠ x := fun e => hj (nodup_ix hN e1 (e ▸ hi))
        simp [hyx, e]
      · exact .inr ⟨k, c, e, z.sameBut hs (I.cne y c e)⟩
  · obtain ⟨w', z⟩ := I.cell y c e
    exact ⟨w', z.sameBut hs (I.cne y c e)⟩
  · obtain ⟨e, n, ne, nf, d⟩ := I.pin p hp
    exact ⟨(hs.2 p.1 ne).trans e, n, ne, nf, d⟩
  · refine (I.hok b ob e).stay (fun c w' hc q => (hs.2 c ?_).trans q) (fun _ q => q) fun _ _ q => q
    intro z
    have hf := I.free
    rw [← z] at hf
    rcases hc with r | r
    · rw [r, e] at hf
      cases hf
    · rw [hf] at r
      cases r
end
/-- what a handler wants of the exceptions that it takes -/
def hAs (K : PySem.W.Frag) (D : Addr) (i : Nat) (th : TS) (Dn : Ends) (σ : St) : XK := fun C _ H' => ∃ c, C = .ref c ∧ PySem.W.subIn K (.ref c) (.ref D) = some true ∧
  ∀ e H2, H' e = none → Same H' H2 → H2 e = some (excO e (.ref c)) → th { nx := fun σ2 H3 => Dn.nx (σ2.set i none) H3, rt := Dn.rt, bk := fun σ2 H3 => Dn.bk (σ2.set i none) H3, ct := fun σ2 H3 => Dn.ct (σ2.set i none) H3 } (σ.set i (some (.ref e))) H2
def tTryAs (K : PySem.W.Frag) (D : Addr) (i : Nat) (tb : XK → TS) (th : TS) : TS := fun Dn σ H => tb (hAs K D i th Dn σ) Dn σ H
section
variable {X : Cx} {D : Addr} {dn n : Str} {i : Nat} {st b₀ : Stmt} {suite : List Stmt} {tb : XK → TS} {th : TS} {np hpos pos : Pos}
theorem ps_tryAs (hb : ∀ E, PSX X st (tb E) E) (hh : ∀ e, PSs (X.held e) (b₀ :: suite) th) (hg : Gl X dn) (hm : X.mg dn = some (.ref D)) (ZD : ExcQ X.K D) (hN : X.N.Nodup) (hi : X.N[i]? = some n) (hk : X.env.scope.names.lookup n = some .local)
    (hst : X.stack = X.env :: X.outer := by rfl) (hfr : X.env.frame = some X.env.locals := by rfl) (hex : X.ex = [] := by rfl) (hdb : (dn == ("__debug__" : Str)) = false := by decide) :
    PS X (.Try [st] [.ExceptHandler (some (.Name dn np)) (some n) (b₀ :: suite) hpos] [] [] pos) (tTryAs X.K D i tb th) := by
  intro pins s σ H Dn I h
  refine wpAny_Try_except (wpAny_execs_cons (wpAny_mono (hb _ pins s σ H Dn I h) (fun f s1 q => ?_) fun e s1 q => ?_))
  · cases f with
    | next => exact wpAny_execs_nil (wpAny_execs_nil q)
    | ret v => exact q
    | brk => exact q
    | cont => exact q
  · obtain ⟨H1, s0, I1, a, C, a0, B, H', rfl, fl, os, bare, un, hn0, nw, c, rfl, hsub, k⟩ := q
    have hA : X.A.frames = some (X.env :: X.outer) := by rw [← hst]; exact I1.ok.frames
    rw [hst] at fl
    refine wpAny_looks_onW hA hfr fl fun h4 hd4 sm4 => wpAny_landsW hd4 fun h5 fl5 sm5 => ?_
    have u5 := un h5 fl5.1 (sm4.trans sm5)
    have I5 : Inv X pins σ H' { s1 with heap := h5, toks := s1.toks } := I1.caught os bare u5.1 u5.2
    have cls := I.ok.kind
    obtain ⟨ob, hob, hcl⟩ := fl5.there
    refine wpAny_handleBy_cons (codeAny_handlers_test ?_) (by intro q; cases q)
    refine ld_glob (X := X.held a) (s := { s1 with heap := h5 }) (I5.held a) hg hm ?_ hdb
    refine exc_matches (s := { s1 with heap := h5 }) I5.kIn ZD hob hcl hsub ?_
    refine codeAny_handlers_suite_as (lands_againW fl5 fun h6 fl6 sm6 => ?_)
    have u6 := un h6 fl6.1 ((sm4.trans sm5).trans sm6)
    have I6 : Inv X pins σ H' { s1 with heap := h6, toks := s1.toks } := I1.caught os bare u6.1 u6.2
    obtain ⟨ob6, hob6, hcl6⟩ := fl6.there
    have nl : a ≠ X.env.locals := fun z => by
      obtain ⟨m, ⟨o, _, _, ho, _⟩, _⟩ := I1.loc
      rw [← z, nw] at ho
      cases ho
    have I7 : Inv X pins σ (upd H' a (excO a (.ref c))) { s1 with heap := h6, toks := s1.toks } := by
      refine I6.track (I1.older hex nw) nl (fun x cc e z => ?_) (fun p hp z => ?_) hn0 ⟨⟨ob6, hob6, hcl6⟩, ⟨ob6, hob6⟩, fun h1 h2 p k => ?_⟩
      · obtain ⟨v, o, ho, _⟩ := I1.cell x cc e
        rw [z, nw] at ho
        cases ho
      · have ho := (I1.pin p hp).1
        rw [z, nw] at ho
        cases ho
      · obtain ⟨o, e1, e2⟩ := p
        exact ⟨o, k o e1, e2⟩
    refine store_ok (X := X.held a) (v := .ref a) (I7.held a) hN hi (.inl hk) rfl (fun s8 I8 => ?_) (.inr hk)
    refine wpAny_mono (hh a pins s8 _ _ _ I8 (k a _ hn0 (Same.upd hn0) upd_same)) (fun f s9 q9 => ?_) fun _ _ z => False.elim z
    have goes : ∀ {σ9 : St} {H9 : Hp} {Q9 : Shared → Prop}, Inv (X.held a) pins σ9 H9 s9 → (∀ s', Inv X pins (σ9.set i none) H9 s' → Q9 s') → wpAny (model X.prog X.w) X.A (do bindName X.env n .none; unbindBehindTheSuite X.env n hpos) (fun _ s' => Q9 s') X.xe s9 := by
      intro σ9 H9 Q9 J kk
      have J' := J.unheld I.ok
      obtain ⟨m, hn, hl⟩ := id J'.loc
      refine wpAny_nameGoes_keeps hk hn (by rw [I.ok.kind]; rfl) fun h' v hn' hs' => kk _ ?_
      exact J'.unset hN hi hk hn hl hn' hs'
    cases f with
    | next =>
      obtain ⟨σ', H9, J, q⟩ := q9
      exact goes (Q9 := fun s' => SP X pins Dn .next s') J fun s' J' => ⟨_, _, J', q⟩
    | brk =>
      obtain ⟨σ', H9, J, q⟩ := q9
      exact goes (Q9 := fun s' => SP X pins Dn .brk s') J fun s' J' => ⟨_, _, J', q⟩
    | cont =>
      obtain ⟨σ', H9, J, q⟩ := q9
      exact goes (Q9 := fun s' => SP X pins Dn .cont s') J fun s' J' => ⟨_, _, J', q⟩
    | ret u =>
      obtain ⟨v, σ', H9, J, r, q⟩ := q9
      exact goes (Q9 := fun s' => SP X pins Dn (.ret u) s') J fun s' J' => ⟨v, _, _, J', r, q⟩
end
/-! ### an empty dict -/
def tDNewS : TE := fun _ H Q => New H (.dK []) Q ⟨⟩
theorem pe_dnewS {X : Cx} {pos : Pos} : PE X (.Dict [] [] pos) tDNewS := PE.weak pe_dnewK fun _ _ _ h => h.raw
theorem tyNm_same {H H' : Hp} {v : V} {t : Ty} (S : Same H H') (h : tyNm H v = some t) : tyNm H' v = some t := by
  cases v with
  | ref a =>
    rw [tyNm_r] at h ⊢
    cases e : H a with
    | none => rw [e] at h; cases h
    | some o => rw [e] at h; rw [S _ _ e]; exact h
  | _ => exact h
end L2

/-! texts -/
namespace L2
open PySem PySem.Spec PyProof.Rows
section
variable {X : Cx} {tg : Expr}
/-! ### methods -/
def rStr1 (g : Str → Str → V) : V → List V → Hp → VK → Prop := fun x vs H Q => match x, vs with
  | .str z, [.str y] => Q (g z y) H
  | _, _ => False
theorem mt_startswith : MtR X "str.startswith" (rStr1 fun z y => .bl (Txt.startswith z y)) := by
  intro pins s σ H x xs v us Q I rx rs h
  match x, xs, h with
  | .str z, [.str y], q =>
    obtain ⟨t, rfl⟩ := rx
    obtain ⟨u, rfl, t', rfl⟩ := vals1 rs
    exact call_gives F.slot_str_startswith (typeIs_str _ _ _) F.entry_str_startswith (F.args_str_startswith_2 _ _) (gives_str_startswith z y t t') ⟨.bl (Txt.startswith z y), H, I, rfl, q⟩
theorem mt_find : MtR X "str.find" (rStr1 fun z y => .int (Txt.find z y)) := by
  intro pins s σ H x xs v us Q I rx rs h
  match x, xs, h with
  | .str z, [.str y], q =>
    obtain ⟨t, rfl⟩ := rx
    obtain ⟨u, rfl, t', rfl⟩ := vals1 rs
    exact call_gives F.slot_str_find (typeIs_str _ _ _) F.entry_str_find (F.args_str_find_2 _ _) (gives_str_find z y t t') ⟨.int (Txt.find z y), H, I.tok _, ⟨_, rfl⟩, q⟩
/-! ### the signs of a text, one by one -/
def Its (x : Str) : It := ⟨fun i _ => i < x.cps.size, fun i H v H' => H' = H ∧ ∃ c, x.cps[i]? = some c ∧ v = .str ⟨#[c]⟩, fun i _ => i = x.cps.size⟩
theorem turn_str {P : Program} {w : World} {K : PySem.W.Frag} (it : Addr) (x : Str) (t : Tok) {n : String} (hn : ["enumerate", "zip", "dict_itemiterator", "dict_reverseitemiterator", "odict_iterator", "itertools.zip_longest", "itertools.pairwise"].contains n = false)
    (W : ∀ A' : Around, A'.handled = none → Walks P w A' it [it] [it] x.cps.size (SignAt x) (fun i h => h.IsStrIter it n x t i))
    (S : ∀ (A : Around) (i : Nat) (s : Shared) (Q : Value → Shared → Prop) (E : Value → Shared → Prop), s.heap.IsStrIter it n x t i → Q (.ref it) s → wpAny (model P w) A (pyIter (.ref it)) Q E s) : Turn P w K tg (Its x) [it] it (fun i h => h.IsStrIter it n x t i) where
  mem := by simp
  obj := fun i h st b hb => by
    have e : b = it := by simpa using hb
    subst e
    obtain ⟨o, e, c, d⟩ := st
    exact ⟨o, e, fun v z => by rw [d] at z; cases z⟩
  keep := fun i h h' st k => let ⟨o, ho, r⟩ := st; ⟨o, k it (by simp) o ho, r⟩
  item := by
    intro X hP hw hK hc i pins s σ H E I hf st hg
    subst hP hw hK
    obtain ⟨f0, f1, f2, f3, f4, f5⟩ := hf it (by simp)
    refine (W _ (I.ok.hd hc)).item i s _ _ hg st fun v h' tk hv st' kk => ?_
    obtain ⟨c, u, hc', rfl⟩ := hv
    have I1 : Inv X pins σ H { s with heap := h', toks := tk } := I.turned (fun b o hb e => kk b o (by simpa using hb) e) f0 f1 f3 f4 f5
    obtain ⟨o, e1, c1, d1⟩ := id st'
    exact ⟨_, rfl, go_of (s := { s with heap := h', toks := tk }) e1 c1 d1 hn ⟨.str ⟨#[c]⟩, H, I1, ⟨u, rfl⟩, ⟨rfl, c, hc', rfl⟩, st', fun b hb => (hf b hb).1⟩⟩
  done := by
    intro X hP hw hK hc i pins s σ H E I hf st hg
    subst hP hw hK
    obtain ⟨f0, f1, f2, f3, f4, f5⟩ := hf it (by simp)
    have hi : i = x.cps.size := hg
    subst hi
    exact (W _ (I.ok.hd hc)).done s _ _ st fun h' tk kk => ⟨rfl, I.turned (t' := tk) (fun b o hb e => kk b o (by simpa using hb) e) f0 f1 f3 f4 f5⟩
  self := S
def iStr (tl : TE) : TI := fun σ H R => tl σ H fun x H1 => match x with
  | .str z => R (Its z) H1
  | _ => False
theorem pi_str {l : Expr} {tl : TE} (hl : PE X l tl) : PI X tg l (iStr tl) := by
  intro pins s σ H R I h
  refine thn (hl pins s σ H _ I h) fun v s1 ⟨x, H1, I1, r1, q1⟩ => ?_
  cases x with
  | str z =>
    obtain ⟨t, rfl⟩ := r1
    have fin : ∀ (o : Obj) (n : String), ["enumerate", "zip", "dict_itemiterator", "dict_reverseitemiterator", "odict_iterator", "itertools.zip_longest", "itertools.pairwise"].contains n = false → (s1.heap.push o).IsStrIter s1.heap.objs.size n z t 0 →
        (∀ A' : Around, A'.handled = none → Walks X.prog X.w A' s1.heap.objs.size [s1.heap.objs.size] [s1.heap.objs.size] z.cps.size (SignAt z) (fun i h => h.IsStrIter s1.heap.objs.size n z t i)) →
        (∀ (A : Around) (i : Nat) (s : Shared) (Q : Value → Shared → Prop) (E : Value → Shared → Prop), s.heap.IsStrIter s1.heap.objs.size n z t i → Q (.ref s1.heap.objs.size) s → wpAny (model X.prog X.w) A (pyIter (.ref s1.heap.objs.size)) Q E s) →
        PIE X pins σ tg R (.ref s1.heap.objs.size) { s1 with heap := s1.heap.push o } := fun o n hn st W S => by
      refine ⟨s1.heap.objs.size, [s1.heap.objs.size], _, _, H1, rfl, I1.kept (t' := s1.toks) fun b o e => Heap.get?_push_of_some _ e, turn_str _ z t hn W S, st, fun b hb => ?_, q1⟩
      have e : b = s1.heap.objs.size := by simpa using hb
      subst e
      exact I1.fpOk (Nat.le_refl _) (I1.hok.fresh (Nat.le_refl _))
    cases ha : z.cps.all (· < 128)
    · exact wpAny_pyIter_wide ha (fin _ "str_iterator" (by decide) ⟨_, Heap.get?_push_size _ rfl, rfl, rfl⟩ (fun A' hA => Walks.strWide hA _ z t) fun _ _ _ _ _ st hQ => wpAny_pyIter_striter_wide st hQ)
    · exact wpAny_pyIter_ascii ha (fin _ "str_ascii_iterator" (by decide) ⟨_, Heap.get?_push_size _ rfl, rfl, rfl⟩ (fun A' hA => Walks.strAscii hA _ z t) fun _ _ _ _ _ st hQ => wpAny_pyIter_striter_ascii st hQ)
  | _ => exact False.elim q1
theorem forW_str {x : Str} {g : TG} {tb : TS} {D : Ends} {σ : St} {H : Hp} (Pv : Nat → St → Hp → Prop) (h0 : Pv 0 σ H)
    (hs : ∀ i c σ H, x.cps[i]? = some c → Pv i σ H → g (.str ⟨#[c]⟩) σ H fun σ2 H2 => tb { D with nx := Pv (i + 1), ct := Pv (i + 1), bk := D.nx } σ2 H2) (hd : ∀ σ H, Pv x.cps.size σ H → D.nx σ H) : ForW (Its x) g tb D σ H := by
  refine ⟨fun i m σ H => m = x.cps.size - i ∧ i ≤ x.cps.size ∧ Pv i σ H, ⟨x.cps.size, by simp, Nat.zero_le _, h0⟩, ?_⟩
  rintro i m σ H ⟨rfl, hi, p⟩
  by_cases hlt : i < x.cps.size
  · refine .inr ⟨hlt, Pv (i + 1), fun σ' H' p' => ⟨x.cps.size - (i + 1), by omega, rfl, hlt, p'⟩, fun v H' y => ?_⟩
    obtain ⟨e, c, hc, e2⟩ := y
    subst e e2
    exact hs i c σ _ hc p
  · have e : i = x.cps.size := by omega
    subst e
    exact .inl ⟨rfl, hd σ H p⟩
/-! ### cuts -/
def rSlA : V → Option Int → Option Int → Hp → VK → Prop := fun x lo hi H Q => match x with
  | .ref a => (match H a with
    | some (.lst xs) => New H (.lst (cutV xs lo hi)) Q ⟨⟩
    | _ => False)
  | .str z => z.length ≤ sizeLine ∧ Q (.str (Txt.slice z lo hi)) H
  | _ => False
theorem sl_A : SlR X rSlA := by
  intro pins s σ H x v vl vu lo hi sl Q I rx hs pl pu h
  cases x with
  | ref a => exact sl_M pins s σ H _ v vl vu lo hi sl Q I rx hs pl pu h
  | str z =>
    obtain ⟨t, rfl⟩ := rx
    obtain ⟨hz, q⟩ := h
    have fin : ∀ t' k, EP X pins σ Q (.str (Txt.slice z lo hi) t') { s with toks := k } := fun t' k => ⟨.str _, H, I.tok k, ⟨_, rfl⟩, q⟩
    refine ⟨"str", _, F.slot_str_getitem.lookup, typeIs_str _ _ _, ?_⟩
    cases pl with
    | none =>
      cases pu with
      | none => exact wpAny_getItem_str_slice (l := none) (u := none) (st := none) hs rfl (post_val_or_str ⟨Nat.le_trans (Txt.slice_le z _ _) hz, fin⟩)
      | int j uj => exact wpAny_getItem_str_slice (l := none) (u := some (j, uj)) (st := none) hs rfl (post_val_or_str ⟨Nat.le_trans (Txt.slice_le z _ _) hz, fin⟩)
    | int i ui =>
      cases pu with
      | none => exact wpAny_getItem_str_slice (l := some (i, ui)) (u := none) (st := none) hs rfl (post_val_or_str ⟨Nat.le_trans (Txt.slice_le z _ _) hz, fin⟩)
      | int j uj => exact wpAny_getItem_str_slice (l := some (i, ui)) (u := some (j, uj)) (st := none) hs rfl (post_val_or_str ⟨Nat.le_trans (Txt.slice_le z _ _) hz, fin⟩)
  | _ => exact False.elim h
/-! ### int(..) of an int, a bool, a text -/
def rIntF : List V → Hp → VK → Prop := fun xs H Q => match xs with
  | [.int i] => Q (.int i) H
  | [.bl k] => Q (.int (if k then 1 else 0)) H
  | [.str z] => ∃ n, PySem.intText? z = some n ∧ z.length ≤ 640 ∧ Q (.int n) H
  | _ => False
theorem call_intF : CallR X (.type "int") rIntF := by
  intro pins s σ H xs us Q I r h
  match xs, r, h with
  | [.int i], r, q => exact call_int1 pins s σ H _ us Q I r (.inl ⟨i, rfl, q⟩)
  | [.bl k], r, q => exact call_int1 pins s σ H _ us Q I r (.inr ⟨k, rfl, q⟩)
  | [.str z], r, ⟨n, hn, hl, q⟩ =>
    obtain ⟨u, rfl, t, rfl⟩ := vals1 r
    exact PySem.W.KIN.call_text hn hl ⟨.int n, H, I.tok _, ⟨_, rfl⟩, q⟩
/-! ### str(..) of an int -/
def rStrI : List V → Hp → VK → Prop := fun xs H Q => match xs with
  | [.int i] => i.natAbs.log2 < 1920 ∧ Q (.str (toString i)) H
  | _ => False
theorem call_strF : CallR X (.type "str") rStrI := call_str_int.weak fun xs H Q h => by
  match xs, h with
  | [.int i], ⟨a, b⟩ => exact ⟨i, rfl, a, b⟩
/-! ### f-strings -/
def tFmt (te : TE) : TE := fun σ H Q => te σ H fun x H1 => match x with
  | .int i => i.natAbs.log2 < 1920 ∧ Q (.str (toString i)) H1
  | .str y => y.length ≤ sizeLine ∧ Q (.str y) H1
  | _ => False
theorem pe_fmt {e : Expr} {te : TE} {pos : Pos} (he : PE X e te) : PE X (.FormattedValue e (-1) none pos) (tFmt te) := by
  intro pins s σ H Q I h
  refine wpAny_FormattedValue_plain (thn (he pins s σ H _ I h) fun v s1 ⟨x, H1, I1, r1, q1⟩ => ?_)
  cases x with
  | int i =>
    obtain ⟨t, rfl⟩ := r1
    exact wpAny_formatField_int q1.1 ⟨.str (toString i), H1, I1.tok _, ⟨_, rfl⟩, q1.2⟩
  | str y =>
    obtain ⟨t, rfl⟩ := r1
    exact wpAny_formatField_str (hx := q1.1) ⟨.str y, H1, I1, ⟨_, rfl⟩, q1.2⟩ ⟨.str y, H1, I1.tok _, ⟨_, rfl⟩, q1.2⟩
  | _ => exact False.elim q1
abbrev TJ := Str → St → Hp → (Str → Hp → Prop) → Prop
def PJ (X : Cx) (es : List Expr) (t : TJ) : Prop := ∀ (pins : List (Addr × Obj)) (acc : Str) (s : Shared) (σ : St) (H : Hp) (Q : Str → Hp → Prop) (Q' : Str → Shared → Prop), Inv X pins σ H s → t acc σ H Q → (∀ out H1 s1, Inv X pins σ H1 s1 → Q out H1 → Q' out s1) →
  Joins (model X.prog X.w) X.A X.xe (evalEach es X.env) acc Q' s
def tJNil : TJ := fun acc _ H Q => Q acc H
def tJCons (te : TE) (tr : TJ) : TJ := fun acc σ H Q => te σ H fun x H1 => match x with
  | .str y => acc.length + y.length ≤ sizeLine ∧ tr (acc ++ y) σ H1 Q
  | _ => False
theorem pj_nil : PJ X [] tJNil := fun pins acc s σ H Q Q' I h k => k acc H s I h
theorem pj_cons {e : Expr} {es : List Expr} {te : TE} {tr : TJ} (he : PE X e te) (hr : PJ X es tr) (hs : evalEach (e :: es) X.env = eval e X.env :: evalEach es X.env := by rfl) : PJ X (e :: es) (tJCons te tr) := by
  intro pins acc s σ H Q Q' I h k
  rw [hs]
  refine thn (he pins s σ H _ I h) fun v s1 ⟨x, H1, I1, r1, q1⟩ => ?_
  cases x with
  | str y =>
    obtain ⟨t, rfl⟩ := r1
    exact ⟨y, t, rfl, by rw [strLen_append]; exact q1.1, hr pins (acc ++ y) s1 σ H1 Q Q' I1 q1.2 k⟩
  | _ => exact False.elim q1
def tJoin (tj : TJ) : TE := fun σ H Q => tj Str.empty σ H fun out H1 => out.length ≤ sizeLine ∧ Q (.str out) H1
theorem pe_joined {e₁ e₂ : Expr} {es : List Expr} {tj : TJ} {pos : Pos} (h : PJ X (e₁ :: e₂ :: es) tj) : PE X (.JoinedStr (e₁ :: e₂ :: es) pos) (tJoin tj) := by
  intro pins s σ H Q I hq
  exact wpAny_JoinedStr (h pins Str.empty s σ H _ _ I hq fun out H1 s1 I1 q => ⟨q.1, .str out, H1, I1.tok _, ⟨_, rfl⟩, q.2⟩)
/-! ### split by a text -/
/-- the parts of x between the places of y -/
def splitS (x y : Str) : List Str := if (decide (x.length < y.length) || decide (Builtin.Str.strKind x < Builtin.Str.strKind y)) = true then [x] else if (Builtin.Str.occurrences x y 0 x.length (x.length + 1)).isEmpty = true then [x] else Builtin.Str.partsBetween x (Builtin.Str.occurrences x y 0 x.length (x.length + 1)) y.length
def rSplit : V → List V → Hp → VK → Prop := fun x vs H Q => match x, vs with
  | .str z, [.str y] => (y.length == 0) = false ∧ z.length ≤ sizeLine ∧ (splitS z y).length ≤ sizeLine ∧ New H (.lst ((splitS z y).map V.str)) Q ⟨⟩
  | _, _ => False
theorem vals_strs : ∀ (l : List Str) (k : Nat), Vals (l.map V.str) (strsFrom k l)
  | [], _ => .nil
  | x :: l, k => .cons ⟨_, rfl⟩ (vals_strs l (k + 1))
theorem mt_split : MtR X "str.split" rSplit := by
  intro pins s σ H x xs v us Q I rx rs h
  match x, xs, h with
  | .str z, [.str y], ⟨hy, hz, hn, q⟩ =>
    obtain ⟨t, rfl⟩ := rx
    obtain ⟨u, rfl, t', rfl⟩ := vals1 rs
    have fr : H s.heap.objs.size = none := I.hok.fresh (Nat.le_refl _)
    have itself : splitS z y = [z] → EP X pins σ Q (.ref s.heap.objs.size) { s with heap := s.heap.push { cls := .type "list", data := .seq [Value.str z t].toArray } } := fun e => by
      rw [e] at q
      exact ⟨.ref _, _, I.laid (o := .lst ([z].map V.str)) (t' := s.toks) (fun b u e => Heap.get?_push_of_some _ e) (Nat.le_refl _) ⟨show 1 ≤ sizeLine by decide, [Value.str z t], 0, .cons ⟨t, rfl⟩ .nil, Heap.get?_push_size _ rfl⟩, rfl, q.raw _ fr⟩
    by_cases h1 : (decide (z.length < y.length) || decide (Builtin.Str.strKind z < Builtin.Str.strKind y)) = true
    · exact call_meets F.slot_str_split (typeIs_str _ _ _) F.entry_str_split (F.args_str_split_2 _ _) (meets_str_split_cannot_occur z y t t' h1) (itself (by unfold splitS; rw [if_pos h1]))
    · have h1' := Bool.eq_false_iff.mpr h1
      by_cases h2 : (Builtin.Str.occurrences z y 0 z.length (z.length + 1)).isEmpty = true
      · exact call_meets F.slot_str_split (typeIs_str _ _ _) F.entry_str_split (F.args_str_split_2 _ _) (meets_str_split_not_found z y t t' h1' hy h2) (itself (by unfold splitS; rw [if_neg h1, if_pos h2]))
      · have h2' := Bool.eq_false_iff.mpr h2
        have e : splitS z y = Builtin.Str.partsBetween z (Builtin.Str.occurrences z y 0 z.length (z.length + 1)) y.length := by unfold splitS; rw [if_neg h1, if_neg h2]
        refine call_meets F.slot_str_split (typeIs_str _ _ _) F.entry_str_split (F.args_str_split_2 _ _) (meets_str_split_sep z y t t' h1' hy h2' hz (by rw [← e]; exact hn)) ?_
        rw [← e]
        refine ⟨.ref _, _, I.laid (o := .lst ((splitS z y).map V.str)) (t' := s.toks + (splitS z y).length) (fun b u e => Heap.get?_push_of_some _ e) (Nat.le_refl _) ⟨by rw [List.length_map]; exact hn, strsFrom s.toks (splitS z y), 0, vals_strs _ _, Heap.get?_push_size _ rfl⟩, rfl, q.raw _ fr⟩
/-! ### in, not in: of a text, of a list or tuple of flat items -/
/-- y stands in z -/
def hasS (z y : Str) : Bool := !(Builtin.Str.occurrences z y 0 z.length 1).isEmpty
def rInM (neg : Bool) : R2 := fun x y H Q => match y with
  | .str z => (match x with
    | .str y => Q (.bl (hasS z y != neg)) H
    | _ => False)
  | .ref p => (match H p with
    | some (.lst xs) => flatV x = true ∧ xs.all flatV = true ∧ Q (.bl (inV x xs != neg)) H
    | some (.tup xs) => flatV x = true ∧ xs.all flatV = true ∧ Q (.bl (inV x xs != neg)) H
    | _ => False)
  | _ => False
theorem op_notInM : OpR X (compareOp .NotIn) (rInM true) := by
  intro pins s σ H x y v u Q I rx ry h
  cases y with
  | str z =>
    cases x with
    | str y =>
      have h : Q (.bl (hasS z y != true)) H := h
      rw [Bool.bne_true] at h
      exact op_notIn_str pins s σ H _ _ v u Q I rx ry ⟨y, z, rfl, rfl, h⟩
    | _ => exact False.elim h
  | ref p =>
    have h : (match H p with
      | some (.lst xs) => flatV x = true ∧ xs.all flatV = true ∧ Q (.bl (inV x xs != true)) H
      | some (.tup xs) => flatV x = true ∧ xs.all flatV = true ∧ Q (.bl (inV x xs != true)) H
      | _ => False) := h
    split at h
    · rename_i xs e
      rw [Bool.bne_true] at h
      exact op_notIn_seq pins s σ H _ _ v u Q I rx ry ⟨p, xs, rfl, .inl (SqL.of e), h.1, h.2.1, by simpa using h.2.2⟩
    · rename_i xs e
      rw [Bool.bne_true] at h
      exact op_notIn_seq pins s σ H _ _ v u Q I rx ry ⟨p, xs, rfl, .inr (SqT.of e), h.1, h.2.1, by simpa using h.2.2⟩
    · exact h.elim
  | _ => exact False.elim h
end
end L2

/-! own objects: readings that compute -/
namespace L2
open PySem PySem.Spec PyProof.Rows
/-- the object at a is written: all else stays -/
def Wr (H : Hp) (a : Addr) (o : HO) (k : Hp → Prop) (_ : Tag k) : Prop := ∀ H1, SameB a H H1 → H1 a = some o → k H1
section
variable {X : Cx} {e o value : Expr} {f m x : Str} {pos pos' apos : Pos} {ta tv : TE} {t : TA} {C : Addr} {es : List Expr}
def tFldF (K : PySem.W.Frag) (ta : TE) (f : Str) : TE := fun σ H Q => ta σ H fun x H1 => match x with
  | .ref a => (match H1 a with
    | some (.ins C dx fs) => Cls K C ∧ NoAttr K C f ∧ (match fs.lookup f with
      | some v => Q v H1
      | none => False)
    | _ => False)
  | _ => False
def sFldF (K : PySem.W.Frag) (ta tv : TE) (f : Str) : TS := fun D σ H => tv σ H fun y H1 => ta σ H1 fun x H2 => match x with
  | .ref a => (match H2 a with
    | some (.ins C dx fs) => Cls K C ∧ NoAttr K C f ∧ fs.length < 1000 ∧ Wr H2 a (.ins C dx (putF f y fs)) (D.nx σ) ⟨⟩
    | _ => False)
  | _ => False
end
/-! ### methods, new instances -/
/-- o.m(..): the instance is one of the class at C -/
def tMethF (C : Addr) (m : Str) (sp : Sp) (dvs : List V) (E : XK) (ta : TE) (t : TA) : TE := fun σ H Q => ta σ H fun x H1 => match x with
  | .ref a => (match H1 a with
    | some (.ins C' dx fs) => C' = C ∧ fs.lookup m = none ∧ t σ H1 fun vs H2 => sp (x :: (vs ++ dvs)) H2 Q E
    | _ => False)
  | _ => False
section
variable {X : Cx} {CX : CXT} {k : Nat} {f C : Addr} {fd : FuncData} {ps : List Str} {sp : Sp} {dvs : List V} {ds : List Value} {E : XK} {x m : Str} {p pos apos : Pos} {e o : Expr} {es : List Expr} {ta : TE} {t : TA}
/-- a new instance of the class at C, without attributes, as __init__ finds it -/
def NewI (H : Hp) (C : Addr) (k : Addr → Hp → Prop) (_ : Tag k) : Prop := ∀ x dx H1, H x = none → H dx = none → dx ≠ x → Same H H1 → H1 dx = some (.own x) → H1 x = some (.ins C dx []) → k x H1
/-- what __init__ tells is None, and behind it goes Q of the instance -/
def AsNew (x : Addr) (Q : VK) : VK := fun v H2 => v = .non ∧ Q (.ref x) H2
def tMakeS (C : Addr) (sp : Sp) (dvs : List V) (E : XK) (t : TA) : TE := fun σ H Q => t σ H fun vs H1 => NewI H1 C (fun x H2 => sp (.ref x :: (vs ++ dvs)) H2 (AsNew x Q) E) ⟨⟩
theorem NewI.raw {H : Hp} {C : Addr} {k : Addr → Hp → Prop} {t : Tag k} (h : NewI H C k t) : ∀ x dx, H x = none → H dx = none → dx ≠ x → k x (upd (upd H dx (.own x)) x (.ins C dx [])) := fun x dx ex ed ne =>
  h x dx _ ex ed ne ((Same.upd ed).trans (Same.upd (by rw [upd_ne ne.symm]; exact ex))) (by rw [upd_ne ne]; exact upd_same) upd_same
end
/-! ### e.f op= value, by what stands there behind the value -/
def sFldAugF (K : PySem.W.Frag) (ta tv : TE) (rd : V → V → Hp → VK → Prop) (f : Str) : TS := fun D σ H => ta σ H fun x H1 => match x with
  | .ref a => (match H1 a with
    | some (.ins C dx fs) => Cls K C ∧ NoAttr K C f ∧ (match fs.lookup f with
      | some v => tv σ H1 fun y H2 => rd v y H2 fun z H3 => (match H3 a with
        | some (.ins C' dx' fs') => C' = C ∧ fs'.length < 1000 ∧ Wr H3 a (.ins C dx' (putF f z fs')) (D.nx σ) ⟨⟩
        | _ => False)
      | none => False)
    | _ => False)
  | _ => False
section
variable {X : Cx} {o e value : Expr} {f : Str} {pos pos' tpos : Pos} {ta tv : TE}
end
/-! ### augmented operators on whole numbers, names -/
def rInF (g : Int → Int → Int) : V → V → Hp → VK → Prop := fun x y H Q => match x, y with
  | .int i, .int j => Q (.int (g i j)) H
  | _, _ => False
def tAugF (i : Nat) (te : TE) (ti : TIp) : TS := fun D σ H => match σ[i]? with
  | some (some x) => te σ H fun y H1 => ti x y H1 fun z H2 => D.nx (σ.set i (some z)) H2
  | _ => False
section
variable {X : Cx} {pos : Pos}
end
theorem noxK {X : Cx} : X.nox.K = X.K := rfl
end L2

/-! calls within an except suite: a def that runs while an exception is held -/
namespace L2
open PySem PySem.Spec PyProof.Rows
structure RoomH (k : Nat) (A : Around) : Prop where
  dp : A.depth + 3 * k + 5 < recursionLimit
  un : A.units + 16 * k + 200 < cLine
theorem Room.h {k : Nat} {A : Around} (r : Room k A) : RoomH k A := ⟨r.dp, r.un⟩
theorem RoomH.mono {j k : Nat} {A : Around} (r : RoomH k A) (h : j ≤ k) : RoomH j A := ⟨by have := r.dp; omega, by have := r.un; omega⟩
theorem RoomH.deeper {k : Nat} {A : Around} (r : RoomH (k + 1) A) (env : Env) : RoomH k (A.deeper env) :=
  ⟨by have := r.dp; show A.depth + 1 + 3 * k + 5 < _; omega, by have := r.un; show A.units + 3 + 16 * k + 200 < _; omega⟩
theorem RoomH.units {k : Nat} {A : Around} (r : RoomH k A) : A.units + 64 < cLine := by have := r.un; omega
theorem RoomH.calm {k : Nat} {A : Around} (r : RoomH k A) : Room k { A with handled := none } := ⟨rfl, r.dp, r.un⟩
structure FnOkH (P : Program) (w : World) (K : PySem.W.Frag) (mg : Str → Option Value) (base : Heap) (k : Nat) (f : Addr) (fd : FuncData) (ps : List Str) (sp : Sp) : Prop where
  len : ∀ vs H Q E, sp vs H Q E → vs.length = ps.length
  run : ∀ (A : Around) (outer : List Env) (s : Shared) (H : Hp) (args : Args) (us : List Value) (vs : List V) (Q : VK) (E : XK), RoomH k A → Env0 P w K mg base A outer s H → BindsTo s fd args (ps.zip us) → Vals vs us → sp vs H Q E →
    codeAny (model P w) A (.call (.ref f) args) (CR CX0 outer P w H s Q E) s
theorem FnOkH.ok {P : Program} {w : World} {K : PySem.W.Frag} {mg : Str → Option Value} {base : Heap} {k : Nat} {f : Addr} {fd : FuncData} {ps : List Str} {sp : Sp} (F : FnOkH P w K mg base k f fd ps sp) : FnOk P w K mg base CX0 k f fd ps sp :=
  ⟨F.len, fun A outer s H args us vs Q E hr => F.run A outer s H args us vs Q E hr.h⟩
/-- the context of a body that runs while an exception is held -/
abbrev cxOfH (P : Program) (w : World) (K : PySem.W.Frag) (mg : Str → Option Value) (base : Heap) (N : List Str) (qual : Str) (scope : Scope) (f : Addr) (cd : Value) (A : Around) (outer : List Env) (s : Shared) (H : Hp) (E : XK) : Cx := { cxOf CX0 P w K mg base N qual scope f cd A outer s H E with calm := false, xe := fun _ _ => False }
theorem inv_startH {P : Program} {w : World} {K : PySem.W.Frag} {mg : Str → Option Value} {base : Heap} {N ps : List Str} {qual : Str} {scope : Scope} {f : Addr} {cd : Value} {A : Around} {outer : List Env} {s s1 : Shared} {H : Hp} {E : XK} {us : List Value} {vs : List V}
    (S : FnScope N ps scope) (e0 : Env0 P w K mg base A outer s H) (hl : vs.length = ps.length) (r : Vals vs us)
    (x : InCallC s s.heap.objs.size (bindL (envOfC qual scope s.heap.objs.size f cd).kindOf (ps.zip us) fun _ => none) (cellsFrom (s.heap.objs.size + 1) scope.names []) (bindC (envOfC qual scope s.heap.objs.size f cd).kindOf (ps.zip us) fun _ => none) s1) :
    Inv (cxOfH P w K mg base N qual scope f cd A outer s H E) [] (start N vs) H s1 := by
  have e1 : Env0 P w K mg base { A with handled := none } outer s H := ⟨e0.frames, e0.mod, e0.bs, e0.bsz, e0.funs, e0.frf, e0.hok, e0.bare⟩
  have I := inv_start (CX := CX0) (qual := qual) (f := f) (cd := cd) (E := E) (A := { A with handled := none }) S rfl e1 hl r x
  exact ⟨⟨I.ok.mod, I.ok.kind, I.ok.glob, I.ok.blt, I.ok.above, I.ok.inj, I.ok.has, I.ok.cab, fun h => Bool.noConfusion h, Around.frames_deeper e0.frames, I.ok.stk, I.ok.exf, I.ok.bs, I.ok.bsz, I.ok.noex, I.ok.exfs, I.ok.funs, I.ok.frf⟩, I.os, I.bare, I.base, I.loc, I.cell, I.free, I.freeC, I.pin, I.hok, I.len⟩
theorem Fun.okH {P : Program} {w : World} {K : PySem.W.Frag} {mg : Str → Option Value} {base : Heap} {x qual : Str} {st : Stmt} {f : Addr} {fd : FuncData} {N ps : List Str} {k : Nat} {sp : Sp} (F : Fun K x qual st f fd) (S : FnScope N ps (defScope st)) (len : ∀ vs H Q E, sp vs H Q E → vs.length = ps.length)
    (hbody : ∀ (cdv : Value) (A : Around) (outer : List Env) (s : Shared) (H : Hp) (vs : List V) (Q : VK) (E : XK), RoomH k (A.deeper (envOfC qual (defScope st) s.heap.objs.size f cdv)) → sp vs H Q E →
      ∃ t, PSs (cxOfH P w K mg base N qual (defScope st) f cdv A outer s H E) (defBody st) t ∧ t { nx := fun _ H' => Q .non H', rt := Q } (start N vs) H) : FnOkH P w K mg base (k + 1) f fd ps sp := by
  obtain ⟨oc, od, kV, doc, pm, an, cdv, ct, osl, rfl, lk, hcd⟩ := F.ex
  refine ⟨len, fun A outer s H args us vs Q E hr e0 hb r hsp => ?_⟩
  have hl := len _ _ _ _ hsp
  have KX : K.In s.heap := e0.mod.kin.keeps fun b o e => (e0.bs b o e).1
  have lim : s.heap.NoLimit := e0.mod.nolimit.keeps fun b o e => (e0.bs b o e).1
  have hkind : ∀ y ∈ ps.zip us, (defScope st).names.lookup y.1 = some .local ∨ ((defScope st).names.lookup y.1 = some .cell ∧ ((cellsFrom (s.heap.objs.size + 1) (defScope st).names []).lookup y.1).isSome = true) := fun ⟨n, v⟩ hy => by
    rcases S.par n (List.of_mem_zip hy).1 with q | q
    · exact .inl q
    · exact .inr ⟨q, PySem.W.cellsFrom_some _ _ _ (.inl q)⟩
  refine codeAny_call_function (hr.calm.depth) (KX _ _ lk) rfl S.co S.gen rfl (PySem.W.codeRec_of KX hcd) (hb _ _ _ _ ?_)
  refine wpAny_newFunctionEnv_cells S.kind hkind fun env he s1 x => ?_
  subst he
  refine ⟨lim.keeps x.toInCall.keep, codeAny_func ?_⟩
  obtain ⟨t, ht, hq⟩ := hbody cdv A outer s H vs Q E (hr.deeper _) hsp
  have I : Inv (cxOfH P w K mg base N qual (defScope st) f cdv A outer s H E) [] (start N vs) H s1 := inv_startH S e0 hl r x
  refine wpAny_mono (ht [] s1 (start N vs) H _ I hq) (fun fl s' hs => ?_) fun e s' hs => False.elim hs
  have fin : ∀ {σ' : St} {H' : Hp} {v : V} {u : Value}, Inv (cxOfH P w K mg base N qual (defScope st) f cdv A outer s H E) [] σ' H' s' → RelV v u → Q v H' → CE outer P w H s Q u s' :=
    fun {σ' H' v u} J rv q => ⟨v, H', J.os, J.bare, J.base, J.hok, rv, q⟩
  cases fl with
  | ret u =>
    obtain ⟨v, σ', H', J, rv, q⟩ := hs
    exact fin J rv q
  | next =>
    obtain ⟨σ', H', J, q⟩ := hs
    exact fin (v := V.non) (u := Value.none) J rfl q
  | brk =>
    obtain ⟨_, _, _, q⟩ := hs
    exact False.elim q
  | cont =>
    obtain ⟨_, _, _, q⟩ := hs
    exact False.elim q
section
variable {X : Cx} {k : Nat} {f : Addr} {fd : FuncData} {ps : List Str} {sp : Sp} {dvs : List V} {ds : List Value} {x : Str} {p pos : Pos} {e : Expr} {es : List Expr} {t : TA}
theorem pe_callH (F : FnOkH X.prog X.w X.K X.mg X.base k f fd ps sp) (hr : RoomH k X.A) (hg : Gl X x) (hm : X.mg x = some (.ref f)) (hk : PySem.W.keepIn X.K (.ref f) = true) (hb : Binds X.K fd ps ds) (hd : Vals dvs ds)
    (ha : PA X (e :: es) t) (hdb : (x == ("__debug__" : Str)) = false := by decide) (he : starEach (e :: es) X.env = (false, eval e X.env) :: starEach es X.env := by rfl) (hpl : (backTo pos (starEach es X.env)).any (·.1) = false := by rfl) :
    PE X (.Call (.Name x p) (e :: es) [] pos) (tCall sp dvs E0 t) := by
  intro pins s σ H Q I h
  refine wpAny_Call_Name_kw (ld_glob I hg hm ?_ hdb)
  refine PySem.W.callWith_K (h₀ := X.base) I.ok.mod.kin hk (thn (ha pos pins s σ H _ I h) fun us s1 ⟨vs, H1, I1, r, q⟩ => ⟨I1.kIn, ?_⟩) he hpl
  have r2 : Vals (vs ++ dvs) (us ++ ds) := r.append hd
  have hl : (us ++ ds).length = ps.length := by rw [← r2.length]; exact F.len _ _ _ _ q
  refine wpAny_call (codeAny_mono (F.run X.A X.stack s1 H1 ⟨us, []⟩ (us ++ ds) (vs ++ dvs) Q E0 hr I1.env0 (hb s1 us I1.kIn hl) r2 q) fun r s' hq => ?_)
  cases r with
  | error e => exact False.elim hq
  | ok fl =>
    cases fl with
    | ret u => exact I1.after hq
    | next => exact False.elim hq
    | brk => exact False.elim hq
    | cont => exact False.elim hq
end
theorem RoomH.mark {k : Nat} {A : Around} (r : RoomH k A) (h : Option Value) : RoomH k (A.mark h) := ⟨r.dp, r.un⟩
theorem call_isXK {X : Cx} {K : PySem.W.Frag} (h : X.K = K) : CallR X (.builtin "isinstance") (rIsX K) := h ▸ call_isX
end L2

/-! texts: their signs, figures, one cut -/
namespace L2
open PySem PySem.Spec PyProof.Rows
open PySem.Builtin.Str (occurrences subAt partsBetween strSub)
abbrev sg (x : Str) : List Nat := x.cps.toList
theorem sg_inj {x y : Str} (h : sg x = sg y) : x = y := Str.ext' (by
  have := congrArg List.toArray h
  simpa using this)
theorem sg_append (x y : Str) : sg (x ++ y) = sg x ++ sg y := by unfold sg; rw [Str.cps_append]; simp
theorem sg_len (x : Str) : (sg x).length = x.length := by simp [Str.length]
theorem at_one {x : Str} {c i : Nat} : StrLaws.At x ⟨#[c]⟩ x.length i ↔ (sg x)[i]? = some c := StrLaws.subAt_one x c i
theorem one_len {c : Nat} : (⟨#[c]⟩ : Str).length = 1 := rfl
theorem sg_sub (x : Str) (i j : Nat) : sg (strSub x i j) = ((sg x).drop i).take (j - i) := StrLaws.strSub_toList x i j
/-! ### one sign, cut -/
theorem split_two {x h0 h1 : Str} {c : Nat} (h : splitS x ⟨#[c]⟩ = [h0, h1]) : sg x = sg h0 ++ c :: sg h1 := by
  unfold splitS at h
  split at h
  · cases h
  · split at h
    · cases h
    · obtain ⟨f, ch⟩ := StrLaws.occ_chain x ⟨#[c]⟩ (x.length + 1)
      cases ho : occurrences x ⟨#[c]⟩ 0 x.length (x.length + 1) with
      | nil => rw [ho] at h; simp [partsBetween] at h
      | cons i r =>
        rw [ho] at h ch
        cases r with
        | cons j r => simp [partsBetween] at h
        | nil =>
          obtain ⟨_, ha, _⟩ := ch
          have hi := at_one.mp ha
          simp only [partsBetween, List.map_cons, List.map_nil, List.cons_append, List.nil_append, List.zip_cons_cons, List.zip_nil_right, List.cons.injEq, and_true] at h
          obtain ⟨rfl, rfl⟩ := h
          have hl : i < (sg x).length := (List.getElem?_eq_some_iff.mp hi).1
          have hc : (sg x)[i] = c := (List.getElem?_eq_some_iff.mp hi).2
          rw [sg_sub, sg_sub, one_len, List.drop_zero, Nat.sub_zero]
          have e1 : ((sg x).drop (i + 1)).take (x.length - (i + 1)) = (sg x).drop (i + 1) := List.take_of_length_le (by rw [List.length_drop, sg_len]; exact Nat.le_refl _)
          rw [e1]
          conv => lhs; rw [← List.take_append_drop i (sg x), List.drop_eq_getElem_cons hl, hc]
theorem split_at {x : Str} {c : Nat} {a b : List Nat} (hk : c < 128) (h : sg x = a ++ c :: b) (ha : c ∉ a) (hb : c ∉ b) : splitS x ⟨#[c]⟩ = [⟨a.toArray⟩, ⟨b.toArray⟩] := by
  have hl : x.length = a.length + (b.length + 1) := by rw [← sg_len, h]; simp
  have k1 : ¬ ((decide (x.length < (⟨#[c]⟩ : Str).length) || decide (Builtin.Str.strKind x < Builtin.Str.strKind ⟨#[c]⟩)) = true) := by
    have e : Builtin.Str.strKind ⟨#[c]⟩ = 1 := by
      unfold Builtin.Str.strKind
      rw [if_pos (by simp; omega)]
    have g : 1 ≤ Builtin.Str.strKind x := by
      unfold Builtin.Str.strKind
      split
      · decide
      · split <;> decide
    rw [e, one_len]
    simp only [Bool.or_eq_true, decide_eq_true_eq]
    omega
  have only : ∀ i, StrLaws.At x ⟨#[c]⟩ x.length i → i = a.length := by
    intro i hi
    have hi := at_one.mp hi
    rw [h] at hi
    rcases Nat.lt_trichotomy i a.length with q | q | q
    · rw [List.getElem?_append_left q] at hi
      exact absurd (List.mem_of_getElem? hi) ha
    · exact q
    · rw [List.getElem?_append_right (Nat.le_of_lt q)] at hi
      obtain ⟨j, hj⟩ : ∃ j, i - a.length = j + 1 := ⟨i - a.length - 1, by omega⟩
      rw [hj, List.getElem?_cons_succ] at hi
      exact absurd (List.mem_of_getElem? hi) hb
  have there : StrLaws.At x ⟨#[c]⟩ x.length a.length := at_one.mpr (by rw [h, List.getElem?_append_right (Nat.le_refl _), Nat.sub_self]; rfl)
  obtain ⟨f, ch⟩ := StrLaws.occ_chain x ⟨#[c]⟩ (x.length + 1)
  have ho : occurrences x ⟨#[c]⟩ 0 x.length (x.length + 1) = [a.length] := by
    rcases StrLaws.occ_head x ⟨#[c]⟩ (x.length + 1) (by omega) with ⟨h0, hn⟩ | ⟨i, r, h0, hi, hn⟩
    · exact absurd there (hn _)
    · rw [h0] at ch ⊢
      have e := only i hi
      subst e
      cases r with
      | nil => rfl
      | cons j r =>
        obtain ⟨_, _, q1, q2, _⟩ := ch
        have := only j q2
        rw [one_len] at q1
        omega
  unfold splitS
  rw [if_neg k1, ho, if_neg (by simp)]
  simp only [partsBetween, List.map_cons, List.map_nil, List.cons_append, List.nil_append, List.zip_cons_cons, List.zip_nil_right, List.cons.injEq, and_true]
  constructor
  · refine sg_inj ?_
    rw [sg_sub, h]
    simp
  · refine sg_inj ?_
    rw [sg_sub, one_len, h, hl]
    have e : (a ++ c :: b).drop (a.length + 1) = b := by rw [List.drop_append]; simp
    rw [e, List.take_of_length_le (by omega)]
theorem split_le (x : Str) (c : Nat) : (splitS x ⟨#[c]⟩).length ≤ x.length + 2 := by
  unfold splitS
  split
  · simp
  · split
    · simp
    · have := StrLaws.occ_length_le x ⟨#[c]⟩ 0 x.length (x.length + 1)
      rw [length_partsBetween]
      omega
/-! ### the first place of a sign -/
theorem find_one (x : Str) (c : Nat) : (Txt.find x ⟨#[c]⟩ = -1 ∧ c ∉ sg x) ∨ ∃ a b, Txt.find x ⟨#[c]⟩ = (a.length : Int) ∧ sg x = a ++ c :: b ∧ c ∉ a := by
  rcases find_whole x ⟨#[c]⟩ with ⟨e, n⟩ | ⟨i, e, h, n⟩
  · refine .inl ⟨e, fun hm => ?_⟩
    obtain ⟨i, hi⟩ := List.getElem?_of_mem hm
    exact n i (at_one.mpr hi)
  · have hi := at_one.mp h
    have hl : i < (sg x).length := (List.getElem?_eq_some_iff.mp hi).1
    have hc : (sg x)[i] = c := (List.getElem?_eq_some_iff.mp hi).2
    refine .inr ⟨(sg x).take i, (sg x).drop (i + 1), ?_, ?_, fun hm => ?_⟩
    · rw [e, List.length_take]
      omega
    · conv => lhs; rw [← List.take_append_drop i (sg x), List.drop_eq_getElem_cons hl, hc]
    · obtain ⟨j, hj⟩ := List.getElem?_of_mem hm
      have hj' : j < i := by
        have := (List.getElem?_eq_some_iff.mp hj).1
        rw [List.length_take] at this
        omega
      rw [List.getElem?_take_of_lt hj'] at hj
      exact n j hj' (at_one.mpr hj)
/-! ### figures -/
open PySem.NumText (AllDigits digitsVal digitsVal_snoc)
def dg (n : Nat) : List Nat := (Nat.toDigits 10 n).map Char.toNat
theorem dg_val (n : Nat) : digitsVal (dg n) = n := PySem.W.KIN.val_back n
theorem dg_lt {n : Nat} (h : n < 10) : dg n = [n + 48] := by
  have : ∀ d, d < 10 → dg d = [d + 48] := by decide
  exact this n h
theorem dg_snoc {m c : Nat} (hm : 0 < m) (hc : c < 10) : dg (10 * m + c) = dg m ++ [c + 48] := by
  have t : Nat.toDigits 10 m ++ Nat.toDigits 10 c = Nat.toDigits 10 (10 * m + c) := Nat.toDigits_append_toDigits (by decide) hm hc
  unfold dg
  rw [← t, List.map_append]
  have := dg_lt hc
  unfold dg at this
  rw [this]
theorem dg_ne (n : Nat) : dg n ≠ [] := by
  by_cases h : n < 10
  · rw [dg_lt h]; simp
  · have e : n = 10 * (n / 10) + n % 10 := by omega
    rw [e, dg_snoc (by omega) (by omega)]
    simp
theorem dg_all (n : Nat) : AllDigits (dg n) := by
  induction n using Nat.strongRecOn with
  | _ n ih =>
    by_cases h : n < 10
    · rw [dg_lt h]
      intro c hc
      simp at hc
      omega
    · have e : n = 10 * (n / 10) + n % 10 := by omega
      rw [e, dg_snoc (by omega) (by omega)]
      intro c hc
      rcases List.mem_append.mp hc with q | q
      · exact ih (n / 10) (by omega) c q
      · simp at q
        omega
theorem dg_head {n : Nat} (h : 0 < n) : ∃ c r, dg n = c :: r ∧ c ≠ 48 := by
  induction n using Nat.strongRecOn with
  | _ n ih =>
    by_cases q : n < 10
    · exact ⟨n + 48, [], dg_lt q, by omega⟩
    · obtain ⟨c, r, e, hc⟩ := ih (n / 10) (by omega) (by omega)
      have e2 : n = 10 * (n / 10) + n % 10 := by omega
      refine ⟨c, r ++ [n % 10 + 48], ?_, hc⟩
      conv => lhs; rw [e2]
      rw [dg_snoc (by omega) (by omega), e]
      rfl
/-- written without noughts ahead -/
def Canon (ds : List Nat) : Prop := AllDigits ds ∧ ds ≠ [] ∧ ∀ r, ds = 48 :: r → r = []
theorem dg_canon (n : Nat) : Canon (dg n) := by
  refine ⟨dg_all n, dg_ne n, fun r e => ?_⟩
  by_cases h : 0 < n
  · obtain ⟨c, r', e', hc⟩ := dg_head h
    rw [e'] at e
    cases e
    exact absurd rfl hc
  · have : n = 0 := by omega
    subst this
    rw [dg_lt (by decide)] at e
    cases e
    rfl
theorem canon_back {ds : List Nat} (h : Canon ds) : dg (digitsVal ds) = ds := by
  generalize hn : ds.length = n
  induction n generalizing ds with
  | zero => exact absurd (List.length_eq_zero_iff.mp hn) h.2.1
  | succ n ih =>
    obtain ⟨hd, hne, hl⟩ := h
    have e : ds = ds.dropLast ++ [ds.getLast hne] := (List.dropLast_concat_getLast hne).symm
    generalize ds.dropLast = cs at e
    generalize ds.getLast hne = c at e
    subst e
    have hc := hd c (by simp)
    rw [digitsVal_snoc]
    by_cases q : cs = []
    · subst q
      show dg (0 * 10 + (c - 48)) = _
      rw [dg_lt (by omega)]
      simp
      omega
    · have k : Canon cs := by
        refine ⟨fun d hd' => hd d (by simp [hd']), q, fun r er => ?_⟩
        subst er
        have := hl (r ++ [c]) (by simp)
        simp at this
      have e := ih k (by simp at hn; exact hn)
      have pos : 0 < digitsVal cs := by
        rcases Nat.eq_zero_or_pos (digitsVal cs) with z | z
        · rw [z, dg_lt (by decide)] at e
          have e' : cs = [48] := e.symm
          subst e'
          have := hl [c] (by simp)
          simp at this
        · exact z
      rw [Nat.mul_comm, dg_snoc pos (by omega), e]
      congr 2
      omega
theorem val_lt : ∀ {ds : List Nat}, AllDigits ds → digitsVal ds < 10 ^ ds.length := by
  intro ds
  generalize hn : ds.length = n
  induction n generalizing ds with
  | zero => intro _; rw [List.length_eq_zero_iff.mp hn]; decide
  | succ n ih =>
    intro hd
    have hne : ds ≠ [] := fun e => by rw [e] at hn; cases hn
    have e : ds = ds.dropLast ++ [ds.getLast hne] := (List.dropLast_concat_getLast hne).symm
    generalize ds.dropLast = cs at e
    generalize ds.getLast hne = c at e
    subst e
    have hc := hd c (by simp)
    have := ih (ds := cs) (by simp at hn; exact hn) fun d hd' => hd d (by simp [hd'])
    rw [digitsVal_snoc, Nat.pow_succ]
    omega
/-- a whole number's text -/
def txt (t : Int) : List Nat := if t < 0 then 45 :: dg t.natAbs else dg t.natAbs
theorem sg_int (t : Int) : sg (Str.ofString (toString t)) = txt t := by
  unfold txt
  match t with
  | .ofNat m => exact PySem.W.KIN.signs_num m
  | .negSucc m =>
    rw [if_pos (Int.negSucc_lt_zero m)]
    unfold sg
    rw [signs_ofString]
    show (("-" ++ Nat.repr (m + 1)).toList.map Char.toNat) = _
    rw [String.toList_append, List.map_append, Nat.toList_repr]
    rfl
theorem int_of_txt {x : Str} {t : Int} (h : sg x = txt t) (hl : x.length ≤ 4300) : PySem.intText? x = some t := by
  unfold txt at h
  split at h
  · rename_i ht
    have := intText_neg h (dg_all _) (dg_ne _) hl
    rw [dg_val] at this
    rw [this]
    congr 1
    omega
  · rename_i ht
    have := intText_digits (x := x) (by rw [show x.cps.toList = sg x from rfl, h]; exact dg_all _) (by rw [show x.cps.toList = sg x from rfl, h]; exact dg_ne _) hl
    rw [show x.cps.toList = sg x from rfl, h, dg_val] at this
    rw [this]
    congr 1
    omega
theorem dg_len (n : Nat) : (dg n).length ≤ n.log2 + 1 := by
  induction n using Nat.strongRecOn with
  | _ n ih =>
    by_cases h : n < 10
    · rw [dg_lt h]; simp
    · have e : n = 10 * (n / 10) + n % 10 := by omega
      have i := ih (n / 10) (by omega)
      have k : (n / 10).log2 + 1 ≤ n.log2 := by
        rw [Nat.le_log2 (by omega), Nat.pow_succ]
        have := Nat.log2_self_le (n := n / 10) (by omega)
        omega
      have z := dg_snoc (m := n / 10) (c := n % 10) (by omega) (by omega)
      rw [← e] at z
      rw [z]
      rw [List.length_append]
      simp only [List.length_cons, List.length_nil]
      omega
theorem txt_len (t : Int) : (txt t).length ≤ t.natAbs.log2 + 2 := by
  have := dg_len t.natAbs
  unfold txt
  split
  · rw [List.length_cons]; omega
  · omega
/-- a fraction's text -/
def ftxt (t b : Int) : List Nat := txt t ++ 47 :: txt b
/-- a text of a fraction in lowest terms, as it is asked for -/
structure Good (x : List Nat) (t b : Int) : Prop where
  eq : x = ftxt t b
  pos : 0 < b
  low : Int.gcd t b = 1
  l1 : (dg t.natAbs).length ≤ 9
  l2 : (dg b.natAbs).length ≤ 9
/-- figures alone, one at least -/
def figs (l : List Nat) : Bool := l.all (fun c => decide (48 ≤ c) && decide (c ≤ 57)) && !l.isEmpty
theorem figs_iff {l : List Nat} : figs l = true ↔ AllDigits l ∧ l ≠ [] := by
  unfold figs AllDigits
  simp
theorem has_fig (c : Nat) : hasS "0123456789" ⟨#[c]⟩ = (decide (48 ≤ c) && decide (c ≤ 57)) := by
  unfold hasS
  rw [StrLaws.found_one]
  have e : (Str.ofString "0123456789").cps.toList = [48, 49, 50, 51, 52, 53, 54, 55, 56, 57] := by decide +kernel
  rw [e]
  by_cases h : 48 ≤ c ∧ c ≤ 57
  · rw [show (decide (48 ≤ c) && decide (c ≤ 57)) = true by simp [h]]
    rw [decide_eq_true_eq]
    simp
    omega
  · rw [show (decide (48 ≤ c) && decide (c ≤ 57)) = false by simp; omega]
    rw [decide_eq_false_iff_not]
    simp
    omega
theorem txt_no {t : Int} {c : Nat} (h1 : c ≠ 45) (h2 : c < 48 ∨ 57 < c) : c ∉ txt t := by
  unfold txt
  intro h
  split at h
  · rcases List.mem_cons.mp h with q | q
    · exact h1 q
    · have := dg_all _ c q; omega
  · have := dg_all _ c h; omega
theorem txt_le (t : Int) : (txt t).length ≤ (dg t.natAbs).length + 1 := by
  unfold txt
  split
  · rw [List.length_cons]; exact Nat.le_refl _
  · exact Nat.le_succ _
theorem sw_one (x : Str) (c : Nat) : Txt.startswith x ⟨#[c]⟩ = decide ((sg x)[0]? = some c) := by
  unfold Txt.startswith
  rw [Bool.eq_iff_iff, Bool.and_eq_true, decide_eq_true_eq, decide_eq_true_eq]
  exact StrLaws.subAt_one x c 0
theorem sw_txt {x : Str} {t : Int} (h : sg x = txt t) : Txt.startswith x ⟨#[45]⟩ = decide (t < 0) := by
  rw [sw_one, h]
  unfold txt
  split
  · rename_i q
    simp [q]
  · rename_i q
    rw [decide_eq_false q, decide_eq_false_iff_not]
    intro e
    have := dg_all _ 45 (List.mem_of_getElem? e)
    omega
theorem sg_from {x : Str} {i : Nat} (h : i ≤ x.length) : sg (Txt.slice x (some (i : Int)) none) = (sg x).drop i := by
  rw [slice_from_eq (b := (x.length : Int)) (by omega) (by omega) rfl]
  simp only [sg, Int.toNat_natCast]
  rw [List.take_of_length_le]
  rw [List.length_drop]
  have := sg_len x
  unfold sg at this
  omega
theorem sg_between {x : Str} {i j : Nat} (h : i ≤ j) (hj : j ≤ x.length) : sg (Txt.slice x (some (i : Int)) (some (j : Int))) = ((sg x).drop i).take (j - i) := by
  have e := slice_closes (x := x) (i := (i : Int)) (j := (j : Int)) ⟨by omega, by omega, by rw [show x.cps.toList = sg x from rfl, sg_len]; omega⟩
  rw [beq_iff_eq.mp e]
  simp only [sg, Int.toNat_natCast]
  rw [show ((j : Int) - (i : Int)).toNat = j - i by omega]
theorem sg_to {x : Str} {j : Nat} (hj : j ≤ x.length) : sg (Txt.slice x none (some (j : Int))) = (sg x).take j := by
  have e := slice_closes_to (x := x) (j := (j : Int)) ⟨by omega, by rw [show x.cps.toList = sg x from rfl, sg_len]; omega⟩
  rw [beq_iff_eq.mp e]
  simp [sg]
end L2

set_option maxHeartbeats 4000000
namespace My
open PySem PySem.Spec PyProof.Rows L2
open PySem.Builtin.Int (intBits)

def top (i : Nat) : Stmt := PySem.Challenge.pw_mixbench_k04_texts_of_fractions.main.body.getD i (.Pass ⟨0, 0, 0, 0⟩)
abbrev s_is_whole : Stmt := (top 14)
abbrev s_is_figures : Stmt := (top 15)
abbrev s_divisor : Stmt := (top 18)
abbrev s_fraction : Stmt := (top 19)
abbrev s_fraction_text : Stmt := (top 20)
abbrev s_read_fraction : Stmt := (top 21)
abbrev s_law_cell_at : Stmt := (top 23)
abbrev s_law_whole : Stmt := (top 24)
abbrev s_law_divisor : Stmt := (top 25)
abbrev s_law_fraction : Stmt := (top 26)
abbrev s_law_number : Stmt := (top 27)
abbrev s_law_due : Stmt := (top 28)
abbrev s_law_spoilt : Stmt := (top 29)
abbrev s_law_other : Stmt := (top 30)
abbrev s_law_good : Stmt := (top 31)
abbrev s_law : Stmt := (top 32)
theorem sc_is_whole : FnScope ["value"] ["value"] (defScope s_is_whole) := ⟨rfl, rfl, rfl, by decide +kernel, rfl, by decide +kernel, by decide +kernel⟩
theorem sc_is_figures : FnScope ["text", "sign"] ["text"] (defScope s_is_figures) := ⟨rfl, rfl, rfl, by decide +kernel, rfl, by decide +kernel, by decide +kernel⟩
theorem sc_divisor : FnScope ["one", "other", "left", "right", "rest"] ["one", "other"] (defScope s_divisor) := ⟨rfl, rfl, rfl, by decide +kernel, rfl, by decide +kernel, by decide +kernel⟩
theorem sc_fraction : FnScope ["top", "bottom", "by"] ["top", "bottom"] (defScope s_fraction) := ⟨rfl, rfl, rfl, by decide +kernel, rfl, by decide +kernel, by decide +kernel⟩
theorem sc_fraction_text : FnScope ["one", "top", "bottom"] ["one"] (defScope s_fraction_text) := ⟨rfl, rfl, rfl, by decide +kernel, rfl, by decide +kernel, by decide +kernel⟩
theorem sc_read_fraction : FnScope ["text", "halves", "top", "number", "one"] ["text"] (defScope s_read_fraction) := ⟨rfl, rfl, rfl, by decide +kernel, rfl, by decide +kernel, by decide +kernel⟩
theorem sc_law_cell_at : FnScope ["_law_script", "_law_k"] ["_law_script", "_law_k"] (defScope s_law_cell_at) := ⟨rfl, rfl, rfl, by decide +kernel, rfl, by decide +kernel, by decide +kernel⟩
theorem sc_law_whole : FnScope ["_law_found"] ["_law_found"] (defScope s_law_whole) := ⟨rfl, rfl, rfl, by decide +kernel, rfl, by decide +kernel, by decide +kernel⟩
theorem sc_law_divisor : FnScope ["_law_one", "_law_other_here", "_law_rest"] ["_law_one", "_law_other_here"] (defScope s_law_divisor) := ⟨rfl, rfl, rfl, by decide +kernel, rfl, by decide +kernel, by decide +kernel⟩
theorem sc_law_fraction : FnScope ["_law_cell", "_law_other_here", "_law_mixed", "_law_top", "_law_bottom", "_law_by"] ["_law_cell", "_law_other_here"] (defScope s_law_fraction) := ⟨rfl, rfl, rfl, by decide +kernel, rfl, by decide +kernel, by decide +kernel⟩
theorem sc_law_number : FnScope ["_law_text", "_law_number_here", "_law_sign"] ["_law_text"] (defScope s_law_number) := ⟨rfl, rfl, rfl, by decide +kernel, rfl, by decide +kernel, by decide +kernel⟩
theorem sc_law_due : FnScope ["_law_text", "_law_at", "_law_first", "_law_top", "_law_bottom"] ["_law_text"] (defScope s_law_due) := ⟨rfl, rfl, rfl, by decide +kernel, rfl, by decide +kernel, by decide +kernel⟩
theorem sc_law_spoilt : FnScope ["_law_text", "_law_one", "_law_cell", "_law_sign", "_law_at", "_law_by", "_law_some"] ["_law_text", "_law_one", "_law_cell"] (defScope s_law_spoilt) := ⟨rfl, rfl, rfl, by decide +kernel, rfl, by decide +kernel, by decide +kernel⟩
theorem sc_law_other : FnScope ["_law_error"] ["_law_error"] (defScope s_law_other) := ⟨rfl, rfl, rfl, by decide +kernel, rfl, by decide +kernel, by decide +kernel⟩
theorem sc_law_good : FnScope ["_law_text", "_law_found", "_law_refused", "_law_error", "_law_due_here"] ["_law_text"] (defScope s_law_good) := ⟨rfl, rfl, rfl, by decide +kernel, rfl, by decide +kernel, by decide +kernel⟩
theorem sc_law : FnScope ["_law_script", "_law_at", "_law_other_here", "_law_one", "_law_text", "_law_mixed", "_law_odd"] ["_law_script"] (defScope s_law) := ⟨rfl, rfl, rfl, by decide +kernel, rfl, by decide +kernel, by decide +kernel⟩
structure Ad where
  f_is_whole : Addr
  fd_is_whole : FuncData
  f_is_figures : Addr
  fd_is_figures : FuncData
  f_divisor : Addr
  fd_divisor : FuncData
  f_fraction : Addr
  fd_fraction : FuncData
  f_fraction_text : Addr
  fd_fraction_text : FuncData
  f_read_fraction : Addr
  fd_read_fraction : FuncData
  f_law_cell_at : Addr
  fd_law_cell_at : FuncData
  f_law_whole : Addr
  fd_law_whole : FuncData
  f_law_divisor : Addr
  fd_law_divisor : FuncData
  f_law_fraction : Addr
  fd_law_fraction : FuncData
  f_law_number : Addr
  fd_law_number : FuncData
  f_law_due : Addr
  fd_law_due : FuncData
  f_law_spoilt : Addr
  fd_law_spoilt : FuncData
  f_law_other : Addr
  fd_law_other : FuncData
  f_law_good : Addr
  fd_law_good : FuncData
  f_law : Addr
  fd_law : FuncData
  c_MixError : Addr
  c_NoNumber : Addr
  c_NoText : Addr
  c_NoPart : Addr
  c_NoName : Addr
  c_Twice : Addr
  c_NoBus : Addr
  c_Ring : Addr
  c_NoBlock : Addr
  c_NoRow : Addr
  c_NoDeed : Addr
  u_MOST_FIGURES : Value
  u_FIGURES : Value
structure Tx (K : PySem.W.Frag) (mg : Str → Option Value) (A : Ad) : Prop where
  F_is_whole : Fun K "is_whole" "is_whole" s_is_whole A.f_is_whole A.fd_is_whole
  b_is_whole : Binds K A.fd_is_whole ["value"] []
  m_is_whole : mg "is_whole" = some (.ref A.f_is_whole)
  F_is_figures : Fun K "is_figures" "is_figures" s_is_figures A.f_is_figures A.fd_is_figures
  b_is_figures : Binds K A.fd_is_figures ["text"] []
  m_is_figures : mg "is_figures" = some (.ref A.f_is_figures)
  F_divisor : Fun K "divisor" "divisor" s_divisor A.f_divisor A.fd_divisor
  b_divisor : Binds K A.fd_divisor ["one", "other"] []
  m_divisor : mg "divisor" = some (.ref A.f_divisor)
  F_fraction : Fun K "fraction" "fraction" s_fraction A.f_fraction A.fd_fraction
  b_fraction : Binds K A.fd_fraction ["top", "bottom"] []
  m_fraction : mg "fraction" = some (.ref A.f_fraction)
  F_fraction_text : Fun K "fraction_text" "fraction_text" s_fraction_text A.f_fraction_text A.fd_fraction_text
  b_fraction_text : Binds K A.fd_fraction_text ["one"] []
  m_fraction_text : mg "fraction_text" = some (.ref A.f_fraction_text)
  F_read_fraction : Fun K "read_fraction" "read_fraction" s_read_fraction A.f_read_fraction A.fd_read_fraction
  b_read_fraction : Binds K A.fd_read_fraction ["text"] []
  m_read_fraction : mg "read_fraction" = some (.ref A.f_read_fraction)
  F_law_cell_at : Fun K "_law_cell_at" "_law_cell_at" s_law_cell_at A.f_law_cell_at A.fd_law_cell_at
  b_law_cell_at : Binds K A.fd_law_cell_at ["_law_script", "_law_k"] []
  m_law_cell_at : mg "_law_cell_at" = some (.ref A.f_law_cell_at)
  F_law_whole : Fun K "_law_whole" "_law_whole" s_law_whole A.f_law_whole A.fd_law_whole
  b_law_whole : Binds K A.fd_law_whole ["_law_found"] []
  m_law_whole : mg "_law_whole" = some (.ref A.f_law_whole)
  F_law_divisor : Fun K "_law_divisor" "_law_divisor" s_law_divisor A.f_law_divisor A.fd_law_divisor
  b_law_divisor : Binds K A.fd_law_divisor ["_law_one", "_law_other_here"] []
  m_law_divisor : mg "_law_divisor" = some (.ref A.f_law_divisor)
  F_law_fraction : Fun K "_law_fraction" "_law_fraction" s_law_fraction A.f_law_fraction A.fd_law_fraction
  b_law_fraction : Binds K A.fd_law_fraction ["_law_cell", "_law_other_here"] []
  m_law_fraction : mg "_law_fraction" = some (.ref A.f_law_fraction)
  F_law_number : Fun K "_law_number" "_law_number" s_law_number A.f_law_number A.fd_law_number
  b_law_number : Binds K A.fd_law_number ["_law_text"] []
  m_law_number : mg "_law_number" = some (.ref A.f_law_number)
  F_law_due : Fun K "_law_due" "_law_due" s_law_due A.f_law_due A.fd_law_due
  b_law_due : Binds K A.fd_law_due ["_law_text"] []
  m_law_due : mg "_law_due" = some (.ref A.f_law_due)
  F_law_spoilt : Fun K "_law_spoilt" "_law_spoilt" s_law_spoilt A.f_law_spoilt A.fd_law_spoilt
  b_law_spoilt : Binds K A.fd_law_spoilt ["_law_text", "_law_one", "_law_cell"] []
  m_law_spoilt : mg "_law_spoilt" = some (.ref A.f_law_spoilt)
  F_law_other : Fun K "_law_other" "_law_other" s_law_other A.f_law_other A.fd_law_other
  b_law_other : Binds K A.fd_law_other ["_law_error"] []
  m_law_other : mg "_law_other" = some (.ref A.f_law_other)
  F_law_good : Fun K "_law_good" "_law_good" s_law_good A.f_law_good A.fd_law_good
  b_law_good : Binds K A.fd_law_good ["_law_text"] []
  m_law_good : mg "_law_good" = some (.ref A.f_law_good)
  F_law : Fun K "law" "law" s_law A.f_law A.fd_law
  b_law : Binds K A.fd_law ["_law_script"] []
  m_law : mg "law" = some (.ref A.f_law)
  z_ValueError : mg "ValueError" = none
  z_abs : mg "abs" = none
  z_bool : mg "bool" = none
  z_int : mg "int" = none
  z_isinstance : mg "isinstance" = none
  z_len : mg "len" = none
  z_range : mg "range" = none
  z_str : mg "str" = none
  z_tuple : mg "tuple" = none
  mc_MixError : mg "MixError" = some (.ref A.c_MixError)
  mc_NoNumber : mg "NoNumber" = some (.ref A.c_NoNumber)
  mc_NoText : mg "NoText" = some (.ref A.c_NoText)
  mc_NoPart : mg "NoPart" = some (.ref A.c_NoPart)
  mc_NoName : mg "NoName" = some (.ref A.c_NoName)
  mc_Twice : mg "Twice" = some (.ref A.c_Twice)
  mc_NoBus : mg "NoBus" = some (.ref A.c_NoBus)
  mc_Ring : mg "Ring" = some (.ref A.c_Ring)
  mc_NoBlock : mg "NoBlock" = some (.ref A.c_NoBlock)
  mc_NoRow : mg "NoRow" = some (.ref A.c_NoRow)
  mc_NoDeed : mg "NoDeed" = some (.ref A.c_NoDeed)
  x_NoText : Exc K A.c_NoText
  q_MixError : ExcQ K A.c_MixError
  q_NoBlock : ExcQ K A.c_NoBlock
  q_NoBus : ExcQ K A.c_NoBus
  q_NoDeed : ExcQ K A.c_NoDeed
  q_NoName : ExcQ K A.c_NoName
  q_NoNumber : ExcQ K A.c_NoNumber
  q_NoPart : ExcQ K A.c_NoPart
  q_NoRow : ExcQ K A.c_NoRow
  q_NoText : ExcQ K A.c_NoText
  q_Ring : ExcQ K A.c_Ring
  q_Twice : ExcQ K A.c_Twice
  k_NoText_MixError : PySem.W.kitOne K (.ref A.c_NoText) (.ref A.c_MixError) = some true
  s_NoText_MixError : PySem.W.subIn K (.ref A.c_NoText) (.ref A.c_MixError) = some true
  k_NoText_NoBlock : PySem.W.kitOne K (.ref A.c_NoText) (.ref A.c_NoBlock) = some false
  k_NoText_NoBus : PySem.W.kitOne K (.ref A.c_NoText) (.ref A.c_NoBus) = some false
  k_NoText_NoDeed : PySem.W.kitOne K (.ref A.c_NoText) (.ref A.c_NoDeed) = some false
  k_NoText_NoName : PySem.W.kitOne K (.ref A.c_NoText) (.ref A.c_NoName) = some false
  k_NoText_NoNumber : PySem.W.kitOne K (.ref A.c_NoText) (.ref A.c_NoNumber) = some false
  k_NoText_NoPart : PySem.W.kitOne K (.ref A.c_NoText) (.ref A.c_NoPart) = some false
  k_NoText_NoRow : PySem.W.kitOne K (.ref A.c_NoText) (.ref A.c_NoRow) = some false
  k_NoText_NoText : PySem.W.kitOne K (.ref A.c_NoText) (.ref A.c_NoText) = some true
  s_NoText_NoText : PySem.W.subIn K (.ref A.c_NoText) (.ref A.c_NoText) = some true
  k_NoText_Ring : PySem.W.kitOne K (.ref A.c_NoText) (.ref A.c_Ring) = some false
  k_NoText_Twice : PySem.W.kitOne K (.ref A.c_NoText) (.ref A.c_Twice) = some false
  k_NoText_ValueError : PySem.W.kitOne K (.ref A.c_NoText) (.type "ValueError") = some true
  k_None_MixError : PySem.W.kitOne K (.type "NoneType") (.ref A.c_MixError) = some false
  k_None_NoBlock : PySem.W.kitOne K (.type "NoneType") (.ref A.c_NoBlock) = some false
  k_None_NoBus : PySem.W.kitOne K (.type "NoneType") (.ref A.c_NoBus) = some false
  k_None_NoDeed : PySem.W.kitOne K (.type "NoneType") (.ref A.c_NoDeed) = some false
  k_None_NoName : PySem.W.kitOne K (.type "NoneType") (.ref A.c_NoName) = some false
  k_None_NoNumber : PySem.W.kitOne K (.type "NoneType") (.ref A.c_NoNumber) = some false
  k_None_NoPart : PySem.W.kitOne K (.type "NoneType") (.ref A.c_NoPart) = some false
  k_None_NoRow : PySem.W.kitOne K (.type "NoneType") (.ref A.c_NoRow) = some false
  k_None_NoText : PySem.W.kitOne K (.type "NoneType") (.ref A.c_NoText) = some false
  k_None_Ring : PySem.W.kitOne K (.type "NoneType") (.ref A.c_Ring) = some false
  k_None_Twice : PySem.W.kitOne K (.type "NoneType") (.ref A.c_Twice) = some false
  k_None_ValueError : PySem.W.kitOne K (.type "NoneType") (.type "ValueError") = some false
  mk_MOST_FIGURES : mg "MOST_FIGURES" = some A.u_MOST_FIGURES
  rk_MOST_FIGURES : RelV (.int 9) A.u_MOST_FIGURES
  mk_FIGURES : mg "FIGURES" = some A.u_FIGURES
  rk_FIGURES : RelV (.str "0123456789") A.u_FIGURES
seal PE PT PA PS PSs PI PO PW PG PGs PEX PSX
local macro_rules | `(tactic| walk_at "bits") => `(tactic| first | with_reducible assumption | exact intBits_le_64 (by omega) (by omega) | exact (intBits_le_iff (m := 250)).mpr (by decide) | ((with_reducible apply intBits_mul_le) <;> walk_at "bits") | ((with_reducible apply intBits_add_le) <;> walk_at "bits") | ((with_reducible apply intBits_sub_le) <;> walk_at "bits") | ((with_reducible apply intBits_neg_le) <;> walk_at "bits") | ((with_reducible apply intBits_natAbs_le) <;> walk_at "bits") | ((with_reducible apply intBits_fdiv_le) <;> walk_at "bits") | ((with_reducible apply intBits_fmod_le) <;> walk_at "bits"))
local macro_rules | `(tactic| walk_at "mul") => `(tactic| first | exact IntMulOk.of_right (intBits_le_64 (by omega) (by omega)) | exact IntMulOk.of_left (intBits_le_64 (by omega) (by omega)) | ((with_reducible apply IntMulOk.of_le) <;> first | walk_at "bits" | decide))
local macro_rules | `(tactic| walk_at "le") => `(tactic| ((with_reducible apply Nat.le_trans) <;> first | walk_at "bits" | decide))

variable {P : Program} {w : World} {K : PySem.W.Frag} {mg : Str → Option Value} {base : Heap} {A : Ad}
def spGcd : Sp := fun vs H Q _ => match vs with | [.int a, .int b] => Q (.int (Int.gcd a b)) H | _ => False
def spIsW : Sp := fun vs H Q _ => match vs with | [.int _] => Q (.bl true) H | _ => False
def spFrac : Sp := fun vs H Q _ => match vs with
  | [.int t, .int b] => b ≠ 0 ∧ intBits t ≤ 4000 ∧ intBits b ≤ 4000 ∧ All (FreshT H (ratV (Rat.divInt t b))) Q ⟨⟩ ⟨⟩
  | _ => False
def spFig : Sp := fun vs H Q _ => match vs with | [.str x] => Q (.bl (figs (sg x))) H | _ => False
def spFText : Sp := fun vs H Q _ => match vs with | [.ref p] => ∃ t b : Int, H p = some (.tup [.int t, .int b]) ∧ t.natAbs.log2 < 1920 ∧ b.natAbs.log2 < 1920 ∧ (∀ y : Str, sg y = ftxt t b → Q (.str y) H) | _ => False
/-- a text of a fraction in lowest terms is read -/
def spRead : Sp := fun vs H Q _ => match vs with | [.str x] => ∃ t b, Good (sg x) t b ∧ All (FreshT H [.int t, .int b]) Q ⟨⟩ ⟨⟩ | _ => False
/-- every other text, and what is no text, is refused -/
def NoGood (H : Hp) (v : V) : Prop := (∃ x : Str, v = .str x ∧ x.length ≤ 1000000 ∧ ∀ t b, ¬ Good (sg x) t b) ∨ ∃ ty, tyNm H v = some ty ∧ ty ≠ .str
def spReadX (c : Addr) : Sp := fun vs H _ E => match vs with | [v] => NoGood H v ∧ (∀ H', Same H H' → E (.ref c) none H') | _ => False
/-- noughts ahead -/
def lead (l : List Nat) : Bool := match l with
  | 48 :: _ :: _ => true
  | _ => false
/-- a number as told by signs: -1 for none -/
def lnum (l : List Nat) : Int := if (figs l && decide (l.length ≤ 9) && !lead l) = true then (NumText.digitsVal l : Nat) else -1
def spLNum : Sp := fun vs H Q _ => match vs with | [.str x] => x.length ≤ 1000000 ∧ Q (.int (lnum (sg x))) H | _ => False
def spDue : Sp := fun vs H Q _ => match vs with | [.str x] => x.length ≤ 1000000 ∧ (∀ t b, Good (sg x) t b → All (FreshT H [.int t, .int b]) Q ⟨⟩ ⟨⟩) ∧ ((∀ t b, ¬ Good (sg x) t b) → Q .non H) | _ => False
def spWhole : Sp := fun vs H Q _ => match vs with | [.int _] => Q (.bl true) H | _ => False
def spOther (c : Addr) : Sp := fun vs H Q _ => match vs with | [.ref e] => H e = some (excO e (.ref c)) ∧ Q (.bl false) H | _ => False
def spGood : Sp := fun vs H Q _ => match vs with
  | [v] => ((∃ x : Str, v = .str x ∧ x.length ≤ 1000000) ∨ ∃ ty, tyNm H v = some ty ∧ ty ≠ .str) ∧ All (fun v H' => v = .bl true ∧ Same H H') Q ⟨⟩ ⟨⟩
  | _ => False
def spCell (K : PySem.W.Frag) : Sp := fun vs H Q _ => match vs with | [.ref a, .int k] => ∃ ns : List Int, SqL K H a (ns.map V.int) ∧ 0 ≤ k ∧ Q (.int (ns.getD k.toNat 0)) H | _ => False
def spFr : Sp := fun vs H Q _ => match vs with
  | [.int c, .int d] => intBits c ≤ 1100000 ∧ intBits d ≤ 1100000 ∧ All (fun v H' => ∃ (x : Rat) (b : Addr), v = .ref b ∧ H b = none ∧ Same H H' ∧ H' b = some (.tup (ratV x)) ∧ intBits x.num ≤ 210 ∧ intBits (x.den : Int) ≤ 210) Q ⟨⟩ ⟨⟩
  | _ => False
def spSpoilt : Sp := fun vs H Q _ => match vs with
  | [.str x, .ref p, .int c] => ∃ t b : Int, x.length ≤ 500 ∧ H p = some (.tup [.int t, .int b]) ∧ intBits t ≤ 210 ∧ intBits b ≤ 210 ∧ 0 ≤ c ∧ c < 1000000 ∧ All (fun v H' => (∃ y : Str, v = .str y ∧ y.length ≤ 1000000) ∧ Same H H') Q ⟨⟩ ⟨⟩
  | _ => False
local macro_rules | `(tactic| walk_at "rd") => `(tactic| simp (config := { maxSteps := 1000000, dsimp := false }) only [↓spGcd, ↓spIsW, ↓spFrac, ↓spFig, ↓spFText, ↓spRead, ↓spReadX, ↓spLNum, ↓spDue, ↓spWhole, ↓spOther, ↓spGood, ↓spCell, ↓spFr, ↓spSpoilt, noxK, ↓rStr1, ↓iStr, ↓rSlA, ↓rIntF, ↓rStrI, ↓tFmt, ↓tJNil, ↓tJCons, ↓tJoin, ↓rSplit, ↓rInM, Bool.bne_false, Bool.bne_true, ↓tSeq, ↓tAsg, ↓tVarF, ↓tC, ↓gName, ↓tOp, ↓tUn, ↓tIfS, ↓tRet, ↓tRetN, ↓tNext, ↓tCB, ↓tCons, ↓tNil, ↓tTupS, ↓tLstS, ↓tCall, ↓tAnd, ↓tOr, ↓tNot, ↓tBF, ↓tAndF, ↓tOrF, ↓tNotF, ↓tDrop, ↓tIf, ↓tForW, ↓tWhileW, ↓iRng1F, ↓iRng2F, ↓iRng3F, ↓iListF, ↓tSl, ↓tNoPart, ↓tPartF, ↓rIF, ↓rI0F, ↓rUF, ↓rAddM, ↓rMulM, ↓rEqM, ↓rNeM, ↓rIxM, ↓rSlM, ↓rLenM, ↓rLenK, ↓rSlKF, ↓rIxS0, ↓rIsT, ↓rAbs, ↓rMin, ↓rMax, ↓rListS, ↓rSumF, ↓tComp, ↓tBMF, ↓rAppF, ↓isLst, ↓isStrV, ↓ex_at0, ↓ex_at1, ↓ex_at2, ↓ex_at3, ↓tNever, ↓tDNewS, ↓tPause, ↓tRaise, ↓tTryAs, ↓hAs, ↓L2.start, tyNm_i, tyNm_s, tyNm_b, tyNm_n, tyNm_r, isSubT, Ty.nm, CPow, cxOf_K, atI_c0, atI_c1, atI_c2, atI_c3, ite_and_same, ite_or_same, List.map_cons, List.map_nil, List.length_cons, List.length_nil, List.length_map, List.replicate, List.cons_append, List.nil_append, List.append_nil, List.getElem?_cons_zero, List.getElem?_cons_succ, List.set_cons_zero, List.set_cons_succ, Option.some.injEq, exists_eq_left', exists_eq_left, exists_and_left, V.int.injEq, V.bl.injEq, V.str.injEq, V.ref.injEq, V.ty.injEq, Value.ref.injEq, List.cons.injEq, HO.lst.injEq, HO.tup.injEq, Int.zero_add, List.length_append, and_true, true_and, scal_ii, scal_ss, scal_bb, scal_nn, scal_rr, two_line, if_true, reduceCtorEq, if_false, Bool.false_eq_true, decide_eq_true_eq, decide_eq_false_iff_not, decide_true, decide_false, Bool.or_true, Bool.true_or, Bool.or_false, Bool.false_or, Bool.and_true, Bool.true_and, Bool.and_false, Bool.false_and, or_false, false_or, Nat.zero_add, Nat.reduceAdd, Nat.reduceSub, exists_const, false_and, and_false, Bool.not_true, Bool.not_false, Bool.not_eq_true', ne_eq, not_true_eq_false, not_false_eq_true, Int.reduceEq, Int.reduceNe, Int.reduceLT, Int.reduceLE, Int.reducePow, Int.reduceMul, Int.reduceAdd, Int.reduceSub, Int.reduceNeg, Int.reduceToNat, Nat.reducePow, Nat.reduceLT, Nat.reduceLeDiff])
local macro_rules | `(tactic| walk_at "rd*") => `(tactic| simp (config := { maxSteps := 1000000, dsimp := false }) only [*, ↓spGcd, ↓spIsW, ↓spFrac, ↓spFig, ↓spFText, ↓spRead, ↓spReadX, ↓spLNum, ↓spDue, ↓spWhole, ↓spOther, ↓spGood, ↓spCell, ↓spFr, ↓spSpoilt, noxK, ↓rStr1, ↓iStr, ↓rSlA, ↓rIntF, ↓rStrI, ↓tFmt, ↓tJNil, ↓tJCons, ↓tJoin, ↓rSplit, ↓rInM, Bool.bne_false, Bool.bne_true, ↓tSeq, ↓tAsg, ↓tVarF, ↓tC, ↓gName, ↓tOp, ↓tUn, ↓tIfS, ↓tRet, ↓tRetN, ↓tNext, ↓tCB, ↓tCons, ↓tNil, ↓tTupS, ↓tLstS, ↓tCall, ↓tAnd, ↓tOr, ↓tNot, ↓tBF, ↓tAndF, ↓tOrF, ↓tNotF, ↓tDrop, ↓tIf, ↓tForW, ↓tWhileW, ↓iRng1F, ↓iRng2F, ↓iRng3F, ↓iListF, ↓tSl, ↓tNoPart, ↓tPartF, ↓rIF, ↓rI0F, ↓rUF, ↓rAddM, ↓rMulM, ↓rEqM, ↓rNeM, ↓rIxM, ↓rSlM, ↓rLenM, ↓rLenK, ↓rSlKF, ↓rIxS0, ↓rIsT, ↓rAbs, ↓rMin, ↓rMax, ↓rListS, ↓rSumF, ↓tComp, ↓tBMF, ↓rAppF, ↓isLst, ↓isStrV, ↓ex_at0, ↓ex_at1, ↓ex_at2, ↓ex_at3, ↓tNever, ↓tDNewS, ↓tPause, ↓tRaise, ↓tTryAs, ↓hAs, ↓L2.start, tyNm_i, tyNm_s, tyNm_b, tyNm_n, tyNm_r, isSubT, Ty.nm, CPow, cxOf_K, atI_c0, atI_c1, atI_c2, atI_c3, ite_and_same, ite_or_same, List.map_cons, List.map_nil, List.length_cons, List.length_nil, List.length_map, List.replicate, List.cons_append, List.nil_append, List.append_nil, List.getElem?_cons_zero, List.getElem?_cons_succ, List.set_cons_zero, List.set_cons_succ, Option.some.injEq, exists_eq_left', exists_eq_left, exists_and_left, V.int.injEq, V.bl.injEq, V.str.injEq, V.ref.injEq, V.ty.injEq, Value.ref.injEq, List.cons.injEq, HO.lst.injEq, HO.tup.injEq, Int.zero_add, List.length_append, and_true, true_and, scal_ii, scal_ss, scal_bb, scal_nn, scal_rr, two_line, if_true, reduceCtorEq, if_false, Bool.false_eq_true, decide_eq_true_eq, decide_eq_false_iff_not, decide_true, decide_false, Bool.or_true, Bool.true_or, Bool.or_false, Bool.false_or, Bool.and_true, Bool.true_and, Bool.and_false, Bool.false_and, or_false, false_or, Nat.zero_add, Nat.reduceAdd, Nat.reduceSub, exists_const, false_and, and_false, Bool.not_true, Bool.not_false, Bool.not_eq_true', ne_eq, not_true_eq_false, not_false_eq_true, Int.reduceEq, Int.reduceNe, Int.reduceLT, Int.reduceLE, Int.reducePow, Int.reduceMul, Int.reduceAdd, Int.reduceSub, Int.reduceNeg, Int.reduceToNat, Nat.reducePow, Nat.reduceLT, Nat.reduceLeDiff])
/-! ### mathematics -/
theorem gcd_step {l r : Int} (hl : 0 ≤ l) (hr : 0 < r) : Int.gcd r (l.fmod r) = Int.gcd l r := by
  rw [Int.fmod_eq_emod_of_nonneg _ (by omega)]
  obtain ⟨x, rfl⟩ := Int.eq_ofNat_of_zero_le hl
  obtain ⟨y, rfl⟩ := Int.eq_ofNat_of_zero_le (by omega : 0 ≤ r)
  rw [← Int.natCast_emod, Int.gcd_natCast_natCast, Int.gcd_natCast_natCast, Nat.gcd_comm x y, Nat.gcd_rec y x, Nat.gcd_comm]
theorem fmod_lt {l r : Int} (hl : 0 ≤ l) (hr : 0 < r) : 0 ≤ l.fmod r ∧ l.fmod r < r := by
  rw [Int.fmod_eq_emod_of_nonneg _ (by omega)]
  exact ⟨Int.emod_nonneg _ (by omega), Int.emod_lt_of_pos _ hr⟩
theorem fm_bnd (a : Int) {b : Int} (hb : 0 < b) : 0 ≤ a.fmod b ∧ a.fmod b < b := by
  rw [Int.fmod_eq_emod_of_nonneg _ (by omega)]
  exact ⟨Int.emod_nonneg _ (by omega), Int.emod_lt_of_pos _ hb⟩
theorem gcd_abs (a b : Int) : Int.gcd (a.natAbs : Int) (b.natAbs : Int) = Int.gcd a b := by
  rw [Int.gcd_natCast_natCast]; rfl
theorem gcd_zero {l : Int} (hl : 0 ≤ l) : ((Int.gcd l 0 : Nat) : Int) = l := by
  rw [Int.gcd_zero_right]; omega
theorem lcm_eq (a b : Int) : (a.natAbs : Int).fdiv (Int.gcd a b : Int) * (b.natAbs : Int) = (Int.lcm a b : Int) := by
  rw [Int.fdiv_eq_ediv_of_nonneg _ (Int.natCast_nonneg _), ← Int.natCast_ediv, ← Int.natCast_mul]
  congr 1
  show a.natAbs / Nat.gcd a.natAbs b.natAbs * b.natAbs = Nat.lcm a.natAbs b.natAbs
  unfold Nat.lcm
  exact Nat.div_mul_right_comm (Nat.gcd_dvd_left _ _) _
theorem lcm_zero {a b : Int} (h : a = 0 ∨ b = 0) : Int.lcm a b = 0 := by
  rcases h with rfl | rfl
  · exact Int.lcm_zero_left _
  · exact Int.lcm_zero_right _
theorem bits_gcd {a b : Int} {n : Nat} (h : a ≠ 0) (ha : intBits a ≤ n) : intBits (Int.gcd a b : Int) ≤ n := by
  refine intBits_le_of_natAbs ?_ ha
  rw [Int.natAbs_natCast]
  exact Nat.le_of_dvd (by omega) (Nat.gcd_dvd_left _ _)
theorem gcd_ne {a b : Int} (h : ¬ (a = 0 ∧ b = 0)) : (Int.gcd a b : Int) ≠ 0 := by
  have : 0 < Int.gcd a b := by
    rw [Int.gcd_pos_iff]
    omega
  omega
theorem bits_gcd2 {a b : Int} {n : Nat} (h : ¬ (a = 0 ∧ b = 0)) (ha : intBits a ≤ n) (hb : intBits b ≤ n) : intBits (Int.gcd a b : Int) ≤ n := by
  by_cases h0 : a = 0
  · rw [Int.gcd_comm]
    exact bits_gcd (by omega) hb
  · exact bits_gcd h0 ha
theorem fmod_gcd_left (a b : Int) : a.fmod (Int.gcd a b : Int) = 0 := by
  rw [Int.fmod_eq_emod_of_nonneg _ (Int.natCast_nonneg _)]
  exact Int.emod_eq_zero_of_dvd (Int.gcd_dvd_left a b)
theorem fmod_gcd_right (a b : Int) : b.fmod (Int.gcd a b : Int) = 0 := by
  rw [Int.fmod_eq_emod_of_nonneg _ (Int.natCast_nonneg _)]
  exact Int.emod_eq_zero_of_dvd (Int.gcd_dvd_right a b)
theorem natAbs_quot {a g : Int} (hg : 0 < g) (h : g ∣ a) : (a.fdiv g).natAbs = a.natAbs / g.natAbs := by
  rw [Int.fdiv_eq_ediv_of_nonneg _ (by omega)]
  obtain ⟨k, rfl⟩ := h
  rw [Int.mul_ediv_cancel_left _ (by omega), Int.natAbs_mul, Nat.mul_div_cancel_left _ (by omega)]
theorem gcd_quot {a b : Int} (h : ¬ (a = 0 ∧ b = 0)) : ((Int.gcd (a.fdiv (Int.gcd a b : Int)) (b.fdiv (Int.gcd a b : Int)) : Nat) : Int) = 1 := by
  have hp : 0 < Int.gcd a b := by
    rw [Int.gcd_pos_iff]
    omega
  have e : Int.gcd (a.fdiv (Int.gcd a b : Int)) (b.fdiv (Int.gcd a b : Int)) = 1 := by
    show Nat.gcd _ _ = 1
    rw [natAbs_quot (by omega) (Int.gcd_dvd_left a b), natAbs_quot (by omega) (Int.gcd_dvd_right a b), Int.natAbs_natCast]
    exact Nat.coprime_div_gcd_div_gcd hp
  rw [e]
  rfl
theorem gcd_lcm (a b : Int) : (Int.gcd a b : Int) * (Int.lcm a b : Int) = ((a * b).natAbs : Int) := by
  rw [← Int.natCast_mul, Int.gcd_mul_lcm, Int.natAbs_mul]
theorem bits_lcm {a b : Int} {n : Nat} (h : ¬ (a = 0 ∧ b = 0)) (ha : intBits a ≤ n) (hb : intBits b ≤ n) : intBits (Int.lcm a b : Int) ≤ n + n := by
  refine intBits_le_of_natAbs ?_ (intBits_mul_le ha hb)
  have hp : 0 < Int.gcd a b := by
    rw [Int.gcd_pos_iff]
    omega
  rw [Int.natAbs_natCast, Int.natAbs_mul, ← Int.gcd_mul_lcm]
  exact Nat.le_mul_of_pos_left _ hp
theorem rng2_lt {i n : Nat} (h : i < rngN 0 (n : Int) 2) : (0 + (i : Int) * 2) < n := by
  rw [rngN_pos (by decide)] at h
  split at h <;> omega
theorem bits_to {x : Int} {n m : Nat} (h : intBits x ≤ n) (hm : n ≤ m) : intBits x ≤ m := Nat.le_trans h hm

theorem num_of {t b : Int} (hb : b ≠ 0) : t.fdiv (if b < 0 then -(Int.gcd t b : Int) else (Int.gcd t b : Int)) = (Rat.divInt t b).num := by
  rw [Rat.num_divInt, Int.gcd_comm b t]
  have hp : 0 < Int.gcd t b := Int.gcd_pos_of_ne_zero_right t hb
  obtain ⟨k, hk⟩ : (Int.gcd t b : Int) ∣ t := Int.gcd_dvd_left t b
  generalize hg : (Int.gcd t b : Int) = g at *
  have hg0 : 0 < g := by omega
  by_cases h : b < 0
  · rw [if_pos h, Int.sign_eq_neg_one_of_neg h, hk]
    rw [show g * k = (-g) * (-k) by grind, Int.mul_fdiv_cancel_left _ (by omega), show -1 * (-g * -k) = g * (-k) by grind, Int.mul_ediv_cancel_left _ (by omega)]
  · rw [if_neg h, Int.sign_eq_one_of_pos (by omega), hk, Int.mul_fdiv_cancel_left _ (by omega), Int.one_mul, Int.mul_ediv_cancel_left _ (by omega)]
theorem den_of {t b : Int} (hb : b ≠ 0) : b.fdiv (if b < 0 then -(Int.gcd t b : Int) else (Int.gcd t b : Int)) = ((Rat.divInt t b).den : Int) := by
  rw [Rat.den_divInt, if_neg hb, Int.gcd_comm b t]
  have hp : 0 < Int.gcd t b := Int.gcd_pos_of_ne_zero_right t hb
  obtain ⟨k, hk⟩ : (Int.gcd t b : Int) ∣ b := Int.gcd_dvd_right t b
  rw [Int.natCast_ediv]
  generalize hg : (Int.gcd t b : Int) = g at *
  have hg0 : 0 < g := by omega
  by_cases h : b < 0
  · have e : ((b.natAbs : Nat) : Int) = -b := by omega
    rw [if_pos h, e, hk, show g * k = (-g) * (-k) by grind, Int.mul_fdiv_cancel_left _ (by omega), show -(-g * -k) = g * (-k) by grind, Int.mul_ediv_cancel_left _ (by omega)]
  · have e : ((b.natAbs : Nat) : Int) = b := by omega
    rw [if_neg h, e, hk, Int.mul_fdiv_cancel_left _ (by omega), Int.mul_ediv_cancel_left _ (by omega)]
/-- crosswise -/
theorem cross {t b : Int} (hb : b ≠ 0) : (Rat.divInt t b).num * b = t * ((Rat.divInt t b).den : Int) := by
  have h := Rat.num_divInt_den (Rat.divInt t b)
  exact (Rat.divInt_eq_divInt_iff (by have := (Rat.divInt t b).den_pos; omega) hb).mp h
theorem gcd_rat (q : Rat) : Int.gcd q.num (q.den : Int) = 1 := q.reduced
theorem plus_rat (q r : Rat) : Rat.divInt (q.num * (r.den : Int) + r.num * (q.den : Int)) ((q.den : Int) * (r.den : Int)) = q + r := by
  conv => rhs; rw [← Rat.num_divInt_den q, ← Rat.num_divInt_den r]
  rw [Rat.divInt_add_divInt _ _ (by have := q.den_pos; omega) (by have := r.den_pos; omega)]
theorem times_rat (q r : Rat) : Rat.divInt (q.num * r.num) ((q.den : Int) * (r.den : Int)) = q * r := by
  conv => rhs; rw [← Rat.num_divInt_den q, ← Rat.num_divInt_den r]
  rw [Rat.divInt_mul_divInt]
theorem neg_num (q : Rat) : (-q).num = -q.num := rfl
theorem neg_den (q : Rat) : (-q).den = q.den := rfl
theorem abs_num (q : Rat) : (Rat.abs q).num = q.num.natAbs := by
  unfold Rat.abs
  split
  · rename_i h
    have := Rat.num_nonneg.mpr h
    omega
  · rename_i h
    have : ¬ 0 ≤ q.num := fun z => h (Rat.num_nonneg.mp z)
    show -q.num = _
    omega
theorem abs_den (q : Rat) : (Rat.abs q).den = q.den := by
  unfold Rat.abs
  split <;> rfl
theorem num_le {t b : Int} (hb : b ≠ 0) : (Rat.divInt t b).num.natAbs ≤ t.natAbs := by
  rw [Rat.num_divInt]
  have e : (b.sign * t).natAbs = t.natAbs := by
    rw [Int.natAbs_mul, Int.natAbs_sign_of_ne_zero hb, Nat.one_mul]
  rw [← e]
  exact Int.natAbs_ediv_le_natAbs _ _
theorem den_le {t b : Int} (hb : b ≠ 0) : (Rat.divInt t b).den ≤ b.natAbs := by
  rw [Rat.den_divInt, if_neg hb]
  exact Nat.div_le_self _ _
/-! ### the law's helpers, and the program's defs -/
theorem ok_divisor (T : Tx K mg A) : FnOk P w K mg base CX0 1 A.f_divisor A.fd_divisor ["one", "other"] spGcd := by
  refine T.F_divisor.ok sc_divisor (fun vs H Q E h => ?_) (fun cdv A' outer s H vs Q E hr h => ?_)
  · match vs, h with
    | [.int a, .int b], _ => rfl
  · match vs, h with
    | [.int a, .int b], q =>
    have q : Q (.int (Int.gcd a b)) H := q
    have hu := hr.units
    refine ⟨_, (pss_cons (ps_set (i := 2) sc_divisor.nd rfl (Or.inl rfl) (pe_callB call_absF (by rfl) T.z_abs boot_abs (pa_cons (pvF 0) pa_nil)))
      (pss_cons (ps_set (i := 3) sc_divisor.nd rfl (Or.inl rfl) (pe_callB call_absF (by rfl) T.z_abs boot_abs (pa_cons (pvF 1) pa_nil)))
      (pss_cons (ps_whileW PassesOwn.never (pt_cmpF (op_neM hu) (pvF 3) pe_int (nomark _))
      (pss_cons (ps_set (i := 4) sc_divisor.nd rfl (Or.inl rfl) (pe_op of_mod (pvF 2) (pvF 3)))
      (pss_cons (ps_set (i := 2) sc_divisor.nd rfl (Or.inl rfl) (pvF 3))
      (pss_one (ps_set (i := 3) sc_divisor.nd rfl (Or.inl rfl) (pvF 4))))))
      (pss_one (ps_ret (pvF 2)))))), ?_⟩
    walk_at "rd"
    refine whileW_by (fun m σ H1 => ∃ l r z, σ = [some (.int a), some (.int b), some (.int l), some (.int r), z] ∧ H1 = H ∧ 0 ≤ l ∧ 0 ≤ r ∧ m = r.toNat ∧ Int.gcd l r = Int.gcd a b) _
      ⟨_, _, _, rfl, rfl, by omega, by omega, rfl, gcd_abs a b⟩ ?_
    rintro m σ H1 ⟨l, r, z, rfl, rfl, hl, hr', rfl, hg⟩
    walk_at "rd"
    split
    · rename_i h
      have hp : 0 < r := by omega
      have f := fmod_lt hl hp
      exact ⟨h, _, (by omega : (l.fmod r).toNat < r.toNat), _, _, _, ⟨rfl, rfl, rfl⟩, hr', f.1, rfl, (gcd_step hl hp).trans hg⟩
    · rename_i h
      obtain rfl : r = 0 := by omega
      rw [← hg, gcd_zero hl] at q
      exact q
theorem bits_num {t b : Int} {n : Nat} (hb : b ≠ 0) (h : intBits t ≤ n) : intBits (Rat.divInt t b).num ≤ n := intBits_le_of_natAbs (num_le hb) h
theorem bits_den {t b : Int} {n : Nat} (hb : b ≠ 0) (h : intBits b ≤ n) : intBits ((Rat.divInt t b).den : Int) ≤ n := by
  refine intBits_le_of_natAbs ?_ h
  rw [Int.natAbs_natCast]
  exact den_le hb
theorem ok_is_whole (T : Tx K mg A) : FnOk P w K mg base CX0 1 A.f_is_whole A.fd_is_whole ["value"] spIsW := by
  refine T.F_is_whole.ok sc_is_whole (fun vs H Q E h => ?_) (fun cdv A' outer s H vs Q E hr h => ?_)
  · match vs, h with
    | [.int i], _ => rfl
  · match vs, h with
    | [.int i], q =>
    have hu := hr.units
    refine ⟨_, (pss_one (ps_ret (pe_andF (pe_callB (call_isT .int) (by rfl) T.z_isinstance boot_isinstance (pa_cons (pvF 0) (pa_cons (pe_bltn (v := .ty "int") (u := .type "int") (by rfl) T.z_int rfl rfl) pa_nil))) (pe_one (pe_notF (pe_callB (call_isT .bl) (by rfl) T.z_isinstance boot_isinstance (pa_cons (pvF 0) (pa_cons (pe_bltn (v := .ty "bool") (u := .type "bool") (by rfl) T.z_bool rfl rfl) pa_nil)))))))), ?_⟩
    walk_at "rd"
    exact q
theorem ok_fraction (T : Tx K mg A) : FnOk P w K mg base CX0 2 A.f_fraction A.fd_fraction ["top", "bottom"] spFrac := by
  have G_is_whole : FnOk P w K mg base CX0 1 _ _ _ _ := ok_is_whole T
  have G_divisor : FnOk P w K mg base CX0 1 _ _ _ _ := ok_divisor T
  refine T.F_fraction.ok sc_fraction (fun vs H Q E h => ?_) (fun cdv A' outer s H vs Q E hr h => ?_)
  · match vs, h with
    | [.int t, .int b], _ => rfl
  · match vs, h with
    | [.int t, .int b], ⟨hb, h1, h2, k⟩ =>
    have hu := hr.units
    have hr_is_whole : Room 1 _ := hr.mono (by decide)
    have hr_divisor : Room 1 _ := hr.mono (by decide)
    refine ⟨_, (pss_cons (ps_if (pw_or (pt_not (pt_valF (pe_call G_is_whole hr_is_whole (by rfl) T.m_is_whole T.F_is_whole.kp T.b_is_whole .nil pass0 (pa_cons (pvF 0) pa_nil)))) (pw_or1 (pt_not (pt_valF (pe_call G_is_whole hr_is_whole (by rfl) T.m_is_whole T.F_is_whole.kp T.b_is_whole .nil pass0 (pa_cons (pvF 1) pa_nil)))))).pt
      (pss_one ps_never)
      pss_nil)
      (pss_cons (ps_if (pt_cmpF (op_eqM hu) (pvF 1) pe_int (nomark _))
      (pss_one ps_never)
      pss_nil)
      (pss_cons (ps_set (i := 2) sc_fraction.nd rfl (Or.inl rfl) (pe_call G_divisor hr_divisor (by rfl) T.m_divisor T.F_divisor.kp T.b_divisor .nil pass0 (pa_cons (pvF 0) (pa_cons (pvF 1) pa_nil))))
      (pss_cut (ps_if (pt_cmpF of_lt (pvF 1) pe_int (nomark _))
      (pss_one (ps_set (i := 2) sc_fraction.nd rfl (Or.inl rfl) (pe_un of_neg (pvF 2))))
      pss_nil)
      (pss_one (ps_ret (pe_tupS (pa_cons (pe_op of_fdiv (pvF 0) (pvF 2)) (pa_cons (pe_op of_fdiv (pvF 1) (pvF 2)) pa_nil))))))))), ?_⟩
    walk_at "rd"
    rw [if_neg hb]
    refine ⟨fun σ' H' => σ' = [some (.int t), some (.int b), some (.int (if b < 0 then -(Int.gcd t b : Int) else (Int.gcd t b : Int)))] ∧ H' = H, ?_, ?_⟩
    · walk_at "rd"
      split
      · rfl
      · rfl
    · rintro σ' H' ⟨rfl, rfl⟩
      have hg : intBits (Int.gcd t b : Int) ≤ 4000 := by
        rw [Int.gcd_comm]
        exact bits_gcd hb h2
      have hp : 0 < Int.gcd t b := Int.gcd_pos_of_ne_zero_right t hb
      have hc : CFd t (if b < 0 then -(Int.gcd t b : Int) else (Int.gcd t b : Int)) := by
        split
        · exact ⟨by omega, Nat.le_trans (intBits_neg_le hg) (by decide)⟩
        · exact ⟨by omega, Nat.le_trans hg (by decide)⟩
      walk_at "rd"
      refine ⟨hc, hc, fun p H1 n1 S1 h1 => k _ _ ⟨p, rfl, n1, S1, ?_⟩⟩
      rw [h1, num_of hb, den_of hb]
      rfl

theorem small_log {n : Nat} (h : n < 10 ^ 9) : n.log2 < 1920 := by
  rcases Nat.eq_zero_or_pos n with z | z
  · rw [z]; decide
  · rw [Nat.log2_lt (by omega)]
    exact Nat.lt_of_lt_of_le h (Nat.le_trans (by decide : 10 ^ 9 ≤ 2 ^ 30) (Nat.pow_le_pow_right (by decide) (by decide)))
theorem small_bits {t : Int} (h : t.natAbs < 10 ^ 9) : intBits t ≤ 4000 := by
  refine Nat.le_trans (intBits_le_iff.mpr (Nat.lt_of_lt_of_le h (by decide : 10 ^ 9 ≤ 2 ^ 30))) (by decide)
theorem ok_figures (T : Tx K mg A) : FnOk P w K mg base CX0 1 A.f_is_figures A.fd_is_figures ["text"] spFig := by
  refine T.F_is_figures.ok sc_is_figures (fun vs H Q E h => ?_) (fun cdv A' outer s H vs Q E hr h => ?_)
  · match vs, h with
    | [.str x], _ => rfl
  · match vs, h with
    | [.str x], q =>
    have q : Q (.bl (figs (sg x))) H := q
    have hu := hr.units
    refine ⟨_, (pss_cons (ps_forW PassesOwn.never rfl (pi_str (pvF 0)) (pg_name (i := 1) sc_is_figures.nd rfl (Or.inl rfl))
      (pss_one (ps_if (pt_cmpF op_notInM (pvF 1) (pe_glob (v := .str "0123456789") (by rfl) T.mk_FIGURES T.rk_FIGURES) (by rfl))
      (pss_one (ps_ret pe_bl))
      pss_nil)))
      (pss_one (ps_ret (pe_cmpR (op_neM hu) (pvF 0) pe_str (nomark _))))), ?_⟩
    walk_at "rd"
    refine forW_str (fun i σ H1 => H1 = H ∧ (∃ z, σ = [some (.str x), z]) ∧ ((sg x).take i).all (fun c => decide (48 ≤ c) && decide (c ≤ 57)) = true) ⟨rfl, ⟨_, rfl⟩, rfl⟩ ?_ ?_
    · rintro i c σ H1 hc ⟨rfl, ⟨z, rfl⟩, ha⟩
      walk_at "rd"
      have hc' : (sg x)[i]? = some c := by
        unfold sg
        rw [Array.getElem?_toList]
        exact hc
      rw [has_fig]
      split
      · rename_i hb
        have : figs (sg x) = false := by
          unfold figs
          rw [show (sg x).all (fun c => decide (48 ≤ c) && decide (c ≤ 57)) = false from ?_, Bool.false_and]
          rw [List.all_eq_false]
          exact ⟨c, List.mem_of_getElem? hc', by rw [hb]; decide⟩
        rw [this] at q
        exact q
      · rename_i hb
        refine ⟨⟨_, rfl⟩, ?_⟩
        rw [List.take_add_one, hc', List.all_append, ha]
        simpa using hb
    · rintro σ H1 ⟨rfl, ⟨z, rfl⟩, ha⟩
      walk_at "rd"
      have hl : x.cps.size = (sg x).length := by simp
      rw [hl, List.take_length] at ha
      have e : figs (sg x) = !decide (x = Str.ofString "") := by
        unfold figs
        rw [ha, Bool.true_and]
        congr 1
        rw [Bool.eq_iff_iff, decide_eq_true_eq, List.isEmpty_iff]
        exact ⟨fun h => sg_inj (h.trans (by decide +kernel)), fun h => by rw [h]; decide +kernel⟩
      rw [e] at q
      exact q
theorem ok_ftext (T : Tx K mg A) : FnOk P w K mg base CX0 1 A.f_fraction_text A.fd_fraction_text ["one"] spFText := by
  refine T.F_fraction_text.ok sc_fraction_text (fun vs H Q E h => ?_) (fun cdv A' outer s H vs Q E hr h => ?_)
  · match vs, h with
    | [.ref p], _ => rfl
  · match vs, h with
    | [.ref p], ⟨t, b, hp, l1, l2, q⟩ =>
    have hu := hr.units
    refine ⟨_, (pss_cons (ps_set (i := 1) sc_fraction_text.nd rfl (Or.inl rfl) (pe_ix ix_M (pvF 0) pe_int (fun _ _ => rfl)))
      (pss_cons (ps_set (i := 2) sc_fraction_text.nd rfl (Or.inl rfl) (pe_ix ix_M (pvF 0) pe_int (fun _ _ => rfl)))
      (pss_one (ps_ret (pe_joined (pj_cons (pe_fmt (pvF 1)) (pj_cons pe_str (pj_cons (pe_fmt (pvF 2)) pj_nil)))))))), ?_⟩
    walk_at "rd*"
    have e0 : Str.empty.length = 0 := rfl
    have e1 : (Str.ofString "/").length = 1 := by decide +kernel
    have e2 : (Str.ofString (toString t)).length = (txt t).length := by rw [← sg_len, sg_int]
    have e3 : (Str.ofString (toString b)).length = (txt b).length := by rw [← sg_len, sg_int]
    have f2 := txt_len t
    have f3 := txt_len b
    have hs : sizeLine = 16777216 := sizeLine_eq
    simp only [strLen_append, e0, e1, e2, e3]
    refine ⟨by omega, by omega, by omega, by omega, q _ ?_⟩
    rw [sg_append, sg_append, sg_append, sg_int, sg_int]
    unfold ftxt
    have e4 : sg Str.empty = [] := rfl
    have e5 : sg (Str.ofString "/") = [47] := by decide +kernel
    rw [e4, e5]
    simp
theorem ok_read (T : Tx K mg A) : FnOk P w K mg base CX0 3 A.f_read_fraction A.fd_read_fraction ["text"] spRead := by
  have G_is_figures : FnOk P w K mg base CX0 1 _ _ _ _ := ok_figures T
  have G_fraction_text : FnOk P w K mg base CX0 1 _ _ _ _ := ok_ftext T
  have G_fraction : FnOk P w K mg base CX0 2 _ _ _ _ := ok_fraction T
  refine T.F_read_fraction.ok sc_read_fraction (fun vs H Q E h => ?_) (fun cdv A' outer s H vs Q E hr h => ?_)
  · match vs, h with
    | [.str x], _ => rfl
  · match vs, h with
    | [.str x], ⟨t, b, g, k⟩ =>
    have hu := hr.units
    have hr_is_figures : Room 1 _ := hr.mono (by decide)
    have hr_fraction_text : Room 1 _ := hr.mono (by decide)
    have hr_fraction : Room 2 _ := hr.mono (by decide)
    obtain ⟨hx, hb, hg, l1, l2⟩ := g
    have hb0 : b ≠ 0 := by omega
    have tb : txt b = dg b.natAbs := if_neg (by omega)
    have sl : Str.ofString "/" = ⟨#[47]⟩ := by decide +kernel
    have mi : Str.ofString "-" = ⟨#[45]⟩ := by decide +kernel
    have sp := split_at (x := x) (c := 47) (by decide) hx (txt_no (by decide) (by decide)) (txt_no (by decide) (by decide))
    have hs : sizeLine = 16777216 := sizeLine_eq
    have q1 := txt_le t
    have xl : x.length = (txt t).length + ((txt b).length + 1) := by rw [← sg_len, hx]; simp [ftxt]
    rw [tb] at xl
    obtain ⟨h0, e0⟩ : ∃ h0 : Str, h0 = ⟨(txt t).toArray⟩ := ⟨_, rfl⟩
    obtain ⟨h1, e1⟩ : ∃ h1 : Str, h1 = ⟨(txt b).toArray⟩ := ⟨_, rfl⟩
    have s0 : sg h0 = txt t := by rw [e0]
    have s1 : sg h1 = txt b := by rw [e1]
    have n0 : h0.length = (txt t).length := by rw [← sg_len, s0]
    have n1 : h1.length = (txt b).length := by rw [← sg_len, s1]
    rw [← e0, ← e1] at sp
    have sw := sw_txt s0
    have i0 := int_of_txt s0 (by omega)
    have i1 := int_of_txt s1 (by rw [tb] at n1; omega)
    have r0 : Rat.divInt t b = ⟨t, b.toNat, by omega, by
      show Nat.gcd t.natAbs b.toNat = 1
      rw [← hg]
      unfold Int.gcd
      congr 1
      omega⟩ := by
      rw [Rat.mk_eq_divInt]
      congr 1
      omega
    refine ⟨_, (pss_cons (ps_if (pt_not (pt_valF (pe_callB (call_isT .str) (by rfl) T.z_isinstance boot_isinstance (pa_cons (pvF 0) (pa_cons (pe_bltn (v := .ty "str") (u := .type "str") (by rfl) T.z_str rfl rfl) pa_nil)))))
      (pss_one ps_never)
      pss_nil)
      (pss_cons (ps_set (i := 1) sc_read_fraction.nd rfl (Or.inl rfl) (pe_bmF isStrV_ty PySem.F.plainAttrs_str PySem.F.slot_str_split PySem.F.type_str_split mt_split (pvF 0) (pa_cons pe_str pa_nil)))
      (pss_cons (ps_if (pt_cmpF (op_neM hu) (pe_callB call_lenM (by rfl) T.z_len boot_len (pa_cons (pvF 1) pa_nil)) pe_int (nomark _))
      (pss_one ps_never)
      pss_nil)
      (pss_cut (ps_set (i := 2) sc_read_fraction.nd rfl (Or.inl rfl) (pe_ifExp (pt_valF (pe_bmF isStrV_ty PySem.F.plainAttrs_str PySem.F.slot_str_startswith PySem.F.type_str_startswith mt_startswith (pe_ix ix_M (pvF 1) pe_int (fun _ _ => rfl)) (pa_cons pe_str pa_nil))) (pe_slice sl_A (pe_ix ix_M (pvF 1) pe_int (fun _ _ => rfl)) (po_someF pe_int) po_none) (pe_ix ix_M (pvF 1) pe_int (fun _ _ => rfl))))
      (pss_cons (ps_forW PassesOwn.never rfl (pi_listF (pe_lstS (pa_cons (pvF 2) (pa_cons (pe_ix ix_M (pvF 1) pe_int (fun _ _ => rfl)) pa_nil)))) (pg_name (i := 3) sc_read_fraction.nd rfl (Or.inl rfl))
      (pss_one (ps_if (pw_or (pt_not (pt_valF (pe_call G_is_figures hr_is_figures (by rfl) T.m_is_figures T.F_is_figures.kp T.b_is_figures .nil pass0 (pa_cons (pvF 3) pa_nil)))) (pw_or1 (pt_cmpF of_gt (pe_callB call_lenM (by rfl) T.z_len boot_len (pa_cons (pvF 3) pa_nil)) (pe_glob (v := .int 9) (by rfl) T.mk_MOST_FIGURES T.rk_MOST_FIGURES) (nomark _)))).pt
      (pss_one ps_never)
      pss_nil)))
      (pss_cons (ps_if (pt_cmpF (op_eqM hu) (pe_callTy call_intF (by rfl) T.z_int boot_int (pa_cons (pe_ix ix_M (pvF 1) pe_int (fun _ _ => rfl)) pa_nil)) pe_int (nomark _))
      (pss_one ps_never)
      pss_nil)
      (pss_cons (ps_set (i := 4) sc_read_fraction.nd rfl (Or.inl rfl) (pe_call G_fraction hr_fraction (by rfl) T.m_fraction T.F_fraction.kp T.b_fraction .nil pass0 (pa_cons (pe_callTy call_intF (by rfl) T.z_int boot_int (pa_cons (pe_ix ix_M (pvF 1) pe_int (fun _ _ => rfl)) pa_nil)) (pa_cons (pe_callTy call_intF (by rfl) T.z_int boot_int (pa_cons (pe_ix ix_M (pvF 1) pe_int (fun _ _ => rfl)) pa_nil)) pa_nil))))
      (pss_cons (ps_if (pt_cmpF (op_neM hu) (pe_call G_fraction_text hr_fraction_text (by rfl) T.m_fraction_text T.F_fraction_text.kp T.b_fraction_text .nil pass0 (pa_cons (pvF 4) pa_nil)) (pvF 0) (nomark _))
      (pss_one ps_never)
      pss_nil)
      (pss_one (ps_ret (pvF 4))))))))))), ?_⟩
    rw [sl, mi]
    have hx' : id (sg x = ftxt t b) := hx
    clear e0 e1 hx sl mi
    have d1 : ((⟨#[47]⟩ : Str).length == 0) = false := rfl
    have d2 : x.length ≤ sizeLine := by omega
    have d3 : 2 ≤ sizeLine := by omega
    have d4 : h0.length ≤ sizeLine := by omega
    have d5 : h1.length ≤ sizeLine := by rw [tb] at n1; omega
    have N0 : h0.length ≤ 10 := by omega
    have N1 : h1.length ≤ 9 := by rw [tb] at n1; omega
    clear xl n0 n1 q1 hs
    walk_at "rd*"
    intro p H1 n1' S1 h1'
    walk_at "rd*"
    rw [if_neg (by decide)]
    refine ⟨fun σ' H' => ∃ top : Str, sg top = dg t.natAbs ∧ σ' = [some (.str x), some (.ref p), some (.str top), none, none] ∧ H' = H1, ?_, ?_⟩
    · walk_at "rd*"
      split
      · rename_i ht
        have z := sg_from (x := h0) (i := 1) (by
          rw [← sg_len, s0]
          unfold txt
          rw [if_pos ht]
          simp)
        rw [show ((1 : Nat) : Int) = 1 from rfl] at z
        refine ⟨_, ?_, rfl⟩
        rw [z, s0]
        unfold txt
        rw [if_pos ht]
        rfl
      · rename_i ht
        refine ⟨_, ?_, rfl⟩
        rw [s0]
        unfold txt
        rw [if_neg ht]
    · rintro σ' H' ⟨top, st, rfl, rfl⟩
      walk_at "rd*"
      intro q H2 n2 S2 h2
      walk_at "rd*"
      have hp2 := S2 _ _ h1'
      refine ⟨⟨_, SqL.of h2⟩, ?_⟩
      have f0 : figs (sg top) = true := by rw [st]; exact figs_iff.mpr ⟨dg_all _, dg_ne _⟩
      have f1 : figs (sg h1) = true := by rw [s1, tb]; exact figs_iff.mpr ⟨dg_all _, dg_ne _⟩
      have m0 : top.length ≤ 9 := by rw [← sg_len, st]; exact l1
      have m1 : top.length ≤ sizeLine := Nat.le_trans m0 (by decide)
      refine forW_list (xs := [.str top, .str h1]) (fun i σ H' => H' = H2 ∧ ∃ z, σ = [some (.str x), some (.ref p), some (.str top), z, none]) ⟨rfl, _, rfl⟩ (fun i σ H' _ h => by rw [h.1]; exact SqL.of h2) ?_ ?_
      · rintro i v σ H' hv ⟨rfl, z, rfl⟩
        match i, hv with
        | 0, hv =>
          cases hv
          walk_at "rd*"
          rw [st] at f0
          rw [f0, if_neg (by simp; omega)]
          exact ⟨_, rfl⟩
        | 1, hv =>
          cases hv
          walk_at "rd*"
          rw [s1, tb] at f1
          rw [f1, if_neg (by simp; omega)]
          exact ⟨_, rfl⟩
        | i + 2, hv => cases hv
      · rintro σ H' ⟨rfl, z, rfl⟩
        walk_at "rd*"
        have v1 : t.natAbs < 10 ^ 9 := by
          have := val_lt (dg_all t.natAbs)
          rw [dg_val] at this
          exact Nat.lt_of_lt_of_le this (Nat.pow_le_pow_right (by decide) l1)
        have v2 : b.natAbs < 10 ^ 9 := by
          have := val_lt (dg_all b.natAbs)
          rw [dg_val] at this
          exact Nat.lt_of_lt_of_le this (Nat.pow_le_pow_right (by decide) l2)
        have g1 : t.natAbs.log2 < 1920 := small_log v1
        have g2 : b.natAbs.log2 < 1920 := small_log v2
        refine ⟨by omega, by omega, by omega, small_bits v1, small_bits v2, ?_⟩
        rw [r0]
        rintro _ H3 ⟨o, rfl, n3, S3, h3⟩
        replace h3 : H3 o = some (.tup [.int t, .int b]) := by
          rw [h3]
          unfold ratV
          show some (HO.tup [V.int t, V.int ((b.toNat : Nat) : Int)]) = _
          rw [Int.toNat_of_nonneg (by omega)]
        walk_at "rd*"
        refine ⟨t, b, ⟨rfl, rfl⟩, g1, g2, fun y hy => ?_⟩
        rw [if_neg (not_not_intro (sg_inj (hy.trans hx'.symm)))]
        refine k _ _ ⟨o, rfl, ?_, fun c u e => S3 _ _ (S2 _ _ (S1 _ _ e)), h3⟩
        cases e : H o with
        | none => rfl
        | some u =>
          have := S2 _ _ (S1 _ _ e)
          rw [n3] at this
          cases this
theorem cut_unique {c : Nat} : ∀ {a a' b b' : List Nat}, a ++ c :: b = a' ++ c :: b' → c ∉ a → c ∉ a' → a = a' ∧ b = b'
  | [], [], _, _, h, _, _ => by simpa using h
  | [], d :: a', _, _, h, _, h2 => by
    rw [List.nil_append, List.cons_append, List.cons.injEq] at h
    exact absurd (by rw [h.1]; exact List.mem_cons_self) h2
  | d :: a, [], _, _, h, h1, _ => by
    rw [List.nil_append, List.cons_append, List.cons.injEq] at h
    exact absurd (by rw [h.1]; exact List.mem_cons_self) h1
  | d :: a, d' :: a', _, _, h, h1, h2 => by
    rw [List.cons_append, List.cons_append, List.cons.injEq] at h
    obtain ⟨e1, e2⟩ := cut_unique h.2 (fun q => h1 (List.mem_cons_of_mem _ q)) (fun q => h2 (List.mem_cons_of_mem _ q))
    exact ⟨by rw [h.1, e1], e2⟩
theorem ok_readX (T : Tx K mg A) : FnOk P w K mg base (CXE P w) 3 A.f_read_fraction A.fd_read_fraction ["text"] (spReadX A.c_NoText) := by
  have G_is_figures : FnOk P w K mg base CX0 1 _ _ _ _ := ok_figures T
  have G_fraction_text : FnOk P w K mg base CX0 1 _ _ _ _ := ok_ftext T
  have G_fraction : FnOk P w K mg base CX0 2 _ _ _ _ := ok_fraction T
  refine T.F_read_fraction.okX sc_read_fraction (fun vs H Q E h => ?_) (fun cdv A' outer s H vs Q E hr h => ?_)
  · match vs, h with
    | [v], _ => rfl
  · match vs, h with
    | [v], ⟨g, k⟩ =>
    have hu := hr.units
    have hr_is_figures : Room 1 _ := hr.mono (by decide)
    have hr_fraction_text : Room 1 _ := hr.mono (by decide)
    have hr_fraction : Room 2 _ := hr.mono (by decide)
    have one_line : 1 ≤ sizeLine := by decide
    refine ⟨_, (pss_cons (ps_if (pt_not (pt_valF (pe_callB (call_isT .str) (by rfl) T.z_isinstance boot_isinstance (pa_cons (pvF 0) (pa_cons (pe_bltn (v := .ty "str") (u := .type "str") (by rfl) T.z_str rfl rfl) pa_nil)))))
      (pss_one (ps_raise T.x_NoText T.mc_NoText takes_fn rfl (by rfl) (pa_cons pe_str pa_nil)))
      pss_nil)
      (pss_cons (ps_set (i := 1) sc_read_fraction.nd rfl (Or.inl rfl) (pe_bmF isStrV_ty PySem.F.plainAttrs_str PySem.F.slot_str_split PySem.F.type_str_split mt_split (pvF 0) (pa_cons pe_str pa_nil)))
      (pss_cons (ps_if (pt_cmpF (op_neM hu) (pe_callB call_lenM (by rfl) T.z_len boot_len (pa_cons (pvF 1) pa_nil)) pe_int (nomark _))
      (pss_one (ps_raise T.x_NoText T.mc_NoText takes_fn rfl (by rfl) (pa_cons pe_str pa_nil)))
      pss_nil)
      (pss_cut (ps_set (i := 2) sc_read_fraction.nd rfl (Or.inl rfl) (pe_ifExp (pt_valF (pe_bmF isStrV_ty PySem.F.plainAttrs_str PySem.F.slot_str_startswith PySem.F.type_str_startswith mt_startswith (pe_ix ix_M (pvF 1) pe_int (fun _ _ => rfl)) (pa_cons pe_str pa_nil))) (pe_slice sl_A (pe_ix ix_M (pvF 1) pe_int (fun _ _ => rfl)) (po_someF pe_int) po_none) (pe_ix ix_M (pvF 1) pe_int (fun _ _ => rfl))))
      (pss_cons (ps_forW PassesOwn.leaving rfl (pi_listF (pe_lstS (pa_cons (pvF 2) (pa_cons (pe_ix ix_M (pvF 1) pe_int (fun _ _ => rfl)) pa_nil)))) (pg_name (i := 3) sc_read_fraction.nd rfl (Or.inl rfl))
      (pss_one (ps_if (pw_or (pt_not (pt_valF (pe_call G_is_figures hr_is_figures (by rfl) T.m_is_figures T.F_is_figures.kp T.b_is_figures .nil pass0 (pa_cons (pvF 3) pa_nil)))) (pw_or1 (pt_cmpF of_gt (pe_callB call_lenM (by rfl) T.z_len boot_len (pa_cons (pvF 3) pa_nil)) (pe_glob (v := .int 9) (by rfl) T.mk_MOST_FIGURES T.rk_MOST_FIGURES) (nomark _)))).pt
      (pss_one (ps_raise T.x_NoText T.mc_NoText takes_fn rfl (by rfl) (pa_cons pe_str pa_nil)))
      pss_nil)))
      (pss_cons (ps_if (pt_cmpF (op_eqM hu) (pe_callTy call_intF (by rfl) T.z_int boot_int (pa_cons (pe_ix ix_M (pvF 1) pe_int (fun _ _ => rfl)) pa_nil)) pe_int (nomark _))
      (pss_one (ps_raise T.x_NoText T.mc_NoText takes_fn rfl (by rfl) (pa_cons pe_str pa_nil)))
      pss_nil)
      (pss_cons (ps_set (i := 4) sc_read_fraction.nd rfl (Or.inl rfl) (pe_call G_fraction hr_fraction (by rfl) T.m_fraction T.F_fraction.kp T.b_fraction .nil pass0 (pa_cons (pe_callTy call_intF (by rfl) T.z_int boot_int (pa_cons (pe_ix ix_M (pvF 1) pe_int (fun _ _ => rfl)) pa_nil)) (pa_cons (pe_callTy call_intF (by rfl) T.z_int boot_int (pa_cons (pe_ix ix_M (pvF 1) pe_int (fun _ _ => rfl)) pa_nil)) pa_nil))))
      (pss_cons (ps_if (pt_cmpF (op_neM hu) (pe_call G_fraction_text hr_fraction_text (by rfl) T.m_fraction_text T.F_fraction_text.kp T.b_fraction_text .nil pass0 (pa_cons (pvF 4) pa_nil)) (pvF 0) (nomark _))
      (pss_one (ps_raise T.x_NoText T.mc_NoText takes_fn rfl (by rfl) (pa_cons pe_str pa_nil)))
      pss_nil)
      (pss_one (ps_ret (pvF 4))))))))))), ?_⟩
    rcases g with ⟨x, rfl, xl, ng⟩ | ⟨ty, hty, hne⟩
    · have k0 : E (.ref A.c_NoText) none H := k H (fun _ _ e => e)
      have sl : Str.ofString "/" = ⟨#[47]⟩ := by decide +kernel
      have mi : Str.ofString "-" = ⟨#[45]⟩ := by decide +kernel
      have hs : sizeLine = 16777216 := sizeLine_eq
      have sle := split_le x 47
      rw [sl, mi]
      clear sl mi
      have d1 : ((⟨#[47]⟩ : Str).length == 0) = false := rfl
      have d2 : x.length ≤ sizeLine := by omega
      have d3 : (splitS x ⟨#[47]⟩).length ≤ sizeLine := by omega
      have xl' : id (x.length ≤ 1000000) := xl
      have ng' : id (∀ t b, ¬ Good (sg x) t b) := ng
      clear hs sle xl ng
      walk_at "rd*"
      intro p H1 n1 S1 h1'
      have k1 : E (.ref A.c_NoText) none H1 := k H1 S1
      walk_at "rd*"
      by_cases hl : (splitS x ⟨#[47]⟩).length = 2
      · obtain ⟨h0, h1, sp⟩ : ∃ h0 h1, splitS x ⟨#[47]⟩ = [h0, h1] := by
          match splitS x ⟨#[47]⟩, hl with
          | [a, b], _ => exact ⟨a, b, rfl⟩
        have cut := split_two sp
        have hz : h0.length + h1.length + 1 = x.length := by
          rw [← sg_len, ← sg_len, ← sg_len, cut]
          simp
          omega
        have d4 : h0.length ≤ sizeLine := by omega
        have d5 : h1.length ≤ sizeLine := by omega
        have cut' : id (sg x = sg h0 ++ 47 :: sg h1) := cut
        clear hl cut hz
        rw [sp] at h1' ⊢
        clear sp
        rw [if_neg (by simp)]
        refine ⟨fun σ' H' => ∃ top : Str, (sg h0 = 45 :: sg top ∨ top = h0 ∧ ∀ r, sg h0 ≠ 45 :: r) ∧ σ' = [some (.str x), some (.ref p), some (.str top), none, none] ∧ H' = H1, ?_, ?_⟩
        · walk_at "rd*"
          rw [sw_one]
          have z : ∀ r, sg h0 = 45 :: r → r = (sg h0).drop 1 := fun r e => by rw [e]; rfl
          split
          · rename_i hq
            rw [decide_eq_true_eq] at hq
            have hlen : 1 ≤ h0.length := by
              rw [← sg_len]
              exact (List.getElem?_eq_some_iff.mp hq).1
            refine ⟨_, .inl ?_, rfl⟩
            have z := sg_from (x := h0) (i := 1) hlen
            rw [show ((1 : Nat) : Int) = 1 from rfl] at z
            rw [z]
            cases e : sg h0 with
            | nil => rw [e] at hq; cases hq
            | cons c r =>
              rw [e] at hq
              cases hq
              rfl
          · rename_i hq
            rw [decide_eq_true_eq] at hq
            refine ⟨_, .inr ⟨rfl, fun r e => hq (by rw [e]; rfl)⟩, rfl⟩
        · rintro σ' H' ⟨top, ht, rfl, rfl⟩
          have dt : top.length ≤ sizeLine := by
            rcases ht with e | e
            · have := congrArg List.length e
              rw [sg_len, List.length_cons, sg_len] at this
              omega
            · rw [e.1]; exact d4
          have ht' := (id ht : id _)
          clear ht
          walk_at "rd*"
          intro q H2 n2 S2 h2
          have k2 : E (.ref A.c_NoText) none H2 := k H2 fun c u e => S2 _ _ (S1 _ _ e)
          have hp2 := S2 _ _ h1'
          walk_at "rd*"
          refine ⟨⟨_, SqL.of h2⟩, ?_⟩
          refine forW_list (xs := [.str top, .str h1]) (fun i σ H' => H' = H2 ∧ (∃ z, σ = [some (.str x), some (.ref p), some (.str top), z, none]) ∧ (1 ≤ i → figs (sg top) = true ∧ top.length ≤ 9) ∧ (2 ≤ i → figs (sg h1) = true ∧ h1.length ≤ 9)) ⟨rfl, ⟨_, rfl⟩, fun h => absurd h (by decide), fun h => absurd h (by decide)⟩ (fun i σ H' _ h => by rw [h.1]; exact SqL.of h2) ?_ ?_
          · rintro i v σ H' hv ⟨rfl, ⟨z, rfl⟩, ha, hb⟩
            match i, hv with
            | 0, hv =>
              cases hv
              clear ha hb
              walk_at "rd*"
              split
              · trivial
              · rename_i hn
                exact ⟨⟨_, rfl⟩, fun _ => ⟨by cases e : figs (sg top) <;> simp_all, by omega⟩, fun h => h.elim⟩
            | 1, hv =>
              cases hv
              have ha := ha (by decide)
              have ha' := (id ha : id _)
              clear ha hb
              walk_at "rd*"
              split
              · trivial
              · rename_i hn
                exact ⟨⟨_, rfl⟩, fun _ => trivial, fun _ => ⟨by cases e : figs (sg h1) <;> simp_all, by omega⟩⟩
            | i + 2, hv => cases hv
          · rintro σ H' ⟨rfl, ⟨z, rfl⟩, ha, hb⟩
            have ha := ha (by simp)
            have hb := hb (by simp)
            obtain ⟨f0, m0⟩ := ha
            obtain ⟨f1, m1⟩ := hb
            obtain ⟨a0, b0⟩ := figs_iff.mp f0
            obtain ⟨a1, b1⟩ := figs_iff.mp f1
            have i1 := PySem.intText_digits (x := h1) a1 b1 (by omega)
            clear f0 f1
            have hn0 : h0.length ≤ 10 := by
              rcases ht' with e | e
              · have := congrArg List.length e
                rw [sg_len, List.length_cons, sg_len] at this
                omega
              · rw [← e.1]; omega
            have hn47 : 47 ∉ sg h0 := by
              intro hm
              rcases ht' with e | e
              · rw [e] at hm
                rcases List.mem_cons.mp hm with z | z
                · cases z
                · have := a0 47 z; omega
              · rw [← e.1] at hm
                have := a0 47 hm
                omega
            obtain ⟨m, i0, hm9⟩ : ∃ m : Int, intText? h0 = some m ∧ m.natAbs < 10 ^ 9 := by
              have v := val_lt a0
              have v : NumText.digitsVal (sg top) < 10 ^ 9 := Nat.lt_of_lt_of_le v (Nat.pow_le_pow_right (by decide) (by rw [sg_len]; exact m0))
              rcases ht' with e | e
              · exact ⟨_, PySem.intText_neg e a0 b0 (by omega), by omega⟩
              · have := PySem.intText_digits (x := h0) (by rw [← e.1]; exact a0) (by rw [← e.1]; exact b0) (by omega)
                refine ⟨_, this, ?_⟩
                rw [show h0.cps.toList = sg top by rw [e.1]]
                omega
            have hb9 : NumText.digitsVal (sg h1) < 10 ^ 9 := Nat.lt_of_lt_of_le (val_lt a1) (Nat.pow_le_pow_right (by decide) (by rw [sg_len]; exact m1))
            walk_at "rd*"
            refine ⟨by omega, ?_⟩
            split
            · trivial
            · rename_i hnz
              generalize hbb : ((NumText.digitsVal h1.cps.toList : Nat) : Int) = b at hnz ⊢
              have hb9' : b.natAbs < 10 ^ 9 := by rw [← hbb]; exact hb9
              refine ⟨by omega, by omega, hnz, small_bits hm9, small_bits hb9', ?_⟩
              rintro _ H3 ⟨o, rfl, n3, S3, h3⟩
              have g1 : (Rat.divInt m b).num.natAbs.log2 < 1920 := small_log (Nat.lt_of_le_of_lt (num_le hnz) hm9)
              have g2 : ((Rat.divInt m b).den : Int).natAbs.log2 < 1920 := small_log (Nat.lt_of_le_of_lt (den_le hnz) hb9')
              have k3 : E (.ref A.c_NoText) none H3 := k H3 fun c u e => S3 _ _ (S2 _ _ (S1 _ _ e))
              unfold ratV at h3
              walk_at "rd*"
              refine ⟨_, _, ⟨rfl, rfl⟩, g1, g2, fun y hy => ?_⟩
              by_cases hyx : y = x
              · exfalso
                subst hyx
                have hd := (Rat.divInt m b).den_pos
                have hgr := gcd_rat (Rat.divInt m b)
                generalize (Rat.divInt m b) = f at hy hd hgr
                have cut : sg y = sg h0 ++ 47 :: sg h1 := cut'
                have ht : sg h0 = 45 :: sg top ∨ top = h0 ∧ ∀ r, sg h0 ≠ 45 :: r := ht'
                rw [hy] at cut
                unfold ftxt at cut
                obtain ⟨c1, c2⟩ := cut_unique cut (txt_no (by decide) (by decide)) hn47
                refine ng' f.num f.den ⟨hy, by omega, hgr, ?_, ?_⟩
                · have : dg f.num.natAbs = sg top := by
                    unfold txt at c1
                    split at c1
                    · rcases ht with e | e
                      · rw [e, List.cons.injEq] at c1
                        exact c1.2
                      · exact absurd c1.symm (e.2 _)
                    · rcases ht with e | e
                      · rw [e] at c1
                        have := dg_all f.num.natAbs 45 (by rw [c1]; exact List.mem_cons_self)
                        omega
                      · rw [c1, e.1]
                  rw [this, sg_len]
                  exact m0
                · have : dg ((f.den : Int)).natAbs = sg h1 := by
                    rw [← c2]
                    unfold txt
                    rw [if_neg (by omega)]
                  rw [this, sg_len]
                  exact m1
              · rw [if_pos hyx]
                trivial
      · rw [if_pos (by omega)]
        trivial
    · have k0 : E (.ref A.c_NoText) none H := k H (fun _ _ e => e)
      walk_at "rd*"
/-! ### the law's own reading -/
theorem ok_ldivisor (T : Tx K mg A) : FnOk P w K mg base CX0 1 A.f_law_divisor A.fd_law_divisor ["_law_one", "_law_other_here"] spGcd := by
  refine T.F_law_divisor.ok sc_law_divisor (fun vs H Q E h => ?_) (fun cdv A' outer s H vs Q E hr h => ?_)
  · match vs, h with
    | [.int a, .int b], _ => rfl
  · match vs, h with
    | [.int a, .int b], q =>
    have q : Q (.int (Int.gcd a b)) H := q
    have hu := hr.units
    refine ⟨_, (pss_cons (ps_set (i := 0) sc_law_divisor.nd rfl (Or.inl rfl) (pe_callB call_absF (by rfl) T.z_abs boot_abs (pa_cons (pvF 0) pa_nil)))
      (pss_cons (ps_set (i := 1) sc_law_divisor.nd rfl (Or.inl rfl) (pe_callB call_absF (by rfl) T.z_abs boot_abs (pa_cons (pvF 1) pa_nil)))
      (pss_cons (ps_whileW PassesOwn.never (pt_cmpF of_gt (pvF 1) pe_int (nomark _))
      (pss_cons (ps_set (i := 2) sc_law_divisor.nd rfl (Or.inl rfl) (pe_op of_mod (pvF 0) (pvF 1)))
      (pss_cons (ps_set (i := 0) sc_law_divisor.nd rfl (Or.inl rfl) (pvF 1))
      (pss_one (ps_set (i := 1) sc_law_divisor.nd rfl (Or.inl rfl) (pvF 2))))))
      (pss_one (ps_ret (pvF 0)))))), ?_⟩
    walk_at "rd"
    refine whileW_by (fun m σ H1 => ∃ l r z, σ = [some (.int l), some (.int r), z] ∧ H1 = H ∧ 0 ≤ l ∧ 0 ≤ r ∧ m = r.toNat ∧ Int.gcd l r = Int.gcd a b) _
      ⟨_, _, _, rfl, rfl, by omega, by omega, rfl, gcd_abs a b⟩ ?_
    rintro m σ H1 ⟨l, r, z, rfl, rfl, hl, hr', rfl, hg⟩
    walk_at "rd"
    split
    · rename_i h
      have hp : 0 < r := by omega
      have f := fmod_lt hl hp
      exact ⟨by omega, _, (by omega : (l.fmod r).toNat < r.toNat), _, _, _, ⟨rfl, rfl, rfl⟩, hr', f.1, rfl, (gcd_step hl hp).trans hg⟩
    · rename_i h
      obtain rfl : r = 0 := by omega
      rw [← hg, gcd_zero hl] at q
      exact q
theorem find_fig {c : Nat} (h : 48 ≤ c ∧ c ≤ 57) : Txt.find (Str.ofString "0123456789") ⟨#[c]⟩ = ((c - 48 : Nat) : Int) := by
  have : ∀ d : Nat, d < 10 → Txt.find (Str.ofString "0123456789") ⟨#[d + 48]⟩ = (d : Int) := by decide +kernel
  have := this (c - 48) (by omega)
  rwa [show c - 48 + 48 = c by omega] at this
theorem ok_lnum (T : Tx K mg A) : FnOk P w K mg base CX0 1 A.f_law_number A.fd_law_number ["_law_text"] spLNum := by
  refine T.F_law_number.ok sc_law_number (fun vs H Q E h => ?_) (fun cdv A' outer s H vs Q E hr h => ?_)
  · match vs, h with
    | [.str x], _ => rfl
  · match vs, h with
    | [.str x], ⟨xl, q⟩ =>
    have hu := hr.units
    have hs : sizeLine = 16777216 := sizeLine_eq
    have d2 : x.length ≤ sizeLine := by omega
    have xl' : id (x.length ≤ 1000000) := xl
    clear hs xl
    refine ⟨_, (pss_cons (ps_if (pw_or (pt_cmpF (op_eqM hu) (pvF 0) pe_str (nomark _)) (pw_or (pt_cmpF of_gt (pe_callB call_lenM (by rfl) T.z_len boot_len (pa_cons (pvF 0) pa_nil)) pe_int (nomark _)) (pw_or1 (pw_and (pt_cmpF (op_eqM hu) (pe_ix ix_M (pvF 0) pe_int (fun _ _ => rfl)) pe_str (nomark _)) (pw_and1 (pt_cmpF of_gt (pe_callB call_lenM (by rfl) T.z_len boot_len (pa_cons (pvF 0) pa_nil)) pe_int (nomark _)))).pt))).pt
      (pss_one (ps_ret (pe_un of_neg pe_int)))
      pss_nil)
      (pss_cons (ps_set (i := 1) sc_law_number.nd rfl (Or.inl rfl) pe_int)
      (pss_cons (ps_forW PassesOwn.never rfl (pi_str (pvF 0)) (pg_name (i := 2) sc_law_number.nd rfl (Or.inl rfl))
      (pss_cons (ps_if (pt_cmpF op_notInM (pvF 2) pe_str (by rfl))
      (pss_one (ps_ret (pe_un of_neg pe_int)))
      pss_nil)
      (pss_one (ps_set (i := 1) sc_law_number.nd rfl (Or.inl rfl) (pe_op op_addM (pe_op op_mulM pe_int (pvF 1)) (pe_bmF isStrV_ty PySem.F.plainAttrs_str PySem.F.slot_str_find PySem.F.type_str_find mt_find pe_str (pa_cons (pvF 2) pa_nil)))))))
      (pss_one (ps_ret (pvF 1)))))), ?_⟩
    walk_at "rd*"
    have no : ∀ b : Bool, (figs (sg x) && decide ((sg x).length ≤ 9) && !lead (sg x)) = false → Q (.int (-1)) H := fun _ e => by
      unfold lnum at q
      rw [if_neg (by rw [e]; decide)] at q
      exact q
    split
    · rename_i h
      refine no true ?_
      rcases h with h | h
      · rw [h, show figs (sg (Str.ofString "")) = false by decide +kernel]
        rfl
      · rw [sg_len, show decide (x.length ≤ 9) = false by rw [decide_eq_false_iff_not]; omega, Bool.and_false, Bool.false_and]
    · rename_i h
      obtain ⟨he, hl⟩ := not_or.mp h
      cases hx : sg x with
      | nil => exact absurd (sg_inj (hx.trans (by decide +kernel))) he
      | cons c r =>
        refine ⟨c, by rw [show x.cps.toList = sg x from rfl, hx]; exact atI_c0, ?_⟩
        split
        · rename_i h2
          refine no true ?_
          have hc : c = 48 := by
            have e : (⟨#[c]⟩ : Str) = ⟨#[48]⟩ := h2.1.trans (by decide +kernel)
            simpa using e
          subst hc
          have hr : r ≠ [] := fun e => by
            rw [e] at hx
            have := sg_len x
            rw [hx] at this
            simp at this
            omega
          rw [hx]
          cases r with
          | nil => exact absurd rfl hr
          | cons d r => rw [show lead (48 :: d :: r) = true from rfl]; simp
        · rename_i h2
          have hlead : lead (sg x) = false := by
            rw [hx]
            match c, r with
            | 48, [] => rfl
            | 48, d :: r =>
              refine absurd ⟨by decide +kernel, ?_⟩ h2
              have := sg_len x
              rw [hx] at this
              simp at this
              omega
            | c, [] => unfold lead; split <;> simp_all
            | c, d :: r =>
              unfold lead
              split
              · rename_i e
                cases e
                refine absurd ⟨by decide +kernel, ?_⟩ h2
                have := sg_len x
                rw [hx] at this
                simp at this
                omega
              · rfl
          clear hx
          refine forW_str (fun i σ H1 => H1 = H ∧ (∃ z, σ = [some (.str x), some (.int (NumText.digitsVal ((sg x).take i) : Nat)), z]) ∧ ((sg x).take i).all (fun c => decide (48 ≤ c) && decide (c ≤ 57)) = true) ⟨rfl, ⟨_, rfl⟩, rfl⟩ ?_ ?_
          · rintro i c σ H1 hc ⟨rfl, ⟨z, rfl⟩, ha⟩
            have hc' : (sg x)[i]? = some c := by
              unfold sg
              rw [Array.getElem?_toList]
              exact hc
            walk_at "rd"
            rw [has_fig]
            split
            · rename_i hb
              refine no true ?_
              have : figs (sg x) = false := by
                unfold figs
                rw [show (sg x).all (fun c => decide (48 ≤ c) && decide (c ≤ 57)) = false from ?_, Bool.false_and]
                rw [List.all_eq_false]
                exact ⟨c, List.mem_of_getElem? hc', by rw [hb]; decide⟩
              rw [this]
              rfl
            · rename_i hb
              have hc4 : 48 ≤ c ∧ c ≤ 57 := by simpa using hb
              have hi : i < (sg x).length := (List.getElem?_eq_some_iff.mp hc').1
              have v : NumText.digitsVal ((sg x).take i) < 10 ^ 9 := by
                refine Nat.lt_of_lt_of_le (val_lt fun d hd => ?_) (Nat.pow_le_pow_right (by decide) ?_)
                · have := List.all_eq_true.mp ha d hd
                  simpa using this
                · rw [List.length_take]
                  rw [sg_len] at hi ⊢
                  omega
              have e : (sg x).take (i + 1) = (sg x).take i ++ [c] := by rw [List.take_add_one, hc']; rfl
              have b1 : intBits ((NumText.digitsVal ((sg x).take i) : Nat) : Int) ≤ 4000 := small_bits v
              refine ⟨by walk_at "mul", ⟨?_, ⟨_, rfl⟩⟩, ?_⟩
              · rw [find_fig hc4, e, NumText.digitsVal_snoc]
                omega
              · rw [e, List.all_append, ha]
                simpa using hb
          · rintro σ H1 ⟨rfl, ⟨z, rfl⟩, ha⟩
            walk_at "rd"
            have hl' : x.cps.size = (sg x).length := by simp
            rw [hl', List.take_length] at ha ⊢
            unfold lnum at q
            rw [if_pos ?_] at q
            · exact q
            · unfold figs
              have hne : (sg x).isEmpty = false := by
                rw [List.isEmpty_eq_false_iff]
                exact fun e => he (sg_inj (e.trans (by decide +kernel)))
              rw [ha, hne, hlead, decide_eq_true (by rw [sg_len]; omega)]
              rfl
theorem lead_iff {l : List Nat} : lead l = false ↔ ∀ r, l = 48 :: r → r = [] := by
  unfold lead
  split
  · rename_i d r
    simp
  · rename_i h
    simp only [true_iff]
    intro r e
    cases r with
    | nil => rfl
    | cons d r => exact absurd e (h d r)
theorem lnum_dg {n : Nat} (h : (dg n).length ≤ 9) : lnum (dg n) = n := by
  have c := dg_canon n
  unfold lnum
  rw [if_pos ?_, dg_val]
  rw [figs_iff.mpr ⟨c.1, c.2.1⟩, lead_iff.mpr c.2.2, decide_eq_true h]
  rfl
theorem lnum_back {l : List Nat} (h : 0 ≤ lnum l) : ∃ n : Nat, lnum l = n ∧ l = dg n ∧ (dg n).length ≤ 9 := by
  unfold lnum at h ⊢
  split at h
  · rename_i q
    rw [Bool.and_eq_true, Bool.and_eq_true, figs_iff, decide_eq_true_eq, Bool.not_eq_true', lead_iff] at q
    have e := canon_back ⟨q.1.1.1, q.1.1.2, q.2⟩
    rw [if_pos (by rw [Bool.and_eq_true, Bool.and_eq_true, figs_iff, decide_eq_true_eq, Bool.not_eq_true', lead_iff]; exact q)]
    exact ⟨_, rfl, e.symm, by rw [e]; exact q.1.2⟩
  · omega
theorem ok_due (T : Tx K mg A) : FnOk P w K mg base CX0 2 A.f_law_due A.fd_law_due ["_law_text"] spDue := by
  have G_law_number : FnOk P w K mg base CX0 1 _ _ _ _ := ok_lnum T
  have G_law_divisor : FnOk P w K mg base CX0 1 _ _ _ _ := ok_ldivisor T
  refine T.F_law_due.ok sc_law_due (fun vs H Q E h => ?_) (fun cdv A' outer s H vs Q E hr h => ?_)
  · match vs, h with
    | [.str x], _ => rfl
  · match vs, h with
    | [.str x], ⟨xl, qy, qn⟩ =>
    have hu := hr.units
    have hr_law_number : Room 1 _ := hr.mono (by decide)
    have hr_law_divisor : Room 1 _ := hr.mono (by decide)
    have hs : sizeLine = 16777216 := sizeLine_eq
    have d2 : x.length ≤ sizeLine := by omega
    have xl' : id (x.length ≤ 1000000) := xl
    have qy' := (id qy : id _)
    have qn' := (id qn : id _)
    clear hs xl qy qn
    refine ⟨_, (pss_cons (ps_set (i := 1) sc_law_due.nd rfl (Or.inl rfl) (pe_bmF isStrV_ty PySem.F.plainAttrs_str PySem.F.slot_str_find PySem.F.type_str_find mt_find (pvF 0) (pa_cons pe_str pa_nil)))
      (pss_cons (ps_set (i := 2) sc_law_due.nd rfl (Or.inl rfl) (pe_callTy call_intF (by rfl) T.z_int boot_int (pa_cons (pe_cmpR (op_eqM hu) (pe_slice sl_A (pvF 0) po_none (po_someF pe_int)) pe_str (nomark _)) pa_nil)))
      (pss_cons (ps_if (pt_cmpF of_lt (pvF 1) pe_int (nomark _))
      (pss_one (ps_ret pe_non))
      pss_nil)
      (pss_cons (ps_set (i := 3) sc_law_due.nd rfl (Or.inl rfl) (pe_call G_law_number hr_law_number (by rfl) T.m_law_number T.F_law_number.kp T.b_law_number .nil pass0 (pa_cons (pe_slice sl_A (pvF 0) (po_someF (pvF 2)) (po_someF (pvF 1))) pa_nil)))
      (pss_cons (ps_set (i := 4) sc_law_due.nd rfl (Or.inl rfl) (pe_call G_law_number hr_law_number (by rfl) T.m_law_number T.F_law_number.kp T.b_law_number .nil pass0 (pa_cons (pe_slice sl_A (pvF 0) (po_someF (pe_op op_addM (pvF 1) pe_int)) po_none) pa_nil)))
      (pss_cons (ps_if (pw_or (pt_cmpF of_lt (pvF 3) pe_int (nomark _)) (pw_or (pt_cmpF of_lt (pvF 4) pe_int (nomark _)) (pw_or (pt_cmpF (op_neM hu) (pe_call G_law_divisor hr_law_divisor (by rfl) T.m_law_divisor T.F_law_divisor.kp T.b_law_divisor .nil pass0 (pa_cons (pvF 3) (pa_cons (pvF 4) pa_nil))) pe_int (nomark _)) (pw_or1 (pw_and (pt_cmpF (op_eqM hu) (pvF 2) pe_int (nomark _)) (pw_and1 (pt_cmpF (op_eqM hu) (pvF 3) pe_int (nomark _)))).pt)))).pt
      (pss_one (ps_ret pe_non))
      pss_nil)
      (pss_one (ps_ret (pe_tupS (pa_cons (pe_op op_mulM (pvF 3) (pe_op of_sub pe_int (pe_op op_mulM pe_int (pvF 2)))) (pa_cons (pvF 4) pa_nil))))))))))), ?_⟩
    walk_at "rd*"
    have sl : Str.ofString "/" = ⟨#[47]⟩ := by decide +kernel
    rw [sl]
    have qn : (∀ t b, ¬ Good (sg x) t b) → Q .non H := qn'
    have qy : ∀ t b, Good (sg x) t b → All (FreshT H [.int t, .int b]) Q ⟨⟩ ⟨⟩ := qy'
    rcases find_one x 47 with ⟨e, hn⟩ | ⟨a, b, e, hx, ha⟩
    · rw [e, if_pos (by decide)]
      refine qn fun t b g => hn ?_
      rw [g.eq]
      unfold ftxt
      simp
    · rw [e, if_neg (by omega)]
      have hlen : x.length = a.length + (b.length + 1) := by rw [← sg_len, hx]; simp
      obtain ⟨f, A1, hf, hA⟩ : ∃ (f : Nat) (A1 : List Nat), (if Txt.slice x none (some 1) = Str.ofString "-" then (1 : Int) else 0) = f ∧ ((f = 1 ∧ a = 45 :: A1) ∨ (f = 0 ∧ a = A1 ∧ ∀ r, a ≠ 45 :: r)) := by
        have s1 := sg_to (x := x) (j := 1) (by omega)
        rw [show ((1 : Nat) : Int) = 1 from rfl, hx] at s1
        have mi : sg (Str.ofString "-") = [45] := by decide +kernel
        by_cases q : ∃ r, a = 45 :: r
        · obtain ⟨r, rfl⟩ := q
          refine ⟨1, r, ?_, .inl ⟨rfl, rfl⟩⟩
          rw [if_pos (sg_inj (s1.trans (by rw [mi]; rfl)))]
          rfl
        · refine ⟨0, a, ?_, .inr ⟨rfl, rfl, fun r e => q ⟨r, e⟩⟩⟩
          rw [if_neg fun z => ?_]
          · rfl
          · rw [z, mi] at s1
            cases a with
            | nil => simp at s1
            | cons c r =>
              simp at s1
              exact q ⟨r, by rw [s1]⟩
      rw [hf]
      have hfa : f ≤ a.length := by
        rcases hA with ⟨h1, h2⟩ | ⟨h1, _⟩
        · rw [h1, h2]; simp
        · omega
      have tT : sg (Txt.slice x (some (f : Int)) (some (a.length : Int))) = A1 := by
        rw [sg_between hfa (by omega), hx]
        rcases hA with ⟨h1, h2⟩ | ⟨h1, h2, _⟩
        · rw [h1, h2]; simp
        · rw [h1, h2]; simp
      have tB : sg (Txt.slice x (some ((a.length : Int) + 1)) none) = b := by
        have := sg_from (x := x) (i := a.length + 1) (by omega)
        rw [show ((a.length + 1 : Nat) : Int) = (a.length : Int) + 1 by omega] at this
        rw [this, hx, List.drop_append]
        simp
      have la : (Txt.slice x (some (f : Int)) (some (a.length : Int))).length ≤ 1000000 := by
        rw [← sg_len, tT]
        have xl : x.length ≤ 1000000 := xl'
        rcases hA with ⟨h1, h2⟩ | ⟨h1, h2, _⟩
        · rw [h2] at hlen; simp at hlen; omega
        · rw [← h2]; omega
      have lb : (Txt.slice x (some ((a.length : Int) + 1)) none).length ≤ 1000000 := by
        rw [← sg_len, tB]
        have xl : x.length ≤ 1000000 := xl'
        omega
      rw [tT, tB]
      refine ⟨la, lb, ?_⟩
      clear tT tB la lb
      split
      · rename_i hc
        refine qn fun t b' g => ?_
        obtain ⟨c1, c2⟩ := cut_unique (hx.symm.trans g.eq) ha (txt_no (by decide) (by decide))
        have hb' : b = dg b'.natAbs := by
          rw [c2]; unfold txt; exact if_neg (by have := g.pos; omega)
        have nb : lnum b = (b'.natAbs : Nat) := by rw [hb']; exact lnum_dg g.l2
        have hp := g.pos
        have hl := g.low
        unfold Int.gcd at hl
        have na : lnum A1 = (t.natAbs : Nat) ∧ (f = 1 → t < 0) := by
          unfold txt at c1
          split at c1
          · rename_i ht
            rcases hA with ⟨h1, h2⟩ | ⟨h1, h2, h3⟩
            · rw [c1, List.cons.injEq] at h2
              rw [← h2.2]
              exact ⟨lnum_dg g.l1, fun _ => ht⟩
            · exact absurd c1 (h3 _)
          · rename_i ht
            rcases hA with ⟨h1, h2⟩ | ⟨h1, h2, h3⟩
            · have := dg_all t.natAbs 45 (by rw [← c1, h2]; exact List.mem_cons_self)
              omega
            · rw [← h2, c1]
              exact ⟨lnum_dg g.l1, fun h => by omega⟩
        rw [na.1, nb] at hc
        rcases hc with h | h | h | h
        · omega
        · omega
        · exact h (by unfold Int.gcd; rw [Int.natAbs_natCast, Int.natAbs_natCast, hl]; rfl)
        · have := na.2 (by omega)
          omega
      · rename_i hc
        simp only [not_or, not_and, Decidable.not_not] at hc
        obtain ⟨c1, c2, c3, c4⟩ := hc
        obtain ⟨n, en, eA, l1⟩ := lnum_back (by omega : 0 ≤ lnum A1)
        obtain ⟨m, em, eb, l2⟩ := lnum_back (by omega : 0 ≤ lnum b)
        have f2 : f = 0 ∨ f = 1 := by
          rcases hA with ⟨h1, _⟩ | ⟨h1, _⟩
          · exact .inr h1
          · exact .inl h1
        have v1 : n < 10 ^ 9 := by
          have := val_lt (dg_all n)
          rw [dg_val] at this
          exact Nat.lt_of_lt_of_le this (Nat.pow_le_pow_right (by decide) l1)
        rw [en, em] at c3
        rw [en] at c4 ⊢
        rw [em] at c2 ⊢
        have b1 : intBits ((n : Nat) : Int) ≤ 4000 := small_bits v1
        have c3' : Nat.gcd n m = 1 := by
          unfold Int.gcd at c3
          rw [Int.natAbs_natCast, Int.natAbs_natCast] at c3
          omega
        have tn : ((n : Int) * (1 - 2 * (f : Int))).natAbs = n := by rcases f2 with h | h <;> rw [h] <;> omega
        have good : Good (sg x) ((n : Int) * (1 - 2 * (f : Int))) m := by
          refine ⟨?_, by omega, ?_, by rw [tn]; exact l1, l2⟩
          · rw [hx]
            unfold ftxt txt
            rw [tn, if_neg (by omega : ¬ ((m : Int) < 0)), Int.natAbs_natCast, ← eb]
            congr 1
            rcases hA with ⟨h1, h2⟩ | ⟨h1, h2, _⟩
            · rw [if_pos (by rw [h1]; have := c4 (by omega); omega), h2, eA]
            · rw [if_neg (by rw [h1]; omega), h2, eA]
          · unfold Int.gcd
            rw [tn]
            exact c3'
        refine ⟨by rcases f2 with h | h <;> rw [h] <;> walk_at "mul", by rcases f2 with h | h <;> rw [h] <;> walk_at "mul", fun p H1 n1 S1 h1 => ?_⟩
        exact qy _ _ good _ _ ⟨p, rfl, n1, S1, h1⟩
theorem ok_whole (T : Tx K mg A) : FnOk P w K mg base CX0 1 A.f_law_whole A.fd_law_whole ["_law_found"] spWhole := by
  refine T.F_law_whole.ok sc_law_whole (fun vs H Q E h => ?_) (fun cdv A' outer s H vs Q E hr h => ?_)
  · match vs, h with
    | [.int i], _ => rfl
  · match vs, h with
    | [.int i], q =>
    have hu := hr.units
    refine ⟨_, (pss_one (ps_ret (pe_andF (pe_callB (call_isT .int) (by rfl) T.z_isinstance boot_isinstance (pa_cons (pvF 0) (pa_cons (pe_bltn (v := .ty "int") (u := .type "int") (by rfl) T.z_int rfl rfl) pa_nil))) (pe_one (pe_notF (pe_callB (call_isT .bl) (by rfl) T.z_isinstance boot_isinstance (pa_cons (pvF 0) (pa_cons (pe_bltn (v := .ty "bool") (u := .type "bool") (by rfl) T.z_bool rfl rfl) pa_nil)))))))), ?_⟩
    walk_at "rd"
    exact q
theorem ok_other (T : Tx K mg A) : FnOkH P w K mg base 1 A.f_law_other A.fd_law_other ["_law_error"] (spOther A.c_NoText) := by
  refine T.F_law_other.okH sc_law_other (fun vs H Q E h => ?_) (fun cdv A' outer s H vs Q E hr h => ?_)
  · match vs, h with
    | [.ref e], _ => rfl
  · match vs, h with
    | [.ref e], ⟨he, k⟩ =>
    have hu := hr.units
    refine ⟨_, (pss_cons (ps_if (pw_or (pt_valF (pe_callB (call_isX) (by rfl) T.z_isinstance boot_isinstance (pa_cons (pvF 0) (pa_cons (pe_glob (v := .ref A.c_NoNumber) (by rfl) T.mc_NoNumber rfl) pa_nil)))) (pw_or (pt_valF (pe_callB (call_isX) (by rfl) T.z_isinstance boot_isinstance (pa_cons (pvF 0) (pa_cons (pe_glob (v := .ref A.c_NoPart) (by rfl) T.mc_NoPart rfl) pa_nil)))) (pw_or1 (pt_valF (pe_callB (call_isX) (by rfl) T.z_isinstance boot_isinstance (pa_cons (pvF 0) (pa_cons (pe_glob (v := .ref A.c_NoName) (by rfl) T.mc_NoName rfl) pa_nil))))))).pt
      (pss_one (ps_ret pe_bl))
      pss_nil)
      (pss_cons (ps_if (pw_or (pt_valF (pe_callB (call_isX) (by rfl) T.z_isinstance boot_isinstance (pa_cons (pvF 0) (pa_cons (pe_glob (v := .ref A.c_Twice) (by rfl) T.mc_Twice rfl) pa_nil)))) (pw_or (pt_valF (pe_callB (call_isX) (by rfl) T.z_isinstance boot_isinstance (pa_cons (pvF 0) (pa_cons (pe_glob (v := .ref A.c_NoBus) (by rfl) T.mc_NoBus rfl) pa_nil)))) (pw_or1 (pt_valF (pe_callB (call_isX) (by rfl) T.z_isinstance boot_isinstance (pa_cons (pvF 0) (pa_cons (pe_glob (v := .ref A.c_Ring) (by rfl) T.mc_Ring rfl) pa_nil))))))).pt
      (pss_one (ps_ret pe_bl))
      pss_nil)
      (pss_one (ps_ret (pe_orF (pe_callB (call_isX) (by rfl) T.z_isinstance boot_isinstance (pa_cons (pvF 0) (pa_cons (pe_glob (v := .ref A.c_NoBlock) (by rfl) T.mc_NoBlock rfl) pa_nil))) (pe_orF (pe_callB (call_isX) (by rfl) T.z_isinstance boot_isinstance (pa_cons (pvF 0) (pa_cons (pe_glob (v := .ref A.c_NoRow) (by rfl) T.mc_NoRow rfl) pa_nil))) (pe_one (pe_callB (call_isX) (by rfl) T.z_isinstance boot_isinstance (pa_cons (pvF 0) (pa_cons (pe_glob (v := .ref A.c_NoDeed) (by rfl) T.mc_NoDeed rfl) pa_nil)))))))))), ?_⟩
    walk_at "rd"
    refine isx he T.q_NoText T.k_NoText_NoNumber ?_
    walk_at "rd"
    refine isx he T.q_NoText T.k_NoText_NoPart ?_
    walk_at "rd"
    refine isx he T.q_NoText T.k_NoText_NoName ?_
    walk_at "rd"
    refine isx he T.q_NoText T.k_NoText_Twice ?_
    walk_at "rd"
    refine isx he T.q_NoText T.k_NoText_NoBus ?_
    walk_at "rd"
    refine isx he T.q_NoText T.k_NoText_Ring ?_
    walk_at "rd"
    refine isx he T.q_NoText T.k_NoText_NoBlock ?_
    walk_at "rd"
    refine isx he T.q_NoText T.k_NoText_NoRow ?_
    walk_at "rd"
    refine isx he T.q_NoText T.k_NoText_NoDeed ?_
    exact k
theorem txt_inj {t t' : Int} (h : txt t = txt t') (hl : (txt t).length ≤ 4300) : t = t' := by
  have e1 := int_of_txt (x := ⟨(txt t).toArray⟩) (t := t) (by simp [sg]) (by simpa [Str.length] using hl)
  have e2 := int_of_txt (x := ⟨(txt t).toArray⟩) (t := t') (by simpa [sg] using h) (by simpa [Str.length] using hl)
  rw [e1] at e2
  exact Option.some.inj e2
theorem good_unique {l : List Nat} {t b t' b' : Int} (h : Good l t b) (g : Good l t' b') : t = t' ∧ b = b' := by
  obtain ⟨c1, c2⟩ := cut_unique (h.eq.symm.trans g.eq) (txt_no (by decide) (by decide)) (txt_no (by decide) (by decide))
  have q1 := txt_le t
  have q2 := txt_le b
  have := h.l1
  have := h.l2
  exact ⟨txt_inj c1 (by omega), txt_inj c2 (by omega)⟩
theorem ok_good (T : Tx K mg A) : FnOk P w K mg base CX0 4 A.f_law_good A.fd_law_good ["_law_text"] spGood := by
  have GX_read_fraction : FnOk P w K mg base (CXE P w) 3 _ _ _ _ := (ok_read T).or (ok_readX T)
  have GH_law_other : FnOkH P w K mg base 1 _ _ _ _ := ok_other T
  have G_law_due : FnOk P w K mg base CX0 2 _ _ _ _ := ok_due T
  have G_law_whole : FnOk P w K mg base CX0 1 _ _ _ _ := ok_whole T
  refine T.F_law_good.ok sc_law_good (fun vs H Q E h => ?_) (fun cdv A' outer s H vs Q E hr h => ?_)
  · match vs, h with
    | [v], _ => rfl
  · match vs, h with
    | [v], ⟨g, k⟩ =>
    have hu := hr.units
    have hr_read_fraction : Room 3 _ := hr.mono (by decide)
    have hr_law_due : Room 2 _ := hr.mono (by decide)
    have hr_law_whole : Room 1 _ := hr.mono (by decide)
    have hh_law_other : ∀ e : Addr, RoomH 1 _ := fun e => (hr.mono (by decide) : Room 1 _).h.mark (some (.ref e))
    refine ⟨_, (pss_cons (ps_set (i := 1) sc_law_good.nd rfl (Or.inl rfl) pe_non)
      (pss_cons (ps_set (i := 2) sc_law_good.nd rfl (Or.inl rfl) (pe_tupS (pa_cons pe_bl (pa_cons pe_bl pa_nil))))
      (pss_cut (ps_tryAs (i := 3) (fun E => (psx_set (i := 1) sc_law_good.nd rfl (Or.inl rfl) (pex_call (E := E) GX_read_fraction hr_read_fraction (by rfl) T.m_read_fraction T.F_read_fraction.kp T.b_read_fraction .nil (pa_cons (pvF 0) pa_nil)))) (fun e => (pss_one (ps_set (i := 2) sc_law_good.nd rfl (Or.inl rfl) (pe_tupS (pa_cons (pe_andF (pe_callB (call_isXK (K := K) rfl) (by rfl) T.z_isinstance boot_isinstance (pa_cons (pvF 3) (pa_cons (pe_glob (v := .ref A.c_NoText) (by rfl) T.mc_NoText rfl) pa_nil))) (pe_one (pe_callB (call_isXK (K := K) rfl) (by rfl) T.z_isinstance boot_isinstance (pa_cons (pvF 3) (pa_cons (pe_bltn (v := .ty "ValueError") (u := .type "ValueError") (by rfl) T.z_ValueError rfl rfl) pa_nil))))) (pa_cons (pe_callH GH_law_other (hh_law_other e) (by rfl) T.m_law_other T.F_law_other.kp T.b_law_other .nil (pa_cons (pvF 3) pa_nil)) pa_nil)))))) (by rfl) T.mc_MixError T.q_MixError sc_law_good.nd rfl rfl)
      (pss_cons (ps_set (i := 4) sc_law_good.nd rfl (Or.inl rfl) pe_non)
      (pss_cut (ps_if (pt_valF (pe_callB (call_isT .str) (by rfl) T.z_isinstance boot_isinstance (pa_cons (pvF 0) (pa_cons (pe_bltn (v := .ty "str") (u := .type "str") (by rfl) T.z_str rfl rfl) pa_nil))))
      (pss_one (ps_set (i := 4) sc_law_good.nd rfl (Or.inl rfl) (pe_call G_law_due hr_law_due (by rfl) T.m_law_due T.F_law_due.kp T.b_law_due .nil pass0 (pa_cons (pvF 0) pa_nil))))
      pss_nil)
      (pss_cons (ps_if (pt_cmpF op_isN (pvF 4) pe_non (nomark _))
      (pss_one (ps_ret (pe_andF (pe_cmpR op_isN (pvF 1) pe_non (nomark _)) (pe_one (pe_cmpR (op_eqM hu) (pvF 2) (pe_tupS (pa_cons pe_bl (pa_cons pe_bl pa_nil))) (nomark _))))))
      pss_nil)
      (pss_cons (ps_if (pw_or (pt_not (pt_valF (pe_callB (call_isT .tup) (by rfl) T.z_isinstance boot_isinstance (pa_cons (pvF 1) (pa_cons (pe_bltn (v := .ty "tuple") (u := .type "tuple") (by rfl) T.z_tuple rfl rfl) pa_nil))))) (pw_or (pt_cmpF (op_neM hu) (pe_callB call_lenM (by rfl) T.z_len boot_len (pa_cons (pvF 1) pa_nil)) pe_int (nomark _)) (pw_or (pt_not (pt_valF (pe_call G_law_whole hr_law_whole (by rfl) T.m_law_whole T.F_law_whole.kp T.b_law_whole .nil pass0 (pa_cons (pe_ix ix_M (pvF 1) pe_int (fun _ _ => rfl)) pa_nil)))) (pw_or1 (pt_not (pt_valF (pe_call G_law_whole hr_law_whole (by rfl) T.m_law_whole T.F_law_whole.kp T.b_law_whole .nil pass0 (pa_cons (pe_ix ix_M (pvF 1) pe_int (fun _ _ => rfl)) pa_nil)))))))).pt
      (pss_one (ps_ret pe_bl))
      pss_nil)
      (pss_one (ps_ret (pe_cmpR (op_eqM hu) (pvF 1) (pvF 4) (nomark _))))))))))), ?_⟩
    walk_at "rd"
    intro p H1 n1 S1 h1
    walk_at "rd"
    obtain ⟨Mid, pin, pout⟩ := opaq (fun σ' H' => Same H1 H' ∧ ((∃ x t b o, v = .str x ∧ x.length ≤ 1000000 ∧ Good (sg x) t b ∧ H' o = some (.tup [.int t, .int b]) ∧ σ' = [some v, some (.ref o), some (.ref p), none, none]) ∨ (∃ r, NoGood H v ∧ H' r = some (.tup [.bl true, .bl false]) ∧ σ' = [some v, some .non, some (.ref r), none, none])))
    refine ⟨Mid, ?_, ?_⟩
    · walk_at "rd"
      by_cases hg : ∃ x t b, v = .str x ∧ x.length ≤ 1000000 ∧ Good (sg x) t b
      · obtain ⟨x, t, b, rfl, xl, good⟩ := hg
        refine .inl ⟨t, b, good, ?_⟩
        rintro _ H2 ⟨o, rfl, n2, S2, h2⟩
        exact pin _ _ ⟨S2, .inl ⟨x, t, b, o, rfl, xl, good, h2, rfl⟩⟩
      · have ng : NoGood H v := by
          rcases g with ⟨x, rfl, xl⟩ | g
          · exact .inl ⟨x, rfl, xl, fun t b good => hg ⟨x, t, b, rfl, xl, good⟩⟩
          · exact .inr g
        have ng1 : NoGood H1 v := by
          rcases ng with z | ⟨ty, z, ne⟩
          · exact .inl z
          · exact .inr ⟨ty, tyNm_same S1 z, ne⟩
        refine .inr ⟨ng1, fun H2 S2 => ?_⟩
        refine ⟨T.s_NoText_MixError, fun e H3 n3 S3 h3 => ?_⟩
        refine isx h3 T.q_NoText T.k_NoText_NoText ?_
        walk_at "rd"
        refine isxT h3 T.q_NoText T.k_NoText_ValueError ?_
        refine ⟨h3, fun r H4 n4 S4 h4 => ?_⟩
        exact pin _ _ ⟨fun c u e => S4 _ _ (S3 _ _ (S2 _ _ e)), .inr ⟨r, ng, h4, rfl⟩⟩
    · intro σ' H' hm
      replace hm := pout _ _ hm
      obtain ⟨S2, hm⟩ := hm
      clear pin pout
      rcases hm with ⟨x, t, b, o, rfl, xl, good, ho, rfl⟩ | ⟨r, ng, hr', rfl⟩
      · walk_at "rd"
        refine ⟨fun σ2 H2 => ∃ d, Same H' H2 ∧ H2 d = some (.tup [.int t, .int b]) ∧ σ2 = [some (.str x), some (.ref o), some (.ref p), none, some (.ref d)], ?_, ?_⟩
        · walk_at "rd"
          refine ⟨xl, fun t1 b1 g1 => ?_, fun z => z _ _ good⟩
          obtain ⟨rfl, rfl⟩ := good_unique g1 good
          rintro _ H2 ⟨d, rfl, n3, S3, h3⟩
          exact ⟨d, S3, h3, rfl⟩
        · rintro σ2 H2 ⟨d, S3, hd, rfl⟩
          have ho2 := S3 _ _ ho
          walk_at "rd*"
          rw [if_neg (by decide)]
          refine eqT_ints (ns := [t, b]) (ms := [t, b]) (SqT.of ho2) (SqT.of hd) ?_
          rw [decide_eq_true rfl]
          exact k _ _ ⟨rfl, fun c u e => S3 _ _ (S2 _ _ (S1 _ _ e))⟩
      · walk_at "rd"
        refine ⟨fun σ2 H2 => Same H' H2 ∧ σ2 = [some v, some .non, some (.ref r), none, some .non], ?_, ?_⟩
        · walk_at "rd"
          rcases ng with ⟨x, rfl, xl, ng⟩ | ⟨ty, hty, hne⟩
          · refine ⟨.str, rfl, ?_⟩
            rw [if_pos rfl]
            exact ⟨xl, fun t b g => absurd g (ng t b), fun _ _ _ e => e⟩
          · refine ⟨ty, tyNm_same S2 (tyNm_same S1 hty), ?_⟩
            rw [if_neg hne]
            exact fun _ _ e => e
        · rintro σ2 H2 ⟨S3, rfl⟩
          have hr2 := S3 _ _ hr'
          walk_at "rd*"
          intro q H3 n3 S4 h3
          have hr3 := S4 _ _ hr2
          walk_at "rd*"
          refine ⟨_, _, .tup (SqT.of hr3) (.cons (.bl _) (.cons (.bl _) .nil)), .tup (SqT.of h3) (.cons (.bl _) (.cons (.bl _) .nil)), by decide, by decide, ?_⟩
          rw [show (PyData.tuple [PyData.bool true, PyData.bool false]).eqv (PyData.tuple [PyData.bool true, PyData.bool false]) = true by decide +kernel]
          exact k _ _ ⟨rfl, fun c u e => S4 _ _ (S3 _ _ (S2 _ _ (S1 _ _ e)))⟩
theorem ok_cell (T : Tx K mg A) : FnOk P w K mg base CX0 1 A.f_law_cell_at A.fd_law_cell_at ["_law_script", "_law_k"] (spCell K) := by
  refine T.F_law_cell_at.ok sc_law_cell_at (fun vs H Q E h => ?_) (fun cdv A' outer s H vs Q E hr h => ?_)
  · match vs, h with
    | [.ref a, .int k], _ => rfl
  · match vs, h with
    | [.ref a, .int k], ⟨ns, hS, hk, q⟩ =>
    have hu := hr.units
    refine ⟨_, (pss_cons (ps_if (pt_cmpF of_lt (pvF 1) (pe_callB call_lenKF (by rfl) T.z_len boot_len (pa_cons (pvF 0) pa_nil)) (nomark _))
      (pss_one (ps_ret (pe_ix ix_S (pvF 0) (pvF 1) (fun _ _ => rfl))))
      pss_nil)
      (pss_one (ps_ret pe_int))), ?_⟩
    walk_at "rd"
    refine ⟨_, hS, ?_⟩
    rw [List.length_map]
    split
    · rename_i h
      exact ⟨_, hS, hk, h, q⟩
    · rename_i h
      obtain ⟨j, rfl⟩ := Int.eq_ofNat_of_zero_le hk
      rw [List.getD_eq_getElem?_getD, List.getElem?_eq_none (by omega)] at q
      exact q
theorem ok_fr (T : Tx K mg A) : FnOk P w K mg base CX0 2 A.f_law_fraction A.fd_law_fraction ["_law_cell", "_law_other_here"] spFr := by
  have G_law_divisor : FnOk P w K mg base CX0 1 _ _ _ _ := ok_ldivisor T
  refine T.F_law_fraction.ok sc_law_fraction (fun vs H Q E h => ?_) (fun cdv A' outer s H vs Q E hr h => ?_)
  · match vs, h with
    | [.int c, .int d], _ => rfl
  · match vs, h with
    | [.int c, .int d], ⟨hc, hd, k⟩ =>
    have hu := hr.units
    have hr_law_divisor : Room 1 _ := hr.mono (by decide)
    refine ⟨_, (pss_cons (ps_set (i := 2) sc_law_fraction.nd rfl (Or.inl rfl) (pe_op of_mod (pe_op op_mulM (pvF 0) pe_int) pe_int))
      (pss_pause (ps_set (i := 3) sc_law_fraction.nd rfl (Or.inl rfl) (pe_op of_sub (pe_op of_mod (pe_op of_fdiv (pvF 2) pe_int) pe_int) pe_int))
      (pss_cons (ps_set (i := 4) sc_law_fraction.nd rfl (Or.inl rfl) (pe_op op_addM pe_int (pe_op of_mod (pe_op of_mod (pe_op op_mulM (pvF 1) pe_int) pe_int) pe_int)))
      (pss_cut (ps_if (pt_cmpF (op_eqM hu) (pe_op of_mod (pvF 2) pe_int) pe_int (nomark _))
      (pss_cons (ps_set (i := 3) sc_law_fraction.nd rfl (Or.inl rfl) (pe_op op_addM (pe_op of_sub (pe_op of_mod (pe_op op_mulM (pvF 0) pe_int) (pe_op of_sub (pe_op op_mulM pe_int (pe_op of_pow pe_int pe_int)) pe_int)) (pe_op of_pow pe_int pe_int)) pe_int))
      (pss_one (ps_set (i := 4) sc_law_fraction.nd rfl (Or.inl rfl) (pe_op op_addM pe_int (pe_op of_mod (pe_op op_mulM (pvF 1) pe_int) (pe_op of_sub (pe_op of_pow pe_int pe_int) pe_int))))))
      pss_nil)
      (pss_cut (ps_if (pt_cmpF (op_eqM hu) (pe_op of_mod (pvF 2) pe_int) pe_int (nomark _))
      (pss_cons (ps_set (i := 3) sc_law_fraction.nd rfl (Or.inl rfl) (pe_op op_mulM (pvF 0) pe_int))
      (pss_cons (ps_set (i := 3) sc_law_fraction.nd rfl (Or.inl rfl) (pe_op op_addM (pe_op of_sub (pe_op of_mod (pvF 3) (pe_op of_sub (pe_op op_mulM pe_int (pe_op of_pow pe_int pe_int)) pe_int)) (pe_op of_pow pe_int pe_int)) pe_int))
      (pss_cons (ps_set (i := 4) sc_law_fraction.nd rfl (Or.inl rfl) (pe_op op_mulM (pvF 1) pe_int))
      (pss_one (ps_set (i := 4) sc_law_fraction.nd rfl (Or.inl rfl) (pe_op op_addM pe_int (pe_op of_mod (pvF 4) (pe_op of_sub (pe_op of_pow pe_int pe_int) pe_int))))))))
      pss_nil)
      (pss_cons (ps_set (i := 5) sc_law_fraction.nd rfl (Or.inl rfl) (pe_call G_law_divisor hr_law_divisor (by rfl) T.m_law_divisor T.F_law_divisor.kp T.b_law_divisor .nil pass0 (pa_cons (pvF 3) (pa_cons (pvF 4) pa_nil))))
      (pss_one (ps_ret (pe_tupS (pa_cons (pe_op of_fdiv (pvF 3) (pvF 5)) (pa_cons (pe_op of_fdiv (pvF 4) (pvF 5)) pa_nil))))))))))), ?_⟩
    walk_at "rd"
    refine ⟨by walk_at "mul", ⟨by decide, by decide⟩, Stop.go ?_⟩
    walk_at "rd"
    have f1 := fm_bnd (((c * 48271).fmod 999983).fdiv 4) (b := 41) (by decide)
    have f2 := fm_bnd ((d * 16807).fmod 999979) (b := 24) (by decide)
    have f3 := fm_bnd (c * 618033988749894848204587) (b := 1999999999) (by decide)
    have f4 := fm_bnd (d * 414213562373095048801689) (b := 999999999) (by decide)
    have m1 : IntMulOk c 618033988749894848204587 := by walk_at "mul"
    have m2 : IntMulOk d 414213562373095048801689 := by walk_at "mul"
    have f5 := fm_bnd (c * 61803398874989484820458683436563811772030917980576286213) (b := 1999999999999999999999999999999999999999999999999999999999999) (by decide)
    have f6 := fm_bnd (d * 41421356237309504880168872420969807856967187537694807317) (b := 999999999999999999999999999999999999999999999999999999999999) (by decide)
    have m3 : IntMulOk c 61803398874989484820458683436563811772030917980576286213 := by walk_at "mul"
    have m4 : IntMulOk d 41421356237309504880168872420969807856967187537694807317 := by walk_at "mul"
    refine ⟨by walk_at "mul", ?_⟩
    obtain ⟨Mid, pin, pout⟩ := opaq (fun σ' H' => ∃ t b, σ' = [some (.int c), some (.int d), some (.int ((c * 48271).fmod 999983)), some (.int t), some (.int b), none] ∧ H' = H ∧ -1000000000000000000000000000000000000000000000000000000000000 ≤ t ∧ t ≤ 1000000000000000000000000000000000000000000000000000000000000 ∧ 1 ≤ b ∧ b ≤ 1000000000000000000000000000000000000000000000000000000000000)
    refine ⟨Mid, ?_, ?_⟩
    · walk_at "rd"
      split
      · exact ⟨m1, by decide, by walk_at "mul", by decide, m2, by decide, pin _ _ ⟨_, _, rfl, rfl, by omega, by omega, by omega, by omega⟩⟩
      · exact pin _ _ ⟨_, _, rfl, rfl, by omega, by omega, by omega, by omega⟩
    · intro σ' H' hm
      obtain ⟨t, b, rfl, rfl, b1, b2, b3, b4⟩ := pout _ _ hm
      refine ⟨Mid, ?_, ?_⟩
      · walk_at "rd"
        split
        · exact ⟨m3, by decide, by walk_at "mul", by decide, m4, by decide, pin _ _ ⟨_, _, rfl, rfl, by omega, by omega, by omega, by omega⟩⟩
        · exact pin _ _ ⟨_, _, rfl, rfl, by omega, by omega, by omega, by omega⟩
      · intro σ' H' hm
        obtain ⟨t, b, rfl, rfl, b1, b2, b3, b4⟩ := pout _ _ hm
        walk_at "rd"
        have hb : b ≠ 0 := by omega
        have bt : intBits t ≤ 210 := intBits_le_iff.mpr (Nat.lt_of_le_of_lt (by omega : t.natAbs ≤ 1000000000000000000000000000000000000000000000000000000000000) (by decide))
        have bb : intBits b ≤ 210 := intBits_le_iff.mpr (Nat.lt_of_le_of_lt (by omega : b.natAbs ≤ 1000000000000000000000000000000000000000000000000000000000000) (by decide))
        have hg : intBits (Int.gcd t b : Int) ≤ 210 := by
          rw [Int.gcd_comm]
          exact bits_gcd hb bb
        have hp : 0 < Int.gcd t b := Int.gcd_pos_of_ne_zero_right t hb
        have hc : CFd t (Int.gcd t b : Int) := ⟨by omega, Nat.le_trans hg (by decide)⟩
        have e1 := num_of (t := t) hb
        have e2 := den_of (t := t) hb
        rw [if_neg (by omega)] at e1 e2
        refine ⟨hc, hc, fun p H1 n1 S1 h1 => k _ _ ⟨Rat.divInt t b, p, rfl, n1, S1, ?_, bits_num hb bt, bits_den hb bb⟩⟩
        rw [h1, e1, e2]
        rfl
theorem ok_spoilt (T : Tx K mg A) : FnOk P w K mg base CX0 1 A.f_law_spoilt A.fd_law_spoilt ["_law_text", "_law_one", "_law_cell"] spSpoilt := by
  refine T.F_law_spoilt.ok sc_law_spoilt (fun vs H Q E h => ?_) (fun cdv A' outer s H vs Q E hr h => ?_)
  · match vs, h with
    | [.str x, .ref p, .int c], _ => rfl
  · match vs, h with
    | [.str x, .ref p, .int c], ⟨t, b, xl, hp, bt, bb, c0, c1, k⟩ =>
    have hu := hr.units
    refine ⟨_, (pss_cons (ps_set (i := 3) sc_law_spoilt.nd rfl (Or.inl rfl) (pe_ix ix_M pe_str (pe_op of_mod (pe_op of_fdiv (pvF 2) pe_int) pe_int) (fun _ _ => rfl)))
      (pss_pause (ps_set (i := 4) sc_law_spoilt.nd rfl (Or.inl rfl) (pe_op of_mod (pe_op of_fdiv (pvF 2) pe_int) (pe_op op_addM (pe_callB call_lenM (by rfl) T.z_len boot_len (pa_cons (pvF 0) pa_nil)) pe_int)))
      (pss_cons (ps_if (pt_cmpF (op_eqM hu) (pe_op of_mod (pvF 2) pe_int) pe_int (nomark _))
      (pss_one (ps_ret (pe_op op_addM (pe_op op_addM (pe_slice sl_A (pvF 0) po_none (po_someF (pvF 4))) (pvF 3)) (pe_slice sl_A (pvF 0) (po_someF (pvF 4)) po_none))))
      pss_nil)
      (pss_cons (ps_if (pt_cmpF (op_eqM hu) (pe_op of_mod (pvF 2) pe_int) pe_int (nomark _))
      (pss_one (ps_ret (pe_op op_addM (pe_slice sl_A (pvF 0) po_none (po_someF (pvF 4))) (pe_slice sl_A (pvF 0) (po_someF (pe_op op_addM (pvF 4) pe_int)) po_none))))
      pss_nil)
      (pss_cons (ps_if (pt_cmpF (op_eqM hu) (pe_op of_mod (pvF 2) pe_int) pe_int (nomark _))
      (pss_one (ps_ret (pe_op op_addM (pe_op op_addM (pe_slice sl_A (pvF 0) po_none (po_someF (pvF 4))) (pvF 3)) (pe_slice sl_A (pvF 0) (po_someF (pe_op op_addM (pvF 4) pe_int)) po_none))))
      pss_nil)
      (pss_cons (ps_set (i := 5) sc_law_spoilt.nd rfl (Or.inl rfl) (pe_op op_addM pe_int (pe_op of_mod (pe_op of_fdiv (pvF 2) pe_int) pe_int)))
      (pss_cons (ps_set (i := 6) sc_law_spoilt.nd rfl (Or.inl rfl) (pe_lstS (pa_cons (pe_op op_addM (pe_op op_addM (pe_callTy call_strF (by rfl) T.z_str boot_str (pa_cons (pe_op op_mulM (pe_ix ix_M (pvF 1) pe_int (fun _ _ => rfl)) (pvF 5)) pa_nil)) pe_str) (pe_callTy call_strF (by rfl) T.z_str boot_str (pa_cons (pe_op op_mulM (pe_ix ix_M (pvF 1) pe_int (fun _ _ => rfl)) (pvF 5)) pa_nil))) (pa_cons pe_str (pa_cons pe_str pa_nil)))))
      (pss_cons (ps_set (i := 6) sc_law_spoilt.nd rfl (Or.inl rfl) (pe_op op_addM (pvF 6) (pe_lstS (pa_cons pe_str (pa_cons pe_str (pa_cons (pe_op op_addM pe_str (pe_callTy call_strF (by rfl) T.z_str boot_str (pa_cons (pvF 5) pa_nil))) (pa_cons pe_str (pa_cons pe_str pa_nil))))))))
      (pss_one (ps_ret (pe_ix ix_M (pvF 6) (pe_op of_mod (pe_op of_fdiv (pvF 2) pe_int) pe_int) (fun _ _ => rfl)))))))))))), ?_⟩
    walk_at "rd"
    have s18 := fm_bnd (c.fdiv 4) (b := 18) (by decide)
    obtain ⟨sn, hsn⟩ : ∃ y, atI (Str.ofString "0123456789/-+. _a\n").cps.toList ((c.fdiv 4).fmod 18) = some y := by
      generalize (c.fdiv 4).fmod 18 = i at s18
      obtain ⟨s1, s2⟩ := s18
      have : i = 0 ∨ i = 1 ∨ i = 2 ∨ i = 3 ∨ i = 4 ∨ i = 5 ∨ i = 6 ∨ i = 7 ∨ i = 8 ∨ i = 9 ∨ i = 10 ∨ i = 11 ∨ i = 12 ∨ i = 13 ∨ i = 14 ∨ i = 15 ∨ i = 16 ∨ i = 17 := by omega
      rcases this with rfl | rfl | rfl | rfl | rfl | rfl | rfl | rfl | rfl | rfl | rfl | rfl | rfl | rfl | rfl | rfl | rfl | rfl <;> exact ⟨_, rfl⟩
    have sl : (500 : Nat) ≤ sizeLine := by decide
    refine ⟨⟨by decide, by decide⟩, by decide, sn, hsn, ⟨by decide, by decide⟩, by omega, by omega, Stop.go ?_⟩
    have a1 := fm_bnd (c.fdiv 72) (b := (x.length : Int) + 1) (by omega)
    have la : ∀ x y : Str, (x ++ y).length = x.length + y.length := fun x y => by rw [← sg_len, sg_append, List.length_append, sg_len, sg_len]
    have l1 := Txt.slice_le x none (some ((c.fdiv 72).fmod ((x.length : Int) + 1)))
    have l2 := Txt.slice_le x (some ((c.fdiv 72).fmod ((x.length : Int) + 1))) none
    have l3 := Txt.slice_le x (some ((c.fdiv 72).fmod ((x.length : Int) + 1) + 1)) none
    have ls : ({ cps := #[sn] } : Str).length = 1 := rfl
    have sl2 : (1000 : Nat) * 1000 ≤ sizeLine := by decide
    walk_at "rd"
    split
    · exact ⟨by omega, by omega, by omega, by rw [la]; omega, k _ _ ⟨⟨_, rfl, by rw [la, la]; omega⟩, .refl _⟩⟩
    split
    · exact ⟨by omega, by omega, by omega, k _ _ ⟨⟨_, rfl, by rw [la]; omega⟩, .refl _⟩⟩
    split
    · exact ⟨by omega, by omega, by omega, by rw [la]; omega, k _ _ ⟨⟨_, rfl, by rw [la, la]; omega⟩, .refl _⟩⟩
    have s2 := fm_bnd (c.fdiv 4) (b := 2) (by decide)
    rw [hp]
    walk_at "rd"
    refine ⟨⟨by decide, by decide⟩, ?_⟩
    generalize (c.fdiv 4).fmod 2 = e at s2 ⊢
    have big : ∀ {z : Int}, intBits z ≤ 210 → (z * (2 + e)).natAbs.log2 < 220 := fun {z} h => by
      have h1 := intBits_le_iff.mp h
      have h2 : (2 + e).natAbs ≤ 4 := by omega
      rcases Nat.eq_zero_or_pos (z * (2 + e)).natAbs with q | q
      · rw [q]; decide
      · rw [Nat.log2_lt (by omega), Int.natAbs_mul]
        calc z.natAbs * (2 + e).natAbs ≤ z.natAbs * 4 := Nat.mul_le_mul_left _ h2
          _ < 2 ^ 210 * 4 := by omega
          _ ≤ 2 ^ 220 := by decide
    have mk : ∀ {z : Int}, intBits z ≤ 210 → IntMulOk z (2 + e) := fun {z} h => by
      have h2 : intBits (2 + e) ≤ 3 := intBits_le_iff.mpr (by omega)
      exact IntMulOk.of_right (Nat.le_trans h2 (by decide))
    have ln : ∀ {z : Int}, z.natAbs.log2 < 220 → (Str.ofString (toString z)).length ≤ 222 := fun {z} h => by
      have := txt_len z
      rw [← sg_len, sg_int]
      omega
    have b1 := big bt
    have b2 := big bb
    have n1 := ln b1
    have n2 := ln b2
    have lq : (Str.ofString "/").length = 1 := rfl
    refine ⟨mk bt, by omega, by omega, mk bb, by omega, by rw [la]; omega, by omega, ?_⟩
    intro p1 H1 n1' S1 h1
    walk_at "rd*"
    have b3 : (2 + e).natAbs.log2 < 220 := by
      rw [Nat.log2_lt (by omega)]
      exact Nat.lt_of_lt_of_le (by omega : (2 + e).natAbs < 4) (by decide)
    have n3 := ln b3
    have l0 : (Str.ofString "0/").length = 2 := rfl
    refine ⟨by omega, by omega, by omega, ?_⟩
    intro p2 H2 n2' S2 h2
    walk_at "rd*"
    rw [S2 _ _ h1]
    walk_at "rd"
    refine ⟨by omega, ?_⟩
    intro p3 H3 n3' S3 h3
    walk_at "rd*"
    have s8 := fm_bnd (c.fdiv 8) (b := 8) (by decide)
    refine ⟨⟨by decide, by decide⟩, ?_⟩
    generalize (c.fdiv 8).fmod 8 = i at s8 ⊢
    have SS : Same H H3 := (S1.trans S2).trans S3
    have : i = 0 ∨ i = 1 ∨ i = 2 ∨ i = 3 ∨ i = 4 ∨ i = 5 ∨ i = 6 ∨ i = 7 := by omega
    rcases this with rfl | rfl | rfl | rfl | rfl | rfl | rfl | rfl
    · exact ⟨_, rfl, k _ _ ⟨⟨_, rfl, by rw [la, la]; omega⟩, SS⟩⟩
    · exact ⟨_, rfl, k _ _ ⟨⟨_, rfl, by decide⟩, SS⟩⟩
    · exact ⟨_, rfl, k _ _ ⟨⟨_, rfl, by decide⟩, SS⟩⟩
    · exact ⟨_, rfl, k _ _ ⟨⟨_, rfl, by decide⟩, SS⟩⟩
    · exact ⟨_, rfl, k _ _ ⟨⟨_, rfl, by decide⟩, SS⟩⟩
    · exact ⟨_, rfl, k _ _ ⟨⟨_, rfl, by rw [la]; omega⟩, SS⟩⟩
    · exact ⟨_, rfl, k _ _ ⟨⟨_, rfl, by decide⟩, SS⟩⟩
    · exact ⟨_, rfl, k _ _ ⟨⟨_, rfl, by decide⟩, SS⟩⟩
theorem log_of {z : Int} {n m : Nat} (h : intBits z ≤ n) (hn : n < m) : z.natAbs.log2 < m := by
  have h1 := intBits_le_iff.mp h
  rcases Nat.eq_zero_or_pos z.natAbs with q | q
  · rw [q, show Nat.log2 0 = 0 by decide]; omega
  · rw [Nat.log2_lt (by omega)]
    exact Nat.lt_of_lt_of_le h1 (Nat.pow_le_pow_right (by decide) (by omega))
theorem ok_law (T : Tx K mg A) : FnOk P w K mg base CX0 6 A.f_law A.fd_law ["_law_script"] (spLawOf 63 K) := by
  have G_law_cell_at : FnOk P w K mg base CX0 1 _ _ _ _ := ok_cell T
  have G_law_fraction : FnOk P w K mg base CX0 2 _ _ _ _ := ok_fr T
  have G_law_good : FnOk P w K mg base CX0 4 _ _ _ _ := ok_good T
  have G_law_spoilt : FnOk P w K mg base CX0 1 _ _ _ _ := ok_spoilt T
  have G_fraction_text : FnOk P w K mg base CX0 1 _ _ _ _ := ok_ftext T
  refine T.F_law.ok sc_law (fun vs H Q E h => ?_) (fun cdv A' outer s H vs Q E hr h => ?_)
  · obtain ⟨a, ns, rfl, _⟩ := h
    rfl
  · obtain ⟨a, ns, rfl, hS, hl, hbit, hO, q⟩ := h
    have hu := hr.units
    have hr_law_cell_at : Room 1 _ := hr.mono (by decide)
    have hr_law_fraction : Room 2 _ := hr.mono (by decide)
    have hr_law_good : Room 4 _ := hr.mono (by decide)
    have hr_law_spoilt : Room 1 _ := hr.mono (by decide)
    have hr_fraction_text : Room 1 _ := hr.mono (by decide)
    refine ⟨_, (pss_cons (ps_forW PassesOwn.never rfl (pi_range3F (by rfl) T.z_range (pa_cons pe_int (pa_cons (pe_callB call_lenKF (by rfl) T.z_len boot_len (pa_cons (pvF 0) pa_nil)) (pa_cons pe_int pa_nil)))) (pg_name (i := 1) sc_law.nd rfl (Or.inl rfl))
      (pss_cons (ps_set (i := 2) sc_law.nd rfl (Or.inl rfl) (pe_call G_law_cell_at hr_law_cell_at (by rfl) T.m_law_cell_at T.F_law_cell_at.kp T.b_law_cell_at .nil pass0 (pa_cons (pvF 0) (pa_cons (pe_op op_addM (pvF 1) pe_int) pa_nil))))
      (pss_cons (ps_set (i := 3) sc_law.nd rfl (Or.inl rfl) (pe_call G_law_fraction hr_law_fraction (by rfl) T.m_law_fraction T.F_law_fraction.kp T.b_law_fraction .nil pass0 (pa_cons (pe_ix ix_S (pvF 0) (pvF 1) (fun _ _ => rfl)) (pa_cons (pvF 2) pa_nil))))
      (pss_cons (ps_set (i := 4) sc_law.nd rfl (Or.inl rfl) (pe_call G_fraction_text hr_fraction_text (by rfl) T.m_fraction_text T.F_fraction_text.kp T.b_fraction_text .nil pass0 (pa_cons (pvF 3) pa_nil)))
      (pss_cons (ps_if (pw_or (pt_not (pt_valF (pe_callB (call_isT .str) (by rfl) T.z_isinstance boot_isinstance (pa_cons (pvF 4) (pa_cons (pe_bltn (v := .ty "str") (u := .type "str") (by rfl) T.z_str rfl rfl) pa_nil))))) (pw_or1 (pt_cmpF (op_neM hu) (pvF 4) (pe_op op_addM (pe_op op_addM (pe_callTy call_strF (by rfl) T.z_str boot_str (pa_cons (pe_ix ix_M (pvF 3) pe_int (fun _ _ => rfl)) pa_nil)) pe_str) (pe_callTy call_strF (by rfl) T.z_str boot_str (pa_cons (pe_ix ix_M (pvF 3) pe_int (fun _ _ => rfl)) pa_nil))) (nomark _)))).pt
      (pss_one (ps_ret pe_bl))
      pss_nil)
      (pss_cons (ps_set (i := 5) sc_law.nd rfl (Or.inl rfl) (pe_op of_mod (pe_op op_mulM (pe_op op_addM (pe_ix ix_S (pvF 0) (pvF 1) (fun _ _ => rfl)) (pe_op op_mulM pe_int (pvF 2))) pe_int) pe_int))
      (pss_cons (ps_set (i := 6) sc_law.nd rfl (Or.inl rfl) (pe_ix ix_M (pe_lstS (pa_cons pe_non (pa_cons pe_int (pa_cons (pvF 3) (pa_cons (pe_lstS (pa_cons pe_str pa_nil)) (pa_cons pe_bl (pa_cons pe_dnewS pa_nil))))))) (pe_op of_mod (pvF 5) pe_int) (fun _ _ => rfl)))
      (pss_one (ps_if (pw_or (pt_not (pt_valF (pe_call G_law_good hr_law_good (by rfl) T.m_law_good T.F_law_good.kp T.b_law_good .nil pass0 (pa_cons (pvF 4) pa_nil)))) (pw_or (pt_not (pt_valF (pe_call G_law_good hr_law_good (by rfl) T.m_law_good T.F_law_good.kp T.b_law_good .nil pass0 (pa_cons (pe_call G_law_spoilt hr_law_spoilt (by rfl) T.m_law_spoilt T.F_law_spoilt.kp T.b_law_spoilt .nil pass0 (pa_cons (pvF 4) (pa_cons (pvF 3) (pa_cons (pvF 5) pa_nil)))) pa_nil)))) (pw_or1 (pt_not (pt_valF (pe_call G_law_good hr_law_good (by rfl) T.m_law_good T.F_law_good.kp T.b_law_good .nil pass0 (pa_cons (pvF 6) pa_nil))))))).pt
      (pss_one (ps_ret pe_bl))
      pss_nil)))))))))
      (pss_one (ps_ret pe_bl))), ?_⟩
    walk_at "rd"
    refine ⟨_, hS, ?_⟩
    rw [List.length_map]
    refine ⟨by omega, ?_⟩
    obtain ⟨Pv, pin, pout⟩ := opaqN (fun i σ H' => ∃ (v1 v2 v3 v4 v5 v6 : Option V), σ = [some (.ref a), v1, v2, v3, v4, v5, v6] ∧ Same H H')
    refine forW_range3 Pv (pin _ _ _ ⟨_, _, _, _, _, _, rfl, .refl _⟩) ?_ ?_
    · intro i σ H2 hi hp
      obtain ⟨v1, v2, v3, v4, v5, v6, rfl, S2⟩ := pout _ _ _ hp
      have hS2 := S2.seq hS
      have hb1 := getD_bits hbit
      have hi2 : (0 + (i : Int) * 2) < ns.length := by
        rw [rngN_pos (by decide)] at hi
        split at hi <;> omega
      have hx := hb1 (0 + (i : Int) * 2).toNat
      have hy := hb1 (0 + (i : Int) * 2 + 1).toNat
      obtain ⟨I, eI⟩ : ∃ I : Int, (0 + (i : Int) * 2) = I := ⟨_, rfl⟩
      have hI : 0 ≤ I := by omega
      rw [eI] at hi2 hx hy
      walk_at "rd*"
      refine ⟨ns, hS2, by omega, ns, hS2, by omega, Nat.le_trans hx (by decide), Nat.le_trans hy (by decide), ?_⟩
      rintro _ H3 ⟨y, b3, rfl, n3, S3, h3, by1, by2⟩
      have h3' : H3 b3 = some (.tup [.int y.num, .int (y.den : Nat)]) := h3
      clear h3
      have g1 : y.num.natAbs.log2 < 220 := log_of by1 (by decide)
      have g2 : (y.den : Int).natAbs.log2 < 220 := log_of by2 (by decide)
      walk_at "rd*"
      refine ⟨_, _, ⟨rfl, rfl⟩, by omega, by omega, fun tx htx => ?_⟩
      have etx : tx = Str.ofString (toString y.num) ++ Str.ofString "/" ++ Str.ofString (toString (y.den : Int)) := sg_inj (by rw [htx, sg_append, sg_append, sg_int, sg_int, show sg (Str.ofString "/") = [47] by decide, ftxt, List.append_assoc]; rfl)
      have la : ∀ x y : Str, (x ++ y).length = x.length + y.length := fun x y => by rw [← sg_len, sg_append, List.length_append, sg_len, sg_len]
      have ln : ∀ {z : Int}, z.natAbs.log2 < 220 → (Str.ofString (toString z)).length ≤ 222 := fun {z} h => by
        have := txt_len z
        rw [← sg_len, sg_int]
        omega
      have l1 := ln g1
      have l2 := ln g2
      have lq : (Str.ofString "/").length = 1 := rfl
      have sl2 : (1000 : Nat) * 1000 ≤ sizeLine := by decide
      have ltx : tx.length ≤ 500 := by rw [etx, la, la]; omega
      walk_at "rd*"
      refine ⟨by omega, by omega, by omega, by omega, ns, (S2.trans S3).seq hS, by omega, by walk_at "mul", by walk_at "mul", by omega, ?_⟩
      intro p4 H4 n4 S4 h4
      have fm := fm_bnd ((ns.getD I.toNat 0 + 3 * ns.getD (I + 1).toNat 0) * 69621) (b := 999961) (by decide)
      obtain ⟨m, em⟩ : ∃ m, ((ns.getD I.toNat 0 + 3 * ns.getD (I + 1).toNat 0) * 69621).fmod 999961 = m := ⟨_, rfl⟩
      rw [em] at fm
      walk_at "rd*"
      intro p5 H5 n5 S5 h5
      walk_at "rd*"
      refine ⟨by omega, ?_⟩
      intro p6 H6 n6 S6 h6
      have fm6 := fm_bnd m (b := 6) (by decide)
      obtain ⟨u, eu⟩ : ∃ u, m.fmod 6 = u := ⟨_, rfl⟩
      rw [eu] at fm6
      obtain ⟨od, eo, ho⟩ : ∃ od, atI [.non, .int 1, .ref b3, .ref p4, .bl true, .ref p5] u = some od ∧ ∀ H', Same H6 H' → ∃ ty, tyNm H' od = some ty ∧ ty ≠ .str := by
        have hc : u = 0 ∨ u = 1 ∨ u = 2 ∨ u = 3 ∨ u = 4 ∨ u = 5 := by omega
        rcases hc with rfl | rfl | rfl | rfl | rfl | rfl
        · exact ⟨_, rfl, fun _ _ => ⟨_, rfl, by decide⟩⟩
        · exact ⟨_, rfl, fun _ _ => ⟨_, rfl, by decide⟩⟩
        · exact ⟨_, rfl, fun _ S => ⟨.tup, by simp only [tyNm, S _ _ (S6 _ _ (S5 _ _ (S4 _ _ h3')))], by decide⟩⟩
        · exact ⟨_, rfl, fun _ S => ⟨.lst, by simp only [tyNm, S _ _ (S6 _ _ (S5 _ _ h4))], by decide⟩⟩
        · exact ⟨_, rfl, fun _ _ => ⟨_, rfl, by decide⟩⟩
        · exact ⟨_, rfl, fun _ S => ⟨.dct, by simp only [tyNm, S _ _ (S6 _ _ h5)], by decide⟩⟩
      walk_at "rd*"
      refine ⟨by omega, ?_⟩
      rintro _ H7 ⟨rfl, S7⟩
      have h37 := S7 _ _ (S6 _ _ (S5 _ _ (S4 _ _ h3')))
      walk_at "rd*"
      refine ⟨by omega, _, _, ⟨rfl, rfl⟩, by1, by2, by omega, ?_⟩
      rintro _ H8 ⟨⟨sp, rfl, lsp⟩, S8⟩
      walk_at "rd*"
      rintro _ H9 ⟨rfl, S9⟩
      walk_at "rd*"
      obtain ⟨ty, ty1, ty2⟩ := ho H9 (S7.trans (S8.trans S9))
      refine ⟨Or.inr ⟨ty, ty1, ty2⟩, ?_⟩
      rintro _ H10 ⟨rfl, S10⟩
      walk_at "rd*"
      exact pin _ _ _ ⟨_, _, _, _, _, _, rfl, S2.trans (S3.trans (S4.trans (S5.trans (S6.trans (S7.trans (S8.trans (S9.trans S10)))))))⟩
    · intro σ H2 hp
      walk_at "rd"
      exact q H2
theorem all_mk {l : PySem.W.OpenLaw} {w : World} {K : PySem.W.Frag} {h : Heap} {mg : Str → Option Value} {fa : Addr} (X : K.In h) (G : h.Ns mainGlobals mg) (hfa : mg "law" = some (.ref fa))
    {c_MixError c_NoNumber c_NoText c_NoPart c_NoName c_Twice c_NoBus c_Ring c_NoBlock c_NoRow c_NoDeed : Addr}
    (mc_MixError : PySem.W.nsIn K mainGlobals "MixError" = some (some (.ref c_MixError)))
    (mc_NoNumber : PySem.W.nsIn K mainGlobals "NoNumber" = some (some (.ref c_NoNumber)))
    (mc_NoText : PySem.W.nsIn K mainGlobals "NoText" = some (some (.ref c_NoText)))
    (mc_NoPart : PySem.W.nsIn K mainGlobals "NoPart" = some (some (.ref c_NoPart)))
    (mc_NoName : PySem.W.nsIn K mainGlobals "NoName" = some (some (.ref c_NoName)))
    (mc_Twice : PySem.W.nsIn K mainGlobals "Twice" = some (some (.ref c_Twice)))
    (mc_NoBus : PySem.W.nsIn K mainGlobals "NoBus" = some (some (.ref c_NoBus)))
    (mc_Ring : PySem.W.nsIn K mainGlobals "Ring" = some (some (.ref c_Ring)))
    (mc_NoBlock : PySem.W.nsIn K mainGlobals "NoBlock" = some (some (.ref c_NoBlock)))
    (mc_NoRow : PySem.W.nsIn K mainGlobals "NoRow" = some (some (.ref c_NoRow)))
    (mc_NoDeed : PySem.W.nsIn K mainGlobals "NoDeed" = some (some (.ref c_NoDeed)))
    {f_is_whole : Addr} {od_is_whole an_is_whole : Option Addr} {sl_is_whole : Array (Option Value)} {oc_is_whole kV_is_whole dc_is_whole pm_is_whole cd_is_whole ct_is_whole : Value}
    (a_is_whole : PySem.W.nsIn K mainGlobals "is_whole" = some (some (.ref f_is_whole))) (l_is_whole : K.lookup f_is_whole = some ⟨oc_is_whole, od_is_whole, .func (PySem.W.fnOf "is_whole" "is_whole" (defArgs s_is_whole) (defBody s_is_whole) (defScope s_is_whole) .none kV_is_whole dc_is_whole pm_is_whole an_is_whole cd_is_whole ct_is_whole), sl_is_whole⟩) (c_is_whole : PySem.W.codeIn K cd_is_whole "is_whole" = true) (k_is_whole : PySem.W.keepIn K (.ref f_is_whole) = true)
    {f_is_figures : Addr} {od_is_figures an_is_figures : Option Addr} {sl_is_figures : Array (Option Value)} {oc_is_figures kV_is_figures dc_is_figures pm_is_figures cd_is_figures ct_is_figures : Value}
    (a_is_figures : PySem.W.nsIn K mainGlobals "is_figures" = some (some (.ref f_is_figures))) (l_is_figures : K.lookup f_is_figures = some ⟨oc_is_figures, od_is_figures, .func (PySem.W.fnOf "is_figures" "is_figures" (defArgs s_is_figures) (defBody s_is_figures) (defScope s_is_figures) .none kV_is_figures dc_is_figures pm_is_figures an_is_figures cd_is_figures ct_is_figures), sl_is_figures⟩) (c_is_figures : PySem.W.codeIn K cd_is_figures "is_figures" = true) (k_is_figures : PySem.W.keepIn K (.ref f_is_figures) = true)
    {f_divisor : Addr} {od_divisor an_divisor : Option Addr} {sl_divisor : Array (Option Value)} {oc_divisor kV_divisor dc_divisor pm_divisor cd_divisor ct_divisor : Value}
    (a_divisor : PySem.W.nsIn K mainGlobals "divisor" = some (some (.ref f_divisor))) (l_divisor : K.lookup f_divisor = some ⟨oc_divisor, od_divisor, .func (PySem.W.fnOf "divisor" "divisor" (defArgs s_divisor) (defBody s_divisor) (defScope s_divisor) .none kV_divisor dc_divisor pm_divisor an_divisor cd_divisor ct_divisor), sl_divisor⟩) (c_divisor : PySem.W.codeIn K cd_divisor "divisor" = true) (k_divisor : PySem.W.keepIn K (.ref f_divisor) = true)
    {f_fraction : Addr} {od_fraction an_fraction : Option Addr} {sl_fraction : Array (Option Value)} {oc_fraction kV_fraction dc_fraction pm_fraction cd_fraction ct_fraction : Value}
    (a_fraction : PySem.W.nsIn K mainGlobals "fraction" = some (some (.ref f_fraction))) (l_fraction : K.lookup f_fraction = some ⟨oc_fraction, od_fraction, .func (PySem.W.fnOf "fraction" "fraction" (defArgs s_fraction) (defBody s_fraction) (defScope s_fraction) .none kV_fraction dc_fraction pm_fraction an_fraction cd_fraction ct_fraction), sl_fraction⟩) (c_fraction : PySem.W.codeIn K cd_fraction "fraction" = true) (k_fraction : PySem.W.keepIn K (.ref f_fraction) = true)
    {f_fraction_text : Addr} {od_fraction_text an_fraction_text : Option Addr} {sl_fraction_text : Array (Option Value)} {oc_fraction_text kV_fraction_text dc_fraction_text pm_fraction_text cd_fraction_text ct_fraction_text : Value}
    (a_fraction_text : PySem.W.nsIn K mainGlobals "fraction_text" = some (some (.ref f_fraction_text))) (l_fraction_text : K.lookup f_fraction_text = some ⟨oc_fraction_text, od_fraction_text, .func (PySem.W.fnOf "fraction_text" "fraction_text" (defArgs s_fraction_text) (defBody s_fraction_text) (defScope s_fraction_text) .none kV_fraction_text dc_fraction_text pm_fraction_text an_fraction_text cd_fraction_text ct_fraction_text), sl_fraction_text⟩) (c_fraction_text : PySem.W.codeIn K cd_fraction_text "fraction_text" = true) (k_fraction_text : PySem.W.keepIn K (.ref f_fraction_text) = true)
    {f_read_fraction : Addr} {od_read_fraction an_read_fraction : Option Addr} {sl_read_fraction : Array (Option Value)} {oc_read_fraction kV_read_fraction dc_read_fraction pm_read_fraction cd_read_fraction ct_read_fraction : Value}
    (a_read_fraction : PySem.W.nsIn K mainGlobals "read_fraction" = some (some (.ref f_read_fraction))) (l_read_fraction : K.lookup f_read_fraction = some ⟨oc_read_fraction, od_read_fraction, .func (PySem.W.fnOf "read_fraction" "read_fraction" (defArgs s_read_fraction) (defBody s_read_fraction) (defScope s_read_fraction) .none kV_read_fraction dc_read_fraction pm_read_fraction an_read_fraction cd_read_fraction ct_read_fraction), sl_read_fraction⟩) (c_read_fraction : PySem.W.codeIn K cd_read_fraction "read_fraction" = true) (k_read_fraction : PySem.W.keepIn K (.ref f_read_fraction) = true)
    {f_law_cell_at : Addr} {od_law_cell_at an_law_cell_at : Option Addr} {sl_law_cell_at : Array (Option Value)} {oc_law_cell_at kV_law_cell_at dc_law_cell_at pm_law_cell_at cd_law_cell_at ct_law_cell_at : Value}
    (a_law_cell_at : PySem.W.nsIn K mainGlobals "_law_cell_at" = some (some (.ref f_law_cell_at))) (l_law_cell_at : K.lookup f_law_cell_at = some ⟨oc_law_cell_at, od_law_cell_at, .func (PySem.W.fnOf "_law_cell_at" "_law_cell_at" (defArgs s_law_cell_at) (defBody s_law_cell_at) (defScope s_law_cell_at) .none kV_law_cell_at dc_law_cell_at pm_law_cell_at an_law_cell_at cd_law_cell_at ct_law_cell_at), sl_law_cell_at⟩) (c_law_cell_at : PySem.W.codeIn K cd_law_cell_at "_law_cell_at" = true) (k_law_cell_at : PySem.W.keepIn K (.ref f_law_cell_at) = true)
    {f_law_whole : Addr} {od_law_whole an_law_whole : Option Addr} {sl_law_whole : Array (Option Value)} {oc_law_whole kV_law_whole dc_law_whole pm_law_whole cd_law_whole ct_law_whole : Value}
    (a_law_whole : PySem.W.nsIn K mainGlobals "_law_whole" = some (some (.ref f_law_whole))) (l_law_whole : K.lookup f_law_whole = some ⟨oc_law_whole, od_law_whole, .func (PySem.W.fnOf "_law_whole" "_law_whole" (defArgs s_law_whole) (defBody s_law_whole) (defScope s_law_whole) .none kV_law_whole dc_law_whole pm_law_whole an_law_whole cd_law_whole ct_law_whole), sl_law_whole⟩) (c_law_whole : PySem.W.codeIn K cd_law_whole "_law_whole" = true) (k_law_whole : PySem.W.keepIn K (.ref f_law_whole) = true)
    {f_law_divisor : Addr} {od_law_divisor an_law_divisor : Option Addr} {sl_law_divisor : Array (Option Value)} {oc_law_divisor kV_law_divisor dc_law_divisor pm_law_divisor cd_law_divisor ct_law_divisor : Value}
    (a_law_divisor : PySem.W.nsIn K mainGlobals "_law_divisor" = some (some (.ref f_law_divisor))) (l_law_divisor : K.lookup f_law_divisor = some ⟨oc_law_divisor, od_law_divisor, .func (PySem.W.fnOf "_law_divisor" "_law_divisor" (defArgs s_law_divisor) (defBody s_law_divisor) (defScope s_law_divisor) .none kV_law_divisor dc_law_divisor pm_law_divisor an_law_divisor cd_law_divisor ct_law_divisor), sl_law_divisor⟩) (c_law_divisor : PySem.W.codeIn K cd_law_divisor "_law_divisor" = true) (k_law_divisor : PySem.W.keepIn K (.ref f_law_divisor) = true)
    {f_law_fraction : Addr} {od_law_fraction an_law_fraction : Option Addr} {sl_law_fraction : Array (Option Value)} {oc_law_fraction kV_law_fraction dc_law_fraction pm_law_fraction cd_law_fraction ct_law_fraction : Value}
    (a_law_fraction : PySem.W.nsIn K mainGlobals "_law_fraction" = some (some (.ref f_law_fraction))) (l_law_fraction : K.lookup f_law_fraction = some ⟨oc_law_fraction, od_law_fraction, .func (PySem.W.fnOf "_law_fraction" "_law_fraction" (defArgs s_law_fraction) (defBody s_law_fraction) (defScope s_law_fraction) .none kV_law_fraction dc_law_fraction pm_law_fraction an_law_fraction cd_law_fraction ct_law_fraction), sl_law_fraction⟩) (c_law_fraction : PySem.W.codeIn K cd_law_fraction "_law_fraction" = true) (k_law_fraction : PySem.W.keepIn K (.ref f_law_fraction) = true)
    {f_law_number : Addr} {od_law_number an_law_number : Option Addr} {sl_law_number : Array (Option Value)} {oc_law_number kV_law_number dc_law_number pm_law_number cd_law_number ct_law_number : Value}
    (a_law_number : PySem.W.nsIn K mainGlobals "_law_number" = some (some (.ref f_law_number))) (l_law_number : K.lookup f_law_number = some ⟨oc_law_number, od_law_number, .func (PySem.W.fnOf "_law_number" "_law_number" (defArgs s_law_number) (defBody s_law_number) (defScope s_law_number) .none kV_law_number dc_law_number pm_law_number an_law_number cd_law_number ct_law_number), sl_law_number⟩) (c_law_number : PySem.W.codeIn K cd_law_number "_law_number" = true) (k_law_number : PySem.W.keepIn K (.ref f_law_number) = true)
    {f_law_due : Addr} {od_law_due an_law_due : Option Addr} {sl_law_due : Array (Option Value)} {oc_law_due kV_law_due dc_law_due pm_law_due cd_law_due ct_law_due : Value}
    (a_law_due : PySem.W.nsIn K mainGlobals "_law_due" = some (some (.ref f_law_due))) (l_law_due : K.lookup f_law_due = some ⟨oc_law_due, od_law_due, .func (PySem.W.fnOf "_law_due" "_law_due" (defArgs s_law_due) (defBody s_law_due) (defScope s_law_due) .none kV_law_due dc_law_due pm_law_due an_law_due cd_law_due ct_law_due), sl_law_due⟩) (c_law_due : PySem.W.codeIn K cd_law_due "_law_due" = true) (k_law_due : PySem.W.keepIn K (.ref f_law_due) = true)
    {f_law_spoilt : Addr} {od_law_spoilt an_law_spoilt : Option Addr} {sl_law_spoilt : Array (Option Value)} {oc_law_spoilt kV_law_spoilt dc_law_spoilt pm_law_spoilt cd_law_spoilt ct_law_spoilt : Value}
    (a_law_spoilt : PySem.W.nsIn K mainGlobals "_law_spoilt" = some (some (.ref f_law_spoilt))) (l_law_spoilt : K.lookup f_law_spoilt = some ⟨oc_law_spoilt, od_law_spoilt, .func (PySem.W.fnOf "_law_spoilt" "_law_spoilt" (defArgs s_law_spoilt) (defBody s_law_spoilt) (defScope s_law_spoilt) .none kV_law_spoilt dc_law_spoilt pm_law_spoilt an_law_spoilt cd_law_spoilt ct_law_spoilt), sl_law_spoilt⟩) (c_law_spoilt : PySem.W.codeIn K cd_law_spoilt "_law_spoilt" = true) (k_law_spoilt : PySem.W.keepIn K (.ref f_law_spoilt) = true)
    {f_law_other : Addr} {od_law_other an_law_other : Option Addr} {sl_law_other : Array (Option Value)} {oc_law_other kV_law_other dc_law_other pm_law_other cd_law_other ct_law_other : Value}
    (a_law_other : PySem.W.nsIn K mainGlobals "_law_other" = some (some (.ref f_law_other))) (l_law_other : K.lookup f_law_other = some ⟨oc_law_other, od_law_other, .func (PySem.W.fnOf "_law_other" "_law_other" (defArgs s_law_other) (defBody s_law_other) (defScope s_law_other) .none kV_law_other dc_law_other pm_law_other an_law_other cd_law_other ct_law_other), sl_law_other⟩) (c_law_other : PySem.W.codeIn K cd_law_other "_law_other" = true) (k_law_other : PySem.W.keepIn K (.ref f_law_other) = true)
    {f_law_good : Addr} {od_law_good an_law_good : Option Addr} {sl_law_good : Array (Option Value)} {oc_law_good kV_law_good dc_law_good pm_law_good cd_law_good ct_law_good : Value}
    (a_law_good : PySem.W.nsIn K mainGlobals "_law_good" = some (some (.ref f_law_good))) (l_law_good : K.lookup f_law_good = some ⟨oc_law_good, od_law_good, .func (PySem.W.fnOf "_law_good" "_law_good" (defArgs s_law_good) (defBody s_law_good) (defScope s_law_good) .none kV_law_good dc_law_good pm_law_good an_law_good cd_law_good ct_law_good), sl_law_good⟩) (c_law_good : PySem.W.codeIn K cd_law_good "_law_good" = true) (k_law_good : PySem.W.keepIn K (.ref f_law_good) = true)
    {f_law : Addr} {od_law an_law : Option Addr} {sl_law : Array (Option Value)} {oc_law kV_law dc_law pm_law cd_law ct_law : Value}
    (a_law : PySem.W.nsIn K mainGlobals "law" = some (some (.ref f_law))) (l_law : K.lookup f_law = some ⟨oc_law, od_law, .func (PySem.W.fnOf "law" "law" (defArgs s_law) (defBody s_law) (defScope s_law) .none kV_law dc_law pm_law an_law cd_law ct_law), sl_law⟩) (c_law : PySem.W.codeIn K cd_law "law" = true) (k_law : PySem.W.keepIn K (.ref f_law) = true)
    (z_ValueError : PySem.W.nsIn K mainGlobals "ValueError" = some none)
    (z_abs : PySem.W.nsIn K mainGlobals "abs" = some none)
    (z_bool : PySem.W.nsIn K mainGlobals "bool" = some none)
    (z_int : PySem.W.nsIn K mainGlobals "int" = some none)
    (z_isinstance : PySem.W.nsIn K mainGlobals "isinstance" = some none)
    (z_len : PySem.W.nsIn K mainGlobals "len" = some none)
    (z_range : PySem.W.nsIn K mainGlobals "range" = some none)
    (z_str : PySem.W.nsIn K mainGlobals "str" = some none)
    (z_tuple : PySem.W.nsIn K mainGlobals "tuple" = some none)
    {t_MOST_FIGURES : Tok}
    {t_FIGURES : Tok}
    (x_NoText : PySem.W.excIn K c_NoText vE "ValueError.__new__" = true)
    (q_MixError_ga : PySem.W.findIn K (.ref c_MixError) "__getattribute__" = some (some (.builtin "BaseException.__getattribute__")))
    (q_MixError_cl : PySem.W.findIn K (.ref c_MixError) "__class__" = some (some (.builtin "object.__class__")))
    (q_MixError_ng : PySem.W.findIn K (.ref c_MixError) "__getattr__" = some none)
    (q_MixError_so : PySem.W.subIn K (.ref c_MixError) (.type "object") = some true)
    (q_MixError_sb : PySem.W.subIn K (.ref c_MixError) (.type "BaseException") = some true)
    (q_MixError_ty : PySem.W.typeIn K (.ref c_MixError) = some (.type "type"))
    (q_MixError_ic : PySem.W.isClsIn K c_MixError = true)
    (q_MixError_ss : PySem.W.subIn K (.ref c_MixError) (.ref c_MixError) = some true)
    (q_NoBlock_ga : PySem.W.findIn K (.ref c_NoBlock) "__getattribute__" = some (some (.builtin "BaseException.__getattribute__")))
    (q_NoBlock_cl : PySem.W.findIn K (.ref c_NoBlock) "__class__" = some (some (.builtin "object.__class__")))
    (q_NoBlock_ng : PySem.W.findIn K (.ref c_NoBlock) "__getattr__" = some none)
    (q_NoBlock_so : PySem.W.subIn K (.ref c_NoBlock) (.type "object") = some true)
    (q_NoBlock_sb : PySem.W.subIn K (.ref c_NoBlock) (.type "BaseException") = some true)
    (q_NoBlock_ty : PySem.W.typeIn K (.ref c_NoBlock) = some (.type "type"))
    (q_NoBlock_ic : PySem.W.isClsIn K c_NoBlock = true)
    (q_NoBlock_ss : PySem.W.subIn K (.ref c_NoBlock) (.ref c_NoBlock) = some true)
    (q_NoBus_ga : PySem.W.findIn K (.ref c_NoBus) "__getattribute__" = some (some (.builtin "BaseException.__getattribute__")))
    (q_NoBus_cl : PySem.W.findIn K (.ref c_NoBus) "__class__" = some (some (.builtin "object.__class__")))
    (q_NoBus_ng : PySem.W.findIn K (.ref c_NoBus) "__getattr__" = some none)
    (q_NoBus_so : PySem.W.subIn K (.ref c_NoBus) (.type "object") = some true)
    (q_NoBus_sb : PySem.W.subIn K (.ref c_NoBus) (.type "BaseException") = some true)
    (q_NoBus_ty : PySem.W.typeIn K (.ref c_NoBus) = some (.type "type"))
    (q_NoBus_ic : PySem.W.isClsIn K c_NoBus = true)
    (q_NoBus_ss : PySem.W.subIn K (.ref c_NoBus) (.ref c_NoBus) = some true)
    (q_NoDeed_ga : PySem.W.findIn K (.ref c_NoDeed) "__getattribute__" = some (some (.builtin "BaseException.__getattribute__")))
    (q_NoDeed_cl : PySem.W.findIn K (.ref c_NoDeed) "__class__" = some (some (.builtin "object.__class__")))
    (q_NoDeed_ng : PySem.W.findIn K (.ref c_NoDeed) "__getattr__" = some none)
    (q_NoDeed_so : PySem.W.subIn K (.ref c_NoDeed) (.type "object") = some true)
    (q_NoDeed_sb : PySem.W.subIn K (.ref c_NoDeed) (.type "BaseException") = some true)
    (q_NoDeed_ty : PySem.W.typeIn K (.ref c_NoDeed) = some (.type "type"))
    (q_NoDeed_ic : PySem.W.isClsIn K c_NoDeed = true)
    (q_NoDeed_ss : PySem.W.subIn K (.ref c_NoDeed) (.ref c_NoDeed) = some true)
    (q_NoName_ga : PySem.W.findIn K (.ref c_NoName) "__getattribute__" = some (some (.builtin "BaseException.__getattribute__")))
    (q_NoName_cl : PySem.W.findIn K (.ref c_NoName) "__class__" = some (some (.builtin "object.__class__")))
    (q_NoName_ng : PySem.W.findIn K (.ref c_NoName) "__getattr__" = some none)
    (q_NoName_so : PySem.W.subIn K (.ref c_NoName) (.type "object") = some true)
    (q_NoName_sb : PySem.W.subIn K (.ref c_NoName) (.type "BaseException") = some true)
    (q_NoName_ty : PySem.W.typeIn K (.ref c_NoName) = some (.type "type"))
    (q_NoName_ic : PySem.W.isClsIn K c_NoName = true)
    (q_NoName_ss : PySem.W.subIn K (.ref c_NoName) (.ref c_NoName) = some true)
    (q_NoNumber_ga : PySem.W.findIn K (.ref c_NoNumber) "__getattribute__" = some (some (.builtin "BaseException.__getattribute__")))
    (q_NoNumber_cl : PySem.W.findIn K (.ref c_NoNumber) "__class__" = some (some (.builtin "object.__class__")))
    (q_NoNumber_ng : PySem.W.findIn K (.ref c_NoNumber) "__getattr__" = some none)
    (q_NoNumber_so : PySem.W.subIn K (.ref c_NoNumber) (.type "object") = some true)
    (q_NoNumber_sb : PySem.W.subIn K (.ref c_NoNumber) (.type "BaseException") = some true)
    (q_NoNumber_ty : PySem.W.typeIn K (.ref c_NoNumber) = some (.type "type"))
    (q_NoNumber_ic : PySem.W.isClsIn K c_NoNumber = true)
    (q_NoNumber_ss : PySem.W.subIn K (.ref c_NoNumber) (.ref c_NoNumber) = some true)
    (q_NoPart_ga : PySem.W.findIn K (.ref c_NoPart) "__getattribute__" = some (some (.builtin "BaseException.__getattribute__")))
    (q_NoPart_cl : PySem.W.findIn K (.ref c_NoPart) "__class__" = some (some (.builtin "object.__class__")))
    (q_NoPart_ng : PySem.W.findIn K (.ref c_NoPart) "__getattr__" = some none)
    (q_NoPart_so : PySem.W.subIn K (.ref c_NoPart) (.type "object") = some true)
    (q_NoPart_sb : PySem.W.subIn K (.ref c_NoPart) (.type "BaseException") = some true)
    (q_NoPart_ty : PySem.W.typeIn K (.ref c_NoPart) = some (.type "type"))
    (q_NoPart_ic : PySem.W.isClsIn K c_NoPart = true)
    (q_NoPart_ss : PySem.W.subIn K (.ref c_NoPart) (.ref c_NoPart) = some true)
    (q_NoRow_ga : PySem.W.findIn K (.ref c_NoRow) "__getattribute__" = some (some (.builtin "BaseException.__getattribute__")))
    (q_NoRow_cl : PySem.W.findIn K (.ref c_NoRow) "__class__" = some (some (.builtin "object.__class__")))
    (q_NoRow_ng : PySem.W.findIn K (.ref c_NoRow) "__getattr__" = some none)
    (q_NoRow_so : PySem.W.subIn K (.ref c_NoRow) (.type "object") = some true)
    (q_NoRow_sb : PySem.W.subIn K (.ref c_NoRow) (.type "BaseException") = some true)
    (q_NoRow_ty : PySem.W.typeIn K (.ref c_NoRow) = some (.type "type"))
    (q_NoRow_ic : PySem.W.isClsIn K c_NoRow = true)
    (q_NoRow_ss : PySem.W.subIn K (.ref c_NoRow) (.ref c_NoRow) = some true)
    (q_NoText_ga : PySem.W.findIn K (.ref c_NoText) "__getattribute__" = some (some (.builtin "BaseException.__getattribute__")))
    (q_NoText_cl : PySem.W.findIn K (.ref c_NoText) "__class__" = some (some (.builtin "object.__class__")))
    (q_NoText_ng : PySem.W.findIn K (.ref c_NoText) "__getattr__" = some none)
    (q_NoText_so : PySem.W.subIn K (.ref c_NoText) (.type "object") = some true)
    (q_NoText_sb : PySem.W.subIn K (.ref c_NoText) (.type "BaseException") = some true)
    (q_NoText_ty : PySem.W.typeIn K (.ref c_NoText) = some (.type "type"))
    (q_NoText_ic : PySem.W.isClsIn K c_NoText = true)
    (q_NoText_ss : PySem.W.subIn K (.ref c_NoText) (.ref c_NoText) = some true)
    (q_Ring_ga : PySem.W.findIn K (.ref c_Ring) "__getattribute__" = some (some (.builtin "BaseException.__getattribute__")))
    (q_Ring_cl : PySem.W.findIn K (.ref c_Ring) "__class__" = some (some (.builtin "object.__class__")))
    (q_Ring_ng : PySem.W.findIn K (.ref c_Ring) "__getattr__" = some none)
    (q_Ring_so : PySem.W.subIn K (.ref c_Ring) (.type "object") = some true)
    (q_Ring_sb : PySem.W.subIn K (.ref c_Ring) (.type "BaseException") = some true)
    (q_Ring_ty : PySem.W.typeIn K (.ref c_Ring) = some (.type "type"))
    (q_Ring_ic : PySem.W.isClsIn K c_Ring = true)
    (q_Ring_ss : PySem.W.subIn K (.ref c_Ring) (.ref c_Ring) = some true)
    (q_Twice_ga : PySem.W.findIn K (.ref c_Twice) "__getattribute__" = some (some (.builtin "BaseException.__getattribute__")))
    (q_Twice_cl : PySem.W.findIn K (.ref c_Twice) "__class__" = some (some (.builtin "object.__class__")))
    (q_Twice_ng : PySem.W.findIn K (.ref c_Twice) "__getattr__" = some none)
    (q_Twice_so : PySem.W.subIn K (.ref c_Twice) (.type "object") = some true)
    (q_Twice_sb : PySem.W.subIn K (.ref c_Twice) (.type "BaseException") = some true)
    (q_Twice_ty : PySem.W.typeIn K (.ref c_Twice) = some (.type "type"))
    (q_Twice_ic : PySem.W.isClsIn K c_Twice = true)
    (q_Twice_ss : PySem.W.subIn K (.ref c_Twice) (.ref c_Twice) = some true)
    (k_NoText_MixError : PySem.W.subIn K (.ref c_NoText) (.ref c_MixError) = some true)
    (s_NoText_MixError : PySem.W.subIn K (.ref c_NoText) (.ref c_MixError) = some true)
    (k_NoText_NoBlock : PySem.W.subIn K (.ref c_NoText) (.ref c_NoBlock) = some false)
    (k_NoText_NoBus : PySem.W.subIn K (.ref c_NoText) (.ref c_NoBus) = some false)
    (k_NoText_NoDeed : PySem.W.subIn K (.ref c_NoText) (.ref c_NoDeed) = some false)
    (k_NoText_NoName : PySem.W.subIn K (.ref c_NoText) (.ref c_NoName) = some false)
    (k_NoText_NoNumber : PySem.W.subIn K (.ref c_NoText) (.ref c_NoNumber) = some false)
    (k_NoText_NoPart : PySem.W.subIn K (.ref c_NoText) (.ref c_NoPart) = some false)
    (k_NoText_NoRow : PySem.W.subIn K (.ref c_NoText) (.ref c_NoRow) = some false)
    (k_NoText_NoText : PySem.W.subIn K (.ref c_NoText) (.ref c_NoText) = some true)
    (s_NoText_NoText : PySem.W.subIn K (.ref c_NoText) (.ref c_NoText) = some true)
    (k_NoText_Ring : PySem.W.subIn K (.ref c_NoText) (.ref c_Ring) = some false)
    (k_NoText_Twice : PySem.W.subIn K (.ref c_NoText) (.ref c_Twice) = some false)
    (k_NoText_ValueError : PySem.W.subIn K (.ref c_NoText) (.type "ValueError") = some true)
    (k_None_MixError : PySem.W.subIn K (.type "NoneType") (.ref c_MixError) = some false)
    (k_None_NoBlock : PySem.W.subIn K (.type "NoneType") (.ref c_NoBlock) = some false)
    (k_None_NoBus : PySem.W.subIn K (.type "NoneType") (.ref c_NoBus) = some false)
    (k_None_NoDeed : PySem.W.subIn K (.type "NoneType") (.ref c_NoDeed) = some false)
    (k_None_NoName : PySem.W.subIn K (.type "NoneType") (.ref c_NoName) = some false)
    (k_None_NoNumber : PySem.W.subIn K (.type "NoneType") (.ref c_NoNumber) = some false)
    (k_None_NoPart : PySem.W.subIn K (.type "NoneType") (.ref c_NoPart) = some false)
    (k_None_NoRow : PySem.W.subIn K (.type "NoneType") (.ref c_NoRow) = some false)
    (k_None_NoText : PySem.W.subIn K (.type "NoneType") (.ref c_NoText) = some false)
    (k_None_Ring : PySem.W.subIn K (.type "NoneType") (.ref c_Ring) = some false)
    (k_None_Twice : PySem.W.subIn K (.type "NoneType") (.ref c_Twice) = some false)
    (mk_MOST_FIGURES : PySem.W.nsIn K mainGlobals "MOST_FIGURES" = some (some (.int 9 t_MOST_FIGURES)))
    (mk_FIGURES : PySem.W.nsIn K mainGlobals "FIGURES" = some (some (.str "0123456789" t_FIGURES)))
    : ∃ fd : FuncData, (∀ (s : Shared) (v : Value), BindsTo s fd ⟨[v], []⟩ [("_law_script", v)]) ∧ ∀ base : Heap, K.In base → base.Ns mainGlobals mg → FnOk l.prog w K mg base CX0 6 fa fd ["_law_script"] (spLawOf 63 K) := by
  have e := hfa.symm.trans (PySem.W.mg_of X G a_law)
  cases e
  have F_is_whole := fun_mk (st := s_is_whole) l_is_whole c_is_whole k_is_whole
  have b_is_whole := F_is_whole.binds (ps := ["value"]) fun _ _ _ _ _ _ us hl => match us, hl with | [_], _ => rfl
  have F_is_figures := fun_mk (st := s_is_figures) l_is_figures c_is_figures k_is_figures
  have b_is_figures := F_is_figures.binds (ps := ["text"]) fun _ _ _ _ _ _ us hl => match us, hl with | [_], _ => rfl
  have F_divisor := fun_mk (st := s_divisor) l_divisor c_divisor k_divisor
  have b_divisor := F_divisor.binds (ps := ["one", "other"]) fun _ _ _ _ _ _ us hl => match us, hl with | [_, _], _ => rfl
  have F_fraction := fun_mk (st := s_fraction) l_fraction c_fraction k_fraction
  have b_fraction := F_fraction.binds (ps := ["top", "bottom"]) fun _ _ _ _ _ _ us hl => match us, hl with | [_, _], _ => rfl
  have F_fraction_text := fun_mk (st := s_fraction_text) l_fraction_text c_fraction_text k_fraction_text
  have b_fraction_text := F_fraction_text.binds (ps := ["one"]) fun _ _ _ _ _ _ us hl => match us, hl with | [_], _ => rfl
  have F_read_fraction := fun_mk (st := s_read_fraction) l_read_fraction c_read_fraction k_read_fraction
  have b_read_fraction := F_read_fraction.binds (ps := ["text"]) fun _ _ _ _ _ _ us hl => match us, hl with | [_], _ => rfl
  have F_law_cell_at := fun_mk (st := s_law_cell_at) l_law_cell_at c_law_cell_at k_law_cell_at
  have b_law_cell_at := F_law_cell_at.binds (ps := ["_law_script", "_law_k"]) fun _ _ _ _ _ _ us hl => match us, hl with | [_, _], _ => rfl
  have F_law_whole := fun_mk (st := s_law_whole) l_law_whole c_law_whole k_law_whole
  have b_law_whole := F_law_whole.binds (ps := ["_law_found"]) fun _ _ _ _ _ _ us hl => match us, hl with | [_], _ => rfl
  have F_law_divisor := fun_mk (st := s_law_divisor) l_law_divisor c_law_divisor k_law_divisor
  have b_law_divisor := F_law_divisor.binds (ps := ["_law_one", "_law_other_here"]) fun _ _ _ _ _ _ us hl => match us, hl with | [_, _], _ => rfl
  have F_law_fraction := fun_mk (st := s_law_fraction) l_law_fraction c_law_fraction k_law_fraction
  have b_law_fraction := F_law_fraction.binds (ps := ["_law_cell", "_law_other_here"]) fun _ _ _ _ _ _ us hl => match us, hl with | [_, _], _ => rfl
  have F_law_number := fun_mk (st := s_law_number) l_law_number c_law_number k_law_number
  have b_law_number := F_law_number.binds (ps := ["_law_text"]) fun _ _ _ _ _ _ us hl => match us, hl with | [_], _ => rfl
  have F_law_due := fun_mk (st := s_law_due) l_law_due c_law_due k_law_due
  have b_law_due := F_law_due.binds (ps := ["_law_text"]) fun _ _ _ _ _ _ us hl => match us, hl with | [_], _ => rfl
  have F_law_spoilt := fun_mk (st := s_law_spoilt) l_law_spoilt c_law_spoilt k_law_spoilt
  have b_law_spoilt := F_law_spoilt.binds (ps := ["_law_text", "_law_one", "_law_cell"]) fun _ _ _ _ _ _ us hl => match us, hl with | [_, _, _], _ => rfl
  have F_law_other := fun_mk (st := s_law_other) l_law_other c_law_other k_law_other
  have b_law_other := F_law_other.binds (ps := ["_law_error"]) fun _ _ _ _ _ _ us hl => match us, hl with | [_], _ => rfl
  have F_law_good := fun_mk (st := s_law_good) l_law_good c_law_good k_law_good
  have b_law_good := F_law_good.binds (ps := ["_law_text"]) fun _ _ _ _ _ _ us hl => match us, hl with | [_], _ => rfl
  have F_law := fun_mk (st := s_law) l_law c_law k_law
  have b_law := F_law.binds (ps := ["_law_script"]) fun _ _ _ _ _ _ us hl => match us, hl with | [_], _ => rfl
  have T : Tx K mg ⟨_, _, _, _, _, _, _, _, _, _, _, _, _, _, _, _, _, _, _, _, _, _, _, _, _, _, _, _, _, _, _, _, _, _, _, _, _, _, _, _, _, _, _, _, _⟩ := ⟨F_is_whole, b_is_whole, PySem.W.mg_of X G a_is_whole, F_is_figures, b_is_figures, PySem.W.mg_of X G a_is_figures, F_divisor, b_divisor, PySem.W.mg_of X G a_divisor, F_fraction, b_fraction, PySem.W.mg_of X G a_fraction, F_fraction_text, b_fraction_text, PySem.W.mg_of X G a_fraction_text, F_read_fraction, b_read_fraction, PySem.W.mg_of X G a_read_fraction, F_law_cell_at, b_law_cell_at, PySem.W.mg_of X G a_law_cell_at, F_law_whole, b_law_whole, PySem.W.mg_of X G a_law_whole, F_law_divisor, b_law_divisor, PySem.W.mg_of X G a_law_divisor, F_law_fraction, b_law_fraction, PySem.W.mg_of X G a_law_fraction, F_law_number, b_law_number, PySem.W.mg_of X G a_law_number, F_law_due, b_law_due, PySem.W.mg_of X G a_law_due, F_law_spoilt, b_law_spoilt, PySem.W.mg_of X G a_law_spoilt, F_law_other, b_law_other, PySem.W.mg_of X G a_law_other, F_law_good, b_law_good, PySem.W.mg_of X G a_law_good, F_law, b_law, PySem.W.mg_of X G a_law, PySem.W.mg_none_of X G z_ValueError, PySem.W.mg_none_of X G z_abs, PySem.W.mg_none_of X G z_bool, PySem.W.mg_none_of X G z_int, PySem.W.mg_none_of X G z_isinstance, PySem.W.mg_none_of X G z_len, PySem.W.mg_none_of X G z_range, PySem.W.mg_none_of X G z_str, PySem.W.mg_none_of X G z_tuple, PySem.W.mg_of X G mc_MixError, PySem.W.mg_of X G mc_NoNumber, PySem.W.mg_of X G mc_NoText, PySem.W.mg_of X G mc_NoPart, PySem.W.mg_of X G mc_NoName, PySem.W.mg_of X G mc_Twice, PySem.W.mg_of X G mc_NoBus, PySem.W.mg_of X G mc_Ring, PySem.W.mg_of X G mc_NoBlock, PySem.W.mg_of X G mc_NoRow, PySem.W.mg_of X G mc_NoDeed, ⟨x_NoText⟩, ⟨q_MixError_ga, q_MixError_cl, q_MixError_ng, q_MixError_so, q_MixError_sb, q_MixError_ty, q_MixError_ic, q_MixError_ss⟩, ⟨q_NoBlock_ga, q_NoBlock_cl, q_NoBlock_ng, q_NoBlock_so, q_NoBlock_sb, q_NoBlock_ty, q_NoBlock_ic, q_NoBlock_ss⟩, ⟨q_NoBus_ga, q_NoBus_cl, q_NoBus_ng, q_NoBus_so, q_NoBus_sb, q_NoBus_ty, q_NoBus_ic, q_NoBus_ss⟩, ⟨q_NoDeed_ga, q_NoDeed_cl, q_NoDeed_ng, q_NoDeed_so, q_NoDeed_sb, q_NoDeed_ty, q_NoDeed_ic, q_NoDeed_ss⟩, ⟨q_NoName_ga, q_NoName_cl, q_NoName_ng, q_NoName_so, q_NoName_sb, q_NoName_ty, q_NoName_ic, q_NoName_ss⟩, ⟨q_NoNumber_ga, q_NoNumber_cl, q_NoNumber_ng, q_NoNumber_so, q_NoNumber_sb, q_NoNumber_ty, q_NoNumber_ic, q_NoNumber_ss⟩, ⟨q_NoPart_ga, q_NoPart_cl, q_NoPart_ng, q_NoPart_so, q_NoPart_sb, q_NoPart_ty, q_NoPart_ic, q_NoPart_ss⟩, ⟨q_NoRow_ga, q_NoRow_cl, q_NoRow_ng, q_NoRow_so, q_NoRow_sb, q_NoRow_ty, q_NoRow_ic, q_NoRow_ss⟩, ⟨q_NoText_ga, q_NoText_cl, q_NoText_ng, q_NoText_so, q_NoText_sb, q_NoText_ty, q_NoText_ic, q_NoText_ss⟩, ⟨q_Ring_ga, q_Ring_cl, q_Ring_ng, q_Ring_so, q_Ring_sb, q_Ring_ty, q_Ring_ic, q_Ring_ss⟩, ⟨q_Twice_ga, q_Twice_cl, q_Twice_ng, q_Twice_so, q_Twice_sb, q_Twice_ty, q_Twice_ic, q_Twice_ss⟩, kit_sub k_NoText_MixError ⟨q_NoText_ga, q_NoText_cl, q_NoText_ng, q_NoText_so, q_NoText_sb, q_NoText_ty, q_NoText_ic, q_NoText_ss⟩ ⟨q_MixError_ga, q_MixError_cl, q_MixError_ng, q_MixError_so, q_MixError_sb, q_MixError_ty, q_MixError_ic, q_MixError_ss⟩, s_NoText_MixError, kit_sub k_NoText_NoBlock ⟨q_NoText_ga, q_NoText_cl, q_NoText_ng, q_NoText_so, q_NoText_sb, q_NoText_ty, q_NoText_ic, q_NoText_ss⟩ ⟨q_NoBlock_ga, q_NoBlock_cl, q_NoBlock_ng, q_NoBlock_so, q_NoBlock_sb, q_NoBlock_ty, q_NoBlock_ic, q_NoBlock_ss⟩, kit_sub k_NoText_NoBus ⟨q_NoText_ga, q_NoText_cl, q_NoText_ng, q_NoText_so, q_NoText_sb, q_NoText_ty, q_NoText_ic, q_NoText_ss⟩ ⟨q_NoBus_ga, q_NoBus_cl, q_NoBus_ng, q_NoBus_so, q_NoBus_sb, q_NoBus_ty, q_NoBus_ic, q_NoBus_ss⟩, kit_sub k_NoText_NoDeed ⟨q_NoText_ga, q_NoText_cl, q_NoText_ng, q_NoText_so, q_NoText_sb, q_NoText_ty, q_NoText_ic, q_NoText_ss⟩ ⟨q_NoDeed_ga, q_NoDeed_cl, q_NoDeed_ng, q_NoDeed_so, q_NoDeed_sb, q_NoDeed_ty, q_NoDeed_ic, q_NoDeed_ss⟩, kit_sub k_NoText_NoName ⟨q_NoText_ga, q_NoText_cl, q_NoText_ng, q_NoText_so, q_NoText_sb, q_NoText_ty, q_NoText_ic, q_NoText_ss⟩ ⟨q_NoName_ga, q_NoName_cl, q_NoName_ng, q_NoName_so, q_NoName_sb, q_NoName_ty, q_NoName_ic, q_NoName_ss⟩, kit_sub k_NoText_NoNumber ⟨q_NoText_ga, q_NoText_cl, q_NoText_ng, q_NoText_so, q_NoText_sb, q_NoText_ty, q_NoText_ic, q_NoText_ss⟩ ⟨q_NoNumber_ga, q_NoNumber_cl, q_NoNumber_ng, q_NoNumber_so, q_NoNumber_sb, q_NoNumber_ty, q_NoNumber_ic, q_NoNumber_ss⟩, kit_sub k_NoText_NoPart ⟨q_NoText_ga, q_NoText_cl, q_NoText_ng, q_NoText_so, q_NoText_sb, q_NoText_ty, q_NoText_ic, q_NoText_ss⟩ ⟨q_NoPart_ga, q_NoPart_cl, q_NoPart_ng, q_NoPart_so, q_NoPart_sb, q_NoPart_ty, q_NoPart_ic, q_NoPart_ss⟩, kit_sub k_NoText_NoRow ⟨q_NoText_ga, q_NoText_cl, q_NoText_ng, q_NoText_so, q_NoText_sb, q_NoText_ty, q_NoText_ic, q_NoText_ss⟩ ⟨q_NoRow_ga, q_NoRow_cl, q_NoRow_ng, q_NoRow_so, q_NoRow_sb, q_NoRow_ty, q_NoRow_ic, q_NoRow_ss⟩, kit_sub k_NoText_NoText ⟨q_NoText_ga, q_NoText_cl, q_NoText_ng, q_NoText_so, q_NoText_sb, q_NoText_ty, q_NoText_ic, q_NoText_ss⟩ ⟨q_NoText_ga, q_NoText_cl, q_NoText_ng, q_NoText_so, q_NoText_sb, q_NoText_ty, q_NoText_ic, q_NoText_ss⟩, s_NoText_NoText, kit_sub k_NoText_Ring ⟨q_NoText_ga, q_NoText_cl, q_NoText_ng, q_NoText_so, q_NoText_sb, q_NoText_ty, q_NoText_ic, q_NoText_ss⟩ ⟨q_Ring_ga, q_Ring_cl, q_Ring_ng, q_Ring_so, q_Ring_sb, q_Ring_ty, q_Ring_ic, q_Ring_ss⟩, kit_sub k_NoText_Twice ⟨q_NoText_ga, q_NoText_cl, q_NoText_ng, q_NoText_so, q_NoText_sb, q_NoText_ty, q_NoText_ic, q_NoText_ss⟩ ⟨q_Twice_ga, q_Twice_cl, q_Twice_ng, q_Twice_so, q_Twice_sb, q_Twice_ty, q_Twice_ic, q_Twice_ss⟩, kit_subT k_NoText_ValueError kitMeta_V, kit_subN k_None_MixError ⟨q_MixError_ga, q_MixError_cl, q_MixError_ng, q_MixError_so, q_MixError_sb, q_MixError_ty, q_MixError_ic, q_MixError_ss⟩, kit_subN k_None_NoBlock ⟨q_NoBlock_ga, q_NoBlock_cl, q_NoBlock_ng, q_NoBlock_so, q_NoBlock_sb, q_NoBlock_ty, q_NoBlock_ic, q_NoBlock_ss⟩, kit_subN k_None_NoBus ⟨q_NoBus_ga, q_NoBus_cl, q_NoBus_ng, q_NoBus_so, q_NoBus_sb, q_NoBus_ty, q_NoBus_ic, q_NoBus_ss⟩, kit_subN k_None_NoDeed ⟨q_NoDeed_ga, q_NoDeed_cl, q_NoDeed_ng, q_NoDeed_so, q_NoDeed_sb, q_NoDeed_ty, q_NoDeed_ic, q_NoDeed_ss⟩, kit_subN k_None_NoName ⟨q_NoName_ga, q_NoName_cl, q_NoName_ng, q_NoName_so, q_NoName_sb, q_NoName_ty, q_NoName_ic, q_NoName_ss⟩, kit_subN k_None_NoNumber ⟨q_NoNumber_ga, q_NoNumber_cl, q_NoNumber_ng, q_NoNumber_so, q_NoNumber_sb, q_NoNumber_ty, q_NoNumber_ic, q_NoNumber_ss⟩, kit_subN k_None_NoPart ⟨q_NoPart_ga, q_NoPart_cl, q_NoPart_ng, q_NoPart_so, q_NoPart_sb, q_NoPart_ty, q_NoPart_ic, q_NoPart_ss⟩, kit_subN k_None_NoRow ⟨q_NoRow_ga, q_NoRow_cl, q_NoRow_ng, q_NoRow_so, q_NoRow_sb, q_NoRow_ty, q_NoRow_ic, q_NoRow_ss⟩, kit_subN k_None_NoText ⟨q_NoText_ga, q_NoText_cl, q_NoText_ng, q_NoText_so, q_NoText_sb, q_NoText_ty, q_NoText_ic, q_NoText_ss⟩, kit_subN k_None_Ring ⟨q_Ring_ga, q_Ring_cl, q_Ring_ng, q_Ring_so, q_Ring_sb, q_Ring_ty, q_Ring_ic, q_Ring_ss⟩, kit_subN k_None_Twice ⟨q_Twice_ga, q_Twice_cl, q_Twice_ng, q_Twice_so, q_Twice_sb, q_Twice_ty, q_Twice_ic, q_Twice_ss⟩, (by kernel_rfl), PySem.W.mg_of X G mk_MOST_FIGURES, ⟨_, rfl⟩, PySem.W.mg_of X G mk_FIGURES, ⟨_, rfl⟩⟩
  exact ⟨_, fun s v => .of_eq rfl, fun base _ _ => ok_law T⟩
end My
open PySem PySem.W PyProof.Rows
set_option maxRecDepth 100000 in
set_option maxHeartbeats 0 in
theorem PySem.Challenge.cw_mixbench_k04_texts_of_fractions_holds : PySem.Challenge.rw_mixbench_k04_texts_of_fractions.Holds := by
  w_on; o_law; k_head; (case hw => w_witness2)
  k_fill
  refine L2.walk_ofB (l := PySem.Challenge.rw_mixbench_k04_texts_of_fractions) (k := 6) (x := "_law_script") (CX := fun _ => L2.CX0) rfl rfl ⟨rfl, by decide, by decide⟩ (fun w h Y => PySem.W.kIn_of Y) ?F (fun _ _ _ _ _ z => z)
  case F =>
    intro w mg fa h KX G hmg
    refine' My.all_mk KX G hmg ?mc_MixError ?mc_NoNumber ?mc_NoText ?mc_NoPart ?mc_NoName ?mc_Twice ?mc_NoBus ?mc_Ring ?mc_NoBlock ?mc_NoRow ?mc_NoDeed ?a_is_whole ?l_is_whole ?c_is_whole ?k_is_whole ?a_is_figures ?l_is_figures ?c_is_figures ?k_is_figures ?a_divisor ?l_divisor ?c_divisor ?k_divisor ?a_fraction ?l_fraction ?c_fraction ?k_fraction ?a_fraction_text ?l_fraction_text ?c_fraction_text ?k_fraction_text ?a_read_fraction ?l_read_fraction ?c_read_fraction ?k_read_fraction ?a_law_cell_at ?l_law_cell_at ?c_law_cell_at ?k_law_cell_at ?a_law_whole ?l_law_whole ?c_law_whole ?k_law_whole ?a_law_divisor ?l_law_divisor ?c_law_divisor ?k_law_divisor ?a_law_fraction ?l_law_fraction ?c_law_fraction ?k_law_fraction ?a_law_number ?l_law_number ?c_law_number ?k_law_number ?a_law_due ?l_law_due ?c_law_due ?k_law_due ?a_law_spoilt ?l_law_spoilt ?c_law_spoilt ?k_law_spoilt ?a_law_other ?l_law_other ?c_law_other ?k_law_other ?a_law_good ?l_law_good ?c_law_good ?k_law_good ?a_law ?l_law ?c_law ?k_law ?z_ValueError ?z_abs ?z_bool ?z_int ?z_isinstance ?z_len ?z_range ?z_str ?z_tuple ?x_NoText ?q_MixError_ga ?q_MixError_cl ?q_MixError_ng ?q_MixError_so ?q_MixError_sb ?q_MixError_ty ?q_MixError_ic ?q_MixError_ss ?q_NoBlock_ga ?q_NoBlock_cl ?q_NoBlock_ng ?q_NoBlock_so ?q_NoBlock_sb ?q_NoBlock_ty ?q_NoBlock_ic ?q_NoBlock_ss ?q_NoBus_ga ?q_NoBus_cl ?q_NoBus_ng ?q_NoBus_so ?q_NoBus_sb ?q_NoBus_ty ?q_NoBus_ic ?q_NoBus_ss ?q_NoDeed_ga ?q_NoDeed_cl ?q_NoDeed_ng ?q_NoDeed_so ?q_NoDeed_sb ?q_NoDeed_ty ?q_NoDeed_ic ?q_NoDeed_ss ?q_NoName_ga ?q_NoName_cl ?q_NoName_ng ?q_NoName_so ?q_NoName_sb ?q_NoName_ty ?q_NoName_ic ?q_NoName_ss ?q_NoNumber_ga ?q_NoNumber_cl ?q_NoNumber_ng ?q_NoNumber_so ?q_NoNumber_sb ?q_NoNumber_ty ?q_NoNumber_ic ?q_NoNumber_ss ?q_NoPart_ga ?q_NoPart_cl ?q_NoPart_ng ?q_NoPart_so ?q_NoPart_sb ?q_NoPart_ty ?q_NoPart_ic ?q_NoPart_ss ?q_NoRow_ga ?q_NoRow_cl ?q_NoRow_ng ?q_NoRow_so ?q_NoRow_sb ?q_NoRow_ty ?q_NoRow_ic ?q_NoRow_ss ?q_NoText_ga ?q_NoText_cl ?q_NoText_ng ?q_NoText_so ?q_NoText_sb ?q_NoText_ty ?q_NoText_ic ?q_NoText_ss ?q_Ring_ga ?q_Ring_cl ?q_Ring_ng ?q_Ring_so ?q_Ring_sb ?q_Ring_ty ?q_Ring_ic ?q_Ring_ss ?q_Twice_ga ?q_Twice_cl ?q_Twice_ng ?q_Twice_so ?q_Twice_sb ?q_Twice_ty ?q_Twice_ic ?q_Twice_ss ?k_NoText_MixError ?s_NoText_MixError ?k_NoText_NoBlock ?k_NoText_NoBus ?k_NoText_NoDeed ?k_NoText_NoName ?k_NoText_NoNumber ?k_NoText_NoPart ?k_NoText_NoRow ?k_NoText_NoText ?s_NoText_NoText ?k_NoText_Ring ?k_NoText_Twice ?k_NoText_ValueError ?k_None_MixError ?k_None_NoBlock ?k_None_NoBus ?k_None_NoDeed ?k_None_NoName ?k_None_NoNumber ?k_None_NoPart ?k_None_NoRow ?k_None_NoText ?k_None_Ring ?k_None_Twice ?mk_MOST_FIGURES ?mk_FIGURES
    (case mc_MixError => k_is)
    (case mc_NoNumber => k_is)
    (case mc_NoText => k_is)
    (case mc_NoPart => k_is)
    (case mc_NoName => k_is)
    (case mc_Twice => k_is)
    (case mc_NoBus => k_is)
    (case mc_Ring => k_is)
    (case mc_NoBlock => k_is)
    (case mc_NoRow => k_is)
    (case mc_NoDeed => k_is)
    (case a_is_whole => k_is)
    (case l_is_whole => k_is)
    (case c_is_whole => k_is)
    (case k_is_whole => k_is)
    (case a_is_figures => k_is)
    (case l_is_figures => k_is)
    (case c_is_figures => k_is)
    (case k_is_figures => k_is)
    (case a_divisor => k_is)
    (case l_divisor => k_is)
    (case c_divisor => k_is)
    (case k_divisor => k_is)
    (case a_fraction => k_is)
    (case l_fraction => k_is)
    (case c_fraction => k_is)
    (case k_fraction => k_is)
    (case a_fraction_text => k_is)
    (case l_fraction_text => k_is)
    (case c_fraction_text => k_is)
    (case k_fraction_text => k_is)
    (case a_read_fraction => k_is)
    (case l_read_fraction => k_is)
    (case c_read_fraction => k_is)
    (case k_read_fraction => k_is)
    (case a_law_cell_at => k_is)
    (case l_law_cell_at => k_is)
    (case c_law_cell_at => k_is)
    (case k_law_cell_at => k_is)
    (case a_law_whole => k_is)
    (case l_law_whole => k_is)
    (case c_law_whole => k_is)
    (case k_law_whole => k_is)
    (case a_law_divisor => k_is)
    (case l_law_divisor => k_is)
    (case c_law_divisor => k_is)
    (case k_law_divisor => k_is)
    (case a_law_fraction => k_is)
    (case l_law_fraction => k_is)
    (case c_law_fraction => k_is)
    (case k_law_fraction => k_is)
    (case a_law_number => k_is)
    (case l_law_number => k_is)
    (case c_law_number => k_is)
    (case k_law_number => k_is)
    (case a_law_due => k_is)
    (case l_law_due => k_is)
    (case c_law_due => k_is)
    (case k_law_due => k_is)
    (case a_law_spoilt => k_is)
    (case l_law_spoilt => k_is)
    (case c_law_spoilt => k_is)
    (case k_law_spoilt => k_is)
    (case a_law_other => k_is)
    (case l_law_other => k_is)
    (case c_law_other => k_is)
    (case k_law_other => k_is)
    (case a_law_good => k_is)
    (case l_law_good => k_is)
    (case c_law_good => k_is)
    (case k_law_good => k_is)
    (case a_law => k_is)
    (case l_law => k_is)
    (case c_law => k_is)
    (case k_law => k_is)
    (case z_ValueError => k_is)
    (case z_abs => k_is)
    (case z_bool => k_is)
    (case z_int => k_is)
    (case z_isinstance => k_is)
    (case z_len => k_is)
    (case z_range => k_is)
    (case z_str => k_is)
    (case z_tuple => k_is)
    (case x_NoText => k_exc)
    (case q_MixError_ga => k_is)
    (case q_MixError_cl => k_is)
    (case q_MixError_ng => k_is)
    (case q_MixError_so => k_is)
    (case q_MixError_sb => k_is)
    (case q_MixError_ty => k_is)
    (case q_MixError_ic => k_is)
    (case q_MixError_ss => k_is)
    (case q_NoBlock_ga => k_is)
    (case q_NoBlock_cl => k_is)
    (case q_NoBlock_ng => k_is)
    (case q_NoBlock_so => k_is)
    (case q_NoBlock_sb => k_is)
    (case q_NoBlock_ty => k_is)
    (case q_NoBlock_ic => k_is)
    (case q_NoBlock_ss => k_is)
    (case q_NoBus_ga => k_is)
    (case q_NoBus_cl => k_is)
    (case q_NoBus_ng => k_is)
    (case q_NoBus_so => k_is)
    (case q_NoBus_sb => k_is)
    (case q_NoBus_ty => k_is)
    (case q_NoBus_ic => k_is)
    (case q_NoBus_ss => k_is)
    (case q_NoDeed_ga => k_is)
    (case q_NoDeed_cl => k_is)
    (case q_NoDeed_ng => k_is)
    (case q_NoDeed_so => k_is)
    (case q_NoDeed_sb => k_is)
    (case q_NoDeed_ty => k_is)
    (case q_NoDeed_ic => k_is)
    (case q_NoDeed_ss => k_is)
    (case q_NoName_ga => k_is)
    (case q_NoName_cl => k_is)
    (case q_NoName_ng => k_is)
    (case q_NoName_so => k_is)
    (case q_NoName_sb => k_is)
    (case q_NoName_ty => k_is)
    (case q_NoName_ic => k_is)
    (case q_NoName_ss => k_is)
    (case q_NoNumber_ga => k_is)
    (case q_NoNumber_cl => k_is)
    (case q_NoNumber_ng => k_is)
    (case q_NoNumber_so => k_is)
    (case q_NoNumber_sb => k_is)
    (case q_NoNumber_ty => k_is)
    (case q_NoNumber_ic => k_is)
    (case q_NoNumber_ss => k_is)
    (case q_NoPart_ga => k_is)
    (case q_NoPart_cl => k_is)
    (case q_NoPart_ng => k_is)
    (case q_NoPart_so => k_is)
    (case q_NoPart_sb => k_is)
    (case q_NoPart_ty => k_is)
    (case q_NoPart_ic => k_is)
    (case q_NoPart_ss => k_is)
    (case q_NoRow_ga => k_is)
    (case q_NoRow_cl => k_is)
    (case q_NoRow_ng => k_is)
    (case q_NoRow_so => k_is)
    (case q_NoRow_sb => k_is)
    (case q_NoRow_ty => k_is)
    (case q_NoRow_ic => k_is)
    (case q_NoRow_ss => k_is)
    (case q_NoText_ga => k_is)
    (case q_NoText_cl => k_is)
    (case q_NoText_ng => k_is)
    (case q_NoText_so => k_is)
    (case q_NoText_sb => k_is)
    (case q_NoText_ty => k_is)
    (case q_NoText_ic => k_is)
    (case q_NoText_ss => k_is)
    (case q_Ring_ga => k_is)
    (case q_Ring_cl => k_is)
    (case q_Ring_ng => k_is)
    (case q_Ring_so => k_is)
    (case q_Ring_sb => k_is)
    (case q_Ring_ty => k_is)
    (case q_Ring_ic => k_is)
    (case q_Ring_ss => k_is)
    (case q_Twice_ga => k_is)
    (case q_Twice_cl => k_is)
    (case q_Twice_ng => k_is)
    (case q_Twice_so => k_is)
    (case q_Twice_sb => k_is)
    (case q_Twice_ty => k_is)
    (case q_Twice_ic => k_is)
    (case q_Twice_ss => k_is)
    (case k_NoText_MixError => k_is)
    (case s_NoText_MixError => k_is)
    (case k_NoText_NoBlock => k_is)
    (case k_NoText_NoBus => k_is)
    (case k_NoText_NoDeed => k_is)
    (case k_NoText_NoName => k_is)
    (case k_NoText_NoNumber => k_is)
    (case k_NoText_NoPart => k_is)
    (case k_NoText_NoRow => k_is)
    (case k_NoText_NoText => k_is)
    (case s_NoText_NoText => k_is)
    (case k_NoText_Ring => k_is)
    (case k_NoText_Twice => k_is)
    (case k_NoText_ValueError => k_is)
    (case k_None_MixError => k_is)
    (case k_None_NoBlock => k_is)
    (case k_None_NoBus => k_is)
    (case k_None_NoDeed => k_is)
    (case k_None_NoName => k_is)
    (case k_None_NoNumber => k_is)
    (case k_None_NoPart => k_is)
    (case k_None_NoRow => k_is)
    (case k_None_NoText => k_is)
    (case k_None_Ring => k_is)
    (case k_None_Twice => k_is)
    (case mk_MOST_FIGURES => k_is)
    (case mk_FIGURES => k_is)
